/-
  The program's net, more calls: Detach, Look, Publish.
-/
import Derived.Test.YtodfcpblcpogiaaGreatNetX
import Derived.Deep.DeepCutAuto
namespace Go.Proofs.YtodfcpblcpogiaaGreat
open Go.RowKit

/-- Detach's answer. -/
def detE (A : Nat → Int) (c : Int) : Int := if cliB c = true then (if A c.toNat = -1 then 3 else 0) else 1
def detS (A : Nat → Int) (c : Int) : Nat → Int := if detE A c = 0 then upd A c.toNat (-1) else A

set_option maxHeartbeats 400000 in
theorem detachX_any (b n : Nat) (A H M : Nat → Int) (c : Int) (w : World) (h : XN w b n A H M) :
    Calls Tryz.prog 16 #[.pointer (some ⟨b, 0, none⟩), .int .i64 c] w fun e w' => e = .returned (.int .i64 (detE A c)) ∧ Touch (fun k => k = b) w w' ∧ XN w' b n (detS A c) H M := by
  have hcl := h.closed
  cases hg : cliB c with
  | false =>
    have he : detE A c = 1 := by simp [detE, hg]
    have hX := hide h
    simp only [detS, he]
    clear h he
    go_enter Tryz.func16, Tryz.ntmps16
    go_wp2_with (first
      | (go_at_call 26; refine (isClient_any _ _).mono ?_; rintro e w' ⟨rfl, rfl⟩)
      | (go_at_call 25; refine (check_any _ _ _ hcl).mono ?_; rintro e w' ⟨rfl, rfl⟩))
    go_ret
    exact ⟨rfl, Touch.refl _ _, unhide hX⟩
  | true =>
    obtain ⟨k, rfl, hk⟩ := cli_nat hg
    have hat := h.here k hk
    have hki : (k : Int) < 4 := by omega
    by_cases hA : A k = -1
    · have he : detE A k = 3 := by simp [detE, hg, hA]
      have hX := hide h
      have hA' : (A k == -1) = true := by simp [hA]
      simp only [detS, he]
      clear h he hA
      go_enter Tryz.func16, Tryz.ntmps16
      go_wp2_with (first
        | (go_at_call 26; refine (isClient_any _ _).mono ?_; rintro e w' ⟨rfl, rfl⟩)
        | (go_at_call 25; refine (check_any _ _ _ hcl).mono ?_; rintro e w' ⟨rfl, rfl⟩)
        | (go_at_call 32; refine (away_any _ _ _ _ hat).mono ?_; rintro e w' ⟨rfl, rfl⟩))
      go_ret
      exact ⟨rfl, Touch.refl _ _, unhide hX⟩
    · have he : detE A k = 0 := by simp [detE, hg, hA]
      have hX := hide h
      have hA' : (A k == -1) = false := by simp [hA]
      simp only [detS, he]
      clear h he hA
      go_enter Tryz.func16, Tryz.ntmps16
      go_wp2_with (first
        | (go_at_call 26; refine (isClient_any _ _).mono ?_; rintro e w' ⟨rfl, rfl⟩)
        | (go_at_call 25; refine (check_any _ _ _ hcl).mono ?_; rintro e w' ⟨rfl, rfl⟩)
        | (go_at_call 32; refine (away_any _ _ _ _ hat).mono ?_; rintro e w' ⟨rfl, rfl⟩)
        | (go_at_call 28; refine (waitsX_any b n A H M k hk _ (unhide hX)).mono ?_; rintro e w2 ⟨rfl, ht2⟩))
      have hX2 := (unhide hX).calm ht2
      have hat2 := hX2.here k hk
      have f2 := hX2.fr (86 + k * 31)
      have HX2 := hide hX2
      clear hX2 hat
      go_wp2_with (go_at_call 45; refine (leave_any _ _ _ _ hat2 f2).mono ?_; rintro e w3 ⟨rfl, rfl⟩)
      go_ret
      exact ⟨rfl, (ht2.mono (fun _ _ f => f.elim)).trans (Touch.set1 _ b _ _), (unhide HX2).setAt k hk _ (Or.inl rfl)⟩

/-- A view, as a value. -/
abbrev viewV (a h : Int) : Value := .agg #[.int .i64 a, .int .i64 h, .bool false, .bool false, .bool false]

set_option maxRecDepth 100000 in
set_option maxHeartbeats 1000000 in
theorem view_any (b o : Nat) (a h : Int) (w : World) (h0 : w.cell? ⟨b, o, none⟩ = some (.int .i64 a)) (h1 : w.cell? ⟨b, o + 1, none⟩ = some (.int .i64 h)) (k0 : w.cell? ⟨b, o + 4 + 0 * 13, none⟩ = some (.bool false)) (k1 : w.cell? ⟨b, o + 4 + 1 * 13, none⟩ = some (.bool false)) :
    Calls Tryz.prog 27 #[.pointer (some ⟨b, o, none⟩)] w fun e w' => e = .returned (viewV a h) ∧ Calm w w' := by
  have hb : b < w.heap.size := block_lt_of_cell h0
  go_enter Tryz.func27, Tryz.ntmps27
  go_wp2_with fail
  go_region
  all_goals go_wp2_with fail
  all_goals refine wp_loop_rounds 3 ?_
  all_goals rw [rounds_succ]
  all_goals go_wp2_with (go_at_call 63; refine (hasSlot_any b o 0 false _ (by omega) (by go_simp)).mono ?_; rintro r w2 ⟨rfl, hw2⟩; have hw2 := hw2.symm; subst hw2)
  all_goals rw [rounds_succ]
  all_goals go_wp2_with (go_at_call 63; refine (hasSlot_any b o 1 false _ (by omega) (by go_simp)).mono ?_; rintro r w2 ⟨rfl, hw2⟩; have hw2 := hw2.symm; subst hw2)
  all_goals rw [rounds_succ]
  all_goals go_wp2
  all_goals exact bodyPost_ret (v := viewV a h) (by simp [results, Tryz.results27, go_sem, viewV]) rfl ⟨rfl, (((Touch.refl _ _).alloc _).alloc _).drew⟩

theorem Touch.fresh {S : Nat → Prop} {a b c : World} (h : Calm a b) (t : Touch S b c) (hs : ∀ k, k < a.heap.size → ¬ S k) : Calm a c :=
  ⟨t.os.trans h.os, t.tape.trans h.tape, t.output.trans h.output, Nat.le_trans h.size t.size, fun k hk _ => (t.block k (Nat.lt_of_lt_of_le hk h.size) (hs k hk)).trans (h.block k hk (fun f => f))⟩

def lokA (A : Nat → Int) (c : Int) : Int := if cliB c = true then A c.toNat else 0

set_option maxHeartbeats 400000 in
theorem lookX_no (b n : Nat) (A H M : Nat → Int) (c : Int) (w : World) (h : XN w b n A H M) (hg : cliB c = false) :
    Calls Tryz.prog 10 #[.pointer (some ⟨b, 0, none⟩), .int .i64 c] w fun e w' => e = .returned (.tuple #[viewV 0 0, .int .i64 1]) ∧ Calm w w' := by
  have hcl := h.closed
  have hb := h.lt
  have hcf : chk false = 1 := rfl
  clear h
  go_enter Tryz.func10, Tryz.ntmps10
  go_wp2_with (first
    | (go_at_call 26; refine (isClient_any _ _).mono ?_; rintro e w' ⟨rfl, rfl⟩)
    | (go_at_call 25; refine (check_any _ _ _ (by go_simp)).mono ?_; rintro e w' ⟨rfl, rfl⟩))
  exact bodyPost_ret (v := .tuple #[viewV 0 0, .int .i64 1]) (by simp [results, Tryz.results10, go_sem, viewV]) rfl ⟨rfl, ((Touch.refl _ _).alloc _)⟩

set_option maxRecDepth 100000 in
set_option maxHeartbeats 1000000 in
theorem lookX_ok (b n : Nat) (A H M : Nat → Int) (c : Nat) (w : World) (h : XN w b n A H M) (hc : c < 4) :
    Calls Tryz.prog 10 #[.pointer (some ⟨b, 0, none⟩), .int .i64 c] w fun e w' => e = .returned (.tuple #[viewV (A c) (H c), .int .i64 0]) ∧ Calm w w' := by
  have hcl := h.closed
  have hct : chk true = 0 := rfl
  have hcc : cliB (c : Int) = true := by simp [cliB]; omega
  have hci : (c : Int) < 4 := by omega
  have hbl := h.lt
  have HX := hide h
  clear h
  go_enter Tryz.func10, Tryz.ntmps10
  go_wp2_with (first
    | (go_at_call 26; refine (isClient_any _ _).mono ?_; rw [hcc]; rintro r w2 ⟨rfl, hw2⟩; have hw2 := hw2.symm; subst hw2)
    | (go_at_call 25; refine (check_any _ _ _ (by go_simp)).mono ?_; rintro r w2 ⟨rfl, hw2⟩; have hw2 := hw2.symm; subst hw2))
  obtain ⟨W, hW⟩ : ∃ W, w.alloc (.cells #[.int .i64 0, .int .i64 0, .bool false, .bool false, .bool false] 50) = W := ⟨_, rfl⟩
  have tW : Calm w W := by rw [← hW]; exact (Touch.refl _ _).alloc _
  have CW := (unhide HX).calm tW
  have HBX : Hid (W.heap[w.heap.size]? = some (.cells #[.int .i64 0, .int .i64 0, .bool false, .bool false, .bool false] 50)) := by rw [← hW]; exact heap_alloc_new w _
  have HTW := hide tW
  rw [hW]
  clear hW tW
  refine (view_any b (86 + c * 31) (A c) (H c) W (CW.here c hc) (CW.home c hc) (CW.free c 0 hc (by omega)) (CW.free c 1 hc (by omega))).mono ?_
  rintro r w3 ⟨rfl, ht3⟩
  have hbx := (ht3.block _ (Array.getElem?_eq_some_iff.1 (unhide HBX)).1 (fun f => f)).trans (unhide HBX)
  have HBX3 := hide hbx
  have HT3 := hide ((unhide HTW).trans ht3)
  have c0 : w3.cell? ⟨w.heap.size, 0, none⟩ = some (.int .i64 0) := box_cell hbx 0
  have c1 : w3.cell? ⟨w.heap.size, 1, none⟩ = some (.int .i64 0) := box_cell hbx 1
  have c2 : w3.cell? ⟨w.heap.size, 2, none⟩ = some (.bool false) := box_cell hbx 2
  have c3 : w3.cell? ⟨w.heap.size, 3, none⟩ = some (.bool false) := box_cell hbx 3
  have c4 : w3.cell? ⟨w.heap.size, 4, none⟩ = some (.bool false) := box_cell hbx 4
  clear ht3 CW hbx HBX
  go_wp2_with fail
  obtain ⟨V, hV⟩ : ∃ V, w3.alloc (.cells #[.int .i64 (A c), .int .i64 (H c), .bool false, .bool false, .bool false] 50) = V := ⟨_, rfl⟩
  have tV : Calm w3 V := by rw [← hV]; exact (Touch.refl _ _).alloc _
  have hvx : V.heap[w3.heap.size]? = some (.cells #[.int .i64 (A c), .int .i64 (H c), .bool false, .bool false, .bool false] 50) := by rw [← hV]; exact heap_alloc_new w3 _
  have hzx := (tV.block _ (Array.getElem?_eq_some_iff.1 (unhide HBX3)).1 (fun f => f)).trans (unhide HBX3)
  rw [hV]
  have HV := hide ((unhide HT3).trans tV)
  have hwl : w.heap.size < w3.heap.size := (Array.getElem?_eq_some_iff.1 (unhide HBX3)).1
  obtain ⟨vg, hvg⟩ : ∃ vg, w3.heap.size = vg := ⟨_, rfl⟩
  rw [hvg] at hvx hwl
  rw [hvg]
  obtain ⟨zg, hzg⟩ : ∃ zg, w.heap.size = zg := ⟨_, rfl⟩
  rw [hzg] at hzx hwl
  rw [hzg]
  have HZG : Hid (w.heap.size ≤ zg) := by rw [← hzg]; exact Nat.le_refl _
  clear hV tV c0 c1 c2 c3 c4 HBX3 hvg hzg HTW
  refine (waitsX_any b n A H M c hc _ ((unhide HX).calm (unhide HV))).mono ?_
  rintro r w5 ⟨rfl, ht5⟩
  have hvx5 := (ht5.block _ (Array.getElem?_eq_some_iff.1 hvx).1 (fun f => f)).trans hvx
  have hzx5 := (ht5.block _ (Array.getElem?_eq_some_iff.1 hzx).1 (fun f => f)).trans hzx
  have HT5 := hide ((unhide HV).trans ht5)
  generalize hg3 : A c = p0 at *
  generalize hg4 : H c = p1 at *
  have v0 : w5.cell? ⟨vg, 0, none⟩ = some (.int .i64 p0) := box_cell hvx5 0
  have v1 : w5.cell? ⟨vg, 1, none⟩ = some (.int .i64 p1) := box_cell hvx5 1
  have v2 : w5.cell? ⟨vg, 2, none⟩ = some (.bool false) := box_cell hvx5 2
  have v3 : w5.cell? ⟨vg, 3, none⟩ = some (.bool false) := box_cell hvx5 3
  have v4 : w5.cell? ⟨vg, 4, none⟩ = some (.bool false) := box_cell hvx5 4
  have z0 : w5.cell? ⟨zg, 0, none⟩ = some (.int .i64 0) := box_cell hzx5 0
  have z1 : w5.cell? ⟨zg, 1, none⟩ = some (.int .i64 0) := box_cell hzx5 1
  have z2 : w5.cell? ⟨zg, 2, none⟩ = some (.bool false) := box_cell hzx5 2
  have z3 : w5.cell? ⟨zg, 3, none⟩ = some (.bool false) := box_cell hzx5 3
  have z4 : w5.cell? ⟨zg, 4, none⟩ = some (.bool false) := box_cell hzx5 4
  have vf := box_frozen hvx5
  have zf := box_frozen hzx5
  have hne : zg ≠ vg := by omega
  have hl1 : vg < w5.heap.size := block_lt_of_cell v0
  have hl2 : zg < w5.heap.size := block_lt_of_cell z0
  have HG := hide (And.intro hg3 hg4)
  clear hvx hzx hvx5 hzx5 ht5 HX hg3 hg4
  go_wp2
  obtain ⟨hg3, hg4⟩ := unhide HG
  have hz := unhide HZG
  have hfin : Calm w ((((((w5.setCell ⟨vg, 2, none⟩ (.bool false)).setCell ⟨zg, 0, none⟩ (.int .i64 p0)).setCell ⟨zg, 1, none⟩ (.int .i64 p1)).setCell ⟨zg, 2, none⟩ (.bool false)).setCell ⟨zg, 3, none⟩ (.bool false)).setCell ⟨zg, 4, none⟩ (.bool false)) := Touch.fresh (unhide HT5) (((((((Touch.refl (fun k => k = vg ∨ k = zg) w5).setCell (p := ⟨vg, 2, none⟩) (fun _ => Or.inl rfl) _).setCell (p := ⟨zg, 0, none⟩) (fun _ => Or.inr rfl) _).setCell (p := ⟨zg, 1, none⟩) (fun _ => Or.inr rfl) _).setCell (p := ⟨zg, 2, none⟩) (fun _ => Or.inr rfl) _).setCell (p := ⟨zg, 3, none⟩) (fun _ => Or.inr rfl) _).setCell (p := ⟨zg, 4, none⟩) (fun _ => Or.inr rfl) _) (fun k hk e => by rcases e with e | e <;> omega)
  have y0 : ((((((w5.setCell ⟨vg, 2, none⟩ (.bool false)).setCell ⟨zg, 0, none⟩ (.int .i64 p0)).setCell ⟨zg, 1, none⟩ (.int .i64 p1)).setCell ⟨zg, 2, none⟩ (.bool false)).setCell ⟨zg, 3, none⟩ (.bool false)).setCell ⟨zg, 4, none⟩ (.bool false)).cell? ⟨zg, 0, none⟩ = some (.int .i64 p0) := by go_simp
  have y1 : ((((((w5.setCell ⟨vg, 2, none⟩ (.bool false)).setCell ⟨zg, 0, none⟩ (.int .i64 p0)).setCell ⟨zg, 1, none⟩ (.int .i64 p1)).setCell ⟨zg, 2, none⟩ (.bool false)).setCell ⟨zg, 3, none⟩ (.bool false)).setCell ⟨zg, 4, none⟩ (.bool false)).cell? ⟨zg, 1, none⟩ = some (.int .i64 p1) := by go_simp
  have y2 : ((((((w5.setCell ⟨vg, 2, none⟩ (.bool false)).setCell ⟨zg, 0, none⟩ (.int .i64 p0)).setCell ⟨zg, 1, none⟩ (.int .i64 p1)).setCell ⟨zg, 2, none⟩ (.bool false)).setCell ⟨zg, 3, none⟩ (.bool false)).setCell ⟨zg, 4, none⟩ (.bool false)).cell? ⟨zg, 2, none⟩ = some (.bool false) := by go_simp
  have y3 : ((((((w5.setCell ⟨vg, 2, none⟩ (.bool false)).setCell ⟨zg, 0, none⟩ (.int .i64 p0)).setCell ⟨zg, 1, none⟩ (.int .i64 p1)).setCell ⟨zg, 2, none⟩ (.bool false)).setCell ⟨zg, 3, none⟩ (.bool false)).setCell ⟨zg, 4, none⟩ (.bool false)).cell? ⟨zg, 3, none⟩ = some (.bool false) := by go_simp
  have y4 : ((((((w5.setCell ⟨vg, 2, none⟩ (.bool false)).setCell ⟨zg, 0, none⟩ (.int .i64 p0)).setCell ⟨zg, 1, none⟩ (.int .i64 p1)).setCell ⟨zg, 2, none⟩ (.bool false)).setCell ⟨zg, 3, none⟩ (.bool false)).setCell ⟨zg, 4, none⟩ (.bool false)).cell? ⟨zg, 4, none⟩ = some (.bool false) := by go_simp
  generalize ((((((w5.setCell ⟨vg, 2, none⟩ (.bool false)).setCell ⟨zg, 0, none⟩ (.int .i64 p0)).setCell ⟨zg, 1, none⟩ (.int .i64 p1)).setCell ⟨zg, 2, none⟩ (.bool false)).setCell ⟨zg, 3, none⟩ (.bool false)).setCell ⟨zg, 4, none⟩ (.bool false)) = Z at *
  exact bodyPost_ret (v := .tuple #[viewV p0 p1, .int .i64 0]) (by simp [results, Tryz.results10, go_sem, y0, y1, y2, y3, y4]) rfl ⟨by rw [hg3, hg4], hfin⟩

theorem lookX_any (b n : Nat) (A H M : Nat → Int) (c : Int) (w : World) (h : XN w b n A H M) :
    Calls Tryz.prog 10 #[.pointer (some ⟨b, 0, none⟩), .int .i64 c] w fun e w' => e = .returned (.tuple #[viewV (lokA A c) (lokA H c), .int .i64 (chk (cliB c))]) ∧ Calm w w' := by
  cases hg : cliB c with
  | false =>
    have he : lokA A c = 0 := by simp [lokA, hg]
    have he' : lokA H c = 0 := by simp [lokA, hg]
    rw [he, he']
    exact lookX_no b n A H M c w h hg
  | true =>
    obtain ⟨k, rfl, hk⟩ := cli_nat hg
    have he : lokA A k = A k := by simp [lokA, hg]
    have he' : lokA H k = H k := by simp [lokA, hg]
    rw [he, he']
    exact lookX_ok b n A H M k w h hk

/-- Publish's answers. -/
def pubE (A : Nat → Int) (c : Int) : Int := if cliB c = true then (if A c.toNat = -1 then 3 else 0) else 1
def pubN (A M : Nat → Int) (c : Int) : Int := if pubE A c = 0 then wrap64 (M c.toNat + 1) else 0
def pubS (A M : Nat → Int) (c : Int) : Nat → Int := if pubE A c = 0 then upd M c.toNat (wrap64 (M c.toNat + 1)) else M

end Go.Proofs.YtodfcpblcpogiaaGreat

/-
  LOOK.
-/
import Derived.Test.YtodfcpblcpogiaaUnsX
import Derived.Test.YtodfcpblcpogiaaNnew
namespace Go.Proofs.Ytodfcpblcpogiaa
open Go.RowKit

set_option maxRecDepth 100000 in
set_option maxHeartbeats 1000000 in
theorem view_any (b o : Nat) (at_ home : Int) (u0 u1 : Bool) (w : World) (h0 : w.cell? ⟨b, o, none⟩ = some (int at_)) (h1 : w.cell? ⟨b, o + 1, none⟩ = some (int home)) (h2 : w.cell? ⟨b, o + 4, none⟩ = some (.bool u0)) (h3 : w.cell? ⟨b, o + 4 + 1 * 13, none⟩ = some (.bool u1)) :
    Calls Try.prog 64 #[.pointer (some ⟨b, o, none⟩)] w fun e w' => e = .returned (.agg #[int at_, int home, .bool false, .bool u0, .bool u1]) ∧ Calm w w' := by
  have hb : b < w.heap.size := block_lt_of_cell h0
  have k0 : w.cell? ⟨b, o + 4 + 0 * 13, none⟩ = some (.bool u0) := h2
  go_enter Try.func64, Try.ntmps64
  go_wp2_with fail
  go_region
  all_goals go_wp2_with fail
  all_goals refine wp_loop_rounds 3 ?_
  all_goals rw [rounds_succ]
  all_goals go_wp2_with (go_at_call 60; refine (hasSlot_any b o 0 u0 _ (by omega) (by go_simp)).mono ?_; rintro r w2 ⟨rfl, hw2⟩; have hw2 := hw2.symm; subst hw2)
  all_goals rw [rounds_succ]
  all_goals go_wp2_with (go_at_call 60; refine (hasSlot_any b o 1 u1 _ (by omega) (by go_simp)).mono ?_; rintro r w2 ⟨rfl, hw2⟩; have hw2 := hw2.symm; subst hw2)
  all_goals rw [rounds_succ]
  all_goals go_wp2
  all_goals exact bodyPost_ret (v := .agg #[int at_, int home, .bool false, .bool u0, .bool u1]) (by simp [results, Try.results64, go_sem]) rfl ⟨rfl, (((Touch.refl _ _).alloc _).alloc _).drew⟩

section
variable {w : World} {b : Nat} {ρ : Nat → Option Role} {σ : Net}
set_option maxRecDepth 100000 in
set_option maxHeartbeats 1000000 in
theorem look_ok (h : XN w b ρ σ) {m : Nat} (F : Fit σ m) {c : Nat} (hc : c < 4) :
    Calls Try.prog 29 #[.pointer (some ⟨b, 0, none⟩), int c] w fun e w' => e = .returned (.tuple #[.agg #[int (whr (σ.cl c).here), int (whr (σ.cl c).home), .bool (σ.waits c), .bool ((σ.cl c).used 0), .bool ((σ.cl c).used 1)], int 0]) ∧ Calm w w' := by
  have hcl := h.closed
  have hct : chk true = 0 := rfl
  have hcc : isCli (c : Int) = true := isCli_nat hc
  have hci : (c : Int) < 4 := by omega
  have hbl := h.lt b (by rw [h.net]; simp)
  have C := h.cli c hc
  have HX6 : Hid (∀ y, (σ.cl c).here = some y → y < 6) := fun y hy => Nat.lt_of_lt_of_le ((F.good.clis c hc).here y hy) (size_le F.good.tree)
  have hweq := F.live.waits_eq hc
  have HC := hide C
  have HX := hide h
  clear h C F
  go_enter Try.func29, Try.ntmps29
  go_wp2_with (first
    | (go_at_call 36; refine (isClient_any _ _).mono ?_; rw [hcc]; rintro r w2 ⟨rfl, hw2⟩; have hw2 := hw2.symm; subst hw2)
    | (go_at_call 35; refine (check_any _ _ _ (by go_simp)).mono ?_; rintro r w2 ⟨rfl, hw2⟩; have hw2 := hw2.symm; subst hw2))
  obtain ⟨W, hW⟩ : ∃ W, w.alloc (.cells #[int 0, int 0, .bool false, .bool false, .bool false] 72) = W := ⟨_, rfl⟩
  have tW : Calm w W := by rw [← hW]; exact (Touch.refl _ _).alloc _
  have CW := ((unhide HX).calm tW).cli c hc
  have HBX : Hid (W.heap[w.heap.size]? = some (.cells #[int 0, int 0, .bool false, .bool false, .bool false] 72)) := by rw [← hW]; exact heap_alloc_new w _
  have HTW := hide tW
  rw [hW]
  clear hW tW
  refine (view_any b (86 + c * 31) _ _ _ _ W CW.here CW.home (CW.used 0 (by omega)) (CW.used 1 (by omega))).mono ?_
  rintro r w3 ⟨rfl, ht3⟩
  have hbx := (ht3.block _ (Array.getElem?_eq_some_iff.1 (unhide HBX)).1 (fun f => f)).trans (unhide HBX)
  have HBX3 := hide hbx
  have HT3 := hide ((unhide HTW).trans ht3)
  have c0 : w3.cell? ⟨w.heap.size, 0, none⟩ = some (int 0) := box_cell hbx 0
  have c1 : w3.cell? ⟨w.heap.size, 1, none⟩ = some (int 0) := box_cell hbx 1
  have c2 : w3.cell? ⟨w.heap.size, 2, none⟩ = some (.bool false) := box_cell hbx 2
  have c3 : w3.cell? ⟨w.heap.size, 3, none⟩ = some (.bool false) := box_cell hbx 3
  have c4 : w3.cell? ⟨w.heap.size, 4, none⟩ = some (.bool false) := box_cell hbx 4
  clear ht3 CW hbx HBX
  go_wp2_with fail
  obtain ⟨V, hV⟩ : ∃ V, w3.alloc (.cells #[int (whr (σ.cl c).here), int (whr (σ.cl c).home), .bool false, .bool ((σ.cl c).used 0), .bool ((σ.cl c).used 1)] 72) = V := ⟨_, rfl⟩
  have tV : Calm w3 V := by rw [← hV]; exact (Touch.refl _ _).alloc _
  have hvx : V.heap[w3.heap.size]? = some (.cells #[int (whr (σ.cl c).here), int (whr (σ.cl c).home), .bool false, .bool ((σ.cl c).used 0), .bool ((σ.cl c).used 1)] 72) := by rw [← hV]; exact heap_alloc_new w3 _
  have hzx := (tV.block _ (Array.getElem?_eq_some_iff.1 (unhide HBX3)).1 (fun f => f)).trans (unhide HBX3)
  rw [hV]
  have HV := hide ((unhide HT3).trans tV)
  have hwl : w.heap.size < w3.heap.size := (Array.getElem?_eq_some_iff.1 (unhide HBX3)).1
  obtain ⟨vg, hvg⟩ : ∃ vg, w3.heap.size = vg := ⟨_, rfl⟩
  rw [hvg] at hvx hwl
  rw [hvg]
  obtain ⟨zg, hzg⟩ : ∃ zg, w.heap.size = zg := ⟨_, rfl⟩
  rw [hzg] at hzx hwl
  rw [hzg]
  have HZG : Hid (w.heap.size ≤ zg) := by rw [← hzg]; exact Nat.le_refl _
  clear hV tV c0 c1 c2 c3 c4 HBX3 hvg hzg HTW
  refine (waitsX ((unhide HX).calm (unhide HV)) hc (unhide HX6)).mono ?_
  rw [hweq]
  rintro r w5 ⟨rfl, ht5⟩
  have hvx5 := (ht5.block _ (Array.getElem?_eq_some_iff.1 hvx).1 (fun f => f)).trans hvx
  have hzx5 := (ht5.block _ (Array.getElem?_eq_some_iff.1 hzx).1 (fun f => f)).trans hzx
  have HT5 := hide ((unhide HV).trans ht5)
  generalize hg0 : σ.waits c = wt at *
  generalize hg1 : (σ.cl c).used 0 = u0 at *
  generalize hg2 : (σ.cl c).used 1 = u1 at *
  generalize hg3 : whr (σ.cl c).here = p0 at *
  generalize hg4 : whr (σ.cl c).home = p1 at *
  have v0 : w5.cell? ⟨vg, 0, none⟩ = some (int p0) := box_cell hvx5 0
  have v1 : w5.cell? ⟨vg, 1, none⟩ = some (int p1) := box_cell hvx5 1
  have v2 : w5.cell? ⟨vg, 2, none⟩ = some (.bool false) := box_cell hvx5 2
  have v3 : w5.cell? ⟨vg, 3, none⟩ = some (.bool u0) := box_cell hvx5 3
  have v4 : w5.cell? ⟨vg, 4, none⟩ = some (.bool u1) := box_cell hvx5 4
  have z0 : w5.cell? ⟨zg, 0, none⟩ = some (int 0) := box_cell hzx5 0
  have z1 : w5.cell? ⟨zg, 1, none⟩ = some (int 0) := box_cell hzx5 1
  have z2 : w5.cell? ⟨zg, 2, none⟩ = some (.bool false) := box_cell hzx5 2
  have z3 : w5.cell? ⟨zg, 3, none⟩ = some (.bool false) := box_cell hzx5 3
  have z4 : w5.cell? ⟨zg, 4, none⟩ = some (.bool false) := box_cell hzx5 4
  have vf := box_frozen hvx5
  have zf := box_frozen hzx5
  have hne : zg ≠ vg := by omega
  have hl1 : vg < w5.heap.size := block_lt_of_cell v0
  have hl2 : zg < w5.heap.size := block_lt_of_cell z0
  have HG := hide (And.intro hg0 (And.intro hg1 (And.intro hg2 (And.intro hg3 hg4))))
  clear hvx hzx hvx5 hzx5 ht5 hweq HX HC hg0 hg1 hg2 hg3 hg4
  go_wp2
  obtain ⟨hg0, hg1, hg2, hg3, hg4⟩ := unhide HG
  have hz := unhide HZG
  have hfin : Calm w ((((((w5.setCell ⟨vg, 2, none⟩ (.bool wt)).setCell ⟨zg, 0, none⟩ (int p0)).setCell ⟨zg, 1, none⟩ (int p1)).setCell ⟨zg, 2, none⟩ (.bool wt)).setCell ⟨zg, 3, none⟩ (.bool u0)).setCell ⟨zg, 4, none⟩ (.bool u1)) := Touch.fresh (unhide HT5) (((((((Touch.refl (fun k => k = vg ∨ k = zg) w5).setCell (p := ⟨vg, 2, none⟩) (fun _ => Or.inl rfl) _).setCell (p := ⟨zg, 0, none⟩) (fun _ => Or.inr rfl) _).setCell (p := ⟨zg, 1, none⟩) (fun _ => Or.inr rfl) _).setCell (p := ⟨zg, 2, none⟩) (fun _ => Or.inr rfl) _).setCell (p := ⟨zg, 3, none⟩) (fun _ => Or.inr rfl) _).setCell (p := ⟨zg, 4, none⟩) (fun _ => Or.inr rfl) _) (fun k hk e => by rcases e with e | e <;> omega)
  have y0 : ((((((w5.setCell ⟨vg, 2, none⟩ (.bool wt)).setCell ⟨zg, 0, none⟩ (int p0)).setCell ⟨zg, 1, none⟩ (int p1)).setCell ⟨zg, 2, none⟩ (.bool wt)).setCell ⟨zg, 3, none⟩ (.bool u0)).setCell ⟨zg, 4, none⟩ (.bool u1)).cell? ⟨zg, 0, none⟩ = some (int p0) := by go_simp
  have y1 : ((((((w5.setCell ⟨vg, 2, none⟩ (.bool wt)).setCell ⟨zg, 0, none⟩ (int p0)).setCell ⟨zg, 1, none⟩ (int p1)).setCell ⟨zg, 2, none⟩ (.bool wt)).setCell ⟨zg, 3, none⟩ (.bool u0)).setCell ⟨zg, 4, none⟩ (.bool u1)).cell? ⟨zg, 1, none⟩ = some (int p1) := by go_simp
  have y2 : ((((((w5.setCell ⟨vg, 2, none⟩ (.bool wt)).setCell ⟨zg, 0, none⟩ (int p0)).setCell ⟨zg, 1, none⟩ (int p1)).setCell ⟨zg, 2, none⟩ (.bool wt)).setCell ⟨zg, 3, none⟩ (.bool u0)).setCell ⟨zg, 4, none⟩ (.bool u1)).cell? ⟨zg, 2, none⟩ = some (.bool wt) := by go_simp
  have y3 : ((((((w5.setCell ⟨vg, 2, none⟩ (.bool wt)).setCell ⟨zg, 0, none⟩ (int p0)).setCell ⟨zg, 1, none⟩ (int p1)).setCell ⟨zg, 2, none⟩ (.bool wt)).setCell ⟨zg, 3, none⟩ (.bool u0)).setCell ⟨zg, 4, none⟩ (.bool u1)).cell? ⟨zg, 3, none⟩ = some (.bool u0) := by go_simp
  have y4 : ((((((w5.setCell ⟨vg, 2, none⟩ (.bool wt)).setCell ⟨zg, 0, none⟩ (int p0)).setCell ⟨zg, 1, none⟩ (int p1)).setCell ⟨zg, 2, none⟩ (.bool wt)).setCell ⟨zg, 3, none⟩ (.bool u0)).setCell ⟨zg, 4, none⟩ (.bool u1)).cell? ⟨zg, 4, none⟩ = some (.bool u1) := by go_simp
  generalize ((((((w5.setCell ⟨vg, 2, none⟩ (.bool wt)).setCell ⟨zg, 0, none⟩ (int p0)).setCell ⟨zg, 1, none⟩ (int p1)).setCell ⟨zg, 2, none⟩ (.bool wt)).setCell ⟨zg, 3, none⟩ (.bool u0)).setCell ⟨zg, 4, none⟩ (.bool u1)) = Z at *
  exact bodyPost_ret (v := .tuple #[.agg #[int p0, int p1, .bool wt, .bool u0, .bool u1], int 0]) (by simp [results, Try.results29, go_sem, y0, y1, y2, y3, y4]) rfl ⟨by rw [hg0, hg1, hg2, hg3, hg4], hfin⟩

end

end Go.Proofs.Ytodfcpblcpogiaa

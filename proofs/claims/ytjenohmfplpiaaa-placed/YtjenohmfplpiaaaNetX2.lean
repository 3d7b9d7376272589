/-
  The program's net, more calls: Detach, Look, Publish.
-/
import Derived.Test.YtjenohmfplpiaaaNetX
import Derived.Deep.DeepCutAuto
namespace Go.Proofs.Ytjenohmfplpiaaa
open Go.RowKit

/-- Detach's answer. -/
def detE (A : Nat → Int) (c : Int) : Int := if cliB c = true then (if A c.toNat = -1 then 3 else 0) else 1
def detS (A : Nat → Int) (c : Int) : Nat → Int := if detE A c = 0 then upd A c.toNat (-1) else A

set_option maxHeartbeats 400000 in
theorem detachX_any (b n : Nat) (A H M : Nat → Int) (c : Int) (w : World) (h : XN w b n A H M) :
    Calls Try.prog 15 #[.pointer (some ⟨b, 0, none⟩), .int .i64 c] w fun e w' => e = .returned (.int .i64 (detE A c)) ∧ Touch (fun k => k = b) w w' ∧ XN w' b n (detS A c) H M := by
  have hcl := h.closed
  cases hg : cliB c with
  | false =>
    have he : detE A c = 1 := by simp [detE, hg]
    have hX := hide h
    simp only [detS, he]
    clear h he
    go_enter Try.func15, Try.ntmps15
    go_wp2_with (first
      | (go_at_call 25; refine (isClient_any _ _).mono ?_; rintro e w' ⟨rfl, rfl⟩)
      | (go_at_call 24; refine (check_any _ _ _ hcl).mono ?_; rintro e w' ⟨rfl, rfl⟩))
    go_ret
    exact ⟨rfl, Touch.refl _ _, unhide hX⟩
  | true =>
    obtain ⟨k, rfl, hk⟩ := cli_nat hg
    have hat := h.here k hk
    by_cases hA : A k = -1
    · have he : detE A k = 3 := by simp [detE, hg, hA]
      have hX := hide h
      have hA' : (A k == -1) = true := by simp [hA]
      simp only [detS, he]
      clear h he hA
      go_enter Try.func15, Try.ntmps15
      go_wp2_with (first
        | (go_at_call 25; refine (isClient_any _ _).mono ?_; rintro e w' ⟨rfl, rfl⟩)
        | (go_at_call 24; refine (check_any _ _ _ hcl).mono ?_; rintro e w' ⟨rfl, rfl⟩)
        | (go_at_call 30; refine (away_any _ _ _ _ hat).mono ?_; rintro e w' ⟨rfl, rfl⟩))
      go_ret
      exact ⟨rfl, Touch.refl _ _, unhide hX⟩
    · have he : detE A k = 0 := by simp [detE, hg, hA]
      have hX := hide h
      have hA' : (A k == -1) = false := by simp [hA]
      have f0 := h.fr (38 + k * 4)
      simp only [detS, he]
      clear h he hA
      go_enter Try.func15, Try.ntmps15
      go_wp2_with (first
        | (go_at_call 25; refine (isClient_any _ _).mono ?_; rintro e w' ⟨rfl, rfl⟩)
        | (go_at_call 24; refine (check_any _ _ _ hcl).mono ?_; rintro e w' ⟨rfl, rfl⟩)
        | (go_at_call 30; refine (away_any _ _ _ _ hat).mono ?_; rintro e w' ⟨rfl, rfl⟩)
        | (go_at_call 40; refine (leave_any _ _ _ _ hat f0).mono ?_; rintro e w3 ⟨rfl, rfl⟩))
      go_ret
      exact ⟨rfl, Touch.set1 _ b _ _, (unhide hX).setAt k hk _⟩

/-- A view, as a value. -/
abbrev viewV (a h : Int) : Value := .agg #[.int .i64 a, .int .i64 h, .bool false, .bool false, .bool false]

set_option maxHeartbeats 400000 in
theorem view_any (b o : Nat) (a h : Int) (w : World) (h0 : w.cell? ⟨b, o, none⟩ = some (.int .i64 a)) (h1 : w.cell? ⟨b, o + 1, none⟩ = some (.int .i64 h)) :
    Calls Try.prog 26 #[.pointer (some ⟨b, o, none⟩)] w fun e w' => e = .returned (viewV a h) ∧ Calm w w' := by
  have hb : b < w.heap.size := block_lt_of_cell h0
  go_enter Try.func26, Try.ntmps26
  go_wp2
  go_region
  go_wp2
  exact bodyPost_ret (v := viewV a h) (by simp [results, Try.results26, go_sem, viewV]) rfl ⟨rfl, ((Touch.refl _ _).alloc _).drew⟩

def lokA (A : Nat → Int) (c : Int) : Int := if cliB c = true then A c.toNat else 0

set_option maxHeartbeats 400000 in
theorem lookX_any (b n : Nat) (A H M : Nat → Int) (c : Int) (w : World) (h : XN w b n A H M) :
    Calls Try.prog 9 #[.pointer (some ⟨b, 0, none⟩), .int .i64 c] w fun e w' => e = .returned (.tuple #[viewV (lokA A c) (lokA H c), .int .i64 (chk (cliB c))]) ∧ Calm w w' := by
  have hcl := h.closed
  have hb := h.lt
  have hct : chk true = 0 := rfl
  have hcf : chk false = 1 := rfl
  cases hg : cliB c with
  | false =>
    have he : lokA A c = 0 := by simp [lokA, hg]
    have he' : lokA H c = 0 := by simp [lokA, hg]
    rw [he, he']
    clear h he he'
    go_enter Try.func9, Try.ntmps9
    go_wp2_with (first
      | (go_at_call 25; refine (isClient_any _ _).mono ?_; rintro e w' ⟨rfl, rfl⟩)
      | (go_at_call 24; refine (check_any _ _ _ (by go_simp)).mono ?_; rintro e w' ⟨rfl, rfl⟩))
    exact bodyPost_ret (v := .tuple #[viewV 0 0, .int .i64 1]) (by simp [results, Try.results9, go_sem, viewV]) rfl ⟨rfl, ((Touch.refl _ _).alloc _)⟩
  | true =>
    obtain ⟨k, rfl, hk⟩ := cli_nat hg
    have he : lokA A k = A k := by simp [lokA, hg]
    have he' : lokA H k = H k := by simp [lokA, hg]
    rw [he, he']
    have hat := h.here k hk
    have hho := h.home k hk
    clear h he he'
    go_enter Try.func9, Try.ntmps9
    go_wp2_with (first
      | (go_at_call 25; refine (isClient_any _ _).mono ?_; rintro e w' ⟨rfl, rfl⟩)
      | (go_at_call 24; refine (check_any _ _ _ (by go_simp)).mono ?_; rintro e w' ⟨rfl, rfl⟩))
    refine (view_any _ _ (A k) (H k) _ (by go_simp) (by go_simp)).mono ?_
    rintro e w1 ⟨rfl, ht1⟩
    have hbx := ht1.box (fun f => f)
    have c0 : w1.cell? ⟨w.heap.size, 0, none⟩ = some (.int .i64 0) := box_cell hbx 0
    have c1 : w1.cell? ⟨w.heap.size, 1, none⟩ = some (.int .i64 0) := box_cell hbx 1
    have c2 : w1.cell? ⟨w.heap.size, 2, none⟩ = some (.bool false) := box_cell hbx 2
    have c3 : w1.cell? ⟨w.heap.size, 3, none⟩ = some (.bool false) := box_cell hbx 3
    have c4 : w1.cell? ⟨w.heap.size, 4, none⟩ = some (.bool false) := box_cell hbx 4
    have fz := box_frozen hbx
    clear hbx
    go_wp2
    refine bodyPost_ret (v := .tuple #[viewV (A k) (H k), .int .i64 0]) (by simp [results, Try.results9, go_sem, c0, c1, c2, c3, c4]) rfl ⟨rfl, ?_⟩
    have g : w.heap.size < w.heap.size → False := Nat.lt_irrefl _
    exact ((((((((Touch.refl _ _).alloc _).calm ht1).setCell g _).setCell g _).setCell g _).setCell g _).setCell g _)

/-- Publish's answers. -/
def pubE (A : Nat → Int) (c : Int) : Int := if cliB c = true then (if A c.toNat = -1 then 3 else 0) else 1
def pubN (A M : Nat → Int) (c : Int) : Int := if pubE A c = 0 then wrap64 (M c.toNat + 1) else 0
def pubS (A M : Nat → Int) (c : Int) : Nat → Int := if pubE A c = 0 then upd M c.toNat (wrap64 (M c.toNat + 1)) else M

set_option maxHeartbeats 400000 in
theorem publishX_no (b n : Nat) (A H M : Nat → Int) (c x y z : Int) (w : World) (h : XN w b n A H M) (hne : pubE A c ≠ 0) :
    Calls Try.prog 17 #[.pointer (some ⟨b, 0, none⟩), .int .i64 c, .agg #[.int .i64 x, .int .i64 y, .int .i64 z]] w fun e w' => e = .returned (.tuple #[.int .i64 0, .int .i64 (pubE A c)]) ∧ Calm w w' := by
  have hcl := h.closed
  have hb := h.lt
  have hct : chk true = 0 := rfl
  have hcf : chk false = 1 := rfl
  cases hg : cliB c with
  | false =>
    have he : pubE A c = 1 := by simp [pubE, hg]
    rw [he]
    clear h he hne
    go_enter Try.func17, Try.ntmps17
    go_wp2_with (first
      | (go_at_call 25; refine (isClient_any _ _).mono ?_; rintro e w' ⟨rfl, rfl⟩)
      | (go_at_call 24; refine (check_any _ _ _ (by go_simp)).mono ?_; rintro e w' ⟨rfl, rfl⟩))
    go_ret2
    exact ⟨rfl, (Touch.refl _ _).alloc _⟩
  | true =>
    obtain ⟨k, rfl, hk⟩ := cli_nat hg
    have hat := h.here k hk
    by_cases hA : A k = -1
    · have he : pubE A k = 3 := by simp [pubE, hg, hA]
      have hA' : (A k == -1) = true := by simp [hA]
      rw [he]
      clear h he hA hne
      go_enter Try.func17, Try.ntmps17
      go_wp2_with (first
        | (go_at_call 25; refine (isClient_any _ _).mono ?_; rintro e w' ⟨rfl, rfl⟩)
        | (go_at_call 24; refine (check_any _ _ _ (by go_simp)).mono ?_; rintro e w' ⟨rfl, rfl⟩)
        | (go_at_call 30; refine (away_any _ _ (A k) _ (by go_simp)).mono ?_; rintro e w' ⟨rfl, rfl⟩))
      go_ret2
      exact ⟨rfl, (Touch.refl _ _).alloc _⟩
    · exact absurd (by simp [pubE, hg, hA]) hne

theorem pub_fin (b n : Nat) (A H M : Nat → Int) (k : Nat) (x y z : Int) (w w1 : World) (ht : Calm w w1) (hX : XN w1 b n A H M) (hk : k < 4) :
    (((w1.setCell ⟨b, 38 + k * 4 + 2, none⟩ (.int .i64 (wrap64 (M k + 1)))).alloc (.cells #[.int .i64 k, .int .i64 (wrap64 (M k + 1)), .int .i64 x, .int .i64 y, .int .i64 z] 72)).drew).heap[w1.heap.size]? = some (.cells #[.int .i64 k, .int .i64 (wrap64 (M k + 1)), .int .i64 x, .int .i64 y, .int .i64 z] 72) ∧
      Touch (fun k => k = b) w (((w1.setCell ⟨b, 38 + k * 4 + 2, none⟩ (.int .i64 (wrap64 (M k + 1)))).alloc (.cells #[.int .i64 k, .int .i64 (wrap64 (M k + 1)), .int .i64 x, .int .i64 y, .int .i64 z] 72)).drew) ∧
      XN (((w1.setCell ⟨b, 38 + k * 4 + 2, none⟩ (.int .i64 (wrap64 (M k + 1)))).alloc (.cells #[.int .i64 k, .int .i64 (wrap64 (M k + 1)), .int .i64 x, .int .i64 y, .int .i64 z] 72)).drew) b n A H (upd M k (wrap64 (M k + 1))) := by
  refine ⟨?_, ?_, ?_⟩
  · have := heap_alloc_new (w1.setCell ⟨b, 38 + k * 4 + 2, none⟩ (.int .i64 (wrap64 (M k + 1)))) (.cells #[.int .i64 k, .int .i64 (wrap64 (M k + 1)), .int .i64 x, .int .i64 y, .int .i64 z] 72)
    have hs : (w1.setCell ⟨b, 38 + k * 4 + 2, none⟩ (.int .i64 (wrap64 (M k + 1)))).heap.size = w1.heap.size := by simp [World.setCell]
    rw [hs] at this
    exact this
  · exact (((ht.mono (fun _ _ f => f.elim)).trans (Touch.set1 w1 b _ _)).alloc _).drew
  · exact (hX.setPub k hk _).calm (((Touch.refl _ _).alloc _).drew)

set_option maxHeartbeats 1000000 in
theorem publishX_ok (b n : Nat) (A H M : Nat → Int) (k : Nat) (x y z : Int) (w : World) (h : XN w b n A H M) (hk : k < 4) (hA : (A k == -1) = false) :
    Calls Try.prog 17 #[.pointer (some ⟨b, 0, none⟩), .int .i64 k, .agg #[.int .i64 x, .int .i64 y, .int .i64 z]] w fun e w' => e = .returned (.tuple #[.int .i64 (wrap64 (M k + 1)), .int .i64 0]) ∧ Touch (fun k => k = b) w w' ∧ XN w' b n A H (upd M k (wrap64 (M k + 1))) := by
  have hcl := h.closed
  have hb := h.lt
  have hct : chk true = 0 := rfl
  have hg : cliB k = true := by simp [cliB]; omega
  have hat := h.here k hk
  have hX := hide (h.calm ((Touch.refl (fun _ => False) w).alloc (.cells #[.int .i64 x, .int .i64 y, .int .i64 z] 35)))
  clear h
  go_enter Try.func17, Try.ntmps17
  go_wp2_with (first
    | (go_at_call 25; refine (isClient_any _ _).mono ?_; rintro e w' ⟨rfl, rfl⟩)
    | (go_at_call 24; refine (check_any _ _ _ (by go_simp)).mono ?_; rintro e w' ⟨rfl, rfl⟩)
    | (go_at_call 30; refine (away_any _ _ (A k) _ (by go_simp)).mono ?_; rintro e w' ⟨rfl, rfl⟩))
  refine (full_any b n A H M _ (unhide hX)).mono ?_
  rintro e w1 ⟨rfl, ht1⟩
  have hbx := ht1.box (fun f => f)
  have c0 : w1.cell? ⟨w.heap.size, 0, none⟩ = some (.int .i64 x) := box_cell hbx 0
  have c1 : w1.cell? ⟨w.heap.size, 1, none⟩ = some (.int .i64 y) := box_cell hbx 1
  have c2 : w1.cell? ⟨w.heap.size, 2, none⟩ = some (.int .i64 z) := box_cell hbx 2
  have hsz : w.heap.size < w1.heap.size := block_lt_of_cell c0
  have hX1 := (unhide hX).calm ht1
  have q0 := hX1.here k hk
  have q2 := hX1.pub k hk
  have f2 := hX1.fr (38 + k * 4 + 2)
  have hb1 := hX1.lt
  have hnb : ¬ w.heap.size = b := by omega
  have hnb' : ¬ b = w.heap.size := by omega
  have HX1 := hide hX1
  clear hX1 hX hbx hcl hat
  have fin : (((w1.setCell ⟨b, 38 + k * 4 + 2, none⟩ (.int .i64 (wrap64 (M k + 1)))).alloc (.cells #[.int .i64 k, .int .i64 (wrap64 (M k + 1)), .int .i64 x, .int .i64 y, .int .i64 z] 72)).drew).heap[w1.heap.size]? = some (.cells #[.int .i64 k, .int .i64 (wrap64 (M k + 1)), .int .i64 x, .int .i64 y, .int .i64 z] 72) ∧
      Touch (fun k => k = b) w (((w1.setCell ⟨b, 38 + k * 4 + 2, none⟩ (.int .i64 (wrap64 (M k + 1)))).alloc (.cells #[.int .i64 k, .int .i64 (wrap64 (M k + 1)), .int .i64 x, .int .i64 y, .int .i64 z] 72)).drew) ∧
      XN (((w1.setCell ⟨b, 38 + k * 4 + 2, none⟩ (.int .i64 (wrap64 (M k + 1)))).alloc (.cells #[.int .i64 k, .int .i64 (wrap64 (M k + 1)), .int .i64 x, .int .i64 y, .int .i64 z] 72)).drew) b n A H (upd M k (wrap64 (M k + 1))) :=
    pub_fin b n A H M k x y z w w1 (((Touch.refl _ _).alloc _).calm ht1) (unhide HX1) hk
  have FIN := hide fin
  clear fin
  go_wp2
  go_cut [10] (fun s wx => s = .pointer (some ⟨w1.heap.size, 0, none⟩) ∧ wx.heap[w1.heap.size]? = some (.cells #[.int .i64 k, .int .i64 (wrap64 (M k + 1)), .int .i64 x, .int .i64 y, .int .i64 z] 72) ∧ Touch (fun k => k = b) w wx ∧ XN wx b n A H (upd M k (wrap64 (M k + 1))))
  case first =>
    go_region_with (first
      | (go_at_call 42; refine (number_any b (38 + k * 4) _ (M k) (by go_simp) (by go_simp)).mono ?_; rintro e w3 ⟨rfl, rfl⟩))
    all_goals (go_wp2_with fail; go_meet; exact ⟨rfl, unhide FIN⟩)
  case rest =>
    obtain ⟨rfl, hbx, ht2, hX2⟩ := hcut
    have q0 := hX2.here k hk
    have e0 : wc.cell? ⟨w1.heap.size, 0, none⟩ = some (.int .i64 k) := box_cell hbx 0
    have e1 : wc.cell? ⟨w1.heap.size, 1, none⟩ = some (.int .i64 (wrap64 (M k + 1))) := box_cell hbx 1
    have e2 : wc.cell? ⟨w1.heap.size, 2, none⟩ = some (.int .i64 x) := box_cell hbx 2
    have e3 : wc.cell? ⟨w1.heap.size, 3, none⟩ = some (.int .i64 y) := box_cell hbx 3
    have e4 : wc.cell? ⟨w1.heap.size, 4, none⟩ = some (.int .i64 z) := box_cell hbx 4
    have hs2 : w1.heap.size < wc.heap.size := block_lt_of_cell e0
    have hb2 := hX2.lt
    have HX2 := hide hX2
    have HT2 := hide ht2
    clear hX2 ht2 hbx c0 c1 c2 FIN HX1 ht1 hA hsz f2 q2 hnb hnb' hb1 hb
    go_wp2_with fail
    go_cut [] (fun wx => Calm wc wx)
    case first =>
      go_region_with (first
        | (go_at_call 44; refine (at_any b (38 + k * 4) (A k) _ (by go_simp)).mono ?_; rintro e w3 ⟨rfl, rfl⟩)
        | (go_at_call 43; refine (handleX_any _ _ _ _ _ (by go_simp)).mono ?_; rintro e w4 ⟨rfl, ht4⟩))
      all_goals (go_wp2_with fail; go_meet; exact (((Touch.refl _ _).alloc _).drew).calm ht4)
    case rest =>
      have e1' := hcut.cell (p := ⟨w1.heap.size, 1, none⟩) (fun f => f) e1
      clear e0 e1 e2 e3 e4
      go_wp2
      go_ret2
      exact ⟨rfl, (unhide HT2).calm hcut, (unhide HX2).calm hcut⟩

/-- PUBLISH, of the program. -/
theorem publishX_any (b n : Nat) (A H M : Nat → Int) (c x y z : Int) (w : World) (h : XN w b n A H M) :
    Calls Try.prog 17 #[.pointer (some ⟨b, 0, none⟩), .int .i64 c, .agg #[.int .i64 x, .int .i64 y, .int .i64 z]] w fun e w' => e = .returned (.tuple #[.int .i64 (pubN A M c), .int .i64 (pubE A c)]) ∧ Touch (fun k => k = b) w w' ∧ XN w' b n A H (pubS A M c) := by
  by_cases he : pubE A c = 0
  · have hg : cliB c = true := by
      cases hg : cliB c with
      | true => rfl
      | false => simp [pubE, hg] at he
    obtain ⟨k, rfl, hk⟩ := cli_nat hg
    have hA : (A k == -1) = false := by
      simp [pubE, hg] at he
      simpa using he
    simp only [pubN, pubS, he, if_true]
    exact publishX_ok b n A H M k x y z w h hk hA
  · simp only [pubN, pubS, he, if_false]
    refine (publishX_no b n A H M c x y z w h he).mono ?_
    rintro e w' ⟨rfl, ht⟩
    exact ⟨rfl, ht.mono (fun _ _ f => f.elim), h.calm ht⟩

end Go.Proofs.Ytjenohmfplpiaaa

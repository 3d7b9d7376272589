/-
  The document's net: Publish.
-/
import Derived.Test.YtodfcpblcpogiaaGreatNetR2
import Derived.Deep.RegionHeld3
namespace Go.Proofs.YtodfcpblcpogiaaGreat
open Go.RowKit

theorem six_false (k : Nat) (h : k < 6) : (#[Value.bool false, .bool false, .bool false, .bool false, .bool false, .bool false] : Array Value)[k]? = some (.bool false) := by
  rcases k with _ | _ | _ | _ | _ | _ | k
  all_goals first | rfl | omega

set_option maxRecDepth 100000 in
set_option maxHeartbeats 1000000 in
theorem happens_any (b n : Nat) (A H M : Nat → Int) (x y : Value) (v0 v1 v2 v3 v4 v5 v6 v7 v8 v9 v10 v11 v12 v13 v14 v15 : Value) (w : World) (h : RN w b n A H M) (hn : n ≤ 5) :
    Calls Tryz.prog 51 #[.pointer (some ⟨b, 0, none⟩), x, .agg #[v0, v1, v2, v3, v4, v5, v6, v7, v8, v9, v10, v11, v12, v13, v14, v15], y] w fun e w' => e = .returned (.tuple #[]) ∧ Calm w w' := by
  obtain ⟨a, cap, hp⟩ := h.par
  have hfa := h.facts
  have hb := h.lt
  clear h
  go_enter Tryz.func51, Tryz.ntmps51
  go_wp2
  obtain ⟨W, hW⟩ : ∃ W, W = (w.alloc (.cells #[v0, v1, v2, v3, v4, v5, v6, v7, v8, v9, v10, v11, v12, v13, v14, v15] 133)).alloc (.cells #[.bool false, .bool false, .bool false, .bool false, .bool false, .bool false] 162) := ⟨_, rfl⟩
  have hc : Calm w W := by rw [hW]; exact ((Touch.refl _ _).alloc _).alloc _
  have hto : W.heap[w.heap.size + 1]? = some (.cells #[.bool false, .bool false, .bool false, .bool false, .bool false, .bool false] 162) := by rw [hW]; exact heap_alloc2_new _ _ _
  rw [← hW]
  clear hW
  have hp' := hc.cell (p := ⟨b, 0, none⟩) (fun f => f) hp
  have hfa' := hc.cell (p := ⟨b, 2, none⟩) (fun f => f) hfa
  have hz : ∀ k, k < 6 → W.cell? ⟨w.heap.size + 1, k, none⟩ = some (.bool false) := fun k hk => (box_cell hto k).trans (six_false k hk)
  have HZ := hide hz
  clear hp hfa hto hz hb
  go_loop [9] (fun i => ∃ k : Nat, k ≤ 8 ∧ i = .int .i64 k) (fun i => 8 - (intOf i).toNat)
  case atStart => exact ⟨0, by omega, rfl⟩
  case round =>
    obtain ⟨k, hk, rfl⟩ := hrel
    by_cases hlt : k < 8
    · go_wp2_with (go_at_call 39; refine (fact_any b _ _ _ hfa').mono ?_; rintro e w' ⟨rfl, rfl⟩)
      go_round
      case rel => exact ⟨k + 1, by omega, by go_num⟩
      case measure => simp [intOf]; omega
    · go_wp2
      go_loop [13] (fun i => ∃ q : Nat, q ≤ n + 1 ∧ i = .int .i64 q) (fun i => n + 1 - (intOf i).toNat)
      case atStart => exact ⟨0, by omega, rfl⟩
      case round =>
        obtain ⟨q, hq, rfl⟩ := hrel
        by_cases hqt : q < n + 1
        · have hcell := unhide HZ q (by omega)
          go_wp2
          go_round
          case rel => exact ⟨q + 1, by omega, by go_num⟩
          case measure => simp [intOf]; omega
        · go_wp2
          go_end0
          exact ⟨rfl, hc⟩

set_option maxRecDepth 100000 in
set_option maxHeartbeats 400000 in
theorem publishR_no (b n : Nat) (A H M : Nat → Int) (c x y z : Int) (w : World) (h : RN w b n A H M) (hne : pubE A c ≠ 0) :
    Calls Tryz.prog 19 #[.pointer (some ⟨b, 0, none⟩), .int .i64 c, .agg #[.int .i64 x, .int .i64 y, .int .i64 z]] w fun e w' => e = .returned (.tuple #[.int .i64 0, .int .i64 (pubE A c)]) ∧ Calm w w' := by
  have hcl := h.closed
  have hb := h.lt
  have hct : chk true = 0 := rfl
  have hcf : chk false = 1 := rfl
  cases hg : cliB c with
  | false =>
    have he : pubE A c = 1 := by simp [pubE, hg]
    rw [he]
    clear h he hne
    go_enter Tryz.func19, Tryz.ntmps19
    go_wp2_with (go_at_call 38; refine (asked_any _ _ _ (by go_simp)).mono ?_; rintro e w' ⟨rfl, rfl⟩)
    go_ret2
    exact ⟨rfl, (Touch.refl _ _).alloc _⟩
  | true =>
    obtain ⟨k, rfl, hk⟩ := cli_nat hg
    have hat := h.here k hk
    by_cases hA : A k = -1
    · have he : pubE A k = 3 := by simp [pubE, hg, hA]
      have hA' : A k < 0 := by omega
      rw [he]
      clear h he hA hne
      go_enter Tryz.func19, Tryz.ntmps19
      go_wp2_with (go_at_call 38; refine (asked_any _ _ _ (by go_simp)).mono ?_; rintro e w' ⟨rfl, rfl⟩)
      go_ret2
      exact ⟨rfl, (Touch.refl _ _).alloc _⟩
    · exact absurd (by simp [pubE, hg, hA]) hne

set_option maxRecDepth 100000 in
set_option maxHeartbeats 1000000 in
theorem publishR_ok (b n : Nat) (A H M : Nat → Int) (k : Nat) (x y z : Int) (w : World) (h : RN w b n A H M) (hn : n ≤ 5) (hk : k < 4) (hA : 0 ≤ A k) :
    Calls Tryz.prog 19 #[.pointer (some ⟨b, 0, none⟩), .int .i64 k, .agg #[.int .i64 x, .int .i64 y, .int .i64 z]] w fun e w' => e = .returned (.tuple #[.int .i64 (wrap64 (M k + 1)), .int .i64 0]) ∧ Touch (fun k => k = b) w w' ∧ RN w' b n A H (upd M k (wrap64 (M k + 1))) := by
  have hcl := h.closed
  have hb := h.lt
  have hct : chk true = 0 := rfl
  have hg : cliB k = true := by simp [cliB]; omega
  have hat := h.here k hk
  have hm := h.many k hk
  obtain ⟨s, hst⟩ := h.stays k hk
  have hfm := h.frames
  have f2 := h.fr (3 + k * 13 + 11)
  have hX := hide h
  clear h
  go_enter Tryz.func19, Tryz.ntmps19
  go_wp2_with (go_at_call 38; refine (asked_any _ _ _ (by go_simp)).mono ?_; rintro e w' ⟨rfl, rfl⟩)
  obtain ⟨W, hW⟩ : ∃ W, W = (w.setCell ⟨b, 3 + k * 13 + 11, none⟩ (.int .i64 (wrap64 (M k + 1)))).alloc (.cells #[.int .i64 x, .int .i64 y, .int .i64 z] 35) := ⟨_, rfl⟩
  have hR : RN W b n A H (upd M k (wrap64 (M k + 1))) := by rw [hW]; exact ((unhide hX).setMany k hk _).calm ((Touch.refl _ _).alloc _)
  have hT : Touch (fun k => k = b) w W := by rw [hW]; exact (Touch.set1 _ b _ _).alloc _
  have hbx : W.heap[w.heap.size]? = some (.cells #[.int .i64 x, .int .i64 y, .int .i64 z] 35) := by
    have := heap_alloc_new (w.setCell ⟨b, 3 + k * 13 + 11, none⟩ (.int .i64 (wrap64 (M k + 1)))) (.cells #[.int .i64 x, .int .i64 y, .int .i64 z] 35)
    have hs : (w.setCell ⟨b, 3 + k * 13 + 11, none⟩ (.int .i64 (wrap64 (M k + 1)))).heap.size = w.heap.size := by simp [World.setCell]
    rw [hs] at this
    rw [hW]; exact this
  rw [← hW]
  clear hW hat hst hm hfm f2 hX hcl
  have e0 : W.cell? ⟨w.heap.size, 0, none⟩ = some (.int .i64 x) := box_cell hbx 0
  have e1 : W.cell? ⟨w.heap.size, 1, none⟩ = some (.int .i64 y) := box_cell hbx 1
  have e2 : W.cell? ⟨w.heap.size, 2, none⟩ = some (.int .i64 z) := box_cell hbx 2
  have hat := hR.here k hk
  have hm := hR.many k hk
  rw [upd_same] at hm
  obtain ⟨s, hst⟩ := hR.stays k hk
  have HR := hide hR
  have HT := hide hT
  clear hR hT hbx
  go_cut [] (fun wx => Calm W wx)
  case first =>
    go_region_held3 (fun w' => w'.cell? ⟨b, 3 + k * 13, none⟩ = some (.int .i64 (A k)) ∧ w'.cell? ⟨b, 3 + k * 13 + 11, none⟩ = some (.int .i64 (wrap64 (M k + 1))) ∧ w'.cell? ⟨b, 3 + k * 13 + 10, none⟩ = some (.int .i64 s) ∧ w'.cell? ⟨w.heap.size, 0, none⟩ = some (.int .i64 x) ∧ w'.cell? ⟨w.heap.size, 1, none⟩ = some (.int .i64 y) ∧ w'.cell? ⟨w.heap.size, 2, none⟩ = some (.int .i64 z))
      (first | exact ⟨ht1.cell (p := ⟨b, 3 + k * 13, none⟩) (fun f => f) hat, ht1.cell (p := ⟨b, 3 + k * 13 + 11, none⟩) (fun f => f) hm, ht1.cell (p := ⟨b, 3 + k * 13 + 10, none⟩) (fun f => f) hst, ht1.cell (p := ⟨w.heap.size, 0, none⟩) (fun f => f) e0, ht1.cell (p := ⟨w.heap.size, 1, none⟩) (fun f => f) e1, ht1.cell (p := ⟨w.heap.size, 2, none⟩) (fun f => f) e2⟩ | go_keep)
      (first | (go_at_call 51; refine (happens_any b n A H (upd M k (wrap64 (M k + 1))) _ _ _ _ _ _ _ _ _ _ _ _ _ _ _ _ _ _ _ ?_ hn).mono ?_; exact (unhide HR).calm ((Touch.refl _ _).drew); rintro e w1 ⟨rfl, ht1⟩))
    all_goals (go_wp2_with fail; go_meet; exact ((Touch.refl _ _).drew).calm ht1)
  case rest =>
    have hm' := hcut.cell (p := ⟨b, 3 + k * 13 + 11, none⟩) (fun f => f) hm
    clear e0 e1 e2 hst hat hm
    go_wp2
    go_ret2
    exact ⟨rfl, (unhide HT).calm hcut, (unhide HR).calm hcut⟩

/-- PUBLISH, of the document. -/
theorem publishR_any (b n : Nat) (A H M : Nat → Int) (c x y z : Int) (w : World) (h : RN w b n A H M) (hn : n ≤ 5) (hs : Sane A) :
    Calls Tryz.prog 19 #[.pointer (some ⟨b, 0, none⟩), .int .i64 c, .agg #[.int .i64 x, .int .i64 y, .int .i64 z]] w fun e w' => e = .returned (.tuple #[.int .i64 (pubN A M c), .int .i64 (pubE A c)]) ∧ Touch (fun k => k = b) w w' ∧ RN w' b n A H (pubS A M c) := by
  by_cases he : pubE A c = 0
  · have hg : cliB c = true := by
      cases hg : cliB c with
      | true => rfl
      | false => simp [pubE, hg] at he
    obtain ⟨k, rfl, hk⟩ := cli_nat hg
    have hA : 0 ≤ A k := by
      simp [pubE, hg] at he
      have := hs k hk
      omega
    simp only [pubN, pubS, he, if_true]
    exact publishR_ok b n A H M k x y z w h hn hk hA
  · simp only [pubN, pubS, he, if_false]
    refine (publishR_no b n A H M c x y z w h he).mono ?_
    rintro e w' ⟨rfl, ht⟩
    exact ⟨rfl, ht.mono (fun _ _ f => f.elim), h.calm ht⟩

end Go.Proofs.YtodfcpblcpogiaaGreat

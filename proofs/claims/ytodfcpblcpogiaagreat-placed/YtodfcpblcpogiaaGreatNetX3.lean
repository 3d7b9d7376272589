/-
  The program's net: Publish.
-/
import Derived.Test.YtodfcpblcpogiaaGreatNetX2
import Derived.Test.YtodfcpblcpogiaaGreatEvz
import Derived.Deep.DeepCutAuto
namespace Go.Proofs.YtodfcpblcpogiaaGreat
open Go.RowKit

set_option maxHeartbeats 400000 in
theorem publishX_no (b n : Nat) (A H M : Nat → Int) (c x y z : Int) (w : World) (h : XN w b n A H M) (hne : pubE A c ≠ 0) :
    Calls Tryz.prog 18 #[.pointer (some ⟨b, 0, none⟩), .int .i64 c, .agg #[.int .i64 x, .int .i64 y, .int .i64 z]] w fun e w' => e = .returned (.tuple #[.int .i64 0, .int .i64 (pubE A c)]) ∧ Calm w w' := by
  have hcl := h.closed
  have hb := h.lt
  have hct : chk true = 0 := rfl
  have hcf : chk false = 1 := rfl
  cases hg : cliB c with
  | false =>
    have he : pubE A c = 1 := by simp [pubE, hg]
    rw [he]
    clear h he hne
    go_enter Tryz.func18, Tryz.ntmps18
    go_wp2_with (first
      | (go_at_call 26; refine (isClient_any _ _).mono ?_; rintro e w' ⟨rfl, rfl⟩)
      | (go_at_call 25; refine (check_any _ _ _ (by go_simp)).mono ?_; rintro e w' ⟨rfl, rfl⟩))
    go_ret2
    exact ⟨rfl, (Touch.refl _ _).alloc _⟩
  | true =>
    obtain ⟨k, rfl, hk⟩ := cli_nat hg
    have hat := h.here k hk
    by_cases hA : A k = -1
    · have he : pubE A k = 3 := by simp [pubE, hg, hA]
      have hA' : (A k == -1) = true := by simp [hA]
      rw [he]
      clear h he hA hne
      go_enter Tryz.func18, Tryz.ntmps18
      go_wp2_with (first
        | (go_at_call 26; refine (isClient_any _ _).mono ?_; rintro e w' ⟨rfl, rfl⟩)
        | (go_at_call 25; refine (check_any _ _ _ (by go_simp)).mono ?_; rintro e w' ⟨rfl, rfl⟩)
        | (go_at_call 32; refine (away_any _ _ (A k) _ (by go_simp)).mono ?_; rintro e w' ⟨rfl, rfl⟩))
      go_ret2
      exact ⟨rfl, (Touch.refl _ _).alloc _⟩
    · exact absurd (by simp [pubE, hg, hA]) hne

theorem pub_fin (b n : Nat) (A H M : Nat → Int) (k : Nat) (x y z : Int) (w w1 : World) (ht : Calm w w1) (hX : XN w1 b n A H M) (hk : k < 4) :
    (((w1.setCell ⟨b, 86 + k * 31 + 3, none⟩ (.int .i64 (wrap64 (M k + 1)))).alloc (.cells #[.int .i64 k, .int .i64 (wrap64 (M k + 1)), .int .i64 x, .int .i64 y, .int .i64 z] 72)).drew).heap[w1.heap.size]? = some (.cells #[.int .i64 k, .int .i64 (wrap64 (M k + 1)), .int .i64 x, .int .i64 y, .int .i64 z] 72) ∧
      Touch (fun k => k = b) w (((w1.setCell ⟨b, 86 + k * 31 + 3, none⟩ (.int .i64 (wrap64 (M k + 1)))).alloc (.cells #[.int .i64 k, .int .i64 (wrap64 (M k + 1)), .int .i64 x, .int .i64 y, .int .i64 z] 72)).drew) ∧
      XN (((w1.setCell ⟨b, 86 + k * 31 + 3, none⟩ (.int .i64 (wrap64 (M k + 1)))).alloc (.cells #[.int .i64 k, .int .i64 (wrap64 (M k + 1)), .int .i64 x, .int .i64 y, .int .i64 z] 72)).drew) b n A H (upd M k (wrap64 (M k + 1))) := by
  refine ⟨?_, ?_, ?_⟩
  · have := heap_alloc_new (w1.setCell ⟨b, 86 + k * 31 + 3, none⟩ (.int .i64 (wrap64 (M k + 1)))) (.cells #[.int .i64 k, .int .i64 (wrap64 (M k + 1)), .int .i64 x, .int .i64 y, .int .i64 z] 72)
    have hs : (w1.setCell ⟨b, 86 + k * 31 + 3, none⟩ (.int .i64 (wrap64 (M k + 1)))).heap.size = w1.heap.size := by simp [World.setCell]
    rw [hs] at this
    exact this
  · exact (((ht.mono (fun _ _ f => f.elim)).trans (Touch.set1 w1 b _ _)).alloc _).drew
  · exact (hX.setPub k hk _).calm (((Touch.refl _ _).alloc _).drew)

set_option maxHeartbeats 1000000 in
theorem publishX_ok (b n : Nat) (A H M : Nat → Int) (k : Nat) (x y z : Int) (w : World) (h : XN w b n A H M) (hk : k < 4) (hA : (A k == -1) = false) :
    Calls Tryz.prog 18 #[.pointer (some ⟨b, 0, none⟩), .int .i64 k, .agg #[.int .i64 x, .int .i64 y, .int .i64 z]] w fun e w' => e = .returned (.tuple #[.int .i64 (wrap64 (M k + 1)), .int .i64 0]) ∧ Touch (fun k => k = b) w w' ∧ XN w' b n A H (upd M k (wrap64 (M k + 1))) := by
  have hcl := h.closed
  have hb := h.lt
  have hct : chk true = 0 := rfl
  have hg : cliB k = true := by simp [cliB]; omega
  have hat := h.here k hk
  have hki : (k : Int) < 4 := by omega
  obtain ⟨xx, hxx, hx6⟩ : ∃ xx : Nat, A k = xx ∧ xx < 6 := by
    rcases h.sane k hk with h1 | ⟨h1, h2⟩
    · rw [h1] at hA; simp at hA
    · exact ⟨(A k).toNat, by omega, by omega⟩
  have hX := hide (h.calm ((Touch.refl (fun _ => False) w).alloc (.cells #[.int .i64 x, .int .i64 y, .int .i64 z] 35)))
  clear h
  go_enter Tryz.func18, Tryz.ntmps18
  go_wp2_with (first
    | (go_at_call 26; refine (isClient_any _ _).mono ?_; rintro e w' ⟨rfl, rfl⟩)
    | (go_at_call 25; refine (check_any _ _ _ (by go_simp)).mono ?_; rintro e w' ⟨rfl, rfl⟩)
    | (go_at_call 32; refine (away_any _ _ (A k) _ (by go_simp)).mono ?_; rintro e w' ⟨rfl, rfl⟩))
  refine (full_any b n A H M _ (unhide hX)).mono ?_
  rintro e w1 ⟨rfl, ht1⟩
  have hbx := ht1.box (fun f => f)
  have c0 : w1.cell? ⟨w.heap.size, 0, none⟩ = some (.int .i64 x) := box_cell hbx 0
  have c1 : w1.cell? ⟨w.heap.size, 1, none⟩ = some (.int .i64 y) := box_cell hbx 1
  have c2 : w1.cell? ⟨w.heap.size, 2, none⟩ = some (.int .i64 z) := box_cell hbx 2
  have hsz : w.heap.size < w1.heap.size := block_lt_of_cell c0
  have hX1 := (unhide hX).calm ht1
  have q0 := hX1.here k hk
  have q2 := hX1.pub k hk
  have f2 := hX1.fr (86 + k * 31 + 3)
  have hb1 := hX1.lt
  have hnb : ¬ w.heap.size = b := by omega
  have hnb' : ¬ b = w.heap.size := by omega
  have HX1 := hide hX1
  clear hX1 hX hbx hcl hat
  have fin : (((w1.setCell ⟨b, 86 + k * 31 + 3, none⟩ (.int .i64 (wrap64 (M k + 1)))).alloc (.cells #[.int .i64 k, .int .i64 (wrap64 (M k + 1)), .int .i64 x, .int .i64 y, .int .i64 z] 72)).drew).heap[w1.heap.size]? = some (.cells #[.int .i64 k, .int .i64 (wrap64 (M k + 1)), .int .i64 x, .int .i64 y, .int .i64 z] 72) ∧
      Touch (fun k => k = b) w (((w1.setCell ⟨b, 86 + k * 31 + 3, none⟩ (.int .i64 (wrap64 (M k + 1)))).alloc (.cells #[.int .i64 k, .int .i64 (wrap64 (M k + 1)), .int .i64 x, .int .i64 y, .int .i64 z] 72)).drew) ∧
      XN (((w1.setCell ⟨b, 86 + k * 31 + 3, none⟩ (.int .i64 (wrap64 (M k + 1)))).alloc (.cells #[.int .i64 k, .int .i64 (wrap64 (M k + 1)), .int .i64 x, .int .i64 y, .int .i64 z] 72)).drew) b n A H (upd M k (wrap64 (M k + 1))) :=
    pub_fin b n A H M k x y z w w1 (((Touch.refl _ _).alloc _).calm ht1) (unhide HX1) hk
  have FIN := hide fin
  clear fin
  go_wp2
  go_cut [10] (fun s wx => s = .pointer (some ⟨w1.heap.size, 0, none⟩) ∧ wx.heap[w1.heap.size]? = some (.cells #[.int .i64 k, .int .i64 (wrap64 (M k + 1)), .int .i64 x, .int .i64 y, .int .i64 z] 72) ∧ Touch (fun k => k = b) w wx ∧ XN wx b n A H (upd M k (wrap64 (M k + 1))))
  case first =>
    go_region_with (first
      | (go_at_call 47; refine (number_any b (86 + k * 31) _ (M k) (by go_simp) (by go_simp)).mono ?_; rintro e w3 ⟨rfl, rfl⟩))
    all_goals (go_wp2_with fail; go_meet; exact ⟨rfl, unhide FIN⟩)
  case rest =>
    obtain ⟨rfl, hbx, ht2, hX2⟩ := hcut
    have q0 := hX2.here k hk
    obtain ⟨sv, q2⟩ := hX2.stay k hk
    have e0 : wc.cell? ⟨w1.heap.size, 0, none⟩ = some (.int .i64 k) := box_cell hbx 0
    have e1 : wc.cell? ⟨w1.heap.size, 1, none⟩ = some (.int .i64 (wrap64 (M k + 1))) := box_cell hbx 1
    have e2 : wc.cell? ⟨w1.heap.size, 2, none⟩ = some (.int .i64 x) := box_cell hbx 2
    have e3 : wc.cell? ⟨w1.heap.size, 3, none⟩ = some (.int .i64 y) := box_cell hbx 3
    have e4 : wc.cell? ⟨w1.heap.size, 4, none⟩ = some (.int .i64 z) := box_cell hbx 4
    have hs2 : w1.heap.size < wc.heap.size := block_lt_of_cell e0
    have hb2 := hX2.lt
    have HX2 := hide hX2
    have HT2 := hide ht2
    clear hX2 ht2 hbx c0 c1 c2 FIN HX1 ht1 hA hsz f2 hnb hnb' hb1 hb
    rw [hxx] at q0
    have FB : (wc.alloc (.cells #[int 2, int 0, int 0, int 0, int 0, int 0, int 0, int 0, int 0, int 0, int 0, int 0, int 0, int 0, int k, int (wrap64 (M k + 1)), int x, int y, int z, int sv, int 0, int 0, .slice none 0 0, int 0] 142)).drew.heap[wc.heap.size]? = some (.cells #[int 2, int 0, int 0, int 0, int 0, int 0, int 0, int 0, int 0, int 0, int 0, int 0, int 0, int 0, int k, int (wrap64 (M k + 1)), int x, int y, int z, int sv, int 0, int 0, .slice none 0 0, int 0] 142) := heap_alloc_new wc _
    have F0 : Hid ((wc.alloc (.cells #[int 2, int 0, int 0, int 0, int 0, int 0, int 0, int 0, int 0, int 0, int 0, int 0, int 0, int 0, int k, int (wrap64 (M k + 1)), int x, int y, int z, int sv, int 0, int 0, .slice none 0 0, int 0] 142)).drew.cell? ⟨wc.heap.size, 0, none⟩ = some (int 2)) := box_cell FB 0
    have F16 : Hid ((wc.alloc (.cells #[int 2, int 0, int 0, int 0, int 0, int 0, int 0, int 0, int 0, int 0, int 0, int 0, int 0, int 0, int k, int (wrap64 (M k + 1)), int x, int y, int z, int sv, int 0, int 0, .slice none 0 0, int 0] 142)).drew.cell? ⟨wc.heap.size, 16, none⟩ = some (int x)) := box_cell FB 16
    have F17 : Hid ((wc.alloc (.cells #[int 2, int 0, int 0, int 0, int 0, int 0, int 0, int 0, int 0, int 0, int 0, int 0, int 0, int 0, int k, int (wrap64 (M k + 1)), int x, int y, int z, int sv, int 0, int 0, .slice none 0 0, int 0] 142)).drew.cell? ⟨wc.heap.size, 17, none⟩ = some (int y)) := box_cell FB 17
    have F18 : Hid ((wc.alloc (.cells #[int 2, int 0, int 0, int 0, int 0, int 0, int 0, int 0, int 0, int 0, int 0, int 0, int 0, int 0, int k, int (wrap64 (M k + 1)), int x, int y, int z, int sv, int 0, int 0, .slice none 0 0, int 0] 142)).drew.cell? ⟨wc.heap.size, 18, none⟩ = some (int z)) := box_cell FB 18
    clear FB
    go_wp2_with fail
    go_cut [] (fun wx => Calm wc wx)
    case first =>
      go_region_with (first
        | (go_at_call 49; refine (at_any b (86 + k * 31) xx _ (by go_simp)).mono ?_; rintro e w3 ⟨rfl, rfl⟩)
        | (go_at_call 50; refine (stay_any b (86 + k * 31) sv _ (by go_simp)).mono ?_; rintro e w3 ⟨rfl, rfl⟩)
        | (go_at_call 48; refine (handle0 b n A H (upd M k (wrap64 (M k + 1))) xx wc.heap.size x y z hx6 _ ((unhide HX2).calm (((Touch.refl _ _).alloc _).drew)) (unhide F0) (unhide F16) (unhide F17) (unhide F18)).mono ?_; rintro e w4 ⟨rfl, ht4⟩))
      all_goals (go_wp2_with fail; go_meet; exact (((Touch.refl _ _).alloc _).drew).calm ht4)
    case rest =>
      have e1' := hcut.cell (p := ⟨w1.heap.size, 1, none⟩) (fun f => f) e1
      clear e0 e1 e2 e3 e4
      go_wp2
      go_ret2
      exact ⟨rfl, (unhide HT2).calm hcut, (unhide HX2).calm hcut⟩

/-- PUBLISH, of the program. -/
theorem publishX_any (b n : Nat) (A H M : Nat → Int) (c x y z : Int) (w : World) (h : XN w b n A H M) :
    Calls Tryz.prog 18 #[.pointer (some ⟨b, 0, none⟩), .int .i64 c, .agg #[.int .i64 x, .int .i64 y, .int .i64 z]] w fun e w' => e = .returned (.tuple #[.int .i64 (pubN A M c), .int .i64 (pubE A c)]) ∧ Touch (fun k => k = b) w w' ∧ XN w' b n A H (pubS A M c) := by
  by_cases he : pubE A c = 0
  · have hg : cliB c = true := by
      cases hg : cliB c with
      | true => rfl
      | false => simp [pubE, hg] at he
    obtain ⟨k, rfl, hk⟩ := cli_nat hg
    have hA : (A k == -1) = false := by
      simp [pubE, hg] at he
      simpa using he
    simp only [pubN, pubS, he, if_true]
    exact publishX_ok b n A H M k x y z w h hk hA
  · simp only [pubN, pubS, he, if_false]
    refine (publishX_no b n A H M c x y z w h he).mono ?_
    rintro e w' ⟨rfl, ht⟩
    exact ⟨rfl, ht.mono (fun _ _ f => f.elim), h.calm ht⟩

end Go.Proofs.YtodfcpblcpogiaaGreat

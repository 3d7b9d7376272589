/-
  The document's net, more calls: Look, Attach, Pending.
-/
import Derived.Test.YtodfcpblcpogiaaGreatNetR
namespace Go.Proofs.YtodfcpblcpogiaaGreat
open Go.RowKit

set_option maxHeartbeats 400000 in
theorem lookR_any (b n : Nat) (A H M : Nat → Int) (c : Int) (w : World) (h : RN w b n A H M) :
    Calls Tryz.prog 20 #[.pointer (some ⟨b, 0, none⟩), .int .i64 c] w fun e w' => e = .returned (.tuple #[viewV (lokA A c) (lokA H c), .int .i64 (chk (cliB c))]) ∧ Calm w w' := by
  have hcl := h.closed
  have hb := h.lt
  have hct : chk true = 0 := rfl
  have hcf : chk false = 1 := rfl
  cases hg : cliB c with
  | false =>
    have he : lokA A c = 0 := by simp [lokA, hg]
    have he' : lokA H c = 0 := by simp [lokA, hg]
    rw [he, he']
    clear h he he'
    go_enter Tryz.func20, Tryz.ntmps20
    go_wp2_with (go_at_call 38; refine (asked_any _ _ _ (by go_simp)).mono ?_; rintro e w' ⟨rfl, rfl⟩)
    exact bodyPost_ret (v := .tuple #[viewV 0 0, .int .i64 1]) (by simp [results, Tryz.results20, go_sem]) rfl ⟨rfl, ((Touch.refl _ _).alloc _)⟩
  | true =>
    obtain ⟨k, rfl, hk⟩ := cli_nat hg
    have he : lokA A k = A k := by simp [lokA, hg]
    have he' : lokA H k = H k := by simp [lokA, hg]
    rw [he, he']
    obtain ⟨s, hs⟩ := h.cl k hk
    have a0 := hs 0 _ rfl
    have a1 := hs 1 _ rfl
    have a2 := hs 2 _ rfl
    have a3 := hs 3 _ rfl
    have a4 := hs 4 _ rfl
    have a5 := hs 5 _ rfl
    have a6 := hs 6 _ rfl
    have a7 := hs 7 _ rfl
    have a8 := hs 8 _ rfl
    have a9 := hs 9 _ rfl
    have a10 := hs 10 _ rfl
    have a11 := hs 11 _ rfl
    have a12 := hs 12 _ rfl
    have b0 := h.here k hk
    have b1 := h.used0 k hk
    have b2 := h.used1 k hk
    have b3 := h.facts
    clear hs h he he'
    go_enter Tryz.func20, Tryz.ntmps20
    go_wp2_with (first
      | (go_at_call 38; refine (asked_any _ _ _ (by go_simp)).mono ?_; rintro e w' ⟨rfl, rfl⟩)
      | (go_at_call 52; refine (waits_any b k hk (A k) _ (by go_simp) (by go_simp) (by go_simp) (by go_simp)).mono ?_; rintro e w' ⟨rfl, rfl⟩))
    exact bodyPost_ret (v := .tuple #[viewV (A k) (H k), .int .i64 0]) (by simp [results, Tryz.results20, go_sem]) rfl ⟨rfl, ((Touch.refl _ _).alloc _).alloc _⟩

set_option maxHeartbeats 400000 in
theorem pendingR_any (b n : Nat) (A H M : Nat → Int) (w : World) (h : RN w b n A H M) (hn : n ≤ 5) :
    Calls Tryz.prog 23 #[.pointer (some ⟨b, 0, none⟩)] w fun e w' => e = .returned (.slice none 0 0) ∧ w' = w := by
  obtain ⟨a, cap, hp⟩ := h.par
  have hcl := h.closed
  have hfr := h.frames
  clear h
  go_enter Tryz.func23, Tryz.ntmps23
  go_wp2
  go_loop [3, 4] (fun p i => ∃ k : Nat, k ≤ n + 1 ∧ i = .int .i64 k ∧ p = .slice none 0 0) (fun _ i => n + 1 - (intOf i).toNat)
  case atStart => exact ⟨0, by omega, rfl, rfl⟩
  case round =>
    obtain ⟨k, hk, rfl, rfl⟩ := hrel
    by_cases hlt : k < n + 1
    · go_wp2
      go_loop [3, 5] (fun p j => ∃ q : Nat, q ≤ n + 1 ∧ j = .int .i64 q ∧ p = .slice none 0 0) (fun _ j => n + 1 - (intOf j).toNat)
      case atStart => exact ⟨0, by omega, rfl, rfl⟩
      case round =>
        obtain ⟨q, hq, rfl, rfl⟩ := hrel
        by_cases hqt : q < n + 1
        · go_wp2_with (go_at_call 62; refine (waiting_any b _ _ _ hfr).mono ?_; rintro e w' ⟨rfl, rfl⟩)
          go_round
          case rel => exact ⟨q + 1, by omega, by go_num, rfl⟩
          case measure => simp [intOf]; omega
        · go_wp2
          go_round
          case rel => exact ⟨k + 1, by omega, by go_num, rfl⟩
          case measure => simp [intOf]; omega
    · go_wp2
      go_ret
      exact ⟨rfl, rfl⟩

set_option maxRecDepth 100000 in
set_option maxHeartbeats 400000 in
theorem attachR_no (b n : Nat) (A H M : Nat → Int) (c x : Int) (w : World) (h : RN w b n A H M) (_hn : n ≤ 5) (hs : Sane A) (hne : attE n A c x ≠ 0) :
    Calls Tryz.prog 15 #[.pointer (some ⟨b, 0, none⟩), .int .i64 c, .int .i64 x] w fun e w' => e = .returned (.int .i64 (attE n A c x)) ∧ w' = w := by
  obtain ⟨a, cap, hp⟩ := h.par
  have hcl := h.closed
  have hct : chk true = 0 := rfl
  have hcf : chk false = 1 := rfl
  cases hg : cliB c with
  | false =>
    have he : attE n A c x = 1 := by simp [attE, hg]
    rw [he]
    clear h he hne
    go_enter Tryz.func15, Tryz.ntmps15
    go_wp2_with (go_at_call 38; refine (asked_any _ _ _ hcl).mono ?_; rintro e w' ⟨rfl, rfl⟩)
    go_ret
    exact ⟨rfl, rfl⟩
  | true =>
    obtain ⟨k, rfl, hk⟩ := cli_nat hg
    by_cases h0 : x < 0
    · have he : attE n A k x = 1 := by simp [attE, hasB, Int.not_le.2 h0]
      rw [he]
      clear h he hne
      go_enter Tryz.func15, Tryz.ntmps15
      go_wp2_with (go_at_call 38; refine (asked_any _ _ _ hcl).mono ?_; rintro e w' ⟨rfl, rfl⟩)
      go_ret
      exact ⟨rfl, rfl⟩
    · by_cases h1 : (n : Int) + 1 ≤ x
      · have he : attE n A k x = 1 := by simp [attE, hasB, Int.not_lt.2 h1]
        rw [he]
        clear h he hne
        go_enter Tryz.func15, Tryz.ntmps15
        go_wp2_with (go_at_call 38; refine (asked_any _ _ _ hcl).mono ?_; rintro e w' ⟨rfl, rfl⟩)
        go_ret
        exact ⟨rfl, rfl⟩
      · by_cases hA : A k = -1
        · exact absurd (by simp [attE, hg, hasB, hA]; omega) hne
        · have he : attE n A k x = 4 := by
            have : (cliB k && hasB n x) = true := by simp [hg, hasB]; omega
            simp [attE, this, hA]
          have hA' : 0 ≤ A k := by have := hs k hk; omega
          have hat := h.here k hk
          rw [he]
          clear h he hne hA
          go_enter Tryz.func15, Tryz.ntmps15
          go_wp2_with (go_at_call 38; refine (asked_any _ _ _ hcl).mono ?_; rintro e w' ⟨rfl, rfl⟩)
          go_ret
          exact ⟨rfl, rfl⟩

set_option maxRecDepth 100000 in
set_option maxHeartbeats 1000000 in
theorem attachR_ok (b n : Nat) (A H M : Nat → Int) (k : Nat) (x : Int) (w : World) (h : RN w b n A H M) (_hn : n ≤ 5) (hk : k < 4) (h0 : 0 ≤ x) (h1 : x < n + 1) (hA : A k = -1) :
    Calls Tryz.prog 15 #[.pointer (some ⟨b, 0, none⟩), .int .i64 k, .int .i64 x] w fun e w' => e = .returned (.int .i64 0) ∧ Touch (fun k => k = b) w w' ∧ RN w' b n (upd A k x) (upd H k x) M := by
  obtain ⟨a, cap, hp⟩ := h.par
  have hcl := h.closed
  have hct : chk true = 0 := rfl
  have hg : cliB k = true := by simp [cliB]; omega
  have hat := h.here k hk
  rw [hA] at hat
  have b1 := h.used0 k hk
  have b2 := h.used1 k hk
  have bh := h.home k hk
  obtain ⟨s, bs⟩ := h.stays k hk
  have hfr := h.frames
  have f0 := h.fr (3 + k * 13)
  have f1 := h.fr (3 + k * 13 + 1)
  have f2 := h.fr (3 + k * 13 + 10)
  have hX := hide h
  clear h hA
  go_enter Tryz.func15, Tryz.ntmps15
  go_wp2_with (go_at_call 38; refine (asked_any _ _ _ hcl).mono ?_; rintro e w' ⟨rfl, rfl⟩)
  refine wp_loop_rounds 3 ?_; rw [rounds_succ]
  go_wp2
  rw [rounds_succ]
  go_wp2
  rw [rounds_succ]
  go_wp2
  go_ret
  refine ⟨rfl, ((Touch.set1 _ b _ _).trans (Touch.set1 _ b _ _)).trans (Touch.set1 _ b _ _), ?_⟩
  exact (((unhide hX).setAt k hk x).setHome k hk x).setStays k hk _

/-- ATTACH, of the document. -/
theorem attachR_any (b n : Nat) (A H M : Nat → Int) (c x : Int) (w : World) (h : RN w b n A H M) (hn : n ≤ 5) (hs : Sane A) :
    Calls Tryz.prog 15 #[.pointer (some ⟨b, 0, none⟩), .int .i64 c, .int .i64 x] w fun e w' => e = .returned (.int .i64 (attE n A c x)) ∧ Touch (fun k => k = b) w w' ∧ RN w' b n (attS n A c x A) (attS n A c x H) M := by
  by_cases he : attE n A c x = 0
  · have hg : (cliB c && hasB n x) = true := by
      cases hg : (cliB c && hasB n x) with
      | true => rfl
      | false => simp [attE, hg] at he
    obtain ⟨g1, g2⟩ : cliB c = true ∧ hasB n x = true := by simpa using hg
    obtain ⟨k, rfl, hk⟩ := cli_nat g1
    have hA : A k = -1 := by
      simp [attE, hg] at he
      exact he
    simp [hasB] at g2
    simp only [attS, he, if_true]
    exact attachR_ok b n A H M k x w h hn hk g2.1 g2.2 hA
  · refine (attachR_no b n A H M c x w h hn hs he).mono ?_
    rintro e w' ⟨rfl, rfl⟩
    refine ⟨rfl, Touch.refl _ _, ?_⟩
    simp only [attS, he, if_false]
    exact h

end Go.Proofs.YtodfcpblcpogiaaGreat

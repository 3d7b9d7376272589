/-
  The document's net: how it lies in memory, and what its calls do to it.
-/
import Derived.Test.YtodfcpblcpogiaaGreatNetX2
namespace Go.Proofs.YtodfcpblcpogiaaGreat
open Go.RowKit

/-- A client of the document's net that has never had a subscription. -/
def clist (a h s m : Int) : List Value := [.int .i64 a, .int .i64 h, .bool false, .bool false, .int .i64 (-1), .int .i64 (-1), .slice none 0 0, .slice none 0 0, .slice none 0 0, .slice none 0 0, .int .i64 s, .int .i64 m, .slice none 0 0]

structure RN (w : World) (b n : Nat) (A H M : Nat → Int) : Prop where
  par : ∃ a cap, w.cell? ⟨b, 0, none⟩ = some (.slice a (n + 1) cap)
  frames : w.cell? ⟨b, 1, none⟩ = some (.slice none 0 0)
  facts : w.cell? ⟨b, 2, none⟩ = some (.slice none 0 0)
  cl : ∀ c, c < 4 → ∃ s, w.rangeAt b (3 + c * 13) (clist (A c) (H c) s (M c))
  closed : w.cell? ⟨b, 55, none⟩ = some (.bool false)
  fr : ∀ o, w.frozen? ⟨b, o, none⟩ = false

theorem RN.lt {w : World} {b n : Nat} {A H M : Nat → Int} (h : RN w b n A H M) : b < w.heap.size := block_lt_of_cell h.closed

theorem RN.here {w : World} {b n : Nat} {A H M : Nat → Int} (h : RN w b n A H M) (c : Nat) (hc : c < 4) : w.cell? ⟨b, 3 + c * 13, none⟩ = some (.int .i64 (A c)) := by
  obtain ⟨s, hs⟩ := h.cl c hc; exact hs 0 _ rfl
theorem RN.home {w : World} {b n : Nat} {A H M : Nat → Int} (h : RN w b n A H M) (c : Nat) (hc : c < 4) : w.cell? ⟨b, 3 + c * 13 + 1, none⟩ = some (.int .i64 (H c)) := by
  obtain ⟨s, hs⟩ := h.cl c hc; exact hs 1 _ rfl
theorem RN.used0 {w : World} {b n : Nat} {A H M : Nat → Int} (h : RN w b n A H M) (c : Nat) (hc : c < 4) : w.cell? ⟨b, 3 + c * 13 + 2, none⟩ = some (.bool false) := by
  obtain ⟨s, hs⟩ := h.cl c hc; exact hs 2 _ rfl
theorem RN.used1 {w : World} {b n : Nat} {A H M : Nat → Int} (h : RN w b n A H M) (c : Nat) (hc : c < 4) : w.cell? ⟨b, 3 + c * 13 + 2 + 1, none⟩ = some (.bool false) := by
  obtain ⟨s, hs⟩ := h.cl c hc; exact hs 3 _ rfl
theorem RN.stays {w : World} {b n : Nat} {A H M : Nat → Int} (h : RN w b n A H M) (c : Nat) (hc : c < 4) : ∃ s, w.cell? ⟨b, 3 + c * 13 + 10, none⟩ = some (.int .i64 s) := by
  obtain ⟨s, hs⟩ := h.cl c hc; exact ⟨s, hs 10 _ rfl⟩
theorem RN.many {w : World} {b n : Nat} {A H M : Nat → Int} (h : RN w b n A H M) (c : Nat) (hc : c < 4) : w.cell? ⟨b, 3 + c * 13 + 11, none⟩ = some (.int .i64 (M c)) := by
  obtain ⟨s, hs⟩ := h.cl c hc; exact hs 11 _ rfl

theorem RN.keep {S : Nat → Prop} {w w' : World} {b n : Nat} {A H M : Nat → Int} (h : RN w b n A H M) (t : Touch S w w') (hb : ¬ S b) : RN w' b n A H M := by
  have hc : ∀ o v, w.cell? ⟨b, o, none⟩ = some v → w'.cell? ⟨b, o, none⟩ = some v := fun o v hv => t.cell (p := ⟨b, o, none⟩) hb hv
  obtain ⟨a, cap, ht⟩ := h.par
  refine ⟨⟨a, cap, hc _ _ ht⟩, hc _ _ h.frames, hc _ _ h.facts, fun c k => ?_, hc _ _ h.closed, fun o => (World.frozen?_of_block (w := w) (a := ⟨b, o, none⟩) (t.block b h.lt hb)).trans (h.fr o)⟩
  obtain ⟨s, hs⟩ := h.cl c k
  exact ⟨s, fun j v hj => hc _ _ (hs j v hj)⟩

theorem RN.calm {w w' : World} {b n : Nat} {A H M : Nat → Int} (h : RN w b n A H M) (t : Calm w w') : RN w' b n A H M := h.keep t (fun f => f)

theorem rangeAt_set {w : World} {b o : Nat} {cs : List Value} (h : w.rangeAt b o cs) (j : Nat) (v : Value) : (w.setCell ⟨b, o + j, none⟩ v).rangeAt b o (cs.set j v) := by
  intro i u hi
  by_cases e : i = j
  · subst e
    rw [List.getElem?_set_self'] at hi
    cases hj : cs[i]? with
    | none => rw [hj] at hi; cases hi
    | some u' =>
      rw [hj] at hi
      cases hi
      exact World.cell?_setCell_same w _ _ (h i u' hj)
  · rw [List.getElem?_set_ne (by omega)] at hi
    exact (World.cell?_setCell_other w _ _ _ (by intro x; have := congrArg Addr.off x; simp at this; omega)).trans (h i u hi)

theorem rangeAt_other {w : World} {b o p : Nat} {cs : List Value} (h : w.rangeAt b o cs) (hp : p < o ∨ o + cs.length ≤ p) (v : Value) : (w.setCell ⟨b, p, none⟩ v).rangeAt b o cs := by
  intro i u hi
  have hl : i < cs.length := by
    by_cases hj' : i < cs.length
    · exact hj'
    · rw [List.getElem?_eq_none (by omega)] at hi; cases hi
  exact (World.cell?_setCell_other w _ _ _ (by intro x; have := congrArg Addr.off x; simp at this; omega)).trans (h i u hi)

/-- A store into one cell of a client. -/
theorem RN.store {w : World} {b n : Nat} {A H M A' H' M' : Nat → Int} (h : RN w b n A H M) (c0 j : Nat) (hc0 : c0 < 4) (hj : j < 13) (v : Value)
    (ho : ∀ s, ∃ s', (clist (A c0) (H c0) s (M c0)).set j v = clist (A' c0) (H' c0) s' (M' c0)) (hr : ∀ c, c ≠ c0 → A' c = A c ∧ H' c = H c ∧ M' c = M c) :
    RN (w.setCell ⟨b, 3 + c0 * 13 + j, none⟩ v) b n A' H' M' := by
  have hne : ∀ o' u, w.cell? ⟨b, o', none⟩ = some u → o' ≠ 3 + c0 * 13 + j → (w.setCell ⟨b, 3 + c0 * 13 + j, none⟩ v).cell? ⟨b, o', none⟩ = some u := fun o' u hu hn =>
    (World.cell?_setCell_other w _ _ _ (by intro e; cases e; exact hn rfl)).trans hu
  obtain ⟨a, cap, ht⟩ := h.par
  refine ⟨⟨a, cap, hne _ _ ht (by omega)⟩, hne _ _ h.frames (by omega), hne _ _ h.facts (by omega), fun c hc => ?_, hne _ _ h.closed (by omega), fun o' => by rw [World.frozen?_setCell]; exact h.fr o'⟩
  obtain ⟨s, hs⟩ := h.cl c hc
  by_cases e : c = c0
  · subst e
    obtain ⟨s', hs'⟩ := ho s
    exact ⟨s', by rw [← hs']; exact rangeAt_set hs j v⟩
  · obtain ⟨e1, e2, e3⟩ := hr c e
    refine ⟨s, ?_⟩
    rw [e1, e2, e3]
    exact rangeAt_other hs (by have : (clist (A c) (H c) s (M c)).length = 13 := rfl; omega) v

theorem upd_same (f : Nat → Int) (c : Nat) (v : Int) : upd f c v c = v := by simp [upd]
theorem upd_other (f : Nat → Int) (c d : Nat) (v : Int) (h : d ≠ c) : upd f c v d = f d := by simp [upd, h]

theorem RN.setAt {w : World} {b n : Nat} {A H M : Nat → Int} (h : RN w b n A H M) (c : Nat) (hc : c < 4) (v : Int) : RN (w.setCell ⟨b, 3 + c * 13, none⟩ (.int .i64 v)) b n (upd A c v) H M :=
  h.store c 0 hc (by omega) _ (fun s => ⟨s, by rw [upd_same]; rfl⟩) (fun d hd => ⟨upd_other _ _ _ _ hd, rfl, rfl⟩)
theorem RN.setHome {w : World} {b n : Nat} {A H M : Nat → Int} (h : RN w b n A H M) (c : Nat) (hc : c < 4) (v : Int) : RN (w.setCell ⟨b, 3 + c * 13 + 1, none⟩ (.int .i64 v)) b n A (upd H c v) M :=
  h.store c 1 hc (by omega) _ (fun s => ⟨s, by rw [upd_same]; rfl⟩) (fun d hd => ⟨rfl, upd_other _ _ _ _ hd, rfl⟩)
theorem RN.setStays {w : World} {b n : Nat} {A H M : Nat → Int} (h : RN w b n A H M) (c : Nat) (hc : c < 4) (v : Int) : RN (w.setCell ⟨b, 3 + c * 13 + 10, none⟩ (.int .i64 v)) b n A H M :=
  h.store c 10 hc (by omega) _ (fun s => ⟨v, rfl⟩) (fun d hd => ⟨rfl, rfl, rfl⟩)
theorem RN.setMany {w : World} {b n : Nat} {A H M : Nat → Int} (h : RN w b n A H M) (c : Nat) (hc : c < 4) (v : Int) : RN (w.setCell ⟨b, 3 + c * 13 + 11, none⟩ (.int .i64 v)) b n A H (upd M c v) :=
  h.store c 11 hc (by omega) _ (fun s => ⟨s, by rw [upd_same]; rfl⟩) (fun d hd => ⟨rfl, rfl, upd_other _ _ _ _ hd⟩)

/-- still's answer. -/
def stillE (a : Int) : Int := if a < 0 then 3 else 0

set_option maxHeartbeats 400000 in
theorem still_any (b n : Nat) (A H M : Nat → Int) (c : Nat) (w : World) (h : RN w b n A H M) (hc : c < 4) :
    Calls Tryz.prog 46 #[.pointer (some ⟨b, 0, none⟩), .int .i64 c] w fun e w' => e = .returned (.int .i64 (stillE (A c))) ∧ w' = w := by
  have h0 := h.here c hc
  have h1 := h.used0 c hc
  have h2 := h.used1 c hc
  have h3 := h.facts
  clear h
  by_cases hd : A c < 0
  · have he : stillE (A c) = 3 := by simp [stillE, hd]
    rw [he]
    clear he
    go_enter Tryz.func46, Tryz.ntmps46
    go_wp2
    go_ret
    exact ⟨rfl, rfl⟩
  · have he : stillE (A c) = 0 := by simp [stillE, hd]
    rw [he]
    clear he
    go_enter Tryz.func46, Tryz.ntmps46
    go_wp2_with (go_at_call 52; refine (waits_any b c hc (A c) _ h3 h0 h1 h2).mono ?_; rintro e w' ⟨rfl, rfl⟩)
    go_ret
    exact ⟨rfl, rfl⟩

/-- Where a client is: nowhere, or at a broker. -/
def Sane (A : Nat → Int) : Prop := ∀ c, c < 4 → A c = -1 ∨ (0 ≤ A c ∧ A c ≤ 5)

set_option maxHeartbeats 400000 in
theorem detachR_any (b n : Nat) (A H M : Nat → Int) (c : Int) (w : World) (h : RN w b n A H M) (hs : Sane A) :
    Calls Tryz.prog 17 #[.pointer (some ⟨b, 0, none⟩), .int .i64 c] w fun e w' => e = .returned (.int .i64 (detE A c)) ∧ Touch (fun k => k = b) w w' ∧ RN w' b n (detS A c) H M := by
  have hcl := h.closed
  have hct : chk true = 0 := rfl
  have hcf : chk false = 1 := rfl
  cases hg : cliB c with
  | false =>
    have he : detE A c = 1 := by simp [detE, hg]
    have hX := hide h
    simp only [detS, he]
    clear h he
    go_enter Tryz.func17, Tryz.ntmps17
    go_wp2_with (go_at_call 38; refine (asked_any _ _ _ hcl).mono ?_; rintro e w' ⟨rfl, rfl⟩)
    go_ret
    exact ⟨rfl, Touch.refl _ _, unhide hX⟩
  | true =>
    obtain ⟨k, rfl, hk⟩ := cli_nat hg
    by_cases hA : A k = -1
    · have he : detE A k = 3 := by simp [detE, hg, hA]
      have hX := hide h
      have hA' : stillE (A k) = 3 := by simp [stillE, hA]
      simp only [detS, he]
      clear h he hA
      go_enter Tryz.func17, Tryz.ntmps17
      go_wp2_with (first
        | (go_at_call 38; refine (asked_any _ _ _ hcl).mono ?_; rintro e w' ⟨rfl, rfl⟩)
        | (go_at_call 46; refine (still_any b n A H M k _ (unhide hX) hk).mono ?_; rintro e w' ⟨rfl, rfl⟩))
      go_ret
      exact ⟨rfl, Touch.refl _ _, unhide hX⟩
    · have he : detE A k = 0 := by simp [detE, hg, hA]
      have hX := hide h
      have hA' : stillE (A k) = 0 := by have := hs k hk; simp [stillE]; omega
      have f0 := h.fr (3 + k * 13)
      have hat := h.here k hk
      simp only [detS, he]
      clear h he hA
      go_enter Tryz.func17, Tryz.ntmps17
      go_wp2_with (first
        | (go_at_call 38; refine (asked_any _ _ _ hcl).mono ?_; rintro e w' ⟨rfl, rfl⟩)
        | (go_at_call 46; refine (still_any b n A H M k _ (unhide hX) hk).mono ?_; rintro e w' ⟨rfl, rfl⟩))
      go_ret
      exact ⟨rfl, Touch.set1 _ b _ _, (unhide hX).setAt k hk _⟩

end Go.Proofs.YtodfcpblcpogiaaGreat

/-
  The program's net: how it lies in memory, and what its calls do to it.
-/
import Derived.Test.YtjenohmfplpiaaaMem
import Derived.Deep.RegionWith
namespace Go.Proofs.Ytjenohmfplpiaaa
open Go.RowKit

def upd (f : Nat → Int) (c : Nat) (v : Int) : Nat → Int := fun i => if i = c then v else f i

/-- The program's net in block b: n parents; where clients are, their homes, how many events they published. -/
structure XN (w : World) (b n : Nat) (A H M : Nat → Int) : Prop where
  closed : w.cell? ⟨b, 0, none⟩ = some (.bool false)
  tree : ∃ a cap, w.cell? ⟨b, 1, none⟩ = some (.slice a n cap)
  links : ∃ qs : List Value, w.rangeAt b 2 qs ∧ qs.length = 36 ∧ ∀ v, v ∈ qs → Idle w v
  here : ∀ c, c < 4 → w.cell? ⟨b, 38 + c * 4, none⟩ = some (.int .i64 (A c))
  home : ∀ c, c < 4 → w.cell? ⟨b, 38 + c * 4 + 1, none⟩ = some (.int .i64 (H c))
  pub : ∀ c, c < 4 → w.cell? ⟨b, 38 + c * 4 + 2, none⟩ = some (.int .i64 (M c))
  fr : ∀ o, w.frozen? ⟨b, o, none⟩ = false

theorem block_of_cell {w : World} {b o : Nat} {v : Value} (h : w.cell? ⟨b, o, none⟩ = some v) : ∃ cs t f, w.heap[b]? = some (.cells cs t f) := by
  unfold World.cell? at h
  split at h
  · exact ⟨_, _, _, by assumption⟩
  · cases h

theorem Touch.set1 (w : World) (b o : Nat) (v : Value) : Touch (fun k => k = b) w (w.setCell ⟨b, o, none⟩ v) :=
  (Touch.refl (fun k => k = b) w).setCell (p := ⟨b, o, none⟩) (fun _ => rfl) v

theorem XN.lt {w : World} {b n : Nat} {A H M : Nat → Int} (h : XN w b n A H M) : b < w.heap.size := block_lt_of_cell h.closed

theorem XN.keep {S : Nat → Prop} {w w' : World} {b n : Nat} {A H M : Nat → Int} (h : XN w b n A H M) (t : Touch S w w') (hb : ¬ S b) (hs : ∀ k cap, w.heap[k]? = some (.chan cap #[] false 0 0 false) → ¬ S k) : XN w' b n A H M := by
  have hc : ∀ o v, w.cell? ⟨b, o, none⟩ = some v → w'.cell? ⟨b, o, none⟩ = some v := fun o v hv => t.cell (p := ⟨b, o, none⟩) hb hv
  obtain ⟨a, cap, ht⟩ := h.tree
  obtain ⟨qs, h1, h2, h3⟩ := h.links
  exact ⟨hc _ _ h.closed, ⟨a, cap, hc _ _ ht⟩, ⟨qs, fun j v hj => hc _ _ (h1 j v hj), h2, fun v hv => (h3 v hv).keep t hs⟩, fun c k => hc _ _ (h.here c k), fun c k => hc _ _ (h.home c k), fun c k => hc _ _ (h.pub c k),
    fun o => (World.frozen?_of_block (w := w) (a := ⟨b, o, none⟩) (t.block b h.lt hb)).trans (h.fr o)⟩

theorem XN.calm {w w' : World} {b n : Nat} {A H M : Nat → Int} (h : XN w b n A H M) (t : Calm w w') : XN w' b n A H M := h.keep t (fun f => f) (fun _ _ _ f => f)

/-- Stores into a client's three numbers. -/
theorem XN.store {w : World} {b n : Nat} {A H M A' H' M' : Nat → Int} (h : XN w b n A H M) (o : Nat) (v : Int) (c0 : Nat) (hc0 : c0 < 4)
    (ho : (o = 38 + c0 * 4 ∧ A' = upd A c0 v ∧ H' = H ∧ M' = M) ∨ (o = 38 + c0 * 4 + 1 ∧ A' = A ∧ H' = upd H c0 v ∧ M' = M) ∨ (o = 38 + c0 * 4 + 2 ∧ A' = A ∧ H' = H ∧ M' = upd M c0 v)) :
    XN (w.setCell ⟨b, o, none⟩ (.int .i64 v)) b n A' H' M' := by
  have ho38 : 38 ≤ o := by omega
  have hne : ∀ o' u, w.cell? ⟨b, o', none⟩ = some u → o' ≠ o → (w.setCell ⟨b, o, none⟩ (.int .i64 v)).cell? ⟨b, o', none⟩ = some u := fun o' u hu hn =>
    (World.cell?_setCell_other w _ _ _ (by intro e; cases e; exact hn rfl)).trans hu
  have heq : ∀ u, w.cell? ⟨b, o, none⟩ = some u → (w.setCell ⟨b, o, none⟩ (.int .i64 v)).cell? ⟨b, o, none⟩ = some (.int .i64 v) := fun u hu => World.cell?_setCell_same w _ _ hu
  obtain ⟨a, cap, ht⟩ := h.tree
  obtain ⟨qs, h1, h2, h3⟩ := h.links
  have hb := block_of_cell h.closed
  refine ⟨hne _ _ h.closed (by omega), ⟨a, cap, hne _ _ ht (by omega)⟩, ⟨qs, fun j u hj => hne _ _ (h1 j u hj) ?_, h2, fun u hu => ?_⟩, ?_, ?_, ?_, fun o' => by rw [World.frozen?_setCell]; exact h.fr o'⟩
  · have : j < qs.length := by
      by_cases hj' : j < qs.length
      · exact hj'
      · rw [List.getElem?_eq_none (by omega)] at hj; cases hj
    omega
  · refine (h3 u hu).keep (S := fun k => k = b) (Touch.set1 w b o _) ?_
    intro k cap hk e
    subst e
    obtain ⟨cs, t, f, hcs⟩ := hb
    rw [hcs] at hk; cases hk
  · intro c hc
    rcases ho with ⟨rfl, rfl, rfl, rfl⟩ | ⟨rfl, rfl, rfl, rfl⟩ | ⟨rfl, rfl, rfl, rfl⟩
    · by_cases e : c = c0
      · subst e; simp only [upd, if_true]; exact heq _ (h.here _ hc)
      · simp only [upd, if_neg e]; exact hne _ _ (h.here _ hc) (by omega)
    · exact hne _ _ (h.here _ hc) (by omega)
    · exact hne _ _ (h.here _ hc) (by omega)
  · intro c hc
    rcases ho with ⟨rfl, rfl, rfl, rfl⟩ | ⟨rfl, rfl, rfl, rfl⟩ | ⟨rfl, rfl, rfl, rfl⟩
    · exact hne _ _ (h.home _ hc) (by omega)
    · by_cases e : c = c0
      · subst e; simp only [upd, if_true]; exact heq _ (h.home _ hc)
      · simp only [upd, if_neg e]; exact hne _ _ (h.home _ hc) (by omega)
    · exact hne _ _ (h.home _ hc) (by omega)
  · intro c hc
    rcases ho with ⟨rfl, rfl, rfl, rfl⟩ | ⟨rfl, rfl, rfl, rfl⟩ | ⟨rfl, rfl, rfl, rfl⟩
    · exact hne _ _ (h.pub _ hc) (by omega)
    · exact hne _ _ (h.pub _ hc) (by omega)
    · by_cases e : c = c0
      · subst e; simp only [upd, if_true]; exact heq _ (h.pub _ hc)
      · simp only [upd, if_neg e]; exact hne _ _ (h.pub _ hc) (by omega)

theorem XN.setAt {w : World} {b n : Nat} {A H M : Nat → Int} (h : XN w b n A H M) (c : Nat) (hc : c < 4) (v : Int) : XN (w.setCell ⟨b, 38 + c * 4, none⟩ (.int .i64 v)) b n (upd A c v) H M :=
  h.store _ v c hc (Or.inl ⟨rfl, rfl, rfl, rfl⟩)
theorem XN.setHome {w : World} {b n : Nat} {A H M : Nat → Int} (h : XN w b n A H M) (c : Nat) (hc : c < 4) (v : Int) : XN (w.setCell ⟨b, 38 + c * 4 + 1, none⟩ (.int .i64 v)) b n A (upd H c v) M :=
  h.store _ v c hc (Or.inr (Or.inl ⟨rfl, rfl, rfl, rfl⟩))
theorem XN.setPub {w : World} {b n : Nat} {A H M : Nat → Int} (h : XN w b n A H M) (c : Nat) (hc : c < 4) (v : Int) : XN (w.setCell ⟨b, 38 + c * 4 + 2, none⟩ (.int .i64 v)) b n A H (upd M c v) :=
  h.store _ v c hc (Or.inr (Or.inr ⟨rfl, rfl, rfl, rfl⟩))

set_option maxHeartbeats 400000 in
theorem waitingX_any (b n : Nat) (A H M : Nat → Int) (w : World) (h : XN w b n A H M) :
    Calls Try.prog 61 #[.pointer (some ⟨b, 2, none⟩)] w fun e w' => e = .returned (.int .i64 0) ∧ Calm w w' := by
  obtain ⟨qs, h1, h2, h3⟩ := h.links
  go_enter Try.func61, Try.ntmps61
  go_wp2_with (go_at_call 55; refine (linksPending_any b qs _ h1 h2 h3).mono ?_; rintro e w' ⟨rfl, ht⟩)
  refine wp_loop_rounds 1 ?_; rw [rounds_succ]
  go_wp2
  go_ret
  exact ⟨rfl, ht⟩

set_option maxHeartbeats 400000 in
theorem full_any (b n : Nat) (A H M : Nat → Int) (w : World) (h : XN w b n A H M) :
    Calls Try.prog 31 #[.pointer (some ⟨b, 0, none⟩)] w fun e w' => e = .returned (.bool false) ∧ Calm w w' := by
  have h' := hide h
  clear h
  go_enter Try.func31, Try.ntmps31
  go_wp2_with (go_at_call 61; refine (waitingX_any b n A H M _ (unhide h')).mono ?_; rintro e w' ⟨rfl, ht⟩)
  go_ret
  exact ⟨rfl, ht⟩

set_option maxHeartbeats 400000 in
theorem pendingX_any (b n : Nat) (A H M : Nat → Int) (w : World) (h : XN w b n A H M) :
    Calls Try.prog 21 #[.pointer (some ⟨b, 0, none⟩)] w fun e w' => e = .returned (.slice none 0 0) ∧ Calm w w' := by
  obtain ⟨qs, h1, h2, h3⟩ := h.links
  go_enter Try.func21, Try.ntmps21
  go_wp2_with (go_at_call 55; refine (linksPending_any b qs _ h1 h2 h3).mono ?_; rintro e w' ⟨rfl, ht⟩)
  go_ret
  exact ⟨rfl, ht⟩

set_option maxHeartbeats 400000 in
theorem handleX_any (n at_ fr : Value) (b : Nat) (w : World) (h : w.cell? ⟨b, 0, none⟩ = some (.int .i64 0)) :
    Calls Try.prog 43 #[n, at_, fr, .pointer (some ⟨b, 0, none⟩)] w fun e w' => e = .returned (.tuple #[]) ∧ Calm w w' := by
  have hb : b < w.heap.size := block_lt_of_cell h
  go_enter Try.func43, Try.ntmps43
  go_wp2
  go_end0
  go_wp2
  go_end0
  exact ⟨rfl, (Touch.refl _ _).alloc _⟩

/-- Attach's answer. -/
def attE (n : Nat) (A : Nat → Int) (c b : Int) : Int := if (cliB c && hasB n b) = true then (if A c.toNat = -1 then 0 else 4) else 1
def attS (n : Nat) (A : Nat → Int) (c b : Int) (F : Nat → Int) : Nat → Int := if attE n A c b = 0 then upd F c.toNat b else F

theorem cli_nat {c : Int} (h : cliB c = true) : ∃ k : Nat, c = k ∧ k < 4 := by
  simp [cliB] at h
  exact ⟨c.toNat, by omega, by omega⟩

set_option maxHeartbeats 400000 in
theorem attachX_arg (b n : Nat) (A H M : Nat → Int) (c x : Int) (w : World) (h : XN w b n A H M) (hn : n ≤ 5) (hbad : (cliB c && hasB n x) = false) :
    Calls Try.prog 12 #[.pointer (some ⟨b, 0, none⟩), .int .i64 c, .int .i64 x] w fun e w' => e = .returned (.int .i64 1) ∧ Calm w w' := by
  obtain ⟨a, cap, ht⟩ := h.tree
  have hcl := h.closed
  clear h
  cases hc : cliB c with
  | false =>
    go_enter Try.func12, Try.ntmps12
    go_wp2_with (first
      | (go_at_call 25; refine (isClient_any _ _).mono ?_; rintro e w' ⟨rfl, rfl⟩)
      | (go_at_call 24; refine (check_any _ _ _ hcl).mono ?_; rintro e w' ⟨rfl, rfl⟩))
    go_ret
    exact ⟨rfl, Touch.refl _ _⟩
  | true =>
    have hx : hasB n x = false := by simpa [hc] using hbad
    go_enter Try.func12, Try.ntmps12
    go_wp2_with (first
      | (go_at_call 25; refine (isClient_any _ _).mono ?_; rintro e w' ⟨rfl, rfl⟩)
      | (go_at_call 29; refine (has_any _ _ _ _ _ hn).mono ?_; rintro e w1 ⟨rfl, hb1⟩))
    have hcl1 := (Touch.of_below hb1).cell (p := ⟨b, 0, none⟩) (fun f => f) hcl
    go_wp2_with (go_at_call 24; refine (check_any _ _ _ hcl1).mono ?_; rintro e w' ⟨rfl, rfl⟩)
    go_ret
    exact ⟨rfl, Touch.of_below hb1⟩

set_option maxHeartbeats 400000 in
theorem attachX_here (b n : Nat) (A H M : Nat → Int) (c : Nat) (x : Int) (w : World) (h : XN w b n A H M) (hn : n ≤ 5) (hc4 : c < 4) (hx : hasB n x = true) (hA : (A c == -1) = false) :
    Calls Try.prog 12 #[.pointer (some ⟨b, 0, none⟩), .int .i64 c, .int .i64 x] w fun e w' => e = .returned (.int .i64 4) ∧ Calm w w' := by
  obtain ⟨a, cap, ht⟩ := h.tree
  have hcl := h.closed
  have hat := h.here c hc4
  have hc : cliB c = true := by simp [cliB]; omega
  clear h
  go_enter Try.func12, Try.ntmps12
  go_wp2_with (first
    | (go_at_call 25; refine (isClient_any _ _).mono ?_; rintro e w' ⟨rfl, rfl⟩)
    | (go_at_call 29; refine (has_any _ _ _ _ _ hn).mono ?_; rintro e w1 ⟨rfl, hb1⟩))
  have hcl1 := (Touch.of_below hb1).cell (p := ⟨b, 0, none⟩) (fun f => f) hcl
  have hat1 := (Touch.of_below hb1).cell (p := ⟨b, 38 + c * 4, none⟩) (fun f => f) hat
  go_wp2_with (first
    | (go_at_call 24; refine (check_any _ _ _ hcl1).mono ?_; rintro e w' ⟨rfl, rfl⟩)
    | (go_at_call 30; refine (away_any _ _ _ _ hat1).mono ?_; rintro e w' ⟨rfl, rfl⟩))
  go_ret
  exact ⟨rfl, Touch.of_below hb1⟩

set_option maxHeartbeats 400000 in
theorem attachX_ok (b n : Nat) (A H M : Nat → Int) (c : Nat) (x : Int) (w : World) (h : XN w b n A H M) (hn : n ≤ 5) (hc4 : c < 4) (hx : hasB n x = true) (hA : (A c == -1) = true) :
    Calls Try.prog 12 #[.pointer (some ⟨b, 0, none⟩), .int .i64 c, .int .i64 x] w fun e w' => e = .returned (.int .i64 0) ∧ Touch (fun k => k = b) w w' ∧ XN w' b n (upd A c x) (upd H c x) M := by
  obtain ⟨a, cap, ht⟩ := h.tree
  have hcl := h.closed
  have hat := h.here c hc4
  have hc : cliB c = true := by simp [cliB]; omega
  have hX := hide h
  clear h
  go_enter Try.func12, Try.ntmps12
  go_wp2_with (first
    | (go_at_call 25; refine (isClient_any _ _).mono ?_; rintro e w' ⟨rfl, rfl⟩)
    | (go_at_call 29; refine (has_any _ _ _ _ _ hn).mono ?_; rintro e w1 ⟨rfl, hb1⟩))
  have hcl1 := (Touch.of_below hb1).cell (p := ⟨b, 0, none⟩) (fun f => f) hcl
  have hat1 := (Touch.of_below hb1).cell (p := ⟨b, 38 + c * 4, none⟩) (fun f => f) hat
  have hX1 := hide ((unhide hX).calm (Touch.of_below hb1))
  go_wp2_with (first
    | (go_at_call 24; refine (check_any _ _ _ hcl1).mono ?_; rintro e w' ⟨rfl, rfl⟩)
    | (go_at_call 30; refine (away_any _ _ _ _ hat1).mono ?_; rintro e w' ⟨rfl, rfl⟩)
    | (go_at_call 31; refine (full_any b n A H M _ (unhide hX1)).mono ?_; rintro e w2 ⟨rfl, ht2⟩))
  have hX2 := (unhide hX1).calm ht2
  have q0 := hX2.here c hc4
  have q1 := hX2.home c hc4
  have f0 := hX2.fr (38 + c * 4)
  have f1 := hX2.fr (38 + c * 4 + 1)
  have HX2 := hide hX2
  clear hX2
  go_wp2_with (go_at_call 32; refine (come_any _ _ _ _ _ _ q0 q1 f0 f1).mono ?_; rintro e w3 ⟨rfl, rfl⟩)
  go_ret
  refine ⟨rfl, ?_, ((unhide HX2).setAt c hc4 x).setHome c hc4 x⟩
  exact ((((Touch.of_below hb1).calm ht2).mono (fun _ _ f => f.elim)).trans (Touch.set1 _ b _ _)).trans (Touch.set1 _ b _ _)

/-- ATTACH, of the program. -/
theorem attachX_any (b n : Nat) (A H M : Nat → Int) (c x : Int) (w : World) (h : XN w b n A H M) (hn : n ≤ 5) :
    Calls Try.prog 12 #[.pointer (some ⟨b, 0, none⟩), .int .i64 c, .int .i64 x] w fun e w' => e = .returned (.int .i64 (attE n A c x)) ∧ Touch (fun k => k = b) w w' ∧ XN w' b n (attS n A c x A) (attS n A c x H) M := by
  cases hg : (cliB c && hasB n x) with
  | false =>
    have he : attE n A c x = 1 := by simp [attE, hg]
    refine (attachX_arg b n A H M c x w h hn hg).mono ?_
    rintro e w' ⟨rfl, ht⟩
    refine ⟨by rw [he], ht.mono (fun _ _ f => f.elim), ?_⟩
    simp only [attS, he]
    exact h.calm ht
  | true =>
    obtain ⟨h1, h2⟩ : cliB c = true ∧ hasB n x = true := by simpa using hg
    obtain ⟨k, rfl, hk⟩ := cli_nat h1
    by_cases hA : A k = -1
    · have he : attE n A k x = 0 := by simp [attE, hg, hA]
      refine (attachX_ok b n A H M k x w h hn hk h2 (by simp [hA])).mono ?_
      rintro e w' ⟨rfl, ht, hx⟩
      refine ⟨by rw [he], ht, ?_⟩
      simp only [attS, he]
      exact hx
    · have he : attE n A k x = 4 := by simp [attE, hg, hA]
      refine (attachX_here b n A H M k x w h hn hk h2 (by simp [hA])).mono ?_
      rintro e w' ⟨rfl, ht⟩
      refine ⟨by rw [he], ht.mono (fun _ _ f => f.elim), ?_⟩
      simp only [attS, he]
      exact h.calm ht

end Go.Proofs.Ytjenohmfplpiaaa

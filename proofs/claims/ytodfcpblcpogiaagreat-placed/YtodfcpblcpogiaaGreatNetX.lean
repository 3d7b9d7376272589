/-
  The program's net: how it lies in memory, and what its calls do to it.
-/
import Derived.Test.YtodfcpblcpogiaaGreatMem
import Derived.Deep.RegionWith
namespace Go.Proofs.YtodfcpblcpogiaaGreat
open Go.RowKit

def upd (f : Nat → Int) (c : Nat) (v : Int) : Nat → Int := fun i => if i = c then v else f i

/-- The program's net without subscriptions in block b: n parents; where clients are, their homes, how many events they published. -/
structure XN (w : World) (b n : Nat) (A H M : Nat → Int) : Prop where
  closed : w.cell? ⟨b, 0, none⟩ = some (.bool false)
  tree : ∃ a cap, w.cell? ⟨b, 1, none⟩ = some (.slice a n cap)
  links : ∃ qs : List Value, w.rangeAt b 2 qs ∧ qs.length = 36 ∧ ∀ v, v ∈ qs → Idle w v
  know : ∀ j, j < 48 → w.cell? ⟨b, 38 + j, none⟩ = some (.pointer none)
  here : ∀ c, c < 4 → w.cell? ⟨b, 86 + c * 31, none⟩ = some (.int .i64 (A c))
  home : ∀ c, c < 4 → w.cell? ⟨b, 86 + c * 31 + 1, none⟩ = some (.int .i64 (H c))
  stay : ∀ c, c < 4 → ∃ v : Int, w.cell? ⟨b, 86 + c * 31 + 2, none⟩ = some (.int .i64 v)
  pub : ∀ c, c < 4 → w.cell? ⟨b, 86 + c * 31 + 3, none⟩ = some (.int .i64 (M c))
  free : ∀ c k, c < 4 → k < 2 → w.cell? ⟨b, 86 + c * 31 + 4 + k * 13, none⟩ = some (.bool false)
  sane : ∀ c, c < 4 → A c = -1 ∨ (0 ≤ A c ∧ A c < 6)
  fr : ∀ o, w.frozen? ⟨b, o, none⟩ = false

theorem block_of_cell {w : World} {b o : Nat} {v : Value} (h : w.cell? ⟨b, o, none⟩ = some v) : ∃ cs t f, w.heap[b]? = some (.cells cs t f) := by
  unfold World.cell? at h
  split at h
  · exact ⟨_, _, _, by assumption⟩
  · cases h

theorem Touch.set1 (w : World) (b o : Nat) (v : Value) : Touch (fun k => k = b) w (w.setCell ⟨b, o, none⟩ v) :=
  (Touch.refl (fun k => k = b) w).setCell (p := ⟨b, o, none⟩) (fun _ => rfl) v

theorem XN.lt {w : World} {b n : Nat} {A H M : Nat → Int} (h : XN w b n A H M) : b < w.heap.size := block_lt_of_cell h.closed

theorem XN.keep {S : Nat → Prop} {w w' : World} {b n : Nat} {A H M : Nat → Int} (h : XN w b n A H M) (t : Touch S w w') (hb : ¬ S b) (hs : ∀ k cap, w.heap[k]? = some (.chan cap #[] false 0 0 false) → ¬ S k) : XN w' b n A H M := by
  have hc : ∀ o v, w.cell? ⟨b, o, none⟩ = some v → w'.cell? ⟨b, o, none⟩ = some v := fun o v hv => t.cell (p := ⟨b, o, none⟩) hb hv
  obtain ⟨a, cap, ht⟩ := h.tree
  obtain ⟨qs, h1, h2, h3⟩ := h.links
  exact ⟨hc _ _ h.closed, ⟨a, cap, hc _ _ ht⟩, ⟨qs, fun j v hj => hc _ _ (h1 j v hj), h2, fun v hv => (h3 v hv).keep t hs⟩, fun j hj => hc _ _ (h.know j hj), fun c k => hc _ _ (h.here c k), fun c k => hc _ _ (h.home c k), fun c k => ⟨_, hc _ _ (h.stay c k).choose_spec⟩, fun c k => hc _ _ (h.pub c k),
    fun c k h4 h5 => hc _ _ (h.free c k h4 h5), h.sane, fun o => (World.frozen?_of_block (w := w) (a := ⟨b, o, none⟩) (t.block b h.lt hb)).trans (h.fr o)⟩

theorem XN.calm {w w' : World} {b n : Nat} {A H M : Nat → Int} (h : XN w b n A H M) (t : Calm w w') : XN w' b n A H M := h.keep t (fun f => f) (fun _ _ _ f => f)

/-- Stores into a client's four numbers. -/
theorem XN.store {w : World} {b n : Nat} {A H M A' H' M' : Nat → Int} (h : XN w b n A H M) (o : Nat) (v : Int) (c0 : Nat) (hc0 : c0 < 4) (hv : o = 86 + c0 * 31 → v = -1 ∨ (0 ≤ v ∧ v < 6))
    (ho : (o = 86 + c0 * 31 ∧ A' = upd A c0 v ∧ H' = H ∧ M' = M) ∨ (o = 86 + c0 * 31 + 1 ∧ A' = A ∧ H' = upd H c0 v ∧ M' = M) ∨ (o = 86 + c0 * 31 + 2 ∧ A' = A ∧ H' = H ∧ M' = M) ∨ (o = 86 + c0 * 31 + 3 ∧ A' = A ∧ H' = H ∧ M' = upd M c0 v)) :
    XN (w.setCell ⟨b, o, none⟩ (.int .i64 v)) b n A' H' M' := by
  have ho86 : 86 ≤ o := by omega
  have hne : ∀ o' u, w.cell? ⟨b, o', none⟩ = some u → o' ≠ o → (w.setCell ⟨b, o, none⟩ (.int .i64 v)).cell? ⟨b, o', none⟩ = some u := fun o' u hu hn =>
    (World.cell?_setCell_other w _ _ _ (by intro e; cases e; exact hn rfl)).trans hu
  have heq : ∀ u, w.cell? ⟨b, o, none⟩ = some u → (w.setCell ⟨b, o, none⟩ (.int .i64 v)).cell? ⟨b, o, none⟩ = some (.int .i64 v) := fun u hu => World.cell?_setCell_same w _ _ hu
  obtain ⟨a, cap, ht⟩ := h.tree
  obtain ⟨qs, h1, h2, h3⟩ := h.links
  have hb := block_of_cell h.closed
  refine ⟨hne _ _ h.closed (by omega), ⟨a, cap, hne _ _ ht (by omega)⟩, ⟨qs, fun j u hj => hne _ _ (h1 j u hj) ?_, h2, fun u hu => ?_⟩, fun j hj => hne _ _ (h.know j hj) (by omega), ?_, ?_, ?_, ?_, ?_, ?_, fun o' => by rw [World.frozen?_setCell]; exact h.fr o'⟩
  · have : j < qs.length := by
      by_cases hj' : j < qs.length
      · exact hj'
      · rw [List.getElem?_eq_none (by omega)] at hj; cases hj
    omega
  · refine (h3 u hu).keep (S := fun k => k = b) (Touch.set1 w b o _) ?_
    intro k cap hk e
    subst e
    obtain ⟨cs, t, f, hcs⟩ := hb
    rw [hcs] at hk; cases hk
  · intro c hc
    rcases ho with ⟨rfl, rfl, rfl, rfl⟩ | ⟨rfl, rfl, rfl, rfl⟩ | ⟨rfl, rfl, rfl, rfl⟩ | ⟨rfl, rfl, rfl, rfl⟩
    · by_cases e : c = c0
      · subst e; simp only [upd, if_true]; exact heq _ (h.here _ hc)
      · simp only [upd, if_neg e]; exact hne _ _ (h.here _ hc) (by omega)
    all_goals exact hne _ _ (h.here _ hc) (by omega)
  · intro c hc
    rcases ho with ⟨rfl, rfl, rfl, rfl⟩ | ⟨rfl, rfl, rfl, rfl⟩ | ⟨rfl, rfl, rfl, rfl⟩ | ⟨rfl, rfl, rfl, rfl⟩
    · exact hne _ _ (h.home _ hc) (by omega)
    · by_cases e : c = c0
      · subst e; simp only [upd, if_true]; exact heq _ (h.home _ hc)
      · simp only [upd, if_neg e]; exact hne _ _ (h.home _ hc) (by omega)
    all_goals exact hne _ _ (h.home _ hc) (by omega)
  · intro c hc
    obtain ⟨u, hu⟩ := h.stay c hc
    by_cases e : 86 + c * 31 + 2 = o
    · rw [e] at hu ⊢; exact ⟨v, heq _ hu⟩
    · exact ⟨u, hne _ _ hu e⟩
  · intro c hc
    rcases ho with ⟨rfl, rfl, rfl, rfl⟩ | ⟨rfl, rfl, rfl, rfl⟩ | ⟨rfl, rfl, rfl, rfl⟩ | ⟨rfl, rfl, rfl, rfl⟩
    · exact hne _ _ (h.pub _ hc) (by omega)
    · exact hne _ _ (h.pub _ hc) (by omega)
    · exact hne _ _ (h.pub _ hc) (by omega)
    · by_cases e : c = c0
      · subst e; simp only [upd, if_true]; exact heq _ (h.pub _ hc)
      · simp only [upd, if_neg e]; exact hne _ _ (h.pub _ hc) (by omega)
  · intro c k hc hk
    exact hne _ _ (h.free c k hc hk) (by omega)
  · intro c hc
    rcases ho with ⟨rfl, rfl, rfl, rfl⟩ | ⟨rfl, rfl, rfl, rfl⟩ | ⟨rfl, rfl, rfl, rfl⟩ | ⟨rfl, rfl, rfl, rfl⟩
    · by_cases e : c = c0
      · subst e; simp only [upd, if_true]; exact hv rfl
      · simp only [upd, if_neg e]; exact h.sane c hc
    all_goals exact h.sane c hc

theorem XN.setAt {w : World} {b n : Nat} {A H M : Nat → Int} (h : XN w b n A H M) (c : Nat) (hc : c < 4) (v : Int) (hv : v = -1 ∨ (0 ≤ v ∧ v < 6)) : XN (w.setCell ⟨b, 86 + c * 31, none⟩ (.int .i64 v)) b n (upd A c v) H M :=
  h.store _ v c hc (fun _ => hv) (Or.inl ⟨rfl, rfl, rfl, rfl⟩)
theorem XN.setHome {w : World} {b n : Nat} {A H M : Nat → Int} (h : XN w b n A H M) (c : Nat) (hc : c < 4) (v : Int) : XN (w.setCell ⟨b, 86 + c * 31 + 1, none⟩ (.int .i64 v)) b n A (upd H c v) M :=
  h.store _ v c hc (fun e => by omega) (Or.inr (Or.inl ⟨rfl, rfl, rfl, rfl⟩))
theorem XN.setStay {w : World} {b n : Nat} {A H M : Nat → Int} (h : XN w b n A H M) (c : Nat) (hc : c < 4) (v : Int) : XN (w.setCell ⟨b, 86 + c * 31 + 2, none⟩ (.int .i64 v)) b n A H M :=
  h.store _ v c hc (fun e => by omega) (Or.inr (Or.inr (Or.inl ⟨rfl, rfl, rfl, rfl⟩)))
theorem XN.setPub {w : World} {b n : Nat} {A H M : Nat → Int} (h : XN w b n A H M) (c : Nat) (hc : c < 4) (v : Int) : XN (w.setCell ⟨b, 86 + c * 31 + 3, none⟩ (.int .i64 v)) b n A H (upd M c v) :=
  h.store _ v c hc (fun e => by omega) (Or.inr (Or.inr (Or.inr ⟨rfl, rfl, rfl, rfl⟩)))

set_option maxHeartbeats 400000 in
theorem waitingX_any (b n : Nat) (A H M : Nat → Int) (w : World) (h : XN w b n A H M) :
    Calls Tryz.prog 70 #[.pointer (some ⟨b, 2, none⟩)] w fun e w' => e = .returned (.int .i64 0) ∧ Calm w w' := by
  obtain ⟨qs, h1, h2, h3⟩ := h.links
  go_enter Tryz.func70, Tryz.ntmps70
  go_wp2_with (go_at_call 61; refine (linksPending_any b qs _ h1 h2 h3).mono ?_; rintro e w' ⟨rfl, ht⟩)
  refine wp_loop_rounds 1 ?_; rw [rounds_succ]
  go_wp2
  go_ret
  exact ⟨rfl, ht⟩

set_option maxHeartbeats 400000 in
theorem full_any (b n : Nat) (A H M : Nat → Int) (w : World) (h : XN w b n A H M) :
    Calls Tryz.prog 33 #[.pointer (some ⟨b, 0, none⟩)] w fun e w' => e = .returned (.bool false) ∧ Calm w w' := by
  have h' := hide h
  clear h
  go_enter Tryz.func33, Tryz.ntmps33
  go_wp2_with (go_at_call 70; refine (waitingX_any b n A H M _ (unhide h')).mono ?_; rintro e w' ⟨rfl, ht⟩)
  go_ret
  exact ⟨rfl, ht⟩

set_option maxHeartbeats 400000 in
theorem pendingX_any (b n : Nat) (A H M : Nat → Int) (w : World) (h : XN w b n A H M) :
    Calls Tryz.prog 22 #[.pointer (some ⟨b, 0, none⟩)] w fun e w' => e = .returned (.slice none 0 0) ∧ Calm w w' := by
  obtain ⟨qs, h1, h2, h3⟩ := h.links
  go_enter Tryz.func22, Tryz.ntmps22
  go_wp2_with (go_at_call 61; refine (linksPending_any b qs _ h1 h2 h3).mono ?_; rintro e w' ⟨rfl, ht⟩)
  go_ret
  exact ⟨rfl, ht⟩

set_option maxRecDepth 100000 in
set_option maxHeartbeats 1000000 in
/-- No broker waits. -/
theorem waitsX_any (b n : Nat) (A H M : Nat → Int) (c : Nat) (hc : c < 4) (w : World) (h : XN w b n A H M) :
    Calls Tryz.prog 28 #[.pointer (some ⟨b, 0, none⟩), .int .i64 c] w fun e w' => e = .returned (.bool false) ∧ Calm w w' := by
  have hat := h.here c hc
  have hci : (c : Int) < 4 := by omega
  have hbl := h.lt
  rcases h.sane c hc with ha | ⟨ha, hb⟩
  · rw [ha] at hat
    clear h
    go_enter Tryz.func28, Tryz.ntmps28
    go_wp2_with (go_at_call 32; refine (away_any b (86 + c * 31) (-1) _ hat).mono ?_; rintro e w1 ⟨rfl, hw1⟩; have hw1 := hw1.symm; subst hw1)
    go_ret
    exact ⟨rfl, Touch.refl _ _⟩
  · obtain ⟨x, hx⟩ : ∃ x : Nat, A c = x := ⟨(A c).toNat, by omega⟩
    rw [hx] at hat ha hb
    have hx6 : x < 6 := by omega
    have hxm : ((x : Int) == -1) = false := beq_eq_false_iff_ne.2 (by omega)
    have HKN := hide h.know
    have HAT := hide hat
    clear h hx
    go_enter Tryz.func28, Tryz.ntmps28
    go_wp2_with (go_at_call 32; refine (away_any b (86 + c * 31) x _ hat).mono ?_; rw [hxm]; rintro e w1 ⟨rfl, hw1⟩; have hw1 := hw1.symm; subst hw1)
    clear hat
    go_loopw [15] (fun p wr => ∃ k : Nat, k ≤ 2 ∧ p = .int .i64 k ∧ Calm w wr) (fun p _ => 2 - (intOf p).toNat)
    case atStart => exact ⟨0, by omega, rfl, Touch.refl _ _⟩
    case round =>
      obtain ⟨k, hk, rfl, ht⟩ := hrel
      by_cases hlt : k < 2
      · have hki : (k : Int) < 2 := by omega
        have hat1 := ht.cell (p := ⟨b, 86 + c * 31, none⟩) (fun f => f) (unhide HAT)
        have e0 : wr.cell? ⟨b, 38 + x * 8 + c * 2 + k, none⟩ = some (.pointer none) := by
          have := ht.cell (p := ⟨b, 38 + (x * 8 + c * 2 + k), none⟩) (fun f => f) (unhide HKN (x * 8 + c * 2 + k) (by omega))
          rwa [show 38 + (x * 8 + c * 2 + k) = 38 + x * 8 + c * 2 + k by omega] at this
        have HT := hide ht
        clear ht
        go_wp2
        go_region_with (first
          | (go_at_call 49; refine (at_any b (86 + c * 31) x _ ?_).mono ?_; exact hat1; rintro e w1 ⟨rfl, rfl⟩)
          | (go_at_call 64; refine (known_any b (38 + x * 8) c k _ hc hlt ?_).mono ?_; exact e0; rintro e w1 ⟨rfl, rfl⟩))
        all_goals go_wp2
        all_goals go_roundw
        all_goals first
          | exact ⟨k + 1, by omega, by go_num, (unhide HT).drew⟩
          | (simp [intOf]; omega)
      · have hki : ¬ (k : Int) < 2 := by omega
        have HT := hide ht
        clear ht
        go_wp2
        go_ret
        exact ⟨rfl, unhide HT⟩

set_option maxRecDepth 100000 in
set_option maxHeartbeats 1000000 in
/-- Nothing was kept. -/
theorem tellKeptX_any (b n : Nat) (A H M : Nat → Int) (c x : Nat) (hc : c < 4) (hx : A c = x) (hx6 : x < 6) (w : World) (h : XN w b n A H M) :
    Calls Tryz.prog 36 #[.pointer (some ⟨b, 0, none⟩), .int .i64 c] w fun e w' => e = .returned (.tuple #[]) ∧ Calm w w' := by
  have hat := h.here c hc
  rw [hx] at hat
  have hci : (c : Int) < 4 := by omega
  have hbl := h.lt
  have HKN := hide h.know
  have HAT := hide hat
  clear h hx hat
  go_enter Tryz.func36, Tryz.ntmps36
  go_wp2
  go_loopw [12] (fun p wr => ∃ k : Nat, k ≤ 2 ∧ p = .int .i64 k ∧ Calm w wr) (fun p _ => 2 - (intOf p).toNat)
  case atStart => exact ⟨0, by omega, rfl, Touch.refl _ _⟩
  case round =>
    obtain ⟨k, hk, rfl, ht⟩ := hrel
    by_cases hlt : k < 2
    · have hki : (k : Int) < 2 := by omega
      have hat1 := ht.cell (p := ⟨b, 86 + c * 31, none⟩) (fun f => f) (unhide HAT)
      have e0 : wr.cell? ⟨b, 38 + x * 8 + c * 2 + k, none⟩ = some (.pointer none) := by
        have := ht.cell (p := ⟨b, 38 + (x * 8 + c * 2 + k), none⟩) (fun f => f) (unhide HKN (x * 8 + c * 2 + k) (by omega))
        rwa [show 38 + (x * 8 + c * 2 + k) = 38 + x * 8 + c * 2 + k by omega] at this
      have HT := hide ht
      clear ht
      go_wp2
      go_region_with (first
        | (go_at_call 49; refine (at_any b (86 + c * 31) x _ ?_).mono ?_; exact hat1; rintro e w1 ⟨rfl, rfl⟩)
        | (go_at_call 64; refine (known_any b (38 + x * 8) c k _ hc hlt ?_).mono ?_; exact e0; rintro e w1 ⟨rfl, rfl⟩))
      all_goals go_wp2
      all_goals go_roundw
      all_goals first
        | exact ⟨k + 1, by omega, by go_num, (unhide HT).drew⟩
        | (simp [intOf]; omega)
    · have hki : ¬ (k : Int) < 2 := by omega
      have HT := hide ht
      clear ht
      go_wp2
      go_end0
      exact ⟨rfl, unhide HT⟩

set_option maxRecDepth 100000 in
set_option maxHeartbeats 1000000 in
/-- No subscription moves. -/
theorem moveX_any (b n : Nat) (A H M : Nat → Int) (c : Nat) (hc : c < 4) (v : Int) (w : World) (h : XN w b n A H M) :
    Calls Tryz.prog 37 #[.pointer (some ⟨b, 0, none⟩), .int .i64 c, .int .i64 v] w fun e w' => e = .returned (.tuple #[]) ∧ Calm w w' := by
  have hci : (c : Int) < 4 := by omega
  have hbl := h.lt
  have HFR := hide (h.free c)
  clear h
  go_enter Tryz.func37, Tryz.ntmps37
  go_wp2
  go_loopw [14] (fun p wr => ∃ k : Nat, k ≤ 2 ∧ p = .int .i64 k ∧ Calm w wr) (fun p _ => 2 - (intOf p).toNat)
  case atStart => exact ⟨0, by omega, rfl, by first | exact Touch.refl _ _ | exact (Touch.refl _ _).alloc _⟩
  case round =>
    obtain ⟨k, hk, rfl, ht⟩ := hrel
    by_cases hlt : k < 2
    · have hki : (k : Int) < 2 := by omega
      have e0 := ht.cell (p := ⟨b, 86 + c * 31 + 4 + k * 13, none⟩) (fun f => f) (unhide HFR k hc hlt)
      have HT := hide ht
      clear ht
      go_wp2_with (go_at_call 63; refine (hasSlot_any b (86 + c * 31) k false _ hlt ?_).mono ?_; exact e0; rintro e w1 ⟨rfl, hw1⟩; have hw1 := hw1.symm; subst hw1)
      go_roundw
      case rel => exact ⟨k + 1, by omega, by go_num, unhide HT⟩
      case measure => simp [intOf]; omega
    · have hki : ¬ (k : Int) < 2 := by omega
      have HT := hide ht
      clear ht
      go_wp2
      go_end0
      exact ⟨rfl, unhide HT⟩

/-- Attach's answer. -/
def attE (n : Nat) (A : Nat → Int) (c b : Int) : Int := if (cliB c && hasB n b) = true then (if A c.toNat = -1 then 0 else 4) else 1
def attS (n : Nat) (A : Nat → Int) (c b : Int) (F : Nat → Int) : Nat → Int := if attE n A c b = 0 then upd F c.toNat b else F

theorem cli_nat {c : Int} (h : cliB c = true) : ∃ k : Nat, c = k ∧ k < 4 := by
  simp [cliB] at h
  exact ⟨c.toNat, by omega, by omega⟩

set_option maxRecDepth 100000 in
set_option maxHeartbeats 400000 in
theorem attachX_arg (b n : Nat) (A H M : Nat → Int) (c x : Int) (w : World) (h : XN w b n A H M) (hn : n ≤ 5) (hbad : (cliB c && hasB n x) = false) :
    Calls Tryz.prog 13 #[.pointer (some ⟨b, 0, none⟩), .int .i64 c, .int .i64 x] w fun e w' => e = .returned (.int .i64 1) ∧ Calm w w' := by
  obtain ⟨a, cap, ht⟩ := h.tree
  have hcl := h.closed
  clear h
  cases hc : cliB c with
  | false =>
    go_enter Tryz.func13, Tryz.ntmps13
    go_wp2_with (first
      | (go_at_call 26; refine (isClient_any _ _).mono ?_; rintro e w' ⟨rfl, rfl⟩)
      | (go_at_call 25; refine (check_any _ _ _ hcl).mono ?_; rintro e w' ⟨rfl, rfl⟩))
    go_ret
    exact ⟨rfl, Touch.refl _ _⟩
  | true =>
    have hx : hasB n x = false := by simpa [hc] using hbad
    go_enter Tryz.func13, Tryz.ntmps13
    go_wp2_with (first
      | (go_at_call 26; refine (isClient_any _ _).mono ?_; rintro e w' ⟨rfl, rfl⟩)
      | (go_at_call 31; refine (has_any _ _ _ _ _ hn).mono ?_; rintro e w1 ⟨rfl, hb1⟩))
    have hcl1 := (Touch.of_below hb1).cell (p := ⟨b, 0, none⟩) (fun f => f) hcl
    go_wp2_with (go_at_call 25; refine (check_any _ _ _ hcl1).mono ?_; rintro e w' ⟨rfl, rfl⟩)
    go_ret
    exact ⟨rfl, Touch.of_below hb1⟩

set_option maxRecDepth 100000 in
set_option maxHeartbeats 400000 in
theorem attachX_here (b n : Nat) (A H M : Nat → Int) (c : Nat) (x : Int) (w : World) (h : XN w b n A H M) (hn : n ≤ 5) (hc4 : c < 4) (hx : hasB n x = true) (hA : (A c == -1) = false) :
    Calls Tryz.prog 13 #[.pointer (some ⟨b, 0, none⟩), .int .i64 c, .int .i64 x] w fun e w' => e = .returned (.int .i64 4) ∧ Calm w w' := by
  obtain ⟨a, cap, ht⟩ := h.tree
  have hcl := h.closed
  have hat := h.here c hc4
  have hc : cliB c = true := by simp [cliB]; omega
  clear h
  go_enter Tryz.func13, Tryz.ntmps13
  go_wp2_with (first
    | (go_at_call 26; refine (isClient_any _ _).mono ?_; rintro e w' ⟨rfl, rfl⟩)
    | (go_at_call 31; refine (has_any _ _ _ _ _ hn).mono ?_; rintro e w1 ⟨rfl, hb1⟩))
  have hcl1 := (Touch.of_below hb1).cell (p := ⟨b, 0, none⟩) (fun f => f) hcl
  have hat1 := (Touch.of_below hb1).cell (p := ⟨b, 86 + c * 31, none⟩) (fun f => f) hat
  go_wp2_with (first
    | (go_at_call 25; refine (check_any _ _ _ hcl1).mono ?_; rintro e w' ⟨rfl, rfl⟩)
    | (go_at_call 32; refine (away_any _ _ _ _ hat1).mono ?_; rintro e w' ⟨rfl, rfl⟩))
  go_ret
  exact ⟨rfl, Touch.of_below hb1⟩

theorem come_net {w : World} {b n : Nat} {A H M : Nat → Int} (h : XN w b n A H M) (c : Nat) (hc : c < 4) (x v : Int) (hx : 0 ≤ x ∧ x < 6) : XN (((w.setCell ⟨b, 86 + c * 31, none⟩ (.int .i64 x)).setCell ⟨b, 86 + c * 31 + 1, none⟩ (.int .i64 x)).setCell ⟨b, 86 + c * 31 + 2, none⟩ (.int .i64 v)) b n (upd A c x) (upd H c x) M ∧
    Touch (fun k => k = b) w (((w.setCell ⟨b, 86 + c * 31, none⟩ (.int .i64 x)).setCell ⟨b, 86 + c * 31 + 1, none⟩ (.int .i64 x)).setCell ⟨b, 86 + c * 31 + 2, none⟩ (.int .i64 v)) :=
  ⟨((h.setAt c hc x (Or.inr hx)).setHome c hc x).setStay c hc v, ((Touch.set1 _ b _ _).trans (Touch.set1 _ b _ _)).trans (Touch.set1 _ b _ _)⟩

set_option maxRecDepth 100000 in
set_option maxHeartbeats 1000000 in
theorem attachX_ok (b n : Nat) (A H M : Nat → Int) (c : Nat) (x : Int) (w : World) (h : XN w b n A H M) (hn : n ≤ 5) (hc4 : c < 4) (hx : hasB n x = true) (hA : (A c == -1) = true) :
    Calls Tryz.prog 13 #[.pointer (some ⟨b, 0, none⟩), .int .i64 c, .int .i64 x] w fun e w' => e = .returned (.int .i64 0) ∧ Touch (fun k => k = b) w w' ∧ XN w' b n (upd A c x) (upd H c x) M := by
  obtain ⟨a, cap, ht⟩ := h.tree
  have hcl := h.closed
  have hat := h.here c hc4
  have hc : cliB c = true := by simp [cliB]; omega
  have hci : (c : Int) < 4 := by omega
  have hx6 : 0 ≤ x ∧ x < 6 := by simp [hasB] at hx; omega
  obtain ⟨y, rfl⟩ : ∃ y : Nat, x = y := ⟨x.toNat, by omega⟩
  have hX := hide h
  clear h
  go_enter Tryz.func13, Tryz.ntmps13
  go_wp2_with (first
    | (go_at_call 26; refine (isClient_any _ _).mono ?_; rintro e w' ⟨rfl, rfl⟩)
    | (go_at_call 31; refine (has_any _ _ _ _ _ hn).mono ?_; rintro e w1 ⟨rfl, hb1⟩))
  have hcl1 := (Touch.of_below hb1).cell (p := ⟨b, 0, none⟩) (fun f => f) hcl
  have hat1 := (Touch.of_below hb1).cell (p := ⟨b, 86 + c * 31, none⟩) (fun f => f) hat
  have hX1 := hide ((unhide hX).calm (Touch.of_below hb1))
  go_wp2_with (first
    | (go_at_call 25; refine (check_any _ _ _ hcl1).mono ?_; rintro e w' ⟨rfl, rfl⟩)
    | (go_at_call 32; refine (away_any _ _ _ _ hat1).mono ?_; rintro e w' ⟨rfl, rfl⟩)
    | (go_at_call 33; refine (full_any b n A H M _ (unhide hX1)).mono ?_; rintro e w2 ⟨rfl, ht2⟩))
  have hX2 := (unhide hX1).calm ht2
  have q0 := hX2.here c hc4
  have q1 := hX2.home c hc4
  obtain ⟨sv, q2⟩ := hX2.stay c hc4
  have f0 := hX2.fr
  obtain ⟨hX3, ht3⟩ := come_net hX2 c hc4 y (wrap64 (sv + 1)) hx6
  have HX3 := hide hX3
  have HT3 := hide ((((Touch.of_below hb1).calm ht2).mono (fun _ _ f => f.elim)).trans ht3)
  have hup : upd A c y c = (y : Nat) := by simp [upd]
  have hy6 : y < 6 := by omega
  clear hX2 hX3 ht3 hX hX1
  by_cases hh : H c = y
  · rw [hh] at q1
    go_wp2_with (first
      | (go_at_call 34; refine (home_any b (86 + c * 31) y _ (by go_simp)).mono ?_; rintro e w3 ⟨rfl, hw3⟩; have hw3 := hw3.symm; subst hw3)
      | (go_at_call 35; refine (come_any b (86 + c * 31) y sv _ _ _ q0 q1 q2 f0).mono ?_; rintro e w3 ⟨rfl, rfl⟩)
      | (go_at_call 36; refine (tellKeptX_any b n _ _ M c y hc4 hup hy6 _ (unhide HX3)).mono ?_; rintro e w4 ⟨rfl, ht4⟩))
    go_ret
    exact ⟨rfl, (unhide HT3).calm ht4, (unhide HX3).calm ht4⟩
  · by_cases hm : H c = -1
    · rw [hm] at q1
      have hne : ((-1 : Int) == y) = false := beq_eq_false_iff_ne.2 (by omega)
      go_wp2_with (first
        | (go_at_call 34; refine (home_any b (86 + c * 31) (-1) _ (by go_simp)).mono ?_; rintro e w3 ⟨rfl, hw3⟩; have hw3 := hw3.symm; subst hw3)
        | (go_at_call 35; refine (come_any b (86 + c * 31) y sv _ _ _ q0 q1 q2 f0).mono ?_; rintro e w3 ⟨rfl, rfl⟩)
        | (go_at_call 36; refine (tellKeptX_any b n _ _ M c y hc4 hup hy6 _ (unhide HX3)).mono ?_; rintro e w4 ⟨rfl, ht4⟩))
      go_ret
      exact ⟨rfl, (unhide HT3).calm ht4, (unhide HX3).calm ht4⟩
    · have hne : (H c == y) = false := beq_eq_false_iff_ne.2 hh
      have hnm : (H c == -1) = false := beq_eq_false_iff_ne.2 hm
      go_wp2_with (first
        | (go_at_call 34; refine (home_any b (86 + c * 31) (H c) _ (by go_simp)).mono ?_; rintro e w3 ⟨rfl, hw3⟩; have hw3 := hw3.symm; subst hw3)
        | (go_at_call 35; refine (come_any b (86 + c * 31) y sv _ _ _ q0 q1 q2 f0).mono ?_; rintro e w3 ⟨rfl, rfl⟩)
        | (go_at_call 37; refine (moveX_any b n _ _ M c hc4 (H c) _ (unhide HX3)).mono ?_; rintro e w4 ⟨rfl, ht4⟩))
      go_ret
      exact ⟨rfl, (unhide HT3).calm ht4, (unhide HX3).calm ht4⟩

/-- ATTACH, of the program. -/
theorem attachX_any (b n : Nat) (A H M : Nat → Int) (c x : Int) (w : World) (h : XN w b n A H M) (hn : n ≤ 5) :
    Calls Tryz.prog 13 #[.pointer (some ⟨b, 0, none⟩), .int .i64 c, .int .i64 x] w fun e w' => e = .returned (.int .i64 (attE n A c x)) ∧ Touch (fun k => k = b) w w' ∧ XN w' b n (attS n A c x A) (attS n A c x H) M := by
  cases hg : (cliB c && hasB n x) with
  | false =>
    have he : attE n A c x = 1 := by simp [attE, hg]
    refine (attachX_arg b n A H M c x w h hn hg).mono ?_
    rintro e w' ⟨rfl, ht⟩
    refine ⟨by rw [he], ht.mono (fun _ _ f => f.elim), ?_⟩
    simp only [attS, he]
    exact h.calm ht
  | true =>
    obtain ⟨h1, h2⟩ : cliB c = true ∧ hasB n x = true := by simpa using hg
    obtain ⟨k, rfl, hk⟩ := cli_nat h1
    by_cases hA : A k = -1
    · have he : attE n A k x = 0 := by simp [attE, hg, hA]
      refine (attachX_ok b n A H M k x w h hn hk h2 (by simp [hA])).mono ?_
      rintro e w' ⟨rfl, ht, hx⟩
      refine ⟨by rw [he], ht, ?_⟩
      simp only [attS, he]
      exact hx
    · have he : attE n A k x = 4 := by simp [attE, hg, hA]
      refine (attachX_here b n A H M k x w h hn hk h2 (by simp [hA])).mono ?_
      rintro e w' ⟨rfl, ht⟩
      refine ⟨by rw [he], ht.mono (fun _ _ f => f.elim), ?_⟩
      simp only [attS, he]
      exact h.calm ht

end Go.Proofs.YtodfcpblcpogiaaGreat

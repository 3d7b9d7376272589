/-
  The next broker on a path; a frame is passed on.
-/
import Derived.Test.YtodfcpblcpogiaaSpr
namespace Go.Proofs.Ytodfcpblcpogiaa
open Go.RowKit

theorem up_lt {par : List Nat} (T : Tree par) {b : Nat} (h0 : 0 < b) (hb : b < size par) : up par b < b := by
  have h1 := T.2 (b - 1) (by simp only [size] at hb; omega)
  have h2 : up par b = par.getD (b - 1) 0 := rfl
  rw [h2]
  omega
/-- From a broker that is not below x, none of x's children is met. -/
theorem climb_low {par : List Nat} (T : Tree par) {x : Nat} : ∀ (f b : Nat), b < size par → b ≤ x → climb par f b x = none
  | 0, _, _, _ => rfl
  | f + 1, b, hb, hle => by
    unfold climb
    by_cases h0 : b = 0
    · rw [if_pos h0]
    · rw [if_neg h0]
      have hu := up_lt T (by omega) hb
      rw [if_neg (by omega)]
      exact climb_low T f (up par b) (by omega) (by omega)

/-- Where the loop stands. -/
structure Climbs (par : List Nat) (x h b : Nat) : Prop where
  lt : b < size par
  same : ∃ f, climb par 6 h x = climb par f b x ∧ b < f
  pos : x = 0 → 0 < b

theorem Climbs.start {par : List Nat} (T : Tree par) {x h : Nat} (hh : h < size par) (hne : x ≠ h) : Climbs par x h h :=
  ⟨hh, ⟨6, rfl, Nat.lt_of_lt_of_le hh (size_le T)⟩, fun e => by omega⟩
theorem Climbs.on {par : List Nat} (T : Tree par) {x h b : Nat} (c : Climbs par x h b) (hb : x < b) (hu : up par b ≠ x) : Climbs par x h (up par b) := by
  have hl := up_lt T (by omega : 0 < b) c.lt
  obtain ⟨f, h1, h2⟩ := c.same
  refine ⟨by have := c.lt; omega, ?_, fun e => by omega⟩
  cases f with
  | zero => omega
  | succ f =>
    refine ⟨f, ?_, by omega⟩
    rw [h1]
    conv => lhs; unfold climb
    rw [if_neg (by omega), if_neg hu]
theorem Climbs.found {par : List Nat} {x h b : Nat} (c : Climbs par x h b) (hb : x < b) (hu : up par b = x) : next par x h = b := by
  obtain ⟨f, h1, h2⟩ := c.same
  unfold next
  rw [h1]
  cases f with
  | zero => omega
  | succ f =>
    have : climb par (f + 1) b x = some b := by
      unfold climb
      rw [if_neg (by omega), if_pos hu]
    rw [this]
theorem Climbs.away {par : List Nat} (T : Tree par) {x h b : Nat} (c : Climbs par x h b) (hb : b ≤ x) : next par x h = up par x ∧ 0 < x := by
  obtain ⟨f, h1, h2⟩ := c.same
  unfold next
  rw [h1, climb_low T f b c.lt hb]
  exact ⟨rfl, by have := c.pos; omega⟩

set_option maxRecDepth 100000 in
set_option maxHeartbeats 1000000 in
theorem next_any (a : Option Addr) (cap : Nat) (par : List Nat) (x h : Nat) (w : World) (T : Tree par) (hx : x < size par) (hh : h < size par) (hne : x ≠ h) (hp : ParAt w a par) :
    Calls Try.prog 94 #[.agg #[.slice a par.length cap], int x, int h] w fun e w' => e = .returned (int (next par x h : Nat)) ∧ Calm w w' := by
  have h5 := T.1
  have hst := Climbs.start T hh hne
  have HP := hide hp
  have HS := hide hst
  clear hp hst
  go_enter Try.func94, Try.ntmps94
  go_wp2
  obtain ⟨W, hW⟩ : ∃ W, w.alloc (.cells #[.slice a par.length cap] 88) = W := ⟨_, rfl⟩
  rw [hW]
  have hcal : Calm w W := by rw [← hW]; exact (Touch.refl _ _).alloc _
  have hbx : W.heap[w.heap.size]? = some (.cells #[.slice a par.length cap] 88) := by rw [← hW]; exact heap_alloc_new w _
  have HPW := hide ((unhide HP).calm hcal)
  have HCAL := hide hcal
  have HBX := hide hbx
  clear hW hcal hbx HP
  go_loopw [7] (fun p wr => ∃ b : Nat, p = int b ∧ Climbs par x h b ∧ Calm W wr) (fun p _ => (intOf p).toNat)
  case atStart => exact ⟨h, rfl, unhide HS, Touch.refl _ _⟩
  case round =>
    obtain ⟨b, rfl, hC, ht⟩ := hrel
    have hpar := (unhide HPW).calm ht
    have e0 : wr.cell? ⟨w.heap.size, 0, none⟩ = some (.slice a par.length cap) := box_cell ((ht.block _ (Array.getElem?_eq_some_iff.1 (unhide HBX)).1 (fun f => f)).trans (unhide HBX)) 0
    have hbl := hC.lt
    have HC := hide hC
    have HT := hide ht
    have HPA := hide hpar
    clear hC ht hpar
    have hsz : size par = par.length + 1 := rfl
    by_cases hgt : x < b
    · have hgi : (x : Int) < b := by omega
      have hb0 : 0 < b := by omega
      by_cases hu : up par b = x
      · have hui : ((up par b : Nat) : Int) = x := by omega
        go_wp2_with (go_at_call 102; refine (parent_any a cap par b _ h5 hb0 (by omega) ?_).mono ?_; exact unhide HPA; rintro e w1 ⟨rfl, ht1⟩)
        go_ret
        exact ⟨by rw [(unhide HC).found hgt hu]; rfl, ((unhide HCAL).trans (unhide HT)).trans ht1⟩
      · have hui : ¬ ((up par b : Nat) : Int) = x := by omega
        have hub := up_lt T hb0 hbl
        go_wp2_with (first
          | (go_at_call 102; refine (parent_any a cap par b _ h5 hb0 (by omega) ?_).mono ?_; exact unhide HPA; rintro e w1 ⟨rfl, ht1⟩
             replace e0 := ht1.cell (p := ⟨w.heap.size, 0, none⟩) (fun f => f) e0
             have HPA2 := hide ((unhide HPA).calm ht1)
             have HT2 := hide ((unhide HT).trans ht1)
             clear HPA HT)
          | (go_at_call 102; refine (parent_any a cap par b _ h5 hb0 (by omega) ?_).mono ?_; exact unhide HPA2; rintro e w2 ⟨rfl, ht2⟩
             have HT3 := hide ((unhide HT2).trans ht2)
             clear HT2))
        go_roundw
        case rel => exact ⟨up par b, rfl, (unhide HC).on T hgt hu, unhide HT3⟩
        case measure => simp [intOf]; omega
    · have hgi : ¬ (x : Int) < b := by omega
      obtain ⟨hn, hx0⟩ := (unhide HC).away T (by omega)
      go_wp2_with (go_at_call 102; refine (parent_any a cap par x _ h5 hx0 (by omega) ?_).mono ?_; exact unhide HPA; rintro e w1 ⟨rfl, ht1⟩)
      go_ret
      exact ⟨by rw [hn]; rfl, ((unhide HCAL).trans (unhide HT)).trans ht1⟩

set_option maxRecDepth 100000 in
set_option maxHeartbeats 1000000 in
/-- PASS. -/
theorem passX {w : World} {b : Nat} {ρ : Nat → Option Role} {σ : Net} (h : XN w b ρ σ) (T : Tree σ.par) {x g : Nat} (hx : x < σ.n) (hg : g < σ.n) (hne : x ≠ g) (hlen : ∀ y, (σ.q x y).length < 2000) {f : Fr} {fb : Nat} (hf : FrAt w ρ f fb) :
    Calls Try.prog 75 #[.pointer (some ⟨b, 0, none⟩), int x, int g, ptr fb] w fun e w' => e = .returned (.tuple #[]) ∧ XN w' b ρ (σ.push x (next σ.par x g) f) ∧ Mv (fun o => ∃ y, o = .chan x y) ρ ρ w w' := by
  obtain ⟨a, cap, ha, hpa⟩ := h.par
  have hx6 : x < 6 := Nat.lt_of_lt_of_le hx (size_le T)
  obtain ⟨hn1, hn2, _⟩ := next_step T hx hg hne
  have hn6 : next σ.par x g < 6 := Nat.lt_of_lt_of_le hn2 (size_le T)
  have hl := hlen (next σ.par x g)
  have hbl := h.lt b (by rw [h.net]; simp)
  have HX := hide h
  have HPA := hide hpa
  have HF := hide hf
  have HN := hide hn1
  clear h hpa hf hlen hn1 hn2
  go_enter Try.func75, Try.ntmps75
  go_wp2
  go_region_with (first
    | (go_at_call 94; refine (next_any a cap σ.par x g _ T hx hg hne ?_).mono ?_; exact (unhide HPA).calm (Touch.refl _ _).drew; rintro e w1 ⟨rfl, ht1⟩
       have ht1 : Calm w w1 := ((Touch.refl _ _).drew).calm ht1
       have HX1 := hide ((unhide HX).calm ht1)
       have HF1 := hide ((unhide HF).calm (unhide HX).lt ht1)
       have HM1 : Hid (Mv (fun o => ∃ y, o = .chan x y) ρ ρ w w1) := Mv.calm (unhide HX).lt ht1
       clear ht1)
    | (go_at_call 93; refine (sendX (x := x) (y := next σ.par x g) (f := f) (fb := fb) (unhide HX1) hx6 hn6 (unhide HN) hl (unhide HF1)).mono ?_; rintro e w2 ⟨rfl, hX2, hM2⟩))
  all_goals go_end0
  all_goals exact ⟨rfl, hX2, (unhide HM1).trans (hM2.mono (fun _ hr => ⟨_, hr⟩))⟩

end Go.Proofs.Ytodfcpblcpogiaa

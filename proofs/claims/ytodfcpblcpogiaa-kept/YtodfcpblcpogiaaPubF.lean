/-
  PUBLISH, when too many frames wait.
-/
import Derived.Test.YtodfcpblcpogiaaPub
namespace Go.Proofs.Ytodfcpblcpogiaa
open Go.RowKit

set_option maxRecDepth 100000 in
set_option maxHeartbeats 1000000 in
/-- PUBLISH, refused. -/
theorem publishF {w : World} {b : Nat} {ρ : Nat → Option Role} {σ : Net} (h : XN w b ρ σ) {m : Nat} (F : Fit σ m) {c x : Nat} (hc : c < 4) (hh : (σ.cl c).here = some x) (f0 f1 f2 : Int) (hful : σ.full = true) :
    Calls Try.prog 17 #[.pointer (some ⟨b, 0, none⟩), int c, .agg #[int f0, int f1, int f2]] w fun e w' => e = .returned (.tuple #[int 0, int 6]) ∧ Calm w w' := by
  have hcl := h.closed
  have hcc : isCli (c : Int) = true := isCli_nat hc
  have hat := (h.cli c hc).here
  rw [hh] at hat
  replace hat : w.cell? ⟨b, 86 + c * 31, none⟩ = some (int x) := hat
  have hci : (c : Int) < 4 := by omega
  have hct : chk true = 0 := rfl
  have hxm : ((x : Int) == -1) = false := by rw [beq_dec]; exact decide_eq_false (by omega)
  have hcal : Calm w (w.alloc (.cells #[int f0, int f1, int f2] 23)) := (Touch.refl _ _).alloc _
  have HX := hide (h.calm hcal)
  have HCAL := hide hcal
  have hbl := h.lt b (by rw [h.net]; simp)
  have HF := hide F
  clear h F hcal hh
  go_enter Try.func17, Try.ntmps17
  go_wp2_with (first
    | (go_at_call 36; refine (isClient_any _ _).mono ?_; rw [hcc]; rintro e w1 ⟨rfl, hw1⟩; have hw1 := hw1.symm; subst hw1)
    | (go_at_call 35; refine (check_any _ _ _ (by go_simp)).mono ?_; rintro e w2 ⟨rfl, hw2⟩; have hw2 := hw2.symm; subst hw2)
    | (go_at_call 38; refine (away_any _ _ (x : Int) _ (by go_simp)).mono ?_; rw [hxm]; rintro e w2 ⟨rfl, hw2⟩; have hw2 := hw2.symm; subst hw2))
  refine (fullX (unhide HX) (unhide HF)).mono ?_
  rw [hful]
  rintro e w1 ⟨rfl, ht1⟩
  have HT := hide ((unhide HCAL).calm ht1)
  clear ht1 hat hcl HX
  go_wp2
  go_ret2
  exact ⟨rfl, unhide HT⟩

set_option maxRecDepth 100000 in
set_option maxHeartbeats 1000000 in
theorem publish_arg {w : World} {b : Nat} {ρ : Nat → Option Role} {σ : Net} (h : XN w b ρ σ) (c f0 f1 f2 : Int) (hcc : isCli c = false) :
    Calls Try.prog 17 #[.pointer (some ⟨b, 0, none⟩), int c, .agg #[int f0, int f1, int f2]] w fun e w' => e = .returned (.tuple #[int 0, int 1]) ∧ Calm w w' := by
  have hcl := h.closed
  have hct : chk false = 1 := rfl
  have hbl := h.lt b (by rw [h.net]; simp)
  clear h
  go_enter Try.func17, Try.ntmps17
  go_wp2_with (first
    | (go_at_call 36; refine (isClient_any _ _).mono ?_; rw [hcc]; rintro e w1 ⟨rfl, hw1⟩; have hw1 := hw1.symm; subst hw1)
    | (go_at_call 35; refine (check_any _ _ _ (by go_simp)).mono ?_; rintro e w2 ⟨rfl, hw2⟩; have hw2 := hw2.symm; subst hw2))
  go_ret2
  exact ⟨rfl, (Touch.refl _ _).alloc _⟩

set_option maxRecDepth 100000 in
set_option maxHeartbeats 1000000 in
theorem publish_away {w : World} {b : Nat} {ρ : Nat → Option Role} {σ : Net} (h : XN w b ρ σ) {c : Nat} (hc : c < 4) (hh : (σ.cl c).here = none) (f0 f1 f2 : Int) :
    Calls Try.prog 17 #[.pointer (some ⟨b, 0, none⟩), int c, .agg #[int f0, int f1, int f2]] w fun e w' => e = .returned (.tuple #[int 0, int 3]) ∧ Calm w w' := by
  have hcl := h.closed
  have hcc : isCli (c : Int) = true := isCli_nat hc
  have hat := (h.cli c hc).here
  rw [hh] at hat
  replace hat : w.cell? ⟨b, 86 + c * 31, none⟩ = some (int (-1)) := hat
  have hci : (c : Int) < 4 := by omega
  have hct : chk true = 0 := rfl
  have hbl := h.lt b (by rw [h.net]; simp)
  clear h hh
  go_enter Try.func17, Try.ntmps17
  go_wp2_with (first
    | (go_at_call 36; refine (isClient_any _ _).mono ?_; rw [hcc]; rintro e w1 ⟨rfl, hw1⟩; have hw1 := hw1.symm; subst hw1)
    | (go_at_call 35; refine (check_any _ _ _ (by go_simp)).mono ?_; rintro e w2 ⟨rfl, hw2⟩; have hw2 := hw2.symm; subst hw2)
    | (go_at_call 38; refine (away_any _ _ (-1) _ (by go_simp)).mono ?_; rintro e w2 ⟨rfl, hw2⟩; have hw2 := hw2.symm; subst hw2))
  go_ret2
  exact ⟨rfl, (Touch.refl _ _).alloc _⟩

/-- PUBLISH. -/
theorem publishX {w : World} {b : Nat} {ρ : Nat → Option Role} {σ : Net} (h : XN w b ρ σ) {m : Nat} (F : Fit σ m) (hm : m < 1999999999999) (c f0 f1 f2 : Int) :
    Calls Try.prog 17 #[.pointer (some ⟨b, 0, none⟩), int c, .agg #[int f0, int f1, int f2]] w fun e w' => e = .returned (.tuple #[int (σ.pubA c), int (σ.pubE c)]) ∧ ∃ ρ', XN w' b ρ' (σ.pub c f0 f1 f2) ∧ Mv allR ρ ρ' w w' := by
  cases hcc : isCli c with
  | false =>
    have hE : σ.pubE c = 1 := by simp [Net.pubE, Net.asked, h.open_, hcc]
    have hA : σ.pubA c = 0 := by simp [Net.pubA, hE]
    have hP : σ.pub c f0 f1 f2 = σ := by simp [Net.pub, hE]
    rw [hE, hA, hP]
    exact (publish_arg h c f0 f1 f2 hcc).mono fun e w' ⟨h1, h2⟩ => ⟨h1, ρ, h.calm h2, h.mvCalm h2⟩
  | true =>
    have hcc' := hcc
    simp only [isCli, decide_eq_true_eq] at hcc'
    obtain ⟨c', rfl⟩ : ∃ c' : Nat, c = c' := ⟨c.toNat, by omega⟩
    have hc : c' < 4 := by omega
    have hask : σ.asked (isCli (c' : Int)) = 0 := asked_ok h.open_ hcc
    cases hh : (σ.cl c').here with
    | none =>
      have hE : σ.pubE c' = 3 := by simp [Net.pubE, hask, hh]
      have hA : σ.pubA c' = 0 := by simp [Net.pubA, hE]
      have hP : σ.pub c' f0 f1 f2 = σ := by simp [Net.pub, hE]
      rw [hE, hA, hP]
      exact (publish_away h hc hh f0 f1 f2).mono fun e w' ⟨h1, h2⟩ => ⟨h1, ρ, h.calm h2, h.mvCalm h2⟩
    | some x =>
      cases hful : σ.full with
      | true =>
        have hE : σ.pubE c' = 6 := by simp [Net.pubE, hask, hh, hful]
        have hA : σ.pubA c' = 0 := by simp [Net.pubA, hE]
        have hP : σ.pub c' f0 f1 f2 = σ := by simp [Net.pub, hE]
        rw [hE, hA, hP]
        exact (publishF h F hc hh f0 f1 f2 hful).mono fun e w' ⟨h1, h2⟩ => ⟨h1, ρ, h.calm h2, h.mvCalm h2⟩
      | false =>
        have hE : σ.pubE c' = 0 := by simp [Net.pubE, hask, hh, hful]
        have hA : σ.pubA c' = (σ.cl c').many + 1 := by simp [Net.pubA, hE]
        have hP : σ.pub c' f0 f1 f2 = ((σ.setCl c' { σ.cl c' with many := (σ.cl c').many + 1 }).happens x ⟨⟨c', (σ.cl c').many + 1, f0, f1, f2⟩, (σ.cl c').stays⟩ none) := by
          simp only [Net.pub, hE, if_true, toNat_nat, hh, Net.pubEv]
        rw [hE, hA, hP]
        exact publish_ok h F hm hc hh f0 f1 f2 hful

end Go.Proofs.Ytodfcpblcpogiaa

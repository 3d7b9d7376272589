/-
  PUBLISH, when too many frames wait.
-/
import Derived.Test.YtlpknnoacpfnnaaPub
namespace Go.Proofs.Ytlpknnoacpfnnaa
open Go.RowKit

set_option maxRecDepth 100000 in
set_option maxHeartbeats 1000000 in
/-- PUBLISH, refused. -/
theorem publishF {w : World} {b : Nat} {ρ : Nat → Option Role} {σ : Net} (h : XN w b ρ σ) {m : Nat} (F : Fine σ m) {c x : Nat} (hc : c < 4) (hh : (σ.cl c).here = some x) (f0 f1 f2 : Int) (hful : σ.full = true) :
    Calls Try.prog 14 #[.pointer (some ⟨b, 0, none⟩), int c, .agg #[int f0, int f1, int f2]] w fun e w' => e = .returned (.tuple #[int 0, int 6]) ∧ Calm w w' := by
  have hcl := h.closed
  have hcc : isCli (c : Int) = true := isCli_nat hc
  have hat := (h.cli c hc).here
  rw [hh] at hat
  replace hat : w.cell? ⟨b, 86 + c * 11, none⟩ = some (int x) := hat
  have hci : (c : Int) < 4 := by omega
  have hct : chk true = 0 := rfl
  have hxm : ((x : Int) == -1) = false := by rw [beq_dec]; exact decide_eq_false (by omega)
  have hcal : Calm w (w.alloc (.cells #[int f0, int f1, int f2] 23)) := (Touch.refl _ _).alloc _
  have HX := hide (h.calm hcal)
  have HCAL := hide hcal
  have hbl := h.lt b (by rw [h.net]; simp)
  have HF := hide F
  clear h F hcal hh
  go_enter Try.func14, Try.ntmps14
  go_wp2_with (first
    | (go_at_call 30; refine (isClient_any _ _).mono ?_; rw [hcc]; rintro e w1 ⟨rfl, hw1⟩; have hw1 := hw1.symm; subst hw1)
    | (go_at_call 29; refine (check_any _ _ _ (by go_simp)).mono ?_; rintro e w2 ⟨rfl, hw2⟩; have hw2 := hw2.symm; subst hw2)
    | (go_at_call 32; refine (away_any _ _ (x : Int) _ (by go_simp)).mono ?_; rw [hxm]; rintro e w2 ⟨rfl, hw2⟩; have hw2 := hw2.symm; subst hw2))
  refine (fullX (unhide HX) (unhide HF)).mono ?_
  rw [hful]
  rintro e w1 ⟨rfl, ht1⟩
  have HT := hide ((unhide HCAL).calm ht1)
  clear ht1 hat hcl HX
  go_wp2
  go_ret2
  exact ⟨rfl, unhide HT⟩

end Go.Proofs.Ytlpknnoacpfnnaa

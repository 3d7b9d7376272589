/-
  LOG; SUBSCRIBE.
-/
import Derived.Test.YtodfcpblcpogiaaAtg
namespace Go.Proofs.Ytodfcpblcpogiaa
open Go.RowKit

set_option maxRecDepth 100000 in
set_option maxHeartbeats 1000000 in
/-- LOG. -/
theorem logX2 {w : World} {b : Nat} {ρ : Nat → Option Role} {σ : Net} (h : XN w b ρ σ) {c : Nat} (hc : c < 4) :
    Calls Try.prog 20 #[.pointer (some ⟨b, 0, none⟩), int c] w fun e w' => ∃ v, e = .returned (.tuple #[v, int 0]) ∧ w'.ownsRow 0 65 7 v (σ.cl c).log.length ((σ.cl c).log.flatMap Ent.enc) ∧ XN w' b ρ (σ.setCl c { σ.cl c with log := [] }) ∧ Mv allR ρ ρ w w' ∧ (∀ g, v.ownBlock = some g → ρ g ≠ none) := by
  have hcl := h.closed
  have hcc : isCli (c : Int) = true := isCli_nat hc
  have hci : (c : Int) < 4 := by omega
  have hct : chk true = 0 := rfl
  have C := h.cli c hc
  obtain ⟨v, g1, g2⟩ := C.log
  have hvb : v.ownBlock ≠ some b := fun e => by have := g2.2 b e; rw [h.net] at this; cases this
  have hne : ∀ o u, o ≠ 86 + c * 31 + 30 → w.cell? ⟨b, o, none⟩ = some u → (w.setCell ⟨b, 86 + c * 31 + 30, none⟩ (.slice none 0 0)).cell? ⟨b, o, none⟩ = some u := fun o u ho hu => cell_setCell_ne w ho hu
  have hk : ∀ i r, ρ i = some r → r ≠ .net → (w.setCell ⟨b, 86 + c * 31 + 30, none⟩ (.slice none 0 0)).heap[i]? = w.heap[i]? ∧ ρ i = ρ i := fun i r hi hr => ⟨heap_setCell_other w _ (fun e => by subst e; rw [h.net] at hi; cases hi; exact hr rfl), rfl⟩
  have hX' : XN (w.setCell ⟨b, 86 + c * 31 + 30, none⟩ (.slice none 0 0)) b ρ (σ.setCl c { σ.cl c with log := [] }) := by
    refine h.storeCli hc _ _ (by omega) (by omega) ?_
    refine ⟨hne _ _ (by omega) C.here, hne _ _ (by omega) C.home, hne _ _ (by omega) C.stays, hne _ _ (by omega) C.many, fun k h2 => hne _ _ (by omega) (C.used k h2), fun k h2 => hne _ _ (by omega) (C.age k h2), fun k h2 => (C.fl k h2).keep (fun j v hj => hne _ _ (by omega)), fun k h2 => ?_, .slice none 0 0, World.cell?_setCell_same w _ _ g1, ⟨rfl, Or.inl ⟨rfl, rfl⟩⟩, fun g hg => by cases hg⟩
    obtain ⟨u', f1, f2⟩ := C.heard k h2
    exact ⟨u', hne _ _ (by omega) f1, f2.keep (fun i hi => hk i _ hi (by simp))⟩
  have hrow : (w.setCell ⟨b, 86 + c * 31 + 30, none⟩ (.slice none 0 0)).ownsRow 0 65 7 v (σ.cl c).log.length ((σ.cl c).log.flatMap Ent.enc) :=
    ownsRow_keep g2.1 ((Touch.refl (fun i => i = b) w).setCell (p := ⟨b, 86 + c * 31 + 30, none⟩) (fun _ => rfl) _) (fun g hg e => hvb (by rw [hg, e]))
  have hM : Mv allR ρ ρ w (w.setCell ⟨b, 86 + c * 31 + 30, none⟩ (.slice none 0 0)) := Mv.setCell (S := allR) h.lt h.net trivial _ _
  have HX := hide hX'
  have HR := hide hrow
  have HM := hide hM
  have HFR := hide h.fr
  have HOWN : Hid (∀ g, v.ownBlock = some g → ρ g ≠ none) := fun g hg => by rw [g2.2 g hg]; simp
  clear C h hX' hrow hM hne hk g2 hvb
  go_enter Try.func20, Try.ntmps20
  go_wp2_with (first
    | (go_at_call 36; refine (isClient_any _ _).mono ?_; rw [hcc]; rintro e w1 ⟨rfl, hw1⟩; have hw1 := hw1.symm; subst hw1)
    | (go_at_call 35; refine (check_any _ _ _ hcl).mono ?_; rintro e w2 ⟨rfl, hw2⟩; have hw2 := hw2.symm; subst hw2)
    | (go_at_call 53; refine (takeLog_any b (86 + c * 31) _ v g1 (unhide HFR)).mono ?_; rintro e w3 ⟨rfl, hw3⟩; subst hw3))
  go_ret2
  exact ⟨v, rfl, unhide HR, unhide HX, unhide HM, unhide HOWN⟩

theorem logX {w : World} {b : Nat} {ρ : Nat → Option Role} {σ : Net} (h : XN w b ρ σ) {c : Nat} (hc : c < 4) :
    Calls Try.prog 20 #[.pointer (some ⟨b, 0, none⟩), int c] w fun e w' => ∃ v, e = .returned (.tuple #[v, int 0]) ∧ w'.ownsRow 0 65 7 v (σ.cl c).log.length ((σ.cl c).log.flatMap Ent.enc) ∧ XN w' b ρ (σ.setCl c { σ.cl c with log := [] }) ∧ Mv allR ρ ρ w w' :=
  (logX2 h hc).mono fun _ _ ⟨v, h1, h2, h3, h4, _⟩ => ⟨v, h1, h2, h3, h4⟩

set_option maxHeartbeats 400000 in
theorem good_any (f o n : Int) (w : World) : Calls Try.prog 76 #[.agg #[int f, int o, int n]] w fun e w' => e = .returned (.bool (Tst.good ⟨f, o, n⟩)) ∧ Calm w w' := by
  by_cases h1 : 0 ≤ f
  · by_cases h2 : f < 3
    · by_cases h3 : 1 ≤ o
      · by_cases h4 : o ≤ 4
        all_goals
        go_enter Try.func76, Try.ntmps76
        go_wp2
        go_ret
        refine ⟨?_, (Touch.refl _ _).alloc _⟩
        first
          | (rw [show Tst.good ⟨f, o, n⟩ = true from decide_eq_true (by show 0 ≤ f ∧ f ≤ 2 ∧ 1 ≤ o ∧ o ≤ 4; omega)]; rfl)
          | (rw [show Tst.good ⟨f, o, n⟩ = false from decide_eq_false (by show ¬ (0 ≤ f ∧ f ≤ 2 ∧ 1 ≤ o ∧ o ≤ 4); omega)]; rfl)
      · go_enter Try.func76, Try.ntmps76
        go_wp2
        go_ret
        refine ⟨?_, (Touch.refl _ _).alloc _⟩
        rw [show Tst.good ⟨f, o, n⟩ = false from decide_eq_false (by show ¬ (0 ≤ f ∧ f ≤ 2 ∧ 1 ≤ o ∧ o ≤ 4); omega)]; rfl
    · go_enter Try.func76, Try.ntmps76
      go_wp2
      go_ret
      refine ⟨?_, (Touch.refl _ _).alloc _⟩
      rw [show Tst.good ⟨f, o, n⟩ = false from decide_eq_false (by show ¬ (0 ≤ f ∧ f ≤ 2 ∧ 1 ≤ o ∧ o ≤ 4); omega)]; rfl
  · go_enter Try.func76, Try.ntmps76
    go_wp2
    go_ret
    refine ⟨?_, (Touch.refl _ _).alloc _⟩
    rw [show Tst.good ⟨f, o, n⟩ = false from decide_eq_false (by show ¬ (0 ≤ f ∧ f ≤ 2 ∧ 1 ≤ o ∧ o ≤ 4); omega)]; rfl

end Go.Proofs.Ytodfcpblcpogiaa

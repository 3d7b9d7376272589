/-
  A frame is handled, by its kind.
-/
import Derived.Test.YtlpknnoacpfnnaaEv
namespace Go.Proofs.Ytlpknnoacpfnnaa
open Go.RowKit

/-- The roles that handling turns. -/
def anyR (x : Nat) (r : Role) : Prop := tellAll r ∨ ∃ y, r = .chan x y

set_option maxRecDepth 100000 in
set_option maxHeartbeats 1000000 in
theorem handle_sub {w : World} {b : Nat} {ρ : Nat → Option Role} {σ : Net} (h : XN w b ρ σ) (T : Tree σ.par) {x : Nat} {fr : Option Nat} (hx : x < σ.n) (hlen : ∀ y, (σ.q x y).length < 2000) {c k : Nat} (hc : c < 4) (hk : k < 2) (age : Int) (fl : List Tst)
    (hold : ∀ f, σ.kn x (2 * c + k) = some f → age ≤ f.age) {fb : Nat} (hr : ρ fb = some .frame) (hf : w.heap[fb]? = some (.cells (encFr (.sub (2 * c + k) age fl)).toArray 118)) :
    Calls Try.prog 39 #[.pointer (some ⟨b, 0, none⟩), int x, int (whr fr), ptr fb] w fun e w' => e = .returned (.tuple #[]) ∧ ∃ ρ', XN w' b ρ' (σ.handle x fr (.sub (2 * c + k) age fl)) ∧ Mv (anyR x) ρ ρ' w w' := by
  have hf' := hf
  rw [encFr_sub c k hk] at hf'
  have c0 : w.cell? ⟨fb, 0, none⟩ = some (int 0) := box_cell hf' 0
  have hfl := h.lt fb (by rw [hr]; simp)
  have HX := hide h
  have HF := hide hf
  clear h hf hf'
  go_enter Try.func39, Try.ntmps39
  go_wp2_with (go_at_call 66; refine (handleSubX (σ := σ) (ρ := ρ) (fr := fr) (c := c) (k := k) ((unhide HX).calm ((Touch.refl _ _).alloc _)) T hx hlen hc hk age fl hold hr ((((Touch.refl (fun _ => False) _).alloc _).block fb hfl (fun f => f)).trans (unhide HF))).mono ?_; rintro r w1 ⟨rfl, ρ1, h1, m1⟩)
  go_end0
  refine ⟨rfl, ρ1, h1, (Mv.calm (unhide HX).lt ((Touch.refl _ _).alloc _)).trans (m1.mono (fun r hr => ?_))⟩
  rcases hr with hr | hr
  · exact Or.inl (Or.inl hr)
  · exact Or.inr hr

set_option maxRecDepth 100000 in
set_option maxHeartbeats 1000000 in
theorem handle_event {w : World} {b : Nat} {ρ : Nat → Option Role} {σ : Net} (h : XN w b ρ σ) (G : Good σ) {x : Nat} {fr : Option Nat} (hx : x < σ.n) (hlen : ∀ y, (σ.q x y).length < 2000) {m : Nat} (C : Cool σ x m) (hm : m < 2000000000000)
    {e : News} (he : e.ok) {fb : Nat} (hr : ρ fb = some .frame) (hf : w.heap[fb]? = some (.cells (encFr (.event e)).toArray 118)) :
    Calls Try.prog 39 #[.pointer (some ⟨b, 0, none⟩), int x, int (whr fr), ptr fb] w fun r w' => r = .returned (.tuple #[]) ∧ ∃ ρ', XN w' b ρ' (σ.handle x fr (.event e)) ∧ Mv (anyR x) ρ ρ' w w' := by
  have hf' := hf
  rw [encFr_event] at hf'
  have c0 : w.cell? ⟨fb, 0, none⟩ = some (int 2) := box_cell hf' 0
  have hfl := h.lt fb (by rw [hr]; simp)
  have HX := hide h
  have HF := hide hf
  have HC := hide C
  clear h hf hf' C
  go_enter Try.func39, Try.ntmps39
  go_wp2_with (go_at_call 68; refine (handleEvent_walk (σ := σ) (ρ := ρ) (fr := fr) ((unhide HX).calm ((Touch.refl _ _).alloc _)) G hx hlen (unhide HC) hm he hr ((((Touch.refl (fun _ => False) _).alloc _).block fb hfl (fun f => f)).trans (unhide HF))).mono ?_; rintro r w1 ⟨rfl, ρ1, h1, m1⟩)
  go_end0
  exact ⟨rfl, ρ1, h1, (Mv.calm (unhide HX).lt ((Touch.refl _ _).alloc _)).trans m1⟩

end Go.Proofs.Ytlpknnoacpfnnaa

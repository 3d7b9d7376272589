/-
  An event, for a subscription whose client is here.
-/
import Derived.Test.YtlpknnoacpfnnaaSub
namespace Go.Proofs.Ytlpknnoacpfnnaa
open Go.RowKit

theorem encFr_event (e : News) : (encFr (.event e)).toArray = #[int 2, int 0, int 0, int 0, int 0, int 0, int 0, int 0, int 0, int 0, int 0, int 0, int 0, int 0, int e.ev.pub, int e.ev.num, int e.ev.f0, int e.ev.f1, int e.ev.f2, int e.stay] := rfl

set_option maxRecDepth 100000 in
set_option maxHeartbeats 1000000 in
theorem toc_any {w : World} {b : Nat} {ρ : Nat → Option Role} {σ : Net} (h : XN w b ρ σ) {x c k kb fb : Nat} (hc : c < 4) (hk : k < 2) {e : News} (he : e.ok) (hu : (σ.cl c).used k = true) (hris : Rising ((σ.cl c).told k))
    (hlen : (σ.cl c).log.length < 2199023255552) (htl : ((σ.cl c).told k).length < 2199023255552) (hhere : (σ.cl c).here = some x)
    (k0 : w.cell? ⟨kb, 0, none⟩ = some (int c)) (k1 : w.cell? ⟨kb, 1, none⟩ = some (int k)) (hf : w.heap[fb]? = some (.cells (encFr (.event e)).toArray 118)) :
    Calls Try.prog 82 #[.pointer (some ⟨b, 0, none⟩), int x, ptr kb, ptr fb] w fun r w' => r = .returned (.tuple #[]) ∧
      ∃ ρ', XN w' b ρ' (σ.tell (2 * c + k) e) ∧ Mv (tellR c k) ρ ρ' w w' ∧ (∀ i, w.heap.size ≤ i → ρ' i ≠ none → ∃ cs t f, w'.heap[i]? = some (.cells cs t f)) ∧ OnlyT w w' ∧ StayC w w' := by
  have hat := (h.cli c hc).here
  rw [hhere] at hat
  have hat : w.cell? ⟨b, 86 + c * 11, none⟩ = some (int x) := hat
  rw [encFr_event] at hf
  have c14 : w.cell? ⟨fb, 14, none⟩ = some (int e.ev.pub) := box_cell hf 14
  have c15 : w.cell? ⟨fb, 15, none⟩ = some (int e.ev.num) := box_cell hf 15
  have c16 : w.cell? ⟨fb, 16, none⟩ = some (int e.ev.f0) := box_cell hf 16
  have c17 : w.cell? ⟨fb, 17, none⟩ = some (int e.ev.f1) := box_cell hf 17
  have c18 : w.cell? ⟨fb, 18, none⟩ = some (int e.ev.f2) := box_cell hf 18
  have c19 : w.cell? ⟨fb, 19, none⟩ = some (int e.stay) := box_cell hf 19
  have hci : (c : Int) < 4 := by omega
  have HX := hide h
  clear h hf
  go_enter Try.func82, Try.ntmps82
  go_wp2
  go_region
  go_wp2_with (go_at_call 40; refine (at_any b (86 + c * 11) x _ ?_).mono ?_; exact hat; rintro r w1 ⟨rfl, rfl⟩)
  go_region_with (first
    | (go_at_call 87; refine (notesEvent_any _ _ _ _ _ _ _ _).mono ?_; rintro r w2 ⟨rfl, ht2⟩)
    | (go_at_call 63; refine (tellX (σ := σ) (ρ := ρ) (c := c) (k := k) (e := e) ((unhide HX).calm ((((Touch.refl _ _).drew).drew).calm ht2)) hc hk he hu hris hlen htl).mono ?_; rintro r w3 ⟨rfl, ρ3, h3, m3, n3, o3, s3⟩))
  all_goals go_end0
  all_goals
    have hcal : Calm w w2 := (((Touch.refl _ _).drew).drew).calm ht2
    refine ⟨rfl, ρ3, h3, (Mv.calm (unhide HX).lt hcal).trans m3, fun i hi hne => ?_, (OnlyT.of_calm hcal).trans o3, (StayC.of_calm hcal).trans s3⟩
    by_cases hi2 : w2.heap.size ≤ i
    · exact n3 i hi2 hne
    · rw [m3.role i (by omega)] at hne
      exact absurd ((unhide HX).lt i hne) (by omega)

end Go.Proofs.Ytlpknnoacpfnnaa

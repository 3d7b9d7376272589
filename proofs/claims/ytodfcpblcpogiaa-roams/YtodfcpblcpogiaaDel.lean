/-
  DELIVER.
-/
import Derived.Test.YtodfcpblcpogiaaHan
namespace Go.Proofs.Ytodfcpblcpogiaa
open Go.RowKit

theorem delE_some {σ : Net} (ho : σ.closed = false) {x y : Nat} (hn : near σ.par x y = true) {f : Fr} {l : List Fr} (hq : σ.q x y = f :: l) : σ.delE x y = 0 ∧ σ.del x y = Net.handle { σ with q := put2 σ.q x y l } y (some x) f := by
  have hE : σ.delE x y = 0 := by simp [Net.delE, Net.asked, ho, Net.isLink, hn, hq]
  refine ⟨hE, ?_⟩
  simp only [Net.del, hE, if_true, toNat_nat, hq]

set_option maxRecDepth 100000 in
set_option maxHeartbeats 1000000 in
theorem deliverX {w : World} {b : Nat} {ρ : Nat → Option Role} {σ : Net} (h : XN w b ρ σ) {m : Nat} (F : Fit σ m) (hm : m < 2000000000000) {x y : Nat} {f : Fr} {l : List Fr} (hq : σ.q x y = f :: l) :
    Calls Try.prog 28 #[.pointer (some ⟨b, 0, none⟩), int x, int y] w fun e w' => e = .returned (int 0) ∧ ∃ ρ', XN w' b ρ' (σ.del x y) ∧ Mv allR ρ ρ' w w' := by
  have T := F.good.tree
  have h5 := T.1
  have hn := F.good.nbr x y (by rw [hq]; simp)
  have h6 := near_lt6 T hn
  have hyn : y < σ.n := (near_lt T hn).2
  have hdel := (delE_some h.open_ hn hq).2
  have hfr := F.can hm hq
  have hlen := F.len
  have hG0 := F.good.pop hq
  obtain ⟨a, cap, ha, hpa⟩ := h.par
  have hcl := h.closed
  have HX := hide h
  have HPA := hide hpa
  have HF := hide F
  have HDEL := hide hdel
  have HFR := hide hfr
  have HG := hide hG0
  have HQ := hide hq
  have hlen0 : ∀ z, (put2 σ.q x y l y z).length < 2000 := fun z => by
    rw [put2_other _ _ (fun e => near_ne T hn e.1.symm)]; exact hlen y z
  have HLEN0 := hide hlen0
  clear h hpa F hdel hfr hlen hG0 hq hlen0
  go_enter Try.func28, Try.ntmps28
  go_wp2_with (first
    | (go_at_call 62; refine (neighbours_any a cap σ.par x y _ h5 ?_).mono ?_; exact unhide HPA; rw [hn]; rintro r w1 ⟨rfl, ht1⟩
       have hcl1 := ht1.cell (p := ⟨b, 0, none⟩) (fun f => f) hcl
       have HX1 := hide ((unhide HX).calm ht1)
       have HM1 : Hid (Mv allR ρ ρ w w1) := Mv.calm (unhide HX).lt ht1
       clear ht1 hcl)
    | (go_at_call 35; refine (check_any _ _ _ hcl1).mono ?_; rintro r w2 ⟨rfl, rfl⟩
       have hct : chk true = 0 := rfl)
    | (go_at_call 63; refine (takeX (x := x) (y := y) (unhide HX1) h6.1 h6.2 hn (unhide HQ)).mono ?_; rintro r w3 ⟨fb, rfl, hX3, hM3, hf3⟩
       have HX3 := hide hX3
       have HM3 := hide ((unhide HM1).trans (hM3.mono (fun _ _ => trivial)))
       have HF3 := hide hf3
       clear hX3 hM3 hf3)
    | (go_at_call 48; refine (handle_any (fr := some x) (unhide HX3) T hyn (fun z => ?_) (unhide HFR) (unhide HF3)).mono ?_; exact unhide HLEN0 z; rintro r w4 ⟨rfl, ρ4, hX4, hM4⟩))
  go_ret
  exact ⟨rfl, ρ4, by rw [unhide HDEL]; exact hX4, (unhide HM3).trans hM4⟩

end Go.Proofs.Ytodfcpblcpogiaa

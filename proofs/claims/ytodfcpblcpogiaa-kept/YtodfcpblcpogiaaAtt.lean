/-
  ATTACH.
-/
import Derived.Test.YtodfcpblcpogiaaMvs
import Derived.Test.YtodfcpblcpogiaaHan
namespace Go.Proofs.Ytodfcpblcpogiaa
open Go.RowKit

theorem wrap_small {z : Int} (h0 : -9223372036854775808 ≤ z) (h1 : z ≤ 9223372036854775807) : wrap64 z = z := by
  simp only [wrap64]; omega

/-- A client's here, home and stays. -/
theorem XN.come {w : World} {b : Nat} {ρ : Nat → Option Role} {σ : Net} (h : XN w b ρ σ) {c x : Nat} (hc : c < 4) (hs : 0 ≤ (σ.cl c).stays ∧ (σ.cl c).stays < 2199023255552) :
    XN (((w.setCell ⟨b, 86 + c * 31, none⟩ (int x)).setCell ⟨b, 86 + c * 31 + 1, none⟩ (int x)).setCell ⟨b, 86 + c * 31 + 2, none⟩ (int (wrap64 ((σ.cl c).stays + 1)))) b ρ (σ.arrive c x) ∧
      Mv allR ρ ρ w (((w.setCell ⟨b, 86 + c * 31, none⟩ (int x)).setCell ⟨b, 86 + c * 31 + 1, none⟩ (int x)).setCell ⟨b, 86 + c * 31 + 2, none⟩ (int (wrap64 ((σ.cl c).stays + 1)))) := by
  have C := h.cli c hc
  obtain ⟨w1, e1⟩ : ∃ w1, w1 = w.setCell ⟨b, 86 + c * 31, none⟩ (int x) := ⟨_, rfl⟩
  obtain ⟨w2, e2⟩ : ∃ w2, w2 = w1.setCell ⟨b, 86 + c * 31 + 1, none⟩ (int x) := ⟨_, rfl⟩
  obtain ⟨w3, e3⟩ : ∃ w3, w3 = w2.setCell ⟨b, 86 + c * 31 + 2, none⟩ (int (wrap64 ((σ.cl c).stays + 1))) := ⟨_, rfl⟩
  rw [← e1, ← e2, ← e3]
  have hcell : ∀ o v, o ≠ 86 + c * 31 → o ≠ 86 + c * 31 + 1 → o ≠ 86 + c * 31 + 2 → w.cell? ⟨b, o, none⟩ = some v → w3.cell? ⟨b, o, none⟩ = some v := fun o v n1 n2 n3 hv => by
    rw [e3]; refine cell_setCell_ne _ n3 ?_
    rw [e2]; refine cell_setCell_ne _ n2 ?_
    rw [e1]; exact cell_setCell_ne _ n1 hv
  have c0 : w3.cell? ⟨b, 86 + c * 31, none⟩ = some (int x) := by
    rw [e3]; refine cell_setCell_ne _ (by omega) ?_
    rw [e2]; refine cell_setCell_ne _ (by omega) ?_
    rw [e1]; exact World.cell?_setCell_same w _ _ C.here
  have hh1 : w1.cell? ⟨b, 86 + c * 31 + 1, none⟩ = some (int (whr (σ.cl c).home)) := by rw [e1]; exact cell_setCell_ne _ (by omega) C.home
  have hs1 : w1.cell? ⟨b, 86 + c * 31 + 2, none⟩ = some (int (σ.cl c).stays) := by rw [e1]; exact cell_setCell_ne _ (by omega) C.stays
  have hs2 : w2.cell? ⟨b, 86 + c * 31 + 2, none⟩ = some (int (σ.cl c).stays) := by rw [e2]; exact cell_setCell_ne _ (by omega) hs1
  have c1 : w3.cell? ⟨b, 86 + c * 31 + 1, none⟩ = some (int x) := by
    rw [e3]; refine cell_setCell_ne _ (by omega) ?_
    rw [e2]; exact World.cell?_setCell_same w1 _ _ hh1
  have c2 : w3.cell? ⟨b, 86 + c * 31 + 2, none⟩ = some (int ((σ.cl c).stays + 1)) := by
    rw [e3, wrap_small (by omega) (by omega)]; exact World.cell?_setCell_same w2 _ _ hs2
  have hk : ∀ i, i ≠ b → w3.heap[i]? = w.heap[i]? := fun i hi => by
    rw [e3, heap_setCell_other _ _ hi, e2, heap_setCell_other _ _ hi, e1, heap_setCell_other _ _ hi]
  have ht : Touch (fun i => i = b) w w3 := by
    rw [e3, e2, e1]
    exact (((Touch.refl (fun i => i = b) w).setCell (p := ⟨b, 86 + c * 31, none⟩) (fun _ => rfl) _).setCell (p := ⟨b, 86 + c * 31 + 1, none⟩) (fun _ => rfl) _).setCell (p := ⟨b, 86 + c * 31 + 2, none⟩) (fun _ => rfl) _
  have hmv : Mv (fun r => r = .net) ρ ρ w w3 := ⟨ht.mono (fun i _ e => ⟨.net, by rw [e]; exact h.net, rfl⟩), fun _ _ => Or.inl rfl, fun k hk => Nat.lt_of_lt_of_le (h.lt k hk) ht.size⟩
  refine ⟨?_, hmv.mono (fun _ _ => trivial)⟩
  refine h.step hmv (fun o => o = 86 + c * 31 ∨ o = 86 + c * 31 + 1 ∨ o = 86 + c * 31 + 2) (by rw [e3, e2, e1]; exact typ_setCell (typ_setCell (typ_setCell h.typ _ _) _ _) _ _) (fun o => by rw [e3, e2, e1]; exact frozen_setCell _ _ _ _ _ (frozen_setCell _ _ _ _ _ (frozen_setCell _ _ _ _ _ (h.fr o)))) (fun o v ho => hcell o v (fun e => ho (Or.inl e)) (fun e => ho (Or.inr (Or.inl e))) (fun e => ho (Or.inr (Or.inr e)))) rfl rfl (by omega) (by omega) (by simp) (by simp) (by simp)
    (fun u v _ _ => Or.inl ⟨rfl, by omega, by simp⟩) (fun u d k _ _ _ => Or.inl ⟨rfl, by omega, by simp, by simp⟩) (fun d hd => ?_)
  by_cases ed : d = c
  · right
    subst ed
    simp only [Net.arrive, Net.setCl, put_same]
    obtain ⟨v, g1, g2⟩ := C.log
    have hkr : ∀ i r, ρ i = some r → r ≠ .net → w3.heap[i]? = w.heap[i]? ∧ ρ i = ρ i := fun i r hi hr => ⟨hk i (fun e => by subst e; rw [h.net] at hi; cases hi; exact hr rfl), rfl⟩
    refine ⟨c0, c1, c2, hcell _ _ (by omega) (by omega) (by omega) C.many, fun k hk2 => hcell _ _ (by omega) (by omega) (by omega) (C.used k hk2), fun k hk2 => hcell _ _ (by omega) (by omega) (by omega) (C.age k hk2), fun k hk2 => (C.fl k hk2).keep (fun j v hj => hcell _ _ (by omega) (by omega) (by omega)), fun k hk2 => ?_, v, hcell _ _ (by omega) (by omega) (by omega) g1, g2.keep (fun i hi => hkr i _ hi (by simp))⟩
    obtain ⟨u, f1, f2⟩ := C.heard k hk2
    exact ⟨u, hcell _ _ (by omega) (by omega) (by omega) f1, f2.keep (fun i hi => hkr i _ hi (by simp))⟩
  · left
    exact ⟨by simp only [Net.arrive, Net.setCl, put_other _ _ ed], fun o _ _ => by omega, fun _ => by simp, by simp⟩


/-- The slots below j are told. -/
def relTo (σ : Net) (c x : Nat) : Nat → Net
  | 0 => σ
  | j + 1 => (relTo σ c x j).rel c x j

theorem rel_keeps (σ : Net) (c x k : Nat) (_ : k < 2) : ((σ.rel c x k).cl c).here = (σ.cl c).here ∧ ∀ s, s ≠ 2 * c + k → (σ.rel c x k).kn x s = σ.kn x s := by
  unfold Net.rel
  cases σ.kn x (2 * c + k) with
  | none => exact ⟨rfl, fun _ _ => rfl⟩
  | some f =>
    simp only
    refine ⟨?_, fun s hs => ?_⟩
    · have h1 := (at_tells (2 * c + k) c f.kept (σ.lose (2 * c + k) f.more)).1
      have h2 := (at_lose σ (2 * c + k) f.more c).1
      exact h1.trans h2
    · show put2 ((σ.lose (2 * c + k) f.more).tells (2 * c + k) f.kept).kn x (2 * c + k) _ x s = _
      rw [put2_other _ _ (fun e => hs e.2), tells_kn]; rfl

set_option maxRecDepth 100000 in
set_option maxHeartbeats 2000000 in
/-- TELLKEPT. -/
theorem tellKeptX {w : World} {b : Nat} {ρ : Nat → Option Role} {σ : Net} (h : XN w b ρ σ) {c x : Nat} (hc : c < 4) (hx : x < 6) (hh : (σ.cl c).here = some x)
    (hC : ∀ k, k < 2 → ∀ f, σ.kn x (2 * c + k) = some f → CanRel (relTo σ c x k) c k f.kept f.more) :
    Calls Try.prog 42 #[.pointer (some ⟨b, 0, none⟩), int c] w fun e w' => e = .returned (.tuple #[]) ∧ ∃ ρ', XN w' b ρ' (relTo σ c x 2) ∧ Mv allR ρ ρ' w w' := by
  have hci : (c : Int) < 4 := by omega
  have hxi : (x : Int) < 6 := by omega
  have HX := hide h
  have HC := hide hC
  clear h hC
  go_enter Try.func42, Try.ntmps42
  go_wp2
  go_loopw [12] (fun p wr => ∃ j : Nat, j ≤ 2 ∧ p = int j ∧ ∃ ρ', XN wr b ρ' (relTo σ c x j) ∧ Mv allR ρ ρ' w wr ∧ ((relTo σ c x j).cl c).here = some x ∧ ∀ k, j ≤ k → (relTo σ c x j).kn x (2 * c + k) = σ.kn x (2 * c + k)) (fun p _ => 2 - (intOf p).toNat)
  case atStart => exact ⟨0, by omega, rfl, ρ, unhide HX, Mv.refl (unhide HX).lt, hh, fun _ _ => rfl⟩
  case round =>
    obtain ⟨j, hj, rfl, ρ1, hX1, hM1, hH1, hK1⟩ := hrel
    by_cases hlt : j < 2
    · have hji : (j : Int) < 2 := by omega
      have hat := (hX1.cli c hc).here
      rw [hH1] at hat
      replace hat : wr.cell? ⟨b, 86 + c * 31, none⟩ = some (int x) := hat
      obtain ⟨rk1, rk2⟩ := rel_keeps (relTo σ c x j) c x j hlt
      have hrs : relTo σ c x (j + 1) = (relTo σ c x j).rel c x j := rfl
      have hnext : ((relTo σ c x (j + 1)).cl c).here = some x ∧ ∀ k, j + 1 ≤ k → (relTo σ c x (j + 1)).kn x (2 * c + k) = σ.kn x (2 * c + k) := by
        rw [hrs]; exact ⟨rk1.trans hH1, fun k hk => (rk2 _ (by omega)).trans (hK1 k (by omega))⟩
      have hkj := hK1 j (Nat.le_refl _)
      obtain ⟨v, hv1, hv2⟩ := hX1.known x c j hx hc hlt
      cases hkn : (relTo σ c x j).kn x (2 * c + j) with
      | none =>
        rw [hkn] at hv2
        have hv2 : v = .pointer none := hv2
        subst hv2
        have hst : (relTo σ c x j).rel c x j = relTo σ c x j := by unfold Net.rel; rw [hkn]
        have HX1 := hide hX1
        have HM1 := hide hM1
        have HNX := hide hnext
        have HRS := hide (hrs.trans hst)
        clear hX1 hM1 hH1 hK1 rk1 rk2 hnext hrs hst hkn hkj
        go_wp2
        go_region_with (first
          | (go_at_call 49; refine (at_any b (86 + c * 31) x _ ?_).mono ?_; exact hat; rintro e w1 ⟨rfl, rfl⟩)
          | (go_at_call 70; refine (known_any b (38 + x * 8) c j _ (.pointer none) hc hlt ⟨_, rfl⟩ ?_).mono ?_; exact hv1; rintro e w1 ⟨rfl, rfl⟩))
        all_goals go_wp2
        all_goals go_roundw
        all_goals first
          | exact ⟨j + 1, by omega, by go_num, ρ1, by rw [unhide HRS]; exact (unhide HX1).calm (Touch.refl _ _).drew, (unhide HM1).trans (Mv.calm (unhide HX1).lt (Touch.refl _ _).drew), (unhide HNX).1, (unhide HNX).2⟩
          | (simp [intOf]; omega)
      | some f =>
        rw [hkn] at hv2
        obtain ⟨kb, kv, rfl, _⟩ := hv2
        have hcr := unhide HC j hlt f (by rw [← hkj]; exact hkn)
        have hst : (relTo σ c x j).rel c x j = (((relTo σ c x j).lose (2 * c + j) f.more).tells (2 * c + j) f.kept).know x (2 * c + j) (some { f with kept := [], more := 0 }) := by unfold Net.rel; rw [hkn]
        have HX1 := hide hX1
        have HM1 := hide hM1
        have HNX := hide hnext
        have HRS := hide (hrs.trans hst)
        have HKN := hide hkn
        have HCR := hide hcr
        have HPT := hide hv1
        clear hX1 hM1 hH1 hK1 rk1 rk2 hnext hrs hst hkn hkj hcr
        go_wp2
        go_region_with (first
          | (go_at_call 49; refine (at_any b (86 + c * 31) x _ ?_).mono ?_; exact hat; rintro e w1 ⟨rfl, rfl⟩)
          | (go_at_call 70; refine (known_any b (38 + x * 8) c j _ (ptr kb) hc hlt ⟨_, rfl⟩ ?_).mono ?_; exact hv1; rintro e w1 ⟨rfl, rfl⟩))
        all_goals go_wp2_with (go_at_call 71; refine (releaseX (w := wr.drew) ((unhide HX1).calm (Touch.refl _ _).drew) hx hc hlt (unhide HKN) (unhide HPT) (unhide HCR)).mono ?_; rintro e w2 ⟨rfl, ρ2, h2, m2, _⟩)
        all_goals
          have HX2 := hide h2
          have HM2 := hide (((unhide HM1).trans (Mv.calm (unhide HX1).lt (Touch.refl _ _).drew)).trans (m2.mono (fun _ _ => trivial)))
          clear h2 m2
        all_goals go_roundw
        all_goals first
          | exact ⟨j + 1, by omega, by go_num, ρ2, by rw [unhide HRS]; exact unhide HX2, unhide HM2, (unhide HNX).1, (unhide HNX).2⟩
          | (simp [intOf]; omega)
    · have hji : ¬ (j : Int) < 2 := by omega
      have hj2 : j = 2 := by omega
      subst hj2
      have HX1 := hide hX1
      have HM1 := hide hM1
      clear hX1 hM1
      go_wp2
      go_end0
      exact ⟨rfl, ρ1, unhide HX1, unhide HM1⟩

end Go.Proofs.Ytodfcpblcpogiaa

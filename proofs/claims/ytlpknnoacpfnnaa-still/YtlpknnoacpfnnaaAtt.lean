/-
  ATTACH: a client comes for the first time.
-/
import Derived.Test.YtlpknnoacpfnnaaPend
namespace Go.Proofs.Ytlpknnoacpfnnaa
open Go.RowKit

theorem wrap_small {z : Int} (h0 : -9223372036854775808 ≤ z) (h1 : z ≤ 9223372036854775807) : wrap64 z = z := by
  simp only [wrap64]; omega

/-- A client's here, home and stays. -/
theorem XN.come {w : World} {b : Nat} {ρ : Nat → Option Role} {σ : Net} (h : XN w b ρ σ) {c x : Nat} (hc : c < 4) (hs : 0 ≤ (σ.cl c).stays ∧ (σ.cl c).stays < 2199023255552) :
    XN (((w.setCell ⟨b, 86 + c * 11, none⟩ (int x)).setCell ⟨b, 86 + c * 11 + 1, none⟩ (int x)).setCell ⟨b, 86 + c * 11 + 2, none⟩ (int (wrap64 ((σ.cl c).stays + 1)))) b ρ (σ.arrive c x) ∧
      Mv allR ρ ρ w (((w.setCell ⟨b, 86 + c * 11, none⟩ (int x)).setCell ⟨b, 86 + c * 11 + 1, none⟩ (int x)).setCell ⟨b, 86 + c * 11 + 2, none⟩ (int (wrap64 ((σ.cl c).stays + 1)))) := by
  have C := h.cli c hc
  obtain ⟨w1, e1⟩ : ∃ w1, w1 = w.setCell ⟨b, 86 + c * 11, none⟩ (int x) := ⟨_, rfl⟩
  obtain ⟨w2, e2⟩ : ∃ w2, w2 = w1.setCell ⟨b, 86 + c * 11 + 1, none⟩ (int x) := ⟨_, rfl⟩
  obtain ⟨w3, e3⟩ : ∃ w3, w3 = w2.setCell ⟨b, 86 + c * 11 + 2, none⟩ (int (wrap64 ((σ.cl c).stays + 1))) := ⟨_, rfl⟩
  rw [← e1, ← e2, ← e3]
  have hcell : ∀ o v, o ≠ 86 + c * 11 → o ≠ 86 + c * 11 + 1 → o ≠ 86 + c * 11 + 2 → w.cell? ⟨b, o, none⟩ = some v → w3.cell? ⟨b, o, none⟩ = some v := fun o v n1 n2 n3 hv => by
    rw [e3]; refine cell_setCell_ne _ n3 ?_
    rw [e2]; refine cell_setCell_ne _ n2 ?_
    rw [e1]; exact cell_setCell_ne _ n1 hv
  have c0 : w3.cell? ⟨b, 86 + c * 11, none⟩ = some (int x) := by
    rw [e3]; refine cell_setCell_ne _ (by omega) ?_
    rw [e2]; refine cell_setCell_ne _ (by omega) ?_
    rw [e1]; exact World.cell?_setCell_same w _ _ C.here
  have hh1 : w1.cell? ⟨b, 86 + c * 11 + 1, none⟩ = some (int (whr (σ.cl c).home)) := by rw [e1]; exact cell_setCell_ne _ (by omega) C.home
  have hs1 : w1.cell? ⟨b, 86 + c * 11 + 2, none⟩ = some (int (σ.cl c).stays) := by rw [e1]; exact cell_setCell_ne _ (by omega) C.stays
  have hs2 : w2.cell? ⟨b, 86 + c * 11 + 2, none⟩ = some (int (σ.cl c).stays) := by rw [e2]; exact cell_setCell_ne _ (by omega) hs1
  have c1 : w3.cell? ⟨b, 86 + c * 11 + 1, none⟩ = some (int x) := by
    rw [e3]; refine cell_setCell_ne _ (by omega) ?_
    rw [e2]; exact World.cell?_setCell_same w1 _ _ hh1
  have c2 : w3.cell? ⟨b, 86 + c * 11 + 2, none⟩ = some (int ((σ.cl c).stays + 1)) := by
    rw [e3, wrap_small (by omega) (by omega)]; exact World.cell?_setCell_same w2 _ _ hs2
  have hk : ∀ i, i ≠ b → w3.heap[i]? = w.heap[i]? := fun i hi => by
    rw [e3, heap_setCell_other _ _ hi, e2, heap_setCell_other _ _ hi, e1, heap_setCell_other _ _ hi]
  have ht : Touch (fun i => i = b) w w3 := by
    rw [e3, e2, e1]
    exact (((Touch.refl (fun i => i = b) w).setCell (p := ⟨b, 86 + c * 11, none⟩) (fun _ => rfl) _).setCell (p := ⟨b, 86 + c * 11 + 1, none⟩) (fun _ => rfl) _).setCell (p := ⟨b, 86 + c * 11 + 2, none⟩) (fun _ => rfl) _
  have hmv : Mv (fun r => r = .net) ρ ρ w w3 := ⟨ht.mono (fun i _ e => ⟨.net, by rw [e]; exact h.net, rfl⟩), fun _ _ => rfl, fun k hk => Nat.lt_of_lt_of_le (h.lt k hk) ht.size⟩
  refine ⟨?_, hmv.mono (fun _ _ => trivial)⟩
  refine h.step hmv (fun o => o = 86 + c * 11 ∨ o = 86 + c * 11 + 1 ∨ o = 86 + c * 11 + 2) (by rw [e3, e2, e1]; exact typ_setCell (typ_setCell (typ_setCell h.typ _ _) _ _) _ _) (fun o => by rw [e3, e2, e1]; exact frozen_setCell _ _ _ _ _ (frozen_setCell _ _ _ _ _ (frozen_setCell _ _ _ _ _ (h.fr o)))) (fun o v ho => hcell o v (fun e => ho (Or.inl e)) (fun e => ho (Or.inr (Or.inl e))) (fun e => ho (Or.inr (Or.inr e)))) rfl rfl (by omega) (by omega) (by simp) (by simp)
    (fun u v _ _ => Or.inl ⟨rfl, by omega, by simp⟩) (fun u d k _ _ _ => Or.inl ⟨rfl, by omega, by simp, by simp⟩) (fun d hd => ?_)
  by_cases ed : d = c
  · right
    subst ed
    simp only [Net.arrive, Net.setCl, put_same]
    obtain ⟨v, g1, g2⟩ := C.log
    have hkr : ∀ i r, ρ i = some r → r ≠ .net → w3.heap[i]? = w.heap[i]? ∧ ρ i = ρ i := fun i r hi hr => ⟨hk i (fun e => by subst e; rw [h.net] at hi; cases hi; exact hr rfl), rfl⟩
    refine ⟨c0, c1, c2, hcell _ _ (by omega) (by omega) (by omega) C.many, fun k hk2 => hcell _ _ (by omega) (by omega) (by omega) (C.used k hk2), fun k hk2 => hcell _ _ (by omega) (by omega) (by omega) (C.age k hk2), fun k hk2 => ?_, v, hcell _ _ (by omega) (by omega) (by omega) g1, g2.keep (fun i hi => hkr i _ hi (by simp))⟩
    obtain ⟨u, f1, f2⟩ := C.heard k hk2
    exact ⟨u, hcell _ _ (by omega) (by omega) (by omega) f1, f2.keep (fun i hi => hkr i _ hi (by simp))⟩
  · left
    exact ⟨by simp only [Net.arrive, Net.setCl, put_other _ _ ed], fun o _ _ => by omega, fun _ => by simp, by simp⟩

set_option maxRecDepth 100000 in
set_option maxHeartbeats 1000000 in
/-- Nothing is kept. -/
theorem tellKept_none {w : World} {b : Nat} {ρ : Nat → Option Role} {σ : Net} (h : XN w b ρ σ) {c x : Nat} (hc : c < 4) (hx : x < 6) (hh : (σ.cl c).here = some x) (h0 : σ.kn x (2 * c + 0) = none) (h1 : σ.kn x (2 * c + 1) = none) :
    Calls Try.prog 35 #[.pointer (some ⟨b, 0, none⟩), int c] w fun e w' => e = .returned (.tuple #[]) ∧ Calm w w' := by
  have hat := (h.cli c hc).here
  rw [hh] at hat
  replace hat : w.cell? ⟨b, 86 + c * 11, none⟩ = some (int x) := hat
  have hkn : ∀ k, k < 2 → w.cell? ⟨b, 38 + x * 8 + c * 2 + k, none⟩ = some (.pointer none) := fun k hk => by
    obtain ⟨v, e, f⟩ := h.known x c k hx hc hk
    have hz : σ.kn x (2 * c + k) = none := by
      obtain rfl | rfl : k = 0 ∨ k = 1 := by omega
      · exact h0
      · exact h1
    rw [hz] at f
    replace f : v = .pointer none := f
    rw [f] at e; exact e
  have hci : (c : Int) < 4 := by omega
  have hxi : (x : Int) < 6 := by omega
  have HAT := hide hat
  have HKN := hide hkn
  clear h hkn hat
  go_enter Try.func35, Try.ntmps35
  go_wp2
  go_loopw [12] (fun p wr => ∃ k : Nat, k ≤ 2 ∧ p = int k ∧ Calm w wr) (fun p _ => 2 - (intOf p).toNat)
  case atStart => exact ⟨0, by omega, rfl, Touch.refl _ _⟩
  case round =>
    obtain ⟨k, hk, rfl, ht⟩ := hrel
    by_cases hlt : k < 2
    · have hki : (k : Int) < 2 := by omega
      have hat1 := ht.cell (p := ⟨b, 86 + c * 11, none⟩) (fun f => f) (unhide HAT)
      have e0 := ht.cell (p := ⟨b, 38 + x * 8 + c * 2 + k, none⟩) (fun f => f) (unhide HKN k hlt)
      have HT := hide ht
      clear ht
      go_wp2
      go_region_with (first
        | (go_at_call 40; refine (at_any b (86 + c * 11) x _ ?_).mono ?_; exact hat1; rintro e w1 ⟨rfl, rfl⟩)
        | (go_at_call 61; refine (known_any b (38 + x * 8) c k _ (.pointer none) hc hlt ⟨_, rfl⟩ ?_).mono ?_; exact e0; rintro e w1 ⟨rfl, rfl⟩))
      all_goals go_wp2
      all_goals go_roundw
      all_goals first
        | exact ⟨k + 1, by omega, by go_num, (unhide HT).drew⟩
        | (simp [intOf]; omega)
    · have hki : ¬ (k : Int) < 2 := by omega
      have HT := hide ht
      clear ht
      go_wp2
      go_end0
      exact ⟨rfl, unhide HT⟩

set_option maxRecDepth 100000 in
set_option maxHeartbeats 1000000 in
/-- ATTACH, of a client that was nowhere. -/
theorem attachX {w : World} {b : Nat} {ρ : Nat → Option Role} {σ : Net} (h : XN w b ρ σ) {m : Nat} (F : Fine σ m) {c x : Nat} (hc : c < 4) (hx : x < σ.n) (hh : (σ.cl c).here = none) (hs : 0 ≤ (σ.cl c).stays ∧ (σ.cl c).stays < 2199023255552)
    (h0 : σ.kn x (2 * c + 0) = none) (h1 : σ.kn x (2 * c + 1) = none) (hful : σ.full = false) :
    Calls Try.prog 11 #[.pointer (some ⟨b, 0, none⟩), int c, int x] w fun e w' => e = .returned (int 0) ∧ XN w' b ρ (σ.arrive c x) ∧ Mv allR ρ ρ w w' := by
  have T := F.good.tree
  have h5 := T.1
  have hx6 : x < 6 := Nat.lt_of_lt_of_le hx (size_le T)
  have hcl := h.closed
  have hcc : isCli (c : Int) = true := isCli_nat hc
  have hxx : hasB σ.par.length x = true := by
    have : (x : Int) < σ.par.length + 1 := by simp only [Net.n, size] at hx; omega
    simp [hasB, this]
  obtain ⟨a, cap, ha, _⟩ := h.par
  have hat := (h.cli c hc).here
  rw [hh] at hat
  replace hat : w.cell? ⟨b, 86 + c * 11, none⟩ = some (int (-1)) := hat
  have hci : (c : Int) < 4 := by omega
  have hct : chk true = 0 := rfl
  have HX := hide h
  have HF := hide F
  clear h F
  go_enter Try.func11, Try.ntmps11
  go_wp2_with (first
    | (go_at_call 30; refine (isClient_any _ _).mono ?_; rw [hcc]; rintro e w1 ⟨rfl, hw1⟩; have hw1 := hw1.symm; subst hw1)
    | (go_at_call 31; refine (has_any _ _ _ _ _ h5).mono ?_; rw [hxx]; rintro e w1 ⟨rfl, ht1⟩
       have hcl1 := ht1.cell (p := ⟨b, 0, none⟩) (fun f => f) hcl
       have hat1 := ht1.cell (p := ⟨b, 86 + c * 11, none⟩) (fun f => f) hat
       have HX1 := hide ((unhide HX).calm ht1)
       have HM1 : Hid (Mv allR ρ ρ w w1) := Mv.calm (unhide HX).lt ht1
       clear ht1 hcl hat ha)
    | (go_at_call 29; refine (check_any _ _ _ hcl1).mono ?_; rintro e w2 ⟨rfl, hw2⟩; have hw2 := hw2.symm; subst hw2)
    | (go_at_call 32; refine (away_any _ _ _ _ hat1).mono ?_; rintro e w2 ⟨rfl, hw2⟩; have hw2 := hw2.symm; subst hw2)
    | (go_at_call 33; refine (fullX (unhide HX1) (unhide HF)).mono ?_; rw [hful]; rintro e w3 ⟨rfl, ht3⟩
       have HX3 := hide ((unhide HX1).calm ht3)
       have HM3 := hide ((unhide HM1).trans (Mv.calm (unhide HX1).lt ht3))
       clear ht3)
    | (go_at_call 34; refine (come_any b (86 + c * 11) x (σ.cl c).stays _ _ _ ((unhide HX3).cli c hc).here ((unhide HX3).cli c hc).home ((unhide HX3).cli c hc).stays (unhide HX3).fr).mono ?_; rintro e w4 ⟨rfl, rfl⟩
       obtain ⟨h4, m4⟩ := (unhide HX3).come (x := x) hc hs
       have HX4 := hide h4
       have HM4 := hide ((unhide HM3).trans m4)
       clear h4 m4)
    | (go_at_call 35; refine (tellKept_none (unhide HX4) hc hx6 (by simp [Net.arrive, Net.setCl]) h0 h1).mono ?_; rintro e w5 ⟨rfl, ht5⟩))
  go_ret
  exact ⟨rfl, (unhide HX4).calm ht5, (unhide HM4).trans (Mv.calm (unhide HX4).lt ht5)⟩

end Go.Proofs.Ytlpknnoacpfnnaa

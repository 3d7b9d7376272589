/-
  A frame to all neighbours.
-/
import Derived.Test.YtodfcpblcpogiaaNear
namespace Go.Proofs.Ytodfcpblcpogiaa
open Go.RowKit

def okTo (par : List Nat) (x : Nat) (but : Option Nat) (y : Nat) : Bool := decide (some y ≠ but) && near par x y
def sprTo (σ : Net) (x : Nat) (but : Option Nat) (f : Fr) (k : Nat) : Net := σ.pushAll x ((List.range k).filter (okTo σ.par x but)) f

theorem sprTo_succ (σ : Net) (x : Nat) (but : Option Nat) (f : Fr) (k : Nat) : sprTo σ x but f (k + 1) = if okTo σ.par x but k then (sprTo σ x but f k).push x k f else sprTo σ x but f k := by
  unfold sprTo
  rw [List.range_succ, List.filter_append]
  by_cases h : okTo σ.par x but k = true
  · simp [h, Net.pushAll, List.foldl_append]
  · simp [h, Net.pushAll]
theorem sprTo_par (σ : Net) (x : Nat) (but : Option Nat) (f : Fr) (k : Nat) : (sprTo σ x but f k).par = σ.par := pushAll_par _ _ _ _
theorem sprTo_q (σ : Net) (x : Nat) (but : Option Nat) (f : Fr) (k a y : Nat) (hy : k ≤ y) : (sprTo σ x but f k).q a y = σ.q a y := by
  unfold sprTo
  rw [q_pushAll _ _ _ _ (List.Pairwise.filter _ List.nodup_range), if_neg (by simp; omega)]

theorem whr_ne {fr : Option Nat} {k : Nat} : ((k : Int) != whr fr) = decide (some k ≠ fr) := by
  rw [bne_dec]
  apply decide_eq_decide.2
  cases fr with
  | none => simp [whr]
  | some z => simp [whr]; omega

set_option maxRecDepth 100000 in
set_option maxHeartbeats 1000000 in
/-- SPREAD. -/
theorem spreadX {w : World} {b : Nat} {ρ : Nat → Option Role} {σ : Net} (h : XN w b ρ σ) (T : Tree σ.par) {x : Nat} {fr : Option Nat} (hx : x < σ.n) (hlen : ∀ y, (σ.q x y).length < 2000)
    {f : Fr} {fb : Nat} (hf : FrAt w ρ f fb) :
    Calls Try.prog 96 #[.pointer (some ⟨b, 0, none⟩), int x, int (whr fr), ptr fb] w fun e w' => e = .returned (.tuple #[]) ∧ XN w' b ρ (σ.spread x fr f) ∧ Mv (fun o => ∃ y, o = .chan x y) ρ ρ w w' := by
  obtain ⟨a, cap, ha, hpa⟩ := h.par
  have h5 := T.1
  have hbl := h.lt b (by rw [h.net]; simp)
  have hx6 : x < 6 := Nat.lt_of_lt_of_le hx (size_le T)
  have HX := hide h
  have HLT := hide h.lt
  clear h hpa
  go_enter Try.func96, Try.ntmps96
  go_wp2_with (go_at_call 68; refine (brokers_any _ _ _ _ h5).mono ?_; rintro e w1 ⟨rfl, ht1⟩)
  have hX1 := hide ((unhide HX).calm ht1)
  have hM1 : Hid (Mv (fun o => ∃ y, o = .chan x y) ρ ρ w w1) := Mv.calm (unhide HLT) ht1
  clear ht1 ha
  go_loopw [14] (fun i wr => ∃ k : Nat, k ≤ σ.n ∧ i = int k ∧ XN wr b ρ (sprTo σ x fr f k) ∧ Mv (fun o => ∃ y, o = .chan x y) ρ ρ w wr) (fun i _ => σ.n - (intOf i).toNat)
  case atStart => exact ⟨0, by omega, rfl, unhide hX1, unhide hM1⟩
  case round =>
    obtain ⟨k, hk, rfl, hXk, hMk⟩ := hrel
    have hn : (σ.n : Int) = σ.par.length + 1 := by simp [Net.n, size]
    by_cases hlt : k < σ.n
    · have hlt' : (k : Int) < σ.par.length + 1 := by omega
      have hk6 : k < 6 := Nat.lt_of_lt_of_le hlt (size_le T)
      obtain ⟨a', cap', ha', hpa'⟩ := hXk.par
      rw [sprTo_par] at ha' hpa'
      have hsu := sprTo_succ σ x fr f k
      have hfb : FrAt wr ρ f fb := hf.keep (fun k hk => hk.elim (fun e => hMk.keeps (unhide HLT) e (by simp)) (fun e => hMk.keeps (unhide HLT) e (by simp)))
      have hlq : ((sprTo σ x fr f k).q x k).length < 2000 := by rw [sprTo_q _ _ _ _ _ _ _ (Nat.le_refl _)]; exact hlen k
      have HXK := hide hXk
      have HMK := hide hMk
      have HPA := hide hpa'
      have HSU := hide hsu
      have HFB := hide hfb
      clear hXk hMk hpa' hsu hfb
      cases hd : decide (some k ≠ fr) with
      | false =>
        have hneq : ((k : Int) != whr fr) = false := by rw [whr_ne, hd]
        go_wp2
        go_roundw
        case rel =>
          have hok : okTo σ.par x fr k = false := by simp only [okTo, hd, Bool.false_and]
          exact ⟨k + 1, by omega, by go_num, by rw [unhide HSU, hok]; exact unhide HXK, unhide HMK⟩
        case measure => simp [intOf]; omega
      | true =>
        have hneq : ((k : Int) != whr fr) = true := by rw [whr_ne, hd]
        cases hnear : near σ.par x k with
        | false =>
          go_wp2_with (go_at_call 62; refine (neighbours_any a' cap' σ.par x k _ h5 ?_).mono ?_; exact unhide HPA; rw [hnear]; rintro e w2 ⟨rfl, ht2⟩)
          have HX2 := hide ((unhide HXK).calm ht2)
          have HM2 := hide ((unhide HMK).trans (Mv.calm (unhide HXK).lt ht2))
          clear ht2 ha'
          go_roundw
          case rel =>
            have hok : okTo σ.par x fr k = false := by simp only [okTo, hnear, Bool.and_false]
            exact ⟨k + 1, by omega, by go_num, by rw [unhide HSU, hok]; exact unhide HX2, unhide HM2⟩
          case measure => simp [intOf]; omega
        | true =>
          go_wp2_with (first
            | (go_at_call 62; refine (neighbours_any a' cap' σ.par x k _ h5 ?_).mono ?_; exact unhide HPA; rw [hnear]; rintro e w2 ⟨rfl, ht2⟩
               have HX2 := hide ((unhide HXK).calm ht2)
               have HM2 := hide ((unhide HMK).trans (Mv.calm (unhide HXK).lt ht2))
               have HFB2 := hide ((unhide HFB).calm (unhide HXK).lt ht2)
               clear ht2 ha')
            | (go_at_call 93; refine (sendX (x := x) (y := k) (f := f) (fb := fb) (unhide HX2) hx6 hk6 (by rw [sprTo_par]; exact hnear) hlq (unhide HFB2)).mono ?_; rintro e w3 ⟨rfl, hX3, hM3⟩))
          have HX3 := hide hX3
          have HM3 := hide ((unhide HM2).trans (hM3.mono (fun r hr => ⟨k, hr⟩)))
          clear hX3 hM3
          go_roundw
          case rel =>
            have hok : okTo σ.par x fr k = true := by simp only [okTo, hd, hnear, Bool.and_self]
            exact ⟨k + 1, by omega, by go_num, by rw [unhide HSU, hok]; exact unhide HX3, unhide HM3⟩
          case measure => simp [intOf]; omega
    · have hke : k = σ.n := by omega
      subst hke
      have hlt' : ¬ (σ.n : Int) < σ.par.length + 1 := by omega
      have HXK := hide hXk
      have HMK := hide hMk
      clear hXk hMk
      go_wp2
      go_end0
      exact ⟨rfl, unhide HXK, unhide HMK⟩

end Go.Proofs.Ytodfcpblcpogiaa

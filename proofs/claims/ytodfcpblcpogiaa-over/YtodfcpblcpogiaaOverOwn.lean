/-
  The statement roverkeep.Over is proved: for every tree, two brokers, brokers that are come to and an event, made out of any numbers, the call returns true, and what was handed in reads behind the call as it read before.
  No condition: all arguments that can be read (the row's own reach alone).
-/
import Derived.Test.YtodfcpblcpogiaaOvs
import Derived.Test.YtodfcpblcpogiaaUnsX
import Derived.Test.YtodfcpblcpogiaaPubF
import Derived.Test.YtodfcpblcpogiaaHouse
import Derived.Test.YtodfcpblcpogiaaHact
import Derived.Test.YtodfcpblcpogiaaOpen
namespace Go.Proofs.Ytodfcpblcpogiaa
open Go.RowKit
open Go.ChangeShapes Go.WideShapes Go.ChangeAt Go.RowKit

/-- Where a house is: client 0 is at a broker, nothing waits. -/
def InQ (hb b : Nat) (κ ρ : Nat → Option Role) (w1 : World) (par : List Nat) (p : Nat) (U : Nat → Bool) (m : Nat) (wr : World) : Prop :=
  ∃ a ρ' σ H, HN wr hb b κ ρ' σ H ∧ H.evs = [] ∧ H.many = size par ∧ Ov par U (some a) p σ ∧ NoQ σ ∧ Fit σ m ∧ Ow κ ρ κ ρ' w1 wr

section
variable {hb b : Nat} {κ ρ : Nat → Option Role} {w1 wr : World} {par : List Nat} {p m : Nat} {U : Nat → Bool}
theorem InQ.calm {w2 : World} (h : InQ hb b κ ρ w1 par p U m wr) (t : Calm wr w2) : InQ hb b κ ρ w1 par p U m w2 := by
  obtain ⟨a, ρ', σ, H, hN, h1, h2, h3, h4, h5, h6⟩ := h
  exact ⟨a, ρ', σ, H, hN.calm t, h1, h2, h3, h4, h5, h6.trans (Ow.calm t)⟩
theorem InQ.weak {m' : Nat} (h : InQ hb b κ ρ w1 par p U m wr) (hm : m ≤ m') : InQ hb b κ ρ w1 par p U m' wr := by
  obtain ⟨a, ρ', σ, H, hN, h1, h2, h3, h4, h5, h6⟩ := h
  exact ⟨a, ρ', σ, H, hN, h1, h2, h3, h4, h5.weak hm, h6⟩
theorem known_evs (H : HM) : H.known.evs = H.evs ∧ H.known.many = H.many := ⟨rfl, rfl⟩

set_option maxRecDepth 100000 in
set_option maxHeartbeats 4000000 in
theorem movesX (h : InQ hb b κ ρ w1 par p U m wr) (T : Tree par) (hm : m ≤ 1000000) {ta : Option Addr} {tn tc : Nat} {f : Nat → Int} {w0 : World} (hT : Calm w0 w1) (hlow : ∀ j, j < w0.heap.size → ¬ (κ j ≠ none ∨ ρ j ≠ none)) (hr : RawAt w0 ta tn f) (htn : tn ≤ maxLen) :
    Calls Try.prog 31 #[ptr hb, int 0, .slice ta tn tc] wr fun r w' => r = .returned (.bool true) ∧ InQ hb b κ ρ w1 par p U (m + 12 * 12100) w' := by
  have TT := hide T
  have HI := hide h
  have HT := hide hT
  have HLOW := hide hlow
  have HR := hide hr
  have htnI : (tn : Int) ≤ 9223372036854775807 := by unfold maxLen at htn; omega
  have hsz := size_le T
  have hsp : 0 < size par := by unfold size; omega
  clear T h hT hlow hr htn
  go_enter Try.func31, Try.ntmps31
  go_wp2_with fail
  go_loopw [7] (fun i wx => ∃ k : Nat, k ≤ tn ∧ k ≤ 12 ∧ i = int k ∧ InQ hb b κ ρ w1 par p U (m + k * 12100) wx) (fun i _ => 12 - (intOf i).toNat)
  case atStart => exact ⟨0, by omega, by omega, rfl, unhide HI⟩
  case round =>
    obtain ⟨k, hk1, hk2, rfl, hI⟩ := hrel
    obtain ⟨wa, hwa⟩ : ∃ wa, wa = wr := ⟨_, rfl⟩
    subst hwa
    by_cases hkt : k < tn
    · by_cases hk12 : k < 12
      · have hkI : (k : Int) < tn := by omega
        have hkI2 : (k : Int) < 12 := by omega
        obtain ⟨a, ρ1, σ, H, hN, hev, hmn, hO, hq, hF, hW⟩ := hI
        have hcal : Calm w0 wa := (unhide HT).fresh hW.touch (unhide HLOW)
        obtain ⟨tb, tf, rfl, hc0, hfit⟩ := (unhide HR).cell hkt
        have htc := hcal.cell (p := ⟨tb, _, none⟩) (fun f => f) hc0
        have htlt : tb < w0.heap.size := block_lt_of_cell hc0
        have hnet := hN.h.net
        obtain ⟨hE1, hO1, hq1, hhome⟩ := hO.detach hF.live hq
        have HNa := hide hN
        have HF := hide hF
        have HW := hide hW
        have HEV := hide hev
        have HMN := hide hmn
        have HO1 := hide hO1
        have HQ1 := hide hq1
        have HE1 := hide hE1
        have HOFF : Hid (κ tb = none ∧ ρ1 tb = none) := by
          have hl := unhide HLOW tb htlt
          have hr2 := hW.role tb (Nat.lt_of_lt_of_le htlt (unhide HT).size)
          refine ⟨?_, hr2.2.2 ?_⟩
          · cases hx : κ tb with
            | none => rfl
            | some r => exact absurd (Or.inl (by rw [hx]; simp)) hl
          · cases hx : ρ tb with
            | none => rfl
            | some r => exact absurd (Or.inr (by rw [hx]; simp)) hl
        have hpk := fun w => pick_any (f k) (size par) w hfit (by omega) (by omega)
        have hpl := pickN_lt (f k) (size par) hsp
        obtain ⟨x, hx⟩ : ∃ x, x = pickN (f k) (size par) := ⟨_, rfl⟩
        rw [← hx] at hpk hpl
        have HPK := hide hpk
        clear hN hev hmn hO hq hF hW hcal hc0 hfit hE1 hO1 hq1 hhome hpk hx
        go_wp2_with fail
        refine (detachX (unhide HNa).x (unhide HF) 0).mono ?_
        rw [unhide HE1]
        rintro e w2 ⟨rfl, hX2, hM2⟩
        have hN2 := (unhide HNa).mv hX2 hM2
        have HN2 := hide hN2
        have HW2 := hide ((unhide HW).trans (Ow.mv hM2))
        have HF2 := hide ((unhide HF).detach 0)
        have htc2 := (Ow.mv (κ := κ) hM2).cell (unhide HOFF).1 (unhide HOFF).2 htc
        have hnet2 := hN2.h.net
        have hmany2 := hN2.h.many
        rw [unhide HMN] at hmany2
        obtain ⟨hE3, hO3⟩ := (unhide HO1).attach (unhide HF2).live (unhide HQ1) (b := x) hpl
        have HE3 := hide hE3
        have HO3 := hide hO3
        clear hX2 hM2 hN2 htc hnet hE3 hO3
        go_wp2_with fail
        go_cut [9] (fun s wx => s = int 0 ∧ ∃ ρ', HN wx hb b κ ρ' ((σ.detach 0).attach 0 x) H ∧ Ow κ ρ κ ρ' w1 wx)
        case first =>
          go_region_with (first
            | (go_at_call 12; refine (unhide HPK _).mono ?_; rintro e w3 ⟨rfl, hw3⟩; have hw3 := hw3.symm; subst hw3)
            | (go_at_call 14; refine (attachX ((unhide HN2).calm ((Touch.refl _ _).drew)).x (unhide HF2) (by omega) 0 x).mono ?_; rw [unhide HE3]; rintro e w4 ⟨rfl, ρ4, hX4, hM4⟩))
          all_goals go_wp2_with fail
          all_goals go_meet
          all_goals exact ⟨rfl, ρ4, ((unhide HN2).calm ((Touch.refl _ _).drew)).mv hX4 hM4, ((unhide HW2).trans (Ow.calm ((Touch.refl _ _).drew))).trans (Ow.mv hM4)⟩
        case rest =>
          obtain ⟨rfl, ρ4, hN4, hW4⟩ := hcut
          have HN4 := hide hN4
          have HW4 := hide hW4
          have HR4 : Hid (OvI par U (some x) p (m + k * 12100 + 12016) ((σ.detach 0).attach 0 x)) := ⟨unhide HO3, Room.of ((unhide HF2).attach 0 x) (by omega)⟩
          have HFT : Hid (Fits (k : Int)) := hide (show Fits (k : Int) from ⟨by omega, by omega⟩)
          clear hN4 hW4 htc2 hnet2 hmany2
          go_wp2_with fail
          refine (quietX (ov_runs (by omega)) (unhide HN4) (unhide HR4) (unhide HFT) (by rw [unhide HEV]; simp)).mono ?_
          rintro e w5 ⟨rfl, ρ5, σ5, hN5, hI5, hq5, hW5⟩
          have REL : Hid (InQ hb b κ ρ w1 par p U (m + (k + 1) * 12100) w5) := ⟨x, ρ5, σ5, _, hN5, unhide HEV, unhide HMN, hI5.1, hq5, hI5.2.fit.weak (by omega), (unhide HW4).trans hW5⟩
          clear hN5 hI5 hq5 hW5
          go_wp2
          go_roundw
          case rel => exact ⟨k + 1, by omega, by omega, by go_num, unhide REL⟩
          case measure => simp [intOf]; omega
      · have hkI : (k : Int) < tn := by omega
        have hkI2 : ¬ (k : Int) < 12 := by omega
        have HIk := hide hI
        clear hI
        go_wp2
        go_ret
        exact ⟨rfl, (unhide HIk).weak (by omega)⟩
    · have hkI : ¬ (k : Int) < tn := by omega
      have HIk := hide hI
      clear hI
      go_wp2
      go_ret
      exact ⟨rfl, (unhide HIk).weak (by omega)⟩
end

section
variable {hb b : Nat} {κ ρ : Nat → Option Role} {w1 wr : World} {par : List Nat} {p m : Nat} {U : Nat → Bool}

set_option maxRecDepth 100000 in
set_option maxHeartbeats 4000000 in
theorem heardOne (h : InQ hb b κ ρ w1 par p U m wr) (T : Tree par) (hpl : p < size par) (hm : m ≤ 1000000) {k : Nat} (hk : k < 2) (hu : U k = true) (honly : ∀ j, j < 2 → j ≠ k → U j = false) (f0 f1 f2 : Int) :
    Calls Try.prog 32 #[ptr hb, int k, .agg #[int f0, int f1, int f2]] wr fun r w' => r = .returned (.tuple #[.bool true, .bool true]) ∧ InQ hb b κ ρ w1 par p U (m + 12100) w' := by
  obtain ⟨a, ρ1, σ, H, hN, hev, hmn, hO, hq, hF, hW⟩ := h
  obtain ⟨hE, hA, hEv, hOne, _⟩ := hO.pub hF.live T hq hpl f0 f1 f2
  have hal := (hO.home hF.live).2
  have hI := hOne k hk hu honly
  have hnum := (hF.r.nums.cl 1).many
  obtain ⟨N, hNN⟩ : ∃ N, N = (σ.cl 1).many + 1 := ⟨_, rfl⟩
  rw [← hNN] at hA hEv
  have hNb : 1 ≤ N ∧ N ≤ 2000000 := by omega
  have hnet := hN.h.net
  have HNa := hide hN
  have HF := hide hF
  have HW := hide hW
  have HEV := hide hev
  have HMN := hide hmn
  have HE := hide hE
  have HA := hide hA
  have HEVE := hide hEv
  have HI := hide hI
  have TT := hide T
  have HAL := hide hal
  have hkI : (k : Int) < 2 := by omega
  clear hN hev hmn hO hq hF hW hE hA hEv hOne hI hal hnum hNN T honly hu
  obtain ⟨W, hWE⟩ : ∃ W, wr.alloc (.cells #[int f0, int f1, int f2] 23) = W := ⟨_, rfl⟩
  have hbx : W.heap[wr.heap.size]? = some (.cells #[int f0, int f1, int f2] 23) := by rw [← hWE]; exact heap_alloc_new wr _
  have hcal : Calm wr W := by rw [← hWE]; exact (Touch.refl _ _).alloc _
  have HOFF : Hid (κ wr.heap.size = none ∧ ρ1 wr.heap.size = none) := by
    refine ⟨?_, ?_⟩
    · cases hx : κ wr.heap.size with
      | none => rfl
      | some r => have := (unhide HNa).h.lt _ (by rw [hx]; simp); omega
    · cases hx : ρ1 wr.heap.size with
      | none => rfl
      | some r => have := (unhide HNa).x.lt _ (by rw [hx]; simp); omega
  have HN0 := hide ((unhide HNa).calm hcal)
  have HW0 := hide ((unhide HW).trans (Ow.calm hcal))
  have HBX := hide hbx
  have x0 : W.cell? ⟨wr.heap.size, 0, none⟩ = some (int f0) := box_cell hbx 0
  have x1 : W.cell? ⟨wr.heap.size, 1, none⟩ = some (int f1) := box_cell hbx 1
  have x2 : W.cell? ⟨wr.heap.size, 2, none⟩ = some (int f2) := box_cell hbx 2
  replace hnet := hcal.cell (p := ⟨hb, 0, none⟩) (fun f => f) hnet
  clear hbx hcal
  go_enter Try.func32, Try.ntmps32
  go_wp2_with fail
  clear hWE
  go_cut [8, 9] (fun s t wx => s = int N ∧ t = int 0 ∧ ∃ ρ', HN wx hb b κ ρ' (σ.pub 1 f0 f1 f2) H ∧ Ow κ ρ1 κ ρ' W wx)
  case first =>
    go_region_with (go_at_call 17; refine (publishX ((unhide HN0).calm ((Touch.refl _ _).drew)).x (unhide HF) (by omega) 1 f0 f1 f2).mono ?_; rw [unhide HA, unhide HE]; rintro e w7 ⟨rfl, ρ7, hX7, hM7⟩)
    all_goals go_wp2_with fail
    all_goals go_meet
    all_goals exact ⟨rfl, rfl, ρ7, ((unhide HN0).calm ((Touch.refl _ _).drew)).mv hX7 hM7, (Ow.calm ((Touch.refl _ _).drew)).trans (Ow.mv hM7)⟩
  case rest =>
    obtain ⟨rfl, rfl, ρ7, hN7, hO7⟩ := hcut
    obtain ⟨w7, hw7⟩ : ∃ w7, w7 = wc := ⟨_, rfl⟩
    subst hw7
    have hnet7 := hN7.h.net
    have HN7 := hide hN7
    have HO7 := hide hO7
    have hR7 : OvEvR par U a p k (σ.pubEv 1 f0 f1 f2) (m + 12008) (σ.pub 1 f0 f1 f2) := ⟨unhide HI, Room.of ((unhide HF).pub 1 f0 f1 f2) (by omega)⟩
    have HR7 := hide hR7
    have HF7 := hide hR7.2.fit
    clear hN7 hO7 hR7 x0 x1 x2 hnet
    go_wp2_with fail
    refine (pendingX (unhide HN7).x (unhide HF7).len).mono ?_
    rintro e w8 ⟨v, rfl, hL, ht8⟩
    obtain ⟨pa, pc, rfl, _⟩ := links_at hL
    have HT8 := hide ht8
    have HFT : Hid (Fits N) := hide (show Fits N from ⟨by omega, by omega⟩)
    clear hL ht8 hnet7
    go_wp2_with fail
    refine (quietX (ovev_runs (unhide TT) hk (unhide HAL) (by omega)) ((unhide HN7).calm (unhide HT8)) (unhide HR7) (unhide HFT) (by rw [unhide HEV]; simp)).mono ?_
    rintro e w9 ⟨rfl, ρ9, σ9, hN9, hI9, hq9, hO9⟩
    have hnet9 := hN9.h.net
    have hlog9 : (σ9.cl 0).log = [⟨k, 0, ⟨1, N, f0, f1, f2⟩⟩] := by
      obtain ⟨_, ⟨x, y, _, _, _, ho, _⟩ | ⟨_, h⟩⟩ := hI9.1
      · have := ho.1; rw [hq9] at this; cases this
      · rw [h, unhide HEVE]
    have HN9 := hide hN9
    have HO9 := hide ((((unhide HW0).trans (unhide HO7)).trans (Ow.calm (unhide HT8))).trans hO9)
    have HO9b := hide (((unhide HO7).trans (Ow.calm (unhide HT8))).trans hO9)
    have HE9 := hide hI9.1.1
    have HF9 := hide hI9.2.fit
    have HQ9 := hide hq9
    have HLOG9 := hide hlog9
    clear hN9 hI9 hq9 hO9 hlog9
    go_wp2_with fail
    refine (logX2 (unhide HN9).x (c := 0) (by omega)).mono ?_
    rw [unhide HLOG9]
    rintro e w10 ⟨v, rfl, hrow, hX10, hM10, hown⟩
    obtain ⟨va, vc, hva⟩ := ownsRow_slice hrow
    subst hva
    obtain ⟨g, cap, e1, hcel⟩ := ownsRow_get hrow Ent.enc_len (by omega) (i := 0) (a := ⟨k, 0, ⟨1, N, f0, f1, f2⟩⟩) rfl
    cases e1
    have c0 : w10.cell? ⟨g, 0 * 7 + 0, none⟩ = some (int k) := hcel 0 _ rfl
    have c1 : w10.cell? ⟨g, 0 * 7 + 1, none⟩ = some (int 0) := hcel 1 _ rfl
    have c2 : w10.cell? ⟨g, 0 * 7 + 2, none⟩ = some (int 1) := hcel 2 _ rfl
    have c3 : w10.cell? ⟨g, 0 * 7 + 3, none⟩ = some (int N) := hcel 3 _ rfl
    have c4 : w10.cell? ⟨g, 0 * 7 + 4, none⟩ = some (int f0) := hcel 4 _ rfl
    have c5 : w10.cell? ⟨g, 0 * 7 + 5, none⟩ = some (int f1) := hcel 5 _ rfl
    have c6 : w10.cell? ⟨g, 0 * 7 + 6, none⟩ = some (int f2) := hcel 6 _ rfl
    simp only [Nat.zero_mul, Nat.zero_add] at c0 c1 c2 c3 c4 c5 c6
    have hO10 := (unhide HO9b).trans (Ow.mv (κ := κ) hM10)
    have bxc : ∀ j v, [int f0, int f1, int f2][j]? = some v → w10.cell? ⟨wr.heap.size, j, none⟩ = some v := fun j v hj => hO10.cell (unhide HOFF).1 (unhide HOFF).2 ((box_cell (unhide HBX) j).trans (by simpa using hj))
    have x0 := bxc 0 _ rfl
    have x1 := bxc 1 _ rfl
    have x2 := bxc 2 _ rfl
    have hgl : g < w10.heap.size := block_lt_of_cell c0
    have hfin := (unhide HE9).read (unhide HQ9)
    have RES : Hid (InQ hb b κ ρ w1 par p U (m + 12100) w10) := by
      refine ⟨a, ρ9, _, _, (unhide HN9).mv hX10 hM10, unhide HEV, unhide HMN, hfin.1, hfin.2, ?_, (unhide HO9).trans (Ow.mv hM10)⟩
      have hE : σ9.logE ((0 : Nat) : Int) = 0 := by unfold Net.logE; exact asked_ok (unhide HE9).opn (isCli_nat (by omega))
      have h9 := (unhide HF9).log ((0 : Nat) : Int)
      unfold Net.log at h9
      rw [if_pos hE] at h9
      simp only [toNat_nat] at h9
      exact h9.weak (by omega)
    clear hrow hX10 hM10 hown hcel bxc hO10 hnet9 hfin
    have heq := run_equal23
    go_wp2_with fail
    go_region
    all_goals go_wp2
    all_goals go_ret2
    all_goals exact ⟨rfl, (unhide RES).calm (by repeat (first | exact Touch.refl _ _ | apply Touch.drew | apply Touch.alloc))⟩
theorem pending_no {σ : Net} (hq : NoQ σ) : σ.pending = [] := by
  unfold Net.pending
  split
  · rfl
  · rw [List.flatMap_eq_nil_iff]
    intro x _
    rw [List.filterMap_eq_nil_iff]
    intro y _
    rw [if_pos (hq x y)]

set_option maxRecDepth 100000 in
set_option maxHeartbeats 4000000 in
theorem heardNone (h : InQ hb b κ ρ w1 par p U m wr) (T : Tree par) (hpl : p < size par) (hm : m ≤ 1000000) (hnone : ∀ j, j < 2 → U j = false) (f0 f1 f2 : Int) :
    Calls Try.prog 32 #[ptr hb, int (-1), .agg #[int f0, int f1, int f2]] wr fun r w' => r = .returned (.tuple #[.bool false, .bool true]) ∧ InQ hb b κ ρ w1 par p U (m + 12100) w' := by
  obtain ⟨a, ρ1, σ, H, hN, hev, hmn, hO, hq, hF, hW⟩ := h
  obtain ⟨hE, hA, _, _, hNon⟩ := hO.pub hF.live T hq hpl f0 f1 f2
  obtain ⟨hO2, hq2⟩ := hNon hnone
  have hnum := (hF.r.nums.cl 1).many
  obtain ⟨N, hNN⟩ : ∃ N, N = (σ.cl 1).many + 1 := ⟨_, rfl⟩
  rw [← hNN] at hA
  have hNb : 1 ≤ N ∧ N ≤ 2000000 := by omega
  have hnet := hN.h.net
  have HNa := hide hN
  have HF := hide hF
  have HW := hide hW
  have HEV := hide hev
  have HMN := hide hmn
  have HE := hide hE
  have HA := hide hA
  have HO2 := hide hO2
  have HP2 := hide (pending_no hq2)
  clear hN hev hmn hO hq hF hW hE hA hNon hO2 hq2 hnum hNN T hnone
  obtain ⟨W, hWE⟩ : ∃ W, wr.alloc (.cells #[int f0, int f1, int f2] 23) = W := ⟨_, rfl⟩
  have hbx : W.heap[wr.heap.size]? = some (.cells #[int f0, int f1, int f2] 23) := by rw [← hWE]; exact heap_alloc_new wr _
  have hcal : Calm wr W := by rw [← hWE]; exact (Touch.refl _ _).alloc _
  have HN0 := hide ((unhide HNa).calm hcal)
  have HW0 := hide ((unhide HW).trans (Ow.calm hcal))
  have x0 : W.cell? ⟨wr.heap.size, 0, none⟩ = some (int f0) := box_cell hbx 0
  have x1 : W.cell? ⟨wr.heap.size, 1, none⟩ = some (int f1) := box_cell hbx 1
  have x2 : W.cell? ⟨wr.heap.size, 2, none⟩ = some (int f2) := box_cell hbx 2
  replace hnet := hcal.cell (p := ⟨hb, 0, none⟩) (fun f => f) hnet
  clear hbx hcal
  go_enter Try.func32, Try.ntmps32
  go_wp2_with fail
  clear hWE
  go_cut [8, 9] (fun s t wx => s = int N ∧ t = int 0 ∧ ∃ ρ', HN wx hb b κ ρ' (σ.pub 1 f0 f1 f2) H ∧ Ow κ ρ1 κ ρ' W wx)
  case first =>
    go_region_with (go_at_call 17; refine (publishX ((unhide HN0).calm ((Touch.refl _ _).drew)).x (unhide HF) (by omega) 1 f0 f1 f2).mono ?_; rw [unhide HA, unhide HE]; rintro e w7 ⟨rfl, ρ7, hX7, hM7⟩)
    all_goals go_wp2_with fail
    all_goals go_meet
    all_goals exact ⟨rfl, rfl, ρ7, ((unhide HN0).calm ((Touch.refl _ _).drew)).mv hX7 hM7, (Ow.calm ((Touch.refl _ _).drew)).trans (Ow.mv hM7)⟩
  case rest =>
    obtain ⟨rfl, rfl, ρ7, hN7, hO7⟩ := hcut
    obtain ⟨w7, hw7⟩ : ∃ w7, w7 = wc := ⟨_, rfl⟩
    subst hw7
    have hnet7 := hN7.h.net
    have HN7 := hide hN7
    have HO7 := hide hO7
    have hR7 : OvI par U (some a) p (m + 12008) (σ.pub 1 f0 f1 f2) := ⟨unhide HO2, Room.of ((unhide HF).pub 1 f0 f1 f2) (by omega)⟩
    have HR7 := hide hR7
    have HF7 := hide hR7.2.fit
    clear hN7 hO7 hR7 x0 x1 x2 hnet
    go_wp2_with fail
    refine (pendingX (unhide HN7).x (unhide HF7).len).mono ?_
    rw [unhide HP2]
    rintro e w8 ⟨v, rfl, hL, ht8⟩
    obtain ⟨pa, pc, rfl, _⟩ := links_at hL
    have HT8 := hide ht8
    have HFT : Hid (Fits N) := hide (show Fits N from ⟨by omega, by omega⟩)
    simp only [List.length_nil]
    clear hL ht8 hnet7
    go_wp2_with fail
    refine (quietX (ov_runs (by omega)) ((unhide HN7).calm (unhide HT8)) (unhide HR7) (unhide HFT) (by rw [unhide HEV]; simp)).mono ?_
    rintro e w9 ⟨rfl, ρ9, σ9, hN9, hI9, hq9, hO9⟩
    have hnet9 := hN9.h.net
    have HN9 := hide hN9
    have HO9 := hide ((((unhide HW0).trans (unhide HO7)).trans (Ow.calm (unhide HT8))).trans hO9)
    have HE9 := hide hI9.1
    have HF9 := hide hI9.2.fit
    have HQ9 := hide hq9
    clear hN9 hI9 hq9 hO9
    go_wp2_with fail
    refine (logX2 (unhide HN9).x (c := 0) (by omega)).mono ?_
    rw [(unhide HE9).log]
    rintro e w10 ⟨v, rfl, hrow, hX10, hM10, hown⟩
    obtain ⟨va, vc, hva⟩ := ownsRow_slice hrow
    subst hva
    simp only [List.length_nil]
    have hfin := (unhide HE9).toE.read (unhide HQ9)
    have RES : Hid (InQ hb b κ ρ w1 par p U (m + 12100) w10) := by
      refine ⟨a, ρ9, _, _, (unhide HN9).mv hX10 hM10, unhide HEV, unhide HMN, hfin.1, hfin.2, ?_, (unhide HO9).trans (Ow.mv hM10)⟩
      have hE : σ9.logE ((0 : Nat) : Int) = 0 := by unfold Net.logE; exact asked_ok (unhide HE9).opn (isCli_nat (by omega))
      have h9 := (unhide HF9).log ((0 : Nat) : Int)
      unfold Net.log at h9
      rw [if_pos hE] at h9
      simp only [toNat_nat] at h9
      exact h9.weak (by omega)
    clear hrow hX10 hM10 hown hnet9 hfin
    go_wp2
    go_ret2
    exact ⟨rfl, unhide RES⟩
end

section
variable {hb b : Nat} {κ ρ : Nat → Option Role} {w1 wr : World} {par : List Nat} {p m : Nat} {U : Nat → Bool}

/-- A quiet house: its net, opened. -/
theorem InQ.low {w0 : World} (h : InQ hb b κ ρ w1 par p U m wr) (hT : Calm w0 w1) (hlow : ∀ j, j < w0.heap.size → ¬ (κ j ≠ none ∨ ρ j ≠ none)) : Calm w0 wr := by
  obtain ⟨a, ρ', σ, H, hN, h1, h2, h3, h4, h5, h6⟩ := h
  exact hT.fresh h6.touch hlow
theorem InQ.net (h : InQ hb b κ ρ w1 par p U m wr) : wr.cell? ⟨hb, 0, none⟩ = some (ptr b) := by
  obtain ⟨a, ρ', σ, H, hN, h1, h2, h3, h4, h5, h6⟩ := h
  exact hN.h.net

/-- A slot less; once more: there is none; all frames are handled. -/
def InU (hb b : Nat) (κ ρ : Nat → Option Role) (w1 : World) (par : List Nat) (p : Nat) (U : Nat → Bool) (m : Nat) (wr : World) : Prop :=
  ∃ a ρ' σ H, HN wr hb b κ ρ' σ H ∧ H.evs = [] ∧ H.many = size par ∧ Ov par U (some a) p σ ∧ Fit σ m ∧ Ow κ ρ κ ρ' w1 wr
theorem InU.net (h : InU hb b κ ρ w1 par p U m wr) : wr.cell? ⟨hb, 0, none⟩ = some (ptr b) := by
  obtain ⟨a, ρ', σ, H, hN, h1, h2, h3, h4, h5⟩ := h
  exact hN.h.net

theorem InQ.unsub (h : InQ hb b κ ρ w1 par p U m wr) {k : Nat} (hk : k < 2) (hu : U k = true) :
    Calls Try.prog 27 #[ptr b, int 0, int k] wr fun r w' => r = .returned (int 0) ∧ InU hb b κ ρ w1 par p (put U k false) (m + 8) w' ∧ Calls Try.prog 27 #[ptr b, int 0, int k] w' fun r w'' => r = .returned (int 7) ∧ InU hb b κ ρ w1 par p (put U k false) (m + 16) w'' := by
  obtain ⟨a, ρ', σ, H, hN, h1, h2, hO, hq, hF, hW⟩ := h
  obtain ⟨hE, hE2, hO2⟩ := hO.unsub2 hF.live hq hk hu hF
  refine (unsubX hN.x hF 0 k).mono ?_
  rw [hE]
  rintro r w' ⟨rfl, ρ2, hX2, hM2⟩
  have hN2 := hN.mv hX2 hM2
  refine ⟨rfl, ⟨a, ρ2, _, H, hN2, h1, h2, hO2, hF.unsub 0 k, hW.trans (Ow.mv hM2)⟩, ?_⟩
  refine (unsubX hN2.x (hF.unsub 0 k) 0 k).mono ?_
  rw [hE2]
  rintro r w'' ⟨rfl, ρ3, hX3, hM3⟩
  have hsame : (σ.unsub 0 k).unsub 0 k = σ.unsub 0 k := unsub_same (by rw [hE2]; decide)
  rw [hsame] at hX3
  exact ⟨rfl, a, ρ3, _, H, hN2.mv hX3 hM3, h1, h2, hO2, (hF.unsub 0 k).weak (by omega), (hW.trans (Ow.mv hM2)).trans (Ow.mv hM3)⟩
theorem InU.quiet (h : InU hb b κ ρ w1 par p U m wr) (hm : m ≤ 1000000) {z : Int} (hz : Fits z) :
    Calls Try.prog 16 #[ptr hb, int z] wr fun r w' => r = .returned (.bool true) ∧ InQ hb b κ ρ w1 par p U (m + 12000) w' := by
  obtain ⟨a, ρ', σ, H, hN, h1, h2, hO, hF, hW⟩ := h
  refine (quietX (ov_runs (par := par) (U := U) (here := some a) (p := p) (m := m + 12000) (by omega)) hN ⟨hO, Room.of hF (by omega)⟩ hz (by rw [h1]; simp)).mono ?_
  rintro r w' ⟨rfl, ρ2, σ2, hN2, hI2, hq2, hW2⟩
  exact ⟨rfl, a, ρ2, σ2, _, hN2, h1, h2, hI2.1, hq2, hI2.2.fit, hW.trans hW2⟩
theorem InQ.sub1 (h : InQ hb b κ ρ w1 par p U m wr) (h0 : U 0 = false) (hm : m ≤ 1000000) :
    Calls Try.prog 15 #[ptr b, int 0, .slice none 0 0] wr fun r w' => r = .returned (.tuple #[int 0, int 0]) ∧ InU hb b κ ρ w1 par p (put U 0 true) (m + 8) w' := by
  obtain ⟨a, ρ', σ, H, hN, h1, h2, hO, hq, hF, hW⟩ := h
  have L := hF.live
  obtain ⟨hE, hs, hO2⟩ := hO.sub L (hO.noWait L hq) (full_no hq) (k := 0) (by omega) h0 (by rw [h0]; rfl) (hO.off hq (by omega) (by show (σ.cl 0).used 0 = false; rw [hO.used0 0 (by omega)]; exact h0)) (NoQ.view hq 0)
  refine (subscribeX hN.x hF (by omega) 0 (l := []) rfl (a := none) (Or.inl rfl) 0).mono ?_
  have hs' : σ.slot (Int.toNat 0) = 0 := hs
  rw [hE, if_pos rfl, hs']
  rintro r w' ⟨rfl, ρ2, hX2, hM2⟩
  exact ⟨rfl, a, ρ2, _, H, hN.mv hX2 hM2, h1, h2, hO2, hF.sub 0 [], hW.trans (Ow.mv hM2)⟩
/-- Two more, and one that is refused. -/
theorem InQ.sub3 (h : InQ hb b κ ρ w1 par p U m wr) (h0 : U 0 = false) (h1 : U 1 = false) (hm : m ≤ 1000000) :
    Calls Try.prog 15 #[ptr b, int 0, .slice none 0 0] wr fun r w' => r = .returned (.tuple #[int 0, int 0]) ∧ w'.cell? ⟨hb, 0, none⟩ = some (ptr b) ∧
      Calls Try.prog 15 #[ptr b, int 0, .slice none 0 0] w' fun r w'' => r = .returned (.tuple #[int 1, int 0]) ∧ w''.cell? ⟨hb, 0, none⟩ = some (ptr b) ∧
        Calls Try.prog 15 #[ptr b, int 0, .slice none 0 0] w'' fun r w3 => r = .returned (.tuple #[int 0, int 7]) ∧ InU hb b κ ρ w1 par p (put (put U 0 true) 1 true) (m + 16) w3 := by
  obtain ⟨a, ρ', σ, H, hN, hev, hmn, hO, hq, hF, hW⟩ := h
  obtain ⟨hE1, hs1, hE2, hs2, hE3, hO3⟩ := hO.subs2 hF.live hq h0 h1 hF
  refine (subscribeX hN.x hF (by omega) 0 (l := []) rfl (a := none) (Or.inl rfl) 0).mono ?_
  have hs1' : σ.slot (Int.toNat 0) = 0 := hs1
  have hs2' : (σ.sub 0 []).slot (Int.toNat 0) = 1 := hs2
  rw [hE1, if_pos rfl, hs1']
  rintro r w' ⟨rfl, ρ2, hX2, hM2⟩
  have hN2 := hN.mv hX2 hM2
  have hF2 := hF.sub 0 []
  refine ⟨rfl, hN2.h.net, ?_⟩
  refine (subscribeX hN2.x hF2 (by omega) 0 (l := []) rfl (a := none) (Or.inl rfl) 0).mono ?_
  rw [hE2, if_pos rfl, hs2']
  rintro r w'' ⟨rfl, ρ3, hX3, hM3⟩
  have hN3 := hN2.mv hX3 hM3
  have hF3 := hF2.sub 0 []
  refine ⟨rfl, hN3.h.net, ?_⟩
  refine (subscribeX hN3.x hF3 (by omega) 0 (l := []) rfl (a := none) (Or.inl rfl) 0).mono ?_
  rw [hE3, if_neg (by decide)]
  rintro r w3 ⟨rfl, ρ4, hX4, hM4⟩
  have hsame : ((σ.sub 0 []).sub 0 []).sub 0 [] = (σ.sub 0 []).sub 0 [] := sub_same (by rw [hE3]; decide)
  rw [hsame] at hX4
  exact ⟨rfl, a, ρ4, _, H, hN3.mv hX4 hM4, hev, hmn, hO3, hF3.weak (by omega), ((hW.trans (Ow.mv hM2)).trans (Ow.mv hM3)).trans (Ow.mv hM4)⟩
end

set_option maxRecDepth 100000 in
set_option maxHeartbeats 8000000 in
theorem over_any (ra : Option Addr) (rn rc : Nat) (f : Nat → Int) (one other : Int) (ta : Option Addr) (tn tc : Nat) (g : Nat → Int) (f0 f1 f2 : Int) (w : World)
    (hr : RawAt w ra rn f) (hrn : rn ≤ maxLen) (h1 : Fits one) (h2 : Fits other) (ht : RawAt w ta tn g) (htn : tn ≤ maxLen) :
    Calls Try.prog 10 #[.slice ra rn rc, int one, int other, .slice ta tn tc, .agg #[int f0, int f1, int f2]] w fun e w' => e = .returned (.bool true) ∧ Calm w w' := by
  obtain ⟨par, hpar⟩ : ∃ par, par = treeP f (min rn 5) := ⟨_, rfl⟩
  have T : Tree par := by rw [hpar]; exact treeP_tree f _ (by omega)
  obtain ⟨W0, hW0⟩ : ∃ W0, w.alloc (.cells #[int f0, int f1, int f2] 23) = W0 := ⟨_, rfl⟩
  have hbx : W0.heap[w.heap.size]? = some (.cells #[int f0, int f1, int f2] 23) := by rw [← hW0]; exact heap_alloc_new w _
  have hcal0 : Calm w W0 := by rw [← hW0]; exact (Touch.refl _ _).alloc _
  have HR := hide (hr.calm hcal0)
  have HRN := hide hrn
  have H1 := hide h1
  have H2 := hide h2
  have HTT := hide (ht.calm hcal0)
  have HTN := hide htn
  have TT := hide T
  have HPAR := hide hpar
  have HBX := hide hbx
  have HC0 := hide hcal0
  clear hr hrn h1 h2 ht htn T hpar hbx hcal0
  go_enter Try.func10, Try.ntmps10
  go_wp2_with fail
  refine (houseX ra rn rc f _ (unhide HRN) (unhide HR)).mono ?_
  rintro e w1 ⟨hb, b, κ, ρ, rfl, hN1, hlow1, ht1⟩
  rw [← unhide HPAR] at hN1
  have hsz := size_le (unhide TT)
  have hsp : 0 < size par := by unfold size; omega
  have hp1 := fun w => pick_any one (size par) w (unhide H1) (by omega) (by omega)
  have hpl1 := pickN_lt one (size par) hsp
  obtain ⟨a, haE⟩ : ∃ a, a = pickN one (size par) := ⟨_, rfl⟩
  rw [← haE] at hp1 hpl1
  have hp2 := fun w => pick_any other (size par) w (unhide H2) (by omega) (by omega)
  have hpl2 := pickN_lt other (size par) hsp
  obtain ⟨p, hpE⟩ : ∃ p, p = pickN other (size par) := ⟨_, rfl⟩
  rw [← hpE] at hp2 hpl2
  obtain ⟨hE1, hE2, hO2, hq2⟩ := ov_start (unhide TT) hpl1 hpl2
  have hF0 := fit_new (unhide TT)
  have hF1 := hF0.attach 0 a
  have hF2 := hF1.attach 1 p
  have hnet := hN1.h.net
  have hmany : w1.cell? ⟨hb, 1, none⟩ = some (int (size par : Nat)) := hN1.h.many
  have HP1 := hide hp1
  have HP2 := hide hp2
  have HE1 := hide hE1
  have HE2 := hide hE2
  have HO2 := hide hO2
  have HQ2 := hide hq2
  have HF0 := hide hF0
  have HF1 := hide hF1
  have HF2 := hide hF2
  have HN1 := hide hN1
  have HLOW : Hid (∀ k, k < W0.heap.size → ¬ (κ k ≠ none ∨ ρ k ≠ none)) := fun k hk hr => by
    have := hlow1 k hr
    omega
  have HT1 := hide ht1
  have HPL := hide hpl2
  clear hp1 hp2 haE hpE hE1 hE2 hO2 hq2 hF0 hF1 hF2 hN1 hlow1 ht1 hW0
  go_wp2_with fail
  go_cut [13] (fun s wx => s = int 0 ∧ ∃ ρ', HN wx hb b κ ρ' ((newNet par).attach 0 a) (newHM par) ∧ Ow κ ρ κ ρ' w1 wx)
  case first =>
    go_region_with (first
      | (go_at_call 12; refine (unhide HP1 _).mono ?_; rintro e w3 ⟨rfl, hw3⟩; have hw3 := hw3.symm; subst hw3)
      | (go_at_call 14; refine (attachX ((unhide HN1).calm ((Touch.refl _ _).drew)).x (unhide HF0) (by omega) 0 a).mono ?_; rw [unhide HE1]; rintro e w4 ⟨rfl, ρ4, hX4, hM4⟩))
    all_goals go_wp2_with fail
    all_goals go_meet
    all_goals exact ⟨rfl, ρ4, ((unhide HN1).calm ((Touch.refl _ _).drew)).mv hX4 hM4, (Ow.calm ((Touch.refl _ _).drew)).trans (Ow.mv hM4)⟩
  case rest =>
    obtain ⟨rfl, ρ4, hN4, hW4⟩ := hcut
    obtain ⟨w4, hw4⟩ : ∃ w4, w4 = wc := ⟨_, rfl⟩
    subst hw4
    have hnet4 := hN4.h.net
    have hmany4 : w4.cell? ⟨hb, 1, none⟩ = some (int (size par : Nat)) := hN4.h.many
    have HN4 := hide hN4
    have HW4 := hide hW4
    clear hN4 hW4 hnet hmany
    go_wp2_with fail
    go_cut [14] (fun s wx => s = int 0 ∧ InQ hb b κ ρ w1 par p (fun _ => false) 16 wx)
    case first =>
      go_region_with (first
        | (go_at_call 12; refine (unhide HP2 _).mono ?_; rintro e w5 ⟨rfl, hw5⟩; have hw5 := hw5.symm; subst hw5)
        | (go_at_call 14; refine (attachX ((unhide HN4).calm ((Touch.refl _ _).drew)).x (unhide HF1) (by omega) 1 p).mono ?_; rw [unhide HE2]; rintro e w6 ⟨rfl, ρ6, hX6, hM6⟩))
      all_goals go_wp2_with fail
      all_goals go_meet
      all_goals exact ⟨rfl, a, ρ6, _, _, ((unhide HN4).calm ((Touch.refl _ _).drew)).mv hX6 hM6, rfl, rfl, unhide HO2, unhide HQ2, unhide HF2, ((unhide HW4).trans (Ow.calm ((Touch.refl _ _).drew))).trans (Ow.mv hM6)⟩
    case rest =>
      obtain ⟨rfl, hI6⟩ := hcut
      obtain ⟨w6, hw6⟩ : ∃ w6, w6 = wc := ⟨_, rfl⟩
      subst hw6
      have hnet6 := hI6.net
      have HS3 := hide (hI6.sub3 rfl rfl (by omega))
      clear hI6 hnet4 hmany4
      go_wp2_with fail
      refine (unhide HS3).mono ?_
      rintro e w7 ⟨rfl, hnet7, hS2⟩
      have HS2 := hide hS2
      clear hS2 hnet6
      go_wp2_with fail
      refine (unhide HS2).mono ?_
      rintro e w8 ⟨rfl, hnet8, hS1⟩
      have HS1 := hide hS1
      clear hS1 hnet7
      go_wp2_with fail
      refine (unhide HS1).mono ?_
      rintro e w9 ⟨rfl, hI9⟩
      have HQ9 := hide (hI9.quiet (by omega) (unhide H1))
      clear hI9 hnet8
      go_wp2_with fail
      refine (unhide HQ9).mono ?_
      rintro e w10 ⟨rfl, hI10⟩
      have HM10 := hide (movesX hI10 (unhide TT) (by omega) (tc := tc) (unhide HT1) (unhide HLOW) (unhide HTT) (unhide HTN))
      clear hI10
      go_wp2_with fail
      refine (unhide HM10).mono ?_
      rintro e w11 ⟨rfl, hI11⟩
      have hnet11 := hI11.net
      have HU11 := hide (hI11.unsub (k := 0) (by omega) rfl)
      clear hI11
      go_wp2_with fail
      refine (unhide HU11).mono ?_
      rintro e w12 ⟨rfl, hI12, hU12⟩
      have hnet12 := hI12.net
      have HU12 := hide hU12
      clear hI12 hU12 hnet11
      go_wp2_with fail
      refine (unhide HU12).mono ?_
      rintro e w13 ⟨rfl, hI13⟩
      have HQ13 := hide (hI13.quiet (by omega) (unhide H2))
      clear hI13 hnet12
      go_wp2_with fail
      refine (unhide HQ13).mono ?_
      rintro e w14 ⟨rfl, hI14⟩
      have hlow14 := hI14.low (unhide HT1) (unhide HLOW)
      have bx : ∀ j v, [int f0, int f1, int f2][j]? = some v → w14.cell? ⟨w.heap.size, j, none⟩ = some v := fun j v hj => hlow14.cell (p := ⟨w.heap.size, j, none⟩) (fun f => f) ((box_cell (unhide HBX) j).trans (by simpa using hj))
      have x0 := bx 0 _ rfl
      have x1 := bx 1 _ rfl
      have x2 := bx 2 _ rfl
      have HH14 := hide (heardOne hI14 (unhide TT) (unhide HPL) (by omega) (k := 1) (by omega) rfl (fun j hj hj1 => by rcases (by omega : j = 0) with rfl; rfl) f0 f1 f2)
      clear hI14 hlow14 bx
      go_wp2_with fail
      refine (unhide HH14).mono ?_
      rintro e w15 ⟨rfl, hI15⟩
      have hnet15 := hI15.net
      have HU15 := hide (hI15.unsub (k := 1) (by omega) rfl)
      clear hI15 x0 x1 x2
      go_wp2_with fail
      refine (unhide HU15).mono ?_
      rintro e w16 ⟨rfl, hI16, _⟩
      have HQ16 := hide (hI16.quiet (by omega) (unhide H1))
      clear hI16 hnet15
      go_wp2_with fail
      refine (unhide HQ16).mono ?_
      rintro e w17 ⟨rfl, hI17⟩
      have hlow17 := hI17.low (unhide HT1) (unhide HLOW)
      have bx : ∀ j v, [int f0, int f1, int f2][j]? = some v → w17.cell? ⟨w.heap.size, j, none⟩ = some v := fun j v hj => hlow17.cell (p := ⟨w.heap.size, j, none⟩) (fun f => f) ((box_cell (unhide HBX) j).trans (by simpa using hj))
      have x0 := bx 0 _ rfl
      have x1 := bx 1 _ rfl
      have x2 := bx 2 _ rfl
      have HH17 := hide (heardNone hI17 (unhide TT) (unhide HPL) (by omega) (fun j hj => by rcases (by omega : j = 0 ∨ j = 1) with rfl | rfl <;> rfl) f0 f1 f2)
      clear hI17 hlow17 bx
      go_wp2_with fail
      refine (unhide HH17).mono ?_
      rintro e w18 ⟨rfl, hI18⟩
      have hnet18 := hI18.net
      have HS18 := hide (hI18.sub1 rfl (by omega))
      clear hI18 x0 x1 x2
      go_wp2_with fail
      refine (unhide HS18).mono ?_
      rintro e w19 ⟨rfl, hI19⟩
      have HQ19 := hide (hI19.quiet (by omega) (unhide H1))
      clear hI19 hnet18
      go_wp2_with fail
      refine (unhide HQ19).mono ?_
      rintro e w20 ⟨rfl, hI20⟩
      have HM20 := hide (movesX hI20 (unhide TT) (by omega) (tc := tc) (unhide HT1) (unhide HLOW) (unhide HTT) (unhide HTN))
      clear hI20
      go_wp2_with fail
      refine (unhide HM20).mono ?_
      rintro e w21 ⟨rfl, hI21⟩
      have hlow21 := hI21.low (unhide HT1) (unhide HLOW)
      have bx : ∀ j v, [int f0, int f1, int f2][j]? = some v → w21.cell? ⟨w.heap.size, j, none⟩ = some v := fun j v hj => hlow21.cell (p := ⟨w.heap.size, j, none⟩) (fun f => f) ((box_cell (unhide HBX) j).trans (by simpa using hj))
      have x0 := bx 0 _ rfl
      have x1 := bx 1 _ rfl
      have x2 := bx 2 _ rfl
      have HH21 := hide (heardOne hI21 (unhide TT) (unhide HPL) (by omega) (k := 0) (by omega) rfl (fun j hj hj1 => by rcases (by omega : j = 1) with rfl; rfl) f0 f1 f2)
      clear hI21 hlow21 bx
      go_wp2_with fail
      refine (unhide HH21).mono ?_
      rintro e w22 ⟨rfl, hI22⟩
      have HC22 := hide ((unhide HC0).calm (hI22.low (unhide HT1) (unhide HLOW)))
      clear hI22 x0 x1 x2
      go_wp2
      go_ret
      exact ⟨rfl, unhide HC22⟩

set_option maxRecDepth 100000 in
theorem over_lifted (os : Os) (started : os.Started) (H : Type) (enc : TypeId × Value → H) :
    ReturnsInHanded {} Try.checked os 10 .any (Rows.overSpec.pre6 enc Try.prog Try.f10 Rows.overRow.domain false) (Rows.overSpec.post enc Try.prog Try.f10 false true false false) := by
  refine returnsInHanded_of_change_sized (C := Try.checked) Try.own started (by kernel_rfl) Try.func10
    (ChangeSpec.witness6 (enc := enc) (C := Try.checked) false ⟨#[], #[.slice none 0 0, .int .i64 0, .int .i64 0, .slice none 0 0, .agg #[.int .i64 0, .int .i64 0, .int .i64 0]], []⟩ 8 (by kernel_rfl) (by kernel_rfl) (by kernel_rfl) (by kernel_rfl)) ?_
  intro W base args ds gs before hval0 hW _ _ _
  have hval : ∀ (j : Nat) t v, Try.f10.params[j]? = some t → args[j]? = some v → Value.okWide Try.prog W .any base t v := hval0
  have hW' := hW
  obtain ⟨p, q, hA0, hV, rfl, _, _⟩ := hW
  have hA : DataW.TrodAll enc Try.prog W 0 (fun _ => true) true Try.f10.params.toList args.toList ds p := hA0
  rw [Try.params10] at hA hval
  clear hA0 hval0
  obtain ⟨v0, r0, d0, e0, p0, q0, ha0, rfl, rfl, h0, hA⟩ := trodAll_cons hA
  obtain ⟨v1, r1, d1, e1, p1, q1, rfl, rfl, rfl, h1, hA⟩ := trodAll_cons hA
  obtain ⟨v2, r2, d2, e2, p2, q2, rfl, rfl, rfl, h2, hA⟩ := trodAll_cons hA
  obtain ⟨v3, r3, d3, e3, p3, q3, rfl, rfl, rfl, h3, hA⟩ := trodAll_cons hA
  obtain ⟨v4, r4, d4, e4, p4, q4, rfl, rfl, rfl, h4, hA⟩ := trodAll_cons hA
  obtain ⟨rfl, rfl, rfl⟩ := trodAll_nil hA
  obtain rfl : args = #[v0, v1, v2, v3, v4] := by cases args; simp_all
  obtain ⟨rfl, rfl⟩ := trodVars_none hV
  simp only [List.append_nil] at hW'
  have hlt : ∀ x ∈ p0 ++ (p1 ++ (p2 ++ (p3 ++ p4))), x.block < W.heap.size := fun x hx => by simpa using hW'.lt x hx
  have hlt0 : ∀ x ∈ p0, x.block < W.heap.size := fun x hx => hlt x (by simp [hx])
  have hlt1 : ∀ x ∈ p1, x.block < W.heap.size := fun x hx => hlt x (by simp [hx])
  have hlt2 : ∀ x ∈ p2, x.block < W.heap.size := fun x hx => hlt x (by simp [hx])
  have hlt3 : ∀ x ∈ p3, x.block < W.heap.size := fun x hx => hlt x (by simp [hx])
  have hlt4 : ∀ x ∈ p4, x.block < W.heap.size := fun x hx => hlt x (by simp [hx])
  obtain ⟨a0, n0, c0, rfl⟩ := okWide_slice Try.underlying22 (hval 0 22 v0 rfl rfl)
  obtain ⟨z1, rfl⟩ := okWide_int Try.underlying3 (hval 1 3 v1 rfl rfl)
  obtain ⟨z2, rfl⟩ := okWide_int Try.underlying3 (hval 2 3 v2 rfl rfl)
  obtain ⟨a3, n3, c3, rfl⟩ := okWide_slice Try.underlying22 (hval 3 22 v3 rfl rfl)
  obtain ⟨cs, rfl, _⟩ := okWide_array Try.underlying23 (hval 4 23 v4 rfl rfl)
  have k0 := h0
  have k1 := h1
  have k2 := h2
  have k3 := h3
  have k4 := h4
  obtain ⟨f0, h0⟩ := h0
  obtain ⟨f1, h1⟩ := h1
  obtain ⟨f2, h2⟩ := h2
  obtain ⟨f3, h3⟩ := h3
  obtain ⟨f4, h4⟩ := h4
  obtain ⟨_, _, _, g0, e, hr0, hm0⟩ := list_open h0
  cases e
  obtain ⟨_, e, hf1⟩ := int_open h1
  cases e
  obtain ⟨_, e, hf2⟩ := int_open h2
  cases e
  obtain ⟨_, _, _, g3, e, hr3, hm3⟩ := list_open h3
  cases e
  obtain ⟨y0, y1, y2, e⟩ := three_open h4
  have e : cs = #[.int .i64 y0, .int .i64 y1, .int .i64 y2] := by
    have : cs.toList = [.int .i64 y0, .int .i64 y1, .int .i64 y2] := e
    cases cs; simp_all
  subst e
  refine (over_any a0 n0 c0 g0 z1 z2 a3 n3 c3 g3 y0 y1 y2 W hr0 hm0 hf1 hf2 hr3 hm3).mono fun e W' ⟨he, hb0⟩ => ?_
  subst he
  have hb : Below W.heap.size W W' := hb0.below (Nat.le_refl _) (fun _ f => f.elim)
  refine ⟨_, rfl, _, _, _, [], p0 ++ (p1 ++ (p2 ++ (p3 ++ (p4 ++ [])))), [], hW', ?_, ?_, rfl, hb.frame _, fun h => by cases h⟩
  · exact trodAll_cons_mk (shut_bool Try.underlying4 true) trodAll_mk0
  · exact trodAll_cons_mk (Below.trod Try.laidOut (by kernel_rfl) (of_decide_eq_true (by kernel_rfl)) k0 hb hlt0)
      (trodAll_cons_mk (Below.trod Try.laidOut (by kernel_rfl) (of_decide_eq_true (by kernel_rfl)) k1 hb hlt1)
      (trodAll_cons_mk (Below.trod Try.laidOut (by kernel_rfl) (of_decide_eq_true (by kernel_rfl)) k2 hb hlt2)
      (trodAll_cons_mk (Below.trod Try.laidOut (by kernel_rfl) (of_decide_eq_true (by kernel_rfl)) k3 hb hlt3)
      (trodAll_cons_mk (Below.trod Try.laidOut (by kernel_rfl) (of_decide_eq_true (by kernel_rfl)) k4 hb hlt4) trodAll_mk0))))

/-- THE STATEMENT. -/
theorem over_holds : Rows.OverSaid :=
  OpenClaim.holds_of_wide 10 Try.f10 rfl rfl rfl rfl rfl rfl rfl ⟨rfl, rfl, rfl, rfl, rfl⟩ rfl rfl rfl rfl rfl (by kernel_rfl) Try.func10 (by kernel_rfl)
    (of_decide_eq_true (by kernel_rfl)) (by unfold Func.isWrapper; first | (rw [if_pos (by decide +kernel)]; kernel_rfl) | (rw [if_neg (by decide +kernel)]; exact ⟨rfl, rfl⟩))
    (fun os started H enc _ => over_lifted os started H enc)

#print axioms over_holds

end Go.Proofs.Ytodfcpblcpogiaa

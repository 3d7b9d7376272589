/-
  Needed.
-/
import Derived.Test.YtodfcpblcpogiaaNeedP
namespace Go.Proofs.Ytodfcpblcpogiaa
open Go.RowKit

/-- A block that is neither of the net nor of the house. -/
def Off (κ ρ : Nat → Option Role) (k : Nat) : Prop := κ k = none ∧ ρ k = none

theorem TestsIn.ow {w w' : World} {base : Nat} {a : Option Addr} {l : List Tst} {κ ρ κ' ρ' : Nat → Option Role} (h : TestsIn w base a l) (hk : ∀ k, base ≤ k → Off κ ρ k) (o : Ow κ ρ κ' ρ' w w') : TestsAt w' a l := by
  rcases h with h | ⟨b, off, rfl, hb, h⟩
  · exact Or.inl h
  · exact Or.inr ⟨b, off, rfl, fun j v hj => o.cell (hk b hb).1 (hk b hb).2 (h j v hj)⟩

theorem HN.off {w : World} {hb b : Nat} {κ ρ : Nat → Option Role} {σ : Net} {H : HM} (h : HN w hb b κ ρ σ H) {k : Nat} (hk : w.heap.size ≤ k) : Off κ ρ k := by
  refine ⟨?_, ?_⟩
  · cases hq : κ k with
    | none => rfl
    | some r => have := h.h.lt k (by rw [hq]; simp); omega
  · cases hq : ρ k with
    | none => rfl
    | some r => have := h.x.lt k (by rw [hq]; simp); omega

set_option maxRecDepth 100000 in
set_option maxHeartbeats 4000000 in
theorem needed_any (ra : Option Addr) (rn rc : Nat) (f : Nat → Int) (one other : Int) (fa : Option Addr) (fn fc : Nat) (g : Nat → Int) (f0 f1 f2 : Int) (w : World)
    (hr : RawAt w ra rn f) (hrn : rn ≤ maxLen) (h1 : Fits one) (h2 : Fits other) (hf : RawAt w fa fn g) (hfn : fn ≤ maxLen) :
    Calls Try.prog 3 #[.slice ra rn rc, int one, int other, .slice fa fn fc, .agg #[int f0, int f1, int f2]] w fun e w' => e = .returned (.bool true) ∧ Calm w w' := by
  have hc0 : Calm w (w.alloc (.cells #[int f0, int f1, int f2] 23)) := (Touch.refl _ _).alloc _
  obtain ⟨par, hpar⟩ : ∃ par, par = treeP f (min rn 5) := ⟨_, rfl⟩
  have T : Tree par := by rw [hpar]; exact treeP_tree f _ (by omega)
  have h5 := T.1
  obtain ⟨l, hl⟩ : ∃ l, l = testsP g (min fn 3) := ⟨_, rfl⟩
  have hlg : goodFilter l = true := by rw [hl]; exact testsP_good g _ (by omega)
  have hll : l.length = min fn 3 := by rw [hl]; exact testsP_len _ _
  have HR := hide (hr.calm hc0)
  have HF := hide (hf.calm hc0)
  have H1 := hide h1
  have H2 := hide h2
  have TT := hide T
  have HLG := hide hlg
  have HLL := hide hll
  have HPAR := hide hpar
  have HL := hide hl
  have HRN := hide hrn
  have HFN := hide hfn
  clear hr hf h1 h2 hc0 T hlg hll hpar hl hrn hfn
  go_enter Try.func3, Try.ntmps3
  go_wp2_with fail
  refine (houseX ra rn rc f _ (unhide HRN) (unhide HR)).mono ?_
  rintro e w1 ⟨hb, b, κ, ρ, rfl, hN1, hlow1, ht1⟩
  rw [← unhide HPAR] at hN1
  have hmany := hN1.h.many
  have hnet := hN1.h.net
  have hmn : (newHM par).many = par.length + 1 := rfl
  rw [hmn] at hmany
  obtain ⟨N, hN⟩ : ∃ N : Nat, N = par.length + 1 := ⟨_, rfl⟩
  rw [← hN] at hmany
  have hN0 : 0 < N := by omega
  have hN6 : N ≤ 6 := by omega
  have HNN := hide hN
  have HN1 := hide hN1
  have HLOW := hide hlow1
  have HT1 := hide ht1
  have hp1 := fun w => pick_any one N w (unhide H1) hN0 (by omega)
  have hp2 := fun w => pick_any other N w (unhide H2) hN0 (by omega)
  have ha := pickN_lt one N hN0
  have hb' := pickN_lt other N hN0
  obtain ⟨a, haE⟩ : ∃ a, a = pickN one N := ⟨_, rfl⟩
  obtain ⟨bb, hbE⟩ : ∃ bb, bb = pickN other N := ⟨_, rfl⟩
  rw [← haE] at hp1 ha
  rw [← hbE] at hp2 hb'
  have HP1 := hide hp1
  have HP2 := hide hp2
  have HAn : Hid (a < (newNet par).n) := by show a < par.length + 1; omega
  have HBn : Hid (bb < (newNet par).n) := by show bb < par.length + 1; omega
  clear hN hN1 hlow1 ht1 hp1 hp2 ha hb' haE hbE hmn hN0 hN6
  go_wp2_with fail
  refine (unhide HP1 _).mono ?_
  rintro e w1' ⟨rfl, hw⟩
  have hw := hw.symm
  subst hw
  go_wp2_with fail
  refine (unhide HP2 _).mono ?_
  rintro e w1' ⟨rfl, hw⟩
  have hw := hw.symm
  subst hw
  clear hmany
  go_wp2_with fail
  refine (tests_any fa fn fc g _ (unhide HFN) ((unhide HF).calm (unhide HT1))).mono ?_
  rintro e w2 ⟨ta, tc, rfl, hTI, ht2⟩
  rw [← unhide HL] at hTI
  rw [← unhide HLL]
  have HTI := hide hTI
  have HN2 := hide ((unhide HN1).calm ht2)
  have HOFF : Hid (∀ k, w1.heap.size ≤ k → Off κ ρ k) := fun k hk => (unhide HN1).off hk
  have HBOX : Hid (Off κ ρ w.heap.size ∧ w2.heap[w.heap.size]? = some (.cells #[int f0, int f1, int f2] 23)) := by
    refine ⟨⟨?_, ?_⟩, ?_⟩
    · cases hq : κ w.heap.size with
      | none => rfl
      | some r => have := unhide HLOW w.heap.size (Or.inl (by rw [hq]; simp)); simp at this; omega
    · cases hq : ρ w.heap.size with
      | none => rfl
      | some r => have := unhide HLOW w.heap.size (Or.inr (by rw [hq]; simp)); simp at this; omega
    · exact (((unhide HT1).calm ht2).block w.heap.size (by simp) (fun f => f)).trans (heap_alloc_new _ _)
  have HC2 := hide ((((Touch.refl (fun _ => False) w).alloc (.cells #[int f0, int f1, int f2] 23)).calm (unhide HT1)).calm ht2)
  replace hnet := ht2.cell (p := ⟨hb, 0, none⟩) (fun f => f) hnet
  clear hTI ht2 HN1 HR HF
  go_wp2_with fail
  refine (attachS (unhide HN2).x (newI (unhide TT)) (by rw [(Spread.new (unhide TT)).2]; omega) (c := 0) (x := a) (by omega) (unhide HAn) rfl rfl).mono ?_
  rintro e w3 ⟨rfl, ρ3, hX3, hI3, hw3, hpar3, hM3⟩
  have HN3 := hide ((unhide HN2).mv hX3 hM3)
  have HO3 := hide (Ow.mv (κ := κ) hM3)
  have HI3 := hide hI3
  have HW3 : Hid (_ = 0) := hw3.trans (Spread.new (unhide TT)).2
  have HPR3 := hide hpar3
  have hnet := (unhide HN3).h.net
  clear hX3 hI3 hw3 hpar3 hM3 HN2
  go_wp2_with fail
  refine (attachS (unhide HN3).x (unhide HI3) (by rw [unhide HW3]; omega) (c := 1) (x := bb) (by omega) (by have := unhide HBn; unfold Net.n at this ⊢; rw [unhide HPR3]; exact this) rfl rfl).mono ?_
  rintro e w4 ⟨rfl, ρ4, hX4, hI4, hw4, hpar4, hM4⟩
  have HN4 := hide ((unhide HN3).mv hX4 hM4)
  have HO4 := hide ((unhide HO3).trans (Ow.mv hM4))
  have HI4 := hide hI4
  have HW4 : Hid (_ = 0) := hw4.trans (unhide HW3)
  have hnet := (unhide HN4).h.net
  clear hX4 hI4 hw4 hpar4 hM4 HN3 HO3 HI3 HW3 HPR3
  go_wp2_with fail
  refine (subscribeS (unhide HN4).x (unhide HI4) (by rw [unhide HW4]; omega) (c := 0) (x := a) (by omega) rfl rfl (unhide HLG) ((unhide HTI).ow (unhide HOFF) (unhide HO4)) tc).mono ?_
  rintro e w5 ⟨rfl, ρ5, hX5, hI5, hw5, hpar5, hM5⟩
  have HN5 := hide ((unhide HN4).mv hX5 hM5)
  have HO5 := hide ((unhide HO4).trans (Ow.mv hM5))
  have HI5 := hide hI5
  clear hX5 hI5 hw5 hpar5 hM5 HN4 HO4 HI4 HW4 hnet
  go_wp2_with fail
  refine (quietX (spread_runs _ _) (unhide HN5) (unhide HI5) (unhide H1) (by simp [newHM])).mono ?_
  rintro e w6 ⟨rfl, ρ6, σ6, hN6, hI6, hq6, hO6⟩
  have HN6 := hide hN6
  have HO6 := hide ((unhide HO5).trans hO6)
  have HI6 : Hid (FlowI (twoA a bb) (oneF l) [] σ6) := hI6.flow hq6
  have HQ6 := hide hq6
  have hnet := hN6.h.net
  clear hN6 hI6 hq6 hO6 HN5 HO5 HI5
  have bxc : ∀ j v, [int f0, int f1, int f2][j]? = some v → w6.cell? ⟨w.heap.size, j, none⟩ = some v := fun j v hj => (unhide HO6).cell (unhide HBOX).1.1 (unhide HBOX).1.2 ((box_cell (unhide HBOX).2 j).trans (by simpa using hj))
  have x0 := bxc 0 _ rfl
  have x1 := bxc 1 _ rfl
  have x2 := bxc 2 _ rfl
  clear bxc
  go_wp2_with fail
  go_cut [20, 21] (fun s t wx => s = int ((σ6.cl 1).many + 1) ∧ t = int 0 ∧ ∃ ρ', HN wx hb b κ ρ' (σ6.pub (1 : Nat) f0 f1 f2) (newHM par).known ∧ FlowI (twoA a bb) (oneF l) [⟨⟨1, (σ6.cl 1).many + 1, f0, f1, f2⟩, 1⟩] (σ6.pub (1 : Nat) f0 f1 f2) ∧ Ow κ ρ κ ρ' w2 wx)
  case first =>
    go_region_with (go_at_call 17; refine (publishS ((unhide HN6).calm ((Touch.refl _ _).drew)).x (unhide HI6) (full_of_empty (unhide HQ6)) (c := 1) (x := bb) (by omega) rfl f0 f1 f2 (by simp)).mono ?_; rintro e w7 ⟨rfl, ρ7, hX7, hI7, _, _, hM7⟩)
    all_goals go_wp2_with fail
    all_goals go_meet
    all_goals exact ⟨rfl, rfl, ρ7, ((unhide HN6).calm ((Touch.refl _ _).drew)).mv hX7 hM7, hI7, ((unhide HO6).trans (Ow.calm ((Touch.refl _ _).drew))).trans (Ow.mv hM7)⟩
  case rest =>
    obtain ⟨rfl, rfl, ρ7, hN7, hI7, hO7⟩ := hcut
    have HN7 := hide hN7
    have HI7 := hide hI7
    have HO7 := hide hO7
    replace hnet := hN7.h.net
    have hpl := pub_pending (unhide HI6) (unhide HQ6) f0 f1 f2
    have HPL := hide hpl
    clear hN7 hI7 hO7 HN6 HO6 x0 x1 x2 hpl
    go_wp2_with fail
    refine (pendingX (unhide HN7).x ((flow_runs _ _ _ (by simp)).fine _ (unhide HI7)).len).mono ?_
    rintro e w8 ⟨v, rfl, hLk, ht8⟩
    obtain ⟨pa, pc, rfl, _⟩ := links_at hLk
    rw [unhide HPL]
    obtain ⟨pl, hplv⟩ : ∃ pl : Nat, pl = if meets l ⟨1, (σ6.cl 1).many + 1, f0, f1, f2⟩ = true ∧ a ≠ bb then 1 else 0 := ⟨_, rfl⟩
    rw [← hplv]
    have HPLV := hide hplv
    clear hplv
    have HN8 := hide ((unhide HN7).calm ht8)
    have HO8 := hide ((unhide HO7).trans (Ow.calm ht8))
    have bxc : ∀ j v, [int f0, int f1, int f2][j]? = some v → w8.cell? ⟨w.heap.size, j, none⟩ = some v := fun j v hj => (unhide HO8).cell (unhide HBOX).1.1 (unhide HBOX).1.2 ((box_cell (unhide HBOX).2 j).trans (by simpa using hj))
    have x0 := bxc 0 _ rfl
    have x1 := bxc 1 _ rfl
    have x2 := bxc 2 _ rfl
    replace hnet := (unhide HN8).h.net
    clear bxc hLk ht8 HN7 HO7 HPL
    go_wp2_with fail
    refine (keepMeets_any l ⟨1, (σ6.cl 1).many + 1, f0, f1, f2⟩ ta tc _ (unhide HLG) ((unhide HTI).ow (unhide HOFF) (unhide HO8))).mono ?_
    rintro e w9 ⟨rfl, ht9⟩
    have HN9 := hide ((unhide HN8).calm ht9)
    have HO9 := hide ((unhide HO8).trans (Ow.calm ht9))
    replace hnet := (unhide HN9).h.net
    have HLOW2 : Hid (∀ k, k < w.heap.size → ¬ (κ k ≠ none ∨ ρ k ≠ none)) := fun k hk hr => by
      have := unhide HLOW k hr
      simp at this; omega
    clear ht9 HN8 HO8 x0 x1 x2
    by_cases hmt : meets l ⟨1, (σ6.cl 1).many + 1, f0, f1, f2⟩ = true
    · have HMT := hide hmt
      by_cases hab : a = bb
      · obtain rfl : pl = 0 := (unhide HPLV).trans (if_neg (fun h => h.2 hab))
        rw [hmt]
        clear HPLV
        subst hab
        clear hmt
        go_wp2_with fail
        refine (quietX (flow_runs _ _ _ (by simp)) (unhide HN9) (unhide HI7) (unhide H2) (by simp [newHM, HM.known, HM.knownTo])).mono ?_
        rintro e w10 ⟨rfl, ρ10, σ10, hN10, hI10, hq10, hO10⟩
        have hlog := end_log hI10 hq10 rfl
        replace hnet := hN10.h.net
        rw [if_pos (unhide HMT)] at hlog
        have HN10 := hide hN10
        have HO10 := hide ((unhide HO9).trans hO10)
        have HLOG := hide hlog
        clear hN10 hI10 hq10 hO10 hlog
        go_wp2_with fail
        refine (logX (unhide HN10).x (c := 0) (by omega)).mono ?_
        rw [unhide HLOG]
        rintro e w11 ⟨v, rfl, hrow, hX11, hM11⟩
        have HC11 := hide ((unhide HC2).fresh ((unhide HO10).trans (Ow.mv hM11)).touch (unhide HLOW2))
        obtain ⟨va, vc, rfl⟩ : ∃ va vc, v = .slice va 1 vc := by
          rcases hrow.2 with ⟨e1, e0⟩ | ⟨g', c', cur, e1, _⟩
          · cases e0
          · exact ⟨_, _, e1⟩
        clear hrow hX11 hM11 hnet
        go_wp2
        go_ret
        exact ⟨rfl, unhide HC11⟩
      · have hab2 : ((a : Int) != (bb : Int)) = true := by rw [bne_dec]; exact decide_eq_true (by omega)
        obtain rfl : pl = 1 := (unhide HPLV).trans (if_pos ⟨hmt, hab⟩)
        rw [hmt]
        clear HPLV
        clear hmt hab
        go_wp2_with fail
        refine (quietX (flow_runs _ _ _ (by simp)) (unhide HN9) (unhide HI7) (unhide H2) (by simp [newHM, HM.known, HM.knownTo])).mono ?_
        rintro e w10 ⟨rfl, ρ10, σ10, hN10, hI10, hq10, hO10⟩
        have hlog := end_log hI10 hq10 rfl
        replace hnet := hN10.h.net
        rw [if_pos (unhide HMT)] at hlog
        have HN10 := hide hN10
        have HO10 := hide ((unhide HO9).trans hO10)
        have HLOG := hide hlog
        clear hN10 hI10 hq10 hO10 hlog
        go_wp2_with fail
        refine (logX (unhide HN10).x (c := 0) (by omega)).mono ?_
        rw [unhide HLOG]
        rintro e w11 ⟨v, rfl, hrow, hX11, hM11⟩
        have HC11 := hide ((unhide HC2).fresh ((unhide HO10).trans (Ow.mv hM11)).touch (unhide HLOW2))
        obtain ⟨va, vc, rfl⟩ : ∃ va vc, v = .slice va 1 vc := by
          rcases hrow.2 with ⟨e1, e0⟩ | ⟨g', c', cur, e1, _⟩
          · cases e0
          · exact ⟨_, _, e1⟩
        clear hrow hX11 hM11 hnet
        go_wp2
        go_ret
        exact ⟨rfl, unhide HC11⟩
    · have hmf : meets l ⟨1, (σ6.cl 1).many + 1, f0, f1, f2⟩ = false := by simpa using hmt
      have HMT := hide hmf
      obtain rfl : pl = 0 := (unhide HPLV).trans (if_neg (fun h => hmt h.1))
      rw [hmf]
      clear HPLV
      clear hmt hmf
      go_wp2_with fail
      refine (quietX (flow_runs _ _ _ (by simp)) (unhide HN9) (unhide HI7) (unhide H2) (by simp [newHM, HM.known, HM.knownTo])).mono ?_
      rintro e w10 ⟨rfl, ρ10, σ10, hN10, hI10, hq10, hO10⟩
      have hlog := end_log hI10 hq10 rfl
      replace hnet := hN10.h.net
      rw [if_neg (by rw [unhide HMT]; simp)] at hlog
      have HN10 := hide hN10
      have HO10 := hide ((unhide HO9).trans hO10)
      have HLOG := hide hlog
      clear hN10 hI10 hq10 hO10 hlog
      go_wp2_with fail
      refine (logX (unhide HN10).x (c := 0) (by omega)).mono ?_
      rw [unhide HLOG]
      rintro e w11 ⟨v, rfl, hrow, hX11, hM11⟩
      have HC11 := hide ((unhide HC2).fresh ((unhide HO10).trans (Ow.mv hM11)).touch (unhide HLOW2))
      obtain ⟨va, vc, rfl⟩ : ∃ va vc, v = .slice va 0 vc := by
        rcases hrow.2 with ⟨e1, e0⟩ | ⟨g', c', cur, e1, _⟩
        · exact ⟨_, _, e1⟩
        · exact ⟨_, _, e1⟩
      clear hrow hX11 hM11 hnet
      go_wp2
      go_ret
      exact ⟨rfl, unhide HC11⟩

end Go.Proofs.Ytodfcpblcpogiaa

/-
  Kept.
-/
import Derived.Test.YtodfcpblcpogiaaKeptR
import Derived.Test.YtodfcpblcpogiaaNeedP
namespace Go.Proofs.Ytodfcpblcpogiaa
open Go.RowKit

def keptA (a b : Nat) : Nat → Option Nat := put (put (fun _ => none) 2 (some a)) 3 (some b)
def keptF : Nat → Option (List Tst) := put (fun _ => none) 2 (some [])

theorem ents_at {w : World} {v : Value} {l : List Ent} (h : w.ownsRow 0 65 7 v l.length (l.flatMap Ent.enc)) : ∃ a cap, v = .slice a l.length cap ∧ ∀ (i : Nat) e, l[i]? = some e → ∃ g, a = some ⟨g, 0, none⟩ ∧ ∀ (j : Nat) u, e.enc[j]? = some u → w.cell? ⟨g, i * 7 + j, none⟩ = some u := by
  have hcell := fun g hg => World.ownsRow.cells h (g := g) hg
  obtain ⟨_, h2⟩ := h
  rcases h2 with ⟨rfl, h0⟩ | ⟨g, cap, cur, rfl, _⟩
  · have : l = [] := List.eq_nil_of_length_eq_zero h0
    subst this
    exact ⟨none, 0, rfl, fun i k hk => by simp at hk⟩
  · refine ⟨_, _, rfl, fun i e he => ⟨g, rfl, fun j u hj => ?_⟩⟩
    have hj7 : j < 7 := by
      have := (List.getElem?_eq_some_iff.1 hj).1
      simpa [Ent.enc, Ev.enc] using this
    have key : ∀ (l : List Ent) (i : Nat), l[i]? = some e → (l.flatMap Ent.enc)[i * 7 + j]? = some u := by
      intro l
      induction l with
      | nil => intro i hi; simp at hi
      | cons a l ih =>
        intro i hi
        cases i with
        | zero =>
          simp at hi; subst hi
          rw [List.flatMap_cons, Nat.zero_mul, Nat.zero_add, List.getElem?_append_left (by simp [Ent.enc, Ev.enc]; omega)]
          exact hj
        | succ i =>
          have := ih i (by simpa using hi)
          rw [List.flatMap_cons, List.getElem?_append_right (by simp [Ent.enc, Ev.enc]; omega)]
          have hl : (Ent.enc a).length = 7 := rfl
          rw [hl, show (i + 1) * 7 + j - 7 = i * 7 + j by omega]
          exact this
    have := hcell g rfl _ _ (key l i he)
    rw [Addr.add_mid, Nat.zero_add] at this
    exact this

set_option maxRecDepth 100000 in
set_option maxHeartbeats 4000000 in
theorem kept_any (ra : Option Addr) (rn rc : Nat) (f : Nat → Int) (home other many : Int) (back : Bool) (w : World)
    (hr : RawAt w ra rn f) (hrn : rn ≤ maxLen) (h1 : Fits home) (h2 : Fits other) (h3 : Fits many) :
    Calls Try.prog 7 #[.slice ra rn rc, int home, int other, int many, .bool back] w fun e w' => e = .returned (.bool true) ∧ Calm w w' := by
  obtain ⟨par, hpar⟩ : ∃ par, par = treeP f (min rn 5) := ⟨_, rfl⟩
  have T : Tree par := by rw [hpar]; exact treeP_tree f _ (by omega)
  have h5 := T.1
  have HR := hide hr
  have H1 := hide h1
  have H2 := hide h2
  have H3 := hide h3
  have TT := hide T
  have HPAR := hide hpar
  have HRN := hide hrn
  clear hr h1 h2 h3 T hpar hrn
  go_enter Try.func7, Try.ntmps7
  go_wp2_with fail
  refine (houseX ra rn rc f _ (unhide HRN) (unhide HR)).mono ?_
  rintro e w1 ⟨hb, b, κ, ρ, rfl, hN1, hlow1, ht1⟩
  rw [← unhide HPAR] at hN1
  have hmany := hN1.h.many
  have hnet := hN1.h.net
  have hmn : (newHM par).many = par.length + 1 := rfl
  rw [hmn] at hmany
  obtain ⟨N, hN⟩ : ∃ N : Nat, N = par.length + 1 := ⟨_, rfl⟩
  rw [← hN] at hmany
  have hN0 : 0 < N := by omega
  have hN6 : N ≤ 6 := by omega
  have HNN := hide hN
  have HN1 := hide hN1
  have HLOW := hide hlow1
  have HT1 := hide ht1
  have hp1 := fun w => pick_any home N w (unhide H1) hN0 (by omega)
  have hp2 := fun w => pick_any other N w (unhide H2) hN0 (by omega)
  have ha := pickN_lt home N hN0
  have hb' := pickN_lt other N hN0
  obtain ⟨a, haE⟩ : ∃ a, a = pickN home N := ⟨_, rfl⟩
  obtain ⟨b0, hbE⟩ : ∃ b0, b0 = pickN other N := ⟨_, rfl⟩
  rw [← haE] at hp1 ha
  rw [← hbE] at hp2 hb'
  obtain ⟨bb, hbb⟩ : ∃ bb : Nat, bb = if back then a else b0 := ⟨_, rfl⟩
  have hbbN : bb < N := by rw [hbb]; split <;> assumption
  have HP1 := hide hp1
  have HP2 := hide hp2
  have HBB := hide hbb
  have HAn : Hid (a < (newNet par).n) := by show a < par.length + 1; omega
  have HBn : Hid (bb < (newNet par).n) := by show bb < par.length + 1; omega
  clear hN hN1 hlow1 ht1 hp1 hp2 ha hb' haE hbE hmn hN0 hN6 hbb hbbN
  go_wp2_with fail
  refine (unhide HP1 _).mono ?_
  rintro e w1' ⟨rfl, hw⟩
  have hw := hw.symm
  subst hw
  go_wp2_with fail
  refine (unhide HP2 _).mono ?_
  rintro e w1' ⟨rfl, hw⟩
  have hw := hw.symm
  subst hw
  clear hmany
  go_upto_if 51 with (fail)
  go_cut [14] (fun s wx => s = int bb ∧ wx = w1)
  case first =>
    cases back with
    | true =>
      go_wp2
      go_meet
      exact ⟨by rw [unhide HBB]; rfl, rfl⟩
    | false =>
      go_wp2
      go_meet
      exact ⟨by rw [unhide HBB]; rfl, rfl⟩
  case rest =>
    obtain ⟨rfl, hwx⟩ := hcut
    have hwx := hwx.symm
    subst hwx
    go_wp2_with fail
    refine (attachS (unhide HN1).x (newI (unhide TT)) (by rw [(Spread.new (unhide TT)).2]; omega) (c := 2) (x := a) (by omega) (unhide HAn) rfl rfl).mono ?_
    rintro e w3 ⟨rfl, ρ3, hX3, hI3, hw3, hpar3, hM3⟩
    have HN3 := hide ((unhide HN1).mv hX3 hM3)
    have HO3 := hide (Ow.mv (κ := κ) hM3)
    have HI3 := hide hI3
    have HW3 : Hid (_ = 0) := hw3.trans (Spread.new (unhide TT)).2
    have HPR3 := hide hpar3
    have hnet := (unhide HN3).h.net
    clear hX3 hI3 hw3 hpar3 hM3
    go_wp2_with fail
    refine (subscribeS (unhide HN3).x (unhide HI3) (by rw [unhide HW3]; omega) (c := 2) (x := a) (by omega) rfl rfl (l := []) rfl (Or.inl rfl) 0).mono ?_
    rintro e w5 ⟨rfl, ρ5, hX5, hI5, hw5, hpar5, hM5⟩
    have HN5 := hide ((unhide HN3).mv hX5 hM5)
    have HO5 := hide ((unhide HO3).trans (Ow.mv hM5))
    have HI5 := hide hI5
    rw [unhide HW3] at hw5
    have HW5 := hide hw5
    have HPR5 := hide (hpar5.trans (unhide HPR3))
    have hnet := (unhide HN5).h.net
    clear hX5 hI5 hw5 hpar5 hM5 HN3 HO3 HI3 HW3 HPR3
    go_wp2_with fail
    refine (attachS (unhide HN5).x (unhide HI5) (by have := unhide HW5; omega) (c := 3) (x := bb) (by omega) (by have := unhide HBn; unfold Net.n at this ⊢; rw [unhide HPR5]; exact this) rfl rfl).mono ?_
    rintro e w4 ⟨rfl, ρ4, hX4, hI4, hw4, hpar4, hM4⟩
    have HN4 := hide ((unhide HN5).mv hX4 hM4)
    have HO4 := hide ((unhide HO5).trans (Ow.mv hM4))
    have HI4 := hide hI4
    have HPR4 := hide (hpar4.trans (unhide HPR5))
    clear hX4 hI4 hw4 hpar4 hM4 HN5 HO5 HI5 HW5 HPR5 hnet
    go_wp2_with fail
    refine (quietX (spread_runs _ _) (unhide HN4) (unhide HI4) (unhide H3) (by simp [newHM])).mono ?_
    rintro e w6 ⟨rfl, ρ6, σ6, hN6, hI6, hq6, hO6⟩
    have hg := hI6.gone (a := a) (b := bb) hq6 rfl rfl rfl (fun c hc => by
      show put (fun _ => none) 2 (some []) c = none
      exact put_other _ _ hc)
    have HG := hide hg
    have HF6 := hide hI6.fine.fit
    have HT6 := hide hI6.sp.good.tree
    have HA6 := hide (hI6.sp.at_lt (c := 2) (by omega) (h := a) rfl)
    have HB6 := hide (hI6.sp.at_lt (c := 3) (by omega) (h := bb) rfl)
    have HN6 := hide hN6
    have HO6 := hide ((unhide HO4).trans hO6)
    have hnet := hN6.h.net
    clear hN6 hI6 hq6 hO6 HN4 HO4 HI4 HPR4 hg
    go_wp2_with fail
    refine (detachX (unhide HN6).x (unhide HF6) 2).mono ?_
    rw [(unhide HG).1]
    rintro e w7 ⟨rfl, hX7, hM7⟩
    have HN7 := hide ((unhide HN6).mv hX7 hM7)
    have HO7 := hide ((unhide HO6).trans (Ow.mv hM7))
    have HS7 := hide (unhide HG).2.1
    have HF7 := hide (unhide HG).2.2
    have hmp := fun w => pick_any many 15 w (unhide H3) (by omega) (by omega)
    have hml := pickN_lt many 15 (by omega)
    obtain ⟨mm, hmm⟩ : ∃ mm, mm = pickN many 15 := ⟨_, rfl⟩
    rw [← hmm] at hmp hml
    have HMP := hide hmp
    have hmlI : (mm : Int) < 15 := by omega
    have hnet := (unhide HN7).h.net
    obtain ⟨p, hp⟩ : ∃ p, p = σ6.par := ⟨_, rfl⟩
    rw [← hp] at HS7 HT6
    replace HA6 : Hid (a < size p) := by have := unhide HA6; unfold Net.n at this; rw [hp]; exact this
    replace HB6 : Hid (bb < size p) := by have := unhide HB6; unfold Net.n at this; rw [hp]; exact this
    clear hX7 hM7 HN6 HO6 HG HF6 hmp hmm hp
    go_wp2_with fail
    refine (unhide HMP _).mono ?_
    rintro e w8 ⟨rfl, hw8⟩
    have hw8 := hw8.symm
    subst hw8
    go_wp2_with fail
    go_loopw [21] (fun i wr => ∃ n : Nat, n ≤ mm ∧ i = int (n + 1 : Nat) ∧ ∃ ρ' σ' H', H'.evs = [] ∧ HN wr hb b κ ρ' σ' H' ∧ KS p a bb n σ' ∧ Fit σ' (9 + n * 12008) ∧ Ow κ ρ κ ρ' w1 wr) (fun i _ => 16 - (intOf i).toNat)
    case atStart => exact ⟨0, by omega, rfl, _, _, _, rfl, unhide HN7, unhide HS7, unhide HF7, unhide HO7⟩
    case round =>
      obtain ⟨n, hn, rfl, ρ1, σ1, H1', hev, hN, hS, hF, hO⟩ := hrel
      have hnet := hN.h.net
      have HN8 := hide hN
      have HS8 := hide hS
      have HF8 := hide hF
      have HO8 := hide hO
      have HEV := hide hev
      clear hN hS hF hO hev HN7 HS7 HF7 HO7
      by_cases hlt : n < mm
      · have hp := (unhide HS8).pub (unhide HT6) (unhide HB6) (unhide HA6) (unhide HF8)
        have HP := hide hp
        have hni : ((n + 1 : Nat) : Int) ≤ mm := by omega
        clear hp
        go_wp2_with fail
        refine (publishX (unhide HN8).x (unhide HF8) (by omega) 3 (n + 1 : Nat) 0 0).mono ?_
        rw [(unhide HP).1, (unhide HP).2.1]
        rintro e w9 ⟨rfl, ρ9, hX9, hM9⟩
        have HN9 := hide ((unhide HN8).mv hX9 hM9)
        have HO9 := hide ((unhide HO8).trans (Ow.mv hM9))
        have HK9 := hide (unhide HP).2.2
        clear hX9 hM9 HN8 HO8 HP HS8 HF8 hnet
        go_wp2_with fail
        refine (quietX (kept_runs (unhide HT6) (unhide HA6) (by omega)) (unhide HN9) (unhide HK9) (by constructor <;> omega) (by rw [unhide HEV]; simp)).mono ?_
        rintro e w10 ⟨rfl, ρ10, σ10, hN10, hI10, hq10, hO10⟩
        have hd := hI10.done hq10
        have HD := hide hd
        have HN10 := hide hN10
        have HO10 := hide ((unhide HO9).trans hO10)
        clear hN10 hI10 hq10 hO10 hd HN9 HO9 HK9
        go_wp2
        go_roundw
        case rel => exact ⟨n + 1, by omega, by go_num, ρ10, σ10, H1'.known, unhide HEV, unhide HN10, (unhide HD).1, (unhide HD).2.weak (by omega), unhide HO10⟩
        case measure => simp [intOf]; omega
      · have hnm : n = mm := by omega
        subst hnm
        have hlog0 := (unhide HS8).k.log
        have HCM := hide ((unhide HS8).comes (unhide HT6) (unhide HA6) (unhide HB6) (unhide HF8))
        have HSELF := hide (setCl_self (σ := σ1) (c := 2) hlog0)
        have HL0 := hide hlog0
        clear hlog0 HS8 hn
        go_wp2_with fail
        refine (logX (unhide HN8).x (c := 2) (by omega)).mono ?_
        rw [unhide HL0, unhide HSELF]
        rintro e w9 ⟨v, rfl, hrow, hX9, hM9⟩
        obtain ⟨va, vc, rfl⟩ : ∃ va vc, v = .slice va 0 vc := by
          rcases hrow.2 with ⟨e1, e0⟩ | ⟨g', c', cur, e1, _⟩
          · exact ⟨_, _, e1⟩
          · exact ⟨_, _, e1⟩
        have HN9 := hide ((unhide HN8).mv hX9 hM9)
        have HO9 := hide ((unhide HO8).trans (Ow.mv hM9))
        have hnet := (unhide HN9).h.net
        clear hrow hX9 hM9 HN8 HO8 HL0 HSELF
        go_wp2_with fail
        refine (attachX (unhide HN9).x (unhide HF8) (by omega) 2 bb).mono ?_
        rw [(unhide HCM).1]
        rintro e w10 ⟨rfl, ρ10, hX10, hM10⟩
        have HN10 := hide ((unhide HN9).mv hX10 hM10)
        have HO10 := hide ((unhide HO9).trans (Ow.mv hM10))
        clear hX10 hM10 HN9 HO9 hnet
        go_wp2_with fail
        refine (quietX (moves_runs (unhide HT6) (unhide HA6) (unhide HB6) (by omega)) (unhide HN10) (unhide HCM).2 (unhide H2) (by rw [unhide HEV]; simp)).mono ?_
        rintro e w11 ⟨rfl, ρ11, σ11, hN11, hI11, hq11, hO11⟩
        have hlog := hI11.done hq11
        have HN11 := hide hN11
        have HO11 := hide ((unhide HO10).trans hO11)
        have HLOG := hide hlog
        have hnet := hN11.h.net
        clear hN11 hI11 hq11 hO11 hlog HN10 HO10 HCM
        go_wp2_with fail
        refine (logX (unhide HN11).x (c := 2) (by omega)).mono ?_
        rw [unhide HLOG]
        rintro e w12 ⟨v, rfl, hrow, hX12, hM12⟩
        have HLOW2 : Hid (∀ k, k < w.heap.size → ¬ (κ k ≠ none ∨ ρ k ≠ none)) := fun k hk hr => by
          have := unhide HLOW k hr
          omega
        have HC12 := hide ((unhide HT1).fresh ((unhide HO11).trans (Ow.mv hM12)).touch (unhide HLOW2))
        obtain ⟨wa, wc2, hv, hents⟩ := ents_at hrow
        rw [keptLog_len] at hv
        have HEN := hide hents
        subst hv
        clear hrow hents hX12 hM12 hnet HN11 HO11 HLOG HLOW2 HLOW HT1 HN1
        have heq := run_equal23
        by_cases h6 : 6 < n
        · have hatv : atK n = 1 := if_pos h6
          have hm6 : min n 6 = 6 := by omega
          obtain ⟨g, rfl, hg⟩ := unhide HEN 0 _ (keptLog_lost n h6)
          have d0 : w12.cell? ⟨g, 0, none⟩ = some (int 0) := hg 0 _ rfl
          have d1 : w12.cell? ⟨g, 1, none⟩ = some (int ((n : Int) - 6)) := hg 1 _ rfl
          have d2 : w12.cell? ⟨g, 2, none⟩ = some (int 0) := hg 2 _ rfl
          have d3 : w12.cell? ⟨g, 3, none⟩ = some (int 0) := hg 3 _ rfl
          have d4 : w12.cell? ⟨g, 4, none⟩ = some (int 0) := hg 4 _ rfl
          have d5 : w12.cell? ⟨g, 5, none⟩ = some (int 0) := hg 5 _ rfl
          have d6 : w12.cell? ⟨g, 6, none⟩ = some (int 0) := hg 6 _ rfl
          rw [hatv, hm6]
          have h6I : (6 : Int) < n := by omega
          clear hg
          go_wp2
          go_loopw [30] (fun i wr => ∃ q : Nat, 1 ≤ q ∧ q ≤ 7 ∧ i = int q ∧ wr = w12) (fun i _ => 16 - (intOf i).toNat)
          case atStart => exact ⟨1, by omega, by omega, rfl, rfl⟩
          case round =>
            obtain ⟨q, hq0, hq1, rfl, rfl⟩ := hrel
            by_cases hql : q < 7
            · obtain ⟨g', hg', hce⟩ := unhide HEN q _ (by
                have := keptLog_ev n (q - 1) (by omega)
                rw [hatv, show 1 + (q - 1) = q by omega] at this
                exact this)
              have hkv : (((q - 1 + 1 : Nat)) : Int) = (q : Int) - 1 + 1 := by omega
              simp only [Ent.enc, Ev.enc, hkv] at hce
              cases hg'
              have d0 : wr.cell? ⟨g, q * 7, none⟩ = some (int 0) := hce 0 _ rfl
              have d1 := hce 1 _ rfl
              have d2 := hce 2 _ rfl
              have d3 := hce 3 _ rfl
              have d4 := hce 4 _ rfl
              have d5 := hce 5 _ rfl
              have d6 := hce 6 _ rfl
              have hqI : (q : Int) < 7 := by omega
              have hqI1 : (1 : Int) ≤ q := by omega
              clear hce hkv
              go_wp2
              go_roundw
              case rel => exact ⟨q + 1, by omega, by omega, by go_num, trivial⟩
              case measure => simp [intOf]; omega
            · have hq9 : q = 7 := by omega
              subst hq9
              go_wp2
              go_ret
              exact ⟨rfl, unhide HC12⟩
        · have hatv : atK n = 0 := if_neg h6
          have hm6 : min n 6 = n := by omega
          rw [hatv, hm6]
          simp only [Nat.zero_add]
          have h6I : ¬ (6 : Int) < n := by omega
          have h6J : (n : Int) ≤ 6 := by omega
          go_wp2
          go_loopw [30] (fun i wr => ∃ q : Nat, 0 ≤ q ∧ q ≤ n ∧ i = int q ∧ wr = w12) (fun i _ => 16 - (intOf i).toNat)
          case atStart => exact ⟨0, by omega, by omega, rfl, rfl⟩
          case round =>
            obtain ⟨q, hq0, hq1, rfl, rfl⟩ := hrel
            by_cases hql : q < n
            · obtain ⟨g', hg', hce⟩ := unhide HEN q _ (by
                have := keptLog_ev n (q - 0) (by omega)
                rw [hatv, show 0 + (q - 0) = q by omega] at this
                exact this)
              have hkv : (((q - 0 + 1 : Nat)) : Int) = (q : Int) + 1 := by omega
              simp only [Ent.enc, Ev.enc, hkv] at hce
              subst hg'
              have d0 : wr.cell? ⟨g', q * 7, none⟩ = some (int 0) := hce 0 _ rfl
              have d1 := hce 1 _ rfl
              have d2 := hce 2 _ rfl
              have d3 := hce 3 _ rfl
              have d4 := hce 4 _ rfl
              have d5 := hce 5 _ rfl
              have d6 := hce 6 _ rfl
              have hqI : (q : Int) < n := by omega
              have hqI1 : (0 : Int) ≤ q := by omega
              clear hce hkv
              go_wp2
              go_roundw
              case rel => exact ⟨q + 1, by omega, by omega, by go_num, trivial⟩
              case measure => simp [intOf]; omega
            · have hq9 : q = n := by omega
              subst hq9
              go_wp2
              go_ret
              exact ⟨rfl, unhide HC12⟩

end Go.Proofs.Ytodfcpblcpogiaa

/-
  holds: all lists still read as their owner wrote them.
-/
import Derived.Test.YtodfcpblcpogiaaGreatPlay
namespace Go.Proofs.YtodfcpblcpogiaaGreat
open Go.RowKit

/-- A row of one cell an element, read. -/
theorem Row.read {B : Nat} {role : Role} {w : World} {r e : Nat} {v : Value} {n : Nat} {xs : List Value} (h : Row B role w r e 1 v n xs) :
    ∃ a cap, v = .slice a n cap ∧ n ≤ maxLen ∧ ∀ i u, xs[i]? = some u → ∃ g, a = some ⟨g, 0, none⟩ ∧ w.cell? ⟨g, i, none⟩ = some u := by
  have hlen : xs.length = n := by have := h.own.1; omega
  rcases h.own.2 with ⟨hv, h0⟩ | ⟨g, cap, cur, hv, _, hg, hnc, hcm, hcs, htake⟩
  · refine ⟨none, 0, by rw [hv, h0], by rw [h0]; unfold maxLen; omega, fun i u hu => ?_⟩
    have := (List.getElem?_eq_some_iff.1 hu).1
    omega
  · refine ⟨some ⟨g, 0, none⟩, cap, hv, Nat.le_trans hnc hcm, fun i u hu => ⟨g, rfl, ?_⟩⟩
    have hil : i < n := by have := (List.getElem?_eq_some_iff.1 hu).1; omega
    rw [cell_of_row w g i cur e (0, 0) hg, ← Array.getElem?_toList]
    rw [← htake, List.getElem?_take, if_pos (by omega)] at hu
    exact hu

/-- What holds asks of the lists that were handed in. -/
structure HInk (w : World) (bw n : Nat) (a : Option Addr) (c : Nat) : Prop where
  top : w.cell? ⟨bw, 2, none⟩ = some (.slice a n c)
  le : n ≤ maxLen
  at_ : ∀ i, i < n → ∃ g b m cap, a = some ⟨g, 0, none⟩ ∧ w.cell? ⟨g, i, none⟩ = some (.slice (some ⟨b, 0, none⟩) m cap) ∧ m ≤ maxLen ∧ ∀ j, j < m → w.cell? ⟨b, j, none⟩ = some (.int .i64 (-77000000))

/-- What holds asks of the lists that came out. -/
structure HMark (w : World) (bw n : Nat) (aL : Option Addr) (cL : Nat) (aM : Option Addr) (cM : Nat) : Prop where
  topL : w.cell? ⟨bw, 4, none⟩ = some (.slice aL n cL)
  topM : w.cell? ⟨bw, 5, none⟩ = some (.slice aM n cM)
  le : n ≤ maxLen
  at_ : ∀ i, i < n → ∃ gL gM a m cap k, aL = some ⟨gL, 0, none⟩ ∧ aM = some ⟨gM, 0, none⟩ ∧ w.cell? ⟨gL, i, none⟩ = some (.slice a m cap) ∧ w.cell? ⟨gM, i, none⟩ = some (.int .i64 k) ∧ m ≤ 3 ∧ (m = 0 ∨ ∃ g, a = some ⟨g, 0, none⟩ ∧ MarkAt w g m k)

theorem HMark.calm {w w' : World} {bw n : Nat} {aL : Option Addr} {cL : Nat} {aM : Option Addr} {cM : Nat} (h : HMark w bw n aL cL aM cM) (t : Calm w w') : HMark w' bw n aL cL aM cM := by
  have hc : ∀ b o v, w.cell? ⟨b, o, none⟩ = some v → w'.cell? ⟨b, o, none⟩ = some v := fun b o v hv => t.cell (p := ⟨b, o, none⟩) (fun f => f) hv
  refine ⟨hc _ _ _ h.topL, hc _ _ _ h.topM, h.le, fun i hi => ?_⟩
  obtain ⟨gL, gM, a, m, cap, k, h1, h2, h3, h4, h5, h6⟩ := h.at_ i hi
  refine ⟨gL, gM, a, m, cap, k, h1, h2, hc _ _ _ h3, hc _ _ _ h4, h5, ?_⟩
  rcases h6 with h6 | ⟨g, ha, hm⟩
  · exact Or.inl h6
  · exact Or.inr ⟨g, ha, fun j hj => ⟨hc _ _ _ (hm j hj).1, hc _ _ _ (hm j hj).2.1, hc _ _ _ (hm j hj).2.2⟩⟩

theorem St.reads {B : Nat} {kp : Nat → Prop} {wk : World} {w0 w : World} {bw : Nat} {nets : List Tw} {p q : Nat} (h : St B kp wk w0 bw nets p q w) :
    (∃ n a c, HInk w bw n a c) ∧ (∃ n aL cL aM cM, HMark w bw n aL cL aM cM) ∧ w.cell? ⟨bw, 3, none⟩ = some (.slice none 0 0) ∧ w.cell? ⟨bw, 6, none⟩ = some (.slice none 0 0) := by
  obtain ⟨role, ints, ls, ms, vA, N, vI, vL, vM, hwi, hll, hlp, hiq, hbl⟩ := h
  refine ⟨?_, ?_, hwi.b8.tests, hwi.b8.logs⟩
  · obtain ⟨a, c, hv, hle, hat⟩ := hwi.rI.read
    refine ⟨ints.length, a, c, by rw [← hv]; exact hwi.b8.ints, hle, fun i hi => ?_⟩
    obtain ⟨g, ha, hg⟩ := hat i _ (List.getElem?_eq_getElem hi)
    obtain ⟨b, m, cap, hb, _, hm, hc⟩ := hwi.ink _ (List.getElem_mem hi)
    exact ⟨g, b, m, cap, ha, by rw [← hb]; exact hg, hm, hc⟩
  · obtain ⟨aL, cL, hvL, hleL, hatL⟩ := hwi.rL.read
    obtain ⟨aM, cM, hvM, hleM, hatM⟩ := hwi.rM.read
    refine ⟨ls.length, aL, cL, aM, cM, by rw [← hvL]; exact hwi.b8.links, by rw [hll, ← hvM]; exact hwi.b8.lm, hleL, fun i hi => ?_⟩
    have him : i < ms.length := by omega
    obtain ⟨gL, hgL, hcL⟩ := hatL i _ (List.getElem?_eq_getElem hi)
    obtain ⟨gM, hgM, hcM⟩ := hatM i (.int .i64 ms[i]) (by simp [him])
    obtain ⟨a, m, cap, h1, h2, h3⟩ := hwi.mark (ls[i], ms[i]) (by
      have : (ls.zip ms)[i]? = some (ls[i], ms[i]) := by simp [List.getElem?_zip_eq_some, hi, him]
      exact List.mem_of_getElem? this)
    refine ⟨gL, gM, a, m, cap, ms[i], hgL, hgM, by rw [← h1]; exact hcL, hcM, h2, ?_⟩
    rcases h3 with h3 | ⟨g, ha, _, hm⟩
    · exact Or.inl h3
    · exact Or.inr ⟨g, ha, hm⟩

set_option maxRecDepth 100000 in
set_option maxHeartbeats 1000000 in
theorem holds_any (w : World) (bw nI : Nat) (aI : Option Addr) (cI : Nat) (hI : HInk w bw nI aI cI) (nL : Nat) (aL : Option Addr) (cL : Nat) (aM : Option Addr) (cM : Nat) (hL : HMark w bw nL aL cL aM cM)
    (h3 : w.cell? ⟨bw, 3, none⟩ = some (.slice none 0 0)) (h6 : w.cell? ⟨bw, 6, none⟩ = some (.slice none 0 0)) :
    Calls Tryz.prog 8 #[.pointer (some ⟨bw, 0, none⟩)] w fun e w' => e = .returned (.bool true) ∧ Calm w w' := by
  have i2 := hI.top
  have hlI := hI.le
  have hlL := hL.le
  unfold maxLen at hlI hlL
  have HI := hide hI
  have HL := hide hL
  clear hI hL
  go_enter Tryz.func8, Tryz.ntmps8
  go_wp2
  go_loop [3] (fun i => ∃ k : Nat, k ≤ nI ∧ i = .int .i64 k) (fun i => nI - (intOf i).toNat)
  case atStart => exact ⟨0, by omega, rfl⟩
  case round =>
    obtain ⟨k, hk, rfl⟩ := hrel
    by_cases hlt : k < nI
    · obtain ⟨g, b, m, cap, ha, hc, hm, hj⟩ := (unhide HI).at_ k hlt
      subst ha
      unfold maxLen at hm
      have HJ := hide hj
      clear hj
      go_wp2
      go_loop [4] (fun i => ∃ q : Nat, q ≤ m ∧ i = .int .i64 q) (fun i => m - (intOf i).toNat)
      case atStart => exact ⟨0, by omega, rfl⟩
      case round =>
        obtain ⟨q, hq, rfl⟩ := hrel
        by_cases hqt : q < m
        · have hcell := unhide HJ q hqt
          go_wp2
          go_round
          case rel => exact ⟨q + 1, by omega, by go_num⟩
          case measure => simp [intOf]; omega
        · go_wp2
          go_round
          case rel => exact ⟨k + 1, by omega, by go_num⟩
          case measure => simp [intOf]; omega
    · go_wp2
      refine wp_loop_rounds 1 ?_; rw [rounds_succ]
      go_wp2
      go_loopw [7] (fun i wr => ∃ k : Nat, k ≤ nL ∧ i = .int .i64 k ∧ Calm w wr) (fun i _ => nL - (intOf i).toNat)
      case atStart => exact ⟨0, by omega, rfl, Touch.refl _ _⟩
      case round =>
        obtain ⟨q, hq, rfl, ht⟩ := hrel
        have l4 := ht.cell (p := ⟨bw, 4, none⟩) (fun f => f) (unhide HL).topL
        have HT := hide ht
        by_cases hqt : q < nL
        · obtain ⟨gL, gM, a, m, cap, mk, hgL, hgM, hcL, hcM, hm3, hmk⟩ := (unhide HL).at_ q hqt
          subst hgL hgM
          have e1 := ht.cell (p := ⟨gL, q, none⟩) (fun f => f) hcL
          have HCL := hide hcL
          have HCM := hide hcM
          have HMK := hide hmk
          clear hcL hcM hmk ht
          go_wp2
          go_loopw [8] (fun i wr => ∃ r : Nat, r ≤ m ∧ i = .int .i64 r ∧ Calm w wr) (fun i _ => m - (intOf i).toNat)
          case atStart => exact ⟨0, by omega, rfl, unhide HT⟩
          case round =>
            obtain ⟨r, hr, rfl, ht'⟩ := hrel
            have l4' := ht'.cell (p := ⟨bw, 4, none⟩) (fun f => f) (unhide HL).topL
            have l5' := ht'.cell (p := ⟨bw, 5, none⟩) (fun f => f) (unhide HL).topM
            have e1' := ht'.cell (p := ⟨gL, q, none⟩) (fun f => f) (unhide HCL)
            have e2' := ht'.cell (p := ⟨gM, q, none⟩) (fun f => f) (unhide HCM)
            have hqi : (q : Int) < nL := by omega
            by_cases hrt : r < m
            · rcases unhide HMK with h0 | ⟨g, ha, hat⟩
              · omega
              · subst ha
                have m0 := ht'.cell (p := ⟨g, r * 3, none⟩) (fun f => f) (hat r hrt).1
                have m1 := ht'.cell (p := ⟨g, r * 3 + 1, none⟩) (fun f => f) (hat r hrt).2.1
                have m2 := ht'.cell (p := ⟨g, r * 3 + 2, none⟩) (fun f => f) (hat r hrt).2.2
                have hri : (r : Int) < m := by omega
                have HT' := hide ht'
                clear hat ht'
                go_wp2
                go_quiet (fail)
                go_wp2
                go_roundw
                case rel => exact ⟨r + 1, by omega, by go_num, (unhide HT').trans (calm_drewN _ nq)⟩
                case measure => simp [intOf]; omega
            · have HT' := hide ht'
              clear ht'
              go_wp2
              go_roundw
              case rel => exact ⟨q + 1, by omega, by go_num, unhide HT'⟩
              case measure => simp [intOf]; omega
        · have l6 := ht.cell (p := ⟨bw, 6, none⟩) (fun f => f) h6
          clear ht
          go_wp2
          refine wp_loop_rounds 1 ?_; rw [rounds_succ]
          go_wp2
          go_ret
          exact ⟨rfl, unhide HT⟩

end Go.Proofs.YtodfcpblcpogiaaGreat

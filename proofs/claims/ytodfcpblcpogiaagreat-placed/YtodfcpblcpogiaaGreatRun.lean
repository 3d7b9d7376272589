/-
  run: a script, and behind it all that nets tell.
-/
import Derived.Test.YtodfcpblcpogiaaGreatKnown
namespace Go.Proofs.YtodfcpblcpogiaaGreat
open Go.RowKit

/-- The i-th step of a script as it lies in memory. -/
structure OpAt (w : World) (b o i : Nat) (K On A Bv : Int) (la : Option Addr) (ln lc : Nat) (f : Nat → Int) (x y z : Int) (vt : Value) : Prop where
  c0 : w.cell? ⟨b, o + i * 9, none⟩ = some (.int .i64 K)
  c1 : w.cell? ⟨b, o + i * 9 + 1, none⟩ = some (.int .i64 On)
  c2 : w.cell? ⟨b, o + i * 9 + 2, none⟩ = some (.int .i64 A)
  c3 : w.cell? ⟨b, o + i * 9 + 3, none⟩ = some (.int .i64 Bv)
  c4 : w.cell? ⟨b, o + i * 9 + 4, none⟩ = some (.slice la ln lc)
  c5 : w.cell? ⟨b, o + i * 9 + 5, none⟩ = some (.int .i64 x)
  c6 : w.cell? ⟨b, o + i * 9 + 6, none⟩ = some (.int .i64 y)
  c7 : w.cell? ⟨b, o + i * 9 + 7, none⟩ = some (.int .i64 z)
  c8 : w.cell? ⟨b, o + i * 9 + 8, none⟩ = some vt
  lst : IntsAt w la ln f
  len : ln ≤ 17592186044416
  on1 : -9223372036854775808 ≤ On
  on2 : On ≤ 9223372036854775807

/-- A script of n steps: a slice value, and what lies behind it. -/
def ScriptAt (w : World) (a : Option Addr) (n : Nat) : Prop := ∀ i, i < n → ∃ b o K On A Bv la ln lc f x y z vt, a = some ⟨b, o, none⟩ ∧ OpAt w b o i K On A Bv la ln lc f x y z vt

theorem Below.calmCell {B : Nat} {w w' : World} (h : Below B w w') (hB : w.heap.size ≤ B) {b o : Nat} {v : Value} (hv : w.cell? ⟨b, o, none⟩ = some v) : w'.cell? ⟨b, o, none⟩ = some v :=
  (h.cell (p := ⟨b, o, none⟩) (Nat.lt_of_lt_of_le (block_lt_of_cell hv) hB)).trans hv

theorem IntsAt.below {B : Nat} {w w' : World} (h : Below B w w') (hB : w.heap.size ≤ B) {a : Option Addr} {n : Nat} {f : Nat → Int} (hi : IntsAt w a n f) : IntsAt w' a n f := by
  rcases hi with hi | ⟨b, o, ha, hc⟩
  · exact Or.inl hi
  · exact Or.inr ⟨b, o, ha, fun j hj => Below.calmCell h hB (hc j hj)⟩

/-- The empty world. -/
theorem St.start (w : World) : St w.heap.size (fun _ => False) w w w.heap.size [] 0 0 (w.alloc (.cells #[.slice none 0 0, .int .i64 0, .slice none 0 0, .slice none 0 0, .slice none 0 0, .slice none 0 0, .slice none 0 0, .slice none 0 0] 33)) := by
  have hb := heap_alloc_new w (.cells #[.slice none 0 0, .int .i64 0, .slice none 0 0, .slice none 0 0, .slice none 0 0, .slice none 0 0, .slice none 0 0, .slice none 0 0] 33)
  refine ⟨give (fun _ => (0, 0)) w.heap.size (1, 0), [], [], [], .slice none 0 0, 0, .slice none 0 0, .slice none 0 0, .slice none 0 0, ⟨fun k hk => ?_, fun k hk => ?_, by simp, ⟨give_same _ _ _, box_cell hb 0, box_cell hb 1, box_cell hb 2, box_cell hb 3, box_cell hb 4, box_cell hb 5, box_cell hb 6, box_cell hb 7, box_frozen hb⟩,
    ⟨World.ownsRow_nil _ _ _ _, fun g hg => by cases hg⟩, ⟨World.ownsRow_nil _ _ _ _, fun g hg => by cases hg⟩, ⟨World.ownsRow_nil _ _ _ _, fun g hg => by cases hg⟩, ⟨World.ownsRow_nil _ _ _ _, fun g hg => by cases hg⟩, fun i t hi => by simp at hi, fun v hv => by simp at hv, fun x hx => by simp at hx, fun k hk => hk.elim⟩, rfl, by simp, by simp, (Below.refl _ _).alloc (Nat.le_refl _) _⟩
  · simp at hk
    rw [give_other _ _ _ _ (by omega)]
  · by_cases e : k = w.heap.size
    · omega
    · rw [give_other _ _ _ _ e] at hk; exact absurd rfl hk

theorem St.bel {B : Nat} {kp : Nat → Prop} {wk w0 w : World} {bw : Nat} {nets : List Tw} {p q : Nat} (h : St B kp wk w0 bw nets p q w) : Below B w0 w := by
  obtain ⟨role, ints, ls, ms, vA, N, vI, vL, vM, hwi, hll, hlp, hiq, hbl⟩ := h
  exact hbl

theorem St.top {B : Nat} {kp : Nat → Prop} {wk w0 w : World} {bw : Nat} {nets : List Tw} {p q : Nat} (h : St B kp wk w0 bw nets p q w) : ∃ a cap, w.cell? ⟨bw, 0, none⟩ = some (.slice a nets.length cap) := by
  obtain ⟨role, ints, ls, ms, vA, N, vI, vL, vM, hwi, hll, hlp, hiq, hbl⟩ := h
  rcases hwi.rA.own.2 with ⟨hv, h0⟩ | ⟨g, cap, cur, hv, _⟩
  · exact ⟨none, 0, by have := hwi.b8.all; rw [hv] at this; rw [h0]; exact this⟩
  · exact ⟨some ⟨g, 0, none⟩, cap, by have := hwi.b8.all; rw [hv] at this; exact this⟩

/-- How the lists grow by a step. -/
theorem play_len (nets : List Tw) (K On A Bv : Int) (f : Nat → Int) (n bx br p : Nat) : pOf K p + 4 * (playN nets K On A Bv f n bx br).length ≤ p + 4 * nets.length + 4 := by
  by_cases h1 : K = 1
  · subst h1
    have : pOf 1 p = p := rfl
    rw [this, playN_new]
    unfold addNet
    split
    · simp; omega
    · omega
  · have hl : (playN nets K On A Bv f n bx br).length = nets.length := by
      unfold playN
      rw [if_neg h1]
      split
      · rfl
      · simp
    rw [hl]
    unfold pOf
    split <;> omega
theorem q_len (K : Int) (q : Nat) : qOf K q ≤ q + 1 := by unfold qOf; split <;> omega

theorem play_look (nets : List Tw) (On A Bv : Int) (f : Nat → Int) (n bx br : Nat) : playN nets 5 On A Bv f n bx br = nets := by
  unfold playN
  rw [if_neg (by decide)]
  split
  · rfl
  · rename_i t ht
    rw [turn_not _ _ _ _ (by decide) (by decide) (by decide), set_id ht]

set_option maxRecDepth 100000 in
set_option maxHeartbeats 1000000 in
theorem run_any (a : Option Addr) (n cap : Nat) (w : World) (hS : ScriptAt w a n) (hn : 104 * n + 4096 ≤ 140737488355328) :
    Calls Tryz.prog 5 #[.slice a n cap, .int .i64 6] w fun e w' => e = .returned (.bool true) ∧ Below w.heap.size w w' := by
  have HS := hide hS
  have H0 := hide (St.start w)
  clear hS
  go_enter Tryz.func5, Tryz.ntmps5
  go_wp2_with fail
  refine (knownW_any w.heap.size _ w w _ w.heap.size (unhide H0)).mono ?_
  rintro e w1 ⟨rfl, t1, wk1, h1⟩
  have H1 := hide h1
  clear h1 H0
  go_wp2_with fail
  go_loopw [6, 7] (fun ok i wr => ∃ (k : Nat) (nets : List Tw) (p q : Nat), k ≤ n ∧ ok = .bool true ∧ i = .int .i64 k ∧ St w.heap.size (fun _ => False) wk1 w w.heap.size nets p q wr ∧ p + 4 * nets.length ≤ 4 * (k + 1) ∧ q ≤ k + 1) (fun _ i _ => n - (intOf i).toNat)
  case atStart => exact ⟨0, [t1], 0, 1, by omega, rfl, rfl, unhide H1, by simp, by omega⟩
  case round =>
    obtain ⟨k, nets, p, q, hk, rfl, rfl, hst, hpn, hqk⟩ := hrel
    have HST := hide hst
    clear H1 hst
    by_cases hlt : k < n
    · obtain ⟨b, o, K, On, A, Bv, la, ln, lc, f, x, y, z, vt, ha, hop⟩ := (unhide HS) k hlt
      subst ha
      have hB := (unhide HST).bel
      have c0 := Below.calmCell hB (Nat.le_refl _) hop.c0
      have c1 := Below.calmCell hB (Nat.le_refl _) hop.c1
      have c2 := Below.calmCell hB (Nat.le_refl _) hop.c2
      have c3 := Below.calmCell hB (Nat.le_refl _) hop.c3
      have c4 := Below.calmCell hB (Nat.le_refl _) hop.c4
      have c5 := Below.calmCell hB (Nat.le_refl _) hop.c5
      have c6 := Below.calmCell hB (Nat.le_refl _) hop.c6
      have c7 := Below.calmCell hB (Nat.le_refl _) hop.c7
      have c8 := Below.calmCell hB (Nat.le_refl _) hop.c8
      have HLS := hide (IntsAt.below hB (Nat.le_refl _) hop.lst)
      have hln := hop.len
      have ho1 := hop.on1
      have ho2 := hop.on2
      have hki : (k : Int) < n := by omega
      clear hop hB
      by_cases hK : K ≤ 6
      · go_wp2_with fail
        refine (plays_any w.heap.size _ wk1 w _ w.heap.size nets p q (unhide HST) K On A Bv la ln lc f x y z vt hK (unhide HLS) hln ho1 ho2 (by omega) (by omega) (by omega)).mono ?_
        rintro e w2 ⟨rfl, bx, br, h2⟩
        have HP := hide (play_len nets K On A Bv f ln bx br p)
        have HQ := hide (q_len K q)
        have H2 := hide h2
        obtain ⟨⟨nI, aI, cI, hI⟩, ⟨nL, aL, cL, aM, cM, hL⟩, t3, t6⟩ := h2.reads
        have HI := hide hI
        have HL := hide hL
        clear h2 hI hL c0 c1 c2 c3 c4 c5 c6 c7 c8
        go_wp2_with fail
        refine (holds_any _ w.heap.size nI aI cI (unhide HI) nL aL cL aM cM (unhide HL) t3 t6).mono ?_
        rintro e w3 ⟨rfl, ht3⟩
        have H3 := hide ((unhide H2).calm ht3)
        clear ht3 H2 HI HL t3 t6 HST
        go_wp2
        go_roundw
        case rel => exact ⟨k + 1, _, _, _, by omega, rfl, by go_num, unhide H3, by have := unhide HP; omega, by have := unhide HQ; omega⟩
        case measure => simp [intOf]; omega
      · obtain ⟨⟨nI, aI, cI, hI⟩, ⟨nL, aL, cL, aM, cM, hL⟩, t3, t6⟩ := (unhide HST).reads
        have HI := hide hI
        have HL := hide hL
        clear hI hL c1 c2 c3 c4 c5 c6 c7 c8
        go_wp2_with fail
        refine (holds_any _ w.heap.size nI aI cI (unhide HI) nL aL cL aM cM (unhide HL) t3 t6).mono ?_
        rintro e w3 ⟨rfl, ht3⟩
        have H3 := hide ((unhide HST).calm ht3)
        clear ht3 HI HL t3 t6 HST c0
        go_wp2
        go_roundw
        case rel => exact ⟨k + 1, _, _, _, by omega, rfl, by go_num, unhide H3, by omega, by omega⟩
        case measure => simp [intOf]; omega
    · have hkn : k = n := by omega
      subst hkn
      go_wp2
      go_loopw [6, 8] (fun ok i wx => ∃ (j p : Nat), j ≤ nets.length ∧ ok = .bool true ∧ i = .int .i64 j ∧ St w.heap.size (fun _ => False) wk1 w w.heap.size nets p q wx ∧ p + 4 * (nets.length - j) ≤ 4 * (k + 1)) (fun _ i _ => nets.length - (intOf i).toNat)
      case atStart => exact ⟨0, p, by omega, rfl, rfl, unhide HST, by omega⟩
      case round =>
        obtain ⟨j, p2, hj, rfl, rfl, hst, hp2⟩ := hrel
        have HST2 := hide hst
        clear HST hst
        by_cases hjt : j < nets.length
        · obtain ⟨t, htj⟩ : ∃ t, nets[j]? = some t := ⟨_, List.getElem?_eq_getElem hjt⟩
          obtain ⟨gA, cA, a0, a1, a2⟩ := (unhide HST2).all htj
          have HTJ := hide htj
          have hji : (j : Int) < nets.length := by omega
          have hnl : (nets.length : Int) ≤ 4611686018427387904 := by omega
          clear htj
          go_wp2_with fail
          refine (pending_any w.heap.size _ wk1 w _ w.heap.size nets p2 q (unhide HST2) (by omega) j t (unhide HTJ)).mono ?_
          rintro e w3 ⟨rfl, h3⟩
          have H3 := hide h3
          clear h3 a0 a1 a2 HST2
          go_wp2
          go_loopw [6, 9] (fun ok i wy => ∃ c : Nat, c ≤ 4 ∧ ok = .bool true ∧ i = .int .i64 c ∧ St w.heap.size (fun _ => False) wk1 w w.heap.size nets (p2 + 4) q wy) (fun _ i _ => 4 - (intOf i).toNat)
          case atStart => exact ⟨0, by omega, rfl, rfl, unhide H3⟩
          case round =>
            obtain ⟨c, hc, rfl, rfl, hst⟩ := hrel
            have HST3 := hide hst
            clear H3 hst
            by_cases hct : c < 4
            · have hci : (c : Int) < 4 := by omega
              go_wp2_with fail
              refine (plays_any w.heap.size _ wk1 w _ w.heap.size nets (p2 + 4) q (unhide HST3) 5 j c 0 none 0 0 (fun _ => 0) 0 0 0 (.slice none 0 0) (by omega) (Or.inl rfl) (by omega) (by omega) (by omega) (by omega) (by omega) (by omega)).mono ?_
              rintro e w4 ⟨rfl, bx, br, h4⟩
              have h5 : St w.heap.size (fun _ => False) wk1 w w.heap.size nets (p2 + 4) q w4 := by
                rw [play_look] at h4
                exact h4
              have H5 := hide h5
              clear h4 h5 HST3
              go_wp2
              go_roundw
              case rel => exact ⟨c + 1, by omega, rfl, by go_num, unhide H5⟩
              case measure => simp [intOf]; omega
            · have hci : ¬ (c : Int) < 4 := by omega
              go_wp2
              go_roundw
              case rel => exact ⟨j + 1, p2 + 4, by omega, rfl, by go_num, unhide HST3, by omega⟩
              case measure => simp [intOf]; omega
        · obtain ⟨aT, cT, hT⟩ := (unhide HST2).top
          have hji : ¬ (j : Int) < nets.length := by omega
          go_wp2
          go_ret
          exact ⟨rfl, (unhide HST2).bel⟩

set_option maxHeartbeats 400000 in
/-- PLACED, walked: it returns true, and what was there is as it was. -/
theorem placed_any (a : Option Addr) (n cap : Nat) (w : World) (hS : ScriptAt w a n) (hn : 104 * n + 4096 ≤ 140737488355328) :
    Calls Tryz.prog 3 #[.slice a n cap] w fun e w' => e = .returned (.bool true) ∧ Below w.heap.size w w' := by
  have HS := hide hS
  clear hS
  go_enter Tryz.func3, Tryz.ntmps3
  go_wp2_with fail
  refine (run_any a n cap _ (unhide HS) hn).mono ?_
  rintro e w1 ⟨rfl, hb⟩
  have HB := hide hb
  clear hb
  go_wp2
  go_ret
  exact ⟨rfl, unhide HB⟩

end Go.Proofs.YtodfcpblcpogiaaGreat

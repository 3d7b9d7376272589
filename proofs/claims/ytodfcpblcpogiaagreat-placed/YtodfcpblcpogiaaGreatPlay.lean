/-
  plays: one step.
-/
import Derived.Test.YtodfcpblcpogiaaGreatPlayA
namespace Go.Proofs.YtodfcpblcpogiaaGreat
open Go.RowKit

theorem attS_sane {n : Nat} {A : Nat → Int} {c x : Int} (h : Sane A) (hn : n ≤ 5) : Sane (attS n A c x A) := by
  intro k hk
  unfold attS
  by_cases he : attE n A c x = 0
  · rw [if_pos he]
    have hg : hasB n x = true := by
      cases hg : hasB n x with
      | true => rfl
      | false => simp [attE, hg] at he
    simp [hasB] at hg
    by_cases e : k = c.toNat
    · subst e
      rw [upd_same]
      right; omega
    · rw [upd_other _ _ _ _ e]; exact h k hk
  · rw [if_neg he]; exact h k hk

theorem detS_sane {A : Nat → Int} {c : Int} (h : Sane A) : Sane (detS A c) := by
  intro k hk
  unfold detS
  by_cases he : detE A c = 0
  · rw [if_pos he]
    by_cases e : k = c.toNat
    · subst e
      rw [upd_same]
      left; rfl
    · rw [upd_other _ _ _ _ e]; exact h k hk
  · rw [if_neg he]; exact h k hk

/-- What a step does to the i-th pair of nets. -/
def turn (t : Tw) (K A Bv : Int) : Tw :=
  if K = 2 then ⟨t.bx, t.br, t.n, attS t.n t.A A Bv t.A, attS t.n t.A A Bv t.H, t.M⟩
  else if K = 3 then ⟨t.bx, t.br, t.n, detS t.A A, t.H, t.M⟩
  else if K = 4 then ⟨t.bx, t.br, t.n, t.A, t.H, pubS t.A t.M A⟩
  else t

theorem turn2 (t : Tw) (A Bv : Int) : turn t 2 A Bv = ⟨t.bx, t.br, t.n, attS t.n t.A A Bv t.A, attS t.n t.A A Bv t.H, t.M⟩ := by simp [turn]
theorem turn3 (t : Tw) (A Bv : Int) : turn t 3 A Bv = ⟨t.bx, t.br, t.n, detS t.A A, t.H, t.M⟩ := by simp [turn]
theorem turn4 (t : Tw) (A Bv : Int) : turn t 4 A Bv = ⟨t.bx, t.br, t.n, t.A, t.H, pubS t.A t.M A⟩ := by simp [turn]
theorem turn_not (t : Tw) (K A Bv : Int) (h2 : K ≠ 2) (h3 : K ≠ 3) (h4 : K ≠ 4) : turn t K A Bv = t := by simp [turn, h2, h3, h4]

/-- The nets behind a step. -/
def playN (nets : List Tw) (K On A Bv : Int) (f : Nat → Int) (n bx br : Nat) : List Tw :=
  if K = 1 then addNet nets f n bx br
  else match nets[pickN On nets.length]? with
    | none => nets
    | some t => nets.set (pickN On nets.length) (turn t K A Bv)

def pOf (K : Int) (p : Nat) : Nat := if K = 6 then p + 4 else p
def qOf (K : Int) (q : Nat) : Nat := if K = 1 then q + 1 else q

theorem playN_new {nets : List Tw} {On A Bv : Int} {f : Nat → Int} {n bx br : Nat} : playN nets 1 On A Bv f n bx br = addNet nets f n bx br := by simp [playN]
theorem playN_nil {K On A Bv : Int} {f : Nat → Int} {n bx br : Nat} (h : K ≠ 1) : playN [] K On A Bv f n bx br = [] := by simp [playN, h]
theorem playN_at {nets : List Tw} {K On A Bv : Int} {f : Nat → Int} {n bx br : Nat} {t : Tw} (h : K ≠ 1) (ht : nets[pickN On nets.length]? = some t) : playN nets K On A Bv f n bx br = nets.set (pickN On nets.length) (turn t K A Bv) := by simp [playN, h, ht]

theorem set_id {nets : List Tw} {i : Nat} {t : Tw} (h : nets[i]? = some t) : nets.set i t = nets := by
  apply List.ext_getElem?
  intro j
  by_cases e : i = j
  · subst e
    rw [List.getElem?_set_self (List.getElem?_eq_some_iff.1 h).1, h]
  · rw [List.getElem?_set_ne e]

/-- The row of all pairs, seen from the world's own block. -/
theorem St.all {B : Nat} {kp : Nat → Prop} {wk : World} {w0 w : World} {bw : Nat} {nets : List Tw} {p q : Nat} (h : St B kp wk w0 bw nets p q w) {i : Nat} {t : Tw} (hi : nets[i]? = some t) :
    ∃ g cap, w.cell? ⟨bw, 0, none⟩ = some (.slice (some ⟨g, 0, none⟩) nets.length cap) ∧ w.cell? ⟨g, i * 2, none⟩ = some (.pointer (some ⟨t.bx, 0, none⟩)) ∧ w.cell? ⟨g, i * 2 + 1, none⟩ = some (.pointer (some ⟨t.br, 0, none⟩)) := by
  obtain ⟨role, ints, ls, ms, vA, N, vI, vL, vM, hwi, hll, hlp, hiq, hbl⟩ := h
  have hil : i < nets.length := (List.getElem?_eq_some_iff.1 hi).1
  have htw : ∀ (nets : List Tw) (i : Nat) (t : Tw), nets[i]? = some t → (twins nets)[i * 2]? = some (.pointer (some ⟨t.bx, 0, none⟩)) ∧ (twins nets)[i * 2 + 1]? = some (.pointer (some ⟨t.br, 0, none⟩)) := by
    intro nets
    induction nets with
    | nil => intro i t h; simp at h
    | cons y ys ih =>
      intro i t h
      cases i with
      | zero =>
        have : y = t := by simpa using h
        subst this
        exact ⟨rfl, rfl⟩
      | succ j =>
        have := ih j t (by simpa using h)
        have e : twins (y :: ys) = [.pointer (some ⟨y.bx, 0, none⟩), .pointer (some ⟨y.br, 0, none⟩)] ++ twins ys := rfl
        rw [e, show (j + 1) * 2 = j * 2 + 2 from by omega]
        exact this
  rcases hwi.rA.own.2 with ⟨_, h0⟩ | ⟨g, cap, cur, hv, _, hg, _, _, _, htake⟩
  · omega
  · refine ⟨g, cap, by rw [← hv]; exact hwi.b8.all, ?_⟩
    have hc : ∀ o u, (twins nets)[o]? = some u → w.cell? ⟨g, o, none⟩ = some u := fun o u hu => by
      rw [cell_of_row w g o cur 45 (0, 0) hg, ← Array.getElem?_toList]
      rw [← htake] at hu
      have hol : o < nets.length * 2 := by
        have := (List.getElem?_eq_some_iff.1 hu).1
        rw [List.length_take] at this; omega
      rw [List.getElem?_take, if_pos hol] at hu
      exact hu
    exact ⟨hc _ _ (htw nets i t hi).1, hc _ _ (htw nets i t hi).2⟩

theorem St.empty {B : Nat} {kp : Nat → Prop} {wk : World} {w0 w : World} {bw : Nat} {p q : Nat} (h : St B kp wk w0 bw [] p q w) : ∃ a cap, w.cell? ⟨bw, 0, none⟩ = some (.slice a 0 cap) := by
  obtain ⟨role, ints, ls, ms, vA, N, vI, vL, vM, hwi, hll, hlp, hiq, hbl⟩ := h
  rcases hwi.rA.own.2 with ⟨hv, _⟩ | ⟨g, cap, cur, hv, _⟩
  · exact ⟨none, 0, by rw [← hv]; exact hwi.b8.all⟩
  · exact ⟨some ⟨g, 0, none⟩, cap, by have := hwi.b8.all; rw [hv] at this; exact this⟩

theorem St.mono {B : Nat} {kp : Nat → Prop} {wk : World} {w0 w : World} {bw : Nat} {nets : List Tw} {p q p' q' : Nat} (h : St B kp wk w0 bw nets p q w) (hp : p ≤ p') (hq : q ≤ q') : St B kp wk w0 bw nets p' q' w := by
  obtain ⟨role, ints, ls, ms, vA, N, vI, vL, vM, hwi, hll, hlp, hiq, hbl⟩ := h
  exact ⟨role, ints, ls, ms, vA, N, vI, vL, vM, hwi, hll, by omega, by omega, hbl⟩
theorem pOf_ge (K : Int) (p : Nat) : p ≤ pOf K p := by unfold pOf; split <;> omega
theorem qOf_ge (K : Int) (q : Nat) : q ≤ qOf K q := by unfold qOf; split <;> omega

theorem eq48 (w : World) : (Op.equalIn 9999 48 (.agg #[.bool false, .bool false]) (.agg #[.bool false, .bool false])).run Tryz.prog w = .ok true w := by kernel_rfl

set_option maxRecDepth 100000 in
set_option maxHeartbeats 1000000 in
theorem plays_any (B : Nat) (kp : Nat → Prop) (wk w0 w : World) (bw : Nat) (nets : List Tw) (p q : Nat) (h : St B kp wk w0 bw nets p q w) (K On A Bv : Int) (la : Option Addr) (ln lc : Nat) (f : Nat → Int) (x y z : Int) (vt : Value)
    (hK : K ≤ 6) (hI : IntsAt w la ln f) (hln : ln ≤ 17592186044416) (ho1 : -9223372036854775808 ≤ On) (ho2 : On ≤ 9223372036854775807)
    (hp : (p + 4) * 24 ≤ 140737488355328) (hq : (q + 1) * 24 ≤ 140737488355328) (hnets : (nets.length + 1) * 16 ≤ 140737488355328) :
    Calls Tryz.prog 7 #[.pointer (some ⟨bw, 0, none⟩), .agg #[.int .i64 K, .int .i64 On, .int .i64 A, .int .i64 Bv, .slice la ln lc, .int .i64 x, .int .i64 y, .int .i64 z, vt]] w fun e w' =>
      e = .returned (.bool true) ∧ ∃ bx br, St B kp wk w0 bw (playN nets K On A Bv f ln bx br) (pOf K p) (qOf K q) w' := by
  have hca : Calm w (w.alloc (.cells #[.int .i64 K, .int .i64 On, .int .i64 A, .int .i64 Bv, .slice la ln lc, .int .i64 x, .int .i64 y, .int .i64 z, vt] 38)) := (Touch.refl _ _).alloc _
  have H := hide (h.calm hca)
  have HI := hide (hI.calm hca)
  clear h hI hca
  by_cases hK1 : K = 1
  · subst hK1
    go_enter Tryz.func7, Tryz.ntmps7
    go_wp2_with fail
    refine (begin_any B kp wk w0 _ bw nets p q (unhide H) la ln lc f (unhide HI) hln hq hnets).mono ?_
    rintro e w1 ⟨rfl, bx, br, h1⟩
    have H1 := hide h1
    clear h1
    go_wp2
    go_ret
    exact ⟨rfl, bx, br, by rw [playN_new]; exact unhide H1⟩
  · have k1 : (K == 1) = false := by simp [hK1]
    have HK1 := hide hK1
    clear hK1 HI
    rcases Nat.eq_zero_or_pos nets.length with hz | hpos
    · have hnil : nets = [] := List.eq_nil_of_length_eq_zero hz
      subst hnil
      obtain ⟨a0, c0, h0⟩ := (unhide H).empty
      go_enter Tryz.func7, Tryz.ntmps7
      go_wp2
      go_ret
      exact ⟨rfl, 0, 0, by rw [playN_nil (unhide HK1)]; exact (unhide H).mono (pOf_ge _ _) (qOf_ge _ _)⟩
    · have hil := pickN_lt On nets.length hpos
      obtain ⟨t, hti⟩ : ∃ t, nets[pickN On nets.length]? = some t := ⟨_, List.getElem?_eq_getElem hil⟩
      have HPL := hide (fun bx br => playN_at (K := K) (A := A) (Bv := Bv) (f := f) (n := ln) (bx := bx) (br := br) (unhide HK1) hti)
      have hpk := pick_any On nets.length
      obtain ⟨i, hie⟩ : ∃ i, i = pickN On nets.length := ⟨_, rfl⟩
      rw [← hie] at hil hti HPL hpk
      clear hie
      have HPK := hide hpk
      obtain ⟨gA, cA, a0, a1, a2⟩ := (unhide H).all hti
      have HTI := hide hti
      have hlenb : (nets.length : Int) ≤ 4611686018427387904 := by omega
      have hposi : (0 : Int) < nets.length := by omega
      have hnz : ((nets.length : Int) == 0) = false := beq_eq_false_iff_ne.2 (by omega)
      have hili : (i : Int) < nets.length := by omega
      have b1 : bw < w.heap.size + 1 := by have := block_lt_of_cell a0; simpa using this
      have b2 : gA < w.heap.size + 1 := by have := block_lt_of_cell a1; simpa using this
      clear hpk hti hpos
      go_enter Tryz.func7, Tryz.ntmps7
      go_upto_region 5 with fail
      obtain ⟨W, hW⟩ : ∃ W, W = w.alloc (.cells #[.int .i64 K, .int .i64 On, .int .i64 A, .int .i64 Bv, .slice la ln lc, .int .i64 x, .int .i64 y, .int .i64 z, vt] 38) := ⟨_, rfl⟩
      have hbox : W.heap[w.heap.size]? = some (.cells #[.int .i64 K, .int .i64 On, .int .i64 A, .int .i64 Bv, .slice la ln lc, .int .i64 x, .int .i64 y, .int .i64 z, vt] 38) := by rw [hW]; exact heap_alloc_new _ _
      rw [← hW] at H a0 a1 a2 ⊢
      have HBOX := hide hbox
      have o1 : W.cell? ⟨w.heap.size, 1, none⟩ = some (.int .i64 On) := box_cell hbox 1
      have b1 : bw < W.heap.size := block_lt_of_cell a0
      have b2 : gA < W.heap.size := block_lt_of_cell a1
      have b3 : w.heap.size < W.heap.size := block_lt_of_cell o1
      clear hW hbox
      go_cut [5] (fun s wx => ∃ g, s = .pointer (some ⟨g, 0, none⟩) ∧ wx.heap[g]? = some (.cells #[.pointer (some ⟨t.bx, 0, none⟩), .pointer (some ⟨t.br, 0, none⟩)] 45) ∧ Calm W wx)
      case first =>
        go_region_held3 (fun w' => w'.cell? ⟨bw, 0, none⟩ = some (.slice (some ⟨gA, 0, none⟩) nets.length cA) ∧ w'.cell? ⟨gA, i * 2, none⟩ = some (.pointer (some ⟨t.bx, 0, none⟩)) ∧ w'.cell? ⟨gA, i * 2 + 1, none⟩ = some (.pointer (some ⟨t.br, 0, none⟩)) ∧ w'.cell? ⟨w.heap.size, 1, none⟩ = some (.int .i64 On))
          (go_keep)
          (first | (go_at_call 12; refine (unhide HPK _ ho1 ho2 (by omega) (by omega)).mono ?_; rintro e w' ⟨rfl, rfl⟩))
        all_goals go_wp2_with fail
        all_goals go_meet
        all_goals exact ⟨W.heap.size, rfl, heap_alloc_new _ _, ((Touch.refl _ _).alloc _).drew⟩
      case rest =>
        obtain ⟨g, rfl, hg, hcw⟩ := hcut
        have H1 := hide ((unhide H).calm hcw)
        have hb := (hcw.block w.heap.size b3 (fun f => f)).trans (unhide HBOX)
        have c0 : wc.cell? ⟨w.heap.size, 0, none⟩ = some (.int .i64 K) := box_cell hb 0
        have c1 : wc.cell? ⟨w.heap.size, 1, none⟩ = some (.int .i64 On) := box_cell hb 1
        have c2 : wc.cell? ⟨w.heap.size, 2, none⟩ = some (.int .i64 A) := box_cell hb 2
        have c3 : wc.cell? ⟨w.heap.size, 3, none⟩ = some (.int .i64 Bv) := box_cell hb 3
        have c4 : wc.cell? ⟨w.heap.size, 4, none⟩ = some (.slice la ln lc) := box_cell hb 4
        have c5 : wc.cell? ⟨w.heap.size, 5, none⟩ = some (.int .i64 x) := box_cell hb 5
        have c6 : wc.cell? ⟨w.heap.size, 6, none⟩ = some (.int .i64 y) := box_cell hb 6
        have c7 : wc.cell? ⟨w.heap.size, 7, none⟩ = some (.int .i64 z) := box_cell hb 7
        have c8 : wc.cell? ⟨w.heap.size, 8, none⟩ = some vt := box_cell hb 8
        have d0 : wc.cell? ⟨g, 0, none⟩ = some (.pointer (some ⟨t.bx, 0, none⟩)) := box_cell hg 0
        have d1 : wc.cell? ⟨g, 1, none⟩ = some (.pointer (some ⟨t.br, 0, none⟩)) := box_cell hg 1
        obtain ⟨hn5, hsane, hXN, hRN⟩ := (unhide H1).net (unhide HTI)
        have n1 : t.bx ≠ w.heap.size := fun e => by have := hXN.closed; rw [e, c0] at this; cases this
        have n2 : t.br ≠ w.heap.size := fun e => by have := hRN.frames; rw [e, c1] at this; cases this
        have n3 : t.bx ≠ g := fun e => by have := hXN.closed; rw [e, d0] at this; cases this
        have n4 : t.br ≠ g := fun e => by have := hRN.frames; rw [e, d1] at this; cases this
        have HXN := hide hXN
        have HRN := hide hRN
        have HSA := hide hsane
        clear H HBOX hb hg hcw hXN hRN hsane a0 a1 a2 o1 b1 b2 b3 HPK hnz hposi hlenb hili
        by_cases e2 : K = 2
        · subst e2
          go_wp2_with fail
          refine (attachX_any t.bx t.n t.A t.H t.M A Bv _ (unhide HXN) hn5).mono ?_
          rintro e w1 ⟨rfl, ht1, hx1⟩
          have HT1 := hide ht1
          have HX1 := hide hx1
          have HR1 := hide ((unhide H1).other (unhide HTI) ht1)
          have f2 := ht1.cell (p := ⟨w.heap.size, 2, none⟩) (fun e => n1 e.symm) c2
          have f3 := ht1.cell (p := ⟨w.heap.size, 3, none⟩) (fun e => n1 e.symm) c3
          have g1 := ht1.cell (p := ⟨g, 1, none⟩) (fun e => n3 e.symm) d1
          clear ht1 hx1 c0 c1 c2 c3 c4 c5 c6 c7 c8 d0 d1 HXN HRN
          go_wp2
          go_cut [4] (fun s wx => s = .bool true ∧ Touch (fun k => k = t.br) w1 wx ∧ RN wx t.br t.n (attS t.n t.A A Bv t.A) (attS t.n t.A A Bv t.H) t.M)
          case first =>
            go_region_held3 (fun w' => w'.cell? ⟨w.heap.size, 2, none⟩ = some (.int .i64 A) ∧ w'.cell? ⟨w.heap.size, 3, none⟩ = some (.int .i64 Bv) ∧ w'.cell? ⟨g, 1, none⟩ = some (.pointer (some ⟨t.br, 0, none⟩)))
              (first | exact ⟨ht2.cell (p := ⟨w.heap.size, 2, none⟩) (fun e => n2 e.symm) f2, ht2.cell (p := ⟨w.heap.size, 3, none⟩) (fun e => n2 e.symm) f3, ht2.cell (p := ⟨g, 1, none⟩) (fun e => n4 e.symm) g1⟩ | go_keep)
              (first
                | (go_at_call 14; refine (num_any _ _).mono ?_; rintro e w' ⟨rfl, rfl⟩)
                | (go_at_call 15; refine (attachR_any t.br t.n t.A t.H t.M A Bv _ ?_ hn5 (unhide HSA)).mono ?_; exact (unhide HR1).calm ((Touch.refl _ _).drew); rintro e w2 ⟨rfl, ht2, hr2⟩))
            all_goals go_wp2_with fail
            all_goals go_meet
            all_goals exact ⟨by simp, ((Touch.refl _ _).drew).trans ht2, hr2⟩
          case rest =>
            obtain ⟨rfl, ht2, hr2⟩ := hcut
            have HS := hide ((unhide H1).step (unhide HTI) _ _ _ (attS_sane (unhide HSA) hn5) (unhide HT1) (unhide HX1) ht2 hr2)
            clear ht2 hr2 H1 HT1 HX1 HR1 f2 f3 g1
            go_wp2
            go_ret
            exact ⟨rfl, 0, 0, by rw [unhide HPL 0 0, turn2]; exact (unhide HS).mono (pOf_ge _ _) (qOf_ge _ _)⟩
        · have k2 : (K == 2) = false := beq_eq_false_iff_ne.2 e2
          clear e2
          by_cases e3 : K = 3
          · subst e3
            go_wp2_with fail
            refine (detachX_any t.bx t.n t.A t.H t.M A _ (unhide HXN)).mono ?_
            rintro e w1 ⟨rfl, ht1, hx1⟩
            have HT1 := hide ht1
            have HX1 := hide hx1
            have HR1 := hide ((unhide H1).other (unhide HTI) ht1)
            have f2 := ht1.cell (p := ⟨w.heap.size, 2, none⟩) (fun e => n1 e.symm) c2
            have g1 := ht1.cell (p := ⟨g, 1, none⟩) (fun e => n3 e.symm) d1
            clear ht1 hx1 c0 c1 c2 c3 c4 c5 c6 c7 c8 d0 d1 HXN HRN
            go_wp2
            go_cut [4] (fun s wx => s = .bool true ∧ Touch (fun k => k = t.br) w1 wx ∧ RN wx t.br t.n (detS t.A A) t.H t.M)
            case first =>
              go_region_held3 (fun w' => w'.cell? ⟨w.heap.size, 2, none⟩ = some (.int .i64 A) ∧ w'.cell? ⟨g, 1, none⟩ = some (.pointer (some ⟨t.br, 0, none⟩)))
                (first | exact ⟨ht2.cell (p := ⟨w.heap.size, 2, none⟩) (fun e => n2 e.symm) f2, ht2.cell (p := ⟨g, 1, none⟩) (fun e => n4 e.symm) g1⟩ | go_keep)
                (first
                  | (go_at_call 14; refine (num_any _ _).mono ?_; rintro e w' ⟨rfl, rfl⟩)
                  | (go_at_call 17; refine (detachR_any t.br t.n t.A t.H t.M A _ ?_ (unhide HSA)).mono ?_; exact (unhide HR1).calm ((Touch.refl _ _).drew); rintro e w2 ⟨rfl, ht2, hr2⟩))
              all_goals go_wp2_with fail
              all_goals go_meet
              all_goals exact ⟨by simp, ((Touch.refl _ _).drew).trans ht2, hr2⟩
            case rest =>
              obtain ⟨rfl, ht2, hr2⟩ := hcut
              have HS := hide ((unhide H1).step (unhide HTI) _ _ _ (detS_sane (unhide HSA)) (unhide HT1) (unhide HX1) ht2 hr2)
              clear ht2 hr2 H1 HT1 HX1 HR1 f2 g1
              go_wp2
              go_ret
              exact ⟨rfl, 0, 0, by rw [unhide HPL 0 0, turn3]; exact (unhide HS).mono (pOf_ge _ _) (qOf_ge _ _)⟩
          · have k3 : (K == 3) = false := beq_eq_false_iff_ne.2 e3
            clear e3
            by_cases e4 : K = 4
            · subst e4
              go_wp2_with fail
              refine (publishX_any t.bx t.n t.A t.H t.M A x y z _ (unhide HXN)).mono ?_
              rintro e w1 ⟨rfl, ht1, hx1⟩
              have HT1 := hide ht1
              have HX1 := hide hx1
              have HR1 := hide ((unhide H1).other (unhide HTI) ht1)
              have f2 := ht1.cell (p := ⟨w.heap.size, 2, none⟩) (fun e => n1 e.symm) c2
              have f5 := ht1.cell (p := ⟨w.heap.size, 5, none⟩) (fun e => n1 e.symm) c5
              have f6 := ht1.cell (p := ⟨w.heap.size, 6, none⟩) (fun e => n1 e.symm) c6
              have f7 := ht1.cell (p := ⟨w.heap.size, 7, none⟩) (fun e => n1 e.symm) c7
              have g1 := ht1.cell (p := ⟨g, 1, none⟩) (fun e => n3 e.symm) d1
              clear ht1 hx1 c0 c1 c2 c3 c4 c5 c6 c7 c8 d0 d1 HXN HRN
              go_wp2_with fail
              refine (publishR_any t.br t.n t.A t.H t.M A x y z _ (unhide HR1) hn5 (unhide HSA)).mono ?_
              rintro e w2 ⟨rfl, ht2, hr2⟩
              have HS := hide ((unhide H1).step (unhide HTI) _ _ _ (unhide HSA) (unhide HT1) (unhide HX1) ht2 hr2)
              clear ht2 hr2 H1 HT1 HX1 HR1 f2 f5 f6 f7 g1
              go_wp2_with (go_at_call 14; refine (num_any _ _).mono ?_; rintro e w' ⟨rfl, rfl⟩)
              go_ret
              exact ⟨by simp, 0, 0, by rw [unhide HPL 0 0, turn4]; exact (unhide HS).mono (pOf_ge _ _) (qOf_ge _ _)⟩
            · have k4 : (K == 4) = false := beq_eq_false_iff_ne.2 e4
              by_cases e5 : K = 5
              · subst e5
                go_wp2_with fail
                refine (lookX_any t.bx t.n t.A t.H t.M A _ (unhide HXN)).mono ?_
                rintro e w1 ⟨rfl, ht1⟩
                have f2 := ht1.cell (p := ⟨w.heap.size, 2, none⟩) (fun f => f) c2
                have g1 := ht1.cell (p := ⟨g, 1, none⟩) (fun f => f) d1
                have hl1 := block_lt_of_cell f2
                have hl2 := block_lt_of_cell g1
                simp only at hl1 hl2
                have HS1 := hide ((unhide H1).calm ht1)
                clear ht1 c0 c1 c2 c3 c4 c5 c6 c7 c8 d0 d1 HXN HRN H1
                go_wp2_with fail
                refine (lookR_any t.br t.n t.A t.H t.M A _ (((unhide HS1).net (unhide HTI)).2.2.2.calm ((Touch.refl _ _).alloc _))).mono ?_
                rintro e w2 ⟨rfl, ht2⟩
                have hbx := ht2.box (fun f => f)
                have p0 : w2.cell? ⟨w1.heap.size, 0, none⟩ = some (.int .i64 (lokA t.A A)) := box_cell hbx 0
                have p1 : w2.cell? ⟨w1.heap.size, 1, none⟩ = some (.int .i64 (lokA t.H A)) := box_cell hbx 1
                have p2 : w2.cell? ⟨w1.heap.size, 2, none⟩ = some (.bool false) := box_cell hbx 2
                have p3 : w2.cell? ⟨w1.heap.size, 3, none⟩ = some (.bool false) := box_cell hbx 3
                have p4 : w2.cell? ⟨w1.heap.size, 4, none⟩ = some (.bool false) := box_cell hbx 4
                have hl3 : w1.heap.size < w2.heap.size := block_lt_of_cell p0
                have HS2 := hide ((unhide HS1).calm (((Touch.refl _ _).alloc _).calm ht2))
                have h48 := eq48
                clear hbx ht2 HS1 f2 g1
                go_wp2_with (go_at_call 14; refine (num_any _ _).mono ?_; rintro e w' ⟨rfl, rfl⟩)
                go_ret
                exact ⟨by simp, 0, 0, by rw [unhide HPL 0 0, turn_not _ _ _ _ (by decide) (by decide) (by decide), set_id (unhide HTI)]; exact ((unhide HS2).calm ((Touch.refl _ _).alloc _)).mono (pOf_ge _ _) (qOf_ge _ _)⟩
              · have k5 : (K == 5) = false := beq_eq_false_iff_ne.2 e5
                by_cases e6 : K = 6
                · subst e6
                  go_wp2_with fail
                  refine (pending_any B kp wk w0 _ bw nets p q (unhide H1) hp i t (unhide HTI)).mono ?_
                  rintro e w1 ⟨rfl, h2⟩
                  have HS2 := hide h2
                  clear h2
                  go_wp2
                  go_ret
                  exact ⟨rfl, 0, 0, by rw [unhide HPL 0 0, turn_not _ _ _ _ (by decide) (by decide) (by decide), set_id (unhide HTI)]; exact (unhide HS2).mono (Nat.le_refl _) (qOf_ge _ _)⟩
                · have k6 : (K == 6) = false := beq_eq_false_iff_ne.2 e6
                  have hK0 : K ≤ 0 := by
                    have a1 := unhide HK1
                    have a2 := beq_eq_false_iff_ne.1 k2
                    have a3 := beq_eq_false_iff_ne.1 k3
                    omega
                  have HT := hide (turn_not t K A Bv (beq_eq_false_iff_ne.1 k2) (beq_eq_false_iff_ne.1 k3) e4)
                  clear e4 e5 e6
                  go_wp2_with fail
                  refine (frames_any bw _ _ K _ _ _ _ _ _ _ _ _ hK0).mono ?_
                  rintro e w1 ⟨rfl, ht1⟩
                  have HS2 := hide ((unhide H1).calm ht1)
                  clear ht1
                  go_wp2
                  go_ret
                  exact ⟨rfl, 0, 0, by rw [unhide HPL 0 0, unhide HT, set_id (unhide HTI)]; exact (unhide HS2).mono (pOf_ge _ _) (qOf_ge _ _)⟩

end Go.Proofs.YtodfcpblcpogiaaGreat

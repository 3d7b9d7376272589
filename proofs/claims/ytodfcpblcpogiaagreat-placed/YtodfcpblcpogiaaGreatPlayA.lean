/-
  Small parts of a step: pick, pending, frames of a kind that does nothing.
-/
import Derived.Test.YtodfcpblcpogiaaGreatBegin
import Derived.Test.YtodfcpblcpogiaaGreatNetX3
namespace Go.Proofs.YtodfcpblcpogiaaGreat
open Go.RowKit

/-- Which of n things the raw number c speaks of. -/
def pickN (c : Int) (n : Nat) : Nat := ((if c < 0 then -(c + 1) else c) % n).toNat

theorem pickN_lt (c : Int) (n : Nat) (h : 0 < n) : pickN c n < n := by
  unfold pickN
  have h1 : (0 : Int) ≤ (if c < 0 then -(c + 1) else c) % n := Int.emod_nonneg _ (by omega)
  have h2 : (if c < 0 then -(c + 1) else c) % (n : Int) < n := Int.emod_lt_of_pos _ (by omega)
  omega

theorem pickN_neg (c : Int) (n : Nat) (hc : c < 0) (h : 0 < n) : ((pickN c n : Nat) : Int) = -((c + 1).tmod n) := by
  unfold pickN
  rw [if_pos hc, ← Int.neg_tmod]
  have h1 : (0 : Int) ≤ (-(c + 1)) % n := Int.emod_nonneg _ (by omega)
  rw [Int.tmod_eq_emod_of_nonneg (by omega), Int.toNat_of_nonneg h1]
theorem pickN_pos (c : Int) (n : Nat) (hc : 0 ≤ c) (h : 0 < n) : ((pickN c n : Nat) : Int) = c % n := by
  unfold pickN
  rw [if_neg (by omega)]
  have h1 : (0 : Int) ≤ c % n := Int.emod_nonneg _ (by omega)
  rw [Int.toNat_of_nonneg h1]

theorem ret_int {k : IntKind} {a b : Int} (h : a = b) : Ending.returned (.int k a) = .returned (.int k b) := by rw [h]

set_option maxHeartbeats 400000 in
theorem pick_any (c : Int) (n : Nat) (w : World) (h1 : -9223372036854775808 ≤ c) (h2 : c ≤ 9223372036854775807) (hn : 0 < n) (hn2 : n ≤ 4611686018427387904) :
    Calls Tryz.prog 12 #[.int .i64 c, .int .i64 n] w fun e w' => e = .returned (.int .i64 (pickN c n : Nat)) ∧ w' = w := by
  by_cases hc : c < 0
  · have hp := pickN_neg c n hc hn
    generalize (pickN c n : Int) = v at *
    have HP := hide hp
    clear hp
    go_enter Tryz.func12, Tryz.ntmps12
    go_wp2
    go_ret
    exact ⟨ret_int (unhide HP).symm, rfl⟩
  · have hp := pickN_pos c n (by omega) hn
    generalize (pickN c n : Int) = v at *
    have HP := hide hp
    clear hp
    go_enter Tryz.func12, Tryz.ntmps12
    go_wp2
    go_ret
    exact ⟨ret_int (unhide HP).symm, rfl⟩

theorem St.calm {B : Nat} {kp : Nat → Prop} {wk : World} {w0 w w' : World} {bw : Nat} {nets : List Tw} {p q : Nat} (h : St B kp wk w0 bw nets p q w) (t : Calm w w') : St B kp wk w0 bw nets p q w' := by
  obtain ⟨role, ints, ls, ms, vA, N, vI, vL, vM, hwi, hll, hlp, hiq, hbl⟩ := h
  exact ⟨role, ints, ls, ms, vA, N, vI, vL, vM, hwi.calm t, hll, hlp, hiq, hbl.trans (t.below hwi.lo (fun _ f => f.elim))⟩

theorem St.net {B : Nat} {kp : Nat → Prop} {wk : World} {w0 w : World} {bw : Nat} {nets : List Tw} {p q : Nat} (h : St B kp wk w0 bw nets p q w) {i : Nat} {t : Tw} (hi : nets[i]? = some t) : t.n ≤ 5 ∧ Sane t.A ∧ XN w t.bx t.n t.A t.H t.M ∧ RN w t.br t.n t.A t.H t.M := by
  obtain ⟨role, ints, ls, ms, vA, N, vI, vL, vM, hwi, hll, hlp, hiq, hbl⟩ := h
  have := hwi.net i t hi
  exact ⟨this.five, this.sane, this.x, this.r⟩

/-- Of a pair of nets both have turned. -/
theorem St.step {B : Nat} {kp : Nat → Prop} {wk : World} {w0 w w1 w2 : World} {bw : Nat} {nets : List Tw} {p q : Nat} (h : St B kp wk w0 bw nets p q w) {i : Nat} {t : Tw} (hi : nets[i]? = some t) (A H M : Nat → Int) (hs : Sane A)
    (t1 : Touch (fun k => k = t.bx) w w1) (hx : XN w1 t.bx t.n A H M) (t2 : Touch (fun k => k = t.br) w1 w2) (hr : RN w2 t.br t.n A H M) : St B kp wk w0 bw (nets.set i ⟨t.bx, t.br, t.n, A, H, M⟩) p q w2 := by
  obtain ⟨role, ints, ls, ms, vA, N, vI, vL, vM, hwi, hll, hlp, hiq, hbl⟩ := h
  have ho := hwi.net i t hi
  refine ⟨role, ints, ls, ms, vA, N, vI, vL, vM, hwi.step (t' := ⟨t.bx, t.br, t.n, A, H, M⟩) hi rfl rfl rfl hs t1 hx t2 hr, hll, hlp, hiq, ?_⟩
  refine (hbl.trans (t1.below hwi.lo (fun k e => by rw [e]; exact hwi.base t.bx (by rw [ho.rx]; intro x; cases congrArg Prod.fst x)))).trans (t2.below (Nat.le_trans hwi.lo t1.size) (fun k e => by rw [e]; exact hwi.base t.br (by rw [ho.rr]; intro x; cases congrArg Prod.fst x)))

/-- The document's net is left where the program's turns. -/
theorem St.other {B : Nat} {kp : Nat → Prop} {wk : World} {w0 w w1 : World} {bw : Nat} {nets : List Tw} {p q : Nat} (h : St B kp wk w0 bw nets p q w) {i : Nat} {t : Tw} (hi : nets[i]? = some t) (t1 : Touch (fun k => k = t.bx) w w1) : RN w1 t.br t.n t.A t.H t.M := by
  obtain ⟨role, ints, ls, ms, vA, N, vI, vL, vM, hwi, hll, hlp, hiq, hbl⟩ := h
  have ho := hwi.net i t hi
  exact ho.r.keep t1 (fun e => by have h1 := ho.rx; have h2 := ho.rr; rw [e] at h2; rw [h1] at h2; cases congrArg Prod.fst h2)

set_option maxRecDepth 100000 in
set_option maxHeartbeats 400000 in
theorem pending_any (B : Nat) (kp : Nat → Prop) (wk w0 w : World) (bw : Nat) (nets : List Tw) (p q : Nat) (h : St B kp wk w0 bw nets p q w) (hp : (p + 4) * 24 ≤ 140737488355328) (i : Nat) (t : Tw) (hi : nets[i]? = some t) :
    Calls Tryz.prog 9 #[.pointer (some ⟨bw, 0, none⟩), .agg #[.pointer (some ⟨t.bx, 0, none⟩), .pointer (some ⟨t.br, 0, none⟩)]] w fun e w' => e = .returned (.bool true) ∧ St B kp wk w0 bw nets (p + 4) q w' := by
  have hca : Calm w (w.alloc (.cells #[.pointer (some ⟨t.bx, 0, none⟩), .pointer (some ⟨t.br, 0, none⟩)] 45)) := (Touch.refl _ _).alloc _
  have H := hide (h.calm hca)
  have HI := hide hi
  clear h hca hi
  go_enter Tryz.func9, Tryz.ntmps9
  go_wp2_with fail
  refine (pendingX_any t.bx t.n t.A t.H t.M _ ((unhide H).net (unhide HI)).2.2.1).mono ?_
  rintro e w1 ⟨rfl, ht1⟩
  have hbx := ht1.box (fun f => f)
  have e1 : w1.cell? ⟨w.heap.size, 1, none⟩ = some (.pointer (some ⟨t.br, 0, none⟩)) := box_cell hbx 1
  have H1 := hide ((unhide H).calm ht1)
  clear hbx ht1 H
  go_wp2_with fail
  refine (pendingR_any t.br t.n t.A t.H t.M _ ((unhide H1).net (unhide HI)).2.2.2 ((unhide H1).net (unhide HI)).1).mono ?_
  rintro e w2 ⟨rfl, hw2⟩
  have hw3 := hw2.symm
  subst hw3
  clear hw2
  go_wp2_with fail
  refine wp_loop_rounds 1 ?_; rw [rounds_succ]
  go_wp2_with fail
  refine (keepLinks_any B kp wk w0 _ bw nets p q (unhide H1) hp).mono ?_
  rintro e w3 ⟨rfl, h3⟩
  have H3 := hide h3
  clear h3
  go_wp2
  go_ret
  exact ⟨rfl, unhide H3⟩

set_option maxRecDepth 100000 in
set_option maxHeartbeats 400000 in
theorem frames_any (bw : Nat) (v0 v1 : Value) (K : Int) (o1 o2 o3 o4 o5 o6 o7 o8 : Value) (w : World) (hK : K ≤ 0) :
    Calls Tryz.prog 21 #[.pointer (some ⟨bw, 0, none⟩), .agg #[v0, v1], .agg #[.int .i64 K, o1, o2, o3, o4, o5, o6, o7, o8]] w fun e w' => e = .returned (.bool true) ∧ Calm w w' := by
  have k7 : (K == 7) = false := by simp; omega
  have k8 : (K == 8) = false := by simp; omega
  have k9 : (K == 9) = false := by simp; omega
  have k10 : (K == 10) = false := by simp; omega
  have k11 : (K == 11) = false := by simp; omega
  have k12 : (K == 12) = false := by simp; omega
  go_enter Tryz.func21, Tryz.ntmps21
  go_wp2
  go_ret
  exact ⟨rfl, ((Touch.refl _ _).alloc _).alloc _⟩

end Go.Proofs.YtodfcpblcpogiaaGreat

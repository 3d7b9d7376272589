/-
  The document's example, as the statements do it.
-/
import Derived.Test.YtlpknnoacpfnnaaSteps
namespace Go.Proofs.Ytlpknnoacpfnnaa
open Go.RowKit

def exL : List Tst := [⟨0, 4, 5⟩]
def ex0 : Net := newNet [0]
def ex1 : Net := ex0.attach (0 : Nat) (1 : Nat)
def ex2 : Net := ex1.attach (1 : Nat) (0 : Nat)
def ex3 : Net := ex2.sub (0 : Nat) exL
def ex4 : Net := ex3.del (1 : Nat) (0 : Nat)
def ex5 : Net := ex4.pub (1 : Nat) 7 8 9
def ex6 : Net := ex5.del (0 : Nat) (1 : Nat)

theorem exTree : Tree [0] := ⟨by decide, fun i hi => by
  have : i = 0 := by simp only [List.length_singleton] at hi; omega
  subst this; decide⟩
theorem ex0_w : ex0.weight = 0 := by decide +kernel
theorem ex1_w : ex1.weight = 0 := by decide +kernel
theorem ex2_w : ex2.weight = 0 := by decide +kernel
theorem ex4_w : ex4.weight = 0 := by decide +kernel
theorem ex3_q : ex3.q 1 0 = [.sub 0 0 exL] := by decide +kernel
theorem ex5_q : ex5.q 0 1 = [.event ⟨⟨1, 1, 7, 8, 9⟩, 1⟩] := by decide +kernel
theorem ex4_full : ex4.full = false := by decide +kernel
theorem ex6_log : (ex6.cl 0).log = [⟨0, 0, ⟨1, 1, 7, 8, 9⟩⟩] := by decide +kernel
theorem ex4_many : (ex4.cl 1).many = 0 := by decide +kernel
theorem exL_good : goodFilter exL = true := by decide +kernel

theorem no_frames {σ : Net} (G : Good σ) (h : σ.weight = 0) : ∀ x y, σ.q x y = [] := by
  intro x y
  cases hq : σ.q x y with
  | nil => rfl
  | cons f r =>
    exfalso
    have hn := near_lt6 G.tree (G.nbr x y (by rw [hq]; simp))
    have := link_le_weight G.linked hn.1 hn.2
    rw [hq, h] at this
    simp at this

/-- A net that was made behind w1. -/
structure Ex (w1 w : World) (a : Nat) (ρ : Nat → Option Role) (σ : Net) : Prop where
  x : XN w a ρ σ
  calm : Calm w1 w
  low : ∀ k, ρ k ≠ none → w1.heap.size ≤ k

theorem Ex.mv {w1 w w' : World} {a : Nat} {ρ ρ' : Nat → Option Role} {σ σ' : Net} (h : Ex w1 w a ρ σ) (x : XN w' a ρ' σ') (m : Mv allR ρ ρ' w w') : Ex w1 w' a ρ' σ' := by
  refine ⟨x, h.calm.fresh m.blocks (fun k hk hr => by have := h.low k hr; omega), fun k hk => ?_⟩
  by_cases hl : k < w.heap.size
  · rw [m.role k hl] at hk; exact h.low k hk
  · have := h.calm.size; omega
theorem Ex.step {w1 w w' : World} {a : Nat} {ρ : Nat → Option Role} {σ : Net} (h : Ex w1 w a ρ σ) (t : Calm w w') : Ex w1 w' a ρ σ := ⟨h.x.calm t, h.calm.calm t, h.low⟩

/-! ### '==' of events -/
theorem eq3 (d : Nat) (w : World) (a x : Int) : (Op.equalIn (d + 1) 3 (int a) (int x)).run Try.prog w = .ok (a == x) w := by
  simp [Op.equalIn, run_underlying Try.underlying3]
theorem part3 (w : World) (cs : Array Value) (i : Nat) (v : Value) (h : cs[i]? = some v) : (part 3 cs i).run Try.prog w = .ok v w := by
  have h2 : (isAgg 3).run Try.prog w = .ok false w := by kernel_rfl
  simp [part, h2, h]
theorem run_equal23' (d : Nat) (w : World) (a b c x y z : Int) : (Op.equalIn (d + 2) 23 (.agg #[int a, int b, int c]) (.agg #[int x, int y, int z])).run Try.prog w = .ok (decide (a = x ∧ b = y ∧ c = z)) w := by
  have p0 : ∀ w, (part 3 #[int a, int b, int c] 0).run Try.prog w = .ok (int a) w := fun w => part3 w _ 0 _ rfl
  have p1 : ∀ w, (part 3 #[int a, int b, int c] 1).run Try.prog w = .ok (int b) w := fun w => part3 w _ 1 _ rfl
  have p2 : ∀ w, (part 3 #[int a, int b, int c] 2).run Try.prog w = .ok (int c) w := fun w => part3 w _ 2 _ rfl
  have q0 : ∀ w, (part 3 #[int x, int y, int z] 0).run Try.prog w = .ok (int x) w := fun w => part3 w _ 0 _ rfl
  have q1 : ∀ w, (part 3 #[int x, int y, int z] 1).run Try.prog w = .ok (int y) w := fun w => part3 w _ 1 _ rfl
  have q2 : ∀ w, (part 3 #[int x, int y, int z] 2).run Try.prog w = .ok (int z) w := fun w => part3 w _ 2 _ rfl
  have e := fun w a x => eq3 d w a x
  have hs : ∀ w, (sizeOf 3).run Try.prog w = .ok 1 w := fun w => by kernel_rfl
  rw [show d + 2 = (d + 1) + 1 from rfl, Op.equalIn]
  simp only [Sem.run_bind, run_underlying Try.underlying23, Result.andThen_ok, hs, Std.Legacy.Range.forIn_eq_forIn_range', Std.Legacy.Range.size, Nat.sub_zero, Nat.add_sub_cancel, Nat.div_one, List.range'_succ, List.range'_zero, List.forIn_cons, List.forIn_nil, Nat.mul_one, p0, q0, e]
  by_cases h0 : a = x
  · subst h0
    by_cases h1 : b = y
    · subst h1
      by_cases h2 : c = z
      · subst h2
        simp [p1, p2, e]
      · simp [h2, p1, q1, p2, q2, e]
    · simp [h1, p1, q1, e]
  · simp [h0]
theorem run_equal23 (w : World) (a b c x y z : Int) : (Op.equalIn 9998 23 (.agg #[int a, int b, int c]) (.agg #[int x, int y, int z])).run Try.prog w = .ok (decide (a = x ∧ b = y ∧ c = z)) w := run_equal23' 9996 w a b c x y z
theorem run_equal23b (w : World) (a b c x y z : Int) : (Op.equalIn 9999 23 (.agg #[int a, int b, int c]) (.agg #[int x, int y, int z])).run Try.prog w = .ok (decide (a = x ∧ b = y ∧ c = z)) w := run_equal23' 9997 w a b c x y z

end Go.Proofs.Ytlpknnoacpfnnaa

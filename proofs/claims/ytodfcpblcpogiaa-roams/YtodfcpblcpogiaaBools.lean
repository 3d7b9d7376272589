/-
  '==' of two truths.
-/
import Derived.Test.YtodfcpblcpogiaaHouse
namespace Go.Proofs.Ytodfcpblcpogiaa
open Go.RowKit
theorem eq4 (d : Nat) (w : World) (a x : Bool) : (Op.equalIn (d + 1) 4 (.bool a) (.bool x)).run Try.prog w = .ok (a == x) w := by
  rw [Op.equalIn]
  simp [run_underlying Try.underlying4]
theorem part4 (w : World) (r : Array Value) (k : Nat) (v : Value) (hv : r[k]? = some v) : (part 4 r k).run Try.prog w = .ok v w := by
  simp [part, isAgg, run_underlying Try.underlying4, hv]
theorem run_equal70' (d : Nat) (w : World) (a b x y : Bool) : (Op.equalIn (d + 2) 70 (.agg #[.bool a, .bool b]) (.agg #[.bool x, .bool y])).run Try.prog w = .ok (decide (a = x ∧ b = y)) w := by
  have p0 : ∀ w, (part 4 #[.bool a, .bool b] 0).run Try.prog w = .ok (.bool a) w := fun w => part4 w _ 0 _ rfl
  have p1 : ∀ w, (part 4 #[.bool a, .bool b] 1).run Try.prog w = .ok (.bool b) w := fun w => part4 w _ 1 _ rfl
  have q0 : ∀ w, (part 4 #[.bool x, .bool y] 0).run Try.prog w = .ok (.bool x) w := fun w => part4 w _ 0 _ rfl
  have q1 : ∀ w, (part 4 #[.bool x, .bool y] 1).run Try.prog w = .ok (.bool y) w := fun w => part4 w _ 1 _ rfl
  have e := fun w a x => eq4 d w a x
  have hs : ∀ w, (sizeOf 4).run Try.prog w = .ok 1 w := fun w => by kernel_rfl
  rw [show d + 2 = (d + 1) + 1 from rfl, Op.equalIn]
  simp only [Sem.run_bind, run_underlying Try.underlying70, Result.andThen_ok, hs, Std.Legacy.Range.forIn_eq_forIn_range', Std.Legacy.Range.size, Nat.sub_zero, Nat.add_sub_cancel, Nat.div_one, List.range'_succ, List.range'_zero, List.forIn_cons, List.forIn_nil, Nat.mul_one, p0, q0, e]
  cases a <;> cases b <;> cases x <;> cases y <;> simp [p1, q1, e]
end Go.Proofs.Ytodfcpblcpogiaa

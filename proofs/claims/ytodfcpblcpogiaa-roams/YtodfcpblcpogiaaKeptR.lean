/-
  Kept: the states on the way.
-/
import Derived.Test.YtodfcpblcpogiaaAtp
import Derived.Test.YtodfcpblcpogiaaSteps
namespace Go.Proofs.Ytodfcpblcpogiaa

section
variable {par : List Nat} {a : Nat} {K : List News} {mo : Int} {σ : Net}

end

/-! ### telling a list -/
section
variable {par : List Nat} {a b : Nat} {K : List News} {mo : Int} {σ : Net}

end

section
variable {b : Nat} {n : Int} {σ : Net}
end

section
variable {par : List Nat} {a b n m : Nat} {σ : Net}
end

end Go.Proofs.Ytodfcpblcpogiaa

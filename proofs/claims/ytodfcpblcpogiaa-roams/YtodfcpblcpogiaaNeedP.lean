/-
  One who subscribes, one who publishes: where the event goes.
-/
import Derived.Test.YtodfcpblcpogiaaHouse
namespace Go.Proofs.Ytodfcpblcpogiaa

section
variable {σ : Net} {a b : Nat} {l : List Tst}

end

end Go.Proofs.Ytodfcpblcpogiaa

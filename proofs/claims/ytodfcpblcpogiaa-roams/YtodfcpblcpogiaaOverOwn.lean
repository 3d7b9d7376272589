/-
  Over: moves: client 0 goes, and comes to some brokers, one after the other.
-/
import Derived.Test.YtodfcpblcpogiaaOvs
import Derived.Test.YtodfcpblcpogiaaUnsX
import Derived.Test.YtodfcpblcpogiaaPubF
import Derived.Test.YtodfcpblcpogiaaHouse
import Derived.Test.YtodfcpblcpogiaaHact
namespace Go.Proofs.Ytodfcpblcpogiaa
open Go.RowKit

section
variable {hb b : Nat} {κ ρ : Nat → Option Role} {w1 wr : World} {par : List Nat} {p m : Nat} {U : Nat → Bool}
end

end Go.Proofs.Ytodfcpblcpogiaa

/-
  The arguments of the statements, opened.
-/
import Derived.Test.YtodfcpblcpogiaaTests
import Derived.ProofKit
import Derived.SizedLaws
import Derived.OpenShut
import Derived.Deep.Slices
namespace Go.Proofs.Ytodfcpblcpogiaa
open Go.ChangeShapes Go.WideShapes Go.ChangeAt Go.RowKit

theorem Try.own : ownKnob Try.prog.godebug = none := by kernel_rfl
theorem Try.cells22 : Try.prog.cellsOf 22 = 1 := by kernel_rfl
theorem Try.cells23 : Try.prog.cellsOf 23 = 3 := by kernel_rfl

section
variable {H : Type} {enc : TypeId × Value → H} {W : World}

theorem fits_of_wf {n : Int} (hw : (Lit.int .i64 n).wf = true) : Fits n := by
 have h1 : IntKind.i64.min = -9223372036854775808 := rfl
 have h2 : IntKind.i64.max = 9223372036854775807 := rfl
 simp only [Lit.wf, Bool.and_eq_true, decide_eq_true_eq] at hw
 unfold Fits
 omega

theorem list_open {fuel : Nat} {v : Value} {x : DataW H × List MemPlace} (h : DataW.trod enc Try.prog W 0 (fun _ => true) true fuel 22 [v] = some x) :
  ∃ la ln lc f, v = .slice la ln lc ∧ RawAt W la ln f ∧ ln ≤ maxLen := by
 rcases open_ints Try.underlying22 Try.underlying3 Try.cells3 h with ⟨hcs, _⟩ | ⟨a, len, cap, zs, hcs, _, hl, hm, hz, hx, hcell, hwf⟩
 ·have : v = .slice none 0 0 := by simpa using hcs
  exact ⟨none, 0, 0, fun _ => 0, this, ⟨Or.inl rfl, fun j hj => by omega⟩, Nat.zero_le _⟩
 ·have hv : v = .slice (some a) len cap := by simpa using hcs
  simp only [if_true] at hz
  refine ⟨some a, len, cap, fun j => zs.getD j 0, hv, ⟨?_, fun j hj => ?_⟩, by omega⟩
  ·by_cases h0 : len = 0
   ·exact Or.inl h0
   ·obtain ⟨b, off, spot⟩ := a
    have hspot : spot = none := by simpa [Addr.add] using World.cell?_spot (hcell 0 (by omega))
    subst hspot
    exact Or.inr ⟨b, off, rfl, fun j hj => by rw [← add_plain]; exact hcell j (by omega)⟩
  ·refine fits_of_wf (hwf _ ?_)
   show zs.getD j 0 ∈ zs
   rw [List.getD_eq_getElem?_getD, List.getElem?_eq_getElem (by omega), Option.getD_some]
   exact List.getElem_mem _

set_option maxRecDepth 100000 in
theorem int_open {fuel : Nat} {v : Value} {x : DataW H × List MemPlace} (h : DataW.trod enc Try.prog W 0 (fun _ => true) true fuel 3 [v] = some x) : ∃ n, v = .int .i64 n ∧ Fits n := by
 obtain ⟨n, hn, _, hw⟩ := DataW.trod_int Try.underlying3 h
 exact ⟨n, by simpa using hn, fits_of_wf hw⟩

set_option maxRecDepth 100000 in
theorem three_open {fuel : Nat} {cs : List Value} {x : DataW H × List MemPlace} (h : DataW.trod enc Try.prog W 0 (fun _ => true) true fuel 23 cs = some x) : ∃ f0 f1 f2, cs = [.int .i64 f0, .int .i64 f1, .int .i64 f2] := by
 obtain ⟨ys, m, _, _, hyl, hyn, hy⟩ := DataW.trod_array Try.underlying23 h
 rw [Try.cells23] at hyl
 match cs, hyl with
 | [v5, v6, v7], _ =>
 match ys, hyn with
 | [z0, z1, z2], _ =>
 have g0 : DataW.trod enc Try.prog W 0 (fun _ => true) true m 3 [v5] = some z0 := by have := hy 0 (by omega); simpa [Try.cells3] using this
 have g1 : DataW.trod enc Try.prog W 0 (fun _ => true) true m 3 [v6] = some z1 := by have := hy 1 (by omega); simpa [Try.cells3] using this
 have g2 : DataW.trod enc Try.prog W 0 (fun _ => true) true m 3 [v7] = some z2 := by have := hy 2 (by omega); simpa [Try.cells3] using this
 obtain ⟨y0, rfl, _⟩ := int_open g0
 obtain ⟨y1, rfl, _⟩ := int_open g1
 obtain ⟨y2, rfl, _⟩ := int_open g2
 exact ⟨_, _, _, rfl⟩

end

end Go.Proofs.Ytodfcpblcpogiaa

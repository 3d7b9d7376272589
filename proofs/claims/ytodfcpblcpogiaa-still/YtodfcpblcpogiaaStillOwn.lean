/-
  The statement roverkeep.Still is proved: for every tree, four brokers, four filters and a script, made out of any numbers, the call returns true, and what was handed in reads behind the call as it read before.
  No condition: all arguments that can be read (the row's own reach alone: each slice that is read takes at most 2 to the 47 minus 4096 bytes).
-/
import Derived.Test.YtodfcpblcpogiaaStill
import Derived.Test.YtodfcpblcpogiaaOpen
namespace Go.Proofs.Ytodfcpblcpogiaa
open Go.ChangeShapes Go.WideShapes Go.ChangeAt Go.RowKit

theorem Try.cells54 : Try.prog.cellsOf 54 = 7 := by kernel_rfl
theorem Try.bytes54 : Try.prog.bytesOf 54 = 72 := by kernel_rfl

section
variable {H : Type} {enc : TypeId × Value → H} {W : World}

set_option maxRecDepth 100000 in
/-- A step of a script, opened. -/
theorem act_open {fuel : Nat} {cs : List Value} {x : DataW H × List MemPlace} (h : DataW.trod enc Try.prog W 0 (fun _ => true) true fuel 54 cs = some x) :
    ∃ K C Z y0 y1 y2 la ln lc, cs = [.int .i64 K, .int .i64 C, .int .i64 Z, .int .i64 y0, .int .i64 y1, .int .i64 y2, .slice la ln lc] ∧ Fits K ∧ Fits C ∧ Fits Z := by
  obtain ⟨xs, n, _, hx, hlen, hxl, hf⟩ := DataW.trod_struct Try.underlying54 h
  rw [Try.cells54] at hlen
  have hxl : xs.length = 5 := hxl
  match cs, hlen with
  | [v0, v1, v2, v3, v4, v5, v6], _ =>
  match xs, hxl with
  | [x0, x1, x2, x3, x4], _ =>
  have f0 : DataW.trod enc Try.prog W 0 (fun _ => true) true n 3 [v0] = some x0 := by have := hf 0 _ rfl; simpa [Try.cells3] using this
  have f1 : DataW.trod enc Try.prog W 0 (fun _ => true) true n 3 [v1] = some x1 := by have := hf 1 _ rfl; simpa [Try.cells3] using this
  have f2 : DataW.trod enc Try.prog W 0 (fun _ => true) true n 3 [v2] = some x2 := by have := hf 2 _ rfl; simpa [Try.cells3] using this
  have f3 : DataW.trod enc Try.prog W 0 (fun _ => true) true n 23 [v3, v4, v5] = some x3 := by have := hf 3 _ rfl; simpa [Try.cells23] using this
  have f4 : DataW.trod enc Try.prog W 0 (fun _ => true) true n 22 [v6] = some x4 := by have := hf 4 _ rfl; simpa [Try.cells22] using this
  obtain ⟨K, rfl, hK⟩ := int_open f0
  obtain ⟨C, rfl, hC⟩ := int_open f1
  obtain ⟨Z, rfl, hZ⟩ := int_open f2
  obtain ⟨y0, y1, y2, e⟩ := three_open f3
  cases e
  obtain ⟨la, ln, lc, f, rfl, _⟩ := list_open f4
  exact ⟨K, C, Z, y0, y1, y2, la, ln, lc, rfl, hK, hC, hZ⟩
end

set_option maxRecDepth 100000 in
theorem still_lifted (os : Os) (started : os.Started) (H : Type) (enc : TypeId × Value → H) :
    ReturnsInHanded {} Try.checked os 4 .any (Rows.stillSpec.pre6 enc Try.prog Try.f4 Rows.stillRow.domain false) (Rows.stillSpec.post enc Try.prog Try.f4 false true false false) := by
  refine returnsInHanded_of_change_sized (C := Try.checked) Try.own started (by kernel_rfl) Try.func4
    (ChangeSpec.witness6 (enc := enc) (C := Try.checked) false ⟨#[], #[.slice none 0 0, .slice none 0 0, .slice none 0 0, .slice none 0 0], []⟩ 8 (by kernel_rfl) (by kernel_rfl) (by kernel_rfl) (by kernel_rfl)) ?_
  intro W base args ds gs before hval0 hW _ hsz0 _
  have hsz : (DataW.weightsEach Try.prog (Try.f4.params.toList ++ Rows.stillSpec.plain.varTypes Try.prog) (ds ++ gs)).all (· ≤ reachBytes) = true := hsz0
  clear hsz0
  have hval : ∀ (j : Nat) t v, Try.f4.params[j]? = some t → args[j]? = some v → Value.okWide Try.prog W .any base t v := hval0
  have hW' := hW
  obtain ⟨p, q, hA0, hV, rfl, _, _⟩ := hW
  have hA : DataW.TrodAll enc Try.prog W 0 (fun _ => true) true Try.f4.params.toList args.toList ds p := hA0
  rw [Try.params4] at hA hval hsz
  clear hA0 hval0
  obtain ⟨v0, r0, d0, e0, p0, q0, ha0, rfl, rfl, h0, hA⟩ := trodAll_cons hA
  obtain ⟨v1, r1, d1, e1, p1, q1, rfl, rfl, rfl, h1, hA⟩ := trodAll_cons hA
  obtain ⟨v2, r2, d2, e2, p2, q2, rfl, rfl, rfl, h2, hA⟩ := trodAll_cons hA
  obtain ⟨v3, r3, d3, e3, p3, q3, rfl, rfl, rfl, h3, hA⟩ := trodAll_cons hA
  obtain ⟨rfl, rfl, rfl⟩ := trodAll_nil hA
  obtain rfl : args = #[v0, v1, v2, v3] := by cases args; simp_all
  obtain ⟨rfl, rfl⟩ := trodVars_none hV
  simp only [List.append_nil] at hW'
  have hlt : ∀ x ∈ p0 ++ (p1 ++ (p2 ++ p3)), x.block < W.heap.size := fun x hx => by simpa using hW'.lt x hx
  have hlt0 : ∀ x ∈ p0, x.block < W.heap.size := fun x hx => hlt x (by simp [hx])
  have hlt1 : ∀ x ∈ p1, x.block < W.heap.size := fun x hx => hlt x (by simp [hx])
  have hlt2 : ∀ x ∈ p2, x.block < W.heap.size := fun x hx => hlt x (by simp [hx])
  have hlt3 : ∀ x ∈ p3, x.block < W.heap.size := fun x hx => hlt x (by simp [hx])
  obtain ⟨a0, n0, c0, rfl⟩ := okWide_slice Try.underlying22 (hval 0 22 v0 rfl rfl)
  obtain ⟨a1, n1, c1, rfl⟩ := okWide_slice Try.underlying22 (hval 1 22 v1 rfl rfl)
  obtain ⟨a2, n2, c2, rfl⟩ := okWide_slice Try.underlying22 (hval 2 22 v2 rfl rfl)
  obtain ⟨a3, len, c3, rfl⟩ := okWide_slice Try.underlying52 (hval 3 52 v3 rfl rfl)
  have k0 := h0
  have k1 := h1
  have k2 := h2
  have k3 := h3
  obtain ⟨f0, h0⟩ := h0
  obtain ⟨f1, h1⟩ := h1
  obtain ⟨f2, h2⟩ := h2
  obtain ⟨f3, h3⟩ := h3
  obtain ⟨_, _, _, g0, e, hr0, hm0⟩ := list_open h0
  cases e
  obtain ⟨_, _, _, g1, e, hr1, hm1⟩ := list_open h1
  cases e
  obtain ⟨_, _, _, g2, e, hr2, hm2⟩ := list_open h2
  cases e
  have hboth : ScriptAt W a3 len ∧ len < 1999999999990 := by
    rcases Deep.open_slice Try.underlying52 h3 with ⟨hcs, _⟩ | ⟨a, len', cap', m, n, D, Pl, hcs, _, hl, hm, hmm, hx, hel⟩
    · simp [Value.cells] at hcs
      obtain ⟨rfl, rfl, rfl⟩ := hcs
      exact ⟨fun i hi => by omega, by omega⟩
    · simp [Value.cells] at hcs
      obtain ⟨rfl, rfl, rfl⟩ := hcs
      simp only [Prod.mk.injEq] at hx
      obtain ⟨rfl, _⟩ := hx
      simp only [if_true] at hmm
      have hreach : len * 72 ≤ 140737488351232 := by
        have := sized_slice hsz (j := 3) (t := 52) (e := 54) rfl rfl Try.underlying52
        rw [Try.bytes54] at this
        simp only [List.length_map, List.length_range, reachBytes] at this
        omega
      refine ⟨fun i hi => ?_, by omega⟩
      obtain ⟨cs', hcells, htr⟩ := hel i (by omega)
      obtain ⟨K, C, Z, y0, y1, y2, la, ln, lc, rfl, hK, hC, hZ⟩ := act_open htr
      obtain ⟨_, _, hcell⟩ := World.cells?_some hcells
      rw [Try.cells54] at hcell
      obtain ⟨b, off, spot⟩ := a
      have hspot : spot = none := by
        obtain ⟨cs0, hcells0, htr0⟩ := hel 0 (by omega)
        obtain ⟨_, _, hcell0⟩ := World.cells?_some hcells0
        rw [Try.cells54] at hcell0
        obtain ⟨K0, C0, Z0, y00, y10, y20, la0, ln0, lc0, rfl, _⟩ := act_open htr0
        have h9 := World.cell?_spot (hcell0 0 (by omega))
        simpa [Addr.add] using h9
      subst hspot
      have hc : ∀ j u, j < 7 → [Value.int .i64 K, .int .i64 C, .int .i64 Z, .int .i64 y0, .int .i64 y1, .int .i64 y2, .slice la ln lc][j]? = some u → W.cell? ⟨b, off + i * 7 + j, none⟩ = some u := fun j u hj hu => by
        have := hcell j hj
        rw [Deep.add_add, add_plain, ← Nat.add_assoc] at this
        exact this.trans hu
      exact ⟨b, off, K, C, Z, y0, y1, y2, la, ln, lc, rfl, hc 0 _ (by omega) rfl, hc 1 _ (by omega) rfl, hc 2 _ (by omega) rfl, hc 3 _ (by omega) rfl, hc 4 _ (by omega) rfl, hc 5 _ (by omega) rfl, hc 6 _ (by omega) rfl, hK, hC, hZ⟩
  refine (still_any a0 n0 c0 g0 a1 n1 c1 g1 a2 n2 c2 g2 a3 len c3 W hr0 hm0 hr1 hm1 hr2 hm2 hboth.1 hboth.2).mono fun e W' ⟨he, hb0⟩ => ?_
  subst he
  have hb : Below W.heap.size W W' := hb0.below (Nat.le_refl _) (fun _ f => f.elim)
  refine ⟨_, rfl, _, _, _, [], p0 ++ (p1 ++ (p2 ++ (p3 ++ []))), [], hW', ?_, ?_, rfl, hb.frame _, fun h => by cases h⟩
  · exact trodAll_cons_mk (shut_bool Try.underlying4 true) trodAll_mk0
  · exact trodAll_cons_mk (Below.trod Try.laidOut (by kernel_rfl) (of_decide_eq_true (by kernel_rfl)) k0 hb hlt0)
      (trodAll_cons_mk (Below.trod Try.laidOut (by kernel_rfl) (of_decide_eq_true (by kernel_rfl)) k1 hb hlt1)
      (trodAll_cons_mk (Below.trod Try.laidOut (by kernel_rfl) (of_decide_eq_true (by kernel_rfl)) k2 hb hlt2)
      (trodAll_cons_mk (Below.trod Try.laidOut (by kernel_rfl) (of_decide_eq_true (by kernel_rfl)) k3 hb hlt3) trodAll_mk0)))

/-- THE STATEMENT. -/
theorem still_holds : Rows.StillSaid :=
  OpenClaim.holds_of_wide 4 Try.f4 rfl rfl rfl rfl rfl rfl rfl ⟨rfl, rfl, rfl, rfl, rfl⟩ rfl rfl rfl rfl rfl (by kernel_rfl) Try.func4 (by kernel_rfl)
    (of_decide_eq_true (by kernel_rfl)) (by unfold Func.isWrapper; first | (rw [if_pos (by decide +kernel)]; kernel_rfl) | (rw [if_neg (by decide +kernel)]; exact ⟨rfl, rfl⟩))
    (fun os started H enc _ => still_lifted os started H enc)

#print axioms still_holds

end Go.Proofs.Ytodfcpblcpogiaa

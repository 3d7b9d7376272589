/-
  The statement roverlaw.Placed is proved: for every script the call returns true, and the script reads behind the call as it read before.
  No condition: every script that can be read (the row's own reach alone: each slice that is read takes at most 2 to the 47 minus 4096 bytes).
-/
import Derived.Test.YtodfcpblcpogiaaGreatRun
import Derived.ProofKit
import Derived.SizedLaws
import Derived.OpenShut
import Derived.Deep.Slices
namespace Go.Proofs.YtodfcpblcpogiaaGreat
open Go.ChangeShapes Go.WideShapes Go.ChangeAt Go.RowKit

theorem Tryz.own : ownKnob Tryz.prog.godebug = none := by kernel_rfl
theorem Tryz.laidOut : laidOutB Tryz.prog = true := by kernel_rfl
theorem Tryz.cells3 : Tryz.prog.cellsOf 3 = 1 := by kernel_rfl
theorem Tryz.cells30 : Tryz.prog.cellsOf 30 = 1 := by kernel_rfl
theorem Tryz.cells35 : Tryz.prog.cellsOf 35 = 3 := by kernel_rfl
theorem Tryz.cells36 : Tryz.prog.cellsOf 36 = 1 := by kernel_rfl
theorem Tryz.cells38 : Tryz.prog.cellsOf 38 = 9 := by kernel_rfl
theorem Tryz.bytes3 : Tryz.prog.bytesOf 3 = 8 := by kernel_rfl
theorem Tryz.bytes38 : Tryz.prog.bytesOf 38 = 104 := by kernel_rfl

section
variable {H : Type} {enc : TypeId × Value → H} {W : World}

/-- A list of numbers, opened. -/
theorem list_open {fuel : Nat} {v : Value} {x : DataW H × List MemPlace} (h : DataW.trod enc Tryz.prog W 0 (fun _ => true) true fuel 30 [v] = some x) :
    ∃ la ln lc f, v = .slice la ln lc ∧ IntsAt W la ln f ∧ (ln = 0 ∨ ∃ es sp, x.1 = .slice es sp ∧ ln ≤ es.length) := by
  rcases open_ints Tryz.underlying30 Tryz.underlying3 Tryz.cells3 h with ⟨hcs, _⟩ | ⟨a, len, cap, zs, hcs, _, hl, hm, hz, hx, hcell, _⟩
  · have : v = .slice none 0 0 := by simpa using hcs
    exact ⟨none, 0, 0, fun _ => 0, this, Or.inl rfl, Or.inl rfl⟩
  · have hv : v = .slice (some a) len cap := by simpa using hcs
    simp only [if_true] at hz
    refine ⟨some a, len, cap, fun j => zs.getD j 0, hv, ?_, ?_⟩
    · by_cases h0 : len = 0
      · exact Or.inl h0
      · obtain ⟨b, off, spot⟩ := a
        have hspot : spot = none := by simpa [Addr.add] using World.cell?_spot (hcell 0 (by omega))
        subst hspot
        exact Or.inr ⟨b, off, rfl, fun j hj => by rw [← add_plain]; exact hcell j (by omega)⟩
    · refine Or.inr ⟨_, _, by rw [hx], ?_⟩
      simp [lits]; omega

theorem int_open {fuel : Nat} {v : Value} {x : DataW H × List MemPlace} (h : DataW.trod enc Tryz.prog W 0 (fun _ => true) true fuel 3 [v] = some x) : ∃ n, v = .int .i64 n ∧ -9223372036854775808 ≤ n ∧ n ≤ 9223372036854775807 := by
  obtain ⟨n, hn, _, hw⟩ := DataW.trod_int Tryz.underlying3 h
  refine ⟨n, by simpa using hn, ?_⟩
  have h1 : IntKind.i64.min = -9223372036854775808 := rfl
  have h2 : IntKind.i64.max = 9223372036854775807 := rfl
  simp only [Lit.wf, Bool.and_eq_true, decide_eq_true_eq] at hw
  omega

set_option maxRecDepth 100000 in
/-- A step of a script, opened. -/
theorem op_open {fuel : Nat} {cs : List Value} {x : DataW H × List MemPlace} (h : DataW.trod enc Tryz.prog W 0 (fun _ => true) true fuel 38 cs = some x) :
    ∃ K On A Bv la ln lc f y0 y1 y2 vt parts, cs = [.int .i64 K, .int .i64 On, .int .i64 A, .int .i64 Bv, .slice la ln lc, .int .i64 y0, .int .i64 y1, .int .i64 y2, vt] ∧ IntsAt W la ln f ∧
      (-9223372036854775808 ≤ On ∧ On ≤ 9223372036854775807) ∧ x.1 = .agg parts ∧ (ln = 0 ∨ ∃ es sp, parts[4]? = some (.slice es sp) ∧ ln ≤ es.length) := by
  obtain ⟨xs, n, _, hx, hlen, hxl, hf⟩ := DataW.trod_struct Tryz.underlying38 h
  rw [Tryz.cells38] at hlen
  have hxl : xs.length = 7 := hxl
  match cs, hlen with
  | [v0, v1, v2, v3, v4, v5, v6, v7, v8], _ =>
  match xs, hxl with
  | [x0, x1, x2, x3, x4, x5, x6], _ =>
  have f0 : DataW.trod enc Tryz.prog W 0 (fun _ => true) true n 3 [v0] = some x0 := by have := hf 0 _ rfl; simpa [Tryz.cells3] using this
  have f1 : DataW.trod enc Tryz.prog W 0 (fun _ => true) true n 3 [v1] = some x1 := by have := hf 1 _ rfl; simpa [Tryz.cells3] using this
  have f2 : DataW.trod enc Tryz.prog W 0 (fun _ => true) true n 3 [v2] = some x2 := by have := hf 2 _ rfl; simpa [Tryz.cells3] using this
  have f3 : DataW.trod enc Tryz.prog W 0 (fun _ => true) true n 3 [v3] = some x3 := by have := hf 3 _ rfl; simpa [Tryz.cells3] using this
  have f4 : DataW.trod enc Tryz.prog W 0 (fun _ => true) true n 30 [v4] = some x4 := by have := hf 4 _ rfl; simpa [Tryz.cells30] using this
  have f5 : DataW.trod enc Tryz.prog W 0 (fun _ => true) true n 35 [v5, v6, v7] = some x5 := by have := hf 5 _ rfl; simpa [Tryz.cells35] using this
  obtain ⟨K, rfl, _⟩ := int_open f0
  obtain ⟨On, rfl, ho⟩ := int_open f1
  obtain ⟨A, rfl, _⟩ := int_open f2
  obtain ⟨Bv, rfl, _⟩ := int_open f3
  obtain ⟨la, ln, lc, f, rfl, hI, hp⟩ := list_open f4
  obtain ⟨ys, m, _, _, hyl, hyn, hy⟩ := DataW.trod_array Tryz.underlying35 f5
  match ys, hyn with
  | [z0, z1, z2], _ =>
  have g0 : DataW.trod enc Tryz.prog W 0 (fun _ => true) true m 3 [v5] = some z0 := by have := hy 0 (by omega); simpa [Tryz.cells3] using this
  have g1 : DataW.trod enc Tryz.prog W 0 (fun _ => true) true m 3 [v6] = some z1 := by have := hy 1 (by omega); simpa [Tryz.cells3] using this
  have g2 : DataW.trod enc Tryz.prog W 0 (fun _ => true) true m 3 [v7] = some z2 := by have := hy 2 (by omega); simpa [Tryz.cells3] using this
  obtain ⟨y0, rfl, _⟩ := int_open g0
  obtain ⟨y1, rfl, _⟩ := int_open g1
  obtain ⟨y2, rfl, _⟩ := int_open g2
  refine ⟨K, On, A, Bv, la, ln, lc, f, y0, y1, y2, v8, _, rfl, hI, ho, by rw [hx], ?_⟩
  rcases hp with hp | ⟨es, sp, he, hl⟩
  · exact Or.inl hp
  · exact Or.inr ⟨es, sp, by simp [he], hl⟩

theorem weights_all_mem {P : Program} {e : TypeId} : ∀ (l : List (DataW H)) (d : DataW H), d ∈ l → ∀ n, n ∈ d.weights P e → n ∈ DataW.weightsAll P e l
  | d' :: r, d, hd, n, hn => by
    simp only [DataW.weightsAll, List.mem_append]
    rcases List.mem_cons.1 hd with rfl | hd
    · exact Or.inl hn
    · exact Or.inr (weights_all_mem r d hd n hn)

end

set_option maxRecDepth 100000 in
theorem placed_lifted (os : Os) (started : os.Started) (H : Type) (enc : TypeId × Value → H) :
    ReturnsInHanded {} Tryz.checked os 3 .any (Rows.placedSpec.pre6 enc Tryz.prog Tryz.f3 Rows.placedRow.domain false) (Rows.placedSpec.post enc Tryz.prog Tryz.f3 false true false false) := by
  refine returnsInHanded_of_change_sized (C := Tryz.checked) Tryz.own started (by kernel_rfl) Tryz.func3
    (ChangeSpec.witness6 (enc := enc) (C := Tryz.checked) false ⟨#[], #[.slice none 0 0], []⟩ 8 (by kernel_rfl) (by kernel_rfl) (by kernel_rfl) (by kernel_rfl)) ?_
  intro W base args ds gs before hval0 hW _ hsz0 _
  have hsz : (DataW.weightsEach Tryz.prog (Tryz.f3.params.toList ++ Rows.placedSpec.plain.varTypes Tryz.prog) (ds ++ gs)).all (· ≤ reachBytes) = true := hsz0
  clear hsz0
  have hval : ∀ (j : Nat) t v, Tryz.f3.params[j]? = some t → args[j]? = some v → Value.okWide Tryz.prog W .any base t v := hval0
  have hW' := hW
  obtain ⟨p, q, hA0, hV, rfl, _, _⟩ := hW
  have hA : DataW.TrodAll enc Tryz.prog W 0 (fun _ => true) true Tryz.f3.params.toList args.toList ds p := hA0
  rw [Tryz.params3] at hA hval hsz
  obtain ⟨v0, d0, rfl, rfl, h0⟩ := trodAll_one hA
  obtain ⟨rfl, rfl⟩ := trodVars_none hV
  obtain ⟨a0, len, cap, rfl⟩ := okWide_slice Tryz.underlying22 (hval 0 22 v0 rfl rfl)
  have h0k := h0
  obtain ⟨fuel, hf⟩ := h0
  clear hA0 hval0
  simp only [List.append_nil] at hW'
  have hlt : ∀ x ∈ p, x.block < W.heap.size := fun x hx => by simpa using hW'.lt x hx
  have hargs : ∀ (W' : World), Below W.heap.size W W' → DataW.Trod enc Tryz.prog W' 0 (fun b => decide (b < W.heap.size)) true 22 (.slice a0 len cap) d0 p :=
    fun W' hn => Below.trod Tryz.laidOut (by kernel_rfl) (of_decide_eq_true (by kernel_rfl)) h0k hn hlt
  have hboth : ScriptAt W a0 len ∧ 104 * len + 4096 ≤ 140737488355328 := by
    rcases Deep.open_slice Tryz.underlying22 hf with ⟨hcs, _⟩ | ⟨a, len', cap', m, n, D, Pl, hcs, _, hl, hm, hmm, hx, hel⟩
    · simp [Value.cells] at hcs
      obtain ⟨rfl, rfl, rfl⟩ := hcs
      exact ⟨fun i hi => by omega, by omega⟩
    · simp [Value.cells] at hcs
      obtain ⟨rfl, rfl, rfl⟩ := hcs
      simp only [Prod.mk.injEq] at hx
      obtain ⟨rfl, _⟩ := hx
      simp only [if_true] at hmm
      have hreach : len * 104 ≤ 140737488351232 := by
        have := sized_slice hsz (j := 0) (t := 22) (e := 38) rfl rfl Tryz.underlying22
        rw [Tryz.bytes38] at this
        simp only [List.length_map, List.length_range, reachBytes] at this
        omega
      refine ⟨fun i hi => ?_, by omega⟩
      obtain ⟨cs', hcells, htr⟩ := hel i (by omega)
      obtain ⟨K, On, A, Bv, la, ln, lc, f, y0, y1, y2, vt, parts, rfl, hI, ho, hD, hp⟩ := op_open htr
      obtain ⟨_, _, hcell⟩ := World.cells?_some hcells
      rw [Tryz.cells38] at hcell
      obtain ⟨b, off, spot⟩ := a
      have hspot : spot = none := by
        obtain ⟨cs0, hcells0, htr0⟩ := hel 0 (by omega)
        obtain ⟨_, _, hcell0⟩ := World.cells?_some hcells0
        rw [Tryz.cells38] at hcell0
        obtain ⟨K0, On0, A0, Bv0, la0, ln0, lc0, f0, y00, y10, y20, vt0, parts0, rfl, _⟩ := op_open htr0
        have h9 := World.cell?_spot (hcell0 0 (by omega))
        simpa [Addr.add] using h9
      subst hspot
      have hc : ∀ j u, j < 9 → [Value.int .i64 K, .int .i64 On, .int .i64 A, .int .i64 Bv, .slice la ln lc, .int .i64 y0, .int .i64 y1, .int .i64 y2, vt][j]? = some u → W.cell? ⟨b, off + i * 9 + j, none⟩ = some u := fun j u hj hu => by
        have := hcell j hj
        rw [Deep.add_add, add_plain, ← Nat.add_assoc] at this
        exact this.trans hu
      have hlen8 : ln ≤ 17592186044416 := by
        rcases hp with h0 | ⟨es, sp, hpe, hle⟩
        · omega
        · have hw : (es.length + sp.length) * Tryz.prog.bytesOf 3 ∈ (D i).weights Tryz.prog 38 := by
            have hD' : D i = .agg parts := hD
            rw [hD']
            simp only [DataW.weights, Tryz.underlying38]
            exact DataW.weights_mem_each (j := 4) (t := 30) rfl hpe _ (by simp [DataW.weights, Tryz.underlying30])
          have hw2 := weights_all_mem ((List.range len).map D) (D i) (List.mem_map.2 ⟨i, List.mem_range.2 hi, rfl⟩) _ hw
          have hw3 := List.all_eq_true.1 hsz _ (DataW.weights_mem_each (j := 0) (t := 22) rfl rfl _ (by
            simp only [DataW.weights, Tryz.underlying22, List.mem_cons, List.mem_append]
            exact Or.inr (Or.inl hw2)))
          rw [Tryz.bytes3] at hw3
          have hw4 : (es.length + sp.length) * 8 ≤ 140737488351232 := of_decide_eq_true hw3
          omega
      exact ⟨b, off, K, On, A, Bv, la, ln, lc, f, y0, y1, y2, vt, rfl, ⟨hc 0 _ (by omega) rfl, hc 1 _ (by omega) rfl, hc 2 _ (by omega) rfl, hc 3 _ (by omega) rfl, hc 4 _ (by omega) rfl, hc 5 _ (by omega) rfl, hc 6 _ (by omega) rfl, hc 7 _ (by omega) rfl, hc 8 _ (by omega) rfl, hI, hlen8, ho.1, ho.2⟩⟩
  refine (placed_any a0 len cap W hboth.1 hboth.2).mono fun e W' ⟨he, hb⟩ => ?_
  subst he
  refine ⟨_, rfl, _, _, _, [], p ++ [], [], hW', ?_, ?_, rfl, hb.frame _, fun h => by cases h⟩
  · exact trodAll_cons_mk (shut_bool Tryz.underlying4 true) trodAll_mk0
  · exact trodAll_cons_mk (hargs _ hb) trodAll_mk0

/-- THE STATEMENT. -/
theorem placed_holds : Rows.PlacedSaid :=
  OpenClaim.holds_of_wide 3 Tryz.f3 rfl rfl rfl rfl rfl rfl rfl ⟨rfl, rfl, rfl, rfl, rfl⟩ rfl rfl rfl rfl rfl (by kernel_rfl) Tryz.func3 (by kernel_rfl)
    (of_decide_eq_true (by kernel_rfl)) (by unfold Func.isWrapper; first | (rw [if_pos (by decide +kernel)]; kernel_rfl) | (rw [if_neg (by decide +kernel)]; exact ⟨rfl, rfl⟩))
    (fun os started H enc _ => placed_lifted os started H enc)

#print axioms placed_holds

end Go.Proofs.YtodfcpblcpogiaaGreat

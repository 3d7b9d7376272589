/-
  The statement roverkeep.Once is proved in its second form: for every tree and script, made out of any numbers, the call returns true, and what was handed in reads behind the call as it read before.
  Its condition: what is read is of bulk at most 1048576.
-/
import Derived.Test.YtodfcpblcpogiaaInn
import Derived.Test.YtodfcpblcpogiaaOpen
import Derived.JoinedCond
namespace Go.Proofs.Ytodfcpblcpogiaa
open Go.ChangeShapes Go.WideShapes Go.ChangeAt Go.RowKit
open Go.RowKit

theorem act_cells : Try.prog.cellsOf 54 = 7 := by kernel_rfl

theorem bulk_pos {H : Type} (d : DataW H) : 0 < Rows.uptoBulk d := by
  cases d
  case lit l => cases l <;> exact Nat.succ_pos _
  all_goals (rw [Rows.uptoBulk]; omega)
theorem bulk_len {H : Type} : ∀ l : List (DataW H), l.length ≤ Rows.uptoBulkAll l
  | [] => Nat.zero_le _
  | d :: l => by
    have h1 := bulk_pos d
    have h2 := bulk_len l
    rw [Rows.uptoBulkAll, List.length_cons]
    omega
/-- A slice of at most so many. -/
theorem bulk_slice {H : Type} {ds : List (DataW H)} (hk : Rows.uptoSmall H ds = true) {elems spare : List (DataW H)} (hm : DataW.slice elems spare ∈ ds) : elems.length ≤ 1048576 := by
  have hb : Rows.uptoBulkAll ds ≤ 1048576 := of_decide_eq_true hk
  have hin : ∀ l : List (DataW H), DataW.slice elems spare ∈ l → Rows.uptoBulk (DataW.slice elems spare) ≤ Rows.uptoBulkAll l := by
    intro l
    induction l with
    | nil => intro h; cases h
    | cons x l ih =>
      intro h
      rw [Rows.uptoBulkAll]
      rcases List.mem_cons.1 h with rfl | h
      · omega
      · have := ih h; omega
  have h1 := hin ds hm
  have h2 := bulk_len elems
  rw [Rows.uptoBulk] at h1
  omega

section
variable {H : Type} {enc : TypeId × Value → H} {W : World}

set_option maxRecDepth 100000 in
/-- A step of a script, opened. -/
theorem actOf {fuel : Nat} {cs : List Value} {x : DataW H × List MemPlace} (h : DataW.trod enc Try.prog W 0 (fun _ => true) true fuel 54 cs = some x) :
    ∃ K C Z y0 y1 y2 la ln lc f, cs = [.int .i64 K, .int .i64 C, .int .i64 Z, .int .i64 y0, .int .i64 y1, .int .i64 y2, .slice la ln lc] ∧ (Fits K ∧ Fits C ∧ Fits Z) ∧ RawAt W la ln f ∧ ln ≤ maxLen := by
  obtain ⟨xs, n, _, hx, hlen, hxl, hf⟩ := DataW.trod_struct Try.underlying54 h
  rw [act_cells] at hlen
  have hxl : xs.length = 5 := hxl
  match cs, hlen with
  | [v0, v1, v2, v3, v4, v5, v6], _ =>
  match xs, hxl with
  | [x0, x1, x2, x3, x4], _ =>
  have f0 : DataW.trod enc Try.prog W 0 (fun _ => true) true n 3 [v0] = some x0 := by have := hf 0 _ rfl; simpa [Try.cells3] using this
  have f1 : DataW.trod enc Try.prog W 0 (fun _ => true) true n 3 [v1] = some x1 := by have := hf 1 _ rfl; simpa [Try.cells3] using this
  have f2 : DataW.trod enc Try.prog W 0 (fun _ => true) true n 3 [v2] = some x2 := by have := hf 2 _ rfl; simpa [Try.cells3] using this
  have f3 : DataW.trod enc Try.prog W 0 (fun _ => true) true n 23 [v3, v4, v5] = some x3 := by have := hf 3 _ rfl; simpa [Try.cells23] using this
  have f4 : DataW.trod enc Try.prog W 0 (fun _ => true) true n 22 [v6] = some x4 := by have := hf 4 _ rfl; simpa [Try.cells22] using this
  obtain ⟨K, rfl, hK⟩ := int_open f0
  obtain ⟨C, rfl, hC⟩ := int_open f1
  obtain ⟨Z, rfl, hZ⟩ := int_open f2
  obtain ⟨y0, y1, y2, e⟩ := three_open f3
  cases e
  obtain ⟨la, ln, lc, f, rfl, hr, hm⟩ := list_open f4
  exact ⟨K, C, Z, y0, y1, y2, la, ln, lc, f, rfl, ⟨hK, hC, hZ⟩, hr, hm⟩

set_option maxRecDepth 100000 in
/-- A script, opened: acts, and how many. -/
theorem script_open {fuel : Nat} {a3 : Option Addr} {len c3 : Nat} {d : DataW H} {p : List MemPlace} (h3 : DataW.trod enc Try.prog W 0 (fun _ => true) true fuel 52 [.slice a3 len c3] = some (d, p)) :
    ActsAt W a3 len ∧ ((d = .nil ∧ len = 0) ∨ ∃ elems spare, d = .slice elems spare ∧ elems.length = len) := by
  rcases Deep.open_slice Try.underlying52 h3 with ⟨hcs, hx⟩ | ⟨a, len', cap', m, n, D, Pl, hcs, _, hl, hm, hmm, hx, hel⟩
  · simp at hcs
    obtain ⟨rfl, rfl, rfl⟩ := hcs
    simp only [Prod.mk.injEq] at hx
    exact ⟨fun i hi => by omega, Or.inl ⟨hx.1, rfl⟩⟩
  · simp at hcs
    obtain ⟨rfl, rfl, rfl⟩ := hcs
    simp only [Prod.mk.injEq] at hx
    simp only [if_true] at hmm
    refine ⟨fun i hi => ?_, Or.inr ⟨_, _, hx.1, by simp⟩⟩
    obtain ⟨cs', hcells, htr⟩ := hel i (by omega)
    obtain ⟨K, C, Z, y0, y1, y2, la, ln, lc, f, rfl, hK, hr, hln⟩ := actOf htr
    obtain ⟨_, _, hcell⟩ := World.cells?_some hcells
    rw [act_cells] at hcell
    obtain ⟨b, off, spot⟩ := a
    have hspot : spot = none := by
      obtain ⟨cs0, hcells0, htr0⟩ := hel 0 (by omega)
      obtain ⟨_, _, hcell0⟩ := World.cells?_some hcells0
      rw [act_cells] at hcell0
      obtain ⟨K0, C0, Z0, y00, y10, y20, la0, ln0, lc0, f0, rfl, _⟩ := actOf htr0
      have h9 := World.cell?_spot (hcell0 0 (by omega))
      simpa [Addr.add] using h9
    subst hspot
    have hc : ∀ j u, j < 7 → [Value.int .i64 K, .int .i64 C, .int .i64 Z, .int .i64 y0, .int .i64 y1, .int .i64 y2, .slice la ln lc][j]? = some u → W.cell? ⟨b, off + i * 7 + j, none⟩ = some u := fun j u hj hu => by
      have := hcell j hj
      rw [Deep.add_add, add_plain, ← Nat.add_assoc] at this
      exact this.trans hu
    exact ⟨b, off, K, C, Z, y0, y1, y2, la, ln, lc, f, rfl, hc 0 _ (by omega) rfl, hc 1 _ (by omega) rfl, hc 2 _ (by omega) rfl, hc 3 _ (by omega) rfl, hc 4 _ (by omega) rfl, hc 5 _ (by omega) rfl, hc 6 _ (by omega) rfl, hK, hr, hln⟩
end

set_option maxRecDepth 100000 in
set_option maxHeartbeats 4000000 in
theorem once_any (ra : Option Addr) (rn rc : Nat) (f : Nat → Int) (sa : Option Addr) (sn sc : Nat) (w : World) (hr : RawAt w ra rn f) (hrn : rn ≤ maxLen) (hs : ActsAt w sa sn) (hsn : sn ≤ 1048576) :
    Calls Try.prog 5 #[.slice ra rn rc, .slice sa sn sc] w fun e w' => e = .returned (.bool true) ∧ Calm w w' := by
  have T : Tree (treeP f (min rn 5)) := treeP_tree f _ (by omega)
  have TT := hide T
  have HR := hide hr
  have HRN := hide hrn
  have HS := hide hs
  have hsnI : (sn : Int) ≤ 1048576 := by omega
  clear T hr hrn hs
  go_enter Try.func5, Try.ntmps5
  go_wp2_with fail
  refine (houseX ra rn rc f _ (unhide HRN) (unhide HR)).mono ?_
  rintro e w1 ⟨hb, b, κ, ρ, rfl, hN1, hlow1, ht1⟩
  have HI1 := hide (Inn.new (unhide TT) hN1)
  have HLOW : Hid (∀ k, k < w.heap.size → ¬ (κ k ≠ none ∨ ρ k ≠ none)) := fun k hk hr => by
    have := hlow1 k hr
    omega
  have HT1 := hide ht1
  clear hN1 hlow1 ht1
  go_wp2_with fail
  go_loopw [6, 7] (fun o i wr => o = .bool true ∧ ∃ j : Nat, j ≤ sn ∧ i = int j ∧ Inn hb b κ ρ w1 (j * 12100) j wr) (fun _ i _ => sn - (intOf i).toNat)
  case atStart => exact ⟨rfl, 0, by omega, rfl, unhide HI1⟩
  case round =>
    obtain ⟨rfl, j, hj, rfl, hI⟩ := hrel
    obtain ⟨wq, hwq⟩ : ∃ wq, wq = wr := ⟨_, rfl⟩
    subst hwq
    have HI := hide hI
    clear hI HI1
    by_cases hjs : j < sn
    · obtain ⟨sb, so, K, C, Z, y0, y1, y2, la, ln, lc, fr, rfl, k0, k1, k2, k3, k4, k5, k6, hfits, hraw, hln⟩ := unhide HS j hjs
      have cal := (unhide HI).low (unhide HT1) (unhide HLOW)
      have c0 := cal.cell (p := ⟨sb, _, none⟩) (fun f => f) k0
      have c1 := cal.cell (p := ⟨sb, _, none⟩) (fun f => f) k1
      have c2 := cal.cell (p := ⟨sb, _, none⟩) (fun f => f) k2
      have c3 := cal.cell (p := ⟨sb, _, none⟩) (fun f => f) k3
      have c4 := cal.cell (p := ⟨sb, _, none⟩) (fun f => f) k4
      have c5 := cal.cell (p := ⟨sb, _, none⟩) (fun f => f) k5
      have c6 := cal.cell (p := ⟨sb, _, none⟩) (fun f => f) k6
      have hji : (j : Int) < sn := by omega
      have HCALL := hide ((unhide HI).act (unhide HT1) (unhide HLOW) (by omega) (by omega) hfits y0 y1 y2 (lc := lc) hraw hln)
      clear k0 k1 k2 k3 k4 k5 k6 cal hfits hraw hln
      go_wp2_with fail
      refine (unhide HCALL).mono ?_
      rintro e w2 ⟨rfl, hI2⟩
      have HI2 := hide hI2
      clear hI2 c0 c1 c2 c3 c4 c5 c6
      go_wp2_with fail
      go_loopw [6, 8] (fun o i wr => o = .bool true ∧ ∃ d : Nat, d ≤ 4 ∧ i = int d ∧ Inn hb b κ ρ w1 (j * 12100 + 12000 + d * 8) (j + 1) wr) (fun _ i _ => 4 - (intOf i).toNat)
      case atStart => exact ⟨rfl, 0, by omega, rfl, unhide HI2⟩
      case round =>
        obtain ⟨rfl, d, hd, rfl, hI3⟩ := hrel
        obtain ⟨wz, hwz⟩ : ∃ wz, wz = wr := ⟨_, rfl⟩
        subst hwz
        have HI3 := hide hI3
        have REL : Hid (Inn hb b κ ρ w1 ((j + 1) * 12100) (j + 1) wz) := hI3.weak (by omega) (Nat.le_refl _)
        clear hI3 HI2
        by_cases hd4 : d < 4
        · have hdi : (d : Int) < 4 := by omega
          by_cases hq0 : (j : Int) % 5 = 0
          · have HCALL2 := hide ((unhide HI3).read (by omega) (by omega) hd4)
            have hqb : ((j : Int) % 5 == 0) = true := by rw [beq_dec]; exact decide_eq_true hq0
            have hqt : ((j : Int).tmod 5 == 0) = true := by rw [beq_dec]; exact decide_eq_true (by rw [Int.tmod_eq_emod_of_nonneg (by omega)]; exact hq0)
            go_wp2_with fail
            refine (unhide HCALL2).mono ?_
            rintro e w4 ⟨rfl, hI4⟩
            have HI4 := hide hI4
            clear hI4
            go_wp2
            go_roundw
            case rel => exact ⟨rfl, d + 1, by omega, by go_num, (unhide HI4).weak (by omega) (Nat.le_refl _)⟩
            case measure => simp [intOf]; omega
          · have hqb : ((j : Int) % 5 == 0) = false := by rw [beq_dec]; exact decide_eq_false hq0
            have hqt : ((j : Int).tmod 5 == 0) = false := by rw [beq_dec]; exact decide_eq_false (by rw [Int.tmod_eq_emod_of_nonneg (by omega)]; exact hq0)
            go_wp2
            go_roundw
            case rel => exact ⟨rfl, j + 1, by omega, by go_num, unhide REL⟩
            case measure => simp [intOf]; omega
        · have hd5 : d = 4 := by omega
          subst hd5
          go_wp2
          go_roundw
          case rel => exact ⟨rfl, j + 1, by omega, by go_num, unhide REL⟩
          case measure => simp [intOf]; omega
    · have hj5 : j = sn := by omega
      subst hj5
      go_wp2_with fail
      go_loopw [6, 9] (fun o i wr => o = .bool true ∧ ∃ d : Nat, d ≤ 4 ∧ i = int d ∧ Inn hb b κ ρ w1 (j * 12100 + d * 8) j wr) (fun _ i _ => 4 - (intOf i).toNat)
      case atStart => exact ⟨rfl, 0, by omega, rfl, unhide HI⟩
      case round =>
        obtain ⟨rfl, d, hd, rfl, hI3⟩ := hrel
        have HI3 := hide hI3
        clear hI3
        by_cases hd4 : d < 4
        · have hdi : (d : Int) < 4 := by omega
          have HCALL2 := hide ((unhide HI3).read (by omega) (by omega) hd4)
          go_wp2_with fail
          refine (unhide HCALL2).mono ?_
          rintro e w4 ⟨rfl, hI4⟩
          have HI4 := hide hI4
          clear hI4
          go_wp2
          go_roundw
          case rel => exact ⟨rfl, d + 1, by omega, by go_num, (unhide HI4).weak (by omega) (Nat.le_refl _)⟩
          case measure => simp [intOf]; omega
        · have hd5 : d = 4 := by omega
          subst hd5
          go_wp2
          go_ret
          exact ⟨rfl, (unhide HI3).low (unhide HT1) (unhide HLOW)⟩

set_option maxRecDepth 100000 in
theorem once_contract (H : Type) (enc : TypeId × Value → H) (W : World) (base : Nat) (args : Array Value) (ds gs : List (DataW H)) (before : List MemPlace)
    (hval0 : ∀ (j : Nat) t v, Try.f5.params[j]? = some t → args[j]? = some v → Value.okWide Try.prog W .any base t v)
    (hW : DataW.Whole enc Try.prog Try.f5.params.toList Rows.onceSpec.vars false W args.toList ds gs before) (hk : Rows.uptoSmall H (ds ++ gs) = true) :
    Calls Try.prog 5 args W fun e W' => ∃ v, e = .returned v ∧ Rows.onceSpec.post enc Try.prog Try.f5 false true false false W args v W' := by
  have hval := hval0
  have hW' := hW
  obtain ⟨p, q, hA0, hV, rfl, _, _⟩ := hW
  have hA : DataW.TrodAll enc Try.prog W 0 (fun _ => true) true Try.f5.params.toList args.toList ds p := hA0
  rw [Try.params5] at hA hval
  clear hA0 hval0
  obtain ⟨v0, r0, d0, e0, p0, q0, ha0, rfl, rfl, h0, hA⟩ := trodAll_cons hA
  obtain ⟨v1, r1, d1, e1, p1, q1, rfl, rfl, rfl, h1, hA⟩ := trodAll_cons hA
  obtain ⟨rfl, rfl, rfl⟩ := trodAll_nil hA
  obtain rfl : args = #[v0, v1] := by cases args; simp_all
  obtain ⟨rfl, rfl⟩ := trodVars_none hV
  simp only [List.append_nil] at hW' hk
  have hlt : ∀ x ∈ p0 ++ p1, x.block < W.heap.size := fun x hx => by simpa using hW'.lt x hx
  have hlt0 : ∀ x ∈ p0, x.block < W.heap.size := fun x hx => hlt x (by simp [hx])
  have hlt1 : ∀ x ∈ p1, x.block < W.heap.size := fun x hx => hlt x (by simp [hx])
  obtain ⟨a0, n0, c0, rfl⟩ := okWide_slice Try.underlying22 (hval 0 22 v0 rfl rfl)
  obtain ⟨a1, n1, c1, rfl⟩ := okWide_slice Try.underlying52 (hval 1 52 v1 rfl rfl)
  have k0 := h0
  have k1 := h1
  obtain ⟨f0, h0⟩ := h0
  obtain ⟨f1, h1⟩ := h1
  obtain ⟨_, _, _, g0, e, hr0, hm0⟩ := list_open h0
  cases e
  obtain ⟨hacts, hd⟩ := script_open h1
  have hn1 : n1 ≤ 1048576 := by
    rcases hd with ⟨_, h⟩ | ⟨elems, spare, h, hl⟩
    · omega
    · rw [← hl]; exact bulk_slice (spare := spare) hk (by simp [h])
  refine (once_any a0 n0 c0 g0 a1 n1 c1 W hr0 hm0 hacts hn1).mono fun e W' ⟨he, hb0⟩ => ?_
  subst he
  have hb : Below W.heap.size W W' := hb0.below (Nat.le_refl _) (fun _ f => f.elim)
  refine ⟨_, rfl, _, _, _, [], p0 ++ (p1 ++ []), [], hW', ?_, ?_, rfl, hb.frame _, fun h => by cases h⟩
  · exact trodAll_cons_mk (shut_bool Try.underlying4 true) trodAll_mk0
  · exact trodAll_cons_mk (Below.trod Try.laidOut (by kernel_rfl) (of_decide_eq_true (by kernel_rfl)) k0 hb hlt0)
      (trodAll_cons_mk (Below.trod Try.laidOut (by kernel_rfl) (of_decide_eq_true (by kernel_rfl)) k1 hb hlt1) trodAll_mk0)

set_option maxRecDepth 100000 in
theorem once_lifted (os : Os) (started : os.Started) (H : Type) (enc : TypeId × Value → H) (F : Stop.Interp) :
    ReturnsInHanded {} Try.checked os 5 .any ((Rows.OpenSpec.upto Rows.onceSpec).pre6 enc Try.prog Try.f5 Rows.onceUptoRow.domain false) (((Rows.OpenSpec.upto Rows.onceSpec).at F).post enc Try.prog Try.f5 false true false false) := by
  refine returnsInHanded_of_cond (C := Try.checked) (s := Rows.OpenSpec.upto Rows.onceSpec) (k := Rows.uptoSmall) rfl Try.own started (by kernel_rfl) Try.func5
    (OpenSpec.witness (enc := enc) (C := Try.checked) (s := Rows.OpenSpec.upto Rows.onceSpec) (k := Rows.uptoSmall) rfl false ⟨#[], #[.slice none 0 0, .slice none 0 0], []⟩ 8 (by kernel_rfl) (by kernel_rfl) (by kernel_rfl)
      (x := ([.nil, .nil], [], [])) (by kernel_rfl) rfl (by kernel_rfl)) ?_
  intro W base args ds gs before hval hW _ hk _
  exact once_contract H enc W base args ds gs before hval hW hk

/-- THE STATEMENT. -/
theorem once_holds : Rows.OnceUptoSaid :=
  OpenClaim.holds_of_cond 5 Try.f5 rfl rfl rfl rfl rfl rfl rfl ⟨rfl, rfl, rfl, rfl, rfl⟩ rfl rfl rfl rfl rfl (by kernel_rfl) Try.func5 (by kernel_rfl)
    (of_decide_eq_true (by kernel_rfl)) (by unfold Func.isWrapper; first | (rw [if_pos (by decide +kernel)]; kernel_rfl) | (rw [if_neg (by decide +kernel)]; exact ⟨rfl, rfl⟩))
    (fun os started H enc _ F => once_lifted os started H enc F)

#print axioms once_holds

end Go.Proofs.Ytodfcpblcpogiaa

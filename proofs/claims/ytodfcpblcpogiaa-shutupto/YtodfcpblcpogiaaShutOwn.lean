/-
  The statement roverkeep.Shut is proved in its second form: for every tree and script, made out of any numbers, the call returns true, and what was handed in reads behind the call as it read before.
  Its condition: what is read is of bulk at most 1048576.
-/
import Derived.Test.YtodfcpblcpogiaaInn
import Derived.Test.YtodfcpblcpogiaaOpen
import Derived.JoinedCond
import Derived.Test.YtodfcpblcpogiaaBools
namespace Go.Proofs.Ytodfcpblcpogiaa
open Go.ChangeShapes Go.WideShapes Go.ChangeAt Go.RowKit
open Go.RowKit

theorem act_cells : Try.prog.cellsOf 54 = 7 := by kernel_rfl

theorem bulk_pos {H : Type} (d : DataW H) : 0 < Rows.uptoBulk d := by
  cases d
  case lit l => cases l <;> exact Nat.succ_pos _
  all_goals (rw [Rows.uptoBulk]; omega)
theorem bulk_len {H : Type} : ∀ l : List (DataW H), l.length ≤ Rows.uptoBulkAll l
  | [] => Nat.zero_le _
  | d :: l => by
    have h1 := bulk_pos d
    have h2 := bulk_len l
    rw [Rows.uptoBulkAll, List.length_cons]
    omega
/-- A slice of at most so many. -/
theorem bulk_slice {H : Type} {ds : List (DataW H)} (hk : Rows.uptoSmall H ds = true) {elems spare : List (DataW H)} (hm : DataW.slice elems spare ∈ ds) : elems.length ≤ 1048576 := by
  have hb : Rows.uptoBulkAll ds ≤ 1048576 := of_decide_eq_true hk
  have hin : ∀ l : List (DataW H), DataW.slice elems spare ∈ l → Rows.uptoBulk (DataW.slice elems spare) ≤ Rows.uptoBulkAll l := by
    intro l
    induction l with
    | nil => intro h; cases h
    | cons x l ih =>
      intro h
      rw [Rows.uptoBulkAll]
      rcases List.mem_cons.1 h with rfl | h
      · omega
      · have := ih h; omega
  have h1 := hin ds hm
  have h2 := bulk_len elems
  rw [Rows.uptoBulk] at h1
  omega

section
variable {H : Type} {enc : TypeId × Value → H} {W : World}

set_option maxRecDepth 100000 in
/-- A step of a script, opened. -/
theorem actOf {fuel : Nat} {cs : List Value} {x : DataW H × List MemPlace} (h : DataW.trod enc Try.prog W 0 (fun _ => true) true fuel 54 cs = some x) :
    ∃ K C Z y0 y1 y2 la ln lc f, cs = [.int .i64 K, .int .i64 C, .int .i64 Z, .int .i64 y0, .int .i64 y1, .int .i64 y2, .slice la ln lc] ∧ (Fits K ∧ Fits C ∧ Fits Z) ∧ RawAt W la ln f ∧ ln ≤ maxLen := by
  obtain ⟨xs, n, _, hx, hlen, hxl, hf⟩ := DataW.trod_struct Try.underlying54 h
  rw [act_cells] at hlen
  have hxl : xs.length = 5 := hxl
  match cs, hlen with
  | [v0, v1, v2, v3, v4, v5, v6], _ =>
  match xs, hxl with
  | [x0, x1, x2, x3, x4], _ =>
  have f0 : DataW.trod enc Try.prog W 0 (fun _ => true) true n 3 [v0] = some x0 := by have := hf 0 _ rfl; simpa [Try.cells3] using this
  have f1 : DataW.trod enc Try.prog W 0 (fun _ => true) true n 3 [v1] = some x1 := by have := hf 1 _ rfl; simpa [Try.cells3] using this
  have f2 : DataW.trod enc Try.prog W 0 (fun _ => true) true n 3 [v2] = some x2 := by have := hf 2 _ rfl; simpa [Try.cells3] using this
  have f3 : DataW.trod enc Try.prog W 0 (fun _ => true) true n 23 [v3, v4, v5] = some x3 := by have := hf 3 _ rfl; simpa [Try.cells23] using this
  have f4 : DataW.trod enc Try.prog W 0 (fun _ => true) true n 22 [v6] = some x4 := by have := hf 4 _ rfl; simpa [Try.cells22] using this
  obtain ⟨K, rfl, hK⟩ := int_open f0
  obtain ⟨C, rfl, hC⟩ := int_open f1
  obtain ⟨Z, rfl, hZ⟩ := int_open f2
  obtain ⟨y0, y1, y2, e⟩ := three_open f3
  cases e
  obtain ⟨la, ln, lc, f, rfl, hr, hm⟩ := list_open f4
  exact ⟨K, C, Z, y0, y1, y2, la, ln, lc, f, rfl, ⟨hK, hC, hZ⟩, hr, hm⟩

set_option maxRecDepth 100000 in
/-- A script, opened: acts, and how many. -/
theorem script_open {fuel : Nat} {a3 : Option Addr} {len c3 : Nat} {d : DataW H} {p : List MemPlace} (h3 : DataW.trod enc Try.prog W 0 (fun _ => true) true fuel 52 [.slice a3 len c3] = some (d, p)) :
    ActsAt W a3 len ∧ ((d = .nil ∧ len = 0) ∨ ∃ elems spare, d = .slice elems spare ∧ elems.length = len) := by
  rcases Deep.open_slice Try.underlying52 h3 with ⟨hcs, hx⟩ | ⟨a, len', cap', m, n, D, Pl, hcs, _, hl, hm, hmm, hx, hel⟩
  · simp at hcs
    obtain ⟨rfl, rfl, rfl⟩ := hcs
    simp only [Prod.mk.injEq] at hx
    exact ⟨fun i hi => by omega, Or.inl ⟨hx.1, rfl⟩⟩
  · simp at hcs
    obtain ⟨rfl, rfl, rfl⟩ := hcs
    simp only [Prod.mk.injEq] at hx
    simp only [if_true] at hmm
    refine ⟨fun i hi => ?_, Or.inr ⟨_, _, hx.1, by simp⟩⟩
    obtain ⟨cs', hcells, htr⟩ := hel i (by omega)
    obtain ⟨K, C, Z, y0, y1, y2, la, ln, lc, f, rfl, hK, hr, hln⟩ := actOf htr
    obtain ⟨_, _, hcell⟩ := World.cells?_some hcells
    rw [act_cells] at hcell
    obtain ⟨b, off, spot⟩ := a
    have hspot : spot = none := by
      obtain ⟨cs0, hcells0, htr0⟩ := hel 0 (by omega)
      obtain ⟨_, _, hcell0⟩ := World.cells?_some hcells0
      rw [act_cells] at hcell0
      obtain ⟨K0, C0, Z0, y00, y10, y20, la0, ln0, lc0, f0, rfl, _⟩ := actOf htr0
      have h9 := World.cell?_spot (hcell0 0 (by omega))
      simpa [Addr.add] using h9
    subst hspot
    have hc : ∀ j u, j < 7 → [Value.int .i64 K, .int .i64 C, .int .i64 Z, .int .i64 y0, .int .i64 y1, .int .i64 y2, .slice la ln lc][j]? = some u → W.cell? ⟨b, off + i * 7 + j, none⟩ = some u := fun j u hj hu => by
      have := hcell j hj
      rw [Deep.add_add, add_plain, ← Nat.add_assoc] at this
      exact this.trans hu
    exact ⟨b, off, K, C, Z, y0, y1, y2, la, ln, lc, f, rfl, hc 0 _ (by omega) rfl, hc 1 _ (by omega) rfl, hc 2 _ (by omega) rfl, hc 3 _ (by omega) rfl, hc 4 _ (by omega) rfl, hc 5 _ (by omega) rfl, hc 6 _ (by omega) rfl, hK, hr, hln⟩
end

set_option maxRecDepth 100000 in
set_option maxHeartbeats 4000000 in
theorem shut_any (ra : Option Addr) (rn rc : Nat) (f : Nat → Int) (sa : Option Addr) (sn sc : Nat) (w : World) (hr : RawAt w ra rn f) (hrn : rn ≤ maxLen) (hs : ActsAt w sa sn) (hsn : sn ≤ 1048576) :
    Calls Try.prog 8 #[.slice ra rn rc, .slice sa sn sc] w fun e w' => e = .returned (.bool true) ∧ Calm w w' := by
  have T : Tree (treeP f (min rn 5)) := treeP_tree f _ (by omega)
  have TT := hide T
  have HR := hide hr
  have HRN := hide hrn
  have HS := hide hs
  have hsnI : (sn : Int) ≤ 1048576 := by omega
  clear T hr hrn hs
  go_enter Try.func8, Try.ntmps8
  go_wp2_with fail
  refine (houseX ra rn rc f _ (unhide HRN) (unhide HR)).mono ?_
  rintro e w1 ⟨hb, b, κ, ρ, rfl, hN1, hlow1, ht1⟩
  have HI1 := hide (Inn.new (unhide TT) hN1)
  have HLOW : Hid (∀ k, k < w.heap.size → ¬ (κ k ≠ none ∨ ρ k ≠ none)) := fun k hk hr => by
    have := hlow1 k hr
    omega
  have HT1 := hide ht1
  clear hN1 hlow1 ht1
  go_wp2_with fail
  go_loopw [6, 7] (fun o i wr => o = .bool true ∧ ∃ j : Nat, j ≤ sn ∧ i = int j ∧ Inn hb b κ ρ w1 (j * 12100) j wr) (fun _ i _ => sn - (intOf i).toNat)
  case atStart => exact ⟨rfl, 0, by omega, rfl, unhide HI1⟩
  case round =>
    obtain ⟨rfl, j, hj, rfl, hI⟩ := hrel
    obtain ⟨wq, hwq⟩ : ∃ wq, wq = wr := ⟨_, rfl⟩
    subst hwq
    have HI := hide hI
    clear hI HI1
    by_cases hjs : j < sn
    · obtain ⟨sb, so, K, C, Z, y0, y1, y2, la, ln, lc, fr, rfl, k0, k1, k2, k3, k4, k5, k6, hfits, hraw, hln⟩ := unhide HS j hjs
      have cal := (unhide HI).low (unhide HT1) (unhide HLOW)
      have c0 := cal.cell (p := ⟨sb, _, none⟩) (fun f => f) k0
      have c1 := cal.cell (p := ⟨sb, _, none⟩) (fun f => f) k1
      have c2 := cal.cell (p := ⟨sb, _, none⟩) (fun f => f) k2
      have c3 := cal.cell (p := ⟨sb, _, none⟩) (fun f => f) k3
      have c4 := cal.cell (p := ⟨sb, _, none⟩) (fun f => f) k4
      have c5 := cal.cell (p := ⟨sb, _, none⟩) (fun f => f) k5
      have c6 := cal.cell (p := ⟨sb, _, none⟩) (fun f => f) k6
      have hji : (j : Int) < sn := by omega
      have HCALL := hide ((unhide HI).act (unhide HT1) (unhide HLOW) (by omega) (by omega) hfits y0 y1 y2 (lc := lc) hraw hln)
      clear k0 k1 k2 k3 k4 k5 k6 cal hfits hraw hln
      go_wp2_with fail
      refine (unhide HCALL).mono ?_
      rintro e w2 ⟨rfl, hI2⟩
      have HI2 := hide hI2
      clear hI2 c0 c1 c2 c3 c4 c5 c6
      go_wp2
      go_roundw
      case rel => exact ⟨rfl, j + 1, by omega, by go_num, (unhide HI2).weak (by omega) (Nat.le_refl _)⟩
      case measure => simp [intOf]; omega
    · have hj5 : j = sn := by omega
      subst hj5
      obtain ⟨κ2, ρ2, E2, G2, σ, H2, hN2, hB2, hF2, hE2, hO2⟩ := unhide HI
      have hnet := hN2.h.net
      have HN2 := hide hN2
      have HF2 := hide hF2
      have HOP := hide hB2.core.opn
      have HO2 := hide hO2
      have hwt := hF2.waiting
      have HKR : Hid (κ2 hb ≠ none ∧ ρ2 hb = none) := ⟨by rw [hN2.h.house]; simp, hN2.apart hb (by rw [hN2.h.house]; simp)⟩
      clear hN2 hB2 hF2 hE2 hO2 HI
      go_wp2_with fail
      refine (pendingX (unhide HN2).x (unhide HF2).len).mono ?_
      rintro e w3 ⟨v, rfl, hL, ht3⟩
      obtain ⟨pa, pc, rfl, hcells⟩ := links_at hL
      have hpl := pending_len (unhide HOP)
      have hsum := pend_sum σ (unhide HOP)
      have HC3 := hide hcells
      have HT3 := hide ht3
      have HSUM := hide hsum
      have hnet3 := ht3.cell (p := ⟨hb, 0, none⟩) (fun f => f) hnet
      have hlenI : (σ.pending.length : Int) ≤ 36 := by omega
      clear hL hcells ht3 hsum hnet
      have hmle : ∀ k, manyTo σ.pending k ≤ σ.waiting := fun k => by
        rw [← unhide HSUM]
        unfold manyTo
        rw [List.map_take]
        conv => rhs; rw [← List.take_append_drop k (σ.pending.map (·.many))]
        rw [List.sum_append]
        omega
      have HMLE := hide hmle
      clear hmle
      go_wp2_with fail
      go_loopw [9, 10] (fun s i wr => wr = w3 ∧ ∃ k : Nat, k ≤ σ.pending.length ∧ i = int k ∧ s = int (manyTo σ.pending k)) (fun _ i _ => σ.pending.length - (intOf i).toNat)
      case atStart => exact ⟨rfl, 0, by omega, rfl, rfl⟩
      case round =>
        obtain ⟨hwr, k, hk, rfl, rfl⟩ := hrel
        have hwr := hwr.symm
        subst hwr
        by_cases hkl : k < σ.pending.length
        · obtain ⟨lk, hlk⟩ : ∃ lk, σ.pending[k]? = some lk := ⟨_, List.getElem?_eq_getElem hkl⟩
          obtain ⟨g, rfl, c0, c1, c2⟩ := unhide HC3 k lk hlk
          have hki : (k : Int) < σ.pending.length := by omega
          have hms := manyTo_succ hlk
          have h1 := unhide HMLE k
          have h2 := unhide HMLE (k + 1)
          rw [hms] at h2
          have hwI : (σ.waiting : Int) < 1000000 := by omega
          have h3 : ((manyTo σ.pending k : Nat) : Int) + (lk.many : Int) < 1000000 := by omega
          have HMS := hide hms
          clear hlk hms h1 h2
          go_wp2
          go_roundw
          case rel => exact ⟨by first | rfl | trivial, k + 1, by omega, by go_num, by rw [unhide HMS]; go_num⟩
          case measure => simp [intOf]; omega
        · have hk5 : k = σ.pending.length := by omega
          subst hk5
          have hmt : manyTo σ.pending σ.pending.length = σ.waiting := by rw [← unhide HSUM]; unfold manyTo; rw [List.take_length]
          rw [hmt]
          clear hmt hlenI hpl HC3
          go_wp2_with fail
          refine (closeX ((unhide HN2).calm (unhide HT3)).x (unhide HF2).len).mono ?_
          rintro e w4 ⟨rfl, hx4, ht4⟩
          have hnet4 : w4.cell? ⟨hb, 0, none⟩ = some (ptr b) := ht4.cell (p := ⟨hb, 0, none⟩) (fun h => h (unhide HKR).2) hnet3
          have HX4 := hide hx4
          have HC4 : Hid (Calm w w4) := by
            have h1 : Calm w w3 := (Touch.fresh (unhide HT1) (unhide HO2).touch (unhide HLOW)).calm (unhide HT3)
            refine Touch.fresh h1 ht4 ?_
            intro k hk hr
            have hkl : k < w1.heap.size := Nat.lt_of_lt_of_le hk (unhide HT1).size
            have h2 := (unhide HO2).role k hkl
            exact unhide HLOW k hk (Or.inr (fun e => hr (h2.2.2 e)))
          clear hx4 ht4 hnet3
          go_wp2_with fail
          refine (closeZ (unhide HX4)).mono ?_
          rintro e w5 ⟨rfl, ht5⟩
          have hnet5 := ht5.cell (p := ⟨hb, 0, none⟩) (fun f => f) hnet4
          have HX5 := hide ((unhide HX4).calm ht5)
          have HC5 := hide ((unhide HC4).calm ht5)
          clear ht5 hnet4 HX4 HC4
          go_wp2_with fail
          refine (attachZ (unhide HX5) 0 0).mono ?_
          rintro e w6 ⟨rfl, ht6⟩
          have hnet6 := ht6.cell (p := ⟨hb, 0, none⟩) (fun f => f) hnet5
          have HX6 := hide ((unhide HX5).calm ht6)
          have HC6 := hide ((unhide HC5).calm ht6)
          clear ht6 hnet5 HX5 HC5
          go_wp2_with fail
          refine (detachZ (unhide HX6) 1).mono ?_
          rintro e w7 ⟨rfl, ht7⟩
          have hnet7 := ht7.cell (p := ⟨hb, 0, none⟩) (fun f => f) hnet6
          have HX7 := hide ((unhide HX6).calm ht7)
          have HC7 := hide ((unhide HC6).calm ht7)
          clear ht7 hnet6 HX6 HC6
          go_wp2_with fail
          refine (subscribeZ (unhide HX7) 2 (l := []) rfl (a := none) (Or.inl rfl) 0).mono ?_
          rintro e w8 ⟨rfl, ht8⟩
          have hnet8 := ht8.cell (p := ⟨hb, 0, none⟩) (fun f => f) hnet7
          have HX8 := hide ((unhide HX7).calm ht8)
          have HC8 := hide ((unhide HC7).calm ht8)
          clear ht8 hnet7 HX7 HC7
          go_wp2_with fail
          refine (unsubZ (unhide HX8) 3 0).mono ?_
          rintro e w9 ⟨rfl, ht9⟩
          have hnet9 := ht9.cell (p := ⟨hb, 0, none⟩) (fun f => f) hnet8
          have HX9 := hide ((unhide HX8).calm ht9)
          have HC9 := hide ((unhide HC8).calm ht9)
          clear ht9 hnet8 HX8 HC8
          go_wp2_with fail
          refine (publishZ (unhide HX9) 0 1 2 3).mono ?_
          rintro e w10 ⟨rfl, ht10⟩
          have hnet10 := ht10.cell (p := ⟨hb, 0, none⟩) (fun f => f) hnet9
          have HX10 := hide ((unhide HX9).calm ht10)
          have HC10 := hide ((unhide HC9).calm ht10)
          clear ht10 hnet9 HX9 HC9
          go_wp2_with fail
          refine (deliverZ (unhide HX10) 0 1).mono ?_
          rintro e w11 ⟨rfl, ht11⟩
          have hnet11 := ht11.cell (p := ⟨hb, 0, none⟩) (fun f => f) hnet10
          have HX11 := hide ((unhide HX10).calm ht11)
          have HC11 := hide ((unhide HC10).calm ht11)
          clear ht11 hnet10 HX10 HC10
          go_wp2_with fail
          refine (logZ (unhide HX11) 0).mono ?_
          rintro e w12 ⟨rfl, ht12⟩
          have hnet12 := ht12.cell (p := ⟨hb, 0, none⟩) (fun f => f) hnet11
          have HX12 := hide ((unhide HX11).calm ht12)
          have HC12 := hide ((unhide HC11).calm ht12)
          clear ht12 hnet11 HX11 HC11
          go_wp2_with fail
          refine (lookZ (unhide HX12) 0).mono ?_
          rintro e w13 ⟨rfl, ht13⟩
          have hnet13 := ht13.cell (p := ⟨hb, 0, none⟩) (fun f => f) hnet12
          have hcal : Calm w13 (w13.alloc (.cells #[int 0, int 0, .bool false, .bool false, .bool false] 72)) := (Touch.refl _ _).alloc _
          have hbx : (w13.alloc (.cells #[int 0, int 0, .bool false, .bool false, .bool false] 72)).heap[w13.heap.size]? = some (.cells #[int 0, int 0, .bool false, .bool false, .bool false] 72) := heap_alloc_new _ _
          have hbl13 : hb < w13.heap.size := block_lt_of_cell hnet13
          have HX13 := hide (((unhide HX12).calm ht13).calm hcal)
          have HC13 := hide (((unhide HC12).calm ht13).calm hcal)
          have HBX := hide hbx
          clear ht13 hnet12 HX12 HC12 hcal hbx
          go_wp2_with fail
          refine (pendingZ (unhide HX13)).mono ?_
          rintro e w14 ⟨rfl, ht14⟩
          have bx : ∀ j v, [int 0, int 0, .bool false, .bool false, .bool false][j]? = some v → w14.cell? ⟨w13.heap.size, j, none⟩ = some v := fun j v hj => ht14.cell (p := ⟨w13.heap.size, j, none⟩) (fun f => f) ((box_cell (unhide HBX) j).trans (by simpa using hj))
          have b0 := bx 0 _ rfl
          have b1 := bx 1 _ rfl
          have b2 := bx 2 _ rfl
          have b3 := bx 3 _ rfl
          have b4 := bx 4 _ rfl
          have HC14 := hide ((unhide HC13).calm ht14)
          clear ht14 bx hnet13 HX13 HC13
          have heq := run_equal70b
          go_wp2
          go_ret
          exact ⟨rfl, unhide HC14⟩

set_option maxRecDepth 100000 in
theorem shut_contract (H : Type) (enc : TypeId × Value → H) (W : World) (base : Nat) (args : Array Value) (ds gs : List (DataW H)) (before : List MemPlace)
    (hval0 : ∀ (j : Nat) t v, Try.f8.params[j]? = some t → args[j]? = some v → Value.okWide Try.prog W .any base t v)
    (hW : DataW.Whole enc Try.prog Try.f8.params.toList Rows.shutSpec.vars false W args.toList ds gs before) (hk : Rows.uptoSmall H (ds ++ gs) = true) :
    Calls Try.prog 8 args W fun e W' => ∃ v, e = .returned v ∧ Rows.shutSpec.post enc Try.prog Try.f8 false true false false W args v W' := by
  have hval := hval0
  have hW' := hW
  obtain ⟨p, q, hA0, hV, rfl, _, _⟩ := hW
  have hA : DataW.TrodAll enc Try.prog W 0 (fun _ => true) true Try.f8.params.toList args.toList ds p := hA0
  rw [Try.params8] at hA hval
  clear hA0 hval0
  obtain ⟨v0, r0, d0, e0, p0, q0, ha0, rfl, rfl, h0, hA⟩ := trodAll_cons hA
  obtain ⟨v1, r1, d1, e1, p1, q1, rfl, rfl, rfl, h1, hA⟩ := trodAll_cons hA
  obtain ⟨rfl, rfl, rfl⟩ := trodAll_nil hA
  obtain rfl : args = #[v0, v1] := by cases args; simp_all
  obtain ⟨rfl, rfl⟩ := trodVars_none hV
  simp only [List.append_nil] at hW' hk
  have hlt : ∀ x ∈ p0 ++ p1, x.block < W.heap.size := fun x hx => by simpa using hW'.lt x hx
  have hlt0 : ∀ x ∈ p0, x.block < W.heap.size := fun x hx => hlt x (by simp [hx])
  have hlt1 : ∀ x ∈ p1, x.block < W.heap.size := fun x hx => hlt x (by simp [hx])
  obtain ⟨a0, n0, c0, rfl⟩ := okWide_slice Try.underlying22 (hval 0 22 v0 rfl rfl)
  obtain ⟨a1, n1, c1, rfl⟩ := okWide_slice Try.underlying52 (hval 1 52 v1 rfl rfl)
  have k0 := h0
  have k1 := h1
  obtain ⟨f0, h0⟩ := h0
  obtain ⟨f1, h1⟩ := h1
  obtain ⟨_, _, _, g0, e, hr0, hm0⟩ := list_open h0
  cases e
  obtain ⟨hacts, hd⟩ := script_open h1
  have hn1 : n1 ≤ 1048576 := by
    rcases hd with ⟨_, h⟩ | ⟨elems, spare, h, hl⟩
    · omega
    · rw [← hl]; exact bulk_slice (spare := spare) hk (by simp [h])
  refine (shut_any a0 n0 c0 g0 a1 n1 c1 W hr0 hm0 hacts hn1).mono fun e W' ⟨he, hb0⟩ => ?_
  subst he
  have hb : Below W.heap.size W W' := hb0.below (Nat.le_refl _) (fun _ f => f.elim)
  refine ⟨_, rfl, _, _, _, [], p0 ++ (p1 ++ []), [], hW', ?_, ?_, rfl, hb.frame _, fun h => by cases h⟩
  · exact trodAll_cons_mk (shut_bool Try.underlying4 true) trodAll_mk0
  · exact trodAll_cons_mk (Below.trod Try.laidOut (by kernel_rfl) (of_decide_eq_true (by kernel_rfl)) k0 hb hlt0)
      (trodAll_cons_mk (Below.trod Try.laidOut (by kernel_rfl) (of_decide_eq_true (by kernel_rfl)) k1 hb hlt1) trodAll_mk0)

set_option maxRecDepth 100000 in
theorem shut_lifted (os : Os) (started : os.Started) (H : Type) (enc : TypeId × Value → H) (F : Stop.Interp) :
    ReturnsInHanded {} Try.checked os 8 .any ((Rows.OpenSpec.upto Rows.shutSpec).pre6 enc Try.prog Try.f8 Rows.shutUptoRow.domain false) (((Rows.OpenSpec.upto Rows.shutSpec).at F).post enc Try.prog Try.f8 false true false false) := by
  refine returnsInHanded_of_cond (C := Try.checked) (s := Rows.OpenSpec.upto Rows.shutSpec) (k := Rows.uptoSmall) rfl Try.own started (by kernel_rfl) Try.func8
    (OpenSpec.witness (enc := enc) (C := Try.checked) (s := Rows.OpenSpec.upto Rows.shutSpec) (k := Rows.uptoSmall) rfl false ⟨#[], #[.slice none 0 0, .slice none 0 0], []⟩ 8 (by kernel_rfl) (by kernel_rfl) (by kernel_rfl)
      (x := ([.nil, .nil], [], [])) (by kernel_rfl) rfl (by kernel_rfl)) ?_
  intro W base args ds gs before hval hW _ hk _
  exact shut_contract H enc W base args ds gs before hval hW hk

/-- THE STATEMENT. -/
theorem shut_holds : Rows.ShutUptoSaid :=
  OpenClaim.holds_of_cond 8 Try.f8 rfl rfl rfl rfl rfl rfl rfl ⟨rfl, rfl, rfl, rfl, rfl⟩ rfl rfl rfl rfl rfl (by kernel_rfl) Try.func8 (by kernel_rfl)
    (of_decide_eq_true (by kernel_rfl)) (by unfold Func.isWrapper; first | (rw [if_pos (by decide +kernel)]; kernel_rfl) | (rw [if_neg (by decide +kernel)]; exact ⟨rfl, rfl⟩))
    (fun os started H enc _ F => shut_lifted os started H enc F)

#print axioms shut_holds

end Go.Proofs.Ytodfcpblcpogiaa

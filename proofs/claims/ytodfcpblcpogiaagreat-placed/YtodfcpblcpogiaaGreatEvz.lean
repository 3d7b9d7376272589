/-
  An event is handled by a broker that knows no subscription.
-/
import Derived.Test.YtodfcpblcpogiaaGreatNetX
import Derived.RangeFuncNested
import Derived.RangeFuncBound
import Derived.RangeFuncCalls
import Derived.RangeFuncLeaves
import Derived.RangeFuncWrites
import Derived.Shelf.Abstract
import Derived.Shelf.RegionOpen
import Derived.OwnWalkIn
import Derived.TacticsInMore
import Derived.LoopNIn
import Derived.LoopIn
namespace Go.Proofs.YtodfcpblcpogiaaGreat
open Go.RowKit Go.Shelf
attribute [local go_sem] Oper.semAt_some

abbrev int (z : Int) : Value := .int .i64 z
abbrev ptr (b : Nat) : Value := .pointer (some ⟨b, 0, none⟩)

theorem cell_of_heap {w w' : World} {k o : Nat} {v : Value} (h : w'.heap[k]? = w.heap[k]?) (hc : w.cell? ⟨k, o, none⟩ = some v) : w'.cell? ⟨k, o, none⟩ = some v :=
  (World.cell?_of_block (w := w) h).trans hc

theorem info95 : (Tryz.prog.info? 95).map (·.size) = some 2 := by kernel_rfl
theorem info94 : (Tryz.prog.info? 94).map (·.size) = some 1 := by kernel_rfl
abbrev eight (v : Value) : Value := .agg #[v, v, v, v, v, v, v, v]
theorem idx96 (v : Value) (c : Nat) (hc : c < 4) (w : World) : (Instr.index 96 (eight v) (.int .i64 c)).run Tryz.prog w = .ok (.agg #[v, v]) w := by
  have h1 : (0 : Int) ≤ c ∧ (c : Int) < (4 : Nat) := by omega
  obtain rfl | rfl | rfl | rfl : c = 0 ∨ c = 1 ∨ c = 2 ∨ c = 3 := by omega
  all_goals simp [eight, Instr.index, asIntOf, Sem.run_bind, run_underlying Tryz.underlying96, part, isAgg, run_underlying Tryz.underlying95, size_of info95]
theorem idx95 (v : Value) (k : Nat) (hk : k < 2) (w : World) : (Instr.index 95 (.agg #[v, v]) (.int .i64 k)).run Tryz.prog w = .ok v w := by
  obtain rfl | rfl : k = 0 ∨ k = 1 := by omega
  all_goals simp [Instr.index, asIntOf, Sem.run_bind, run_underlying Tryz.underlying95, part, isAgg, run_underlying Tryz.underlying94, size_of info94]
theorem info4 : (Tryz.prog.info? 4).map (·.size) = some 1 := by kernel_rfl
theorem idx162 (v : Value) (k : Nat) (hk : k < 6) (w : World) : (Instr.index 162 (.agg #[v, v, v, v, v, v]) (.int .i64 k)).run Tryz.prog w = .ok v w := by
  obtain rfl | rfl | rfl | rfl | rfl | rfl : k = 0 ∨ k = 1 ∨ k = 2 ∨ k = 3 ∨ k = 4 ∨ k = 5 := by omega
  all_goals simp [Instr.index, asIntOf, Sem.run_bind, run_underlying Tryz.underlying162, part, isAgg, run_underlying Tryz.underlying4, size_of info4]

theorem grown_calm {w w' : World} (h : Calm w w') : w.grownBy w' none := ⟨h.os, h.tape, h.output, h.size, fun k hk _ => h.block k hk (fun f => f)⟩

/-- None. -/
abbrev A0 := { a : Nat // a < 0 }

set_option maxRecDepth 100000 in
set_option maxHeartbeats 2000000 in
theorem wanting0_in (n : Nat) (l b o B1 B2 : Nat) (J Jx : List A0 → World → Prop)
    (W : World) (hA : AbidesFrom W.heap.size J) (h1 : W.cell? ⟨B1, 0, none⟩ = some (.pointer (some ⟨b, o, none⟩))) (hS : ∀ s, s < 8 → W.cell? ⟨b, o + s, none⟩ = some (.pointer none)) (h0 : J [] W) :
    CallsIn Fence.wide n Tryz.prog 121 #[.func (.yield l) #[] #[], ptr B1, ptr B2] W fun r W' => (∃ v, r = .returned v) ∧ ((∃ xs : List A0, True ∧ J xs W') ∨ (∃ pre : List A0, True ∧ Jx pre W')) := by
  refine callsIn_of_wp Tryz.func121 rfl trivial ?_ rfl
  simp only [Tryz.ntmps121, List.size_toArray, List.length_cons, List.length_nil, Nat.reduceAdd, Nat.reduceSub, Array.replicate_succ, Array.replicate_zero, List.push_toArray, List.append_toArray, List.nil_append, List.cons_append]
  have q0 : W.cell? ⟨b, o, none⟩ = some (.pointer none) := hS 0 (by omega)
  have q1 := hS 1 (by omega)
  have q2 := hS 2 (by omega)
  have q3 := hS 3 (by omega)
  have q4 := hS 4 (by omega)
  have q5 := hS 5 (by omega)
  have q6 := hS 6 (by omega)
  have q7 := hS 7 (by omega)
  gi_wp2
  have HA := hide hA
  clear q0 q1 q2 q3 q4 q5 q6 q7 hS hA h1
  have HJ0 := hide h0
  clear h0
  gi_loopw [12] (fun p wr => ∃ c : Nat, c ≤ 4 ∧ p = int c ∧ J [] wr) (fun p _ => 4 - (intOf p).toNat)
  case atStart => exact ⟨0, by omega, rfl, unhide HJ0⟩
  case round =>
    obtain ⟨c, hc, rfl, hJ⟩ := hrel
    have HJ := hide hJ
    clear hJ HJ0
    by_cases hlt : c < 4
    · have hlt' : (c : Int) < 4 := by omega
      have hx := fun w => idx96 (.pointer none) c hlt w
      gi_wp2
      have hcal : Calm wr (wr.alloc (.cells #[.pointer none, .pointer none] 95)) := (Touch.refl _ _).alloc _
      have HJ1 : Hid (J [] (wr.alloc (.cells #[.pointer none, .pointer none] 95))) := unhide HA _ _ _ none (unhide HJ) (grown_calm hcal) (fun r e => by cases e)
      clear hcal hx
      gi_loopw [16] (fun p wq => ∃ k : Nat, k ≤ 2 ∧ p = int k ∧ J [] wq) (fun p _ => 2 - (intOf p).toNat)
      case atStart => exact ⟨0, by omega, rfl, unhide HJ1⟩
      case round =>
        obtain ⟨k, hk, rfl, hJ⟩ := hrel
        have HJ2 := hide hJ
        clear hJ HJ1 HJ
        by_cases hkt : k < 2
        · have hkt' : (k : Int) < 2 := by omega
          have hy := fun w => idx95 (.pointer none) k hkt w
          gi_wp2
          refine wpIn_wide.2 ?_
          go_region
          all_goals gi_wp2
          all_goals
            have hcd : Calm wr wr.drew := (Touch.refl _ _).drew
            exact ⟨⟨k + 1, by omega, by go_num, unhide HA _ _ _ none (unhide HJ2) (grown_calm hcd) (fun r e => by cases e)⟩, by simp [intOf]; omega⟩
        · have hkt' : ¬ (k : Int) < 2 := by omega
          gi_wp2
          go_roundw
          case rel => exact ⟨c + 1, by omega, by go_num, unhide HJ2⟩
          case measure => simp [intOf]; omega
    · have hlt' : ¬ (c : Int) < 4 := by omega
      gi_wp2
      go_end0
      first | exact ⟨⟨_, rfl⟩, Or.inl ⟨_, unhide HJ⟩⟩ | exact ⟨⟨_, rfl⟩, Or.inl ⟨_, trivial, unhide HJ⟩⟩

set_option maxHeartbeats 400000 in
theorem wanting_any (b o : Nat) (f0 f1 f2 : Int) (w : World) : Calls Tryz.prog 106 #[.pointer (some ⟨b, o, none⟩), .agg #[int f0, int f1, int f2]] w fun e w' =>
    e = .returned (.func (.func 121) #[] #[ptr w.heap.size, ptr (w.heap.size + 1)]) ∧ w' = (w.alloc (.cells #[.pointer (some ⟨b, o, none⟩)] 174)).alloc (.cells #[int f0, int f1, int f2] 35) := by
  go_enter Tryz.func106, Tryz.ntmps106
  go_wp2
  go_ret
  exact ⟨rfl, rfl⟩

/-- What lies in handleEvent's temporaries when the round begins. -/
abbrev evTmps (b x fb n : Nat) (f0 f1 f2 : Int) : Array Value := #[.pointer (some ⟨b, 0, none⟩), int x, int (-1), ptr fb, ptr n, ptr (n + 1), undef, ptr (n + 1 + 1), ptr (n + 1 + 1 + 1), undef, undef, undef, .pointer (some ⟨b, 0, none⟩), int x, .pointer (some ⟨b, 0, none⟩), .pointer (some ⟨b, 38, none⟩), .pointer (some ⟨b, 38 + x * 8, none⟩), ptr fb, ptr fb, .pointer (some ⟨fb, 14, none⟩), .pointer (some ⟨fb, 16, none⟩), .agg #[int f0, int f1, int f2], .func (.func 121) #[] #[ptr (n + 4), ptr (n + 5)], undef, undef, undef, undef, undef, undef, undef, undef, undef, undef, undef, undef, undef, undef, undef, undef, undef, undef, undef, undef, undef, undef, undef, undef, undef, undef, undef, undef, undef, undef, undef, undef, undef, undef, undef]

set_option maxRecDepth 100000 in
set_option maxHeartbeats 4000000 in
theorem handleEvent0 (b n : Nat) (A H M : Nat → Int) (x fb : Nat) (f0 f1 f2 : Int) (hx6 : x < 6) (w : World) (h : XN w b n A H M)
    (c16 : w.cell? ⟨fb, 16, none⟩ = some (int f0)) (c17 : w.cell? ⟨fb, 17, none⟩ = some (int f1)) (c18 : w.cell? ⟨fb, 18, none⟩ = some (int f2)) :
    Calls Tryz.prog 81 #[.pointer (some ⟨b, 0, none⟩), int x, int (-1), ptr fb] w fun r w' => r = .returned (.tuple #[]) ∧ Calm w w' := by
  have hxi : (x : Int) < 6 := by omega
  have hfl := block_lt_of_cell c16
  have hbl := h.lt
  simp only at hfl
  have HKN := hide h.know
  clear h
  refine (callsIn_wide (n := 4)).1 ?_
  refine callsIn_of_wp_marks Tryz.func81 rfl trivial ?_ rfl
  simp only [Tryz.ntmps81, List.size_toArray, List.length_cons, List.length_nil, Nat.reduceAdd, Nat.reduceSub, Array.replicate_succ, Array.replicate_zero, List.push_toArray, List.append_toArray, List.nil_append, List.cons_append]
  gi_wp2
  obtain ⟨W0, hW0⟩ : ∃ W0, W0 = ((((w.alloc (.cells #[.pointer (some ⟨b, 0, none⟩)] 42)).alloc (.cells #[int x] 3)).alloc (.cells #[ptr fb] 135)).alloc (.cells #[.bool false, .bool false, .bool false, .bool false, .bool false, .bool false] 162)) := ⟨_, rfl⟩
  rw [← hW0]
  have hW0s : W0.heap.size = w.heap.size + 4 := by rw [hW0]; simp
  have hb3 : W0.heap[w.heap.size + 3]? = some (.cells #[.bool false, .bool false, .bool false, .bool false, .bool false, .bool false] 162) := by
    rw [hW0]; have := heap_alloc_new (((w.alloc (.cells #[.pointer (some ⟨b, 0, none⟩)] 42)).alloc (.cells #[int x] 3)).alloc (.cells #[ptr fb] 135)) (.cells #[.bool false, .bool false, .bool false, .bool false, .bool false, .bool false] 162)
    simpa using this
  have hb2 : W0.heap[w.heap.size + 2]? = some (.cells #[ptr fb] 135) := by
    rw [hW0, Below.heap_alloc _ _ _ (by simp only [World.size_alloc]; omega)]; have := heap_alloc_new ((w.alloc (.cells #[.pointer (some ⟨b, 0, none⟩)] 42)).alloc (.cells #[int x] 3)) (.cells #[ptr fb] 135)
    simpa using this
  have hb1 : W0.heap[w.heap.size + 1]? = some (.cells #[int x] 3) := by
    rw [hW0, Below.heap_alloc _ _ _ (by simp only [World.size_alloc]; omega), Below.heap_alloc _ _ _ (by simp only [World.size_alloc]; omega)]; have := heap_alloc_new (w.alloc (.cells #[.pointer (some ⟨b, 0, none⟩)] 42)) (.cells #[int x] 3)
    simpa using this
  have hb0 : W0.heap[w.heap.size]? = some (.cells #[.pointer (some ⟨b, 0, none⟩)] 42) := by
    rw [hW0, Below.heap_alloc _ _ _ (by simp only [World.size_alloc]; omega), Below.heap_alloc _ _ _ (by simp only [World.size_alloc]; omega), Below.heap_alloc _ _ _ (by simp only [World.size_alloc]; omega)]; exact heap_alloc_new w _
  have hcal : Calm w W0 := by rw [hW0]; exact ((((Touch.refl _ _).alloc _).alloc _).alloc _).alloc _
  have d0 : W0.cell? ⟨w.heap.size, 0, none⟩ = some (.pointer (some ⟨b, 0, none⟩)) := box_cell hb0 0
  have d1 : W0.cell? ⟨w.heap.size + 1, 0, none⟩ = some (int x) := box_cell hb1 0
  have d2 : W0.cell? ⟨w.heap.size + 1 + 1, 0, none⟩ = some (ptr fb) := box_cell hb2 0
  have e16 := hcal.cell (p := ⟨fb, 16, none⟩) (fun f => f) c16
  have e17 := hcal.cell (p := ⟨fb, 17, none⟩) (fun f => f) c17
  have e18 := hcal.cell (p := ⟨fb, 18, none⟩) (fun f => f) c18
  have HCAL := hide hcal
  have HB3 := hide hb3
  clear hW0 hb0 hb1 hb2 hb3 hcal c16 c17 c18
  refine wpIn_mono (Q := Exit.then (fun a' w' => a' = { tmps := evTmps b x fb w.heap.size f0 f1 f2, defers := [] } ∧ w' = (W0.drew.alloc (.cells #[.pointer (some ⟨b, 38 + x * 8, none⟩)] 174)).alloc (.cells #[int f0, int f1, int f2] 35)) (fun _ _ _ => False)) (wpIn_wide.2 ?reg) ?rest
  case reg =>
    go_region_with (go_at_call 106; refine (wanting_any b (38 + x * 8) f0 f1 f2 _).mono ?_; rintro r w1 ⟨rfl, rfl⟩)
    all_goals exact ⟨by simp [evTmps], rfl⟩
  case rest =>
    rintro ex a' w' hq
    cases ex with
    | ret => exact hq.elim
    | exit _ => exact hq.elim
    | goto _ => exact hq.elim
    | panic _ => exact hq.elim
    | outgrown => exact hq.elim
    | normal =>
    obtain ⟨rfl, rfl⟩ := hq
    obtain ⟨W1, hW1⟩ : ∃ W1, W1 = (W0.drew.alloc (.cells #[.pointer (some ⟨b, 38 + x * 8, none⟩)] 174)).alloc (.cells #[int f0, int f1, int f2] 35) := ⟨_, rfl⟩
    rw [← hW1]
    gi_wp2
    have hW1s : W1.heap.size = w.heap.size + 6 := by
      rw [hW1]; simp only [World.size_alloc]; show W0.heap.size + 1 + 1 = _; omega
    have hcal1 : Calm W0 W1 := by rw [hW1]; exact (((Touch.refl _ _).drew).alloc _).alloc _
    have hb4 : W1.heap[w.heap.size + 4]? = some (.cells #[.pointer (some ⟨b, 38 + x * 8, none⟩)] 174) := by
      rw [hW1, Below.heap_alloc _ _ _ (by rw [World.size_alloc, show W0.drew.heap.size = w.heap.size + 4 from hW0s]; omega)]; have := heap_alloc_new W0.drew (.cells #[.pointer (some ⟨b, 38 + x * 8, none⟩)] 174)
      rw [show W0.drew.heap.size = w.heap.size + 4 from hW0s] at this
      exact this
    clear hW1
    have hcw : Calm w W1 := Touch.trans (unhide HCAL) hcal1
    have hb3 : W1.heap[w.heap.size + 3]? = some (.cells #[.bool false, .bool false, .bool false, .bool false, .bool false, .bool false] 162) := (hcal1.block _ (by omega) (fun f => f)).trans (unhide HB3)
    have hseq : SeqStopsK (α := A0) Fence.wide 3 Tryz.prog 121 #[ptr (w.heap.size + 4), ptr (w.heap.size + 5)] (fun a => #[ptr a.1]) (fun _ _ => True) (fun _ => True) (fun _ => True) 9 W1 := by
      intro l J Jx V hbl' hJ _ hY h0
      refine (wanting0_in 3 l b (38 + x * 8) (w.heap.size + 4) (w.heap.size + 5) J Jx V hJ ?_ ?_ h0)
      · have : W1.cell? ⟨w.heap.size + 4, 0, none⟩ = some (.pointer (some ⟨b, 38 + x * 8, none⟩)) := box_cell hb4 0
        exact cell_of_heap (hbl'.block _ (by omega)) this
      · intro s hs
        have h1 := hcw.cell (p := ⟨b, 38 + (x * 8 + s), none⟩) (fun f => f) (unhide HKN (x * 8 + s) (by omega))
        rw [show 38 + (x * 8 + s) = 38 + x * 8 + s by omega] at h1
        exact cell_of_heap (hbl'.block _ (by omega)) h1
    have hCW := hide hcw
    have H3 := hide hb3
    clear hcw hb3 hb4 hcal1 HB3 HCAL d0 d1 d2 e16 e17 e18
    refine wpIn_rangeFunc_ownG (n := 4) rfl (by omega) (gf := 121) (lb := #[ptr (w.heap.size + 4), ptr (w.heap.size + 5)]) rfl trivial (enters_of Tryz.func121 (by kernel_rfl) rfl) hseq (fun _ _ => trivial) (fun V l o o' _ hl ho _ => trivial) (Below.refl _ _) (fun _ => rfl)
      (fun _ V => Below W1.heap.size W1 V) (fun _ _ _ => False) ?hI (fun _ _ _ _ _ hs _ _ => hs) ?h0 (fun a => { tmps := evTmps b x fb w.heap.size f0 f1 f2, defers := [] }) ?assign ?body ?done ?stop
    case hI =>
      rintro pre V V' row hh hg hrow
      exact ⟨hg.os.trans hh.os, hg.tape.trans hh.tape, hg.output.trans hh.output, Nat.le_trans hh.size hg.size, fun k hk => (hg.block k (Nat.lt_of_lt_of_le hk hh.size) (fun e => by have := (hrow k e.symm).1; omega)).trans (hh.block k hk)⟩
    case h0 => exact Below.refl _ _
    case assign =>
      intro l a
      exact absurd a.2 (by omega)
    case body =>
      rintro l pre ⟨a, ha⟩
      exact absurd ha (by omega)
    case done =>
      rintro D xs V hD hS hh hK
      have hfl := (hh.block _ (by omega)).trans (unhide H3)
      have g0 : V.cell? ⟨w.heap.size + 1 + 1 + 1, 0, none⟩ = some (.bool false) := box_cell hfl 0
      have g1 : V.cell? ⟨w.heap.size + 1 + 1 + 1, 1, none⟩ = some (.bool false) := box_cell hfl 1
      have g2 : V.cell? ⟨w.heap.size + 1 + 1 + 1, 2, none⟩ = some (.bool false) := box_cell hfl 2
      have g3 : V.cell? ⟨w.heap.size + 1 + 1 + 1, 3, none⟩ = some (.bool false) := box_cell hfl 3
      have g4 : V.cell? ⟨w.heap.size + 1 + 1 + 1, 4, none⟩ = some (.bool false) := box_cell hfl 4
      have g5 : V.cell? ⟨w.heap.size + 1 + 1 + 1, 5, none⟩ = some (.bool false) := box_cell hfl 5
      have HH := hide hh
      have HK := hide hK
      clear hh hK hfl hS
      gi_wp2
      clear g0 g1 g2 g3 g4 g5
      gi_loopw [40] (fun p wr => ∃ k : Nat, k ≤ 6 ∧ p = int k ∧ wr = V) (fun p _ => 6 - (intOf p).toNat)
      case atStart => exact ⟨0, by omega, rfl, rfl⟩
      case round =>
        obtain ⟨k, hk, rfl, hwr⟩ := hrel
        have hwr := hwr.symm
        subst hwr
        by_cases hlt6 : k < 6
        · have hki : (k : Int) < 6 := by omega
          have hix := fun w => idx162 (.bool false) k hlt6 w
          gi_wp2
          refine ⟨⟨k + 1, by omega, ?_⟩, by simp [intOf]; omega⟩
          exact ⟨by go_num, trivial⟩
        · have hki : ¬ (k : Int) < 6 := by omega
          gi_wp2
          refine ⟨by simp, .inl ⟨_, _, rfl, run_takeDeferred (unhide HK), ?_⟩⟩
          have hT : Touch (fun i => i = D) V (V.putObj D (.deferred none)) := ⟨rfl, rfl, rfl, by simp [World.putObj], fun i hi hs => by simp only [World.putObj]; rw [Array.getElem?_setIfInBounds_ne (Ne.symm hs)]⟩
          have hB := unhide HH
          refine ⟨_, results_none rfl _ _ _, rfl, ⟨hT.os.trans (hB.os.trans (unhide hCW).os), hT.tape.trans (hB.tape.trans (unhide hCW).tape), hT.output.trans (hB.output.trans (unhide hCW).output), Nat.le_trans (unhide hCW).size (Nat.le_trans hB.size hT.size), fun i hi hs => ?_⟩⟩
          exact (hT.block i (Nat.lt_of_lt_of_le (by omega) hB.size) (by omega)).trans ((hB.block i (by omega)).trans ((unhide hCW).block i hi hs))
    case stop =>
      rintro D c pre V _ _ hh _
      exact hh.elim

set_option maxRecDepth 100000 in
set_option maxHeartbeats 1000000 in
theorem handle0 (b n : Nat) (A H M : Nat → Int) (x fb : Nat) (f0 f1 f2 : Int) (hx6 : x < 6) (w : World) (h : XN w b n A H M) (c0 : w.cell? ⟨fb, 0, none⟩ = some (int 2))
    (c16 : w.cell? ⟨fb, 16, none⟩ = some (int f0)) (c17 : w.cell? ⟨fb, 17, none⟩ = some (int f1)) (c18 : w.cell? ⟨fb, 18, none⟩ = some (int f2)) :
    Calls Tryz.prog 48 #[.pointer (some ⟨b, 0, none⟩), int x, int (-1), ptr fb] w fun r w' => r = .returned (.tuple #[]) ∧ Calm w w' := by
  have hfl := block_lt_of_cell c0
  simp only at hfl
  have HX := hide h
  have H16 := hide c16
  have H17 := hide c17
  have H18 := hide c18
  clear h c16 c17 c18
  go_enter Tryz.func48, Tryz.ntmps48
  go_wp2_with (go_at_call 81; refine (handleEvent0 b n A H M x fb f0 f1 f2 hx6 _ ((unhide HX).calm ((Touch.refl _ _).alloc _)) (((Touch.refl (fun _ => False) _).alloc _).cell (p := ⟨fb, 16, none⟩) (fun f => f) (unhide H16)) (((Touch.refl (fun _ => False) _).alloc _).cell (p := ⟨fb, 17, none⟩) (fun f => f) (unhide H17)) (((Touch.refl (fun _ => False) _).alloc _).cell (p := ⟨fb, 18, none⟩) (fun f => f) (unhide H18))).mono ?_; rintro r w1 ⟨rfl, ht1⟩)
  go_end0
  exact ⟨rfl, ((Touch.refl _ _).alloc _).calm ht1⟩

end Go.Proofs.YtodfcpblcpogiaaGreat

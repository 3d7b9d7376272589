/-
  New clients, a new net.
-/
import Derived.Test.YtodfcpblcpogiaaGreatTree
import Derived.Test.YtodfcpblcpogiaaGreatEvz
import Derived.Deep.RegionHeld3
import Derived.Deep.DeepCutAuto
import Derived.Laws.Tables
namespace Go.Proofs.YtodfcpblcpogiaaGreat
open Go.RowKit

/-- A new slot's cells. -/
abbrev slot0 : List Value := [.bool false, int (-1), int 0, int 0, int 0, int 0, int 0, int 0, int 0, int 0, int 0, int 0, .map none]

set_option maxHeartbeats 400000 in
theorem newSlot_any (w : World) : Calls Tryz.prog 98 #[] w fun e w' => e = .returned (.agg slot0.toArray) ∧ w' = w.alloc (.cells slot0.toArray 83) := by
  go_enter Tryz.func98, Tryz.ntmps98
  go_wp2
  exact bodyPost_ret (v := .agg slot0.toArray) (by simp [results, Tryz.results98, go_sem]) rfl ⟨rfl, rfl⟩

/-- A client's cells, of which the first k slots were made. -/
def cliTo (k : Nat) : List Value := [int (-1), int (-1), int 0, int 0, .bool false, int (if 0 < k then -1 else 0), int 0, int 0, int 0, int 0, int 0, int 0, int 0, int 0, int 0, int 0, .map none, .bool false, int (if 1 < k then -1 else 0), int 0, int 0, int 0, int 0, int 0, int 0, int 0, int 0, int 0, int 0, .map none, .slice none 0 0]
abbrev cli0 : List Value := [int 0, int 0, int 0, int 0, .bool false, int 0, int 0, int 0, int 0, int 0, int 0, int 0, int 0, int 0, int 0, int 0, .map none, .bool false, int 0, int 0, int 0, int 0, int 0, int 0, int 0, int 0, int 0, int 0, int 0, .map none, .slice none 0 0]
abbrev cli1 : List Value := [int (-1), int (-1), int 0, int 0, .bool false, int 0, int 0, int 0, int 0, int 0, int 0, int 0, int 0, int 0, int 0, int 0, .map none, .bool false, int 0, int 0, int 0, int 0, int 0, int 0, int 0, int 0, int 0, int 0, int 0, .map none, .slice none 0 0]

theorem build108 (w : World) : (Instr.build 86 #[(0, .int .i64 (-1)), (1, .int .i64 (-1))]).run Tryz.prog w = .ok (.agg cli1.toArray) w := run_build w 86 _ _ (by kernel_rfl)

theorem cliTo_in {k : Nat} (hk : k < 2) : ∀ i, i < 13 → (cliTo (k + 1))[4 + k * 13 + i]? = slot0[i]? := fun i hi => by
  rcases k with _ | _ | k
  · rcases i with _ | _ | _ | _ | _ | _ | _ | _ | _ | _ | _ | _ | _ | i <;> first | rfl | omega
  · rcases i with _ | _ | _ | _ | _ | _ | _ | _ | _ | _ | _ | _ | _ | i <;> first | rfl | omega
  · omega
theorem cliTo_out {k : Nat} (hk : k < 2) : ∀ i, i < 4 + k * 13 ∨ 4 + k * 13 + 13 ≤ i → (cliTo (k + 1))[i]? = (cliTo k)[i]? := fun i hi => by
  rcases k with _ | _ | k
  · rcases i with _ | _ | _ | _ | _ | _ | _ | _ | _ | _ | _ | _ | _ | _ | _ | _ | _ | _ | _ | _ | _ | _ | _ | _ | _ | _ | _ | _ | _ | _ | _ | i <;> first | rfl | omega
  · rcases i with _ | _ | _ | _ | _ | _ | _ | _ | _ | _ | _ | _ | _ | _ | _ | _ | _ | _ | _ | _ | _ | _ | _ | _ | _ | _ | _ | _ | _ | _ | _ | i <;> first | rfl | omega
  · omega

theorem cliTo_next {w : World} {b k : Nat} (hk : k < 2) (h : w.rangeAt b 0 (cliTo k)) (ht : w.there b (4 + k * 13) 13) : (w.setCells b (4 + k * 13) slot0).rangeAt b 0 (cliTo (k + 1)) := fun j v hj => by
  rw [Nat.zero_add]
  by_cases hin : 4 + k * 13 ≤ j ∧ j < 4 + k * 13 + 13
  · have h1 := cliTo_in hk (j - (4 + k * 13)) (by omega)
    rw [show 4 + k * 13 + (j - (4 + k * 13)) = j by omega, hj] at h1
    have := World.rangeAt_setCells_same w b (4 + k * 13) slot0 ht (j - (4 + k * 13)) v h1.symm
    rwa [show 4 + k * 13 + (j - (4 + k * 13)) = j by omega] at this
  · rw [cliTo_out hk j (by omega)] at hj
    rw [World.cell?_setCells_out b slot0 _ w _ (fun _ _ => by show j < 4 + k * 13 ∨ 4 + k * 13 + 13 ≤ j; omega)]
    have := h j v hj
    rwa [Nat.zero_add] at this

theorem there_calm {w w' : World} {b o n : Nat} (h : w.there b o n) (t : Calm w w') (hb : b < w.heap.size) : w'.there b o n := fun j hj => by
  have hk : w'.heap[b]? = w.heap[b]? := t.block b hb (fun f => f)
  exact ⟨by rw [World.cell?_of_block (w := w) hk]; exact (h j hj).1, by rw [World.frozen?_of_block (w := w) (a := ⟨b, o + j, none⟩) hk]; exact (h j hj).2⟩
theorem rangeAt_calm {w w' : World} {b o : Nat} {cs : List Value} (h : w.rangeAt b o cs) (t : Calm w w') (hb : b < w.heap.size) : w'.rangeAt b o cs := fun j v hj => by
  have hk : w'.heap[b]? = w.heap[b]? := t.block b hb (fun f => f)
  exact (World.cell?_of_block (w := w) hk).trans (h j v hj)
theorem box_there {w : World} {b t : Nat} {cs : List Value} (h : w.heap[b]? = some (.cells cs.toArray t)) : w.there b 0 cs.length := fun j hj => by
  rw [Nat.zero_add]
  exact ⟨by rw [box_cell h]; simp [hj], box_frozen h _⟩

theorem one_slot0 : slot0.toArray.all (fun v => v.oneCell') = true := all_oneCell_toArray (fun v hv => List.all_eq_true.1 (show slot0.all (fun v => v.oneCell') = true from rfl) v hv)
theorem one_cli1 : cli1.toArray.all (fun v => v.oneCell') = true := all_oneCell_toArray (fun v hv => List.all_eq_true.1 (show cli1.all (fun v => v.oneCell') = true from rfl) v hv)
theorem info86 : (Tryz.prog.info? 86).map (·.size) = some cli1.toArray.size := by kernel_rfl
theorem info86' : (Tryz.prog.info? 86).map (·.size) = some (cliTo 2).length := by kernel_rfl
theorem info83 : (Tryz.prog.info? 83).map (·.size) = some slot0.toArray.size := by kernel_rfl

set_option maxRecDepth 100000 in
set_option maxHeartbeats 400000 in
theorem clientsNew_any (w : World) : Calls Tryz.prog 68 #[] w fun e w' => e = .returned (.agg (cliTo 2).toArray) ∧ Calm w w' := by
  have hB := build108
  have hT0 := hide (box_there (w := (w.alloc (.cells cli0.toArray 86)).alloc (.cells cli0.toArray 86)) (b := w.heap.size + 1) (t := 86) (cs := cli0) (heap_alloc2_new _ _ _))
  have hT1 := hide (box_there (w := (w.alloc (.cells cli0.toArray 86)).alloc (.cells cli0.toArray 86)) (b := w.heap.size) (t := 86) (cs := cli0) (by rw [Below.heap_alloc _ _ _ (by simp)]; exact heap_alloc_new _ _))
  go_enter Tryz.func68, Tryz.ntmps68
  go_wp2_with (first
    | refine wpList_store_mid rfl 86 _ _ rfl (w.heap.size + 1) 0 cli1.toArray rfl rfl (unhide hT0) info86 one_cli1 ?_
    | fail)
  go_loopw [4] (fun i wr => ∃ k : Nat, k ≤ 2 ∧ i = .int .i64 k ∧ Calm w wr ∧ w.heap.size + 1 < wr.heap.size ∧ wr.there w.heap.size 0 31 ∧ wr.there (w.heap.size + 1) 0 31 ∧ wr.rangeAt (w.heap.size + 1) 0 (cliTo k)) (fun i _ => 2 - (intOf i).toNat)
  case atStart =>
    refine ⟨0, by omega, rfl, ?_, ?_, World.there_setCells (unhide hT1) _ _ _, World.there_setCells (unhide hT0) _ _ _, ?_⟩
    · exact Touch.fresh (((Touch.refl _ _).alloc _).alloc _) (Touch.setCells _ _ _ _) (fun k hk e => by omega)
    · have := (Touch.setCells (w.heap.size + 1) cli1 0 ((w.alloc (.cells cli0.toArray 86)).alloc (.cells cli0.toArray 86))).size
      simp at this
      exact Nat.lt_of_lt_of_le (by omega) this
    · exact World.rangeAt_setCells_same _ _ _ cli1 (unhide hT0)
  case round =>
    obtain ⟨k, hk, rfl, ht, hl1, h0, h1, hr⟩ := hrel
    clear hT0 hT1
    have H0 := hide h0
    have H1 := hide h1
    have HT := hide ht
    have HR := hide hr
    clear h0 h1 ht hr
    by_cases hlt : k < 2
    · have hth : ∀ c, (wr.alloc c).there (w.heap.size + 1) (4 + k * 13) slot0.toArray.size := fun c => there_calm (fun j hj => by
        have hj' : j < 13 := hj
        have := (unhide H1) (4 + k * 13 + j) (by omega)
        rwa [Nat.zero_add] at this) ((Touch.refl _ _).alloc c) hl1
      have HH := hide hth
      clear hth
      have hk2 : (k : Int) < 2 := by omega
      go_wp2_with (first
        | (go_at_call 98; refine (newSlot_any _).mono ?_; rintro e w' ⟨rfl, rfl⟩)
        | (refine wpList_store_mid rfl 83 (.tmp 10) (.tmp 8) rfl (w.heap.size + 1) (4 + k * 13) slot0.toArray ?hx ?hy ?hz info83 one_slot0 ?_; (case hx => exact rfl); (case hy => exact rfl); (case hz => exact unhide HH _)))
      go_roundw
      case rel =>
        refine ⟨k + 1, by omega, by go_num, ?_, ?_, World.there_setCells (there_calm (unhide H0) ((Touch.refl _ _).alloc _) (by omega)) _ _ _, World.there_setCells (there_calm (unhide H1) ((Touch.refl _ _).alloc _) (by omega)) _ _ _, ?_⟩
        · exact Touch.fresh ((unhide HT).alloc _) (Touch.setCells _ _ _ _) (fun k hk e => by omega)
        · have := (Touch.setCells (w.heap.size + 1) slot0 (4 + k * 13) (wr.alloc (.cells slot0.toArray 83))).size
          simp at this
          exact Nat.lt_of_lt_of_le (by omega) this
        · exact cliTo_next hlt (rangeAt_calm (unhide HR) ((Touch.refl _ _).alloc _) (by omega)) (unhide HH _)
      case measure => simp [intOf]; omega
    · have hk2 : k = 2 := by omega
      subst hk2
      have hth : wr.there w.heap.size 0 (cliTo 2).toArray.size := unhide H0
      have hone : ∀ v, v ∈ cliTo 2 → v.oneCell' = true := by
        intro v hv
        have : (cliTo 2).all (fun v => v.oneCell') = true := rfl
        exact List.all_eq_true.1 this v hv
      have hT : Touch (fun k => k = w.heap.size) wr (wr.setCells w.heap.size 0 (cliTo 2)) := Touch.setCells _ _ _ _
      have hC : Calm w (wr.setCells w.heap.size 0 (cliTo 2)) := Touch.fresh (unhide HT) hT (fun k hk e => by omega)
      have hR := World.rangeAt_setCells_same wr w.heap.size 0 (cliTo 2) (by simpa using hth)
      have HR2 := hide hR
      have HC := hide hC
      clear hR hC hT
      go_wp2_with (first
        | refine wpList_load_mid rfl 86 _ rfl (w.heap.size + 1) 0 rfl (cliTo 2) _ (unhide HR) Tryz.underlying86 rfl info86' ?_
        | refine wpList_store_mid rfl 86 _ _ rfl w.heap.size 0 (cliTo 2).toArray rfl rfl hth (by simpa using info86') (all_oneCell_toArray hone) ?_)
      exact bodyPost_ret (v := .agg (cliTo 2).toArray) (results_cell_mid Tryz.results68 _ _ w.heap.size 0 (cliTo 2) _ rfl (unhide HR2) Tryz.underlying86 rfl info86') rfl ⟨rfl, unhide HC⟩

end Go.Proofs.YtodfcpblcpogiaaGreat

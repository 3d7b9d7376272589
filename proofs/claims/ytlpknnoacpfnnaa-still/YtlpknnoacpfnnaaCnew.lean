/-
  New clients, a new net.
-/
import Derived.Test.YtlpknnoacpfnnaaLnew
import Derived.Deep.RegionHeld3
import Derived.Deep.DeepCutAuto
namespace Go.Proofs.Ytlpknnoacpfnnaa
open Go.RowKit

theorem Touch.fresh {S : Nat → Prop} {a b c : World} (h : Calm a b) (t : Touch S b c) (hs : ∀ k, k < a.heap.size → ¬ S k) : Calm a c :=
  ⟨t.os.trans h.os, t.tape.trans h.tape, t.output.trans h.output, Nat.le_trans h.size t.size, fun k hk _ => (t.block k (Nat.lt_of_lt_of_le hk h.size) (hs k hk)).trans (h.block k hk (fun f => f))⟩

set_option maxHeartbeats 400000 in
theorem newSlot_any (w : World) : Calls Try.prog 75 #[] w fun e w' => e = .returned (.agg #[.bool false, int (-1), .map none]) ∧ w' = w.alloc (.cells #[.bool false, int (-1), .map none] 95) := by
  go_enter Try.func75, Try.ntmps75
  go_wp2
  exact bodyPost_ret (v := .agg #[.bool false, int (-1), .map none]) (by simp [results, Try.results75, go_sem]) rfl ⟨rfl, rfl⟩

/-- A client's cells, of which the first k slots were made. -/
def cliTo (k : Nat) : List Value := [int (-1), int (-1), int 0, int 0, .bool false, int (if 0 < k then -1 else 0), .map none, .bool false, int (if 1 < k then -1 else 0), .map none, .slice none 0 0]
abbrev cli0 : List Value := [int 0, int 0, int 0, int 0, .bool false, int 0, .map none, .bool false, int 0, .map none, .slice none 0 0]

set_option maxRecDepth 100000 in
set_option maxHeartbeats 400000 in
theorem clientsNew_any (w : World) : Calls Try.prog 58 #[] w fun e w' => e = .returned (.agg (cliTo 2).toArray) ∧ Calm w w' := by
  go_enter Try.func58, Try.ntmps58
  go_wp2_with fail
  go_loopw [4] (fun i wr => ∃ k : Nat, k ≤ 2 ∧ i = .int .i64 k ∧ Calm w wr ∧ wr.heap[w.heap.size]? = some (.cells cli0.toArray 98) ∧ wr.heap[w.heap.size + 1]? = some (.cells (cliTo k).toArray 98)) (fun i _ => 2 - (intOf i).toNat)
  case atStart => exact ⟨0, by omega, rfl, ((Touch.refl _ _).alloc _).alloc _, by rw [Below.heap_alloc _ _ _ (by simp)]; exact heap_alloc_new _ _, heap_alloc2_new _ _ _⟩
  case round =>
    obtain ⟨k, hk, rfl, ht, h0, h1⟩ := hrel
    have hl1 : w.heap.size + 1 < wr.heap.size := (Array.getElem?_eq_some_iff.1 h1).1
    have hl0 : w.heap.size < wr.heap.size := by omega
    have hfz := box_frozen h1
    have hf0 := box_frozen h0
    have H0 := hide h0
    have H1 := hide h1
    have HT := hide ht
    have hc := box_cell h1
    have hc0 := box_cell h0
    clear h0 h1 ht
    by_cases hlt : k < 2
    · have a0 : ∃ v, wr.cell? ⟨w.heap.size + 1, 4 + k * 3, none⟩ = some v := by
        rw [hc]; exact ⟨_, Array.getElem?_eq_getElem (by simp [cliTo]; omega)⟩
      have a1 : ∃ v, wr.cell? ⟨w.heap.size + 1, 4 + k * 3 + 1, none⟩ = some v := by
        rw [hc]; exact ⟨_, Array.getElem?_eq_getElem (by simp [cliTo]; omega)⟩
      have a2 : ∃ v, wr.cell? ⟨w.heap.size + 1, 4 + k * 3 + 2, none⟩ = some v := by
        rw [hc]; exact ⟨_, Array.getElem?_eq_getElem (by simp [cliTo]; omega)⟩
      obtain ⟨v0, a0⟩ := a0
      obtain ⟨v1, a1⟩ := a1
      obtain ⟨v2, a2⟩ := a2
      have hk2 : (k : Int) < 2 := by omega
      clear hc hc0
      go_wp2_with (go_at_call 75; refine (newSlot_any _).mono ?_; rintro e w' ⟨rfl, rfl⟩)
      go_roundw
      case rel =>
        refine ⟨k + 1, by omega, by go_num, ?_, ?_, ?_⟩
        · exact ((((unhide HT).setCell (p := ⟨w.heap.size + 1, _, none⟩) (fun x => by simp only at x; omega) _).setCell (p := ⟨w.heap.size + 1, _, none⟩) (fun x => by simp only at x; omega) _).setCell (p := ⟨w.heap.size + 1, _, none⟩) (fun x => by simp only at x; omega) _).alloc _
        · rw [Below.heap_alloc _ _ _ (by simp [World.setCell]; omega), heap_setCell_other _ _ (by omega), heap_setCell_other _ _ (by omega), heap_setCell_other _ _ (by omega)]; exact unhide H0
        · rw [Below.heap_alloc _ _ _ (by simp [World.setCell]; omega)]
          rw [heap_setCell_same _ _ _ _ _ _ (heap_setCell_same _ _ _ _ _ _ (heap_setCell_same _ _ _ _ _ _ (unhide H1)))]
          rcases k with _ | _ | k
          · rfl
          · rfl
          · omega
      case measure => simp [intOf]; omega
    · have hk2 : k = 2 := by omega
      subst hk2
      have hr : wr.rangeAt (w.heap.size + 1) 0 (cliTo 2) := fun j v hj => by rw [hc, Nat.zero_add]; simpa using hj
      have hth : wr.there w.heap.size 0 (cliTo 2).toArray.size := fun j hj => by
        have hj' : j < 11 := by simpa [cliTo] using hj
        refine ⟨?_, hf0 _⟩
        rw [hc0]
        simp; omega
      have hone : ∀ v, v ∈ cliTo 2 → v.oneCell' = true := by
        intro v hv
        have : (cliTo 2).all (fun v => v.oneCell') = true := rfl
        exact List.all_eq_true.1 this v hv
      have hT : Touch (fun k => k = w.heap.size) wr (wr.setCells w.heap.size 0 (cliTo 2)) := Touch.setCells _ _ _ _
      have hC : Calm w (wr.setCells w.heap.size 0 (cliTo 2)) := Touch.fresh (unhide HT) hT (fun k hk e => by omega)
      have hR := World.rangeAt_setCells_same wr w.heap.size 0 (cliTo 2) (by simpa using hth)
      have i98 : (Try.prog.info? 98).map (·.size) = some (cliTo 2).length := by kernel_rfl
      have HR := hide hR
      have HC := hide hC
      have H98 := hide i98
      clear hR hC hT i98 hc hc0
      go_wp2_with (first
        | refine wpList_load_mid rfl 98 _ rfl (w.heap.size + 1) 0 rfl (cliTo 2) _ hr Try.underlying98 rfl (unhide H98) ?_
        | refine wpList_store_mid rfl 98 _ _ rfl w.heap.size 0 (cliTo 2).toArray rfl rfl hth (by simpa using unhide H98) (all_oneCell_toArray hone) ?_)
      exact bodyPost_ret (v := .agg (cliTo 2).toArray) (results_cell_mid Try.results58 _ _ w.heap.size 0 (cliTo 2) _ rfl (unhide HR) Try.underlying98 rfl (unhide H98)) rfl ⟨rfl, unhide HC⟩

end Go.Proofs.Ytlpknnoacpfnnaa

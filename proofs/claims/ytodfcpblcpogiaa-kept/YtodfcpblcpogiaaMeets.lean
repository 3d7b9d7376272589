/-
  meets: does an event meet a filter? (the statements' own)
-/
import Derived.Test.YtodfcpblcpogiaaTests
import Derived.Deep.DeepCutAuto
namespace Go.Proofs.Ytodfcpblcpogiaa
open Go.RowKit

set_option maxRecDepth 100000 in
set_option maxHeartbeats 1000000 in
theorem keepMeets_any (l : List Tst) (e : Ev) (a : Option Addr) (cap : Nat) (w : World) (hl : goodFilter l = true) (ht : TestsAt w a l) :
    Calls Try.prog 19 #[.slice a l.length cap, .agg #[int e.f0, int e.f1, int e.f2]] w fun r w' => r = .returned (.bool (meets l e)) ∧ Calm w w' := by
  have h3 := good_len hl
  obtain ⟨W, hW⟩ : ∃ W, w.alloc (.cells #[int e.f0, int e.f1, int e.f2] 23) = W := ⟨_, rfl⟩
  have hb1 : W.heap[w.heap.size]? = some (.cells #[int e.f0, int e.f1, int e.f2] 23) := by rw [← hW]; exact heap_alloc_new w _
  have hcal : Calm w W := by rw [← hW]; exact (Touch.refl _ _).alloc _
  have HT := hide (ht.calm hcal)
  have HB1 := hide hb1
  have HC := hide hcal
  have HG := hide hl
  clear hb1 hcal hl ht
  have h3i : (l.length : Int) ≤ 3 := by omega
  go_enter Try.func19, Try.ntmps19
  go_wp2
  clear hW
  go_loop [5] (fun i => ∃ k : Nat, k ≤ l.length ∧ i = int k ∧ ∀ j, j < k → (tstAt l j).met e = true) (fun i => l.length - (intOf i).toNat)
  case atStart => exact ⟨0, by omega, rfl, fun j hj => by omega⟩
  case round =>
    obtain ⟨k, hk, rfl, hmet⟩ := hrel
    have HM := hide hmet
    clear hmet
    by_cases hlt : k < l.length
    · have hg := good_at (unhide HG) hlt
      have hf := good_fld hg
      obtain ⟨e0, e1, e2⟩ := encs_at l k hlt
      rcases unhide HT with h0 | ⟨b, o, rfl, hc⟩
      · rw [h0] at hlt; simp at hlt
      · have c0 := hc _ _ e0
        have c1 := hc _ _ e1
        have c2 := hc _ _ e2
        rw [← Nat.add_assoc] at c1 c2
        have cf : W.cell? ⟨w.heap.size, (tstAt l k).fld.toNat, none⟩ = some (int (e.field (tstAt l k).fld)) := (box_cell (unhide HB1) _).trans (field_at e hf.1 hf.2)
        have HMM := hide (metBy_met hg e)
        have hop : (tstAt l k).op = 1 ∨ (tstAt l k).op = 2 ∨ (tstAt l k).op = 3 ∨ (tstAt l k).op = 4 := by
          simp only [Tst.good, decide_eq_true_eq] at hg; omega
        have hnot := fun h => meets_not hlt (e := e) h
        have HN := hide hnot
        clear e0 e1 e2 hc hnot hg
        generalize hT : tstAt l k = t at *
        have HTT := hide hT
        clear hT
        obtain ⟨f, op, n⟩ := t
        simp only at c0 c1 c2 cf hf HMM hop HN
        obtain ⟨v, hv⟩ : ∃ v, v = e.field f := ⟨_, rfl⟩
        rw [← hv] at cf
        have HV := hide hv
        clear hv
        go_upto_region 5 with (fail)
        simp only [List.append_eq, List.cons_append, List.nil_append]
        rcases hop with rfl | rfl | rfl | rfl
        · by_cases hq : v = n
          · subst hq
            go_wp2
            go_round
            case rel =>
              refine ⟨k + 1, by omega, by go_num, fun j hj => ?_⟩
              by_cases ej : j = k
              · subst ej; rw [unhide HTT, ← unhide HMM, ← unhide HV]; simp [Tst.metBy]
              · exact unhide HM j (by omega)
            case measure => simp [intOf]; omega
          · have hqb : (v == n) = false := by rw [beq_dec]; exact decide_eq_false hq
            go_wp2
            go_ret
            refine ⟨?_, unhide HC⟩
            rw [unhide HN (by rw [← unhide HMM, ← unhide HV]; simp [Tst.metBy, hq])]
            rfl
        · by_cases hq : v = n
          · subst hq
            go_wp2
            go_ret
            refine ⟨?_, unhide HC⟩
            rw [unhide HN (by rw [← unhide HMM, ← unhide HV]; simp [Tst.metBy])]
            rfl
          · go_wp2
            go_round
            case rel =>
              refine ⟨k + 1, by omega, by go_num, fun j hj => ?_⟩
              by_cases ej : j = k
              · subst ej; rw [unhide HTT, ← unhide HMM, ← unhide HV]; simp [Tst.metBy, hq]
              · exact unhide HM j (by omega)
            case measure => simp [intOf]; omega
        · by_cases hq : v < n
          · go_wp2
            go_round
            case rel =>
              refine ⟨k + 1, by omega, by go_num, fun j hj => ?_⟩
              by_cases ej : j = k
              · subst ej; rw [unhide HTT, ← unhide HMM, ← unhide HV]; simp [Tst.metBy, hq]
              · exact unhide HM j (by omega)
            case measure => simp [intOf]; omega
          · go_wp2
            go_ret
            refine ⟨?_, unhide HC⟩
            rw [unhide HN (by rw [← unhide HMM, ← unhide HV]; simp [Tst.metBy]; omega)]
            rfl
        · by_cases hq : n ≤ v
          · go_wp2
            go_round
            case rel =>
              refine ⟨k + 1, by omega, by go_num, fun j hj => ?_⟩
              by_cases ej : j = k
              · subst ej; rw [unhide HTT, ← unhide HMM, ← unhide HV]; simp [Tst.metBy, hq]
              · exact unhide HM j (by omega)
            case measure => simp [intOf]; omega
          · go_wp2
            go_ret
            refine ⟨?_, unhide HC⟩
            rw [unhide HN (by rw [← unhide HMM, ← unhide HV]; simp [Tst.metBy]; omega)]
            rfl
    · have he : k = l.length := by omega
      subst he
      go_wp2
      go_ret
      refine ⟨?_, unhide HC⟩
      rw [meets_of (unhide HM)]
      rfl

end Go.Proofs.Ytodfcpblcpogiaa

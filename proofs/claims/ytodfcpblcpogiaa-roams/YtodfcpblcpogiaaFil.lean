/-
  Filters.
-/
import Derived.Test.YtodfcpblcpogiaaLeaf
import Derived.Deep.DeepCutAuto
namespace Go.Proofs.Ytodfcpblcpogiaa
open Go.RowKit

theorem beq_dec (a b : Int) : (a == b) = decide (a = b) := by
  by_cases h : a = b
  · simp [h]
  · simp [h]
theorem bne_dec (a b : Int) : (a != b) = decide (a ≠ b) := by
  by_cases h : a = b
  · simp [h]
  · simp [h]

/-- One test, of a field. -/
def Tst.metBy (t : Tst) (v : Int) : Bool := if t.op = 1 then decide (v = t.n) else if t.op = 2 then decide (v ≠ t.n) else if t.op = 3 then decide (v < t.n) else decide (t.n ≤ v)

theorem metBy_met {t : Tst} (h : t.good = true) (e : Ev) : t.metBy (e.field t.fld) = t.met e := by
  simp only [Tst.good, decide_eq_true_eq] at h
  unfold Tst.metBy Tst.met
  obtain h1 | h1 | h1 | h1 : t.op = 1 ∨ t.op = 2 ∨ t.op = 3 ∨ t.op = 4 := by omega
  all_goals simp [h1]

set_option maxHeartbeats 400000 in
theorem meets1_any (f o n v : Int) (w : World) : Calls Try.prog 108 #[.agg #[int f, int o, int n], int v] w fun e w' => e = .returned (.bool (Tst.metBy ⟨f, o, n⟩ v)) ∧ Calm w w' := by
  by_cases h1 : o = 1
  · subst h1
    go_enter Try.func108, Try.ntmps108
    go_wp2
    go_ret
    exact ⟨by rw [beq_dec]; simp [Tst.metBy], (Touch.refl _ _).alloc _⟩
  · by_cases h2 : o = 2
    · subst h2
      go_enter Try.func108, Try.ntmps108
      go_wp2
      go_ret
      exact ⟨by rw [bne_dec]; simp [Tst.metBy], (Touch.refl _ _).alloc _⟩
    · by_cases h3 : o = 3
      · subst h3
        go_enter Try.func108, Try.ntmps108
        go_wp2
        go_ret
        exact ⟨by simp [Tst.metBy], (Touch.refl _ _).alloc _⟩
      · go_enter Try.func108, Try.ntmps108
        go_wp2
        go_ret
        exact ⟨by simp [Tst.metBy, h1, h2, h3], (Touch.refl _ _).alloc _⟩

theorem good_fld {t : Tst} (h : t.good = true) : 0 ≤ t.fld ∧ t.fld < 3 := by
  simp only [Tst.good, decide_eq_true_eq] at h; omega

theorem encFil_at {l : List Tst} (h3 : l.length ≤ 3) {k : Nat} (hk : k < l.length) : (encFil l)[k * 3]? = some (int (tstAt l k).fld) ∧ (encFil l)[k * 3 + 1]? = some (int (tstAt l k).op) ∧ (encFil l)[k * 3 + 2]? = some (int (tstAt l k).n) := by
  obtain rfl | rfl | rfl : k = 0 ∨ k = 1 ∨ k = 2 := by omega
  all_goals exact ⟨rfl, rfl, rfl⟩
theorem encFil_len (l : List Tst) : (encFil l).length = 10 := rfl
theorem tstAt_get {l : List Tst} {k : Nat} (hk : k < l.length) : l[k]? = some (tstAt l k) := by
  simp [tstAt, List.getElem?_eq_getElem hk]
theorem good_at {l : List Tst} (h : goodFilter l = true) {k : Nat} (hk : k < l.length) : (tstAt l k).good = true := by
  simp only [goodFilter, Bool.and_eq_true, List.all_eq_true] at h
  exact h.2 _ (List.mem_of_getElem? (tstAt_get hk))
theorem good_len {l : List Tst} (h : goodFilter l = true) : l.length ≤ 3 := by
  simp only [goodFilter, Bool.and_eq_true, decide_eq_true_eq] at h; exact h.1
theorem meets_of {l : List Tst} {e : Ev} (h : ∀ k, k < l.length → (tstAt l k).met e = true) : meets l e = true := by
  simp only [meets, List.all_eq_true]
  intro t ht
  obtain ⟨k, hk, rfl⟩ := List.getElem_of_mem ht
  have := h k hk
  simpa [tstAt, List.getElem?_eq_getElem hk] using this
theorem meets_not {l : List Tst} {e : Ev} {k : Nat} (hk : k < l.length) (h : (tstAt l k).met e = false) : meets l e = false := by
  cases hm : meets l e with
  | false => rfl
  | true =>
    simp only [meets, List.all_eq_true] at hm
    rw [hm _ (List.mem_of_getElem? (tstAt_get hk))] at h; cases h

theorem field_at (e : Ev) {f : Int} (h0 : 0 ≤ f) (h3 : f < 3) : (#[int e.f0, int e.f1, int e.f2] : Array Value)[f.toNat]? = some (int (e.field f)) := by
  obtain rfl | rfl | rfl : f = 0 ∨ f = 1 ∨ f = 2 := by omega
  all_goals rfl

set_option maxRecDepth 100000 in
set_option maxHeartbeats 1000000 in
theorem meets_any (l : List Tst) (e : Ev) (w : World) (hl : goodFilter l = true) : Calls Try.prog 105 #[.agg (encFil l).toArray, .agg #[int e.f0, int e.f1, int e.f2]] w fun r w' => r = .returned (.bool (meets l e)) ∧ Calm w w' := by
  have h3 := good_len hl
  have henc : (encFil l).toArray = #[int (tstAt l 0).fld, int (tstAt l 0).op, int (tstAt l 0).n, int (tstAt l 1).fld, int (tstAt l 1).op, int (tstAt l 1).n, int (tstAt l 2).fld, int (tstAt l 2).op, int (tstAt l 2).n, int l.length] := rfl
  have hat := fun (k : Nat) (hk : k < l.length) => encFil_at h3 hk
  obtain ⟨W, hW⟩ : ∃ W, (w.alloc (.cells (encFil l).toArray 102)).alloc (.cells #[int e.f0, int e.f1, int e.f2] 23) = W := ⟨_, rfl⟩
  have hs : W.heap.size = w.heap.size + 2 := by rw [← hW]; simp
  have hb0 : W.heap[w.heap.size]? = some (.cells (encFil l).toArray 102) := by rw [← hW, Below.heap_alloc _ _ _ (by simp)]; exact heap_alloc_new w _
  have hb1 : W.heap[w.heap.size + 1]? = some (.cells #[int e.f0, int e.f1, int e.f2] 23) := by
    have := heap_alloc_new (w.alloc (.cells (encFil l).toArray 102)) (.cells #[int e.f0, int e.f1, int e.f2] 23)
    rw [← hW]; simpa only [World.size_alloc] using this
  have hcal : Calm w W := by rw [← hW]; exact ((Touch.refl _ _).alloc _).alloc _
  have hmany : W.cell? ⟨w.heap.size, 9, none⟩ = some (int l.length) := by rw [box_cell hb0]; rfl
  have HB0 := hide hb0
  have HB1 := hide hb1
  have HC := hide hcal
  have HA := hide hat
  have HG := hide hl
  clear hb0 hb1 hcal hat hs hl
  rw [henc] at hW ⊢
  clear henc
  generalize (tstAt l 0).fld = a0 at *
  generalize (tstAt l 0).op = a1 at *
  generalize (tstAt l 0).n = a2 at *
  generalize (tstAt l 1).fld = a3 at *
  generalize (tstAt l 1).op = a4 at *
  generalize (tstAt l 1).n = a5 at *
  generalize (tstAt l 2).fld = a6 at *
  generalize (tstAt l 2).op = a7 at *
  generalize (tstAt l 2).n = a8 at *
  have h3i : (l.length : Int) ≤ 3 := by omega
  go_enter Try.func105, Try.ntmps105
  go_wp2
  clear hW hmany
  go_loopw [12] (fun i wr => ∃ k : Nat, k ≤ l.length ∧ i = int k ∧ Calm W wr ∧ ∀ j, j < k → (tstAt l j).met e = true) (fun i _ => l.length - (intOf i).toNat)
  case atStart => exact ⟨0, by omega, rfl, Touch.refl _ _, fun j hj => by omega⟩
  case round =>
    obtain ⟨k, hk, rfl, ht, hmet⟩ := hrel
    have HM := hide hmet
    have HT := hide ht
    clear hmet
    by_cases hlt : k < l.length
    · have hg := good_at (unhide HG) hlt
      have hf := good_fld hg
      obtain ⟨e0, e1, e2⟩ := unhide HA k hlt
      have c0 : wr.cell? ⟨w.heap.size, k * 3, none⟩ = some (int (tstAt l k).fld) := ht.cell (p := ⟨w.heap.size, k * 3, none⟩) (fun f => f) ((box_cell (unhide HB0) _).trans (by simpa using e0))
      have c1 : wr.cell? ⟨w.heap.size, k * 3 + 1, none⟩ = some (int (tstAt l k).op) := ht.cell (p := ⟨w.heap.size, k * 3 + 1, none⟩) (fun f => f) ((box_cell (unhide HB0) _).trans (by simpa using e1))
      have c2 : wr.cell? ⟨w.heap.size, k * 3 + 2, none⟩ = some (int (tstAt l k).n) := ht.cell (p := ⟨w.heap.size, k * 3 + 2, none⟩) (fun f => f) ((box_cell (unhide HB0) _).trans (by simpa using e2))
      have cf : wr.cell? ⟨w.heap.size + 1, (tstAt l k).fld.toNat, none⟩ = some (int (e.field (tstAt l k).fld)) := ht.cell (p := ⟨w.heap.size + 1, (tstAt l k).fld.toNat, none⟩) (fun f => f) ((box_cell (unhide HB1) _).trans (field_at e hf.1 hf.2))
      have hmm := metBy_met hg e
      have HMM := hide hmm
      clear e0 e1 e2 ht hmm
      generalize hT : tstAt l k = t at *
      have HTT := hide hT
      clear hT
      obtain ⟨f, o, n⟩ := t
      simp only at c0 c1 c2 cf hf HMM
      have hsz : w.heap.size + 1 < wr.heap.size := block_lt_of_cell cf
      go_wp2
      go_cut [22] (fun s wx => s = .bool (!Tst.metBy ⟨f, o, n⟩ (e.field f)) ∧ Calm wr wx)
      case first =>
        go_region_with (go_at_call 108; refine (meets1_any _ _ _ _ _).mono ?_; rintro r w3 ⟨rfl, ht3⟩)
        all_goals (go_wp2_with fail; go_meet; exact ⟨rfl, (((Touch.refl _ _).alloc _).drew).calm ht3⟩)
      case rest =>
        obtain ⟨rfl, hcc⟩ := hcut
        have HCC := hide hcc
        clear hcc c0 c1 c2 cf hsz
        cases hmb : Tst.metBy ⟨f, o, n⟩ (e.field f) with
        | true =>
          go_wp2
          go_roundw
          case rel =>
            refine ⟨k + 1, by omega, by go_num, (unhide HT).trans (unhide HCC), fun j hj => ?_⟩
            by_cases ej : j = k
            · subst ej; rw [unhide HTT, ← unhide HMM, hmb]
            · exact unhide HM j (by omega)
          case measure => simp [intOf]; omega
        | false =>
          go_wp2
          go_ret
          refine ⟨?_, ((unhide HC).trans (unhide HT)).trans (unhide HCC)⟩
          rw [meets_not hlt (e := e) (by rw [unhide HTT, ← unhide HMM, hmb])]
          rfl
    · have he : k = l.length := by omega
      subst he
      go_wp2
      go_ret
      refine ⟨?_, (unhide HC).trans (unhide HT)⟩
      rw [meets_of (unhide HM)]
      rfl

end Go.Proofs.Ytodfcpblcpogiaa

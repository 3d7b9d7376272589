/-
  A filter is made of a list of tests.
-/
import Derived.Test.YtodfcpblcpogiaaLogs
import Derived.Laws.IdiomCopy
namespace Go.Proofs.Ytodfcpblcpogiaa
open Go.RowKit

/-- Tests behind a slice's head. -/
def TestsAt (w : World) (a : Option Addr) (l : List Tst) : Prop := l = [] ∨ ∃ b o, a = some ⟨b, o, none⟩ ∧ ∀ (j : Nat) v, (l.flatMap Tst.enc)[j]? = some v → w.cell? ⟨b, o + j, none⟩ = some v
theorem TestsAt.calm {w w' : World} {a : Option Addr} {l : List Tst} (h : TestsAt w a l) (t : Calm w w') : TestsAt w' a l := by
  rcases h with h | ⟨b, o, rfl, h⟩
  · exact Or.inl h
  · exact Or.inr ⟨b, o, rfl, fun j v hj => t.cell (p := ⟨b, o + j, none⟩) (fun f => f) (h j v hj)⟩

theorem encs_len (l : List Tst) : (l.flatMap Tst.enc).length = l.length * 3 := by
  induction l with
  | nil => rfl
  | cons t l ih => simp only [List.flatMap_cons, List.length_append, ih, List.length_cons, Tst.enc, List.length_nil]; omega
theorem encs_at : ∀ (l : List Tst) (k : Nat), k < l.length → (l.flatMap Tst.enc)[k * 3]? = some (int (tstAt l k).fld) ∧ (l.flatMap Tst.enc)[k * 3 + 1]? = some (int (tstAt l k).op) ∧ (l.flatMap Tst.enc)[k * 3 + 2]? = some (int (tstAt l k).n)
  | [], k, h => by simp at h
  | t :: l, 0, _ => ⟨rfl, rfl, rfl⟩
  | t :: l, k + 1, h => by
    have := encs_at l k (by simpa using h)
    simp only [List.flatMap_cons, Tst.enc, List.cons_append, List.nil_append]
    rw [show (k + 1) * 3 = k * 3 + 1 + 1 + 1 by omega]
    exact this
theorem encs_one (l : List Tst) : ∀ v, v ∈ l.flatMap Tst.enc → v.oneCell' = true := fun v hv => by
  obtain ⟨t, _, ht⟩ := List.mem_flatMap.1 hv
  simp only [Tst.enc, List.mem_cons, List.not_mem_nil, or_false] at ht
  rcases ht with rfl | rfl | rfl <;> rfl

theorem info85 : (Try.prog.info? 85).map (·.size) = some 3 := by kernel_rfl

theorem touch_setCells (b : Nat) : ∀ (vs : List Value) (o : Nat) (w : World), Touch (fun k => k = b) w (w.setCells b o vs)
  | [], _, w => Touch.refl _ w
  | v :: r, o, w => ((Touch.refl (fun k => k = b) w).setCell (p := ⟨b, o, none⟩) (fun _ => rfl) v).trans (touch_setCells b r (o + 1) (w.setCell ⟨b, o, none⟩ v))

/-- copy, of tests. -/
theorem run_copy3 (w : World) (ty : TypeId) (b o dLen dCap : Nat) (a : Addr) (sLen sCap : Nat) (cs : List Value) (hn : cs.length = Nat.min sLen dLen * 3)
    (hsrc : ∀ j v, cs[j]? = some v → w.cell? (a.add j) = some v) (hc : ∀ j, j < cs.length → (w.cell? ⟨b, o + j, none⟩).isSome = true) (hf : ∀ j, j < cs.length → w.frozen? ⟨b, o + j, none⟩ = false) (h1 : ∀ v ∈ cs, v.oneCell' = true) :
    (Builtin.copy_ #[31, 31] ty #[.slice (some ⟨b, o, none⟩) dLen dCap, .slice (some a) sLen sCap]).run Try.prog w = .ok (goInt (Nat.min sLen dLen)) (w.setCells b o cs) := by
  have hl := run_loadCells_list (P := Try.prog) w a cs hsrc
  have hst := run_storeCells_cells (P := Try.prog) b o cs 0 w (by simpa using hc) (by simpa using hf) h1
  have hs := info85
  cases hq : Try.prog.info? 85 with
  | none => simp [hq] at hs
  | some i =>
    have hi : i.size = 3 := by simpa [hq] using hs
    simp [Builtin.copy_, run_underlying Try.underlying31, Builtin.lenOf, Builtin.firstCells, sizeOf, typeInfo, hq, hi, ← hn, hl, hst]
theorem run_copy3_nil (w : World) (ty : TypeId) (b o dLen dCap : Nat) (a : Option Addr) (sCap : Nat) :
    (Builtin.copy_ #[31, 31] ty #[.slice (some ⟨b, o, none⟩) dLen dCap, .slice a 0 sCap]).run Try.prog w = .ok (goInt 0) w := by
  have hs := info85
  cases hq : Try.prog.info? 85 with
  | none => simp [hq] at hs
  | some i =>
    have hst := run_storeCells_cells (P := Try.prog) b o [] 0 w (fun j hj => by simp at hj) (fun j hj => by simp at hj) (fun v hv => by simp at hv)
    have hst' : (storeCells ⟨b, o, none⟩ []).run Try.prog w = .ok () w := hst
    cases a with
    | none => simp [Builtin.copy_, run_underlying Try.underlying31, Builtin.lenOf, Builtin.firstCells, sizeOf, typeInfo, hq, hst']
    | some a =>
      have hl : (loadCells a 0).run Try.prog w = .ok #[] w := run_loadCells_list (P := Try.prog) w a [] (fun j v hj => by cases hj)
      simp [Builtin.copy_, run_underlying Try.underlying31, Builtin.lenOf, Builtin.firstCells, sizeOf, typeInfo, hq, hst', hl]

/-- A filter's cells: its tests, then noughts. -/
theorem encFil_split {l : List Tst} (h : l.length ≤ 3) {j : Nat} {v : Value} (hv : (encFil l)[j]? = some v) : (j < l.length * 3 ∧ (l.flatMap Tst.enc)[j]? = some v) ∨ (l.length * 3 ≤ j ∧ j < 10 ∧ (#[int 0, int 0, int 0, int 0, int 0, int 0, int 0, int 0, int 0, int l.length] : Array Value)[j]? = some v) := by
  have hj : j < 10 := by
    have := (List.getElem?_eq_some_iff.1 hv).1
    simpa [encFil_len] using this
  by_cases h1 : j < l.length * 3
  · left
    refine ⟨h1, ?_⟩
    obtain ⟨a1, a2, a3⟩ := encs_at l (j / 3) (by omega)
    obtain ⟨b1, b2, b3⟩ := encFil_at h (k := j / 3) (by omega)
    obtain e | e | e : j = j / 3 * 3 ∨ j = j / 3 * 3 + 1 ∨ j = j / 3 * 3 + 2 := by omega
    · rw [e] at hv ⊢; rw [b1] at hv; rw [← hv]; exact a1
    · rw [e] at hv ⊢; rw [b2] at hv; rw [← hv]; exact a2
    · rw [e] at hv ⊢; rw [b3] at hv; rw [← hv]; exact a3
  · right
    refine ⟨by omega, hj, ?_⟩
    match l, h, h1 with
    | [], _, _ => rw [← hv]; obtain rfl | rfl | rfl | rfl | rfl | rfl | rfl | rfl | rfl | rfl : j = 0 ∨ j = 1 ∨ j = 2 ∨ j = 3 ∨ j = 4 ∨ j = 5 ∨ j = 6 ∨ j = 7 ∨ j = 8 ∨ j = 9 := by omega
                  all_goals rfl
    | [a], _, h1 =>
      simp only [List.length_cons, List.length_nil] at h1
      rw [← hv]; obtain rfl | rfl | rfl | rfl | rfl | rfl | rfl : j = 3 ∨ j = 4 ∨ j = 5 ∨ j = 6 ∨ j = 7 ∨ j = 8 ∨ j = 9 := by omega
      all_goals rfl
    | [a, b], _, h1 =>
      simp only [List.length_cons, List.length_nil] at h1
      rw [← hv]; obtain rfl | rfl | rfl | rfl : j = 6 ∨ j = 7 ∨ j = 8 ∨ j = 9 := by omega
      all_goals rfl
    | [a, b, c], _, h1 =>
      simp only [List.length_cons, List.length_nil] at h1
      obtain rfl : j = 9 := by omega
      rw [← hv]; rfl
    | a :: b :: c :: d :: l, h, _ => simp at h

set_option maxRecDepth 100000 in
set_option maxHeartbeats 1000000 in
theorem filtersNew_any (a : Option Addr) (cap : Nat) (l : List Tst) (w : World) (hl : goodFilter l = true) (ht : TestsAt w a l) :
    Calls Try.prog 44 #[.slice a l.length cap] w fun e w' => e = .returned (.tuple #[.agg (encFil l).toArray, .bool true]) ∧ Calm w w' := by
  have h3 := good_len hl
  have h3i : ¬ (3 : Int) < l.length := by omega
  obtain ⟨W, hW⟩ : ∃ W, w.alloc (.cells #[int 0, int 0, int 0, int 0, int 0, int 0, int 0, int 0, int 0, int 0] 102) = W := ⟨_, rfl⟩
  have hcal : Calm w W := by rw [← hW]; exact (Touch.refl _ _).alloc _
  have hb0 : W.heap[w.heap.size]? = some (.cells #[int 0, int 0, int 0, int 0, int 0, int 0, int 0, int 0, int 0, int 0] 102) := by rw [← hW]; exact heap_alloc_new w _
  have HC := hide hcal
  have HB := hide hb0
  have HT := hide (ht.calm hcal)
  have HG := hide hl
  clear hcal hb0 ht hl
  go_enter Try.func44, Try.ntmps44
  go_wp2
  clear hW
  go_loopw [13] (fun p wr => ∃ k : Nat, k ≤ l.length ∧ p = int k ∧ Calm W wr) (fun p _ => l.length - (intOf p).toNat)
  case atStart => exact ⟨0, by omega, rfl, Touch.refl _ _⟩
  case round =>
    obtain ⟨k, hk, rfl, hc⟩ := hrel
    by_cases hlt : k < l.length
    · have hg := good_at (unhide HG) hlt
      rcases (unhide HT).calm hc with hnil | ⟨b, o, rfl, hcells⟩
      · rw [hnil] at hlt; simp at hlt
      · obtain ⟨e0, e1, e2⟩ := encs_at l k hlt
        have c0 : wr.cell? ⟨b, o + k * 3, none⟩ = some (int (tstAt l k).fld) := hcells _ _ e0
        have c1 : wr.cell? ⟨b, o + k * 3 + 1, none⟩ = some (int (tstAt l k).op) := by rw [Nat.add_assoc]; exact hcells _ _ e1
        have c2 : wr.cell? ⟨b, o + k * 3 + 2, none⟩ = some (int (tstAt l k).n) := by rw [Nat.add_assoc]; exact hcells _ _ e2
        have hbl := block_lt_of_cell c0
        simp only at hbl
        have HCC := hide hc
        clear hcells e0 e1 e2 hc
        generalize tstAt l k = t at *
        obtain ⟨f, op, n⟩ := t
        simp only at c0 c1 c2
        go_wp2_with (go_at_call 76; refine (good_any f op n _).mono ?_; rw [hg]; rintro r w3 ⟨rfl, ht3⟩)
        go_roundw
        case rel => exact ⟨k + 1, by omega, by go_num, (((unhide HCC).alloc _).calm ht3)⟩
        case measure => simp [intOf]; omega
    · have hke : k = l.length := by omega
      subst hke
      have HCC := hide hc
      clear hc
      obtain ⟨V, hV⟩ : ∃ V, wr.alloc (.cells #[int 0, int 0, int 0, int 0, int 0, int 0, int 0, int 0, int 0, int l.length] 102) = V := ⟨_, rfl⟩
      have hcV : Calm wr V := by rw [← hV]; exact (Touch.refl _ _).alloc _
      have hbV : V.heap[wr.heap.size]? = some (.cells #[int 0, int 0, int 0, int 0, int 0, int 0, int 0, int 0, int 0, int l.length] 102) := by rw [← hV]; exact heap_alloc_new wr _
      obtain ⟨V2, hrun, hcell, htouch⟩ : ∃ V2, (∀ ty, (Builtin.copy_ #[31, 31] ty #[.slice (some ⟨wr.heap.size, 0, none⟩) 3 3, .slice a l.length cap]).run Try.prog V = .ok (goInt l.length) V2) ∧ (∀ (j : Nat) v, (encFil l)[j]? = some v → V2.cell? ⟨wr.heap.size, j, none⟩ = some v) ∧ Touch (fun i => i = wr.heap.size) V V2 := by
        rcases ((unhide HT).calm (unhide HCC)).calm hcV with hnil | ⟨b, o, rfl, hcells⟩
        · subst hnil
          refine ⟨V, fun ty => run_copy3_nil V ty _ _ _ _ _ _, fun j v hv => ?_, Touch.refl _ _⟩
          rcases encFil_split (by simp) hv with ⟨h1, _⟩ | ⟨_, _, h2⟩
          · simp at h1
          · exact (box_cell hbV j).trans h2
        · have hmin : Nat.min l.length 3 = l.length := Nat.min_eq_left h3
          have hlen := encs_len l
          have hbc : ∀ j, j < 10 → (V.cell? ⟨wr.heap.size, j, none⟩).isSome = true := fun j hj => by
            rw [box_cell hbV j]
            obtain rfl | rfl | rfl | rfl | rfl | rfl | rfl | rfl | rfl | rfl : j = 0 ∨ j = 1 ∨ j = 2 ∨ j = 3 ∨ j = 4 ∨ j = 5 ∨ j = 6 ∨ j = 7 ∨ j = 8 ∨ j = 9 := by omega
            all_goals rfl
          refine ⟨V.setCells wr.heap.size 0 (l.flatMap Tst.enc), fun ty => ?_, fun j v hv => ?_, ?_⟩
          · have := run_copy3 V ty wr.heap.size 0 3 3 ⟨b, o, none⟩ l.length cap (l.flatMap Tst.enc) (by rw [hmin]; exact hlen) (fun j v hj => by rw [Addr.add_mid]; exact hcells j v hj) (fun j hj => by rw [Nat.zero_add]; exact hbc j (by omega)) (fun j _ => box_frozen hbV _) (encs_one l)
            rw [hmin] at this
            exact this
          · rcases encFil_split h3 hv with ⟨h1, h2⟩ | ⟨h1, h2, h4⟩
            · have := World.cell?_setCells_in wr.heap.size (l.flatMap Tst.enc) 0 V (fun j hj => by rw [Nat.zero_add]; exact hbc j (by omega)) j (by omega)
              rw [Nat.zero_add] at this
              rw [this]
              rw [List.getElem?_eq_getElem (by omega)] at h2
              exact h2
            · rw [World.cell?_setCells_out wr.heap.size _ 0 V _ (fun _ _ => Or.inr (by simp only; omega))]
              exact (box_cell hbV j).trans h4
          · exact touch_setCells _ _ _ V
      have f0 := hcell 0 _ rfl
      have f1 := hcell 1 _ rfl
      have f2 := hcell 2 _ rfl
      have f3 := hcell 3 _ rfl
      have f4 := hcell 4 _ rfl
      have f5 := hcell 5 _ rfl
      have f6 := hcell 6 _ rfl
      have f7 := hcell 7 _ rfl
      have f8 := hcell 8 _ rfl
      have f9 := hcell 9 _ rfl
      have hRlt : w.heap.size < wr.heap.size := by
        have h1 := (Array.getElem?_eq_some_iff.1 (unhide HB)).1
        have h2 := (unhide HCC).size
        omega
      have hR : V2.heap[w.heap.size]? = some (.cells #[int 0, int 0, int 0, int 0, int 0, int 0, int 0, int 0, int 0, int 0] 102) := (htouch.block _ (by have := hcV.size; omega) (by omega)).trans ((hcV.block _ hRlt (fun f => f)).trans (((unhide HCC).block _ (Array.getElem?_eq_some_iff.1 (unhide HB)).1 (fun f => f)).trans (unhide HB)))
      have r0 : V2.cell? ⟨w.heap.size, 0, none⟩ = some (int 0) := box_cell hR 0
      have r1 : V2.cell? ⟨w.heap.size, 1, none⟩ = some (int 0) := box_cell hR 1
      have r2 : V2.cell? ⟨w.heap.size, 2, none⟩ = some (int 0) := box_cell hR 2
      have r3 : V2.cell? ⟨w.heap.size, 3, none⟩ = some (int 0) := box_cell hR 3
      have r4 : V2.cell? ⟨w.heap.size, 4, none⟩ = some (int 0) := box_cell hR 4
      have r5 : V2.cell? ⟨w.heap.size, 5, none⟩ = some (int 0) := box_cell hR 5
      have r6 : V2.cell? ⟨w.heap.size, 6, none⟩ = some (int 0) := box_cell hR 6
      have r7 : V2.cell? ⟨w.heap.size, 7, none⟩ = some (int 0) := box_cell hR 7
      have r8 : V2.cell? ⟨w.heap.size, 8, none⟩ = some (int 0) := box_cell hR 8
      have r9 : V2.cell? ⟨w.heap.size, 9, none⟩ = some (int 0) := box_cell hR 9
      have hrf := box_frozen hR
      have hWS : W.heap.size ≤ wr.heap.size := (unhide HCC).size
      have hWs : w.heap.size < W.heap.size := (Array.getElem?_eq_some_iff.1 (unhide HB)).1
      have HTT : Hid (Calm w V2) := by
        have t1 : Touch (fun i => i = wr.heap.size) w V2 := ((((unhide HC).trans (unhide HCC)).trans hcV).mono (fun _ _ f => f.elim)).trans htouch
        exact t1.mono (fun i hi e => by omega)
      clear hcell htouch hR hcV hbV
      go_wp2
      refine bodyPost_ret (v := .tuple #[.agg #[int (tstAt l 0).fld, int (tstAt l 0).op, int (tstAt l 0).n, int (tstAt l 1).fld, int (tstAt l 1).op, int (tstAt l 1).n, int (tstAt l 2).fld, int (tstAt l 2).op, int (tstAt l 2).n, int l.length], .bool true]) (by simp [results, Try.results44, go_sem, r0, r1, r2, r3, r4, r5, r6, r7, r8, r9]) rfl ⟨rfl, ?_⟩
      exact (((((((((((unhide HTT).setCell (p := ⟨w.heap.size, 0, none⟩) (fun h => absurd h (Nat.lt_irrefl _)) _).setCell (p := ⟨w.heap.size, 1, none⟩) (fun h => absurd h (Nat.lt_irrefl _)) _).setCell (p := ⟨w.heap.size, 2, none⟩) (fun h => absurd h (Nat.lt_irrefl _)) _).setCell (p := ⟨w.heap.size, 3, none⟩) (fun h => absurd h (Nat.lt_irrefl _)) _).setCell (p := ⟨w.heap.size, 4, none⟩) (fun h => absurd h (Nat.lt_irrefl _)) _).setCell (p := ⟨w.heap.size, 5, none⟩) (fun h => absurd h (Nat.lt_irrefl _)) _).setCell (p := ⟨w.heap.size, 6, none⟩) (fun h => absurd h (Nat.lt_irrefl _)) _).setCell (p := ⟨w.heap.size, 7, none⟩) (fun h => absurd h (Nat.lt_irrefl _)) _).setCell (p := ⟨w.heap.size, 8, none⟩) (fun h => absurd h (Nat.lt_irrefl _)) _).setCell (p := ⟨w.heap.size, 9, none⟩) (fun h => absurd h (Nat.lt_irrefl _)) _)

end Go.Proofs.Ytodfcpblcpogiaa

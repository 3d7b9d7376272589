/-
  A new net.
-/
import Derived.Test.YtodfcpblcpogiaaLnew
import Derived.Deep.RegionHeld3
import Derived.Deep.DeepCutAuto
import Derived.Laws.Tables
namespace Go.Proofs.Ytodfcpblcpogiaa
open Go.RowKit

theorem Touch.fresh {S : Nat → Prop} {a b c : World} (h : Calm a b) (t : Touch S b c) (hs : ∀ k, k < a.heap.size → ¬ S k) : Calm a c :=
  ⟨t.os.trans h.os, t.tape.trans h.tape, t.output.trans h.output, Nat.le_trans h.size t.size, fun k hk _ => (t.block k (Nat.lt_of_lt_of_le hk h.size) (hs k hk)).trans (h.block k hk (fun f => f))⟩

/-- A new slot's cells. -/
abbrev slot0 : List Value := [.bool false, int (-1), int 0, int 0, int 0, int 0, int 0, int 0, int 0, int 0, int 0, int 0, .map none]

set_option maxHeartbeats 400000 in
theorem newSlot_any (w : World) : Calls Try.prog 90 #[] w fun e w' => e = .returned (.agg slot0.toArray) ∧ w' = w.alloc (.cells slot0.toArray 105) := by
  go_enter Try.func90, Try.ntmps90
  go_wp2
  exact bodyPost_ret (v := .agg slot0.toArray) (by simp [results, Try.results90, go_sem]) rfl ⟨rfl, rfl⟩

/-- A client's cells, of which the first k slots were made. -/
def cliTo (k : Nat) : List Value := [int (-1), int (-1), int 0, int 0, .bool false, int (if 0 < k then -1 else 0), int 0, int 0, int 0, int 0, int 0, int 0, int 0, int 0, int 0, int 0, .map none, .bool false, int (if 1 < k then -1 else 0), int 0, int 0, int 0, int 0, int 0, int 0, int 0, int 0, int 0, int 0, .map none, .slice none 0 0]
abbrev cli0 : List Value := [int 0, int 0, int 0, int 0, .bool false, int 0, int 0, int 0, int 0, int 0, int 0, int 0, int 0, int 0, int 0, int 0, .map none, .bool false, int 0, int 0, int 0, int 0, int 0, int 0, int 0, int 0, int 0, int 0, int 0, .map none, .slice none 0 0]
abbrev cli1 : List Value := [int (-1), int (-1), int 0, int 0, .bool false, int 0, int 0, int 0, int 0, int 0, int 0, int 0, int 0, int 0, int 0, int 0, .map none, .bool false, int 0, int 0, int 0, int 0, int 0, int 0, int 0, int 0, int 0, int 0, int 0, .map none, .slice none 0 0]

theorem build108 (w : World) : (Instr.build 108 #[(0, .int .i64 (-1)), (1, .int .i64 (-1))]).run Try.prog w = .ok (.agg cli1.toArray) w := run_build w 108 _ _ (by kernel_rfl)

theorem cliTo_in {k : Nat} (hk : k < 2) : ∀ i, i < 13 → (cliTo (k + 1))[4 + k * 13 + i]? = slot0[i]? := fun i hi => by
  rcases k with _ | _ | k
  · rcases i with _ | _ | _ | _ | _ | _ | _ | _ | _ | _ | _ | _ | _ | i <;> first | rfl | omega
  · rcases i with _ | _ | _ | _ | _ | _ | _ | _ | _ | _ | _ | _ | _ | i <;> first | rfl | omega
  · omega
theorem cliTo_out {k : Nat} (hk : k < 2) : ∀ i, i < 4 + k * 13 ∨ 4 + k * 13 + 13 ≤ i → (cliTo (k + 1))[i]? = (cliTo k)[i]? := fun i hi => by
  rcases k with _ | _ | k
  · rcases i with _ | _ | _ | _ | _ | _ | _ | _ | _ | _ | _ | _ | _ | _ | _ | _ | _ | _ | _ | _ | _ | _ | _ | _ | _ | _ | _ | _ | _ | _ | _ | i <;> first | rfl | omega
  · rcases i with _ | _ | _ | _ | _ | _ | _ | _ | _ | _ | _ | _ | _ | _ | _ | _ | _ | _ | _ | _ | _ | _ | _ | _ | _ | _ | _ | _ | _ | _ | _ | i <;> first | rfl | omega
  · omega

theorem cliTo_next {w : World} {b k : Nat} (hk : k < 2) (h : w.rangeAt b 0 (cliTo k)) (ht : w.there b (4 + k * 13) 13) : (w.setCells b (4 + k * 13) slot0).rangeAt b 0 (cliTo (k + 1)) := fun j v hj => by
  rw [Nat.zero_add]
  by_cases hin : 4 + k * 13 ≤ j ∧ j < 4 + k * 13 + 13
  · have h1 := cliTo_in hk (j - (4 + k * 13)) (by omega)
    rw [show 4 + k * 13 + (j - (4 + k * 13)) = j by omega, hj] at h1
    have := World.rangeAt_setCells_same w b (4 + k * 13) slot0 ht (j - (4 + k * 13)) v h1.symm
    rwa [show 4 + k * 13 + (j - (4 + k * 13)) = j by omega] at this
  · rw [cliTo_out hk j (by omega)] at hj
    rw [World.cell?_setCells_out b slot0 _ w _ (fun _ _ => by show j < 4 + k * 13 ∨ 4 + k * 13 + 13 ≤ j; omega)]
    have := h j v hj
    rwa [Nat.zero_add] at this

theorem there_calm {w w' : World} {b o n : Nat} (h : w.there b o n) (t : Calm w w') (hb : b < w.heap.size) : w'.there b o n := fun j hj => by
  have hk : w'.heap[b]? = w.heap[b]? := t.block b hb (fun f => f)
  exact ⟨by rw [World.cell?_of_block (w := w) hk]; exact (h j hj).1, by rw [World.frozen?_of_block (w := w) (a := ⟨b, o + j, none⟩) hk]; exact (h j hj).2⟩
theorem rangeAt_calm {w w' : World} {b o : Nat} {cs : List Value} (h : w.rangeAt b o cs) (t : Calm w w') (hb : b < w.heap.size) : w'.rangeAt b o cs := fun j v hj => by
  have hk : w'.heap[b]? = w.heap[b]? := t.block b hb (fun f => f)
  exact (World.cell?_of_block (w := w) hk).trans (h j v hj)
theorem box_there {w : World} {b t : Nat} {cs : List Value} (h : w.heap[b]? = some (.cells cs.toArray t)) : w.there b 0 cs.length := fun j hj => by
  rw [Nat.zero_add]
  exact ⟨by rw [box_cell h]; simp [hj], box_frozen h _⟩

theorem one_slot0 : slot0.toArray.all (fun v => v.oneCell') = true := all_oneCell_toArray (fun v hv => List.all_eq_true.1 (show slot0.all (fun v => v.oneCell') = true from rfl) v hv)
theorem one_cli1 : cli1.toArray.all (fun v => v.oneCell') = true := all_oneCell_toArray (fun v hv => List.all_eq_true.1 (show cli1.all (fun v => v.oneCell') = true from rfl) v hv)
theorem info108 : (Try.prog.info? 108).map (·.size) = some cli1.toArray.size := by kernel_rfl
theorem info108' : (Try.prog.info? 108).map (·.size) = some (cliTo 2).length := by kernel_rfl
theorem info105 : (Try.prog.info? 105).map (·.size) = some slot0.toArray.size := by kernel_rfl

set_option maxRecDepth 100000 in
set_option maxHeartbeats 400000 in
theorem clientsNew_any (w : World) : Calls Try.prog 67 #[] w fun e w' => e = .returned (.agg (cliTo 2).toArray) ∧ Calm w w' := by
  have hB := build108
  have hT0 := hide (box_there (w := (w.alloc (.cells cli0.toArray 108)).alloc (.cells cli0.toArray 108)) (b := w.heap.size + 1) (t := 108) (cs := cli0) (heap_alloc2_new _ _ _))
  have hT1 := hide (box_there (w := (w.alloc (.cells cli0.toArray 108)).alloc (.cells cli0.toArray 108)) (b := w.heap.size) (t := 108) (cs := cli0) (by rw [Below.heap_alloc _ _ _ (by simp)]; exact heap_alloc_new _ _))
  go_enter Try.func67, Try.ntmps67
  go_wp2_with (first
    | refine wpList_store_mid rfl 108 _ _ rfl (w.heap.size + 1) 0 cli1.toArray rfl rfl (unhide hT0) info108 one_cli1 ?_
    | fail)
  go_loopw [4] (fun i wr => ∃ k : Nat, k ≤ 2 ∧ i = .int .i64 k ∧ Calm w wr ∧ w.heap.size + 1 < wr.heap.size ∧ wr.there w.heap.size 0 31 ∧ wr.there (w.heap.size + 1) 0 31 ∧ wr.rangeAt (w.heap.size + 1) 0 (cliTo k)) (fun i _ => 2 - (intOf i).toNat)
  case atStart =>
    refine ⟨0, by omega, rfl, ?_, ?_, World.there_setCells (unhide hT1) _ _ _, World.there_setCells (unhide hT0) _ _ _, ?_⟩
    · exact Touch.fresh (((Touch.refl _ _).alloc _).alloc _) (Touch.setCells _ _ _ _) (fun k hk e => by omega)
    · have := (Touch.setCells (w.heap.size + 1) cli1 0 ((w.alloc (.cells cli0.toArray 108)).alloc (.cells cli0.toArray 108))).size
      simp at this
      exact Nat.lt_of_lt_of_le (by omega) this
    · exact World.rangeAt_setCells_same _ _ _ cli1 (unhide hT0)
  case round =>
    obtain ⟨k, hk, rfl, ht, hl1, h0, h1, hr⟩ := hrel
    clear hT0 hT1
    have H0 := hide h0
    have H1 := hide h1
    have HT := hide ht
    have HR := hide hr
    clear h0 h1 ht hr
    by_cases hlt : k < 2
    · have hth : ∀ c, (wr.alloc c).there (w.heap.size + 1) (4 + k * 13) slot0.toArray.size := fun c => there_calm (fun j hj => by
        have hj' : j < 13 := hj
        have := (unhide H1) (4 + k * 13 + j) (by omega)
        rwa [Nat.zero_add] at this) ((Touch.refl _ _).alloc c) hl1
      have HH := hide hth
      clear hth
      have hk2 : (k : Int) < 2 := by omega
      go_wp2_with (first
        | (go_at_call 90; refine (newSlot_any _).mono ?_; rintro e w' ⟨rfl, rfl⟩)
        | (refine wpList_store_mid rfl 105 (.tmp 10) (.tmp 8) rfl (w.heap.size + 1) (4 + k * 13) slot0.toArray ?hx ?hy ?hz info105 one_slot0 ?_; (case hx => exact rfl); (case hy => exact rfl); (case hz => exact unhide HH _)))
      go_roundw
      case rel =>
        refine ⟨k + 1, by omega, by go_num, ?_, ?_, World.there_setCells (there_calm (unhide H0) ((Touch.refl _ _).alloc _) (by omega)) _ _ _, World.there_setCells (there_calm (unhide H1) ((Touch.refl _ _).alloc _) (by omega)) _ _ _, ?_⟩
        · exact Touch.fresh ((unhide HT).alloc _) (Touch.setCells _ _ _ _) (fun k hk e => by omega)
        · have := (Touch.setCells (w.heap.size + 1) slot0 (4 + k * 13) (wr.alloc (.cells slot0.toArray 105))).size
          simp at this
          exact Nat.lt_of_lt_of_le (by omega) this
        · exact cliTo_next hlt (rangeAt_calm (unhide HR) ((Touch.refl _ _).alloc _) (by omega)) (unhide HH _)
      case measure => simp [intOf]; omega
    · have hk2 : k = 2 := by omega
      subst hk2
      have hth : wr.there w.heap.size 0 (cliTo 2).toArray.size := unhide H0
      have hone : ∀ v, v ∈ cliTo 2 → v.oneCell' = true := by
        intro v hv
        have : (cliTo 2).all (fun v => v.oneCell') = true := rfl
        exact List.all_eq_true.1 this v hv
      have hT : Touch (fun k => k = w.heap.size) wr (wr.setCells w.heap.size 0 (cliTo 2)) := Touch.setCells _ _ _ _
      have hC : Calm w (wr.setCells w.heap.size 0 (cliTo 2)) := Touch.fresh (unhide HT) hT (fun k hk e => by omega)
      have hR := World.rangeAt_setCells_same wr w.heap.size 0 (cliTo 2) (by simpa using hth)
      have HR2 := hide hR
      have HC := hide hC
      clear hR hC hT
      go_wp2_with (first
        | refine wpList_load_mid rfl 108 _ rfl (w.heap.size + 1) 0 rfl (cliTo 2) _ (unhide HR) Try.underlying108 rfl info108' ?_
        | refine wpList_store_mid rfl 108 _ _ rfl w.heap.size 0 (cliTo 2).toArray rfl rfl hth (by simpa using info108') (all_oneCell_toArray hone) ?_)
      exact bodyPost_ret (v := .agg (cliTo 2).toArray) (results_cell_mid Try.results67 _ _ w.heap.size 0 (cliTo 2) _ rfl (unhide HR2) Try.underlying108 rfl info108') rfl ⟨rfl, unhide HC⟩

abbrev zeros92 : List Value := [.pointer none, .pointer none, .pointer none, .pointer none, .pointer none, .pointer none, .pointer none, .pointer none, .pointer none, .pointer none, .pointer none, .pointer none, .pointer none, .pointer none, .pointer none, .pointer none, .pointer none, .pointer none, .pointer none, .pointer none, .pointer none, .pointer none, .pointer none, .pointer none, .pointer none, .pointer none, .pointer none, .pointer none, .pointer none, .pointer none, .pointer none, .pointer none, .pointer none, .pointer none, .pointer none, .pointer none, .pointer none, .pointer none, .pointer none, .pointer none, .pointer none, .pointer none, .pointer none, .pointer none, .pointer none, .pointer none, .pointer none, .pointer none, int 0, int 0, int 0, int 0, .bool false, int 0, int 0, int 0, int 0, int 0, int 0, int 0, int 0, int 0, int 0, int 0, .map none, .bool false, int 0, int 0, int 0, int 0, int 0, int 0, int 0, int 0, int 0, int 0, int 0, .map none, .slice none 0 0, int 0, int 0, int 0, int 0, .bool false, int 0, int 0, int 0, int 0, int 0, int 0, int 0, int 0, int 0, int 0, int 0, .map none, .bool false, int 0, int 0, int 0, int 0, int 0, int 0, int 0, int 0, int 0, int 0, int 0, .map none, .slice none 0 0, int 0, int 0, int 0, int 0, .bool false, int 0, int 0, int 0, int 0, int 0, int 0, int 0, int 0, int 0, int 0, int 0, .map none, .bool false, int 0, int 0, int 0, int 0, int 0, int 0, int 0, int 0, int 0, int 0, int 0, .map none, .slice none 0 0, int 0, int 0, int 0, int 0, .bool false, int 0, int 0, int 0, int 0, int 0, int 0, int 0, int 0, int 0, int 0, int 0, .map none, .bool false, int 0, int 0, int 0, int 0, int 0, int 0, int 0, int 0, int 0, int 0, int 0, .map none, .slice none 0 0]

/-- The cells of a new net. -/
def newCells (a : Option Addr) (n c : Nat) (qs : List Value) : List Value := [.bool false, .slice a n c] ++ qs ++ zeros92

/-- Stores one behind the other, from a place on. -/
theorem foldl_zip (pre post : List Value) : ∀ (qs mid : List Value) (done : List Value), mid.length = qs.length →
    List.foldl (fun cs x => Array.setIfInBounds cs (pre.length + x.snd) x.fst) (pre ++ done ++ mid ++ post).toArray (qs.zipIdx done.length) = (pre ++ done ++ qs ++ post).toArray
  | [], mid, done, h => by
    have : mid = [] := List.eq_nil_of_length_eq_zero (by simpa using h)
    subst this
    rfl
  | q :: qs, [], done, h => by simp at h
  | q :: qs, m :: mid, done, h => by
    have e1 : Array.setIfInBounds (pre ++ done ++ m :: mid ++ post).toArray (pre.length + done.length) q = (pre ++ (done ++ [q]) ++ mid ++ post).toArray := by
      rw [List.setIfInBounds_toArray]
      congr 1
      rw [List.append_assoc (pre ++ done), List.set_append_right _ _ (by simp)]
      simp
    rw [List.zipIdx_cons, List.foldl_cons]
    simp only
    rw [e1, show done.length + 1 = (done ++ [q]).length from by simp, foldl_zip pre post qs mid (done ++ [q]) (by simpa using h)]
    simp

theorem fold101 (a : Option Addr) (n c : Nat) (qs : List Value) (h : qs.length = 36) :
    List.foldl (fun cs x => Array.setIfInBounds cs (2 + x.snd) x.fst) ([Value.bool false, .slice a n c] ++ List.replicate 36 (Value.chan none) ++ zeros92).toArray qs.zipIdx = (newCells a n c qs).toArray := by
  have := foldl_zip [Value.bool false, .slice a n c] zeros92 qs (List.replicate 36 (Value.chan none)) [] (by rw [h]; rfl)
  exact this

/-- A net that is being made. -/
structure XQ (w : World) (b : Nat) (a : Option Addr) (n cap : Nat) (qs : List Value) (cl : Nat → List Value) : Prop where
  typ : ∃ cs, w.heap[b]? = some (.cells cs 111)
  closed : w.cell? ⟨b, 0, none⟩ = some (.bool false)
  tree : w.cell? ⟨b, 1, none⟩ = some (.slice a n cap)
  links : w.rangeAt b 2 qs
  known : ∀ j, j < 48 → w.cell? ⟨b, 38 + j, none⟩ = some (.pointer none)
  cls : ∀ c, c < 4 → w.rangeAt b (86 + c * 31) (cl c) ∧ (cl c).length = 31

theorem XQ.calm {w w' : World} {b : Nat} {a : Option Addr} {n cap : Nat} {qs : List Value} {cl : Nat → List Value} (h : XQ w b a n cap qs cl) (t : Calm w w') : XQ w' b a n cap qs cl := by
  have hc : ∀ o v, w.cell? ⟨b, o, none⟩ = some v → w'.cell? ⟨b, o, none⟩ = some v := fun o v hv => t.cell (p := ⟨b, o, none⟩) (fun f => f) hv
  obtain ⟨cs, hcs⟩ := h.typ
  exact ⟨⟨cs, (t.block b (Array.getElem?_eq_some_iff.1 hcs).1 (fun f => f)).trans hcs⟩, hc _ _ h.closed, hc _ _ h.tree, fun j v hj => hc _ _ (h.links j v hj), fun j hj => hc _ _ (h.known j hj), fun c k => ⟨fun j v hj => hc _ _ ((h.cls c k).1 j v hj), (h.cls c k).2⟩⟩

theorem XQ.fr {w : World} {b : Nat} {a : Option Addr} {n cap : Nat} {qs : List Value} {cl : Nat → List Value} (h : XQ w b a n cap qs cl) (o : Nat) : w.frozen? ⟨b, o, none⟩ = false := by
  obtain ⟨cs, hcs⟩ := h.typ
  exact box_frozen hcs o

/-- A client is made. -/
theorem XQ.setAll {w : World} {b : Nat} {a : Option Addr} {n cap : Nat} {qs : List Value} {cl : Nat → List Value} (h : XQ w b a n cap qs cl) (hq : qs.length = 36) (k : Nat) (hk : k < 4) (vs : List Value) (hv : vs.length = 31) :
    XQ (w.setCells b (86 + k * 31) vs) b a n cap qs (fun c => if c = k then vs else cl c) := by
  have hne : ∀ o' u, w.cell? ⟨b, o', none⟩ = some u → (o' < 86 + k * 31 ∨ 86 + k * 31 + 31 ≤ o') → (w.setCells b (86 + k * 31) vs).cell? ⟨b, o', none⟩ = some u := fun o' u hu hn =>
    (World.cell?_setCells_out b vs _ w _ (fun _ _ => by show o' < 86 + k * 31 ∨ 86 + k * 31 + vs.length ≤ o'; omega)).trans hu
  have hty : ∀ (vs : List Value) (o : Nat) (w : World), (∃ cs, w.heap[b]? = some (.cells cs 111)) → ∃ cs, (w.setCells b o vs).heap[b]? = some (.cells cs 111) := by
    intro vs
    induction vs with
    | nil => intro o w h; exact h
    | cons v r ih => intro o w h; exact ih _ _ (typ_setCell h _ _)
  refine ⟨hty _ _ _ h.typ, hne _ _ h.closed (by omega), hne _ _ h.tree (by omega), fun j v hj => hne _ _ (h.links j v hj) (by have := (List.getElem?_eq_some_iff.1 hj).1; omega), fun i hi => hne _ _ (h.known i hi) (by omega), fun c hc => ?_⟩
  by_cases e : c = k
  · subst e
    simp only [if_true]
    refine ⟨World.rangeAt_setCells_same w b _ vs (fun j hj => ⟨?_, h.fr _⟩), hv⟩
    have hj' : j < (cl c).length := by rw [(h.cls c hc).2]; omega
    rw [(h.cls c hc).1 j _ (List.getElem?_eq_getElem hj')]; rfl
  · simp only [if_neg e]
    exact ⟨fun j v hj => hne _ _ ((h.cls c hc).1 j v hj) (by have := (List.getElem?_eq_some_iff.1 hj).1; have := (h.cls c hc).2; omega), (h.cls c hc).2⟩

theorem newCells_at (a : Option Addr) (n c : Nat) (qs : List Value) (h : qs.length = 36) (w : World) (g : Nat) (hg : w.heap[g]? = some (.cells (newCells a n c qs).toArray 111)) :
    XQ w g a n c qs (fun _ => cli0) := by
  have hc : ∀ j, w.cell? ⟨g, j, none⟩ = (newCells a n c qs)[j]? := fun j => by rw [box_cell hg]; simp
  have hz : ∀ j, 38 ≤ j → (newCells a n c qs)[j]? = zeros92[j - 38]? := fun j hj => by
    rw [newCells, List.getElem?_append_right (by simp [h]; omega)]
    simp only [List.length_append, h, List.length_cons, List.length_nil]
  refine ⟨⟨_, hg⟩, hc 0, hc 1, fun j v hj => ?_, fun j hj => ?_, fun k hk => ⟨fun j v hj => ?_, rfl⟩⟩
  · have hjl : j < qs.length := (List.getElem?_eq_some_iff.1 hj).1
    rw [hc, newCells, List.append_assoc, List.getElem?_append_right (by simp), List.getElem?_append_left (by simp; omega)]
    simpa using hj
  · rw [hc, hz _ (by omega), show 38 + j - 38 = j from by omega]
    have : zeros92 = List.replicate 48 (Value.pointer none) ++ (cli0 ++ cli0 ++ cli0 ++ cli0) := rfl
    rw [this, List.getElem?_append_left (by rw [List.length_replicate]; exact hj), List.getElem?_replicate, if_pos hj]
  · have hjl : j < 31 := (List.getElem?_eq_some_iff.1 hj).1
    rw [hc, hz _ (by omega), show 86 + k * 31 + j - 38 = 48 + k * 31 + j from by omega]
    rw [← hj]
    rcases k with _ | _ | _ | _ | k
    all_goals first | omega | (rcases j with _ | _ | _ | _ | _ | _ | _ | _ | _ | _ | _ | _ | _ | _ | _ | _ | _ | _ | _ | _ | _ | _ | _ | _ | _ | _ | _ | _ | _ | _ | _ | j <;> first | omega | rfl)

end Go.Proofs.Ytodfcpblcpogiaa

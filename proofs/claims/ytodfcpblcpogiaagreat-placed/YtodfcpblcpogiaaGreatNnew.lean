/-
  A new net.
-/
import Derived.Test.YtodfcpblcpogiaaGreatCnew
import Derived.Laws.Tables
namespace Go.Proofs.YtodfcpblcpogiaaGreat
open Go.RowKit

abbrev zeros92 : List Value := [.pointer none, .pointer none, .pointer none, .pointer none, .pointer none, .pointer none, .pointer none, .pointer none, .pointer none, .pointer none, .pointer none, .pointer none, .pointer none, .pointer none, .pointer none, .pointer none, .pointer none, .pointer none, .pointer none, .pointer none, .pointer none, .pointer none, .pointer none, .pointer none, .pointer none, .pointer none, .pointer none, .pointer none, .pointer none, .pointer none, .pointer none, .pointer none, .pointer none, .pointer none, .pointer none, .pointer none, .pointer none, .pointer none, .pointer none, .pointer none, .pointer none, .pointer none, .pointer none, .pointer none, .pointer none, .pointer none, .pointer none, .pointer none, int 0, int 0, int 0, int 0, .bool false, int 0, int 0, int 0, int 0, int 0, int 0, int 0, int 0, int 0, int 0, int 0, .map none, .bool false, int 0, int 0, int 0, int 0, int 0, int 0, int 0, int 0, int 0, int 0, int 0, .map none, .slice none 0 0, int 0, int 0, int 0, int 0, .bool false, int 0, int 0, int 0, int 0, int 0, int 0, int 0, int 0, int 0, int 0, int 0, .map none, .bool false, int 0, int 0, int 0, int 0, int 0, int 0, int 0, int 0, int 0, int 0, int 0, .map none, .slice none 0 0, int 0, int 0, int 0, int 0, .bool false, int 0, int 0, int 0, int 0, int 0, int 0, int 0, int 0, int 0, int 0, int 0, .map none, .bool false, int 0, int 0, int 0, int 0, int 0, int 0, int 0, int 0, int 0, int 0, int 0, .map none, .slice none 0 0, int 0, int 0, int 0, int 0, .bool false, int 0, int 0, int 0, int 0, int 0, int 0, int 0, int 0, int 0, int 0, int 0, .map none, .bool false, int 0, int 0, int 0, int 0, int 0, int 0, int 0, int 0, int 0, int 0, int 0, .map none, .slice none 0 0]

/-- The cells of a new net. -/
def newCells (a : Option Addr) (n c : Nat) (qs : List Value) : List Value := [.bool false, .slice a n c] ++ qs ++ zeros92

/-- Stores one behind the other, from a place on. -/
theorem foldl_zip (pre post : List Value) : ∀ (qs mid : List Value) (done : List Value), mid.length = qs.length →
    List.foldl (fun cs x => Array.setIfInBounds cs (pre.length + x.snd) x.fst) (pre ++ done ++ mid ++ post).toArray (qs.zipIdx done.length) = (pre ++ done ++ qs ++ post).toArray
  | [], mid, done, h => by
    have : mid = [] := List.eq_nil_of_length_eq_zero (by simpa using h)
    subst this
    rfl
  | q :: qs, [], done, h => by simp at h
  | q :: qs, m :: mid, done, h => by
    have e1 : Array.setIfInBounds (pre ++ done ++ m :: mid ++ post).toArray (pre.length + done.length) q = (pre ++ (done ++ [q]) ++ mid ++ post).toArray := by
      rw [List.setIfInBounds_toArray]
      congr 1
      rw [List.append_assoc (pre ++ done), List.set_append_right _ _ (by simp)]
      simp
    rw [List.zipIdx_cons, List.foldl_cons]
    simp only
    rw [e1, show done.length + 1 = (done ++ [q]).length from by simp, foldl_zip pre post qs mid (done ++ [q]) (by simpa using h)]
    simp

theorem fold101 (a : Option Addr) (n c : Nat) (qs : List Value) (h : qs.length = 36) :
    List.foldl (fun cs x => Array.setIfInBounds cs (2 + x.snd) x.fst) ([Value.bool false, .slice a n c] ++ List.replicate 36 (Value.chan none) ++ zeros92).toArray qs.zipIdx = (newCells a n c qs).toArray := by
  have := foldl_zip [Value.bool false, .slice a n c] zeros92 qs (List.replicate 36 (Value.chan none)) [] (by rw [h]; rfl)
  exact this

theorem typ_setCell {w : World} {b t : Nat} (h : ∃ cs, w.heap[b]? = some (.cells cs t)) (o : Nat) (v : Value) : ∃ cs, (w.setCell ⟨b, o, none⟩ v).heap[b]? = some (.cells cs t) := by
  obtain ⟨cs, h⟩ := h
  exact ⟨_, heap_setCell_same _ _ _ _ _ _ h⟩

/-- A net that is being made. -/
structure XQ (w : World) (b : Nat) (a : Option Addr) (n cap : Nat) (qs : List Value) (cl : Nat → List Value) : Prop where
  typ : ∃ cs, w.heap[b]? = some (.cells cs 102)
  closed : w.cell? ⟨b, 0, none⟩ = some (.bool false)
  tree : w.cell? ⟨b, 1, none⟩ = some (.slice a n cap)
  links : w.rangeAt b 2 qs
  known : ∀ j, j < 48 → w.cell? ⟨b, 38 + j, none⟩ = some (.pointer none)
  cls : ∀ c, c < 4 → w.rangeAt b (86 + c * 31) (cl c) ∧ (cl c).length = 31

theorem XQ.calm {w w' : World} {b : Nat} {a : Option Addr} {n cap : Nat} {qs : List Value} {cl : Nat → List Value} (h : XQ w b a n cap qs cl) (t : Calm w w') : XQ w' b a n cap qs cl := by
  have hc : ∀ o v, w.cell? ⟨b, o, none⟩ = some v → w'.cell? ⟨b, o, none⟩ = some v := fun o v hv => t.cell (p := ⟨b, o, none⟩) (fun f => f) hv
  obtain ⟨cs, hcs⟩ := h.typ
  exact ⟨⟨cs, (t.block b (Array.getElem?_eq_some_iff.1 hcs).1 (fun f => f)).trans hcs⟩, hc _ _ h.closed, hc _ _ h.tree, fun j v hj => hc _ _ (h.links j v hj), fun j hj => hc _ _ (h.known j hj), fun c k => ⟨fun j v hj => hc _ _ ((h.cls c k).1 j v hj), (h.cls c k).2⟩⟩

theorem XQ.fr {w : World} {b : Nat} {a : Option Addr} {n cap : Nat} {qs : List Value} {cl : Nat → List Value} (h : XQ w b a n cap qs cl) (o : Nat) : w.frozen? ⟨b, o, none⟩ = false := by
  obtain ⟨cs, hcs⟩ := h.typ
  exact box_frozen hcs o

theorem XQ.set {w : World} {b : Nat} {a : Option Addr} {n cap : Nat} {qs : List Value} {cl : Nat → List Value} (h : XQ w b a n cap qs cl) (hq : qs.length = 36) (k j : Nat) (hk : k < 4) (hj : j < 31) (v : Value) :
    XQ (w.setCell ⟨b, 86 + k * 31 + j, none⟩ v) b a n cap qs (fun c => if c = k then (cl k).set j v else cl c) := by
  have hne : ∀ o' u, w.cell? ⟨b, o', none⟩ = some u → o' ≠ 86 + k * 31 + j → (w.setCell ⟨b, 86 + k * 31 + j, none⟩ v).cell? ⟨b, o', none⟩ = some u := fun o' u hu hn =>
    (World.cell?_setCell_other w _ _ _ (by intro e; have := congrArg Addr.off e; exact hn this.symm)).trans hu
  refine ⟨typ_setCell h.typ _ _, hne _ _ h.closed (by omega), hne _ _ h.tree (by omega), rangeAt_other h.links (by omega) v, fun i hi => hne _ _ (h.known i hi) (by omega), fun c hc => ?_⟩
  by_cases e : c = k
  · subst e
    simp only [if_true]
    exact ⟨rangeAt_set (h.cls c hc).1 j v, by rw [List.length_set]; exact (h.cls c hc).2⟩
  · simp only [if_neg e]
    exact ⟨rangeAt_other (h.cls c hc).1 (by have := (h.cls c hc).2; omega) v, (h.cls c hc).2⟩

/-- A client is made. -/
theorem XQ.setAll {w : World} {b : Nat} {a : Option Addr} {n cap : Nat} {qs : List Value} {cl : Nat → List Value} (h : XQ w b a n cap qs cl) (hq : qs.length = 36) (k : Nat) (hk : k < 4) (vs : List Value) (hv : vs.length = 31) :
    XQ (w.setCells b (86 + k * 31) vs) b a n cap qs (fun c => if c = k then vs else cl c) := by
  have hne : ∀ o' u, w.cell? ⟨b, o', none⟩ = some u → (o' < 86 + k * 31 ∨ 86 + k * 31 + 31 ≤ o') → (w.setCells b (86 + k * 31) vs).cell? ⟨b, o', none⟩ = some u := fun o' u hu hn =>
    (World.cell?_setCells_out b vs _ w _ (fun _ _ => by show o' < 86 + k * 31 ∨ 86 + k * 31 + vs.length ≤ o'; omega)).trans hu
  have hty : ∀ (vs : List Value) (o : Nat) (w : World), (∃ cs, w.heap[b]? = some (.cells cs 102)) → ∃ cs, (w.setCells b o vs).heap[b]? = some (.cells cs 102) := by
    intro vs
    induction vs with
    | nil => intro o w h; exact h
    | cons v r ih => intro o w h; exact ih _ _ (typ_setCell h _ _)
  refine ⟨hty _ _ _ h.typ, hne _ _ h.closed (by omega), hne _ _ h.tree (by omega), fun j v hj => hne _ _ (h.links j v hj) (by have := (List.getElem?_eq_some_iff.1 hj).1; omega), fun i hi => hne _ _ (h.known i hi) (by omega), fun c hc => ?_⟩
  by_cases e : c = k
  · subst e
    simp only [if_true]
    refine ⟨World.rangeAt_setCells_same w b _ vs (fun j hj => ⟨?_, h.fr _⟩), hv⟩
    have hj' : j < (cl c).length := by rw [(h.cls c hc).2]; omega
    rw [(h.cls c hc).1 j _ (List.getElem?_eq_getElem hj')]; rfl
  · simp only [if_neg e]
    exact ⟨fun j v hj => hne _ _ ((h.cls c hc).1 j v hj) (by have := (List.getElem?_eq_some_iff.1 hj).1; have := (h.cls c hc).2; omega), (h.cls c hc).2⟩

theorem newCells_at (a : Option Addr) (n c : Nat) (qs : List Value) (h : qs.length = 36) (w : World) (g : Nat) (hg : w.heap[g]? = some (.cells (newCells a n c qs).toArray 102)) :
    XQ w g a n c qs (fun _ => cli0) := by
  have hc : ∀ j, w.cell? ⟨g, j, none⟩ = (newCells a n c qs)[j]? := fun j => by rw [box_cell hg]; simp
  have hz : ∀ j, 38 ≤ j → (newCells a n c qs)[j]? = zeros92[j - 38]? := fun j hj => by
    rw [newCells, List.getElem?_append_right (by simp [h]; omega)]
    simp only [List.length_append, h, List.length_cons, List.length_nil]
  refine ⟨⟨_, hg⟩, hc 0, hc 1, fun j v hj => ?_, fun j hj => ?_, fun k hk => ⟨fun j v hj => ?_, rfl⟩⟩
  · have hjl : j < qs.length := (List.getElem?_eq_some_iff.1 hj).1
    rw [hc, newCells, List.append_assoc, List.getElem?_append_right (by simp), List.getElem?_append_left (by simp; omega)]
    simpa using hj
  · rw [hc, hz _ (by omega), show 38 + j - 38 = j from by omega]
    have : zeros92 = List.replicate 48 (Value.pointer none) ++ (cli0 ++ cli0 ++ cli0 ++ cli0) := rfl
    rw [this, List.getElem?_append_left (by rw [List.length_replicate]; exact hj), List.getElem?_replicate, if_pos hj]
  · have hjl : j < 31 := (List.getElem?_eq_some_iff.1 hj).1
    rw [hc, hz _ (by omega), show 86 + k * 31 + j - 38 = 48 + k * 31 + j from by omega]
    rw [← hj]
    rcases k with _ | _ | _ | _ | k
    all_goals first | omega | (rcases j with _ | _ | _ | _ | _ | _ | _ | _ | _ | _ | _ | _ | _ | _ | _ | _ | _ | _ | _ | _ | _ | _ | _ | _ | _ | _ | _ | _ | _ | _ | _ | j <;> first | omega | rfl)

set_option maxRecDepth 100000 in
theorem built101 (parts : List (Nat × Value)) : Tryz.prog.built 102 parts = Instr.fill ((#[(0, 1), (1, 1), (2, 36), (38, 48), (86, 124)] : Array (Nat × Nat))[·]?) ([Value.bool false, .slice none 0 0] ++ List.replicate 36 (Value.chan none) ++ zeros92).toArray parts := by kernel_rfl

theorem fill_cons {place : Nat → Option (Nat × Nat)} {cells : Array Value} {i : Nat} {v : Value} {rest : List (Nat × Value)} {off size : Nat} (h : place i = some (off, size)) (h1 : v.cells.size = size) (h2 : off + v.cells.size ≤ cells.size) :
    Instr.fill place cells ((i, v) :: rest) = Instr.fill place (List.foldl (fun cs x => Array.setIfInBounds cs (off + x.snd) x.fst) cells v.cells.toList.zipIdx) rest := by
  rw [Instr.fill]
  simp only [h]
  have hc : (decide (v.cells.size ≠ size) || decide (off + v.cells.size > cells.size)) = false := by
    rw [Bool.or_eq_false_iff]
    exact ⟨decide_eq_false (by omega), decide_eq_false (by omega)⟩
  rw [if_neg (by rw [hc]; decide), ← Array.foldl_toList, Array.toList_zipIdx]

set_option maxRecDepth 100000 in
theorem run_build101 (w : World) (a : Option Addr) (n c : Nat) (qs : List Value) (h : qs.length = 36) : (Instr.build 102 #[(1, .agg #[.slice a n c]), (2, .agg qs.toArray)]).run Tryz.prog w = .ok (.agg (newCells a n c qs).toArray) w := by
  refine run_build w 102 _ _ ?_
  have hs : (Value.agg qs.toArray).cells.size = 36 := by simpa [Value.cells] using h
  have hA : List.foldl (fun cs (x : Value × Nat) => Array.setIfInBounds cs (1 + x.snd) x.fst) ([Value.bool false, .slice none 0 0] ++ List.replicate 36 (Value.chan none) ++ zeros92).toArray (Value.agg #[Value.slice a n c]).cells.toList.zipIdx = ([Value.bool false, .slice a n c] ++ List.replicate 36 (Value.chan none) ++ zeros92).toArray := by kernel_rfl
  have z2 : ([Value.bool false, .slice a n c] ++ List.replicate 36 (Value.chan none) ++ zeros92).toArray.size = 210 := rfl
  rw [built101, ← fold101 a n c qs h]
  rw [show (#[(1, Value.agg #[.slice a n c]), (2, .agg qs.toArray)] : Array (Nat × Value)).toList = [(1, Value.agg #[.slice a n c]), (2, .agg qs.toArray)] from rfl]
  rw [fill_cons (off := 1) (size := 1) rfl rfl (by exact (show 2 ≤ 210 by decide)), hA, fill_cons (off := 2) (size := 36) rfl hs (by rw [z2, hs]; decide)]
  rfl

end Go.Proofs.YtodfcpblcpogiaaGreat

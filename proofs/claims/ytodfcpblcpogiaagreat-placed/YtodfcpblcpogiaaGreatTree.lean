/-
  Trees: tree.New, Neighbours, links.New.
-/
import Derived.Test.YtodfcpblcpogiaaGreatApp
namespace Go.Proofs.YtodfcpblcpogiaaGreat
open Go.RowKit

/-- A store into a block in which there are no numbers. -/
theorem IntsAt.set_other {w : World} {a : Option Addr} {n : Nat} {f : Nat → Int} (h : IntsAt w a n f) (g o : Nat) (v : Value) (hg : ∀ o' z, w.cell? ⟨g, o', none⟩ ≠ some (.int .i64 z)) : IntsAt (w.setCell ⟨g, o, none⟩ v) a n f := by
  rcases h with h | ⟨b, o1, rfl, h⟩
  · exact Or.inl h
  · refine Or.inr ⟨b, o1, rfl, fun j hj => ?_⟩
    have hc := h j hj
    by_cases e : b = g
    · subst e; exact absurd hc (hg _ _)
    · exact (World.cell?_setCell_other w _ _ _ (by intro x; have := congrArg Addr.block x; exact e this.symm)).trans hc

/-- The i-th number may be the parent of broker i + 1. -/
def okB (f : Nat → Int) (i : Nat) : Bool := decide (0 ≤ f i) && decide (f i ≤ i)
/-- The first n numbers are a tree. -/
def goodB (f : Nat → Int) (n : Nat) : Bool := decide (n ≤ 5) && (List.range n).all (okB f)

theorem good_ok {f : Nat → Int} {n : Nat} (h : goodB f n = true) : n ≤ 5 ∧ ∀ i, i < n → okB f i = true := by
  simp [goodB] at h; exact ⟨h.1, fun i hi => h.2 i hi⟩
theorem good_of {f : Nat → Int} {n : Nat} (h : n ≤ 5) (g : ∀ i, i < n → okB f i = true) : goodB f n = true := by
  simp [goodB]; exact ⟨h, fun i hi => g i hi⟩
theorem bad_of {f : Nat → Int} {n k : Nat} (hk : k < n) (h : okB f k = false) : goodB f n = false := by
  cases hg : goodB f n with
  | false => rfl
  | true => have := (good_ok hg).2 k hk; rw [this] at h; cases h
theorem bad_long {f : Nat → Int} {n : Nat} (hk : 5 < n) : goodB f n = false := by simp [goodB]; omega

set_option maxRecDepth 100000 in
set_option maxHeartbeats 400000 in
theorem treeNew_any (b o n cap : Nat) (f : Nat → Int) (w : World) (hm : n ≤ maxLen) (h : ∀ j, j < n → w.cell? ⟨b, o + j, none⟩ = some (.int .i64 (f j))) :
    Calls Tryz.prog 66 #[.slice (some ⟨b, o, none⟩) n cap] w fun e w' =>
      ((goodB f n = false ∧ e = .returned (.tuple #[.agg #[.slice none 0 0], .bool false])) ∨
       (goodB f n = true ∧ ∃ a' c', e = .returned (.tuple #[.agg #[.slice a' n c'], .bool true]) ∧ IntsAt w' a' n f)) ∧ Calm w w' := by
  unfold maxLen at hm
  by_cases hlong : 6 ≤ n
  · have hb := hide (bad_long (f := f) (n := n) (by omega))
    clear h
    go_enter Tryz.func66, Tryz.ntmps66
    go_wp2
    exact bodyPost_ret (v := .tuple #[.agg #[.slice none 0 0], .bool false]) (by simp [results, Tryz.results66, go_sem]) rfl ⟨Or.inl ⟨unhide hb, rfl⟩, (Touch.refl _ _).alloc _⟩
  · have ht := (Touch.refl (fun _ => False) w).alloc (.cells #[.slice none 0 0] 88)
    have h' : ∀ j, j < n → (w.alloc (.cells #[.slice none 0 0] 88)).cell? ⟨b, o + j, none⟩ = some (.int .i64 (f j)) := fun j hj => ht.cell (p := ⟨b, o + j, none⟩) (fun f => f) (h j hj)
    have H := hide h'
    have HT := hide ht
    clear h h' ht
    go_enter Tryz.func66, Tryz.ntmps66
    go_wp2
    go_loop [12] (fun i => ∃ k : Nat, k ≤ n ∧ i = .int .i64 k ∧ ∀ i, i < k → okB f i = true) (fun i => n - (intOf i).toNat)
    case atStart => exact ⟨0, by omega, rfl, fun i hi => by omega⟩
    case round =>
      obtain ⟨k, hk, rfl, hok⟩ := hrel
      have HOK := hide hok
      clear hok
      by_cases hlt : k < n
      · have hc := unhide H k hlt
        by_cases h0 : 0 ≤ f k
        · by_cases h1 : f k ≤ k
          · go_wp2
            go_round
            case rel =>
              refine ⟨k + 1, by omega, by go_num, fun i hi => ?_⟩
              by_cases e : i = k
              · subst e; simp [okB, h0, h1]
              · exact unhide HOK i (by omega)
            case measure => simp [intOf]; omega
          · go_wp2
            exact bodyPost_ret (v := .tuple #[.agg #[.slice none 0 0], .bool false]) (by simp [results, Tryz.results66, go_sem]) rfl ⟨Or.inl ⟨bad_of hlt (by simp [okB]; omega), rfl⟩, unhide HT⟩
        · go_wp2
          exact bodyPost_ret (v := .tuple #[.agg #[.slice none 0 0], .bool false]) (by simp [results, Tryz.results66, go_sem]) rfl ⟨Or.inl ⟨bad_of hlt (by simp [okB]; omega), rfl⟩, unhide HT⟩
      · have hkn : k = n := by omega
        subst hkn
        go_wp2_with fail
        refine (clone_any b o k cap f _ (by omega) (unhide H)).mono ?_
        rintro e w1 ⟨a', c', rfl, hI, hc1⟩
        have hbx := hc1.box (fun f => f)
        have e0 : w1.cell? ⟨w.heap.size, 0, none⟩ = some (.slice none 0 0) := box_cell hbx 0
        have fz := box_frozen hbx
        have HI : Hid (IntsAt (w1.setCell ⟨w.heap.size, 0, none⟩ (.slice a' k c')) a' k f) := hI.set_other w.heap.size 0 _ (fun o' => by
          rw [box_cell hbx o']
          rcases o' with _ | o'
          · exact fun z e => by cases e
          · exact fun z e => by simp at e)
        clear hI hbx
        go_wp2
        refine bodyPost_ret (v := .tuple #[.agg #[.slice a' k c'], .bool true]) (by simp [results, Tryz.results66, go_sem, e0]) rfl ⟨Or.inr ⟨good_of (by omega) (unhide HOK), a', c', rfl, ?_⟩, ((unhide HT).calm hc1).setCell (fun h => absurd h (Nat.lt_irrefl _)) _⟩
        exact unhide HI


set_option maxRecDepth 100000 in
set_option maxHeartbeats 400000 in
theorem parent_any (b o n cap : Nat) (c : Nat) (v : Int) (w : World) (hn : n ≤ 5) (h0 : 0 < c) (hc : c ≤ n) (hcell : w.cell? ⟨b, o + (c - 1), none⟩ = some (.int .i64 v)) :
    Calls Tryz.prog 120 #[.agg #[.slice (some ⟨b, o, none⟩) n cap], .int .i64 c] w fun e w' => e = .returned (.int .i64 v) ∧ Calm w w' := by
  have hc1 : ((c : Int) - 1).toNat = c - 1 := by omega
  have hlt := block_lt_of_cell hcell
  simp only at hlt
  go_enter Tryz.func120, Tryz.ntmps120
  go_wp2
  go_ret
  exact ⟨rfl, (Touch.refl _ _).alloc _⟩

set_option maxRecDepth 100000 in
set_option maxHeartbeats 400000 in
theorem isParent_any (a : Option Addr) (n cap : Nat) (f : Nat → Int) (p : Int) (c : Nat) (w : World) (hn : n ≤ 5) (hc : c < 6) (h : IntsAt w a n f) :
    Calls Tryz.prog 114 #[.agg #[.slice a n cap], .int .i64 p, .int .i64 c] w fun e w' => (∃ r, e = .returned (.bool r)) ∧ Calm w w' := by
  by_cases hc0 : 0 < c
  · by_cases hcn : c ≤ n
    · have hh : hasB n c = true := by simp [hasB]; omega
      rcases h with h | ⟨b, o, rfl, h⟩
      · omega
      · have hcell := h (c - 1) (by omega)
        have hc1 : ((c : Int) - 1).toNat = c - 1 := by omega
        have hlt := block_lt_of_cell hcell
        simp only at hlt
        have HC := hide hcell
        clear h hcell
        go_enter Tryz.func114, Tryz.ntmps114
        go_wp2_with fail
        refine (has_any _ _ _ _ _ hn).mono ?_
        rintro e w1 ⟨rfl, hb1⟩
        have ht1 := Touch.of_below hb1
        have hbx := ht1.box (fun f => f)
        have e0 : w1.cell? ⟨w.heap.size, 0, none⟩ = some (.slice (some ⟨b, o, none⟩) n cap) := box_cell hbx 0
        have hcell := (((Touch.refl (fun _ => False) w).alloc _).calm ht1).cell (p := ⟨b, o + (c - 1), none⟩) (fun f => f) (unhide HC)
        have HC1 := hide hcell
        clear hbx hcell
        go_wp2_with (go_at_call 120; refine (parent_any b o n cap c (f (c - 1)) _ hn hc0 hcn ?_).mono ?_; exact unhide HC1; rintro e w2 ⟨rfl, ht2⟩)
        go_ret
        exact ⟨⟨_, rfl⟩, (((Touch.refl _ _).alloc _).calm ht1).calm ht2⟩
    · have hh : hasB n c = false := by simp [hasB]; omega
      clear h
      go_enter Tryz.func114, Tryz.ntmps114
      go_wp2_with (go_at_call 31; refine (has_any _ _ _ _ _ hn).mono ?_; rintro e w1 ⟨rfl, hb1⟩)
      go_ret
      exact ⟨⟨_, rfl⟩, ((Touch.refl _ _).alloc _).calm (Touch.of_below hb1)⟩
  · clear h
    go_enter Tryz.func114, Tryz.ntmps114
    go_wp2
    go_ret
    exact ⟨⟨_, rfl⟩, (Touch.refl _ _).alloc _⟩

set_option maxRecDepth 100000 in
set_option maxHeartbeats 400000 in
theorem neighbours_any (a : Option Addr) (n cap : Nat) (f : Nat → Int) (p c : Nat) (w : World) (hn : n ≤ 5) (hp : p < 6) (hc : c < 6) (h : IntsAt w a n f) :
    Calls Tryz.prog 90 #[.agg #[.slice a n cap], .int .i64 p, .int .i64 c] w fun e w' => (∃ r, e = .returned (.bool r)) ∧ Calm w w' := by
  have H := hide h
  clear h
  go_enter Tryz.func90, Tryz.ntmps90
  go_wp2_with fail
  refine (isParent_any a n cap f _ c _ hn hc ((unhide H).calm ((Touch.refl _ _).alloc _))).mono ?_
  rintro e w1 ⟨⟨r, rfl⟩, ht1⟩
  have hbx := ht1.box (fun f => f)
  have e0 : w1.cell? ⟨w.heap.size, 0, none⟩ = some (.slice a n cap) := box_cell hbx 0
  have H1 := hide ((unhide H).calm (((Touch.refl _ _).alloc _).calm ht1))
  clear hbx
  cases r with
  | true =>
    go_wp2
    go_ret
    exact ⟨⟨_, rfl⟩, ((Touch.refl _ _).alloc _).calm ht1⟩
  | false =>
    go_wp2_with fail
    refine (isParent_any a n cap f _ p _ hn hp (unhide H1)).mono ?_
    rintro e w2 ⟨⟨r, rfl⟩, ht2⟩
    go_wp2
    go_ret
    exact ⟨⟨_, rfl⟩, (((Touch.refl _ _).alloc _).calm ht1).calm ht2⟩


/-- Links that are being made: 36 cells in block g, each none or an open channel in which nothing waits. -/
def Making (w : World) (g : Nat) : Prop := ∃ qs : List Value, w.heap[g]? = some (.cells qs.toArray 93) ∧ qs.length = 36 ∧ ∀ v, v ∈ qs → Idle w v

theorem Making.calm {w w' : World} {g : Nat} (h : Making w g) (t : Calm w w') : Making w' g := by
  obtain ⟨qs, h1, h2, h3⟩ := h
  exact ⟨qs, (t.block g (Array.getElem?_eq_some_iff.1 h1).1 (fun f => f)).trans h1, h2, fun v hv => (h3 v hv).keep t (fun _ _ _ f => f)⟩

theorem Touch.setCells (b : Nat) : ∀ (vs : List Value) (o : Nat) (w : World), Touch (fun k => k = b) w (w.setCells b o vs)
  | [], _, w => Touch.refl _ w
  | v :: r, o, w => (Touch.set1 w b o v).trans (Touch.setCells b r (o + 1) (w.setCell ⟨b, o, none⟩ v))

theorem Making.there {w : World} {g : Nat} (h : Making w g) : w.there g 0 36 := by
  obtain ⟨qs, h1, h2, h3⟩ := h
  intro j hj
  refine ⟨?_, box_frozen h1 _⟩
  rw [box_cell h1]
  simp; omega

theorem Making.at {w : World} {g : Nat} (h : Making w g) (j : Nat) (hj : j < 36) : ∃ v, w.cell? ⟨g, j, none⟩ = some v ∧ Idle w v := by
  obtain ⟨qs, h1, h2, h3⟩ := h
  have hjl : j < qs.length := by omega
  refine ⟨qs[j], ?_, h3 _ (List.getElem_mem hjl)⟩
  rw [box_cell h1]
  simp [hjl]

/-- A new channel is laid into one of them. -/
theorem Making.put {w : World} {g j : Nat} (h : Making w g) : Making ((w.alloc (.chan 2000 #[] false 0 0 false)).setCell ⟨g, j, none⟩ (.chan (some w.heap.size))) g := by
  obtain ⟨qs, h1, h2, h3⟩ := h
  have hlt : g < w.heap.size := (Array.getElem?_eq_some_iff.1 h1).1
  have hc : Calm w (w.alloc (.chan 2000 #[] false 0 0 false)) := (Touch.refl _ _).alloc _
  have h1' : (w.alloc (.chan 2000 #[] false 0 0 false)).heap[g]? = some (.cells qs.toArray 93) := (hc.block g hlt (fun f => f)).trans h1
  have ht := Touch.set1 (w.alloc (.chan 2000 #[] false 0 0 false)) g j (.chan (some w.heap.size))
  have hk : ∀ k cap, (w.alloc (.chan 2000 #[] false 0 0 false)).heap[k]? = some (.chan cap #[] false 0 0 false) → ¬ k = g := by
    intro k cap hk e
    subst e
    rw [h1'] at hk; cases hk
  refine ⟨qs.set j (.chan (some w.heap.size)), ?_, by simp [h2], fun v hv => ?_⟩
  · rw [heap_setCell_same _ _ _ _ _ _ h1']
    simp
  · rcases List.mem_or_eq_of_mem_set hv with hv | rfl
    · exact ((h3 v hv).keep hc (fun _ _ _ f => f)).keep ht hk
    · refine Or.inr ⟨w.heap.size, 2000, rfl, ?_⟩
      rw [ht.block w.heap.size (by simp) (by omega)]
      exact heap_alloc_new _ _

theorem run_makeChan82 (w : World) : (Instr.makeChan 89 (.int .i64 2000)).run Tryz.prog w = .ok (.chan (some w.heap.size)) (w.alloc (.chan 2000 #[] false 0 0 false)) := by kernel_rfl

theorem results_cell_mid {fn : Func} {p : Tmp} {ty : TypeId} (h : fn.results = #[.cell p ty]) (tmps : Array Value) (w : World) (b o : Nat) (cs : List Value) (d : TypeDesc)
    (hp : tmps.getD p undef = .pointer (some ⟨b, o, none⟩)) (hr : w.rangeAt b o cs) (hu : Tryz.prog.underlying ty = some d) (hd : d.isRow = true) (hi : (Tryz.prog.info? ty).map (·.size) = some cs.length) :
    (results fn tmps).run Tryz.prog w = .ok (.agg cs.toArray) w := by
  have hp' : tmps[p]?.getD undef = .pointer (some ⟨b, o, none⟩) := by simpa using hp
  simp [results, h, hp', asAddr, run_loadVar_mid w b o ty cs d hr hu hd hi]

/-- What holds in the loops of links.New. -/
structure LN (w wr : World) (a : Option Addr) (n cap : Nat) : Prop where
  calm : Calm w wr
  box : wr.heap[w.heap.size]? = some (.cells #[.slice a n cap] 88)
  res : wr.heap[w.heap.size + 1]? = some (.cells (List.replicate 36 (Value.chan none)).toArray 93)
  made : Making wr (w.heap.size + 1 + 1)

theorem LN.go {w wr w2 : World} {a : Option Addr} {n cap : Nat} (h : LN w wr a n cap) (t : Calm wr w2) : LN w w2 a n cap :=
  ⟨h.calm.calm t, (t.block _ (Array.getElem?_eq_some_iff.1 h.box).1 (fun f => f)).trans h.box, (t.block _ (Array.getElem?_eq_some_iff.1 h.res).1 (fun f => f)).trans h.res, h.made.calm t⟩

theorem LN.put {w wr : World} {a : Option Addr} {n cap : Nat} (h : LN w wr a n cap) (j : Nat) : LN w ((wr.alloc (.chan 2000 #[] false 0 0 false)).setCell ⟨w.heap.size + 1 + 1, j, none⟩ (.chan (some wr.heap.size))) a n cap := by
  have t : Touch (fun k => k = w.heap.size + 1 + 1) wr ((wr.alloc (.chan 2000 #[] false 0 0 false)).setCell ⟨w.heap.size + 1 + 1, j, none⟩ (.chan (some wr.heap.size))) := ((Touch.refl _ _).alloc _).trans (Touch.set1 _ _ _ _)
  refine ⟨?_, (t.block _ (Array.getElem?_eq_some_iff.1 h.box).1 (by omega)).trans h.box, (t.block _ (Array.getElem?_eq_some_iff.1 h.res).1 (by omega)).trans h.res, h.made.put⟩
  exact (h.calm.alloc _).setCell (p := ⟨w.heap.size + 1 + 1, j, none⟩) (fun x => by simp only at x; omega) _

set_option maxRecDepth 100000 in
set_option maxHeartbeats 400000 in
theorem linksNew_any (a : Option Addr) (n cap : Nat) (f : Nat → Int) (w : World) (hn : n ≤ 5) (h : IntsAt w a n f) :
    Calls Tryz.prog 67 #[.agg #[.slice a n cap]] w fun e w' => ∃ qs : List Value, e = .returned (.agg qs.toArray) ∧ qs.length = 36 ∧ (∀ v, v ∈ qs → Idle w' v) ∧ Calm w w' := by
  have H := hide h
  clear h
  go_enter Tryz.func67, Tryz.ntmps67
  go_wp2_with fail
  obtain ⟨W, hW⟩ : ∃ W, W = ((w.alloc (.cells #[.slice a n cap] 88)).alloc (.cells (List.replicate 36 (Value.chan none)).toArray 93)).alloc (.cells (List.replicate 36 (Value.chan none)).toArray 93) := ⟨_, rfl⟩
  have hL : LN w W a n cap := by
    rw [hW]
    refine ⟨(((Touch.refl _ _).alloc _).alloc _).alloc _, ?_, ?_, List.replicate 36 (Value.chan none), ?_, rfl, fun v hv => Or.inl (List.eq_of_mem_replicate hv)⟩
    · rw [Below.heap_alloc _ _ _ (by simp; omega), Below.heap_alloc _ _ _ (by simp)]; exact heap_alloc_new _ _
    · rw [Below.heap_alloc _ _ _ (by simp)]; exact heap_alloc2_new _ _ _
    · rw [show w.heap.size + 1 + 1 = (w.alloc (.cells #[.slice a n cap] 88)).heap.size + 1 from by simp]; exact heap_alloc2_new _ _ _
  refine (brokers_any a n cap _ hn).mono ?_
  rintro e w1 ⟨rfl, hb1⟩
  have hL1 : LN w w1 a n cap := LN.go (wr := W) hL (by rw [hW]; exact Touch.of_below hb1)
  have HL := hide hL1
  clear hL1 hL hb1 hW
  go_wp2_with fail
  go_loopw [8] (fun i wr => ∃ k : Nat, k ≤ n + 1 ∧ i = .int .i64 k ∧ LN w wr a n cap) (fun i _ => n + 1 - (intOf i).toNat)
  case atStart => exact ⟨0, by omega, rfl, unhide HL⟩
  case round =>
    obtain ⟨k, hk, rfl, hL⟩ := hrel
    have e0 : wr.cell? ⟨w.heap.size, 0, none⟩ = some (.slice a n cap) := box_cell hL.box 0
    have HL1 := hide hL
    clear HL hL
    by_cases hlt : k < n + 1
    · go_wp2_with fail
      refine (brokers_any a n cap _ hn).mono ?_
      rintro e w2 ⟨rfl, hb2⟩
      have HL2 := hide ((unhide HL1).go (Touch.of_below hb2))
      clear e0 HL1 hb2
      go_wp2_with fail
      go_loopw [13] (fun i wr => ∃ q : Nat, q ≤ n + 1 ∧ i = .int .i64 q ∧ LN w wr a n cap) (fun i _ => n + 1 - (intOf i).toNat)
      case atStart => exact ⟨0, by omega, rfl, unhide HL2⟩
      case round =>
        obtain ⟨q, hq, rfl, hL⟩ := hrel
        have e0 : wr.cell? ⟨w.heap.size, 0, none⟩ = some (.slice a n cap) := box_cell hL.box 0
        have HL3 := hide hL
        clear HL2 hL
        by_cases hqt : q < n + 1
        · have HI := hide ((unhide H).calm (unhide HL3).calm)
          go_wp2_with fail
          refine (neighbours_any a n cap f k q _ hn (by omega) (by omega) (unhide HI)).mono ?_
          rintro e w3 ⟨⟨r, rfl⟩, ht3⟩
          have HL4 := hide ((unhide HL3).go ht3)
          clear HL3 HI ht3 e0
          cases r with
          | false =>
            go_wp2
            go_roundw
            case rel => exact ⟨q + 1, by omega, by go_num, unhide HL4⟩
            case measure => simp [intOf]; omega
          | true =>
            obtain ⟨v, hv, _⟩ := (unhide HL4).made.at (k * 6 + q) (by omega)
            have hfz : ∀ j, w3.frozen? ⟨w.heap.size + 1 + 1, j, none⟩ = false := fun j => ((unhide HL4).made.there 0 (by omega) |> fun _ => by
              obtain ⟨qs, h1, _, _⟩ := (unhide HL4).made
              exact box_frozen h1 j)
            have hmk := run_makeChan82
            have hlt3 : w.heap.size + 1 + 1 < w3.heap.size := block_lt_of_cell hv
            have hk6 : (k : Int) < 6 := by omega
            have hq6 : (q : Int) < 6 := by omega
            go_wp2
            go_region
            all_goals go_wp2
            all_goals go_roundw
            case rel => exact ⟨q + 1, by omega, by go_num, LN.go (by have := (unhide HL4).put (k * 6 + q); rwa [World.setCell_alloc_past _ _ _ _ hlt3] at this) ((Touch.refl _ _).drew)⟩
            case measure => simp [intOf]; omega
        · go_wp2
          go_roundw
          case rel => exact ⟨k + 1, by omega, by go_num, unhide HL3⟩
          case measure => simp [intOf]; omega
    · obtain ⟨qs, hqs, hl36, hidle⟩ := (unhide HL1).made
      have hr : wr.rangeAt (w.heap.size + 1 + 1) 0 qs := fun j v hj => by rw [box_cell hqs, Nat.zero_add]; simpa using hj
      have hone : ∀ v, v ∈ qs → v.oneCell' = true := fun v hv => by obtain ⟨r, rfl⟩ := (hidle v hv).chan; rfl
      have hth : wr.there (w.heap.size + 1) 0 qs.toArray.size := fun j hj => by
        have hj' : j < 36 := by simpa [hl36] using hj
        refine ⟨?_, box_frozen (unhide HL1).res _⟩
        rw [box_cell (unhide HL1).res]
        simp; omega
      have hT : Touch (fun k => k = w.heap.size + 1) wr (wr.setCells (w.heap.size + 1) 0 qs) := Touch.setCells _ _ _ _
      have hI : ∀ v, v ∈ qs → Idle (wr.setCells (w.heap.size + 1) 0 qs) v := fun v hv => (hidle v hv).keep hT (fun k c hk e => by subst e; rw [(unhide HL1).res] at hk; cases hk)
      have hC : Calm w (wr.setCells (w.heap.size + 1) 0 qs) := ⟨hT.os.trans (unhide HL1).calm.os, hT.tape.trans (unhide HL1).calm.tape, hT.output.trans (unhide HL1).calm.output, Nat.le_trans (unhide HL1).calm.size hT.size,
        fun k hk _ => (hT.block k (Nat.lt_of_lt_of_le hk (unhide HL1).calm.size) (by omega)).trans ((unhide HL1).calm.block k hk (fun f => f))⟩
      have hR := World.rangeAt_setCells_same wr (w.heap.size + 1) 0 qs (by simpa using hth)
      have i86 : (Tryz.prog.info? 93).map (·.size) = some qs.length := by rw [hl36]; kernel_rfl
      have HR := hide hR
      have HI := hide hI
      have HC := hide hC
      have H86 := hide i86
      clear hR hI hC hidle hqs hT i86 e0
      go_wp2_with (first
        | refine wpList_load_mid rfl 93 _ rfl (w.heap.size + 1 + 1) 0 rfl qs _ hr Tryz.underlying93 rfl (unhide H86) ?_
        | refine wpList_store_mid rfl 93 _ _ rfl (w.heap.size + 1) 0 qs.toArray rfl rfl hth (by simpa using unhide H86) (all_oneCell_toArray hone) ?_)
      exact bodyPost_ret (v := .agg qs.toArray) (results_cell_mid Tryz.results67 _ _ (w.heap.size + 1) 0 qs _ rfl (unhide HR) Tryz.underlying93 rfl (unhide H86)) rfl ⟨qs, rfl, hl36, unhide HI, unhide HC⟩

end Go.Proofs.YtodfcpblcpogiaaGreat

/-
  The program's New.
-/
import Derived.Test.YtjenohmfplpiaaaTree
namespace Go.Proofs.Ytjenohmfplpiaaa
open Go.RowKit

theorem Touch.fresh {S : Nat → Prop} {a b c : World} (h : Calm a b) (t : Touch S b c) (hs : ∀ k, k < a.heap.size → ¬ S k) : Calm a c :=
  ⟨t.os.trans h.os, t.tape.trans h.tape, t.output.trans h.output, Nat.le_trans h.size t.size, fun k hk _ => (t.block k (Nat.lt_of_lt_of_le hk h.size) (hs k hk)).trans (h.block k hk (fun f => f))⟩

/-- The program's net, its clients' cells as lists. -/
structure XQ (w : World) (b n : Nat) (cl : Nat → List Value) : Prop where
  closed : w.cell? ⟨b, 0, none⟩ = some (.bool false)
  tree : ∃ a cap, w.cell? ⟨b, 1, none⟩ = some (.slice a n cap)
  links : ∃ qs : List Value, w.rangeAt b 2 qs ∧ qs.length = 36 ∧ ∀ v, v ∈ qs → Idle w v
  cls : ∀ c, c < 4 → w.rangeAt b (38 + c * 4) (cl c) ∧ (cl c).length = 4
  fr : ∀ o, w.frozen? ⟨b, o, none⟩ = false

theorem XQ.calm {w w' : World} {b n : Nat} {cl : Nat → List Value} (h : XQ w b n cl) (t : Calm w w') : XQ w' b n cl := by
  have hc : ∀ o v, w.cell? ⟨b, o, none⟩ = some v → w'.cell? ⟨b, o, none⟩ = some v := fun o v hv => t.cell (p := ⟨b, o, none⟩) (fun f => f) hv
  obtain ⟨a, cap, ht⟩ := h.tree
  obtain ⟨qs, h1, h2, h3⟩ := h.links
  exact ⟨hc _ _ h.closed, ⟨a, cap, hc _ _ ht⟩, ⟨qs, fun j v hj => hc _ _ (h1 j v hj), h2, fun v hv => (h3 v hv).keep t (fun _ _ _ f => f)⟩, fun c k => ⟨fun j v hj => hc _ _ ((h.cls c k).1 j v hj), (h.cls c k).2⟩,
    fun o => (World.frozen?_of_block (w := w) (a := ⟨b, o, none⟩) (t.block b (block_lt_of_cell h.closed) (fun f => f))).trans (h.fr o)⟩

theorem XQ.set {w : World} {b n : Nat} {cl : Nat → List Value} (h : XQ w b n cl) (k j : Nat) (hk : k < 4) (hj : j < 4) (v : Value) :
    XQ (w.setCell ⟨b, 38 + k * 4 + j, none⟩ v) b n (fun c => if c = k then (cl k).set j v else cl c) := by
  have hne : ∀ o' u, w.cell? ⟨b, o', none⟩ = some u → o' ≠ 38 + k * 4 + j → (w.setCell ⟨b, 38 + k * 4 + j, none⟩ v).cell? ⟨b, o', none⟩ = some u := fun o' u hu hn =>
    (World.cell?_setCell_other w _ _ _ (by intro e; have := congrArg Addr.off e; exact hn this.symm)).trans hu
  obtain ⟨a, cap, ht⟩ := h.tree
  obtain ⟨qs, h1, h2, h3⟩ := h.links
  have hb := block_of_cell h.closed
  refine ⟨hne _ _ h.closed (by omega), ⟨a, cap, hne _ _ ht (by omega)⟩, ⟨qs, rangeAt_other h1 (by omega) v, h2, fun u hu => ?_⟩, fun c hc => ?_, fun o' => by rw [World.frozen?_setCell]; exact h.fr o'⟩
  · refine (h3 u hu).keep (S := fun k => k = b) (Touch.set1 w b _ _) ?_
    intro k' cap hk' e
    subst e
    obtain ⟨cs, t, f, hcs⟩ := hb
    rw [hcs] at hk'; cases hk'
  · by_cases e : c = k
    · subst e
      simp only [if_true]
      exact ⟨rangeAt_set (h.cls c hc).1 j v, by rw [List.length_set]; exact (h.cls c hc).2⟩
    · simp only [if_neg e]
      exact ⟨rangeAt_other (h.cls c hc).1 (by have := (h.cls c hc).2; omega) v, (h.cls c hc).2⟩

theorem XQ.net {w : World} {b n : Nat} {cl : Nat → List Value} (h : XQ w b n cl) (A H M : Nat → Int) (hcl : ∀ c, c < 4 → cl c = [.int .i64 (A c), .int .i64 (H c), .int .i64 (M c), .slice none 0 0]) : XN w b n A H M := by
  refine ⟨h.closed, h.tree, h.links, fun c hc => ?_, fun c hc => ?_, fun c hc => ?_, h.fr⟩
  · exact (h.cls c hc).1 0 _ (by rw [hcl c hc]; rfl)
  · exact (h.cls c hc).1 1 _ (by rw [hcl c hc]; rfl)
  · exact (h.cls c hc).1 2 _ (by rw [hcl c hc]; rfl)

set_option maxHeartbeats 400000 in
theorem clientsNew_any (w : World) :
    Calls Try.prog 59 #[] w fun e w' => e = .returned (.agg #[.int .i64 (-1), .int .i64 (-1), .int .i64 0, .slice none 0 0]) ∧ w' = w.alloc (.cells #[.int .i64 (-1), .int .i64 (-1), .int .i64 0, .slice none 0 0] 79) := by
  go_enter Try.func59, Try.ntmps59
  go_wp2
  exact bodyPost_ret (v := .agg #[.int .i64 (-1), .int .i64 (-1), .int .i64 0, .slice none 0 0]) (by simp [results, Try.results59, go_sem]) rfl ⟨rfl, rfl⟩

abbrev zeros16 : List Value := [.int .i64 0, .int .i64 0, .int .i64 0, .slice none 0 0, .int .i64 0, .int .i64 0, .int .i64 0, .slice none 0 0, .int .i64 0, .int .i64 0, .int .i64 0, .slice none 0 0, .int .i64 0, .int .i64 0, .int .i64 0, .slice none 0 0]

/-- The cells of a new net. -/
def newCells (a : Option Addr) (n c : Nat) (qs : List Value) : List Value :=
  [.bool false, .slice a n c] ++ qs ++ zeros16

/-- Stores one behind the other, from a place on. -/
theorem foldl_zip (pre post : List Value) : ∀ (qs mid : List Value) (done : List Value), mid.length = qs.length →
    List.foldl (fun cs x => Array.setIfInBounds cs (pre.length + x.snd) x.fst) (pre ++ done ++ mid ++ post).toArray (qs.zipIdx done.length) = (pre ++ done ++ qs ++ post).toArray
  | [], mid, done, h => by
    have : mid = [] := List.eq_nil_of_length_eq_zero (by simpa using h)
    subst this
    rfl
  | q :: qs, [], done, h => by simp at h
  | q :: qs, m :: mid, done, h => by
    have e1 : Array.setIfInBounds (pre ++ done ++ m :: mid ++ post).toArray (pre.length + done.length) q = (pre ++ (done ++ [q]) ++ mid ++ post).toArray := by
      rw [List.setIfInBounds_toArray]
      congr 1
      rw [List.append_assoc (pre ++ done), List.set_append_right _ _ (by simp)]
      simp
    rw [List.zipIdx_cons, List.foldl_cons]
    simp only
    rw [e1, show done.length + 1 = (done ++ [q]).length from by simp, foldl_zip pre post qs mid (done ++ [q]) (by simpa using h)]
    simp

theorem fold89 (a : Option Addr) (n c : Nat) (qs : List Value) (h : qs.length = 36) :
    List.foldl (fun cs x => Array.setIfInBounds cs (2 + x.snd) x.fst) ([Value.bool false, .slice a n c] ++ List.replicate 36 (Value.chan none) ++ zeros16).toArray qs.zipIdx = (newCells a n c qs).toArray := by
  have := foldl_zip [Value.bool false, .slice a n c] zeros16 qs (List.replicate 36 (Value.chan none)) [] (by rw [h]; rfl)
  exact this

theorem newCells_at (a : Option Addr) (n c : Nat) (qs : List Value) (h : qs.length = 36) (w : World) (g : Nat) (hg : w.heap[g]? = some (.cells (newCells a n c qs).toArray 89)) (hi : ∀ v, v ∈ qs → Idle w v) :
    XQ w g n (fun _ => [.int .i64 0, .int .i64 0, .int .i64 0, .slice none 0 0]) := by
  have hc : ∀ j, w.cell? ⟨g, j, none⟩ = (newCells a n c qs)[j]? := fun j => by rw [box_cell hg]; simp
  refine ⟨hc 0, ⟨a, c, hc 1⟩, ⟨qs, fun j v hj => ?_, h, hi⟩, fun k hk => ⟨fun j v hj => ?_, rfl⟩, box_frozen hg⟩
  · have hjl : j < qs.length := (List.getElem?_eq_some_iff.1 hj).1
    rw [hc, newCells, List.append_assoc, List.getElem?_append_right (by simp), List.getElem?_append_left (by simp; omega)]
    simpa using hj
  · have hjl : j < 4 := (List.getElem?_eq_some_iff.1 hj).1
    rw [hc, newCells, List.getElem?_append_right (by simp [h]; omega)]
    have e : 38 + k * 4 + j - ([Value.bool false, Value.slice a n c] ++ qs).length = k * 4 + j := by simp [h]; omega
    rw [e]
    rcases k with _ | _ | _ | _ | k
    all_goals first | omega | (rcases j with _ | _ | _ | _ | j <;> first | omega | exact hj)

set_option maxRecDepth 100000 in
set_option maxHeartbeats 400000 in
theorem newX_any (b o n cap : Nat) (f : Nat → Int) (w : World) (hm : n ≤ maxLen) (h : ∀ j, j < n → w.cell? ⟨b, o + j, none⟩ = some (.int .i64 (f j))) :
    Calls Try.prog 27 #[.slice (some ⟨b, o, none⟩) n cap] w fun e w' =>
      ((goodB f n = false ∧ e = .returned (.tuple #[.pointer none, .int .i64 1])) ∨
       (goodB f n = true ∧ ∃ g, w.heap.size ≤ g ∧ e = .returned (.tuple #[.pointer (some ⟨g, 0, none⟩), .int .i64 0]) ∧ XN w' g n (fun _ => -1) (fun _ => -1) (fun _ => 0))) ∧ Calm w w' := by
  have H := hide h
  clear h
  go_enter Try.func27, Try.ntmps27
  go_wp2_with fail
  refine (treeNew_any b o n cap f _ hm (unhide H)).mono ?_
  rintro e w1 ⟨he, ht1⟩
  have HT1 := hide ht1
  rcases he with ⟨hbad, rfl⟩ | ⟨hgood, a', c', rfl, hI⟩
  · have HB := hide hbad
    clear hbad
    go_wp2
    go_ret2
    exact ⟨Or.inl ⟨unhide HB, rfl⟩, ht1.alloc _⟩
  · have HG := hide hgood
    have HI := hide (hI.calm ((Touch.refl _ _).alloc (.cells #[.slice a' n c'] 81)))
    have hn5 := (good_ok hgood).1
    clear hgood hI
    go_wp2
    go_cut [6] (fun s wx => ∃ g, s = .pointer (some ⟨g, 0, none⟩) ∧ w.heap.size ≤ g ∧ Calm w wx ∧ XQ wx g n (fun _ => [.int .i64 0, .int .i64 0, .int .i64 0, .slice none 0 0]))
    case first =>
      have e0 : (w1.alloc (.cells #[.slice a' n c'] 81)).cell? ⟨w1.heap.size, 0, none⟩ = some (.slice a' n c') := box_cell (heap_alloc_new _ _) 0
      go_region_held3 (fun w' => w'.cell? ⟨w1.heap.size, 0, none⟩ = some (.slice a' n c'))
        (first | exact ht2.cell (p := ⟨w1.heap.size, 0, none⟩) (fun f => f) e0 | exact (Touch.refl (fun _ => False) _).alloc _ |>.cell (p := ⟨w1.heap.size, 0, none⟩) (fun f => f) (ht2.cell (p := ⟨w1.heap.size, 0, none⟩) (fun f => f) e0) | go_keep)
        (first | (go_at_call 58; refine (linksNew_any a' n c' f _ hn5 ?_).mono ?_; exact (unhide HI).calm ((Touch.refl _ _).drew); rintro e w2 ⟨qs, rfl, hl36, hidle, ht2⟩))
      all_goals go_wp2_with fail
      all_goals go_meet
      have hE := fold89 a' n c' qs hl36
      refine ⟨w2.heap.size, rfl, ?_, ?_, ?_⟩
      · have h1 := ht1.size
        have h2 := ht2.size
        simp at h2
        omega
      · exact ((((unhide HT1).alloc _).drew).calm ht2).alloc _
      · refine newCells_at a' n c' qs hl36 _ _ ?_ (fun v hv => (hidle v hv).keep ((Touch.refl (fun _ => False) _).alloc _) (fun _ _ _ f => f))
        rw [← hE]
        exact heap_alloc_new _ _
    case rest =>
      obtain ⟨g, rfl, hgw, hc, hQ⟩ := hcut
      have HQ := hide hQ
      have HC := hide hc
      clear hQ hc HI
      go_wp2_with fail
      go_loopw [20] (fun i wr => ∃ k : Nat, k ≤ 4 ∧ i = .int .i64 k ∧ Touch (fun b => b = g) wc wr ∧ ∃ cl : Nat → List Value, XQ wr g n cl ∧ ∀ c, c < 4 → cl c = if c < k then [.int .i64 (-1), .int .i64 (-1), .int .i64 0, .slice none 0 0] else [.int .i64 0, .int .i64 0, .int .i64 0, .slice none 0 0]) (fun i _ => 4 - (intOf i).toNat)
      case atStart => exact ⟨0, by omega, rfl, Touch.refl _ _, _, unhide HQ, fun c hc => by simp⟩
      case round =>
        obtain ⟨k, hk, rfl, ht, cl, hX, hcl⟩ := hrel
        have HX := hide hX
        have HCL := hide hcl
        have HT := hide ht
        clear hX hcl ht HQ
        by_cases hlt : k < 4
        · have hr := ((unhide HX).cls k hlt).1
          rw [unhide HCL k hlt, if_neg (by omega)] at hr
          have a0 : wr.cell? ⟨g, 38 + k * 4, none⟩ = some (.int .i64 0) := hr 0 _ rfl
          have a1 := hr 1 _ rfl
          have a2 := hr 2 _ rfl
          have a3 := hr 3 _ rfl
          have hfz := (unhide HX).fr
          have hgl := block_lt_of_cell (unhide HX).closed
          simp only at hgl
          clear hr
          go_wp2
          go_region_with (go_at_call 59; refine (clientsNew_any _).mono ?_; rintro e w' ⟨rfl, rfl⟩)
          all_goals go_wp2
          all_goals go_roundw
          case rel =>
            refine ⟨k + 1, by omega, by go_num, ?_, _, (((((unhide HX).set k 0 hlt (by omega) _).set k 1 hlt (by omega) _).set k 2 hlt (by omega) _).set k 3 hlt (by omega) _).calm (((Touch.refl _ _).alloc _).drew), fun c hc => ?_⟩
            · exact ((((((unhide HT).trans (Touch.set1 _ g _ _)).trans (Touch.set1 _ g _ _)).trans (Touch.set1 _ g _ _)).trans (Touch.set1 _ g _ _)).alloc _).drew
            · by_cases e : c = k
              · subst e
                simp [unhide HCL c hc]
              · simp only [if_neg e]
                rw [unhide HCL c hc]
                by_cases h1 : c < k
                · rw [if_pos h1, if_pos (by omega)]
                · rw [if_neg h1, if_neg (by omega)]
          case measure => simp [intOf]; omega
        · go_wp2
          go_ret2
          refine ⟨Or.inr ⟨unhide HG, g, hgw, rfl, ?_⟩, (unhide HC).fresh (unhide HT) (fun b hb e => by omega)⟩
          exact (unhide HX).net _ _ _ (fun c hc => by rw [unhide HCL c hc, if_pos (by omega)])

end Go.Proofs.Ytjenohmfplpiaaa

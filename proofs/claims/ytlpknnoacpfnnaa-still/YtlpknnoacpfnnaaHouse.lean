/-
  house: a net in which the document's example was done.
-/
import Derived.Test.YtlpknnoacpfnnaaExam
namespace Go.Proofs.Ytlpknnoacpfnnaa
open Go.RowKit

def newHM (par : List Nat) : HM := ⟨par.length + 1, [], fun i => if i < 4 then -1 else 0, fun _ => ⟨false, [], 0, [], 0⟩⟩

abbrev houseCells (b n : Nat) : List Value := [ptr b, int ((n : Int) + 1), .slice none 0 0, int (-1), int (-1), int (-1), int (-1), int 0, int 0, int 0, int 0, int 0, int 0, int 0, int 0, .bool false, .slice none 0 0, int 0, .slice none 0 0, int 0, .bool false, .slice none 0 0, int 0, .slice none 0 0, int 0, .bool false, .slice none 0 0, int 0, .slice none 0 0, int 0, .bool false, .slice none 0 0, int 0, .slice none 0 0, int 0, .bool false, .slice none 0 0, int 0, .slice none 0 0, int 0, .bool false, .slice none 0 0, int 0, .slice none 0 0, int 0, .bool false, .slice none 0 0, int 0, .slice none 0 0, int 0, .bool false, .slice none 0 0, int 0, .slice none 0 0, int 0]

theorem newHX (w : World) (b : Nat) (par : List Nat) : HX (w.alloc (.cells (houseCells b par.length).toArray 37)) w.heap.size b (fun k => if k = w.heap.size then some rHouse else none) (newHM par) := by
  have hg : (w.alloc (.cells (houseCells b par.length).toArray 37)).heap[w.heap.size]? = some (.cells (houseCells b par.length).toArray 37) := heap_alloc_new _ _
  have hc := box_cell hg
  have row : ∀ (κ : Nat → Option Role) (r : Role) (e : TypeId) (sz : Nat), RowAt (w.alloc (.cells (houseCells b par.length).toArray 37)) κ r e sz 0 [] (.slice none 0 0) := fun κ r e sz => ⟨World.ownsRow_nil _ _ _ _, fun g hg => by simp [Value.ownBlock] at hg⟩
  refine ⟨by simp, ⟨_, hg⟩, hc 0, hc 1, ⟨_, hc 2, row _ _ _ _⟩, fun i hi => ?_, fun s hs => ?_, fun k hk => ?_⟩
  · rw [hc]
    rcases i with _ | _ | _ | _ | _ | _ | _ | _ | _ | _ | _ | _ | i
    all_goals first | omega | rfl
  · have key : ∀ j, j < 5 → (w.alloc (.cells (houseCells b par.length).toArray 37)).cell? ⟨w.heap.size, 15 + s * 5 + j, none⟩ = [Value.bool false, .slice none 0 0, int 0, .slice none 0 0, int 0][j]? := fun j hj => by
      rw [hc]
      rcases s with _ | _ | _ | _ | _ | _ | _ | _ | s
      all_goals first | omega | (rcases j with _ | _ | _ | _ | _ | j <;> first | omega | rfl)
    exact ⟨key 0 (by omega), ⟨none, 0, key 1 (by omega), Or.inl rfl⟩, key 2 (by omega), ⟨_, key 3 (by omega), row _ _ _ _⟩, key 4 (by omega)⟩
  · by_cases e : k = w.heap.size
    · subst e; simp
    · simp [e] at hk

set_option maxRecDepth 100000 in
set_option maxHeartbeats 4000000 in
theorem houseX (ra : Option Addr) (n c : Nat) (f : Nat → Int) (w : World) (hn : n ≤ maxLen) (h : RawAt w ra n f) :
    Calls Try.prog 8 #[.slice ra n c] w fun e w' => ∃ hb b κ ρ, e = .returned (.tuple #[ptr hb, .bool true]) ∧ HN w' hb b κ ρ (newNet (treeP f (min n 5))) (newHM (treeP f (min n 5))) ∧ (∀ k, κ k ≠ none ∨ ρ k ≠ none → w.heap.size ≤ k) ∧ Calm w w' := by
  have T := treeP_tree f (min n 5) (by omega)
  have TT := hide T
  have H := hide h
  clear h T
  go_enter Try.func8, Try.ntmps8
  go_wp2_with fail
  refine (tree_any ra n c f _ hn (unhide H)).mono ?_
  rintro e w1 ⟨v, rfl, hP, ⟨a', c', rfl⟩, ht1⟩
  have HP := hide hP
  have HT1 := hide ht1
  obtain ⟨par, hpar⟩ : ∃ par, par = treeP f (min n 5) := ⟨_, rfl⟩
  have hpl : par.length = min n 5 := by rw [hpar]; exact treeP_len _ _
  rw [← hpl]
  rw [← hpar, ← hpl] at HP
  rw [← hpar] at TT
  have HPAR := hide hpar
  have hp5 : (par.length : Int) ≤ 5 := by omega
  clear hP ht1 hpar hpl H hn
  go_wp2_with fail
  refine (newX _ (unhide TT) (unhide HP)).mono ?_
  rintro e w2 ⟨b, ρ, rfl, hX, hlow, ht2⟩
  have HX := hide hX
  have HLOW := hide hlow
  have HT2 := hide ht2
  clear hX hlow ht2 HP
  go_wp2_with fail
  refine (newX (par := [0]) _ exTree (Or.inr ⟨w2.heap.size, 0, 1, rfl, fun j hj => ?_⟩)).mono ?_
  · have : j = 0 := by simp only [List.length_singleton] at hj; omega
    subst this
    exact box_cell (heap_alloc_new _ _) 0
  rintro e w3 ⟨a, ρ3, rfl, hX3, hlow3, ht3⟩
  have hE0 : Ex w2 w3 a ρ3 ex0 := ⟨hX3, ((Touch.refl _ _).alloc _).calm ht3, fun k hk => by have := hlow3 k hk; simp at this; omega⟩
  have HE0 := hide hE0
  clear hX3 hlow3 ht3 hE0
  go_wp2_with fail
  refine (attachS (unhide HE0).x (newI exTree) (by rw [ex0_w]; omega) (c := 0) (x := 1) (by omega) (by decide) rfl rfl).mono ?_
  rintro e w4 ⟨rfl, hX4, hI4, hw4, _, hM4⟩
  have HE1 := hide ((unhide HE0).mv (σ' := ex1) hX4 hM4)
  have HI1 : Hid (SpreadI _ _ ex1) := hI4
  clear hX4 hM4 hI4 hw4 HE0
  go_wp2_with fail
  refine (attachS (unhide HE1).x (unhide HI1) (by rw [ex1_w]; omega) (c := 1) (x := 0) (by omega) (by decide +kernel) rfl rfl).mono ?_
  rintro e w5 ⟨rfl, hX5, hI5, hw5, _, hM5⟩
  have HE2 := hide ((unhide HE1).mv (σ' := ex2) hX5 hM5)
  have HI2 : Hid (SpreadI _ _ ex2) := hI5
  clear hX5 hM5 hI5 hw5 HE1 HI1
  go_wp2_with fail
  refine (subscribeS (((unhide HE2).step ((Touch.refl _ _).alloc _)).x) (unhide HI2) (by rw [ex2_w]; omega) (c := 0) (x := 1) (by omega) rfl rfl (l := exL) exL_good (Or.inr ⟨w5.heap.size, 0, rfl, fun j v hj => ?_⟩) 1).mono ?_
  · have := new_cells w5 (exL.flatMap Tst.enc) 74 j v hj
    rw [Addr.add_mid] at this
    exact this
  rintro e w6 ⟨rfl, ρ6, hX6, hI6, hw6, _, hM6⟩
  have HE3 := hide (((unhide HE2).step ((Touch.refl _ _).alloc _)).mv (σ' := ex3) hX6 hM6)
  have HI3 : Hid (SpreadI _ _ ex3) := hI6
  clear hX6 hM6 hI6 hw6 HE2 HI2
  go_wp2_with fail
  refine (deliverX (unhide HE3).x ((unhide HI3).sp.fine (unhide HI3).clean (unhide HI3).wt (m := 0) (by omega)) ex3_q).mono ?_
  rintro e w7 ⟨rfl, ρ7, hX7, hM7⟩
  have HE4 := hide ((unhide HE3).mv (σ' := ex4) hX7 hM7)
  have HI4 : Hid (SpreadI _ _ ex4) := (spread_runs _ _ (m := 0) (by omega)).del _ _ _ _ _ (unhide HI3) ex3_q
  have HF4 := hide ((unhide HI4).flow (no_frames (unhide HI4).sp.good ex4_w))
  clear hX7 hM7 HE3 HI3
  go_wp2_with fail
  refine (publishS (unhide HE4).x (unhide HF4) ex4_full (c := 1) (x := 0) (by omega) rfl 7 8 9 (by simp)).mono ?_
  rw [ex4_many]
  rintro e w8 ⟨rfl, ρ8, hX8, hI8, _, _, hM8⟩
  have HE5 := hide ((unhide HE4).mv (σ' := ex5) hX8 hM8)
  have HF5 : Hid (FlowI _ _ _ ex5) := hI8
  clear hX8 hM8 hI8 HE4 HI4 HF4
  go_wp2_with fail
  refine (deliverX (unhide HE5).x ((unhide HF5).fl.fine (unhide HF5).tame (unhide HF5).wt (by simp)) ex5_q).mono ?_
  rintro e w9 ⟨rfl, ρ9, hX9, hM9⟩
  have HE6 := hide ((unhide HE5).mv (σ' := ex6) hX9 hM9)
  clear hX9 hM9 HE5 HF5
  go_wp2_with fail
  refine (logX (unhide HE6).x (c := 0) (by omega)).mono ?_
  rw [ex6_log]
  rintro e w10 ⟨v, rfl, hrow, hX10, hM10⟩
  have HE7 := hide ((unhide HE6).mv hX10 hM10)
  have hcell := fun g hg => World.ownsRow.cells hrow (g := g) hg
  rcases hrow.2 with ⟨_, h0⟩ | ⟨g, cap, cur, rfl, _⟩
  · cases h0
  have d0 := hcell g rfl 0 _ rfl
  have d1 := hcell g rfl 1 _ rfl
  have d2 := hcell g rfl 2 _ rfl
  have d3 := hcell g rfl 3 _ rfl
  have d4 := hcell g rfl 4 _ rfl
  have d5 := hcell g rfl 5 _ rfl
  have d6 := hcell g rfl 6 _ rfl
  rw [Addr.add_mid] at d0 d1 d2 d3 d4 d5 d6
  simp only [Nat.zero_add] at d0 d1 d2 d3 d4 d5 d6
  clear hcell hrow hX10 hM10 HE6
  have heq := run_equal23
  go_wp2
  go_ret2
  have h12 := (unhide HT1).size
  have h23 := (unhide HT2).size
  have h37 := (unhide HE7).calm.size
  have hxn := (unhide HX).calm ((unhide HE7).calm.calm ((Touch.refl _ _).alloc (.cells (houseCells b par.length).toArray 37)))
  refine ⟨w10.heap.size, b, fun k => if k = w10.heap.size then some rHouse else none, ρ, rfl, ?_, fun k hk => ?_, (((unhide HT1).calm (unhide HT2)).calm (unhide HE7).calm).alloc _⟩
  · rw [← unhide HPAR]
    refine ⟨hxn, newHX w10 b par, fun k hk => ?_⟩
    have : k = w10.heap.size := by
      by_cases e : k = w10.heap.size
      · exact e
      · simp [e] at hk
    subst this
    cases hr : ρ w10.heap.size with
    | none => rfl
    | some r =>
      have := (unhide HX).lt w10.heap.size (by rw [hr]; simp)
      omega
  · rcases hk with hk | hk
    · by_cases e : k = w10.heap.size
      · omega
      · simp [e] at hk
    · have := unhide HLOW k hk
      omega

end Go.Proofs.Ytlpknnoacpfnnaa

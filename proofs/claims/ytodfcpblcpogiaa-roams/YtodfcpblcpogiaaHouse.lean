/-
  house: a net in which the document's example was done.
-/
import Derived.Test.YtodfcpblcpogiaaSteps
namespace Go.Proofs.Ytodfcpblcpogiaa
open Go.RowKit

def exL : List Tst := [⟨0, 4, 5⟩]
def ex0 : Net := newNet [0]
def ex1 : Net := ex0.attach (0 : Nat) (1 : Nat)
def ex2 : Net := ex1.attach (1 : Nat) (0 : Nat)
def ex3 : Net := ex2.sub (0 : Nat) exL
def ex4 : Net := ex3.del (1 : Nat) (0 : Nat)
def ex5 : Net := ex4.pub (1 : Nat) 7 8 9
def ex6 : Net := ex5.del (0 : Nat) (1 : Nat)

theorem exTree : Tree [0] := ⟨by decide, fun i hi => by
  have : i = 0 := by simp only [List.length_singleton] at hi; omega
  subst this; decide⟩
theorem ex0_w : ex0.weight = 0 := by decide +kernel
theorem ex1_w : ex1.weight = 0 := by decide +kernel
theorem ex2_w : ex2.weight = 0 := by decide +kernel
theorem ex4_w : ex4.weight = 0 := by decide +kernel
theorem ex3_q : ex3.q 1 0 = [.sub 0 0 exL] := by decide +kernel
theorem ex5_q : ex5.q 0 1 = [.event ⟨⟨1, 1, 7, 8, 9⟩, 1⟩] := by decide +kernel
theorem ex4_full : ex4.full = false := by decide +kernel
theorem ex6_log : (ex6.cl 0).log = [⟨0, 0, ⟨1, 1, 7, 8, 9⟩⟩] := by decide +kernel
theorem ex4_many : (ex4.cl 1).many = 0 := by decide +kernel
theorem exL_good : goodFilter exL = true := by decide +kernel

theorem no_frames {σ : Net} (G : Good σ) (h : σ.weight = 0) : ∀ x y, σ.q x y = [] := by
  intro x y
  cases hq : σ.q x y with
  | nil => rfl
  | cons f r =>
    exfalso
    have hn := near_lt6 G.tree (G.nbr x y (by rw [hq]; simp))
    have := link_le_weight G.linked hn.1 hn.2
    rw [hq, h] at this
    simp at this

/-- A net that was made behind w1. -/
structure Ex (w1 w : World) (a : Nat) (ρ : Nat → Option Role) (σ : Net) : Prop where
  x : XN w a ρ σ
  calm : Calm w1 w
  low : ∀ k, ρ k ≠ none → w1.heap.size ≤ k

theorem Ex.mv {w1 w w' : World} {a : Nat} {ρ ρ' : Nat → Option Role} {σ σ' : Net} (h : Ex w1 w a ρ σ) (x : XN w' a ρ' σ') (m : Mv allR ρ ρ' w w') : Ex w1 w' a ρ' σ' := by
  refine ⟨x, h.calm.fresh m.blocks (fun k hk hr => by have := h.low k hr; omega), fun k hk => ?_⟩
  by_cases hl : k < w.heap.size
  · exact h.low k (fun e => hk ((m.noneIff hl).2 e))
  · have := h.calm.size; omega
theorem Ex.step {w1 w w' : World} {a : Nat} {ρ : Nat → Option Role} {σ : Net} (h : Ex w1 w a ρ σ) (t : Calm w w') : Ex w1 w' a ρ σ := ⟨h.x.calm t, h.calm.calm t, h.low⟩

/-! ### '==' of events -/
theorem eq3 (d : Nat) (w : World) (a x : Int) : (Op.equalIn (d + 1) 3 (int a) (int x)).run Try.prog w = .ok (a == x) w := by
  simp [Op.equalIn, run_underlying Try.underlying3]
theorem part3 (w : World) (cs : Array Value) (i : Nat) (v : Value) (h : cs[i]? = some v) : (part 3 cs i).run Try.prog w = .ok v w := by
  have h2 : (isAgg 3).run Try.prog w = .ok false w := by kernel_rfl
  simp [part, h2, h]
theorem run_equal23' (d : Nat) (w : World) (a b c x y z : Int) : (Op.equalIn (d + 2) 23 (.agg #[int a, int b, int c]) (.agg #[int x, int y, int z])).run Try.prog w = .ok (decide (a = x ∧ b = y ∧ c = z)) w := by
  have p0 : ∀ w, (part 3 #[int a, int b, int c] 0).run Try.prog w = .ok (int a) w := fun w => part3 w _ 0 _ rfl
  have p1 : ∀ w, (part 3 #[int a, int b, int c] 1).run Try.prog w = .ok (int b) w := fun w => part3 w _ 1 _ rfl
  have p2 : ∀ w, (part 3 #[int a, int b, int c] 2).run Try.prog w = .ok (int c) w := fun w => part3 w _ 2 _ rfl
  have q0 : ∀ w, (part 3 #[int x, int y, int z] 0).run Try.prog w = .ok (int x) w := fun w => part3 w _ 0 _ rfl
  have q1 : ∀ w, (part 3 #[int x, int y, int z] 1).run Try.prog w = .ok (int y) w := fun w => part3 w _ 1 _ rfl
  have q2 : ∀ w, (part 3 #[int x, int y, int z] 2).run Try.prog w = .ok (int z) w := fun w => part3 w _ 2 _ rfl
  have e := fun w a x => eq3 d w a x
  have hs : ∀ w, (sizeOf 3).run Try.prog w = .ok 1 w := fun w => by kernel_rfl
  rw [show d + 2 = (d + 1) + 1 from rfl, Op.equalIn]
  simp only [Sem.run_bind, run_underlying Try.underlying23, Result.andThen_ok, hs, Std.Legacy.Range.forIn_eq_forIn_range', Std.Legacy.Range.size, Nat.sub_zero, Nat.add_sub_cancel, Nat.div_one, List.range'_succ, List.range'_zero, List.forIn_cons, List.forIn_nil, Nat.mul_one, p0, q0, e]
  by_cases h0 : a = x
  · subst h0
    by_cases h1 : b = y
    · subst h1
      by_cases h2 : c = z
      · subst h2
        simp [p1, p2, e]
      · simp [h2, p1, q1, p2, q2, e]
    · simp [h1, p1, q1, e]
  · simp [h0]
theorem run_equal23 (w : World) (a b c x y z : Int) : (Op.equalIn 9998 23 (.agg #[int a, int b, int c]) (.agg #[int x, int y, int z])).run Try.prog w = .ok (decide (a = x ∧ b = y ∧ c = z)) w := run_equal23' 9996 w a b c x y z
def newHM (par : List Nat) : HM := ⟨par.length + 1, [], fun i => if i < 4 then -1 else 0, fun _ => ⟨false, [], 0, [], 0⟩⟩

abbrev houseCells (b n : Nat) : List Value := [ptr b, int ((n : Int) + 1), .slice none 0 0, int (-1), int (-1), int (-1), int (-1), int 0, int 0, int 0, int 0, int 0, int 0, int 0, int 0, .bool false, .slice none 0 0, int 0, .slice none 0 0, int 0, .bool false, .slice none 0 0, int 0, .slice none 0 0, int 0, .bool false, .slice none 0 0, int 0, .slice none 0 0, int 0, .bool false, .slice none 0 0, int 0, .slice none 0 0, int 0, .bool false, .slice none 0 0, int 0, .slice none 0 0, int 0, .bool false, .slice none 0 0, int 0, .slice none 0 0, int 0, .bool false, .slice none 0 0, int 0, .slice none 0 0, int 0, .bool false, .slice none 0 0, int 0, .slice none 0 0, int 0]

theorem newHX (w : World) (b : Nat) (par : List Nat) : HX (w.alloc (.cells (houseCells b par.length).toArray 37)) w.heap.size b (fun k => if k = w.heap.size then some rHouse else none) (newHM par) := by
  have hg : (w.alloc (.cells (houseCells b par.length).toArray 37)).heap[w.heap.size]? = some (.cells (houseCells b par.length).toArray 37) := heap_alloc_new _ _
  have hc := box_cell hg
  have row : ∀ (κ : Nat → Option Role) (r : Role) (e : TypeId) (sz : Nat), RowAt (w.alloc (.cells (houseCells b par.length).toArray 37)) κ r e sz 0 [] (.slice none 0 0) := fun κ r e sz => ⟨World.ownsRow_nil _ _ _ _, fun g hg => by simp [Value.ownBlock] at hg⟩
  refine ⟨by simp, ⟨_, hg⟩, hc 0, hc 1, ⟨_, hc 2, row _ _ _ _⟩, fun i hi => ?_, fun s hs => ?_, fun k hk => ?_⟩
  · rw [hc]
    rcases i with _ | _ | _ | _ | _ | _ | _ | _ | _ | _ | _ | _ | i
    all_goals first | omega | rfl
  · have key : ∀ j, j < 5 → (w.alloc (.cells (houseCells b par.length).toArray 37)).cell? ⟨w.heap.size, 15 + s * 5 + j, none⟩ = [Value.bool false, .slice none 0 0, int 0, .slice none 0 0, int 0][j]? := fun j hj => by
      rw [hc]
      rcases s with _ | _ | _ | _ | _ | _ | _ | _ | s
      all_goals first | omega | (rcases j with _ | _ | _ | _ | _ | j <;> first | omega | rfl)
    exact ⟨key 0 (by omega), ⟨none, 0, key 1 (by omega), Or.inl rfl⟩, key 2 (by omega), ⟨_, key 3 (by omega), row _ _ _ _⟩, key 4 (by omega)⟩
  · by_cases e : k = w.heap.size
    · subst e; simp
    · simp [e] at hk

set_option maxRecDepth 100000 in
set_option maxHeartbeats 4000000 in
theorem houseX (ra : Option Addr) (n c : Nat) (f : Nat → Int) (w : World) (hn : n ≤ maxLen) (h : RawAt w ra n f) :
    Calls Try.prog 11 #[.slice ra n c] w fun e w' => ∃ hb b κ ρ, e = .returned (.tuple #[ptr hb, .bool true]) ∧ HN w' hb b κ ρ (newNet (treeP f (min n 5))) (newHM (treeP f (min n 5))) ∧ (∀ k, κ k ≠ none ∨ ρ k ≠ none → w.heap.size ≤ k) ∧ Calm w w' := by
  have T := treeP_tree f (min n 5) (by omega)
  have TT := hide T
  have H := hide h
  clear h T
  go_enter Try.func11, Try.ntmps11
  go_wp2_with fail
  refine (tree_any ra n c f _ hn (unhide H)).mono ?_
  rintro e w1 ⟨v, rfl, hP, ⟨a', c', rfl⟩, ht1⟩
  have HP := hide hP
  have HT1 := hide ht1
  obtain ⟨par, hpar⟩ : ∃ par, par = treeP f (min n 5) := ⟨_, rfl⟩
  have hpl : par.length = min n 5 := by rw [hpar]; exact treeP_len _ _
  rw [← hpl]
  rw [← hpar, ← hpl] at HP
  rw [← hpar] at TT
  have HPAR := hide hpar
  have hp5 : (par.length : Int) ≤ 5 := by omega
  clear hP ht1 hpar hpl H hn
  go_wp2_with fail
  refine (newX _ (unhide TT) (unhide HP)).mono ?_
  rintro e w2 ⟨b, ρ, rfl, hX, hlow, ht2⟩
  have HX := hide hX
  have HLOW := hide hlow
  have HT2 := hide ht2
  clear hX hlow ht2 HP
  go_wp2_with fail
  refine (newX (par := [0]) _ exTree (Or.inr ⟨w2.heap.size, 0, 1, rfl, fun j hj => ?_⟩)).mono ?_
  · have : j = 0 := by simp only [List.length_singleton] at hj; omega
    subst this
    exact box_cell (heap_alloc_new _ _) 0
  rintro e w3 ⟨a, ρ3, rfl, hX3, hlow3, ht3⟩
  have hE0 : Ex w2 w3 a ρ3 ex0 := ⟨hX3, ((Touch.refl _ _).alloc _).calm ht3, fun k hk => by have := hlow3 k hk; simp at this; omega⟩
  have HE0 := hide hE0
  clear hX3 hlow3 ht3 hE0
  go_wp2_with fail
  refine (attachS (unhide HE0).x (newI exTree) (by rw [ex0_w]; omega) (c := 0) (x := 1) (by omega) (by decide) rfl rfl).mono ?_
  rintro e w4 ⟨rfl, ρ4, hX4, hI4, hw4, _, hM4⟩
  have HE1 := hide ((unhide HE0).mv (σ' := ex1) hX4 hM4)
  have HI1 : Hid (SpreadI _ _ ex1) := hI4
  clear hX4 hM4 hI4 hw4 HE0
  go_wp2_with fail
  refine (attachS (unhide HE1).x (unhide HI1) (by rw [ex1_w]; omega) (c := 1) (x := 0) (by omega) (by decide +kernel) rfl rfl).mono ?_
  rintro e w5 ⟨rfl, ρ5, hX5, hI5, hw5, _, hM5⟩
  have HE2 := hide ((unhide HE1).mv (σ' := ex2) hX5 hM5)
  have HI2 : Hid (SpreadI _ _ ex2) := hI5
  clear hX5 hM5 hI5 hw5 HE1 HI1
  go_wp2_with fail
  refine (subscribeS (((unhide HE2).step ((Touch.refl _ _).alloc _)).x) (unhide HI2) (by rw [ex2_w]; omega) (c := 0) (x := 1) (by omega) rfl rfl (l := exL) exL_good (Or.inr ⟨w5.heap.size, 0, rfl, fun j v hj => ?_⟩) 1).mono ?_
  · have := new_cells w5 (exL.flatMap Tst.enc) 85 j v hj
    rw [Addr.add_mid] at this
    exact this
  rintro e w6 ⟨rfl, ρ6, hX6, hI6, hw6, _, hM6⟩
  have HE3 := hide (((unhide HE2).step ((Touch.refl _ _).alloc _)).mv (σ' := ex3) hX6 hM6)
  have HI3 : Hid (SpreadI _ _ ex3) := hI6
  clear hX6 hM6 hI6 hw6 HE2 HI2
  go_wp2_with fail
  refine (deliverX (unhide HE3).x (unhide HI3).fine.fit (unhide HI3).fine.lt ex3_q).mono ?_
  rintro e w7 ⟨rfl, ρ7, hX7, hM7⟩
  have HE4 := hide ((unhide HE3).mv (σ' := ex4) hX7 hM7)
  have HI4 : Hid (SpreadI _ _ ex4) := (spread_runs _ _).del _ _ _ _ _ (unhide HI3) ex3_q
  have HF4 := hide ((unhide HI4).flow (no_frames (unhide HI4).sp.good ex4_w))
  clear hX7 hM7 HE3 HI3
  go_wp2_with fail
  refine (publishS (unhide HE4).x (unhide HF4) ex4_full (c := 1) (x := 0) (by omega) rfl 7 8 9 (by simp)).mono ?_
  rw [ex4_many]
  rintro e w8 ⟨rfl, ρ8, hX8, hI8, _, _, hM8⟩
  have HE5 := hide ((unhide HE4).mv (σ' := ex5) hX8 hM8)
  have HF5 : Hid (FlowI _ _ _ ex5) := hI8
  clear hX8 hM8 hI8 HE4 HI4 HF4
  go_wp2_with fail
  refine (deliverX (unhide HE5).x ((unhide HF5).fine (by simp)).fit (by simp) ex5_q).mono ?_
  rintro e w9 ⟨rfl, ρ9, hX9, hM9⟩
  have HE6 := hide ((unhide HE5).mv (σ' := ex6) hX9 hM9)
  clear hX9 hM9 HE5 HF5
  go_wp2_with fail
  refine (logX (unhide HE6).x (c := 0) (by omega)).mono ?_
  rw [ex6_log]
  rintro e w10 ⟨v, rfl, hrow, hX10, hM10⟩
  have HE7 := hide ((unhide HE6).mv hX10 hM10)
  have hcell := fun g hg => World.ownsRow.cells hrow (g := g) hg
  rcases hrow.2 with ⟨_, h0⟩ | ⟨g, cap, cur, rfl, _⟩
  · cases h0
  have d0 := hcell g rfl 0 _ rfl
  have d1 := hcell g rfl 1 _ rfl
  have d2 := hcell g rfl 2 _ rfl
  have d3 := hcell g rfl 3 _ rfl
  have d4 := hcell g rfl 4 _ rfl
  have d5 := hcell g rfl 5 _ rfl
  have d6 := hcell g rfl 6 _ rfl
  rw [Addr.add_mid] at d0 d1 d2 d3 d4 d5 d6
  simp only [Nat.zero_add] at d0 d1 d2 d3 d4 d5 d6
  clear hcell hrow hX10 hM10 HE6
  have heq := run_equal23
  go_wp2
  go_ret2
  have h12 := (unhide HT1).size
  have h23 := (unhide HT2).size
  have h37 := (unhide HE7).calm.size
  have hxn := (unhide HX).calm ((unhide HE7).calm.calm ((Touch.refl _ _).alloc (.cells (houseCells b par.length).toArray 37)))
  refine ⟨w10.heap.size, b, fun k => if k = w10.heap.size then some rHouse else none, ρ, rfl, ?_, fun k hk => ?_, (((unhide HT1).calm (unhide HT2)).calm (unhide HE7).calm).alloc _⟩
  · rw [← unhide HPAR]
    refine ⟨hxn, newHX w10 b par, fun k hk => ?_⟩
    have : k = w10.heap.size := by
      by_cases e : k = w10.heap.size
      · exact e
      · simp [e] at hk
    subst this
    cases hr : ρ w10.heap.size with
    | none => rfl
    | some r =>
      have := (unhide HX).lt w10.heap.size (by rw [hr]; simp)
      omega
  · rcases hk with hk | hk
    · by_cases e : k = w10.heap.size
      · omega
      · simp [e] at hk
    · have := unhide HLOW k hk
      omega

end Go.Proofs.Ytodfcpblcpogiaa

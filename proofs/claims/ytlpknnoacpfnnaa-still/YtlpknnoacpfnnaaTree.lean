/-
  Trees of at most six brokers: what is true of their paths (looked up: there are 154 of them).
-/
import Derived.Test.YtlpknnoacpfnnaaNet
namespace Go.Proofs.Ytlpknnoacpfnnaa

def trees : Nat → List (List Nat)
  | 0 => [[]]
  | k + 1 => (trees k).flatMap fun l => (List.range (k + 1)).map fun p => l ++ [p]

def forest : List (List Nat) := (List.range 6).flatMap trees

/-- All that is asked of a tree. -/
def treeCheck (par : List Nat) : Bool :=
  (List.range (size par)).all fun x => (List.range (size par)).all fun h =>
    (x == h || (near par x (next par x h) && decide (next par x h < size par) && decide (dist par x h = dist par (next par x h) h + 1))) &&
    (List.range (size par)).all fun y => !near par x y || ((next par x h == y || next par y h == x) && (y != h || next par x h == y))

def treeCheck2 (par : List Nat) : Bool :=
  (List.range (size par)).all fun x => (List.range (size par)).all fun y =>
    !near par x y || (decide (1 + (((List.range (size par)).filter fun z => near par y z && decide (z ≠ x)).map fun z => beyond par y z).sum ≤ beyond par x y) && decide (beyond par x y ≤ 5) && near par y x && decide (x ≠ y) &&
      (List.range (size par)).all fun h => !(next par x h == y && next par y h == x) || x == h || y == h)

def treeCheck3 (par : List Nat) : Bool :=
  (List.range (size par)).all fun x => decide ((((List.range (size par)).filter fun z => near par x z).map fun z => beyond par x z).sum ≤ 5)

set_option maxRecDepth 100000 in
theorem forest_check : (forest.all fun par => treeCheck par && treeCheck2 par && treeCheck3 par) = true := by decide +kernel


/-- A list of parents that is a tree. -/
def Tree (par : List Nat) : Prop := par.length ≤ 5 ∧ ∀ i, i < par.length → par.getD i 0 ≤ i

theorem trees_mem : ∀ (k : Nat) (par : List Nat), par.length = k → (∀ i, i < par.length → par.getD i 0 ≤ i) → par ∈ trees k
  | 0, par, h, _ => by
    have : par = [] := List.eq_nil_of_length_eq_zero h
    subst this; simp [trees]
  | k + 1, par, h, hp => by
    have hne : par ≠ [] := by intro e; subst e; simp at h
    have hsplit := List.dropLast_concat_getLast hne
    have hl : par.dropLast.length = k := by simp [h]
    have hlast : par.getLast hne = par.getD k 0 := by
      rw [List.getLast_eq_getElem, List.getD_eq_getElem?_getD, List.getElem?_eq_getElem (by omega)]
      simp [h]
    have ih := trees_mem k par.dropLast hl (fun i hi => by
      have h1 := hp i (by omega)
      have h2 : par.dropLast.getD i 0 = par.getD i 0 := by
        rw [List.getD_eq_getElem?_getD, List.getD_eq_getElem?_getD, List.getElem?_dropLast, if_pos (by omega)]
      omega)
    rw [trees, List.mem_flatMap]
    refine ⟨par.dropLast, ih, ?_⟩
    rw [List.mem_map]
    refine ⟨par.getD k 0, ?_, ?_⟩
    · have := hp k (by omega)
      exact List.mem_range.2 (by omega)
    · rw [← hlast]; exact hsplit

theorem Tree.mem {par : List Nat} (h : Tree par) : par ∈ forest := by
  rw [forest, List.mem_flatMap]
  exact ⟨par.length, by have := h.1; simp; omega, trees_mem _ _ rfl h.2⟩

theorem Tree.check {par : List Nat} (h : Tree par) : treeCheck par = true ∧ treeCheck2 par = true ∧ treeCheck3 par = true := by
  have := List.all_eq_true.1 forest_check par h.mem
  simp only [Bool.and_eq_true] at this
  exact ⟨this.1.1, this.1.2, this.2⟩

theorem all_range {n : Nat} {p : Nat → Bool} (h : (List.range n).all p = true) {x : Nat} (hx : x < n) : p x = true := List.all_eq_true.1 h x (List.mem_range.2 hx)

theorem isPar_lt {par : List Nat} (h : Tree par) {p c : Nat} (hp : isPar par p c = true) : p < c ∧ c < size par := by
  have hp := of_decide_eq_true hp
  simp only [up, size] at hp
  have := h.2 (c - 1) (by omega)
  simp only [size]
  omega

section
variable {par : List Nat} (T : Tree par)
include T

theorem near_lt {x y : Nat} (h : near par x y = true) : x < size par ∧ y < size par := by
  simp only [near, Bool.or_eq_true] at h
  rcases h with h | h
  · have := isPar_lt T h; omega
  · have := isPar_lt T h; omega

theorem size_le : size par ≤ 6 := by have := T.1; simp only [size]; omega

theorem near_lt6 {x y : Nat} (h : near par x y = true) : x < 6 ∧ y < 6 := by
  have := near_lt T h; have := size_le T; omega

omit T in
theorem near_comm (x y : Nat) : near par x y = near par y x := by simp only [near]; exact Bool.or_comm _ _

theorem near_ne {x y : Nat} (h : near par x y = true) : x ≠ y := by
  simp only [near, Bool.or_eq_true] at h
  rcases h with h | h
  · have := isPar_lt T h; omega
  · have := isPar_lt T h; omega

theorem next_step {x h : Nat} (hx : x < size par) (hh : h < size par) (hne : x ≠ h) : near par x (next par x h) = true ∧ next par x h < size par ∧ dist par x h = dist par (next par x h) h + 1 := by
  have := all_range (all_range T.check.1 hx) hh
  simp only [Bool.and_eq_true, Bool.or_eq_true, beq_iff_eq, decide_eq_true_eq] at this
  rcases this.1 with e | ⟨⟨h1, h2⟩, h3⟩
  · exact absurd e hne
  · exact ⟨h1, h2, h3⟩

theorem turn {x y h : Nat} (hn : near par x y = true) (hh : h < size par) : next par x h = y ∨ next par y h = x := by
  have := all_range (all_range T.check.1 (near_lt T hn).1) hh
  simp only [Bool.and_eq_true] at this
  have := all_range this.2 (near_lt T hn).2
  simp only [hn, Bool.not_true, Bool.false_or, Bool.and_eq_true, Bool.or_eq_true, beq_iff_eq] at this
  exact this.1

theorem next_near {x y : Nat} (hn : near par x y = true) : next par x y = y := by
  have := all_range (all_range T.check.1 (near_lt T hn).1) (near_lt T hn).2
  simp only [Bool.and_eq_true] at this
  have := all_range this.2 (near_lt T hn).2
  simp only [hn, Bool.not_true, Bool.false_or, Bool.and_eq_true, Bool.or_eq_true, beq_iff_eq, bne_self_eq_false] at this
  simpa using this.2

theorem beyond_step {x y : Nat} (hn : near par x y = true) : 1 + (((List.range (size par)).filter fun z => near par y z && decide (z ≠ x)).map fun z => beyond par y z).sum ≤ beyond par x y ∧ beyond par x y ≤ 5 := by
  have := all_range (all_range T.check.2.1 (near_lt T hn).1) (near_lt T hn).2
  simp only [hn, Bool.not_true, Bool.false_or, Bool.and_eq_true, decide_eq_true_eq] at this
  exact ⟨this.1.1.1.1, this.1.1.1.2⟩

theorem beyond_all {x : Nat} (hx : x < size par) : (((List.range (size par)).filter fun z => near par x z).map fun z => beyond par x z).sum ≤ 5 := by
  have := all_range T.check.2.2 hx
  simpa using this
end

theorem distF_le (par : List Nat) : ∀ k x h, distF par k x h ≤ k
  | 0, _, _ => by simp [distF]
  | k + 1, x, h => by
    simp only [distF]
    split
    · omega
    · have := distF_le par k (next par x h) h; omega
theorem dist_le (par : List Nat) (x h : Nat) : dist par x h ≤ 6 := distF_le par 6 x h
@[simp] theorem dist_self (par : List Nat) (x : Nat) : dist par x x = 0 := by simp [dist, distF]
theorem dist_pos {par : List Nat} {x h : Nat} (hne : x ≠ h) : 0 < dist par x h := by simp [dist, distF, hne]

end Go.Proofs.Ytlpknnoacpfnnaa

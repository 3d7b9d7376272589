/-
  Over, as the pure net has it: an event of client 1, while nothing else waits: it goes to the home of client 0, and is told for the slot that is used; or nowhere, if none is.
-/
import Derived.Test.YtodfcpblcpogiaaAtp
import Derived.Test.YtodfcpblcpogiaaReads
import Derived.Test.YtodfcpblcpogiaaKeptR
import Derived.Test.YtodfcpblcpogiaaQuiet
namespace Go.Proofs.Ytodfcpblcpogiaa

/-! ### branches of a tree -/
def branchCheck (par : List Nat) : Bool :=
  (List.range (size par)).all fun y => (List.range (size par)).all fun z => (List.range (size par)).all fun g =>
    z == y || !(g == y || !(next par y g == next par y z)) || next par z g == next par z y
set_option maxRecDepth 100000 in
theorem forest_branch : (forest.all fun par => branchCheck par) = true := by decide +kernel
/-- Out of a branch all ways lead over its root. -/
theorem branch {par : List Nat} (T : Tree par) {y z g : Nat} (hy : y < size par) (hz : z < size par) (hg : g < size par) (hzy : z ≠ y) (h : g = y ∨ next par y g ≠ next par y z) : next par z g = next par z y := by
  have h1 := List.all_eq_true.1 forest_branch par T.mem
  have := all_range (all_range (all_range h1 hy) hz) hg
  simp only [Bool.or_eq_true, beq_iff_eq, Bool.not_eq_true'] at this
  rcases this with (e | e) | e
  · exact absurd e hzy
  · exfalso
    simp only [Bool.or_eq_false_iff, beq_eq_false_iff_ne, Bool.not_eq_false', beq_iff_eq, ne_eq] at e
    rcases h with h | h
    · exact e.1 h
    · exact h e.2
  · exact e

/-- Beyond the link from x to y. -/
def ySide (par : List Nat) (x y z : Nat) : Prop := z ≠ x ∧ next par x z = y
instance (par : List Nat) (x y z : Nat) : Decidable (ySide par x y z) := by unfold ySide; exact inferInstance
section
variable {par : List Nat} (T : Tree par) {x y z : Nat}
include T
theorem ySide_self (hn : near par x y = true) : ySide par x y y := ⟨fun e => near_ne T hn e.symm, next_near T hn⟩
/-- One link on. -/
theorem ySide_on (hn : near par x y = true) (hz : z < size par) (h : ySide par x y z) (hzy : z ≠ y) : next par y z ≠ x ∧ near par y (next par y z) = true ∧ ySide par y (next par y z) z := by
  have hxy := near_lt T hn
  refine ⟨fun e => ?_, (next_step T hxy.2 hz (fun e => hzy e.symm)).1, hzy, rfl⟩
  have h1 := next_step T hxy.2 hz (fun e => hzy e.symm)
  have h2 := next_step T hxy.1 hz (fun e => h.1 e.symm)
  rw [h.2] at h2
  rw [e] at h1
  omega
theorem ySide_back {w : Nat} (hn : near par x y = true) (_ : near par y w = true) (hwx : w ≠ x) (hz : z < size par) (h : ySide par y w z) : ySide par x y z := by
  have hxy := near_lt T hn
  have hyx : near par y x = true := by rw [near_comm]; exact hn
  have hne : x ≠ y := near_ne T hn
  refine ⟨fun e => ?_, ?_⟩
  · subst e
    have := next_near T hyx
    rw [h.2] at this
    exact hwx this
  · have := branch T hxy.2 hxy.1 hz hne (Or.inr (by rw [h.2, next_near T hyx]; exact hwx))
    rw [this]; exact next_near T hn
end

/-! ### one subscription's state -/
def LedTo (v : View) (t : Nat → Nat) : Prop := ∀ z, z < size v.par → ∃ o, v.co z = some o ∧ o.fl = v.fl ∧ o.way = wayTo v.par z (t z)
inductive SlotS (s : Nat) (v : View) : Prop
  | led (h : Nat) (hu : v.used = true) (hh : v.home = some h) (hl : h < size v.par) (hq : ∀ x y f, f ∈ v.q x y → ∃ evs more, f = .rest s evs more h) (ht : LedTo v fun _ => h)
  | moving (h old x y : Nat) (hu : v.used = true) (hh : v.home = some h) (hl : h < size v.par ∧ old < size v.par) (hm : Fr.move s v.age v.fl old h ∈ v.q x y) (hq : ∀ x y f, f ∈ v.q x y → f.isMv = true) (ht : LedTo v fun z => if ySide v.par x y z then old else h)
  | rising (h : Nat) (hu : v.used = true) (hh : v.home = some h) (hl : h < size v.par) (hq : ∀ u w f, f ∈ v.q u w → f = .sub s v.age v.fl ∧ w ≠ h ∧ next v.par w h = u)
      (ht : ∀ z, z < size v.par → (∃ o, v.co z = some o ∧ o.age = v.age ∧ o.fl = v.fl ∧ o.way = wayTo v.par z h) ∨ (v.co z = none ∧ ∃ u w, Fr.sub s v.age v.fl ∈ v.q u w ∧ ySide v.par u w z))
  | fading (hu : v.used = false) (hq : ∀ u w f, f ∈ v.q u w → ∃ age, f = .unsub s age) (ht : ∀ z, z < size v.par → v.co z = none ∨ ∃ u w age, Fr.unsub s age ∈ v.q u w ∧ ySide v.par u w z ∧ ∀ o, v.co z = some o → o.age ≤ age)

/-- Nothing waits: all know, or none does. -/
theorem SlotS.calm {s : Nat} {v : View} (S : SlotS s v) (hq : ∀ x y, v.q x y = []) : (∃ h, v.used = true ∧ v.home = some h ∧ LedTo v fun _ => h) ∨ (v.used = false ∧ ∀ z, z < size v.par → v.co z = none) := by
  cases S with
  | led h hu hh hl _ ht => exact Or.inl ⟨h, hu, hh, ht⟩
  | moving h old x y hu hh hl hm _ ht => rw [hq] at hm; cases hm
  | rising h hu hh hl _ ht =>
    refine Or.inl ⟨h, hu, hh, fun z hz => ?_⟩
    rcases ht z hz with ⟨o, h1, _, h3, h4⟩ | ⟨_, u, w, h1, _⟩
    · exact ⟨o, h1, h3, h4⟩
    · rw [hq] at h1; cases h1
  | fading hu _ ht =>
    refine Or.inr ⟨hu, fun z hz => ?_⟩
    rcases ht z hz with h | ⟨u, w, age, h1, _⟩
    · exact h
    · rw [hq] at h1; cases h1

/-! ### frames -/
section
variable {σ : Net}
theorem mem_push {x y a b : Nat} {f g : Fr} : f ∈ (σ.push x y g).q a b ↔ f ∈ σ.q a b ∨ (a = x ∧ b = y ∧ f = g) := by
  show f ∈ put2 σ.q x y (σ.q x y ++ [g]) a b ↔ _
  by_cases e : a = x ∧ b = y
  · obtain ⟨rfl, rfl⟩ := e
    rw [put2_same, List.mem_append, List.mem_singleton]
    simp
  · rw [put2_other _ _ e]
    constructor
    · exact Or.inl
    · rintro (h | ⟨h1, h2, _⟩)
      · exact h
      · exact absurd ⟨h1, h2⟩ e
theorem mem_pushes {x a b : Nat} {f g : Fr} : ∀ (ys : List Nat) (σ : Net), f ∈ (σ.pushAll x ys g).q a b ↔ f ∈ σ.q a b ∨ (a = x ∧ b ∈ ys ∧ f = g)
  | [], σ => by simp [Net.pushAll]
  | y :: ys, σ => by
    have ih := mem_pushes (x := x) (a := a) (b := b) (f := f) (g := g) ys (σ.push x y g)
    have : (σ.pushAll x (y :: ys) g) = ((σ.push x y g).pushAll x ys g) := rfl
    rw [this, ih, mem_push]
    simp only [List.mem_cons]
    constructor
    · rintro ((h | ⟨h1, h2, h3⟩) | ⟨h1, h2, h3⟩)
      · exact Or.inl h
      · exact Or.inr ⟨h1, Or.inl h2, h3⟩
      · exact Or.inr ⟨h1, Or.inr h2, h3⟩
    · rintro (h | ⟨h1, h2 | h2, h3⟩)
      · exact Or.inl (Or.inl h)
      · exact Or.inl (Or.inr ⟨h1, h2, h3⟩)
      · exact Or.inr ⟨h1, h2, h3⟩
theorem mem_pop {a b x y : Nat} {f g : Fr} {r : List Fr} (hq : σ.q a b = f :: r) : g ∈ σ.q x y ↔ g ∈ put2 σ.q a b r x y ∨ (x = a ∧ y = b ∧ g = f) := by
  by_cases e : x = a ∧ y = b
  · obtain ⟨rfl, rfl⟩ := e
    rw [put2_same, hq, List.mem_cons]
    simp [or_comm]
  · rw [put2_other _ _ e]
    constructor
    · exact Or.inl
    · rintro (h | ⟨h1, h2, _⟩)
      · exact h
      · exact absurd ⟨h1, h2⟩ e
theorem mem_view {s x y : Nat} {f : Fr} : f ∈ (σ.view s).q x y ↔ f ∈ σ.q x y ∧ f.about s = true := List.mem_filter
theorem mem_others {b y : Nat} {but : Option Nat} : y ∈ σ.others b but ↔ y < σ.n ∧ some y ≠ but ∧ near σ.par b y = true := by
  simp [Net.others]

/-- A frame that is not about it. -/
theorem view_handle {s a b : Nat} {f : Fr} {r : List Fr} (hq : σ.q a b = f :: r) (hf : f.about s = false) : (Net.handle { σ with q := put2 σ.q a b r } b (some a) f).view s = σ.view s := by
  have h0 := view_pop hq hf
  cases f with
  | sub t age fl =>
    have hts : s ≠ t := fun e => by subst e; simp [Fr.about] at hf
    simp only [Net.handle, Net.spread]
    rw [view_pushAll hf]
    unfold Net.learn
    split
    · rw [view_know_other _ hts]; exact h0
    · split
      · rw [view_know_other _ hts]; exact h0
      · exact h0
  | unsub t age =>
    have hts : s ≠ t := fun e => by subst e; simp [Fr.about] at hf
    simp only [Net.handle, Net.spread]
    rw [view_pushAll hf]
    unfold Net.forget
    split
    · exact h0
    · split
      · rw [view_know_other _ hts]; exact h0
      · exact h0
  | event e => exact (view_happens _ b e (some a) s).trans h0
  | move t age fl old new =>
    have hts : s ≠ t := fun e => by subst e; simp [Fr.about] at hf
    have hne2 : ∀ evs m n, (Fr.rest t evs m n).about s = false := fun _ _ _ => by simp [Fr.about]; exact fun h => hts h.symm
    simp only [Net.handle]
    split
    · rw [view_push_other (by split <;> exact hne2 _ _ _), view_know_other _ hts]; exact h0
    · rw [view_push_other hf, view_know_other _ hts]; exact h0
  | rest t evs m new =>
    have hts : s ≠ t := fun e => by subst e; simp [Fr.about] at hf
    simp only [Net.handle]
    split
    · rw [view_push_other hf]; exact h0
    · split
      · exact h0
      · rw [view_know_other _ hts, view_tells, view_tells, view_lose]; exact h0
end

section
variable {σ : Net} {s a b : Nat} {r : List Fr}

end

section
variable {σ : Net} {s a b : Nat} {r : List Fr}

theorem only_at {v : View} {x y u w : Nat} {f g : Fr} (ho : v.only x y f) (hg : g ∈ v.q u w) (hm : g.isMv = true) : u = x ∧ w = y ∧ g = f := by
  have hin : g ∈ v.mv u w := List.mem_filter.2 ⟨hg, hm⟩
  by_cases e : u = x ∧ w = y
  · obtain ⟨rfl, rfl⟩ := e
    rw [ho.1] at hin
    exact ⟨rfl, rfl, List.mem_singleton.1 hin⟩
  · rw [ho.2 u w e] at hin; cases hin

end

section
variable {par : List Nat} {U : Nat → Bool} {here : Option Nat} {p a : Nat} {σ : Net}

end

section
variable {par : List Nat} {U : Nat → Bool} {here : Option Nat} {p a : Nat} {σ : Net}

end

section
variable {par : List Nat} {U : Nat → Bool} {here : Option Nat} {p a : Nat} {σ : Net}

end

section
variable {par : List Nat} {U : Nat → Bool} {a p k : Nat} {σ : Net} {e : News}

end

end Go.Proofs.Ytodfcpblcpogiaa

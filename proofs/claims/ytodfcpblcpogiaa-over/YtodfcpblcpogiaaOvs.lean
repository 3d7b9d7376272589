/-
  Over, as the pure net has it: two subscriptions, one behind the other.
-/
import Derived.Test.YtodfcpblcpogiaaAtp
import Derived.Test.YtodfcpblcpogiaaReads
import Derived.Test.YtodfcpblcpogiaaKeptR
import Derived.Test.YtodfcpblcpogiaaQuiet
namespace Go.Proofs.Ytodfcpblcpogiaa

/-! ### branches of a tree -/
def branchCheck (par : List Nat) : Bool :=
  (List.range (size par)).all fun y => (List.range (size par)).all fun z => (List.range (size par)).all fun g =>
    z == y || !(g == y || !(next par y g == next par y z)) || next par z g == next par z y
set_option maxRecDepth 100000 in
theorem forest_branch : (forest.all fun par => branchCheck par) = true := by decide +kernel
/-- Out of a branch all ways lead over its root. -/
theorem branch {par : List Nat} (T : Tree par) {y z g : Nat} (hy : y < size par) (hz : z < size par) (hg : g < size par) (hzy : z ≠ y) (h : g = y ∨ next par y g ≠ next par y z) : next par z g = next par z y := by
  have h1 := List.all_eq_true.1 forest_branch par T.mem
  have := all_range (all_range (all_range h1 hy) hz) hg
  simp only [Bool.or_eq_true, beq_iff_eq, Bool.not_eq_true'] at this
  rcases this with (e | e) | e
  · exact absurd e hzy
  · exfalso
    simp only [Bool.or_eq_false_iff, beq_eq_false_iff_ne, Bool.not_eq_false', beq_iff_eq, ne_eq] at e
    rcases h with h | h
    · exact e.1 h
    · exact h e.2
  · exact e

/-- Beyond the link from x to y. -/
def ySide (par : List Nat) (x y z : Nat) : Prop := z ≠ x ∧ next par x z = y
instance (par : List Nat) (x y z : Nat) : Decidable (ySide par x y z) := by unfold ySide; exact inferInstance
section
variable {par : List Nat} (T : Tree par) {x y z : Nat}
include T
theorem ySide_self (hn : near par x y = true) : ySide par x y y := ⟨fun e => near_ne T hn e.symm, next_near T hn⟩
/-- One link on. -/
theorem ySide_on (hn : near par x y = true) (hz : z < size par) (h : ySide par x y z) (hzy : z ≠ y) : next par y z ≠ x ∧ near par y (next par y z) = true ∧ ySide par y (next par y z) z := by
  have hxy := near_lt T hn
  refine ⟨fun e => ?_, (next_step T hxy.2 hz (fun e => hzy e.symm)).1, hzy, rfl⟩
  have h1 := next_step T hxy.2 hz (fun e => hzy e.symm)
  have h2 := next_step T hxy.1 hz (fun e => h.1 e.symm)
  rw [h.2] at h2
  rw [e] at h1
  omega
theorem ySide_back {w : Nat} (hn : near par x y = true) (_ : near par y w = true) (hwx : w ≠ x) (hz : z < size par) (h : ySide par y w z) : ySide par x y z := by
  have hxy := near_lt T hn
  have hyx : near par y x = true := by rw [near_comm]; exact hn
  have hne : x ≠ y := near_ne T hn
  refine ⟨fun e => ?_, ?_⟩
  · subst e
    have := next_near T hyx
    rw [h.2] at this
    exact hwx this
  · have := branch T hxy.2 hxy.1 hz hne (Or.inr (by rw [h.2, next_near T hyx]; exact hwx))
    rw [this]; exact next_near T hn
end

/-! ### one subscription's state -/
def LedTo (v : View) (t : Nat → Nat) : Prop := ∀ z, z < size v.par → ∃ o, v.co z = some o ∧ o.fl = v.fl ∧ o.way = wayTo v.par z (t z)
inductive SlotS (s : Nat) (v : View) : Prop
  | led (h : Nat) (hu : v.used = true) (hh : v.home = some h) (hl : h < size v.par) (hq : ∀ x y f, f ∈ v.q x y → ∃ evs more, f = .rest s evs more h) (ht : LedTo v fun _ => h)
  | moving (h old x y : Nat) (hu : v.used = true) (hh : v.home = some h) (hl : h < size v.par ∧ old < size v.par) (hm : Fr.move s v.age v.fl old h ∈ v.q x y) (hq : ∀ x y f, f ∈ v.q x y → f.isMv = true) (ht : LedTo v fun z => if ySide v.par x y z then old else h)
  | rising (h : Nat) (hu : v.used = true) (hh : v.home = some h) (hl : h < size v.par) (hq : ∀ u w f, f ∈ v.q u w → f = .sub s v.age v.fl ∧ w ≠ h ∧ next v.par w h = u)
      (ht : ∀ z, z < size v.par → (∃ o, v.co z = some o ∧ o.age = v.age ∧ o.fl = v.fl ∧ o.way = wayTo v.par z h) ∨ (v.co z = none ∧ ∃ u w, Fr.sub s v.age v.fl ∈ v.q u w ∧ ySide v.par u w z))
  | fading (hu : v.used = false) (hq : ∀ u w f, f ∈ v.q u w → ∃ age, f = .unsub s age) (ht : ∀ z, z < size v.par → v.co z = none ∨ ∃ u w age, Fr.unsub s age ∈ v.q u w ∧ ySide v.par u w z ∧ ∀ o, v.co z = some o → o.age ≤ age)

/-- Nothing waits: all know, or none does. -/
theorem SlotS.calm {s : Nat} {v : View} (S : SlotS s v) (hq : ∀ x y, v.q x y = []) : (∃ h, v.used = true ∧ v.home = some h ∧ LedTo v fun _ => h) ∨ (v.used = false ∧ ∀ z, z < size v.par → v.co z = none) := by
  cases S with
  | led h hu hh hl _ ht => exact Or.inl ⟨h, hu, hh, ht⟩
  | moving h old x y hu hh hl hm _ ht => rw [hq] at hm; cases hm
  | rising h hu hh hl _ ht =>
    refine Or.inl ⟨h, hu, hh, fun z hz => ?_⟩
    rcases ht z hz with ⟨o, h1, _, h3, h4⟩ | ⟨_, u, w, h1, _⟩
    · exact ⟨o, h1, h3, h4⟩
    · rw [hq] at h1; cases h1
  | fading hu _ ht =>
    refine Or.inr ⟨hu, fun z hz => ?_⟩
    rcases ht z hz with h | ⟨u, w, age, h1, _⟩
    · exact h
    · rw [hq] at h1; cases h1

/-! ### frames -/
section
variable {σ : Net}
theorem mem_push {x y a b : Nat} {f g : Fr} : f ∈ (σ.push x y g).q a b ↔ f ∈ σ.q a b ∨ (a = x ∧ b = y ∧ f = g) := by
  show f ∈ put2 σ.q x y (σ.q x y ++ [g]) a b ↔ _
  by_cases e : a = x ∧ b = y
  · obtain ⟨rfl, rfl⟩ := e
    rw [put2_same, List.mem_append, List.mem_singleton]
    simp
  · rw [put2_other _ _ e]
    constructor
    · exact Or.inl
    · rintro (h | ⟨h1, h2, _⟩)
      · exact h
      · exact absurd ⟨h1, h2⟩ e
theorem mem_pushes {x a b : Nat} {f g : Fr} : ∀ (ys : List Nat) (σ : Net), f ∈ (σ.pushAll x ys g).q a b ↔ f ∈ σ.q a b ∨ (a = x ∧ b ∈ ys ∧ f = g)
  | [], σ => by simp [Net.pushAll]
  | y :: ys, σ => by
    have ih := mem_pushes (x := x) (a := a) (b := b) (f := f) (g := g) ys (σ.push x y g)
    have : (σ.pushAll x (y :: ys) g) = ((σ.push x y g).pushAll x ys g) := rfl
    rw [this, ih, mem_push]
    simp only [List.mem_cons]
    constructor
    · rintro ((h | ⟨h1, h2, h3⟩) | ⟨h1, h2, h3⟩)
      · exact Or.inl h
      · exact Or.inr ⟨h1, Or.inl h2, h3⟩
      · exact Or.inr ⟨h1, Or.inr h2, h3⟩
    · rintro (h | ⟨h1, h2 | h2, h3⟩)
      · exact Or.inl (Or.inl h)
      · exact Or.inl (Or.inr ⟨h1, h2, h3⟩)
      · exact Or.inr ⟨h1, h2, h3⟩
theorem mem_pop {a b x y : Nat} {f g : Fr} {r : List Fr} (hq : σ.q a b = f :: r) : g ∈ σ.q x y ↔ g ∈ put2 σ.q a b r x y ∨ (x = a ∧ y = b ∧ g = f) := by
  by_cases e : x = a ∧ y = b
  · obtain ⟨rfl, rfl⟩ := e
    rw [put2_same, hq, List.mem_cons]
    simp [or_comm]
  · rw [put2_other _ _ e]
    constructor
    · exact Or.inl
    · rintro (h | ⟨h1, h2, _⟩)
      · exact h
      · exact absurd ⟨h1, h2⟩ e
theorem mem_view {s x y : Nat} {f : Fr} : f ∈ (σ.view s).q x y ↔ f ∈ σ.q x y ∧ f.about s = true := List.mem_filter
theorem mem_others {b y : Nat} {but : Option Nat} : y ∈ σ.others b but ↔ y < σ.n ∧ some y ≠ but ∧ near σ.par b y = true := by
  simp [Net.others]

/-- A frame that is not about it. -/
theorem view_handle {s a b : Nat} {f : Fr} {r : List Fr} (hq : σ.q a b = f :: r) (hf : f.about s = false) : (Net.handle { σ with q := put2 σ.q a b r } b (some a) f).view s = σ.view s := by
  have h0 := view_pop hq hf
  cases f with
  | sub t age fl =>
    have hts : s ≠ t := fun e => by subst e; simp [Fr.about] at hf
    simp only [Net.handle, Net.spread]
    rw [view_pushAll hf]
    unfold Net.learn
    split
    · rw [view_know_other _ hts]; exact h0
    · split
      · rw [view_know_other _ hts]; exact h0
      · exact h0
  | unsub t age =>
    have hts : s ≠ t := fun e => by subst e; simp [Fr.about] at hf
    simp only [Net.handle, Net.spread]
    rw [view_pushAll hf]
    unfold Net.forget
    split
    · exact h0
    · split
      · rw [view_know_other _ hts]; exact h0
      · exact h0
  | event e => exact (view_happens _ b e (some a) s).trans h0
  | move t age fl old new =>
    have hts : s ≠ t := fun e => by subst e; simp [Fr.about] at hf
    have hne2 : ∀ evs m n, (Fr.rest t evs m n).about s = false := fun _ _ _ => by simp [Fr.about]; exact fun h => hts h.symm
    simp only [Net.handle]
    split
    · rw [view_push_other (by split <;> exact hne2 _ _ _), view_know_other _ hts]; exact h0
    · rw [view_push_other hf, view_know_other _ hts]; exact h0
  | rest t evs m new =>
    have hts : s ≠ t := fun e => by subst e; simp [Fr.about] at hf
    simp only [Net.handle]
    split
    · rw [view_push_other hf]; exact h0
    · split
      · exact h0
      · rw [view_know_other _ hts, view_tells, view_tells, view_lose]; exact h0
end

section
variable {σ : Net} {s a b : Nat} {r : List Fr}

theorem SlotS.sub (S : SlotS s (σ.view s)) (L : Live σ) {age : Int} {fl : List Tst} (hq : σ.q a b = .sub s age fl :: r) : SlotS s ((Net.handle { σ with q := put2 σ.q a b r } b (some a) (.sub s age fl)).view s) := by
  have T := L.good.tree
  have hn := L.good.nbr a b (by rw [hq]; simp)
  have hb := (near_lt T hn).2
  have hmem : Fr.sub s age fl ∈ (σ.view s).q a b := mem_view.2 ⟨by rw [hq]; exact List.mem_cons_self .., by simp [Fr.about]⟩
  cases S with
  | led h hu hh hl hqs ht => obtain ⟨_, _, e⟩ := hqs a b _ hmem; cases e
  | moving h old x y hu hh hl hm hqs ht => have := hqs a b _ hmem; cases this
  | fading hu hqs ht => obtain ⟨_, e⟩ := hqs a b _ hmem; cases e
  | rising h hu hh hl hqs ht =>
    obtain ⟨e1, hbh, hnb⟩ := hqs a b _ hmem
    cases e1
    -- what it is then
    obtain ⟨τ, hτ⟩ : ∃ τ, τ = Net.learn { σ with q := put2 σ.q a b r } b s (σ.view s).age (σ.view s).fl (some a) := ⟨_, rfl⟩
    have hkeep := learn_keeps { σ with q := put2 σ.q a b r } b s (σ.view s).age (σ.view s).fl (some a)
    rw [← hτ] at hkeep
    have hk : ∀ z, z ≠ b → τ.kn z s = σ.kn z s := fun z hz => by
      rw [hτ]; unfold Net.learn
      split
      · exact put2_other _ _ (fun e => hz e.1)
      · split
        · exact put2_other _ _ (fun e => hz e.1)
        · rfl
    have hkb : ∃ o, (τ.kn b s).map Fact.co = some o ∧ o.age = (σ.view s).age ∧ o.fl = (σ.view s).fl ∧ o.way = wayTo σ.par b h := by
      rcases ht b hb with ⟨o, h1, h2, h3, h4⟩ | ⟨h1, _⟩
      · have h1' : (σ.kn b s).map Fact.co = some o := h1
        refine ⟨o, ?_, h2, h3, h4⟩
        rw [← h1', hτ]; unfold Net.learn
        cases hkn : σ.kn b s with
        | none => rw [hkn] at h1'; cases h1'
        | some f =>
          rw [hkn] at h1'
          have h1' := Option.some.inj h1'
          have hfa : f.age = (σ.view s).age := by rw [← h2, ← h1']; rfl
          simp only [hfa, Int.lt_irrefl, if_false]
          exact congrArg (Option.map Fact.co) hkn
      · have h1' : (σ.kn b s).map Fact.co = none := h1
        have hkn : ({ σ with q := put2 σ.q a b r } : Net).kn b s = none := by
          show σ.kn b s = none
          cases hkn : σ.kn b s with
          | none => rfl
          | some f => rw [hkn] at h1'; cases h1'
        refine ⟨⟨(σ.view s).age, (σ.view s).fl, some a, false⟩, ?_, rfl, rfl, ?_⟩
        · rw [hτ]; unfold Net.learn; rw [hkn]
          show (put2 σ.kn b s _ b s).map Fact.co = _
          rw [put2_same]; rfl
        · show some a = wayTo σ.par b h
          unfold wayTo; rw [if_neg hbh]
          exact congrArg some hnb.symm
    have hn2 : τ.n = σ.n := by unfold Net.n; rw [hkeep.1]
    have hv : (τ.spread b (some a) (.sub s (σ.view s).age (σ.view s).fl)).view s = { σ.view s with co := fun z => (τ.kn z s).map Fact.co, q := fun x y => ((τ.spread b (some a) (.sub s (σ.view s).age (σ.view s).fl)).q x y).filter (Fr.about s) } := by
      have := view_eq σ (τ.spread b (some a) (.sub s (σ.view s).age (σ.view s).fl)) s ((pushAll_par _ _ _ _).trans hkeep.1) ((pushAll_keeps _ _).2.1.trans hkeep.2.2.2)
      rw [this]
      have hkk : (τ.spread b (some a) (.sub s (σ.view s).age (σ.view s).fl)).kn = τ.kn := (pushAll_keeps _ _).1
      simp only [hkk]
    have hqm : ∀ x y f, f ∈ ((τ.spread b (some a) (.sub s (σ.view s).age (σ.view s).fl)).q x y).filter (Fr.about s) ↔ (f ∈ put2 σ.q a b r x y ∧ f.about s = true) ∨ (x = b ∧ y ∈ τ.others b (some a) ∧ f = .sub s (σ.view s).age (σ.view s).fl) := fun x y f => by
      rw [List.mem_filter, Net.spread, mem_pushes, hkeep.2.1]
      constructor
      · rintro ⟨h1 | h1, h2⟩
        · exact Or.inl ⟨h1, h2⟩
        · exact Or.inr h1
      · rintro (⟨h1, h2⟩ | h1)
        · exact ⟨Or.inl h1, h2⟩
        · exact ⟨Or.inr h1, by rw [h1.2.2]; simp [Fr.about]⟩
    show SlotS s ((Net.spread (Net.learn { σ with q := put2 σ.q a b r } b s (σ.view s).age (σ.view s).fl (some a)) b (some a) (.sub s (σ.view s).age (σ.view s).fl)).view s)
    rw [← hτ, hv]
    refine .rising h hu hh hl (fun u w f hf => ?_) (fun z hz => ?_)
    · rcases (hqm u w f).1 hf with ⟨h1, h2⟩ | ⟨rfl, h2, rfl⟩
      · exact hqs u w f (mem_view.2 ⟨(mem_pop hq).2 (Or.inl h1), h2⟩)
      · obtain ⟨h3, h4, h5⟩ := mem_others.1 h2
        have hp : τ.par = σ.par := hkeep.1
        rw [hp] at h5
        have ho := outward T h5 hl (by
          show w ≠ next σ.par u h
          have : next σ.par u h = a := hnb
          rw [this]
          exact fun e => h4 (congrArg some e))
        exact ⟨rfl, ho.1, ho.2⟩
    · by_cases hzb : z = b
      · subst hzb; exact Or.inl hkb
      · have hco : (τ.kn z s).map Fact.co = (σ.view s).co z := by rw [hk z hzb]; rfl
        rcases ht z hz with ⟨o, h1, h2⟩ | ⟨h1, u, w, h2, h3⟩
        · exact Or.inl ⟨o, hco.trans h1, h2⟩
        · refine Or.inr ⟨hco.trans h1, ?_⟩
          rcases (mem_pop hq).1 (mem_view.1 h2).1 with h4 | ⟨rfl, rfl, _⟩
          · exact ⟨u, w, (hqm u w _).2 (Or.inl ⟨h4, by simp [Fr.about]⟩), h3⟩
          · obtain ⟨h5, h6, h7⟩ := ySide_on T hn hz h3 hzb
            refine ⟨w, next σ.par w z, (hqm _ _ _).2 (Or.inr ⟨rfl, mem_others.2 ⟨?_, ?_, ?_⟩, rfl⟩), h7⟩
            · rw [hn2]; exact (near_lt T h6).2
            · intro e; exact h5 (Option.some.inj e)
            · rw [hkeep.1]; exact h6

theorem SlotS.unsub (S : SlotS s (σ.view s)) (L : Live σ) {age : Int} (hq : σ.q a b = .unsub s age :: r) : SlotS s ((Net.handle { σ with q := put2 σ.q a b r } b (some a) (.unsub s age)).view s) := by
  have T := L.good.tree
  have hn := L.good.nbr a b (by rw [hq]; simp)
  have hb := (near_lt T hn).2
  have hmem : Fr.unsub s age ∈ (σ.view s).q a b := mem_view.2 ⟨by rw [hq]; exact List.mem_cons_self .., by simp [Fr.about]⟩
  cases S with
  | led h hu hh hl hqs ht => obtain ⟨_, _, e⟩ := hqs a b _ hmem; cases e
  | moving h old x y hu hh hl hm hqs ht => have := hqs a b _ hmem; cases this
  | rising h hu hh hl hqs ht => obtain ⟨e, _⟩ := hqs a b _ hmem; cases e
  | fading hu hqs ht =>
    obtain ⟨τ, hτ⟩ : ∃ τ, τ = Net.forget { σ with q := put2 σ.q a b r } b s age := ⟨_, rfl⟩
    have hkeep := forget_keeps { σ with q := put2 σ.q a b r } b s age
    rw [← hτ] at hkeep
    have hk : ∀ z, z ≠ b → τ.kn z s = σ.kn z s := fun z hz => by
      rw [hτ]; unfold Net.forget
      split
      · rfl
      · split
        · exact put2_other _ _ (fun e => hz e.1)
        · rfl
    have hkb : ∀ o, (τ.kn b s).map Fact.co = some o → (σ.view s).co b = some o ∧ age < o.age := fun o ho => by
      rw [hτ] at ho
      unfold Net.forget at ho
      cases hkn : σ.kn b s with
      | none =>
        have : ({ σ with q := put2 σ.q a b r } : Net).kn b s = none := hkn
        rw [this] at ho
        simp only at ho
        rw [this] at ho; cases ho
      | some f =>
        have : ({ σ with q := put2 σ.q a b r } : Net).kn b s = some f := hkn
        rw [this] at ho
        simp only at ho
        split at ho
        · change (put2 σ.kn b s none b s).map Fact.co = some o at ho
          rw [put2_same] at ho; cases ho
        · rename_i hlt
          rw [this] at ho
          have ho' := Option.some.inj ho
          refine ⟨?_, ?_⟩
          · show (σ.kn b s).map Fact.co = some o
            rw [hkn]; exact ho
          · rw [← ho']; show age < f.age; omega
    have hn2 : τ.n = σ.n := by unfold Net.n; rw [hkeep.1]
    have hv : (τ.spread b (some a) (.unsub s age)).view s = { σ.view s with co := fun z => (τ.kn z s).map Fact.co, q := fun x y => ((τ.spread b (some a) (.unsub s age)).q x y).filter (Fr.about s) } := by
      have := view_eq σ (τ.spread b (some a) (.unsub s age)) s ((pushAll_par _ _ _ _).trans hkeep.1) ((pushAll_keeps _ _).2.1.trans hkeep.2.2.2)
      rw [this]
      have hkk : (τ.spread b (some a) (.unsub s age)).kn = τ.kn := (pushAll_keeps _ _).1
      simp only [hkk]
    have hqm : ∀ x y f, f ∈ ((τ.spread b (some a) (.unsub s age)).q x y).filter (Fr.about s) ↔ (f ∈ put2 σ.q a b r x y ∧ f.about s = true) ∨ (x = b ∧ y ∈ τ.others b (some a) ∧ f = .unsub s age) := fun x y f => by
      rw [List.mem_filter, Net.spread, mem_pushes, hkeep.2.1]
      constructor
      · rintro ⟨h1 | h1, h2⟩
        · exact Or.inl ⟨h1, h2⟩
        · exact Or.inr h1
      · rintro (⟨h1, h2⟩ | h1)
        · exact ⟨Or.inl h1, h2⟩
        · exact ⟨Or.inr h1, by rw [h1.2.2]; simp [Fr.about]⟩
    show SlotS s ((Net.spread (Net.forget { σ with q := put2 σ.q a b r } b s age) b (some a) (.unsub s age)).view s)
    rw [← hτ, hv]
    refine .fading hu (fun u w f hf => ?_) (fun z hz => ?_)
    · rcases (hqm u w f).1 hf with ⟨h1, h2⟩ | ⟨rfl, h2, rfl⟩
      · exact hqs u w f (mem_view.2 ⟨(mem_pop hq).2 (Or.inl h1), h2⟩)
      · exact ⟨age, rfl⟩
    · by_cases hzb : z = b
      · subst hzb
        rcases ht z hz with h1 | ⟨u, w, age', h2, h3, h4⟩
        · left
          show (τ.kn z s).map Fact.co = none
          cases hkn : (τ.kn z s).map Fact.co with
          | none => rfl
          | some o => have := (hkb o hkn).1; rw [h1] at this; cases this
        · rcases (mem_pop hq).1 (mem_view.1 h2).1 with h5 | ⟨rfl, _, h5⟩
          · exact Or.inr ⟨u, w, age', (hqm u w _).2 (Or.inl ⟨h5, by simp [Fr.about]⟩), h3, fun o ho => h4 o (hkb o ho).1⟩
          · cases h5
            left
            show (τ.kn z s).map Fact.co = none
            cases hkn : (τ.kn z s).map Fact.co with
            | none => rfl
            | some o =>
              have := hkb o hkn
              have h6 := h4 o this.1
              omega
      · have hco : (τ.kn z s).map Fact.co = (σ.view s).co z := by rw [hk z hzb]; rfl
        rcases ht z hz with h1 | ⟨u, w, age', h2, h3, h4⟩
        · exact Or.inl (hco.trans h1)
        · right
          rcases (mem_pop hq).1 (mem_view.1 h2).1 with h5 | ⟨rfl, rfl, h5⟩
          · exact ⟨u, w, age', (hqm u w _).2 (Or.inl ⟨h5, by simp [Fr.about]⟩), h3, fun o ho => h4 o (hco.symm.trans ho)⟩
          · cases h5
            obtain ⟨h5, h6, h7⟩ := ySide_on T hn hz h3 hzb
            refine ⟨w, next σ.par w z, age, (hqm _ _ _).2 (Or.inr ⟨rfl, mem_others.2 ⟨?_, ?_, ?_⟩, rfl⟩), h7, fun o ho => h4 o (hco.symm.trans ho)⟩
            · rw [hn2]; exact (near_lt T h6).2
            · intro e; exact h5 (Option.some.inj e)
            · rw [hkeep.1]; exact h6
end

section
variable {σ : Net} {s a b : Nat} {r : List Fr}

theorem only_at {v : View} {x y u w : Nat} {f g : Fr} (ho : v.only x y f) (hg : g ∈ v.q u w) (hm : g.isMv = true) : u = x ∧ w = y ∧ g = f := by
  have hin : g ∈ v.mv u w := List.mem_filter.2 ⟨hg, hm⟩
  by_cases e : u = x ∧ w = y
  · obtain ⟨rfl, rfl⟩ := e
    rw [ho.1] at hin
    exact ⟨rfl, rfl, List.mem_singleton.1 hin⟩
  · rw [ho.2 u w e] at hin; cases hin

theorem SlotS.move (S : SlotS s (σ.view s)) (L : Live σ) (M : MvWay σ) (hs : s < 8) {age : Int} {fl : List Tst} {old new : Nat} (hq : σ.q a b = .move s age fl old new :: r) : SlotS s ((Net.handle { σ with q := put2 σ.q a b r } b (some a) (.move s age fl old new)).view s) := by
  have T := L.good.tree
  have hn := L.good.nbr a b (by rw [hq]; simp)
  have hab := near_lt T hn
  have hmem : Fr.move s age fl old new ∈ (σ.view s).q a b := mem_view.2 ⟨by rw [hq]; exact List.mem_cons_self .., by simp [Fr.about]⟩
  have hq' := head_q hq (show (Fr.move s age fl old new).about s = true by simp [Fr.about])
  have hmv : (σ.view s).mv a b = .move s age fl old new :: (r.filter (Fr.about s)).filter Fr.isMv := by unfold View.mv; rw [hq']; rfl
  obtain ⟨hao, hno, hnn⟩ := M a b s age fl old new (by rw [hq]; exact List.mem_cons_self ..)
  rcases (L.view s hs).ph.of_mem hmv with ⟨h1, old1, hu, hh, he, hne, hl, hc, hd, hbut, hon, hdi, e⟩ | ⟨_, _, _, _, _, _, _, _, _, _, e⟩
  · cases e
    have hl1 : new < size σ.par := hl.1
    have hl2 : old < size σ.par := hl.2
    cases S with
    | led h hu' hh' hl' hqs ht => obtain ⟨_, _, e⟩ := hqs a b _ hmem; cases e
    | rising h hu' hh' hl' hqs ht => obtain ⟨e, _⟩ := hqs a b _ hmem; cases e
    | fading hu' hqs ht => obtain ⟨_, e⟩ := hqs a b _ hmem; cases e
    | moving h2 old2 x y hu' hh' hl' hm2 hqs ht =>
      obtain ⟨rfl, rfl, e2⟩ := only_at hon hm2 rfl
      cases e2
      -- nothing else waits
      have hrest : ∀ u w f, f ∈ put2 σ.q x y r u w → f.about s = true → False := fun u w f hf ha => by
        have h3 : f ∈ (σ.view s).q u w := mem_view.2 ⟨(mem_pop hq).2 (Or.inl hf), ha⟩
        obtain ⟨rfl, rfl, rfl⟩ := only_at hon h3 (hqs u w f h3)
        rw [put2_same] at hf
        have h4 : Fr.move s (σ.view s).age (σ.view s).fl old new ∈ (r.filter (Fr.about s)).filter Fr.isMv := List.mem_filter.2 ⟨List.mem_filter.2 ⟨hf, ha⟩, rfl⟩
        have h5 := hon.1
        rw [hmv] at h5
        have h6 := (List.cons.inj h5).2
        rw [h6] at h4; cases h4
      have hside : ∀ z, z < size σ.par → ySide σ.par x y z → z ≠ y → z ≠ new ∧ next σ.par z new = next σ.par z y := fun z hz h3 hzy => by
        have h4 := ySide_on T hn hz h3 hzy
        refine ⟨fun e => ?_, branch T hab.2 hz hl1 hzy (Or.inr (by rw [hnn]; exact fun e => h4.1 e.symm))⟩
        subst e; exact h4.1 hnn
      have hyn : y ≠ new := fun e => by subst e; have : dist σ.par y old < dist σ.par y old := hdi; omega
      have hwy : (some x : Option Nat) = wayTo σ.par y new := by unfold wayTo; rw [if_neg hyn, hnn]
      simp only [Net.handle]
      split
      · rename_i hbo
        subst hbo
        suffices hsuf : ∀ g : Fr, (∃ evs more, g = .rest s evs more new) → SlotS s (((Net.know { σ with q := put2 σ.q x y r } y s (some ⟨(σ.view s).age, (σ.view s).fl, some x, [], 0, false⟩)).push y x g).view s) from hsuf _ (by split <;> exact ⟨_, _, rfl⟩)
        intro g hg2
        refine .led new hu' hh hl1 (fun u w f hf => ?_) (fun z hz => ?_)
        · obtain ⟨h3, h4⟩ := mem_view.1 hf
          rcases mem_push.1 h3 with h3 | ⟨rfl, rfl, rfl⟩
          · exact (hrest u w f h3 h4).elim
          · exact hg2
        · show ∃ o, ((put2 σ.kn y s (some ⟨(σ.view s).age, (σ.view s).fl, some x, [], 0, false⟩) z s).map Fact.co) = some o ∧ o.fl = (σ.view s).fl ∧ o.way = wayTo σ.par z new
          by_cases hzy : z = y
          · subst hzy
            exact ⟨⟨(σ.view s).age, (σ.view s).fl, some x, false⟩, by rw [put2_same]; rfl, rfl, hwy⟩
          · rw [put2_other _ _ (fun e => hzy e.1)]
            obtain ⟨o, h3, h4, h5⟩ := ht z hz
            refine ⟨o, h3, h4, h5.trans ?_⟩
            have h5 : wayTo σ.par z (if ySide σ.par x y z then y else new) = wayTo σ.par z new := by
              split
              · rename_i h6
                obtain ⟨h7, h8⟩ := hside z hz h6 hzy
                unfold wayTo; rw [if_neg hzy, if_neg h7, h8]
              · rfl
            exact h5
      · rename_i hbo
        have hbo : y ≠ old := hbo
        have hs2 := next_step T hab.2 hl2 hbo
        have hyx : next σ.par y old ≠ x := fun e => by
          have h3 := next_step T hab.1 hl2 hao
          rw [hno] at h3
          rw [e] at hs2
          omega
        refine .moving new old y (next σ.par y old) hu' hh ⟨hl1, hl2⟩ (mem_view.2 ⟨mem_push.2 (Or.inr ⟨rfl, rfl, rfl⟩), by simp [Fr.about]⟩) (fun u w f hf => ?_) (fun z hz => ?_)
        · obtain ⟨h3, h4⟩ := mem_view.1 hf
          rcases mem_push.1 h3 with h3 | ⟨rfl, rfl, rfl⟩
          · exact (hrest u w f h3 h4).elim
          · rfl
        · show ∃ o, ((put2 σ.kn y s (some ⟨(σ.view s).age, (σ.view s).fl, some x, [], 0, false⟩) z s).map Fact.co) = some o ∧ o.fl = (σ.view s).fl ∧ o.way = wayTo σ.par z (if ySide σ.par y (next σ.par y old) z then old else new)
          by_cases hzy : z = y
          · subst hzy
            refine ⟨⟨(σ.view s).age, (σ.view s).fl, some x, false⟩, by rw [put2_same]; rfl, rfl, ?_⟩
            rw [if_neg (fun h => h.1 rfl)]
            exact hwy
          · rw [put2_other _ _ (fun e => hzy e.1)]
            obtain ⟨o, h3, h4, h5⟩ := ht z hz
            refine ⟨o, h3, h4, h5.trans ?_⟩
            have h5 : wayTo σ.par z (if ySide σ.par x y z then old else new) = wayTo σ.par z (if ySide σ.par y (next σ.par y old) z then old else new) := by
              by_cases h6 : ySide σ.par y (next σ.par y old) z
              · rw [if_pos h6, if_pos (ySide_back T hn hs2.1 hyx hz h6)]
              · rw [if_neg h6]
                split
                · rename_i h7
                  obtain ⟨h8, h9⟩ := hside z hz h7 hzy
                  have hzo : z ≠ old := fun e => by subst e; exact h6 ⟨hzy, rfl⟩
                  have h10 := branch T hab.2 hz hl2 hzy (Or.inr (fun e => h6 ⟨hzy, e.symm⟩))
                  unfold wayTo; rw [if_neg hzo, if_neg h8, h9, h10]
                · rfl
            exact h5
  · cases e

theorem SlotS.rest (S : SlotS s (σ.view s)) (L : Live σ) (hs : s < 8) {evs : List News} {m : Int} {new : Nat} (hq : σ.q a b = .rest s evs m new :: r) : SlotS s ((Net.handle { σ with q := put2 σ.q a b r } b (some a) (.rest s evs m new)).view s) := by
  have hmem : Fr.rest s evs m new ∈ (σ.view s).q a b := mem_view.2 ⟨by rw [hq]; exact List.mem_cons_self .., by simp [Fr.about]⟩
  have hq' := head_q hq (show (Fr.rest s evs m new).about s = true by simp [Fr.about])
  have hmv : (σ.view s).mv a b = .rest s evs m new :: (r.filter (Fr.about s)).filter Fr.isMv := by unfold View.mv; rw [hq']; rfl
  rcases (L.view s hs).ph.of_mem hmv with ⟨_, _, _, _, _, _, _, _, _, _, _, _, e⟩ | ⟨h1, evs1, more1, hu, hh, he, hc, hbut, hon, hk, e⟩
  · cases e
  · cases e
    cases S with
    | rising h hu' hh' hl' hqs ht => obtain ⟨e, _⟩ := hqs a b _ hmem; cases e
    | fading hu' hqs ht => obtain ⟨_, e⟩ := hqs a b _ hmem; cases e
    | moving h2 old2 x y hu' hh' hl' hm2 hqs ht => obtain ⟨_, _, e2⟩ := only_at hon hm2 rfl; cases e2
    | led h hu' hh' hl' hqs ht =>
      have hhn : h = new := by rw [hh] at hh'; exact (Option.some.inj hh').symm
      subst hhn
      simp only [Net.handle]
      split
      · refine .led h hu' hh hl' (fun u w f hf => ?_) (fun z hz => ht z hz)
        obtain ⟨h3, h4⟩ := mem_view.1 hf
        rcases mem_push.1 h3 with h3 | ⟨rfl, rfl, rfl⟩
        · exact hqs u w f (mem_view.2 ⟨(mem_pop hq).2 (Or.inl h3), h4⟩)
        · exact ⟨_, _, rfl⟩
      · rename_i hbn
        have hbn : b = h := by simpa using hbn
        subst hbn
        have hcm : (σ.kn b s).map Fact.co = _ := hc
        cases hk2 : σ.kn b s with
        | none => rw [hk2] at hcm; cases hcm
        | some f =>
          simp only
          rw [hk2] at hcm
          have hcf := Option.some.inj hcm
          rw [view_know_same, view_tells, view_tells, view_lose]
          refine .led b hu' hh hl' (fun u w g hg => ?_) (fun z hz => ?_)
          · have hg : g ∈ ((({ σ with q := put2 σ.q a b r } : Net).view s).q u w) := hg
            obtain ⟨h3, h4⟩ := mem_view.1 hg
            exact hqs u w g (mem_view.2 ⟨(mem_pop hq).2 (Or.inl h3), h4⟩)
          · show ∃ o, put (σ.view s).co b ((some { f with kept := [], waits := false } : Option Fact).map Fact.co) z = some o ∧ o.fl = (σ.view s).fl ∧ o.way = wayTo σ.par z b
            by_cases hzb : z = b
            · subst hzb
              have hfl : f.fl = (σ.view s).fl := by have := congrArg Co.fl hcf; exact this
              refine ⟨_, put_same _ _ _, hfl, ?_⟩
              show f.way = wayTo σ.par z z
              unfold wayTo; rw [if_pos rfl]
              have := congrArg Co.way hcf
              exact this
            · rw [put_other _ _ hzb]; exact ht z hz

/-- A frame is handled. -/
theorem SlotS.del (S : SlotS s (σ.view s)) (L : Live σ) (M : MvWay σ) (hs : s < 8) (x y : Int) : SlotS s ((σ.del x y).view s) := by
  unfold Net.del
  split
  · split
    · rename_i f r hq
      cases hf : f.about s with
      | false => rw [view_handle hq hf]; exact S
      | true =>
        cases f with
        | sub t age fl =>
          have : t = s := by simpa [Fr.about] using hf
          subst this; exact S.sub L hq
        | unsub t age =>
          have : t = s := by simpa [Fr.about] using hf
          subst this; exact S.unsub L hq
        | event e => cases hf
        | move t age fl old new =>
          have : t = s := by simpa [Fr.about] using hf
          subst this; exact S.move L M hs hq
        | rest t evs m new =>
          have : t = s := by simpa [Fr.about] using hf
          subst this; exact S.rest L hs hq
    · exact S
  · exact S
end

/-- A frame that bears no event. -/
def Fr.dry : Fr → Prop
  | .event _ => False
  | .rest _ evs m _ => evs = [] ∧ m = 0
  | _ => True

structure Ov (par : List Nat) (U : Nat → Bool) (here : Option Nat) (p : Nat) (σ : Net) : Prop where
  tr : σ.par = par
  opn : σ.closed = false
  slots : ∀ s, s < 8 → SlotS s (σ.view s)
  bare : ∀ b s f, σ.kn b s = some f → f.kept = [] ∧ f.more = 0
  dry : ∀ x y f, f ∈ σ.q x y → f.dry
  used0 : ∀ k, k < 2 → (σ.cl 0).used k = U k
  usedc : ∀ c k, 0 < c → c < 4 → k < 2 → (σ.cl c).used k = false
  fl : ∀ k, k < 2 → U k = true → (σ.cl 0).fl k = []
  here0 : (σ.cl 0).here = here
  here1 : (σ.cl 1).here = some p
  log : (σ.cl 0).log = []
  core : ∃ E G, Core E G σ

section
variable {par : List Nat} {U : Nat → Bool} {here : Option Nat} {p a : Nat} {σ : Net}

/-- A frame without events tells nothing. -/
theorem Ov.handle (O : Ov par U here p σ) (L : Live σ) (M : MvWay σ) {x y : Nat} {f : Fr} {l : List Fr} (hq : σ.q x y = f :: l) : Ov par U here p (σ.del x y) := by
  have hn := L.good.nbr x y (by rw [hq]; simp)
  have hd := delE_ok O.opn hn hq
  have hdry := O.dry x y f (by rw [hq]; exact List.mem_cons_self ..)
  have key : (σ.del x y).par = σ.par ∧ (σ.del x y).cl = σ.cl ∧ (∀ b s g, (σ.del x y).kn b s = some g → g.kept = [] ∧ g.more = 0) ∧ (∀ u w g, g ∈ (σ.del x y).q u w → g.dry) := by
    rw [hd]
    have hpop : ∀ u w g, g ∈ put2 σ.q x y l u w → g.dry := fun u w g hg => O.dry u w g ((mem_pop hq).2 (Or.inl hg))
    have hnew : ∀ {τ : Net} {b s : Nat} {g : Fact}, (∀ b s f, τ.kn b s = some f → f.kept = [] ∧ f.more = 0) → g.kept = [] ∧ g.more = 0 → ∀ b' s' f, (τ.know b s (some g)).kn b' s' = some f → f.kept = [] ∧ f.more = 0 := fun {τ b s g} h1 h2 b' s' f hf => by
      have hf : put2 τ.kn b s (some g) b' s' = some f := hf
      by_cases e : b' = b ∧ s' = s
      · obtain ⟨rfl, rfl⟩ := e; rw [put2_same] at hf; cases hf; exact h2
      · rw [put2_other _ _ e] at hf; exact h1 b' s' f hf
    cases f with
    | sub t age fl =>
      have k := learn_keeps { σ with q := put2 σ.q x y l } y t age fl (some x)
      refine ⟨(pushAll_par _ _ _ _).trans k.1, (pushAll_keeps _ _).2.1.trans k.2.2.2, fun b s g hg => ?_, fun u w g hg => ?_⟩
      · have hg : (Net.learn { σ with q := put2 σ.q x y l } y t age fl (some x)).kn b s = some g := by rw [← (pushAll_keeps (f := .sub t age fl) (x := y) ((Net.learn { σ with q := put2 σ.q x y l } y t age fl (some x)).others y (some x)) (Net.learn { σ with q := put2 σ.q x y l } y t age fl (some x))).1]; exact hg
        unfold Net.learn at hg
        split at hg
        · exact hnew O.bare ⟨rfl, rfl⟩ b s g hg
        · split at hg
          · exact hnew O.bare ⟨rfl, rfl⟩ b s g hg
          · exact O.bare b s g hg
      · rcases (mem_pushes _ _).1 hg with h1 | ⟨_, _, rfl⟩
        · rw [k.2.1] at h1; exact hpop u w g h1
        · trivial
    | unsub t age =>
      have k := forget_keeps { σ with q := put2 σ.q x y l } y t age
      refine ⟨(pushAll_par _ _ _ _).trans k.1, (pushAll_keeps _ _).2.1.trans k.2.2.2, fun b s g hg => ?_, fun u w g hg => ?_⟩
      · have hg : (Net.forget { σ with q := put2 σ.q x y l } y t age).kn b s = some g := by rw [← (pushAll_keeps (f := .unsub t age) (x := y) ((Net.forget { σ with q := put2 σ.q x y l } y t age).others y (some x)) (Net.forget { σ with q := put2 σ.q x y l } y t age)).1]; exact hg
        unfold Net.forget at hg
        split at hg
        · exact O.bare b s g hg
        · split at hg
          · have hg : put2 σ.kn y t none b s = some g := hg
            by_cases e : b = y ∧ s = t
            · obtain ⟨rfl, rfl⟩ := e; rw [put2_same] at hg; cases hg
            · rw [put2_other _ _ e] at hg; exact O.bare b s g hg
          · exact O.bare b s g hg
      · rcases (mem_pushes _ _).1 hg with h1 | ⟨_, _, rfl⟩
        · rw [k.2.1] at h1; exact hpop u w g h1
        · trivial
    | event e => exact hdry.elim
    | move t age fl old new =>
      simp only [Net.handle]
      split
      · refine ⟨rfl, rfl, fun b s g hg => hnew (τ := { σ with q := put2 σ.q x y l }) O.bare ⟨rfl, rfl⟩ b s g hg, fun u w g hg => ?_⟩
        rcases mem_push.1 hg with h1 | ⟨_, _, rfl⟩
        · exact hpop u w g h1
        · split
          · rename_i f hf
            exact O.bare y t f hf
          · exact ⟨rfl, rfl⟩
      · refine ⟨rfl, rfl, fun b s g hg => hnew (τ := { σ with q := put2 σ.q x y l }) O.bare ⟨rfl, rfl⟩ b s g hg, fun u w g hg => ?_⟩
        rcases mem_push.1 hg with h1 | ⟨_, _, rfl⟩
        · exact hpop u w g h1
        · trivial
    | rest t evs m new =>
      obtain ⟨rfl, rfl⟩ := hdry
      simp only [Net.handle]
      split
      · refine ⟨rfl, rfl, O.bare, fun u w g hg => ?_⟩
        rcases mem_push.1 hg with h1 | ⟨_, _, rfl⟩
        · exact hpop u w g h1
        · exact ⟨rfl, rfl⟩
      · split
        · exact ⟨rfl, rfl, O.bare, hpop⟩
        · rename_i f hf
          have hb := O.bare y t f hf
          rw [lose_nought, hb.1]
          refine ⟨rfl, rfl, fun b s g hg => hnew (τ := { σ with q := put2 σ.q x y l }) (b := y) (s := t) (g := { f with kept := [], waits := false }) O.bare ⟨rfl, hb.2⟩ b s g hg, hpop⟩
  obtain ⟨k1, k2, k3, k4⟩ := key
  obtain ⟨E, G, C⟩ := O.core
  exact ⟨k1.trans O.tr, (del_closed _ _).trans O.opn, fun s hs => (O.slots s hs).del L M hs x y, k3, k4, by rw [k2]; exact O.used0, by rw [k2]; exact O.usedc, by rw [k2]; exact O.fl, by rw [k2]; exact O.here0, by rw [k2]; exact O.here1, by rw [k2]; exact O.log, E, G, C.del L x y⟩

def OvI (par : List Nat) (U : Nat → Bool) (here : Option Nat) (p m : Nat) (σ : Net) : Prop := Ov par U here p σ ∧ Room σ m
theorem ov_runs {m : Nat} (hm : m < 2000000000000) : Runs (OvI par U here p m) m :=
  ⟨fun _ h => ⟨h.2.fit, hm⟩, fun _ h => h.1.opn, fun _ _ _ _ _ h hq => ⟨h.1.handle h.2.fit.live h.2.fit.mv hq, h.2.del h.1.opn hq⟩⟩

theorem full_no (hq : NoQ σ) : σ.full = false := by simp [Net.full, Net.waiting, hq _ _, List.range, List.range.loop]

/-- Nothing waits: a slot that is used is known to all, HERE at the home, and not waited for. -/
theorem Ov.on (O : Ov par U here p σ) (L : Live σ) (hq : NoQ σ) {k : Nat} (hk : k < 2) (hu : U k = true) : ∃ h, (σ.cl 0).home = some h ∧ h < size par ∧ ∀ z, z < size par → ∃ f, σ.kn z k = some f ∧ f.fl = [] ∧ f.way = wayTo par z h ∧ f.kept = [] ∧ f.more = 0 ∧ f.waits = false := by
  have hk2 : k / 2 = 0 := by omega
  have hkm : k % 2 = k := by omega
  have hvq : ∀ x y, (σ.view k).q x y = [] := fun x y => by show (σ.q x y).filter _ = []; rw [hq]; rfl
  have hvu : (σ.view k).used = true := by show (σ.cl (k / 2)).used (k % 2) = true; rw [hk2, hkm, O.used0 k hk, hu]
  have hvf : (σ.view k).fl = [] := by show (σ.cl (k / 2)).fl (k % 2) = []; rw [hk2, hkm]; exact O.fl k hk hu
  rcases (O.slots k (by omega)).calm hvq with ⟨h, _, hh, ht⟩ | ⟨h, _⟩
  · have hhl : h < size σ.par := by
      rcases O.slots k (by omega) with ⟨h', _, hh', hl, _⟩ | ⟨h', _, _, _, _, hh', hl, _⟩ | ⟨h', _, hh', hl, _⟩ | ⟨hu', _⟩
      · rw [hh] at hh'; cases hh'; exact hl
      · rw [hh] at hh'; cases hh'; exact hl.1
      · rw [hh] at hh'; cases hh'; exact hl
      · rw [hvu] at hu'; cases hu'
    have hhome : (σ.cl 0).home = some h := by have h2 : (σ.cl (k / 2)).home = some h := hh; rw [hk2] at h2; exact h2
    refine ⟨h, hhome, by rw [← O.tr]; exact hhl, fun z hz => ?_⟩
    rw [← O.tr] at hz
    obtain ⟨o, h1, h2, h3⟩ := ht z hz
    have h1 : (σ.kn z k).map Fact.co = some o := h1
    cases hf : σ.kn z k with
    | none => rw [hf] at h1; cases h1
    | some f =>
      rw [hf] at h1
      have h1 := Option.some.inj h1
      have hb := O.bare z k f hf
      have hw : f.way = wayTo par z h := by rw [← O.tr]; rw [← h1] at h3; exact h3
      refine ⟨f, rfl, ?_, hw, hb.1, hb.2, ?_⟩
      · rw [← h1] at h2; rw [← hvf]; exact h2
      · by_cases hzh : z = h
        · subst hzh
          rcases (L.view k (by omega)).ph with ⟨hu', _⟩ | ⟨h', _, hh', hc, _⟩ | ⟨_, _, x, y, _, _, _, _, _, _, _, _, ho, _⟩ | ⟨_, x, y, _, _, _, _, _, _, _, ho, _⟩
          · rw [hvu] at hu'; cases hu'
          · rw [hh] at hh'; cases hh'
            have hc : (σ.kn z k).map Fact.co = _ := hc
            rw [hf] at hc
            have := congrArg Co.waits (Option.some.inj hc)
            exact this
          · have h9 := ho.1; unfold View.mv at h9; rw [hvq] at h9; cases h9
          · have h9 := ho.1; unfold View.mv at h9; rw [hvq] at h9; cases h9
        · have hwn : f.way ≠ none := by rw [hw]; unfold wayTo; rw [if_neg hzh]; simp
          exact ((L.kept z k f hf).2 hwn).2.2
  · rw [hvu] at h; cases h
/-- .. one that is not used is known to none. -/
theorem Ov.off (O : Ov par U here p σ) (hq : NoQ σ) {s : Nat} (hs : s < 8) (hu : (σ.cl (s / 2)).used (s % 2) = false) : ∀ z, z < size par → σ.kn z s = none := fun z hz => by
  have hvq : ∀ x y, (σ.view s).q x y = [] := fun x y => by show (σ.q x y).filter _ = []; rw [hq]; rfl
  rcases (O.slots s hs).calm hvq with ⟨h, hu', _⟩ | ⟨_, h⟩
  · have hu' : (σ.cl (s / 2)).used (s % 2) = true := hu'
    rw [hu] at hu'; cases hu'
  · have h1 : (σ.kn z s).map Fact.co = none := h z (by show z < size σ.par; rw [O.tr]; exact hz)
    cases hf : σ.kn z s with
    | none => rfl
    | some f => rw [hf] at h1; cases h1
theorem Ov.noWait (O : Ov par U (some a) p σ) (L : Live σ) (hq : NoQ σ) : σ.waits 0 = false := by
  unfold Net.waits
  rw [O.here0]
  simp only [show List.range 2 = [0, 1] from rfl, List.any_cons, List.any_nil, Bool.or_false, Bool.or_eq_false_iff]
  have ha : a < size par := by
    have := (L.good.clis 0 (by omega)).here a O.here0
    unfold Net.n at this; rw [O.tr] at this; exact this
  have key : ∀ k, k < 2 → ((σ.cl 0).used k && (match σ.kn a (2 * 0 + k) with | some f => f.waits | none => false)) = false := fun k hk => by
    rw [O.used0 k hk]
    cases hu : U k with
    | false => rfl
    | true =>
      obtain ⟨h, _, _, ht⟩ := O.on L hq hk hu
      obtain ⟨f, hf, _, _, _, _, hw⟩ := ht a ha
      rw [show 2 * 0 + k = k by omega, hf]
      simp [hw]
  exact ⟨key 0 (by omega), key 1 (by omega)⟩
theorem Ov.home (O : Ov par U (some a) p σ) (L : Live σ) : (σ.cl 0).home = some a ∧ a < size par :=
  ⟨L.home 0 (by omega) a O.here0, by have := (L.good.clis 0 (by omega)).here a O.here0; unfold Net.n at this; rw [O.tr] at this; exact this⟩
end

theorem SlotS.here {s : Nat} {v : View} (S : SlotS s v) (x : Option Nat) : SlotS s { v with here := x } := by
  cases S with
  | led h hu hh hl hq ht => exact .led h hu hh hl hq ht
  | moving h old x y hu hh hl hm hq ht => exact .moving h old x y hu hh hl hm hq ht
  | rising h hu hh hl hq ht => exact .rising h hu hh hl hq ht
  | fading hu hq ht => exact .fading hu hq ht
theorem SlotS.at {s : Nat} {v : View} (S : SlotS s v) {b : Nat} (h : v.used = true → v.home = some b) : SlotS s { v with here := some b, home := some b } := by
  cases S with
  | led h' hu hh hl hq ht =>
    have : h' = b := by have := h hu; rw [hh] at this; exact Option.some.inj this
    subst this
    exact .led h' hu rfl hl hq ht
  | moving h' old x y hu hh hl hm hq ht =>
    have : h' = b := by have := h hu; rw [hh] at this; exact Option.some.inj this
    subst this
    exact .moving h' old x y hu rfl hl hm hq ht
  | rising h' hu hh hl hq ht =>
    have : h' = b := by have := h hu; rw [hh] at this; exact Option.some.inj this
    subst this
    exact .rising h' hu rfl hl hq ht
  | fading hu hq ht => exact .fading hu hq ht
/-- It comes to another broker. -/
theorem SlotS.come {s : Nat} {v : View} (T : Tree v.par) (hu : v.used = true) {b old : Nat} (hb : b < size v.par) (ho : old < size v.par) (hne : b ≠ old) (hq : ∀ x y, v.q x y = []) (ht : LedTo v fun _ => old) :
    SlotS s { v with age := v.age + 1, here := some b, home := some b, co := put v.co b (some ⟨v.age + 1, v.fl, none, true⟩), q := put2 v.q b (next v.par b old) (v.q b (next v.par b old) ++ [.move s (v.age + 1) v.fl old b]) } := by
  have hs := next_step T hb ho hne
  have hmem : ∀ x y f, f ∈ put2 v.q b (next v.par b old) (v.q b (next v.par b old) ++ [.move s (v.age + 1) v.fl old b]) x y → f = .move s (v.age + 1) v.fl old b := fun x y f hf => by
    by_cases e : x = b ∧ y = next v.par b old
    · obtain ⟨rfl, rfl⟩ := e
      rw [put2_same, hq] at hf
      exact List.mem_singleton.1 hf
    · rw [put2_other _ _ e, hq] at hf; cases hf
  refine .moving b old b (next v.par b old) hu rfl ⟨hb, ho⟩ ?_ (fun x y f hf => by rw [hmem x y f hf]; rfl) (fun z hz => ?_)
  · show _ ∈ put2 v.q b (next v.par b old) _ b (next v.par b old)
    rw [put2_same, hq]; exact List.mem_singleton.2 rfl
  · show ∃ o, put v.co b (some ⟨v.age + 1, v.fl, none, true⟩) z = some o ∧ o.fl = v.fl ∧ o.way = wayTo v.par z (if ySide v.par b (next v.par b old) z then old else b)
    by_cases hzb : z = b
    · subst hzb
      refine ⟨_, put_same _ _ _, rfl, ?_⟩
      rw [if_neg (fun h => h.1 rfl)]
      unfold wayTo; rw [if_pos rfl]
    · rw [put_other _ _ hzb]
      obtain ⟨o, h1, h2, h3⟩ := ht z hz
      refine ⟨o, h1, h2, h3.trans ?_⟩
      by_cases hy : ySide v.par b (next v.par b old) z
      · rw [if_pos hy]
      · rw [if_neg hy]
        have hzo : z ≠ old := fun e => by subst e; exact hy ⟨hzb, rfl⟩
        have := branch T hb hz ho hzb (Or.inr (fun e => hy ⟨hzb, e.symm⟩))
        unfold wayTo; rw [if_neg hzo, if_neg hzb, this]

section
variable {par : List Nat} {U : Nat → Bool} {here : Option Nat} {p a : Nat} {σ : Net}

theorem NoQ.view (hq : NoQ σ) (s x y : Nat) : (σ.view s).q x y = [] := by show (σ.q x y).filter _ = []; rw [hq]; rfl

theorem Ov.detach (O : Ov par U (some a) p σ) (L : Live σ) (hq : NoQ σ) : σ.detachE 0 = 0 ∧ Ov par U none p (σ.detach 0) ∧ NoQ (σ.detach 0) ∧ ((σ.detach 0).cl 0).home = some a := by
  have hE : σ.detachE 0 = 0 := by
    have hw := O.noWait L hq
    simp [Net.detachE, Net.asked, O.opn, isCli, Net.still, O.here0, hw]
  have hE' : σ.detachE ((0 : Nat) : Int) = 0 := hE
  have hd : σ.detach 0 = σ.setCl 0 { σ.cl 0 with here := none } := detach_cl (c := 0) hE'
  obtain ⟨E, G, C⟩ := O.core
  have C' := C.detach (c := 0) hE'
  have h0 : (σ.detach 0).cl 0 = { σ.cl 0 with here := none } := by rw [hd]; simp [Net.setCl]
  have hc : ∀ c, c ≠ 0 → (σ.detach 0).cl c = σ.cl c := fun c hc => by rw [hd]; simp [Net.setCl, put_other _ _ hc]
  refine ⟨hE, ⟨by rw [hd]; exact O.tr, C'.opn, fun s hs => ?_, by rw [hd]; exact O.bare, by rw [hd]; exact O.dry, by rw [h0]; exact O.used0, fun c k h1 h2 h3 => by rw [hc c (by omega)]; exact O.usedc c k h1 h2 h3, by rw [h0]; exact O.fl, by rw [h0], by rw [hc 1 (by omega)]; exact O.here1, by rw [h0]; exact O.log, E, G, C'⟩, by rw [hd]; exact hq, by rw [h0]; exact (O.home L).1⟩
  have hv : (σ.detach 0).view s = { σ.view s with here := ((σ.detach 0).cl (s / 2)).here } := by
    rw [hd]
    by_cases e : s / 2 = 0
    · simp only [Net.view, e, Net.setCl, put_same]
    · simp only [Net.view, Net.setCl, put_other _ _ e]
  rw [hv]
  exact (O.slots s hs).here _

theorem backs_bare {c b k : Nat} (hb : ∀ f, σ.kn b (2 * c + k) = some f → f.kept = [] ∧ f.more = 0) : σ.backs c b k = σ := by
  unfold Net.backs
  split
  · split
    · rfl
    · rename_i f hf
      obtain ⟨h1, h2⟩ := hb f hf
      rw [h2, lose_nought, h1]
      have : ({ f with kept := [], more := 0 } : Fact) = f := by cases f; simp only at h1 h2; subst h1; subst h2; rfl
      rw [this]
      exact know_same σ hf
  · rfl
theorem comes_log (c b old k d : Nat) : ((σ.comes c b old k).cl d).log = (σ.cl d).log := by
  simp only [Net.comes]
  split
  · by_cases e : d = c
    · subst e; simp [Net.push, Net.know, Net.setCl]
    · simp [Net.push, Net.know, Net.setCl, put_other _ _ e]
  · rfl
theorem comes_kn {c b old k z t : Nat} {f : Fact} (h : (σ.comes c b old k).kn z t = some f) : σ.kn z t = some f ∨ (f.kept = [] ∧ f.more = 0) := by
  simp only [Net.comes] at h
  split at h
  · have h : put2 σ.kn b (2 * c + k) _ z t = some f := h
    by_cases e : z = b ∧ t = 2 * c + k
    · obtain ⟨rfl, rfl⟩ := e; rw [put2_same] at h; cases h; exact Or.inr ⟨rfl, rfl⟩
    · rw [put2_other _ _ e] at h; exact Or.inl h
  · exact Or.inl h
theorem comes_dry {c b old k x y : Nat} {f : Fr} (h : f ∈ (σ.comes c b old k).q x y) : f ∈ σ.q x y ∨ f.dry := by
  simp only [Net.comes] at h
  split at h
  · rcases mem_push.1 h with h | ⟨_, _, rfl⟩
    · exact Or.inl h
    · exact Or.inr trivial
  · exact Or.inl h

theorem Ov.attach (O : Ov par U none p σ) (L : Live σ) (hq : NoQ σ) {b : Nat} (hb : b < size par) : σ.attachE 0 b = 0 ∧ Ov par U (some b) p (σ.attach 0 b) := by
  have hful := full_no hq
  have hbn : b < σ.n := by unfold Net.n; rw [O.tr]; exact hb
  have hE : σ.attachE ((0 : Nat) : Int) b = 0 := by
    have hbb : σ.isBro (b : Int) = true := isBro_nat hbn
    simp [Net.attachE, Net.asked, O.opn, isCli, hbb, O.here0, hful]
  obtain ⟨E, G, C⟩ := O.core
  have C' := C.attach L (c := 0) (b := b) hE
  have T := L.good.tree
  refine ⟨hE, ?_⟩
  show Ov par U (some b) p (σ.attach ((0 : Nat) : Int) b)
  have hatt : σ.attach ((0 : Nat) : Int) b = σ.attachN 0 b := by unfold Net.attach; rw [if_pos hE]; simp only [toNat_nat]
  have hcl := fun d => attach_cl hE d
  -- at home
  have hback : ((σ.cl 0).home = none ∨ (σ.cl 0).home = some b) → Ov par U (some b) p (σ.attach ((0 : Nat) : Int) b) := fun hh => by
    have h1 : σ.backs 0 b 0 = σ := backs_bare (fun f hf => O.bare b _ f hf)
    have h2 : σ.backs 0 b 1 = σ := backs_bare (fun f hf => O.bare b _ f hf)
    have ha : σ.attachN 0 b = σ.arrive 0 b := by
      unfold Net.attachN
      rcases hh with hh | hh
      · rw [hh]; simp only; rw [h1, h2]
      · rw [hh]; simp only [if_true]; rw [h1, h2]
    have h0 : (σ.arrive 0 b).cl 0 = { σ.cl 0 with here := some b, home := some b, stays := (σ.cl 0).stays + 1 } := by simp [Net.arrive, Net.setCl]
    have hc : ∀ c, c ≠ 0 → (σ.arrive 0 b).cl c = σ.cl c := fun c hc => by simp [Net.arrive, Net.setCl, put_other _ _ hc]
    rw [hatt, ha] at C' ⊢
    refine ⟨O.tr, C'.opn, fun s hs => ?_, O.bare, O.dry, by rw [h0]; exact O.used0, fun c k g1 g2 g3 => by rw [hc c (by omega)]; exact O.usedc c k g1 g2 g3, by rw [h0]; exact O.fl, by rw [h0], by rw [hc 1 (by omega)]; exact O.here1, by rw [h0]; exact O.log, E, G, C'⟩
    rw [view_arrive]
    split
    · rename_i e
      refine (O.slots s hs).at (fun hu => ?_)
      have hu : (σ.cl (s / 2)).used (s % 2) = true := hu
      show (σ.cl (s / 2)).home = some b
      rw [e] at hu ⊢
      rcases hh with hh | hh
      · exfalso
        obtain ⟨h, h3, _⟩ := O.on L hq (k := s % 2) (by omega) (by rw [← O.used0 _ (by omega)]; exact hu)
        rw [hh] at h3; cases h3
      · exact hh
    · exact O.slots s hs
  cases hh : (σ.cl 0).home with
  | none => exact hback (Or.inl hh)
  | some old =>
    by_cases hob : old = b
    · subst hob; exact hback (Or.inr hh)
    · have hol : old < σ.n := (L.good.clis 0 (by omega)).home old hh
      have ha : σ.attachN 0 b = ((σ.comes 0 b old 0).comes 0 b old 1).arrive 0 b := by
        unfold Net.attachN; rw [hh]; simp only; rw [if_neg hob]
      obtain ⟨τ, hτ⟩ : ∃ τ, τ = (σ.comes 0 b old 0).comes 0 b old 1 := ⟨_, rfl⟩
      have k1 := comes_keeps (σ := σ) 0 b old 0
      have k2 := comes_keeps (σ := σ.comes 0 b old 0) 0 b old 1
      rw [← hτ] at k2 ha
      have hus : (τ.cl 0).used = (σ.cl 0).used := (k2.2.2 0).2.2.1.trans (k1.2.2 0).2.2.1
      have hfl : (τ.cl 0).fl = (σ.cl 0).fl := (k2.2.2 0).2.2.2.trans (k1.2.2 0).2.2.2
      have hlog : (τ.cl 0).log = (σ.cl 0).log := by rw [hτ, comes_log, comes_log]
      have hcc : ∀ c, (τ.cl c).used = (σ.cl c).used ∧ (τ.cl c).here = (σ.cl c).here := fun c => ⟨(k2.2.2 c).2.2.1.trans (k1.2.2 c).2.2.1, (k2.2.2 c).1.trans (k1.2.2 c).1⟩
      have h0 : (τ.arrive 0 b).cl 0 = { τ.cl 0 with here := some b, home := some b, stays := (τ.cl 0).stays + 1 } := by simp [Net.arrive, Net.setCl]
      have hc : ∀ c, c ≠ 0 → (τ.arrive 0 b).cl c = τ.cl c := fun c hc => by simp [Net.arrive, Net.setCl, put_other _ _ hc]
      rw [hatt, ha] at C' ⊢
      refine ⟨(k2.1.trans k1.1).trans O.tr, C'.opn, fun s hs => ?_, fun z t f hf => ?_, fun x y f hf => ?_, fun k hk => by rw [h0]; show (τ.cl 0).used k = U k; rw [hus]; exact O.used0 k hk, fun c k g1 g2 g3 => by rw [hc c (by omega), (hcc c).1]; exact O.usedc c k g1 g2 g3, fun k hk hu => by rw [h0]; show (τ.cl 0).fl k = []; rw [hfl]; exact O.fl k hk hu, by rw [h0], by rw [hc 1 (by omega), (hcc 1).2]; exact O.here1, by rw [h0]; exact hlog.trans O.log, E, G, C'⟩
      · rw [view_arrive]
        split
        · rename_i e
          -- a slot of client 0
          have hone : ∀ k, k < 2 → s = k → SlotS s { τ.view s with here := some b, home := some b } := fun k hk hsk => by
            subst hsk
            have hvk : τ.view s = (σ.comes 0 b old s).view s := by
              rw [hτ]
              rcases (by omega : s = 0 ∨ s = 1) with rfl | rfl
              · exact comes_other (by omega)
              · have h9 : (σ.comes 0 b old 0).view 1 = σ.view 1 := comes_other (by omega)
                cases hu1 : (σ.cl 0).used 1 with
                | false =>
                  rw [comes_off (by rw [(k1.2.2 0).2.2.1]; exact hu1), comes_off (σ := σ) hu1]
                  exact h9
                | true =>
                  have h10 := comes_same (σ := σ.comes 0 b old 0) (c := 0) (b := b) (old := old) (k := 1) (by omega) (by rw [(k1.2.2 0).2.2.1]; exact hu1)
                  have h11 := comes_same (σ := σ) (c := 0) (b := b) (old := old) (k := 1) (by omega) hu1
                  have e1 : (2 * 0 + 1 : Nat) = 1 := rfl
                  rw [e1, h9, k1.1] at h10
                  rw [e1] at h11
                  rw [h10, h11]
            rw [hvk]
            cases hu : (σ.cl 0).used s with
            | false =>
              rw [comes_off hu]
              refine (O.slots s hs).at (fun hu' => ?_)
              have hu' : (σ.cl (s / 2)).used (s % 2) = true := hu'
              rw [show s / 2 = 0 by omega, show s % 2 = s by omega, hu] at hu'; cases hu'
            | true =>
              have h10 := comes_same (σ := σ) (c := 0) (b := b) (old := old) (k := s) (by omega) hu
              have e1 : (2 * 0 + s : Nat) = s := by omega
              rw [e1] at h10
              rw [h10]
              have hv : (σ.view s).used = true := by show (σ.cl (s / 2)).used (s % 2) = true; rw [show s / 2 = 0 by omega, show s % 2 = s by omega]; exact hu
              have hled : LedTo (σ.view s) fun _ => old := by
                rcases (O.slots s hs).calm (NoQ.view hq s) with ⟨h, _, h3, h4⟩ | ⟨h3, _⟩
                · have h3 : (σ.cl (s / 2)).home = some h := h3
                  rw [show s / 2 = 0 by omega, hh] at h3
                  cases h3
                  exact h4
                · rw [hv] at h3; cases h3
              exact SlotS.come (v := σ.view s) T hv hbn hol (fun e => hob e.symm) (NoQ.view hq s) hled
          exact hone s (by omega) rfl
        · rename_i e
          rw [hτ, comes_other (by omega), comes_other (by omega)]
          exact O.slots s hs
      · have hf : τ.kn z t = some f := hf
        rw [hτ] at hf
        rcases comes_kn hf with hf | hf
        · rcases comes_kn hf with hf | hf
          · exact O.bare z t f hf
          · exact hf
        · exact hf
      · have hf : f ∈ τ.q x y := hf
        rw [hτ] at hf
        rcases comes_dry hf with hf | hf
        · rcases comes_dry hf with hf | hf
          · exact O.dry x y f hf
          · exact hf
        · exact hf
end

section
variable {par : List Nat} {U : Nat → Bool} {here : Option Nat} {p a : Nat} {σ : Net}

/-- Another slot's part stays. -/
theorem view_slot {k s : Nat} {x : Cli} (_ : k < 2) (hs : s ≠ k) (hu : ∀ j, j ≠ k → x.used j = (σ.cl 0).used j) (ha : ∀ j, j ≠ k → x.age j = (σ.cl 0).age j) (hf : ∀ j, j ≠ k → x.fl j = (σ.cl 0).fl j) (hh : x.home = (σ.cl 0).home) (he : x.here = (σ.cl 0).here) : (σ.setCl 0 x).view s = σ.view s := by
  by_cases e : s / 2 = 0
  · have hm : s % 2 ≠ k := by omega
    simp only [Net.view, e, Net.setCl, put_same, hu _ hm, ha _ hm, hf _ hm, hh, he]
  · simp only [Net.view, Net.setCl, put_other _ _ e]

theorem Ov.unsub (O : Ov par U (some a) p σ) (L : Live σ) (hq : NoQ σ) {k : Nat} (hk : k < 2) (hu : U k = true) : σ.unsubE 0 k = 0 ∧ Ov par (put U k false) (some a) p (σ.unsub 0 k) := by
  have hw := O.noWait L hq
  have hful := full_no hq
  have hu0 : (σ.cl 0).used k = true := (O.used0 k hk).trans hu
  have T := L.good.tree
  obtain ⟨hhome, hal⟩ := O.home L
  have hE : σ.unsubE ((0 : Nat) : Int) (k : Int) = 0 := by
    have hd : decide (0 ≤ (k : Int) ∧ (k : Int) < 2) = true := decide_eq_true (by omega)
    have hi : isCli ((0 : Nat) : Int) = true := isCli_nat (by omega)
    unfold Net.unsubE
    rw [asked_ok O.opn (by rw [hi, hd]; rfl)]
    simp only [toNat_nat, ne_eq, not_true, if_false, Net.still, O.here0, hw, hu0, hful]
    simp
  refine ⟨hE, ?_⟩
  show Ov par (put U k false) (some a) p (σ.unsub ((0 : Nat) : Int) k)
  obtain ⟨E, G, C⟩ := O.core
  have C' := C.unsub (c := 0) (k := k) O.log hE
  obtain ⟨b', hb', _, _, heq⟩ := unsub_eq hE
  rw [O.here0] at hb'
  cases hb'
  have hcl := unsub_cl hE
  have h0 : (σ.unsub ((0 : Nat) : Int) k).cl 0 = { σ.cl 0 with used := put (σ.cl 0).used k false } := by rw [hcl]; simp [Net.setCl]
  have hc : ∀ c, c ≠ 0 → (σ.unsub ((0 : Nat) : Int) k).cl c = σ.cl c := fun c hc => by rw [hcl]; simp [Net.setCl, put_other _ _ hc]
  have hkk : 2 * 0 + k = k := by omega
  rw [hkk] at heq
  obtain ⟨τ, hτ⟩ : ∃ τ, τ = (σ.setCl 0 { σ.cl 0 with used := put (σ.cl 0).used k false }).know a k none := ⟨_, rfl⟩
  rw [← hτ] at heq
  have hτp : τ.par = σ.par := by rw [hτ]; rfl
  have hτq : τ.q = σ.q := by rw [hτ]; rfl
  have hkn : ∀ z s, (σ.unsub ((0 : Nat) : Int) k).kn z s = put2 σ.kn a k none z s := fun z s => by
    rw [heq]
    show (τ.pushAll a _ _).kn z s = _
    rw [(pushAll_keeps _ _).1, hτ]; rfl
  have hqm : ∀ x y f, f ∈ (σ.unsub ((0 : Nat) : Int) k).q x y ↔ x = a ∧ y ∈ τ.others a none ∧ f = .unsub k ((σ.cl 0).age k) := fun x y f => by
    rw [heq]
    show f ∈ (τ.pushAll a _ _).q x y ↔ _
    rw [mem_pushes, hτq, hq x y]
    simp
  refine ⟨?_, C'.opn, fun s hs => ?_, fun z s f hf => ?_, fun x y f hf => ?_, fun j hj => ?_, fun c j g1 g2 g3 => by rw [hc c (by omega)]; exact O.usedc c j g1 g2 g3, fun j hj hj2 => ?_, by rw [h0]; exact O.here0, by rw [hc 1 (by omega)]; exact O.here1, by rw [h0]; exact O.log, E, G, C'⟩
  · rw [heq]; exact (pushAll_par _ _ _ _).trans (hτp.trans O.tr)
  · by_cases hsk : s = k
    · subst hsk
      have hv : (σ.unsub ((0 : Nat) : Int) s).view s = { σ.view s with used := false, co := put (σ.view s).co a none, q := fun x y => ((σ.unsub ((0 : Nat) : Int) s).q x y).filter (Fr.about s) } := by
        have e1 : s / 2 = 0 := by omega
        have e2 : s % 2 = s := by omega
        have hco : (fun z => ((σ.unsub ((0 : Nat) : Int) s).kn z s).map Fact.co) = put (σ.view s).co a none := by
          funext z
          rw [hkn]
          by_cases e : z = a
          · subst e; rw [put2_same, put_same]; rfl
          · rw [put2_other _ _ (fun h => e h.1), put_other _ _ e]; rfl
        have hp : (σ.unsub ((0 : Nat) : Int) s).par = σ.par := by rw [heq]; exact (pushAll_par _ _ _ _).trans hτp
        simp only [Net.view, hco, hp, e1, e2, h0, put_same]
      rw [hv]
      refine .fading rfl (fun u w f hf => ?_) (fun z hz => ?_)
      · have hf := (List.mem_filter.1 hf).1
        exact ⟨_, ((hqm u w f).1 hf).2.2⟩
      · by_cases hza : z = a
        · left; show put (σ.view s).co a none z = none; rw [hza, put_same]
        · right
          have hal' : a < size σ.par := by rw [O.tr]; exact hal
          have hst := next_step T hal' hz (fun e => hza e.symm)
          refine ⟨a, next σ.par a z, (σ.cl 0).age s, List.mem_filter.2 ⟨(hqm _ _ _).2 ⟨rfl, mem_others.2 ⟨?_, by simp, ?_⟩, rfl⟩, by simp [Fr.about]⟩, ⟨hza, rfl⟩, fun o ho => ?_⟩
          · unfold Net.n; rw [hτp]; exact hst.2.1
          · rw [hτp]; exact hst.1
          · have ho : put (σ.view s).co a none z = some o := ho
            rw [put_other _ _ hza] at ho
            have := (L.view s hs).facts z o ho
            have h9 : (σ.view s).age = (σ.cl 0).age s := by show (σ.cl (s / 2)).age (s % 2) = _; rw [show s / 2 = 0 by omega, show s % 2 = s by omega]
            rw [h9] at this
            exact this
    · have hv : (σ.unsub ((0 : Nat) : Int) k).view s = σ.view s := by
        rw [heq]
        show (τ.pushAll a _ _).view s = _
        rw [view_pushAll (by simp [Fr.about]; exact fun e => hsk e.symm), hτ, view_know_other _ hsk]
        exact view_slot hk hsk (fun j hj => put_other _ _ hj) (fun _ _ => rfl) (fun _ _ => rfl) rfl rfl
      rw [hv]; exact O.slots s hs
  · rw [hkn] at hf
    by_cases e : z = a ∧ s = k
    · obtain ⟨rfl, rfl⟩ := e; rw [put2_same] at hf; cases hf
    · rw [put2_other _ _ e] at hf; exact O.bare z s f hf
  · rw [((hqm x y f).1 hf).2.2]; trivial
  · rw [h0]
    show put (σ.cl 0).used k false j = put U k false j
    by_cases e : j = k
    · subst e; rw [put_same, put_same]
    · rw [put_other _ _ e, put_other _ _ e]; exact O.used0 j hj
  · rw [h0]
    by_cases e : j = k
    · subst e; rw [put_same] at hj2; cases hj2
    · rw [put_other _ _ e] at hj2; exact O.fl j hj hj2
/-- Once more: there is none. -/
theorem Ov.unsubNo (O : Ov par U (some a) p σ) (hw : σ.waits 0 = false) {k : Nat} (hk : k < 2) (hu : U k = false) : σ.unsubE 0 k = 7 := by
  have hu0 : (σ.cl 0).used k = false := (O.used0 k hk).trans hu
  have hd : decide (0 ≤ (k : Int) ∧ (k : Int) < 2) = true := decide_eq_true (by omega)
  have hi : isCli ((0 : Nat) : Int) = true := isCli_nat (by omega)
  show σ.unsubE ((0 : Nat) : Int) k = 7
  unfold Net.unsubE
  rw [asked_ok O.opn (by rw [hi, hd]; rfl)]
  simp only [toNat_nat, ne_eq, not_true, if_false, Net.still, O.here0, hw, hu0]
  simp

theorem Ov.sub (O : Ov par U (some a) p σ) (L : Live σ) (hw : σ.waits 0 = false) (hful : σ.full = false) {k : Nat} (hk : k < 2) (hu : U k = false) (hsl : k = if U 0 then 1 else 0) (hnone : ∀ z, z < size par → σ.kn z k = none) (hqk : ∀ x y, (σ.view k).q x y = []) : σ.subE 0 [] = 0 ∧ σ.slot 0 = k ∧ Ov par (put U k true) (some a) p (σ.sub 0 []) := by
  have hu0 : (σ.cl 0).used k = false := (O.used0 k hk).trans hu
  have T := L.good.tree
  obtain ⟨hhome, hal⟩ := O.home L
  have hslot : σ.slot 0 = k := by unfold Net.slot; rw [O.used0 0 (by omega), hsl]
  have hE : σ.subE ((0 : Nat) : Int) [] = 0 := by
    have hi : isCli ((0 : Nat) : Int) = true := isCli_nat (by omega)
    unfold Net.subE
    rw [asked_ok O.opn (by rw [hi]; rfl)]
    simp only [toNat_nat, ne_eq, not_true, if_false, Net.still, O.here0, hw, hslot, hu0, hful]
    simp
  refine ⟨hE, hslot, ?_⟩
  show Ov par (put U k true) (some a) p (σ.sub ((0 : Nat) : Int) [])
  obtain ⟨E, G, C⟩ := O.core
  have C' := C.sub (c := 0) (l := []) O.log hE
  obtain ⟨b', hb', _, heq⟩ := sub_eq hE
  rw [O.here0] at hb'
  cases hb'
  have hcl := sub_cl hE
  rw [hslot] at hcl heq
  have h0 : (σ.sub ((0 : Nat) : Int) []).cl 0 = { σ.cl 0 with used := put (σ.cl 0).used k true, age := put (σ.cl 0).age k ((σ.cl 0).age k + 1), fl := put (σ.cl 0).fl k [], told := put (σ.cl 0).told k [] } := by rw [hcl]; simp [Net.setCl]
  have hc : ∀ c, c ≠ 0 → (σ.sub ((0 : Nat) : Int) []).cl c = σ.cl c := fun c hc => by rw [hcl]; simp [Net.setCl, put_other _ _ hc]
  have hkk : 2 * 0 + k = k := by omega
  unfold Net.subN at heq
  simp only [hkk] at heq
  obtain ⟨τ, hτ⟩ : ∃ τ, τ = (σ.setCl 0 { σ.cl 0 with used := put (σ.cl 0).used k true, age := put (σ.cl 0).age k ((σ.cl 0).age k + 1), fl := put (σ.cl 0).fl k [], told := put (σ.cl 0).told k [] }).know a k (some ⟨(σ.cl 0).age k + 1, [], none, [], 0, false⟩) := ⟨_, rfl⟩
  rw [← hτ] at heq
  have hτp : τ.par = σ.par := by rw [hτ]; rfl
  have hτq : τ.q = σ.q := by rw [hτ]; rfl
  have hkn : ∀ z s, (σ.sub ((0 : Nat) : Int) []).kn z s = put2 σ.kn a k (some ⟨(σ.cl 0).age k + 1, [], none, [], 0, false⟩) z s := fun z s => by
    rw [heq]
    show (τ.pushAll a _ _).kn z s = _
    rw [(pushAll_keeps _ _).1, hτ]; rfl
  have hqm : ∀ x y f, f ∈ (σ.sub ((0 : Nat) : Int) []).q x y ↔ f ∈ σ.q x y ∨ (x = a ∧ y ∈ τ.others a none ∧ f = .sub k ((σ.cl 0).age k + 1) []) := fun x y f => by
    rw [heq]
    show f ∈ (τ.pushAll a _ _).q x y ↔ _
    rw [mem_pushes, hτq]
  have hal' : a < size σ.par := by rw [O.tr]; exact hal
  refine ⟨?_, C'.opn, fun s hs => ?_, fun z s f hf => ?_, fun x y f hf => ?_, fun j hj => ?_, fun c j g1 g2 g3 => by rw [hc c (by omega)]; exact O.usedc c j g1 g2 g3, fun j hj hj2 => ?_, by rw [h0]; exact O.here0, by rw [hc 1 (by omega)]; exact O.here1, by rw [h0]; exact O.log, E, _, C'⟩
  · rw [heq]; exact (pushAll_par _ _ _ _).trans (hτp.trans O.tr)
  · by_cases hsk : s = k
    · subst hsk
      have hv : (σ.sub ((0 : Nat) : Int) []).view s = { σ.view s with used := true, age := (σ.cl 0).age s + 1, fl := [], co := put (σ.view s).co a (some ⟨(σ.cl 0).age s + 1, [], none, false⟩), q := fun x y => ((σ.sub ((0 : Nat) : Int) []).q x y).filter (Fr.about s) } := by
        have e1 : s / 2 = 0 := by omega
        have e2 : s % 2 = s := by omega
        have hco : (fun z => ((σ.sub ((0 : Nat) : Int) []).kn z s).map Fact.co) = put (σ.view s).co a (some ⟨(σ.cl 0).age s + 1, [], none, false⟩) := by
          funext z
          rw [hkn]
          by_cases e : z = a
          · subst e; rw [put2_same, put_same]; rfl
          · rw [put2_other _ _ (fun h => e h.1), put_other _ _ e]; rfl
        have hp : (σ.sub ((0 : Nat) : Int) []).par = σ.par := by rw [heq]; exact (pushAll_par _ _ _ _).trans hτp
        simp only [Net.view, hco, hp, e1, e2, h0, put_same]
      rw [hv]
      have hqn : ∀ u w f, f ∈ ((σ.sub ((0 : Nat) : Int) []).q u w).filter (Fr.about s) → u = a ∧ w ∈ τ.others a none ∧ f = .sub s ((σ.cl 0).age s + 1) [] := fun u w f hf => by
        obtain ⟨h1, h2⟩ := List.mem_filter.1 hf
        rcases (hqm u w f).1 h1 with h1 | h1
        · have := mem_view.2 ⟨h1, h2⟩; rw [hqk] at this; cases this
        · exact h1
      refine .rising a rfl ?_ hal' (fun u w f hf => ?_) (fun z hz => ?_)
      · show (σ.cl (s / 2)).home = some a
        rw [show s / 2 = 0 by omega]; exact hhome
      · obtain ⟨rfl, h2, rfl⟩ := hqn u w f hf
        obtain ⟨h3, _, h4⟩ := mem_others.1 h2
        rw [hτp] at h4
        exact ⟨rfl, fun e => near_ne T h4 e.symm, next_near T (by rw [near_comm]; exact h4)⟩
      · by_cases hza : z = a
        · left
          refine ⟨_, by show put (σ.view s).co a _ z = _; rw [hza, put_same], rfl, rfl, ?_⟩
          show none = wayTo σ.par z a
          unfold wayTo; rw [if_pos hza]
        · right
          have hst := next_step T hal' hz (fun e => hza e.symm)
          refine ⟨?_, a, next σ.par a z, List.mem_filter.2 ⟨(hqm _ _ _).2 (Or.inr ⟨rfl, mem_others.2 ⟨?_, by simp, ?_⟩, rfl⟩), by simp [Fr.about]⟩, ⟨hza, rfl⟩⟩
          · show put (σ.view s).co a _ z = none
            rw [put_other _ _ hza]
            show (σ.kn z s).map Fact.co = none
            have hz' : z < size σ.par := hz
            rw [hnone z (by rw [← O.tr]; exact hz')]; rfl
          · unfold Net.n; rw [hτp]; exact hst.2.1
          · rw [hτp]; exact hst.1
    · have hv : (σ.sub ((0 : Nat) : Int) []).view s = σ.view s := by
        rw [heq]
        show (τ.pushAll a _ _).view s = _
        rw [view_pushAll (by simp [Fr.about]; exact fun e => hsk e.symm), hτ, view_know_other _ hsk]
        exact view_slot hk hsk (fun j hj => put_other _ _ hj) (fun j hj => put_other _ _ hj) (fun j hj => put_other _ _ hj) rfl rfl
      rw [hv]; exact O.slots s hs
  · rw [hkn] at hf
    by_cases e : z = a ∧ s = k
    · obtain ⟨rfl, rfl⟩ := e; rw [put2_same] at hf; cases hf; exact ⟨rfl, rfl⟩
    · rw [put2_other _ _ e] at hf; exact O.bare z s f hf
  · rcases (hqm x y f).1 hf with h | h
    · exact O.dry x y f h
    · rw [h.2.2]; trivial
  · rw [h0]
    show put (σ.cl 0).used k true j = put U k true j
    by_cases e : j = k
    · subst e; rw [put_same, put_same]
    · rw [put_other _ _ e, put_other _ _ e]; exact O.used0 j hj
  · rw [h0]
    show put (σ.cl 0).fl k [] j = []
    by_cases e : j = k
    · subst e; rw [put_same]
    · rw [put_other _ _ e] at hj2 ⊢; exact O.fl j hj hj2
/-- Both are used: there is none. -/
theorem Ov.subNo (O : Ov par U (some a) p σ) (hw : σ.waits 0 = false) (h0 : U 0 = true) (h1 : U 1 = true) : σ.subE 0 [] = 7 := by
  have hi : isCli ((0 : Nat) : Int) = true := isCli_nat (by omega)
  have hslot : σ.slot 0 = 1 := by unfold Net.slot; rw [O.used0 0 (by omega), h0]; rfl
  have hu1 : (σ.cl 0).used 1 = true := (O.used0 1 (by omega)).trans h1
  show σ.subE ((0 : Nat) : Int) [] = 7
  unfold Net.subE
  rw [asked_ok O.opn (by rw [hi]; rfl)]
  simp only [toNat_nat, ne_eq, not_true, if_false, Net.still, O.here0, hw, hslot, hu1]
  simp
end

/-- The beginning: both have come. -/
theorem ov_start {par : List Nat} (T : Tree par) {a p : Nat} (ha : a < size par) (hp : p < size par) :
    (newNet par).attachE 0 a = 0 ∧ ((newNet par).attach 0 a).attachE 1 p = 0 ∧ Ov par (fun _ => false) (some a) p (((newNet par).attach 0 a).attach 1 p) ∧ NoQ (((newNet par).attach 0 a).attach 1 p) := by
  have hq0 : NoQ (newNet par) := fun _ _ => rfl
  have F0 := fit_new T
  have hE0 : (newNet par).attachE ((0 : Nat) : Int) a = 0 := by
    have hbb : (newNet par).isBro (a : Int) = true := isBro_nat ha
    have hh : ((newNet par).cl 0).here = none := rfl
    have hcl : (newNet par).closed = false := rfl
    simp [Net.attachE, Net.asked, isCli, hbb, hh, full_no hq0, hcl]
  have hA0 : (newNet par).attach ((0 : Nat) : Int) a = (newNet par).arrive 0 a := by
    unfold Net.attach
    rw [if_pos hE0]
    simp only [toNat_nat]
    have h1 : ∀ k, (newNet par).backs 0 a k = newNet par := fun k => backs_bare (fun f hf => by cases hf)
    unfold Net.attachN
    have hh : ((newNet par).cl 0).home = none := rfl
    rw [hh]
    simp only
    rw [h1, h1]
  have C0 := (core_new (par := par)).attach F0.live (c := 0) (b := a) hE0
  have F1 := F0.attach ((0 : Nat) : Int) a
  rw [hA0] at C0 F1
  obtain ⟨τ, hτ⟩ : ∃ τ, τ = (newNet par).arrive 0 a := ⟨_, rfl⟩
  rw [← hτ] at C0 F1 hA0
  have hq1 : NoQ τ := by rw [hτ]; exact hq0
  have hk1 : ∀ z s, τ.kn z s = none := fun z s => by rw [hτ]; rfl
  have h10 : τ.cl 0 = { newCli with here := some a, home := some a, stays := 1 } := by rw [hτ]; rfl
  have h1c : ∀ c, c ≠ 0 → τ.cl c = newCli := fun c hc => by rw [hτ]; show put (newNet par).cl 0 _ c = _; rw [put_other _ _ hc]; rfl
  have hp1 : τ.par = par := by rw [hτ]; rfl
  have hE1 : τ.attachE ((1 : Nat) : Int) p = 0 := by
    have hbb : τ.isBro (p : Int) = true := isBro_nat (by unfold Net.n; rw [hp1]; exact hp)
    have hh : (τ.cl 1).here = none := by rw [h1c 1 (by omega)]; rfl
    simp [Net.attachE, Net.asked, isCli, hbb, hh, full_no hq1, C0.opn]
  have hA1 : τ.attach ((1 : Nat) : Int) p = τ.arrive 1 p := by
    unfold Net.attach
    rw [if_pos hE1]
    simp only [toNat_nat]
    have h1 : ∀ k, τ.backs 1 p k = τ := fun k => backs_bare (fun f hf => by rw [hk1] at hf; cases hf)
    unfold Net.attachN
    have hh : (τ.cl 1).home = none := by rw [h1c 1 (by omega)]; rfl
    rw [hh]
    simp only
    rw [h1, h1]
  have C1 := C0.attach F1.live (c := 1) (b := p) hE1
  rw [hA1] at C1
  have hat0 : (newNet par).attach 0 a = τ := hA0
  have hat1 : τ.attach 1 p = τ.arrive 1 p := hA1
  refine ⟨hE0, by rw [hat0]; exact hE1, ?_, by rw [hat0, hat1]; exact hq1⟩
  rw [hat0, hat1]
  have h20 : (τ.arrive 1 p).cl 0 = τ.cl 0 := by simp [Net.arrive, Net.setCl, put]
  have h21 : ((τ.arrive 1 p).cl 1).here = some p := by simp [Net.arrive, Net.setCl]
  have h2u : ∀ c k, ((τ.arrive 1 p).cl c).used k = false := fun c k => by
    by_cases e : c = 1
    · subst e; simp only [Net.arrive, Net.setCl, put_same]; rw [h1c 1 (by omega)]; rfl
    · simp only [Net.arrive, Net.setCl, put_other _ _ e]
      by_cases e0 : c = 0
      · subst e0; rw [h10]; rfl
      · rw [h1c c e0]; rfl
  refine ⟨hp1, C1.opn, fun s hs => ?_, fun z s f hf => ?_, fun x y f hf => ?_, fun k _ => h2u 0 k, fun c k _ _ _ => h2u c k, fun k _ h => (by cases h), by rw [h20, h10], h21, by rw [h20, h10]; rfl, _, _, C1⟩
  · refine .fading (h2u _ _) (fun u w f hf => ?_) (fun z hz => Or.inl ?_)
    · have := (mem_view.1 hf).1
      change f ∈ τ.q u w at this
      rw [hq1] at this; cases this
    · show (τ.kn z s).map Fact.co = none
      rw [hk1]; rfl
  · change τ.kn z s = some f at hf
    rw [hk1] at hf; cases hf
  · change f ∈ τ.q x y at hf
    rw [hq1] at hf; cases hf

/-- As Ov, but for frames and the log. -/
structure OvE (par : List Nat) (U : Nat → Bool) (a p : Nat) (σ : Net) : Prop where
  tr : σ.par = par
  opn : σ.closed = false
  slots : ∀ s, s < 8 → SlotS s (σ.view s)
  bare : ∀ b s f, σ.kn b s = some f → f.kept = [] ∧ f.more = 0
  used0 : ∀ k, k < 2 → (σ.cl 0).used k = U k
  usedc : ∀ c k, 0 < c → c < 4 → k < 2 → (σ.cl c).used k = false
  fl : ∀ k, k < 2 → U k = true → (σ.cl 0).fl k = []
  here0 : (σ.cl 0).here = some a
  here1 : (σ.cl 1).here = some p
  core : ∃ E G, Core E G σ

/-- All know slot k, none knows another. -/
structure Kn (par : List Nat) (k a : Nat) (σ : Net) : Prop where
  on : ∀ z, z < size par → ∃ f, σ.kn z k = some f ∧ f.fl = [] ∧ f.way = wayTo par z a ∧ f.waits = false
  off : ∀ z s, z < size par → s < 8 → s ≠ k → σ.kn z s = none

section
variable {par : List Nat} {U : Nat → Bool} {a p k : Nat} {σ : Net} {e : News}

theorem Ov.toE (O : Ov par U (some a) p σ) : OvE par U a p σ := ⟨O.tr, O.opn, O.slots, O.bare, O.used0, O.usedc, O.fl, O.here0, O.here1, O.core⟩
theorem OvE.o (O : OvE par U a p σ) (hq : NoQ σ) (hl : (σ.cl 0).log = []) : Ov par U (some a) p σ := ⟨O.tr, O.opn, O.slots, O.bare, (fun x y f hf => by rw [hq] at hf; cases hf), O.used0, O.usedc, O.fl, O.here0, O.here1, hl, O.core⟩

theorem hears_k {x : Nat} (hk : k < 2) (hoff : ∀ s, s < 8 → s ≠ k → σ.kn x s = none) : σ.hears x e (List.range 8) = σ.hear x e k := by
  have h : ∀ (τ : Net) s, τ.kn x s = none → τ.hear x e s = τ := fun τ s ht => by unfold Net.hear; rw [ht]
  have hkn : ∀ s, s ≠ k → (σ.hear x e k).kn x s = σ.kn x s := fun s hs => by
    unfold Net.hear
    split
    · rfl
    · split
      · split
        · exact put2_other _ _ (fun h => hs h.2)
        · split
          · exact put2_other _ _ (fun h => hs h.2)
          · rfl
      · rfl
  have h2 : ∀ s, s < 8 → s ≠ k → (σ.hear x e k).hear x e s = σ.hear x e k := fun s hs hsk => h _ s ((hkn s hsk).trans (hoff s hs hsk))
  have hr : List.range 8 = [0, 1, 2, 3, 4, 5, 6, 7] := rfl
  rw [hr]
  simp only [Net.hears, List.foldl_cons, List.foldl_nil]
  rcases (by omega : k = 0 ∨ k = 1) with rfl | rfl
  · rw [h2 1 (by omega) (by omega), h2 2 (by omega) (by omega), h2 3 (by omega) (by omega), h2 4 (by omega) (by omega), h2 5 (by omega) (by omega), h2 6 (by omega) (by omega), h2 7 (by omega) (by omega)]
  · rw [h σ 0 (hoff 0 (by omega) (by omega)), h2 2 (by omega) (by omega), h2 3 (by omega) (by omega), h2 4 (by omega) (by omega), h2 5 (by omega) (by omega), h2 6 (by omega) (by omega), h2 7 (by omega) (by omega)]

/-- An event comes to a broker. -/
theorem Kn.happens (K : Kn par k a σ) (T : Tree par) (hk : k < 2) (ha : a < size par) (hh : (σ.cl 0).here = some a) {x : Nat} (hx : x < size par) {fr : Option Nat} (hfr : x ≠ a → fr ≠ some (next par x a)) :
    (x ≠ a → σ.happens x e fr = σ.push x (next par x a) (.event e)) ∧ (x = a → σ.happens x e fr = σ.tell k e) := by
  obtain ⟨f, hf, hfl, hfw, hfwt⟩ := K.on x hx
  have hhap : σ.happens x e fr = (σ.hear x e k).pushAll x (σ.targets x e fr) (.event e) := by
    unfold Net.happens
    rw [show (List.range 8).foldl (fun σ s => σ.hear x e s) σ = σ.hears x e (List.range 8) from rfl, hears_k hk (fun s hs hsk => K.off x s hx hs hsk)]
  have hwant : ∀ y s, s < 8 → (σ.wants x e y s = true ↔ s = k ∧ x ≠ a ∧ y = next par x a) := fun y s hs => by
    unfold Net.wants
    by_cases hsk : s = k
    · subst hsk
      rw [hf]
      simp only [hfl, meets, List.all_nil, Bool.true_and, decide_eq_true_eq, true_and, hfw]
      unfold wayTo
      by_cases hxa : x = a
      · rw [if_pos hxa]; simp [hxa]
      · rw [if_neg hxa]; simp [hxa, eq_comm]
    · rw [K.off x s hx hs hsk]; simp [hsk]
  refine ⟨fun hxa => ?_, fun hxa => ?_⟩
  · have hs := next_step T hx ha hxa
    have hn6 := (near_lt6 T hs.1).2
    have hhear : σ.hear x e k = σ := by
      unfold Net.hear
      rw [hf]
      simp [hfw, wayTo, hxa]
    have htar : σ.targets x e fr = [next par x a] := by
      have hpr : ∀ y, (decide (some y ≠ fr) && (List.range 8).any (σ.wants x e y)) = decide (y = next par x a) := fun y => by
        have h1 : (List.range 8).any (σ.wants x e y) = decide (y = next par x a) := by
          by_cases hy : y = next par x a
          · rw [decide_eq_true hy]; exact List.any_eq_true.2 ⟨k, List.mem_range.2 (by omega), (hwant y k (by omega)).2 ⟨rfl, hxa, hy⟩⟩
          · rw [decide_eq_false hy, List.any_eq_false]
            intro s hs8 hs
            exact hy ((hwant y s (List.mem_range.1 hs8)).1 hs).2.2
        rw [h1]
        by_cases hy : y = next par x a
        · subst hy
          have : some (next par x a) ≠ fr := fun h => hfr hxa h.symm
          simp [this]
        · simp [hy]
      have hff : σ.targets x e fr = (List.range 6).filter fun y => decide (y = next par x a) := by
        unfold Net.targets
        exact List.filter_congr (fun y _ => hpr y)
      rw [hff]
      have hr : List.range 6 = [0, 1, 2, 3, 4, 5] := rfl
      rw [hr]
      rcases (by omega : next par x a = 0 ∨ next par x a = 1 ∨ next par x a = 2 ∨ next par x a = 3 ∨ next par x a = 4 ∨ next par x a = 5) with h | h | h | h | h | h <;> rw [h] <;> rfl
    rw [hhap, hhear, htar]; rfl
  · subst hxa
    have htar : σ.targets x e fr = [] := by
      unfold Net.targets
      refine List.filter_eq_nil_iff.2 (fun y _ h => ?_)
      simp only [Bool.and_eq_true, List.any_eq_true] at h
      obtain ⟨_, s, hs8, hs⟩ := h
      exact ((hwant y s (List.mem_range.1 hs8)).1 hs).2.1 rfl
    have hk2 : k / 2 = 0 := by omega
    rw [hhap, htar]
    show σ.hear x e k = _
    unfold Net.hear
    rw [hf]
    simp [hfl, meets, hfw, wayTo, hfwt, hk2, hh]

/-- The event is on its way; or it was told. -/
def OvEv (par : List Nat) (U : Nat → Bool) (a p k : Nat) (e : News) (σ : Net) : Prop :=
  OvE par U a p σ ∧ ((∃ x y, x < size par ∧ x ≠ a ∧ y = next par x a ∧ OneQ σ x y (.event e) ∧ Kn par k a σ ∧ (σ.cl 0).log = [] ∧ ∀ o, o ∈ (σ.cl 0).told k → Later o e) ∨ (NoQ σ ∧ (σ.cl 0).log = [⟨k, 0, e.ev⟩]))

theorem OvE.of (O : OvE par U a p σ) {τ : Net} (hp : τ.par = σ.par) (hk : τ.kn = σ.kn) (hv : ∀ s, τ.view s = σ.view s) (hs : Sm σ τ) (ho : τ.closed = false) (hc : ∃ E G, Core E G τ) : OvE par U a p τ :=
  ⟨hp.trans O.tr, ho, fun s h8 => by rw [hv]; exact O.slots s h8, by rw [hk]; exact O.bare, fun k hk => by rw [(hs 0).used]; exact O.used0 k hk, fun c k h1 h2 h3 => by rw [(hs c).used]; exact O.usedc c k h1 h2 h3, fun k hk hu => by rw [(hs 0).fl]; exact O.fl k hk hu, by rw [(hs 0).here]; exact O.here0, by rw [(hs 1).here]; exact O.here1, hc⟩

/-- An event that comes to a broker, while nothing waits. -/
theorem OvEv.step (O : OvE par U a p σ) (K : Kn par k a σ) (T : Tree par) (hk : k < 2) (ha : a < size par) (hq : NoQ σ) (hl : (σ.cl 0).log = []) (hlat : ∀ o, o ∈ (σ.cl 0).told k → Later o e) {x : Nat} (hx : x < size par) {fr : Option Nat} (hfr : x ≠ a → fr ≠ some (next par x a)) (hc : ∃ E G, Core E G (σ.happens x e fr)) : OvEv par U a p k e (σ.happens x e fr) := by
  obtain ⟨h1, h2⟩ := K.happens (e := e) T hk ha O.here0 hx hfr
  have hO : OvE par U a p (σ.happens x e fr) := by
    obtain ⟨E, G, C⟩ := hc
    refine O.of ?_ ?_ (fun s => view_happens σ x e fr s) (Sm.happens σ x e fr) C.opn ⟨E, G, C⟩
    · by_cases e1 : x = a
      · rw [h2 e1]; rfl
      · rw [h1 e1]; rfl
    · by_cases e1 : x = a
      · rw [h2 e1]; rfl
      · rw [h1 e1]; rfl
  refine ⟨hO, ?_⟩
  by_cases e1 : x = a
  · right
    rw [h2 e1]
    refine ⟨hq, ?_⟩
    have hk2 : k / 2 = 0 := by omega
    have hkm : k % 2 = k := by omega
    unfold Net.tell
    rw [hk2, hkm, tell_fresh2 hlat]
    simp [Net.setCl, hl]
  · left
    rw [h1 e1]
    exact ⟨x, next par x a, hx, e1, rfl, hq.push _ _ _, ⟨K.on, K.off⟩, hl, hlat⟩

theorem OvEv.del (T : Tree par) (hk : k < 2) (ha : a < size par) (I : OvEv par U a p k e σ) (L : Live σ) {x y : Nat} {f : Fr} {l : List Fr} (hq : σ.q x y = f :: l) : OvEv par U a p k e (σ.del x y) := by
  obtain ⟨O, ⟨u, v, hu, hua, hvn, hone, K, hl, hlat⟩ | ⟨hno, _⟩⟩ := I
  · obtain ⟨rfl, rfl, rfl, rfl⟩ := hone.at hq
    have hs := next_step T hu ha hua
    rw [← hvn] at hs
    have hd := delE_ok O.opn (by rw [O.tr]; exact hs.1) hq
    obtain ⟨E, G, C⟩ := O.core
    have C' := C.del L x y
    rw [hd] at C' ⊢
    have hpop := hone.pop
    have O0 : OvE par U a p { σ with q := put2 σ.q x y [] } := O.of rfl rfl (fun s => view_pop hq rfl) (Sm.of rfl) O.opn ⟨E, G, ⟨C.opn, C.tells.of_cl rfl, ⟨(fun u w g hg => by rw [hpop] at hg; cases hg), C.pubs.kn, C.pubs.told⟩, C.evs.sm (Sm.of rfl)⟩⟩
    refine OvEv.step O0 ⟨K.on, K.off⟩ T hk ha hpop hl hlat hs.2.1 (fun hya h => ?_) ⟨E, G, C'⟩
    have h1 := (next_step T hs.2.1 ha hya).2.2
    have : x = next par y a := Option.some.inj h
    rw [← this] at h1
    omega
  · rw [hno x y] at hq; cases hq

def OvEvR (par : List Nat) (U : Nat → Bool) (a p k : Nat) (e : News) (m : Nat) (σ : Net) : Prop := OvEv par U a p k e σ ∧ Room σ m
theorem ovev_runs (T : Tree par) (hk : k < 2) (ha : a < size par) {m : Nat} (hm : m < 2000000000000) : Runs (OvEvR par U a p k e m) m :=
  ⟨fun _ h => ⟨h.2.fit, hm⟩, fun _ h => h.1.1.opn, fun _ _ _ _ _ h hq => ⟨h.1.del T hk ha h.2.fit.live hq, h.2.del h.1.1.opn hq⟩⟩

/-- It is published. -/
theorem Ov.pub (O : Ov par U (some a) p σ) (L : Live σ) (T : Tree par) (hq : NoQ σ) (hpl : p < size par) (f0 f1 f2 : Int) :
    σ.pubE 1 = 0 ∧ σ.pubA 1 = (σ.cl 1).many + 1 ∧ (σ.pubEv 1 f0 f1 f2).ev = ⟨1, (σ.cl 1).many + 1, f0, f1, f2⟩ ∧
    (∀ k, k < 2 → U k = true → (∀ j, j < 2 → j ≠ k → U j = false) → OvEv par U a p k (σ.pubEv 1 f0 f1 f2) (σ.pub 1 f0 f1 f2)) ∧
    ((∀ j, j < 2 → U j = false) → Ov par U (some a) p (σ.pub 1 f0 f1 f2) ∧ NoQ (σ.pub 1 f0 f1 f2)) := by
  have hful := full_no hq
  have hE : σ.pubE ((1 : Nat) : Int) = 0 := by
    have hi : isCli ((1 : Nat) : Int) = true := isCli_nat (by omega)
    unfold Net.pubE
    rw [asked_ok O.opn hi]
    simp [O.here1, hful]
  obtain ⟨E, G, C⟩ := O.core
  have C' := C.pub L (c := 1) (by omega) hE f0 f1 f2
  obtain ⟨b', hb', heq⟩ := pub_eq hE f0 f1 f2
  rw [O.here1] at hb'
  cases hb'
  obtain ⟨hhome, hal⟩ := O.home L
  obtain ⟨τ, hτ⟩ : ∃ τ, τ = σ.setCl 1 { σ.cl 1 with many := (σ.cl 1).many + 1 } := ⟨_, rfl⟩
  rw [← hτ] at heq
  have h0 : τ.cl 0 = σ.cl 0 := by rw [hτ]; simp [Net.setCl, put]
  have Oτ : ∀ C0, OvE par U a p τ := fun C0 : (∃ E G, Core E G τ) => by
    have hv : ∀ s, τ.view s = σ.view s := fun s => by rw [hτ]; refine view_setCl ?_ ?_ ?_ ?_ ?_ s <;> rfl
    refine ⟨by rw [hτ]; exact O.tr, by rw [hτ]; exact O.opn, fun s hs => by rw [hv]; exact O.slots s hs, by rw [hτ]; exact O.bare, by rw [h0]; exact O.used0, fun c k g1 g2 g3 => ?_, by rw [h0]; exact O.fl, by rw [h0]; exact O.here0, by rw [hτ]; simp only [Net.setCl, put_same]; exact O.here1, C0⟩
    rw [hτ]
    by_cases ec : c = 1
    · subst ec; simp only [Net.setCl, put_same]; exact O.usedc 1 k g1 g2 g3
    · simp only [Net.setCl, put_other _ _ ec]; exact O.usedc c k g1 g2 g3
  have Cτ : ∃ E G, Core E G τ := by
    refine ⟨E, G, ?_⟩
    rw [hτ]
    refine ⟨C.opn, C.tells.setCl (fun hc => (C.tells 1 hc).same rfl rfl rfl rfl), C.pubs.setCl (fun k e he => C.pubs.told 1 k e he), ⟨fun e he => ?_, C.evs.inc, fun c hc => ?_⟩⟩
    · obtain ⟨q, g1, g2, g3, g4, g5⟩ := C.evs.ev e he
      refine ⟨q, g1, g2, g3, ?_, g5⟩
      by_cases ec : q = 1
      · subst ec; simp only [Net.setCl, put_same]; omega
      · simp only [Net.setCl, put_other _ _ ec]; exact g4
    · have := C.evs.low c hc
      by_cases ec : c = 1
      · subst ec; simp only [Net.setCl, put_same]; omega
      · simp only [Net.setCl, put_other _ _ ec]; exact this
  have hqτ : NoQ τ := by rw [hτ]; exact hq
  refine ⟨hE, ?_, ?_, fun k hk hu honly => ?_, fun hnone => ?_⟩
  · have : σ.pubA ((1 : Nat) : Int) = (σ.cl 1).many + 1 := by simp only [Net.pubA, hE, if_true, toNat_nat]
    exact this
  · rfl
  · show OvEv par U a p k (σ.pubEv ((1 : Nat) : Int) f0 f1 f2) (σ.pub ((1 : Nat) : Int) f0 f1 f2)
    obtain ⟨h, hh, _, hon⟩ := O.on L hq hk hu
    rw [hhome] at hh
    cases hh
    have K : Kn par k a τ := by
      refine ⟨fun z hz => ?_, fun z s hz hs hsk => ?_⟩
      · obtain ⟨f, g1, g2, g3, _, _, g6⟩ := hon z hz
        exact ⟨f, by rw [hτ]; exact g1, g2, g3, g6⟩
      · rw [hτ]
        show σ.kn z s = none
        refine O.off hq hs ?_ z hz
        by_cases e0 : s / 2 = 0
        · rw [e0, O.used0 _ (by omega)]
          exact honly (s % 2) (by omega) (by omega)
        · exact O.usedc (s / 2) (s % 2) (by omega) (by omega) (by omega)
    rw [heq]
    refine OvEv.step (Oτ Cτ) K T hk hal hqτ (by rw [h0]; exact O.log) (fun o ho => ?_) hpl (fun _ => by simp) ⟨_, _, by rw [← heq]; exact C'⟩
    rw [h0] at ho
    obtain ⟨q, g1, g2, g3, g4, g5⟩ := C.evs.ev o (C.pubs.told 0 k o ho)
    intro hc
    have hpub : (σ.pubEv ((1 : Nat) : Int) f0 f1 f2).ev.pub = 1 := rfl
    have hnum : (σ.pubEv ((1 : Nat) : Int) f0 f1 f2).ev.num = (σ.cl 1).many + 1 := rfl
    rw [hpub, hnum] at hc
    have : q = 1 := by have := hc.1; omega
    subst this
    have := hc.2.2
    omega
  · show Ov par U (some a) p (σ.pub ((1 : Nat) : Int) f0 f1 f2) ∧ NoQ (σ.pub ((1 : Nat) : Int) f0 f1 f2)
    have hkn : ∀ s, s < 8 → τ.kn p s = none := fun s hs => by
      rw [hτ]
      show σ.kn p s = none
      refine O.off hq hs ?_ p hpl
      by_cases e0 : s / 2 = 0
      · rw [e0, O.used0 _ (by omega)]
        exact hnone (s % 2) (by omega)
      · exact O.usedc (s / 2) (s % 2) (by omega) (by omega) (by omega)
    have hhap : τ.happens p (σ.pubEv ((1 : Nat) : Int) f0 f1 f2) none = τ := by
      have hh : ∀ l : List Nat, (∀ s, s ∈ l → s < 8) → τ.hears p (σ.pubEv ((1 : Nat) : Int) f0 f1 f2) l = τ := by
        intro l
        induction l with
        | nil => intro _; rfl
        | cons s l ih =>
          intro hl
          show (τ.hear p _ s).hears p _ l = τ
          have : τ.hear p (σ.pubEv ((1 : Nat) : Int) f0 f1 f2) s = τ := by unfold Net.hear; rw [hkn s (hl s (List.mem_cons_self ..))]
          rw [this]
          exact ih (fun s hs => hl s (List.mem_cons_of_mem _ hs))
      have ht : τ.targets p (σ.pubEv ((1 : Nat) : Int) f0 f1 f2) none = [] := by
        unfold Net.targets
        refine List.filter_eq_nil_iff.2 (fun y _ h => ?_)
        simp only [Bool.and_eq_true, List.any_eq_true] at h
        obtain ⟨_, s, hs8, hs⟩ := h
        unfold Net.wants at hs
        rw [hkn s (List.mem_range.1 hs8)] at hs
        cases hs
      unfold Net.happens
      rw [ht]
      exact hh _ (fun s hs => List.mem_range.1 hs)
    rw [heq, hhap]
    exact ⟨(Oτ Cτ).o hqτ (by rw [h0]; exact O.log), hqτ⟩

/-- The log is read. -/
theorem OvE.read (O : OvE par U a p σ) (hq : NoQ σ) : Ov par U (some a) p (σ.setCl 0 { σ.cl 0 with log := [] }) ∧ NoQ (σ.setCl 0 { σ.cl 0 with log := [] }) := by
  obtain ⟨E, G, C⟩ := O.core
  have hv : ∀ s, (σ.setCl 0 { σ.cl 0 with log := [] }).view s = σ.view s := fun s => by refine view_setCl ?_ ?_ ?_ ?_ ?_ s <;> rfl
  have O' : OvE par U a p (σ.setCl 0 { σ.cl 0 with log := [] }) := O.of rfl rfl hv (Sm.setCl ⟨rfl, rfl, rfl, rfl, rfl⟩) O.opn ⟨E, _, C.read (by omega)⟩
  exact ⟨O'.o hq (by simp [Net.setCl]), hq⟩
end

section
variable {par : List Nat} {U : Nat → Bool} {p a : Nat} {σ : Net}

/-- No Move, no Rest frame: nobody waits. -/
theorem Ov.noWait2 (O : Ov par U (some a) p σ) (L : Live σ) (hm : ∀ x y f, f ∈ σ.q x y → f.isMv = false) : σ.waits 0 = false := by
  have key : ∀ k, k < 2 → ((σ.cl 0).used k && (match σ.kn a (2 * 0 + k) with | some f => f.waits | none => false)) = false := fun k hk => by
    cases hu : (σ.cl 0).used k with
    | false => rfl
    | true =>
      have hk2 : k / 2 = 0 := by omega
      have hkm : k % 2 = k := by omega
      have hno : ∀ x y, (σ.view k).mv x y = [] := fun x y => by
        unfold View.mv
        refine List.filter_eq_nil_iff.2 (fun f hf h => ?_)
        rw [hm x y f (mem_view.1 hf).1] at h; cases h
      rw [show 2 * 0 + k = k by omega]
      rcases (L.view k (by omega)).ph with ⟨hu', _⟩ | ⟨h, _, hh, hc, _⟩ | ⟨_, _, x, y, _, _, _, _, _, _, _, _, ho, _⟩ | ⟨_, x, y, _, _, _, _, _, _, _, ho, _⟩
      · have hu' : (σ.cl (k / 2)).used (k % 2) = false := hu'
        rw [hk2, hkm, hu] at hu'; cases hu'
      · have hh : (σ.cl (k / 2)).home = some h := hh
        rw [hk2, (O.home L).1] at hh
        cases hh
        have hc : (σ.kn a k).map Fact.co = _ := hc
        cases hf : σ.kn a k with
        | none => rfl
        | some f =>
          rw [hf] at hc
          have := congrArg Co.waits (Option.some.inj hc)
          have h9 : f.waits = false := this
          simp [h9]
      · have := ho.1; rw [hno] at this; cases this
      · have := ho.1; rw [hno] at this; cases this
  unfold Net.waits
  rw [O.here0]
  simp only [show List.range 2 = [0, 1] from rfl, List.any_cons, List.any_nil, Bool.or_false, Bool.or_eq_false_iff]
  exact ⟨key 0 (by omega), key 1 (by omega)⟩

theorem weight_no (T : Tree σ.par) (hq : NoQ σ) : σ.weight = 0 := by
  have h := (Spread.new T).2
  rw [← h]
  refine weight_congr rfl ?_
  funext x y
  exact hq x y

/-- The frames and facts behind Subscribe. -/
theorem sub_frames {l : List Tst} (hE : σ.subE 0 l = 0) : ∃ age b, (∀ x y f, f ∈ (σ.sub 0 l).q x y → f ∈ σ.q x y ∨ f = .sub (σ.slot 0) age l) ∧ (∀ z s, s ≠ σ.slot 0 → (σ.sub 0 l).kn z s = σ.kn z s) ∧ (b < σ.n → Tree σ.par → (σ.sub 0 l).weight ≤ σ.weight + 5) ∧ (σ.cl 0).here = some b := by
  have hE' : σ.subE ((0 : Nat) : Int) l = 0 := hE
  obtain ⟨b, hb, _, heq⟩ := sub_eq hE'
  have heq : σ.sub 0 l = σ.subN 0 b (σ.slot 0) l := heq
  refine ⟨(σ.cl 0).age (σ.slot 0) + 1, b, fun x y f hf => ?_, fun z s hs => ?_, fun hbn T => ?_, hb⟩
  · rw [heq] at hf
    unfold Net.subN at hf
    simp only at hf
    rcases (mem_pushes _ _).1 hf with hf | ⟨_, _, rfl⟩
    · exact Or.inl hf
    · exact Or.inr (by rw [show 2 * 0 + σ.slot 0 = σ.slot 0 by omega])
  · rw [heq]
    unfold Net.subN
    simp only
    have : ∀ (τ : Net) f, (τ.spread b none f).kn = τ.kn := fun τ f => (pushAll_keeps _ _).1
    rw [this]
    exact put2_other _ _ (fun e => hs (by omega))
  · rw [heq]
    unfold Net.subN
    simp only
    refine Nat.le_trans (weight_spread_all (σ := (σ.setCl 0 _).know b _ _) T hbn (fun _ _ => rfl)) ?_
    rw [weight_know, weight_setCl]
    exact Nat.le_refl _

/-- Twice, then no more. -/
theorem Ov.subs2 (O : Ov par U (some a) p σ) (L : Live σ) (hq : NoQ σ) (h0 : U 0 = false) (h1 : U 1 = false) {m : Nat} (F : Fit σ m) :
    σ.subE 0 [] = 0 ∧ σ.slot 0 = 0 ∧ (σ.sub 0 []).subE 0 [] = 0 ∧ (σ.sub 0 []).slot 0 = 1 ∧ ((σ.sub 0 []).sub 0 []).subE 0 [] = 7 ∧ Ov par (put (put U 0 true) 1 true) (some a) p ((σ.sub 0 []).sub 0 []) := by
  have hoff : ∀ s, s < 2 → ∀ z, z < size par → σ.kn z s = none := fun s hs => O.off hq (by omega) (by
    rw [show s / 2 = 0 by omega, show s % 2 = s by omega, O.used0 s hs]
    rcases (by omega : s = 0 ∨ s = 1) with rfl | rfl
    · exact h0
    · exact h1)
  obtain ⟨hE1, hs1, O1⟩ := O.sub L (O.noWait L hq) (full_no hq) (k := 0) (by omega) h0 (by rw [h0]; rfl) (hoff 0 (by omega)) (NoQ.view hq 0)
  obtain ⟨age, b, hf1, hk1, hw1, hb1⟩ := sub_frames hE1
  rw [hs1] at hf1 hk1
  have F1 := F.sub 0 []
  have L1 := F1.live
  have hbn : b < σ.n := (L.good.clis 0 (by omega)).here b hb1
  have hnomv1 : ∀ x y f, f ∈ (σ.sub 0 []).q x y → f.isMv = false := fun x y f hf => by
    rcases hf1 x y f hf with h | h
    · rw [hq] at h; cases h
    · rw [h]; rfl
  have hful1 : (σ.sub 0 []).full = false := by
    refine full_of_weight L1.good.linked ?_
    have := hw1 hbn L.good.tree
    rw [weight_no L.good.tree hq] at this
    omega
  have hU1 : (put U 0 true) 1 = false := by rw [put_other _ _ (by omega)]; exact h1
  have hU0 : (put U 0 true) 0 = true := put_same _ _ _
  obtain ⟨hE2, hs2, O2⟩ := O1.sub L1 (O1.noWait2 L1 hnomv1) hful1 (k := 1) (by omega) hU1 (by rw [hU0]; rfl) (fun z hz => by rw [hk1 z 1 (by omega)]; exact hoff 1 (by omega) z hz) (fun x y => by
    refine List.filter_eq_nil_iff.2 (fun f hf h => ?_)
    rcases hf1 x y f hf with h2 | h2
    · rw [hq] at h2; cases h2
    · rw [h2] at h; simp [Fr.about] at h)
  obtain ⟨age2, b2, hf2, _, _, _⟩ := sub_frames hE2
  have L2 := (F1.sub 0 []).live
  have hnomv2 : ∀ x y f, f ∈ ((σ.sub 0 []).sub 0 []).q x y → f.isMv = false := fun x y f hf => by
    rcases hf2 x y f hf with h | h
    · exact hnomv1 x y f h
    · rw [h]; rfl
  refine ⟨hE1, hs1, hE2, hs2, ?_, O2⟩
  exact O2.subNo (O2.noWait2 L2 hnomv2) (by rw [put_other _ _ (by omega)]; exact hU0) (put_same _ _ _)

/-- Unsubscribe again: there is none. -/
theorem Ov.unsub2 (O : Ov par U (some a) p σ) (L : Live σ) (hq : NoQ σ) {k : Nat} (hk : k < 2) (hu : U k = true) {m : Nat} (F : Fit σ m) : σ.unsubE 0 k = 0 ∧ (σ.unsub 0 k).unsubE 0 k = 7 ∧ Ov par (put U k false) (some a) p (σ.unsub 0 k) := by
  obtain ⟨hE, O1⟩ := O.unsub L hq hk hu
  have L1 := (F.unsub 0 k).live
  have hE' : σ.unsubE ((0 : Nat) : Int) k = 0 := hE
  obtain ⟨b, _, _, _, heq⟩ := unsub_eq hE'
  have hnomv : ∀ x y f, f ∈ (σ.unsub 0 k).q x y → f.isMv = false := fun x y f hf => by
    have heq : σ.unsub 0 k = _ := heq
    rw [heq] at hf
    rcases (mem_pushes _ _).1 hf with h | ⟨_, _, rfl⟩
    · have h : f ∈ σ.q x y := h
      rw [hq] at h; cases h
    · rfl
  exact ⟨hE, O1.unsubNo (O1.noWait2 L1 hnomv) hk (put_same _ _ _), O1⟩
end

end Go.Proofs.Ytodfcpblcpogiaa

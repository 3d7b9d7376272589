/-
  WHAT ALL BROKERS KNEW OF MISSES NOTHING: a net in which anything is done, and what is watched of its subscriptions.
-/
import Derived.Test.YtodfcpblcpogiaaOvs
import Derived.Test.YtodfcpblcpogiaaReads
import Derived.Test.YtodfcpblcpogiaaGj
namespace Go.Proofs.Ytodfcpblcpogiaa

/-- What brokers know of a subscription that was made at h0 with the age A0; t: where ways lead. -/
structure Knw (s : Nat) (v : View) (A0 : Int) (h0 : Nat) (t : Nat → Nat) : Prop where
  h0l : h0 < size v.par
  sub : ∀ u w age fl, Fr.sub s age fl ∈ v.q u w → age < A0 ∨ (age = A0 ∧ fl = v.fl ∧ w ≠ h0 ∧ next v.par w h0 = u)
  unsub : ∀ u w age, Fr.unsub s age ∈ v.q u w → age < A0
  at_ : ∀ z, z < size v.par → (∃ o, v.co z = some o ∧ A0 ≤ o.age ∧ o.fl = v.fl ∧ o.way = wayTo v.par z (t z)) ∨ ((∀ o, v.co z = some o → o.age < A0) ∧ z ≠ t z ∧ next v.par z h0 = next v.par z (t z) ∧ ∃ u w, Fr.sub s A0 v.fl ∈ v.q u w ∧ ySide v.par u w z)

inductive SlotT (s : Nat) (v : View) : Prop
  | off (hu : v.used = false)
  | on (h : Nat) (hu : v.used = true) (hh : v.home = some h) (hl : h < size v.par) (hm : ∀ x y age fl old new, Fr.move s age fl old new ∉ v.q x y) (A0 : Int) (h0 : Nat) (hA : A0 ≤ v.age) (K : Knw s v A0 h0 fun _ => h)
  | moving (h old x y : Nat) (hu : v.used = true) (hh : v.home = some h) (hl : h < size v.par ∧ old < size v.par) (hm : Fr.move s v.age v.fl old h ∈ v.q x y) (A0 : Int) (h0 : Nat) (hA : A0 ≤ v.age) (K : Knw s v A0 h0 fun z => if ySide v.par x y z then old else h)

/-- No Sub frame waits: all know it. -/
theorem Knw.led {s : Nat} {v : View} {A0 : Int} {h0 : Nat} {t : Nat → Nat} (K : Knw s v A0 h0 t) (hm : ∀ x y f, f ∈ v.q x y → f.isMv = true) : LedTo v t := fun z hz => by
  rcases K.at_ z hz with ⟨o, h1, _, h3, h4⟩ | ⟨_, _, _, u, w, h, _⟩
  · exact ⟨o, h1, h3, h4⟩
  · have := hm u w _ h; cases this
theorem SlotT.slotS {s : Nat} {v : View} (S : SlotT s v) (V : ViewOk s v) (hu : v.used = true) (_hab : ∀ x y f, f ∈ v.q x y → f.about s = true) (hm : ∀ x y f, f ∈ v.q x y → f.isMv = true) : SlotS s v := by
  cases S with
  | off hu' => rw [hu] at hu'; cases hu'
  | moving h old x y hu hh hl hmv A0 h0 hA K => exact .moving h old x y hu hh hl hmv hm (K.led hm)
  | on h hu hh hl hno A0 h0 hA K =>
    refine .led h hu hh hl (fun x y f hf => ?_) (K.led hm)
    cases V.ph with
    | off hu' => rw [hu] at hu'; cases hu'
    | on _ _ _ _ _ hn =>
      have : f ∈ v.mv x y := List.mem_filter.2 ⟨hf, hm x y f hf⟩
      rw [hn x y] at this; cases this
    | moving h' old x' y' _ _ _ _ _ _ _ _ hon _ =>
      have : Fr.move s v.age v.fl old h' ∈ v.mv x' y' := by rw [hon.1]; exact List.mem_singleton.2 rfl
      exact absurd (List.mem_filter.1 this).1 (hno _ _ _ _ _ _)
    | resting h' x' y' evs more _ hh' _ _ _ hon _ =>
      obtain ⟨_, _, rfl⟩ := only_at hon hf (hm x y f hf)
      rw [hh] at hh'; cases hh'
      exact ⟨_, _, rfl⟩

/-- Facts and frames of another kind change, not these. -/
theorem Knw.same {s : Nat} {v v' : View} {A0 : Int} {h0 : Nat} {t t' : Nat → Nat} (K : Knw s v A0 h0 t) (hp : v'.par = v.par) (hf : v'.fl = v.fl) (hs : ∀ u w age fl, Fr.sub s age fl ∈ v'.q u w ↔ Fr.sub s age fl ∈ v.q u w) (hu : ∀ u w age, Fr.unsub s age ∈ v'.q u w → Fr.unsub s age ∈ v.q u w)
    (hc : ∀ z, z < size v.par → (∃ o, v'.co z = some o ∧ A0 ≤ o.age ∧ o.fl = v.fl ∧ o.way = wayTo v.par z (t' z)) ∨ ((v'.co z = v.co z ∨ ∃ o o', v.co z = some o ∧ v'.co z = some o' ∧ o'.age = o.age ∧ o'.fl = o.fl ∧ o'.way = o.way) ∧ (t' z = t z ∨ z ≠ t z ∧ z ≠ t' z ∧ next v.par z (t z) = next v.par z (t' z)))) : Knw s v' A0 h0 t' := by
  refine ⟨by rw [hp]; exact K.h0l, fun u w age fl h => by rw [hp, hf]; exact K.sub u w age fl ((hs u w age fl).1 h), fun u w age h => K.unsub u w age (hu u w age h), fun z hz => ?_⟩
  rw [hp] at hz ⊢
  rw [hf]
  rcases hc z hz with h | ⟨hc, ht⟩
  · exact Or.inl h
  · have hway : wayTo v.par z (t z) = wayTo v.par z (t' z) := by
      rcases ht with ht | ⟨h1, h2, h3⟩
      · rw [ht]
      · unfold wayTo; rw [if_neg h1, if_neg h2, h3]
    rcases K.at_ z hz with ⟨o, h1, h2, h3, h4⟩ | ⟨h1, h2, h3, u, w, h4, h5⟩
    · left
      rcases hc with hc | ⟨p, p', k1, k2, k3, k4, k5⟩
      · exact ⟨o, hc.trans h1, h2, h3, h4.trans hway⟩
      · rw [h1] at k1; cases k1
        exact ⟨p', k2, by rw [k3]; exact h2, k4.trans h3, k5.trans (h4.trans hway)⟩
    · right
      refine ⟨fun o ho => ?_, ?_, ?_, u, w, (hs u w _ _).2 h4, h5⟩
      · rcases hc with hc | ⟨p, p', k1, k2, k3, k4, k5⟩
        · exact h1 o (hc ▸ ho)
        · rw [k2] at ho; cases ho; rw [k3]; exact h1 p k1
      · rcases ht with ht | ⟨_, h, _⟩
        · rw [ht]; exact h2
        · exact h
      · rcases ht with ht | ⟨_, _, h⟩
        · rw [ht]; exact h3
        · exact h3.trans h

section
variable {σ : Net} {s a b : Nat} {r : List Fr}
/-- A Sub frame is handled. -/
theorem Knw.subF {A0 : Int} {h0 : Nat} {t : Nat → Nat} (K : Knw s (σ.view s) A0 h0 t) (G : Good σ) {age : Int} {fl : List Tst} (hq : σ.q a b = .sub s age fl :: r) : Knw s ((Net.handle { σ with q := put2 σ.q a b r } b (some a) (.sub s age fl)).view s) A0 h0 t := by
  have T := G.tree
  have hn := G.nbr a b (by rw [hq]; simp)
  have hb := (near_lt T hn).2
  have hmem : Fr.sub s age fl ∈ (σ.view s).q a b := mem_view.2 ⟨by rw [hq]; exact List.mem_cons_self .., by simp [Fr.about]⟩
  have hfr := K.sub a b age fl hmem
  obtain ⟨τ, hτ⟩ : ∃ τ, τ = Net.learn { σ with q := put2 σ.q a b r } b s age fl (some a) := ⟨_, rfl⟩
  have hkeep := learn_keeps { σ with q := put2 σ.q a b r } b s age fl (some a)
  rw [← hτ] at hkeep
  have hk : ∀ z, z ≠ b → τ.kn z s = σ.kn z s := fun z hz => by
    rw [hτ]; unfold Net.learn
    split
    · exact put2_other _ _ (fun e => hz e.1)
    · split
      · exact put2_other _ _ (fun e => hz e.1)
      · rfl
  have hkb : (∀ o, (σ.view s).co b = some o → ¬ o.age < age → (τ.kn b s).map Fact.co = some o) ∧ ((∀ o, (σ.view s).co b = some o → o.age < age) → (τ.kn b s).map Fact.co = some ⟨age, fl, some a, false⟩) := by
    have hco : ∀ o, (σ.view s).co b = some o ↔ (σ.kn b s).map Fact.co = some o := fun _ => Iff.rfl
    rw [hτ]; unfold Net.learn
    cases hkn : σ.kn b s with
    | none =>
      refine ⟨fun o ho => ?_, fun _ => ?_⟩
      · rw [hco, hkn] at ho; cases ho
      · show (put2 σ.kn b s _ b s).map Fact.co = _
        rw [put2_same]; rfl
    | some f =>
      simp only
      refine ⟨fun o ho hlt => ?_, fun hall => ?_⟩
      · rw [hco, hkn] at ho
        cases ho
        have hlt : ¬ f.age < age := hlt
        rw [if_neg hlt]
        show (σ.kn b s).map Fact.co = _
        rw [hkn]; rfl
      · have hlt : f.age < age := hall f.co (by rw [hco, hkn]; rfl)
        rw [if_pos hlt]
        show (put2 σ.kn b s _ b s).map Fact.co = _
        rw [put2_same]; rfl
  have hn2 : τ.n = σ.n := by unfold Net.n; rw [hkeep.1]
  have hv : (τ.spread b (some a) (.sub s age fl)).view s = { σ.view s with co := fun z => (τ.kn z s).map Fact.co, q := fun x y => ((τ.spread b (some a) (.sub s age fl)).q x y).filter (Fr.about s) } := by
    have := view_eq σ (τ.spread b (some a) (.sub s age fl)) s ((pushAll_par _ _ _ _).trans hkeep.1) ((pushAll_keeps _ _).2.1.trans hkeep.2.2.2)
    rw [this]
    have hkk : (τ.spread b (some a) (.sub s age fl)).kn = τ.kn := (pushAll_keeps _ _).1
    simp only [hkk]
  have hqm : ∀ x y f, f ∈ ((τ.spread b (some a) (.sub s age fl)).q x y).filter (Fr.about s) ↔ (f ∈ put2 σ.q a b r x y ∧ f.about s = true) ∨ (x = b ∧ y ∈ τ.others b (some a) ∧ f = .sub s age fl) := fun x y f => by
    rw [List.mem_filter, Net.spread, mem_pushes, hkeep.2.1]
    constructor
    · rintro ⟨h1 | h1, h2⟩
      · exact Or.inl ⟨h1, h2⟩
      · exact Or.inr h1
    · rintro (⟨h1, h2⟩ | h1)
      · exact ⟨Or.inl h1, h2⟩
      · exact ⟨Or.inr h1, by rw [h1.2.2]; simp [Fr.about]⟩
  show Knw s ((Net.spread (Net.learn { σ with q := put2 σ.q a b r } b s age fl (some a)) b (some a) (.sub s age fl)).view s) A0 h0 t
  rw [← hτ, hv]
  have hold : ∀ u w f, f ∈ put2 σ.q a b r u w → f.about s = true → f ∈ (σ.view s).q u w := fun u w f h1 h2 => mem_view.2 ⟨(mem_pop hq).2 (Or.inl h1), h2⟩
  refine ⟨K.h0l, fun u w ag l hf => ?_, fun u w ag hf => ?_, fun z hz => ?_⟩
  · rcases (hqm u w _).1 hf with ⟨h1, h2⟩ | ⟨rfl, h2, e⟩
    · exact K.sub u w ag l (hold u w _ h1 h2)
    · cases e
      rcases hfr with h3 | ⟨h3, h4, h5, h6⟩
      · exact Or.inl h3
      · obtain ⟨k3, k4, k5⟩ := mem_others.1 h2
        rw [hkeep.1] at k5
        have ho := outward T (h := h0) k5 K.h0l (by
          show w ≠ next σ.par u h0
          have : next σ.par u h0 = a := h6
          rw [this]
          exact fun e => k4 (congrArg some e))
        exact Or.inr ⟨h3, h4, ho.1, ho.2⟩
  · rcases (hqm u w _).1 hf with ⟨h1, h2⟩ | ⟨_, _, e⟩
    · exact K.unsub u w ag (hold u w _ h1 h2)
    · cases e
  · have hz : z < size σ.par := hz
    by_cases hzb : z = b
    · subst hzb
      rcases K.at_ z hz with ⟨o, h1, h2, h3, h4⟩ | ⟨h1, h2, h3, u, w, h4, h5⟩
      · exact Or.inl ⟨o, hkb.1 o h1 (by rcases hfr with g | ⟨g, _⟩ <;> omega), h2, h3, h4⟩
      · rcases hfr with g | ⟨g1, g2, g3, g4⟩
        · right
          refine ⟨fun o ho => ?_, h2, h3, u, w, (hqm u w _).2 (Or.inl ⟨?_, by simp [Fr.about]⟩), h5⟩
          · have ho : (τ.kn z s).map Fact.co = some o := ho
            by_cases hall : ∀ o, (σ.view s).co z = some o → o.age < age
            · rw [hkb.2 hall] at ho; cases ho; exact g
            · obtain ⟨o', ho'⟩ := Classical.not_forall.1 hall
              obtain ⟨k1, k2⟩ := Classical.not_imp.1 ho'
              rw [hkb.1 o' k1 k2] at ho; cases ho; exact h1 _ k1
          · rcases (mem_pop hq).1 (mem_view.1 h4).1 with h6 | ⟨_, _, e⟩
            · exact h6
            · cases e; omega
        · left
          have hall : ∀ o, (σ.view s).co z = some o → o.age < age := fun o ho => by have := h1 o ho; omega
          refine ⟨_, hkb.2 hall, by show A0 ≤ age; omega, g2, ?_⟩
          show some a = wayTo σ.par z (t z)
          unfold wayTo; rw [if_neg h2]
          exact congrArg some (g4.symm.trans h3)
    · have hco : (τ.kn z s).map Fact.co = (σ.view s).co z := by rw [hk z hzb]; rfl
      rcases K.at_ z hz with ⟨o, h1, h2⟩ | ⟨h1, h2, h3, u, w, h4, h5⟩
      · exact Or.inl ⟨o, hco.trans h1, h2⟩
      · refine Or.inr ⟨fun o ho => h1 o (hco.symm.trans ho), h2, h3, ?_⟩
        rcases (mem_pop hq).1 (mem_view.1 h4).1 with h6 | ⟨rfl, rfl, e⟩
        · exact ⟨u, w, (hqm u w _).2 (Or.inl ⟨h6, by simp [Fr.about]⟩), h5⟩
        · cases e
          obtain ⟨k5, k6, k7⟩ := ySide_on T hn hz h5 hzb
          refine ⟨w, next σ.par w z, (hqm _ _ _).2 (Or.inr ⟨rfl, mem_others.2 ⟨?_, ?_, ?_⟩, rfl⟩), k7⟩
          · rw [hn2]; exact (near_lt T k6).2
          · intro e; exact k5 (Option.some.inj e)
          · rw [hkeep.1]; exact k6
/-- An Unsub frame of an older one is handled. -/
theorem Knw.unsubF {A0 : Int} {h0 : Nat} {t : Nat → Nat} (K : Knw s (σ.view s) A0 h0 t) {age : Int} (hq : σ.q a b = .unsub s age :: r) : Knw s ((Net.handle { σ with q := put2 σ.q a b r } b (some a) (.unsub s age)).view s) A0 h0 t := by
  have hmem : Fr.unsub s age ∈ (σ.view s).q a b := mem_view.2 ⟨by rw [hq]; exact List.mem_cons_self .., by simp [Fr.about]⟩
  have hlt := K.unsub a b age hmem
  obtain ⟨τ, hτ⟩ : ∃ τ, τ = Net.forget { σ with q := put2 σ.q a b r } b s age := ⟨_, rfl⟩
  have hkeep := forget_keeps { σ with q := put2 σ.q a b r } b s age
  rw [← hτ] at hkeep
  have hk : ∀ z, z ≠ b → τ.kn z s = σ.kn z s := fun z hz => by
    rw [hτ]; unfold Net.forget
    split
    · rfl
    · split
      · exact put2_other _ _ (fun e => hz e.1)
      · rfl
  have hkb : (τ.kn b s).map Fact.co = (σ.view s).co b ∨ ((τ.kn b s).map Fact.co = none ∧ ∀ o, (σ.view s).co b = some o → o.age ≤ age) := by
    rw [hτ]; unfold Net.forget
    cases hkn : σ.kn b s with
    | none =>
      left
      show (σ.kn b s).map Fact.co = (σ.kn b s).map Fact.co
      rfl
    | some f =>
      simp only
      split
      · rename_i hle
        refine Or.inr ⟨?_, fun o ho => ?_⟩
        · show (put2 σ.kn b s none b s).map Fact.co = none
          rw [put2_same]; rfl
        · have ho : (σ.kn b s).map Fact.co = some o := ho
          rw [hkn] at ho; cases ho; exact hle
      · left
        show (σ.kn b s).map Fact.co = (σ.kn b s).map Fact.co
        rfl
  have hv : (τ.spread b (some a) (.unsub s age)).view s = { σ.view s with co := fun z => (τ.kn z s).map Fact.co, q := fun x y => ((τ.spread b (some a) (.unsub s age)).q x y).filter (Fr.about s) } := by
    have := view_eq σ (τ.spread b (some a) (.unsub s age)) s ((pushAll_par _ _ _ _).trans hkeep.1) ((pushAll_keeps _ _).2.1.trans hkeep.2.2.2)
    rw [this]
    have hkk : (τ.spread b (some a) (.unsub s age)).kn = τ.kn := (pushAll_keeps _ _).1
    simp only [hkk]
  have hqm : ∀ x y f, f ∈ ((τ.spread b (some a) (.unsub s age)).q x y).filter (Fr.about s) ↔ (f ∈ put2 σ.q a b r x y ∧ f.about s = true) ∨ (x = b ∧ y ∈ τ.others b (some a) ∧ f = .unsub s age) := fun x y f => by
    rw [List.mem_filter, Net.spread, mem_pushes, hkeep.2.1]
    constructor
    · rintro ⟨h1 | h1, h2⟩
      · exact Or.inl ⟨h1, h2⟩
      · exact Or.inr h1
    · rintro (⟨h1, h2⟩ | h1)
      · exact ⟨Or.inl h1, h2⟩
      · exact ⟨Or.inr h1, by rw [h1.2.2]; simp [Fr.about]⟩
  show Knw s ((Net.spread (Net.forget { σ with q := put2 σ.q a b r } b s age) b (some a) (.unsub s age)).view s) A0 h0 t
  rw [← hτ, hv]
  have hold : ∀ u w f, f ∈ put2 σ.q a b r u w → f.about s = true → f ∈ (σ.view s).q u w := fun u w f h1 h2 => mem_view.2 ⟨(mem_pop hq).2 (Or.inl h1), h2⟩
  refine ⟨K.h0l, fun u w ag l hf => ?_, fun u w ag hf => ?_, fun z hz => ?_⟩
  · rcases (hqm u w _).1 hf with ⟨h1, h2⟩ | ⟨_, _, e⟩
    · exact K.sub u w ag l (hold u w _ h1 h2)
    · cases e
  · rcases (hqm u w _).1 hf with ⟨h1, h2⟩ | ⟨_, _, e⟩
    · exact K.unsub u w ag (hold u w _ h1 h2)
    · cases e; exact hlt
  · have hz : z < size σ.par := hz
    have hco : (τ.kn z s).map Fact.co = (σ.view s).co z ∨ ((τ.kn z s).map Fact.co = none ∧ ∀ o, (σ.view s).co z = some o → o.age ≤ age) := by
      by_cases hzb : z = b
      · subst hzb; exact hkb
      · left; rw [hk z hzb]; rfl
    rcases K.at_ z hz with ⟨o, h1, h2, h3⟩ | ⟨h1, h2, h3, u, w, h4, h5⟩
    · rcases hco with hco | ⟨_, hco⟩
      · exact Or.inl ⟨o, hco.trans h1, h2, h3⟩
      · have := hco o h1; omega
    · refine Or.inr ⟨fun o ho => ?_, h2, h3, u, w, (hqm u w _).2 (Or.inl ⟨?_, by simp [Fr.about]⟩), h5⟩
      · have ho : (τ.kn z s).map Fact.co = some o := ho
        rcases hco with hco | ⟨hco, _⟩
        · exact h1 o (hco.symm.trans ho)
        · rw [hco] at ho; cases ho
      · rcases (mem_pop hq).1 (mem_view.1 h4).1 with h6 | ⟨_, _, e⟩
        · exact h6
        · cases e
end

section
variable {σ : Net} {s a b : Nat} {r : List Fr}

theorem SlotT.moveF (S : SlotT s (σ.view s)) (L : Live σ) (M : MvWay σ) (hs : s < 8) {age : Int} {fl : List Tst} {old new : Nat} (hq : σ.q a b = .move s age fl old new :: r) : SlotT s ((Net.handle { σ with q := put2 σ.q a b r } b (some a) (.move s age fl old new)).view s) := by
  have T := L.good.tree
  have hn := L.good.nbr a b (by rw [hq]; simp)
  have hab := near_lt T hn
  have hmem : Fr.move s age fl old new ∈ (σ.view s).q a b := mem_view.2 ⟨by rw [hq]; exact List.mem_cons_self .., by simp [Fr.about]⟩
  have hq' := head_q hq (show (Fr.move s age fl old new).about s = true by simp [Fr.about])
  have hmv : (σ.view s).mv a b = .move s age fl old new :: (r.filter (Fr.about s)).filter Fr.isMv := by unfold View.mv; rw [hq']; rfl
  obtain ⟨hao, hno, hnn⟩ := M a b s age fl old new (by rw [hq]; exact List.mem_cons_self ..)
  rcases (L.view s hs).ph.of_mem hmv with ⟨h1, old1, hu, hh, he, hne, hl, hc, hd, hbut, hon, hdi, e⟩ | ⟨_, _, _, _, _, _, _, _, _, _, e⟩
  · cases e
    have hl1 : new < size σ.par := hl.1
    have hl2 : old < size σ.par := hl.2
    cases S with
    | off hu' => rw [hu] at hu'; cases hu'
    | on h hu' hh' hl' hm' A0 h0 hA K => exact absurd hmem (hm' _ _ _ _ _ _)
    | moving h2 old2 x y hu' hh' hl' hm2 A0 h0 hA K =>
      obtain ⟨rfl, rfl, e2⟩ := only_at hon hm2 rfl
      cases e2
      -- no other Move frame waits
      have hrest : ∀ u w f, f ∈ put2 σ.q x y r u w → f.about s = true → f.isMv = true → False := fun u w f hf ha hmf => by
        have h3 : f ∈ (σ.view s).q u w := mem_view.2 ⟨(mem_pop hq).2 (Or.inl hf), ha⟩
        obtain ⟨rfl, rfl, rfl⟩ := only_at hon h3 hmf
        rw [put2_same] at hf
        have h4 : Fr.move s (σ.view s).age (σ.view s).fl old new ∈ (r.filter (Fr.about s)).filter Fr.isMv := List.mem_filter.2 ⟨List.mem_filter.2 ⟨hf, ha⟩, rfl⟩
        have h5 := hon.1
        rw [hmv] at h5
        have h6 := (List.cons.inj h5).2
        rw [h6] at h4; cases h4
      have hside : ∀ z, z < size σ.par → ySide σ.par x y z → z ≠ y → z ≠ new ∧ next σ.par z new = next σ.par z y := fun z hz h3 hzy => by
        have h4 := ySide_on T hn hz h3 hzy
        refine ⟨fun e => ?_, branch T hab.2 hz hl1 hzy (Or.inr (by rw [hnn]; exact fun e => h4.1 e.symm))⟩
        subst e; exact h4.1 hnn
      have hyn : y ≠ new := fun e => by subst e; have : dist σ.par y old < dist σ.par y old := hdi; omega
      have hwy : (some x : Option Nat) = wayTo σ.par y new := by unfold wayTo; rw [if_neg hyn, hnn]
      -- frames of other kinds
      have hfs : ∀ (g : Fr) (u' w' : Nat), g.isMv = true → ∀ u w f, f.isMv = false → (f ∈ (((Net.know { σ with q := put2 σ.q x y r } y s (some ⟨(σ.view s).age, (σ.view s).fl, some x, [], 0, false⟩)).push u' w' g).view s).q u w ↔ f ∈ (σ.view s).q u w) := fun g u' w' hg u w f hf => by
        rw [mem_view, mem_view, mem_push]
        constructor
        · rintro ⟨h3 | ⟨_, _, rfl⟩, h4⟩
          · exact ⟨(mem_pop hq).2 (Or.inl h3), h4⟩
          · rw [hf] at hg; cases hg
        · rintro ⟨h3, h4⟩
          rcases (mem_pop hq).1 h3 with h3 | ⟨_, _, rfl⟩
          · exact ⟨Or.inl h3, h4⟩
          · cases hf
      simp only [Net.handle]
      split
      · rename_i hbo
        subst hbo
        suffices hsuf : ∀ g : Fr, (∃ evs more, g = .rest s evs more new) → SlotT s (((Net.know { σ with q := put2 σ.q x y r } y s (some ⟨(σ.view s).age, (σ.view s).fl, some x, [], 0, false⟩)).push y x g).view s) from hsuf _ (by split <;> exact ⟨_, _, rfl⟩)
        intro g hg2
        have hgm : g.isMv = true := by obtain ⟨_, _, rfl⟩ := hg2; rfl
        refine .on new hu' hh hl1 (fun u w ag f' o' n' hf => ?_) A0 h0 hA (K.same rfl rfl (fun u w ag f' => hfs g y x hgm u w _ rfl) (fun u w ag => (hfs g y x hgm u w _ rfl).1) (fun z hz => ?_))
        · obtain ⟨h3, h4⟩ := mem_view.1 hf
          rcases mem_push.1 h3 with h3 | ⟨_, _, e⟩
          · exact hrest u w _ h3 h4 rfl
          · obtain ⟨_, _, rfl⟩ := hg2; cases e
        · have hz : z < size σ.par := hz
          show (∃ o, ((put2 σ.kn y s (some ⟨(σ.view s).age, (σ.view s).fl, some x, [], 0, false⟩) z s).map Fact.co) = some o ∧ _) ∨ _
          by_cases hzy : z = y
          · subst hzy
            exact Or.inl ⟨⟨(σ.view s).age, (σ.view s).fl, some x, false⟩, by rw [put2_same]; rfl, hA, rfl, hwy⟩
          · right
            refine ⟨Or.inl ?_, ?_⟩
            · show ((put2 σ.kn y s (some ⟨(σ.view s).age, (σ.view s).fl, some x, [], 0, false⟩) z s).map Fact.co) = _
              rw [put2_other _ _ (fun e => hzy e.1)]; rfl
            · show new = (if ySide σ.par x y z then y else new) ∨ _
              by_cases h6 : ySide σ.par x y z
              · right
                obtain ⟨h7, h8⟩ := hside z hz h6 hzy
                show z ≠ (if ySide σ.par x y z then y else new) ∧ z ≠ new ∧ next σ.par z (if ySide σ.par x y z then y else new) = next σ.par z new
                rw [if_pos h6]; exact ⟨hzy, h7, h8.symm⟩
              · left; rw [if_neg h6]
      · rename_i hbo
        have hbo : y ≠ old := hbo
        have hs2 := next_step T hab.2 hl2 hbo
        have hyx : next σ.par y old ≠ x := fun e => by
          have h3 := next_step T hab.1 hl2 hao
          rw [hno] at h3
          rw [e] at hs2
          omega
        refine .moving new old y (next σ.par y old) hu' hh ⟨hl1, hl2⟩ (mem_view.2 ⟨mem_push.2 (Or.inr ⟨rfl, rfl, rfl⟩), by simp [Fr.about]⟩) A0 h0 hA (K.same rfl rfl (fun u w ag f' => hfs _ _ _ rfl u w _ rfl) (fun u w ag => (hfs _ _ _ rfl u w _ rfl).1) (fun z hz => ?_))
        have hz : z < size σ.par := hz
        show (∃ o, ((put2 σ.kn y s (some ⟨(σ.view s).age, (σ.view s).fl, some x, [], 0, false⟩) z s).map Fact.co) = some o ∧ A0 ≤ o.age ∧ o.fl = (σ.view s).fl ∧ o.way = wayTo σ.par z (if ySide σ.par y (next σ.par y old) z then old else new)) ∨ _
        by_cases hzy : z = y
        · subst hzy
          refine Or.inl ⟨⟨(σ.view s).age, (σ.view s).fl, some x, false⟩, by rw [put2_same]; rfl, hA, rfl, ?_⟩
          rw [if_neg (fun h => h.1 rfl)]
          exact hwy
        · right
          refine ⟨Or.inl ?_, ?_⟩
          · show ((put2 σ.kn y s (some ⟨(σ.view s).age, (σ.view s).fl, some x, [], 0, false⟩) z s).map Fact.co) = _
            rw [put2_other _ _ (fun e => hzy e.1)]; rfl
          · show (if ySide σ.par y (next σ.par y old) z then old else new) = (if ySide σ.par x y z then old else new) ∨ z ≠ (if ySide σ.par x y z then old else new) ∧ z ≠ (if ySide σ.par y (next σ.par y old) z then old else new) ∧ next σ.par z (if ySide σ.par x y z then old else new) = next σ.par z (if ySide σ.par y (next σ.par y old) z then old else new)
            by_cases h6 : ySide σ.par y (next σ.par y old) z
            · left; rw [if_pos h6, if_pos (ySide_back T hn hs2.1 hyx hz h6)]
            · rw [if_neg h6]
              by_cases h7 : ySide σ.par x y z
              · right
                rw [if_pos h7]
                obtain ⟨h8, h9⟩ := hside z hz h7 hzy
                have hzo : z ≠ old := fun e => by subst e; exact h6 ⟨hzy, rfl⟩
                have h10 := branch T hab.2 hz hl2 hzy (Or.inr (fun e => h6 ⟨hzy, e.symm⟩))
                exact ⟨hzo, h8, h10.trans h9.symm⟩
              · left; rw [if_neg h7]
  · cases e

theorem SlotT.restF (S : SlotT s (σ.view s)) (L : Live σ) (hs : s < 8) {evs : List News} {m : Int} {new : Nat} (hq : σ.q a b = .rest s evs m new :: r) : SlotT s ((Net.handle { σ with q := put2 σ.q a b r } b (some a) (.rest s evs m new)).view s) := by
  have hmem : Fr.rest s evs m new ∈ (σ.view s).q a b := mem_view.2 ⟨by rw [hq]; exact List.mem_cons_self .., by simp [Fr.about]⟩
  have hq' := head_q hq (show (Fr.rest s evs m new).about s = true by simp [Fr.about])
  have hmv : (σ.view s).mv a b = .rest s evs m new :: (r.filter (Fr.about s)).filter Fr.isMv := by unfold View.mv; rw [hq']; rfl
  rcases (L.view s hs).ph.of_mem hmv with ⟨_, _, _, _, _, _, _, _, _, _, _, _, e⟩ | ⟨h1, evs1, more1, hu, hh, he, hc, hbut, hon, hk, e⟩
  · cases e
  · cases e
    cases S with
    | off hu' => rw [hu] at hu'; cases hu'
    | moving h2 old2 x y hu' hh' hl' hm2 A0 h0 hA K => obtain ⟨_, _, e2⟩ := only_at hon hm2 rfl; cases e2
    | on h hu' hh' hl' hm' A0 h0 hA K =>
      have hpop : ∀ u w f, f ∈ put2 σ.q a b r u w → f.about s = true → f ∈ (σ.view s).q u w := fun u w f h3 h4 => mem_view.2 ⟨(mem_pop hq).2 (Or.inl h3), h4⟩
      have hpop2 : ∀ u w f, f.isMv = false → f ∈ (σ.view s).q u w → f ∈ put2 σ.q a b r u w ∧ f.about s = true := fun u w f hf h3 => by
        obtain ⟨h3, h4⟩ := mem_view.1 h3
        rcases (mem_pop hq).1 h3 with h3 | ⟨_, _, rfl⟩
        · exact ⟨h3, h4⟩
        · cases hf
      simp only [Net.handle]
      split
      · refine .on h hu' hh' hl' (fun u w ag f' o' n' hf => ?_) A0 h0 hA (K.same rfl rfl (fun u w ag f' => ?_) (fun u w ag hf => ?_) (fun z _ => Or.inr ⟨Or.inl rfl, Or.inl rfl⟩))
        · obtain ⟨h3, h4⟩ := mem_view.1 hf
          rcases mem_push.1 h3 with h3 | ⟨_, _, e⟩
          · exact hm' _ _ _ _ _ _ (hpop u w _ h3 h4)
          · cases e
        · rw [mem_view, mem_push]
          constructor
          · rintro ⟨h3 | ⟨_, _, e⟩, h4⟩
            · exact hpop u w _ h3 h4
            · cases e
          · intro h3
            obtain ⟨h3, h4⟩ := hpop2 u w _ rfl h3
            exact ⟨Or.inl h3, h4⟩
        · obtain ⟨h3, h4⟩ := mem_view.1 hf
          rcases mem_push.1 h3 with h3 | ⟨_, _, e⟩
          · exact hpop u w _ h3 h4
          · cases e
      · have hpv : ∀ u w f, f ∈ (({ σ with q := put2 σ.q a b r } : Net).view s).q u w → f ∈ (σ.view s).q u w := fun u w f hf => by obtain ⟨h3, h4⟩ := mem_view.1 hf; exact hpop u w f h3 h4
        have hpv2 : ∀ u w f, f.isMv = false → (f ∈ (({ σ with q := put2 σ.q a b r } : Net).view s).q u w ↔ f ∈ (σ.view s).q u w) := fun u w f hf => ⟨hpv u w f, fun h3 => by obtain ⟨h3, h4⟩ := hpop2 u w f hf h3; exact mem_view.2 ⟨h3, h4⟩⟩
        split
        · exact .on h hu' hh' hl' (fun u w ag f' o' n' hf => hm' _ _ _ _ _ _ (hpv u w _ hf)) A0 h0 hA (K.same rfl rfl (fun u w ag f' => hpv2 u w _ rfl) (fun u w ag hf => hpv u w _ hf) (fun z _ => Or.inr ⟨Or.inl rfl, Or.inl rfl⟩))
        · rename_i f hf2
          have hf2 : σ.kn b s = some f := hf2
          rw [view_know_same, view_tells, view_tells, view_lose]
          refine .on h hu' hh' hl' (fun u w ag f' o' n' hf => hm' _ _ _ _ _ _ (hpv u w _ hf)) A0 h0 hA (K.same rfl rfl (fun u w ag f' => hpv2 u w _ rfl) (fun u w ag hf => hpv u w _ hf) (fun z _ => Or.inr ⟨?_, Or.inl rfl⟩))
          by_cases hzb : z = b
          · subst hzb
            refine Or.inr ⟨f.co, _, ?_, put_same _ _ _, rfl, rfl, rfl⟩
            show (σ.kn z s).map Fact.co = _
            rw [hf2]; rfl
          · exact Or.inl (put_other _ _ hzb)

/-- A frame is handled. -/
theorem SlotT.del (S : SlotT s (σ.view s)) (L : Live σ) (M : MvWay σ) (hs : s < 8) (x y : Int) : SlotT s ((σ.del x y).view s) := by
  unfold Net.del
  split
  · split
    · rename_i f r hq
      cases hf : f.about s with
      | false => rw [view_handle hq hf]; exact S
      | true =>
        cases f with
        | sub t age fl =>
          have : t = s := by simpa [Fr.about] using hf
          subst this
          have hcl : ∀ d, (Net.handle { σ with q := put2 σ.q x.toNat y.toNat r } y.toNat (some x.toNat) (.sub t age fl)).cl d = σ.cl d := fun d => by
            show (Net.spread _ _ _ _).cl d = _
            rw [Net.spread, (pushAll_keeps _ _).2.1, (learn_keeps _ _ _ _ _ _).2.2.2]
          have hpar : (Net.handle { σ with q := put2 σ.q x.toNat y.toNat r } y.toNat (some x.toNat) (.sub t age fl)).par = σ.par := (pushAll_par _ _ _ _).trans (learn_keeps _ _ _ _ _ _).1
          have hmq : ∀ u w g, g.isMv = true → (g ∈ ((Net.handle { σ with q := put2 σ.q x.toNat y.toNat r } y.toNat (some x.toNat) (.sub t age fl)).view t).q u w ↔ g ∈ (σ.view t).q u w) := fun u w g hg => by
            rw [mem_view, mem_view]
            show g ∈ (Net.pushAll _ _ _ _).q u w ∧ _ ↔ _
            rw [mem_pushes, (learn_keeps _ _ _ _ _ _).2.1]
            constructor
            · rintro ⟨h3 | ⟨_, _, rfl⟩, h4⟩
              · exact ⟨(mem_pop hq).2 (Or.inl h3), h4⟩
              · cases hg
            · rintro ⟨h3, h4⟩
              rcases (mem_pop hq).1 h3 with h3 | ⟨_, _, rfl⟩
              · exact ⟨Or.inl h3, h4⟩
              · cases hg
          cases S with
          | off hu => exact .off (by show ((Net.handle _ _ _ _).cl _).used _ = false; rw [hcl]; exact hu)
          | on h hu hh hl hm A0 h0 hA K => exact .on h (by show ((Net.handle _ _ _ _).cl _).used _ = true; rw [hcl]; exact hu) (by show ((Net.handle _ _ _ _).cl _).home = _; rw [hcl]; exact hh) (by show h < size (Net.handle _ _ _ _).par; rw [hpar]; exact hl) (fun u w ag f' o' n' hf => hm _ _ _ _ _ _ ((hmq u w _ rfl).1 hf)) A0 h0 (by show A0 ≤ ((Net.handle _ _ _ _).cl _).age _; rw [hcl]; exact hA) (K.subF L.good hq)
          | moving h old u w hu hh hl hm A0 h0 hA K =>
            refine .moving h old u w (by show ((Net.handle _ _ _ _).cl _).used _ = true; rw [hcl]; exact hu) (by show ((Net.handle _ _ _ _).cl _).home = _; rw [hcl]; exact hh) (by show h < size (Net.handle _ _ _ _).par ∧ old < size (Net.handle _ _ _ _).par; rw [hpar]; exact hl) (by
              show Fr.move t (((Net.handle _ _ _ _).cl _).age _) (((Net.handle _ _ _ _).cl _).fl _) old h ∈ _
              rw [hcl]; exact (hmq u w _ rfl).2 hm) A0 h0 (by show A0 ≤ ((Net.handle _ _ _ _).cl _).age _; rw [hcl]; exact hA) ?_
            show Knw t _ A0 h0 (fun z => if ySide (Net.handle _ _ _ _).par u w z then old else h)
            rw [hpar]; exact K.subF L.good hq
        | unsub t age =>
          have : t = s := by simpa [Fr.about] using hf
          subst this
          have hcl : ∀ d, (Net.handle { σ with q := put2 σ.q x.toNat y.toNat r } y.toNat (some x.toNat) (.unsub t age)).cl d = σ.cl d := fun d => by
            show (Net.spread _ _ _ _).cl d = _
            rw [Net.spread, (pushAll_keeps _ _).2.1, (forget_keeps _ _ _ _).2.2.2]
          have hpar : (Net.handle { σ with q := put2 σ.q x.toNat y.toNat r } y.toNat (some x.toNat) (.unsub t age)).par = σ.par := (pushAll_par _ _ _ _).trans (forget_keeps _ _ _ _).1
          have hmq : ∀ u w g, g.isMv = true → (g ∈ ((Net.handle { σ with q := put2 σ.q x.toNat y.toNat r } y.toNat (some x.toNat) (.unsub t age)).view t).q u w ↔ g ∈ (σ.view t).q u w) := fun u w g hg => by
            rw [mem_view, mem_view]
            show g ∈ (Net.pushAll _ _ _ _).q u w ∧ _ ↔ _
            rw [mem_pushes, (forget_keeps _ _ _ _).2.1]
            constructor
            · rintro ⟨h3 | ⟨_, _, rfl⟩, h4⟩
              · exact ⟨(mem_pop hq).2 (Or.inl h3), h4⟩
              · cases hg
            · rintro ⟨h3, h4⟩
              rcases (mem_pop hq).1 h3 with h3 | ⟨_, _, rfl⟩
              · exact ⟨Or.inl h3, h4⟩
              · cases hg
          cases S with
          | off hu => exact .off (by show ((Net.handle _ _ _ _).cl _).used _ = false; rw [hcl]; exact hu)
          | on h hu hh hl hm A0 h0 hA K => exact .on h (by show ((Net.handle _ _ _ _).cl _).used _ = true; rw [hcl]; exact hu) (by show ((Net.handle _ _ _ _).cl _).home = _; rw [hcl]; exact hh) (by show h < size (Net.handle _ _ _ _).par; rw [hpar]; exact hl) (fun u w ag f' o' n' hf => hm _ _ _ _ _ _ ((hmq u w _ rfl).1 hf)) A0 h0 (by show A0 ≤ ((Net.handle _ _ _ _).cl _).age _; rw [hcl]; exact hA) (K.unsubF hq)
          | moving h old u w hu hh hl hm A0 h0 hA K =>
            refine .moving h old u w (by show ((Net.handle _ _ _ _).cl _).used _ = true; rw [hcl]; exact hu) (by show ((Net.handle _ _ _ _).cl _).home = _; rw [hcl]; exact hh) (by show h < size (Net.handle _ _ _ _).par ∧ old < size (Net.handle _ _ _ _).par; rw [hpar]; exact hl) (by
              show Fr.move t (((Net.handle _ _ _ _).cl _).age _) (((Net.handle _ _ _ _).cl _).fl _) old h ∈ _
              rw [hcl]; exact (hmq u w _ rfl).2 hm) A0 h0 (by show A0 ≤ ((Net.handle _ _ _ _).cl _).age _; rw [hcl]; exact hA) ?_
            show Knw t _ A0 h0 (fun z => if ySide (Net.handle _ _ _ _).par u w z then old else h)
            rw [hpar]; exact K.unsubF hq
        | event e => cases hf
        | move t age fl old new =>
          have : t = s := by simpa [Fr.about] using hf
          subst this; exact S.moveF L M hs hq
        | rest t evs m new =>
          have : t = s := by simpa [Fr.about] using hf
          subst this; exact S.restF L hs hq
    · exact S
  · exact S
end

theorem SlotT.here {s : Nat} {v : View} (S : SlotT s v) (x : Option Nat) : SlotT s { v with here := x } := by
  cases S with
  | off hu => exact .off hu
  | on h hu hh hl hm A0 h0 hA K => exact .on h hu hh hl hm A0 h0 hA ⟨K.h0l, K.sub, K.unsub, K.at_⟩
  | moving h old u w hu hh hl hm A0 h0 hA K => exact .moving h old u w hu hh hl hm A0 h0 hA ⟨K.h0l, K.sub, K.unsub, K.at_⟩
theorem SlotT.at {s : Nat} {v : View} (S : SlotT s v) {b : Nat} (h : v.used = true → v.home = some b) : SlotT s { v with here := some b, home := some b } := by
  cases S with
  | off hu => exact .off hu
  | on h' hu hh hl hm A0 h0 hA K =>
    have : h' = b := by have := h hu; rw [hh] at this; exact Option.some.inj this
    subst this
    exact .on h' hu rfl hl hm A0 h0 hA ⟨K.h0l, K.sub, K.unsub, K.at_⟩
  | moving h' old u w hu hh hl hm A0 h0 hA K =>
    have : h' = b := by have := h hu; rw [hh] at this; exact Option.some.inj this
    subst this
    exact .moving h' old u w hu rfl hl hm A0 h0 hA ⟨K.h0l, K.sub, K.unsub, K.at_⟩
theorem SlotT.home {s : Nat} {v : View} (S : SlotT s v) (hu : v.used = true) : v.home ≠ none := by
  cases S with
  | off hu' => rw [hu] at hu'; cases hu'
  | on h _ hh => rw [hh]; simp
  | moving h _ _ _ _ hh => rw [hh]; simp
/-- It comes to another broker. -/
theorem SlotT.come {s : Nat} {v : View} (S : SlotT s v) (V : ViewOk s v) (T : Tree v.par) (hu : v.used = true) (hnh : v.here = none) {b old : Nat} (hb : b < size v.par) (hne : b ≠ old) (hho : v.home = some old) :
    SlotT s { v with age := v.age + 1, here := some b, home := some b, co := put v.co b (some ⟨v.age + 1, v.fl, none, true⟩), q := put2 v.q b (next v.par b old) (v.q b (next v.par b old) ++ [.move s (v.age + 1) v.fl old b]) } := by
  have hno : v.noMv := by
    cases V.ph with
    | off hu' => rw [hu] at hu'; cases hu'
    | on _ _ _ _ _ hm => exact hm
    | moving _ _ _ _ _ _ he => rw [hnh] at he; cases he
    | resting _ _ _ _ _ _ _ he => rw [hnh] at he; cases he
  cases S with
  | off hu' => rw [hu] at hu'; cases hu'
  | moving h old' u w _ hh hl hm =>
    have : Fr.move s v.age v.fl old' h ∈ v.mv u w := List.mem_filter.2 ⟨hm, rfl⟩
    rw [hno u w] at this; cases this
  | on h _ hh hl hm A0 h0 hA K =>
    rw [hho] at hh; cases hh
    have hs := next_step T hb hl hne
    have hmem : ∀ u w f, f ∈ put2 v.q b (next v.par b old) (v.q b (next v.par b old) ++ [.move s (v.age + 1) v.fl old b]) u w ↔ f ∈ v.q u w ∨ (u = b ∧ w = next v.par b old ∧ f = .move s (v.age + 1) v.fl old b) := fun u w f => by
      by_cases e : u = b ∧ w = next v.par b old
      · obtain ⟨rfl, rfl⟩ := e
        rw [put2_same, List.mem_append, List.mem_singleton]
        simp
      · rw [put2_other _ _ e]
        constructor
        · exact Or.inl
        · rintro (h | ⟨h1, h2, _⟩)
          · exact h
          · exact absurd ⟨h1, h2⟩ e
    refine .moving b old b (next v.par b old) hu rfl ⟨hb, hl⟩ ((hmem _ _ _).2 (Or.inr ⟨rfl, rfl, rfl⟩)) A0 h0 (by show A0 ≤ v.age + 1; omega) (K.same rfl rfl (fun u w ag f' => ?_) (fun u w ag hf => ?_) (fun z hz => ?_))
    · refine (hmem u w _).trans ⟨?_, Or.inl⟩
      rintro (h | ⟨_, _, e⟩)
      · exact h
      · cases e
    · rcases (hmem u w _).1 hf with h | ⟨_, _, e⟩
      · exact h
      · cases e
    · show (∃ o, put v.co b (some ⟨v.age + 1, v.fl, none, true⟩) z = some o ∧ A0 ≤ o.age ∧ o.fl = v.fl ∧ o.way = wayTo v.par z (if ySide v.par b (next v.par b old) z then old else b)) ∨ _
      by_cases hzb : z = b
      · subst hzb
        refine Or.inl ⟨_, put_same _ _ _, by show A0 ≤ v.age + 1; omega, rfl, ?_⟩
        rw [if_neg (fun h => h.1 rfl)]
        unfold wayTo; rw [if_pos rfl]
      · right
        refine ⟨Or.inl (put_other _ _ hzb), ?_⟩
        show (if ySide v.par b (next v.par b old) z then old else b) = old ∨ z ≠ old ∧ z ≠ (if ySide v.par b (next v.par b old) z then old else b) ∧ next v.par z old = next v.par z (if ySide v.par b (next v.par b old) z then old else b)
        by_cases hy : ySide v.par b (next v.par b old) z
        · left; rw [if_pos hy]
        · right
          rw [if_neg hy]
          have hzo : z ≠ old := fun e => by subst e; exact hy ⟨hzb, rfl⟩
          exact ⟨hzo, hzb, branch T hb hz hl hzb (Or.inr (fun e => hy ⟨hzb, e.symm⟩))⟩

section
variable {σ : Net} {s : Nat}
theorem SlotT.detach (S : SlotT s (σ.view s)) (c : Int) : SlotT s ((σ.detach c).view s) := by
  unfold Net.detach
  split
  · by_cases e : s / 2 = c.toNat
    · have hv : (σ.setCl c.toNat { σ.cl c.toNat with here := none }).view s = { σ.view s with here := none } := by
        rw [← e]; simp [Net.view, Net.setCl]
      rw [hv]; exact S.here none
    · rw [view_cl_other _ e]; exact S
  · exact S
theorem SlotT.log (S : SlotT s (σ.view s)) (c : Nat) : SlotT s ((σ.setCl c { σ.cl c with log := [] }).view s) := by
  have hv : (σ.setCl c { σ.cl c with log := [] }).view s = σ.view s := view_setCl (σ := σ) (c := c) (x := { σ.cl c with log := [] }) rfl rfl rfl rfl rfl s
  rw [hv]; exact S
theorem view_pub (c f0 f1 f2 : Int) : (σ.pub c f0 f1 f2).view s = σ.view s := by
  unfold Net.pub
  split
  · split
    · rw [view_happens]; exact view_setCl (σ := σ) (c := c.toNat) (x := { σ.cl c.toNat with many := (σ.cl c.toNat).many + 1 }) rfl rfl rfl rfl rfl s
    · rfl
  · rfl
theorem SlotT.pub (S : SlotT s (σ.view s)) (c f0 f1 f2 : Int) : SlotT s ((σ.pub c f0 f1 f2).view s) := by rw [view_pub]; exact S

theorem SlotT.attachN (S : SlotT s (σ.view s)) (L : Live σ) {c b : Nat} (hc : c < 4) (hb : b < σ.n) (hn : (σ.cl c).here = none) (hs : s < 8) : SlotT s ((σ.attachN c b).view s) := by
  have hback : ((σ.cl c).home = none ∨ (σ.cl c).home = some b) → SlotT s ((((σ.backs c b 0).backs c b 1).arrive c b).view s) := fun hh => by
    rw [view_arrive, view_backs, view_backs]
    split
    · rename_i e
      refine S.at (fun hu => ?_)
      have h1 := S.home hu
      have h2 : (σ.view s).home = (σ.cl c).home := by show (σ.cl (s / 2)).home = _; rw [e]
      rw [h2] at h1 ⊢
      rcases hh with hh | hh
      · exact absurd hh h1
      · exact hh
    · exact S
  unfold Net.attachN
  split
  · rename_i hh; exact hback (Or.inl hh)
  · rename_i old hh
    split
    · rename_i e; subst e; exact hback (Or.inr hh)
    · rename_i hob
      have hol : old < σ.n := (L.good.clis c hc).home old hh
      have k1 := comes_keeps (σ := σ) c b old 0
      rw [view_arrive]
      split
      · rename_i e
        obtain ⟨k, hk, hsk⟩ : ∃ k, k < 2 ∧ s = 2 * c + k := ⟨s % 2, by omega, by omega⟩
        have hvk : ((σ.comes c b old 0).comes c b old 1).view s = (σ.comes c b old k).view s := by
          rcases (by omega : k = 0 ∨ k = 1) with rfl | rfl
          · exact comes_other (by omega)
          · have h9 : (σ.comes c b old 0).view s = σ.view s := comes_other (by omega)
            cases hu1 : (σ.cl c).used 1 with
            | false =>
              rw [comes_off (by rw [(k1.2.2 c).2.2.1]; exact hu1), comes_off (σ := σ) hu1]
              exact h9
            | true =>
              have h10 := comes_same (σ := σ.comes c b old 0) (c := c) (b := b) (old := old) (k := 1) (by omega) (by rw [(k1.2.2 c).2.2.1]; exact hu1)
              have h11 := comes_same (σ := σ) (c := c) (b := b) (old := old) (k := 1) (by omega) hu1
              rw [← hsk, h9, k1.1] at h10
              rw [← hsk] at h11
              rw [h10, h11]
        rw [hvk]
        have hus : (σ.view s).used = (σ.cl c).used k := by show (σ.cl (s / 2)).used (s % 2) = _; rw [e, show s % 2 = k by omega]
        cases hu : (σ.cl c).used k with
        | false =>
          rw [comes_off hu]
          refine S.at (fun hu' => ?_)
          rw [hus, hu] at hu'; cases hu'
        | true =>
          have h10 := comes_same (σ := σ) (c := c) (b := b) (old := old) (k := k) hk hu
          rw [← hsk] at h10
          rw [h10]
          exact SlotT.come (v := σ.view s) S (L.view s hs) L.good.tree (by rw [hus]; exact hu) (by show (σ.cl (s / 2)).here = none; rw [e]; exact hn) hb (fun g => hob g.symm) (by show (σ.cl (s / 2)).home = _; rw [e]; exact hh)
      · rename_i e
        rw [comes_other (by omega), comes_other (by omega)]; exact S
theorem SlotT.attach (S : SlotT s (σ.view s)) (L : Live σ) {c b : Nat} (hE : σ.attachE c b = 0) (hs : s < 8) : SlotT s ((σ.attach c b).view s) := by
  have hz := attachE_zero hE
  simp only [toNat_nat] at hz
  unfold Net.attach
  rw [if_pos hE]
  simp only [toNat_nat]
  exact S.attachN L (by omega) (by omega) hz.2.2.2.1 hs

theorem SlotT.sub (S : SlotT s (σ.view s)) (L : Live σ) {c : Nat} {l : List Tst} (hE : σ.subE c l = 0) (hs : s < 8) : SlotT s ((σ.sub c l).view s) := by
  obtain ⟨b, hb, hu, he⟩ := sub_eq hE
  have hz := subE_zero hE
  have hc : c < 4 := by omega
  rw [he]
  obtain ⟨k, hk⟩ : ∃ k, k = σ.slot c := ⟨_, rfl⟩
  have hk2 : k < 2 := by rw [hk]; unfold Net.slot; split <;> omega
  rw [← hk] at hu ⊢
  have hs2 : (2 * c + k) / 2 = c := by omega
  have hs3 : (2 * c + k) % 2 = k := by omega
  have hbl : b < size σ.par := (L.good.clis c hc).here b hb
  have T := L.good.tree
  obtain ⟨x', hx'⟩ : ∃ x' : Cli, x' = { σ.cl c with used := put (σ.cl c).used k true, age := put (σ.cl c).age k ((σ.cl c).age k + 1), fl := put (σ.cl c).fl k l, told := put (σ.cl c).told k [] } := ⟨_, rfl⟩
  obtain ⟨τ, hτ⟩ : ∃ τ, τ = (σ.setCl c x').know b (2 * c + k) (some ⟨(σ.cl c).age k + 1, l, none, [], 0, false⟩) := ⟨_, rfl⟩
  have hN : σ.subN c b k l = τ.pushAll b (τ.others b none) (.sub (2 * c + k) ((σ.cl c).age k + 1) l) := by rw [hτ, hx']; rfl
  rw [hN]
  have hpa := pushAll_keeps (f := .sub (2 * c + k) ((σ.cl c).age k + 1) l) (x := b) (τ.others b none) τ
  by_cases e : s = 2 * c + k
  · subst e
    have hage : (σ.view (2 * c + k)).age = (σ.cl c).age k := by simp [Net.view, hs2, hs3]
    have hv : (τ.pushAll b (τ.others b none) (.sub (2 * c + k) ((σ.cl c).age k + 1) l)).view (2 * c + k) = { σ.view (2 * c + k) with used := true, age := (σ.cl c).age k + 1, fl := l, co := put (σ.view (2 * c + k)).co b (some ⟨(σ.cl c).age k + 1, l, none, false⟩), q := fun x y => ((τ.pushAll b (τ.others b none) (.sub (2 * c + k) ((σ.cl c).age k + 1) l)).q x y).filter (Fr.about (2 * c + k)) } := by
      rw [view_eq τ _ _ (pushAll_par _ _ _ _) hpa.2.1, hpa.1]
      have h1 : τ.view (2 * c + k) = { σ.view (2 * c + k) with used := true, age := (σ.cl c).age k + 1, fl := l, co := put (σ.view (2 * c + k)).co b (some ⟨(σ.cl c).age k + 1, l, none, false⟩) } := by
        rw [hτ, view_know_same, hx']
        simp [Net.view, Net.setCl, hs2, hs3, Fact.co]
      rw [show (fun x => (τ.kn x (2 * c + k)).map Fact.co) = (τ.view (2 * c + k)).co from rfl, h1]
    have hqm : ∀ x y f, f ∈ ((τ.pushAll b (τ.others b none) (.sub (2 * c + k) ((σ.cl c).age k + 1) l)).q x y).filter (Fr.about (2 * c + k)) ↔ f ∈ (σ.view (2 * c + k)).q x y ∨ (x = b ∧ y ∈ τ.others b none ∧ f = .sub (2 * c + k) ((σ.cl c).age k + 1) l) := fun x y f => by
      have hτq : τ.q = σ.q := by rw [hτ]; rfl
      rw [List.mem_filter, mem_pushes, hτq, mem_view]
      constructor
      · rintro ⟨h1 | h1, h2⟩
        · exact Or.inl ⟨h1, h2⟩
        · exact Or.inr h1
      · rintro (⟨h1, h2⟩ | h1)
        · exact ⟨Or.inl h1, h2⟩
        · exact ⟨Or.inr h1, by rw [h1.2.2]; simp [Fr.about]⟩
    have V := L.view (2 * c + k) hs
    have huv : (σ.view (2 * c + k)).used = false := by simp [Net.view, hs2, hs3, hu]
    have hno : (σ.view (2 * c + k)).noMv := by
      cases V.ph with
      | off _ _ hm => exact hm
      | on _ hu' => rw [huv] at hu'; cases hu'
      | moving _ _ _ _ hu' => rw [huv] at hu'; cases hu'
      | resting _ _ _ _ _ hu' => rw [huv] at hu'; cases hu'
    have hτp : τ.par = σ.par := by rw [hτ]; rfl
    rw [hv]
    refine .on b rfl (by show (σ.cl ((2 * c + k) / 2)).home = some b; rw [hs2]; exact L.home c hc b hb) hbl (fun x y ag f' o' n' hf => ?_) ((σ.cl c).age k + 1) b (Int.le_refl _) ⟨hbl, fun u w ag f' hf => ?_, fun u w ag hf => ?_, fun z hz => ?_⟩
    · rcases (hqm x y _).1 hf with h1 | ⟨_, _, e⟩
      · have : Fr.move (2 * c + k) ag f' o' n' ∈ (σ.view (2 * c + k)).mv x y := List.mem_filter.2 ⟨h1, rfl⟩
        rw [hno x y] at this; cases this
      · cases e
    · rcases (hqm u w _).1 hf with h1 | ⟨rfl, h2, e⟩
      · left
        have := ((V.late u w _ h1).1 ag f' rfl).1
        omega
      · cases e
        obtain ⟨h3, _, h5⟩ := mem_others.1 h2
        rw [hτp] at h5
        refine Or.inr ⟨rfl, rfl, fun g => near_ne T h5 g.symm, ?_⟩
        exact next_near T (by rw [near_comm]; exact h5)
    · rcases (hqm u w _).1 hf with h1 | ⟨_, _, e⟩
      · have := ((V.late u w _ h1).2 ag rfl).1
        omega
      · cases e
    · have hz : z < size σ.par := hz
      by_cases hzb : z = b
      · subst hzb
        refine Or.inl ⟨_, put_same _ _ _, Int.le_refl _, rfl, ?_⟩
        show none = wayTo σ.par z z
        unfold wayTo; rw [if_pos rfl]
      · have hst := next_step T hbl hz (fun g => hzb g.symm)
        refine Or.inr ⟨fun o ho => ?_, hzb, rfl, b, next σ.par b z, (hqm _ _ _).2 (Or.inr ⟨rfl, mem_others.2 ⟨?_, by simp, ?_⟩, rfl⟩), hzb, rfl⟩
        · have ho : put (σ.view (2 * c + k)).co b _ z = some o := ho
          rw [put_other _ _ hzb] at ho
          have := V.facts z o ho
          omega
        · unfold Net.n; rw [hτp]; exact (near_lt T hst.1).2
        · rw [hτp]; exact hst.1
  · rw [view_pushAll (by simp [Fr.about]; exact fun h => e h.symm), hτ, view_know_other _ e]
    by_cases e2 : s / 2 = c
    · have e3 : s % 2 ≠ k := by omega
      have hv : (σ.setCl c x').view s = σ.view s := by
        rw [hx', ← e2]
        simp [Net.view, Net.setCl, put_other _ _ e3]
      rw [hv]; exact S
    · rw [view_cl_other _ e2]; exact S
end

/-- Two nets that are alike for one subscription. -/
structure Ali (σ τ : Net) (s : Nat) : Prop where
  par : τ.par = σ.par
  q : ∀ u v, (τ.q u v).filter (Fr.mine s) = (σ.q u v).filter (Fr.mine s)
  kn : ∀ z, τ.kn z s = σ.kn z s
  told : tldOf τ s = tldOf σ s
  lg : lgOf τ s = lgOf σ s
  home : (τ.cl (s / 2)).home = (σ.cl (s / 2)).home
  used : (τ.cl (s / 2)).used (s % 2) = (σ.cl (s / 2)).used (s % 2)
  fl : (τ.cl (s / 2)).fl (s % 2) = (σ.cl (s / 2)).fl (s % 2)
  left : τ.left s = σ.left s
theorem Ali.refl (σ : Net) (s : Nat) : Ali σ σ s := ⟨rfl, fun _ _ => rfl, fun _ => rfl, rfl, rfl, rfl, rfl, rfl, rfl⟩
theorem Ali.trans {a b c : Net} {s : Nat} (h : Ali a b s) (k : Ali b c s) : Ali a c s :=
  ⟨k.par.trans h.par, fun u v => (k.q u v).trans (h.q u v), fun z => (k.kn z).trans (h.kn z), k.told.trans h.told, k.lg.trans h.lg, k.home.trans h.home, k.used.trans h.used, k.fl.trans h.fl, k.left.trans h.left⟩

section
variable {σ τ : Net} {s : Nat}
theorem mine_move {t : Nat} (h : t ≠ s) (age : Int) (fl : List Tst) (old new : Nat) : Fr.mine s (.move t age fl old new) = false := by simp [Fr.mine, Fr.about, Fr.news, h]
theorem mine_sub {t : Nat} (h : t ≠ s) (age : Int) (fl : List Tst) : Fr.mine s (.sub t age fl) = false := by simp [Fr.mine, Fr.about, Fr.news, h]
theorem mine_more {f : Fr} (h : Fr.mine s f = false) : restMore s f = 0 := by
  cases f with
  | rest t evs m new =>
    by_cases e : t = s
    · subst e; simp [Fr.mine, Fr.about] at h
    · simp [restMore, e]
  | _ => rfl
theorem ali_pushAll {f : Fr} (hf : Fr.mine s f = false) {x : Nat} (hx : x < 6) (ys : List Nat) (hy : ∀ y, y ∈ ys → y < 6) (σ : Net) : Ali σ (σ.pushAll x ys f) s := by
  have h := pushAll_keeps (f := f) (x := x) ys σ
  exact ⟨pushAll_par _ _ _ _, fun u v => filt_pushAll hf x u v ys σ, fun z => by rw [h.1], by unfold tldOf; rw [h.2.1], lg_of (by rw [h.2.1]), by rw [h.2.1], by rw [h.2.1], by rw [h.2.1], left_pushAll s (mine_more hf) x ys σ hy hx⟩
theorem ali_know {b t : Nat} (h : s ≠ t) (o : Option Fact) (σ : Net) : Ali σ (σ.know b t o) s := ⟨rfl, fun _ _ => rfl, fun _ => put2_other _ _ (fun g => h g.2), rfl, rfl, rfl, rfl, rfl, left_know_other σ b h o⟩
/-- A client's numbers. -/
theorem ali_setCl {c : Nat} {x : Cli} (σ : Net) (h : s / 2 = c → x.told (s % 2) = (σ.cl c).told (s % 2) ∧ (x.log.map (lostN (s % 2))).sum = ((σ.cl c).log.map (lostN (s % 2))).sum ∧ x.home = (σ.cl c).home ∧ x.used (s % 2) = (σ.cl c).used (s % 2) ∧ x.fl (s % 2) = (σ.cl c).fl (s % 2)) : Ali σ (σ.setCl c x) s := by
  have hl : (σ.setCl c x).left s = σ.left s := left_congr rfl rfl s
  by_cases e : s / 2 = c
  · obtain ⟨h1, h2, h3, h4, h5⟩ := h e
    have hcl : (σ.setCl c x).cl (s / 2) = x := by rw [e]; exact put_same _ _ _
    refine ⟨rfl, fun _ _ => rfl, fun _ => rfl, ?_, ?_, ?_, ?_, ?_, hl⟩
    · unfold tldOf; rw [hcl, h1, e]
    · unfold lgOf; rw [hcl, h2, e]
    · rw [hcl, h3, e]
    · rw [hcl, h4, e]
    · rw [hcl, h5, e]
  · have hcl : (σ.setCl c x).cl (s / 2) = σ.cl (s / 2) := put_other _ _ e
    exact ⟨rfl, fun _ _ => rfl, fun _ => rfl, by unfold tldOf; rw [hcl], by unfold lgOf; rw [hcl], by rw [hcl], by rw [hcl], by rw [hcl], hl⟩
theorem ali_tell {t : Nat} (h : t ≠ s) (e : News) (σ : Net) : Ali σ (σ.tell t e) s := by
  have k := Sm.tell σ t e (s / 2)
  refine ⟨rfl, fun _ _ => rfl, fun _ => rfl, (slc_tell h).told, lg_tell t e σ, ?_, by rw [k.used], by rw [k.fl], left_congr rfl rfl s⟩
  rw [tell_cl]
  split
  · rename_i hc; unfold Cli.tell; split <;> rw [hc]
  · rfl
theorem ali_tells {t : Nat} (h : t ≠ s) : ∀ (l : List News) (σ : Net), Ali σ (σ.tells t l) s
  | [], σ => Ali.refl σ s
  | e :: l, σ => (ali_tell h e σ).trans (ali_tells h l (σ.tell t e))
theorem ali_lose {t : Nat} (h : t ≠ s) (m : Int) (σ : Net) : Ali σ (σ.lose t m) s := by
  have k := Sm.lose σ t m (s / 2)
  refine ⟨rfl, fun _ _ => rfl, fun _ => rfl, ?_, lg_lose_other h m σ, ?_, by rw [k.used], by rw [k.fl], left_congr rfl rfl s⟩
  · unfold tldOf
    show (put σ.cl (t / 2) _ (s / 2)).told (s % 2) = _
    by_cases e : s / 2 = t / 2
    · rw [e, put_same]; unfold Cli.lose; split <;> rfl
    · rw [put_other _ _ e]
  · show (put σ.cl (t / 2) _ (s / 2)).home = _
    by_cases e : s / 2 = t / 2
    · rw [e, put_same]; unfold Cli.lose; split <;> rfl
    · rw [put_other _ _ e]
theorem ali_backs {c b k : Nat} (h : s ≠ 2 * c + k) (σ : Net) : Ali σ (σ.backs c b k) s := by
  unfold Net.backs
  split
  · split
    · exact Ali.refl _ _
    · exact ((ali_lose (fun g => h g.symm) _ σ).trans (ali_tells (fun g => h g.symm) _ _)).trans (ali_know h _ _)
  · exact Ali.refl _ _
theorem ali_comes {c b old k : Nat} (h : s ≠ 2 * c + k) (hb : b < 6) (hn : next σ.par b old < 6) : Ali σ (σ.comes c b old k) s := by
  unfold Net.comes
  dsimp only
  split
  · refine ((ali_setCl σ (c := c) (x := { σ.cl c with age := put (σ.cl c).age k ((σ.cl c).age k + 1) }) (fun _ => ⟨rfl, rfl, rfl, rfl, rfl⟩)).trans (ali_know h _ _)).trans (ali_pushAll (f := .move (2 * c + k) ((σ.cl c).age k + 1) ((σ.cl c).fl k) old b) (mine_move (fun g => h g.symm) _ _ _ _) hb [next σ.par b old] (fun y hy => ?_) _)
    rw [List.mem_singleton.1 hy]; exact hn
  · exact Ali.refl _ _
theorem ali_arrive {c b : Nat} (h : s / 2 ≠ c) (σ : Net) : Ali σ (σ.arrive c b) s := ali_setCl σ (fun e => absurd e h)

variable {i z : Nat} {fl : List Tst} {org : Int → Int → Nat} {L E : List News} {G : Nat → Nat → List News}
theorem Ali.mvs (A : Ali σ τ s) (hm : ∀ x y f, f ∈ σ.q x y → f.about s = true → f.isMv = true) : ∀ x y f, f ∈ τ.q x y → f.about s = true → f.isMv = true := fun x y f hf ha => by
  have h1 : f ∈ (τ.q x y).filter (Fr.mine s) := List.mem_filter.2 ⟨hf, by unfold Fr.mine; rw [ha]; rfl⟩
  rw [A.q] at h1
  exact hm x y f (List.mem_filter.1 h1).1 ha
theorem Wh.ali (W : Wh σ s fl org E i z L) (D : Side σ s fl org E) (A : Ali σ τ s) : Wh τ s fl org E i z L := by
  have hn : τ.n = σ.n := by unfold Net.n; rw [A.par]
  exact ⟨W.ph.same D A.par A.q (fun z => by unfold keepOf; rw [A.kn]) A.told A.home, W.inE, by rw [A.lg, A.left]; exact W.cnt, fun p st => (W.outs p st).same A.par (fun u v => qP_mine A.q _ u v), fun p st => by rw [hn]; exact W.olt p st, A.mvs W.mvs, by rw [A.used]; exact W.used, by rw [A.fl]; exact W.flt⟩

/-- What stands beside it. -/
theorem Wh.sideT (W : Wh σ s fl org E i z L) (C : Core E G σ) (B : Bare σ) (Lv : Live σ) (M : MvWay σ) (hs : s < 8) (S : SlotT s (σ.view s)) : Side σ s fl org E :=
  W.side C B Lv M hs (S.slotS (Lv.view s hs) W.used (fun _ _ _ hf => (mem_view.1 hf).2) (fun x y f hf => W.mvs x y f (mem_view.1 hf).1 (mem_view.1 hf).2))
/-- Its client is away: no frame is about it. -/
theorem Side.away (D : Side σ s fl org E) (hh : (σ.cl (s / 2)).here = none) : (∀ x y f, f ∈ σ.q x y → f.about s = false) ∧ ∃ h, (σ.cl (s / 2)).home = some h := by
  have huv : (σ.view s).used = true := D.used
  have hhv : (σ.view s).here = none := hh
  cases (D.live.view s D.hs).ph with
  | off hu => rw [huv] at hu; cases hu
  | moving _ _ _ _ _ _ he => rw [hhv] at he; cases he
  | resting _ _ _ _ _ _ _ he => rw [hhv] at he; cases he
  | on h _ hho _ _ hno =>
    refine ⟨fun x y f hf => ?_, h, hho⟩
    cases hab : f.about s with
    | false => rfl
    | true =>
      have := D.mem_view hf hab
      rw [hno x y] at this; cases this

/-- Its own slot, at home. -/
theorem Wh.back (W : Wh σ s fl org E i z L) (D : Side σ s fl org E) {c b k : Nat} (hs2 : s = 2 * c + k) (hk : k < 2) (hh : (σ.cl c).here = none) (hho : (σ.cl c).home = some b) : Wh (((σ.backs c b 0).backs c b 1).arrive c b) s fl org E i z L := by
  have hc1 : s / 2 = c := by omega
  have hc2 : s % 2 = k := by omega
  obtain ⟨hno, _⟩ := D.away (by rw [hc1]; exact hh)
  have hhs : (σ.cl (s / 2)).home = some b := by rw [hc1]; exact hho
  obtain ⟨hbl, hled, _⟩ := D.on hhs hno
  obtain ⟨f, hf, _, _⟩ := hled b hbl
  have hb6 : b < 6 := Nat.lt_of_lt_of_le hbl (size_le D.live.good.tree)
  have hus : (σ.cl c).used k = true := by have := D.used; rw [hc1, hc2] at this; exact this
  obtain ⟨τ, hτ⟩ : ∃ τ, τ = ((σ.backs c b 0).backs c b 1).arrive c b := ⟨_, rfl⟩
  rw [← hτ]
  have hown : ∀ ρ : Net, (ρ.cl c).used k = true → ρ.kn b s = some f → (ρ.backs c b k).q = ρ.q ∧ (ρ.backs c b k).par = ρ.par ∧ (ρ.backs c b k).kn b s = some { f with kept := [], more := 0 } ∧ (∀ z, z ≠ b → (ρ.backs c b k).kn z s = ρ.kn z s) ∧ tldOf (ρ.backs c b k) s = tellsL (tldOf ρ s) f.kept ∧ lgOf (ρ.backs c b k) s = lgOf ρ s + f.more.toNat ∧ (ρ.backs c b k).left s + f.more.toNat = ρ.left s := fun ρ hu hkn => by
    have h1 : ρ.backs c b k = ((ρ.lose s f.more).tells s f.kept).know b s (some { f with kept := [], more := 0 }) := by
      unfold Net.backs
      rw [if_pos hu, ← hs2, hkn]
    have k0 := lose_keep s f.more ρ
    have k1 := tells_keep s f.kept (ρ.lose s f.more)
    have k2 := backs_keeps (σ := ρ) c b k
    refine ⟨k2.2.1, k2.1, ?_, fun z hz => ?_, ?_, ?_, left_backs hs2 hb6 hu hkn⟩
    · rw [h1]; exact put2_same _ _ _ _
    · rw [h1]
      show put2 _ b s _ z s = _
      rw [put2_other _ _ (fun g => hz g.1), k1.1, k0.1]
    · rw [h1]
      show tldOf ((ρ.lose s f.more).tells s f.kept) s = _
      rw [k1.2.2.2.1, k0.2.2.2.1]
    · rw [h1]
      exact (lg_of rfl).trans ((lg_tells s _ _).trans (lg_lose f.more ρ))
  have hfin : τ.q = σ.q ∧ τ.par = σ.par ∧ τ.kn b s = some { f with kept := [], more := 0 } ∧ (∀ z, z ≠ b → τ.kn z s = σ.kn z s) ∧ tldOf τ s = tellsL (tldOf σ s) f.kept ∧ lgOf τ s = lgOf σ s + f.more.toNat ∧ τ.left s + f.more.toNat = σ.left s := by
    obtain ⟨ρ, hρ⟩ : ∃ ρ, ρ = (σ.backs c b 0).backs c b 1 := ⟨_, rfl⟩
    have hρf : ρ.q = σ.q ∧ ρ.par = σ.par ∧ ρ.kn b s = some { f with kept := [], more := 0 } ∧ (∀ z, z ≠ b → ρ.kn z s = σ.kn z s) ∧ tldOf ρ s = tellsL (tldOf σ s) f.kept ∧ lgOf ρ s = lgOf σ s + f.more.toNat ∧ ρ.left s + f.more.toNat = σ.left s := by
      rcases (by omega : k = 0 ∨ k = 1) with rfl | rfl
      · obtain ⟨h1, h2, h3, h4, h5, h6, h7⟩ := hown σ hus hf
        have A := ali_backs (s := s) (c := c) (b := b) (k := 1) (by omega) (σ.backs c b 0)
        rw [← hρ] at A
        refine ⟨?_, A.par.trans h2, (A.kn b).trans h3, fun z hz => (A.kn z).trans (h4 z hz), A.told.trans h5, A.lg.trans h6, by rw [A.left]; exact h7⟩
        rw [hρ, (backs_keeps c b 1).2.1]; exact h1
      · have A := ali_backs (s := s) (c := c) (b := b) (k := 0) (by omega) σ
        obtain ⟨h1, h2, h3, h4, h5, h6, h7⟩ := hown (σ.backs c b 0) (by have := A.used; rw [hc1, hc2] at this; rw [this]; exact hus) ((A.kn b).trans hf)
        rw [← hρ] at h1 h2 h3 h4 h5 h6 h7
        refine ⟨?_, h2.trans A.par, h3, fun z hz => (h4 z hz).trans (A.kn z), by rw [h5, A.told], by rw [h6, A.lg], by rw [h7, A.left]⟩
        rw [h1, (backs_keeps c b 0).2.1]
    have hcl : τ.cl (s / 2) = { ρ.cl c with here := some b, home := some b, stays := (ρ.cl c).stays + 1 } := by rw [hτ, ← hρ, hc1]; simp [Net.arrive, Net.setCl]
    obtain ⟨h1, h2, h3, h4, h5, h6, h7⟩ := hρf
    have e1 : τ.q = ρ.q := by rw [hτ, ← hρ]; rfl
    have e2 : τ.par = ρ.par := by rw [hτ, ← hρ]; rfl
    have e3 : τ.kn = ρ.kn := by rw [hτ, ← hρ]; rfl
    refine ⟨e1.trans h1, e2.trans h2, by rw [e3]; exact h3, fun z hz => by rw [e3]; exact h4 z hz, ?_, ?_, ?_⟩
    · rw [← h5]; unfold tldOf; rw [hcl, hc1]
    · rw [← h6]; unfold lgOf; rw [hcl, hc1]
    · rw [left_congr e3 e1 s]; exact h7
  have hsm : Sm σ ((σ.backs c b 0).backs c b 1) := (Sm.backs σ c b 0).trans (Sm.backs _ c b 1)
  have hcl : τ.cl (s / 2) = { ((σ.backs c b 0).backs c b 1).cl c with here := some b, home := some b, stays := (((σ.backs c b 0).backs c b 1).cl c).stays + 1 } := by rw [hτ, hc1]; simp [Net.arrive, Net.setCl]
  obtain ⟨h1, h2, h3, h4, h5, h6, h7⟩ := hfin
  have hn : τ.n = σ.n := by unfold Net.n; rw [h2]
  refine ⟨W.ph.back D hno hhs h1 h2 (by rw [h5]; unfold keepOf; rw [hf]) (by unfold keepOf; rw [h3]) (fun z hz => by unfold keepOf; rw [h4 z hz]) (by rw [hcl]), W.inE, ?_, fun p st => (W.outs p st).same h2 (fun u v => by unfold qP; rw [h1]), fun p st => by rw [hn]; exact W.olt p st, fun x y g hg => by rw [h1] at hg; exact W.mvs x y g hg, ?_, ?_⟩
  · have := W.cnt
    rw [h6]; omega
  · rw [hcl]
    show (((σ.backs c b 0).backs c b 1).cl c).used (s % 2) = true
    rw [(hsm c).used, hc2]; exact hus
  · rw [hcl]
    show (((σ.backs c b 0).backs c b 1).cl c).fl (s % 2) = fl
    have := W.flt
    rw [(hsm c).fl, ← this, hc1]

/-- Its own slot, elsewhere. -/
theorem Wh.come (W : Wh σ s fl org E i z L) (D : Side σ s fl org E) (hinc : E.Pairwise fun o e => o.ev.pub = e.ev.pub → o.ev.num < e.ev.num) {c b old k : Nat} (hs2 : s = 2 * c + k) (hk : k < 2) (hh : (σ.cl c).here = none) (hho : (σ.cl c).home = some old) (hb : b < σ.n) (hne : b ≠ old) : Wh (((σ.comes c b old 0).comes c b old 1).arrive c b) s fl org E i z L := by
  have hc1 : s / 2 = c := by omega
  have hc2 : s % 2 = k := by omega
  have T := D.live.good.tree
  obtain ⟨hno, _⟩ := D.away (by rw [hc1]; exact hh)
  have hhs : (σ.cl (s / 2)).home = some old := by rw [hc1]; exact hho
  obtain ⟨hol, hled, _⟩ := D.on hhs hno
  obtain ⟨f, hf, _, hfw⟩ := hled b hb
  have hst := next_step T hb hol hne
  have hb6 : b < 6 := Nat.lt_of_lt_of_le hb (size_le T)
  have hn6 : next σ.par b old < 6 := Nat.lt_of_lt_of_le (near_lt T hst.1).2 (size_le T)
  have hkp := (D.live.kept b s f hf).2 (by rw [hfw]; simp [wayTo, hne])
  have hus : (σ.cl c).used k = true := by have := D.used; rw [hc1, hc2] at this; exact this
  have hfl : (σ.cl c).fl k = fl := by have := D.flt; rw [hc1, hc2] at this; exact this
  obtain ⟨y, hy⟩ : ∃ y, y = next σ.par b old := ⟨_, rfl⟩
  obtain ⟨τ, hτ⟩ : ∃ τ, τ = ((σ.comes c b old 0).comes c b old 1).arrive c b := ⟨_, rfl⟩
  rw [← hτ]
  -- what a coming slot does
  have hown : ∀ ρ : Net, ρ.par = σ.par → (ρ.cl c).used k = true → (ρ.cl c).fl k = fl → moreLen (ρ.kn b s) = 0 → ∃ age, (ρ.comes c b old k).q b y = ρ.q b y ++ [.move s age fl old b] ∧ (∀ u v, evs ((ρ.comes c b old k).q u v) = evs (ρ.q u v)) ∧ (∀ u v g, g ∈ (ρ.comes c b old k).q u v → g ∈ ρ.q u v ∨ g.isMv = true) ∧ (∀ w, w ≠ b → (ρ.comes c b old k).kn w s = ρ.kn w s) ∧ keepOf (ρ.comes c b old k) s b = [] ∧ tldOf (ρ.comes c b old k) s = tldOf ρ s ∧ lgOf (ρ.comes c b old k) s = lgOf ρ s ∧ (ρ.comes c b old k).left s = ρ.left s := fun ρ hp hu hf2 hm => by
    refine ⟨(ρ.cl c).age k + 1, ?_⟩
    have h1 : ρ.comes c b old k = ((ρ.setCl c { ρ.cl c with age := put (ρ.cl c).age k ((ρ.cl c).age k + 1) }).know b s (some ⟨(ρ.cl c).age k + 1, fl, none, [], 0, true⟩)).push b y (.move s ((ρ.cl c).age k + 1) fl old b) := by
      unfold Net.comes
      simp only [hu, if_true, hf2, ← hs2, hp, ← hy]
    have A := left_comes (σ := ρ) (old := old) hs2 hb6 (by rw [hp]; exact hn6) hm
    rw [h1] at A ⊢
    have hcl : ∀ d, (((ρ.setCl c { ρ.cl c with age := put (ρ.cl c).age k ((ρ.cl c).age k + 1) }).know b s (some ⟨(ρ.cl c).age k + 1, fl, none, [], 0, true⟩)).push b y (.move s ((ρ.cl c).age k + 1) fl old b)).cl d = put ρ.cl c { ρ.cl c with age := put (ρ.cl c).age k ((ρ.cl c).age k + 1) } d := fun _ => rfl
    refine ⟨put2_same _ _ _ _, fun u v => evs_push rfl _ u v, fun u v g hg => ?_, fun w hw => ?_, ?_, ?_, ?_, A⟩
    · rcases mem_push.1 hg with hg | ⟨_, _, rfl⟩
      · exact Or.inl hg
      · exact Or.inr rfl
    · exact put2_other _ _ (fun g => hw g.1)
    · unfold keepOf
      have : (((ρ.setCl c { ρ.cl c with age := put (ρ.cl c).age k ((ρ.cl c).age k + 1) }).know b s (some ⟨(ρ.cl c).age k + 1, fl, none, [], 0, true⟩)).push b y (.move s ((ρ.cl c).age k + 1) fl old b)).kn b s = some ⟨(ρ.cl c).age k + 1, fl, none, [], 0, true⟩ := put2_same _ _ _ _
      rw [this]
    · unfold tldOf; rw [hcl, hc1, put_same]
    · unfold lgOf; rw [hcl, hc1, put_same]
  have hoth : ∀ (ρ : Net) (k' : Nat), k' < 2 → k' ≠ k → ρ.par = σ.par → Ali ρ (ρ.comes c b old k') s ∧ (∀ u v, evs ((ρ.comes c b old k').q u v) = evs (ρ.q u v)) ∧ (∀ u v g, g ∈ (ρ.comes c b old k').q u v → g ∈ ρ.q u v ∨ g.isMv = true) ∧ ∃ l, (ρ.comes c b old k').q b y = ρ.q b y ++ l := fun ρ k' hk' hkk hp => by
    have A := ali_comes (σ := ρ) (s := s) (c := c) (b := b) (old := old) (k := k') (by omega) hb6 (by rw [hp]; exact hn6)
    refine ⟨A, ?_⟩
    unfold Net.comes
    dsimp only
    split
    · refine ⟨fun u v => evs_push rfl _ u v, fun u v g hg => ?_, ?_⟩
      · rcases mem_push.1 hg with hg | ⟨_, _, rfl⟩
        · exact Or.inl hg
        · exact Or.inr rfl
      · refine ⟨[.move (2 * c + k') ((ρ.cl c).age k' + 1) ((ρ.cl c).fl k') old b], ?_⟩
        rw [hp, ← hy]
        exact put2_same _ _ _ _
    · exact ⟨fun _ _ => rfl, fun _ _ _ hg => Or.inl hg, [], by rw [List.append_nil]⟩
  obtain ⟨ρ, hρ⟩ : ∃ ρ, ρ = (σ.comes c b old 0).comes c b old 1 := ⟨_, rfl⟩
  have hm0 : moreLen (σ.kn b s) = 0 := by rw [hf]; show f.more.toNat = 0; rw [hkp.2.1]; rfl
  have hfin : ∃ age l1 l2, ρ.q b y = l1 ++ .move s age fl old b :: l2 ∧ evs l1 = evs (σ.q b y) ∧ (∀ u v, evs (ρ.q u v) = evs (σ.q u v)) ∧ (∀ u v g, g ∈ ρ.q u v → g ∈ σ.q u v ∨ g.isMv = true) ∧ (∀ w, w ≠ b → ρ.kn w s = σ.kn w s) ∧ keepOf ρ s b = [] ∧ tldOf ρ s = tldOf σ s ∧ lgOf ρ s = lgOf σ s ∧ ρ.left s = σ.left s := by
    rcases (by omega : k = 0 ∨ k = 1) with rfl | rfl
    · obtain ⟨age, h1, h2, h3, h4, h5, h6, h7, h8⟩ := hown σ rfl hus hfl hm0
      obtain ⟨A, g1, g2, l, g3⟩ := hoth (σ.comes c b old 0) 1 (by omega) (by omega) (comes_keeps c b old 0).1
      rw [← hρ] at A g1 g2 g3
      refine ⟨age, σ.q b y, l, ?_, rfl, fun u v => (g1 u v).trans (h2 u v), fun u v g hg => ?_, fun w hw => (A.kn w).trans (h4 w hw), ?_, A.told.trans h6, A.lg.trans h7, A.left.trans h8⟩
      · rw [g3, h1, List.append_assoc]; rfl
      · rcases g2 u v g hg with hg | hg
        · exact h3 u v g hg
        · exact Or.inr hg
      · unfold keepOf at h5 ⊢; rw [A.kn]; exact h5
    · obtain ⟨A, g1, g2, l, g3⟩ := hoth σ 0 (by omega) (by omega) rfl
      obtain ⟨age, h1, h2, h3, h4, h5, h6, h7, h8⟩ := hown (σ.comes c b old 0) (comes_keeps c b old 0).1 (by rw [((comes_keeps c b old 0).2.2 c).2.2.1]; exact hus) (by rw [((comes_keeps c b old 0).2.2 c).2.2.2]; exact hfl) (by rw [A.kn]; exact hm0)
      rw [← hρ] at h1 h2 h3 h4 h5 h6 h7 h8
      refine ⟨age, (σ.comes c b old 0).q b y, [], h1, g1 b y, fun u v => (h2 u v).trans (g1 u v), fun u v g hg => ?_, fun w hw => (h4 w hw).trans (A.kn w), h5, h6.trans A.told, h7.trans A.lg, h8.trans A.left⟩
      rcases h3 u v g hg with hg | hg
      · exact g2 u v g hg
      · exact Or.inr hg
  obtain ⟨age, l1, l2, h1, h1e, h2, h3, h4, h5, h6, h7, h8⟩ := hfin
  have e1 : τ.q = ρ.q := by rw [hτ, ← hρ]; rfl
  have e2 : τ.par = σ.par := by rw [hτ, ← hρ, hρ]; exact (comes_keeps c b old 1).1.trans (comes_keeps c b old 0).1
  have e3 : τ.kn = ρ.kn := by rw [hτ, ← hρ]; rfl
  have hcl : τ.cl (s / 2) = { ρ.cl c with here := some b, home := some b, stays := (ρ.cl c).stays + 1 } := by rw [hτ, ← hρ, hc1]; simp [Net.arrive, Net.setCl]
  have hn : τ.n = σ.n := by unfold Net.n; rw [e2]
  have hqP : ∀ P u v, qP τ P u v = qP σ P u v := fun P u v => by unfold qP; rw [e1, h2]
  have hko : ∀ w, keepOf τ s w = keepOf σ s w := fun w => by
    by_cases e : w = b
    · subst e
      have : keepOf τ s w = keepOf ρ s w := by unfold keepOf; rw [e3]
      rw [this, h5]; unfold keepOf; rw [hf]; exact hkp.1.symm
    · unfold keepOf; rw [e3, h4 w e]
  have htl : tldOf τ s = tldOf σ s := by rw [← h6]; unfold tldOf; rw [hcl, hc1]
  have hsm : Sm σ ρ := by rw [hρ]; exact (Sm.comes σ c b old 0).trans (Sm.comes _ c b old 1)
  refine ⟨W.ph.comes (τ := τ) D hno hhs hb hne (since_old hinc) (age := age) (l1 := l1) (l2 := l2) (by rw [e1, ← hy]; exact h1) (by rw [← hy]; exact h1e) hqP hko e2 htl, W.inE, ?_, fun p st => (W.outs p st).same e2 (hqP _), fun p st => by rw [hn]; exact W.olt p st, fun x y g hg hab => ?_, ?_, ?_⟩
  · have e4 : lgOf τ s = lgOf σ s := by rw [← h7]; unfold lgOf; rw [hcl, hc1]
    rw [e4, left_congr e3 e1 s, h8]; exact W.cnt
  · rw [e1] at hg
    rcases h3 x y g hg with hg | hg
    · exact W.mvs x y g hg hab
    · exact hg
  · rw [hcl]
    show (ρ.cl c).used (s % 2) = true
    rw [(hsm c).used, hc2]; exact hus
  · rw [hcl]
    show (ρ.cl c).fl (s % 2) = fl
    have := W.flt
    rw [(hsm c).fl, ← this, hc1]

/-- A CLIENT COMES, whichever. -/
theorem Wh.attachN (W : Wh σ s fl org E i z L) (D : Side σ s fl org E) (hinc : E.Pairwise fun o e => o.ev.pub = e.ev.pub → o.ev.num < e.ev.num) {c b : Nat} (hc : c < 4) (hh : (σ.cl c).here = none) (hb : b < σ.n) : Wh (σ.attachN c b) s fl org E i z L := by
  have T := D.live.good.tree
  have hb6 : b < 6 := Nat.lt_of_lt_of_le hb (size_le T)
  by_cases e : s / 2 = c
  · obtain ⟨_, h, hho⟩ := D.away (by rw [e]; exact hh)
    rw [e] at hho
    have hs2 : s = 2 * c + s % 2 := by omega
    unfold Net.attachN
    rw [hho]
    simp only
    split
    · rename_i e2; subst e2; exact W.back D hs2 (by omega) hh hho
    · rename_i e2; exact W.come D hinc hs2 (by omega) hh hho hb (fun g => e2 g.symm)
  · refine W.ali D ?_
    have hbk : Ali σ (((σ.backs c b 0).backs c b 1).arrive c b) s := ((ali_backs (by omega) σ).trans (ali_backs (by omega) _)).trans (ali_arrive e _)
    unfold Net.attachN
    split
    · exact hbk
    · rename_i old hho
      split
      · exact hbk
      · rename_i e2
        have hol : old < σ.n := (D.live.good.clis c hc).home old hho
        have hst := next_step T hb hol (fun g => e2 g.symm)
        have hn6 : next σ.par b old < 6 := Nat.lt_of_lt_of_le (near_lt T hst.1).2 (size_le T)
        exact ((ali_comes (by omega) hb6 hn6).trans (ali_comes (by omega) hb6 (by rw [(comes_keeps c b old 0).1]; exact hn6))).trans (ali_arrive e _)
end

/-- Each stay of a publisher has its broker; events go away from there. -/
structure Orgs (E : List News) (σ : Net) (org : Int → Int → Nat) : Prop where
  olt : ∀ p st, org p st < σ.n
  outs : ∀ p st, Outs σ (isStay p st []) (org p st)
  at_ : ∀ c b : Nat, c < 4 → (σ.cl c).here = some b → org c (σ.cl c).stays = b
  old : ∀ e, e ∈ E → ∀ c : Nat, c < 4 → e.ev.pub = c → e.stay ≤ (σ.cl c).stays

theorem isStay_any {p st : Int} {fl : List Tst} {e : News} (h : isStay p st fl e = true) : isStay p st [] e = true := by
  simp only [isStay, Bool.and_eq_true] at h ⊢
  exact ⟨h.1, rfl⟩
theorem isStay_pub {p st : Int} {fl : List Tst} {e : News} (h : isStay p st fl e = true) : e.ev.pub = p ∧ e.stay = st := by
  simp only [isStay, Bool.and_eq_true, decide_eq_true_eq] at h
  exact h.1

section
variable {σ τ : Net} {E : List News} {org org' : Int → Int → Nat}
theorem Orgs.outsF (O : Orgs E σ org) (fl : List Tst) (p st : Int) : Outs σ (isStay p st fl) (org p st) := fun w v e he => by
  obtain ⟨h1, h2⟩ := List.mem_filter.1 he
  exact O.outs p st w v e (List.mem_filter.2 ⟨h1, isStay_any h2⟩)
theorem Orgs.same (O : Orgs E σ org) (hp : τ.par = σ.par) (hev : ∀ u v, evs (τ.q u v) = evs (σ.q u v)) (hh : ∀ c b : Nat, c < 4 → (τ.cl c).here = some b → (σ.cl c).here = some b) (hs : ∀ c, c < 4 → (τ.cl c).stays = (σ.cl c).stays) : Orgs E τ org := by
  have hn : τ.n = σ.n := by unfold Net.n; rw [hp]
  exact ⟨fun p st => by rw [hn]; exact O.olt p st, fun p st => (O.outs p st).same hp (fun u v => by unfold qP; rw [hev]), fun c b hc h => by rw [hs c hc]; exact O.at_ c b hc (hh c b hc h), fun e he c hc hp => by rw [hs c hc]; exact O.old e he c hc hp⟩
theorem orgs_new {par : List Nat} : Orgs [] (newNet par) (fun _ _ => 0) :=
  ⟨fun _ _ => Nat.succ_pos _, fun _ _ _ _ e he => (by cases he), fun c b _ h => (by cases h), fun e he => (by cases he)⟩

theorem Orgs.del (O : Orgs E σ org) (G : Good σ) (x y : Int) : Orgs E (σ.del x y) org := by
  have hsm := Sm.del σ x y
  unfold Net.del at hsm ⊢
  split
  · rename_i hd
    rw [if_pos hd] at hsm
    cases hq : σ.q x.toNat y.toNat with
    | nil => exact O
    | cons f r =>
      rw [hq] at hsm
      have hsm : Sm σ (Net.handle { σ with q := put2 σ.q x.toNat y.toNat r } y.toNat (some x.toNat) f) := hsm
      show Orgs E (Net.handle { σ with q := put2 σ.q x.toNat y.toNat r } y.toNat (some x.toNat) f) org
      have hpar : (Net.handle { σ with q := put2 σ.q x.toNat y.toNat r } y.toNat (some x.toNat) f).par = σ.par := handle_par _ _ _ _
      have hn : (Net.handle { σ with q := put2 σ.q x.toNat y.toNat r } y.toNat (some x.toNat) f).n = σ.n := by unfold Net.n; rw [hpar]
      refine ⟨fun p st => by rw [hn]; exact O.olt p st, fun p st => ?_, fun c b hc h => by rw [(hsm c).stays]; rw [(hsm c).here] at h; exact O.at_ c b hc h, fun e he c hc hp => by rw [(hsm c).stays]; exact O.old e he c hc hp⟩
      cases hnw : f.news with
      | none => exact (O.outs p st).same hpar (fun u v => by unfold qP; rw [evs_handle hq hnw])
      | some e =>
        have hfe : f = .event e := by
          cases f with
          | event e' => cases hnw; rfl
          | sub => cases hnw
          | unsub => cases hnw
          | move => cases hnw
          | rest => cases hnw
        subst hfe
        exact (O.outs p st).event G (O.olt p st) hq
  · exact O

theorem Orgs.pub (O : Orgs E σ org) (G : Good σ) {c : Nat} (hc : c < 4) (hE : σ.pubE c = 0) (f0 f1 f2 : Int) : Orgs (E ++ [σ.pubEv c f0 f1 f2]) (σ.pub c f0 f1 f2) org := by
  have hcl := fun d => pub_cl hE f0 f1 f2 d
  obtain ⟨b, hb, he⟩ := pub_eq hE f0 f1 f2
  have hst : ∀ d, ((σ.pub c f0 f1 f2).cl d).stays = (σ.cl d).stays ∧ ((σ.pub c f0 f1 f2).cl d).here = (σ.cl d).here := fun d => by
    by_cases e : d = c
    · exact ⟨((hcl d).2 e).stays.trans (by rw [e]), ((hcl d).2 e).here.trans (by rw [e])⟩
    · exact ⟨((hcl d).1 e).stays, ((hcl d).1 e).here⟩
  have hbl : b < σ.n := (G.clis c hc).here b hb
  have C := G.clis c hc
  have G1 : Good (σ.setCl c { σ.cl c with many := (σ.cl c).many + 1 }) := G.setCl ⟨C.here, C.home, C.fil⟩
  refine ⟨fun p st => ?_, fun p st => ?_, fun d b' hd h => by rw [(hst d).1]; rw [(hst d).2] at h; exact O.at_ d b' hd h, fun e hee d hd hp => ?_⟩
  · have : (σ.pub c f0 f1 f2).n = σ.n := by rw [he]; unfold Net.n; rw [(born_event b).par]; rfl
    rw [this]; exact O.olt p st
  · rw [he]
    refine Outs.pub (σ := σ.setCl c { σ.cl c with many := (σ.cl c).many + 1 }) (O.outs p st) G1 (O.olt p st) hbl (fun hp => ?_)
    obtain ⟨h1, h2⟩ := isStay_pub hp
    have e1 : p = (c : Int) := by rw [← h1]; simp [Net.pubEv]
    have e2 : st = (σ.cl c).stays := by rw [← h2]; simp [Net.pubEv]
    rw [e1, e2]; exact O.at_ c b hc hb
  · rw [(hst d).1]
    rcases List.mem_append.1 hee with g | g
    · exact O.old e g d hd hp
    · rw [List.mem_singleton.1 g] at hp ⊢
      have hp : ((c : Nat) : Int) = d := by simpa [Net.pubEv] using hp
      have : c = d := by omega
      subst this
      simp [Net.pubEv]

theorem evs_backs (c b k u v : Nat) : evs ((σ.backs c b k).q u v) = evs (σ.q u v) := by rw [(backs_keeps c b k).2.1]
theorem evs_comes (c b old k u v : Nat) : evs ((σ.comes c b old k).q u v) = evs (σ.q u v) := by
  unfold Net.comes
  dsimp only
  split
  · exact evs_push rfl _ u v
  · rfl
theorem evs_attachN (c b u v : Nat) : evs ((σ.attachN c b).q u v) = evs (σ.q u v) := by
  unfold Net.attachN
  split
  · exact (evs_backs c b 1 u v).trans (evs_backs c b 0 u v)
  · split
    · exact (evs_backs c b 1 u v).trans (evs_backs c b 0 u v)
    · exact (evs_comes c b _ 1 u v).trans (evs_comes c b _ 0 u v)
theorem attachN_par (c b : Nat) : (σ.attachN c b).par = σ.par := by
  unfold Net.attachN
  split
  · exact (backs_keeps c b 1).1.trans (backs_keeps c b 0).1
  · split
    · exact (backs_keeps c b 1).1.trans (backs_keeps c b 0).1
    · exact (comes_keeps c b _ 1).1.trans (comes_keeps c b _ 0).1

/-- A new stay. -/
def orgNew (org : Int → Int → Nat) (c : Nat) (st : Int) (b : Nat) : Int → Int → Nat := fun p s => if p = (c : Int) ∧ s = st then b else org p s
theorem Orgs.attach (O : Orgs E σ org) (P : Pubs E σ) {c b : Nat} (hE : σ.attachE c b = 0) : Orgs E (σ.attach c b) (orgNew org c ((σ.cl c).stays + 1) b) := by
  have hz := attachE_zero hE
  simp only [toNat_nat] at hz
  have hcl := fun d => attach_cl hE d
  have hA : σ.attach c b = σ.attachN c b := by unfold Net.attach; rw [if_pos hE]; simp only [toNat_nat]
  have hpar : (σ.attach c b).par = σ.par := by rw [hA]; exact attachN_par c b
  have hn : (σ.attach c b).n = σ.n := by unfold Net.n; rw [hpar]
  refine ⟨fun p st => ?_, fun p st => ?_, fun d b' hd h => ?_, fun e he d hd hp => ?_⟩
  · rw [hn]; unfold orgNew; split
    · omega
    · exact O.olt p st
  · by_cases hps : p = (c : Int) ∧ st = (σ.cl c).stays + 1
    · intro w v e he
      obtain ⟨h1, h2⟩ := List.mem_filter.1 he
      rw [hA, evs_attachN] at h1
      obtain ⟨f, hf, hfe⟩ := List.mem_filterMap.1 h1
      obtain ⟨h3, h4⟩ := isStay_pub h2
      have heE : e ∈ E := P.fr w v f hf e (by cases f <;> simp_all [Fr.news, newsIn])
      have := O.old e heE c (by omega) (h3.trans hps.1)
      omega
    · have : orgNew org c ((σ.cl c).stays + 1) b p st = org p st := by unfold orgNew; rw [if_neg hps]
      rw [this]
      exact (O.outs p st).same hpar (fun u v => by unfold qP; rw [hA, evs_attachN])
  · unfold orgNew
    by_cases e : d = c
    · subst e
      have h1 := ((hcl d).2 rfl).here
      have h2 := ((hcl d).2 rfl).stays
      rw [h1] at h
      have h : some b = some b' := h
      cases h
      rw [if_pos ⟨rfl, h2⟩]
    · rw [if_neg (fun g => e (by omega)), ((hcl d).1 e).stays]
      rw [((hcl d).1 e).here] at h
      exact O.at_ d b' hd h
  · by_cases e : d = c
    · subst e
      rw [((hcl d).2 rfl).stays]
      have := O.old _ he d hd hp
      show _ ≤ (σ.cl d).stays + 1
      omega
    · rw [((hcl d).1 e).stays]; exact O.old _ he d hd hp
/-- Nothing of a new stay was published. -/
theorem Orgs.fresh (O : Orgs E σ org) {c : Nat} (hc : c < 4) (i : Nat) (fl : List Tst) (b : Nat) : ∀ p st, rqSince E i fl p st ≠ [] → orgNew org c ((σ.cl c).stays + 1) b p st = org p st := fun p st h => by
  unfold orgNew
  by_cases hps : p = (c : Int) ∧ st = (σ.cl c).stays + 1
  · exfalso
    obtain ⟨e, he⟩ := List.exists_mem_of_ne_nil _ h
    obtain ⟨h1, h2⟩ := List.mem_filter.1 he
    obtain ⟨h3, h4⟩ := isStay_pub h2
    have := O.old e (List.mem_of_mem_drop h1) c hc (h3.trans hps.1)
    omega
  · rw [if_neg hps]
theorem Wh.reorg {s i z : Nat} {fl : List Tst} {L : List News} (W : Wh σ s fl org E i z L) (h : ∀ p st, rqSince E i fl p st ≠ [] → org' p st = org p st) (O : Orgs E σ org') : Wh σ s fl org' E i z L :=
  ⟨W.ph.reorg h, W.inE, W.cnt, O.outsF fl, O.olt, W.mvs, W.used, W.flt⟩
end

/-- What is counted as lost, and was not read. -/
def Net.lgl (σ : Net) (s : Nat) : Nat := lgOf σ s + σ.left s

section
variable {σ τ : Net} {s a b : Nat} {r : List Fr}
theorem Ali.lgl (A : Ali σ τ s) : τ.lgl s = σ.lgl s := by unfold Net.lgl; rw [A.lg, A.left]
theorem lgl_know (σ : Net) {b : Nat} (hb : b < 6) (s : Nat) (o : Option Fact) : (σ.know b s o).lgl s + moreLen (σ.kn b s) = σ.lgl s + moreLen o := by
  have := left_know σ hb s o
  have e : lgOf (σ.know b s o) s = lgOf σ s := rfl
  unfold Net.lgl; omega
theorem lgl_push (σ : Net) (s : Nat) {x y : Nat} (hx : x < 6) (hy : y < 6) (f : Fr) : (σ.push x y f).lgl s = σ.lgl s + restMore s f := by
  have := left_push σ s hx hy f
  have e : lgOf (σ.push x y f) s = lgOf σ s := rfl
  unfold Net.lgl; omega
theorem lgl_pushAll (s : Nat) {f : Fr} (hf : restMore s f = 0) {x : Nat} (hx : x < 6) (ys : List Nat) (σ : Net) (hy : ∀ y, y ∈ ys → y < 6) : (σ.pushAll x ys f).lgl s = σ.lgl s := by
  unfold Net.lgl; rw [lg_pushAll, left_pushAll s hf x ys σ hy hx]
theorem lgl_pop (σ : Net) (s : Nat) {x y : Nat} (hx : x < 6) (hy : y < 6) {f : Fr} {r : List Fr} (hq : σ.q x y = f :: r) : Net.lgl { σ with q := put2 σ.q x y r } s + restMore s f = σ.lgl s := by
  have := left_pop σ s hx hy hq
  have e : lgOf { σ with q := put2 σ.q x y r } s = lgOf σ s := rfl
  unfold Net.lgl; omega
theorem lgl_tells (l : List News) (σ : Net) : (σ.tells s l).lgl s = σ.lgl s := by
  unfold Net.lgl; rw [lg_tells, left_congr (tells_keep s l σ).1 (tells_keep s l σ).2.1]
theorem lgl_lose (m : Int) (σ : Net) : (σ.lose s m).lgl s = σ.lgl s + m.toNat := by
  have e : (σ.lose s m).left s = σ.left s := left_congr rfl rfl s
  unfold Net.lgl; rw [lg_lose, e]; omega
theorem others_lt6 {σ : Net} (T : Tree σ.par) {x : Nat} {but : Option Nat} : ∀ y, y ∈ σ.others x but → y < 6 := fun y hy => by
  have h1 := (mem_others.1 hy).1
  have h2 : σ.n ≤ 6 := size_le T
  omega
theorem ali_others (G : Good σ) {f : Fr} (hq : σ.q a b = f :: r) (hab : f.about s = false) (hnw : f.news = none) : (Net.handle { σ with q := put2 σ.q a b r } b (some a) f).lgl s = σ.lgl s := by
  have e1 := left_others (s := s) G hq hab hnw
  have e2 : lgOf (Net.handle { σ with q := put2 σ.q a b r } b (some a) f) s = lgOf σ s := by
    cases f with
    | event e => cases hnw
    | sub t age fl' => exact (lg_pushAll _ _ _ _).trans (lg_of (by rw [(learn_keeps { σ with q := put2 σ.q a b r } b t age fl' (some a)).2.2.2]))
    | unsub t age => exact (lg_pushAll _ _ _ _).trans (lg_of (by rw [(forget_keeps { σ with q := put2 σ.q a b r } b t age).2.2.2]))
    | move t age fl' old new =>
      simp only [Net.handle]
      split <;> rfl
    | rest t evs m new =>
      have hts : t ≠ s := fun g => by subst g; simp [Fr.about] at hab
      simp only [Net.handle]
      split
      · rfl
      · split
        · rfl
        · exact (lg_of rfl).trans ((lg_tells t _ _).trans ((lg_tells t _ _).trans (lg_lose_other hts m _)))
  unfold Net.lgl; rw [e1, e2]
theorem good_pop (G : Good σ) {f : Fr} (hq : σ.q a b = f :: r) : Good { σ with q := put2 σ.q a b r } :=
  ⟨G.tree, fun x y g => by
    by_cases k : x = a ∧ y = b
    · rw [k.1, k.2]; exact G.nbr a b (by rw [hq]; simp)
    · exact G.nbr x y (fun k' => g (by show put2 σ.q a b r x y = []; rw [put2_other _ _ k]; exact k')), fun x y g hg => G.frames x y g ((mem_pop hq).2 (Or.inl hg)), G.facts, G.clis⟩
theorem lgl_happens (G : Good σ) (hs : s < 8) {b : Nat} (hb : b < 6) (e : News) (fr : Option Nat) : (σ.happens b e fr).lgl s ≤ σ.lgl s + 1 := by
  have h := left_happens G hs hb e fr
  have e1 := lg_happens (s := s) b e fr σ
  unfold Net.lgl
  by_cases hl : Lost σ (σ.happens b e fr) s b
  · have := h.1 hl; omega
  · have := h.2 hl; omega
/-- A FRAME COUNTS ONE MORE AT MOST. -/
theorem lgl_handle (G : Good σ) (hs : s < 8) {f : Fr} (hq : σ.q a b = f :: r) : (Net.handle { σ with q := put2 σ.q a b r } b (some a) f).lgl s ≤ σ.lgl s + 1 := by
  have T := G.tree
  have hn := G.nbr a b (by rw [hq]; simp)
  have h6 := near_lt6 T hn
  have hpop := lgl_pop σ s h6.1 h6.2 hq
  cases hab : f.about s with
  | false =>
    cases hnw : f.news with
    | none => rw [ali_others G hq hab hnw]; omega
    | some e =>
      have hfe : f = .event e := by
        cases f with
        | event e' => cases hnw; rfl
        | sub => cases hnw
        | unsub => cases hnw
        | move => cases hnw
        | rest => cases hnw
      subst hfe
      have := lgl_happens (s := s) (good_pop G hq) hs h6.2 e (some a)
      show (Net.happens { σ with q := put2 σ.q a b r } b e (some a)).lgl s ≤ _
      omega
  | true =>
    cases f with
    | event => cases hab
    | sub t age fl =>
      have hts : t = s := by simpa [Fr.about] using hab
      subst hts
      have e0 : restMore t (.sub t age fl) = 0 := rfl
      show (Net.pushAll _ _ _ _).lgl t ≤ _
      rw [lgl_pushAll t e0 h6.2 _ _ (others_lt6 (by rw [(learn_keeps _ _ _ _ _ _).1]; exact T))]
      have hle : (Net.learn { σ with q := put2 σ.q a b r } b t age fl (some a)).lgl t ≤ Net.lgl { σ with q := put2 σ.q a b r } t := by
        have hk := lgl_know { σ with q := put2 σ.q a b r } h6.2 t (some ⟨age, fl, some a, [], 0, false⟩)
        have e1 : moreLen (some ⟨age, fl, some a, [], 0, false⟩) = 0 := rfl
        unfold Net.learn
        split
        · omega
        · split
          · omega
          · exact Nat.le_refl _
      omega
    | unsub t age =>
      have hts : t = s := by simpa [Fr.about] using hab
      subst hts
      have e0 : restMore t (.unsub t age) = 0 := rfl
      show (Net.pushAll _ _ _ _).lgl t ≤ _
      rw [lgl_pushAll t e0 h6.2 _ _ (others_lt6 (by rw [(forget_keeps _ _ _ _).1]; exact T))]
      have hle : (Net.forget { σ with q := put2 σ.q a b r } b t age).lgl t ≤ Net.lgl { σ with q := put2 σ.q a b r } t := by
        have hk := lgl_know { σ with q := put2 σ.q a b r } h6.2 t none
        have e1 : moreLen none = 0 := rfl
        unfold Net.forget
        split
        · exact Nat.le_refl _
        · split
          · omega
          · exact Nat.le_refl _
      omega
    | move t age fl old new =>
      have hts : t = s := by simpa [Fr.about] using hab
      subst hts
      have hk := lgl_know { σ with q := put2 σ.q a b r } h6.2 t (some ⟨age, fl, some a, [], 0, false⟩)
      have e1 : moreLen (some ⟨age, fl, some a, [], 0, false⟩) = 0 := rfl
      have e2 : restMore t (.move t age fl old new) = 0 := rfl
      simp only [Net.handle]
      split
      · rw [lgl_push _ t h6.2 h6.1]
        have hk : (Net.know { σ with q := put2 σ.q a b r } b t (some ⟨age, fl, some a, [], 0, false⟩)).lgl t + moreLen (σ.kn b t) = Net.lgl { σ with q := put2 σ.q a b r } t + moreLen (some ⟨age, fl, some a, [], 0, false⟩) := hk
        cases hkn : σ.kn b t with
        | none =>
          have e3 : restMore t (.rest t [] 0 new) = 0 := by simp [restMore]
          show _ + restMore t (.rest t [] 0 new) ≤ _
          omega
        | some f =>
          rw [hkn] at hk
          have e4 : moreLen (some f) = f.more.toNat := rfl
          have e3 : restMore t (.rest t f.kept f.more new) = f.more.toNat := by simp [restMore]
          show _ + restMore t (.rest t f.kept f.more new) ≤ _
          omega
      · rename_i hbo
        have hol : old < σ.n := by
          have := G.frames a b _ (by rw [hq]; exact List.mem_cons_self ..)
          exact this.2.2.1
        have hn6 : next σ.par b old < 6 := Nat.lt_of_lt_of_le (near_lt T (next_step T (near_lt T hn).2 hol hbo).1).2 (size_le T)
        rw [lgl_push _ t h6.2 hn6]
        omega
    | rest t evs m new =>
      have hts : t = s := by simpa [Fr.about] using hab
      subst hts
      have e0 : restMore t (.rest t evs m new) = m.toNat := by simp [restMore]
      simp only [Net.handle]
      split
      · rename_i hbn
        have hnl : new < σ.n := by
          have := G.frames a b _ (by rw [hq]; exact List.mem_cons_self ..)
          exact this.2.1
        have hn6 : next σ.par b new < 6 := Nat.lt_of_lt_of_le (near_lt T (next_step T (near_lt T hn).2 hnl hbn).1).2 (size_le T)
        rw [lgl_push _ t h6.2 hn6]
        omega
      · split
        · omega
        · rename_i g hg
          have hk := lgl_know (((Net.lose { σ with q := put2 σ.q a b r } t m).tells t evs).tells t g.kept) h6.2 t (some { g with kept := [], waits := false })
          rw [lgl_tells, lgl_tells, lgl_lose] at hk
          have e1 : moreLen ((((Net.lose { σ with q := put2 σ.q a b r } t m).tells t evs).tells t g.kept).kn b t) = g.more.toNat := by
            rw [(tells_keep t _ _).1, (tells_keep t _ _).1]
            have : (Net.lose { σ with q := put2 σ.q a b r } t m).kn b t = some g := hg
            rw [this]; rfl
          have e2 : moreLen (some { g with kept := [], waits := false }) = g.more.toNat := rfl
          omega

/-! ### the calls -/
theorem lgl_backs {c b k : Nat} (hb : b < 6) (σ : Net) (s : Nat) : (σ.backs c b k).lgl s ≤ σ.lgl s := by
  by_cases e : s = 2 * c + k
  · subst e
    unfold Net.backs
    split
    · split
      · exact Nat.le_refl _
      · rename_i f hf
        have hk := lgl_know ((σ.lose (2 * c + k) f.more).tells (2 * c + k) f.kept) hb (2 * c + k) (some { f with kept := [], more := 0 })
        rw [lgl_tells, lgl_lose] at hk
        have e1 : moreLen (((σ.lose (2 * c + k) f.more).tells (2 * c + k) f.kept).kn b (2 * c + k)) = f.more.toNat := by
          rw [(tells_keep _ _ _).1]
          have : (σ.lose (2 * c + k) f.more).kn b (2 * c + k) = some f := hf
          rw [this]; rfl
        have e2 : moreLen (some { f with kept := [], more := 0 }) = 0 := rfl
        omega
    · exact Nat.le_refl _
  · exact Nat.le_of_eq (ali_backs e σ).lgl
theorem lgl_setCl {c : Nat} {x : Cli} (σ : Net) (h : x.log = (σ.cl c).log) : (σ.setCl c x).lgl s = σ.lgl s := by
  have e1 : (σ.setCl c x).left s = σ.left s := left_congr rfl rfl s
  have e2 : lgOf (σ.setCl c x) s = lgOf σ s := by
    unfold lgOf
    show ((put σ.cl c x (s / 2)).log.map _).sum = _
    by_cases e : s / 2 = c
    · rw [e, put_same, h]
    · rw [put_other _ _ e]
  unfold Net.lgl; rw [e1, e2]
theorem lgl_comes {c b old k : Nat} (σ : Net) (hb : b < 6) (hn : next σ.par b old < 6) (s : Nat) : (σ.comes c b old k).lgl s ≤ σ.lgl s := by
  by_cases e : s = 2 * c + k
  · subst e
    unfold Net.comes
    dsimp only
    split
    · have key : ∀ x : Cli, x.log = (σ.cl c).log → (((σ.setCl c x).know b (2 * c + k) (some ⟨(σ.cl c).age k + 1, (σ.cl c).fl k, none, [], 0, true⟩)).push b (next σ.par b old) (.move (2 * c + k) ((σ.cl c).age k + 1) ((σ.cl c).fl k) old b)).lgl (2 * c + k) ≤ σ.lgl (2 * c + k) := fun x hx => by
        rw [lgl_push _ _ hb hn]
        have hk := lgl_know (σ.setCl c x) hb (2 * c + k) (some ⟨(σ.cl c).age k + 1, (σ.cl c).fl k, none, [], 0, true⟩)
        rw [lgl_setCl σ hx] at hk
        have e1 : moreLen (some (⟨(σ.cl c).age k + 1, (σ.cl c).fl k, none, [], 0, true⟩ : Fact)) = 0 := rfl
        have e2 : restMore (2 * c + k) (.move (2 * c + k) ((σ.cl c).age k + 1) ((σ.cl c).fl k) old b) = 0 := rfl
        omega
      exact key _ rfl
    · exact Nat.le_refl _
  · exact Nat.le_of_eq (ali_comes e hb hn).lgl
theorem lgl_attach (G : Good σ) {c b : Nat} (hE : σ.attachE c b = 0) (s : Nat) : (σ.attach c b).lgl s ≤ σ.lgl s := by
  have hz := attachE_zero hE
  simp only [toNat_nat] at hz
  have hA : σ.attach c b = σ.attachN c b := by unfold Net.attach; rw [if_pos hE]; simp only [toNat_nat]
  have T := G.tree
  have hbl : b < σ.n := by omega
  have hb6 : b < 6 := Nat.lt_of_lt_of_le hbl (size_le T)
  have harr : ∀ ρ : Net, (ρ.arrive c b).lgl s = ρ.lgl s := fun ρ => lgl_setCl (x := { ρ.cl c with here := some b, home := some b, stays := (ρ.cl c).stays + 1 }) ρ rfl
  rw [hA]
  unfold Net.attachN
  split
  · rw [harr]; exact Nat.le_trans (lgl_backs hb6 _ s) (lgl_backs hb6 _ s)
  · rename_i old hho
    split
    · rw [harr]; exact Nat.le_trans (lgl_backs hb6 _ s) (lgl_backs hb6 _ s)
    · rename_i e2
      have hol : old < σ.n := (G.clis c (by omega)).home old hho
      have hn6 : next σ.par b old < 6 := Nat.lt_of_lt_of_le (near_lt T (next_step T hbl hol (fun g => e2 g.symm)).1).2 (size_le T)
      rw [harr]; exact Nat.le_trans (lgl_comes _ hb6 (by rw [(comes_keeps c b old 0).1]; exact hn6) s) (lgl_comes σ hb6 hn6 s)
theorem lgl_pub (G : Good σ) (hs : s < 8) {c : Nat} (hc : c < 4) (hE : σ.pubE c = 0) (f0 f1 f2 : Int) : (σ.pub c f0 f1 f2).lgl s ≤ σ.lgl s + 1 := by
  obtain ⟨b, hb, he⟩ := pub_eq hE f0 f1 f2
  have C := G.clis c hc
  have hb6 : b < 6 := Nat.lt_of_lt_of_le (C.here b hb) (size_le G.tree)
  have := lgl_happens (s := s) (σ := σ.setCl c { σ.cl c with many := (σ.cl c).many + 1 }) (G.setCl ⟨C.here, C.home, C.fil⟩) hs hb6 (σ.pubEv c f0 f1 f2) none
  have e0 : (σ.setCl c { σ.cl c with many := (σ.cl c).many + 1 }).lgl s = σ.lgl s := lgl_setCl (x := { σ.cl c with many := (σ.cl c).many + 1 }) σ rfl
  rw [e0] at this
  rw [he]; exact this
theorem lgl_sub (G : Good σ) {c : Nat} {l : List Tst} (hE : σ.subE c l = 0) (s : Nat) : (σ.sub c l).lgl s ≤ σ.lgl s := by
  obtain ⟨b, hb, _, he⟩ := sub_eq hE
  have hz := subE_zero hE
  have hb6 : b < 6 := Nat.lt_of_lt_of_le ((G.clis c (by omega)).here b hb) (size_le G.tree)
  rw [he]
  have e0 : ∀ s, (σ.setCl c { σ.cl c with used := put (σ.cl c).used (σ.slot c) true, age := put (σ.cl c).age (σ.slot c) ((σ.cl c).age (σ.slot c) + 1), fl := put (σ.cl c).fl (σ.slot c) l, told := put (σ.cl c).told (σ.slot c) [] }).lgl s = σ.lgl s := fun s => lgl_setCl (x := { σ.cl c with used := put (σ.cl c).used (σ.slot c) true, age := put (σ.cl c).age (σ.slot c) ((σ.cl c).age (σ.slot c) + 1), fl := put (σ.cl c).fl (σ.slot c) l, told := put (σ.cl c).told (σ.slot c) [] }) σ rfl
  obtain ⟨x, hx⟩ : ∃ x : Cli, x = { σ.cl c with used := put (σ.cl c).used (σ.slot c) true, age := put (σ.cl c).age (σ.slot c) ((σ.cl c).age (σ.slot c) + 1), fl := put (σ.cl c).fl (σ.slot c) l, told := put (σ.cl c).told (σ.slot c) [] } := ⟨_, rfl⟩
  rw [← hx] at e0
  have hT : ∀ o, Tree ((σ.setCl c x).know b (2 * c + σ.slot c) o).par := fun _ => G.tree
  show (Net.pushAll ((σ.setCl c { σ.cl c with used := put (σ.cl c).used (σ.slot c) true, age := put (σ.cl c).age (σ.slot c) ((σ.cl c).age (σ.slot c) + 1), fl := put (σ.cl c).fl (σ.slot c) l, told := put (σ.cl c).told (σ.slot c) [] }).know b _ _) _ _ _).lgl s ≤ _
  rw [← hx, lgl_pushAll s rfl hb6 _ _ (others_lt6 (hT _))]
  by_cases e : s = 2 * c + σ.slot c
  · subst e
    have hk := lgl_know (σ.setCl c x) hb6 (2 * c + σ.slot c) (some ⟨(σ.cl c).age (σ.slot c) + 1, l, none, [], 0, false⟩)
    rw [e0] at hk
    have e1 : moreLen (some (⟨(σ.cl c).age (σ.slot c) + 1, l, none, [], 0, false⟩ : Fact)) = 0 := rfl
    omega
  · rw [(ali_know e _ _).lgl, e0]
    exact Nat.le_refl _
theorem lgl_detach (c : Int) (s : Nat) : (σ.detach c).lgl s = σ.lgl s := by
  unfold Net.detach
  split
  · exact lgl_setCl (x := { σ.cl c.toNat with here := none }) σ rfl
  · rfl
end

/-- What is watched of a subscription. -/
structure Wt where
  on : Bool
  since : Int
  lost : Int

structure Wat (E : List News) (σ : Net) (T : Nat → Wt) (M : Nat) : Prop where
  bare : Bare σ
  slot : ∀ s, s < 8 → SlotT s (σ.view s)
  cap : ∀ s, s < 8 → ∃ z : Nat, (T s).lost = z ∧ z + σ.lgl s + σ.weight ≤ M
  use : ∀ s, s < 8 → (T s).on = (σ.cl (s / 2)).used (s % 2)
  org : ∃ org, Orgs E σ org ∧ ∀ s, s < 8 → (T s).on = true → 0 ≤ (T s).since → (T s).since.toNat ≤ E.length ∧ ∃ L, Wh σ s ((σ.cl (s / 2)).fl (s % 2)) org E (T s).since.toNat (T s).lost.toNat L

section
variable {E : List News} {G : Nat → Nat → List News} {σ τ : Net} {T T' : Nat → Wt} {M m : Nat}

theorem wat_new {par : List Nat} : Wat [] (newNet par) (fun _ => ⟨false, 0, 0⟩) 0 := by
  refine ⟨bare_new par, fun s _ => .off rfl, fun s _ => ⟨0, rfl, ?_⟩, fun _ _ => rfl, fun _ _ => 0, orgs_new, fun s _ h => (by cases h)⟩
  have h1 : (newNet par).lgl s = 0 := by simp [Net.lgl, lgOf, newNet, newCli, Net.left, Net.leftK, Net.leftQ, Net.restM, moreLen, sum6]
  have h2 : (newNet par).weight = 0 := by simp [Net.weight, Net.wtL, newNet, sum6]
  omega
theorem Wat.congr (W : Wat E σ T M) (h : ∀ s, s < 8 → T' s = T s) : Wat E σ T' M := by
  obtain ⟨org, O, hw⟩ := W.org
  exact ⟨W.bare, W.slot, fun s hs => by rw [h s hs]; exact W.cap s hs, fun s hs => by rw [h s hs]; exact W.use s hs, org, O, fun s hs => by rw [h s hs]; exact hw s hs⟩
theorem Wat.del (W : Wat E σ T M) (C : Core E G σ) (F : Fit σ m) {x y : Nat} {f : Fr} {l : List Fr} (hq : σ.q x y = f :: l) : Wat E (σ.del x y) T M := by
  have hsm := Sm.del σ x y
  have hnb := F.good.nbr x y (by rw [hq]; simp)
  have hE : σ.delE x y = 0 := by simp [Net.delE, Net.asked, C.opn, Net.isLink, hnb, hq]
  have hd : σ.del x y = Net.handle { σ with q := put2 σ.q x y l } y (some x) f := by simp only [Net.del, hE, if_true, toNat_nat, hq]
  have hwt := (F.good.del x y).2.2 hE
  obtain ⟨org, O, hw⟩ := W.org
  refine ⟨W.bare.del F.good x y, fun s hs => (W.slot s hs).del F.live F.mv hs x y, fun s hs => ?_, fun s hs => by rw [(hsm _).used]; exact W.use s hs, org, O.del F.good x y, fun s hs hon hsi => ?_⟩
  · obtain ⟨z, h1, h2⟩ := W.cap s hs
    have h3 := lgl_handle (s := s) F.good hs hq
    rw [← hd] at h3
    exact ⟨z, h1, by omega⟩
  · obtain ⟨h1, L, h2⟩ := hw s hs hon hsi
    have S := (W.slot s hs).slotS (F.live.view s hs) h2.used (fun _ _ _ hf => (mem_view.1 hf).2) (fun x y f hf => h2.mvs x y f (mem_view.1 hf).1 (mem_view.1 hf).2)
    obtain ⟨L', h3⟩ := h2.del C W.bare F.live F.mv hs S x y
    rw [(hsm _).fl]
    exact ⟨h1, L', h3⟩

theorem Wat.attach (W : Wat E σ T M) (C : Core E G σ) (F : Fit σ m) {c b : Nat} (hE : σ.attachE c b = 0) (hwt : (σ.attach c b).weight ≤ 1500) : Wat E (σ.attach c b) T (M + 1600) := by
  have hz := attachE_zero hE
  simp only [toNat_nat] at hz
  have hc : c < 4 := by omega
  have hcl : ∀ d, ((σ.attach c b).cl d).used = (σ.cl d).used ∧ ((σ.attach c b).cl d).fl = (σ.cl d).fl := fun d => by
    by_cases e : d = c
    · subst e; exact ⟨((attach_cl hE d).2 rfl).used, ((attach_cl hE d).2 rfl).fl⟩
    · exact ⟨((attach_cl hE d).1 e).used, ((attach_cl hE d).1 e).fl⟩
  have hA : σ.attach c b = σ.attachN c b := by unfold Net.attach; rw [if_pos hE]; simp only [toNat_nat]
  obtain ⟨org, O, hw⟩ := W.org
  have O' := O.attach C.pubs hE
  refine ⟨W.bare.attach F.live c b, fun s hs => (W.slot s hs).attach F.live hE hs, fun s hs => ?_, fun s hs => by rw [(hcl _).1]; exact W.use s hs, _, O', fun s hs hon hsi => ?_⟩
  · obtain ⟨z, h1, h2⟩ := W.cap s hs
    have h3 := lgl_attach F.good hE s
    exact ⟨z, h1, by omega⟩
  · obtain ⟨h1, L, h2⟩ := hw s hs hon hsi
    have D := h2.sideT C W.bare F.live F.mv hs (W.slot s hs)
    have h3 := h2.attachN D C.evs.inc hc hz.2.2.2.1 (by omega : b < σ.n)
    rw [← hA] at h3
    rw [(hcl _).2]
    exact ⟨h1, L, h3.reorg (O.fresh hc _ _ b) O'⟩

theorem Wat.detach (W : Wat E σ T M) (C : Core E G σ) (F : Fit σ m) (c : Nat) : Wat E (σ.detach c) T M := by
  by_cases hE : σ.detachE c = 0
  · have hd := detach_cl hE
    have hcl : ∀ d, ((σ.detach c).cl d).used = (σ.cl d).used ∧ ((σ.detach c).cl d).fl = (σ.cl d).fl ∧ ((σ.detach c).cl d).stays = (σ.cl d).stays ∧ ∀ b, ((σ.detach c).cl d).here = some b → (σ.cl d).here = some b := fun d => by
      rw [hd]
      show (put σ.cl c _ d).used = _ ∧ (put σ.cl c _ d).fl = _ ∧ (put σ.cl c _ d).stays = _ ∧ ∀ b, (put σ.cl c _ d).here = some b → _
      by_cases e : d = c
      · rw [e, put_same]; exact ⟨rfl, rfl, rfl, fun b h => (by cases h)⟩
      · rw [put_other _ _ e]; exact ⟨rfl, rfl, rfl, fun _ h => h⟩
    have hwt : (σ.detach c).weight = σ.weight := by rw [hd]; rfl
    obtain ⟨org, O, hw⟩ := W.org
    refine ⟨W.bare.detach c, fun s hs => (W.slot s hs).detach c, fun s hs => ?_, fun s hs => by rw [(hcl _).1]; exact W.use s hs, org, O.same (by rw [hd]; rfl) (fun _ _ => by rw [hd]; rfl) (fun d b _ => (hcl d).2.2.2 b) (fun d _ => (hcl d).2.2.1), fun s hs hon hsi => ?_⟩
    · rw [lgl_detach, hwt]; exact W.cap s hs
    · obtain ⟨h1, L, h2⟩ := hw s hs hon hsi
      rw [(hcl _).2.1]
      exact ⟨h1, L, h2.detach (h2.sideT C W.bare F.live F.mv hs (W.slot s hs)) c⟩
  · rw [detach_same hE]; exact W

/-- A number of a client: what stands beside. -/
theorem Side.many {s : Nat} {fl : List Tst} {org : Int → Int → Nat} (D : Side σ s fl org E) {c : Nat} (hc : c < 4) (n : Int) : Side (σ.setCl c { σ.cl c with many := n }) s fl org E := by
  have hv : ∀ t, (σ.setCl c { σ.cl c with many := n }).view t = σ.view t := fun t => view_setCl (σ := σ) (c := c) (x := { σ.cl c with many := n }) rfl rfl rfl rfl rfl t
  have hcl : ∀ d, ((σ.setCl c { σ.cl c with many := n }).cl d).used = (σ.cl d).used ∧ ((σ.setCl c { σ.cl c with many := n }).cl d).fl = (σ.cl d).fl ∧ ((σ.setCl c { σ.cl c with many := n }).cl d).told = (σ.cl d).told ∧ ((σ.setCl c { σ.cl c with many := n }).cl d).here = (σ.cl d).here := fun d => by
    show (put σ.cl c _ d).used = _ ∧ (put σ.cl c _ d).fl = _ ∧ (put σ.cl c _ d).told = _ ∧ (put σ.cl c _ d).here = _
    by_cases e : d = c
    · rw [e, put_same]; exact ⟨rfl, rfl, rfl, rfl⟩
    · rw [put_other _ _ e]; exact ⟨rfl, rfl, rfl, rfl⟩
  have C := D.live.good.clis c hc
  have L' : Live (σ.setCl c { σ.cl c with many := n }) := ⟨D.live.good.setCl ⟨C.here, C.home, C.fil⟩, fun t ht => by rw [hv t]; exact D.live.view t ht, Kept.setCl D.live.kept _ _, Homed.setCl D.live.home (fun b hb => D.live.home c hc b hb)⟩
  exact ⟨L', D.mvw, D.hs, by rw [hv]; exact D.slot, by rw [(hcl _).1]; exact D.used, by rw [(hcl _).2.1]; exact D.flt, D.mvs, D.olt, D.outs, fun d hd => D.told d (by unfold tldOf at hd ⊢; rw [(hcl _).2.2.1] at hd; exact hd), D.pubs.setCl (fun k e he => D.pubs.told c k e he), D.one, fun b f hh hk hw => D.bare b f (by rw [← (hcl _).2.2.2]; exact hh) hk hw⟩
theorem Wat.pub (W : Wat E σ T M) (C : Core E G σ) (F : Fit σ m) {c : Nat} (hc : c < 4) (hE : σ.pubE c = 0) (f0 f1 f2 : Int) (hwt : (σ.pub c f0 f1 f2).weight ≤ 1500) : Wat (E ++ [σ.pubEv c f0 f1 f2]) (σ.pub c f0 f1 f2) T (M + 1600) := by
  have hcl : ∀ d, ((σ.pub c f0 f1 f2).cl d).used = (σ.cl d).used ∧ ((σ.pub c f0 f1 f2).cl d).fl = (σ.cl d).fl := fun d => by
    by_cases e : d = c
    · subst e; exact ⟨((pub_cl hE f0 f1 f2 d).2 rfl).used, ((pub_cl hE f0 f1 f2 d).2 rfl).fl⟩
    · exact ⟨((pub_cl hE f0 f1 f2 d).1 e).used, ((pub_cl hE f0 f1 f2 d).1 e).fl⟩
  obtain ⟨b, hb, he⟩ := pub_eq hE f0 f1 f2
  obtain ⟨org, O, hw⟩ := W.org
  refine ⟨W.bare.pub c f0 f1 f2, fun s hs => (W.slot s hs).pub c f0 f1 f2, fun s hs => ?_, fun s hs => by rw [(hcl _).1]; exact W.use s hs, org, O.pub F.good hc hE f0 f1 f2, fun s hs hon hsi => ?_⟩
  · obtain ⟨z, h1, h2⟩ := W.cap s hs
    have h3 := lgl_pub (s := s) F.good hs hc hE f0 f1 f2
    exact ⟨z, h1, by omega⟩
  · obtain ⟨h1, L, h2⟩ := hw s hs hon hsi
    have D := h2.sideT C W.bare F.live F.mv hs (W.slot s hs)
    have h3 : Wh (σ.setCl c { σ.cl c with many := (σ.cl c).many + 1 }) s _ org E _ _ L := h2.setCl D (c := c) (x := { σ.cl c with many := (σ.cl c).many + 1 }) rfl rfl rfl rfl rfl
    have hbl : b < σ.n := (F.good.clis c hc).here b hb
    obtain ⟨L', h4⟩ := h3.happens (D.many hc _) h1 (b := b) (e := σ.pubEv c f0 f1 f2) hbl (fun p st hp => by
      obtain ⟨g1, g2⟩ := isStay_pub hp
      have e1 : p = (c : Int) := by rw [← g1]; simp [Net.pubEv]
      have e2 : st = (σ.cl c).stays := by rw [← g2]; simp [Net.pubEv]
      rw [e1, e2]; exact O.at_ c b hc hb) (fun d hd hp => by
      obtain ⟨p, k1, k2, k3, k4, k5⟩ := C.evs.ev d hd
      have e1 : (σ.pubEv c f0 f1 f2).ev.pub = c := by simp [Net.pubEv]
      have e2 : (σ.pubEv c f0 f1 f2).ev.num = (σ.cl c).many + 1 := by simp [Net.pubEv]
      have : p = c := by omega
      subst this
      omega)
    rw [← he] at h4
    rw [(hcl _).2]
    exact ⟨by rw [List.length_append]; omega, L', h4⟩

/-- A log is read. -/
theorem Wat.read (W : Wat E σ T M) (C : Core E G σ) (F : Fit σ m) {c : Nat} (hc : c < 4) : Wat E (σ.setCl c { σ.cl c with log := [] }) (fun s => if s / 2 = c then { T s with lost := (T s).lost + lgOf σ s } else T s) M := by
  have hlog : σ.log c = σ.setCl c { σ.cl c with log := [] } := by
    have hE : σ.logE c = 0 := by unfold Net.logE; exact asked_ok C.opn (isCli_nat hc)
    unfold Net.log; rw [if_pos hE]; simp only [toNat_nat]
  have hS : Sm σ (σ.setCl c { σ.cl c with log := [] }) := Sm.setCl ⟨rfl, rfl, rfl, rfl, rfl⟩
  have hlg : ∀ s, lgOf (σ.setCl c { σ.cl c with log := [] }) s = if s / 2 = c then 0 else lgOf σ s := fun s => by
    unfold lgOf
    show ((put σ.cl c _ (s / 2)).log.map _).sum = _
    split
    · rename_i e; rw [e, put_same]; rfl
    · rename_i e; rw [put_other _ _ e]
  have hlf : ∀ s, (σ.setCl c { σ.cl c with log := [] }).left s = σ.left s := fun s => left_congr rfl rfl s
  have hwt : (σ.setCl c { σ.cl c with log := [] }).weight = σ.weight := rfl
  obtain ⟨org, O, hw⟩ := W.org
  have hon : ∀ s, (if s / 2 = c then { T s with lost := (T s).lost + lgOf σ s } else T s).on = (T s).on ∧ (if s / 2 = c then { T s with lost := (T s).lost + lgOf σ s } else T s).since = (T s).since := fun s => by split <;> exact ⟨rfl, rfl⟩
  refine ⟨W.bare.setCl rfl, fun s hs => (W.slot s hs).log c, fun s hs => ?_, fun s hs => by rw [(hS _).used, (hon s).1]; exact W.use s hs, org, O.same rfl (fun _ _ => rfl) (fun d b _ h => by rw [(hS d).here] at h; exact h) (fun d _ => (hS d).stays), fun s hs h1 h2 => ?_⟩
  · obtain ⟨z, h1, h2⟩ := W.cap s hs
    by_cases e : s / 2 = c
    · refine ⟨z + lgOf σ s, ?_, ?_⟩
      · rw [if_pos e]; show (T s).lost + _ = _; rw [h1]; simp
      · unfold Net.lgl at h2 ⊢; rw [hlg, if_pos e, hlf, hwt]; omega
    · refine ⟨z, ?_, ?_⟩
      · rw [if_neg e]; exact h1
      · unfold Net.lgl at h2 ⊢; rw [hlg, if_neg e, hlf, hwt]; omega
  · rw [(hon s).1] at h1
    rw [(hon s).2] at h2 ⊢
    obtain ⟨k1, L, k2⟩ := hw s hs h1 h2
    have k3 := k2.log (k2.sideT C W.bare F.live F.mv hs (W.slot s hs)) c
    rw [hlog, hlg] at k3
    rw [(hS _).fl]
    refine ⟨k1, L, ?_⟩
    obtain ⟨z, g1, _⟩ := W.cap s hs
    by_cases e : s / 2 = c
    · rw [if_pos e] at k3 ⊢
      have : ((T s).lost + (lgOf σ s : Int)).toNat = (T s).lost.toNat + (lgOf σ s - 0) := by rw [g1]; omega
      show Wh _ s _ org E _ ((T s).lost + (lgOf σ s : Int)).toNat L
      rw [this]; exact k3
    · rw [if_neg e] at k3 ⊢
      rw [Nat.sub_self, Nat.add_zero] at k3; exact k3

theorem Wat.sub (W : Wat E σ T M) (C : Core E G σ) (F : Fit σ m) {c : Nat} {l : List Tst} (hE : σ.subE c l = 0) (hwt : (σ.sub c l).weight ≤ 1500) : Wat E (σ.sub c l) (put T (2 * c + σ.slot c) ⟨true, -1, 0⟩) (M + 1600) := by
  obtain ⟨b, hb, hu, he⟩ := sub_eq hE
  have hz := subE_zero hE
  have hc : c < 4 := by omega
  have hcl := sub_cl hE
  have hsl : σ.slot c < 2 := by unfold Net.slot; split <;> omega
  have hb6 : b < 6 := Nat.lt_of_lt_of_le ((F.good.clis c hc).here b hb) (size_le F.good.tree)
  obtain ⟨x, hx⟩ : ∃ x : Cli, x = { σ.cl c with used := put (σ.cl c).used (σ.slot c) true, age := put (σ.cl c).age (σ.slot c) ((σ.cl c).age (σ.slot c) + 1), fl := put (σ.cl c).fl (σ.slot c) l, told := put (σ.cl c).told (σ.slot c) [] } := ⟨_, rfl⟩
  have he2 : σ.sub c l = ((σ.setCl c x).know b (2 * c + σ.slot c) (some ⟨(σ.cl c).age (σ.slot c) + 1, l, none, [], 0, false⟩)).pushAll b (((σ.setCl c x).know b (2 * c + σ.slot c) (some ⟨(σ.cl c).age (σ.slot c) + 1, l, none, [], 0, false⟩)).others b none) (.sub (2 * c + σ.slot c) ((σ.cl c).age (σ.slot c) + 1) l) := by rw [he, hx]; rfl
  have hali : ∀ s, s ≠ 2 * c + σ.slot c → Ali σ (σ.sub c l) s := fun s hs => by
    rw [he2]
    refine ((ali_setCl σ (fun e => ?_)).trans (ali_know hs _ _)).trans (ali_pushAll (mine_sub (fun g => hs g.symm) _ _) hb6 _ (others_lt6 F.good.tree) _)
    have e2 : s % 2 ≠ σ.slot c := by omega
    rw [hx]
    exact ⟨put_other _ _ e2, rfl, rfl, put_other _ _ e2, put_other _ _ e2⟩
  have hev : ∀ u v, evs ((σ.sub c l).q u v) = evs (σ.q u v) := fun u v => by rw [he2]; exact evs_pushAll rfl u v _ _
  have hhs : ∀ d, ((σ.sub c l).cl d).here = (σ.cl d).here ∧ ((σ.sub c l).cl d).stays = (σ.cl d).stays := fun d => by
    rw [hcl]
    show (put σ.cl c _ d).here = _ ∧ (put σ.cl c _ d).stays = _
    by_cases e : d = c
    · rw [e, put_same]; exact ⟨rfl, rfl⟩
    · rw [put_other _ _ e]; exact ⟨rfl, rfl⟩
  obtain ⟨org, O, hw⟩ := W.org
  refine ⟨W.bare.sub c l, fun s hs => (W.slot s hs).sub F.live hE hs, fun s hs => ?_, fun s hs => ?_, org, O.same (by rw [he2]; exact pushAll_par _ _ _ _) hev (fun d b _ h => by rw [(hhs d).1] at h; exact h) (fun d _ => (hhs d).2), fun s hs h1 h2 => ?_⟩
  · obtain ⟨z, h1, h2⟩ := W.cap s hs
    have h3 := lgl_sub F.good hE s
    by_cases e : s = 2 * c + σ.slot c
    · refine ⟨0, by rw [e, put_same]; rfl, by omega⟩
    · exact ⟨z, by rw [put_other _ _ e]; exact h1, by omega⟩
  · by_cases e : s = 2 * c + σ.slot c
    · rw [e, put_same, hcl, show (2 * c + σ.slot c) / 2 = c by omega, show (2 * c + σ.slot c) % 2 = σ.slot c by omega]
      simp [Net.setCl]
    · rw [put_other _ _ e, (hali s e).used]; exact W.use s hs
  · by_cases e : s = 2 * c + σ.slot c
    · rw [e, put_same] at h2; exact absurd h2 (by decide)
    · rw [put_other _ _ e] at h1 h2 ⊢
      obtain ⟨k1, L, k2⟩ := hw s hs h1 h2
      rw [(hali s e).fl]
      exact ⟨k1, L, k2.ali (k2.sideT C W.bare F.live F.mv hs (W.slot s hs)) (hali s e)⟩
/-- NOTHING WAITS: then all brokers know all subscriptions. -/
theorem Wat.quiet (W : Wat E σ T M) (hq : ∀ x y, σ.q x y = []) : Wat E σ (fun s => if (T s).since < 0 then { T s with since := E.length } else T s) M := by
  obtain ⟨org, O, hw⟩ := W.org
  have hT : ∀ s, (if (T s).since < 0 then { T s with since := (E.length : Int) } else T s).on = (T s).on ∧ (if (T s).since < 0 then { T s with since := (E.length : Int) } else T s).lost = (T s).lost := fun s => by split <;> exact ⟨rfl, rfl⟩
  refine ⟨W.bare, W.slot, fun s hs => by rw [(hT s).2]; exact W.cap s hs, fun s hs => by rw [(hT s).1]; exact W.use s hs, org, O, fun s hs h1 h2 => ?_⟩
  rw [(hT s).1] at h1
  rw [(hT s).2]
  by_cases e : (T s).since < 0
  · rw [if_pos e]
    have hus : (σ.cl (s / 2)).used (s % 2) = true := by rw [← W.use s hs]; exact h1
    obtain ⟨h, hh⟩ := Option.ne_none_iff_exists'.1 ((W.slot s hs).home hus)
    refine ⟨by show (E.length : Int).toNat ≤ _; omega, [], ?_⟩
    show Wh σ s _ org E (E.length : Int).toNat _ []
    rw [Int.toNat_natCast]
    exact ⟨by rw [since_none]; exact Fph.start hh hq, fun d hd => (by cases hd), Nat.zero_le _, O.outsF _, O.olt, fun x y f hf => (by rw [hq] at hf; cases hf), hus, rfl⟩
  · rw [if_neg e] at h2 ⊢
    exact hw s hs h1 h2

end

end Go.Proofs.Ytodfcpblcpogiaa

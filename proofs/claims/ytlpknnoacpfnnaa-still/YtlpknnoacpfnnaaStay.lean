/-
  Clients that stay: subscriptions spread over the tree; when nothing waits, all brokers know them.
-/
import Derived.Test.YtlpknnoacpfnnaaGood
namespace Go.Proofs.Ytlpknnoacpfnnaa

/-- The way from a broker to a home. -/
def wayTo (par : List Nat) (x h : Nat) : Option Nat := if x = h then none else some (next par x h)
def plain (l : List Tst) (way : Option Nat) : Fact := ⟨0, l, way, [], 0, false⟩

/-- Clients as they are, who stay. -/
structure CliAt (x : Cli) (a : Option Nat) (f : Option (List Tst)) : Prop where
  here : x.here = a
  home : x.home = a
  used0 : x.used 0 = f.isSome
  used1 : x.used 1 = false
  fil : ∀ l, f = some l → x.fl 0 = l
  age : f = none → x.age 0 = -1
  stays : x.stays = if a = none then 0 else 1

structure Stays (σ : Net) (A : Nat → Option Nat) (F : Nat → Option (List Tst)) : Prop where
  good : Good σ
  open_ : σ.closed = false
  cl : ∀ c, c < 4 → CliAt (σ.cl c) (A c) (F c)
  odd : ∀ x c, σ.kn x (2 * c + 1) = none
  off : ∀ x c, F c = none → σ.kn x (2 * c) = none
  far : ∀ c, 4 ≤ c → F c = none

structure Spread (σ : Net) (A : Nat → Option Nat) (F : Nat → Option (List Tst)) : Prop extends Stays σ A F where
  on : ∀ c l, F c = some l → ∃ h, A c = some h ∧ σ.kn h (2 * c) = some (plain l none) ∧ ∀ x f, σ.kn x (2 * c) = some f → f = plain l (wayTo σ.par x h)
  fr : ∀ x y f, f ∈ σ.q x y → ∃ c l h, f = .sub (2 * c) 0 l ∧ F c = some l ∧ A c = some h ∧ y ≠ h ∧ x = next σ.par y h
  spr : ∀ c l h x, F c = some l → A c = some h → x < σ.n → x ≠ h → σ.kn (next σ.par x h) (2 * c) ≠ none → σ.kn x (2 * c) ≠ none ∨ .sub (2 * c) 0 l ∈ σ.q (next σ.par x h) x

theorem Stays.at_lt {σ : Net} {A : Nat → Option Nat} {F : Nat → Option (List Tst)} (S : Stays σ A F) {c h : Nat} (hc : c < 4) (ha : A c = some h) : h < σ.n :=
  (S.good.clis c hc).here h ((S.cl c hc).here.trans ha)

theorem Stays.on_lt {σ : Net} {A : Nat → Option Nat} {F : Nat → Option (List Tst)} (S : Stays σ A F) {c : Nat} {l : List Tst} (hf : F c = some l) : c < 4 := by
  by_cases h : c < 4
  · exact h
  · have := S.far c (by omega); rw [hf] at this; cases this

/-- When nothing waits, all know. -/
theorem Spread.all_know {σ : Net} {A : Nat → Option Nat} {F : Nat → Option (List Tst)} (S : Spread σ A F) (hq : ∀ x y, σ.q x y = []) {c : Nat} {l : List Tst} {h : Nat} (hf : F c = some l) (ha : A c = some h) :
    ∀ (d x : Nat), x < σ.n → dist σ.par x h = d → σ.kn x (2 * c) = some (plain l (wayTo σ.par x h)) := by
  obtain ⟨h', ha', hk, hx⟩ := S.on c l hf
  rw [ha] at ha'; cases ha'
  have hh := S.at_lt (S.on_lt hf) ha
  intro d
  induction d with
  | zero =>
    intro x hx' hd
    by_cases e : x = h
    · subst e; rw [hk]; simp [wayTo]
    · have := dist_pos (par := σ.par) e; omega
  | succ d ih =>
    intro x hx' hd
    have hne : x ≠ h := by intro e; subst e; simp at hd
    have hs := next_step S.good.tree hx' hh hne
    have hn := ih (next σ.par x h) hs.2.1 (by omega)
    rcases S.spr c l h x hf ha hx' hne (by rw [hn]; simp) with h1 | h1
    · cases hc : σ.kn x (2 * c) with
      | none => exact absurd hc h1
      | some f => rw [hx x f hc]
    · rw [hq] at h1; cases h1

/-- What spreading leaves in a link. -/
theorem mem_pushAll {f g : Fr} {x a b : Nat} : ∀ (ys : List Nat) (σ : Net), g ∈ (σ.pushAll x ys f).q a b ↔ g ∈ σ.q a b ∨ (a = x ∧ b ∈ ys ∧ g = f)
  | [], σ => by simp [Net.pushAll]
  | y :: ys, σ => by
    have ih := mem_pushAll (f := f) (g := g) (x := x) (a := a) (b := b) ys (σ.push x y f)
    have h1 : g ∈ (σ.push x y f).q a b ↔ g ∈ σ.q a b ∨ (a = x ∧ b = y ∧ g = f) := by
      simp only [Net.push]
      by_cases e : a = x ∧ b = y
      · obtain ⟨rfl, rfl⟩ := e; simp
      · rw [put2_other _ _ e]
        constructor
        · exact Or.inl
        · rintro (h | ⟨rfl, rfl, _⟩)
          · exact h
          · exact absurd ⟨rfl, rfl⟩ e
    simp only [Net.pushAll, List.foldl_cons] at ih ⊢
    rw [ih, h1, List.mem_cons]
    constructor
    · rintro ((h | ⟨h1, h2, h3⟩) | ⟨h1, h2, h3⟩)
      · exact Or.inl h
      · exact Or.inr ⟨h1, Or.inl h2, h3⟩
      · exact Or.inr ⟨h1, Or.inr h2, h3⟩
    · rintro (h | ⟨h1, h2 | h2, h3⟩)
      · exact Or.inl (Or.inl h)
      · exact Or.inl (Or.inr ⟨h1, h2, h3⟩)
      · exact Or.inr ⟨h1, h2, h3⟩

theorem pushAll_keeps {f : Fr} {x : Nat} : ∀ (ys : List Nat) (σ : Net), (σ.pushAll x ys f).kn = σ.kn ∧ (σ.pushAll x ys f).cl = σ.cl ∧ (σ.pushAll x ys f).closed = σ.closed
  | [], _ => ⟨rfl, rfl, rfl⟩
  | y :: ys, σ => pushAll_keeps ys (σ.push x y f)

/-- Beyond y, seen from x: y is on the way to x's side. -/
theorem outward {par : List Nat} (T : Tree par) {y z h : Nat} (hn : near par y z = true) (hh : h < size par) (hz : z ≠ next par y h) : z ≠ h ∧ next par z h = y := by
  constructor
  · intro e; subst e; exact hz (next_near T hn).symm
  · rcases turn T hn hh with e | e
    · exact absurd e.symm hz
    · exact e

section
variable {σ : Net} {A : Nat → Option Nat} {F : Nat → Option (List Tst)}

/-- A Sub frame is handled. -/
theorem Spread.del (S : Spread σ A F) (a b : Int) : Spread (σ.del a b) A F := by
  have G' := (S.good.del a b).1
  unfold Net.del at G' ⊢
  split
  · rename_i he
    split
    · rename_i f r hq
      rw [if_pos he, hq] at G'
      simp only at G'
      have hn := S.good.nbr _ _ (by rw [hq]; simp : σ.q a.toNat b.toNat ≠ [])
      generalize ha : a.toNat = x at *
      generalize hb : b.toNat = y at *
      obtain ⟨c, l, h, rfl, hF, hA, hyh, hx⟩ := S.fr x y f (by rw [hq]; exact List.mem_cons_self ..)
      have hc4 := S.on_lt hF
      have hh := S.at_lt hc4 hA
      obtain ⟨h', hA', hk, hon⟩ := S.on c l hF
      rw [hA] at hA'; cases hA'
      -- the net without the frame, and with what y knows
      have hkn : ∀ u s, (Net.learn { σ with q := put2 σ.q x y r } y (2 * c) 0 l (some x)).kn u s = if u = y ∧ s = 2 * c then some (plain l (some x)) else σ.kn u s := by
        intro u s
        unfold Net.learn
        simp only
        split
        · by_cases e : u = y ∧ s = 2 * c
          · obtain ⟨rfl, rfl⟩ := e; simp [Net.know, plain]
          · simp [Net.know, put2, e]
        · rename_i g hg
          have := hon y g hg
          subst this
          rw [if_neg (by simp [plain])]
          by_cases e : u = y ∧ s = 2 * c
          · obtain ⟨rfl, rfl⟩ := e
            simp only [and_self, if_true]
            rw [hg, hx]
            simp [wayTo, hyh]
          · simp [e]
      have hkeep := learn_keeps { σ with q := put2 σ.q x y r } y (2 * c) 0 l (some x)
      have hpa := pushAll_keeps (f := .sub (2 * c) 0 l) (x := y) ((Net.learn { σ with q := put2 σ.q x y r } y (2 * c) 0 l (some x)).others y (some x)) (Net.learn { σ with q := put2 σ.q x y r } y (2 * c) 0 l (some x))
      have hpar : (Net.handle { σ with q := put2 σ.q x y r } y (some x) (.sub (2 * c) 0 l)).par = σ.par := by
        simp only [Net.handle, Net.spread, pushAll_par]; exact hkeep.1
      have hkn' : ∀ u s, (Net.handle { σ with q := put2 σ.q x y r } y (some x) (.sub (2 * c) 0 l)).kn u s = if u = y ∧ s = 2 * c then some (plain l (some x)) else σ.kn u s := by
        intro u s
        simp only [Net.handle, Net.spread, hpa.1]; exact hkn u s
      have hcl' : (Net.handle { σ with q := put2 σ.q x y r } y (some x) (.sub (2 * c) 0 l)).cl = σ.cl := by
        simp only [Net.handle, Net.spread, hpa.2.1]; exact hkeep.2.2.2
      have hclo : (Net.handle { σ with q := put2 σ.q x y r } y (some x) (.sub (2 * c) 0 l)).closed = σ.closed := by
        simp only [Net.handle, Net.spread, hpa.2.2]; exact hkeep.2.2.1
      have hq' : ∀ g u v, g ∈ (Net.handle { σ with q := put2 σ.q x y r } y (some x) (.sub (2 * c) 0 l)).q u v ↔ g ∈ put2 σ.q x y r u v ∨ (u = y ∧ (near σ.par y v = true ∧ v ≠ x ∧ v < σ.n) ∧ g = .sub (2 * c) 0 l) := by
        intro g u v
        simp only [Net.handle, Net.spread, mem_pushAll, hkeep.2.1]
        have : v ∈ (Net.learn { σ with q := put2 σ.q x y r } y (2 * c) 0 l (some x)).others y (some x) ↔ (near σ.par y v = true ∧ v ≠ x ∧ v < σ.n) := by
          simp only [Net.others, List.mem_filter, List.mem_range, Bool.and_eq_true, decide_eq_true_eq, Net.n, hkeep.1]
          constructor
          · rintro ⟨h1, h2, h3⟩; exact ⟨h3, fun e => h2 (by rw [e]), h1⟩
          · rintro ⟨h1, h2, h3⟩; exact ⟨h3, fun e => h2 (by cases e; rfl), h1⟩
        rw [this]
      refine ⟨⟨G', hclo.trans S.open_, by rw [hcl']; exact S.cl, fun u d => ?_, fun u d hd => ?_, S.far⟩, fun d m hd => ?_, fun u v g hg => ?_, fun d m k u hd hk' hu hne hkn0 => ?_⟩
      · rw [hkn', if_neg (by omega)]; exact S.odd u d
      · rw [hkn', if_neg (by rintro ⟨_, e⟩; have : d = c := by omega
                             subst this; rw [hF] at hd; cases hd)]; exact S.off u d hd
      · obtain ⟨k, h1, h2, h3⟩ := S.on d m hd
        refine ⟨k, h1, ?_, fun u g hg => ?_⟩
        · rw [hkn']
          by_cases e : k = y ∧ 2 * d = 2 * c
          · obtain ⟨rfl, e⟩ := e
            have : d = c := by omega
            subst this; rw [hA] at h1; cases h1; exact absurd rfl hyh
          · rw [if_neg e]; exact h2
        · rw [hkn'] at hg
          rw [hpar]
          by_cases e : u = y ∧ 2 * d = 2 * c
          · rw [if_pos e] at hg; cases hg
            obtain ⟨rfl, e⟩ := e
            have : d = c := by omega
            subst this; rw [hA] at h1; cases h1
            rw [hF] at hd; cases hd
            simp [wayTo, hyh, hx]
          · rw [if_neg e] at hg; exact h3 u g hg
      · rw [hpar]
        rcases (hq' g u v).1 hg with hg | ⟨rfl, ⟨h1, h2, h3⟩, rfl⟩
        · by_cases e : u = x ∧ v = y
          · obtain ⟨rfl, rfl⟩ := e
            rw [put2_same] at hg
            exact S.fr u v g (by rw [hq]; exact List.mem_cons_of_mem _ hg)
          · rw [put2_other _ _ e] at hg; exact S.fr u v g hg
        · have ho := outward S.good.tree h1 hh (by rw [← hx]; exact h2)
          exact ⟨c, l, h, rfl, hF, hA, ho.1, ho.2.symm⟩
      · rw [hpar] at hkn0 ⊢
        rw [hkn'] at hkn0 ⊢
        have hu' : u < σ.n := by simp only [Net.n, hpar] at hu; exact hu
        by_cases e : u = y ∧ 2 * d = 2 * c
        · rw [if_pos e]; exact Or.inl (by simp)
        · rw [if_neg e]
          by_cases e2 : next σ.par u k = y ∧ 2 * d = 2 * c
          · -- y has just learned: it has sent the frame on
            obtain ⟨e2, e3⟩ := e2
            have : d = c := by omega
            subst this
            rw [hA] at hk'; cases hk'
            rw [hF] at hd; cases hd
            have hs := next_step S.good.tree hu' hh hne
            rw [e2] at hs ⊢
            refine Or.inr ((hq' _ _ _).2 (Or.inr ⟨rfl, ⟨by rw [near_comm]; exact hs.1, ?_, hu'⟩, rfl⟩))
            intro e4
            have h5 := next_step S.good.tree (near_lt S.good.tree hn).2 hh hyh
            rw [← hx, ← e4] at h5
            omega
          · rw [if_neg e2] at hkn0
            rcases S.spr d m k u hd hk' hu' hne hkn0 with h1 | h1
            · exact Or.inl h1
            · refine Or.inr ((hq' _ _ _).2 (Or.inl ?_))
              by_cases e3 : next σ.par u k = x ∧ u = y
              · -- the frame itself: then y knows
                obtain ⟨e3, rfl⟩ := e3
                have hdc : d ≠ c := fun h => e ⟨rfl, by omega⟩
                rw [e3] at h1 ⊢
                rw [put2_same]
                rw [hq, List.mem_cons] at h1
                rcases h1 with h1 | h1
                · simp only [Fr.sub.injEq] at h1; omega
                · exact h1
              · rw [put2_other _ _ e3]; exact h1
    · exact S
  · exact S
end
end Go.Proofs.Ytlpknnoacpfnnaa

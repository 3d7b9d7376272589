/-
  Roams, as the pure net has it: how it begins.
-/
import Derived.Test.YtodfcpblcpogiaaHg
import Derived.Test.YtodfcpblcpogiaaQuiet
namespace Go.Proofs.Ytodfcpblcpogiaa

/-- How many Event frames wait. -/
def Net.evN (σ : Net) : Nat := sum6 fun x => sum6 fun y => (evs (σ.q x y)).length
/-- How many events are on their way to a subscription, or kept. -/
def Net.cnt (σ : Net) (s : Nat) : Nat := σ.mass s + σ.evN
def evOne (f : Fr) : Nat := if f.news = none then 0 else 1

section
variable {σ τ : Net} {s a b : Nat} {r : List Fr}
theorem evN_congr (h : ∀ u v, evs (τ.q u v) = evs (σ.q u v)) : τ.evN = σ.evN := by unfold Net.evN; simp only [h]
theorem evN_put2 (σ : Net) {x y : Nat} (hx : x < 6) (hy : y < 6) (l : List Fr) : Net.evN { σ with q := put2 σ.q x y l } + (evs (σ.q x y)).length = σ.evN + (evs l).length := by
  have h1 := sum6_put (fun a => sum6 fun b => (evs (σ.q a b)).length) (fun a => sum6 fun b => (evs (put2 σ.q x y l a b)).length) x hx (fun j hj => by
    have : ∀ b, put2 σ.q x y l j b = σ.q j b := fun b => put2_other _ _ (fun h => hj h.1)
    simp only [this])
  have h2 := sum6_put (fun b => (evs (σ.q x b)).length) (fun b => (evs (put2 σ.q x y l x b)).length) y hy (fun j hj => by
    rw [put2_other _ _ (fun h => hj h.2)])
  have h3 : (evs (put2 σ.q x y l x y)).length = (evs l).length := by rw [put2_same]
  unfold Net.evN
  show (sum6 fun a => sum6 fun b => (evs (put2 σ.q x y l a b)).length) + _ = _
  omega
theorem evs_one (f : Fr) (r : List Fr) : (evs (f :: r)).length = evOne f + (evs r).length := by
  cases f with
  | event e => show (e :: evs r).length = 1 + _; rw [List.length_cons]; omega
  | _ => show (evs r).length = 0 + _; omega
theorem evN_push (σ : Net) {x y : Nat} (hx : x < 6) (hy : y < 6) (f : Fr) : (σ.push x y f).evN = σ.evN + evOne f := by
  have h := evN_put2 σ hx hy (σ.q x y ++ [f])
  have h1 : (σ.push x y f).evN = Net.evN { σ with q := put2 σ.q x y (σ.q x y ++ [f]) } := rfl
  rw [evs_append, List.length_append, evs_one] at h
  have h2 : (evs []).length = 0 := rfl
  omega
theorem evN_pop (σ : Net) {x y : Nat} (hx : x < 6) (hy : y < 6) {f : Fr} {r : List Fr} (hq : σ.q x y = f :: r) : Net.evN { σ with q := put2 σ.q x y r } + evOne f = σ.evN := by
  have h := evN_put2 σ hx hy r
  rw [hq, evs_one] at h
  omega
theorem evN_pushAll (f : Fr) {x : Nat} (hx : x < 6) : ∀ (ys : List Nat) (σ : Net), (∀ y, y ∈ ys → y < 6) → (σ.pushAll x ys f).evN = σ.evN + ys.length * evOne f
  | [], σ, _ => by simp [Net.pushAll]
  | y :: ys, σ, h => by
    have h1 := evN_pushAll f hx ys (σ.push x y f) (fun z hz => h z (List.mem_cons_of_mem _ hz))
    rw [evN_push σ hx (h y (List.mem_cons_self ..)) f] at h1
    rw [List.length_cons, Nat.add_mul]
    have h2 : (σ.pushAll x (y :: ys) f).evN = ((σ.push x y f).pushAll x ys f).evN := rfl
    omega

/-! ### one subscription alone -/
structure Lone (s : Nat) (σ : Net) : Prop where
  kn : ∀ b t f, σ.kn b t = some f → t = s
  fr : ∀ x y f, f ∈ σ.q x y → f.news ≠ none ∨ f.about s = true
  use : ∀ c k, k < 2 → (σ.cl c).used k = true → 2 * c + k = s

theorem filter_one {p : Nat → Bool} {y0 : Nat} (h : ∀ y, p y = true → y = y0) (n : Nat) : ((List.range n).filter p).length ≤ 1 := by
  have hnd : ((List.range n).filter p).Nodup := List.nodup_range.sublist List.filter_sublist
  have hall : ∀ y, y ∈ (List.range n).filter p → y = y0 := fun y hy => h y (List.mem_filter.1 hy).2
  match hl : (List.range n).filter p with
  | [] => simp
  | [y] => simp
  | y :: z :: l =>
    rw [hl] at hnd hall
    have h1 := hall y (by simp)
    have h2 := hall z (by simp)
    rw [h1, h2] at hnd
    simp at hnd
theorem Lone.targets (A : Lone s σ) (b : Nat) (e : News) (fr : Option Nat) : (σ.targets b e fr).length ≤ 1 ∧ ((∀ f, σ.kn b s = some f → f.way = none) → σ.targets b e fr = []) := by
  have key : ∀ y, y ∈ σ.targets b e fr → ∃ f, σ.kn b s = some f ∧ f.way = some y := fun y hy => by
    unfold Net.targets at hy
    obtain ⟨_, h2⟩ := List.mem_filter.1 hy
    simp only [Bool.and_eq_true, List.any_eq_true] at h2
    obtain ⟨_, t, _, h3⟩ := h2
    unfold Net.wants at h3
    split at h3
    · cases h3
    · rename_i f hf
      have := A.kn b t f hf
      subst this
      simp only [Bool.and_eq_true, decide_eq_true_eq] at h3
      exact ⟨f, hf, h3.2⟩
  refine ⟨?_, fun h => ?_⟩
  · cases hk : σ.kn b s with
    | none =>
      have : σ.targets b e fr = [] := List.eq_nil_iff_forall_not_mem.2 (fun y hy => by obtain ⟨f, h1, _⟩ := key y hy; rw [hk] at h1; cases h1)
      rw [this]; simp
    | some f =>
      cases hw : f.way with
      | none =>
        have : σ.targets b e fr = [] := List.eq_nil_iff_forall_not_mem.2 (fun y hy => by obtain ⟨g, h1, h2⟩ := key y hy; rw [hk] at h1; cases h1; rw [hw] at h2; cases h2)
        rw [this]; simp
      | some y0 =>
        unfold Net.targets
        refine filter_one (y0 := y0) (fun y hp => ?_) 6
        simp only [Bool.and_eq_true, List.any_eq_true] at hp
        obtain ⟨_, t, _, h3⟩ := hp
        unfold Net.wants at h3
        split at h3
        · cases h3
        · rename_i g hg
          have := A.kn b t g hg
          subst this
          rw [hk] at hg; cases hg
          simp only [Bool.and_eq_true, decide_eq_true_eq] at h3
          have := h3.2
          rw [hw] at this
          exact (Option.some.inj this).symm
  · exact List.eq_nil_iff_forall_not_mem.2 (fun y hy => by obtain ⟨f, h1, h2⟩ := key y hy; rw [h f h1] at h2; cases h2)

/-- What finds no room found six. -/
theorem lost_six (hs : s < 8) {e : News} {fr : Option Nat} (hL : Lost σ (σ.happens b e fr) s b) : ∃ f, σ.kn b s = some f ∧ 6 ≤ f.kept.length := by
  obtain ⟨l1, l2, hl, h1, h2⟩ : ∃ l1 l2, List.range 8 = l1 ++ s :: l2 ∧ s ∉ l1 ∧ s ∉ l2 := by
    refine ⟨List.range s, (List.range (7 - s)).map (· + (s + 1)), ?_, ?_, ?_⟩
    · rcases s with _ | _ | _ | _ | _ | _ | _ | _ | s
      all_goals first | rfl | omega
    · simp
    · simp only [List.mem_map, List.mem_range, not_exists, not_and]
      intro x _ hx
      omega
  have hh : (List.range 8).foldl (fun σ s => σ.hear b e s) σ = ((σ.hears b e l1).hear b e s).hears b e l2 := by
    show σ.hears b e (List.range 8) = _
    rw [hl]
    simp [Net.hears, List.foldl_append]
  obtain ⟨f, k1, k2⟩ := hL
  refine ⟨f, k1, ?_⟩
  obtain ⟨ρ, hρ⟩ : ∃ ρ, ρ = σ.hears b e l1 := ⟨_, rfl⟩
  rw [← hρ] at hh
  have hkρ : ρ.kn b s = some f := by rw [hρ, (slc_hears l1 σ h1).kn]; exact k1
  have hkτ : (ρ.hear b e s).kn b s = some { f with more := f.more + 1 } := by
    rw [← k2]
    unfold Net.happens
    rw [hh]
    exact ((slc_hears l2 _ h2).trans (slc_pushAll b (.event e) _ _)).kn b |>.symm
  unfold Net.hear at hkτ
  rw [hkρ] at hkτ
  simp only at hkτ
  split at hkτ
  · split at hkτ
    · have hkτ : put2 ρ.kn b s _ b s = _ := hkτ
      rw [put2_same] at hkτ
      have := congrArg (fun x : Fact => x.kept.length) (Option.some.inj hkτ)
      simp at this
    · rename_i h3
      split at hkτ
      · rename_i h4
        simp only [Bool.or_eq_true, Bool.and_eq_true, decide_eq_true_eq, not_or, not_and] at h3
        have := h3.2 h4
        omega
      · have hkτ : ρ.kn b s = some { f with more := f.more + 1 } := hkτ
        rw [hkρ] at hkτ
        have := congrArg Fact.more (Option.some.inj hkτ)
        simp only at this
        omega
  · rw [hkρ] at hkτ
    have := congrArg Fact.more (Option.some.inj hkτ)
    simp only at this
    omega

/-- What is kept: at one broker no more than in all. -/
theorem kept_le_mass {f : Fact} (hb : b < 6) (h : σ.kn b s = some f) : f.kept.length ≤ σ.mass s := by
  have h1 : keptLen (σ.kn b s) ≤ σ.massK s := le_sum6 (f := fun b => keptLen (σ.kn b s)) hb
  rw [h] at h1
  have h1 : f.kept.length ≤ σ.massK s := h1
  unfold Net.mass; omega
/-- AN EVENT AT A BROKER: it counts as one; if there is room it is not lost. -/
theorem Lone.happens (A : Lone s σ) (G : Good σ) (hs : s < 8) (hb : b < 6) (e : News) (fr : Option Nat) : (σ.happens b e fr).cnt s ≤ σ.cnt s + 1 ∧ (σ.cnt s ≤ 5 → (σ.happens b e fr).lgl s = σ.lgl s) ∧ Lone s (σ.happens b e fr) := by
  obtain ⟨ρ, hρ⟩ : ∃ ρ, ρ = σ.hears b e (List.range 8) := ⟨_, rfl⟩
  have hτ : σ.happens b e fr = ρ.pushAll b (σ.targets b e fr) (.event e) := by rw [hρ]; rfl
  have hlt : ∀ y, y ∈ σ.targets b e fr → y < 6 := fun y hy => List.mem_range.1 (List.mem_filter.1 hy).1
  have hq : ρ.q = σ.q := by rw [hρ]; exact (hears_keeps b e (List.range 8) σ).2.1
  have hk : (σ.happens b e fr).kn = ρ.kn := by rw [hτ]; exact (pushAll_keeps _ _).1
  have hev : (σ.happens b e fr).evN = σ.evN + (σ.targets b e fr).length := by
    rw [hτ, evN_pushAll _ hb _ _ hlt, evN_congr (τ := ρ) (σ := σ) (fun u v => by rw [hq])]
    show _ + _ * 1 = _
    omega
  have hm : (σ.happens b e fr).mass s = ρ.mass s := by
    rw [hτ]; exact mass_pushAll s rfl b _ _ hlt hb
  have hQ : ρ.massQ s = σ.massQ s := by simp only [Net.massQ, Net.restQ, hq]
  have hsum : ∀ n : Nat, (∀ z, z ≠ b → keptLen (ρ.kn z s) = keptLen (σ.kn z s)) → keptLen (ρ.kn b s) = keptLen (σ.kn b s) + n → ρ.mass s = σ.mass s + n := fun n h2 h3 => by
    have := sum6_put (fun z => keptLen (σ.kn z s)) (fun z => keptLen (ρ.kn z s)) b hb h2
    simp only [Net.mass, Net.massK, hQ]
    omega
  have same : (∀ z, (σ.happens b e fr).kn z s = σ.kn z s) → ρ.mass s = σ.mass s := fun g => hsum 0 (fun z _ => by rw [← hk, g]) (by rw [← hk, g]; rfl)
  obtain ⟨t1, t2⟩ := A.targets b e fr
  have way0 : ∀ g, σ.kn b s = some g → g.way = none → (σ.targets b e fr).length = 0 := fun g hg hw => by
    rw [t2 (fun f hf => by rw [hg] at hf; cases hf; exact hw)]; rfl
  refine ⟨?_, fun h5 => ?_, ?_⟩
  · unfold Net.cnt
    rw [hev, hm]
    cases happens_as σ hs b e fr with
    | none _ hk' _ => rw [same hk']; omega
    | told _ _ _ _ _ hk' _ => rw [same hk']; omega
    | kept g hg hw _ _ hk' hb' _ =>
      rw [hsum 1 (fun z hz => by rw [← hk, hk' z hz]) (by rw [← hk, hb', hg]; show (g.kept ++ [e]).length = g.kept.length + 1; simp), way0 g hg hw]
      omega
    | lost g hg hw _ _ hk' hb' _ =>
      rw [hsum 0 (fun z hz => by rw [← hk, hk' z hz]) (by rw [← hk, hb', hg]; rfl), way0 g hg hw]
      omega
  · have hnl : ¬ Lost σ (σ.happens b e fr) s b := fun hL => by
      obtain ⟨f, k1, k2⟩ := lost_six hs hL
      have := kept_le_mass hb k1
      unfold Net.cnt at h5
      omega
    unfold Net.lgl
    rw [lg_happens, (left_happens G hs hb e fr).2 hnl]
  · have hsm := Sm.happens σ b e fr
    refine ⟨fun z t f hf => ?_, fun x y f hf => ?_, fun c k hk2 hu => by rw [(hsm c).used] at hu; exact A.use c k hk2 hu⟩
    · by_cases ht : t = s
      · exact ht
      · have hn : ∀ z, σ.kn z t = none := fun z => by
          cases hkn : σ.kn z t with
          | none => rfl
          | some g => exact absurd (A.kn z t g hkn) ht
        by_cases ht8 : t < 8
        · cases happens_as σ ht8 b e fr with
          | none _ hk' _ => rw [hk', hn] at hf; cases hf
          | told _ _ _ _ _ hk' _ => rw [hk', hn] at hf; cases hf
          | kept g hg _ _ _ _ _ _ => rw [hn] at hg; cases hg
          | lost g hg _ _ _ _ _ _ => rw [hn] at hg; cases hg
        · exfalso
          rw [hk, hρ, (slc_hears (s := t) (List.range 8) σ (fun g => ht8 (List.mem_range.1 g))).kn, hn] at hf
          cases hf
    · rw [hτ] at hf
      rcases (mem_pushes _ _).1 hf with h | ⟨_, _, h⟩
      · rw [hq] at h; exact A.fr x y f h
      · rw [h]; exact Or.inl (by simp [Fr.news])

theorem cnt_pop (σ : Net) (s : Nat) {x y : Nat} (hx : x < 6) (hy : y < 6) {f : Fr} {r : List Fr} (hq : σ.q x y = f :: r) : Net.cnt { σ with q := put2 σ.q x y r } s + restLen s f + evOne f = σ.cnt s := by
  have h1 := mass_pop σ s hx hy hq
  have h2 := evN_pop σ hx hy hq
  unfold Net.cnt; omega
theorem cnt_push (σ : Net) (s : Nat) {x y : Nat} (hx : x < 6) (hy : y < 6) (f : Fr) : (σ.push x y f).cnt s = σ.cnt s + restLen s f + evOne f := by
  have h1 := mass_push σ s hx hy f
  have h2 := evN_push σ hx hy f
  unfold Net.cnt; omega
theorem cnt_know (σ : Net) {b : Nat} (hb : b < 6) (s : Nat) (o : Option Fact) : (σ.know b s o).cnt s + keptLen (σ.kn b s) = σ.cnt s + keptLen o := by
  have h1 := mass_know σ hb s o
  have h2 : (σ.know b s o).evN = σ.evN := rfl
  unfold Net.cnt; omega
theorem cnt_same (hk : τ.kn = σ.kn) (hq : τ.q = σ.q) : τ.cnt s = σ.cnt s := by
  unfold Net.cnt; rw [mass_congr hk hq, evN_congr (τ := τ) (σ := σ) (fun u v => by rw [hq])]
theorem cnt_pushAll (s : Nat) {f : Fr} (hf : restLen s f = 0) (he : evOne f = 0) {x : Nat} (hx : x < 6) (ys : List Nat) (σ : Net) (hy : ∀ y, y ∈ ys → y < 6) : (σ.pushAll x ys f).cnt s = σ.cnt s := by
  unfold Net.cnt; rw [mass_pushAll s hf x ys σ hy hx, evN_pushAll f hx ys σ hy, he]; omega
theorem Lone.pop (A : Lone s σ) {f : Fr} (hq : σ.q a b = f :: r) : Lone s { σ with q := put2 σ.q a b r } := ⟨A.kn, fun x y g hg => A.fr x y g ((mem_pop hq).2 (Or.inl hg)), A.use⟩
theorem Lone.know (A : Lone s σ) (b : Nat) (o : Option Fact) : Lone s (σ.know b s o) := ⟨fun z t f hf => by
  by_cases e : t = s
  · exact e
  · have hf : put2 σ.kn b s o z t = some f := hf
    rw [put2_other _ _ (fun g => e g.2)] at hf
    exact A.kn z t f hf, A.fr, A.use⟩
theorem Lone.pushAll (A : Lone s σ) {f : Fr} (hf : f.about s = true) (x : Nat) (ys : List Nat) : Lone s (σ.pushAll x ys f) := by
  have h := pushAll_keeps (f := f) (x := x) ys σ
  refine ⟨fun b t g hg => by rw [h.1] at hg; exact A.kn b t g hg, fun u v g hg => ?_, fun c k hk hu => by rw [h.2.1] at hu; exact A.use c k hk hu⟩
  rcases (mem_pushes _ _).1 hg with h1 | ⟨_, _, h1⟩
  · exact A.fr u v g h1
  · rw [h1]; exact Or.inr hf
theorem Lone.sm (A : Lone s σ) (hk : τ.kn = σ.kn) (hq : τ.q = σ.q) (hs : Sm σ τ) : Lone s τ := ⟨fun b t f hf => by rw [hk] at hf; exact A.kn b t f hf, fun x y f hf => by rw [hq] at hf; exact A.fr x y f hf, fun c k hk hu => by rw [(hs c).used] at hu; exact A.use c k hk hu⟩
theorem Lone.tells (A : Lone s σ) (l : List News) : Lone s (σ.tells s l) := A.sm (tells_keep s l σ).1 (tells_keep s l σ).2.1 (Sm.tells s l σ)
theorem Lone.lose (A : Lone s σ) (m : Int) : Lone s (σ.lose s m) := A.sm rfl rfl (Sm.lose σ s m)

/-- A FRAME IS HANDLED: no more are on their way than were; nothing is lost, where there is room. -/
theorem Lone.handle (A : Lone s σ) (G : Good σ) (hs : s < 8) {f : Fr} (hq : σ.q a b = f :: r) :
    (Net.handle { σ with q := put2 σ.q a b r } b (some a) f).cnt s ≤ σ.cnt s ∧ (σ.cnt s ≤ 6 → (Net.handle { σ with q := put2 σ.q a b r } b (some a) f).lgl s ≤ σ.lgl s) ∧ Lone s (Net.handle { σ with q := put2 σ.q a b r } b (some a) f) := by
  have T := G.tree
  have hn := G.nbr a b (by rw [hq]; simp)
  have h6 := near_lt6 T hn
  have hpop := cnt_pop σ s h6.1 h6.2 hq
  have hlpop := lgl_pop σ s h6.1 h6.2 hq
  have A1 := A.pop hq
  have hmem : f ∈ σ.q a b := by rw [hq]; exact List.mem_cons_self ..
  cases hnw : f.news with
  | some e =>
    have hfe : f = .event e := by
      cases f with
      | event e' => cases hnw; rfl
      | sub => cases hnw
      | unsub => cases hnw
      | move => cases hnw
      | rest => cases hnw
    subst hfe
    have e1 : restLen s (.event e) = 0 := rfl
    have e2 : evOne (.event e) = 1 := rfl
    have e3 : restMore s (.event e) = 0 := rfl
    obtain ⟨h1, h2, h3⟩ := A1.happens (good_pop G hq) hs h6.2 e (some a)
    refine ⟨?_, fun h5 => ?_, h3⟩
    · show (Net.happens { σ with q := put2 σ.q a b r } b e (some a)).cnt s ≤ _
      omega
    · show (Net.happens { σ with q := put2 σ.q a b r } b e (some a)).lgl s ≤ _
      rw [h2 (by omega)]
      omega
  | none =>
    have hab : f.about s = true := by
      rcases A.fr a b f hmem with h | h
      · exact absurd hnw h
      · exact h
    cases f with
    | event => cases hab
    | sub t age fl =>
      have hts : t = s := by simpa [Fr.about] using hab
      subst hts
      have e1 : restLen t (.sub t age fl) = 0 := rfl
      have e2 : evOne (.sub t age fl) = 0 := rfl
      have e3 : restMore t (.sub t age fl) = 0 := rfl
      have hT : Tree (Net.learn { σ with q := put2 σ.q a b r } b t age fl (some a)).par := by rw [(learn_keeps _ _ _ _ _ _).1]; exact T
      have hk := cnt_know { σ with q := put2 σ.q a b r } h6.2 t (some ⟨age, fl, some a, [], 0, false⟩)
      have hl := lgl_know { σ with q := put2 σ.q a b r } h6.2 t (some ⟨age, fl, some a, [], 0, false⟩)
      have e4 : keptLen (some ⟨age, fl, some a, [], 0, false⟩) = 0 := rfl
      have e5 : moreLen (some ⟨age, fl, some a, [], 0, false⟩) = 0 := rfl
      have hle : (Net.learn { σ with q := put2 σ.q a b r } b t age fl (some a)).cnt t ≤ Net.cnt { σ with q := put2 σ.q a b r } t ∧ (Net.learn { σ with q := put2 σ.q a b r } b t age fl (some a)).lgl t ≤ Net.lgl { σ with q := put2 σ.q a b r } t ∧ Lone t (Net.learn { σ with q := put2 σ.q a b r } b t age fl (some a)) := by
        unfold Net.learn
        split
        · exact ⟨by omega, by omega, A1.know b _⟩
        · split
          · exact ⟨by omega, by omega, A1.know b _⟩
          · exact ⟨Nat.le_refl _, Nat.le_refl _, A1⟩
      refine ⟨?_, fun _ => ?_, hle.2.2.pushAll (by simp [Fr.about]) _ _⟩
      · show (Net.pushAll _ _ _ _).cnt t ≤ _
        rw [cnt_pushAll t e1 e2 h6.2 _ _ (others_lt6 hT)]
        omega
      · show (Net.pushAll _ _ _ _).lgl t ≤ _
        rw [lgl_pushAll t e3 h6.2 _ _ (others_lt6 hT)]
        omega
    | unsub t age =>
      have hts : t = s := by simpa [Fr.about] using hab
      subst hts
      have e1 : restLen t (.unsub t age) = 0 := rfl
      have e2 : evOne (.unsub t age) = 0 := rfl
      have e3 : restMore t (.unsub t age) = 0 := rfl
      have hT : Tree (Net.forget { σ with q := put2 σ.q a b r } b t age).par := by rw [(forget_keeps _ _ _ _).1]; exact T
      have hk := cnt_know { σ with q := put2 σ.q a b r } h6.2 t none
      have hl := lgl_know { σ with q := put2 σ.q a b r } h6.2 t none
      have e4 : keptLen none = 0 := rfl
      have e5 : moreLen none = 0 := rfl
      have hle : (Net.forget { σ with q := put2 σ.q a b r } b t age).cnt t ≤ Net.cnt { σ with q := put2 σ.q a b r } t ∧ (Net.forget { σ with q := put2 σ.q a b r } b t age).lgl t ≤ Net.lgl { σ with q := put2 σ.q a b r } t ∧ Lone t (Net.forget { σ with q := put2 σ.q a b r } b t age) := by
        unfold Net.forget
        split
        · exact ⟨Nat.le_refl _, Nat.le_refl _, A1⟩
        · split
          · exact ⟨by omega, by omega, A1.know b _⟩
          · exact ⟨Nat.le_refl _, Nat.le_refl _, A1⟩
      refine ⟨?_, fun _ => ?_, hle.2.2.pushAll (by simp [Fr.about]) _ _⟩
      · show (Net.pushAll _ _ _ _).cnt t ≤ _
        rw [cnt_pushAll t e1 e2 h6.2 _ _ (others_lt6 hT)]
        omega
      · show (Net.pushAll _ _ _ _).lgl t ≤ _
        rw [lgl_pushAll t e3 h6.2 _ _ (others_lt6 hT)]
        omega
    | move t age fl old new =>
      have hts : t = s := by simpa [Fr.about] using hab
      subst hts
      have e1 : restLen t (.move t age fl old new) = 0 := rfl
      have e2 : evOne (.move t age fl old new) = 0 := rfl
      have e3 : restMore t (.move t age fl old new) = 0 := rfl
      have hk : (Net.know { σ with q := put2 σ.q a b r } b t (some ⟨age, fl, some a, [], 0, false⟩)).cnt t + keptLen (σ.kn b t) = Net.cnt { σ with q := put2 σ.q a b r } t + keptLen (some ⟨age, fl, some a, [], 0, false⟩) := cnt_know { σ with q := put2 σ.q a b r } h6.2 t (some ⟨age, fl, some a, [], 0, false⟩)
      have hl : (Net.know { σ with q := put2 σ.q a b r } b t (some ⟨age, fl, some a, [], 0, false⟩)).lgl t + moreLen (σ.kn b t) = Net.lgl { σ with q := put2 σ.q a b r } t + moreLen (some ⟨age, fl, some a, [], 0, false⟩) := lgl_know { σ with q := put2 σ.q a b r } h6.2 t (some ⟨age, fl, some a, [], 0, false⟩)
      have e4 : keptLen (some ⟨age, fl, some a, [], 0, false⟩) = 0 := rfl
      have e5 : moreLen (some ⟨age, fl, some a, [], 0, false⟩) = 0 := rfl
      have A2 : Lone t (Net.know { σ with q := put2 σ.q a b r } b t (some ⟨age, fl, some a, [], 0, false⟩)) := A1.know b _
      simp only [Net.handle]
      split
      · rw [cnt_push _ t h6.2 h6.1, lgl_push _ t h6.2 h6.1]
        cases hkn : σ.kn b t with
        | none =>
          have e6 : restLen t (.rest t [] 0 new) = 0 := by simp [restLen]
          have e7 : restMore t (.rest t [] 0 new) = 0 := by simp [restMore]
          have e8 : evOne (.rest t [] 0 new) = 0 := rfl
          refine ⟨?_, fun _ => ?_, A2.pushAll (f := .rest t [] 0 new) (by simp [Fr.about]) b [a]⟩
          · show _ + restLen t (.rest t [] 0 new) + evOne (.rest t [] 0 new) ≤ _
            omega
          · show _ + restMore t (.rest t [] 0 new) ≤ _
            omega
        | some g =>
          rw [hkn] at hk hl
          have e6 : restLen t (.rest t g.kept g.more new) = g.kept.length := by simp [restLen]
          have e7 : restMore t (.rest t g.kept g.more new) = g.more.toNat := by simp [restMore]
          have e8 : evOne (.rest t g.kept g.more new) = 0 := rfl
          have e9 : keptLen (some g) = g.kept.length := rfl
          have e10 : moreLen (some g) = g.more.toNat := rfl
          refine ⟨?_, fun _ => ?_, A2.pushAll (f := .rest t g.kept g.more new) (by simp [Fr.about]) b [a]⟩
          · show _ + restLen t (.rest t g.kept g.more new) + evOne (.rest t g.kept g.more new) ≤ _
            omega
          · show _ + restMore t (.rest t g.kept g.more new) ≤ _
            omega
      · rename_i hbo
        have hol : old < σ.n := (G.frames a b _ hmem).2.2.1
        have hn6 : next σ.par b old < 6 := Nat.lt_of_lt_of_le (near_lt T (next_step T (near_lt T hn).2 hol hbo).1).2 (size_le T)
        refine ⟨?_, fun _ => ?_, A2.pushAll (f := .move t age fl old new) (by simp [Fr.about]) b [next σ.par b old]⟩
        · rw [cnt_push _ t h6.2 hn6]; omega
        · rw [lgl_push _ t h6.2 hn6]; omega
    | rest t evs m new =>
      have hts : t = s := by simpa [Fr.about] using hab
      subst hts
      have e1 : restLen t (.rest t evs m new) = evs.length := by simp [restLen]
      have e2 : evOne (.rest t evs m new) = 0 := rfl
      have e3 : restMore t (.rest t evs m new) = m.toNat := by simp [restMore]
      simp only [Net.handle]
      split
      · rename_i hbn
        have hnl : new < σ.n := (G.frames a b _ hmem).2.1
        have hn6 : next σ.par b new < 6 := Nat.lt_of_lt_of_le (near_lt T (next_step T (near_lt T hn).2 hnl hbn).1).2 (size_le T)
        refine ⟨?_, fun _ => ?_, A1.pushAll (f := .rest t evs m new) (by simp [Fr.about]) b [next σ.par b new]⟩
        · rw [cnt_push _ t h6.2 hn6]; omega
        · rw [lgl_push _ t h6.2 hn6]; omega
      · split
        · exact ⟨by omega, fun _ => by omega, A1⟩
        · rename_i g hg
          obtain ⟨ρ, hρ⟩ : ∃ ρ, ρ = ((Net.lose { σ with q := put2 σ.q a b r } t m).tells t evs).tells t g.kept := ⟨_, rfl⟩
          have hρk : ρ.kn = σ.kn := by rw [hρ, (tells_keep t _ _).1, (tells_keep t _ _).1]; rfl
          have hρq : ρ.q = put2 σ.q a b r := by rw [hρ, (tells_keep t _ _).2.1, (tells_keep t _ _).2.1]; rfl
          have hg : σ.kn b t = some g := hg
          have hk := cnt_know ρ h6.2 t (some { g with kept := [], waits := false })
          have hl := lgl_know ρ h6.2 t (some { g with kept := [], waits := false })
          have c1 : ρ.cnt t = Net.cnt { σ with q := put2 σ.q a b r } t := cnt_same (τ := ρ) (σ := { σ with q := put2 σ.q a b r }) hρk hρq
          have l1 : ρ.lgl t = Net.lgl { σ with q := put2 σ.q a b r } t + m.toNat := by rw [hρ, lgl_tells, lgl_tells, lgl_lose]
          rw [hρk, hg, c1] at hk
          rw [hρk, hg, l1] at hl
          have e4 : keptLen (some { g with kept := [], waits := false }) = 0 := rfl
          have e5 : moreLen (some { g with kept := [], waits := false }) = g.more.toNat := rfl
          have e6 : moreLen (some g) = g.more.toNat := rfl
          rw [← hρ]
          refine ⟨by omega, fun _ => by omega, ?_⟩
          rw [hρ]
          exact (((A1.lose m).tells evs).tells g.kept).know b _
end

section
variable {σ τ : Net} {s c b k : Nat}
theorem Lone.backs (A : Lone s σ) (hb : b < 6) (hk : k < 2) (c : Nat) : Lone s (σ.backs c b k) ∧ (σ.backs c b k).cnt s ≤ σ.cnt s := by
  unfold Net.backs
  split
  · rename_i hu
    have hs2 := A.use c k hk hu
    split
    · exact ⟨A, Nat.le_refl _⟩
    · rename_i f hf
      rw [hs2] at hf ⊢
      have hk1 := cnt_know ((σ.lose s f.more).tells s f.kept) hb s (some { f with kept := [], more := 0 })
      have e1 : ((σ.lose s f.more).tells s f.kept).cnt s = σ.cnt s := cnt_same ((tells_keep s f.kept _).1.trans rfl) ((tells_keep s f.kept _).2.1.trans rfl)
      have e2 : keptLen (some { f with kept := [], more := 0 }) = 0 := rfl
      exact ⟨((A.lose f.more).tells f.kept).know b _, by omega⟩
  · exact ⟨A, Nat.le_refl _⟩
theorem Lone.comes (A : Lone s σ) {old : Nat} (hb : b < 6) (hn : next σ.par b old < 6) (hk : k < 2) (c : Nat) : Lone s (σ.comes c b old k) ∧ (σ.comes c b old k).cnt s ≤ σ.cnt s := by
  unfold Net.comes
  dsimp only
  split
  · rename_i hu
    have hs2 := A.use c k hk hu
    obtain ⟨x, hx⟩ : ∃ x : Cli, x = { σ.cl c with age := put (σ.cl c).age k ((σ.cl c).age k + 1) } := ⟨_, rfl⟩
    have A1 : Lone s (σ.setCl c x) := A.sm rfl rfl (Sm.setCl (by rw [hx]; exact ⟨rfl, rfl, rfl, rfl, rfl⟩))
    rw [hs2]
    have key : Lone s (((σ.setCl c x).know b s (some ⟨(σ.cl c).age k + 1, (σ.cl c).fl k, none, [], 0, true⟩)).push b (next σ.par b old) (.move s ((σ.cl c).age k + 1) ((σ.cl c).fl k) old b)) ∧ (((σ.setCl c x).know b s (some ⟨(σ.cl c).age k + 1, (σ.cl c).fl k, none, [], 0, true⟩)).push b (next σ.par b old) (.move s ((σ.cl c).age k + 1) ((σ.cl c).fl k) old b)).cnt s ≤ σ.cnt s := by
      refine ⟨(A1.know b _).pushAll (f := .move s ((σ.cl c).age k + 1) ((σ.cl c).fl k) old b) (by simp [Fr.about]) b [next σ.par b old], ?_⟩
      rw [cnt_push _ s hb hn]
      have hk1 := cnt_know (σ.setCl c x) hb s (some ⟨(σ.cl c).age k + 1, (σ.cl c).fl k, none, [], 0, true⟩)
      have e1 : (σ.setCl c x).cnt s = σ.cnt s := cnt_same rfl rfl
      have e2 : keptLen (some (⟨(σ.cl c).age k + 1, (σ.cl c).fl k, none, [], 0, true⟩ : Fact)) = 0 := rfl
      have e3 : restLen s (.move s ((σ.cl c).age k + 1) ((σ.cl c).fl k) old b) = 0 := rfl
      have e4 : evOne (.move s ((σ.cl c).age k + 1) ((σ.cl c).fl k) old b) = 0 := rfl
      omega
    rw [hx] at key
    exact key
  · exact ⟨A, Nat.le_refl _⟩
theorem Lone.arrive (A : Lone s σ) (c b : Nat) : Lone s (σ.arrive c b) ∧ (σ.arrive c b).cnt s = σ.cnt s := by
  refine ⟨⟨A.kn, A.fr, fun d k hk hu => A.use d k hk ?_⟩, cnt_same rfl rfl⟩
  have hu : (put σ.cl c _ d).used k = true := hu
  by_cases e : d = c
  · subst e; rw [put_same] at hu; exact hu
  · rw [put_other _ _ e] at hu; exact hu
theorem Lone.attach (A : Lone s σ) (G : Good σ) {c b : Nat} (hE : σ.attachE c b = 0) : Lone s (σ.attach c b) ∧ (σ.attach c b).cnt s ≤ σ.cnt s := by
  have hz := attachE_zero hE
  simp only [toNat_nat] at hz
  have hA : σ.attach c b = σ.attachN c b := by unfold Net.attach; rw [if_pos hE]; simp only [toNat_nat]
  have T := G.tree
  have hbl : b < σ.n := by omega
  have hb6 : b < 6 := Nat.lt_of_lt_of_le hbl (size_le T)
  have hback : Lone s (((σ.backs c b 0).backs c b 1).arrive c b) ∧ (((σ.backs c b 0).backs c b 1).arrive c b).cnt s ≤ σ.cnt s := by
    obtain ⟨A0, h0⟩ := A.backs hb6 (k := 0) (by omega) c
    obtain ⟨A1, h1⟩ := A0.backs hb6 (k := 1) (by omega) c
    obtain ⟨A2, h2⟩ := A1.arrive c b
    exact ⟨A2, by omega⟩
  rw [hA]
  unfold Net.attachN
  split
  · exact hback
  · rename_i old hho
    split
    · exact hback
    · rename_i e2
      have hol : old < σ.n := (G.clis c (by omega)).home old hho
      have hn6 : next σ.par b old < 6 := Nat.lt_of_lt_of_le (near_lt T (next_step T hbl hol (fun g => e2 g.symm)).1).2 (size_le T)
      obtain ⟨A0, h0⟩ := A.comes hb6 hn6 (k := 0) (by omega) c
      obtain ⟨A1, h1⟩ := A0.comes (old := old) hb6 (by rw [(comes_keeps c b old 0).1]; exact hn6) (k := 1) (by omega) c
      obtain ⟨A2, h2⟩ := A1.arrive c b
      exact ⟨A2, by omega⟩
theorem Lone.pub (A : Lone s σ) (G : Good σ) (hs : s < 8) {c : Nat} (hc : c < 4) (hE : σ.pubE c = 0) (f0 f1 f2 : Int) : Lone s (σ.pub c f0 f1 f2) ∧ (σ.pub c f0 f1 f2).cnt s ≤ σ.cnt s + 1 ∧ (σ.cnt s ≤ 5 → (σ.pub c f0 f1 f2).lgl s = σ.lgl s) := by
  obtain ⟨b, hb, he⟩ := pub_eq hE f0 f1 f2
  have C := G.clis c hc
  have hb6 : b < 6 := Nat.lt_of_lt_of_le (C.here b hb) (size_le G.tree)
  obtain ⟨x, hx⟩ : ∃ x : Cli, x = { σ.cl c with many := (σ.cl c).many + 1 } := ⟨_, rfl⟩
  have A1 : Lone s (σ.setCl c x) := ⟨A.kn, A.fr, fun d k hk hu => A.use d k hk (by
    have hu : (put σ.cl c x d).used k = true := hu
    by_cases e : d = c
    · subst e; rw [put_same, hx] at hu; exact hu
    · rw [put_other _ _ e] at hu; exact hu)⟩
  have G1 : Good (σ.setCl c x) := G.setCl (by rw [hx]; exact ⟨C.here, C.home, C.fil⟩)
  have e1 : (σ.setCl c x).cnt s = σ.cnt s := cnt_same rfl rfl
  have e2 : (σ.setCl c x).lgl s = σ.lgl s := lgl_setCl σ (by rw [hx])
  obtain ⟨h1, h2, h3⟩ := A1.happens G1 hs hb6 (σ.pubEv c f0 f1 f2) none
  rw [e1] at h1 h2
  rw [e2] at h2
  rw [he, ← hx]
  exact ⟨h3, h1, h2⟩
theorem weight_pub (G : Good σ) {c : Nat} (hc : c < 4) (hE : σ.pubE c = 0) (f0 f1 f2 : Int) : (σ.pub c f0 f1 f2).weight ≤ σ.weight + 5 := by
  obtain ⟨b, hb, he⟩ := pub_eq hE f0 f1 f2
  have C := G.clis c hc
  have hbl : b < size σ.par := C.here b hb
  have hb6 : b < 6 := Nat.lt_of_lt_of_le hbl (size_le G.tree)
  obtain ⟨x, hx⟩ : ∃ x : Cli, x = { σ.cl c with many := (σ.cl c).many + 1 } := ⟨_, rfl⟩
  have G1 : Good (σ.setCl c x) := G.setCl (by rw [hx]; exact ⟨C.here, C.home, C.fil⟩)
  have h1 := weight_happens G1 hb6 (σ.pubEv c f0 f1 f2) none
  have h2 := targets_sum G1 (b := b) (e := σ.pubEv c f0 f1 f2) (fr := none)
  have h3 := beyond_all G1.tree (x := b) hbl
  have h4 := filter_sum_le (g := fun z => beyond (σ.setCl c x).par b z) (p := fun z => near (σ.setCl c x).par b z && decide (some z ≠ none)) (r := fun z => near (σ.setCl c x).par b z) (List.range (size (σ.setCl c x).par)) (fun z _ hz => by simpa using hz)
  have h5 : (σ.setCl c x).weight = σ.weight := rfl
  rw [he, ← hx]
  omega
theorem weight_attach (L : Live σ) {c b : Nat} (hE : σ.attachE c b = 0) : (σ.attach c b).weight ≤ σ.weight + 28 := by
  have hz := attachE_zero hE
  simp only [toNat_nat] at hz
  have hA : σ.attach c b = σ.attachN c b := by unfold Net.attach; rw [if_pos hE]; simp only [toNat_nat]
  have hc : c < 4 := by omega
  have hbl : b < σ.n := by omega
  rw [hA]
  unfold Net.attachN
  split
  · rename_i hh
    rw [(L.home_ hc hbl hz.2.2.2.1 (Or.inl hh)).2]; omega
  · rename_i old hho
    split
    · rename_i e; subst e
      rw [(L.home_ hc hbl hz.2.2.2.1 (Or.inr hho)).2]; omega
    · rename_i e2
      exact (L.elsewhere hc hbl hz.2.2.2.1 hho (fun g => e2 g.symm)).2
end

/-! ### the state -/
def rT (z : Int) (s : Nat) : Wt := if s = 4 then ⟨true, z, 0⟩ else ⟨false, 0, 0⟩
/-- What was published. -/
def EvAt (E : List News) : Prop := ∀ (i : Nat) n, E[i]? = some n → n.ev.pub = 3 ∧ n.ev.num = i + 1 ∧ n.ev.f0 = i + 1 ∧ n.stay = 1

/-- Two rows by rising numbers that hold the same are the same. -/
theorem rise_ext : ∀ (l m : List News), l.Pairwise (fun a b => a.ev.num < b.ev.num) → m.Pairwise (fun a b => a.ev.num < b.ev.num) → (∀ x, x ∈ l ↔ x ∈ m) → l = m
  | [], [], _, _, _ => rfl
  | [], b :: m, _, _, h => absurd ((h b).2 (List.mem_cons_self ..)) (by simp)
  | a :: l, [], _, _, h => absurd ((h a).1 (List.mem_cons_self ..)) (by simp)
  | a :: l, b :: m, h1, h2, h => by
    rw [List.pairwise_cons] at h1 h2
    have hab : a = b := by
      rcases List.mem_cons.1 ((h a).1 (List.mem_cons_self ..)) with e | e
      · exact e
      · rcases List.mem_cons.1 ((h b).2 (List.mem_cons_self ..)) with e' | e'
        · exact e'.symm
        · have k1 := h2.1 a e
          have k2 := h1.1 b e'
          omega
    subst hab
    congr 1
    refine rise_ext l m h1.2 h2.2 (fun x => ⟨fun hx => ?_, fun hx => ?_⟩)
    · rcases List.mem_cons.1 ((h x).1 (List.mem_cons_of_mem _ hx)) with e | e
      · subst e; have := h1.1 x hx; omega
      · exact e
    · rcases List.mem_cons.1 ((h x).2 (List.mem_cons_of_mem _ hx)) with e | e
      · subst e; have := h2.1 x hx; omega
      · exact e

structure RM (z : Int) (par : List Nat) (p : Nat) (E : List News) (n0 : Nat) (h2 : Option Nat) (t W m : Nat) (σ : Net) : Prop where
  tr : σ.par = par
  le : n0 ≤ E.length
  core : ∃ G, G 2 0 = E.take n0 ∧ Core E G σ
  room : Room σ m
  wat : ∃ M, Wat E σ (rT z) M
  lone : Lone 4 σ
  cnt : σ.cnt 4 ≤ t
  lgl : σ.lgl 4 = 0
  wt : σ.weight ≤ W
  here2 : (σ.cl 2).here = h2
  fl : (σ.cl 2).fl 0 = []
  here3 : (σ.cl 3).here = some p
  st3 : (σ.cl 3).stays = 1
  many : (σ.cl 3).many = E.length
  evs : EvAt E

section
variable {z : Int} {par : List Nat} {p : Nat} {E : List News} {n0 : Nat} {h2 : Option Nat} {t W m : Nat} {σ : Net}
theorem RM.opn (R : RM z par p E n0 h2 t W m σ) : σ.closed = false := by obtain ⟨_, _, C⟩ := R.core; exact C.opn
theorem RM.weak (R : RM z par p E n0 h2 t W m σ) {t' W' m' : Nat} (ht : t ≤ t') (hW : W ≤ W') (hm : m ≤ m') : RM z par p E n0 h2 t' W' m' σ :=
  { R with cnt := Nat.le_trans R.cnt ht, wt := Nat.le_trans R.wt hW, room := by obtain ⟨k, h1, h2⟩ := R.room; exact ⟨k, by omega, h2⟩ }
theorem RM.used (R : RM z par p E n0 h2 t W m σ) (c k : Nat) (hc : c < 4) (hk : k < 2) : (σ.cl c).used k = decide (2 * c + k = 4) := by
  obtain ⟨M, Wa⟩ := R.wat
  have := Wa.use (2 * c + k) (by omega)
  rw [show (2 * c + k) / 2 = c by omega, show (2 * c + k) % 2 = k by omega] at this
  rw [← this]
  unfold rT
  split
  · rename_i h; simp [h]
  · rename_i h; simp [h]

/-- A frame is handled. -/
theorem RM.del (R : RM z par p E n0 h2 t W m σ) (ht : t ≤ 6) {x y : Nat} {f : Fr} {l : List Fr} (hq : σ.q x y = f :: l) : RM z par p E n0 h2 t W m (σ.del x y) := by
  have F := R.room.fit
  have hsm := Sm.del σ x y
  have hnb := F.good.nbr x y (by rw [hq]; simp)
  have hd := (delE_some R.opn hnb hq).2
  obtain ⟨G, hG, C⟩ := R.core
  obtain ⟨M, Wa⟩ := R.wat
  obtain ⟨h1, h3, h4⟩ := R.lone.handle F.good (by omega) hq
  rw [← hd] at h1 h3 h4
  have hc := R.cnt
  have hl := R.lgl
  have hw := (F.good.del x y).2.1
  refine ⟨?_, R.le, ⟨G, hG, C.del F.live x y⟩, R.room.del R.opn hq, ⟨M, Wa.del C F hq⟩, h4, by omega, by have := h3 (by omega); omega, by have := R.wt; omega, by rw [(hsm 2).here]; exact R.here2, by rw [(hsm 2).fl]; exact R.fl, by rw [(hsm 3).here]; exact R.here3, by rw [(hsm 3).stays]; exact R.st3, by rw [(hsm 3).many]; exact R.many, R.evs⟩
  rw [hd, handle_par]; exact R.tr
theorem rm_runs (ht : t ≤ 6) (hm : m < 2000000000000) : Runs (RM z par p E n0 h2 t W m) m :=
  ⟨fun _ h => ⟨h.room.fit, hm⟩, fun _ h => h.opn, fun _ _ _ _ _ h hq => h.del ht hq⟩

/-- An event is published. -/
theorem RM.pub (R : RM z par p E n0 h2 t W m σ) (ht : t ≤ 5) (hW : W < 100) (g : Int) :
    σ.pubE 3 = 0 ∧ σ.pubA 3 = (E.length : Int) + 1 ∧ RM z par p (E ++ [σ.pubEv 3 ((E.length : Int) + 1) g 0]) n0 h2 (t + 1) (W + 5) (m + 48) (σ.pub 3 ((E.length : Int) + 1) g 0) := by
  have F := R.room.fit
  obtain ⟨G, hG, C⟩ := R.core
  obtain ⟨M, Wa⟩ := R.wat
  have hful : σ.full = false := full_of_weight F.good.linked (by have := R.wt; omega)
  have hE : σ.pubE ((3 : Nat) : Int) = 0 := by
    have h1 : σ.asked (isCli ((3 : Nat) : Int)) = 0 := asked_ok C.opn (isCli_nat (by omega))
    unfold Net.pubE
    rw [h1]
    simp [R.here3, hful]
  have hcl := fun d => pub_cl hE ((E.length : Int) + 1) g 0 d
  obtain ⟨L1, L2, L3⟩ := R.lone.pub F.good (by omega) (by omega : 3 < 4) hE ((E.length : Int) + 1) g 0
  have hwt := weight_pub F.good (by omega : 3 < 4) hE ((E.length : Int) + 1) g 0
  have hev : σ.pubEv ((3 : Nat) : Int) ((E.length : Int) + 1) g 0 = ⟨⟨3, (E.length : Int) + 1, (E.length : Int) + 1, g, 0⟩, 1⟩ := by
    unfold Net.pubEv
    have h1 : (σ.cl ((3 : Nat) : Int).toNat).many = E.length := R.many
    have h2 : (σ.cl ((3 : Nat) : Int).toNat).stays = 1 := R.st3
    rw [h1, h2]; rfl
  have hcn := R.cnt
  have hlg := R.lgl
  have hwo := R.wt
  have hle := R.le
  refine ⟨hE, ?_, ?_⟩
  · have hE' : σ.pubE 3 = 0 := hE
    unfold Net.pubA
    rw [if_pos hE']
    show (σ.cl 3).many + 1 = _
    rw [R.many]
  · show RM z par p (E ++ [σ.pubEv ((3 : Nat) : Int) ((E.length : Int) + 1) g 0]) n0 h2 (t + 1) (W + 5) (m + 48) (σ.pub ((3 : Nat) : Int) ((E.length : Int) + 1) g 0)
    refine ⟨?_, by rw [List.length_append]; omega, ⟨G, by rw [List.take_append_of_le_length hle]; exact hG, C.pub F.live (by omega) hE _ _ _⟩, ?_, ⟨_, Wa.pub C F (by omega) hE _ _ _ (F.pub _ _ _ _).r.alive.wt⟩, L1, by omega, by rw [L3 (by omega)]; exact hlg, by omega, by rw [((hcl 2).1 (by omega)).here]; exact R.here2, by rw [((hcl 2).1 (by omega)).fl]; exact R.fl, by rw [((hcl 3).2 rfl).here]; exact R.here3, by rw [((hcl 3).2 rfl).stays]; exact R.st3, ?_, ?_⟩
    · obtain ⟨b, _, he⟩ := pub_eq hE ((E.length : Int) + 1) g 0
      rw [he, (born_event b).par]; exact R.tr
    · obtain ⟨k, h1, h3⟩ := R.room
      exact ⟨k + 8, by omega, h3.pub _ _ _ _⟩
    · rw [((hcl 3).2 rfl).many, List.length_append]
      show (σ.cl 3).many + 1 = _
      rw [R.many]; simp
    · intro i n hi
      by_cases hlt : i < E.length
      · rw [List.getElem?_append_left hlt] at hi
        exact R.evs i n hi
      · rw [List.getElem?_append_right (by omega)] at hi
        have hi0 : i - E.length = 0 := by
          have := (List.getElem?_eq_some_iff.1 hi).1
          simp at this; omega
        rw [hi0] at hi
        simp only [List.getElem?_cons_zero, Option.some.injEq] at hi
        rw [← hi, hev]
        have : i = E.length := by omega
        subst this
        exact ⟨rfl, rfl, rfl, rfl⟩

/-- Nothing waits. -/
theorem RM.wh (R : RM 0 par p E n0 h2 t W m σ) : ∃ org, Wh σ 4 [] org E 0 0 [] ∧ Side σ 4 [] org E := by
  obtain ⟨M, Wa⟩ := R.wat
  obtain ⟨G, _, C⟩ := R.core
  have F := R.room.fit
  obtain ⟨org, _, hw⟩ := Wa.org
  obtain ⟨_, L, k⟩ := hw 4 (by omega) rfl (Int.le_refl _)
  have k : Wh σ 4 ((σ.cl 2).fl 0) org E 0 0 L := k
  rw [R.fl] at k
  have hL : L = [] := by
    have h1 := k.cnt
    have h3 := R.lgl
    unfold Net.lgl at h3
    exact List.eq_nil_of_length_eq_zero (by omega)
  subst hL
  exact ⟨org, k, k.sideT C Wa.bare F.live F.mv (by omega) (Wa.slot 4 (by omega))⟩
theorem RM.on {h : Nat} (R : RM 0 par p E n0 (some h) t W m σ) (hq : ∀ x y, σ.q x y = []) : (σ.cl 2).home = some h ∧ σ.waits 2 = false ∧ σ.cnt 4 = 0 ∧ σ.weight = 0 := by
  have F := R.room.fit
  obtain ⟨M, Wa⟩ := R.wat
  have hho : (σ.cl 2).home = some h := F.live.home 2 (by omega) h R.here2
  obtain ⟨org, _, D⟩ := R.wh
  have hno : ∀ x y f, f ∈ σ.q x y → f.about 4 = false := fun x y f hf => by rw [hq] at hf; cases hf
  obtain ⟨hl, hled, hw⟩ := D.on (h := h) hho hno
  have hu1 := R.used 2 1 (by omega) (by omega)
  have hkp : ∀ b, keptLen (σ.kn b 4) = 0 := fun b => by
    cases hk : σ.kn b 4 with
    | none => rfl
    | some f =>
      show f.kept.length = 0
      by_cases e : b = h
      · subst e
        rw [(Wa.bare.here b 4 f (by omega) R.here2 hk (hw f hk)).1]; rfl
      · have hb := (F.good.facts b 4 f hk).bro
        obtain ⟨g, g1, _, g3⟩ := hled b hb
        rw [hk] at g1; cases g1
        rw [((F.live.kept b 4 f hk).2 (by rw [g3]; simp [wayTo, e])).1]; rfl
  refine ⟨hho, ?_, ?_, ?_⟩
  · unfold Net.waits
    rw [R.here2]
    simp only
    rw [List.any_eq_false]
    intro k hk
    have hk2 : k < 2 := List.mem_range.1 hk
    rcases (by omega : k = 0 ∨ k = 1) with rfl | rfl
    · intro hc
      rw [Bool.and_eq_true] at hc
      obtain ⟨_, hc⟩ := hc
      split at hc
      · rename_i f hf
        rw [hw f hf] at hc; cases hc
      · cases hc
    · rw [hu1]; simp
  · have h1 : σ.massK 4 = 0 := by simp [Net.massK, hkp, sum6]
    have h3 : σ.massQ 4 = 0 := by simp [Net.massQ, Net.restQ, hq, sum6]
    have h4 : σ.evN = 0 := by simp [Net.evN, hq, sum6]
    unfold Net.cnt Net.mass; omega
  · simp [Net.weight, Net.wtL, hq, sum6]

/-- It goes. -/
theorem RM.detach {h : Nat} (R : RM 0 par p E n0 (some h) t W m σ) (hq : ∀ x y, σ.q x y = []) : σ.detachE 2 = 0 ∧ RM 0 par p E n0 none 0 0 (m + 8) (σ.detach 2) := by
  have F := R.room.fit
  obtain ⟨G, hG, C⟩ := R.core
  obtain ⟨M, Wa⟩ := R.wat
  obtain ⟨_, hw, hc0, hw0⟩ := R.on hq
  have hE : σ.detachE ((2 : Nat) : Int) = 0 := by
    have h1 : σ.asked (isCli ((2 : Nat) : Int)) = 0 := asked_ok C.opn (isCli_nat (by omega))
    unfold Net.detachE
    rw [h1]
    show (if (0 : Int) ≠ 0 then (0 : Int) else σ.still 2) = 0
    unfold Net.still
    rw [R.here2, hw]
    simp
  have hd : σ.detach ((2 : Nat) : Int) = σ.setCl 2 { σ.cl 2 with here := none } := detach_cl hE
  obtain ⟨x, hx⟩ : ∃ x : Cli, x = { σ.cl 2 with here := none } := ⟨_, rfl⟩
  have h22 : (σ.setCl 2 x).cl 2 = x := by show put σ.cl 2 x 2 = x; exact put_same _ _ _
  have h23 : (σ.setCl 2 x).cl 3 = σ.cl 3 := by show put σ.cl 2 x 3 = σ.cl 3; exact put_other _ _ (by omega)
  have hwt : (σ.setCl 2 x).weight = σ.weight := rfl
  have C' := C.detach hE
  have W' := Wa.detach C F 2
  have F' := R.room
  refine ⟨hE, ?_⟩
  show RM 0 par p E n0 none 0 0 (m + 8) (σ.detach ((2 : Nat) : Int))
  have hl := lgl_detach (σ := σ) ((2 : Nat) : Int) 4
  rw [hd, ← hx] at C' hl
  have W' : Wat E (σ.setCl 2 x) (rT 0) M := by rw [hx, ← hd]; exact W'
  rw [hd, ← hx]
  refine ⟨R.tr, R.le, ⟨G, hG, C'⟩, ?_, ⟨M, W'⟩, ⟨R.lone.kn, R.lone.fr, fun d k hk hu => R.lone.use d k hk ?_⟩, ?_, by rw [hl]; exact R.lgl, by rw [hwt, hw0]; exact Nat.le_refl _, by rw [h22, hx], by rw [h22, hx]; exact R.fl, by rw [h23]; exact R.here3, by rw [h23]; exact R.st3, by rw [h23]; exact R.many, R.evs⟩
  · obtain ⟨k, k1, k2⟩ := F'
    have := k2.detach ((2 : Nat) : Int)
    rw [hd, ← hx] at this
    exact ⟨k + 8, by rw [hwt]; omega, this⟩
  · have hu : (put σ.cl 2 x d).used k = true := hu
    by_cases e : d = 2
    · subst e; rw [put_same, hx] at hu; exact hu
    · rw [put_other _ _ e] at hu; exact hu
  · have : (σ.setCl 2 x).cnt 4 = σ.cnt 4 := cnt_same rfl rfl
    omega

/-- It comes. -/
theorem RM.attach (R : RM 0 par p E n0 none t W m σ) (hW : W < 100) {b : Nat} (hb : b < size par) : σ.attachE 2 b = 0 ∧ RM 0 par p E n0 (some b) t (W + 28) (m + 232) (σ.attach 2 b) := by
  have F := R.room.fit
  obtain ⟨G, hG, C⟩ := R.core
  obtain ⟨M, Wa⟩ := R.wat
  have hbn : b < σ.n := by unfold Net.n; rw [R.tr]; exact hb
  have hful : σ.full = false := full_of_weight F.good.linked (by have := R.wt; omega)
  have hE : σ.attachE ((2 : Nat) : Int) (b : Int) = 0 := by
    have h1 : σ.asked (isCli ((2 : Nat) : Int) && σ.isBro (b : Int)) = 0 := asked_ok C.opn (by rw [isCli_nat (by omega), isBro_nat hbn]; rfl)
    have h2 : (σ.cl ((2 : Nat) : Int).toNat).here = none := R.here2
    unfold Net.attachE
    rw [h1, h2]
    simp [hful]
  have hcl := fun d => attach_cl hE d
  obtain ⟨L1, L2⟩ := R.lone.attach F.good hE
  have hwt := weight_attach F.live hE
  have hl := lgl_attach F.good hE 4
  have hcn := R.cnt
  have hlg := R.lgl
  have hwo := R.wt
  have hA : σ.attach ((2 : Nat) : Int) (b : Int) = σ.attachN 2 b := by unfold Net.attach; rw [if_pos hE]; rfl
  refine ⟨hE, ?_⟩
  show RM 0 par p E n0 (some b) t (W + 28) (m + 232) (σ.attach ((2 : Nat) : Int) (b : Int))
  refine ⟨by rw [hA, attachN_par]; exact R.tr, R.le, ⟨G, hG, C.attach F.live hE⟩, ?_, ⟨_, Wa.attach C F hE (F.attach _ _).r.alive.wt⟩, L1, by omega, by omega, by omega, by rw [((hcl 2).2 rfl).here], by rw [((hcl 2).2 rfl).fl]; exact R.fl, by rw [((hcl 3).1 (by omega)).here]; exact R.here3, by rw [((hcl 3).1 (by omega)).stays]; exact R.st3, by rw [((hcl 3).1 (by omega)).many]; exact R.many, R.evs⟩
  obtain ⟨k, k1, k2⟩ := R.room
  exact ⟨k + 8, by omega, k2.attach _ _⟩

/-- BEHIND A TRIP: just these were told, in their order. -/
theorem RM.told {h : Nat} (R : RM 0 par p E n0 (some h) t W m σ) (hq : ∀ x y, σ.q x y = []) : (σ.cl 2).log = (E.drop n0).map (fun e => ⟨0, 0, e.ev⟩) ∧ (σ.cl 2).told 0 = E := by
  have F := R.room.fit
  obtain ⟨G, hG, C⟩ := R.core
  obtain ⟨hho, _⟩ := R.on hq
  obtain ⟨org, Wh', D⟩ := R.wh
  have hus : (σ.cl 2).used 0 = true := R.used 2 0 (by omega) (by omega)
  have T := C.tells 2 (by omega)
  have hin : ∀ e, e ∈ (σ.cl 2).told 0 → e ∈ E := fun e he => C.pubs.told 2 0 e he
  have hEv : ∀ e, e ∈ E → e.ev.pub = 3 ∧ e.stay = 1 := fun e he => by
    obtain ⟨i, hi⟩ := List.getElem?_of_mem he
    have := R.evs i e hi
    exact ⟨this.1, this.2.2.2⟩
  have htold : (σ.cl 2).told 0 = E := by
    refine rise_ext _ _ ?_ ?_ (fun x => ⟨hin x, fun hx => ?_⟩)
    · refine List.Pairwise.imp_of_mem ?_ (T.rise 0)
      intro a b ha hb hab
      have h1 := hEv a (hin a ha)
      have h3 := hEv b (hin b hb)
      unfold Later at hab
      by_cases hlt : a.ev.num < b.ev.num
      · exact hlt
      · exact absurd ⟨h1.1.trans h3.1.symm, h1.2.trans h3.2.symm, by omega⟩ hab
    · refine List.Pairwise.imp_of_mem ?_ C.evs.inc
      intro a b ha hb hab
      exact hab ((hEv a ha).1.trans (hEv b hb).1.symm)
    · have hr : x ∈ rqSince E 0 [] x.ev.pub x.stay := List.mem_filter.2 ⟨by simpa using hx, by simp [isStay, meets]⟩
      rcases Wh'.ph.done D hq (h := h) R.here2 hho _ _ x hr with g | g
      · cases g
      · exact g
  refine ⟨?_, htold⟩
  obtain ⟨U, hU1, hU2⟩ := T.read 0 (by omega) hus
  have hUE : U = E.drop n0 := by
    rw [htold, hG] at hU1
    have h3 : E.take n0 ++ E.drop n0 = E.take n0 ++ U := by rw [List.take_append_drop]; exact hU1
    exact (List.append_cancel_left h3).symm
  have hlg : lgOf σ 4 = 0 := by have := R.lgl; unfold Net.lgl at this; omega
  have hlg : ((σ.cl 2).log.map (lostN 0)).sum = 0 := hlg
  have hall : ∀ en, en ∈ (σ.cl 2).log → en.slot = 0 ∧ en.lost = 0 := fun en hen => by
    obtain ⟨k, hk, h1, h3, h4⟩ := T.ents en hen
    have hk0 : k = 0 := by
      have := R.used 2 k (by omega) hk
      rw [h3] at this
      have := of_decide_eq_true this.symm
      omega
    subst hk0
    have h1 : en.slot = 0 := h1
    refine ⟨h1, ?_⟩
    rcases h4 with h4 | h4
    · exact h4
    · exfalso
      have h5 : lostN 0 en ≤ ((σ.cl 2).log.map (lostN 0)).sum := by
        have key : ∀ l : List Ent, en ∈ l → lostN 0 en ≤ (l.map (lostN 0)).sum := fun l => by
          induction l with
          | nil => intro h; cases h
          | cons a l ih =>
            intro h
            rw [List.map_cons, List.sum_cons]
            rcases List.mem_cons.1 h with rfl | h
            · omega
            · have := ih h; omega
        exact key _ hen
      have h6 : lostN 0 en = en.lost.toNat := by unfold lostN; rw [if_pos (by rw [h1]; rfl)]
      have := h4.1
      omega
  have hlogE : ∀ l : List Ent, (∀ en, en ∈ l → en.slot = 0 ∧ en.lost = 0) → logEv l 0 = l.map (fun en => en.ev) := fun l => by
    induction l with
    | nil => intro _; rfl
    | cons a l ih =>
      intro h
      have h1 := h a (List.mem_cons_self ..)
      have h3 := ih (fun en hen => h en (List.mem_cons_of_mem _ hen))
      unfold logEv at h3 ⊢
      rw [List.filter_cons_of_pos (by simp [h1.1, h1.2]), List.map_cons, List.map_cons, h3]
  have key2 : ∀ (l : List Ent) (V : List News), (∀ en, en ∈ l → en.slot = 0 ∧ en.lost = 0) → l.map (fun en => en.ev) = V.map (fun e => e.ev) → l = V.map (fun e => ⟨0, 0, e.ev⟩) := fun l => by
    induction l with
    | nil => intro V _ h; cases V with
      | nil => rfl
      | cons => cases h
    | cons a l ih =>
      intro V h hm
      cases V with
      | nil => cases hm
      | cons v V =>
        simp only [List.map_cons, List.cons.injEq] at hm ⊢
        have h1 := h a (List.mem_cons_self ..)
        refine ⟨?_, ih V (fun en hen => h en (List.mem_cons_of_mem _ hen)) hm.2⟩
        cases a
        simp only at h1 hm
        rw [h1.1, h1.2, hm.1]
  rw [← hUE]
  exact key2 _ U hall (by rw [← hlogE _ hall]; exact hU2)

/-- Its log is read. -/
theorem RM.log {h : Nat} (R : RM 0 par p E n0 (some h) t W m σ) (hq : ∀ x y, σ.q x y = []) : RM 0 par p E E.length (some h) 0 0 (m + 8) (σ.setCl 2 { σ.cl 2 with log := [] }) := by
  have F := R.room.fit
  obtain ⟨G, hG, C⟩ := R.core
  obtain ⟨M, Wa⟩ := R.wat
  obtain ⟨_, _, hc0, hw0⟩ := R.on hq
  obtain ⟨_, htold⟩ := R.told hq
  have W' := Wa.read C F (c := 2) (by omega)
  obtain ⟨x, hx⟩ : ∃ x : Cli, x = { σ.cl 2 with log := [] } := ⟨_, rfl⟩
  have C' := C.read (c := 2) (by omega)
  have hS : Sm σ (σ.setCl 2 x) := Sm.setCl (by rw [hx]; exact ⟨rfl, rfl, rfl, rfl, rfl⟩)
  have hlg : lgOf σ 4 = 0 := by have := R.lgl; unfold Net.lgl at this; omega
  have hlog : σ.log ((2 : Nat) : Int) = σ.setCl 2 { σ.cl 2 with log := [] } := by
    have hE : σ.logE ((2 : Nat) : Int) = 0 := by unfold Net.logE; exact asked_ok C.opn (isCli_nat (by omega))
    unfold Net.log; rw [if_pos hE]; rfl
  have hT : Wat E (σ.setCl 2 x) (rT 0) M := by
    rw [hx]
    refine W'.congr (fun s hs => ?_)
    have hlt : ∀ s, s / 2 = 2 → (rT 0 s).lost + (lgOf σ s : Int) = (rT 0 s).lost := fun s hs2 => by
      rcases (by omega : s = 4 ∨ s = 5) with rfl | rfl
      · rw [hlg]; simp
      · have : lgOf σ 5 = 0 := by
          have hz : ∀ l : List Ent, (∀ en, en ∈ l → lostN 1 en = 0) → (l.map (lostN 1)).sum = 0 := fun l => by
            induction l with
            | nil => intro _; rfl
            | cons a l ih => intro h; rw [List.map_cons, List.sum_cons, h a (List.mem_cons_self ..), ih (fun en hen => h en (List.mem_cons_of_mem _ hen))]
          refine hz _ (fun en hen => ?_)
          obtain ⟨k, hk, h1, h3, _⟩ := (C.tells 2 (by omega)).ents en hen
          have hk0 : k = 0 := by
            have := R.used 2 k (by omega) hk
            rw [h3] at this
            have := of_decide_eq_true this.symm
            omega
          unfold lostN
          rw [if_neg (by rw [h1, hk0]; decide)]
        rw [this]; simp
    by_cases e : s / 2 = 2
    · rw [if_pos e, hlt s e]
    · rw [if_neg e]
  rw [← hx] at C' hlog ⊢
  refine ⟨R.tr, Nat.le_refl _, ⟨readG G σ 2, ?_, C'⟩, ?_, ⟨M, hT⟩, R.lone.sm rfl rfl hS, ?_, ?_, ?_, by rw [(hS 2).here]; exact R.here2, by rw [(hS 2).fl]; exact R.fl, by rw [(hS 3).here]; exact R.here3, by rw [(hS 3).stays]; exact R.st3, by rw [(hS 3).many]; exact R.many, R.evs⟩
  · rw [List.take_length]
    unfold readG
    rw [put_same]
    exact htold
  · obtain ⟨k, k1, k2⟩ := R.room
    have := k2.log ((2 : Nat) : Int)
    rw [hlog] at this
    have hwt : (σ.setCl 2 x).weight = σ.weight := rfl
    exact ⟨k + 8, by rw [hwt]; omega, this⟩
  · have : (σ.setCl 2 x).cnt 4 = σ.cnt 4 := cnt_same rfl rfl
    omega
  · have h1 : (σ.setCl 2 x).left 4 = σ.left 4 := left_congr rfl rfl 4
    have h3 : lgOf (σ.setCl 2 x) 4 = 0 := by
      unfold lgOf
      show ((put σ.cl 2 x 2).log.map _).sum = 0
      rw [put_same, hx]; rfl
    have h4 := R.lgl
    unfold Net.lgl at h4 ⊢
    omega
  · have hwt : (σ.setCl 2 x).weight = σ.weight := rfl
    omega
end

section
variable {σ : Net} {c : Nat}
theorem Lone.sub (A : Lone (2 * c) σ) (G : Good σ) {l : List Tst} (hE : σ.subE c l = 0) (hs : σ.slot c = 0) : Lone (2 * c) (σ.sub c l) ∧ (σ.sub c l).cnt (2 * c) ≤ σ.cnt (2 * c) ∧ (σ.sub c l).weight ≤ σ.weight + 5 := by
  obtain ⟨b, hb, hu, he⟩ := sub_eq hE
  have hz := subE_zero hE
  have hbl : b < σ.n := (G.clis c (by omega)).here b hb
  have hb6 : b < 6 := Nat.lt_of_lt_of_le hbl (size_le G.tree)
  rw [hs] at he
  obtain ⟨x, hx⟩ : ∃ x : Cli, x = { σ.cl c with used := put (σ.cl c).used 0 true, age := put (σ.cl c).age 0 ((σ.cl c).age 0 + 1), fl := put (σ.cl c).fl 0 l, told := put (σ.cl c).told 0 [] } := ⟨_, rfl⟩
  have he2 : σ.sub c l = ((σ.setCl c x).know b (2 * c) (some ⟨(σ.cl c).age 0 + 1, l, none, [], 0, false⟩)).spread b none (.sub (2 * c) ((σ.cl c).age 0 + 1) l) := by rw [he, hx]; rfl
  have A1 : Lone (2 * c) (σ.setCl c x) := ⟨A.kn, A.fr, fun d k hk hu => by
    have hu : (put σ.cl c x d).used k = true := hu
    by_cases e : d = c
    · subst e
      rw [put_same, hx] at hu
      have hu : put (σ.cl d).used 0 true k = true := hu
      by_cases e2 : k = 0
      · omega
      · rw [put_other _ _ e2] at hu; exact A.use d k hk hu
    · rw [put_other _ _ e] at hu; exact A.use d k hk hu⟩
  have hk1 := cnt_know (σ.setCl c x) hb6 (2 * c) (some ⟨(σ.cl c).age 0 + 1, l, none, [], 0, false⟩)
  have e1 : (σ.setCl c x).cnt (2 * c) = σ.cnt (2 * c) := cnt_same rfl rfl
  have e2 : keptLen (some (⟨(σ.cl c).age 0 + 1, l, none, [], 0, false⟩ : Fact)) = 0 := rfl
  rw [he2]
  refine ⟨(A1.know b _).pushAll (by simp [Fr.about]) b _, ?_, ?_⟩
  · show (Net.pushAll _ _ _ _).cnt (2 * c) ≤ _
    rw [cnt_pushAll (2 * c) rfl rfl hb6 _ _ (others_lt6 (show Tree ((σ.setCl c x).know b (2 * c) (some ⟨(σ.cl c).age 0 + 1, l, none, [], 0, false⟩)).par from G.tree))]
    omega
  · exact weight_spread_all (σ := (σ.setCl c x).know b (2 * c) (some ⟨(σ.cl c).age 0 + 1, l, none, [], 0, false⟩)) G.tree hbl (fun _ _ => rfl)
end

/-- HOW IT BEGINS: client 2 comes and subscribes, client 3 comes. -/
theorem rm_start {par : List Nat} (T : Tree par) {a p : Nat} (ha : a < size par) (hp : p < size par) :
    (newNet par).attachE 2 a = 0 ∧ ((newNet par).attach 2 a).subE 2 [] = 0 ∧ ((newNet par).attach 2 a).slot 2 = 0 ∧ (((newNet par).attach 2 a).sub 2 []).attachE 3 p = 0 ∧
    RM (-1) par p [] 0 (some a) 0 100 2000 ((((newNet par).attach 2 a).sub 2 []).attach 3 p) := by
  obtain ⟨σ0, h0⟩ : ∃ σ0, σ0 = newNet par := ⟨_, rfl⟩
  have F0 : Fit σ0 0 := by rw [h0]; exact fit_new T
  have C0 : Core [] (fun _ _ => []) σ0 := by rw [h0]; exact core_new
  have W0 : Wat [] σ0 (fun _ => ⟨false, 0, 0⟩) 0 := by rw [h0]; exact wat_new
  have A0 : Lone 4 σ0 := by rw [h0]; exact ⟨fun b t f h => (by cases h), fun x y f h => (by cases h), fun c k _ h => (by cases h)⟩
  have cn0 : σ0.cnt 4 = 0 := by rw [h0]; simp [Net.cnt, Net.mass, Net.massK, Net.massQ, Net.restQ, Net.evN, keptLen, newNet, sum6]
  have wt0 : σ0.weight = 0 := by rw [h0]; simp [Net.weight, Net.wtL, newNet, sum6]
  have lg0 : σ0.lgl 4 = 0 := by obtain ⟨z, k1, k2⟩ := W0.cap 4 (by omega); omega
  have hp0 : σ0.par = par := by rw [h0]; rfl
  have hn0 : σ0.n = size par := by unfold Net.n; rw [hp0]
  have hcl0 : ∀ c, σ0.cl c = newCli := fun c => by rw [h0]; rfl
  rw [← h0]
  -- client 2 comes
  have E1 : σ0.attachE ((2 : Nat) : Int) (a : Int) = 0 := by
    have k1 : σ0.asked (isCli ((2 : Nat) : Int) && σ0.isBro (a : Int)) = 0 := asked_ok C0.opn (by rw [isCli_nat (by omega), isBro_nat (by omega)]; rfl)
    have k2 : (σ0.cl ((2 : Nat) : Int).toNat).here = none := by rw [hcl0]; rfl
    have k3 : σ0.full = false := full_of_weight F0.good.linked (by omega)
    unfold Net.attachE
    rw [k1, k2]
    simp [k3]
  obtain ⟨σ1, h1⟩ : ∃ σ1, σ1 = σ0.attach ((2 : Nat) : Int) (a : Int) := ⟨_, rfl⟩
  have hcl1 := fun d => attach_cl E1 d
  have F1 : Fit σ1 8 := by rw [h1]; exact F0.attach _ _
  have C1 : Core [] (fun _ _ => []) σ1 := by rw [h1]; exact C0.attach F0.live E1
  have W1 : Wat [] σ1 (fun _ => ⟨false, 0, 0⟩) 1600 := by have := W0.attach C0 F0 E1 (by rw [← h1]; exact F1.r.alive.wt); rw [← h1] at this; exact this
  obtain ⟨A1, cn1⟩ := A0.attach F0.good E1
  have wt1 := weight_attach F0.live E1
  have lg1 := lgl_attach F0.good E1 4
  have hp1 : σ1.par = par := by rw [h1]; show (σ0.attach _ _).par = par; unfold Net.attach; rw [if_pos E1, attachN_par]; exact hp0
  have hn1 : σ1.n = size par := by unfold Net.n; rw [hp1]
  rw [← h1] at hcl1 A1 cn1 wt1 lg1
  have u1 : ∀ c k, (σ1.cl c).used k = false := fun c k => by
    by_cases e : c = 2
    · subst e; rw [((hcl1 2).2 rfl).used]; show (σ0.cl 2).used k = false; rw [hcl0]; rfl
    · rw [((hcl1 c).1 e).used, hcl0]; rfl
  have hr1 : (σ1.cl 2).here = some a := by rw [((hcl1 2).2 rfl).here]
  have hr3 : (σ1.cl 3).here = none := by rw [((hcl1 3).1 (by omega)).here, hcl0]; rfl
  have log1 : (σ1.cl 2).log = [] := by
    refine List.eq_nil_iff_forall_not_mem.2 (fun en hen => ?_)
    obtain ⟨k, _, _, hu, _⟩ := (C1.tells 2 (by omega)).ents en hen
    rw [u1] at hu; cases hu
  -- it subscribes
  have sl1 : σ1.slot 2 = 0 := by unfold Net.slot; rw [u1]; rfl
  have E2 : σ1.subE ((2 : Nat) : Int) [] = 0 := by
    have k1 : σ1.asked (isCli ((2 : Nat) : Int) && goodFilter []) = 0 := asked_ok C1.opn (by rw [isCli_nat (by omega)]; rfl)
    have k3 : σ1.full = false := full_of_weight F1.good.linked (by omega)
    have k4 : σ1.still 2 = 0 := by
      unfold Net.still
      have : σ1.waits 2 = false := by unfold Net.waits; rw [hr1]; simp [u1]
      rw [hr1, this]; simp
    unfold Net.subE
    rw [k1]
    show (if (0 : Int) ≠ 0 then (0 : Int) else if σ1.still 2 ≠ 0 then σ1.still 2 else if (σ1.cl 2).used (σ1.slot 2) then 7 else if σ1.full then 6 else 0) = 0
    rw [k4, u1, k3]; simp
  obtain ⟨σ2, h2⟩ : ∃ σ2, σ2 = σ1.sub ((2 : Nat) : Int) [] := ⟨_, rfl⟩
  have hcl2 := sub_cl E2
  have F2 : Fit σ2 16 := by rw [h2]; exact F1.sub _ _
  have C2 : Core [] (put (fun _ _ => []) 2 (put (fun _ => []) (σ1.slot 2) [])) σ2 := by rw [h2]; exact C1.sub log1 E2
  have W2 : Wat [] σ2 (rT (-1)) 3200 := by
    have := W1.sub C1 F1 E2 (by rw [← h2]; exact F2.r.alive.wt)
    rw [← h2] at this
    refine this.congr (fun s _ => ?_)
    rw [sl1]
    unfold rT put
    simp
  obtain ⟨A2, cn2, wt2⟩ := Lone.sub (c := 2) A1 F1.good E2 sl1
  have lg2 := lgl_sub F1.good E2 4
  rw [← h2] at hcl2 A2 cn2 wt2 lg2
  have A2 : Lone 4 σ2 := A2
  have cn2 : σ2.cnt 4 ≤ σ1.cnt 4 := cn2
  have hp2 : σ2.par = par := by
    obtain ⟨b, _, _, he⟩ := sub_eq E2
    rw [h2, he]
    exact (pushAll_par _ _ _ _).trans hp1
  have hn2 : σ2.n = size par := by unfold Net.n; rw [hp2]
  have c22 : (σ2.cl 2).here = some a ∧ (σ2.cl 2).fl 0 = [] := by
    rw [hcl2, sl1]
    refine ⟨?_, ?_⟩
    · show (put σ1.cl 2 _ 2).here = some a
      rw [put_same]; exact hr1
    · show (put σ1.cl 2 _ 2).fl 0 = []
      rw [put_same]
      show put (σ1.cl 2).fl 0 [] 0 = []
      exact put_same _ _ _
  have c23 : σ2.cl 3 = σ1.cl 3 := by
    rw [hcl2]
    simp [Net.setCl, put]
  -- client 3 comes
  have E3 : σ2.attachE ((3 : Nat) : Int) (p : Int) = 0 := by
    have k1 : σ2.asked (isCli ((3 : Nat) : Int) && σ2.isBro (p : Int)) = 0 := asked_ok C2.opn (by rw [isCli_nat (by omega), isBro_nat (by omega)]; rfl)
    have k2 : (σ2.cl ((3 : Nat) : Int).toNat).here = none := by show (σ2.cl 3).here = none; rw [c23]; exact hr3
    have k3 : σ2.full = false := full_of_weight F2.good.linked (by omega)
    unfold Net.attachE
    rw [k1, k2]
    simp [k3]
  have hcl3 := fun d => attach_cl E3 d
  have hA3 : σ2.attach ((3 : Nat) : Int) (p : Int) = σ2.attachN 3 p := by unfold Net.attach; rw [if_pos E3]; rfl
  have F3 := F2.attach ((3 : Nat) : Int) (p : Int)
  have W3 := W2.attach C2 F2 E3 F3.r.alive.wt
  obtain ⟨A3, cn3⟩ := A2.attach F2.good E3
  have wt3 := weight_attach F2.live E3
  have lg3 := lgl_attach F2.good E3 4
  have e0 : (σ2.cl 3).stays = 0 ∧ (σ2.cl 3).many = 0 := by
    rw [c23]
    refine ⟨?_, ?_⟩
    · rw [((hcl1 3).1 (by omega)).stays, hcl0]; rfl
    · rw [((hcl1 3).1 (by omega)).many, hcl0]; rfl
  have hfin : RM (-1) par p [] 0 (some a) 0 100 2000 (σ2.attach ((3 : Nat) : Int) (p : Int)) := by
    refine ⟨by rw [hA3, attachN_par]; exact hp2, Nat.le_refl _, ⟨_, ?_, C2.attach F2.live E3⟩, ⟨24, by omega, F3⟩, ⟨_, W3⟩, A3, by omega, by omega, by omega, ?_, ?_, ?_, ?_, ?_, fun i n h => by simp at h⟩
    · rw [put_same, sl1, put_same]; rfl
    · rw [((hcl3 2).1 (by omega)).here]; exact c22.1
    · rw [((hcl3 2).1 (by omega)).fl]; exact c22.2
    · rw [((hcl3 3).2 rfl).here]
    · rw [((hcl3 3).2 rfl).stays]
      show (σ2.cl 3).stays + 1 = 1
      rw [e0.1]; rfl
    · rw [((hcl3 3).2 rfl).many]
      show (σ2.cl 3).many = _
      rw [e0.2]; rfl
  have h1' : σ1 = σ0.attach 2 (a : Int) := h1
  have h2' : σ2 = σ1.sub 2 [] := h2
  rw [← h1', ← h2']
  exact ⟨E1, E2, sl1, E3, hfin⟩

/-- All frames were handled: all brokers know it. -/
theorem RM.known {par : List Nat} {p n0 t W m : Nat} {E : List News} {h2 : Option Nat} {σ : Net} (R : RM (-1) par p E n0 h2 t W m σ) (hE : E = []) (hq : ∀ x y, σ.q x y = []) : RM 0 par p E n0 h2 t W m σ := by
  obtain ⟨M, Wa⟩ := R.wat
  have W' := Wa.quiet hq
  refine { R with wat := ⟨M, W'.congr (fun s _ => ?_)⟩ }
  unfold rT
  rw [hE]
  split
  · rfl
  · rfl

end Go.Proofs.Ytodfcpblcpogiaa

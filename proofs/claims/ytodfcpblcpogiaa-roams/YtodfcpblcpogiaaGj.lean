/-
  WHAT ALL BROKERS KNEW OF MISSES NOTHING: a client goes; a log is read; an event is published, as the call has it.
-/
import Derived.Test.YtodfcpblcpogiaaFz
import Derived.Test.YtodfcpblcpogiaaAtp
import Derived.Test.YtodfcpblcpogiaaReads
namespace Go.Proofs.Ytodfcpblcpogiaa

section
variable {σ : Net}
theorem Bare.setCl (B : Bare σ) {c : Nat} {x : Cli} (h : x.here = (σ.cl c).here) : Bare (σ.setCl c x) := B.of rfl (fun d => by
  show (put σ.cl c x d).here = _
  by_cases e : d = c
  · rw [e, put_same]; exact h
  · rw [put_other _ _ e])
theorem Bare.arrive (B : Bare σ) {c b : Nat} (h : ∀ k f, k < 2 → σ.kn b (2 * c + k) = some f → f.waits = false → f.kept = [] ∧ f.more = 0) : Bare (σ.arrive c b) := by
  refine ⟨fun b' s f hs hh hf hw => ?_, fun b' s f hs hf hw => B.wait b' s f hs hf hw⟩
  have hh : (put σ.cl c { σ.cl c with here := some b, home := some b, stays := (σ.cl c).stays + 1 } (s / 2)).here = some b' := hh
  have hf : σ.kn b' s = some f := hf
  by_cases e : s / 2 = c
  · rw [e, put_same] at hh
    cases hh
    have : s = 2 * c + s % 2 := by omega
    rw [this] at hf
    exact h (s % 2) f (by omega) hf hw
  · rw [put_other _ _ e] at hh
    exact B.here b' s f hs hh hf hw
theorem Bare.backs (B : Bare σ) (c b k : Nat) : Bare (σ.backs c b k) := by
  unfold Net.backs
  split
  · split
    · exact B
    · rename_i f hf
      refine ((B.lose _ _).tells _ _).know (fun g hg => ?_)
      cases hg
      exact ⟨Or.inr (Or.inr ⟨rfl, rfl⟩), fun _ => rfl⟩
  · exact B
theorem backs_at (c b k : Nat) (z t : Nat) (f : Fact) (h : (σ.backs c b k).kn z t = some f) : (σ.kn z t = some f ∧ ¬ (z = b ∧ t = 2 * c + k ∧ (σ.cl c).used k = true)) ∨ (f.kept = [] ∧ f.more = 0) := by
  unfold Net.backs at h
  split at h
  · rename_i hu
    split at h
    · rename_i hk
      left
      exact ⟨h, fun g => by rw [g.1, g.2.1, hk] at h; cases h⟩
    · rename_i g hk
      have h : put2 ((σ.lose (2 * c + k) g.more).tells (2 * c + k) g.kept).kn b (2 * c + k) (some { g with kept := [], more := 0 }) z t = some f := h
      by_cases e : z = b ∧ t = 2 * c + k
      · obtain ⟨rfl, rfl⟩ := e; rw [put2_same] at h; cases h; exact Or.inr ⟨rfl, rfl⟩
      · rw [put2_other _ _ e, (tells_keep _ _ _).1] at h
        exact Or.inl ⟨h, fun g => e ⟨g.1, g.2.1⟩⟩
  · rename_i hu
    exact Or.inl ⟨h, fun g => hu g.2.2⟩
theorem backs_used (c b k d j : Nat) : ((σ.backs c b k).cl d).used j = (σ.cl d).used j := by
  unfold Net.backs
  split
  · split
    · rfl
    · rename_i f hf
      show ((Net.tells _ (2 * c + k) f.kept).cl d).used j = _
      have h1 : ∀ (l : List News) (ρ : Net), ((ρ.tells (2 * c + k) l).cl d).used j = (ρ.cl d).used j := fun l => by
        induction l with
        | nil => exact fun _ => rfl
        | cons e l ih =>
          intro ρ
          refine (ih (ρ.tell (2 * c + k) e)).trans ?_
          rw [tell_cl]
          split
          · rename_i h
            unfold Cli.tell
            split <;> rw [h]
          · rfl
      rw [h1]
      show (put σ.cl ((2 * c + k) / 2) _ d).used j = _
      by_cases e : d = (2 * c + k) / 2
      · rw [e, put_same]; unfold Cli.lose; split <;> rfl
      · rw [put_other _ _ e]
  · rfl
theorem Bare.comes (B : Bare σ) (c b old k : Nat) : Bare (σ.comes c b old k) := by
  unfold Net.comes
  dsimp only
  split
  · refine ((B.setCl (c := c) (x := { σ.cl c with age := put (σ.cl c).age k ((σ.cl c).age k + 1) }) rfl).know (fun g hg => ?_)).push _ _ _
    cases hg
    exact ⟨Or.inl rfl, fun _ => rfl⟩
  · exact B
theorem comes_at (c b old k : Nat) (z t : Nat) (f : Fact) (h : (σ.comes c b old k).kn z t = some f) : (σ.kn z t = some f ∧ ¬ (z = b ∧ t = 2 * c + k ∧ (σ.cl c).used k = true)) ∨ f.waits = true := by
  unfold Net.comes at h
  dsimp only at h
  split at h
  · have h : put2 σ.kn b (2 * c + k) (some ⟨(σ.cl c).age k + 1, (σ.cl c).fl k, none, [], 0, true⟩) z t = some f := h
    by_cases e : z = b ∧ t = 2 * c + k
    · obtain ⟨rfl, rfl⟩ := e; rw [put2_same] at h; cases h; exact Or.inr rfl
    · rw [put2_other _ _ e] at h; exact Or.inl ⟨h, fun g => e ⟨g.1, g.2.1⟩⟩
  · rename_i hu
    exact Or.inl ⟨h, fun g => hu g.2.2⟩
theorem comes_used (c b old k d j : Nat) : ((σ.comes c b old k).cl d).used j = (σ.cl d).used j := by
  unfold Net.comes
  dsimp only
  split
  · show (put σ.cl c _ d).used j = _
    by_cases e : d = c
    · rw [e, put_same]
    · rw [put_other _ _ e]
  · rfl

theorem Bare.attachN (B : Bare σ) (L : Live σ) {c b : Nat} (hc : c < 4) : Bare (σ.attachN c b) := by
  have hback : Bare (((σ.backs c b 0).backs c b 1).arrive c b) := by
    refine ((B.backs c b 0).backs c b 1).arrive (fun k f hk hf _ => ?_)
    rcases backs_at c b 1 _ _ f hf with ⟨h1, n1⟩ | h
    · rcases backs_at c b 0 _ _ f h1 with ⟨h2, n2⟩ | h
      · refine L.unused hc hk ?_ h2
        rw [backs_used] at n1
        cases hu : (σ.cl c).used k with
        | false => rfl
        | true =>
          obtain rfl | rfl : k = 0 ∨ k = 1 := by omega
          · exact absurd ⟨rfl, rfl, hu⟩ n2
          · exact absurd ⟨rfl, rfl, hu⟩ n1
      · exact h
    · exact h
  unfold Net.attachN
  split
  · exact hback
  · split
    · exact hback
    · rename_i old _ _
      refine ((B.comes c b old 0).comes c b old 1).arrive (fun k f hk hf hw => ?_)
      rcases comes_at c b old 1 _ _ f hf with ⟨h1, n1⟩ | h
      · rcases comes_at c b old 0 _ _ f h1 with ⟨h2, n2⟩ | h
        · refine L.unused hc hk ?_ h2
          rw [comes_used] at n1
          cases hu : (σ.cl c).used k with
          | false => rfl
          | true =>
            obtain rfl | rfl : k = 0 ∨ k = 1 := by omega
            · exact absurd ⟨rfl, rfl, hu⟩ n2
            · exact absurd ⟨rfl, rfl, hu⟩ n1
        · rw [hw] at h; cases h
      · rw [hw] at h; cases h
theorem Bare.detach (B : Bare σ) (c : Int) : Bare (σ.detach c) := by
  unfold Net.detach
  split
  · refine ⟨fun b s f hs hh hf hw => ?_, fun b s f hs hf hw => B.wait b s f hs hf hw⟩
    have hh : (put σ.cl c.toNat { σ.cl c.toNat with here := none } (s / 2)).here = some b := hh
    by_cases e : s / 2 = c.toNat
    · rw [e, put_same] at hh; cases hh
    · rw [put_other _ _ e] at hh; exact B.here b s f hs hh hf hw
  · exact B
theorem Bare.attach (B : Bare σ) (L : Live σ) (c b : Int) : Bare (σ.attach c b) := by
  unfold Net.attach
  split
  · rename_i h
    have hc : c.toNat < 4 := by
      unfold Net.attachE at h
      split at h
      · rename_i h1; exact absurd h h1
      · rename_i h1
        have := (asked_open h1).2
        simp only [Bool.and_eq_true, isCli, decide_eq_true_eq] at this
        omega
    exact B.attachN L hc
  · exact B
theorem Bare.sub (B : Bare σ) (c : Int) (l : List Tst) : Bare (σ.sub c l) := by
  unfold Net.sub
  split
  · split
    · unfold Net.subN
      exact ((B.setCl (c := c.toNat) (x := { σ.cl c.toNat with used := put (σ.cl c.toNat).used (σ.slot c.toNat) true, age := put (σ.cl c.toNat).age (σ.slot c.toNat) ((σ.cl c.toNat).age (σ.slot c.toNat) + 1), fl := put (σ.cl c.toNat).fl (σ.slot c.toNat) l, told := put (σ.cl c.toNat).told (σ.slot c.toNat) [] }) rfl).bare (fun g hg => by cases hg; exact ⟨rfl, rfl⟩)).pushAll _ _ _
    · exact B
  · exact B
theorem Bare.pub (B : Bare σ) (c f0 f1 f2 : Int) : Bare (σ.pub c f0 f1 f2) := by
  unfold Net.pub
  split
  · split
    · exact (B.setCl (c := c.toNat) (x := { σ.cl c.toNat with many := (σ.cl c.toNat).many + 1 }) rfl).happens _ _ _
    · exact B
  · exact B
end

def moreLen : Option Fact → Nat
  | none => 0
  | some f => f.more.toNat
def restMore (s : Nat) : Fr → Nat
  | .rest t _ m _ => if t = s then m.toNat else 0
  | _ => 0
def Net.leftK (σ : Net) (s : Nat) : Nat := sum6 fun b => moreLen (σ.kn b s)
def Net.restM (σ : Net) (s x y : Nat) : Nat := ((σ.q x y).map (restMore s)).sum
def Net.leftQ (σ : Net) (s : Nat) : Nat := sum6 fun x => sum6 fun y => σ.restM s x y
def Net.left (σ : Net) (s : Nat) : Nat := σ.leftK s + σ.leftQ s
theorem left_congr {σ τ : Net} (hk : τ.kn = σ.kn) (hq : τ.q = σ.q) (s : Nat) : τ.left s = σ.left s := by
  simp only [Net.left, Net.leftK, Net.leftQ, Net.restM, hk, hq]

theorem leftQ_put2 (σ : Net) (s x y : Nat) (hx : x < 6) (hy : y < 6) (l : List Fr) : Net.leftQ { σ with q := put2 σ.q x y l } s + σ.restM s x y = σ.leftQ s + (l.map (restMore s)).sum := by
  have h1 := sum6_put (fun a => sum6 fun b => σ.restM s a b) (fun a => sum6 fun b => Net.restM { σ with q := put2 σ.q x y l } s a b) x hx (fun j hj => by
    apply sum6_congr; intro b _
    simp only [Net.restM, put2_other σ.q l (fun h => hj h.1)])
  have h2 := sum6_put (fun b => σ.restM s x b) (fun b => Net.restM { σ with q := put2 σ.q x y l } s x b) y hy (fun j hj => by
    simp only [Net.restM, put2_other σ.q l (fun h => hj h.2)])
  have h3 : Net.restM { σ with q := put2 σ.q x y l } s x y = (l.map (restMore s)).sum := by simp only [Net.restM, put2_same]
  simp only [Net.leftQ] at *
  omega

theorem left_push (σ : Net) (s : Nat) {x y : Nat} (hx : x < 6) (hy : y < 6) (f : Fr) : (σ.push x y f).left s = σ.left s + restMore s f := by
  have h := leftQ_put2 σ s x y hx hy (σ.q x y ++ [f])
  have h1 : (σ.push x y f).leftK s = σ.leftK s := rfl
  have h2 : (σ.push x y f).leftQ s = Net.leftQ { σ with q := put2 σ.q x y (σ.q x y ++ [f]) } s := rfl
  simp only [Net.restM, List.map_append, List.sum_append, List.map_cons, List.map_nil, List.sum_cons, List.sum_nil] at h
  simp only [Net.left]
  omega
theorem left_pop (σ : Net) (s : Nat) {x y : Nat} (hx : x < 6) (hy : y < 6) {f : Fr} {r : List Fr} (hq : σ.q x y = f :: r) : Net.left { σ with q := put2 σ.q x y r } s + restMore s f = σ.left s := by
  have h := leftQ_put2 σ s x y hx hy r
  have h1 : Net.leftK { σ with q := put2 σ.q x y r } s = σ.leftK s := rfl
  simp only [Net.restM, hq, List.map_cons, List.sum_cons] at h
  simp only [Net.left]
  omega
theorem left_pushAll (s : Nat) {f : Fr} (hf : restMore s f = 0) (x : Nat) : ∀ (ys : List Nat) (σ : Net), (∀ y, y ∈ ys → y < 6) → x < 6 → (σ.pushAll x ys f).left s = σ.left s
  | [], _, _, _ => rfl
  | y :: ys, σ, h, hx => by
    have := left_pushAll s hf x ys (σ.push x y f) (fun z hz => h z (List.mem_cons_of_mem _ hz)) hx
    rw [left_push σ s hx (h y (List.mem_cons_self ..)) f, hf] at this
    exact this
theorem left_know (σ : Net) {b : Nat} (hb : b < 6) (s : Nat) (o : Option Fact) : (σ.know b s o).left s + moreLen (σ.kn b s) = σ.left s + moreLen o := by
  have h := sum6_put (fun a => moreLen (σ.kn a s)) (fun a => moreLen ((σ.know b s o).kn a s)) b hb (fun j hj => by simp only [Net.know, put2_other σ.kn o (fun h => hj h.1)])
  have h1 : (σ.know b s o).leftQ s = σ.leftQ s := rfl
  have h2 : (σ.know b s o).kn b s = o := by simp [Net.know]
  rw [h2] at h
  simp only [Net.left, Net.leftK, h1]
  omega
theorem left_know_other (σ : Net) (b : Nat) {s t : Nat} (h : s ≠ t) (o : Option Fact) : (σ.know b t o).left s = σ.left s := by
  have h1 : (σ.know b t o).leftQ s = σ.leftQ s := rfl
  have h2 : (σ.know b t o).leftK s = σ.leftK s := by
    simp only [Net.leftK, Net.know]
    apply sum6_congr; intro j _
    rw [put2_other _ _ (fun e => h e.2)]
  simp only [Net.left, h1, h2]

section
variable {σ : Net} {s : Nat}
/-- An event is handled: one more if it found no room. -/
theorem left_happens (G : Good σ) (hs : s < 8) {b : Nat} (hb : b < 6) (e : News) (fr : Option Nat) : (Lost σ (σ.happens b e fr) s b → (σ.happens b e fr).left s = σ.left s + 1) ∧ (¬ Lost σ (σ.happens b e fr) s b → (σ.happens b e fr).left s = σ.left s) := by
  obtain ⟨ρ, hρ⟩ : ∃ ρ, ρ = σ.hears b e (List.range 8) := ⟨_, rfl⟩
  have hτ : σ.happens b e fr = ρ.pushAll b (σ.targets b e fr) (.event e) := by rw [hρ]; rfl
  have hq : ρ.q = σ.q := by rw [hρ]; exact (hears_keeps b e (List.range 8) σ).2.1
  have hk : (σ.happens b e fr).kn = ρ.kn := by rw [hτ]; exact (pushAll_keeps _ _).1
  have h1 : (σ.happens b e fr).left s = ρ.left s := by
    rw [hτ]
    exact left_pushAll s rfl b _ _ (fun y hy => List.mem_range.1 (List.mem_filter.1 hy).1) hb
  have hQ : ρ.leftQ s = σ.leftQ s := by simp only [Net.leftQ, Net.restM, hq]
  have hsum : ∀ n : Nat, (∀ z, z ≠ b → moreLen (ρ.kn z s) = moreLen (σ.kn z s)) → moreLen (ρ.kn b s) = moreLen (σ.kn b s) + n → ρ.left s = σ.left s + n := fun n h2 h3 => by
    have := sum6_put (fun z => moreLen (σ.kn z s)) (fun z => moreLen (ρ.kn z s)) b hb h2
    simp only [Net.left, Net.leftK, hQ]
    omega
  have same : (∀ z, (σ.happens b e fr).kn z s = σ.kn z s) → ρ.left s = σ.left s := fun g => hsum 0 (fun z _ => by rw [← hk, g]) (by rw [← hk, g]; rfl)
  rw [h1]
  cases happens_as σ hs b e fr with
  | none _ hk' _ => exact ⟨fun h => absurd h (not_lost (hk' b)), fun _ => same hk'⟩
  | told _ _ _ _ _ hk' _ => exact ⟨fun h => absurd h (not_lost (hk' b)), fun _ => same hk'⟩
  | kept g hg _ _ _ hk' hb' _ =>
    refine ⟨fun ⟨f', k1, k2⟩ => ?_, fun _ => hsum 0 (fun z hz => by rw [← hk, hk' z hz]) (by rw [← hk, hb', hg]; rfl)⟩
    rw [hg] at k1; cases k1
    rw [hb'] at k2
    have := congrArg (fun x : Fact => x.kept.length) (Option.some.inj k2)
    simp at this
  | lost g hg _ _ _ hk' hb' _ =>
    refine ⟨fun _ => hsum 1 (fun z hz => by rw [← hk, hk' z hz]) ?_, fun h => absurd ⟨g, hg, hb'⟩ h⟩
    have hm := (G.facts b s g hg).more
    rw [← hk, hb', hg]
    show (g.more + 1).toNat = g.more.toNat + 1
    omega
end

section
variable {σ : Net} {s a b : Nat} {r : List Fr}
/-- Frames of others. -/
theorem left_others (G : Good σ) {f : Fr} (hq : σ.q a b = f :: r) (hf : f.about s = false) (hnw : f.news = none) : (Net.handle { σ with q := put2 σ.q a b r } b (some a) f).left s = σ.left s := by
  have T := G.tree
  have hn := G.nbr a b (by rw [hq]; simp)
  have h6 := near_lt6 T hn
  have hr : ∀ t evs m n, t ≠ s → restMore s (.rest t evs m n) = 0 := fun t evs m n h => by simp [restMore, h]
  have hr0 : restMore s f = 0 := by
    cases f with
    | rest t evs m n => exact hr t evs m n (fun g => by subst g; simp [Fr.about] at hf)
    | sub => rfl
    | unsub => rfl
    | event => rfl
    | move => rfl
  have h0 : Net.left { σ with q := put2 σ.q a b r } s = σ.left s := by have := left_pop σ s h6.1 h6.2 hq; omega
  have hoth : ∀ (ρ : Net) (x : Nat) (but : Option Nat), ρ.par = σ.par → ∀ y, y ∈ ρ.others x but → y < 6 := fun ρ x but hp y hy => by
    have := (mem_others.1 hy).1
    unfold Net.n at this
    rw [hp] at this
    exact Nat.lt_of_lt_of_le this (size_le T)
  cases f with
  | event e => cases hnw
  | sub t age fl =>
    have hts : s ≠ t := fun g => by subst g; simp [Fr.about] at hf
    have k := learn_keeps { σ with q := put2 σ.q a b r } b t age fl (some a)
    show (Net.pushAll _ _ _ _).left s = _
    rw [left_pushAll s rfl b _ _ (hoth _ _ _ k.1) h6.2, ← h0]
    unfold Net.learn
    split
    · exact left_know_other _ _ hts _
    · split
      · exact left_know_other _ _ hts _
      · rfl
  | unsub t age =>
    have hts : s ≠ t := fun g => by subst g; simp [Fr.about] at hf
    have k : (Net.forget { σ with q := put2 σ.q a b r } b t age).par = σ.par := by
      unfold Net.forget
      split
      · rfl
      · split <;> rfl
    show (Net.pushAll _ _ _ _).left s = _
    rw [left_pushAll s rfl b _ _ (hoth _ _ _ k) h6.2, ← h0]
    unfold Net.forget
    split
    · rfl
    · split
      · exact left_know_other _ _ hts _
      · rfl
  | move t age fl old new =>
    have hts : s ≠ t := fun g => by subst g; simp [Fr.about] at hf
    have hko : (Net.know { σ with q := put2 σ.q a b r } b t (some ⟨age, fl, some a, [], 0, false⟩)).left s = σ.left s := by rw [left_know_other _ _ hts, h0]
    simp only [Net.handle]
    split
    · rw [left_push _ s h6.2 h6.1, hko]
      split <;> rw [hr _ _ _ _ (fun g => hts g.symm)] <;> rfl
    · rename_i hbo
      have hok : old < σ.n := (G.frames a b (.move t age fl old new) (by rw [hq]; exact List.mem_cons_self ..)).2.2.1
      have hst := next_step T (near_lt T hn).2 hok hbo
      rw [left_push _ s h6.2 (Nat.lt_of_lt_of_le hst.2.1 (size_le T)), hko]; rfl
  | rest t evs m new =>
    have hts : t ≠ s := fun g => by subst g; simp [Fr.about] at hf
    have hok : new < σ.n := (G.frames a b (.rest t evs m new) (by rw [hq]; exact List.mem_cons_self ..)).2.1
    have hqk : ∀ (l : List News) (ρ : Net), (ρ.tells t l).left s = ρ.left s := fun l ρ => left_congr (tells_keep t l ρ).1 (tells_keep t l ρ).2.1 s
    have hlo : ∀ ρ : Net, (ρ.lose t m).left s = ρ.left s := fun ρ => left_congr rfl rfl s
    simp only [Net.handle]
    split
    · rename_i hbn
      have hst := next_step T (near_lt T hn).2 hok hbn
      rw [left_push _ s h6.2 (Nat.lt_of_lt_of_le hst.2.1 (size_le T)), hr t evs m new hts, h0]; rfl
    · split
      · exact h0
      · rw [left_know_other _ _ (fun g => hts g.symm), hqk, hqk, hlo, h0]

/-- Its own Move frame. -/
theorem left_moved (L : Live σ) {age : Int} {fl : List Tst} {old new : Nat} (hq : σ.q a b = .move s age fl old new :: r) (hway : b ≠ old → ∀ f, σ.kn b s = some f → f.way ≠ none) : (Net.handle { σ with q := put2 σ.q a b r } b (some a) (.move s age fl old new)).left s = σ.left s := by
  have G := L.good
  have T := G.tree
  have hn := G.nbr a b (by rw [hq]; simp)
  have h6 := near_lt6 T hn
  have h0 : Net.left { σ with q := put2 σ.q a b r } s = σ.left s := by have := left_pop σ s h6.1 h6.2 hq; have e : restMore s (.move s age fl old new) = 0 := rfl; omega
  have hk := left_know { σ with q := put2 σ.q a b r } h6.2 s (some ⟨age, fl, some a, [], 0, false⟩)
  have e0 : moreLen (some (⟨age, fl, some a, [], 0, false⟩ : Fact)) = 0 := rfl
  have e1 : ({ σ with q := put2 σ.q a b r } : Net).kn b s = σ.kn b s := rfl
  rw [e0, e1, h0] at hk
  simp only [Net.handle]
  split
  · rw [left_push _ s h6.2 h6.1]
    cases hkn : σ.kn b s with
    | none =>
      rw [hkn] at hk
      have e2 : moreLen none = 0 := rfl
      have e3 : restMore s (.rest s [] 0 new) = 0 := by simp [restMore]
      rw [e2] at hk
      show _ + restMore s (.rest s [] 0 new) = _
      omega
    | some f =>
      rw [hkn] at hk
      have e2 : moreLen (some f) = f.more.toNat := rfl
      have e3 : restMore s (.rest s f.kept f.more new) = f.more.toNat := by simp [restMore]
      rw [e2] at hk
      show _ + restMore s (.rest s f.kept f.more new) = _
      omega
  · rename_i hbo
    have hok : old < σ.n := (G.frames a b (.move s age fl old new) (by rw [hq]; exact List.mem_cons_self ..)).2.2.1
    have hst := next_step T (near_lt T hn).2 hok hbo
    rw [left_push _ s h6.2 (Nat.lt_of_lt_of_le hst.2.1 (size_le T))]
    have e3 : restMore s (.move s age fl old new) = 0 := rfl
    have e4 : moreLen (σ.kn b s) = 0 := by
      cases hkn : σ.kn b s with
      | none => rfl
      | some f =>
        show f.more.toNat = 0
        rw [((L.kept b s f hkn).2 (hway hbo f hkn)).2.1]; rfl
    omega
/-- Its own Rest frame: what it counted is told. -/
theorem left_rested (G : Good σ) {evs : List News} {m : Int} {new : Nat} (hq : σ.q a b = .rest s evs m new :: r) : (Net.handle { σ with q := put2 σ.q a b r } b (some a) (.rest s evs m new)).left s + (if b = new then m.toNat else 0) = σ.left s := by
  have T := G.tree
  have hn := G.nbr a b (by rw [hq]; simp)
  have h6 := near_lt6 T hn
  have e3 : restMore s (.rest s evs m new) = m.toNat := by simp [restMore]
  have h0 : Net.left { σ with q := put2 σ.q a b r } s + m.toNat = σ.left s := by have := left_pop σ s h6.1 h6.2 hq; omega
  have hok : new < σ.n := (G.frames a b (.rest s evs m new) (by rw [hq]; exact List.mem_cons_self ..)).2.1
  have hqk : ∀ (l : List News) (ρ : Net), (ρ.tells s l).left s = ρ.left s := fun l ρ => left_congr (tells_keep s l ρ).1 (tells_keep s l ρ).2.1 s
  have hlo : ∀ ρ : Net, (ρ.lose s m).left s = ρ.left s := fun ρ => left_congr rfl rfl s
  simp only [Net.handle]
  by_cases hb : b = new
  · rw [if_neg (fun g => g hb), if_pos hb]
    cases hkn : σ.kn b s with
    | none => exact h0
    | some f =>
      have hk := left_know (((Net.lose { σ with q := put2 σ.q a b r } s m).tells s evs).tells s f.kept) h6.2 s (some { f with kept := [], waits := false })
      have e1 : (((Net.lose { σ with q := put2 σ.q a b r } s m).tells s evs).tells s f.kept).kn b s = some f := by
        rw [(tells_keep s f.kept _).1, (tells_keep s evs _).1]; exact hkn
      rw [e1, hqk, hqk, hlo] at hk
      have e2 : moreLen (some { f with kept := [], waits := false }) = moreLen (some f) := rfl
      rw [e2] at hk
      show (Net.know (((Net.lose { σ with q := put2 σ.q a b r } s m).tells s evs).tells s f.kept) b s (some { f with kept := [], waits := false })).left s + m.toNat = _
      omega
  · rw [if_pos hb, if_neg hb]
    have hst := next_step T (near_lt T hn).2 hok hb
    rw [left_push _ s h6.2 (Nat.lt_of_lt_of_le hst.2.1 (size_le T)), e3]
    exact h0
end

section
variable {σ : Net} {s c b k old : Nat}
/-- It comes back: what was counted is told. -/
theorem left_backs {f : Fact} (hs2 : s = 2 * c + k) (hb : b < 6) (hu : (σ.cl c).used k = true) (hf : σ.kn b s = some f) : (σ.backs c b k).left s + f.more.toNat = σ.left s := by
  have h1 : σ.backs c b k = ((σ.lose s f.more).tells s f.kept).know b s (some { f with kept := [], more := 0 }) := by
    unfold Net.backs
    rw [if_pos hu, ← hs2, hf]
  have hk := left_know ((σ.lose s f.more).tells s f.kept) hb s (some { f with kept := [], more := 0 })
  have e1 : ((σ.lose s f.more).tells s f.kept).kn b s = some f := by rw [(tells_keep s f.kept _).1]; exact hf
  have e2 : ((σ.lose s f.more).tells s f.kept).left s = σ.left s := (left_congr (tells_keep s f.kept _).1 (tells_keep s f.kept _).2.1 s).trans (left_congr rfl rfl s)
  have e3 : moreLen (some { f with kept := [], more := 0 }) = 0 := rfl
  have e4 : moreLen (some f) = f.more.toNat := rfl
  rw [e1, e2, e3, e4] at hk
  rw [h1]; omega
/-- It comes elsewhere. -/
theorem left_comes (hs2 : s = 2 * c + k) (hb : b < 6) (hn : next σ.par b old < 6) (hm : moreLen (σ.kn b s) = 0) : (σ.comes c b old k).left s = σ.left s := by
  unfold Net.comes
  dsimp only
  split
  · rw [left_push _ s hb hn, ← hs2]
    have hk := left_know (σ.setCl c { σ.cl c with age := put (σ.cl c).age k ((σ.cl c).age k + 1) }) hb s (some ⟨(σ.cl c).age k + 1, (σ.cl c).fl k, none, [], 0, true⟩)
    have e1 : (σ.setCl c { σ.cl c with age := put (σ.cl c).age k ((σ.cl c).age k + 1) }).kn b s = σ.kn b s := rfl
    have e2 : (σ.setCl c { σ.cl c with age := put (σ.cl c).age k ((σ.cl c).age k + 1) }).left s = σ.left s := left_congr rfl rfl s
    have e3 : moreLen (some (⟨(σ.cl c).age k + 1, (σ.cl c).fl k, none, [], 0, true⟩ : Fact)) = 0 := rfl
    rw [e1, e2, e3, hm] at hk
    have e4 : restMore s (.move s ((σ.cl c).age k + 1) ((σ.cl c).fl k) old b) = 0 := rfl
    rw [e4]; omega
  · rfl
end

/-- What is asked for, from the i-th event on. -/
def rqSince (E : List News) (i : Nat) (fl : List Tst) : Int → Int → List News := fun p st => (E.drop i).filter (isStay p st fl)

section
variable {σ : Net} {s i : Nat} {fl : List Tst} {org : Int → Int → Nat} {E : List News} {G : Nat → Nat → List News}
theorem rise_at {E : List News} (h : E.Pairwise fun o e => o.ev.pub = e.ev.pub → o.ev.num < e.ev.num) {A B : List News} (e : E = A ++ B) {d x : News} (hd : d ∈ A) (hx : x ∈ B) (hp : d.ev.pub = x.ev.pub) : d.ev.num < x.ev.num := by
  rw [e, List.pairwise_append] at h
  exact h.2.2 d hd x hx hp
/-- What is not asked for came ahead of it. -/
theorem since_old (h : E.Pairwise fun o e => o.ev.pub = e.ev.pub → o.ev.num < e.ev.num) : ∀ p st d, d ∈ E → isStay p st fl d = true → d ∉ rqSince E i fl p st → ∀ x, x ∈ rqSince E i fl p st → ¬ x.ev.num < d.ev.num := by
  intro p st d hd hp hn x hx
  have hsp : E = E.take i ++ E.drop i := (List.take_append_drop i E).symm
  have hd1 : d ∈ E.take i := by
    rw [hsp] at hd
    rcases List.mem_append.1 hd with g | g
    · exact g
    · exact absurd (List.mem_filter.2 ⟨g, hp⟩) hn
  obtain ⟨hx1, hx2⟩ := List.mem_filter.1 hx
  simp only [isStay, Bool.and_eq_true, decide_eq_true_eq] at hp hx2
  have := rise_at h hsp hd1 hx1 (hp.1.1.trans hx2.1.1.symm)
  omega
/-- One event more. -/
theorem since_pub {e : News} (hi : i ≤ E.length) : rqSince (E ++ [e]) i fl = rqPub fl (rqSince E i fl) e := by
  funext p st
  unfold rqSince rqPub
  rw [List.drop_append_of_le_length hi, List.filter_append]
  split
  · rename_i h; simp [h]
  · rename_i h; simp [h]
theorem since_none : rqSince E E.length fl = fun _ _ => [] := by funext p st; simp [rqSince]
/-- Two events of one publisher with one number are one. -/
theorem EvsOk.one (V : EvsOk E σ) {d x : News} (hd : d ∈ E) (hx : x ∈ E) (hp : d.ev.pub = x.ev.pub) (hn : d.ev.num = x.ev.num) : d = x := by
  obtain ⟨A, B, hAB⟩ := List.append_of_mem hd
  have h := V.inc
  rw [hAB] at h hx
  rcases List.mem_append.1 hx with g | g
  · have := (List.pairwise_append.1 h).2.2 x g d (List.mem_cons_self ..) hp.symm
    omega
  · rcases List.mem_cons.1 g with g | g
    · exact g.symm
    · have := (List.pairwise_cons.1 (List.pairwise_append.1 h).2.1).1 x g hp
      omega
/-- What stands beside it, of what there is already. -/
theorem Side.of (C : Core E G σ) (B : Bare σ) (L : Live σ) (M : MvWay σ) (hs : s < 8) (S : SlotS s (σ.view s)) (hu : (σ.cl (s / 2)).used (s % 2) = true) (hf : (σ.cl (s / 2)).fl (s % 2) = fl) (hm : ∀ x y f, f ∈ σ.q x y → f.about s = true → f.isMv = true) (ho : ∀ p st, org p st < σ.n) (hO : ∀ p st, Outs σ (isStay p st fl) (org p st)) : Side σ s fl org E :=
  ⟨L, M, hs, S, hu, hf, hm, ho, hO, fun d hd => by have := (C.tells (s / 2) (by omega)).want (s % 2) (by omega) hu d hd; rw [hf] at this; exact this, C.pubs, fun _ _ hd hx hp hn => C.evs.one hd hx hp hn, fun b f hh hk hw => (B.here b s f hs hh hk hw).1⟩
end

def lostN (k : Nat) (en : Ent) : Nat := if en.slot = (k : Int) then en.lost.toNat else 0
/-- What the log counts as lost. -/
def lgOf (σ : Net) (s : Nat) : Nat := ((σ.cl (s / 2)).log.map (lostN (s % 2))).sum

section
variable {σ τ : Net} {s : Nat}
theorem lg_of (h : (τ.cl (s / 2)).log = (σ.cl (s / 2)).log) : lgOf τ s = lgOf σ s := by unfold lgOf; rw [h]
theorem lg_tell (t : Nat) (e : News) (σ : Net) : lgOf (σ.tell t e) s = lgOf σ s := by
  unfold lgOf
  rw [tell_cl]
  split
  · rename_i h
    unfold Cli.tell
    split
    · rw [h]
    · rw [h]
      simp [lostN]
  · rfl
theorem lg_tells (t : Nat) : ∀ (l : List News) (σ : Net), lgOf (σ.tells t l) s = lgOf σ s
  | [], _ => rfl
  | e :: l, σ => (lg_tells t l (σ.tell t e)).trans (lg_tell t e σ)
theorem lg_lose_other {t : Nat} (h : t ≠ s) (m : Int) (σ : Net) : lgOf (σ.lose t m) s = lgOf σ s := by
  unfold lgOf
  show ((put σ.cl (t / 2) _ (s / 2)).log.map _).sum = _
  by_cases e : s / 2 = t / 2
  · rw [e, put_same]
    unfold Cli.lose
    split
    · have : ((t % 2 : Nat) : Int) ≠ ((s % 2 : Nat) : Int) := by omega
      simp only [List.map_append, List.map_cons, List.map_nil, List.sum_append, List.sum_cons, List.sum_nil, lostN, if_neg this]
      rfl
    · rfl
  · rw [put_other _ _ e]
theorem lg_lose (m : Int) (σ : Net) : lgOf (σ.lose s m) s = lgOf σ s + m.toNat := by
  unfold lgOf
  show ((put σ.cl (s / 2) _ (s / 2)).log.map _).sum = _
  rw [put_same]
  unfold Cli.lose
  split
  · simp [lostN]
  · have : m.toNat = 0 := by omega
    rw [this]; rfl
theorem lg_hear (b : Nat) (e : News) (t : Nat) (σ : Net) : lgOf (σ.hear b e t) s = lgOf σ s := by
  unfold Net.hear
  split
  · rfl
  · split
    · split
      · rfl
      · split
        · rfl
        · exact lg_tell t e σ
    · rfl
theorem lg_hears (b : Nat) (e : News) : ∀ (l : List Nat) (σ : Net), lgOf (σ.hears b e l) s = lgOf σ s
  | [], _ => rfl
  | t :: l, σ => (lg_hears b e l (σ.hear b e t)).trans (lg_hear b e t σ)
theorem lg_pushAll (x : Nat) (f : Fr) (ys : List Nat) (σ : Net) : lgOf (σ.pushAll x ys f) s = lgOf σ s := lg_of (by rw [(pushAll_keeps (f := f) (x := x) ys σ).2.1])
theorem lg_happens (b : Nat) (e : News) (fr : Option Nat) (σ : Net) : lgOf (σ.happens b e fr) s = lgOf σ s := (lg_pushAll b (.event e) _ _).trans (lg_hears b e (List.range 8) σ)

variable {a b : Nat} {fl : List Tst} {org : Int → Int → Nat} {Rq : Int → Int → List News} {L : List News} {E : List News} {r : List Fr}
/-- A FRAME IS HANDLED: nothing is missing, and no more is lost than is counted. -/
theorem Fph.handle (X : Fph σ s fl org Rq L) (D : Side σ s fl org E) (hold : ∀ p st d, d ∈ E → isStay p st fl d = true → d ∉ Rq p st → ∀ x, x ∈ Rq p st → ¬ x.ev.num < d.ev.num) (hLE : ∀ d, d ∈ L → d ∈ E) {z : Nat} (hz : L.length ≤ z + lgOf σ s + σ.left s) {f : Fr} (hq : σ.q a b = f :: r)
    (hτ : τ = Net.handle { σ with q := put2 σ.q a b r } b (some a) f) : ∃ L', Fph τ s fl org Rq L' ∧ (∀ d, d ∈ L' → d ∈ E) ∧ L'.length ≤ z + lgOf τ s + τ.left s := by
  have G := D.live.good
  have T := G.tree
  have hn := G.nbr a b (by rw [hq]; simp)
  have h6 := near_lt6 T hn
  have hmem : f ∈ σ.q a b := by rw [hq]; exact List.mem_cons_self ..
  cases hab : f.about s with
  | false =>
    cases hnw : f.news with
    | none =>
      have e1 : τ.left s = σ.left s := by rw [hτ]; exact left_others G hq hab hnw
      have e2 : lgOf τ s = lgOf σ s := by
        rw [hτ]
        cases f with
        | event e => cases hnw
        | sub t age fl' => exact (lg_pushAll _ _ _ _).trans (lg_of (by rw [(learn_keeps { σ with q := put2 σ.q a b r } b t age fl' (some a)).2.2.2]))
        | unsub t age =>
          refine (lg_pushAll _ _ _ _).trans (lg_of ?_)
          unfold Net.forget
          split
          · rfl
          · split <;> rfl
        | move t age fl' old new =>
          simp only [Net.handle]
          split <;> rfl
        | rest t evs m new =>
          have hts : t ≠ s := fun g => by subst g; simp [Fr.about] at hab
          simp only [Net.handle]
          split
          · rfl
          · split
            · rfl
            · exact (lg_of rfl).trans ((lg_tells t _ _).trans ((lg_tells t _ _).trans (lg_lose_other hts m _)))
      exact ⟨L, X.others D hq hab hnw hτ, hLE, by rw [e1, e2]; exact hz⟩
    | some e =>
      have hfe : f = .event e := by
        cases f with
        | event e' => cases hnw; rfl
        | sub => cases hnw
        | unsub => cases hnw
        | move => cases hnw
        | rest => cases hnw
      subst hfe
      obtain ⟨L', hL, X'⟩ := X.event D hq hτ
      have hle := left_happens (σ := { σ with q := put2 σ.q a b r }) (s := s) ⟨T, fun x y g => by
          by_cases k : x = a ∧ y = b
          · rw [k.1, k.2]; exact hn
          · exact G.nbr x y (fun k' => g (by show put2 σ.q a b r x y = []; rw [put2_other _ _ k]; exact k')), fun x y g hg => G.frames x y g ((mem_pop hq).2 (Or.inl hg)), G.facts, G.clis⟩ D.hs h6.2 e (some a)
      have h0 : Net.left { σ with q := put2 σ.q a b r } s = σ.left s := by have := left_pop σ s h6.1 h6.2 hq; have e3 : restMore s (.event e) = 0 := rfl; omega
      have hτ2 : τ = Net.happens { σ with q := put2 σ.q a b r } b e (some a) := hτ
      have e2 : lgOf τ s = lgOf σ s := by rw [hτ2]; exact (lg_happens b e (some a) _).trans (lg_of rfl)
      rw [← hτ2, h0] at hle
      have heE : e ∈ E := D.pubs.fr a b _ hmem e (List.mem_singleton.2 rfl)
      rcases hL with ⟨h1, rfl⟩ | ⟨h1, rfl⟩
      · refine ⟨_, X', fun d hd => ?_, ?_⟩
        · rcases List.mem_cons.1 hd with rfl | hd
          · exact heE
          · exact hLE d hd
        · rw [hle.1 h1, e2]
          simp only [List.length_cons]
          omega
      · exact ⟨_, X', hLE, by rw [hle.2 h1, e2]; exact hz⟩
  | true =>
    have hmv := D.mvs a b f hmem hab
    cases f with
    | sub => cases hmv
    | unsub => cases hmv
    | event => cases hab
    | move t age fl' old new =>
      have hts : t = s := by simpa [Fr.about] using hab
      subst hts
      have e1 : τ.left t = σ.left t := by
        rw [hτ]
        refine left_moved D.live hq (fun hbo g hg hw => ?_)
        have hfl : fl' = fl := by
          cases (D.live.view t D.hs).ph with
          | off hu _ _ => have huv : (σ.view t).used = true := D.used; rw [huv] at hu; cases hu
          | on _ _ _ _ _ hno => have := D.mem_view hmem hab; rw [hno a b] at this; cases this
          | resting _ x' y' _ _ _ _ _ _ _ hon _ =>
            have h2 := D.mem_view hmem hab
            by_cases e : a = x' ∧ b = y'
            · obtain ⟨rfl, rfl⟩ := e; rw [hon.1] at h2; cases List.mem_singleton.1 h2
            · rw [hon.2 a b e] at h2; cases h2
          | moving _ _ x' y' _ _ _ _ _ _ _ _ hon _ =>
            have h2 := D.mem_view hmem hab
            have e : a = x' ∧ b = y' := Classical.byContradiction fun e => by rw [hon.2 a b e] at h2; cases h2
            obtain ⟨rfl, rfl⟩ := e
            rw [hon.1] at h2
            have := List.mem_singleton.1 h2
            simp only [Fr.move.injEq] at this
            exact this.2.2.1.trans D.flt
        subst hfl
        obtain ⟨_, _, _, hled, _⟩ := D.moving hmem
        obtain ⟨g', k1, _, k3⟩ := hled b (near_lt T hn).2
        rw [hg] at k1; cases k1
        simp only [if_pos (ySide_self T hn)] at k3
        rw [hw] at k3
        simp [wayTo, hbo] at k3
      have e2 : lgOf τ t = lgOf σ t := by
        rw [hτ]
        simp only [Net.handle]
        split <;> rfl
      exact ⟨L, X.moved D hold hq hτ, hLE, by rw [e1, e2]; exact hz⟩
    | rest t evs m new =>
      have hts : t = s := by simpa [Fr.about] using hab
      subst hts
      have e1 := left_rested G hq
      rw [← hτ] at e1
      refine ⟨L, X.rested D hq hτ, hLE, ?_⟩
      by_cases hb : b = new
      · obtain ⟨hl, hled, _⟩ := D.rest hmem
        obtain ⟨g, hg, _, _⟩ := hled new hl
        have e2 : lgOf τ t = lgOf σ t + m.toNat := by
          rw [hτ]
          simp only [Net.handle, hb, ne_eq, not_true_eq_false, if_false]
          rw [show ({ σ with q := put2 σ.q a new r } : Net).kn new t = some g from hg]
          exact (lg_of rfl).trans ((lg_tells t _ _).trans ((lg_tells t _ _).trans ((lg_lose m _).trans (congrArg (· + m.toNat) (lg_of rfl)))))
        rw [if_pos hb] at e1
        rw [e2]; omega
      · have e2 : lgOf τ t = lgOf σ t := by
          rw [hτ]
          simp only [Net.handle, if_pos hb]
          rfl
        rw [if_neg hb] at e1
        rw [e2]; omega
end

section
variable {σ : Net} {s i : Nat} {fl : List Tst} {org : Int → Int → Nat} {L : List News} {E : List News}
end

/-- All that is held of subscription s, which all brokers know since the i-th event; z: how many lost were read. -/
structure Wh (σ : Net) (s : Nat) (fl : List Tst) (org : Int → Int → Nat) (E : List News) (i z : Nat) (L : List News) : Prop where
  ph : Fph σ s fl org (rqSince E i fl) L
  inE : ∀ d, d ∈ L → d ∈ E
  cnt : L.length ≤ z + lgOf σ s + σ.left s
  outs : ∀ p st, Outs σ (isStay p st fl) (org p st)
  olt : ∀ p st, org p st < σ.n
  mvs : ∀ x y f, f ∈ σ.q x y → f.about s = true → f.isMv = true
  used : (σ.cl (s / 2)).used (s % 2) = true
  flt : (σ.cl (s / 2)).fl (s % 2) = fl

section
variable {σ τ : Net} {a b : Nat} {r : List Fr}
theorem evs_push {x y : Nat} {f : Fr} (h : f.news = none) (ρ : Net) (u v : Nat) : evs ((ρ.push x y f).q u v) = evs (ρ.q u v) := by
  show evs (put2 ρ.q x y (ρ.q x y ++ [f]) u v) = _
  by_cases e : u = x ∧ v = y
  · obtain ⟨rfl, rfl⟩ := e
    rw [put2_same, evs_append]
    simp [evs, h]
  · rw [put2_other _ _ e]
theorem evs_pushAll {x : Nat} {f : Fr} (h : f.news = none) (u v : Nat) : ∀ (ys : List Nat) (ρ : Net), evs ((ρ.pushAll x ys f).q u v) = evs (ρ.q u v)
  | [], _ => rfl
  | y :: ys, ρ => (evs_pushAll h u v ys (ρ.push x y f)).trans (evs_push h ρ u v)
/-- A frame that is no event leaves events alone. -/
theorem evs_handle {f : Fr} (hq : σ.q a b = f :: r) (h : f.news = none) (u v : Nat) : evs ((Net.handle { σ with q := put2 σ.q a b r } b (some a) f).q u v) = evs (σ.q u v) := by
  have h0 : evs (put2 σ.q a b r u v) = evs (σ.q u v) := by
    by_cases e : u = a ∧ v = b
    · obtain ⟨rfl, rfl⟩ := e
      rw [put2_same, hq]
      unfold evs
      rw [List.filterMap_cons, h]
    · rw [put2_other _ _ e]
  cases f with
  | event e => cases h
  | sub t age fl => refine (evs_pushAll h u v _ _).trans ?_; rw [(learn_keeps { σ with q := put2 σ.q a b r } b t age fl (some a)).2.1]; exact h0
  | unsub t age => refine (evs_pushAll h u v _ _).trans ?_; rw [(forget_keeps { σ with q := put2 σ.q a b r } b t age).2.1]; exact h0
  | move t age fl old new =>
    simp only [Net.handle]
    split
    · refine (evs_push (by split <;> rfl) _ u v).trans h0
    · exact (evs_push h _ u v).trans h0
  | rest t evs0 m new =>
    simp only [Net.handle]
    split
    · exact (evs_push h _ u v).trans h0
    · split
      · exact h0
      · show evs ((Net.tells _ t _).q u v) = _
        rw [(tells_keep t _ _).2.1, (tells_keep t _ _).2.1]; exact h0
/-- Frames about s come out of frames about s. -/
theorem mvs_handle {s : Nat} {f : Fr} (hq : σ.q a b = f :: r) (hm : ∀ x y g, g ∈ σ.q x y → g.about s = true → g.isMv = true) : ∀ x y g, g ∈ (Net.handle { σ with q := put2 σ.q a b r } b (some a) f).q x y → g.about s = true → g.isMv = true := by
  have hpop : ∀ x y g, g ∈ put2 σ.q a b r x y → g.about s = true → g.isMv = true := fun x y g hg => hm x y g ((mem_pop hq).2 (Or.inl hg))
  have hf : f.about s = true → f.isMv = true := hm a b f (by rw [hq]; exact List.mem_cons_self ..)
  intro x y g hg hab
  cases f with
  | event e =>
    rcases (mem_pushes _ _).1 hg with h | ⟨_, _, h⟩
    · have h : g ∈ (Net.hears { σ with q := put2 σ.q a b r } b e (List.range 8)).q x y := h
      rw [(hears_keeps b e (List.range 8) { σ with q := put2 σ.q a b r }).2.1] at h; exact hpop x y g h hab
    · rw [h] at hab; cases hab
  | sub t age fl =>
    rcases (mem_pushes _ _).1 hg with h | ⟨_, _, h⟩
    · rw [(learn_keeps { σ with q := put2 σ.q a b r } b t age fl (some a)).2.1] at h; exact hpop x y g h hab
    · rw [h] at hab ⊢; exact hf hab
  | unsub t age =>
    rcases (mem_pushes _ _).1 hg with h | ⟨_, _, h⟩
    · rw [(forget_keeps { σ with q := put2 σ.q a b r } b t age).2.1] at h; exact hpop x y g h hab
    · rw [h] at hab ⊢; exact hf hab
  | move t age fl old new =>
    simp only [Net.handle] at hg
    split at hg
    · rcases mem_push.1 hg with h | ⟨_, _, h⟩
      · exact hpop x y g h hab
      · rw [h]; split <;> rfl
    · rcases mem_push.1 hg with h | ⟨_, _, h⟩
      · exact hpop x y g h hab
      · rw [h]; rfl
  | rest t evs0 m new =>
    simp only [Net.handle] at hg
    split at hg
    · rcases mem_push.1 hg with h | ⟨_, _, h⟩
      · exact hpop x y g h hab
      · rw [h]; rfl
    · split at hg
      · exact hpop x y g hg hab
      · have hg : g ∈ (Net.tells _ t _).q x y := hg
        rw [(tells_keep t _ _).2.1, (tells_keep t _ _).2.1] at hg
        exact hpop x y g hg hab

variable {s i z : Nat} {fl : List Tst} {org : Int → Int → Nat} {L E : List News} {G : Nat → Nat → List News}
theorem Wh.side (W : Wh σ s fl org E i z L) (C : Core E G σ) (B : Bare σ) (Lv : Live σ) (M : MvWay σ) (hs : s < 8) (S : SlotS s (σ.view s)) : Side σ s fl org E := Side.of C B Lv M hs S W.used W.flt W.mvs W.olt W.outs
theorem handle_par (b : Nat) (fr : Option Nat) (f : Fr) (σ : Net) : (σ.handle b fr f).par = σ.par := by
  cases f with
  | sub t age fl => exact (pushAll_par _ _ _ _).trans (learn_keeps σ b t age fl fr).1
  | unsub t age => exact (pushAll_par _ _ _ _).trans (forget_keeps σ b t age).1
  | event e => exact (pushAll_par _ _ _ _).trans (hears_keeps b e (List.range 8) σ).1
  | move t age fl old new =>
    simp only [Net.handle]
    split
    · split <;> rfl
    · rfl
  | rest t evs m new =>
    simp only [Net.handle]
    split
    · rfl
    · split
      · rfl
      · exact (tells_keep t _ _).2.2.1.trans (tells_keep t _ _).2.2.1
/-- A DELIVERY KEEPS IT. -/
theorem Wh.del (W : Wh σ s fl org E i z L) (C : Core E G σ) (B : Bare σ) (Lv : Live σ) (M : MvWay σ) (hs : s < 8) (S : SlotS s (σ.view s)) (x y : Int) : ∃ L', Wh (σ.del x y) s fl org E i z L' := by
  have D := W.side C B Lv M hs S
  have hsm := Sm.del σ x y
  unfold Net.del at hsm ⊢
  split
  · rename_i hd
    rw [if_pos hd] at hsm
    cases hq : σ.q x.toNat y.toNat with
    | nil => exact ⟨L, W⟩
    | cons f r =>
      rw [hq] at hsm
      obtain ⟨τ, hτ⟩ : ∃ τ, τ = Net.handle { σ with q := put2 σ.q x.toNat y.toNat r } y.toNat (some x.toNat) f := ⟨_, rfl⟩
      obtain ⟨L', h1, h2, h3⟩ := W.ph.handle D (since_old C.evs.inc) W.inE W.cnt hq hτ
      have hpar : τ.par = σ.par := by rw [hτ]; exact handle_par _ _ _ _
      have hn : τ.n = σ.n := by unfold Net.n; rw [hpar]
      show ∃ L', Wh (Net.handle { σ with q := put2 σ.q x.toNat y.toNat r } y.toNat (some x.toNat) f) s fl org E i z L'
      have hsm : Sm σ (Net.handle { σ with q := put2 σ.q x.toNat y.toNat r } y.toNat (some x.toNat) f) := hsm
      rw [← hτ] at hsm ⊢
      refine ⟨L', h1, h2, h3, fun p st => ?_, fun p st => by rw [hn]; exact W.olt p st, by rw [hτ]; exact mvs_handle hq W.mvs, by rw [(hsm _).used]; exact W.used, by rw [(hsm _).fl]; exact W.flt⟩
      cases hnw : f.news with
      | none => exact (W.outs p st).same hpar (fun u v => by unfold qP; rw [hτ, evs_handle hq hnw])
      | some e =>
        have hfe : f = .event e := by
          cases f with
          | event e' => cases hnw; rfl
          | sub => cases hnw
          | unsub => cases hnw
          | move => cases hnw
          | rest => cases hnw
        subst hfe
        rw [hτ]
        exact (W.outs p st).event Lv.good (W.olt p st) hq
  · exact ⟨L, W⟩
end

section
variable {σ τ : Net} {s i z : Nat} {fl : List Tst} {org : Int → Int → Nat} {L E : List News} {G : Nat → Nat → List News}
/-- A client's numbers are set, but for what it was told. -/
theorem Wh.setCl (W : Wh σ s fl org E i z L) (D : Side σ s fl org E) {c : Nat} {x : Cli} (h1 : x.told = (σ.cl c).told) (h2 : x.home = (σ.cl c).home) (h3 : x.log = (σ.cl c).log) (h4 : x.used = (σ.cl c).used) (h5 : x.fl = (σ.cl c).fl) : Wh (σ.setCl c x) s fl org E i z L := by
  have hcl : ∀ d, ((σ.setCl c x).cl d).told = (σ.cl d).told ∧ ((σ.setCl c x).cl d).home = (σ.cl d).home ∧ ((σ.setCl c x).cl d).log = (σ.cl d).log ∧ ((σ.setCl c x).cl d).used = (σ.cl d).used ∧ ((σ.setCl c x).cl d).fl = (σ.cl d).fl := fun d => by
    show (put σ.cl c x d).told = _ ∧ (put σ.cl c x d).home = _ ∧ (put σ.cl c x d).log = _ ∧ (put σ.cl c x d).used = _ ∧ (put σ.cl c x d).fl = _
    by_cases e : d = c
    · rw [e, put_same]; exact ⟨h1, h2, h3, h4, h5⟩
    · rw [put_other _ _ e]; exact ⟨rfl, rfl, rfl, rfl, rfl⟩
  obtain ⟨k1, k2, k3, k4, k5⟩ := hcl (s / 2)
  refine ⟨W.ph.same D rfl (fun _ _ => rfl) (fun _ => rfl) (by unfold tldOf; rw [k1]) k2, W.inE, ?_, W.outs, W.olt, W.mvs, by rw [k4]; exact W.used, by rw [k5]; exact W.flt⟩
  have e1 : lgOf (σ.setCl c x) s = lgOf σ s := lg_of k3
  have e2 : (σ.setCl c x).left s = σ.left s := left_congr rfl rfl s
  rw [e1, e2]; exact W.cnt
/-- AN EVENT IS PUBLISHED. -/
theorem Wh.happens (W : Wh σ s fl org E i z L) (D : Side σ s fl org E) (hi : i ≤ E.length) {b : Nat} {e : News} (hb : b < σ.n) (horg : ∀ p st, isStay p st fl e = true → org p st = b) (hnum : ∀ d, d ∈ E → d.ev.pub = e.ev.pub → d.ev.num < e.ev.num) : ∃ L', Wh (σ.happens b e none) s fl org (E ++ [e]) i z L' := by
  have hnew : e ∉ E := fun h => by have := hnum e h rfl; omega
  have hsm := Sm.happens σ b e none
  have hnum' : ∀ p st d, isStay p st fl e = true → d ∈ E → isStay p st fl d = true → d.ev.num < e.ev.num := fun p st d h1 h2 h3 => by
    simp only [isStay, Bool.and_eq_true, decide_eq_true_eq] at h1 h3
    exact hnum d h2 (h3.1.1.trans h1.1.1.symm)
  obtain ⟨L', hL, X⟩ := W.ph.pub D hb horg W.inE hnum' hnew rfl
  rw [← since_pub hi] at X
  have hb6 : b < 6 := Nat.lt_of_lt_of_le hb (size_le D.live.good.tree)
  have hle := left_happens D.live.good D.hs hb6 e none
  have hlg := lg_happens (s := s) b e none σ
  have hpar : (σ.happens b e none).par = σ.par := (born_event b).par
  have hn : (σ.happens b e none).n = σ.n := by unfold Net.n; rw [hpar]
  have hin : ∀ d, d ∈ L' → d ∈ E ++ [e] := fun d hd => by
    rcases hL with ⟨_, rfl⟩ | ⟨_, rfl⟩
    · rcases List.mem_cons.1 hd with rfl | hd
      · simp
      · exact List.mem_append_left _ (W.inE d hd)
    · exact List.mem_append_left _ (W.inE d hd)
  have hcnt : L'.length ≤ z + lgOf (σ.happens b e none) s + (σ.happens b e none).left s := by
    have := W.cnt
    rcases hL with ⟨h1, rfl⟩ | ⟨h1, rfl⟩
    · rw [hle.1 h1, hlg]; simp only [List.length_cons]; omega
    · rw [hle.2 h1, hlg]; exact this
  refine ⟨L', X, hin, hcnt, fun p st => (W.outs p st).pub D.live.good (W.olt p st) hb (horg p st), fun p st => by rw [hn]; exact W.olt p st, fun x y f hf hab => ?_, by rw [(hsm _).used]; exact W.used, by rw [(hsm _).fl]; exact W.flt⟩
  rcases (mem_pushes _ _).1 hf with h | ⟨_, _, h⟩
  · have h : f ∈ (σ.hears b e (List.range 8)).q x y := h
    rw [(hears_keeps b e (List.range 8) σ).2.1] at h; exact W.mvs x y f h hab
  · rw [h] at hab; cases hab
end

section
variable {σ : Net} {s i z : Nat} {fl : List Tst} {org : Int → Int → Nat} {L E : List News}
theorem Wh.detach (W : Wh σ s fl org E i z L) (D : Side σ s fl org E) (c : Int) : Wh (σ.detach c) s fl org E i z L := by
  unfold Net.detach
  split
  · exact W.setCl D rfl rfl rfl rfl rfl
  · exact W
/-- A log is read: what it counts as lost is read. -/
theorem Wh.log (W : Wh σ s fl org E i z L) (D : Side σ s fl org E) (c : Int) : Wh (σ.log c) s fl org E i (z + (lgOf σ s - lgOf (σ.log c) s)) L := by
  have hcnt : ∀ y, lgOf (σ.log c) s = y → y ≤ lgOf σ s → L.length ≤ z + (lgOf σ s - y) + y + σ.left s := fun y _ h => by have := W.cnt; omega
  unfold Net.log at hcnt ⊢
  split
  · rename_i h
    rw [if_pos h] at hcnt
    have hcl : ∀ d, ((σ.setCl c.toNat { σ.cl c.toNat with log := [] }).cl d).told = (σ.cl d).told ∧ ((σ.setCl c.toNat { σ.cl c.toNat with log := [] }).cl d).home = (σ.cl d).home ∧ ((σ.setCl c.toNat { σ.cl c.toNat with log := [] }).cl d).used = (σ.cl d).used ∧ ((σ.setCl c.toNat { σ.cl c.toNat with log := [] }).cl d).fl = (σ.cl d).fl ∧ (((σ.setCl c.toNat { σ.cl c.toNat with log := [] }).cl d).log = (σ.cl d).log ∨ ((σ.setCl c.toNat { σ.cl c.toNat with log := [] }).cl d).log = []) := fun d => by
      show (put σ.cl c.toNat _ d).told = _ ∧ (put σ.cl c.toNat _ d).home = _ ∧ (put σ.cl c.toNat _ d).used = _ ∧ (put σ.cl c.toNat _ d).fl = _ ∧ ((put σ.cl c.toNat _ d).log = _ ∨ (put σ.cl c.toNat _ d).log = [])
      by_cases e : d = c.toNat
      · rw [e, put_same]; exact ⟨rfl, rfl, rfl, rfl, Or.inr rfl⟩
      · rw [put_other _ _ e]; exact ⟨rfl, rfl, rfl, rfl, Or.inl rfl⟩
    obtain ⟨k1, k2, k3, k4, k5⟩ := hcl (s / 2)
    have e2 : (σ.setCl c.toNat { σ.cl c.toNat with log := [] }).left s = σ.left s := left_congr rfl rfl s
    have hle : lgOf (σ.setCl c.toNat { σ.cl c.toNat with log := [] }) s ≤ lgOf σ s := by
      unfold lgOf
      rcases k5 with k5 | k5
      · rw [k5]; exact Nat.le_refl _
      · rw [k5]; exact Nat.zero_le _
    refine ⟨W.ph.same D rfl (fun _ _ => rfl) (fun _ => rfl) (by unfold tldOf; rw [k1]) k2, W.inE, ?_, W.outs, W.olt, W.mvs, by rw [k3]; exact W.used, by rw [k4]; exact W.flt⟩
    rw [e2]; exact hcnt _ rfl hle
  · rw [Nat.sub_self]; exact W
end

end Go.Proofs.Ytodfcpblcpogiaa

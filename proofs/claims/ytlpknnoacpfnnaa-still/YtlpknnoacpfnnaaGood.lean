/-
  What is true of every net that calls have made, whatever was delivered: frames wait between neighbours alone, ways lead to neighbours, and there are not too many frames.
-/
import Derived.Test.YtlpknnoacpfnnaaWeight
namespace Go.Proofs.Ytlpknnoacpfnnaa

def Fr.ok (n : Nat) : Fr → Prop
  | .sub s _ fl => s < 8 ∧ goodFilter fl = true
  | .unsub s _ => s < 8
  | .event _ => True
  | .move s _ fl old new => s < 8 ∧ goodFilter fl = true ∧ old < n ∧ new < n
  | .rest s _ m new => s < 8 ∧ new < n ∧ 0 ≤ m

structure FactOk (par : List Nat) (b s : Nat) (f : Fact) : Prop where
  bro : b < size par
  sub : s < 8
  fil : goodFilter f.fl = true
  way : ∀ y, f.way = some y → near par b y = true
  more : 0 ≤ f.more

structure CliOk (n : Nat) (x : Cli) : Prop where
  here : ∀ b, x.here = some b → b < n
  home : ∀ b, x.home = some b → b < n
  fil : ∀ k, x.used k = true → goodFilter (x.fl k) = true

structure Good (σ : Net) : Prop where
  tree : Tree σ.par
  nbr : ∀ x y, σ.q x y ≠ [] → near σ.par x y = true
  frames : ∀ x y f, f ∈ σ.q x y → f.ok σ.n
  facts : ∀ b s f, σ.kn b s = some f → FactOk σ.par b s f
  clis : ∀ c, c < 4 → CliOk σ.n (σ.cl c)

theorem Good.linked {σ : Net} (G : Good σ) : σ.Linked := ⟨G.tree, G.nbr⟩

/-! ### steps -/
section
variable {σ : Net} (G : Good σ)
include G

theorem Good.push {x y : Nat} (hn : near σ.par x y = true) {f : Fr} (hf : f.ok σ.n) : Good (σ.push x y f) := by
  refine ⟨G.tree, fun a b h => ?_, fun a b g hg => ?_, G.facts, G.clis⟩
  · by_cases e : a = x ∧ b = y
    · obtain ⟨rfl, rfl⟩ := e; exact hn
    · simp only [Net.push, put2_other _ _ e] at h
      exact G.nbr a b h
  · by_cases e : a = x ∧ b = y
    · obtain ⟨rfl, rfl⟩ := e
      simp only [Net.push, put2_same, List.mem_append, List.mem_singleton] at hg
      rcases hg with hg | rfl
      · exact G.frames _ _ _ hg
      · exact hf
    · simp only [Net.push, put2_other _ _ e] at hg
      exact G.frames _ _ _ hg

theorem Good.pop {x y : Nat} {f : Fr} {r : List Fr} (h : σ.q x y = f :: r) : Good { σ with q := put2 σ.q x y r } := by
  refine ⟨G.tree, fun a b h' => ?_, fun a b g hg => ?_, G.facts, G.clis⟩
  · by_cases e : a = x ∧ b = y
    · obtain ⟨rfl, rfl⟩ := e; exact G.nbr _ _ (by rw [h]; simp)
    · simp only [put2_other _ _ e] at h'
      exact G.nbr a b h'
  · by_cases e : a = x ∧ b = y
    · obtain ⟨rfl, rfl⟩ := e
      simp only [put2_same] at hg
      exact G.frames _ _ _ (by rw [h]; exact List.mem_cons_of_mem _ hg)
    · simp only [put2_other _ _ e] at hg
      exact G.frames _ _ _ hg

theorem Good.know {b s : Nat} {o : Option Fact} (ho : ∀ f, o = some f → FactOk σ.par b s f) : Good (σ.know b s o) := by
  refine ⟨G.tree, G.nbr, G.frames, fun a t f h => ?_, G.clis⟩
  by_cases e : a = b ∧ t = s
  · obtain ⟨rfl, rfl⟩ := e
    simp only [Net.know, put2_same] at h
    exact ho f h
  · simp only [Net.know, put2_other _ _ e] at h
    exact G.facts _ _ _ h

theorem Good.setCl {c : Nat} {x : Cli} (hx : CliOk σ.n x) : Good (σ.setCl c x) := by
  refine ⟨G.tree, G.nbr, G.frames, G.facts, fun d hd => ?_⟩
  by_cases e : d = c
  · subst e; simp only [Net.setCl, put_same]; exact hx
  · simp only [Net.setCl, put_other _ _ e]; exact G.clis d hd
end

theorem Good.pushAll {x : Nat} {f : Fr} : ∀ (ys : List Nat) {σ : Net}, Good σ → (∀ y, y ∈ ys → near σ.par x y = true) → f.ok σ.n → Good (σ.pushAll x ys f)
  | [], _, G, _, _ => G
  | y :: ys, _, G, h, hf => Good.pushAll ys (G.push (h y (List.mem_cons_self ..)) hf) (fun z hz => h z (List.mem_cons_of_mem _ hz)) hf

theorem others_near {σ : Net} {x y : Nat} {but : Option Nat} (h : y ∈ σ.others x but) : near σ.par x y = true ∧ some y ≠ but ∧ y < σ.n := by
  simp only [Net.others, List.mem_filter, List.mem_range, Bool.and_eq_true, decide_eq_true_eq] at h
  exact ⟨h.2.2, h.2.1, h.1⟩

theorem Good.spread {σ : Net} (G : Good σ) {x : Nat} {but : Option Nat} {f : Fr} (hf : f.ok σ.n) : Good (σ.spread x but f) :=
  Good.pushAll _ G (fun _ hy => (others_near hy).1) hf

theorem CliOk.tell {n : Nat} {x : Cli} (h : CliOk n x) (k : Nat) (e : News) : CliOk n (x.tell k e) := by
  unfold Cli.tell; split
  · exact h
  · exact ⟨h.here, h.home, h.fil⟩
theorem CliOk.lose {n : Nat} {x : Cli} (h : CliOk n x) (k : Nat) (m : Int) : CliOk n (x.lose k m) := by
  unfold Cli.lose; split
  · exact ⟨h.here, h.home, h.fil⟩
  · exact h
theorem Good.tell {σ : Net} (G : Good σ) {s : Nat} (hs : s < 8) (e : News) : Good (σ.tell s e) := G.setCl ((G.clis _ (by omega)).tell _ _)
theorem Good.lose {σ : Net} (G : Good σ) {s : Nat} (hs : s < 8) (m : Int) : Good (σ.lose s m) := G.setCl ((G.clis _ (by omega)).lose _ _)
theorem Good.tells {s : Nat} (hs : s < 8) : ∀ (l : List News) {σ : Net}, Good σ → Good (σ.tells s l)
  | [], _, G => G
  | e :: l, _, G => Good.tells hs l (G.tell hs e)

theorem Good.hear {σ : Net} (G : Good σ) (b : Nat) (e : News) {s : Nat} (hs : s < 8) : Good (σ.hear b e s) := by
  unfold Net.hear
  split
  · exact G
  · rename_i f hf
    have F := G.facts _ _ _ hf
    split
    · split
      · exact G.know (fun g hg => by cases hg; exact ⟨F.bro, F.sub, F.fil, F.way, F.more⟩)
      · split
        · exact G.know (fun g hg => by cases hg; exact ⟨F.bro, F.sub, F.fil, F.way, by have := F.more; simp only; omega⟩)
        · exact G.tell hs e
    · exact G

theorem hear_keeps (σ : Net) (b : Nat) (e : News) (s : Nat) : (σ.hear b e s).par = σ.par ∧ (σ.hear b e s).q = σ.q ∧ (σ.hear b e s).closed = σ.closed := by
  unfold Net.hear
  split
  · exact ⟨rfl, rfl, rfl⟩
  · split
    · split
      · exact ⟨rfl, rfl, rfl⟩
      · split
        · exact ⟨rfl, rfl, rfl⟩
        · exact ⟨rfl, rfl, rfl⟩
    · exact ⟨rfl, rfl, rfl⟩

def Net.hears (σ : Net) (b : Nat) (e : News) (l : List Nat) : Net := l.foldl (fun σ s => σ.hear b e s) σ
theorem hears_keeps (b : Nat) (e : News) : ∀ (l : List Nat) (σ : Net), (σ.hears b e l).par = σ.par ∧ (σ.hears b e l).q = σ.q ∧ (σ.hears b e l).closed = σ.closed
  | [], σ => ⟨rfl, rfl, rfl⟩
  | s :: l, σ => by
    have h1 := hear_keeps σ b e s
    have h2 := hears_keeps b e l (σ.hear b e s)
    exact ⟨h2.1.trans h1.1, h2.2.1.trans h1.2.1, h2.2.2.trans h1.2.2⟩
theorem Good.hears (b : Nat) (e : News) : ∀ (l : List Nat) {σ : Net}, Good σ → (∀ s, s ∈ l → s < 8) → Good (σ.hears b e l)
  | [], _, G, _ => G
  | s :: l, _, G, h => Good.hears b e l (G.hear b e (h s (List.mem_cons_self ..))) (fun t ht => h t (List.mem_cons_of_mem _ ht))

theorem targets_near {σ : Net} (G : Good σ) {b y : Nat} {e : News} {fr : Option Nat} (h : y ∈ σ.targets b e fr) : near σ.par b y = true ∧ some y ≠ fr ∧ y < σ.n := by
  simp only [Net.targets, List.mem_filter, List.mem_range, Bool.and_eq_true, decide_eq_true_eq, List.any_eq_true] at h
  obtain ⟨_, h2, s, hs, hw⟩ := h
  unfold Net.wants at hw
  split at hw
  · cases hw
  · rename_i f hf
    simp only [Bool.and_eq_true, decide_eq_true_eq] at hw
    have := (G.facts _ _ _ hf).way y hw.2
    exact ⟨this, h2, (near_lt G.tree this).2⟩

theorem Good.happens {σ : Net} (G : Good σ) (b : Nat) (e : News) (fr : Option Nat) : Good (σ.happens b e fr) := by
  have h := hears_keeps b e (List.range 8) σ
  refine Good.pushAll _ (Good.hears b e (List.range 8) G (fun s hs => List.mem_range.1 hs)) (fun y hy => ?_) trivial
  rw [show (List.foldl (fun σ s => σ.hear b e s) σ (List.range 8)).par = σ.par from h.1]
  exact (targets_near G hy).1

theorem Good.learn {σ : Net} (G : Good σ) {b s : Nat} {age : Int} {fl : List Tst} {way : Option Nat} (hb : b < σ.n) (hs : s < 8) (hf : goodFilter fl = true) (hw : ∀ y, way = some y → near σ.par b y = true) : Good (σ.learn b s age fl way) := by
  have hok : FactOk σ.par b s ⟨age, fl, way, [], 0, false⟩ := ⟨hb, hs, hf, hw, Int.le_refl _⟩
  unfold Net.learn
  split
  · exact G.know (fun g hg => by cases hg; exact hok)
  · split
    · exact G.know (fun g hg => by cases hg; exact hok)
    · exact G
theorem Good.forget {σ : Net} (G : Good σ) {b s : Nat} {age : Int} : Good (σ.forget b s age) := by
  unfold Net.forget
  split
  · exact G
  · split
    · exact G.know (fun g hg => by cases hg)
    · exact G
theorem learn_keeps (σ : Net) (b s : Nat) (age : Int) (fl : List Tst) (way : Option Nat) : (σ.learn b s age fl way).par = σ.par ∧ (σ.learn b s age fl way).q = σ.q ∧ (σ.learn b s age fl way).closed = σ.closed ∧ (σ.learn b s age fl way).cl = σ.cl := by
  unfold Net.learn
  split
  · exact ⟨rfl, rfl, rfl, rfl⟩
  · split <;> exact ⟨rfl, rfl, rfl, rfl⟩
theorem forget_keeps (σ : Net) (b s : Nat) (age : Int) : (σ.forget b s age).par = σ.par ∧ (σ.forget b s age).q = σ.q ∧ (σ.forget b s age).closed = σ.closed ∧ (σ.forget b s age).cl = σ.cl := by
  unfold Net.forget
  split
  · exact ⟨rfl, rfl, rfl, rfl⟩
  · split <;> exact ⟨rfl, rfl, rfl, rfl⟩
theorem tells_keeps (s : Nat) : ∀ (l : List News) (σ : Net), (σ.tells s l).par = σ.par ∧ (σ.tells s l).q = σ.q ∧ (σ.tells s l).closed = σ.closed ∧ (σ.tells s l).kn = σ.kn
  | [], _ => ⟨rfl, rfl, rfl, rfl⟩
  | e :: l, σ => tells_keeps s l (σ.tell s e)

theorem Good.handle {σ : Net} (G : Good σ) {b a : Nat} (hn : near σ.par b a = true) {f : Fr} (hf : f.ok σ.n) : Good (σ.handle b (some a) f) := by
  have hb := (near_lt G.tree hn).1
  have hw : ∀ y, some a = some y → near σ.par b y = true := fun y e => by cases e; exact hn
  cases f with
  | sub s age fl =>
    have hk := learn_keeps σ b s age fl (some a)
    exact (G.learn hb hf.1 hf.2 hw).spread (by simp only [Net.n, hk.1]; exact hf)
  | unsub s age =>
    have hk := forget_keeps σ b s age
    exact (G.forget).spread (by simp only [Fr.ok]; exact hf)
  | event e => exact G.happens b e (some a)
  | move s age fl old new =>
    obtain ⟨h1, h2, h3, h4⟩ := hf
    have G' : Good (σ.know b s (some ⟨age, fl, some a, [], 0, false⟩)) := G.know (fun g hg => by cases hg; exact ⟨hb, h1, h2, hw, Int.le_refl _⟩)
    simp only [Net.handle]
    split
    · refine G'.push (by exact hn) ?_
      split
      · rename_i f hf
        exact ⟨h1, h4, (G.facts _ _ _ hf).more⟩
      · exact ⟨h1, h4, Int.le_refl _⟩
    · rename_i hne
      exact G'.push (next_step G.tree hb h3 hne).1 ⟨h1, h2, h3, h4⟩
  | rest s evs m new =>
    obtain ⟨h1, h2, h3⟩ := hf
    simp only [Net.handle]
    split
    · rename_i hne
      exact G.push (next_step G.tree hb h2 hne).1 ⟨h1, h2, h3⟩
    · split
      · exact G
      · rename_i f hf
        have F := G.facts _ _ _ hf
        have hk1 := tells_keeps s evs (σ.lose s m)
        have hk2 := tells_keeps s f.kept ((σ.lose s m).tells s evs)
        refine (Good.tells h1 _ (Good.tells h1 _ (G.lose h1 m))).know (fun g hg => ?_)
        cases hg
        rw [hk2.1, hk1.1]
        exact ⟨F.bro, F.sub, F.fil, F.way, F.more⟩

/-! ### the weight -/
theorem sum_others {σ : Net} {x : Nat} {a : Option Nat} {f : Fr} : ((σ.others x a).map fun y => wt σ.par x y f).sum = (((List.range (size σ.par)).filter fun z => decide (some z ≠ a) && near σ.par x z).map fun z => wt σ.par x z f).sum := rfl

theorem weight_spread {σ : Net} (T : Tree σ.par) {a b : Nat} (hn : near σ.par a b = true) {f : Fr} (hf : ∀ x y, wt σ.par x y f = beyond σ.par x y) : (σ.spread b (some a) f).weight + 1 ≤ σ.weight + beyond σ.par a b := by
  have hb := near_lt6 T hn
  have h1 := weight_pushAll f hb.2 (σ.others b (some a)) σ (fun y hy => (near_lt6 T (others_near hy).1).2)
  have h2 := (beyond_step T hn).1
  have h3 := filter_sum_le (g := fun z => beyond σ.par b z) (p := fun z => decide (some z ≠ some a) && near σ.par b z) (r := fun z => near σ.par b z && decide (z ≠ a)) (List.range (size σ.par)) (fun z _ hz => by simpa [and_comm] using hz)
  rw [sum_others] at h1
  simp only [hf] at h1
  simp only [Net.spread]
  omega

theorem nodup_filter_sum {g : Nat → Nat} {l m : List Nat} (hl : l.Nodup) (h : ∀ z, z ∈ l → z ∈ m) : (l.map g).sum ≤ (m.map g).sum := by
  induction l generalizing m with
  | nil => simp
  | cons a l ih =>
    have ha := h a (List.mem_cons_self ..)
    obtain ⟨m1, m2, rfl⟩ := List.append_of_mem ha
    have hl' := List.nodup_cons.1 hl
    have := ih hl'.2 (m := m1 ++ m2) (fun z hz => by
      have hz' := h z (List.mem_cons_of_mem _ hz)
      have hne : z ≠ a := fun e => hl'.1 (e ▸ hz)
      simp only [List.mem_append, List.mem_cons] at hz' ⊢
      rcases hz' with h | h | h
      · exact Or.inl h
      · exact absurd h hne
      · exact Or.inr h)
    simp only [List.map_append, List.sum_append, List.map_cons, List.sum_cons] at *
    omega

theorem targets_sum {σ : Net} (G : Good σ) {b : Nat} {e : News} {fr : Option Nat} : ((σ.targets b e fr).map fun y => beyond σ.par b y).sum ≤ (((List.range (size σ.par)).filter fun z => near σ.par b z && decide (some z ≠ fr)).map fun z => beyond σ.par b z).sum := by
  refine nodup_filter_sum (List.Pairwise.filter _ List.nodup_range) (fun z hz => ?_)
  have := targets_near G hz
  simp only [List.mem_filter, List.mem_range, Bool.and_eq_true, decide_eq_true_eq]
  exact ⟨this.2.2, this.1, this.2.1⟩

theorem weight_happens {σ : Net} (G : Good σ) {b : Nat} (hb : b < 6) (e : News) (fr : Option Nat) : (σ.happens b e fr).weight = σ.weight + ((σ.targets b e fr).map fun y => beyond σ.par b y).sum := by
  have hk := hears_keeps b e (List.range 8) σ
  have h1 := weight_pushAll (.event e) hb (σ.targets b e fr) (σ.hears b e (List.range 8)) (fun y hy => (near_lt6 G.tree (targets_near G hy).1).2)
  rw [weight_congr hk.1 hk.2.1, hk.1] at h1
  exact h1

theorem weight_handle {σ : Net} (G : Good σ) {a b : Nat} (hn : near σ.par a b = true) {f : Fr} (hf : f.ok σ.n) : (σ.handle b (some a) f).weight + 1 ≤ σ.weight + wt σ.par a b f := by
  have T := G.tree
  have h6 := near_lt6 T hn
  have hlt := near_lt T hn
  cases f with
  | sub s age fl =>
    have hk := learn_keeps σ b s age fl (some a)
    have := weight_spread (σ := σ.learn b s age fl (some a)) (by rw [hk.1]; exact T) (by rw [hk.1]; exact hn) (f := .sub s age fl) (fun _ _ => rfl)
    rw [weight_congr hk.1 hk.2.1, hk.1] at this
    exact this
  | unsub s age =>
    have hk := forget_keeps σ b s age
    have := weight_spread (σ := σ.forget b s age) (by rw [hk.1]; exact T) (by rw [hk.1]; exact hn) (f := .unsub s age) (fun _ _ => rfl)
    rw [weight_congr hk.1 hk.2.1, hk.1] at this
    exact this
  | event e =>
    have h1 := weight_happens G h6.2 e (some a)
    have h2 := targets_sum G (b := b) (e := e) (fr := some a)
    have h3 := (beyond_step T hn).1
    have h4 := filter_sum_le (g := fun z => beyond σ.par b z) (p := fun z => near σ.par b z && decide (some z ≠ some a)) (r := fun z => near σ.par b z && decide (z ≠ a)) (List.range (size σ.par)) (fun z _ hz => by simpa using hz)
    simp only [Net.handle, wt]
    omega
  | move s age fl old new =>
    simp only [Net.handle]
    have hw : (σ.know b s (some ⟨age, fl, some a, [], 0, false⟩)).weight = σ.weight := weight_congr rfl rfl
    split
    · rw [weight_push _ h6.2 h6.1, hw]
      have hd := dist_le σ.par a new
      split
      · simp only [wt, Net.know]; omega
      · simp only [wt, Net.know]; omega
    · rename_i hne
      have hs := next_step T hlt.2 hf.2.2.1 hne
      rw [weight_push _ h6.2 (near_lt6 T hs.1).2, hw]
      simp only [wt, Net.know]
      omega
  | rest s evs m new =>
    simp only [Net.handle]
    split
    · rename_i hne
      have hs := next_step T hlt.2 hf.2.1 hne
      rw [weight_push _ h6.2 (near_lt6 T hs.1).2]
      simp only [wt]
      omega
    · split
      · simp only [wt]; omega
      · rename_i f hf
        have hk1 := tells_keeps s evs (σ.lose s m)
        have hk2 := tells_keeps s f.kept ((σ.lose s m).tells s evs)
        have : ∀ o, ((((σ.lose s m).tells s evs).tells s f.kept).know b s o).weight = σ.weight := fun o => weight_congr (hk2.1.trans hk1.1) (hk2.2.1.trans hk1.2.1)
        rw [this]
        simp only [wt]; omega

/-- A frame is handled: the net is good again, and lighter. -/
theorem Good.del {σ : Net} (G : Good σ) (a b : Int) : Good (σ.del a b) ∧ (σ.del a b).weight ≤ σ.weight ∧ (σ.delE a b = 0 → (σ.del a b).weight + 1 ≤ σ.weight) := by
  unfold Net.del
  split
  · rename_i he
    split
    · rename_i f r hq
      have hn := G.nbr _ _ (by rw [hq]; simp : σ.q a.toNat b.toNat ≠ [])
      have hn' : near σ.par b.toNat a.toNat = true := by rw [near_comm]; exact hn
      have h6 := near_lt6 G.tree hn
      have hf := G.frames _ _ f (by rw [hq]; exact List.mem_cons_self ..)
      have G' := G.pop hq
      have hw := weight_put2 σ a.toNat b.toNat h6.1 h6.2 r
      have hl : σ.wtL a.toNat b.toNat = wt σ.par a.toNat b.toNat f + (r.map (wt σ.par a.toNat b.toNat)).sum := by simp [Net.wtL, hq]
      have hh := weight_handle G' (a := a.toNat) (b := b.toNat) hn (f := f) hf
      refine ⟨G'.handle hn' hf, ?_, fun _ => ?_⟩
      · simp only at hh; omega
      · simp only at hh; omega
    · rename_i hq
      exact ⟨G, Nat.le_refl _, fun _ => by simp [Net.delE, hq] at he; split at he <;> simp_all⟩
  · rename_i he
    exact ⟨G, Nat.le_refl _, fun h => absurd h he⟩

end Go.Proofs.Ytlpknnoacpfnnaa

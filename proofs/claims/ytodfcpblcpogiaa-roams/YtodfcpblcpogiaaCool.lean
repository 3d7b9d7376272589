/-
  An event at a broker.
-/
import Derived.Test.YtodfcpblcpogiaaIter
import Derived.Test.YtodfcpblcpogiaaAtp
namespace Go.Proofs.Ytodfcpblcpogiaa

/-- A net in which an event can be handled. -/
structure Warm (σ : Net) (m : Nat) : Prop where
  live : Live σ
  slack : Slack 0 0 σ m
  nums : Nums σ m
  news : ∃ E, Pubs E σ ∧ ∀ e, e ∈ E → e.lim m

theorem Ready.warm {σ : Net} {m : Nat} (R : Ready σ m) : Warm σ m := ⟨R.alive.live, R.slack, R.nums, R.news⟩
theorem Warm.hear {σ : Net} {m : Nat} (W : Warm σ m) {b : Nat} (hb : b < 6) {e : News} (he : e.lim (m + 1)) {s : Nat} (hs : s < 8) : Warm (σ.hear b e s) (m + 1) := by
  obtain ⟨E, h1, h2⟩ := W.news
  refine ⟨W.live.hear b e hs, (W.slack.hear hb e hs).of_none 0, W.nums.hear b e s, E ++ [e], (h1.mono (fun o ho => List.mem_append_left _ ho)).hear b (List.mem_append_right _ (List.mem_singleton.2 rfl)) s, fun o ho => ?_⟩
  rcases List.mem_append.1 ho with ho | ho
  · exact (h2 o ho).weak (by omega)
  · rw [List.mem_singleton.1 ho]; exact he
theorem Warm.hears {b : Nat} (hb : b < 6) {e : News} : ∀ (l : List Nat) {σ : Net} {m : Nat}, Warm σ m → e.lim (m + 1) → (∀ s, s ∈ l → s < 8) → Warm (σ.hears b e l) (m + l.length)
  | [], _, _, W, _, _ => W
  | s :: l, σ, m, W, he, hl => by
    have := Warm.hears hb l (W.hear hb he (hl s (List.mem_cons_self ..))) (he.weak (by omega)) (fun t ht => hl t (List.mem_cons_of_mem _ ht))
    have e1 : m + 1 + l.length = m + (s :: l).length := by simp; omega
    rw [← e1]; exact this

theorem Warm.rising {σ : Net} {m : Nat} (W : Warm σ m) (c k : Nat) : Rising ((σ.cl c).told k) := by
  obtain ⟨E, h1, h2⟩ := W.news
  refine ⟨((W.nums.cl c).ris k).imp (fun {o e} h hp hs => ?_), fun e he => (h2 e (h1.told c k e he)).2.2.1⟩
  unfold Later at h
  by_cases hx : e.ev.num ≤ o.ev.num
  · exact absurd ⟨hp, hs, hx⟩ h
  · omega
theorem Warm.lens {σ : Net} {m : Nat} (W : Warm σ m) {c : Nat} (hc : c < 4) : (σ.cl c).log.length ≤ m ∧ ∀ k, k < 2 → ((σ.cl c).told k).length ≤ m := by
  refine ⟨by have := W.slack.log c hc; omega, fun k hk => ?_⟩
  have := W.slack.told (2 * c + k) (by omega)
  have h1 : (2 * c + k) / 2 = c := by omega
  have h2 : (2 * c + k) % 2 = k := by omega
  simp only [Net.toldN, h1, h2] at this
  omega
theorem Warm.keptLe {σ : Net} {m : Nat} (W : Warm σ m) {b s : Nat} (hb : b < 6) (hs : s < 8) {f : Fact} (hf : σ.kn b s = some f) : f.kept.length ≤ m := by
  have h1 := W.slack.told s hs
  have h2 : keptLen (σ.kn b s) ≤ σ.massK s := le_sum6 (f := fun b => keptLen (σ.kn b s)) hb
  rw [hf] at h2
  simp only [Net.mass] at h1
  have h3 : keptLen (some f) = f.kept.length := rfl
  omega
/-- Who is here, and is not waited for, can be told. -/
theorem Warm.told {σ : Net} {m : Nat} (W : Warm σ m) (hm : m < 2199023255552) {b s : Nat} (hs : s < 8) {f : Fact} (hf : σ.kn b s = some f) (hw : f.way = none) (hh : (σ.cl (s / 2)).here = some b) (hwt : f.waits = false) : Hears (σ.cl (s / 2)) (s % 2) := by
  have h1 := W.lens (c := s / 2) (by omega)
  have h2 := h1.2 (s % 2) (by omega)
  exact ⟨(W.live.here_fl hs hf hw hh hwt).1, W.rising _ _, by omega, by omega⟩

theorem hear_kn_other (σ : Net) (x : Nat) (e : News) {s t : Nat} (h : t ≠ s) (b : Nat) : (σ.hear x e s).kn b t = σ.kn b t := by
  unfold Net.hear
  split
  · rfl
  · split
    · split
      · simp only [Net.know, put2_other _ _ (fun e => h e.2)]
      · split
        · simp only [Net.know, put2_other _ _ (fun e => h e.2)]
        · rfl
    · rfl
theorem hears_kn_other (x : Nat) (e : News) {t : Nat} (b : Nat) : ∀ (l : List Nat) (σ : Net), t ∉ l → (σ.hears x e l).kn b t = σ.kn b t
  | [], _, _ => rfl
  | s :: l, σ, h => by
    have h1 := hears_kn_other x e b l (σ.hear x e s) (fun hh => h (List.mem_cons_of_mem _ hh))
    exact h1.trans (hear_kn_other σ x e (fun hh => h (by rw [hh]; exact List.mem_cons_self ..)) b)
/-- But for what is kept, what is known stays. -/
theorem hears_co (x : Nat) (e : News) (l : List Nat) (σ : Net) (b s : Nat) : ((σ.hears x e l).kn b s).map Fact.co = (σ.kn b s).map Fact.co := by
  have := congrArg (fun v => v.co b) (view_hears x e s l σ)
  exact this

theorem hears_snoc (σ : Net) (x : Nat) (e : News) (l : List Nat) (s : Nat) : σ.hears x e (l ++ [s]) = (σ.hears x e l).hear x e s := by simp [Net.hears, List.foldl_append]

/-- What stands there is what is known. -/
def Stands (σ : Net) (x : Nat) (ft : Stand) : Prop := ∀ s, s < 8 → σ.kn x s = (ft s).map (·.1)

theorem hears_wanted {σ : Net} {x : Nat} {ft : Stand} {e : News} (hs : Stands σ x ft) : ∀ n, n ≤ 8 → σ.hears x e (List.range n) = σ.hears x e ((wantTo ft e.ev n).map (·.1))
  | 0, _ => rfl
  | n + 1, hn => by
    have ih := hears_wanted hs (e := e) n (by omega)
    rw [List.range_succ, hears_snoc, wantTo_succ, List.map_append]
    have hkn : (σ.hears x e (List.range n)).kn x n = (ft n).map (·.1) := by rw [hears_kn_other x e x (List.range n) σ (by simp)]; exact hs n (by omega)
    cases hf : ft n with
    | none =>
      rw [hf] at hkn
      simp only [Net.hear, hkn, Option.map_none]
      simp [ih]
    | some a =>
      obtain ⟨f, kb, kv⟩ := a
      rw [hf] at hkn
      simp only
      by_cases hm : meets f.fl e.ev = true
      · rw [if_pos hm]
        simp only [List.map_cons, List.map_nil]
        rw [hears_snoc, ih]
      · rw [if_neg hm]
        simp only [Net.hear, hkn, Option.map_some]
        simp [hm, ih]

/-- Ways that some of the subscriptions have. -/
def wayIs (o : Option Fact) (y : Nat) : Bool := match o with
  | some f => decide (f.way = some y)
  | none => false
def flag (σ : Net) (x : Nat) (l : List Nat) (y : Nat) : Bool := l.any fun s => wayIs (σ.kn x s) y

theorem flag_wanted {σ : Net} {x : Nat} {ft : Stand} {e : News} (hs : Stands σ x ft) (y : Nat) : flag σ x ((wantTo ft e.ev 8).map (·.1)) y = (List.range 8).any (σ.wants x e y) := by
  have key : ∀ n, n ≤ 8 → flag σ x ((wantTo ft e.ev n).map (·.1)) y = (List.range n).any (σ.wants x e y) := by
    intro n
    induction n with
    | zero => intro _; rfl
    | succ n ih =>
      intro hn
      rw [List.range_succ, wantTo_succ, List.map_append, List.any_append, flag, List.any_append]
      have ih := ih (by omega)
      unfold flag at ih
      rw [ih]
      congr 1
      have hk := hs n (by omega)
      simp only [List.any_cons, List.any_nil, Bool.or_false, Net.wants]
      cases hf : ft n with
      | none => rw [hf] at hk; simp [hk]
      | some a =>
        obtain ⟨f, kb, kv⟩ := a
        rw [hf] at hk
        simp only [Option.map_some] at hk
        rw [hk]
        simp only
        by_cases hm : meets f.fl e.ev = true
        · simp [hm, hk, wayIs]
        · simp [hm]
  exact key 8 (Nat.le_refl _)

theorem targets_flag {σ : Net} {x : Nat} {ft : Stand} {e : News} (hs : Stands σ x ft) (fr : Option Nat) : σ.targets x e fr = (List.range 6).filter fun y => decide (some y ≠ fr) && flag σ x ((wantTo ft e.ev 8).map (·.1)) y := by
  unfold Net.targets
  congr 1
  funext y
  rw [flag_wanted hs]

/-- The sends: those below k. -/
def sendTo (σ : Net) (x : Nat) (fr : Option Nat) (g : Nat → Bool) (f : Fr) (k : Nat) : Net := σ.pushAll x ((List.range k).filter fun y => decide (some y ≠ fr) && g y) f
theorem sendTo_succ (σ : Net) (x : Nat) (fr : Option Nat) (g : Nat → Bool) (f : Fr) (k : Nat) : sendTo σ x fr g f (k + 1) = if (decide (some k ≠ fr) && g k) = true then (sendTo σ x fr g f k).push x k f else sendTo σ x fr g f k := by
  unfold sendTo
  rw [List.range_succ, List.filter_append]
  by_cases h : (decide (some k ≠ fr) && g k) = true
  · rw [if_pos h]
    simp only [List.filter_cons, h, if_true, List.filter_nil, Net.pushAll, List.foldl_append, List.foldl_cons, List.foldl_nil]
  · rw [if_neg h]
    simp only [List.filter_cons, h, List.filter_nil, Net.pushAll]
    simp
theorem sendTo_par (σ : Net) (x : Nat) (fr : Option Nat) (g : Nat → Bool) (f : Fr) (k : Nat) : (sendTo σ x fr g f k).par = σ.par := pushAll_par _ _ _ _
theorem sendTo_q (σ : Net) (x : Nat) (fr : Option Nat) (g : Nat → Bool) (f : Fr) (k a y : Nat) (hy : k ≤ y) : (sendTo σ x fr g f k).q a y = σ.q a y := by
  unfold sendTo
  rw [q_pushAll _ _ _ _ (List.Pairwise.filter _ List.nodup_range), if_neg (by simp; omega)]

end Go.Proofs.Ytodfcpblcpogiaa

/-
  Clients that stay, and events: of each publisher and each subscription what was told, and what is on its way, is what was published, in its order.
-/
import Derived.Test.YtlpknnoacpfnnaaStay2
namespace Go.Proofs.Ytlpknnoacpfnnaa

def Fr.news : Fr → Option News
  | .event e => some e
  | _ => none
def evs (l : List Fr) : List News := l.filterMap Fr.news
theorem evs_append (l m : List Fr) : evs (l ++ m) = evs l ++ evs m := by simp [evs]
@[simp] theorem evs_event (e : News) (l : List Fr) : evs (.event e :: l) = e :: evs l := rfl
@[simp] theorem evs_nil : evs [] = [] := rfl

/-- What is on its way from a broker to a home, the first to come first. -/
def chain (σ : Net) (P : News → Bool) (h : Nat) : Nat → Nat → List News
  | 0, _ => []
  | k + 1, x => chain σ P h k (next σ.par x h) ++ (evs (σ.q x (next σ.par x h))).filter P

/-- Of a publisher, and wanted. -/
def isOf (p : Nat) (l : List Tst) (e : News) : Bool := decide (e.ev.pub = p) && meets l e.ev

inductive Path (par : List Nat) (b h : Nat) : Nat → Prop
  | start : Path par b h b
  | step {u : Nat} : Path par b h u → u ≠ h → Path par b h (next par u h)

section
variable {par : List Nat} (T : Tree par) {b h : Nat} (hb : b < size par) (hh : h < size par)
include T hb hh
theorem Path.lt {u : Nat} (p : Path par b h u) : u < size par := by
  induction p with
  | start => exact hb
  | step p hne ih => exact (next_step T ih hh hne).2.1
theorem Path.pred {u : Nat} (p : Path par b h u) : u = b ∨ (∃ t, Path par b h t ∧ t ≠ h ∧ u = next par t h ∧ u ≠ b ∧ next par u b = t) := by
  induction p with
  | start => exact Or.inl rfl
  | step p hne ih =>
    rename_i u
    right
    have hu := p.lt T hb hh
    have hs := next_step T hu hh hne
    rcases ih with rfl | ⟨t, pt, ht, e, hub, hn⟩
    · exact ⟨u, p, hne, rfl, fun e => near_ne T hs.1 e.symm, next_near T (by rw [near_comm]; exact hs.1)⟩
    · have hsu := next_step T (pt.lt T hb hh) hh ht
      rw [← e] at hsu
      have hne2 : next par u h ≠ t := fun e2 => by rw [e2] at hs; omega
      have ho := outward T hs.1 hb (by rw [hn]; exact hne2)
      exact ⟨u, p, hne, rfl, ho.1, ho.2⟩
theorem Path.home : ∀ (k u : Nat), dist par u h = k → Path par b h u → Path par b h h
  | 0, u, hk, p => by
    by_cases e : u = h
    · exact e ▸ p
    · have := dist_pos (par := par) e; omega
  | k + 1, u, hk, p => by
    have hne : u ≠ h := fun e => by subst e; simp at hk
    have hs := next_step T (p.lt T hb hh) hh hne
    exact Path.home k _ (by omega) (.step p hne)
end

theorem chain_congr {σ τ : Net} {P : News → Bool} {h : Nat} (hp : τ.par = σ.par) (T : Tree σ.par) (hh : h < σ.n) : ∀ (k u : Nat), u < σ.n → dist σ.par u h = k →
    (∀ w, w < σ.n → w ≠ h → dist σ.par w h ≤ k → (evs (τ.q w (next σ.par w h))).filter P = (evs (σ.q w (next σ.par w h))).filter P) → chain τ P h k u = chain σ P h k u
  | 0, _, _, _, _ => rfl
  | k + 1, u, hu, hk, H => by
    have hne : u ≠ h := fun e => by subst e; simp at hk
    have hs := next_step T hu hh hne
    simp only [chain, hp]
    rw [chain_congr hp T hh k _ hs.2.1 (by omega) (fun w hw hwh hd => H w hw hwh (by omega)), H u hu hne (by omega)]

theorem chain_congr_path {σ τ : Net} {P : News → Bool} {b h : Nat} (hp : τ.par = σ.par) (T : Tree σ.par) (hb : b < σ.n) (hh : h < σ.n) (H : ∀ w, Path σ.par b h w → w ≠ h → (evs (τ.q w (next σ.par w h))).filter P = (evs (σ.q w (next σ.par w h))).filter P) :
    ∀ (k u : Nat), Path σ.par b h u → dist σ.par u h = k → chain τ P h k u = chain σ P h k u
  | 0, _, _, _ => rfl
  | k + 1, u, hu, hk => by
    have hne : u ≠ h := fun e => by subst e; simp at hk
    have hs := next_step T (hu.lt T hb hh) hh hne
    simp only [chain, hp]
    rw [chain_congr_path hp T hb hh H k _ (.step hu hne) (by omega), H u hu hne]

/-- What is behind a broker of the path stays as it is. -/
theorem chain_split {σ : Net} {P : News → Bool} {b h : Nat} (T : Tree σ.par) (hb : b < σ.n) (hh : h < σ.n) {x : Nat} (px : Path σ.par b h x) :
    ∃ tail, ∀ τ : Net, τ.par = σ.par → (∀ u, u < σ.n → dist σ.par x h < dist σ.par u h → (evs (τ.q u (next σ.par u h))).filter P = (evs (σ.q u (next σ.par u h))).filter P) →
      chain τ P h (dist σ.par b h) b = chain τ P h (dist σ.par x h) x ++ tail := by
  induction px with
  | start => exact ⟨[], fun τ _ _ => by simp⟩
  | step p hne ih =>
    rename_i u
    obtain ⟨tail, ih⟩ := ih
    have hu := p.lt T hb hh
    have hs := next_step T hu hh hne
    refine ⟨(evs (σ.q u (next σ.par u h))).filter P ++ tail, fun τ hp H => ?_⟩
    rw [ih τ hp (fun w hw hd => H w hw (by omega)), hs.2.2]
    simp only [chain, hp]
    rw [H u hu (by omega), List.append_assoc]

structure Flow (σ : Net) (A : Nat → Option Nat) (F : Nat → Option (List Tst)) (E : List News) : Prop extends Stays σ A F where
  on : ∀ c l, F c = some l → ∃ h, A c = some h ∧ ∀ x, x < σ.n → σ.kn x (2 * c) = some (plain l (wayTo σ.par x h))
  fr : ∀ x y f, f ∈ σ.q x y → ∃ e b p, f = .event e ∧ e ∈ E ∧ e.ev.pub = (p : Nat) ∧ A p = some b ∧ y ≠ b ∧ x = next σ.par y b
  ev : ∀ e, e ∈ E → ∃ p : Nat, p < 4 ∧ e.ev.pub = p ∧ A p ≠ none ∧ e.stay = 1 ∧ e.ev.num ≤ (σ.cl p).many
  inc : E.Pairwise fun o e => o.ev.pub = e.ev.pub → o.ev.num < e.ev.num
  told : ∀ c l e, F c = some l → e ∈ (σ.cl c).told 0 → e ∈ E ∧ meets l e.ev = true
  eq : ∀ p c l h b, p < 4 → F c = some l → A c = some h → A p = some b → ((σ.cl c).told 0).filter (isOf p l) ++ chain σ (isOf p l) h (dist σ.par b h) b = E.filter (isOf p l)
  log : ∀ c l, F c = some l → (σ.cl c).log = ((σ.cl c).told 0).map fun e => ⟨0, 0, e.ev⟩

theorem filter_evs_nil (P : News → Bool) {l : List Fr} (h : l = []) : (evs l).filter P = [] := by subst h; rfl

theorem chain_empty {σ : Net} {P : News → Bool} {h : Nat} (hq : ∀ x y, σ.q x y = []) : ∀ k u, chain σ P h k u = []
  | 0, _ => rfl
  | k + 1, u => by simp [chain, chain_empty hq k, hq]

/-- Nothing waits, all know: events may come. -/
theorem Spread.flow {σ : Net} {A : Nat → Option Nat} {F : Nat → Option (List Tst)} (S : Spread σ A F) (hq : ∀ x y, σ.q x y = []) (ht : ∀ c l, F c = some l → (σ.cl c).told 0 = [] ∧ (σ.cl c).log = []) : Flow σ A F [] := by
  refine ⟨S.toStays, fun c l hf => ?_, fun x y f hf => ?_, fun e he => (by cases he), List.Pairwise.nil, fun c l e hf he => ?_, fun p c l h b _ hf _ _ => ?_, fun c l hf => ?_⟩
  · obtain ⟨h, ha, _⟩ := S.on c l hf
    exact ⟨h, ha, fun x hx => S.all_know hq hf ha _ x hx rfl⟩
  · rw [hq] at hf; cases hf
  · rw [(ht c l hf).1] at he; cases he
  · rw [(ht c l hf).1, chain_empty hq]; rfl
  · rw [(ht c l hf).1, (ht c l hf).2]; rfl

/-! ### what an event does at a broker -/
section
variable {σ : Net} {A : Nat → Option Nat} {F : Nat → Option (List Tst)} {y : Nat}

/-- Does a client's own broker get it, for its subscription? -/
def hit (A : Nat → Option Nat) (F : Nat → Option (List Tst)) (y : Nat) (e : News) (c : Nat) : Bool := match F c with
  | some l => decide (A c = some y) && meets l e.ev
  | none => false

structure Facts (σ : Net) (A : Nat → Option Nat) (F : Nat → Option (List Tst)) (y : Nat) : Prop where
  odd : ∀ c, σ.kn y (2 * c + 1) = none
  off : ∀ c, F c = none → σ.kn y (2 * c) = none
  on : ∀ c l, F c = some l → ∃ h, A c = some h ∧ σ.kn y (2 * c) = some (plain l (wayTo σ.par y h))
  here : ∀ c, c < 4 → (σ.cl c).here = A c
  far : ∀ c, 4 ≤ c → F c = none

theorem hear_even (W : Facts σ A F y) (e : News) (c : Nat) : σ.hear y e (2 * c) = if hit A F y e c then σ.setCl c ((σ.cl c).tell 0 e) else σ := by
  unfold Net.hear hit
  cases hF : F c with
  | none => simp [W.off c hF]
  | some l =>
    obtain ⟨h, ha, hk⟩ := W.on c l hF
    have hc : c < 4 := by
      by_cases h4 : c < 4
      · exact h4
      · rw [W.far c (by omega)] at hF; cases hF
    rw [hk]
    simp only [plain, wayTo, ha, Option.some.injEq]
    by_cases e1 : y = h
    · subst e1
      have h2 : 2 * c / 2 = c := by omega
      have h3 : 2 * c % 2 = 0 := by omega
      rcases Bool.eq_false_or_eq_true (meets l e.ev) with hm | hm
      · simp [h2, h3, W.here c hc, ha, Net.tell, hm]
      · simp [hm]
    · simp [e1, Ne.symm e1]
theorem hear_odd (W : Facts σ A F y) (e : News) (c : Nat) : σ.hear y e (2 * c + 1) = σ := by
  unfold Net.hear; rw [W.odd c]

theorem Facts.tell (W : Facts σ A F y) (c : Nat) (e : News) : Facts (σ.setCl c ((σ.cl c).tell 0 e)) A F y := by
  refine ⟨W.odd, W.off, W.on, fun d hd => ?_, W.far⟩
  by_cases h : d = c
  · subst h; simp only [Net.setCl, put_same]
    rw [show ((σ.cl d).tell 0 e).here = (σ.cl d).here from by unfold Cli.tell; split <;> rfl]; exact W.here d hd
  · simp only [Net.setCl, put_other _ _ h]; exact W.here d hd

/-- All eight subscriptions, two by two. -/
def two (l : List Nat) : List Nat := l.flatMap fun c => [2 * c, 2 * c + 1]
theorem hears_two (e : News) : ∀ (l : List Nat) (σ : Net), Facts σ A F y → l.Nodup → (σ.hears y e (two l)).kn = σ.kn ∧ (∀ c, (σ.hears y e (two l)).cl c = if c ∈ l ∧ hit A F y e c = true then (σ.cl c).tell 0 e else σ.cl c)
  | [], σ, _, _ => ⟨rfl, fun c => by simp [two, Net.hears]⟩
  | d :: l, σ, W, hnd => by
    have hnd' := List.nodup_cons.1 hnd
    have h1 : σ.hears y e (two (d :: l)) = (σ.hear y e (2 * d)).hears y e (two l) := by
      simp only [two, List.flatMap_cons, Net.hears, List.cons_append, List.nil_append, List.foldl_cons]
      rw [hear_even W]
      split
      · rw [hear_odd (W.tell d e)]
      · rw [hear_odd W]
    rw [h1, hear_even W]
    by_cases hh : hit A F y e d = true
    · rw [if_pos hh]
      obtain ⟨ih1, ih2⟩ := hears_two e l _ (W.tell d e) hnd'.2
      refine ⟨ih1, fun c => ?_⟩
      rw [ih2 c]
      by_cases hc : c = d
      · subst hc; simp [hnd'.1, hh, Net.setCl]
      · simp [hc, Net.setCl, put_other _ _ hc]
    · rw [if_neg hh]
      obtain ⟨ih1, ih2⟩ := hears_two e l σ W hnd'.2
      refine ⟨ih1, fun c => ?_⟩
      rw [ih2 c]
      by_cases hc : c = d
      · subst hc; simp [hnd'.1, hh]
      · simp [hc]

theorem hears_eight (W : Facts σ A F y) (e : News) : (σ.hears y e (List.range 8)).kn = σ.kn ∧ (∀ c, (σ.hears y e (List.range 8)).cl c = if hit A F y e c = true then (σ.cl c).tell 0 e else σ.cl c) := by
  have h := hears_two (A := A) (F := F) e (List.range 4) σ W List.nodup_range
  have : two (List.range 4) = List.range 8 := by decide
  rw [this] at h
  refine ⟨h.1, fun c => ?_⟩
  rw [h.2 c]
  by_cases hc : c < 4
  · simp [hc]
  · have : hit A F y e c = false := by simp [hit, W.far c (by omega)]
    simp [this]

/-- Where it is sent. -/
theorem mem_targets (W : Facts σ A F y) (T : Tree σ.par) (hw : ∀ c l h, F c = some l → A c = some h → h < σ.n) (hy : y < σ.n) (e : News) (fr : Option Nat) (z : Nat) :
    z ∈ σ.targets y e fr ↔ some z ≠ fr ∧ ∃ c l h, F c = some l ∧ A c = some h ∧ y ≠ h ∧ z = next σ.par y h ∧ meets l e.ev = true := by
  simp only [Net.targets, List.mem_filter, List.mem_range, Bool.and_eq_true, decide_eq_true_eq, List.any_eq_true]
  constructor
  · rintro ⟨_, h2, s, hs, hwt⟩
    refine ⟨h2, ?_⟩
    unfold Net.wants at hwt
    obtain ⟨c, hc | hc⟩ : ∃ c, s = 2 * c ∨ s = 2 * c + 1 := ⟨s / 2, by omega⟩
    · subst hc
      cases hF : F c with
      | none => rw [W.off c hF] at hwt; cases hwt
      | some l =>
        obtain ⟨h, ha, hk⟩ := W.on c l hF
        rw [hk] at hwt
        simp only [plain, wayTo, Bool.and_eq_true] at hwt
        by_cases e1 : y = h
        · simp [e1] at hwt
        · simp only [e1, if_false, Option.some.injEq] at hwt
          exact ⟨c, l, h, hF, ha, e1, (of_decide_eq_true hwt.2).symm, hwt.1⟩
    · subst hc; rw [W.odd c] at hwt; cases hwt
  · rintro ⟨h2, c, l, h, hF, ha, hne, rfl, hm⟩
    have hs := next_step T hy (hw c l h hF ha) hne
    have hc : c < 4 := by
      by_cases h4 : c < 4
      · exact h4
      · rw [W.far c (by omega)] at hF; cases hF
    refine ⟨(near_lt6 T hs.1).2, h2, 2 * c, by omega, ?_⟩
    obtain ⟨h', ha', hk⟩ := W.on c l hF
    rw [ha] at ha'; cases ha'
    simp [Net.wants, hk, plain, wayTo, hne, hm]

theorem nodup_targets (σ : Net) (y : Nat) (e : News) (fr : Option Nat) : (σ.targets y e fr).Nodup := List.Pairwise.filter _ List.nodup_range

/-- A frame to some links: what each holds then. -/
theorem q_pushAll {f : Fr} {x : Nat} : ∀ (ys : List Nat) (σ : Net) (a b : Nat), ys.Nodup → (σ.pushAll x ys f).q a b = if a = x ∧ b ∈ ys then σ.q a b ++ [f] else σ.q a b
  | [], σ, a, b, _ => by simp [Net.pushAll]
  | y :: ys, σ, a, b, hnd => by
    have hnd' := List.nodup_cons.1 hnd
    have ih := q_pushAll (f := f) (x := x) ys (σ.push x y f) a b hnd'.2
    simp only [Net.pushAll, List.foldl_cons] at ih ⊢
    rw [ih]
    simp only [Net.push, List.mem_cons]
    by_cases e : a = x ∧ b = y
    · obtain ⟨rfl, rfl⟩ := e; simp [hnd'.1]
    · rw [put2_other _ _ e]
      by_cases e1 : a = x
      · have : b ≠ y := fun h => e ⟨e1, h⟩
        simp [e1, this]
      · simp [e1]
end
end Go.Proofs.Ytlpknnoacpfnnaa

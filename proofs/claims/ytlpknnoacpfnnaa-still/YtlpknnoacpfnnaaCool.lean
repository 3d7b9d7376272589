/-
  An event at a broker whose subscriptions' clients are there.
-/
import Derived.Test.YtlpknnoacpfnnaaIter
namespace Go.Proofs.Ytlpknnoacpfnnaa

structure Cool (σ : Net) (x m : Nat) : Prop where
  here : ∀ s f, σ.kn x s = some f → f.way = none → s < 8 ∧ (σ.cl (s / 2)).here = some x ∧ (σ.cl (s / 2)).used (s % 2) = true
  calm : ∀ s f, σ.kn x s = some f → f.waits = false
  ris : ∀ c k, c < 4 → Rising ((σ.cl c).told k)
  len : ∀ c, c < 4 → (σ.cl c).log.length ≤ m ∧ ∀ k, ((σ.cl c).told k).length ≤ m

theorem hear_cool {σ : Net} {x m : Nat} (C : Cool σ x m) (e : News) (s : Nat) : σ.hear x e s = match σ.kn x s with
    | some f => if meets f.fl e.ev && decide (f.way = none) then σ.tell s e else σ
    | none => σ := by
  unfold Net.hear
  cases hk : σ.kn x s with
  | none => rfl
  | some f =>
    simp only
    by_cases hc : (meets f.fl e.ev && decide (f.way = none)) = true
    · rw [if_pos hc, if_pos hc]
      have hw : f.way = none := by simp only [Bool.and_eq_true, decide_eq_true_eq] at hc; exact hc.2
      have hh := (C.here s f hk hw).2.1
      have hwt := C.calm s f hk
      simp [hh, hwt]
    · rw [if_neg hc, if_neg hc]

theorem Cool.tell {σ : Net} {x m : Nat} (C : Cool σ x m) {e : News} (he : 1 ≤ e.ev.num) {s : Nat} : Cool (σ.tell s e) x (m + 1) := by
  have hcl : ∀ c, (σ.tell s e).cl c = if c = s / 2 then (σ.cl c).tell (s % 2) e else σ.cl c := fun c => by
    by_cases h : c = s / 2
    · subst h; simp [Net.tell, Net.setCl]
    · simp [Net.tell, Net.setCl, put_other _ _ h, h]
  refine ⟨fun t f hk hw => ?_, C.calm, fun c k hc => ?_, fun c hc => ?_⟩
  · obtain ⟨h1, h2, h3⟩ := C.here t f hk hw
    refine ⟨h1, ?_, ?_⟩
    · rw [hcl]; split
      · rw [show ((σ.cl (t / 2)).tell (s % 2) e).here = (σ.cl (t / 2)).here from by unfold Cli.tell; split <;> rfl]; exact h2
      · exact h2
    · rw [hcl]; split
      · rw [show ((σ.cl (t / 2)).tell (s % 2) e).used = (σ.cl (t / 2)).used from by unfold Cli.tell; split <;> rfl]; exact h3
      · exact h3
  · rw [hcl]; split
    · unfold Cli.tell
      split
      · exact C.ris c k hc
      · rename_i ho
        have ho : outrun ((σ.cl c).told (s % 2)) e = false := by simpa using ho
        by_cases hk : k = s % 2
        · subst hk; simp only [put_same]; exact (C.ris c _ hc).snoc he ho
        · simp only [put_other _ _ hk]; exact C.ris c k hc
    · exact C.ris c k hc
  · obtain ⟨h1, h2⟩ := C.len c hc
    rw [hcl]; split
    · unfold Cli.tell
      split
      · exact ⟨by omega, fun k => by have := h2 k; omega⟩
      · refine ⟨by simp; omega, fun k => ?_⟩
        by_cases hk : k = s % 2
        · subst hk; simp only [put_same, List.length_append, List.length_cons, List.length_nil]; have := h2 (s % 2); omega
        · simp only [put_other _ _ hk]; have := h2 k; omega
    · exact ⟨by omega, fun k => by have := h2 k; omega⟩

theorem Cool.mono {σ : Net} {x m m' : Nat} (C : Cool σ x m) (h : m ≤ m') : Cool σ x m' :=
  ⟨C.here, C.calm, C.ris, fun c hc => ⟨Nat.le_trans (C.len c hc).1 h, fun k => Nat.le_trans ((C.len c hc).2 k) h⟩⟩

theorem Cool.hear {σ : Net} {x m : Nat} (C : Cool σ x m) {e : News} (he : 1 ≤ e.ev.num) (s : Nat) : Cool (σ.hear x e s) x (m + 1) ∧ (σ.hear x e s).kn = σ.kn := by
  rw [hear_cool C]
  split
  · rename_i f hf
    split
    · exact ⟨C.tell he, rfl⟩
    · exact ⟨C.mono (by omega), rfl⟩
  · exact ⟨C.mono (by omega), rfl⟩

theorem Cool.hears {e : News} (he : 1 ≤ e.ev.num) {x : Nat} : ∀ (l : List Nat) {σ : Net} {m : Nat}, Cool σ x m → Cool (σ.hears x e l) x (m + l.length) ∧ (σ.hears x e l).kn = σ.kn
  | [], _, _, C => ⟨C, rfl⟩
  | s :: l, σ, m, C => by
    obtain ⟨h1, h2⟩ := C.hear he s
    obtain ⟨h3, h4⟩ := Cool.hears he l h1
    refine ⟨?_, h4.trans h2⟩
    have : m + 1 + l.length = m + (s :: l).length := by simp; omega
    rw [← this]; exact h3

theorem hears_snoc (σ : Net) (x : Nat) (e : News) (l : List Nat) (s : Nat) : σ.hears x e (l ++ [s]) = (σ.hears x e l).hear x e s := by simp [Net.hears, List.foldl_append]

/-- What stands there is what is known. -/
def Stands (σ : Net) (x : Nat) (ft : Stand) : Prop := ∀ s, s < 8 → σ.kn x s = (ft s).map (·.1)

theorem hears_wanted {σ : Net} {x m : Nat} {ft : Stand} {e : News} (C : Cool σ x m) (he : 1 ≤ e.ev.num) (hs : Stands σ x ft) : ∀ n, n ≤ 8 → σ.hears x e (List.range n) = σ.hears x e ((wantTo ft e.ev n).map (·.1))
  | 0, _ => rfl
  | n + 1, hn => by
    have ih := hears_wanted C he hs n (by omega)
    obtain ⟨C1, hk⟩ := Cool.hears he (List.range n) C
    rw [List.range_succ, hears_snoc, wantTo_succ, List.map_append]
    have hkn : (σ.hears x e (List.range n)).kn x n = (ft n).map (·.1) := by rw [hk]; exact hs n (by omega)
    cases hf : ft n with
    | none =>
      rw [hf] at hkn
      rw [hear_cool C1, hkn]
      simp [ih]
    | some a =>
      obtain ⟨f, kb, kv⟩ := a
      rw [hf] at hkn
      simp only
      by_cases hm : meets f.fl e.ev = true
      · rw [if_pos hm]
        simp only [List.map_cons, List.map_nil]
        rw [hears_snoc, ih]
      · rw [if_neg hm, hear_cool C1, hkn]
        simp [hm, ih]

/-- Ways that some of the subscriptions have. -/
def wayIs (o : Option Fact) (y : Nat) : Bool := match o with
  | some f => decide (f.way = some y)
  | none => false
def flag (σ : Net) (x : Nat) (l : List Nat) (y : Nat) : Bool := l.any fun s => wayIs (σ.kn x s) y

theorem flag_wanted {σ : Net} {x : Nat} {ft : Stand} {e : News} (hs : Stands σ x ft) (y : Nat) : flag σ x ((wantTo ft e.ev 8).map (·.1)) y = (List.range 8).any (σ.wants x e y) := by
  have key : ∀ n, n ≤ 8 → flag σ x ((wantTo ft e.ev n).map (·.1)) y = (List.range n).any (σ.wants x e y) := by
    intro n
    induction n with
    | zero => intro _; rfl
    | succ n ih =>
      intro hn
      rw [List.range_succ, wantTo_succ, List.map_append, List.any_append, flag, List.any_append]
      have ih := ih (by omega)
      unfold flag at ih
      rw [ih]
      congr 1
      have hk := hs n (by omega)
      simp only [List.any_cons, List.any_nil, Bool.or_false, Net.wants]
      cases hf : ft n with
      | none => rw [hf] at hk; simp [hk]
      | some a =>
        obtain ⟨f, kb, kv⟩ := a
        rw [hf] at hk
        simp only [Option.map_some] at hk
        rw [hk]
        simp only
        by_cases hm : meets f.fl e.ev = true
        · simp [hm, hk, wayIs]
        · simp [hm]
  exact key 8 (Nat.le_refl _)

theorem targets_flag {σ : Net} {x : Nat} {ft : Stand} {e : News} (hs : Stands σ x ft) (fr : Option Nat) : σ.targets x e fr = (List.range 6).filter fun y => decide (some y ≠ fr) && flag σ x ((wantTo ft e.ev 8).map (·.1)) y := by
  unfold Net.targets
  congr 1
  funext y
  rw [flag_wanted hs]

/-- The sends: those below k. -/
def sendTo (σ : Net) (x : Nat) (fr : Option Nat) (g : Nat → Bool) (f : Fr) (k : Nat) : Net := σ.pushAll x ((List.range k).filter fun y => decide (some y ≠ fr) && g y) f
theorem sendTo_succ (σ : Net) (x : Nat) (fr : Option Nat) (g : Nat → Bool) (f : Fr) (k : Nat) : sendTo σ x fr g f (k + 1) = if (decide (some k ≠ fr) && g k) = true then (sendTo σ x fr g f k).push x k f else sendTo σ x fr g f k := by
  unfold sendTo
  rw [List.range_succ, List.filter_append]
  by_cases h : (decide (some k ≠ fr) && g k) = true
  · rw [if_pos h]
    simp only [List.filter_cons, h, if_true, List.filter_nil, Net.pushAll, List.foldl_append, List.foldl_cons, List.foldl_nil]
  · rw [if_neg h]
    simp only [List.filter_cons, h, List.filter_nil, Net.pushAll]
    simp
theorem sendTo_par (σ : Net) (x : Nat) (fr : Option Nat) (g : Nat → Bool) (f : Fr) (k : Nat) : (sendTo σ x fr g f k).par = σ.par := pushAll_par _ _ _ _
theorem sendTo_q (σ : Net) (x : Nat) (fr : Option Nat) (g : Nat → Bool) (f : Fr) (k a y : Nat) (hy : k ≤ y) : (sendTo σ x fr g f k).q a y = σ.q a y := by
  unfold sendTo
  rw [q_pushAll _ _ _ _ (List.Pairwise.filter _ List.nodup_range), if_neg (by simp; omega)]

end Go.Proofs.Ytlpknnoacpfnnaa

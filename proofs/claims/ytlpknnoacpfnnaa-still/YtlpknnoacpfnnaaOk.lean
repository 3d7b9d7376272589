/-
  Clients that stay: every state on the way is one that the calls' contracts take.
-/
import Derived.Test.YtlpknnoacpfnnaaQuiet
namespace Go.Proofs.Ytlpknnoacpfnnaa

/-- Nobody was told anything. -/
structure Clean (σ : Net) : Prop where
  told : ∀ c k, c < 4 → (σ.cl c).told k = []
  log : ∀ c, c < 4 → (σ.cl c).log = []
  many : ∀ c, c < 4 → (σ.cl c).many = 0

theorem rising_nil : Rising [] := ⟨List.Pairwise.nil, fun e h => by cases h⟩

section
variable {σ : Net} {A : Nat → Option Nat} {F : Nat → Option (List Tst)}

/-- What a subscription looks like where it is known. -/
theorem Stays.even (S : Stays σ A F) {x s : Nat} {f : Fact} (hf : σ.kn x s = some f) : ∃ c l, s = 2 * c ∧ c < 4 ∧ F c = some l := by
  rcases Nat.mod_two_eq_zero_or_one s with h | h
  · have hs : s = 2 * (s / 2) := by omega
    cases hF : F (s / 2) with
    | none => rw [hs, S.off x _ hF] at hf; cases hf
    | some l => exact ⟨s / 2, l, hs, S.on_lt hF, hF⟩
  · have hs : s = 2 * (s / 2) + 1 := by omega
    rw [hs, S.odd x (s / 2)] at hf; cases hf

theorem Stays.cool (S : Stays σ A F) (hon : ∀ x c l f, F c = some l → σ.kn x (2 * c) = some f → ∃ h, A c = some h ∧ f = plain l (wayTo σ.par x h)) {m : Nat}
    (hris : ∀ c k, c < 4 → Rising ((σ.cl c).told k)) (hlen : ∀ c, c < 4 → (σ.cl c).log.length ≤ m ∧ ∀ k, ((σ.cl c).told k).length ≤ m) (x : Nat) : Cool σ x m := by
  refine ⟨fun s f hf hw => ?_, fun s f hf => ?_, hris, hlen⟩
  · obtain ⟨c, l, rfl, hc, hF⟩ := S.even hf
    obtain ⟨h, hA, rfl⟩ := hon x c l f hF hf
    have hx : x = h := by
      simp only [plain, wayTo] at hw
      split at hw
      · assumption
      · cases hw
    rw [show 2 * c / 2 = c from by omega, show 2 * c % 2 = 0 from by omega]
    have C := S.cl c hc
    exact ⟨by omega, by rw [C.here, hA, hx], by rw [C.used0, hF]; rfl⟩
  · obtain ⟨c, l, rfl, hc, hF⟩ := S.even hf
    obtain ⟨h, hA, rfl⟩ := hon x c l f hF hf
    rfl

theorem Spread.hon (S : Spread σ A F) : ∀ x c l f, F c = some l → σ.kn x (2 * c) = some f → ∃ h, A c = some h ∧ f = plain l (wayTo σ.par x h) := by
  intro x c l f hF hf
  obtain ⟨h, h1, _, h3⟩ := S.on c l hF
  exact ⟨h, h1, h3 x f hf⟩

theorem Spread.fine (S : Spread σ A F) (C : Clean σ) (hw : σ.weight ≤ 1500) {m : Nat} (hm : m < 2000000000000) : Fine σ m := by
  refine ⟨S.good, hw, fun x y f hf => Or.inl ?_, fun x => S.toStays.cool S.hon (fun c k hc => by rw [C.told c k hc]; exact rising_nil) (fun c hc => ⟨by rw [C.log c hc]; exact Nat.zero_le _, fun k => by rw [C.told c k hc]; exact Nat.zero_le _⟩) x, hm⟩
  obtain ⟨c, l, h, rfl, hF, _⟩ := S.fr x y f hf
  refine ⟨c, 0, 0, l, S.on_lt hF, by omega, rfl, fun g hg => ?_⟩
  obtain ⟨h', _, rfl⟩ := S.hon y c l g hF hg
  exact Int.le_refl _

theorem Spread.del_cl (S : Spread σ A F) (x y : Nat) : (σ.del x y).cl = σ.cl := by
  unfold Net.del
  split
  · split
    · rename_i f r hq
      obtain ⟨c, l, h, rfl, _⟩ := S.fr _ _ f (by rw [hq]; exact List.mem_cons_self ..)
      simp only [Net.handle, Net.spread]
      rw [(pushAll_keeps _ _).2.1]
      exact (learn_keeps _ _ _ _ _ _).2.2.2
    · rfl
  · rfl

/-- Frames of subscriptions alone. -/
structure SpreadI (A : Nat → Option Nat) (F : Nat → Option (List Tst)) (σ : Net) : Prop where
  sp : Spread σ A F
  clean : Clean σ
  wt : σ.weight ≤ 1500

theorem spread_runs (A : Nat → Option Nat) (F : Nat → Option (List Tst)) {m : Nat} (hm : m < 2000000000000) : Runs (SpreadI A F) m := by
  refine ⟨fun τ h => h.sp.fine h.clean h.wt hm, fun τ h => h.sp.open_, fun τ x y f l h hq => ⟨h.sp.del x y, ?_, Nat.le_trans (h.sp.good.del x y).2.1 h.wt⟩⟩
  have hc := h.sp.del_cl x y
  exact ⟨fun c k hk => by rw [hc]; exact h.clean.told c k hk, fun c hk => by rw [hc]; exact h.clean.log c hk, fun c hk => by rw [hc]; exact h.clean.many c hk⟩

/-! ### events -/
variable {E : List News}

theorem Flow.hon (W : Flow σ A F E) : ∀ x c l f, F c = some l → σ.kn x (2 * c) = some f → ∃ h, A c = some h ∧ f = plain l (wayTo σ.par x h) := by
  intro x c l f hF hf
  obtain ⟨h, h1, h2⟩ := W.on c l hF
  have hx : x < σ.n := (W.good.facts x _ f hf).bro
  rw [h2 x hx] at hf
  cases hf
  exact ⟨h, h1, rfl⟩

/-- What is told of a publisher's events: the first of those that were published. -/
theorem Flow.first (W : Flow σ A F E) {c : Nat} {l : List Tst} (hF : F c = some l) {e : News} (he : e ∈ (σ.cl c).told 0) : ∃ p : Nat, p < 4 ∧ e.ev.pub = p ∧ (((σ.cl c).told 0).filter (isOf p l)).Sublist (E.filter (isOf p l)) := by
  obtain ⟨hE, _⟩ := W.told c l e hF he
  obtain ⟨p, hp, hpe, hA, _⟩ := W.ev e hE
  obtain ⟨h, hAc, _⟩ := W.on c l hF
  obtain ⟨b, hb⟩ := Option.ne_none_iff_exists'.1 hA
  refine ⟨p, hp, hpe, ?_⟩
  rw [← W.eq p c l h b hp hF hAc hb]
  exact List.sublist_append_left _ _

theorem Flow.rising (W : Flow σ A F E) (hlow : ∀ e, e ∈ E → 1 ≤ e.ev.num) {c : Nat} {l : List Tst} (hF : F c = some l) : Rising ((σ.cl c).told 0) := by
  refine ⟨List.pairwise_iff_forall_sublist.2 (fun {o e} hs hp _ => ?_), fun e he => hlow e (W.told c l e hF he).1⟩
  have ho : o ∈ (σ.cl c).told 0 := hs.subset (by simp)
  have he : e ∈ (σ.cl c).told 0 := hs.subset (by simp)
  obtain ⟨p, _, hpo, hsub⟩ := W.first hF ho
  have mo := (W.told c l o hF ho).2
  have me := (W.told c l e hF he).2
  have h1 : isOf p l o = true := by simp [isOf, hpo, mo]
  have h2 : isOf p l e = true := by simp [isOf, ← hp, hpo, me]
  have hs2 := hs.filter (isOf p l)
  simp only [List.filter_cons, h1, h2, List.filter_nil, if_true] at hs2
  exact List.pairwise_iff_forall_sublist.1 (W.inc.filter (isOf p l)) (hs2.trans hsub) hp

theorem count_le (l : List Tst) : ∀ (L : List News), (L.filter (isOf 0 l)).length + (L.filter (isOf 1 l)).length + (L.filter (isOf 2 l)).length + (L.filter (isOf 3 l)).length ≤ L.length
  | [] => by simp
  | e :: L => by
    have ih := count_le l L
    have hz : ∀ p : Nat, isOf p l e = true → e.ev.pub = p := fun p h => by simp [isOf] at h; exact h.1
    simp only [List.filter_cons, List.length_cons]
    have key : ∀ p : Nat, ((if isOf p l e = true then e :: L.filter (isOf p l) else L.filter (isOf p l)).length) = (L.filter (isOf p l)).length + (if isOf p l e = true then 1 else 0) := fun p => by split <;> simp
    rw [key 0, key 1, key 2, key 3]
    have k01 := hz 0
    have k1 := hz 1
    have k2 := hz 2
    have k3 := hz 3
    by_cases h0 : isOf 0 l e = true <;> by_cases h1 : isOf 1 l e = true <;> by_cases h2 : isOf 2 l e = true <;> by_cases h3 : isOf 3 l e = true <;> simp only [h0, h1, h2, h3, if_true] <;> (try have := k01 h0) <;> (try have := k1 h1) <;> (try have := k2 h2) <;> (try have := k3 h3) <;> simp <;> omega
theorem count_ge (l : List Tst) : ∀ (L : List News), (∀ e, e ∈ L → meets l e.ev = true ∧ ∃ p : Nat, p < 4 ∧ e.ev.pub = p) → L.length ≤ (L.filter (isOf 0 l)).length + (L.filter (isOf 1 l)).length + (L.filter (isOf 2 l)).length + (L.filter (isOf 3 l)).length
  | [], _ => by simp
  | e :: L, h => by
    have ih := count_ge l L (fun e he => h e (List.mem_cons_of_mem _ he))
    obtain ⟨hm, p, hp, hpe⟩ := h e (List.mem_cons_self ..)
    have key : ∀ p : Nat, ((if isOf p l e = true then e :: L.filter (isOf p l) else L.filter (isOf p l)).length) = (L.filter (isOf p l)).length + (if isOf p l e = true then 1 else 0) := fun p => by split <;> simp
    simp only [List.filter_cons, List.length_cons]
    rw [key 0, key 1, key 2, key 3]
    have hq : isOf p l e = true := by simp [isOf, hpe, hm]
    obtain rfl | rfl | rfl | rfl : p = 0 ∨ p = 1 ∨ p = 2 ∨ p = 3 := by omega
    all_goals (simp only [hq, if_true]; omega)

theorem Flow.told_len (W : Flow σ A F E) {c : Nat} {l : List Tst} (hF : F c = some l) : ((σ.cl c).told 0).length ≤ E.length := by
  have hge := count_ge l ((σ.cl c).told 0) (fun e he => by
    obtain ⟨hE, hm⟩ := W.told c l e hF he
    obtain ⟨p, hp, hpe, _⟩ := W.ev e hE
    exact ⟨hm, p, hp, hpe⟩)
  have hle := count_le l E
  have hsub : ∀ p : Nat, p < 4 → (((σ.cl c).told 0).filter (isOf p l)).length ≤ (E.filter (isOf p l)).length := fun p hp => by
    cases hf : ((σ.cl c).told 0).filter (isOf p l) with
    | nil => simp
    | cons e r =>
      have hmem : e ∈ ((σ.cl c).told 0).filter (isOf p l) := by rw [hf]; exact List.mem_cons_self ..
      obtain ⟨he, hq⟩ := List.mem_filter.1 hmem
      obtain ⟨p', _, hpe, hs⟩ := W.first hF he
      have : p' = p := by simp [isOf] at hq; omega
      subst this
      rw [← hf]; exact hs.length_le
  have := hsub 0 (by omega)
  have := hsub 1 (by omega)
  have := hsub 2 (by omega)
  have := hsub 3 (by omega)
  omega

/-- What else is true of clients that stay. -/
structure Tame (σ : Net) (F : Nat → Option (List Tst)) (E : List News) : Prop where
  odd : ∀ c k, c < 4 → k ≠ 0 → (σ.cl c).told k = []
  off : ∀ c, c < 4 → F c = none → (σ.cl c).told 0 = [] ∧ (σ.cl c).log = []
  low : ∀ e, e ∈ E → 1 ≤ e.ev.num
  many : ∀ c, c < 4 → 0 ≤ (σ.cl c).many ∧ (σ.cl c).many ≤ E.length

theorem Flow.fine (W : Flow σ A F E) (M : Tame σ F E) (hw : σ.weight ≤ 1500) (hm : E.length < 2000000000000) : Fine σ E.length := by
  refine ⟨W.good, hw, fun x y f hf => Or.inr ?_, fun x => W.toStays.cool W.hon (fun c k hc => ?_) (fun c hc => ?_) x, hm⟩
  · obtain ⟨e, b, p, rfl, hE, _⟩ := W.fr x y f hf
    obtain ⟨p, hp, hpe, _, hst, hn⟩ := W.ev e hE
    have := (M.many p hp).2
    have := M.low e hE
    exact ⟨e, rfl, by omega, by omega, by omega, by omega, by omega, by omega⟩
  · by_cases hk : k = 0
    · subst hk
      cases hF : F c with
      | none => rw [(M.off c hc hF).1]; exact rising_nil
      | some l => exact W.rising M.low hF
    · rw [M.odd c k hc hk]; exact rising_nil
  · cases hF : F c with
    | none =>
      rw [(M.off c hc hF).2]
      refine ⟨Nat.zero_le _, fun k => ?_⟩
      by_cases hk : k = 0
      · subst hk; rw [(M.off c hc hF).1]; exact Nat.zero_le _
      · rw [M.odd c k hc hk]; exact Nat.zero_le _
    | some l =>
      have h1 := W.told_len hF
      refine ⟨by rw [W.log c l hF, List.length_map]; exact h1, fun k => ?_⟩
      by_cases hk : k = 0
      · subst hk; exact h1
      · rw [M.odd c k hc hk]; exact Nat.zero_le _

theorem Flow.del_cl (W : Flow σ A F E) (x y : Nat) (c : Nat) : (σ.del x y).cl c = σ.cl c ∨ ∃ e l, F c = some l ∧ (σ.del x y).cl c = (σ.cl c).tell 0 e := by
  unfold Net.del
  split
  · split
    · rename_i f r hq
      obtain ⟨e, b0, p, rfl, _⟩ := W.fr _ _ f (by rw [hq]; exact List.mem_cons_self ..)
      have hn := W.good.nbr _ _ (by rw [hq]; simp : σ.q ((x : Int).toNat) ((y : Int).toNat) ≠ [])
      have hyn := (near_lt W.good.tree hn).2
      have W0 : Facts { σ with q := put2 σ.q (x : Int).toNat (y : Int).toNat r } A F (y : Int).toNat := by
        have := W.facts hyn
        exact ⟨this.odd, this.off, this.on, this.here, this.far⟩
      have hk := (happens_keeps W0 e (some (x : Int).toNat)).2.2.2.1 c
      simp only [Net.handle]
      rw [hk]
      by_cases hh : hit A F (y : Int).toNat e c = true
      · right
        rw [if_pos hh]
        unfold hit at hh
        split at hh
        · rename_i l hF; exact ⟨e, l, hF, rfl⟩
        · cases hh
      · left; rw [if_neg hh]
    · exact Or.inl rfl
  · exact Or.inl rfl

theorem tell_other (x : Cli) (e : News) {k : Nat} (hk : k ≠ 0) : (x.tell 0 e).told k = x.told k := by
  unfold Cli.tell; split
  · rfl
  · exact put_other _ _ hk

/-- Frames of events alone. -/
structure FlowI (A : Nat → Option Nat) (F : Nat → Option (List Tst)) (E : List News) (σ : Net) : Prop where
  fl : Flow σ A F E
  tame : Tame σ F E
  wt : σ.weight ≤ 1500

theorem flow_runs (A : Nat → Option Nat) (F : Nat → Option (List Tst)) (E : List News) (hm : E.length < 2000000000000) : Runs (FlowI A F E) E.length := by
  refine ⟨fun τ h => h.fl.fine h.tame h.wt hm, fun τ h => h.fl.open_, fun τ x y f l h hq => ⟨h.fl.del x y, ⟨fun c k hc hk => ?_, fun c hc hF => ?_, h.tame.low, fun c hc => ?_⟩, Nat.le_trans (h.fl.good.del x y).2.1 h.wt⟩⟩
  · rcases h.fl.del_cl x y c with e | ⟨e, l, _, e2⟩
    · rw [e]; exact h.tame.odd c k hc hk
    · rw [e2, tell_other _ _ hk]; exact h.tame.odd c k hc hk
  · rcases h.fl.del_cl x y c with e | ⟨e, l, e1, _⟩
    · rw [e]; exact h.tame.off c hc hF
    · rw [hF] at e1; cases e1
  · rcases h.fl.del_cl x y c with e | ⟨e, l, _, e2⟩
    · rw [e]; exact h.tame.many c hc
    · rw [e2, tell_many]; exact h.tame.many c hc
end

end Go.Proofs.Ytlpknnoacpfnnaa

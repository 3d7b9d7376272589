/-
  Clients that stay: Attach, Subscribe, Publish, with what stays true.
-/
import Derived.Test.YtodfcpblcpogiaaQuiet
namespace Go.Proofs.Ytodfcpblcpogiaa
open Go.RowKit

/-- Nobody was told anything. -/
structure Clean (σ : Net) : Prop where
  told : ∀ c k, c < 4 → (σ.cl c).told k = []
  log : ∀ c, c < 4 → (σ.cl c).log = []
  many : ∀ c, c < 4 → (σ.cl c).many = 0

instance (m : Nat) (e : News) : Decidable (News.lim m e) := by unfold News.lim; infer_instance

section
variable {σ : Net} {A : Nat → Option Nat} {F : Nat → Option (List Tst)}

/-- What a subscription looks like where it is known. -/
theorem Stays.even (S : Stays σ A F) {x s : Nat} {f : Fact} (hf : σ.kn x s = some f) : ∃ c l, s = 2 * c ∧ c < 4 ∧ F c = some l := by
  rcases Nat.mod_two_eq_zero_or_one s with h | h
  · have hs : s = 2 * (s / 2) := by omega
    cases hF : F (s / 2) with
    | none => rw [hs, S.off x _ hF] at hf; cases hf
    | some l => exact ⟨s / 2, l, hs, S.on_lt hF, hF⟩
  · have hs : s = 2 * (s / 2) + 1 := by omega
    rw [hs, S.odd x (s / 2)] at hf; cases hf

/-- How much there is, seen anew. -/
theorem Fit.tight {k m : Nat} (F : Fit σ k) (hkn : ∀ b s f, σ.kn b s = some f → f.kept = [] ∧ f.more = 0) (hfr : ∀ x y f, f ∈ σ.q x y → ∀ s, restLen s f = 0)
    (htold : ∀ c j, c < 4 → ((σ.cl c).told j).length ≤ m) (hlog : ∀ c, c < 4 → (σ.cl c).log.length ≤ m) (hnum : ∀ c, (σ.cl c).stays ≤ m ∧ (σ.cl c).many ≤ m ∧ ∀ j, (σ.cl c).age j ≤ m)
    (hin : ∀ x y f, f ∈ σ.q x y → ∀ e, e ∈ newsIn f → e.lim m) (hto : ∀ c j e, e ∈ (σ.cl c).told j → e.lim m) : Fit σ m := by
  have hK : ∀ s, σ.massK s = 0 := fun s => by
    have : ∀ b, keptLen (σ.kn b s) = 0 := fun b => by
      cases h : σ.kn b s with
      | none => rfl
      | some f => simp [keptLen, (hkn b s f h).1]
    simp [Net.massK, this, sum6]
  have hR : ∀ s x y, σ.restQ s x y = 0 := fun s x y => by
    have : ∀ (l : List Fr), (∀ f, f ∈ l → restLen s f = 0) → (l.map (restLen s)).sum = 0 := by
      intro l
      induction l with
      | nil => intro _; rfl
      | cons f l ih => intro h; simp only [List.map_cons, List.sum_cons]; rw [h f (List.mem_cons_self ..), ih (fun g hg => h g (List.mem_cons_of_mem _ hg))]
    exact this _ (fun f hf => hfr x y f hf s)
  have hM : ∀ s, σ.mass s = 0 := fun s => by simp [Net.mass, hK, Net.massQ, hR, sum6]
  obtain ⟨E, hE, _⟩ := F.r.news
  refine ⟨⟨F.r.alive, ⟨fun t ht => ?_, fun c hc => ?_⟩, ⟨fun c => ?_, fun b s f hf => ?_⟩, (E.filter fun e => decide (e.lim m)), ⟨fun x y f hf e he => ?_, fun b s f hf e he => ?_, fun c j e he => ?_⟩, fun e he => ?_⟩, F.mv⟩
  · rw [hM]; have := htold (t / 2) (t % 2) (by omega); simp only [Net.toldN]; split <;> omega
  · rw [hM, hM]; have := hlog c hc; split <;> omega
  · have N := F.r.nums.cl c
    have h := hnum c
    exact ⟨⟨N.stays.1, h.1⟩, ⟨N.many.1, h.2.1⟩, fun j => ⟨(N.age j).1, h.2.2 j⟩, N.ris⟩
  · have N := F.r.nums.kn b s f hf
    exact ⟨by rw [(hkn b s f hf).2]; omega, N.none, N.six⟩
  · exact List.mem_filter.2 ⟨hE.fr x y f hf e he, decide_eq_true (hin x y f hf e he)⟩
  · rw [(hkn b s f hf).1] at he; cases he
  · exact List.mem_filter.2 ⟨hE.told c j e he, decide_eq_true (hto c j e he)⟩
  · exact of_decide_eq_true (List.mem_filter.1 he).2

theorem Spread.hon (S : Spread σ A F) : ∀ x c l f, F c = some l → σ.kn x (2 * c) = some f → ∃ h, A c = some h ∧ f = plain l (wayTo σ.par x h) := by
  intro x c l f hF hf
  obtain ⟨h, h1, _, h3⟩ := S.on c l hF
  exact ⟨h, h1, h3 x f hf⟩

/-- The clients that there are not. -/
structure Four (σ : Net) : Prop where
  far : ∀ c, 4 ≤ c → σ.cl c = newCli
  age : ∀ c j, c < 4 → (σ.cl c).age j ≤ 0

theorem Stays.plainS (S : Stays σ A F) (hon : ∀ x c l f, F c = some l → σ.kn x (2 * c) = some f → ∃ h, A c = some h ∧ f = plain l (wayTo σ.par x h)) : ∀ b s f, σ.kn b s = some f → f.kept = [] ∧ f.more = 0 := fun b s f hf => by
  obtain ⟨c, l, rfl, hc, hF⟩ := S.even hf
  obtain ⟨h, hA, rfl⟩ := hon b c l f hF hf
  exact ⟨rfl, rfl⟩
theorem Stays.numS (S : Stays σ A F) (Q : Four σ) {m : Nat} (hm : 1 ≤ m) (hmany : ∀ c, c < 4 → (σ.cl c).many ≤ m) : ∀ c, (σ.cl c).stays ≤ m ∧ (σ.cl c).many ≤ m ∧ ∀ j, (σ.cl c).age j ≤ m := fun c => by
  by_cases hc : c < 4
  · have C := S.cl c hc
    exact ⟨by rw [C.stays]; split <;> omega, hmany c hc, fun j => by have := Q.age c j hc; omega⟩
  · rw [Q.far c (by omega)]; exact ⟨by simp [newCli], by simp [newCli], fun j => by show (-1 : Int) ≤ m; omega⟩

theorem Spread.fine (S : Spread σ A F) (C : Clean σ) (Q : Four σ) {k : Nat} (hf : Fit σ k) : Fine σ 1 := by
  refine ⟨hf.tight (S.toStays.plainS S.hon) (fun x y f h s => ?_) (fun c j hc => by rw [C.told c j hc]; simp) (fun c hc => by rw [C.log c hc]; simp) (S.toStays.numS Q (by omega) (fun c hc => by rw [C.many c hc]; omega)) (fun x y f h e he => ?_) (fun c j e he => ?_), by omega⟩
  · obtain ⟨c, l, h, rfl, _⟩ := S.fr x y f h; rfl
  · obtain ⟨c, l, h, rfl, _⟩ := S.fr x y f h; cases he
  · by_cases hc : c < 4
    · rw [C.told c j hc] at he; cases he
    · rw [Q.far c (by omega)] at he; cases he

theorem Spread.del_cl (S : Spread σ A F) (x y : Nat) : (σ.del x y).cl = σ.cl := by
  unfold Net.del
  split
  · split
    · rename_i f r hq
      obtain ⟨c, l, h, rfl, _⟩ := S.fr _ _ f (by rw [hq]; exact List.mem_cons_self ..)
      simp only [Net.handle, Net.spread]
      rw [(pushAll_keeps _ _).2.1]
      exact (learn_keeps _ _ _ _ _ _).2.2.2
    · rfl
  · rfl

/-- Frames of subscriptions alone. -/
structure SpreadI (A : Nat → Option Nat) (F : Nat → Option (List Tst)) (σ : Net) : Prop where
  sp : Spread σ A F
  clean : Clean σ
  four : Four σ
  fit : ∃ k, Fit σ k
theorem SpreadI.fine {σ : Net} {A : Nat → Option Nat} {F : Nat → Option (List Tst)} (h : SpreadI A F σ) : Fine σ 1 := h.fit.elim fun _ f => h.sp.fine h.clean h.four f

theorem spread_runs (A : Nat → Option Nat) (F : Nat → Option (List Tst)) : Runs (SpreadI A F) 1 := by
  refine ⟨fun τ h => h.fine, fun τ h => h.sp.open_, fun τ x y f l h hq => ⟨h.sp.del x y, ?_, ⟨fun c hc => by rw [h.sp.del_cl x y]; exact h.four.far c hc, fun c j hc => by rw [h.sp.del_cl x y]; exact h.four.age c j hc⟩, h.fit.elim fun k f => ⟨k + 8, f.del _ _⟩⟩⟩
  have hc := h.sp.del_cl x y
  exact ⟨fun c k hk => by rw [hc]; exact h.clean.told c k hk, fun c hk => by rw [hc]; exact h.clean.log c hk, fun c hk => by rw [hc]; exact h.clean.many c hk⟩

/-! ### events -/
variable {E : List News}

theorem Flow.hon (W : Flow σ A F E) : ∀ x c l f, F c = some l → σ.kn x (2 * c) = some f → ∃ h, A c = some h ∧ f = plain l (wayTo σ.par x h) := by
  intro x c l f hF hf
  obtain ⟨h, h1, h2⟩ := W.on c l hF
  have hx : x < σ.n := (W.good.facts x _ f hf).bro
  rw [h2 x hx] at hf
  cases hf
  exact ⟨h, h1, rfl⟩

/-- What is told of a publisher's events: the first of those that were published. -/
theorem Flow.first (W : Flow σ A F E) {c : Nat} {l : List Tst} (hF : F c = some l) {e : News} (he : e ∈ (σ.cl c).told 0) : ∃ p : Nat, p < 4 ∧ e.ev.pub = p ∧ (((σ.cl c).told 0).filter (isOf p l)).Sublist (E.filter (isOf p l)) := by
  obtain ⟨hE, _⟩ := W.told c l e hF he
  obtain ⟨p, hp, hpe, hA, _⟩ := W.ev e hE
  obtain ⟨h, hAc, _⟩ := W.on c l hF
  obtain ⟨b, hb⟩ := Option.ne_none_iff_exists'.1 hA
  refine ⟨p, hp, hpe, ?_⟩
  rw [← W.eq p c l h b hp hF hAc hb]
  exact List.sublist_append_left _ _

theorem count_le (l : List Tst) : ∀ (L : List News), (L.filter (isOf 0 l)).length + (L.filter (isOf 1 l)).length + (L.filter (isOf 2 l)).length + (L.filter (isOf 3 l)).length ≤ L.length
  | [] => by simp
  | e :: L => by
    have ih := count_le l L
    have hz : ∀ p : Nat, isOf p l e = true → e.ev.pub = p := fun p h => by simp [isOf] at h; exact h.1
    simp only [List.filter_cons, List.length_cons]
    have key : ∀ p : Nat, ((if isOf p l e = true then e :: L.filter (isOf p l) else L.filter (isOf p l)).length) = (L.filter (isOf p l)).length + (if isOf p l e = true then 1 else 0) := fun p => by split <;> simp
    rw [key 0, key 1, key 2, key 3]
    have k01 := hz 0
    have k1 := hz 1
    have k2 := hz 2
    have k3 := hz 3
    by_cases h0 : isOf 0 l e = true <;> by_cases h1 : isOf 1 l e = true <;> by_cases h2 : isOf 2 l e = true <;> by_cases h3 : isOf 3 l e = true <;> simp only [h0, h1, h2, h3, if_true] <;> (try have := k01 h0) <;> (try have := k1 h1) <;> (try have := k2 h2) <;> (try have := k3 h3) <;> simp <;> omega
theorem count_ge (l : List Tst) : ∀ (L : List News), (∀ e, e ∈ L → meets l e.ev = true ∧ ∃ p : Nat, p < 4 ∧ e.ev.pub = p) → L.length ≤ (L.filter (isOf 0 l)).length + (L.filter (isOf 1 l)).length + (L.filter (isOf 2 l)).length + (L.filter (isOf 3 l)).length
  | [], _ => by simp
  | e :: L, h => by
    have ih := count_ge l L (fun e he => h e (List.mem_cons_of_mem _ he))
    obtain ⟨hm, p, hp, hpe⟩ := h e (List.mem_cons_self ..)
    have key : ∀ p : Nat, ((if isOf p l e = true then e :: L.filter (isOf p l) else L.filter (isOf p l)).length) = (L.filter (isOf p l)).length + (if isOf p l e = true then 1 else 0) := fun p => by split <;> simp
    simp only [List.filter_cons, List.length_cons]
    rw [key 0, key 1, key 2, key 3]
    have hq : isOf p l e = true := by simp [isOf, hpe, hm]
    obtain rfl | rfl | rfl | rfl : p = 0 ∨ p = 1 ∨ p = 2 ∨ p = 3 := by omega
    all_goals (simp only [hq, if_true]; omega)

theorem Flow.told_len (W : Flow σ A F E) {c : Nat} {l : List Tst} (hF : F c = some l) : ((σ.cl c).told 0).length ≤ E.length := by
  have hge := count_ge l ((σ.cl c).told 0) (fun e he => by
    obtain ⟨hE, hm⟩ := W.told c l e hF he
    obtain ⟨p, hp, hpe, _⟩ := W.ev e hE
    exact ⟨hm, p, hp, hpe⟩)
  have hle := count_le l E
  have hsub : ∀ p : Nat, p < 4 → (((σ.cl c).told 0).filter (isOf p l)).length ≤ (E.filter (isOf p l)).length := fun p hp => by
    cases hf : ((σ.cl c).told 0).filter (isOf p l) with
    | nil => simp
    | cons e r =>
      have hmem : e ∈ ((σ.cl c).told 0).filter (isOf p l) := by rw [hf]; exact List.mem_cons_self ..
      obtain ⟨he, hq⟩ := List.mem_filter.1 hmem
      obtain ⟨p', _, hpe, hs⟩ := W.first hF he
      have : p' = p := by simp [isOf] at hq; omega
      subst this
      rw [← hf]; exact hs.length_le
  have := hsub 0 (by omega)
  have := hsub 1 (by omega)
  have := hsub 2 (by omega)
  have := hsub 3 (by omega)
  omega

/-- What else is true of clients that stay. -/
structure Tame (σ : Net) (F : Nat → Option (List Tst)) (E : List News) : Prop where
  odd : ∀ c k, c < 4 → k ≠ 0 → (σ.cl c).told k = []
  off : ∀ c, c < 4 → F c = none → (σ.cl c).told 0 = [] ∧ (σ.cl c).log = []
  low : ∀ e, e ∈ E → 1 ≤ e.ev.num
  many : ∀ c, c < 4 → 0 ≤ (σ.cl c).many ∧ (σ.cl c).many ≤ E.length

theorem Flow.fine (W : Flow σ A F E) (M : Tame σ F E) (Q : Four σ) {k : Nat} (hf : Fit σ k) (hm : E.length + 1 < 2000000000000) : Fine σ (E.length + 1) := by
  have hev : ∀ e, e ∈ E → e.lim (E.length + 1) := fun e he => by
    obtain ⟨p, hp, hpe, _, hst, hn⟩ := W.ev e he
    have := (M.many p hp).2
    have := M.low e he
    exact ⟨by omega, by omega, by omega, by omega, by omega, by omega⟩
  have htl : ∀ c j, c < 4 → ((σ.cl c).told j).length ≤ E.length ∧ ∀ e, e ∈ (σ.cl c).told j → e ∈ E := fun c j hc => by
    by_cases hj : j = 0
    · subst hj
      cases hF : F c with
      | none => rw [(M.off c hc hF).1]; exact ⟨Nat.zero_le _, fun e he => by cases he⟩
      | some l => exact ⟨W.told_len hF, fun e he => (W.told c l e hF he).1⟩
    · rw [M.odd c j hc hj]; exact ⟨Nat.zero_le _, fun e he => by cases he⟩
  refine ⟨hf.tight (W.toStays.plainS W.hon) (fun x y f h s => ?_) (fun c j hc => Nat.le_succ_of_le (htl c j hc).1) (fun c hc => ?_) (W.toStays.numS Q (by omega) (fun c hc => by have := (M.many c hc).2; omega)) (fun x y f h e he => ?_) (fun c j e he => ?_), hm⟩
  · obtain ⟨e, b, p, rfl, _⟩ := W.fr x y f h; rfl
  · cases hF : F c with
    | none => rw [(M.off c hc hF).2]; exact Nat.zero_le _
    | some l => have := W.told_len hF; rw [W.log c l hF, List.length_map]; omega
  · obtain ⟨e', b, p, rfl, hE, _⟩ := W.fr x y f h
    simp only [newsIn, List.mem_singleton] at he
    subst he; exact hev _ hE
  · by_cases hc : c < 4
    · exact hev e ((htl c j hc).2 e he)
    · rw [Q.far c (by omega)] at he; cases he

theorem tell_age (x : Cli) (k : Nat) (e : News) : (x.tell k e).age = x.age := by unfold Cli.tell; split <;> rfl
theorem tell_other (x : Cli) (e : News) {k : Nat} (hk : k ≠ 0) : (x.tell 0 e).told k = x.told k := by
  unfold Cli.tell; split
  · rfl
  · exact put_other _ _ hk

/-- Frames of events alone. -/
structure FlowI (A : Nat → Option Nat) (F : Nat → Option (List Tst)) (E : List News) (σ : Net) : Prop where
  fl : Flow σ A F E
  tame : Tame σ F E
  four : Four σ
  fit : ∃ k, Fit σ k
theorem FlowI.fine {σ : Net} {A : Nat → Option Nat} {F : Nat → Option (List Tst)} {E : List News} (h : FlowI A F E σ) (hm : E.length + 1 < 2000000000000) : Fine σ (E.length + 1) := h.fit.elim fun _ f => h.fl.fine h.tame h.four f hm

end

section
variable {w : World} {b : Nat} {ρ : Nat → Option Role} {σ : Net} {A : Nat → Option Nat} {F : Nat → Option (List Tst)} {E : List News}

theorem attachS (h : XN w b ρ σ) (i : SpreadI A F σ) (hw : σ.weight < 100) {c x : Nat} (hc : c < 4) (hx : x < σ.n) (hA : A c = none) (hF : F c = none) :
    Calls Try.prog 14 #[ptr b, int c, int x] w fun e w' => e = .returned (int 0) ∧ ∃ ρ', XN w' b ρ' (σ.attach c x) ∧ SpreadI (put A c (some x)) F (σ.attach c x) ∧ (σ.attach c x).weight = σ.weight ∧ (σ.attach c x).par = σ.par ∧ Mv allR ρ ρ' w w' := by
  have S := i.sp
  have C := S.cl c hc
  have hst : (σ.cl c).stays = 0 := by rw [C.stays, hA]; simp
  have h1 := attach_first S.toStays hc hx hA hF hw
  have h2 := S.attach hc hx hA hF hw
  refine (attachX h i.fine.fit i.fine.lt c x).mono ?_
  rintro e w' ⟨rfl, ρ', hX, hM⟩
  have hE : σ.attachE c x = 0 := h1.1
  have hF4 : Four (σ.attach c x) := by
    rw [h1.2]
    refine ⟨fun d hd => ?_, fun d j hd => ?_⟩
    · have e : d ≠ c := by omega
      simp only [Net.arrive, Net.setCl, put_other _ _ e]; exact i.four.far d hd
    · by_cases e : d = c
      · subst e; simp only [Net.arrive, Net.setCl, put_same]; exact i.four.age d j hd
      · simp only [Net.arrive, Net.setCl, put_other _ _ e]; exact i.four.age d j hd
  refine ⟨by rw [hE], ρ', hX, ⟨h2.1, ?_, hF4, i.fit.elim fun k f => ⟨k + 8, f.attach _ _⟩⟩, h2.2, by rw [h1.2]; rfl, hM⟩
  rw [h1.2]
  have key : ∀ d, (((σ.arrive c x).cl d).told = (σ.cl d).told ∧ ((σ.arrive c x).cl d).log = (σ.cl d).log ∧ ((σ.arrive c x).cl d).many = (σ.cl d).many) := fun d => by
    by_cases e : d = c
    · subst e; simp [Net.arrive, Net.setCl]
    · simp [Net.arrive, Net.setCl, put_other _ _ e]
  exact ⟨fun d k hd => by rw [(key d).1]; exact i.clean.told d k hd, fun d hd => by rw [(key d).2.1]; exact i.clean.log d hd, fun d hd => by rw [(key d).2.2]; exact i.clean.many d hd⟩

theorem subscribeS (h : XN w b ρ σ) (i : SpreadI A F σ) (hw : σ.weight < 100) {c x : Nat} (hc : c < 4) (hA : A c = some x) (hF : F c = none) {l : List Tst} (hl : goodFilter l = true) {a : Option Addr} (ht : TestsAt w a l) (cap : Nat) :
    Calls Try.prog 15 #[ptr b, int c, .slice a l.length cap] w fun e w' => e = .returned (.tuple #[int 0, int 0]) ∧ ∃ ρ', XN w' b ρ' (σ.sub c l) ∧ SpreadI A (put F c (some l)) (σ.sub c l) ∧ (σ.sub c l).weight ≤ σ.weight + 5 ∧ (σ.sub c l).par = σ.par ∧ Mv allR ρ ρ' w w' := by
  have S := i.sp
  have C := S.cl c hc
  have hx := S.at_lt hc hA
  have h1 := sub_first S.toStays hc hA hF hl hw
  have h2 := S.sub hc hA hF hl hw
  refine (subscribeX h i.fine.fit i.fine.lt c hl ht cap).mono ?_
  rintro e w' ⟨rfl, ρ', hX, hM⟩
  have hE : σ.subE c l = 0 := h1.1
  have hsl : σ.slot c = 0 := by simp [Net.slot, C.used0, hF]
  have hcl : (σ.sub c l).cl = (σ.setCl c ((σ.cl c).subs 0 l)).cl ∧ (σ.sub c l).par = σ.par := by
    rw [h1.2.2]
    simp only [Net.subN, Net.spread]
    exact ⟨(pushAll_keeps _ _).2.1, pushAll_par _ _ _ _⟩
  have key : ∀ d, (∀ k, ((σ.cl d).told k = [] → ((σ.sub c l).cl d).told k = [])) ∧ ((σ.sub c l).cl d).log = (σ.cl d).log ∧ ((σ.sub c l).cl d).many = (σ.cl d).many := fun d => by
    rw [hcl.1]
    by_cases e : d = c
    · subst e
      simp only [Net.setCl, put_same, Cli.subs]
      refine ⟨fun k hk => ?_, by simp⟩
      by_cases e : k = 0
      · subst e; exact put_same _ _ _
      · rw [put_other _ _ e]; exact hk
    · simp [Net.setCl, put_other _ _ e]
  have hF4 : Four (σ.sub c l) := by
    refine ⟨fun d hd => ?_, fun d j hd => ?_⟩
    · have e : d ≠ c := by omega
      rw [hcl.1]; simp only [Net.setCl, put_other _ _ e]; exact i.four.far d hd
    · rw [hcl.1]
      by_cases e : d = c
      · subst e
        simp only [Net.setCl, put_same, Cli.subs]
        by_cases e2 : j = 0
        · subst e2; rw [put_same, C.age hF]; omega
        · rw [put_other _ _ e2]; exact i.four.age d j hd
      · simp only [Net.setCl, put_other _ _ e]; exact i.four.age d j hd
  refine ⟨by rw [hE, if_pos rfl]; simp [hsl], ρ', hX, ⟨h2.1, ⟨fun d k hd => (key d).1 k (i.clean.told d k hd), fun d hd => by rw [(key d).2.1]; exact i.clean.log d hd, fun d hd => by rw [(key d).2.2]; exact i.clean.many d hd⟩, hF4, i.fit.elim fun k f => ⟨k + 8, f.sub _ _⟩⟩, h2.2, hcl.2, hM⟩

theorem publishS (h : XN w b ρ σ) (i : FlowI A F E σ) (hful : σ.full = false) {c x : Nat} (hc : c < 4) (hA : A c = some x) (f0 f1 f2 : Int) (hm : E.length + 1 < 1999999999999) :
    Calls Try.prog 17 #[ptr b, int c, .agg #[int f0, int f1, int f2]] w fun e w' => e = .returned (.tuple #[int ((σ.cl c).many + 1), int 0]) ∧ ∃ ρ', XN w' b ρ' (σ.pub c f0 f1 f2) ∧ FlowI A F (E ++ [⟨⟨c, (σ.cl c).many + 1, f0, f1, f2⟩, 1⟩]) (σ.pub c f0 f1 f2) ∧ (∀ d, ((σ.pub c f0 f1 f2).cl d).many = if d = c then (σ.cl c).many + 1 else (σ.cl d).many) ∧ (σ.pub c f0 f1 f2).par = σ.par ∧ Mv allR ρ ρ' w w' := by
  have W := i.fl
  have M := i.tame
  have C := W.cl c hc
  have hx := W.at_lt hc hA
  have hhere : (σ.cl c).here = some x := C.here.trans hA
  have hst : (σ.cl c).stays = 1 := by rw [C.stays, hA]; simp
  have hmm := M.many c hc
  have hP := W.pub hc hA hful f0 f1 f2
  have hE0 : σ.pubE c = 0 := hP.1
  have hpub : σ.pub c f0 f1 f2 = (σ.setCl c { σ.cl c with many := (σ.cl c).many + 1 }).happens x ⟨⟨c, (σ.cl c).many + 1, f0, f1, f2⟩, (σ.cl c).stays⟩ none := by
    simp only [Net.pub, hE0, if_true, toNat_nat, Net.pubEv]
    split
    · rename_i b' hb'
      rw [hhere] at hb'; cases hb'; rfl
    · rename_i hb'
      rw [hhere] at hb'; cases hb'
  refine (publishX h (i.fine (by omega)).fit hm c f0 f1 f2).mono ?_
  rintro e w' ⟨rfl, ρ', hX, hM⟩
  have hA0 : σ.pubA c = (σ.cl c).many + 1 := by simp [Net.pubA, hE0]
  have W0 : Facts (σ.setCl c { σ.cl c with many := (σ.cl c).many + 1 }) A F x := by
    have := W.facts hx
    refine ⟨this.odd, this.off, this.on, fun d hd => ?_, this.far⟩
    by_cases e : d = c
    · subst e; simp only [Net.setCl, put_same]; exact C.here
    · simp only [Net.setCl, put_other _ _ e]; exact (W.cl d hd).here
  have hK := happens_keeps W0 ⟨⟨c, (σ.cl c).many + 1, f0, f1, f2⟩, (σ.cl c).stays⟩ none
  rw [← hpub] at hK
  have hcl : ∀ d, ((σ.pub c f0 f1 f2).cl d = (σ.setCl c { σ.cl c with many := (σ.cl c).many + 1 }).cl d ∨ ∃ e l, F d = some l ∧ (σ.pub c f0 f1 f2).cl d = ((σ.setCl c { σ.cl c with many := (σ.cl c).many + 1 }).cl d).tell 0 e) := fun d => by
    have := hK.2.2.2.1 d
    by_cases hh : hit A F x ⟨⟨c, (σ.cl c).many + 1, f0, f1, f2⟩, (σ.cl c).stays⟩ d = true
    · rw [if_pos hh] at this
      unfold hit at hh
      split at hh
      · rename_i l hF; exact Or.inr ⟨_, l, hF, this⟩
      · cases hh
    · rw [if_neg hh] at this; exact Or.inl this
  have hset : ∀ d, ((σ.setCl c { σ.cl c with many := (σ.cl c).many + 1 }).cl d).told = (σ.cl d).told ∧ ((σ.setCl c { σ.cl c with many := (σ.cl c).many + 1 }).cl d).log = (σ.cl d).log := fun d => by
    by_cases e : d = c
    · subst e; simp [Net.setCl]
    · simp [Net.setCl, put_other _ _ e]
  refine ⟨by rw [hE0, hA0], ρ', hX, ⟨hP.2.2.2, ⟨fun d k hd hk => ?_, fun d hd hF => ?_, fun e he => ?_, fun d hd => ?_⟩, ⟨fun d hd => ?_, fun d j hd => ?_⟩, i.fit.elim fun k f => ⟨k + 8, f.pub _ _ _ _⟩⟩, hP.2.2.1, by rw [hK.1]; rfl, hM⟩
  · rcases hcl d with e | ⟨e, l, _, e2⟩
    · rw [e, (hset d).1]; exact M.odd d k hd hk
    · rw [e2, tell_other _ _ hk, (hset d).1]; exact M.odd d k hd hk
  · rcases hcl d with e | ⟨e, l, e1, _⟩
    · rw [e, (hset d).1, (hset d).2]; exact M.off d hd hF
    · rw [hF] at e1; cases e1
  · rcases List.mem_append.1 he with he | he
    · exact M.low e he
    · rw [List.mem_singleton.1 he]; show 1 ≤ (σ.cl c).many + 1; omega
  · rw [hP.2.2.1 d, List.length_append, List.length_singleton]
    have := M.many d hd
    split <;> omega
  · rcases hcl d with e | ⟨e, l, e1, _⟩
    · have ne : d ≠ c := by omega
      rw [e]; simp only [Net.setCl, put_other _ _ ne]; exact i.four.far d hd
    · rw [W.far d hd] at e1; cases e1
  · have hag : ((σ.setCl c { σ.cl c with many := (σ.cl c).many + 1 }).cl d).age = (σ.cl d).age := by
      by_cases e : d = c
      · subst e; simp [Net.setCl]
      · simp [Net.setCl, put_other _ _ e]
    rcases hcl d with e | ⟨e, l, _, e2⟩
    · rw [e, hag]; exact i.four.age d j hd
    · rw [e2, tell_age, hag]; exact i.four.age d j hd

/-- Nothing waits, all know: events may come. -/
theorem SpreadI.flow (i : SpreadI A F σ) (hq : ∀ x y, σ.q x y = []) : FlowI A F [] σ :=
  ⟨i.sp.flow hq (fun c l hF => ⟨i.clean.told c 0 (i.sp.on_lt hF), i.clean.log c (i.sp.on_lt hF)⟩),
    ⟨fun c k hc _ => i.clean.told c k hc, fun c hc _ => ⟨i.clean.told c 0 hc, i.clean.log c hc⟩, fun e he => (by cases he), fun c hc => by rw [i.clean.many c hc]; simp⟩, i.four, i.fit⟩

theorem newI {par : List Nat} (T : Tree par) : SpreadI (fun _ => none) (fun _ => none) (newNet par) :=
  ⟨(Spread.new T).1, ⟨fun _ _ _ => rfl, fun _ _ => rfl, fun _ _ => rfl⟩, ⟨fun _ _ => rfl, fun _ _ _ => by show (-1 : Int) ≤ 0; omega⟩, 0, fit_new T⟩
end

end Go.Proofs.Ytodfcpblcpogiaa

/-
  Clients that stay: who comes, who subscribes.
-/
import Derived.Test.YtlpknnoacpfnnaaStay
namespace Go.Proofs.Ytlpknnoacpfnnaa

theorem toNat_nat (c : Nat) : ((c : Int)).toNat = c := by omega
theorem isCli_nat {c : Nat} (h : c < 4) : isCli (c : Int) = true := by simp [isCli]; omega
theorem isBro_nat {σ : Net} {b : Nat} (h : b < σ.n) : σ.isBro (b : Int) = true := by simp [Net.isBro]; omega

theorem full_of_weight {σ : Net} (L : σ.Linked) (h : σ.weight < 100) : σ.full = false := by
  have := (waiting_le_weight L).1
  simp [Net.full]; omega

/-- Bounds on the frames when a call is let in. -/
theorem weight_of_full {σ : Net} (L : σ.Linked) (h : σ.full = false) : σ.weight ≤ 1386 := by
  have := (waiting_le_weight L).2
  simp [Net.full] at h; omega

theorem weight_spread_all {σ : Net} (T : Tree σ.par) {b : Nat} (hb : b < σ.n) {f : Fr} (hf : ∀ x y, wt σ.par x y f = beyond σ.par x y) : (σ.spread b none f).weight ≤ σ.weight + 5 := by
  have h6 : b < 6 := Nat.lt_of_lt_of_le hb (size_le T)
  have h1 := weight_pushAll f h6 (σ.others b none) σ (fun y hy => (near_lt6 T (others_near hy).1).2)
  have h2 := beyond_all T hb
  have h3 := filter_sum_le (g := fun z => beyond σ.par b z) (p := fun z => decide (some z ≠ none) && near σ.par b z) (r := fun z => near σ.par b z) (List.range (size σ.par)) (fun z _ hz => by simpa using hz)
  rw [sum_others] at h1
  simp only [hf] at h1
  simp only [Net.spread]
  omega

section
variable {σ : Net} {A : Nat → Option Nat} {F : Nat → Option (List Tst)}

theorem attach_first (S : Stays σ A F) {c b : Nat} (hc : c < 4) (hb : b < σ.n) (ha : A c = none) (hf : F c = none) (hw : σ.weight < 100) :
    σ.attachE c b = 0 ∧ σ.attach c b = σ.arrive c b := by
  have C := S.cl c hc
  have h0 : (σ.cl c).here = none := C.here.trans ha
  have h1 : (σ.cl c).home = none := C.home.trans ha
  have hE : σ.attachE c b = 0 := by
    simp [Net.attachE, Net.asked, S.open_, isCli_nat hc, isBro_nat hb, h0, full_of_weight S.good.linked hw]
  refine ⟨hE, ?_⟩
  have hu0 : (σ.cl c).used 0 = false := by rw [C.used0, hf]; rfl
  simp [Net.attach, hE, Net.attachN, h1, Net.backs, hu0, C.used1]

theorem Spread.attach (S : Spread σ A F) {c b : Nat} (hc : c < 4) (hb : b < σ.n) (ha : A c = none) (hf : F c = none) (hw : σ.weight < 100) :
    Spread (σ.attach c b) (put A c (some b)) F ∧ (σ.attach c b).weight = σ.weight := by
  rw [(attach_first S.toStays hc hb ha hf hw).2]
  have C := S.cl c hc
  have hne : ∀ d l, F d = some l → d ≠ c := fun d l h e => by subst e; rw [hf] at h; cases h
  refine ⟨⟨⟨?_, S.open_, fun d hd => ?_, S.odd, S.off, S.far⟩, fun d l hd => ?_, fun x y f h => ?_, fun d l h x hd hA hx => ?_⟩, weight_congr rfl rfl⟩
  · refine S.good.setCl ⟨fun b' h => ?_, fun b' h => ?_, (S.good.clis c hc).fil⟩
    · cases h; exact hb
    · cases h; exact hb
  · by_cases e : d = c
    · subst e
      simp only [Net.arrive, Net.setCl, put_same]
      exact ⟨rfl, rfl, C.used0, C.used1, C.fil, C.age, by simp [C.stays, ha]⟩
    · simp only [Net.arrive, Net.setCl, put_other _ _ e]; exact S.cl d hd
  · obtain ⟨h, h1, h2, h3⟩ := S.on d l hd
    exact ⟨h, by rw [put_other _ _ (hne d l hd)]; exact h1, h2, h3⟩
  · obtain ⟨d, l, k, h1, h2, h3, h4, h5⟩ := S.fr x y f h
    exact ⟨d, l, k, h1, h2, by rw [put_other _ _ (hne d l h2)]; exact h3, h4, h5⟩
  · rw [put_other _ _ (hne d l hd)] at hA
    exact S.spr d l h x hd hA hx

theorem sub_first (S : Stays σ A F) {c b : Nat} {l : List Tst} (hc : c < 4) (ha : A c = some b) (hf : F c = none) (hl : goodFilter l = true) (hw : σ.weight < 100) :
    σ.subE c l = 0 ∧ σ.slot c = 0 ∧ σ.sub c l = σ.subN c b 0 l := by
  have C := S.cl c hc
  have h0 : (σ.cl c).here = some b := C.here.trans ha
  have hu0 : (σ.cl c).used 0 = false := by rw [C.used0, hf]; rfl
  have hs : σ.slot c = 0 := by simp [Net.slot, hu0]
  have hwt : σ.waits c = false := by simp [Net.waits, h0, List.range, List.range.loop, hu0, C.used1]
  have hE : σ.subE c l = 0 := by
    simp [Net.subE, Net.asked, S.open_, isCli_nat hc, hl, Net.still, h0, hwt, hs, hu0, full_of_weight S.good.linked hw]
  exact ⟨hE, hs, by simp [Net.sub, hE, h0, hs]⟩

theorem Spread.sub (S : Spread σ A F) {c b : Nat} {l : List Tst} (hc : c < 4) (ha : A c = some b) (hf : F c = none) (hl : goodFilter l = true) (hw : σ.weight < 100) :
    Spread (σ.sub c l) A (put F c (some l)) ∧ (σ.sub c l).weight ≤ σ.weight + 5 := by
  rw [(sub_first S.toStays hc ha hf hl hw).2.2]
  have C := S.cl c hc
  have hb := S.at_lt hc ha
  have hage : (σ.cl c).age 0 + 1 = 0 := by rw [C.age hf]; rfl
  have hne : ∀ d m, F d = some m → d ≠ c := fun d m h e => by subst e; rw [hf] at h; cases h
  have T := S.good.tree
  -- the net behind it
  obtain ⟨x, hx⟩ : ∃ x : Cli, x = { σ.cl c with used := put (σ.cl c).used 0 true, age := put (σ.cl c).age 0 ((σ.cl c).age 0 + 1), fl := put (σ.cl c).fl 0 l, told := put (σ.cl c).told 0 [] } := ⟨_, rfl⟩
  have hτ : σ.subN c b 0 l = ((σ.setCl c x).know b (2 * c) (some (plain l none))).spread b none (.sub (2 * c) 0 l) := by
    subst hx
    simp only [Net.subN, Nat.add_zero, hage, plain]
  rw [hτ]
  have G1 : Good (σ.setCl c x) := by
    refine S.good.setCl ?_
    subst hx
    refine ⟨(S.good.clis c hc).here, (S.good.clis c hc).home, fun k hk => ?_⟩
    by_cases e : k = 0
    · subst e; simpa using hl
    · simp only [put_other _ _ e] at hk ⊢; exact (S.good.clis c hc).fil k hk
  have G2 : Good ((σ.setCl c x).know b (2 * c) (some (plain l none))) := G1.know (fun g hg => by cases hg; exact ⟨hb, by omega, hl, (by intro y h; cases h), Int.le_refl _⟩)
  have hkn : ∀ u s, (((σ.setCl c x).know b (2 * c) (some (plain l none))).spread b none (.sub (2 * c) 0 l)).kn u s = if u = b ∧ s = 2 * c then some (plain l none) else σ.kn u s := by
    intro u s
    simp only [Net.spread, (pushAll_keeps _ _).1]
    rfl
  have hcl : (((σ.setCl c x).know b (2 * c) (some (plain l none))).spread b none (.sub (2 * c) 0 l)).cl = put σ.cl c x := by
    simp only [Net.spread, (pushAll_keeps _ _).2.1]; rfl
  have hpar : (((σ.setCl c x).know b (2 * c) (some (plain l none))).spread b none (.sub (2 * c) 0 l)).par = σ.par := by
    simp only [Net.spread, pushAll_par]; rfl
  have hq' : ∀ g u v, g ∈ (((σ.setCl c x).know b (2 * c) (some (plain l none))).spread b none (.sub (2 * c) 0 l)).q u v ↔ g ∈ σ.q u v ∨ (u = b ∧ (near σ.par b v = true ∧ v < σ.n) ∧ g = .sub (2 * c) 0 l) := by
    intro g u v
    simp only [Net.spread, mem_pushAll]
    have : v ∈ ((σ.setCl c x).know b (2 * c) (some (plain l none))).others b none ↔ (near σ.par b v = true ∧ v < σ.n) := by
      simp only [Net.others, List.mem_filter, List.mem_range, Bool.and_eq_true, decide_eq_true_eq]
      constructor
      · rintro ⟨h1, _, h3⟩; exact ⟨h3, h1⟩
      · rintro ⟨h1, h2⟩; exact ⟨h2, by simp, h1⟩
    rw [this]; rfl
  refine ⟨⟨⟨G2.spread (by exact ⟨by omega, hl⟩), ?_, fun d hd => ?_, fun u d => ?_, fun u d hd => ?_, fun d hd => ?_⟩, fun d m hd => ?_, fun u v g hg => ?_, fun d m h u hd hA hu hne' hk => ?_⟩, ?_⟩
  · simp only [Net.spread, (pushAll_keeps _ _).2.2]; exact S.open_
  · rw [hcl]
    by_cases e : d = c
    · subst e; subst hx
      simp only [put_same]
      exact ⟨C.here, C.home, rfl, C.used1, (fun m hm => by cases hm; simp), (fun h => by cases h), C.stays⟩
    · simp only [put_other _ _ e]; exact S.cl d hd
  · rw [hkn, if_neg (by omega)]; exact S.odd u d
  · have hdc : d ≠ c := fun e => by subst e; simp at hd
    rw [hkn, if_neg (by rintro ⟨_, e⟩; omega)]
    rw [put_other _ _ hdc] at hd
    exact S.off u d hd
  · rw [put_other _ _ (by omega)]; exact S.far d hd
  · by_cases e : d = c
    · subst e
      simp only [put_same, Option.some.injEq] at hd
      subst hd
      refine ⟨b, ha, by rw [hkn]; simp, fun u f h => ?_⟩
      rw [hkn] at h
      split at h
      · rename_i e; cases h; rw [e.1]; simp [wayTo]
      · rw [S.off u d hf] at h; cases h
    · rw [put_other _ _ e] at hd
      obtain ⟨h, h1, h2, h3⟩ := S.on d m hd
      refine ⟨h, h1, ?_, fun u f hu => ?_⟩
      · rw [hkn, if_neg (by rintro ⟨_, e'⟩; omega)]; exact h2
      · rw [hkn, if_neg (by rintro ⟨_, e'⟩; omega)] at hu
        rw [hpar]; exact h3 u f hu
  · rw [hpar]
    rcases (hq' g u v).1 hg with h | ⟨rfl, ⟨h1, h2⟩, rfl⟩
    · obtain ⟨d, m, k, e1, e2, e3, e4, e5⟩ := S.fr u v g h
      exact ⟨d, m, k, e1, by rw [put_other _ _ (hne d m e2)]; exact e2, e3, e4, e5⟩
    · exact ⟨c, l, u, rfl, by simp, ha, (near_ne T h1).symm, (next_near T (by rw [near_comm]; exact h1)).symm⟩
  · rw [hpar] at hk ⊢
    have hu' : u < σ.n := by simp only [Net.n, hpar] at hu; exact hu
    rw [hkn] at hk ⊢
    by_cases e : d = c
    · subst e
      rw [ha] at hA; cases hA
      simp only [put_same, Option.some.injEq] at hd
      subst hd
      rw [if_neg (by rintro ⟨e, _⟩; exact hne' e)]
      by_cases e2 : next σ.par u b = b
      · have hs := next_step T hu' hb hne'
        rw [e2] at hs ⊢
        exact Or.inr ((hq' _ _ _).2 (Or.inr ⟨rfl, ⟨by rw [near_comm]; exact hs.1, hu'⟩, rfl⟩))
      · rw [if_neg (by rintro ⟨e, _⟩; exact e2 e), S.off _ _ hf] at hk
        exact absurd rfl hk
    · rw [if_neg (by rintro ⟨_, e'⟩; omega)] at hk ⊢
      rw [put_other _ _ e] at hd
      rcases S.spr d m h u hd hA hu' hne' hk with h1 | h1
      · exact Or.inl h1
      · exact Or.inr ((hq' _ _ _).2 (Or.inl h1))
  · have := weight_spread_all (σ := (σ.setCl c x).know b (2 * c) (some (plain l none))) T (b := b) hb (f := .sub (2 * c) 0 l) (fun _ _ => rfl)
    rw [show ((σ.setCl c x).know b (2 * c) (some (plain l none))).weight = σ.weight from weight_congr rfl rfl] at this
    exact this

/-- A new net. -/
theorem Spread.new {par : List Nat} (T : Tree par) : Spread (newNet par) (fun _ => none) (fun _ => none) ∧ (newNet par).weight = 0 := by
  refine ⟨⟨⟨⟨T, fun _ _ h => absurd rfl h, fun _ _ _ h => (by cases h), fun _ _ _ h => (by cases h), fun c _ => ⟨fun _ h => (by cases h), fun _ h => (by cases h), fun _ h => (by cases h)⟩⟩, rfl, fun c _ => ⟨rfl, rfl, rfl, rfl, fun _ h => (by cases h), fun _ => rfl, rfl⟩, fun _ _ => rfl, fun _ _ _ => rfl, fun _ _ => rfl⟩,
    fun _ _ h => (by cases h), fun _ _ _ h => (by cases h), fun _ _ _ _ h => (by cases h)⟩, ?_⟩
  simp [Net.weight, Net.wtL, newNet, sum6]
end
end Go.Proofs.Ytlpknnoacpfnnaa

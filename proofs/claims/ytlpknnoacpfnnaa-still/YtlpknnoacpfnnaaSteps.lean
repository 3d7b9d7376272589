/-
  Clients that stay: Attach, Subscribe, Publish, with what stays true.
-/
import Derived.Test.YtlpknnoacpfnnaaOk
namespace Go.Proofs.Ytlpknnoacpfnnaa
open Go.RowKit

section
variable {w : World} {b : Nat} {ρ : Nat → Option Role} {σ : Net} {A : Nat → Option Nat} {F : Nat → Option (List Tst)} {E : List News}

theorem attachS (h : XN w b ρ σ) (i : SpreadI A F σ) (hw : σ.weight < 100) {c x : Nat} (hc : c < 4) (hx : x < σ.n) (hA : A c = none) (hF : F c = none) :
    Calls Try.prog 11 #[ptr b, int c, int x] w fun e w' => e = .returned (int 0) ∧ XN w' b ρ (σ.attach c x) ∧ SpreadI (put A c (some x)) F (σ.attach c x) ∧ (σ.attach c x).weight = σ.weight ∧ (σ.attach c x).par = σ.par ∧ Mv allR ρ ρ w w' := by
  have S := i.sp
  have C := S.cl c hc
  have hst : (σ.cl c).stays = 0 := by rw [C.stays, hA]; simp
  have h1 := attach_first S.toStays hc hx hA hF hw
  have h2 := S.attach hc hx hA hF hw
  refine (attachX h (S.fine i.clean i.wt (m := 0) (by omega)) hc hx (C.here.trans hA) (by rw [hst]; omega) (S.off x c hF) (S.odd x c) (full_of_weight S.good.linked hw)).mono ?_
  rintro e w' ⟨rfl, hX, hM⟩
  refine ⟨rfl, by rw [h1.2]; exact hX, ⟨h2.1, ?_, by rw [h2.2]; exact i.wt⟩, h2.2, by rw [h1.2]; rfl, hM⟩
  rw [h1.2]
  have key : ∀ d, (((σ.arrive c x).cl d).told = (σ.cl d).told ∧ ((σ.arrive c x).cl d).log = (σ.cl d).log ∧ ((σ.arrive c x).cl d).many = (σ.cl d).many) := fun d => by
    by_cases e : d = c
    · subst e; simp [Net.arrive, Net.setCl]
    · simp [Net.arrive, Net.setCl, put_other _ _ e]
  exact ⟨fun d k hd => by rw [(key d).1]; exact i.clean.told d k hd, fun d hd => by rw [(key d).2.1]; exact i.clean.log d hd, fun d hd => by rw [(key d).2.2]; exact i.clean.many d hd⟩

theorem sub_is {c x : Nat} {l : List Tst} (hno : σ.kn x (2 * c + 0) = none) : (σ.setCl c ((σ.cl c).subs 0 l)).handle x none (.sub (2 * c + 0) ((σ.cl c).age 0 + 1) l) = σ.subN c x 0 l := by
  simp only [Net.handle, Net.subN, Net.learn]
  have : (σ.setCl c ((σ.cl c).subs 0 l)).kn x (2 * c + 0) = none := hno
  rw [this]
  rfl

theorem subscribeS (h : XN w b ρ σ) (i : SpreadI A F σ) (hw : σ.weight < 100) {c x : Nat} (hc : c < 4) (hA : A c = some x) (hF : F c = none) {l : List Tst} (hl : goodFilter l = true) {a : Option Addr} (ht : TestsAt w a l) (cap : Nat) :
    Calls Try.prog 12 #[ptr b, int c, .slice a l.length cap] w fun e w' => e = .returned (.tuple #[int 0, int 0]) ∧ ∃ ρ', XN w' b ρ' (σ.sub c l) ∧ SpreadI A (put F c (some l)) (σ.sub c l) ∧ (σ.sub c l).weight ≤ σ.weight + 5 ∧ (σ.sub c l).par = σ.par ∧ Mv allR ρ ρ' w w' := by
  have S := i.sp
  have C := S.cl c hc
  have hx := S.at_lt hc hA
  have h1 := sub_first S.toStays hc hA hF hl hw
  have h2 := S.sub hc hA hF hl hw
  refine (subscribeX h (S.fine i.clean i.wt (m := 0) (by omega)) hc hx (C.here.trans hA) (by rw [C.used0, hF]; rfl) (by rw [C.age hF]; omega) (S.off x c hF) (full_of_weight S.good.linked hw) hl ht cap).mono ?_
  rintro e w' ⟨rfl, ρ', hX, hM⟩
  rw [sub_is (S.off x c hF), ← h1.2.2] at hX
  have hcl : (σ.sub c l).cl = (σ.setCl c ((σ.cl c).subs 0 l)).cl ∧ (σ.sub c l).par = σ.par := by
    rw [h1.2.2]
    simp only [Net.subN, Net.spread]
    exact ⟨(pushAll_keeps _ _).2.1, pushAll_par _ _ _ _⟩
  have key : ∀ d, (∀ k, ((σ.cl d).told k = [] → ((σ.sub c l).cl d).told k = [])) ∧ ((σ.sub c l).cl d).log = (σ.cl d).log ∧ ((σ.sub c l).cl d).many = (σ.cl d).many := fun d => by
    rw [hcl.1]
    by_cases e : d = c
    · subst e
      simp only [Net.setCl, put_same, Cli.subs]
      refine ⟨fun k hk => ?_, by simp⟩
      by_cases e : k = 0
      · subst e; exact put_same _ _ _
      · rw [put_other _ _ e]; exact hk
    · simp [Net.setCl, put_other _ _ e]
  refine ⟨rfl, ρ', hX, ⟨h2.1, ⟨fun d k hd => (key d).1 k (i.clean.told d k hd), fun d hd => by rw [(key d).2.1]; exact i.clean.log d hd, fun d hd => by rw [(key d).2.2]; exact i.clean.many d hd⟩, by omega⟩, h2.2, hcl.2, hM⟩

theorem pub_weight (G : Good σ) (hful : σ.full = false) {c x : Nat} (hx : x < σ.n) (y : Cli) (e : News) (hy : CliOk σ.n y) : ((σ.setCl c y).happens x e none).weight ≤ 1500 := by
  have G2 : Good (σ.setCl c y) := G.setCl hy
  have h1 := weight_happens G2 (b := x) (Nat.lt_of_lt_of_le hx (size_le G.tree)) e none
  have h2 := targets_sum G2 (b := x) (e := e) (fr := none)
  have h3 := beyond_all G.tree hx
  have h4 := weight_of_full G.linked hful
  have h5 : (σ.setCl c y).weight = σ.weight := weight_congr rfl rfl
  have h6 : (σ.setCl c y).par = σ.par := rfl
  rw [h6] at h1 h2
  have h7 : ((List.range (size σ.par)).filter fun z => near σ.par x z && decide (some z ≠ none)) = (List.range (size σ.par)).filter fun z => near σ.par x z := by simp
  rw [h7] at h2
  omega

theorem publishS (h : XN w b ρ σ) (i : FlowI A F E σ) (hful : σ.full = false) {c x : Nat} (hc : c < 4) (hA : A c = some x) (f0 f1 f2 : Int) (hm : E.length < 2000000000000) :
    Calls Try.prog 14 #[ptr b, int c, .agg #[int f0, int f1, int f2]] w fun e w' => e = .returned (.tuple #[int ((σ.cl c).many + 1), int 0]) ∧ ∃ ρ', XN w' b ρ' (σ.pub c f0 f1 f2) ∧ FlowI A F (E ++ [⟨⟨c, (σ.cl c).many + 1, f0, f1, f2⟩, 1⟩]) (σ.pub c f0 f1 f2) ∧ (∀ d, ((σ.pub c f0 f1 f2).cl d).many = if d = c then (σ.cl c).many + 1 else (σ.cl d).many) ∧ (σ.pub c f0 f1 f2).par = σ.par ∧ Mv allR ρ ρ' w w' := by
  have W := i.fl
  have M := i.tame
  have C := W.cl c hc
  have hx := W.at_lt hc hA
  have hhere : (σ.cl c).here = some x := C.here.trans hA
  have hst : (σ.cl c).stays = 1 := by rw [C.stays, hA]; simp
  have hmm := M.many c hc
  have hP := W.pub hc hA hful f0 f1 f2
  have hE0 : σ.pubE c = 0 := hP.1
  have hpub : σ.pub c f0 f1 f2 = (σ.setCl c { σ.cl c with many := (σ.cl c).many + 1 }).happens x ⟨⟨c, (σ.cl c).many + 1, f0, f1, f2⟩, (σ.cl c).stays⟩ none := by
    simp only [Net.pub, hE0, if_true, toNat_nat, Net.pubEv]
    split
    · rename_i b' hb'
      rw [hhere] at hb'; cases hb'; rfl
    · rename_i hb'
      rw [hhere] at hb'; cases hb'
  refine (publishX h (W.fine M i.wt (by omega)) hc hx hhere (by omega) (by rw [hst]; omega) f0 f1 f2 hful).mono ?_
  rintro e w' ⟨rfl, ρ', hX, hM⟩
  rw [← hpub] at hX
  have hok : CliOk σ.n { σ.cl c with many := (σ.cl c).many + 1 } := ⟨(W.good.clis c hc).here, (W.good.clis c hc).home, (W.good.clis c hc).fil⟩
  have W0 : Facts (σ.setCl c { σ.cl c with many := (σ.cl c).many + 1 }) A F x := by
    have := W.facts hx
    refine ⟨this.odd, this.off, this.on, fun d hd => ?_, this.far⟩
    by_cases e : d = c
    · subst e; simp only [Net.setCl, put_same]; exact C.here
    · simp only [Net.setCl, put_other _ _ e]; exact (W.cl d hd).here
  have hK := happens_keeps W0 ⟨⟨c, (σ.cl c).many + 1, f0, f1, f2⟩, (σ.cl c).stays⟩ none
  rw [← hpub] at hK
  have hcl : ∀ d, ((σ.pub c f0 f1 f2).cl d = (σ.setCl c { σ.cl c with many := (σ.cl c).many + 1 }).cl d ∨ ∃ e l, F d = some l ∧ (σ.pub c f0 f1 f2).cl d = ((σ.setCl c { σ.cl c with many := (σ.cl c).many + 1 }).cl d).tell 0 e) := fun d => by
    have := hK.2.2.2.1 d
    by_cases hh : hit A F x ⟨⟨c, (σ.cl c).many + 1, f0, f1, f2⟩, (σ.cl c).stays⟩ d = true
    · rw [if_pos hh] at this
      unfold hit at hh
      split at hh
      · rename_i l hF; exact Or.inr ⟨_, l, hF, this⟩
      · cases hh
    · rw [if_neg hh] at this; exact Or.inl this
  have hset : ∀ d, ((σ.setCl c { σ.cl c with many := (σ.cl c).many + 1 }).cl d).told = (σ.cl d).told ∧ ((σ.setCl c { σ.cl c with many := (σ.cl c).many + 1 }).cl d).log = (σ.cl d).log := fun d => by
    by_cases e : d = c
    · subst e; simp [Net.setCl]
    · simp [Net.setCl, put_other _ _ e]
  refine ⟨rfl, ρ', hX, ⟨hP.2.2.2, ⟨fun d k hd hk => ?_, fun d hd hF => ?_, fun e he => ?_, fun d hd => ?_⟩, by rw [hpub]; exact pub_weight W.good hful hx _ _ hok⟩, hP.2.2.1, by rw [hK.1]; rfl, hM⟩
  · rcases hcl d with e | ⟨e, l, _, e2⟩
    · rw [e, (hset d).1]; exact M.odd d k hd hk
    · rw [e2, tell_other _ _ hk, (hset d).1]; exact M.odd d k hd hk
  · rcases hcl d with e | ⟨e, l, e1, _⟩
    · rw [e, (hset d).1, (hset d).2]; exact M.off d hd hF
    · rw [hF] at e1; cases e1
  · rcases List.mem_append.1 he with he | he
    · exact M.low e he
    · rw [List.mem_singleton.1 he]; show 1 ≤ (σ.cl c).many + 1; omega
  · rw [hP.2.2.1 d, List.length_append, List.length_singleton]
    have := M.many d hd
    split <;> omega

/-- Nothing waits, all know: events may come. -/
theorem SpreadI.flow (i : SpreadI A F σ) (hq : ∀ x y, σ.q x y = []) : FlowI A F [] σ :=
  ⟨i.sp.flow hq (fun c l hF => ⟨i.clean.told c 0 (i.sp.on_lt hF), i.clean.log c (i.sp.on_lt hF)⟩),
    ⟨fun c k hc _ => i.clean.told c k hc, fun c hc _ => ⟨i.clean.told c 0 hc, i.clean.log c hc⟩, fun e he => (by cases he), fun c hc => by rw [i.clean.many c hc]; simp⟩, i.wt⟩

theorem newI {par : List Nat} (T : Tree par) : SpreadI (fun _ => none) (fun _ => none) (newNet par) :=
  ⟨(Spread.new T).1, ⟨fun _ _ _ => rfl, fun _ _ => rfl, fun _ _ => rfl⟩, by rw [(Spread.new T).2]; omega⟩
end

end Go.Proofs.Ytlpknnoacpfnnaa

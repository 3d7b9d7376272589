/-
  Clients that stay: an event is published; a frame is handled.
-/
import Derived.Test.YtlpknnoacpfnnaaFlow
namespace Go.Proofs.Ytlpknnoacpfnnaa

theorem CliAt.tell {x : Cli} {a : Option Nat} {f : Option (List Tst)} (h : CliAt x a f) (k : Nat) (e : News) : CliAt (x.tell k e) a f := by
  unfold Cli.tell; split
  · exact h
  · exact ⟨h.here, h.home, h.used0, h.used1, h.fil, h.age, h.stays⟩
theorem tell_many (x : Cli) (k : Nat) (e : News) : (x.tell k e).many = x.many := by unfold Cli.tell; split <;> rfl

section
variable {σ : Net} {A : Nat → Option Nat} {F : Nat → Option (List Tst)} {E : List News}

theorem Flow.facts (W : Flow σ A F E) {y : Nat} (hy : y < σ.n) : Facts σ A F y :=
  ⟨W.odd y, W.off y, fun c l hf => by obtain ⟨h, h1, h2⟩ := W.on c l hf; exact ⟨h, h1, h2 y hy⟩, fun c hc => (W.cl c hc).here, W.far⟩

theorem happens_keeps {y : Nat} (W : Facts σ A F y) (e : News) (fr : Option Nat) :
    (σ.happens y e fr).par = σ.par ∧ (σ.happens y e fr).closed = σ.closed ∧ (σ.happens y e fr).kn = σ.kn ∧ (∀ c, (σ.happens y e fr).cl c = if hit A F y e c = true then (σ.cl c).tell 0 e else σ.cl c) ∧
    (∀ u v, (σ.happens y e fr).q u v = if u = y ∧ v ∈ σ.targets y e fr then σ.q u v ++ [.event e] else σ.q u v) := by
  have h1 := hears_keeps y e (List.range 8) σ
  have h2 := hears_eight W e
  have h3 := pushAll_keeps (f := .event e) (x := y) (σ.targets y e fr) (σ.hears y e (List.range 8))
  refine ⟨?_, ?_, ?_, fun c => ?_, fun u v => ?_⟩
  · exact (pushAll_par _ _ _ _).trans h1.1
  · exact h3.2.2.trans h1.2.2
  · exact h3.1.trans h2.1
  · exact (congrFun h3.2.1 c).trans (h2.2 c)
  · exact (q_pushAll (f := .event e) (x := y) (σ.targets y e fr) (σ.hears y e (List.range 8)) u v (nodup_targets σ y e fr)).trans (by rw [h1.2.1])

theorem filter_evs_app {P : News → Bool} {e : News} (h : P e = false) (l : List Fr) : (evs (l ++ [.event e])).filter P = (evs l).filter P := by
  simp [evs_append, h]
theorem filter_evs_app' {P : News → Bool} {e : News} (h : P e = true) (l : List Fr) : (evs (l ++ [.event e])).filter P = (evs l).filter P ++ [e] := by
  simp [evs_append, h]

theorem tell_fresh {x : Cli} {e : News} (h : outrun (x.told 0) e = false) : (x.tell 0 e).told 0 = x.told 0 ++ [e] ∧ (x.tell 0 e).log = x.log ++ [⟨0, 0, e.ev⟩] := by
  simp [Cli.tell, h]
theorem tell_filter {P : News → Bool} {x : Cli} {e : News} (h : P e = false) : ((x.tell 0 e).told 0).filter P = (x.told 0).filter P := by
  unfold Cli.tell; split
  · rfl
  · simp [h]

/-- What was told and what is on its way rises: so what comes next is not outrun. -/
theorem not_outrun (W : Flow σ A F E) {c : Nat} {l : List Tst} (hF : F c = some l) {p : Nat} {e : News} (hp : e.ev.pub = p) {rest : List News} (he : ((σ.cl c).told 0).filter (isOf p l) ++ e :: rest = E.filter (isOf p l)) : outrun ((σ.cl c).told 0) e = false := by
  cases ho : outrun ((σ.cl c).told 0) e with
  | false => rfl
  | true =>
    simp only [outrun, List.any_eq_true, decide_eq_true_eq] at ho
    obtain ⟨o, hm, h1, _, h3⟩ := ho
    have hmt := (W.told c l o hF hm).2
    have hin : o ∈ ((σ.cl c).told 0).filter (isOf p l) := List.mem_filter.2 ⟨hm, by simp [isOf, h1, hp, hmt]⟩
    have hinc := W.inc.filter (isOf p l)
    rw [← he, List.pairwise_append] at hinc
    have := hinc.2.2 o hin e (List.mem_cons_self ..) h1
    omega

/-- A frame is handled. -/
theorem Flow.del (W : Flow σ A F E) (a b : Int) : Flow (σ.del a b) A F E := by
  have G' := (W.good.del a b).1
  have T := W.good.tree
  unfold Net.del at G' ⊢
  split
  · rename_i he
    split
    · rename_i f r hq
      rw [if_pos he, hq] at G'
      simp only at G'
      have hn := W.good.nbr _ _ (by rw [hq]; simp : σ.q a.toNat b.toNat ≠ [])
      generalize a.toNat = x at *
      generalize b.toNat = y at *
      obtain ⟨e, b0, p, rfl, heE, hp, hA, hyb, hx⟩ := W.fr x y f (by rw [hq]; exact List.mem_cons_self ..)
      obtain ⟨p', hp4, hp', _, _, _⟩ := W.ev e heE
      have : p' = p := by omega
      subst this
      have hb0 := W.at_lt hp4 hA
      have hxy := near_lt T hn
      have hyn : y < σ.n := hxy.2
      have hxney : x ≠ y := near_ne T hn
      obtain ⟨σ0, hσ0⟩ : ∃ σ0 : Net, σ0 = { σ with q := put2 σ.q x y r } := ⟨_, rfl⟩
      have hG0 : Good σ0 := by rw [hσ0]; exact W.good.pop hq
      have W0 : Facts σ0 A F y := by subst hσ0; have := W.facts hyn; exact ⟨this.odd, this.off, this.on, this.here, this.far⟩
      have hlt : ∀ c l h, F c = some l → A c = some h → h < σ.n := fun c l h h1 h2 => W.at_lt (W.on_lt h1) h2
      have hK := happens_keeps W0 e (some x)
      have hT := fun z => mem_targets W0 (by subst hσ0; exact T) (by subst hσ0; exact hlt) (by subst hσ0; exact hyn) e (some x) z
      simp only [Net.handle] at G' ⊢
      rw [← hσ0] at G' ⊢
      obtain ⟨τ, hτ⟩ : ∃ τ, τ = σ0.happens y e (some x) := ⟨_, rfl⟩
      rw [← hτ] at G' hK ⊢
      obtain ⟨k1, k2, k3, k4, k5⟩ := hK
      have hpar : τ.par = σ.par := by rw [k1, hσ0]
      have hcl0 : ∀ c, σ0.cl c = σ.cl c := fun c => by rw [hσ0]
      have hkn : τ.kn = σ.kn := by rw [k3, hσ0]
      have hT' : ∀ z, z ∈ σ0.targets y e (some x) ↔ z ≠ x ∧ ∃ c l h, F c = some l ∧ A c = some h ∧ y ≠ h ∧ z = next σ.par y h ∧ meets l e.ev = true := by
        intro z; rw [hT z]; subst hσ0; simp
      have hqo : ∀ u v, u ≠ y → ¬ (u = x ∧ v = y) → τ.q u v = σ.q u v := fun u v h1 h2 => by
        rw [k5, if_neg (fun h => h1 h.1), hσ0]; exact put2_other _ _ h2
      have hqx : τ.q x y = r := by rw [k5, if_neg (fun h => hxney h.1), hσ0]; simp
      have hqy : ∀ v, τ.q y v = if v ∈ σ0.targets y e (some x) then σ.q y v ++ [.event e] else σ.q y v := fun v => by
        rw [k5]
        have : σ0.q y v = σ.q y v := by rw [hσ0]; exact put2_other _ _ (fun h => hxney h.1.symm)
        simp [this]
      -- for each subscription
      have key : ∀ c l h, F c = some l → A c = some h → meets l e.ev = true →
          (hit A F y e c = true → outrun ((σ.cl c).told 0) e = false) ∧ ((τ.cl c).told 0).filter (isOf p' l) ++ chain τ (isOf p' l) h (dist σ.par b0 h) b0 = E.filter (isOf p' l) := by
        intro c l h hF hA' hm
        have hh := W.at_lt (W.on_lt hF) hA'
        have hP : isOf p' l e = true := by simp [isOf, hp, hm]
        have hE := W.eq p' c l h b0 hp4 hF hA' hA
        have hhit : hit A F y e c = decide (y = h) := by simp [hit, hF, hA', hm, eq_comm]
        by_cases py : Path σ.par b0 h y
        · rcases py.pred T hb0 hh with e1 | ⟨t, pt, hth, hyt, _, hnt⟩
          · exact absurd e1 hyb
          · rw [← hx] at hnt
            subst hnt
            have hs := next_step T hxy.1 hh hth
            rw [← hyt] at hs
            obtain ⟨tail, htail⟩ := chain_split (P := isOf p' l) T hb0 hh pt
            have c1 := htail σ rfl (fun _ _ _ => rfl)
            have c2 := htail τ hpar (fun u hu hd => by
              rw [hqo u _ (fun e => by subst e; omega) (fun e => by rw [e.1] at hd; omega)])
            have hxd : dist σ.par x h = dist σ.par y h + 1 := hs.2.2
            rw [hxd] at c1 c2
            simp only [chain, hpar, ← hyt, hq, hqx, evs_event, List.filter_cons_of_pos hP] at c1 c2
            by_cases e1 : y = h
            · subst e1
              simp only [dist_self, chain, List.nil_append] at c1 c2
              have hor : outrun ((σ.cl c).told 0) e = false := not_outrun W hF hp (rest := (evs r).filter (isOf p' l) ++ tail) (by rw [← hE, c1]; simp)
              refine ⟨fun _ => hor, ?_⟩
              rw [k4, hcl0, hhit, if_pos (by simp), (tell_fresh hor).1, c2, ← hE, c1]
              simp [hP]
            · refine ⟨fun h' => (by rw [hhit] at h'; simp [e1] at h'), ?_⟩
              have hs2 := next_step T hyn hh e1
              have hzx : next σ.par y h ≠ x := fun e2 => by rw [e2] at hs2; omega
              have hin : next σ.par y h ∈ σ0.targets y e (some x) := (hT' _).2 ⟨hzx, c, l, h, hF, hA', e1, rfl, hm⟩
              have c3 : chain τ (isOf p' l) h (dist σ.par y h) y = chain σ (isOf p' l) h (dist σ.par y h) y ++ [e] := by
                rw [hs2.2.2]
                simp only [chain, hpar]
                rw [hqy, if_pos hin, filter_evs_app' hP, chain_congr hpar T hh _ _ hs2.2.1 rfl (fun w hw hwh hd => by
                  rw [hqo w _ (fun e => by subst e; omega) (fun e => by rw [e.1] at hd; omega)])]
                simp
              rw [k4, hcl0, hhit, if_neg (by simp [e1]), c2, c3, ← hE, c1]
              simp
        · have hyh : y ≠ h := fun e1 => py (by rw [e1]; exact Path.home T hb0 hh _ b0 rfl .start)
          refine ⟨fun h' => (by rw [hhit] at h'; simp [hyh] at h'), ?_⟩
          rw [k4, hcl0, hhit, if_neg (by simp [hyh]), chain_congr_path hpar T hb0 hh (fun w pw hw => by
            have hwy : w ≠ y := fun e1 => py (e1 ▸ pw)
            rw [hqo w _ hwy (fun e1 => py (by have := Path.step pw hw; rw [e1.2] at this; exact this))]) _ _ .start rfl]
          exact hE
      have hfresh : ∀ c l, F c = some l → hit A F y e c = true → outrun ((σ.cl c).told 0) e = false ∧ meets l e.ev = true := by
        intro c l hF hh
        have hh' := hh
        simp only [hit, hF, Bool.and_eq_true, decide_eq_true_eq] at hh'
        exact ⟨(key c l y hF hh'.1 hh'.2).1 hh, hh'.2⟩
      refine ⟨⟨G', by rw [k2, hσ0]; exact W.open_, fun c hc => ?_, by rw [hkn]; exact W.odd, by rw [hkn]; exact W.off, W.far⟩, ?_, fun u v g hg => ?_, fun e' h' => ?_, W.inc, fun c l e' hF he' => ?_, fun q c l h b hq4 hF hA' hAq => ?_, fun c l hF => ?_⟩
      · rw [k4, hcl0]
        split
        · exact (W.cl c hc).tell 0 e
        · exact W.cl c hc
      · rw [hkn, hpar]
        simp only [Net.n, hpar]
        exact W.on
      · rw [hpar]
        have hcase : g ∈ σ.q u v ∨ (u = y ∧ v ∈ σ0.targets y e (some x) ∧ g = .event e) := by
          by_cases e1 : u = y
          · subst e1
            rw [hqy] at hg
            split at hg
            · rename_i hv
              rw [List.mem_append, List.mem_singleton] at hg
              rcases hg with hg | hg
              · exact Or.inl hg
              · exact Or.inr ⟨rfl, hv, hg⟩
            · exact Or.inl hg
          · by_cases e2 : u = x ∧ v = y
            · obtain ⟨rfl, rfl⟩ := e2
              rw [hqx] at hg
              exact Or.inl (by rw [hq]; exact List.mem_cons_of_mem _ hg)
            · rw [hqo u v e1 e2] at hg; exact Or.inl hg
        rcases hcase with hg | ⟨rfl, hv, rfl⟩
        · exact W.fr u v g hg
        · obtain ⟨hvx, c, l, h, hF, hA', hyh, rfl, _⟩ := (hT' v).1 hv
          have hs := next_step T hyn (hlt c l h hF hA') hyh
          have ho := outward T hs.1 hb0 (by rw [← hx]; exact hvx)
          exact ⟨e, b0, p', rfl, heE, hp, hA, ho.1, ho.2.symm⟩
      · obtain ⟨p2, q1, q2, q3, q4, q5⟩ := W.ev e' h'
        refine ⟨p2, q1, q2, q3, q4, ?_⟩
        rw [k4, hcl0]
        split
        · rw [tell_many]; exact q5
        · exact q5
      · rw [k4, hcl0] at he'
        split at he'
        · rename_i hh
          obtain ⟨h1, h2⟩ := hfresh c l hF hh
          rw [(tell_fresh h1).1, List.mem_append, List.mem_singleton] at he'
          rcases he' with he' | rfl
          · exact W.told c l e' hF he'
          · exact ⟨heE, h2⟩
        · exact W.told c l e' hF he'
      · rw [hpar]
        by_cases hP : isOf q l e = true
        · have hm : meets l e.ev = true := by simp only [isOf, Bool.and_eq_true] at hP; exact hP.2
          have hqp : q = p' := by simp only [isOf, Bool.and_eq_true, decide_eq_true_eq] at hP; omega
          subst hqp
          rw [hA] at hAq; cases hAq
          exact (key c l h hF hA' hm).2
        · have hP : isOf q l e = false := by simpa using hP
          have hE := W.eq q c l h b hq4 hF hA' hAq
          have hh := W.at_lt (W.on_lt hF) hA'
          have hb := W.at_lt hq4 hAq
          have c1 : chain τ (isOf q l) h (dist σ.par b h) b = chain σ (isOf q l) h (dist σ.par b h) b := chain_congr hpar T hh _ _ hb rfl (fun w hw _ _ => by
            by_cases e1 : w = y
            · subst e1
              rw [hqy]
              split
              · rw [filter_evs_app hP]
              · rfl
            · by_cases e2 : w = x ∧ next σ.par w h = y
              · rw [e2.2, e2.1, hqx, hq]; simp [hP]
              · rw [hqo w _ e1 e2])
          rw [c1, ← hE, k4, hcl0]
          split
          · rw [tell_filter hP]
          · rfl
      · rw [k4, hcl0]
        split
        · rename_i hh
          obtain ⟨h1, _⟩ := hfresh c l hF hh
          rw [(tell_fresh h1).1, (tell_fresh h1).2, W.log c l hF]
          simp
        · exact W.log c l hF
    · exact W
  · exact W

/-- An event is published. -/
theorem Flow.pub (W : Flow σ A F E) {p : Nat} (hp4 : p < 4) {b : Nat} (hA : A p = some b) (hfull : σ.full = false) (f0 f1 f2 : Int) :
    σ.pubE p = 0 ∧ σ.pubA p = (σ.cl p).many + 1 ∧ (∀ c, ((σ.pub p f0 f1 f2).cl c).many = if c = p then (σ.cl p).many + 1 else (σ.cl c).many) ∧ Flow (σ.pub p f0 f1 f2) A F (E ++ [⟨⟨p, (σ.cl p).many + 1, f0, f1, f2⟩, 1⟩]) := by
  have T := W.good.tree
  have C := W.cl p hp4
  have hhere : (σ.cl p).here = some b := C.here.trans hA
  have hE0 : σ.pubE p = 0 := by simp [Net.pubE, Net.asked, W.open_, isCli_nat hp4, hhere, hfull]
  have hb := W.at_lt hp4 hA
  obtain ⟨e, he⟩ : ∃ e : News, e = ⟨⟨p, (σ.cl p).many + 1, f0, f1, f2⟩, 1⟩ := ⟨_, rfl⟩
  have hst : (σ.cl p).stays = 1 := by rw [C.stays, hA]; simp
  obtain ⟨σ0, hσ0⟩ : ∃ σ0 : Net, σ0 = σ.setCl p { σ.cl p with many := (σ.cl p).many + 1 } := ⟨_, rfl⟩
  have hτ0 : σ.pub p f0 f1 f2 = σ0.happens b e none := by
    have h1 : σ.pubEv p f0 f1 f2 = e := by rw [he]; simp only [Net.pubEv, toNat_nat, hst]
    simp only [Net.pub, hE0, if_true, toNat_nat]
    rw [h1, hσ0]
    split
    · rename_i b' hb'
      rw [hhere] at hb'; cases hb'; rfl
    · rename_i hb'
      rw [hhere] at hb'; cases hb'
  rw [← he, hτ0]
  have hcl0 : ∀ c, (σ0.cl c).told = (σ.cl c).told ∧ (σ0.cl c).log = (σ.cl c).log ∧ (σ0.cl c).many = if c = p then (σ.cl p).many + 1 else (σ.cl c).many := fun c => by
    by_cases h : c = p
    · subst h; rw [hσ0]; simp [Net.setCl]
    · rw [hσ0]; simp [Net.setCl, put_other _ _ h, h]
  have hC0 : ∀ c, c < 4 → CliAt (σ0.cl c) (A c) (F c) := fun c hc => by
    by_cases h : c = p
    · subst h; rw [hσ0]; simp only [Net.setCl, put_same]; exact ⟨C.here, C.home, C.used0, C.used1, C.fil, C.age, C.stays⟩
    · rw [hσ0]; simp only [Net.setCl, put_other _ _ h]; exact W.cl c hc
  have hG0 : Good σ0 := by
    rw [hσ0]; exact W.good.setCl ⟨(W.good.clis p hp4).here, (W.good.clis p hp4).home, (W.good.clis p hp4).fil⟩
  have W0 : Facts σ0 A F b := by
    have := W.facts hb
    exact ⟨by rw [hσ0]; exact this.odd, by rw [hσ0]; exact this.off, by rw [hσ0]; exact this.on, fun c hc => (hC0 c hc).here, this.far⟩
  have hlt : ∀ c l h, F c = some l → A c = some h → h < σ.n := fun c l h h1 h2 => W.at_lt (W.on_lt h1) h2
  have hK := happens_keeps W0 e none
  have hT := fun z => mem_targets W0 (by rw [hσ0]; exact T) (by rw [hσ0]; exact hlt) (by rw [hσ0]; exact hb) e none z
  have G' := hG0.happens b e none
  obtain ⟨τ, hτ⟩ : ∃ τ, τ = σ0.happens b e none := ⟨_, rfl⟩
  rw [← hτ] at G' hK ⊢
  obtain ⟨k1, k2, k3, k4, k5⟩ := hK
  have hpar : τ.par = σ.par := by rw [k1, hσ0]; rfl
  have hkn : τ.kn = σ.kn := by rw [k3, hσ0]; rfl
  have hq0 : σ0.q = σ.q := by rw [hσ0]; rfl
  have hT' : ∀ z, z ∈ σ0.targets b e none ↔ ∃ c l h, F c = some l ∧ A c = some h ∧ b ≠ h ∧ z = next σ.par b h ∧ meets l e.ev = true := by
    intro z; rw [hT z]; rw [hσ0]; simp [Net.setCl]
  have hqo : ∀ u v, u ≠ b → τ.q u v = σ.q u v := fun u v h1 => by rw [k5, if_neg (fun h => h1 h.1), hq0]
  have hqb : ∀ v, τ.q b v = if v ∈ σ0.targets b e none then σ.q b v ++ [.event e] else σ.q b v := fun v => by rw [k5, hq0]; simp
  have hpub : e.ev.pub = (p : Int) := by rw [he]
  have hnum : e.ev.num = (σ.cl p).many + 1 := by rw [he]
  have hfresh : ∀ c l, F c = some l → outrun ((σ0.cl c).told 0) e = false := fun c l hF => by
    rw [(hcl0 c).1]
    cases ho : outrun ((σ.cl c).told 0) e with
    | false => rfl
    | true =>
      simp only [outrun, List.any_eq_true, decide_eq_true_eq] at ho
      obtain ⟨o, hm, h1, _, h3⟩ := ho
      obtain ⟨q, _, q2, _, _, q5⟩ := W.ev o (W.told c l o hF hm).1
      have : q = p := by omega
      subst this; omega
  have hmany : ∀ c, (τ.cl c).many = if c = p then (σ.cl p).many + 1 else (σ.cl c).many := fun c => by
    rw [k4]
    split
    · rw [tell_many]; exact (hcl0 c).2.2
    · exact (hcl0 c).2.2
  refine ⟨hE0, by simp [Net.pubA, hE0], hmany, ⟨G', by rw [k2, hσ0]; exact W.open_, fun c hc => ?_, by rw [hkn]; exact W.odd, by rw [hkn]; exact W.off, W.far⟩, ?_, fun u v g hg => ?_, fun e' h' => ?_, ?_, fun c l e' hF he' => ?_, fun q c l h b' hq4 hF hA' hAq => ?_, fun c l hF => ?_⟩
  · rw [k4]
    split
    · exact (hC0 c hc).tell 0 e
    · exact hC0 c hc
  · rw [hkn, hpar]
    simp only [Net.n, hpar]
    exact W.on
  · rw [hpar]
    have hcase : g ∈ σ.q u v ∨ (u = b ∧ v ∈ σ0.targets b e none ∧ g = .event e) := by
      by_cases e1 : u = b
      · subst e1
        rw [hqb] at hg
        split at hg
        · rename_i hv
          rw [List.mem_append, List.mem_singleton] at hg
          rcases hg with hg | hg
          · exact Or.inl hg
          · exact Or.inr ⟨rfl, hv, hg⟩
        · exact Or.inl hg
      · rw [hqo u v e1] at hg; exact Or.inl hg
    rcases hcase with hg | ⟨rfl, hv, rfl⟩
    · obtain ⟨e', b', p', h1, h2, h3⟩ := W.fr u v g hg
      exact ⟨e', b', p', h1, List.mem_append_left _ h2, h3⟩
    · obtain ⟨c, l, h, hF, hA', hyh, rfl, _⟩ := (hT' v).1 hv
      have hs := next_step T hb (hlt c l h hF hA') hyh
      exact ⟨e, u, p, rfl, by simp, hpub, hA, (near_ne T hs.1).symm, (next_near T (by rw [near_comm]; exact hs.1)).symm⟩
  · rw [List.mem_append, List.mem_singleton] at h'
    rcases h' with h' | rfl
    · obtain ⟨p2, q1, q2, q3, q4, q5⟩ := W.ev e' h'
      refine ⟨p2, q1, q2, q3, q4, ?_⟩
      rw [hmany]
      split
      · rename_i h; subst h; omega
      · exact q5
    · exact ⟨p, hp4, hpub, by rw [hA]; simp, by rw [he], by rw [hmany]; simp [hnum]⟩
  · rw [List.pairwise_append]
    refine ⟨W.inc, List.pairwise_singleton _ _, fun o ho x hx => ?_⟩
    rw [List.mem_singleton] at hx
    subst hx
    intro h1
    obtain ⟨q, _, q2, _, _, q5⟩ := W.ev o ho
    have : q = p := by omega
    subst this; omega
  · rw [k4] at he'
    split at he'
    · rename_i hh
      rw [(tell_fresh (hfresh c l hF)).1, (hcl0 c).1, List.mem_append, List.mem_singleton] at he'
      rcases he' with he' | rfl
      · exact ⟨List.mem_append_left _ (W.told c l e' hF he').1, (W.told c l e' hF he').2⟩
      · simp only [hit, hF, Bool.and_eq_true] at hh
        exact ⟨by simp, hh.2⟩
    · rw [(hcl0 c).1] at he'
      exact ⟨List.mem_append_left _ (W.told c l e' hF he').1, (W.told c l e' hF he').2⟩
  · rw [hpar, List.filter_append]
    have hE := W.eq q c l h b' hq4 hF hA' hAq
    have hh := W.at_lt (W.on_lt hF) hA'
    have hb' := W.at_lt hq4 hAq
    by_cases hP : isOf q l e = true
    · have hm : meets l e.ev = true := by simp only [isOf, Bool.and_eq_true] at hP; exact hP.2
      have hqp : q = p := by simp only [isOf, Bool.and_eq_true, decide_eq_true_eq] at hP; omega
      subst hqp
      rw [hA] at hAq; cases hAq
      have hhit : hit A F b e c = decide (b = h) := by simp [hit, hF, hA', hm, eq_comm]
      by_cases e1 : b = h
      · subst e1
        rw [k4, hhit, if_pos (by simp), (tell_fresh (hfresh c l hF)).1, (hcl0 c).1, ← hE]
        simp [chain, hP]
      · rw [k4, hhit, if_neg (by simp [e1]), (hcl0 c).1, ← hE]
        have hs2 := next_step T hb hh e1
        have hin : next σ.par b h ∈ σ0.targets b e none := (hT' _).2 ⟨c, l, h, hF, hA', e1, rfl, hm⟩
        rw [hs2.2.2]
        simp only [chain, hpar]
        rw [hqb, if_pos hin, filter_evs_app' hP, chain_congr hpar T hh _ _ hs2.2.1 rfl (fun w hw hwh hd => by
          rw [hqo w _ (fun e => by subst e; omega)])]
        simp [hP]
    · have hP : isOf q l e = false := by simpa using hP
      have c1 : chain τ (isOf q l) h (dist σ.par b' h) b' = chain σ (isOf q l) h (dist σ.par b' h) b' := chain_congr hpar T hh _ _ hb' rfl (fun w hw _ _ => by
        by_cases e1 : w = b
        · subst e1
          rw [hqb]
          split
          · rw [filter_evs_app hP]
          · rfl
        · rw [hqo w _ e1])
      rw [c1, ← hE, k4]
      split
      · rw [tell_filter hP, (hcl0 c).1]; simp [hP]
      · rw [(hcl0 c).1]; simp [hP]
  · rw [k4]
    split
    · rw [(tell_fresh (hfresh c l hF)).1, (tell_fresh (hfresh c l hF)).2, (hcl0 c).1, (hcl0 c).2.1, W.log c l hF]
      simp
    · rw [(hcl0 c).1, (hcl0 c).2.1]; exact W.log c l hF
end
end Go.Proofs.Ytlpknnoacpfnnaa

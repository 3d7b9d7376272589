/-
  WHAT ALL BROKERS KNEW OF MISSES NOTHING: for who is here, and does not wait, nothing is kept; who waits has lost nothing.
-/
import Derived.Test.YtodfcpblcpogiaaOvs
import Derived.Test.YtodfcpblcpogiaaFlow2
namespace Go.Proofs.Ytodfcpblcpogiaa

def adjCheck (par : List Nat) : Bool :=
  (List.range (size par)).all fun v => (List.range (size par)).all fun a => (List.range (size par)).all fun b => !near par a b || v == a || v == b || next par v a == next par v b
set_option maxRecDepth 100000 in
theorem forest_adj : (forest.all fun par => adjCheck par) = true := by decide +kernel
/-- Two neighbours lie on one side of a third. -/
theorem adj {par : List Nat} (T : Tree par) {v a b : Nat} (hv : v < size par) (hn : near par a b = true) (h1 : v ≠ a) (h2 : v ≠ b) : next par v a = next par v b := by
  have h := List.all_eq_true.1 forest_adj par T.mem
  have hab := near_lt T hn
  have := all_range (all_range (all_range h hv) hab.1) hab.2
  simp only [hn, Bool.not_true, Bool.false_or, Bool.or_eq_true, beq_iff_eq] at this
  rcases this with (e | e) | e
  · exact absurd e h1
  · exact absurd e h2
  · exact e

/-- u is on the path from o. -/
inductive Anc (par : List Nat) (o u : Nat) : Nat → Prop
  | refl : Anc par o u u
  | step {w : Nat} : w ≠ o → Anc par o u (next par w o) → Anc par o u w

section
variable {par : List Nat} (T : Tree par) {o : Nat} (ho : o < size par)

theorem Anc.trans {u v w : Nat} (h : Anc par o u v) (k : Anc par o v w) : Anc par o u w := by
  induction k with
  | refl => exact h
  | step hne _ ih => exact .step hne ih

include T ho
theorem up_step {w : Nat} (hw : w < size par) (hne : w ≠ o) : near par (next par w o) w = true ∧ next par w o < size par ∧ dist par w o = dist par (next par w o) o + 1 := by
  have h := next_step T hw ho hne
  exact ⟨by rw [near_comm]; exact h.1, h.2.1, h.2.2⟩
theorem Anc.dist {u w : Nat} (h : Anc par o u w) (hw : w < size par) : dist par u o ≤ dist par w o := by
  induction h with
  | refl => exact Nat.le_refl _
  | step hne _ ih => have := up_step T ho hw hne; have := ih this.2.1; omega
theorem Anc.lt {u w : Nat} (h : Anc par o u w) (hw : w < size par) : u < size par := by
  induction h with
  | refl => exact hw
  | step hne _ ih => exact ih (up_step T ho hw hne).2.1
theorem Anc.same {u w : Nat} (h : Anc par o u w) (hw : w < size par) (hd : Go.Proofs.Ytodfcpblcpogiaa.dist par u o = Go.Proofs.Ytodfcpblcpogiaa.dist par w o) : u = w := by
  cases h with
  | refl => rfl
  | step hne h' =>
    have h1 := up_step T ho hw hne
    have h2 := h'.dist T ho h1.2.1
    omega
theorem Anc.root : ∀ (k w : Nat), Go.Proofs.Ytodfcpblcpogiaa.dist par w o = k → w < size par → Anc par o o w
  | 0, w, hk, hw => by
    by_cases e : w = o
    · subst e; exact .refl
    · have := dist_pos (par := par) e; omega
  | k + 1, w, hk, hw => by
    have hne : w ≠ o := fun e => by subst e; simp at hk
    have h1 := up_step T ho hw hne
    exact .step hne (Anc.root k _ (by omega) h1.2.1)
omit T ho in
/-- Of two that are ahead of a third one is ahead of the other. -/
theorem Anc.total {u v w : Nat} (hu : Anc par o u w) (hv : Anc par o v w) : Anc par o u v ∨ Anc par o v u := by
  induction hu with
  | refl => exact Or.inr hv
  | step hne h' ih =>
    cases hv with
    | refl => exact Or.inl (.step hne h')
    | step _ hv' => exact ih hv'
/-- The way on. -/
theorem Anc.on {v m : Nat} (h : Anc par o v m) (hm : m < size par) (hne : v ≠ m) : next par v m ≠ o ∧ next par (next par v m) o = v ∧ Anc par o (next par v m) m ∧ next par v m < size par := by
  induction h with
  | refl => exact absurd rfl hne
  | step hwo h' ih =>
    rename_i w
    have h1 := up_step T ho hm hwo
    have hv : v < size par := h'.lt T ho h1.2.1
    by_cases e : v = next par w o
    · subst e
      have h2 : next par (next par w o) w = w := next_near T h1.1
      rw [h2]
      exact ⟨hwo, rfl, .refl, hm⟩
    · obtain ⟨g1, g2, g3, g4⟩ := ih h1.2.1 e
      have h3 : next par v w = next par v (next par w o) := (adj T hv h1.1 e hne).symm
      rw [h3]
      exact ⟨g1, g2, .step hwo g3, g4⟩
end

/-! ### sides -/
section
variable {par : List Nat} (T : Tree par) {o x y : Nat} (ho : o < size par) (hn : near par x y = true)
include T ho hn
/-- y is behind x: beyond the link lies what is behind y. -/
theorem side_anc (hyo : y ≠ o) (hy : next par y o = x) {z : Nat} (hz : z < size par) : ySide par x y z ↔ Anc par o y z := by
  have hxy := near_lt T hn
  have hup := up_step T ho hxy.2 hyo
  rw [hy] at hup
  constructor
  · have key : ∀ (k z : Nat), dist par z o = k → z < size par → ySide par x y z → Anc par o y z := by
      intro k
      induction k with
      | zero =>
        intro z hk hz h
        exfalso
        have hzo : z = o := by
          by_cases e : z = o
          · exact e
          · have := dist_pos (par := par) e; omega
        subst hzo
        have h1 := next_step T hxy.1 ho (fun e => h.1 e.symm)
        rw [h.2] at h1
        omega
      | succ k ih =>
        intro z hk hz h
        by_cases e : z = y
        · subst e; exact .refl
        · have hzo : z ≠ o := fun e => by subst e; simp at hk
          have h1 := up_step T ho hz hzo
          have hzx : next par z o ≠ x := fun e2 => by
            rw [e2] at h1
            have h2 := next_near T h1.1
            rw [h.2] at h2
            exact e h2.symm
          refine .step hzo (ih _ (by omega) h1.2.1 ⟨hzx, ?_⟩)
          rw [adj T hxy.1 h1.1 (fun e2 => hzx e2.symm) (fun e2 => h.1 e2.symm)]
          exact h.2
    exact fun h => key _ z rfl hz h
  · intro h
    induction h with
    | refl => exact ySide_self T hn
    | step hzo h' ih =>
      rename_i z
      have h1 := up_step T ho hz hzo
      have h2 := ih h1.2.1
      have h3 := h'.dist T ho h1.2.1
      have hzx : z ≠ x := fun e => by subst e; omega
      refine ⟨hzx, ?_⟩
      rw [← adj T hxy.1 h1.1 (fun e => h2.1 e.symm) (fun e => hzx e.symm)]
      exact h2.2
/-- Which of the two is behind the other. -/
theorem side_root : (¬ ySide par x y o → y ≠ o ∧ next par y o = x) ∧ (ySide par x y o → x ≠ o ∧ next par x o = y) := by
  have hxy := near_lt T hn
  refine ⟨fun h => ?_, fun h => ⟨fun e => h.1 e.symm, h.2⟩⟩
  by_cases e : o = x
  · subst e
    have hne := near_ne T hn
    exact ⟨fun e => hne e.symm, next_near T (by rw [near_comm]; exact hn)⟩
  · have h1 : next par x o ≠ y := fun e2 => h ⟨e, e2⟩
    have h2 := outward T hn ho (fun e2 => h1 e2.symm)
    exact h2
theorem side_other {z : Nat} (hz : z < size par) (hxo : x ≠ o) (hx : next par x o = y) : ySide par x y z ↔ ¬ Anc par o x z := by
  have hxy := near_lt T hn
  have hn' : near par y x = true := by rw [near_comm]; exact hn
  rw [← side_anc (x := y) (y := x) T ho hn' hxo hx hz]
  constructor
  · intro h1 h2
    have g1 := next_step T hxy.1 hz (fun e => h1.1 e.symm)
    have g2 := next_step T hxy.2 hz (fun e => h2.1 e.symm)
    rw [h1.2] at g1
    rw [h2.2] at g2
    omega
  · intro h
    by_cases e : z = x
    · exfalso; subst e; exact h (ySide_self T hn')
    · refine ⟨e, ?_⟩
      by_cases ezy : z = y
      · subst ezy; exact next_near T hn
      · rcases turn T hn hz with h2 | h2
        · exact h2
        · exact absurd ⟨ezy, h2⟩ h
end

def qP (σ : Net) (P : News → Bool) (u v : Nat) : List News := (evs (σ.q u v)).filter P
def chnF (σ : Net) (P : News → Bool) (o u : Nat) : Nat → Nat → List News
  | 0, _ => []
  | k + 1, m => if m = u then [] else qP σ P (next σ.par m o) m ++ chnF σ P o u k (next σ.par m o)
/-- What is on its way from o, behind u, up to m; the first to come first. -/
def chn (σ : Net) (P : News → Bool) (o u m : Nat) : List News := chnF σ P o u (dist σ.par m o) m

section
variable {σ τ : Net} {P : News → Bool} {o u : Nat}
theorem chn_self (m : Nat) : chn σ P o m m = [] := by
  unfold chn
  cases dist σ.par m o with
  | zero => rfl
  | succ k => simp [chnF]
theorem chn_root (u : Nat) : chn σ P o u o = [] := by unfold chn; rw [dist_self]; rfl
theorem chn_up (T : Tree σ.par) (ho : o < σ.n) {m : Nat} (hm : m < σ.n) (hmo : m ≠ o) (hmu : m ≠ u) : chn σ P o u m = qP σ P (next σ.par m o) m ++ chn σ P o u (next σ.par m o) := by
  have h := up_step T ho hm hmo
  unfold chn
  rw [h.2.2]
  simp [chnF, hmu]
theorem chn_split (T : Tree σ.par) (ho : o < σ.n) {v m : Nat} (hm : m < σ.n) (huv : Anc σ.par o u v) (hvm : Anc σ.par o v m) : chn σ P o u m = chn σ P o v m ++ chn σ P o u v := by
  induction hvm with
  | refl => rw [chn_self]; rfl
  | step hmo h' ih =>
    rename_i m
    have h1 := up_step T ho hm hmo
    have hv := h'.dist T ho h1.2.1
    have hvl := h'.lt T ho h1.2.1
    have hu := huv.dist T ho hvl
    have hmu : m ≠ u := fun e => by subst e; omega
    have hmv : m ≠ v := fun e => by subst e; omega
    rw [chn_up T ho hm hmo hmu, chn_up T ho hm hmo hmv, ih h1.2.1, List.append_assoc]
theorem chn_congr (T : Tree σ.par) (ho : o < σ.n) (hp : τ.par = σ.par) {m : Nat} (hm : m < σ.n) (hum : Anc σ.par o u m) (H : ∀ c, Anc σ.par o c m → Anc σ.par o u c → c ≠ u → c ≠ o → qP τ P (next σ.par c o) c = qP σ P (next σ.par c o) c) : chn τ P o u m = chn σ P o u m := by
  have Tτ : Tree τ.par := by rw [hp]; exact T
  have hn : τ.n = σ.n := by unfold Net.n; rw [hp]
  induction hum with
  | refl => rw [chn_self, chn_self]
  | step hmo h' ih =>
    rename_i m
    have h1 := up_step T ho hm hmo
    have hd := h'.dist T ho h1.2.1
    have hmu : m ≠ u := fun e => by subst e; omega
    rw [chn_up T ho hm hmo hmu, chn_up Tτ (by rw [hn]; exact ho) (by rw [hn]; exact hm) hmo hmu, hp, H m .refl (.step hmo h') hmu hmo, ih h1.2.1 (fun c hc => H c (.step hmo hc))]
theorem qP_mem {u v : Nat} {e : News} : e ∈ qP σ P u v ↔ Fr.event e ∈ σ.q u v ∧ P e = true := by
  unfold qP evs
  rw [List.mem_filter, List.mem_filterMap]
  constructor
  · rintro ⟨⟨f, h1, h2⟩, h3⟩
    cases f with
    | event e' => cases h2; exact ⟨h1, h3⟩
    | sub => cases h2
    | unsub => cases h2
    | move => cases h2
    | rest => cases h2
  · rintro ⟨h1, h2⟩
    exact ⟨⟨_, h1, rfl⟩, h2⟩
theorem chn_mem (T : Tree σ.par) (ho : o < σ.n) {m : Nat} (hm : m < σ.n) (hum : Anc σ.par o u m) {e : News} (he : e ∈ chn σ P o u m) : ∃ c, Anc σ.par o c m ∧ Anc σ.par o u c ∧ c ≠ u ∧ c ≠ o ∧ e ∈ qP σ P (next σ.par c o) c := by
  induction hum with
  | refl => rw [chn_self] at he; cases he
  | step hmo h' ih =>
    rename_i m
    have h1 := up_step T ho hm hmo
    have hd := h'.dist T ho h1.2.1
    have hmu : m ≠ u := fun e => by subst e; omega
    rw [chn_up T ho hm hmo hmu, List.mem_append] at he
    rcases he with he | he
    · exact ⟨m, .refl, .step hmo h', hmu, hmo, he⟩
    · obtain ⟨c, g1, g2⟩ := ih h1.2.1 he
      exact ⟨c, .step hmo g1, g2⟩
end

/-! ### nothing is missing, nothing comes out of its order -/
/-- S: what has come (told, and what is kept), C: what is on its way, L: what was lost. -/
structure Whole (P : News → Bool) (Rq L S C : List News) : Prop where
  all : ∀ e, e ∈ Rq → e ∈ L ∨ e ∈ S ++ C
  ord : ∀ A d B, S ++ C = A ++ d :: B → ∀ e, e ∈ Rq → e.ev.num < d.ev.num → e ∈ L ∨ e ∈ A
  los : ∀ d, d ∈ L → P d = true → ∀ e, e ∈ Rq → e.ev.num < d.ev.num → e ∈ L ∨ e ∈ S

section
variable {P : News → Bool} {Rq L S C : List News} {e : News}
theorem Whole.of (W : Whole P Rq L S C) {S' C' : List News} (h : S' ++ C' = S ++ C) (hs : ∀ e, e ∈ S → e ∈ S') : Whole P Rq L S' C' :=
  ⟨by rw [h]; exact W.all, by rw [h]; exact W.ord, fun d hd hp e he hn => (W.los d hd hp e he hn).imp id (hs e)⟩
/-- The first that is on its way comes. -/
theorem Whole.come (W : Whole P Rq L S (e :: C)) : Whole P Rq L (S ++ [e]) C := W.of (by simp) (fun _ h => List.mem_append_left _ h)
/-- .. and is lost. -/
theorem Whole.lose (W : Whole P Rq L S (e :: C)) : Whole P Rq (e :: L) S C := by
  refine ⟨fun d hd => ?_, fun A d B h x hx hn => ?_, fun d hd hp x hx hn => ?_⟩
  · rcases W.all d hd with h | h
    · exact Or.inl (List.mem_cons_of_mem _ h)
    · rcases List.mem_append.1 h with h | h
      · exact Or.inr (List.mem_append_left _ h)
      · rcases List.mem_cons.1 h with rfl | h
        · exact Or.inl (List.mem_cons_self ..)
        · exact Or.inr (List.mem_append_right _ h)
  · -- where it stands
    rcases List.append_eq_append_iff.1 h with ⟨A', h1, h2⟩ | ⟨A', h1, h2⟩
    · -- A = S ++ A', it is in C
      have : S ++ (e :: C) = (S ++ e :: A') ++ d :: B := by rw [h2]; simp
      rcases W.ord _ _ _ this x hx hn with h3 | h3
      · exact Or.inl (List.mem_cons_of_mem _ h3)
      · rw [h1]
        rcases List.mem_append.1 h3 with h3 | h3
        · exact Or.inr (List.mem_append_left _ h3)
        · rcases List.mem_cons.1 h3 with rfl | h3
          · exact Or.inl (List.mem_cons_self ..)
          · exact Or.inr (List.mem_append_right _ h3)
    · cases A' with
      | nil =>
        simp only [List.append_nil, List.nil_append] at h1 h2
        have : S ++ (e :: C) = (S ++ [e]) ++ d :: B := by rw [← h2]; simp
        rcases W.ord _ _ _ this x hx hn with h3 | h3
        · exact Or.inl (List.mem_cons_of_mem _ h3)
        · rw [← h1]
          rcases List.mem_append.1 h3 with h3 | h3
          · exact Or.inr h3
          · rw [List.mem_singleton.1 h3]; exact Or.inl (List.mem_cons_self ..)
      | cons a A' =>
        simp only [List.cons_append, List.cons.injEq] at h2
        obtain ⟨rfl, h2⟩ := h2
        have : S ++ (e :: C) = A ++ d :: (A' ++ e :: C) := by rw [h1]; simp
        exact (W.ord _ _ _ this x hx hn).imp (List.mem_cons_of_mem _) id
  · rcases List.mem_cons.1 hd with rfl | hd
    · exact (W.ord S d C rfl x hx hn).imp (List.mem_cons_of_mem _) id
    · exact (W.los d hd hp x hx hn).imp (List.mem_cons_of_mem _) id
/-- What was told, or a later one, is left out. -/
theorem Whole.drop {A B : List News} (W : Whole P Rq L (A ++ e :: B) C) (ho : e ∈ Rq → e ∈ L ∨ e ∈ A) : Whole P Rq L (A ++ B) C := by
  have key : ∀ x, x ∈ Rq → x = e → x ∈ L ∨ x ∈ A := fun x hx hxe => by subst hxe; exact ho hx
  refine ⟨fun d hd => ?_, fun A1 d B1 h x hx hn => ?_, fun d hd hp x hx hn => ?_⟩
  · rcases W.all d hd with h | h
    · exact Or.inl h
    · by_cases hde : d = e
      · rcases key d hd hde with g | g
        · exact Or.inl g
        · exact Or.inr (by simp [g])
      · right
        simp only [List.mem_append, List.mem_cons] at h ⊢
        rcases h with (h | h | h) | h
        · exact Or.inl (Or.inl h)
        · exact absurd h hde
        · exact Or.inl (Or.inr h)
        · exact Or.inr h
  · have h' : A ++ (B ++ C) = A1 ++ d :: B1 := by rw [← List.append_assoc]; exact h
    rcases List.append_eq_append_iff.1 h' with ⟨A', h1, h2⟩ | ⟨A', h1, h2⟩
    · have : (A ++ e :: B) ++ C = (A ++ e :: A') ++ d :: B1 := by simp [h2]
      rcases W.ord _ _ _ this x hx hn with g | g
      · exact Or.inl g
      · rw [h1]
        rcases List.mem_append.1 g with g | g
        · exact Or.inr (List.mem_append_left _ g)
        · rcases List.mem_cons.1 g with g | g
          · exact (key x hx g).imp id (List.mem_append_left _)
          · exact Or.inr (List.mem_append_right _ g)
    · cases A' with
      | nil =>
        simp only [List.append_nil, List.nil_append] at h1 h2
        have : (A ++ e :: B) ++ C = (A ++ [e]) ++ d :: B1 := by simp [h2]
        rcases W.ord _ _ _ this x hx hn with g | g
        · exact Or.inl g
        · rw [← h1]
          rcases List.mem_append.1 g with g | g
          · exact Or.inr g
          · exact key x hx (List.mem_singleton.1 g)
      | cons a A' =>
        simp only [List.cons_append, List.cons.injEq] at h2
        obtain ⟨rfl, h2⟩ := h2
        have : (A ++ e :: B) ++ C = A1 ++ d :: (A' ++ e :: (B ++ C)) := by rw [h1]; simp
        exact W.ord _ _ _ this x hx hn
  · rcases W.los d hd hp x hx hn with g | g
    · exact Or.inl g
    · by_cases hxe : x = e
      · exact (key x hx hxe).imp id (List.mem_append_left _)
      · right
        simp only [List.mem_append, List.mem_cons] at g ⊢
        rcases g with g | g | g
        · exact Or.inl g
        · exact absurd g hxe
        · exact Or.inr g
/-- One more is published. -/
theorem Whole.pub (W : Whole P Rq L S C) (hS : ∀ d, d ∈ S ++ C → d.ev.num < e.ev.num) (hL : ∀ d, d ∈ L → P d = true → d.ev.num < e.ev.num) : Whole P (Rq ++ [e]) L S (C ++ [e]) := by
  refine ⟨fun d hd => ?_, fun A d B h x hx hn => ?_, fun d hd hp x hx hn => ?_⟩
  · rcases List.mem_append.1 hd with hd | hd
    · rcases W.all d hd with g | g
      · exact Or.inl g
      · right; rw [← List.append_assoc]; exact List.mem_append_left _ g
    · rw [List.mem_singleton.1 hd]; right; simp
  · rw [← List.append_assoc] at h
    rcases List.append_eq_append_iff.1 h with ⟨A', h1, h2⟩ | ⟨A', h1, h2⟩
    · -- it is the new one
      cases A' with
      | nil =>
        simp only [List.nil_append] at h2
        have : d = e := by cases h2; rfl
        subst this
        simp only [List.append_nil] at h1
        rcases List.mem_append.1 hx with hx | hx
        · rw [h1]; exact W.all x hx
        · rw [List.mem_singleton.1 hx] at hn; omega
      | cons a A' => simp at h2
    · cases A' with
      | nil =>
        simp only [List.append_nil, List.nil_append] at h1 h2
        have : d = e := by cases h2; rfl
        subst this
        rcases List.mem_append.1 hx with hx | hx
        · rw [← h1]; exact W.all x hx
        · rw [List.mem_singleton.1 hx] at hn; omega
      | cons a A' =>
        simp only [List.cons_append, List.cons.injEq] at h2
        obtain ⟨rfl, h2⟩ := h2
        have hd : d ∈ S ++ C := by rw [h1]; simp
        rcases List.mem_append.1 hx with hx | hx
        · exact W.ord _ _ _ h1 x hx hn
        · rw [List.mem_singleton.1 hx] at hn
          have := hS d hd
          omega
  · rcases List.mem_append.1 hx with hx | hx
    · exact W.los d hd hp x hx hn
    · rw [List.mem_singleton.1 hx] at hn
      have := hL d hd hp
      omega
/-- Others that have come, or are on another way, come in between. -/
theorem Whole.between {C1 C2 D1 D2 : List News} (W : Whole P Rq L S (C1 ++ C2)) (hD : ∀ d, d ∈ D1 ++ D2 → ∀ x, x ∈ Rq → x.ev.num < d.ev.num → x ∈ L ∨ x ∈ S ++ C1) : Whole P Rq L (S ++ C1 ++ D1) (D2 ++ C2) := by
  refine ⟨fun d hd => ?_, fun A d B h x hx hn => ?_, fun d hd hp x hx hn => ?_⟩
  · rcases W.all d hd with g | g
    · exact Or.inl g
    · right
      simp only [List.mem_append] at g ⊢
      rcases g with g | g | g
      · exact Or.inl (Or.inl (Or.inl g))
      · exact Or.inl (Or.inl (Or.inr g))
      · exact Or.inr (Or.inr g)
  · have h' : (S ++ C1) ++ ((D1 ++ D2) ++ C2) = A ++ d :: B := by rw [← h]; simp
    rcases List.append_eq_append_iff.1 h' with ⟨A', h1, h2⟩ | ⟨A', h1, h2⟩
    · -- behind S ++ C1
      rcases List.append_eq_append_iff.1 h2 with ⟨A2, h3, h4⟩ | ⟨A2, h3, h4⟩
      · -- in C2
        have : S ++ (C1 ++ C2) = ((S ++ C1) ++ A2) ++ d :: B := by rw [h4]; simp
        rcases W.ord _ _ _ this x hx hn with g | g
        · exact Or.inl g
        · right
          rw [h1, h3]
          simp only [List.mem_append] at g ⊢
          rcases g with (g | g) | g
          · exact Or.inl (Or.inl g)
          · exact Or.inl (Or.inr g)
          · exact Or.inr (Or.inr g)
      · cases A2 with
        | nil =>
          simp only [List.append_nil, List.nil_append] at h3 h4
          have : S ++ (C1 ++ C2) = (S ++ C1) ++ d :: B := by rw [← h4]; simp
          rcases W.ord _ _ _ this x hx hn with g | g
          · exact Or.inl g
          · right; rw [h1]; exact List.mem_append_left _ g
        | cons a A2 =>
          simp only [List.cons_append, List.cons.injEq] at h4
          obtain ⟨rfl, _⟩ := h4
          rcases hD d (by rw [h3]; simp) x hx hn with g | g
          · exact Or.inl g
          · right; rw [h1]; exact List.mem_append_left _ g
    · cases A' with
      | nil =>
        simp only [List.append_nil, List.nil_append] at h1 h2
        cases hDD : D1 ++ D2 with
        | nil =>
          rw [hDD] at h2
          have : S ++ (C1 ++ C2) = (S ++ C1) ++ d :: B := by rw [h2]; simp
          rcases W.ord _ _ _ this x hx hn with g | g
          · exact Or.inl g
          · right; rw [← h1]; exact g
        | cons a D =>
          rw [hDD] at h2
          simp only [List.cons_append, List.cons.injEq] at h2
          obtain ⟨rfl, _⟩ := h2
          rcases hD d (by rw [hDD]; simp) x hx hn with g | g
          · exact Or.inl g
          · right; rw [← h1]; exact g
      | cons a A' =>
        simp only [List.cons_append, List.cons.injEq] at h2
        obtain ⟨rfl, _⟩ := h2
        have : S ++ (C1 ++ C2) = A ++ d :: (A' ++ C2) := by rw [← List.append_assoc, h1]; simp
        exact W.ord _ _ _ this x hx hn
  · rcases W.los d hd hp x hx hn with g | g
    · exact Or.inl g
    · right; simp [g]
end

/-- An event is taken out of the link from a to b, and put into links from b. -/
structure Goes (σ τ : Net) (a b : Nat) (e : News) (r : List Fr) (Z : List Nat) : Prop where
  par : τ.par = σ.par
  head : σ.q a b = .event e :: r
  tail : τ.q a b = r
  push : ∀ z, z ∈ Z → τ.q b z = σ.q b z ++ [.event e]
  same : ∀ u v, ¬ (u = a ∧ v = b) → ¬ (u = b ∧ v ∈ Z) → τ.q u v = σ.q u v

section
variable {σ τ : Net} {P : News → Bool} {o a b : Nat} {e : News} {r : List Fr} {Z : List Nat}
theorem Goes.qP_head (G : Goes σ τ a b e r Z) (hp : P e = true) : qP σ P a b = e :: qP τ P a b := by
  unfold qP
  rw [G.head, G.tail, evs_event, List.filter_cons_of_pos hp]
theorem Goes.qP_push (G : Goes σ τ a b e r Z) (hp : P e = true) {z : Nat} (hz : z ∈ Z) : qP τ P b z = qP σ P b z ++ [e] := by
  unfold qP
  rw [G.push z hz]
  exact filter_evs_app' hp _
theorem Goes.qP_same (G : Goes σ τ a b e r Z) {u v : Nat} (h1 : ¬ (u = a ∧ v = b)) (h2 : ¬ (u = b ∧ v ∈ Z)) : qP τ P u v = qP σ P u v := by unfold qP; rw [G.same u v h1 h2]
/-- Another's event. -/
theorem Goes.qP_other (G : Goes σ τ a b e r Z) (hp : P e = false) (hab : a ≠ b) (u v : Nat) : qP τ P u v = qP σ P u v := by
  by_cases h1 : u = a ∧ v = b
  · obtain ⟨rfl, rfl⟩ := h1
    unfold qP
    rw [G.head, G.tail, evs_event, List.filter_cons_of_neg (by simp [hp])]
  · by_cases h2 : u = b ∧ v ∈ Z
    · obtain ⟨rfl, h2⟩ := h2
      unfold qP
      rw [G.push v h2]
      exact filter_evs_app hp _
    · exact G.qP_same h1 h2

variable (T : Tree σ.par) (ho : o < σ.n) (hb : b < σ.n) (hbo : b ≠ o) (hba : next σ.par b o = a) (hZ : ∀ z, z ∈ Z → z < σ.n ∧ z ≠ o ∧ next σ.par z o = b)
include T ho hb hbo hba hZ

/-- It is not on this way. -/
theorem Goes.off (G : Goes σ τ a b e r Z) {u m : Nat} (hm : m < σ.n) (hum : Anc σ.par o u m) (hno : ¬ (Anc σ.par o b m ∧ Anc σ.par o u b)) : chn τ P o u m = chn σ P o u m := by
  refine chn_congr T ho G.par hm hum (fun c hc huc hcu hco => G.qP_same (fun h => ?_) (fun h => ?_))
  · have : c = b := h.2
    subst this
    exact hno ⟨hc, huc⟩
  · obtain ⟨h1, h2⟩ := h
    apply hno
    have hbc : Anc σ.par o b c := .step hco (by rw [h1]; exact .refl)
    refine ⟨hbc.trans hc, ?_⟩
    cases huc with
    | refl => exact absurd rfl hcu
    | step _ h' => rw [h1] at h'; exact h'
/-- It is on this way, and goes on. -/
theorem Goes.through (G : Goes σ τ a b e r Z) (hp : P e = true) {u m : Nat} (hm : m < σ.n) (hbm : Anc σ.par o b m) (hua : Anc σ.par o u a) (hne : b ≠ m) (hz : next σ.par b m ∈ Z) : chn τ P o u m = chn σ P o u m := by
  have Tτ : Tree τ.par := by rw [G.par]; exact T
  have hn : τ.n = σ.n := by unfold Net.n; rw [G.par]
  have hoτ : o < τ.n := by rw [hn]; exact ho
  obtain ⟨w1, w2, w3, w4⟩ := hbm.on T ho hm hne
  obtain ⟨w, hw⟩ : ∃ w, w = next σ.par b m := ⟨_, rfl⟩
  rw [← hw] at w1 w2 w3 w4 hz
  have hup := up_step T ho hb hbo
  rw [hba] at hup
  have hupw := up_step T ho w4 w1
  rw [w2] at hupw
  have hab : Anc σ.par o a b := .step hbo (by rw [hba]; exact .refl)
  have hbw : Anc σ.par o b w := .step w1 (by rw [w2]; exact .refl)
  have hub : Anc σ.par o u b := hua.trans hab
  have hdu := hua.dist T ho hup.2.1
  have hbu : b ≠ u := fun e => by subst e; omega
  have hwb : w ≠ b := fun e => by subst e; omega
  -- the pieces
  have s1 : ∀ ρ : Net, ρ.par = σ.par → chn ρ P o u m = chn ρ P o w m ++ (qP ρ P b w ++ (qP ρ P a b ++ chn ρ P o u a)) := fun ρ hρ => by
    have Tρ : Tree ρ.par := by rw [hρ]; exact T
    have hnρ : ρ.n = σ.n := by unfold Net.n; rw [hρ]
    have hoρ : o < ρ.n := by rw [hnρ]; exact ho
    rw [chn_split (σ := ρ) Tρ hoρ (by rw [hnρ]; exact hm) (by rw [hρ]; exact hub.trans hbw) (by rw [hρ]; exact w3)]
    rw [chn_up (σ := ρ) Tρ hoρ (by rw [hnρ]; exact w4) w1 (fun e => by subst e; have := hub.dist T ho hb; omega)]
    rw [hρ, w2]
    rw [chn_up (σ := ρ) Tρ hoρ (by rw [hnρ]; exact hb) hbo hbu, hρ, hba]
  rw [s1 τ G.par, s1 σ rfl, G.qP_push hp hz, G.qP_head hp]
  have c1 : chn τ P o w m = chn σ P o w m := by
    refine chn_congr T ho G.par hm w3 (fun c hc hwc hcw hco => G.qP_same (fun h => ?_) (fun h => ?_))
    · have : c = b := h.2
      subst this
      have := hwc.dist T ho hb
      omega
    · have hcl := hc.lt T ho hm
      have g1 := up_step T ho hcl hco
      rw [h.1] at g1
      have g2 := hwc.dist T ho hcl
      exact hcw ((hwc.same T ho hcl (by omega)).symm)
  have c2 : chn τ P o u a = chn σ P o u a := by
    refine chn_congr T ho G.par hup.2.1 hua (fun c hc huc hcu hco => G.qP_same (fun h => ?_) (fun h => ?_))
    · have : c = b := h.2
      subst this
      have := hc.dist T ho hup.2.1
      omega
    · have hcl := hc.lt T ho hup.2.1
      have g1 := up_step T ho hcl hco
      rw [h.1] at g1
      have g2 := hc.dist T ho hup.2.1
      omega
  rw [c1, c2]
  simp
/-- It has come. -/
theorem Goes.comes (G : Goes σ τ a b e r Z) (hp : P e = true) {u : Nat} (hua : Anc σ.par o u a) : chn σ P o u b = e :: chn τ P o u b := by
  have Tτ : Tree τ.par := by rw [G.par]; exact T
  have hn : τ.n = σ.n := by unfold Net.n; rw [G.par]
  have hup := up_step T ho hb hbo
  rw [hba] at hup
  have hdu := hua.dist T ho hup.2.1
  have hbu : b ≠ u := fun e => by subst e; omega
  rw [chn_up T ho hb hbo hbu, chn_up Tτ (by rw [hn]; exact ho) (by rw [hn]; exact hb) hbo hbu, G.par, hba, G.qP_head hp]
  have c2 : chn τ P o u a = chn σ P o u a := by
    refine chn_congr T ho G.par hup.2.1 hua (fun c hc huc hcu hco => G.qP_same (fun h => ?_) (fun h => ?_))
    · have : c = b := h.2
      subst this
      have := hc.dist T ho hup.2.1
      omega
    · have hcl := hc.lt T ho hup.2.1
      have g1 := up_step T ho hcl hco
      rw [h.1] at g1
      have g2 := hc.dist T ho hup.2.1
      omega
  rw [c2]; rfl
/-- It comes in at the far end. -/
theorem Goes.enters (G : Goes σ τ a b e r Z) (hp : P e = true) {m : Nat} (hm : m < σ.n) (hbm : Anc σ.par o b m) (hne : b ≠ m) (hz : next σ.par b m ∈ Z) : chn τ P o b m = chn σ P o b m ++ [e] := by
  have Tτ : Tree τ.par := by rw [G.par]; exact T
  have hn : τ.n = σ.n := by unfold Net.n; rw [G.par]
  obtain ⟨w1, w2, w3, w4⟩ := hbm.on T ho hm hne
  obtain ⟨w, hw⟩ : ∃ w, w = next σ.par b m := ⟨_, rfl⟩
  rw [← hw] at w1 w2 w3 w4 hz
  have hupw := up_step T ho w4 w1
  rw [w2] at hupw
  have hbw : Anc σ.par o b w := .step w1 (by rw [w2]; exact .refl)
  have hwb : w ≠ b := fun e => by subst e; omega
  have s1 : ∀ ρ : Net, ρ.par = σ.par → chn ρ P o b m = chn ρ P o w m ++ qP ρ P b w := fun ρ hρ => by
    have Tρ : Tree ρ.par := by rw [hρ]; exact T
    have hnρ : ρ.n = σ.n := by unfold Net.n; rw [hρ]
    have hoρ : o < ρ.n := by rw [hnρ]; exact ho
    rw [chn_split (σ := ρ) Tρ hoρ (by rw [hnρ]; exact hm) (by rw [hρ]; exact hbw) (by rw [hρ]; exact w3)]
    rw [chn_up (σ := ρ) Tρ hoρ (by rw [hnρ]; exact w4) w1 hwb, hρ, w2, chn_self, List.append_nil]
  rw [s1 τ G.par, s1 σ rfl, G.qP_push hp hz]
  have c1 : chn τ P o w m = chn σ P o w m := by
    refine chn_congr T ho G.par hm w3 (fun c hc hwc hcw hco => G.qP_same (fun h => ?_) (fun h => ?_))
    · have : c = b := h.2
      subst this
      have := hwc.dist T ho hb
      omega
    · have hcl := hc.lt T ho hm
      have g1 := up_step T ho hcl hco
      rw [h.1] at g1
      have g2 := hwc.dist T ho hcl
      exact hcw ((hwc.same T ho hcl (by omega)).symm)
  rw [c1]; simp
end

/-- What is kept for it at a broker. -/
def kpt (σ : Net) (s : Nat) (P : News → Bool) (z : Nat) : List News := (match σ.kn z s with | some f => f.kept | none => []).filter P
/-- It went by u, on its way from o. -/
def Psd (σ : Net) (s : Nat) (P : News → Bool) (o u : Nat) (e : News) : Prop := (∃ w v, e ∈ qP σ P w v ∧ Anc σ.par o u w) ∨ ∃ z, e ∈ kpt σ s P z ∧ Anc σ.par o u z
/-- S has come; what is led to m from o is not missing. -/
structure Fo (σ : Net) (s : Nat) (P : News → Bool) (o : Nat) (Rq L S : List News) (m : Nat) : Prop where
  whole : Whole P Rq L S (chn σ P o o m)
  past : ∀ u, Anc σ.par o u m → ∀ e, e ∈ Rq → Psd σ s P o u e → e ∈ L ∨ e ∈ S ∨ e ∈ chn σ P o u m

theorem qP_P {σ : Net} {P : News → Bool} {u v : Nat} {e : News} (h : e ∈ qP σ P u v) : P e = true := (List.mem_filter.1 h).2
theorem kpt_P {σ : Net} {s : Nat} {P : News → Bool} {z : Nat} {e : News} (h : e ∈ kpt σ s P z) : P e = true := (List.mem_filter.1 h).2
theorem Psd.up {σ : Net} {s : Nat} {P : News → Bool} {o u v : Nat} {e : News} (h : Psd σ s P o v e) (k : Anc σ.par o u v) : Psd σ s P o u e := by
  rcases h with ⟨w, x, h1, h2⟩ | ⟨z, h1, h2⟩
  · exact Or.inl ⟨w, x, h1, k.trans h2⟩
  · exact Or.inr ⟨z, h1, k.trans h2⟩

section
variable {σ τ : Net} {s : Nat} {P : News → Bool} {o m : Nat} {Rq L S : List News}
/-- Nothing of it has changed. -/
theorem Fo.congr (F : Fo σ s P o Rq L S m) (T : Tree σ.par) (ho : o < σ.n) (hm : m < σ.n) (hp : τ.par = σ.par) (hq : ∀ u v, qP τ P u v = qP σ P u v) (hk : ∀ z x, x ∈ kpt τ s P z → x ∈ kpt σ s P z) : Fo τ s P o Rq L S m := by
  have hc : ∀ u, Anc σ.par o u m → chn τ P o u m = chn σ P o u m := fun u hu => chn_congr T ho hp hm hu (fun c _ _ _ _ => hq _ _)
  refine ⟨by rw [hc o (Anc.root T ho _ _ rfl hm)]; exact F.whole, fun u hu e he hps => ?_⟩
  rw [hp] at hu
  rw [hc u hu]
  refine F.past u hu e he ?_
  rcases hps with ⟨w, v, h1, h2⟩ | ⟨z, h1, h2⟩
  · rw [hq] at h1; rw [hp] at h2; exact Or.inl ⟨w, v, h1, h2⟩
  · rw [hp] at h2; exact Or.inr ⟨z, hk z e h1, h2⟩
/-- What has come is written otherwise. -/
theorem Fo.of (F : Fo σ s P o Rq L S m) {L' S' : List News} (W : Whole P Rq L' S' (chn σ P o o m)) (hS : ∀ e, e ∈ Rq → e ∈ L ∨ e ∈ S → e ∈ L' ∨ e ∈ S') : Fo σ s P o Rq L' S' m := by
  refine ⟨W, fun u hu e he hps => ?_⟩
  rcases F.past u hu e he hps with h | h | h
  · exact (hS e he (Or.inl h)).imp id Or.inl
  · exact (hS e he (Or.inr h)).imp id Or.inl
  · exact Or.inr (Or.inr h)
end

/-! ### an event goes on -/
section
variable {σ τ : Net} {s : Nat} {P : News → Bool} {o a b m : Nat} {e : News} {r : List Fr} {Z : List Nat} {Rq L S : List News}
theorem Psd.back (G : Goes σ τ a b e r Z) (hp : P e = true) (hk : ∀ z x, x ∈ kpt τ s P z → x ∈ kpt σ s P z ∨ (x = e ∧ z = b)) {u : Nat} {x : News} (h : Psd τ s P o u x) : Psd σ s P o u x ∨ (x = e ∧ Anc σ.par o u b) := by
  rcases h with ⟨w, v, h1, h2⟩ | ⟨z, h1, h2⟩
  · rw [G.par] at h2
    by_cases g1 : w = a ∧ v = b
    · obtain ⟨rfl, rfl⟩ := g1
      exact Or.inl (Or.inl ⟨_, _, by rw [G.qP_head hp]; exact List.mem_cons_of_mem _ h1, h2⟩)
    · by_cases g2 : w = b ∧ v ∈ Z
      · obtain ⟨rfl, g2⟩ := g2
        rw [G.qP_push hp g2, List.mem_append, List.mem_singleton] at h1
        rcases h1 with h1 | h1
        · exact Or.inl (Or.inl ⟨_, _, h1, h2⟩)
        · exact Or.inr ⟨h1, h2⟩
      · rw [G.qP_same g1 g2] at h1
        exact Or.inl (Or.inl ⟨_, _, h1, h2⟩)
  · rw [G.par] at h2
    rcases hk z x h1 with h | ⟨h, rfl⟩
    · exact Or.inl (Or.inr ⟨z, h, h2⟩)
    · exact Or.inr ⟨h, h2⟩

theorem anc_up {σ : Net} {o a b u : Nat} (hba : next σ.par b o = a) (h : Anc σ.par o u b) (hne : u ≠ b) : Anc σ.par o u a := by
  cases h with
  | refl => exact absurd rfl hne
  | step _ h' => rw [hba] at h'; exact h'

variable (T : Tree σ.par) (ho : o < σ.n) (hb : b < σ.n) (hbo : b ≠ o) (hba : next σ.par b o = a) (hZ : ∀ z, z ∈ Z → z < σ.n ∧ z ≠ o ∧ next σ.par z o = b)
include T ho hb hbo hba hZ

/-- On this way, and it goes on. -/
theorem Fo.on (F : Fo σ s P o Rq L S m) (G : Goes σ τ a b e r Z) (hp : P e = true) (hm : m < σ.n) (hbm : Anc σ.par o b m) (hne : b ≠ m) (hz : next σ.par b m ∈ Z) (hk : ∀ z x, x ∈ kpt τ s P z → x ∈ kpt σ s P z ∨ (x = e ∧ z = b)) : Fo τ s P o Rq L S m := by
  have Tτ : Tree τ.par := by rw [G.par]; exact T
  have hn : τ.n = σ.n := by unfold Net.n; rw [G.par]
  have hroot : Anc σ.par o o a := Anc.root T ho _ _ rfl (by have := (up_step T ho hb hbo).2.1; rw [hba] at this; exact this)
  have hsub : ∀ u, Anc σ.par o u m → ∀ x, x ∈ chn σ P o u m → x ∈ chn τ P o u m := fun u hu x hx => by
    by_cases hub : u = b
    · subst hub
      rw [G.enters T ho hb hbo hba hZ hp hm hbm hne hz]; exact List.mem_append_left _ hx
    · rcases Anc.total hu hbm with h | h
      · rw [G.through T ho hb hbo hba hZ hp hm hbm (anc_up hba h hub) hne hz]; exact hx
      · rw [G.off T ho hb hbo hba hZ hm hu (fun g => hub (g.2.same T ho hb (Nat.le_antisymm (g.2.dist T ho hb) (h.dist T ho (hu.lt T ho hm)))))]; exact hx
  have hin : ∀ u, Anc σ.par o u b → e ∈ chn τ P o u m := fun u hu => by
    rw [chn_split (σ := τ) Tτ (by rw [hn]; exact ho) (by rw [hn]; exact hm) (by rw [G.par]; exact hu) (by rw [G.par]; exact hbm), G.enters T ho hb hbo hba hZ hp hm hbm hne hz]
    simp
  refine ⟨by rw [G.through T ho hb hbo hba hZ hp hm hbm hroot hne hz]; exact F.whole, fun u hu x hx hps => ?_⟩
  rw [G.par] at hu
  rcases Psd.back G hp hk hps with h | ⟨rfl, h⟩
  · rcases F.past u hu x hx h with h | h | h
    · exact Or.inl h
    · exact Or.inr (Or.inl h)
    · exact Or.inr (Or.inr (hsub u hu x h))
  · exact Or.inr (Or.inr (hin u h))
/-- Not on this way. -/
theorem Fo.off (F : Fo σ s P o Rq L S m) (G : Goes σ τ a b e r Z) (hp : P e = true) (hm : m < σ.n) (hbm : ¬ Anc σ.par o b m) (hk : ∀ z x, x ∈ kpt τ s P z → x ∈ kpt σ s P z ∨ (x = e ∧ z = b)) : Fo τ s P o Rq L S m := by
  have hc : ∀ u, Anc σ.par o u m → chn τ P o u m = chn σ P o u m := fun u hu => G.off T ho hb hbo hba hZ hm hu (fun g => hbm g.1)
  refine ⟨by rw [hc o (Anc.root T ho _ _ rfl hm)]; exact F.whole, fun u hu x hx hps => ?_⟩
  rw [G.par] at hu
  rw [hc u hu]
  rcases Psd.back G hp hk hps with h | ⟨rfl, h⟩
  · exact F.past u hu x hx h
  · refine F.past u hu x hx (Or.inl ⟨a, b, by rw [G.qP_head hp]; exact List.mem_cons_self .., anc_up hba h (fun g => by subst g; exact hbm hu)⟩)
/-- It has come. -/
theorem Fo.at (F : Fo σ s P o Rq L S b) (G : Goes σ τ a b e r Z) (hp : P e = true) (hk : ∀ z x, x ∈ kpt τ s P z → x ∈ kpt σ s P z ∨ (x = e ∧ z = b)) {L' S' : List News} (W : Whole P Rq L S (e :: chn τ P o o b) → Whole P Rq L' S' (chn τ P o o b))
    (hS : ∀ x, x ∈ Rq → x ∈ L ∨ x ∈ S ∨ x = e → x ∈ L' ∨ x ∈ S') : Fo τ s P o Rq L' S' b := by
  have hroot : Anc σ.par o o a := Anc.root T ho _ _ rfl (by have := (up_step T ho hb hbo).2.1; rw [hba] at this; exact this)
  have hw := F.whole
  rw [G.comes T ho hb hbo hba hZ hp hroot] at hw
  refine ⟨W hw, fun u hu x hx hps => ?_⟩
  rw [G.par] at hu
  have key : x ∈ L ∨ x ∈ S ∨ x = e → x ∈ L' ∨ x ∈ S' ∨ x ∈ chn τ P o u b := fun h => (hS x hx h).imp id Or.inl
  rcases Psd.back G hp hk hps with h | ⟨rfl, h⟩
  · rcases F.past u hu x hx h with h | h | h
    · exact key (Or.inl h)
    · exact key (Or.inr (Or.inl h))
    · by_cases hub : u = b
      · subst hub; rw [chn_self] at h; cases h
      · rw [G.comes T ho hb hbo hba hZ hp (anc_up hba hu hub)] at h
        rcases List.mem_cons.1 h with h | h
        · exact key (Or.inr (Or.inr h))
        · exact Or.inr (Or.inr h)
  · exact key (Or.inr (Or.inr rfl))
end

/-! ### the way turns at y -/
section
variable {σ : Net} {s : Nat} {P : News → Bool} {o y h old : Nat} {Rq L S : List News}
theorem Whole.before {P : News → Bool} {Rq L S C1 C2 : List News} (W : Whole P Rq L S (C1 ++ C2)) {d : News} (hd : d ∈ S ++ C1) {x : News} (hx : x ∈ Rq) (hn : x.ev.num < d.ev.num) : x ∈ L ∨ x ∈ S ++ C1 := by
  obtain ⟨A, B, hAB⟩ := List.append_of_mem hd
  have : S ++ (C1 ++ C2) = A ++ d :: (B ++ C2) := by rw [← List.append_assoc, hAB]; simp
  refine (W.ord _ _ _ this x hx hn).imp id (fun g => ?_)
  rw [hAB]; exact List.mem_append_left _ g

theorem Fo.switch (F : Fo σ s P o Rq L S old) (T : Tree σ.par) (ho : o < σ.n) (hol : old < σ.n) (hhl : h < σ.n) (hy : Anc σ.par o y old) (hyh : Anc σ.par o y h)
    (hun : ∀ d, Psd σ s P o y d → P d = true → d ∉ Rq → ∀ x, x ∈ Rq → ¬ x.ev.num < d.ev.num) : Fo σ s P o Rq L (S ++ chn σ P o y old ++ kpt σ s P h) h := by
  have hyl := hy.lt T ho hol
  have hoy : Anc σ.par o o y := Anc.root T ho _ _ rfl hyl
  have hw := F.whole
  rw [chn_split T ho hol hoy hy] at hw
  have hpy : ∀ d, d ∈ kpt σ s P h ++ chn σ P o y h → Psd σ s P o y d ∧ P d = true := fun d hd => by
    rcases List.mem_append.1 hd with hd | hd
    · exact ⟨Or.inr ⟨h, hd, hyh⟩, kpt_P hd⟩
    · obtain ⟨c, c1, c2, c3, c4, c5⟩ := chn_mem T ho hhl hyh hd
      refine ⟨Or.inl ⟨_, _, c5, ?_⟩, qP_P c5⟩
      cases c2 with
      | refl => exact absurd rfl c3
      | step _ h' => exact h'
  refine ⟨?_, fun u hu e he hps => ?_⟩
  · rw [chn_split T ho hhl hoy hyh]
    refine hw.between (fun d hd x hx hn => ?_)
    obtain ⟨p1, p2⟩ := hpy d hd
    by_cases hdr : d ∈ Rq
    · rcases F.past y hy d hdr p1 with g | g | g
      · exact (hw.los d g p2 x hx hn).imp id (List.mem_append_left _)
      · exact hw.before (List.mem_append_left _ g) hx hn
      · exact hw.before (List.mem_append_right _ g) hx hn
    · exact absurd hn (hun d p1 p2 hdr x hx)
  · rcases Anc.total hu hyh with g | g
    · rcases F.past u (g.trans hy) e he hps with k | k | k
      · exact Or.inl k
      · exact Or.inr (Or.inl (by simp [k]))
      · rw [chn_split T ho hol g hy] at k
        rcases List.mem_append.1 k with k | k
        · exact Or.inr (Or.inl (by simp [k]))
        · right; right
          rw [chn_split T ho hhl g hyh]
          exact List.mem_append_right _ k
    · rcases F.past y hy e he (hps.up g) with k | k | k
      · exact Or.inl k
      · exact Or.inr (Or.inl (by simp [k]))
      · exact Or.inr (Or.inl (by simp [k]))
end

section
variable {P : News → Bool} {Rq L S C : List News} {e : News}
/-- Another's is lost. -/
theorem Whole.weakL (W : Whole P Rq L S C) (hp : P e = false) : Whole P Rq (e :: L) S C :=
  ⟨fun d hd => (W.all d hd).imp (List.mem_cons_of_mem _) id, fun A d B h x hx hn => (W.ord A d B h x hx hn).imp (List.mem_cons_of_mem _) id, fun d hd hpd x hx hn => by
    rcases List.mem_cons.1 hd with rfl | hd
    · rw [hp] at hpd; cases hpd
    · exact (W.los d hd hpd x hx hn).imp (List.mem_cons_of_mem _) id⟩
/-- One is lost on its way to where the others are kept. -/
theorem Whole.loseMid {A B : List News} (W : Whole P Rq L (A ++ e :: B) C) : Whole P Rq (e :: L) (A ++ B) C := by
  have W1 : Whole P Rq (e :: L) (A ++ e :: B) C := by
    refine ⟨fun d hd => (W.all d hd).imp (List.mem_cons_of_mem _) id, fun A d B h x hx hn => (W.ord A d B h x hx hn).imp (List.mem_cons_of_mem _) id, fun d hd hpd x hx hn => ?_⟩
    rcases List.mem_cons.1 hd with rfl | hd
    · have h1 : (A ++ d :: B) ++ C = A ++ d :: (B ++ C) := by simp
      exact (W.ord _ _ _ h1 x hx hn).imp (List.mem_cons_of_mem _) (fun g => List.mem_append_left _ g)
    · exact (W.los d hd hpd x hx hn).imp (List.mem_cons_of_mem _) id
  exact W1.drop (fun _ => Or.inl (List.mem_cons_self ..))

/-- What is told of a row: what was outrun is left out. -/
def tellsL (l : List News) : List News → List News
  | [] => l
  | e :: r => tellsL (if outrun l e then l else l ++ [e]) r
theorem tellsL_mem {x : News} : ∀ (r l : List News), x ∈ l → x ∈ tellsL l r
  | [], l, h => h
  | e :: r, l, h => by
    unfold tellsL
    refine tellsL_mem r _ ?_
    split
    · exact h
    · exact List.mem_append_left _ h
/-- Those of a stay that meet a filter. -/
def isStay (p st : Int) (fl : List Tst) (e : News) : Bool := decide (e.ev.pub = p ∧ e.stay = st) && meets fl e.ev
theorem Whole.tells {p st : Int} {fl : List Tst} {B : List News} : ∀ (r l : List News), (∀ d, d ∈ l ++ r → meets fl d.ev = true) → (∀ d x, d ∈ l ++ r → x ∈ l ++ r → d.ev.pub = x.ev.pub → d.ev.num = x.ev.num → d = x) →
    Whole (isStay p st fl) Rq L (l.filter (isStay p st fl) ++ r.filter (isStay p st fl) ++ B) C → Whole (isStay p st fl) Rq L ((tellsL l r).filter (isStay p st fl) ++ B) C
  | [], l, _, _, W => by simpa [tellsL] using W
  | e :: r, l, hm, hu, W => by
    have k1 : ∀ d, d ∈ l ++ r → d ∈ l ++ e :: r := fun d hd => by
      rcases List.mem_append.1 hd with h | h
      · exact List.mem_append_left _ h
      · exact List.mem_append_right _ (List.mem_cons_of_mem _ h)
    have k2 : ∀ d, d ∈ (l ++ [e]) ++ r → d ∈ l ++ e :: r := fun d hd => by simpa using hd
    unfold tellsL
    by_cases ho : outrun l e = true
    · rw [if_pos ho]
      refine Whole.tells r l (fun d hd => hm d (k1 d hd)) (fun d x hd hx => hu d x (k1 d hd) (k1 x hx)) ?_
      cases hp : isStay p st fl e with
      | false => rw [List.filter_cons_of_neg (by simp [hp])] at W; exact W
      | true =>
        rw [List.filter_cons_of_pos hp] at W
        have W' : Whole (isStay p st fl) Rq L (l.filter (isStay p st fl) ++ e :: (r.filter (isStay p st fl) ++ B)) C := by simpa using W
        have key : e ∈ Rq → e ∈ L ∨ e ∈ l.filter (isStay p st fl) := fun he => by
          unfold outrun at ho
          rw [List.any_eq_true] at ho
          obtain ⟨d, hd, hdd⟩ := ho
          have hdd := of_decide_eq_true hdd
          have hpd : isStay p st fl d = true := by
            simp only [isStay, Bool.and_eq_true, decide_eq_true_eq] at hp ⊢
            exact ⟨⟨hdd.1.trans hp.1.1, hdd.2.1.trans hp.1.2⟩, hm d (List.mem_append_left _ hd)⟩
          have hdf : d ∈ l.filter (isStay p st fl) := List.mem_filter.2 ⟨hd, hpd⟩
          by_cases hn : e.ev.num = d.ev.num
          · have : d = e := hu d e (List.mem_append_left _ hd) (by simp) hdd.1 hn.symm
            exact Or.inr (this ▸ hdf)
          · obtain ⟨A1, A2, hA⟩ := List.append_of_mem hdf
            have h1 : (l.filter (isStay p st fl) ++ e :: (r.filter (isStay p st fl) ++ B)) ++ C = A1 ++ d :: (A2 ++ e :: (r.filter (isStay p st fl) ++ B) ++ C) := by rw [hA]; simp
            exact (W'.ord _ _ _ h1 e he (by omega)).imp id (fun g => by rw [hA]; exact List.mem_append_left _ g)
        have := W'.drop key
        simpa using this
    · rw [if_neg ho]
      refine Whole.tells r (l ++ [e]) (fun d hd => hm d (k2 d hd)) (fun d x hd hx => hu d x (k2 d hd) (k2 x hx)) ?_
      have : (e :: r) = [e] ++ r := rfl
      rw [this, List.filter_append] at W
      rw [List.filter_append]
      simpa using W
end

/-! ### an event is published -/
/-- An event is put into links from o. -/
structure Born (σ τ : Net) (o : Nat) (e : News) (Z : List Nat) : Prop where
  par : τ.par = σ.par
  push : ∀ z, z ∈ Z → τ.q o z = σ.q o z ++ [.event e]
  same : ∀ u v, ¬ (u = o ∧ v ∈ Z) → τ.q u v = σ.q u v

section
variable {σ τ : Net} {s : Nat} {P : News → Bool} {o m : Nat} {e : News} {Z : List Nat} {Rq L S : List News}
theorem Born.qP_push (G : Born σ τ o e Z) (hp : P e = true) {z : Nat} (hz : z ∈ Z) : qP τ P o z = qP σ P o z ++ [e] := by
  unfold qP
  rw [G.push z hz]
  exact filter_evs_app' hp _
theorem Born.qP_same (G : Born σ τ o e Z) {u v : Nat} (h : ¬ (u = o ∧ v ∈ Z)) : qP τ P u v = qP σ P u v := by unfold qP; rw [G.same u v h]
theorem Born.qP_other (G : Born σ τ o e Z) (hp : P e = false) (u v : Nat) : qP τ P u v = qP σ P u v := by
  by_cases h2 : u = o ∧ v ∈ Z
  · obtain ⟨rfl, h2⟩ := h2
    unfold qP
    rw [G.push v h2]
    exact filter_evs_app hp _
  · exact G.qP_same h2

variable (T : Tree σ.par) (ho : o < σ.n)
include T ho

theorem anc_root {u : Nat} (h : Anc σ.par o u o) : u = o := by
  have h1 := h.dist T ho ho
  exact h.same T ho ho (by have := dist_self (par := σ.par) o; omega)

theorem Born.back (G : Born σ τ o e Z) (hp : P e = true) (hk : ∀ z x, x ∈ kpt τ s P z → x ∈ kpt σ s P z ∨ (x = e ∧ z = o)) {u : Nat} {x : News} (h : Psd τ s P o u x) : Psd σ s P o u x ∨ (x = e ∧ u = o) := by
  rcases h with ⟨w, v, h1, h2⟩ | ⟨z, h1, h2⟩
  · rw [G.par] at h2
    by_cases g2 : w = o ∧ v ∈ Z
    · obtain ⟨rfl, g2⟩ := g2
      rw [G.qP_push hp g2, List.mem_append, List.mem_singleton] at h1
      rcases h1 with h1 | h1
      · exact Or.inl (Or.inl ⟨_, _, h1, h2⟩)
      · exact Or.inr ⟨h1, anc_root T ho h2⟩
    · rw [G.qP_same g2] at h1
      exact Or.inl (Or.inl ⟨_, _, h1, h2⟩)
  · rw [G.par] at h2
    rcases hk z x h1 with h | ⟨h, rfl⟩
    · exact Or.inl (Or.inr ⟨z, h, h2⟩)
    · exact Or.inr ⟨h, anc_root T ho h2⟩

/-- On its way. -/
theorem Fo.born (F : Fo σ s P o Rq L S m) (G : Born σ τ o e Z) (hp : P e = true) (hm : m < σ.n) (hom : o ≠ m) (hz : next σ.par o m ∈ Z) (hk : ∀ z x, x ∈ kpt τ s P z → x ∈ kpt σ s P z ∨ (x = e ∧ z = o))
    (hS : ∀ d, d ∈ S ++ chn σ P o o m → d.ev.num < e.ev.num) (hL : ∀ d, d ∈ L → P d = true → d.ev.num < e.ev.num) (hnew : ∀ u, ¬ Psd σ s P o u e) : Fo τ s P o (Rq ++ [e]) L S m := by
  have Tτ : Tree τ.par := by rw [G.par]; exact T
  have hn : τ.n = σ.n := by unfold Net.n; rw [G.par]
  have hroot : Anc σ.par o o m := Anc.root T ho _ _ rfl hm
  obtain ⟨w1, w2, w3, w4⟩ := hroot.on T ho hm hom
  obtain ⟨w, hw⟩ : ∃ w, w = next σ.par o m := ⟨_, rfl⟩
  rw [← hw] at w1 w2 w3 w4 hz
  have how : Anc σ.par o o w := Anc.root T ho _ _ rfl w4
  have hsame : ∀ u, Anc σ.par o u m → u ≠ o → chn τ P o u m = chn σ P o u m := fun u hu huo => by
    refine chn_congr T ho G.par hm hu (fun c hc huc hcu hco => G.qP_same (fun h => ?_))
    obtain ⟨h1, _⟩ := h
    cases huc with
    | refl => exact hcu rfl
    | step _ h' => rw [h1] at h'; exact huo (anc_root T ho h')
  have s1 : ∀ ρ : Net, ρ.par = σ.par → chn ρ P o o m = chn ρ P o w m ++ qP ρ P o w := fun ρ hρ => by
    have Tρ : Tree ρ.par := by rw [hρ]; exact T
    have hnρ : ρ.n = σ.n := by unfold Net.n; rw [hρ]
    have hoρ : o < ρ.n := by rw [hnρ]; exact ho
    rw [chn_split (σ := ρ) Tρ hoρ (by rw [hnρ]; exact hm) (by rw [hρ]; exact how) (by rw [hρ]; exact w3)]
    rw [chn_up (σ := ρ) Tρ hoρ (by rw [hnρ]; exact w4) w1 w1, hρ, w2, chn_self, List.append_nil]
  have hoo : chn τ P o o m = chn σ P o o m ++ [e] := by
    rw [s1 τ G.par, s1 σ rfl, G.qP_push hp hz, hsame w w3 w1]; simp
  refine ⟨by rw [hoo]; exact F.whole.pub hS hL, fun u hu x hx hps => ?_⟩
  rw [G.par] at hu
  rcases Born.back T ho G hp hk hps with h | ⟨rfl, rfl⟩
  · rcases List.mem_append.1 hx with hx | hx
    · rcases F.past u hu x hx h with g | g | g
      · exact Or.inl g
      · exact Or.inr (Or.inl g)
      · right; right
        by_cases huo : u = o
        · subst huo; rw [hoo]; exact List.mem_append_left _ g
        · rw [hsame u hu huo]; exact g
    · rw [List.mem_singleton.1 hx] at h; exact absurd h (hnew u)
  · right; right; rw [hoo]; simp
/-- It has come at once. -/
theorem Fo.bornAt (F : Fo σ s P o Rq L S o) (G : Born σ τ o e Z) (hp : P e = true) (hk : ∀ z x, x ∈ kpt τ s P z → x ∈ kpt σ s P z ∨ (x = e ∧ z = o)) {L' S' : List News} (W : Whole P (Rq ++ [e]) L S [e] → Whole P (Rq ++ [e]) L' S' [])
    (hS : ∀ d, d ∈ S → d.ev.num < e.ev.num) (hL : ∀ d, d ∈ L → P d = true → d.ev.num < e.ev.num) (hnew : ∀ u, ¬ Psd σ s P o u e) (hS' : ∀ x, x ∈ L ∨ x ∈ S ∨ x = e → x ∈ L' ∨ x ∈ S') : Fo τ s P o (Rq ++ [e]) L' S' o := by
  have hw := F.whole
  rw [chn_root] at hw
  refine ⟨by rw [chn_root]; exact W (by have := hw.pub (e := e) (by simpa using hS) hL; simpa using this), fun u hu x hx hps => ?_⟩
  rw [G.par] at hu
  have huo := anc_root T ho hu
  subst huo
  rcases Born.back T ho G hp hk hps with h | ⟨rfl, _⟩
  · rcases List.mem_append.1 hx with hx | hx
    · rcases F.past u .refl x hx h with g | g | g
      · exact (hS' x (Or.inl g)).imp id Or.inl
      · exact (hS' x (Or.inr (Or.inl g))).imp id Or.inl
      · rw [chn_self] at g; cases g
    · rw [List.mem_singleton.1 hx] at h; exact absurd h (hnew u)
  · exact (hS' x (Or.inr (Or.inr rfl))).imp id Or.inl
end

def tldOf (σ : Net) (s : Nat) : List News := (σ.cl (s / 2)).told (s % 2)
def keepOf (σ : Net) (s z : Nat) : List News := match σ.kn z s with | some f => f.kept | none => []
theorem kpt_eq (σ : Net) (s : Nat) (P : News → Bool) (z : Nat) : kpt σ s P z = (keepOf σ s z).filter P := rfl

/-- What a net has of one subscription. -/
structure Slc (σ τ : Net) (s : Nat) : Prop where
  kn : ∀ z, τ.kn z s = σ.kn z s
  told : tldOf τ s = tldOf σ s
  here : (τ.cl (s / 2)).here = (σ.cl (s / 2)).here
theorem Slc.refl (σ : Net) (s : Nat) : Slc σ σ s := ⟨fun _ => rfl, rfl, rfl⟩
theorem Slc.trans {a b c : Net} {s : Nat} (h : Slc a b s) (k : Slc b c s) : Slc a c s := ⟨fun z => (k.kn z).trans (h.kn z), k.told.trans h.told, k.here.trans h.here⟩
theorem Slc.symm {a b : Net} {s : Nat} (h : Slc a b s) : Slc b a s := ⟨fun z => (h.kn z).symm, h.told.symm, h.here.symm⟩

section
variable {σ τ : Net} {s b : Nat} {e : News}
theorem tell_cl (σ : Net) (t : Nat) (e : News) (c : Nat) : (σ.tell t e).cl c = if c = t / 2 then (σ.cl (t / 2)).tell (t % 2) e else σ.cl c := by
  show put σ.cl (t / 2) _ c = _
  unfold put
  rfl
theorem slc_tell {t : Nat} (h : t ≠ s) : Slc σ (σ.tell t e) s := by
  refine ⟨fun _ => rfl, ?_, ?_⟩
  · unfold tldOf
    rw [tell_cl]
    split
    · rename_i hc
      unfold Cli.tell
      split
      · rw [hc]
      · show put _ (t % 2) _ (s % 2) = _
        rw [put_other _ _ (by omega), hc]
    · rfl
  · rw [tell_cl]
    split
    · rename_i hc
      unfold Cli.tell
      split <;> rw [hc]
    · rfl
theorem slc_know {t b : Nat} {o : Option Fact} (h : t ≠ s) : Slc σ (σ.know b t o) s := ⟨fun _ => put2_other _ _ (fun g => h g.2.symm), rfl, rfl⟩
/-- Another's hearing. -/
theorem slc_hear {t : Nat} (h : t ≠ s) : Slc σ (σ.hear b e t) s := by
  unfold Net.hear
  split
  · exact Slc.refl _ _
  · split
    · split
      · exact slc_know h
      · split
        · exact slc_know h
        · exact slc_tell h
    · exact Slc.refl _ _
theorem slc_hears : ∀ (l : List Nat) (σ : Net), s ∉ l → Slc σ (σ.hears b e l) s
  | [], σ, _ => Slc.refl _ _
  | t :: l, σ, h => by
    have h1 : t ≠ s := fun g => h (by rw [g]; exact List.mem_cons_self ..)
    exact (slc_hear h1).trans (slc_hears l (σ.hear b e t) (fun g => h (List.mem_cons_of_mem _ g)))
theorem slc_pushAll (x : Nat) (f : Fr) (ys : List Nat) (σ : Net) : Slc σ (σ.pushAll x ys f) s := by
  have h := pushAll_keeps (f := f) (x := x) ys σ
  refine ⟨fun z => by rw [h.1], ?_, by rw [h.2.1]⟩
  unfold tldOf; rw [h.2.1]

/-- What an event at b is for s. -/
inductive HearsAs (σ τ : Net) (s b : Nat) (e : News) : Prop
  | none (hn : ∀ f, σ.kn b s = some f → f.way = none → meets f.fl e.ev = false) (hk : ∀ z, τ.kn z s = σ.kn z s) (ht : tldOf τ s = tldOf σ s)
  | kept (f : Fact) (hf : σ.kn b s = some f) (hw : f.way = none) (hm : meets f.fl e.ev = true) (hr : f.waits = true ∨ (σ.cl (s / 2)).here ≠ some b) (hk : ∀ z, z ≠ b → τ.kn z s = σ.kn z s) (hb : τ.kn b s = some { f with kept := f.kept ++ [e] }) (ht : tldOf τ s = tldOf σ s)
  | lost (f : Fact) (hf : σ.kn b s = some f) (hw : f.way = none) (hm : meets f.fl e.ev = true) (hr : f.waits = false ∧ (σ.cl (s / 2)).here ≠ some b) (hk : ∀ z, z ≠ b → τ.kn z s = σ.kn z s) (hb : τ.kn b s = some { f with more := f.more + 1 }) (ht : tldOf τ s = tldOf σ s)
  | told (f : Fact) (hf : σ.kn b s = some f) (hw : f.way = none) (hm : meets f.fl e.ev = true) (hr : f.waits = false ∧ (σ.cl (s / 2)).here = some b) (hk : ∀ z, τ.kn z s = σ.kn z s) (ht : tldOf τ s = if outrun (tldOf σ s) e then tldOf σ s else tldOf σ s ++ [e])

theorem hear_as (σ : Net) (s b : Nat) (e : News) : HearsAs σ (σ.hear b e s) s b e := by
  cases hk : σ.kn b s with
  | none =>
    have : σ.hear b e s = σ := by unfold Net.hear; rw [hk]
    rw [this]
    exact .none (fun f hf => by rw [hk] at hf; cases hf) (fun _ => rfl) rfl
  | some f =>
    by_cases hc : (meets f.fl e.ev && decide (f.way = Option.none)) = true
    · have hm := (Bool.and_eq_true _ _ ▸ hc).1
      have hw : f.way = Option.none := of_decide_eq_true (Bool.and_eq_true _ _ ▸ hc).2
      by_cases h1 : (f.waits || (decide ((σ.cl (s / 2)).here ≠ some b) && decide (f.kept.length < 6))) = true
      · have : σ.hear b e s = σ.know b s (some { f with kept := f.kept ++ [e] }) := by unfold Net.hear; rw [hk]; simp only [hc, if_true, h1]
        rw [this]
        refine .kept f hk hw hm ?_ (fun z hz => put2_other _ _ (fun g => hz g.1)) (put2_same _ _ _ _) rfl
        simp only [Bool.or_eq_true, Bool.and_eq_true, decide_eq_true_eq] at h1
        rcases h1 with h | h
        · exact Or.inl h
        · exact Or.inr h.1
      · have hwt : f.waits = false := by
          cases hh : f.waits with
          | false => rfl
          | true => rw [hh] at h1; simp at h1
        by_cases h2 : (σ.cl (s / 2)).here ≠ some b
        · have : σ.hear b e s = σ.know b s (some { f with more := f.more + 1 }) := by unfold Net.hear; rw [hk]; dsimp only; rw [if_pos hc, if_neg h1, if_pos h2]
          rw [this]
          exact .lost f hk hw hm ⟨hwt, h2⟩ (fun z hz => put2_other _ _ (fun g => hz g.1)) (put2_same _ _ _ _) rfl
        · have : σ.hear b e s = σ.tell s e := by unfold Net.hear; rw [hk]; dsimp only; rw [if_pos hc, if_neg h1, if_neg h2]
          rw [this]
          refine .told f hk hw hm ⟨hwt, Classical.not_not.1 h2⟩ (fun _ => rfl) ?_
          unfold tldOf
          rw [tell_cl, if_pos rfl]
          unfold Cli.tell
          split
          · rfl
          · exact put_same _ _ _
    · have : σ.hear b e s = σ := by unfold Net.hear; rw [hk]; simp only [hc]; simp
      rw [this]
      refine .none (fun g hg hw => ?_) (fun _ => rfl) rfl
      rw [hk] at hg; cases hg
      cases hm : meets f.fl e.ev with
      | false => rfl
      | true => rw [hm, hw] at hc; simp at hc

theorem HearsAs.of {σ' τ' : Net} (h : HearsAs σ τ s b e) (h1 : Slc σ σ' s) (h2 : Slc τ τ' s) : HearsAs σ' τ' s b e := by
  have k1 : ∀ z, τ'.kn z s = τ.kn z s := h2.kn
  have k2 : ∀ z, σ'.kn z s = σ.kn z s := h1.kn
  cases h with
  | none hn hk ht => exact .none (fun f hf => hn f (by rw [← k2]; exact hf)) (fun z => by rw [k1, k2]; exact hk z) (by rw [h2.told, h1.told]; exact ht)
  | kept f hf hw hm hr hk hb ht => exact .kept f (by rw [k2]; exact hf) hw hm (by rw [h1.here]; exact hr) (fun z hz => by rw [k1, k2]; exact hk z hz) (by rw [k1]; exact hb) (by rw [h2.told, h1.told]; exact ht)
  | lost f hf hw hm hr hk hb ht => exact .lost f (by rw [k2]; exact hf) hw hm (by rw [h1.here]; exact hr) (fun z hz => by rw [k1, k2]; exact hk z hz) (by rw [k1]; exact hb) (by rw [h2.told, h1.told]; exact ht)
  | told f hf hw hm hr hk ht => exact .told f (by rw [k2]; exact hf) hw hm (by rw [h1.here]; exact hr) (fun z => by rw [k1, k2]; exact hk z) (by rw [h2.told, h1.told]; exact ht)

theorem happens_as (σ : Net) {s : Nat} (hs : s < 8) (b : Nat) (e : News) (fr : Option Nat) : HearsAs σ (σ.happens b e fr) s b e := by
  obtain ⟨l1, l2, hl, h1, h2⟩ : ∃ l1 l2, List.range 8 = l1 ++ s :: l2 ∧ s ∉ l1 ∧ s ∉ l2 := by
    refine ⟨List.range s, (List.range (7 - s)).map (· + (s + 1)), ?_, ?_, ?_⟩
    · rcases s with _ | _ | _ | _ | _ | _ | _ | _ | s
      all_goals first | rfl | omega
    · simp
    · simp only [List.mem_map, List.mem_range, not_exists, not_and]
      intro x _ hx
      omega
  have hh : (List.range 8).foldl (fun σ s => σ.hear b e s) σ = ((σ.hears b e l1).hear b e s).hears b e l2 := by
    show σ.hears b e (List.range 8) = _
    rw [hl]
    simp [Net.hears, List.foldl_append]
  unfold Net.happens
  rw [hh]
  exact (hear_as (σ.hears b e l1) s b e).of (slc_hears l1 σ h1).symm ((slc_hears l2 _ h2).trans (slc_pushAll b (.event e) _ _))
end

section
variable {σ : Net} {a b : Nat} {e : News} {r : List Fr}
theorem targets_nodup (σ : Net) (b : Nat) (e : News) (fr : Option Nat) : (σ.targets b e fr).Nodup := by
  unfold Net.targets
  exact List.nodup_range.sublist List.filter_sublist
theorem goes_event (G : Good σ) (hq : σ.q a b = .event e :: r) : Goes σ (Net.handle { σ with q := put2 σ.q a b r } b (some a) (.event e)) a b e r (σ.targets b e (some a)) := by
  have hn := G.nbr a b (by rw [hq]; simp)
  have hab := near_ne G.tree hn
  have hk := hears_keeps b e (List.range 8) { σ with q := put2 σ.q a b r }
  have hqq : ∀ u v, (Net.handle { σ with q := put2 σ.q a b r } b (some a) (.event e)).q u v = if u = b ∧ v ∈ σ.targets b e (some a) then put2 σ.q a b r u v ++ [.event e] else put2 σ.q a b r u v := fun u v => by
    show (Net.pushAll (Net.hears { σ with q := put2 σ.q a b r } b e (List.range 8)) b (σ.targets b e (some a)) (.event e)).q u v = _
    rw [q_pushAll _ _ _ _ (targets_nodup _ _ _ _), hk.2.1]
  refine ⟨?_, hq, ?_, fun z hz => ?_, fun u v h1 h2 => ?_⟩
  · show (Net.pushAll (Net.hears { σ with q := put2 σ.q a b r } b e (List.range 8)) b (σ.targets b e (some a)) (.event e)).par = _
    rw [pushAll_par, hk.1]
  · rw [hqq, if_neg (fun g => hab g.1), put2_same]
  · rw [hqq, if_pos ⟨rfl, hz⟩, put2_other _ _ (fun g => hab g.1.symm)]
  · rw [hqq, if_neg h2, put2_other _ _ h1]
theorem born_event (o : Nat) : Born σ (σ.happens o e none) o e (σ.targets o e none) := by
  have hk := hears_keeps o e (List.range 8) σ
  have hqq : ∀ u v, (σ.happens o e none).q u v = if u = o ∧ v ∈ σ.targets o e none then σ.q u v ++ [.event e] else σ.q u v := fun u v => by
    show (Net.pushAll (Net.hears σ o e (List.range 8)) o (σ.targets o e none) (.event e)).q u v = _
    rw [q_pushAll _ _ _ _ (targets_nodup _ _ _ _), hk.2.1]
  refine ⟨?_, fun z hz => ?_, fun u v h2 => ?_⟩
  · show (Net.pushAll (Net.hears σ o e (List.range 8)) o (σ.targets o e none) (.event e)).par = _
    rw [pushAll_par, hk.1]
  · rw [hqq, if_pos ⟨rfl, hz⟩]
  · rw [hqq, if_neg h2]
/-- Away from o. -/
theorem targets_on (G : Good σ) {o : Nat} (ho : o < σ.n) (hb : b < σ.n) (hba : b ≠ o → next σ.par b o = a) {fr : Option Nat} (hfr : b ≠ o → fr = some a) {z : Nat} (hz : z ∈ σ.targets b e fr) : z < σ.n ∧ z ≠ o ∧ next σ.par z o = b := by
  have T := G.tree
  obtain ⟨h1, h2, h3⟩ := targets_near G hz
  have hzb : near σ.par z b = true := by rw [near_comm]; exact h1
  by_cases hbo : b = o
  · subst hbo
    exact ⟨h3, fun e => near_ne T h1 e.symm, next_near T hzb⟩
  · have hza : z ≠ a := fun g => h2 (by rw [hfr hbo, g])
    refine ⟨h3, fun g => ?_, ?_⟩
    · subst g
      have := hba hbo
      rw [next_near T h1] at this
      exact hza this
    · have := branch T hb h3 ho (near_ne T hzb) (Or.inr (by rw [hba hbo, next_near T h1]; exact fun g => hza g.symm))
      rw [this]; exact next_near T hzb
end

/-- Events of a stay go away from where they were published. -/
def Outs (σ : Net) (P : News → Bool) (o : Nat) : Prop := ∀ w v e, e ∈ qP σ P w v → v < σ.n ∧ v ≠ o ∧ next σ.par v o = w
theorem Outs.goes {σ τ : Net} {P : News → Bool} {o a b : Nat} {e : News} {r : List Fr} {Z : List Nat} (O : Outs σ P o) (G : Goes σ τ a b e r Z) (hab : a ≠ b) (hZ : P e = true → ∀ z, z ∈ Z → z < σ.n ∧ z ≠ o ∧ next σ.par z o = b) : Outs τ P o := by
  intro w v x hx
  have hn : τ.n = σ.n := by unfold Net.n; rw [G.par]
  rw [hn, G.par]
  cases hp : P e with
  | false => rw [G.qP_other hp hab] at hx; exact O w v x hx
  | true =>
    by_cases g1 : w = a ∧ v = b
    · obtain ⟨rfl, rfl⟩ := g1
      exact O _ _ x (by rw [G.qP_head hp]; exact List.mem_cons_of_mem _ hx)
    · by_cases g2 : w = b ∧ v ∈ Z
      · obtain ⟨rfl, g2⟩ := g2
        exact hZ hp v g2
      · rw [G.qP_same g1 g2] at hx; exact O w v x hx
theorem Outs.born {σ τ : Net} {P : News → Bool} {o b : Nat} {e : News} {Z : List Nat} (O : Outs σ P o) (G : Born σ τ b e Z) (hZ : P e = true → ∀ z, z ∈ Z → z < σ.n ∧ z ≠ o ∧ next σ.par z o = b) : Outs τ P o := by
  intro w v x hx
  have hn : τ.n = σ.n := by unfold Net.n; rw [G.par]
  rw [hn, G.par]
  cases hp : P e with
  | false => rw [G.qP_other hp] at hx; exact O w v x hx
  | true =>
    by_cases g2 : w = b ∧ v ∈ Z
    · obtain ⟨rfl, g2⟩ := g2
      exact hZ hp v g2
    · rw [G.qP_same g2] at hx; exact O w v x hx

/-- All lead to h. -/
def Leads (σ : Net) (s : Nat) (fl : List Tst) (t : Nat → Nat) : Prop := ∀ z, z < σ.n → ∃ f, σ.kn z s = some f ∧ f.fl = fl ∧ f.way = wayTo σ.par z (t z)

section
variable {σ τ : Net} {s a b o h : Nat} {p st : Int} {fl : List Tst} {e : News} {r : List Fr} {Z : List Nat} {Rq L L' R : List News}
theorem keptOf_same (hk : τ.kn b s = σ.kn b s) : keepOf τ s b = keepOf σ s b := by unfold keepOf; rw [hk]

/-- What lies of it where, behind the event. -/
theorem HearsAs.kpt {P : News → Bool} (H : HearsAs σ τ s b e) : ∀ z x, x ∈ kpt τ s P z → x ∈ kpt σ s P z ∨ (x = e ∧ z = b) := fun z x hx => by
  have same : τ.kn z s = σ.kn z s → x ∈ Go.Proofs.Ytodfcpblcpogiaa.kpt σ s P z := fun g => by
    unfold Go.Proofs.Ytodfcpblcpogiaa.kpt at hx ⊢
    rw [g] at hx; exact hx
  cases H with
  | none hn hk ht => exact Or.inl (same (hk z))
  | told f hf hw hm hr hk ht => exact Or.inl (same (hk z))
  | kept f hf hw hm hr hk hb ht =>
    by_cases hz : z = b
    · subst hz
      unfold Go.Proofs.Ytodfcpblcpogiaa.kpt at hx ⊢
      rw [hb] at hx
      rw [hf]
      simp only [List.filter_append, List.mem_append] at hx
      rcases hx with hx | hx
      · exact Or.inl hx
      · exact Or.inr ⟨List.mem_singleton.1 (List.mem_filter.1 hx).1, rfl⟩
    · exact Or.inl (same (hk z hz))
  | lost f hf hw hm hr hk hb ht =>
    by_cases hz : z = b
    · subst hz
      unfold Go.Proofs.Ytodfcpblcpogiaa.kpt at hx ⊢
      rw [hb] at hx
      rw [hf]
      exact Or.inl hx
    · exact Or.inl (same (hk z hz))

/-- Another's event. -/
theorem Fo.evOther {P : News → Bool} {S : List News} {m : Nat} (F : Fo σ s P o Rq L S m) (T : Tree σ.par) (ho : o < σ.n) (hm : m < σ.n) (G : Goes σ τ a b e r Z) (hab : a ≠ b) (H : HearsAs σ τ s b e) (hp : P e = false) (hL : L' = L ∨ L' = e :: L) : Fo τ s P o Rq L' S m := by
  have F1 : Fo τ s P o Rq L S m := F.congr T ho hm G.par (G.qP_other hp hab) (fun z x hx => by
    rcases H.kpt z x hx with g | ⟨g, _⟩
    · exact g
    · subst g; have := kpt_P hx; rw [hp] at this; cases this)
  rcases hL with rfl | rfl
  · exact F1
  · exact F1.of (F1.whole.weakL hp) (fun x _ hx => hx.imp (List.mem_cons_of_mem _) id)

/-- It found no room. -/
def Lost (σ τ : Net) (s b : Nat) : Prop := ∃ f, σ.kn b s = some f ∧ τ.kn b s = some { f with more := f.more + 1 }
theorem not_lost (hk : τ.kn b s = σ.kn b s) : ¬ Lost σ τ s b := by
  rintro ⟨f, h1, h2⟩
  rw [hk, h1] at h2
  have := congrArg Fact.more (Option.some.inj h2)
  simp only at this
  omega

/-- At a broker that waits, or knows no HERE. -/
theorem HearsAs.aside (H : HearsAs σ τ s b e) (hw : ∀ f, σ.kn b s = some f → f.way = Option.none → f.waits = true) {m : Nat} (hm : m ≠ b) : keepOf τ s m = keepOf σ s m ∧ tldOf τ s = tldOf σ s ∧ ¬ Lost σ τ s b := by
  cases H with
  | none hn hk ht => exact ⟨keptOf_same (hk m), ht, not_lost (hk b)⟩
  | kept f hf hw' hm' hr hk hb ht =>
    refine ⟨keptOf_same (hk m hm), ht, ?_⟩
    rintro ⟨f', h1, h2⟩
    rw [hf] at h1; cases h1
    rw [hb] at h2
    have := congrArg (fun x : Fact => x.kept.length) (Option.some.inj h2)
    simp at this
  | lost f hf hw' hm' hr hk hb ht => have := hw f hf hw'; rw [hr.1] at this; cases this
  | told f hf hw' hm' hr hk ht => have := hw f hf hw'; rw [hr.1] at this; cases this

/-- The event of the stay; all on the way from o lead to h; who else knows it as HERE waits. -/
theorem Fo.evTo (F : Fo σ s (isStay p st fl) o Rq L ((tldOf σ s ++ R ++ keepOf σ s h).filter (isStay p st fl)) h) (G : Good σ) (ho : o < σ.n) (hh : h < σ.n) (O : Outs σ (isStay p st fl) o) (W : ∀ z, Anc σ.par o z h → ∃ f, σ.kn z s = some f ∧ f.fl = fl ∧ f.way = wayTo σ.par z h) (Wn : ∀ z f, ¬ Anc σ.par o z h → σ.kn z s = some f → f.way = none → f.waits = true) (hs : s < 8) (hq : σ.q a b = .event e :: r) (hp : isStay p st fl e = true)
    (hR : ∀ f, σ.kn h s = some f → f.waits = false → R = []) (hK : ∀ f, σ.kn h s = some f → f.waits = false → (σ.cl (s / 2)).here = some h → keepOf σ s h = [])
    (hm : ∀ d, d ∈ tldOf σ s → meets fl d.ev = true) (hu : ∀ d x, d ∈ tldOf σ s ++ [e] → x ∈ tldOf σ s ++ [e] → d.ev.pub = x.ev.pub → d.ev.num = x.ev.num → d = x)
    (hτ : τ = Net.handle { σ with q := put2 σ.q a b r } b (some a) (.event e)) (hH : HearsAs σ τ s b e) (hL : (Lost σ τ s b ∧ L' = e :: L) ∨ (¬ Lost σ τ s b ∧ L' = L)) :
    Fo τ s (isStay p st fl) o Rq L' ((tldOf τ s ++ R ++ keepOf τ s h).filter (isStay p st fl)) h := by
  have T := G.tree
  have hgo : Goes σ τ a b e r (σ.targets b e (some a)) := by rw [hτ]; exact goes_event G hq
  have hmem : e ∈ qP σ (isStay p st fl) a b := by rw [hgo.qP_head hp]; exact List.mem_cons_self ..
  obtain ⟨hb, hbo, hba⟩ := O a b e hmem
  have hZ : ∀ z, z ∈ σ.targets b e (some a) → z < σ.n ∧ z ≠ o ∧ next σ.par z o = b := fun z hz => targets_on G ho hb (fun _ => hba) (fun _ => rfl) hz
  have hme : meets fl e.ev = true := by simp only [isStay, Bool.and_eq_true] at hp; exact hp.2
  have hk := hH.kpt (P := isStay p st fl)
  have hfe : [e].filter (isStay p st fl) = [e] := by simp [hp]
  by_cases hbh : b = h
  · subst hbh
    obtain ⟨f, hf, hfl, hfw⟩ := W b .refl
    have hwn : f.way = none := by rw [hfw]; simp [wayTo]
    cases hH with
    | none hn _ _ => have := hn f hf hwn; rw [hfl, hme] at this; cases this
    | kept g hg hw hmg hr hkk hkb ht =>
      have hnl : ¬ Lost σ τ s b := by
        rintro ⟨f', h1, h2⟩
        rw [hg] at h1; cases h1
        rw [hkb] at h2
        have := congrArg (fun x : Fact => x.kept.length) (Option.some.inj h2)
        simp at this
      have hL' : L' = L := by rcases hL with g | g; exact absurd g.1 hnl; exact g.2
      subst hL'
      have e1 : keepOf τ s b = keepOf σ s b ++ [e] := by unfold keepOf; rw [hkb, hg]
      rw [ht, e1, show tldOf σ s ++ R ++ (keepOf σ s b ++ [e]) = (tldOf σ s ++ R ++ keepOf σ s b) ++ [e] by simp, List.filter_append, hfe]
      exact F.at T ho hb hbo hba hZ hgo hp hk (fun w => w.come) (fun x _ hx => by
        rcases hx with hx | hx | hx
        · exact Or.inl hx
        · exact Or.inr (List.mem_append_left _ hx)
        · exact Or.inr (by simp [hx]))
    | lost g hg hw hmg hr hkk hkb ht =>
      have hL' : L' = e :: L := by rcases hL with g' | g'; exact g'.2; exact absurd ⟨g, hg, hkb⟩ g'.1
      subst hL'
      have e1 : keepOf τ s b = keepOf σ s b := by unfold keepOf; rw [hkb, hg]
      rw [ht, e1]
      exact F.at T ho hb hbo hba hZ hgo hp hk (fun w => w.lose) (fun x _ hx => by
        rcases hx with hx | hx | hx
        · exact Or.inl (List.mem_cons_of_mem _ hx)
        · exact Or.inr hx
        · exact Or.inl (by simp [hx]))
    | told g hg hw hmg hr hkk ht =>
      have hL' : L' = L := by rcases hL with g' | g'; exact absurd g'.1 (not_lost (hkk b)); exact g'.2
      subst hL'
      have hR0 := hR g hg hr.1
      have hK0 := hK g hg hr.1 hr.2
      have e1 : keepOf τ s b = [] := by rw [keptOf_same (hkk b)]; exact hK0
      rw [hR0, hK0, List.append_nil, List.append_nil] at F
      rw [hR0, e1, List.append_nil, List.append_nil]
      have et : tldOf τ s = tellsL (tldOf σ s) [e] := by rw [ht]; rfl
      have hmm : ∀ d, d ∈ tldOf σ s ++ [e] → meets fl d.ev = true := fun d hd => by
        rcases List.mem_append.1 hd with hd | hd
        · exact hm d hd
        · rw [List.mem_singleton.1 hd]; exact hme
      refine F.at T ho hb hbo hba hZ hgo hp hk (fun w => ?_) (fun x hx hxx => ?_)
      · have w2 := Whole.tells (B := []) [e] (tldOf σ s) hmm hu (by rw [hfe, List.append_nil]; exact w.come)
        rw [List.append_nil, ← et] at w2
        exact w2
      · rcases hxx with hxx | hxx | hxx
        · exact Or.inl hxx
        · exact Or.inr (by rw [et]; exact List.mem_filter.2 ⟨tellsL_mem _ _ (List.mem_filter.1 hxx).1, (List.mem_filter.1 hxx).2⟩)
        · have hw := F.whole
          rw [hgo.comes T ho hb hbo hba hZ hp (Anc.root T ho _ _ rfl (by have := (up_step T ho hb hbo).2.1; rw [hba] at this; exact this))] at hw
          have w2 := Whole.tells (B := []) [e] (tldOf σ s) hmm hu (by rw [hfe, List.append_nil]; exact hw.come)
          rw [List.append_nil, ← et] at w2
          subst hxx
          by_cases ho' : outrun (tldOf σ s) x = true
          · -- it was outrun: what outran it came behind it
            unfold outrun at ho'
            rw [List.any_eq_true] at ho'
            obtain ⟨d, hd, hdd⟩ := ho'
            have hdd := of_decide_eq_true hdd
            have hpd : isStay p st fl d = true := by
              simp only [isStay, Bool.and_eq_true, decide_eq_true_eq] at hp ⊢
              exact ⟨⟨hdd.1.trans hp.1.1, hdd.2.1.trans hp.1.2⟩, hm d hd⟩
            have hdf : d ∈ (tldOf σ s).filter (isStay p st fl) := List.mem_filter.2 ⟨hd, hpd⟩
            by_cases hn : x.ev.num = d.ev.num
            · have : d = x := hu d x (List.mem_append_left _ hd) (by simp) hdd.1 hn.symm
              exact Or.inr (by rw [et]; exact List.mem_filter.2 ⟨tellsL_mem _ _ (this ▸ hd), hp⟩)
            · obtain ⟨A1, A2, hA⟩ := List.append_of_mem hdf
              have h1 : (tldOf σ s).filter (isStay p st fl) ++ x :: chn τ (isStay p st fl) o o b = A1 ++ d :: (A2 ++ x :: chn τ (isStay p st fl) o o b) := by rw [hA]; simp
              rcases hw.ord _ _ _ h1 x hx (by omega) with g' | g'
              · exact Or.inl g'
              · have : x ∈ (tldOf σ s).filter (isStay p st fl) := by rw [hA]; exact List.mem_append_left _ g'
                exact Or.inr (by rw [et]; exact List.mem_filter.2 ⟨tellsL_mem _ _ (List.mem_filter.1 this).1, hp⟩)
          · refine Or.inr (List.mem_filter.2 ⟨?_, hp⟩)
            rw [ht, if_neg ho']; simp
  · by_cases hbm : Anc σ.par o b h
    · obtain ⟨f, hf, hfl, hfw⟩ := W b hbm
      have hwn : f.way = some (next σ.par b h) := by rw [hfw]; simp [wayTo, hbh]
      have hbad : ∀ g : Fact, σ.kn b s = some g → g.way = none → False := fun g hg hw => by rw [hf] at hg; cases hg; rw [hwn] at hw; cases hw
      obtain ⟨hkk, ht⟩ : (∀ z, τ.kn z s = σ.kn z s) ∧ tldOf τ s = tldOf σ s := by
        cases hH with
        | none _ hk ht => exact ⟨hk, ht⟩
        | kept g hg hw => exact (hbad g hg hw).elim
        | lost g hg hw => exact (hbad g hg hw).elim
        | told g hg hw => exact (hbad g hg hw).elim
      have hL' : L' = L := by rcases hL with g' | g'; exact absurd g'.1 (not_lost (hkk b)); exact g'.2
      subst hL'
      rw [ht, show keepOf τ s h = keepOf σ s h from keptOf_same (hkk h)]
      refine F.on T ho hb hbo hba hZ hgo hp hh hbm hbh ?_ hk
      obtain ⟨w1, w2, w3, w4⟩ := hbm.on T ho hh hbh
      have hne : next σ.par b h ≠ a := fun g => by
        have u1 := up_step T ho hb hbo
        have u2 := up_step T ho w4 w1
        rw [w2] at u2
        rw [hba] at u1
        rw [g] at u2
        omega
      unfold Net.targets
      rw [List.mem_filter]
      refine ⟨List.mem_range.2 (Nat.lt_of_lt_of_le w4 (size_le T)), ?_⟩
      rw [Bool.and_eq_true, List.any_eq_true]
      refine ⟨decide_eq_true (fun g => hne (Option.some.inj g)), s, List.mem_range.2 hs, ?_⟩
      unfold Net.wants
      rw [hf]
      simp only [Bool.and_eq_true, decide_eq_true_eq]
      exact ⟨by rw [hfl]; exact hme, hwn⟩
    · obtain ⟨hkh, ht, hnl⟩ := hH.aside (Wn b · hbm) (fun g => hbh g.symm)
      have hL' : L' = L := by rcases hL with g' | g'; exact absurd g'.1 hnl; exact g'.2
      subst hL'
      rw [ht, hkh]
      exact F.off T ho hb hbo hba hZ hgo hp hh hbm hk
end

/-- What has come, of a subscription whose Move frame is on its way from y's neighbour to y, l1 ahead of it. -/
def SM (σ : Net) (s : Nat) (P : News → Bool) (o y old h : Nat) (l1 : List Fr) : List News := (tldOf σ s ++ keepOf σ s old).filter P ++ chn σ P o y old ++ (evs l1).filter P ++ kpt σ s P h

theorem want_mem {σ : Net} {s a b w : Nat} {e : News} {f : Fact} (hs : s < 8) (hf : σ.kn b s = some f) (hm : meets f.fl e.ev = true) (hw : f.way = some w) (hw6 : w < 6) (hne : w ≠ a) : w ∈ σ.targets b e (some a) := by
  unfold Net.targets
  rw [List.mem_filter]
  refine ⟨List.mem_range.2 hw6, ?_⟩
  rw [Bool.and_eq_true, List.any_eq_true]
  refine ⟨decide_eq_true (fun g => hne (Option.some.inj g)), s, List.mem_range.2 hs, ?_⟩
  unfold Net.wants
  rw [hf]
  simp only [Bool.and_eq_true, decide_eq_true_eq]
  exact ⟨hm, hw⟩

section
variable {σ τ : Net} {s a b o x y old h : Nat} {p st : Int} {fl : List Tst} {e : News} {r l1 l2 : List Fr} {Rq L L' : List News} {mf : Fr}

/-- Where the frames of the link stand. -/
theorem link_after {Z : List Nat} (G : Goes σ τ a b e r Z) (hab : a ≠ b) (hm : mf.news = none) (hq : σ.q x y = l1 ++ mf :: l2) :
    (a = x ∧ b = y ∧ ∃ l1', l1 = .event e :: l1' ∧ τ.q x y = l1' ++ mf :: l2) ∨ (¬ (a = x ∧ b = y) ∧ ∃ l2', τ.q x y = l1 ++ mf :: l2') := by
  by_cases g : a = x ∧ b = y
  · obtain ⟨rfl, rfl⟩ := g
    left
    refine ⟨rfl, rfl, ?_⟩
    have h1 := G.head
    rw [hq] at h1
    cases l1 with
    | nil =>
      simp only [List.nil_append, List.cons.injEq] at h1
      rw [h1.1] at hm; cases hm
    | cons f l1 =>
      simp only [List.cons_append, List.cons.injEq] at h1
      exact ⟨l1, by rw [h1.1], by rw [G.tail, ← h1.2]⟩
  · right
    refine ⟨g, ?_⟩
    by_cases g2 : x = b ∧ y ∈ Z
    · obtain ⟨rfl, g2⟩ := g2
      exact ⟨l2 ++ [.event e], by rw [G.push y g2, hq]; simp⟩
    · exact ⟨l2, by rw [G.same x y (fun k => g ⟨k.1.symm, k.2.symm⟩) g2, hq]⟩

theorem Fo.evMoving (F : Fo σ s (isStay p st fl) o Rq L (SM σ s (isStay p st fl) o y old h l1) h) (G : Good σ) (ho : o < σ.n) (hh : h < σ.n) (hol : old < σ.n) (O : Outs σ (isStay p st fl) o) (hs : s < 8)
    (hyo : y ≠ o) (hyx : next σ.par y o = x) (hyold : Anc σ.par o y old) (hyh : ¬ Anc σ.par o y h)
    (W1 : ∀ z, Anc σ.par o y z → z < σ.n → ∃ f, σ.kn z s = some f ∧ f.fl = fl ∧ f.way = wayTo σ.par z old) (W2 : ∀ z, ¬ Anc σ.par o y z → z < σ.n → ∃ f, σ.kn z s = some f ∧ f.fl = fl ∧ f.way = wayTo σ.par z h)
    (hwh : ∀ f, σ.kn h s = some f → f.waits = true) (hwo : ∀ f, σ.kn old s = some f → f.waits = false) (hhere : (σ.cl (s / 2)).here = some h)
    (hl : σ.q x y = l1 ++ mf :: l2) (hmf : mf.news = none) (hq : σ.q a b = .event e :: r) (hp : isStay p st fl e = true)
    (hτ : τ = Net.handle { σ with q := put2 σ.q a b r } b (some a) (.event e)) (hH : HearsAs σ τ s b e) (hL : (Lost σ τ s b ∧ L' = e :: L) ∨ (¬ Lost σ τ s b ∧ L' = L)) :
    ∃ l1' l2', τ.q x y = l1' ++ mf :: l2' ∧ Fo τ s (isStay p st fl) o Rq L' (SM τ s (isStay p st fl) o y old h l1') h := by
  have T := G.tree
  have hgo : Goes σ τ a b e r (σ.targets b e (some a)) := by rw [hτ]; exact goes_event G hq
  have hab : a ≠ b := near_ne T (G.nbr a b (by rw [hq]; simp))
  have hmem : e ∈ qP σ (isStay p st fl) a b := by rw [hgo.qP_head hp]; exact List.mem_cons_self ..
  obtain ⟨hb, hbo, hba⟩ := O a b e hmem
  have hZ : ∀ z, z ∈ σ.targets b e (some a) → z < σ.n ∧ z ≠ o ∧ next σ.par z o = b := fun z hz => targets_on G ho hb (fun _ => hba) (fun _ => rfl) hz
  have hme : meets fl e.ev = true := by simp only [isStay, Bool.and_eq_true] at hp; exact hp.2
  have hk := hH.kpt (P := isStay p st fl)
  have hfe : [e].filter (isStay p st fl) = [e] := by simp [hp]
  have hoh : old ≠ h := fun g => hyh (by rw [← g]; exact hyold)
  have hlink := link_after hgo hab hmf hl
  -- the next one is not where it came from
  have hnext : ∀ m, m < σ.n → Anc σ.par o b m → b ≠ m → next σ.par b m ≠ a ∧ next σ.par b m < 6 := fun m hm hbm hne => by
    obtain ⟨w1, w2, w3, w4⟩ := hbm.on T ho hm hne
    refine ⟨fun g => ?_, Nat.lt_of_lt_of_le w4 (size_le T)⟩
    have u1 := up_step T ho hb hbo
    have u2 := up_step T ho w4 w1
    rw [w2] at u2
    rw [hba] at u1
    rw [g] at u2
    omega
  by_cases hside : Anc σ.par o y b
  · -- beyond the link
    have hbm : ¬ Anc σ.par o b h := fun g => hyh (hside.trans g)
    have hbh : b ≠ h := fun g => hbm (by rw [g]; exact .refl)
    have F1 := F.off T ho hb hbo hba hZ hgo hp hh hbm hk
    obtain ⟨f, hf, hfl, hfw⟩ := W1 b hside hb
    have hkh : kpt τ s (isStay p st fl) h = kpt σ s (isStay p st fl) h := by
      rw [kpt_eq, kpt_eq]
      cases hH with
      | none _ hk _ => rw [keptOf_same (hk h)]
      | kept _ _ _ _ _ hk _ _ => rw [keptOf_same (hk h (fun g => hbh g.symm))]
      | lost _ _ _ _ _ hk _ _ => rw [keptOf_same (hk h (fun g => hbh g.symm))]
      | told _ _ _ _ _ hk _ => rw [keptOf_same (hk h)]
    by_cases hbold : b = old
    · -- it comes to the old home
      subst hbold
      have hwn : f.way = none := by rw [hfw]; simp [wayTo]
      -- where it stood
      obtain ⟨l1', l2', hl', A, hS, hS'⟩ : ∃ l1' l2', τ.q x y = l1' ++ mf :: l2' ∧ ∃ B, SM σ s (isStay p st fl) o y b h l1 = (tldOf σ s ++ keepOf σ s b).filter (isStay p st fl) ++ e :: B ∧ chn τ (isStay p st fl) o y b ++ (evs l1').filter (isStay p st fl) ++ kpt σ s (isStay p st fl) h = B := by
        rcases hlink with ⟨ga, gb, l1', g1, g2⟩ | ⟨g, l2', g2⟩
        · refine ⟨l1', l2, g2, _, ?_, rfl⟩
          unfold SM
          rw [g1, evs_event, List.filter_cons_of_pos hp, ← gb, chn_self, chn_self]
          simp
        · have hby : y ≠ b := fun k => g ⟨by rw [← hba, ← k]; exact hyx, k.symm⟩
          refine ⟨l1, l2', g2, _, ?_, rfl⟩
          unfold SM
          rw [hgo.comes T ho hb hbo hba hZ hp (anc_up hba hside hby)]
          simp
      refine ⟨l1', l2', hl', ?_⟩
      cases hH with
      | none hn _ _ => have := hn f hf hwn; rw [hfl, hme] at this; cases this
      | told g hg hw hmg hr hkk ht => rw [hhere] at hr; exact absurd (Option.some.inj hr.2).symm hbh
      | kept g hg hw hmg hr hkk hkb ht =>
        have hnl : ¬ Lost σ τ s b := by
          rintro ⟨f', h1, h2⟩
          rw [hg] at h1; cases h1
          rw [hkb] at h2
          have := congrArg (fun x : Fact => x.kept.length) (Option.some.inj h2)
          simp at this
        have hL' : L' = L := by rcases hL with g | g; exact absurd g.1 hnl; exact g.2
        subst hL'
        have e1 : keepOf τ s b = keepOf σ s b ++ [e] := by unfold keepOf; rw [hkb, hg]
        have : SM τ s (isStay p st fl) o y b h l1' = SM σ s (isStay p st fl) o y b h l1 := by
          rw [hS, ← hS']
          unfold SM
          rw [ht, e1, hkh, ← List.append_assoc, List.filter_append _ [e], hfe]
          simp
        rw [this]; exact F1
      | lost g hg hw hmg hr hkk hkb ht =>
        have hL' : L' = e :: L := by rcases hL with g' | g'; exact g'.2; exact absurd ⟨g, hg, hkb⟩ g'.1
        subst hL'
        have e1 : keepOf τ s b = keepOf σ s b := by unfold keepOf; rw [hkb, hg]
        have hSM : SM τ s (isStay p st fl) o y b h l1' = (tldOf σ s ++ keepOf σ s b).filter (isStay p st fl) ++ A := by
          rw [← hS']
          unfold SM
          rw [ht, e1, hkh]
          simp
        rw [hSM]
        rw [hS] at F1
        refine F1.of F1.whole.loseMid (fun z _ hz => ?_)
        simp only [List.mem_append, List.mem_cons] at hz ⊢
        rcases hz with hz | hz | hz | hz
        · exact Or.inl (Or.inr hz)
        · exact Or.inr (Or.inl hz)
        · exact Or.inl (Or.inl hz)
        · exact Or.inr (Or.inr hz)
    · -- it goes on, or nowhere
      have hwn : f.way = some (next σ.par b old) := by rw [hfw]; simp [wayTo, hbold]
      have hbad : ∀ g : Fact, σ.kn b s = some g → g.way = none → False := fun g hg hw => by rw [hf] at hg; cases hg; rw [hwn] at hw; cases hw
      obtain ⟨hkk, ht⟩ : (∀ z, τ.kn z s = σ.kn z s) ∧ tldOf τ s = tldOf σ s := by
        cases hH with
        | none _ hk ht => exact ⟨hk, ht⟩
        | kept g hg hw => exact (hbad g hg hw).elim
        | lost g hg hw => exact (hbad g hg hw).elim
        | told g hg hw => exact (hbad g hg hw).elim
      have hL' : L' = L := by rcases hL with g' | g'; exact absurd g'.1 (not_lost (hkk b)); exact g'.2
      subst hL'
      obtain ⟨l1', l2', hl', hc⟩ : ∃ l1' l2', τ.q x y = l1' ++ mf :: l2' ∧ chn τ (isStay p st fl) o y old ++ (evs l1').filter (isStay p st fl) = chn σ (isStay p st fl) o y old ++ (evs l1).filter (isStay p st fl) := by
        rcases hlink with ⟨ga, gb, l1', g1, g2⟩ | ⟨g, l2', g2⟩
        · refine ⟨l1', l2, g2, ?_⟩
          subst gb
          have hn := hnext old hol hyold hbold
          rw [hgo.enters T ho hb hbo hba hZ hp hol hyold hbold (want_mem hs hf (by rw [hfl]; exact hme) hwn hn.2 hn.1), g1, evs_event, List.filter_cons_of_pos hp]
          simp
        · have hby : y ≠ b := fun k => g ⟨by rw [← hba, ← k]; exact hyx, k.symm⟩
          refine ⟨l1, l2', g2, ?_⟩
          by_cases hbo2 : Anc σ.par o b old
          · have hn := hnext old hol hbo2 hbold
            rw [hgo.through T ho hb hbo hba hZ hp hol hbo2 (anc_up hba hside hby) hbold (want_mem hs hf (by rw [hfl]; exact hme) hwn hn.2 hn.1)]
          · rw [hgo.off T ho hb hbo hba hZ hol hyold (fun g => hbo2 g.1)]
      refine ⟨l1', l2', hl', ?_⟩
      have : SM τ s (isStay p st fl) o y old h l1' = SM σ s (isStay p st fl) o y old h l1 := by
        unfold SM
        rw [ht, keptOf_same (hkk old), hkh, List.append_assoc ((tldOf σ s ++ keepOf σ s old).filter _), hc]
        simp
      rw [this]; exact F1
  · -- on this side
    have hbold : b ≠ old := fun g => hside (by rw [g]; exact hyold)
    obtain ⟨l2', hl'⟩ : ∃ l2', τ.q x y = l1 ++ mf :: l2' := by
      rcases hlink with ⟨ga, gb, _⟩ | ⟨_, g⟩
      · exact absurd (by rw [gb]; exact .refl) hside
      · exact g
    refine ⟨l1, l2', hl', ?_⟩
    have hc : chn τ (isStay p st fl) o y old = chn σ (isStay p st fl) o y old := hgo.off T ho hb hbo hba hZ hol hyold (fun g => hside g.2)
    obtain ⟨f, hf, hfl, hfw⟩ := W2 b hside hb
    have hwt : ∀ g, σ.kn b s = some g → g.way = none → g.waits = true := fun g hg hw => by
      rw [hf] at hg; cases hg
      by_cases k : b = h
      · subst k; exact hwh f hf
      · rw [hfw] at hw; simp [wayTo, k] at hw
    obtain ⟨hko, ht, hnl⟩ := hH.aside hwt (m := old) (fun g => hbold g.symm)
    have hL' : L' = L := by rcases hL with g' | g'; exact absurd g'.1 hnl; exact g'.2
    subst hL'
    by_cases hbh : b = h
    · subst hbh
      have hwn : f.way = none := by rw [hfw]; simp [wayTo]
      have hkb : kpt τ s (isStay p st fl) b = kpt σ s (isStay p st fl) b ++ [e] := by
        rw [kpt_eq, kpt_eq]
        cases hH with
        | none hn _ _ => have := hn f hf hwn; rw [hfl, hme] at this; cases this
        | kept g hg _ _ _ _ hkb _ =>
          have : keepOf τ s b = keepOf σ s b ++ [e] := by unfold keepOf; rw [hkb, hg]
          rw [this, List.filter_append, hfe]
        | lost g hg hw _ hr _ _ _ => have := hwt g hg hw; rw [hr.1] at this; cases this
        | told g hg hw _ hr _ _ => have := hwt g hg hw; rw [hr.1] at this; cases this
      have : SM τ s (isStay p st fl) o y old b l1 = SM σ s (isStay p st fl) o y old b l1 ++ [e] := by
        unfold SM
        rw [ht, hko, hc, hkb]
        simp
      rw [this]
      exact F.at T ho hb hbo hba hZ hgo hp hk (fun w => w.come) (fun z _ hz => by
        rcases hz with hz | hz | hz
        · exact Or.inl hz
        · exact Or.inr (List.mem_append_left _ hz)
        · exact Or.inr (by simp [hz]))
    · have hkh : kpt τ s (isStay p st fl) h = kpt σ s (isStay p st fl) h := by
        rw [kpt_eq, kpt_eq, (hH.aside hwt (m := h) (fun g => hbh g.symm)).1]
      have : SM τ s (isStay p st fl) o y old h l1 = SM σ s (isStay p st fl) o y old h l1 := by
        unfold SM
        rw [ht, hko, hc, hkh]
      rw [this]
      by_cases hbm : Anc σ.par o b h
      · have hwn : f.way = some (next σ.par b h) := by rw [hfw]; simp [wayTo, hbh]
        have hn := hnext h hh hbm hbh
        exact F.on T ho hb hbo hba hZ hgo hp hh hbm hbh (want_mem hs hf (by rw [hfl]; exact hme) hwn hn.2 hn.1) hk
      · exact F.off T ho hb hbo hba hZ hgo hp hh hbm hk
end

/-- Of all stays nothing is missing. -/
inductive Fph (σ : Net) (s : Nat) (fl : List Tst) (org : Int → Int → Nat) (Rq : Int → Int → List News) (L : List News) : Prop
  | on (h : Nat) (hh : (σ.cl (s / 2)).home = some h) (hn : ∀ x y f, f ∈ σ.q x y → f.about s = false) (F : ∀ p st, Fo σ s (isStay p st fl) (org p st) (Rq p st) L ((tldOf σ s ++ [] ++ keepOf σ s h).filter (isStay p st fl)) h)
  | rest (h x y : Nat) (evs : List News) (more : Int) (hm : Fr.rest s evs more h ∈ σ.q x y) (F : ∀ p st, Fo σ s (isStay p st fl) (org p st) (Rq p st) L ((tldOf σ s ++ evs ++ keepOf σ s h).filter (isStay p st fl)) h)
  | move (h old x y : Nat) (age : Int) (l1 l2 : List Fr) (hq : σ.q x y = l1 ++ .move s age fl old h :: l2)
      (F1 : ∀ p st, ySide σ.par x y (org p st) → Fo σ s (isStay p st fl) (org p st) (Rq p st) L ((tldOf σ s ++ [] ++ keepOf σ s old).filter (isStay p st fl)) old)
      (F2 : ∀ p st, ¬ ySide σ.par x y (org p st) → Fo σ s (isStay p st fl) (org p st) (Rq p st) L (SM σ s (isStay p st fl) (org p st) y old h l1) h)

/-- What stands beside it. -/
structure Side (σ : Net) (s : Nat) (fl : List Tst) (org : Int → Int → Nat) (E : List News) : Prop where
  live : Live σ
  mvw : MvWay σ
  hs : s < 8
  slot : SlotS s (σ.view s)
  used : (σ.cl (s / 2)).used (s % 2) = true
  flt : (σ.cl (s / 2)).fl (s % 2) = fl
  mvs : ∀ x y f, f ∈ σ.q x y → f.about s = true → f.isMv = true
  olt : ∀ p st, org p st < σ.n
  outs : ∀ p st, Outs σ (isStay p st fl) (org p st)
  told : ∀ d, d ∈ tldOf σ s → meets fl d.ev = true
  pubs : Pubs E σ
  one : ∀ d x, d ∈ E → x ∈ E → d.ev.pub = x.ev.pub → d.ev.num = x.ev.num → d = x
  bare : ∀ b f, (σ.cl (s / 2)).here = some b → σ.kn b s = some f → f.waits = false → f.kept = []

theorem split_one {p q : Fr → Bool} {f : Fr} {l l1 l2 l1' l2' : List Fr} (hp : p f = true) (hq : q f = true) (h : (l.filter p).filter q = [f]) (e1 : l = l1 ++ f :: l2) (e2 : l = l1' ++ f :: l2') : l1 = l1' := by
  have none : ∀ a b, l = a ++ f :: b → f ∉ a := fun a b e hf => by
    rw [e] at h
    have h1 : ((a.filter p).filter q) ++ f :: ((b.filter p).filter q) = [f] := by
      rw [← h]; simp [List.filter_append, hp, hq]
    have h2 : f ∈ (a.filter p).filter q := List.mem_filter.2 ⟨List.mem_filter.2 ⟨hf, hp⟩, hq⟩
    have h3 := congrArg List.length h1
    simp only [List.length_append, List.length_cons, List.length_nil] at h3
    have h4 := List.length_pos_of_mem h2
    omega
  have n1 := none _ _ e1
  have n2 := none _ _ e2
  rw [e1] at e2
  rcases List.append_eq_append_iff.1 e2 with ⟨a, h1, h2⟩ | ⟨a, h1, h2⟩
  · cases a with
    | nil => simpa using h1.symm
    | cons g a =>
      simp only [List.cons_append, List.cons.injEq] at h2
      exact absurd (by rw [h1, ← h2.1]; simp) n2
  · cases a with
    | nil => simpa using h1
    | cons g a =>
      simp only [List.cons_append, List.cons.injEq] at h2
      exact absurd (by rw [h1, ← h2.1]; simp) n1

section
variable {σ : Net} {s : Nat} {fl : List Tst} {org : Int → Int → Nat} {E : List News}
theorem fact_of {z : Nat} {o : Co} (h : (σ.view s).co z = some o) : ∃ f, σ.kn z s = some f ∧ f.fl = o.fl ∧ f.way = o.way ∧ f.waits = o.waits := by
  have h : (σ.kn z s).map Fact.co = some o := h
  cases hk : σ.kn z s with
  | none => rw [hk] at h; cases h
  | some f =>
    rw [hk] at h
    cases h
    exact ⟨f, rfl, rfl, rfl, rfl⟩
theorem Side.leads (D : Side σ s fl org E) {t : Nat → Nat} (h : LedTo (σ.view s) t) : Leads σ s fl t := fun z hz => by
  obtain ⟨o, h1, h2, h3⟩ := h z hz
  obtain ⟨f, k1, k2, k3, _⟩ := fact_of h1
  exact ⟨f, k1, k2.trans (h2.trans D.flt), k3.trans h3⟩
theorem Side.mem_view (D : Side σ s fl org E) {x y : Nat} {f : Fr} (h : f ∈ σ.q x y) (ha : f.about s = true) : f ∈ (σ.view s).mv x y := List.mem_filter.2 ⟨List.mem_filter.2 ⟨h, ha⟩, D.mvs x y f h ha⟩

/-- At rest: all lead home. -/
theorem Side.on (D : Side σ s fl org E) {h : Nat} (hh : (σ.cl (s / 2)).home = some h) (hn : ∀ x y f, f ∈ σ.q x y → f.about s = false) : h < σ.n ∧ Leads σ s fl (fun _ => h) ∧ ∀ f, σ.kn h s = some f → f.waits = false := by
  have hq : ∀ x y, (σ.view s).q x y = [] := fun x y => by
    show (σ.q x y).filter (Fr.about s) = []
    rw [List.filter_eq_nil_iff]
    exact fun f hf => by rw [hn x y f hf]; simp
  have hhv : (σ.view s).home = some h := hh
  have huv : (σ.view s).used = true := D.used
  rcases D.slot.calm hq with ⟨h', _, h2, h3⟩ | ⟨h1, _⟩
  · rw [hhv] at h2; cases h2
    have hl : h < σ.n := by
      cases D.slot with
      | led h' _ h2 hl _ _ => rw [hhv] at h2; cases h2; exact hl
      | moving h' _ x y _ _ _ hm _ _ => rw [hq] at hm; cases hm
      | rising h' _ h2 hl _ _ => rw [hhv] at h2; cases h2; exact hl
      | fading hu _ _ => rw [huv] at hu; cases hu
    refine ⟨hl, D.leads h3, fun f hf => ?_⟩
    cases (D.live.view s D.hs).ph with
    | off hu _ _ => rw [huv] at hu; cases hu
    | on h' _ h2 hc _ _ =>
      rw [hhv] at h2; cases h2
      obtain ⟨g, g1, _, _, g4⟩ := fact_of hc
      rw [hf] at g1; cases g1; exact g4
    | moving h' old x y _ _ _ _ _ _ _ _ hm _ => have := hm.1; unfold View.mv at this; rw [hq] at this; cases this
    | resting h' x y evs more _ _ _ _ _ hm _ => have := hm.1; unfold View.mv at this; rw [hq] at this; cases this
  · rw [huv] at h1; cases h1
/-- What was kept comes behind: all lead home. -/
theorem Side.rest (D : Side σ s fl org E) {h x y : Nat} {evs : List News} {more : Int} (hm : Fr.rest s evs more h ∈ σ.q x y) : h < σ.n ∧ Leads σ s fl (fun _ => h) ∧ (∀ f, σ.kn h s = some f → f.waits = true) ∧ (σ.cl (s / 2)).here = some h ∧ ∀ e, e ∈ evs → meets fl e.ev = true := by
  have hab : (Fr.rest s evs more h).about s = true := by simp [Fr.about]
  have hmv := D.mem_view hm hab
  have huv : (σ.view s).used = true := D.used
  have hfv : (σ.view s).fl = fl := D.flt
  cases (D.live.view s D.hs).ph with
  | off hu _ _ => rw [huv] at hu; cases hu
  | on h' _ h2 hc _ hno => rw [hno x y] at hmv; cases hmv
  | moving h' old x' y' _ _ _ _ _ _ _ _ hon _ =>
    by_cases e : x = x' ∧ y = y'
    · obtain ⟨rfl, rfl⟩ := e; rw [hon.1] at hmv; cases List.mem_singleton.1 hmv
    · rw [hon.2 x y e] at hmv; cases hmv
  | resting h' x' y' evs' more' _ hh he hc _ hon hk =>
    have hq : ∀ a b f, f ∈ (σ.view s).q a b → f.isMv = true := fun a b f hf => by
      obtain ⟨k1, k2⟩ := List.mem_filter.1 hf
      exact D.mvs a b f k1 k2
    have e : x = x' ∧ y = y' := Classical.byContradiction fun e => by rw [hon.2 x y e] at hmv; cases hmv
    obtain ⟨rfl, rfl⟩ := e
    rw [hon.1] at hmv
    have := List.mem_singleton.1 hmv
    cases this
    obtain ⟨g, g1, _, _, g4⟩ := fact_of hc
    have hw : ∀ f, σ.kn h s = some f → f.waits = true := fun f hf => by rw [g1] at hf; cases hf; exact g4
    have hmt : ∀ e, e ∈ evs → meets fl e.ev = true := fun e he => by have := hk e he; rw [hfv] at this; exact this
    cases D.slot with
    | led h' _ h2 hl _ ht => rw [hh] at h2; cases h2; exact ⟨hl, D.leads ht, hw, he, hmt⟩
    | moving h' old a b _ h2 _ hmm hqq _ =>
      have h3 : Fr.move s (σ.view s).age (σ.view s).fl old h' ∈ (σ.view s).mv a b := List.mem_filter.2 ⟨hmm, rfl⟩
      by_cases e : a = x ∧ b = y
      · obtain ⟨rfl, rfl⟩ := e; rw [hon.1] at h3; cases List.mem_singleton.1 h3
      · rw [hon.2 a b e] at h3; cases h3
    | rising h' _ h2 hl hqq ht =>
      rw [hh] at h2; cases h2
      refine ⟨hl, D.leads (t := fun _ => h) (fun z hz => ?_), hw, he, hmt⟩
      rcases ht z hz with ⟨o, h1, _, h3, h4⟩ | ⟨_, u, w, h1, _⟩
      · exact ⟨o, h1, h3, h4⟩
      · have := hq u w _ h1; cases this
    | fading hu _ _ => rw [huv] at hu; cases hu
/-- One Move frame alone. -/
theorem Side.single (D : Side σ s fl org E) {h old x y : Nat} {age : Int} (hm : Fr.move s age fl old h ∈ σ.q x y) : (σ.view s).mv x y = [Fr.move s age fl old h] := by
  have hmv := D.mem_view hm (by simp [Fr.about])
  have huv : (σ.view s).used = true := D.used
  cases (D.live.view s D.hs).ph with
  | off hu _ _ => rw [huv] at hu; cases hu
  | on h' _ h2 hc _ hno => rw [hno x y] at hmv; cases hmv
  | resting h' x' y' evs' more' _ hh he hc _ hon hk =>
    by_cases e : x = x' ∧ y = y'
    · obtain ⟨rfl, rfl⟩ := e; rw [hon.1] at hmv; cases List.mem_singleton.1 hmv
    · rw [hon.2 x y e] at hmv; cases hmv
  | moving h' old' x' y' _ hh he hne hl hc hd _ hon hdi =>
    have e : x = x' ∧ y = y' := Classical.byContradiction fun e => by rw [hon.2 x y e] at hmv; cases hmv
    obtain ⟨rfl, rfl⟩ := e
    have h1 := hon.1
    rw [h1] at hmv
    rw [h1, ← List.mem_singleton.1 hmv]
/-- It moves. -/
theorem Side.moving (D : Side σ s fl org E) {h old x y : Nat} {age : Int} (hm : Fr.move s age fl old h ∈ σ.q x y) : h < σ.n ∧ old < σ.n ∧ old ≠ h ∧ Leads σ s fl (fun z => if ySide σ.par x y z then old else h) ∧ (∀ f, σ.kn h s = some f → f.waits = true) ∧ (∀ f, σ.kn old s = some f → f.waits = false) ∧ (σ.cl (s / 2)).here = some h ∧ dist σ.par y old < dist σ.par h old := by
  have hab : (Fr.move s age fl old h).about s = true := by simp [Fr.about]
  have hmv := D.mem_view hm hab
  have huv : (σ.view s).used = true := D.used
  cases (D.live.view s D.hs).ph with
  | off hu _ _ => rw [huv] at hu; cases hu
  | on h' _ h2 hc _ hno => rw [hno x y] at hmv; cases hmv
  | resting h' x' y' evs' more' _ hh he hc _ hon hk =>
    by_cases e : x = x' ∧ y = y'
    · obtain ⟨rfl, rfl⟩ := e; rw [hon.1] at hmv; cases List.mem_singleton.1 hmv
    · rw [hon.2 x y e] at hmv; cases hmv
  | moving h' old' x' y' _ hh he hne hl hc hd _ hon hdi =>
    have e : x = x' ∧ y = y' := Classical.byContradiction fun e => by rw [hon.2 x y e] at hmv; cases hmv
    obtain ⟨rfl, rfl⟩ := e
    rw [hon.1] at hmv
    have := List.mem_singleton.1 hmv
    simp only [Fr.move.injEq] at this
    obtain ⟨_, _, _, rfl, rfl⟩ := this
    obtain ⟨g, g1, _, _, g4⟩ := fact_of hc
    obtain ⟨g', g1', _, _, g4'⟩ := fact_of hd
    refine ⟨hl.1, hl.2, hne, ?_, fun f hf => by rw [g1] at hf; cases hf; exact g4, fun f hf => by rw [g1'] at hf; cases hf; exact g4', he, hdi⟩
    cases D.slot with
    | led h' _ h2 hl hqq ht => obtain ⟨_, _, k⟩ := hqq x y _ (List.mem_filter.1 (by rw [hon.1]; exact List.mem_cons_self .. : _ ∈ (σ.view s).mv x y)).1; cases k
    | moving h'' old'' a b _ h2 _ hmm hqq ht =>
      have h3 : Fr.move s (σ.view s).age (σ.view s).fl old'' h'' ∈ (σ.view s).mv a b := List.mem_filter.2 ⟨hmm, rfl⟩
      have e : a = x ∧ b = y := Classical.byContradiction fun e => by rw [hon.2 a b e] at h3; cases h3
      obtain ⟨rfl, rfl⟩ := e
      rw [hon.1] at h3
      have := List.mem_singleton.1 h3
      simp only [Fr.move.injEq] at this
      obtain ⟨_, _, _, rfl, rfl⟩ := this
      exact D.leads ht
    | rising h'' _ h2 hl hqq ht => obtain ⟨k, _⟩ := hqq x y _ (List.mem_filter.1 (by rw [hon.1]; exact List.mem_cons_self .. : _ ∈ (σ.view s).mv x y)).1; cases k
    | fading hu _ _ => rw [huv] at hu; cases hu
end

section
variable {σ τ : Net} {s a b : Nat} {e : News} {P : News → Bool}
theorem HearsAs.keptP (H : HearsAs σ τ s b e) (hp : P e = false) (z : Nat) : (keepOf τ s z).filter P = (keepOf σ s z).filter P := by
  have hfe : [e].filter P = [] := by simp [hp]
  cases H with
  | none _ hk _ => rw [keptOf_same (hk z)]
  | told _ _ _ _ _ hk _ => rw [keptOf_same (hk z)]
  | kept f hf _ _ _ hk hb _ =>
    by_cases hz : z = b
    · subst hz
      have : keepOf τ s z = keepOf σ s z ++ [e] := by unfold keepOf; rw [hb, hf]
      rw [this, List.filter_append, hfe, List.append_nil]
    · rw [keptOf_same (hk z hz)]
  | lost f hf _ _ _ hk hb _ =>
    by_cases hz : z = b
    · subst hz
      have : keepOf τ s z = keepOf σ s z := by unfold keepOf; rw [hb, hf]
      rw [this]
    · rw [keptOf_same (hk z hz)]
theorem HearsAs.toldP (H : HearsAs σ τ s b e) (hp : P e = false) : (tldOf τ s).filter P = (tldOf σ s).filter P := by
  have hfe : [e].filter P = [] := by simp [hp]
  cases H with
  | none _ _ ht => rw [ht]
  | kept _ _ _ _ _ _ _ ht => rw [ht]
  | lost _ _ _ _ _ _ _ ht => rw [ht]
  | told _ _ _ _ _ _ ht =>
    rw [ht]
    split
    · rfl
    · rw [List.filter_append, hfe, List.append_nil]
end

section
variable {σ τ : Net} {s a b : Nat} {fl : List Tst} {org : Int → Int → Nat} {Rq : Int → Int → List News} {L : List News} {E : List News} {e : News} {r : List Fr}

/-- AN EVENT IS HANDLED. -/
theorem Fph.event (X : Fph σ s fl org Rq L) (D : Side σ s fl org E) (hq : σ.q a b = .event e :: r) (hτ : τ = Net.handle { σ with q := put2 σ.q a b r } b (some a) (.event e)) :
    ∃ L', ((Lost σ τ s b ∧ L' = e :: L) ∨ (¬ Lost σ τ s b ∧ L' = L)) ∧ Fph τ s fl org Rq L' := by
  have G := D.live.good
  have T := G.tree
  have hgo : Goes σ τ a b e r (σ.targets b e (some a)) := by rw [hτ]; exact goes_event G hq
  have hab : a ≠ b := near_ne T (G.nbr a b (by rw [hq]; simp))
  have hH : HearsAs σ τ s b e := by
    rw [hτ]
    exact (happens_as { σ with q := put2 σ.q a b r } D.hs b e (some a)).of ⟨fun _ => rfl, rfl, rfl⟩ (Slc.refl _ _)
  have hview : τ.view s = σ.view s := by rw [hτ]; exact view_handle hq rfl
  have hhome : (τ.cl (s / 2)).home = (σ.cl (s / 2)).home := congrArg View.home hview
  have hfr : ∀ u v f, f ∈ τ.q u v → f ∈ σ.q u v ∨ f = .event e := fun u v f hf => by
    by_cases g1 : u = a ∧ v = b
    · obtain ⟨rfl, rfl⟩ := g1
      rw [hgo.tail] at hf; exact Or.inl (by rw [hgo.head]; exact List.mem_cons_of_mem _ hf)
    · by_cases g2 : u = b ∧ v ∈ σ.targets b e (some a)
      · obtain ⟨rfl, g2⟩ := g2
        rw [hgo.push v g2] at hf
        rcases List.mem_append.1 hf with hf | hf
        · exact Or.inl hf
        · exact Or.inr (List.mem_singleton.1 hf)
      · rw [hgo.same u v g1 g2] at hf; exact Or.inl hf
  have hkeep : ∀ u v f, f ∈ σ.q u v → f.news = none → f ∈ τ.q u v := fun u v f hf hn => by
    by_cases g1 : u = a ∧ v = b
    · obtain ⟨rfl, rfl⟩ := g1
      rw [hgo.tail]; rw [hgo.head] at hf
      rcases List.mem_cons.1 hf with hf | hf
      · rw [hf] at hn; cases hn
      · exact hf
    · by_cases g2 : u = b ∧ v ∈ σ.targets b e (some a)
      · obtain ⟨rfl, g2⟩ := g2
        rw [hgo.push v g2]; exact List.mem_append_left _ hf
      · rw [hgo.same u v g1 g2]; exact hf
  have heE : e ∈ E := D.pubs.fr a b (.event e) (by rw [hq]; exact List.mem_cons_self ..) e (List.mem_singleton.2 rfl)
  have hu : ∀ d x, d ∈ tldOf σ s ++ [e] → x ∈ tldOf σ s ++ [e] → d.ev.pub = x.ev.pub → d.ev.num = x.ev.num → d = x := by
    have hin : ∀ d, d ∈ tldOf σ s ++ [e] → d ∈ E := fun d hd => by
      rcases List.mem_append.1 hd with hd | hd
      · exact D.pubs.told _ _ d hd
      · rw [List.mem_singleton.1 hd]; exact heE
    exact fun d x hd hx => D.one d x (hin d hd) (hin x hx)
  obtain ⟨L', hL⟩ : ∃ L', (Lost σ τ s b ∧ L' = e :: L) ∨ (¬ Lost σ τ s b ∧ L' = L) := by
    by_cases h : Lost σ τ s b
    · exact ⟨_, Or.inl ⟨h, rfl⟩⟩
    · exact ⟨_, Or.inr ⟨h, rfl⟩⟩
  have hL2 : L' = L ∨ L' = e :: L := by rcases hL with h | h; exact Or.inr h.2; exact Or.inl h.2
  refine ⟨L', hL, ?_⟩
  have hS : ∀ p st (R : List News) (z : Nat), isStay p st fl e = false → (tldOf τ s ++ R ++ keepOf τ s z).filter (isStay p st fl) = (tldOf σ s ++ R ++ keepOf σ s z).filter (isStay p st fl) := fun p st R z hp => by
    rw [List.filter_append, List.filter_append, List.filter_append, List.filter_append, hH.toldP hp, hH.keptP hp]
  cases X with
  | on h hh hn F =>
    obtain ⟨hl, hled, hw⟩ := D.on hh hn
    refine .on h (hhome.trans hh) (fun x y f hf => ?_) (fun p st => ?_)
    · rcases hfr x y f hf with g | g
      · exact hn x y f g
      · rw [g]; rfl
    · cases hp : isStay p st fl e with
      | false => rw [hS p st [] h hp]; exact (F p st).evOther T (D.olt p st) hl hgo hab hH hp hL2
      | true =>
        refine (F p st).evTo G (D.olt p st) hl (D.outs p st) (fun z hz => hled z (hz.lt T (D.olt p st) hl)) (fun z f hz hf hw' => ?_) D.hs hq hp (fun _ _ _ => rfl) (fun f hf hwt hhr => ?_) D.told hu hτ hH hL
        · obtain ⟨g, g1, _, g3⟩ := hled z (G.facts z s f hf).bro
          rw [hf] at g1; cases g1
          have : z = h := Classical.byContradiction fun k => by rw [hw'] at g3; simp [wayTo, k] at g3
          exact absurd (by rw [this]; exact .refl) hz
        · unfold keepOf; rw [hf]; exact D.bare h f hhr hf hwt
  | rest h x y evs more hm F =>
    obtain ⟨hl, hled, hw, hhr, hmt⟩ := D.rest hm
    refine .rest h x y evs more (hkeep x y _ hm rfl) (fun p st => ?_)
    cases hp : isStay p st fl e with
    | false => rw [hS p st evs h hp]; exact (F p st).evOther T (D.olt p st) hl hgo hab hH hp hL2
    | true =>
      refine (F p st).evTo G (D.olt p st) hl (D.outs p st) (fun z hz => hled z (hz.lt T (D.olt p st) hl)) (fun z f hz hf hw' => ?_) D.hs hq hp (fun f hf hwt => ?_) (fun f hf hwt _ => ?_) D.told hu hτ hH hL
      · obtain ⟨g, g1, _, g3⟩ := hled z (G.facts z s f hf).bro
        rw [hf] at g1; cases g1
        have : z = h := Classical.byContradiction fun k => by rw [hw'] at g3; simp [wayTo, k] at g3
        exact absurd (by rw [this]; exact .refl) hz
      · have := hw f hf; rw [hwt] at this; cases this
      · have := hw f hf; rw [hwt] at this; cases this
  | move h old x y age l1 l2 hqm F1 F2 =>
    have hm : Fr.move s age fl old h ∈ σ.q x y := by rw [hqm]; simp
    obtain ⟨hl, hol, hoh, hled, hwh, hwo, hhr, hdi⟩ := D.moving hm
    have hnear := G.nbr x y (by rw [hqm]; simp)
    obtain ⟨m1, m2, m3⟩ := D.mvw x y s age fl old h hm
    have hyh : y ≠ h := fun g => by rw [g] at hdi; omega
    have hyn := (near_lt T hnear).2
    have hxn := (near_lt T hnear).1
    have sold : ySide σ.par x y old := ⟨fun g => m1 g.symm, m2⟩
    have sh : ¬ ySide σ.par x y h := fun g => by
      have k1 := next_step T hyn hl hyh
      have k2 := next_step T hxn hl (fun k => g.1 k.symm)
      rw [m3] at k1
      rw [g.2] at k2
      omega
    have hnone : ∀ z f, σ.kn z s = some f → f.way = none → (ySide σ.par x y z → z = old) ∧ (¬ ySide σ.par x y z → z = h) := fun z f hf hw' => by
      obtain ⟨g, g1, _, g3⟩ := hled z (G.facts z s f hf).bro
      rw [hf] at g1; cases g1
      rw [hw'] at g3
      constructor
      · intro k
        simp only [if_pos k] at g3
        exact Classical.byContradiction fun k' => by simp [wayTo, k'] at g3
      · intro k
        simp only [if_neg k] at g3
        exact Classical.byContradiction fun k' => by simp [wayTo, k'] at g3
    have hmn : (Fr.move s age fl old h).news = none := rfl
    obtain ⟨l1', l2', hl', hl1⟩ : ∃ l1' l2', τ.q x y = l1' ++ Fr.move s age fl old h :: l2' ∧ ((a = x ∧ b = y ∧ l1 = .event e :: l1') ∨ (¬ (a = x ∧ b = y) ∧ l1' = l1)) := by
      rcases link_after hgo hab hmn hqm with ⟨g1, g2, l1', g3, g4⟩ | ⟨g1, l2', g2⟩
      · exact ⟨l1', l2, g4, Or.inl ⟨g1, g2, g3⟩⟩
      · exact ⟨l1, l2', g2, Or.inr ⟨g1, rfl⟩⟩
    refine .move h old x y age l1' l2' hl' (fun p st hside => ?_) (fun p st hside => ?_)
    · rw [hgo.par] at hside
      have F := F1 p st hside
      cases hp : isStay p st fl e with
      | false => rw [hS p st [] old hp]; exact F.evOther T (D.olt p st) hol hgo hab hH hp hL2
      | true =>
        obtain ⟨k1, k2⟩ := (side_root T (D.olt p st) hnear).2 hside
        have hanc : ∀ z, Anc σ.par (org p st) z old → ySide σ.par x y z := fun z hz => by
          rw [side_other T (D.olt p st) hnear (hz.lt T (D.olt p st) hol) k1 k2]
          exact fun g => (side_other T (D.olt p st) hnear hol k1 k2).1 sold (g.trans hz)
        refine F.evTo G (D.olt p st) hol (D.outs p st) (fun z hz => ?_) (fun z f hz hf hw' => ?_) D.hs hq hp (fun _ _ _ => rfl) (fun f hf hwt hhr' => ?_) D.told hu hτ hH hL
        · obtain ⟨f, g1, g2, g3⟩ := hled z (hz.lt T (D.olt p st) hol)
          simp only [if_pos (hanc z hz)] at g3
          exact ⟨f, g1, g2, g3⟩
        · obtain ⟨n1, n2⟩ := hnone z f hf hw'
          by_cases k : ySide σ.par x y z
          · exact absurd (by rw [n1 k]; exact .refl) hz
          · have := n2 k; subst this; exact hwh f hf
        · rw [hhr] at hhr'; exact absurd (Option.some.inj hhr').symm hoh
    · rw [hgo.par] at hside
      have F := F2 p st hside
      obtain ⟨k1, k2⟩ := (side_root T (D.olt p st) hnear).1 hside
      have hanc : ∀ z, z < σ.n → (ySide σ.par x y z ↔ Anc σ.par (org p st) y z) := fun z hz => side_anc T (D.olt p st) hnear k1 k2 hz
      cases hp : isStay p st fl e with
      | false =>
        have hc : chn τ (isStay p st fl) (org p st) y old = chn σ (isStay p st fl) (org p st) y old := chn_congr T (D.olt p st) hgo.par hol ((hanc old hol).1 sold) (fun c _ _ _ _ => hgo.qP_other hp hab _ _)
        have : SM τ s (isStay p st fl) (org p st) y old h l1' = SM σ s (isStay p st fl) (org p st) y old h l1 := by
          unfold SM
          rw [hc, kpt_eq, kpt_eq, hH.keptP hp, List.filter_append, List.filter_append, hH.toldP hp, hH.keptP hp]
          rcases hl1 with ⟨_, _, g⟩ | ⟨_, g⟩
          · rw [g, evs_event, List.filter_cons_of_neg (by simp [hp])]
          · rw [g]
        rw [this]; exact F.evOther T (D.olt p st) hl hgo hab hH hp hL2
      | true =>
        obtain ⟨l1'', l2'', h1, h2⟩ := F.evMoving G (D.olt p st) hl hol (D.outs p st) D.hs k1 k2 ((hanc old hol).1 sold) (fun g => sh ((hanc h hl).2 g)) (fun z hz hzn => by
            obtain ⟨f, g1, g2, g3⟩ := hled z hzn
            simp only [if_pos ((hanc z hzn).2 hz)] at g3
            exact ⟨f, g1, g2, g3⟩) (fun z hz hzn => by
            obtain ⟨f, g1, g2, g3⟩ := hled z hzn
            simp only [if_neg (fun g => hz ((hanc z hzn).1 g))] at g3
            exact ⟨f, g1, g2, g3⟩) hwh hwo hhr hqm hmn hq hp hτ hH hL
        have hsg : (τ.view s).mv x y = [Fr.move s age fl old h] := by rw [hview]; exact D.single hm
        have hl2 : l1'' = l1' := split_one (p := Fr.about s) (q := Fr.isMv) (f := Fr.move s age fl old h) (by simp [Fr.about]) rfl hsg h1 hl'
        rw [hl2] at h2
        exact h2
end

/-- An event, or about it. -/
def Fr.mine (s : Nat) (f : Fr) : Bool := f.about s || f.news.isSome

theorem evs_mine (s : Nat) (l : List Fr) : evs (l.filter (Fr.mine s)) = evs l := by
  induction l with
  | nil => rfl
  | cons f l ih =>
    cases hm : Fr.mine s f with
    | true =>
      rw [List.filter_cons_of_pos hm]
      unfold evs at ih ⊢
      rw [List.filterMap_cons, List.filterMap_cons, ih]
    | false =>
      rw [List.filter_cons_of_neg (by simp [hm]), ih]
      have : f.news = none := by
        unfold Fr.mine at hm
        rw [Bool.or_eq_false_iff] at hm
        cases hn : f.news with
        | none => rfl
        | some e => rw [hn] at hm; simp at hm
      unfold evs
      rw [List.filterMap_cons, this]
theorem mine_split {s : Nat} {f : Fr} (hf : f.about s = true) {l l' l1 l2 : List Fr} (h : l'.filter (Fr.mine s) = l.filter (Fr.mine s)) (e : l = l1 ++ f :: l2) : ∃ l1' l2', l' = l1' ++ f :: l2' ∧ evs l1' = evs l1 := by
  have hm : Fr.mine s f = true := by unfold Fr.mine; rw [hf]; rfl
  rw [e, List.filter_append, List.filter_cons_of_pos hm] at h
  obtain ⟨a, b, h1, h2, h3⟩ := List.filter_eq_append_iff.1 h
  obtain ⟨c, d, k1, k2, _, _⟩ := List.filter_eq_cons_iff.1 h3
  refine ⟨a ++ c, d, by rw [h1, k1, List.append_assoc], ?_⟩
  rw [evs_append, ← evs_mine s a, h2, evs_mine]
  have : evs c = [] := by
    rw [← evs_mine s c, List.filter_eq_nil_iff.2 (fun x hx => k2 x hx)]; rfl
  rw [this, List.append_nil]
theorem qP_mine {σ τ : Net} {s : Nat} (h : ∀ u v, (τ.q u v).filter (Fr.mine s) = (σ.q u v).filter (Fr.mine s)) (P : News → Bool) (u v : Nat) : qP τ P u v = qP σ P u v := by
  unfold qP
  rw [← evs_mine s (τ.q u v), h, evs_mine]

section
variable {σ τ : Net} {s a b : Nat} {fl : List Tst} {org : Int → Int → Nat} {Rq : Int → Int → List News} {L : List News} {E : List News}

/-- What does not touch it. -/
theorem Fph.same (X : Fph σ s fl org Rq L) (D : Side σ s fl org E) (hp : τ.par = σ.par) (hF : ∀ u v, (τ.q u v).filter (Fr.mine s) = (σ.q u v).filter (Fr.mine s)) (hk : ∀ z, keepOf τ s z = keepOf σ s z) (ht : tldOf τ s = tldOf σ s) (hh : (τ.cl (s / 2)).home = (σ.cl (s / 2)).home) : Fph τ s fl org Rq L := by
  have T := D.live.good.tree
  have hq := fun P => qP_mine hF P
  have hkp : ∀ P z x, x ∈ kpt τ s P z → x ∈ kpt σ s P z := fun P z x hx => by rw [kpt_eq, hk] at hx; rw [kpt_eq]; exact hx
  have hmem : ∀ u v f, f.about s = true → (f ∈ τ.q u v ↔ f ∈ σ.q u v) := fun u v f hf => by
    have hm : Fr.mine s f = true := by unfold Fr.mine; rw [hf]; rfl
    have h1 : f ∈ (τ.q u v).filter (Fr.mine s) ↔ f ∈ (σ.q u v).filter (Fr.mine s) := by rw [hF]
    simpa [List.mem_filter, hm] using h1
  cases X with
  | on h hh' hn F =>
    obtain ⟨hl, _, _⟩ := D.on hh' hn
    refine .on h (hh.trans hh') (fun x y f hf => ?_) (fun p st => ?_)
    · cases hab : f.about s with
      | false => rfl
      | true => have := hn x y f ((hmem x y f hab).1 hf); rw [hab] at this; cases this
    · rw [ht, hk]; exact (F p st).congr T (D.olt p st) hl hp (hq _) (hkp _)
  | rest h x y evs more hm F =>
    obtain ⟨hl, _⟩ := D.rest hm
    refine .rest h x y evs more ((hmem x y _ (by simp [Fr.about])).2 hm) (fun p st => ?_)
    rw [ht, hk]; exact (F p st).congr T (D.olt p st) hl hp (hq _) (hkp _)
  | move h old x y age l1 l2 hqm F1 F2 =>
    have hm : Fr.move s age fl old h ∈ σ.q x y := by rw [hqm]; simp
    obtain ⟨hl, hol, _⟩ := D.moving hm
    have hnear := D.live.good.nbr x y (by rw [hqm]; simp)
    obtain ⟨m1, m2, m3⟩ := D.mvw x y s age fl old h hm
    obtain ⟨l1', l2', h1, h2⟩ := mine_split (s := s) (f := Fr.move s age fl old h) (by simp [Fr.about]) (hF x y) hqm
    refine .move h old x y age l1' l2' h1 (fun p st hside => ?_) (fun p st hside => ?_)
    · rw [hp] at hside
      rw [ht, hk]; exact (F1 p st hside).congr T (D.olt p st) hol hp (hq _) (hkp _)
    · rw [hp] at hside
      obtain ⟨k1, k2⟩ := (side_root T (D.olt p st) hnear).1 hside
      have hyold := (side_anc T (D.olt p st) hnear k1 k2 hol).1 ⟨fun g => m1 g.symm, m2⟩
      have : SM τ s (isStay p st fl) (org p st) y old h l1' = SM σ s (isStay p st fl) (org p st) y old h l1 := by
        unfold SM
        rw [ht, hk, kpt_eq, kpt_eq, hk, h2, chn_congr T (D.olt p st) hp hol hyold (fun c _ _ _ _ => hq _ _ _)]
      rw [this]
      exact (F2 p st hside).congr T (D.olt p st) hl hp (hq _) (hkp _)

/-- A MOVE FRAME IS HANDLED. -/
theorem Fph.moved (X : Fph σ s fl org Rq L) (D : Side σ s fl org E) (hold : ∀ p st d, d ∈ E → isStay p st fl d = true → d ∉ Rq p st → ∀ x, x ∈ Rq p st → ¬ x.ev.num < d.ev.num)
    {age : Int} {h old : Nat} {fl' : List Tst} {r : List Fr} (hq : σ.q a b = .move s age fl' old h :: r) (hτ : τ = Net.handle { σ with q := put2 σ.q a b r } b (some a) (.move s age fl' old h)) : Fph τ s fl org Rq L := by
  have G := D.live.good
  have T := G.tree
  have hm0 : Fr.move s age fl' old h ∈ σ.q a b := by rw [hq]; exact List.mem_cons_self ..
  have hmv := D.mem_view hm0 (by simp [Fr.about])
  -- it is the one
  cases X with
  | on h' _ hn _ => have := hn a b _ hm0; simp [Fr.about] at this
  | rest h' x y evs more hm _ =>
    exfalso
    have h2 := D.mem_view hm (by simp [Fr.about])
    cases (D.live.view s D.hs).ph with
    | off hu _ _ => have huv : (σ.view s).used = true := D.used; rw [huv] at hu; cases hu
    | on _ _ _ _ _ hno => rw [hno a b] at hmv; cases hmv
    | resting _ x' y' _ _ _ _ _ _ _ hon _ =>
      by_cases e : a = x' ∧ b = y'
      · obtain ⟨rfl, rfl⟩ := e; rw [hon.1] at hmv; cases List.mem_singleton.1 hmv
      · rw [hon.2 a b e] at hmv; cases hmv
    | moving _ _ x' y' _ _ _ _ _ _ _ _ hon _ =>
      by_cases e : x = x' ∧ y = y'
      · obtain ⟨rfl, rfl⟩ := e; rw [hon.1] at h2; cases List.mem_singleton.1 h2
      · rw [hon.2 x y e] at h2; cases h2
  | move h' old' x y age' l1 l2 hqm F1 F2 =>
    have hm : Fr.move s age' fl old' h' ∈ σ.q x y := by rw [hqm]; simp
    have hsg := D.single hm
    obtain ⟨hl, hol, hoh, hled, hwh, hwo, hhr, hdi⟩ := D.moving hm
    obtain ⟨rfl, rfl⟩ : a = x ∧ b = y := by
      cases (D.live.view s D.hs).ph with
      | off hu _ _ => have huv : (σ.view s).used = true := D.used; rw [huv] at hu; cases hu
      | on _ _ _ _ _ hno => rw [hno a b] at hmv; cases hmv
      | resting _ x' y' _ _ _ _ _ _ _ hon _ =>
        by_cases e : a = x' ∧ b = y'
        · obtain ⟨rfl, rfl⟩ := e; rw [hon.1] at hmv; cases List.mem_singleton.1 hmv
        · rw [hon.2 a b e] at hmv; cases hmv
      | moving _ _ x' y' _ _ _ _ _ _ _ _ hon _ =>
        have e1 : a = x' ∧ b = y' := Classical.byContradiction fun e => by rw [hon.2 a b e] at hmv; cases hmv
        have e2 : x = x' ∧ y = y' := Classical.byContradiction fun e => by have h2 := D.mem_view hm (by simp [Fr.about]); rw [hon.2 x y e] at h2; cases h2
        exact ⟨e1.1.trans e2.1.symm, e1.2.trans e2.2.symm⟩
    rw [hsg] at hmv
    have hsame := List.mem_singleton.1 hmv
    simp only [Fr.move.injEq] at hsame
    obtain ⟨_, rfl, rfl, rfl, rfl⟩ := hsame
    obtain rfl : [] = l1 := split_one (p := Fr.about s) (q := Fr.isMv) (f := Fr.move s age fl' old h) (by simp [Fr.about]) rfl hsg (l1 := []) (l2 := r) (by rw [hq]; rfl) hqm
    have hnear := G.nbr a b (by rw [hq]; simp)
    have hab := near_ne T hnear
    obtain ⟨m1, m2, m3⟩ := D.mvw a b s age fl' old h hm
    have hbn := (near_lt T hnear).2
    have han := (near_lt T hnear).1
    have hbh : b ≠ h := fun g => by rw [g] at hdi; omega
    have sold : ySide σ.par a b old := ⟨fun g => m1 g.symm, m2⟩
    have sh : ¬ ySide σ.par a b h := fun g => by
      have k1 := next_step T hbn hl hbh
      have k2 := next_step T han hl (fun k => g.1 k.symm)
      rw [m3] at k1
      rw [g.2] at k2
      omega
    -- the way from an origin beyond the link leads by b to h
    have hby : ∀ p st, ySide σ.par a b (org p st) → Anc σ.par (org p st) b h := fun p st hside => by
      obtain ⟨k1, k2⟩ := (side_root T (D.olt p st) hnear).2 hside
      have h1 : Anc σ.par (org p st) a h := Classical.byContradiction fun g => sh ((side_other T (D.olt p st) hnear hl k1 k2).2 g)
      exact Anc.trans (.step k1 (by rw [k2]; exact .refl)) h1
    have hun : ∀ p st d, Psd σ s (isStay p st fl') (org p st) b d → isStay p st fl' d = true → d ∉ Rq p st → ∀ x, x ∈ Rq p st → ¬ x.ev.num < d.ev.num := fun p st d hd hpd hdr => by
      refine hold p st d ?_ hpd hdr
      rcases hd with ⟨w, v, h1, _⟩ | ⟨z, h1, _⟩
      · exact D.pubs.fr w v _ (qP_mem.1 h1).1 d (List.mem_singleton.2 rfl)
      · unfold kpt at h1
        cases hk : σ.kn z s with
        | none => rw [hk] at h1; cases h1
        | some f => rw [hk] at h1; exact D.pubs.kn z s f hk d (List.mem_filter.1 h1).1
    by_cases hbo : b = old
    · -- it turns
      subst hbo
      obtain ⟨f, hf, hfl, hfw⟩ := hled b hbn
      have hτ' : τ = (Net.know { σ with q := put2 σ.q a b r } b s (some ⟨age, fl', some a, [], 0, false⟩)).push b a (.rest s f.kept f.more h) := by
        rw [hτ]
        simp only [Net.handle, if_true]
        rw [show ({ σ with q := put2 σ.q a b r } : Net).kn b s = some f from hf]
      have hqP : ∀ P u v, qP τ P u v = qP σ P u v := fun P u v => by
        unfold qP
        rw [hτ']
        show (evs (put2 (put2 σ.q a b r) b a (put2 σ.q a b r b a ++ [.rest s f.kept f.more h]) u v)).filter P = _
        by_cases e1 : u = b ∧ v = a
        · obtain ⟨rfl, rfl⟩ := e1
          rw [put2_same, put2_other _ _ (fun g => hab g.1.symm), evs_append]
          simp [evs, Fr.news]
        · rw [put2_other _ _ e1]
          by_cases e2 : u = a ∧ v = b
          · obtain ⟨rfl, rfl⟩ := e2
            rw [put2_same, hq]; rfl
          · rw [put2_other _ _ e2]
      have hkb : keepOf τ s b = [] := by
        have : τ.kn b s = some ⟨age, fl', some a, [], 0, false⟩ := by rw [hτ']; exact put2_same _ _ _ _
        unfold keepOf; rw [this]
      have hko : ∀ z, z ≠ b → keepOf τ s z = keepOf σ s z := fun z hz => by
        have : τ.kn z s = σ.kn z s := by rw [hτ']; exact put2_other _ _ (fun g => hz g.1)
        unfold keepOf; rw [this]
      have hkp : ∀ P z x, x ∈ kpt τ s P z → x ∈ kpt σ s P z := fun P z x hx => by
        rw [kpt_eq] at hx ⊢
        by_cases e : z = b
        · subst e; rw [hkb] at hx; cases hx
        · rw [hko z e] at hx; exact hx
      have hpar : τ.par = σ.par := by rw [hτ']; rfl
      have htl : tldOf τ s = tldOf σ s := by rw [hτ']; rfl
      have hfk : f.kept = keepOf σ s b := by unfold keepOf; rw [hf]
      refine .rest h b a f.kept f.more ?_ (fun p st => ?_)
      · rw [hτ']
        exact mem_push.2 (Or.inr ⟨rfl, rfl, rfl⟩)
      · rw [htl, hko h (fun g => hbh g.symm), hfk]
        by_cases hside : ySide σ.par a b (org p st)
        · have F := (F1 p st hside).switch T (D.olt p st) hol hl .refl (hby p st hside) (hun p st)
          rw [chn_self] at F
          have e1 : ((tldOf σ s ++ [] ++ keepOf σ s b).filter (isStay p st fl') ++ [] ++ kpt σ s (isStay p st fl') h) = (tldOf σ s ++ keepOf σ s b ++ keepOf σ s h).filter (isStay p st fl') := by
            rw [kpt_eq]; simp [List.filter_append]
          rw [e1] at F
          exact F.congr T (D.olt p st) hl hpar (hqP _) (hkp _)
        · have F := F2 p st hside
          have e1 : SM σ s (isStay p st fl') (org p st) b b h [] = (tldOf σ s ++ keepOf σ s b ++ keepOf σ s h).filter (isStay p st fl') := by
            unfold SM
            rw [chn_self, kpt_eq]; simp [List.filter_append, evs]
          rw [e1] at F
          exact F.congr T (D.olt p st) hl hpar (hqP _) (hkp _)
    · -- it goes on
      obtain ⟨z, hz⟩ : ∃ z, z = next σ.par b old := ⟨_, rfl⟩
      have hzs := next_step T hbn hol hbo
      rw [← hz] at hzs
      have hzb : z ≠ b := fun g => near_ne T hzs.1 g.symm
      obtain ⟨f, hf, hfl, hfw⟩ := hled b hbn
      have sb : ySide σ.par a b b := ySide_self T hnear
      simp only [if_pos sb] at hfw
      have hfk : keepOf σ s b = [] := by
        unfold keepOf; rw [hf]
        exact ((D.live.kept b s f hf).2 (by rw [hfw]; simp [wayTo, hbo])).1
      have hτ' : τ = (Net.know { σ with q := put2 σ.q a b r } b s (some ⟨age, fl', some a, [], 0, false⟩)).push b z (.move s age fl' old h) := by
        rw [hτ, hz]
        simp only [Net.handle, if_neg hbo]
      have hqbz : τ.q b z = σ.q b z ++ [.move s age fl' old h] := by
        rw [hτ']
        show put2 (put2 σ.q a b r) b z (put2 σ.q a b r b z ++ [.move s age fl' old h]) b z = _
        rw [put2_same, put2_other _ _ (fun g => hab g.1.symm)]
      have hqP : ∀ P u v, qP τ P u v = qP σ P u v := fun P u v => by
        unfold qP
        by_cases e1 : u = b ∧ v = z
        · obtain ⟨rfl, rfl⟩ := e1
          rw [hqbz, evs_append]
          simp [evs, Fr.news]
        · rw [hτ']
          show (evs (put2 (put2 σ.q a b r) b z (put2 σ.q a b r b z ++ [.move s age fl' old h]) u v)).filter P = _
          rw [put2_other _ _ e1]
          by_cases e2 : u = a ∧ v = b
          · obtain ⟨rfl, rfl⟩ := e2
            rw [put2_same, hq]; rfl
          · rw [put2_other _ _ e2]
      have hko : ∀ w, keepOf τ s w = keepOf σ s w := fun w => by
        by_cases e : w = b
        · subst e
          have : τ.kn w s = some ⟨age, fl', some a, [], 0, false⟩ := by rw [hτ']; exact put2_same _ _ _ _
          rw [hfk]; unfold keepOf; rw [this]
        · have : τ.kn w s = σ.kn w s := by rw [hτ']; exact put2_other _ _ (fun g => e g.1)
          unfold keepOf; rw [this]
      have hkp : ∀ P w x, x ∈ kpt τ s P w → x ∈ kpt σ s P w := fun P w x hx => by rw [kpt_eq, hko] at hx; rw [kpt_eq]; exact hx
      have hpar : τ.par = σ.par := by rw [hτ']; rfl
      have htl : tldOf τ s = tldOf σ s := by rw [hτ']; rfl
      have soldz : ySide σ.par b z old := ⟨fun g => hbo g.symm, hz.symm⟩
      have hza : z ≠ a := fun g => by
        have k1 := next_step T han hol m1
        rw [m2] at k1
        rw [g] at hzs
        omega
      refine .move h old b z age (σ.q b z) [] hqbz (fun p st hside => ?_) (fun p st hside => ?_)
      · rw [hpar] at hside
        rw [htl, hko]
        exact (F1 p st (ySide_back T hnear hzs.1 hza (D.olt p st) hside)).congr T (D.olt p st) hol hpar (hqP _) (hkp _)
      · rw [hpar] at hside
        obtain ⟨k1, k2⟩ := (side_root T (D.olt p st) hzs.1).1 hside
        have hzold := (side_anc T (D.olt p st) hzs.1 k1 k2 hol).1 soldz
        have hbz : Anc σ.par (org p st) b z := .step k1 (by rw [k2]; exact .refl)
        have hbold : Anc σ.par (org p st) b old := hbz.trans hzold
        have hcz : chn τ (isStay p st fl') (org p st) z old = chn σ (isStay p st fl') (org p st) z old := chn_congr T (D.olt p st) hpar hol hzold (fun c _ _ _ _ => hqP _ _ _)
        have hcb : chn σ (isStay p st fl') (org p st) b old = chn σ (isStay p st fl') (org p st) z old ++ (evs (σ.q b z)).filter (isStay p st fl') := by
          rw [chn_split T (D.olt p st) hol hbz hzold, chn_up T (D.olt p st) hzs.2.1 k1 hzb, k2, chn_self, List.append_nil]; rfl
        have e2 : SM τ s (isStay p st fl') (org p st) z old h (σ.q b z) = (tldOf σ s ++ keepOf σ s old).filter (isStay p st fl') ++ chn σ (isStay p st fl') (org p st) b old ++ kpt σ s (isStay p st fl') h := by
          unfold SM
          rw [htl, hko, hcz, kpt_eq, kpt_eq, hko, hcb]
          simp
        rw [e2]
        by_cases hside2 : ySide σ.par a b (org p st)
        · have F := (F1 p st hside2).switch T (D.olt p st) hol hl hbold (hby p st hside2) (hun p st)
          rw [List.append_nil] at F
          exact F.congr T (D.olt p st) hl hpar (hqP _) (hkp _)
        · have F := F2 p st hside2
          have e1 : SM σ s (isStay p st fl') (org p st) b old h [] = (tldOf σ s ++ keepOf σ s old).filter (isStay p st fl') ++ chn σ (isStay p st fl') (org p st) b old ++ kpt σ s (isStay p st fl') h := by
            unfold SM
            simp [evs]
          rw [e1] at F
          exact F.congr T (D.olt p st) hl hpar (hqP _) (hkp _)
end

theorem tellsL_app : ∀ (a b l : List News), tellsL l (a ++ b) = tellsL (tellsL l a) b
  | [], _, _ => rfl
  | _ :: a, b, _ => tellsL_app a b _
section
variable {Rq L C : List News}
/-- What was told, or outrun, is not missing. -/
theorem Whole.tellsMem {p st : Int} {fl : List Tst} {B : List News} : ∀ (r l : List News), (∀ d, d ∈ l ++ r → meets fl d.ev = true) → (∀ d x, d ∈ l ++ r → x ∈ l ++ r → d.ev.pub = x.ev.pub → d.ev.num = x.ev.num → d = x) →
    Whole (isStay p st fl) Rq L (l.filter (isStay p st fl) ++ r.filter (isStay p st fl) ++ B) C → ∀ x, x ∈ Rq → x ∈ (l ++ r).filter (isStay p st fl) → x ∈ L ∨ x ∈ (tellsL l r).filter (isStay p st fl)
  | [], l, _, _, _, x, _, hx => Or.inr (by simpa [tellsL] using hx)
  | e :: r, l, hm, hu, W, x, hxr, hx => by
    have k1 : ∀ d, d ∈ l ++ r → d ∈ l ++ e :: r := fun d hd => by
      rcases List.mem_append.1 hd with h | h
      · exact List.mem_append_left _ h
      · exact List.mem_append_right _ (List.mem_cons_of_mem _ h)
    have k2 : ∀ d, d ∈ (l ++ [e]) ++ r → d ∈ l ++ e :: r := fun d hd => by simpa using hd
    unfold tellsL
    by_cases ho : outrun l e = true
    · rw [if_pos ho]
      cases hp : isStay p st fl e with
      | false =>
        rw [List.filter_cons_of_neg (by simp [hp])] at W
        refine Whole.tellsMem r l (fun d hd => hm d (k1 d hd)) (fun d x hd hx => hu d x (k1 d hd) (k1 x hx)) W x hxr ?_
        rw [List.filter_append, List.filter_cons_of_neg (by simp [hp])] at hx
        rw [List.filter_append]; exact hx
      | true =>
        rw [List.filter_cons_of_pos hp] at W
        have W' : Whole (isStay p st fl) Rq L (l.filter (isStay p st fl) ++ e :: (r.filter (isStay p st fl) ++ B)) C := by simpa using W
        have key : e ∈ Rq → e ∈ L ∨ e ∈ l.filter (isStay p st fl) := fun he => by
          unfold outrun at ho
          rw [List.any_eq_true] at ho
          obtain ⟨d, hd, hdd⟩ := ho
          have hdd := of_decide_eq_true hdd
          have hpd : isStay p st fl d = true := by
            simp only [isStay, Bool.and_eq_true, decide_eq_true_eq] at hp ⊢
            exact ⟨⟨hdd.1.trans hp.1.1, hdd.2.1.trans hp.1.2⟩, hm d (List.mem_append_left _ hd)⟩
          have hdf : d ∈ l.filter (isStay p st fl) := List.mem_filter.2 ⟨hd, hpd⟩
          by_cases hn : e.ev.num = d.ev.num
          · have : d = e := hu d e (List.mem_append_left _ hd) (by simp) hdd.1 hn.symm
            exact Or.inr (this ▸ hdf)
          · obtain ⟨A1, A2, hA⟩ := List.append_of_mem hdf
            have h1 : (l.filter (isStay p st fl) ++ e :: (r.filter (isStay p st fl) ++ B)) ++ C = A1 ++ d :: (A2 ++ e :: (r.filter (isStay p st fl) ++ B) ++ C) := by rw [hA]; simp
            exact (W'.ord _ _ _ h1 e he (by omega)).imp id (fun g => by rw [hA]; exact List.mem_append_left _ g)
        have W2 : Whole (isStay p st fl) Rq L (l.filter (isStay p st fl) ++ r.filter (isStay p st fl) ++ B) C := by have := W'.drop key; simpa using this
        have IH := Whole.tellsMem r l (fun d hd => hm d (k1 d hd)) (fun d x hd hx => hu d x (k1 d hd) (k1 x hx)) W2 x hxr
        rw [List.filter_append, List.filter_cons_of_pos hp, List.mem_append, List.mem_cons] at hx
        rcases hx with hx | rfl | hx
        · exact IH (by rw [List.filter_append]; exact List.mem_append_left _ hx)
        · rcases key hxr with g | g
          · exact Or.inl g
          · exact IH (by rw [List.filter_append]; exact List.mem_append_left _ g)
        · exact IH (by rw [List.filter_append]; exact List.mem_append_right _ hx)
    · rw [if_neg ho]
      refine Whole.tellsMem (B := B) r (l ++ [e]) (fun d hd => hm d (k2 d hd)) (fun d x hd hx => hu d x (k2 d hd) (k2 x hx)) ?_ x hxr (by simpa using hx)
      have : (e :: r) = [e] ++ r := rfl
      rw [this, List.filter_append] at W
      rw [List.filter_append]
      simpa using W
end

section
variable {σ τ : Net} {s : Nat}
theorem tells_keep (s : Nat) : ∀ (l : List News) (σ : Net), (σ.tells s l).kn = σ.kn ∧ (σ.tells s l).q = σ.q ∧ (σ.tells s l).par = σ.par ∧ tldOf (σ.tells s l) s = tellsL (tldOf σ s) l ∧ ((σ.tells s l).cl (s / 2)).home = (σ.cl (s / 2)).home ∧ ((σ.tells s l).cl (s / 2)).here = (σ.cl (s / 2)).here
  | [], _ => ⟨rfl, rfl, rfl, rfl, rfl, rfl⟩
  | e :: l, σ => by
    obtain ⟨h1, h2, h3, h4, h5, h6⟩ := tells_keep s l (σ.tell s e)
    have ht : tldOf (σ.tell s e) s = if outrun (tldOf σ s) e then tldOf σ s else tldOf σ s ++ [e] := by
      unfold tldOf
      rw [tell_cl, if_pos rfl]
      unfold Cli.tell
      split
      · rfl
      · exact put_same _ _ _
    have hh : ((σ.tell s e).cl (s / 2)).home = (σ.cl (s / 2)).home ∧ ((σ.tell s e).cl (s / 2)).here = (σ.cl (s / 2)).here := by
      rw [tell_cl, if_pos rfl]
      unfold Cli.tell
      split <;> exact ⟨rfl, rfl⟩
    exact ⟨h1, h2, h3, by show tldOf ((σ.tell s e).tells s l) s = _; rw [h4, ht]; rfl, h5.trans hh.1, h6.trans hh.2⟩
theorem lose_keep (s : Nat) (m : Int) (σ : Net) : (σ.lose s m).kn = σ.kn ∧ (σ.lose s m).q = σ.q ∧ (σ.lose s m).par = σ.par ∧ tldOf (σ.lose s m) s = tldOf σ s ∧ ((σ.lose s m).cl (s / 2)).home = (σ.cl (s / 2)).home ∧ ((σ.lose s m).cl (s / 2)).here = (σ.cl (s / 2)).here := by
  have hc : (σ.lose s m).cl (s / 2) = (σ.cl (s / 2)).lose (s % 2) m := put_same _ _ _
  refine ⟨rfl, rfl, rfl, ?_, ?_, ?_⟩
  · unfold tldOf; rw [hc]; unfold Cli.lose; split <;> rfl
  · rw [hc]; unfold Cli.lose; split <;> rfl
  · rw [hc]; unfold Cli.lose; split <;> rfl

variable {fl : List Tst} {p st : Int} {o h : Nat} {Rq L R : List News} {E : List News}
/-- All that has come is told. -/
theorem Fo.tellAll (F : Fo σ s (isStay p st fl) o Rq L ((tldOf σ s ++ R ++ keepOf σ s h).filter (isStay p st fl)) h) (hm : ∀ d, d ∈ tldOf σ s ++ (R ++ keepOf σ s h) → meets fl d.ev = true) (hE : ∀ d, d ∈ tldOf σ s ++ (R ++ keepOf σ s h) → d ∈ E) (one : ∀ d x, d ∈ E → x ∈ E → d.ev.pub = x.ev.pub → d.ev.num = x.ev.num → d = x) :
    Fo σ s (isStay p st fl) o Rq L ((tellsL (tldOf σ s) (R ++ keepOf σ s h) ++ [] ++ []).filter (isStay p st fl)) h := by
  have hu : ∀ d x, d ∈ tldOf σ s ++ (R ++ keepOf σ s h) → x ∈ tldOf σ s ++ (R ++ keepOf σ s h) → d.ev.pub = x.ev.pub → d.ev.num = x.ev.num → d = x := fun d x hd hx => one d x (hE d hd) (hE x hx)
  have W : Whole (isStay p st fl) Rq L ((tldOf σ s).filter (isStay p st fl) ++ (R ++ keepOf σ s h).filter (isStay p st fl) ++ []) (chn σ (isStay p st fl) o o h) := by
    have := F.whole
    rw [List.append_assoc, List.filter_append] at this
    rw [List.append_nil]; exact this
  refine F.of ?_ (fun x hx hxx => ?_)
  · have := Whole.tells (R ++ keepOf σ s h) (tldOf σ s) hm hu W
    simpa using this
  · rcases hxx with hxx | hxx
    · exact Or.inl hxx
    · have := Whole.tellsMem (R ++ keepOf σ s h) (tldOf σ s) hm hu W x hx (by rw [← List.append_assoc]; exact hxx)
      simpa using this
end

section
variable {σ τ : Net} {s a b : Nat} {fl : List Tst} {org : Int → Int → Nat} {Rq : Int → Int → List News} {L : List News} {E : List News}
theorem Side.keptE (D : Side σ s fl org E) {z : Nat} {f : Fact} (hf : σ.kn z s = some f) (hw : f.way = none) (hfl : f.fl = fl) : ∀ d, d ∈ keepOf σ s z → d ∈ E ∧ meets fl d.ev = true := fun d hd => by
  unfold keepOf at hd
  rw [hf] at hd
  exact ⟨D.pubs.kn z s f hf d hd, by have := (D.live.kept z s f hf).1 hw d hd; rw [hfl] at this; exact this⟩

/-- A REST FRAME IS HANDLED. -/
theorem Fph.rested (X : Fph σ s fl org Rq L) (D : Side σ s fl org E) {h : Nat} {evs0 : List News} {more : Int} {r : List Fr} (hq : σ.q a b = .rest s evs0 more h :: r) (hτ : τ = Net.handle { σ with q := put2 σ.q a b r } b (some a) (.rest s evs0 more h)) : Fph τ s fl org Rq L := by
  have G := D.live.good
  have T := G.tree
  have hm0 : Fr.rest s evs0 more h ∈ σ.q a b := by rw [hq]; exact List.mem_cons_self ..
  have hmv := D.mem_view hm0 (by simp [Fr.about])
  have huv : (σ.view s).used = true := D.used
  obtain ⟨hl, hled, hw, hhr, hmt⟩ := D.rest hm0
  obtain ⟨hon, hhome⟩ : (σ.view s).only a b (.rest s evs0 more h) ∧ (σ.cl (s / 2)).home = some h := by
    cases (D.live.view s D.hs).ph with
    | off hu _ _ => rw [huv] at hu; cases hu
    | on _ _ _ _ _ hno => rw [hno a b] at hmv; cases hmv
    | moving _ _ x' y' _ _ _ _ _ _ _ _ hon _ =>
      by_cases e : a = x' ∧ b = y'
      · obtain ⟨rfl, rfl⟩ := e; rw [hon.1] at hmv; cases List.mem_singleton.1 hmv
      · rw [hon.2 a b e] at hmv; cases hmv
    | resting h' x' y' evs' more' _ hh _ _ _ hon _ =>
      have e1 : a = x' ∧ b = y' := Classical.byContradiction fun e => by rw [hon.2 a b e] at hmv; cases hmv
      obtain ⟨rfl, rfl⟩ := e1
      have h1 := hmv
      rw [hon.1] at h1
      have h2 := List.mem_singleton.1 h1
      cases h2
      exact ⟨hon, hh⟩
  have hpop : ∀ u v f, f ∈ put2 σ.q a b r u v → f.about s = false := fun u v f hf => by
    cases hab : f.about s with
    | false => rfl
    | true =>
      exfalso
      by_cases e : u = a ∧ v = b
      · obtain ⟨rfl, rfl⟩ := e
        rw [put2_same] at hf
        have h1 := hon.1
        unfold View.mv at h1
        have h2 : (σ.view s).q u v = (σ.q u v).filter (Fr.about s) := rfl
        rw [h2, hq, List.filter_cons_of_pos (by simp [Fr.about]), List.filter_cons_of_pos rfl] at h1
        have h3 : f ∈ (r.filter (Fr.about s)).filter Fr.isMv := List.mem_filter.2 ⟨List.mem_filter.2 ⟨hf, hab⟩, D.mvs u v f (by rw [hq]; exact List.mem_cons_of_mem _ hf) hab⟩
        rw [(List.cons.inj h1).2] at h3; cases h3
      · rw [put2_other _ _ e] at hf
        have := D.mem_view hf hab
        rw [hon.2 u v e] at this; cases this
  have hnear := G.nbr a b (by rw [hq]; simp)
  have hab := near_ne T hnear
  -- it is the one
  obtain ⟨F⟩ : Nonempty (PLift (∀ p st, Fo σ s (isStay p st fl) (org p st) (Rq p st) L ((tldOf σ s ++ evs0 ++ keepOf σ s h).filter (isStay p st fl)) h)) := by
    cases X with
    | on h' _ hn _ => have := hn a b _ hm0; simp [Fr.about] at this
    | rest h' x y evs1 more1 hm F =>
      have h1 := D.mem_view hm (by simp [Fr.about])
      have e : x = a ∧ y = b := Classical.byContradiction fun e => by rw [hon.2 x y e] at h1; cases h1
      obtain ⟨rfl, rfl⟩ := e
      rw [hon.1] at h1
      have h2 := List.mem_singleton.1 h1
      cases h2
      exact ⟨⟨F⟩⟩
    | move h' old x y age l1 l2 hqm _ _ =>
      have h1 := D.mem_view (x := x) (y := y) (f := Fr.move s age fl old h') (by rw [hqm]; simp) (by simp [Fr.about])
      by_cases e : x = a ∧ y = b
      · obtain ⟨rfl, rfl⟩ := e; rw [hon.1] at h1; cases List.mem_singleton.1 h1
      · rw [hon.2 x y e] at h1; cases h1
  have F := F.down
  by_cases hbh : b = h
  · subst hbh
    obtain ⟨f, hf, hfl, hfw⟩ := hled b hl
    have hwn : f.way = none := by rw [hfw]; simp [wayTo]
    have hτ' : τ = (((Net.lose { σ with q := put2 σ.q a b r } s more).tells s evs0).tells s f.kept).know b s (some { f with kept := [], waits := false }) := by
      rw [hτ]
      simp only [Net.handle, ne_eq, not_true_eq_false, if_false]
      rw [show ({ σ with q := put2 σ.q a b r } : Net).kn b s = some f from hf]
    have k0 := lose_keep s more { σ with q := put2 σ.q a b r }
    have k1 := tells_keep s evs0 (Net.lose { σ with q := put2 σ.q a b r } s more)
    have k2 := tells_keep s f.kept ((Net.lose { σ with q := put2 σ.q a b r } s more).tells s evs0)
    have hqτ : τ.q = put2 σ.q a b r := by rw [hτ']; exact k2.2.1.trans (k1.2.1.trans k0.2.1)
    have hpar : τ.par = σ.par := by rw [hτ']; exact k2.2.2.1.trans (k1.2.2.1.trans k0.2.2.1)
    have hfk : f.kept = keepOf σ s b := by unfold keepOf; rw [hf]
    have htl : tldOf τ s = tellsL (tldOf σ s) (evs0 ++ keepOf σ s b) := by
      have : tldOf τ s = tldOf (((Net.lose { σ with q := put2 σ.q a b r } s more).tells s evs0).tells s f.kept) s := by rw [hτ']; rfl
      rw [this, k2.2.2.2.1, k1.2.2.2.1, k0.2.2.2.1, tellsL_app, hfk]; rfl
    have hkb : keepOf τ s b = [] := by
      have : τ.kn b s = some { f with kept := [], waits := false } := by rw [hτ']; exact put2_same _ _ _ _
      unfold keepOf; rw [this]
    have hko : ∀ z, z ≠ b → keepOf τ s z = keepOf σ s z := fun z hz => by
      have : τ.kn z s = σ.kn z s := by
        rw [hτ']
        show put2 _ b s _ z s = _
        rw [put2_other _ _ (fun g => hz g.1), k2.1, k1.1, k0.1]
      unfold keepOf; rw [this]
    have hhm : (τ.cl (s / 2)).home = some b := by
      have : (τ.cl (s / 2)).home = ((((Net.lose { σ with q := put2 σ.q a b r } s more).tells s evs0).tells s f.kept).cl (s / 2)).home := by rw [hτ']; rfl
      rw [this, k2.2.2.2.2.1, k1.2.2.2.2.1, k0.2.2.2.2.1]; exact hhome
    have hqP : ∀ P u v, qP τ P u v = qP σ P u v := fun P u v => by
      unfold qP
      rw [hqτ]
      by_cases e2 : u = a ∧ v = b
      · obtain ⟨rfl, rfl⟩ := e2
        rw [put2_same, hq]; rfl
      · rw [put2_other _ _ e2]
    have hkE := D.keptE hf hwn hfl
    have hmE : ∀ d, d ∈ tldOf σ s ++ (evs0 ++ keepOf σ s b) → d ∈ E ∧ meets fl d.ev = true := fun d hd => by
      rcases List.mem_append.1 hd with hd | hd
      · exact ⟨D.pubs.told _ _ d hd, D.told d hd⟩
      · rcases List.mem_append.1 hd with hd | hd
        · exact ⟨D.pubs.fr a b _ hm0 d hd, hmt d hd⟩
        · exact hkE d hd
    refine .on b hhm (fun x y g hg => by rw [hqτ] at hg; exact hpop x y g hg) (fun p st => ?_)
    rw [htl, hkb]
    refine ((F p st).tellAll (E := E) (fun d hd => (hmE d hd).2) (fun d hd => (hmE d hd).1) D.one).congr T (D.olt p st) hl hpar (hqP _) (fun z x hx => ?_)
    rw [kpt_eq] at hx ⊢
    by_cases e : z = b
    · subst e; rw [hkb] at hx; cases hx
    · rw [hko z e] at hx; exact hx
  · have hτ' : τ = ({ σ with q := put2 σ.q a b r } : Net).push b (next σ.par b h) (.rest s evs0 more h) := by
      rw [hτ]
      simp only [Net.handle, if_pos hbh]
    have hqP : ∀ P u v, qP τ P u v = qP σ P u v := fun P u v => by
      unfold qP
      rw [hτ']
      show (evs (put2 (put2 σ.q a b r) b (next σ.par b h) (put2 σ.q a b r b (next σ.par b h) ++ [.rest s evs0 more h]) u v)).filter P = _
      by_cases e1 : u = b ∧ v = next σ.par b h
      · obtain ⟨rfl, rfl⟩ := e1
        rw [put2_same, put2_other _ _ (fun g => hab g.1.symm), evs_append]
        simp [evs, Fr.news]
      · rw [put2_other _ _ e1]
        by_cases e2 : u = a ∧ v = b
        · obtain ⟨rfl, rfl⟩ := e2
          rw [put2_same, hq]; rfl
        · rw [put2_other _ _ e2]
    have hko : ∀ z, keepOf τ s z = keepOf σ s z := fun z => by rw [hτ']; rfl
    have htl : tldOf τ s = tldOf σ s := by rw [hτ']; rfl
    refine .rest h b (next σ.par b h) evs0 more ?_ (fun p st => ?_)
    · rw [hτ']; exact mem_push.2 (Or.inr ⟨rfl, rfl, rfl⟩)
    · rw [htl, hko]
      exact (F p st).congr T (D.olt p st) hl (by rw [hτ']; rfl) (hqP _) (fun z x hx => by rw [kpt_eq, hko] at hx; rw [kpt_eq]; exact hx)
end

theorem want_mem' {σ : Net} {s b w : Nat} {e : News} {f : Fact} (hs : s < 8) (hf : σ.kn b s = some f) (hm : meets f.fl e.ev = true) (hw : f.way = some w) (hw6 : w < 6) : w ∈ σ.targets b e none := by
  unfold Net.targets
  rw [List.mem_filter]
  refine ⟨List.mem_range.2 hw6, ?_⟩
  rw [Bool.and_eq_true, List.any_eq_true]
  refine ⟨decide_eq_true (fun g => by cases g), s, List.mem_range.2 hs, ?_⟩
  unfold Net.wants
  rw [hf]
  simp only [Bool.and_eq_true, decide_eq_true_eq]
  exact ⟨hm, hw⟩

section
variable {σ τ : Net} {s o m : Nat} {p st : Int} {fl : List Tst} {e : News} {Rq L L' R : List News} {E : List News}
theorem Psd.inE {P : News → Bool} {u : Nat} {d : News} (B : Pubs E σ) (h : Psd σ s P o u d) : d ∈ E := by
  rcases h with ⟨w, v, h1, _⟩ | ⟨z, h1, _⟩
  · exact B.fr w v _ (qP_mem.1 h1).1 d (List.mem_singleton.2 rfl)
  · unfold kpt at h1
    cases hk : σ.kn z s with
    | none => rw [hk] at h1; cases h1
    | some f => rw [hk] at h1; exact B.kn z s f hk d (List.mem_filter.1 h1).1
theorem chn_inE {P : News → Bool} {u : Nat} {d : News} (B : Pubs E σ) (T : Tree σ.par) (ho : o < σ.n) (hm : m < σ.n) (hum : Anc σ.par o u m) (h : d ∈ chn σ P o u m) : d ∈ E ∧ P d = true := by
  obtain ⟨c, _, _, _, _, h5⟩ := chn_mem T ho hm hum h
  exact ⟨B.fr _ _ _ (qP_mem.1 h5).1 d (List.mem_singleton.2 rfl), qP_P h5⟩
/-- Another's. -/
theorem Fo.pubOther {P : News → Bool} {S : List News} (F : Fo σ s P o Rq L S m) (T : Tree σ.par) (ho : o < σ.n) (hm : m < σ.n) {b : Nat} {Z : List Nat} (G : Born σ τ b e Z) (H : HearsAs σ τ s b e) (hp : P e = false) (hL : L' = L ∨ L' = e :: L) : Fo τ s P o Rq L' S m := by
  have F1 : Fo τ s P o Rq L S m := F.congr T ho hm G.par (G.qP_other hp) (fun z x hx => by
    rcases H.kpt z x hx with g | ⟨g, _⟩
    · exact g
    · subst g; have := kpt_P hx; rw [hp] at this; cases this)
  rcases hL with rfl | rfl
  · exact F1
  · exact F1.of (F1.whole.weakL hp) (fun x _ hx => hx.imp (List.mem_cons_of_mem _) id)

/-- The stay's own. -/
theorem Fo.pubTo (F : Fo σ s (isStay p st fl) o Rq L ((tldOf σ s ++ R ++ keepOf σ s m).filter (isStay p st fl)) m) (G : Good σ) (ho : o < σ.n) (hm : m < σ.n) (W : ∃ f, σ.kn o s = some f ∧ f.fl = fl ∧ f.way = wayTo σ.par o m) (hs : s < 8) (hp : isStay p st fl e = true)
    (hR : ∀ f, σ.kn m s = some f → f.waits = false → R = []) (hK : ∀ f, σ.kn m s = some f → f.waits = false → (σ.cl (s / 2)).here = some m → keepOf σ s m = [])
    (B : Pubs E σ) (hRE : ∀ d, d ∈ R → d ∈ E) (hLE : ∀ d, d ∈ L → d ∈ E) (hnum : ∀ d, d ∈ E → isStay p st fl d = true → d.ev.num < e.ev.num) (hnew : e ∉ E)
    (hto : ∀ d, d ∈ tldOf σ s → meets fl d.ev = true) (hτ : τ = σ.happens o e none) (hH : HearsAs σ τ s o e) (hL : (Lost σ τ s o ∧ L' = e :: L) ∨ (¬ Lost σ τ s o ∧ L' = L)) :
    Fo τ s (isStay p st fl) o (Rq ++ [e]) L' ((tldOf τ s ++ R ++ keepOf τ s m).filter (isStay p st fl)) m := by
  have T := G.tree
  have hgo : Born σ τ o e (σ.targets o e none) := by rw [hτ]; exact born_event o
  have hme : meets fl e.ev = true := by simp only [isStay, Bool.and_eq_true] at hp; exact hp.2
  have hk := hH.kpt (P := isStay p st fl)
  have hfe : [e].filter (isStay p st fl) = [e] := by simp [hp]
  obtain ⟨f, hf, hfl, hfw⟩ := W
  have hSE : ∀ d, d ∈ (tldOf σ s ++ R ++ keepOf σ s m).filter (isStay p st fl) → d.ev.num < e.ev.num := fun d hd => by
    obtain ⟨h1, h2⟩ := List.mem_filter.1 hd
    refine hnum d ?_ h2
    simp only [List.mem_append] at h1
    rcases h1 with (h1 | h1) | h1
    · exact B.told _ _ d h1
    · exact hRE d h1
    · unfold keepOf at h1
      cases hkn : σ.kn m s with
      | none => rw [hkn] at h1; cases h1
      | some g => rw [hkn] at h1; exact B.kn m s g hkn d h1
  have hLn : ∀ d, d ∈ L → isStay p st fl d = true → d.ev.num < e.ev.num := fun d hd hpd => hnum d (hLE d hd) hpd
  have hnp : ∀ u, ¬ Psd σ s (isStay p st fl) o u e := fun u g => hnew (g.inE B)
  by_cases hom : o = m
  · subst hom
    have hwn : f.way = none := by rw [hfw]; simp [wayTo]
    cases hH with
    | none hn _ _ => have := hn f hf hwn; rw [hfl, hme] at this; cases this
    | kept g hg hw hmg hr hkk hkb ht =>
      have hnl : ¬ Lost σ τ s o := by
        rintro ⟨f', h1, h2⟩
        rw [hg] at h1; cases h1
        rw [hkb] at h2
        have := congrArg (fun x : Fact => x.kept.length) (Option.some.inj h2)
        simp at this
      have hL' : L' = L := by rcases hL with g | g; exact absurd g.1 hnl; exact g.2
      subst hL'
      have e1 : keepOf τ s o = keepOf σ s o ++ [e] := by unfold keepOf; rw [hkb, hg]
      rw [ht, e1, show tldOf σ s ++ R ++ (keepOf σ s o ++ [e]) = (tldOf σ s ++ R ++ keepOf σ s o) ++ [e] by simp, List.filter_append, hfe]
      exact F.bornAt T ho hgo hp hk (fun w => w.come) hSE hLn hnp (fun x hx => by
        rcases hx with hx | hx | hx
        · exact Or.inl hx
        · exact Or.inr (List.mem_append_left _ hx)
        · exact Or.inr (by simp [hx]))
    | lost g hg hw hmg hr hkk hkb ht =>
      have hL' : L' = e :: L := by rcases hL with g' | g'; exact g'.2; exact absurd ⟨g, hg, hkb⟩ g'.1
      subst hL'
      have e1 : keepOf τ s o = keepOf σ s o := by unfold keepOf; rw [hkb, hg]
      rw [ht, e1]
      exact F.bornAt T ho hgo hp hk (fun w => w.lose) hSE hLn hnp (fun x hx => by
        rcases hx with hx | hx | hx
        · exact Or.inl (List.mem_cons_of_mem _ hx)
        · exact Or.inr hx
        · exact Or.inl (by simp [hx]))
    | told g hg hw hmg hr hkk ht =>
      have hL' : L' = L := by rcases hL with g' | g'; exact absurd g'.1 (not_lost (hkk o)); exact g'.2
      subst hL'
      have hR0 := hR g hg hr.1
      have hK0 := hK g hg hr.1 hr.2
      have e1 : keepOf τ s o = [] := by rw [keptOf_same (hkk o)]; exact hK0
      rw [hR0, hK0, List.append_nil, List.append_nil] at F hSE
      rw [hR0, e1, List.append_nil, List.append_nil]
      -- it is not outrun
      have hno : ¬ outrun (tldOf σ s) e = true := fun ho' => by
        unfold outrun at ho'
        rw [List.any_eq_true] at ho'
        obtain ⟨d, hd, hdd⟩ := ho'
        have hdd := of_decide_eq_true hdd
        have hpd : isStay p st fl d = true := by
          simp only [isStay, Bool.and_eq_true, decide_eq_true_eq] at hp ⊢
          exact ⟨⟨hdd.1.trans hp.1.1, hdd.2.1.trans hp.1.2⟩, hto d hd⟩
        have := hSE d (List.mem_filter.2 ⟨hd, hpd⟩)
        omega
      rw [ht, if_neg hno, List.filter_append, hfe]
      exact F.bornAt T ho hgo hp hk (fun w => w.come) hSE hLn hnp (fun x hx => by
        rcases hx with hx | hx | hx
        · exact Or.inl hx
        · exact Or.inr (List.mem_append_left _ hx)
        · exact Or.inr (by simp [hx]))
  · have hwn : f.way = some (next σ.par o m) := by rw [hfw]; simp [wayTo, hom]
    have hbad : ∀ g : Fact, σ.kn o s = some g → g.way = none → False := fun g hg hw => by rw [hf] at hg; cases hg; rw [hwn] at hw; cases hw
    obtain ⟨hkk, ht⟩ : (∀ z, τ.kn z s = σ.kn z s) ∧ tldOf τ s = tldOf σ s := by
      cases hH with
      | none _ hk ht => exact ⟨hk, ht⟩
      | kept g hg hw => exact (hbad g hg hw).elim
      | lost g hg hw => exact (hbad g hg hw).elim
      | told g hg hw => exact (hbad g hg hw).elim
    have hL' : L' = L := by rcases hL with g' | g'; exact absurd g'.1 (not_lost (hkk o)); exact g'.2
    subst hL'
    rw [ht, show keepOf τ s m = keepOf σ s m from keptOf_same (hkk m)]
    have hroot : Anc σ.par o o m := Anc.root T ho _ _ rfl hm
    obtain ⟨_, _, _, w4⟩ := hroot.on T ho hm hom
    refine F.born T ho hgo hp hm hom (want_mem' hs hf (by rw [hfl]; exact hme) hwn (Nat.lt_of_lt_of_le w4 (size_le T))) hk (fun d hd => ?_) hLn hnp
    rcases List.mem_append.1 hd with hd | hd
    · exact hSE d hd
    · obtain ⟨h1, h2⟩ := chn_inE B T ho hm hroot hd
      exact hnum d h1 h2
end

/-- What is asked for, behind a new event. -/
def rqPub (fl : List Tst) (Rq : Int → Int → List News) (e : News) : Int → Int → List News := fun p st => if isStay p st fl e then Rq p st ++ [e] else Rq p st

section
variable {σ τ : Net} {s b : Nat} {fl : List Tst} {org : Int → Int → Nat} {Rq : Int → Int → List News} {L : List News} {E : List News} {e : News}

/-- AN EVENT IS PUBLISHED. -/
theorem Fph.pub (X : Fph σ s fl org Rq L) (D : Side σ s fl org E) (hb : b < σ.n) (horg : ∀ p st, isStay p st fl e = true → org p st = b) (hLE : ∀ d, d ∈ L → d ∈ E) (hnum : ∀ p st d, isStay p st fl e = true → d ∈ E → isStay p st fl d = true → d.ev.num < e.ev.num) (hnew : e ∉ E) (hτ : τ = σ.happens b e none) :
    ∃ L', ((Lost σ τ s b ∧ L' = e :: L) ∨ (¬ Lost σ τ s b ∧ L' = L)) ∧ Fph τ s fl org (rqPub fl Rq e) L' := by
  have G := D.live.good
  have T := G.tree
  have hgo : Born σ τ b e (σ.targets b e none) := by rw [hτ]; exact born_event b
  have hH : HearsAs σ τ s b e := by rw [hτ]; exact happens_as σ D.hs b e none
  have hview : τ.view s = σ.view s := by rw [hτ]; exact view_happens σ b e none s
  have hhome : (τ.cl (s / 2)).home = (σ.cl (s / 2)).home := congrArg View.home hview
  have hfr : ∀ u v f, f ∈ τ.q u v → f ∈ σ.q u v ∨ f = .event e := fun u v f hf => by
    by_cases g2 : u = b ∧ v ∈ σ.targets b e none
    · obtain ⟨rfl, g2⟩ := g2
      rw [hgo.push v g2] at hf
      rcases List.mem_append.1 hf with hf | hf
      · exact Or.inl hf
      · exact Or.inr (List.mem_singleton.1 hf)
    · rw [hgo.same u v g2] at hf; exact Or.inl hf
  have hkeep : ∀ u v f, f ∈ σ.q u v → f ∈ τ.q u v := fun u v f hf => by
    by_cases g2 : u = b ∧ v ∈ σ.targets b e none
    · obtain ⟨rfl, g2⟩ := g2
      rw [hgo.push v g2]; exact List.mem_append_left _ hf
    · rw [hgo.same u v g2]; exact hf
  obtain ⟨L', hL⟩ : ∃ L', (Lost σ τ s b ∧ L' = e :: L) ∨ (¬ Lost σ τ s b ∧ L' = L) := by
    by_cases h : Lost σ τ s b
    · exact ⟨_, Or.inl ⟨h, rfl⟩⟩
    · exact ⟨_, Or.inr ⟨h, rfl⟩⟩
  have hL2 : L' = L ∨ L' = e :: L := by rcases hL with h | h; exact Or.inr h.2; exact Or.inl h.2
  refine ⟨L', hL, ?_⟩
  have hS : ∀ p st (R : List News) (z : Nat), isStay p st fl e = false → (tldOf τ s ++ R ++ keepOf τ s z).filter (isStay p st fl) = (tldOf σ s ++ R ++ keepOf σ s z).filter (isStay p st fl) := fun p st R z hp => by
    rw [List.filter_append, List.filter_append, List.filter_append, List.filter_append, hH.toldP hp, hH.keptP hp]
  have hr0 : ∀ p st, isStay p st fl e = false → rqPub fl Rq e p st = Rq p st := fun p st hp => by unfold rqPub; rw [hp]; rfl
  have hr1 : ∀ p st, isStay p st fl e = true → rqPub fl Rq e p st = Rq p st ++ [e] := fun p st hp => by unfold rqPub; rw [hp]; rfl
  cases X with
  | on h hh hn F =>
    obtain ⟨hl, hled, hw⟩ := D.on hh hn
    refine .on h (hhome.trans hh) (fun x y f hf => ?_) (fun p st => ?_)
    · rcases hfr x y f hf with g | g
      · exact hn x y f g
      · rw [g]; rfl
    · cases hp : isStay p st fl e with
      | false => rw [hS p st [] h hp, hr0 p st hp]; exact (F p st).pubOther T (D.olt p st) hl hgo hH hp hL2
      | true =>
        rw [hr1 p st hp]
        have F := F p st
        have ho := horg p st hp
        rw [ho] at F ⊢
        exact F.pubTo G hb hl (hled b hb) D.hs hp (fun _ _ _ => rfl) (fun f hf hwt hhr => by unfold keepOf; rw [hf]; exact D.bare h f hhr hf hwt) D.pubs (fun _ hd => by cases hd) hLE (hnum p st · hp) hnew D.told hτ hH hL
  | rest h x y evs more hm F =>
    obtain ⟨hl, hled, hw, hhr, hmt⟩ := D.rest hm
    refine .rest h x y evs more (hkeep x y _ hm) (fun p st => ?_)
    cases hp : isStay p st fl e with
    | false => rw [hS p st evs h hp, hr0 p st hp]; exact (F p st).pubOther T (D.olt p st) hl hgo hH hp hL2
    | true =>
      rw [hr1 p st hp]
      have F := F p st
      have ho := horg p st hp
      rw [ho] at F ⊢
      exact F.pubTo G hb hl (hled b hb) D.hs hp (fun f hf hwt => by have := hw f hf; rw [hwt] at this; cases this) (fun f hf hwt _ => by have := hw f hf; rw [hwt] at this; cases this) D.pubs (fun d hd => D.pubs.fr x y _ hm d hd) hLE (hnum p st · hp) hnew D.told hτ hH hL
  | move h old x y age l1 l2 hqm F1 F2 =>
    have hm : Fr.move s age fl old h ∈ σ.q x y := by rw [hqm]; simp
    obtain ⟨hl, hol, hoh, hled, hwh, hwo, hhr, hdi⟩ := D.moving hm
    have hnear := G.nbr x y (by rw [hqm]; simp)
    obtain ⟨m1, m2, m3⟩ := D.mvw x y s age fl old h hm
    have sold : ySide σ.par x y old := ⟨fun g => m1 g.symm, m2⟩
    obtain ⟨l2', hl'⟩ : ∃ l2', τ.q x y = l1 ++ Fr.move s age fl old h :: l2' := by
      by_cases g2 : x = b ∧ y ∈ σ.targets b e none
      · obtain ⟨rfl, g2⟩ := g2
        exact ⟨l2 ++ [.event e], by rw [hgo.push y g2, hqm]; simp⟩
      · exact ⟨l2, by rw [hgo.same x y g2, hqm]⟩
    refine .move h old x y age l1 l2' hl' (fun p st hside => ?_) (fun p st hside => ?_)
    · rw [hgo.par] at hside
      have F := F1 p st hside
      cases hp : isStay p st fl e with
      | false => rw [hS p st [] old hp, hr0 p st hp]; exact F.pubOther T (D.olt p st) hol hgo hH hp hL2
      | true =>
        rw [hr1 p st hp]
        have ho := horg p st hp
        rw [ho] at F hside ⊢
        refine F.pubTo G hb hol ?_ D.hs hp (fun _ _ _ => rfl) (fun f hf hwt hhr' => by rw [hhr] at hhr'; exact absurd (Option.some.inj hhr').symm hoh) D.pubs (fun _ hd => by cases hd) hLE (hnum p st · hp) hnew D.told hτ hH hL
        obtain ⟨f, g1, g2, g3⟩ := hled b hb
        simp only [if_pos hside] at g3
        exact ⟨f, g1, g2, g3⟩
    · rw [hgo.par] at hside
      have F := F2 p st hside
      obtain ⟨k1, k2⟩ := (side_root T (D.olt p st) hnear).1 hside
      have hyold := (side_anc T (D.olt p st) hnear k1 k2 hol).1 sold
      cases hp : isStay p st fl e with
      | false =>
        have hc : chn τ (isStay p st fl) (org p st) y old = chn σ (isStay p st fl) (org p st) y old := chn_congr T (D.olt p st) hgo.par hol hyold (fun c _ _ _ _ => hgo.qP_other hp _ _)
        have : SM τ s (isStay p st fl) (org p st) y old h l1 = SM σ s (isStay p st fl) (org p st) y old h l1 := by
          unfold SM
          rw [hc, kpt_eq, kpt_eq, hH.keptP hp, List.filter_append, List.filter_append, hH.toldP hp, hH.keptP hp]
        rw [this, hr0 p st hp]; exact F.pubOther T (D.olt p st) hl hgo hH hp hL2
      | true =>
        rw [hr1 p st hp]
        have ho := horg p st hp
        rw [ho] at F hside k1 k2 hyold ⊢
        have hk := hH.kpt (P := isStay p st fl)
        have hfe : [e].filter (isStay p st fl) = [e] := by simp [hp]
        have hme : meets fl e.ev = true := by simp only [isStay, Bool.and_eq_true] at hp; exact hp.2
        obtain ⟨f, hf, hfl, hfw⟩ := hled b hb
        simp only [if_neg hside] at hfw
        have hbold : b ≠ old := fun g => hside (by rw [g]; exact sold)
        have hc : chn τ (isStay p st fl) b y old = chn σ (isStay p st fl) b y old := by
          refine chn_congr T hb hgo.par hol hyold (fun c _ hyc hcy hcb => hgo.qP_same (fun g => ?_))
          cases hyc with
          | refl => exact hcy rfl
          | step _ h' => rw [g.1] at h'; exact k1 (anc_root T hb h')
        have hwt : ∀ g, σ.kn b s = some g → g.way = none → g.waits = true := fun g hg hw => by
          rw [hf] at hg; cases hg
          by_cases k : b = h
          · subst k; exact hwh f hf
          · rw [hfw] at hw; simp [wayTo, k] at hw
        obtain ⟨hko, ht, hnl⟩ := hH.aside hwt (m := old) (fun g => hbold g.symm)
        have hL' : L' = L := by rcases hL with g' | g'; exact absurd g'.1 hnl; exact g'.2
        subst hL'
        have hLn : ∀ d, d ∈ L' → isStay p st fl d = true → d.ev.num < e.ev.num := fun d hd hpd => hnum p st d hp (hLE d hd) hpd
        have hnp : ∀ u, ¬ Psd σ s (isStay p st fl) b u e := fun u g => hnew (g.inE D.pubs)
        have hSE : ∀ d, d ∈ SM σ s (isStay p st fl) b y old h l1 → d.ev.num < e.ev.num := fun d hd => by
          unfold SM at hd
          simp only [List.mem_append] at hd
          have kE : ∀ z, d ∈ keepOf σ s z → d ∈ E := fun z hz => by
            unfold keepOf at hz
            cases hkn : σ.kn z s with
            | none => rw [hkn] at hz; cases hz
            | some g => rw [hkn] at hz; exact D.pubs.kn z s g hkn d hz
          rcases hd with ((hd | hd) | hd) | hd
          · obtain ⟨h1, h2⟩ := List.mem_filter.1 hd
            rcases List.mem_append.1 h1 with h1 | h1
            · exact hnum p st d hp (D.pubs.told _ _ d h1) h2
            · exact hnum p st d hp (kE old h1) h2
          · obtain ⟨h1, h2⟩ := chn_inE D.pubs T hb hol hyold hd
            exact hnum p st d hp h1 h2
          · obtain ⟨h1, h2⟩ := List.mem_filter.1 hd
            have h3 : d ∈ evs (σ.q x y) := by rw [hqm, evs_append]; exact List.mem_append_left _ h1
            have h4 : d ∈ qP σ (isStay p st fl) x y := List.mem_filter.2 ⟨h3, h2⟩
            exact hnum p st d hp (D.pubs.fr x y _ (qP_mem.1 h4).1 d (List.mem_singleton.2 rfl)) h2
          · rw [kpt_eq] at hd
            obtain ⟨h1, h2⟩ := List.mem_filter.1 hd
            exact hnum p st d hp (kE h h1) h2
        by_cases hbh : b = h
        · subst hbh
          have hwn : f.way = none := by rw [hfw]; simp [wayTo]
          have hkb : kpt τ s (isStay p st fl) b = kpt σ s (isStay p st fl) b ++ [e] := by
            rw [kpt_eq, kpt_eq]
            cases hH with
            | none hn _ _ => have := hn f hf hwn; rw [hfl, hme] at this; cases this
            | kept g hg _ _ _ _ hkb _ =>
              have : keepOf τ s b = keepOf σ s b ++ [e] := by unfold keepOf; rw [hkb, hg]
              rw [this, List.filter_append, hfe]
            | lost g hg hw _ hr _ _ _ => have := hwt g hg hw; rw [hr.1] at this; cases this
            | told g hg hw _ hr _ _ => have := hwt g hg hw; rw [hr.1] at this; cases this
          have : SM τ s (isStay p st fl) b y old b l1 = SM σ s (isStay p st fl) b y old b l1 ++ [e] := by
            unfold SM
            rw [ht, hko, hc, hkb]
            simp
          rw [this]
          exact F.bornAt T hb hgo hp hk (fun w => w.come) hSE hLn hnp (fun z hz => by
            rcases hz with hz | hz | hz
            · exact Or.inl hz
            · exact Or.inr (List.mem_append_left _ hz)
            · exact Or.inr (by simp [hz]))
        · have hkh : kpt τ s (isStay p st fl) h = kpt σ s (isStay p st fl) h := by
            rw [kpt_eq, kpt_eq, (hH.aside hwt (m := h) (fun g => hbh g.symm)).1]
          have : SM τ s (isStay p st fl) b y old h l1 = SM σ s (isStay p st fl) b y old h l1 := by
            unfold SM
            rw [ht, hko, hc, hkh]
          rw [this]
          have hwn : f.way = some (next σ.par b h) := by rw [hfw]; simp [wayTo, hbh]
          have hroot : Anc σ.par b b h := Anc.root T hb _ _ rfl hl
          obtain ⟨_, _, _, w4⟩ := hroot.on T hb hl hbh
          refine F.born T hb hgo hp hl hbh (want_mem' D.hs hf (by rw [hfl]; exact hme) hwn (Nat.lt_of_lt_of_le w4 (size_le T))) hk (fun d hd => ?_) hLn hnp
          rcases List.mem_append.1 hd with hd | hd
          · exact hSE d hd
          · obtain ⟨h1, h2⟩ := chn_inE D.pubs T hb hl hroot hd
            exact hnum p st d hp h1 h2
end

section
variable {σ τ : Net} {s : Nat} {fl : List Tst} {org : Int → Int → Nat} {Rq : Int → Int → List News} {L : List News} {E : List News}
theorem Fph.only (X : Fph σ s fl org Rq L) (hn : ∀ x y f, f ∈ σ.q x y → f.about s = false) {h : Nat} (hh : (σ.cl (s / 2)).home = some h) : ∀ p st, Fo σ s (isStay p st fl) (org p st) (Rq p st) L ((tldOf σ s ++ [] ++ keepOf σ s h).filter (isStay p st fl)) h := by
  cases X with
  | on h' hh' _ F => rw [hh] at hh'; cases hh'; exact F
  | rest h' x y evs more hm _ => have := hn x y _ hm; simp [Fr.about] at this
  | move h' old x y age l1 l2 hqm _ _ => have := hn x y (.move s age fl old h') (by rw [hqm]; simp); simp [Fr.about] at this

/-- A CLIENT COMES BACK: what was kept is told. -/
theorem Fph.back (X : Fph σ s fl org Rq L) (D : Side σ s fl org E) (hn : ∀ x y f, f ∈ σ.q x y → f.about s = false) {h : Nat} (hh : (σ.cl (s / 2)).home = some h)
    (hqτ : τ.q = σ.q) (hpar : τ.par = σ.par) (htl : tldOf τ s = tellsL (tldOf σ s) (keepOf σ s h)) (hkb : keepOf τ s h = []) (hko : ∀ z, z ≠ h → keepOf τ s z = keepOf σ s z) (hhm : (τ.cl (s / 2)).home = some h) : Fph τ s fl org Rq L := by
  have F := X.only hn hh
  have T := D.live.good.tree
  obtain ⟨hl, hled, _⟩ := D.on hh hn
  obtain ⟨f, hf, hfl, hfw⟩ := hled h hl
  have hwn : f.way = none := by rw [hfw]; simp [wayTo]
  have htl : tldOf τ s = tellsL (tldOf σ s) ([] ++ keepOf σ s h) := htl
  have hkE := D.keptE hf hwn hfl
  have hmE : ∀ d, d ∈ tldOf σ s ++ ([] ++ keepOf σ s h) → d ∈ E ∧ meets fl d.ev = true := fun d hd => by
    rw [List.nil_append] at hd
    rcases List.mem_append.1 hd with hd | hd
    · exact ⟨D.pubs.told _ _ d hd, D.told d hd⟩
    · exact hkE d hd
  refine .on h hhm (fun x y g hg => by rw [hqτ] at hg; exact hn x y g hg) (fun p st => ?_)
  rw [htl, hkb]
  refine ((F p st).tellAll (E := E) (fun d hd => (hmE d hd).2) (fun d hd => (hmE d hd).1) D.one).congr T (D.olt p st) hl hpar (fun u v => by unfold qP; rw [hqτ]) (fun z x hx => ?_)
  rw [kpt_eq] at hx ⊢
  by_cases e : z = h
  · subst e; rw [hkb] at hx; cases hx
  · rw [hko z e] at hx; exact hx

/-- A CLIENT COMES ELSEWHERE: a Move frame goes for what is kept. -/
theorem Fph.comes (X : Fph σ s fl org Rq L) (D : Side σ s fl org E) (hn : ∀ x y f, f ∈ σ.q x y → f.about s = false) {h old : Nat} (hh : (σ.cl (s / 2)).home = some old) (hl : h < σ.n) (hne : h ≠ old)
    (hold : ∀ p st d, d ∈ E → isStay p st fl d = true → d ∉ Rq p st → ∀ x, x ∈ Rq p st → ¬ x.ev.num < d.ev.num) {age : Int} {l1 l2 : List Fr} (hqhy : τ.q h (next σ.par h old) = l1 ++ .move s age fl old h :: l2) (hl1 : evs l1 = evs (σ.q h (next σ.par h old)))
    (hqP : ∀ P u v, qP τ P u v = qP σ P u v) (hko : ∀ w, keepOf τ s w = keepOf σ s w) (hpar : τ.par = σ.par) (htl : tldOf τ s = tldOf σ s) : Fph τ s fl org Rq L := by
  have F := X.only hn hh
  have T := D.live.good.tree
  obtain ⟨hol, hled, _⟩ := D.on hh hn
  obtain ⟨y, hy⟩ : ∃ y, y = next σ.par h old := ⟨_, rfl⟩
  rw [← hy] at hqhy hl1
  have hys := next_step T hl hol hne
  rw [← hy] at hys
  have hyh : y ≠ h := fun g => near_ne T hys.1 g.symm
  have hkp : ∀ P w x, x ∈ kpt τ s P w → x ∈ kpt σ s P w := fun P w x hx => by rw [kpt_eq, hko] at hx; rw [kpt_eq]; exact hx
  have sold : ySide σ.par h y old := ⟨fun g => hne g.symm, hy.symm⟩
  refine .move h old h y age l1 l2 hqhy (fun p st _ => ?_) (fun p st hside => ?_)
  · rw [htl, hko]
    exact (F p st).congr T (D.olt p st) hol hpar (hqP _) (hkp _)
  · rw [hpar] at hside
    obtain ⟨k1, k2⟩ := (side_root T (D.olt p st) hys.1).1 hside
    have hyold := (side_anc T (D.olt p st) hys.1 k1 k2 hol).1 sold
    have hhy : Anc σ.par (org p st) h y := .step k1 (by rw [k2]; exact .refl)
    have hhold : Anc σ.par (org p st) h old := hhy.trans hyold
    have hcy : chn τ (isStay p st fl) (org p st) y old = chn σ (isStay p st fl) (org p st) y old := chn_congr T (D.olt p st) hpar hol hyold (fun c _ _ _ _ => hqP _ _ _)
    have hch : chn σ (isStay p st fl) (org p st) h old = chn σ (isStay p st fl) (org p st) y old ++ (evs (σ.q h y)).filter (isStay p st fl) := by
      rw [chn_split T (D.olt p st) hol hhy hyold, chn_up T (D.olt p st) hys.2.1 k1 hyh, k2, chn_self, List.append_nil]; rfl
    have e2 : SM τ s (isStay p st fl) (org p st) y old h l1 = (tldOf σ s ++ [] ++ keepOf σ s old).filter (isStay p st fl) ++ chn σ (isStay p st fl) (org p st) h old ++ kpt σ s (isStay p st fl) h := by
      unfold SM
      rw [htl, hko, hcy, kpt_eq, kpt_eq, hko, hch, hl1]
      simp
    rw [e2]
    exact ((F p st).switch T (D.olt p st) hol hl hhold .refl (fun d hd hpd hdr => hold p st d (hd.inE D.pubs) hpd hdr)).congr T (D.olt p st) hl hpar (hqP _) (hkp _)

/-- Frames of others. -/
theorem Fph.others (X : Fph σ s fl org Rq L) (D : Side σ s fl org E) {a b : Nat} {f : Fr} {r : List Fr} (hq : σ.q a b = f :: r) (hf : f.about s = false) (hnw : f.news = none) (hτ : τ = Net.handle { σ with q := put2 σ.q a b r } b (some a) f) : Fph τ s fl org Rq L := by
  have hmine : ∀ g : Fr, g.about s = false → g.news = none → Fr.mine s g = false := fun g h1 h2 => by unfold Fr.mine; rw [h1, h2]; rfl
  have hpop : ∀ u v, (put2 σ.q a b r u v).filter (Fr.mine s) = (σ.q u v).filter (Fr.mine s) := fun u v => by
    by_cases e : u = a ∧ v = b
    · obtain ⟨rfl, rfl⟩ := e
      rw [put2_same, hq, List.filter_cons_of_neg (by rw [hmine f hf hnw]; simp)]
    · rw [put2_other _ _ e]
  have hpush : ∀ (ρ : Net) (u v x y : Nat) (g : Fr), g.about s = false → g.news = none → ((ρ.push x y g).q u v).filter (Fr.mine s) = (ρ.q u v).filter (Fr.mine s) := fun ρ u v x y g h1 h2 => filt_pushAll (hmine g h1 h2) x u v [y] ρ
  have hhome : (τ.cl (s / 2)).home = (σ.cl (s / 2)).home := by
    have := view_handle hq hf
    rw [← hτ] at this
    exact congrArg View.home this
  have fin : ∀ ρ : Net, τ = ρ → ρ.par = σ.par → (∀ u v, (ρ.q u v).filter (Fr.mine s) = (σ.q u v).filter (Fr.mine s)) → Slc σ ρ s → Fph τ s fl org Rq L := fun ρ h1 h2 h3 h4 => by
    subst h1
    exact X.same D h2 h3 (fun z => by unfold keepOf; rw [h4.kn]) h4.told hhome
  have slcq : Slc σ { σ with q := put2 σ.q a b r } s := ⟨fun _ => rfl, rfl, rfl⟩
  cases f with
  | event e => cases hnw
  | sub t age fl' =>
    have hts : t ≠ s := fun g => by subst g; simp [Fr.about] at hf
    have k := learn_keeps { σ with q := put2 σ.q a b r } b t age fl' (some a)
    refine fin _ hτ ?_ (fun u v => ?_) ?_
    · exact (pushAll_par _ _ _ _).trans k.1
    · show ((Net.pushAll _ _ _ _).q u v).filter _ = _
      rw [filt_pushAll (hmine _ hf hnw), k.2.1]; exact hpop u v
    · refine slcq.trans (Slc.trans ?_ (slc_pushAll _ _ _ _))
      unfold Net.learn
      split
      · exact slc_know hts
      · split
        · exact slc_know hts
        · exact Slc.refl _ _
  | unsub t age =>
    have hts : t ≠ s := fun g => by subst g; simp [Fr.about] at hf
    have k : (Net.forget { σ with q := put2 σ.q a b r } b t age).par = σ.par ∧ (Net.forget { σ with q := put2 σ.q a b r } b t age).q = put2 σ.q a b r := by
      unfold Net.forget
      split
      · exact ⟨rfl, rfl⟩
      · split <;> exact ⟨rfl, rfl⟩
    refine fin _ hτ ?_ (fun u v => ?_) ?_
    · exact (pushAll_par _ _ _ _).trans k.1
    · show ((Net.pushAll _ _ _ _).q u v).filter _ = _
      rw [filt_pushAll (hmine _ hf hnw), k.2]; exact hpop u v
    · refine slcq.trans (Slc.trans ?_ (slc_pushAll _ _ _ _))
      unfold Net.forget
      split
      · exact Slc.refl _ _
      · split
        · exact slc_know hts
        · exact Slc.refl _ _
  | move t age fl' old new =>
    have hts : t ≠ s := fun g => by subst g; simp [Fr.about] at hf
    have har : ∀ evs m n, (Fr.rest t evs m n).about s = false := fun _ _ _ => by simp [Fr.about]; exact hts
    refine fin _ hτ ?_ (fun u v => ?_) ?_
    · simp only [Net.handle]
      split <;> rfl
    · simp only [Net.handle]
      split
      · rw [hpush _ _ _ _ _ _ (by split <;> exact har _ _ _) (by split <;> rfl)]; exact hpop u v
      · rw [hpush _ _ _ _ _ _ hf hnw]; exact hpop u v
    · simp only [Net.handle]
      split
      · exact (slcq.trans (slc_know hts)).trans (slc_pushAll _ _ [_] _)
      · exact (slcq.trans (slc_know hts)).trans (slc_pushAll _ _ [_] _)
  | rest t evs m new =>
    have hts : t ≠ s := fun g => by subst g; simp [Fr.about] at hf
    have slct : ∀ (l : List News) (ρ : Net), Slc ρ (ρ.tells t l) s := fun l => by
      induction l with
      | nil => exact fun ρ => Slc.refl _ _
      | cons e l ih => exact fun ρ => (slc_tell hts).trans (ih (ρ.tell t e))
    have slcl : ∀ ρ : Net, Slc ρ (ρ.lose t m) s := fun ρ => by
      refine ⟨fun _ => rfl, ?_, ?_⟩
      · unfold tldOf
        show (put ρ.cl (t / 2) _ (s / 2)).told (s % 2) = _
        by_cases e : s / 2 = t / 2
        · rw [e, put_same]; unfold Cli.lose; split <;> rfl
        · rw [put_other _ _ e]
      · show (put ρ.cl (t / 2) _ (s / 2)).here = _
        by_cases e : s / 2 = t / 2
        · rw [e, put_same]; unfold Cli.lose; split <;> rfl
        · rw [put_other _ _ e]
    have tq : ∀ (l : List News) (ρ : Net), (ρ.tells t l).q = ρ.q ∧ (ρ.tells t l).par = ρ.par := fun l ρ => ⟨(tells_keep t l ρ).2.1, (tells_keep t l ρ).2.2.1⟩
    by_cases hb : b = new
    · cases hkn : σ.kn b t with
      | none =>
        have h1 : τ = { σ with q := put2 σ.q a b r } := by
          rw [hτ]
          simp only [Net.handle, hb, ne_eq, not_true_eq_false, if_false]
          rw [show ({ σ with q := put2 σ.q a new r } : Net).kn new t = none from by rw [← hb]; exact hkn]
        exact fin _ h1 rfl hpop slcq
      | some g =>
        have h1 : τ = (((Net.lose { σ with q := put2 σ.q a b r } t m).tells t evs).tells t g.kept).know b t (some { g with kept := [], waits := false }) := by
          rw [hτ]
          simp only [Net.handle, hb, ne_eq, not_true_eq_false, if_false]
          rw [show ({ σ with q := put2 σ.q a new r } : Net).kn new t = some g from by rw [← hb]; exact hkn]
        refine fin _ h1 ?_ (fun u v => ?_) ((((slcq.trans (slcl _)).trans (slct _ _)).trans (slct _ _)).trans (slc_know hts))
        · exact (tq _ _).2.trans (tq _ _).2
        · show ((Net.tells _ t g.kept).q u v).filter _ = _
          rw [(tq _ _).1, (tq _ _).1]; exact hpop u v
    · have h1 : τ = ({ σ with q := put2 σ.q a b r } : Net).push b (next σ.par b new) (.rest t evs m new) := by
        rw [hτ]
        simp only [Net.handle, if_pos hb]
      refine fin _ h1 rfl (fun u v => ?_) (slcq.trans (slc_pushAll _ _ [_] _))
      rw [hpush _ _ _ _ _ _ hf hnw]; exact hpop u v
end

section
variable {σ : Net} {s : Nat} {fl : List Tst} {org org' : Int → Int → Nat} {Rq : Int → Int → List News} {L : List News} {E : List News}
/-- Nothing is asked for. -/
theorem Fo.nil {P : News → Bool} {o m : Nat} {L S : List News} : Fo σ s P o [] L S m :=
  ⟨⟨fun _ h => (nomatch h), fun _ _ _ _ _ h => (nomatch h), fun _ _ _ _ h => (nomatch h)⟩, fun _ _ _ h => (nomatch h)⟩

/-- HOW IT BEGINS: all brokers know it, no frame waits; nothing is asked for yet. -/
theorem Fph.start {h : Nat} (hh : (σ.cl (s / 2)).home = some h) (hq : ∀ x y, σ.q x y = []) : Fph σ s fl org (fun _ _ => []) [] :=
  .on h hh (fun x y f hf => by rw [hq] at hf; cases hf) (fun _ _ => Fo.nil)

/-- A NEW STAY: of which nothing is asked for yet. -/
theorem Fph.reorg (X : Fph σ s fl org Rq L) (h : ∀ p st, Rq p st ≠ [] → org' p st = org p st) : Fph σ s fl org' Rq L := by
  have key : ∀ (p st : Int) (Q : Nat → Prop), Q (org p st) → (Rq p st = [] → Q (org' p st)) → Q (org' p st) := fun p st Q h1 h2 => by
    by_cases e : Rq p st = []
    · exact h2 e
    · rw [h p st e]; exact h1
  cases X with
  | on h' hh hn F => exact .on h' hh hn (fun p st => key p st (fun o => Fo σ s (isStay p st fl) o (Rq p st) L _ h') (F p st) (fun e => by rw [e]; exact Fo.nil))
  | rest h' x y evs more hm F => exact .rest h' x y evs more hm (fun p st => key p st (fun o => Fo σ s (isStay p st fl) o (Rq p st) L _ h') (F p st) (fun e => by rw [e]; exact Fo.nil))
  | move h' old x y age l1 l2 hq F1 F2 =>
    refine .move h' old x y age l1 l2 hq (fun p st hs => ?_) (fun p st hs => ?_)
    · by_cases e : Rq p st = []
      · rw [e]; exact Fo.nil
      · rw [h p st e] at hs ⊢; exact F1 p st hs
    · by_cases e : Rq p st = []
      · rw [e]; exact Fo.nil
      · rw [h p st e] at hs ⊢; exact F2 p st hs

theorem chn_empty {P : News → Bool} {o u m : Nat} (h : ∀ u v, qP σ P u v = []) : chn σ P o u m = [] := by
  have : ∀ k m, chnF σ P o u k m = [] := fun k => by
    induction k with
    | zero => exact fun _ => rfl
    | succ k ih =>
      intro m
      unfold chnF
      split
      · rfl
      · rw [h, ih]; rfl
  exact this _ _

/-- HOW IT ENDS: no frame waits, the client is here: all that was asked for was told, or lost. -/
theorem Fph.done (X : Fph σ s fl org Rq L) (D : Side σ s fl org E) (hq : ∀ x y, σ.q x y = []) {h : Nat} (hhr : (σ.cl (s / 2)).here = some h) (hh : (σ.cl (s / 2)).home = some h) : ∀ p st e, e ∈ Rq p st → e ∈ L ∨ e ∈ tldOf σ s := by
  have hn : ∀ x y f, f ∈ σ.q x y → f.about s = false := fun x y f hf => by rw [hq] at hf; cases hf
  have F := X.only hn hh
  obtain ⟨hl, hled, hw⟩ := D.on hh hn
  obtain ⟨f, hf, _, _⟩ := hled h hl
  have hk : keepOf σ s h = [] := by unfold keepOf; rw [hf]; exact D.bare h f hhr hf (hw f hf)
  intro p st e he
  have hc : chn σ (isStay p st fl) (org p st) (org p st) h = [] := chn_empty (fun u v => by unfold qP; rw [hq]; rfl)
  have := (F p st).whole.all e he
  rw [hc, hk, List.append_nil, List.append_nil, List.append_nil] at this
  exact this.imp id (fun g => (List.mem_filter.1 g).1)

/-! ### events go away from where they were published -/
theorem Outs.same {τ : Net} {P : News → Bool} {o : Nat} (O : Outs σ P o) (hp : τ.par = σ.par) (hq : ∀ u v, qP τ P u v = qP σ P u v) : Outs τ P o := fun w v e he => by
  rw [hq] at he
  have hn : τ.n = σ.n := by unfold Net.n; rw [hp]
  rw [hn, hp]; exact O w v e he
/-- .. when frames are handled. -/
theorem Outs.event {P : News → Bool} {o a b : Nat} {e : News} {r : List Fr} (O : Outs σ P o) (G : Good σ) (ho : o < σ.n) (hq : σ.q a b = .event e :: r) : Outs (Net.handle { σ with q := put2 σ.q a b r } b (some a) (.event e)) P o := by
  have hgo := goes_event G hq
  have hab : a ≠ b := near_ne G.tree (G.nbr a b (by rw [hq]; simp))
  refine O.goes hgo hab (fun hp z hz => ?_)
  obtain ⟨h1, h2, h3⟩ := O a b e (by rw [hgo.qP_head hp]; exact List.mem_cons_self ..)
  exact targets_on G ho h1 (fun _ => h3) (fun _ => rfl) hz
theorem Outs.pub {P : News → Bool} {o b : Nat} {e : News} (O : Outs σ P o) (G : Good σ) (ho : o < σ.n) (hb : b < σ.n) (h : P e = true → o = b) : Outs (σ.happens b e none) P o := by
  refine O.born (born_event b) (fun hp z hz => ?_)
  have hob := h hp
  subst hob
  exact targets_on (a := o) G ho hb (fun g => absurd rfl g) (fun g => absurd rfl g) hz
end

structure Bare (σ : Net) : Prop where
  here : ∀ b s f, s < 8 → (σ.cl (s / 2)).here = some b → σ.kn b s = some f → f.waits = false → f.kept = [] ∧ f.more = 0
  wait : ∀ b s f, s < 8 → σ.kn b s = some f → f.waits = true → f.more = 0

section
variable {σ τ : Net}
theorem Bare.of (B : Bare σ) (hk : τ.kn = σ.kn) (hc : ∀ c, (τ.cl c).here = (σ.cl c).here) : Bare τ :=
  ⟨fun b s f hs hh hf => by rw [hc] at hh; rw [hk] at hf; exact B.here b s f hs hh hf, fun b s f hs hf => by rw [hk] at hf; exact B.wait b s f hs hf⟩
theorem Bare.know (B : Bare σ) {b t : Nat} {o : Option Fact} (ho : ∀ g, o = some g → (g.waits = true ∨ (σ.cl (t / 2)).here ≠ some b ∨ g.kept = [] ∧ g.more = 0) ∧ (g.waits = true → g.more = 0)) : Bare (σ.know b t o) := by
  have key : ∀ b' s f, (σ.know b t o).kn b' s = some f → (b' = b ∧ s = t ∧ o = some f) ∨ σ.kn b' s = some f := fun b' s f hf => by
    have hf : put2 σ.kn b t o b' s = some f := hf
    by_cases e : b' = b ∧ s = t
    · obtain ⟨rfl, rfl⟩ := e; rw [put2_same] at hf; exact Or.inl ⟨rfl, rfl, hf⟩
    · rw [put2_other _ _ e] at hf; exact Or.inr hf
  refine ⟨fun b' s f hs hh hf hw => ?_, fun b' s f hs hf hw => ?_⟩
  · rcases key b' s f hf with ⟨rfl, rfl, h⟩ | h
    · rcases (ho f h).1 with g | g | g
      · rw [hw] at g; cases g
      · exact absurd hh g
      · exact g
    · exact B.here b' s f hs hh h hw
  · rcases key b' s f hf with ⟨rfl, rfl, h⟩ | h
    · exact (ho f h).2 hw
    · exact B.wait b' s f hs h hw
theorem Bare.bare (B : Bare σ) {b t : Nat} {o : Option Fact} (ho : ∀ g, o = some g → g.kept = [] ∧ g.more = 0) : Bare (σ.know b t o) := B.know (fun g hg => ⟨Or.inr (Or.inr (ho g hg)), fun _ => (ho g hg).2⟩)
theorem Bare.push (B : Bare σ) (x y : Nat) (f : Fr) : Bare (σ.push x y f) := B.of rfl (fun _ => rfl)
theorem Bare.pushAll (B : Bare σ) (x : Nat) (ys : List Nat) (f : Fr) : Bare (σ.pushAll x ys f) := B.of (pushAll_keeps ys σ).1 (fun c => by rw [(pushAll_keeps ys σ).2.1])
theorem tell_here (t : Nat) (e : News) (σ : Net) (c : Nat) : ((σ.tell t e).cl c).here = (σ.cl c).here := by
  rw [tell_cl]
  split
  · rename_i h
    unfold Cli.tell
    split <;> rw [h]
  · rfl
theorem tells_here (t : Nat) : ∀ (l : List News) (σ : Net) (c : Nat), ((σ.tells t l).cl c).here = (σ.cl c).here
  | [], _, _ => rfl
  | e :: l, σ, c => (tells_here t l (σ.tell t e) c).trans (tell_here t e σ c)
theorem lose_here (t : Nat) (m : Int) (σ : Net) (c : Nat) : ((σ.lose t m).cl c).here = (σ.cl c).here := by
  show (put σ.cl (t / 2) _ c).here = _
  by_cases e : c = t / 2
  · rw [e, put_same]; unfold Cli.lose; split <;> rfl
  · rw [put_other _ _ e]
theorem Bare.tells (B : Bare σ) (t : Nat) (l : List News) : Bare (σ.tells t l) := B.of (tells_keep t l σ).1 (tells_here t l σ)
theorem Bare.lose (B : Bare σ) (t : Nat) (m : Int) : Bare (σ.lose t m) := B.of rfl (lose_here t m σ)

theorem Bare.happens (B : Bare σ) (b : Nat) (e : News) (fr : Option Nat) : Bare (σ.happens b e fr) := by
  have hh : ∀ s, s < 8 → ((σ.happens b e fr).cl (s / 2)).here = (σ.cl (s / 2)).here := fun s _ => congrArg View.here (view_happens σ b e fr s)
  refine ⟨fun b' s f hs hr hf hw => ?_, fun b' s f hs hf hw => ?_⟩
  · rw [hh s hs] at hr
    cases happens_as σ hs b e fr with
    | none _ hk _ => rw [hk] at hf; exact B.here b' s f hs hr hf hw
    | told _ _ _ _ _ hk _ => rw [hk] at hf; exact B.here b' s f hs hr hf hw
    | kept g hg _ _ hr' hk hb _ =>
      by_cases e1 : b' = b
      · subst e1
        rw [hb] at hf; cases hf
        rcases hr' with h | h
        · rw [show g.waits = false from hw] at h; cases h
        · exact absurd hr h
      · rw [hk b' e1] at hf; exact B.here b' s f hs hr hf hw
    | lost g hg _ _ hr' hk hb _ =>
      by_cases e1 : b' = b
      · subst e1; exact absurd hr hr'.2
      · rw [hk b' e1] at hf; exact B.here b' s f hs hr hf hw
  · cases happens_as σ hs b e fr with
    | none _ hk _ => rw [hk] at hf; exact B.wait b' s f hs hf hw
    | told _ _ _ _ _ hk _ => rw [hk] at hf; exact B.wait b' s f hs hf hw
    | kept g hg _ _ hr' hk hb _ =>
      by_cases e1 : b' = b
      · subst e1
        rw [hb] at hf; cases hf
        exact B.wait b' s g hs hg hw
      · rw [hk b' e1] at hf; exact B.wait b' s f hs hf hw
    | lost g hg _ _ hr' hk hb _ =>
      by_cases e1 : b' = b
      · subst e1
        rw [hb] at hf; cases hf
        rw [show g.waits = true from hw] at hr'; cases hr'.1
      · rw [hk b' e1] at hf; exact B.wait b' s f hs hf hw

theorem Bare.learn (B : Bare σ) (b t : Nat) (age : Int) (fl : List Tst) (way : Option Nat) : Bare (σ.learn b t age fl way) := by
  unfold Net.learn
  split
  · exact B.bare (fun g hg => by cases hg; exact ⟨rfl, rfl⟩)
  · split
    · exact B.bare (fun g hg => by cases hg; exact ⟨rfl, rfl⟩)
    · exact B
theorem Bare.forget (B : Bare σ) (b t : Nat) (age : Int) : Bare (σ.forget b t age) := by
  unfold Net.forget
  split
  · exact B
  · split
    · exact B.bare (fun g hg => by cases hg)
    · exact B

/-- A frame is handled. -/
theorem Bare.handle (B : Bare σ) (b : Nat) (fr : Option Nat) (f : Fr) (hs : ∀ t evs m n, f = .rest t evs m n → t < 8) : Bare (σ.handle b fr f) := by
  cases f with
  | sub t age fl => exact (B.learn b t age fl fr).pushAll _ _ _
  | unsub t age => exact (B.forget b t age).pushAll _ _ _
  | event e => exact B.happens b e fr
  | move t age fl old new =>
    have B1 : Bare (σ.know b t (some ⟨age, fl, fr, [], 0, false⟩)) := B.bare (fun g hg => by cases hg; exact ⟨rfl, rfl⟩)
    simp only [Net.handle]
    split
    · split
      · exact B1.push _ _ _
      · exact B1
    · exact B1.push _ _ _
  | rest t evs m new =>
    have ht := hs t evs m new rfl
    simp only [Net.handle]
    split
    · exact B.push _ _ _
    · cases hk : σ.kn b t with
      | none => exact B
      | some f =>
        refine (((B.lose t m).tells t evs).tells t f.kept).know (fun g hg => ?_)
        cases hg
        refine ⟨?_, fun h => by cases h⟩
        rw [tells_here, tells_here, lose_here]
        by_cases hh : (σ.cl (t / 2)).here = some b
        · right; right
          refine ⟨rfl, ?_⟩
          cases hw : f.waits with
          | true => exact B.wait b t f ht hk hw
          | false => exact (B.here b t f ht hh hk hw).2
        · exact Or.inr (Or.inl hh)
theorem Bare.del (B : Bare σ) (G : Good σ) (x y : Int) : Bare (σ.del x y) := by
  unfold Net.del
  split
  · cases hq : σ.q x.toNat y.toNat with
    | nil => exact B
    | cons f r =>
      refine Bare.handle (σ := { σ with q := put2 σ.q x.toNat y.toNat r }) (B.of rfl (fun _ => rfl)) _ _ _ (fun t evs m n he => ?_)
      have := G.frames x.toNat y.toNat f (by rw [hq]; exact List.mem_cons_self ..)
      rw [he] at this
      exact this.1
  · exact B
theorem bare_new (par : List Nat) : Bare (newNet par) := ⟨fun _ _ _ _ _ h => (nomatch h), fun _ _ _ _ h => (nomatch h)⟩
end

end Go.Proofs.Ytodfcpblcpogiaa

/-
  WHAT WAS KEPT IS TOLD, as the pure net has it: the client comes back, or to another broker.
-/
import Derived.Test.YtodfcpblcpogiaaAtp
namespace Go.Proofs.Ytodfcpblcpogiaa

theorem delE_ok {σ : Net} (ho : σ.closed = false) {x y : Nat} (hn : near σ.par x y = true) {f : Fr} {l : List Fr} (hq : σ.q x y = f :: l) : σ.del x y = Net.handle { σ with q := put2 σ.q x y l } y (some x) f := by
  have hE : σ.delE x y = 0 := by simp [Net.delE, Net.asked, ho, Net.isLink, hn, hq]
  simp only [Net.del, hE, if_true, toNat_nat, hq]

/-- One frame in all links. -/
def OneQ (σ : Net) (x y : Nat) (f : Fr) : Prop := σ.q x y = [f] ∧ ∀ u v, ¬ (u = x ∧ v = y) → σ.q u v = []
def NoQ (σ : Net) : Prop := ∀ u v, σ.q u v = []
theorem OneQ.pop {σ : Net} {x y : Nat} {f : Fr} (h : OneQ σ x y f) : NoQ { σ with q := put2 σ.q x y [] } := fun u v => by
  show put2 σ.q x y [] u v = []
  by_cases e : u = x ∧ v = y
  · obtain ⟨rfl, rfl⟩ := e; exact put2_same _ _ _ _
  · rw [put2_other _ _ e]; exact h.2 u v e
theorem NoQ.push {σ : Net} (h : NoQ σ) (x y : Nat) (f : Fr) : OneQ (σ.push x y f) x y f := by
  refine ⟨?_, fun u v e => ?_⟩
  · show put2 σ.q x y (σ.q x y ++ [f]) x y = _
    rw [put2_same, h x y]; rfl
  · show put2 σ.q x y (σ.q x y ++ [f]) u v = _
    rw [put2_other _ _ e]; exact h u v
theorem OneQ.at {σ : Net} {x y : Nat} {f : Fr} (h : OneQ σ x y f) {u v : Nat} {g : Fr} {l : List Fr} (hq : σ.q u v = g :: l) : u = x ∧ v = y ∧ g = f ∧ l = [] := by
  by_cases e : u = x ∧ v = y
  · obtain ⟨rfl, rfl⟩ := e
    rw [h.1] at hq
    cases hq
    exact ⟨rfl, rfl, rfl, rfl⟩
  · rw [h.2 u v e] at hq; cases hq

/-- Client 2 has gone from a; K is kept there, mo more came. -/
structure KSt (par : List Nat) (a : Nat) (K : List News) (mo : Int) (σ : Net) : Prop where
  tr : σ.par = par
  opn : σ.closed = false
  on : ∀ x, x < size par → σ.kn x 4 = some ⟨0, [], wayTo par x a, if x = a then K else [], if x = a then mo else 0, false⟩
  off : ∀ x s, s ≠ 4 → σ.kn x s = none
  here : (σ.cl 2).here = none
  home : (σ.cl 2).home = some a
  used0 : (σ.cl 2).used 0 = true
  used1 : (σ.cl 2).used 1 = false
  fl : (σ.cl 2).fl 0 = []
  age : (σ.cl 2).age 0 = 0
  told : (σ.cl 2).told 0 = []
  log : (σ.cl 2).log = []

section
variable {par : List Nat} {a : Nat} {K : List News} {mo : Int} {σ : Net}

theorem KSt.of (S : KSt par a K mo σ) {τ : Net} (hp : τ.par = σ.par) (ho : τ.closed = σ.closed) (hk : τ.kn = σ.kn) (hc : τ.cl 2 = σ.cl 2) : KSt par a K mo τ :=
  ⟨hp.trans S.tr, ho.trans S.opn, by rw [hk]; exact S.on, by rw [hk]; exact S.off, by rw [hc]; exact S.here, by rw [hc]; exact S.home, by rw [hc]; exact S.used0, by rw [hc]; exact S.used1, by rw [hc]; exact S.fl, by rw [hc]; exact S.age, by rw [hc]; exact S.told, by rw [hc]; exact S.log⟩

theorem hears_one {b : Nat} {e : News} (hoff : ∀ s, s ≠ 4 → σ.kn b s = none) : σ.hears b e (List.range 8) = σ.hear b e 4 := by
  have h : ∀ (τ : Net), (∀ s, s ≠ 4 → τ.kn b s = none) → ∀ s, s ≠ 4 → τ.hear b e s = τ := fun τ ht s hs => by unfold Net.hear; rw [ht s hs]
  have h4 : ∀ s, s ≠ 4 → (σ.hear b e 4).kn b s = none := fun s hs => by
    unfold Net.hear
    split
    · exact hoff s hs
    · split
      · split
        · show put2 σ.kn b 4 _ b s = none
          rw [put2_other _ _ (fun x => hs x.2)]; exact hoff s hs
        · split
          · show put2 σ.kn b 4 _ b s = none
            rw [put2_other _ _ (fun x => hs x.2)]; exact hoff s hs
          · exact hoff s hs
      · exact hoff s hs
  have hr : List.range 8 = [0, 1, 2, 3, 4, 5, 6, 7] := rfl
  rw [hr]
  simp only [Net.hears, List.foldl_cons, List.foldl_nil]
  rw [h σ hoff 0 (by decide), h σ hoff 1 (by decide), h σ hoff 2 (by decide), h σ hoff 3 (by decide), h _ h4 5 (by decide), h _ h4 6 (by decide), h _ h4 7 (by decide)]

/-- An event comes to a broker: it goes on, or is kept. -/
theorem KSt.happens (S : KSt par a K mo σ) (T : Tree par) (hq : NoQ σ) {x : Nat} (hx : x < size par) (ha : a < size par) (e : News) {fr : Option Nat} (hfr : x ≠ a → fr ≠ some (next par x a)) :
    (x ≠ a → OneQ (σ.happens x e fr) x (next par x a) (.event e) ∧ KSt par a K mo (σ.happens x e fr)) ∧
    (x = a → NoQ (σ.happens x e fr) ∧ KSt par a (if K.length < 6 then K ++ [e] else K) (if K.length < 6 then mo else mo + 1) (σ.happens x e fr)) := by
  have hone := hears_one (b := x) (e := e) (S.off x)
  have hhap : σ.happens x e fr = (σ.hear x e 4).pushAll x (σ.targets x e fr) (.event e) := by
    unfold Net.happens
    rw [show (List.range 8).foldl (fun σ s => σ.hear x e s) σ = σ.hears x e (List.range 8) from rfl, hone]
  have hwant : ∀ y s, σ.wants x e y s = true ↔ s = 4 ∧ x ≠ a ∧ y = next par x a := fun y s => by
    unfold Net.wants
    by_cases h4 : s = 4
    · subst h4
      rw [S.on x hx]
      simp only [meets, List.all_nil, Bool.true_and, decide_eq_true_eq, true_and]
      unfold wayTo
      by_cases hxa : x = a
      · rw [if_pos hxa]; simp [hxa]
      · rw [if_neg hxa]; simp [hxa, eq_comm]
    · rw [S.off x s h4]; simp [h4]
  refine ⟨fun hxa => ?_, fun hxa => ?_⟩
  · have hs := next_step T hx ha hxa
    have hn6 := (near_lt6 T hs.1).2
    have hhear : σ.hear x e 4 = σ := by
      unfold Net.hear
      rw [S.on x hx]
      simp [wayTo, hxa]
    have htar : σ.targets x e fr = [next par x a] := by
      have hp : ∀ y, (decide (some y ≠ fr) && (List.range 8).any (σ.wants x e y)) = decide (y = next par x a) := fun y => by
        have h1 : (List.range 8).any (σ.wants x e y) = decide (y = next par x a) := by
          by_cases hy : y = next par x a
          · rw [decide_eq_true hy]; exact List.any_eq_true.2 ⟨4, List.mem_range.2 (by omega), (hwant y 4).2 ⟨rfl, hxa, hy⟩⟩
          · rw [decide_eq_false hy]
            rw [List.any_eq_false]
            intro s _ hs
            exact hy ((hwant y s).1 hs).2.2
        rw [h1]
        by_cases hy : y = next par x a
        · subst hy
          have : some (next par x a) ≠ fr := fun h => hfr hxa h.symm
          simp [this]
        · simp [hy]
      have hf : σ.targets x e fr = (List.range 6).filter fun y => decide (y = next par x a) := by
        unfold Net.targets
        exact List.filter_congr (fun y _ => hp y)
      rw [hf]
      have hr : List.range 6 = [0, 1, 2, 3, 4, 5] := rfl
      rw [hr]
      rcases (by omega : next par x a = 0 ∨ next par x a = 1 ∨ next par x a = 2 ∨ next par x a = 3 ∨ next par x a = 4 ∨ next par x a = 5) with h | h | h | h | h | h <;> rw [h] <;> rfl
    have : σ.happens x e fr = σ.push x (next par x a) (.event e) := by rw [hhap, hhear, htar]; rfl
    rw [this]
    exact ⟨hq.push _ _ _, S.of rfl rfl rfl rfl⟩
  · subst hxa
    have htar : σ.targets x e fr = [] := by
      unfold Net.targets
      refine List.filter_eq_nil_iff.2 (fun y _ h => ?_)
      simp only [Bool.and_eq_true, List.any_eq_true] at h
      obtain ⟨_, s, _, hs⟩ := h
      exact ((hwant y s).1 hs).2.1 rfl
    have hre : σ.happens x e fr = σ.hear x e 4 := by rw [hhap, htar]; rfl
    rw [hre]
    have hkn := S.on x hx
    simp only [if_true, wayTo] at hkn
    have hput : ∀ (f' : Fact) (K' : List News) (mo' : Int), f' = ⟨0, [], none, K', mo', false⟩ → KSt par x K' mo' (σ.know x 4 (some f')) := fun f' K' mo' hf' => by
      refine ⟨S.tr, S.opn, fun z hz => ?_, fun z s hs => ?_, S.here, S.home, S.used0, S.used1, S.fl, S.age, S.told, S.log⟩
      · show put2 σ.kn x 4 (some f') z 4 = _
        by_cases hzx : z = x
        · subst hzx; rw [put2_same, hf']; simp [wayTo]
        · rw [put2_other _ _ (fun h => hzx h.1), S.on z hz]; simp [hzx]
      · show put2 σ.kn x 4 (some f') z s = none
        rw [put2_other _ _ (fun h => hs h.2)]; exact S.off z s hs
    unfold Net.hear
    rw [hkn]
    have h2 : (4 : Nat) / 2 = 2 := rfl
    simp only [h2, S.here, meets, List.all_nil, Bool.true_and, decide_true, if_true, Bool.false_or]
    by_cases hk : K.length < 6
    · rw [if_pos (by simp [hk]), if_pos hk, if_pos hk]
      exact ⟨hq, hput _ _ _ rfl⟩
    · rw [if_neg (by simp [hk]), if_pos (by simp), if_neg hk, if_neg hk]
      exact ⟨hq, hput _ _ _ rfl⟩

/-- An event on its way to the home. -/
def KeepI (par : List Nat) (a : Nat) (K : List News) (mo : Int) (e : News) (σ : Net) : Prop :=
  (∃ x y, y < size par ∧ near par x y = true ∧ y = next par x a ∧ x ≠ a ∧ x < size par ∧ OneQ σ x y (.event e) ∧ KSt par a K mo σ) ∨
  (NoQ σ ∧ KSt par a (if K.length < 6 then K ++ [e] else K) (if K.length < 6 then mo else mo + 1) σ)

theorem KeepI.del (T : Tree par) (ha : a < size par) {e : News} (I : KeepI par a K mo e σ) {x y : Nat} {f : Fr} {l : List Fr} (hq : σ.q x y = f :: l) : KeepI par a K mo e (σ.del x y) := by
  rcases I with ⟨u, v, hv, hn, hvn, hua, hu, hone, S⟩ | ⟨hno, _⟩
  · obtain ⟨rfl, rfl, rfl, rfl⟩ := hone.at hq
    have hd := delE_ok S.opn (by rw [S.tr]; exact hn) hq
    rw [hd]
    have S0 : KSt par a K mo { σ with q := put2 σ.q x y [] } := S.of rfl rfl rfl rfl
    have hne : y ≠ a → (some x : Option Nat) ≠ some (next par y a) := fun hya h => by
      have h1 := (next_step T hv ha hya).2.2
      have h2 := (next_step T hu ha hua).2.2
      have : x = next par y a := Option.some.inj h
      rw [← this] at h1
      rw [← hvn] at h2
      omega
    have hh := S0.happens T hone.pop hv ha e (fr := some x) hne
    by_cases hya : y = a
    · exact Or.inr (hh.2 hya)
    · have hs := next_step T hv ha hya
      obtain ⟨h1, h2⟩ := hh.1 hya
      exact Or.inl ⟨y, next par y a, hs.2.1, hs.1, rfl, hya, hv, h1, h2⟩
  · rw [hno x y] at hq; cases hq

/-- It is published. -/
theorem KSt.pub (S : KSt par a K mo σ) (T : Tree par) (hq : NoQ σ) {b : Nat} (hb : b < size par) (ha : a < size par) (hh : (σ.cl 3).here = some b) (f0 f1 f2 : Int) :
    σ.pubE 3 = 0 ∧ KeepI par a K mo (σ.pubEv 3 f0 f1 f2) (σ.pub 3 f0 f1 f2) := by
  have hful : σ.full = false := by simp [Net.full, Net.waiting, hq _ _, List.range, List.range.loop]
  have hE : σ.pubE 3 = 0 := by
    simp [Net.pubE, Net.asked, S.opn, isCli, hh, hful]
  refine ⟨hE, ?_⟩
  have hp : σ.pub 3 f0 f1 f2 = (σ.setCl 3 { σ.cl 3 with many := (σ.cl 3).many + 1 }).happens b (σ.pubEv 3 f0 f1 f2) none := by
    simp only [Net.pub, hE, if_true]
    split
    · rename_i b' hb'
      have h : (σ.cl 3).here = some b' := hb'
      rw [hh] at h
      have := Option.some.inj h
      subst this
      rfl
    · rename_i hb'
      have h : (σ.cl 3).here = none := hb'
      rw [hh] at h; cases h
  rw [hp]
  have S0 : KSt par a K mo (σ.setCl 3 { σ.cl 3 with many := (σ.cl 3).many + 1 }) := S.of rfl rfl rfl (by simp [Net.setCl, put])
  have hh2 := S0.happens T hq hb ha (σ.pubEv 3 f0 f1 f2) (fr := none) (fun _ => by simp)
  by_cases hba : b = a
  · exact Or.inr (hh2.2 hba)
  · have hs := next_step T hb ha hba
    obtain ⟨h1, h2⟩ := hh2.1 hba
    exact Or.inl ⟨b, next par b a, hs.2.1, hs.1, rfl, hba, hb, h1, h2⟩
end

/-! ### telling a list -/
theorem tell_fresh2 {x : Cli} {k : Nat} {e : News} (h : ∀ o, o ∈ x.told k → Later o e) : x.tell k e = { x with told := put x.told k (x.told k ++ [e]), log := x.log ++ [⟨k, 0, e.ev⟩] } := by
  unfold Cli.tell
  rw [if_neg]
  intro ho
  unfold outrun at ho
  obtain ⟨o, h1, h2⟩ := List.any_eq_true.1 ho
  exact h o h1 (of_decide_eq_true h2)
/-- Nothing of it was told. -/
theorem tells_fresh (s : Nat) : ∀ (l : List News) (σ : Net), (((σ.cl (s / 2)).told (s % 2)) ++ l).Pairwise Later →
    ((σ.tells s l).cl (s / 2)).log = (σ.cl (s / 2)).log ++ l.map (fun e => ⟨((s % 2 : Nat) : Int), 0, e.ev⟩) ∧ ((σ.tells s l).cl (s / 2)).told (s % 2) = (σ.cl (s / 2)).told (s % 2) ++ l ∧ ∀ c, c ≠ s / 2 → (σ.tells s l).cl c = σ.cl c
  | [], σ, _ => ⟨by simp [Net.tells], by simp [Net.tells], fun _ _ => rfl⟩
  | e :: l, σ, h => by
    have hf : ∀ o, o ∈ (σ.cl (s / 2)).told (s % 2) → Later o e := fun o ho => (List.pairwise_append.1 h).2.2 o ho e (List.mem_cons_self ..)
    have h1 : (σ.tell s e).cl (s / 2) = { σ.cl (s / 2) with told := put (σ.cl (s / 2)).told (s % 2) ((σ.cl (s / 2)).told (s % 2) ++ [e]), log := (σ.cl (s / 2)).log ++ [⟨((s % 2 : Nat) : Int), 0, e.ev⟩] } := by
      unfold Net.tell
      rw [tell_fresh2 hf]
      simp [Net.setCl]
    have ih := tells_fresh s l (σ.tell s e) (by rw [h1]; simp only [put_same]; rw [List.append_assoc]; exact h)
    rw [h1] at ih
    refine ⟨?_, ?_, fun c hc => ?_⟩
    · show ((((σ.tell s e).tells s l)).cl (s / 2)).log = _
      rw [ih.1]; simp
    · show ((((σ.tell s e).tells s l)).cl (s / 2)).told (s % 2) = _
      rw [ih.2.1]; simp
    · show (((σ.tell s e).tells s l)).cl c = _
      rw [ih.2.2 c hc]
      unfold Net.tell
      simp [Net.setCl, put_other _ _ hc]

def lostE (k : Nat) (m : Int) : List Ent := if 0 < m then [⟨k, m, Ev.zero⟩] else []
theorem lose_cl (σ : Net) (s : Nat) (m : Int) : ((σ.lose s m).cl (s / 2)).log = (σ.cl (s / 2)).log ++ lostE (s % 2) m ∧ ((σ.lose s m).cl (s / 2)).told = (σ.cl (s / 2)).told ∧ ∀ c, c ≠ s / 2 → (σ.lose s m).cl c = σ.cl c := by
  unfold Net.lose Cli.lose lostE
  split
  · refine ⟨by simp [Net.setCl], by simp [Net.setCl], fun c hc => by simp [Net.setCl, put_other _ _ hc]⟩
  · refine ⟨by simp [Net.setCl], by simp [Net.setCl], fun c hc => by simp [Net.setCl, put_other _ _ hc]⟩

/-- What client 2 finds in its log. -/
def keptLog (K : List News) (mo : Int) : List Ent := lostE 0 mo ++ K.map fun e => ⟨0, 0, e.ev⟩

section
variable {par : List Nat} {a b : Nat} {K : List News} {mo : Int} {σ : Net}

/-- It is told what was kept. -/
theorem told_kept (τ : Net) (ht : (τ.cl 2).told 0 = []) (hl : (τ.cl 2).log = []) (hK : K.Pairwise Later) : (((τ.lose 4 mo).tells 4 K).cl 2).log = keptLog K mo ∧ (((τ.lose 4 mo).tells 4 K).cl 2).told 0 = K ∧ (((τ.lose 4 mo).tells 4 K).cl 3) = τ.cl 3 := by
  have h1 := lose_cl τ 4 mo
  have h42 : (4 : Nat) / 2 = 2 := rfl
  have h40 : (4 : Nat) % 2 = 0 := rfl
  rw [h42, h40] at h1
  have h2 := tells_fresh 4 K (τ.lose 4 mo) (by rw [h42, h40, h1.2.1, ht]; exact hK)
  rw [h42, h40] at h2
  refine ⟨?_, ?_, ?_⟩
  · rw [h2.1, h1.1, hl]; rfl
  · rw [h2.2.1, h1.2.1, ht]; rfl
  · rw [h2.2.2 3 (by decide), h1.2.2 3 (by decide)]

/-- It comes back. -/
theorem KSt.back (S : KSt par a K mo σ) (hq : NoQ σ) (ha : a < size par) (hK : K.Pairwise Later) :
    σ.attachE 2 a = 0 ∧ NoQ (σ.attach 2 a) ∧ ((σ.attach 2 a).cl 2).log = keptLog K mo ∧ (σ.attach 2 a).closed = false := by
  have hful : σ.full = false := by simp [Net.full, Net.waiting, hq _ _, List.range, List.range.loop]
  have hE : σ.attachE 2 a = 0 := by
    have hb : σ.isBro (a : Int) = true := isBro_nat (by unfold Net.n; rw [S.tr]; exact ha)
    simp [Net.attachE, Net.asked, S.opn, isCli, hb, S.here, hful]
  have hat : σ.attach 2 a = ((σ.backs 2 a 0).backs 2 a 1).arrive 2 a := by
    simp only [Net.attach, hE, if_true, toNat_nat]
    show σ.attachN 2 a = _
    unfold Net.attachN
    rw [S.home]
    simp
  have hb0 : σ.backs 2 a 0 = ((σ.lose 4 mo).tells 4 K).know a 4 (some ⟨0, [], none, [], 0, false⟩) := by
    unfold Net.backs
    rw [if_pos S.used0]
    have := S.on a ha
    simp only [if_true, wayTo] at this
    show (match σ.kn a 4 with | none => σ | some f => _) = _
    rw [this]
  have ht := told_kept (K := K) (mo := mo) σ S.told S.log hK
  have hu1 : ((σ.backs 2 a 0).cl 2).used 1 = false := by
    have hv : ((σ.backs 2 a 0).view 5).used = (σ.view 5).used := by rw [view_backs]
    have h1 : ((σ.backs 2 a 0).view 5).used = ((σ.backs 2 a 0).cl 2).used 1 := rfl
    have h2 : (σ.view 5).used = (σ.cl 2).used 1 := rfl
    rw [h1, h2, S.used1] at hv
    exact hv
  have hb1 : (σ.backs 2 a 0).backs 2 a 1 = σ.backs 2 a 0 := by
    unfold Net.backs
    rw [if_neg]
    have : ((σ.backs 2 a 0).cl 2).used 1 = false := hu1
    unfold Net.backs at this
    rw [this]; simp
  have k1 := backs_keeps (σ := σ) 2 a 0
  rw [hat, hb1]
  refine ⟨hE, fun u v => ?_, ?_, ?_⟩
  · show (σ.backs 2 a 0).q u v = []
    rw [k1.2.1]; exact hq u v
  · have : (((σ.backs 2 a 0).arrive 2 a).cl 2).log = ((σ.backs 2 a 0).cl 2).log := by simp [Net.arrive, Net.setCl]
    rw [this, hb0]
    exact ht.1
  · show (σ.backs 2 a 0).closed = false
    rw [k1.2.2.1]; exact S.opn

/-- It comes to another broker: what was kept is fetched. -/
structure MSt (par : List Nat) (b : Nat) (σ : Net) : Prop where
  tr : σ.par = par
  opn : σ.closed = false
  at_ : σ.kn b 4 = some ⟨1, [], none, [], 0, true⟩
  told : (σ.cl 2).told 0 = []
  log : (σ.cl 2).log = []
def MoveI (par : List Nat) (a b : Nat) (K : List News) (mo : Int) (σ : Net) : Prop :=
  (∃ x y, near par x y = true ∧ OneQ σ x y (.move 4 1 [] a b) ∧ dist par y a < dist par b a ∧ MSt par b σ ∧ σ.kn a 4 = some ⟨0, [], none, K, mo, false⟩) ∨
  (∃ x y, near par x y = true ∧ OneQ σ x y (.rest 4 K mo b) ∧ MSt par b σ) ∨
  (NoQ σ ∧ σ.par = par ∧ σ.closed = false ∧ (σ.cl 2).log = keptLog K mo)

theorem MoveI.del (T : Tree par) (ha : a < size par) (hb : b < size par) (hK : K.Pairwise Later) (I : MoveI par a b K mo σ) {x y : Nat} {f : Fr} {l : List Fr} (hq : σ.q x y = f :: l) : MoveI par a b K mo (σ.del x y) := by
  rcases I with ⟨u, v, hn, hone, hd, M, hka⟩ | ⟨u, v, hn, hone, M⟩ | ⟨hno, _⟩
  · obtain ⟨rfl, rfl, rfl, rfl⟩ := hone.at hq
    rw [delE_ok M.opn (by rw [M.tr]; exact hn) hq]
    have hy := (near_lt T hn).2
    have hyb : y ≠ b := fun e => by subst e; omega
    have hnq := hone.pop
    have M1 : MSt par b (Net.know { σ with q := put2 σ.q x y [] } y 4 (some ⟨1, [], some x, [], 0, false⟩)) := by
      refine ⟨M.tr, M.opn, ?_, M.told, M.log⟩
      show put2 σ.kn y 4 _ b 4 = _
      rw [put2_other _ _ (fun h => hyb h.1.symm)]; exact M.at_
    simp only [Net.handle]
    split
    · rename_i hya
      subst hya
      rw [show ({ σ with q := put2 σ.q x y [] } : Net).kn y 4 = some ⟨0, [], none, K, mo, false⟩ from hka]
      refine Or.inr (Or.inl ⟨y, x, by rw [near_comm]; exact hn, ?_, ⟨M1.tr, M1.opn, M1.at_, M1.told, M1.log⟩⟩)
      exact NoQ.push (σ := Net.know { σ with q := put2 σ.q x y [] } y 4 (some ⟨1, [], some x, [], 0, false⟩)) hnq y x _
    · rename_i hya
      have hs := next_step T hy ha hya
      refine Or.inl ⟨y, next par y a, hs.1, ?_, by omega, ⟨M1.tr, M1.opn, M1.at_, M1.told, M1.log⟩, ?_⟩
      · have := NoQ.push (σ := Net.know { σ with q := put2 σ.q x y [] } y 4 (some ⟨1, [], some x, [], 0, false⟩)) hnq y (next par y a) (.move 4 1 [] a b)
        rw [← M.tr] at this ⊢
        exact this
      · show put2 σ.kn y 4 _ a 4 = _
        rw [put2_other _ _ (fun h => hya h.1.symm)]; exact hka
  · obtain ⟨rfl, rfl, rfl, rfl⟩ := hone.at hq
    rw [delE_ok M.opn (by rw [M.tr]; exact hn) hq]
    have hy := (near_lt T hn).2
    have hnq := hone.pop
    simp only [Net.handle]
    split
    · rename_i hyb
      have hs := next_step T hy hb hyb
      refine Or.inr (Or.inl ⟨y, next par y b, hs.1, ?_, ⟨M.tr, M.opn, M.at_, M.told, M.log⟩⟩)
      have := NoQ.push hnq y (next par y b) (.rest 4 K mo b)
      rw [← M.tr] at this ⊢
      exact this
    · rename_i hyb
      have hyb : y = b := by simpa using hyb
      subst hyb
      rw [show ({ σ with q := put2 σ.q x y [] } : Net).kn y 4 = some ⟨1, [], none, [], 0, true⟩ from M.at_]
      have ht := told_kept (K := K) (mo := mo) { σ with q := put2 σ.q x y [] } M.told M.log hK
      have h1 := tells_keeps 4 K (Net.lose { σ with q := put2 σ.q x y [] } 4 mo)
      refine Or.inr (Or.inr ⟨fun u v => ?_, ?_, ?_, ?_⟩)
      · show (Net.tells (Net.lose { σ with q := put2 σ.q x y [] } 4 mo) 4 K).q u v = []
        rw [h1.2.1]; exact hnq u v
      · show (Net.tells (Net.lose { σ with q := put2 σ.q x y [] } 4 mo) 4 K).par = par
        rw [h1.1]; exact M.tr
      · show (Net.tells (Net.lose { σ with q := put2 σ.q x y [] } 4 mo) 4 K).closed = false
        rw [h1.2.2.1]; exact M.opn
      · exact ht.1
  · rw [hno x y] at hq; cases hq

theorem KSt.elsewhere (S : KSt par a K mo σ) (T : Tree par) (hq : NoQ σ) (ha : a < size par) (hb : b < size par) (hne : b ≠ a) : σ.attachE 2 b = 0 ∧ MoveI par a b K mo (σ.attach 2 b) := by
  have hful : σ.full = false := by simp [Net.full, Net.waiting, hq _ _, List.range, List.range.loop]
  have hE : σ.attachE 2 b = 0 := by
    have hbb : σ.isBro (b : Int) = true := isBro_nat (by unfold Net.n; rw [S.tr]; exact hb)
    simp [Net.attachE, Net.asked, S.opn, isCli, hbb, S.here, hful]
  refine ⟨hE, ?_⟩
  have hat : σ.attach 2 b = ((σ.comes 2 b a 0).comes 2 b a 1).arrive 2 b := by
    simp only [Net.attach, hE, if_true, toNat_nat]
    show σ.attachN 2 b = _
    unfold Net.attachN
    rw [S.home]
    simp
    intro h; exact absurd h.symm hne
  obtain ⟨τ, hτ⟩ : ∃ τ, τ = (σ.setCl 2 { σ.cl 2 with age := put (σ.cl 2).age 0 1 }).know b 4 (some ⟨1, [], none, [], 0, true⟩) := ⟨_, rfl⟩
  have hc0 : σ.comes 2 b a 0 = τ.push b (next par b a) (.move 4 1 [] a b) := by
    rw [hτ]
    simp only [Net.comes, S.used0, if_true, S.age, S.fl, S.tr]
    rfl
  have hu1 : ((σ.comes 2 b a 0).cl 2).used 1 = false := by rw [((comes_keeps (σ := σ) 2 b a 0).2.2 2).2.2.1]; exact S.used1
  rw [hat, comes_off hu1, hc0]
  have hs := next_step T hb ha hne
  have hnq : NoQ τ := by rw [hτ]; exact hq
  have hone := hnq.push b (next par b a) (.move 4 1 [] a b)
  have hcl : ((τ.push b (next par b a) (.move 4 1 [] a b)).arrive 2 b).cl 2 = { (τ.cl 2) with here := some b, home := some b, stays := (τ.cl 2).stays + 1 } := by simp [Net.arrive, Net.setCl, Net.push]
  have hτ2 : (τ.cl 2).told = (σ.cl 2).told ∧ (τ.cl 2).log = (σ.cl 2).log := by rw [hτ]; simp [Net.know, Net.setCl]
  refine Or.inl ⟨b, next par b a, hs.1, hone, by omega, ⟨by rw [← S.tr, hτ]; rfl, by rw [← S.opn, hτ]; rfl, ?_, ?_, ?_⟩, ?_⟩
  · show τ.kn b 4 = _
    rw [hτ]
    exact put2_same _ _ _ _
  · rw [hcl]; show (τ.cl 2).told 0 = []; rw [hτ2.1]; exact S.told
  · rw [hcl]; show (τ.cl 2).log = []; rw [hτ2.2]; exact S.log
  · show τ.kn a 4 = _
    rw [hτ]
    show put2 σ.kn b 4 _ a 4 = _
    rw [put2_other _ _ (fun h => hne h.1.symm)]
    have := S.on a ha
    simpa [wayTo] using this
end

end Go.Proofs.Ytodfcpblcpogiaa

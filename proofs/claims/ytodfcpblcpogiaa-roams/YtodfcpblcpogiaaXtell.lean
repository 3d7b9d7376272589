/-
  Telling, as the net knows it.
-/
import Derived.Test.YtodfcpblcpogiaaTell
namespace Go.Proofs.Ytodfcpblcpogiaa
open Go.RowKit

/-- News whose numbers are in reach. -/
def News.ok (e : News) : Prop := 0 ≤ e.ev.pub ∧ e.ev.pub < 4 ∧ 1 ≤ e.ev.num ∧ e.ev.num ≤ 2199023255552 ∧ 0 ≤ e.stay ∧ e.stay ≤ 2199023255552

/-- The role of one block more. -/
def roleAt (ρ : Nat → Option Role) (g : Nat) (r : Role) : Nat → Option Role := fun i => if i = g then some r else ρ i

theorem agg_inj {a b c d : Int} (h : (Value.agg #[int a, int b]) = .agg #[int c, int d]) : a = c ∧ b = d := by
  cases h; exact ⟨rfl, rfl⟩

theorem HeardAt.told {w w' : World} {ρ' : Nat → Option Role} {c k mb n : Nat} {D : DataW Nat} {told : List News} {e : News} {kl : Lit} (hr : ρ' mb = some (.map c k)) (hown : w.ownsMap Try.prog 176 (plainElem Try.prog 3) mb n D)
    (hown' : w'.ownsMap Try.prog 176 (plainElem Try.prog 3) mb (n + 1) (D.put kl (.lit (.int .i64 e.ev.num)))) (hn : n ≤ told.length) (hkey : keyOf Try.prog 176 (.agg #[int e.ev.pub, int e.stay]) = some kl)
    (hD : ∀ p st kl, keyOf Try.prog 176 (.agg #[int p, int st]) = some kl → D.atKey kl (.lit (.int .i64 0)) = .lit (.int .i64 (heardOf told p st))) : HeardAt w' ρ' c k true (told ++ [e]) (.map (some mb)) := by
  unfold HeardAt
  rw [if_pos rfl]
  refine ⟨mb, n + 1, _, rfl, hr, hown', by simp; omega, fun p st kl' hk' => ?_⟩
  rw [heardOf_snoc]
  have hmap : Maps.IsMap D := by obtain ⟨es, cl, _, _, _, rfl⟩ := hown; exact ⟨_, rfl⟩
  by_cases e1 : kl' = kl
  · subst e1
    obtain ⟨e2, e3⟩ := agg_inj (stayLaw.inj hkey hk')
    rw [if_pos ⟨e2, e3⟩, Maps.atKey_put_same hmap (stayLaw.key hkey)]
  · rw [if_neg (fun h => e1 (by rw [h.1, h.2, hk'] at hkey; cases hkey; rfl)), Maps.atKey_put_other e1]
    exact hD p st kl' hk'

/-- The roles that telling turns. -/
def tellR (c k : Nat) (r : Role) : Prop := r = .net ∨ r = .map c k ∨ r = .log c

theorem frozen_setCell (w : World) (b o o' : Nat) (v : Value) (h : w.frozen? ⟨b, o', none⟩ = false) : (w.setCell ⟨b, o, none⟩ v).frozen? ⟨b, o', none⟩ = false := by rw [World.frozen?_setCell]; exact h
theorem cell_setCell_ne (w : World) {b o o' : Nat} {v u : Value} (hne : o' ≠ o) (h : w.cell? ⟨b, o', none⟩ = some u) : (w.setCell ⟨b, o, none⟩ v).cell? ⟨b, o', none⟩ = some u :=
  (World.cell?_setCell_other w _ _ _ (by intro e; cases e; exact hne rfl)).trans h
/-- The types of cells that handling turns: nets, logs, flags, what is known, what is kept. -/
abbrev Fix (t : TypeId) : Prop := t ≠ 111 ∧ t ≠ 65 ∧ t ≠ 167 ∧ t ≠ 160 ∧ t ≠ 163
/-- Of the cells that there were, only those may have turned; and of what is known only what is kept. -/
structure OnlyT (w w' : World) : Prop where
  cells : ∀ (k : Nat) (cs : Array Value) (t : TypeId), Fix t → w.heap[k]? = some (.cells cs t) → w'.heap[k]? = some (.cells cs t)
  known : ∀ (k : Nat) (cs : Array Value), w.heap[k]? = some (.cells cs 160) → ∃ cs', w'.heap[k]? = some (.cells cs' 160) ∧ ∀ j, j < 15 → cs'[j]? = cs[j]?
theorem OnlyT.refl (w : World) : OnlyT w w := ⟨fun _ _ _ _ h => h, fun _ cs h => ⟨cs, h, fun _ _ => rfl⟩⟩
theorem OnlyT.trans {a b c : World} (h : OnlyT a b) (k : OnlyT b c) : OnlyT a c := ⟨fun i cs t hf hi => k.cells i cs t hf (h.cells i cs t hf hi), fun i cs hi => by
  obtain ⟨cs1, h1, h2⟩ := h.known i cs hi
  obtain ⟨cs2, k1, k2⟩ := k.known i cs1 h1
  exact ⟨cs2, k1, fun j hj => (k2 j hj).trans (h2 j hj)⟩⟩
/-- None of the cells but nets, logs, flags. -/
theorem OnlyT.of_keep {w w' : World} (h : ∀ (k : Nat) (cs : Array Value) (t : TypeId), t ≠ 111 → t ≠ 65 → t ≠ 167 → t ≠ 163 → w.heap[k]? = some (.cells cs t) → w'.heap[k]? = some (.cells cs t)) : OnlyT w w' :=
  ⟨fun k cs t hf hk => h k cs t hf.1 hf.2.1 hf.2.2.1 hf.2.2.2.2 hk, fun k cs hk => ⟨cs, h k cs 160 (by decide) (by decide) (by decide) (by decide) hk, fun _ _ => rfl⟩⟩
theorem OnlyT.of_calm {w w' : World} (h : Calm w w') : OnlyT w w' := OnlyT.of_keep fun k _ _ _ _ _ _ hk => (h.block k (Array.getElem?_eq_some_iff.1 hk).1 (fun f => f)).trans hk

/-- Cells stay cells. -/
def StayC (w w' : World) : Prop := ∀ (k : Nat), (∃ cs t f, w.heap[k]? = some (.cells cs t f)) → ∃ cs t f, w'.heap[k]? = some (.cells cs t f)
theorem StayC.trans {a b c : World} (h : StayC a b) (k : StayC b c) : StayC a c := fun i hi => k i (h i hi)
theorem StayC.of_calm {w w' : World} (h : Calm w w') : StayC w w' := fun k ⟨cs, t, f, hk⟩ => ⟨cs, t, f, (h.block k (Array.getElem?_eq_some_iff.1 hk).1 (fun f => f)).trans hk⟩

/-- The net's front: all but its clients. -/
def Front (b : Nat) (w w' : World) : Prop := ∀ o v, o < 86 → w.cell? ⟨b, o, none⟩ = some v → w'.cell? ⟨b, o, none⟩ = some v
theorem Front.refl (b : Nat) (w : World) : Front b w w := fun _ _ _ h => h
theorem Front.trans {b : Nat} {u v w : World} (h : Front b u v) (k : Front b v w) : Front b u w := fun o x ho hx => k o x ho (h o x ho hx)
theorem Front.of_calm {b : Nat} {w w' : World} (h : Calm w w') : Front b w w' := fun o _ _ hx => h.cell (p := ⟨b, o, none⟩) (fun f => f) hx

/-- The entry of an event. -/
def entOf (k : Nat) (e : News) : Ent := ⟨k, 0, e.ev⟩

theorem XN.told {w w1 w2 : World} {b : Nat} {ρ : Nat → Option Role} {σ : Net} (h : XN w b ρ σ) {c k : Nat} (hc : c < 4) (hk : k < 2) {e : News} (hu : (σ.cl c).used k = true) (hout : outrun ((σ.cl c).told k) e = false)
    {mb n m g cap : Nat} {D : DataW Nat} {kl : Lit} {vl : Value} (hm : w.cell? ⟨b, 86 + c * 31 + 4 + k * 13 + 12, none⟩ = some (.map (some mb))) (hrm : ρ mb = some (.map c k)) (hown : w.ownsMap Try.prog 176 (plainElem Try.prog 3) mb n D) (hn : n ≤ ((σ.cl c).told k).length)
    (hD : ∀ p st kl, keyOf Try.prog 176 (.agg #[int p, int st]) = some kl → D.atKey kl (.lit (.int .i64 0)) = .lit (.int .i64 (heardOf ((σ.cl c).told k) p st))) (hkey : keyOf Try.prog 176 (.agg #[int e.ev.pub, int e.stay]) = some kl)
    (hl : w.cell? ⟨b, 86 + c * 31 + 30, none⟩ = some vl) (hrow : RowAt w ρ (.log c) 65 7 m ((σ.cl c).log.flatMap Ent.enc) vl) (hmlen : m = (σ.cl c).log.length)
    (t1 : Touch (fun i => i = mb) w w1) (hown1 : w1.ownsMap Try.prog 176 (plainElem Try.prog 3) mb (n + 1) (D.put kl (.lit (.int .i64 e.ev.num))))
    (hg : Grew 0 65 7 vl (m + 1) ((σ.cl c).log.flatMap Ent.enc ++ (entOf k e).enc) w1 g cap w2) :
    XN (w2.setCell ⟨b, 86 + c * 31 + 30, none⟩ (.slice (some ⟨g, 0, none⟩) (m + 1) cap)) b (roleAt ρ g (.log c)) (σ.tell (2 * c + k) e) ∧
      Mv (tellR c k) ρ (roleAt ρ g (.log c)) w (w2.setCell ⟨b, 86 + c * 31 + 30, none⟩ (.slice (some ⟨g, 0, none⟩) (m + 1) cap)) ∧ (w.heap.size ≤ g ∨ ρ g = some (.log c)) ∧ OnlyT w (w2.setCell ⟨b, 86 + c * 31 + 30, none⟩ (.slice (some ⟨g, 0, none⟩) (m + 1) cap)) ∧ StayC w (w2.setCell ⟨b, 86 + c * 31 + 30, none⟩ (.slice (some ⟨g, 0, none⟩) (m + 1) cap)) ∧
      (∃ cs t f, (w2.setCell ⟨b, 86 + c * 31 + 30, none⟩ (.slice (some ⟨g, 0, none⟩) (m + 1) cap)).heap[g]? = some (.cells cs t f)) ∧ Front b w (w2.setCell ⟨b, 86 + c * 31 + 30, none⟩ (.slice (some ⟨g, 0, none⟩) (m + 1) cap)) := by
  have hb : b < w.heap.size := h.lt b (by rw [h.net]; simp)
  have hmb : mb < w.heap.size := h.lt mb (by rw [hrm]; simp)
  obtain ⟨gown, gt, glt⟩ := hg
  -- where the row lies
  have hgr : (ρ g = some (.log c) ∧ vl.ownBlock = some g) ∨ w.heap.size ≤ g := by
    rcases gt with ⟨hv, _⟩ | ⟨hv, _⟩
    · exact Or.inl ⟨hrow.2 g hv, hv⟩
    · right; rw [hv]; exact t1.size
  have hgb : b ≠ g := by
    rcases hgr with ⟨h1, _⟩ | h1
    · intro e1; subst e1; rw [h.net] at h1; cases h1
    · omega
  have hgm : mb ≠ g := by
    rcases hgr with ⟨h1, _⟩ | h1
    · intro e1; subst e1; rw [hrm] at h1; cases h1
    · omega
  have hbm : b ≠ mb := by intro e1; subst e1; rw [h.net] at hrm; cases hrm
  have t2 : Touch (fun i => i = g) w1 w2 := by
    rcases gt with ⟨_, t⟩ | ⟨_, t⟩
    · exact t
    · exact t.mono (fun _ _ f => f.elim)
  -- blocks that stay
  have hkeep : ∀ i, i < w.heap.size → i ≠ mb → i ≠ g → w2.heap[i]? = w.heap[i]? := fun i hi h1 h2 => (t2.block i (Nat.lt_of_lt_of_le hi t1.size) h2).trans (t1.block i hi h1)
  obtain ⟨W, hW⟩ : ∃ W, W = w2.setCell ⟨b, 86 + c * 31 + 30, none⟩ (.slice (some ⟨g, 0, none⟩) (m + 1) cap) := ⟨_, rfl⟩
  rw [← hW]
  have hWk : ∀ i, i ≠ b → W.heap[i]? = w2.heap[i]? := fun i hi => by rw [hW]; exact heap_setCell_other w2 _ hi
  have hWs : W.heap.size = w2.heap.size := by rw [hW]; simp [World.setCell]
  have hb2 : w2.heap[b]? = w.heap[b]? := hkeep b hb hbm hgb
  have hcell : ∀ o v, o ≠ 86 + c * 31 + 30 → w.cell? ⟨b, o, none⟩ = some v → W.cell? ⟨b, o, none⟩ = some v := fun o v ho hv => by
    rw [hW]; exact cell_setCell_ne w2 ho (cell_of_heap hb2 hv)
  have hfr : ∀ o, W.frozen? ⟨b, o, none⟩ = false := fun o => by
    rw [hW]; exact frozen_setCell _ _ _ _ _ ((World.frozen?_of_block (w := w) (a := ⟨b, o, none⟩) hb2).trans (h.fr o))
  have hrole : ∀ i, i < w.heap.size → roleAt ρ g (.log c) i = ρ i := fun i hi => by
    unfold roleAt; split
    · rename_i e1; subst e1
      rcases hgr with ⟨h1, _⟩ | h1
      · exact h1.symm
      · omega
    · rfl
  have hmv : Mv (tellR c k) ρ (roleAt ρ g (.log c)) w W := by
    refine ⟨⟨?_, ?_, ?_, ?_, fun i hi hs => ?_⟩, fun i hi => Or.inl (hrole i hi), fun i hi => ?_⟩
    · rw [hW]; exact t2.os.trans t1.os
    · rw [hW]; exact t2.tape.trans t1.tape
    · rw [hW]; exact t2.output.trans t1.output
    · rw [hWs]; exact Nat.le_trans t1.size t2.size
    · have h1 : i ≠ b := fun e1 => hs ⟨.net, by rw [e1]; exact h.net, Or.inl rfl⟩
      have h2 : i ≠ mb := fun e1 => hs ⟨.map c k, by rw [e1]; exact hrm, Or.inr (Or.inl rfl)⟩
      have h3 : i ≠ g := fun e1 => by
        subst e1
        rcases hgr with ⟨h3, _⟩ | h3
        · exact hs ⟨.log c, h3, Or.inr (Or.inr rfl)⟩
        · omega
      exact (hWk i h1).trans (hkeep i hi h2 h3)
    · rw [hWs]
      unfold roleAt at hi
      split at hi
      · rename_i e1; rw [e1]; exact glt
      · exact Nat.lt_of_lt_of_le (h.lt i hi) (Nat.le_trans t1.size t2.size)
  have hot : OnlyT w W := OnlyT.of_keep fun i cs t h1 h2 _ _ hi => by
    have hil := (Array.getElem?_eq_some_iff.1 hi).1
    have e1 : i ≠ b := fun e => by
      subst e
      obtain ⟨cs', e1⟩ := h.typ
      rw [e1] at hi; cases hi; exact h1 rfl
    have e2 : i ≠ mb := fun e => by
      subst e
      obtain ⟨es, cl, e1, _⟩ := hown
      rw [e1] at hi; cases hi
    have e3 : i ≠ g := fun e => by
      subst e
      rcases hgr with ⟨_, h3⟩ | h3
      · rcases hrow.1.2 with ⟨rfl, _⟩ | ⟨g', cp', cur, rfl, _, e4, _⟩
        · cases h3
        · cases h3; rw [e4] at hi; cases hi; exact h2 rfl
      · omega
    exact ((hWk i e1).trans (hkeep i hil e2 e3)).trans hi
  have hgc : ∃ cs t f, W.heap[g]? = some (.cells cs t f) := by
    rcases gown.2 with ⟨a2, _⟩ | ⟨g', cap', cur, a3, a4, a5, a6⟩
    · cases a2
    · cases a3; exact ⟨cur, 65, _, (hWk g (Ne.symm hgb)).trans a5⟩
  have hst : StayC w W := fun i hi => by
    by_cases e1 : i = b
    · subst e1
      obtain ⟨cs, e2⟩ : ∃ cs, W.heap[i]? = some (.cells cs 111) := by rw [hW]; exact typ_setCell (by rw [hb2]; exact h.typ) _ _
      exact ⟨cs, 111, _, e2⟩
    · by_cases e2 : i = g
      · rw [e2]; exact hgc
      · obtain ⟨cs, t, f, hi'⟩ := hi
        have hil := (Array.getElem?_eq_some_iff.1 hi').1
        have e3 : i ≠ mb := fun e => by
          subst e
          obtain ⟨es, cl, e1, _⟩ := hown
          rw [e1] at hi'; cases hi'
        exact ⟨cs, t, f, ((hWk i e1).trans (hkeep i hil e3 e2)).trans hi'⟩
  refine ⟨?_, hmv, hgr.elim (fun h1 => Or.inr h1.1) Or.inl, hot, hst, hgc, fun o v ho hv => hcell o v (by omega) hv⟩
  have h2c : (2 * c + k) / 2 = c := by omega
  have h2k : (2 * c + k) % 2 = k := by omega
  obtain ⟨x, hx⟩ : ∃ x, x = (σ.cl c).tell k e := ⟨_, rfl⟩
  have hσ : σ.tell (2 * c + k) e = σ.setCl c x := by simp only [Net.tell, h2c, h2k, hx]
  have hxe : x = { σ.cl c with told := put (σ.cl c).told k ((σ.cl c).told k ++ [e]), log := (σ.cl c).log ++ [entOf k e] } := by rw [hx]; simp [Cli.tell, hout, entOf]
  rw [hσ]
  refine h.step hmv (fun o => o = 86 + c * 31 + 30) (by rw [hW]; exact typ_setCell (by rw [hb2]; exact h.typ) _ _) hfr (fun o v ho => hcell o v ho) rfl rfl (by omega) (by omega) (by simp [tellR]) (by simp [tellR]) (by simp [tellR])
    (fun x y _ _ => Or.inl ⟨rfl, by omega, by simp [tellR]⟩) (fun x c k _ _ _ => Or.inl ⟨rfl, by omega, by simp [tellR], by simp [tellR]⟩) (fun d hd => ?_)
  by_cases ed : d = c
  · right
    subst ed
    simp only [Net.setCl, put_same]
    have C := h.cli d hd
    rw [hxe]
    refine ⟨hcell _ _ (by omega) C.here, hcell _ _ (by omega) C.home, hcell _ _ (by omega) C.stays, hcell _ _ (by omega) C.many, fun k' h' => hcell _ _ (by omega) (C.used k' h'), fun k' h' => hcell _ _ (by omega) (C.age k' h'), fun k' h' => (C.fl k' h').keep (fun j v hj => hcell _ _ (by omega)), fun k' h' => ?_, ?_⟩
    · obtain ⟨v, e1, e2⟩ := C.heard k' h'
      refine ⟨v, hcell _ _ (by omega) e1, ?_⟩
      by_cases ek : k' = k
      · subst ek
        rw [hm] at e1; cases e1
        simp only [put_same]
        rw [hu]
        have hownW : W.ownsMap Try.prog 176 (plainElem Try.prog 3) mb (n + 1) (D.put kl (.lit (.int .i64 e.ev.num))) := by
          obtain ⟨es, cl, f1, f2⟩ := hown1
          exact ⟨es, cl, ((hWk mb (Ne.symm hbm)).trans (t2.block mb (Nat.lt_of_lt_of_le hmb t1.size) hgm)).trans f1, f2⟩
        exact HeardAt.told ((hrole mb hmb).trans hrm) hown hownW hn hkey hD
      · simp only [put_other _ _ ek]
        refine e2.keep (fun i hi => ?_)
        have hi' := h.lt i (by rw [hi]; simp)
        have h1 : i ≠ b := fun e1 => by subst e1; rw [h.net] at hi; cases hi
        have h2 : i ≠ mb := fun e1 => by subst e1; rw [hrm] at hi; cases hi; exact ek rfl
        have h3 : i ≠ g := fun e1 => by
          subst e1
          rcases hgr with ⟨h3, _⟩ | h3
          · rw [h3] at hi; cases hi
          · omega
        exact ⟨(hWk i h1).trans (hkeep i hi' h2 h3), hrole i hi'⟩
    · refine ⟨.slice (some ⟨g, 0, none⟩) (m + 1) cap, ?_, ?_, fun g' hg' => ?_⟩
      · rw [hW]
        exact World.cell?_setCell_same w2 _ _ (cell_of_heap hb2 hl)
      · have : ((σ.cl d).log ++ [entOf k e]).length = m + 1 := by simp [hmlen]
        rw [this, List.flatMap_append]
        simp only [List.flatMap_cons, List.flatMap_nil, List.append_nil]
        obtain ⟨a1, a2⟩ := gown
        refine ⟨a1, ?_⟩
        rcases a2 with ⟨a2, _⟩ | ⟨g', cap', cur, a3, a4, a5, a6⟩
        · cases a2
        · cases a3
          exact Or.inr ⟨g, cap, cur, rfl, a4, (hWk g (Ne.symm hgb)).trans a5, a6⟩
      · cases hg'
        simp [roleAt]
  · left
    exact ⟨by simp only [Net.setCl, put_other _ _ ed], fun o _ _ => by omega, fun k' => by simp only [tellR, reduceCtorEq, Role.map.injEq, false_or, or_false, not_and]; intro h1; exact absurd h1 ed, by simp only [tellR, reduceCtorEq, Role.log.injEq, false_or]; exact ed⟩

/-- TELL. -/
theorem tellX {w : World} {b : Nat} {ρ : Nat → Option Role} {σ : Net} (h : XN w b ρ σ) {c k : Nat} (hc : c < 4) (hk : k < 2) {e : News} (he : e.ok) (hu : (σ.cl c).used k = true) (hris : Rising ((σ.cl c).told k))
    (hlen : (σ.cl c).log.length < 2199023255552) (htl : ((σ.cl c).told k).length < 2199023255552) :
    Calls Try.prog 72 #[.pointer (some ⟨b, 86 + c * 31, none⟩), .agg #[int k, int 0, int e.ev.pub, int e.ev.num, int e.ev.f0, int e.ev.f1, int e.ev.f2, int e.stay]] w fun r w' => r = .returned (.tuple #[]) ∧
      ∃ ρ', XN w' b ρ' (σ.tell (2 * c + k) e) ∧ Mv (tellR c k) ρ ρ' w w' ∧ (∀ i, w.heap.size ≤ i → ρ' i ≠ none → ∃ cs t f, w'.heap[i]? = some (.cells cs t f)) ∧ OnlyT w w' ∧ StayC w w' ∧ Front b w w' := by
  have C := h.cli c hc
  obtain ⟨v, hv1, hv2⟩ := C.heard k hk
  unfold HeardAt at hv2
  rw [hu, if_pos rfl] at hv2
  obtain ⟨mb, n, D, rfl, hrm, hown, hn, hD⟩ := hv2
  obtain ⟨vl, hl1, hl2⟩ := C.log
  obtain ⟨e1, e2, e3, e4, e5, e6⟩ := he
  obtain ⟨kl, hkl⟩ := stayKey (p := e.ev.pub) (st := e.stay) (wf_small (by omega) (by omega)) (wf_small (by omega) (by omega))
  have hat := hD _ _ _ hkl
  have hbm : b ≠ mb := by intro e1; subst e1; rw [h.net] at hrm; cases hrm
  have hused := C.used k hk
  rw [hu] at hused
  have hout := outrun_iff hris (e := e) e3
  have h2c : (2 * c + k) / 2 = c := by omega
  have h2k : (2 * c + k) % 2 = k := by omega
  refine (tell_walk b (86 + c * 31) k mb n (σ.cl c).log.length D kl e.ev.pub e.ev.num e.ev.f0 e.ev.f1 e.ev.f2 e.stay (heardOf ((σ.cl c).told k) e.ev.pub e.stay) vl _ w hk hused hv1 h.fr hown (by unfold maxLen; omega) hkl hat (wf_small (by omega) (by omega)) hl1 hl2.1 hlen hbm ?_ ?_).mono ?_
  · intro hx; have := hl2.2 b hx; rw [h.net] at this; cases this
  · intro hx; have := hl2.2 mb hx; rw [hrm] at this; cases this
  · rintro r w' ⟨rfl, hcase⟩
    refine ⟨rfl, ?_⟩
    rcases hcase with ⟨hle, hcal⟩ | ⟨hlt, w1, w2, g, cap, t1, hown1, hg, rfl⟩
    · refine ⟨ρ, ?_, h.mvCalm hcal, fun i hi hne => absurd (h.lt i hne) (by omega), OnlyT.of_calm hcal, StayC.of_calm hcal, Front.of_calm hcal⟩
      have : σ.tell (2 * c + k) e = σ := by
        simp only [Net.tell, h2c, h2k, Cli.tell, hout, decide_eq_true hle, if_true, Net.setCl]
        have : put σ.cl c (σ.cl c) = σ.cl := by funext j; simp only [put]; split <;> simp_all
        rw [this]
      rw [this]
      exact h.calm hcal
    · have hno : outrun ((σ.cl c).told k) e = false := by rw [hout]; exact decide_eq_false (by omega)
      obtain ⟨r1, r2, r3, r4, r5, r6, r7⟩ := h.told hc hk hu hno hv1 hrm hown hn hD hkl hl1 hl2 rfl t1 hown1 hg
      refine ⟨_, r1, r2, fun i hi hne => ?_, r4, r5, r7⟩
      unfold roleAt at hne
      split at hne
      · rename_i hig; rw [hig]; exact r6
      · exact absurd (h.lt i hne) (by omega)

end Go.Proofs.Ytodfcpblcpogiaa

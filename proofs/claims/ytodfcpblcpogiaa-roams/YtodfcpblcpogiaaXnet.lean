/-
  The program's net in memory.
-/
import Derived.Test.YtodfcpblcpogiaaChan
namespace Go.Proofs.Ytodfcpblcpogiaa
open Go.RowKit

/-- A block that stays, stays as whatever it is. -/
theorem cell_of_heap {w w' : World} {k o : Nat} {v : Value} (h : w'.heap[k]? = w.heap[k]?) (hc : w.cell? ⟨k, o, none⟩ = some v) : w'.cell? ⟨k, o, none⟩ = some v :=
  (World.cell?_of_block (w := w) h).trans hc

/-- What was heard of stays. -/
def HeardAt (w : World) (ρ : Nat → Option Role) (c k : Nat) (used : Bool) (told : List News) (v : Value) : Prop :=
  if used then ∃ mb n, ∃ D : DataW Nat, v = .map (some mb) ∧ ρ mb = some (.map c k) ∧ w.ownsMap Try.prog 176 (plainElem Try.prog 3) mb n D ∧ n ≤ told.length ∧
    (∀ p st kl, keyOf Try.prog 176 (.agg #[int p, int st]) = some kl → D.atKey kl (.lit (.int .i64 0)) = .lit (.int .i64 (heardOf told p st)))
  else v = .map none

/-- A slot's filter. -/
def FilAt (w : World) (b o : Nat) (used : Bool) (l : List Tst) : Prop := ∃ us : List Value, us.length = 10 ∧ w.rangeAt b o us ∧ (∀ v, v ∈ us → ∃ z, v = int z) ∧ (used = true → us = encFil l)
theorem FilAt.keep {w w' : World} {b o : Nat} {used : Bool} {l : List Tst} (h : FilAt w b o used l) (hc : ∀ j v, j < 10 → w.cell? ⟨b, o + j, none⟩ = some v → w'.cell? ⟨b, o + j, none⟩ = some v) : FilAt w' b o used l := by
  obtain ⟨us, g1, g2, g3⟩ := h
  exact ⟨us, g1, fun j u hj => hc j u (by rw [← g1]; exact (List.getElem?_eq_some_iff.1 hj).1) (g2 j u hj), g3⟩

structure CliX (w : World) (b : Nat) (ρ : Nat → Option Role) (c : Nat) (x : Cli) : Prop where
  here : w.cell? ⟨b, 86 + c * 31, none⟩ = some (int (whr x.here))
  home : w.cell? ⟨b, 86 + c * 31 + 1, none⟩ = some (int (whr x.home))
  stays : w.cell? ⟨b, 86 + c * 31 + 2, none⟩ = some (int x.stays)
  many : w.cell? ⟨b, 86 + c * 31 + 3, none⟩ = some (int x.many)
  used : ∀ k, k < 2 → w.cell? ⟨b, 86 + c * 31 + 4 + k * 13, none⟩ = some (.bool (x.used k))
  age : ∀ k, k < 2 → w.cell? ⟨b, 86 + c * 31 + 4 + k * 13 + 1, none⟩ = some (int (x.age k))
  fl : ∀ k, k < 2 → FilAt w b (86 + c * 31 + 4 + k * 13 + 2) (x.used k) (x.fl k)
  heard : ∀ k, k < 2 → ∃ v, w.cell? ⟨b, 86 + c * 31 + 4 + k * 13 + 12, none⟩ = some v ∧ HeardAt w ρ c k (x.used k) (x.told k) v
  log : ∃ v, w.cell? ⟨b, 86 + c * 31 + 30, none⟩ = some v ∧ RowAt w ρ (.log c) 65 7 x.log.length (x.log.flatMap Ent.enc) v

structure XN (w : World) (b : Nat) (ρ : Nat → Option Role) (σ : Net) : Prop where
  net : ρ b = some .net
  typ : ∃ cs, w.heap[b]? = some (.cells cs 111)
  fr : ∀ o, w.frozen? ⟨b, o, none⟩ = false
  closed : w.cell? ⟨b, 0, none⟩ = some (.bool false)
  tree : ∃ a cap, w.cell? ⟨b, 1, none⟩ = some (.slice a σ.par.length cap) ∧ (σ.par = [] ∨ ∃ tb o, a = some ⟨tb, o, none⟩ ∧ ρ tb = some .tree ∧ ∀ j, j < σ.par.length → w.cell? ⟨tb, o + j, none⟩ = some (int (σ.par.getD j 0 : Nat)))
  link : ∀ x y, x < 6 → y < 6 → ∃ v, w.cell? ⟨b, 2 + x * 6 + y, none⟩ = some v ∧ LinkAt w ρ x y (near σ.par x y) (σ.q x y) v
  known : ∀ x c k, x < 6 → c < 4 → k < 2 → ∃ v, w.cell? ⟨b, 38 + x * 8 + c * 2 + k, none⟩ = some v ∧ KnownAt w ρ x (2 * c + k) (σ.kn x (2 * c + k)) v
  cli : ∀ c, c < 4 → CliX w b ρ c (σ.cl c)
  lt : ∀ k, ρ k ≠ none → k < w.heap.size
  open_ : σ.closed = false

/-! ### what stays -/
theorem RowAt.keep {w w' : World} {ρ ρ' : Nat → Option Role} {r : Role} {e : TypeId} {size n : Nat} {cells : List Value} {v : Value} (h : RowAt w ρ r e size n cells v)
    (hk : ∀ k, ρ k = some r → w'.heap[k]? = w.heap[k]? ∧ ρ' k = ρ k) : RowAt w' ρ' r e size n cells v := by
  obtain ⟨⟨h1, h2⟩, h3⟩ := h
  refine ⟨⟨h1, ?_⟩, fun g hg => (hk g (h3 g hg)).2.trans (h3 g hg)⟩
  rcases h2 with h2 | ⟨g, cap, cur, rfl, a1, a2, a3, a4, a5, a6⟩
  · exact Or.inl h2
  · exact Or.inr ⟨g, cap, cur, rfl, a1, (hk g (h3 g rfl)).1.trans a2, a3, a4, a5, a6⟩

theorem FrAt.keep {w w' : World} {ρ ρ' : Nat → Option Role} {f : Fr} {fb : Nat} (h : FrAt w ρ f fb)
    (hk : ∀ k, ρ k = some .frame ∨ ρ k = some .rest → w'.heap[k]? = w.heap[k]? ∧ ρ' k = ρ k) : FrAt w' ρ' f fb := by
  obtain ⟨h1, a, u, kv, h2, h3, h4, h5⟩ := h
  exact ⟨(hk fb (Or.inl h1)).2.trans h1, a, u, kv, (hk fb (Or.inl h1)).1.trans h2, h3, h4, h5.keep (fun k e => hk k (Or.inr e))⟩
theorem FrAt.calm {w w' : World} {ρ : Nat → Option Role} {f : Fr} {fb : Nat} (h : FrAt w ρ f fb) (hl : ∀ k, ρ k ≠ none → k < w.heap.size) (t : Calm w w') : FrAt w' ρ f fb :=
  h.keep (fun k hk => ⟨t.block k (hl k (by rcases hk with hk | hk <;> (rw [hk]; simp))) (fun f => f), rfl⟩)
theorem FramesAt.keep {w w' : World} {ρ ρ' : Nat → Option Role} {vs : List Value} {l : List Fr} (h : FramesAt w ρ vs l)
    (hk : ∀ k, ρ k = some .frame ∨ ρ k = some .rest → w'.heap[k]? = w.heap[k]? ∧ ρ' k = ρ k) : FramesAt w' ρ' vs l := by
  refine ⟨h.1, fun i f hf => ?_⟩
  obtain ⟨fb, h1, h2⟩ := h.2 i f hf
  exact ⟨fb, h1, h2.keep hk⟩

theorem LinkAt.keep {w w' : World} {ρ ρ' : Nat → Option Role} {x y : Nat} {nb : Bool} {l : List Fr} {v : Value} (h : LinkAt w ρ x y nb l v)
    (hk : ∀ k, ρ k = some (.chan x y) ∨ (ρ k = some .frame ∨ ρ k = some .rest) → w'.heap[k]? = w.heap[k]? ∧ ρ' k = ρ k) : LinkAt w' ρ' x y nb l v := by
  unfold LinkAt at h ⊢
  split
  · rename_i hn
    rw [if_pos hn] at h
    obtain ⟨r, buf, s, t, h1, h2, h3, h4⟩ := h
    exact ⟨r, buf, s, t, h1, (hk r (Or.inl h2)).2.trans h2, (hk r (Or.inl h2)).1.trans h3, h4.keep (fun k e => hk k (Or.inr e))⟩
  · rename_i hn
    rw [if_neg hn] at h; exact h

theorem KnownAt.keep {w w' : World} {ρ ρ' : Nat → Option Role} {x s : Nat} {o : Option Fact} {v : Value} (h : KnownAt w ρ x s o v)
    (hk : ∀ k, ρ k = some (.known x s) ∨ ρ k = some (.kept x s) → w'.heap[k]? = w.heap[k]? ∧ ρ' k = ρ k) : KnownAt w' ρ' x s o v := by
  unfold KnownAt at h ⊢
  split
  · exact h
  · obtain ⟨kb, kv, h1, h2, h3, h4⟩ := h
    exact ⟨kb, kv, h1, (hk kb (Or.inl h2)).2.trans h2, (hk kb (Or.inl h2)).1.trans h3, h4.keep (fun k e => hk k (Or.inr e))⟩

theorem HeardAt.keep {w w' : World} {ρ ρ' : Nat → Option Role} {c k : Nat} {used : Bool} {told : List News} {v : Value} (h : HeardAt w ρ c k used told v)
    (hk : ∀ i, ρ i = some (.map c k) → w'.heap[i]? = w.heap[i]? ∧ ρ' i = ρ i) : HeardAt w' ρ' c k used told v := by
  unfold HeardAt at h ⊢
  split
  · rename_i hu
    rw [if_pos hu] at h
    obtain ⟨mb, n, D, h1, h2, ⟨es, clock, h3, h4, h5, h6⟩, h7, h8⟩ := h
    exact ⟨mb, n, D, h1, (hk mb h2).2.trans h2, ⟨es, clock, (hk mb h2).1.trans h3, h4, h5, h6⟩, h7, h8⟩
  · rename_i hu
    rw [if_neg hu] at h; exact h

/-- Of a client: its numbers in the net's block stay; its maps, its log. -/
theorem CliX.keep {w w' : World} {b : Nat} {ρ ρ' : Nat → Option Role} {c : Nat} {x : Cli} (h : CliX w b ρ c x)
    (hcell : ∀ o v, 86 + c * 31 ≤ o → o < 86 + c * 31 + 31 → w.cell? ⟨b, o, none⟩ = some v → w'.cell? ⟨b, o, none⟩ = some v)
    (hk : ∀ i, (∃ k, ρ i = some (.map c k)) ∨ ρ i = some (.log c) → w'.heap[i]? = w.heap[i]? ∧ ρ' i = ρ i) : CliX w' b ρ' c x := by
  obtain ⟨v, h1, h2⟩ := h.log
  refine ⟨hcell _ _ (by omega) (by omega) h.here, hcell _ _ (by omega) (by omega) h.home, hcell _ _ (by omega) (by omega) h.stays, hcell _ _ (by omega) (by omega) h.many,
    fun k hk2 => hcell _ _ (by omega) (by omega) (h.used k hk2), fun k hk2 => hcell _ _ (by omega) (by omega) (h.age k hk2), fun k hk2 => ?_, fun k hk2 => ?_, v, hcell _ _ (by omega) (by omega) h1, h2.keep (fun i e => hk i (Or.inr e))⟩
  · exact (h.fl k hk2).keep (fun j v hj => hcell _ _ (by omega) (by omega))
  obtain ⟨u, h3, h4⟩ := h.heard k hk2
  exact ⟨u, hcell _ _ (by omega) (by omega) h3, h4.keep (fun i e => hk i (Or.inl ⟨k, e⟩))⟩

/-- How a step may turn a net's memory: blocks of the roles of S alone, and new ones. -/
structure Mv (S : Role → Prop) (ρ ρ' : Nat → Option Role) (w w' : World) : Prop where
  touch : Touch (fun k => ∃ r, ρ k = some r ∧ S r) w w'
  role : ∀ k, k < w.heap.size → ρ' k = ρ k ∨ (∃ x s, ρ k = some (.kept x s) ∧ S (.kept x s) ∧ ρ' k = some .rest)
  lt : ∀ k, ρ' k ≠ none → k < w'.heap.size

theorem Mv.refl {S : Role → Prop} {ρ : Nat → Option Role} {w : World} (h : ∀ k, ρ k ≠ none → k < w.heap.size) : Mv S ρ ρ w w := ⟨Touch.refl _ _, fun _ _ => Or.inl rfl, h⟩
/-- The role of a block that is not kept stays. -/
theorem Mv.roleN {S : Role → Prop} {ρ ρ' : Nat → Option Role} {w w' : World} (h : Mv S ρ ρ' w w') {k : Nat} (hk : k < w.heap.size) (hn : ∀ x s, ρ k ≠ some (.kept x s)) : ρ' k = ρ k :=
  (h.role k hk).elim id (fun ⟨x, s, e, _⟩ => absurd e (hn x s))
theorem Mv.noRole {S : Role → Prop} {ρ ρ' : Nat → Option Role} {w w' : World} (h : Mv S ρ ρ' w w') {k : Nat} (hk : k < w.heap.size) (hn : ρ k = none) : ρ' k = none :=
  (h.roleN hk (fun x s => by rw [hn]; simp)).trans hn
theorem Mv.trans {S : Role → Prop} {ρ ρ' ρ'' : Nat → Option Role} {w w' w'' : World} (h : Mv S ρ ρ' w w') (k : Mv S ρ' ρ'' w' w'') : Mv S ρ ρ'' w w'' := by
  refine ⟨⟨k.touch.os.trans h.touch.os, k.touch.tape.trans h.touch.tape, k.touch.output.trans h.touch.output, Nat.le_trans h.touch.size k.touch.size, fun i hi hs => ?_⟩, fun i hi => ?_, k.lt⟩
  · refine (k.touch.block i (Nat.lt_of_lt_of_le hi h.touch.size) (fun ⟨r, h1, h2⟩ => ?_)).trans (h.touch.block i hi hs)
    rcases h.role i hi with e | ⟨x, s, e1, e2, _⟩
    · exact hs ⟨r, e.symm.trans h1, h2⟩
    · exact hs ⟨_, e1, e2⟩
  · rcases h.role i hi with e | ⟨x, s, e1, e2, e3⟩
    · rcases k.role i (Nat.lt_of_lt_of_le hi h.touch.size) with f | ⟨x, s, f1, f2, f3⟩
      · exact Or.inl (f.trans e)
      · exact Or.inr ⟨x, s, e.symm.trans f1, f2, f3⟩
    · exact Or.inr ⟨x, s, e1, e2, (k.roleN (Nat.lt_of_lt_of_le hi h.touch.size) (fun x s => by rw [e3]; simp)).trans e3⟩
theorem Mv.mono {S S' : Role → Prop} {ρ ρ' : Nat → Option Role} {w w' : World} (h : Mv S ρ ρ' w w') (hs : ∀ r, S r → S' r) : Mv S' ρ ρ' w w' :=
  ⟨h.touch.mono (fun _ _ ⟨r, h1, h2⟩ => ⟨r, h1, hs r h2⟩), fun k hk => (h.role k hk).imp id (fun ⟨x, s, e1, e2, e3⟩ => ⟨x, s, e1, hs _ e2, e3⟩), h.lt⟩
/-- Nothing of the net is touched. -/
theorem Mv.calm {S : Role → Prop} {ρ : Nat → Option Role} {w w' : World} (hl : ∀ k, ρ k ≠ none → k < w.heap.size) (h : Calm w w') : Mv S ρ ρ w w' :=
  ⟨h.mono (fun _ _ f => f.elim), fun _ _ => Or.inl rfl, fun k hk => Nat.lt_of_lt_of_le (hl k hk) h.size⟩
theorem Mv.keeps {S : Role → Prop} {ρ ρ' : Nat → Option Role} {w w' : World} (hl : ∀ k, ρ k ≠ none → k < w.heap.size) (h : Mv S ρ ρ' w w') {k : Nat} {r : Role} (hr : ρ k = some r) (hs : ¬ S r) : w'.heap[k]? = w.heap[k]? ∧ ρ' k = ρ k := by
  have hk := hl k (by rw [hr]; simp)
  refine ⟨h.touch.block k hk (fun ⟨r', h1, h2⟩ => by rw [hr] at h1; cases h1; exact hs h2), ?_⟩
  rcases h.role k hk with e | ⟨x, s, e1, e2, _⟩
  · exact e
  · rw [hr] at e1; cases e1; exact absurd e2 hs
theorem Mv.keeps' {S : Role → Prop} {ρ ρ' : Nat → Option Role} {w w' : World} (hl : ∀ k, ρ k ≠ none → k < w.heap.size) (h : Mv S ρ ρ' w w') {k : Nat} {x s : Nat} (hr : ρ k = some (.known x s)) : ρ' k = ρ k :=
  h.roleN (hl k (by rw [hr]; simp)) (fun _ _ => by rw [hr]; simp)
theorem Mv.blocks {S : Role → Prop} {ρ ρ' : Nat → Option Role} {w w' : World} (h : Mv S ρ ρ' w w') : Touch (fun k => ρ k ≠ none) w w' :=
  h.touch.mono (fun _ _ ⟨r, h1, _⟩ => by rw [h1]; simp)

/-- A net after a step: each part stays as it was, or is given anew. -/
theorem XN.step' {w w' : World} {b : Nat} {ρ ρ' : Nat → Option Role} {σ σ' : Net} {S : Role → Prop} (h : XN w b ρ σ) (K : ∀ {k : Nat} {r : Role}, ρ k = some r → ¬ S r → w'.heap[k]? = w.heap[k]? ∧ ρ' k = ρ k) (hnet : ρ' b = ρ b) (hlt' : ∀ k, ρ' k ≠ none → k < w'.heap.size) (ch : Nat → Prop) (htyp : ∃ cs, w'.heap[b]? = some (.cells cs 111))
    (hfr : ∀ o, w'.frozen? ⟨b, o, none⟩ = false)
    (hcell : ∀ o v, ¬ ch o → w.cell? ⟨b, o, none⟩ = some v → w'.cell? ⟨b, o, none⟩ = some v)
    (hpar : σ'.par = σ.par) (hopen : σ'.closed = σ.closed) (h0 : ¬ ch 0) (h1 : ¬ ch 1) (htree : ¬ S .tree) (hframe : ¬ S .frame) (hrest : ¬ S .rest)
    (hl : ∀ x y, x < 6 → y < 6 → (σ'.q x y = σ.q x y ∧ ¬ ch (2 + x * 6 + y) ∧ ¬ S (.chan x y)) ∨ (∃ v, w'.cell? ⟨b, 2 + x * 6 + y, none⟩ = some v ∧ LinkAt w' ρ' x y (near σ.par x y) (σ'.q x y) v))
    (hk : ∀ x c k, x < 6 → c < 4 → k < 2 → (σ'.kn x (2 * c + k) = σ.kn x (2 * c + k) ∧ ¬ ch (38 + x * 8 + c * 2 + k) ∧ ¬ S (.known x (2 * c + k)) ∧ ¬ S (.kept x (2 * c + k))) ∨
      (∃ v, w'.cell? ⟨b, 38 + x * 8 + c * 2 + k, none⟩ = some v ∧ KnownAt w' ρ' x (2 * c + k) (σ'.kn x (2 * c + k)) v))
    (hc : ∀ c, c < 4 → (σ'.cl c = σ.cl c ∧ (∀ o, 86 + c * 31 ≤ o → o < 86 + c * 31 + 31 → ¬ ch o) ∧ (∀ k, ¬ S (.map c k)) ∧ ¬ S (.log c)) ∨ CliX w' b ρ' c (σ'.cl c)) : XN w' b ρ' σ' := by
  refine ⟨hnet.trans h.net, htyp, hfr, hcell _ _ h0 h.closed, ?_, fun x y hx hy => ?_, fun x c k hx hc' hk' => ?_, fun c hc' => ?_, hlt', hopen.trans h.open_⟩
  · obtain ⟨a, cap, e1, e2⟩ := h.tree
    rw [hpar]
    refine ⟨a, cap, hcell _ _ h1 e1, e2.imp id ?_⟩
    rintro ⟨tb, o, rfl, e3, e4⟩
    exact ⟨tb, o, rfl, (K e3 htree).2.trans e3, fun j hj => cell_of_heap (K e3 htree).1 (e4 j hj)⟩
  · rw [hpar]
    rcases hl x y hx hy with ⟨e1, e2, e3⟩ | e
    · obtain ⟨v, e4, e5⟩ := h.link x y hx hy
      rw [e1]
      exact ⟨v, hcell _ _ e2 e4, e5.keep (fun k hk => hk.elim (fun e => K e e3) (fun e => e.elim (fun e => K e hframe) (fun e => K e hrest)))⟩
    · exact e
  · rcases hk x c k hx hc' hk' with ⟨e1, e2, e3, e4⟩ | e
    · obtain ⟨v, e5, e6⟩ := h.known x c k hx hc' hk'
      rw [e1]
      exact ⟨v, hcell _ _ e2 e5, e6.keep (fun k hk => hk.elim (fun e => K e e3) (fun e => K e e4))⟩
    · exact e
  · rcases hc c hc' with ⟨e1, e2, e3, e4⟩ | e
    · rw [e1]
      exact (h.cli c hc').keep (fun o v ho1 ho2 => hcell o v (e2 o ho1 ho2)) (fun i hi => hi.elim (fun ⟨k, e⟩ => K e (e3 k)) (fun e => K e e4))
    · exact e

theorem XN.step {w w' : World} {b : Nat} {ρ ρ' : Nat → Option Role} {σ σ' : Net} {S : Role → Prop} (h : XN w b ρ σ) (m : Mv S ρ ρ' w w') (ch : Nat → Prop) (htyp : ∃ cs, w'.heap[b]? = some (.cells cs 111))
    (hfr : ∀ o, w'.frozen? ⟨b, o, none⟩ = false)
    (hcell : ∀ o v, ¬ ch o → w.cell? ⟨b, o, none⟩ = some v → w'.cell? ⟨b, o, none⟩ = some v)
    (hpar : σ'.par = σ.par) (hopen : σ'.closed = σ.closed) (h0 : ¬ ch 0) (h1 : ¬ ch 1) (htree : ¬ S .tree) (hframe : ¬ S .frame) (hrest : ¬ S .rest)
    (hl : ∀ x y, x < 6 → y < 6 → (σ'.q x y = σ.q x y ∧ ¬ ch (2 + x * 6 + y) ∧ ¬ S (.chan x y)) ∨ (∃ v, w'.cell? ⟨b, 2 + x * 6 + y, none⟩ = some v ∧ LinkAt w' ρ' x y (near σ.par x y) (σ'.q x y) v))
    (hk : ∀ x c k, x < 6 → c < 4 → k < 2 → (σ'.kn x (2 * c + k) = σ.kn x (2 * c + k) ∧ ¬ ch (38 + x * 8 + c * 2 + k) ∧ ¬ S (.known x (2 * c + k)) ∧ ¬ S (.kept x (2 * c + k))) ∨
      (∃ v, w'.cell? ⟨b, 38 + x * 8 + c * 2 + k, none⟩ = some v ∧ KnownAt w' ρ' x (2 * c + k) (σ'.kn x (2 * c + k)) v))
    (hc : ∀ c, c < 4 → (σ'.cl c = σ.cl c ∧ (∀ o, 86 + c * 31 ≤ o → o < 86 + c * 31 + 31 → ¬ ch o) ∧ (∀ k, ¬ S (.map c k)) ∧ ¬ S (.log c)) ∨ CliX w' b ρ' c (σ'.cl c)) : XN w' b ρ' σ'  :=
  h.step' (fun hr hs => m.keeps h.lt hr hs) (m.roleN (h.lt b (by rw [h.net]; simp)) (by rw [h.net]; simp)) m.lt ch htyp hfr hcell hpar hopen h0 h1 htree hframe hrest hl hk hc

/-- Nothing of the net is touched. -/
theorem XN.keep {w w' : World} {b : Nat} {ρ : Nat → Option Role} {σ : Net} (h : XN w b ρ σ) {T : Nat → Prop} (t : Touch T w w') (hT : ∀ k, ρ k ≠ none → ¬ T k) : XN w' b ρ σ := by
  have hk : ∀ k, ρ k ≠ none → w'.heap[k]? = w.heap[k]? := fun k hk => t.block k (h.lt k hk) (hT k hk)
  have hb := hk b (by rw [h.net]; simp)
  refine h.step' (S := fun _ => False) (fun {k r} hr _ => ⟨hk k (by rw [hr]; simp), rfl⟩) rfl (fun k hk => Nat.lt_of_lt_of_le (h.lt k hk) t.size) (fun _ => False) (by rw [hb]; exact h.typ) (fun o => (World.frozen?_of_block (w := w) (a := ⟨b, o, none⟩) hb).trans (h.fr o)) (fun o v _ hc => cell_of_heap hb hc) rfl rfl id id id id id
    (fun x y _ _ => Or.inl ⟨rfl, id, id⟩) (fun x c k _ _ _ => Or.inl ⟨rfl, id, id, id⟩) (fun c _ => Or.inl ⟨rfl, fun _ _ _ => id, fun _ => id, id⟩)
theorem XN.calm {w w' : World} {b : Nat} {ρ : Nat → Option Role} {σ : Net} (h : XN w b ρ σ) (t : Calm w w') : XN w' b ρ σ := h.keep t (fun _ _ f => f)
theorem XN.mvCalm {S : Role → Prop} {w w' : World} {b : Nat} {ρ : Nat → Option Role} {σ : Net} (h : XN w b ρ σ) (t : Calm w w') : Mv S ρ ρ w w' := Mv.calm h.lt t

/-! ### single steps -/
theorem heap_setCell_other (w : World) {b k o : Nat} (v : Value) (h : k ≠ b) : (w.setCell ⟨b, o, none⟩ v).heap[k]? = w.heap[k]? := Below.heap_setCell _ _ _ _ (fun e => h e)

theorem typ_setCell {w : World} {b t : Nat} (h : ∃ cs, w.heap[b]? = some (.cells cs t)) (o : Nat) (v : Value) : ∃ cs, (w.setCell ⟨b, o, none⟩ v).heap[b]? = some (.cells cs t) := by
  obtain ⟨cs, h⟩ := h
  exact ⟨_, heap_setCell_same _ _ _ _ _ _ h⟩

theorem Mv.setCell {S : Role → Prop} {ρ : Nat → Option Role} {w : World} (hl : ∀ k, ρ k ≠ none → k < w.heap.size) {b : Nat} {r : Role} (hr : ρ b = some r) (hS : S r) (o : Nat) (v : Value) : Mv S ρ ρ w (w.setCell ⟨b, o, none⟩ v) :=
  ⟨(Touch.refl _ w).setCell (p := ⟨b, o, none⟩) (fun _ => ⟨r, hr, hS⟩) v, fun _ _ => Or.inl rfl, fun k hk => by simpa [World.setCell] using hl k hk⟩

/-- A store into the net's own block, of what concerns a client. -/
theorem XN.storeCli {w : World} {b : Nat} {ρ : Nat → Option Role} {σ : Net} (h : XN w b ρ σ) {c : Nat} (hc : c < 4) {x : Cli} (o : Nat) (v : Value) (ho1 : 86 + c * 31 ≤ o) (ho2 : o < 86 + c * 31 + 31)
    (hx : CliX (w.setCell ⟨b, o, none⟩ v) b ρ c x) : XN (w.setCell ⟨b, o, none⟩ v) b ρ (σ.setCl c x) := by
  refine h.step (Mv.setCell (S := fun r => r = .net) h.lt h.net rfl o v) (fun o' => o' = o) (typ_setCell h.typ o v) (fun o' => by rw [World.frozen?_setCell]; exact h.fr o') (fun o' u hne hu => (World.cell?_setCell_other w _ _ _ (by intro e; cases e; exact hne rfl)).trans hu) rfl rfl (by omega) (by omega) (by simp) (by simp) (by simp)
    (fun x y _ _ => Or.inl ⟨rfl, by omega, by simp⟩) (fun x c k _ _ _ => Or.inl ⟨rfl, by omega, by simp, by simp⟩) (fun d hd => ?_)
  by_cases e : d = c
  · subst e; right; simp only [Net.setCl, put_same]; exact hx
  · left; exact ⟨by simp only [Net.setCl, put_other _ _ e], fun o' _ _ => by omega, fun _ => by simp, by simp⟩

end Go.Proofs.Ytodfcpblcpogiaa

/-
  The statement's own world: its lists and nets, which block is whose, and what a step leaves alone.
-/
import Derived.Test.YtodfcpblcpogiaaGreatNewR
namespace Go.Proofs.YtodfcpblcpogiaaGreat
open Go.RowKit

/-- Two nets side by side: the program's block, the document's, and what both hold. -/
structure Tw where
  bx : Nat
  br : Nat
  n : Nat
  A : Nat → Int
  H : Nat → Int
  M : Nat → Int

/-- Which block is whose: (0, 0): nobody's. 1: the world's own; 2, 3, 4, 5: the rows of all, ints, links, lm; 6, 7: the nets, by their place; 8: lists that came out; 9: lists that were handed in. -/
abbrev Role : Type := Nat → Nat × Nat

/-- A step that may touch blocks of R alone. -/
structure Fr (R : Nat × Nat) (role role' : Role) (w w' : World) : Prop where
  keep : ∀ k, role k ≠ (0, 0) → role k ≠ R → role' k = role k ∧ w'.heap[k]? = w.heap[k]?
  chan : ∀ (k cap : Nat), w.heap[k]? = some (Obj.chan cap #[] false 0 0 false) → w'.heap[k]? = w.heap[k]?

theorem XN.same {w w' : World} {b n : Nat} {A H M : Nat → Int} (h : XN w b n A H M) (hb : w'.heap[b]? = w.heap[b]?) (hs : ∀ (k cap : Nat), w.heap[k]? = some (Obj.chan cap #[] false 0 0 false) → w'.heap[k]? = w.heap[k]?) : XN w' b n A H M := by
  have hc : ∀ o v, w.cell? ⟨b, o, none⟩ = some v → w'.cell? ⟨b, o, none⟩ = some v := fun o v hv => (World.cell?_of_block (w := w) (a := ⟨b, o, none⟩) hb).trans hv
  obtain ⟨a, cap, ht⟩ := h.tree
  obtain ⟨qs, h1, h2, h3⟩ := h.links
  refine ⟨hc _ _ h.closed, ⟨a, cap, hc _ _ ht⟩, ⟨qs, fun j v hj => hc _ _ (h1 j v hj), h2, fun v hv => ?_⟩, fun j hj => hc _ _ (h.know j hj), fun c k => hc _ _ (h.here c k), fun c k => hc _ _ (h.home c k), fun c k => ⟨_, hc _ _ (h.stay c k).choose_spec⟩, fun c k => hc _ _ (h.pub c k),
    fun c k h4 h5 => hc _ _ (h.free c k h4 h5), h.sane, fun o => (World.frozen?_of_block (w := w) (a := ⟨b, o, none⟩) hb).trans (h.fr o)⟩
  rcases h3 v hv with h | ⟨r, cap, h, hr⟩
  · exact Or.inl h
  · exact Or.inr ⟨r, cap, h, (hs r cap hr).trans hr⟩

theorem RN.same {w w' : World} {b n : Nat} {A H M : Nat → Int} (h : RN w b n A H M) (hb : w'.heap[b]? = w.heap[b]?) : RN w' b n A H M := by
  have hc : ∀ o v, w.cell? ⟨b, o, none⟩ = some v → w'.cell? ⟨b, o, none⟩ = some v := fun o v hv => (World.cell?_of_block (w := w) (a := ⟨b, o, none⟩) hb).trans hv
  obtain ⟨a, cap, ht⟩ := h.par
  refine ⟨⟨a, cap, hc _ _ ht⟩, hc _ _ h.frames, hc _ _ h.facts, fun c k => ?_, hc _ _ h.closed, fun o => (World.frozen?_of_block (w := w) (a := ⟨b, o, none⟩) hb).trans (h.fr o)⟩
  obtain ⟨s, hs⟩ := h.cl c k
  exact ⟨s, fun j v hj => hc _ _ (hs j v hj)⟩

/-- The world's own eight cells. -/
structure B8 (role : Role) (w : World) (bw : Nat) (vA : Value) (N : Int) (vI vL vM : Value) : Prop where
  own : role bw = (1, 0)
  all : w.cell? ⟨bw, 0, none⟩ = some vA
  num : w.cell? ⟨bw, 1, none⟩ = some (.int .i64 N)
  ints : w.cell? ⟨bw, 2, none⟩ = some vI
  tests : w.cell? ⟨bw, 3, none⟩ = some (.slice none 0 0)
  links : w.cell? ⟨bw, 4, none⟩ = some vL
  lm : w.cell? ⟨bw, 5, none⟩ = some vM
  logs : w.cell? ⟨bw, 6, none⟩ = some (.slice none 0 0)
  em : w.cell? ⟨bw, 7, none⟩ = some (.slice none 0 0)
  fr : ∀ o, w.frozen? ⟨bw, o, none⟩ = false

theorem B8.keep {role role' : Role} {w w' : World} {bw : Nat} {vA : Value} {N : Int} {vI vL vM : Value} (h : B8 role w bw vA N vI vL vM) {R : Nat × Nat} (t : Fr R role role' w w') (hR : R ≠ (1, 0)) : B8 role' w' bw vA N vI vL vM := by
  obtain ⟨hr, hb⟩ := t.keep bw (by rw [h.own]; decide) (by rw [h.own]; exact hR.symm)
  have hc : ∀ o v, w.cell? ⟨bw, o, none⟩ = some v → w'.cell? ⟨bw, o, none⟩ = some v := fun o v hv => (World.cell?_of_block (w := w) (a := ⟨bw, o, none⟩) hb).trans hv
  exact ⟨hr.trans h.own, hc _ _ h.all, hc _ _ h.num, hc _ _ h.ints, hc _ _ h.tests, hc _ _ h.links, hc _ _ h.lm, hc _ _ h.logs, hc _ _ h.em, fun o => (World.frozen?_of_block (w := w) (a := ⟨bw, o, none⟩) hb).trans (h.fr o)⟩

/-- A row that a slice of the world's own leads to. -/
structure Row (B : Nat) (role : Role) (w : World) (r : Nat) (e size : Nat) (v : Value) (n : Nat) (xs : List Value) : Prop where
  own : w.ownsRow B e size v n xs
  mine : ∀ g, v.ownBlock = some g → role g = (r, 0)

theorem Row.keep {B : Nat} {role role' : Role} {w w' : World} {r e size : Nat} {v : Value} {n : Nat} {xs : List Value} (h : Row B role w r e size v n xs) {R : Nat × Nat} (t : Fr R role role' w w') (hR : R ≠ (r, 0)) (hr : r ≠ 0) : Row B role' w' r e size v n xs := by
  have hk : ∀ g, v.ownBlock = some g → role' g = role g ∧ w'.heap[g]? = w.heap[g]? := fun g hg => t.keep g (by rw [h.mine g hg]; intro x; exact hr (congrArg Prod.fst x)) (by rw [h.mine g hg]; exact hR.symm)
  refine ⟨⟨h.own.1, ?_⟩, fun g hg => (hk g hg).1.trans (h.mine g hg)⟩
  rcases h.own.2 with hn | ⟨g, cap, cur, rfl, hb, hg, rest⟩
  · exact Or.inl hn
  · exact Or.inr ⟨g, cap, cur, rfl, hb, (hk g rfl).2.trans hg, rest⟩

/-- The i-th pair of nets. -/
structure NetOK (role : Role) (w : World) (i : Nat) (t : Tw) : Prop where
  five : t.n ≤ 5
  sane : Sane t.A
  x : XN w t.bx t.n t.A t.H t.M
  r : RN w t.br t.n t.A t.H t.M
  rx : role t.bx = (6, i)
  rr : role t.br = (7, i)

theorem NetOK.keep {role role' : Role} {w w' : World} {i : Nat} {t : Tw} (h : NetOK role w i t) {R : Nat × Nat} (f : Fr R role role' w w') (h6 : R ≠ (6, i)) (h7 : R ≠ (7, i)) : NetOK role' w' i t := by
  have kx := f.keep t.bx (by rw [h.rx]; intro x; cases congrArg Prod.fst x) (by rw [h.rx]; exact h6.symm)
  have kr := f.keep t.br (by rw [h.rr]; intro x; cases congrArg Prod.fst x) (by rw [h.rr]; exact h7.symm)
  exact ⟨h.five, h.sane, h.x.same kx.2 f.chan, h.r.same kr.2, kx.1.trans h.rx, kr.1.trans h.rr⟩

def NetsOK (role : Role) (w : World) (nets : List Tw) : Prop := ∀ i t, nets[i]? = some t → NetOK role w i t

theorem NetsOK.keep {role role' : Role} {w w' : World} {nets : List Tw} (h : NetsOK role w nets) {R : Nat × Nat} (f : Fr R role role' w w') (h6 : R.1 ≠ 6) (h7 : R.1 ≠ 7) : NetsOK role' w' nets :=
  fun i t hi => (h i t hi).keep f (fun e => h6 (by rw [e])) (fun e => h7 (by rw [e]))

/-- Lists that were handed in: each is full of ink. -/
def InkOK (role : Role) (w : World) (ints : List Value) : Prop := ∀ v, v ∈ ints → ∃ g m cap, v = .slice (some ⟨g, 0, none⟩) m cap ∧ role g = (9, 0) ∧ m ≤ maxLen ∧ ∀ j, j < m → w.cell? ⟨g, j, none⟩ = some (.int .i64 (-77000000))

theorem InkOK.keep {role role' : Role} {w w' : World} {ints : List Value} (h : InkOK role w ints) {R : Nat × Nat} (f : Fr R role role' w w') (h9 : R ≠ (9, 0)) : InkOK role' w' ints := by
  intro v hv
  obtain ⟨g, m, cap, rfl, hr, hm, hc⟩ := h v hv
  obtain ⟨kr, kb⟩ := f.keep g (by rw [hr]; decide) (by rw [hr]; exact h9.symm)
  exact ⟨g, m, cap, rfl, kr.trans hr, hm, fun j hj => (World.cell?_of_block (w := w) (a := ⟨g, j, none⟩) kb).trans (hc j hj)⟩

/-- m links that bear a mark, from a block's head on. -/
def MarkAt (w : World) (g m : Nat) (k : Int) : Prop := ∀ j, j < m → w.cell? ⟨g, j * 3, none⟩ = some (.int .i64 k) ∧ w.cell? ⟨g, j * 3 + 1, none⟩ = some (.int .i64 0) ∧ w.cell? ⟨g, j * 3 + 2, none⟩ = some (.int .i64 0)

/-- Lists that came out: each bears its mark. -/
def MarkOK (role : Role) (w : World) (lks : List (Value × Int)) : Prop := ∀ x, x ∈ lks → ∃ a m cap, x.1 = .slice a m cap ∧ m ≤ 3 ∧ (m = 0 ∨ ∃ g, a = some ⟨g, 0, none⟩ ∧ role g = (8, 0) ∧ MarkAt w g m x.2)

theorem MarkOK.keep {role role' : Role} {w w' : World} {lks : List (Value × Int)} (h : MarkOK role w lks) {R : Nat × Nat} (f : Fr R role role' w w') (h8 : R ≠ (8, 0)) : MarkOK role' w' lks := by
  intro x hx
  obtain ⟨a, m, cap, h1, h2, h3⟩ := h x hx
  refine ⟨a, m, cap, h1, h2, ?_⟩
  rcases h3 with h3 | ⟨g, ha, hr, hm⟩
  · exact Or.inl h3
  · obtain ⟨kr, kb⟩ := f.keep g (by rw [hr]; decide) (by rw [hr]; exact h8.symm)
    have hc : ∀ o v, w.cell? ⟨g, o, none⟩ = some v → w'.cell? ⟨g, o, none⟩ = some v := fun o v hv => (World.cell?_of_block (w := w) (a := ⟨g, o, none⟩) kb).trans hv
    exact Or.inr ⟨g, ha, kr.trans hr, fun j hj => ⟨hc _ _ (hm j hj).1, hc _ _ (hm j hj).2.1, hc _ _ (hm j hj).2.2⟩⟩

/-- Blocks that nobody may touch: they are as they were in wk. -/
def Kp (kp : Nat → Prop) (wk : World) (role : Role) (w : World) : Prop := ∀ k, kp k → role k = (10, 0) ∧ w.heap[k]? = wk.heap[k]?

theorem Kp.keep {kp : Nat → Prop} {wk : World} {role role' : Role} {w w' : World} (h : Kp kp wk role w) {R : Nat × Nat} (f : Fr R role role' w w') (h10 : R ≠ (10, 0)) : Kp kp wk role' w' := by
  intro k hk
  obtain ⟨hr, hb⟩ := h k hk
  obtain ⟨kr, kb⟩ := f.keep k (by rw [hr]; decide) (by rw [hr]; exact h10.symm)
  exact ⟨kr.trans hr, kb.trans hb⟩

def twins (nets : List Tw) : List Value := nets.flatMap fun t => [.pointer (some ⟨t.bx, 0, none⟩), .pointer (some ⟨t.br, 0, none⟩)]

/-- THE STATEMENT'S WORLD. -/
structure WI (B : Nat) (kp : Nat → Prop) (wk : World) (w : World) (bw : Nat) (role : Role) (nets : List Tw) (ints : List Value) (ls : List Value) (ms : List Int) (vA : Value) (N : Int) (vI vL vM : Value) : Prop where
  fresh : ∀ k, w.heap.size ≤ k → role k = (0, 0)
  base : ∀ k, role k ≠ (0, 0) → B ≤ k
  lo : B ≤ w.heap.size
  b8 : B8 role w bw vA N vI vL vM
  rA : Row B role w 2 45 2 vA nets.length (twins nets)
  rI : Row B role w 3 30 1 vI ints.length ints
  rL : Row B role w 4 67 1 vL ls.length ls
  rM : Row B role w 5 3 1 vM ms.length (ms.map fun k => .int .i64 k)
  net : NetsOK role w nets
  ink : InkOK role w ints
  mark : MarkOK role w (ls.zip ms)
  kept : Kp kp wk role w

/-- Nothing old is touched. -/
theorem Fr.calm {role : Role} {w w' : World} (hf : ∀ k, w.heap.size ≤ k → role k = (0, 0)) (t : Calm w w') (R : Nat × Nat) : Fr R role role w w' := by
  refine ⟨fun k h0 _ => ⟨rfl, ?_⟩, fun k cap hk => ?_⟩
  · have hlt : k < w.heap.size := by
      by_cases hlt : k < w.heap.size
      · exact hlt
      · exact absurd (hf k (by omega)) h0
    exact t.block k hlt (fun f => f)
  · exact t.block k (Array.getElem?_eq_some_iff.1 hk).1 (fun f => f)

theorem WI.calm {B : Nat} {kp : Nat → Prop} {wk : World} {w w' : World} {bw : Nat} {role : Role} {nets : List Tw} {ints : List Value} {ls : List Value} {ms : List Int} {vA : Value} {N : Int} {vI vL vM : Value} (h : WI B kp wk w bw role nets ints ls ms vA N vI vL vM) (t : Calm w w') : WI B kp wk w' bw role nets ints ls ms vA N vI vL vM := by
  have f := Fr.calm h.fresh t (0, 0)
  exact ⟨fun k hk => h.fresh k (Nat.le_trans t.size hk), h.base, Nat.le_trans h.lo t.size, h.b8.keep f (by decide), h.rA.keep f (by decide) (by decide), h.rI.keep f (by decide) (by decide), h.rL.keep f (by decide) (by decide), h.rM.keep f (by decide) (by decide), h.net.keep f (by decide) (by decide), h.ink.keep f (by decide), h.mark.keep f (by decide), h.kept.keep f (by decide)⟩

/-- One block of R is touched. -/
theorem Fr.one {role : Role} {w w' : World} {g : Nat} {R : Nat × Nat} (hf : ∀ k, w.heap.size ≤ k → role k = (0, 0)) (t : Touch (fun k => k = g) w w') (hg : role g = R) (hc : ∃ cs ty fz, w.heap[g]? = some (.cells cs ty fz)) : Fr R role role w w' := by
  refine ⟨fun k h0 hR => ⟨rfl, ?_⟩, fun k cap hk => ?_⟩
  · have hlt : k < w.heap.size := by
      by_cases hlt : k < w.heap.size
      · exact hlt
      · exact absurd (hf k (by omega)) h0
    exact t.block k hlt (fun e => hR (by rw [e]; exact hg))
  · refine t.block k (Array.getElem?_eq_some_iff.1 hk).1 (fun e => ?_)
    obtain ⟨cs, ty, fz, hcs⟩ := hc
    rw [e, hcs] at hk; cases hk

/-- A block is given to R: it was nobody's. -/
def give (role : Role) (g : Nat) (R : Nat × Nat) : Role := fun k => if k = g then R else role k

theorem give_same (role : Role) (g : Nat) (R : Nat × Nat) : give role g R g = R := by simp [give]
theorem give_other (role : Role) (g k : Nat) (R : Nat × Nat) (h : k ≠ g) : give role g R k = role k := by simp [give, h]

theorem Fr.gives {role : Role} {w w' : World} (g : Nat) (R' : Nat × Nat) (hg : role g = (0, 0)) {R : Nat × Nat} (f : Fr R role role w w') : Fr R role (give role g R') w w' :=
  ⟨fun k h0 hR => ⟨give_other _ _ _ _ (fun e => h0 (by rw [e]; exact hg)), (f.keep k h0 hR).2⟩, f.chan⟩

theorem WI.gives {B : Nat} {kp : Nat → Prop} {wk : World} {w : World} {bw : Nat} {role : Role} {nets : List Tw} {ints : List Value} {ls : List Value} {ms : List Int} {vA : Value} {N : Int} {vI vL vM : Value} (h : WI B kp wk w bw role nets ints ls ms vA N vI vL vM) (g : Nat) (R : Nat × Nat) (hg : role g = (0, 0)) (hB : B ≤ g) (hlt : g < w.heap.size) : WI B kp wk w bw (give role g R) nets ints ls ms vA N vI vL vM := by
  have f := Fr.gives g R hg (Fr.calm h.fresh (Touch.refl (fun _ => False) w) (0, 0))
  refine ⟨fun k hk => ?_, fun k hk => ?_, h.lo, h.b8.keep f (by decide), h.rA.keep f (by decide) (by decide), h.rI.keep f (by decide) (by decide), h.rL.keep f (by decide) (by decide), h.rM.keep f (by decide) (by decide), h.net.keep f (by decide) (by decide), h.ink.keep f (by decide), h.mark.keep f (by decide), h.kept.keep f (by decide)⟩
  · rw [give_other _ _ _ _ (by omega)]; exact h.fresh k hk
  · by_cases e : k = g
    · rw [e]; exact hB
    · rw [give_other _ _ _ _ e] at hk; exact h.base k hk


/-- What an append does to who owns what. -/
theorem grew_frame {B : Nat} {role : Role} {w w' : World} {r e size n k g cap : Nat} {v : Value} {xs all : List Value} (hf : ∀ k, w.heap.size ≤ k → role k = (0, 0)) (h : Row B role w r e size v n xs) (hg : Grew B e size v k all w g cap w') (_hr : r ≠ 0) :
    Fr (r, 0) role (give role g (r, 0)) w w' ∧ Row B (give role g (r, 0)) w' r e size (.slice (some ⟨g, 0, none⟩) k cap) k all ∧ (∀ j, w'.heap.size ≤ j → give role g (r, 0) j = (0, 0)) ∧ B ≤ g ∧ w.heap.size ≤ w'.heap.size := by
  obtain ⟨hown, ht, hlt⟩ := hg
  have hB : B ≤ g := (hown.lt g rfl).1
  have hrow : Row B (give role g (r, 0)) w' r e size (.slice (some ⟨g, 0, none⟩) k cap) k all := ⟨hown, fun g' hg' => by
    have : g = g' := Option.some.inj hg'
    rw [← this]; exact give_same _ _ _⟩
  have klt : ∀ k, role k ≠ (0, 0) → k < w.heap.size := fun k h0 => by
    by_cases hlt : k < w.heap.size
    · exact hlt
    · exact absurd (hf k (by omega)) h0
  rcases ht with ⟨hin, t⟩ | ⟨hnew, t⟩
  · have hgr := h.mine g hin
    have hcells : ∃ cs ty fz, w.heap[g]? = some (.cells cs ty fz) := by
      rcases h.own.2 with ⟨rfl, _⟩ | ⟨g0, cap0, cur, rfl, _, hg0, _⟩
      · simp [Value.ownBlock] at hin
      · have : g0 = g := Option.some.inj hin
        subst this
        exact ⟨_, _, _, hg0⟩
    refine ⟨⟨fun k h0 hR => ?_, fun k cap hk => ?_⟩, hrow, fun j hj => ?_, hB, t.size⟩
    · have hne : k ≠ g := fun e => hR (by rw [e]; exact hgr)
      exact ⟨give_other _ _ _ _ hne, t.block k (klt k h0) hne⟩
    · refine t.block k (Array.getElem?_eq_some_iff.1 hk).1 (fun e => ?_)
      obtain ⟨cs, ty, fz, hcs⟩ := hcells
      rw [e, hcs] at hk; cases hk
    · rw [give_other _ _ _ _ (by omega)]
      exact hf j (Nat.le_trans t.size hj)
  · refine ⟨⟨fun k h0 hR => ?_, fun k cap hk => t.block k (Array.getElem?_eq_some_iff.1 hk).1 (fun f => f)⟩, hrow, fun j hj => ?_, hB, t.size⟩
    · have hk := klt k h0
      exact ⟨give_other _ _ _ _ (by omega), t.block k hk (fun f => f)⟩
    · rw [give_other _ _ _ _ (by omega)]
      exact hf j (Nat.le_trans t.size hj)

/-- A store into the world's own block. -/
theorem B8.frame {role : Role} {w : World} {bw : Nat} {vA : Value} {N : Int} {vI vL vM : Value} (h : B8 role w bw vA N vI vL vM) (hf : ∀ k, w.heap.size ≤ k → role k = (0, 0)) (o : Nat) (v : Value) : Fr (1, 0) role role w (w.setCell ⟨bw, o, none⟩ v) :=
  Fr.one hf (Touch.set1 w bw o v) h.own (block_of_cell h.all)

theorem cell_set_ne (w : World) (b o o' : Nat) (v u : Value) (h : o' ≠ o) (hu : w.cell? ⟨b, o', none⟩ = some u) : (w.setCell ⟨b, o, none⟩ v).cell? ⟨b, o', none⟩ = some u :=
  (World.cell?_setCell_other w _ _ _ (by intro e; have := congrArg Addr.off e; exact h this.symm)).trans hu

theorem B8.setA {role : Role} {w : World} {bw : Nat} {vA : Value} {N : Int} {vI vL vM : Value} (h : B8 role w bw vA N vI vL vM) (v : Value) : B8 role (w.setCell ⟨bw, 0, none⟩ v) bw v N vI vL vM :=
  ⟨h.own, World.cell?_setCell_same w _ _ h.all, cell_set_ne _ _ _ _ _ _ (by decide) h.num, cell_set_ne _ _ _ _ _ _ (by decide) h.ints, cell_set_ne _ _ _ _ _ _ (by decide) h.tests, cell_set_ne _ _ _ _ _ _ (by decide) h.links, cell_set_ne _ _ _ _ _ _ (by decide) h.lm, cell_set_ne _ _ _ _ _ _ (by decide) h.logs, cell_set_ne _ _ _ _ _ _ (by decide) h.em, fun o => by rw [World.frozen?_setCell]; exact h.fr o⟩
theorem B8.setN {role : Role} {w : World} {bw : Nat} {vA : Value} {N : Int} {vI vL vM : Value} (h : B8 role w bw vA N vI vL vM) (v : Int) : B8 role (w.setCell ⟨bw, 1, none⟩ (.int .i64 v)) bw vA v vI vL vM :=
  ⟨h.own, cell_set_ne _ _ _ _ _ _ (by decide) h.all, World.cell?_setCell_same w _ _ h.num, cell_set_ne _ _ _ _ _ _ (by decide) h.ints, cell_set_ne _ _ _ _ _ _ (by decide) h.tests, cell_set_ne _ _ _ _ _ _ (by decide) h.links, cell_set_ne _ _ _ _ _ _ (by decide) h.lm, cell_set_ne _ _ _ _ _ _ (by decide) h.logs, cell_set_ne _ _ _ _ _ _ (by decide) h.em, fun o => by rw [World.frozen?_setCell]; exact h.fr o⟩
theorem B8.setI {role : Role} {w : World} {bw : Nat} {vA : Value} {N : Int} {vI vL vM : Value} (h : B8 role w bw vA N vI vL vM) (v : Value) : B8 role (w.setCell ⟨bw, 2, none⟩ v) bw vA N v vL vM :=
  ⟨h.own, cell_set_ne _ _ _ _ _ _ (by decide) h.all, cell_set_ne _ _ _ _ _ _ (by decide) h.num, World.cell?_setCell_same w _ _ h.ints, cell_set_ne _ _ _ _ _ _ (by decide) h.tests, cell_set_ne _ _ _ _ _ _ (by decide) h.links, cell_set_ne _ _ _ _ _ _ (by decide) h.lm, cell_set_ne _ _ _ _ _ _ (by decide) h.logs, cell_set_ne _ _ _ _ _ _ (by decide) h.em, fun o => by rw [World.frozen?_setCell]; exact h.fr o⟩
theorem B8.setL {role : Role} {w : World} {bw : Nat} {vA : Value} {N : Int} {vI vL vM : Value} (h : B8 role w bw vA N vI vL vM) (v : Value) : B8 role (w.setCell ⟨bw, 4, none⟩ v) bw vA N vI v vM :=
  ⟨h.own, cell_set_ne _ _ _ _ _ _ (by decide) h.all, cell_set_ne _ _ _ _ _ _ (by decide) h.num, cell_set_ne _ _ _ _ _ _ (by decide) h.ints, cell_set_ne _ _ _ _ _ _ (by decide) h.tests, World.cell?_setCell_same w _ _ h.links, cell_set_ne _ _ _ _ _ _ (by decide) h.lm, cell_set_ne _ _ _ _ _ _ (by decide) h.logs, cell_set_ne _ _ _ _ _ _ (by decide) h.em, fun o => by rw [World.frozen?_setCell]; exact h.fr o⟩
theorem B8.setM {role : Role} {w : World} {bw : Nat} {vA : Value} {N : Int} {vI vL vM : Value} (h : B8 role w bw vA N vI vL vM) (v : Value) : B8 role (w.setCell ⟨bw, 5, none⟩ v) bw vA N vI vL v :=
  ⟨h.own, cell_set_ne _ _ _ _ _ _ (by decide) h.all, cell_set_ne _ _ _ _ _ _ (by decide) h.num, cell_set_ne _ _ _ _ _ _ (by decide) h.ints, cell_set_ne _ _ _ _ _ _ (by decide) h.tests, cell_set_ne _ _ _ _ _ _ (by decide) h.links, World.cell?_setCell_same w _ _ h.lm, cell_set_ne _ _ _ _ _ _ (by decide) h.logs, cell_set_ne _ _ _ _ _ _ (by decide) h.em, fun o => by rw [World.frozen?_setCell]; exact h.fr o⟩

/-- All but the world's own cells is left by a store into them. -/
theorem WI.stored {B : Nat} {kp : Nat → Prop} {wk : World} {w : World} {bw : Nat} {role : Role} {nets : List Tw} {ints : List Value} {ls : List Value} {ms : List Int} {vA : Value} {N : Int} {vI vL vM : Value} (h : WI B kp wk w bw role nets ints ls ms vA N vI vL vM) (o : Nat) (v : Value) {vA' : Value} {N' : Int} {vI' vL' vM' : Value} (hb : B8 role (w.setCell ⟨bw, o, none⟩ v) bw vA' N' vI' vL' vM')
    (eA : vA' = vA) (eI : vI' = vI) (eL : vL' = vL) (eM : vM' = vM) : WI B kp wk (w.setCell ⟨bw, o, none⟩ v) bw role nets ints ls ms vA' N' vI' vL' vM' := by
  subst eA eI eL eM
  have f := h.b8.frame h.fresh o v
  exact ⟨fun k hk => h.fresh k (by simpa [World.setCell] using hk), h.base, by simpa [World.setCell] using h.lo, hb, h.rA.keep f (by decide) (by decide), h.rI.keep f (by decide) (by decide), h.rL.keep f (by decide) (by decide), h.rM.keep f (by decide) (by decide), h.net.keep f (by decide) (by decide), h.ink.keep f (by decide), h.mark.keep f (by decide), h.kept.keep f (by decide)⟩

theorem base_give {B : Nat} {role : Role} {g : Nat} {R : Nat × Nat} (h : ∀ k, role k ≠ (0, 0) → B ≤ k) (hB : B ≤ g) : ∀ k, give role g R k ≠ (0, 0) → B ≤ k := by
  intro k hk
  by_cases e : k = g
  · rw [e]; exact hB
  · rw [give_other _ _ _ _ e] at hk; exact h k hk

theorem zip_left : ∀ (ls : List Value) (ms : List Int) (x : Value), ls.length = ms.length → (ls ++ [x]).zip ms = ls.zip ms
  | [], [], _, _ => rfl
  | [], _ :: _, _, h => by simp at h
  | _ :: _, [], _, h => by simp at h
  | l :: ls, m :: ms, x, h => by simp [zip_left ls ms x (by simpa using h)]

/-- w.links = append(w.links, x). -/
theorem WI.addL {B : Nat} {kp : Nat → Prop} {wk : World} {w w' : World} {bw : Nat} {role : Role} {nets : List Tw} {ints : List Value} {ls : List Value} {ms : List Int} {vA : Value} {N : Int} {vI vL vM : Value} (h : WI B kp wk w bw role nets ints ls ms vA N vI vL vM) (hlen : ls.length = ms.length) (x : Value) {g cap : Nat} (hg : Grew B 67 1 vL (ls.length + 1) (ls ++ [x]) w g cap w') :
    WI B kp wk (w'.setCell ⟨bw, 4, none⟩ (.slice (some ⟨g, 0, none⟩) (ls.length + 1) cap)) bw (give role g (4, 0)) nets ints (ls ++ [x]) ms vA N vI (.slice (some ⟨g, 0, none⟩) (ls.length + 1) cap) vM := by
  obtain ⟨f, hrow, hfr, hB, hsz⟩ := grew_frame h.fresh h.rL hg (by decide)
  have b1 := h.b8.keep f (by decide)
  have f2 := b1.frame hfr 4 (.slice (some ⟨g, 0, none⟩) (ls.length + 1) cap)
  have hz := zip_left ls ms x hlen
  exact ⟨fun k hk => hfr k (by simpa [World.setCell] using hk), base_give h.base hB, by simp [World.setCell]; exact Nat.le_trans h.lo hsz, b1.setL _, (h.rA.keep f (by decide) (by decide)).keep f2 (by decide) (by decide), (h.rI.keep f (by decide) (by decide)).keep f2 (by decide) (by decide),
    by rw [List.length_append]; exact hrow.keep f2 (by decide) (by decide), (h.rM.keep f (by decide) (by decide)).keep f2 (by decide) (by decide), (h.net.keep f (by decide) (by decide)).keep f2 (by decide) (by decide), (h.ink.keep f (by decide)).keep f2 (by decide), by rw [hz]; exact (h.mark.keep f (by decide)).keep f2 (by decide), (h.kept.keep f (by decide)).keep f2 (by decide)⟩


/-- w.lm = append(w.lm, k), behind it. -/
theorem WI.addM {B : Nat} {kp : Nat → Prop} {wk : World} {w w' : World} {bw : Nat} {role : Role} {nets : List Tw} {ints : List Value} {ls : List Value} {ms : List Int} {vA : Value} {N : Int} {vI vL vM : Value} {x : Value} (h : WI B kp wk w bw role nets ints (ls ++ [x]) ms vA N vI vL vM) (hlen : ls.length = ms.length) (k : Int) {g cap : Nat} (hg : Grew B 3 1 vM (ms.length + 1) ((ms.map fun k => Value.int .i64 k) ++ [.int .i64 k]) w g cap w') (hx : MarkOK role w [(x, k)]) :
    WI B kp wk (w'.setCell ⟨bw, 5, none⟩ (.slice (some ⟨g, 0, none⟩) (ms.length + 1) cap)) bw (give role g (5, 0)) nets ints (ls ++ [x]) (ms ++ [k]) vA N vI vL (.slice (some ⟨g, 0, none⟩) (ms.length + 1) cap) := by
  obtain ⟨f, hrow, hfr, hB, hsz⟩ := grew_frame h.fresh h.rM hg (by decide)
  have b1 := h.b8.keep f (by decide)
  have f2 := b1.frame hfr 5 (.slice (some ⟨g, 0, none⟩) (ms.length + 1) cap)
  have hz : (ls ++ [x]).zip (ms ++ [k]) = ls.zip ms ++ [(x, k)] := by rw [List.zip_append hlen]; rfl
  have hm : MarkOK role w ((ls ++ [x]).zip (ms ++ [k])) := by
    rw [hz]
    intro y hy
    rcases List.mem_append.1 hy with hy | hy
    · exact h.mark y (by rw [zip_left ls ms x hlen]; exact hy)
    · exact hx y hy
  exact ⟨fun k hk => hfr k (by simpa [World.setCell] using hk), base_give h.base hB, by simp [World.setCell]; exact Nat.le_trans h.lo hsz, b1.setM _, (h.rA.keep f (by decide) (by decide)).keep f2 (by decide) (by decide), (h.rI.keep f (by decide) (by decide)).keep f2 (by decide) (by decide),
    (h.rL.keep f (by decide) (by decide)).keep f2 (by decide) (by decide), by rw [List.length_append, List.map_append]; exact hrow.keep f2 (by decide) (by decide), (h.net.keep f (by decide) (by decide)).keep f2 (by decide) (by decide), (h.ink.keep f (by decide)).keep f2 (by decide), (hm.keep f (by decide)).keep f2 (by decide), (h.kept.keep f (by decide)).keep f2 (by decide)⟩

/-- w.ints = append(w.ints, v). -/
theorem WI.addI {B : Nat} {kp : Nat → Prop} {wk : World} {w w' : World} {bw : Nat} {role : Role} {nets : List Tw} {ints : List Value} {ls : List Value} {ms : List Int} {vA : Value} {N : Int} {vI vL vM : Value} (h : WI B kp wk w bw role nets ints ls ms vA N vI vL vM) (v : Value) {g cap : Nat} (hg : Grew B 30 1 vI (ints.length + 1) (ints ++ [v]) w g cap w') (hv : InkOK role w [v]) :
    WI B kp wk (w'.setCell ⟨bw, 2, none⟩ (.slice (some ⟨g, 0, none⟩) (ints.length + 1) cap)) bw (give role g (3, 0)) nets (ints ++ [v]) ls ms vA N (.slice (some ⟨g, 0, none⟩) (ints.length + 1) cap) vL vM := by
  obtain ⟨f, hrow, hfr, hB, hsz⟩ := grew_frame h.fresh h.rI hg (by decide)
  have b1 := h.b8.keep f (by decide)
  have f2 := b1.frame hfr 2 (.slice (some ⟨g, 0, none⟩) (ints.length + 1) cap)
  have hm : InkOK role w (ints ++ [v]) := by
    intro y hy
    rcases List.mem_append.1 hy with hy | hy
    · exact h.ink y hy
    · exact hv y hy
  exact ⟨fun k hk => hfr k (by simpa [World.setCell] using hk), base_give h.base hB, by simp [World.setCell]; exact Nat.le_trans h.lo hsz, b1.setI _, (h.rA.keep f (by decide) (by decide)).keep f2 (by decide) (by decide), by rw [List.length_append]; exact hrow.keep f2 (by decide) (by decide),
    (h.rL.keep f (by decide) (by decide)).keep f2 (by decide) (by decide), (h.rM.keep f (by decide) (by decide)).keep f2 (by decide) (by decide), (h.net.keep f (by decide) (by decide)).keep f2 (by decide) (by decide), (hm.keep f (by decide)).keep f2 (by decide), (h.mark.keep f (by decide)).keep f2 (by decide), (h.kept.keep f (by decide)).keep f2 (by decide)⟩

/-- w.all = append(w.all, t). -/
theorem WI.addA {B : Nat} {kp : Nat → Prop} {wk : World} {w w' : World} {bw : Nat} {role : Role} {nets : List Tw} {ints : List Value} {ls : List Value} {ms : List Int} {vA : Value} {N : Int} {vI vL vM : Value} (h : WI B kp wk w bw role nets ints ls ms vA N vI vL vM) (t : Tw) {g cap : Nat} (hg : Grew B 45 2 vA (nets.length + 1) (twins nets ++ [.pointer (some ⟨t.bx, 0, none⟩), .pointer (some ⟨t.br, 0, none⟩)]) w g cap w') (ht : NetOK role w nets.length t) :
    WI B kp wk (w'.setCell ⟨bw, 0, none⟩ (.slice (some ⟨g, 0, none⟩) (nets.length + 1) cap)) bw (give role g (2, 0)) (nets ++ [t]) ints ls ms (.slice (some ⟨g, 0, none⟩) (nets.length + 1) cap) N vI vL vM := by
  obtain ⟨f, hrow, hfr, hB, hsz⟩ := grew_frame h.fresh h.rA hg (by decide)
  have b1 := h.b8.keep f (by decide)
  have f2 := b1.frame hfr 0 (.slice (some ⟨g, 0, none⟩) (nets.length + 1) cap)
  have hm : NetsOK role w (nets ++ [t]) := by
    intro i y hy
    by_cases hi : i < nets.length
    · rw [List.getElem?_append_left hi] at hy; exact h.net i y hy
    · rw [List.getElem?_append_right (by omega)] at hy
      have hi0 : i - nets.length = 0 := by
        have := (List.getElem?_eq_some_iff.1 hy).1
        simp at this; omega
      rw [hi0] at hy
      have : t = y := by simpa using hy
      subst this
      have : i = nets.length := by omega
      rw [this]; exact ht
  have htw : twins (nets ++ [t]) = twins nets ++ [.pointer (some ⟨t.bx, 0, none⟩), .pointer (some ⟨t.br, 0, none⟩)] := by simp [twins]
  exact ⟨fun k hk => hfr k (by simpa [World.setCell] using hk), base_give h.base hB, by simp [World.setCell]; exact Nat.le_trans h.lo hsz, b1.setA _, by rw [List.length_append, htw]; exact hrow.keep f2 (by decide) (by decide), (h.rI.keep f (by decide) (by decide)).keep f2 (by decide) (by decide),
    (h.rL.keep f (by decide) (by decide)).keep f2 (by decide) (by decide), (h.rM.keep f (by decide) (by decide)).keep f2 (by decide) (by decide), (hm.keep f (by decide) (by decide)).keep f2 (by decide) (by decide), (h.ink.keep f (by decide)).keep f2 (by decide), (h.mark.keep f (by decide)).keep f2 (by decide), (h.kept.keep f (by decide)).keep f2 (by decide)⟩

/-- w.n is stored. -/
theorem WI.setN {B : Nat} {kp : Nat → Prop} {wk : World} {w : World} {bw : Nat} {role : Role} {nets : List Tw} {ints : List Value} {ls : List Value} {ms : List Int} {vA : Value} {N : Int} {vI vL vM : Value} (h : WI B kp wk w bw role nets ints ls ms vA N vI vL vM) (v : Int) : WI B kp wk (w.setCell ⟨bw, 1, none⟩ (.int .i64 v)) bw role nets ints ls ms vA v vI vL vM :=
  h.stored 1 _ (h.b8.setN v) rfl rfl rfl rfl

/-- The i-th pair of nets has turned: first the program's, then the document's. -/
theorem WI.netX {B : Nat} {kp : Nat → Prop} {wk : World} {w w' : World} {bw : Nat} {role : Role} {nets : List Tw} {ints : List Value} {ls : List Value} {ms : List Int} {vA : Value} {N : Int} {vI vL vM : Value} (h : WI B kp wk w bw role nets ints ls ms vA N vI vL vM) {i : Nat} {t : Tw} (hi : nets[i]? = some t) (tch : Touch (fun k => k = t.bx) w w') : Fr (6, i) role role w w' :=
  Fr.one h.fresh tch (h.net i t hi).rx (block_of_cell (h.net i t hi).x.closed)

/-- A pair of nets has turned. -/
theorem WI.step {B : Nat} {kp : Nat → Prop} {wk : World} {w w1 w2 : World} {bw : Nat} {role : Role} {nets : List Tw} {ints : List Value} {ls : List Value} {ms : List Int} {vA : Value} {N : Int} {vI vL vM : Value} (h : WI B kp wk w bw role nets ints ls ms vA N vI vL vM) {i : Nat} {t t' : Tw} (hi : nets[i]? = some t)
    (ex : t'.bx = t.bx) (er : t'.br = t.br) (en : t'.n = t.n) (hs : Sane t'.A) (t1 : Touch (fun k => k = t.bx) w w1) (hx : XN w1 t.bx t.n t'.A t'.H t'.M) (t2 : Touch (fun k => k = t.br) w1 w2) (hr : RN w2 t.br t.n t'.A t'.H t'.M) :
    WI B kp wk w2 bw role (nets.set i t') ints ls ms vA N vI vL vM := by
  have ho := h.net i t hi
  have f1 := h.netX hi t1
  have hfr1 : ∀ k, w1.heap.size ≤ k → role k = (0, 0) := fun k hk => h.fresh k (Nat.le_trans t1.size hk)
  have kr := f1.keep t.br (by rw [ho.rr]; intro x; cases congrArg Prod.fst x) (by rw [ho.rr]; intro x; cases congrArg Prod.fst x)
  have f2 : Fr (7, i) role role w1 w2 := Fr.one hfr1 t2 ho.rr (by
    obtain ⟨cs, ty, fz, hc⟩ := block_of_cell ho.r.closed
    exact ⟨cs, ty, fz, kr.2.trans hc⟩)
  have kx := f2.keep t.bx (by rw [ho.rx]; intro x; cases congrArg Prod.fst x) (by rw [ho.rx]; intro x; cases congrArg Prod.fst x)
  have n6 : ∀ (r : Nat), r ≠ 6 → ((6, i) : Nat × Nat) ≠ (r, 0) := fun r hr e => hr (congrArg Prod.fst e).symm
  have n7 : ∀ (r : Nat), r ≠ 7 → ((7, i) : Nat × Nat) ≠ (r, 0) := fun r hr e => hr (congrArg Prod.fst e).symm
  have hil : i < nets.length := (List.getElem?_eq_some_iff.1 hi).1
  have htw : twins (nets.set i t') = twins nets := by
    clear ho f1 f2 kr kx hfr1 h hx hr t1 t2
    unfold twins
    induction nets generalizing i with
    | nil => rfl
    | cons y ys ih =>
      cases i with
      | zero =>
        have : y = t := by simpa using hi
        subst this
        simp [ex, er]
      | succ j =>
        simp only [List.set_cons_succ, List.flatMap_cons]
        rw [ih (by simpa using hi) (fun r hr e => hr (congrArg Prod.fst e).symm) (fun r hr e => hr (congrArg Prod.fst e).symm) (by simpa using hil)]
  refine ⟨fun k hk => hfr1 k (Nat.le_trans t2.size hk), h.base, Nat.le_trans h.lo (Nat.le_trans t1.size t2.size), (h.b8.keep f1 (n6 _ (by decide))).keep f2 (n7 _ (by decide)), ?_, (h.rI.keep f1 (n6 _ (by decide)) (by decide)).keep f2 (n7 _ (by decide)) (by decide),
    (h.rL.keep f1 (n6 _ (by decide)) (by decide)).keep f2 (n7 _ (by decide)) (by decide), (h.rM.keep f1 (n6 _ (by decide)) (by decide)).keep f2 (n7 _ (by decide)) (by decide), ?_, (h.ink.keep f1 (n6 _ (by decide))).keep f2 (n7 _ (by decide)), (h.mark.keep f1 (n6 _ (by decide))).keep f2 (n7 _ (by decide)), (h.kept.keep f1 (n6 _ (by decide))).keep f2 (n7 _ (by decide))⟩
  · rw [List.length_set, htw]
    exact (h.rA.keep f1 (n6 _ (by decide)) (by decide)).keep f2 (n7 _ (by decide)) (by decide)
  · intro j y hj
    by_cases e : j = i
    · subst e
      rw [List.getElem?_set_self hil] at hj
      have : t' = y := by simpa using hj
      subst this
      exact ⟨by rw [en]; exact ho.five, hs, by rw [ex, en]; exact hx.same kx.2 f2.chan, by rw [er, en]; exact hr, by rw [ex]; exact ho.rx, by rw [er]; exact ho.rr⟩
    · rw [List.getElem?_set_ne (fun x => e x.symm)] at hj
      exact ((h.net j y hj).keep f1 (fun x => e (congrArg Prod.snd x).symm) (fun x => by cases congrArg Prod.fst x)).keep f2 (fun x => by cases congrArg Prod.fst x) (fun x => e (congrArg Prod.snd x).symm)

/-- A list that came out is appended to in place, behind all that has been kept of it: block g, its first n links stay. -/
theorem WI.marks {B : Nat} {kp : Nat → Prop} {wk : World} {w w' : World} {bw : Nat} {role : Role} {nets : List Tw} {ints : List Value} {ls : List Value} {ms : List Int} {vA : Value} {N : Int} {vI vL vM : Value} (h : WI B kp wk w bw role nets ints ls ms vA N vI vL vM) {g n : Nat} (hg : role g = (8, 0)) (hc : ∃ cs ty fz, w.heap[g]? = some (.cells cs ty fz)) (tch : Touch (fun k => k = g) w w')
    (hsame : ∀ o u, o < n * 3 → w.cell? ⟨g, o, none⟩ = some u → w'.cell? ⟨g, o, none⟩ = some u)
    (hle : ∀ x, x ∈ ls.zip ms → ∀ m cap, x.1 = .slice (some ⟨g, 0, none⟩) m cap → m ≤ n) : WI B kp wk w' bw role nets ints ls ms vA N vI vL vM := by
  have f := Fr.one h.fresh tch hg hc
  refine ⟨fun k hk => h.fresh k (Nat.le_trans tch.size hk), h.base, Nat.le_trans h.lo tch.size, h.b8.keep f (by decide), h.rA.keep f (by decide) (by decide), h.rI.keep f (by decide) (by decide), h.rL.keep f (by decide) (by decide), h.rM.keep f (by decide) (by decide), h.net.keep f (by decide) (by decide), h.ink.keep f (by decide), ?_, h.kept.keep f (by decide)⟩
  intro x hx
  obtain ⟨a, m, cap, h1, h2, h3⟩ := h.mark x hx
  refine ⟨a, m, cap, h1, h2, ?_⟩
  rcases h3 with h3 | ⟨g', ha, hr, hm⟩
  · exact Or.inl h3
  · refine Or.inr ⟨g', ha, hr, ?_⟩
    by_cases e : g' = g
    · subst e
      have hmn := hle x hx m cap (by rw [h1, ha])
      intro j hj
      exact ⟨hsame _ _ (by omega) (hm j hj).1, hsame _ _ (by omega) (hm j hj).2.1, hsame _ _ (by omega) (hm j hj).2.2⟩
    · intro j hj
      exact ⟨tch.cell (p := ⟨g', j * 3, none⟩) e (hm j hj).1, tch.cell (p := ⟨g', j * 3 + 1, none⟩) e (hm j hj).2.1, tch.cell (p := ⟨g', j * 3 + 2, none⟩) e (hm j hj).2.2⟩

end Go.Proofs.YtodfcpblcpogiaaGreat

/-
  quiet: all frames are handled.
-/
import Derived.Test.YtodfcpblcpogiaaTests
import Derived.Deep.DeepCutAuto
import Derived.Test.YtodfcpblcpogiaaDel
import Derived.Test.YtodfcpblcpogiaaPubF
import Derived.Test.YtodfcpblcpogiaaUnsX
namespace Go.Proofs.Ytodfcpblcpogiaa
open Go.RowKit

/-- What is kept of a subscription. -/
structure Tk where
  on : Bool
  fl : List Tst
  since : Int
  told : List Ev
  lost : Int

/-- A house: how many brokers; what was published; where clients are, their stays, how many they published (twelve numbers); subscriptions. -/
structure HM where
  many : Nat
  evs : List News
  num : Nat → Int
  subs : Nat → Tk

abbrev rHouse : Role := .net
abbrev rEvs : Role := .tree
abbrev rTold (s : Nat) : Role := .log s
abbrev rFilt (s : Nat) : Role := .known s 0
def News.enc (e : News) : List Value := e.ev.enc ++ [int e.stay]

structure TkX (w : World) (hb : Nat) (κ : Nat → Option Role) (s : Nat) (t : Tk) : Prop where
  on : w.cell? ⟨hb, 15 + s * 5, none⟩ = some (.bool t.on)
  fl : ∃ a cap, w.cell? ⟨hb, 15 + s * 5 + 1, none⟩ = some (.slice a t.fl.length cap) ∧ (t.fl = [] ∨ ∃ fb o, a = some ⟨fb, o, none⟩ ∧ κ fb = some (rFilt s) ∧ ∀ (j : Nat) v, (t.fl.flatMap Tst.enc)[j]? = some v → w.cell? ⟨fb, o + j, none⟩ = some v)
  since : w.cell? ⟨hb, 15 + s * 5 + 2, none⟩ = some (int t.since)
  told : ∃ v, w.cell? ⟨hb, 15 + s * 5 + 3, none⟩ = some v ∧ RowAt w κ (rTold s) 63 5 t.told.length (t.told.flatMap Ev.enc) v
  lost : w.cell? ⟨hb, 15 + s * 5 + 4, none⟩ = some (int t.lost)

structure HX (w : World) (hb b : Nat) (κ : Nat → Option Role) (H : HM) : Prop where
  house : κ hb = some rHouse
  typ : ∃ cs, w.heap[hb]? = some (.cells cs 37)
  net : w.cell? ⟨hb, 0, none⟩ = some (ptr b)
  many : w.cell? ⟨hb, 1, none⟩ = some (int H.many)
  evs : ∃ v, w.cell? ⟨hb, 2, none⟩ = some v ∧ RowAt w κ rEvs 132 6 H.evs.length (H.evs.flatMap News.enc) v
  num : ∀ i, i < 12 → w.cell? ⟨hb, 3 + i, none⟩ = some (int (H.num i))
  subs : ∀ s, s < 8 → TkX w hb κ s (H.subs s)
  lt : ∀ k, κ k ≠ none → k < w.heap.size

theorem HX.fr {w : World} {hb b : Nat} {κ : Nat → Option Role} {H : HM} (h : HX w hb b κ H) (o : Nat) : w.frozen? ⟨hb, o, none⟩ = false := by
  obtain ⟨cs, hcs⟩ := h.typ
  exact box_frozen hcs o

theorem TkX.keep {w w' : World} {hb : Nat} {κ κ' : Nat → Option Role} {s : Nat} {t : Tk} (h : TkX w hb κ s t)
    (hcell : ∀ o v, 15 + s * 5 ≤ o → o < 15 + s * 5 + 5 → w.cell? ⟨hb, o, none⟩ = some v → w'.cell? ⟨hb, o, none⟩ = some v)
    (hk : ∀ i, κ i = some (rTold s) ∨ κ i = some (rFilt s) → w'.heap[i]? = w.heap[i]? ∧ κ' i = κ i) : TkX w' hb κ' s t := by
  obtain ⟨a, cap, h1, h2⟩ := h.fl
  obtain ⟨v, h3, h4⟩ := h.told
  refine ⟨hcell _ _ (by omega) (by omega) h.on, ⟨a, cap, hcell _ _ (by omega) (by omega) h1, ?_⟩, hcell _ _ (by omega) (by omega) h.since, ⟨v, hcell _ _ (by omega) (by omega) h3, h4.keep (fun i e => hk i (Or.inl e))⟩, hcell _ _ (by omega) (by omega) h.lost⟩
  rcases h2 with h2 | ⟨fb, o, e1, e2, e3⟩
  · exact Or.inl h2
  · exact Or.inr ⟨fb, o, e1, (hk fb (Or.inr e2)).2.trans e2, fun j v hj => cell_of_heap (hk fb (Or.inr e2)).1 (e3 j v hj)⟩

theorem HX.step {w w' : World} {hb b : Nat} {κ κ' : Nat → Option Role} {H H' : HM} {S : Role → Prop} (h : HX w hb b κ H) (K : ∀ {k : Nat} {r : Role}, κ k = some r → ¬ S r → w'.heap[k]? = w.heap[k]? ∧ κ' k = κ k)
    (hh : κ' hb = κ hb) (hlt : ∀ k, κ' k ≠ none → k < w'.heap.size) (ch : Nat → Prop) (htyp : ∃ cs, w'.heap[hb]? = some (.cells cs 37))
    (hcell : ∀ o v, ¬ ch o → w.cell? ⟨hb, o, none⟩ = some v → w'.cell? ⟨hb, o, none⟩ = some v) (h0 : ¬ ch 0) (h1 : ¬ ch 1) (hmany : H'.many = H.many)
    (hevs : (H'.evs = H.evs ∧ ¬ ch 2 ∧ ¬ S rEvs) ∨ ∃ v, w'.cell? ⟨hb, 2, none⟩ = some v ∧ RowAt w' κ' rEvs 132 6 H'.evs.length (H'.evs.flatMap News.enc) v)
    (hnum : ∀ i, i < 12 → (H'.num i = H.num i ∧ ¬ ch (3 + i)) ∨ w'.cell? ⟨hb, 3 + i, none⟩ = some (int (H'.num i)))
    (hsubs : ∀ s, s < 8 → (H'.subs s = H.subs s ∧ (∀ o, 15 + s * 5 ≤ o → o < 15 + s * 5 + 5 → ¬ ch o) ∧ ¬ S (rTold s) ∧ ¬ S (rFilt s)) ∨ TkX w' hb κ' s (H'.subs s)) : HX w' hb b κ' H' := by
  refine ⟨hh.trans h.house, htyp, hcell _ _ h0 h.net, by rw [hmany]; exact hcell _ _ h1 h.many, ?_, fun i hi => ?_, fun s hs => ?_, hlt⟩
  · rcases hevs with ⟨e1, e2, e3⟩ | e
    · obtain ⟨v, h2, h3⟩ := h.evs
      rw [e1]
      exact ⟨v, hcell _ _ e2 h2, h3.keep (fun k hk => K hk e3)⟩
    · exact e
  · rcases hnum i hi with ⟨e1, e2⟩ | e
    · rw [e1]; exact hcell _ _ e2 (h.num i hi)
    · exact e
  · rcases hsubs s hs with ⟨e1, e2, e3, e4⟩ | e
    · rw [e1]
      exact (h.subs s hs).keep (fun o v ho1 ho2 => hcell o v (e2 o ho1 ho2)) (fun i hi => hi.elim (fun e => K e e3) (fun e => K e e4))
    · exact e

theorem HX.keep {w w' : World} {hb b : Nat} {κ : Nat → Option Role} {H : HM} (h : HX w hb b κ H) {T : Nat → Prop} (t : Touch T w w') (hT : ∀ k, κ k ≠ none → ¬ T k) : HX w' hb b κ H := by
  have hk : ∀ k, κ k ≠ none → w'.heap[k]? = w.heap[k]? := fun k hk => t.block k (h.lt k hk) (hT k hk)
  have hbb := hk hb (by rw [h.house]; simp)
  exact h.step (S := fun _ => False) (fun {k r} hr _ => ⟨hk k (by rw [hr]; simp), rfl⟩) rfl (fun k hk => Nat.lt_of_lt_of_le (h.lt k hk) t.size) (fun _ => False) (by rw [hbb]; exact h.typ) (fun o v _ hc => cell_of_heap hbb hc) id id rfl
    (Or.inl ⟨rfl, id, id⟩) (fun _ _ => Or.inl ⟨rfl, id⟩) (fun _ _ => Or.inl ⟨rfl, fun _ _ _ => id, id, id⟩)

/-- A net and its house, apart from each other. -/
structure HN (w : World) (hb b : Nat) (κ ρ : Nat → Option Role) (σ : Net) (H : HM) : Prop where
  x : XN w b ρ σ
  h : HX w hb b κ H
  apart : ∀ k, κ k ≠ none → ρ k = none

/-- What a step may do: blocks of the two alone, and new ones. -/
structure Ow (κ ρ κ' ρ' : Nat → Option Role) (w w' : World) : Prop where
  touch : Touch (fun k => κ k ≠ none ∨ ρ k ≠ none) w w'
  role : ∀ k, k < w.heap.size → κ' k = κ k ∧ (ρ' k = none ↔ ρ k = none)

theorem Ow.refl (κ ρ : Nat → Option Role) (w : World) : Ow κ ρ κ ρ w w := ⟨Touch.refl _ _, fun _ _ => ⟨rfl, Iff.rfl⟩⟩
theorem Ow.trans {κ ρ κ' ρ' κ'' ρ'' : Nat → Option Role} {w w' w'' : World} (h : Ow κ ρ κ' ρ' w w') (k : Ow κ' ρ' κ'' ρ'' w' w'') : Ow κ ρ κ'' ρ'' w w'' := by
  refine ⟨⟨k.touch.os.trans h.touch.os, k.touch.tape.trans h.touch.tape, k.touch.output.trans h.touch.output, Nat.le_trans h.touch.size k.touch.size, fun i hi hs => ?_⟩, fun i hi => ?_⟩
  · have hr := h.role i hi
    exact (k.touch.block i (Nat.lt_of_lt_of_le hi h.touch.size) (by rw [hr.1]; exact fun x => hs (x.imp id (fun y e => y (hr.2.2 e))))).trans (h.touch.block i hi hs)
  · have hr := h.role i hi
    have hq := k.role i (Nat.lt_of_lt_of_le hi h.touch.size)
    exact ⟨hq.1.trans hr.1, hq.2.trans hr.2⟩
theorem Ow.calm {κ ρ : Nat → Option Role} {w w' : World} (t : Calm w w') : Ow κ ρ κ ρ w w' := ⟨t.mono (fun _ _ f => f.elim), fun _ _ => ⟨rfl, Iff.rfl⟩⟩
theorem Mv.noneIff {S : Role → Prop} {ρ ρ' : Nat → Option Role} {w w' : World} (m : Mv S ρ ρ' w w') {k : Nat} (hk : k < w.heap.size) : ρ' k = none ↔ ρ k = none := by
  rcases m.role k hk with e | ⟨x, s, e1, _, e2⟩
  · rw [e]
  · rw [e1, e2]; simp
theorem Ow.mv {κ ρ ρ' : Nat → Option Role} {w w' : World} (m : Mv allR ρ ρ' w w') : Ow κ ρ κ ρ' w w' := ⟨m.blocks.mono (fun _ _ h => Or.inr h), fun _ hk => ⟨rfl, m.noneIff hk⟩⟩
theorem Ow.cell {κ ρ κ' ρ' : Nat → Option Role} {w w' : World} (h : Ow κ ρ κ' ρ' w w') {g o : Nat} {v : Value} (h1 : κ g = none) (h2 : ρ g = none) (hc : w.cell? ⟨g, o, none⟩ = some v) : w'.cell? ⟨g, o, none⟩ = some v :=
  h.touch.cell (p := ⟨g, o, none⟩) (fun x => x.elim (fun e => e h1) (fun e => e h2)) hc

theorem HN.calm {w w' : World} {hb b : Nat} {κ ρ : Nat → Option Role} {σ : Net} {H : HM} (h : HN w hb b κ ρ σ H) (t : Calm w w') : HN w' hb b κ ρ σ H := ⟨h.x.calm t, h.h.keep t (fun _ _ f => f), h.apart⟩
theorem HN.mv {w w' : World} {hb b : Nat} {κ ρ ρ' : Nat → Option Role} {σ σ' : Net} {H : HM} (h : HN w hb b κ ρ σ H) (x : XN w' b ρ' σ') (m : Mv allR ρ ρ' w w') : HN w' hb b κ ρ' σ' H := by
  refine ⟨x, h.h.keep m.blocks (fun k hk hr => hr (h.apart k hk)), fun k hk => ?_⟩
  exact (m.noneIff (h.h.lt k hk)).2 (h.apart k hk)
/-- A step of the house alone. -/
theorem HN.book {w w' : World} {hb b : Nat} {κ ρ : Nat → Option Role} {σ : Net} {H H' : HM} (h : HN w hb b κ ρ σ H) (t : Touch (fun k => κ k ≠ none) w w') (x : HX w' hb b κ H') : HN w' hb b κ ρ σ H' ∧ Ow κ ρ κ ρ w w' :=
  ⟨⟨h.x.keep t (fun k hk hr => hk (h.apart k hr)), x, h.apart⟩, t.mono (fun _ _ h => Or.inl h), fun _ _ => ⟨rfl, Iff.rfl⟩⟩

/-! ### all brokers know -/
def Tk.known (t : Tk) (n : Nat) : Tk := if t.since < 0 then { t with since := n } else t
def HM.knownTo (H : HM) (k : Nat) : HM := { H with subs := fun s => if s < k then (H.subs s).known H.evs.length else H.subs s }
def HM.known (H : HM) : HM := H.knownTo 8

theorem HX.since {w : World} {hb b : Nat} {κ : Nat → Option Role} {H : HM} (h : HX w hb b κ H) {s : Nat} (hs : s < 8) (z : Int) : HX (w.setCell ⟨hb, 15 + s * 5 + 2, none⟩ (int z)) hb b κ { H with subs := put H.subs s { H.subs s with since := z } } := by
  have hne : ∀ k r, κ k = some r → r ≠ rHouse → k ≠ hb := fun k r hk hr e => by subst e; rw [h.house] at hk; cases hk; exact hr rfl
  have hoth : ∀ o v, o ≠ 15 + s * 5 + 2 → w.cell? ⟨hb, o, none⟩ = some v → (w.setCell ⟨hb, 15 + s * 5 + 2, none⟩ (int z)).cell? ⟨hb, o, none⟩ = some v := fun o v ho hv => (World.cell?_setCell_other w _ _ _ (by intro e; cases e; exact ho rfl)).trans hv
  refine h.step (S := fun r => r = rHouse) (fun {k r} hk hr => ⟨heap_setCell_other _ _ (hne k r hk hr), rfl⟩) rfl (fun k hk => by simpa [World.setCell] using h.lt k hk) (fun o => o = 15 + s * 5 + 2) (typ_setCell h.typ _ _) (fun o v ho => hoth o v ho) (by omega) (by omega) rfl
    (Or.inl ⟨rfl, by omega, by simp⟩) (fun i hi => Or.inl ⟨rfl, by omega⟩) (fun t ht => ?_)
  by_cases e : t = s
  · subst e
    right
    simp only [put_same]
    have T := h.subs t ht
    obtain ⟨a, cap, h1, h2⟩ := T.fl
    obtain ⟨v, h3, h4⟩ := T.told
    refine ⟨hoth _ _ (by omega) T.on, ⟨a, cap, hoth _ _ (by omega) h1, ?_⟩, World.cell?_setCell_same w _ _ T.since, ⟨v, hoth _ _ (by omega) h3, h4.keep (fun i e => ⟨heap_setCell_other _ _ (hne i _ e (by simp)), rfl⟩)⟩, hoth _ _ (by omega) T.lost⟩
    rcases h2 with h2 | ⟨fb, o, e1, e2, e3⟩
    · exact Or.inl h2
    · exact Or.inr ⟨fb, o, e1, e2, fun j v hj => cell_of_heap (heap_setCell_other _ _ (hne fb _ e2 (by simp))) (e3 j v hj)⟩
  · left
    exact ⟨put_other _ _ e, fun o _ _ => by omega, by simp, by simp⟩

theorem HM.knownTo_succ_lt (H : HM) (k : Nat) (h : (H.subs k).since < 0) : H.knownTo (k + 1) = { H.knownTo k with subs := put (H.knownTo k).subs k { (H.knownTo k).subs k with since := H.evs.length } } := by
  simp only [HM.knownTo, HM.mk.injEq, true_and]
  funext s
  by_cases e : s = k
  · subst e; simp [put, Tk.known, h]
  · simp only [put, if_neg e]
    by_cases h1 : s < k
    · rw [if_pos h1, if_pos (by omega)]
    · rw [if_neg h1, if_neg (by omega)]
theorem HM.knownTo_succ_ge (H : HM) (k : Nat) (h : ¬ (H.subs k).since < 0) : H.knownTo (k + 1) = H.knownTo k := by
  simp only [HM.knownTo, HM.mk.injEq, true_and]
  funext s
  by_cases e : s = k
  · subst e; simp [Tk.known, h]
  · by_cases h1 : s < k
    · rw [if_pos h1, if_pos (by omega)]
    · rw [if_neg h1, if_neg (by omega)]

/-! ### links in which frames wait -/
theorem mem_pending {σ : Net} {l : Lnk} (h : l ∈ σ.pending) : ∃ f r, σ.q l.a l.b = f :: r := by
  unfold Net.pending at h
  split at h
  · cases h
  · simp only [List.mem_flatMap, List.mem_filterMap] at h
    obtain ⟨x, _, y, _, h⟩ := h
    split at h
    · cases h
    · rename_i hne
      cases h
      cases hq : σ.q x y with
      | nil => exact absurd hq hne
      | cons f r => exact ⟨f, r, by simp⟩
theorem pending_nil {σ : Net} (G : Good σ) (ho : σ.closed = false) (h : σ.pending = []) : ∀ x y, σ.q x y = [] := by
  intro x y
  cases hq : σ.q x y with
  | nil => rfl
  | cons f r =>
    exfalso
    have h6 := near_lt6 G.tree (G.nbr x y (by rw [hq]; simp))
    have : (⟨x, y, (σ.q x y).length⟩ : Lnk) ∈ σ.pending := by
      unfold Net.pending
      rw [ho]
      simp only [Bool.false_eq_true, if_false, List.mem_flatMap, List.mem_filterMap]
      exact ⟨x, List.mem_range.2 h6.1, y, List.mem_range.2 h6.2, by rw [if_neg (by rw [hq]; simp)]⟩
    rw [h] at this; cases this

theorem links_at {w : World} {base : Nat} {v : Value} {l : List Lnk} (h : LinksAt w base v l) : ∃ a cap, v = .slice a l.length cap ∧ ∀ i k, l[i]? = some k → ∃ g, a = some ⟨g, 0, none⟩ ∧ w.cell? ⟨g, i * 3, none⟩ = some (int k.a) ∧ w.cell? ⟨g, i * 3 + 1, none⟩ = some (int k.b) ∧ w.cell? ⟨g, i * 3 + 2, none⟩ = some (int k.many) := by
  have hcell := fun g hg => World.ownsRow.cells h (g := g) hg
  obtain ⟨_, h2⟩ := h
  rcases h2 with ⟨rfl, h0⟩ | ⟨g, cap, cur, rfl, _⟩
  · have : l = [] := List.eq_nil_of_length_eq_zero h0
    subst this
    exact ⟨none, 0, rfl, fun i k hk => by simp at hk⟩
  · refine ⟨_, _, rfl, fun i k hk => ⟨g, rfl, ?_⟩⟩
    have key : ∀ (l : List Lnk) (i : Nat), l[i]? = some k → (l.flatMap Lnk.enc)[i * 3]? = some (int k.a) ∧ (l.flatMap Lnk.enc)[i * 3 + 1]? = some (int k.b) ∧ (l.flatMap Lnk.enc)[i * 3 + 2]? = some (int k.many) := by
      intro l
      induction l with
      | nil => intro i hi; simp at hi
      | cons a l ih =>
        intro i hi
        cases i with
        | zero => simp at hi; subst hi; exact ⟨rfl, rfl, rfl⟩
        | succ i =>
          have := ih i (by simpa using hi)
          simp only [List.flatMap_cons, Lnk.enc, List.cons_append, List.nil_append]
          rw [show (i + 1) * 3 = i * 3 + 1 + 1 + 1 by omega]
          exact this
    obtain ⟨k1, k2, k3⟩ := key l i hk
    have c1 := hcell g rfl _ _ k1
    have c2 := hcell g rfl _ _ k2
    have c3 := hcell g rfl _ _ k3
    rw [Addr.add_mid, Nat.zero_add] at c1 c2 c3
    exact ⟨c1, c2, c3⟩

/-- A net that can do whatever comes next. -/
structure Fine (τ : Net) (m : Nat) : Prop where
  fit : Fit τ m
  lt : m < 2000000000000
theorem Fine.good {τ : Net} {m : Nat} (F : Fine τ m) : Good τ := F.fit.good
theorem Fine.wt {τ : Net} {m : Nat} (F : Fine τ m) : τ.weight ≤ 1500 := F.fit.r.alive.wt
theorem Fine.len {τ : Net} {m : Nat} (F : Fine τ m) (x y : Nat) : (τ.q x y).length < 2000 := F.fit.len x y

/-- What grows has room for all that waits: deliveries keep it. -/
def Room (τ : Net) (m : Nat) : Prop := ∃ k, k + 8 * τ.weight ≤ m ∧ Fit τ k
theorem Room.fit {τ : Net} {m : Nat} (F : Room τ m) : Fit τ m := by
  obtain ⟨k, hk, h⟩ := F
  exact h.weak (by omega)
theorem Room.del {τ : Net} {m : Nat} (F : Room τ m) (ho : τ.closed = false) {x y : Nat} {f : Fr} {l : List Fr} (hq : τ.q x y = f :: l) : Room (τ.del x y) m := by
  have G := F.fit.good
  have h1 := (G.del x y).2.2 (delE_some ho (G.nbr x y (by rw [hq]; simp)) hq).1
  obtain ⟨k, hk, h⟩ := F
  exact ⟨k + 8, by omega, h.del _ _⟩

/-- What a run of deliveries keeps. -/
structure Runs (I : Net → Prop) (m : Nat) : Prop where
  fine : ∀ τ, I τ → Fine τ m
  opn : ∀ τ, I τ → τ.closed = false
  del : ∀ τ (x y : Nat) f l, I τ → τ.q x y = f :: l → I (τ.del x y)

theorem Runs.less {I : Net → Prop} {m : Nat} (R : Runs I m) {τ : Net} (h : I τ) {x y : Nat} {f : Fr} {l : List Fr} (hq : τ.q x y = f :: l) : (τ.del x y).weight + 1 ≤ τ.weight := by
  have G := (R.fine τ h).good
  exact (G.del x y).2.2 (delE_some (R.opn τ h) (G.nbr x y (by rw [hq]; simp)) hq).1

set_option maxRecDepth 100000 in
set_option maxHeartbeats 1000000 in
theorem quietX {I : Net → Prop} {m : Nat} (R : Runs I m) {w : World} {hb b : Nat} {κ ρ : Nat → Option Role} {σ : Net} {H : HM} (h : HN w hb b κ ρ σ H) (i : I σ) {a : Int} (ha : Fits a) (hE : H.evs.length ≤ 2199023255552) :
    Calls Try.prog 16 #[ptr hb, int a] w fun e w' => e = .returned (.bool true) ∧ ∃ ρ' σ', HN w' hb b κ ρ' σ' H.known ∧ I σ' ∧ (∀ x y, σ'.q x y = []) ∧ Ow κ ρ κ ρ' w w' := by
  have hwt := (R.fine σ i).wt
  have RR := hide R
  have HH := hide h
  have II := hide i
  have HA := hide ha
  have HE := hide hE
  have HW := hide hwt
  clear R h i ha hE hwt
  obtain ⟨B, hB⟩ : ∃ B : Nat, 1500 < B := ⟨1501, by omega⟩
  have HB := hide hB
  clear hB
  go_enter Try.func16, Try.ntmps16
  go_wp2
  go_loopw [5] (fun j wr => ∃ k : Nat, j = int k ∧ ∃ ρ' σ', HN wr hb b κ ρ' σ' H ∧ I σ' ∧ σ'.weight + k ≤ σ.weight ∧ Ow κ ρ κ ρ' w wr) (fun j _ => B - (intOf j).toNat)
  case atStart => exact ⟨0, rfl, ρ, σ, unhide HH, unhide II, by omega, Ow.refl _ _ _⟩
  case round =>
    obtain ⟨k, rfl, ρ1, τ, hN, hI, hk, hO⟩ := hrel
    have F := (unhide RR).fine τ hI
    have ho := (unhide RR).opn τ hI
    have hwt := unhide HW
    have hk2 : (k : Int) < 100000 := by omega
    have hk3 : (k : Int) ≤ 1500 := by omega
    have HK3 := hide hk3
    have hnet := hN.h.net
    have HN1 := hide hN
    have HI1 := hide hI
    have HK1 := hide hk
    have HO1 := hide hO
    have FF := hide F
    have HOP := hide ho
    clear HH hN hI hk hO F ho hwt hk3
    go_wp2_with fail
    refine (pendingX (unhide HN1).x (unhide FF).len).mono ?_
    rintro e w1 ⟨v, rfl, hL, ht1⟩
    obtain ⟨pa, pc, rfl, hcells⟩ := links_at hL
    have hpl := pending_len (unhide HOP)
    have HC1 := hide hcells
    have HT1 := hide ht1
    have hnet1 := ht1.cell (p := ⟨hb, 0, none⟩) (fun f => f) hnet
    have hlenI : (τ.pending.length : Int) ≤ 36 := by omega
    clear hL hcells ht1 hnet
    by_cases hnil : τ.pending.length = 0
    · have hnil0 : τ.pending = [] := List.eq_nil_of_length_eq_zero hnil
      have HNIL := hide (pending_nil (unhide FF).good (unhide HOP) hnil0)
      have HN2 := hide ((unhide HN1).calm (unhide HT1))
      have HO2 := hide ((unhide HO1).trans (Ow.calm (unhide HT1)))
      have hlen0 : (τ.pending.length : Int) = 0 := by omega
      rw [hnil0]
      simp only [List.length_nil]
      clear hnil hnil0 HC1 HT1 HN1 HO1 hlen0 hlenI hpl
      go_wp2_with fail
      go_loopw [7] (fun j wq => ∃ s : Nat, s ≤ 8 ∧ j = int s ∧ HN wq hb b κ ρ1 τ (H.knownTo s) ∧ Ow κ ρ κ ρ1 w wq) (fun j _ => 8 - (intOf j).toNat)
      case atStart => exact ⟨0, by omega, rfl, by have := unhide HN2; simpa [HM.knownTo] using this, unhide HO2⟩
      case round =>
        obtain ⟨s, hs, rfl, hN, hO⟩ := hrel
        by_cases hs8 : s < 8
        · have T := hN.h.subs s hs8
          have hsub : (H.knownTo s).subs s = H.subs s := by simp [HM.knownTo]
          have hsi := T.since
          rw [hsub] at hsi
          obtain ⟨ev, hev, hrow⟩ := hN.h.evs
          have hevl : ∃ ea ec, ev = .slice ea H.evs.length ec := by
            rcases hrow.1.2 with ⟨e1, e0⟩ | ⟨g, cap, cur, e1, _⟩
            · exact ⟨none, 0, by rw [e1]; exact congrArg (fun n => Value.slice none n 0) e0.symm⟩
            · exact ⟨_, _, e1⟩
          obtain ⟨ea, ec, rfl⟩ := hevl
          have hfz := hN.h.fr
          have hsi8 : (s : Int) < 8 := by omega
          have hE := unhide HE
          have HN3 := hide hN
          have HO3 := hide hO
          obtain ⟨z, hz⟩ : ∃ z, z = (H.subs s).since := ⟨_, rfl⟩
          rw [← hz] at hsi
          have hlb : hb < wr.heap.size := block_lt_of_cell hsi
          have HZ := hide hz
          clear hN hO T hrow hsub hz hE
          by_cases hneg : z < 0
          · go_wp2
            go_region
            all_goals go_wp2
            all_goals go_roundw
            case rel =>
              have hset := (unhide HN3).h.since hs8 (H.evs.length : Int)
              have hb2 := (unhide HN3).book (H' := H.knownTo (s + 1)) ((Touch.refl (fun k => κ k ≠ none) _).setCell (p := ⟨hb, 15 + s * 5 + 2, none⟩) (fun _ => by rw [(unhide HN3).h.house]; simp) (int H.evs.length)) (by
                rw [HM.knownTo_succ_lt H s (by rw [← unhide HZ]; exact hneg)]; exact hset)
              exact ⟨s + 1, by omega, by go_num, hb2.1.calm ((Touch.refl _ _).drew), ((unhide HO3).trans hb2.2).trans (Ow.calm ((Touch.refl _ _).drew))⟩
            case measure => simp [intOf]; omega
          · go_wp2
            go_roundw
            case rel => exact ⟨s + 1, by omega, by go_num, by rw [HM.knownTo_succ_ge H s (by rw [← unhide HZ]; exact hneg)]; exact unhide HN3, unhide HO3⟩
            case measure => simp [intOf]; omega
        · have hs9 : s = 8 := by omega
          subst hs9
          have HN3 := hide hN
          have HO3 := hide hO
          clear hN hO
          go_wp2
          go_ret
          exact ⟨rfl, ρ1, τ, unhide HN3, unhide HI1, unhide HNIL, unhide HO3⟩
    · have hpos : (0 : Int) < τ.pending.length := by omega
      have hpb : ((τ.pending.length : Int) == 0) = false := by rw [beq_dec]; exact decide_eq_false (by omega)
      have hpk := fun w => pick_any a τ.pending.length w (unhide HA) (by omega) (by omega)
      have hpn := pickN_lt a τ.pending.length (by omega)
      obtain ⟨z, hz⟩ : ∃ z, z = pickN a τ.pending.length := ⟨_, rfl⟩
      rw [← hz] at hpk hpn
      have HPK := hide hpk
      obtain ⟨j, hj⟩ : ∃ j : Nat, j = (z + k) % τ.pending.length := ⟨_, rfl⟩
      have hjl : j < τ.pending.length := by rw [hj]; exact Nat.mod_lt _ (by omega)
      have hji : ((z : Int) + k) % τ.pending.length = j := by rw [hj]; simp
      have hjI : (j : Int) < τ.pending.length := by omega
      obtain ⟨lk, hlk⟩ : ∃ lk, τ.pending[j]? = some lk := ⟨_, List.getElem?_eq_getElem hjl⟩
      obtain ⟨fq, lq, hq⟩ := mem_pending (List.mem_of_getElem? hlk)
      obtain ⟨g, rfl, c0, c1, c2⟩ := unhide HC1 j lk hlk
      have HQ := hide hq
      have HJI := hide hji
      clear hpk hz hj hlk hq HC1 hji
      go_wp2_with fail
      refine (unhide HPK _).mono ?_
      rintro e w2 ⟨rfl, hw2⟩
      have hw2 := hw2.symm
      subst hw2
      have hji := unhide HJI
      clear hpb
      go_wp2_with fail
      obtain ⟨W2, hW2⟩ : ∃ W2, W2 = w1.alloc (.cells #[.int .i64 (lk.a : Int), .int .i64 (lk.b : Int), .int .i64 (lk.many : Int)] 68) := ⟨_, rfl⟩
      have ht2 : Calm w1 W2 := by rw [hW2]; exact (Touch.refl _ _).alloc _
      have q0 : W2.cell? ⟨w1.heap.size, 0, none⟩ = some (int lk.a) := by rw [hW2]; exact box_cell (heap_alloc_new _ _) 0
      have q1 : W2.cell? ⟨w1.heap.size, 1, none⟩ = some (int lk.b) := by rw [hW2]; exact box_cell (heap_alloc_new _ _) 1
      have qn : W2.cell? ⟨hb, 0, none⟩ = some (ptr b) := ht2.cell (p := ⟨hb, 0, none⟩) (fun f => f) hnet1
      have HN2 := hide (((unhide HN1).calm (unhide HT1)).calm ht2)
      have HO2 := hide (((unhide HO1).trans (Ow.calm (unhide HT1))).trans (Ow.calm ht2))
      rw [← hW2]
      clear hW2 ht2 hnet1 c0 c1 c2 hji hjI hjl hpn hpos hnil hlenI hpl HPK HJI HT1 HN1 HO1 hw2
      go_cut [9] (fun s wx => s = int 0 ∧ ∃ ρ', HN wx hb b κ ρ' (τ.del lk.a lk.b) H ∧ Ow κ ρ κ ρ' w wx)
      case first =>
        clear hk2
        go_region_with (go_at_call 28; refine (deliverX ((unhide HN2).calm ((Touch.refl _ _).drew)).x (unhide FF).fit (unhide FF).lt (unhide HQ)).mono ?_; rintro e w3 ⟨rfl, ρ3, hX3, hM3⟩)
        all_goals go_wp2_with fail
        all_goals go_meet
        all_goals exact ⟨rfl, ρ3, ((unhide HN2).calm ((Touch.refl _ _).drew)).mv hX3 hM3, ((unhide HO2).trans (Ow.calm ((Touch.refl _ _).drew))).trans (Ow.mv hM3)⟩
      case rest =>
        obtain ⟨rfl, ρ3, hN3, hO3⟩ := hcut
        have HN3 := hide hN3
        have HO3 := hide hO3
        clear hN3 hO3 HN2 HO2 q0 q1 qn
        go_wp2
        go_roundw
        case rel => exact ⟨k + 1, by go_num, ρ3, _, unhide HN3, (unhide RR).del τ _ _ _ _ (unhide HI1) (unhide HQ), by
          have h1 := (unhide RR).less (unhide HI1) (unhide HQ)
          have h2 := unhide HK1
          omega, unhide HO3⟩
        case measure =>
          have h1 := unhide HK3
          have h2 := unhide HB
          simp [intOf]; omega

end Go.Proofs.Ytodfcpblcpogiaa

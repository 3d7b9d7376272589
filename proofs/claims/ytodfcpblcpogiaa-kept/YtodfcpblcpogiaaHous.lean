/-
  The statements' own book: a house, in memory.
-/
import Derived.Test.YtodfcpblcpogiaaMeets
namespace Go.Proofs.Ytodfcpblcpogiaa
open Go.RowKit

/-- What is kept of a subscription. -/
structure Tk where
  on : Bool
  fl : List Tst
  since : Int
  told : List Ev
  lost : Int

/-- A house: how many brokers; what was published; where clients are, their stays, how many they published (twelve numbers); subscriptions. -/
structure HM where
  many : Nat
  evs : List News
  num : Nat → Int
  subs : Nat → Tk

abbrev rHouse : Role := .net
abbrev rEvs : Role := .tree
abbrev rTold (s : Nat) : Role := .log s
abbrev rFilt (s : Nat) : Role := .known s 0
def News.enc (e : News) : List Value := e.ev.enc ++ [int e.stay]

structure TkX (w : World) (hb : Nat) (κ : Nat → Option Role) (s : Nat) (t : Tk) : Prop where
  on : w.cell? ⟨hb, 15 + s * 5, none⟩ = some (.bool t.on)
  fl : ∃ a cap, w.cell? ⟨hb, 15 + s * 5 + 1, none⟩ = some (.slice a t.fl.length cap) ∧ (t.fl = [] ∨ ∃ fb o, a = some ⟨fb, o, none⟩ ∧ κ fb = some (rFilt s) ∧ ∀ (j : Nat) v, (t.fl.flatMap Tst.enc)[j]? = some v → w.cell? ⟨fb, o + j, none⟩ = some v)
  since : w.cell? ⟨hb, 15 + s * 5 + 2, none⟩ = some (int t.since)
  told : ∃ v, w.cell? ⟨hb, 15 + s * 5 + 3, none⟩ = some v ∧ RowAt w κ (rTold s) 63 5 t.told.length (t.told.flatMap Ev.enc) v
  lost : w.cell? ⟨hb, 15 + s * 5 + 4, none⟩ = some (int t.lost)

structure HX (w : World) (hb b : Nat) (κ : Nat → Option Role) (H : HM) : Prop where
  house : κ hb = some rHouse
  typ : ∃ cs, w.heap[hb]? = some (.cells cs 37)
  net : w.cell? ⟨hb, 0, none⟩ = some (ptr b)
  many : w.cell? ⟨hb, 1, none⟩ = some (int H.many)
  evs : ∃ v, w.cell? ⟨hb, 2, none⟩ = some v ∧ RowAt w κ rEvs 132 6 H.evs.length (H.evs.flatMap News.enc) v
  num : ∀ i, i < 12 → w.cell? ⟨hb, 3 + i, none⟩ = some (int (H.num i))
  subs : ∀ s, s < 8 → TkX w hb κ s (H.subs s)
  lt : ∀ k, κ k ≠ none → k < w.heap.size

theorem HX.fr {w : World} {hb b : Nat} {κ : Nat → Option Role} {H : HM} (h : HX w hb b κ H) (o : Nat) : w.frozen? ⟨hb, o, none⟩ = false := by
  obtain ⟨cs, hcs⟩ := h.typ
  exact box_frozen hcs o

theorem TkX.keep {w w' : World} {hb : Nat} {κ κ' : Nat → Option Role} {s : Nat} {t : Tk} (h : TkX w hb κ s t)
    (hcell : ∀ o v, 15 + s * 5 ≤ o → o < 15 + s * 5 + 5 → w.cell? ⟨hb, o, none⟩ = some v → w'.cell? ⟨hb, o, none⟩ = some v)
    (hk : ∀ i, κ i = some (rTold s) ∨ κ i = some (rFilt s) → w'.heap[i]? = w.heap[i]? ∧ κ' i = κ i) : TkX w' hb κ' s t := by
  obtain ⟨a, cap, h1, h2⟩ := h.fl
  obtain ⟨v, h3, h4⟩ := h.told
  refine ⟨hcell _ _ (by omega) (by omega) h.on, ⟨a, cap, hcell _ _ (by omega) (by omega) h1, ?_⟩, hcell _ _ (by omega) (by omega) h.since, ⟨v, hcell _ _ (by omega) (by omega) h3, h4.keep (fun i e => hk i (Or.inl e))⟩, hcell _ _ (by omega) (by omega) h.lost⟩
  rcases h2 with h2 | ⟨fb, o, e1, e2, e3⟩
  · exact Or.inl h2
  · exact Or.inr ⟨fb, o, e1, (hk fb (Or.inr e2)).2.trans e2, fun j v hj => cell_of_heap (hk fb (Or.inr e2)).1 (e3 j v hj)⟩

theorem HX.step {w w' : World} {hb b : Nat} {κ κ' : Nat → Option Role} {H H' : HM} {S : Role → Prop} (h : HX w hb b κ H) (K : ∀ {k : Nat} {r : Role}, κ k = some r → ¬ S r → w'.heap[k]? = w.heap[k]? ∧ κ' k = κ k)
    (hh : κ' hb = κ hb) (hlt : ∀ k, κ' k ≠ none → k < w'.heap.size) (ch : Nat → Prop) (htyp : ∃ cs, w'.heap[hb]? = some (.cells cs 37))
    (hcell : ∀ o v, ¬ ch o → w.cell? ⟨hb, o, none⟩ = some v → w'.cell? ⟨hb, o, none⟩ = some v) (h0 : ¬ ch 0) (h1 : ¬ ch 1) (hmany : H'.many = H.many)
    (hevs : (H'.evs = H.evs ∧ ¬ ch 2 ∧ ¬ S rEvs) ∨ ∃ v, w'.cell? ⟨hb, 2, none⟩ = some v ∧ RowAt w' κ' rEvs 132 6 H'.evs.length (H'.evs.flatMap News.enc) v)
    (hnum : ∀ i, i < 12 → (H'.num i = H.num i ∧ ¬ ch (3 + i)) ∨ w'.cell? ⟨hb, 3 + i, none⟩ = some (int (H'.num i)))
    (hsubs : ∀ s, s < 8 → (H'.subs s = H.subs s ∧ (∀ o, 15 + s * 5 ≤ o → o < 15 + s * 5 + 5 → ¬ ch o) ∧ ¬ S (rTold s) ∧ ¬ S (rFilt s)) ∨ TkX w' hb κ' s (H'.subs s)) : HX w' hb b κ' H' := by
  refine ⟨hh.trans h.house, htyp, hcell _ _ h0 h.net, by rw [hmany]; exact hcell _ _ h1 h.many, ?_, fun i hi => ?_, fun s hs => ?_, hlt⟩
  · rcases hevs with ⟨e1, e2, e3⟩ | e
    · obtain ⟨v, h2, h3⟩ := h.evs
      rw [e1]
      exact ⟨v, hcell _ _ e2 h2, h3.keep (fun k hk => K hk e3)⟩
    · exact e
  · rcases hnum i hi with ⟨e1, e2⟩ | e
    · rw [e1]; exact hcell _ _ e2 (h.num i hi)
    · exact e
  · rcases hsubs s hs with ⟨e1, e2, e3, e4⟩ | e
    · rw [e1]
      exact (h.subs s hs).keep (fun o v ho1 ho2 => hcell o v (e2 o ho1 ho2)) (fun i hi => hi.elim (fun e => K e e3) (fun e => K e e4))
    · exact e

theorem HX.keep {w w' : World} {hb b : Nat} {κ : Nat → Option Role} {H : HM} (h : HX w hb b κ H) {T : Nat → Prop} (t : Touch T w w') (hT : ∀ k, κ k ≠ none → ¬ T k) : HX w' hb b κ H := by
  have hk : ∀ k, κ k ≠ none → w'.heap[k]? = w.heap[k]? := fun k hk => t.block k (h.lt k hk) (hT k hk)
  have hbb := hk hb (by rw [h.house]; simp)
  exact h.step (S := fun _ => False) (fun {k r} hr _ => ⟨hk k (by rw [hr]; simp), rfl⟩) rfl (fun k hk => Nat.lt_of_lt_of_le (h.lt k hk) t.size) (fun _ => False) (by rw [hbb]; exact h.typ) (fun o v _ hc => cell_of_heap hbb hc) id id rfl
    (Or.inl ⟨rfl, id, id⟩) (fun _ _ => Or.inl ⟨rfl, id⟩) (fun _ _ => Or.inl ⟨rfl, fun _ _ _ => id, id, id⟩)

/-- A net and its house, apart from each other. -/
structure HN (w : World) (hb b : Nat) (κ ρ : Nat → Option Role) (σ : Net) (H : HM) : Prop where
  x : XN w b ρ σ
  h : HX w hb b κ H
  apart : ∀ k, κ k ≠ none → ρ k = none

/-- What a step may do: blocks of the two alone, and new ones. -/
structure Ow (κ ρ κ' ρ' : Nat → Option Role) (w w' : World) : Prop where
  touch : Touch (fun k => κ k ≠ none ∨ ρ k ≠ none) w w'
  role : ∀ k, k < w.heap.size → κ' k = κ k ∧ (ρ' k = none ↔ ρ k = none)

theorem Ow.refl (κ ρ : Nat → Option Role) (w : World) : Ow κ ρ κ ρ w w := ⟨Touch.refl _ _, fun _ _ => ⟨rfl, Iff.rfl⟩⟩
theorem Ow.trans {κ ρ κ' ρ' κ'' ρ'' : Nat → Option Role} {w w' w'' : World} (h : Ow κ ρ κ' ρ' w w') (k : Ow κ' ρ' κ'' ρ'' w' w'') : Ow κ ρ κ'' ρ'' w w'' := by
  refine ⟨⟨k.touch.os.trans h.touch.os, k.touch.tape.trans h.touch.tape, k.touch.output.trans h.touch.output, Nat.le_trans h.touch.size k.touch.size, fun i hi hs => ?_⟩, fun i hi => ?_⟩
  · have hr := h.role i hi
    exact (k.touch.block i (Nat.lt_of_lt_of_le hi h.touch.size) (by rw [hr.1]; exact fun x => hs (x.imp id (fun y e => y (hr.2.2 e))))).trans (h.touch.block i hi hs)
  · have hr := h.role i hi
    have hq := k.role i (Nat.lt_of_lt_of_le hi h.touch.size)
    exact ⟨hq.1.trans hr.1, hq.2.trans hr.2⟩
theorem Ow.calm {κ ρ : Nat → Option Role} {w w' : World} (t : Calm w w') : Ow κ ρ κ ρ w w' := ⟨t.mono (fun _ _ f => f.elim), fun _ _ => ⟨rfl, Iff.rfl⟩⟩
theorem Mv.noneIff {S : Role → Prop} {ρ ρ' : Nat → Option Role} {w w' : World} (m : Mv S ρ ρ' w w') {k : Nat} (hk : k < w.heap.size) : ρ' k = none ↔ ρ k = none := by
  rcases m.role k hk with e | ⟨x, s, e1, _, e2⟩
  · rw [e]
  · rw [e1, e2]; simp
theorem Ow.mv {κ ρ ρ' : Nat → Option Role} {w w' : World} (m : Mv allR ρ ρ' w w') : Ow κ ρ κ ρ' w w' := ⟨m.blocks.mono (fun _ _ h => Or.inr h), fun _ hk => ⟨rfl, m.noneIff hk⟩⟩
theorem Ow.cell {κ ρ κ' ρ' : Nat → Option Role} {w w' : World} (h : Ow κ ρ κ' ρ' w w') {g o : Nat} {v : Value} (h1 : κ g = none) (h2 : ρ g = none) (hc : w.cell? ⟨g, o, none⟩ = some v) : w'.cell? ⟨g, o, none⟩ = some v :=
  h.touch.cell (p := ⟨g, o, none⟩) (fun x => x.elim (fun e => e h1) (fun e => e h2)) hc

theorem HN.calm {w w' : World} {hb b : Nat} {κ ρ : Nat → Option Role} {σ : Net} {H : HM} (h : HN w hb b κ ρ σ H) (t : Calm w w') : HN w' hb b κ ρ σ H := ⟨h.x.calm t, h.h.keep t (fun _ _ f => f), h.apart⟩
theorem HN.mv {w w' : World} {hb b : Nat} {κ ρ ρ' : Nat → Option Role} {σ σ' : Net} {H : HM} (h : HN w hb b κ ρ σ H) (x : XN w' b ρ' σ') (m : Mv allR ρ ρ' w w') : HN w' hb b κ ρ' σ' H := by
  refine ⟨x, h.h.keep m.blocks (fun k hk hr => hr (h.apart k hk)), fun k hk => ?_⟩
  exact (m.noneIff (h.h.lt k hk)).2 (h.apart k hk)
/-- A step of the house alone. -/
theorem HN.book {w w' : World} {hb b : Nat} {κ ρ : Nat → Option Role} {σ : Net} {H H' : HM} (h : HN w hb b κ ρ σ H) (t : Touch (fun k => κ k ≠ none) w w') (x : HX w' hb b κ H') : HN w' hb b κ ρ σ H' ∧ Ow κ ρ κ ρ w w' :=
  ⟨⟨h.x.keep t (fun k hk hr => hk (h.apart k hr)), x, h.apart⟩, t.mono (fun _ _ h => Or.inl h), fun _ _ => ⟨rfl, Iff.rfl⟩⟩

/-! ### all brokers know -/
def Tk.known (t : Tk) (n : Nat) : Tk := if t.since < 0 then { t with since := n } else t
def HM.knownTo (H : HM) (k : Nat) : HM := { H with subs := fun s => if s < k then (H.subs s).known H.evs.length else H.subs s }
def HM.known (H : HM) : HM := H.knownTo 8

theorem HX.since {w : World} {hb b : Nat} {κ : Nat → Option Role} {H : HM} (h : HX w hb b κ H) {s : Nat} (hs : s < 8) (z : Int) : HX (w.setCell ⟨hb, 15 + s * 5 + 2, none⟩ (int z)) hb b κ { H with subs := put H.subs s { H.subs s with since := z } } := by
  have hne : ∀ k r, κ k = some r → r ≠ rHouse → k ≠ hb := fun k r hk hr e => by subst e; rw [h.house] at hk; cases hk; exact hr rfl
  have hoth : ∀ o v, o ≠ 15 + s * 5 + 2 → w.cell? ⟨hb, o, none⟩ = some v → (w.setCell ⟨hb, 15 + s * 5 + 2, none⟩ (int z)).cell? ⟨hb, o, none⟩ = some v := fun o v ho hv => (World.cell?_setCell_other w _ _ _ (by intro e; cases e; exact ho rfl)).trans hv
  refine h.step (S := fun r => r = rHouse) (fun {k r} hk hr => ⟨heap_setCell_other _ _ (hne k r hk hr), rfl⟩) rfl (fun k hk => by simpa [World.setCell] using h.lt k hk) (fun o => o = 15 + s * 5 + 2) (typ_setCell h.typ _ _) (fun o v ho => hoth o v ho) (by omega) (by omega) rfl
    (Or.inl ⟨rfl, by omega, by simp⟩) (fun i hi => Or.inl ⟨rfl, by omega⟩) (fun t ht => ?_)
  by_cases e : t = s
  · subst e
    right
    simp only [put_same]
    have T := h.subs t ht
    obtain ⟨a, cap, h1, h2⟩ := T.fl
    obtain ⟨v, h3, h4⟩ := T.told
    refine ⟨hoth _ _ (by omega) T.on, ⟨a, cap, hoth _ _ (by omega) h1, ?_⟩, World.cell?_setCell_same w _ _ T.since, ⟨v, hoth _ _ (by omega) h3, h4.keep (fun i e => ⟨heap_setCell_other _ _ (hne i _ e (by simp)), rfl⟩)⟩, hoth _ _ (by omega) T.lost⟩
    rcases h2 with h2 | ⟨fb, o, e1, e2, e3⟩
    · exact Or.inl h2
    · exact Or.inr ⟨fb, o, e1, e2, fun j v hj => cell_of_heap (heap_setCell_other _ _ (hne fb _ e2 (by simp))) (e3 j v hj)⟩
  · left
    exact ⟨put_other _ _ e, fun o _ _ => by omega, by simp, by simp⟩

theorem HM.knownTo_succ_lt (H : HM) (k : Nat) (h : (H.subs k).since < 0) : H.knownTo (k + 1) = { H.knownTo k with subs := put (H.knownTo k).subs k { (H.knownTo k).subs k with since := H.evs.length } } := by
  simp only [HM.knownTo, HM.mk.injEq, true_and]
  funext s
  by_cases e : s = k
  · subst e; simp [put, Tk.known, h]
  · simp only [put, if_neg e]
    by_cases h1 : s < k
    · rw [if_pos h1, if_pos (by omega)]
    · rw [if_neg h1, if_neg (by omega)]
theorem HM.knownTo_succ_ge (H : HM) (k : Nat) (h : ¬ (H.subs k).since < 0) : H.knownTo (k + 1) = H.knownTo k := by
  simp only [HM.knownTo, HM.mk.injEq, true_and]
  funext s
  by_cases e : s = k
  · subst e; simp [Tk.known, h]
  · by_cases h1 : s < k
    · rw [if_pos h1, if_pos (by omega)]
    · rw [if_neg h1, if_neg (by omega)]

/-! ### links in which frames wait -/
theorem mem_pending {σ : Net} {l : Lnk} (h : l ∈ σ.pending) : ∃ f r, σ.q l.a l.b = f :: r := by
  unfold Net.pending at h
  split at h
  · cases h
  · simp only [List.mem_flatMap, List.mem_filterMap] at h
    obtain ⟨x, _, y, _, h⟩ := h
    split at h
    · cases h
    · rename_i hne
      cases h
      cases hq : σ.q x y with
      | nil => exact absurd hq hne
      | cons f r => exact ⟨f, r, by simp⟩
theorem pending_nil {σ : Net} (G : Good σ) (ho : σ.closed = false) (h : σ.pending = []) : ∀ x y, σ.q x y = [] := by
  intro x y
  cases hq : σ.q x y with
  | nil => rfl
  | cons f r =>
    exfalso
    have h6 := near_lt6 G.tree (G.nbr x y (by rw [hq]; simp))
    have : (⟨x, y, (σ.q x y).length⟩ : Lnk) ∈ σ.pending := by
      unfold Net.pending
      rw [ho]
      simp only [Bool.false_eq_true, if_false, List.mem_flatMap, List.mem_filterMap]
      exact ⟨x, List.mem_range.2 h6.1, y, List.mem_range.2 h6.2, by rw [if_neg (by rw [hq]; simp)]⟩
    rw [h] at this; cases this

theorem links_at {w : World} {base : Nat} {v : Value} {l : List Lnk} (h : LinksAt w base v l) : ∃ a cap, v = .slice a l.length cap ∧ ∀ i k, l[i]? = some k → ∃ g, a = some ⟨g, 0, none⟩ ∧ w.cell? ⟨g, i * 3, none⟩ = some (int k.a) ∧ w.cell? ⟨g, i * 3 + 1, none⟩ = some (int k.b) ∧ w.cell? ⟨g, i * 3 + 2, none⟩ = some (int k.many) := by
  have hcell := fun g hg => World.ownsRow.cells h (g := g) hg
  obtain ⟨_, h2⟩ := h
  rcases h2 with ⟨rfl, h0⟩ | ⟨g, cap, cur, rfl, _⟩
  · have : l = [] := List.eq_nil_of_length_eq_zero h0
    subst this
    exact ⟨none, 0, rfl, fun i k hk => by simp at hk⟩
  · refine ⟨_, _, rfl, fun i k hk => ⟨g, rfl, ?_⟩⟩
    have key : ∀ (l : List Lnk) (i : Nat), l[i]? = some k → (l.flatMap Lnk.enc)[i * 3]? = some (int k.a) ∧ (l.flatMap Lnk.enc)[i * 3 + 1]? = some (int k.b) ∧ (l.flatMap Lnk.enc)[i * 3 + 2]? = some (int k.many) := by
      intro l
      induction l with
      | nil => intro i hi; simp at hi
      | cons a l ih =>
        intro i hi
        cases i with
        | zero => simp at hi; subst hi; exact ⟨rfl, rfl, rfl⟩
        | succ i =>
          have := ih i (by simpa using hi)
          simp only [List.flatMap_cons, Lnk.enc, List.cons_append, List.nil_append]
          rw [show (i + 1) * 3 = i * 3 + 1 + 1 + 1 by omega]
          exact this
    obtain ⟨k1, k2, k3⟩ := key l i hk
    have c1 := hcell g rfl _ _ k1
    have c2 := hcell g rfl _ _ k2
    have c3 := hcell g rfl _ _ k3
    rw [Addr.add_mid, Nat.zero_add] at c1 c2 c3
    exact ⟨c1, c2, c3⟩

end Go.Proofs.Ytodfcpblcpogiaa

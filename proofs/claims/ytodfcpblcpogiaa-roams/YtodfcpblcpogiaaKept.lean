/-
  Kept.
-/
import Derived.Test.YtodfcpblcpogiaaKeptR
import Derived.Test.YtodfcpblcpogiaaNeedP
namespace Go.Proofs.Ytodfcpblcpogiaa
open Go.RowKit

theorem ents_at {w : World} {v : Value} {l : List Ent} (h : w.ownsRow 0 65 7 v l.length (l.flatMap Ent.enc)) : ∃ a cap, v = .slice a l.length cap ∧ ∀ (i : Nat) e, l[i]? = some e → ∃ g, a = some ⟨g, 0, none⟩ ∧ ∀ (j : Nat) u, e.enc[j]? = some u → w.cell? ⟨g, i * 7 + j, none⟩ = some u := by
  have hcell := fun g hg => World.ownsRow.cells h (g := g) hg
  obtain ⟨_, h2⟩ := h
  rcases h2 with ⟨rfl, h0⟩ | ⟨g, cap, cur, rfl, _⟩
  · have : l = [] := List.eq_nil_of_length_eq_zero h0
    subst this
    exact ⟨none, 0, rfl, fun i k hk => by simp at hk⟩
  · refine ⟨_, _, rfl, fun i e he => ⟨g, rfl, fun j u hj => ?_⟩⟩
    have hj7 : j < 7 := by
      have := (List.getElem?_eq_some_iff.1 hj).1
      simpa [Ent.enc, Ev.enc] using this
    have key : ∀ (l : List Ent) (i : Nat), l[i]? = some e → (l.flatMap Ent.enc)[i * 7 + j]? = some u := by
      intro l
      induction l with
      | nil => intro i hi; simp at hi
      | cons a l ih =>
        intro i hi
        cases i with
        | zero =>
          simp at hi; subst hi
          rw [List.flatMap_cons, Nat.zero_mul, Nat.zero_add, List.getElem?_append_left (by simp [Ent.enc, Ev.enc]; omega)]
          exact hj
        | succ i =>
          have := ih i (by simpa using hi)
          rw [List.flatMap_cons, List.getElem?_append_right (by simp [Ent.enc, Ev.enc]; omega)]
          have hl : (Ent.enc a).length = 7 := rfl
          rw [hl, show (i + 1) * 7 + j - 7 = i * 7 + j by omega]
          exact this
    have := hcell g rfl _ _ (key l i he)
    rw [Addr.add_mid, Nat.zero_add] at this
    exact this

end Go.Proofs.Ytodfcpblcpogiaa

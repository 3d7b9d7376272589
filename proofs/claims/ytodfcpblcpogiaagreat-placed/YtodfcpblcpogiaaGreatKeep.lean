/-
  keepLinks: a list that came out is kept, and written full.
-/
import Derived.Test.YtodfcpblcpogiaaGreatWld
namespace Go.Proofs.YtodfcpblcpogiaaGreat
open Go.RowKit

/-- The mark by the count N. -/
def mkOf (N : Int) : Int := wrap64 (-77000000 - N)
/-- k links that bear a mark. -/
def mks : Nat → Int → List Value
  | 0, _ => []
  | k + 1, m => mks k m ++ [.int .i64 m, .int .i64 0, .int .i64 0]

theorem mks_len (m : Int) : ∀ k, (mks k m).length = k * 3
  | 0 => rfl
  | k + 1 => by simp [mks, mks_len m k]; omega

theorem mks_at (m : Int) : ∀ k j, j < k → (mks k m)[j * 3]? = some (.int .i64 m) ∧ (mks k m)[j * 3 + 1]? = some (.int .i64 0) ∧ (mks k m)[j * 3 + 2]? = some (.int .i64 0)
  | 0, j, h => by omega
  | k + 1, j, h => by
    have hl := mks_len m k
    by_cases e : j < k
    · obtain ⟨h1, h2, h3⟩ := mks_at m k j e
      simp only [mks]
      rw [List.getElem?_append_left (by omega), List.getElem?_append_left (by omega), List.getElem?_append_left (by omega)]
      exact ⟨h1, h2, h3⟩
    · have : j = k := by omega
      subst this
      simp only [mks]
      rw [List.getElem?_append_right (by omega), List.getElem?_append_right (by omega), List.getElem?_append_right (by omega), hl]
      simp

structure KL (B : Nat) (kp : Nat → Prop) (wk w0 : World) (bw : Nat) (nets : List Tw) (ints : List Value) (vA : Value) (vI : Value) (k : Nat) (lv : Value) (bm : Nat) (N : Int) (role : Role) (ls : List Value) (ms : List Int) (vL vM : Value) (w : World) : Prop where
  wi : WI B kp wk w bw role nets ints ls ms vA N vI vL vM
  below : Below B w0 w
  box : w.heap[bm]? = some (.cells #[.int .i64 (mkOf N), .int .i64 0, .int .i64 0] 69)
  rb : role bm = (10, 0)
  row : Row B role w 8 69 3 lv k (mks k (mkOf N))
  le : ∀ x, x ∈ ls.zip ms → ∀ g m cap, lv.ownBlock = some g → x.1 = .slice (some ⟨g, 0, none⟩) m cap → m ≤ k

section
variable {B : Nat} {kp : Nat → Prop} {wk w0 : World} {bw : Nat} {nets : List Tw} {ints : List Value} {vA : Value} {vI : Value} {k : Nat} {lv : Value} {bm : Nat} {N : Int} {role : Role} {ls : List Value} {ms : List Int} {vL vM : Value} {w w' : World}

theorem KL.calm (h : KL B kp wk w0 bw nets ints vA vI k lv bm N role ls ms vL vM w) (t : Calm w w') : KL B kp wk w0 bw nets ints vA vI k lv bm N role ls ms vL vM w' :=
  ⟨h.wi.calm t, h.below.trans (t.below h.wi.lo (fun _ f => f.elim)), (t.block bm (Array.getElem?_eq_some_iff.1 h.box).1 (fun f => f)).trans h.box, h.rb, h.row.keep (Fr.calm h.wi.fresh t (0, 0)) (by decide) (by decide), h.le⟩

theorem touch_grew {e size n : Nat} {v : Value} {all : List Value} {g cap : Nat} (hg : Grew B e size v n all w g cap w') : Touch (fun k => k = g) w w' ∧ B ≤ g := by
  obtain ⟨hown, ht, _⟩ := hg
  refine ⟨?_, (hown.lt g rfl).1⟩
  rcases ht with ⟨_, t⟩ | ⟨_, t⟩
  · exact t
  · exact t.mono (fun _ _ f => f.elim)

/-- Behind w.links = append(w.links, l). -/
theorem KL.one (h : KL B kp wk w0 bw nets ints vA vI k lv bm N role ls ms vL vM w) (hlen : ls.length = ms.length) {g cap : Nat} (hg : Grew B 67 1 vL (ls.length + 1) (ls ++ [lv]) w g cap w') :
    KL B kp wk w0 bw nets ints vA vI k lv bm N (give role g (4, 0)) (ls ++ [lv]) ms (.slice (some ⟨g, 0, none⟩) (ls.length + 1) cap) vM (w'.setCell ⟨bw, 4, none⟩ (.slice (some ⟨g, 0, none⟩) (ls.length + 1) cap)) := by
  obtain ⟨f, hrow, hfr, hB, hsz⟩ := grew_frame h.wi.fresh h.wi.rL hg (by decide)
  have wi := h.wi.addL hlen lv hg
  have b1 := h.wi.b8.keep f (by decide)
  have f2 := b1.frame hfr 4 (.slice (some ⟨g, 0, none⟩) (ls.length + 1) cap)
  have kb := f.keep bm (by rw [h.rb]; decide) (by rw [h.rb]; decide)
  have kb2 := f2.keep bm (by rw [kb.1, h.rb]; decide) (by rw [kb.1, h.rb]; decide)
  have tg := touch_grew hg
  refine ⟨wi, ?_, kb2.2.trans (kb.2.trans h.box), kb.1.trans h.rb, (h.row.keep f (by decide) (by decide)).keep f2 (by decide) (by decide), ?_⟩
  · exact (h.below.trans (tg.1.below h.wi.lo (fun k e => by rw [e]; exact tg.2))).trans ((Touch.set1 w' bw 4 _).below (Nat.le_trans h.wi.lo hsz) (fun k e => by rw [e]; exact h.wi.base bw (by rw [h.wi.b8.own]; decide)))
  · rw [zip_left ls ms lv hlen]; exact h.le

/-- The list as it is now bears the mark. -/
theorem KL.marked (h : KL B kp wk w0 bw nets ints vA vI k lv bm N role ls ms vL vM w) (hk : k ≤ 3) : MarkOK role w [(lv, mkOf N)] := by
  intro x hx
  have hx : x = (lv, mkOf N) := by simpa using hx
  subst hx
  rcases h.row.own.2 with ⟨hv, h0⟩ | ⟨g, cap, cur, hv, _, hg, _, _, _, htake⟩
  · exact ⟨none, 0, 0, hv, by omega, Or.inl rfl⟩
  · refine ⟨some ⟨g, 0, none⟩, k, cap, hv, hk, Or.inr ⟨g, rfl, h.row.mine g (by rw [hv]; rfl), ?_⟩⟩
    have hc : ∀ o u, (mks k (mkOf N))[o]? = some u → w.cell? ⟨g, o, none⟩ = some u := fun o u hu => by
      have hol : o < k * 3 := by have := (List.getElem?_eq_some_iff.1 hu).1; rw [mks_len] at this; exact this
      rw [cell_of_row w g o cur 69 (0, 0) hg, ← Array.getElem?_toList]
      rw [← htake, List.getElem?_take, if_pos hol] at hu
      exact hu
    intro j hj
    obtain ⟨a1, a2, a3⟩ := mks_at (mkOf N) k j hj
    exact ⟨hc _ _ a1, hc _ _ a2, hc _ _ a3⟩

/-- Behind w.lm = append(w.lm, mark). -/
theorem KL.two (h : KL B kp wk w0 bw nets ints vA vI k lv bm N role (ls ++ [lv]) ms vL vM w) (hlen : ls.length = ms.length) (hk : k ≤ 3) {g cap : Nat} (hg : Grew B 3 1 vM (ms.length + 1) ((ms.map fun k => Value.int .i64 k) ++ [.int .i64 (mkOf N)]) w g cap w') :
    KL B kp wk w0 bw nets ints vA vI k lv bm N (give role g (5, 0)) (ls ++ [lv]) (ms ++ [mkOf N]) vL (.slice (some ⟨g, 0, none⟩) (ms.length + 1) cap) (w'.setCell ⟨bw, 5, none⟩ (.slice (some ⟨g, 0, none⟩) (ms.length + 1) cap)) := by
  obtain ⟨f, hrow, hfr, hB, hsz⟩ := grew_frame h.wi.fresh h.wi.rM hg (by decide)
  have wi := h.wi.addM hlen (mkOf N) hg (h.marked hk)
  have b1 := h.wi.b8.keep f (by decide)
  have f2 := b1.frame hfr 5 (.slice (some ⟨g, 0, none⟩) (ms.length + 1) cap)
  have kb := f.keep bm (by rw [h.rb]; decide) (by rw [h.rb]; decide)
  have kb2 := f2.keep bm (by rw [kb.1, h.rb]; decide) (by rw [kb.1, h.rb]; decide)
  have tg := touch_grew hg
  refine ⟨wi, ?_, kb2.2.trans (kb.2.trans h.box), kb.1.trans h.rb, (h.row.keep f (by decide) (by decide)).keep f2 (by decide) (by decide), ?_⟩
  · exact (h.below.trans (tg.1.below h.wi.lo (fun k e => by rw [e]; exact tg.2))).trans ((Touch.set1 w' bw 5 _).below (Nat.le_trans h.wi.lo hsz) (fun k e => by rw [e]; exact h.wi.base bw (by rw [h.wi.b8.own]; decide)))
  · rw [List.zip_append hlen]
    intro x hx g' m cap' hg' hxe
    rcases List.mem_append.1 hx with hx | hx
    · exact h.le x (by rw [zip_left ls ms lv hlen]; exact hx) g' m cap' hg' hxe
    · have : x = (lv, mkOf N) := by simpa using hx
      subst this
      rcases h.row.own.2 with ⟨hv, h0⟩ | ⟨g0, cap0, cur, hv, _⟩
      · rw [hv] at hg'; cases hg'
      · rw [hv] at hxe
        simp only [Value.slice.injEq] at hxe
        omega

theorem give_id {role : Role} {g : Nat} {R : Nat × Nat} (h : role g = R) : give role g R = role := by
  funext k
  by_cases e : k = g
  · rw [e, give_same, h]
  · rw [give_other _ _ _ _ e]

/-- Behind l = append(l, m). -/
theorem KL.three (h : KL B kp wk w0 bw nets ints vA vI k lv bm N role ls ms vL vM w) {g cap : Nat} (hg : Grew B 69 3 lv (k + 1) (mks k (mkOf N) ++ [.int .i64 (mkOf N), .int .i64 0, .int .i64 0]) w g cap w') :
    KL B kp wk w0 bw nets ints vA vI (k + 1) (.slice (some ⟨g, 0, none⟩) (k + 1) cap) bm N (give role g (8, 0)) ls ms vL vM w' := by
  have tg := touch_grew hg
  obtain ⟨f, hrow, hfr, hB, hsz⟩ := grew_frame h.wi.fresh h.row hg (by decide)
  have kb := f.keep bm (by rw [h.rb]; decide) (by rw [h.rb]; decide)
  have hbelow : Below B w0 w' := h.below.trans (tg.1.below h.wi.lo (fun k e => by rw [e]; exact tg.2))
  obtain ⟨hown, ht, hlt⟩ := hg
  rcases ht with ⟨hin, t⟩ | ⟨hnew, t⟩
  · have hr8 := h.row.mine g hin
    have hid := give_id hr8
    rcases h.row.own.2 with ⟨hv, h0⟩ | ⟨g0, cap0, cur, hv, _, hg0, _, _, _, htake⟩
    · rw [hv] at hin; cases hin
    · have hgg : g0 = g := by rw [hv] at hin; exact Option.some.inj hin
      subst hgg
      rcases hown.2 with ⟨hv', _⟩ | ⟨g1, cap1, cur1, hv', _, hg1, _, _, _, htake1⟩
      · cases hv'
      · have hg1e : g1 = g0 := by simp only [Value.slice.injEq, Option.some.injEq, Addr.mk.injEq] at hv'; exact hv'.1.1.symm
        subst hg1e
        have hsame : ∀ o u, o < k * 3 → w.cell? ⟨g1, o, none⟩ = some u → w'.cell? ⟨g1, o, none⟩ = some u := fun o u ho hu => by
          rw [cell_of_row w g1 o cur 69 (0, 0) hg0, ← Array.getElem?_toList] at hu
          rw [cell_of_row w' g1 o cur1 69 (0, 0) hg1, ← Array.getElem?_toList]
          have e1 : cur.toList[o]? = (mks k (mkOf N))[o]? := by rw [← htake, List.getElem?_take, if_pos ho]
          have e2 : cur1.toList[o]? = (mks k (mkOf N) ++ [.int .i64 (mkOf N), .int .i64 0, .int .i64 0])[o]? := by rw [← htake1, List.getElem?_take, if_pos (by omega)]
          rw [e2, List.getElem?_append_left (by rw [mks_len]; exact ho), ← e1]
          exact hu
        have wi := h.wi.marks hr8 ⟨_, _, _, hg0⟩ t hsame (fun x hx m cap hxe => h.le x hx g1 m cap hin hxe)
        rw [hid]
        rw [hid] at hrow
        refine ⟨wi, hbelow, kb.2.trans h.box, h.rb, hrow, fun x hx g' m cap' hg' hxe => ?_⟩
        have : g1 = g' := Option.some.inj hg'
        subst this
        exact Nat.le_succ_of_le (h.le x hx g1 m cap' hin hxe)
  · have hr0 : role g = (0, 0) := h.wi.fresh g (by omega)
    have wi := (h.wi.calm t).gives g (8, 0) hr0 tg.2 hlt
    refine ⟨wi, hbelow, kb.2.trans h.box, kb.1.trans h.rb, hrow, fun x hx g' m cap' hg' hxe => ?_⟩
    have : g = g' := Option.some.inj hg'
    subst this
    obtain ⟨a, m1, cap1, h1, h2, h3⟩ := h.wi.mark x hx
    rw [hxe] at h1
    simp only [Value.slice.injEq] at h1
    rcases h3 with h3 | ⟨g2, ha, hr, _⟩
    · omega
    · have : g2 = g := by
        have e := h1.1
        rw [ha] at e
        simp only [Option.some.injEq, Addr.mk.injEq] at e
        exact e.1.symm
      subst this
      rw [hr0] at hr; cases hr

end
end Go.Proofs.YtodfcpblcpogiaaGreat

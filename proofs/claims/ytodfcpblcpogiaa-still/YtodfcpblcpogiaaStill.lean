/-
  Still: the scene, the walk.
-/
import Derived.Test.YtodfcpblcpogiaaHact
namespace Go.Proofs.Ytodfcpblcpogiaa
open Go.RowKit

/-! ### the scene -/
def broF (an : Nat) (g : Nat → Int) (N c : Nat) : Nat := if c < an then pickN (g c) N else 0
def fewF (fn c : Nat) : Nat := if c < fn then 1 else 0
def fltF (fn : Nat) (u : Nat → Int) (c : Nat) : List Tst := testsP (fun _ => u c) (fewF fn c)
theorem broF_lt {an : Nat} {g : Nat → Int} {N c : Nat} (h : 0 < N) : broF an g N c < N := by
  unfold broF; split
  · exact pickN_lt _ _ h
  · exact h
theorem fewF_le (fn c : Nat) : fewF fn c ≤ 1 := by unfold fewF; split <;> omega
theorem fltF_good (fn : Nat) (u : Nat → Int) (c : Nat) : goodFilter (fltF fn u c) = true := testsP_good _ _ (by have := fewF_le fn c; omega)
theorem fltF_len (fn : Nat) (u : Nat → Int) (c : Nat) : (fltF fn u c).length = fewF fn c := testsP_len _ _

def upTo {α : Type} (x : Nat → α) (k : Nat) : Nat → Option α := fun c => if c < k then some (x c) else none
theorem upTo_zero {α : Type} (x : Nat → α) : upTo x 0 = fun _ => none := by funext c; simp [upTo]
theorem upTo_none {α : Type} (x : Nat → α) (k : Nat) : upTo x k k = none := by simp [upTo]
theorem upTo_some {α : Type} (x : Nat → α) {k c : Nat} (h : c < k) : upTo x k c = some (x c) := by simp [upTo, h]
theorem upTo_succ {α : Type} (x : Nat → α) (k : Nat) : put (upTo x k) k (some (x k)) = upTo x (k + 1) := by
  funext c
  by_cases e : c = k
  · subst e; rw [put_same]; simp [upTo]
  · rw [put_other _ _ e]
    unfold upTo
    by_cases h : c < k
    · rw [if_pos h, if_pos (by omega)]
    · rw [if_neg h, if_neg (by omega)]

def setH (N : Nat) (fl : Nat → List Tst) (k : Nat) : HM := ⟨N, [], fun i => if i < 4 then -1 else 0, fun s => if s % 2 = 0 ∧ s / 2 < k then ⟨true, fl (s / 2), -1, [], 0⟩ else ⟨false, [], 0, [], 0⟩⟩
theorem setH_zero (par : List Nat) (fl : Nat → List Tst) : setH (par.length + 1) fl 0 = newHM par := by simp [setH, newHM]
theorem setH_succ (N : Nat) (fl : Nat → List Tst) (k : Nat) : setH N fl (k + 1) = { setH N fl k with subs := put (setH N fl k).subs (2 * k) ⟨true, fl k, -1, [], 0⟩ } := by
  simp only [setH, HM.mk.injEq, true_and]
  funext s
  by_cases e : s = 2 * k
  · subst e
    rw [put_same, if_pos (by omega), show 2 * k / 2 = k by omega]
  · rw [put_other _ _ e]
    by_cases h : s % 2 = 0 ∧ s / 2 < k
    · rw [if_pos h, if_pos (by omega)]
    · rw [if_neg h, if_neg (by omega)]

theorem known_ge {t : Tk} {n : Nat} (h : 0 ≤ t.since) : t.known n = t := by unfold Tk.known; rw [if_neg (by omega)]
theorem setH_known {N : Nat} {fl : Nat → List Tst} {σ : Net} (hm : ∀ c, c < 4 → (σ.cl c).many = 0) : Bks fl 0 [] σ (setH N fl 4).known := by
  have hs : ∀ s, s < 8 → (setH N fl 4).known.subs s = ((setH N fl 4).subs s).known 0 := fun s hs => by
    show (if s < 8 then _ else _) = _
    rw [if_pos hs]; rfl
  refine ⟨rfl, fun c hc => ?_, fun c hc => ?_, fun c hc => ?_, fun c hc => ?_⟩
  · show (if 4 + c < 4 then (-1 : Int) else 0) = 0
    rw [if_neg (by omega)]
  · rw [hm c hc]
    show (if 8 + c < 4 then (-1 : Int) else 0) = 0
    rw [if_neg (by omega)]
  · rw [hs _ (by omega)]
    show Tk.known (if 2 * c % 2 = 0 ∧ 2 * c / 2 < 4 then _ else _) 0 = _
    rw [if_pos (by omega), show 2 * c / 2 = c by omega]
    rfl
  · rw [hs _ (by omega)]
    show Tk.known (if (2 * c + 1) % 2 = 0 ∧ (2 * c + 1) / 2 < 4 then _ else _) 0 = _
    rw [if_neg (by omega)]
    rfl
theorem Bks.known {fl : Nat → List Tst} {E : List News} {σ : Net} {H : HM} (B : Bks fl 0 E σ H) : Bks fl 0 E σ H.known := by
  have hs : ∀ s, s < 8 → H.known.subs s = (H.subs s).known H.evs.length := fun s hs => by
    show (if s < 8 then _ else _) = _
    rw [if_pos hs]
  refine ⟨B.evs, B.stay, B.num, fun c hc => ?_, fun c hc => ?_⟩
  · rw [hs _ (by omega), B.even c hc]; exact known_ge (Int.le_refl _)
  · rw [hs _ (by omega), B.odd c hc]; exact known_ge (Int.le_refl _)

/-! ### in the end -/
structure Rd (E : List News) (fl : Nat → List Tst) (σ : Net) (j : Nat) (τ : Net) (H : HM) : Prop where
  evs : H.evs = flat E
  cls : ∀ c, c < 4 → j ≤ c → τ.cl c = σ.cl c
  done : ∀ c, c < 4 → c < j → H.subs (2 * c) = ⟨true, fl c, 0, ((σ.cl c).told 0).map (fun e => e.ev), 0⟩
  todo : ∀ c, c < 4 → j ≤ c → H.subs (2 * c) = ⟨true, fl c, 0, [], 0⟩
  odd : ∀ c, c < 4 → H.subs (2 * c + 1) = ⟨false, [], 0, [], 0⟩

theorem Bks.rd {fl : Nat → List Tst} {E : List News} {σ : Net} {H : HM} (B : Bks fl 0 E σ H) : Rd E fl σ 0 σ H := ⟨B.evs, fun _ _ _ => rfl, fun _ _ h => by omega, fun c hc _ => B.even c hc, B.odd⟩
theorem Rd.step {E : List News} {fl : Nat → List Tst} {σ τ : Net} {j : Nat} {H : HM} (R : Rd E fl σ j τ H) (hj : j < 4) : Rd E fl σ (j + 1) (τ.setCl j { τ.cl j with log := [] }) (H.readTo j ((σ.cl j).told 0)) := by
  refine ⟨R.evs, fun c hc h => ?_, fun c hc h => ?_, fun c hc h => ?_, fun c hc => ?_⟩
  · show put τ.cl j _ c = _
    rw [put_other _ _ (by omega)]; exact R.cls c hc (by omega)
  · show put H.subs (2 * j) _ (2 * c) = _
    by_cases e : c = j
    · subst e; rw [put_same, R.todo c hc (Nat.le_refl _)]
    · rw [put_other _ _ (by omega)]; exact R.done c hc (by omega)
  · show put H.subs (2 * j) _ (2 * c) = _
    rw [put_other _ _ (by omega)]; exact R.todo c hc (by omega)
  · show put H.subs (2 * j) _ (2 * c + 1) = _
    rw [put_other _ _ (by omega)]; exact R.odd c hc

theorem Rd.lost {E : List News} {fl : Nat → List Tst} {σ τ : Net} {j : Nat} {H : HM} (R : Rd E fl σ j τ H) : ∀ s, s < 8 → (H.subs s).lost = 0 := fun s hs => by
  rcases Nat.mod_two_eq_zero_or_one s with h | h
  · have e : s = 2 * (s / 2) := by omega
    by_cases hj : s / 2 < j
    · rw [e, R.done _ (by omega) hj]
    · rw [e, R.todo _ (by omega) (by omega)]
  · have e : s = 2 * (s / 2) + 1 := by omega
    rw [e, R.odd _ (by omega)]

theorem Rd.full {E : List News} {x : Nat → Nat} {fl : Nat → List Tst} {σ τ : Net} {H : HM} (R : Rd E fl σ 4 τ H) (i : FlowI (upTo x 4) (upTo fl 4) E σ) (hq : ∀ x y, σ.q x y = []) (hg : ∀ c, goodFilter (fl c) = true) (hE : E.length ≤ 2199023255552) :
    ∀ s, s < 8 → (H.subs s).on = true → (H.subs s).since = 0 ∧ goodFilter (H.subs s).fl = true ∧ (H.subs s).told.length ≤ 2199023255552 ∧ ∀ n, n ∈ H.evs → meets (H.subs s).fl n.ev = true → n.ev ∈ (H.subs s).told := fun s hs hon => by
  rcases Nat.mod_two_eq_zero_or_one s with h | h
  · have e : s = 2 * (s / 2) := by omega
    have hc : s / 2 < 4 := by omega
    rw [e, R.done _ hc hc]
    refine ⟨rfl, hg _, ?_, fun n hn hm => ?_⟩
    · have := i.fl.told_len (upTo_some fl hc)
      simp only [List.length_map]; omega
    · rw [R.evs] at hn
      simp only [flat, List.mem_map] at hn
      obtain ⟨e', he', rfl⟩ := hn
      exact List.mem_map.2 ⟨e', i.fl.all_told hq (upTo_some fl hc) (upTo_some x hc) he' hm, rfl⟩
  · have e : s = 2 * (s / 2) + 1 := by omega
    rw [e, R.odd _ (by omega)] at hon
    cases hon

/-! ### a subscription is laid into the books -/
theorem HX.setSub {w W : World} {hb b : Nat} {κ : Nat → Option Role} {H : HM} (h : HX w hb b κ H) {s : Nat} (hs : s < 8) {l : List Tst} {a : Option Addr} {cap base : Nat} (hT : TestsIn w base a l) (hbase : ∀ k, base ≤ k → κ k = none)
    (ht : Touch (fun k => k = hb) w W) (htyp : ∃ cs, W.heap[hb]? = some (.cells cs 37)) (hcell : ∀ o v, ¬ (15 + s * 5 ≤ o ∧ o < 15 + s * 5 + 5) → w.cell? ⟨hb, o, none⟩ = some v → W.cell? ⟨hb, o, none⟩ = some v)
    (c0 : W.cell? ⟨hb, 15 + s * 5, none⟩ = some (.bool true)) (c1 : W.cell? ⟨hb, 15 + s * 5 + 1, none⟩ = some (.slice a l.length cap)) (c2 : W.cell? ⟨hb, 15 + s * 5 + 2, none⟩ = some (int (-1))) (c3 : W.cell? ⟨hb, 15 + s * 5 + 3, none⟩ = some (.slice none 0 0)) (c4 : W.cell? ⟨hb, 15 + s * 5 + 4, none⟩ = some (int 0)) :
    ∃ κ', HX W hb b κ' { H with subs := put H.subs s ⟨true, l, -1, [], 0⟩ } ∧ (∀ k, κ' k ≠ κ k → base ≤ k) ∧ (∀ k, κ k ≠ none → κ' k = κ k) := by
  have hne : ∀ k r, κ k = some r → r ≠ rHouse → k ≠ hb := fun k r hk hr e => by subst e; rw [h.house] at hk; cases hk; exact hr rfl
  have hbb : hb < base := by
    have := h.house
    by_cases hx : base ≤ hb
    · rw [hbase hb hx] at this; cases this
    · omega
  obtain ⟨κ', k1, k2, k3, k4⟩ : ∃ κ' : Nat → Option Role, (∀ k, κ' k ≠ κ k → base ≤ k) ∧ (∀ k, κ k ≠ none → κ' k = κ k) ∧ (∀ k, κ' k ≠ none → k < W.heap.size) ∧ (l = [] ∨ ∃ fb o, a = some ⟨fb, o, none⟩ ∧ κ' fb = some (rFilt s) ∧ fb ≠ hb ∧ ∀ (j : Nat) v, (l.flatMap Tst.enc)[j]? = some v → w.cell? ⟨fb, o + j, none⟩ = some v) := by
    by_cases hl : l = []
    · exact ⟨κ, fun k hk => absurd rfl hk, fun _ _ => rfl, fun k hk => Nat.lt_of_lt_of_le (h.lt k hk) ht.size, Or.inl hl⟩
    · rcases hT with h0 | ⟨fb, o, rfl, hfb, hc⟩
      · exact absurd h0 hl
      · refine ⟨roleAt κ fb (rFilt s), fun k hk => ?_, fun k hk => ?_, fun k hk => ?_, Or.inr ⟨fb, o, rfl, by unfold roleAt; rw [if_pos rfl], by omega, hc⟩⟩
        · unfold roleAt at hk
          split at hk
          · rename_i e; rw [e]; exact hfb
          · exact absurd rfl hk
        · unfold roleAt; split
          · rename_i e; subst e; exact absurd (hbase k hfb) hk
          · rfl
        · unfold roleAt at hk
          split at hk
          · rename_i e
            subst e
            cases l with
            | nil => exact absurd rfl hl
            | cons t r =>
              have := block_lt_of_cell (hc 0 _ (by simp [Tst.enc]; rfl))
              exact Nat.lt_of_lt_of_le this ht.size
          · exact Nat.lt_of_lt_of_le (h.lt k hk) ht.size
  have hk : ∀ k r, κ k = some r → r ≠ rHouse → W.heap[k]? = w.heap[k]? := fun k r hk hr => ht.block k (h.lt k (by rw [hk]; simp)) (hne k r hk hr)
  refine ⟨κ', ?_, k1, k2⟩
  refine h.step (S := fun r => r = rHouse) (fun {k r} hr hs => ⟨hk k r hr hs, k2 k (by rw [hr]; simp)⟩) (k2 hb (by rw [h.house]; simp)) k3 (fun o => 15 + s * 5 ≤ o ∧ o < 15 + s * 5 + 5) htyp hcell (by omega) (by omega) rfl
    (Or.inl ⟨rfl, by omega, by simp⟩) (fun i hi => Or.inl ⟨rfl, by omega⟩) (fun t ht' => ?_)
  by_cases e : t = s
  · subst e
    right
    simp only [put_same]
    refine ⟨c0, ⟨a, cap, c1, ?_⟩, c2, ⟨_, c3, World.ownsRow_nil _ _ _ _, fun g hg => by simp [Value.ownBlock] at hg⟩, c4⟩
    rcases k4 with k4 | ⟨fb, o, e1, e2, e3, e4⟩
    · exact Or.inl k4
    · exact Or.inr ⟨fb, o, e1, e2, fun j v hj => ht.cell (p := ⟨fb, o + j, none⟩) e3 (e4 j v hj)⟩
  · left
    exact ⟨put_other _ _ e, fun o _ _ => by omega, by simp, by simp⟩

theorem HN.laySub {w6 w7 : World} {hb b : Nat} {κ ρ : Nat → Option Role} {σ : Net} {H : HM} (h : HN w6 hb b κ ρ σ H) (ht : Calm w6 w7) {s : Nat} (hs : s < 8) {l : List Tst} {a : Option Addr} {cap : Nat} (hT : TestsIn w7 w6.heap.size a l) :
    ∃ κ', HN (((((w7.setCell ⟨hb, 15 + s * 5, none⟩ (.bool true)).setCell ⟨hb, 15 + s * 5 + 1, none⟩ (.slice a l.length cap)).setCell ⟨hb, 15 + s * 5 + 2, none⟩ (int (-1))).setCell ⟨hb, 15 + s * 5 + 3, none⟩ (.slice none 0 0)).setCell ⟨hb, 15 + s * 5 + 4, none⟩ (int 0)) hb b κ' ρ σ { H with subs := put H.subs s ⟨true, l, -1, [], 0⟩ } ∧
      Ow κ ρ κ' ρ w6 (((((w7.setCell ⟨hb, 15 + s * 5, none⟩ (.bool true)).setCell ⟨hb, 15 + s * 5 + 1, none⟩ (.slice a l.length cap)).setCell ⟨hb, 15 + s * 5 + 2, none⟩ (int (-1))).setCell ⟨hb, 15 + s * 5 + 3, none⟩ (.slice none 0 0)).setCell ⟨hb, 15 + s * 5 + 4, none⟩ (int 0)) := by
  have hX := h.h.keep ht (fun _ _ f => f)
  have T := hX.subs s hs
  obtain ⟨a1, cp1, f1, _⟩ := T.fl
  obtain ⟨v3, t3, _⟩ := T.told
  obtain ⟨W1, h1⟩ : ∃ W1, W1 = w7.setCell ⟨hb, 15 + s * 5, none⟩ (.bool true) := ⟨_, rfl⟩
  obtain ⟨W2, h2⟩ : ∃ W2, W2 = W1.setCell ⟨hb, 15 + s * 5 + 1, none⟩ (.slice a l.length cap) := ⟨_, rfl⟩
  obtain ⟨W3, h3⟩ : ∃ W3, W3 = W2.setCell ⟨hb, 15 + s * 5 + 2, none⟩ (int (-1)) := ⟨_, rfl⟩
  obtain ⟨W4, h4⟩ : ∃ W4, W4 = W3.setCell ⟨hb, 15 + s * 5 + 3, none⟩ (.slice none 0 0) := ⟨_, rfl⟩
  obtain ⟨W5, h5⟩ : ∃ W5, W5 = W4.setCell ⟨hb, 15 + s * 5 + 4, none⟩ (int 0) := ⟨_, rfl⟩
  rw [← h1, ← h2, ← h3, ← h4, ← h5]
  have n1 : ∀ o v, o ≠ 15 + s * 5 → w7.cell? ⟨hb, o, none⟩ = some v → W1.cell? ⟨hb, o, none⟩ = some v := fun o v ho hv => by rw [h1]; exact cell_setCell_ne _ ho hv
  have n2 : ∀ o v, o ≠ 15 + s * 5 + 1 → W1.cell? ⟨hb, o, none⟩ = some v → W2.cell? ⟨hb, o, none⟩ = some v := fun o v ho hv => by rw [h2]; exact cell_setCell_ne _ ho hv
  have n3 : ∀ o v, o ≠ 15 + s * 5 + 2 → W2.cell? ⟨hb, o, none⟩ = some v → W3.cell? ⟨hb, o, none⟩ = some v := fun o v ho hv => by rw [h3]; exact cell_setCell_ne _ ho hv
  have n4 : ∀ o v, o ≠ 15 + s * 5 + 3 → W3.cell? ⟨hb, o, none⟩ = some v → W4.cell? ⟨hb, o, none⟩ = some v := fun o v ho hv => by rw [h4]; exact cell_setCell_ne _ ho hv
  have n5 : ∀ o v, o ≠ 15 + s * 5 + 4 → W4.cell? ⟨hb, o, none⟩ = some v → W5.cell? ⟨hb, o, none⟩ = some v := fun o v ho hv => by rw [h5]; exact cell_setCell_ne _ ho hv
  have e0 : W1.cell? ⟨hb, 15 + s * 5, none⟩ = some (.bool true) := by rw [h1]; exact World.cell?_setCell_same _ _ _ T.on
  have e1 : W2.cell? ⟨hb, 15 + s * 5 + 1, none⟩ = some (.slice a l.length cap) := by rw [h2]; exact World.cell?_setCell_same _ _ _ (n1 _ _ (by omega) f1)
  have e2 : W3.cell? ⟨hb, 15 + s * 5 + 2, none⟩ = some (int (-1)) := by rw [h3]; exact World.cell?_setCell_same _ _ _ (n2 _ _ (by omega) (n1 _ _ (by omega) T.since))
  have e3 : W4.cell? ⟨hb, 15 + s * 5 + 3, none⟩ = some (.slice none 0 0) := by rw [h4]; exact World.cell?_setCell_same _ _ _ (n3 _ _ (by omega) (n2 _ _ (by omega) (n1 _ _ (by omega) t3)))
  have e4 : W5.cell? ⟨hb, 15 + s * 5 + 4, none⟩ = some (int 0) := by rw [h5]; exact World.cell?_setCell_same _ _ _ (n4 _ _ (by omega) (n3 _ _ (by omega) (n2 _ _ (by omega) (n1 _ _ (by omega) T.lost))))
  have hto : Touch (fun k => k = hb) w7 W5 := by
    rw [h5, h4, h3, h2, h1]
    exact (((((Touch.refl (fun k => k = hb) w7).setCell (p := ⟨hb, _, none⟩) (fun _ => rfl) _).setCell (p := ⟨hb, _, none⟩) (fun _ => rfl) _).setCell (p := ⟨hb, _, none⟩) (fun _ => rfl) _).setCell (p := ⟨hb, _, none⟩) (fun _ => rfl) _).setCell (p := ⟨hb, _, none⟩) (fun _ => rfl) _
  have htyp : ∃ cs, W5.heap[hb]? = some (.cells cs 37) := by
    rw [h5, h4, h3, h2, h1]
    exact typ_setCell (typ_setCell (typ_setCell (typ_setCell (typ_setCell hX.typ _ _) _ _) _ _) _ _) _ _
  obtain ⟨κ', x1, x2, x3⟩ := hX.setSub hs hT (fun k hk => (by
    cases hq : κ k with
    | none => rfl
    | some r => have := h.h.lt k (by rw [hq]; simp); omega)) hto htyp (fun o v ho hv => n5 _ _ (by omega) (n4 _ _ (by omega) (n3 _ _ (by omega) (n2 _ _ (by omega) (n1 _ _ (by omega) hv)))))
    (n5 _ _ (by omega) (n4 _ _ (by omega) (n3 _ _ (by omega) (n2 _ _ (by omega) e0)))) (n5 _ _ (by omega) (n4 _ _ (by omega) (n3 _ _ (by omega) e1))) (n5 _ _ (by omega) (n4 _ _ (by omega) e2)) (n5 _ _ (by omega) e3) e4
  have hbk : Bk κ κ' w6 W5 := by
    refine ⟨(ht.mono (T := fun k => κ k ≠ none) (fun _ _ f => f.elim)).trans (hto.mono (fun k _ e => by rw [e, hX.house]; simp)), fun k hk => ?_⟩
    by_cases e : κ' k = κ k
    · exact e
    · have := x2 k e; omega
  exact ⟨κ', h.books hbk x1, hbk.ow⟩

/-- A script, behind a slice's head. -/
def ScriptAt (w : World) (sa : Option Addr) (sn : Nat) : Prop := ∀ i, i < sn → ∃ b o K C Z y0 y1 y2 la ln lc, sa = some ⟨b, o, none⟩ ∧ w.cell? ⟨b, o + i * 7, none⟩ = some (int K) ∧ w.cell? ⟨b, o + i * 7 + 1, none⟩ = some (int C) ∧ w.cell? ⟨b, o + i * 7 + 2, none⟩ = some (int Z) ∧
  w.cell? ⟨b, o + i * 7 + 3, none⟩ = some (int y0) ∧ w.cell? ⟨b, o + i * 7 + 4, none⟩ = some (int y1) ∧ w.cell? ⟨b, o + i * 7 + 5, none⟩ = some (int y2) ∧ w.cell? ⟨b, o + i * 7 + 6, none⟩ = some (.slice la ln lc) ∧ Fits K ∧ Fits C ∧ Fits Z

/-- A number in a row of one's own. -/
def OneIn (w : World) (base : Nat) (a : Option Addr) (n : Nat) (z : Int) : Prop := n = 0 ∨ ∃ g, a = some ⟨g, 0, none⟩ ∧ base ≤ g ∧ w.cell? ⟨g, 0, none⟩ = some (int z)
theorem OneIn.raw {w : World} {base : Nat} {a : Option Addr} {n : Nat} {z : Int} (h : OneIn w base a n z) (hn : n ≤ 1) (hz : n ≠ 0 → Fits z) : RawAt w a n (fun _ => z) := by
  refine ⟨?_, fun j hj => hz (by omega)⟩
  rcases h with h | ⟨g, rfl, _, hc⟩
  · exact Or.inl h
  · refine Or.inr ⟨g, 0, rfl, fun j hj => ?_⟩
    have : j = 0 := by omega
    subst this; exact hc
theorem OneIn.ow {w w' : World} {base : Nat} {a : Option Addr} {n : Nat} {z : Int} {κ ρ κ' ρ' : Nat → Option Role} (h : OneIn w base a n z) (hk : ∀ k, base ≤ k → κ k = none ∧ ρ k = none) (o : Ow κ ρ κ' ρ' w w') : OneIn w' base a n z := by
  rcases h with h | ⟨g, rfl, hg, hc⟩
  · exact Or.inl h
  · exact Or.inr ⟨g, rfl, hg, o.cell (hk g hg).1 (hk g hg).2 hc⟩
theorem HN.off2 {w : World} {hb b : Nat} {κ ρ : Nat → Option Role} {σ : Net} {H : HM} (h : HN w hb b κ ρ σ H) {k : Nat} (hk : w.heap.size ≤ k) : κ k = none ∧ ρ k = none := by
  refine ⟨?_, ?_⟩
  · cases hq : κ k with
    | none => rfl
    | some r => have := h.h.lt k (by rw [hq]; simp); omega
  · cases hq : ρ k with
    | none => rfl
    | some r => have := h.x.lt k (by rw [hq]; simp); omega

set_option maxRecDepth 100000 in
set_option maxHeartbeats 8000000 in
theorem still_any (ra : Option Addr) (rn rc : Nat) (f : Nat → Int) (aa : Option Addr) (an ac : Nat) (g : Nat → Int) (fa : Option Addr) (fn fc : Nat) (u : Nat → Int) (sa : Option Addr) (sn sc : Nat) (w : World)
    (hr : RawAt w ra rn f) (hrn : rn ≤ maxLen) (ha : RawAt w aa an g) (han : an ≤ maxLen) (hf : RawAt w fa fn u) (hfn : fn ≤ maxLen) (hs : ScriptAt w sa sn) (hsn : sn < 1999999999990) :
    Calls Try.prog 4 #[.slice ra rn rc, .slice aa an ac, .slice fa fn fc, .slice sa sn sc] w fun e w' => e = .returned (.bool true) ∧ Calm w w' := by
  unfold maxLen at hrn han hfn
  obtain ⟨par, hpar⟩ : ∃ par, par = treeP f (min rn 5) := ⟨_, rfl⟩
  have T : Tree par := by rw [hpar]; exact treeP_tree f _ (by omega)
  have h5 := T.1
  obtain ⟨N, hN⟩ : ∃ N : Nat, N = par.length + 1 := ⟨_, rfl⟩
  have hN0 : 0 < N := by omega
  have hN6 : N ≤ 6 := by omega
  obtain ⟨x, hx⟩ : ∃ x, x = broF an g N := ⟨_, rfl⟩
  obtain ⟨fl, hfl⟩ : ∃ fl, fl = fltF fn u := ⟨_, rfl⟩
  have hxl : ∀ c, x c < N := fun c => by rw [hx]; exact broF_lt hN0
  have hflg : ∀ c, goodFilter (fl c) = true := fun c => by rw [hfl]; exact fltF_good _ _ _
  have HR := hide hr
  have HA := hide ha
  have HF := hide hf
  have HS := hide hs
  have HRN := hide hrn
  have HAN := hide han
  have HFN := hide hfn
  have HSN := hide hsn
  have TT := hide T
  have HPAR := hide hpar
  have HNN := hide hN
  have HX := hide hx
  have HFL := hide hfl
  have HXL := hide hxl
  have HFLG := hide hflg
  clear hr ha hf hs hrn han hfn hsn T hpar hN hx hfl hxl hflg h5
  go_enter Try.func4, Try.ntmps4
  go_wp2_with fail
  refine (houseX ra rn rc f _ (by unfold maxLen; exact unhide HRN) (unhide HR)).mono ?_
  rintro e w1 ⟨hb, b, κ, ρ, rfl, hN1, hlow1, ht1⟩
  rw [← unhide HPAR] at hN1
  have HN1 := hide hN1
  have HLOW : Hid (∀ k, k < w.heap.size → ¬ (κ k ≠ none ∨ ρ k ≠ none)) := fun k hk hr => by
    have := hlow1 k hr
    omega
  have HT1 := hide ht1
  clear hN1 hlow1 ht1
  go_wp2_with fail
  go_loopw [11] (fun c wr => ∃ k : Nat, k ≤ 4 ∧ c = int k ∧ ∃ κ' ρ' σ, HN wr hb b κ' ρ' σ (setH N fl k) ∧ SpreadI (upTo x k) (upTo fl k) σ ∧ σ.weight ≤ 5 * k ∧ σ.par = par ∧ Ow κ ρ κ' ρ' w1 wr) (fun c _ => 4 - (intOf c).toNat)
  case atStart => exact ⟨0, by omega, rfl, κ, ρ, newNet par, by rw [unhide HNN, setH_zero]; exact unhide HN1, by rw [upTo_zero, upTo_zero]; exact newI (unhide TT), by rw [(Spread.new (unhide TT)).2]; omega, rfl, Ow.refl _ _ _⟩
  case round =>
    obtain ⟨k, hk, rfl, κ1, ρ1, σ, hN, hI, hwt, hp, hO⟩ := hrel
    obtain ⟨wa, hwa⟩ : ∃ wa, wa = wr := ⟨_, rfl⟩
    subst hwa
    have HN2 := hide hN
    have HI2 := hide hI
    have HWT := hide hwt
    have HP := hide hp
    have HO2 := hide hO
    have HCW := hide ((unhide HT1).fresh hO.touch (unhide HLOW))
    have hnet := hN.h.net
    have hmany : wa.cell? ⟨hb, 1, none⟩ = some (int N) := hN.h.many
    clear hN hI hwt hp hO
    by_cases hk4 : k < 4
    · have hk4i : (k : Int) < 4 := by omega
      have hanI : (an : Int) ≤ 9223372036854775807 := by have := unhide HAN; omega
      have hfnI : (fn : Int) ≤ 9223372036854775807 := by have := unhide HFN; omega
      go_upto_if 34 with (fail)
      go_cut [12] (fun s wx => s = int (x k) ∧ Calm wa wx)
      case first =>
        by_cases hka : k < an
        · obtain ⟨ab, ao, rfl, hca, hfa⟩ := ((unhide HA).calm (unhide HCW)).cell hka
          have hkai : (k : Int) < an := by omega
          have hpk := fun w => pick_any (g k) N w hfa hN0 (by omega)
          have hxk : x k = pickN (g k) N := by rw [unhide HX]; unfold broF; rw [if_pos hka]
          rw [← hxk] at hpk
          have HPK := hide hpk
          clear hpk hfa hxk
          go_wp2_with fail
          go_region_with (go_at_call 12; refine (unhide HPK _).mono ?_; rintro e w2 ⟨rfl, hw2⟩; have hw2 := hw2.symm; subst hw2)
          all_goals go_wp2_with fail
          all_goals go_meet
          all_goals exact ⟨rfl, (Touch.refl _ _).drew⟩
        · have hkai : ¬ (k : Int) < an := by omega
          have hxk : x k = 0 := by rw [unhide HX]; unfold broF; rw [if_neg hka]
          go_wp2_with fail
          go_meet
          exact ⟨by rw [hxk]; rfl, Touch.refl _ _⟩
      case rest =>
        obtain ⟨rfl, htc⟩ := hcut
        obtain ⟨w2, hw2⟩ : ∃ w2, w2 = wc := ⟨_, rfl⟩
        subst hw2
        have HTC := hide htc
        have HCW2 := hide ((unhide HCW).calm htc)
        have HSZ2 := hide htc.size
        clear htc hnet hmany
        go_upto_if 47 with (fail)
        go_cut [13] (fun s wx => ∃ la lc, s = .slice la (fewF fn k) lc ∧ OneIn wx wa.heap.size la (fewF fn k) (u k) ∧ Calm w2 wx)
        case first =>
          by_cases hkf : k < fn
          · obtain ⟨ab, ao, rfl, hca, hfa⟩ := ((unhide HF).calm (unhide HCW2)).cell hkf
            have hkai : (k : Int) < fn := by omega
            have hfew : fewF fn k = 1 := by unfold fewF; rw [if_pos hkf]
            obtain ⟨ti, i3, z3, s3, b3⟩ := elem3
            have I3 := hide i3
            have Z3 := hide z3
            have S3 := hide s3
            have B3 := hide b3
            clear i3 z3 s3 b3 hfa
            go_wp2_with (at_builtin; refine wpList_append_mine _ rfl _ _ 22 rfl wa.heap.size 3 ti (.int .i64 0) 1 8 Try.underlying22 (unhide I3) (unhide Z3) (unhide S3) (unhide B3) rfl (by decide) _ 0 [] rfl (World.ownsRow_nil _ _ _ _) ⟨w2.heap.size, 0, none⟩ 1 1 [int (u k)] rfl rfl ?news ?one (by decide) ?h63 ?bytes ?base ?_)
            case news => exact fun j v hj => new_cells w2 [int (u k)] 3 j v hj
            case one => intro v hv; simp at hv; subst hv; rfl
            case h63 => unfold maxLen; omega
            case bytes => omega
            case base => have := unhide HSZ2; simp; omega
            intro g2 cap w3 hg
            obtain ⟨hg1, hg2, hg3⟩ := hg
            have ht3 : wa.heap.size ≤ g2 ∧ Calm w2 w3 := by
              have h0 : Calm w2 (w2.alloc (.cells [int (u k)].toArray 3)) := (Touch.refl _ _).alloc _
              rcases hg2 with ⟨h1, _⟩ | ⟨h1, h2⟩
              · simp [Value.ownBlock] at h1
              · exact ⟨by rw [h1]; have := unhide HSZ2; simp; omega, h0.calm h2⟩
            have hc3 := World.ownsRow.cells hg1 (g := g2) rfl 0 (int (u k)) rfl
            rw [Addr.add_mid] at hc3
            have HT3 := hide ht3
            have HC3 := hide hc3
            clear hg1 hg2 hg3 ht3 hc3
            go_wp2_with fail
            go_meet
            exact ⟨_, _, by rw [hfew], Or.inr ⟨g2, rfl, (unhide HT3).1, unhide HC3⟩, (unhide HT3).2⟩
          · have hkai : ¬ (k : Int) < fn := by omega
            have hfew : fewF fn k = 0 := by unfold fewF; rw [if_neg hkf]
            go_wp2_with fail
            go_meet
            exact ⟨none, 0, by rw [hfew], Or.inl hfew, Touch.refl _ _⟩
        case rest =>
          obtain ⟨la, lc, rfl, hone, htc⟩ := hcut
          obtain ⟨w3, hw3⟩ : ∃ w3, w3 = wc := ⟨_, rfl⟩
          subst hw3
          have hcal3 := (unhide HTC).calm htc
          have HN3 := hide ((unhide HN2).calm hcal3)
          have HO3 := hide ((unhide HO2).trans (Ow.calm hcal3))
          have HONE := hide hone
          have HOFF : Hid (∀ j, wa.heap.size ≤ j → κ1 j = none ∧ ρ1 j = none) := fun j hj => (unhide HN2).off2 hj
          have hnet := ((unhide HN2).calm hcal3).h.net
          have HFIT : Hid (fewF fn k ≠ 0 → Fits (u k)) := fun h0 => by
            have hkf : k < fn := by
              by_cases hkf : k < fn
              · exact hkf
              · exact absurd (by unfold fewF; rw [if_neg hkf]) h0
            exact (unhide HF).2 k hkf
          have HLEN : Hid (min (fewF fn k) 3 = (fl k).length ∧ testsP (fun _ => u k) (min (fewF fn k) 3) = fl k ∧ fewF fn k ≤ 1) := by
            have h1 := fewF_le fn k
            have h2 : min (fewF fn k) 3 = fewF fn k := by omega
            rw [h2, unhide HFL]
            exact ⟨(fltF_len _ _ _).symm, rfl, h1⟩
          clear hone htc hcal3 HTC HCW2 HSZ2
          go_wp2_with fail
          refine (attachS (unhide HN3).x (unhide HI2) (by have := unhide HWT; omega) (c := k) (x := x k) hk4 (by unfold Net.n; rw [unhide HP]; have := unhide HXL k; have := unhide HNN; unfold size; omega) (upTo_none _ _) (upTo_none _ _)).mono ?_
          rintro e w4 ⟨rfl, ρ4a, hX4, hI4, hw4, hpar4, hM4⟩
          rw [upTo_succ] at hI4
          have HN4 := hide ((unhide HN3).mv hX4 hM4)
          have HO4 := hide (Ow.mv (κ := κ1) hM4)
          have HI4 := hide hI4
          have HW4 : Hid ((σ.attach k (x k)).weight ≤ 5 * k) := by rw [hw4]; exact unhide HWT
          have HP4 := hide (hpar4.trans (unhide HP))
          have HONE4 := hide ((unhide HONE).ow (unhide HOFF) (unhide HO4))
          replace hnet := (unhide HN4).h.net
          clear hX4 hI4 hw4 hpar4 hM4 HI2 HWT HP
          generalize hσ4 : σ.attach k (x k) = σ4 at *
          clear hσ4
          have HRAW := hide ((unhide HONE4).raw (unhide HLEN).2.2 (unhide HFIT))
          go_wp2_with fail
          go_cut [15, 16] (fun s t wx => s = int 0 ∧ t = int 0 ∧ ∃ ρ', HN wx hb b κ1 ρ' (σ4.sub k (fl k)) (setH N fl k) ∧ SpreadI (upTo x (k + 1)) (upTo fl (k + 1)) (σ4.sub k (fl k)) ∧ (σ4.sub k (fl k)).weight ≤ 5 * (k + 1) ∧ (σ4.sub k (fl k)).par = par ∧ Ow κ1 ρ4a κ1 ρ' w4 wx)
          case first =>
            go_region_with (first
              | (go_at_call 13; refine (tests_any la (fewF fn k) lc (fun _ => u k) _ (by have := (unhide HLEN).2.2; unfold maxLen; omega) ((unhide HRAW).calm ((Touch.refl _ _).drew))).mono ?_; rw [(unhide HLEN).2.1, (unhide HLEN).1]; rintro e w5 ⟨ta, tc, rfl, hTI, ht5⟩; have hnet5 : w5.cell? ⟨hb, 0, none⟩ = some (ptr b) := (((Touch.refl (fun _ => False) w4).drew).calm ht5).cell (p := ⟨hb, 0, none⟩) (fun f => f) hnet)
              | (go_at_call 15; refine (subscribeS (((unhide HN4).calm ((Touch.refl _ _).drew)).calm ht5).x (unhide HI4) (by have := unhide HW4; omega) (c := k) (x := x k) hk4 (upTo_some _ (by omega)) (upTo_none _ _) (unhide HFLG k) hTI.at tc).mono ?_; rintro e w6 ⟨rfl, ρ6, hX6, hI6, hw6, hpar6, hM6⟩))
            all_goals go_wp2_with fail
            all_goals go_meet
            all_goals
              rw [upTo_succ] at hI6
              refine ⟨rfl, rfl, ρ6, (((unhide HN4).calm ((Touch.refl _ _).drew)).calm ht5).mv hX6 hM6, hI6, by have := unhide HW4; omega, hpar6.trans (unhide HP4), ((Ow.calm ((Touch.refl _ _).drew)).trans (Ow.calm ht5)).trans (Ow.mv hM6)⟩
          case rest =>
            obtain ⟨rfl, rfl, ρ6, hN6, hI6, hw6, hpar6, hO6⟩ := hcut
            obtain ⟨w6, hww6⟩ : ∃ w6, w6 = wc := ⟨_, rfl⟩
            subst hww6
            have HN6 := hide hN6
            have HO6 := hide (((unhide HO3).trans (unhide HO4)).trans hO6)
            have HI6 := hide hI6
            have HW6 := hide hw6
            have HP6 := hide hpar6
            have HONE6 := hide ((unhide HONE).ow (unhide HOFF) ((unhide HO4).trans hO6))
            clear hN6 hO6 hI6 hw6 hpar6 hnet HN3 HN4 HO4 HI4 HW4 HP4 HRAW HN2
            generalize hσ6 : σ4.sub k (fl k) = σ6 at *
            clear hσ6
            have HRAW6 := hide ((unhide HONE6).raw (unhide HLEN).2.2 (unhide HFIT))
            go_wp2_with fail
            have hbl : hb < w6.heap.size := (unhide HN6).h.lt hb (by rw [(unhide HN6).h.house]; simp)
            have hfz6 := (unhide HN6).h.fr
            obtain ⟨z, hz⟩ : ∃ z : Nat, z = 2 * k := ⟨_, rfl⟩
            have hwk : IntKind.i64.wrap (2 * (k : Int)) = (z : Int) := by
              rw [show (z : Int) = 2 * (k : Int) by omega]
              simp [IntKind.wrap, IntKind.signed, IntKind.bits]
              omega
            have hz8 : (z : Int) < 8 := by omega
            have hcs : ∃ v0 v1 v2 v3 v4, w6.cell? ⟨hb, 15 + z * 5, none⟩ = some v0 ∧ w6.cell? ⟨hb, 15 + z * 5 + 1, none⟩ = some v1 ∧ w6.cell? ⟨hb, 15 + z * 5 + 2, none⟩ = some v2 ∧ w6.cell? ⟨hb, 15 + z * 5 + 3, none⟩ = some v3 ∧ w6.cell? ⟨hb, 15 + z * 5 + 4, none⟩ = some v4 := by
              have T := (unhide HN6).h.subs z (by omega)
              obtain ⟨a1, c1, f1, _⟩ := T.fl
              obtain ⟨v3, t3, _⟩ := T.told
              exact ⟨_, _, _, _, _, T.on, f1, T.since, t3, T.lost⟩
            have HZ := hide hz
            clear hz
            obtain ⟨v0, v1, v2, v3, v4, y0, y1, y2, y3, y4⟩ := hcs
            go_region_with (first
              | (go_at_call 13; refine (tests_any la (fewF fn k) lc (fun _ => u k) _ (by have := (unhide HLEN).2.2; unfold maxLen; omega) ((unhide HRAW6).calm ((Touch.refl _ _).drew))).mono ?_; rw [(unhide HLEN).2.1, (unhide HLEN).1]; rintro e w7 ⟨ta, tc, rfl, hTI, ht7⟩; have hfz7 : ∀ o, w7.frozen? ⟨hb, o, none⟩ = false := fun o => (((unhide HN6).calm ((Touch.refl (fun _ => False) w6).drew)).calm ht7).h.fr o; have ht67 : Calm w6 w7 := ((Touch.refl (fun _ => False) w6).drew).calm ht7; have z0 := ht67.cell (p := ⟨hb, _, none⟩) (fun f => f) y0; have z1 := ht67.cell (p := ⟨hb, _, none⟩) (fun f => f) y1; have z2 := ht67.cell (p := ⟨hb, _, none⟩) (fun f => f) y2; have z3 := ht67.cell (p := ⟨hb, _, none⟩) (fun f => f) y3; have z4 := ht67.cell (p := ⟨hb, _, none⟩) (fun f => f) y4))
            all_goals go_wp2
            all_goals go_roundw
            all_goals first
              | (obtain ⟨κ7, hN7, hO7⟩ := (unhide HN6).laySub (((Touch.refl (fun _ => False) w6).drew).calm ht7) (s := z) (by omega) (cap := tc) hTI
                 exact ⟨k + 1, by omega, by go_num, κ7, ρ6, σ6, by rw [setH_succ, ← unhide HZ]; exact hN7, unhide HI6, unhide HW6, unhide HP6, (unhide HO6).trans hO7⟩)
              | (simp [intOf]; omega)
    · have hk5 : k = 4 := by omega
      subst hk5
      clear hnet hmany
      have hsnI : (sn : Int) ≤ 2000000000000 := by have := unhide HSN; omega
      have hrnI : (rn : Int) ≤ 9223372036854775807 := by have := unhide HRN; omega
      have hA4 : ∀ c, c < 4 → upTo x 4 c ≠ none := fun c hc => by rw [upTo_some x hc]; simp
      have HA4 := hide hA4
      have HFSN : Hid (Fits (sn : Int)) := hide (show Fits (sn : Int) from ⟨by omega, by omega⟩)
      have HFRN : Hid (Fits (rn : Int)) := hide (show Fits (rn : Int) from ⟨by omega, by omega⟩)
      clear hA4
      go_wp2_with fail
      refine (quietX (spread_runs _ _) (unhide HN2) (unhide HI2) (unhide HFSN) (by simp [setH])).mono ?_
      rintro e w3 ⟨rfl, ρ3, σ3, hN3, hI3, hq3, hO3⟩
      have HN3 := hide hN3
      have HO3 := hide ((unhide HO2).trans hO3)
      have HB3 : Hid (Bks fl 0 [] σ3 (setH N fl 4).known) := setH_known (fun c hc => hI3.clean.many c hc)
      have HF3 : Hid (FlowI (upTo x 4) (upTo fl 4) [] σ3) := hI3.flow hq3
      clear hN3 hI3 hq3 hO3 HN2 HI2 HO2 HWT HP HCW
      go_wp2_with fail
      go_loopw [10, 17] (fun o i wr => o = .bool true ∧ ∃ j : Nat, j ≤ sn ∧ i = int j ∧ ∃ κ' ρ' σ' H' E', HN wr hb b κ' ρ' σ' H' ∧ FlowI (upTo x 4) (upTo fl 4) E' σ' ∧ Bks fl 0 E' σ' H' ∧ E'.length ≤ j ∧ Ow κ ρ κ' ρ' w1 wr) (fun _ i _ => sn - (intOf i).toNat)
      case atStart => exact ⟨rfl, 0, by omega, rfl, κ1, ρ3, σ3, _, [], unhide HN3, unhide HF3, unhide HB3, Nat.le_refl _, unhide HO3⟩
      case round =>
        obtain ⟨rfl, j, hj, rfl, κ4, ρ4, σ4, H4, E4, hN4, hF4, hB4, hE4, hO4⟩ := hrel
        obtain ⟨wq, hwq⟩ : ∃ wq, wq = wr := ⟨_, rfl⟩
        subst hwq
        have HN4 := hide hN4
        have HF4 := hide hF4
        have HB4 := hide hB4
        have HE4 := hide hE4
        have HO4 := hide hO4
        have HCW4 := hide ((unhide HT1).fresh hO4.touch (unhide HLOW))
        clear hN4 hF4 hB4 hE4 hO4 HN3 HF3 HB3 HO3
        by_cases hjs : j < sn
        · obtain ⟨sb, so, K, C, Z, y0, y1, y2, la, ln, lc, rfl, k0, k1, k2, k3, k4, k5, k6, fK, fC, fZ⟩ := unhide HS j hjs
          have cal := unhide HCW4
          have c0 := cal.cell (p := ⟨sb, _, none⟩) (fun f => f) k0
          have c1 := cal.cell (p := ⟨sb, _, none⟩) (fun f => f) k1
          have c2 := cal.cell (p := ⟨sb, _, none⟩) (fun f => f) k2
          have c3 := cal.cell (p := ⟨sb, _, none⟩) (fun f => f) k3
          have c4 := cal.cell (p := ⟨sb, _, none⟩) (fun f => f) k4
          have c5 := cal.cell (p := ⟨sb, _, none⟩) (fun f => f) k5
          have c6 := cal.cell (p := ⟨sb, _, none⟩) (fun f => f) k6
          have hji : (j : Int) < sn := by omega
          have hpk := fun w => pick_any K 2 w fK (by omega) (by omega)
          have hpn := pickN_lt K 2 (by omega)
          obtain ⟨p, hp⟩ : ∃ p, p = pickN K 2 := ⟨_, rfl⟩
          rw [← hp] at hpk hpn
          have HPK := hide hpk
          obtain ⟨W4, hW4⟩ : ∃ W4, wq.alloc (.cells #[int K, int C, int Z, int y0, int y1, int y2, .slice la ln lc] 54) = W4 := ⟨_, rfl⟩
          have hbx : W4.heap[wq.heap.size]? = some (.cells #[int K, int C, int Z, int y0, int y1, int y2, .slice la ln lc] 54) := by rw [← hW4]; exact heap_alloc_new _ _
          have hc4 : Calm wq W4 := by rw [← hW4]; exact (Touch.refl _ _).alloc _
          have hfz := fun o => box_frozen hbx o
          have d0 : W4.cell? ⟨wq.heap.size, 0, none⟩ = some (int K) := box_cell hbx 0
          have d1 : W4.cell? ⟨wq.heap.size, 1, none⟩ = some (int C) := box_cell hbx 1
          have d2 : W4.cell? ⟨wq.heap.size, 2, none⟩ = some (int Z) := box_cell hbx 2
          have d3 : W4.cell? ⟨wq.heap.size, 3, none⟩ = some (int y0) := box_cell hbx 3
          have d4 : W4.cell? ⟨wq.heap.size, 4, none⟩ = some (int y1) := box_cell hbx 4
          have d5 : W4.cell? ⟨wq.heap.size, 5, none⟩ = some (int y2) := box_cell hbx 5
          have d6 : W4.cell? ⟨wq.heap.size, 6, none⟩ = some (.slice la ln lc) := box_cell hbx 6
          have HCS : Hid (∀ v, Calm wq (W4.setCell ⟨wq.heap.size, 0, none⟩ v)) := fun v => hc4.setCell (p := ⟨wq.heap.size, 0, none⟩) (fun h => absurd h (Nat.lt_irrefl _)) v
          have HFC := hide fC
          have HFZ := hide fZ
          have HJS := hide hjs
          clear k0 k1 k2 k3 k4 k5 k6 fK fC fZ cal hpk hp hbx hc4
          go_wp2_with fail
          refine (unhide HPK _).mono ?_
          rintro e w5 ⟨rfl, hw5⟩
          have hw5 := hw5.symm
          subst hw5
          clear c0 c1 c2 c3 c4 c5 c6 hW4
          have hp2 : p = 0 ∨ p = 1 := by omega
          rcases hp2 with rfl | rfl
          · go_wp2_with fail
            refine (actPub ((unhide HN4).calm (unhide HCS (int 3))) (unhide HF4) (unhide HB4) (unhide HA4) (by have := unhide HSN; have := unhide HE4; have := unhide HJS; omega) (unhide HFC) Z y0 y1 y2 la ln lc).mono ?_
            rintro e w6 ⟨rfl, κ6, ρ6, σ6, H6, E6, hN6, hF6, hB6, hE6, hO6⟩
            have REL : Hid (∃ κ' ρ' σ' H' E', HN w6 hb b κ' ρ' σ' H' ∧ FlowI (upTo x 4) (upTo fl 4) E' σ' ∧ Bks fl 0 E' σ' H' ∧ E'.length ≤ j + 1 ∧ Ow κ ρ κ' ρ' w1 w6) := ⟨κ6, ρ6, σ6, H6, E6, hN6, hF6, hB6, by have := unhide HE4; omega, ((unhide HO4).trans (Ow.calm (unhide HCS (int 3)))).trans hO6⟩
            clear hN6 hF6 hB6 hE6 hO6 d0 d1 d2 d3 d4 d5 d6
            go_wp2
            go_roundw
            case rel => exact ⟨rfl, j + 1, by omega, by go_num, unhide REL⟩
            case measure => simp [intOf]; omega
          · go_wp2_with fail
            refine (actDel (flowm_runs (upTo x 4) (upTo fl 4) E4 (fun c => (σ4.cl c).many) (by have := unhide HSN; have := unhide HE4; have := unhide HJS; omega)) ((unhide HN4).calm (unhide HCS (int 6))) ⟨unhide HF4, fun _ _ => rfl⟩ (unhide HFC) (unhide HFZ) y0 y1 y2 la ln lc).mono ?_
            rintro e w6 ⟨rfl, ρ6, σ6, hN6, hF6, hO6⟩
            have REL : Hid (∃ κ' ρ' σ' H' E', HN w6 hb b κ' ρ' σ' H' ∧ FlowI (upTo x 4) (upTo fl 4) E' σ' ∧ Bks fl 0 E' σ' H' ∧ E'.length ≤ j + 1 ∧ Ow κ ρ κ' ρ' w1 w6) := ⟨κ4, ρ6, σ6, H4, E4, hN6, hF6.1, (unhide HB4).same hF6.2, by have := unhide HE4; omega, ((unhide HO4).trans (Ow.calm (unhide HCS (int 6)))).trans hO6⟩
            clear hN6 hF6 hO6 d0 d1 d2 d3 d4 d5 d6
            go_wp2
            go_roundw
            case rel => exact ⟨rfl, j + 1, by omega, by go_num, unhide REL⟩
            case measure => simp [intOf]; omega
        · have hjs5 : j = sn := by omega
          subst hjs5
          have hE41 : E4.length + 1 < 2000000000000 := by have := unhide HSN; have := unhide HE4; omega
          have HE41 := hide hE41
          clear hE41
          go_wp2_with fail
          refine (quietX (flowm_runs (upTo x 4) (upTo fl 4) E4 (fun c => (σ4.cl c).many) (unhide HE41)) (unhide HN4) ⟨unhide HF4, fun _ _ => rfl⟩ (unhide HFRN) (by rw [(unhide HB4).evs, flat_len]; have := unhide HE41; omega)).mono ?_
          rintro e w6 ⟨rfl, ρ6, σ6, hN6, hF6, hq6, hO6⟩
          have HN6 := hide hN6
          have HF6 : Hid (FlowI (upTo x 4) (upTo fl 4) E4 σ6) := hF6.1
          have HQ6 := hide hq6
          have HO6 := hide ((unhide HO4).trans hO6)
          have HR6 := hide ((unhide HB4).known.same hF6.2).rd
          clear hN6 hF6 hq6 hO6 HN4 HF4 HO4 HCW4
          go_wp2_with fail
          go_loopw [10, 19] (fun o i wr => o = .bool true ∧ ∃ j : Nat, j ≤ 4 ∧ i = int j ∧ ∃ κ' τ H', HN wr hb b κ' ρ6 τ H' ∧ Rd E4 fl σ6 j τ H' ∧ Ow κ ρ κ' ρ6 w1 wr) (fun _ i _ => 4 - (intOf i).toNat)
          case atStart => exact ⟨rfl, 0, by omega, rfl, κ4, σ6, _, unhide HN6, unhide HR6, unhide HO6⟩
          case round =>
            obtain ⟨rfl, c, hc, rfl, κ7, τ, H7, hN7, hR7, hO7⟩ := hrel
            have HN7 := hide hN7
            have HR7 := hide hR7
            have HO7 := hide hO7
            clear hN7 hR7 hO7 HN6 HR6 HO6
            by_cases hc4 : c < 4
            · have hci : (c : Int) < 4 := by omega
              have hL := (unhide HF6).fl.told_len (upTo_some fl hc4)
              have hok := (unhide HF6).fl.toldOk (unhide HF6).tame.low (upTo_some fl hc4)
              have htd := (unhide HR7).todo c hc4 (Nat.le_refl _)
              have hevs := (unhide HR7).evs
              obtain ⟨z, hz⟩ : ∃ z : Nat, z = 2 * c := ⟨_, rfl⟩
              have hwk : IntKind.i64.wrap (2 * (c : Int)) = (z : Int) := by
                rw [show (z : Int) = 2 * (c : Int) by omega]
                simp [IntKind.wrap, IntKind.signed, IntKind.bits]
                omega
              have hz8 : (z : Int) < 8 := by omega
              have HZ := hide hz
              have HL := hide hL
              have HOK := hide hok
              have HTD := hide htd
              have HEV := hide hevs
              clear hz hL hok htd hevs
              go_wp2_with fail
              refine (readX (unhide HN7) hc4 ((σ6.cl c).told 0) (by rw [(unhide HR7).cls c hc4 (Nat.le_refl _)]; exact (unhide HF6).fl.log c (fl c) (upTo_some fl hc4)) (by rw [unhide HEV, flat_len]; have := unhide HE41; omega) (by have := unhide HE41; have := unhide HL; omega)
                (by rw [unhide HTD]) (by rw [unhide HTD]; exact unhide HFLG c) (by rw [unhide HTD]) (fun e he => ⟨by rw [unhide HEV]; exact stayOf_zero flat_stay (flat_mem ((unhide HOK).mem e he).1), by rw [unhide HTD]; exact ((unhide HOK).mem e he).2⟩) (unhide HOK).inc).mono ?_
              rintro e w8 ⟨rfl, κ8, hN8, hO8⟩
              have hR8 := (unhide HR7).step hc4
              have hlo := (hN8.h.subs z (by omega)).lost
              rw [hR8.lost z (by omega)] at hlo
              have HN8 := hide hN8
              have HR8 := hide hR8
              have HO8 := hide ((unhide HO7).trans hO8)
              clear hN8 hR8 hO8
              go_wp2
              go_roundw
              case rel => exact ⟨rfl, c + 1, by omega, by go_num, κ8, _, _, unhide HN8, unhide HR8, unhide HO8⟩
              case measure => simp [intOf]; omega
            · have hc5 : c = 4 := by omega
              subst hc5
              have HCE := hide (completeX (unhide HN7).h (by rw [(unhide HR7).evs, flat_len]; have := unhide HE41; omega) (unhide HR7).lost ((unhide HR7).full (unhide HF6) (unhide HQ6) (unhide HFLG) (by have := unhide HE41; omega)))
              go_wp2_with fail
              refine (unhide HCE).mono ?_
              rintro e w9 ⟨rfl, ht9⟩
              have HC9 := hide (((unhide HT1).fresh (unhide HO7).touch (unhide HLOW)).calm ht9)
              clear ht9
              go_wp2
              go_ret
              exact ⟨rfl, unhide HC9⟩

end Go.Proofs.Ytodfcpblcpogiaa

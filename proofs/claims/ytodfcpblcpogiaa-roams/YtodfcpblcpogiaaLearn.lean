/-
  A broker learns of a subscription.
-/
import Derived.Test.YtodfcpblcpogiaaSpr
namespace Go.Proofs.Ytodfcpblcpogiaa
open Go.RowKit

set_option maxRecDepth 100000 in
set_option maxHeartbeats 1000000 in
theorem learn_new (b o c k : Nat) (age way a0 a1 a2 a3 a4 a5 a6 a7 a8 a9 : Int) (w : World) (hc : c < 4) (hk : k < 2) (h : w.cell? ⟨b, o + c * 2 + k, none⟩ = some (.pointer none)) (hfr : w.frozen? ⟨b, o + c * 2 + k, none⟩ = false) :
    Calls Try.prog 95 #[.pointer (some ⟨b, o, none⟩), .agg #[int c, int k, int age, int a0, int a1, int a2, int a3, int a4, int a5, int a6, int a7, int a8, int a9], int way] w fun e w' => e = .returned (.tuple #[]) ∧
      ∃ v, w' = (((w.setCell ⟨b, o + c * 2 + k, none⟩ (ptr (w.heap.size + 1))).alloc (.cells v 121)).alloc (.cells #[int c, int k, int age, int a0, int a1, int a2, int a3, int a4, int a5, int a6, int a7, int a8, int a9, int way, .bool false, .slice none 0 0, int 0] 160)).drew.drew := by
  have hci : (c : Int) < 4 := by omega
  have hki : (k : Int) < 2 := by omega
  have hb := block_lt_of_cell h
  simp only at hb
  go_enter Try.func95, Try.ntmps95
  go_wp2
  go_region
  all_goals go_wp2
  all_goals go_region
  all_goals go_wp2
  all_goals go_end0
  all_goals exact ⟨rfl, _, rfl⟩

set_option maxRecDepth 100000 in
set_option maxHeartbeats 1000000 in
theorem learn_repl (b o c k kb : Nat) (age old way a0 a1 a2 a3 a4 a5 a6 a7 a8 a9 : Int) (w : World) (hc : c < 4) (hk : k < 2) (h : w.cell? ⟨b, o + c * 2 + k, none⟩ = some (ptr kb)) (hold : w.cell? ⟨kb, 2, none⟩ = some (int old)) (hlt : old < age) (hfr : w.frozen? ⟨b, o + c * 2 + k, none⟩ = false) :
    Calls Try.prog 95 #[.pointer (some ⟨b, o, none⟩), .agg #[int c, int k, int age, int a0, int a1, int a2, int a3, int a4, int a5, int a6, int a7, int a8, int a9], int way] w fun e w' => e = .returned (.tuple #[]) ∧
      ∃ v, w' = (((w.setCell ⟨b, o + c * 2 + k, none⟩ (ptr (w.heap.size + 1))).alloc (.cells v 121)).alloc (.cells #[int c, int k, int age, int a0, int a1, int a2, int a3, int a4, int a5, int a6, int a7, int a8, int a9, int way, .bool false, .slice none 0 0, int 0] 160)).drew.drew := by
  have hci : (c : Int) < 4 := by omega
  have hki : (k : Int) < 2 := by omega
  have hb := block_lt_of_cell h
  have hkb := block_lt_of_cell hold
  simp only at hb hkb
  go_enter Try.func95, Try.ntmps95
  go_wp2
  go_region
  all_goals go_wp2
  all_goals go_region
  all_goals go_wp2
  all_goals go_end0
  all_goals exact ⟨rfl, _, rfl⟩

set_option maxRecDepth 100000 in
set_option maxHeartbeats 1000000 in
theorem learn_old (b o c k kb : Nat) (age old way a0 a1 a2 a3 a4 a5 a6 a7 a8 a9 : Int) (w : World) (hc : c < 4) (hk : k < 2) (h : w.cell? ⟨b, o + c * 2 + k, none⟩ = some (ptr kb)) (hold : w.cell? ⟨kb, 2, none⟩ = some (int old)) (hle : age ≤ old) :
    Calls Try.prog 95 #[.pointer (some ⟨b, o, none⟩), .agg #[int c, int k, int age, int a0, int a1, int a2, int a3, int a4, int a5, int a6, int a7, int a8, int a9], int way] w fun e w' => e = .returned (.tuple #[]) ∧ Calm w w' := by
  have hci : (c : Int) < 4 := by omega
  have hki : (k : Int) < 2 := by omega
  have hb := block_lt_of_cell h
  have hkb := block_lt_of_cell hold
  simp only at hb hkb
  have hlt : ¬ old < age := by omega
  go_enter Try.func95, Try.ntmps95
  go_wp2
  go_region
  all_goals go_wp2
  all_goals go_region
  all_goals go_wp2
  all_goals go_end0
  all_goals exact ⟨rfl, (((Touch.refl _ _).alloc _).drew).drew⟩

/-- Something new in the place of what a broker knew. -/
theorem XN.know {w W : World} {b : Nat} {ρ : Nat → Option Role} {σ : Net} (h : XN w b ρ σ) {x c k kb : Nat} (hx : x < 6) (hc : c < 4) (hk : k < 2) {f : Fact} (hkept : f.kept = [])
    (hkb : w.heap.size ≤ kb) (hblk : W.heap[kb]? = some (.cells (encKn (2 * c + k) f (.slice none 0 0)).toArray 160)) (hcell : W.cell? ⟨b, 38 + x * 8 + c * 2 + k, none⟩ = some (ptr kb))
    (hoth : ∀ o v, o ≠ 38 + x * 8 + c * 2 + k → w.cell? ⟨b, o, none⟩ = some v → W.cell? ⟨b, o, none⟩ = some v) (htyp : ∃ cs, W.heap[b]? = some (.cells cs 111)) (hfr : ∀ o, W.frozen? ⟨b, o, none⟩ = false) (t : Touch (fun i => i = b) w W) :
    XN W b (roleAt ρ kb (.known x (2 * c + k))) (σ.know x (2 * c + k) (some f)) ∧ Mv (fun r => r = .net) ρ (roleAt ρ kb (.known x (2 * c + k))) w W := by
  have hrole : ∀ i, i < w.heap.size → roleAt ρ kb (.known x (2 * c + k)) i = ρ i := fun i hi => by unfold roleAt; rw [if_neg (by omega)]
  have hmv : Mv (fun r => r = .net) ρ (roleAt ρ kb (.known x (2 * c + k))) w W := by
    refine ⟨t.mono (fun i _ e => ⟨.net, by rw [e]; exact h.net, rfl⟩), fun i hi => Or.inl (hrole i hi), fun i hi => ?_⟩
    unfold roleAt at hi
    split at hi
    · rename_i e; rw [e]; exact (Array.getElem?_eq_some_iff.1 hblk).1
    · exact Nat.lt_of_lt_of_le (h.lt i hi) t.size
  refine ⟨h.step hmv (fun o => o = 38 + x * 8 + c * 2 + k) htyp hfr (fun o v ho => hoth o v ho) rfl rfl (by omega) (by omega) (by simp) (by simp) (by simp) (fun u v _ _ => Or.inl ⟨rfl, by omega, by simp⟩) (fun u d j hu hd hj => ?_) (fun d hd => Or.inl ⟨rfl, fun o _ _ => by omega, fun _ => by simp, by simp⟩), hmv⟩
  by_cases e : u = x ∧ 2 * d + j = 2 * c + k
  · right
    obtain ⟨rfl, e⟩ := e
    have : d = c := by omega
    have : j = k := by omega
    subst_vars
    refine ⟨_, hcell, ?_⟩
    simp only [Net.know, put2_same]
    unfold KnownAt
    refine ⟨kb, .slice none 0 0, rfl, by simp [roleAt], hblk, ⟨⟨by simp [hkept], Or.inl ⟨rfl, by simp [hkept]⟩⟩, fun g hg => (by cases hg)⟩⟩
  · left
    refine ⟨by simp only [Net.know, put2_other _ _ e], by omega, by simp, by simp⟩

theorem encKn_new (c k : Nat) (hk : k < 2) (age : Int) (fl : List Tst) (way : Option Nat) : (encKn (2 * c + k) ⟨age, fl, way, [], 0, false⟩ (.slice none 0 0)).toArray = #[int c, int k, int age, int (tstAt fl 0).fld, int (tstAt fl 0).op, int (tstAt fl 0).n, int (tstAt fl 1).fld, int (tstAt fl 1).op, int (tstAt fl 1).n, int (tstAt fl 2).fld, int (tstAt fl 2).op, int (tstAt fl 2).n, int fl.length, int (whr way), .bool false, .slice none 0 0, int 0] := by
  have h1 : (2 * c + k) / 2 = c := by omega
  have h2 : (2 * c + k) % 2 = k := by omega
  simp only [encKn, h1, h2]
  rfl

/-- The subscription of a frame. -/
def subV (c k : Nat) (age : Int) (fl : List Tst) : Value := .agg #[int c, int k, int age, int (tstAt fl 0).fld, int (tstAt fl 0).op, int (tstAt fl 0).n, int (tstAt fl 1).fld, int (tstAt fl 1).op, int (tstAt fl 1).n, int (tstAt fl 2).fld, int (tstAt fl 2).op, int (tstAt fl 2).n, int fl.length]

/-- A broker knows something new: a pointer in the net, and a block. -/
theorem XN.knowNew {w : World} {b : Nat} {ρ : Nat → Option Role} {σ : Net} (h : XN w b ρ σ) {x c k : Nat} (hx : x < 6) (hc : c < 4) (hk : k < 2) {f : Fact} (hkept : f.kept = []) (u : Array Value) :
    ∃ ρ', XN ((((w.setCell ⟨b, 38 + x * 8 + c * 2 + k, none⟩ (ptr (w.heap.size + 1))).alloc (.cells u 121)).alloc (.cells (encKn (2 * c + k) f (.slice none 0 0)).toArray 160)).drew.drew) b ρ' (σ.know x (2 * c + k) (some f)) ∧ Mv (fun r => r = .net) ρ ρ' w ((((w.setCell ⟨b, 38 + x * 8 + c * 2 + k, none⟩ (ptr (w.heap.size + 1))).alloc (.cells u 121)).alloc (.cells (encKn (2 * c + k) f (.slice none 0 0)).toArray 160)).drew.drew) := by
  obtain ⟨v, hv1, _⟩ := h.known x c k hx hc hk
  have hb := h.lt b (by rw [h.net]; simp)
  have ht : Touch (fun i => i = b) w ((((w.setCell ⟨b, 38 + x * 8 + c * 2 + k, none⟩ (ptr (w.heap.size + 1))).alloc (.cells u 121)).alloc (.cells (encKn (2 * c + k) f (.slice none 0 0)).toArray 160)).drew.drew) :=
    (((((Touch.refl (fun i => i = b) w).setCell (p := ⟨b, 38 + x * 8 + c * 2 + k, none⟩) (fun _ => rfl) _).alloc _).alloc _).drew).drew
  obtain ⟨W, hW⟩ : ∃ W, W = ((((w.setCell ⟨b, 38 + x * 8 + c * 2 + k, none⟩ (ptr (w.heap.size + 1))).alloc (.cells u 121)).alloc (.cells (encKn (2 * c + k) f (.slice none 0 0)).toArray 160)).drew.drew) := ⟨_, rfl⟩
  have hbk : W.heap[b]? = (w.setCell ⟨b, 38 + x * 8 + c * 2 + k, none⟩ (ptr (w.heap.size + 1))).heap[b]? := by
    rw [hW]
    exact (Below.heap_alloc _ _ _ (by simp [World.setCell]; omega)).trans (Below.heap_alloc _ _ _ (by simpa [World.setCell] using hb))
  rw [← hW] at ht ⊢
  obtain ⟨r1, r2⟩ := h.know (kb := w.heap.size + 1) (W := W) hx hc hk (f := f) hkept (by omega) (by
      rw [hW]
      have := heap_alloc_new ((w.setCell ⟨b, 38 + x * 8 + c * 2 + k, none⟩ (ptr (w.heap.size + 1))).alloc (.cells u 121)) (.cells (encKn (2 * c + k) f (.slice none 0 0)).toArray 160)
      simpa [World.setCell, World.drew] using this)
    (cell_of_heap hbk (World.cell?_setCell_same w _ _ hv1)) (fun o v ho hv => cell_of_heap hbk (cell_setCell_ne w ho hv)) (by rw [hbk]; exact typ_setCell h.typ _ _)
    (fun o => (World.frozen?_of_block (w := w.setCell ⟨b, 38 + x * 8 + c * 2 + k, none⟩ (ptr (w.heap.size + 1))) (a := ⟨b, o, none⟩) hbk).trans (frozen_setCell _ _ _ _ _ (h.fr o))) ht
  exact ⟨_, r1, r2⟩

/-- LEARN. -/
theorem learnX {w : World} {b : Nat} {ρ : Nat → Option Role} {σ : Net} (h : XN w b ρ σ) {x c k : Nat} (hx : x < 6) (hc : c < 4) (hk : k < 2) (age : Int) (fl : List Tst) (way : Option Nat) :
    Calls Try.prog 95 #[.pointer (some ⟨b, 38 + x * 8, none⟩), subV c k age fl, int (whr way)] w fun e w' => e = .returned (.tuple #[]) ∧ ∃ ρ', XN w' b ρ' (σ.learn x (2 * c + k) age fl way) ∧ Mv (fun r => r = .net) ρ ρ' w w' := by
  obtain ⟨v, hv1, hv2⟩ := h.known x c k hx hc hk
  cases hkn : σ.kn x (2 * c + k) with
  | none =>
    rw [hkn] at hv2
    have hv2 : v = .pointer none := hv2
    subst hv2
    refine (learn_new b (38 + x * 8) c k age (whr way) _ _ _ _ _ _ _ _ _ _ w hc hk hv1 (h.fr _)).mono ?_
    rintro e w' ⟨rfl, u, rfl⟩
    have hl : σ.learn x (2 * c + k) age fl way = σ.know x (2 * c + k) (some ⟨age, fl, way, [], 0, false⟩) := by unfold Net.learn; rw [hkn]
    rw [hl]
    have := h.knowNew hx hc hk (f := ⟨age, fl, way, [], 0, false⟩) rfl u
    rw [encKn_new c k hk] at this
    exact ⟨rfl, this⟩
  | some f =>
    rw [hkn] at hv2
    obtain ⟨kb, kv, rfl, hr, hblk, _⟩ := hv2
    have hcell : w.cell? ⟨kb, 2, none⟩ = some (int f.age) := by rw [box_cell hblk]; rfl
    by_cases hlt : f.age < age
    · refine (learn_repl b (38 + x * 8) c k kb age f.age (whr way) _ _ _ _ _ _ _ _ _ _ w hc hk hv1 hcell hlt (h.fr _)).mono ?_
      rintro e w' ⟨rfl, u, rfl⟩
      have hl : σ.learn x (2 * c + k) age fl way = σ.know x (2 * c + k) (some ⟨age, fl, way, [], 0, false⟩) := by unfold Net.learn; rw [hkn]; simp only; rw [if_pos hlt]
      rw [hl]
      have := h.knowNew hx hc hk (f := ⟨age, fl, way, [], 0, false⟩) rfl u
      rw [encKn_new c k hk] at this
      exact ⟨rfl, this⟩
    · refine (learn_old b (38 + x * 8) c k kb age f.age (whr way) _ _ _ _ _ _ _ _ _ _ w hc hk hv1 hcell (by omega)).mono ?_
      rintro e w' ⟨rfl, ht⟩
      have hl : σ.learn x (2 * c + k) age fl way = σ := by unfold Net.learn; rw [hkn]; simp only; rw [if_neg hlt]
      rw [hl]
      exact ⟨rfl, ρ, h.calm ht, h.mvCalm ht⟩

/-! ### what is forgotten -/
theorem XN.unknow {w : World} {b : Nat} {ρ : Nat → Option Role} {σ : Net} (h : XN w b ρ σ) {x c k : Nat} (hx : x < 6) (hc : c < 4) (hk : k < 2) :
    XN (w.setCell ⟨b, 38 + x * 8 + c * 2 + k, none⟩ (.pointer none)) b ρ (σ.know x (2 * c + k) none) ∧ Mv (fun r => r = .net) ρ ρ w (w.setCell ⟨b, 38 + x * 8 + c * 2 + k, none⟩ (.pointer none)) := by
  obtain ⟨v, hv1, _⟩ := h.known x c k hx hc hk
  have hmv : Mv (fun r => r = .net) ρ ρ w (w.setCell ⟨b, 38 + x * 8 + c * 2 + k, none⟩ (.pointer none)) := Mv.setCell (S := fun r => r = .net) h.lt h.net rfl _ _
  refine ⟨h.step hmv (fun o => o = 38 + x * 8 + c * 2 + k) (typ_setCell h.typ _ _) (fun o => frozen_setCell _ _ _ _ _ (h.fr o)) (fun o v ho hv => cell_setCell_ne w ho hv) rfl rfl (by omega) (by omega) (by simp) (by simp) (by simp) (fun u v _ _ => Or.inl ⟨rfl, by omega, by simp⟩) (fun u d j hu hd hj => ?_) (fun d hd => Or.inl ⟨rfl, fun o _ _ => by omega, fun _ => by simp, by simp⟩), hmv⟩
  by_cases e : u = x ∧ 2 * d + j = 2 * c + k
  · right
    obtain ⟨rfl, e⟩ := e
    have : d = c := by omega
    have : j = k := by omega
    subst_vars
    refine ⟨_, World.cell?_setCell_same w _ _ hv1, ?_⟩
    simp only [Net.know, put2_same]
    rfl
  · left
    exact ⟨by simp only [Net.know, put2_other _ _ e], by omega, by simp, by simp⟩

set_option maxRecDepth 100000 in
set_option maxHeartbeats 1000000 in
theorem forget_none (b o c k : Nat) (age a0 a1 a2 a3 a4 a5 a6 a7 a8 a9 : Int) (w : World) (hc : c < 4) (hk : k < 2) (h : w.cell? ⟨b, o + c * 2 + k, none⟩ = some (.pointer none)) :
    Calls Try.prog 97 #[.pointer (some ⟨b, o, none⟩), .agg #[int c, int k, int age, int a0, int a1, int a2, int a3, int a4, int a5, int a6, int a7, int a8, int a9]] w fun e w' => e = .returned (.tuple #[]) ∧ Calm w w' := by
  have hci : (c : Int) < 4 := by omega
  have hki : (k : Int) < 2 := by omega
  have hb := block_lt_of_cell h
  simp only at hb
  go_enter Try.func97, Try.ntmps97
  go_wp2
  go_region
  all_goals go_wp2
  all_goals go_region
  all_goals go_wp2
  all_goals go_end0
  all_goals exact ⟨rfl, (((Touch.refl _ _).alloc _).drew).drew⟩

set_option maxRecDepth 100000 in
set_option maxHeartbeats 1000000 in
theorem forget_some (b o c k kb : Nat) (age old a0 a1 a2 a3 a4 a5 a6 a7 a8 a9 : Int) (w : World) (hc : c < 4) (hk : k < 2) (h : w.cell? ⟨b, o + c * 2 + k, none⟩ = some (ptr kb)) (hold : w.cell? ⟨kb, 2, none⟩ = some (int old)) (hfr : w.frozen? ⟨b, o + c * 2 + k, none⟩ = false) :
    Calls Try.prog 97 #[.pointer (some ⟨b, o, none⟩), .agg #[int c, int k, int age, int a0, int a1, int a2, int a3, int a4, int a5, int a6, int a7, int a8, int a9]] w fun e w' => e = .returned (.tuple #[]) ∧
      ((old ≤ age ∧ Calm (w.setCell ⟨b, o + c * 2 + k, none⟩ (.pointer none)) w') ∨ (age < old ∧ Calm w w')) := by
  have hci : (c : Int) < 4 := by omega
  have hki : (k : Int) < 2 := by omega
  have hb := block_lt_of_cell h
  have hkb := block_lt_of_cell hold
  simp only at hb hkb
  by_cases hle : old ≤ age
  · go_enter Try.func97, Try.ntmps97
    go_wp2
    go_region
    all_goals go_wp2
    all_goals go_region
    all_goals go_wp2
    all_goals go_end0
    all_goals exact ⟨rfl, Or.inl ⟨hle, (((Touch.refl _ _).alloc _).drew).drew⟩⟩
  · go_enter Try.func97, Try.ntmps97
    go_wp2
    go_region
    all_goals go_wp2
    all_goals go_region
    all_goals go_wp2
    all_goals go_end0
    all_goals exact ⟨rfl, Or.inr ⟨by omega, (((Touch.refl _ _).alloc _).drew).drew⟩⟩

/-- FORGET. -/
theorem forgetX {w : World} {b : Nat} {ρ : Nat → Option Role} {σ : Net} (h : XN w b ρ σ) {x c k : Nat} (hx : x < 6) (hc : c < 4) (hk : k < 2) (age : Int) :
    Calls Try.prog 97 #[.pointer (some ⟨b, 38 + x * 8, none⟩), subV c k age []] w fun e w' => e = .returned (.tuple #[]) ∧ XN w' b ρ (σ.forget x (2 * c + k) age) ∧ Mv (fun r => r = .net) ρ ρ w w' := by
  obtain ⟨v, hv1, hv2⟩ := h.known x c k hx hc hk
  cases hkn : σ.kn x (2 * c + k) with
  | none =>
    rw [hkn] at hv2
    have hv2 : v = .pointer none := hv2
    subst hv2
    refine (forget_none b (38 + x * 8) c k age _ _ _ _ _ _ _ _ _ _ w hc hk hv1).mono ?_
    rintro e w' ⟨rfl, ht⟩
    have hl : σ.forget x (2 * c + k) age = σ := by unfold Net.forget; rw [hkn]
    rw [hl]
    exact ⟨rfl, h.calm ht, h.mvCalm ht⟩
  | some f =>
    rw [hkn] at hv2
    obtain ⟨kb, kv, rfl, hr, hblk, _⟩ := hv2
    have hcell : w.cell? ⟨kb, 2, none⟩ = some (int f.age) := by rw [box_cell hblk]; rfl
    refine (forget_some b (38 + x * 8) c k kb age f.age _ _ _ _ _ _ _ _ _ _ w hc hk hv1 hcell (h.fr _)).mono ?_
    rintro e w' ⟨rfl, ⟨hle, ht⟩ | ⟨hlt, ht⟩⟩
    · have hl : σ.forget x (2 * c + k) age = σ.know x (2 * c + k) none := by unfold Net.forget; rw [hkn]; simp only; rw [if_pos hle]
      rw [hl]
      obtain ⟨r1, r2⟩ := h.unknow hx hc hk
      exact ⟨rfl, r1.calm ht, r2.trans (r1.mvCalm ht)⟩
    · have hl : σ.forget x (2 * c + k) age = σ := by unfold Net.forget; rw [hkn]; simp only; rw [if_neg (by omega)]
      rw [hl]
      exact ⟨rfl, h.calm ht, h.mvCalm ht⟩

end Go.Proofs.Ytodfcpblcpogiaa

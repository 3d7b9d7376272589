/-
  Neighbours; a frame to all of them.
-/
import Derived.Test.YtodfcpblcpogiaaXtell
namespace Go.Proofs.Ytodfcpblcpogiaa
open Go.RowKit

/-- The parents behind a slice's head. -/
def ParAt (w : World) (a : Option Addr) (par : List Nat) : Prop := par = [] ∨ ∃ tb o, a = some ⟨tb, o, none⟩ ∧ ∀ j, j < par.length → w.cell? ⟨tb, o + j, none⟩ = some (int (par.getD j 0 : Nat))

theorem ParAt.calm {w w' : World} {a : Option Addr} {par : List Nat} (h : ParAt w a par) (t : Calm w w') : ParAt w' a par := by
  rcases h with h | ⟨tb, o, rfl, h⟩
  · exact Or.inl h
  · exact Or.inr ⟨tb, o, rfl, fun j hj => t.cell (p := ⟨tb, o + j, none⟩) (fun f => f) (h j hj)⟩

theorem XN.par {w : World} {b : Nat} {ρ : Nat → Option Role} {σ : Net} (h : XN w b ρ σ) : ∃ a cap, w.cell? ⟨b, 1, none⟩ = some (.slice a σ.par.length cap) ∧ ParAt w a σ.par := by
  obtain ⟨a, cap, h1, h2⟩ := h.tree
  exact ⟨a, cap, h1, h2.imp id (fun ⟨tb, o, e1, _, e3⟩ => ⟨tb, o, e1, e3⟩)⟩

set_option maxRecDepth 100000 in
set_option maxHeartbeats 400000 in
theorem parent_any (a : Option Addr) (cap : Nat) (par : List Nat) (c : Nat) (w : World) (hn : par.length ≤ 5) (h0 : 0 < c) (hc : c ≤ par.length) (h : ParAt w a par) :
    Calls Try.prog 102 #[.agg #[.slice a par.length cap], int c] w fun e w' => e = .returned (int (up par c : Nat)) ∧ Calm w w' := by
  rcases h with h | ⟨b, o, rfl, h⟩
  · simp [h] at hc; omega
  · have hcell := h (c - 1) (by omega)
    have hc1 : ((c : Int) - 1).toNat = c - 1 := by omega
    have hlt := block_lt_of_cell hcell
    simp only at hlt
    clear h
    go_enter Try.func102, Try.ntmps102
    go_wp2
    go_ret
    exact ⟨rfl, (Touch.refl _ _).alloc _⟩

set_option maxRecDepth 100000 in
set_option maxHeartbeats 400000 in
theorem isParent_any (a : Option Addr) (cap : Nat) (par : List Nat) (p c : Nat) (w : World) (hn : par.length ≤ 5) (h : ParAt w a par) :
    Calls Try.prog 88 #[.agg #[.slice a par.length cap], int p, int c] w fun e w' => e = .returned (.bool (isPar par p c)) ∧ Calm w w' := by
  by_cases hc0 : 0 < c
  · by_cases hcn : c ≤ par.length
    · have hh : hasB par.length c = true := by simp [hasB]; omega
      have HC := hide h
      clear h
      go_enter Try.func88, Try.ntmps88
      go_wp2_with fail
      refine (has_any _ _ _ _ _ hn).mono ?_
      rintro e w1 ⟨rfl, ht1⟩
      have hbx := ht1.box (fun f => f)
      have e0 : w1.cell? ⟨w.heap.size, 0, none⟩ = some (.slice a par.length cap) := box_cell hbx 0
      have HC1 := hide ((unhide HC).calm (((Touch.refl (fun _ => False) w).alloc _).calm ht1))
      clear hbx HC
      go_wp2_with (go_at_call 102; refine (parent_any a cap par c _ hn hc0 hcn ?_).mono ?_; exact unhide HC1; rintro e w2 ⟨rfl, ht2⟩)
      go_ret
      refine ⟨?_, (((Touch.refl _ _).alloc _).calm ht1).calm ht2⟩
      have : ((up par c : Nat) : Int) = p ↔ up par c = p := by omega
      have hs : c < size par := by simp only [size]; omega
      simp only [isPar, hc0, hs, true_and]
      rw [beq_dec]
      exact congrArg _ (congrArg _ (decide_eq_decide.2 this))
    · have hh : hasB par.length c = false := by simp [hasB]; omega
      clear h
      go_enter Try.func88, Try.ntmps88
      go_wp2_with (go_at_call 37; refine (has_any _ _ _ _ _ hn).mono ?_; rintro e w1 ⟨rfl, hb1⟩)
      go_ret
      exact ⟨by rw [show isPar par p c = false from decide_eq_false (by simp only [size]; omega)]; rfl, ((Touch.refl _ _).alloc _).calm hb1⟩
  · clear h
    go_enter Try.func88, Try.ntmps88
    go_wp2
    go_ret
    exact ⟨by rw [show isPar par p c = false from decide_eq_false (by omega)]; rfl, (Touch.refl _ _).alloc _⟩

set_option maxRecDepth 100000 in
set_option maxHeartbeats 400000 in
theorem neighbours_any (a : Option Addr) (cap : Nat) (par : List Nat) (x y : Nat) (w : World) (hn : par.length ≤ 5) (h : ParAt w a par) :
    Calls Try.prog 62 #[.agg #[.slice a par.length cap], int x, int y] w fun e w' => e = .returned (.bool (near par x y)) ∧ Calm w w' := by
  have H := hide h
  clear h
  go_enter Try.func62, Try.ntmps62
  go_wp2_with fail
  refine (isParent_any a cap par x y _ hn ((unhide H).calm ((Touch.refl _ _).alloc _))).mono ?_
  rintro e w1 ⟨rfl, ht1⟩
  have hbx := ht1.box (fun f => f)
  have e0 : w1.cell? ⟨w.heap.size, 0, none⟩ = some (.slice a par.length cap) := box_cell hbx 0
  have H1 := hide ((unhide H).calm (((Touch.refl _ _).alloc _).calm ht1))
  clear hbx
  cases hr : isPar par x y with
  | true =>
    go_wp2
    go_ret
    exact ⟨by simp [near, hr], ((Touch.refl _ _).alloc _).calm ht1⟩
  | false =>
    go_wp2_with fail
    refine (isParent_any a cap par y x _ hn (unhide H1)).mono ?_
    rintro e w2 ⟨rfl, ht2⟩
    go_wp2
    go_ret
    exact ⟨by simp [near, hr], (((Touch.refl _ _).alloc _).calm ht1).calm ht2⟩

theorem FrAt.mv {S : Role → Prop} {w w' : World} {ρ ρ' : Nat → Option Role} {f : Fr} {fb : Nat} (h : FrAt w ρ f fb) (hl : ∀ k, ρ k ≠ none → k < w.heap.size) (m : Mv S ρ ρ' w w') (h1 : ¬ S .frame) (h2 : ¬ S .rest) : FrAt w' ρ' f fb :=
  h.keep (fun _ hk => hk.elim (fun e => m.keeps hl e h1) (fun e => m.keeps hl e h2))

/-! ### one frame into a link -/
theorem heap_setChan_other (w : World) {r k : Nat} (cap : Nat) (buf : Array Value) (cl : Bool) (s t : Nat) (tm : Bool) (h : k ≠ r) : (w.setChan r cap buf cl s t tm).heap[k]? = w.heap[k]? := by
  simp only [World.setChan]; rw [Array.getElem?_setIfInBounds_ne (Ne.symm h)]

theorem Mv.setChan {S : Role → Prop} {ρ : Nat → Option Role} {w : World} (hl : ∀ k, ρ k ≠ none → k < w.heap.size) {r : Nat} {o : Role} (hr : ρ r = some o) (hS : S o) (cap : Nat) (buf : Array Value) (cl : Bool) (s t : Nat) (tm : Bool) : Mv S ρ ρ w (w.setChan r cap buf cl s t tm) :=
  ⟨(Touch.refl _ w).setChan (fun _ => ⟨o, hr, hS⟩) cap buf cl s t tm, fun _ _ => Or.inl rfl, fun k hk => by simpa [World.setChan] using hl k hk⟩

theorem FramesAt.push {w : World} {ρ : Nat → Option Role} {vs : List Value} {l : List Fr} {f : Fr} {fb : Nat} (h : FramesAt w ρ vs l) (hf : FrAt w ρ f fb) : FramesAt w ρ (vs ++ [ptr fb]) (l ++ [f]) := by
  refine ⟨by simp [h.1], fun i g hg => ?_⟩
  by_cases hi : i < l.length
  · rw [List.getElem?_append_left hi] at hg
    rw [List.getElem?_append_left (by rw [h.1]; exact hi)]
    exact h.2 i g hg
  · rw [List.getElem?_append_right (by omega)] at hg
    rw [List.getElem?_append_right (by rw [h.1]; omega), h.1]
    by_cases e : i - l.length = 0
    · rw [e] at hg ⊢
      simp only [List.getElem?_cons_zero, Option.some.injEq] at hg
      subst hg
      exact ⟨fb, rfl, hf⟩
    · rw [List.getElem?_eq_none (by simp; omega)] at hg; cases hg

/-- A link turns. -/
theorem XN.setLink {w : World} {b : Nat} {ρ : Nat → Option Role} {σ : Net} (h : XN w b ρ σ) {x y r : Nat} (hx : x < 6) (hy : y < 6) (hr : ρ r = some (.chan x y)) (hv : w.cell? ⟨b, 2 + x * 6 + y, none⟩ = some (.chan (some r))) (hn : near σ.par x y = true)
    {buf : Array Value} {s t : Nat} {l : List Fr} (hf : FramesAt w ρ buf.toList l) :
    XN (w.setChan r 2000 buf false s t false) b ρ { σ with q := put2 σ.q x y l } := by
  have hrl := h.lt r (by rw [hr]; simp)
  have hrb : b ≠ r := fun e => by subst e; rw [h.net] at hr; cases hr
  have hbk : (w.setChan r 2000 buf false s t false).heap[b]? = w.heap[b]? := heap_setChan_other w _ _ _ _ _ _ hrb
  refine h.step (Mv.setChan (S := fun o => o = .chan x y) h.lt hr rfl _ _ _ _ _ _) (fun _ => False) (by rw [hbk]; exact h.typ) (fun o => (World.frozen?_of_block (w := w) (a := ⟨b, o, none⟩) hbk).trans (h.fr o)) (fun o v _ hc => cell_of_heap hbk hc) rfl rfl id id (by simp) (by simp) (by simp)
    (fun u v hu hv' => ?_) (fun u c k _ _ _ => Or.inl ⟨rfl, id, by simp, by simp⟩) (fun c _ => Or.inl ⟨rfl, fun _ _ _ => id, fun _ => by simp, by simp⟩)
  by_cases e : u = x ∧ v = y
  · right
    obtain ⟨rfl, rfl⟩ := e
    refine ⟨_, cell_of_heap hbk hv, ?_⟩
    simp only [put2_same]
    unfold LinkAt
    rw [if_pos hn]
    exact ⟨r, buf, s, t, rfl, hr, Go.Conc.heap_setChan w r _ _ _ _ _ _ hrl, hf.keep (fun k hk => ⟨heap_setChan_other w _ _ _ _ _ _ (fun e => by subst e; rcases hk with hk | hk <;> (rw [hk] at hr; cases hr)), rfl⟩)⟩
  · left
    refine ⟨by simp only [put2_other _ _ e], id, ?_⟩
    intro e2
    simp only [Role.chan.injEq] at e2
    exact e e2

/-- SEND. -/
theorem sendX {w : World} {b : Nat} {ρ : Nat → Option Role} {σ : Net} (h : XN w b ρ σ) {x y : Nat} (hx : x < 6) (hy : y < 6) (hn : near σ.par x y = true) (hlen : (σ.q x y).length < 2000)
    {f : Fr} {fb : Nat} (hf : FrAt w ρ f fb) :
    Calls Try.prog 93 #[.pointer (some ⟨b, 2, none⟩), int x, int y, ptr fb] w fun e w' => e = .returned (.tuple #[]) ∧ XN w' b ρ (σ.push x y f) ∧ Mv (fun o => o = .chan x y) ρ ρ w w' := by
  obtain ⟨v, h1, h2⟩ := h.link x y hx hy
  unfold LinkAt at h2
  rw [if_pos hn] at h2
  obtain ⟨r, buf, s, t, rfl, hrr, hch, hfr⟩ := h2
  have hsz : buf.size = (σ.q x y).length := by rw [← hfr.1]; simp
  refine (send_any b r 2000 s t x y buf (ptr fb) w hx hy h1 hch (by omega)).mono ?_
  rintro e w' ⟨rfl, rfl⟩
  refine ⟨rfl, ?_, Mv.setChan (S := fun o => o = .chan x y) h.lt hrr rfl _ _ _ _ _ _⟩
  exact h.setLink hx hy hrr h1 hn (by
    have := hfr.push hf
    simpa using this)

/-- TAKE: the first frame. -/
theorem takeX {w : World} {b : Nat} {ρ : Nat → Option Role} {σ : Net} (h : XN w b ρ σ) {x y : Nat} (hx : x < 6) (hy : y < 6) (hn : near σ.par x y = true) {f : Fr} {l : List Fr} (hq : σ.q x y = f :: l) :
    Calls Try.prog 63 #[.pointer (some ⟨b, 2, none⟩), int x, int y] w fun e w' => ∃ fb, e = .returned (.tuple #[ptr fb, .bool true]) ∧ XN w' b ρ { σ with q := put2 σ.q x y l } ∧ Mv (fun o => o = .chan x y) ρ ρ w w' ∧ FrAt w' ρ f fb := by
  obtain ⟨v, h1, h2⟩ := h.link x y hx hy
  unfold LinkAt at h2
  rw [if_pos hn] at h2
  obtain ⟨r, buf, s, t, rfl, hrr, hch, hfr⟩ := h2
  have hsz : buf.size = l.length + 1 := by have := hfr.1; rw [hq] at this; simpa using this
  obtain ⟨fb, e1, e2⟩ := hfr.2 0 f (by rw [hq]; rfl)
  have hget : buf.getD 0 undef = ptr fb := by
    have : buf[0]? = some (ptr fb) := by simpa using e1
    simp [this]
  refine (take_some b r 2000 s t x y buf w hx hy h1 hch (by omega)).mono ?_
  rintro e w' ⟨rfl, rfl⟩
  refine ⟨fb, by rw [hget], ?_, Mv.setChan (S := fun o => o = .chan x y) h.lt hrr rfl _ _ _ _ _ _, e2.keep (fun k hk => ⟨heap_setChan_other w _ _ _ _ _ _ (fun e => by subst e; rcases hk with hk | hk <;> (rw [hk] at hrr; cases hrr)), rfl⟩)⟩
  refine h.setLink hx hy hrr h1 hn ⟨by simp; omega, fun i g hg => ?_⟩
  obtain ⟨fb', g1, g2⟩ := hfr.2 (i + 1) g (by rw [hq]; simpa using hg)
  refine ⟨fb', ?_, g2⟩
  have g1' : buf[i + 1]? = some (ptr fb') := by simpa using g1
  have : (buf.extract 1 buf.size).toList[i]? = buf[i + 1]? := by
    rw [Array.getElem?_toList, Array.getElem?_extract]
    have hi : i + 1 < buf.size := (Array.getElem?_eq_some_iff.1 g1').1
    rw [if_pos (by omega), Nat.add_comm]
  rw [this]; exact g1'

end Go.Proofs.Ytodfcpblcpogiaa

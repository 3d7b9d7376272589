/-
  A client comes to another broker: its subscriptions move.
-/
import Derived.Test.YtodfcpblcpogiaaSpr
import Derived.Test.YtodfcpblcpogiaaSub
import Derived.Deep.RegionHeld3
import Derived.Test.YtodfcpblcpogiaaCli
namespace Go.Proofs.Ytodfcpblcpogiaa
open Go.RowKit

theorem up_lt {par : List Nat} (T : Tree par) {b : Nat} (h0 : 0 < b) (hb : b < size par) : up par b < b := by
  have h1 := T.2 (b - 1) (by simp only [size] at hb; omega)
  have h2 : up par b = par.getD (b - 1) 0 := rfl
  rw [h2]
  omega
/-- From a broker that is not below x, none of x's children is met. -/
theorem climb_low {par : List Nat} (T : Tree par) {x : Nat} : ∀ (f b : Nat), b < size par → b ≤ x → climb par f b x = none
  | 0, _, _, _ => rfl
  | f + 1, b, hb, hle => by
    unfold climb
    by_cases h0 : b = 0
    · rw [if_pos h0]
    · rw [if_neg h0]
      have hu := up_lt T (by omega) hb
      rw [if_neg (by omega)]
      exact climb_low T f (up par b) (by omega) (by omega)

/-- Where the loop stands. -/
structure Climbs (par : List Nat) (x h b : Nat) : Prop where
  lt : b < size par
  same : ∃ f, climb par 6 h x = climb par f b x ∧ b < f
  pos : x = 0 → 0 < b

theorem Climbs.start {par : List Nat} (T : Tree par) {x h : Nat} (hh : h < size par) (hne : x ≠ h) : Climbs par x h h :=
  ⟨hh, ⟨6, rfl, Nat.lt_of_lt_of_le hh (size_le T)⟩, fun e => by omega⟩
theorem Climbs.on {par : List Nat} (T : Tree par) {x h b : Nat} (c : Climbs par x h b) (hb : x < b) (hu : up par b ≠ x) : Climbs par x h (up par b) := by
  have hl := up_lt T (by omega : 0 < b) c.lt
  obtain ⟨f, h1, h2⟩ := c.same
  refine ⟨by have := c.lt; omega, ?_, fun e => by omega⟩
  cases f with
  | zero => omega
  | succ f =>
    refine ⟨f, ?_, by omega⟩
    rw [h1]
    conv => lhs; unfold climb
    rw [if_neg (by omega), if_neg hu]
theorem Climbs.found {par : List Nat} {x h b : Nat} (c : Climbs par x h b) (hb : x < b) (hu : up par b = x) : next par x h = b := by
  obtain ⟨f, h1, h2⟩ := c.same
  unfold next
  rw [h1]
  cases f with
  | zero => omega
  | succ f =>
    have : climb par (f + 1) b x = some b := by
      unfold climb
      rw [if_neg (by omega), if_pos hu]
    rw [this]
theorem Climbs.away {par : List Nat} (T : Tree par) {x h b : Nat} (c : Climbs par x h b) (hb : b ≤ x) : next par x h = up par x ∧ 0 < x := by
  obtain ⟨f, h1, h2⟩ := c.same
  unfold next
  rw [h1, climb_low T f b c.lt hb]
  exact ⟨rfl, by have := c.pos; omega⟩

set_option maxRecDepth 100000 in
set_option maxHeartbeats 1000000 in
theorem next_any (a : Option Addr) (cap : Nat) (par : List Nat) (x h : Nat) (w : World) (T : Tree par) (hx : x < size par) (hh : h < size par) (hne : x ≠ h) (hp : ParAt w a par) :
    Calls Try.prog 94 #[.agg #[.slice a par.length cap], int x, int h] w fun e w' => e = .returned (int (next par x h : Nat)) ∧ Calm w w' := by
  have h5 := T.1
  have hst := Climbs.start T hh hne
  have HP := hide hp
  have HS := hide hst
  clear hp hst
  go_enter Try.func94, Try.ntmps94
  go_wp2
  obtain ⟨W, hW⟩ : ∃ W, w.alloc (.cells #[.slice a par.length cap] 88) = W := ⟨_, rfl⟩
  rw [hW]
  have hcal : Calm w W := by rw [← hW]; exact (Touch.refl _ _).alloc _
  have hbx : W.heap[w.heap.size]? = some (.cells #[.slice a par.length cap] 88) := by rw [← hW]; exact heap_alloc_new w _
  have HPW := hide ((unhide HP).calm hcal)
  have HCAL := hide hcal
  have HBX := hide hbx
  clear hW hcal hbx HP
  go_loopw [7] (fun p wr => ∃ b : Nat, p = int b ∧ Climbs par x h b ∧ Calm W wr) (fun p _ => (intOf p).toNat)
  case atStart => exact ⟨h, rfl, unhide HS, Touch.refl _ _⟩
  case round =>
    obtain ⟨b, rfl, hC, ht⟩ := hrel
    have hpar := (unhide HPW).calm ht
    have e0 : wr.cell? ⟨w.heap.size, 0, none⟩ = some (.slice a par.length cap) := box_cell ((ht.block _ (Array.getElem?_eq_some_iff.1 (unhide HBX)).1 (fun f => f)).trans (unhide HBX)) 0
    have hbl := hC.lt
    have HC := hide hC
    have HT := hide ht
    have HPA := hide hpar
    clear hC ht hpar
    have hsz : size par = par.length + 1 := rfl
    by_cases hgt : x < b
    · have hgi : (x : Int) < b := by omega
      have hb0 : 0 < b := by omega
      by_cases hu : up par b = x
      · have hui : ((up par b : Nat) : Int) = x := by omega
        go_wp2_with (go_at_call 102; refine (parent_any a cap par b _ h5 hb0 (by omega) ?_).mono ?_; exact unhide HPA; rintro e w1 ⟨rfl, ht1⟩)
        go_ret
        exact ⟨by rw [(unhide HC).found hgt hu]; rfl, ((unhide HCAL).trans (unhide HT)).trans ht1⟩
      · have hui : ¬ ((up par b : Nat) : Int) = x := by omega
        have hub := up_lt T hb0 hbl
        go_wp2_with (first
          | (go_at_call 102; refine (parent_any a cap par b _ h5 hb0 (by omega) ?_).mono ?_; exact unhide HPA; rintro e w1 ⟨rfl, ht1⟩
             replace e0 := ht1.cell (p := ⟨w.heap.size, 0, none⟩) (fun f => f) e0
             have HPA2 := hide ((unhide HPA).calm ht1)
             have HT2 := hide ((unhide HT).trans ht1)
             clear HPA HT)
          | (go_at_call 102; refine (parent_any a cap par b _ h5 hb0 (by omega) ?_).mono ?_; exact unhide HPA2; rintro e w2 ⟨rfl, ht2⟩
             have HT3 := hide ((unhide HT2).trans ht2)
             clear HT2))
        go_roundw
        case rel => exact ⟨up par b, rfl, (unhide HC).on T hgt hu, unhide HT3⟩
        case measure => simp [intOf]; omega
    · have hgi : ¬ (x : Int) < b := by omega
      obtain ⟨hn, hx0⟩ := (unhide HC).away T (by omega)
      go_wp2_with (go_at_call 102; refine (parent_any a cap par x _ h5 hx0 (by omega) ?_).mono ?_; exact unhide HPA; rintro e w1 ⟨rfl, ht1⟩)
      go_ret
      exact ⟨by rw [hn]; rfl, ((unhide HCAL).trans (unhide HT)).trans ht1⟩

set_option maxRecDepth 100000 in
set_option maxHeartbeats 1000000 in
/-- PASS. -/
theorem passX {w : World} {b : Nat} {ρ : Nat → Option Role} {σ : Net} (h : XN w b ρ σ) (T : Tree σ.par) {x g : Nat} (hx : x < σ.n) (hg : g < σ.n) (hne : x ≠ g) (hlen : ∀ y, (σ.q x y).length < 2000) {f : Fr} {fb : Nat} (hf : FrAt w ρ f fb) :
    Calls Try.prog 75 #[.pointer (some ⟨b, 0, none⟩), int x, int g, ptr fb] w fun e w' => e = .returned (.tuple #[]) ∧ XN w' b ρ (σ.push x (next σ.par x g) f) ∧ Mv (fun o => ∃ y, o = .chan x y) ρ ρ w w' := by
  obtain ⟨a, cap, ha, hpa⟩ := h.par
  have hx6 : x < 6 := Nat.lt_of_lt_of_le hx (size_le T)
  obtain ⟨hn1, hn2, _⟩ := next_step T hx hg hne
  have hn6 : next σ.par x g < 6 := Nat.lt_of_lt_of_le hn2 (size_le T)
  have hl := hlen (next σ.par x g)
  have hbl := h.lt b (by rw [h.net]; simp)
  have HX := hide h
  have HPA := hide hpa
  have HF := hide hf
  have HN := hide hn1
  clear h hpa hf hlen hn1 hn2
  go_enter Try.func75, Try.ntmps75
  go_wp2
  go_region_with (first
    | (go_at_call 94; refine (next_any a cap σ.par x g _ T hx hg hne ?_).mono ?_; exact (unhide HPA).calm (Touch.refl _ _).drew; rintro e w1 ⟨rfl, ht1⟩
       have ht1 : Calm w w1 := ((Touch.refl _ _).drew).calm ht1
       have HX1 := hide ((unhide HX).calm ht1)
       have HF1 := hide ((unhide HF).calm (unhide HX).lt ht1)
       have HM1 : Hid (Mv (fun o => ∃ y, o = .chan x y) ρ ρ w w1) := Mv.calm (unhide HX).lt ht1
       clear ht1)
    | (go_at_call 93; refine (sendX (x := x) (y := next σ.par x g) (f := f) (fb := fb) (unhide HX1) hx6 hn6 (unhide HN) hl (unhide HF1)).mono ?_; rintro e w2 ⟨rfl, hX2, hM2⟩))
  all_goals go_end0
  all_goals exact ⟨rfl, hX2, (unhide HM1).trans (hM2.mono (fun _ hr => ⟨_, hr⟩))⟩

/-- A broker knows something new: a pointer in the net's block, and a block of its own. -/
def Knew (w W : World) (b o : Nat) (cs : Array Value) : Prop := ∃ kb, w.heap.size ≤ kb ∧ W.heap[kb]? = some (.cells cs 160) ∧ Touch (fun i => i = b) w W ∧ W.heap[b]? = (w.setCell ⟨b, o, none⟩ (ptr kb)).heap[b]?

theorem XN.knew {w W : World} {b : Nat} {ρ : Nat → Option Role} {σ : Net} (h : XN w b ρ σ) {x c k : Nat} (hx : x < 6) (hc : c < 4) (hk : k < 2) {f : Fact} (hkept : f.kept = []) (hK : Knew w W b (38 + x * 8 + c * 2 + k) (encKn (2 * c + k) f (.slice none 0 0)).toArray) :
    ∃ ρ', XN W b ρ' (σ.know x (2 * c + k) (some f)) ∧ Mv (fun r => r = .net) ρ ρ' w W := by
  obtain ⟨v, hv1, _⟩ := h.known x c k hx hc hk
  obtain ⟨kb, h1, h2, h3, hbk⟩ := hK
  obtain ⟨r1, r2⟩ := h.know (kb := kb) (W := W) hx hc hk (f := f) hkept h1 h2
    (cell_of_heap hbk (World.cell?_setCell_same w _ _ hv1)) (fun o v ho hv => cell_of_heap hbk (cell_setCell_ne w ho hv)) (by rw [hbk]; exact typ_setCell h.typ _ _)
    (fun o => (World.frozen?_of_block (w := w.setCell ⟨b, 38 + x * 8 + c * 2 + k, none⟩ (ptr kb)) (a := ⟨b, o, none⟩) hbk).trans (frozen_setCell _ _ _ _ _ (h.fr o))) h3
  exact ⟨_, r1, r2⟩

theorem heap_setCell_cong {w W : World} {b o : Nat} (v : Value) (hb : W.heap[b]? = w.heap[b]?) (ht : ∃ cs t, w.heap[b]? = some (.cells cs t)) : (W.setCell ⟨b, o, none⟩ v).heap[b]? = (w.setCell ⟨b, o, none⟩ v).heap[b]? := by
  obtain ⟨cs, t, h⟩ := ht
  rw [heap_setCell_same _ _ _ _ _ _ h, heap_setCell_same _ _ _ _ _ _ (hb.trans h)]

/-- The world that Turn leaves. -/
theorem knew_turn {w W : World} {b o : Nat} (hcal : Calm w W) (hW : W.heap.size = w.heap.size + 2) (hb : b < w.heap.size) (ht : ∃ cs t, w.heap[b]? = some (.cells cs t)) (kv mo : Value) (u cs : Array Value) :
    Knew w (((((W.setCell ⟨b, o, none⟩ (ptr (W.heap.size + 1))).setCell ⟨w.heap.size + 1, 0, none⟩ kv).setCell ⟨w.heap.size + 1, 1, none⟩ mo).alloc (.cells u 126)).alloc (.cells cs 160)).drew b o cs := by
  have hs : (((W.setCell ⟨b, o, none⟩ (ptr (W.heap.size + 1))).setCell ⟨w.heap.size + 1, 0, none⟩ kv).setCell ⟨w.heap.size + 1, 1, none⟩ mo).heap.size = W.heap.size := by simp [World.setCell]
  refine ⟨W.heap.size + 1, by omega, ?_, ?_, ?_⟩
  · have := heap_alloc_new ((((W.setCell ⟨b, o, none⟩ (ptr (W.heap.size + 1))).setCell ⟨w.heap.size + 1, 0, none⟩ kv).setCell ⟨w.heap.size + 1, 1, none⟩ mo).alloc (.cells u 126)) (.cells cs 160)
    rw [World.size_alloc, hs] at this
    exact this
  · have t0 : Touch (fun i => i = b) w W := hcal.mono (fun _ _ f => f.elim)
    have t1 : Touch (fun i => i = b) w (W.setCell ⟨b, o, none⟩ (ptr (W.heap.size + 1))) := t0.setCell (p := ⟨b, o, none⟩) (fun _ => rfl) _
    have t2 := t1.setCell (p := ⟨w.heap.size + 1, 0, none⟩) (fun h => absurd h (by simp)) kv
    have t3 := t2.setCell (p := ⟨w.heap.size + 1, 1, none⟩) (fun h => absurd h (by simp)) mo
    exact ((t3.alloc _).alloc _).drew
  · have e1 : (((((W.setCell ⟨b, o, none⟩ (ptr (W.heap.size + 1))).setCell ⟨w.heap.size + 1, 0, none⟩ kv).setCell ⟨w.heap.size + 1, 1, none⟩ mo).alloc (.cells u 126)).alloc (.cells cs 160)).drew.heap[b]? = (((W.setCell ⟨b, o, none⟩ (ptr (W.heap.size + 1))).setCell ⟨w.heap.size + 1, 0, none⟩ kv).setCell ⟨w.heap.size + 1, 1, none⟩ mo).heap[b]? :=
      (Below.heap_alloc _ _ _ (by rw [World.size_alloc, hs]; omega)).trans (Below.heap_alloc _ _ _ (by rw [hs]; omega))
    rw [e1, heap_setCell_other _ _ (by omega), heap_setCell_other _ _ (by omega)]
    exact heap_setCell_cong _ (hcal.block b hb (fun f => f)) ht

theorem turn_box {w W : World} {b o : Nat} (hb : b < w.heap.size) (hW : W.heap.size = w.heap.size + 2) (hb1 : W.heap[w.heap.size + 1]? = some (.cells #[.slice none 0 0, int 0] 126)) (kv mo : Value) (o1 o2 : Obj) :
    (((((W.setCell ⟨b, o, none⟩ (ptr (W.heap.size + 1))).setCell ⟨w.heap.size + 1, 0, none⟩ kv).setCell ⟨w.heap.size + 1, 1, none⟩ mo).alloc o1).alloc o2).cell? ⟨w.heap.size + 1, 0, none⟩ = some kv ∧
    (((((W.setCell ⟨b, o, none⟩ (ptr (W.heap.size + 1))).setCell ⟨w.heap.size + 1, 0, none⟩ kv).setCell ⟨w.heap.size + 1, 1, none⟩ mo).alloc o1).alloc o2).cell? ⟨w.heap.size + 1, 1, none⟩ = some mo := by
  have hs : (((W.setCell ⟨b, o, none⟩ (ptr (W.heap.size + 1))).setCell ⟨w.heap.size + 1, 0, none⟩ kv).setCell ⟨w.heap.size + 1, 1, none⟩ mo).heap.size = W.heap.size := by simp [World.setCell]
  have e0 : (W.setCell ⟨b, o, none⟩ (ptr (W.heap.size + 1))).heap[w.heap.size + 1]? = some (.cells #[.slice none 0 0, int 0] 126) := (heap_setCell_other _ _ (by omega)).trans hb1
  have e1 := heap_setCell_same _ _ 0 _ _ kv e0
  have e2 := heap_setCell_same _ _ 1 _ _ mo e1
  have e3 : (((((W.setCell ⟨b, o, none⟩ (ptr (W.heap.size + 1))).setCell ⟨w.heap.size + 1, 0, none⟩ kv).setCell ⟨w.heap.size + 1, 1, none⟩ mo).alloc o1).alloc o2).heap[w.heap.size + 1]? = _ :=
    ((Below.heap_alloc _ _ _ (by rw [World.size_alloc, hs]; omega)).trans (Below.heap_alloc _ _ _ (by rw [hs]; omega))).trans e2
  exact ⟨box_cell e3 0, box_cell e3 1⟩

set_option maxRecDepth 100000 in
set_option maxHeartbeats 1000000 in
theorem turn_none (b o c k : Nat) (age way a0 a1 a2 a3 a4 a5 a6 a7 a8 a9 : Int) (w : World) (hc : c < 4) (hk : k < 2) (h : w.cell? ⟨b, o + c * 2 + k, none⟩ = some (.pointer none)) (hfr : w.frozen? ⟨b, o + c * 2 + k, none⟩ = false) (hty : ∃ cs t, w.heap[b]? = some (.cells cs t)) :
    Calls Try.prog 100 #[.pointer (some ⟨b, o, none⟩), .agg #[int c, int k, int age, int a0, int a1, int a2, int a3, int a4, int a5, int a6, int a7, int a8, int a9], int way] w fun e w' => e = .returned (.agg #[nilS, int 0]) ∧ Knew w w' b (o + c * 2 + k) #[int c, int k, int age, int a0, int a1, int a2, int a3, int a4, int a5, int a6, int a7, int a8, int a9, int way, .bool false, .slice none 0 0, int 0] := by
  have hci : (c : Int) < 4 := by omega
  have hki : (k : Int) < 2 := by omega
  have hb := block_lt_of_cell h
  simp only at hb
  go_enter Try.func100, Try.ntmps100
  go_wp2
  obtain ⟨W, hW⟩ : ∃ W, ((w.alloc (.cells #[int c, int k, int age, int a0, int a1, int a2, int a3, int a4, int a5, int a6, int a7, int a8, int a9] 121)).alloc (.cells #[.slice none 0 0, int 0] 126)) = W := ⟨_, rfl⟩
  rw [hW]
  have hcal : Calm w W := by rw [← hW]; exact ((Touch.refl _ _).alloc _).alloc _
  have h' := hcal.cell (p := ⟨b, o + c * 2 + k, none⟩) (fun f => f) h
  have hWs : W.heap.size = w.heap.size + 2 := by rw [← hW]; simp
  have hbW : b < W.heap.size := by omega
  have hwW : w.heap.size < W.heap.size := by omega
  have hwW1 : w.heap.size + 1 < W.heap.size := by omega
  have hb1 : W.heap[w.heap.size + 1]? = some (.cells #[.slice none 0 0, int 0] 126) := by
    rw [← hW]; have := heap_alloc_new (w.alloc (.cells #[int c, int k, int age, int a0, int a1, int a2, int a3, int a4, int a5, int a6, int a7, int a8, int a9] 121)) (.cells #[.slice none 0 0, int 0] 126)
    simpa using this
  have hb0 : W.heap[w.heap.size]? = some (.cells #[int c, int k, int age, int a0, int a1, int a2, int a3, int a4, int a5, int a6, int a7, int a8, int a9] 121) := by
    rw [← hW, Below.heap_alloc _ _ _ (by simp)]; exact heap_alloc_new w _
  have s0 : W.cell? ⟨w.heap.size, 0, none⟩ = some (int c) := box_cell hb0 0
  have s1 : W.cell? ⟨w.heap.size, 1, none⟩ = some (int k) := box_cell hb0 1
  have s2 : W.cell? ⟨w.heap.size, 2, none⟩ = some (int age) := box_cell hb0 2
  have s3 : W.cell? ⟨w.heap.size, 3, none⟩ = some (int a0) := box_cell hb0 3
  have s4 : W.cell? ⟨w.heap.size, 4, none⟩ = some (int a1) := box_cell hb0 4
  have s5 : W.cell? ⟨w.heap.size, 5, none⟩ = some (int a2) := box_cell hb0 5
  have s6 : W.cell? ⟨w.heap.size, 6, none⟩ = some (int a3) := box_cell hb0 6
  have s7 : W.cell? ⟨w.heap.size, 7, none⟩ = some (int a4) := box_cell hb0 7
  have s8 : W.cell? ⟨w.heap.size, 8, none⟩ = some (int a5) := box_cell hb0 8
  have s9 : W.cell? ⟨w.heap.size, 9, none⟩ = some (int a6) := box_cell hb0 9
  have s10 : W.cell? ⟨w.heap.size, 10, none⟩ = some (int a7) := box_cell hb0 10
  have s11 : W.cell? ⟨w.heap.size, 11, none⟩ = some (int a8) := box_cell hb0 11
  have s12 : W.cell? ⟨w.heap.size, 12, none⟩ = some (int a9) := box_cell hb0 12
  have t0 : W.cell? ⟨w.heap.size + 1, 0, none⟩ = some (.slice none 0 0) := box_cell hb1 0
  have t1 : W.cell? ⟨w.heap.size + 1, 1, none⟩ = some (int 0) := box_cell hb1 1
  have g1 : W.frozen? ⟨w.heap.size + 1, 0, none⟩ = false := box_frozen hb1 0
  have g2 : W.frozen? ⟨w.heap.size + 1, 1, none⟩ = false := box_frozen hb1 1
  have hfW : W.frozen? ⟨b, o + c * 2 + k, none⟩ = false := (World.frozen?_of_block (w := w) (a := ⟨b, o + c * 2 + k, none⟩) (hcal.block b hb (fun f => f))).trans hfr
  have HB0 := hide hb0
  have HWS := hide hWs
  have HTY := hide hty
  have HB1 := hide hb1
  clear hb0 hb1 hW hWs h hty
  go_region
  all_goals go_wp2
  all_goals exact bodyPost_ret (v := .agg #[nilS, int 0]) (by simp [results, Try.results100, go_sem, turn_box hb (unhide HWS) (unhide HB1)]) rfl ⟨rfl, knew_turn hcal (unhide HWS) hb (unhide HTY) _ _ _ _⟩

set_option maxRecDepth 100000 in
set_option maxHeartbeats 1000000 in
theorem turn_some (b o c k kb sn sc : Nat) (sa : Option Addr) (mo : Int) (age way a0 a1 a2 a3 a4 a5 a6 a7 a8 a9 : Int) (w : World) (hc : c < 4) (hk : k < 2) (h : w.cell? ⟨b, o + c * 2 + k, none⟩ = some (ptr kb)) (k15 : w.cell? ⟨kb, 15, none⟩ = some (.slice sa sn sc)) (k16 : w.cell? ⟨kb, 16, none⟩ = some (int mo)) (hfr : w.frozen? ⟨b, o + c * 2 + k, none⟩ = false) (hty : ∃ cs t, w.heap[b]? = some (.cells cs t)) :
    Calls Try.prog 100 #[.pointer (some ⟨b, o, none⟩), .agg #[int c, int k, int age, int a0, int a1, int a2, int a3, int a4, int a5, int a6, int a7, int a8, int a9], int way] w fun e w' => e = .returned (.agg #[.slice sa sn sc, int mo]) ∧ Knew w w' b (o + c * 2 + k) #[int c, int k, int age, int a0, int a1, int a2, int a3, int a4, int a5, int a6, int a7, int a8, int a9, int way, .bool false, .slice none 0 0, int 0] := by
  have hci : (c : Int) < 4 := by omega
  have hki : (k : Int) < 2 := by omega
  have hb := block_lt_of_cell h
  have hkb := block_lt_of_cell k15
  simp only at hb hkb
  go_enter Try.func100, Try.ntmps100
  go_wp2
  obtain ⟨W, hW⟩ : ∃ W, ((w.alloc (.cells #[int c, int k, int age, int a0, int a1, int a2, int a3, int a4, int a5, int a6, int a7, int a8, int a9] 121)).alloc (.cells #[.slice none 0 0, int 0] 126)) = W := ⟨_, rfl⟩
  rw [hW]
  have hcal : Calm w W := by rw [← hW]; exact ((Touch.refl _ _).alloc _).alloc _
  have h' := hcal.cell (p := ⟨b, o + c * 2 + k, none⟩) (fun f => f) h
  have hWs : W.heap.size = w.heap.size + 2 := by rw [← hW]; simp
  have k15' := hcal.cell (p := ⟨kb, 15, none⟩) (fun f => f) k15
  have k16' := hcal.cell (p := ⟨kb, 16, none⟩) (fun f => f) k16
  have hkW : kb < W.heap.size := by omega
  have hbW : b < W.heap.size := by omega
  have hwW : w.heap.size < W.heap.size := by omega
  have hwW1 : w.heap.size + 1 < W.heap.size := by omega
  have hb1 : W.heap[w.heap.size + 1]? = some (.cells #[.slice none 0 0, int 0] 126) := by
    rw [← hW]; have := heap_alloc_new (w.alloc (.cells #[int c, int k, int age, int a0, int a1, int a2, int a3, int a4, int a5, int a6, int a7, int a8, int a9] 121)) (.cells #[.slice none 0 0, int 0] 126)
    simpa using this
  have hb0 : W.heap[w.heap.size]? = some (.cells #[int c, int k, int age, int a0, int a1, int a2, int a3, int a4, int a5, int a6, int a7, int a8, int a9] 121) := by
    rw [← hW, Below.heap_alloc _ _ _ (by simp)]; exact heap_alloc_new w _
  have s0 : W.cell? ⟨w.heap.size, 0, none⟩ = some (int c) := box_cell hb0 0
  have s1 : W.cell? ⟨w.heap.size, 1, none⟩ = some (int k) := box_cell hb0 1
  have s2 : W.cell? ⟨w.heap.size, 2, none⟩ = some (int age) := box_cell hb0 2
  have s3 : W.cell? ⟨w.heap.size, 3, none⟩ = some (int a0) := box_cell hb0 3
  have s4 : W.cell? ⟨w.heap.size, 4, none⟩ = some (int a1) := box_cell hb0 4
  have s5 : W.cell? ⟨w.heap.size, 5, none⟩ = some (int a2) := box_cell hb0 5
  have s6 : W.cell? ⟨w.heap.size, 6, none⟩ = some (int a3) := box_cell hb0 6
  have s7 : W.cell? ⟨w.heap.size, 7, none⟩ = some (int a4) := box_cell hb0 7
  have s8 : W.cell? ⟨w.heap.size, 8, none⟩ = some (int a5) := box_cell hb0 8
  have s9 : W.cell? ⟨w.heap.size, 9, none⟩ = some (int a6) := box_cell hb0 9
  have s10 : W.cell? ⟨w.heap.size, 10, none⟩ = some (int a7) := box_cell hb0 10
  have s11 : W.cell? ⟨w.heap.size, 11, none⟩ = some (int a8) := box_cell hb0 11
  have s12 : W.cell? ⟨w.heap.size, 12, none⟩ = some (int a9) := box_cell hb0 12
  have t0 : W.cell? ⟨w.heap.size + 1, 0, none⟩ = some (.slice none 0 0) := box_cell hb1 0
  have t1 : W.cell? ⟨w.heap.size + 1, 1, none⟩ = some (int 0) := box_cell hb1 1
  have g1 : W.frozen? ⟨w.heap.size + 1, 0, none⟩ = false := box_frozen hb1 0
  have g2 : W.frozen? ⟨w.heap.size + 1, 1, none⟩ = false := box_frozen hb1 1
  have hfW : W.frozen? ⟨b, o + c * 2 + k, none⟩ = false := (World.frozen?_of_block (w := w) (a := ⟨b, o + c * 2 + k, none⟩) (hcal.block b hb (fun f => f))).trans hfr
  have HB0 := hide hb0
  have HWS := hide hWs
  have HTY := hide hty
  have HB1 := hide hb1
  clear hb0 hb1 hW hWs h hty k15 k16
  go_region
  all_goals go_wp2
  all_goals exact bodyPost_ret (v := .agg #[.slice sa sn sc, int mo]) (by simp [results, Try.results100, go_sem, turn_box hb (unhide HWS) (unhide HB1)]) rfl ⟨rfl, knew_turn hcal (unhide HWS) hb (unhide HTY) _ _ _ _⟩

/-- The roles that a turn turns. -/
def turnR (x s : Nat) (r : Role) : Prop := r = .net ∨ r = .kept x s
/-- What a broker keeps. -/
def keptOf : Option Fact → List News
  | some f => f.kept
  | none => []
def moreOf : Option Fact → Int
  | some f => f.more
  | none => 0
/-- A row is handed over. -/
def handed (ρ : Nat → Option Role) (v : Value) : Nat → Option Role := fun i => if v.ownBlock = some i then some .rest else ρ i

/-- TURN. -/
theorem turnX {w : World} {b : Nat} {ρ : Nat → Option Role} {σ : Net} (h : XN w b ρ σ) {x c k : Nat} (hx : x < 6) (hc : c < 4) (hk : k < 2) (age : Int) (fl : List Tst) (way : Option Nat) :
    Calls Try.prog 100 #[.pointer (some ⟨b, 38 + x * 8, none⟩), subV c k age fl, int (whr way)] w fun e w' => ∃ sa sc, ∃ ρ', e = .returned (.agg #[.slice sa (keptOf (σ.kn x (2 * c + k))).length sc, int (moreOf (σ.kn x (2 * c + k)))]) ∧ XN w' b ρ' (σ.know x (2 * c + k) (some ⟨age, fl, way, [], 0, false⟩)) ∧
      RowAt w' ρ' .rest 163 8 (keptOf (σ.kn x (2 * c + k))).length ((keptOf (σ.kn x (2 * c + k))).flatMap (noteOf ((2 * c + k) % 2))) (.slice sa (keptOf (σ.kn x (2 * c + k))).length sc) ∧ Mv (turnR x (2 * c + k)) ρ ρ' w w' := by
  obtain ⟨v, hv1, hv2⟩ := h.known x c k hx hc hk
  have hty : ∃ cs t, w.heap[b]? = some (.cells cs t) := by obtain ⟨cs, h1⟩ := h.typ; exact ⟨cs, _, h1⟩
  have hb := h.lt b (by rw [h.net]; simp)
  cases hkn : σ.kn x (2 * c + k) with
  | none =>
    rw [hkn] at hv2
    have hv2 : v = .pointer none := hv2
    subst hv2
    refine (turn_none b (38 + x * 8) c k age (whr way) _ _ _ _ _ _ _ _ _ _ w hc hk hv1 (h.fr _) hty).mono ?_
    rintro e w' ⟨rfl, hK⟩
    rw [← encKn_new c k hk] at hK
    obtain ⟨ρ', r1, r2⟩ := h.knew hx hc hk (f := ⟨age, fl, way, [], 0, false⟩) rfl hK
    exact ⟨none, 0, ρ', rfl, r1, ⟨⟨rfl, Or.inl ⟨rfl, rfl⟩⟩, fun g hg => by cases hg⟩, r2.mono (fun _ hr => Or.inl hr)⟩
  | some f =>
    rw [hkn] at hv2
    obtain ⟨kb, kv, rfl, hrb, hblk, hrow⟩ := hv2
    obtain ⟨sa, sc, rfl⟩ : ∃ sa sc, kv = .slice sa f.kept.length sc := by
      rcases hrow.1.2 with ⟨rfl, h0⟩ | ⟨g, cap, cur, rfl, _⟩
      · exact ⟨none, 0, by rw [h0]⟩
      · exact ⟨_, _, rfl⟩
    have k15 : w.cell? ⟨kb, 15, none⟩ = some (.slice sa f.kept.length sc) := box_cell hblk 15
    have k16 : w.cell? ⟨kb, 16, none⟩ = some (int f.more) := box_cell hblk 16
    refine (turn_some b (38 + x * 8) c k kb f.kept.length sc sa f.more age (whr way) _ _ _ _ _ _ _ _ _ _ w hc hk hv1 k15 k16 (h.fr _) hty).mono ?_
    rintro e w' ⟨rfl, hK⟩
    rw [← encKn_new c k hk] at hK
    obtain ⟨nb, n1, n2, n3, n4⟩ := hK
    have hgne : ∀ g, (Value.slice sa f.kept.length sc).ownBlock = some g → g ≠ b ∧ g < w.heap.size := fun g hg => by
      have h1 := hrow.2 g hg
      exact ⟨fun e => (by subst e; rw [h.net] at h1; cases h1), h.lt g (by rw [h1]; simp)⟩
    have hrow' : w'.ownsRow 0 163 8 (.slice sa f.kept.length sc) f.kept.length (f.kept.flatMap (noteOf ((2 * c + k) % 2))) := ownsRow_keep hrow.1 n3 (fun g hg e => (hgne g hg).1 e)
    have hmv : Mv (turnR x (2 * c + k)) ρ (roleAt (handed ρ (.slice sa f.kept.length sc)) nb (.known x (2 * c + k))) w w' := by
      refine ⟨n3.mono (fun i _ e => ⟨.net, by rw [e]; exact h.net, Or.inl rfl⟩), fun i hi => ?_, fun i hi => ?_⟩
      · unfold roleAt handed
        rw [if_neg (by omega)]
        split
        · rename_i e; exact Or.inr ⟨x, 2 * c + k, hrow.2 i e, Or.inr rfl, rfl⟩
        · exact Or.inl rfl
      · unfold roleAt handed at hi
        split at hi
        · rename_i e; rw [e]; exact (Array.getElem?_eq_some_iff.1 n2).1
        · split at hi
          · rename_i e; exact Nat.lt_of_lt_of_le (hgne i e).2 n3.size
          · exact Nat.lt_of_lt_of_le (h.lt i hi) n3.size
    refine ⟨sa, sc, _, rfl, ?_, ⟨hrow', fun g hg => ?_⟩, hmv⟩
    · refine h.step hmv (fun o => o = 38 + x * 8 + c * 2 + k) (by rw [n4]; exact typ_setCell h.typ _ _) (fun o => (World.frozen?_of_block (w := w.setCell ⟨b, 38 + x * 8 + c * 2 + k, none⟩ (ptr nb)) (a := ⟨b, o, none⟩) n4).trans (frozen_setCell _ _ _ _ _ (h.fr o))) (fun o v ho hv => cell_of_heap n4 (cell_setCell_ne w ho hv)) rfl rfl (by omega) (by omega) (by simp [turnR]) (by simp [turnR]) (by simp [turnR])
        (fun u v _ _ => Or.inl ⟨rfl, by omega, by simp [turnR]⟩) (fun u d j hu hd hj => ?_) (fun d hd => Or.inl ⟨rfl, fun o _ _ => by omega, fun _ => by simp [turnR], by simp [turnR]⟩)
      by_cases e : u = x ∧ 2 * d + j = 2 * c + k
      · right
        obtain ⟨rfl, e⟩ := e
        have : d = c := by omega
        have : j = k := by omega
        subst_vars
        refine ⟨_, cell_of_heap n4 (World.cell?_setCell_same w _ _ hv1), ?_⟩
        simp only [Net.know, put2_same]
        exact ⟨nb, .slice none 0 0, rfl, by simp [roleAt], n2, ⟨⟨rfl, Or.inl ⟨rfl, rfl⟩⟩, fun g hg => by cases hg⟩⟩
      · left
        refine ⟨by simp only [Net.know, put2_other _ _ e], by omega, by simp [turnR], ?_⟩
        simp only [turnR, reduceCtorEq, Role.kept.injEq, false_or]; exact e
    · have hg : (Value.slice sa f.kept.length sc).ownBlock = some g := hg
      have := hgne g hg
      unfold roleAt handed
      rw [if_neg (by omega), if_pos hg]

theorem knew_await {w : World} {b o : Nat} (hb : b < w.heap.size) (u cs : Array Value) : Knew w (((w.setCell ⟨b, o, none⟩ (ptr (w.heap.size + 1))).alloc (.cells u 121)).alloc (.cells cs 160)).drew b o cs := by
  have hs : (w.setCell ⟨b, o, none⟩ (ptr (w.heap.size + 1))).heap.size = w.heap.size := by simp [World.setCell]
  refine ⟨w.heap.size + 1, by omega, ?_, ?_, ?_⟩
  · have := heap_alloc_new ((w.setCell ⟨b, o, none⟩ (ptr (w.heap.size + 1))).alloc (.cells u 121)) (.cells cs 160)
    rw [World.size_alloc, hs] at this
    exact this
  · exact ((((Touch.refl (fun i => i = b) w).setCell (p := ⟨b, o, none⟩) (fun _ => rfl) _).alloc _).alloc _).drew
  · exact (Below.heap_alloc _ _ _ (by rw [World.size_alloc, hs]; omega)).trans (Below.heap_alloc _ _ _ (by rw [hs]; omega))

set_option maxRecDepth 100000 in
set_option maxHeartbeats 1000000 in
theorem await_any (b o c k : Nat) (age a0 a1 a2 a3 a4 a5 a6 a7 a8 a9 : Int) (w : World) (v : Value) (hc : c < 4) (hk : k < 2) (h : w.cell? ⟨b, o + c * 2 + k, none⟩ = some v) (hfr : w.frozen? ⟨b, o + c * 2 + k, none⟩ = false) :
    Calls Try.prog 74 #[.pointer (some ⟨b, o, none⟩), .agg #[int c, int k, int age, int a0, int a1, int a2, int a3, int a4, int a5, int a6, int a7, int a8, int a9]] w fun e w' => e = .returned (.tuple #[]) ∧ Knew w w' b (o + c * 2 + k) #[int c, int k, int age, int a0, int a1, int a2, int a3, int a4, int a5, int a6, int a7, int a8, int a9, int (-1), .bool true, .slice none 0 0, int 0] := by
  have hci : (c : Int) < 4 := by omega
  have hki : (k : Int) < 2 := by omega
  have hb := block_lt_of_cell h
  simp only at hb
  go_enter Try.func74, Try.ntmps74
  go_wp2
  go_region
  all_goals go_wp2
  all_goals go_end0
  all_goals exact ⟨rfl, knew_await hb _ _⟩

theorem encKn_wait (c k : Nat) (hk : k < 2) (age : Int) (fl : List Tst) : (encKn (2 * c + k) ⟨age, fl, none, [], 0, true⟩ (.slice none 0 0)).toArray = #[int c, int k, int age, int (tstAt fl 0).fld, int (tstAt fl 0).op, int (tstAt fl 0).n, int (tstAt fl 1).fld, int (tstAt fl 1).op, int (tstAt fl 1).n, int (tstAt fl 2).fld, int (tstAt fl 2).op, int (tstAt fl 2).n, int fl.length, int (-1), .bool true, .slice none 0 0, int 0] := by
  have h1 : (2 * c + k) / 2 = c := by omega
  have h2 : (2 * c + k) % 2 = k := by omega
  simp only [encKn, h1, h2]
  rfl

/-- AWAIT. -/
theorem awaitX {w : World} {b : Nat} {ρ : Nat → Option Role} {σ : Net} (h : XN w b ρ σ) {x c k : Nat} (hx : x < 6) (hc : c < 4) (hk : k < 2) (age : Int) (fl : List Tst) :
    Calls Try.prog 74 #[.pointer (some ⟨b, 38 + x * 8, none⟩), subV c k age fl] w fun e w' => e = .returned (.tuple #[]) ∧ ∃ ρ', XN w' b ρ' (σ.know x (2 * c + k) (some ⟨age, fl, none, [], 0, true⟩)) ∧ Mv (fun r => r = .net) ρ ρ' w w' := by
  obtain ⟨v, hv1, hv2⟩ := h.known x c k hx hc hk
  refine (await_any b (38 + x * 8) c k age _ _ _ _ _ _ _ _ _ _ w v hc hk hv1 (h.fr _)).mono ?_
  rintro e w' ⟨rfl, hK⟩
  rw [← encKn_wait c k hk] at hK
  exact ⟨rfl, h.knew hx hc hk (f := ⟨age, fl, none, [], 0, true⟩) rfl hK⟩

/-- All roles. -/
def allR (_ : Role) : Prop := True

/-- A new frame. -/
theorem XN.addFrame {w w' : World} {b : Nat} {ρ : Nat → Option Role} {σ : Net} (h : XN w b ρ σ) (t : Calm w w') {fb : Nat} (h1 : w.heap.size ≤ fb) (h2 : fb < w'.heap.size) : XN w' b (roleAt ρ fb .frame) σ ∧ Mv (fun _ => False) ρ (roleAt ρ fb .frame) w w' := by
  have hrole : ∀ k, k < w.heap.size → roleAt ρ fb .frame k = ρ k := fun k hk => by unfold roleAt; rw [if_neg (by omega)]
  have hlt : ∀ k, roleAt ρ fb .frame k ≠ none → k < w'.heap.size := fun k hk => by
    unfold roleAt at hk
    split at hk
    · rename_i e; rw [e]; exact h2
    · exact Nat.lt_of_lt_of_le (h.lt k hk) t.size
  have hb := h.lt b (by rw [h.net]; simp)
  have hbk := t.block b hb (fun f => f)
  refine ⟨?_, ⟨t.mono (fun _ _ f => f.elim), fun k hk => Or.inl (hrole k hk), hlt⟩⟩
  refine h.step' (S := fun _ => False) (fun {k r} hr _ => ?_) (hrole b hb) hlt (fun _ => False) (by rw [hbk]; exact h.typ) (fun o => (World.frozen?_of_block (w := w) (a := ⟨b, o, none⟩) hbk).trans (h.fr o)) (fun o v _ hc => cell_of_heap hbk hc) rfl rfl id id id id id
    (fun x y _ _ => Or.inl ⟨rfl, id, id⟩) (fun x c k _ _ _ => Or.inl ⟨rfl, id, id, id⟩) (fun c _ => Or.inl ⟨rfl, fun _ _ _ => id, fun _ => id, id⟩)
  have hk := h.lt k (by rw [hr]; simp)
  exact ⟨t.block k hk (fun f => f), hrole k hk⟩

theorem encFr_move (c k : Nat) (hk : k < 2) (age : Int) (fl : List Tst) (old new : Nat) (u : List Value) (kv : Value) : (encFr (.move (2 * c + k) age fl old new) u kv).toArray = #[int 3, int c, int k, int age, int (tstAt fl 0).fld, int (tstAt fl 0).op, int (tstAt fl 0).n, int (tstAt fl 1).fld, int (tstAt fl 1).op, int (tstAt fl 1).n, int (tstAt fl 2).fld, int (tstAt fl 2).op, int (tstAt fl 2).n, int fl.length, int 0, int 0, int 0, int 0, int 0, int 0, int old, int new, nilS, int 0] := by
  have h1 : (2 * c + k) / 2 = c := by omega
  have h2 : (2 * c + k) % 2 = k := by omega
  simp only [encFr, h1, h2]
  rfl

theorem encFr_rest (c k : Nat) (hk : k < 2) (age : Int) (fl : List Tst) (K : List News) (mo : Int) (new : Nat) (kv : Value) : (encFr (.rest (2 * c + k) K mo new) (int age :: encFil fl) kv).toArray = #[int 4, int c, int k, int age, int (tstAt fl 0).fld, int (tstAt fl 0).op, int (tstAt fl 0).n, int (tstAt fl 1).fld, int (tstAt fl 1).op, int (tstAt fl 1).n, int (tstAt fl 2).fld, int (tstAt fl 2).op, int (tstAt fl 2).n, int fl.length, int 0, int 0, int 0, int 0, int 0, int 0, int 0, int new, kv, int mo] := by
  have h1 : (2 * c + k) / 2 = c := by omega
  have h2 : (2 * c + k) % 2 = k := by omega
  simp only [encFr, h1, h2]
  rfl

set_option maxRecDepth 100000 in
set_option maxHeartbeats 2000000 in
/-- HANDLEMOVE. -/
theorem handleMoveX {w : World} {b : Nat} {ρ : Nat → Option Role} {σ : Net} (h : XN w b ρ σ) (T : Tree σ.par) {x y : Nat} (hx : x < σ.n) (hlen : ∀ y, (σ.q x y).length < 2000) {c k : Nat} (hc : c < 4) (hk : k < 2) (age : Int) (fl : List Tst) {old new : Nat} (ho : old < σ.n) (hn : new < σ.n) (hon : old ≠ new) (hway : x = old → next σ.par x new = y) {fb : Nat} (hf : FrAt w ρ (.move (2 * c + k) age fl old new) fb) :
    Calls Try.prog 82 #[.pointer (some ⟨b, 0, none⟩), int x, int (y : Nat), ptr fb] w fun e w' => e = .returned (.tuple #[]) ∧ ∃ ρ', XN w' b ρ' (σ.handle x (some y) (.move (2 * c + k) age fl old new)) ∧ Mv allR ρ ρ' w w' := by
  have hx6 : x < 6 := Nat.lt_of_lt_of_le hx (size_le T)
  obtain ⟨hr, _, _, _, hf', _⟩ := id hf
  rw [encFr_move c k hk] at hf'
  have c1 : w.cell? ⟨fb, 1, none⟩ = some (int c) := box_cell hf' 1
  have c2 : w.cell? ⟨fb, 2, none⟩ = some (int k) := box_cell hf' 2
  have c3 : w.cell? ⟨fb, 3, none⟩ = some (int age) := box_cell hf' 3
  have c4 : w.cell? ⟨fb, 4, none⟩ = some (int (tstAt fl 0).fld) := box_cell hf' 4
  have c5 : w.cell? ⟨fb, 5, none⟩ = some (int (tstAt fl 0).op) := box_cell hf' 5
  have c6 : w.cell? ⟨fb, 6, none⟩ = some (int (tstAt fl 0).n) := box_cell hf' 6
  have c7 : w.cell? ⟨fb, 7, none⟩ = some (int (tstAt fl 1).fld) := box_cell hf' 7
  have c8 : w.cell? ⟨fb, 8, none⟩ = some (int (tstAt fl 1).op) := box_cell hf' 8
  have c9 : w.cell? ⟨fb, 9, none⟩ = some (int (tstAt fl 1).n) := box_cell hf' 9
  have c10 : w.cell? ⟨fb, 10, none⟩ = some (int (tstAt fl 2).fld) := box_cell hf' 10
  have c11 : w.cell? ⟨fb, 11, none⟩ = some (int (tstAt fl 2).op) := box_cell hf' 11
  have c12 : w.cell? ⟨fb, 12, none⟩ = some (int (tstAt fl 2).n) := box_cell hf' 12
  have c13 : w.cell? ⟨fb, 13, none⟩ = some (int fl.length) := box_cell hf' 13
  have hxi : (x : Int) < 6 := by omega
  have hnr : ρ w.heap.size = none := by
    cases hq : ρ w.heap.size with
    | none => rfl
    | some r => have := h.lt w.heap.size (by rw [hq]; simp); omega
  have HNR := hide hnr
  have hfbl : fb < w.heap.size := h.lt fb (by rw [hr]; simp)
  have hbl : b < w.heap.size := h.lt b (by rw [h.net]; simp)
  have HX := hide h
  have HF := hide hf
  have HLEN := hide hlen
  clear h hf hf' hlen hnr
  go_enter Try.func82, Try.ntmps82
  go_wp2
  go_cut [8] (fun s wx => ∃ g sa sc ρ', s = ptr g ∧ wx.cell? ⟨g, 0, none⟩ = some (.slice sa (keptOf (σ.kn x (2 * c + k))).length sc) ∧ wx.cell? ⟨g, 1, none⟩ = some (int (moreOf (σ.kn x (2 * c + k)))) ∧ ρ' g = none ∧ Hid (XN wx b ρ' (σ.know x (2 * c + k) (some ⟨age, fl, some y, [], 0, false⟩)) ∧
      RowAt wx ρ' .rest 163 8 (keptOf (σ.kn x (2 * c + k))).length ((keptOf (σ.kn x (2 * c + k))).flatMap (noteOf ((2 * c + k) % 2))) (.slice sa (keptOf (σ.kn x (2 * c + k))).length sc) ∧ Mv (turnR x (2 * c + k)) ρ ρ' w wx))
  case first =>
    go_region_with (first
      | (go_at_call 100; refine (turnX (w := (w.alloc (.cells #[.slice none 0 0, int 0] 126)).drew) (σ := σ) (ρ := ρ) ((unhide HX).calm (((Touch.refl _ _).alloc _).drew)) hx6 hc hk age fl (some y)).mono ?_; rintro e w1 ⟨sa, sc, ρ1, rfl, h1, r1, m1⟩
         have hbx : w1.heap[w.heap.size]? = some (.cells #[.slice none 0 0, int 0] 126) := (m1.touch.block w.heap.size (by simp [World.drew]) (fun ⟨r, hq, _⟩ => by rw [unhide HNR] at hq; cases hq)).trans (heap_alloc_new w _)
         have hrn : ρ1 w.heap.size = none := m1.noRole (by simp [World.drew]) (unhide HNR)
         have q0 : w1.cell? ⟨w.heap.size, 0, none⟩ = some (.slice none 0 0) := box_cell hbx 0
         have q1 : w1.cell? ⟨w.heap.size, 1, none⟩ = some (int 0) := box_cell hbx 1
         have z0 : w1.frozen? ⟨w.heap.size, 0, none⟩ = false := box_frozen hbx 0
         have z1 : w1.frozen? ⟨w.heap.size, 1, none⟩ = false := box_frozen hbx 1
         have hsz : w.heap.size < w1.heap.size := block_lt_of_cell q0
         have H1 := hide (And.intro h1 (And.intro r1 (And.intro ((Mv.calm (unhide HX).lt (((Touch.refl _ _).alloc _).drew)).trans m1) hrn)))
         clear h1 r1 m1 hbx hrn)
      | (go_at_call 100; refine (turnX (w := w.drew) (σ := σ) (ρ := ρ) ((unhide HX).calm (Touch.refl _ _).drew) hx6 hc hk age fl (some y)).mono ?_; rintro e w1 ⟨sa, sc, ρ1, rfl, h1, r1, m1⟩
         have H1 := hide (And.intro h1 (And.intro r1 ((Mv.calm (unhide HX).lt ((Touch.refl _ _).drew)).trans m1)))
         clear h1 r1 m1))
    all_goals go_wp2_with fail
    all_goals go_meet
    all_goals first
      | (obtain ⟨h1, r1, m1, hrn⟩ := unhide H1
         have e0 : (w1.setCell ⟨w.heap.size, 0, none⟩ (.slice sa (keptOf (σ.kn x (2 * c + k))).length sc)).cell? ⟨w.heap.size, 1, none⟩ = some (int 0) := cell_setCell_ne w1 (by omega) q1
         have hT : Touch (fun i => i = w.heap.size) w1 ((w1.setCell ⟨w.heap.size, 0, none⟩ (.slice sa (keptOf (σ.kn x (2 * c + k))).length sc)).setCell ⟨w.heap.size, 1, none⟩ (int (moreOf (σ.kn x (2 * c + k))))) := ((Touch.refl (fun i => i = w.heap.size) w1).setCell (p := ⟨w.heap.size, 0, none⟩) (fun _ => rfl) _).setCell (p := ⟨w.heap.size, 1, none⟩) (fun _ => rfl) _
         have hX := h1.keep hT (fun i hi e => hi (by rw [e]; exact hrn))
         refine ⟨w.heap.size, sa, sc, ρ1, rfl, cell_setCell_ne _ (by omega) (World.cell?_setCell_same w1 _ _ q0), World.cell?_setCell_same _ _ _ e0, hrn, hX, ⟨ownsRow_keep r1.1 hT (fun g hg e => by have := r1.2 g hg; rw [e, hrn] at this; cases this), r1.2⟩, ?_⟩
         exact ⟨⟨hT.os.trans m1.touch.os, hT.tape.trans m1.touch.tape, hT.output.trans m1.touch.output, Nat.le_trans m1.touch.size hT.size, fun i hi hs => (hT.block i (Nat.lt_of_lt_of_le hi m1.touch.size) (by omega)).trans (m1.touch.block i hi hs)⟩, m1.role, fun i hi => Nat.lt_of_lt_of_le (m1.lt i hi) hT.size⟩)
      | (obtain ⟨h1, r1, m1⟩ := unhide H1
         have hT : Calm w1 (w1.alloc (.cells #[.slice sa (keptOf (σ.kn x (2 * c + k))).length sc, int (moreOf (σ.kn x (2 * c + k)))] 126)) := (Touch.refl _ _).alloc _
         exact ⟨w1.heap.size, sa, sc, ρ1, rfl, box_cell (heap_alloc_new w1 _) 0, box_cell (heap_alloc_new w1 _) 1, (by cases hq : ρ1 w1.heap.size with | none => rfl | some r => exact absurd (h1.lt w1.heap.size (by rw [hq]; simp)) (by omega)), h1.calm hT, ⟨ownsRow_keep r1.1 hT (fun _ _ f => f), r1.2⟩, m1.trans (h1.mvCalm hT)⟩)
  case rest =>
    obtain ⟨g, sa, sc, ρ1, rfl, g0, g1, hgn, hH⟩ := hcut
    obtain ⟨hX1, hR1, hM1⟩ := unhide hH
    have hF1 := (unhide HF).mv (unhide HX).lt hM1 (by simp [turnR]) (by simp [turnR])
    obtain ⟨hr1, _, _, _, hf1, _⟩ := id hF1
    rw [encFr_move c k hk] at hf1
    have d1 : wc.cell? ⟨fb, 1, none⟩ = some (int c) := box_cell hf1 1
    have d2 : wc.cell? ⟨fb, 2, none⟩ = some (int k) := box_cell hf1 2
    have d3 : wc.cell? ⟨fb, 3, none⟩ = some (int age) := box_cell hf1 3
    have d4 : wc.cell? ⟨fb, 4, none⟩ = some (int (tstAt fl 0).fld) := box_cell hf1 4
    have d5 : wc.cell? ⟨fb, 5, none⟩ = some (int (tstAt fl 0).op) := box_cell hf1 5
    have d6 : wc.cell? ⟨fb, 6, none⟩ = some (int (tstAt fl 0).n) := box_cell hf1 6
    have d7 : wc.cell? ⟨fb, 7, none⟩ = some (int (tstAt fl 1).fld) := box_cell hf1 7
    have d8 : wc.cell? ⟨fb, 8, none⟩ = some (int (tstAt fl 1).op) := box_cell hf1 8
    have d9 : wc.cell? ⟨fb, 9, none⟩ = some (int (tstAt fl 1).n) := box_cell hf1 9
    have d10 : wc.cell? ⟨fb, 10, none⟩ = some (int (tstAt fl 2).fld) := box_cell hf1 10
    have d11 : wc.cell? ⟨fb, 11, none⟩ = some (int (tstAt fl 2).op) := box_cell hf1 11
    have d12 : wc.cell? ⟨fb, 12, none⟩ = some (int (tstAt fl 2).n) := box_cell hf1 12
    have d13 : wc.cell? ⟨fb, 13, none⟩ = some (int fl.length) := box_cell hf1 13
    have d20 : wc.cell? ⟨fb, 20, none⟩ = some (int old) := box_cell hf1 20
    have d21 : wc.cell? ⟨fb, 21, none⟩ = some (int new) := box_cell hf1 21
    have hfl1 := hX1.lt fb (by rw [hr1]; simp)
    have hgl : g < wc.heap.size := block_lt_of_cell g0
    have hbl1 := hX1.lt b (by rw [hX1.net]; simp)
    have HX1 := hide hX1
    have HM1 := hide hM1
    have HF1 := hide hF1
    have HR1 := hide hR1
    clear hX1 hM1 hF1 hR1 hH hf1 c1 c2 c3 c4 c5 c6 c7 c8 c9 c10 c11 c12 c13
    by_cases hxo : x = old
    · subst hxo
      have hxoi : ((x : Int) != (x : Int)) = false := by simp
      have hyn := hway rfl
      have hxn : x ≠ new := hon
      obtain ⟨n, hn0⟩ : ∃ n, n = (keptOf (σ.kn x (2 * c + k))).length := ⟨_, rfl⟩
      obtain ⟨mo, hmo⟩ : ∃ mo, mo = moreOf (σ.kn x (2 * c + k)) := ⟨_, rfl⟩
      have hst : σ.handle x (some y) (.move (2 * c + k) age fl x new) = (σ.know x (2 * c + k) (some ⟨age, fl, some y, [], 0, false⟩)).push x (next σ.par x new) (.rest (2 * c + k) (keptOf (σ.kn x (2 * c + k))) (moreOf (σ.kn x (2 * c + k))) new) := by
        simp only [Net.handle, if_true, hyn]
        cases σ.kn x (2 * c + k) <;> rfl
      have HST := hide hst
      rw [← hn0] at g0
      rw [← hmo] at g1
      have HN0 := hide hn0
      have HMO := hide hmo
      clear hst hn0 hmo hway hyn
      obtain ⟨hXF, hMF⟩ := (unhide HX1).addFrame (w' := (wc.alloc (.cells #[int 4, int c, int k, int age, int (tstAt fl 0).fld, int (tstAt fl 0).op, int (tstAt fl 0).n, int (tstAt fl 1).fld, int (tstAt fl 1).op, int (tstAt fl 1).n, int (tstAt fl 2).fld, int (tstAt fl 2).op, int (tstAt fl 2).n, int fl.length, int 0, int 0, int 0, int 0, int 0, int 0, int 0, int new, .slice sa n sc, int mo] 128)).drew) (((Touch.refl _ _).alloc _).drew) (Nat.le_refl _) (by simp [World.drew])
      have hFF : FrAt (wc.alloc (.cells #[int 4, int c, int k, int age, int (tstAt fl 0).fld, int (tstAt fl 0).op, int (tstAt fl 0).n, int (tstAt fl 1).fld, int (tstAt fl 1).op, int (tstAt fl 1).n, int (tstAt fl 2).fld, int (tstAt fl 2).op, int (tstAt fl 2).n, int fl.length, int 0, int 0, int 0, int 0, int 0, int 0, int 0, int new, .slice sa n sc, int mo] 128)).drew (roleAt ρ1 wc.heap.size .frame) (.rest (2 * c + k) (keptOf (σ.kn x (2 * c + k))) (moreOf (σ.kn x (2 * c + k))) new) wc.heap.size := by
        refine ⟨by simp [roleAt], age, encFil fl, .slice sa n sc, ?_, by simp [encFil, Tst.enc], by simp [encFil, Tst.enc, Value.oneCell'], ?_⟩
        · rw [encFr_rest c k hk, ← unhide HMO]; exact heap_alloc_new wc _
        · have hr := unhide HR1
          rw [← unhide HN0] at hr
          have h2 : RowAt (wc.alloc (.cells #[int 4, int c, int k, int age, int (tstAt fl 0).fld, int (tstAt fl 0).op, int (tstAt fl 0).n, int (tstAt fl 1).fld, int (tstAt fl 1).op, int (tstAt fl 1).n, int (tstAt fl 2).fld, int (tstAt fl 2).op, int (tstAt fl 2).n, int fl.length, int 0, int 0, int 0, int 0, int 0, int 0, int 0, int new, .slice sa n sc, int mo] 128)).drew (roleAt ρ1 wc.heap.size .frame) .rest 163 8 n ((keptOf (σ.kn x (2 * c + k))).flatMap (noteOf ((2 * c + k) % 2))) (.slice sa n sc) :=
            ⟨ownsRow_keep hr.1 (((Touch.refl (fun _ => False) _).alloc _).drew) (fun _ _ f => f), fun q hq => by
              have h3 := hr.2 q hq
              have h4 := (unhide HX1).lt q (by rw [h3]; simp)
              unfold roleAt; rw [if_neg (by omega)]; exact h3⟩
          have e : n = restN (.rest (2 * c + k) (keptOf (σ.kn x (2 * c + k))) (moreOf (σ.kn x (2 * c + k))) new) := unhide HN0
          rw [← e]
          exact h2
      have HXF := hide hXF
      have HMF := hide hMF
      have HFF := hide hFF
      clear hXF hMF hFF
      go_wp2
      have hT2 : ∀ (w2 : World), Mv (fun o => ∃ y, o = .chan x y) (roleAt ρ1 wc.heap.size .frame) (roleAt ρ1 wc.heap.size .frame) (wc.alloc (.cells #[int 4, int c, int k, int age, int (tstAt fl 0).fld, int (tstAt fl 0).op, int (tstAt fl 0).n, int (tstAt fl 1).fld, int (tstAt fl 1).op, int (tstAt fl 1).n, int (tstAt fl 2).fld, int (tstAt fl 2).op, int (tstAt fl 2).n, int fl.length, int 0, int 0, int 0, int 0, int 0, int 0, int 0, int new, .slice sa n sc, int mo] 128)).drew w2 → ∀ (i o : Nat) (v : Value), i < wc.heap.size → (ρ1 i = none ∨ ρ1 i = some .frame) → wc.cell? ⟨i, o, none⟩ = some v → w2.cell? ⟨i, o, none⟩ = some v := fun w2 m2 i o v hi hr hv => by
        have h1 : (wc.alloc (.cells #[int 4, int c, int k, int age, int (tstAt fl 0).fld, int (tstAt fl 0).op, int (tstAt fl 0).n, int (tstAt fl 1).fld, int (tstAt fl 1).op, int (tstAt fl 1).n, int (tstAt fl 2).fld, int (tstAt fl 2).op, int (tstAt fl 2).n, int fl.length, int 0, int 0, int 0, int 0, int 0, int 0, int 0, int new, .slice sa n sc, int mo] 128)).drew.cell? ⟨i, o, none⟩ = some v := (((Touch.refl (fun _ => False) wc).alloc _).drew).cell (p := ⟨i, o, none⟩) (fun f => f) hv
        refine m2.touch.cell (p := ⟨i, o, none⟩) (fun ⟨r, hr1, z, hz⟩ => ?_) h1
        unfold roleAt at hr1
        rw [if_neg (by show ¬ i = wc.heap.size; omega)] at hr1
        subst hz
        rcases hr with hr | hr <;> (rw [hr] at hr1; cases hr1)
      have HT2 := hide hT2
      clear hT2
      go_region_held3 (fun w' => w'.cell? ⟨fb, 1, none⟩ = some (int c) ∧ w'.cell? ⟨fb, 2, none⟩ = some (int k) ∧ w'.cell? ⟨fb, 3, none⟩ = some (int age) ∧ w'.cell? ⟨fb, 4, none⟩ = some (int (tstAt fl 0).fld) ∧ w'.cell? ⟨fb, 5, none⟩ = some (int (tstAt fl 0).op) ∧ w'.cell? ⟨fb, 6, none⟩ = some (int (tstAt fl 0).n) ∧ w'.cell? ⟨fb, 7, none⟩ = some (int (tstAt fl 1).fld) ∧ w'.cell? ⟨fb, 8, none⟩ = some (int (tstAt fl 1).op) ∧ w'.cell? ⟨fb, 9, none⟩ = some (int (tstAt fl 1).n) ∧ w'.cell? ⟨fb, 10, none⟩ = some (int (tstAt fl 2).fld) ∧ w'.cell? ⟨fb, 11, none⟩ = some (int (tstAt fl 2).op) ∧ w'.cell? ⟨fb, 12, none⟩ = some (int (tstAt fl 2).n) ∧ w'.cell? ⟨fb, 13, none⟩ = some (int fl.length) ∧ w'.cell? ⟨fb, 21, none⟩ = some (int new) ∧ w'.cell? ⟨g, 0, none⟩ = some (.slice sa n sc) ∧ w'.cell? ⟨g, 1, none⟩ = some (int mo))
        (first
          | exact ⟨unhide HT2 _ m2 _ _ _ hfl1 (Or.inr hr1) d1, unhide HT2 _ m2 _ _ _ hfl1 (Or.inr hr1) d2, unhide HT2 _ m2 _ _ _ hfl1 (Or.inr hr1) d3, unhide HT2 _ m2 _ _ _ hfl1 (Or.inr hr1) d4, unhide HT2 _ m2 _ _ _ hfl1 (Or.inr hr1) d5, unhide HT2 _ m2 _ _ _ hfl1 (Or.inr hr1) d6, unhide HT2 _ m2 _ _ _ hfl1 (Or.inr hr1) d7, unhide HT2 _ m2 _ _ _ hfl1 (Or.inr hr1) d8, unhide HT2 _ m2 _ _ _ hfl1 (Or.inr hr1) d9, unhide HT2 _ m2 _ _ _ hfl1 (Or.inr hr1) d10, unhide HT2 _ m2 _ _ _ hfl1 (Or.inr hr1) d11, unhide HT2 _ m2 _ _ _ hfl1 (Or.inr hr1) d12, unhide HT2 _ m2 _ _ _ hfl1 (Or.inr hr1) d13, unhide HT2 _ m2 _ _ _ hfl1 (Or.inr hr1) d21, unhide HT2 _ m2 _ _ _ hgl (Or.inl hgn) g0, unhide HT2 _ m2 _ _ _ hgl (Or.inl hgn) g1⟩
          | exact ⟨d1, d2, d3, d4, d5, d6, d7, d8, d9, d10, d11, d12, d13, d21, g0, g1⟩
          | exact ⟨((Touch.refl (fun _ => False) _).alloc _).cell (p := ⟨fb, 1, none⟩) (fun f => f) d1, ((Touch.refl (fun _ => False) _).alloc _).cell (p := ⟨fb, 2, none⟩) (fun f => f) d2, ((Touch.refl (fun _ => False) _).alloc _).cell (p := ⟨fb, 3, none⟩) (fun f => f) d3, ((Touch.refl (fun _ => False) _).alloc _).cell (p := ⟨fb, 4, none⟩) (fun f => f) d4, ((Touch.refl (fun _ => False) _).alloc _).cell (p := ⟨fb, 5, none⟩) (fun f => f) d5, ((Touch.refl (fun _ => False) _).alloc _).cell (p := ⟨fb, 6, none⟩) (fun f => f) d6, ((Touch.refl (fun _ => False) _).alloc _).cell (p := ⟨fb, 7, none⟩) (fun f => f) d7, ((Touch.refl (fun _ => False) _).alloc _).cell (p := ⟨fb, 8, none⟩) (fun f => f) d8, ((Touch.refl (fun _ => False) _).alloc _).cell (p := ⟨fb, 9, none⟩) (fun f => f) d9, ((Touch.refl (fun _ => False) _).alloc _).cell (p := ⟨fb, 10, none⟩) (fun f => f) d10, ((Touch.refl (fun _ => False) _).alloc _).cell (p := ⟨fb, 11, none⟩) (fun f => f) d11, ((Touch.refl (fun _ => False) _).alloc _).cell (p := ⟨fb, 12, none⟩) (fun f => f) d12, ((Touch.refl (fun _ => False) _).alloc _).cell (p := ⟨fb, 13, none⟩) (fun f => f) d13, ((Touch.refl (fun _ => False) _).alloc _).cell (p := ⟨fb, 21, none⟩) (fun f => f) d21, ((Touch.refl (fun _ => False) _).alloc _).cell (p := ⟨g, 0, none⟩) (fun f => f) g0, ((Touch.refl (fun _ => False) _).alloc _).cell (p := ⟨g, 1, none⟩) (fun f => f) g1⟩
          | go_keep)
        (first | (go_at_call 75; refine (passX (unhide HXF) T hx hn hxn (unhide HLEN) (unhide HFF)).mono ?_; rintro e w2 ⟨rfl, h2, m2⟩))
      all_goals go_end0
      all_goals exact ⟨rfl, _, by rw [unhide HST]; exact h2, (((unhide HM1).mono (fun _ _ => trivial)).trans ((unhide HMF).mono (fun _ f => f.elim))).trans (m2.mono (fun _ _ => trivial))⟩
    · have hxoi : ((x : Int) != (old : Int)) = true := by simp <;> omega
      have hst : σ.handle x (some y) (.move (2 * c + k) age fl old new) = (σ.know x (2 * c + k) (some ⟨age, fl, some y, [], 0, false⟩)).push x (next σ.par x old) (.move (2 * c + k) age fl old new) := by
        simp only [Net.handle, if_neg hxo]
        try rfl
      have HST := hide hst
      clear hst hway
      go_wp2_with (go_at_call 75; refine (passX (σ := σ.know x (2 * c + k) (some ⟨age, fl, some y, [], 0, false⟩)) (ρ := ρ1) (g := old) (f := .move (2 * c + k) age fl old new) (fb := fb) (unhide HX1) T hx ho hxo (unhide HLEN) (unhide HF1)).mono ?_; rintro e w2 ⟨rfl, h2, m2⟩)
      exact bodyPost_ret (v := .tuple #[]) (by simp [results, Try.results82, go_sem]) rfl ⟨rfl, ρ1, by rw [unhide HST]; exact h2, (((unhide HM1).mono (fun _ _ => trivial)).trans (m2.mono (fun _ _ => trivial)))⟩

/-- The slots below j have moved. -/
def comesTo (σ : Net) (c x old : Nat) : Nat → Net
  | 0 => σ
  | j + 1 => (comesTo σ c x old j).comes c x old j

theorem comes_q (σ : Net) (c x old k a y : Nat) : ((σ.comes c x old k).q a y).length ≤ (σ.q a y).length + 1 := by
  unfold Net.comes
  simp only
  split
  · simp only [Net.push]
    show (put2 σ.q x (next σ.par x old) (σ.q x (next σ.par x old) ++ [_]) a y).length ≤ _
    by_cases e : a = x ∧ y = next σ.par x old
    · obtain ⟨rfl, rfl⟩ := e; rw [put2_same]; simp
    · rw [put2_other _ _ e]; omega
  · omega
theorem comes_age (σ : Net) {c x old k j : Nat} (h : j ≠ k) : ((σ.comes c x old k).cl c).age j = (σ.cl c).age j := by
  unfold Net.comes
  simp only
  split
  · show ((σ.setCl c { σ.cl c with age := put (σ.cl c).age k ((σ.cl c).age k + 1) }).cl c).age j = _
    simp [Net.setCl, put_other _ _ h]
  · rfl

theorem comesTo_keeps (σ : Net) (c x old : Nat) : ∀ j, (comesTo σ c x old j).par = σ.par ∧ ((comesTo σ c x old j).cl c).here = (σ.cl c).here ∧ ((comesTo σ c x old j).cl c).used = (σ.cl c).used ∧ ((comesTo σ c x old j).cl c).fl = (σ.cl c).fl ∧ (∀ k, j ≤ k → ((comesTo σ c x old j).cl c).age k = (σ.cl c).age k) ∧ ∀ a y, ((comesTo σ c x old j).q a y).length ≤ (σ.q a y).length + j
  | 0 => ⟨rfl, rfl, rfl, rfl, fun _ _ => rfl, fun _ _ => Nat.le_refl _⟩
  | j + 1 => by
    obtain ⟨h1, h2, h3, h4, h5, h6⟩ := comesTo_keeps σ c x old j
    obtain ⟨k1, _, k3⟩ := comes_keeps (σ := comesTo σ c x old j) c x old j
    obtain ⟨k4, _, k5, k6⟩ := k3 c
    refine ⟨k1.trans h1, k4.trans h2, k5.trans h3, k6.trans h4, fun k hk => (comes_age _ (by omega)).trans (h5 k (by omega)), fun a y => ?_⟩
    have e1 := comes_q (comesTo σ c x old j) c x old j a y
    have e2 := h6 a y
    have e3 : comesTo σ c x old (j + 1) = (comesTo σ c x old j).comes c x old j := rfl
    rw [e3]; omega

/-- A box of a subscription, filled. -/
theorem box13 {w2 : World} {g : Nat} {c j A a0 a1 a2 a3 a4 a5 a6 a7 a8 a9 : Int} {u : Array Value} (hu : u.size = 13) (h : w2.heap[g]? = some (.cells u 121)) (h0 : u[0]? = some (int c)) (h1 : u[1]? = some (int j)) :
    ((((((((((((w2.setCell ⟨g, 2, none⟩ (int A)).setCell ⟨g, 3, none⟩ (int a0)).setCell ⟨g, 4, none⟩ (int a1)).setCell ⟨g, 5, none⟩ (int a2)).setCell ⟨g, 6, none⟩ (int a3)).setCell ⟨g, 7, none⟩ (int a4)).setCell ⟨g, 8, none⟩ (int a5)).setCell ⟨g, 9, none⟩ (int a6)).setCell ⟨g, 10, none⟩ (int a7)).setCell ⟨g, 11, none⟩ (int a8)).setCell ⟨g, 12, none⟩ (int a9))).heap[g]? = some (.cells #[int c, int j, int A, int a0, int a1, int a2, int a3, int a4, int a5, int a6, int a7, int a8, int a9] 121) := by
  obtain ⟨l⟩ := u
  match l, hu with
  | [u0, u1, u2, u3, u4, u5, u6, u7, u8, u9, u10, u11, u12], _ =>
    simp at h0 h1
    subst h0; subst h1
    have e0 := heap_setCell_same _ _ 2 _ _ (int A) h
    have e1 := heap_setCell_same _ _ 3 _ _ (int a0) e0
    have e2 := heap_setCell_same _ _ 4 _ _ (int a1) e1
    have e3 := heap_setCell_same _ _ 5 _ _ (int a2) e2
    have e4 := heap_setCell_same _ _ 6 _ _ (int a3) e3
    have e5 := heap_setCell_same _ _ 7 _ _ (int a4) e4
    have e6 := heap_setCell_same _ _ 8 _ _ (int a5) e5
    have e7 := heap_setCell_same _ _ 9 _ _ (int a6) e6
    have e8 := heap_setCell_same _ _ 10 _ _ (int a7) e7
    have e9 := heap_setCell_same _ _ 11 _ _ (int a8) e8
    have e10 := heap_setCell_same _ _ 12 _ _ (int a9) e9
    simpa using e10

/-- Where a subscription that moves stands. -/
structure MvAt (w wx : World) (b g : Nat) (ρ ρ' : Nat → Option Role) (τ : Net) (cs : Array Value) : Prop where
  net : XN wx b ρ' τ
  mv : Mv allR ρ ρ' w wx
  box : wx.heap[g]? = some (.cells cs 121)
  non : ρ' g = none

set_option maxRecDepth 100000 in
set_option maxHeartbeats 4000000 in
/-- MOVE. -/
theorem moveX {w : World} {b : Nat} {ρ : Nat → Option Role} {σ : Net} (h : XN w b ρ σ) (T : Tree σ.par) {c x old : Nat} (hc : c < 4) (hx : x < σ.n) (ho : old < σ.n) (hne : x ≠ old) (hh : (σ.cl c).here = some x) (hage : ∀ k, k < 2 → -1 ≤ (σ.cl c).age k ∧ (σ.cl c).age k < 2199023255552) (hlen : ∀ y, (σ.q x y).length < 1990) :
    Calls Try.prog 43 #[.pointer (some ⟨b, 0, none⟩), int c, int old] w fun e w' => e = .returned (.tuple #[]) ∧ ∃ ρ', XN w' b ρ' (comesTo σ c x old 2) ∧ Mv allR ρ ρ' w w' := by
  have hci : (c : Int) < 4 := by omega
  have hx6 : x < 6 := Nat.lt_of_lt_of_le hx (size_le T)
  have hxi : (x : Int) < 6 := by omega
  have HX := hide h
  clear h
  go_enter Try.func43, Try.ntmps43
  go_wp2
  go_loopw [14] (fun p wr => ∃ j : Nat, j ≤ 2 ∧ p = int j ∧ ∃ ρ', XN wr b ρ' (comesTo σ c x old j) ∧ Mv allR ρ ρ' w wr) (fun p _ => 2 - (intOf p).toNat)
  case atStart => exact ⟨0, by omega, rfl, ρ, unhide HX, Mv.refl (unhide HX).lt⟩
  case round =>
    obtain ⟨j, hj, rfl, ρ1, hX1, hM1⟩ := hrel
    by_cases hlt : j < 2
    · have hji : (j : Int) < 2 := by omega
      obtain ⟨kp1, kp2, kp3, kp4, kp5, kp6⟩ := comesTo_keeps σ c x old j
      generalize hτ : comesTo σ c x old j = τ at *
      have hcs : comesTo σ c x old (j + 1) = τ.comes c x old j := by rw [← hτ]; rfl
      have hC := hX1.cli c hc
      have hat : wr.cell? ⟨b, 86 + c * 31, none⟩ = some (int x) := by have := hC.here; rw [kp2, hh] at this; exact this
      have husd := hC.used j hlt
      have hagc := hC.age j hlt
      have hbl := hX1.lt b (by rw [hX1.net]; simp)
      have HCS := hide hcs
      have HM1 := hide hM1
      have hag := hage j hlt
      have hag5 := kp5 j (Nat.le_refl _)
      cases hu : (τ.cl c).used j with
      | false =>
        rw [hu] at husd
        have hst : τ.comes c x old j = τ := by simp [Net.comes, hu]
        have HX1 := hide hX1
        clear hX1 hM1 hC hcs hτ
        go_wp2_with (go_at_call 60; refine (hasSlot_any b (86 + c * 31) j false _ hlt husd).mono ?_; rintro e w1 ⟨rfl, hw1⟩; have hw1 := hw1.symm; subst hw1)
        go_roundw
        case rel => exact ⟨j + 1, by omega, by go_num, ρ1, by rw [unhide HCS, hst]; exact unhide HX1, unhide HM1⟩
        case measure => simp [intOf]; omega
      | true =>
        rw [hu] at husd
        have hfil := hC.fl j hlt
        rw [hu] at hfil
        obtain ⟨A, hA⟩ : ∃ A, A = (τ.cl c).age j + 1 := ⟨_, rfl⟩
        have hwr : wrap64 ((τ.cl c).age j + 1) = A := by rw [hA]; simp only [wrap64]; rw [hag5]; omega
        obtain ⟨fl, hfl⟩ : ∃ fl, fl = (τ.cl c).fl j := ⟨_, rfl⟩
        rw [← hfl] at hfil
        have hnr : ρ1 wr.heap.size = none := by
          cases hq : ρ1 wr.heap.size with
          | none => rfl
          | some r => have := hX1.lt wr.heap.size (by rw [hq]; simp); omega
        have hT : Tree τ.par := by rw [kp1]; exact T
        have hxn : x < τ.n := by simp only [Net.n, kp1]; exact hx
        have hon : old < τ.n := by simp only [Net.n, kp1]; exact ho
        have hlq : ∀ y, (τ.q x y).length < 2000 := fun y => by have h1 := kp6 x y; have h2 := hlen y; omega
        have hst : τ.comes c x old j = ((τ.setCl c { τ.cl c with age := put (τ.cl c).age j A }).know x (2 * c + j) (some ⟨A, fl, none, [], 0, true⟩)).push x (next τ.par x old) (.move (2 * c + j) A fl old x) := by
          rw [hA, hfl]; simp only [Net.comes, hu, if_true]
        have hcl1 : (τ.setCl c { τ.cl c with age := put (τ.cl c).age j A }).cl c = { τ.cl c with age := put (τ.cl c).age j A } := by simp [Net.setCl]
        have hhere1 : ((τ.setCl c { τ.cl c with age := put (τ.cl c).age j A }).cl c).here = some x := by rw [hcl1]; exact kp2.trans hh
        have HST := hide hst
        have HX1 := hide hX1
        have HNR := hide hnr
        have HFI := hide hfil
        have HLQ := hide hlq
        have HH1 := hide hhere1
        clear hX1 hM1 hC hcs hτ hst hnr hfil hlq hcl1 hhere1 hlen hage kp6 kp5 hA hfl hag5
        go_wp2_with (first
          | (go_at_call 60; refine (hasSlot_any b (86 + c * 31) j true _ hlt husd).mono ?_; rintro e w1 ⟨rfl, hw1⟩; have hw1 := hw1.symm; subst hw1)
          | (go_at_call 73; refine (cmove_any b (86 + c * 31) j ((τ.cl c).age j) fl _ hlt ?a1 ?a2 ?a3).mono ?_
             case a1 => exact ((Touch.refl (fun _ => False) _).alloc _).cell (p := ⟨b, 86 + c * 31 + 4 + j * 13 + 1, none⟩) (fun f => f) hagc
             case a2 => exact (unhide HFI).keep (fun i v _ hv => ((Touch.refl (fun _ => False) _).alloc _).cell (p := ⟨b, _, none⟩) (fun f => f) hv)
             case a3 => intro o'; exact ((unhide HX1).calm ((Touch.refl _ _).alloc _)).fr o'
             rw [hwr]
             rintro e w2 ⟨rfl, ht2⟩
             obtain ⟨hX2, hM2⟩ := ((unhide HX1).calm (((Touch.refl (fun _ => False) wr).alloc (.cells #[int c, int j, int 0, int 0, int 0, int 0, int 0, int 0, int 0, int 0, int 0, int 0, int 0] 121)))).setAge hc hlt A
             have hbx2 : w2.heap[wr.heap.size]? = some (.cells #[int c, int j, int 0, int 0, int 0, int 0, int 0, int 0, int 0, int 0, int 0, int 0, int 0] 121) := (ht2.block wr.heap.size (by simp [World.setCell]) (fun f => f)).trans ((heap_setCell_other _ _ (by omega)).trans (heap_alloc_new wr _))
             have HX2 := hide (hX2.calm ht2)
             have HM2 := hide (((unhide HM1).trans ((Mv.calm (unhide HX1).lt ((Touch.refl _ _).alloc _)).trans (hM2.mono (fun _ _ => trivial)))).trans (Mv.calm hX2.lt ht2))
             have HBX2 := hide hbx2
             have q2 : w2.cell? ⟨wr.heap.size, 2, none⟩ = some (int 0) := box_cell hbx2 2
             have z2 : w2.frozen? ⟨wr.heap.size, 2, none⟩ = false := box_frozen hbx2 2
             have q3 : w2.cell? ⟨wr.heap.size, 3, none⟩ = some (int 0) := box_cell hbx2 3
             have z3 : w2.frozen? ⟨wr.heap.size, 3, none⟩ = false := box_frozen hbx2 3
             have q4 : w2.cell? ⟨wr.heap.size, 4, none⟩ = some (int 0) := box_cell hbx2 4
             have z4 : w2.frozen? ⟨wr.heap.size, 4, none⟩ = false := box_frozen hbx2 4
             have q5 : w2.cell? ⟨wr.heap.size, 5, none⟩ = some (int 0) := box_cell hbx2 5
             have z5 : w2.frozen? ⟨wr.heap.size, 5, none⟩ = false := box_frozen hbx2 5
             have q6 : w2.cell? ⟨wr.heap.size, 6, none⟩ = some (int 0) := box_cell hbx2 6
             have z6 : w2.frozen? ⟨wr.heap.size, 6, none⟩ = false := box_frozen hbx2 6
             have q7 : w2.cell? ⟨wr.heap.size, 7, none⟩ = some (int 0) := box_cell hbx2 7
             have z7 : w2.frozen? ⟨wr.heap.size, 7, none⟩ = false := box_frozen hbx2 7
             have q8 : w2.cell? ⟨wr.heap.size, 8, none⟩ = some (int 0) := box_cell hbx2 8
             have z8 : w2.frozen? ⟨wr.heap.size, 8, none⟩ = false := box_frozen hbx2 8
             have q9 : w2.cell? ⟨wr.heap.size, 9, none⟩ = some (int 0) := box_cell hbx2 9
             have z9 : w2.frozen? ⟨wr.heap.size, 9, none⟩ = false := box_frozen hbx2 9
             have q10 : w2.cell? ⟨wr.heap.size, 10, none⟩ = some (int 0) := box_cell hbx2 10
             have z10 : w2.frozen? ⟨wr.heap.size, 10, none⟩ = false := box_frozen hbx2 10
             have q11 : w2.cell? ⟨wr.heap.size, 11, none⟩ = some (int 0) := box_cell hbx2 11
             have z11 : w2.frozen? ⟨wr.heap.size, 11, none⟩ = false := box_frozen hbx2 11
             have q12 : w2.cell? ⟨wr.heap.size, 12, none⟩ = some (int 0) := box_cell hbx2 12
             have z12 : w2.frozen? ⟨wr.heap.size, 12, none⟩ = false := box_frozen hbx2 12
             have hsz2 : wr.heap.size < w2.heap.size := block_lt_of_cell q2
             clear hX2 hM2 hbx2 ht2))
        obtain ⟨W3, hW3⟩ : ∃ W3, W3 = (((((((((((w2.setCell ⟨wr.heap.size, 2, none⟩ (int A)).setCell ⟨wr.heap.size, 3, none⟩ (int (tstAt fl 0).fld)).setCell ⟨wr.heap.size, 4, none⟩ (int (tstAt fl 0).op)).setCell ⟨wr.heap.size, 5, none⟩ (int (tstAt fl 0).n)).setCell ⟨wr.heap.size, 6, none⟩ (int (tstAt fl 1).fld)).setCell ⟨wr.heap.size, 7, none⟩ (int (tstAt fl 1).op)).setCell ⟨wr.heap.size, 8, none⟩ (int (tstAt fl 1).n)).setCell ⟨wr.heap.size, 9, none⟩ (int (tstAt fl 2).fld)).setCell ⟨wr.heap.size, 10, none⟩ (int (tstAt fl 2).op)).setCell ⟨wr.heap.size, 11, none⟩ (int (tstAt fl 2).n)).setCell ⟨wr.heap.size, 12, none⟩ (int fl.length)) := ⟨_, rfl⟩
        rw [← hW3]
        have hM3 : MvAt w W3 b wr.heap.size ρ ρ1 (τ.setCl c { τ.cl c with age := put (τ.cl c).age j A }) #[int c, int j, int A, int (tstAt fl 0).fld, int (tstAt fl 0).op, int (tstAt fl 0).n, int (tstAt fl 1).fld, int (tstAt fl 1).op, int (tstAt fl 1).n, int (tstAt fl 2).fld, int (tstAt fl 2).op, int (tstAt fl 2).n, int fl.length] := by
          have ht3 : Touch (fun i => i = wr.heap.size) w2 W3 := by
            rw [hW3]
            exact (((((((((((Touch.refl (fun i => i = wr.heap.size) w2).setCell (p := ⟨wr.heap.size, 2, none⟩) (fun _ => rfl) _).setCell (p := ⟨wr.heap.size, 3, none⟩) (fun _ => rfl) _).setCell (p := ⟨wr.heap.size, 4, none⟩) (fun _ => rfl) _).setCell (p := ⟨wr.heap.size, 5, none⟩) (fun _ => rfl) _).setCell (p := ⟨wr.heap.size, 6, none⟩) (fun _ => rfl) _).setCell (p := ⟨wr.heap.size, 7, none⟩) (fun _ => rfl) _).setCell (p := ⟨wr.heap.size, 8, none⟩) (fun _ => rfl) _).setCell (p := ⟨wr.heap.size, 9, none⟩) (fun _ => rfl) _).setCell (p := ⟨wr.heap.size, 10, none⟩) (fun _ => rfl) _).setCell (p := ⟨wr.heap.size, 11, none⟩) (fun _ => rfl) _).setCell (p := ⟨wr.heap.size, 12, none⟩) (fun _ => rfl) _
          have m2 := unhide HM2
          have hwz : w.heap.size ≤ wr.heap.size := (unhide HM1).touch.size
          refine ⟨(unhide HX2).keep ht3 (fun i hi e => hi (by rw [e]; exact unhide HNR)), ⟨⟨ht3.os.trans m2.touch.os, ht3.tape.trans m2.touch.tape, ht3.output.trans m2.touch.output, Nat.le_trans m2.touch.size ht3.size, fun i hi hs => (ht3.block i (Nat.lt_of_lt_of_le hi m2.touch.size) (by omega)).trans (m2.touch.block i hi hs)⟩, m2.role, fun i hi => Nat.lt_of_lt_of_le (m2.lt i hi) ht3.size⟩, ?_, unhide HNR⟩
          rw [hW3]
          exact box13 (by rfl) (unhide HBX2) rfl rfl
        have HM3 := hide hM3
        clear hW3 hM3 HX2 HM2 HBX2 q2 q3 q4 q5 q6 q7 q8 q9 q10 q11 q12 z2 z3 z4 z5 z6 z7 z8 z9 z10 z11 z12 hsz2 hat hagc husd
        go_cut [] (fun wx => ∃ ρ2, MvAt w wx b wr.heap.size ρ ρ2 ((τ.setCl c { τ.cl c with age := put (τ.cl c).age j A }).know x (2 * c + j) (some ⟨A, fl, none, [], 0, true⟩)) #[int c, int j, int A, int (tstAt fl 0).fld, int (tstAt fl 0).op, int (tstAt fl 0).n, int (tstAt fl 1).fld, int (tstAt fl 1).op, int (tstAt fl 1).n, int (tstAt fl 2).fld, int (tstAt fl 2).op, int (tstAt fl 2).n, int fl.length])
        case first =>
          have hbx := (unhide HM3).box
          have hat3 : W3.cell? ⟨b, 86 + c * 31, none⟩ = some (int x) := by have := ((unhide HM3).net.cli c hc).here; rw [unhide HH1] at this; exact this
          go_region_held3 (fun w' => w'.cell? ⟨wr.heap.size, 0, none⟩ = some (int c) ∧ w'.cell? ⟨wr.heap.size, 1, none⟩ = some (int j) ∧ w'.cell? ⟨wr.heap.size, 2, none⟩ = some (int A) ∧ w'.cell? ⟨wr.heap.size, 3, none⟩ = some (int (tstAt fl 0).fld) ∧ w'.cell? ⟨wr.heap.size, 4, none⟩ = some (int (tstAt fl 0).op) ∧ w'.cell? ⟨wr.heap.size, 5, none⟩ = some (int (tstAt fl 0).n) ∧ w'.cell? ⟨wr.heap.size, 6, none⟩ = some (int (tstAt fl 1).fld) ∧ w'.cell? ⟨wr.heap.size, 7, none⟩ = some (int (tstAt fl 1).op) ∧ w'.cell? ⟨wr.heap.size, 8, none⟩ = some (int (tstAt fl 1).n) ∧ w'.cell? ⟨wr.heap.size, 9, none⟩ = some (int (tstAt fl 2).fld) ∧ w'.cell? ⟨wr.heap.size, 10, none⟩ = some (int (tstAt fl 2).op) ∧ w'.cell? ⟨wr.heap.size, 11, none⟩ = some (int (tstAt fl 2).n) ∧ w'.cell? ⟨wr.heap.size, 12, none⟩ = some (int fl.length) ∧ w'.cell? ⟨b, 86 + c * 31, none⟩ = some (int x))
            (first
              | exact ⟨box_cell hbx 0, box_cell hbx 1, box_cell hbx 2, box_cell hbx 3, box_cell hbx 4, box_cell hbx 5, box_cell hbx 6, box_cell hbx 7, box_cell hbx 8, box_cell hbx 9, box_cell hbx 10, box_cell hbx 11, box_cell hbx 12, hat3⟩
              | exact ⟨box_cell hbx4 0, box_cell hbx4 1, box_cell hbx4 2, box_cell hbx4 3, box_cell hbx4 4, box_cell hbx4 5, box_cell hbx4 6, box_cell hbx4 7, box_cell hbx4 8, box_cell hbx4 9, box_cell hbx4 10, box_cell hbx4 11, box_cell hbx4 12, hat4⟩
              | go_keep)
            (first
              | (go_at_call 49; refine (at_any b (86 + c * 31) x _ ?_).mono ?_; exact hat3; rintro e w4 ⟨rfl, rfl⟩)
              | (go_at_call 74; refine (awaitX (w := W3.drew) ((unhide HM3).net.calm (Touch.refl _ _).drew) hx6 hc hlt A fl).mono ?_; rintro e w4 ⟨rfl, ρ4, h4, m4⟩
                 have hbx4 : w4.heap[wr.heap.size]? = some (.cells #[int c, int j, int A, int (tstAt fl 0).fld, int (tstAt fl 0).op, int (tstAt fl 0).n, int (tstAt fl 1).fld, int (tstAt fl 1).op, int (tstAt fl 1).n, int (tstAt fl 2).fld, int (tstAt fl 2).op, int (tstAt fl 2).n, int fl.length] 121) := (m4.touch.block wr.heap.size (Array.getElem?_eq_some_iff.1 hbx).1 (fun ⟨r, hr, _⟩ => by rw [unhide HNR] at hr; cases hr)).trans hbx
                 have hat4 : w4.cell? ⟨b, 86 + c * 31, none⟩ = some (int x) := by
                   have h5 := (h4.cli c hc).here
                   have h6 : (((τ.setCl c { τ.cl c with age := put (τ.cl c).age j A }).know x (2 * c + j) (some ⟨A, fl, none, [], 0, true⟩)).cl c).here = some x := unhide HH1
                   rw [h6] at h5; exact h5))
          all_goals go_wp2_with fail
          all_goals go_meet
          all_goals exact ⟨ρ4, h4, (unhide HM3).mv.trans ((Mv.calm (unhide HM3).net.lt (Touch.refl _ _).drew).trans (m4.mono (fun _ _ => trivial))), hbx4, m4.noRole (Array.getElem?_eq_some_iff.1 hbx).1 (unhide HNR)⟩
        case rest =>
          obtain ⟨ρ4, hM4⟩ := hcut
          have hbx := hM4.box
          have hgl : wr.heap.size < wc.heap.size := (Array.getElem?_eq_some_iff.1 hbx).1
          have hat4 : wc.cell? ⟨b, 86 + c * 31, none⟩ = some (int x) := by
            have h5 := (hM4.net.cli c hc).here
            have h6 : (((τ.setCl c { τ.cl c with age := put (τ.cl c).age j A }).know x (2 * c + j) (some ⟨A, fl, none, [], 0, true⟩)).cl c).here = some x := unhide HH1
            rw [h6] at h5; exact h5
          have hblc := hM4.net.lt b (by rw [hM4.net.net]; simp)
          obtain ⟨hXF, hMF⟩ := hM4.net.addFrame (w' := (wc.alloc (.cells #[int 3, int c, int j, int A, int (tstAt fl 0).fld, int (tstAt fl 0).op, int (tstAt fl 0).n, int (tstAt fl 1).fld, int (tstAt fl 1).op, int (tstAt fl 1).n, int (tstAt fl 2).fld, int (tstAt fl 2).op, int (tstAt fl 2).n, int fl.length, int 0, int 0, int 0, int 0, int 0, int 0, int old, int x, nilS, int 0] 128)).drew) (((Touch.refl _ _).alloc _).drew) (Nat.le_refl _) (by simp [World.drew])
          have hFF : FrAt (wc.alloc (.cells #[int 3, int c, int j, int A, int (tstAt fl 0).fld, int (tstAt fl 0).op, int (tstAt fl 0).n, int (tstAt fl 1).fld, int (tstAt fl 1).op, int (tstAt fl 1).n, int (tstAt fl 2).fld, int (tstAt fl 2).op, int (tstAt fl 2).n, int fl.length, int 0, int 0, int 0, int 0, int 0, int 0, int old, int x, nilS, int 0] 128)).drew (roleAt ρ4 wc.heap.size .frame) (.move (2 * c + j) A fl old x) wc.heap.size := by
            refine ⟨by simp [roleAt], 0, [int 0, int 0, int 0, int 0, int 0, int 0, int 0, int 0, int 0, int 0], nilS, ?_, rfl, by simp [Value.oneCell'], ⟨⟨rfl, Or.inl ⟨rfl, rfl⟩⟩, fun g hg => by cases hg⟩⟩
            rw [encFr_move c j hlt]; exact heap_alloc_new wc _
          have HXF := hide hXF
          have HMF := hide hMF
          have HFF := hide hFF
          have HM4 := hide hM4
          have HBX := hide hbx
          have HLQ2 : Hid (∀ y, (((τ.setCl c { τ.cl c with age := put (τ.cl c).age j A }).know x (2 * c + j) (some ⟨A, fl, none, [], 0, true⟩)).q x y).length < 2000) := unhide HLQ
          have HBF : Hid ((wc.alloc (.cells #[int 3, int c, int j, int A, int (tstAt fl 0).fld, int (tstAt fl 0).op, int (tstAt fl 0).n, int (tstAt fl 1).fld, int (tstAt fl 1).op, int (tstAt fl 1).n, int (tstAt fl 2).fld, int (tstAt fl 2).op, int (tstAt fl 2).n, int fl.length, int 0, int 0, int 0, int 0, int 0, int 0, int old, int x, nilS, int 0] 128)).drew.heap[wr.heap.size]? = some (.cells #[int c, int j, int A, int (tstAt fl 0).fld, int (tstAt fl 0).op, int (tstAt fl 0).n, int (tstAt fl 1).fld, int (tstAt fl 1).op, int (tstAt fl 1).n, int (tstAt fl 2).fld, int (tstAt fl 2).op, int (tstAt fl 2).n, int fl.length] 121)) := (Below.heap_alloc _ _ _ hgl).trans (unhide HBX)
          have HAF : Hid ((wc.alloc (.cells #[int 3, int c, int j, int A, int (tstAt fl 0).fld, int (tstAt fl 0).op, int (tstAt fl 0).n, int (tstAt fl 1).fld, int (tstAt fl 1).op, int (tstAt fl 1).n, int (tstAt fl 2).fld, int (tstAt fl 2).op, int (tstAt fl 2).n, int fl.length, int 0, int 0, int 0, int 0, int 0, int 0, int old, int x, nilS, int 0] 128)).drew.cell? ⟨b, 86 + c * 31, none⟩ = some (int x)) := ((Touch.refl (fun _ => False) _).alloc _).cell (p := ⟨b, 86 + c * 31, none⟩) (fun f => f) hat4
          have HT2 : Hid (∀ w5 : World, Mv (fun o => ∃ y, o = .chan x y) (roleAt ρ4 wc.heap.size .frame) (roleAt ρ4 wc.heap.size .frame) (wc.alloc (.cells #[int 3, int c, int j, int A, int (tstAt fl 0).fld, int (tstAt fl 0).op, int (tstAt fl 0).n, int (tstAt fl 1).fld, int (tstAt fl 1).op, int (tstAt fl 1).n, int (tstAt fl 2).fld, int (tstAt fl 2).op, int (tstAt fl 2).n, int fl.length, int 0, int 0, int 0, int 0, int 0, int 0, int old, int x, nilS, int 0] 128)).drew w5 → w5.heap[wr.heap.size]? = some (.cells #[int c, int j, int A, int (tstAt fl 0).fld, int (tstAt fl 0).op, int (tstAt fl 0).n, int (tstAt fl 1).fld, int (tstAt fl 1).op, int (tstAt fl 1).n, int (tstAt fl 2).fld, int (tstAt fl 2).op, int (tstAt fl 2).n, int fl.length] 121)) := fun w5 m5 => by
            refine (m5.touch.block wr.heap.size (by simp [World.drew]; omega) (fun ⟨r, hr, _⟩ => ?_)).trans ((Below.heap_alloc _ _ _ hgl).trans (unhide HBX))
            unfold roleAt at hr
            rw [if_neg (by omega), (unhide HM4).non] at hr; cases hr
          clear hXF hMF hFF hM4
          go_wp2
          go_region_held3 (fun w' => w'.cell? ⟨wr.heap.size, 0, none⟩ = some (int c) ∧ w'.cell? ⟨wr.heap.size, 1, none⟩ = some (int j) ∧ w'.cell? ⟨wr.heap.size, 2, none⟩ = some (int A) ∧ w'.cell? ⟨wr.heap.size, 3, none⟩ = some (int (tstAt fl 0).fld) ∧ w'.cell? ⟨wr.heap.size, 4, none⟩ = some (int (tstAt fl 0).op) ∧ w'.cell? ⟨wr.heap.size, 5, none⟩ = some (int (tstAt fl 0).n) ∧ w'.cell? ⟨wr.heap.size, 6, none⟩ = some (int (tstAt fl 1).fld) ∧ w'.cell? ⟨wr.heap.size, 7, none⟩ = some (int (tstAt fl 1).op) ∧ w'.cell? ⟨wr.heap.size, 8, none⟩ = some (int (tstAt fl 1).n) ∧ w'.cell? ⟨wr.heap.size, 9, none⟩ = some (int (tstAt fl 2).fld) ∧ w'.cell? ⟨wr.heap.size, 10, none⟩ = some (int (tstAt fl 2).op) ∧ w'.cell? ⟨wr.heap.size, 11, none⟩ = some (int (tstAt fl 2).n) ∧ w'.cell? ⟨wr.heap.size, 12, none⟩ = some (int fl.length) ∧ w'.cell? ⟨b, 86 + c * 31, none⟩ = some (int x))
            (first
              | exact ⟨box_cell (unhide HBX) 0, box_cell (unhide HBX) 1, box_cell (unhide HBX) 2, box_cell (unhide HBX) 3, box_cell (unhide HBX) 4, box_cell (unhide HBX) 5, box_cell (unhide HBX) 6, box_cell (unhide HBX) 7, box_cell (unhide HBX) 8, box_cell (unhide HBX) 9, box_cell (unhide HBX) 10, box_cell (unhide HBX) 11, box_cell (unhide HBX) 12, hat4⟩
              | exact ⟨box_cell (unhide HBF) 0, box_cell (unhide HBF) 1, box_cell (unhide HBF) 2, box_cell (unhide HBF) 3, box_cell (unhide HBF) 4, box_cell (unhide HBF) 5, box_cell (unhide HBF) 6, box_cell (unhide HBF) 7, box_cell (unhide HBF) 8, box_cell (unhide HBF) 9, box_cell (unhide HBF) 10, box_cell (unhide HBF) 11, box_cell (unhide HBF) 12, unhide HAF⟩
              | exact ⟨box_cell hbx5 0, box_cell hbx5 1, box_cell hbx5 2, box_cell hbx5 3, box_cell hbx5 4, box_cell hbx5 5, box_cell hbx5 6, box_cell hbx5 7, box_cell hbx5 8, box_cell hbx5 9, box_cell hbx5 10, box_cell hbx5 11, box_cell hbx5 12, hat5⟩
              | go_keep)
            (first
              | (go_at_call 49; refine (at_any b (86 + c * 31) x _ ?_).mono ?_; (first | exact hat4 | exact ((Touch.refl (fun _ => False) _).alloc _).cell (p := ⟨b, 86 + c * 31, none⟩) (fun f => f) hat4); rintro e w5 ⟨rfl, rfl⟩)
              | (go_at_call 75; refine (passX (unhide HXF) hT hxn hon hne (unhide HLQ2) (unhide HFF)).mono ?_; rintro e w5 ⟨rfl, h5, m5⟩
                 have hbx5 := unhide HT2 _ m5
                 have hat5 : w5.cell? ⟨b, 86 + c * 31, none⟩ = some (int x) := by
                   have h7 := (h5.cli c hc).here
                   have h6 : ((((τ.setCl c { τ.cl c with age := put (τ.cl c).age j A }).know x (2 * c + j) (some ⟨A, fl, none, [], 0, true⟩)).push x (next ((τ.setCl c { τ.cl c with age := put (τ.cl c).age j A }).know x (2 * c + j) (some ⟨A, fl, none, [], 0, true⟩)).par x old) (.move (2 * c + j) A fl old x)).cl c).here = some x := unhide HH1
                   rw [h6] at h7; exact h7))
          all_goals go_wp2
          all_goals go_roundw
          all_goals first
            | exact ⟨j + 1, by omega, by go_num, _, by rw [unhide HCS, unhide HST]; exact h5, ((unhide HM4).mv.trans ((unhide HMF).mono (fun _ f => f.elim))).trans (m5.mono (fun _ _ => trivial))⟩
            | (simp [intOf]; omega)
    · have hji : ¬ (j : Int) < 2 := by omega
      have hj2 : j = 2 := by omega
      subst hj2
      have HX1 := hide hX1
      have HM1 := hide hM1
      clear hX1 hM1
      go_wp2
      go_end0
      exact ⟨rfl, ρ1, unhide HX1, unhide HM1⟩

end Go.Proofs.Ytodfcpblcpogiaa

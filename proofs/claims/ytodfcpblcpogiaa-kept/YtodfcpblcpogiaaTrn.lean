/-
  A subscription moves: what was known is handed over.
-/
import Derived.Test.YtodfcpblcpogiaaNxt
import Derived.Test.YtodfcpblcpogiaaSub
namespace Go.Proofs.Ytodfcpblcpogiaa
open Go.RowKit

/-- A broker knows something new: a pointer in the net's block, and a block of its own. -/
def Knew (w W : World) (b o : Nat) (cs : Array Value) : Prop := ∃ kb, w.heap.size ≤ kb ∧ W.heap[kb]? = some (.cells cs 160) ∧ Touch (fun i => i = b) w W ∧ W.heap[b]? = (w.setCell ⟨b, o, none⟩ (ptr kb)).heap[b]?

theorem XN.knew {w W : World} {b : Nat} {ρ : Nat → Option Role} {σ : Net} (h : XN w b ρ σ) {x c k : Nat} (hx : x < 6) (hc : c < 4) (hk : k < 2) {f : Fact} (hkept : f.kept = []) (hK : Knew w W b (38 + x * 8 + c * 2 + k) (encKn (2 * c + k) f (.slice none 0 0)).toArray) :
    ∃ ρ', XN W b ρ' (σ.know x (2 * c + k) (some f)) ∧ Mv (fun r => r = .net) ρ ρ' w W := by
  obtain ⟨v, hv1, _⟩ := h.known x c k hx hc hk
  obtain ⟨kb, h1, h2, h3, hbk⟩ := hK
  obtain ⟨r1, r2⟩ := h.know (kb := kb) (W := W) hx hc hk (f := f) hkept h1 h2
    (cell_of_heap hbk (World.cell?_setCell_same w _ _ hv1)) (fun o v ho hv => cell_of_heap hbk (cell_setCell_ne w ho hv)) (by rw [hbk]; exact typ_setCell h.typ _ _)
    (fun o => (World.frozen?_of_block (w := w.setCell ⟨b, 38 + x * 8 + c * 2 + k, none⟩ (ptr kb)) (a := ⟨b, o, none⟩) hbk).trans (frozen_setCell _ _ _ _ _ (h.fr o))) h3
  exact ⟨_, r1, r2⟩

theorem heap_setCell_cong {w W : World} {b o : Nat} (v : Value) (hb : W.heap[b]? = w.heap[b]?) (ht : ∃ cs t, w.heap[b]? = some (.cells cs t)) : (W.setCell ⟨b, o, none⟩ v).heap[b]? = (w.setCell ⟨b, o, none⟩ v).heap[b]? := by
  obtain ⟨cs, t, h⟩ := ht
  rw [heap_setCell_same _ _ _ _ _ _ h, heap_setCell_same _ _ _ _ _ _ (hb.trans h)]

/-- The world that Turn leaves. -/
theorem knew_turn {w W : World} {b o : Nat} (hcal : Calm w W) (hW : W.heap.size = w.heap.size + 2) (hb : b < w.heap.size) (ht : ∃ cs t, w.heap[b]? = some (.cells cs t)) (kv mo : Value) (u cs : Array Value) :
    Knew w (((((W.setCell ⟨b, o, none⟩ (ptr (W.heap.size + 1))).setCell ⟨w.heap.size + 1, 0, none⟩ kv).setCell ⟨w.heap.size + 1, 1, none⟩ mo).alloc (.cells u 126)).alloc (.cells cs 160)).drew b o cs := by
  have hs : (((W.setCell ⟨b, o, none⟩ (ptr (W.heap.size + 1))).setCell ⟨w.heap.size + 1, 0, none⟩ kv).setCell ⟨w.heap.size + 1, 1, none⟩ mo).heap.size = W.heap.size := by simp [World.setCell]
  refine ⟨W.heap.size + 1, by omega, ?_, ?_, ?_⟩
  · have := heap_alloc_new ((((W.setCell ⟨b, o, none⟩ (ptr (W.heap.size + 1))).setCell ⟨w.heap.size + 1, 0, none⟩ kv).setCell ⟨w.heap.size + 1, 1, none⟩ mo).alloc (.cells u 126)) (.cells cs 160)
    rw [World.size_alloc, hs] at this
    exact this
  · have t0 : Touch (fun i => i = b) w W := hcal.mono (fun _ _ f => f.elim)
    have t1 : Touch (fun i => i = b) w (W.setCell ⟨b, o, none⟩ (ptr (W.heap.size + 1))) := t0.setCell (p := ⟨b, o, none⟩) (fun _ => rfl) _
    have t2 := t1.setCell (p := ⟨w.heap.size + 1, 0, none⟩) (fun h => absurd h (by simp)) kv
    have t3 := t2.setCell (p := ⟨w.heap.size + 1, 1, none⟩) (fun h => absurd h (by simp)) mo
    exact ((t3.alloc _).alloc _).drew
  · have e1 : (((((W.setCell ⟨b, o, none⟩ (ptr (W.heap.size + 1))).setCell ⟨w.heap.size + 1, 0, none⟩ kv).setCell ⟨w.heap.size + 1, 1, none⟩ mo).alloc (.cells u 126)).alloc (.cells cs 160)).drew.heap[b]? = (((W.setCell ⟨b, o, none⟩ (ptr (W.heap.size + 1))).setCell ⟨w.heap.size + 1, 0, none⟩ kv).setCell ⟨w.heap.size + 1, 1, none⟩ mo).heap[b]? :=
      (Below.heap_alloc _ _ _ (by rw [World.size_alloc, hs]; omega)).trans (Below.heap_alloc _ _ _ (by rw [hs]; omega))
    rw [e1, heap_setCell_other _ _ (by omega), heap_setCell_other _ _ (by omega)]
    exact heap_setCell_cong _ (hcal.block b hb (fun f => f)) ht

theorem turn_box {w W : World} {b o : Nat} (hb : b < w.heap.size) (hW : W.heap.size = w.heap.size + 2) (hb1 : W.heap[w.heap.size + 1]? = some (.cells #[.slice none 0 0, int 0] 126)) (kv mo : Value) (o1 o2 : Obj) :
    (((((W.setCell ⟨b, o, none⟩ (ptr (W.heap.size + 1))).setCell ⟨w.heap.size + 1, 0, none⟩ kv).setCell ⟨w.heap.size + 1, 1, none⟩ mo).alloc o1).alloc o2).cell? ⟨w.heap.size + 1, 0, none⟩ = some kv ∧
    (((((W.setCell ⟨b, o, none⟩ (ptr (W.heap.size + 1))).setCell ⟨w.heap.size + 1, 0, none⟩ kv).setCell ⟨w.heap.size + 1, 1, none⟩ mo).alloc o1).alloc o2).cell? ⟨w.heap.size + 1, 1, none⟩ = some mo := by
  have hs : (((W.setCell ⟨b, o, none⟩ (ptr (W.heap.size + 1))).setCell ⟨w.heap.size + 1, 0, none⟩ kv).setCell ⟨w.heap.size + 1, 1, none⟩ mo).heap.size = W.heap.size := by simp [World.setCell]
  have e0 : (W.setCell ⟨b, o, none⟩ (ptr (W.heap.size + 1))).heap[w.heap.size + 1]? = some (.cells #[.slice none 0 0, int 0] 126) := (heap_setCell_other _ _ (by omega)).trans hb1
  have e1 := heap_setCell_same _ _ 0 _ _ kv e0
  have e2 := heap_setCell_same _ _ 1 _ _ mo e1
  have e3 : (((((W.setCell ⟨b, o, none⟩ (ptr (W.heap.size + 1))).setCell ⟨w.heap.size + 1, 0, none⟩ kv).setCell ⟨w.heap.size + 1, 1, none⟩ mo).alloc o1).alloc o2).heap[w.heap.size + 1]? = _ :=
    ((Below.heap_alloc _ _ _ (by rw [World.size_alloc, hs]; omega)).trans (Below.heap_alloc _ _ _ (by rw [hs]; omega))).trans e2
  exact ⟨box_cell e3 0, box_cell e3 1⟩

set_option maxRecDepth 100000 in
set_option maxHeartbeats 1000000 in
theorem turn_none (b o c k : Nat) (age way a0 a1 a2 a3 a4 a5 a6 a7 a8 a9 : Int) (w : World) (hc : c < 4) (hk : k < 2) (h : w.cell? ⟨b, o + c * 2 + k, none⟩ = some (.pointer none)) (hfr : w.frozen? ⟨b, o + c * 2 + k, none⟩ = false) (hty : ∃ cs t, w.heap[b]? = some (.cells cs t)) :
    Calls Try.prog 100 #[.pointer (some ⟨b, o, none⟩), .agg #[int c, int k, int age, int a0, int a1, int a2, int a3, int a4, int a5, int a6, int a7, int a8, int a9], int way] w fun e w' => e = .returned (.agg #[nilS, int 0]) ∧ Knew w w' b (o + c * 2 + k) #[int c, int k, int age, int a0, int a1, int a2, int a3, int a4, int a5, int a6, int a7, int a8, int a9, int way, .bool false, .slice none 0 0, int 0] := by
  have hci : (c : Int) < 4 := by omega
  have hki : (k : Int) < 2 := by omega
  have hb := block_lt_of_cell h
  simp only at hb
  go_enter Try.func100, Try.ntmps100
  go_wp2
  obtain ⟨W, hW⟩ : ∃ W, ((w.alloc (.cells #[int c, int k, int age, int a0, int a1, int a2, int a3, int a4, int a5, int a6, int a7, int a8, int a9] 121)).alloc (.cells #[.slice none 0 0, int 0] 126)) = W := ⟨_, rfl⟩
  rw [hW]
  have hcal : Calm w W := by rw [← hW]; exact ((Touch.refl _ _).alloc _).alloc _
  have h' := hcal.cell (p := ⟨b, o + c * 2 + k, none⟩) (fun f => f) h
  have hWs : W.heap.size = w.heap.size + 2 := by rw [← hW]; simp
  have hbW : b < W.heap.size := by omega
  have hwW : w.heap.size < W.heap.size := by omega
  have hwW1 : w.heap.size + 1 < W.heap.size := by omega
  have hb1 : W.heap[w.heap.size + 1]? = some (.cells #[.slice none 0 0, int 0] 126) := by
    rw [← hW]; have := heap_alloc_new (w.alloc (.cells #[int c, int k, int age, int a0, int a1, int a2, int a3, int a4, int a5, int a6, int a7, int a8, int a9] 121)) (.cells #[.slice none 0 0, int 0] 126)
    simpa using this
  have hb0 : W.heap[w.heap.size]? = some (.cells #[int c, int k, int age, int a0, int a1, int a2, int a3, int a4, int a5, int a6, int a7, int a8, int a9] 121) := by
    rw [← hW, Below.heap_alloc _ _ _ (by simp)]; exact heap_alloc_new w _
  have s0 : W.cell? ⟨w.heap.size, 0, none⟩ = some (int c) := box_cell hb0 0
  have s1 : W.cell? ⟨w.heap.size, 1, none⟩ = some (int k) := box_cell hb0 1
  have s2 : W.cell? ⟨w.heap.size, 2, none⟩ = some (int age) := box_cell hb0 2
  have s3 : W.cell? ⟨w.heap.size, 3, none⟩ = some (int a0) := box_cell hb0 3
  have s4 : W.cell? ⟨w.heap.size, 4, none⟩ = some (int a1) := box_cell hb0 4
  have s5 : W.cell? ⟨w.heap.size, 5, none⟩ = some (int a2) := box_cell hb0 5
  have s6 : W.cell? ⟨w.heap.size, 6, none⟩ = some (int a3) := box_cell hb0 6
  have s7 : W.cell? ⟨w.heap.size, 7, none⟩ = some (int a4) := box_cell hb0 7
  have s8 : W.cell? ⟨w.heap.size, 8, none⟩ = some (int a5) := box_cell hb0 8
  have s9 : W.cell? ⟨w.heap.size, 9, none⟩ = some (int a6) := box_cell hb0 9
  have s10 : W.cell? ⟨w.heap.size, 10, none⟩ = some (int a7) := box_cell hb0 10
  have s11 : W.cell? ⟨w.heap.size, 11, none⟩ = some (int a8) := box_cell hb0 11
  have s12 : W.cell? ⟨w.heap.size, 12, none⟩ = some (int a9) := box_cell hb0 12
  have t0 : W.cell? ⟨w.heap.size + 1, 0, none⟩ = some (.slice none 0 0) := box_cell hb1 0
  have t1 : W.cell? ⟨w.heap.size + 1, 1, none⟩ = some (int 0) := box_cell hb1 1
  have g1 : W.frozen? ⟨w.heap.size + 1, 0, none⟩ = false := box_frozen hb1 0
  have g2 : W.frozen? ⟨w.heap.size + 1, 1, none⟩ = false := box_frozen hb1 1
  have hfW : W.frozen? ⟨b, o + c * 2 + k, none⟩ = false := (World.frozen?_of_block (w := w) (a := ⟨b, o + c * 2 + k, none⟩) (hcal.block b hb (fun f => f))).trans hfr
  have HB0 := hide hb0
  have HWS := hide hWs
  have HTY := hide hty
  have HB1 := hide hb1
  clear hb0 hb1 hW hWs h hty
  go_region
  all_goals go_wp2
  all_goals exact bodyPost_ret (v := .agg #[nilS, int 0]) (by simp [results, Try.results100, go_sem, turn_box hb (unhide HWS) (unhide HB1)]) rfl ⟨rfl, knew_turn hcal (unhide HWS) hb (unhide HTY) _ _ _ _⟩

set_option maxRecDepth 100000 in
set_option maxHeartbeats 1000000 in
theorem turn_some (b o c k kb sn sc : Nat) (sa : Option Addr) (mo : Int) (age way a0 a1 a2 a3 a4 a5 a6 a7 a8 a9 : Int) (w : World) (hc : c < 4) (hk : k < 2) (h : w.cell? ⟨b, o + c * 2 + k, none⟩ = some (ptr kb)) (k15 : w.cell? ⟨kb, 15, none⟩ = some (.slice sa sn sc)) (k16 : w.cell? ⟨kb, 16, none⟩ = some (int mo)) (hfr : w.frozen? ⟨b, o + c * 2 + k, none⟩ = false) (hty : ∃ cs t, w.heap[b]? = some (.cells cs t)) :
    Calls Try.prog 100 #[.pointer (some ⟨b, o, none⟩), .agg #[int c, int k, int age, int a0, int a1, int a2, int a3, int a4, int a5, int a6, int a7, int a8, int a9], int way] w fun e w' => e = .returned (.agg #[.slice sa sn sc, int mo]) ∧ Knew w w' b (o + c * 2 + k) #[int c, int k, int age, int a0, int a1, int a2, int a3, int a4, int a5, int a6, int a7, int a8, int a9, int way, .bool false, .slice none 0 0, int 0] := by
  have hci : (c : Int) < 4 := by omega
  have hki : (k : Int) < 2 := by omega
  have hb := block_lt_of_cell h
  have hkb := block_lt_of_cell k15
  simp only at hb hkb
  go_enter Try.func100, Try.ntmps100
  go_wp2
  obtain ⟨W, hW⟩ : ∃ W, ((w.alloc (.cells #[int c, int k, int age, int a0, int a1, int a2, int a3, int a4, int a5, int a6, int a7, int a8, int a9] 121)).alloc (.cells #[.slice none 0 0, int 0] 126)) = W := ⟨_, rfl⟩
  rw [hW]
  have hcal : Calm w W := by rw [← hW]; exact ((Touch.refl _ _).alloc _).alloc _
  have h' := hcal.cell (p := ⟨b, o + c * 2 + k, none⟩) (fun f => f) h
  have hWs : W.heap.size = w.heap.size + 2 := by rw [← hW]; simp
  have k15' := hcal.cell (p := ⟨kb, 15, none⟩) (fun f => f) k15
  have k16' := hcal.cell (p := ⟨kb, 16, none⟩) (fun f => f) k16
  have hkW : kb < W.heap.size := by omega
  have hbW : b < W.heap.size := by omega
  have hwW : w.heap.size < W.heap.size := by omega
  have hwW1 : w.heap.size + 1 < W.heap.size := by omega
  have hb1 : W.heap[w.heap.size + 1]? = some (.cells #[.slice none 0 0, int 0] 126) := by
    rw [← hW]; have := heap_alloc_new (w.alloc (.cells #[int c, int k, int age, int a0, int a1, int a2, int a3, int a4, int a5, int a6, int a7, int a8, int a9] 121)) (.cells #[.slice none 0 0, int 0] 126)
    simpa using this
  have hb0 : W.heap[w.heap.size]? = some (.cells #[int c, int k, int age, int a0, int a1, int a2, int a3, int a4, int a5, int a6, int a7, int a8, int a9] 121) := by
    rw [← hW, Below.heap_alloc _ _ _ (by simp)]; exact heap_alloc_new w _
  have s0 : W.cell? ⟨w.heap.size, 0, none⟩ = some (int c) := box_cell hb0 0
  have s1 : W.cell? ⟨w.heap.size, 1, none⟩ = some (int k) := box_cell hb0 1
  have s2 : W.cell? ⟨w.heap.size, 2, none⟩ = some (int age) := box_cell hb0 2
  have s3 : W.cell? ⟨w.heap.size, 3, none⟩ = some (int a0) := box_cell hb0 3
  have s4 : W.cell? ⟨w.heap.size, 4, none⟩ = some (int a1) := box_cell hb0 4
  have s5 : W.cell? ⟨w.heap.size, 5, none⟩ = some (int a2) := box_cell hb0 5
  have s6 : W.cell? ⟨w.heap.size, 6, none⟩ = some (int a3) := box_cell hb0 6
  have s7 : W.cell? ⟨w.heap.size, 7, none⟩ = some (int a4) := box_cell hb0 7
  have s8 : W.cell? ⟨w.heap.size, 8, none⟩ = some (int a5) := box_cell hb0 8
  have s9 : W.cell? ⟨w.heap.size, 9, none⟩ = some (int a6) := box_cell hb0 9
  have s10 : W.cell? ⟨w.heap.size, 10, none⟩ = some (int a7) := box_cell hb0 10
  have s11 : W.cell? ⟨w.heap.size, 11, none⟩ = some (int a8) := box_cell hb0 11
  have s12 : W.cell? ⟨w.heap.size, 12, none⟩ = some (int a9) := box_cell hb0 12
  have t0 : W.cell? ⟨w.heap.size + 1, 0, none⟩ = some (.slice none 0 0) := box_cell hb1 0
  have t1 : W.cell? ⟨w.heap.size + 1, 1, none⟩ = some (int 0) := box_cell hb1 1
  have g1 : W.frozen? ⟨w.heap.size + 1, 0, none⟩ = false := box_frozen hb1 0
  have g2 : W.frozen? ⟨w.heap.size + 1, 1, none⟩ = false := box_frozen hb1 1
  have hfW : W.frozen? ⟨b, o + c * 2 + k, none⟩ = false := (World.frozen?_of_block (w := w) (a := ⟨b, o + c * 2 + k, none⟩) (hcal.block b hb (fun f => f))).trans hfr
  have HB0 := hide hb0
  have HWS := hide hWs
  have HTY := hide hty
  have HB1 := hide hb1
  clear hb0 hb1 hW hWs h hty k15 k16
  go_region
  all_goals go_wp2
  all_goals exact bodyPost_ret (v := .agg #[.slice sa sn sc, int mo]) (by simp [results, Try.results100, go_sem, turn_box hb (unhide HWS) (unhide HB1)]) rfl ⟨rfl, knew_turn hcal (unhide HWS) hb (unhide HTY) _ _ _ _⟩

/-- The roles that a turn turns. -/
def turnR (x s : Nat) (r : Role) : Prop := r = .net ∨ r = .kept x s
/-- What a broker keeps. -/
def keptOf : Option Fact → List News
  | some f => f.kept
  | none => []
def moreOf : Option Fact → Int
  | some f => f.more
  | none => 0
/-- A row is handed over. -/
def handed (ρ : Nat → Option Role) (v : Value) : Nat → Option Role := fun i => if v.ownBlock = some i then some .rest else ρ i

/-- TURN. -/
theorem turnX {w : World} {b : Nat} {ρ : Nat → Option Role} {σ : Net} (h : XN w b ρ σ) {x c k : Nat} (hx : x < 6) (hc : c < 4) (hk : k < 2) (age : Int) (fl : List Tst) (way : Option Nat) :
    Calls Try.prog 100 #[.pointer (some ⟨b, 38 + x * 8, none⟩), subV c k age fl, int (whr way)] w fun e w' => ∃ sa sc, ∃ ρ', e = .returned (.agg #[.slice sa (keptOf (σ.kn x (2 * c + k))).length sc, int (moreOf (σ.kn x (2 * c + k)))]) ∧ XN w' b ρ' (σ.know x (2 * c + k) (some ⟨age, fl, way, [], 0, false⟩)) ∧
      RowAt w' ρ' .rest 163 8 (keptOf (σ.kn x (2 * c + k))).length ((keptOf (σ.kn x (2 * c + k))).flatMap (noteOf ((2 * c + k) % 2))) (.slice sa (keptOf (σ.kn x (2 * c + k))).length sc) ∧ Mv (turnR x (2 * c + k)) ρ ρ' w w' := by
  obtain ⟨v, hv1, hv2⟩ := h.known x c k hx hc hk
  have hty : ∃ cs t, w.heap[b]? = some (.cells cs t) := by obtain ⟨cs, h1⟩ := h.typ; exact ⟨cs, _, h1⟩
  have hb := h.lt b (by rw [h.net]; simp)
  cases hkn : σ.kn x (2 * c + k) with
  | none =>
    rw [hkn] at hv2
    have hv2 : v = .pointer none := hv2
    subst hv2
    refine (turn_none b (38 + x * 8) c k age (whr way) _ _ _ _ _ _ _ _ _ _ w hc hk hv1 (h.fr _) hty).mono ?_
    rintro e w' ⟨rfl, hK⟩
    rw [← encKn_new c k hk] at hK
    obtain ⟨ρ', r1, r2⟩ := h.knew hx hc hk (f := ⟨age, fl, way, [], 0, false⟩) rfl hK
    exact ⟨none, 0, ρ', rfl, r1, ⟨⟨rfl, Or.inl ⟨rfl, rfl⟩⟩, fun g hg => by cases hg⟩, r2.mono (fun _ hr => Or.inl hr)⟩
  | some f =>
    rw [hkn] at hv2
    obtain ⟨kb, kv, rfl, hrb, hblk, hrow⟩ := hv2
    obtain ⟨sa, sc, rfl⟩ : ∃ sa sc, kv = .slice sa f.kept.length sc := by
      rcases hrow.1.2 with ⟨rfl, h0⟩ | ⟨g, cap, cur, rfl, _⟩
      · exact ⟨none, 0, by rw [h0]⟩
      · exact ⟨_, _, rfl⟩
    have k15 : w.cell? ⟨kb, 15, none⟩ = some (.slice sa f.kept.length sc) := box_cell hblk 15
    have k16 : w.cell? ⟨kb, 16, none⟩ = some (int f.more) := box_cell hblk 16
    refine (turn_some b (38 + x * 8) c k kb f.kept.length sc sa f.more age (whr way) _ _ _ _ _ _ _ _ _ _ w hc hk hv1 k15 k16 (h.fr _) hty).mono ?_
    rintro e w' ⟨rfl, hK⟩
    rw [← encKn_new c k hk] at hK
    obtain ⟨nb, n1, n2, n3, n4⟩ := hK
    have hgne : ∀ g, (Value.slice sa f.kept.length sc).ownBlock = some g → g ≠ b ∧ g < w.heap.size := fun g hg => by
      have h1 := hrow.2 g hg
      exact ⟨fun e => (by subst e; rw [h.net] at h1; cases h1), h.lt g (by rw [h1]; simp)⟩
    have hrow' : w'.ownsRow 0 163 8 (.slice sa f.kept.length sc) f.kept.length (f.kept.flatMap (noteOf ((2 * c + k) % 2))) := ownsRow_keep hrow.1 n3 (fun g hg e => (hgne g hg).1 e)
    have hmv : Mv (turnR x (2 * c + k)) ρ (roleAt (handed ρ (.slice sa f.kept.length sc)) nb (.known x (2 * c + k))) w w' := by
      refine ⟨n3.mono (fun i _ e => ⟨.net, by rw [e]; exact h.net, Or.inl rfl⟩), fun i hi => ?_, fun i hi => ?_⟩
      · unfold roleAt handed
        rw [if_neg (by omega)]
        split
        · rename_i e; exact Or.inr ⟨x, 2 * c + k, hrow.2 i e, Or.inr rfl, rfl⟩
        · exact Or.inl rfl
      · unfold roleAt handed at hi
        split at hi
        · rename_i e; rw [e]; exact (Array.getElem?_eq_some_iff.1 n2).1
        · split at hi
          · rename_i e; exact Nat.lt_of_lt_of_le (hgne i e).2 n3.size
          · exact Nat.lt_of_lt_of_le (h.lt i hi) n3.size
    refine ⟨sa, sc, _, rfl, ?_, ⟨hrow', fun g hg => ?_⟩, hmv⟩
    · refine h.step hmv (fun o => o = 38 + x * 8 + c * 2 + k) (by rw [n4]; exact typ_setCell h.typ _ _) (fun o => (World.frozen?_of_block (w := w.setCell ⟨b, 38 + x * 8 + c * 2 + k, none⟩ (ptr nb)) (a := ⟨b, o, none⟩) n4).trans (frozen_setCell _ _ _ _ _ (h.fr o))) (fun o v ho hv => cell_of_heap n4 (cell_setCell_ne w ho hv)) rfl rfl (by omega) (by omega) (by simp [turnR]) (by simp [turnR]) (by simp [turnR])
        (fun u v _ _ => Or.inl ⟨rfl, by omega, by simp [turnR]⟩) (fun u d j hu hd hj => ?_) (fun d hd => Or.inl ⟨rfl, fun o _ _ => by omega, fun _ => by simp [turnR], by simp [turnR]⟩)
      by_cases e : u = x ∧ 2 * d + j = 2 * c + k
      · right
        obtain ⟨rfl, e⟩ := e
        have : d = c := by omega
        have : j = k := by omega
        subst_vars
        refine ⟨_, cell_of_heap n4 (World.cell?_setCell_same w _ _ hv1), ?_⟩
        simp only [Net.know, put2_same]
        exact ⟨nb, .slice none 0 0, rfl, by simp [roleAt], n2, ⟨⟨rfl, Or.inl ⟨rfl, rfl⟩⟩, fun g hg => by cases hg⟩⟩
      · left
        refine ⟨by simp only [Net.know, put2_other _ _ e], by omega, by simp [turnR], ?_⟩
        simp only [turnR, reduceCtorEq, Role.kept.injEq, false_or]; exact e
    · have hg : (Value.slice sa f.kept.length sc).ownBlock = some g := hg
      have := hgne g hg
      unfold roleAt handed
      rw [if_neg (by omega), if_pos hg]

theorem knew_await {w : World} {b o : Nat} (hb : b < w.heap.size) (u cs : Array Value) : Knew w (((w.setCell ⟨b, o, none⟩ (ptr (w.heap.size + 1))).alloc (.cells u 121)).alloc (.cells cs 160)).drew b o cs := by
  have hs : (w.setCell ⟨b, o, none⟩ (ptr (w.heap.size + 1))).heap.size = w.heap.size := by simp [World.setCell]
  refine ⟨w.heap.size + 1, by omega, ?_, ?_, ?_⟩
  · have := heap_alloc_new ((w.setCell ⟨b, o, none⟩ (ptr (w.heap.size + 1))).alloc (.cells u 121)) (.cells cs 160)
    rw [World.size_alloc, hs] at this
    exact this
  · exact ((((Touch.refl (fun i => i = b) w).setCell (p := ⟨b, o, none⟩) (fun _ => rfl) _).alloc _).alloc _).drew
  · exact (Below.heap_alloc _ _ _ (by rw [World.size_alloc, hs]; omega)).trans (Below.heap_alloc _ _ _ (by rw [hs]; omega))

set_option maxRecDepth 100000 in
set_option maxHeartbeats 1000000 in
theorem await_any (b o c k : Nat) (age a0 a1 a2 a3 a4 a5 a6 a7 a8 a9 : Int) (w : World) (v : Value) (hc : c < 4) (hk : k < 2) (h : w.cell? ⟨b, o + c * 2 + k, none⟩ = some v) (hfr : w.frozen? ⟨b, o + c * 2 + k, none⟩ = false) :
    Calls Try.prog 74 #[.pointer (some ⟨b, o, none⟩), .agg #[int c, int k, int age, int a0, int a1, int a2, int a3, int a4, int a5, int a6, int a7, int a8, int a9]] w fun e w' => e = .returned (.tuple #[]) ∧ Knew w w' b (o + c * 2 + k) #[int c, int k, int age, int a0, int a1, int a2, int a3, int a4, int a5, int a6, int a7, int a8, int a9, int (-1), .bool true, .slice none 0 0, int 0] := by
  have hci : (c : Int) < 4 := by omega
  have hki : (k : Int) < 2 := by omega
  have hb := block_lt_of_cell h
  simp only at hb
  go_enter Try.func74, Try.ntmps74
  go_wp2
  go_region
  all_goals go_wp2
  all_goals go_end0
  all_goals exact ⟨rfl, knew_await hb _ _⟩

theorem encKn_wait (c k : Nat) (hk : k < 2) (age : Int) (fl : List Tst) : (encKn (2 * c + k) ⟨age, fl, none, [], 0, true⟩ (.slice none 0 0)).toArray = #[int c, int k, int age, int (tstAt fl 0).fld, int (tstAt fl 0).op, int (tstAt fl 0).n, int (tstAt fl 1).fld, int (tstAt fl 1).op, int (tstAt fl 1).n, int (tstAt fl 2).fld, int (tstAt fl 2).op, int (tstAt fl 2).n, int fl.length, int (-1), .bool true, .slice none 0 0, int 0] := by
  have h1 : (2 * c + k) / 2 = c := by omega
  have h2 : (2 * c + k) % 2 = k := by omega
  simp only [encKn, h1, h2]
  rfl

/-- AWAIT. -/
theorem awaitX {w : World} {b : Nat} {ρ : Nat → Option Role} {σ : Net} (h : XN w b ρ σ) {x c k : Nat} (hx : x < 6) (hc : c < 4) (hk : k < 2) (age : Int) (fl : List Tst) :
    Calls Try.prog 74 #[.pointer (some ⟨b, 38 + x * 8, none⟩), subV c k age fl] w fun e w' => e = .returned (.tuple #[]) ∧ ∃ ρ', XN w' b ρ' (σ.know x (2 * c + k) (some ⟨age, fl, none, [], 0, true⟩)) ∧ Mv (fun r => r = .net) ρ ρ' w w' := by
  obtain ⟨v, hv1, hv2⟩ := h.known x c k hx hc hk
  refine (await_any b (38 + x * 8) c k age _ _ _ _ _ _ _ _ _ _ w v hc hk hv1 (h.fr _)).mono ?_
  rintro e w' ⟨rfl, hK⟩
  rw [← encKn_wait c k hk] at hK
  exact ⟨rfl, h.knew hx hc hk (f := ⟨age, fl, none, [], 0, true⟩) rfl hK⟩

end Go.Proofs.Ytodfcpblcpogiaa

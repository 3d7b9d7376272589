/-
  known: the document's example, as far as it goes without subscriptions.
-/
import Derived.Test.YtodfcpblcpogiaaGreatHolds
namespace Go.Proofs.YtodfcpblcpogiaaGreat
open Go.RowKit

theorem WI.kps {B : Nat} {kp kp' : Nat → Prop} {wk wk' : World} {w : World} {bw : Nat} {role : Role} {nets : List Tw} {ints : List Value} {ls : List Value} {ms : List Int} {vA : Value} {N : Int} {vI vL vM : Value} (h : WI B kp wk w bw role nets ints ls ms vA N vI vL vM) (hk : Kp kp' wk' role w) : WI B kp' wk' w bw role nets ints ls ms vA N vI vL vM :=
  ⟨h.fresh, h.base, h.lo, h.b8, h.rA, h.rI, h.rL, h.rM, h.net, h.ink, h.mark, hk⟩

/-- A block that has been made since is protected from now on. -/
theorem St.protect {B : Nat} {kp : Nat → Prop} {wk w0 w W : World} {bw : Nat} {nets : List Tw} {p q : Nat} (h : St B kp wk w0 bw nets p q w) (t : Calm w W) (g : Nat) (h1 : w.heap.size ≤ g) (h2 : g < W.heap.size) : St B (fun k => k = g) W w0 bw nets p q W := by
  obtain ⟨role, ints, ls, ms, vA, N, vI, vL, vM, hwi, hll, hlp, hiq, hbl⟩ := h
  have w1 := (hwi.calm t).gives g (10, 0) (hwi.fresh g h1) (Nat.le_trans hwi.lo h1) h2
  exact ⟨give role g (10, 0), ints, ls, ms, vA, N, vI, vL, vM, w1.kps (fun k hk => by rw [hk]; exact ⟨give_same _ _ _, rfl⟩), hll, hlp, hiq, hbl.trans (t.below hwi.lo (fun _ f => f.elim))⟩

theorem St.drop {B : Nat} {kp : Nat → Prop} {wk w0 w : World} {bw : Nat} {nets : List Tw} {p q : Nat} (h : St B kp wk w0 bw nets p q w) : St B (fun _ => False) wk w0 bw nets p q w := by
  obtain ⟨role, ints, ls, ms, vA, N, vI, vL, vM, hwi, hll, hlp, hiq, hbl⟩ := h
  exact ⟨role, ints, ls, ms, vA, N, vI, vL, vM, hwi.kps (fun k hk => hk.elim), hll, hlp, hiq, hbl⟩

theorem St.kept {B : Nat} {g : Nat} {wk w0 w : World} {bw : Nat} {nets : List Tw} {p q : Nat} (h : St B (fun k => k = g) wk w0 bw nets p q w) : w.heap[g]? = wk.heap[g]? := by
  obtain ⟨role, ints, ls, ms, vA, N, vI, vL, vM, hwi, hll, hlp, hiq, hbl⟩ := h
  exact (hwi.kept g rfl).2

abbrev opL (K A Bv : Int) (l : Value) (x : Int) (v : Value) : List Value := [.int .i64 K, .int .i64 0, .int .i64 A, .int .i64 Bv, l, .int .i64 x, .int .i64 0, .int .i64 0, v]

/-- The ten steps of the example. -/
def knownOps (N : Nat) : List Value :=
  opL 1 0 0 (.slice (some ⟨N, 0, none⟩) 2 2) 0 (.slice none 0 0) ++ opL 2 0 1 (.slice none 0 0) 0 (.slice none 0 0) ++ opL 2 1 2 (.slice none 0 0) 0 (.slice none 0 0) ++ opL 7 0 0 (.slice none 0 0) 0 (.slice (some ⟨N + 1, 0, none⟩) 1 1) ++
  opL 9 1 0 (.slice none 0 0) 0 (.slice none 0 0) ++ opL 9 0 2 (.slice none 0 0) 0 (.slice none 0 0) ++ opL 4 1 0 (.slice none 0 0) 7 (.slice none 0 0) ++ opL 4 1 0 (.slice none 0 0) 4 (.slice none 0 0) ++ opL 9 2 0 (.slice none 0 0) 0 (.slice none 0 0) ++ opL 9 0 1 (.slice none 0 0) 0 (.slice none 0 0)

def tw0 (bx br : Nat) : Tw := ⟨bx, br, 2, fun _ => -1, fun _ => -1, fun _ => 0⟩
def tw1 (bx br : Nat) : Tw := turn (tw0 bx br) 2 0 1
def tw2 (bx br : Nat) : Tw := turn (tw1 bx br) 2 1 2
def tw3 (bx br : Nat) : Tw := turn (tw2 bx br) 4 1 0
def tw4 (bx br : Nat) : Tw := turn (tw3 bx br) 4 1 0

theorem tw4_at (bx br : Nat) : (tw4 bx br).A 1 = 2 ∧ (tw4 bx br).H 1 = 2 := ⟨rfl, rfl⟩

/-- The nets behind k steps. -/
def knownAt (bx br : Nat) : Nat → List Tw
  | 0 => []
  | 1 => [tw0 bx br]
  | 2 => [tw1 bx br]
  | 3 => [tw2 bx br]
  | 4 => [tw2 bx br]
  | 5 => [tw2 bx br]
  | 6 => [tw2 bx br]
  | 7 => [tw3 bx br]
  | _ => [tw4 bx br]
def knownQ : Nat → Nat
  | 0 => 0
  | _ => 1

theorem known_new (bx br : Nat) : playN [] 1 0 0 0 (fun _ => 0) 2 bx br = [tw0 bx br] := rfl
theorem known_step (t : Tw) (K A Bv : Int) (hK : K ≠ 1) (f : Nat → Int) (n bx br : Nat) : playN [t] K 0 A Bv f n bx br = [turn t K A Bv] := by
  rw [playN_at (t := t) hK rfl]; rfl

set_option maxRecDepth 100000 in
set_option maxHeartbeats 2000000 in
theorem knownW_any (B : Nat) (kp : Nat → Prop) (wk w0 w : World) (bw : Nat) (h : St B kp wk w0 bw [] 0 0 w) :
    Calls Tryz.prog 6 #[.pointer (some ⟨bw, 0, none⟩), .int .i64 6] w fun e w' => e = .returned (.bool true) ∧ ∃ t wk', St B (fun _ => False) wk' w0 bw [t] 0 1 w' := by
  have H := hide h
  clear h
  go_enter Tryz.func6, Tryz.ntmps6
  go_wp2
  obtain ⟨W, hW⟩ : ∃ W, W = ((w.alloc (.cells #[.int .i64 0, .int .i64 0] 3)).alloc (.cells #[.int .i64 0, .int .i64 4, .int .i64 5] 47)).alloc (.cells (knownOps w.heap.size).toArray 38) := ⟨_, rfl⟩
  have hcal : Calm w W := by rw [hW]; exact (((Touch.refl _ _).alloc _).alloc _).alloc _
  have hbox : W.heap[w.heap.size + 1 + 1]? = some (.cells (knownOps w.heap.size).toArray 38) := by
    rw [hW, show w.heap.size + 1 + 1 = (w.alloc (.cells #[.int .i64 0, .int .i64 0] 3)).heap.size + 1 from by simp]
    exact heap_alloc2_new _ _ _
  have hl0 : IntsAt W (some ⟨w.heap.size, 0, none⟩) 2 (fun _ => 0) := by
    refine Or.inr ⟨w.heap.size, 0, rfl, fun j hj => ?_⟩
    have hb0 : W.heap[w.heap.size]? = some (.cells #[.int .i64 0, .int .i64 0] 3) := by
      rw [hW, Below.heap_alloc _ _ _ (by simp; omega), Below.heap_alloc _ _ _ (by simp)]
      exact heap_alloc_new _ _
    rw [box_cell hb0]
    rcases j with _ | _ | j
    · rfl
    · rfl
    · omega
  have HS := hide ((unhide H).protect hcal (w.heap.size + 1 + 1) (by omega) (Array.getElem?_eq_some_iff.1 hbox).1)
  have HL0 := hide hl0
  have HBX := hide hbox
  have HW := hide hW
  clear hcal hbox hl0 H hW
  go_loopw [6, 7] (fun i _ wr => ∃ (k bx br : Nat), k ≤ 10 ∧ i = .int .i64 k ∧ St B (fun k => k = w.heap.size + 1 + 1) W w0 bw (knownAt bx br k) 0 (knownQ k) wr ∧ (k = 0 → wr = W)) (fun i _ _ => 10 - (intOf i).toNat)
  case atStart => exact ⟨0, 0, 0, by omega, rfl, by have := unhide HS; rw [unhide HW] at this ⊢; exact this, fun _ => by rw [unhide HW]; rfl⟩
  case round =>
    obtain ⟨k, bx, br, hk, rfl, hS, hw⟩ := hrel
    have hb := hS.kept.trans (unhide HBX)
    have HB := hide hb
    have HSR := hide hS
    have HWR := hide hw
    clear HS hS hw hb HW
    have hk' : k = 0 ∨ k = 1 ∨ k = 2 ∨ k = 3 ∨ k = 4 ∨ k = 5 ∨ k = 6 ∨ k = 7 ∨ k = 8 ∨ k = 9 ∨ k = 10 := by omega
    rcases hk' with rfl | rfl | rfl | rfl | rfl | rfl | rfl | rfl | rfl | rfl | rfl
    · have c0 : wr.cell? ⟨w.heap.size + 1 + 1, 0, none⟩ = some (.int .i64 1) := box_cell (unhide HB) 0
      have c1 : wr.cell? ⟨w.heap.size + 1 + 1, 1, none⟩ = some (.int .i64 0) := box_cell (unhide HB) 1
      have c2 : wr.cell? ⟨w.heap.size + 1 + 1, 2, none⟩ = some (.int .i64 0) := box_cell (unhide HB) 2
      have c3 : wr.cell? ⟨w.heap.size + 1 + 1, 3, none⟩ = some (.int .i64 0) := box_cell (unhide HB) 3
      have c4 : wr.cell? ⟨w.heap.size + 1 + 1, 4, none⟩ = some (.slice (some ⟨w.heap.size, 0, none⟩) 2 2) := box_cell (unhide HB) 4
      have c5 : wr.cell? ⟨w.heap.size + 1 + 1, 5, none⟩ = some (.int .i64 0) := box_cell (unhide HB) 5
      have c6 : wr.cell? ⟨w.heap.size + 1 + 1, 6, none⟩ = some (.int .i64 0) := box_cell (unhide HB) 6
      have c7 : wr.cell? ⟨w.heap.size + 1 + 1, 7, none⟩ = some (.int .i64 0) := box_cell (unhide HB) 7
      have c8 : wr.cell? ⟨w.heap.size + 1 + 1, 8, none⟩ = some (.slice none 0 0) := box_cell (unhide HB) 8
      have HLR : Hid (IntsAt wr (some ⟨w.heap.size, 0, none⟩) 2 (fun _ => 0)) := by rw [unhide HWR rfl]; exact HL0
      go_wp2_with fail
      refine (plays_any B _ W w0 _ bw (knownAt bx br 0) 0 (knownQ 0) (unhide HSR) 1 0 0 0 (some ⟨w.heap.size, 0, none⟩) 2 2 (fun _ => 0) 0 0 0 (.slice none 0 0) (by omega) (unhide HLR) (by omega) (by omega) (by omega) (by omega) (by simp [knownQ]) (by simp [knownAt])).mono ?_
      rintro e w1 ⟨rfl, bx1, br1, h1⟩
      have h2 : St B (fun k => k = w.heap.size + 1 + 1) W w0 bw (knownAt bx1 br1 1) 0 (knownQ 1) w1 := by
        have e1 : playN (knownAt bx br 0) 1 0 0 0 (fun _ => 0) 2 bx1 br1 = knownAt bx1 br1 1 := rfl
        rw [e1] at h1
        exact h1
      have HS1 := hide h2
      clear h1 h2 c0 c1 c2 c3 c4 c5 c6 c7 c8 HSR HWR HB
      go_wp2
      go_roundw
      case rel => exact ⟨1, bx1, br1, by omega, by go_num, unhide HS1, fun h => by omega⟩
      case measure => simp [intOf]
    · have c0 : wr.cell? ⟨w.heap.size + 1 + 1, 9, none⟩ = some (.int .i64 2) := box_cell (unhide HB) 9
      have c1 : wr.cell? ⟨w.heap.size + 1 + 1, 10, none⟩ = some (.int .i64 0) := box_cell (unhide HB) 10
      have c2 : wr.cell? ⟨w.heap.size + 1 + 1, 11, none⟩ = some (.int .i64 0) := box_cell (unhide HB) 11
      have c3 : wr.cell? ⟨w.heap.size + 1 + 1, 12, none⟩ = some (.int .i64 1) := box_cell (unhide HB) 12
      have c4 : wr.cell? ⟨w.heap.size + 1 + 1, 13, none⟩ = some (.slice none 0 0) := box_cell (unhide HB) 13
      have c5 : wr.cell? ⟨w.heap.size + 1 + 1, 14, none⟩ = some (.int .i64 0) := box_cell (unhide HB) 14
      have c6 : wr.cell? ⟨w.heap.size + 1 + 1, 15, none⟩ = some (.int .i64 0) := box_cell (unhide HB) 15
      have c7 : wr.cell? ⟨w.heap.size + 1 + 1, 16, none⟩ = some (.int .i64 0) := box_cell (unhide HB) 16
      have c8 : wr.cell? ⟨w.heap.size + 1 + 1, 17, none⟩ = some (.slice none 0 0) := box_cell (unhide HB) 17
      go_wp2_with fail
      refine (plays_any B _ W w0 _ bw (knownAt bx br 1) 0 (knownQ 1) (unhide HSR) 2 0 0 1 none 0 0 (fun _ => 0) 0 0 0 (.slice none 0 0) (by omega) (Or.inl rfl) (by omega) (by omega) (by omega) (by omega) (by simp [knownQ]) (by simp [knownAt])).mono ?_
      rintro e w1 ⟨rfl, bx1, br1, h1⟩
      have h2 : St B (fun k => k = w.heap.size + 1 + 1) W w0 bw (knownAt bx br 2) 0 (knownQ 2) w1 := by
        have e1 : playN (knownAt bx br 1) 2 0 0 1 (fun _ => 0) 0 bx1 br1 = knownAt bx br 2 := known_step _ 2 0 1 (by decide) _ _ _ _
        rw [e1] at h1
        exact h1
      have HS1 := hide h2
      clear h1 h2 c0 c1 c2 c3 c4 c5 c6 c7 c8 HSR HWR HB
      go_wp2
      go_roundw
      case rel => exact ⟨2, bx, br, by omega, by go_num, unhide HS1, fun h => by omega⟩
      case measure => simp [intOf]
    · have c0 : wr.cell? ⟨w.heap.size + 1 + 1, 18, none⟩ = some (.int .i64 2) := box_cell (unhide HB) 18
      have c1 : wr.cell? ⟨w.heap.size + 1 + 1, 19, none⟩ = some (.int .i64 0) := box_cell (unhide HB) 19
      have c2 : wr.cell? ⟨w.heap.size + 1 + 1, 20, none⟩ = some (.int .i64 1) := box_cell (unhide HB) 20
      have c3 : wr.cell? ⟨w.heap.size + 1 + 1, 21, none⟩ = some (.int .i64 2) := box_cell (unhide HB) 21
      have c4 : wr.cell? ⟨w.heap.size + 1 + 1, 22, none⟩ = some (.slice none 0 0) := box_cell (unhide HB) 22
      have c5 : wr.cell? ⟨w.heap.size + 1 + 1, 23, none⟩ = some (.int .i64 0) := box_cell (unhide HB) 23
      have c6 : wr.cell? ⟨w.heap.size + 1 + 1, 24, none⟩ = some (.int .i64 0) := box_cell (unhide HB) 24
      have c7 : wr.cell? ⟨w.heap.size + 1 + 1, 25, none⟩ = some (.int .i64 0) := box_cell (unhide HB) 25
      have c8 : wr.cell? ⟨w.heap.size + 1 + 1, 26, none⟩ = some (.slice none 0 0) := box_cell (unhide HB) 26
      go_wp2_with fail
      refine (plays_any B _ W w0 _ bw (knownAt bx br 2) 0 (knownQ 2) (unhide HSR) 2 0 1 2 none 0 0 (fun _ => 0) 0 0 0 (.slice none 0 0) (by omega) (Or.inl rfl) (by omega) (by omega) (by omega) (by omega) (by simp [knownQ]) (by simp [knownAt])).mono ?_
      rintro e w1 ⟨rfl, bx1, br1, h1⟩
      have h2 : St B (fun k => k = w.heap.size + 1 + 1) W w0 bw (knownAt bx br 3) 0 (knownQ 3) w1 := by
        have e1 : playN (knownAt bx br 2) 2 0 1 2 (fun _ => 0) 0 bx1 br1 = knownAt bx br 3 := known_step _ 2 1 2 (by decide) _ _ _ _
        rw [e1] at h1
        exact h1
      have HS1 := hide h2
      clear h1 h2 c0 c1 c2 c3 c4 c5 c6 c7 c8 HSR HWR HB
      go_wp2
      go_roundw
      case rel => exact ⟨3, bx, br, by omega, by go_num, unhide HS1, fun h => by omega⟩
      case measure => simp [intOf]
    · have c0 : wr.cell? ⟨w.heap.size + 1 + 1, 27, none⟩ = some (.int .i64 7) := box_cell (unhide HB) 27
      go_wp2
      go_roundw
      case rel => exact ⟨4, bx, br, by omega, by go_num, unhide HSR, fun h => by omega⟩
      case measure => simp [intOf]
    · have c0 : wr.cell? ⟨w.heap.size + 1 + 1, 36, none⟩ = some (.int .i64 9) := box_cell (unhide HB) 36
      go_wp2
      go_roundw
      case rel => exact ⟨5, bx, br, by omega, by go_num, unhide HSR, fun h => by omega⟩
      case measure => simp [intOf]
    · have c0 : wr.cell? ⟨w.heap.size + 1 + 1, 45, none⟩ = some (.int .i64 9) := box_cell (unhide HB) 45
      go_wp2
      go_roundw
      case rel => exact ⟨6, bx, br, by omega, by go_num, unhide HSR, fun h => by omega⟩
      case measure => simp [intOf]
    · have c0 : wr.cell? ⟨w.heap.size + 1 + 1, 54, none⟩ = some (.int .i64 4) := box_cell (unhide HB) 54
      have c1 : wr.cell? ⟨w.heap.size + 1 + 1, 55, none⟩ = some (.int .i64 0) := box_cell (unhide HB) 55
      have c2 : wr.cell? ⟨w.heap.size + 1 + 1, 56, none⟩ = some (.int .i64 1) := box_cell (unhide HB) 56
      have c3 : wr.cell? ⟨w.heap.size + 1 + 1, 57, none⟩ = some (.int .i64 0) := box_cell (unhide HB) 57
      have c4 : wr.cell? ⟨w.heap.size + 1 + 1, 58, none⟩ = some (.slice none 0 0) := box_cell (unhide HB) 58
      have c5 : wr.cell? ⟨w.heap.size + 1 + 1, 59, none⟩ = some (.int .i64 7) := box_cell (unhide HB) 59
      have c6 : wr.cell? ⟨w.heap.size + 1 + 1, 60, none⟩ = some (.int .i64 0) := box_cell (unhide HB) 60
      have c7 : wr.cell? ⟨w.heap.size + 1 + 1, 61, none⟩ = some (.int .i64 0) := box_cell (unhide HB) 61
      have c8 : wr.cell? ⟨w.heap.size + 1 + 1, 62, none⟩ = some (.slice none 0 0) := box_cell (unhide HB) 62
      go_wp2_with fail
      refine (plays_any B _ W w0 _ bw (knownAt bx br 6) 0 (knownQ 6) (unhide HSR) 4 0 1 0 none 0 0 (fun _ => 0) 7 0 0 (.slice none 0 0) (by omega) (Or.inl rfl) (by omega) (by omega) (by omega) (by omega) (by simp [knownQ]) (by simp [knownAt])).mono ?_
      rintro e w1 ⟨rfl, bx1, br1, h1⟩
      have h2 : St B (fun k => k = w.heap.size + 1 + 1) W w0 bw (knownAt bx br 7) 0 (knownQ 7) w1 := by
        have e1 : playN (knownAt bx br 6) 4 0 1 0 (fun _ => 0) 0 bx1 br1 = knownAt bx br 7 := known_step _ 4 1 0 (by decide) _ _ _ _
        rw [e1] at h1
        exact h1
      have HS1 := hide h2
      clear h1 h2 c0 c1 c2 c3 c4 c5 c6 c7 c8 HSR HWR HB
      go_wp2
      go_roundw
      case rel => exact ⟨7, bx, br, by omega, by go_num, unhide HS1, fun h => by omega⟩
      case measure => simp [intOf]
    · have c0 : wr.cell? ⟨w.heap.size + 1 + 1, 63, none⟩ = some (.int .i64 4) := box_cell (unhide HB) 63
      have c1 : wr.cell? ⟨w.heap.size + 1 + 1, 64, none⟩ = some (.int .i64 0) := box_cell (unhide HB) 64
      have c2 : wr.cell? ⟨w.heap.size + 1 + 1, 65, none⟩ = some (.int .i64 1) := box_cell (unhide HB) 65
      have c3 : wr.cell? ⟨w.heap.size + 1 + 1, 66, none⟩ = some (.int .i64 0) := box_cell (unhide HB) 66
      have c4 : wr.cell? ⟨w.heap.size + 1 + 1, 67, none⟩ = some (.slice none 0 0) := box_cell (unhide HB) 67
      have c5 : wr.cell? ⟨w.heap.size + 1 + 1, 68, none⟩ = some (.int .i64 4) := box_cell (unhide HB) 68
      have c6 : wr.cell? ⟨w.heap.size + 1 + 1, 69, none⟩ = some (.int .i64 0) := box_cell (unhide HB) 69
      have c7 : wr.cell? ⟨w.heap.size + 1 + 1, 70, none⟩ = some (.int .i64 0) := box_cell (unhide HB) 70
      have c8 : wr.cell? ⟨w.heap.size + 1 + 1, 71, none⟩ = some (.slice none 0 0) := box_cell (unhide HB) 71
      go_wp2_with fail
      refine (plays_any B _ W w0 _ bw (knownAt bx br 7) 0 (knownQ 7) (unhide HSR) 4 0 1 0 none 0 0 (fun _ => 0) 4 0 0 (.slice none 0 0) (by omega) (Or.inl rfl) (by omega) (by omega) (by omega) (by omega) (by simp [knownQ]) (by simp [knownAt])).mono ?_
      rintro e w1 ⟨rfl, bx1, br1, h1⟩
      have h2 : St B (fun k => k = w.heap.size + 1 + 1) W w0 bw (knownAt bx br 8) 0 (knownQ 8) w1 := by
        have e1 : playN (knownAt bx br 7) 4 0 1 0 (fun _ => 0) 0 bx1 br1 = knownAt bx br 8 := known_step _ 4 1 0 (by decide) _ _ _ _
        rw [e1] at h1
        exact h1
      have HS1 := hide h2
      clear h1 h2 c0 c1 c2 c3 c4 c5 c6 c7 c8 HSR HWR HB
      go_wp2
      go_roundw
      case rel => exact ⟨8, bx, br, by omega, by go_num, unhide HS1, fun h => by omega⟩
      case measure => simp [intOf]
    · have c0 : wr.cell? ⟨w.heap.size + 1 + 1, 72, none⟩ = some (.int .i64 9) := box_cell (unhide HB) 72
      go_wp2
      go_roundw
      case rel => exact ⟨9, bx, br, by omega, by go_num, unhide HSR, fun h => by omega⟩
      case measure => simp [intOf]
    · have c0 : wr.cell? ⟨w.heap.size + 1 + 1, 81, none⟩ = some (.int .i64 9) := box_cell (unhide HB) 81
      go_wp2
      go_roundw
      case rel => exact ⟨10, bx, br, by omega, by go_num, unhide HSR, fun h => by omega⟩
      case measure => simp [intOf]
    · obtain ⟨gA, cA, a0, a1, a2⟩ := (unhide HSR).all (i := 0) (t := tw4 bx br) rfl
      have a0' : wr.cell? ⟨bw, 0, none⟩ = some (.slice (some ⟨gA, 0, none⟩) 1 cA) := a0
      have a1' : wr.cell? ⟨gA, 0, none⟩ = some (.pointer (some ⟨(tw4 bx br).bx, 0, none⟩)) := a1
      clear a0 a1 a2
      go_wp2_with fail
      refine (lookX_any _ _ (tw4 bx br).A (tw4 bx br).H (tw4 bx br).M 1 _ ((unhide HSR).net (i := 0) (t := tw4 bx br) rfl).2.2.1).mono ?_
      rintro e w1 ⟨rfl, ht1⟩
      have q1 : lokA (tw4 bx br).A 1 = 2 := (tw4_at bx br).1
      have q2 : lokA (tw4 bx br).H 1 = 2 := (tw4_at bx br).2
      have q3 : chk (cliB 1) = 0 := rfl
      rw [q1, q2, q3]
      have HS1 := hide ((unhide HSR).calm ht1)
      clear ht1 a0' a1' HSR HWR HB q1 q2 q3
      go_wp2
      go_ret
      exact ⟨rfl, tw4 bx br, W, ((unhide HS1).calm ((Touch.refl _ _).alloc _)).drop⟩

end Go.Proofs.YtodfcpblcpogiaaGreat

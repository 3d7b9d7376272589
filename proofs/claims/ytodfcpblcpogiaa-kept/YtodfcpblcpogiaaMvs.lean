/-
  A client comes to another broker: its subscriptions move.
-/
import Derived.Test.YtodfcpblcpogiaaCli
import Derived.Test.YtodfcpblcpogiaaMov
namespace Go.Proofs.Ytodfcpblcpogiaa
open Go.RowKit

/-- The slots below j have moved. -/
def comesTo (σ : Net) (c x old : Nat) : Nat → Net
  | 0 => σ
  | j + 1 => (comesTo σ c x old j).comes c x old j

theorem comes_q (σ : Net) (c x old k a y : Nat) : ((σ.comes c x old k).q a y).length ≤ (σ.q a y).length + 1 := by
  unfold Net.comes
  simp only
  split
  · simp only [Net.push]
    show (put2 σ.q x (next σ.par x old) (σ.q x (next σ.par x old) ++ [_]) a y).length ≤ _
    by_cases e : a = x ∧ y = next σ.par x old
    · obtain ⟨rfl, rfl⟩ := e; rw [put2_same]; simp
    · rw [put2_other _ _ e]; omega
  · omega
theorem comes_age (σ : Net) {c x old k j : Nat} (h : j ≠ k) : ((σ.comes c x old k).cl c).age j = (σ.cl c).age j := by
  unfold Net.comes
  simp only
  split
  · show ((σ.setCl c { σ.cl c with age := put (σ.cl c).age k ((σ.cl c).age k + 1) }).cl c).age j = _
    simp [Net.setCl, put_other _ _ h]
  · rfl

theorem comesTo_keeps (σ : Net) (c x old : Nat) : ∀ j, (comesTo σ c x old j).par = σ.par ∧ ((comesTo σ c x old j).cl c).here = (σ.cl c).here ∧ ((comesTo σ c x old j).cl c).used = (σ.cl c).used ∧ ((comesTo σ c x old j).cl c).fl = (σ.cl c).fl ∧ (∀ k, j ≤ k → ((comesTo σ c x old j).cl c).age k = (σ.cl c).age k) ∧ ∀ a y, ((comesTo σ c x old j).q a y).length ≤ (σ.q a y).length + j
  | 0 => ⟨rfl, rfl, rfl, rfl, fun _ _ => rfl, fun _ _ => Nat.le_refl _⟩
  | j + 1 => by
    obtain ⟨h1, h2, h3, h4, h5, h6⟩ := comesTo_keeps σ c x old j
    obtain ⟨k1, _, k3⟩ := comes_keeps (σ := comesTo σ c x old j) c x old j
    obtain ⟨k4, _, k5, k6⟩ := k3 c
    refine ⟨k1.trans h1, k4.trans h2, k5.trans h3, k6.trans h4, fun k hk => (comes_age _ (by omega)).trans (h5 k (by omega)), fun a y => ?_⟩
    have e1 := comes_q (comesTo σ c x old j) c x old j a y
    have e2 := h6 a y
    have e3 : comesTo σ c x old (j + 1) = (comesTo σ c x old j).comes c x old j := rfl
    rw [e3]; omega

/-- A box of a subscription, filled. -/
theorem box13 {w2 : World} {g : Nat} {c j A a0 a1 a2 a3 a4 a5 a6 a7 a8 a9 : Int} {u : Array Value} (hu : u.size = 13) (h : w2.heap[g]? = some (.cells u 121)) (h0 : u[0]? = some (int c)) (h1 : u[1]? = some (int j)) :
    ((((((((((((w2.setCell ⟨g, 2, none⟩ (int A)).setCell ⟨g, 3, none⟩ (int a0)).setCell ⟨g, 4, none⟩ (int a1)).setCell ⟨g, 5, none⟩ (int a2)).setCell ⟨g, 6, none⟩ (int a3)).setCell ⟨g, 7, none⟩ (int a4)).setCell ⟨g, 8, none⟩ (int a5)).setCell ⟨g, 9, none⟩ (int a6)).setCell ⟨g, 10, none⟩ (int a7)).setCell ⟨g, 11, none⟩ (int a8)).setCell ⟨g, 12, none⟩ (int a9))).heap[g]? = some (.cells #[int c, int j, int A, int a0, int a1, int a2, int a3, int a4, int a5, int a6, int a7, int a8, int a9] 121) := by
  obtain ⟨l⟩ := u
  match l, hu with
  | [u0, u1, u2, u3, u4, u5, u6, u7, u8, u9, u10, u11, u12], _ =>
    simp at h0 h1
    subst h0; subst h1
    have e0 := heap_setCell_same _ _ 2 _ _ (int A) h
    have e1 := heap_setCell_same _ _ 3 _ _ (int a0) e0
    have e2 := heap_setCell_same _ _ 4 _ _ (int a1) e1
    have e3 := heap_setCell_same _ _ 5 _ _ (int a2) e2
    have e4 := heap_setCell_same _ _ 6 _ _ (int a3) e3
    have e5 := heap_setCell_same _ _ 7 _ _ (int a4) e4
    have e6 := heap_setCell_same _ _ 8 _ _ (int a5) e5
    have e7 := heap_setCell_same _ _ 9 _ _ (int a6) e6
    have e8 := heap_setCell_same _ _ 10 _ _ (int a7) e7
    have e9 := heap_setCell_same _ _ 11 _ _ (int a8) e8
    have e10 := heap_setCell_same _ _ 12 _ _ (int a9) e9
    simpa using e10

/-- Where a subscription that moves stands. -/
structure MvAt (w wx : World) (b g : Nat) (ρ ρ' : Nat → Option Role) (τ : Net) (cs : Array Value) : Prop where
  net : XN wx b ρ' τ
  mv : Mv allR ρ ρ' w wx
  box : wx.heap[g]? = some (.cells cs 121)
  non : ρ' g = none

set_option maxRecDepth 100000 in
set_option maxHeartbeats 4000000 in
/-- MOVE. -/
theorem moveX {w : World} {b : Nat} {ρ : Nat → Option Role} {σ : Net} (h : XN w b ρ σ) (T : Tree σ.par) {c x old : Nat} (hc : c < 4) (hx : x < σ.n) (ho : old < σ.n) (hne : x ≠ old) (hh : (σ.cl c).here = some x) (hage : ∀ k, k < 2 → -1 ≤ (σ.cl c).age k ∧ (σ.cl c).age k < 2199023255552) (hlen : ∀ y, (σ.q x y).length < 1990) :
    Calls Try.prog 43 #[.pointer (some ⟨b, 0, none⟩), int c, int old] w fun e w' => e = .returned (.tuple #[]) ∧ ∃ ρ', XN w' b ρ' (comesTo σ c x old 2) ∧ Mv allR ρ ρ' w w' := by
  have hci : (c : Int) < 4 := by omega
  have hx6 : x < 6 := Nat.lt_of_lt_of_le hx (size_le T)
  have hxi : (x : Int) < 6 := by omega
  have HX := hide h
  clear h
  go_enter Try.func43, Try.ntmps43
  go_wp2
  go_loopw [14] (fun p wr => ∃ j : Nat, j ≤ 2 ∧ p = int j ∧ ∃ ρ', XN wr b ρ' (comesTo σ c x old j) ∧ Mv allR ρ ρ' w wr) (fun p _ => 2 - (intOf p).toNat)
  case atStart => exact ⟨0, by omega, rfl, ρ, unhide HX, Mv.refl (unhide HX).lt⟩
  case round =>
    obtain ⟨j, hj, rfl, ρ1, hX1, hM1⟩ := hrel
    by_cases hlt : j < 2
    · have hji : (j : Int) < 2 := by omega
      obtain ⟨kp1, kp2, kp3, kp4, kp5, kp6⟩ := comesTo_keeps σ c x old j
      generalize hτ : comesTo σ c x old j = τ at *
      have hcs : comesTo σ c x old (j + 1) = τ.comes c x old j := by rw [← hτ]; rfl
      have hC := hX1.cli c hc
      have hat : wr.cell? ⟨b, 86 + c * 31, none⟩ = some (int x) := by have := hC.here; rw [kp2, hh] at this; exact this
      have husd := hC.used j hlt
      have hagc := hC.age j hlt
      have hbl := hX1.lt b (by rw [hX1.net]; simp)
      have HCS := hide hcs
      have HM1 := hide hM1
      have hag := hage j hlt
      have hag5 := kp5 j (Nat.le_refl _)
      cases hu : (τ.cl c).used j with
      | false =>
        rw [hu] at husd
        have hst : τ.comes c x old j = τ := by simp [Net.comes, hu]
        have HX1 := hide hX1
        clear hX1 hM1 hC hcs hτ
        go_wp2_with (go_at_call 60; refine (hasSlot_any b (86 + c * 31) j false _ hlt husd).mono ?_; rintro e w1 ⟨rfl, hw1⟩; have hw1 := hw1.symm; subst hw1)
        go_roundw
        case rel => exact ⟨j + 1, by omega, by go_num, ρ1, by rw [unhide HCS, hst]; exact unhide HX1, unhide HM1⟩
        case measure => simp [intOf]; omega
      | true =>
        rw [hu] at husd
        have hfil := hC.fl j hlt
        rw [hu] at hfil
        obtain ⟨A, hA⟩ : ∃ A, A = (τ.cl c).age j + 1 := ⟨_, rfl⟩
        have hwr : wrap64 ((τ.cl c).age j + 1) = A := by rw [hA]; simp only [wrap64]; rw [hag5]; omega
        obtain ⟨fl, hfl⟩ : ∃ fl, fl = (τ.cl c).fl j := ⟨_, rfl⟩
        rw [← hfl] at hfil
        have hnr : ρ1 wr.heap.size = none := by
          cases hq : ρ1 wr.heap.size with
          | none => rfl
          | some r => have := hX1.lt wr.heap.size (by rw [hq]; simp); omega
        have hT : Tree τ.par := by rw [kp1]; exact T
        have hxn : x < τ.n := by simp only [Net.n, kp1]; exact hx
        have hon : old < τ.n := by simp only [Net.n, kp1]; exact ho
        have hlq : ∀ y, (τ.q x y).length < 2000 := fun y => by have h1 := kp6 x y; have h2 := hlen y; omega
        have hst : τ.comes c x old j = ((τ.setCl c { τ.cl c with age := put (τ.cl c).age j A }).know x (2 * c + j) (some ⟨A, fl, none, [], 0, true⟩)).push x (next τ.par x old) (.move (2 * c + j) A fl old x) := by
          rw [hA, hfl]; simp only [Net.comes, hu, if_true]
        have hcl1 : (τ.setCl c { τ.cl c with age := put (τ.cl c).age j A }).cl c = { τ.cl c with age := put (τ.cl c).age j A } := by simp [Net.setCl]
        have hhere1 : ((τ.setCl c { τ.cl c with age := put (τ.cl c).age j A }).cl c).here = some x := by rw [hcl1]; exact kp2.trans hh
        have HST := hide hst
        have HX1 := hide hX1
        have HNR := hide hnr
        have HFI := hide hfil
        have HLQ := hide hlq
        have HH1 := hide hhere1
        clear hX1 hM1 hC hcs hτ hst hnr hfil hlq hcl1 hhere1 hlen hage kp6 kp5 hA hfl hag5
        go_wp2_with (first
          | (go_at_call 60; refine (hasSlot_any b (86 + c * 31) j true _ hlt husd).mono ?_; rintro e w1 ⟨rfl, hw1⟩; have hw1 := hw1.symm; subst hw1)
          | (go_at_call 73; refine (cmove_any b (86 + c * 31) j ((τ.cl c).age j) fl _ hlt ?a1 ?a2 ?a3).mono ?_
             case a1 => exact ((Touch.refl (fun _ => False) _).alloc _).cell (p := ⟨b, 86 + c * 31 + 4 + j * 13 + 1, none⟩) (fun f => f) hagc
             case a2 => exact (unhide HFI).keep (fun i v _ hv => ((Touch.refl (fun _ => False) _).alloc _).cell (p := ⟨b, _, none⟩) (fun f => f) hv)
             case a3 => intro o'; exact ((unhide HX1).calm ((Touch.refl _ _).alloc _)).fr o'
             rw [hwr]
             rintro e w2 ⟨rfl, ht2⟩
             obtain ⟨hX2, hM2⟩ := ((unhide HX1).calm (((Touch.refl (fun _ => False) wr).alloc (.cells #[int c, int j, int 0, int 0, int 0, int 0, int 0, int 0, int 0, int 0, int 0, int 0, int 0] 121)))).setAge hc hlt A
             have hbx2 : w2.heap[wr.heap.size]? = some (.cells #[int c, int j, int 0, int 0, int 0, int 0, int 0, int 0, int 0, int 0, int 0, int 0, int 0] 121) := (ht2.block wr.heap.size (by simp [World.setCell]) (fun f => f)).trans ((heap_setCell_other _ _ (by omega)).trans (heap_alloc_new wr _))
             have HX2 := hide (hX2.calm ht2)
             have HM2 := hide (((unhide HM1).trans ((Mv.calm (unhide HX1).lt ((Touch.refl _ _).alloc _)).trans (hM2.mono (fun _ _ => trivial)))).trans (Mv.calm hX2.lt ht2))
             have HBX2 := hide hbx2
             have q2 : w2.cell? ⟨wr.heap.size, 2, none⟩ = some (int 0) := box_cell hbx2 2
             have z2 : w2.frozen? ⟨wr.heap.size, 2, none⟩ = false := box_frozen hbx2 2
             have q3 : w2.cell? ⟨wr.heap.size, 3, none⟩ = some (int 0) := box_cell hbx2 3
             have z3 : w2.frozen? ⟨wr.heap.size, 3, none⟩ = false := box_frozen hbx2 3
             have q4 : w2.cell? ⟨wr.heap.size, 4, none⟩ = some (int 0) := box_cell hbx2 4
             have z4 : w2.frozen? ⟨wr.heap.size, 4, none⟩ = false := box_frozen hbx2 4
             have q5 : w2.cell? ⟨wr.heap.size, 5, none⟩ = some (int 0) := box_cell hbx2 5
             have z5 : w2.frozen? ⟨wr.heap.size, 5, none⟩ = false := box_frozen hbx2 5
             have q6 : w2.cell? ⟨wr.heap.size, 6, none⟩ = some (int 0) := box_cell hbx2 6
             have z6 : w2.frozen? ⟨wr.heap.size, 6, none⟩ = false := box_frozen hbx2 6
             have q7 : w2.cell? ⟨wr.heap.size, 7, none⟩ = some (int 0) := box_cell hbx2 7
             have z7 : w2.frozen? ⟨wr.heap.size, 7, none⟩ = false := box_frozen hbx2 7
             have q8 : w2.cell? ⟨wr.heap.size, 8, none⟩ = some (int 0) := box_cell hbx2 8
             have z8 : w2.frozen? ⟨wr.heap.size, 8, none⟩ = false := box_frozen hbx2 8
             have q9 : w2.cell? ⟨wr.heap.size, 9, none⟩ = some (int 0) := box_cell hbx2 9
             have z9 : w2.frozen? ⟨wr.heap.size, 9, none⟩ = false := box_frozen hbx2 9
             have q10 : w2.cell? ⟨wr.heap.size, 10, none⟩ = some (int 0) := box_cell hbx2 10
             have z10 : w2.frozen? ⟨wr.heap.size, 10, none⟩ = false := box_frozen hbx2 10
             have q11 : w2.cell? ⟨wr.heap.size, 11, none⟩ = some (int 0) := box_cell hbx2 11
             have z11 : w2.frozen? ⟨wr.heap.size, 11, none⟩ = false := box_frozen hbx2 11
             have q12 : w2.cell? ⟨wr.heap.size, 12, none⟩ = some (int 0) := box_cell hbx2 12
             have z12 : w2.frozen? ⟨wr.heap.size, 12, none⟩ = false := box_frozen hbx2 12
             have hsz2 : wr.heap.size < w2.heap.size := block_lt_of_cell q2
             clear hX2 hM2 hbx2 ht2))
        obtain ⟨W3, hW3⟩ : ∃ W3, W3 = (((((((((((w2.setCell ⟨wr.heap.size, 2, none⟩ (int A)).setCell ⟨wr.heap.size, 3, none⟩ (int (tstAt fl 0).fld)).setCell ⟨wr.heap.size, 4, none⟩ (int (tstAt fl 0).op)).setCell ⟨wr.heap.size, 5, none⟩ (int (tstAt fl 0).n)).setCell ⟨wr.heap.size, 6, none⟩ (int (tstAt fl 1).fld)).setCell ⟨wr.heap.size, 7, none⟩ (int (tstAt fl 1).op)).setCell ⟨wr.heap.size, 8, none⟩ (int (tstAt fl 1).n)).setCell ⟨wr.heap.size, 9, none⟩ (int (tstAt fl 2).fld)).setCell ⟨wr.heap.size, 10, none⟩ (int (tstAt fl 2).op)).setCell ⟨wr.heap.size, 11, none⟩ (int (tstAt fl 2).n)).setCell ⟨wr.heap.size, 12, none⟩ (int fl.length)) := ⟨_, rfl⟩
        rw [← hW3]
        have hM3 : MvAt w W3 b wr.heap.size ρ ρ1 (τ.setCl c { τ.cl c with age := put (τ.cl c).age j A }) #[int c, int j, int A, int (tstAt fl 0).fld, int (tstAt fl 0).op, int (tstAt fl 0).n, int (tstAt fl 1).fld, int (tstAt fl 1).op, int (tstAt fl 1).n, int (tstAt fl 2).fld, int (tstAt fl 2).op, int (tstAt fl 2).n, int fl.length] := by
          have ht3 : Touch (fun i => i = wr.heap.size) w2 W3 := by
            rw [hW3]
            exact (((((((((((Touch.refl (fun i => i = wr.heap.size) w2).setCell (p := ⟨wr.heap.size, 2, none⟩) (fun _ => rfl) _).setCell (p := ⟨wr.heap.size, 3, none⟩) (fun _ => rfl) _).setCell (p := ⟨wr.heap.size, 4, none⟩) (fun _ => rfl) _).setCell (p := ⟨wr.heap.size, 5, none⟩) (fun _ => rfl) _).setCell (p := ⟨wr.heap.size, 6, none⟩) (fun _ => rfl) _).setCell (p := ⟨wr.heap.size, 7, none⟩) (fun _ => rfl) _).setCell (p := ⟨wr.heap.size, 8, none⟩) (fun _ => rfl) _).setCell (p := ⟨wr.heap.size, 9, none⟩) (fun _ => rfl) _).setCell (p := ⟨wr.heap.size, 10, none⟩) (fun _ => rfl) _).setCell (p := ⟨wr.heap.size, 11, none⟩) (fun _ => rfl) _).setCell (p := ⟨wr.heap.size, 12, none⟩) (fun _ => rfl) _
          have m2 := unhide HM2
          have hwz : w.heap.size ≤ wr.heap.size := (unhide HM1).touch.size
          refine ⟨(unhide HX2).keep ht3 (fun i hi e => hi (by rw [e]; exact unhide HNR)), ⟨⟨ht3.os.trans m2.touch.os, ht3.tape.trans m2.touch.tape, ht3.output.trans m2.touch.output, Nat.le_trans m2.touch.size ht3.size, fun i hi hs => (ht3.block i (Nat.lt_of_lt_of_le hi m2.touch.size) (by omega)).trans (m2.touch.block i hi hs)⟩, m2.role, fun i hi => Nat.lt_of_lt_of_le (m2.lt i hi) ht3.size⟩, ?_, unhide HNR⟩
          rw [hW3]
          exact box13 (by rfl) (unhide HBX2) rfl rfl
        have HM3 := hide hM3
        clear hW3 hM3 HX2 HM2 HBX2 q2 q3 q4 q5 q6 q7 q8 q9 q10 q11 q12 z2 z3 z4 z5 z6 z7 z8 z9 z10 z11 z12 hsz2 hat hagc husd
        go_cut [] (fun wx => ∃ ρ2, MvAt w wx b wr.heap.size ρ ρ2 ((τ.setCl c { τ.cl c with age := put (τ.cl c).age j A }).know x (2 * c + j) (some ⟨A, fl, none, [], 0, true⟩)) #[int c, int j, int A, int (tstAt fl 0).fld, int (tstAt fl 0).op, int (tstAt fl 0).n, int (tstAt fl 1).fld, int (tstAt fl 1).op, int (tstAt fl 1).n, int (tstAt fl 2).fld, int (tstAt fl 2).op, int (tstAt fl 2).n, int fl.length])
        case first =>
          have hbx := (unhide HM3).box
          have hat3 : W3.cell? ⟨b, 86 + c * 31, none⟩ = some (int x) := by have := ((unhide HM3).net.cli c hc).here; rw [unhide HH1] at this; exact this
          go_region_held3 (fun w' => w'.cell? ⟨wr.heap.size, 0, none⟩ = some (int c) ∧ w'.cell? ⟨wr.heap.size, 1, none⟩ = some (int j) ∧ w'.cell? ⟨wr.heap.size, 2, none⟩ = some (int A) ∧ w'.cell? ⟨wr.heap.size, 3, none⟩ = some (int (tstAt fl 0).fld) ∧ w'.cell? ⟨wr.heap.size, 4, none⟩ = some (int (tstAt fl 0).op) ∧ w'.cell? ⟨wr.heap.size, 5, none⟩ = some (int (tstAt fl 0).n) ∧ w'.cell? ⟨wr.heap.size, 6, none⟩ = some (int (tstAt fl 1).fld) ∧ w'.cell? ⟨wr.heap.size, 7, none⟩ = some (int (tstAt fl 1).op) ∧ w'.cell? ⟨wr.heap.size, 8, none⟩ = some (int (tstAt fl 1).n) ∧ w'.cell? ⟨wr.heap.size, 9, none⟩ = some (int (tstAt fl 2).fld) ∧ w'.cell? ⟨wr.heap.size, 10, none⟩ = some (int (tstAt fl 2).op) ∧ w'.cell? ⟨wr.heap.size, 11, none⟩ = some (int (tstAt fl 2).n) ∧ w'.cell? ⟨wr.heap.size, 12, none⟩ = some (int fl.length) ∧ w'.cell? ⟨b, 86 + c * 31, none⟩ = some (int x))
            (first
              | exact ⟨box_cell hbx 0, box_cell hbx 1, box_cell hbx 2, box_cell hbx 3, box_cell hbx 4, box_cell hbx 5, box_cell hbx 6, box_cell hbx 7, box_cell hbx 8, box_cell hbx 9, box_cell hbx 10, box_cell hbx 11, box_cell hbx 12, hat3⟩
              | exact ⟨box_cell hbx4 0, box_cell hbx4 1, box_cell hbx4 2, box_cell hbx4 3, box_cell hbx4 4, box_cell hbx4 5, box_cell hbx4 6, box_cell hbx4 7, box_cell hbx4 8, box_cell hbx4 9, box_cell hbx4 10, box_cell hbx4 11, box_cell hbx4 12, hat4⟩
              | go_keep)
            (first
              | (go_at_call 49; refine (at_any b (86 + c * 31) x _ ?_).mono ?_; exact hat3; rintro e w4 ⟨rfl, rfl⟩)
              | (go_at_call 74; refine (awaitX (w := W3.drew) ((unhide HM3).net.calm (Touch.refl _ _).drew) hx6 hc hlt A fl).mono ?_; rintro e w4 ⟨rfl, ρ4, h4, m4⟩
                 have hbx4 : w4.heap[wr.heap.size]? = some (.cells #[int c, int j, int A, int (tstAt fl 0).fld, int (tstAt fl 0).op, int (tstAt fl 0).n, int (tstAt fl 1).fld, int (tstAt fl 1).op, int (tstAt fl 1).n, int (tstAt fl 2).fld, int (tstAt fl 2).op, int (tstAt fl 2).n, int fl.length] 121) := (m4.touch.block wr.heap.size (Array.getElem?_eq_some_iff.1 hbx).1 (fun ⟨r, hr, _⟩ => by rw [unhide HNR] at hr; cases hr)).trans hbx
                 have hat4 : w4.cell? ⟨b, 86 + c * 31, none⟩ = some (int x) := by
                   have h5 := (h4.cli c hc).here
                   have h6 : (((τ.setCl c { τ.cl c with age := put (τ.cl c).age j A }).know x (2 * c + j) (some ⟨A, fl, none, [], 0, true⟩)).cl c).here = some x := unhide HH1
                   rw [h6] at h5; exact h5))
          all_goals go_wp2_with fail
          all_goals go_meet
          all_goals exact ⟨ρ4, h4, (unhide HM3).mv.trans ((Mv.calm (unhide HM3).net.lt (Touch.refl _ _).drew).trans (m4.mono (fun _ _ => trivial))), hbx4, m4.noRole (Array.getElem?_eq_some_iff.1 hbx).1 (unhide HNR)⟩
        case rest =>
          obtain ⟨ρ4, hM4⟩ := hcut
          have hbx := hM4.box
          have hgl : wr.heap.size < wc.heap.size := (Array.getElem?_eq_some_iff.1 hbx).1
          have hat4 : wc.cell? ⟨b, 86 + c * 31, none⟩ = some (int x) := by
            have h5 := (hM4.net.cli c hc).here
            have h6 : (((τ.setCl c { τ.cl c with age := put (τ.cl c).age j A }).know x (2 * c + j) (some ⟨A, fl, none, [], 0, true⟩)).cl c).here = some x := unhide HH1
            rw [h6] at h5; exact h5
          have hblc := hM4.net.lt b (by rw [hM4.net.net]; simp)
          obtain ⟨hXF, hMF⟩ := hM4.net.addFrame (w' := (wc.alloc (.cells #[int 3, int c, int j, int A, int (tstAt fl 0).fld, int (tstAt fl 0).op, int (tstAt fl 0).n, int (tstAt fl 1).fld, int (tstAt fl 1).op, int (tstAt fl 1).n, int (tstAt fl 2).fld, int (tstAt fl 2).op, int (tstAt fl 2).n, int fl.length, int 0, int 0, int 0, int 0, int 0, int 0, int old, int x, nilS, int 0] 128)).drew) (((Touch.refl _ _).alloc _).drew) (Nat.le_refl _) (by simp [World.drew])
          have hFF : FrAt (wc.alloc (.cells #[int 3, int c, int j, int A, int (tstAt fl 0).fld, int (tstAt fl 0).op, int (tstAt fl 0).n, int (tstAt fl 1).fld, int (tstAt fl 1).op, int (tstAt fl 1).n, int (tstAt fl 2).fld, int (tstAt fl 2).op, int (tstAt fl 2).n, int fl.length, int 0, int 0, int 0, int 0, int 0, int 0, int old, int x, nilS, int 0] 128)).drew (roleAt ρ4 wc.heap.size .frame) (.move (2 * c + j) A fl old x) wc.heap.size := by
            refine ⟨by simp [roleAt], 0, [int 0, int 0, int 0, int 0, int 0, int 0, int 0, int 0, int 0, int 0], nilS, ?_, rfl, by simp [Value.oneCell'], ⟨⟨rfl, Or.inl ⟨rfl, rfl⟩⟩, fun g hg => by cases hg⟩⟩
            rw [encFr_move c j hlt]; exact heap_alloc_new wc _
          have HXF := hide hXF
          have HMF := hide hMF
          have HFF := hide hFF
          have HM4 := hide hM4
          have HBX := hide hbx
          have HLQ2 : Hid (∀ y, (((τ.setCl c { τ.cl c with age := put (τ.cl c).age j A }).know x (2 * c + j) (some ⟨A, fl, none, [], 0, true⟩)).q x y).length < 2000) := unhide HLQ
          have HBF : Hid ((wc.alloc (.cells #[int 3, int c, int j, int A, int (tstAt fl 0).fld, int (tstAt fl 0).op, int (tstAt fl 0).n, int (tstAt fl 1).fld, int (tstAt fl 1).op, int (tstAt fl 1).n, int (tstAt fl 2).fld, int (tstAt fl 2).op, int (tstAt fl 2).n, int fl.length, int 0, int 0, int 0, int 0, int 0, int 0, int old, int x, nilS, int 0] 128)).drew.heap[wr.heap.size]? = some (.cells #[int c, int j, int A, int (tstAt fl 0).fld, int (tstAt fl 0).op, int (tstAt fl 0).n, int (tstAt fl 1).fld, int (tstAt fl 1).op, int (tstAt fl 1).n, int (tstAt fl 2).fld, int (tstAt fl 2).op, int (tstAt fl 2).n, int fl.length] 121)) := (Below.heap_alloc _ _ _ hgl).trans (unhide HBX)
          have HAF : Hid ((wc.alloc (.cells #[int 3, int c, int j, int A, int (tstAt fl 0).fld, int (tstAt fl 0).op, int (tstAt fl 0).n, int (tstAt fl 1).fld, int (tstAt fl 1).op, int (tstAt fl 1).n, int (tstAt fl 2).fld, int (tstAt fl 2).op, int (tstAt fl 2).n, int fl.length, int 0, int 0, int 0, int 0, int 0, int 0, int old, int x, nilS, int 0] 128)).drew.cell? ⟨b, 86 + c * 31, none⟩ = some (int x)) := ((Touch.refl (fun _ => False) _).alloc _).cell (p := ⟨b, 86 + c * 31, none⟩) (fun f => f) hat4
          have HT2 : Hid (∀ w5 : World, Mv (fun o => ∃ y, o = .chan x y) (roleAt ρ4 wc.heap.size .frame) (roleAt ρ4 wc.heap.size .frame) (wc.alloc (.cells #[int 3, int c, int j, int A, int (tstAt fl 0).fld, int (tstAt fl 0).op, int (tstAt fl 0).n, int (tstAt fl 1).fld, int (tstAt fl 1).op, int (tstAt fl 1).n, int (tstAt fl 2).fld, int (tstAt fl 2).op, int (tstAt fl 2).n, int fl.length, int 0, int 0, int 0, int 0, int 0, int 0, int old, int x, nilS, int 0] 128)).drew w5 → w5.heap[wr.heap.size]? = some (.cells #[int c, int j, int A, int (tstAt fl 0).fld, int (tstAt fl 0).op, int (tstAt fl 0).n, int (tstAt fl 1).fld, int (tstAt fl 1).op, int (tstAt fl 1).n, int (tstAt fl 2).fld, int (tstAt fl 2).op, int (tstAt fl 2).n, int fl.length] 121)) := fun w5 m5 => by
            refine (m5.touch.block wr.heap.size (by simp [World.drew]; omega) (fun ⟨r, hr, _⟩ => ?_)).trans ((Below.heap_alloc _ _ _ hgl).trans (unhide HBX))
            unfold roleAt at hr
            rw [if_neg (by omega), (unhide HM4).non] at hr; cases hr
          clear hXF hMF hFF hM4
          go_wp2
          go_region_held3 (fun w' => w'.cell? ⟨wr.heap.size, 0, none⟩ = some (int c) ∧ w'.cell? ⟨wr.heap.size, 1, none⟩ = some (int j) ∧ w'.cell? ⟨wr.heap.size, 2, none⟩ = some (int A) ∧ w'.cell? ⟨wr.heap.size, 3, none⟩ = some (int (tstAt fl 0).fld) ∧ w'.cell? ⟨wr.heap.size, 4, none⟩ = some (int (tstAt fl 0).op) ∧ w'.cell? ⟨wr.heap.size, 5, none⟩ = some (int (tstAt fl 0).n) ∧ w'.cell? ⟨wr.heap.size, 6, none⟩ = some (int (tstAt fl 1).fld) ∧ w'.cell? ⟨wr.heap.size, 7, none⟩ = some (int (tstAt fl 1).op) ∧ w'.cell? ⟨wr.heap.size, 8, none⟩ = some (int (tstAt fl 1).n) ∧ w'.cell? ⟨wr.heap.size, 9, none⟩ = some (int (tstAt fl 2).fld) ∧ w'.cell? ⟨wr.heap.size, 10, none⟩ = some (int (tstAt fl 2).op) ∧ w'.cell? ⟨wr.heap.size, 11, none⟩ = some (int (tstAt fl 2).n) ∧ w'.cell? ⟨wr.heap.size, 12, none⟩ = some (int fl.length) ∧ w'.cell? ⟨b, 86 + c * 31, none⟩ = some (int x))
            (first
              | exact ⟨box_cell (unhide HBX) 0, box_cell (unhide HBX) 1, box_cell (unhide HBX) 2, box_cell (unhide HBX) 3, box_cell (unhide HBX) 4, box_cell (unhide HBX) 5, box_cell (unhide HBX) 6, box_cell (unhide HBX) 7, box_cell (unhide HBX) 8, box_cell (unhide HBX) 9, box_cell (unhide HBX) 10, box_cell (unhide HBX) 11, box_cell (unhide HBX) 12, hat4⟩
              | exact ⟨box_cell (unhide HBF) 0, box_cell (unhide HBF) 1, box_cell (unhide HBF) 2, box_cell (unhide HBF) 3, box_cell (unhide HBF) 4, box_cell (unhide HBF) 5, box_cell (unhide HBF) 6, box_cell (unhide HBF) 7, box_cell (unhide HBF) 8, box_cell (unhide HBF) 9, box_cell (unhide HBF) 10, box_cell (unhide HBF) 11, box_cell (unhide HBF) 12, unhide HAF⟩
              | exact ⟨box_cell hbx5 0, box_cell hbx5 1, box_cell hbx5 2, box_cell hbx5 3, box_cell hbx5 4, box_cell hbx5 5, box_cell hbx5 6, box_cell hbx5 7, box_cell hbx5 8, box_cell hbx5 9, box_cell hbx5 10, box_cell hbx5 11, box_cell hbx5 12, hat5⟩
              | go_keep)
            (first
              | (go_at_call 49; refine (at_any b (86 + c * 31) x _ ?_).mono ?_; (first | exact hat4 | exact ((Touch.refl (fun _ => False) _).alloc _).cell (p := ⟨b, 86 + c * 31, none⟩) (fun f => f) hat4); rintro e w5 ⟨rfl, rfl⟩)
              | (go_at_call 75; refine (passX (unhide HXF) hT hxn hon hne (unhide HLQ2) (unhide HFF)).mono ?_; rintro e w5 ⟨rfl, h5, m5⟩
                 have hbx5 := unhide HT2 _ m5
                 have hat5 : w5.cell? ⟨b, 86 + c * 31, none⟩ = some (int x) := by
                   have h7 := (h5.cli c hc).here
                   have h6 : ((((τ.setCl c { τ.cl c with age := put (τ.cl c).age j A }).know x (2 * c + j) (some ⟨A, fl, none, [], 0, true⟩)).push x (next ((τ.setCl c { τ.cl c with age := put (τ.cl c).age j A }).know x (2 * c + j) (some ⟨A, fl, none, [], 0, true⟩)).par x old) (.move (2 * c + j) A fl old x)).cl c).here = some x := unhide HH1
                   rw [h6] at h7; exact h7))
          all_goals go_wp2
          all_goals go_roundw
          all_goals first
            | exact ⟨j + 1, by omega, by go_num, _, by rw [unhide HCS, unhide HST]; exact h5, ((unhide HM4).mv.trans ((unhide HMF).mono (fun _ f => f.elim))).trans (m5.mono (fun _ _ => trivial))⟩
            | (simp [intOf]; omega)
    · have hji : ¬ (j : Int) < 2 := by omega
      have hj2 : j = 2 := by omega
      subst hj2
      have HX1 := hide hX1
      have HM1 := hide hM1
      clear hX1 hM1
      go_wp2
      go_end0
      exact ⟨rfl, ρ1, unhide HX1, unhide HM1⟩

end Go.Proofs.Ytodfcpblcpogiaa

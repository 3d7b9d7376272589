/-
  A Move frame is handled.
-/
import Derived.Test.YtodfcpblcpogiaaTrn
import Derived.Deep.RegionHeld3
namespace Go.Proofs.Ytodfcpblcpogiaa
open Go.RowKit

/-- All roles. -/
def allR (_ : Role) : Prop := True

/-- A new frame. -/
theorem XN.addFrame {w w' : World} {b : Nat} {ρ : Nat → Option Role} {σ : Net} (h : XN w b ρ σ) (t : Calm w w') {fb : Nat} (h1 : w.heap.size ≤ fb) (h2 : fb < w'.heap.size) : XN w' b (roleAt ρ fb .frame) σ ∧ Mv (fun _ => False) ρ (roleAt ρ fb .frame) w w' := by
  have hrole : ∀ k, k < w.heap.size → roleAt ρ fb .frame k = ρ k := fun k hk => by unfold roleAt; rw [if_neg (by omega)]
  have hlt : ∀ k, roleAt ρ fb .frame k ≠ none → k < w'.heap.size := fun k hk => by
    unfold roleAt at hk
    split at hk
    · rename_i e; rw [e]; exact h2
    · exact Nat.lt_of_lt_of_le (h.lt k hk) t.size
  have hb := h.lt b (by rw [h.net]; simp)
  have hbk := t.block b hb (fun f => f)
  refine ⟨?_, ⟨t.mono (fun _ _ f => f.elim), fun k hk => Or.inl (hrole k hk), hlt⟩⟩
  refine h.step' (S := fun _ => False) (fun {k r} hr _ => ?_) (hrole b hb) hlt (fun _ => False) (by rw [hbk]; exact h.typ) (fun o => (World.frozen?_of_block (w := w) (a := ⟨b, o, none⟩) hbk).trans (h.fr o)) (fun o v _ hc => cell_of_heap hbk hc) rfl rfl id id id id id
    (fun x y _ _ => Or.inl ⟨rfl, id, id⟩) (fun x c k _ _ _ => Or.inl ⟨rfl, id, id, id⟩) (fun c _ => Or.inl ⟨rfl, fun _ _ _ => id, fun _ => id, id⟩)
  have hk := h.lt k (by rw [hr]; simp)
  exact ⟨t.block k hk (fun f => f), hrole k hk⟩

theorem encFr_move (c k : Nat) (hk : k < 2) (age : Int) (fl : List Tst) (old new : Nat) (u : List Value) (kv : Value) : (encFr (.move (2 * c + k) age fl old new) u kv).toArray = #[int 3, int c, int k, int age, int (tstAt fl 0).fld, int (tstAt fl 0).op, int (tstAt fl 0).n, int (tstAt fl 1).fld, int (tstAt fl 1).op, int (tstAt fl 1).n, int (tstAt fl 2).fld, int (tstAt fl 2).op, int (tstAt fl 2).n, int fl.length, int 0, int 0, int 0, int 0, int 0, int 0, int old, int new, nilS, int 0] := by
  have h1 : (2 * c + k) / 2 = c := by omega
  have h2 : (2 * c + k) % 2 = k := by omega
  simp only [encFr, h1, h2]
  rfl

theorem encFr_rest (c k : Nat) (hk : k < 2) (age : Int) (fl : List Tst) (K : List News) (mo : Int) (new : Nat) (kv : Value) : (encFr (.rest (2 * c + k) K mo new) (int age :: encFil fl) kv).toArray = #[int 4, int c, int k, int age, int (tstAt fl 0).fld, int (tstAt fl 0).op, int (tstAt fl 0).n, int (tstAt fl 1).fld, int (tstAt fl 1).op, int (tstAt fl 1).n, int (tstAt fl 2).fld, int (tstAt fl 2).op, int (tstAt fl 2).n, int fl.length, int 0, int 0, int 0, int 0, int 0, int 0, int 0, int new, kv, int mo] := by
  have h1 : (2 * c + k) / 2 = c := by omega
  have h2 : (2 * c + k) % 2 = k := by omega
  simp only [encFr, h1, h2]
  rfl

set_option maxRecDepth 100000 in
set_option maxHeartbeats 2000000 in
/-- HANDLEMOVE. -/
theorem handleMoveX {w : World} {b : Nat} {ρ : Nat → Option Role} {σ : Net} (h : XN w b ρ σ) (T : Tree σ.par) {x y : Nat} (hx : x < σ.n) (hlen : ∀ y, (σ.q x y).length < 2000) {c k : Nat} (hc : c < 4) (hk : k < 2) (age : Int) (fl : List Tst) {old new : Nat} (ho : old < σ.n) (hn : new < σ.n) (hon : old ≠ new) (hway : x = old → next σ.par x new = y) {fb : Nat} (hf : FrAt w ρ (.move (2 * c + k) age fl old new) fb) :
    Calls Try.prog 82 #[.pointer (some ⟨b, 0, none⟩), int x, int (y : Nat), ptr fb] w fun e w' => e = .returned (.tuple #[]) ∧ ∃ ρ', XN w' b ρ' (σ.handle x (some y) (.move (2 * c + k) age fl old new)) ∧ Mv allR ρ ρ' w w' := by
  have hx6 : x < 6 := Nat.lt_of_lt_of_le hx (size_le T)
  obtain ⟨hr, _, _, _, hf', _⟩ := id hf
  rw [encFr_move c k hk] at hf'
  have c1 : w.cell? ⟨fb, 1, none⟩ = some (int c) := box_cell hf' 1
  have c2 : w.cell? ⟨fb, 2, none⟩ = some (int k) := box_cell hf' 2
  have c3 : w.cell? ⟨fb, 3, none⟩ = some (int age) := box_cell hf' 3
  have c4 : w.cell? ⟨fb, 4, none⟩ = some (int (tstAt fl 0).fld) := box_cell hf' 4
  have c5 : w.cell? ⟨fb, 5, none⟩ = some (int (tstAt fl 0).op) := box_cell hf' 5
  have c6 : w.cell? ⟨fb, 6, none⟩ = some (int (tstAt fl 0).n) := box_cell hf' 6
  have c7 : w.cell? ⟨fb, 7, none⟩ = some (int (tstAt fl 1).fld) := box_cell hf' 7
  have c8 : w.cell? ⟨fb, 8, none⟩ = some (int (tstAt fl 1).op) := box_cell hf' 8
  have c9 : w.cell? ⟨fb, 9, none⟩ = some (int (tstAt fl 1).n) := box_cell hf' 9
  have c10 : w.cell? ⟨fb, 10, none⟩ = some (int (tstAt fl 2).fld) := box_cell hf' 10
  have c11 : w.cell? ⟨fb, 11, none⟩ = some (int (tstAt fl 2).op) := box_cell hf' 11
  have c12 : w.cell? ⟨fb, 12, none⟩ = some (int (tstAt fl 2).n) := box_cell hf' 12
  have c13 : w.cell? ⟨fb, 13, none⟩ = some (int fl.length) := box_cell hf' 13
  have hxi : (x : Int) < 6 := by omega
  have hnr : ρ w.heap.size = none := by
    cases hq : ρ w.heap.size with
    | none => rfl
    | some r => have := h.lt w.heap.size (by rw [hq]; simp); omega
  have HNR := hide hnr
  have hfbl : fb < w.heap.size := h.lt fb (by rw [hr]; simp)
  have hbl : b < w.heap.size := h.lt b (by rw [h.net]; simp)
  have HX := hide h
  have HF := hide hf
  have HLEN := hide hlen
  clear h hf hf' hlen hnr
  go_enter Try.func82, Try.ntmps82
  go_wp2
  go_cut [8] (fun s wx => ∃ g sa sc ρ', s = ptr g ∧ wx.cell? ⟨g, 0, none⟩ = some (.slice sa (keptOf (σ.kn x (2 * c + k))).length sc) ∧ wx.cell? ⟨g, 1, none⟩ = some (int (moreOf (σ.kn x (2 * c + k)))) ∧ ρ' g = none ∧ Hid (XN wx b ρ' (σ.know x (2 * c + k) (some ⟨age, fl, some y, [], 0, false⟩)) ∧
      RowAt wx ρ' .rest 163 8 (keptOf (σ.kn x (2 * c + k))).length ((keptOf (σ.kn x (2 * c + k))).flatMap (noteOf ((2 * c + k) % 2))) (.slice sa (keptOf (σ.kn x (2 * c + k))).length sc) ∧ Mv (turnR x (2 * c + k)) ρ ρ' w wx))
  case first =>
    go_region_with (first
      | (go_at_call 100; refine (turnX (w := (w.alloc (.cells #[.slice none 0 0, int 0] 126)).drew) (σ := σ) (ρ := ρ) ((unhide HX).calm (((Touch.refl _ _).alloc _).drew)) hx6 hc hk age fl (some y)).mono ?_; rintro e w1 ⟨sa, sc, ρ1, rfl, h1, r1, m1⟩
         have hbx : w1.heap[w.heap.size]? = some (.cells #[.slice none 0 0, int 0] 126) := (m1.touch.block w.heap.size (by simp [World.drew]) (fun ⟨r, hq, _⟩ => by rw [unhide HNR] at hq; cases hq)).trans (heap_alloc_new w _)
         have hrn : ρ1 w.heap.size = none := m1.noRole (by simp [World.drew]) (unhide HNR)
         have q0 : w1.cell? ⟨w.heap.size, 0, none⟩ = some (.slice none 0 0) := box_cell hbx 0
         have q1 : w1.cell? ⟨w.heap.size, 1, none⟩ = some (int 0) := box_cell hbx 1
         have z0 : w1.frozen? ⟨w.heap.size, 0, none⟩ = false := box_frozen hbx 0
         have z1 : w1.frozen? ⟨w.heap.size, 1, none⟩ = false := box_frozen hbx 1
         have hsz : w.heap.size < w1.heap.size := block_lt_of_cell q0
         have H1 := hide (And.intro h1 (And.intro r1 (And.intro ((Mv.calm (unhide HX).lt (((Touch.refl _ _).alloc _).drew)).trans m1) hrn)))
         clear h1 r1 m1 hbx hrn)
      | (go_at_call 100; refine (turnX (w := w.drew) (σ := σ) (ρ := ρ) ((unhide HX).calm (Touch.refl _ _).drew) hx6 hc hk age fl (some y)).mono ?_; rintro e w1 ⟨sa, sc, ρ1, rfl, h1, r1, m1⟩
         have H1 := hide (And.intro h1 (And.intro r1 ((Mv.calm (unhide HX).lt ((Touch.refl _ _).drew)).trans m1)))
         clear h1 r1 m1))
    all_goals go_wp2_with fail
    all_goals go_meet
    all_goals first
      | (obtain ⟨h1, r1, m1, hrn⟩ := unhide H1
         have e0 : (w1.setCell ⟨w.heap.size, 0, none⟩ (.slice sa (keptOf (σ.kn x (2 * c + k))).length sc)).cell? ⟨w.heap.size, 1, none⟩ = some (int 0) := cell_setCell_ne w1 (by omega) q1
         have hT : Touch (fun i => i = w.heap.size) w1 ((w1.setCell ⟨w.heap.size, 0, none⟩ (.slice sa (keptOf (σ.kn x (2 * c + k))).length sc)).setCell ⟨w.heap.size, 1, none⟩ (int (moreOf (σ.kn x (2 * c + k))))) := ((Touch.refl (fun i => i = w.heap.size) w1).setCell (p := ⟨w.heap.size, 0, none⟩) (fun _ => rfl) _).setCell (p := ⟨w.heap.size, 1, none⟩) (fun _ => rfl) _
         have hX := h1.keep hT (fun i hi e => hi (by rw [e]; exact hrn))
         refine ⟨w.heap.size, sa, sc, ρ1, rfl, cell_setCell_ne _ (by omega) (World.cell?_setCell_same w1 _ _ q0), World.cell?_setCell_same _ _ _ e0, hrn, hX, ⟨ownsRow_keep r1.1 hT (fun g hg e => by have := r1.2 g hg; rw [e, hrn] at this; cases this), r1.2⟩, ?_⟩
         exact ⟨⟨hT.os.trans m1.touch.os, hT.tape.trans m1.touch.tape, hT.output.trans m1.touch.output, Nat.le_trans m1.touch.size hT.size, fun i hi hs => (hT.block i (Nat.lt_of_lt_of_le hi m1.touch.size) (by omega)).trans (m1.touch.block i hi hs)⟩, m1.role, fun i hi => Nat.lt_of_lt_of_le (m1.lt i hi) hT.size⟩)
      | (obtain ⟨h1, r1, m1⟩ := unhide H1
         have hT : Calm w1 (w1.alloc (.cells #[.slice sa (keptOf (σ.kn x (2 * c + k))).length sc, int (moreOf (σ.kn x (2 * c + k)))] 126)) := (Touch.refl _ _).alloc _
         exact ⟨w1.heap.size, sa, sc, ρ1, rfl, box_cell (heap_alloc_new w1 _) 0, box_cell (heap_alloc_new w1 _) 1, (by cases hq : ρ1 w1.heap.size with | none => rfl | some r => exact absurd (h1.lt w1.heap.size (by rw [hq]; simp)) (by omega)), h1.calm hT, ⟨ownsRow_keep r1.1 hT (fun _ _ f => f), r1.2⟩, m1.trans (h1.mvCalm hT)⟩)
  case rest =>
    obtain ⟨g, sa, sc, ρ1, rfl, g0, g1, hgn, hH⟩ := hcut
    obtain ⟨hX1, hR1, hM1⟩ := unhide hH
    have hF1 := (unhide HF).mv (unhide HX).lt hM1 (by simp [turnR]) (by simp [turnR])
    obtain ⟨hr1, _, _, _, hf1, _⟩ := id hF1
    rw [encFr_move c k hk] at hf1
    have d1 : wc.cell? ⟨fb, 1, none⟩ = some (int c) := box_cell hf1 1
    have d2 : wc.cell? ⟨fb, 2, none⟩ = some (int k) := box_cell hf1 2
    have d3 : wc.cell? ⟨fb, 3, none⟩ = some (int age) := box_cell hf1 3
    have d4 : wc.cell? ⟨fb, 4, none⟩ = some (int (tstAt fl 0).fld) := box_cell hf1 4
    have d5 : wc.cell? ⟨fb, 5, none⟩ = some (int (tstAt fl 0).op) := box_cell hf1 5
    have d6 : wc.cell? ⟨fb, 6, none⟩ = some (int (tstAt fl 0).n) := box_cell hf1 6
    have d7 : wc.cell? ⟨fb, 7, none⟩ = some (int (tstAt fl 1).fld) := box_cell hf1 7
    have d8 : wc.cell? ⟨fb, 8, none⟩ = some (int (tstAt fl 1).op) := box_cell hf1 8
    have d9 : wc.cell? ⟨fb, 9, none⟩ = some (int (tstAt fl 1).n) := box_cell hf1 9
    have d10 : wc.cell? ⟨fb, 10, none⟩ = some (int (tstAt fl 2).fld) := box_cell hf1 10
    have d11 : wc.cell? ⟨fb, 11, none⟩ = some (int (tstAt fl 2).op) := box_cell hf1 11
    have d12 : wc.cell? ⟨fb, 12, none⟩ = some (int (tstAt fl 2).n) := box_cell hf1 12
    have d13 : wc.cell? ⟨fb, 13, none⟩ = some (int fl.length) := box_cell hf1 13
    have d20 : wc.cell? ⟨fb, 20, none⟩ = some (int old) := box_cell hf1 20
    have d21 : wc.cell? ⟨fb, 21, none⟩ = some (int new) := box_cell hf1 21
    have hfl1 := hX1.lt fb (by rw [hr1]; simp)
    have hgl : g < wc.heap.size := block_lt_of_cell g0
    have hbl1 := hX1.lt b (by rw [hX1.net]; simp)
    have HX1 := hide hX1
    have HM1 := hide hM1
    have HF1 := hide hF1
    have HR1 := hide hR1
    clear hX1 hM1 hF1 hR1 hH hf1 c1 c2 c3 c4 c5 c6 c7 c8 c9 c10 c11 c12 c13
    by_cases hxo : x = old
    · subst hxo
      have hxoi : ((x : Int) != (x : Int)) = false := by simp
      have hyn := hway rfl
      have hxn : x ≠ new := hon
      obtain ⟨n, hn0⟩ : ∃ n, n = (keptOf (σ.kn x (2 * c + k))).length := ⟨_, rfl⟩
      obtain ⟨mo, hmo⟩ : ∃ mo, mo = moreOf (σ.kn x (2 * c + k)) := ⟨_, rfl⟩
      have hst : σ.handle x (some y) (.move (2 * c + k) age fl x new) = (σ.know x (2 * c + k) (some ⟨age, fl, some y, [], 0, false⟩)).push x (next σ.par x new) (.rest (2 * c + k) (keptOf (σ.kn x (2 * c + k))) (moreOf (σ.kn x (2 * c + k))) new) := by
        simp only [Net.handle, if_true, hyn]
        cases σ.kn x (2 * c + k) <;> rfl
      have HST := hide hst
      rw [← hn0] at g0
      rw [← hmo] at g1
      have HN0 := hide hn0
      have HMO := hide hmo
      clear hst hn0 hmo hway hyn
      obtain ⟨hXF, hMF⟩ := (unhide HX1).addFrame (w' := (wc.alloc (.cells #[int 4, int c, int k, int age, int (tstAt fl 0).fld, int (tstAt fl 0).op, int (tstAt fl 0).n, int (tstAt fl 1).fld, int (tstAt fl 1).op, int (tstAt fl 1).n, int (tstAt fl 2).fld, int (tstAt fl 2).op, int (tstAt fl 2).n, int fl.length, int 0, int 0, int 0, int 0, int 0, int 0, int 0, int new, .slice sa n sc, int mo] 128)).drew) (((Touch.refl _ _).alloc _).drew) (Nat.le_refl _) (by simp [World.drew])
      have hFF : FrAt (wc.alloc (.cells #[int 4, int c, int k, int age, int (tstAt fl 0).fld, int (tstAt fl 0).op, int (tstAt fl 0).n, int (tstAt fl 1).fld, int (tstAt fl 1).op, int (tstAt fl 1).n, int (tstAt fl 2).fld, int (tstAt fl 2).op, int (tstAt fl 2).n, int fl.length, int 0, int 0, int 0, int 0, int 0, int 0, int 0, int new, .slice sa n sc, int mo] 128)).drew (roleAt ρ1 wc.heap.size .frame) (.rest (2 * c + k) (keptOf (σ.kn x (2 * c + k))) (moreOf (σ.kn x (2 * c + k))) new) wc.heap.size := by
        refine ⟨by simp [roleAt], age, encFil fl, .slice sa n sc, ?_, by simp [encFil, Tst.enc], by simp [encFil, Tst.enc, Value.oneCell'], ?_⟩
        · rw [encFr_rest c k hk, ← unhide HMO]; exact heap_alloc_new wc _
        · have hr := unhide HR1
          rw [← unhide HN0] at hr
          have h2 : RowAt (wc.alloc (.cells #[int 4, int c, int k, int age, int (tstAt fl 0).fld, int (tstAt fl 0).op, int (tstAt fl 0).n, int (tstAt fl 1).fld, int (tstAt fl 1).op, int (tstAt fl 1).n, int (tstAt fl 2).fld, int (tstAt fl 2).op, int (tstAt fl 2).n, int fl.length, int 0, int 0, int 0, int 0, int 0, int 0, int 0, int new, .slice sa n sc, int mo] 128)).drew (roleAt ρ1 wc.heap.size .frame) .rest 163 8 n ((keptOf (σ.kn x (2 * c + k))).flatMap (noteOf ((2 * c + k) % 2))) (.slice sa n sc) :=
            ⟨ownsRow_keep hr.1 (((Touch.refl (fun _ => False) _).alloc _).drew) (fun _ _ f => f), fun q hq => by
              have h3 := hr.2 q hq
              have h4 := (unhide HX1).lt q (by rw [h3]; simp)
              unfold roleAt; rw [if_neg (by omega)]; exact h3⟩
          have e : n = restN (.rest (2 * c + k) (keptOf (σ.kn x (2 * c + k))) (moreOf (σ.kn x (2 * c + k))) new) := unhide HN0
          rw [← e]
          exact h2
      have HXF := hide hXF
      have HMF := hide hMF
      have HFF := hide hFF
      clear hXF hMF hFF
      go_wp2
      have hT2 : ∀ (w2 : World), Mv (fun o => ∃ y, o = .chan x y) (roleAt ρ1 wc.heap.size .frame) (roleAt ρ1 wc.heap.size .frame) (wc.alloc (.cells #[int 4, int c, int k, int age, int (tstAt fl 0).fld, int (tstAt fl 0).op, int (tstAt fl 0).n, int (tstAt fl 1).fld, int (tstAt fl 1).op, int (tstAt fl 1).n, int (tstAt fl 2).fld, int (tstAt fl 2).op, int (tstAt fl 2).n, int fl.length, int 0, int 0, int 0, int 0, int 0, int 0, int 0, int new, .slice sa n sc, int mo] 128)).drew w2 → ∀ (i o : Nat) (v : Value), i < wc.heap.size → (ρ1 i = none ∨ ρ1 i = some .frame) → wc.cell? ⟨i, o, none⟩ = some v → w2.cell? ⟨i, o, none⟩ = some v := fun w2 m2 i o v hi hr hv => by
        have h1 : (wc.alloc (.cells #[int 4, int c, int k, int age, int (tstAt fl 0).fld, int (tstAt fl 0).op, int (tstAt fl 0).n, int (tstAt fl 1).fld, int (tstAt fl 1).op, int (tstAt fl 1).n, int (tstAt fl 2).fld, int (tstAt fl 2).op, int (tstAt fl 2).n, int fl.length, int 0, int 0, int 0, int 0, int 0, int 0, int 0, int new, .slice sa n sc, int mo] 128)).drew.cell? ⟨i, o, none⟩ = some v := (((Touch.refl (fun _ => False) wc).alloc _).drew).cell (p := ⟨i, o, none⟩) (fun f => f) hv
        refine m2.touch.cell (p := ⟨i, o, none⟩) (fun ⟨r, hr1, z, hz⟩ => ?_) h1
        unfold roleAt at hr1
        rw [if_neg (by show ¬ i = wc.heap.size; omega)] at hr1
        subst hz
        rcases hr with hr | hr <;> (rw [hr] at hr1; cases hr1)
      have HT2 := hide hT2
      clear hT2
      go_region_held3 (fun w' => w'.cell? ⟨fb, 1, none⟩ = some (int c) ∧ w'.cell? ⟨fb, 2, none⟩ = some (int k) ∧ w'.cell? ⟨fb, 3, none⟩ = some (int age) ∧ w'.cell? ⟨fb, 4, none⟩ = some (int (tstAt fl 0).fld) ∧ w'.cell? ⟨fb, 5, none⟩ = some (int (tstAt fl 0).op) ∧ w'.cell? ⟨fb, 6, none⟩ = some (int (tstAt fl 0).n) ∧ w'.cell? ⟨fb, 7, none⟩ = some (int (tstAt fl 1).fld) ∧ w'.cell? ⟨fb, 8, none⟩ = some (int (tstAt fl 1).op) ∧ w'.cell? ⟨fb, 9, none⟩ = some (int (tstAt fl 1).n) ∧ w'.cell? ⟨fb, 10, none⟩ = some (int (tstAt fl 2).fld) ∧ w'.cell? ⟨fb, 11, none⟩ = some (int (tstAt fl 2).op) ∧ w'.cell? ⟨fb, 12, none⟩ = some (int (tstAt fl 2).n) ∧ w'.cell? ⟨fb, 13, none⟩ = some (int fl.length) ∧ w'.cell? ⟨fb, 21, none⟩ = some (int new) ∧ w'.cell? ⟨g, 0, none⟩ = some (.slice sa n sc) ∧ w'.cell? ⟨g, 1, none⟩ = some (int mo))
        (first
          | exact ⟨unhide HT2 _ m2 _ _ _ hfl1 (Or.inr hr1) d1, unhide HT2 _ m2 _ _ _ hfl1 (Or.inr hr1) d2, unhide HT2 _ m2 _ _ _ hfl1 (Or.inr hr1) d3, unhide HT2 _ m2 _ _ _ hfl1 (Or.inr hr1) d4, unhide HT2 _ m2 _ _ _ hfl1 (Or.inr hr1) d5, unhide HT2 _ m2 _ _ _ hfl1 (Or.inr hr1) d6, unhide HT2 _ m2 _ _ _ hfl1 (Or.inr hr1) d7, unhide HT2 _ m2 _ _ _ hfl1 (Or.inr hr1) d8, unhide HT2 _ m2 _ _ _ hfl1 (Or.inr hr1) d9, unhide HT2 _ m2 _ _ _ hfl1 (Or.inr hr1) d10, unhide HT2 _ m2 _ _ _ hfl1 (Or.inr hr1) d11, unhide HT2 _ m2 _ _ _ hfl1 (Or.inr hr1) d12, unhide HT2 _ m2 _ _ _ hfl1 (Or.inr hr1) d13, unhide HT2 _ m2 _ _ _ hfl1 (Or.inr hr1) d21, unhide HT2 _ m2 _ _ _ hgl (Or.inl hgn) g0, unhide HT2 _ m2 _ _ _ hgl (Or.inl hgn) g1⟩
          | exact ⟨d1, d2, d3, d4, d5, d6, d7, d8, d9, d10, d11, d12, d13, d21, g0, g1⟩
          | exact ⟨((Touch.refl (fun _ => False) _).alloc _).cell (p := ⟨fb, 1, none⟩) (fun f => f) d1, ((Touch.refl (fun _ => False) _).alloc _).cell (p := ⟨fb, 2, none⟩) (fun f => f) d2, ((Touch.refl (fun _ => False) _).alloc _).cell (p := ⟨fb, 3, none⟩) (fun f => f) d3, ((Touch.refl (fun _ => False) _).alloc _).cell (p := ⟨fb, 4, none⟩) (fun f => f) d4, ((Touch.refl (fun _ => False) _).alloc _).cell (p := ⟨fb, 5, none⟩) (fun f => f) d5, ((Touch.refl (fun _ => False) _).alloc _).cell (p := ⟨fb, 6, none⟩) (fun f => f) d6, ((Touch.refl (fun _ => False) _).alloc _).cell (p := ⟨fb, 7, none⟩) (fun f => f) d7, ((Touch.refl (fun _ => False) _).alloc _).cell (p := ⟨fb, 8, none⟩) (fun f => f) d8, ((Touch.refl (fun _ => False) _).alloc _).cell (p := ⟨fb, 9, none⟩) (fun f => f) d9, ((Touch.refl (fun _ => False) _).alloc _).cell (p := ⟨fb, 10, none⟩) (fun f => f) d10, ((Touch.refl (fun _ => False) _).alloc _).cell (p := ⟨fb, 11, none⟩) (fun f => f) d11, ((Touch.refl (fun _ => False) _).alloc _).cell (p := ⟨fb, 12, none⟩) (fun f => f) d12, ((Touch.refl (fun _ => False) _).alloc _).cell (p := ⟨fb, 13, none⟩) (fun f => f) d13, ((Touch.refl (fun _ => False) _).alloc _).cell (p := ⟨fb, 21, none⟩) (fun f => f) d21, ((Touch.refl (fun _ => False) _).alloc _).cell (p := ⟨g, 0, none⟩) (fun f => f) g0, ((Touch.refl (fun _ => False) _).alloc _).cell (p := ⟨g, 1, none⟩) (fun f => f) g1⟩
          | go_keep)
        (first | (go_at_call 75; refine (passX (unhide HXF) T hx hn hxn (unhide HLEN) (unhide HFF)).mono ?_; rintro e w2 ⟨rfl, h2, m2⟩))
      all_goals go_end0
      all_goals exact ⟨rfl, _, by rw [unhide HST]; exact h2, (((unhide HM1).mono (fun _ _ => trivial)).trans ((unhide HMF).mono (fun _ f => f.elim))).trans (m2.mono (fun _ _ => trivial))⟩
    · have hxoi : ((x : Int) != (old : Int)) = true := by simp <;> omega
      have hst : σ.handle x (some y) (.move (2 * c + k) age fl old new) = (σ.know x (2 * c + k) (some ⟨age, fl, some y, [], 0, false⟩)).push x (next σ.par x old) (.move (2 * c + k) age fl old new) := by
        simp only [Net.handle, if_neg hxo]
        try rfl
      have HST := hide hst
      clear hst hway
      go_wp2_with (go_at_call 75; refine (passX (σ := σ.know x (2 * c + k) (some ⟨age, fl, some y, [], 0, false⟩)) (ρ := ρ1) (g := old) (f := .move (2 * c + k) age fl old new) (fb := fb) (unhide HX1) T hx ho hxo (unhide HLEN) (unhide HF1)).mono ?_; rintro e w2 ⟨rfl, h2, m2⟩)
      exact bodyPost_ret (v := .tuple #[]) (by simp [results, Try.results82, go_sem]) rfl ⟨rfl, ρ1, by rw [unhide HST]; exact h2, (((unhide HM1).mono (fun _ _ => trivial)).trans (m2.mono (fun _ _ => trivial)))⟩

end Go.Proofs.Ytodfcpblcpogiaa

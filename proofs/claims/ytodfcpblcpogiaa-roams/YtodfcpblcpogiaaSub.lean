/-
  A Sub frame is handled.
-/
import Derived.Test.YtodfcpblcpogiaaLearn
namespace Go.Proofs.Ytodfcpblcpogiaa
open Go.RowKit

theorem encFr_sub (c k : Nat) (hk : k < 2) (age : Int) (fl : List Tst) (u : List Value) (kv : Value) : (encFr (.sub (2 * c + k) age fl) u kv).toArray = #[int 0, int c, int k, int age, int (tstAt fl 0).fld, int (tstAt fl 0).op, int (tstAt fl 0).n, int (tstAt fl 1).fld, int (tstAt fl 1).op, int (tstAt fl 1).n, int (tstAt fl 2).fld, int (tstAt fl 2).op, int (tstAt fl 2).n, int fl.length, int 0, int 0, int 0, int 0, int 0, int 0, int 0, int 0, nilS, int 0] := by
  have h1 : (2 * c + k) / 2 = c := by omega
  have h2 : (2 * c + k) % 2 = k := by omega
  simp only [encFr, h1, h2]
  rfl

set_option maxRecDepth 100000 in
set_option maxHeartbeats 1000000 in
/-- HANDLESUB. -/
theorem handleSubX {w : World} {b : Nat} {ρ : Nat → Option Role} {σ : Net} (h : XN w b ρ σ) (T : Tree σ.par) {x : Nat} {fr : Option Nat} (hx : x < σ.n) (hlen : ∀ y, (σ.q x y).length < 2000) {c k : Nat} (hc : c < 4) (hk : k < 2) (age : Int) (fl : List Tst) {fb : Nat} (hf : FrAt w ρ (.sub (2 * c + k) age fl) fb) :
    Calls Try.prog 79 #[.pointer (some ⟨b, 0, none⟩), int x, int (whr fr), ptr fb] w fun e w' => e = .returned (.tuple #[]) ∧ ∃ ρ', XN w' b ρ' (σ.handle x fr (.sub (2 * c + k) age fl)) ∧ Mv (fun r => r = .net ∨ ∃ y, r = .chan x y) ρ ρ' w w' := by
  have hx6 : x < 6 := Nat.lt_of_lt_of_le hx (size_le T)
  obtain ⟨hr, _, _, _, hf', _⟩ := id hf
  rw [encFr_sub c k hk] at hf'
  have c1 : w.cell? ⟨fb, 1, none⟩ = some (int c) := box_cell hf' 1
  have c2 : w.cell? ⟨fb, 2, none⟩ = some (int k) := box_cell hf' 2
  have c3 : w.cell? ⟨fb, 3, none⟩ = some (int age) := box_cell hf' 3
  have c4 : w.cell? ⟨fb, 4, none⟩ = some (int (tstAt fl 0).fld) := box_cell hf' 4
  have c5 : w.cell? ⟨fb, 5, none⟩ = some (int (tstAt fl 0).op) := box_cell hf' 5
  have c6 : w.cell? ⟨fb, 6, none⟩ = some (int (tstAt fl 0).n) := box_cell hf' 6
  have c7 : w.cell? ⟨fb, 7, none⟩ = some (int (tstAt fl 1).fld) := box_cell hf' 7
  have c8 : w.cell? ⟨fb, 8, none⟩ = some (int (tstAt fl 1).op) := box_cell hf' 8
  have c9 : w.cell? ⟨fb, 9, none⟩ = some (int (tstAt fl 1).n) := box_cell hf' 9
  have c10 : w.cell? ⟨fb, 10, none⟩ = some (int (tstAt fl 2).fld) := box_cell hf' 10
  have c11 : w.cell? ⟨fb, 11, none⟩ = some (int (tstAt fl 2).op) := box_cell hf' 11
  have c12 : w.cell? ⟨fb, 12, none⟩ = some (int (tstAt fl 2).n) := box_cell hf' 12
  have c13 : w.cell? ⟨fb, 13, none⟩ = some (int fl.length) := box_cell hf' 13
  have hxi : (x : Int) < 6 := by omega
  have HX := hide h
  have HF := hide hf
  have HLEN := hide hlen
  clear h hf hf' hlen
  go_enter Try.func79, Try.ntmps79
  go_wp2
  go_cut [] (fun wx => ∃ ρ', XN wx b ρ' (σ.learn x (2 * c + k) age fl fr) ∧ Mv (fun r => r = .net) ρ ρ' w wx)
  case first =>
    go_region_with (go_at_call 95; refine (learnX (w := w.drew) (σ := σ) (ρ := ρ) ((unhide HX).calm (Touch.refl _ _).drew) hx6 hc hk age fl fr).mono ?_; rintro e w1 ⟨rfl, ρ1, h1, m1⟩)
    all_goals (go_wp2_with fail; go_meet; exact ⟨ρ1, h1, (Mv.calm (unhide HX).lt (Touch.refl _ _).drew).trans m1⟩)
  case rest =>
    obtain ⟨ρ1, h1, m1⟩ := hcut
    have hk1 := learn_keeps σ x (2 * c + k) age fl fr
    have HF1 := hide ((unhide HF).mv (unhide HX).lt m1 (by simp) (by simp))
    have HX1 := hide h1
    have HM1 := hide m1
    clear h1 m1 c1 c2 c3 c4 c5 c6 c7 c8 c9 c10 c11 c12 c13
    go_wp2_with (go_at_call 96; refine (spreadX (f := .sub (2 * c + k) age fl) (fr := fr) (unhide HX1) (by rw [hk1.1]; exact T) (by simp only [Net.n, hk1.1]; exact hx) (by rw [hk1.2.1]; exact unhide HLEN) (unhide HF1)).mono ?_; rintro e w2 ⟨rfl, h2, m2⟩)
    go_end0
    exact ⟨rfl, ρ1, h2, ((unhide HM1).mono (fun r hr => Or.inl hr)).trans (m2.mono (fun r hr => Or.inr hr))⟩

theorem encFr_unsub (c k : Nat) (hk : k < 2) (age : Int) (u : List Value) (kv : Value) : (encFr (.unsub (2 * c + k) age) u kv).toArray = #[int 1, int c, int k, int age, int 0, int 0, int 0, int 0, int 0, int 0, int 0, int 0, int 0, int 0, int 0, int 0, int 0, int 0, int 0, int 0, int 0, int 0, nilS, int 0] := by
  have h1 : (2 * c + k) / 2 = c := by omega
  have h2 : (2 * c + k) % 2 = k := by omega
  simp only [encFr, h1, h2]
  rfl

set_option maxRecDepth 100000 in
set_option maxHeartbeats 1000000 in
/-- HANDLEUNSUB. -/
theorem handleUnsubX {w : World} {b : Nat} {ρ : Nat → Option Role} {σ : Net} (h : XN w b ρ σ) (T : Tree σ.par) {x : Nat} {fr : Option Nat} (hx : x < σ.n) (hlen : ∀ y, (σ.q x y).length < 2000) {c k : Nat} (hc : c < 4) (hk : k < 2) (age : Int) {fb : Nat} (hf : FrAt w ρ (.unsub (2 * c + k) age) fb) :
    Calls Try.prog 80 #[.pointer (some ⟨b, 0, none⟩), int x, int (whr fr), ptr fb] w fun e w' => e = .returned (.tuple #[]) ∧ ∃ ρ', XN w' b ρ' (σ.handle x fr (.unsub (2 * c + k) age)) ∧ Mv (fun r => r = .net ∨ ∃ y, r = .chan x y) ρ ρ' w w' := by
  have hx6 : x < 6 := Nat.lt_of_lt_of_le hx (size_le T)
  obtain ⟨hr, _, _, _, hf', _⟩ := id hf
  rw [encFr_unsub c k hk] at hf'
  have c1 : w.cell? ⟨fb, 1, none⟩ = some (int c) := box_cell hf' 1
  have c2 : w.cell? ⟨fb, 2, none⟩ = some (int k) := box_cell hf' 2
  have c3 : w.cell? ⟨fb, 3, none⟩ = some (int age) := box_cell hf' 3
  have c4 : w.cell? ⟨fb, 4, none⟩ = some (int 0) := box_cell hf' 4
  have c5 : w.cell? ⟨fb, 5, none⟩ = some (int 0) := box_cell hf' 5
  have c6 : w.cell? ⟨fb, 6, none⟩ = some (int 0) := box_cell hf' 6
  have c7 : w.cell? ⟨fb, 7, none⟩ = some (int 0) := box_cell hf' 7
  have c8 : w.cell? ⟨fb, 8, none⟩ = some (int 0) := box_cell hf' 8
  have c9 : w.cell? ⟨fb, 9, none⟩ = some (int 0) := box_cell hf' 9
  have c10 : w.cell? ⟨fb, 10, none⟩ = some (int 0) := box_cell hf' 10
  have c11 : w.cell? ⟨fb, 11, none⟩ = some (int 0) := box_cell hf' 11
  have c12 : w.cell? ⟨fb, 12, none⟩ = some (int 0) := box_cell hf' 12
  have c13 : w.cell? ⟨fb, 13, none⟩ = some (int 0) := box_cell hf' 13
  have hxi : (x : Int) < 6 := by omega
  have HX := hide h
  have HF := hide hf
  have HLEN := hide hlen
  clear h hf hf' hlen
  go_enter Try.func80, Try.ntmps80
  go_wp2
  go_cut [] (fun wx => XN wx b ρ (σ.forget x (2 * c + k) age) ∧ Mv (fun r => r = .net) ρ ρ w wx)
  case first =>
    go_region_with (go_at_call 97; refine (forgetX (w := w.drew) (σ := σ) (ρ := ρ) ((unhide HX).calm (Touch.refl _ _).drew) hx6 hc hk age).mono ?_; rintro e w1 ⟨rfl, h1, m1⟩)
    all_goals (go_wp2_with fail; go_meet; exact ⟨h1, (Mv.calm (unhide HX).lt (Touch.refl _ _).drew).trans m1⟩)
  case rest =>
    obtain ⟨h1, m1⟩ := hcut
    have hk1 := forget_keeps σ x (2 * c + k) age
    have HF1 := hide ((unhide HF).mv (unhide HX).lt m1 (by simp) (by simp))
    have HX1 := hide h1
    have HM1 := hide m1
    clear h1 m1 c1 c2 c3 c4 c5 c6 c7 c8 c9 c10 c11 c12 c13
    go_wp2_with (go_at_call 96; refine (spreadX (f := .unsub (2 * c + k) age) (fr := fr) (unhide HX1) (by rw [hk1.1]; exact T) (by simp only [Net.n, hk1.1]; exact hx) (by rw [hk1.2.1]; exact unhide HLEN) (unhide HF1)).mono ?_; rintro e w2 ⟨rfl, h2, m2⟩)
    go_end0
    exact ⟨rfl, ρ, h2, ((unhide HM1).mono (fun r hr => Or.inl hr)).trans (m2.mono (fun r hr => Or.inr hr))⟩

end Go.Proofs.Ytodfcpblcpogiaa

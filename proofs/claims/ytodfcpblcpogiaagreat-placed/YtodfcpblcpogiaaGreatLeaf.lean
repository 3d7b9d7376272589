/-
  The walks of the small functions that Placed reaches.
-/
import Derived.Test.YtodfcpblcpogiaaGreatRows
import Derived.WalkKit
import Derived.WalkSpells
import Derived.WalkLawsBesides
import Derived.Deep.QuietTactic
import Derived.BigQuiet
namespace Go.Proofs.YtodfcpblcpogiaaGreat
open Go.RowKit

theorem hide {p : Prop} (h : p) : Hid p := h
theorem unhide {p : Prop} (h : Hid p) : p := h

/-- isClient's answer. -/
def cliB (c : Int) : Bool := decide (0 ≤ c) && decide (c < 4)

set_option maxHeartbeats 400000 in
theorem isClient_any (c : Int) (w : World) :
    Calls Tryz.prog 26 #[.int .i64 c] w fun e w' => e = .returned (.bool (cliB c)) ∧ w' = w := by
  by_cases h0 : 0 ≤ c <;> by_cases h1 : c < 4 <;>
  (go_enter Tryz.func26, Tryz.ntmps26
   go_wp2
   go_ret
   exact ⟨by simp [cliB, h0, h1], rfl⟩)

set_option maxHeartbeats 400000 in
theorem away_any (b o : Nat) (a : Int) (w : World) (h : w.cell? ⟨b, o, none⟩ = some (.int .i64 a)) :
    Calls Tryz.prog 32 #[.pointer (some ⟨b, o, none⟩)] w fun e w' => e = .returned (.bool (a == -1)) ∧ w' = w := by
  go_enter Tryz.func32, Tryz.ntmps32
  go_wp2
  go_ret
  exact ⟨rfl, rfl⟩

set_option maxHeartbeats 400000 in
theorem at_any (b o : Nat) (a : Int) (w : World) (h : w.cell? ⟨b, o, none⟩ = some (.int .i64 a)) :
    Calls Tryz.prog 49 #[.pointer (some ⟨b, o, none⟩)] w fun e w' => e = .returned (.int .i64 a) ∧ w' = w := by
  go_enter Tryz.func49, Tryz.ntmps49
  go_wp2
  go_ret
  exact ⟨rfl, rfl⟩

/-- check's answer, of a net that is open. -/
def chk (g : Bool) : Int := if g then 0 else 1

set_option maxHeartbeats 400000 in
theorem check_any (b : Nat) (g : Bool) (w : World) (h : w.cell? ⟨b, 0, none⟩ = some (.bool false)) :
    Calls Tryz.prog 25 #[.pointer (some ⟨b, 0, none⟩), .bool g] w fun e w' => e = .returned (.int .i64 (chk g)) ∧ w' = w := by
  cases g <;>
  (go_enter Tryz.func25, Tryz.ntmps25
   go_wp2
   go_ret
   exact ⟨rfl, rfl⟩)

set_option maxHeartbeats 400000 in
theorem brokers_any (a : Option Addr) (n c : Nat) (w : World) (h : n ≤ 5) :
    Calls Tryz.prog 69 #[.agg #[.slice a n c]] w fun e w' => e = .returned (.int .i64 (n + 1)) ∧ Below w.heap.size w w' := by
  go_enter Tryz.func69, Tryz.ntmps69
  go_wp2
  go_ret
  exact ⟨rfl, (Below.refl _ _).alloc (Nat.le_refl _) _⟩

def hasB (n : Nat) (x : Int) : Bool := decide (0 ≤ x) && decide (x < n + 1)

set_option maxHeartbeats 400000 in
theorem has_any (a : Option Addr) (n c : Nat) (x : Int) (w : World) (h : n ≤ 5) :
    Calls Tryz.prog 31 #[.agg #[.slice a n c], .int .i64 x] w fun e w' => e = .returned (.bool (hasB n x)) ∧ Below w.heap.size w w' := by
  by_cases h0 : 0 ≤ x
  · by_cases h1 : x < n + 1
    all_goals
    go_enter Tryz.func31, Tryz.ntmps31
    go_wp2
    go_ret
    exact ⟨by simp [hasB, h0, h1], ((Below.refl _ _).alloc (Nat.le_refl _) _).alloc (by simp) _⟩
  · go_enter Tryz.func31, Tryz.ntmps31
    go_wp2
    go_ret
    exact ⟨by simp [hasB, Int.not_le.2 h0], (Below.refl _ _).alloc (Nat.le_refl _) _⟩

set_option maxHeartbeats 400000 in
theorem come_any (b o : Nat) (x p : Int) (w : World) (u v : Value) (h : w.cell? ⟨b, o, none⟩ = some u) (h1 : w.cell? ⟨b, o + 1, none⟩ = some v) (h2 : w.cell? ⟨b, o + 2, none⟩ = some (.int .i64 p)) (f : ∀ o', w.frozen? ⟨b, o', none⟩ = false) :
    Calls Tryz.prog 35 #[.pointer (some ⟨b, o, none⟩), .int .i64 x] w fun e w' => e = .returned (.tuple #[]) ∧ w' = ((w.setCell ⟨b, o, none⟩ (.int .i64 x)).setCell ⟨b, o + 1, none⟩ (.int .i64 x)).setCell ⟨b, o + 2, none⟩ (.int .i64 (wrap64 (p + 1))) := by
  go_enter Tryz.func35, Tryz.ntmps35
  go_wp2
  go_end0
  exact ⟨rfl, rfl⟩

set_option maxHeartbeats 400000 in
theorem home_any (b o : Nat) (a : Int) (w : World) (h : w.cell? ⟨b, o + 1, none⟩ = some (.int .i64 a)) : Calls Tryz.prog 34 #[.pointer (some ⟨b, o, none⟩)] w fun e w' => e = .returned (.int .i64 a) ∧ w' = w := by
  go_enter Tryz.func34, Tryz.ntmps34
  go_wp2
  go_ret
  exact ⟨rfl, rfl⟩

set_option maxHeartbeats 400000 in
theorem stay_any (b o : Nat) (a : Int) (w : World) (h : w.cell? ⟨b, o + 2, none⟩ = some (.int .i64 a)) : Calls Tryz.prog 50 #[.pointer (some ⟨b, o, none⟩)] w fun e w' => e = .returned (.int .i64 a) ∧ w' = w := by
  go_enter Tryz.func50, Tryz.ntmps50
  go_wp2
  go_ret
  exact ⟨rfl, rfl⟩

set_option maxHeartbeats 400000 in
theorem hasSlot_any (b o k : Nat) (g : Bool) (w : World) (hk : k < 2) (h : w.cell? ⟨b, o + 4 + k * 13, none⟩ = some (.bool g)) : Calls Tryz.prog 63 #[.pointer (some ⟨b, o, none⟩), .int .i64 k] w fun e w' => e = .returned (.bool g) ∧ w' = w := by
  have hki : (k : Int) < 2 := by omega
  go_enter Tryz.func63, Tryz.ntmps63
  go_wp2
  go_ret
  exact ⟨rfl, rfl⟩

set_option maxHeartbeats 400000 in
theorem known_any (b o c k : Nat) (w : World) (hc : c < 4) (hk : k < 2) (h : w.cell? ⟨b, o + c * 2 + k, none⟩ = some (.pointer none)) : Calls Tryz.prog 64 #[.pointer (some ⟨b, o, none⟩), .int .i64 c, .int .i64 k] w fun e w' => e = .returned (.pointer none) ∧ w' = w := by
  have hci : (c : Int) < 4 := by omega
  have hki : (k : Int) < 2 := by omega
  go_enter Tryz.func64, Tryz.ntmps64
  go_wp2
  go_ret
  exact ⟨rfl, rfl⟩

set_option maxHeartbeats 400000 in
theorem leave_any (b o : Nat) (w : World) (u : Value) (h : w.cell? ⟨b, o, none⟩ = some u) (f : w.frozen? ⟨b, o, none⟩ = false) :
    Calls Tryz.prog 45 #[.pointer (some ⟨b, o, none⟩)] w fun e w' => e = .returned (.tuple #[]) ∧ w' = w.setCell ⟨b, o, none⟩ (.int .i64 (-1)) := by
  go_enter Tryz.func45, Tryz.ntmps45
  go_wp2
  go_end0
  exact ⟨rfl, rfl⟩

set_option maxHeartbeats 400000 in
theorem number_any (b o : Nat) (w : World) (p : Int) (h : w.cell? ⟨b, o + 3, none⟩ = some (.int .i64 p)) (f : w.frozen? ⟨b, o + 3, none⟩ = false) :
    Calls Tryz.prog 47 #[.pointer (some ⟨b, o, none⟩)] w fun e w' => e = .returned (.int .i64 (wrap64 (p + 1))) ∧ w' = w.setCell ⟨b, o + 3, none⟩ (.int .i64 (wrap64 (p + 1))) := by
  go_enter Tryz.func47, Tryz.ntmps47
  go_wp2
  go_ret
  exact ⟨rfl, rfl⟩

set_option maxHeartbeats 400000 in
theorem num_any (x : Int) (w : World) :
    Calls Tryz.prog 14 #[.int .i64 x] w fun e w' => e = .returned (.int .i64 x) ∧ w' = w := by
  go_enter Tryz.func14, Tryz.ntmps14
  go_wp2
  go_ret
  exact ⟨rfl, rfl⟩

/-- asked's answer, of a net that is open. -/
theorem asked_any (b : Nat) (c : Int) (w : World) (h : w.cell? ⟨b, 55, none⟩ = some (.bool false)) :
    Calls Tryz.prog 38 #[.pointer (some ⟨b, 0, none⟩), .int .i64 c] w fun e w' => e = .returned (.int .i64 (chk (cliB c))) ∧ w' = w := by
  by_cases h0 : c < 0
  · go_enter Tryz.func38, Tryz.ntmps38
    go_wp2
    go_ret
    exact ⟨by simp [chk, cliB, Int.not_le.2 h0], rfl⟩
  · by_cases h1 : 3 < c
    all_goals
    go_enter Tryz.func38, Tryz.ntmps38
    go_wp2
    go_ret
    first
      | exact ⟨by rw [show cliB c = false from by simp [cliB]; omega]; rfl, rfl⟩
      | exact ⟨by rw [show cliB c = true from by simp [cliB]; omega]; rfl, rfl⟩

theorem fact_any (b : Nat) (x y : Value) (w : World) (h : w.cell? ⟨b, 2, none⟩ = some (.slice none 0 0)) :
    Calls Tryz.prog 39 #[.pointer (some ⟨b, 0, none⟩), x, y] w fun e w' => e = .returned (.int .i64 (-1)) ∧ w' = w := by
  go_enter Tryz.func39, Tryz.ntmps39
  go_wp2
  refine wp_loop_rounds 1 ?_; rw [rounds_succ]
  go_wp2
  go_ret
  exact ⟨rfl, rfl⟩

theorem waiting_any (b : Nat) (x y : Value) (w : World) (h : w.cell? ⟨b, 1, none⟩ = some (.slice none 0 0)) :
    Calls Tryz.prog 62 #[.pointer (some ⟨b, 0, none⟩), x, y] w fun e w' => e = .returned (.int .i64 0) ∧ w' = w := by
  go_enter Tryz.func62, Tryz.ntmps62
  go_wp2
  refine wp_loop_rounds 1 ?_; rw [rounds_succ]
  go_wp2
  go_ret
  exact ⟨rfl, rfl⟩

/-- waits: no subscription waits. -/
theorem waits_any (b c : Nat) (hc : c < 4) (a : Int) (w : World) (h2 : w.cell? ⟨b, 2, none⟩ = some (.slice none 0 0))
    (ha : w.cell? ⟨b, 3 + c * 13, none⟩ = some (.int .i64 a)) (hu : w.cell? ⟨b, 3 + c * 13 + 2, none⟩ = some (.bool false)) (hv : w.cell? ⟨b, 3 + c * 13 + 2 + 1, none⟩ = some (.bool false)) :
    Calls Tryz.prog 52 #[.pointer (some ⟨b, 0, none⟩), .int .i64 c] w fun e w' => e = .returned (.bool false) ∧ w' = w := by
  by_cases hd : 0 ≤ a
  all_goals
  go_enter Tryz.func52, Tryz.ntmps52
  go_wp2
  refine wp_loop_rounds 3 ?_; rw [rounds_succ]
  go_wp2_with (go_at_call 39; refine (fact_any _ _ _ _ h2).mono ?_; rintro e w' ⟨rfl, rfl⟩)
  rw [rounds_succ]
  go_wp2_with (go_at_call 39; refine (fact_any _ _ _ _ h2).mono ?_; rintro e w' ⟨rfl, rfl⟩)
  rw [rounds_succ]
  go_wp2
  go_ret
  exact ⟨rfl, rfl⟩

end Go.Proofs.YtodfcpblcpogiaaGreat

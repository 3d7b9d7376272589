/-
  The walks of the program's small functions.
-/
import Derived.Test.YtodfcpblcpogiaaXnet
import Derived.Deep.RegionWith
namespace Go.Proofs.Ytodfcpblcpogiaa
open Go.RowKit

set_option maxHeartbeats 400000 in
theorem isClient_any (c : Int) (w : World) : Calls Try.prog 36 #[int c] w fun e w' => e = .returned (.bool (isCli c)) ∧ w' = w := by
  by_cases h0 : 0 ≤ c <;> by_cases h1 : c < 4 <;>
  (go_enter Try.func36, Try.ntmps36
   go_wp2
   go_ret
   exact ⟨by simp [isCli, h0, h1], rfl⟩)

set_option maxHeartbeats 400000 in
theorem away_any (b o : Nat) (a : Int) (w : World) (h : w.cell? ⟨b, o, none⟩ = some (int a)) : Calls Try.prog 38 #[.pointer (some ⟨b, o, none⟩)] w fun e w' => e = .returned (.bool (a == -1)) ∧ w' = w := by
  go_enter Try.func38, Try.ntmps38
  go_wp2
  go_ret
  exact ⟨rfl, rfl⟩

set_option maxHeartbeats 400000 in
theorem at_any (b o : Nat) (a : Int) (w : World) (h : w.cell? ⟨b, o, none⟩ = some (int a)) : Calls Try.prog 49 #[.pointer (some ⟨b, o, none⟩)] w fun e w' => e = .returned (int a) ∧ w' = w := by
  go_enter Try.func49, Try.ntmps49
  go_wp2
  go_ret
  exact ⟨rfl, rfl⟩

set_option maxHeartbeats 400000 in
theorem stay_any (b o : Nat) (a : Int) (w : World) (h : w.cell? ⟨b, o + 2, none⟩ = some (int a)) : Calls Try.prog 51 #[.pointer (some ⟨b, o, none⟩)] w fun e w' => e = .returned (int a) ∧ w' = w := by
  go_enter Try.func51, Try.ntmps51
  go_wp2
  go_ret
  exact ⟨rfl, rfl⟩

/-- check's answer, of a net that is open. -/
def chk (g : Bool) : Int := if g then 0 else 1

set_option maxHeartbeats 400000 in
theorem check_any (b : Nat) (g : Bool) (w : World) (h : w.cell? ⟨b, 0, none⟩ = some (.bool false)) : Calls Try.prog 35 #[.pointer (some ⟨b, 0, none⟩), .bool g] w fun e w' => e = .returned (int (chk g)) ∧ w' = w := by
  cases g <;>
  (go_enter Try.func35, Try.ntmps35
   go_wp2
   go_ret
   exact ⟨rfl, rfl⟩)

set_option maxHeartbeats 400000 in
theorem brokers_any (a : Option Addr) (n c : Nat) (w : World) (h : n ≤ 5) : Calls Try.prog 68 #[.agg #[.slice a n c]] w fun e w' => e = .returned (int (n + 1)) ∧ Calm w w' := by
  go_enter Try.func68, Try.ntmps68
  go_wp2
  go_ret
  exact ⟨rfl, (Touch.refl _ _).alloc _⟩

def hasB (n : Nat) (x : Int) : Bool := decide (0 ≤ x) && decide (x < n + 1)

set_option maxHeartbeats 400000 in
theorem has_any (a : Option Addr) (n c : Nat) (x : Int) (w : World) (h : n ≤ 5) : Calls Try.prog 37 #[.agg #[.slice a n c], int x] w fun e w' => e = .returned (.bool (hasB n x)) ∧ Calm w w' := by
  by_cases h0 : 0 ≤ x
  · by_cases h1 : x < n + 1
    all_goals
    go_enter Try.func37, Try.ntmps37
    go_wp2
    go_ret
    exact ⟨by simp [hasB, h0, h1], ((Touch.refl _ _).alloc _).alloc _⟩
  · go_enter Try.func37, Try.ntmps37
    go_wp2
    go_ret
    exact ⟨by simp [hasB, Int.not_le.2 h0], (Touch.refl _ _).alloc _⟩

set_option maxHeartbeats 400000 in
theorem come_any (b o : Nat) (x p : Int) (w : World) (u v : Value) (h : w.cell? ⟨b, o, none⟩ = some u) (h1 : w.cell? ⟨b, o + 1, none⟩ = some v) (h2 : w.cell? ⟨b, o + 2, none⟩ = some (int p)) (f : ∀ o', w.frozen? ⟨b, o', none⟩ = false) :
    Calls Try.prog 41 #[.pointer (some ⟨b, o, none⟩), int x] w fun e w' => e = .returned (.tuple #[]) ∧ w' = ((w.setCell ⟨b, o, none⟩ (int x)).setCell ⟨b, o + 1, none⟩ (int x)).setCell ⟨b, o + 2, none⟩ (int (wrap64 (p + 1))) := by
  go_enter Try.func41, Try.ntmps41
  go_wp2
  go_end0
  exact ⟨rfl, rfl⟩

set_option maxHeartbeats 400000 in
theorem takeLog_any (b o : Nat) (w : World) (v : Value) (h : w.cell? ⟨b, o + 30, none⟩ = some v) (f : ∀ o', w.frozen? ⟨b, o', none⟩ = false) :
    Calls Try.prog 53 #[.pointer (some ⟨b, o, none⟩)] w fun e w' => e = .returned v ∧ w' = w.setCell ⟨b, o + 30, none⟩ (.slice none 0 0) := by
  go_enter Try.func53, Try.ntmps53
  go_wp2
  go_ret
  exact ⟨rfl, rfl⟩

set_option maxHeartbeats 400000 in
theorem notesEvent_any (k : Int) (p n f0 f1 f2 st : Int) (w : World) : Calls Try.prog 107 #[int k, .agg #[int p, int n, int f0, int f1, int f2], int st] w fun e w' => e = .returned (.agg #[int k, int 0, int p, int n, int f0, int f1, int f2, int st]) ∧ Calm w w' := by
  go_enter Try.func107, Try.ntmps107
  go_wp2
  exact bodyPost_ret (v := .agg #[int k, int 0, int p, int n, int f0, int f1, int f2, int st]) (by simp [results, Try.results107, go_sem]) rfl ⟨rfl, ((Touch.refl _ _).alloc _).alloc _⟩

set_option maxHeartbeats 400000 in
theorem free_zero (b o : Nat) (w : World) (h : w.cell? ⟨b, o + 4, none⟩ = some (.bool false)) : Calls Try.prog 45 #[.pointer (some ⟨b, o, none⟩)] w fun e w' => e = .returned (.tuple #[int 0, .bool true]) ∧ w' = w := by
  go_enter Try.func45, Try.ntmps45
  go_wp2
  refine wp_loop_rounds 1 ?_; rw [rounds_succ]
  go_wp2
  go_ret2
  exact ⟨rfl, rfl⟩

set_option maxHeartbeats 400000 in
theorem known_any (b o c k : Nat) (w : World) (v : Value) (hc : c < 4) (hk : k < 2) (hv : ∃ p, v = .pointer p) (h : w.cell? ⟨b, o + c * 2 + k, none⟩ = some v) : Calls Try.prog 70 #[.pointer (some ⟨b, o, none⟩), int c, int k] w fun e w' => e = .returned v ∧ w' = w := by
  obtain ⟨p, rfl⟩ := hv
  go_enter Try.func70, Try.ntmps70
  go_wp2
  go_ret
  exact ⟨rfl, rfl⟩

end Go.Proofs.Ytodfcpblcpogiaa

/-
  tests: a filter, out of raw numbers.
-/
import Derived.Test.YtodfcpblcpogiaaUnsX
import Derived.Test.YtodfcpblcpogiaaNewX
namespace Go.Proofs.Ytodfcpblcpogiaa
open Go.RowKit

/-- Which of n things the raw number c speaks of. -/
def pickN (c : Int) (n : Nat) : Nat := ((if c < 0 then -(c + 1) else c) % n).toNat

theorem pickN_lt (c : Int) (n : Nat) (h : 0 < n) : pickN c n < n := by
  unfold pickN
  have h1 : (0 : Int) ≤ (if c < 0 then -(c + 1) else c) % n := Int.emod_nonneg _ (by omega)
  have h2 : (if c < 0 then -(c + 1) else c) % (n : Int) < n := Int.emod_lt_of_pos _ (by omega)
  omega
theorem pickN_neg (c : Int) (n : Nat) (hc : c < 0) (h : 0 < n) : ((pickN c n : Nat) : Int) = -((c + 1).tmod n) := by
  unfold pickN
  rw [if_pos hc, ← Int.neg_tmod]
  have h1 : (0 : Int) ≤ (-(c + 1)) % n := Int.emod_nonneg _ (by omega)
  rw [Int.tmod_eq_emod_of_nonneg (by omega), Int.toNat_of_nonneg h1]
theorem pickN_pos (c : Int) (n : Nat) (hc : 0 ≤ c) (h : 0 < n) : ((pickN c n : Nat) : Int) = c % n := by
  unfold pickN
  rw [if_neg (by omega)]
  have h1 : (0 : Int) ≤ c % n := Int.emod_nonneg _ (by omega)
  rw [Int.toNat_of_nonneg h1]
theorem ret_int {k : IntKind} {a b : Int} (h : a = b) : Ending.returned (.int k a) = .returned (.int k b) := by rw [h]

/-- A number that fits. -/
def Fits (z : Int) : Prop := -9223372036854775808 ≤ z ∧ z ≤ 9223372036854775807

set_option maxHeartbeats 400000 in
theorem pick_any (c : Int) (n : Nat) (w : World) (h : Fits c) (hn : 0 < n) (hn2 : n ≤ 4611686018427387904) :
    Calls Try.prog 12 #[.int .i64 c, .int .i64 n] w fun e w' => e = .returned (.int .i64 (pickN c n : Nat)) ∧ w' = w := by
  obtain ⟨h1, h2⟩ := h
  by_cases hc : c < 0
  · have hp := pickN_neg c n hc hn
    generalize (pickN c n : Int) = v at *
    have HP := hide hp
    clear hp
    go_enter Try.func12, Try.ntmps12
    go_wp2
    go_ret
    exact ⟨ret_int (unhide HP).symm, rfl⟩
  · have hp := pickN_pos c n (by omega) hn
    generalize (pickN c n : Int) = v at *
    have HP := hide hp
    clear hp
    go_enter Try.func12, Try.ntmps12
    go_wp2
    go_ret
    exact ⟨ret_int (unhide HP).symm, rfl⟩

/-- Raw numbers behind a slice's head. -/
def RawAt (w : World) (a : Option Addr) (n : Nat) (f : Nat → Int) : Prop := IntsAt w a n f ∧ ∀ j, j < n → Fits (f j)
theorem RawAt.calm {w w' : World} {a : Option Addr} {n : Nat} {f : Nat → Int} (h : RawAt w a n f) (t : Calm w w') : RawAt w' a n f := ⟨h.1.calm t, h.2⟩
theorem RawAt.cell {w : World} {a : Option Addr} {n : Nat} {f : Nat → Int} (h : RawAt w a n f) {j : Nat} (hj : j < n) : ∃ b o, a = some ⟨b, o, none⟩ ∧ w.cell? ⟨b, o + j, none⟩ = some (int (f j)) ∧ Fits (f j) := by
  rcases h.1 with h0 | ⟨b, o, h1, h2⟩
  · omega
  · exact ⟨b, o, h1, h2 j hj, h.2 j hj⟩

def treeP (f : Nat → Int) (n : Nat) : List Nat := (List.range n).map fun i => pickN (f i) (i + 1)
theorem treeP_len (f : Nat → Int) (n : Nat) : (treeP f n).length = n := by simp [treeP]
theorem treeP_succ (f : Nat → Int) (n : Nat) : treeP f (n + 1) = treeP f n ++ [pickN (f n) (n + 1)] := by simp [treeP, List.range_succ]
theorem treeP_tree (f : Nat → Int) (n : Nat) (h : n ≤ 5) : Tree (treeP f n) := by
  refine ⟨by rw [treeP_len]; exact h, fun i hi => ?_⟩
  rw [treeP_len] at hi
  have : (treeP f n).getD i 0 = pickN (f i) (i + 1) := by simp [treeP, List.getD, hi]
  rw [this]
  have := pickN_lt (f i) (i + 1) (by omega)
  omega

/-- What came out: parents, in a row of the call's own. -/
theorem parRow_of {w : World} {base : Nat} {v : Value} {par : List Nat} (h : w.ownsRow base 3 1 v par.length (par.map fun z => int (z : Nat))) : ParRow w v par := by
  obtain ⟨hl, h⟩ := h
  rcases h with ⟨rfl, h0⟩ | ⟨g, cap, cur, rfl, hb, hg, hn, hm, hs, ht⟩
  · exact Or.inl ⟨List.eq_nil_of_length_eq_zero h0, rfl⟩
  · refine Or.inr ⟨g, 0, cap, rfl, fun j hj => ?_⟩
    rw [Nat.zero_add, cell_of_row w g j cur 3 (0, 0) hg]
    have e1 : cur.toList[j]? = (cur.toList.take (par.length * 1))[j]? := by rw [List.getElem?_take, if_pos (by omega)]
    rw [← Array.getElem?_toList, e1, ht, List.getElem?_map, List.getElem?_eq_getElem hj]
    simp [List.getD, hj]

set_option maxRecDepth 100000 in
set_option maxHeartbeats 400000 in
theorem tree_any (a : Option Addr) (n c : Nat) (f : Nat → Int) (w : World) (hn : n ≤ maxLen) (h : RawAt w a n f) :
    Calls Try.prog 33 #[.slice a n c] w fun e w' => ∃ v, e = .returned v ∧ ParRow w' v (treeP f (min n 5)) ∧ (∃ a' c', v = .slice a' (min n 5) c') ∧ Calm w w' := by
  have H := hide h
  clear h
  unfold maxLen at hn
  obtain ⟨ti, i3, z3, s3, b3⟩ := elem3
  have I3 := hide i3
  have Z3 := hide z3
  have S3 := hide s3
  have B3 := hide b3
  clear i3 z3 s3 b3
  go_enter Try.func33, Try.ntmps33
  go_wp2
  go_loopw [3, 4] (fun p i wr => ∃ k : Nat, k ≤ min n 5 ∧ i = int k ∧ wr.ownsRow w.heap.size 3 1 p k ((treeP f k).map fun z => int (z : Nat)) ∧ Calm w wr) (fun _ i _ => 5 - (intOf i).toNat)
  case atStart => exact ⟨0, by omega, rfl, World.ownsRow_nil _ _ _ _, Touch.refl _ _⟩
  case round =>
    obtain ⟨k, hk, rfl, hrow, ht⟩ := hrel
    have hk5 : k ≤ 5 := by omega
    have hkn : k ≤ n := by omega
    have HROW := hide hrow
    have HT := hide ht
    clear hrow ht hk
    by_cases hlt : k < n
    · by_cases h5 : k < 5
      · obtain ⟨b, o, rfl, hc, hf⟩ := ((unhide H).calm (unhide HT)).cell hlt
        have hpk := fun w => pick_any (f k) (k + 1) w hf (by omega) (by omega)
        have hk1 : ((k + 1 : Nat) : Int) = (k : Int) + 1 := by omega
        rw [hk1] at hpk
        have HPK := hide hpk
        have HSZ := hide (unhide HT).size
        have hpl := pickN_lt (f k) (k + 1) (by omega)
        obtain ⟨z, hz⟩ : ∃ z, z = pickN (f k) (k + 1) := ⟨_, rfl⟩
        rw [← hz] at HPK hpl
        have HZ := hide hz
        clear hpk hk1 hf hz
        go_wp2_with (first
          | (go_at_call 12; refine (unhide HPK _).mono ?_; rintro e w1 ⟨rfl, hw1⟩; have hw1 := hw1.symm; subst hw1)
          | (at_builtin; refine wpList_append_mine _ rfl _ _ 22 rfl w.heap.size 3 ti (int 0) 1 8 Try.underlying22 (unhide I3) (unhide Z3) (unhide S3) (unhide B3) rfl (by decide) _ k _ rfl (ownsRow_keep (unhide HROW) ((Touch.refl (fun _ => False) _).alloc _) (fun _ _ f => f)) ⟨wr.heap.size, 0, none⟩ 1 1 [int z] rfl rfl ?news ?one (by decide) ?h63 ?bytes ?base ?_))
        case news => exact fun j u hj => new_cells wr [int z] 3 j u hj
        case one => intro u hu; simp at hu; subst hu; rfl
        case h63 => unfold maxLen; omega
        case bytes => omega
        case base => have := unhide HSZ; simp; omega
        intro g cap w2 hg
        obtain ⟨hg1, hg2, hg3⟩ := hg
        have hrow2 : w2.ownsRow w.heap.size 3 1 (.slice (some ⟨g, 0, none⟩) (k + 1) cap) (k + 1) ((treeP f (k + 1)).map fun z => int (z : Nat)) := by
          rw [treeP_succ, List.map_append, ← unhide HZ]; exact hg1
        have ht2 : Calm w w2 := by
          have h0 : Calm wr (wr.alloc (.cells #[int z] 3)) := (Touch.refl _ _).alloc _
          rcases hg2 with ⟨h1, h2⟩ | ⟨h1, h2⟩
          · refine (((unhide HT).calm h0)).fresh h2 (fun q hq e => ?_)
            subst e
            rcases (unhide HROW).2 with ⟨e1, _⟩ | ⟨g', c', cur, e1, hb, _⟩
            · rw [e1] at h1; simp [Value.ownBlock] at h1
            · rw [e1] at h1; simp [Value.ownBlock] at h1; omega
          · exact ((unhide HT).calm h0).calm h2
        have HR2 := hide hrow2
        have HT2 := hide ht2
        clear hg1 hg2 hg3 hrow2 ht2 HROW HT hc
        go_wp2
        go_roundw
        case rel => exact ⟨k + 1, by omega, by go_num, unhide HR2, unhide HT2⟩
        case measure => simp [intOf]; omega
      · have : min n 5 = k := by omega
        go_wp2
        go_ret
        rw [this]
        refine ⟨_, rfl, parRow_of (by rw [treeP_len]; exact unhide HROW), ?_, unhide HT⟩
        rcases (unhide HROW).2 with ⟨e1, e0⟩ | ⟨g', c', cur, e1, _⟩
        · exact ⟨none, 0, e1.trans (by rw [e0])⟩
        · exact ⟨_, _, e1⟩
    · have : min n 5 = k := by omega
      go_wp2
      go_ret
      rw [this]
      refine ⟨_, rfl, parRow_of (by rw [treeP_len]; exact unhide HROW), ?_, unhide HT⟩
      rcases (unhide HROW).2 with ⟨e1, e0⟩ | ⟨g', c', cur, e1, _⟩
      · exact ⟨none, 0, e1.trans (by rw [e0])⟩
      · exact ⟨_, _, e1⟩

end Go.Proofs.Ytodfcpblcpogiaa

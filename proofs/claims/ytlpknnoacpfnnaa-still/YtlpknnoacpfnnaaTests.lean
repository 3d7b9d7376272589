/-
  tests: a filter, out of raw numbers.
-/
import Derived.Test.YtlpknnoacpfnnaaPick
namespace Go.Proofs.Ytlpknnoacpfnnaa
open Go.RowKit

def testOf (z : Nat) : Tst := ⟨(z : Int) % 3, 1 + (z : Int) / 3 % 4, (z : Int) / 12 % 4 - 1⟩
def testsP (f : Nat → Int) (n : Nat) : List Tst := (List.range n).map fun i => testOf (pickN (f i) 1099511627776)
theorem testsP_len (f : Nat → Int) (n : Nat) : (testsP f n).length = n := by simp [testsP]
theorem testsP_succ (f : Nat → Int) (n : Nat) : testsP f (n + 1) = testsP f n ++ [testOf (pickN (f n) 1099511627776)] := by simp [testsP, List.range_succ]
theorem testsP_good (f : Nat → Int) (n : Nat) (h : n ≤ 3) : goodFilter (testsP f n) = true := by
  simp only [goodFilter, Bool.and_eq_true, decide_eq_true_eq, testsP_len, List.all_eq_true]
  refine ⟨h, fun t ht => ?_⟩
  simp only [testsP, List.mem_map] at ht
  obtain ⟨i, _, rfl⟩ := ht
  refine decide_eq_true ?_
  simp only [testOf]
  omega

/-- Tests in a row that is not older than base. -/
def TestsIn (w : World) (base : Nat) (a : Option Addr) (l : List Tst) : Prop := l = [] ∨ ∃ b o, a = some ⟨b, o, none⟩ ∧ base ≤ b ∧ ∀ (j : Nat) v, (l.flatMap Tst.enc)[j]? = some v → w.cell? ⟨b, o + j, none⟩ = some v
theorem TestsIn.at {w : World} {base : Nat} {a : Option Addr} {l : List Tst} (h : TestsIn w base a l) : TestsAt w a l := h.imp id (fun ⟨b, o, h1, _, h2⟩ => ⟨b, o, h1, h2⟩)
theorem TestsIn.calm {w w' : World} {base : Nat} {a : Option Addr} {l : List Tst} (h : TestsIn w base a l) (t : Calm w w') : TestsIn w' base a l := by
  rcases h with h | ⟨b, o, rfl, hb, h⟩
  · exact Or.inl h
  · exact Or.inr ⟨b, o, rfl, hb, fun j v hj => t.cell (p := ⟨b, o + j, none⟩) (fun f => f) (h j v hj)⟩

theorem testsIn_of {w : World} {base : Nat} {v : Value} {l : List Tst} (h : w.ownsRow base 74 3 v l.length (l.flatMap Tst.enc)) : ∃ a c, v = .slice a l.length c ∧ TestsIn w base a l := by
  obtain ⟨hl, h⟩ := h
  rcases h with ⟨rfl, h0⟩ | ⟨g, cap, cur, rfl, hb, hg, hn, hm, hs, ht⟩
  · exact ⟨none, 0, by rw [h0], Or.inl (List.eq_nil_of_length_eq_zero h0)⟩
  · refine ⟨_, _, rfl, Or.inr ⟨g, 0, rfl, hb, fun j v hj => ?_⟩⟩
    have hj' : j < l.length * 3 := by rw [← hl]; exact (List.getElem?_eq_some_iff.1 hj).1
    rw [Nat.zero_add, cell_of_row w g j cur 74 (0, 0) hg]
    have e1 : cur.toList[j]? = (cur.toList.take (l.length * 3))[j]? := by rw [List.getElem?_take, if_pos (by omega)]
    rw [← Array.getElem?_toList, e1, ht, hj]

set_option maxRecDepth 100000 in
set_option maxHeartbeats 400000 in
theorem tests_any (a : Option Addr) (n c : Nat) (f : Nat → Int) (w : World) (hn : n ≤ maxLen) (h : RawAt w a n f) :
    Calls Try.prog 10 #[.slice a n c] w fun e w' => ∃ a' c', e = .returned (.slice a' (min n 3) c') ∧ TestsIn w' w.heap.size a' (testsP f (min n 3)) ∧ Calm w w' := by
  have H := hide h
  clear h
  unfold maxLen at hn
  obtain ⟨ti, i3, z3, s3, b3⟩ := elem74
  have I3 := hide i3
  have Z3 := hide z3
  have S3 := hide s3
  have B3 := hide b3
  clear i3 z3 s3 b3
  have fin : ∀ (k : Nat) (wr : World) (u : Value), wr.ownsRow w.heap.size 74 3 u k ((testsP f k).flatMap Tst.enc) → Calm w wr → ∃ a' c', Ending.returned u = .returned (.slice a' k c') ∧ TestsIn wr w.heap.size a' (testsP f k) ∧ Calm w wr := by
    intro k wr u hr ht
    obtain ⟨a', c', h1, h2⟩ := testsIn_of (l := testsP f k) (by rw [testsP_len]; exact hr)
    rw [testsP_len] at h1
    exact ⟨a', c', by rw [h1], h2, ht⟩
  have FIN := hide fin
  clear fin
  go_enter Try.func10, Try.ntmps10
  go_wp2
  go_loopw [3, 4] (fun p i wr => ∃ k : Nat, k ≤ min n 3 ∧ i = int k ∧ wr.ownsRow w.heap.size 74 3 p k ((testsP f k).flatMap Tst.enc) ∧ Calm w wr) (fun _ i _ => 3 - (intOf i).toNat)
  case atStart => exact ⟨0, by omega, rfl, World.ownsRow_nil _ _ _ _, Touch.refl _ _⟩
  case round =>
    obtain ⟨k, hk, rfl, hrow, ht⟩ := hrel
    have hk5 : k ≤ 3 := by omega
    have hkn : k ≤ n := by omega
    have HROW := hide hrow
    have HT := hide ht
    clear hrow ht hk
    by_cases hlt : k < n
    · by_cases h5 : k < 3
      · obtain ⟨b, o, rfl, hc, hf⟩ := ((unhide H).calm (unhide HT)).cell hlt
        have hpk : ∀ w, _ := fun w => pick_any (f k) 1099511627776 w hf (by omega) (by omega)
        have HPK := hide hpk
        have HSZ := hide (unhide HT).size
        have hpl := pickN_lt (f k) 1099511627776 (by omega)
        obtain ⟨z, hz⟩ : ∃ z, z = pickN (f k) 1099511627776 := ⟨_, rfl⟩
        rw [← hz] at HPK hpl
        have HZ := hide hz
        clear hpk hf hz
        go_wp2_with (first
          | (go_at_call 9; refine (unhide HPK _).mono ?_; rintro e w1 ⟨rfl, hw1⟩; have hw1 := hw1.symm; subst hw1)
          | (at_builtin; refine wpList_append_mine _ rfl _ _ 31 rfl w.heap.size 74 ti (.agg #[int 0, int 0, int 0]) 3 24 Try.underlying31 (unhide I3) (unhide Z3) (unhide S3) (unhide B3) rfl (by decide) _ k _ rfl (ownsRow_keep (unhide HROW) ((Touch.refl (fun _ => False) _).alloc _) (fun _ _ f => f)) ⟨wr.heap.size, 0, none⟩ 1 1 (testOf z).enc rfl rfl ?news ?one (by decide) ?h63 ?bytes ?base ?_))
        case news => exact fun j u hj => new_cells wr (testOf z).enc 74 j u hj
        case one => intro u hu; simp [Tst.enc] at hu; rcases hu with rfl | rfl | rfl <;> rfl
        case h63 => unfold maxLen; omega
        case bytes => omega
        case base => have := unhide HSZ; simp; omega
        intro g cap w2 hg
        obtain ⟨hg1, hg2, hg3⟩ := hg
        have hrow2 : w2.ownsRow w.heap.size 74 3 (.slice (some ⟨g, 0, none⟩) (k + 1) cap) (k + 1) ((testsP f (k + 1)).flatMap Tst.enc) := by
          rw [testsP_succ, List.flatMap_append, ← unhide HZ, List.flatMap_singleton]; exact hg1
        have ht2 : Calm w w2 := by
          have h0 : Calm wr (wr.alloc (.cells (testOf z).enc.toArray 74)) := (Touch.refl _ _).alloc _
          rcases hg2 with ⟨h1, h2⟩ | ⟨h1, h2⟩
          · refine (((unhide HT).calm h0)).fresh h2 (fun q hq e => ?_)
            subst e
            rcases (unhide HROW).2 with ⟨e1, _⟩ | ⟨g', c', cur, e1, hb, _⟩
            · rw [e1] at h1; simp [Value.ownBlock] at h1
            · rw [e1] at h1; simp [Value.ownBlock] at h1; omega
          · exact ((unhide HT).calm h0).calm h2
        have HR2 := hide hrow2
        have HT2 := hide ht2
        clear hg1 hg2 hg3 hrow2 ht2 HROW HT hc
        go_wp2
        go_roundw
        case rel => exact ⟨k + 1, by omega, by go_num, unhide HR2, unhide HT2⟩
        case measure => simp [intOf]; omega
      · have : min n 3 = k := by omega
        go_wp2
        go_ret
        rw [this]
        exact unhide FIN k _ _ (unhide HROW) (unhide HT)
    · have : min n 3 = k := by omega
      go_wp2
      go_ret
      rw [this]
      exact unhide FIN k _ _ (unhide HROW) (unhide HT)

end Go.Proofs.Ytlpknnoacpfnnaa

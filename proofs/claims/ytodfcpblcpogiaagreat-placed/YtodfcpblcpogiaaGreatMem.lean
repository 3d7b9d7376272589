/-
  What the two nets look like in memory, and what a call leaves alone.
-/
import Derived.Test.YtodfcpblcpogiaaGreatLeaf
import Derived.Deep.MidRow
import Derived.Laws.EntriesVeiled
namespace Go.Proofs.YtodfcpblcpogiaaGreat
open Go.RowKit

/-- Of the blocks of w none but those of S is touched; new ones may have come. -/
structure Touch (S : Nat → Prop) (w w' : World) : Prop where
  os : w'.os = w.os
  tape : w'.tape = w.tape
  output : w'.output = w.output
  size : w.heap.size ≤ w'.heap.size
  block : ∀ k, k < w.heap.size → ¬ S k → w'.heap[k]? = w.heap[k]?

abbrev Calm (w w' : World) : Prop := Touch (fun _ => False) w w'

theorem Touch.refl (S : Nat → Prop) (w : World) : Touch S w w := ⟨rfl, rfl, rfl, Nat.le_refl _, fun _ _ _ => rfl⟩
theorem Touch.trans {S : Nat → Prop} {a b c : World} (h : Touch S a b) (k : Touch S b c) : Touch S a c :=
  ⟨k.os.trans h.os, k.tape.trans h.tape, k.output.trans h.output, Nat.le_trans h.size k.size, fun i hi hs => (k.block i (Nat.lt_of_lt_of_le hi h.size) hs).trans (h.block i hi hs)⟩
theorem Touch.mono {S T : Nat → Prop} {a b : World} (h : Touch S a b) (hst : ∀ k, k < a.heap.size → S k → T k) : Touch T a b :=
  ⟨h.os, h.tape, h.output, h.size, fun i hi hs => h.block i hi (fun x => hs (hst i hi x))⟩
theorem Touch.alloc {S : Nat → Prop} {a w : World} (h : Touch S a w) (o : Obj) : Touch S a (w.alloc o) :=
  h.trans ⟨rfl, rfl, rfl, by simp, fun k hk _ => Below.heap_alloc _ _ _ hk⟩
theorem Touch.drew {S : Nat → Prop} {a w : World} (h : Touch S a w) : Touch S a w.drew := ⟨h.os, h.tape, h.output, h.size, h.block⟩
/-- A store into a block of S, or into a new one. -/
theorem Touch.setCell {S : Nat → Prop} {a w : World} (h : Touch S a w) {p : Addr} (hp : p.block < a.heap.size → S p.block) (u : Value) : Touch S a (w.setCell p u) :=
  ⟨h.os, h.tape, h.output, by simpa [World.setCell] using h.size, fun k hk hs => (Below.heap_setCell _ _ _ _ (fun e => by subst e; exact hs (hp hk))).trans (h.block k hk hs)⟩
theorem Touch.of_below {w w' : World} (h : Below w.heap.size w w') : Calm w w' := ⟨h.os, h.tape, h.output, h.size, fun k hk _ => h.block k hk⟩
theorem Touch.calm {S : Nat → Prop} {a b c : World} (h : Touch S a b) (k : Calm b c) : Touch S a c := h.trans (k.mono (fun _ _ f => f.elim))
theorem Touch.cell {S : Nat → Prop} {w w' : World} (h : Touch S w w') {p : Addr} {v : Value} (hs : ¬ S p.block) (hc : w.cell? p = some v) : w'.cell? p = some v :=
  (World.cell?_of_block (w := w) (h.block p.block (block_lt_of_cell hc) hs)).trans hc
theorem Touch.below {S : Nat → Prop} {w w' : World} {B : Nat} (h : Touch S w w') (hB : B ≤ w.heap.size) (hs : ∀ k, S k → B ≤ k) : Below B w w' :=
  ⟨h.os, h.tape, h.output, h.size, fun k hk => h.block k (by omega) (fun x => by have := hs k x; omega)⟩

theorem Touch.frozen {S : Nat → Prop} {w w' : World} (h : Touch S w w') {p : Addr} {v : Value} (hs : ¬ S p.block) (hc : w.cell? p = some v) : w'.frozen? p = w.frozen? p :=
  World.frozen?_of_block (w := w) (h.block p.block (block_lt_of_cell hc) hs)
/-- A block that was new ahead of a call is still there behind it. -/
theorem Touch.box {S : Nat → Prop} {w w' : World} {o : Obj} (h : Touch S (w.alloc o) w') (hs : ¬ S w.heap.size) : w'.heap[w.heap.size]? = some o :=
  (h.block w.heap.size (by simp) hs).trans (heap_alloc_new w o)
theorem box_cell {w : World} {b : Nat} {cs : Array Value} {t : TypeId} (h : w.heap[b]? = some (.cells cs t)) (j : Nat) : w.cell? ⟨b, j, none⟩ = cs[j]? := by simp [World.cell?, h]
theorem box_frozen {w : World} {b : Nat} {cs : Array Value} {t : TypeId} (h : w.heap[b]? = some (.cells cs t)) (j : Nat) : w.frozen? ⟨b, j, none⟩ = false := by simp [World.frozen?, h]

/-- A link: none, or an open channel in which nothing waits. -/
def Idle (w : World) (v : Value) : Prop := v = .chan none ∨ ∃ r cap, v = .chan (some r) ∧ w.heap[r]? = some (.chan cap #[] false 0 0 false)

theorem Idle.keep {S : Nat → Prop} {w w' : World} {v : Value} (h : Idle w v) (t : Touch S w w') (hs : ∀ k cap, w.heap[k]? = some (.chan cap #[] false 0 0 false) → ¬ S k) : Idle w' v := by
  rcases h with h | ⟨r, cap, h, hr⟩
  · exact Or.inl h
  · have hlt : r < w.heap.size := by
      by_cases hlt : r < w.heap.size
      · exact hlt
      · have hn : w.heap[r]? = none := by simp; omega
        rw [hn] at hr; cases hr
    exact Or.inr ⟨r, cap, h, (t.block r hlt (hs r cap hr)).trans hr⟩

theorem Tryz.cells89 : Tryz.prog.cellsOf 89 = 1 := by kernel_rfl
theorem Tryz.cells90 : Tryz.prog.cellsOf 90 = 6 := by kernel_rfl
theorem info90 : (Tryz.prog.info? 90).map (·.size) = some 6 := by kernel_rfl
theorem info89 : (Tryz.prog.info? 89).map (·.size) = some 1 := by kernel_rfl

theorem size_of {t : TypeId} {n : Nat} (h : (Tryz.prog.info? t).map (·.size) = some n) (w : World) : (sizeOf t).run Tryz.prog w = .ok n w := by
  cases hq : Tryz.prog.info? t with
  | none => simp [hq] at h
  | some i => simp [hq] at h; simp [sizeOf, typeInfo, hq, h]

theorem idx91 (qs : Array Value) (k : Nat) (hk : k < 6) (w : World) :
    (Instr.index 91 (.agg qs) (.int .i64 k)).run Tryz.prog w = .ok (.agg (qs.extract (k * 6) (k * 6 + 6))) w := by
  have h1 : (0 : Int) ≤ k ∧ (k : Int) < (6 : Nat) := by omega
  simp [Instr.index, asIntOf, Sem.run_bind, run_underlying Tryz.underlying91, part, isAgg, run_underlying Tryz.underlying90, size_of info90, hk]

theorem idx90 (r : Array Value) (k : Nat) (hk : k < 6) (v : Value) (hv : r[k]? = some v) (w : World) :
    (Instr.index 90 (.agg r) (.int .i64 k)).run Tryz.prog w = .ok v w := by
  simp [Instr.index, asIntOf, Sem.run_bind, run_underlying Tryz.underlying90, part, isAgg, run_underlying Tryz.underlying89, size_of info89, hk, hv]

theorem run_getObj_chan {w : World} {r cap : Nat} (hr : w.heap[r]? = some (.chan cap #[] false 0 0 false)) : (getObj r).run Tryz.prog w = .ok (.chan cap #[] false 0 0 false) w := by
  simp [getObj, Sem.run, hr]

theorem len_idle {w : World} {v : Value} (h : Idle w v) : (Builtin.len_ #[89] 3 #[v]).run Tryz.prog w = .ok (goInt 0) w := by
  rcases h with rfl | ⟨r, cap, rfl, hr⟩
  · simp [Builtin.len_, run_underlying Tryz.underlying89]
  · simp [Builtin.len_, run_underlying Tryz.underlying89, run_getObj_chan hr]

theorem Idle.chan {w : World} {v : Value} (h : Idle w v) : ∃ r, v = .chan r := by
  rcases h with h | ⟨r, _, h, _⟩
  · exact ⟨_, h⟩
  · exact ⟨_, h⟩

/-- A row of six links. -/
theorem six_of (w : World) (qs : List Value) (hl : qs.length = 36) (hi : ∀ v, v ∈ qs → Idle w v) (k : Nat) (hk : k < 6) : ∃ r0 r1 r2 r3 r4 r5, qs.toArray.extract (k * 6) (k * 6 + 6) = #[.chan r0, .chan r1, .chan r2, .chan r3, .chan r4, .chan r5] ∧
    ∀ v, v ∈ [Value.chan r0, .chan r1, .chan r2, .chan r3, .chan r4, .chan r5] → Idle w v := by
  have hm : ∀ v, v ∈ (qs.drop (k * 6)).take 6 → Idle w v := fun v hv => hi v (List.mem_of_mem_drop (List.mem_of_mem_take hv))
  have hlen : ((qs.drop (k * 6)).take 6).length = 6 := by simp; omega
  have he : qs.toArray.extract (k * 6) (k * 6 + 6) = ((qs.drop (k * 6)).take 6).toArray := by
    apply Array.ext'
    simp [List.extract_eq_take_drop]
  generalize (qs.drop (k * 6)).take 6 = l at *
  match l, hlen with
  | [v0, v1, v2, v3, v4, v5], _ =>
    obtain ⟨r0, rfl⟩ := (hm v0 (by simp)).chan
    obtain ⟨r1, rfl⟩ := (hm v1 (by simp)).chan
    obtain ⟨r2, rfl⟩ := (hm v2 (by simp)).chan
    obtain ⟨r3, rfl⟩ := (hm v3 (by simp)).chan
    obtain ⟨r4, rfl⟩ := (hm v4 (by simp)).chan
    obtain ⟨r5, rfl⟩ := (hm v5 (by simp)).chan
    exact ⟨r0, r1, r2, r3, r4, r5, he, hm⟩

set_option maxRecDepth 100000 in
set_option maxHeartbeats 400000 in
theorem linksPending_any (b : Nat) (qs : List Value) (w : World) (hq : w.rangeAt b 2 qs) (hl : qs.length = 36) (hi : ∀ v, v ∈ qs → Idle w v) :
    Calls Tryz.prog 61 #[.pointer (some ⟨b, 2, none⟩)] w fun e w' => e = .returned (.slice none 0 0) ∧ Calm w w' := by
  go_enter Tryz.func61, Tryz.ntmps61
  go_wp2_with (refine wpList_load_mid rfl 91 _ rfl b 2 rfl qs _ hq Tryz.underlying91 rfl (by rw [hl]; kernel_rfl) ?_)
  go_loopw [3, 13] (fun p i wr => ∃ k : Nat, k ≤ 6 ∧ i = .int .i64 k ∧ p = .slice none 0 0 ∧ Calm w wr) (fun _ i _ => 6 - (intOf i).toNat)
  case atStart => exact ⟨0, by omega, rfl, rfl, Touch.refl _ _⟩
  case round =>
    obtain ⟨k, hk, rfl, rfl, ht⟩ := hrel
    by_cases hlt : k < 6
    · obtain ⟨r0, r1, r2, r3, r4, r5, he, hm⟩ := six_of w qs hl hi k hlt
      have hx := fun w => idx91 qs.toArray k hlt w
      rw [he] at hx
      clear he
      go_wp2
      have ht2 := ht.alloc (.cells #[.chan r0, .chan r1, .chan r2, .chan r3, .chan r4, .chan r5] 90)
      have HT : Hid (Calm w (wr.alloc (.cells #[.chan r0, .chan r1, .chan r2, .chan r3, .chan r4, .chan r5] 90))) := ht2
      have hlens : ∀ v, v ∈ [Value.chan r0, .chan r1, .chan r2, .chan r3, .chan r4, .chan r5] → (Builtin.len_ #[89] 3 #[v]).run Tryz.prog (wr.alloc (.cells #[.chan r0, .chan r1, .chan r2, .chan r3, .chan r4, .chan r5] 90)) = .ok (goInt 0) (wr.alloc (.cells #[.chan r0, .chan r1, .chan r2, .chan r3, .chan r4, .chan r5] 90)) :=
        fun v hv => len_idle ((hm v hv).keep ht2 (fun _ _ _ f => f))
      have HL := hide hlens
      clear ht2 hlens hx hm hi hq
      go_loop [3, 18] (fun p j => ∃ q : Nat, q ≤ 6 ∧ j = .int .i64 q ∧ p = .slice none 0 0) (fun _ j => 6 - (intOf j).toNat)
      case atStart => exact ⟨0, by omega, rfl, rfl⟩
      case round =>
        obtain ⟨q, hq6, rfl, rfl⟩ := hrel
        by_cases hqt : q < 6
        · obtain ⟨v, hv, hvm⟩ : ∃ v, (#[Value.chan r0, .chan r1, .chan r2, .chan r3, .chan r4, .chan r5] : Array Value)[q]? = some v ∧ v ∈ [Value.chan r0, .chan r1, .chan r2, .chan r3, .chan r4, .chan r5] := by
            rcases q with _ | _ | _ | _ | _ | _ | q
            all_goals first | exact ⟨_, rfl, by simp⟩ | omega
          have hy := fun w => idx90 _ q hqt v hv w
          have hz := unhide HL v hvm
          clear hv hvm
          go_wp2
          go_round
          case rel => exact ⟨q + 1, by omega, by go_num, rfl⟩
          case measure => simp [intOf]; omega
        · go_wp2
          go_roundw
          case rel => exact ⟨k + 1, by omega, by go_num, rfl, HT.out⟩
          case measure => simp [intOf]; omega
    · go_wp2
      go_ret
      exact ⟨rfl, ht⟩

end Go.Proofs.YtodfcpblcpogiaaGreat

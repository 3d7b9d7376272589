/-
  A new tree.
-/
import Derived.Test.YtlpknnoacpfnnaaNear
namespace Go.Proofs.Ytlpknnoacpfnnaa
open Go.RowKit

/-- Parents behind a slice's head: nil, or a row. -/
def ParRow (w : World) (v : Value) (par : List Nat) : Prop := (par = [] ∧ v = .slice none 0 0) ∨ ∃ b o cap, v = .slice (some ⟨b, o, none⟩) par.length cap ∧ ∀ j, j < par.length → w.cell? ⟨b, o + j, none⟩ = some (int (par.getD j 0 : Nat))

theorem ParRow.calm {w w' : World} {v : Value} {par : List Nat} (h : ParRow w v par) (t : Calm w w') : ParRow w' v par := by
  rcases h with h | ⟨b, o, cap, rfl, h⟩
  · exact Or.inl h
  · exact Or.inr ⟨b, o, cap, rfl, fun j hj => t.cell (p := ⟨b, o + j, none⟩) (fun f => f) (h j hj)⟩

/-- Parents in a new row, or none. -/
def ParNew (w : World) (base : Nat) (a : Option Addr) (par : List Nat) : Prop := par = [] ∨ ∃ tb o, a = some ⟨tb, o, none⟩ ∧ base ≤ tb ∧ tb < w.heap.size ∧ (∃ cs t f, w.heap[tb]? = some (.cells cs t f)) ∧ ∀ j, j < par.length → w.cell? ⟨tb, o + j, none⟩ = some (int (par.getD j 0 : Nat))
theorem ParNew.par {w : World} {base : Nat} {a : Option Addr} {par : List Nat} (h : ParNew w base a par) : ParAt w a par := h.imp id (fun ⟨tb, o, e1, _, _, _, e3⟩ => ⟨tb, o, e1, e3⟩)
theorem ParNew.keep {S : Nat → Prop} {w w' : World} {base : Nat} {a : Option Addr} {par : List Nat} (h : ParNew w base a par) (t : Touch S w w') (hs : ∀ tb o, a = some ⟨tb, o, none⟩ → ¬ S tb) : ParNew w' base a par := by
  rcases h with h | ⟨tb, o, rfl, h0, h1, h2, h⟩
  · exact Or.inl h
  · have hb := t.block tb h1 (hs tb o rfl)
    exact Or.inr ⟨tb, o, rfl, h0, Nat.lt_of_lt_of_le h1 t.size, by rw [hb]; exact h2, fun j hj => t.cell (p := ⟨tb, o + j, none⟩) (hs tb o rfl) (h j hj)⟩
theorem ParNew.calm {w w' : World} {base : Nat} {a : Option Addr} {par : List Nat} (h : ParNew w base a par) (t : Calm w w') : ParNew w' base a par := h.keep t (fun _ _ _ f => f)

theorem run_buildSlice22 (w : World) : (Instr.buildSlice 22 0 #[]).run Try.prog w = .ok (.slice (some ⟨w.heap.size, 0, none⟩) 0 0) (w.alloc (.cells #[] 3)) := by kernel_rfl
theorem run_nil_nil22 (w : World) : (binOp .eql 22 (.slice none 0 0) (.slice none 0 0)).run Try.prog w = .ok (.bool true) w := by kernel_rfl

set_option maxRecDepth 100000 in
set_option maxHeartbeats 400000 in
theorem clone_any {v : Value} {par : List Nat} (w : World) (hn : par.length ≤ 5) (h : ParRow w v par) :
    Calls Try.prog 74 #[v] w fun e w' => ∃ a' c', e = .returned (.slice a' par.length c') ∧ ParNew w' w.heap.size a' par ∧ Calm w w' := by
  rcases h with ⟨rfl, rfl⟩ | ⟨b, o, cap, rfl, h⟩
  · have hnil := run_nil_nil22
    go_enter Try.func74, Try.ntmps74
    go_wp2
    go_ret
    exact ⟨none, 0, rfl, Or.inl rfl, Touch.refl _ _⟩
  · have hnil : ∀ w, (binOp .eql 22 (.slice (some ⟨b, o, none⟩) par.length cap) (.slice none 0 0)).run Try.prog w = .ok (.bool false) w := fun w => Lib.run_eql_slice_nil w 22 3 _ _ _ _ _ Try.underlying22
    have H := hide h
    clear h
    have hbs := run_buildSlice22
    go_enter Try.func74, Try.ntmps74
    obtain ⟨i, hi, hz, hs, hb⟩ := elem3
    have HI := hide hi
    have HZ := hide hz
    have HS := hide hs
    have HB := hide hb
    clear hi hz hs hb
    go_wp2_with (at_builtin; refine wpList_append_own _ rfl _ _ 22 rfl w.heap.size 3 i (.int .i64 0) 1 8 Try.underlying22 (unhide HI) (unhide HZ) (unhide HS) (unhide HB) rfl (by decide) _ 0 [] rfl ?own ⟨b, o, none⟩ par.length cap ((List.range par.length).map fun j => int (par.getD j 0 : Nat)) rfl ?len ?news ?one ?h63 ?bytes ?base ?_)
    case own => exact World.ownsRow_made w #[] 0 (Nat.le_refl _) (by unfold maxLen; omega) rfl
    case len => simp
    case news =>
      intro j u hj
      have hj' : j < par.length := by
        by_cases h' : j < par.length
        · exact h'
        · rw [List.getElem?_eq_none (by simp; omega)] at hj; cases hj
      have : u = int (par.getD j 0 : Nat) := by
        rw [List.getElem?_map, List.getElem?_range hj'] at hj
        simp only [Option.map_some, Option.some.injEq] at hj
        exact hj.symm
      subst this
      rw [Addr.add_mid]
      exact ((Touch.refl (fun _ => False) w).alloc (.cells #[] 3)).cell (p := ⟨b, o + j, none⟩) (fun f => f) (unhide H j hj')
    case one =>
      intro u hu
      simp at hu
      obtain ⟨j, _, rfl⟩ := hu
      rfl
    case h63 => unfold maxLen; omega
    case bytes => omega
    case base => simp
    · intro v' w1 hown hgrow _
      obtain ⟨hlen, hrow⟩ := hown
      have ht : Calm w w1 := ⟨hgrow.os, hgrow.tape, hgrow.output, by have := hgrow.size; simp at this; omega, fun k hk _ => (hgrow.block k (by simp; omega) (by simp [Value.ownBlock]; omega)).trans (Below.heap_alloc _ _ _ hk)⟩
      have hv : ∃ a' c', v' = .slice a' par.length c' ∧ ParNew w1 w.heap.size a' par := by
        rcases hrow with ⟨rfl, h0⟩ | ⟨g, c', cur, rfl, hgb, hg, _, _, _, htake⟩
        · exact ⟨none, 0, by rw [show par.length = 0 from by omega], Or.inl (List.eq_nil_of_length_eq_zero (by omega))⟩
        · refine ⟨some ⟨g, 0, none⟩, c', rfl, Or.inr ⟨g, 0, rfl, hgb, (Array.getElem?_eq_some_iff.1 hg).1, ⟨_, _, _, hg⟩, fun j hj => ?_⟩⟩
          rw [Nat.zero_add, cell_of_row w1 g j cur 3 (0, 0) hg]
          have e1 : cur.toList[j]? = (cur.toList.take (par.length * 1))[j]? := by rw [List.getElem?_take, if_pos (by omega)]
          rw [← Array.getElem?_toList, e1, htake]
          simp [hj]
      obtain ⟨a', c', hv, hI⟩ := hv
      rw [hv]
      have HI' := hide hI
      clear hI hv hrow hlen hgrow H
      go_wp2
      go_ret
      exact ⟨a', c', rfl, unhide HI', ht⟩

set_option maxRecDepth 100000 in
set_option maxHeartbeats 400000 in
theorem treeNew_any {v : Value} {par : List Nat} (w : World) (T : Tree par) (h : ParRow w v par) :
    Calls Try.prog 56 #[v] w fun e w' => ∃ a' c', e = .returned (.tuple #[.agg #[.slice a' par.length c'], .bool true]) ∧ ParNew w' w.heap.size a' par ∧ Calm w w' := by
  have hn5 := T.1
  have hv : ∃ a n c, v = .slice a n c ∧ n = par.length := by
    rcases h with ⟨rfl, rfl⟩ | ⟨b, o, cap, rfl, _⟩
    · exact ⟨none, 0, 0, rfl, rfl⟩
    · exact ⟨_, _, _, rfl, rfl⟩
  have ht := (Touch.refl (fun _ => False) w).alloc (.cells #[.slice none 0 0] 81)
  have H := hide (h.calm ht)
  have HT := hide ht
  clear h ht
  obtain ⟨a, n, c, rfl, rfl⟩ := hv
  go_enter Try.func56, Try.ntmps56
  go_wp2
  go_loop [12] (fun i => ∃ k : Nat, k ≤ par.length ∧ i = .int .i64 k) (fun i => par.length - (intOf i).toNat)
  case atStart => exact ⟨0, by omega, rfl⟩
  case round =>
    obtain ⟨k, hk, rfl⟩ := hrel
    by_cases hlt : k < par.length
    · rcases unhide H with ⟨hp, _⟩ | ⟨b, o, cap, hv, hc⟩
      · rw [hp] at hlt; simp at hlt
      · cases hv
        replace hc := hc k hlt
        have h1 : par.getD k 0 ≤ k := T.2 k hlt
        have h0 : ((par.getD k 0 : Nat) : Int) ≤ k := by omega
        obtain ⟨z, hz⟩ : ∃ z : Nat, z = par.getD k 0 := ⟨_, rfl⟩
        rw [← hz] at hc h0
        clear h1 hz
        go_wp2
        go_round
        case rel => exact ⟨k + 1, by omega, by go_num⟩
        case measure => simp [intOf]; omega
    · go_wp2_with fail
      refine (clone_any _ hn5 (unhide H)).mono ?_
      rintro e w1 ⟨a', c', rfl, hI, hc1⟩
      have hbx := hc1.box (fun f => f)
      have e0 : w1.cell? ⟨w.heap.size, 0, none⟩ = some (.slice none 0 0) := box_cell hbx 0
      have fz := box_frozen hbx
      have HI : Hid (ParNew (w1.setCell ⟨w.heap.size, 0, none⟩ (.slice a' par.length c')) w.heap.size a' par) := by
        rcases hI with h | ⟨tb, o, rfl, h0, h1, h2, h3⟩
        · exact Or.inl h
        · rw [show (w.alloc (.cells #[.slice none 0 0] 81)).heap.size = w.heap.size + 1 from by simp] at h0
          have hne : tb ≠ w.heap.size := by omega
          refine Or.inr ⟨tb, o, rfl, by omega, by simpa [World.setCell] using h1, ?_, fun j hj => (World.cell?_setCell_other w1 _ _ _ (by intro e; have := congrArg Addr.block e; exact hne this.symm)).trans (h3 j hj)⟩
          rw [heap_setCell_other _ _ hne]; exact h2
      clear hI hbx
      go_wp2
      exact bodyPost_ret (v := .tuple #[.agg #[.slice a' par.length c'], .bool true]) (by simp [results, Try.results56, go_sem, e0]) rfl ⟨a', c', rfl, unhide HI, ((unhide HT).calm hc1).setCell (fun h => absurd h (Nat.lt_irrefl _)) _⟩

end Go.Proofs.Ytlpknnoacpfnnaa

/-
  What a slot has heard: a map by stays.
-/
import Derived.Test.YtodfcpblcpogiaaFil
import Derived.Maps.Views
import Derived.Deep.RegionLaw
import Derived.Deep.RegionHeld3
namespace Go.Proofs.Ytodfcpblcpogiaa
open Go.RowKit

theorem Try.laidOut : laidOutB Try.prog = true := by kernel_rfl
theorem Try.size160 : Try.prog.types.size = 198 := by kernel_rfl
theorem Try.cells176 : Try.prog.cellsOf 176 = 2 := by kernel_rfl
theorem Try.cells3 : Try.prog.cellsOf 3 = 1 := by kernel_rfl
theorem stayLaw : Maps.Keyed Try.prog 176 := Maps.Keyed.of_law (deep_law_laid Try.laidOut (m := 20) (by omega) (show (176 : Nat) < Try.prog.types.size by rw [Try.size160]; decide) (by kernel_rfl) (by kernel_rfl))

theorem stayKey {p st : Int} (hp : (Lit.int .i64 p).wf = true) (hs : (Lit.int .i64 st).wf = true) : ∃ kl, keyOf Try.prog 176 (.agg #[int p, int st]) = some kl := by
  have h1 : Try.prog.keyType 176 = true := by kernel_rfl
  have h2 : Value.formed Try.prog 176 (.agg #[int p, int st]) = true := by simp [Value.formed, Try.underlying176, Try.cells176]
  have h3 : ∀ d, Try.prog.keyLits (d + 2) 176 [int p, int st] = some [.int .i64 p, .int .i64 st] := fun d => by
    simp [Program.keyLits, Try.underlying176, Try.cells176, Try.cells3, Try.underlying3, hp, hs]
  refine ⟨.string (keyBytes [.int .i64 p, .int .i64 st]), ?_⟩
  unfold keyOf
  simp only [Try.underlying176, h1, h2, Bool.and_self, if_true]
  have h4 := h3 197
  rw [Try.size160]
  simp only [Value.cells]
  rw [h4]; rfl

theorem zero3 (w : World) : (zeroValue 3).run Try.prog w = .ok (.int .i64 0) w := by kernel_rfl

theorem wf_small {z : Int} (h0 : -9223372036854775808 ≤ z) (h1 : z ≤ 9223372036854775807) : (Lit.int .i64 z).wf = true := by
  have h1 : IntKind.i64.min = -9223372036854775808 := rfl
  have h2 : IntKind.i64.max = 9223372036854775807 := rfl
  simp only [Lit.wf, Bool.and_eq_true, decide_eq_true_eq]; omega

/-- What is heard behind one event more. -/
theorem heardOf_snoc (l : List News) (e : News) (p st : Int) : heardOf (l ++ [e]) p st = if e.ev.pub = p ∧ e.stay = st then e.ev.num else heardOf l p st := by
  simp [heardOf, List.foldl_append]

/-- What is told rises, in each stay. -/
def Rising (l : List News) : Prop := l.Pairwise (fun o e => o.ev.pub = e.ev.pub → o.stay = e.stay → o.ev.num < e.ev.num) ∧ ∀ e, e ∈ l → 1 ≤ e.ev.num

theorem heardOf_bound {l : List News} (h : Rising l) (p st : Int) : (∀ o, o ∈ l → o.ev.pub = p → o.stay = st → o.ev.num ≤ heardOf l p st) ∧ (heardOf l p st = 0 ∨ ∃ o, o ∈ l ∧ o.ev.pub = p ∧ o.stay = st ∧ o.ev.num = heardOf l p st) := by
  obtain ⟨h1, h2⟩ := h
  generalize hr : l.reverse = r
  have hl : l = r.reverse := by rw [← hr]; simp
  subst hl
  clear hr
  induction r with
  | nil => exact ⟨fun o ho => (by simp at ho), Or.inl rfl⟩
  | cons e r ih =>
    simp only [List.reverse_cons] at h1 h2 ⊢
    rw [List.pairwise_append] at h1
    obtain ⟨i1, i2⟩ := ih h1.1 (fun o ho => h2 o (List.mem_append_left _ ho))
    rw [heardOf_snoc]
    by_cases e1 : e.ev.pub = p ∧ e.stay = st
    · rw [if_pos e1]
      refine ⟨fun o ho hp hs => ?_, Or.inr ⟨e, by simp, e1.1, e1.2, rfl⟩⟩
      rw [List.mem_append, List.mem_singleton] at ho
      rcases ho with ho | rfl
      · exact Int.le_of_lt (h1.2.2 o ho e (by simp) (by omega) (by omega))
      · exact Int.le_refl _
    · rw [if_neg e1]
      refine ⟨fun o ho hp hs => ?_, ?_⟩
      · rw [List.mem_append, List.mem_singleton] at ho
        rcases ho with ho | rfl
        · exact i1 o ho hp hs
        · exact absurd ⟨hp, hs⟩ e1
      · rcases i2 with i2 | ⟨o, o1, o2, o3, o4⟩
        · exact Or.inl i2
        · exact Or.inr ⟨o, List.mem_append_left _ o1, o2, o3, o4⟩

theorem outrun_iff {l : List News} (h : Rising l) {e : News} (he : 1 ≤ e.ev.num) : outrun l e = decide (e.ev.num ≤ heardOf l e.ev.pub e.stay) := by
  obtain ⟨h1, h2⟩ := heardOf_bound h e.ev.pub e.stay
  by_cases hx : e.ev.num ≤ heardOf l e.ev.pub e.stay
  · rw [decide_eq_true hx]
    rcases h2 with h2 | ⟨o, o1, o2, o3, o4⟩
    · omega
    · simp only [outrun, List.any_eq_true, decide_eq_true_eq]
      exact ⟨o, o1, o2, o3, by omega⟩
  · rw [decide_eq_false hx]
    cases ho : outrun l e with
    | false => rfl
    | true =>
      simp only [outrun, List.any_eq_true, decide_eq_true_eq] at ho
      obtain ⟨o, o1, o2, o3, o4⟩ := ho
      have := h1 o o1 o2 o3
      omega

theorem Rising.snoc {l : List News} (h : Rising l) {e : News} (he : 1 ≤ e.ev.num) (ho : outrun l e = false) : Rising (l ++ [e]) := by
  refine ⟨?_, fun o h' => ?_⟩
  · rw [List.pairwise_append]
    refine ⟨h.1, List.pairwise_singleton _ _, fun o h1 x hx => ?_⟩
    rw [List.mem_singleton] at hx
    subst hx
    intro hp hs
    have : ¬ x.ev.num ≤ o.ev.num := fun hle => by
      have : outrun l x = true := by simp only [outrun, List.any_eq_true, decide_eq_true_eq]; exact ⟨o, h1, hp, hs, hle⟩
      rw [this] at ho; cases ho
    omega
  · rw [List.mem_append, List.mem_singleton] at h'
    rcases h' with h' | rfl
    · exact h.2 o h'
    · exact he

set_option maxRecDepth 100000 in
set_option maxHeartbeats 1000000 in
/-- An event for a subscription that there is. -/
theorem hear_any (b o mb n : Nat) (D : DataW Nat) (kl : Lit) (k p num f0 f1 f2 st c : Int) (w : World) (ht : w.cell? ⟨b, o, none⟩ = some (.bool true)) (hm : w.cell? ⟨b, o + 12, none⟩ = some (.map (some mb)))
    (hown : w.ownsMap Try.prog 176 (plainElem Try.prog 3) mb n D) (hn : n < maxLen) (hkey : keyOf Try.prog 176 (.agg #[int p, int st]) = some kl) (hat : D.atKey kl (.lit (.int .i64 0)) = .lit (.int .i64 c)) (hwf : (Lit.int .i64 num).wf = true) :
    Calls Try.prog 92 #[.pointer (some ⟨b, o, none⟩), .agg #[int k, int 0, int p, int num, int f0, int f1, int f2, int st]] w fun e w' =>
      (num ≤ c ∧ e = .returned (.bool false) ∧ Calm w w') ∨ (c < num ∧ e = .returned (.bool true) ∧ Touch (fun i => i = mb) w w' ∧ w'.ownsMap Try.prog 176 (plainElem Try.prog 3) mb (n + 1) (D.put kl (.lit (.int .i64 num)))) := by
  have hb := block_lt_of_cell ht
  simp only at hb
  obtain ⟨W, hW⟩ : ∃ W, (w.alloc (.cells #[int k, int 0, int p, int num, int f0, int f1, int f2, int st] 163)).alloc (.cells #[int p, int st] 176) = W := ⟨_, rfl⟩
  have hcal : Calm w W := by rw [← hW]; exact ((Touch.refl _ _).alloc _).alloc _
  have ht1 := hcal.cell (p := ⟨b, o, none⟩) (fun f => f) ht
  have hm1 := hcal.cell (p := ⟨b, o + 12, none⟩) (fun f => f) hm
  have hb0 : W.heap[w.heap.size]? = some (.cells #[int k, int 0, int p, int num, int f0, int f1, int f2, int st] 163) := by rw [← hW, Below.heap_alloc _ _ _ (by simp)]; exact heap_alloc_new w _
  have hb1 : W.heap[w.heap.size + 1]? = some (.cells #[int p, int st] 176) := by
    have := heap_alloc_new (w.alloc (.cells #[int k, int 0, int p, int num, int f0, int f1, int f2, int st] 163)) (.cells #[int p, int st] 176)
    rw [← hW]; simpa only [World.size_alloc] using this
  have c3 : W.cell? ⟨w.heap.size, 3, none⟩ = some (int num) := box_cell hb0 3
  have d0 : W.cell? ⟨w.heap.size + 1, 0, none⟩ = some (int p) := box_cell hb1 0
  have d1 : W.cell? ⟨w.heap.size + 1, 1, none⟩ = some (int st) := box_cell hb1 1
  have hmb : mb < w.heap.size := by
    obtain ⟨es, cl, h1, _⟩ := hown
    exact (Array.getElem?_eq_some_iff.1 h1).1
  have hown1 : W.ownsMap Try.prog 176 (plainElem Try.prog 3) mb n D := by
    obtain ⟨es, cl, h1, h2⟩ := hown
    exact ⟨es, cl, (hcal.block mb hmb (fun f => f)).trans h1, h2⟩
  have hown2 : W.drew.ownsMap Try.prog 176 (plainElem Try.prog 3) mb n D := hown1
  have l1 : (Instr.lookup 103 (.map (some mb)) (.agg #[int p, int st]) false).run Try.prog W = .ok (int c) W := by
    obtain ⟨c', h1, h2, _⟩ := hown1.lookup_int stayLaw Try.underlying103 Try.underlying3 (zero3 _) hkey
    rw [hat] at h2; cases h2; exact h1
  have l2 : (Instr.lookup 103 (.map (some mb)) (.agg #[int p, int st]) false).run Try.prog W.drew = .ok (int c) W.drew := by
    obtain ⟨c', h1, h2, _⟩ := hown2.lookup_int stayLaw Try.underlying103 Try.underlying3 (zero3 _) hkey
    rw [hat] at h2; cases h2; exact h1
  have HO := hide hown1
  have HC := hide hcal
  have HK := hide hkey
  have HWF := hide hwf
  have HN := hide hn
  clear hown hown1 hown2 hcal hkey hat hb0 hb1 hwf hn
  go_enter Try.func92, Try.ntmps92
  go_wp2
  clear hW ht hm
  go_cut [32] (fun s wx => s = .bool (decide (num ≤ c)) ∧ wx = W.drew)
  case first =>
    go_region
    all_goals (go_wp2_with fail; go_meet; exact ⟨rfl, rfl⟩)
  case rest =>
    obtain ⟨rfl, hwc⟩ := hcut
    have ht2 : wc.cell? ⟨b, o, none⟩ = some (.bool true) := by rw [hwc]; exact ht1
    have hm2 : wc.cell? ⟨b, o + 12, none⟩ = some (.map (some mb)) := by rw [hwc]; exact hm1
    have c32 : wc.cell? ⟨w.heap.size, 3, none⟩ = some (int num) := by rw [hwc]; exact c3
    have d02 : wc.cell? ⟨w.heap.size + 1, 0, none⟩ = some (int p) := by rw [hwc]; exact d0
    have d12 : wc.cell? ⟨w.heap.size + 1, 1, none⟩ = some (int st) := by rw [hwc]; exact d1
    have HO2 : Hid (wc.ownsMap Try.prog 176 (plainElem Try.prog 3) mb n D) := by rw [hwc]; exact unhide HO
    have HC2 : Hid (Calm w wc) := by rw [hwc]; exact (unhide HC).drew
    clear hwc ht1 hm1 c3 d0 d1 l1 l2 HO HC
    by_cases hle : num ≤ c
    · go_wp2
      go_ret
      exact Or.inl ⟨hle, rfl, unhide HC2⟩
    · have hown3 : wc.drew.ownsMap Try.prog 176 (plainElem Try.prog 3) mb n D := unhide HO2
      obtain ⟨w', hrun, hown', hgrow⟩ := hown3.update (t := 103) stayLaw Try.underlying103 (unhide HN) (unhide HK) (plainElem_int Try.underlying3 (unhide HWF))
      have HO3 := hide hown'
      have HG := hide hgrow
      clear hown3 hown' hgrow
      go_wp2
      go_region
      all_goals go_wp2
      all_goals go_ret
      all_goals refine Or.inr ⟨by omega, rfl, ?_, unhide HO3⟩
      all_goals
        have hg := unhide HG
        have hc := (unhide HC2).drew
        exact ⟨hg.os.trans hc.os, hg.tape.trans hc.tape, hg.output.trans hc.output, Nat.le_trans hc.size hg.size, fun i hi hne => (hg.block i (Nat.lt_of_lt_of_le hi hc.size) (by intro x; cases x; exact hne rfl)).trans (hc.block i hi (fun f => f))⟩

/-- The same, in one answer. -/
theorem hear_one (b o mb n : Nat) (D : DataW Nat) (kl : Lit) (k p num f0 f1 f2 st c : Int) (w : World) (ht : w.cell? ⟨b, o, none⟩ = some (.bool true)) (hm : w.cell? ⟨b, o + 12, none⟩ = some (.map (some mb)))
    (hown : w.ownsMap Try.prog 176 (plainElem Try.prog 3) mb n D) (hn : n < maxLen) (hkey : keyOf Try.prog 176 (.agg #[int p, int st]) = some kl) (hat : D.atKey kl (.lit (.int .i64 0)) = .lit (.int .i64 c)) (hwf : (Lit.int .i64 num).wf = true) :
    Calls Try.prog 92 #[.pointer (some ⟨b, o, none⟩), .agg #[int k, int 0, int p, int num, int f0, int f1, int f2, int st]] w fun e w' => e = .returned (.bool (decide (c < num))) ∧
      Hid ((num ≤ c ∧ Calm w w') ∨ (c < num ∧ Touch (fun i => i = mb) w w' ∧ w'.ownsMap Try.prog 176 (plainElem Try.prog 3) mb (n + 1) (D.put kl (.lit (.int .i64 num))))) := by
  refine (hear_any b o mb n D kl k p num f0 f1 f2 st c w ht hm hown hn hkey hat hwf).mono ?_
  rintro e w' (⟨h1, rfl, h2⟩ | ⟨h1, rfl, h2, h3⟩)
  · exact ⟨by rw [decide_eq_false (by omega)], Or.inl ⟨h1, h2⟩⟩
  · exact ⟨by rw [decide_eq_true h1], Or.inr ⟨h1, h2, h3⟩⟩

end Go.Proofs.Ytodfcpblcpogiaa

/-
  An append to a row that the call itself has made: in place, or into a new row, and then nothing old is touched.
-/
import Derived.Test.YtodfcpblcpogiaaGreatNetR3
import Derived.Deep.AppendLies
namespace Go.Proofs.YtodfcpblcpogiaaGreat
open Go.RowKit
variable {P : Program} (w : World)

/-- What an append leaves: the row g holds all; either it was appended to in place, or g is new. -/
def Grew (base : Nat) (e : TypeId) (size : Nat) (v : Value) (k : Nat) (all : List Value) (w : World) (g cap : Nat) (w' : World) : Prop :=
  w'.ownsRow base e size (.slice (some ⟨g, 0, none⟩) k cap) k all ∧ ((v.ownBlock = some g ∧ Touch (fun k => k = g) w w') ∨ (g = w.heap.size ∧ Calm w w')) ∧ g < w'.heap.size

theorem run_append_mine (t ty : TypeId) (base : Nat) (e : TypeId) (i : TypeInfo) (z : Value) (size bytes : Nat) (ht : P.underlying t = some (.slice e)) (hi : P.info? e = some i) (hz : i.zero = some z)
    (hsize : i.size = size) (hby : i.bytes = bytes) (hzs : z.cells.size = size) (hsz : 0 < size)
    (v : Value) (n : Nat) (xs : List Value) (hown : w.ownsRow base e size v n xs)
    (ad : Addr) (m c : Nat) (news : List Value) (hl : news.length = m * size) (hnews : ∀ j u, news[j]? = some u → w.cell? (ad.add j) = some u) (h1 : ∀ u ∈ news, u.oneCell' = true)
    (hm : 0 < m) (h63 : n + m ≤ maxLen) (hbytes : (n + m) * bytes ≤ 140737488355328) (hbase : base ≤ w.heap.size) :
    ∃ g cap w', (Builtin.append_ #[t, t] ty #[v, .slice (some ad) m c]).run P w = .ok (.slice (some ⟨g, 0, none⟩) (n + m) cap) w' ∧ Grew base e size v (n + m) (xs ++ news) w g cap w' := by
  obtain ⟨g, cap, w', hr, hown', hgrow, hg, hlt⟩ := run_append_lies (P := P) w t ty base e i z size bytes ht hi hz hsize hby hzs hsz v n xs hown ad m c news hl hnews h1 hm h63 hbytes hbase _ rfl
  refine ⟨g, cap, w', hr, hown', ?_, hlt⟩
  rcases hg with hg | hg
  · exact Or.inl ⟨hg, ⟨hgrow.os, hgrow.tape, hgrow.output, hgrow.size, fun k hk hs => hgrow.block k hk (by rw [hg]; intro x; exact hs (Option.some.inj x))⟩⟩
  · refine Or.inr ⟨hg, ?_⟩
    rcases hown.2 with ⟨rfl, rfl⟩ | ⟨g0, cap0, cur, rfl, hbg, hg0, hnc, hcm, hcs, htake⟩
    · exact ⟨hgrow.os, hgrow.tape, hgrow.output, hgrow.size, fun k hk _ => hgrow.block k hk (by simp [Value.ownBlock])⟩
    · have hg0lt : g0 < w.heap.size := (Array.getElem?_eq_some_iff.1 hg0).1
      subst hsize
      subst hby
      by_cases hroom : n + m ≤ cap0
      · have hfit : n * i.size + news.length ≤ cur.size := by rw [hl, hcs, ← Nat.add_mul]; exact Nat.mul_le_mul_right _ hroom
        rw [run_append_room (P := P) w t ty e i ht hi g0 n cap0 cur hg0 ad m c news hl hnews h1 hroom hfit] at hr
        simp only [Result.ok.injEq, Value.slice.injEq, Option.some.injEq, Addr.mk.injEq] at hr
        omega
      · have hsmall : n + m ≤ 9223372036854775807 := by simp only [maxLen] at h63; omega
        have holds : ∀ j u, xs[j]? = some u → w.cell? ((⟨g0, 0, none⟩ : Addr).add j) = some u := hown.cells (g := g0) rfl
        rw [run_append_grow (P := P) w t ty e i z ht hi hz ⟨g0, 0, none⟩ n cap0 xs hown.1 holds ad m c news hl hnews (by omega) (by omega) (growslice_fits (by omega) hbytes)] at hr
        simp only [Result.ok.injEq] at hr
        rw [← hr.2]
        exact ((Touch.refl _ _).drew).alloc _

theorem wp_append_mine {o : Oper} {a : Act} {K : Act → World → Prop} {Q : Exit → Act → World → Prop} (s x : Operand) (t : TypeId)
    (ho : o.op = .call { callee := .builtin .append, args := #[s, x], argTypes := #[t, t] })
    (base : Nat) (e : TypeId) (i : TypeInfo) (z : Value) (size bytes : Nat) (ht : P.underlying t = some (.slice e)) (hi : P.info? e = some i) (hz : i.zero = some z)
    (hsize : i.size = size) (hby : i.bytes = bytes) (hzs : z.cells.size = size) (hsz : 0 < size)
    (v : Value) (n : Nat) (xs : List Value) (hs : a.eval s = v) (hown : w.ownsRow base e size v n xs)
    (ad : Addr) (m c : Nat) (news : List Value) (hx : a.eval x = .slice (some ad) m c) (hl : news.length = m * size) (hnews : ∀ j u, news[j]? = some u → w.cell? (ad.add j) = some u) (h1 : ∀ u ∈ news, u.oneCell' = true)
    (hm : 0 < m) (h63 : n + m ≤ maxLen) (hbytes : (n + m) * bytes ≤ 140737488355328) (hbase : base ≤ w.heap.size)
    (h : ∀ g cap w', Grew base e size v (n + m) (xs ++ news) w g cap w' → K (a.put o.dst (.slice (some ⟨g, 0, none⟩) (n + m) cap)) w') : o.wp P a w K Q := by
  obtain ⟨g, cap, w', hr, hg⟩ := run_append_mine (P := P) w t o.type base e i z size bytes ht hi hz hsize hby hzs hsz v n xs hown ad m c news hl hnews h1 hm h63 hbytes hbase
  unfold Oper.wp execOp
  simp only [ho, resolve, invoke, builtin, Sem.run_bind, Sem.run_pure, Result.andThen_ok, List.map_toArray, List.map_cons, List.map_nil, hs, hx, hr]
  exact h g cap w' hg

theorem wpList_append_mine {ops : Array Oper} {rest : List Oper} {o : Oper} {a : Act} {Q : Exit → Act → World → Prop} (hgd : o.guard = none) (s x : Operand) (t : TypeId)
    (ho : o.op = .call { callee := .builtin .append, args := #[s, x], argTypes := #[t, t] })
    (base : Nat) (e : TypeId) (i : TypeInfo) (z : Value) (size bytes : Nat) (ht : P.underlying t = some (.slice e)) (hi : P.info? e = some i) (hz : i.zero = some z)
    (hsize : i.size = size) (hby : i.bytes = bytes) (hzs : z.cells.size = size) (hsz : 0 < size)
    (v : Value) (n : Nat) (xs : List Value) (hs : a.eval s = v) (hown : w.ownsRow base e size v n xs)
    (ad : Addr) (m c : Nat) (news : List Value) (hx : a.eval x = .slice (some ad) m c) (hl : news.length = m * size) (hnews : ∀ j u, news[j]? = some u → w.cell? (ad.add j) = some u) (h1 : ∀ u ∈ news, u.oneCell' = true)
    (hm : 0 < m) (h63 : n + m ≤ maxLen) (hbytes : (n + m) * bytes ≤ 140737488355328) (hbase : base ≤ w.heap.size)
    (h : ∀ g cap w', Grew base e size v (n + m) (xs ++ news) w g cap w' → wpList P ops Q rest (a.put o.dst (.slice (some ⟨g, 0, none⟩) (n + m) cap)) w') : wpList P ops Q (o :: rest) a w :=
  wpList_plain hgd fun _ hK => wp_append_mine w s x t ho base e i z size bytes ht hi hz hsize hby hzs hsz v n xs hs hown ad m c news hx hl hnews h1 hm h63 hbytes hbase fun g cap w' hg => hK _ _ (h g cap w' hg)

theorem step_append_mine {ops : Array Oper} {o : Oper} {a : Act} {K : Act → World → Prop} {Q : Exit → Act → World → Prop} {E : Prop} (hgd : o.guard = none) (s x : Operand) (t : TypeId)
    (ho : o.op = .call { callee := .builtin .append, args := #[s, x], argTypes := #[t, t] })
    (base : Nat) (e : TypeId) (i : TypeInfo) (z : Value) (size bytes : Nat) (ht : P.underlying t = some (.slice e)) (hi : P.info? e = some i) (hz : i.zero = some z)
    (hsize : i.size = size) (hby : i.bytes = bytes) (hzs : z.cells.size = size) (hsz : 0 < size)
    (v : Value) (n : Nat) (xs : List Value) (hs : a.eval s = v) (hown : w.ownsRow base e size v n xs)
    (ad : Addr) (m c : Nat) (news : List Value) (hx : a.eval x = .slice (some ad) m c) (hl : news.length = m * size) (hnews : ∀ j u, news[j]? = some u → w.cell? (ad.add j) = some u) (h1 : ∀ u ∈ news, u.oneCell' = true)
    (hm : 0 < m) (h63 : n + m ≤ maxLen) (hbytes : (n + m) * bytes ≤ 140737488355328) (hbase : base ≤ w.heap.size)
    (h : ∀ g cap w', Grew base e size v (n + m) (xs ++ news) w g cap w' → K (a.put o.dst (.slice (some ⟨g, 0, none⟩) (n + m) cap)) w') :
    if Region.wanted o (yielded ops a.tmps) = true then Oper.wp P o a w K Q else E := by
  have hw : Region.wanted o (yielded ops a.tmps) = true := by simp [Region.wanted, hgd]
  rw [if_pos hw]
  exact wp_append_mine w s x t ho base e i z size bytes ht hi hz hsize hby hzs hsz v n xs hs hown ad m c news hx hl hnews h1 hm h63 hbytes hbase h

/-- Numbers that lie behind a slice's head. -/
def IntsAt (w : World) (a : Option Addr) (n : Nat) (f : Nat → Int) : Prop := n = 0 ∨ ∃ b o, a = some ⟨b, o, none⟩ ∧ ∀ j, j < n → w.cell? ⟨b, o + j, none⟩ = some (.int .i64 (f j))

theorem IntsAt.calm {w w' : World} {a : Option Addr} {n : Nat} {f : Nat → Int} (h : IntsAt w a n f) (t : Calm w w') : IntsAt w' a n f := by
  rcases h with h | ⟨b, o, rfl, h⟩
  · exact Or.inl h
  · exact Or.inr ⟨b, o, rfl, fun j hj => t.cell (p := ⟨b, o + j, none⟩) (fun f => f) (h j hj)⟩

/-- What the laws on append ask of an element's type. -/
def Elem (e : TypeId) (z : Value) (size bytes : Nat) : Prop := ∃ i, Tryz.prog.info? e = some i ∧ i.zero = some z ∧ i.size = size ∧ i.bytes = bytes

theorem elem_of {e : TypeId} {z : Value} {size bytes : Nat} (h : (Tryz.prog.info? e).map (fun i => (i.zero, i.size, i.bytes)) = some (some z, size, bytes)) : Elem e z size bytes := by
  cases hq : Tryz.prog.info? e with
  | none => simp [hq] at h
  | some i =>
    simp [hq] at h
    exact ⟨i, hq, h.1, h.2.1, h.2.2⟩

theorem elem3 : Elem 3 (.int .i64 0) 1 8 := elem_of (by kernel_rfl)

theorem run_buildSlice30 (w : World) : (Instr.buildSlice 30 0 #[]).run Tryz.prog w = .ok (.slice (some ⟨w.heap.size, 0, none⟩) 0 0) (w.alloc (.cells #[] 3)) := by kernel_rfl

set_option maxRecDepth 100000 in
set_option maxHeartbeats 400000 in
theorem clone_any (b o n cap : Nat) (f : Nat → Int) (w : World) (hn : n ≤ 5) (h : ∀ j, j < n → w.cell? ⟨b, o + j, none⟩ = some (.int .i64 (f j))) :
    Calls Tryz.prog 97 #[.slice (some ⟨b, o, none⟩) n cap] w fun e w' => ∃ a' c', e = .returned (.slice a' n c') ∧ IntsAt w' a' n f ∧ Calm w w' := by
  have hnil : ∀ w, (binOp .eql 30 (.slice (some ⟨b, o, none⟩) n cap) (.slice none 0 0)).run Tryz.prog w = .ok (.bool false) w := fun w => Lib.run_eql_slice_nil w 30 3 _ _ _ _ _ Tryz.underlying30
  have H := hide h
  clear h
  go_enter Tryz.func97, Tryz.ntmps97
  obtain ⟨i, hi, hz, hs, hb⟩ := elem3
  have HI := hide hi
  have HZ := hide hz
  have HS := hide hs
  have HB := hide hb
  clear hi hz hs hb
  go_wp2_with (at_builtin; refine wpList_append_own _ rfl _ _ 30 rfl w.heap.size 3 i (.int .i64 0) 1 8 Tryz.underlying30 (unhide HI) (unhide HZ) (unhide HS) (unhide HB) rfl (by decide) _ 0 [] rfl ?own ⟨b, o, none⟩ n cap ((List.range n).map fun j => Value.int .i64 (f j)) rfl ?len ?news ?one ?h63 ?bytes ?base ?_)
  case own => exact World.ownsRow_made w #[] 0 (Nat.le_refl _) (by unfold maxLen; omega) rfl
  case len => simp
  case news =>
    intro j u hj
    have hj' : j < n := by
      by_cases h' : j < n
      · exact h'
      · rw [List.getElem?_eq_none (by simp; omega)] at hj; cases hj
    have : u = .int .i64 (f j) := by
      simp [hj'] at hj
      exact hj.symm
    subst this
    rw [Addr.add_mid]
    exact ((Touch.refl (fun _ => False) w).alloc (.cells #[] 3)).cell (p := ⟨b, o + j, none⟩) (fun f => f) (unhide H j hj')
  case one =>
    intro u hu
    simp at hu
    obtain ⟨j, _, rfl⟩ := hu
    rfl
  case h63 => unfold maxLen; omega
  case bytes => omega
  case base => simp
  · intro v' w1 hown hgrow _
    obtain ⟨hlen, hrow⟩ := hown
    have ht : Calm w w1 := ⟨hgrow.os, hgrow.tape, hgrow.output, by have := hgrow.size; simp at this; omega, fun k hk _ => (hgrow.block k (by simp; omega) (by simp [Value.ownBlock]; omega)).trans (Below.heap_alloc _ _ _ hk)⟩
    have hv : ∃ a' c', v' = .slice a' n c' ∧ IntsAt w1 a' n f := by
      rcases hrow with ⟨rfl, h0⟩ | ⟨g, c', cur, rfl, _, hg, _, _, _, htake⟩
      · exact ⟨none, 0, by rw [show n = 0 from by omega], Or.inl (by omega)⟩
      · refine ⟨some ⟨g, 0, none⟩, c', rfl, Or.inr ⟨g, 0, rfl, fun j hj => ?_⟩⟩
        rw [Nat.zero_add, cell_of_row w1 g j cur 3 (0, 0) hg]
        have e1 : cur.toList[j]? = (cur.toList.take (n * 1))[j]? := by rw [List.getElem?_take, if_pos (by omega)]
        rw [← Array.getElem?_toList, e1, htake]
        simp [hj]
    obtain ⟨a', c', hv, hI⟩ := hv
    rw [hv]
    have HI' := hide hI
    clear hI hv hrow hlen hgrow H
    go_wp2
    go_ret
    exact ⟨a', c', rfl, unhide HI', ht⟩

end Go.Proofs.YtodfcpblcpogiaaGreat

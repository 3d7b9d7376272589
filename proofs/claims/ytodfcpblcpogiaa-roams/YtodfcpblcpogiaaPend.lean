/-
  PENDING; how many frames wait.
-/
import Derived.Test.YtodfcpblcpogiaaIter
namespace Go.Proofs.Ytodfcpblcpogiaa
open Go.RowKit

/-- A link, by its place in the array. -/
def lnkAt (σ : Net) (j : Nat) : Option Lnk := if σ.q (j / 6) (j % 6) = [] then none else some ⟨j / 6, j % 6, (σ.q (j / 6) (j % 6)).length⟩
def pendTo (σ : Net) (k : Nat) : List Lnk := (List.range k).filterMap (lnkAt σ)
theorem pendTo_succ (σ : Net) (k : Nat) : pendTo σ (k + 1) = pendTo σ k ++ (lnkAt σ k).toList := by
  unfold pendTo
  rw [List.range_succ, List.filterMap_append]
  simp only [List.filterMap_cons, List.filterMap_nil]
  cases lnkAt σ k <;> rfl
theorem filterMap_same {α β : Type} {f g : α → Option β} : ∀ (l : List α), (∀ a, a ∈ l → f a = g a) → l.filterMap f = l.filterMap g
  | [], _ => rfl
  | a :: l, h => by simp only [List.filterMap_cons, h a (List.mem_cons_self ..), filterMap_same l (fun b hb => h b (List.mem_cons_of_mem _ hb))]
theorem flatMap_same {α β : Type} {f g : α → List β} : ∀ (l : List α), (∀ a, a ∈ l → f a = g a) → l.flatMap f = l.flatMap g
  | [], _ => rfl
  | a :: l, h => by simp only [List.flatMap_cons, h a (List.mem_cons_self ..), flatMap_same l (fun b hb => h b (List.mem_cons_of_mem _ hb))]
theorem pendTo_len (σ : Net) (k : Nat) : (pendTo σ k).length ≤ k := Nat.le_trans (List.length_filterMap_le _ _) (by simp)
theorem pendTo_all (σ : Net) (h : σ.closed = false) : pendTo σ 36 = σ.pending := by
  have h1 : List.range 36 = (List.range 6).flatMap fun x => (List.range 6).map fun y => x * 6 + y := by decide
  unfold pendTo Net.pending
  rw [h, h1, List.filterMap_flatMap]
  simp only [Bool.false_eq_true, if_false]
  have hx : ∀ x, x ∈ List.range 6 → ((List.range 6).map fun y => x * 6 + y).filterMap (lnkAt σ) = (List.range 6).filterMap fun y => if σ.q x y = [] then none else some ⟨x, y, (σ.q x y).length⟩ := fun x _ => by
    rw [List.filterMap_map]
    refine filterMap_same _ (fun y hy => ?_)
    have hy := List.mem_range.1 hy
    simp only [Function.comp, lnkAt]
    rw [show (x * 6 + y) / 6 = x by omega, show (x * 6 + y) % 6 = y by omega]
  exact flatMap_same _ hx

theorem info90 : (Try.prog.info? 90).map (·.size) = some 6 := by kernel_rfl
theorem info89 : (Try.prog.info? 89).map (·.size) = some 1 := by kernel_rfl
theorem idx91 (qs : Array Value) (k : Nat) (hk : k < 6) (w : World) : (Instr.index 91 (.agg qs) (.int .i64 k)).run Try.prog w = .ok (.agg (qs.extract (k * 6) (k * 6 + 6))) w := by
  have h1 : (0 : Int) ≤ k ∧ (k : Int) < (6 : Nat) := by omega
  simp [Instr.index, asIntOf, Sem.run_bind, run_underlying Try.underlying91, part, isAgg, run_underlying Try.underlying90, size_of info90, hk]
theorem idx90 (r : Array Value) (k : Nat) (hk : k < 6) (v : Value) (hv : r[k]? = some v) (w : World) : (Instr.index 90 (.agg r) (.int .i64 k)).run Try.prog w = .ok v w := by
  simp [Instr.index, asIntOf, Sem.run_bind, run_underlying Try.underlying90, part, isAgg, run_underlying Try.underlying89, size_of info89, hk, hv]

theorem len_link {w : World} {ρ : Nat → Option Role} {x y : Nat} {nb : Bool} {l : List Fr} {v : Value} (h : LinkAt w ρ x y nb l v) : (Builtin.len_ #[89] 3 #[v]).run Try.prog w = .ok (goInt l.length) w := by
  unfold LinkAt at h
  split at h
  · obtain ⟨r, buf, s, t, rfl, _, h3, h4⟩ := h
    have hsz : buf.size = l.length := by rw [← h4.1]; simp
    have hg : (getObj r).run Try.prog w = .ok (.chan 2000 buf false s t false) w := by simp [getObj, Sem.run, h3]
    simp [Builtin.len_, run_underlying Try.underlying89, hg, hsz]
  · obtain ⟨rfl, rfl⟩ := h
    simp [Builtin.len_, run_underlying Try.underlying89]
theorem LinkAt.chan {w : World} {ρ : Nat → Option Role} {x y : Nat} {nb : Bool} {l : List Fr} {v : Value} (h : LinkAt w ρ x y nb l v) : ∃ r, v = .chan r := by
  unfold LinkAt at h
  split at h
  · obtain ⟨r, _, _, _, h, _⟩ := h; exact ⟨_, h⟩
  · exact ⟨_, h.1⟩

/-- The 36 links' values. -/
theorem XN.queues {w : World} {b : Nat} {ρ : Nat → Option Role} {σ : Net} (h : XN w b ρ σ) : ∃ v : Nat → Value, (∀ j, j < 36 → w.cell? ⟨b, 2 + j, none⟩ = some (v j) ∧ LinkAt w ρ (j / 6) (j % 6) (near σ.par (j / 6) (j % 6)) (σ.q (j / 6) (j % 6)) (v j)) := by
  have : ∀ j, ∃ v, j < 36 → w.cell? ⟨b, 2 + j, none⟩ = some v ∧ LinkAt w ρ (j / 6) (j % 6) (near σ.par (j / 6) (j % 6)) (σ.q (j / 6) (j % 6)) v := fun j => by
    by_cases hj : j < 36
    · obtain ⟨v, h1, h2⟩ := h.link (j / 6) (j % 6) (by omega) (by omega)
      rw [show 2 + j / 6 * 6 + j % 6 = 2 + j by omega] at h1
      exact ⟨v, fun _ => ⟨h1, h2⟩⟩
    · exact ⟨.bool false, fun h => absurd h hj⟩
  obtain ⟨v, hv⟩ := Classical.axiomOfChoice this
  exact ⟨v, hv⟩

theorem six_of (v : Nat → Value) (x : Nat) (hx : x < 6) : ((List.range 36).map v).toArray.extract (x * 6) (x * 6 + 6) = #[v (x * 6), v (x * 6 + 1), v (x * 6 + 2), v (x * 6 + 3), v (x * 6 + 4), v (x * 6 + 5)] := by
  obtain rfl | rfl | rfl | rfl | rfl | rfl : x = 0 ∨ x = 1 ∨ x = 2 ∨ x = 3 ∨ x = 4 ∨ x = 5 := by omega
  all_goals rfl

/-- A row of links that came out. -/
def LinksAt (w : World) (base : Nat) (v : Value) (l : List Lnk) : Prop := w.ownsRow base 68 3 v l.length (l.flatMap Lnk.enc)

set_option maxRecDepth 100000 in
set_option maxHeartbeats 2000000 in
theorem linksPending_any {w : World} {b : Nat} {ρ : Nat → Option Role} {σ : Net} (h : XN w b ρ σ) (hw : ∀ x y, (σ.q x y).length < 2000) :
    Calls Try.prog 52 #[.pointer (some ⟨b, 2, none⟩)] w fun e w' => ∃ v, e = .returned v ∧ LinksAt w' w.heap.size v σ.pending ∧ Calm w w' := by
  obtain ⟨v, hv⟩ := h.queues
  have hq : w.rangeAt b 2 ((List.range 36).map v) := fun j u hj => by
    have hj' : j < 36 := by
      by_cases hj' : j < 36
      · exact hj'
      · rw [List.getElem?_eq_none (by simp; omega)] at hj; cases hj
    simp [hj'] at hj
    rw [← hj]; exact (hv j hj').1
  have hl : ((List.range 36).map v).length = 36 := by simp
  have hsx := fun (x : Nat) (hx : x < 6) => six_of v x hx
  generalize (List.range 36).map v = qs at hq hl hsx
  have HSX := hide hsx
  clear hsx
  have hall := pendTo_all σ h.open_
  have HALL := hide hall
  have HV := hide (fun j hj => (hv j hj).2)
  have HX := hide h
  clear h hall hv
  obtain ⟨ti, i3, z3, s3, b3⟩ := elem68
  have I3 := hide i3
  have Z3 := hide z3
  have S3 := hide s3
  have B3 := hide b3
  clear i3 z3 s3 b3
  go_enter Try.func52, Try.ntmps52
  go_wp2_with (refine wpList_load_mid rfl 91 _ rfl b 2 rfl qs _ hq Try.underlying91 rfl (by rw [hl]; kernel_rfl) ?_)
  go_loopw [3, 13] (fun p i wr => ∃ x : Nat, x ≤ 6 ∧ i = int x ∧ LinksAt wr w.heap.size p (pendTo σ (x * 6)) ∧ Calm w wr) (fun _ i _ => 6 - (intOf i).toNat)
  case atStart => exact ⟨0, by omega, rfl, World.ownsRow_nil _ _ _ _, Touch.refl _ _⟩
  case round =>
    obtain ⟨x, hx, rfl, hrow, ht⟩ := hrel
    have HROW := hide hrow
    have HT := hide ht
    clear hrow ht
    by_cases hlt : x < 6
    · have hxi : (x : Int) < 6 := by omega
      have hxx := fun w => idx91 qs.toArray x hlt w
      rw [unhide HSX x hlt] at hxx
      obtain ⟨r0, e0⟩ := (unhide HV (x * 6) (by omega)).chan
      obtain ⟨r1, e1⟩ := (unhide HV (x * 6 + 1) (by omega)).chan
      obtain ⟨r2, e2⟩ := (unhide HV (x * 6 + 2) (by omega)).chan
      obtain ⟨r3, e3⟩ := (unhide HV (x * 6 + 3) (by omega)).chan
      obtain ⟨r4, e4⟩ := (unhide HV (x * 6 + 4) (by omega)).chan
      obtain ⟨r5, e5⟩ := (unhide HV (x * 6 + 5) (by omega)).chan
      have hsix : ∀ y, y < 6 → (#[Value.chan r0, .chan r1, .chan r2, .chan r3, .chan r4, .chan r5] : Array Value)[y]? = some (v (x * 6 + y)) := fun y hy => by
        obtain rfl | rfl | rfl | rfl | rfl | rfl : y = 0 ∨ y = 1 ∨ y = 2 ∨ y = 3 ∨ y = 4 ∨ y = 5 := by omega
        · exact congrArg some e0.symm
        · exact congrArg some e1.symm
        · exact congrArg some e2.symm
        · exact congrArg some e3.symm
        · exact congrArg some e4.symm
        · exact congrArg some e5.symm
      rw [e0, e1, e2, e3, e4, e5] at hxx
      have HSIX := hide hsix
      clear hsix e0 e1 e2 e3 e4 e5
      go_wp2
      have ht2 : Calm wr (wr.alloc (.cells #[.chan r0, .chan r1, .chan r2, .chan r3, .chan r4, .chan r5] 90)) := (Touch.refl _ _).alloc _
      have HROW2 : Hid (LinksAt (wr.alloc (.cells #[.chan r0, .chan r1, .chan r2, .chan r3, .chan r4, .chan r5] 90)) w.heap.size u3 (pendTo σ (x * 6))) := ownsRow_keep (unhide HROW) ht2 (fun _ _ f => f)
      have HT2 := hide ((unhide HT).trans ht2)
      clear ht2 hxx HROW HT
      go_loopw [3, 18] (fun p j wq => ∃ y : Nat, y ≤ 6 ∧ j = int y ∧ LinksAt wq w.heap.size p (pendTo σ (x * 6 + y)) ∧ Calm w wq) (fun _ j _ => 6 - (intOf j).toNat)
      case atStart => exact ⟨0, by omega, rfl, unhide HROW2, unhide HT2⟩
      case round =>
        obtain ⟨y, hy, rfl, hrow, ht⟩ := hrel
        have HROW := hide hrow
        have HT := hide ht
        clear hrow ht HROW2 HT2
        by_cases hyt : y < 6
        · have hyi : (y : Int) < 6 := by omega
          have hv := unhide HSIX y hyt
          have hyy := fun w => idx90 _ y hyt _ hv w
          have hlk := ((unhide HV) (x * 6 + y) (by omega)).keep (w' := wr) (ρ' := ρ) (fun k hk => ⟨(unhide HT).block k ((unhide HX).lt k (by rcases hk with hk | hk | hk <;> rw [hk] <;> simp)) (fun f => f), rfl⟩)
          have hz := len_link hlk
          obtain ⟨rr, hrr⟩ := hlk.chan
          rw [hrr] at hyy hz
          have h6a : (x * 6 + y) / 6 = x := by omega
          have h6b : (x * 6 + y) % 6 = y := by omega
          have hsu := pendTo_succ σ (x * 6 + y)
          have hl2 := hw x y
          rw [h6a, h6b] at hz
          have hla : lnkAt σ (x * 6 + y) = if σ.q x y = [] then none else some ⟨x, y, (σ.q x y).length⟩ := by simp only [lnkAt, h6a, h6b]
          have HSU := hide hsu
          have HLA := hide hla
          clear hsu hla hlk hv hrr
          generalize hN : (σ.q x y).length = N at *
          have HN := hide hN
          clear hN
          by_cases hN0 : 0 < N
          · have hN0i : (0 : Int) < N := by omega
            have hne : σ.q x y ≠ [] := fun e => by have := unhide HN; rw [e] at this; simp at this; omega
            have hsz := (unhide HT).size
            have hpl := pendTo_len σ (x * 6 + y)
            go_wp2_with (at_builtin; refine wpList_append_mine _ rfl _ _ 45 rfl w.heap.size 68 ti (.agg #[int 0, int 0, int 0]) 3 24 Try.underlying45 (unhide I3) (unhide Z3) (unhide S3) (unhide B3) rfl (by decide) _ (pendTo σ (x * 6 + y)).length _ rfl (ownsRow_keep (unhide HROW) ((Touch.refl (fun _ => False) _).alloc _) (fun _ _ f => f)) ⟨wr.heap.size, 0, none⟩ 1 1 [int x, int y, int N] rfl rfl ?news ?one (by decide) ?h63 ?bytes ?base ?_)
            case news => exact fun j u hj => new_cells wr [int x, int y, int N] 68 j u hj
            case one => intro u hu; simp at hu; rcases hu with rfl | rfl | rfl <;> rfl
            case h63 => unfold maxLen; omega
            case bytes => omega
            case base => simp; omega
            intro g cap w2 hg
            have hrow2 : LinksAt w2 w.heap.size (.slice (some ⟨g, 0, none⟩) ((pendTo σ (x * 6 + y)).length + 1) cap) (pendTo σ (x * 6 + y + 1)) := by
              rw [unhide HSU, unhide HLA, if_neg hne]
              have := hg.1
              simp only [LinksAt, Option.toList_some, List.length_append, List.length_cons, List.length_nil, List.flatMap_append, List.flatMap_cons, List.flatMap_nil, List.append_nil, Lnk.enc]
              exact this
            have ht2 : Calm w w2 := by
              rcases hg.2.1 with ⟨hv, t⟩ | ⟨_, t⟩
              · have hge : w.heap.size ≤ g := by
                  rcases (unhide HROW).2 with ⟨e, _⟩ | ⟨g', cp', cur, e, hb, _⟩
                  · rw [e] at hv; cases hv
                  · rw [e] at hv; cases hv; exact hb
                have t1 : Touch (fun i => i = g) w (wr.alloc (.cells #[int x, int y, int N] 68)) := ((unhide HT).mono (fun _ _ f => f.elim)).alloc _
                exact (t1.trans t).mono (fun i hi e => by omega)
              · exact ((unhide HT).alloc _).trans t
            have HROW3 := hide hrow2
            have HT3 := hide ht2
            clear hrow2 ht2 hg
            go_wp2
            go_roundw
            case rel => exact ⟨y + 1, by omega, by go_num, unhide HROW3, unhide HT3⟩
            case measure => simp [intOf]; omega
          · have hNe : N = 0 := by omega
            subst hNe
            have hne : σ.q x y = [] := List.eq_nil_of_length_eq_zero (unhide HN)
            go_wp2
            go_roundw
            case rel => exact ⟨y + 1, by omega, by go_num, by rw [← Nat.add_assoc, unhide HSU, unhide HLA, if_pos hne]; simpa using unhide HROW, unhide HT⟩
            case measure => simp [intOf]; omega
        · have hyi : ¬ (y : Int) < 6 := by omega
          have hy6 : y = 6 := by omega
          subst hy6
          go_wp2
          go_roundw
          case rel => exact ⟨x + 1, by omega, by go_num, by rw [show (x + 1) * 6 = x * 6 + 6 by omega]; exact unhide HROW, unhide HT⟩
          case measure => simp [intOf]; omega
    · have hxi : ¬ (x : Int) < 6 := by omega
      have hx6 : x = 6 := by omega
      subst hx6
      go_wp2
      go_ret
      exact ⟨_, rfl, by rw [← unhide HALL]; exact unhide HROW, unhide HT⟩

theorem LinksAt.at {w : World} {base : Nat} {a : Option Addr} {n cap : Nat} {l : List Lnk} (h : LinksAt w base (.slice a n cap) l) : n = l.length ∧ ∀ i k, l[i]? = some k → ∃ g, a = some ⟨g, 0, none⟩ ∧ w.cell? ⟨g, i * 3, none⟩ = some (int k.a) ∧ w.cell? ⟨g, i * 3 + 1, none⟩ = some (int k.b) ∧ w.cell? ⟨g, i * 3 + 2, none⟩ = some (int k.many) := by
  obtain ⟨h1, h2⟩ := h
  have hcells : ∀ (l : List Lnk) (i : Nat) k, l[i]? = some k → (l.flatMap Lnk.enc)[i * 3]? = some (int k.a) ∧ (l.flatMap Lnk.enc)[i * 3 + 1]? = some (int k.b) ∧ (l.flatMap Lnk.enc)[i * 3 + 2]? = some (int k.many) := by
    intro l
    induction l with
    | nil => intro i k hk; cases hk
    | cons c l ih =>
      intro i k hk
      cases i with
      | zero => cases hk; exact ⟨rfl, rfl, rfl⟩
      | succ i =>
        have := ih i k (by simpa using hk)
        simp only [List.flatMap_cons, Lnk.enc, List.cons_append, List.nil_append]
        rw [show (i + 1) * 3 = i * 3 + 1 + 1 + 1 by omega]
        exact this
  rcases h2 with ⟨e, h0⟩ | ⟨g, cap', cur, e, _, hg, hn, _, hcs, htake⟩
  · cases e
    exact ⟨h0.symm, fun i k hk => by rw [List.eq_nil_of_length_eq_zero h0] at hk; cases hk⟩
  · cases e
    refine ⟨rfl, fun i k hk => ⟨g, rfl, ?_⟩⟩
    have hil : i < l.length := (List.getElem?_eq_some_iff.1 hk).1
    obtain ⟨c1, c2, c3⟩ := hcells l i k hk
    have hget : ∀ j u, j < l.length * 3 → (l.flatMap Lnk.enc)[j]? = some u → w.cell? ⟨g, j, none⟩ = some u := fun j u hj hu => by
      rw [cell_of_row w g j cur 68 (0, 0) hg, ← Array.getElem?_toList]
      rw [← htake, List.getElem?_take, if_pos hj] at hu
      exact hu
    exact ⟨hget _ _ (by omega) c1, hget _ _ (by omega) c2, hget _ _ (by omega) c3⟩

/-- The sum of the first k. -/
def manyTo (l : List Lnk) (k : Nat) : Nat := ((l.take k).map (·.many)).sum
theorem manyTo_succ {l : List Lnk} {k : Nat} {c : Lnk} (h : l[k]? = some c) : manyTo l (k + 1) = manyTo l k + c.many := by
  unfold manyTo
  rw [List.take_add_one, h]
  simp
theorem pend_sum (σ : Net) (h : σ.closed = false) : (σ.pending.map (·.many)).sum = σ.waiting := by
  rw [waiting_eq]
  have hrow : ∀ x, (((List.range 6).filterMap fun y => if σ.q x y = [] then none else some (⟨x, y, (σ.q x y).length⟩ : Lnk)).map (·.many)).sum = sum6 fun y => (σ.q x y).length := fun x => by
    rw [← sum6_range]
    have : ∀ (l : List Nat), ((l.filterMap fun y => if σ.q x y = [] then none else some (⟨x, y, (σ.q x y).length⟩ : Lnk)).map (·.many)).sum = (l.map fun y => (σ.q x y).length).sum := by
      intro l
      induction l with
      | nil => rfl
      | cons y l ih =>
        simp only [List.filterMap_cons, List.map_cons, List.sum_cons]
        by_cases e : σ.q x y = []
        · simp only [e, if_true, List.length_nil, ih]; omega
        · simp only [e, if_false, List.map_cons, List.sum_cons, ih]
    exact this _
  unfold Net.pending
  rw [h]
  simp only [Bool.false_eq_true, if_false]
  rw [← sum6_range]
  have : ∀ (l : List Nat), ((l.flatMap fun x => (List.range 6).filterMap fun y => if σ.q x y = [] then none else some (⟨x, y, (σ.q x y).length⟩ : Lnk)).map (·.many)).sum = (l.map fun x => sum6 fun y => (σ.q x y).length).sum := by
    intro l
    induction l with
    | nil => rfl
    | cons x l ih => simp only [List.flatMap_cons, List.map_append, List.sum_append, List.map_cons, List.sum_cons, hrow, ih]
  exact this _

theorem pending_len {σ : Net} (h : σ.closed = false) : σ.pending.length ≤ 36 := by rw [← pendTo_all σ h]; exact pendTo_len σ 36

set_option maxRecDepth 100000 in
set_option maxHeartbeats 1000000 in
theorem waitingX {w : World} {b : Nat} {ρ : Nat → Option Role} {σ : Net} (h : XN w b ρ σ) (hw : ∀ x y, (σ.q x y).length < 2000) (hall : σ.waiting < 1000000) :
    Calls Try.prog 69 #[.pointer (some ⟨b, 2, none⟩)] w fun e w' => e = .returned (int σ.waiting) ∧ Calm w w' := by
  have hsum := pend_sum σ h.open_
  have hpl := pending_len h.open_
  have hle : ∀ k, manyTo σ.pending k ≤ σ.waiting := fun k => by
    rw [← hsum]; unfold manyTo
    rw [List.map_take]
    have : ∀ (l : List Nat) k, (l.take k).sum ≤ l.sum := by
      intro l
      induction l with
      | nil => intro k; simp
      | cons a l ih =>
        intro k
        cases k with
        | zero => simp
        | succ k => have := ih k; simp; omega
    exact this _ _
  have HX := hide h
  clear h
  go_enter Try.func69, Try.ntmps69
  go_wp2_with (go_at_call 52; refine (linksPending_any (unhide HX) hw).mono ?_; rintro e w1 ⟨v, rfl, hv, ht⟩
               obtain ⟨a, n, cap, rfl⟩ : ∃ a n cap, v = .slice a n cap := by
                 rcases hv.2 with ⟨e, _⟩ | ⟨g, cap, _, e, _⟩
                 · exact ⟨_, _, _, e⟩
                 · exact ⟨_, _, _, e⟩
               obtain ⟨hn, hat⟩ := hv.at
               have HAT := hide hat
               have HT := hide ht
               clear hat ht hv)
  go_loopw [3, 9] (fun p i wr => ∃ k : Nat, k ≤ n ∧ i = int k ∧ p = int (manyTo σ.pending k) ∧ Calm w1 wr) (fun _ i _ => n - (intOf i).toNat)
  case atStart => exact ⟨0, by omega, rfl, rfl, Touch.refl _ _⟩
  case round =>
    obtain ⟨k, hk, rfl, rfl, hc⟩ := hrel
    by_cases hlt : k < n
    · have hlti : (k : Int) < n := by omega
      have hget : σ.pending[k]? = some (σ.pending[k]'(by omega)) := List.getElem?_eq_getElem (by omega)
      generalize σ.pending[k]'(by omega) = c at hget
      obtain ⟨g, rfl, c1, c2, c3⟩ := unhide HAT k c hget
      have d1 := hc.cell (p := ⟨g, k * 3, none⟩) (fun f => f) c1
      have d2 := hc.cell (p := ⟨g, k * 3 + 1, none⟩) (fun f => f) c2
      have d3 := hc.cell (p := ⟨g, k * 3 + 2, none⟩) (fun f => f) c3
      have hsu := manyTo_succ hget
      have hl1 := hle (k + 1)
      have hgl := block_lt_of_cell d1
      simp only at hgl
      have HC := hide hc
      clear hc c1 c2 c3 hget
      go_wp2
      go_roundw
      case rel => exact ⟨k + 1, by omega, by go_num, by rw [hsu]; go_num, (unhide HC).alloc _⟩
      case measure => simp [intOf]; omega
    · have hlti : ¬ (k : Int) < n := by omega
      have hke : k = σ.pending.length := by omega
      have hfin : manyTo σ.pending k = σ.waiting := by rw [← hsum, hke]; unfold manyTo; rw [List.take_length]
      go_wp2
      go_ret
      exact ⟨by rw [← hfin, hke]; rfl, (unhide HT).trans hc⟩

theorem Fit.len {σ : Net} {m : Nat} (F : Fit σ m) (x y : Nat) : (σ.q x y).length < 2000 := by
  by_cases h : σ.q x y = []
  · rw [h]; simp
  · have hn := near_lt6 F.good.tree (F.good.nbr x y h)
    have := link_le_weight F.good.linked hn.1 hn.2
    have := F.r.alive.wt
    omega
theorem Fit.waiting {σ : Net} {m : Nat} (F : Fit σ m) : σ.waiting < 1000000 := by
  have := (waiting_le_weight F.good.linked).1
  have := F.r.alive.wt
  omega

set_option maxHeartbeats 400000 in
theorem fullX {w : World} {b : Nat} {ρ : Nat → Option Role} {σ : Net} (h : XN w b ρ σ) {m : Nat} (F : Fit σ m) : Calls Try.prog 39 #[.pointer (some ⟨b, 0, none⟩)] w fun e w' => e = .returned (.bool σ.full) ∧ Calm w w' := by
  have hw := F.waiting
  have HX := hide h
  have HF := hide F
  clear h F
  go_enter Try.func39, Try.ntmps39
  go_wp2_with (go_at_call 69; refine (waitingX (unhide HX) (unhide HF).len hw).mono ?_; rintro e w1 ⟨rfl, ht⟩)
  go_ret
  refine ⟨?_, ht⟩
  have : decide ((100 : Int) ≤ (σ.waiting : Int)) = decide (100 ≤ σ.waiting) := decide_eq_decide.2 (by omega)
  simp only [Net.full, ← this]
  rfl

set_option maxHeartbeats 400000 in
/-- PENDING. -/
theorem pendingX {w : World} {b : Nat} {ρ : Nat → Option Role} {σ : Net} (h : XN w b ρ σ) (hw : ∀ x y, (σ.q x y).length < 2000) :
    Calls Try.prog 18 #[.pointer (some ⟨b, 0, none⟩)] w fun e w' => ∃ v, e = .returned v ∧ LinksAt w' w.heap.size v σ.pending ∧ Calm w w' := by
  have HX := hide h
  clear h
  go_enter Try.func18, Try.ntmps18
  go_wp2_with (go_at_call 52; refine (linksPending_any (unhide HX) hw).mono ?_; rintro e w1 ⟨v, rfl, hv, ht⟩)
  go_ret
  exact ⟨v, rfl, hv, ht⟩

end Go.Proofs.Ytodfcpblcpogiaa

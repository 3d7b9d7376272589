/-
  begin: a net more.
-/
import Derived.Test.YtodfcpblcpogiaaGreatKeepW
import Derived.Laws.CopyOwn
namespace Go.Proofs.YtodfcpblcpogiaaGreat
open Go.RowKit

/-- The list that is handed in, when its owner has written over the first i: n numbers, two behind them. -/
structure OwnAt (w : World) (g n i : Nat) (f : Nat → Int) : Prop where
  cell : ∀ j, j < n + 2 → w.cell? ⟨g, j, none⟩ = some (.int .i64 (if j < i ∨ n ≤ j then -77000000 else f j))
  fr : ∀ j, w.frozen? ⟨g, j, none⟩ = false

theorem OwnAt.lt {w : World} {g n i : Nat} {f : Nat → Int} (h : OwnAt w g n i f) : g < w.heap.size := block_lt_of_cell (h.cell 0 (by omega))

theorem OwnAt.calm {w w' : World} {g n i : Nat} {f : Nat → Int} (h : OwnAt w g n i f) (t : Calm w w') : OwnAt w' g n i f :=
  ⟨fun j hj => t.cell (p := ⟨g, j, none⟩) (fun f => f) (h.cell j hj), fun j => (World.frozen?_of_block (w := w) (a := ⟨g, j, none⟩) (t.block g h.lt (fun f => f))).trans (h.fr j)⟩

theorem OwnAt.set {w : World} {g n i : Nat} {f : Nat → Int} (h : OwnAt w g n i f) (hi : i < n) : OwnAt (w.setCell ⟨g, i, none⟩ (.int .i64 (-77000000))) g n (i + 1) f := by
  refine ⟨fun j hj => ?_, fun j => by rw [World.frozen?_setCell]; exact h.fr j⟩
  by_cases e : j = i
  · subst e
    rw [if_pos (by omega)]
    exact World.cell?_setCell_same w _ _ (h.cell j hj)
  · rw [cell_set_ne w g i j _ _ e (h.cell j hj)]
    by_cases h1 : j < i ∨ n ≤ j
    · rw [if_pos h1, if_pos (by omega)]
    · rw [if_neg h1, if_neg (by omega)]

/-- Behind make, copy and the two stores. -/
theorem own_start (w : World) (g n : Nat) (f : Nat → Int) (cur : List Value) (hc : w.heap[g]? = some (.cells (splice cur 0 ((List.range n).map fun j => Value.int .i64 (f j))).toArray 3 (0, 0))) (hl : cur.length = n + 2) :
    OwnAt ((w.setCell ⟨g, n, none⟩ (.int .i64 (-77000000))).setCell ⟨g, n + 1, none⟩ (.int .i64 (-77000000))) g n 0 f := by
  have hcell : ∀ j, w.cell? ⟨g, j, none⟩ = (splice cur 0 ((List.range n).map fun j => Value.int .i64 (f j)))[j]? := fun j => by rw [cell_of_row w g j _ 3 (0, 0) hc]; simp
  have hlen : (splice cur 0 ((List.range n).map fun j => Value.int .i64 (f j))).length = n + 2 := by rw [length_splice _ _ _ (by simp; omega), hl]
  have hsome : ∀ j, j < n + 2 → ∃ u, w.cell? ⟨g, j, none⟩ = some u := fun j hj => ⟨_, by rw [hcell]; exact List.getElem?_eq_getElem (by omega)⟩
  refine ⟨fun j hj => ?_, fun j => by rw [World.frozen?_setCell, World.frozen?_setCell]; exact box_frozen hc j⟩
  obtain ⟨u, hu⟩ := hsome n (by omega)
  obtain ⟨u', hu'⟩ := hsome (n + 1) (by omega)
  by_cases e1 : j = n + 1
  · subst e1
    rw [if_pos (by omega)]
    exact World.cell?_setCell_same _ _ _ (cell_set_ne w g n (n + 1) _ _ (by omega) hu')
  · by_cases e2 : j = n
    · subst e2
      rw [if_pos (by omega)]
      exact cell_set_ne _ g (j + 1) j _ _ (by omega) (World.cell?_setCell_same w _ _ hu)
    · rw [if_neg (by omega)]
      have hjn : j < n := by omega
      refine cell_set_ne _ g (n + 1) j _ _ e1 (cell_set_ne w g n j _ _ e2 ?_)
      rw [hcell]
      simp only [splice, List.take_zero, List.nil_append]
      rw [List.getElem?_append_left (by simpa using hjn)]
      simp [hjn]

theorem ink_own {role : Role} {w : World} {g n : Nat} {f : Nat → Int} (h : OwnAt w g n n f) (hr : role g = (9, 0)) (hn : n ≤ 17592186044416) : InkOK role w [.slice (some ⟨g, 0, none⟩) (n + 2) (n + 2)] := by
  intro v hv
  have : v = .slice (some ⟨g, 0, none⟩) (n + 2) (n + 2) := by simpa using hv
  subst this
  refine ⟨g, n + 2, n + 2, rfl, hr, by unfold maxLen; omega, fun j hj => ?_⟩
  rw [h.cell j hj, if_pos (by omega)]

/-- Behind the loop: the list is one of those that were handed in. -/
theorem pre_bad {B : Nat} {kp : Nat → Prop} {wk : World} {w0 w wr : World} {bw : Nat} {nets : List Tw} {p q : Nat} (h : St B kp wk w0 bw nets p q w) (hc : Calm w wr) {n : Nat} {f : Nat → Int} (ho : OwnAt wr w.heap.size n n f) (hn : n ≤ 17592186044416) :
    ∃ role ints ls ms vA N vI vL vM, WI B kp wk wr bw role nets ints ls ms vA N vI vL vM ∧ ls.length = ms.length ∧ ls.length ≤ p ∧ ints.length ≤ q ∧ Below B w0 wr ∧ InkOK role wr [.slice (some ⟨w.heap.size, 0, none⟩) (n + 2) (n + 2)] := by
  obtain ⟨role, ints, ls, ms, vA, N, vI, vL, vM, hwi, hll, hlp, hiq, hbl⟩ := h
  exact ⟨_, ints, ls, ms, vA, N, vI, vL, vM, (hwi.calm hc).gives w.heap.size (9, 0) (hwi.fresh _ (Nat.le_refl _)) hwi.lo ho.lt, hll, hlp, hiq, hbl.trans (hc.below hwi.lo (fun _ f => f.elim)), ink_own ho (give_same _ _ _) hn⟩

/-- The same, and there are two nets more. -/
theorem pre_good {B : Nat} {kp : Nat → Prop} {wk : World} {w0 w wr : World} {bw : Nat} {nets : List Tw} {p q : Nat} (h : St B kp wk w0 bw nets p q w) (hc : Calm w wr) {n : Nat} {f : Nat → Int} (ho : OwnAt wr w.heap.size n n f) (hn : n ≤ 17592186044416)
    {gx gr : Nat} (h1 : w.heap.size < gx) (h2 : gx < gr) (h5 : n ≤ 5) (hx : XN wr gx n (fun _ => -1) (fun _ => -1) (fun _ => 0)) (hr : RN wr gr n (fun _ => -1) (fun _ => -1) (fun _ => 0)) :
    ∃ role ints ls ms vA N vI vL vM, WI B kp wk wr bw role nets ints ls ms vA N vI vL vM ∧ ls.length = ms.length ∧ ls.length ≤ p ∧ ints.length ≤ q ∧ Below B w0 wr ∧ InkOK role wr [.slice (some ⟨w.heap.size, 0, none⟩) (n + 2) (n + 2)] ∧ NetOK role wr nets.length ⟨gx, gr, n, fun _ => -1, fun _ => -1, fun _ => 0⟩ := by
  obtain ⟨role, ints, ls, ms, vA, N, vI, vL, vM, hwi, hll, hlp, hiq, hbl⟩ := h
  have w1 := (hwi.calm hc).gives w.heap.size (9, 0) (hwi.fresh _ (Nat.le_refl _)) hwi.lo ho.lt
  have r1 : give role w.heap.size (9, 0) gx = (0, 0) := by rw [give_other _ _ _ _ (by omega)]; exact hwi.fresh _ (by omega)
  have w2 := w1.gives gx (6, nets.length) r1 (by have := hwi.lo; omega) hx.lt
  have r2 : give (give role w.heap.size (9, 0)) gx (6, nets.length) gr = (0, 0) := by rw [give_other _ _ _ _ (by omega), give_other _ _ _ _ (by omega)]; exact hwi.fresh _ (by omega)
  have w3 := w2.gives gr (7, nets.length) r2 (by have := hwi.lo; omega) hr.lt
  refine ⟨_, ints, ls, ms, vA, N, vI, vL, vM, w3, hll, hlp, hiq, hbl.trans (hc.below hwi.lo (fun _ f => f.elim)), ink_own ho ?_ hn, ⟨h5, fun c _ => Or.inl rfl, hx, hr, ?_, give_same _ _ _⟩⟩
  · rw [give_other _ _ _ _ (by omega), give_other _ _ _ _ (by omega)]; exact give_same _ _ _
  · show give (give (give role w.heap.size (9, 0)) gx (6, nets.length)) gr (7, nets.length) gx = (6, nets.length)
    rw [give_other _ _ _ _ (by omega)]; exact give_same _ _ _

/-- An append to a row of the world's own, and the store: what lies below B stays. -/
theorem WI.below {B : Nat} {kp : Nat → Prop} {wk : World} {w w' : World} {bw : Nat} {role : Role} {nets : List Tw} {ints : List Value} {ls : List Value} {ms : List Int} {vA : Value} {N : Int} {vI vL vM : Value} (h : WI B kp wk w bw role nets ints ls ms vA N vI vL vM) {e size n : Nat} {v : Value} {all : List Value} {g cap : Nat} (hg : Grew B e size v n all w g cap w') (o : Nat) (u : Value) : Below B w (w'.setCell ⟨bw, o, none⟩ u) := by
  have tg := touch_grew hg
  exact (tg.1.below h.lo (fun k e => by rw [e]; exact tg.2)).trans ((Touch.set1 w' bw o u).below (Nat.le_trans h.lo tg.1.size) (fun k e => by rw [e]; exact h.base bw (by rw [h.b8.own]; decide)))

/-- The nets are left by an append to the list of those that were handed in. -/
theorem WI.addI_net {B : Nat} {kp : Nat → Prop} {wk : World} {w w' : World} {bw : Nat} {role : Role} {nets : List Tw} {ints : List Value} {ls : List Value} {ms : List Int} {vA : Value} {N : Int} {vI vL vM : Value} (h : WI B kp wk w bw role nets ints ls ms vA N vI vL vM) {n : Nat} {all : List Value} {g cap : Nat} (hg : Grew B 30 1 vI n all w g cap w') (u : Value) {i : Nat} {t : Tw} (ht : NetOK role w i t) : NetOK (give role g (3, 0)) (w'.setCell ⟨bw, 2, none⟩ u) i t := by
  obtain ⟨f, hrow, hfr, hB, hsz⟩ := grew_frame h.fresh h.rI hg (by decide)
  have b1 := h.b8.keep f (by decide)
  exact (ht.keep f (fun e => by cases congrArg Prod.fst e) (fun e => by cases congrArg Prod.fst e)).keep (b1.frame hfr 2 u) (fun e => by cases congrArg Prod.fst e) (fun e => by cases congrArg Prod.fst e)

theorem news1 (w : World) (v : Value) (e : TypeId) : ∀ j u, [v][j]? = some u → (w.alloc (.cells #[v] e)).cell? ((⟨w.heap.size, 0, none⟩ : Addr).add j) = some u :=
  World.news_of_block (w := w.alloc (.cells #[v] e)) (cs := #[v]) (heap_alloc_new w _)
theorem news2 (w : World) (v v' : Value) (e : TypeId) : ∀ j u, [v, v'][j]? = some u → (w.alloc (.cells #[v, v'] e)).cell? ((⟨w.heap.size, 0, none⟩ : Addr).add j) = some u :=
  World.news_of_block (w := w.alloc (.cells #[v, v'] e)) (cs := #[v, v']) (heap_alloc_new w _)
theorem one1 {v : Value} (h : v.oneCell' = true) : ∀ u, u ∈ [v] → u.oneCell' = true := by
  intro u hu
  have : u = v := by simpa using hu
  subst this; exact h
theorem one2 {v v' : Value} (h : v.oneCell' = true) (h' : v'.oneCell' = true) : ∀ u, u ∈ [v, v'] → u.oneCell' = true := by
  intro u hu
  have : u = v ∨ u = v' := by simpa using hu
  rcases this with rfl | rfl
  · exact h
  · exact h'

/-- The nets behind a New. -/
def addNet (nets : List Tw) (f : Nat → Int) (n bx br : Nat) : List Tw := if goodB f n = true then nets ++ [⟨bx, br, n, fun _ => -1, fun _ => -1, fun _ => 0⟩] else nets
theorem addNet_bad {nets : List Tw} {f : Nat → Int} {n : Nat} (bx br : Nat) (h : goodB f n = false) : addNet nets f n bx br = nets := by simp [addNet, h]
theorem addNet_good {nets : List Tw} {f : Nat → Int} {n : Nat} (bx br : Nat) (h : goodB f n = true) : addNet nets f n bx br = nets ++ [⟨bx, br, n, fun _ => -1, fun _ => -1, fun _ => 0⟩] := by simp [addNet, h]

theorem calm_drewN (w : World) (n : Nat) : Calm w (w.drewN n) := ⟨rfl, rfl, rfl, Nat.le_refl _, fun _ _ _ => rfl⟩

set_option maxRecDepth 100000 in
set_option maxHeartbeats 1000000 in
theorem begin_any (B : Nat) (kp : Nat → Prop) (wk w0 w : World) (bw : Nat) (nets : List Tw) (p q : Nat) (h : St B kp wk w0 bw nets p q w) (a : Option Addr) (n cap : Nat) (f : Nat → Int) (hI : IntsAt w a n f) (hn : n ≤ 17592186044416) (hq : (q + 1) * 24 ≤ 140737488355328) (hnets : (nets.length + 1) * 16 ≤ 140737488355328) :
    Calls Tryz.prog 11 #[.pointer (some ⟨bw, 0, none⟩), .slice a n cap] w fun e w' => e = .returned (.bool true) ∧ ∃ bx br, St B kp wk w0 bw (addNet nets f n bx br) p (q + 1) w' := by
  obtain ⟨t3, i3, z3, s3, b3⟩ := elem3
  have hmk : ∀ w, (Instr.makeSlice 30 (.int .i64 ((n : Int) + 2)) (.int .i64 ((n : Int) + 2))).run Tryz.prog w = .ok (.slice (some ⟨w.heap.size, 0, none⟩) (n + 2) (n + 2)) (w.alloc (.cells (madeCells #[.int .i64 0] (n + 2)) 3)) := fun w => by
    have := run_make (P := Tryz.prog) w 30 3 t3 (.int .i64 0) Tryz.underlying30 i3 z3 .i64 .i64 ((n : Int) + 2) ((n : Int) + 2) (by omega) (by omega) (by rw [b3]; omega) (by omega)
    rw [this, s3]
    have e : ((n : Int) + 2).toNat = n + 2 := by omega
    rw [e, Nat.mul_one]
    rfl
  have hone : (Tryz.prog.info? 3).map (·.size) = some 1 := by kernel_rfl
  have HONE := hide hone
  have H := hide h
  have HI := hide hI
  clear h hI i3 z3 s3 b3 hone
  have hpos : 0 < ((List.range n).map fun j => Value.int .i64 (f j)).length → some (⟨w.heap.size, 0, none⟩ : Addr) = some ⟨w.heap.size, 0, none⟩ ∧ ∃ ad, a = some ad ∧ ∀ j v, ((List.range n).map fun j => Value.int .i64 (f j))[j]? = some v → (w.alloc (.cells (madeCells #[.int .i64 0] (n + 2)) 3)).cell? (ad.add j) = some v := by
    intro h0
    refine ⟨rfl, ?_⟩
    rcases unhide HI with h | ⟨b, o, rfl, hc⟩
    · simp at h0; omega
    · refine ⟨⟨b, o, none⟩, rfl, fun j v hj => ?_⟩
      have hjl : j < n := by have := (List.getElem?_eq_some_iff.1 hj).1; simpa using this
      have : v = .int .i64 (f j) := by simp [hjl] at hj; exact hj.symm
      subst this
      rw [Addr.add_mid]
      exact ((Touch.refl (fun _ => False) w).alloc _).cell (p := ⟨b, o + j, none⟩) (fun f => f) (hc j hjl)
  have hrw : (w.alloc (.cells (madeCells #[.int .i64 0] (n + 2)) 3)).heap[w.heap.size]? = some (.cells (madeCells #[.int .i64 0] (n + 2)).toList.toArray 3 (0, 0)) := by simpa using heap_alloc_new w (.cells (madeCells #[.int .i64 0] (n + 2)) 3)
  have hln : ((List.range n).map fun j => Value.int .i64 (f j)).length = Nat.min n (n + 2) := by simp
  have hft : 0 + ((List.range n).map fun j => Value.int .i64 (f j)).length ≤ (madeCells #[Value.int .i64 0] (n + 2)).toList.length := by simp [size_madeCells]
  have hon : ∀ v, v ∈ ((List.range n).map fun j => Value.int .i64 (f j)) → v.oneCell' = true := by intro u hu; simp at hu; obtain ⟨j, _, rfl⟩ := hu; rfl
  have HPOS := hide hpos
  have HRW := hide hrw
  have HLN := hide hln
  have HFT := hide hft
  have HON := hide hon
  have HBE := hide ((Below.refl w.heap.size w).alloc (Nat.le_refl _) (.cells (madeCells #[.int .i64 0] (n + 2)) 3))
  clear hpos hrw hln hft hon
  go_enter Tryz.func11, Tryz.ntmps11
  go_wp2_with (refine wpList_copy_splice rfl _ _ 30 30 rfl 3 Tryz.underlying30 (unhide HONE) (some ⟨w.heap.size, 0, none⟩) a (n + 2) (n + 2) n cap rfl rfl w.heap.size 0 (madeCells #[.int .i64 0] (n + 2)).toList 3 (unhide HRW) ((List.range n).map fun j => Value.int .i64 (f j)) (unhide HLN) (unhide HPOS) (unhide HFT) (unhide HON) w.heap.size w (unhide HBE) (Nat.le_refl _) ?_)
  intro w1 hrow hb1
  have hrow' := unhide hrow
  have hlen : (madeCells #[Value.int .i64 0] (n + 2)).toList.length = n + 2 := by simp [size_madeCells]
  have HOWN := hide (own_start w1 w.heap.size n f _ hrow' hlen)
  have hlsp : (splice (madeCells #[Value.int .i64 0] (n + 2)).toList 0 ((List.range n).map fun j => Value.int .i64 (f j))).length = n + 2 := by rw [length_splice _ _ _ (by simp [size_madeCells]), hlen]
  obtain ⟨u0, hu0⟩ : ∃ u, w1.cell? ⟨w.heap.size, n, none⟩ = some u := ⟨_, by rw [box_cell hrow' n]; exact Array.getElem?_eq_getElem (by simp [hlsp])⟩
  obtain ⟨u1, hu1⟩ : ∃ u, w1.cell? ⟨w.heap.size, n + 1, none⟩ = some u := ⟨_, by rw [box_cell hrow' (n + 1)]; exact Array.getElem?_eq_getElem (by simp [hlsp])⟩
  have hfz := box_frozen hrow'
  have HB1 := hide (Touch.of_below hb1)
  clear hrow hrow' hlen hlsp hb1 hmk HPOS HRW HLN HFT HON HBE HONE
  go_wp2_with fail
  obtain ⟨W, hW⟩ : ∃ W, W = (w1.setCell ⟨w.heap.size, n, none⟩ (.int .i64 (-77000000))).setCell ⟨w.heap.size, n + 1, none⟩ (.int .i64 (-77000000)) := ⟨_, rfl⟩
  rw [← hW] at HOWN ⊢
  have HCW : Hid (Calm w W) := by
    rw [hW]
    exact hide (((unhide HB1).setCell (p := ⟨w.heap.size, n, none⟩) (fun h => absurd h (Nat.lt_irrefl _)) _).setCell (p := ⟨w.heap.size, n + 1, none⟩) (fun h => absurd h (Nat.lt_irrefl _)) _)
  clear hW hu0 hu1 hfz HB1
  refine (newX_any w.heap.size 0 n (n + 2) f W (by unfold maxLen; omega) (fun j hj => by rw [Nat.zero_add, (unhide HOWN).cell j (by omega), if_neg (by omega)])).mono ?_
  rintro e w2 ⟨he, ht2⟩
  have HO2 := hide ((unhide HOWN).calm ht2)
  have HC2 := hide ((unhide HCW).calm ht2)
  have hgo : w.heap.size < W.heap.size := (unhide HOWN).lt
  clear HOWN HCW
  rcases he with ⟨hbad, rfl⟩ | ⟨hgood, gx, hgx, rfl, hXN⟩
  · have HBAD := hide hbad
    clear hbad
    go_wp2_with fail
    refine (newR_any a n cap f _ (by unfold maxLen; omega) ((unhide HI).calm (unhide HC2))).mono ?_
    rintro e w3 ⟨he, ht3⟩
    have HO3 := hide ((unhide HO2).calm ht3)
    have HC3 := hide ((unhide HC2).calm ht3)
    have q0 : w3.cell? ⟨w.heap.size, n, none⟩ = some (.int .i64 (-77000000)) := by rw [(unhide HO3).cell n (by omega), if_pos (by omega)]
    have q1 : w3.cell? ⟨w.heap.size, n + 1, none⟩ = some (.int .i64 (-77000000)) := by rw [(unhide HO3).cell (n + 1) (by omega), if_pos (by omega)]
    have he2 : e = .returned (.tuple #[.pointer none, .int .i64 1]) := by
      rcases he with ⟨_, h⟩ | ⟨hgood, _⟩
      · exact h
      · rw [unhide HBAD] at hgood; cases hgood
    clear he
    subst he2
    clear HO2 HC2 ht3
    go_wp2_with (go_at_call 14; refine (num_any _ _).mono ?_; rintro e w4 ⟨rfl, hw4⟩; have hw5 := hw4.symm; subst hw5)
    go_loopw [11, 12] (fun ok i wr => ∃ k : Nat, k ≤ n ∧ ok = .bool true ∧ i = .int .i64 k ∧ Calm w wr ∧ OwnAt wr w.heap.size n k f ∧ Touch (fun b => b = w.heap.size) w3 wr) (fun _ i _ => n - (intOf i).toNat)
    case atStart => exact ⟨0, by omega, rfl, rfl, unhide HC3, unhide HO3, Touch.refl _ _⟩
    case round =>
      obtain ⟨k, hk, rfl, rfl, hcw, hown, htw⟩ := hrel
      have HCW := hide hcw
      have HOW := hide hown
      have HTW := hide htw
      clear hcw hown htw HC3 HO3
      by_cases hlt : k < n
      · rcases (unhide HI).calm (unhide HCW) with h0 | ⟨b, o, ha, hcells⟩
        · omega
        · subst ha
          have l0 := hcells k hlt
          have o0 : wr.cell? ⟨w.heap.size, k, none⟩ = some (.int .i64 (f k)) := by rw [(unhide HOW).cell k (by omega), if_neg (by omega)]
          have oz := (unhide HOW).fr k
          have hk2 : (k : Int) < n + 2 := by omega
          clear hcells
          go_wp2
          go_quiet (fail)
          go_wp2
          go_roundw
          case rel =>
            exact ⟨k + 1, by omega, by simp, by go_num, (((unhide HCW).trans (calm_drewN _ nq)).setCell (p := ⟨w.heap.size, k, none⟩) (fun h => absurd h (Nat.lt_irrefl _)) _), ((unhide HOW).calm (calm_drewN _ nq)).set hlt, ((unhide HTW).calm (calm_drewN _ nq)).trans (Touch.set1 _ _ _ _)⟩
          case measure => simp [intOf]; omega
      · have hkn : k = n := by omega
        subst hkn
        obtain ⟨role, ints, ls, ms, vA, N, vI, vL, vM, hwi, hll, hlp, hiq, hbl, hink⟩ := pre_bad (unhide H) (unhide HCW) (unhide HOW) hn
        have c2 := hwi.b8.ints
        have hfz := hwi.b8.fr 2
        have hbwl : bw < wr.heap.size := block_lt_of_cell c2
        have hlo := hwi.lo
        have hca : Calm wr (wr.alloc (.cells #[.slice (some ⟨w.heap.size, 0, none⟩) (k + 2) (k + 2)] 30)) := (Touch.refl _ _).alloc _
        have HWA := hide (hwi.calm hca)
        have HINK := hide (hink.keep (Fr.calm hwi.fresh hca (0, 0)) (by decide))
        have HBL := hide (hbl.trans (hca.below hwi.lo (fun _ f => f.elim)))
        have HLL := hide hll
        clear hwi hink hbl hll hca HCW HOW HTW
        obtain ⟨t30, i30, z30, s30, b30⟩ := elem30
        have I30 := hide i30
        have Z30 := hide z30
        have S30 := hide s30
        have B30 := hide b30
        clear i30 z30 s30 b30
        go_wp2_with (at_builtin; refine wpList_append_mine _ rfl _ _ 27 rfl B 30 t30 (.slice none 0 0) 1 24 Tryz.underlying27 (unhide I30) (unhide Z30) (unhide S30) (unhide B30) rfl (by decide) vI ints.length ints rfl (unhide HWA).rI.own ⟨wr.heap.size, 0, none⟩ 1 1 [.slice (some ⟨w.heap.size, 0, none⟩) (k + 2) (k + 2)] rfl rfl (news1 wr _ 30) (one1 rfl) (by decide) ?h63 ?bytes ?base ?_)
        case h63 => unfold maxLen; omega
        case bytes => omega
        case base => first | omega | (simp; omega)
        intro g5 cp5 w5 hg5
        have b5 := (unhide HWA).b8.keep (grew_frame (unhide HWA).fresh (unhide HWA).rI hg5 (by decide)).1 (by decide)
        have d2 := b5.ints
        have dz := b5.fr 2
        have HW5 := hide ((unhide HWA).addI _ hg5 (unhide HINK))
        have HB5 := hide ((unhide HBL).trans ((unhide HWA).below hg5 2 (.slice (some ⟨g5, 0, none⟩) (ints.length + 1) cp5)))
        clear hg5 b5 HWA HINK HBL c2 hfz
        go_wp2
        go_ret
        refine ⟨rfl, 0, 0, ?_⟩
        rw [addNet_bad 0 0 (unhide HBAD)]
        exact ⟨_, _, ls, ms, vA, N, _, vL, vM, unhide HW5, unhide HLL, hlp, by simp; omega, unhide HB5⟩
  · have HGOOD := hide hgood
    have hn5 := (good_ok hgood).1
    have HXN := hide hXN
    clear hgood hXN
    go_wp2_with fail
    refine (newR_any a n cap f _ (by unfold maxLen; omega) ((unhide HI).calm (unhide HC2))).mono ?_
    rintro e w3 ⟨he, ht3⟩
    have HO3 := hide ((unhide HO2).calm ht3)
    have HC3 := hide ((unhide HC2).calm ht3)
    have q0 : w3.cell? ⟨w.heap.size, n, none⟩ = some (.int .i64 (-77000000)) := by rw [(unhide HO3).cell n (by omega), if_pos (by omega)]
    have q1 : w3.cell? ⟨w.heap.size, n + 1, none⟩ = some (.int .i64 (-77000000)) := by rw [(unhide HO3).cell (n + 1) (by omega), if_pos (by omega)]
    obtain ⟨gr, hgr, he2, hRN⟩ : ∃ g, w2.heap.size ≤ g ∧ e = .returned (.tuple #[.pointer (some ⟨g, 0, none⟩), .int .i64 0]) ∧ RN w3 g n (fun _ => -1) (fun _ => -1) (fun _ => 0) := by
      rcases he with ⟨hbad, _⟩ | ⟨_, h⟩
      · rw [unhide HGOOD] at hbad; cases hbad
      · exact h
    have HX3 := hide ((unhide HXN).calm ht3)
    have HR3 := hide hRN
    have hgxl : gx < w2.heap.size := (unhide HXN).lt
    clear he HXN hRN
    subst he2
    clear HO2 HC2 ht3
    go_wp2_with (go_at_call 14; refine (num_any _ _).mono ?_; rintro e w4 ⟨rfl, hw4⟩; have hw5 := hw4.symm; subst hw5)
    go_loopw [11, 12] (fun ok i wr => ∃ k : Nat, k ≤ n ∧ ok = .bool true ∧ i = .int .i64 k ∧ Calm w wr ∧ OwnAt wr w.heap.size n k f ∧ Touch (fun b => b = w.heap.size) w3 wr) (fun _ i _ => n - (intOf i).toNat)
    case atStart => exact ⟨0, by omega, rfl, rfl, unhide HC3, unhide HO3, Touch.refl _ _⟩
    case round =>
      obtain ⟨k, hk, rfl, rfl, hcw, hown, htw⟩ := hrel
      have HCW := hide hcw
      have HOW := hide hown
      have HTW := hide htw
      clear hcw hown htw HC3 HO3
      by_cases hlt : k < n
      · rcases (unhide HI).calm (unhide HCW) with h0 | ⟨b, o, ha, hcells⟩
        · omega
        · subst ha
          have l0 := hcells k hlt
          have o0 : wr.cell? ⟨w.heap.size, k, none⟩ = some (.int .i64 (f k)) := by rw [(unhide HOW).cell k (by omega), if_neg (by omega)]
          have oz := (unhide HOW).fr k
          have hk2 : (k : Int) < n + 2 := by omega
          clear hcells
          go_wp2
          go_quiet (fail)
          go_wp2
          go_roundw
          case rel =>
            exact ⟨k + 1, by omega, by simp, by go_num, (((unhide HCW).trans (calm_drewN _ nq)).setCell (p := ⟨w.heap.size, k, none⟩) (fun h => absurd h (Nat.lt_irrefl _)) _), ((unhide HOW).calm (calm_drewN _ nq)).set hlt, ((unhide HTW).calm (calm_drewN _ nq)).trans (Touch.set1 _ _ _ _)⟩
          case measure => simp [intOf]; omega
      · have hkn : k = n := by omega
        subst hkn
        obtain ⟨role, ints, ls, ms, vA, N, vI, vL, vM, hwi, hll, hlp, hiq, hbl, hink, hnok⟩ := pre_good (unhide H) (unhide HCW) (unhide HOW) hn (gx := gx) (gr := gr) (by omega) (by omega) hn5
          ((unhide HX3).keep (unhide HTW) (by omega) (fun c cp hc e => by
            subst e
            obtain ⟨cs, ty, fz, hcs⟩ := block_of_cell q0
            rw [hcs] at hc; cases hc))
          ((unhide HR3).keep (unhide HTW) (by omega))
        have c2 := hwi.b8.ints
        have hfz := hwi.b8.fr 2
        have hbwl : bw < wr.heap.size := block_lt_of_cell c2
        have hlo := hwi.lo
        have hca : Calm wr (wr.alloc (.cells #[.slice (some ⟨w.heap.size, 0, none⟩) (k + 2) (k + 2)] 30)) := (Touch.refl _ _).alloc _
        have HWA := hide (hwi.calm hca)
        have HINK := hide (hink.keep (Fr.calm hwi.fresh hca (0, 0)) (by decide))
        have HNOK := hide (hnok.keep (Fr.calm hwi.fresh hca (0, 0)) (fun e => by cases congrArg Prod.fst e) (fun e => by cases congrArg Prod.fst e))
        have HBL := hide (hbl.trans (hca.below hwi.lo (fun _ f => f.elim)))
        have HLL := hide hll
        clear hwi hink hnok hbl hll hca HCW HOW HTW HX3 HR3
        obtain ⟨t30, i30, z30, s30, b30⟩ := elem30
        have I30 := hide i30
        have Z30 := hide z30
        have S30 := hide s30
        have B30 := hide b30
        clear i30 z30 s30 b30
        go_wp2_with (at_builtin; refine wpList_append_mine _ rfl _ _ 27 rfl B 30 t30 (.slice none 0 0) 1 24 Tryz.underlying27 (unhide I30) (unhide Z30) (unhide S30) (unhide B30) rfl (by decide) vI ints.length ints rfl (unhide HWA).rI.own ⟨wr.heap.size, 0, none⟩ 1 1 [.slice (some ⟨w.heap.size, 0, none⟩) (k + 2) (k + 2)] rfl rfl (news1 wr _ 30) (one1 rfl) (by decide) ?h63 ?bytes ?base ?_)
        case h63 => unfold maxLen; omega
        case bytes => omega
        case base => first | omega | (simp; omega)
        intro g5 cp5 w5 hg5
        have b5 := (unhide HWA).b8.keep (grew_frame (unhide HWA).fresh (unhide HWA).rI hg5 (by decide)).1 (by decide)
        have d2 := b5.ints
        have dz := b5.fr 2
        have HW5 := hide ((unhide HWA).addI _ hg5 (unhide HINK))
        have HB5 := hide ((unhide HBL).trans ((unhide HWA).below hg5 2 (.slice (some ⟨g5, 0, none⟩) (ints.length + 1) cp5)))
        have HN5 := hide ((unhide HWA).addI_net hg5 (.slice (some ⟨g5, 0, none⟩) (ints.length + 1) cp5) (unhide HNOK))
        have hw5l : wr.heap.size < w5.heap.size := by have := (touch_grew hg5).1.size; simp at this; omega
        clear hg5 b5 HWA HINK HBL c2 hfz HNOK
        obtain ⟨W5, hW5⟩ : ∃ W5, W5 = w5.setCell ⟨bw, 2, none⟩ (.slice (some ⟨g5, 0, none⟩) (ints.length + 1) cp5) := ⟨_, rfl⟩
        have d0 : W5.cell? ⟨bw, 0, none⟩ = some vA := by rw [hW5]; exact (unhide HW5).b8.all
        have dzz : ∀ o, W5.frozen? ⟨bw, o, none⟩ = false := by rw [hW5]; exact (unhide HW5).b8.fr
        have hbw5 : bw < W5.heap.size := block_lt_of_cell d0
        have hlo5 : B ≤ W5.heap.size := by rw [hW5]; exact (unhide HW5).lo
        rw [← hW5] at HW5 HB5 HN5
        have hca5 : Calm W5 (W5.alloc (.cells #[.pointer (some ⟨gx, 0, none⟩), .pointer (some ⟨gr, 0, none⟩)] 45)) := (Touch.refl _ _).alloc _
        have HWA5 := hide ((unhide HW5).calm hca5)
        have HNA5 := hide ((unhide HN5).keep (Fr.calm (unhide HW5).fresh hca5 (0, 0)) (fun e => by cases congrArg Prod.fst e) (fun e => by cases congrArg Prod.fst e))
        have HBA5 := hide ((unhide HB5).trans (hca5.below (unhide HW5).lo (fun _ f => f.elim)))
        clear HW5 HB5 HN5 hca5
        obtain ⟨t45, i45, z45, s45, b45⟩ := elem45
        have I45 := hide i45
        have Z45 := hide z45
        have S45 := hide s45
        have B45 := hide b45
        have HW5E := hide hW5
        clear i45 z45 s45 b45 hW5
        go_upto_region 16 with fail
        rw [← unhide HW5E]
        clear HW5E d2 dz
        go_wp2_with (at_builtin; refine wpList_append_mine _ rfl _ _ 26 rfl B 45 t45 (.agg #[.pointer none, .pointer none]) 2 16 Tryz.underlying26 (unhide I45) (unhide Z45) (unhide S45) (unhide B45) rfl (by decide) vA nets.length (twins nets) rfl (unhide HWA5).rA.own ⟨W5.heap.size, 0, none⟩ 1 1 [.pointer (some ⟨gx, 0, none⟩), .pointer (some ⟨gr, 0, none⟩)] rfl rfl (news2 W5 _ _ 45) (one2 rfl rfl) (by decide) ?h632 ?bytes2 ?base2 ?_)
        case h632 => unfold maxLen; omega
        case bytes2 => omega
        case base2 => first | omega | (simp; omega)
        intro g6 cp6 w6 hg6
        have b6 := (unhide HWA5).b8.keep (grew_frame (unhide HWA5).fresh (unhide HWA5).rA hg6 (by decide)).1 (by decide)
        have d6 := b6.all
        have d6z := b6.fr 0
        have HW6 := hide ((unhide HWA5).addA ⟨gx, gr, k, fun _ => -1, fun _ => -1, fun _ => 0⟩ hg6 (unhide HNA5))
        have HB6 := hide ((unhide HBA5).trans ((unhide HWA5).below hg6 0 (.slice (some ⟨g6, 0, none⟩) (nets.length + 1) cp6)))
        clear hg6 b6 HWA5 HNA5 HBA5 d0 dzz
        go_wp2
        go_ret
        refine ⟨rfl, gx, gr, ?_⟩
        rw [addNet_good gx gr (unhide HGOOD)]
        exact ⟨_, _, ls, ms, _, N, _, vL, vM, unhide HW6, unhide HLL, hlp, by simp; omega, unhide HB6⟩

end Go.Proofs.YtodfcpblcpogiaaGreat

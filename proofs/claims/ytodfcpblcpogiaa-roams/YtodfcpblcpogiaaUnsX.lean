/-
  UNSUBSCRIBE: whatever is asked.
-/
import Derived.Test.YtodfcpblcpogiaaFnew
import Derived.Test.YtodfcpblcpogiaaSlot
namespace Go.Proofs.Ytodfcpblcpogiaa
open Go.RowKit

set_option maxRecDepth 100000 in
set_option maxHeartbeats 1000000 in
theorem take_any (b o : Nat) (age A : Int) (l : List Tst) (w : World) (hA : wrap64 (age + 1) = A) (hex : ∀ j, j < 13 → ∃ u, w.cell? ⟨b, o + 0 + j, none⟩ = some u) (h1 : w.cell? ⟨b, o + 1, none⟩ = some (int age)) (hfr : ∀ o, w.frozen? ⟨b, o, none⟩ = false) :
    Calls Try.prog 78 #[.pointer (some ⟨b, o, none⟩), filV l] w fun e w' => e = .returned (.tuple #[]) ∧ ∃ W, Calm w W ∧ w' = ((setFrom W b o 0 (slotCells true A (encFil l) (.map (some W.heap.size)))).alloc (.map #[] 0)).drew := by
  subst hA
  have hmm := @run_makeMap Try.prog
  have hb := block_lt_of_cell h1
  simp only at hb
  obtain ⟨u0, g0⟩ := hex 0 (by omega)
  obtain ⟨u2, g2⟩ := hex 2 (by omega)
  obtain ⟨u3, g3⟩ := hex 3 (by omega)
  obtain ⟨u4, g4⟩ := hex 4 (by omega)
  obtain ⟨u5, g5⟩ := hex 5 (by omega)
  obtain ⟨u6, g6⟩ := hex 6 (by omega)
  obtain ⟨u7, g7⟩ := hex 7 (by omega)
  obtain ⟨u8, g8⟩ := hex 8 (by omega)
  obtain ⟨u9, g9⟩ := hex 9 (by omega)
  obtain ⟨u10, g10⟩ := hex 10 (by omega)
  obtain ⟨u11, g11⟩ := hex 11 (by omega)
  obtain ⟨u12, g12⟩ := hex 12 (by omega)
  simp only [Nat.add_zero] at g0 g2 g3 g4 g5 g6 g7 g8 g9 g10 g11 g12
  clear hex
  go_enter Try.func78, Try.ntmps78
  go_wp2
  obtain ⟨W, hW⟩ : ∃ W, w.alloc (.cells #[int (tstAt l 0).fld, int (tstAt l 0).op, int (tstAt l 0).n, int (tstAt l 1).fld, int (tstAt l 1).op, int (tstAt l 1).n, int (tstAt l 2).fld, int (tstAt l 2).op, int (tstAt l 2).n, int l.length] 102) = W := ⟨_, rfl⟩
  rw [hW]
  have hcal : Calm w W := by rw [← hW]; exact (Touch.refl _ _).alloc _
  have hbx : W.heap[w.heap.size]? = some (.cells #[int (tstAt l 0).fld, int (tstAt l 0).op, int (tstAt l 0).n, int (tstAt l 1).fld, int (tstAt l 1).op, int (tstAt l 1).n, int (tstAt l 2).fld, int (tstAt l 2).op, int (tstAt l 2).n, int l.length] 102) := by rw [← hW]; exact heap_alloc_new w _
  have hWs : w.heap.size < W.heap.size := (Array.getElem?_eq_some_iff.1 hbx).1
  have hbW : b < W.heap.size := by omega
  have hfz : ∀ o', W.frozen? ⟨b, o', none⟩ = false := fun o' => (World.frozen?_of_block (w := w) (a := ⟨b, o', none⟩) (hcal.block b hb (fun f => f))).trans (hfr o')
  have s0 : W.cell? ⟨w.heap.size, 0, none⟩ = some (int (tstAt l 0).fld) := box_cell hbx 0
  have s1 : W.cell? ⟨w.heap.size, 1, none⟩ = some (int (tstAt l 0).op) := box_cell hbx 1
  have s2 : W.cell? ⟨w.heap.size, 2, none⟩ = some (int (tstAt l 0).n) := box_cell hbx 2
  have s3 : W.cell? ⟨w.heap.size, 3, none⟩ = some (int (tstAt l 1).fld) := box_cell hbx 3
  have s4 : W.cell? ⟨w.heap.size, 4, none⟩ = some (int (tstAt l 1).op) := box_cell hbx 4
  have s5 : W.cell? ⟨w.heap.size, 5, none⟩ = some (int (tstAt l 1).n) := box_cell hbx 5
  have s6 : W.cell? ⟨w.heap.size, 6, none⟩ = some (int (tstAt l 2).fld) := box_cell hbx 6
  have s7 : W.cell? ⟨w.heap.size, 7, none⟩ = some (int (tstAt l 2).op) := box_cell hbx 7
  have s8 : W.cell? ⟨w.heap.size, 8, none⟩ = some (int (tstAt l 2).n) := box_cell hbx 8
  have s9 : W.cell? ⟨w.heap.size, 9, none⟩ = some (int l.length) := box_cell hbx 9
  have e0 := hcal.cell (p := ⟨b, o, none⟩) (fun f => f) g0
  have e2 := hcal.cell (p := ⟨b, o + 2, none⟩) (fun f => f) g2
  have e3 := hcal.cell (p := ⟨b, o + 3, none⟩) (fun f => f) g3
  have e4 := hcal.cell (p := ⟨b, o + 4, none⟩) (fun f => f) g4
  have e5 := hcal.cell (p := ⟨b, o + 5, none⟩) (fun f => f) g5
  have e6 := hcal.cell (p := ⟨b, o + 6, none⟩) (fun f => f) g6
  have e7 := hcal.cell (p := ⟨b, o + 7, none⟩) (fun f => f) g7
  have e8 := hcal.cell (p := ⟨b, o + 8, none⟩) (fun f => f) g8
  have e9 := hcal.cell (p := ⟨b, o + 9, none⟩) (fun f => f) g9
  have e10 := hcal.cell (p := ⟨b, o + 10, none⟩) (fun f => f) g10
  have e11 := hcal.cell (p := ⟨b, o + 11, none⟩) (fun f => f) g11
  have e12 := hcal.cell (p := ⟨b, o + 12, none⟩) (fun f => f) g12
  have e1 := hcal.cell (p := ⟨b, o + 1, none⟩) (fun f => f) h1
  have HC := hide hcal
  clear hW hcal hbx g0 g2 g3 g4 g5 g6 g7 g8 g9 g10 g11 g12 h1 hfr
  go_region
  all_goals go_end0
  all_goals exact ⟨rfl, W, unhide HC, rfl⟩

/-- A client with one subscription more. -/
def Cli.subs (x : Cli) (k : Nat) (l : List Tst) : Cli := { x with used := put x.used k true, age := put x.age k (x.age k + 1), fl := put x.fl k l, told := put x.told k [] }
theorem int_of_encFil (l : List Tst) : ∀ v, v ∈ encFil l → ∃ z, v = int z := by
  intro v hv
  simp only [encFil, Tst.enc, List.cons_append, List.nil_append, List.mem_cons, List.not_mem_nil, or_false] at hv
  rcases hv with rfl | rfl | rfl | rfl | rfl | rfl | rfl | rfl | rfl | rfl <;> exact ⟨_, rfl⟩

theorem XN.subs {w W w' : World} {b : Nat} {ρ : Nat → Option Role} {σ : Net} (h : XN w b ρ σ) {c k : Nat} (hc : c < 4) (hk : k < 2) (l : List Tst) (t : Calm w W) (hw : w' = ((setFrom W b (86 + c * 31 + 4 + k * 13) 0 (slotCells true ((σ.cl c).age k + 1) (encFil l) (.map (some W.heap.size)))).alloc (.map #[] 0)).drew) :
    XN w' b (roleAt ρ W.heap.size (.map c k)) (σ.setCl c ((σ.cl c).subs k l)) ∧ Mv (fun r => r = .net) ρ (roleAt ρ W.heap.size (.map c k)) w w' := by
  have hX := h.calm t
  obtain ⟨V, hV⟩ : ∃ V, V = setFrom W b (86 + c * 31 + 4 + k * 13) 0 (slotCells true ((σ.cl c).age k + 1) (encFil l) (.map (some W.heap.size))) := ⟨_, rfl⟩
  have hs : V.heap.size = W.heap.size := by rw [hV]; exact setFrom_size _ _ _ _ _
  rw [← hV] at hw
  have hcV : Calm V w' := by rw [hw]; exact ((Touch.refl _ _).alloc _).drew
  have hws : w'.heap.size = W.heap.size + 1 := by rw [hw]; show (V.alloc _).heap.size = _; rw [World.size_alloc, hs]
  have hmap : w'.ownsMap (H := Nat) Try.prog 176 (plainElem Try.prog 3) W.heap.size 0 (.map []) := by
    have := World.ownsMap_made (H := Nat) V Try.prog 176 (plainElem Try.prog 3)
    rw [hs] at this
    rw [hw]; exact this
  have hu : ((σ.cl c).subs k l).used k = true := by simp [Cli.subs]
  have ha : ((σ.cl c).subs k l).age k = (σ.cl c).age k + 1 := by simp [Cli.subs]
  have hf : ((σ.cl c).subs k l).fl k = l := by simp [Cli.subs]
  have ht : ((σ.cl c).subs k l).told k = [] := by simp [Cli.subs]
  obtain ⟨r1, r2⟩ := hX.slotSet (W := w') (ρ' := roleAt ρ W.heap.size (.map c k)) hc hk (x := (σ.cl c).subs k l) (fil := encFil l) (hd := .map (some W.heap.size)) (by simp [encFil, Tst.enc]) (by rw [hu, ha, ← hV]; exact hcV)
    (fun i hi => by unfold roleAt; rw [if_neg (by omega)]) (fun i hi => by
      unfold roleAt at hi
      split at hi
      · omega
      · have := hX.lt i hi; omega) rfl rfl rfl rfl rfl (fun j hj => by simp [Cli.subs, put_other _ _ hj]) (int_of_encFil l) (fun _ => by rw [hf]) (by
      rw [hu, ht]
      unfold HeardAt
      rw [if_pos rfl]
      exact ⟨W.heap.size, 0, _, rfl, by simp [roleAt], hmap, Nat.le_refl _, fun p st kl _ => rfl⟩)
  exact ⟨r1, (Mv.calm h.lt t).trans r2⟩

set_option maxRecDepth 100000 in
set_option maxHeartbeats 1000000 in
theorem clientSub_any {w : World} {b : Nat} {ρ : Nat → Option Role} {σ : Net} (h : XN w b ρ σ) {c k : Nat} (hc : c < 4) (hk : k < 2) (l : List Tst) (hage : -1 ≤ (σ.cl c).age k ∧ (σ.cl c).age k < 2199023255552) :
    Calls Try.prog 47 #[.pointer (some ⟨b, 86 + c * 31, none⟩), int k, filV l] w fun e w' => e = .returned (int ((σ.cl c).age k + 1)) ∧ ∃ ρ', XN w' b ρ' (σ.setCl c ((σ.cl c).subs k l)) ∧ Mv (fun r => r = .net) ρ ρ' w w' := by
  have C := h.cli c hc
  have u1 := C.age k hk
  have hki : (k : Int) < 2 := by omega
  have hwr : wrap64 ((σ.cl c).age k + 1) = (σ.cl c).age k + 1 := wrap_small (by omega) (by omega)
  have hbl := h.lt b (by rw [h.net]; simp)
  have HX := hide h
  clear C h
  go_enter Try.func47, Try.ntmps47
  go_wp2
  obtain ⟨W0, hW0⟩ : ∃ W0, w.alloc (.cells #[int (tstAt l 0).fld, int (tstAt l 0).op, int (tstAt l 0).n, int (tstAt l 1).fld, int (tstAt l 1).op, int (tstAt l 1).n, int (tstAt l 2).fld, int (tstAt l 2).op, int (tstAt l 2).n, int l.length] 102) = W0 := ⟨_, rfl⟩
  rw [hW0]
  have hcal : Calm w W0.drew := by rw [← hW0]; exact ((Touch.refl _ _).alloc _).drew
  have hbx : W0.heap[w.heap.size]? = some (.cells #[int (tstAt l 0).fld, int (tstAt l 0).op, int (tstAt l 0).n, int (tstAt l 1).fld, int (tstAt l 1).op, int (tstAt l 1).n, int (tstAt l 2).fld, int (tstAt l 2).op, int (tstAt l 2).n, int l.length] 102) := by rw [← hW0]; exact heap_alloc_new w _
  have s0 : W0.cell? ⟨w.heap.size, 0, none⟩ = some (int (tstAt l 0).fld) := box_cell hbx 0
  have s1 : W0.cell? ⟨w.heap.size, 1, none⟩ = some (int (tstAt l 0).op) := box_cell hbx 1
  have s2 : W0.cell? ⟨w.heap.size, 2, none⟩ = some (int (tstAt l 0).n) := box_cell hbx 2
  have s3 : W0.cell? ⟨w.heap.size, 3, none⟩ = some (int (tstAt l 1).fld) := box_cell hbx 3
  have s4 : W0.cell? ⟨w.heap.size, 4, none⟩ = some (int (tstAt l 1).op) := box_cell hbx 4
  have s5 : W0.cell? ⟨w.heap.size, 5, none⟩ = some (int (tstAt l 1).n) := box_cell hbx 5
  have s6 : W0.cell? ⟨w.heap.size, 6, none⟩ = some (int (tstAt l 2).fld) := box_cell hbx 6
  have s7 : W0.cell? ⟨w.heap.size, 7, none⟩ = some (int (tstAt l 2).op) := box_cell hbx 7
  have s8 : W0.cell? ⟨w.heap.size, 8, none⟩ = some (int (tstAt l 2).n) := box_cell hbx 8
  have s9 : W0.cell? ⟨w.heap.size, 9, none⟩ = some (int l.length) := box_cell hbx 9
  have HX0 := hide ((unhide HX).calm hcal)
  have HM0 : Hid (Mv (fun r => r = .net) ρ ρ w W0.drew) := Mv.calm (unhide HX).lt hcal
  clear hW0 hbx hcal u1
  go_region_with (go_at_call 78; refine (take_any b (86 + c * 31 + 4 + k * 13) ((σ.cl c).age k) ((σ.cl c).age k + 1) l W0.drew hwr (((unhide HX0).cli c hc).slotEx hk) (((unhide HX0).cli c hc).age k hk) (unhide HX0).fr).mono ?_; rintro e w1 ⟨rfl, W1, ht1, hw1⟩
                  obtain ⟨r1, r2⟩ := (unhide HX0).subs hc hk l ht1 hw1
                  have q1 := (r1.cli c hc).age k hk
                  rw [show (σ.setCl c ((σ.cl c).subs k l)).cl c = (σ.cl c).subs k l by simp [Net.setCl], show ((σ.cl c).subs k l).age k = (σ.cl c).age k + 1 by simp [Cli.subs]] at q1
                  have R1 := hide r1
                  have R2 := hide ((unhide HM0).trans r2)
                  clear r1 r2 hw1 ht1)
  all_goals go_wp2
  all_goals go_ret
  all_goals exact ⟨rfl, _, unhide R1, unhide R2⟩

theorem Mv.after {S : Role → Prop} {ρ ρ' : Nat → Option Role} {w w' w'' : World} {g : Nat} (m : Mv S ρ ρ' w w') (t : Touch (fun i => i = g) w' w'') (hg : w.heap.size ≤ g) : Mv S ρ ρ' w w'' :=
  ⟨⟨t.os.trans m.touch.os, t.tape.trans m.touch.tape, t.output.trans m.touch.output, Nat.le_trans m.touch.size t.size, fun i hi hs => (t.block i (Nat.lt_of_lt_of_le hi m.touch.size) (by omega)).trans (m.touch.block i hi hs)⟩, m.role, fun i hi => Nat.lt_of_lt_of_le (m.lt i hi) t.size⟩

/-- Thirteen stores. -/
theorem set13 (w : World) (g : Nat) (v0 v1 v2 v3 v4 v5 v6 v7 v8 v9 v10 v11 v12 : Value) (h : w.heap[g]? = some (.cells #[int 0, int 0, int 0, int 0, int 0, int 0, int 0, int 0, int 0, int 0, int 0, int 0, int 0] 121)) : (((((((((((((w.setCell ⟨g, 0, none⟩ v0).setCell ⟨g, 1, none⟩ v1).setCell ⟨g, 2, none⟩ v2).setCell ⟨g, 3, none⟩ v3).setCell ⟨g, 4, none⟩ v4).setCell ⟨g, 5, none⟩ v5).setCell ⟨g, 6, none⟩ v6).setCell ⟨g, 7, none⟩ v7).setCell ⟨g, 8, none⟩ v8).setCell ⟨g, 9, none⟩ v9).setCell ⟨g, 10, none⟩ v10).setCell ⟨g, 11, none⟩ v11).setCell ⟨g, 12, none⟩ v12).heap[g]? = some (.cells #[v0, v1, v2, v3, v4, v5, v6, v7, v8, v9, v10, v11, v12] 121) ∧ Touch (fun i => i = g) w (((((((((((((w.setCell ⟨g, 0, none⟩ v0).setCell ⟨g, 1, none⟩ v1).setCell ⟨g, 2, none⟩ v2).setCell ⟨g, 3, none⟩ v3).setCell ⟨g, 4, none⟩ v4).setCell ⟨g, 5, none⟩ v5).setCell ⟨g, 6, none⟩ v6).setCell ⟨g, 7, none⟩ v7).setCell ⟨g, 8, none⟩ v8).setCell ⟨g, 9, none⟩ v9).setCell ⟨g, 10, none⟩ v10).setCell ⟨g, 11, none⟩ v11).setCell ⟨g, 12, none⟩ v12) := by
  refine ⟨?_, ((((((((((((((Touch.refl (fun i => i = g) w).setCell (p := ⟨g, 0, none⟩) (fun _ => rfl) v0).setCell (p := ⟨g, 1, none⟩) (fun _ => rfl) v1).setCell (p := ⟨g, 2, none⟩) (fun _ => rfl) v2).setCell (p := ⟨g, 3, none⟩) (fun _ => rfl) v3).setCell (p := ⟨g, 4, none⟩) (fun _ => rfl) v4).setCell (p := ⟨g, 5, none⟩) (fun _ => rfl) v5).setCell (p := ⟨g, 6, none⟩) (fun _ => rfl) v6).setCell (p := ⟨g, 7, none⟩) (fun _ => rfl) v7).setCell (p := ⟨g, 8, none⟩) (fun _ => rfl) v8).setCell (p := ⟨g, 9, none⟩) (fun _ => rfl) v9).setCell (p := ⟨g, 10, none⟩) (fun _ => rfl) v10).setCell (p := ⟨g, 11, none⟩) (fun _ => rfl) v11).setCell (p := ⟨g, 12, none⟩) (fun _ => rfl) v12)⟩
  have h1 : (w.setCell ⟨g, 0, none⟩ v0).heap[g]? = some (.cells #[v0, int 0, int 0, int 0, int 0, int 0, int 0, int 0, int 0, int 0, int 0, int 0, int 0] 121) := by rw [heap_setCell_same _ g 0 _ 121 v0 h]; rfl
  have h2 : ((w.setCell ⟨g, 0, none⟩ v0).setCell ⟨g, 1, none⟩ v1).heap[g]? = some (.cells #[v0, v1, int 0, int 0, int 0, int 0, int 0, int 0, int 0, int 0, int 0, int 0, int 0] 121) := by rw [heap_setCell_same _ g 1 _ 121 v1 h1]; rfl
  have h3 : (((w.setCell ⟨g, 0, none⟩ v0).setCell ⟨g, 1, none⟩ v1).setCell ⟨g, 2, none⟩ v2).heap[g]? = some (.cells #[v0, v1, v2, int 0, int 0, int 0, int 0, int 0, int 0, int 0, int 0, int 0, int 0] 121) := by rw [heap_setCell_same _ g 2 _ 121 v2 h2]; rfl
  have h4 : ((((w.setCell ⟨g, 0, none⟩ v0).setCell ⟨g, 1, none⟩ v1).setCell ⟨g, 2, none⟩ v2).setCell ⟨g, 3, none⟩ v3).heap[g]? = some (.cells #[v0, v1, v2, v3, int 0, int 0, int 0, int 0, int 0, int 0, int 0, int 0, int 0] 121) := by rw [heap_setCell_same _ g 3 _ 121 v3 h3]; rfl
  have h5 : (((((w.setCell ⟨g, 0, none⟩ v0).setCell ⟨g, 1, none⟩ v1).setCell ⟨g, 2, none⟩ v2).setCell ⟨g, 3, none⟩ v3).setCell ⟨g, 4, none⟩ v4).heap[g]? = some (.cells #[v0, v1, v2, v3, v4, int 0, int 0, int 0, int 0, int 0, int 0, int 0, int 0] 121) := by rw [heap_setCell_same _ g 4 _ 121 v4 h4]; rfl
  have h6 : ((((((w.setCell ⟨g, 0, none⟩ v0).setCell ⟨g, 1, none⟩ v1).setCell ⟨g, 2, none⟩ v2).setCell ⟨g, 3, none⟩ v3).setCell ⟨g, 4, none⟩ v4).setCell ⟨g, 5, none⟩ v5).heap[g]? = some (.cells #[v0, v1, v2, v3, v4, v5, int 0, int 0, int 0, int 0, int 0, int 0, int 0] 121) := by rw [heap_setCell_same _ g 5 _ 121 v5 h5]; rfl
  have h7 : (((((((w.setCell ⟨g, 0, none⟩ v0).setCell ⟨g, 1, none⟩ v1).setCell ⟨g, 2, none⟩ v2).setCell ⟨g, 3, none⟩ v3).setCell ⟨g, 4, none⟩ v4).setCell ⟨g, 5, none⟩ v5).setCell ⟨g, 6, none⟩ v6).heap[g]? = some (.cells #[v0, v1, v2, v3, v4, v5, v6, int 0, int 0, int 0, int 0, int 0, int 0] 121) := by rw [heap_setCell_same _ g 6 _ 121 v6 h6]; rfl
  have h8 : ((((((((w.setCell ⟨g, 0, none⟩ v0).setCell ⟨g, 1, none⟩ v1).setCell ⟨g, 2, none⟩ v2).setCell ⟨g, 3, none⟩ v3).setCell ⟨g, 4, none⟩ v4).setCell ⟨g, 5, none⟩ v5).setCell ⟨g, 6, none⟩ v6).setCell ⟨g, 7, none⟩ v7).heap[g]? = some (.cells #[v0, v1, v2, v3, v4, v5, v6, v7, int 0, int 0, int 0, int 0, int 0] 121) := by rw [heap_setCell_same _ g 7 _ 121 v7 h7]; rfl
  have h9 : (((((((((w.setCell ⟨g, 0, none⟩ v0).setCell ⟨g, 1, none⟩ v1).setCell ⟨g, 2, none⟩ v2).setCell ⟨g, 3, none⟩ v3).setCell ⟨g, 4, none⟩ v4).setCell ⟨g, 5, none⟩ v5).setCell ⟨g, 6, none⟩ v6).setCell ⟨g, 7, none⟩ v7).setCell ⟨g, 8, none⟩ v8).heap[g]? = some (.cells #[v0, v1, v2, v3, v4, v5, v6, v7, v8, int 0, int 0, int 0, int 0] 121) := by rw [heap_setCell_same _ g 8 _ 121 v8 h8]; rfl
  have h10 : ((((((((((w.setCell ⟨g, 0, none⟩ v0).setCell ⟨g, 1, none⟩ v1).setCell ⟨g, 2, none⟩ v2).setCell ⟨g, 3, none⟩ v3).setCell ⟨g, 4, none⟩ v4).setCell ⟨g, 5, none⟩ v5).setCell ⟨g, 6, none⟩ v6).setCell ⟨g, 7, none⟩ v7).setCell ⟨g, 8, none⟩ v8).setCell ⟨g, 9, none⟩ v9).heap[g]? = some (.cells #[v0, v1, v2, v3, v4, v5, v6, v7, v8, v9, int 0, int 0, int 0] 121) := by rw [heap_setCell_same _ g 9 _ 121 v9 h9]; rfl
  have h11 : (((((((((((w.setCell ⟨g, 0, none⟩ v0).setCell ⟨g, 1, none⟩ v1).setCell ⟨g, 2, none⟩ v2).setCell ⟨g, 3, none⟩ v3).setCell ⟨g, 4, none⟩ v4).setCell ⟨g, 5, none⟩ v5).setCell ⟨g, 6, none⟩ v6).setCell ⟨g, 7, none⟩ v7).setCell ⟨g, 8, none⟩ v8).setCell ⟨g, 9, none⟩ v9).setCell ⟨g, 10, none⟩ v10).heap[g]? = some (.cells #[v0, v1, v2, v3, v4, v5, v6, v7, v8, v9, v10, int 0, int 0] 121) := by rw [heap_setCell_same _ g 10 _ 121 v10 h10]; rfl
  have h12 : ((((((((((((w.setCell ⟨g, 0, none⟩ v0).setCell ⟨g, 1, none⟩ v1).setCell ⟨g, 2, none⟩ v2).setCell ⟨g, 3, none⟩ v3).setCell ⟨g, 4, none⟩ v4).setCell ⟨g, 5, none⟩ v5).setCell ⟨g, 6, none⟩ v6).setCell ⟨g, 7, none⟩ v7).setCell ⟨g, 8, none⟩ v8).setCell ⟨g, 9, none⟩ v9).setCell ⟨g, 10, none⟩ v10).setCell ⟨g, 11, none⟩ v11).heap[g]? = some (.cells #[v0, v1, v2, v3, v4, v5, v6, v7, v8, v9, v10, v11, int 0] 121) := by rw [heap_setCell_same _ g 11 _ 121 v11 h11]; rfl
  have h13 : (((((((((((((w.setCell ⟨g, 0, none⟩ v0).setCell ⟨g, 1, none⟩ v1).setCell ⟨g, 2, none⟩ v2).setCell ⟨g, 3, none⟩ v3).setCell ⟨g, 4, none⟩ v4).setCell ⟨g, 5, none⟩ v5).setCell ⟨g, 6, none⟩ v6).setCell ⟨g, 7, none⟩ v7).setCell ⟨g, 8, none⟩ v8).setCell ⟨g, 9, none⟩ v9).setCell ⟨g, 10, none⟩ v10).setCell ⟨g, 11, none⟩ v11).setCell ⟨g, 12, none⟩ v12).heap[g]? = some (.cells #[v0, v1, v2, v3, v4, v5, v6, v7, v8, v9, v10, v11, v12] 121) := by rw [heap_setCell_same _ g 12 _ 121 v12 h12]; rfl
  exact h13

theorem filtersNew_exp (a : Option Addr) (cap : Nat) (l : List Tst) (w : World) (hl : goodFilter l = true) (ht : TestsAt w a l) :
    Calls Try.prog 44 #[.slice a l.length cap] w fun e w' => e = .returned (.tuple #[.agg #[int (tstAt l 0).fld, int (tstAt l 0).op, int (tstAt l 0).n, int (tstAt l 1).fld, int (tstAt l 1).op, int (tstAt l 1).n, int (tstAt l 2).fld, int (tstAt l 2).op, int (tstAt l 2).n, int l.length], .bool true]) ∧ Calm w w' := filtersNew_any a cap l w hl ht

set_option maxHeartbeats 400000 in
theorem free_one (b o : Nat) (w : World) (h : w.cell? ⟨b, o + 4, none⟩ = some (.bool true)) (h1 : w.cell? ⟨b, o + 4 + 13, none⟩ = some (.bool false)) : Calls Try.prog 45 #[.pointer (some ⟨b, o, none⟩)] w fun e w' => e = .returned (.tuple #[int 1, .bool true]) ∧ w' = w := by
  go_enter Try.func45, Try.ntmps45
  go_wp2
  refine wp_loop_rounds 2 ?_; rw [rounds_succ]
  go_wp2
  rw [rounds_succ]
  go_wp2
  go_ret2
  exact ⟨rfl, rfl⟩

set_option maxHeartbeats 400000 in
theorem free_none (b o : Nat) (w : World) (h : w.cell? ⟨b, o + 4, none⟩ = some (.bool true)) (h1 : w.cell? ⟨b, o + 4 + 13, none⟩ = some (.bool true)) : Calls Try.prog 45 #[.pointer (some ⟨b, o, none⟩)] w fun e w' => e = .returned (.tuple #[int 0, .bool false]) ∧ w' = w := by
  go_enter Try.func45, Try.ntmps45
  go_wp2
  refine wp_loop_rounds 3 ?_; rw [rounds_succ]
  go_wp2
  rw [rounds_succ]
  go_wp2
  rw [rounds_succ]
  go_wp2
  go_ret2
  exact ⟨rfl, rfl⟩

/-- The least slot that is free. -/
theorem free_slot {w : World} {b : Nat} {ρ : Nat → Option Role} {σ : Net} (h : XN w b ρ σ) {c : Nat} (hc : c < 4) (hu : (σ.cl c).used (σ.slot c) = false) : Calls Try.prog 45 #[.pointer (some ⟨b, 86 + c * 31, none⟩)] w fun e w' => e = .returned (.tuple #[int (σ.slot c : Nat), .bool true]) ∧ w' = w := by
  have C := h.cli c hc
  have u0 := C.used 0 (by omega)
  have u1 := C.used 1 (by omega)
  unfold Net.slot at hu ⊢
  cases h0 : (σ.cl c).used 0 with
  | false =>
    rw [h0] at u0
    simp only [Bool.false_eq_true, if_false]
    exact free_zero b (86 + c * 31) w u0
  | true =>
    rw [h0] at u0
    simp only [h0, if_true] at hu ⊢
    rw [hu] at u1
    exact free_one b (86 + c * 31) w u0 u1

set_option maxRecDepth 100000 in
set_option maxHeartbeats 2000000 in
/-- SUBSCRIBE, taken in. -/
theorem subscribe_ok {w : World} {b : Nat} {ρ : Nat → Option Role} {σ : Net} (h : XN w b ρ σ) {m : Nat} (F : Fit σ m) (hm : m < 2000000000000) {c x k : Nat} (hc : c < 4) (hh : (σ.cl c).here = some x) (hk0 : σ.slot c = k) (hu : (σ.cl c).used k = false) (hwt : σ.waits c = false)
    (hful : σ.full = false) {l : List Tst} (hl : goodFilter l = true) {a : Option Addr} (ht : TestsAt w a l) (cap : Nat) :
    Calls Try.prog 15 #[.pointer (some ⟨b, 0, none⟩), int c, .slice a l.length cap] w fun e w' => e = .returned (.tuple #[int k, int 0]) ∧ ∃ ρ', XN w' b ρ' ((σ.setCl c ((σ.cl c).subs k l)).handle x none (.sub (2 * c + k) ((σ.cl c).age k + 1) l)) ∧ Mv allR ρ ρ' w w' := by
  have T := F.good.tree
  have hx : x < σ.n := (F.good.clis c hc).here x hh
  have hx6 : x < 6 := Nat.lt_of_lt_of_le hx (size_le T)
  have hk : k < 2 := by rw [← hk0]; unfold Net.slot; split <;> omega
  have hki : (k : Int) < 2 := by omega
  have hage : -1 ≤ (σ.cl c).age k ∧ (σ.cl c).age k < 2199023255552 := by have := (F.r.nums.cl c).age k; omega
  have hwt2 : waitsAt σ c = false := by rw [F.live.waits_eq hc]; exact hwt
  have hcc : isCli (c : Int) = true := isCli_nat hc
  have hci : (c : Int) < 4 := by omega
  have hct : chk true = 0 := rfl
  have hxm : ((x : Int) == -1) = false := by rw [beq_dec]; exact decide_eq_false (by omega)
  have HX := hide h
  have HF := hide F
  have HH := hide hh
  have HU := hide hu
  have HT := hide ht
  have HL := hide hl
  clear h F hh hu ht hl hwt
  go_enter Try.func15, Try.ntmps15
  go_wp2_with (first
    | (go_at_call 44; refine (filtersNew_exp a cap l _ (unhide HL) (unhide HT)).mono ?_; rintro r w1 ⟨rfl, ht1⟩
       obtain ⟨W, hW⟩ : ∃ W, w1.alloc (.cells #[int (tstAt l 0).fld, int (tstAt l 0).op, int (tstAt l 0).n, int (tstAt l 1).fld, int (tstAt l 1).op, int (tstAt l 1).n, int (tstAt l 2).fld, int (tstAt l 2).op, int (tstAt l 2).n, int l.length] 102) = W := ⟨_, rfl⟩
       have hcW : Calm w W := by rw [← hW]; exact ht1.alloc _
       have hbx : W.heap[w1.heap.size]? = some (.cells #[int (tstAt l 0).fld, int (tstAt l 0).op, int (tstAt l 0).n, int (tstAt l 1).fld, int (tstAt l 1).op, int (tstAt l 1).n, int (tstAt l 2).fld, int (tstAt l 2).op, int (tstAt l 2).n, int l.length] 102) := by rw [← hW]; exact heap_alloc_new w1 _
       have HXW := hide ((unhide HX).calm hcW)
       have HMW : Hid (Mv allR ρ ρ w W) := Mv.calm (unhide HX).lt hcW
       have HBX := hide hbx
       have hw1s : Hid (w.heap.size ≤ w1.heap.size) := ht1.size
       have hcl := (unhide HXW).closed
       have hat : W.cell? ⟨b, 86 + c * 31, none⟩ = some (int x) := by have := ((unhide HXW).cli c hc).here; rw [unhide HH] at this; exact this
       clear ht1 hcW hbx)
    | (go_at_call 36; refine (isClient_any _ _).mono ?_; rw [hcc]; rintro r w2 ⟨rfl, hw2⟩; have hw2 := hw2.symm; subst hw2)
    | (go_at_call 35; refine (check_any _ _ _ hcl).mono ?_; rintro r w2 ⟨rfl, hw2⟩; have hw2 := hw2.symm; subst hw2)
    | (go_at_call 45; refine (free_slot (unhide HXW) hc (by rw [hk0]; exact unhide HU)).mono ?_; rw [hk0]; rintro r w2 ⟨rfl, hw2⟩; have hw2 := hw2.symm; subst hw2)
    | (go_at_call 38; refine (away_any b (86 + c * 31) x _ hat).mono ?_; rw [hxm]; rintro r w2 ⟨rfl, hw2⟩; have hw2 := hw2.symm; subst hw2)
    | (go_at_call 46; refine (waitsX (unhide HXW) hc (fun y hy => by rw [unhide HH] at hy; cases hy; exact hx6)).mono ?_; rw [hwt2]; rintro r w2 ⟨rfl, htw⟩
       have HTW := hide htw
       have HXV := hide ((unhide HXW).calm htw)
       clear htw)
    | (go_at_call 39; refine (fullX (unhide HXV) (unhide HF)).mono ?_; rw [hful]; rintro r w3 ⟨rfl, ht3'⟩
       have ht3 := (unhide HTW).trans ht3'
       clear ht3'))
  have hb3 := (ht3.block _ (Array.getElem?_eq_some_iff.1 (unhide HBX)).1 (fun f => f)).trans (unhide HBX)
  have hb3l : w1.heap.size < w3.heap.size := (Array.getElem?_eq_some_iff.1 hb3).1
  have p0 : w3.cell? ⟨w1.heap.size, 0, none⟩ = some (int (tstAt l 0).fld) := box_cell hb3 0
  have p1 : w3.cell? ⟨w1.heap.size, 1, none⟩ = some (int (tstAt l 0).op) := box_cell hb3 1
  have p2 : w3.cell? ⟨w1.heap.size, 2, none⟩ = some (int (tstAt l 0).n) := box_cell hb3 2
  have p3 : w3.cell? ⟨w1.heap.size, 3, none⟩ = some (int (tstAt l 1).fld) := box_cell hb3 3
  have p4 : w3.cell? ⟨w1.heap.size, 4, none⟩ = some (int (tstAt l 1).op) := box_cell hb3 4
  have p5 : w3.cell? ⟨w1.heap.size, 5, none⟩ = some (int (tstAt l 1).n) := box_cell hb3 5
  have p6 : w3.cell? ⟨w1.heap.size, 6, none⟩ = some (int (tstAt l 2).fld) := box_cell hb3 6
  have p7 : w3.cell? ⟨w1.heap.size, 7, none⟩ = some (int (tstAt l 2).op) := box_cell hb3 7
  have p8 : w3.cell? ⟨w1.heap.size, 8, none⟩ = some (int (tstAt l 2).n) := box_cell hb3 8
  have p9 : w3.cell? ⟨w1.heap.size, 9, none⟩ = some (int l.length) := box_cell hb3 9
  have HX3 := hide ((unhide HXW).calm ht3)
  have HM3 := hide ((unhide HMW).trans (Mv.calm (unhide HXW).lt ht3))
  have hn1 : ρ w1.heap.size = none := by
    cases hq : ρ w1.heap.size with
    | none => rfl
    | some r => have h1 := (unhide HX).lt w1.heap.size (by rw [hq]; simp); have h2 := unhide hw1s; omega
  have hn3 : ρ w3.heap.size = none := by
    cases hq : ρ w3.heap.size with
    | none => rfl
    | some r => have h1 := (unhide HX).lt w3.heap.size (by rw [hq]; simp); have h2 := unhide hw1s; omega
  have HB3 := hide hb3
  have HN1 := hide hn1
  have HN3 := hide hn3
  generalize hA : (σ.cl c).age k + 1 = A at *
  clear ht3 hb3 hn1 hn3 HXW HMW hcl hat hW HBX HTW HXV
  go_cut [14] (fun s wx => ∃ g ρ4, s = ptr g ∧ wx.heap[g]? = some (.cells #[int c, int k, int A, int (tstAt l 0).fld, int (tstAt l 0).op, int (tstAt l 0).n, int (tstAt l 1).fld, int (tstAt l 1).op, int (tstAt l 1).n, int (tstAt l 2).fld, int (tstAt l 2).op, int (tstAt l 2).n, int l.length] 121) ∧ XN wx b ρ4 (σ.setCl c ((σ.cl c).subs k l)) ∧ Mv allR ρ ρ4 w wx ∧ ρ4 g = none)
  case first =>
    go_region_with (first
      | (go_at_call 47; refine (clientSub_any (w := w3.drew) (σ := σ) (ρ := ρ) (k := k) ((unhide HX3).calm (Touch.refl _ _).drew) hc hk l hage).mono ?_; rw [hA]; rintro r w4 ⟨rfl, ρ4, h4, m4⟩
         have hb4 := (m4.touch.block w1.heap.size hb3l (fun ⟨r, h1, _⟩ => by rw [unhide HN1] at h1; cases h1)).trans (unhide HB3)
         have hb4l : w1.heap.size < w4.heap.size := (Array.getElem?_eq_some_iff.1 hb4).1
         have q0 : w4.cell? ⟨w1.heap.size, 0, none⟩ = some (int (tstAt l 0).fld) := box_cell hb4 0
         have q1 : w4.cell? ⟨w1.heap.size, 1, none⟩ = some (int (tstAt l 0).op) := box_cell hb4 1
         have q2 : w4.cell? ⟨w1.heap.size, 2, none⟩ = some (int (tstAt l 0).n) := box_cell hb4 2
         have q3 : w4.cell? ⟨w1.heap.size, 3, none⟩ = some (int (tstAt l 1).fld) := box_cell hb4 3
         have q4 : w4.cell? ⟨w1.heap.size, 4, none⟩ = some (int (tstAt l 1).op) := box_cell hb4 4
         have q5 : w4.cell? ⟨w1.heap.size, 5, none⟩ = some (int (tstAt l 1).n) := box_cell hb4 5
         have q6 : w4.cell? ⟨w1.heap.size, 6, none⟩ = some (int (tstAt l 2).fld) := box_cell hb4 6
         have q7 : w4.cell? ⟨w1.heap.size, 7, none⟩ = some (int (tstAt l 2).op) := box_cell hb4 7
         have q8 : w4.cell? ⟨w1.heap.size, 8, none⟩ = some (int (tstAt l 2).n) := box_cell hb4 8
         have q9 : w4.cell? ⟨w1.heap.size, 9, none⟩ = some (int l.length) := box_cell hb4 9
         have H4 := hide h4
         have M4 := hide ((unhide HM3).trans ((Mv.calm (unhide HX3).lt (Touch.refl _ _).drew).trans (m4.mono (fun _ _ => trivial))))
         have L4 := hide h4.lt
         clear h4 m4 hb4)
      | (go_at_call 47; refine (clientSub_any (w := (w3.alloc (.cells #[int 0, int 0, int 0, int 0, int 0, int 0, int 0, int 0, int 0, int 0, int 0, int 0, int 0] 121)).drew) (σ := σ) (ρ := ρ) (k := k) ((unhide HX3).calm ((Touch.refl _ _).alloc _).drew) hc hk l hage).mono ?_; rw [hA]; rintro r w4 ⟨rfl, ρ4, h4, m4⟩
         have hb4 := (m4.touch.block w1.heap.size (by simp [World.drew]; omega) (fun ⟨r, h1, _⟩ => by rw [unhide HN1] at h1; cases h1)).trans ((Below.heap_alloc _ _ _ hb3l).trans (unhide HB3))
         have hb4l : w1.heap.size < w4.heap.size := (Array.getElem?_eq_some_iff.1 hb4).1
         have hz4 := (m4.touch.block w3.heap.size (by simp [World.drew]) (fun ⟨r, h1, _⟩ => by rw [unhide HN3] at h1; cases h1)).trans (heap_alloc_new w3 (.cells #[int 0, int 0, int 0, int 0, int 0, int 0, int 0, int 0, int 0, int 0, int 0, int 0, int 0] 121))
         have hz4l : w3.heap.size < w4.heap.size := (Array.getElem?_eq_some_iff.1 hz4).1
         have q0 : w4.cell? ⟨w1.heap.size, 0, none⟩ = some (int (tstAt l 0).fld) := box_cell hb4 0
         have q1 : w4.cell? ⟨w1.heap.size, 1, none⟩ = some (int (tstAt l 0).op) := box_cell hb4 1
         have q2 : w4.cell? ⟨w1.heap.size, 2, none⟩ = some (int (tstAt l 0).n) := box_cell hb4 2
         have q3 : w4.cell? ⟨w1.heap.size, 3, none⟩ = some (int (tstAt l 1).fld) := box_cell hb4 3
         have q4 : w4.cell? ⟨w1.heap.size, 4, none⟩ = some (int (tstAt l 1).op) := box_cell hb4 4
         have q5 : w4.cell? ⟨w1.heap.size, 5, none⟩ = some (int (tstAt l 1).n) := box_cell hb4 5
         have q6 : w4.cell? ⟨w1.heap.size, 6, none⟩ = some (int (tstAt l 2).fld) := box_cell hb4 6
         have q7 : w4.cell? ⟨w1.heap.size, 7, none⟩ = some (int (tstAt l 2).op) := box_cell hb4 7
         have q8 : w4.cell? ⟨w1.heap.size, 8, none⟩ = some (int (tstAt l 2).n) := box_cell hb4 8
         have q9 : w4.cell? ⟨w1.heap.size, 9, none⟩ = some (int l.length) := box_cell hb4 9
         have z0 : w4.cell? ⟨w3.heap.size, 0, none⟩ = some (int 0) := box_cell hz4 0
         have z1 : w4.cell? ⟨w3.heap.size, 1, none⟩ = some (int 0) := box_cell hz4 1
         have z2 : w4.cell? ⟨w3.heap.size, 2, none⟩ = some (int 0) := box_cell hz4 2
         have z3 : w4.cell? ⟨w3.heap.size, 3, none⟩ = some (int 0) := box_cell hz4 3
         have z4 : w4.cell? ⟨w3.heap.size, 4, none⟩ = some (int 0) := box_cell hz4 4
         have z5 : w4.cell? ⟨w3.heap.size, 5, none⟩ = some (int 0) := box_cell hz4 5
         have z6 : w4.cell? ⟨w3.heap.size, 6, none⟩ = some (int 0) := box_cell hz4 6
         have z7 : w4.cell? ⟨w3.heap.size, 7, none⟩ = some (int 0) := box_cell hz4 7
         have z8 : w4.cell? ⟨w3.heap.size, 8, none⟩ = some (int 0) := box_cell hz4 8
         have z9 : w4.cell? ⟨w3.heap.size, 9, none⟩ = some (int 0) := box_cell hz4 9
         have z10 : w4.cell? ⟨w3.heap.size, 10, none⟩ = some (int 0) := box_cell hz4 10
         have z11 : w4.cell? ⟨w3.heap.size, 11, none⟩ = some (int 0) := box_cell hz4 11
         have z12 : w4.cell? ⟨w3.heap.size, 12, none⟩ = some (int 0) := box_cell hz4 12
         have zf := box_frozen hz4
         have H4 := hide h4
         have M4 := hide ((unhide HM3).trans ((Mv.calm (unhide HX3).lt ((Touch.refl _ _).alloc _).drew).trans (m4.mono (fun _ _ => trivial))))
         have L4 := hide h4.lt
         have HZ := hide hz4
         have HR := hide (m4.noRole (k := w3.heap.size) (by simp [World.drew]) (unhide HN3))
         clear h4 m4 hb4 hz4))
    all_goals go_wp2_with fail
    all_goals go_meet
    all_goals first
      | (obtain ⟨s1, s2⟩ := set13 w4 w3.heap.size (int c) (int k) (int A) (int (tstAt l 0).fld) (int (tstAt l 0).op) (int (tstAt l 0).n) (int (tstAt l 1).fld) (int (tstAt l 1).op) (int (tstAt l 1).n) (int (tstAt l 2).fld) (int (tstAt l 2).op) (int (tstAt l 2).n) (int l.length) (unhide HZ)
         have hn4 : ρ4 w3.heap.size = none := unhide HR
         exact ⟨w3.heap.size, ρ4, rfl, s1, (unhide H4).keep s2 (fun i hi e => by subst e; exact hi hn4), (unhide M4).after s2 (by have := unhide hw1s; omega), hn4⟩)
      | (have hn4 : ρ4 w4.heap.size = none := by
           cases hq : ρ4 w4.heap.size with
           | none => rfl
           | some r => have h1 := unhide L4 w4.heap.size (by rw [hq]; simp); omega
         exact ⟨w4.heap.size, ρ4, rfl, heap_alloc_new w4 _, (unhide H4).calm ((Touch.refl _ _).alloc _), (unhide M4).trans (Mv.calm (unhide L4) ((Touch.refl _ _).alloc _)), hn4⟩)
  case rest =>
    obtain ⟨g, ρ4, rfl, hbx, hXC, hMC, hgn⟩ := hcut
    have hcl' : (σ.setCl c ((σ.cl c).subs k l)).cl c = (σ.cl c).subs k l := by simp [Net.setCl]
    have CC := hXC.cli c hc
    rw [hcl'] at CC
    have q0 : wc.cell? ⟨b, 86 + c * 31, none⟩ = some (int x) := by have := CC.here; rw [show ((σ.cl c).subs k l).here = (σ.cl c).here from rfl, unhide HH] at this; exact this
    have e0 : wc.cell? ⟨g, 0, none⟩ = some (int c) := box_cell hbx 0
    have e1 : wc.cell? ⟨g, 1, none⟩ = some (int k) := box_cell hbx 1
    have e2 : wc.cell? ⟨g, 2, none⟩ = some (int A) := box_cell hbx 2
    have e3 : wc.cell? ⟨g, 3, none⟩ = some (int (tstAt l 0).fld) := box_cell hbx 3
    have e4 : wc.cell? ⟨g, 4, none⟩ = some (int (tstAt l 0).op) := box_cell hbx 4
    have e5 : wc.cell? ⟨g, 5, none⟩ = some (int (tstAt l 0).n) := box_cell hbx 5
    have e6 : wc.cell? ⟨g, 6, none⟩ = some (int (tstAt l 1).fld) := box_cell hbx 6
    have e7 : wc.cell? ⟨g, 7, none⟩ = some (int (tstAt l 1).op) := box_cell hbx 7
    have e8 : wc.cell? ⟨g, 8, none⟩ = some (int (tstAt l 1).n) := box_cell hbx 8
    have e9 : wc.cell? ⟨g, 9, none⟩ = some (int (tstAt l 2).fld) := box_cell hbx 9
    have e10 : wc.cell? ⟨g, 10, none⟩ = some (int (tstAt l 2).op) := box_cell hbx 10
    have e11 : wc.cell? ⟨g, 11, none⟩ = some (int (tstAt l 2).n) := box_cell hbx 11
    have e12 : wc.cell? ⟨g, 12, none⟩ = some (int l.length) := box_cell hbx 12
    have hgl : g < wc.heap.size := block_lt_of_cell e0
    have hbc := hXC.lt b (by rw [hXC.net]; simp)
    have hcan : CanHandle (σ.setCl c ((σ.cl c).subs k l)) x none (.sub (2 * c + k) A l) := by show 2 * c + k < 8; omega
    have hFF : FrAt (wc.alloc (.cells #[int 0, int c, int k, int A, int (tstAt l 0).fld, int (tstAt l 0).op, int (tstAt l 0).n, int (tstAt l 1).fld, int (tstAt l 1).op, int (tstAt l 1).n, int (tstAt l 2).fld, int (tstAt l 2).op, int (tstAt l 2).n, int l.length, int 0, int 0, int 0, int 0, int 0, int 0, int 0, int 0, nilS, int 0] 128)).drew (roleAt ρ4 wc.heap.size .frame) (.sub (2 * c + k) A l) wc.heap.size := by
      refine ⟨by simp [roleAt], 0, [int 0, int 0, int 0, int 0, int 0, int 0, int 0, int 0, int 0, int 0], nilS, ?_, rfl, by simp [Value.oneCell'], ⟨⟨rfl, Or.inl ⟨rfl, rfl⟩⟩, fun g hg => by cases hg⟩⟩
      rw [encFr_sub c k hk]; exact heap_alloc_new wc _
    obtain ⟨hXF, hMF⟩ := hXC.addFrame (w' := (wc.alloc (.cells #[int 0, int c, int k, int A, int (tstAt l 0).fld, int (tstAt l 0).op, int (tstAt l 0).n, int (tstAt l 1).fld, int (tstAt l 1).op, int (tstAt l 1).n, int (tstAt l 2).fld, int (tstAt l 2).op, int (tstAt l 2).n, int l.length, int 0, int 0, int 0, int 0, int 0, int 0, int 0, int 0, nilS, int 0] 128)).drew) (((Touch.refl _ _).alloc _).drew) (Nat.le_refl _) (by simp [World.drew])
    have HXF := hide hXF
    have HMF := hide hMF
    have HFF := hide hFF
    have HLEN : Hid (∀ z, ((σ.setCl c ((σ.cl c).subs k l)).q x z).length < 2000) := fun z => (unhide HF).len x z
    have HXC := hide hXC
    have HMC := hide hMC
    have HCAN := hide hcan
    clear hXC hMC CC hcan hXF hMF hFF hbx hcl' p0 p1 p2 p3 p4 p5 p6 p7 p8 p9
    go_wp2_with fail
    go_cut [] (fun wx => ∃ ρ', XN wx b ρ' ((σ.setCl c ((σ.cl c).subs k l)).handle x none (.sub (2 * c + k) A l)) ∧ Mv allR ρ ρ' w wx)
    case first =>
      go_region_with (first
        | (go_at_call 49; refine (at_any b (86 + c * 31) x _ (by go_simp)).mono ?_; rintro r w5 ⟨rfl, rfl⟩)
        | (go_at_call 48; refine (handle_any (fr := none) (unhide HXF) T hx (unhide HLEN) (unhide HCAN) (unhide HFF)).mono ?_; rintro r w6 ⟨rfl, ρ6, h6, m6⟩))
      all_goals go_wp2_with fail
      all_goals go_meet
      all_goals exact ⟨ρ6, h6, ((unhide HMC).trans ((unhide HMF).mono (fun _ f => f.elim))).trans m6⟩
    case rest =>
      obtain ⟨ρ', h7, m7⟩ := hcut
      have H7 := hide h7
      have M7 := hide m7
      clear h7 m7 q0 e0 e1 e2 e3 e4 e5 e6 e7 e8 e9 e10 e11 e12
      go_wp2
      go_ret2
      exact ⟨rfl, ρ', by rw [hA]; exact unhide H7, unhide M7⟩

def freeB (σ : Net) (c : Nat) : Bool := !((σ.cl c).used (σ.slot c))
def freeS (σ : Net) (c : Nat) : Nat := if freeB σ c then σ.slot c else 0

theorem free_gen {w : World} {b : Nat} {ρ : Nat → Option Role} {σ : Net} (h : XN w b ρ σ) {c : Nat} (hc : c < 4) : Calls Try.prog 45 #[.pointer (some ⟨b, 86 + c * 31, none⟩)] w fun e w' => e = .returned (.tuple #[int (freeS σ c : Nat), .bool (freeB σ c)]) ∧ w' = w := by
  cases hu : (σ.cl c).used (σ.slot c) with
  | false =>
    have h1 : freeB σ c = true := by simp [freeB, hu]
    have h2 : freeS σ c = σ.slot c := by simp [freeS, h1]
    rw [h1, h2]; exact free_slot h hc hu
  | true =>
    have h1 : freeB σ c = false := by simp [freeB, hu]
    have h2 : freeS σ c = 0 := by simp [freeS, h1]
    rw [h1, h2]
    have C := h.cli c hc
    have u0 := C.used 0 (by omega)
    have u1 := C.used 1 (by omega)
    unfold Net.slot at hu
    cases h0 : (σ.cl c).used 0 with
    | false => rw [h0] at hu; simp at hu; rw [h0] at hu; cases hu
    | true =>
      rw [h0] at u0 hu
      simp only [if_true] at hu
      rw [hu] at u1
      exact free_none b (86 + c * 31) w u0 u1

section
variable {w : World} {b : Nat} {ρ : Nat → Option Role} {σ : Net}

set_option maxRecDepth 100000 in
set_option maxHeartbeats 1000000 in
theorem subscribe_arg (h : XN w b ρ σ) (c : Int) (hcc : isCli c = false) {l : List Tst} (hl : goodFilter l = true) {a : Option Addr} (ht : TestsAt w a l) (cap : Nat) :
    Calls Try.prog 15 #[.pointer (some ⟨b, 0, none⟩), int c, .slice a l.length cap] w fun e w' => e = .returned (.tuple #[int 0, int 1]) ∧ Calm w w' := by
  have hcl := h.closed
  have hct : chk false = 1 := rfl
  have hbl := h.lt b (by rw [h.net]; simp)
  have HT := hide ht
  have HL := hide hl
  clear h ht hl
  go_enter Try.func15, Try.ntmps15
  go_wp2_with (first
    | (go_at_call 44; refine (filtersNew_exp a cap l _ (unhide HL) (unhide HT)).mono ?_; rintro r w1 ⟨rfl, ht1⟩
       have hcl1 := (ht1.alloc (.cells #[int (tstAt l 0).fld, int (tstAt l 0).op, int (tstAt l 0).n, int (tstAt l 1).fld, int (tstAt l 1).op, int (tstAt l 1).n, int (tstAt l 2).fld, int (tstAt l 2).op, int (tstAt l 2).n, int l.length] 102)).cell (p := ⟨b, 0, none⟩) (fun f => f) hcl
       have HT1 := hide ht1
       clear ht1 hcl)
    | (go_at_call 36; refine (isClient_any _ _).mono ?_; rw [hcc]; rintro r w2 ⟨rfl, hw2⟩; have hw2 := hw2.symm; subst hw2)
    | (go_at_call 35; refine (check_any _ _ _ hcl1).mono ?_; rintro r w2 ⟨rfl, hw2⟩; have hw2 := hw2.symm; subst hw2))
  go_ret2
  exact ⟨rfl, (unhide HT1).alloc _⟩

set_option maxRecDepth 100000 in
set_option maxHeartbeats 2000000 in
theorem subscribe_no (h : XN w b ρ σ) {m : Nat} (F : Fit σ m) {c : Nat} (hc : c < 4) {l : List Tst} (hl : goodFilter l = true) {a : Option Addr} (ht : TestsAt w a l) (cap : Nat) (hE : σ.subE c l ≠ 0) :
    Calls Try.prog 15 #[.pointer (some ⟨b, 0, none⟩), int c, .slice a l.length cap] w fun e w' => e = .returned (.tuple #[int 0, int (σ.subE c l)]) ∧ Calm w w' := by
  have hcl := h.closed
  have hct : chk true = 0 := rfl
  have hcc : isCli (c : Int) = true := isCli_nat hc
  have hci : (c : Int) < 4 := by omega
  have hbl := h.lt b (by rw [h.net]; simp)
  have T := F.good.tree
  have hx6 : ∀ y, (σ.cl c).here = some y → y < 6 := fun y hy => Nat.lt_of_lt_of_le ((F.good.clis c hc).here y hy) (size_le T)
  have hask : σ.asked (isCli (c : Int) && goodFilter l) = 0 := asked_ok h.open_ (by rw [hcc, hl]; rfl)
  have hweq := F.live.waits_eq hc
  have HX := hide h
  have HT := hide ht
  have HL := hide hl
  have HF := hide F
  have HX6 := hide hx6
  -- what the calls ahead of the refusal leave
  cases hh : (σ.cl c).here with
  | none =>
    have e3 : σ.subE c l = 3 := by simp [Net.subE, hask, Net.still, hh]
    rw [e3]
    clear h ht hl F hx6 hE
    go_enter Try.func15, Try.ntmps15
    go_wp2_with (first
      | (go_at_call 44; refine (filtersNew_exp a cap l _ (unhide HL) (unhide HT)).mono ?_; rintro r w1 ⟨rfl, ht1⟩
         have ht2 := ht1.alloc (.cells #[int (tstAt l 0).fld, int (tstAt l 0).op, int (tstAt l 0).n, int (tstAt l 1).fld, int (tstAt l 1).op, int (tstAt l 1).n, int (tstAt l 2).fld, int (tstAt l 2).op, int (tstAt l 2).n, int l.length] 102)
         have hcl1 := ht2.cell (p := ⟨b, 0, none⟩) (fun f => f) hcl
         have HXW := hide ((unhide HX).calm ht2)
         have hat : (w1.alloc (.cells #[int (tstAt l 0).fld, int (tstAt l 0).op, int (tstAt l 0).n, int (tstAt l 1).fld, int (tstAt l 1).op, int (tstAt l 1).n, int (tstAt l 2).fld, int (tstAt l 2).op, int (tstAt l 2).n, int l.length] 102)).cell? ⟨b, 86 + c * 31, none⟩ = some (int (-1)) := by have := ((unhide HXW).cli c hc).here; rw [hh] at this; exact this
         have HT1 := hide ht2
         clear ht1 ht2 hcl)
      | (go_at_call 36; refine (isClient_any _ _).mono ?_; rw [hcc]; rintro r w2 ⟨rfl, hw2⟩; have hw2 := hw2.symm; subst hw2)
      | (go_at_call 35; refine (check_any _ _ _ hcl1).mono ?_; rintro r w2 ⟨rfl, hw2⟩; have hw2 := hw2.symm; subst hw2)
      | (go_at_call 45; refine (free_gen (unhide HXW) hc).mono ?_; rintro r w2 ⟨rfl, hw2⟩; have hw2 := hw2.symm; subst hw2)
      | (go_at_call 38; refine (away_any b (86 + c * 31) (-1) _ hat).mono ?_; rintro r w2 ⟨rfl, hw2⟩; have hw2 := hw2.symm; subst hw2))
    go_ret2
    exact ⟨rfl, unhide HT1⟩
  | some x =>
    have hxm : ((x : Int) == -1) = false := by rw [beq_dec]; exact decide_eq_false (by omega)
    cases hwt : σ.waits c with
    | true =>
      have e5 : σ.subE c l = 5 := by simp [Net.subE, hask, Net.still, hh, hwt]
      rw [e5]
      have hwt2 : waitsAt σ c = true := by rw [hweq]; exact hwt
      clear h ht hl F hx6 hE hwt hweq
      go_enter Try.func15, Try.ntmps15
      go_wp2_with (first
        | (go_at_call 44; refine (filtersNew_exp a cap l _ (unhide HL) (unhide HT)).mono ?_; rintro r w1 ⟨rfl, ht1⟩
           have ht2 := ht1.alloc (.cells #[int (tstAt l 0).fld, int (tstAt l 0).op, int (tstAt l 0).n, int (tstAt l 1).fld, int (tstAt l 1).op, int (tstAt l 1).n, int (tstAt l 2).fld, int (tstAt l 2).op, int (tstAt l 2).n, int l.length] 102)
           have hcl1 := ht2.cell (p := ⟨b, 0, none⟩) (fun f => f) hcl
           have HXW := hide ((unhide HX).calm ht2)
           have hat : (w1.alloc (.cells #[int (tstAt l 0).fld, int (tstAt l 0).op, int (tstAt l 0).n, int (tstAt l 1).fld, int (tstAt l 1).op, int (tstAt l 1).n, int (tstAt l 2).fld, int (tstAt l 2).op, int (tstAt l 2).n, int l.length] 102)).cell? ⟨b, 86 + c * 31, none⟩ = some (int x) := by have := ((unhide HXW).cli c hc).here; rw [hh] at this; exact this
           have HT1 := hide ht2
           clear ht1 ht2 hcl)
        | (go_at_call 36; refine (isClient_any _ _).mono ?_; rw [hcc]; rintro r w2 ⟨rfl, hw2⟩; have hw2 := hw2.symm; subst hw2)
        | (go_at_call 35; refine (check_any _ _ _ hcl1).mono ?_; rintro r w2 ⟨rfl, hw2⟩; have hw2 := hw2.symm; subst hw2)
        | (go_at_call 45; refine (free_gen (unhide HXW) hc).mono ?_; rintro r w2 ⟨rfl, hw2⟩; have hw2 := hw2.symm; subst hw2)
        | (go_at_call 38; refine (away_any b (86 + c * 31) x _ hat).mono ?_; rw [hxm]; rintro r w2 ⟨rfl, hw2⟩; have hw2 := hw2.symm; subst hw2)
        | (go_at_call 46; refine (waitsX (unhide HXW) hc (unhide HX6)).mono ?_; rw [hwt2]; rintro r w2 ⟨rfl, htw⟩))
      go_ret2
      exact ⟨rfl, (unhide HT1).trans htw⟩
    | false =>
      have hwt2 : waitsAt σ c = false := by rw [hweq]; exact hwt
      cases hu : (σ.cl c).used (σ.slot c) with
      | true =>
        have e7 : σ.subE c l = 7 := by simp [Net.subE, hask, Net.still, hh, hwt, hu]
        rw [e7]
        have hfb : freeB σ c = false := by simp [freeB, hu]
        clear h ht hl F hx6 hE hwt hweq hu
        go_enter Try.func15, Try.ntmps15
        go_wp2_with (first
          | (go_at_call 44; refine (filtersNew_exp a cap l _ (unhide HL) (unhide HT)).mono ?_; rintro r w1 ⟨rfl, ht1⟩
             have ht2 := ht1.alloc (.cells #[int (tstAt l 0).fld, int (tstAt l 0).op, int (tstAt l 0).n, int (tstAt l 1).fld, int (tstAt l 1).op, int (tstAt l 1).n, int (tstAt l 2).fld, int (tstAt l 2).op, int (tstAt l 2).n, int l.length] 102)
             have hcl1 := ht2.cell (p := ⟨b, 0, none⟩) (fun f => f) hcl
             have HXW := hide ((unhide HX).calm ht2)
             have hat : (w1.alloc (.cells #[int (tstAt l 0).fld, int (tstAt l 0).op, int (tstAt l 0).n, int (tstAt l 1).fld, int (tstAt l 1).op, int (tstAt l 1).n, int (tstAt l 2).fld, int (tstAt l 2).op, int (tstAt l 2).n, int l.length] 102)).cell? ⟨b, 86 + c * 31, none⟩ = some (int x) := by have := ((unhide HXW).cli c hc).here; rw [hh] at this; exact this
             have HT1 := hide ht2
             clear ht1 ht2 hcl)
          | (go_at_call 36; refine (isClient_any _ _).mono ?_; rw [hcc]; rintro r w2 ⟨rfl, hw2⟩; have hw2 := hw2.symm; subst hw2)
          | (go_at_call 35; refine (check_any _ _ _ hcl1).mono ?_; rintro r w2 ⟨rfl, hw2⟩; have hw2 := hw2.symm; subst hw2)
          | (go_at_call 45; refine (free_gen (unhide HXW) hc).mono ?_; rw [hfb]; rintro r w2 ⟨rfl, hw2⟩; have hw2 := hw2.symm; subst hw2)
          | (go_at_call 38; refine (away_any b (86 + c * 31) x _ hat).mono ?_; rw [hxm]; rintro r w2 ⟨rfl, hw2⟩; have hw2 := hw2.symm; subst hw2)
          | (go_at_call 46; refine (waitsX (unhide HXW) hc (unhide HX6)).mono ?_; rw [hwt2]; rintro r w2 ⟨rfl, htw⟩))
        go_ret2
        exact ⟨rfl, (unhide HT1).trans htw⟩
      | false =>
        cases hful : σ.full with
        | false => exact absurd (by simp [Net.subE, hask, Net.still, hh, hwt, hu, hful]) hE
        | true =>
          have e6 : σ.subE c l = 6 := by simp [Net.subE, hask, Net.still, hh, hwt, hu, hful]
          rw [e6]
          have hfb : freeB σ c = true := by simp [freeB, hu]
          clear h ht hl F hx6 hE hwt hweq hu
          go_enter Try.func15, Try.ntmps15
          go_wp2_with (first
            | (go_at_call 44; refine (filtersNew_exp a cap l _ (unhide HL) (unhide HT)).mono ?_; rintro r w1 ⟨rfl, ht1⟩
               have ht2 := ht1.alloc (.cells #[int (tstAt l 0).fld, int (tstAt l 0).op, int (tstAt l 0).n, int (tstAt l 1).fld, int (tstAt l 1).op, int (tstAt l 1).n, int (tstAt l 2).fld, int (tstAt l 2).op, int (tstAt l 2).n, int l.length] 102)
               have hcl1 := ht2.cell (p := ⟨b, 0, none⟩) (fun f => f) hcl
               have HXW := hide ((unhide HX).calm ht2)
               have hat : (w1.alloc (.cells #[int (tstAt l 0).fld, int (tstAt l 0).op, int (tstAt l 0).n, int (tstAt l 1).fld, int (tstAt l 1).op, int (tstAt l 1).n, int (tstAt l 2).fld, int (tstAt l 2).op, int (tstAt l 2).n, int l.length] 102)).cell? ⟨b, 86 + c * 31, none⟩ = some (int x) := by have := ((unhide HXW).cli c hc).here; rw [hh] at this; exact this
               have HT1 := hide ht2
               clear ht1 ht2 hcl)
            | (go_at_call 36; refine (isClient_any _ _).mono ?_; rw [hcc]; rintro r w2 ⟨rfl, hw2⟩; have hw2 := hw2.symm; subst hw2)
            | (go_at_call 35; refine (check_any _ _ _ hcl1).mono ?_; rintro r w2 ⟨rfl, hw2⟩; have hw2 := hw2.symm; subst hw2)
            | (go_at_call 45; refine (free_gen (unhide HXW) hc).mono ?_; rw [hfb]; rintro r w2 ⟨rfl, hw2⟩; have hw2 := hw2.symm; subst hw2)
            | (go_at_call 38; refine (away_any b (86 + c * 31) x _ hat).mono ?_; rw [hxm]; rintro r w2 ⟨rfl, hw2⟩; have hw2 := hw2.symm; subst hw2)
            | (go_at_call 46; refine (waitsX (unhide HXW) hc (unhide HX6)).mono ?_; rw [hwt2]; rintro r w2 ⟨rfl, htw⟩
               have HXV := hide ((unhide HXW).calm htw)
               have HTW := hide ((unhide HT1).trans htw)
               clear htw)
            | (go_at_call 39; refine (fullX (unhide HXV) (unhide HF)).mono ?_; rw [hful]; rintro r w3 ⟨rfl, ht3⟩))
          go_ret2
          exact ⟨rfl, (unhide HTW).trans ht3⟩

/-- SUBSCRIBE, with a filter that is good. -/
theorem subscribeX (h : XN w b ρ σ) {m : Nat} (F : Fit σ m) (hm : m < 2000000000000) (c : Int) {l : List Tst} (hl : goodFilter l = true) {a : Option Addr} (ht : TestsAt w a l) (cap : Nat) :
    Calls Try.prog 15 #[.pointer (some ⟨b, 0, none⟩), int c, .slice a l.length cap] w fun e w' => e = .returned (.tuple #[int (if σ.subE c l = 0 then (σ.slot c.toNat : Nat) else 0), int (σ.subE c l)]) ∧ ∃ ρ', XN w' b ρ' (σ.sub c l) ∧ Mv allR ρ ρ' w w' := by
  cases hcc : isCli c with
  | false =>
    have hE : σ.subE c l = 1 := by simp [Net.subE, Net.asked, h.open_, hcc]
    have hA : σ.sub c l = σ := by simp [Net.sub, hE]
    rw [hE, hA]
    exact (subscribe_arg h c hcc hl ht cap).mono fun e w' ⟨h1, h2⟩ => ⟨by rw [h1]; rfl, ρ, h.calm h2, h.mvCalm h2⟩
  | true =>
    have hcc' := hcc
    simp only [isCli, decide_eq_true_eq] at hcc'
    obtain ⟨c', rfl⟩ : ∃ c' : Nat, c = c' := ⟨c.toNat, by omega⟩
    have hc : c' < 4 := by omega
    by_cases hE : σ.subE c' l = 0
    · obtain ⟨_, _, _, h1, h2, h3, h4⟩ := subE_zero hE
      simp only [toNat_nat] at h1 h2 h3
      cases hh : (σ.cl c').here with
      | none => exact absurd hh h1
      | some x =>
        have hA : σ.sub c' l = ((σ.setCl c' ((σ.cl c').subs (σ.slot c') l)).handle x none (.sub (2 * c' + σ.slot c') ((σ.cl c').age (σ.slot c') + 1) l)) := by
          simp only [Net.sub, hE, if_true, toNat_nat, hh, Net.subN, Net.handle]
          congr 1
          unfold Net.learn
          have hk2 : σ.slot c' < 2 := by unfold Net.slot; split <;> omega
          have hkn : (σ.setCl c' ((σ.cl c').subs (σ.slot c') l)).kn x (2 * c' + σ.slot c') = σ.kn x (2 * c' + σ.slot c') := rfl
          rw [hkn]
          cases hf : σ.kn x (2 * c' + σ.slot c') with
          | none => simp [Cli.subs, hh]
          | some f =>
            have hs : (2 * c' + σ.slot c') / 2 = c' := by omega
            have hk3 : (2 * c' + σ.slot c') % 2 = σ.slot c' := by omega
            have hage := (F.live.view (2 * c' + σ.slot c') (by omega)).facts x f.co (by show (σ.kn x (2 * c' + σ.slot c')).map Fact.co = _; rw [hf]; rfl)
            have h5 : (σ.view (2 * c' + σ.slot c')).age = (σ.cl c').age (σ.slot c') := by simp only [Net.view, hs, hk3]
            rw [h5] at hage
            have h6 : f.age < (σ.cl c').age (σ.slot c') + 1 := by have : f.co.age = f.age := rfl; omega
            simp only [if_pos h6]
            simp [Cli.subs, hh]
        rw [hA, if_pos hE, hE]
        exact subscribe_ok h F hm hc hh rfl h3 h2 h4 hl ht cap
    · have hA : σ.sub c' l = σ := by simp [Net.sub, hE]
      rw [hA, if_neg hE]
      exact (subscribe_no h F hc hl ht cap hE).mono fun e w' ⟨h1, h2⟩ => ⟨h1, ρ, h.calm h2, h.mvCalm h2⟩

/-! ### a client goes -/
theorem XN.leave (h : XN w b ρ σ) {c : Nat} (hc : c < 4) : XN (w.setCell ⟨b, 86 + c * 31, none⟩ (int (-1))) b ρ (σ.setCl c { σ.cl c with here := none }) ∧ Mv allR ρ ρ w (w.setCell ⟨b, 86 + c * 31, none⟩ (int (-1))) := by
  have C := h.cli c hc
  have hne : ∀ o u, o ≠ 86 + c * 31 → w.cell? ⟨b, o, none⟩ = some u → (w.setCell ⟨b, 86 + c * 31, none⟩ (int (-1))).cell? ⟨b, o, none⟩ = some u := fun o u ho hu => cell_setCell_ne w ho hu
  have hkr : ∀ i r, ρ i = some r → r ≠ .net → (w.setCell ⟨b, 86 + c * 31, none⟩ (int (-1))).heap[i]? = w.heap[i]? ∧ ρ i = ρ i := fun i r hi hr => ⟨heap_setCell_other w _ (fun e => by subst e; rw [h.net] at hi; cases hi; exact hr rfl), rfl⟩
  refine ⟨h.storeCli hc _ _ (by omega) (by omega) ?_, Mv.setCell (S := allR) h.lt h.net trivial _ _⟩
  obtain ⟨u, g1, g2⟩ := C.log
  refine ⟨World.cell?_setCell_same w _ _ C.here, hne _ _ (by omega) C.home, hne _ _ (by omega) C.stays, hne _ _ (by omega) C.many, fun k h2 => hne _ _ (by omega) (C.used k h2), fun k h2 => hne _ _ (by omega) (C.age k h2), fun k h2 => (C.fl k h2).keep (fun j v hj => hne _ _ (by omega)), fun k h2 => ?_, u, hne _ _ (by omega) g1, g2.keep (fun i hi => hkr i _ hi (by simp))⟩
  obtain ⟨u', f1, f2⟩ := C.heard k h2
  exact ⟨u', hne _ _ (by omega) f1, f2.keep (fun i hi => hkr i _ hi (by simp))⟩

set_option maxRecDepth 100000 in
set_option maxHeartbeats 1000000 in
/-- DETACH. -/
theorem detachX (h : XN w b ρ σ) {m : Nat} (F : Fit σ m) (c : Int) :
    Calls Try.prog 25 #[.pointer (some ⟨b, 0, none⟩), int c] w fun e w' => e = .returned (int (σ.detachE c)) ∧ XN w' b ρ (σ.detach c) ∧ Mv allR ρ ρ w w' := by
  have hcl := h.closed
  have hct : chk true = 0 := rfl
  have hcf : chk false = 1 := rfl
  have hbl := h.lt b (by rw [h.net]; simp)
  cases hcc : isCli c with
  | false =>
    have hE : σ.detachE c = 1 := by simp [Net.detachE, Net.asked, h.open_, hcc]
    have hA : σ.detach c = σ := by simp [Net.detach, hE]
    rw [hE, hA]
    have HX := hide h
    clear h F
    go_enter Try.func25, Try.ntmps25
    go_wp2_with (first
      | (go_at_call 36; refine (isClient_any _ _).mono ?_; rw [hcc]; rintro r w2 ⟨rfl, hw2⟩; have hw2 := hw2.symm; subst hw2)
      | (go_at_call 35; refine (check_any _ _ _ hcl).mono ?_; rintro r w2 ⟨rfl, hw2⟩; have hw2 := hw2.symm; subst hw2))
    go_ret
    exact ⟨rfl, unhide HX, Mv.refl (unhide HX).lt⟩
  | true =>
    have hcc' := hcc
    simp only [isCli, decide_eq_true_eq] at hcc'
    obtain ⟨c', rfl⟩ : ∃ c' : Nat, c = c' := ⟨c.toNat, by omega⟩
    have hc : c' < 4 := by omega
    have hci : (c' : Int) < 4 := by omega
    have hask : σ.asked (isCli (c' : Int)) = 0 := asked_ok h.open_ hcc
    have hat := (h.cli c' hc).here
    have hx6 : ∀ y, (σ.cl c').here = some y → y < 6 := fun y hy => Nat.lt_of_lt_of_le ((F.good.clis c' hc).here y hy) (size_le F.good.tree)
    have hweq := F.live.waits_eq hc
    cases hh : (σ.cl c').here with
    | none =>
      rw [hh] at hat
      replace hat : w.cell? ⟨b, 86 + c' * 31, none⟩ = some (int (-1)) := hat
      have hE : σ.detachE c' = 3 := by simp [Net.detachE, hask, Net.still, hh]
      have hA : σ.detach c' = σ := by simp [Net.detach, hE]
      rw [hE, hA]
      have HX := hide h
      clear h F hx6 hweq
      go_enter Try.func25, Try.ntmps25
      go_wp2_with (first
        | (go_at_call 36; refine (isClient_any _ _).mono ?_; rw [hcc]; rintro r w2 ⟨rfl, hw2⟩; have hw2 := hw2.symm; subst hw2)
        | (go_at_call 35; refine (check_any _ _ _ hcl).mono ?_; rintro r w2 ⟨rfl, hw2⟩; have hw2 := hw2.symm; subst hw2)
        | (go_at_call 38; refine (away_any b (86 + c' * 31) (-1) _ hat).mono ?_; rintro r w2 ⟨rfl, hw2⟩; have hw2 := hw2.symm; subst hw2))
      go_ret
      exact ⟨rfl, unhide HX, Mv.refl (unhide HX).lt⟩
    | some x =>
      rw [hh] at hat
      replace hat : w.cell? ⟨b, 86 + c' * 31, none⟩ = some (int x) := hat
      have hxm : ((x : Int) == -1) = false := by rw [beq_dec]; exact decide_eq_false (by omega)
      cases hwt : σ.waits c' with
      | true =>
        have hE : σ.detachE c' = 5 := by simp [Net.detachE, hask, Net.still, hh, hwt]
        have hA : σ.detach c' = σ := by simp [Net.detach, hE]
        have hwt2 : waitsAt σ c' = true := by rw [hweq]; exact hwt
        rw [hE, hA]
        have HX := hide h
        have HX6 := hide hx6
        clear h F hx6 hweq hwt
        go_enter Try.func25, Try.ntmps25
        go_wp2_with (first
          | (go_at_call 36; refine (isClient_any _ _).mono ?_; rw [hcc]; rintro r w2 ⟨rfl, hw2⟩; have hw2 := hw2.symm; subst hw2)
          | (go_at_call 35; refine (check_any _ _ _ hcl).mono ?_; rintro r w2 ⟨rfl, hw2⟩; have hw2 := hw2.symm; subst hw2)
          | (go_at_call 38; refine (away_any b (86 + c' * 31) x _ hat).mono ?_; rw [hxm]; rintro r w2 ⟨rfl, hw2⟩; have hw2 := hw2.symm; subst hw2)
          | (go_at_call 46; refine (waitsX (unhide HX) hc (unhide HX6)).mono ?_; rw [hwt2]; rintro r w2 ⟨rfl, htw⟩))
        go_ret
        exact ⟨rfl, (unhide HX).calm htw, (unhide HX).mvCalm htw⟩
      | false =>
        have hE : σ.detachE c' = 0 := by simp [Net.detachE, hask, Net.still, hh, hwt]
        have hA : σ.detach c' = σ.setCl c' { σ.cl c' with here := none } := by simp [Net.detach, hE]
        have hwt2 : waitsAt σ c' = false := by rw [hweq]; exact hwt
        rw [hE, hA]
        have HX := hide h
        have HX6 := hide hx6
        clear h F hx6 hweq hwt
        go_enter Try.func25, Try.ntmps25
        go_wp2_with (first
          | (go_at_call 36; refine (isClient_any _ _).mono ?_; rw [hcc]; rintro r w2 ⟨rfl, hw2⟩; have hw2 := hw2.symm; subst hw2)
          | (go_at_call 35; refine (check_any _ _ _ hcl).mono ?_; rintro r w2 ⟨rfl, hw2⟩; have hw2 := hw2.symm; subst hw2)
          | (go_at_call 38; refine (away_any b (86 + c' * 31) x _ hat).mono ?_; rw [hxm]; rintro r w2 ⟨rfl, hw2⟩; have hw2 := hw2.symm; subst hw2)
          | (go_at_call 46; refine (waitsX (unhide HX) hc (unhide HX6)).mono ?_; rw [hwt2]; rintro r w2 ⟨rfl, htw⟩
             have HX2 := hide ((unhide HX).calm htw)
             have HM2 : Hid (Mv allR ρ ρ w w2) := Mv.calm (unhide HX).lt htw
             clear htw)
          | (go_at_call 57; refine (leave_any b (86 + c' * 31) _ _ ((unhide HX2).cli c' hc).here (unhide HX2).fr).mono ?_; rintro r w3 ⟨rfl, rfl⟩))
        go_ret
        obtain ⟨r1, r2⟩ := (unhide HX2).leave hc
        exact ⟨rfl, r1, (unhide HM2).trans r2⟩
end

section
variable {w : World} {b : Nat} {ρ : Nat → Option Role} {σ : Net}

end

section
variable {w : World} {b : Nat} {ρ : Nat → Option Role} {σ : Net}

end

end Go.Proofs.Ytodfcpblcpogiaa

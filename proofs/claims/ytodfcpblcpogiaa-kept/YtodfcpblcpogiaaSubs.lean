/-
  A client's subscription begins, and ends.
-/
import Derived.Test.YtodfcpblcpogiaaFnew
import Derived.Test.YtodfcpblcpogiaaSlot
namespace Go.Proofs.Ytodfcpblcpogiaa
open Go.RowKit

set_option maxRecDepth 100000 in
set_option maxHeartbeats 1000000 in
theorem take_any (b o : Nat) (age A : Int) (l : List Tst) (w : World) (hA : wrap64 (age + 1) = A) (hex : ∀ j, j < 13 → ∃ u, w.cell? ⟨b, o + 0 + j, none⟩ = some u) (h1 : w.cell? ⟨b, o + 1, none⟩ = some (int age)) (hfr : ∀ o, w.frozen? ⟨b, o, none⟩ = false) :
    Calls Try.prog 78 #[.pointer (some ⟨b, o, none⟩), filV l] w fun e w' => e = .returned (.tuple #[]) ∧ ∃ W, Calm w W ∧ w' = ((setFrom W b o 0 (slotCells true A (encFil l) (.map (some W.heap.size)))).alloc (.map #[] 0)).drew := by
  subst hA
  have hmm := @run_makeMap Try.prog
  have hb := block_lt_of_cell h1
  simp only at hb
  obtain ⟨u0, g0⟩ := hex 0 (by omega)
  obtain ⟨u2, g2⟩ := hex 2 (by omega)
  obtain ⟨u3, g3⟩ := hex 3 (by omega)
  obtain ⟨u4, g4⟩ := hex 4 (by omega)
  obtain ⟨u5, g5⟩ := hex 5 (by omega)
  obtain ⟨u6, g6⟩ := hex 6 (by omega)
  obtain ⟨u7, g7⟩ := hex 7 (by omega)
  obtain ⟨u8, g8⟩ := hex 8 (by omega)
  obtain ⟨u9, g9⟩ := hex 9 (by omega)
  obtain ⟨u10, g10⟩ := hex 10 (by omega)
  obtain ⟨u11, g11⟩ := hex 11 (by omega)
  obtain ⟨u12, g12⟩ := hex 12 (by omega)
  simp only [Nat.add_zero] at g0 g2 g3 g4 g5 g6 g7 g8 g9 g10 g11 g12
  clear hex
  go_enter Try.func78, Try.ntmps78
  go_wp2
  obtain ⟨W, hW⟩ : ∃ W, w.alloc (.cells #[int (tstAt l 0).fld, int (tstAt l 0).op, int (tstAt l 0).n, int (tstAt l 1).fld, int (tstAt l 1).op, int (tstAt l 1).n, int (tstAt l 2).fld, int (tstAt l 2).op, int (tstAt l 2).n, int l.length] 102) = W := ⟨_, rfl⟩
  rw [hW]
  have hcal : Calm w W := by rw [← hW]; exact (Touch.refl _ _).alloc _
  have hbx : W.heap[w.heap.size]? = some (.cells #[int (tstAt l 0).fld, int (tstAt l 0).op, int (tstAt l 0).n, int (tstAt l 1).fld, int (tstAt l 1).op, int (tstAt l 1).n, int (tstAt l 2).fld, int (tstAt l 2).op, int (tstAt l 2).n, int l.length] 102) := by rw [← hW]; exact heap_alloc_new w _
  have hWs : w.heap.size < W.heap.size := (Array.getElem?_eq_some_iff.1 hbx).1
  have hbW : b < W.heap.size := by omega
  have hfz : ∀ o', W.frozen? ⟨b, o', none⟩ = false := fun o' => (World.frozen?_of_block (w := w) (a := ⟨b, o', none⟩) (hcal.block b hb (fun f => f))).trans (hfr o')
  have s0 : W.cell? ⟨w.heap.size, 0, none⟩ = some (int (tstAt l 0).fld) := box_cell hbx 0
  have s1 : W.cell? ⟨w.heap.size, 1, none⟩ = some (int (tstAt l 0).op) := box_cell hbx 1
  have s2 : W.cell? ⟨w.heap.size, 2, none⟩ = some (int (tstAt l 0).n) := box_cell hbx 2
  have s3 : W.cell? ⟨w.heap.size, 3, none⟩ = some (int (tstAt l 1).fld) := box_cell hbx 3
  have s4 : W.cell? ⟨w.heap.size, 4, none⟩ = some (int (tstAt l 1).op) := box_cell hbx 4
  have s5 : W.cell? ⟨w.heap.size, 5, none⟩ = some (int (tstAt l 1).n) := box_cell hbx 5
  have s6 : W.cell? ⟨w.heap.size, 6, none⟩ = some (int (tstAt l 2).fld) := box_cell hbx 6
  have s7 : W.cell? ⟨w.heap.size, 7, none⟩ = some (int (tstAt l 2).op) := box_cell hbx 7
  have s8 : W.cell? ⟨w.heap.size, 8, none⟩ = some (int (tstAt l 2).n) := box_cell hbx 8
  have s9 : W.cell? ⟨w.heap.size, 9, none⟩ = some (int l.length) := box_cell hbx 9
  have e0 := hcal.cell (p := ⟨b, o, none⟩) (fun f => f) g0
  have e2 := hcal.cell (p := ⟨b, o + 2, none⟩) (fun f => f) g2
  have e3 := hcal.cell (p := ⟨b, o + 3, none⟩) (fun f => f) g3
  have e4 := hcal.cell (p := ⟨b, o + 4, none⟩) (fun f => f) g4
  have e5 := hcal.cell (p := ⟨b, o + 5, none⟩) (fun f => f) g5
  have e6 := hcal.cell (p := ⟨b, o + 6, none⟩) (fun f => f) g6
  have e7 := hcal.cell (p := ⟨b, o + 7, none⟩) (fun f => f) g7
  have e8 := hcal.cell (p := ⟨b, o + 8, none⟩) (fun f => f) g8
  have e9 := hcal.cell (p := ⟨b, o + 9, none⟩) (fun f => f) g9
  have e10 := hcal.cell (p := ⟨b, o + 10, none⟩) (fun f => f) g10
  have e11 := hcal.cell (p := ⟨b, o + 11, none⟩) (fun f => f) g11
  have e12 := hcal.cell (p := ⟨b, o + 12, none⟩) (fun f => f) g12
  have e1 := hcal.cell (p := ⟨b, o + 1, none⟩) (fun f => f) h1
  have HC := hide hcal
  clear hW hcal hbx g0 g2 g3 g4 g5 g6 g7 g8 g9 g10 g11 g12 h1 hfr
  go_region
  all_goals go_end0
  all_goals exact ⟨rfl, W, unhide HC, rfl⟩

set_option maxRecDepth 100000 in
set_option maxHeartbeats 1000000 in
theorem free_any (b o : Nat) (age : Int) (w : World) (hex : ∀ j, j < 13 → ∃ u, w.cell? ⟨b, o + 0 + j, none⟩ = some u) (h1 : w.cell? ⟨b, o + 1, none⟩ = some (int age)) (hfr : ∀ o, w.frozen? ⟨b, o, none⟩ = false) :
    Calls Try.prog 87 #[.pointer (some ⟨b, o, none⟩)] w fun e w' => e = .returned (.tuple #[]) ∧ Calm (setFrom w b o 0 (slotCells false age noFil (.map none))) w' := by
  obtain ⟨u0, g0⟩ := hex 0 (by omega)
  obtain ⟨u2, g2⟩ := hex 2 (by omega)
  obtain ⟨u3, g3⟩ := hex 3 (by omega)
  obtain ⟨u4, g4⟩ := hex 4 (by omega)
  obtain ⟨u5, g5⟩ := hex 5 (by omega)
  obtain ⟨u6, g6⟩ := hex 6 (by omega)
  obtain ⟨u7, g7⟩ := hex 7 (by omega)
  obtain ⟨u8, g8⟩ := hex 8 (by omega)
  obtain ⟨u9, g9⟩ := hex 9 (by omega)
  obtain ⟨u10, g10⟩ := hex 10 (by omega)
  obtain ⟨u11, g11⟩ := hex 11 (by omega)
  obtain ⟨u12, g12⟩ := hex 12 (by omega)
  simp only [Nat.add_zero] at g0 g2 g3 g4 g5 g6 g7 g8 g9 g10 g11 g12
  clear hex
  go_enter Try.func87, Try.ntmps87
  go_wp2
  first
    | (go_end0; exact ⟨rfl, Touch.refl _ _⟩)
    | (go_region
       all_goals go_end0
       all_goals exact ⟨rfl, (Touch.refl _ _).drew⟩)

/-- A client with one subscription more. -/
def Cli.subs (x : Cli) (k : Nat) (l : List Tst) : Cli := { x with used := put x.used k true, age := put x.age k (x.age k + 1), fl := put x.fl k l, told := put x.told k [] }
/-- .. with one less. -/
def Cli.ends (x : Cli) (k : Nat) : Cli := { x with used := put x.used k false }

theorem int_of_encFil (l : List Tst) : ∀ v, v ∈ encFil l → ∃ z, v = int z := by
  intro v hv
  simp only [encFil, Tst.enc, List.cons_append, List.nil_append, List.mem_cons, List.not_mem_nil, or_false] at hv
  rcases hv with rfl | rfl | rfl | rfl | rfl | rfl | rfl | rfl | rfl | rfl <;> exact ⟨_, rfl⟩

theorem XN.subs {w W w' : World} {b : Nat} {ρ : Nat → Option Role} {σ : Net} (h : XN w b ρ σ) {c k : Nat} (hc : c < 4) (hk : k < 2) (l : List Tst) (t : Calm w W) (hw : w' = ((setFrom W b (86 + c * 31 + 4 + k * 13) 0 (slotCells true ((σ.cl c).age k + 1) (encFil l) (.map (some W.heap.size)))).alloc (.map #[] 0)).drew) :
    XN w' b (roleAt ρ W.heap.size (.map c k)) (σ.setCl c ((σ.cl c).subs k l)) ∧ Mv (fun r => r = .net) ρ (roleAt ρ W.heap.size (.map c k)) w w' := by
  have hX := h.calm t
  obtain ⟨V, hV⟩ : ∃ V, V = setFrom W b (86 + c * 31 + 4 + k * 13) 0 (slotCells true ((σ.cl c).age k + 1) (encFil l) (.map (some W.heap.size))) := ⟨_, rfl⟩
  have hs : V.heap.size = W.heap.size := by rw [hV]; exact setFrom_size _ _ _ _ _
  rw [← hV] at hw
  have hcV : Calm V w' := by rw [hw]; exact ((Touch.refl _ _).alloc _).drew
  have hws : w'.heap.size = W.heap.size + 1 := by rw [hw]; show (V.alloc _).heap.size = _; rw [World.size_alloc, hs]
  have hmap : w'.ownsMap (H := Nat) Try.prog 176 (plainElem Try.prog 3) W.heap.size 0 (.map []) := by
    have := World.ownsMap_made (H := Nat) V Try.prog 176 (plainElem Try.prog 3)
    rw [hs] at this
    rw [hw]; exact this
  have hu : ((σ.cl c).subs k l).used k = true := by simp [Cli.subs]
  have ha : ((σ.cl c).subs k l).age k = (σ.cl c).age k + 1 := by simp [Cli.subs]
  have hf : ((σ.cl c).subs k l).fl k = l := by simp [Cli.subs]
  have ht : ((σ.cl c).subs k l).told k = [] := by simp [Cli.subs]
  obtain ⟨r1, r2⟩ := hX.slotSet (W := w') (ρ' := roleAt ρ W.heap.size (.map c k)) hc hk (x := (σ.cl c).subs k l) (fil := encFil l) (hd := .map (some W.heap.size)) (by simp [encFil, Tst.enc]) (by rw [hu, ha, ← hV]; exact hcV)
    (fun i hi => by unfold roleAt; rw [if_neg (by omega)]) (fun i hi => by
      unfold roleAt at hi
      split at hi
      · omega
      · have := hX.lt i hi; omega) rfl rfl rfl rfl rfl (fun j hj => by simp [Cli.subs, put_other _ _ hj]) (int_of_encFil l) (fun _ => by rw [hf]) (by
      rw [hu, ht]
      unfold HeardAt
      rw [if_pos rfl]
      exact ⟨W.heap.size, 0, _, rfl, by simp [roleAt], hmap, Nat.le_refl _, fun p st kl _ => rfl⟩)
  exact ⟨r1, (Mv.calm h.lt t).trans r2⟩

theorem XN.ends {w w' : World} {b : Nat} {ρ : Nat → Option Role} {σ : Net} (h : XN w b ρ σ) {c k : Nat} (hc : c < 4) (hk : k < 2) (t : Calm (setFrom w b (86 + c * 31 + 4 + k * 13) 0 (slotCells false ((σ.cl c).age k) noFil (.map none))) w') :
    XN w' b ρ (σ.setCl c ((σ.cl c).ends k)) ∧ Mv (fun r => r = .net) ρ ρ w w' := by
  have hu : ((σ.cl c).ends k).used k = false := by simp [Cli.ends]
  have ha : ((σ.cl c).ends k).age k = (σ.cl c).age k := rfl
  have hs := setFrom_size b (86 + c * 31 + 4 + k * 13) (slotCells false ((σ.cl c).age k) noFil (.map none)) 0 w
  exact h.slotSet (W := w') (ρ' := ρ) hc hk (x := (σ.cl c).ends k) (fil := noFil) (hd := .map none) rfl (by rw [hu, ha]; exact t) (fun _ _ => rfl) (fun i hi => by have := h.lt i hi; have := t.size; omega) rfl rfl rfl rfl rfl (fun j hj => by simp [Cli.ends, put_other _ _ hj]) (fun v hv => by simp [noFil] at hv; exact ⟨0, hv⟩) (fun e => by rw [hu] at e; cases e) (by
    rw [hu]; unfold HeardAt; simp)

set_option maxRecDepth 100000 in
set_option maxHeartbeats 1000000 in
theorem clientSub_any {w : World} {b : Nat} {ρ : Nat → Option Role} {σ : Net} (h : XN w b ρ σ) {c k : Nat} (hc : c < 4) (hk : k < 2) (l : List Tst) (hage : -1 ≤ (σ.cl c).age k ∧ (σ.cl c).age k < 2199023255552) :
    Calls Try.prog 47 #[.pointer (some ⟨b, 86 + c * 31, none⟩), int k, filV l] w fun e w' => e = .returned (int ((σ.cl c).age k + 1)) ∧ ∃ ρ', XN w' b ρ' (σ.setCl c ((σ.cl c).subs k l)) ∧ Mv (fun r => r = .net) ρ ρ' w w' := by
  have C := h.cli c hc
  have u1 := C.age k hk
  have hki : (k : Int) < 2 := by omega
  have hwr : wrap64 ((σ.cl c).age k + 1) = (σ.cl c).age k + 1 := wrap_small (by omega) (by omega)
  have hbl := h.lt b (by rw [h.net]; simp)
  have HX := hide h
  clear C h
  go_enter Try.func47, Try.ntmps47
  go_wp2
  obtain ⟨W0, hW0⟩ : ∃ W0, w.alloc (.cells #[int (tstAt l 0).fld, int (tstAt l 0).op, int (tstAt l 0).n, int (tstAt l 1).fld, int (tstAt l 1).op, int (tstAt l 1).n, int (tstAt l 2).fld, int (tstAt l 2).op, int (tstAt l 2).n, int l.length] 102) = W0 := ⟨_, rfl⟩
  rw [hW0]
  have hcal : Calm w W0.drew := by rw [← hW0]; exact ((Touch.refl _ _).alloc _).drew
  have hbx : W0.heap[w.heap.size]? = some (.cells #[int (tstAt l 0).fld, int (tstAt l 0).op, int (tstAt l 0).n, int (tstAt l 1).fld, int (tstAt l 1).op, int (tstAt l 1).n, int (tstAt l 2).fld, int (tstAt l 2).op, int (tstAt l 2).n, int l.length] 102) := by rw [← hW0]; exact heap_alloc_new w _
  have s0 : W0.cell? ⟨w.heap.size, 0, none⟩ = some (int (tstAt l 0).fld) := box_cell hbx 0
  have s1 : W0.cell? ⟨w.heap.size, 1, none⟩ = some (int (tstAt l 0).op) := box_cell hbx 1
  have s2 : W0.cell? ⟨w.heap.size, 2, none⟩ = some (int (tstAt l 0).n) := box_cell hbx 2
  have s3 : W0.cell? ⟨w.heap.size, 3, none⟩ = some (int (tstAt l 1).fld) := box_cell hbx 3
  have s4 : W0.cell? ⟨w.heap.size, 4, none⟩ = some (int (tstAt l 1).op) := box_cell hbx 4
  have s5 : W0.cell? ⟨w.heap.size, 5, none⟩ = some (int (tstAt l 1).n) := box_cell hbx 5
  have s6 : W0.cell? ⟨w.heap.size, 6, none⟩ = some (int (tstAt l 2).fld) := box_cell hbx 6
  have s7 : W0.cell? ⟨w.heap.size, 7, none⟩ = some (int (tstAt l 2).op) := box_cell hbx 7
  have s8 : W0.cell? ⟨w.heap.size, 8, none⟩ = some (int (tstAt l 2).n) := box_cell hbx 8
  have s9 : W0.cell? ⟨w.heap.size, 9, none⟩ = some (int l.length) := box_cell hbx 9
  have HX0 := hide ((unhide HX).calm hcal)
  have HM0 : Hid (Mv (fun r => r = .net) ρ ρ w W0.drew) := Mv.calm (unhide HX).lt hcal
  clear hW0 hbx hcal u1
  go_region_with (go_at_call 78; refine (take_any b (86 + c * 31 + 4 + k * 13) ((σ.cl c).age k) ((σ.cl c).age k + 1) l W0.drew hwr (((unhide HX0).cli c hc).slotEx hk) (((unhide HX0).cli c hc).age k hk) (unhide HX0).fr).mono ?_; rintro e w1 ⟨rfl, W1, ht1, hw1⟩
                  obtain ⟨r1, r2⟩ := (unhide HX0).subs hc hk l ht1 hw1
                  have q1 := (r1.cli c hc).age k hk
                  rw [show (σ.setCl c ((σ.cl c).subs k l)).cl c = (σ.cl c).subs k l by simp [Net.setCl], show ((σ.cl c).subs k l).age k = (σ.cl c).age k + 1 by simp [Cli.subs]] at q1
                  have R1 := hide r1
                  have R2 := hide ((unhide HM0).trans r2)
                  clear r1 r2 hw1 ht1)
  all_goals go_wp2
  all_goals go_ret
  all_goals exact ⟨rfl, _, unhide R1, unhide R2⟩

set_option maxRecDepth 100000 in
set_option maxHeartbeats 1000000 in
theorem clientUnsub_any {w : World} {b : Nat} {ρ : Nat → Option Role} {σ : Net} (h : XN w b ρ σ) {c k : Nat} (hc : c < 4) (hk : k < 2) :
    Calls Try.prog 61 #[.pointer (some ⟨b, 86 + c * 31, none⟩), int k] w fun e w' => e = .returned (int ((σ.cl c).age k)) ∧ XN w' b ρ (σ.setCl c ((σ.cl c).ends k)) ∧ Mv (fun r => r = .net) ρ ρ w w' := by
  have hki : (k : Int) < 2 := by omega
  have hbl := h.lt b (by rw [h.net]; simp)
  have HX := hide h
  clear h
  go_enter Try.func61, Try.ntmps61
  go_wp2_with (go_at_call 87; refine (free_any b (86 + c * 31 + 4 + k * 13) ((σ.cl c).age k) _ (((unhide HX).cli c hc).slotEx hk) (((unhide HX).cli c hc).age k hk) (unhide HX).fr).mono ?_; rintro e w1 ⟨rfl, ht1⟩
               obtain ⟨r1, r2⟩ := (unhide HX).ends hc hk ht1
               have q1 := (r1.cli c hc).age k hk
               rw [show (σ.setCl c ((σ.cl c).ends k)).cl c = (σ.cl c).ends k by simp [Net.setCl], show ((σ.cl c).ends k).age k = (σ.cl c).age k by rfl] at q1
               have R1 := hide r1
               have R2 := hide r2
               clear r1 r2 ht1)
  go_ret
  exact ⟨rfl, unhide R1, unhide R2⟩

end Go.Proofs.Ytodfcpblcpogiaa

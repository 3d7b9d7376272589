/-
  What was kept is told.
-/
import Derived.Test.YtodfcpblcpogiaaXtell
namespace Go.Proofs.Ytodfcpblcpogiaa
open Go.RowKit

set_option maxHeartbeats 400000 in
theorem notesLost_any (k m : Int) (w : World) : Calls Try.prog 103 #[int k, int m] w fun e w' => e = .returned (.agg #[int k, int m, int 0, int 0, int 0, int 0, int 0, int 0]) ∧ Calm w w' := by
  go_enter Try.func103, Try.ntmps103
  go_wp2
  exact bodyPost_ret (v := .agg #[int k, int m, int 0, int 0, int 0, int 0, int 0, int 0]) (by simp [results, Try.results103, go_sem]) rfl ⟨rfl, (Touch.refl _ _).alloc _⟩

set_option maxRecDepth 100000 in
set_option maxHeartbeats 400000 in
theorem hear_lost (b o : Nat) (k m : Int) (w : World) (ht : w.cell? ⟨b, o, none⟩ = some (.bool true)) (hm : 0 < m) :
    Calls Try.prog 92 #[.pointer (some ⟨b, o, none⟩), .agg #[int k, int m, int 0, int 0, int 0, int 0, int 0, int 0]] w fun e w' => e = .returned (.bool true) ∧ Calm w w' := by
  have hb := block_lt_of_cell ht
  simp only at hb
  go_enter Try.func92, Try.ntmps92
  go_wp2
  go_ret
  exact ⟨rfl, (Touch.refl _ _).alloc _⟩

set_option maxRecDepth 100000 in
set_option maxHeartbeats 1000000 in
theorem lost_walk (b o k m : Nat) (mo : Int) (vl : Value) (cells : List Value) (w : World) (hk : k < 2) (ht : w.cell? ⟨b, o + 4 + k * 13, none⟩ = some (.bool true)) (hfr : ∀ o, w.frozen? ⟨b, o, none⟩ = false) (hmo : 0 < mo)
    (hlog : w.cell? ⟨b, o + 30, none⟩ = some vl) (hrow : w.ownsRow 0 65 7 vl m cells) (hmm : m < 2199023255552) (hvb : vl.ownBlock ≠ some b) :
    Calls Try.prog 72 #[.pointer (some ⟨b, o, none⟩), .agg #[int k, int mo, int 0, int 0, int 0, int 0, int 0, int 0]] w fun e w' => e = .returned (.tuple #[]) ∧
      ∃ w1 w2 g cap, Calm w w1 ∧ Grew 0 65 7 vl (m + 1) (cells ++ [int k, int mo, int 0, int 0, int 0, int 0, int 0]) w1 g cap w2 ∧ w' = w2.setCell ⟨b, o + 30, none⟩ (.slice (some ⟨g, 0, none⟩) (m + 1) cap) := by
  have hb := block_lt_of_cell ht
  simp only at hb
  obtain ⟨W, hW⟩ : ∃ W, w.alloc (.cells #[int k, int mo, int 0, int 0, int 0, int 0, int 0, int 0] 163) = W := ⟨_, rfl⟩
  have hcal : Calm w W := by rw [← hW]; exact (Touch.refl _ _).alloc _
  have hb0 : W.heap[w.heap.size]? = some (.cells #[int k, int mo, int 0, int 0, int 0, int 0, int 0, int 0] 163) := by rw [← hW]; exact heap_alloc_new w _
  have c0 : W.cell? ⟨w.heap.size, 0, none⟩ = some (int k) := box_cell hb0 0
  have c1 : W.cell? ⟨w.heap.size, 1, none⟩ = some (int mo) := box_cell hb0 1
  have c2 : W.cell? ⟨w.heap.size, 2, none⟩ = some (int 0) := box_cell hb0 2
  have c3 : W.cell? ⟨w.heap.size, 3, none⟩ = some (int 0) := box_cell hb0 3
  have c4 : W.cell? ⟨w.heap.size, 4, none⟩ = some (int 0) := box_cell hb0 4
  have c5 : W.cell? ⟨w.heap.size, 5, none⟩ = some (int 0) := box_cell hb0 5
  have c6 : W.cell? ⟨w.heap.size, 6, none⟩ = some (int 0) := box_cell hb0 6
  have c7 : W.cell? ⟨w.heap.size, 7, none⟩ = some (int 0) := box_cell hb0 7
  have hki : (k : Int) < 2 := by omega
  have ht1 := hcal.cell (p := ⟨b, o + 4 + k * 13, none⟩) (fun f => f) ht
  have HB0 := hide hb0
  have HC := hide hcal
  have HF := hide hfr
  have HT := hide ht1
  have HL := hide (hcal.cell (p := ⟨b, o + 30, none⟩) (fun f => f) hlog)
  have HR := hide hrow
  clear hb0 hcal hfr ht1 ht hlog hrow
  go_enter Try.func72, Try.ntmps72
  go_wp2
  clear hW
  go_cut [12] (fun s wx => s = .bool true ∧ Calm W wx)
  case first =>
    go_region_with (go_at_call 92; refine (hear_lost b (o + 4 + k * 13) k mo _ ?_ hmo).mono ?_; exact unhide HT; rintro r w3 ⟨rfl, h2⟩)
    all_goals go_wp2_with fail
    all_goals go_meet
    all_goals exact ⟨rfl, ((Touch.refl _ _).drew).calm h2⟩
  case rest =>
    obtain ⟨rfl, h2⟩ := hcut
    have d0 := h2.cell (p := ⟨w.heap.size, 0, none⟩) (fun f => f) c0
    have d1 := h2.cell (p := ⟨w.heap.size, 1, none⟩) (fun f => f) c1
    have d2 := h2.cell (p := ⟨w.heap.size, 2, none⟩) (fun f => f) c2
    have d3 := h2.cell (p := ⟨w.heap.size, 3, none⟩) (fun f => f) c3
    have d4 := h2.cell (p := ⟨w.heap.size, 4, none⟩) (fun f => f) c4
    have d5 := h2.cell (p := ⟨w.heap.size, 5, none⟩) (fun f => f) c5
    have d6 := h2.cell (p := ⟨w.heap.size, 6, none⟩) (fun f => f) c6
    have dl := h2.cell (p := ⟨b, o + 30, none⟩) (fun f => f) (unhide HL)
    have hT : Calm w wc := (unhide HC).trans h2
    have hrow2 : wc.ownsRow 0 65 7 vl m cells := ownsRow_keep (unhide HR) hT (fun _ _ f => f)
    have hfz : ∀ o', wc.frozen? ⟨b, o', none⟩ = false := fun o' => (World.frozen?_of_block (w := w) (a := ⟨b, o', none⟩) (hT.block b hb (fun f => f))).trans (unhide HF o')
    have hbc : b < wc.heap.size := Nat.lt_of_lt_of_le hb hT.size
    have hwsz : w.heap.size < wc.heap.size := block_lt_of_cell d0
    have HRW := hide hrow2
    have HTT := hide hT
    have HFZ := hide hfz
    clear h2 c0 c1 c2 c3 c4 c5 c6 c7 hrow2 hT hfz HR HF HL HT HB0 hki
    obtain ⟨ti, i3, z3, s3, b3⟩ := elem65
    have I3 := hide i3
    have Z3 := hide z3
    have S3 := hide s3
    have B3 := hide b3
    clear i3 z3 s3 b3
    have hone : vl.oneCell' = true := by
      rcases (unhide HRW).2 with ⟨rfl, _⟩ | ⟨g, cap, cur, rfl, _⟩ <;> rfl
    go_wp2
    go_region_law (first
      | (refine step_append_mine _ rfl _ _ 48 rfl 0 65 ti (.agg #[int 0, int 0, int 0, int 0, int 0, int 0, int 0]) 7 56 Try.underlying48 (unhide I3) (unhide Z3) (unhide S3) (unhide B3) rfl (by decide) vl m cells rfl ?own ⟨wc.heap.size, 0, none⟩ 1 1 [int k, int mo, int 0, int 0, int 0, int 0, int 0] rfl rfl ?news ?one (by decide) ?h63 ?bytes ?base ?_
         case own => exact ownsRow_keep (unhide HRW) (((Touch.refl (fun _ => False) _).alloc _).drew) (fun _ _ f => f)
         case news => intro j u hj; exact new_cells wc [int k, int mo, int 0, int 0, int 0, int 0, int 0] 65 j u hj
         case one => intro u hu; simp at hu; rcases hu with rfl | rfl | rfl <;> rfl
         case h63 => unfold maxLen; omega
         case bytes => omega
         case base => simp
         intro g2 cp2 w2 hg2
         have hne : ¬ b = g2 := by
           rcases hg2.2.1 with ⟨h, _⟩ | ⟨h, _⟩
           · intro e; exact hvb (by rw [h, e])
           · simp at h; omega
         have ht2 : Touch (fun i => i = g2) wc w2 := by
           rcases hg2.2.1 with ⟨_, h⟩ | ⟨_, h⟩
           · exact Touch.trans (((Touch.refl _ _).alloc _).drew) h
           · exact (((Touch.refl (fun i => i = g2) wc).alloc _).drew).calm h
         have dl2 : w2.cell? ⟨b, o + 30, none⟩ = some vl := ht2.cell (p := ⟨b, o + 30, none⟩) hne dl
         have fz2 : w2.frozen? ⟨b, o + 30, none⟩ = false := (World.frozen?_of_block (w := wc) (a := ⟨b, o + 30, none⟩) (ht2.block b hbc hne)).trans (unhide HFZ _)
         have HG2 := hide hg2
         clear hg2 ht2))
    all_goals go_end0
    all_goals exact ⟨rfl, _, w2, g2, cp2, ((unhide HTT).alloc _).drew, unhide HG2, rfl⟩

/-- The entry of what was lost. -/
def lostEnt (k : Nat) (mo : Int) : Ent := ⟨k, mo, Ev.zero⟩

/-- A client's log grows by an entry. -/
theorem XN.logged {w w1 w2 : World} {b : Nat} {ρ : Nat → Option Role} {σ : Net} (h : XN w b ρ σ) {c : Nat} (hc : c < 4) {en : Ent} {m g cap : Nat} {vl : Value} (hl : w.cell? ⟨b, 86 + c * 31 + 30, none⟩ = some vl) (hrow : RowAt w ρ (.log c) 65 7 m ((σ.cl c).log.flatMap Ent.enc) vl) (hmlen : m = (σ.cl c).log.length)
    (t1 : Calm w w1) (hg : Grew 0 65 7 vl (m + 1) ((σ.cl c).log.flatMap Ent.enc ++ en.enc) w1 g cap w2) :
    XN (w2.setCell ⟨b, 86 + c * 31 + 30, none⟩ (.slice (some ⟨g, 0, none⟩) (m + 1) cap)) b (roleAt ρ g (.log c)) (σ.setCl c { σ.cl c with log := (σ.cl c).log ++ [en] }) ∧
      Mv (fun r => r = .net ∨ r = .log c) ρ (roleAt ρ g (.log c)) w (w2.setCell ⟨b, 86 + c * 31 + 30, none⟩ (.slice (some ⟨g, 0, none⟩) (m + 1) cap)) ∧ Front b w (w2.setCell ⟨b, 86 + c * 31 + 30, none⟩ (.slice (some ⟨g, 0, none⟩) (m + 1) cap)) := by
  have hb : b < w.heap.size := h.lt b (by rw [h.net]; simp)
  obtain ⟨gown, gt, glt⟩ := hg
  have hgr : (ρ g = some (.log c) ∧ vl.ownBlock = some g) ∨ w.heap.size ≤ g := by
    rcases gt with ⟨hv, _⟩ | ⟨hv, _⟩
    · exact Or.inl ⟨hrow.2 g hv, hv⟩
    · right; rw [hv]; exact t1.size
  have hgb : b ≠ g := by
    rcases hgr with ⟨h1, _⟩ | h1
    · intro e1; subst e1; rw [h.net] at h1; cases h1
    · omega
  have t2 : Touch (fun i => i = g) w1 w2 := by
    rcases gt with ⟨_, t⟩ | ⟨_, t⟩
    · exact t
    · exact t.mono (fun _ _ f => f.elim)
  have hkeep : ∀ i, i < w.heap.size → i ≠ g → w2.heap[i]? = w.heap[i]? := fun i hi h2 => (t2.block i (Nat.lt_of_lt_of_le hi t1.size) h2).trans (t1.block i hi (fun f => f))
  obtain ⟨W, hW⟩ : ∃ W, W = w2.setCell ⟨b, 86 + c * 31 + 30, none⟩ (.slice (some ⟨g, 0, none⟩) (m + 1) cap) := ⟨_, rfl⟩
  rw [← hW]
  have hWk : ∀ i, i ≠ b → W.heap[i]? = w2.heap[i]? := fun i hi => by rw [hW]; exact heap_setCell_other w2 _ hi
  have hWs : W.heap.size = w2.heap.size := by rw [hW]; simp [World.setCell]
  have hb2 : w2.heap[b]? = w.heap[b]? := hkeep b hb hgb
  have hcell : ∀ o v, o ≠ 86 + c * 31 + 30 → w.cell? ⟨b, o, none⟩ = some v → W.cell? ⟨b, o, none⟩ = some v := fun o v ho hv => by
    rw [hW]; exact cell_setCell_ne w2 ho (cell_of_heap hb2 hv)
  have hfr : ∀ o, W.frozen? ⟨b, o, none⟩ = false := fun o => by
    rw [hW]; exact frozen_setCell _ _ _ _ _ ((World.frozen?_of_block (w := w) (a := ⟨b, o, none⟩) hb2).trans (h.fr o))
  have hrole : ∀ i, i < w.heap.size → roleAt ρ g (.log c) i = ρ i := fun i hi => by
    unfold roleAt; split
    · rename_i e1; subst e1
      rcases hgr with ⟨h1, _⟩ | h1
      · exact h1.symm
      · omega
    · rfl
  have hmv : Mv (fun r => r = .net ∨ r = .log c) ρ (roleAt ρ g (.log c)) w W := by
    refine ⟨⟨?_, ?_, ?_, ?_, fun i hi hs => ?_⟩, fun i hi => Or.inl (hrole i hi), fun i hi => ?_⟩
    · rw [hW]; exact t2.os.trans t1.os
    · rw [hW]; exact t2.tape.trans t1.tape
    · rw [hW]; exact t2.output.trans t1.output
    · rw [hWs]; exact Nat.le_trans t1.size t2.size
    · have h1 : i ≠ b := fun e1 => hs ⟨.net, by rw [e1]; exact h.net, Or.inl rfl⟩
      have h3 : i ≠ g := fun e1 => by
        subst e1
        rcases hgr with ⟨h3, _⟩ | h3
        · exact hs ⟨.log c, h3, Or.inr rfl⟩
        · omega
      exact (hWk i h1).trans (hkeep i hi h3)
    · rw [hWs]
      unfold roleAt at hi
      split at hi
      · rename_i e1; rw [e1]; exact glt
      · exact Nat.lt_of_lt_of_le (h.lt i hi) (Nat.le_trans t1.size t2.size)
  refine ⟨?_, hmv, fun o v ho hv => hcell o v (by omega) hv⟩
  refine h.step hmv (fun o => o = 86 + c * 31 + 30) (by rw [hW]; exact typ_setCell (by rw [hb2]; exact h.typ) _ _) hfr (fun o v ho => hcell o v ho) rfl rfl (by omega) (by omega) (by simp) (by simp) (by simp)
    (fun x y _ _ => Or.inl ⟨rfl, by omega, by simp⟩) (fun x c k _ _ _ => Or.inl ⟨rfl, by omega, by simp, by simp⟩) (fun d hd => ?_)
  by_cases ed : d = c
  · right
    subst ed
    simp only [Net.setCl, put_same]
    have C := h.cli d hd
    refine ⟨hcell _ _ (by omega) C.here, hcell _ _ (by omega) C.home, hcell _ _ (by omega) C.stays, hcell _ _ (by omega) C.many, fun k' h' => hcell _ _ (by omega) (C.used k' h'), fun k' h' => hcell _ _ (by omega) (C.age k' h'), fun k' h' => (C.fl k' h').keep (fun j v hj => hcell _ _ (by omega)), fun k' h' => ?_, ?_⟩
    · obtain ⟨v, e1, e2⟩ := C.heard k' h'
      refine ⟨v, hcell _ _ (by omega) e1, e2.keep (fun i hi => ?_)⟩
      have hi' := h.lt i (by rw [hi]; simp)
      have h1 : i ≠ b := fun e1 => by subst e1; rw [h.net] at hi; cases hi
      have h3 : i ≠ g := fun e1 => by
        subst e1
        rcases hgr with ⟨h3, _⟩ | h3
        · rw [h3] at hi; cases hi
        · omega
      exact ⟨(hWk i h1).trans (hkeep i hi' h3), hrole i hi'⟩
    · refine ⟨.slice (some ⟨g, 0, none⟩) (m + 1) cap, ?_, ?_, fun g' hg' => ?_⟩
      · rw [hW]
        exact World.cell?_setCell_same w2 _ _ (cell_of_heap hb2 hl)
      · have : ((σ.cl d).log ++ [en]).length = m + 1 := by simp [hmlen]
        rw [this, List.flatMap_append]
        simp only [List.flatMap_cons, List.flatMap_nil, List.append_nil]
        obtain ⟨a1, a2⟩ := gown
        refine ⟨a1, ?_⟩
        rcases a2 with ⟨a2, _⟩ | ⟨g', cap', cur, a3, a4, a5, a6⟩
        · cases a2
        · cases a3
          exact Or.inr ⟨g, cap, cur, rfl, a4, (hWk g (Ne.symm hgb)).trans a5, a6⟩
      · cases hg'
        simp [roleAt]
  · left
    exact ⟨by simp only [Net.setCl, put_other _ _ ed], fun o _ _ => by omega, fun k' => by simp, by simp only [reduceCtorEq, Role.log.injEq, false_or]; exact ed⟩

/-- TELL: how many were lost. -/
theorem loseX {w : World} {b : Nat} {ρ : Nat → Option Role} {σ : Net} (h : XN w b ρ σ) {c k : Nat} (hc : c < 4) (hk : k < 2) {mo : Int} (hmo : 0 < mo) (hu : (σ.cl c).used k = true) (hlen : (σ.cl c).log.length < 2199023255552) :
    Calls Try.prog 72 #[.pointer (some ⟨b, 86 + c * 31, none⟩), .agg #[int k, int mo, int 0, int 0, int 0, int 0, int 0, int 0]] w fun r w' => r = .returned (.tuple #[]) ∧
      ∃ ρ', XN w' b ρ' (σ.lose (2 * c + k) mo) ∧ Mv (tellR c k) ρ ρ' w w' ∧ Front b w w' := by
  have C := h.cli c hc
  obtain ⟨vl, hl1, hl2⟩ := C.log
  have hused := C.used k hk
  rw [hu] at hused
  have h2c : (2 * c + k) / 2 = c := by omega
  have h2k : (2 * c + k) % 2 = k := by omega
  refine (lost_walk b (86 + c * 31) k (σ.cl c).log.length mo vl _ w hk hused h.fr hmo hl1 hl2.1 hlen ?_).mono ?_
  · intro hx; have := hl2.2 b hx; rw [h.net] at this; cases this
  · rintro r w' ⟨rfl, w1, w2, g, cap, t1, hg, rfl⟩
    obtain ⟨r1, r2, r3⟩ := h.logged (en := lostEnt k mo) hc hl1 hl2 rfl t1 hg
    refine ⟨rfl, _, ?_, r2.mono (fun r hr => hr.elim Or.inl (fun e => Or.inr (Or.inr e))), r3⟩
    have : σ.lose (2 * c + k) mo = σ.setCl c { σ.cl c with log := (σ.cl c).log ++ [lostEnt k mo] } := by
      simp only [Net.lose, h2c, h2k, Cli.lose, hmo, if_true, lostEnt]
    rw [this]; exact r1

theorem flatGet8 {k : Nat} : ∀ (l : List News) (i : Nat) (a : News), l[i]? = some a → ∀ j, j < 8 → (l.flatMap (noteOf k))[i * 8 + j]? = (noteOf k a)[j]?
  | [], i, a, h, _, _ => by simp at h
  | x :: l, 0, a, h, j, hj => by
    simp at h; subst h
    simp only [List.flatMap_cons, Nat.zero_mul, Nat.zero_add]
    rw [List.getElem?_append_left (by simp [noteOf, Ev.enc]; omega)]
  | x :: l, i + 1, a, h, j, hj => by
    simp at h
    simp only [List.flatMap_cons]
    have hl : (noteOf k x).length = 8 := by simp [noteOf, Ev.enc]
    rw [List.getElem?_append_right (by rw [hl]; omega), hl]
    have := flatGet8 (k := k) l i a h j hj
    rw [show (i + 1) * 8 + j - 8 = i * 8 + j by omega]
    exact this

/-- The method value c.Tell. -/
abbrev tellV (b c : Nat) : Value := .func (.func 72) #[.pointer (some ⟨b, 86 + c * 31, none⟩)] #[]

/-- Who can be told a list of news. -/
structure CanTell (σ : Net) (c k : Nat) (l : List News) : Prop where
  used : (σ.cl c).used k = true
  ris : Rising ((σ.cl c).told k)
  ok : ∀ e, e ∈ l → e.ok
  log : (σ.cl c).log.length + l.length < 2199023255552
  told : ((σ.cl c).told k).length + l.length < 2199023255552

theorem CanTell.tell {σ : Net} {c k : Nat} (hk : k < 2) {e : News} {l : List News} (h : CanTell σ c k (e :: l)) : CanTell (σ.tell (2 * c + k) e) c k l := by
  have h2c : (2 * c + k) / 2 = c := by omega
  have h2k : (2 * c + k) % 2 = k := by omega
  have hcl : (σ.tell (2 * c + k) e).cl c = (σ.cl c).tell k e := by simp [Net.tell, Net.setCl, h2c, h2k]
  obtain ⟨h1, h2, h3, h4, h5⟩ := h
  have he := h3 e (List.mem_cons_self ..)
  simp only [List.length_cons] at h4 h5
  refine ⟨?_, ?_, fun o ho => h3 o (List.mem_cons_of_mem _ ho), ?_, ?_⟩
  · rw [hcl]; unfold Cli.tell; split <;> exact h1
  · rw [hcl]; unfold Cli.tell; split
    · exact h2
    · rename_i ho
      simp only [put_same]
      exact h2.snoc he.2.2.1 (by simpa using ho)
  · rw [hcl]; unfold Cli.tell; split
    · omega
    · simp; omega
  · rw [hcl]; unfold Cli.tell; split
    · omega
    · simp; omega
theorem CanTell.tells {c k : Nat} (hk : k < 2) : ∀ (l : List News) {σ : Net} {m : List News}, CanTell σ c k (l ++ m) → CanTell (σ.tells (2 * c + k) l) c k m
  | [], _, _, h => h
  | _ :: l, _, _, h => CanTell.tells hk l (h.tell hk)

theorem tells_snoc (σ : Net) (s : Nat) (l : List News) (e : News) : σ.tells s (l ++ [e]) = (σ.tells s l).tell s e := by simp [Net.tells, List.foldl_append]

/-- Loses first, if any were lost. -/
theorem lose_zero (σ : Net) (s : Nat) {mo : Int} (h : ¬ 0 < mo) : σ.lose s mo = σ := by
  have : put σ.cl (s / 2) (σ.cl (s / 2)) = σ.cl := by funext j; simp only [put]; split <;> simp_all
  simp only [Net.lose, Cli.lose, if_neg h, Net.setCl, this]

set_option maxRecDepth 100000 in
set_option maxHeartbeats 1000000 in
/-- TELL of what is kept: the notes alone. -/
theorem keptTell_notes {w : World} {b : Nat} {ρ : Nat → Option Role} {σ : Net} (h : XN w b ρ σ) {c k n sc : Nat} {sa : Option Addr} (hc : c < 4) (hk : k < 2) {l : List News} {mo : Int} (hmo : ¬ 0 < mo) {r : Role} (hr : r ≠ .net ∧ (∀ c k, r ≠ .map c k) ∧ ∀ c, r ≠ .log c) (hrow : RowAt w ρ r 163 8 n (l.flatMap (noteOf k)) (.slice sa n sc)) (hn : n = l.length) (hC : CanTell σ c k l) :
    Calls Try.prog 91 #[.agg #[.slice sa n sc, int mo], int k, tellV b c] w fun e w' => e = .returned (.tuple #[]) ∧ ∃ ρ', XN w' b ρ' (σ.tells (2 * c + k) l) ∧ Mv (tellR c k) ρ ρ' w w' ∧ Front b w w' := by
  have hcells : ∀ j e, l[j]? = some e → ∃ g, sa = some ⟨g, 0, none⟩ ∧ ρ g = some r ∧ ∀ i u, (noteOf k e)[i]? = some u → w.cell? ⟨g, j * 8 + i, none⟩ = some u := fun j e hj => by
    rcases hrow.1.2 with ⟨e1, e0⟩ | ⟨g, cap, cur, e1, _⟩
    · exfalso
      have := (List.getElem?_eq_some_iff.1 hj).1
      omega
    · have hsa : sa = some ⟨g, 0, none⟩ := by cases e1; rfl
      refine ⟨g, hsa, hrow.2 g (by rw [hsa]; rfl), fun i u hu => ?_⟩
      have hi : i < 8 := by have := (List.getElem?_eq_some_iff.1 hu).1; simpa [noteOf, Ev.enc] using this
      have := World.ownsRow.cells hrow.1 (g := g) (by rw [hsa]; rfl) (j * 8 + i) u (by rw [flatGet8 l j e hj i hi]; exact hu)
      rw [Addr.add_mid, Nat.zero_add] at this
      exact this
  have hlen : n < 2199023255552 := by have := hC.log; omega
  have HX := hide h
  have HCE := hide hcells
  have HC := hide hC
  have HR := hide hr
  have HN := hide hn
  clear h hcells hC hrow hr hn
  go_enter Try.func91, Try.ntmps91
  go_wp2
  obtain ⟨W, hW⟩ : ∃ W, w.alloc (.cells #[.slice sa n sc, int mo] 126) = W := ⟨_, rfl⟩
  rw [hW]
  have hcal : Calm w W := by rw [← hW]; exact (Touch.refl _ _).alloc _
  have HX1 := hide ((unhide HX).calm hcal)
  have HM1 : Hid (Mv (tellR c k) ρ ρ w W) := Mv.calm (unhide HX).lt hcal
  have HF1 : Hid (Front b w W) := Front.of_calm hcal
  clear hcal hW
  go_loopw [20] (fun p wr => ∃ j : Nat, j ≤ n ∧ p = int j ∧ ∃ ρ', XN wr b ρ' (σ.tells (2 * c + k) (l.take j)) ∧ Mv (tellR c k) ρ ρ' w wr ∧ Front b w wr) (fun p _ => n - (intOf p).toNat)
  case atStart => exact ⟨0, by omega, rfl, ρ, by simpa [Net.tells] using unhide HX1, unhide HM1, unhide HF1⟩
  case round =>
    obtain ⟨j, hj, rfl, ρ', hXj, hMj, hFj⟩ := hrel
    by_cases hlt : j < n
    · have hlti : (j : Int) < n := by omega
      obtain ⟨e, he⟩ : ∃ e, l[j]? = some e := ⟨l[j]'(by have := unhide HN; omega), List.getElem?_eq_getElem _⟩
      obtain ⟨g, hsa, hrg, hcl⟩ := unhide HCE j e he
      have hblk := hMj.keeps (unhide HX).lt hrg (by obtain ⟨h1, h2, h3⟩ := unhide HR; simp only [tellR, not_or]; exact ⟨h1, h2 c k, h3 c⟩)
      have hgl : g < w.heap.size := (unhide HX).lt g (by rw [hrg]; simp)
      have hglr : g < wr.heap.size := Nat.lt_of_lt_of_le hgl hMj.touch.size
      subst hsa
      have n0 : wr.cell? ⟨g, j * 8, none⟩ = some (int k) := cell_of_heap hblk.1 (hcl 0 _ rfl)
      have n1 : wr.cell? ⟨g, j * 8 + 1, none⟩ = some (int 0) := cell_of_heap hblk.1 (hcl 1 _ rfl)
      have n2 : wr.cell? ⟨g, j * 8 + 2, none⟩ = some (int e.ev.pub) := cell_of_heap hblk.1 (hcl 2 _ rfl)
      have n3 : wr.cell? ⟨g, j * 8 + 3, none⟩ = some (int e.ev.num) := cell_of_heap hblk.1 (hcl 3 _ rfl)
      have n4 : wr.cell? ⟨g, j * 8 + 4, none⟩ = some (int e.ev.f0) := cell_of_heap hblk.1 (hcl 4 _ rfl)
      have n5 : wr.cell? ⟨g, j * 8 + 5, none⟩ = some (int e.ev.f1) := cell_of_heap hblk.1 (hcl 5 _ rfl)
      have n6 : wr.cell? ⟨g, j * 8 + 6, none⟩ = some (int e.ev.f2) := cell_of_heap hblk.1 (hcl 6 _ rfl)
      have n7 : wr.cell? ⟨g, j * 8 + 7, none⟩ = some (int e.stay) := cell_of_heap hblk.1 (hcl 7 _ rfl)
      have hsplit : l = l.take j ++ e :: l.drop (j + 1) := by
        have h1 : l.drop j = e :: l.drop (j + 1) := by
          obtain ⟨hl, rfl⟩ := List.getElem?_eq_some_iff.1 he
          exact List.drop_eq_getElem_cons hl
        rw [← h1, List.take_append_drop]
      have hC2 := CanTell.tells (c := c) (k := k) hk (l.take j) (σ := σ) (m := e :: l.drop (j + 1)) (by rw [← hsplit]; exact unhide HC)
      have htk : l.take (j + 1) = l.take j ++ [e] := by
        obtain ⟨hl, rfl⟩ := List.getElem?_eq_some_iff.1 he
        exact (List.take_append_getElem hl).symm
      have HX2 := hide hXj
      have HM2 := hide hMj
      have HF2 := hide hFj
      have HC2 := hide hC2
      have HTK := hide htk
      clear hXj hMj hFj hC2 hblk hcl hsplit htk he
      go_wp2_with (go_at_call 72; refine (tellX (c := c) (k := k) (e := e) ((unhide HX2).calm ((Touch.refl _ _).alloc _)) hc hk ((unhide HC2).ok e (List.mem_cons_self ..)) (unhide HC2).used (unhide HC2).ris (by have := (unhide HC2).log; simp at this; omega) (by have := (unhide HC2).told; simp at this; omega)).mono ?_; rintro q w3 ⟨rfl, ρ3, h3, m3, _, _, _, f3⟩
                   have HX3 := hide h3
                   have HM3 := hide (((unhide HM2).trans (Mv.calm (unhide HX2).lt ((Touch.refl _ _).alloc _))).trans m3)
                   have HF3 := hide (((unhide HF2).trans (Front.of_calm ((Touch.refl _ _).alloc _))).trans f3)
                   clear h3 m3 f3)
      go_roundw
      case rel => exact ⟨j + 1, by omega, by go_num, ρ3, by rw [unhide HTK, tells_snoc]; exact unhide HX3, unhide HM3, unhide HF3⟩
      case measure => simp [intOf]; omega
    · have hlti : ¬ (j : Int) < n := by omega
      have hje : l.take j = l := List.take_of_length_le (by have := unhide HN; omega)
      have HX2 := hide hXj
      have HM2 := hide hMj
      have HF2 := hide hFj
      clear hXj hMj hFj
      go_wp2
      go_end0
      exact ⟨rfl, ρ', by rw [← hje]; exact unhide HX2, unhide HM2, unhide HF2⟩

set_option maxRecDepth 100000 in
set_option maxHeartbeats 1000000 in
/-- .. and ahead of them how many were lost. -/
theorem keptTell_lost {w : World} {b : Nat} {ρ : Nat → Option Role} {σ : Net} (h : XN w b ρ σ) {c k n sc : Nat} {sa : Option Addr} (hc : c < 4) (hk : k < 2) {l : List News} {mo : Int} (hmo : 0 < mo) {r : Role} (hr : r ≠ .net ∧ (∀ c k, r ≠ .map c k) ∧ ∀ c, r ≠ .log c) (hrow : RowAt w ρ r 163 8 n (l.flatMap (noteOf k)) (.slice sa n sc)) (hn : n = l.length) (hC : CanTell (σ.lose (2 * c + k) mo) c k l) :
    Calls Try.prog 91 #[.agg #[.slice sa n sc, int mo], int k, tellV b c] w fun e w' => e = .returned (.tuple #[]) ∧ ∃ ρ', XN w' b ρ' ((σ.lose (2 * c + k) mo).tells (2 * c + k) l) ∧ Mv (tellR c k) ρ ρ' w w' ∧ Front b w w' := by
  have hcells : ∀ j e, l[j]? = some e → ∃ g, sa = some ⟨g, 0, none⟩ ∧ ρ g = some r ∧ ∀ i u, (noteOf k e)[i]? = some u → w.cell? ⟨g, j * 8 + i, none⟩ = some u := fun j e hj => by
    rcases hrow.1.2 with ⟨e1, e0⟩ | ⟨g, cap, cur, e1, _⟩
    · exfalso
      have := (List.getElem?_eq_some_iff.1 hj).1
      omega
    · have hsa : sa = some ⟨g, 0, none⟩ := by cases e1; rfl
      refine ⟨g, hsa, hrow.2 g (by rw [hsa]; rfl), fun i u hu => ?_⟩
      have hi : i < 8 := by have := (List.getElem?_eq_some_iff.1 hu).1; simpa [noteOf, Ev.enc] using this
      have := World.ownsRow.cells hrow.1 (g := g) (by rw [hsa]; rfl) (j * 8 + i) u (by rw [flatGet8 l j e hj i hi]; exact hu)
      rw [Addr.add_mid, Nat.zero_add] at this
      exact this
  have hlen : n < 2199023255552 := by have := hC.log; omega
  have hlu : (σ.cl c).used k = true ∧ (σ.cl c).log.length < 2199023255552 := by
    have h1 := hC.used
    have h2 := hC.log
    have h2c : (2 * c + k) / 2 = c := by omega
    have hcl : (σ.lose (2 * c + k) mo).cl c = (σ.cl c).lose ((2 * c + k) % 2) mo := by simp [Net.lose, Net.setCl, h2c]
    rw [hcl] at h1 h2
    simp only [Cli.lose, hmo, if_true, List.length_append, List.length_cons, List.length_nil] at h1 h2
    exact ⟨h1, by omega⟩
  have hnr : ρ w.heap.size = none := by
    cases hq : ρ w.heap.size with
    | none => rfl
    | some r => have := h.lt w.heap.size (by rw [hq]; simp); omega
  have HX := hide h
  have HCE := hide hcells
  have HC := hide hC
  have HR := hide hr
  have HN := hide hn
  clear h hcells hC hrow hr hn
  have HNR := hide hnr
  have HLU := hide hlu
  clear hnr hlu
  go_enter Try.func91, Try.ntmps91
  go_wp2_with (first
    | (go_at_call 103; refine (notesLost_any _ _ _).mono ?_; rintro q w1 ⟨rfl, ht1⟩
       have hbx := ht1.box (fun f => f)
       have HX1 := hide ((unhide HX).calm (((Touch.refl _ _).alloc _).calm ht1))
       have HM1 : Hid (Mv (tellR c k) ρ ρ w w1) := Mv.calm (unhide HX).lt (((Touch.refl _ _).alloc _).calm ht1)
       have HF1 : Hid (Front b w w1) := Front.of_calm (((Touch.refl _ _).alloc _).calm ht1)
       have HBX := hide hbx
       have hsz1 : w.heap.size < w1.heap.size := (Array.getElem?_eq_some_iff.1 hbx).1
       clear hbx ht1)
    | (go_at_call 72; refine (loseX (unhide HX1) hc hk hmo (unhide HLU).1 (unhide HLU).2).mono ?_; rintro q w2 ⟨rfl, ρ2, h2, m2, f2⟩
       have hbx2 : w2.heap[w.heap.size]? = some (.cells #[.slice sa n sc, int mo] 126) := (m2.touch.block w.heap.size hsz1 (fun ⟨q, hq, _⟩ => by rw [unhide HNR] at hq; cases hq)).trans (unhide HBX)
       have q0 : w2.cell? ⟨w.heap.size, 0, none⟩ = some (.slice sa n sc) := box_cell hbx2 0
       have HX2 := hide h2
       have HM2 := hide ((unhide HM1).trans m2)
       have HF2 := hide ((unhide HF1).trans f2)
       clear h2 m2 f2 hbx2 HX1 HM1 HF1 HBX))
  go_loopw [20] (fun p wr => ∃ j : Nat, j ≤ n ∧ p = int j ∧ ∃ ρ', XN wr b ρ' ((σ.lose (2 * c + k) mo).tells (2 * c + k) (l.take j)) ∧ Mv (tellR c k) ρ ρ' w wr ∧ Front b w wr) (fun p _ => n - (intOf p).toNat)
  case atStart => exact ⟨0, by omega, rfl, ρ2, by simpa [Net.tells] using unhide HX2, unhide HM2, unhide HF2⟩
  case round =>
    obtain ⟨j, hj, rfl, ρ', hXj, hMj, hFj⟩ := hrel
    clear HX2 HM2 HF2 q0
    by_cases hlt : j < n
    · have hlti : (j : Int) < n := by omega
      obtain ⟨e, he⟩ : ∃ e, l[j]? = some e := ⟨l[j]'(by have := unhide HN; omega), List.getElem?_eq_getElem _⟩
      obtain ⟨g, hsa, hrg, hcl⟩ := unhide HCE j e he
      have hblk := hMj.keeps (unhide HX).lt hrg (by obtain ⟨h1, h2, h3⟩ := unhide HR; simp only [tellR, not_or]; exact ⟨h1, h2 c k, h3 c⟩)
      have hgl : g < w.heap.size := (unhide HX).lt g (by rw [hrg]; simp)
      have hglr : g < wr.heap.size := Nat.lt_of_lt_of_le hgl hMj.touch.size
      subst hsa
      have n0 : wr.cell? ⟨g, j * 8, none⟩ = some (int k) := cell_of_heap hblk.1 (hcl 0 _ rfl)
      have n1 : wr.cell? ⟨g, j * 8 + 1, none⟩ = some (int 0) := cell_of_heap hblk.1 (hcl 1 _ rfl)
      have n2 : wr.cell? ⟨g, j * 8 + 2, none⟩ = some (int e.ev.pub) := cell_of_heap hblk.1 (hcl 2 _ rfl)
      have n3 : wr.cell? ⟨g, j * 8 + 3, none⟩ = some (int e.ev.num) := cell_of_heap hblk.1 (hcl 3 _ rfl)
      have n4 : wr.cell? ⟨g, j * 8 + 4, none⟩ = some (int e.ev.f0) := cell_of_heap hblk.1 (hcl 4 _ rfl)
      have n5 : wr.cell? ⟨g, j * 8 + 5, none⟩ = some (int e.ev.f1) := cell_of_heap hblk.1 (hcl 5 _ rfl)
      have n6 : wr.cell? ⟨g, j * 8 + 6, none⟩ = some (int e.ev.f2) := cell_of_heap hblk.1 (hcl 6 _ rfl)
      have n7 : wr.cell? ⟨g, j * 8 + 7, none⟩ = some (int e.stay) := cell_of_heap hblk.1 (hcl 7 _ rfl)
      have hsplit : l = l.take j ++ e :: l.drop (j + 1) := by
        have h1 : l.drop j = e :: l.drop (j + 1) := by
          obtain ⟨hl, rfl⟩ := List.getElem?_eq_some_iff.1 he
          exact List.drop_eq_getElem_cons hl
        rw [← h1, List.take_append_drop]
      have hC2 := CanTell.tells (c := c) (k := k) hk (l.take j) (σ := σ.lose (2 * c + k) mo) (m := e :: l.drop (j + 1)) (by rw [← hsplit]; exact unhide HC)
      have htk : l.take (j + 1) = l.take j ++ [e] := by
        obtain ⟨hl, rfl⟩ := List.getElem?_eq_some_iff.1 he
        exact (List.take_append_getElem hl).symm
      have HX2 := hide hXj
      have HM2 := hide hMj
      have HF2 := hide hFj
      have HC2 := hide hC2
      have HTK := hide htk
      clear hXj hMj hFj hC2 hblk hcl hsplit htk he
      go_wp2_with (go_at_call 72; refine (tellX (c := c) (k := k) (e := e) ((unhide HX2).calm ((Touch.refl _ _).alloc _)) hc hk ((unhide HC2).ok e (List.mem_cons_self ..)) (unhide HC2).used (unhide HC2).ris (by have := (unhide HC2).log; simp at this; omega) (by have := (unhide HC2).told; simp at this; omega)).mono ?_; rintro q w3 ⟨rfl, ρ3, h3, m3, _, _, _, f3⟩
                   have HX3 := hide h3
                   have HM3 := hide (((unhide HM2).trans (Mv.calm (unhide HX2).lt ((Touch.refl _ _).alloc _))).trans m3)
                   have HF3 := hide (((unhide HF2).trans (Front.of_calm ((Touch.refl _ _).alloc _))).trans f3)
                   clear h3 m3 f3)
      go_roundw
      case rel => exact ⟨j + 1, by omega, by go_num, ρ3, by rw [unhide HTK, tells_snoc]; exact unhide HX3, unhide HM3, unhide HF3⟩
      case measure => simp [intOf]; omega
    · have hlti : ¬ (j : Int) < n := by omega
      have hje : l.take j = l := List.take_of_length_le (by have := unhide HN; omega)
      have HX2 := hide hXj
      have HM2 := hide hMj
      have HF2 := hide hFj
      clear hXj hMj hFj
      go_wp2
      go_end0
      exact ⟨rfl, ρ', by rw [← hje]; exact unhide HX2, unhide HM2, unhide HF2⟩

/-- KEPT.TELL. -/
theorem keptTellX {w : World} {b : Nat} {ρ : Nat → Option Role} {σ : Net} (h : XN w b ρ σ) {c k n sc : Nat} {sa : Option Addr} (hc : c < 4) (hk : k < 2) {l : List News} {mo : Int} {r : Role} (hr : r ≠ .net ∧ (∀ c k, r ≠ .map c k) ∧ ∀ c, r ≠ .log c) (hrow : RowAt w ρ r 163 8 n (l.flatMap (noteOf k)) (.slice sa n sc)) (hn : n = l.length) (hC : CanTell (σ.lose (2 * c + k) mo) c k l) :
    Calls Try.prog 91 #[.agg #[.slice sa n sc, int mo], int k, tellV b c] w fun e w' => e = .returned (.tuple #[]) ∧ ∃ ρ', XN w' b ρ' ((σ.lose (2 * c + k) mo).tells (2 * c + k) l) ∧ Mv (tellR c k) ρ ρ' w w' ∧ Front b w w' := by
  by_cases hmo : 0 < mo
  · exact keptTell_lost h hc hk hmo hr hrow hn hC
  · rw [lose_zero σ _ hmo] at hC ⊢
    exact keptTell_notes h hc hk hmo hr hrow hn hC

end Go.Proofs.Ytodfcpblcpogiaa

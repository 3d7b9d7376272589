/-
  Telling, and keeping.
-/
import Derived.Test.YtodfcpblcpogiaaApp
namespace Go.Proofs.Ytodfcpblcpogiaa
open Go.RowKit

set_option maxRecDepth 100000 in
set_option maxHeartbeats 1000000 in
theorem tell_walk (b o k mb n m : Nat) (D : DataW Nat) (kl : Lit) (p num f0 f1 f2 st c : Int) (vl : Value) (cells : List Value) (w : World) (hk : k < 2)
    (ht : w.cell? ⟨b, o + 4 + k * 13, none⟩ = some (.bool true)) (hm : w.cell? ⟨b, o + 4 + k * 13 + 12, none⟩ = some (.map (some mb))) (hfr : ∀ o, w.frozen? ⟨b, o, none⟩ = false)
    (hown : w.ownsMap Try.prog 176 (plainElem Try.prog 3) mb n D) (hn : n < maxLen) (hkey : keyOf Try.prog 176 (.agg #[int p, int st]) = some kl) (hat : D.atKey kl (.lit (.int .i64 0)) = .lit (.int .i64 c)) (hwf : (Lit.int .i64 num).wf = true)
    (hlog : w.cell? ⟨b, o + 30, none⟩ = some vl) (hrow : w.ownsRow 0 65 7 vl m cells) (hmm : m < 2199023255552) (hbm : b ≠ mb) (hvb : vl.ownBlock ≠ some b) (hvm : vl.ownBlock ≠ some mb) :
    Calls Try.prog 72 #[.pointer (some ⟨b, o, none⟩), .agg #[int k, int 0, int p, int num, int f0, int f1, int f2, int st]] w fun e w' => e = .returned (.tuple #[]) ∧
      ((num ≤ c ∧ Calm w w') ∨ (c < num ∧ ∃ w1 w2 g cap, Touch (fun i => i = mb) w w1 ∧ w1.ownsMap Try.prog 176 (plainElem Try.prog 3) mb (n + 1) (D.put kl (.lit (.int .i64 num))) ∧
        Grew 0 65 7 vl (m + 1) (cells ++ [int k, int 0, int p, int num, int f0, int f1, int f2]) w1 g cap w2 ∧ w' = w2.setCell ⟨b, o + 30, none⟩ (.slice (some ⟨g, 0, none⟩) (m + 1) cap))) := by
  have hb := block_lt_of_cell ht
  simp only at hb
  obtain ⟨W, hW⟩ : ∃ W, w.alloc (.cells #[int k, int 0, int p, int num, int f0, int f1, int f2, int st] 163) = W := ⟨_, rfl⟩
  have hcal : Calm w W := by rw [← hW]; exact (Touch.refl _ _).alloc _
  have hb0 : W.heap[w.heap.size]? = some (.cells #[int k, int 0, int p, int num, int f0, int f1, int f2, int st] 163) := by rw [← hW]; exact heap_alloc_new w _
  have hmb : mb < w.heap.size := by
    obtain ⟨es, cl, h1, _⟩ := hown
    exact (Array.getElem?_eq_some_iff.1 h1).1
  have hown1 : W.ownsMap Try.prog 176 (plainElem Try.prog 3) mb n D := by
    obtain ⟨es, cl, h1, h2⟩ := hown
    exact ⟨es, cl, (hcal.block mb hmb (fun f => f)).trans h1, h2⟩
  have hvlt : ∀ g, vl.ownBlock = some g → g < w.heap.size := fun g hg => by
    rcases hrow.2 with ⟨rfl, _⟩ | ⟨g', cap, cur, rfl, _, h2, _⟩
    · cases hg
    · cases hg; exact (Array.getElem?_eq_some_iff.1 h2).1
  have c0 : W.cell? ⟨w.heap.size, 0, none⟩ = some (int k) := box_cell hb0 0
  have c1 : W.cell? ⟨w.heap.size, 1, none⟩ = some (int 0) := box_cell hb0 1
  have c2 : W.cell? ⟨w.heap.size, 2, none⟩ = some (int p) := box_cell hb0 2
  have c3 : W.cell? ⟨w.heap.size, 3, none⟩ = some (int num) := box_cell hb0 3
  have c4 : W.cell? ⟨w.heap.size, 4, none⟩ = some (int f0) := box_cell hb0 4
  have c5 : W.cell? ⟨w.heap.size, 5, none⟩ = some (int f1) := box_cell hb0 5
  have c6 : W.cell? ⟨w.heap.size, 6, none⟩ = some (int f2) := box_cell hb0 6
  have c7 : W.cell? ⟨w.heap.size, 7, none⟩ = some (int st) := box_cell hb0 7
  have hki : (k : Int) < 2 := by omega
  have ht1 := hcal.cell (p := ⟨b, o + 4 + k * 13, none⟩) (fun f => f) ht
  have hm1 := hcal.cell (p := ⟨b, o + 4 + k * 13 + 12, none⟩) (fun f => f) hm
  have HO := hide hown1
  have HB0 := hide hb0
  have HC := hide hcal
  have HF := hide hfr
  have HT := hide ht1
  have HM := hide hm1
  have HL := hide (hcal.cell (p := ⟨b, o + 30, none⟩) (fun f => f) hlog)
  have HR := hide hrow
  clear hown1 hb0 hcal hfr ht1 hm1 ht hm hlog hrow hown
  go_enter Try.func72, Try.ntmps72
  go_wp2
  clear hW
  go_cut [12] (fun s wx => s = .bool (decide (c < num)) ∧ Hid ((num ≤ c ∧ Calm W wx) ∨ (c < num ∧ Touch (fun i => i = mb) W wx ∧ wx.ownsMap Try.prog 176 (plainElem Try.prog 3) mb (n + 1) (D.put kl (.lit (.int .i64 num))))))
  case first =>
    go_region_with (go_at_call 92; refine (hear_one b (o + 4 + k * 13) mb n D kl k p num f0 f1 f2 st c _ ?_ ?_ ?_ hn hkey hat hwf).mono ?_; exact unhide HT; exact unhide HM; exact unhide HO; rintro r w3 ⟨rfl, h2⟩)
    all_goals go_wp2_with fail
    all_goals go_meet
    all_goals
      refine ⟨rfl, ?_⟩
      rcases unhide h2 with ⟨h1, h2⟩ | ⟨h1, h2, h3⟩
      · exact Or.inl ⟨h1, ((Touch.refl _ _).drew).calm h2⟩
      · exact Or.inr ⟨h1, ((Touch.refl _ _).drew).trans h2, h3⟩
  case rest =>
    obtain ⟨rfl, hd⟩ := hcut
    rcases unhide hd with ⟨h1, h2⟩ | ⟨h1, h2, h3⟩
    · have H2 := hide h2
      clear h2 hd c0 c1 c2 c3 c4 c5 c6 c7
      have h1' : ¬ c < num := by omega
      go_wp2
      go_end0
      first
        | exact ⟨rfl, Or.inl ⟨h1, Touch.trans (unhide HC) (unhide H2)⟩⟩
        | exact ⟨rfl, Or.inl (Touch.trans (unhide HC) (unhide H2))⟩
        | exact ⟨rfl, Touch.trans (unhide HC) (unhide H2)⟩
    · have hs1 : w.heap.size ≠ mb := by omega
      have d0 := h2.cell (p := ⟨w.heap.size, 0, none⟩) hs1 c0
      have d1 := h2.cell (p := ⟨w.heap.size, 1, none⟩) hs1 c1
      have d2 := h2.cell (p := ⟨w.heap.size, 2, none⟩) hs1 c2
      have d3 := h2.cell (p := ⟨w.heap.size, 3, none⟩) hs1 c3
      have d4 := h2.cell (p := ⟨w.heap.size, 4, none⟩) hs1 c4
      have d5 := h2.cell (p := ⟨w.heap.size, 5, none⟩) hs1 c5
      have d6 := h2.cell (p := ⟨w.heap.size, 6, none⟩) hs1 c6
      have dl := h2.cell (p := ⟨b, o + 30, none⟩) hbm (unhide HL)
      have hT : Touch (fun i => i = mb) w wc := Touch.trans ((unhide HC).mono (fun _ _ f => f.elim)) h2
      have hrow2 : wc.ownsRow 0 65 7 vl m cells := ownsRow_keep (unhide HR) hT (fun g hg e => hvm (by rw [hg, e]))
      have hfz : ∀ o', wc.frozen? ⟨b, o', none⟩ = false := fun o' => (World.frozen?_of_block (w := w) (a := ⟨b, o', none⟩) (hT.block b hb hbm)).trans (unhide HF o')
      have hbc : b < wc.heap.size := Nat.lt_of_lt_of_le hb hT.size
      have hwsz : w.heap.size < wc.heap.size := block_lt_of_cell d0
      have HRW := hide hrow2
      have HTT := hide hT
      have H3 := hide h3
      have HFZ := hide hfz
      clear h2 h3 hd c0 c1 c2 c3 c4 c5 c6 c7 hrow2 hT hfz HR HF HL HM HT HO HB0 hkey hat hn hwf hki
      obtain ⟨ti, i3, z3, s3, b3⟩ := elem65
      have I3 := hide i3
      have Z3 := hide z3
      have S3 := hide s3
      have B3 := hide b3
      clear i3 z3 s3 b3
      have hone : vl.oneCell' = true := by
        rcases (unhide HRW).2 with ⟨rfl, _⟩ | ⟨g, cap, cur, rfl, _⟩ <;> rfl
      go_wp2
      go_region_law (first
        | (refine step_append_mine _ rfl _ _ 48 rfl 0 65 ti (.agg #[int 0, int 0, int 0, int 0, int 0, int 0, int 0]) 7 56 Try.underlying48 (unhide I3) (unhide Z3) (unhide S3) (unhide B3) rfl (by decide) vl m cells rfl ?own ⟨wc.heap.size, 0, none⟩ 1 1 [int k, int 0, int p, int num, int f0, int f1, int f2] rfl rfl ?news ?one (by decide) ?h63 ?bytes ?base ?_
           case own => exact ownsRow_keep (unhide HRW) (((Touch.refl (fun _ => False) _).alloc _).drew) (fun _ _ f => f)
           case news => intro j u hj; exact new_cells wc [int k, int 0, int p, int num, int f0, int f1, int f2] 65 j u hj
           case one => intro u hu; simp at hu; rcases hu with rfl | rfl | rfl | rfl | rfl | rfl | rfl <;> rfl
           case h63 => unfold maxLen; omega
           case bytes => omega
           case base => simp
           intro g2 cp2 w2 hg2
           have hne : ¬ b = g2 := by
             rcases hg2.2.1 with ⟨h, _⟩ | ⟨h, _⟩
             · intro e; exact hvb (by rw [h, e])
             · simp at h; omega
           have ht2 : Touch (fun i => i = g2) wc w2 := by
             rcases hg2.2.1 with ⟨_, h⟩ | ⟨_, h⟩
             · exact Touch.trans (((Touch.refl _ _).alloc _).drew) h
             · exact (((Touch.refl (fun i => i = g2) wc).alloc _).drew).calm h
           have dl2 : w2.cell? ⟨b, o + 30, none⟩ = some vl := ht2.cell (p := ⟨b, o + 30, none⟩) hne dl
           have fz2 : w2.frozen? ⟨b, o + 30, none⟩ = false := (World.frozen?_of_block (w := wc) (a := ⟨b, o + 30, none⟩) (ht2.block b hbc hne)).trans (unhide HFZ _)
           have HG2 := hide hg2
           clear hg2 ht2))
      all_goals go_end0
      all_goals
        refine ⟨rfl, Or.inr ⟨h1, _, w2, g2, cp2, ((unhide HTT).alloc _).drew, ?_, unhide HG2, rfl⟩⟩
        obtain ⟨es, cl, e1, e2⟩ := unhide H3
        exact ⟨es, cl, (Below.heap_alloc _ _ _ (Nat.lt_of_lt_of_le hmb (unhide HTT).size)).trans e1, e2⟩

end Go.Proofs.Ytodfcpblcpogiaa

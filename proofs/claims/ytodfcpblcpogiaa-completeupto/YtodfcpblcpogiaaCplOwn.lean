/-
  The statement roverkeep.Complete is proved in its second form: for every tree, script and last number, made out of any numbers, the call returns true, and what was handed in reads behind the call as it read before.
  Its condition: what is read is of bulk at most 1048576.
-/
import Derived.Test.YtodfcpblcpogiaaHact
import Derived.Test.YtodfcpblcpogiaaInn
import Derived.Test.YtodfcpblcpogiaaOpen
import Derived.JoinedCond
import Derived.Test.YtodfcpblcpogiaaHg
namespace Go.Proofs.Ytodfcpblcpogiaa
open Go.RowKit
open Go.ChangeShapes Go.WideShapes Go.ChangeAt Go.RowKit

def missL (l : List News) (fl : List Tst) (told : List Ev) (i0 k : Nat) : Nat := (((l.take k).drop i0).filter fun n => meets fl n.ev && decide (n.ev ∉ told)).length
theorem missL_le (l : List News) (fl : List Tst) (told : List Ev) (i0 k : Nat) : missL l fl told i0 k ≤ k := by
 unfold missL
 refine Nat.le_trans (List.length_filter_le _ _) ?_
 rw [List.length_drop, List.length_take]; omega
theorem missL_up (l : List News) (fl : List Tst) (told : List Ev) (i0 : Nat) {k : Nat} {n : News} (h : l[k]? = some n) (hk : i0 ≤ k) : missL l fl told i0 k ≤ missL l fl told i0 (k + 1) ∧ (meets fl n.ev = true → n.ev ∉ told → missL l fl told i0 (k + 1) = missL l fl told i0 k + 1) := by
 have hlt : k < l.length := (List.getElem?_eq_some_iff.1 h).1
 have e : (l.take (k + 1)).drop i0 = (l.take k).drop i0 ++ [n] := by
  rw [List.take_add_one, h, List.drop_append_of_le_length (by rw [List.length_take]; omega)]
  rfl
 unfold missL
 rw [e, List.filter_append]
 refine ⟨by rw [List.length_append]; omega, fun h1 h2 => ?_⟩
 rw [List.length_append]
 simp [h1, h2]

set_option maxRecDepth 100000 in
set_option maxHeartbeats 2000000 in
theorem complete_walk2 (w : World) (hb : Nat) (l : List News) (ea : Option Addr) (ec : Nat) (hev : w.cell? ⟨hb, 2, none⟩ = some (.slice ea l.length ec)) (hl : l.length ≤ 2199023255552) (hn : NewsAt w ea l)
  (T : Nat → Tk) (hT : ∀ s, s < 8 → TakenAt w hb (15 + s * 5) (T s)) (hlost : ∀ s, s < 8 → 0 ≤ (T s).lost)
  (hon : ∀ s, s < 8 → (T s).on = true → ∃ i0 : Nat, (T s).since = i0 ∧ i0 ≤ l.length ∧ goodFilter (T s).fl = true ∧ (T s).told.length ≤ 2199023255552 ∧ (missL l (T s).fl (T s).told i0 l.length : Int) ≤ (T s).lost) :
  Calls Try.prog 23 #[ptr hb] w fun r w' => r = .returned (.bool true) ∧ Calm w w' := by
 have HEV := hide hev
 have HL := hide hl
 have HN := hide hn
 have HT := hide hT
 have HLO := hide hlost
 have HON := hide hon
 clear hev hl hn hT hlost hon
 go_enter Try.func23, Try.ntmps23
 go_wp2
 go_loopw [3] (fun i wr => ∃ s : Nat, s ≤ 8 ∧ i = int s ∧ Calm w wr) (fun i _ => 8 - (intOf i).toNat)
 case atStart => exact ⟨0, by omega, rfl, Touch.refl _ _⟩
 case round =>
  obtain ⟨s, hs, rfl, ht⟩ := hrel
  obtain ⟨wa, hwa⟩ : ∃ wa, wa = wr := ⟨_, rfl⟩
  subst hwa
  by_cases hs8 : s < 8
  ·obtain ⟨fa, fc, ta, tc, h0, h1, h2, h3, h4, h5, h6⟩ := (unhide HT s hs8).calm ht
   have hlo := unhide HLO s hs8
   have hon := unhide HON s hs8
   obtain ⟨t, htk⟩ : ∃ t, t = T s := ⟨_, rfl⟩
   rw [← htk] at h0 h1 h2 h3 h4 h5 h6 hlo hon
   obtain ⟨on, fl, since, told, lost⟩ := t
   simp only at h0 h1 h2 h3 h4 h5 h6 hon hlo
   have hl0 : (0 : Int) ≤ lost := hlo
   have hsi : (s : Int) < 8 := by omega
   obtain ⟨W, hW⟩ : ∃ W, wa.alloc (.cells #[.bool on, .slice fa fl.length fc, int since, .slice ta told.length tc, int lost] 34) = W := ⟨_, rfl⟩
   have hbx : W.heap[wa.heap.size]? = some (.cells #[.bool on, .slice fa fl.length fc, int since, .slice ta told.length tc, int lost] 34) := by rw [← hW]; exact heap_alloc_new _ _
   have hcal : Calm wa W := by rw [← hW]; exact (Touch.refl _ _).alloc _
   have hfz := fun o => box_frozen hbx o
   have HWW := hide (ht.calm hcal)
   have HFT := hide (h2.calm hcal)
   have HTA := hide (h5.calm hcal)
   have b0 : W.cell? ⟨wa.heap.size, 0, none⟩ = some (.bool on) := box_cell hbx 0
   have b1 : W.cell? ⟨wa.heap.size, 1, none⟩ = some (.slice fa fl.length fc) := box_cell hbx 1
   have b2 : W.cell? ⟨wa.heap.size, 2, none⟩ = some (int since) := box_cell hbx 2
   have b3 : W.cell? ⟨wa.heap.size, 3, none⟩ = some (.slice ta told.length tc) := box_cell hbx 3
   have b4 : W.cell? ⟨wa.heap.size, 4, none⟩ = some (int lost) := box_cell hbx 4
   have HONN := hide hon
   clear htk hlo hon ht hbx hcal h2 h5
   cases on with
   | false =>
    go_wp2
    go_loopw [5] (fun m wq => m = int 0 ∧ wq = W) (fun _ _ => 0)
    case atStart => exact ⟨rfl, rfl⟩
    case round =>
     obtain ⟨rfl, hrel⟩ := hrel
     have hrel := hrel.symm
     subst hrel
     go_wp2
     go_roundw
     case rel => exact ⟨s + 1, by omega, by go_num, unhide HWW⟩
     case measure => simp [intOf]; omega
   | true =>
    obtain ⟨i0, hsin, hi0, hgd, htl, hall⟩ := unhide HONN rfl
    subst hsin
    have HI0 := hide hi0
    have HGD := hide hgd
    have HTL := hide htl
    have HALL := hide hall
    have HB0 := hide b0
    have HB1 := hide b1
    have HB3 := hide b3
    have HB4 := hide b4
    have hsz : wa.heap.size < W.heap.size := block_lt_of_cell b0
    have hi0i : (i0 : Int) ≤ 2199023255552 := by have := unhide HL; omega
    clear hgd htl hall HONN hi0
    go_wp2
    clear b0 b1 b3 b4 h0 h1 h3 h4 h6
    go_loopw [5, 6] (fun m i wq => ∃ k mc : Nat, k ≤ l.length ∧ i0 ≤ k ∧ i = int k ∧ m = int mc ∧ mc ≤ missL l fl told i0 k ∧ Calm W wq) (fun _ i _ => l.length - (intOf i).toNat)
    case atStart => exact ⟨i0, 0, unhide HI0, Nat.le_refl _, rfl, rfl, Nat.zero_le _, Touch.refl _ _⟩
    case round =>
     obtain ⟨k, mc, hk, hik, rfl, rfl, hmc, htq⟩ := hrel
     have hmk : mc ≤ k := Nat.le_trans hmc (missL_le l fl told i0 k)
     have HMC := hide hmc
     clear hmc
     obtain ⟨wq, hwq⟩ : ∃ wq, wq = wr := ⟨_, rfl⟩
     subst hwq
     have hev := ((unhide HWW).calm htq).cell (p := ⟨hb, 2, none⟩) (fun f => f) (unhide HEV)
     have b0 := htq.cell (p := ⟨wa.heap.size, 0, none⟩) (fun f => f) (unhide HB0)
     have b1 := htq.cell (p := ⟨wa.heap.size, 1, none⟩) (fun f => f) (unhide HB1)
     have b3 := htq.cell (p := ⟨wa.heap.size, 3, none⟩) (fun f => f) (unhide HB3)
     have b4 := htq.cell (p := ⟨wa.heap.size, 4, none⟩) (fun f => f) (unhide HB4)
     have hll : (l.length : Int) ≤ 2199023255552 := by have := unhide HL; omega
     have HTQ := hide htq
     by_cases hlt : k < l.length
     ·obtain ⟨n, hn⟩ : ∃ n, l[k]? = some n := ⟨_, List.getElem?_eq_getElem hlt⟩
      obtain ⟨g, rfl, c0, c1, c2, c3, c4, c5⟩ := (unhide HN).calm ((unhide HWW).calm htq) k n hn
      have hki : (k : Int) < l.length := by omega
      have HNN := hide hn
      obtain ⟨W3, hW3⟩ : ∃ W3, wq.alloc (.cells #[int n.ev.pub, int n.ev.num, int n.ev.f0, int n.ev.f1, int n.ev.f2] 63) = W3 := ⟨_, rfl⟩
      have ht3 : Calm W W3 := by rw [← hW3]; exact htq.alloc _
      have hbx3 : W3.heap[wq.heap.size]? = some (.cells #[int n.ev.pub, int n.ev.num, int n.ev.f0, int n.ev.f1, int n.ev.f2] 63) := by rw [← hW3]; exact heap_alloc_new _ _
      have o0 : W3.cell? ⟨wq.heap.size, 0, none⟩ = some (int n.ev.pub) := box_cell hbx3 0
      have o1 : W3.cell? ⟨wq.heap.size, 1, none⟩ = some (int n.ev.num) := box_cell hbx3 1
      have o2 : W3.cell? ⟨wq.heap.size, 2, none⟩ = some (int n.ev.f0) := box_cell hbx3 2
      have o3 : W3.cell? ⟨wq.heap.size, 3, none⟩ = some (int n.ev.f1) := box_cell hbx3 3
      have o4 : W3.cell? ⟨wq.heap.size, 4, none⟩ = some (int n.ev.f2) := box_cell hbx3 4
      have hfz3 := fun o => box_frozen hbx3 o
      have b1' := ht3.cell (p := ⟨wa.heap.size, 1, none⟩) (fun f => f) (unhide HB1)
      have b3' := ht3.cell (p := ⟨wa.heap.size, 3, none⟩) (fun f => f) (unhide HB3)
      have HT3 := hide ht3
      have HO : Hid (∀ j v, [int n.ev.pub, int n.ev.num, int n.ev.f0, int n.ev.f1, int n.ev.f2][j]? = some v → W3.cell? ⟨wq.heap.size, j, none⟩ = some v) := fun j v hj => ((box_cell hbx3 j).trans (by simpa using hj))
      have HB3' := hide b3'
      clear hn htq hbx3 ht3
      go_wp2_with fail
      refine (keepMeets_any fl n.ev fa fc _ (unhide HGD) ((unhide HFT).calm (unhide HT3))).mono ?_
      rintro r w4 ⟨rfl, ht4⟩
      have HT4 := hide ht4
      have htl4 : (told.length : Int) ≤ 2199023255552 := by have := unhide HTL; omega
      clear o0 o1 o2 o3 o4 b0 b1 b1' b3 b3' b4 c0 c1 c2 c3 c4 c5 hW3 hfz3 ht4 hev
      go_wp2
      go_loopw [9, 10] (fun bt i wr => ∃ (j : Nat) (x : Bool), j ≤ told.length ∧ i = int j ∧ bt = .bool x ∧ (x = true ∨ ∀ i o, i < j → told[i]? = some o → o ≠ n.ev) ∧ Calm w4 wr) (fun _ i _ => told.length - (intOf i).toNat)
      case atStart => exact ⟨0, false, by omega, rfl, rfl, Or.inr (fun i o hi => by omega), Touch.refl _ _⟩
      case round =>
       obtain ⟨j, x, hj, rfl, rfl, hx, ht5⟩ := hrel
       have ht35 := (unhide HT4).calm ht5
       have b3 := ht35.cell (p := ⟨wa.heap.size, 3, none⟩) (fun f => f) (unhide HB3')
       have hox := fun j v hj => ht35.cell (p := ⟨wq.heap.size, j, none⟩) (fun f => f) (unhide HO j v hj)
       have o0 := hox 0 _ rfl
       have o1 := hox 1 _ rfl
       have o2 := hox 2 _ rfl
       have o3 := hox 3 _ rfl
       have o4 := hox 4 _ rfl
       have HX := hide hx
       have HT5 := hide ht5
       have heq := run_equal23b
       clear hx hox
       by_cases hlj : j < told.length
       ·obtain ⟨o, ho⟩ : ∃ o, told[j]? = some o := ⟨_, List.getElem?_eq_getElem hlj⟩
        obtain ⟨g5, rfl, c0, c1, c2, c3, c4⟩ := (unhide HTA).calm ((unhide HT3).calm ht35) j o ho
        have hji : (j : Int) < told.length := by omega
        have HOO := hide ho
        clear ho ht5 ht35
        cases x with
        | true =>
         go_wp2
         go_region
         all_goals go_wp2
         all_goals go_roundw
         case rel => exact ⟨j + 1, true, by omega, by go_num, rfl, Or.inl rfl, (unhide HT5).drew⟩
         case measure => simp [intOf]; omega
        | false =>
         have hxx : ∀ i o, i < j → told[i]? = some o → o ≠ n.ev := (unhide HX).resolve_left (by simp)
         have HXX := hide hxx
         clear hxx HX
         by_cases hq : o = n.ev
         ·subst hq
          go_wp2
          go_region
          all_goals go_wp2
          all_goals go_roundw
          case rel => exact ⟨j + 1, true, by omega, by go_num, rfl, Or.inl rfl, (unhide HT5).drew⟩
          case measure => simp [intOf]; omega
         ·have HREL : Hid (∀ i o', i < j + 1 → told[i]? = some o' → o' ≠ n.ev) := fun i o' hi hm => by
           by_cases ei : i = j
           ·subst ei; rw [unhide HOO] at hm; cases hm; exact hq
           ·exact unhide HXX i o' (by omega) hm
          have hcase : o.pub ≠ n.ev.pub ∨ (o.pub = n.ev.pub ∧ o.num ≠ n.ev.num) ∨ (o.pub = n.ev.pub ∧ o.num = n.ev.num ∧ decide (o.f0 = n.ev.f0 ∧ o.f1 = n.ev.f1 ∧ o.f2 = n.ev.f2) = false) := ev_ne hq
          clear hq
          rcases hcase with hq | ⟨hq0, hq⟩ | ⟨hq0, hq1, hq⟩
          ·have hqb : (o.pub == n.ev.pub) = false := by rw [beq_dec]; exact decide_eq_false hq
           go_wp2
           go_region
           all_goals go_wp2
           all_goals go_roundw
           case rel => exact ⟨j + 1, false, by omega, by go_num, rfl, Or.inr (unhide HREL), (unhide HT5).drew⟩
           case measure => simp [intOf]; omega
          ·have hqb : (o.num == n.ev.num) = false := by rw [beq_dec]; exact decide_eq_false hq
           rw [hq0] at c0
           go_wp2
           go_region
           all_goals go_wp2
           all_goals go_roundw
           case rel => exact ⟨j + 1, false, by omega, by go_num, rfl, Or.inr (unhide HREL), (unhide HT5).drew⟩
           case measure => simp [intOf]; omega
          ·rw [hq0] at c0
           rw [hq1] at c1
           go_wp2
           go_region
           all_goals go_wp2
           all_goals go_roundw
           case rel => exact ⟨j + 1, false, by omega, by go_num, rfl, Or.inr (unhide HREL), (unhide HT5).drew⟩
           case measure => simp [intOf]; omega
       ·have he : j = told.length := by omega
        subst he
        have HTE := hide ((unhide HT3).calm ht35)
        have HUP := hide (missL_up l fl told i0 (unhide HNN) hik)
        have hmi : (mc : Int) ≤ 2199023255552 := by omega
        clear ht5 ht35
        cases hmm : meets fl n.ev with
        | false =>
         go_wp2
         go_roundw
         case rel => exact ⟨k + 1, mc, by omega, by omega, by go_num, rfl, Nat.le_trans (unhide HMC) (unhide HUP).1, unhide HTE⟩
         case measure => simp [intOf]; omega
        | true =>
         cases x with
         | true =>
          go_wp2
          go_roundw
          case rel => exact ⟨k + 1, mc, by omega, by omega, by go_num, rfl, Nat.le_trans (unhide HMC) (unhide HUP).1, unhide HTE⟩
          case measure => simp [intOf]; omega
         | false =>
          have hnot : n.ev ∉ told := fun hin => by
           rcases unhide HX with h | h
           ·cases h
           ·obtain ⟨i, hi⟩ := List.getElem?_of_mem hin
            exact h i _ (List.getElem?_eq_some_iff.1 hi).1 hi rfl
          have HONE := hide ((unhide HUP).2 hmm hnot)
          go_wp2
          go_roundw
          case rel => exact ⟨k + 1, mc + 1, by omega, by omega, by go_num, by go_num, by have h1 := unhide HMC; have h2 := unhide HONE; omega, unhide HTE⟩
          case measure => simp [intOf]; omega
     ·have he : k = l.length := by omega
      subst he
      have hfin : (mc : Int) ≤ lost := by have h1 := unhide HMC; have h2 := unhide HALL; omega
      clear htq
      go_wp2
      go_roundw
      case rel => exact ⟨s + 1, by omega, by go_num, (unhide HWW).calm (unhide HTQ)⟩
      case measure => simp [intOf]; omega
  ·have hs9 : s = 8 := by omega
   subst hs9
   go_wp2
   go_ret
   exact ⟨rfl, ht⟩

theorem completeY {w : World} {hb b : Nat} {κ : Nat → Option Role} {H : HM} (h : HX w hb b κ H) (hE : H.evs.length ≤ 2199023255552) (hlost : ∀ s, s < 8 → 0 ≤ (H.subs s).lost)
  (hon : ∀ s, s < 8 → (H.subs s).on = true → ∃ i0 : Nat, (H.subs s).since = i0 ∧ i0 ≤ H.evs.length ∧ goodFilter (H.subs s).fl = true ∧ (H.subs s).told.length ≤ 2199023255552 ∧ (missL H.evs (H.subs s).fl (H.subs s).told i0 H.evs.length : Int) ≤ (H.subs s).lost) :
  Calls Try.prog 23 #[ptr hb] w fun r w' => r = .returned (.bool true) ∧ Calm w w' := by
 obtain ⟨ea, ec, h1, h2⟩ := h.newsAt
 exact complete_walk2 w hb H.evs ea ec h1 hE h2 H.subs (fun s hs => (h.subs s hs).takenAt) hlost hon

theorem act_cells : Try.prog.cellsOf 54 = 7 := by kernel_rfl

theorem bulk_pos {H : Type} (d : DataW H) : 0 < Rows.uptoBulk d := by
 cases d
 case lit l => cases l <;> exact Nat.succ_pos _
 all_goals (rw [Rows.uptoBulk]; omega)
theorem bulk_len {H : Type} : ∀ l : List (DataW H), l.length ≤ Rows.uptoBulkAll l
 | [] => Nat.zero_le _
 | d :: l => by
  have h1 := bulk_pos d
  have h2 := bulk_len l
  rw [Rows.uptoBulkAll, List.length_cons]
  omega
theorem bulk_slice {H : Type} {ds : List (DataW H)} (hk : Rows.uptoSmall H ds = true) {elems spare : List (DataW H)} (hm : DataW.slice elems spare ∈ ds) : elems.length ≤ 1048576 := by
 have hb : Rows.uptoBulkAll ds ≤ 1048576 := of_decide_eq_true hk
 have hin : ∀ l : List (DataW H), DataW.slice elems spare ∈ l → Rows.uptoBulk (DataW.slice elems spare) ≤ Rows.uptoBulkAll l := by
  intro l
  induction l with
  | nil => intro h; cases h
  | cons x l ih =>
   intro h
   rw [Rows.uptoBulkAll]
   rcases List.mem_cons.1 h with rfl | h
   ·omega
   ·have := ih h; omega
 have h1 := hin ds hm
 have h2 := bulk_len elems
 rw [Rows.uptoBulk] at h1
 omega

section
variable {H : Type} {enc : TypeId × Value → H} {W : World}

set_option maxRecDepth 100000 in
theorem actOf {fuel : Nat} {cs : List Value} {x : DataW H × List MemPlace} (h : DataW.trod enc Try.prog W 0 (fun _ => true) true fuel 54 cs = some x) :
  ∃ K C Z y0 y1 y2 la ln lc f, cs = [.int .i64 K, .int .i64 C, .int .i64 Z, .int .i64 y0, .int .i64 y1, .int .i64 y2, .slice la ln lc] ∧ (Fits K ∧ Fits C ∧ Fits Z) ∧ RawAt W la ln f ∧ ln ≤ maxLen := by
 obtain ⟨xs, n, _, hx, hlen, hxl, hf⟩ := DataW.trod_struct Try.underlying54 h
 rw [act_cells] at hlen
 have hxl : xs.length = 5 := hxl
 match cs, hlen with
 | [v0, v1, v2, v3, v4, v5, v6], _ =>
 match xs, hxl with
 | [x0, x1, x2, x3, x4], _ =>
 have f0 : DataW.trod enc Try.prog W 0 (fun _ => true) true n 3 [v0] = some x0 := by have := hf 0 _ rfl; simpa [Try.cells3] using this
 have f1 : DataW.trod enc Try.prog W 0 (fun _ => true) true n 3 [v1] = some x1 := by have := hf 1 _ rfl; simpa [Try.cells3] using this
 have f2 : DataW.trod enc Try.prog W 0 (fun _ => true) true n 3 [v2] = some x2 := by have := hf 2 _ rfl; simpa [Try.cells3] using this
 have f3 : DataW.trod enc Try.prog W 0 (fun _ => true) true n 23 [v3, v4, v5] = some x3 := by have := hf 3 _ rfl; simpa [Try.cells23] using this
 have f4 : DataW.trod enc Try.prog W 0 (fun _ => true) true n 22 [v6] = some x4 := by have := hf 4 _ rfl; simpa [Try.cells22] using this
 obtain ⟨K, rfl, hK⟩ := int_open f0
 obtain ⟨C, rfl, hC⟩ := int_open f1
 obtain ⟨Z, rfl, hZ⟩ := int_open f2
 obtain ⟨y0, y1, y2, e⟩ := three_open f3
 cases e
 obtain ⟨la, ln, lc, f, rfl, hr, hm⟩ := list_open f4
 exact ⟨K, C, Z, y0, y1, y2, la, ln, lc, f, rfl, ⟨hK, hC, hZ⟩, hr, hm⟩

set_option maxRecDepth 100000 in
theorem script_open {fuel : Nat} {a3 : Option Addr} {len c3 : Nat} {d : DataW H} {p : List MemPlace} (h3 : DataW.trod enc Try.prog W 0 (fun _ => true) true fuel 52 [.slice a3 len c3] = some (d, p)) :
  ActsAt W a3 len ∧ ((d = .nil ∧ len = 0) ∨ ∃ elems spare, d = .slice elems spare ∧ elems.length = len) := by
 rcases Deep.open_slice Try.underlying52 h3 with ⟨hcs, hx⟩ | ⟨a, len', cap', m, n, D, Pl, hcs, _, hl, hm, hmm, hx, hel⟩
 ·simp at hcs
  obtain ⟨rfl, rfl, rfl⟩ := hcs
  simp only [Prod.mk.injEq] at hx
  exact ⟨fun i hi => by omega, Or.inl ⟨hx.1, rfl⟩⟩
 ·simp at hcs
  obtain ⟨rfl, rfl, rfl⟩ := hcs
  simp only [Prod.mk.injEq] at hx
  simp only [if_true] at hmm
  refine ⟨fun i hi => ?_, Or.inr ⟨_, _, hx.1, by simp⟩⟩
  obtain ⟨cs', hcells, htr⟩ := hel i (by omega)
  obtain ⟨K, C, Z, y0, y1, y2, la, ln, lc, f, rfl, hK, hr, hln⟩ := actOf htr
  obtain ⟨_, _, hcell⟩ := World.cells?_some hcells
  rw [act_cells] at hcell
  obtain ⟨b, off, spot⟩ := a
  have hspot : spot = none := by
   obtain ⟨cs0, hcells0, htr0⟩ := hel 0 (by omega)
   obtain ⟨_, _, hcell0⟩ := World.cells?_some hcells0
   rw [act_cells] at hcell0
   obtain ⟨K0, C0, Z0, y00, y10, y20, la0, ln0, lc0, f0, rfl, _⟩ := actOf htr0
   have h9 := World.cell?_spot (hcell0 0 (by omega))
   simpa [Addr.add] using h9
  subst hspot
  have hc : ∀ j u, j < 7 → [Value.int .i64 K, .int .i64 C, .int .i64 Z, .int .i64 y0, .int .i64 y1, .int .i64 y2, .slice la ln lc][j]? = some u → W.cell? ⟨b, off + i * 7 + j, none⟩ = some u := fun j u hj hu => by
   have := hcell j hj
   rw [Deep.add_add, add_plain, ← Nat.add_assoc] at this
   exact this.trans hu
  exact ⟨b, off, K, C, Z, y0, y1, y2, la, ln, lc, f, rfl, hc 0 _ (by omega) rfl, hc 1 _ (by omega) rfl, hc 2 _ (by omega) rfl, hc 3 _ (by omega) rfl, hc 4 _ (by omega) rfl, hc 5 _ (by omega) rfl, hc 6 _ (by omega) rfl, hK, hr, hln⟩
end

def HM.wt (H : HM) (s : Nat) : Wt := ⟨(H.subs s).on, (H.subs s).since, (H.subs s).lost⟩

theorem lostOf_sum (k : Nat) : ∀ (L : List Ent) (z : Nat), (∀ en, en ∈ L → 0 ≤ en.lost) → z + (L.map (lostN k)).sum ≤ 9000000000000000000 → lostOf L k z = ((z + (L.map (lostN k)).sum : Nat) : Int)
 | [], z, _, _ => by simp [lostOf]
 | en :: L, z, h, hs => by
  have h0 := h en (List.mem_cons_self ..)
  have hr := fun e he => h e (List.mem_cons_of_mem _ he)
  simp only [List.map_cons, List.sum_cons] at hs ⊢
  by_cases hc : en.slot = (k : Int) ∧ en.lost ≠ 0
  ·have e1 : lostOf (en :: L) k z = lostOf L k (wrap64 ((z : Int) + en.lost)) := by simp [lostOf, hc.1, hc.2]
   have e2 : lostN k en = en.lost.toNat := by unfold lostN; rw [if_pos hc.1]
   have e3 : wrap64 ((z : Int) + en.lost) = ((z + en.lost.toNat : Nat) : Int) := by rw [wrap_small (by omega) (by omega)]; omega
   rw [e1, e3, lostOf_sum k L _ hr (by omega), e2]
   congr 1
   omega
  ·have e1 : lostOf (en :: L) k z = lostOf L k z := by
    unfold lostOf
    rw [List.filter_cons_of_neg (by simpa using hc)]
   have e2 : lostN k en = 0 := by
    unfold lostN
    split
    ·rename_i h1
     have : en.lost = 0 := Classical.byContradiction fun h2 => hc ⟨h1, h2⟩
     rw [this]; rfl
    ·rfl
   rw [e1, lostOf_sum k L z hr (by omega), e2]
   congr 1
   omega

section
variable {E : List News} {G : Nat → Nat → List News} {σ : Net} {H : HM} {m M : Nat}

theorem wat_runs (hm : m < 2000000000000) : Runs (fun τ => BookI E G H m τ ∧ Wat E τ H.wt M) m :=
 ⟨fun _ h => ⟨h.1.2.fit, hm⟩, fun _ h => h.1.1.core.opn, fun _ x y _ _ h hq => ⟨⟨h.1.1.del h.1.2.fit.live x y, h.1.2.del h.1.1.core.opn hq⟩, h.2.del h.1.1.core h.1.2.fit hq⟩⟩

theorem Wat.reads (W : Wat E σ H.wt M) (B : Book E G σ H) (F : Fit σ m) (hM : M ≤ 9000000000000000000) {c : Nat} (hc : c < 4) : Wat E (σ.unlog c) (H.reads c (σ.cl c).log).wt M := by
 have T := B.core.tells c hc
 obtain ⟨r1, r2, r3, r4, r5⟩ := reads_sub c (σ.cl c).log H (fun e he => by obtain ⟨k, h1, h2, _⟩ := T.ents e he; exact ⟨k, h1, h2⟩)
 refine (W.read B.core F hc).congr (fun s hs => ?_)
 by_cases e : s / 2 = c
 ·rw [if_pos e]
  have hs2 : s = 2 * c + s % 2 := by omega
  have h5 := r5 (s % 2) (by omega)
  rw [← hs2] at h5
  obtain ⟨z, g1, g2⟩ := W.cap s hs
  have g1 : (H.subs s).lost = z := g1
  have hlg : lgOf σ s = ((σ.cl c).log.map (lostN (s % 2))).sum := by unfold lgOf; rw [e]
  have hlo : lostOf (σ.cl c).log (s % 2) (H.subs s).lost = (H.subs s).lost + lgOf σ s := by
   rw [g1, lostOf_sum (s % 2) _ z (fun en hen => by
    obtain ⟨_, _, _, _, h⟩ := T.ents en hen
    rcases h with h | h
    ·omega
    ·exact Int.le_of_lt h.1) (by unfold Net.lgl at g2; omega), hlg]
   simp
  unfold HM.wt
  rw [h5]
  show Wt.mk _ _ (lostOf _ _ _) = _
  rw [hlo]
 ·rw [if_neg e]
  unfold HM.wt
  rw [r4 s e]

theorem Acted.wat {E' : List News} {G' : Nat → Nat → List News} {σ' : Net} {H' : HM} (A : Acted E G σ H m E' G' σ' H') (B : Book E G σ H) (F : Fit σ m) (hm : m < 1999999987000) (W : Wat E σ H.wt M) (hM : M ≤ 9000000000000000000) : Wat E' σ' H'.wt (M + 1600) := by
 have hI : BookI E G H (m + 12000) σ ∧ Wat E σ H.wt M := ⟨⟨B, Room.of F (by omega)⟩, W⟩
 have hR := wat_runs (E := E) (G := G) (H := H) (M := M) (m := m + 12000) (by omega)
 cases A with
 | roams c hc a _ _ h =>
  have hwt : H'.wt = H.wt := by unfold HM.wt; rw [h.subs]
  rw [hwt]
  cases hh : (σ.cl c).here with
  | none =>
   rcases h.came hh with ⟨h1, rfl⟩ | ⟨_, rfl⟩
   ·exact W.attach B.core F h1 h.fit.r.alive.wt
   ·exact W.weak (by omega)
  | some x =>
   rcases h.went x hh with ⟨h1, rfl⟩ | ⟨_, rfl⟩
   ·exact (W.detach B.core F c).weak (by omega)
   ·exact W.weak (by omega)
 | calls c hc _ _ _ h =>
  have W1 := W.reads B F hM hc
  have C1 : Core E (readG G σ c) (σ.unlog c) := B.core.read hc
  have F1 := F.unlog B.core.opn hc
  have hwt := h.fit.r.alive.wt
  cases h.res with
  | no => exact W1.weak (by omega)
  | sub l hl hE =>
   refine (W1.sub C1 F1 hE hwt).congr (fun s _ => ?_)
   unfold HM.wt put
   simp only
   split <;> rfl
  | unsub k hk hE =>
   refine (W1.unsub C1 F1 hE hwt).congr (fun s _ => ?_)
   unfold HM.wt put
   simp only
   split <;> rfl
 | pub c hc f0 f1 f2 hE => exact W.pub B.core F hc hE f0 f1 f2 (F.pub c f0 f1 f2).r.alive.wt
 | no => exact W.weak (by omega)
 | del _ h => exact (h _ hR hI).2.weak (by omega)
 | quiet _ h hq =>
  refine (((h _ hR hI).2.quiet hq).congr (fun s hs => ?_)).weak (by omega)
  unfold HM.wt
  simp only [HM.known, HM.knownTo, hs, if_true, Tk.known, B.evs]
  split <;> rfl

theorem Wat.house (W : Wat E σ H.wt M) (B : Book E G σ H) (F : Fit σ m) (hq : ∀ x y, σ.q x y = []) (hh : ∀ c, c < 4 → (σ.cl c).here ≠ none) (hl : ∀ c, c < 4 → (σ.cl c).log = []) (hsi : ∀ s, s < 8 → 0 ≤ (H.subs s).since) (hm : m ≤ 2000000000000) :
  (∀ s, s < 8 → 0 ≤ (H.subs s).lost) ∧ ∀ s, s < 8 → (H.subs s).on = true → ∃ i0 : Nat, (H.subs s).since = i0 ∧ i0 ≤ H.evs.length ∧ goodFilter (H.subs s).fl = true ∧ (H.subs s).told.length ≤ 2199023255552 ∧ (missL H.evs (H.subs s).fl (H.subs s).told i0 H.evs.length : Int) ≤ (H.subs s).lost := by
 refine ⟨fun s hs => ?_, fun s hs hon => ?_⟩
 ·obtain ⟨z, g1, _⟩ := W.cap s hs
  have g1 : (H.subs s).lost = z := g1
  omega
 ·have hc : s / 2 < 4 := by omega
  have hk : s % 2 < 2 := by omega
  have hs2 : 2 * (s / 2) + s % 2 = s := by omega
  have hus : (σ.cl (s / 2)).used (s % 2) = true := by rw [← W.use s hs]; exact hon
  obtain ⟨hfl, htd⟩ := B.sub (s / 2) (s % 2) hc hk hus
  rw [hs2] at hfl htd
  obtain ⟨org, O, hw⟩ := W.org
  obtain ⟨h1, _, _⟩ := hw s hs hon (hsi s hs)
  have h1 : (H.subs s).since.toNat ≤ E.length := h1
  obtain ⟨h, hhr⟩ := Option.ne_none_iff_exists'.1 (hh (s / 2) hc)
  have hsl := F.r.slack.told s hs
  refine ⟨(H.subs s).since.toNat, by have := hsi s hs; omega, by rw [B.evs]; exact h1, by rw [hfl]; exact (F.good.clis (s / 2) hc).fil (s % 2) hus, ?_, ?_⟩
  ·rw [htd, List.length_map]
   obtain ⟨U, hU1, _⟩ := (B.core.tells (s / 2) hc).read (s % 2) hk hus
   have h2 : (G (s / 2) (s % 2)).length ≤ σ.toldN s := by unfold Net.toldN; rw [hU1, List.length_append]; omega
   omega
  ·rw [B.evs]
   unfold missL
   rw [List.take_length]
   refine W.done B.core F hq hs hon (hsi s hs) hhr (hl (s / 2) hc) _ List.filter_sublist (fun e he => ?_)
   obtain ⟨_, h2⟩ := List.mem_filter.1 he
   simp only [Bool.and_eq_true, decide_eq_true_eq] at h2
   rw [hfl] at h2
   refine ⟨h2.1, fun hg => h2.2 ?_⟩
   rw [htd]
   exact List.mem_map.2 ⟨e, hg, rfl⟩
end

section
variable {σ : Net}
theorem waiting_push (σ : Net) {x y : Nat} (hx : x < 6) (hy : y < 6) (f : Fr) : (σ.push x y f).waiting = σ.waiting + 1 := by
 rw [waiting_eq, waiting_eq]
 have h1 := sum6_put (fun a => sum6 fun b => (σ.q a b).length) (fun a => sum6 fun b => ((σ.push x y f).q a b).length) x hx (fun j hj => by
  show (sum6 fun b => (put2 σ.q x y (σ.q x y ++ [f]) j b).length) = _
  have : ∀ b, put2 σ.q x y (σ.q x y ++ [f]) j b = σ.q j b := fun b => put2_other _ _ (fun h => hj h.1)
  simp only [this])
 have h2 := sum6_put (fun b => (σ.q x b).length) (fun b => ((σ.push x y f).q x b).length) y hy (fun j hj => by
  show (put2 σ.q x y (σ.q x y ++ [f]) x j).length = _
  rw [put2_other _ _ (fun h => hj h.2)])
 have h3 : ((σ.push x y f).q x y).length = (σ.q x y).length + 1 := by
  show (put2 σ.q x y (σ.q x y ++ [f]) x y).length = _
  rw [put2_same]; simp
 omega
theorem waiting_comes {c b old k : Nat} (hb : b < 6) (hn : next σ.par b old < 6) : (σ.comes c b old k).waiting ≤ σ.waiting + 1 := by
 unfold Net.comes
 dsimp only
 split
 ·rw [waiting_push _ hb hn]; exact Nat.le_refl _
 ·omega
theorem waiting_attach (G : Good σ) {c b : Nat} (hE : σ.attachE c b = 0) : (σ.attach c b).waiting ≤ σ.waiting + 2 := by
 have hz := attachE_zero hE
 simp only [toNat_nat] at hz
 have hA : σ.attach c b = σ.attachN c b := by unfold Net.attach; rw [if_pos hE]; simp only [toNat_nat]
 have T := G.tree
 have hbl : b < σ.n := by omega
 have hb6 : b < 6 := Nat.lt_of_lt_of_le hbl (size_le T)
 have hq : ∀ ρ τ : Net, τ.q = ρ.q → τ.waiting = ρ.waiting := fun ρ τ h => by unfold Net.waiting; rw [h]
 rw [hA]
 unfold Net.attachN
 split
 ·rw [hq σ _ (show (Net.arrive ((σ.backs c b 0).backs c b 1) c b).q = σ.q from (backs_keeps c b 1).2.1.trans (backs_keeps c b 0).2.1)]; omega
 ·rename_i old hho
  split
  ·rw [hq σ _ (show (Net.arrive ((σ.backs c b 0).backs c b 1) c b).q = σ.q from (backs_keeps c b 1).2.1.trans (backs_keeps c b 0).2.1)]; omega
  ·rename_i e2
   have hol : old < σ.n := (G.clis c (by omega)).home old hho
   have hn6 : next σ.par b old < 6 := Nat.lt_of_lt_of_le (near_lt T (next_step T hbl hol (fun g => e2 g.symm)).1).2 (size_le T)
   rw [hq ((σ.comes c b old 0).comes c b old 1) (((σ.comes c b old 0).comes c b old 1).arrive c b) rfl]
   have h1 := waiting_comes (σ := σ) (c := c) (k := 0) hb6 hn6
   have h2 := waiting_comes (σ := σ.comes c b old 0) (c := c) (old := old) (k := 1) hb6 (by rw [(comes_keeps c b old 0).1]; exact hn6)
   omega
end

def CI (hb b : Nat) (κ ρ : Nat → Option Role) (w1 : World) (m k M : Nat) (P : Net → HM → Prop) (wr : World) : Prop :=
 ∃ κ' ρ' E G σ H, HN wr hb b κ' ρ' σ H ∧ Book E G σ H ∧ Fit σ m ∧ E.length ≤ k ∧ Ow κ ρ κ' ρ' w1 wr ∧ Wat E σ H.wt M ∧ P σ H

section
variable {hb b : Nat} {κ ρ : Nat → Option Role} {w1 wr : World} {m k M : Nat} {P Q : Net → HM → Prop}

theorem CI.weak {m' k' M' : Nat} (h : CI hb b κ ρ w1 m k M P wr) (hm : m ≤ m') (hk : k ≤ k') (hM : M ≤ M') (hPQ : ∀ σ H, P σ H → Q σ H) : CI hb b κ ρ w1 m' k' M' Q wr := by
 obtain ⟨κ', ρ', E, G, σ, H, hN, hB, hF, hE, hO, hW, hP⟩ := h
 exact ⟨κ', ρ', E, G, σ, H, hN, hB, hF.weak hm, by omega, hO, hW.weak hM, hPQ σ H hP⟩
theorem CI.low {w0 : World} (h : CI hb b κ ρ w1 m k M P wr) (hT : Calm w0 w1) (hlow : ∀ j, j < w0.heap.size → ¬ (κ j ≠ none ∨ ρ j ≠ none)) : Calm w0 wr := by
 obtain ⟨κ', ρ', E, G, σ, H, hN, hB, hF, hE, hO, hW, hP⟩ := h
 exact hT.fresh hO.touch hlow
theorem CI.new {par : List Nat} (T : Tree par) (h : HN w1 hb b κ ρ (newNet par) (newHM par)) : CI hb b κ ρ w1 0 0 0 (fun _ _ => True) w1 :=
 ⟨κ, ρ, [], _, _, _, h, book_new, fit_new T, Nat.le_refl _, Ow.refl _ _ _, wat_new.congr (fun _ _ => rfl), trivial⟩

theorem CI.act {w0 : World} (h : CI hb b κ ρ w1 m k M P wr) (hT : Calm w0 w1) (hlow : ∀ j, j < w0.heap.size → ¬ (κ j ≠ none ∨ ρ j ≠ none)) (hm : m < 1999999987000) (hk : k ≤ 1999999999990) (hM : M ≤ 9000000000000000000) {K C A : Int} (hK : Fits K ∧ Fits C ∧ Fits A) (f0 f1 f2 : Int) {la : Option Addr} {ln lc : Nat} {f : Nat → Int} (hr : RawAt w0 la ln f) (hln : ln ≤ maxLen) :
  Calls Try.prog 21 #[ptr hb, actV K C A f0 f1 f2 la ln lc] wr fun r w' => r = .returned (.bool true) ∧ CI hb b κ ρ w1 (m + 12000) (k + 1) (M + 1600) (fun _ _ => True) w' := by
 obtain ⟨κ', ρ', E, G, σ, H, hN, hB, hF, hE, hO, hW, hP⟩ := h
 refine (actB hN hB hF hm (by omega) hK.1 hK.2.1 hK.2.2 f0 f1 f2 (rawOut_low hT hlow hO hr) hln).mono ?_
 rintro r w' ⟨rfl, κ2, ρ2, E2, G2, σ2, H2, hN2, hA2, hO2⟩
 obtain ⟨hB2, hF2, hE2⟩ := hA2.all hB hF hm
 exact ⟨rfl, κ2, ρ2, E2, G2, σ2, H2, hN2, hB2, hF2, by omega, hO.trans hO2, hA2.wat hB hF hm hW hM, trivial⟩

def Calmed (Q : Net → Prop) (σ : Net) (H : HM) : Prop := (∀ x y, σ.q x y = []) ∧ (∀ s, s < 8 → 0 ≤ (H.subs s).since) ∧ Q σ
theorem CI.quiet {Q : Net → Prop} (h : CI hb b κ ρ w1 m k M P wr) (hPQ : ∀ σ H, P σ H → Q σ) (hQ : ∀ (σ : Net) (x y : Nat), Q σ → Q (σ.del x y)) (hm : m < 1999999987000) (hk : k ≤ 1999999999990) {a : Int} (ha : Fits a) :
  Calls Try.prog 16 #[ptr hb, int a] wr fun r w' => r = .returned (.bool true) ∧ CI hb b κ ρ w1 (m + 12000) k M (Calmed Q) w' := by
 obtain ⟨κ', ρ', E, G, σ, H, hN, hB, hF, hE, hO, hW, hP⟩ := h
 have R0 := wat_runs (E := E) (G := G) (H := H) (M := M) (m := m + 12000) (by omega)
 have R : Runs (fun τ => (BookI E G H (m + 12000) τ ∧ Wat E τ H.wt M) ∧ Q τ) (m + 12000) := ⟨fun τ i => R0.fine τ i.1, fun τ i => R0.opn τ i.1, fun τ x y f l i hq => ⟨R0.del τ x y f l i.1 hq, hQ τ x y i.2⟩⟩
 have hI : (BookI E G H (m + 12000) σ ∧ Wat E σ H.wt M) ∧ Q σ := ⟨⟨⟨hB, Room.of hF (by omega)⟩, hW⟩, hPQ σ H hP⟩
 refine (quietX R hN hI ha (by rw [hB.evs]; omega)).mono ?_
 rintro r w' ⟨rfl, ρ2, σ2, hN2, hI2, hq2, hO2⟩
 refine ⟨rfl, κ', ρ2, E, G, σ2, H.known, hN2, hI2.1.1.1.known, hI2.1.1.2.fit, hE, hO.trans hO2, (hI2.1.2.quiet hq2).congr (fun s hs => ?_), hq2, fun s hs => ?_, hI2.2⟩
 ·unfold HM.wt
  simp only [HM.known, HM.knownTo, hs, if_true, Tk.known, hB.evs]
  split <;> rfl
 ·simp only [HM.known, HM.knownTo, hs, if_true, Tk.known]
  split
  ·show (0 : Int) ≤ ((H.evs.length : Nat) : Int); omega
  ·omega

def Come (d : Nat) (σ : Net) (H : HM) : Prop := σ.waiting ≤ 2 * d ∧ (∀ s, s < 8 → 0 ≤ (H.subs s).since) ∧ ∀ c, c < d → (σ.cl c).here ≠ none
theorem Calmed.come {Q : Net → Prop} {σ : Net} {H : HM} (h : Calmed Q σ H) : Come 0 σ H := ⟨by simp [Net.waiting, h.1, List.range, List.range.loop], h.2.1, fun c hc => by omega⟩
theorem CI.at_ (h : CI hb b κ ρ w1 m k M P wr) {d : Nat} (hd : d < 4) : ∃ z : Int, wr.cell? ⟨hb, 3 + d, none⟩ = some (int z) ∧
  (z < 0 → CI hb b κ ρ w1 m k M (fun σ H => P σ H ∧ (σ.cl d).here = none) wr) ∧ (¬ z < 0 → CI hb b κ ρ w1 m k M (fun σ H => P σ H ∧ (σ.cl d).here ≠ none) wr) := by
 obtain ⟨κ', ρ', E, G, σ, H, hN, hB, hF, hE, hO, hW, hP⟩ := h
 have hat := hN.h.num d (by omega)
 have hz := hB.at_ d hd
 refine ⟨H.num d, hat, fun h1 => ⟨κ', ρ', E, G, σ, H, hN, hB, hF, hE, hO, hW, hP, ?_⟩, fun h1 => ⟨κ', ρ', E, G, σ, H, hN, hB, hF, hE, hO, hW, hP, ?_⟩⟩
 ·rw [hz] at h1
  cases hh : (σ.cl d).here with
  | none => rfl
  | some x => rw [hh] at h1; have h1 : (x : Int) < 0 := h1; omega
 ·rw [hz] at h1
  intro hh
  rw [hh] at h1
  exact h1 (by show (-1 : Int) < 0; omega)
theorem CI.roam {d : Nat} (hd : d < 4) (h : CI hb b κ ρ w1 m k M (fun σ H => Come d σ H ∧ (σ.cl d).here = none) wr) (hm : m < 1999999987000) {a : Int} (ha : Fits a) :
  Calls Try.prog 24 #[ptr hb, int d, int a] wr fun r w' => r = .returned (.bool true) ∧ CI hb b κ ρ w1 (m + 8) k (M + 1600) (Come (d + 1)) w' := by
 obtain ⟨κ', ρ', E, G, σ, H, hN, hB, hF, hE, hO, hW, hP, hh⟩ := h
 refine (roamsB hN hB hF (by omega) hd ha).mono ?_
 rintro r w' ⟨rfl, ρ2, σ2, H2, hN2, hR2, hO2⟩
 have hwt : H2.wt = H.wt := by unfold HM.wt; rw [hR2.subs]
 rcases hR2.came hh with ⟨h1, h2⟩ | ⟨h1, _⟩
 ·have W2 := hW.attach hB.core hF h1 (by rw [← h2]; exact hR2.fit.r.alive.wt)
  have hwait := waiting_attach hF.good h1
  rw [← h2] at W2 hwait
  refine ⟨rfl, κ', ρ2, E, G, σ2, H2, hN2, hR2.book, hR2.fit, hE, hO.trans hO2, by rw [hwt]; exact W2, ?_, ?_, ?_⟩
  ·have := hP.1; omega
  ·rw [hR2.subs]; exact hP.2.1
  ·intro c hc
   rw [h2]
   by_cases e : c = d
   ·subst e
    rw [((attach_cl h1 c).2 rfl).here]
    show some _ ≠ none
    simp
   ·rw [((attach_cl h1 c).1 e).here]; exact hP.2.2 c (by omega)
 ·exfalso
  have := hP.1
  have h1 : decide (100 ≤ σ.waiting) = true := h1
  simp only [decide_eq_true_eq] at h1
  omega

def Rd (d : Nat) (σ : Net) (H : HM) : Prop := Calmed (fun τ => ∀ c, c < 4 → (τ.cl c).here ≠ none) σ H ∧ ∀ c, c < d → (σ.cl c).log = []
theorem CI.reads {d : Nat} (hd : d < 4) (h : CI hb b κ ρ w1 m k M (Rd d) wr) (hm : m < 1999999987000) (hk : k ≤ 1999999999990) (hM : M ≤ 9000000000000000000) :
  Calls Try.prog 22 #[ptr hb, int d] wr fun r w' => r = .returned (.bool true) ∧ CI hb b κ ρ w1 (m + 8) k M (Rd (d + 1)) w' := by
 obtain ⟨κ', ρ', E, G, σ, H, hN, hB, hF, hE, hO, hW, hP⟩ := h
 refine (readB hN hB hF (by omega) (by omega) hd).mono ?_
 rintro r w' ⟨rfl, κ2, hN2, hB2, hO2⟩
 have hS : Sm σ (σ.setCl d { σ.cl d with log := [] }) := Sm.setCl ⟨rfl, rfl, rfl, rfl, rfl⟩
 have T := hB.core.tells d hd
 obtain ⟨_, _, _, r4, r5⟩ := reads_sub d (σ.cl d).log H (fun e he => by obtain ⟨k, h1, h2, _⟩ := T.ents e he; exact ⟨k, h1, h2⟩)
 refine ⟨rfl, κ2, ρ', E, _, _, _, hN2, hB2, hF.unlog hB.core.opn hd, hE, hO.trans hO2, hW.reads hB hF hM hd, ⟨hP.1.1, fun s hs => ?_, fun c hc => ?_⟩, fun c hc => ?_⟩
 ·have h0 := hP.1.2.1 s hs
  by_cases e : s / 2 = d
  ·have hs2 : s = 2 * d + s % 2 := by omega
   have h5 := r5 (s % 2) (by omega)
   rw [← hs2] at h5
   rw [h5]; exact h0
  ·rw [r4 s e]; exact h0
 ·rw [(hS c).here]; exact hP.1.2.2 c hc
 ·show (put σ.cl d _ c).log = []
  by_cases e : c = d
  ·subst e; rw [put_same]
  ·rw [put_other _ _ e]; exact hP.2 c (by omega)
theorem CI.done (h : CI hb b κ ρ w1 m k M (Rd 4) wr) (hm : m < 1999999987000) (hk : k ≤ 1999999999990) :
  Calls Try.prog 23 #[ptr hb] wr fun r w' => r = .returned (.bool true) ∧ CI hb b κ ρ w1 m k M (Rd 4) w' := by
 obtain ⟨κ', ρ', E, G, σ, H, hN, hB, hF, hE, hO, hW, hP⟩ := h
 obtain ⟨h1, h2⟩ := hW.house hB hF hP.1.1 hP.1.2.2 hP.2 hP.1.2.1 (by omega)
 refine (completeY hN.h (by rw [hB.evs]; omega) h1 h2).mono ?_
 rintro r w' ⟨rfl, t⟩
 exact ⟨rfl, κ', ρ', E, G, σ, H, hN.calm t, hB, hF, hE, hO.trans (Ow.calm t), hW, hP⟩
end

set_option maxRecDepth 100000 in
set_option maxHeartbeats 4000000 in
theorem complete_any (ra : Option Addr) (rn rc : Nat) (f : Nat → Int) (sa : Option Addr) (sn sc : Nat) (last : Int) (w : World) (hr : RawAt w ra rn f) (hrn : rn ≤ maxLen) (hs : ActsAt w sa sn) (hsn : sn ≤ 1048576) (hla : Fits last) :
    Calls Try.prog 6 #[.slice ra rn rc, .slice sa sn sc, int last] w fun e w' => e = .returned (.bool true) ∧ Calm w w' := by
  have T : Tree (treeP f (min rn 5)) := treeP_tree f _ (by omega)
  have TT := hide T
  have HR := hide hr
  have HRN := hide hrn
  have HS := hide hs
  have HLA := hide hla
  have hsnI : (sn : Int) ≤ 1048576 := by omega
  clear T hr hrn hs hla
  go_enter Try.func6, Try.ntmps6
  go_wp2_with fail
  refine (houseX ra rn rc f _ (unhide HRN) (unhide HR)).mono ?_
  rintro e w1 ⟨hb, b, κ, ρ, rfl, hN1, hlow1, ht1⟩
  have HI1 := hide (CI.new (unhide TT) hN1)
  have HLOW : Hid (∀ k, k < w.heap.size → ¬ (κ k ≠ none ∨ ρ k ≠ none)) := fun k hk hr => by
    have := hlow1 k hr
    omega
  have HT1 := hide ht1
  clear hN1 hlow1 ht1
  go_wp2_with fail
  go_loopw [8, 9] (fun o i wr => o = .bool true ∧ ∃ j : Nat, j ≤ sn ∧ i = int j ∧ CI hb b κ ρ w1 (j * 12100) j (j * 1600) (fun _ _ => True) wr) (fun _ i _ => sn - (intOf i).toNat)
  case atStart => exact ⟨rfl, 0, by omega, rfl, unhide HI1⟩
  case round =>
    obtain ⟨rfl, j, hj, rfl, hI⟩ := hrel
    obtain ⟨wq, hwq⟩ : ∃ wq, wq = wr := ⟨_, rfl⟩
    subst hwq
    have HI := hide hI
    clear hI HI1
    by_cases hjs : j < sn
    · obtain ⟨sb, so, K, C, Z, y0, y1, y2, la, ln, lc, fr, rfl, k0, k1, k2, k3, k4, k5, k6, hfits, hraw, hln⟩ := unhide HS j hjs
      have cal := (unhide HI).low (unhide HT1) (unhide HLOW)
      have c0 := cal.cell (p := ⟨sb, _, none⟩) (fun f => f) k0
      have c1 := cal.cell (p := ⟨sb, _, none⟩) (fun f => f) k1
      have c2 := cal.cell (p := ⟨sb, _, none⟩) (fun f => f) k2
      have c3 := cal.cell (p := ⟨sb, _, none⟩) (fun f => f) k3
      have c4 := cal.cell (p := ⟨sb, _, none⟩) (fun f => f) k4
      have c5 := cal.cell (p := ⟨sb, _, none⟩) (fun f => f) k5
      have c6 := cal.cell (p := ⟨sb, _, none⟩) (fun f => f) k6
      have hji : (j : Int) < sn := by omega
      have HCALL := hide ((unhide HI).act (unhide HT1) (unhide HLOW) (by omega) (by omega) (by omega) hfits y0 y1 y2 (lc := lc) hraw hln)
      clear k0 k1 k2 k3 k4 k5 k6 cal hfits hraw hln
      go_wp2_with fail
      refine (unhide HCALL).mono ?_
      rintro e w2 ⟨rfl, hI2⟩
      have HI2 := hide hI2
      clear hI2 c0 c1 c2 c3 c4 c5 c6
      go_wp2
      go_roundw
      case rel => exact ⟨rfl, j + 1, by omega, by go_num, (unhide HI2).weak (by omega) (Nat.le_refl _) (by omega) (fun _ _ h => h)⟩
      case measure => simp [intOf]; omega
    · have hj5 : j = sn := by omega
      subst hj5
      have HCALL := hide ((unhide HI).quiet (Q := fun _ => True) (fun _ _ _ => trivial) (fun _ _ _ _ => trivial) (by omega) (by omega) (unhide HLA))
      go_wp2_with fail
      refine (unhide HCALL).mono ?_
      rintro e w2 ⟨rfl, hI2⟩
      have HI2 := hide hI2
      clear hI2 HCALL
      go_wp2_with fail
      go_loopw [8, 10] (fun o i wr => o = .bool true ∧ ∃ d : Nat, d ≤ 4 ∧ i = int d ∧ CI hb b κ ρ w1 (j * 12100 + 12000 + d * 8) j (j * 1600 + d * 1600) (Come d) wr) (fun _ i _ => 4 - (intOf i).toNat)
      case atStart => exact ⟨rfl, 0, by omega, rfl, (unhide HI2).weak (by omega) (Nat.le_refl _) (by omega) (fun _ _ h => h.come)⟩
      case round =>
        obtain ⟨rfl, d, hd, rfl, hI3⟩ := hrel
        obtain ⟨wz, hwz⟩ : ∃ wz, wz = wr := ⟨_, rfl⟩
        subst hwz
        have HI3 := hide hI3
        clear hI3 HI2
        by_cases hd4 : d < 4
        · have hdi : (d : Int) < 4 := by omega
          obtain ⟨z, hcell, hneg, hpos⟩ := (unhide HI3).at_ hd4
          by_cases hz : z < 0
          · have HCALL2 := hide (CI.roam hd4 (hneg hz) (by omega) (unhide HLA))
            clear hneg hpos
            go_wp2_with fail
            refine (unhide HCALL2).mono ?_
            rintro e w4 ⟨rfl, hI4⟩
            have HI4 := hide hI4
            clear hI4
            go_wp2
            go_roundw
            case rel => exact ⟨rfl, d + 1, by omega, by go_num, (unhide HI4).weak (by omega) (Nat.le_refl _) (by omega) (fun _ _ h => h)⟩
            case measure => simp [intOf]; omega
          · have HP : Hid (CI hb b κ ρ w1 (j * 12100 + 12000 + (d + 1) * 8) j (j * 1600 + (d + 1) * 1600) (Come (d + 1)) wz) := (hpos hz).weak (by omega) (Nat.le_refl _) (by omega) (fun σ H h => ⟨by have := h.1.1; omega, h.1.2.1, fun c hc => by
                by_cases e : c = d
                · subst e; exact h.2
                · exact h.1.2.2 c (by omega)⟩)
            clear hneg hpos
            go_wp2
            go_roundw
            case rel => exact ⟨rfl, d + 1, by omega, by go_num, unhide HP⟩
            case measure => simp [intOf]; omega
        · have hd5 : d = 4 := by omega
          subst hd5
          have HCALL2 := hide ((unhide HI3).quiet (Q := fun τ => ∀ c, c < 4 → (τ.cl c).here ≠ none) (fun _ _ h => h.2.2) (fun σ x y h c hc => by rw [(Sm.del σ x y c).here]; exact h c hc) (by omega) (by omega) (unhide HLA))
          go_wp2_with fail
          refine (unhide HCALL2).mono ?_
          rintro e w4 ⟨rfl, hI4⟩
          have HI4 := hide hI4
          clear hI4 HCALL2
          go_wp2_with fail
          go_loopw [8, 11] (fun o i wr => o = .bool true ∧ ∃ d : Nat, d ≤ 4 ∧ i = int d ∧ CI hb b κ ρ w1 (j * 12100 + 24100 + d * 8) j (j * 1600 + 6400) (Rd d) wr) (fun _ i _ => 4 - (intOf i).toNat)
          case atStart => exact ⟨rfl, 0, by omega, rfl, (unhide HI4).weak (by omega) (Nat.le_refl _) (by omega) (fun _ _ h => ⟨h, fun c hc => by omega⟩)⟩
          case round =>
            obtain ⟨rfl, d, hd, rfl, hI5⟩ := hrel
            have HI5 := hide hI5
            clear hI5 HI4
            by_cases hd4 : d < 4
            · have hdi : (d : Int) < 4 := by omega
              obtain ⟨z, hcell, hneg, _⟩ := (unhide HI5).at_ hd4
              have hz : 0 ≤ z := by
                by_cases hz : z < 0
                · obtain ⟨_, _, _, _, _, _, _, _, _, _, _, _, hP, hh⟩ := hneg hz
                  exact absurd hh (hP.1.2.2 d hd4)
                · omega
              have HCALL3 := hide (CI.reads hd4 (unhide HI5) (by omega) (by omega) (by omega))
              clear hneg
              go_wp2_with fail
              refine (unhide HCALL3).mono ?_
              rintro e w6 ⟨rfl, hI6⟩
              have HI6 := hide hI6
              clear hI6
              go_wp2
              go_roundw
              case rel => exact ⟨rfl, d + 1, by omega, by go_num, (unhide HI6).weak (by omega) (Nat.le_refl _) (Nat.le_refl _) (fun _ _ h => h)⟩
              case measure => simp [intOf]; omega
            · have hd5 : d = 4 := by omega
              subst hd5
              have HCALL3 := hide ((unhide HI5).done (by omega) (by omega))
              go_wp2_with fail
              refine (unhide HCALL3).mono ?_
              rintro e w6 ⟨rfl, hI6⟩
              have HI6 := hide hI6
              clear hI6
              go_wp2
              go_ret
              exact ⟨rfl, (unhide HI6).low (unhide HT1) (unhide HLOW)⟩

set_option maxRecDepth 100000 in
theorem complete_contract (H : Type) (enc : TypeId × Value → H) (W : World) (base : Nat) (args : Array Value) (ds gs : List (DataW H)) (before : List MemPlace)
  (hval0 : ∀ (j : Nat) t v, Try.f6.params[j]? = some t → args[j]? = some v → Value.okWide Try.prog W .any base t v)
  (hW : DataW.Whole enc Try.prog Try.f6.params.toList Rows.completeSpec.vars false W args.toList ds gs before) (hk : Rows.uptoSmall H (ds ++ gs) = true) :
  Calls Try.prog 6 args W fun e W' => ∃ v, e = .returned v ∧ Rows.completeSpec.post enc Try.prog Try.f6 false true false false W args v W' := by
 have hval := hval0
 have hW' := hW
 obtain ⟨p, q, hA0, hV, rfl, _, _⟩ := hW
 have hA : DataW.TrodAll enc Try.prog W 0 (fun _ => true) true Try.f6.params.toList args.toList ds p := hA0
 rw [Try.params6] at hA hval
 clear hA0 hval0
 obtain ⟨v0, r0, d0, e0, p0, q0, ha0, rfl, rfl, h0, hA⟩ := trodAll_cons hA
 obtain ⟨v1, r1, d1, e1, p1, q1, rfl, rfl, rfl, h1, hA⟩ := trodAll_cons hA
 obtain ⟨v2, r2, d2, e2, p2, q2, rfl, rfl, rfl, h2, hA⟩ := trodAll_cons hA
 obtain ⟨rfl, rfl, rfl⟩ := trodAll_nil hA
 obtain rfl : args = #[v0, v1, v2] := by cases args; simp_all
 obtain ⟨rfl, rfl⟩ := trodVars_none hV
 simp only [List.append_nil] at hW' hk
 have hlt : ∀ x ∈ p0 ++ (p1 ++ p2), x.block < W.heap.size := fun x hx => by simpa using hW'.lt x hx
 have hlt0 : ∀ x ∈ p0, x.block < W.heap.size := fun x hx => hlt x (by simp [hx])
 have hlt1 : ∀ x ∈ p1, x.block < W.heap.size := fun x hx => hlt x (by simp [hx])
 have hlt2 : ∀ x ∈ p2, x.block < W.heap.size := fun x hx => hlt x (by simp [hx])
 obtain ⟨a0, n0, c0, rfl⟩ := okWide_slice Try.underlying22 (hval 0 22 v0 rfl rfl)
 obtain ⟨a1, n1, c1, rfl⟩ := okWide_slice Try.underlying52 (hval 1 52 v1 rfl rfl)
 obtain ⟨z2, rfl⟩ := okWide_int Try.underlying3 (hval 2 3 v2 rfl rfl)
 have k0 := h0
 have k1 := h1
 have k2 := h2
 obtain ⟨f0, h0⟩ := h0
 obtain ⟨f1, h1⟩ := h1
 obtain ⟨f2, h2⟩ := h2
 obtain ⟨_, _, _, g0, e, hr0, hm0⟩ := list_open h0
 cases e
 obtain ⟨hacts, hd⟩ := script_open h1
 obtain ⟨_, e, hf2⟩ := int_open h2
 cases e
 have hn1 : n1 ≤ 1048576 := by
  rcases hd with ⟨_, h⟩ | ⟨elems, spare, h, hl⟩
  ·omega
  ·rw [← hl]; exact bulk_slice (spare := spare) hk (by simp [h])
 refine (complete_any a0 n0 c0 g0 a1 n1 c1 z2 W hr0 hm0 hacts hn1 hf2).mono fun e W' ⟨he, hb0⟩ => ?_
 subst he
 have hb : Below W.heap.size W W' := hb0.below (Nat.le_refl _) (fun _ f => f.elim)
 refine ⟨_, rfl, _, _, _, [], p0 ++ (p1 ++ (p2 ++ [])), [], hW', ?_, ?_, rfl, hb.frame _, fun h => by cases h⟩
 ·exact trodAll_cons_mk (shut_bool Try.underlying4 true) trodAll_mk0
 ·exact trodAll_cons_mk (Below.trod Try.laidOut (by kernel_rfl) (of_decide_eq_true (by kernel_rfl)) k0 hb hlt0)
   (trodAll_cons_mk (Below.trod Try.laidOut (by kernel_rfl) (of_decide_eq_true (by kernel_rfl)) k1 hb hlt1)
   (trodAll_cons_mk (Below.trod Try.laidOut (by kernel_rfl) (of_decide_eq_true (by kernel_rfl)) k2 hb hlt2) trodAll_mk0))

set_option maxRecDepth 100000 in
theorem complete_lifted (os : Os) (started : os.Started) (H : Type) (enc : TypeId × Value → H) (F : Stop.Interp) :
  ReturnsInHanded {} Try.checked os 6 .any ((Rows.OpenSpec.upto Rows.completeSpec).pre6 enc Try.prog Try.f6 Rows.completeUptoRow.domain false) (((Rows.OpenSpec.upto Rows.completeSpec).at F).post enc Try.prog Try.f6 false true false false) := by
 refine returnsInHanded_of_cond (C := Try.checked) (s := Rows.OpenSpec.upto Rows.completeSpec) (k := Rows.uptoSmall) rfl Try.own started (by kernel_rfl) Try.func6
  (OpenSpec.witness (enc := enc) (C := Try.checked) (s := Rows.OpenSpec.upto Rows.completeSpec) (k := Rows.uptoSmall) rfl false ⟨#[], #[.slice none 0 0, .slice none 0 0, .int .i64 0], []⟩ 8 (by kernel_rfl) (by kernel_rfl) (by kernel_rfl)
   (x := ([.nil, .nil, .lit (.int .i64 0)], [], [])) (by kernel_rfl) rfl (by kernel_rfl)) ?_
 intro W base args ds gs before hval hW _ hk _
 exact complete_contract H enc W base args ds gs before hval hW hk

theorem complete_holds : Rows.CompleteUptoSaid :=
 OpenClaim.holds_of_cond 6 Try.f6 rfl rfl rfl rfl rfl rfl rfl ⟨rfl, rfl, rfl, rfl, rfl⟩ rfl rfl rfl rfl rfl (by kernel_rfl) Try.func6 (by kernel_rfl)
  (of_decide_eq_true (by kernel_rfl)) (by unfold Func.isWrapper; first | (rw [if_pos (by decide +kernel)]; kernel_rfl) | (rw [if_neg (by decide +kernel)]; exact ⟨rfl, rfl⟩))
  (fun os started H enc _ F => complete_lifted os started H enc F)

#print axioms complete_holds

end Go.Proofs.Ytodfcpblcpogiaa

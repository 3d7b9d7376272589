/-
  keepLinks, walked.
-/
import Derived.Test.YtodfcpblcpogiaaGreatKeep
namespace Go.Proofs.YtodfcpblcpogiaaGreat
open Go.RowKit

theorem elem67 : Elem 67 (.slice none 0 0) 1 24 := elem_of (by kernel_rfl)
theorem elem30 : Elem 30 (.slice none 0 0) 1 24 := elem_of (by kernel_rfl)
theorem elem69 : Elem 69 (.agg #[.int .i64 0, .int .i64 0, .int .i64 0]) 3 24 := elem_of (by kernel_rfl)
theorem elem45 : Elem 45 (.agg #[.pointer none, .pointer none]) 2 16 := elem_of (by kernel_rfl)

/-- The statement's world, all that it is made of left unsaid: at most p lists that came out, q that were handed in. -/
def St (B : Nat) (kp : Nat → Prop) (wk w0 : World) (bw : Nat) (nets : List Tw) (p q : Nat) (w : World) : Prop :=
  ∃ role ints ls ms vA N vI vL vM, WI B kp wk w bw role nets ints ls ms vA N vI vL vM ∧ ls.length = ms.length ∧ ls.length ≤ p ∧ ints.length ≤ q ∧ Below B w0 w

theorem wrapped (N : Int) : IntKind.i64.wrap (-77000000 - N) = mkOf N := by unfold mkOf; exact Go.IntWalk.i64_left _

theorem KL.start {B : Nat} {kp : Nat → Prop} {wk : World} {w0 w : World} {bw : Nat} {nets : List Tw} {ints : List Value} {vA vI : Value} {N : Int} {role : Role} {ls : List Value} {ms : List Int} {vL vM : Value} (hwi : WI B kp wk w bw role nets ints ls ms vA N vI vL vM) (hbl : Below B w0 w) :
    KL B kp wk w0 bw nets ints vA vI 0 (.slice none 0 0) w.heap.size (wrap64 (N + 1)) (give role w.heap.size (10, 0)) ls ms vL vM ((w.setCell ⟨bw, 1, none⟩ (.int .i64 (wrap64 (N + 1)))).alloc (.cells #[.int .i64 (mkOf (wrap64 (N + 1))), .int .i64 0, .int .i64 0] 69)) := by
  have hs : (w.setCell ⟨bw, 1, none⟩ (.int .i64 (wrap64 (N + 1)))).heap.size = w.heap.size := by simp [World.setCell]
  have w1 := (hwi.setN (wrap64 (N + 1))).calm ((Touch.refl (fun _ => False) _).alloc (.cells #[.int .i64 (mkOf (wrap64 (N + 1))), .int .i64 0, .int .i64 0] 69))
  have hb := heap_alloc_new (w.setCell ⟨bw, 1, none⟩ (.int .i64 (wrap64 (N + 1)))) (.cells #[.int .i64 (mkOf (wrap64 (N + 1))), .int .i64 0, .int .i64 0] 69)
  rw [hs] at hb
  refine ⟨w1.gives w.heap.size (10, 0) (hwi.fresh _ (Nat.le_refl _)) hwi.lo (by simp [hs]), ?_, hb, give_same _ _ _, ⟨World.ownsRow_nil _ _ _ _, fun g hg => by cases hg⟩, fun x hx g m cap hg _ => by cases hg⟩
  exact (hbl.trans ((Touch.set1 w bw 1 _).below hwi.lo (fun k e => by rw [e]; exact hwi.base bw (by rw [hwi.b8.own]; decide)))).trans (((Touch.refl (fun _ => False) _).alloc _).below (by rw [hs]; exact hwi.lo) (fun _ f => f.elim))

set_option maxRecDepth 100000 in
set_option maxHeartbeats 1000000 in
theorem keepLinks_any (B : Nat) (kp : Nat → Prop) (wk w0 w : World) (bw : Nat) (nets : List Tw) (p q : Nat) (h : St B kp wk w0 bw nets p q w) (hp : (p + 4) * 24 ≤ 140737488355328) :
    Calls Tryz.prog 24 #[.pointer (some ⟨bw, 0, none⟩), .slice none 0 0] w fun e w' => e = .returned (.tuple #[]) ∧ St B kp wk w0 bw nets (p + 4) q w' := by
  obtain ⟨role, ints, ls, ms, vA, N, vI, vL, vM, hwi, hlen, hlp, hiq, hbl⟩ := h
  have c1 := hwi.b8.num
  have f1 := hwi.b8.fr 1
  have hbw : bw < w.heap.size := block_lt_of_cell c1
  have HW := hide hwi
  have HBL := hide hbl
  clear hwi hbl
  go_enter Tryz.func24, Tryz.ntmps24
  go_wp2
  refine wp_loop_rounds 1 ?_; rw [rounds_succ]
  go_wp2
  have HK := hide (KL.start (unhide HW) (unhide HBL))
  clear HW HBL c1 f1 hbw
  go_loopw [1, 6] (fun l i wr => ∃ (k : Nat) (a : Option Addr) (cap : Nat), k ≤ 4 ∧ i = .int .i64 k ∧ l = .slice a k cap ∧ ∃ role ls ms vL vM, KL B kp wk w0 bw nets ints vA vI k (.slice a k cap) w.heap.size (wrap64 (N + 1)) role ls ms vL vM wr ∧ ls.length = ms.length ∧ ls.length ≤ p + k) (fun _ i _ => 4 - (intOf i).toNat)
  case atStart => exact ⟨0, none, 0, by omega, rfl, rfl, _, _, _, _, _, unhide HK, hlen, by omega⟩
  case round =>
    obtain ⟨k, a, cap, hk, rfl, rfl, role1, ls1, ms1, vL1, vM1, hK, hl1, hp1⟩ := hrel
    have HK1 := hide hK
    clear HK hK
    by_cases hlt : k < 4
    · have c4 := (unhide HK1).wi.b8.links
      have hfz := (unhide HK1).wi.b8.fr
      have hbw : bw < wr.heap.size := block_lt_of_cell c4
      have hlo := (unhide HK1).wi.lo
      obtain ⟨t67, i67, z67, s67, b67⟩ := elem67
      have I67 := hide i67
      have Z67 := hide z67
      have S67 := hide s67
      have B67 := hide b67
      have HL1 := hide hl1
      clear i67 z67 s67 b67 hl1
      have oL := hide ((unhide HK1).calm ((Touch.refl (fun _ => False) _).alloc (.cells #[.slice a k cap] 67))).wi.rL.own
      go_wp2_with (at_builtin; refine wpList_append_mine _ rfl _ _ 29 rfl B 67 t67 (.slice none 0 0) 1 24 Tryz.underlying29 (unhide I67) (unhide Z67) (unhide S67) (unhide B67) rfl (by decide) vL1 ls1.length ls1 rfl (unhide oL) ⟨wr.heap.size, 0, none⟩ 1 1 [.slice a k cap] rfl rfl ?news ?one (by decide) ?h63 ?bytes ?base ?_)
      case news => intro j u hj; match j, hj with | 0, hj => simp at hj; subst hj; simp [Addr.add]
      case one => intro u hu; simp at hu; subst hu; rfl
      case h63 => unfold maxLen; omega
      case bytes => omega
      case base => simp; omega
      intro g1 cp1 w1 hg1
      have hk1 := ((unhide HK1).calm ((Touch.refl (fun _ => False) _).alloc (.cells #[.slice a k cap] 67))).one (unhide HL1) hg1
      have b1 := ((unhide HK1).calm ((Touch.refl (fun _ => False) _).alloc (.cells #[.slice a k cap] 67))).wi.b8.keep (grew_frame ((unhide HK1).calm ((Touch.refl (fun _ => False) _).alloc (.cells #[.slice a k cap] 67))).wi.fresh ((unhide HK1).calm ((Touch.refl (fun _ => False) _).alloc (.cells #[.slice a k cap] 67))).wi.rL hg1 (by decide)).1 (by decide)
      have d4 := b1.links
      have dz := b1.fr 4
      have HK2 := hide hk1
      clear hk1 hg1 b1 oL c4 hfz hbw hlo HK1
      go_wp2
      obtain ⟨W2, hW2⟩ : ∃ W2, W2 = w1.setCell ⟨bw, 4, none⟩ (.slice (some ⟨g1, 0, none⟩) (ls1.length + 1) cp1) := ⟨_, rfl⟩
      rw [← hW2] at HK2 ⊢
      clear hW2 d4 dz
      go_cut [] (fun wx => ∃ role ls ms vL vM, KL B kp wk w0 bw nets ints vA vI k (.slice a k cap) w.heap.size (wrap64 (N + 1)) role ls ms vL vM wx ∧ ls.length = ms.length ∧ ls.length ≤ p + k + 1)
      case first =>
        have c5 := (unhide HK2).wi.b8.lm
        have c1 := (unhide HK2).wi.b8.num
        have hfz := (unhide HK2).wi.b8.fr
        have hbw : bw < W2.heap.size := block_lt_of_cell c5
        have hlo := (unhide HK2).wi.lo
        obtain ⟨t3, i3, z3, s3, b3⟩ := elem3
        have I3 := hide i3
        have Z3 := hide z3
        have S3 := hide s3
        have B3 := hide b3
        clear i3 z3 s3 b3
        go_region_law (first
          | (refine step_append_mine _ rfl _ _ 30 rfl B 3 t3 (.int .i64 0) 1 8 Tryz.underlying30 (unhide I3) (unhide Z3) (unhide S3) (unhide B3) rfl (by decide) vM1 ms1.length (ms1.map fun k => Value.int .i64 k) rfl ?own ⟨W2.heap.size, 0, none⟩ 1 1 [.int .i64 (mkOf (wrap64 (N + 1)))] rfl rfl ?news ?one (by decide) ?h63 ?bytes ?base ?_
             case own => exact ((unhide HK2).calm (((Touch.refl (fun _ => False) _).alloc _).drew)).wi.rM.own
             case news => intro j u hj; match j, hj with | 0, hj => simp at hj; subst hj; simp [Addr.add]; exact wrapped _
             case one => intro u hu; simp at hu; subst hu; rfl
             case h63 => have := unhide HL1; unfold maxLen; omega
             case bytes => have := unhide HL1; omega
             case base => simp; omega
             intro g2 cp2 w2 hg2
             have hk2 := ((unhide HK2).calm (((Touch.refl (fun _ => False) _).alloc _).drew)).two (unhide HL1) (by omega) hg2
             have b2 := ((unhide HK2).calm (((Touch.refl (fun _ => False) _).alloc _).drew)).wi.b8.keep (grew_frame ((unhide HK2).calm (((Touch.refl (fun _ => False) _).alloc _).drew)).wi.fresh ((unhide HK2).calm (((Touch.refl (fun _ => False) _).alloc _).drew)).wi.rM hg2 (by decide)).1 (by decide)
             have d5 := b2.lm
             have dz := b2.fr 5
             have HK3 := hide hk2
             clear hk2 hg2 b2))
        all_goals go_wp2_with fail
        all_goals go_meet
        all_goals exact ⟨_, _, _, _, _, unhide HK3, by have := unhide HL1; simp; omega, by simp; omega⟩
      case rest =>
        obtain ⟨role3, ls3, ms3, vL3, vM3, hK3, hl3, hp3⟩ := hcut
        have e0 : wc.cell? ⟨w.heap.size, 0, none⟩ = some (.int .i64 (mkOf (wrap64 (N + 1)))) := box_cell hK3.box 0
        have e1 : wc.cell? ⟨w.heap.size, 1, none⟩ = some (.int .i64 0) := box_cell hK3.box 1
        have e2 : wc.cell? ⟨w.heap.size, 2, none⟩ = some (.int .i64 0) := box_cell hK3.box 2
        have hlo := hK3.wi.lo
        have oR := hide (hK3.calm ((Touch.refl (fun _ => False) _).alloc (.cells #[.int .i64 (mkOf (wrap64 (N + 1))), .int .i64 0, .int .i64 0] 69))).row.own
        have HK3 := hide hK3
        have HL3 := hide hl3
        clear hK3 hl3 HK2
        obtain ⟨t69, i69, z69, s69, b69⟩ := elem69
        have I69 := hide i69
        have Z69 := hide z69
        have S69 := hide s69
        have B69 := hide b69
        clear i69 z69 s69 b69
        go_wp2_with (at_builtin; refine wpList_append_mine _ rfl _ _ 67 rfl B 69 t69 (.agg #[.int .i64 0, .int .i64 0, .int .i64 0]) 3 24 Tryz.underlying67 (unhide I69) (unhide Z69) (unhide S69) (unhide B69) rfl (by decide) (.slice a k cap) k (mks k (mkOf (wrap64 (N + 1)))) rfl (unhide oR) ⟨wc.heap.size, 0, none⟩ 1 1 [.int .i64 (mkOf (wrap64 (N + 1))), .int .i64 0, .int .i64 0] rfl rfl ?news ?one (by decide) ?h63 ?bytes ?base ?_)
        case news =>
          intro j u hj
          match j, hj with
          | 0, hj => simp at hj; subst hj; simp [Addr.add]
          | 1, hj => simp at hj; subst hj; simp [Addr.add]
          | 2, hj => simp at hj; subst hj; simp [Addr.add]
        case one =>
          intro u hu
          simp at hu
          rcases hu with rfl | rfl
          · rfl
          · rfl
        case h63 => unfold maxLen; omega
        case bytes => omega
        case base => simp; omega
        intro g4 cp4 w4 hg4
        have HK4 := hide (((unhide HK3).calm ((Touch.refl (fun _ => False) _).alloc (.cells #[.int .i64 (mkOf (wrap64 (N + 1))), .int .i64 0, .int .i64 0] 69))).three hg4)
        clear hg4 HK3 oR e0 e1 e2
        go_wp2
        go_roundw
        case rel => exact ⟨k + 1, some ⟨g4, 0, none⟩, cp4, by omega, by go_num, rfl, _, _, _, _, _, unhide HK4, unhide HL3, by omega⟩
        case measure => simp [intOf]; omega
    · go_wp2
      go_end0
      exact ⟨rfl, role1, ints, ls1, ms1, vA, _, vI, vL1, vM1, (unhide HK1).wi, hl1, by omega, hiq, (unhide HK1).below⟩

end Go.Proofs.YtodfcpblcpogiaaGreat

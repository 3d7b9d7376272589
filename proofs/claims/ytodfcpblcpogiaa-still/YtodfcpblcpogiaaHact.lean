/-
  act: an event; a frame.
-/
import Derived.Test.YtodfcpblcpogiaaKeeps
import Derived.Test.YtodfcpblcpogiaaPubF
namespace Go.Proofs.Ytodfcpblcpogiaa
open Go.RowKit

/-- The books of clients that stay: nothing was read yet. -/
structure Bks (fl : Nat → List Tst) (z : Int) (E : List News) (σ : Net) (H : HM) : Prop where
  evs : H.evs = flat E
  stay : ∀ c, c < 4 → H.num (4 + c) = 0
  num : ∀ c, c < 4 → H.num (8 + c) = (σ.cl c).many
  even : ∀ c, c < 4 → H.subs (2 * c) = ⟨true, fl c, z, [], 0⟩
  odd : ∀ c, c < 4 → H.subs (2 * c + 1) = ⟨false, [], 0, [], 0⟩

/-- Frames of events alone; how many each has published. -/
def FlowM (A : Nat → Option Nat) (F : Nat → Option (List Tst)) (E : List News) (M : Nat → Int) (σ : Net) : Prop := FlowI A F E σ ∧ ∀ c, c < 4 → (σ.cl c).many = M c
theorem flowm_runs (A : Nat → Option Nat) (F : Nat → Option (List Tst)) (E : List News) (M : Nat → Int) (hm : E.length + 1 < 2000000000000) : Runs (FlowM A F E M) (E.length + 1) := by
  have R := flow_runs A F E hm
  refine ⟨fun τ h => R.fine τ h.1, fun τ h => R.opn τ h.1, fun τ x y f l h hq => ⟨R.del τ x y f l h.1 hq, fun c hc => ?_⟩⟩
  rcases h.1.fl.del_cl x y c with e | ⟨e, l, _, e2⟩
  · rw [e]; exact h.2 c hc
  · rw [e2, tell_many]; exact h.2 c hc

theorem Bks.same {fl : Nat → List Tst} {z : Int} {E : List News} {σ σ' : Net} {H : HM} (B : Bks fl z E σ H) (h : ∀ c, c < 4 → (σ'.cl c).many = (σ.cl c).many) : Bks fl z E σ' H :=
  ⟨B.evs, B.stay, fun c hc => (B.num c hc).trans (h c hc).symm, B.even, B.odd⟩

/-- An event more. -/
theorem Bks.pub {fl : Nat → List Tst} {z : Int} {E : List News} {σ σ' : Net} {H : HM} (B : Bks fl z E σ H) {c : Nat} (hc : c < 4) (e : News) (h : ∀ d, (σ'.cl d).many = if d = c then (σ.cl c).many + 1 else (σ.cl d).many) :
    Bks fl z (E ++ [e]) σ' { H with num := put H.num (8 + c) ((σ.cl c).many + 1), evs := H.evs ++ [⟨e.ev, 0⟩] } := by
  refine ⟨by rw [flat_append, ← B.evs], fun d hd => ?_, fun d hd => ?_, B.even, B.odd⟩
  · show put H.num (8 + c) _ (4 + d) = 0
    rw [put_other _ _ (by omega)]; exact B.stay d hd
  · show put H.num (8 + c) _ (8 + d) = _
    by_cases e1 : d = c
    · subst e1; rw [put_same, h, if_pos rfl]
    · rw [put_other _ _ (by omega), h, if_neg e1]; exact B.num d hd

set_option maxRecDepth 100000 in
set_option maxHeartbeats 4000000 in
theorem actPub {w : World} {hb b : Nat} {κ ρ : Nat → Option Role} {σ : Net} {H : HM} {A : Nat → Option Nat} {F : Nat → Option (List Tst)} {E : List News} {fl : Nat → List Tst} (h : HN w hb b κ ρ σ H) (i : FlowI A F E σ) (B : Bks fl 0 E σ H) (hA : ∀ c, c < 4 → A c ≠ none) (hE : E.length < 1999999999990)
    {cl : Int} (hcl : Fits cl) (a f0 f1 f2 : Int) (ra : Option Addr) (rn rc : Nat) :
    Calls Try.prog 21 #[ptr hb, .agg #[int 3, int cl, int a, int f0, int f1, int f2, .slice ra rn rc]] w fun r w' => r = .returned (.bool true) ∧ ∃ κ' ρ' σ' H' E', HN w' hb b κ' ρ' σ' H' ∧ FlowI A F E' σ' ∧ Bks fl 0 E' σ' H' ∧ E'.length ≤ E.length + 1 ∧ Ow κ ρ κ' ρ' w w' := by
  have hp1 := fun w => pick_any cl 4 w hcl (by omega) (by omega)
  have hp2 : ∀ w, Calls Try.prog 12 #[int 3, int 14] w fun e w' => e = .returned (int 3) ∧ w' = w := fun w => pick_any 3 14 w (by unfold Fits; omega) (by omega) (by omega)
  have hc := pickN_lt cl 4 (by omega)
  obtain ⟨c, hcE⟩ : ∃ c, c = pickN cl 4 := ⟨_, rfl⟩
  rw [← hcE] at hp1 hc
  obtain ⟨x, hx⟩ := Option.ne_none_iff_exists'.1 (hA c hc)
  obtain ⟨W, hW⟩ : ∃ W, w.alloc (.cells #[int 3, int cl, int a, int f0, int f1, int f2, .slice ra rn rc] 54) = W := ⟨_, rfl⟩
  have hbx : W.heap[w.heap.size]? = some (.cells #[int 3, int cl, int a, int f0, int f1, int f2, .slice ra rn rc] 54) := by rw [← hW]; exact heap_alloc_new w _
  have hcal : Calm w W := by rw [← hW]; exact (Touch.refl _ _).alloc _
  have hN0 := h.calm hcal
  have HN0 := hide hN0
  have HOFF : Hid (κ w.heap.size = none ∧ ρ w.heap.size = none) := by
    refine ⟨?_, ?_⟩
    · cases hq : κ w.heap.size with
      | none => rfl
      | some r => have := h.h.lt _ (by rw [hq]; simp); omega
    · cases hq : ρ w.heap.size with
      | none => rfl
      | some r => have := h.x.lt _ (by rw [hq]; simp); omega
  have HC := hide hcal
  have HBX := hide hbx
  have HP1 := hide hp1
  have HP2 := hide hp2
  have II := hide i
  have BB := hide B
  have HX := hide hx
  have HE := hide hE
  have x0 : W.cell? ⟨w.heap.size, 0, none⟩ = some (int 3) := box_cell hbx 0
  have x1 : W.cell? ⟨w.heap.size, 1, none⟩ = some (int cl) := box_cell hbx 1
  have x3 : W.cell? ⟨w.heap.size, 3, none⟩ = some (int f0) := box_cell hbx 3
  have x4 : W.cell? ⟨w.heap.size, 4, none⟩ = some (int f1) := box_cell hbx 4
  have x5 : W.cell? ⟨w.heap.size, 5, none⟩ = some (int f2) := box_cell hbx 5
  have hnet := hN0.h.net
  have hci : (c : Int) < 4 := by omega
  clear hp1 hp2 hcE hx hbx hcal hN0 h i B hA hE hcl
  go_enter Try.func21, Try.ntmps21
  go_wp2_with fail
  refine (unhide HP1 _).mono ?_
  rintro e w1 ⟨rfl, hw1⟩
  have hw1 := hw1.symm
  subst hw1
  go_wp2_with fail
  refine (unhide HP2 _).mono ?_
  rintro e w1 ⟨rfl, hw1⟩
  have hw1 := hw1.symm
  subst hw1
  clear hW
  by_cases hful : σ.full = true
  · go_wp2_with fail
    go_cut [7, 8] (fun s t wx => s = int 0 ∧ t = int 6 ∧ Calm W wx)
    case first =>
      go_region_with (go_at_call 17; refine (publishF ((unhide HN0).calm ((Touch.refl _ _).drew)).x ((flow_runs A F E (by have := unhide HE; omega)).fine σ (unhide II)).fit hc (((unhide II).fl.cl c hc).here.trans (unhide HX)) f0 f1 f2 hful).mono ?_; rintro e w2 ⟨rfl, ht2⟩)
      all_goals go_wp2_with fail
      all_goals go_meet
      all_goals exact ⟨rfl, rfl, ((Touch.refl _ _).drew).calm ht2⟩
    case rest =>
      obtain ⟨rfl, rfl, ht2⟩ := hcut
      have HT2 := hide ht2
      clear ht2 x0 x1 x3 x4 x5 hnet
      go_wp2
      go_ret
      have ht := (unhide HC).calm (unhide HT2)
      exact ⟨rfl, κ, ρ, σ, H, E, (unhide HN0).calm (unhide HT2), unhide II, unhide BB, by omega, Ow.calm ht⟩
  · have hful' : σ.full = false := by simpa using hful
    have hmm := (unhide II).tame.many c hc
    obtain ⟨M, hM⟩ : ∃ M, M = (σ.cl c).many + 1 := ⟨_, rfl⟩
    have hMb : 1 ≤ M ∧ M ≤ 2000000000000 := by have := unhide HE; omega
    have HM1 := hide hM
    clear hM hmm hful
    go_wp2_with fail
    go_cut [7, 8] (fun s t wx => s = int M ∧ t = int 0 ∧ ∃ ρ', HN wx hb b κ ρ' (σ.pub c f0 f1 f2) H ∧ FlowI A F (E ++ [⟨⟨c, M, f0, f1, f2⟩, 1⟩]) (σ.pub c f0 f1 f2) ∧ (∀ d, ((σ.pub c f0 f1 f2).cl d).many = if d = c then M else (σ.cl d).many) ∧ Ow κ ρ κ ρ' W wx)
    case first =>
      go_region_with (go_at_call 17; refine (publishS ((unhide HN0).calm ((Touch.refl _ _).drew)).x (unhide II) hful' hc (unhide HX) f0 f1 f2 (by have := unhide HE; omega)).mono ?_; rw [← unhide HM1]; rintro e w7 ⟨rfl, ρ7, hX7, hI7, hmn7, _, hM7⟩)
      all_goals go_wp2_with fail
      all_goals go_meet
      all_goals exact ⟨rfl, rfl, ρ7, ((unhide HN0).calm ((Touch.refl _ _).drew)).mv hX7 hM7, hI7, hmn7, (Ow.calm ((Touch.refl _ _).drew)).trans (Ow.mv hM7)⟩
    case rest =>
      obtain ⟨rfl, rfl, ρ7, hN7, hI7, hmn7, hO7⟩ := hcut
      obtain ⟨w7, hw7⟩ : ∃ w7, w7 = wc := ⟨_, rfl⟩
      subst hw7
      have hcnt := hN7.h.num (8 + c) (by omega)
      rw [(unhide BB).num c hc, show 3 + (8 + c) = 11 + c by omega] at hcnt
      have hfz := hN7.h.fr (11 + c)
      have HWR : wrap64 ((σ.cl c).many + 1) = M := by rw [← unhide HM1]; exact wrap_small (by omega) (by omega)
      have hset := hN7.h.setNum (i := 8 + c) (by omega) M
      rw [show 3 + (8 + c) = 11 + c by omega] at hset
      have HSET := hide hset
      have HN7 := hide hN7
      have HI7 := hide hI7
      have HMN7 := hide hmn7
      have HO7 := hide hO7
      obtain ⟨z, hz⟩ : ∃ z, z = (σ.cl c).many := ⟨_, rfl⟩
      rw [← hz] at hcnt HWR
      have hzb : 0 ≤ z ∧ z ≤ 2000000000000 := by have := unhide HM1; omega
      have hz1 : z + 1 = M := by have := unhide HM1; omega
      have HZ := hide hz
      clear hz hN7 hI7 hmn7 hO7 hset x0 x1 x3 x4 x5 hnet hful'
      go_wp2_with fail
      go_cut [] (fun wx => wx = (w7.setCell ⟨hb, 11 + c, none⟩ (int M)).drew)
      case first =>
        go_region
        all_goals go_wp2_with fail
        all_goals go_meet
        all_goals rfl
      case rest =>
        have htd : Calm (w7.setCell ⟨hb, 11 + c, none⟩ (int M)) wc := by rw [hcut]; exact (Touch.refl _ _).drew
        have hN8 := ((unhide HN7).books (unhide HSET).2 (unhide HSET).1).calm htd
        have hO8 := ((unhide HO7).trans (unhide HSET).2.ow).trans (Ow.calm htd)
        have HN8 := hide hN8
        have HO8 := hide hO8
        have bxc : ∀ j v, [int 3, int cl, int a, int f0, int f1, int f2][j]? = some v → wc.cell? ⟨w.heap.size, j, none⟩ = some v := fun j v hj => hO8.cell (unhide HOFF).1 (unhide HOFF).2 ((box_cell (unhide HBX) j).trans (by
          rcases j with _ | _ | _ | _ | _ | _ | j
          all_goals first | exact hj | simp at hj))
        have x3 := bxc 3 _ rfl
        have x4 := bxc 4 _ rfl
        have x5 := bxc 5 _ rfl
        have hst := hN8.h.num (4 + c) (by omega)
        have hst0 : put H.num (8 + c) M (4 + c) = 0 := by rw [put_other _ _ (by omega)]; exact (unhide BB).stay c hc
        simp only [hst0] at hst
        rw [show 3 + (4 + c) = 7 + c by omega] at hst
        have hcn := hN8.h.num (8 + c) (by omega)
        simp only [put_same] at hcn
        rw [show 3 + (8 + c) = 11 + c by omega] at hcn
        obtain ⟨vl, hvl, hrowv⟩ := hN8.h.evs
        have hfz8 := hN8.h.fr
        have HFZ := hide hfz8
        have hone : vl.oneCell' = true := by
          rcases hrowv.1.2 with ⟨rfl, _⟩ | ⟨g, cap, cur, rfl, _⟩ <;> rfl
        have hbl : hb < wc.heap.size := block_lt_of_cell hvl
        have hvb : vl.ownBlock ≠ some hb := fun e => by
          have := hrowv.2 hb e; rw [hN8.h.house] at this; cases this
        have HVB := hide hvb
        have HRW := hide hrowv
        have hlen : H.evs.length ≤ 2000000000000 := by rw [(unhide BB).evs, flat_len]; have := unhide HE; omega
        have key : ∀ g2 cp2 w2, Grew 0 132 6 vl (H.evs.length + 1) (H.evs.flatMap News.enc ++ (News.mk ⟨c, M, f0, f1, f2⟩ 0).enc) (wc.alloc (.cells (News.mk ⟨c, M, f0, f1, f2⟩ 0).enc.toArray 132)).drew g2 cp2 w2 →
            ∃ κ', HN (w2.setCell ⟨hb, 2, none⟩ (.slice (some ⟨g2, 0, none⟩) (H.evs.length + 1) cp2)) hb b κ' ρ7 (σ.pub c f0 f1 f2) { H with num := put H.num (8 + c) ((σ.cl c).many + 1), evs := H.evs ++ [⟨⟨c, M, f0, f1, f2⟩, 0⟩] } ∧ Ow κ ρ κ' ρ7 w (w2.setCell ⟨hb, 2, none⟩ (.slice (some ⟨g2, 0, none⟩) (H.evs.length + 1) cp2)) := by
          intro g2 cp2 w2 hG
          have hta : Calm wc (wc.alloc (.cells (News.mk ⟨c, M, f0, f1, f2⟩ 0).enc.toArray 132)).drew := ((Touch.refl _ _).alloc _).drew
          have hXa := (unhide HN8).calm hta
          have hfin := hXa.h.evsMore ⟨⟨c, M, f0, f1, f2⟩, 0⟩ (hta.cell (p := ⟨hb, 2, none⟩) (fun f => f) hvl) hG
          refine ⟨_, ?_, (((Ow.calm (unhide HC)).trans (unhide HO8)).trans (Ow.calm hta)).trans hfin.2.ow⟩
          rw [← unhide HM1]
          exact hXa.books hfin.2 hfin.1
        have KEY := hide key
        clear key hcut htd hN8 hO8 bxc hst0 hfz8 hvb hrowv hcnt hfz HSET HN7 HO7
        obtain ⟨ti, i3, z3, s3, b3⟩ := elem132
        have I3 := hide i3
        have Z3 := hide z3
        have S3 := hide s3
        have B3 := hide b3
        clear i3 z3 s3 b3
        go_wp2_with fail
        go_region_law (first
          | (refine step_append_mine _ rfl _ _ 29 rfl 0 132 ti (.agg #[int 0, int 0, int 0, int 0, int 0, int 0]) 6 48 Try.underlying29 (unhide I3) (unhide Z3) (unhide S3) (unhide B3) rfl (by decide) vl H.evs.length (H.evs.flatMap News.enc) rfl ?own ⟨wc.heap.size, 0, none⟩ 1 1 (News.mk ⟨c, M, f0, f1, f2⟩ 0).enc rfl rfl ?news ?one (by decide) ?h63 ?bytes ?base ?_
             case own => exact ownsRow_keep (unhide HRW).1 (((Touch.refl (fun _ => False) _).alloc _).drew) (fun _ _ f => f)
             case news => intro j u hj; exact new_cells wc (News.mk ⟨c, M, f0, f1, f2⟩ 0).enc 132 j u hj
             case one => intro u hu; simp [News.enc, Ev.enc] at hu; rcases hu with rfl | rfl | rfl | rfl | rfl | rfl <;> rfl
             case h63 => unfold maxLen; omega
             case bytes => omega
             case base => simp
             intro g2 cp2 w2 hg2
             have hne : ¬ hb = g2 := by
               rcases hg2.2.1 with ⟨h, _⟩ | ⟨h, _⟩
               · intro e; exact unhide HVB (by rw [h, e])
               · simp at h; omega
             have ht2 : Touch (fun i => i = g2) wc w2 := by
               rcases hg2.2.1 with ⟨_, h⟩ | ⟨_, h⟩
               · exact Touch.trans (((Touch.refl _ _).alloc _).drew) h
               · exact (((Touch.refl (fun i => i = g2) wc).alloc _).drew).calm h
             have dl2 : w2.cell? ⟨hb, 2, none⟩ = some vl := ht2.cell (p := ⟨hb, 2, none⟩) hne hvl
             have dn2 : w2.cell? ⟨hb, 11 + c, none⟩ = some (int M) := ht2.cell (p := ⟨hb, 11 + c, none⟩) hne hcn
             have fz2 : w2.frozen? ⟨hb, 2, none⟩ = false := (World.frozen?_of_block (w := wc) (a := ⟨hb, 2, none⟩) (ht2.block hb hbl hne)).trans (unhide HFZ _)
             have HG2 := hide hg2
             clear hg2 ht2))
        all_goals go_wp2
        all_goals go_ret
        all_goals
          obtain ⟨κ', hN9, hO9⟩ := unhide KEY _ _ _ (unhide HG2)
          exact ⟨rfl, κ', ρ7, _, _, _, hN9, unhide HI7, (unhide BB).pub hc ⟨⟨c, M, f0, f1, f2⟩, 1⟩ (by rw [← unhide HM1]; exact unhide HMN7), by simp, hO9⟩

set_option maxRecDepth 100000 in
set_option maxHeartbeats 1000000 in
theorem actDel {w : World} {hb b : Nat} {κ ρ : Nat → Option Role} {σ : Net} {H : HM} {I : Net → Prop} {m : Nat} (R : Runs I m) (h : HN w hb b κ ρ σ H) (i : I σ)
    {cl a : Int} (hcl : Fits cl) (ha : Fits a) (f0 f1 f2 : Int) (ra : Option Addr) (rn rc : Nat) :
    Calls Try.prog 21 #[ptr hb, .agg #[int 6, int cl, int a, int f0, int f1, int f2, .slice ra rn rc]] w fun r w' => r = .returned (.bool true) ∧ ∃ ρ' σ', HN w' hb b κ ρ' σ' H ∧ I σ' ∧ Ow κ ρ κ ρ' w w' := by
  have hp1 := fun w => pick_any cl 4 w hcl (by omega) (by omega)
  have hp2 : ∀ w, Calls Try.prog 12 #[int 6, int 14] w fun e w' => e = .returned (int 6) ∧ w' = w := fun w => pick_any 6 14 w (by unfold Fits; omega) (by omega) (by omega)
  obtain ⟨c, hcE⟩ : ∃ c, c = pickN cl 4 := ⟨_, rfl⟩
  rw [← hcE] at hp1
  obtain ⟨W, hW⟩ : ∃ W, w.alloc (.cells #[int 6, int cl, int a, int f0, int f1, int f2, .slice ra rn rc] 54) = W := ⟨_, rfl⟩
  have hbx : W.heap[w.heap.size]? = some (.cells #[int 6, int cl, int a, int f0, int f1, int f2, .slice ra rn rc] 54) := by rw [← hW]; exact heap_alloc_new w _
  have hcal : Calm w W := by rw [← hW]; exact (Touch.refl _ _).alloc _
  have HN0 := hide (h.calm hcal)
  have HC := hide hcal
  have HP1 := hide hp1
  have HP2 := hide hp2
  have II := hide i
  have RR := hide R
  have HA := hide ha
  have x0 : W.cell? ⟨w.heap.size, 0, none⟩ = some (int 6) := box_cell hbx 0
  have x1 : W.cell? ⟨w.heap.size, 1, none⟩ = some (int cl) := box_cell hbx 1
  have x2 : W.cell? ⟨w.heap.size, 2, none⟩ = some (int a) := box_cell hbx 2
  clear hp1 hp2 hcE hbx hcal h i R ha hcl
  go_enter Try.func21, Try.ntmps21
  go_wp2_with fail
  refine (unhide HP1 _).mono ?_
  rintro e w1 ⟨rfl, hw1⟩
  have hw1 := hw1.symm
  subst hw1
  go_wp2_with fail
  refine (unhide HP2 _).mono ?_
  rintro e w1 ⟨rfl, hw1⟩
  have hw1 := hw1.symm
  subst hw1
  clear hW
  go_wp2_with fail
  refine (deliverH (unhide RR) (unhide HN0) (unhide II) (unhide HA)).mono ?_
  rintro e w2 ⟨rfl, ρ2, σ2, hN2, hI2, hO2⟩
  have HN2 := hide hN2
  have HI2 := hide hI2
  have HO2 := hide hO2
  clear hN2 hI2 hO2 x0 x1 x2
  go_wp2
  go_ret
  exact ⟨rfl, ρ2, σ2, unhide HN2, unhide HI2, (Ow.calm (unhide HC)).trans (unhide HO2)⟩

end Go.Proofs.Ytodfcpblcpogiaa

/-
  The program's New.
-/
import Derived.Test.YtodfcpblcpogiaaGreatNnew
namespace Go.Proofs.YtodfcpblcpogiaaGreat
open Go.RowKit

theorem one_cli2 : ∀ v, v ∈ cliTo 2 → v.oneCell' = true := fun v hv => List.all_eq_true.1 (show (cliTo 2).all (fun v => v.oneCell') = true from rfl) v hv
theorem store_cli {w : World} {g o : Nat} (h : w.there g o (cliTo 2).toArray.size) : (storeCells ⟨g, o, none⟩ (cliTo 2)).run Tryz.prog w = .ok () (w.setCells g o (cliTo 2)) := by
  have := run_storeCells_cells (P := Tryz.prog) g o (cliTo 2) 0 w (fun j hj => by simpa using (h j (by simpa using hj)).1) (fun j hj => by simpa using (h j (by simpa using hj)).2) one_cli2
  simpa only [Nat.add_zero] using this

theorem XQ.net {w : World} {b : Nat} {a : Option Addr} {n cap : Nat} {qs : List Value} {cl : Nat → List Value} (h : XQ w b a n cap qs cl) (hq : qs.length = 36) (hi : ∀ v, v ∈ qs → Idle w v) (hcl : ∀ c, c < 4 → cl c = cliTo 2) : XN w b n (fun _ => -1) (fun _ => -1) (fun _ => 0) := by
  have hr : ∀ c, c < 4 → w.rangeAt b (86 + c * 31) (cliTo 2) := fun c hc => by have := (h.cls c hc).1; rwa [hcl c hc] at this
  refine ⟨h.closed, ⟨a, cap, h.tree⟩, ⟨qs, h.links, hq, hi⟩, h.known, fun c hc => hr c hc 0 _ rfl, fun c hc => hr c hc 1 _ rfl, fun c hc => ⟨0, hr c hc 2 _ rfl⟩, fun c hc => hr c hc 3 _ rfl, fun c k hc hk => ?_, fun _ _ => Or.inl rfl, h.fr⟩
  obtain rfl | rfl : k = 0 ∨ k = 1 := by omega
  · exact hr c hc 4 _ rfl
  · exact hr c hc 17 _ rfl

set_option maxRecDepth 100000 in
set_option maxHeartbeats 400000 in
theorem newX_any (b o n cap : Nat) (f : Nat → Int) (w : World) (hm : n ≤ maxLen) (h : ∀ j, j < n → w.cell? ⟨b, o + j, none⟩ = some (.int .i64 (f j))) :
    Calls Tryz.prog 29 #[.slice (some ⟨b, o, none⟩) n cap] w fun e w' =>
      ((goodB f n = false ∧ e = .returned (.tuple #[.pointer none, .int .i64 1])) ∨
       (goodB f n = true ∧ ∃ g, w.heap.size ≤ g ∧ e = .returned (.tuple #[.pointer (some ⟨g, 0, none⟩), .int .i64 0]) ∧ XN w' g n (fun _ => -1) (fun _ => -1) (fun _ => 0))) ∧ Calm w w' := by
  have H := hide h
  clear h
  go_enter Tryz.func29, Tryz.ntmps29
  go_wp2_with fail
  refine (treeNew_any b o n cap f _ hm (unhide H)).mono ?_
  rintro e w1 ⟨he, ht1⟩
  have HT1 := hide ht1
  rcases he with ⟨hbad, rfl⟩ | ⟨hgood, a', c', rfl, hI⟩
  · have HB := hide hbad
    clear hbad
    go_wp2
    go_ret2
    exact ⟨Or.inl ⟨unhide HB, rfl⟩, ht1.alloc _⟩
  · have HG := hide hgood
    have HI := hide (hI.calm ((Touch.refl _ _).alloc (.cells #[.slice a' n c'] 88)))
    have hn5 := (good_ok hgood).1
    clear hgood hI
    go_wp2
    go_cut [6] (fun s wx => ∃ g, s = .pointer (some ⟨g, 0, none⟩) ∧ w.heap.size ≤ g ∧ Calm w wx ∧ ∃ qs, XQ wx g a' n c' qs (fun _ => cli0) ∧ qs.length = 36 ∧ ∀ v, v ∈ qs → Idle wx v)
    case first =>
      have e0 : (w1.alloc (.cells #[.slice a' n c'] 88)).cell? ⟨w1.heap.size, 0, none⟩ = some (.slice a' n c') := box_cell (heap_alloc_new _ _) 0
      go_region_held3 (fun w' => w'.cell? ⟨w1.heap.size, 0, none⟩ = some (.slice a' n c'))
        (first | exact ht2.cell (p := ⟨w1.heap.size, 0, none⟩) (fun f => f) e0 | exact (Touch.refl (fun _ => False) _).alloc _ |>.cell (p := ⟨w1.heap.size, 0, none⟩) (fun f => f) (ht2.cell (p := ⟨w1.heap.size, 0, none⟩) (fun f => f) e0) | go_keep)
        (first | (go_at_call 67; refine (linksNew_any a' n c' f _ hn5 ?_).mono ?_; exact (unhide HI).calm ((Touch.refl _ _).drew); rintro e w2 ⟨qs, rfl, hl36, hidle, ht2⟩))
      all_goals go_wp2_with fail
      all_goals go_meet
      have hE := fold101 a' n c' qs hl36
      refine ⟨w2.heap.size, rfl, ?_, ?_, qs, ?_, hl36, fun v hv => (hidle v hv).keep ((Touch.refl (fun _ => False) _).alloc _) (fun _ _ _ f => f)⟩
      · have h1 := ht1.size
        have h2 := ht2.size
        simp at h2
        omega
      · exact ((((unhide HT1).alloc _).drew).calm ht2).alloc _
      · refine newCells_at a' n c' qs hl36 _ _ ?_
        rw [← hE]
        exact heap_alloc_new _ _
    case rest =>
      obtain ⟨g, rfl, hgw, hc, qs, hQ, hl36, hidl⟩ := hcut
      have HQ := hide hQ
      have HTY := hide hQ.typ
      have HC := hide hc
      have HID := hide hidl
      clear hQ hc HI hidl
      go_wp2_with fail
      go_loopw [20] (fun i wr => ∃ k : Nat, k ≤ 4 ∧ i = .int .i64 k ∧ Touch (fun b => b = g) wc wr ∧ ∃ cl : Nat → List Value, XQ wr g a' n c' qs cl ∧ ∀ c, c < 4 → cl c = if c < k then cliTo 2 else cli0) (fun i _ => 4 - (intOf i).toNat)
      case atStart => exact ⟨0, by omega, rfl, Touch.refl _ _, _, unhide HQ, fun c hc => by simp⟩
      case round =>
        obtain ⟨k, hk, rfl, ht, cl, hX, hcl⟩ := hrel
        have HX := hide hX
        have HCL := hide hcl
        have HT := hide ht
        clear hX hcl ht HQ
        by_cases hlt : k < 4
        · have hlen := ((unhide HX).cls k hlt).2
          have hfz := (unhide HX).fr
          have hgl := block_lt_of_cell (unhide HX).closed
          simp only at hgl
          have hth : ∀ w', Calm wr w' → w'.there g (86 + k * 31) (cliTo 2).toArray.size := fun w' t j hj => by
            have hj' : j < 31 := hj
            have h9 := (unhide HX).calm t
            have hj2 : j < (cl k).length := by rw [hlen]; exact hj'
            exact ⟨by rw [(h9.cls k hlt).1 j _ (List.getElem?_eq_getElem hj2)]; rfl, h9.fr _⟩
          have HTH := hide hth
          clear hth
          go_wp2
          go_region_with (go_at_call 68; refine (clientsNew_any _).mono ?_; rintro e w' ⟨rfl, ht9⟩; replace ht9 : Calm wr w' := ((Touch.refl (fun _ => False) wr).drew).calm ht9; replace hfz : ∀ o, w'.frozen? ⟨g, o, none⟩ = false := ((unhide HX).calm ht9).fr; have HX9 := hide ((unhide HX).calm ht9); have hst := store_cli ((unhide HTH) w' ht9))
          all_goals go_wp2
          all_goals go_roundw
          case rel =>
            refine ⟨k + 1, by omega, by go_num, ?_, _, (unhide HX9).setAll hl36 k hlt (cliTo 2) rfl, fun c hc => ?_⟩
            · exact ((unhide HT).calm ht9).trans (Touch.setCells _ _ _ _)
            · by_cases e : c = k
              · subst e
                simp only [if_true]
                rw [if_pos (by omega)]
              · simp only [if_neg e]
                rw [unhide HCL c hc]
                by_cases h1 : c < k
                · rw [if_pos h1, if_pos (by omega)]
                · rw [if_neg h1, if_neg (by omega)]
          case measure => simp [intOf]; omega
        · go_wp2
          go_ret2
          refine ⟨Or.inr ⟨unhide HG, g, hgw, rfl, ?_⟩, (unhide HC).fresh (unhide HT) (fun b hb e => by omega)⟩
          refine (unhide HX).net hl36 (fun v hv => (unhide HID v hv).keep (unhide HT) (fun k cap h2 e => ?_)) (fun c hc => by rw [unhide HCL c hc, if_pos (by omega)])
          subst e
          obtain ⟨cs, h3⟩ := unhide HTY
          rw [h3] at h2; cases h2

end Go.Proofs.YtodfcpblcpogiaaGreat

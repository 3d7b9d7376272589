/-
  What the house does: stay, fresh, complete, deliver, read; its books.
-/
import Derived.Test.YtodfcpblcpogiaaNeedP
namespace Go.Proofs.Ytodfcpblcpogiaa
open Go.RowKit

section
variable {σ : Net} {A : Nat → Option Nat} {F : Nat → Option (List Tst)} {E : List News}

end

theorem pending_many {σ : Net} {l : Lnk} {j : Nat} (h : σ.pending[j]? = some l) : 0 < l.many := by
  have h := List.mem_of_getElem? h
  unfold Net.pending at h
  split at h
  · cases h
  · simp only [List.mem_flatMap, List.mem_filterMap] at h
    obtain ⟨x, _, y, _, h⟩ := h
    split at h
    · cases h
    · rename_i hne
      cases h
      exact List.length_pos_iff.2 hne

set_option maxRecDepth 100000 in
set_option maxHeartbeats 1000000 in
theorem deliverH {I : Net → Prop} {m : Nat} (R : Runs I m) {w : World} {hb b : Nat} {κ ρ : Nat → Option Role} {σ : Net} {H : HM} (h : HN w hb b κ ρ σ H) (i : I σ) {a : Int} (ha : Fits a) :
    Calls Try.prog 55 #[ptr hb, int a] w fun e w' => e = .returned (.bool true) ∧ ∃ ρ' σ', HN w' hb b κ ρ' σ' H ∧ I σ' ∧ Ow κ ρ κ ρ' w w' := by
  have F := R.fine σ i
  have ho := R.opn σ i
  have hnet := h.h.net
  have RR := hide R
  have HN1 := hide h
  have HI1 := hide i
  have HA := hide ha
  have FF := hide F
  have HOP := hide ho
  clear R h i ha F ho
  go_enter Try.func55, Try.ntmps55
  go_wp2_with fail
  refine (pendingX (unhide HN1).x (unhide FF).len).mono ?_
  rintro e w1 ⟨v, rfl, hL, ht1⟩
  obtain ⟨pa, pc, rfl, hcells⟩ := links_at hL
  have hpl := pending_len (unhide HOP)
  have HC1 := hide hcells
  have HT1 := hide ht1
  have hnet1 := ht1.cell (p := ⟨hb, 0, none⟩) (fun f => f) hnet
  have hlenI : (σ.pending.length : Int) ≤ 36 := by omega
  clear hL hcells ht1 hnet
  by_cases hnil : σ.pending.length = 0
  · rw [hnil]
    clear hpl hlenI HC1
    go_wp2
    go_ret
    exact ⟨rfl, ρ, σ, (unhide HN1).calm (unhide HT1), unhide HI1, Ow.calm (unhide HT1)⟩
  · have hpos : (0 : Int) < σ.pending.length := by omega
    have hpb : ((σ.pending.length : Int) == 0) = false := by rw [beq_dec]; exact decide_eq_false (by omega)
    have hpk := fun w => pick_any a σ.pending.length w (unhide HA) (by omega) (by omega)
    have hpn := pickN_lt a σ.pending.length (by omega)
    obtain ⟨j, hj⟩ : ∃ j, j = pickN a σ.pending.length := ⟨_, rfl⟩
    rw [← hj] at hpk hpn
    have HPK := hide hpk
    have hjI : (j : Int) < σ.pending.length := by omega
    obtain ⟨lk, hlk⟩ : ∃ lk, σ.pending[j]? = some lk := ⟨_, List.getElem?_eq_getElem hpn⟩
    obtain ⟨fq, lq, hq⟩ := mem_pending (List.mem_of_getElem? hlk)
    obtain ⟨g, rfl, c0, c1, c2⟩ := unhide HC1 j lk hlk
    have hmany : (0 : Int) < lk.many := by
      have := pending_many hlk
      omega
    have HQ := hide hq
    have HMANY := hide hmany
    clear hpk hj hlk hq HC1 hmany
    go_wp2_with fail
    refine (unhide HPK _).mono ?_
    rintro e w2 ⟨rfl, hw2⟩
    have hw2 := hw2.symm
    subst hw2
    clear hpb
    go_wp2_with fail
    obtain ⟨W2, hW2⟩ : ∃ W2, W2 = w1.alloc (.cells #[.int .i64 (lk.a : Int), .int .i64 (lk.b : Int), .int .i64 (lk.many : Int)] 68) := ⟨_, rfl⟩
    have ht2 : Calm w1 W2 := by rw [hW2]; exact (Touch.refl _ _).alloc _
    have q0 : W2.cell? ⟨w1.heap.size, 0, none⟩ = some (int lk.a) := by rw [hW2]; exact box_cell (heap_alloc_new _ _) 0
    have q1 : W2.cell? ⟨w1.heap.size, 1, none⟩ = some (int lk.b) := by rw [hW2]; exact box_cell (heap_alloc_new _ _) 1
    have HBX : Hid (W2.heap[w1.heap.size]? = some (.cells #[.int .i64 (lk.a : Int), .int .i64 (lk.b : Int), .int .i64 (lk.many : Int)] 68)) := by rw [hW2]; exact heap_alloc_new _ _
    have qn : W2.cell? ⟨hb, 0, none⟩ = some (ptr b) := ht2.cell (p := ⟨hb, 0, none⟩) (fun f => f) hnet1
    have HN2 := hide (((unhide HN1).calm (unhide HT1)).calm ht2)
    have HO2 := hide ((Ow.calm (κ := κ) (ρ := ρ) (unhide HT1)).trans (Ow.calm ht2))
    have HOFF : Hid (κ w1.heap.size = none ∧ ρ w1.heap.size = none ∧ w1.heap.size < W2.heap.size) := by
      have hN := (unhide HN1).calm (unhide HT1)
      refine ⟨?_, ?_, ?_⟩
      · cases hq : κ w1.heap.size with
        | none => rfl
        | some r => have := hN.h.lt _ (by rw [hq]; simp); omega
      · cases hq : ρ w1.heap.size with
        | none => rfl
        | some r => have := hN.x.lt _ (by rw [hq]; simp); omega
      · rw [hW2]; simp
    rw [← hW2]
    clear hW2 ht2 hnet1 c0 c1 c2 hjI hpn hpos hnil hlenI hpl HPK HT1 HN1 hw2
    go_cut [7] (fun s wx => s = int 0 ∧ ∃ ρ', HN wx hb b κ ρ' (σ.del lk.a lk.b) H ∧ Ow κ ρ κ ρ' w wx ∧ wx.cell? ⟨w1.heap.size, 2, none⟩ = some (int lk.many))
    case first =>
      go_region_with (go_at_call 28; refine (deliverX ((unhide HN2).calm ((Touch.refl _ _).drew)).x (unhide FF).fit (unhide FF).lt (unhide HQ)).mono ?_; rintro e w3 ⟨rfl, ρ3, hX3, hM3⟩)
      all_goals go_wp2_with fail
      all_goals go_meet
      all_goals
        have hc2 : W2.drew.cell? ⟨w1.heap.size, 2, none⟩ = some (int lk.many) := box_cell (w := W2.drew) (unhide HBX) 2
        exact ⟨rfl, ρ3, ((unhide HN2).calm ((Touch.refl _ _).drew)).mv hX3 hM3, ((unhide HO2).trans (Ow.calm ((Touch.refl _ _).drew))).trans (Ow.mv hM3), (Ow.mv (κ := κ) hM3).cell (unhide HOFF).1 (unhide HOFF).2.1 hc2⟩
    case rest =>
      obtain ⟨rfl, ρ3, hN3, hO3, q2⟩ := hcut
      have hmany := unhide HMANY
      have HN3 := hide hN3
      have HO3 := hide hO3
      clear hN3 hO3 HN2 HO2 q0 q1 qn
      go_wp2
      go_ret
      exact ⟨rfl, ρ3, _, unhide HN3, (unhide RR).del σ _ _ _ _ (unhide HI1) (unhide HQ), unhide HO3⟩

end Go.Proofs.Ytodfcpblcpogiaa

/-
  A Rest frame is handled; what was kept at home is told.
-/
import Derived.Test.YtodfcpblcpogiaaRls
import Derived.Test.YtodfcpblcpogiaaMvs
import Derived.Deep.RegionHeld3
namespace Go.Proofs.Ytodfcpblcpogiaa
open Go.RowKit

set_option maxRecDepth 100000 in
set_option maxHeartbeats 1000000 in
/-- ARRIVE. -/
theorem arriveX {w : World} {b : Nat} {ρ : Nat → Option Role} {σ : Net} (h : XN w b ρ σ) {x c k kb : Nat} (hx : x < 6) (hc : c < 4) (hk : k < 2) {f : Fact} (hkn : σ.kn x (2 * c + k) = some f) (hptr : w.cell? ⟨b, 38 + x * 8 + c * 2 + k, none⟩ = some (ptr kb)) {evs : List News} {mo : Int} {n sc : Nat} {sa : Option Addr}
    (hrow : RowAt w ρ .rest 163 8 n (evs.flatMap (noteOf k)) (.slice sa n sc)) (hn : n = evs.length) (hC1 : CanRel σ c k evs mo) (hC2 : CanRel ((σ.lose (2 * c + k) mo).tells (2 * c + k) evs) c k f.kept f.more) (hm0 : f.more = 0) :
    Calls Try.prog 101 #[ptr kb, .agg #[.slice sa n sc, int mo], tellV b c] w fun e w' => e = .returned (.tuple #[]) ∧ ∃ ρ', XN w' b ρ' ((((σ.lose (2 * c + k) mo).tells (2 * c + k) evs).tells (2 * c + k) f.kept).know x (2 * c + k) (some { f with kept := [], waits := false })) ∧ Mv (hearR x c k) ρ ρ' w w' ∧ Front b w w' := by
  obtain ⟨v, hv1, hv2⟩ := h.known x c k hx hc hk
  rw [hkn] at hv2
  obtain ⟨kb', kv, rfl, hrb, hblk, _⟩ := hv2
  have : kb' = kb := by rw [hptr] at hv1; cases hv1; rfl
  subst this
  have h2k : (2 * c + k) % 2 = k := by omega
  have k1 : w.cell? ⟨kb', 1, none⟩ = some (int k) := by
    have : w.cell? ⟨kb', 1, none⟩ = some (int ((2 * c + k) % 2 : Nat)) := box_cell hblk 1
    rw [h2k] at this; exact this
  have hkbl := h.lt kb' (by rw [hrb]; simp)
  have HX := hide h
  have HROW := hide hrow
  have HN := hide hn
  have HC1 := hide hC1
  have HC2 := hide hC2
  have HKN := hide hkn
  have HPT := hide hptr
  have HM0 := hide hm0
  clear h hrow hblk hC1 hC2 hn h2k hkn hptr hv1 hm0
  go_enter Try.func101, Try.ntmps101
  go_wp2
  obtain ⟨W, hW⟩ : ∃ W, w.alloc (.cells #[.slice sa n sc, int mo] 126) = W := ⟨_, rfl⟩
  rw [hW]
  have hcal : Calm w W := by rw [← hW]; exact (Touch.refl _ _).alloc _
  have hbx : W.heap[w.heap.size]? = some (.cells #[.slice sa n sc, int mo] 126) := by rw [← hW]; exact heap_alloc_new w _
  have q0 : W.cell? ⟨w.heap.size, 0, none⟩ = some (.slice sa n sc) := box_cell hbx 0
  have q1 : W.cell? ⟨w.heap.size, 1, none⟩ = some (int mo) := box_cell hbx 1
  have k1' := hcal.cell (p := ⟨kb', 1, none⟩) (fun f => f) k1
  have hcald : Calm w W.drew := hcal.drew
  have HXW := hide ((unhide HX).calm hcald)
  have HRW : Hid (RowAt W.drew ρ .rest 163 8 n (evs.flatMap (noteOf k)) (.slice sa n sc)) := ⟨ownsRow_keep (unhide HROW).1 hcald (fun _ _ f => f), (unhide HROW).2⟩
  have HMW : Hid (Mv (hearR x c k) ρ ρ w W.drew) := Mv.calm (unhide HX).lt hcald
  have HFW : Hid (Front b w W.drew) := Front.of_calm hcald
  clear hW hcal hbx hcald k1 HROW
  go_region_with (go_at_call 91; refine (keptTellY (unhide HXW) hc hk (r := .rest) ⟨by simp, by simp, by simp⟩ (unhide HRW) (unhide HN) (unhide HC1)).mono ?_; rintro e w1 ⟨rfl, ρ1, h1, m1, f1⟩
                  have HX1 := hide h1
                  have HM1 := hide ((unhide HMW).trans (m1.mono (fun _ hr => Or.inl hr)))
                  have HF1 := hide ((unhide HFW).trans f1)
                  clear h1 m1 f1)
  all_goals go_wp2_with (go_at_call 71; refine (releaseX (unhide HX1) hx hc hk (by rw [tells_kn]; exact unhide HKN) (unhide HF1 _ _ (by omega) (unhide HPT)) (unhide HC2)).mono ?_; rintro e w2 ⟨rfl, ρ2, h2, m2, f2⟩
                         obtain ⟨u, hu1, hu2⟩ := h2.known x c k hx hc hk
                         have hkn2 : (((((σ.lose (2 * c + k) mo).tells (2 * c + k) evs).lose (2 * c + k) f.more).tells (2 * c + k) f.kept).know x (2 * c + k) (some { f with kept := [], more := 0 })).kn x (2 * c + k) = some { f with kept := [], more := 0 } := by simp [Net.know]
                         rw [hkn2] at hu2
                         obtain ⟨kb2, kv2, rfl, hrb2, hblk2, hrow2⟩ := hu2
                         have hptr2 := f2 _ _ (by omega) (unhide HF1 _ _ (by omega) (unhide HPT))
                         have hkk : kb2 = kb' := by rw [hptr2] at hu1; cases hu1; rfl
                         subst hkk
                         have p14 : w2.cell? ⟨kb2, 14, none⟩ = some (.bool f.waits) := box_cell hblk2 14
                         have z14 : w2.frozen? ⟨kb2, 14, none⟩ = false := box_frozen hblk2 14
                         have HH := hide (And.intro h2 (And.intro ((unhide HM1).trans m2) (And.intro ((unhide HF1).trans f2) (And.intro hblk2 (And.intro hrb2 (And.intro hrow2 hptr2))))))
                         clear h2 m2 f2 hblk2 hrow2 hrb2 hptr2 hkn2 hu1)
  all_goals go_end0
  all_goals
    obtain ⟨h2, m2, f2, hblk2, hrb2, hrow2, hptr2⟩ := unhide HH
    obtain ⟨W2, hW2⟩ : ∃ W2, W2 = w2.setCell ⟨kb2, 14, none⟩ (.bool false) := ⟨_, rfl⟩
    have hWb : W2.heap[kb2]? = some (.cells (encKn (2 * c + k) { f with kept := [], more := 0, waits := false } kv2).toArray 160) := by
      rw [hW2, heap_setCell_same _ _ _ _ _ _ hblk2]; rfl
    have m3 : Mv (keepR x (2 * c + k)) ρ2 ρ2 w2 W2 := by rw [hW2]; exact Mv.setCell (S := keepR x (2 * c + k)) h2.lt hrb2 (Or.inl rfl) _ _
    have hX := h2.turnKn (f' := { f with kept := [], more := 0, waits := false }) hx hc hk hptr2 hrb2 m3 hWb (hrow2.keep (fun g hg => ⟨by rw [hW2]; exact heap_setCell_other _ _ (fun e => by subst e; rw [hrb2] at hg; cases hg), rfl⟩))
    have hf3 : Front b w2 W2 := fun o v _ hv => cell_of_heap (Mv.keeps h2.lt m3 h2.net (by simp [keepR])).1 hv
    have hst : (((((σ.lose (2 * c + k) mo).tells (2 * c + k) evs).lose (2 * c + k) f.more).tells (2 * c + k) f.kept).know x (2 * c + k) (some { f with kept := [], more := 0 })).know x (2 * c + k) (some { f with kept := [], more := 0, waits := false }) = ((((σ.lose (2 * c + k) mo).tells (2 * c + k) evs).tells (2 * c + k) f.kept).know x (2 * c + k) (some { f with kept := [], waits := false })) := by
      rw [unhide HM0, lose_zero _ _ (by omega)]
      simp only [Net.know]
      congr 1
      funext p q
      simp only [put2]
      split <;> simp_all [unhide HM0]
    rw [hst] at hX
    rw [hW2] at hX m3 hf3
    exact ⟨rfl, ρ2, hX, m2.trans (m3.mono (fun _ hr => Or.inr hr)), f2.trans hf3⟩

theorem encFr_restAt (c k : Nat) (hk : k < 2) (K : List News) (mo : Int) (new : Nat) (a : Int) (u : List Value) (kv : Value) (w : World) (fb : Nat) (hu : u.length = 10) (h : w.heap[fb]? = some (.cells (encFr (.rest (2 * c + k) K mo new) (int a :: u) kv).toArray 128)) :
    w.cell? ⟨fb, 0, none⟩ = some (int 4) ∧ w.cell? ⟨fb, 1, none⟩ = some (int c) ∧ w.cell? ⟨fb, 2, none⟩ = some (int k) ∧ w.cell? ⟨fb, 21, none⟩ = some (int new) ∧ w.cell? ⟨fb, 22, none⟩ = some kv ∧ w.cell? ⟨fb, 23, none⟩ = some (int mo) := by
  have h1 : (2 * c + k) / 2 = c := by omega
  have h2 : (2 * c + k) % 2 = k := by omega
  obtain ⟨u0, u1, u2, u3, u4, u5, u6, u7, u8, u9, rfl⟩ : ∃ u0 u1 u2 u3 u4 u5 u6 u7 u8 u9, u = [u0, u1, u2, u3, u4, u5, u6, u7, u8, u9] := by
    match u, hu with
    | [u0, u1, u2, u3, u4, u5, u6, u7, u8, u9], _ => exact ⟨u0, u1, u2, u3, u4, u5, u6, u7, u8, u9, rfl⟩
  simp only [encFr, h1, h2] at h
  exact ⟨box_cell h 0, box_cell h 1, box_cell h 2, box_cell h 21, box_cell h 22, box_cell h 23⟩

/-- A rest is on its way through. -/
structure RestOk (σ : Net) (x c k : Nat) (evs : List News) (mo : Int) (f : Fact) : Prop where
  known : σ.kn x (2 * c + k) = some f
  one : CanRel σ c k evs mo
  two : CanRel ((σ.lose (2 * c + k) mo).tells (2 * c + k) evs) c k f.kept f.more
  more : f.more = 0

set_option maxRecDepth 100000 in
set_option maxHeartbeats 1000000 in
/-- HANDLEREST, on the way. -/
theorem handleRest_on {w : World} {b : Nat} {ρ : Nat → Option Role} {σ : Net} (h : XN w b ρ σ) (T : Tree σ.par) {x : Nat} (hx : x < σ.n) (hlen : ∀ y, (σ.q x y).length < 2000) {c k : Nat} (hk : k < 2) {evs : List News} {mo : Int} {new : Nat} (hn : new < σ.n) (hne : x ≠ new) {fb : Nat} (y : Int) (hf : FrAt w ρ (.rest (2 * c + k) evs mo new) fb) :
    Calls Try.prog 83 #[.pointer (some ⟨b, 0, none⟩), int x, int y, ptr fb] w fun e w' => e = .returned (.tuple #[]) ∧ ∃ ρ', XN w' b ρ' (σ.push x (next σ.par x new) (.rest (2 * c + k) evs mo new)) ∧ Mv (fun o => ∃ y, o = .chan x y) ρ ρ' w w' := by
  obtain ⟨hr, a, u, kv, hf1, hu, _, hrow⟩ := id hf
  obtain ⟨c0, c1, c2, c21, c22, c23⟩ := encFr_restAt c k hk evs mo new a u kv w fb hu hf1
  have hxi : ((x : Int) != (new : Int)) = true := by simp; omega
  have hfbl := h.lt fb (by rw [hr]; simp)
  have HX := hide h
  have HF := hide hf
  have HLEN := hide hlen
  clear h hf hf1 hlen hrow
  go_enter Try.func83, Try.ntmps83
  go_wp2_with (go_at_call 75; refine (passX (unhide HX) T hx hn hne (unhide HLEN) (unhide HF)).mono ?_; rintro e w2 ⟨rfl, h2, m2⟩)
  exact bodyPost_ret (v := .tuple #[]) (by simp [results, Try.results83, go_sem]) rfl ⟨rfl, ρ, h2, m2⟩

set_option maxRecDepth 100000 in
set_option maxHeartbeats 2000000 in
/-- HANDLEREST, at its end. -/
theorem handleRest_end {w : World} {b : Nat} {ρ : Nat → Option Role} {σ : Net} (h : XN w b ρ σ) {x : Nat} (hx : x < 6) {c k : Nat} (hc : c < 4) (hk : k < 2) {evs : List News} {mo : Int} {f : Fact} (hR : RestOk σ x c k evs mo f) {fb : Nat} (y : Int) (hf : FrAt w ρ (.rest (2 * c + k) evs mo x) fb) :
    Calls Try.prog 83 #[.pointer (some ⟨b, 0, none⟩), int x, int y, ptr fb] w fun e w' => e = .returned (.tuple #[]) ∧ ∃ ρ', XN w' b ρ' ((((σ.lose (2 * c + k) mo).tells (2 * c + k) evs).tells (2 * c + k) f.kept).know x (2 * c + k) (some { f with kept := [], waits := false })) ∧ Mv (hearR x c k) ρ ρ' w w' := by
  obtain ⟨hr, a, u, kv, hf1, hu, _, hrow⟩ := id hf
  obtain ⟨c0, c1, c2, c21, c22, c23⟩ := encFr_restAt c k hk evs mo x a u kv w fb hu hf1
  obtain ⟨v, hv1, hv2⟩ := h.known x c k hx hc hk
  rw [hR.known] at hv2
  obtain ⟨kb, kv2, rfl, hrb, hblk, _⟩ := hv2
  obtain ⟨sa, sc, rfl⟩ : ∃ sa sc, kv = .slice sa evs.length sc := by
    rcases hrow.1.2 with ⟨rfl, h0⟩ | ⟨g, cap, cur, rfl, _⟩
    · exact ⟨none, 0, by have h0 : evs.length = 0 := h0; rw [h0]⟩
    · exact ⟨_, _, rfl⟩
  have h2k : (2 * c + k) % 2 = k := by omega
  have hrow : RowAt w ρ .rest 163 8 evs.length (evs.flatMap (noteOf k)) (.slice sa evs.length sc) := by
    have : RowAt w ρ .rest 163 8 evs.length (evs.flatMap (noteOf ((2 * c + k) % 2))) (.slice sa evs.length sc) := hrow
    rw [h2k] at this; exact this
  have hxi : ((x : Int) != (x : Int)) = false := by simp
  have hci : (c : Int) < 4 := by omega
  have hki : (k : Int) < 2 := by omega
  have hx6 : (x : Int) < 6 := by omega
  have hfbl := h.lt fb (by rw [hr]; simp)
  have hbl := h.lt b (by rw [h.net]; simp)
  have HX := hide h
  have HROW := hide hrow
  have HR := hide hR
  have HPT := hide hv1
  generalize hn : evs.length = n at *
  have HN := hide hn
  clear h hf hf1 hblk hn hR h2k hu
  go_enter Try.func83, Try.ntmps83
  go_wp2
  go_region
  all_goals go_wp2
  all_goals go_region_with (first
    | (go_at_call 70; refine (known_any b (38 + x * 8) c k _ (ptr kb) hc hk ⟨_, rfl⟩ ?_).mono ?_; exact unhide HPT; rintro e w1 ⟨rfl, rfl⟩)
    | (go_at_call 101; refine (arriveX (w := w.drew.drew) ((unhide HX).calm ((Touch.refl _ _).drew).drew) hx hc hk (unhide HR).known (unhide HPT) ((unhide HROW).keep (fun _ _ => ⟨rfl, rfl⟩)) (unhide HN).symm (unhide HR).one (unhide HR).two (unhide HR).more).mono ?_; rintro e w2 ⟨rfl, ρ2, h2, m2, _⟩))
  all_goals go_end0
  all_goals exact ⟨rfl, ρ2, h2, (Mv.calm (unhide HX).lt ((Touch.refl _ _).drew).drew).trans m2⟩

end Go.Proofs.Ytodfcpblcpogiaa

/-
  What was kept is told, and kept no longer.
-/
import Derived.Test.YtodfcpblcpogiaaKtell
import Derived.Test.YtodfcpblcpogiaaKeepx
namespace Go.Proofs.Ytodfcpblcpogiaa
open Go.RowKit

set_option maxRecDepth 100000 in
set_option maxHeartbeats 400000 in
theorem keptTell_nil (k : Nat) (mo : Int) (sa : Option Addr) (sc : Nat) (tv : Value) (w : World) (hmo : ¬ 0 < mo) : Calls Try.prog 91 #[.agg #[.slice sa 0 sc, int mo], int k, tv] w fun e w' => e = .returned (.tuple #[]) ∧ Calm w w' := by
  go_enter Try.func91, Try.ntmps91
  go_wp2
  refine wp_loop_rounds 1 ?_; rw [rounds_succ]
  go_wp2
  go_end0
  exact ⟨rfl, (Touch.refl _ _).alloc _⟩

/-- What can be told: all that is kept; or there is nothing. -/
def CanRel (σ : Net) (c k : Nat) (l : List News) (mo : Int) : Prop := CanTell (σ.lose (2 * c + k) mo) c k l ∨ (l = [] ∧ ¬ 0 < mo)

/-- KEPT.TELL, of whatever there is. -/
theorem keptTellY {w : World} {b : Nat} {ρ : Nat → Option Role} {σ : Net} (h : XN w b ρ σ) {c k n sc : Nat} {sa : Option Addr} (hc : c < 4) (hk : k < 2) {l : List News} {mo : Int} {r : Role} (hr : r ≠ .net ∧ (∀ c k, r ≠ .map c k) ∧ ∀ c, r ≠ .log c) (hrow : RowAt w ρ r 163 8 n (l.flatMap (noteOf k)) (.slice sa n sc)) (hn : n = l.length) (hC : CanRel σ c k l mo) :
    Calls Try.prog 91 #[.agg #[.slice sa n sc, int mo], int k, tellV b c] w fun e w' => e = .returned (.tuple #[]) ∧ ∃ ρ', XN w' b ρ' ((σ.lose (2 * c + k) mo).tells (2 * c + k) l) ∧ Mv (tellR c k) ρ ρ' w w' ∧ Front b w w' := by
  rcases hC with hC | ⟨rfl, hmo⟩
  · exact keptTellX h hc hk hr hrow hn hC
  · have hn0 : n = 0 := by simpa using hn
    subst hn0
    refine (keptTell_nil k mo sa sc (tellV b c) w hmo).mono ?_
    rintro e w' ⟨rfl, ht⟩
    rw [lose_zero σ _ hmo]
    exact ⟨rfl, ρ, h.calm ht, h.mvCalm ht, Front.of_calm ht⟩

theorem tells_kn (s : Nat) (l : List News) (σ : Net) : (σ.tells s l).kn = σ.kn := (tells_keeps s l σ).2.2.2

set_option maxRecDepth 100000 in
set_option maxHeartbeats 1000000 in
/-- RELEASE. -/
theorem releaseX {w : World} {b : Nat} {ρ : Nat → Option Role} {σ : Net} (h : XN w b ρ σ) {x c k kb : Nat} (hx : x < 6) (hc : c < 4) (hk : k < 2) {f : Fact} (hkn : σ.kn x (2 * c + k) = some f) (hptr : w.cell? ⟨b, 38 + x * 8 + c * 2 + k, none⟩ = some (ptr kb)) (hC : CanRel σ c k f.kept f.more) :
    Calls Try.prog 71 #[ptr kb, tellV b c] w fun e w' => e = .returned (.tuple #[]) ∧ ∃ ρ', XN w' b ρ' (((σ.lose (2 * c + k) f.more).tells (2 * c + k) f.kept).know x (2 * c + k) (some { f with kept := [], more := 0 })) ∧ Mv (hearR x c k) ρ ρ' w w' ∧ Front b w w' := by
  obtain ⟨v, hv1, hv2⟩ := h.known x c k hx hc hk
  rw [hkn] at hv2
  obtain ⟨kb', kv, rfl, hrb, hblk, hrow⟩ := hv2
  have : kb' = kb := by rw [hptr] at hv1; cases hv1; rfl
  subst this
  obtain ⟨sa, sc, rfl⟩ : ∃ sa sc, kv = .slice sa f.kept.length sc := by
    rcases hrow.1.2 with ⟨rfl, h0⟩ | ⟨g, cap, cur, rfl, _⟩
    · exact ⟨none, 0, by rw [h0]⟩
    · exact ⟨_, _, rfl⟩
  have h2c : (2 * c + k) / 2 = c := by omega
  have h2k : (2 * c + k) % 2 = k := by omega
  have k1 : w.cell? ⟨kb', 1, none⟩ = some (int k) := by
    have : w.cell? ⟨kb', 1, none⟩ = some (int ((2 * c + k) % 2 : Nat)) := box_cell hblk 1
    rw [h2k] at this; exact this
  have k15 : w.cell? ⟨kb', 15, none⟩ = some (.slice sa f.kept.length sc) := box_cell hblk 15
  have k16 : w.cell? ⟨kb', 16, none⟩ = some (int f.more) := box_cell hblk 16
  rw [h2k] at hrow
  have hkbl := h.lt kb' (by rw [hrb]; simp)
  have HX := hide h
  have HROW := hide hrow
  have HB := hide hblk
  have HC := hide hC
  generalize hn : f.kept.length = n at *
  have HN := hide hn
  clear h hrow hblk hC hn h2c h2k
  go_enter Try.func71, Try.ntmps71
  go_wp2
  go_region_with (go_at_call 91; refine (keptTellY (w := w.drew) ((unhide HX).calm (Touch.refl _ _).drew) hc hk (r := .kept x (2 * c + k)) ⟨by simp, by simp, by simp⟩ ((unhide HROW).keep (fun _ _ => ⟨rfl, rfl⟩)) (unhide HN).symm (unhide HC)).mono ?_; rintro e w1 ⟨rfl, ρ1, h1, m1', f1'⟩
                  have m1 : Mv (tellR c k) ρ ρ1 w w1 := (Mv.calm (unhide HX).lt (Touch.refl _ _).drew).trans m1'
                  have f1 : Front b w w1 := (Front.of_calm (Touch.refl _ _).drew).trans f1'
                  have hbk1 := m1.keeps (unhide HX).lt hrb (by simp [tellR])
                  have hblk1 := hbk1.1.trans (unhide HB)
                  have p15 : w1.cell? ⟨kb', 15, none⟩ = some (.slice sa n sc) := box_cell hblk1 15
                  have p16 : w1.cell? ⟨kb', 16, none⟩ = some (int f.more) := box_cell hblk1 16
                  have z15 : w1.frozen? ⟨kb', 15, none⟩ = false := box_frozen hblk1 15
                  have z16 : w1.frozen? ⟨kb', 16, none⟩ = false := box_frozen hblk1 16
                  have HH := hide (And.intro h1 (And.intro m1 (And.intro f1 (And.intro hblk1 (hbk1.2.trans hrb)))))
                  clear h1 m1 f1 m1' f1' hblk1 hbk1)
  all_goals go_wp2
  all_goals go_end0
  all_goals
    obtain ⟨h1, m1, f1, hblk1, hrb1⟩ := unhide HH
    refine ⟨rfl, ρ1, ?_⟩
    obtain ⟨W, hW⟩ : ∃ W, W = (w1.setCell ⟨kb', 15, none⟩ (.slice none 0 0)).setCell ⟨kb', 16, none⟩ (int 0) := ⟨_, rfl⟩
    have hWb : W.heap[kb']? = some (.cells (encKn (2 * c + k) { f with kept := [], more := 0 } (.slice none 0 0)).toArray 160) := by
      rw [hW, heap_setCell_same _ _ _ _ _ _ (heap_setCell_same _ _ _ _ _ _ hblk1)]; rfl
    have m2 : Mv (keepR x (2 * c + k)) ρ1 ρ1 w1 W := by
      rw [hW]
      exact (Mv.setCell (S := keepR x (2 * c + k)) h1.lt hrb1 (Or.inl rfl) _ _).trans (Mv.setCell (S := keepR x (2 * c + k)) (by simpa [World.setCell] using h1.lt) hrb1 (Or.inl rfl) _ _)
    have hX := h1.turnKn (f' := { f with kept := [], more := 0 }) hx hc hk (f1 _ _ (by omega) hptr) hrb1 m2 hWb ⟨⟨rfl, Or.inl ⟨rfl, rfl⟩⟩, fun g hg => by cases hg⟩
    have hf2 : Front b w1 W := fun o v _ hv => cell_of_heap (Mv.keeps h1.lt m2 h1.net (by simp [keepR])).1 hv
    rw [hW] at hX m2 hf2
    exact ⟨hX, (m1.mono (fun _ hr => Or.inl hr)).trans (m2.mono (fun _ hr => Or.inr hr)), f1.trans hf2⟩

end Go.Proofs.Ytodfcpblcpogiaa

/-
  DELIVER.
-/
import Derived.Test.YtlpknnoacpfnnaaHan
namespace Go.Proofs.Ytlpknnoacpfnnaa
open Go.RowKit

/-- Nets whose clients stay where they are: every frame can be handled. -/
structure Fine (σ : Net) (m : Nat) : Prop where
  good : Good σ
  wt : σ.weight ≤ 1500
  fr : ∀ x y f, f ∈ σ.q x y → (∃ c k age fl, c < 4 ∧ k < 2 ∧ f = .sub (2 * c + k) age fl ∧ ∀ g, σ.kn y (2 * c + k) = some g → age ≤ g.age) ∨ (∃ e, f = .event e ∧ e.ok)
  cool : ∀ x, Cool σ x m
  few : m < 2000000000000

theorem Fine.len {σ : Net} {m : Nat} (F : Fine σ m) (x y : Nat) : (σ.q x y).length < 2000 := by
  by_cases h : σ.q x y = []
  · rw [h]; simp
  · have hn := near_lt6 F.good.tree (F.good.nbr x y h)
    have := link_le_weight F.good.linked hn.1 hn.2
    have := F.wt
    omega

/-- All roles. -/
def allR (_ : Role) : Prop := True

theorem delE_some {σ : Net} (ho : σ.closed = false) {x y : Nat} (hn : near σ.par x y = true) {f : Fr} {l : List Fr} (hq : σ.q x y = f :: l) : σ.delE x y = 0 ∧ σ.del x y = Net.handle { σ with q := put2 σ.q x y l } y (some x) f := by
  have hE : σ.delE x y = 0 := by simp [Net.delE, Net.asked, ho, Net.isLink, hn, hq]
  refine ⟨hE, ?_⟩
  simp only [Net.del, hE, if_true, toNat_nat, hq]

/-- What can be handled at a broker. -/
def CanHandle (σ : Net) (y : Nat) (f : Fr) : Prop := (∃ c k age fl, c < 4 ∧ k < 2 ∧ f = .sub (2 * c + k) age fl ∧ ∀ g, σ.kn y (2 * c + k) = some g → age ≤ g.age) ∨ (∃ e, f = .event e ∧ e.ok)

theorem handle_any {w : World} {b : Nat} {ρ : Nat → Option Role} {σ : Net} (h : XN w b ρ σ) (G : Good σ) {y : Nat} {fr : Option Nat} (hy : y < σ.n) (hlen : ∀ z, (σ.q y z).length < 2000) {m : Nat} (C : Cool σ y m) (hm : m < 2000000000000)
    {f : Fr} (hcan : CanHandle σ y f) {fb : Nat} (hr : ρ fb = some .frame) (hf : w.heap[fb]? = some (.cells (encFr f).toArray 118)) :
    Calls Try.prog 39 #[.pointer (some ⟨b, 0, none⟩), int y, int (whr fr), ptr fb] w fun r w' => r = .returned (.tuple #[]) ∧ ∃ ρ', XN w' b ρ' (σ.handle y fr f) ∧ Mv allR ρ ρ' w w' := by
  rcases hcan with ⟨c, k, age, fl, hc, hk, rfl, hold⟩ | ⟨e, rfl, he⟩
  · refine (handle_sub h G.tree hy hlen hc hk age fl hold hr hf).mono ?_
    rintro r w' ⟨rfl, ρ', h1, m1⟩
    exact ⟨rfl, ρ', h1, m1.mono (fun _ _ => trivial)⟩
  · refine (handle_event h G hy hlen C hm he hr hf).mono ?_
    rintro r w' ⟨rfl, ρ', h1, m1⟩
    exact ⟨rfl, ρ', h1, m1.mono (fun _ _ => trivial)⟩

set_option maxRecDepth 100000 in
set_option maxHeartbeats 1000000 in
theorem deliverX {w : World} {b : Nat} {ρ : Nat → Option Role} {σ : Net} (h : XN w b ρ σ) {m : Nat} (F : Fine σ m) {x y : Nat} {f : Fr} {l : List Fr} (hq : σ.q x y = f :: l) :
    Calls Try.prog 25 #[.pointer (some ⟨b, 0, none⟩), int x, int y] w fun e w' => e = .returned (int 0) ∧ ∃ ρ', XN w' b ρ' (σ.del x y) ∧ Mv allR ρ ρ' w w' := by
  have T := F.good.tree
  have h5 := T.1
  have hn := F.good.nbr x y (by rw [hq]; simp)
  have h6 := near_lt6 T hn
  have hyn : y < σ.n := (near_lt T hn).2
  have hdel := (delE_some h.open_ hn hq).2
  have hfr := F.fr x y f (by rw [hq]; exact List.mem_cons_self ..)
  have hlen := F.len
  have hG0 := F.good.pop hq
  obtain ⟨a, cap, ha, hpa⟩ := h.par
  have hcl := h.closed
  have HX := hide h
  have HPA := hide hpa
  have HF := hide F
  have HDEL := hide hdel
  have HFR := hide hfr
  have HG := hide hG0
  have HQ := hide hq
  have hlen0 : ∀ z, (put2 σ.q x y l y z).length < 2000 := fun z => by
    rw [put2_other _ _ (fun e => near_ne T hn e.1.symm)]; exact hlen y z
  have HLEN0 := hide hlen0
  have hcool : Cool { σ with q := put2 σ.q x y l } y m := ⟨(F.cool y).here, (F.cool y).calm, (F.cool y).ris, (F.cool y).len⟩
  have HC := hide hcool
  clear h hpa F hdel hfr hlen hG0 hq hlen0 hcool
  go_enter Try.func25, Try.ntmps25
  go_wp2_with (first
    | (go_at_call 53; refine (neighbours_any a cap σ.par x y _ h5 ?_).mono ?_; exact unhide HPA; rw [hn]; rintro r w1 ⟨rfl, ht1⟩
       have hcl1 := ht1.cell (p := ⟨b, 0, none⟩) (fun f => f) hcl
       have HX1 := hide ((unhide HX).calm ht1)
       have HM1 : Hid (Mv allR ρ ρ w w1) := Mv.calm (unhide HX).lt ht1
       clear ht1 hcl)
    | (go_at_call 29; refine (check_any _ _ _ hcl1).mono ?_; rintro r w2 ⟨rfl, rfl⟩
       have hct : chk true = 0 := rfl)
    | (go_at_call 54; refine (takeX (x := x) (y := y) (unhide HX1) h6.1 h6.2 hn (unhide HQ)).mono ?_; rintro r w3 ⟨fb, rfl, hX3, hM3, hr3, hf3, h20⟩
       have HX3 := hide hX3
       have HM3 := hide ((unhide HM1).trans (hM3.mono (fun _ _ => trivial)))
       have HF3 := hide hf3
       clear hX3 hM3 hf3)
    | (go_at_call 39; refine (handle_any (fr := some x) (unhide HX3) (unhide HG) hyn (fun z => ?_) (unhide HC) (unhide HF).few (unhide HFR) hr3 (unhide HF3)).mono ?_; exact unhide HLEN0 z; rintro r w4 ⟨rfl, ρ4, hX4, hM4⟩))
  go_ret
  exact ⟨rfl, ρ4, by rw [unhide HDEL]; exact hX4, (unhide HM3).trans hM4⟩

end Go.Proofs.Ytlpknnoacpfnnaa

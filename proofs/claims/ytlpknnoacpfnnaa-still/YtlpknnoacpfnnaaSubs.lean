/-
  SUBSCRIBE.
-/
import Derived.Test.YtlpknnoacpfnnaaFnew
namespace Go.Proofs.Ytlpknnoacpfnnaa
open Go.RowKit

set_option maxRecDepth 100000 in
set_option maxHeartbeats 1000000 in
theorem take_any (b o : Nat) (age A : Int) (u v : Value) (w : World) (hA : wrap64 (age + 1) = A) (h0 : w.cell? ⟨b, o, none⟩ = some u) (h1 : w.cell? ⟨b, o + 1, none⟩ = some (int age)) (h2 : w.cell? ⟨b, o + 2, none⟩ = some v) (hfr : ∀ o, w.frozen? ⟨b, o, none⟩ = false) :
    Calls Try.prog 65 #[.pointer (some ⟨b, o, none⟩)] w fun e w' => e = .returned (.tuple #[]) ∧ w' = (((w.setCell ⟨b, o, none⟩ (.bool true)).setCell ⟨b, o + 1, none⟩ (int A)).setCell ⟨b, o + 2, none⟩ (.map (some w.heap.size))).alloc (.map #[] 0) := by
  subst hA
  have hmm := @run_makeMap Try.prog
  have hb := block_lt_of_cell h0
  simp only at hb
  go_enter Try.func65, Try.ntmps65
  go_wp2
  go_end0
  exact ⟨rfl, rfl⟩

/-- A client with one subscription more. -/
def Cli.subs (x : Cli) (k : Nat) (l : List Tst) : Cli := { x with used := put x.used k true, age := put x.age k (x.age k + 1), fl := put x.fl k l, told := put x.told k [] }

theorem XN.subs {w : World} {b : Nat} {ρ : Nat → Option Role} {σ : Net} (h : XN w b ρ σ) {c k : Nat} (hc : c < 4) (hk : k < 2) (l : List Tst) {W : World}
    (hW : W = (((w.setCell ⟨b, 86 + c * 11 + 4 + k * 3, none⟩ (.bool true)).setCell ⟨b, 86 + c * 11 + 4 + k * 3 + 1, none⟩ (int ((σ.cl c).age k + 1))).setCell ⟨b, 86 + c * 11 + 4 + k * 3 + 2, none⟩ (.map (some w.heap.size))).alloc (.map #[] 0)) :
    XN W b (roleAt ρ w.heap.size (.map c k)) (σ.setCl c ((σ.cl c).subs k l)) ∧ Mv allR ρ (roleAt ρ w.heap.size (.map c k)) w W := by
  have C := h.cli c hc
  have hb := h.lt b (by rw [h.net]; simp)
  obtain ⟨w1, e1⟩ : ∃ w1, w1 = w.setCell ⟨b, 86 + c * 11 + 4 + k * 3, none⟩ (.bool true) := ⟨_, rfl⟩
  obtain ⟨w2, e2⟩ : ∃ w2, w2 = w1.setCell ⟨b, 86 + c * 11 + 4 + k * 3 + 1, none⟩ (int ((σ.cl c).age k + 1)) := ⟨_, rfl⟩
  obtain ⟨w3, e3⟩ : ∃ w3, w3 = w2.setCell ⟨b, 86 + c * 11 + 4 + k * 3 + 2, none⟩ (.map (some w.heap.size)) := ⟨_, rfl⟩
  rw [← e1, ← e2, ← e3] at hW
  have hs3 : w3.heap.size = w.heap.size := by rw [e3, e2, e1]; simp [World.setCell]
  have hcW : Calm w3 W := by rw [hW]; exact (Touch.refl _ _).alloc _
  have hWb : W.heap[b]? = w3.heap[b]? := hcW.block b (by omega) (fun f => f)
  have hcell : ∀ o v, o ≠ 86 + c * 11 + 4 + k * 3 → o ≠ 86 + c * 11 + 4 + k * 3 + 1 → o ≠ 86 + c * 11 + 4 + k * 3 + 2 → w.cell? ⟨b, o, none⟩ = some v → W.cell? ⟨b, o, none⟩ = some v := fun o v n1 n2 n3 hv => by
    refine cell_of_heap hWb ?_
    rw [e3]; refine cell_setCell_ne _ n3 ?_
    rw [e2]; refine cell_setCell_ne _ n2 ?_
    rw [e1]; exact cell_setCell_ne _ n1 hv
  have c0 : W.cell? ⟨b, 86 + c * 11 + 4 + k * 3, none⟩ = some (.bool true) := by
    refine cell_of_heap hWb ?_
    rw [e3]; refine cell_setCell_ne _ (by omega) ?_
    rw [e2]; refine cell_setCell_ne _ (by omega) ?_
    rw [e1]; exact World.cell?_setCell_same w _ _ (C.used k hk)
  have ha1 : w1.cell? ⟨b, 86 + c * 11 + 4 + k * 3 + 1, none⟩ = some (int ((σ.cl c).age k)) := by rw [e1]; exact cell_setCell_ne _ (by omega) (C.age k hk)
  have c1 : W.cell? ⟨b, 86 + c * 11 + 4 + k * 3 + 1, none⟩ = some (int ((σ.cl c).age k + 1)) := by
    refine cell_of_heap hWb ?_
    rw [e3]; refine cell_setCell_ne _ (by omega) ?_
    rw [e2]; exact World.cell?_setCell_same w1 _ _ ha1
  obtain ⟨vh, g1, _⟩ := C.heard k hk
  have hh2 : w2.cell? ⟨b, 86 + c * 11 + 4 + k * 3 + 2, none⟩ = some vh := by rw [e2]; refine cell_setCell_ne _ (by omega) ?_; rw [e1]; exact cell_setCell_ne _ (by omega) g1
  have c2 : W.cell? ⟨b, 86 + c * 11 + 4 + k * 3 + 2, none⟩ = some (.map (some w.heap.size)) := by
    refine cell_of_heap hWb ?_
    rw [e3]; exact World.cell?_setCell_same w2 _ _ hh2
  have hk' : ∀ i, i < w.heap.size → i ≠ b → W.heap[i]? = w.heap[i]? := fun i hi hne => by
    rw [hcW.block i (by omega) (fun f => f), e3, heap_setCell_other _ _ hne, e2, heap_setCell_other _ _ hne, e1, heap_setCell_other _ _ hne]
  have ht : Touch (fun i => i = b) w W := by
    rw [hW, e3, e2, e1]
    exact ((((Touch.refl (fun i => i = b) w).setCell (p := ⟨b, 86 + c * 11 + 4 + k * 3, none⟩) (fun _ => rfl) _).setCell (p := ⟨b, 86 + c * 11 + 4 + k * 3 + 1, none⟩) (fun _ => rfl) _).setCell (p := ⟨b, 86 + c * 11 + 4 + k * 3 + 2, none⟩) (fun _ => rfl) _).alloc _
  have hrole : ∀ i, i < w.heap.size → roleAt ρ w.heap.size (.map c k) i = ρ i := fun i hi => by unfold roleAt; rw [if_neg (by omega)]
  have hWs : W.heap.size = w.heap.size + 1 := by rw [hW, World.size_alloc, hs3]
  have hmv : Mv (fun r => r = .net) ρ (roleAt ρ w.heap.size (.map c k)) w W := by
    refine ⟨ht.mono (fun i _ e => ⟨.net, by rw [e]; exact h.net, rfl⟩), hrole, fun i hi => ?_⟩
    unfold roleAt at hi
    split at hi
    · omega
    · have := h.lt i hi; omega
  have hmap : W.ownsMap (H := Nat) Try.prog 160 (plainElem Try.prog 3) w.heap.size 0 (.map []) := by
    have := World.ownsMap_made (H := Nat) w3 Try.prog 160 (plainElem Try.prog 3)
    rw [hs3] at this
    rw [hW]; exact this
  refine ⟨?_, hmv.mono (fun _ _ => trivial)⟩
  refine h.step hmv (fun o => o = 86 + c * 11 + 4 + k * 3 ∨ o = 86 + c * 11 + 4 + k * 3 + 1 ∨ o = 86 + c * 11 + 4 + k * 3 + 2) (by rw [hWb, e3, e2, e1]; exact typ_setCell (typ_setCell (typ_setCell h.typ _ _) _ _) _ _)
    (fun o => (World.frozen?_of_block (w := w3) (a := ⟨b, o, none⟩) hWb).trans (by rw [e3, e2, e1]; exact frozen_setCell _ _ _ _ _ (frozen_setCell _ _ _ _ _ (frozen_setCell _ _ _ _ _ (h.fr o))))) (fun o v ho => hcell o v (fun e => ho (Or.inl e)) (fun e => ho (Or.inr (Or.inl e))) (fun e => ho (Or.inr (Or.inr e)))) rfl rfl (by omega) (by omega) (by simp) (by simp)
    (fun u v _ _ => Or.inl ⟨rfl, by omega, by simp⟩) (fun u d j _ _ _ => Or.inl ⟨rfl, by omega, by simp, by simp⟩) (fun d hd => ?_)
  by_cases ed : d = c
  · right
    subst ed
    simp only [Net.setCl, put_same]
    obtain ⟨v, f1, f2⟩ := C.log
    have hkr : ∀ i r, ρ i = some r → r ≠ .net → W.heap[i]? = w.heap[i]? ∧ roleAt ρ w.heap.size (.map d k) i = ρ i := fun i r hi hr => ⟨hk' i (h.lt i (by rw [hi]; simp)) (fun e => by subst e; rw [h.net] at hi; cases hi; exact hr rfl), hrole i (h.lt i (by rw [hi]; simp))⟩
    refine ⟨hcell _ _ (by omega) (by omega) (by omega) C.here, hcell _ _ (by omega) (by omega) (by omega) C.home, hcell _ _ (by omega) (by omega) (by omega) C.stays, hcell _ _ (by omega) (by omega) (by omega) C.many, fun j hj => ?_, fun j hj => ?_, fun j hj => ?_, v, hcell _ _ (by omega) (by omega) (by omega) f1, f2.keep (fun i hi => hkr i _ hi (by simp))⟩
    · by_cases ej : j = k
      · subst ej; simp only [Cli.subs, put_same]; exact c0
      · simp only [Cli.subs, put_other _ _ ej]; exact hcell _ _ (by omega) (by omega) (by omega) (C.used j hj)
    · by_cases ej : j = k
      · subst ej; simp only [Cli.subs, put_same]; exact c1
      · simp only [Cli.subs, put_other _ _ ej]; exact hcell _ _ (by omega) (by omega) (by omega) (C.age j hj)
    · by_cases ej : j = k
      · subst ej
        refine ⟨_, c2, ?_⟩
        simp only [Cli.subs, put_same]
        unfold HeardAt
        rw [if_pos rfl]
        exact ⟨w.heap.size, 0, _, rfl, by simp [roleAt], hmap, Nat.le_refl _, fun p st kl _ => rfl⟩
      · obtain ⟨u, p1, p2⟩ := C.heard j hj
        simp only [Cli.subs, put_other _ _ ej]
        exact ⟨u, hcell _ _ (by omega) (by omega) (by omega) p1, p2.keep (fun i hi => hkr i _ hi (by simp))⟩
  · left
    exact ⟨by simp only [Net.setCl, put_other _ _ ed], fun o _ _ => by omega, fun _ => by simp, by simp⟩

set_option maxRecDepth 100000 in
set_option maxHeartbeats 1000000 in
theorem clientSub_any {w : World} {b : Nat} {ρ : Nat → Option Role} {σ : Net} (h : XN w b ρ σ) {c k : Nat} (hc : c < 4) (hk : k < 2) (l : List Tst) (hage : -1 ≤ (σ.cl c).age k ∧ (σ.cl c).age k < 2199023255552) :
    Calls Try.prog 38 #[.pointer (some ⟨b, 86 + c * 11, none⟩), int k] w fun e w' => e = .returned (int ((σ.cl c).age k + 1)) ∧ ∃ ρ', XN w' b ρ' (σ.setCl c ((σ.cl c).subs k l)) ∧ Mv allR ρ ρ' w w' := by
  have C := h.cli c hc
  have u0 := C.used k hk
  have u1 := C.age k hk
  obtain ⟨vh, u2, _⟩ := C.heard k hk
  have hki : (k : Int) < 2 := by omega
  have hwr : wrap64 ((σ.cl c).age k + 1) = (σ.cl c).age k + 1 := wrap_small (by omega) (by omega)
  have HFR := hide h.fr
  obtain ⟨r1, r2⟩ := h.subs hc hk l rfl
  have q1 := (r1.cli c hc).age k hk
  have q1' : (σ.setCl c ((σ.cl c).subs k l)).cl c = (σ.cl c).subs k l := by simp [Net.setCl]
  rw [q1'] at q1
  have q2 : ((σ.cl c).subs k l).age k = (σ.cl c).age k + 1 := by simp [Cli.subs]
  rw [q2] at q1
  have R1 := hide r1
  have R2 := hide r2
  have Q1 := hide q1
  clear C h r1 r2 q1 q1' q2
  go_enter Try.func38, Try.ntmps38
  go_wp2_with (go_at_call 65; refine (take_any b (86 + c * 11 + 4 + k * 3) ((σ.cl c).age k) ((σ.cl c).age k + 1) _ _ _ hwr u0 u1 u2 (unhide HFR)).mono ?_; rintro e w1 ⟨rfl, hw1⟩
               rw [← hw1] at R1 R2 Q1
               have q1 := unhide Q1
               clear hw1)
  go_ret
  exact ⟨rfl, _, unhide R1, unhide R2⟩

end Go.Proofs.Ytlpknnoacpfnnaa

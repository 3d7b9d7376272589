/-
  A slot of a client is written anew.
-/
import Derived.Test.YtodfcpblcpogiaaAtg
namespace Go.Proofs.Ytodfcpblcpogiaa
open Go.RowKit

/-- Cells in a row are written. -/
def setFrom (w : World) (b o : Nat) : Nat → List Value → World
  | _, [] => w
  | i, v :: vs => setFrom (w.setCell ⟨b, o + i, none⟩ v) b o (i + 1) vs

theorem setFrom_size (b o : Nat) : ∀ (vs : List Value) (i : Nat) (w : World), (setFrom w b o i vs).heap.size = w.heap.size
  | [], _, _ => rfl
  | _ :: vs, i, _ => (setFrom_size b o vs (i + 1) _).trans (by simp [World.setCell])
theorem setFrom_other (b o : Nat) {k : Nat} (hk : k ≠ b) : ∀ (vs : List Value) (i : Nat) (w : World), (setFrom w b o i vs).heap[k]? = w.heap[k]?
  | [], _, _ => rfl
  | _ :: vs, i, w => (setFrom_other b o hk vs (i + 1) _).trans (heap_setCell_other w _ hk)
theorem setFrom_touch (b o : Nat) : ∀ (vs : List Value) (i : Nat) (w : World), Touch (fun k => k = b) w (setFrom w b o i vs)
  | [], _, w => Touch.refl _ w
  | v :: vs, i, w => ((Touch.refl (fun k => k = b) w).setCell (p := ⟨b, o + i, none⟩) (fun _ => rfl) v).trans (setFrom_touch b o vs (i + 1) _)
theorem setFrom_typ (b o t : Nat) : ∀ (vs : List Value) (i : Nat) (w : World), (∃ cs, w.heap[b]? = some (.cells cs t)) → ∃ cs, (setFrom w b o i vs).heap[b]? = some (.cells cs t)
  | [], _, _, h => h
  | _ :: vs, i, _, h => setFrom_typ b o t vs (i + 1) _ (typ_setCell h _ _)
theorem setFrom_fr (b o o' : Nat) : ∀ (vs : List Value) (i : Nat) (w : World), w.frozen? ⟨b, o', none⟩ = false → (setFrom w b o i vs).frozen? ⟨b, o', none⟩ = false
  | [], _, _, h => h
  | _ :: vs, i, _, h => setFrom_fr b o o' vs (i + 1) _ (frozen_setCell _ _ _ _ _ h)
theorem setFrom_out (b o : Nat) {o' : Nat} {u : Value} : ∀ (vs : List Value) (i : Nat) (w : World), (o' < o + i ∨ o + i + vs.length ≤ o') → w.cell? ⟨b, o', none⟩ = some u → (setFrom w b o i vs).cell? ⟨b, o', none⟩ = some u
  | [], _, _, _, h => h
  | _ :: vs, i, w, ho, h => setFrom_out b o vs (i + 1) _ (by simp only [List.length_cons] at ho; omega) (cell_setCell_ne w (by simp only [List.length_cons] at ho; omega) h)
theorem setFrom_in (b o : Nat) : ∀ (vs : List Value) (i : Nat) (w : World), (∀ j, j < vs.length → ∃ u, w.cell? ⟨b, o + i + j, none⟩ = some u) → ∀ (j : Nat) v, vs[j]? = some v → (setFrom w b o i vs).cell? ⟨b, o + i + j, none⟩ = some v
  | [], _, _, _, j, v, h => by simp at h
  | x :: vs, i, w, hex, 0, v, h => by
    simp at h; subst h
    obtain ⟨u, hu⟩ := hex 0 (by simp)
    exact setFrom_out b o vs (i + 1) _ (Or.inl (by omega)) (World.cell?_setCell_same w _ _ hu)
  | x :: vs, i, w, hex, j + 1, v, h => by
    simp at h
    have := setFrom_in b o vs (i + 1) (w.setCell ⟨b, o + i, none⟩ x) (fun j' hj' => by
      obtain ⟨u, hu⟩ := hex (j' + 1) (by simp; omega)
      exact ⟨u, by rw [show o + (i + 1) + j' = o + i + (j' + 1) by omega]; exact cell_setCell_ne w (by omega) hu⟩) j v h
    rw [show o + (i + 1) + j = o + i + (j + 1) by omega] at this
    exact this

/-- A slot's thirteen cells. -/
def slotCells (used : Bool) (age : Int) (fil : List Value) (hd : Value) : List Value := [.bool used, int age] ++ fil ++ [hd]

theorem CliX.slotEx {w : World} {b : Nat} {ρ : Nat → Option Role} {c : Nat} {x : Cli} (C : CliX w b ρ c x) {k : Nat} (hk : k < 2) : ∀ j, j < 13 → ∃ u, w.cell? ⟨b, 86 + c * 31 + 4 + k * 13 + 0 + j, none⟩ = some u := fun j hj => by
  obtain ⟨us, h1, h2, _⟩ := C.fl k hk
  obtain ⟨v, h3, _⟩ := C.heard k hk
  by_cases e0 : j = 0
  · subst e0; exact ⟨_, C.used k hk⟩
  · by_cases e1 : j = 1
    · subst e1; exact ⟨_, C.age k hk⟩
    · by_cases e2 : j = 12
      · subst e2; exact ⟨_, h3⟩
      · have hlt : j - 2 < us.length := by omega
        have := h2 (j - 2) _ (List.getElem?_eq_getElem hlt)
        exact ⟨_, by rw [show 86 + c * 31 + 4 + k * 13 + 0 + j = 86 + c * 31 + 4 + k * 13 + 2 + (j - 2) by omega]; exact this⟩

/-- A client's slot turns. -/
theorem XN.slotSet {w W : World} {b : Nat} {ρ ρ' : Nat → Option Role} {σ : Net} (h : XN w b ρ σ) {c k : Nat} (hc : c < 4) (hk : k < 2) {x : Cli} {fil : List Value} {hd : Value} (hfil : fil.length = 10) (t : Calm (setFrom w b (86 + c * 31 + 4 + k * 13) 0 (slotCells (x.used k) (x.age k) fil hd)) W)
    (hrole : ∀ i, i < w.heap.size → ρ' i = ρ i) (hlt : ∀ i, ρ' i ≠ none → i < W.heap.size)
    (x1 : x.here = (σ.cl c).here) (x2 : x.home = (σ.cl c).home) (x3 : x.stays = (σ.cl c).stays) (x4 : x.many = (σ.cl c).many) (x5 : x.log = (σ.cl c).log) (x6 : ∀ j, j ≠ k → x.used j = (σ.cl c).used j ∧ x.age j = (σ.cl c).age j ∧ x.fl j = (σ.cl c).fl j ∧ x.told j = (σ.cl c).told j)
    (hf1 : ∀ v, v ∈ fil → ∃ z, v = int z) (hf2 : x.used k = true → fil = encFil (x.fl k)) (hhd : HeardAt W ρ' c k (x.used k) (x.told k) hd) : XN W b ρ' (σ.setCl c x) ∧ Mv (fun r => r = .net) ρ ρ' w W := by
  have C := h.cli c hc
  have hb := h.lt b (by rw [h.net]; simp)
  obtain ⟨V, hV⟩ : ∃ V, V = setFrom w b (86 + c * 31 + 4 + k * 13) 0 (slotCells (x.used k) (x.age k) fil hd) := ⟨_, rfl⟩
  rw [← hV] at t
  have hlen : (slotCells (x.used k) (x.age k) fil hd).length = 13 := by simp [slotCells, hfil]
  have hVs : V.heap.size = w.heap.size := by rw [hV]; exact setFrom_size _ _ _ _ _
  have hVb : W.heap[b]? = V.heap[b]? := t.block b (by omega) (fun f => f)
  have hout : ∀ o v, (o < 86 + c * 31 + 4 + k * 13 ∨ 86 + c * 31 + 4 + k * 13 + 13 ≤ o) → w.cell? ⟨b, o, none⟩ = some v → W.cell? ⟨b, o, none⟩ = some v := fun o v ho hv => by
    refine cell_of_heap hVb ?_
    rw [hV]; exact setFrom_out b _ _ 0 w (by rw [hlen]; omega) hv
  have hin : ∀ j v, (slotCells (x.used k) (x.age k) fil hd)[j]? = some v → W.cell? ⟨b, 86 + c * 31 + 4 + k * 13 + 0 + j, none⟩ = some v := fun j v hj => by
    refine cell_of_heap hVb ?_
    rw [hV]; exact setFrom_in b _ _ 0 w (by rw [hlen]; exact C.slotEx hk) j v hj
  have hko : ∀ i, i < w.heap.size → i ≠ b → W.heap[i]? = w.heap[i]? := fun i hi hne => by
    rw [t.block i (by omega) (fun f => f), hV, setFrom_other b _ hne]
  have ht : Touch (fun i => i = b) w W := by
    have h1 := setFrom_touch b (86 + c * 31 + 4 + k * 13) (slotCells (x.used k) (x.age k) fil hd) 0 w
    rw [← hV] at h1
    exact h1.calm t
  have hmv : Mv (fun r => r = .net) ρ ρ' w W := ⟨ht.mono (fun i _ e => ⟨.net, by rw [e]; exact h.net, rfl⟩), fun i hi => Or.inl (hrole i hi), hlt⟩
  refine ⟨?_, hmv⟩
  refine h.step hmv (fun o => 86 + c * 31 + 4 + k * 13 ≤ o ∧ o < 86 + c * 31 + 4 + k * 13 + 13) (by rw [hVb, hV]; exact setFrom_typ b _ 111 _ 0 w h.typ) (fun o => (World.frozen?_of_block (w := V) (a := ⟨b, o, none⟩) hVb).trans (by rw [hV]; exact setFrom_fr b _ _ _ 0 w (h.fr o))) (fun o v ho hv => hout o v (by omega) hv) rfl rfl (by omega) (by omega) (by simp) (by simp) (by simp)
    (fun u v _ _ => Or.inl ⟨rfl, by omega, by simp⟩) (fun u d j _ _ _ => Or.inl ⟨rfl, by omega, by simp, by simp⟩) (fun d hd' => ?_)
  by_cases ed : d = c
  · right
    subst ed
    simp only [Net.setCl, put_same]
    obtain ⟨v, f1, f2⟩ := C.log
    have hkr : ∀ i r, ρ i = some r → r ≠ .net → W.heap[i]? = w.heap[i]? ∧ ρ' i = ρ i := fun i r hi hr => ⟨hko i (h.lt i (by rw [hi]; simp)) (fun e => by subst e; rw [h.net] at hi; cases hi; exact hr rfl), hrole i (h.lt i (by rw [hi]; simp))⟩
    refine ⟨by rw [x1]; exact hout _ _ (by omega) C.here, by rw [x2]; exact hout _ _ (by omega) C.home, by rw [x3]; exact hout _ _ (by omega) C.stays, by rw [x4]; exact hout _ _ (by omega) C.many, fun j hj => ?_, fun j hj => ?_, fun j hj => ?_, fun j hj => ?_, v, hout _ _ (by omega) f1, by rw [x5]; exact f2.keep (fun i hi => hkr i _ hi (by simp))⟩
    · by_cases ej : j = k
      · subst ej; exact hin 0 _ rfl
      · rw [(x6 j ej).1]; exact hout _ _ (by omega) (C.used j hj)
    · by_cases ej : j = k
      · subst ej; exact hin 1 _ rfl
      · rw [(x6 j ej).2.1]; exact hout _ _ (by omega) (C.age j hj)
    · by_cases ej : j = k
      · subst ej
        refine ⟨fil, hfil, fun i u hi => ?_, hf1, hf2⟩
        have hi10 : i < 10 := by rw [← hfil]; exact (List.getElem?_eq_some_iff.1 hi).1
        have := hin (2 + i) u (by
          show ([Value.bool (x.used j), int (x.age j)] ++ fil ++ [hd])[2 + i]? = some u
          rw [List.append_assoc, List.getElem?_append_right (by simp), List.getElem?_append_left (by simp; omega)]
          simpa using hi)
        rw [show 86 + d * 31 + 4 + j * 13 + 2 + i = 86 + d * 31 + 4 + j * 13 + 0 + (2 + i) by omega]
        exact this
      · rw [(x6 j ej).1, (x6 j ej).2.2.1]; exact (C.fl j hj).keep (fun i v hi => hout _ _ (by omega))
    · by_cases ej : j = k
      · subst ej
        refine ⟨hd, ?_, hhd⟩
        have := hin 12 hd (by
          show ([Value.bool (x.used j), int (x.age j)] ++ fil ++ [hd])[12]? = some hd
          rw [List.getElem?_append_right (by simp [hfil])]
          simp [hfil])
        exact this
      · obtain ⟨u, p1, p2⟩ := C.heard j hj
        rw [(x6 j ej).1, (x6 j ej).2.2.2]
        exact ⟨u, hout _ _ (by omega) p1, p2.keep (fun i hi => hkr i _ hi (by simp))⟩
  · left
    exact ⟨by simp only [Net.setCl, put_other _ _ ed], fun o _ _ => by omega, fun _ => by simp, by simp⟩

end Go.Proofs.Ytodfcpblcpogiaa

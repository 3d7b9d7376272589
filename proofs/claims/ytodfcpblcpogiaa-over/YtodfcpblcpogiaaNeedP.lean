/-
  One who subscribes, one who publishes: where the event goes.
-/
import Derived.Test.YtodfcpblcpogiaaHouse
namespace Go.Proofs.Ytodfcpblcpogiaa

theorem full_of_empty {σ : Net} (hq : ∀ x y, σ.q x y = []) : σ.full = false := by
  simp [Net.full, Net.waiting, hq, List.range, List.range.loop]

theorem filterMap_none {α β : Type} {g : α → Option β} : ∀ (l : List α), (∀ a, a ∈ l → g a = none) → l.filterMap g = []
  | [], _ => rfl
  | a :: l, h => by rw [List.filterMap_cons, h a (List.mem_cons_self ..)]; exact filterMap_none l (fun b hb => h b (List.mem_cons_of_mem _ hb))
theorem range_one {β : Type} {g : Nat → Option β} {j : Nat} {v : β} (hv : g j = some v) (ho : ∀ i, i ≠ j → g i = none) : ∀ n, j < n → (List.range n).filterMap g = [v]
  | 0, h => by omega
  | n + 1, h => by
    rw [List.range_succ, List.filterMap_append]
    by_cases e : j = n
    · subst e
      rw [filterMap_none _ (fun a ha => ho a (by have := List.mem_range.1 ha; omega))]
      simp [hv]
    · rw [range_one hv ho n (by omega)]
      simp [ho n (fun x => e x.symm)]

theorem pending_none {σ : Net} (ho : σ.closed = false) (hq : ∀ x y, σ.q x y = []) : σ.pending = [] := by
  rw [← pendTo_all σ ho]
  exact filterMap_none _ (fun j _ => by simp [lnkAt, hq])
theorem pending_one {σ : Net} (ho : σ.closed = false) {x y : Nat} (hx : x < 6) (hy : y < 6) (hne : σ.q x y ≠ []) (hq : ∀ u v, ¬ (u = x ∧ v = y) → σ.q u v = []) : σ.pending.length = 1 := by
  have h1 : (x * 6 + y) / 6 = x := by omega
  have h2 : (x * 6 + y) % 6 = y := by omega
  rw [← pendTo_all σ ho]
  unfold pendTo
  rw [range_one (j := x * 6 + y) (v := ⟨x, y, (σ.q x y).length⟩) (by simp [lnkAt, h1, h2, hne]) (fun i hi => ?_) 36 (by omega)]
  · rfl
  · have : ¬ (i / 6 = x ∧ i % 6 = y) := by omega
    simp [lnkAt, hq _ _ this]

section
variable {σ : Net} {a b : Nat} {l : List Tst}

/-- Client 0 at a, with a subscription; client 1 at b. -/
def twoA (a b : Nat) : Nat → Option Nat := put (put (fun _ => none) 0 (some a)) 1 (some b)
def oneF (l : List Tst) : Nat → Option (List Tst) := put (fun _ => none) 0 (some l)
theorem oneF_some {c : Nat} {k : List Tst} (h : oneF l c = some k) : c = 0 ∧ k = l := by
  by_cases e : c = 0
  · subst e; simp [oneF] at h; exact ⟨rfl, h.symm⟩
  · simp [oneF, put_other _ _ e] at h

/-- Behind the event: something waits if it is wanted elsewhere; one link at most. -/
theorem pub_pending (i : FlowI (twoA a b) (oneF l) [] σ) (hq : ∀ x y, σ.q x y = []) (f0 f1 f2 : Int) :
    ((σ.pub (1 : Nat) f0 f1 f2).pending.length = if meets l ⟨1, (σ.cl 1).many + 1, f0, f1, f2⟩ = true ∧ a ≠ b then 1 else 0) := by
  have W := i.fl
  have hA : twoA a b 1 = some b := rfl
  have hA0 : twoA a b 0 = some a := rfl
  have hx := W.at_lt (c := 1) (by omega) hA
  have ha := W.at_lt (c := 0) (by omega) hA0
  have hful := full_of_empty hq
  have hP := W.pub (p := 1) (by omega) hA hful f0 f1 f2
  have W' := hP.2.2.2
  have C := W.cl 1 (by omega)
  have hhere : (σ.cl 1).here = some b := C.here.trans hA
  have hpub : σ.pub (1 : Nat) f0 f1 f2 = (σ.setCl 1 { σ.cl 1 with many := (σ.cl 1).many + 1 }).happens b ⟨⟨1, (σ.cl 1).many + 1, f0, f1, f2⟩, (σ.cl 1).stays⟩ none := by
    have hE0 : σ.pubE ((1 : Nat) : Int) = 0 := hP.1
    simp only [Net.pub, hE0, if_true, toNat_nat, Net.pubEv]
    split
    · rename_i b' hb'
      rw [hhere] at hb'; cases hb'; rfl
    · rename_i hb'
      rw [hhere] at hb'; cases hb'
  have W0 : Facts (σ.setCl 1 { σ.cl 1 with many := (σ.cl 1).many + 1 }) (twoA a b) (oneF l) b := by
    have := W.facts hx
    refine ⟨this.odd, this.off, this.on, fun d hd => ?_, this.far⟩
    by_cases e : d = 1
    · subst e; simp only [Net.setCl, put_same]; exact C.here
    · simp only [Net.setCl, put_other _ _ e]; exact (W.cl d hd).here
  have hK := (happens_keeps W0 ⟨⟨1, (σ.cl 1).many + 1, f0, f1, f2⟩, (σ.cl 1).stays⟩ none).2.2.2.2
  rw [← hpub] at hK
  have hlt : ∀ c k h, oneF l c = some k → twoA a b c = some h → h < σ.n := fun c k h h1 h2 => W.at_lt (W.on_lt h1) h2
  have hT := fun z => mem_targets W0 W.good.tree hlt hx ⟨⟨1, (σ.cl 1).many + 1, f0, f1, f2⟩, (σ.cl 1).stays⟩ none z
  have hT' : ∀ z, z ∈ (σ.setCl 1 { σ.cl 1 with many := (σ.cl 1).many + 1 }).targets b ⟨⟨1, (σ.cl 1).many + 1, f0, f1, f2⟩, (σ.cl 1).stays⟩ none ↔ (meets l ⟨1, (σ.cl 1).many + 1, f0, f1, f2⟩ = true ∧ a ≠ b) ∧ z = next σ.par b a := by
    intro z
    rw [hT z]
    constructor
    · rintro ⟨_, c, k, h, h1, h2, h3, h4, h5⟩
      obtain ⟨rfl, rfl⟩ := oneF_some h1
      rw [hA0] at h2; cases h2
      exact ⟨⟨h5, fun e => h3 e.symm⟩, h4⟩
    · rintro ⟨⟨h1, h2⟩, h3⟩
      exact ⟨by simp, 0, l, a, rfl, hA0, fun e => h2 e.symm, h3, h1⟩
  by_cases hc : meets l ⟨1, (σ.cl 1).many + 1, f0, f1, f2⟩ = true ∧ a ≠ b
  · rw [if_pos hc]
    have hs := next_step W.good.tree hx ha (fun e => hc.2 e.symm)
    have h6 := near_lt6 W.good.tree hs.1
    refine pending_one W'.open_ h6.1 h6.2 ?_ (fun u v huv => ?_)
    · rw [hK, if_pos ⟨rfl, (hT' _).2 ⟨hc, rfl⟩⟩]; simp
    · rw [hK, if_neg (fun ⟨h1, h2⟩ => huv ⟨h1, ((hT' v).1 h2).2⟩)]
      exact hq u v
  · rw [if_neg hc, pending_none W'.open_ (fun u v => ?_)]
    · rfl
    · rw [hK, if_neg (fun ⟨h1, h2⟩ => hc ((hT' v).1 h2).1)]
      exact hq u v

/-- In the end: who wants it was told, once. -/
theorem end_log {e : News} (i : FlowI (twoA a b) (oneF l) [e] σ) (hq : ∀ x y, σ.q x y = []) (hp : e.ev.pub = (1 : Nat)) : (σ.cl 0).log.length = if meets l e.ev = true then 1 else 0 := by
  have W := i.fl
  have h1 := W.eq 1 0 l a b (by omega) rfl rfl rfl
  rw [chain_empty hq, List.append_nil] at h1
  have h2 : ((σ.cl 0).told 0).filter (isOf 1 l) = (σ.cl 0).told 0 := by
    refine List.filter_eq_self.2 (fun o ho => ?_)
    obtain ⟨ho1, ho2⟩ := W.told 0 l o rfl ho
    rw [List.mem_singleton.1 ho1] at ho2 ⊢
    simp [isOf, hp, ho2]
  rw [W.log 0 l rfl, List.length_map, ← h2, h1]
  by_cases hm : meets l e.ev = true
  · simp [isOf, hp, hm]
  · simp [isOf, hm]
end

end Go.Proofs.Ytodfcpblcpogiaa

/-
  A house in which a script is done: what holds behind each act, and behind each reading.
-/
import Derived.Test.YtodfcpblcpogiaaReads
import Derived.Test.YtodfcpblcpogiaaUnsX
import Derived.Test.YtodfcpblcpogiaaPubF
import Derived.Test.YtodfcpblcpogiaaHouse
namespace Go.Proofs.Ytodfcpblcpogiaa
open Go.RowKit

theorem HX.setTk {w W : World} {hb b : Nat} {κ : Nat → Option Role} {H : HM} (h : HX w hb b κ H) {s : Nat} (hs : s < 8) (on : Bool) (z : Int) {l : List Tst} {a : Option Addr} {cap base : Nat} (hT : TestsIn w base a l) (hbase : ∀ k, base ≤ k → κ k = none)
  (ht : Touch (fun k => k = hb) w W) (htyp : ∃ cs, W.heap[hb]? = some (.cells cs 37)) (hcell : ∀ o v, ¬ (15 + s * 5 ≤ o ∧ o < 15 + s * 5 + 5) → w.cell? ⟨hb, o, none⟩ = some v → W.cell? ⟨hb, o, none⟩ = some v)
  (c0 : W.cell? ⟨hb, 15 + s * 5, none⟩ = some (.bool on)) (c1 : W.cell? ⟨hb, 15 + s * 5 + 1, none⟩ = some (.slice a l.length cap)) (c2 : W.cell? ⟨hb, 15 + s * 5 + 2, none⟩ = some (int z)) (c3 : W.cell? ⟨hb, 15 + s * 5 + 3, none⟩ = some (.slice none 0 0)) (c4 : W.cell? ⟨hb, 15 + s * 5 + 4, none⟩ = some (int 0)) :
  ∃ κ', HX W hb b κ' { H with subs := put H.subs s ⟨on, l, z, [], 0⟩ } ∧ (∀ k, κ' k ≠ κ k → base ≤ k) ∧ (∀ k, κ k ≠ none → κ' k = κ k) := by
 have hne : ∀ k r, κ k = some r → r ≠ rHouse → k ≠ hb := fun k r hk hr e => by subst e; rw [h.house] at hk; cases hk; exact hr rfl
 have hbb : hb < base := by
  have := h.house
  by_cases hx : base ≤ hb
  ·rw [hbase hb hx] at this; cases this
  ·omega
 obtain ⟨κ', k1, k2, k3, k4⟩ : ∃ κ' : Nat → Option Role, (∀ k, κ' k ≠ κ k → base ≤ k) ∧ (∀ k, κ k ≠ none → κ' k = κ k) ∧ (∀ k, κ' k ≠ none → k < W.heap.size) ∧ (l = [] ∨ ∃ fb o, a = some ⟨fb, o, none⟩ ∧ κ' fb = some (rFilt s) ∧ fb ≠ hb ∧ ∀ (j : Nat) v, (l.flatMap Tst.enc)[j]? = some v → w.cell? ⟨fb, o + j, none⟩ = some v) := by
  by_cases hl : l = []
  ·exact ⟨κ, fun k hk => absurd rfl hk, fun _ _ => rfl, fun k hk => Nat.lt_of_lt_of_le (h.lt k hk) ht.size, Or.inl hl⟩
  ·rcases hT with h0 | ⟨fb, o, rfl, hfb, hc⟩
   ·exact absurd h0 hl
   ·refine ⟨roleAt κ fb (rFilt s), fun k hk => ?_, fun k hk => ?_, fun k hk => ?_, Or.inr ⟨fb, o, rfl, by unfold roleAt; rw [if_pos rfl], by omega, hc⟩⟩
    ·unfold roleAt at hk
     split at hk
     ·rename_i e; rw [e]; exact hfb
     ·exact absurd rfl hk
    ·unfold roleAt; split
     ·rename_i e; subst e; exact absurd (hbase k hfb) hk
     ·rfl
    ·unfold roleAt at hk
     split at hk
     ·rename_i e
      subst e
      cases l with
      | nil => exact absurd rfl hl
      | cons t r =>
       have := block_lt_of_cell (hc 0 _ (by simp [Tst.enc]; rfl))
       exact Nat.lt_of_lt_of_le this ht.size
     ·exact Nat.lt_of_lt_of_le (h.lt k hk) ht.size
 have hk : ∀ k r, κ k = some r → r ≠ rHouse → W.heap[k]? = w.heap[k]? := fun k r hk hr => ht.block k (h.lt k (by rw [hk]; simp)) (hne k r hk hr)
 refine ⟨κ', ?_, k1, k2⟩
 refine h.step (S := fun r => r = rHouse) (fun {k r} hr hs => ⟨hk k r hr hs, k2 k (by rw [hr]; simp)⟩) (k2 hb (by rw [h.house]; simp)) k3 (fun o => 15 + s * 5 ≤ o ∧ o < 15 + s * 5 + 5) htyp hcell (by omega) (by omega) rfl
  (Or.inl ⟨rfl, by omega, by simp⟩) (fun i hi => Or.inl ⟨rfl, by omega⟩) (fun t ht' => ?_)
 by_cases e : t = s
 ·subst e
  right
  simp only [put_same]
  refine ⟨c0, ⟨a, cap, c1, ?_⟩, c2, ⟨_, c3, World.ownsRow_nil _ _ _ _, fun g hg => by simp [Value.ownBlock] at hg⟩, c4⟩
  rcases k4 with k4 | ⟨fb, o, e1, e2, e3, e4⟩
  ·exact Or.inl k4
  ·exact Or.inr ⟨fb, o, e1, e2, fun j v hj => ht.cell (p := ⟨fb, o + j, none⟩) e3 (e4 j v hj)⟩
 ·left
  exact ⟨put_other _ _ e, fun o _ _ => by omega, by simp, by simp⟩

theorem HN.layTk {w6 w7 : World} {hb b : Nat} {κ ρ : Nat → Option Role} {σ : Net} {H : HM} (h : HN w6 hb b κ ρ σ H) (ht : Calm w6 w7) {s : Nat} (hs : s < 8) (on : Bool) (z : Int) {l : List Tst} {a : Option Addr} {cap : Nat} (hT : TestsIn w7 w6.heap.size a l) :
  ∃ κ', HN (((((w7.setCell ⟨hb, 15 + s * 5, none⟩ (.bool on)).setCell ⟨hb, 15 + s * 5 + 1, none⟩ (.slice a l.length cap)).setCell ⟨hb, 15 + s * 5 + 2, none⟩ (int z)).setCell ⟨hb, 15 + s * 5 + 3, none⟩ (.slice none 0 0)).setCell ⟨hb, 15 + s * 5 + 4, none⟩ (int 0)) hb b κ' ρ σ { H with subs := put H.subs s ⟨on, l, z, [], 0⟩ } ∧
   Ow κ ρ κ' ρ w6 (((((w7.setCell ⟨hb, 15 + s * 5, none⟩ (.bool on)).setCell ⟨hb, 15 + s * 5 + 1, none⟩ (.slice a l.length cap)).setCell ⟨hb, 15 + s * 5 + 2, none⟩ (int z)).setCell ⟨hb, 15 + s * 5 + 3, none⟩ (.slice none 0 0)).setCell ⟨hb, 15 + s * 5 + 4, none⟩ (int 0)) := by
 have hX := h.h.keep ht (fun _ _ f => f)
 have T := hX.subs s hs
 obtain ⟨a1, cp1, f1, _⟩ := T.fl
 obtain ⟨v3, t3, _⟩ := T.told
 obtain ⟨W1, h1⟩ : ∃ W1, W1 = w7.setCell ⟨hb, 15 + s * 5, none⟩ (.bool on) := ⟨_, rfl⟩
 obtain ⟨W2, h2⟩ : ∃ W2, W2 = W1.setCell ⟨hb, 15 + s * 5 + 1, none⟩ (.slice a l.length cap) := ⟨_, rfl⟩
 obtain ⟨W3, h3⟩ : ∃ W3, W3 = W2.setCell ⟨hb, 15 + s * 5 + 2, none⟩ (int z) := ⟨_, rfl⟩
 obtain ⟨W4, h4⟩ : ∃ W4, W4 = W3.setCell ⟨hb, 15 + s * 5 + 3, none⟩ (.slice none 0 0) := ⟨_, rfl⟩
 obtain ⟨W5, h5⟩ : ∃ W5, W5 = W4.setCell ⟨hb, 15 + s * 5 + 4, none⟩ (int 0) := ⟨_, rfl⟩
 rw [← h1, ← h2, ← h3, ← h4, ← h5]
 have n1 : ∀ o v, o ≠ 15 + s * 5 → w7.cell? ⟨hb, o, none⟩ = some v → W1.cell? ⟨hb, o, none⟩ = some v := fun o v ho hv => by rw [h1]; exact cell_setCell_ne _ ho hv
 have n2 : ∀ o v, o ≠ 15 + s * 5 + 1 → W1.cell? ⟨hb, o, none⟩ = some v → W2.cell? ⟨hb, o, none⟩ = some v := fun o v ho hv => by rw [h2]; exact cell_setCell_ne _ ho hv
 have n3 : ∀ o v, o ≠ 15 + s * 5 + 2 → W2.cell? ⟨hb, o, none⟩ = some v → W3.cell? ⟨hb, o, none⟩ = some v := fun o v ho hv => by rw [h3]; exact cell_setCell_ne _ ho hv
 have n4 : ∀ o v, o ≠ 15 + s * 5 + 3 → W3.cell? ⟨hb, o, none⟩ = some v → W4.cell? ⟨hb, o, none⟩ = some v := fun o v ho hv => by rw [h4]; exact cell_setCell_ne _ ho hv
 have n5 : ∀ o v, o ≠ 15 + s * 5 + 4 → W4.cell? ⟨hb, o, none⟩ = some v → W5.cell? ⟨hb, o, none⟩ = some v := fun o v ho hv => by rw [h5]; exact cell_setCell_ne _ ho hv
 have e0 : W1.cell? ⟨hb, 15 + s * 5, none⟩ = some (.bool on) := by rw [h1]; exact World.cell?_setCell_same _ _ _ T.on
 have e1 : W2.cell? ⟨hb, 15 + s * 5 + 1, none⟩ = some (.slice a l.length cap) := by rw [h2]; exact World.cell?_setCell_same _ _ _ (n1 _ _ (by omega) f1)
 have e2 : W3.cell? ⟨hb, 15 + s * 5 + 2, none⟩ = some (int z) := by rw [h3]; exact World.cell?_setCell_same _ _ _ (n2 _ _ (by omega) (n1 _ _ (by omega) T.since))
 have e3 : W4.cell? ⟨hb, 15 + s * 5 + 3, none⟩ = some (.slice none 0 0) := by rw [h4]; exact World.cell?_setCell_same _ _ _ (n3 _ _ (by omega) (n2 _ _ (by omega) (n1 _ _ (by omega) t3)))
 have e4 : W5.cell? ⟨hb, 15 + s * 5 + 4, none⟩ = some (int 0) := by rw [h5]; exact World.cell?_setCell_same _ _ _ (n4 _ _ (by omega) (n3 _ _ (by omega) (n2 _ _ (by omega) (n1 _ _ (by omega) T.lost))))
 have hto : Touch (fun k => k = hb) w7 W5 := by
  rw [h5, h4, h3, h2, h1]
  exact (((((Touch.refl (fun k => k = hb) w7).setCell (p := ⟨hb, _, none⟩) (fun _ => rfl) _).setCell (p := ⟨hb, _, none⟩) (fun _ => rfl) _).setCell (p := ⟨hb, _, none⟩) (fun _ => rfl) _).setCell (p := ⟨hb, _, none⟩) (fun _ => rfl) _).setCell (p := ⟨hb, _, none⟩) (fun _ => rfl) _
 have htyp : ∃ cs, W5.heap[hb]? = some (.cells cs 37) := by
  rw [h5, h4, h3, h2, h1]
  exact typ_setCell (typ_setCell (typ_setCell (typ_setCell (typ_setCell hX.typ _ _) _ _) _ _) _ _) _ _
 obtain ⟨κ', x1, x2, x3⟩ := hX.setTk hs on z hT (fun k hk => (by
  cases hq : κ k with
  | none => rfl
  | some r => have := h.h.lt k (by rw [hq]; simp); omega)) hto htyp (fun o v ho hv => n5 _ _ (by omega) (n4 _ _ (by omega) (n3 _ _ (by omega) (n2 _ _ (by omega) (n1 _ _ (by omega) hv)))))
  (n5 _ _ (by omega) (n4 _ _ (by omega) (n3 _ _ (by omega) (n2 _ _ (by omega) e0)))) (n5 _ _ (by omega) (n4 _ _ (by omega) (n3 _ _ (by omega) e1))) (n5 _ _ (by omega) (n4 _ _ (by omega) e2)) (n5 _ _ (by omega) e3) e4
 have hbk : Bk κ κ' w6 W5 := by
  refine ⟨(ht.mono (T := fun k => κ k ≠ none) (fun _ _ f => f.elim)).trans (hto.mono (fun k _ e => by rw [e, hX.house]; simp)), fun k hk => ?_⟩
  by_cases e : κ' k = κ k
  ·exact e
  ·have := x2 k e; omega
 exact ⟨κ', h.books hbk x1, hbk.ow⟩

section
variable {E : List News} {G : Nat → Nat → List News} {σ : Net} {H : HM}
theorem attach_n (c b : Int) : (σ.attach c b).n = σ.n := by
 unfold Net.n Net.attach
 split
 ·unfold Net.attachN
  split
  ·exact congrArg size ((backs_keeps c.toNat b.toNat 1).1.trans (backs_keeps c.toNat b.toNat 0).1)
  ·split
   ·exact congrArg size ((backs_keeps c.toNat b.toNat 1).1.trans (backs_keeps c.toNat b.toNat 0).1)
   ·exact congrArg size ((comes_keeps c.toNat b.toNat _ 1).1.trans (comes_keeps c.toNat b.toNat _ 0).1)
 ·rfl
theorem Book.attach (B : Book E G σ H) (L : Live σ) {c b : Nat} (hc : c < 4) (hE : σ.attachE c b = 0) : Book E G (σ.attach c b) { H with num := put (put H.num c (b : Int)) (4 + c) ((σ.cl c).stays + 1) } := by
 have hcl := fun d => attach_cl hE d
 refine ⟨B.core.attach L hE, B.many.trans (attach_n _ _).symm, B.evs, fun d hd => ?_, fun d hd => ?_, fun d hd => ?_, fun d k hd hk => ?_, fun d k hd hk hu => ?_⟩
 ·show put (put H.num c (b : Int)) (4 + c) _ d = _
  rw [put_other _ _ (by omega)]
  by_cases e : d = c
  ·rw [((hcl d).2 e).here]; subst e; rw [put_same]; rfl
  ·rw [put_other _ _ e, ((hcl d).1 e).here]; exact B.at_ d hd
 ·show put (put H.num c (b : Int)) (4 + c) _ (4 + d) = _
  by_cases e : d = c
  ·rw [((hcl d).2 e).stays]; subst e; rw [put_same]
  ·rw [put_other _ _ (by omega), put_other _ _ (by omega), ((hcl d).1 e).stays]; exact B.stay d hd
 ·show put (put H.num c (b : Int)) (4 + c) _ (8 + d) = _
  rw [put_other _ _ (by omega), put_other _ _ (by omega)]
  by_cases e : d = c
  ·rw [((hcl d).2 e).many]; subst e; exact B.num d hd
  ·rw [((hcl d).1 e).many]; exact B.num d hd
 ·by_cases e : d = c
  ·rw [((hcl d).2 e).used]; subst e; exact B.on d k hd hk
  ·rw [((hcl d).1 e).used]; exact B.on d k hd hk
 ·by_cases e : d = c
  ·have hs := (hcl d).2 e
   rw [hs.used] at hu
   rw [hs.fl]
   subst e; exact B.sub d k hd hk hu
  ·have hs := (hcl d).1 e
   rw [hs.used] at hu
   rw [hs.fl]
   exact B.sub d k hd hk hu
theorem Book.detach (B : Book E G σ H) {c : Nat} (hc : c < 4) (hE : σ.detachE c = 0) : Book E G (σ.detach c) { H with num := put H.num c (-1) } := by
 have hdt := detach_cl hE
 have hcl : ∀ d, (d ≠ c → (σ.detach c).cl d = σ.cl d) ∧ (d = c → (σ.detach c).cl d = { σ.cl c with here := none }) := fun d => by
  rw [hdt]
  exact ⟨fun e => by simp [Net.setCl, put_other _ _ e], fun e => by subst e; simp [Net.setCl]⟩
 refine ⟨B.core.detach hE, by rw [hdt]; exact B.many, B.evs, fun d hd => ?_, fun d hd => ?_, fun d hd => ?_, fun d k hd hk => ?_, fun d k hd hk hu => ?_⟩
 ·show put H.num c (-1) d = _
  by_cases e : d = c
  ·rw [(hcl d).2 e]; subst e; rw [put_same]; rfl
  ·rw [put_other _ _ e, (hcl d).1 e]; exact B.at_ d hd
 ·show put H.num c (-1) (4 + d) = _
  rw [put_other _ _ (by omega)]
  by_cases e : d = c
  ·rw [(hcl d).2 e]; subst e; exact B.stay d hd
  ·rw [(hcl d).1 e]; exact B.stay d hd
 ·show put H.num c (-1) (8 + d) = _
  rw [put_other _ _ (by omega)]
  by_cases e : d = c
  ·rw [(hcl d).2 e]; subst e; exact B.num d hd
  ·rw [(hcl d).1 e]; exact B.num d hd
 ·by_cases e : d = c
  ·rw [(hcl d).2 e]; subst e; exact B.on d k hd hk
  ·rw [(hcl d).1 e]; exact B.on d k hd hk
 ·by_cases e : d = c
  ·rw [(hcl d).2 e] at hu ⊢; subst e; exact B.sub d k hd hk hu
  ·rw [(hcl d).1 e] at hu ⊢; exact B.sub d k hd hk hu
theorem pub_n (c f0 f1 f2 : Int) : (σ.pub c f0 f1 f2).n = σ.n := by
 unfold Net.n Net.pub
 split
 ·split
  ·rename_i b hb
   exact congrArg size ((pushAll_par _ _ _ _).trans (hears_keeps b (σ.pubEv c f0 f1 f2) (List.range 8) (σ.setCl c.toNat { σ.cl c.toNat with many := (σ.cl c.toNat).many + 1 })).1)
  ·rfl
 ·rfl
theorem Book.pub (B : Book E G σ H) (L : Live σ) {c : Nat} (hc : c < 4) (hE : σ.pubE c = 0) (f0 f1 f2 : Int) : Book (E ++ [σ.pubEv c f0 f1 f2]) G (σ.pub c f0 f1 f2) { H with num := put H.num (8 + c) ((σ.cl c).many + 1), evs := H.evs ++ [σ.pubEv c f0 f1 f2] } := by
 have hcl := fun d => pub_cl hE f0 f1 f2 d
 refine ⟨B.core.pub L hc hE f0 f1 f2, B.many.trans (pub_n _ _ _ _).symm, by rw [← B.evs], fun d hd => ?_, fun d hd => ?_, fun d hd => ?_, fun d k hd hk => ?_, fun d k hd hk hu => ?_⟩
 ·show put H.num (8 + c) _ d = _
  rw [put_other _ _ (by omega)]
  by_cases e : d = c
  ·rw [((hcl d).2 e).here]; subst e; exact B.at_ d hd
  ·rw [((hcl d).1 e).here]; exact B.at_ d hd
 ·show put H.num (8 + c) _ (4 + d) = _
  rw [put_other _ _ (by omega)]
  by_cases e : d = c
  ·rw [((hcl d).2 e).stays]; subst e; exact B.stay d hd
  ·rw [((hcl d).1 e).stays]; exact B.stay d hd
 ·show put H.num (8 + c) _ (8 + d) = _
  by_cases e : d = c
  ·rw [((hcl d).2 e).many]; subst e; rw [put_same]
  ·rw [put_other _ _ (by omega), ((hcl d).1 e).many]; exact B.num d hd
 ·by_cases e : d = c
  ·rw [((hcl d).2 e).used]; subst e; exact B.on d k hd hk
  ·rw [((hcl d).1 e).used]; exact B.on d k hd hk
 ·by_cases e : d = c
  ·have hs := (hcl d).2 e
   rw [hs.used] at hu
   rw [hs.fl]
   subst e; exact B.sub d k hd hk hu
  ·have hs := (hcl d).1 e
   rw [hs.used] at hu
   rw [hs.fl]
   exact B.sub d k hd hk hu
theorem slot_lt (c : Nat) : σ.slot c < 2 := by unfold Net.slot; split <;> omega
theorem sub_n (c : Int) (l : List Tst) : (σ.sub c l).n = σ.n := by
 unfold Net.n Net.sub
 split
 ·split
  ·exact congrArg size (pushAll_par _ _ _ _)
  ·rfl
 ·rfl
theorem Book.subs (B : Book E G σ H) {c : Nat} (hc : c < 4) {l : List Tst} (hl : (σ.cl c).log = []) (hE : σ.subE c l = 0) (z : Int) : Book E (put G c (put (G c) (σ.slot c) [])) (σ.sub c l) { H with subs := put H.subs (2 * c + σ.slot c) ⟨true, l, z, [], 0⟩ } := by
 have hcl := sub_cl hE
 have hs2 := slot_lt (σ := σ) c
 have hd : ∀ d, d ≠ c → (σ.sub c l).cl d = σ.cl d := fun d e => by rw [hcl]; simp [Net.setCl, put_other _ _ e]
 have hcc : (σ.sub c l).cl c = { σ.cl c with used := put (σ.cl c).used (σ.slot c) true, age := put (σ.cl c).age (σ.slot c) ((σ.cl c).age (σ.slot c) + 1), fl := put (σ.cl c).fl (σ.slot c) l, told := put (σ.cl c).told (σ.slot c) [] } := by rw [hcl]; simp [Net.setCl]
 refine ⟨B.core.sub hl hE, B.many.trans (sub_n _ _).symm, B.evs, fun d hdd => ?_, fun d hdd => ?_, fun d hdd => ?_, fun d k hdd hk => ?_, fun d k hdd hk hu => ?_⟩
 ·by_cases e : d = c
  ·subst e; rw [hcc]; exact B.at_ d hdd
  ·rw [hd d e]; exact B.at_ d hdd
 ·by_cases e : d = c
  ·subst e; rw [hcc]; exact B.stay d hdd
  ·rw [hd d e]; exact B.stay d hdd
 ·by_cases e : d = c
  ·subst e; rw [hcc]; exact B.num d hdd
  ·rw [hd d e]; exact B.num d hdd
 ·by_cases e : d = c
  ·subst e
   rw [hcc]
   show (put H.subs (2 * d + σ.slot d) _ (2 * d + k)).on = put (σ.cl d).used (σ.slot d) true k
   by_cases ek : k = σ.slot d
   ·subst ek; rw [put_same, put_same]
   ·rw [put_other _ _ (by omega), put_other _ _ ek]; exact B.on d k hdd hk
  ·rw [hd d e]
   show (put H.subs (2 * c + σ.slot c) _ (2 * d + k)).on = _
   rw [put_other _ _ (by omega)]; exact B.on d k hdd hk
 ·by_cases e : d = c
  ·subst e
   rw [hcc] at hu ⊢
   show (put H.subs (2 * d + σ.slot d) _ (2 * d + k)).fl = put (σ.cl d).fl (σ.slot d) l k ∧ (put H.subs (2 * d + σ.slot d) _ (2 * d + k)).told = _
   have hu : put (σ.cl d).used (σ.slot d) true k = true := hu
   rw [put_same]
   by_cases ek : k = σ.slot d
   ·subst ek; rw [put_same, put_same, put_same]; exact ⟨rfl, rfl⟩
   ·rw [put_other _ _ ek] at hu
    rw [put_other _ _ (by omega), put_other _ _ ek, put_other _ _ ek]; exact B.sub d k hdd hk hu
  ·rw [hd d e] at hu ⊢
   show (put H.subs (2 * c + σ.slot c) _ (2 * d + k)).fl = _ ∧ (put H.subs (2 * c + σ.slot c) _ (2 * d + k)).told = _
   rw [put_other _ _ (by omega), put_other _ _ e]; exact B.sub d k hdd hk hu
theorem unsub_n (c k : Int) : (σ.unsub c k).n = σ.n := by
 unfold Net.n Net.unsub
 split
 ·split
  ·exact congrArg size (pushAll_par _ _ _ _)
  ·rfl
 ·rfl
theorem Book.unsubs (B : Book E G σ H) {c k : Nat} (hc : c < 4) (hl : (σ.cl c).log = []) (hE : σ.unsubE c k = 0) (t : Tk) (ht : t.on = false) : Book E G (σ.unsub c k) { H with subs := put H.subs (2 * c + k) t } := by
 have hcl := unsub_cl hE
 obtain ⟨_, _, _, hk2, _⟩ := unsub_eq hE
 have hd : ∀ d, d ≠ c → (σ.unsub c k).cl d = σ.cl d := fun d e => by rw [hcl]; simp [Net.setCl, put_other _ _ e]
 have hcc : (σ.unsub c k).cl c = { σ.cl c with used := put (σ.cl c).used k false } := by rw [hcl]; simp [Net.setCl]
 refine ⟨B.core.unsub hl hE, B.many.trans (unsub_n _ _).symm, B.evs, fun d hdd => ?_, fun d hdd => ?_, fun d hdd => ?_, fun d j hdd hj => ?_, fun d j hdd hj hu => ?_⟩
 ·by_cases e : d = c
  ·subst e; rw [hcc]; exact B.at_ d hdd
  ·rw [hd d e]; exact B.at_ d hdd
 ·by_cases e : d = c
  ·subst e; rw [hcc]; exact B.stay d hdd
  ·rw [hd d e]; exact B.stay d hdd
 ·by_cases e : d = c
  ·subst e; rw [hcc]; exact B.num d hdd
  ·rw [hd d e]; exact B.num d hdd
 ·by_cases e : d = c
  ·subst e
   rw [hcc]
   show (put H.subs (2 * d + k) _ (2 * d + j)).on = put (σ.cl d).used k false j
   by_cases ek : j = k
   ·subst ek; rw [put_same, put_same]; exact ht
   ·rw [put_other _ _ (by omega), put_other _ _ ek]; exact B.on d j hdd hj
  ·rw [hd d e]
   show (put H.subs (2 * c + k) _ (2 * d + j)).on = _
   rw [put_other _ _ (by omega)]; exact B.on d j hdd hj
 ·by_cases e : d = c
  ·subst e
   rw [hcc] at hu ⊢
   have hu : put (σ.cl d).used k false j = true := hu
   show (put H.subs (2 * d + k) _ (2 * d + j)).fl = (σ.cl d).fl j ∧ (put H.subs (2 * d + k) _ (2 * d + j)).told = _
   by_cases ek : j = k
   ·subst ek; rw [put_same] at hu; cases hu
   ·rw [put_other _ _ ek] at hu
    rw [put_other _ _ (by omega)]; exact B.sub d j hdd hj hu
  ·rw [hd d e] at hu ⊢
   show (put H.subs (2 * c + k) _ (2 * d + j)).fl = _ ∧ (put H.subs (2 * c + k) _ (2 * d + j)).told = _
   rw [put_other _ _ (by omega)]; exact B.sub d j hdd hj hu

theorem detach_says (ho : σ.closed = false) {c : Nat} (hc : c < 4) {x : Nat} (hh : (σ.cl c).here = some x) : σ.detachE c = 0 ∨ σ.detachE c = 5 := by
 unfold Net.detachE Net.asked Net.still
 simp only [ho, isCli_nat hc, toNat_nat, hh]
 cases σ.waits c <;> simp
theorem attach_says (ho : σ.closed = false) {c b : Nat} (hc : c < 4) (hb : b < σ.n) (hh : (σ.cl c).here = none) : σ.attachE c b = 0 ∨ σ.attachE c b = 6 := by
 unfold Net.attachE Net.asked
 simp only [ho, isCli_nat hc, isBro_nat hb, toNat_nat, hh]
 cases σ.full <;> simp
def idleZ (e : Int) : Bool := decide (e = 0 ∨ e = 3 ∨ e = 5 ∨ e = 6 ∨ e = 7)
theorem still_says (c : Nat) : σ.still c = 0 ∨ σ.still c = 3 ∨ σ.still c = 5 := by
 unfold Net.still
 split
 ·simp
 ·split <;> simp
theorem sub_says (ho : σ.closed = false) {c : Nat} (hc : c < 4) {l : List Tst} (hl : goodFilter l = true) : idleZ (σ.subE c l) = true := by
 unfold Net.subE Net.asked
 simp only [ho, isCli_nat hc, hl, toNat_nat]
 simp only [Bool.and_true, if_true, ne_eq, not_true, if_false, Bool.false_eq_true]
 rcases still_says (σ := σ) c with h | h | h
 ·rw [if_neg (by simp [h])]
  split
  ·rfl
  ·split <;> rfl
 ·rw [if_pos (by simp [h]), h]; rfl
 ·rw [if_pos (by simp [h]), h]; rfl
theorem unsub_says (ho : σ.closed = false) {c k : Nat} (hc : c < 4) (hk : k < 2) : idleZ (σ.unsubE c k) = true := by
 unfold Net.unsubE Net.asked
 have hd : decide (0 ≤ (k : Int) ∧ (k : Int) < 2) = true := decide_eq_true (by omega)
 simp only [ho, isCli_nat hc, hd, toNat_nat]
 simp only [Bool.and_true, if_true, ne_eq, not_true, if_false, Bool.false_eq_true]
 rcases still_says (σ := σ) c with h | h | h
 ·rw [if_neg (by simp [h])]
  split
  ·split <;> rfl
  ·rfl
 ·rw [if_pos (by simp [h]), h]; rfl
 ·rw [if_pos (by simp [h]), h]; rfl
theorem pub_says (ho : σ.closed = false) {c : Nat} (hc : c < 4) : σ.pubE c = 0 ∨ σ.pubE c = 3 ∨ σ.pubE c = 6 := by
 unfold Net.pubE Net.asked
 simp only [ho, isCli_nat hc, toNat_nat]
 simp only [if_true, ne_eq, not_true, if_false, Bool.false_eq_true]
 split
 ·simp
 ·split <;> simp
end

theorem HN.off3 {w : World} {hb b : Nat} {κ ρ : Nat → Option Role} {σ : Net} {H : HM} (h : HN w hb b κ ρ σ H) {k : Nat} (hk : w.heap.size ≤ k) : κ k = none ∧ ρ k = none := by
 refine ⟨?_, ?_⟩
 ·cases hq : κ k with
  | none => rfl
  | some r => have := h.h.lt k (by rw [hq]; simp); omega
 ·cases hq : ρ k with
  | none => rfl
  | some r => have := h.x.lt k (by rw [hq]; simp); omega

structure Roamed (E : List News) (G : Nat → Nat → List News) (σ : Net) (H : HM) (m c : Nat) (a : Int) (σ' : Net) (H' : HM) : Prop where
 book : Book E G σ' H'
 fit : Fit σ' (m + 8)
 subs : H'.subs = H.subs
 came : (σ.cl c).here = none → (σ.attachE c (pickN a H.many) = 0 ∧ σ' = σ.attach c (pickN a H.many)) ∨ (σ.full = true ∧ σ' = σ)
 went : ∀ x, (σ.cl c).here = some x → (σ.detachE c = 0 ∧ σ' = σ.detach c) ∨ (σ.detachE c = 5 ∧ σ' = σ)

set_option maxRecDepth 100000 in
set_option maxHeartbeats 2000000 in
theorem roamsB {w : World} {hb b : Nat} {κ ρ : Nat → Option Role} {σ : Net} {H : HM} {E : List News} {G : Nat → Nat → List News} {m : Nat} (h : HN w hb b κ ρ σ H) (B : Book E G σ H) (F : Fit σ m) (hm : m < 1999999999999) {c : Nat} (hc : c < 4) {a : Int} (ha : Fits a) :
    Calls Try.prog 24 #[ptr hb, int c, int a] w fun r w' => r = .returned (.bool true) ∧ ∃ ρ' σ' H', HN w' hb b κ ρ' σ' H' ∧ Roamed E G σ H m c a σ' H' ∧ Ow κ ρ κ ρ' w w' := by
  have hnet := h.h.net
  have hmany := h.h.many
  have hat := h.h.num c (by omega)
  rw [B.at_ c hc] at hat
  have hfz := h.h.fr (3 + c)
  have hci : (c : Int) < 4 := by omega
  have hso := B.core.opn
  have hns := F.r.nums.cl c
  cases hh : (σ.cl c).here with
  | some x =>
    rw [hh] at hat
    replace hat : w.cell? ⟨hb, 3 + c, none⟩ = some (int x) := hat
    have hsay := detach_says hso hc hh
    have HSAY := hide hsay
    have HH := hide h
    have BB := hide B
    have FF := hide F
    have HHH := hide hh
    clear h B F hh hsay hns hso hmany
    go_enter Try.func24, Try.ntmps24
    go_wp2_with fail
    refine (detachX (unhide HH).x (unhide FF) c).mono ?_
    rintro e w1 ⟨rfl, hX1, hM1⟩
    have hN1 := (unhide HH).mv hX1 hM1
    have HN1 := hide hN1
    have HO1 := hide (Ow.mv (κ := κ) hM1)
    have hfz1 := hN1.h.fr (3 + c)
    have hat1 := hN1.h.num c (by omega)
    clear hX1 hM1 hN1 hat hfz hnet
    rcases unhide HSAY with hE | hE
    · rw [hE]
      have HE := hide hE
      obtain ⟨z, hz⟩ : ∃ z, z = H.num c := ⟨_, rfl⟩
      rw [← hz] at hat1
      clear hE hz
      go_wp2
      go_ret
      have hset := (unhide HN1).h.setNum (i := c) (by omega) (-1)
      refine ⟨rfl, ρ, σ.detach c, _, (unhide HN1).books hset.2 hset.1, ⟨(unhide BB).detach hc (unhide HE), (unhide FF).detach c, rfl, ?_, ?_⟩, (unhide HO1).trans hset.2.ow⟩
      · intro h0
        rw [unhide HHH] at h0; cases h0
      · intro y _
        exact Or.inl ⟨unhide HE, rfl⟩
    · rw [hE]
      have HE := hide hE
      clear hE
      go_wp2
      go_ret
      have hsame : σ.detach c = σ := detach_same (by rw [unhide HE]; decide)
      have hN := unhide HN1
      rw [hsame] at hN
      refine ⟨rfl, ρ, σ, H, hN, ⟨unhide BB, (unhide FF).weak (by omega), rfl, ?_, ?_⟩, unhide HO1⟩
      · intro h0
        rw [unhide HHH] at h0; cases h0
      · intro y _
        exact Or.inr ⟨unhide HE, rfl⟩
  | none =>
    rw [hh] at hat
    replace hat : w.cell? ⟨hb, 3 + c, none⟩ = some (int (-1)) := hat
    have hNpos : 0 < H.many := by rw [B.many]; unfold Net.n size; omega
    have hp := fun w => pick_any a H.many w ha (by omega) (by have := size_le F.good.tree; have h6 : H.many ≤ 6 := by rw [B.many]; exact this
                                                              omega)
    have hpl := pickN_lt a H.many hNpos
    obtain ⟨x, hx⟩ : ∃ x, x = pickN a H.many := ⟨_, rfl⟩
    rw [← hx] at hp hpl
    have hxn : x < σ.n := by rw [← B.many]; exact hpl
    have hsay := attach_says hso hc hxn hh
    have hbnd : 0 ≤ (σ.cl c).stays ∧ (σ.cl c).stays ≤ 1999999999999 := by have := hns.stays; omega
    have HSAY := hide hsay
    have HH := hide h
    have BB := hide B
    have FF := hide F
    have HHH := hide hh
    have HP := hide hp
    have HXE := hide hx
    clear h B F hh hsay hns hso hp hx hpl hNpos
    go_enter Try.func24, Try.ntmps24
    go_wp2_with fail
    refine (unhide HP _).mono ?_
    rintro e w1 ⟨rfl, hw1⟩
    have hw1 := hw1.symm
    subst hw1
    go_wp2_with fail
    refine (attachX (unhide HH).x (unhide FF) (by omega) c x).mono ?_
    rintro e w1 ⟨rfl, ρ1, hX1, hM1⟩
    have hN1 := (unhide HH).mv hX1 hM1
    have HN1 := hide hN1
    have HO1 := hide (Ow.mv (κ := κ) hM1)
    have hfz1 := hN1.h.fr
    have hat1 := hN1.h.num c (by omega)
    have hst1 := hN1.h.num (4 + c) (by omega)
    rw [show 3 + (4 + c) = 7 + c by omega, (unhide BB).stay c hc] at hst1
    clear hX1 hM1 hN1 hat hfz hnet hmany
    rcases unhide HSAY with hE | hE
    · rw [hE]
      have HE := hide hE
      obtain ⟨z, hz⟩ : ∃ z, z = H.num c := ⟨_, rfl⟩
      rw [← hz] at hat1
      obtain ⟨s, hs⟩ : ∃ s, s = (σ.cl c).stays := ⟨_, rfl⟩
      rw [← hs] at hst1 hbnd
      have HS := hide hs
      clear hE hz hs
      go_wp2
      go_region
      all_goals go_wp2
      all_goals go_ret
      all_goals
        have hs1 := (unhide HN1).h.setNum (i := c) (by omega) (x : Int)
        have hs2 := hs1.1.setNum (i := 4 + c) (by omega) (s + 1)
        rw [show 3 + (4 + c) = 7 + c by omega] at hs2
        have hN3 := (((unhide HN1).books hs1.2 hs1.1).books hs2.2 hs2.1).calm ((Touch.refl (fun _ => False) _).drew)
        refine ⟨rfl, ρ1, σ.attach c x, _, hN3, ⟨?_, (unhide FF).attach c x, rfl, ?_, ?_⟩, (((unhide HO1).trans hs1.2.ow).trans hs2.2.ow).trans (Ow.calm ((Touch.refl _ _).drew))⟩
        · rw [unhide HS]
          exact (unhide BB).attach (unhide FF).live hc (unhide HE)
        · intro _
          refine Or.inl ?_
          rw [← unhide HXE]
          exact ⟨unhide HE, rfl⟩
        · intro y h0
          rw [unhide HHH] at h0; cases h0
    · rw [hE]
      have HE := hide hE
      clear hE
      go_wp2
      go_ret
      have hsame : σ.attach c x = σ := attach_same (by rw [unhide HE]; decide)
      have hN := unhide HN1
      rw [hsame] at hN
      refine ⟨rfl, ρ1, σ, H, hN, ⟨unhide BB, (unhide FF).weak (by omega), rfl, ?_, ?_⟩, unhide HO1⟩
      · intro _
        refine Or.inr ⟨?_, rfl⟩
        have h6 := unhide HE
        unfold Net.attachE at h6
        rw [asked_ok (unhide BB).core.opn (by rw [isCli_nat hc, isBro_nat hxn]; rfl)] at h6
        simp only [toNat_nat, unhide HHH] at h6
        cases hf : σ.full with
        | true => rfl
        | false => rw [hf] at h6; simp at h6
      · intro y h0
        rw [unhide HHH] at h0; cases h0

set_option maxRecDepth 100000 in
set_option maxHeartbeats 1000000 in
theorem idle_any (e : Int) (he : idleZ e = true) (w : World) : Calls Try.prog 84 #[int e] w fun r w' => r = .returned (.bool true) ∧ w' = w := by
 have h := of_decide_eq_true he
 clear he
 rcases h with rfl | rfl | rfl | rfl | rfl
 all_goals
  go_enter Try.func84, Try.ntmps84
  go_wp2
  go_ret
  exact ⟨rfl, rfl⟩

inductive CalledTo (σ1 : Net) (H1 : HM) (c : Nat) : Net → HM → Prop
 | no : CalledTo σ1 H1 c σ1 H1
 | sub (l : List Tst) (hl : goodFilter l = true) (hE : σ1.subE c l = 0) : CalledTo σ1 H1 c (σ1.sub c l) { H1 with subs := put H1.subs (2 * c + σ1.slot c) ⟨true, l, -1, [], 0⟩ }
 | unsub (k : Nat) (hk : k < 2) (hE : σ1.unsubE c k = 0) : CalledTo σ1 H1 c (σ1.unsub c k) { H1 with subs := put H1.subs (2 * c + k) ⟨false, [], 0, [], 0⟩ }
def Net.unlog (σ : Net) (c : Nat) : Net := σ.setCl c { σ.cl c with log := [] }
structure Called (E : List News) (G : Nat → Nat → List News) (σ : Net) (H : HM) (m c : Nat) (G' : Nat → Nat → List News) (σ' : Net) (H' : HM) : Prop where
 book : Book E G' σ' H'
 fit : Fit σ' (m + 16)
 res : CalledTo (σ.unlog c) (H.reads c (σ.cl c).log) c σ' H'

theorem Fit.unlog {σ : Net} {m : Nat} (F : Fit σ m) (ho : σ.closed = false) {c : Nat} (hc : c < 4) : Fit (σ.unlog c) (m + 8) := by
 have h := F.log c
 have hE : σ.logE c = 0 := by unfold Net.logE; exact asked_ok ho (isCli_nat hc)
 have : σ.log c = σ.unlog c := by unfold Net.log Net.unlog; rw [if_pos hE]; simp only [toNat_nat]
 rw [this] at h
 exact h

def RawOut (w : World) (κ ρ : Nat → Option Role) (a : Option Addr) (n : Nat) (f : Nat → Int) : Prop := RawAt w a n f ∧ (n = 0 ∨ ∃ g o, a = some ⟨g, o, none⟩ ∧ κ g = none ∧ ρ g = none)
theorem RawOut.ow {w w' : World} {a : Option Addr} {n : Nat} {f : Nat → Int} {κ ρ κ' ρ' : Nat → Option Role} (h : RawOut w κ ρ a n f) (hw : Ow κ ρ κ' ρ' w w') : RawOut w' κ' ρ' a n f := by
 rcases h.2 with h0 | ⟨g, o, ha, h1, h2⟩
 ·exact ⟨⟨Or.inl h0, h.1.2⟩, Or.inl h0⟩
 ·by_cases hn : n = 0
  ·exact ⟨⟨Or.inl hn, h.1.2⟩, Or.inl hn⟩
  ·rcases h.1.1 with h0 | ⟨b, off, hb, hc⟩
   ·exact absurd h0 hn
   ·rw [ha] at hb
    cases hb
    have hlt : g < w.heap.size := block_lt_of_cell (hc 0 (by omega))
    have hr := hw.role g hlt
    exact ⟨⟨Or.inr ⟨g, o, ha, fun j hj => hw.cell h1 h2 (hc j hj)⟩, h.1.2⟩, Or.inr ⟨g, o, ha, hr.1.trans h1, hr.2.2 h2⟩⟩
theorem RawOut.calm {w w' : World} {a : Option Addr} {n : Nat} {f : Nat → Int} {κ ρ : Nat → Option Role} (h : RawOut w κ ρ a n f) (t : Calm w w') : RawOut w' κ ρ a n f := h.ow (Ow.calm t)

set_option maxRecDepth 100000 in
set_option maxHeartbeats 4000000 in
theorem callsSub {w : World} {hb b : Nat} {κ ρ : Nat → Option Role} {σ : Net} {H : HM} {E : List News} {G : Nat → Nat → List News} {m : Nat} (h : HN w hb b κ ρ σ H) (B : Book E G σ H) (F : Fit σ m) (hm : m < 1999999999900) (hE : E.length ≤ 2000000000000) {c : Nat} (hc : c < 4)
  {K : Int} (hK : Fits K) (hk1 : pickN K 14 = 1) (C A f0 f1 f2 : Int) {ra : Option Addr} {rn rc : Nat} {f : Nat → Int} (hr : RawOut w κ ρ ra rn f) (hrn : rn ≤ maxLen) :
  Calls Try.prog 54 #[ptr hb, int c, .agg #[int K, int C, int A, int f0, int f1, int f2, .slice ra rn rc]] w fun r w' => r = .returned (.bool true) ∧ ∃ κ' ρ' G' σ' H', HN w' hb b κ' ρ' σ' H' ∧ Called E G σ H m c G' σ' H' ∧ Ow κ ρ κ' ρ' w w' := by
 obtain ⟨W, hW⟩ : ∃ W, w.alloc (.cells #[int K, int C, int A, int f0, int f1, int f2, .slice ra rn rc] 54) = W := ⟨_, rfl⟩
 have hbx : W.heap[w.heap.size]? = some (.cells #[int K, int C, int A, int f0, int f1, int f2, .slice ra rn rc] 54) := by rw [← hW]; exact heap_alloc_new w _
 have hcal : Calm w W := by rw [← hW]; exact (Touch.refl _ _).alloc _
 have hN0 := h.calm hcal
 have HOFF : Hid (κ w.heap.size = none ∧ ρ w.heap.size = none) := h.off3 (Nat.le_refl _)
 have hp := fun w => pick_any K 14 w hK (by omega) (by omega)
 rw [hk1] at hp
 have HN0 := hide hN0
 have HC := hide hcal
 have HBX := hide hbx
 have HP := hide hp
 have BB := hide B
 have FF := hide F
 have HE := hide hE
 have HR := hide (hr.calm hcal)
 have hci : (c : Int) < 4 := by omega
 clear h B F hE hr hbx hcal hp hN0 hK hk1
 go_enter Try.func54, Try.ntmps54
 go_wp2_with fail
 refine (readB (unhide HN0) (unhide BB) (unhide FF) (by omega) (unhide HE) hc).mono ?_
 rintro e w1 ⟨rfl, κ1, hN1, hB1, hO1⟩
 have bxc : ∀ j v, [int K, int C, int A, int f0, int f1, int f2, .slice ra rn rc][j]? = some v → w1.cell? ⟨w.heap.size, j, none⟩ = some v := fun j v hj => hO1.cell (unhide HOFF).1 (unhide HOFF).2 ((box_cell (unhide HBX) j).trans (by
  rcases j with _ | _ | _ | _ | _ | _ | _ | j
  all_goals first | exact hj | simp at hj))
 have x0 := bxc 0 _ rfl
 have x6 := bxc 6 _ rfl
 have HN1 := hide hN1
 have HB1 := hide hB1
 have HO1 := hide hO1
 have HR1 := hide ((unhide HR).ow hO1)
 clear bxc hN1 hB1 hO1 hW
 go_wp2_with fail
 refine (unhide HP _).mono ?_
 rintro e w2 ⟨rfl, hw2⟩
 have hw2 := hw2.symm
 subst hw2
 have hmin : min rn 3 ≤ 3 := by omega
 obtain ⟨l, hl⟩ : ∃ l, l = testsP f (min rn 3) := ⟨_, rfl⟩
 have hlen : l.length = min rn 3 := by rw [hl]; exact testsP_len _ _
 have hlg : goodFilter l = true := by rw [hl]; exact testsP_good _ _ hmin
 have HLEN : Hid (min rn 3 = l.length ∧ testsP f (min rn 3) = l) := ⟨hlen.symm, hl.symm⟩
 have HLG := hide hlg
 have HF1 := hide ((unhide FF).unlog (unhide BB).core.opn hc)
 have HLOG1 : Hid (((σ.unlog c).cl c).log = []) := by
  show ((σ.setCl c { σ.cl c with log := [] }).cl c).log = []
  simp [Net.setCl]
 replace HN1 : Hid (HN w1 hb b κ1 ρ (σ.unlog c) (H.reads c (σ.cl c).log)) := HN1
 replace HB1 : Hid (Book E (readG G σ c) (σ.unlog c) (H.reads c (σ.cl c).log)) := HB1
 have hsay := sub_says (unhide HB1).core.opn hc hlg
 have HSAY := hide hsay
 have hnet := (unhide HN1).h.net
 have hMN : maxLen = 9223372036854775807 := rfl
 generalize hσ1 : σ.unlog c = σ1 at *
 generalize hH1 : H.reads c (σ.cl c).log = H1 at *
 have HS1 := hide hσ1
 have HHH1 := hide hH1
 obtain ⟨k, hkE⟩ : ∃ k : Nat, k = if σ1.subE c l = 0 then σ1.slot c else 0 := ⟨_, rfl⟩
 have hkl : k < 2 := by rw [hkE]; split <;> first | exact slot_lt c | omega
 have hkI : (k : Int) < 2 := by omega
 have HKE := hide hkE
 have HKI : Hid ((if σ1.subE c l = 0 then ((σ1.slot c : Nat) : Int) else 0) = (k : Int)) := by
  rw [hkE]
  split <;> rfl
 clear hl hlen hlg hsay hσ1 hH1 hkE
 go_wp2_with fail
 go_cut [8, 9] (fun s t wx => s = int k ∧ t = int (σ1.subE c l) ∧ ∃ ρ', HN wx hb b κ1 ρ' (σ1.sub c l) H1 ∧ Ow κ1 ρ κ1 ρ' w1 wx)
 case first =>
  go_region_with (first
   | (go_at_call 13; refine (tests_any ra rn rc f _ hrn ((unhide HR1).calm ((Touch.refl _ _).drew)).1).mono ?_; rw [(unhide HLEN).2, (unhide HLEN).1]; rintro e w5 ⟨ta, tc, rfl, hTI, ht5⟩; have hnet5 : w5.cell? ⟨hb, 0, none⟩ = some (ptr b) := (((Touch.refl (fun _ => False) w1).drew).calm ht5).cell (p := ⟨hb, 0, none⟩) (fun f => f) hnet)
   | (go_at_call 15; refine (subscribeX (((unhide HN1).calm ((Touch.refl _ _).drew)).calm ht5).x (unhide HF1) (by omega) c (unhide HLG) hTI.at tc).mono ?_; simp only [toNat_nat]; rw [unhide HKI]; rintro e w6 ⟨rfl, ρ6, hX6, hM6⟩))
  all_goals go_wp2_with fail
  all_goals go_meet
  all_goals
   exact ⟨rfl, rfl, ρ6, (((unhide HN1).calm ((Touch.refl _ _).drew)).calm ht5).mv hX6 hM6, ((Ow.calm ((Touch.refl _ _).drew)).trans (Ow.calm ht5)).trans (Ow.mv hM6)⟩
 case rest =>
  obtain ⟨rfl, rfl, ρ6, hN6, hO6⟩ := hcut
  obtain ⟨w6, hww6⟩ : ∃ w6, w6 = wc := ⟨_, rfl⟩
  subst hww6
  have HN6 := hide hN6
  have HO6 := hide hO6
  have HIDLE := hide (idle_any _ (unhide HSAY))
  have HR6 := hide ((unhide HR1).ow hO6)
  by_cases hE0 : σ1.subE c l = 0
  ·have hk0 : k = σ1.slot c := by rw [unhide HKE, if_pos hE0]
   have hused : (σ1.cl c).used k = false := by
    obtain ⟨_, _, hu, _⟩ := sub_eq hE0
    rw [hk0]; exact hu
   have hon := (hN6.h.subs (2 * c + k) (by omega)).on
   rw [(unhide HB1).on c k hc hkl, hused] at hon
   have HE0 := hide hE0
   have HK0 := hide hk0
   have HIDLE0 : Hid (∀ w, Calls Try.prog 84 #[int 0] w fun r w' => r = .returned (.bool true) ∧ w' = w) := idle_any 0 rfl
   rw [hE0]
   have hbl : hb < w6.heap.size := hN6.h.lt hb (by rw [hN6.h.house]; simp)
   have hfz6 := hN6.h.fr
   have bxc : ∀ j v, [int K, int C, int A, int f0, int f1, int f2, .slice ra rn rc][j]? = some v → w6.cell? ⟨w.heap.size, j, none⟩ = some v := fun j v hj => ((unhide HO1).trans hO6).cell (unhide HOFF).1 (unhide HOFF).2 ((box_cell (unhide HBX) j).trans (by
    rcases j with _ | _ | _ | _ | _ | _ | _ | j
    all_goals first | exact hj | simp at hj))
   have y6 := bxc 6 _ rfl
   obtain ⟨z, hz⟩ : ∃ z : Nat, z = 2 * c + k := ⟨_, rfl⟩
   have hwk : IntKind.i64.wrap (IntKind.i64.wrap (2 * (c : Int)) + (k : Int)) = (z : Int) := by
    rw [show (z : Int) = 2 * (c : Int) + (k : Int) by omega]
    simp [IntKind.wrap, IntKind.signed, IntKind.bits]
    omega
   have hz8 : (z : Int) < 8 := by omega
   have hcs : ∃ v1 v2 v3 v4, w6.cell? ⟨hb, 15 + z * 5 + 1, none⟩ = some v1 ∧ w6.cell? ⟨hb, 15 + z * 5 + 2, none⟩ = some v2 ∧ w6.cell? ⟨hb, 15 + z * 5 + 3, none⟩ = some v3 ∧ w6.cell? ⟨hb, 15 + z * 5 + 4, none⟩ = some v4 := by
    have T := hN6.h.subs z (by omega)
    obtain ⟨a1, c1, f1, _⟩ := T.fl
    obtain ⟨v3, t3, _⟩ := T.told
    exact ⟨_, _, _, _, f1, T.since, t3, T.lost⟩
   have HZ := hide hz
   obtain ⟨v1, v2, v3, v4, y1, y2, y3, y4⟩ := hcs
   have hcs0 : w6.cell? ⟨hb, 15 + z * 5, none⟩ = some (.bool false) := by rw [hz]; exact hon
   have HRAW6 := hide (unhide HR6).1
   clear hN6 hO6 hnet hE0 hk0 hused hz bxc x0 x6
   go_wp2_with fail
   clear hon
   go_region_with (first
    | (go_at_call 13; refine (tests_any ra rn rc f _ hrn ((unhide HRAW6).calm ((Touch.refl _ _).drew))).mono ?_; rw [(unhide HLEN).2, (unhide HLEN).1]; rintro e w7 ⟨ta, tc, rfl, hTI, ht7⟩; have hfz7 : ∀ o, w7.frozen? ⟨hb, o, none⟩ = false := fun o => (((unhide HN6).calm ((Touch.refl (fun _ => False) w6).drew)).calm ht7).h.fr o; have ht67 : Calm w6 w7 := ((Touch.refl (fun _ => False) w6).drew).calm ht7; have z0 := ht67.cell (p := ⟨hb, _, none⟩) (fun f => f) hcs0; have z1 := ht67.cell (p := ⟨hb, _, none⟩) (fun f => f) y1; have z2 := ht67.cell (p := ⟨hb, _, none⟩) (fun f => f) y2; have z3 := ht67.cell (p := ⟨hb, _, none⟩) (fun f => f) y3; have z4 := ht67.cell (p := ⟨hb, _, none⟩) (fun f => f) y4))
   all_goals go_wp2_with fail
   all_goals refine (unhide HIDLE0 _).mono ?_
   all_goals rintro e w8 ⟨rfl, hw8⟩
   all_goals have hw8 := hw8.symm
   all_goals subst hw8
   all_goals go_wp2
   all_goals go_ret
   all_goals
    obtain ⟨κ7, hN7, hO7⟩ := (unhide HN6).layTk (((Touch.refl (fun _ => False) w6).drew).calm ht7) (s := z) (by omega) true (-1) (cap := tc) hTI
    refine ⟨rfl, κ7, ρ6, put (readG G σ c) c (put (readG G σ c c) (σ1.slot c) []), σ1.sub c l, { H1 with subs := put H1.subs (2 * c + σ1.slot c) ⟨true, l, -1, [], 0⟩ }, ?_, ⟨?_, ?_, ?_⟩, (((Ow.calm (unhide HC)).trans (unhide HO1)).trans (unhide HO6)).trans hO7⟩
    ·rw [← unhide HK0, ← unhide HZ]; exact hN7
    ·exact (unhide HB1).subs hc (unhide HLOG1) (unhide HE0) (-1)
    ·exact ((unhide HF1).sub c l).weak (by omega)
    ·rw [unhide HS1, unhide HHH1]; exact .sub l (unhide HLG) (unhide HE0)
  ·have hsame := sub_same hE0
   have hEb : (σ1.subE c l == 0) = false := by rw [beq_dec]; exact decide_eq_false hE0
   have HSAME := hide hsame
   obtain ⟨z, hz⟩ : ∃ z, z = σ1.subE c l := ⟨_, rfl⟩
   rw [← hz] at hEb HIDLE ⊢
   clear hN6 hO6 hnet hE0 x0 x6 hz hsame
   go_wp2_with fail
   refine (unhide HIDLE _).mono ?_
   rintro e w8 ⟨rfl, hw8⟩
   have hw8 := hw8.symm
   subst hw8
   go_wp2
   go_ret
   have hN := unhide HN6
   rw [unhide HSAME] at hN
   refine ⟨rfl, κ1, ρ6, readG G σ c, σ1, H1, hN, ⟨unhide HB1, (unhide HF1).weak (by omega), ?_⟩, ((Ow.calm (unhide HC)).trans (unhide HO1)).trans (unhide HO6)⟩
   rw [unhide HS1, unhide HHH1]; exact .no

set_option maxRecDepth 100000 in
set_option maxHeartbeats 4000000 in
theorem callsUnsub {w : World} {hb b : Nat} {κ ρ : Nat → Option Role} {σ : Net} {H : HM} {E : List News} {G : Nat → Nat → List News} {m : Nat} (h : HN w hb b κ ρ σ H) (B : Book E G σ H) (F : Fit σ m) (hm : m < 1999999999900) (hE : E.length ≤ 2000000000000) {c : Nat} (hc : c < 4)
  {K A : Int} (hK : Fits K) (hk1 : pickN K 14 = 2) (hA : Fits A) (C f0 f1 f2 : Int) (ra : Option Addr) (rn rc : Nat) :
  Calls Try.prog 54 #[ptr hb, int c, .agg #[int K, int C, int A, int f0, int f1, int f2, .slice ra rn rc]] w fun r w' => r = .returned (.bool true) ∧ ∃ κ' ρ' G' σ' H', HN w' hb b κ' ρ' σ' H' ∧ Called E G σ H m c G' σ' H' ∧ Ow κ ρ κ' ρ' w w' := by
 obtain ⟨W, hW⟩ : ∃ W, w.alloc (.cells #[int K, int C, int A, int f0, int f1, int f2, .slice ra rn rc] 54) = W := ⟨_, rfl⟩
 have hbx : W.heap[w.heap.size]? = some (.cells #[int K, int C, int A, int f0, int f1, int f2, .slice ra rn rc] 54) := by rw [← hW]; exact heap_alloc_new w _
 have hcal : Calm w W := by rw [← hW]; exact (Touch.refl _ _).alloc _
 have hN0 := h.calm hcal
 have HOFF : Hid (κ w.heap.size = none ∧ ρ w.heap.size = none) := h.off3 (Nat.le_refl _)
 have hp := fun w => pick_any K 14 w hK (by omega) (by omega)
 rw [hk1] at hp
 have hp2 := fun w => pick_any A 2 w hA (by omega) (by omega)
 have hkl := pickN_lt A 2 (by omega)
 obtain ⟨k, hkE⟩ : ∃ k, k = pickN A 2 := ⟨_, rfl⟩
 rw [← hkE] at hp2 hkl
 have hkI : (k : Int) < 2 := by omega
 have HN0 := hide hN0
 have HC := hide hcal
 have HBX := hide hbx
 have HP := hide hp
 have HP2 := hide hp2
 have BB := hide B
 have FF := hide F
 have HE := hide hE
 have hci : (c : Int) < 4 := by omega
 clear h B F hE hbx hcal hp hp2 hN0 hK hk1 hA hkE
 go_enter Try.func54, Try.ntmps54
 go_wp2_with fail
 refine (readB (unhide HN0) (unhide BB) (unhide FF) (by omega) (unhide HE) hc).mono ?_
 rintro e w1 ⟨rfl, κ1, hN1, hB1, hO1⟩
 have bxc : ∀ j v, [int K, int C, int A, int f0, int f1, int f2, .slice ra rn rc][j]? = some v → w1.cell? ⟨w.heap.size, j, none⟩ = some v := fun j v hj => hO1.cell (unhide HOFF).1 (unhide HOFF).2 ((box_cell (unhide HBX) j).trans (by
  rcases j with _ | _ | _ | _ | _ | _ | _ | j
  all_goals first | exact hj | simp at hj))
 have x0 := bxc 0 _ rfl
 have x2 := bxc 2 _ rfl
 have HN1 := hide hN1
 have HB1 := hide hB1
 have HO1 := hide hO1
 clear bxc hN1 hB1 hO1 hW
 go_wp2_with fail
 refine (unhide HP _).mono ?_
 rintro e w2 ⟨rfl, hw2⟩
 have hw2 := hw2.symm
 subst hw2
 have HF1 := hide ((unhide FF).unlog (unhide BB).core.opn hc)
 have HLOG1 : Hid (((σ.unlog c).cl c).log = []) := by
  show ((σ.setCl c { σ.cl c with log := [] }).cl c).log = []
  simp [Net.setCl]
 replace HN1 : Hid (HN w1 hb b κ1 ρ (σ.unlog c) (H.reads c (σ.cl c).log)) := HN1
 replace HB1 : Hid (Book E (readG G σ c) (σ.unlog c) (H.reads c (σ.cl c).log)) := HB1
 have HSAY := hide (unsub_says (unhide HB1).core.opn hc hkl)
 have hnet := (unhide HN1).h.net
 generalize hσ1 : σ.unlog c = σ1 at *
 generalize hH1 : H.reads c (σ.cl c).log = H1 at *
 have HS1 := hide hσ1
 have HHH1 := hide hH1
 clear hσ1 hH1
 go_wp2_with fail
 refine (unhide HP2 _).mono ?_
 rintro e w2 ⟨rfl, hw2⟩
 have hw2 := hw2.symm
 subst hw2
 go_wp2_with fail
 refine (unsubX (unhide HN1).x (unhide HF1) c k).mono ?_
 rintro e w6 ⟨rfl, ρ6, hX6, hM6⟩
 have hN6 := (unhide HN1).mv hX6 hM6
 have hO6 := Ow.mv (κ := κ1) hM6
 have HN6 := hide hN6
 have HO6 := hide hO6
 have HIDLE := hide (idle_any _ (unhide HSAY))
 clear hX6 hM6 hO6 x0 x2 hnet
 by_cases hE0 : σ1.unsubE c k = 0
 ·have hused : (σ1.cl c).used k = true := by
   obtain ⟨_, _, hu, _, _⟩ := unsub_eq hE0
   exact hu
  have hon := (hN6.h.subs (2 * c + k) (by omega)).on
  rw [(unhide HB1).on c k hc hkl, hused] at hon
  have HE0 := hide hE0
  have HIDLE0 : Hid (∀ w, Calls Try.prog 84 #[int 0] w fun r w' => r = .returned (.bool true) ∧ w' = w) := idle_any 0 rfl
  have hfz6 := hN6.h.fr
  have hcs : ∃ v1 v2 v3 v4, w6.cell? ⟨hb, 15 + (2 * c + k) * 5 + 1, none⟩ = some v1 ∧ w6.cell? ⟨hb, 15 + (2 * c + k) * 5 + 2, none⟩ = some v2 ∧ w6.cell? ⟨hb, 15 + (2 * c + k) * 5 + 3, none⟩ = some v3 ∧ w6.cell? ⟨hb, 15 + (2 * c + k) * 5 + 4, none⟩ = some v4 := by
   have T := hN6.h.subs (2 * c + k) (by omega)
   obtain ⟨a1, c1, f1, _⟩ := T.fl
   obtain ⟨v3, t3, _⟩ := T.told
   exact ⟨_, _, _, _, f1, T.since, t3, T.lost⟩
  obtain ⟨v1, v2, v3, v4, y1, y2, y3, y4⟩ := hcs
  rw [hE0]
  clear hN6 hE0 hused
  go_wp2_with fail
  refine (unhide HIDLE0 _).mono ?_
  rintro e w8 ⟨rfl, hw8⟩
  have hw8 := hw8.symm
  subst hw8
  go_wp2
  go_ret
  obtain ⟨κ7, hN7, hO7⟩ := (unhide HN6).layTk (w7 := w6) (Touch.refl _ _) (s := 2 * c + k) (by omega) false 0 (l := []) (a := none) (cap := 0) (Or.inl rfl)
  refine ⟨rfl, κ7, ρ6, readG G σ c, σ1.unsub c k, _, hN7, ⟨(unhide HB1).unsubs hc (unhide HLOG1) (unhide HE0) _ rfl, ((unhide HF1).unsub c k).weak (by omega), ?_⟩, (((Ow.calm (unhide HC)).trans (unhide HO1)).trans (unhide HO6)).trans hO7⟩
  rw [unhide HS1, unhide HHH1]; exact .unsub k hkl (unhide HE0)
 ·have hsame := unsub_same hE0
  have hEb : (σ1.unsubE c k == 0) = false := by rw [beq_dec]; exact decide_eq_false hE0
  have HSAME := hide hsame
  obtain ⟨z, hz⟩ : ∃ z, z = σ1.unsubE c k := ⟨_, rfl⟩
  rw [← hz] at hEb HIDLE ⊢
  clear hN6 hE0 hz hsame
  go_wp2_with fail
  refine (unhide HIDLE _).mono ?_
  rintro e w8 ⟨rfl, hw8⟩
  have hw8 := hw8.symm
  subst hw8
  go_wp2
  go_ret
  have hN := unhide HN6
  rw [unhide HSAME] at hN
  refine ⟨rfl, κ1, ρ6, readG G σ c, σ1, H1, hN, ⟨unhide HB1, (unhide HF1).weak (by omega), ?_⟩, ((Ow.calm (unhide HC)).trans (unhide HO1)).trans (unhide HO6)⟩
  rw [unhide HS1, unhide HHH1]; exact .no

inductive Acted (E : List News) (G : Nat → Nat → List News) (σ : Net) (H : HM) (m : Nat) : List News → (Nat → Nat → List News) → Net → HM → Prop
 | roams (c : Nat) (hc : c < 4) (a : Int) (σ' : Net) (H' : HM) (h : Roamed E G σ H m c a σ' H') : Acted E G σ H m E G σ' H'
 | calls (c : Nat) (hc : c < 4) (G' : Nat → Nat → List News) (σ' : Net) (H' : HM) (h : Called E G σ H m c G' σ' H') : Acted E G σ H m E G' σ' H'
 | pub (c : Nat) (hc : c < 4) (f0 f1 f2 : Int) (hE : σ.pubE c = 0) : Acted E G σ H m (E ++ [σ.pubEv c f0 f1 f2]) G (σ.pub c f0 f1 f2) { H with num := put H.num (8 + c) ((σ.cl c).many + 1), evs := H.evs ++ [σ.pubEv c f0 f1 f2] }
 | no : Acted E G σ H m E G σ H
 | del (σ' : Net) (h : ∀ I : Net → Prop, Runs I (m + 12000) → I σ → I σ') : Acted E G σ H m E G σ' H
 | quiet (σ' : Net) (h : ∀ I : Net → Prop, Runs I (m + 12000) → I σ → I σ') (hq : ∀ x y, σ'.q x y = []) : Acted E G σ H m E G σ' H.known

theorem Acted.all {E : List News} {G : Nat → Nat → List News} {σ : Net} {H : HM} {m : Nat} {E' : List News} {G' : Nat → Nat → List News} {σ' : Net} {H' : HM} (A : Acted E G σ H m E' G' σ' H') (B : Book E G σ H) (F : Fit σ m) (hm : m < 1999999987000) :
  Book E' G' σ' H' ∧ Fit σ' (m + 12000) ∧ E'.length ≤ E.length + 1 := by
 have hr : BookI E G H (m + 12000) σ := ⟨B, Room.of F (by omega)⟩
 have R := book_runs (E := E) (G := G) (H := H) (m := m + 12000) (by omega)
 cases A with
 | roams c hc a _ _ h => exact ⟨h.book, h.fit.weak (by omega), by omega⟩
 | calls c hc _ _ _ h => exact ⟨h.book, h.fit.weak (by omega), by omega⟩
 | pub c hc f0 f1 f2 hE => exact ⟨B.pub F.live hc hE f0 f1 f2, (F.pub c f0 f1 f2).weak (by omega), by simp⟩
 | no => exact ⟨B, F.weak (by omega), by omega⟩
 | del _ h => have := h _ R hr; exact ⟨this.1, this.2.fit, by omega⟩
 | quiet _ h hq => have := h _ R hr; exact ⟨this.1.known, this.2.fit, by omega⟩

section
variable {w : World} {hb b : Nat} {κ ρ : Nat → Option Role} {σ : Net} {H : HM} {E : List News} {G : Nat → Nat → List News} {m : Nat}

abbrev actV (K C A f0 f1 f2 : Int) (ra : Option Addr) (rn rc : Nat) : Value := .agg #[int K, int C, int A, int f0, int f1, int f2, .slice ra rn rc]

set_option maxRecDepth 100000 in
set_option maxHeartbeats 2000000 in
theorem actRoams (h : HN w hb b κ ρ σ H) (B : Book E G σ H) (F : Fit σ m) (hm : m < 1999999987000) {K C A : Int} (hK : Fits K) (hC : Fits C) (hA : Fits A) (hk : pickN K 14 = 0) (f0 f1 f2 : Int) (ra : Option Addr) (rn rc : Nat) :
  Calls Try.prog 21 #[ptr hb, actV K C A f0 f1 f2 ra rn rc] w fun r w' => r = .returned (.bool true) ∧ ∃ κ' ρ' E' G' σ' H', HN w' hb b κ' ρ' σ' H' ∧ Acted E G σ H m E' G' σ' H' ∧ Ow κ ρ κ' ρ' w w' := by
 have hp1 := fun w => pick_any C 4 w hC (by omega) (by omega)
 have hp2 := fun w => pick_any K 14 w hK (by omega) (by omega)
 rw [hk] at hp2
 have hc := pickN_lt C 4 (by omega)
 obtain ⟨c, hcE⟩ : ∃ c, c = pickN C 4 := ⟨_, rfl⟩
 rw [← hcE] at hp1 hc
 obtain ⟨W, hW⟩ : ∃ W, w.alloc (.cells #[int K, int C, int A, int f0, int f1, int f2, .slice ra rn rc] 54) = W := ⟨_, rfl⟩
 have hbx : W.heap[w.heap.size]? = some (.cells #[int K, int C, int A, int f0, int f1, int f2, .slice ra rn rc] 54) := by rw [← hW]; exact heap_alloc_new w _
 have hcal : Calm w W := by rw [← hW]; exact (Touch.refl _ _).alloc _
 have HN0 := hide (h.calm hcal)
 have HC := hide hcal
 have HP1 := hide hp1
 have HP2 := hide hp2
 have BB := hide B
 have FF := hide F
 have HA := hide hA
 have x0 : W.cell? ⟨w.heap.size, 0, none⟩ = some (int K) := box_cell hbx 0
 have x1 : W.cell? ⟨w.heap.size, 1, none⟩ = some (int C) := box_cell hbx 1
 have x2 : W.cell? ⟨w.heap.size, 2, none⟩ = some (int A) := box_cell hbx 2
 clear hp1 hp2 hcE hbx hcal h B F hK hC hA hk
 go_enter Try.func21, Try.ntmps21
 go_wp2_with fail
 refine (unhide HP1 _).mono ?_
 rintro e w1 ⟨rfl, hw1⟩
 have hw1 := hw1.symm
 subst hw1
 go_wp2_with fail
 refine (unhide HP2 _).mono ?_
 rintro e w1 ⟨rfl, hw1⟩
 have hw1 := hw1.symm
 subst hw1
 clear hW
 go_wp2_with fail
 refine (roamsB (unhide HN0) (unhide BB) (unhide FF) (by omega) hc (unhide HA)).mono ?_
 rintro e w2 ⟨rfl, ρ2, σ2, H2, hN2, hR2, hO2⟩
 have HN2 := hide hN2
 have HR2 := hide hR2
 have HO2 := hide hO2
 clear hN2 hR2 hO2 x0 x1 x2
 go_wp2
 go_ret
 exact ⟨rfl, κ, ρ2, E, G, σ2, H2, unhide HN2, .roams c hc A σ2 H2 (unhide HR2), (Ow.calm (unhide HC)).trans (unhide HO2)⟩

set_option maxRecDepth 100000 in
set_option maxHeartbeats 2000000 in
theorem actCalls (h : HN w hb b κ ρ σ H) (B : Book E G σ H) (F : Fit σ m) (hm : m < 1999999987000) (hEl : E.length ≤ 1999999999990) {K C A : Int} (hK : Fits K) (hC : Fits C) (hA : Fits A) (hk : pickN K 14 = 1 ∨ pickN K 14 = 2) (f0 f1 f2 : Int) {ra : Option Addr} {rn rc : Nat} {f : Nat → Int} (hr : RawOut w κ ρ ra rn f) (hrn : rn ≤ maxLen) :
  Calls Try.prog 21 #[ptr hb, actV K C A f0 f1 f2 ra rn rc] w fun r w' => r = .returned (.bool true) ∧ ∃ κ' ρ' E' G' σ' H', HN w' hb b κ' ρ' σ' H' ∧ Acted E G σ H m E' G' σ' H' ∧ Ow κ ρ κ' ρ' w w' := by
 have hp1 := fun w => pick_any C 4 w hC (by omega) (by omega)
 have hp2 := fun w => pick_any K 14 w hK (by omega) (by omega)
 have hc := pickN_lt C 4 (by omega)
 obtain ⟨c, hcE⟩ : ∃ c, c = pickN C 4 := ⟨_, rfl⟩
 rw [← hcE] at hp1 hc
 obtain ⟨W, hW⟩ : ∃ W, w.alloc (.cells #[int K, int C, int A, int f0, int f1, int f2, .slice ra rn rc] 54) = W := ⟨_, rfl⟩
 have hbx : W.heap[w.heap.size]? = some (.cells #[int K, int C, int A, int f0, int f1, int f2, .slice ra rn rc] 54) := by rw [← hW]; exact heap_alloc_new w _
 have hcal : Calm w W := by rw [← hW]; exact (Touch.refl _ _).alloc _
 have HN0 := hide (h.calm hcal)
 have HC := hide hcal
 have HP1 := hide hp1
 have HCALL : Hid (Calls Try.prog 54 #[ptr hb, int c, .agg #[int K, int C, int A, int f0, int f1, int f2, .slice ra rn rc]] W fun r w' => r = .returned (.bool true) ∧ ∃ κ' ρ' G' σ' H', HN w' hb b κ' ρ' σ' H' ∧ Called E G σ H m c G' σ' H' ∧ Ow κ ρ κ' ρ' W w') := by
  rcases hk with hk | hk
  ·exact callsSub (h.calm hcal) B F (by omega) (by omega) hc hK hk C A f0 f1 f2 (hr.calm hcal) hrn
  ·exact callsUnsub (h.calm hcal) B F (by omega) (by omega) hc hK hk hA C f0 f1 f2 ra rn rc
 obtain ⟨k, hkE⟩ : ∃ k, k = pickN K 14 := ⟨_, rfl⟩
 rw [← hkE] at hp2 hk
 have HP2 := hide hp2
 have hk1 : ((k : Int) == 0) = false := by rw [beq_dec]; exact decide_eq_false (by omega)
 have hk2 : (k : Int) < 3 := by omega
 have x0 : W.cell? ⟨w.heap.size, 0, none⟩ = some (int K) := box_cell hbx 0
 have x1 : W.cell? ⟨w.heap.size, 1, none⟩ = some (int C) := box_cell hbx 1
 have x2 : W.cell? ⟨w.heap.size, 2, none⟩ = some (int A) := box_cell hbx 2
 have x3 : W.cell? ⟨w.heap.size, 3, none⟩ = some (int f0) := box_cell hbx 3
 have x4 : W.cell? ⟨w.heap.size, 4, none⟩ = some (int f1) := box_cell hbx 4
 have x5 : W.cell? ⟨w.heap.size, 5, none⟩ = some (int f2) := box_cell hbx 5
 have x6 : W.cell? ⟨w.heap.size, 6, none⟩ = some (.slice ra rn rc) := box_cell hbx 6
 clear hp1 hp2 hcE hbx hcal h B F hK hC hA hk hkE hr
 go_enter Try.func21, Try.ntmps21
 go_wp2_with fail
 refine (unhide HP1 _).mono ?_
 rintro e w1 ⟨rfl, hw1⟩
 have hw1 := hw1.symm
 subst hw1
 go_wp2_with fail
 refine (unhide HP2 _).mono ?_
 rintro e w1 ⟨rfl, hw1⟩
 have hw1 := hw1.symm
 subst hw1
 clear hW
 go_wp2_with fail
 refine (unhide HCALL).mono ?_
 rintro e w2 ⟨rfl, κ2, ρ2, G2, σ2, H2, hN2, hR2, hO2⟩
 have HN2 := hide hN2
 have HR2 := hide hR2
 have HO2 := hide hO2
 clear hN2 hR2 hO2 x0 x1 x2 x3 x4 x5 x6
 go_wp2
 go_ret
 exact ⟨rfl, κ2, ρ2, E, G2, σ2, H2, unhide HN2, .calls c hc G2 σ2 H2 (unhide HR2), (Ow.calm (unhide HC)).trans (unhide HO2)⟩

set_option maxRecDepth 100000 in
set_option maxHeartbeats 2000000 in
theorem actDels (h : HN w hb b κ ρ σ H) (B : Book E G σ H) (F : Fit σ m) (hm : m < 1999999987000) (hEl : E.length ≤ 1999999999990) {K C A : Int} (hK : Fits K) (hC : Fits C) (hA : Fits A) (hk : 6 ≤ pickN K 14) (f0 f1 f2 : Int) (ra : Option Addr) (rn rc : Nat) :
  Calls Try.prog 21 #[ptr hb, actV K C A f0 f1 f2 ra rn rc] w fun r w' => r = .returned (.bool true) ∧ ∃ κ' ρ' E' G' σ' H', HN w' hb b κ' ρ' σ' H' ∧ Acted E G σ H m E' G' σ' H' ∧ Ow κ ρ κ' ρ' w w' := by
 have hp1 := fun w => pick_any C 4 w hC (by omega) (by omega)
 have hp2 := fun w => pick_any K 14 w hK (by omega) (by omega)
 have hkl := pickN_lt K 14 (by omega)
 obtain ⟨c, hcE⟩ : ∃ c, c = pickN C 4 := ⟨_, rfl⟩
 rw [← hcE] at hp1
 obtain ⟨W, hW⟩ : ∃ W, w.alloc (.cells #[int K, int C, int A, int f0, int f1, int f2, .slice ra rn rc] 54) = W := ⟨_, rfl⟩
 have hbx : W.heap[w.heap.size]? = some (.cells #[int K, int C, int A, int f0, int f1, int f2, .slice ra rn rc] 54) := by rw [← hW]; exact heap_alloc_new w _
 have hcal : Calm w W := by rw [← hW]; exact (Touch.refl _ _).alloc _
 have HN0 := hide (h.calm hcal)
 have HC := hide hcal
 have HP1 := hide hp1
 obtain ⟨k, hkE⟩ : ∃ k, k = pickN K 14 := ⟨_, rfl⟩
 rw [← hkE] at hp2 hk hkl
 have HP2 := hide hp2
 have hk1 : ((k : Int) == 0) = false := by rw [beq_dec]; exact decide_eq_false (by omega)
 have hk2 : ¬ (k : Int) < 3 := by omega
 have hk3 : ¬ (k : Int) < 6 := by omega
 have HI : Hid (Runs (fun τ => (∀ I : Net → Prop, Runs I (m + 12000) → I σ → I τ) ∧ BookI E G H (m + 12000) τ) (m + 12000)) := by
  have R := book_runs (E := E) (G := G) (H := H) (m := m + 12000) (by omega)
  exact ⟨fun τ h => R.fine τ h.2, fun τ h => R.opn τ h.2, fun τ x y f l h hq => ⟨fun I RI hI => RI.del τ x y f l (h.1 I RI hI) hq, R.del τ x y f l h.2 hq⟩⟩
 have HI0 : Hid ((∀ I : Net → Prop, Runs I (m + 12000) → I σ → I σ) ∧ BookI E G H (m + 12000) σ) := ⟨fun _ _ h => h, B, Room.of F (by omega)⟩
 have HEV : Hid (H.evs.length ≤ 2199023255552) := by show H.evs.length ≤ 2199023255552; rw [B.evs]; omega
 have HA := hide hA
 have x0 : W.cell? ⟨w.heap.size, 0, none⟩ = some (int K) := box_cell hbx 0
 have x1 : W.cell? ⟨w.heap.size, 1, none⟩ = some (int C) := box_cell hbx 1
 have x2 : W.cell? ⟨w.heap.size, 2, none⟩ = some (int A) := box_cell hbx 2
 clear hp1 hp2 hcE hbx hcal h B F hK hC hA hkE
 go_enter Try.func21, Try.ntmps21
 go_wp2_with fail
 refine (unhide HP1 _).mono ?_
 rintro e w1 ⟨rfl, hw1⟩
 have hw1 := hw1.symm
 subst hw1
 go_wp2_with fail
 refine (unhide HP2 _).mono ?_
 rintro e w1 ⟨rfl, hw1⟩
 have hw1 := hw1.symm
 subst hw1
 clear hW
 by_cases hk13 : k < 13
 ·have hk4 : (k : Int) < 13 := by omega
  go_wp2_with fail
  refine (deliverH (unhide HI) (unhide HN0) (unhide HI0) (unhide HA)).mono ?_
  rintro e w2 ⟨rfl, ρ2, σ2, hN2, hI2, hO2⟩
  have HN2 := hide hN2
  have HI2 := hide hI2
  have HO2 := hide hO2
  clear hN2 hI2 hO2 x0 x1 x2
  go_wp2
  go_ret
  exact ⟨rfl, κ, ρ2, E, G, σ2, H, unhide HN2, .del σ2 (unhide HI2).1, (Ow.calm (unhide HC)).trans (unhide HO2)⟩
 ·have hk4 : ¬ (k : Int) < 13 := by omega
  go_wp2_with fail
  refine (quietX (unhide HI) (unhide HN0) (unhide HI0) (unhide HA) (unhide HEV)).mono ?_
  rintro e w2 ⟨rfl, ρ2, σ2, hN2, hI2, hq2, hO2⟩
  have HN2 := hide hN2
  have HI2 := hide hI2
  have HO2 := hide hO2
  have HQ2 := hide hq2
  clear hN2 hI2 hO2 x0 x1 x2 hq2
  go_wp2
  go_ret
  exact ⟨rfl, κ, ρ2, E, G, σ2, H.known, unhide HN2, .quiet σ2 (unhide HI2).1 (unhide HQ2), (Ow.calm (unhide HC)).trans (unhide HO2)⟩
set_option maxRecDepth 100000 in
set_option maxHeartbeats 4000000 in
theorem actPubs (h : HN w hb b κ ρ σ H) (B : Book E G σ H) (F : Fit σ m) (hm : m < 1999999987000) (hEl : E.length ≤ 1999999999990) {K C : Int} (hK : Fits K) (hC : Fits C) (hk : 3 ≤ pickN K 14 ∧ pickN K 14 < 6) (A f0 f1 f2 : Int) (ra : Option Addr) (rn rc : Nat) :
    Calls Try.prog 21 #[ptr hb, actV K C A f0 f1 f2 ra rn rc] w fun r w' => r = .returned (.bool true) ∧ ∃ κ' ρ' E' G' σ' H', HN w' hb b κ' ρ' σ' H' ∧ Acted E G σ H m E' G' σ' H' ∧ Ow κ ρ κ' ρ' w w' := by
  have hp1 := fun w => pick_any C 4 w hC (by omega) (by omega)
  have hp2 := fun w => pick_any K 14 w hK (by omega) (by omega)
  have hc := pickN_lt C 4 (by omega)
  obtain ⟨c, hcE⟩ : ∃ c, c = pickN C 4 := ⟨_, rfl⟩
  rw [← hcE] at hp1 hc
  obtain ⟨W, hW⟩ : ∃ W, w.alloc (.cells #[int K, int C, int A, int f0, int f1, int f2, .slice ra rn rc] 54) = W := ⟨_, rfl⟩
  have hbx : W.heap[w.heap.size]? = some (.cells #[int K, int C, int A, int f0, int f1, int f2, .slice ra rn rc] 54) := by rw [← hW]; exact heap_alloc_new w _
  have hcal : Calm w W := by rw [← hW]; exact (Touch.refl _ _).alloc _
  have hN0 := h.calm hcal
  have HN0 := hide hN0
  have HOFF : Hid (κ w.heap.size = none ∧ ρ w.heap.size = none) := h.off3 (Nat.le_refl _)
  have HC := hide hcal
  have HBX := hide hbx
  have HP1 := hide hp1
  obtain ⟨k, hkE⟩ : ∃ k, k = pickN K 14 := ⟨_, rfl⟩
  rw [← hkE] at hp2 hk
  have HP2 := hide hp2
  have hk1 : ((k : Int) == 0) = false := by rw [beq_dec]; exact decide_eq_false (by omega)
  have hk2 : ¬ (k : Int) < 3 := by omega
  have hk3 : (k : Int) < 6 := by omega
  have BB := hide B
  have FF := hide F
  have HSAY := hide (pub_says B.core.opn hc)
  have hnum := (F.r.nums.cl c).many
  have HNUM := hide hnum
  have hstay := (F.r.nums.cl c).stays
  have HEl := hide hEl
  have x0 : W.cell? ⟨w.heap.size, 0, none⟩ = some (int K) := box_cell hbx 0
  have x1 : W.cell? ⟨w.heap.size, 1, none⟩ = some (int C) := box_cell hbx 1
  have x3 : W.cell? ⟨w.heap.size, 3, none⟩ = some (int f0) := box_cell hbx 3
  have x4 : W.cell? ⟨w.heap.size, 4, none⟩ = some (int f1) := box_cell hbx 4
  have x5 : W.cell? ⟨w.heap.size, 5, none⟩ = some (int f2) := box_cell hbx 5
  have hnet := hN0.h.net
  have hci : (c : Int) < 4 := by omega
  clear hp1 hp2 hcE hbx hcal hN0 h B F hK hC hkE hnum hstay hEl hk
  go_enter Try.func21, Try.ntmps21
  go_wp2_with fail
  refine (unhide HP1 _).mono ?_
  rintro e w1 ⟨rfl, hw1⟩
  have hw1 := hw1.symm
  subst hw1
  go_wp2_with fail
  refine (unhide HP2 _).mono ?_
  rintro e w1 ⟨rfl, hw1⟩
  have hw1 := hw1.symm
  subst hw1
  clear hW
  obtain ⟨Z, hZ⟩ : ∃ Z, Z = σ.pubE c := ⟨_, rfl⟩
  obtain ⟨M, hM⟩ : ∃ M, M = σ.pubA c := ⟨_, rfl⟩
  have HZ := hide hZ
  have HM1 := hide hM
  clear hZ hM
  go_wp2_with fail
  go_cut [7, 8] (fun s t wx => s = int M ∧ t = int Z ∧ ∃ ρ', HN wx hb b κ ρ' (σ.pub c f0 f1 f2) H ∧ Ow κ ρ κ ρ' W wx)
  case first =>
    go_region_with (go_at_call 17; refine (publishX ((unhide HN0).calm ((Touch.refl _ _).drew)).x (unhide FF) (by omega) c f0 f1 f2).mono ?_; rw [← unhide HZ, ← unhide HM1]; rintro e w7 ⟨rfl, ρ7, hX7, hM7⟩)
    all_goals go_wp2_with fail
    all_goals go_meet
    all_goals exact ⟨rfl, rfl, ρ7, ((unhide HN0).calm ((Touch.refl _ _).drew)).mv hX7 hM7, (Ow.calm ((Touch.refl _ _).drew)).trans (Ow.mv hM7)⟩
  case rest =>
    obtain ⟨rfl, rfl, ρ7, hN7, hO7⟩ := hcut
    obtain ⟨w7, hw7⟩ : ∃ w7, w7 = wc := ⟨_, rfl⟩
    subst hw7
    have HN7 := hide hN7
    have HO7 := hide hO7
    by_cases hZ0 : Z = 0
    · subst hZ0
      have hE0 : σ.pubE c = 0 := (unhide HZ).symm
      have hMm : M = (σ.cl c).many + 1 := by rw [unhide HM1]; simp only [Net.pubA, hE0, if_true, toNat_nat]
      have hcnt := hN7.h.num (8 + c) (by omega)
      rw [(unhide BB).num c hc, show 3 + (8 + c) = 11 + c by omega] at hcnt
      have hfz := hN7.h.fr (11 + c)
      have hset := hN7.h.setNum (i := 8 + c) (by omega) M
      rw [show 3 + (8 + c) = 11 + c by omega] at hset
      have HSET := hide hset
      obtain ⟨z, hz⟩ : ∃ z, z = (σ.cl c).many := ⟨_, rfl⟩
      rw [← hz] at hcnt hMm
      have hzb : 0 ≤ z ∧ z ≤ 1999999987000 := by have := unhide HNUM; omega
      have hz1 : z + 1 = M := hMm.symm
      have HZZ := hide hz
      have HE0 := hide hE0
      clear hz hN7 hO7 hset x0 x1 x3 x4 x5 hnet hE0 hMm
      go_wp2_with fail
      go_cut [] (fun wx => wx = (w7.setCell ⟨hb, 11 + c, none⟩ (int M)).drew)
      case first =>
        go_region
        all_goals go_wp2_with fail
        all_goals go_meet
        all_goals rfl
      case rest =>
        have htd : Calm (w7.setCell ⟨hb, 11 + c, none⟩ (int M)) wc := by rw [hcut]; exact (Touch.refl _ _).drew
        have hN8 := ((unhide HN7).books (unhide HSET).2 (unhide HSET).1).calm htd
        have hO8 := ((unhide HO7).trans (unhide HSET).2.ow).trans (Ow.calm htd)
        have HN8 := hide hN8
        have HO8 := hide hO8
        have bxc : ∀ j v, [int K, int C, int A, int f0, int f1, int f2][j]? = some v → wc.cell? ⟨w.heap.size, j, none⟩ = some v := fun j v hj => hO8.cell (unhide HOFF).1 (unhide HOFF).2 ((box_cell (unhide HBX) j).trans (by
          rcases j with _ | _ | _ | _ | _ | _ | j
          all_goals first | exact hj | simp at hj))
        have x3 := bxc 3 _ rfl
        have x4 := bxc 4 _ rfl
        have x5 := bxc 5 _ rfl
        obtain ⟨S, hS⟩ : ∃ S, S = (σ.cl c).stays := ⟨_, rfl⟩
        have hst := hN8.h.num (4 + c) (by omega)
        have hst0 : put H.num (8 + c) M (4 + c) = S := by rw [put_other _ _ (by omega), hS]; exact (unhide BB).stay c hc
        simp only [hst0] at hst
        rw [show 3 + (4 + c) = 7 + c by omega] at hst
        have hcn := hN8.h.num (8 + c) (by omega)
        simp only [put_same] at hcn
        rw [show 3 + (8 + c) = 11 + c by omega] at hcn
        obtain ⟨vl, hvl, hrowv⟩ := hN8.h.evs
        have hfz8 := hN8.h.fr
        have HFZ := hide hfz8
        have hone : vl.oneCell' = true := by
          rcases hrowv.1.2 with ⟨rfl, _⟩ | ⟨g, cap, cur, rfl, _⟩ <;> rfl
        have hbl : hb < wc.heap.size := block_lt_of_cell hvl
        have hvb : vl.ownBlock ≠ some hb := fun e => by
          have := hrowv.2 hb e; rw [hN8.h.house] at this; cases this
        have HVB := hide hvb
        have HRW := hide hrowv
        have hlen : H.evs.length ≤ 1999999999990 := by rw [(unhide BB).evs]; exact unhide HEl
        have hev : σ.pubEv c f0 f1 f2 = ⟨⟨c, M, f0, f1, f2⟩, S⟩ := by simp only [Net.pubEv, toNat_nat, ← hS, ← unhide HZZ, hz1]
        have HEVV := hide hev
        have key : ∀ g2 cp2 w2, Grew 0 132 6 vl (H.evs.length + 1) (H.evs.flatMap News.enc ++ (News.mk ⟨c, M, f0, f1, f2⟩ S).enc) (wc.alloc (.cells (News.mk ⟨c, M, f0, f1, f2⟩ S).enc.toArray 132)).drew g2 cp2 w2 →
            ∃ κ', HN (w2.setCell ⟨hb, 2, none⟩ (.slice (some ⟨g2, 0, none⟩) (H.evs.length + 1) cp2)) hb b κ' ρ7 (σ.pub c f0 f1 f2) { H with num := put H.num (8 + c) M, evs := H.evs ++ [⟨⟨c, M, f0, f1, f2⟩, S⟩] } ∧ Ow κ ρ κ' ρ7 w (w2.setCell ⟨hb, 2, none⟩ (.slice (some ⟨g2, 0, none⟩) (H.evs.length + 1) cp2)) := by
          intro g2 cp2 w2 hG
          have hta : Calm wc (wc.alloc (.cells (News.mk ⟨c, M, f0, f1, f2⟩ S).enc.toArray 132)).drew := ((Touch.refl _ _).alloc _).drew
          have hXa := (unhide HN8).calm hta
          have hfin := hXa.h.evsMore ⟨⟨c, M, f0, f1, f2⟩, S⟩ (hta.cell (p := ⟨hb, 2, none⟩) (fun f => f) hvl) hG
          exact ⟨_, hXa.books hfin.2 hfin.1, (((Ow.calm (unhide HC)).trans (unhide HO8)).trans (Ow.calm hta)).trans hfin.2.ow⟩
        have KEY := hide key
        clear key hcut htd hN8 hO8 bxc hst0 hfz8 hvb hrowv hcnt hfz HSET HN7 HO7 hev hS
        obtain ⟨ti, i3, z3, s3, b3⟩ := elem132
        have I3 := hide i3
        have Z3 := hide z3
        have S3 := hide s3
        have B3 := hide b3
        clear i3 z3 s3 b3
        go_wp2_with fail
        go_region_law (first
          | (refine step_append_mine _ rfl _ _ 29 rfl 0 132 ti (.agg #[int 0, int 0, int 0, int 0, int 0, int 0]) 6 48 Try.underlying29 (unhide I3) (unhide Z3) (unhide S3) (unhide B3) rfl (by decide) vl H.evs.length (H.evs.flatMap News.enc) rfl ?own ⟨wc.heap.size, 0, none⟩ 1 1 (News.mk ⟨c, M, f0, f1, f2⟩ S).enc rfl rfl ?news ?one (by decide) ?h63 ?bytes ?base ?_
             case own => exact ownsRow_keep (unhide HRW).1 (((Touch.refl (fun _ => False) _).alloc _).drew) (fun _ _ f => f)
             case news => intro j u hj; exact new_cells wc (News.mk ⟨c, M, f0, f1, f2⟩ S).enc 132 j u hj
             case one => intro u hu; simp [News.enc, Ev.enc] at hu; rcases hu with rfl | rfl | rfl | rfl | rfl | rfl <;> rfl
             case h63 => unfold maxLen; omega
             case bytes => omega
             case base => simp
             intro g2 cp2 w2 hg2
             have hne : ¬ hb = g2 := by
               rcases hg2.2.1 with ⟨h, _⟩ | ⟨h, _⟩
               · intro e; exact unhide HVB (by rw [h, e])
               · simp at h; omega
             have ht2 : Touch (fun i => i = g2) wc w2 := by
               rcases hg2.2.1 with ⟨_, h⟩ | ⟨_, h⟩
               · exact Touch.trans (((Touch.refl _ _).alloc _).drew) h
               · exact (((Touch.refl (fun i => i = g2) wc).alloc _).drew).calm h
             have dl2 : w2.cell? ⟨hb, 2, none⟩ = some vl := ht2.cell (p := ⟨hb, 2, none⟩) hne hvl
             have dn2 : w2.cell? ⟨hb, 11 + c, none⟩ = some (int M) := ht2.cell (p := ⟨hb, 11 + c, none⟩) hne hcn
             have fz2 : w2.frozen? ⟨hb, 2, none⟩ = false := (World.frozen?_of_block (w := wc) (a := ⟨hb, 2, none⟩) (ht2.block hb hbl hne)).trans (unhide HFZ _)
             have HG2 := hide hg2
             clear hg2 ht2))
        all_goals go_wp2
        all_goals go_ret
        all_goals
          obtain ⟨κ', hN9, hO9⟩ := unhide KEY _ _ _ (unhide HG2)
          refine ⟨rfl, κ', ρ7, _, _, _, _, ?_, .pub c hc f0 f1 f2 (unhide HE0), hO9⟩
          rw [unhide HEVV, ← unhide HZZ, hz1]
          exact hN9
    · have hZ36 : Z = 3 ∨ Z = 6 := by rcases unhide HSAY with h | h | h <;> rw [← unhide HZ] at h <;> omega
      have hsame : σ.pub c f0 f1 f2 = σ := pub_same (by rw [← unhide HZ]; exact hZ0)
      have HSAME := hide hsame
      clear hN7 hO7 hsame x0 x1 x3 x4 x5 hnet hZ0
      rcases hZ36 with rfl | rfl
      all_goals
        go_wp2
        go_ret
        have hN := unhide HN7
        rw [unhide HSAME] at hN
        exact ⟨rfl, κ, ρ7, E, G, σ, H, hN, .no, (Ow.calm (unhide HC)).trans (unhide HO7)⟩

theorem actB (h : HN w hb b κ ρ σ H) (B : Book E G σ H) (F : Fit σ m) (hm : m < 1999999987000) (hEl : E.length ≤ 1999999999990) {K C A : Int} (hK : Fits K) (hC : Fits C) (hA : Fits A) (f0 f1 f2 : Int) {ra : Option Addr} {rn rc : Nat} {f : Nat → Int} (hr : RawOut w κ ρ ra rn f) (hrn : rn ≤ maxLen) :
  Calls Try.prog 21 #[ptr hb, actV K C A f0 f1 f2 ra rn rc] w fun r w' => r = .returned (.bool true) ∧ ∃ κ' ρ' E' G' σ' H', HN w' hb b κ' ρ' σ' H' ∧ Acted E G σ H m E' G' σ' H' ∧ Ow κ ρ κ' ρ' w w' := by
 by_cases h0 : pickN K 14 = 0
 ·exact actRoams h B F hm hK hC hA h0 f0 f1 f2 ra rn rc
 ·by_cases h3 : pickN K 14 < 3
  ·exact actCalls h B F hm hEl hK hC hA (by omega) f0 f1 f2 hr hrn
  ·by_cases h6 : pickN K 14 < 6
   ·exact actPubs h B F hm hEl hK hC ⟨by omega, h6⟩ A f0 f1 f2 ra rn rc
   ·exact actDels h B F hm hEl hK hC hA (by omega) f0 f1 f2 ra rn rc
end

def ActsAt (w : World) (sa : Option Addr) (sn : Nat) : Prop := ∀ i, i < sn → ∃ b o K C Z y0 y1 y2 la ln lc f, sa = some ⟨b, o, none⟩ ∧ w.cell? ⟨b, o + i * 7, none⟩ = some (int K) ∧ w.cell? ⟨b, o + i * 7 + 1, none⟩ = some (int C) ∧ w.cell? ⟨b, o + i * 7 + 2, none⟩ = some (int Z) ∧
 w.cell? ⟨b, o + i * 7 + 3, none⟩ = some (int y0) ∧ w.cell? ⟨b, o + i * 7 + 4, none⟩ = some (int y1) ∧ w.cell? ⟨b, o + i * 7 + 5, none⟩ = some (int y2) ∧ w.cell? ⟨b, o + i * 7 + 6, none⟩ = some (.slice la ln lc) ∧ (Fits K ∧ Fits C ∧ Fits Z) ∧ RawAt w la ln f ∧ ln ≤ maxLen

section
variable {hb b : Nat} {κ ρ : Nat → Option Role} {w1 wr : World} {m k : Nat}

theorem rawOut_low {w0 : World} (hT : Calm w0 w1) (hlow : ∀ j, j < w0.heap.size → ¬ (κ j ≠ none ∨ ρ j ≠ none)) {κ' ρ' : Nat → Option Role} (hO : Ow κ ρ κ' ρ' w1 wr) {a : Option Addr} {n : Nat} {f : Nat → Int} (hr : RawAt w0 a n f) : RawOut wr κ' ρ' a n f := by
 have hc : Calm w0 wr := hT.fresh hO.touch hlow
 refine ⟨hr.calm hc, ?_⟩
 by_cases hn : n = 0
 ·exact Or.inl hn
 ·rcases hr.1 with h0 | ⟨g, o, ha, hcell⟩
  ·exact absurd h0 hn
  ·have hlt : g < w0.heap.size := block_lt_of_cell (hcell 0 (by omega))
   have hl := hlow g hlt
   have hr2 := hO.role g (Nat.lt_of_lt_of_le hlt hT.size)
   refine Or.inr ⟨g, o, ha, hr2.1.trans ?_, hr2.2.2 ?_⟩
   ·cases hq : κ g with
    | none => rfl
    | some r => exact absurd (Or.inl (by rw [hq]; simp)) hl
   ·cases hq : ρ g with
    | none => rfl
    | some r => exact absurd (Or.inr (by rw [hq]; simp)) hl

theorem book_new {par : List Nat} : Book [] (fun _ _ => []) (newNet par) (newHM par) := by
 refine ⟨core_new, rfl, rfl, fun c hc => ?_, fun c hc => ?_, fun c hc => ?_, fun c k _ _ => rfl, fun c k _ _ hu => (by cases hu)⟩
 ·show (if c < 4 then (-1 : Int) else 0) = -1
  rw [if_pos hc]
 ·show (if 4 + c < 4 then (-1 : Int) else 0) = 0
  rw [if_neg (by omega)]
 ·show (if 8 + c < 4 then (-1 : Int) else 0) = 0
  rw [if_neg (by omega)]
end

end Go.Proofs.Ytodfcpblcpogiaa

/-
  What the house does: stay, fresh, complete, deliver, read; its books.
-/
import Derived.Test.YtodfcpblcpogiaaNeedP
namespace Go.Proofs.Ytodfcpblcpogiaa
open Go.RowKit

def stayOf : List News → Ev → Int
 | [], _ => -1
 | n :: r, e => if n.ev = e then n.stay else stayOf r e

theorem stayOf_get {l : List News} {e : Ev} {i : Nat} {n : News} (hi : l[i]? = some n) (he : n.ev = e) (hb : ∀ j m, j < i → l[j]? = some m → m.ev ≠ e) : stayOf l e = n.stay := by
 induction l generalizing i with
 | nil => simp at hi
 | cons a r ih =>
  cases i with
  | zero => simp at hi; subst hi; simp [stayOf, he]
  | succ i =>
   have ha := hb 0 a (by omega) rfl
   simp only [stayOf, if_neg ha]
   exact ih (by simpa using hi) (fun j m hj hm => hb (j + 1) m (by omega) (by simpa using hm))
theorem stayOf_none {l : List News} {e : Ev} (hb : ∀ (j : Nat) m, l[j]? = some m → m.ev ≠ e) : stayOf l e = -1 := by
 induction l with
 | nil => rfl
 | cons a r ih =>
  simp only [stayOf, if_neg (hb 0 a rfl)]
  exact ih (fun j m hm => hb (j + 1) m (by simpa using hm))
section
variable {σ : Net} {A : Nat → Option Nat} {F : Nat → Option (List Tst)} {E : List News}

end

theorem flatGet {α : Type} (f : α → List Value) (k : Nat) (hf : ∀ a, (f a).length = k) : ∀ (l : List α) (i : Nat) (a : α), l[i]? = some a → ∀ j, j < k → (l.flatMap f)[i * k + j]? = (f a)[j]?
 | [], i, a, h, _, _ => by simp at h
 | x :: l, 0, a, h, j, hj => by
  simp at h; subst h
  rw [List.flatMap_cons, Nat.zero_mul, Nat.zero_add, List.getElem?_append_left (by rw [hf]; exact hj)]
 | x :: l, i + 1, a, h, j, hj => by
  have h1 : (i + 1) * k + j = i * k + j + k := by rw [Nat.add_mul]; omega
  rw [List.flatMap_cons, h1, List.getElem?_append_right (by rw [hf]; omega), hf, Nat.add_sub_cancel]
  exact flatGet f k hf l i a (by simpa using h) j hj

theorem ownsRow_slice {w : World} {base : Nat} {e : TypeId} {size : Nat} {v : Value} {n : Nat} {xs : List Value} (h : w.ownsRow base e size v n xs) : ∃ a cap, v = .slice a n cap := by
 rcases h.2 with ⟨e1, e0⟩ | ⟨g, cap, cur, e1, _⟩
 ·exact ⟨none, 0, by rw [e1]; exact congrArg (fun n => Value.slice none n 0) e0.symm⟩
 ·exact ⟨_, _, e1⟩

theorem ownsRow_get {w : World} {base : Nat} {e : TypeId} {k n : Nat} {v : Value} {α : Type} {enc : α → List Value} {l : List α} (h : w.ownsRow base e k v n (l.flatMap enc)) (hf : ∀ a, (enc a).length = k) (hk : 0 < k) {i : Nat} {a : α} (hi : l[i]? = some a) :
  ∃ g cap, v = .slice (some ⟨g, 0, none⟩) n cap ∧ ∀ j u, (enc a)[j]? = some u → w.cell? ⟨g, i * k + j, none⟩ = some u := by
 have hg := fun j hj => flatGet enc k hf l i a hi j hj
 have hcell := fun g hg => World.ownsRow.cells h (g := g) hg
 have hlen := h.1
 rcases h.2 with ⟨_, e0⟩ | ⟨g, cap, cur, e1, _⟩
 ·exfalso
  rw [e0, Nat.zero_mul] at hlen
  have := hg 0 hk
  rw [List.eq_nil_of_length_eq_zero hlen, List.getElem?_nil] at this
  have h0 := List.getElem?_eq_none_iff.1 this.symm
  rw [hf a] at h0
  omega
 ·refine ⟨g, cap, e1, fun j u hj => ?_⟩
  have hjk : j < k := by have := (List.getElem?_eq_some_iff.1 hj).1; rw [hf] at this; exact this
  have := hcell g (by rw [e1]; rfl) (i * k + j) u (by rw [hg j hjk]; exact hj)
  rw [Addr.add_mid, Nat.zero_add] at this
  exact this

def NewsAt (w : World) (ea : Option Addr) (l : List News) : Prop := ∀ (i : Nat) n, l[i]? = some n → ∃ g, ea = some ⟨g, 0, none⟩ ∧ w.cell? ⟨g, i * 6, none⟩ = some (int n.ev.pub) ∧ w.cell? ⟨g, i * 6 + 1, none⟩ = some (int n.ev.num) ∧ w.cell? ⟨g, i * 6 + 2, none⟩ = some (int n.ev.f0) ∧ w.cell? ⟨g, i * 6 + 3, none⟩ = some (int n.ev.f1) ∧ w.cell? ⟨g, i * 6 + 4, none⟩ = some (int n.ev.f2) ∧ w.cell? ⟨g, i * 6 + 5, none⟩ = some (int n.stay)

theorem NewsAt.calm {w w' : World} {ea : Option Addr} {l : List News} (h : NewsAt w ea l) (t : Calm w w') : NewsAt w' ea l := by
 intro i n hi
 obtain ⟨g, h0, h1, h2, h3, h4, h5, h6⟩ := h i n hi
 exact ⟨g, h0, t.cell (p := ⟨g, _, none⟩) (fun f => f) h1, t.cell (p := ⟨g, _, none⟩) (fun f => f) h2, t.cell (p := ⟨g, _, none⟩) (fun f => f) h3, t.cell (p := ⟨g, _, none⟩) (fun f => f) h4, t.cell (p := ⟨g, _, none⟩) (fun f => f) h5, t.cell (p := ⟨g, _, none⟩) (fun f => f) h6⟩

set_option maxRecDepth 100000 in
set_option maxHeartbeats 1000000 in
theorem stay_walk (w : World) (hb : Nat) (l : List News) (ea : Option Addr) (ec : Nat) (e : Ev) (hev : w.cell? ⟨hb, 2, none⟩ = some (.slice ea l.length ec)) (hl : l.length ≤ 2199023255552) (hn : NewsAt w ea l) :
  Calls Try.prog 85 #[ptr hb, .agg #[int e.pub, int e.num, int e.f0, int e.f1, int e.f2]] w fun r w' => r = .returned (int (stayOf l e)) ∧ Calm w w' := by
 obtain ⟨W, hW⟩ : ∃ W, w.alloc (.cells #[int e.pub, int e.num, int e.f0, int e.f1, int e.f2] 63) = W := ⟨_, rfl⟩
 have hbx : W.heap[w.heap.size]? = some (.cells #[int e.pub, int e.num, int e.f0, int e.f1, int e.f2] 63) := by rw [← hW]; exact heap_alloc_new w _
 have hcal : Calm w W := by rw [← hW]; exact (Touch.refl _ _).alloc _
 have HEV := hide (hcal.cell (p := ⟨hb, 2, none⟩) (fun f => f) hev)
 have HN := hide (hn.calm hcal)
 have HBX := hide hbx
 have HC := hide hcal
 have HL := hide hl
 clear hbx hcal hev hn hl
 go_enter Try.func85, Try.ntmps85
 go_wp2
 clear hW
 go_loopw [5] (fun i wr => ∃ k : Nat, k ≤ l.length ∧ i = int k ∧ (∀ j m, j < k → l[j]? = some m → m.ev ≠ e) ∧ Calm W wr) (fun i _ => l.length - (intOf i).toNat)
 case atStart => exact ⟨0, by omega, rfl, fun j m hj => by omega, Touch.refl _ _⟩
 case round =>
  obtain ⟨k, hk, rfl, hne, ht⟩ := hrel
  have hev := ht.cell (p := ⟨hb, 2, none⟩) (fun f => f) (unhide HEV)
  have bxc : ∀ j v, [int e.pub, int e.num, int e.f0, int e.f1, int e.f2][j]? = some v → wr.cell? ⟨w.heap.size, j, none⟩ = some v := fun j v hj => ht.cell (p := ⟨w.heap.size, j, none⟩) (fun f => f) ((box_cell (unhide HBX) j).trans (by simpa using hj))
  have x0 := bxc 0 _ rfl
  have x1 := bxc 1 _ rfl
  have x2 := bxc 2 _ rfl
  have x3 := bxc 3 _ rfl
  have x4 := bxc 4 _ rfl
  have hl : (l.length : Int) ≤ 2199023255552 := by have := unhide HL; omega
  have HNE := hide hne
  have HT := hide ht
  clear hne bxc
  by_cases hlt : k < l.length
  ·obtain ⟨n, hn⟩ : ∃ n, l[k]? = some n := ⟨_, List.getElem?_eq_getElem hlt⟩
   obtain ⟨g, rfl, c0, c1, c2, c3, c4, c5⟩ := (unhide HN).calm ht k n hn
   have HNN := hide hn
   have hki : (k : Int) < l.length := by omega
   clear hn ht
   have heq := run_equal23b
   by_cases hq : n.ev = e
   ·have HQ := hide hq
    have hres := stayOf_get (unhide HNN) hq (unhide HNE)
    have HRES := hide hres
    subst hq
    clear hres
    go_wp2
    go_region
    all_goals go_wp2
    all_goals go_ret
    all_goals
     refine ⟨?_, ((unhide HC).calm (unhide HT)).drew⟩
     rw [unhide HRES]
     rfl
   ·have HQ := hide hq
    have hcase : n.ev.pub ≠ e.pub ∨ (n.ev.pub = e.pub ∧ n.ev.num ≠ e.num) ∨ (n.ev.pub = e.pub ∧ n.ev.num = e.num ∧ decide (n.ev.f0 = e.f0 ∧ n.ev.f1 = e.f1 ∧ n.ev.f2 = e.f2) = false) := by
     by_cases h1 : n.ev.pub = e.pub
     ·by_cases h2 : n.ev.num = e.num
      ·refine Or.inr (Or.inr ⟨h1, h2, decide_eq_false (fun h3 => hq ?_)⟩)
       cases hn : n.ev; cases e
       simp_all
      ·exact Or.inr (Or.inl ⟨h1, h2⟩)
     ·exact Or.inl h1
    have HREL : Hid (∀ j m, j < k + 1 → l[j]? = some m → m.ev ≠ e) := fun j m hj hm => by
     by_cases ej : j = k
     ·subst ej; rw [unhide HNN] at hm; cases hm; exact hq
     ·exact unhide HNE j m (by omega) hm
    have HT2 : Hid (Calm W wr.drew) := (unhide HT).drew
    clear hq HT
    rcases hcase with hq | ⟨hq0, hq⟩ | ⟨hq0, hq1, hq⟩
    ·have hqb : (n.ev.pub == e.pub) = false := by rw [beq_dec]; exact decide_eq_false hq
     go_wp2
     go_region
     all_goals go_wp2
     all_goals go_roundw
     case rel => exact ⟨k + 1, by omega, by go_num, unhide HREL, unhide HT2⟩
     case measure => simp [intOf]; omega
    ·have hqb : (n.ev.num == e.num) = false := by rw [beq_dec]; exact decide_eq_false hq
     rw [hq0] at c0
     go_wp2
     go_region
     all_goals go_wp2
     all_goals go_roundw
     case rel => exact ⟨k + 1, by omega, by go_num, unhide HREL, unhide HT2⟩
     case measure => simp [intOf]; omega
    ·rw [hq0] at c0
     rw [hq1] at c1
     go_wp2
     go_region
     all_goals go_wp2
     all_goals go_roundw
     case rel => exact ⟨k + 1, by omega, by go_num, unhide HREL, unhide HT2⟩
     case measure => simp [intOf]; omega
  ·have he : k = l.length := by omega
   subst he
   go_wp2
   go_ret
   refine ⟨?_, (unhide HC).calm (unhide HT)⟩
   rw [stayOf_none (fun j m hj => unhide HNE j m (by have := (List.getElem?_eq_some_iff.1 hj).1; exact this) hj)]
   rfl

theorem News.enc_len (n : News) : n.enc.length = 6 := rfl
theorem HX.newsAt {w : World} {hb b : Nat} {κ : Nat → Option Role} {H : HM} (h : HX w hb b κ H) : ∃ ea ec, w.cell? ⟨hb, 2, none⟩ = some (.slice ea H.evs.length ec) ∧ NewsAt w ea H.evs := by
 obtain ⟨v, h1, h2, _⟩ := h.evs
 obtain ⟨a, cap, rfl⟩ := ownsRow_slice h2
 refine ⟨a, cap, h1, fun i n hi => ?_⟩
 obtain ⟨g, cap', e1, hc⟩ := ownsRow_get h2 News.enc_len (by omega) hi
 cases e1
 exact ⟨g, rfl, hc 0 _ rfl, hc 1 _ rfl, hc 2 _ rfl, hc 3 _ rfl, hc 4 _ rfl, hc 5 _ rfl⟩

def EvsAt (w : World) (ea : Option Addr) (l : List Ev) : Prop := ∀ (i : Nat) n, l[i]? = some n → ∃ g, ea = some ⟨g, 0, none⟩ ∧ w.cell? ⟨g, i * 5, none⟩ = some (int n.pub) ∧ w.cell? ⟨g, i * 5 + 1, none⟩ = some (int n.num) ∧ w.cell? ⟨g, i * 5 + 2, none⟩ = some (int n.f0) ∧ w.cell? ⟨g, i * 5 + 3, none⟩ = some (int n.f1) ∧ w.cell? ⟨g, i * 5 + 4, none⟩ = some (int n.f2)
theorem EvsAt.calm {w w' : World} {ea : Option Addr} {l : List Ev} (h : EvsAt w ea l) (t : Calm w w') : EvsAt w' ea l := by
 intro i n hi
 obtain ⟨g, h0, h1, h2, h3, h4, h5⟩ := h i n hi
 exact ⟨g, h0, t.cell (p := ⟨g, _, none⟩) (fun f => f) h1, t.cell (p := ⟨g, _, none⟩) (fun f => f) h2, t.cell (p := ⟨g, _, none⟩) (fun f => f) h3, t.cell (p := ⟨g, _, none⟩) (fun f => f) h4, t.cell (p := ⟨g, _, none⟩) (fun f => f) h5⟩

theorem ev_ne {a b : Ev} (h : a ≠ b) : a.pub ≠ b.pub ∨ (a.pub = b.pub ∧ a.num ≠ b.num) ∨ (a.pub = b.pub ∧ a.num = b.num ∧ decide (a.f0 = b.f0 ∧ a.f1 = b.f1 ∧ a.f2 = b.f2) = false) := by
 by_cases h1 : a.pub = b.pub
 ·by_cases h2 : a.num = b.num
  ·refine Or.inr (Or.inr ⟨h1, h2, decide_eq_false (fun h3 => h ?_)⟩)
   cases a; cases b
   simp_all
  ·exact Or.inr (Or.inl ⟨h1, h2⟩)
 ·exact Or.inl h1
def TakenAt (w : World) (hb q : Nat) (t : Tk) : Prop := ∃ fa fc ta tc, w.cell? ⟨hb, q, none⟩ = some (.bool t.on) ∧ w.cell? ⟨hb, q + 1, none⟩ = some (.slice fa t.fl.length fc) ∧ TestsAt w fa t.fl ∧ w.cell? ⟨hb, q + 2, none⟩ = some (int t.since) ∧ w.cell? ⟨hb, q + 3, none⟩ = some (.slice ta t.told.length tc) ∧ EvsAt w ta t.told ∧ w.cell? ⟨hb, q + 4, none⟩ = some (int t.lost)
theorem TakenAt.calm {w w' : World} {hb q : Nat} {t : Tk} (h : TakenAt w hb q t) (c : Calm w w') : TakenAt w' hb q t := by
 obtain ⟨fa, fc, ta, tc, h0, h1, h2, h3, h4, h5, h6⟩ := h
 exact ⟨fa, fc, ta, tc, c.cell (p := ⟨hb, _, none⟩) (fun f => f) h0, c.cell (p := ⟨hb, _, none⟩) (fun f => f) h1, h2.calm c, c.cell (p := ⟨hb, _, none⟩) (fun f => f) h3, c.cell (p := ⟨hb, _, none⟩) (fun f => f) h4, h5.calm c, c.cell (p := ⟨hb, _, none⟩) (fun f => f) h6⟩

theorem Ev.enc_len (e : Ev) : e.enc.length = 5 := rfl
theorem TkX.takenAt {w : World} {hb : Nat} {κ : Nat → Option Role} {s : Nat} {t : Tk} (h : TkX w hb κ s t) : TakenAt w hb (15 + s * 5) t := by
 obtain ⟨a, cap, h1, h2⟩ := h.fl
 obtain ⟨v, h3, h4, _⟩ := h.told
 obtain ⟨ta, tc, rfl⟩ := ownsRow_slice h4
 refine ⟨a, cap, ta, tc, h.on, h1, ?_, h.since, h3, fun i n hi => ?_, h.lost⟩
 ·rcases h2 with h2 | ⟨fb, o, e1, _, e3⟩
  ·exact Or.inl h2
  ·exact Or.inr ⟨fb, o, e1, e3⟩
 ·obtain ⟨g, cap', e1, hc⟩ := ownsRow_get h4 Ev.enc_len (by omega) hi
  cases e1
  exact ⟨g, rfl, hc 0 _ rfl, hc 1 _ rfl, hc 2 _ rfl, hc 3 _ rfl, hc 4 _ rfl⟩

structure Bk (κ κ' : Nat → Option Role) (w w' : World) : Prop where
 touch : Touch (fun k => κ k ≠ none) w w'
 role : ∀ k, k < w.heap.size → κ' k = κ k

theorem Bk.refl (κ : Nat → Option Role) (w : World) : Bk κ κ w w := ⟨Touch.refl _ _, fun _ _ => rfl⟩
theorem Bk.calm {κ : Nat → Option Role} {w w' : World} (t : Calm w w') : Bk κ κ w w' := ⟨t.mono (fun _ _ f => f.elim), fun _ _ => rfl⟩
theorem Bk.trans {κ κ' κ'' : Nat → Option Role} {w w' w'' : World} (h : Bk κ κ' w w') (k : Bk κ' κ'' w' w'') : Bk κ κ'' w w'' := by
 refine ⟨⟨k.touch.os.trans h.touch.os, k.touch.tape.trans h.touch.tape, k.touch.output.trans h.touch.output, Nat.le_trans h.touch.size k.touch.size, fun i hi hs => ?_⟩, fun i hi => (k.role i (Nat.lt_of_lt_of_le hi h.touch.size)).trans (h.role i hi)⟩
 exact (k.touch.block i (Nat.lt_of_lt_of_le hi h.touch.size) (by rw [h.role i hi]; exact hs)).trans (h.touch.block i hi hs)
theorem Bk.ow {κ κ' ρ : Nat → Option Role} {w w' : World} (h : Bk κ κ' w w') : Ow κ ρ κ' ρ w w' := ⟨h.touch.mono (fun _ _ x => Or.inl x), fun k hk => ⟨h.role k hk, Iff.rfl⟩⟩
theorem Bk.cell {κ κ' : Nat → Option Role} {w w' : World} (h : Bk κ κ' w w') {g o : Nat} {v : Value} (h1 : κ g = none) (hc : w.cell? ⟨g, o, none⟩ = some v) : w'.cell? ⟨g, o, none⟩ = some v :=
 h.touch.cell (p := ⟨g, o, none⟩) (fun x => x h1) hc
theorem HN.books {w w' : World} {hb b : Nat} {κ κ' ρ : Nat → Option Role} {σ : Net} {H H' : HM} (h : HN w hb b κ ρ σ H) (t : Bk κ κ' w w') (x : HX w' hb b κ' H') : HN w' hb b κ' ρ σ H' := by
 refine ⟨h.x.keep t.touch (fun k hk hr => hk (h.apart k hr)), x, fun k hk => ?_⟩
 by_cases hl : k < w.heap.size
 ·rw [t.role k hl] at hk; exact h.apart k hk
 ·cases hq : ρ k with
  | none => rfl
  | some r => exact absurd (h.x.lt k (by rw [hq]; simp)) hl

structure Grown (w W : World) (hb q : Nat) (κ κ' : Nat → Option Role) (r : Role) : Prop where
 keep : ∀ {k : Nat} {r' : Role}, κ k = some r' → ¬ (r' = rHouse ∨ r' = r) → W.heap[k]? = w.heap[k]? ∧ κ' k = κ k
 house : κ' hb = κ hb
 lt : ∀ k, κ' k ≠ none → k < W.heap.size
 typ : ∃ cs, W.heap[hb]? = some (.cells cs 37)
 cell : ∀ o v, ¬ (o = q) → w.cell? ⟨hb, o, none⟩ = some v → W.cell? ⟨hb, o, none⟩ = some v
 bk : Bk κ κ' w W

theorem HX.grown {w w2 : World} {hb b : Nat} {κ : Nat → Option Role} {H : HM} (h : HX w hb b κ H) {r : Role} (hr : r ≠ rHouse) {vl : Value} {g cap n e size q : Nat} {cells : List Value} (hown : ∀ g, vl.ownBlock = some g → κ g = some r) (hg : Grew 0 e size vl n cells w g cap w2) {u : Value} (hq : w.cell? ⟨hb, q, none⟩ = some u) :
    Grown w (w2.setCell ⟨hb, q, none⟩ (.slice (some ⟨g, 0, none⟩) n cap)) hb q κ (roleAt κ g r) r ∧ RowAt (w2.setCell ⟨hb, q, none⟩ (.slice (some ⟨g, 0, none⟩) n cap)) (roleAt κ g r) r e size n cells (.slice (some ⟨g, 0, none⟩) n cap) ∧ (w2.setCell ⟨hb, q, none⟩ (.slice (some ⟨g, 0, none⟩) n cap)).cell? ⟨hb, q, none⟩ = some (.slice (some ⟨g, 0, none⟩) n cap) := by
  have hbl : hb < w.heap.size := h.lt hb (by rw [h.house]; simp)
  obtain ⟨gown, gt, glt⟩ := hg
  have hgr : κ g = some r ∨ w.heap.size ≤ g := by
    rcases gt with ⟨hv, _⟩ | ⟨hv, _⟩
    · exact Or.inl (hown g hv)
    · right; omega
  have hgb : hb ≠ g := by
    rcases hgr with h1 | h1
    · intro e1; subst e1; rw [h.house] at h1; cases h1; exact hr rfl
    · omega
  have t2 : Touch (fun i => i = g) w w2 := by
    rcases gt with ⟨_, t⟩ | ⟨_, t⟩
    · exact t
    · exact t.mono (fun _ _ f => f.elim)
  obtain ⟨W, hW⟩ : ∃ W, W = w2.setCell ⟨hb, q, none⟩ (.slice (some ⟨g, 0, none⟩) n cap) := ⟨_, rfl⟩
  rw [← hW]
  have hWk : ∀ i, i ≠ hb → W.heap[i]? = w2.heap[i]? := fun i hi => by rw [hW]; exact heap_setCell_other w2 _ hi
  have hWs : W.heap.size = w2.heap.size := by rw [hW]; simp [World.setCell]
  have hb2 : w2.heap[hb]? = w.heap[hb]? := t2.block hb hbl hgb
  have hrole : ∀ i, i < w.heap.size → roleAt κ g r i = κ i := fun i hi => by
    unfold roleAt; split
    · rename_i e1; subst e1
      rcases hgr with h1 | h1
      · exact h1.symm
      · omega
    · rfl
  have hkeep : ∀ i, i < w.heap.size → i ≠ hb → i ≠ g → W.heap[i]? = w.heap[i]? := fun i hi h1 h2 => (hWk i h1).trans (t2.block i hi h2)
  have hrg : roleAt κ g r g = some r := by unfold roleAt; rw [if_pos rfl]
  refine ⟨⟨fun {k r'} hk hn => ?_, hrole hb hbl, fun k hk => ?_, ?_, fun o v ho hv => ?_, ⟨⟨?_, ?_, ?_, ?_, fun i hi hs => ?_⟩, hrole⟩⟩, ⟨?_, fun g' hg' => ?_⟩, ?_⟩
  · have hkl := h.lt k (by rw [hk]; simp)
    refine ⟨hkeep k hkl (fun e1 => ?_) (fun e1 => ?_), hrole k hkl⟩
    · subst e1; rw [h.house] at hk; cases hk; exact hn (Or.inl rfl)
    · subst e1
      rcases hgr with h1 | h1
      · rw [h1] at hk; cases hk; exact hn (Or.inr rfl)
      · omega
  · rw [hWs]
    unfold roleAt at hk
    split at hk
    · rename_i e1; rw [e1]; exact glt
    · exact Nat.lt_of_lt_of_le (h.lt k hk) t2.size
  · rw [hW]
    obtain ⟨cs, hcs⟩ := h.typ
    exact typ_setCell ⟨cs, hb2.trans hcs⟩ _ _
  · rw [hW]; exact cell_setCell_ne w2 ho (cell_of_heap hb2 hv)
  · rw [hW]; exact t2.os
  · rw [hW]; exact t2.tape
  · rw [hW]; exact t2.output
  · rw [hWs]; exact t2.size
  · refine hkeep i hi (fun e1 => hs (by rw [e1, h.house]; simp)) (fun e1 => hs ?_)
    subst e1
    rcases hgr with h1 | h1
    · rw [h1]; simp
    · omega
  · exact ownsRow_keep gown (S := fun i => i = hb) (by rw [hW]; exact (Touch.refl (fun i => i = hb) w2).setCell (p := ⟨hb, q, none⟩) (fun _ => rfl) _) (fun g' hg' e1 => by
      simp [Value.ownBlock] at hg'
      exact hgb (by rw [← e1, hg']))
  · simp [Value.ownBlock] at hg'
    rw [← hg']; exact hrg
  · rw [hW]; exact World.cell?_setCell_same w2 _ _ (cell_of_heap hb2 hq)

theorem HX.toldMore {w w2 : World} {hb b : Nat} {κ : Nat → Option Role} {H : HM} (h : HX w hb b κ H) {s : Nat} (hs : s < 8) (e : Ev) {vl : Value} {g cap : Nat} (hv : w.cell? ⟨hb, 15 + s * 5 + 3, none⟩ = some vl)
  (hg : Grew 0 63 5 vl ((H.subs s).told.length + 1) ((H.subs s).told.flatMap Ev.enc ++ e.enc) w g cap w2) :
  HX (w2.setCell ⟨hb, 15 + s * 5 + 3, none⟩ (.slice (some ⟨g, 0, none⟩) ((H.subs s).told.length + 1) cap)) hb b (roleAt κ g (rTold s)) { H with subs := put H.subs s { H.subs s with told := (H.subs s).told ++ [e] } } ∧
   Bk κ (roleAt κ g (rTold s)) w (w2.setCell ⟨hb, 15 + s * 5 + 3, none⟩ (.slice (some ⟨g, 0, none⟩) ((H.subs s).told.length + 1) cap)) := by
 have T := h.subs s hs
 obtain ⟨v, h3, h4⟩ := T.told
 rw [hv] at h3; cases h3
 obtain ⟨G, hrow, hnew⟩ := h.grown (r := rTold s) (by simp) h4.2 hg hv
 obtain ⟨W, hW⟩ : ∃ W, W = w2.setCell ⟨hb, 15 + s * 5 + 3, none⟩ (.slice (some ⟨g, 0, none⟩) ((H.subs s).told.length + 1) cap) := ⟨_, rfl⟩
 rw [← hW] at G hrow hnew ⊢
 refine ⟨h.step (S := fun r' => r' = rHouse ∨ r' = rTold s) G.keep G.house G.lt (fun o => o = 15 + s * 5 + 3) G.typ (fun o v ho => G.cell o v ho) (by omega) (by omega) rfl
  (Or.inl ⟨rfl, by omega, by simp⟩) (fun i hi => Or.inl ⟨rfl, by omega⟩) (fun t ht => ?_), G.bk⟩
 by_cases e1 : t = s
 ·subst e1
  right
  simp only [put_same]
  obtain ⟨a, cap', h1, h2⟩ := T.fl
  refine ⟨G.cell _ _ (by omega) T.on, ⟨a, cap', G.cell _ _ (by omega) h1, ?_⟩, G.cell _ _ (by omega) T.since, ⟨_, hnew, ?_⟩, G.cell _ _ (by omega) T.lost⟩
  ·rcases h2 with h2 | ⟨fb, o, e1, e2, e3⟩
   ·exact Or.inl h2
   ·have := G.keep e2 (by simp)
    exact Or.inr ⟨fb, o, e1, this.2.trans e2, fun j v hj => cell_of_heap this.1 (e3 j v hj)⟩
  ·simp only [List.length_append, List.length_singleton, List.flatMap_append, List.flatMap_singleton]
   exact hrow
 ·left
  exact ⟨put_other _ _ e1, fun o _ _ => by omega, by simp [e1], by simp⟩

theorem HX.evsMore {w w2 : World} {hb b : Nat} {κ : Nat → Option Role} {H : HM} (h : HX w hb b κ H) (e : News) {vl : Value} {g cap : Nat} (hv : w.cell? ⟨hb, 2, none⟩ = some vl)
  (hg : Grew 0 132 6 vl (H.evs.length + 1) (H.evs.flatMap News.enc ++ e.enc) w g cap w2) :
  HX (w2.setCell ⟨hb, 2, none⟩ (.slice (some ⟨g, 0, none⟩) (H.evs.length + 1) cap)) hb b (roleAt κ g rEvs) { H with evs := H.evs ++ [e] } ∧
   Bk κ (roleAt κ g rEvs) w (w2.setCell ⟨hb, 2, none⟩ (.slice (some ⟨g, 0, none⟩) (H.evs.length + 1) cap)) := by
 obtain ⟨v, h3, h4⟩ := h.evs
 rw [hv] at h3; cases h3
 obtain ⟨G, hrow, hnew⟩ := h.grown (r := rEvs) (by simp) h4.2 hg hv
 obtain ⟨W, hW⟩ : ∃ W, W = w2.setCell ⟨hb, 2, none⟩ (.slice (some ⟨g, 0, none⟩) (H.evs.length + 1) cap) := ⟨_, rfl⟩
 rw [← hW] at G hrow hnew ⊢
 refine ⟨h.step (S := fun r' => r' = rHouse ∨ r' = rEvs) G.keep G.house G.lt (fun o => o = 2) G.typ (fun o v ho => G.cell o v ho) (by omega) (by omega) rfl
  (Or.inr ⟨_, hnew, ?_⟩) (fun i hi => Or.inl ⟨rfl, by omega⟩) (fun t ht => Or.inl ⟨rfl, fun o _ _ => by omega, by simp, by simp⟩), G.bk⟩
 simp only [List.length_append, List.length_singleton, List.flatMap_append, List.flatMap_singleton]
 exact hrow

theorem HX.setNum {w : World} {hb b : Nat} {κ : Nat → Option Role} {H : HM} (h : HX w hb b κ H) {i : Nat} (hi : i < 12) (z : Int) :
  HX (w.setCell ⟨hb, 3 + i, none⟩ (int z)) hb b κ { H with num := put H.num i z } ∧ Bk κ κ w (w.setCell ⟨hb, 3 + i, none⟩ (int z)) := by
 have hne : ∀ k r, κ k = some r → r ≠ rHouse → k ≠ hb := fun k r hk hr e => by subst e; rw [h.house] at hk; cases hk; exact hr rfl
 refine ⟨h.step (S := fun r => r = rHouse) (fun {k r} hk hr => ⟨heap_setCell_other _ _ (hne k r hk hr), rfl⟩) rfl (fun k hk => by simpa [World.setCell] using h.lt k hk) (fun o => o = 3 + i) (typ_setCell h.typ _ _) (fun o v ho hv => cell_setCell_ne w ho hv) (by omega) (by omega) rfl
  (Or.inl ⟨rfl, by omega, by simp⟩) (fun j hj => ?_) (fun t ht => Or.inl ⟨rfl, fun o _ _ => by omega, by simp, by simp⟩), ⟨(Touch.refl _ _).setCell (p := ⟨hb, 3 + i, none⟩) (fun _ => by rw [h.house]; simp) _, fun _ _ => rfl⟩⟩
 by_cases e : j = i
 ·subst e
  right
  simp only [put_same]
  exact World.cell?_setCell_same w _ _ (h.num j hj)
 ·left
  exact ⟨put_other _ _ e, by omega⟩

theorem pending_many {σ : Net} {l : Lnk} {j : Nat} (h : σ.pending[j]? = some l) : 0 < l.many := by
 have h := List.mem_of_getElem? h
 unfold Net.pending at h
 split at h
 ·cases h
 ·simp only [List.mem_flatMap, List.mem_filterMap] at h
  obtain ⟨x, _, y, _, h⟩ := h
  split at h
  ·cases h
  ·rename_i hne
   cases h
   exact List.length_pos_iff.2 hne

set_option maxRecDepth 100000 in
set_option maxHeartbeats 1000000 in
theorem deliverH {I : Net → Prop} {m : Nat} (R : Runs I m) {w : World} {hb b : Nat} {κ ρ : Nat → Option Role} {σ : Net} {H : HM} (h : HN w hb b κ ρ σ H) (i : I σ) {a : Int} (ha : Fits a) :
  Calls Try.prog 55 #[ptr hb, int a] w fun e w' => e = .returned (.bool true) ∧ ∃ ρ' σ', HN w' hb b κ ρ' σ' H ∧ I σ' ∧ Ow κ ρ κ ρ' w w' := by
 have F := R.fine σ i
 have ho := R.opn σ i
 have hnet := h.h.net
 have RR := hide R
 have HN1 := hide h
 have HI1 := hide i
 have HA := hide ha
 have FF := hide F
 have HOP := hide ho
 clear R h i ha F ho
 go_enter Try.func55, Try.ntmps55
 go_wp2_with fail
 refine (pendingX (unhide HN1).x (unhide FF).len).mono ?_
 rintro e w1 ⟨v, rfl, hL, ht1⟩
 obtain ⟨pa, pc, rfl, hcells⟩ := links_at hL
 have hpl := pending_len (unhide HOP)
 have HC1 := hide hcells
 have HT1 := hide ht1
 have hnet1 := ht1.cell (p := ⟨hb, 0, none⟩) (fun f => f) hnet
 have hlenI : (σ.pending.length : Int) ≤ 36 := by omega
 clear hL hcells ht1 hnet
 by_cases hnil : σ.pending.length = 0
 ·rw [hnil]
  clear hpl hlenI HC1
  go_wp2
  go_ret
  exact ⟨rfl, ρ, σ, (unhide HN1).calm (unhide HT1), unhide HI1, Ow.calm (unhide HT1)⟩
 ·have hpos : (0 : Int) < σ.pending.length := by omega
  have hpb : ((σ.pending.length : Int) == 0) = false := by rw [beq_dec]; exact decide_eq_false (by omega)
  have hpk := fun w => pick_any a σ.pending.length w (unhide HA) (by omega) (by omega)
  have hpn := pickN_lt a σ.pending.length (by omega)
  obtain ⟨j, hj⟩ : ∃ j, j = pickN a σ.pending.length := ⟨_, rfl⟩
  rw [← hj] at hpk hpn
  have HPK := hide hpk
  have hjI : (j : Int) < σ.pending.length := by omega
  obtain ⟨lk, hlk⟩ : ∃ lk, σ.pending[j]? = some lk := ⟨_, List.getElem?_eq_getElem hpn⟩
  obtain ⟨fq, lq, hq⟩ := mem_pending (List.mem_of_getElem? hlk)
  obtain ⟨g, rfl, c0, c1, c2⟩ := unhide HC1 j lk hlk
  have hmany : (0 : Int) < lk.many := by
   have := pending_many hlk
   omega
  have HQ := hide hq
  have HMANY := hide hmany
  clear hpk hj hlk hq HC1 hmany
  go_wp2_with fail
  refine (unhide HPK _).mono ?_
  rintro e w2 ⟨rfl, hw2⟩
  have hw2 := hw2.symm
  subst hw2
  clear hpb
  go_wp2_with fail
  obtain ⟨W2, hW2⟩ : ∃ W2, W2 = w1.alloc (.cells #[.int .i64 (lk.a : Int), .int .i64 (lk.b : Int), .int .i64 (lk.many : Int)] 68) := ⟨_, rfl⟩
  have ht2 : Calm w1 W2 := by rw [hW2]; exact (Touch.refl _ _).alloc _
  have q0 : W2.cell? ⟨w1.heap.size, 0, none⟩ = some (int lk.a) := by rw [hW2]; exact box_cell (heap_alloc_new _ _) 0
  have q1 : W2.cell? ⟨w1.heap.size, 1, none⟩ = some (int lk.b) := by rw [hW2]; exact box_cell (heap_alloc_new _ _) 1
  have HBX : Hid (W2.heap[w1.heap.size]? = some (.cells #[.int .i64 (lk.a : Int), .int .i64 (lk.b : Int), .int .i64 (lk.many : Int)] 68)) := by rw [hW2]; exact heap_alloc_new _ _
  have qn : W2.cell? ⟨hb, 0, none⟩ = some (ptr b) := ht2.cell (p := ⟨hb, 0, none⟩) (fun f => f) hnet1
  have HN2 := hide (((unhide HN1).calm (unhide HT1)).calm ht2)
  have HO2 := hide ((Ow.calm (κ := κ) (ρ := ρ) (unhide HT1)).trans (Ow.calm ht2))
  have HOFF : Hid (κ w1.heap.size = none ∧ ρ w1.heap.size = none ∧ w1.heap.size < W2.heap.size) := by
   have hN := (unhide HN1).calm (unhide HT1)
   refine ⟨?_, ?_, ?_⟩
   ·cases hq : κ w1.heap.size with
    | none => rfl
    | some r => have := hN.h.lt _ (by rw [hq]; simp); omega
   ·cases hq : ρ w1.heap.size with
    | none => rfl
    | some r => have := hN.x.lt _ (by rw [hq]; simp); omega
   ·rw [hW2]; simp
  rw [← hW2]
  clear hW2 ht2 hnet1 c0 c1 c2 hjI hpn hpos hnil hlenI hpl HPK HT1 HN1 hw2
  go_cut [7] (fun s wx => s = int 0 ∧ ∃ ρ', HN wx hb b κ ρ' (σ.del lk.a lk.b) H ∧ Ow κ ρ κ ρ' w wx ∧ wx.cell? ⟨w1.heap.size, 2, none⟩ = some (int lk.many))
  case first =>
   go_region_with (go_at_call 28; refine (deliverX ((unhide HN2).calm ((Touch.refl _ _).drew)).x (unhide FF).fit (unhide FF).lt (unhide HQ)).mono ?_; rintro e w3 ⟨rfl, ρ3, hX3, hM3⟩)
   all_goals go_wp2_with fail
   all_goals go_meet
   all_goals
    have hc2 : W2.drew.cell? ⟨w1.heap.size, 2, none⟩ = some (int lk.many) := box_cell (w := W2.drew) (unhide HBX) 2
    exact ⟨rfl, ρ3, ((unhide HN2).calm ((Touch.refl _ _).drew)).mv hX3 hM3, ((unhide HO2).trans (Ow.calm ((Touch.refl _ _).drew))).trans (Ow.mv hM3), (Ow.mv (κ := κ) hM3).cell (unhide HOFF).1 (unhide HOFF).2.1 hc2⟩
  case rest =>
   obtain ⟨rfl, ρ3, hN3, hO3, q2⟩ := hcut
   have hmany := unhide HMANY
   have HN3 := hide hN3
   have HO3 := hide hO3
   clear hN3 hO3 HN2 HO2 q0 q1 qn
   go_wp2
   go_ret
   exact ⟨rfl, ρ3, _, unhide HN3, (unhide RR).del σ _ _ _ _ (unhide HI1) (unhide HQ), unhide HO3⟩

theorem Ent.enc_len (e : Ent) : e.enc.length = 7 := rfl

end Go.Proofs.Ytodfcpblcpogiaa

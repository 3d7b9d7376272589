/-
  What the house does: stay, fresh, complete, deliver, read; its books.
-/
import Derived.Test.YtodfcpblcpogiaaNeedP
namespace Go.Proofs.Ytodfcpblcpogiaa
open Go.RowKit

/-- In which stay an event was published; -1: it never was. -/
def stayOf : List News → Ev → Int
  | [], _ => -1
  | n :: r, e => if n.ev = e then n.stay else stayOf r e

theorem stayOf_get {l : List News} {e : Ev} {i : Nat} {n : News} (hi : l[i]? = some n) (he : n.ev = e) (hb : ∀ j m, j < i → l[j]? = some m → m.ev ≠ e) : stayOf l e = n.stay := by
  induction l generalizing i with
  | nil => simp at hi
  | cons a r ih =>
    cases i with
    | zero => simp at hi; subst hi; simp [stayOf, he]
    | succ i =>
      have ha := hb 0 a (by omega) rfl
      simp only [stayOf, if_neg ha]
      exact ih (by simpa using hi) (fun j m hj hm => hb (j + 1) m (by omega) (by simpa using hm))
theorem stayOf_none {l : List News} {e : Ev} (hb : ∀ (j : Nat) m, l[j]? = some m → m.ev ≠ e) : stayOf l e = -1 := by
  induction l with
  | nil => rfl
  | cons a r ih =>
    simp only [stayOf, if_neg (hb 0 a rfl)]
    exact ih (fun j m hm => hb (j + 1) m (by simpa using hm))
theorem stayOf_zero {l : List News} (h : ∀ n, n ∈ l → n.stay = 0) {e : Ev} (he : ∃ n, n ∈ l ∧ n.ev = e) : stayOf l e = 0 := by
  induction l with
  | nil => obtain ⟨n, hn, _⟩ := he; cases hn
  | cons a r ih =>
    unfold stayOf
    by_cases ha : a.ev = e
    · rw [if_pos ha]; exact h a (List.mem_cons_self ..)
    · rw [if_neg ha]
      refine ih (fun n hn => h n (List.mem_cons_of_mem _ hn)) ?_
      obtain ⟨n, hn, hne⟩ := he
      rcases List.mem_cons.1 hn with rfl | hn
      · exact absurd hne ha
      · exact ⟨n, hn, hne⟩

/-- As the house keeps it: without stays. -/
def flat (E : List News) : List News := E.map fun e => ⟨e.ev, 0⟩
theorem flat_len (E : List News) : (flat E).length = E.length := by simp [flat]
theorem flat_append (E : List News) (e : News) : flat (E ++ [e]) = flat E ++ [⟨e.ev, 0⟩] := by simp [flat]
theorem flat_stay {E : List News} : ∀ n, n ∈ flat E → n.stay = 0 := fun n hn => by
  simp only [flat, List.mem_map] at hn
  obtain ⟨e, _, rfl⟩ := hn; rfl
theorem flat_mem {E : List News} {e : News} (h : e ∈ E) : ∃ n, n ∈ flat E ∧ n.ev = e.ev := ⟨⟨e.ev, 0⟩, List.mem_map.2 ⟨e, h, rfl⟩, rfl⟩

section
variable {σ : Net} {A : Nat → Option Nat} {F : Nat → Option (List Tst)} {E : List News}

/-- What was told to a client: of those that were published; wanted; rising. -/
structure ToldOk (E : List News) (l : List Tst) (L : List News) : Prop where
  mem : ∀ e, e ∈ L → e ∈ E ∧ meets l e.ev = true
  inc : L.Pairwise fun o e => o.ev.pub = e.ev.pub → o.ev.num < e.ev.num

theorem Flow.rising (W : Flow σ A F E) {c : Nat} {l : List Tst} (hF : F c = some l) : ((σ.cl c).told 0).Pairwise fun o e => o.ev.pub = e.ev.pub → o.ev.num < e.ev.num := by
  refine List.pairwise_iff_forall_sublist.2 (fun {o e} hs hp => ?_)
  have ho : o ∈ (σ.cl c).told 0 := hs.subset (by simp)
  have he : e ∈ (σ.cl c).told 0 := hs.subset (by simp)
  obtain ⟨p, _, hpo, hsub⟩ := W.first hF ho
  have mo := (W.told c l o hF ho).2
  have me := (W.told c l e hF he).2
  have h1 : isOf p l o = true := by simp [isOf, hpo, mo]
  have h2 : isOf p l e = true := by simp [isOf, ← hp, hpo, me]
  have hs2 := hs.filter (isOf p l)
  simp only [List.filter_cons, h1, h2, List.filter_nil, if_true] at hs2
  exact List.pairwise_iff_forall_sublist.1 (W.inc.filter (isOf p l)) (hs2.trans hsub) hp

theorem Flow.toldOk (W : Flow σ A F E) (_ : ∀ e, e ∈ E → 1 ≤ e.ev.num) {c : Nat} {l : List Tst} (hF : F c = some l) : ToldOk E l ((σ.cl c).told 0) := by
  refine ⟨fun e he => W.told c l e hF he, ?_⟩
  exact W.rising hF

theorem Flow.all_told (W : Flow σ A F E) (hq : ∀ x y, σ.q x y = []) {c h : Nat} {l : List Tst} (hF : F c = some l) (hA : A c = some h) {e : News} (he : e ∈ E) (hm : meets l e.ev = true) : e ∈ (σ.cl c).told 0 := by
  obtain ⟨p, hp, hpe, hAp, _⟩ := W.ev e he
  obtain ⟨b, hb⟩ := Option.ne_none_iff_exists'.1 hAp
  have h1 := W.eq p c l h b hp hF hA hb
  rw [chain_empty hq, List.append_nil] at h1
  have h2 : e ∈ E.filter (isOf p l) := List.mem_filter.2 ⟨he, by simp [isOf, hpe, hm]⟩
  rw [← h1] at h2
  exact (List.mem_filter.1 h2).1
end

theorem flatGet {α : Type} (f : α → List Value) (k : Nat) (hf : ∀ a, (f a).length = k) : ∀ (l : List α) (i : Nat) (a : α), l[i]? = some a → ∀ j, j < k → (l.flatMap f)[i * k + j]? = (f a)[j]?
  | [], i, a, h, _, _ => by simp at h
  | x :: l, 0, a, h, j, hj => by
    simp at h; subst h
    rw [List.flatMap_cons, Nat.zero_mul, Nat.zero_add, List.getElem?_append_left (by rw [hf]; exact hj)]
  | x :: l, i + 1, a, h, j, hj => by
    have h1 : (i + 1) * k + j = i * k + j + k := by rw [Nat.add_mul]; omega
    rw [List.flatMap_cons, h1, List.getElem?_append_right (by rw [hf]; omega), hf, Nat.add_sub_cancel]
    exact flatGet f k hf l i a (by simpa using h) j hj

theorem ownsRow_slice {w : World} {base : Nat} {e : TypeId} {size : Nat} {v : Value} {n : Nat} {xs : List Value} (h : w.ownsRow base e size v n xs) : ∃ a cap, v = .slice a n cap := by
  rcases h.2 with ⟨e1, e0⟩ | ⟨g, cap, cur, e1, _⟩
  · exact ⟨none, 0, by rw [e1]; exact congrArg (fun n => Value.slice none n 0) e0.symm⟩
  · exact ⟨_, _, e1⟩

theorem ownsRow_get {w : World} {base : Nat} {e : TypeId} {k n : Nat} {v : Value} {α : Type} {enc : α → List Value} {l : List α} (h : w.ownsRow base e k v n (l.flatMap enc)) (hf : ∀ a, (enc a).length = k) (hk : 0 < k) {i : Nat} {a : α} (hi : l[i]? = some a) :
    ∃ g cap, v = .slice (some ⟨g, 0, none⟩) n cap ∧ ∀ j u, (enc a)[j]? = some u → w.cell? ⟨g, i * k + j, none⟩ = some u := by
  have hg := fun j hj => flatGet enc k hf l i a hi j hj
  have hcell := fun g hg => World.ownsRow.cells h (g := g) hg
  have hlen := h.1
  rcases h.2 with ⟨_, e0⟩ | ⟨g, cap, cur, e1, _⟩
  · exfalso
    rw [e0, Nat.zero_mul] at hlen
    have := hg 0 hk
    rw [List.eq_nil_of_length_eq_zero hlen, List.getElem?_nil] at this
    have h0 := List.getElem?_eq_none_iff.1 this.symm
    rw [hf a] at h0
    omega
  · refine ⟨g, cap, e1, fun j u hj => ?_⟩
    have hjk : j < k := by have := (List.getElem?_eq_some_iff.1 hj).1; rw [hf] at this; exact this
    have := hcell g (by rw [e1]; rfl) (i * k + j) u (by rw [hg j hjk]; exact hj)
    rw [Addr.add_mid, Nat.zero_add] at this
    exact this

/-- Events as the house keeps them. -/
def NewsAt (w : World) (ea : Option Addr) (l : List News) : Prop := ∀ (i : Nat) n, l[i]? = some n → ∃ g, ea = some ⟨g, 0, none⟩ ∧ w.cell? ⟨g, i * 6, none⟩ = some (int n.ev.pub) ∧ w.cell? ⟨g, i * 6 + 1, none⟩ = some (int n.ev.num) ∧ w.cell? ⟨g, i * 6 + 2, none⟩ = some (int n.ev.f0) ∧ w.cell? ⟨g, i * 6 + 3, none⟩ = some (int n.ev.f1) ∧ w.cell? ⟨g, i * 6 + 4, none⟩ = some (int n.ev.f2) ∧ w.cell? ⟨g, i * 6 + 5, none⟩ = some (int n.stay)

theorem NewsAt.calm {w w' : World} {ea : Option Addr} {l : List News} (h : NewsAt w ea l) (t : Calm w w') : NewsAt w' ea l := by
  intro i n hi
  obtain ⟨g, h0, h1, h2, h3, h4, h5, h6⟩ := h i n hi
  exact ⟨g, h0, t.cell (p := ⟨g, _, none⟩) (fun f => f) h1, t.cell (p := ⟨g, _, none⟩) (fun f => f) h2, t.cell (p := ⟨g, _, none⟩) (fun f => f) h3, t.cell (p := ⟨g, _, none⟩) (fun f => f) h4, t.cell (p := ⟨g, _, none⟩) (fun f => f) h5, t.cell (p := ⟨g, _, none⟩) (fun f => f) h6⟩

set_option maxRecDepth 100000 in
set_option maxHeartbeats 1000000 in
theorem stay_walk (w : World) (hb : Nat) (l : List News) (ea : Option Addr) (ec : Nat) (e : Ev) (hev : w.cell? ⟨hb, 2, none⟩ = some (.slice ea l.length ec)) (hl : l.length ≤ 2199023255552) (hn : NewsAt w ea l) :
    Calls Try.prog 85 #[ptr hb, .agg #[int e.pub, int e.num, int e.f0, int e.f1, int e.f2]] w fun r w' => r = .returned (int (stayOf l e)) ∧ Calm w w' := by
  obtain ⟨W, hW⟩ : ∃ W, w.alloc (.cells #[int e.pub, int e.num, int e.f0, int e.f1, int e.f2] 63) = W := ⟨_, rfl⟩
  have hbx : W.heap[w.heap.size]? = some (.cells #[int e.pub, int e.num, int e.f0, int e.f1, int e.f2] 63) := by rw [← hW]; exact heap_alloc_new w _
  have hcal : Calm w W := by rw [← hW]; exact (Touch.refl _ _).alloc _
  have HEV := hide (hcal.cell (p := ⟨hb, 2, none⟩) (fun f => f) hev)
  have HN := hide (hn.calm hcal)
  have HBX := hide hbx
  have HC := hide hcal
  have HL := hide hl
  clear hbx hcal hev hn hl
  go_enter Try.func85, Try.ntmps85
  go_wp2
  clear hW
  go_loopw [5] (fun i wr => ∃ k : Nat, k ≤ l.length ∧ i = int k ∧ (∀ j m, j < k → l[j]? = some m → m.ev ≠ e) ∧ Calm W wr) (fun i _ => l.length - (intOf i).toNat)
  case atStart => exact ⟨0, by omega, rfl, fun j m hj => by omega, Touch.refl _ _⟩
  case round =>
    obtain ⟨k, hk, rfl, hne, ht⟩ := hrel
    have hev := ht.cell (p := ⟨hb, 2, none⟩) (fun f => f) (unhide HEV)
    have bxc : ∀ j v, [int e.pub, int e.num, int e.f0, int e.f1, int e.f2][j]? = some v → wr.cell? ⟨w.heap.size, j, none⟩ = some v := fun j v hj => ht.cell (p := ⟨w.heap.size, j, none⟩) (fun f => f) ((box_cell (unhide HBX) j).trans (by simpa using hj))
    have x0 := bxc 0 _ rfl
    have x1 := bxc 1 _ rfl
    have x2 := bxc 2 _ rfl
    have x3 := bxc 3 _ rfl
    have x4 := bxc 4 _ rfl
    have hl : (l.length : Int) ≤ 2199023255552 := by have := unhide HL; omega
    have HNE := hide hne
    have HT := hide ht
    clear hne bxc
    by_cases hlt : k < l.length
    · obtain ⟨n, hn⟩ : ∃ n, l[k]? = some n := ⟨_, List.getElem?_eq_getElem hlt⟩
      obtain ⟨g, rfl, c0, c1, c2, c3, c4, c5⟩ := (unhide HN).calm ht k n hn
      have HNN := hide hn
      have hki : (k : Int) < l.length := by omega
      clear hn ht
      have heq := run_equal23b
      by_cases hq : n.ev = e
      · have HQ := hide hq
        have hres := stayOf_get (unhide HNN) hq (unhide HNE)
        have HRES := hide hres
        subst hq
        clear hres
        go_wp2
        go_region
        all_goals go_wp2
        all_goals go_ret
        all_goals
          refine ⟨?_, ((unhide HC).calm (unhide HT)).drew⟩
          rw [unhide HRES]
          rfl
      · have HQ := hide hq
        have hcase : n.ev.pub ≠ e.pub ∨ (n.ev.pub = e.pub ∧ n.ev.num ≠ e.num) ∨ (n.ev.pub = e.pub ∧ n.ev.num = e.num ∧ decide (n.ev.f0 = e.f0 ∧ n.ev.f1 = e.f1 ∧ n.ev.f2 = e.f2) = false) := by
          by_cases h1 : n.ev.pub = e.pub
          · by_cases h2 : n.ev.num = e.num
            · refine Or.inr (Or.inr ⟨h1, h2, decide_eq_false (fun h3 => hq ?_)⟩)
              cases hn : n.ev; cases e
              simp_all
            · exact Or.inr (Or.inl ⟨h1, h2⟩)
          · exact Or.inl h1
        have HREL : Hid (∀ j m, j < k + 1 → l[j]? = some m → m.ev ≠ e) := fun j m hj hm => by
          by_cases ej : j = k
          · subst ej; rw [unhide HNN] at hm; cases hm; exact hq
          · exact unhide HNE j m (by omega) hm
        have HT2 : Hid (Calm W wr.drew) := (unhide HT).drew
        clear hq HT
        rcases hcase with hq | ⟨hq0, hq⟩ | ⟨hq0, hq1, hq⟩
        · have hqb : (n.ev.pub == e.pub) = false := by rw [beq_dec]; exact decide_eq_false hq
          go_wp2
          go_region
          all_goals go_wp2
          all_goals go_roundw
          case rel => exact ⟨k + 1, by omega, by go_num, unhide HREL, unhide HT2⟩
          case measure => simp [intOf]; omega
        · have hqb : (n.ev.num == e.num) = false := by rw [beq_dec]; exact decide_eq_false hq
          rw [hq0] at c0
          go_wp2
          go_region
          all_goals go_wp2
          all_goals go_roundw
          case rel => exact ⟨k + 1, by omega, by go_num, unhide HREL, unhide HT2⟩
          case measure => simp [intOf]; omega
        · rw [hq0] at c0
          rw [hq1] at c1
          go_wp2
          go_region
          all_goals go_wp2
          all_goals go_roundw
          case rel => exact ⟨k + 1, by omega, by go_num, unhide HREL, unhide HT2⟩
          case measure => simp [intOf]; omega
    · have he : k = l.length := by omega
      subst he
      go_wp2
      go_ret
      refine ⟨?_, (unhide HC).calm (unhide HT)⟩
      rw [stayOf_none (fun j m hj => unhide HNE j m (by have := (List.getElem?_eq_some_iff.1 hj).1; exact this) hj)]
      rfl

theorem News.enc_len (n : News) : n.enc.length = 6 := rfl
theorem HX.newsAt {w : World} {hb b : Nat} {κ : Nat → Option Role} {H : HM} (h : HX w hb b κ H) : ∃ ea ec, w.cell? ⟨hb, 2, none⟩ = some (.slice ea H.evs.length ec) ∧ NewsAt w ea H.evs := by
  obtain ⟨v, h1, h2, _⟩ := h.evs
  obtain ⟨a, cap, rfl⟩ := ownsRow_slice h2
  refine ⟨a, cap, h1, fun i n hi => ?_⟩
  obtain ⟨g, cap', e1, hc⟩ := ownsRow_get h2 News.enc_len (by omega) hi
  cases e1
  exact ⟨g, rfl, hc 0 _ rfl, hc 1 _ rfl, hc 2 _ rfl, hc 3 _ rfl, hc 4 _ rfl, hc 5 _ rfl⟩

theorem stayX {w : World} {hb b : Nat} {κ : Nat → Option Role} {H : HM} (h : HX w hb b κ H) (hE : H.evs.length ≤ 2199023255552) (e : Ev) :
    Calls Try.prog 85 #[ptr hb, .agg #[int e.pub, int e.num, int e.f0, int e.f1, int e.f2]] w fun r w' => r = .returned (int (stayOf H.evs e)) ∧ Calm w w' := by
  obtain ⟨ea, ec, h1, h2⟩ := h.newsAt
  exact stay_walk w hb H.evs ea ec e h1 hE h2

/-- Events that were told. -/
def EvsAt (w : World) (ea : Option Addr) (l : List Ev) : Prop := ∀ (i : Nat) n, l[i]? = some n → ∃ g, ea = some ⟨g, 0, none⟩ ∧ w.cell? ⟨g, i * 5, none⟩ = some (int n.pub) ∧ w.cell? ⟨g, i * 5 + 1, none⟩ = some (int n.num) ∧ w.cell? ⟨g, i * 5 + 2, none⟩ = some (int n.f0) ∧ w.cell? ⟨g, i * 5 + 3, none⟩ = some (int n.f1) ∧ w.cell? ⟨g, i * 5 + 4, none⟩ = some (int n.f2)
theorem EvsAt.calm {w w' : World} {ea : Option Addr} {l : List Ev} (h : EvsAt w ea l) (t : Calm w w') : EvsAt w' ea l := by
  intro i n hi
  obtain ⟨g, h0, h1, h2, h3, h4, h5⟩ := h i n hi
  exact ⟨g, h0, t.cell (p := ⟨g, _, none⟩) (fun f => f) h1, t.cell (p := ⟨g, _, none⟩) (fun f => f) h2, t.cell (p := ⟨g, _, none⟩) (fun f => f) h3, t.cell (p := ⟨g, _, none⟩) (fun f => f) h4, t.cell (p := ⟨g, _, none⟩) (fun f => f) h5⟩

set_option maxRecDepth 100000 in
set_option maxHeartbeats 1000000 in
theorem fresh_walk (w : World) (hb q : Nat) (l : List News) (ea : Option Addr) (ec : Nat) (e : Ev) (hev : w.cell? ⟨hb, 2, none⟩ = some (.slice ea l.length ec)) (hl : l.length ≤ 2199023255552) (hn : NewsAt w ea l)
    (hon : w.cell? ⟨hb, q, none⟩ = some (.bool true)) (fl : List Tst) (fa : Option Addr) (fc : Nat) (hfl : w.cell? ⟨hb, q + 1, none⟩ = some (.slice fa fl.length fc)) (hft : TestsAt w fa fl) (hfg : goodFilter fl = true)
    (told : List Ev) (ta : Option Addr) (tc : Nat) (htd : w.cell? ⟨hb, q + 3, none⟩ = some (.slice ta told.length tc)) (htl : told.length ≤ 2199023255552) (hta : EvsAt w ta told)
    (hst : stayOf l e = 0) (hm : meets fl e = true) (hr : ∀ o, o ∈ told → o.pub = e.pub → o.num < e.num) :
    Calls Try.prog 56 #[ptr hb, .pointer (some ⟨hb, q, none⟩), .agg #[int e.pub, int e.num, int e.f0, int e.f1, int e.f2]] w fun r w' => r = .returned (.bool true) ∧ Calm w w' := by
  obtain ⟨W, hW⟩ : ∃ W, w.alloc (.cells #[int e.pub, int e.num, int e.f0, int e.f1, int e.f2] 63) = W := ⟨_, rfl⟩
  have hbx : W.heap[w.heap.size]? = some (.cells #[int e.pub, int e.num, int e.f0, int e.f1, int e.f2] 63) := by rw [← hW]; exact heap_alloc_new w _
  have hcal : Calm w W := by rw [← hW]; exact (Touch.refl _ _).alloc _
  have HEV := hide (hcal.cell (p := ⟨hb, 2, none⟩) (fun f => f) hev)
  have HN := hide (hn.calm hcal)
  have HON := hide (hcal.cell (p := ⟨hb, q, none⟩) (fun f => f) hon)
  have HFL := hide (hcal.cell (p := ⟨hb, q + 1, none⟩) (fun f => f) hfl)
  have HTD := hide (hcal.cell (p := ⟨hb, q + 3, none⟩) (fun f => f) htd)
  have HFT := hide (hft.calm hcal)
  have HTA := hide (hta.calm hcal)
  have HFG := hide hfg
  have HBX := hide hbx
  have HC := hide hcal
  have HL := hide hl
  have HTL := hide htl
  have HST := hide hst
  have HM := hide hm
  have HR := hide hr
  have bx0 : ∀ j v, [int e.pub, int e.num, int e.f0, int e.f1, int e.f2][j]? = some v → W.cell? ⟨w.heap.size, j, none⟩ = some v := fun j v hj => ((box_cell hbx j).trans (by simpa using hj))
  have BX0 := hide bx0
  clear hbx hcal hev hn hl hon hfl htd hft hta hfg htl hst hm hr bx0
  have x0 := unhide BX0 0 _ rfl
  have x1 := unhide BX0 1 _ rfl
  have x2 := unhide BX0 2 _ rfl
  have x3 := unhide BX0 3 _ rfl
  have x4 := unhide BX0 4 _ rfl
  go_enter Try.func56, Try.ntmps56
  go_wp2_with fail
  refine (stay_walk W hb l ea ec e (unhide HEV) (unhide HL) (unhide HN)).mono ?_
  rw [unhide HST]
  rintro r w1 ⟨rfl, ht1⟩
  have bx1 : ∀ j v, [int e.pub, int e.num, int e.f0, int e.f1, int e.f2][j]? = some v → w1.cell? ⟨w.heap.size, j, none⟩ = some v := fun j v hj => ht1.cell (p := ⟨w.heap.size, j, none⟩) (fun f => f) (unhide BX0 j v hj)
  clear x0 x1 x2 x3 x4 hW
  have x2 := bx1 2 _ rfl
  have x3 := bx1 3 _ rfl
  have x4 := bx1 4 _ rfl
  have hfl := ht1.cell (p := ⟨hb, q + 1, none⟩) (fun f => f) (unhide HFL)
  have HT1 := hide ht1
  clear bx1 ht1
  go_wp2_with fail
  go_cut [8] (fun s wx => s = .bool true ∧ Calm W wx)
  case first =>
    go_region_with (go_at_call 19; refine (keepMeets_any fl e fa fc _ (unhide HFG) ((unhide HFT).calm (((unhide HT1)).drew))).mono ?_; rw [unhide HM]; rintro r w2 ⟨rfl, ht2⟩)
    all_goals go_wp2_with fail
    all_goals go_meet
    all_goals exact ⟨rfl, ((unhide HT1).drew).calm ht2⟩
  case rest =>
    obtain ⟨rfl, ht2⟩ := hcut
    have hon := ht2.cell (p := ⟨hb, q, none⟩) (fun f => f) (unhide HON)
    have HT2 := hide ht2
    clear ht2 x2 x3 x4 hfl HT1
    go_wp2_with fail
    go_loopw [9] (fun i wr => ∃ k : Nat, k ≤ told.length ∧ i = int k ∧ Calm W wr) (fun i _ => told.length - (intOf i).toNat)
    case atStart => exact ⟨0, by omega, rfl, unhide HT2⟩
    case round =>
      obtain ⟨k, hk, rfl, ht⟩ := hrel
      have htd := ht.cell (p := ⟨hb, q + 3, none⟩) (fun f => f) (unhide HTD)
      have htl : (told.length : Int) ≤ 2199023255552 := by have := unhide HTL; omega
      have HT := hide ht
      clear hon
      by_cases hlt : k < told.length
      · obtain ⟨n, hn⟩ : ∃ n, told[k]? = some n := ⟨_, List.getElem?_eq_getElem hlt⟩
        obtain ⟨g, rfl, c0, c1, c2, c3, c4⟩ := (unhide HTA).calm ht k n hn
        have hki : (k : Int) < told.length := by omega
        have hrr := unhide HR n (List.mem_of_getElem? hn)
        obtain ⟨W3, hW3⟩ : ∃ W3, wr.alloc (.cells #[int n.pub, int n.num, int n.f0, int n.f1, int n.f2] 63) = W3 := ⟨_, rfl⟩
        have ht3 : Calm W W3 := by rw [← hW3]; exact ht.alloc _
        have hbx3 : W3.heap[wr.heap.size]? = some (.cells #[int n.pub, int n.num, int n.f0, int n.f1, int n.f2] 63) := by rw [← hW3]; exact heap_alloc_new _ _
        have o0 : W3.cell? ⟨wr.heap.size, 0, none⟩ = some (int n.pub) := box_cell hbx3 0
        have o1 : W3.cell? ⟨wr.heap.size, 1, none⟩ = some (int n.num) := box_cell hbx3 1
        have o2 : W3.cell? ⟨wr.heap.size, 2, none⟩ = some (int n.f0) := box_cell hbx3 2
        have o3 : W3.cell? ⟨wr.heap.size, 3, none⟩ = some (int n.f1) := box_cell hbx3 3
        have o4 : W3.cell? ⟨wr.heap.size, 4, none⟩ = some (int n.f2) := box_cell hbx3 4
        have bx3 : ∀ j v, [int e.pub, int e.num, int e.f0, int e.f1, int e.f2][j]? = some v → W3.cell? ⟨w.heap.size, j, none⟩ = some v := fun j v hj => ht3.cell (p := ⟨w.heap.size, j, none⟩) (fun f => f) (unhide BX0 j v hj)
        have x0 := bx3 0 _ rfl
        have x1 := bx3 1 _ rfl
        have x2 := bx3 2 _ rfl
        have x3 := bx3 3 _ rfl
        have x4 := bx3 4 _ rfl
        have HT3 := hide ht3
        clear hn ht bx3 hbx3 ht3
        have heq := run_equal23b
        by_cases hp : n.pub = e.pub
        · have hnum := hrr hp
          have hqb : (n.num == e.num) = false := by rw [beq_dec]; exact decide_eq_false (by omega)
          rw [hp] at o0 c0 hW3
          clear hp hrr
          go_wp2
          go_roundw
          case rel => exact ⟨k + 1, by omega, by go_num, unhide HT3⟩
          case measure => simp [intOf]; omega
        · have hqb : (n.pub == e.pub) = false := by rw [beq_dec]; exact decide_eq_false hp
          clear hrr
          go_wp2
          go_roundw
          case rel => exact ⟨k + 1, by omega, by go_num, unhide HT3⟩
          case measure => simp [intOf]; omega
      · have he : k = told.length := by omega
        subst he
        go_wp2
        go_ret
        exact ⟨rfl, (unhide HC).calm (unhide HT)⟩

theorem ev_ne {a b : Ev} (h : a ≠ b) : a.pub ≠ b.pub ∨ (a.pub = b.pub ∧ a.num ≠ b.num) ∨ (a.pub = b.pub ∧ a.num = b.num ∧ decide (a.f0 = b.f0 ∧ a.f1 = b.f1 ∧ a.f2 = b.f2) = false) := by
  by_cases h1 : a.pub = b.pub
  · by_cases h2 : a.num = b.num
    · refine Or.inr (Or.inr ⟨h1, h2, decide_eq_false (fun h3 => h ?_)⟩)
      cases a; cases b
      simp_all
    · exact Or.inr (Or.inl ⟨h1, h2⟩)
  · exact Or.inl h1
/-- What the house keeps of a subscription, behind a pointer. -/
def TakenAt (w : World) (hb q : Nat) (t : Tk) : Prop := ∃ fa fc ta tc, w.cell? ⟨hb, q, none⟩ = some (.bool t.on) ∧ w.cell? ⟨hb, q + 1, none⟩ = some (.slice fa t.fl.length fc) ∧ TestsAt w fa t.fl ∧ w.cell? ⟨hb, q + 2, none⟩ = some (int t.since) ∧ w.cell? ⟨hb, q + 3, none⟩ = some (.slice ta t.told.length tc) ∧ EvsAt w ta t.told ∧ w.cell? ⟨hb, q + 4, none⟩ = some (int t.lost)
theorem TakenAt.calm {w w' : World} {hb q : Nat} {t : Tk} (h : TakenAt w hb q t) (c : Calm w w') : TakenAt w' hb q t := by
  obtain ⟨fa, fc, ta, tc, h0, h1, h2, h3, h4, h5, h6⟩ := h
  exact ⟨fa, fc, ta, tc, c.cell (p := ⟨hb, _, none⟩) (fun f => f) h0, c.cell (p := ⟨hb, _, none⟩) (fun f => f) h1, h2.calm c, c.cell (p := ⟨hb, _, none⟩) (fun f => f) h3, c.cell (p := ⟨hb, _, none⟩) (fun f => f) h4, h5.calm c, c.cell (p := ⟨hb, _, none⟩) (fun f => f) h6⟩

set_option maxRecDepth 100000 in
set_option maxHeartbeats 2000000 in
theorem complete_walk (w : World) (hb : Nat) (l : List News) (ea : Option Addr) (ec : Nat) (hev : w.cell? ⟨hb, 2, none⟩ = some (.slice ea l.length ec)) (hl : l.length ≤ 2199023255552) (hn : NewsAt w ea l)
    (T : Nat → Tk) (hT : ∀ s, s < 8 → TakenAt w hb (15 + s * 5) (T s)) (hlost : ∀ s, s < 8 → (T s).lost = 0)
    (hon : ∀ s, s < 8 → (T s).on = true → (T s).since = 0 ∧ goodFilter (T s).fl = true ∧ (T s).told.length ≤ 2199023255552 ∧ ∀ n, n ∈ l → meets (T s).fl n.ev = true → n.ev ∈ (T s).told) :
    Calls Try.prog 23 #[ptr hb] w fun r w' => r = .returned (.bool true) ∧ Calm w w' := by
  have HEV := hide hev
  have HL := hide hl
  have HN := hide hn
  have HT := hide hT
  have HLO := hide hlost
  have HON := hide hon
  clear hev hl hn hT hlost hon
  go_enter Try.func23, Try.ntmps23
  go_wp2
  go_loopw [3] (fun i wr => ∃ s : Nat, s ≤ 8 ∧ i = int s ∧ Calm w wr) (fun i _ => 8 - (intOf i).toNat)
  case atStart => exact ⟨0, by omega, rfl, Touch.refl _ _⟩
  case round =>
    obtain ⟨s, hs, rfl, ht⟩ := hrel
    obtain ⟨wa, hwa⟩ : ∃ wa, wa = wr := ⟨_, rfl⟩
    subst hwa
    by_cases hs8 : s < 8
    · obtain ⟨fa, fc, ta, tc, h0, h1, h2, h3, h4, h5, h6⟩ := (unhide HT s hs8).calm ht
      have hlo := unhide HLO s hs8
      have hon := unhide HON s hs8
      obtain ⟨t, htk⟩ : ∃ t, t = T s := ⟨_, rfl⟩
      rw [← htk] at h0 h1 h2 h3 h4 h5 h6 hlo hon
      obtain ⟨on, fl, since, told, lost⟩ := t
      simp only at h0 h1 h2 h3 h4 h5 h6 hon hlo
      have hl0 : (0 : Int) ≤ lost := by omega
      have hsi : (s : Int) < 8 := by omega
      obtain ⟨W, hW⟩ : ∃ W, wa.alloc (.cells #[.bool on, .slice fa fl.length fc, int since, .slice ta told.length tc, int lost] 34) = W := ⟨_, rfl⟩
      have hbx : W.heap[wa.heap.size]? = some (.cells #[.bool on, .slice fa fl.length fc, int since, .slice ta told.length tc, int lost] 34) := by rw [← hW]; exact heap_alloc_new _ _
      have hcal : Calm wa W := by rw [← hW]; exact (Touch.refl _ _).alloc _
      have hfz := fun o => box_frozen hbx o
      have HWW := hide (ht.calm hcal)
      have HFT := hide (h2.calm hcal)
      have HTA := hide (h5.calm hcal)
      have b0 : W.cell? ⟨wa.heap.size, 0, none⟩ = some (.bool on) := box_cell hbx 0
      have b1 : W.cell? ⟨wa.heap.size, 1, none⟩ = some (.slice fa fl.length fc) := box_cell hbx 1
      have b2 : W.cell? ⟨wa.heap.size, 2, none⟩ = some (int since) := box_cell hbx 2
      have b3 : W.cell? ⟨wa.heap.size, 3, none⟩ = some (.slice ta told.length tc) := box_cell hbx 3
      have b4 : W.cell? ⟨wa.heap.size, 4, none⟩ = some (int lost) := box_cell hbx 4
      have HONN := hide hon
      clear htk hlo hon ht hbx hcal h2 h5
      cases on with
      | false =>
        go_wp2
        go_loopw [5] (fun m wq => m = int 0 ∧ wq = W) (fun _ _ => 0)
        case atStart => exact ⟨rfl, rfl⟩
        case round =>
          obtain ⟨rfl, hrel⟩ := hrel
          have hrel := hrel.symm
          subst hrel
          go_wp2
          go_roundw
          case rel => exact ⟨s + 1, by omega, by go_num, unhide HWW⟩
          case measure => simp [intOf]; omega
      | true =>
        obtain ⟨hsin, hgd, htl, hall⟩ := unhide HONN rfl
        subst hsin
        have HGD := hide hgd
        have HTL := hide htl
        have HALL := hide hall
        have HB0 := hide b0
        have HB1 := hide b1
        have HB3 := hide b3
        have HB4 := hide b4
        have hsz : wa.heap.size < W.heap.size := block_lt_of_cell b0
        clear hgd htl hall HONN
        go_wp2
        clear b0 b1 b3 b4 h0 h1 h3 h4 h6
        go_loopw [5, 6] (fun m i wq => m = int 0 ∧ ∃ k : Nat, k ≤ l.length ∧ i = int k ∧ Calm W wq) (fun _ i _ => l.length - (intOf i).toNat)
        case atStart => exact ⟨rfl, 0, by omega, rfl, Touch.refl _ _⟩
        case round =>
          obtain ⟨rfl, k, hk, rfl, htq⟩ := hrel
          obtain ⟨wq, hwq⟩ : ∃ wq, wq = wr := ⟨_, rfl⟩
          subst hwq
          have hev := ((unhide HWW).calm htq).cell (p := ⟨hb, 2, none⟩) (fun f => f) (unhide HEV)
          have b0 := htq.cell (p := ⟨wa.heap.size, 0, none⟩) (fun f => f) (unhide HB0)
          have b1 := htq.cell (p := ⟨wa.heap.size, 1, none⟩) (fun f => f) (unhide HB1)
          have b3 := htq.cell (p := ⟨wa.heap.size, 3, none⟩) (fun f => f) (unhide HB3)
          have b4 := htq.cell (p := ⟨wa.heap.size, 4, none⟩) (fun f => f) (unhide HB4)
          have hll : (l.length : Int) ≤ 2199023255552 := by have := unhide HL; omega
          have HTQ := hide htq
          by_cases hlt : k < l.length
          · obtain ⟨n, hn⟩ : ∃ n, l[k]? = some n := ⟨_, List.getElem?_eq_getElem hlt⟩
            obtain ⟨g, rfl, c0, c1, c2, c3, c4, c5⟩ := (unhide HN).calm ((unhide HWW).calm htq) k n hn
            have hki : (k : Int) < l.length := by omega
            have hall := unhide HALL n (List.mem_of_getElem? hn)
            obtain ⟨W3, hW3⟩ : ∃ W3, wq.alloc (.cells #[int n.ev.pub, int n.ev.num, int n.ev.f0, int n.ev.f1, int n.ev.f2] 63) = W3 := ⟨_, rfl⟩
            have ht3 : Calm W W3 := by rw [← hW3]; exact htq.alloc _
            have hbx3 : W3.heap[wq.heap.size]? = some (.cells #[int n.ev.pub, int n.ev.num, int n.ev.f0, int n.ev.f1, int n.ev.f2] 63) := by rw [← hW3]; exact heap_alloc_new _ _
            have o0 : W3.cell? ⟨wq.heap.size, 0, none⟩ = some (int n.ev.pub) := box_cell hbx3 0
            have o1 : W3.cell? ⟨wq.heap.size, 1, none⟩ = some (int n.ev.num) := box_cell hbx3 1
            have o2 : W3.cell? ⟨wq.heap.size, 2, none⟩ = some (int n.ev.f0) := box_cell hbx3 2
            have o3 : W3.cell? ⟨wq.heap.size, 3, none⟩ = some (int n.ev.f1) := box_cell hbx3 3
            have o4 : W3.cell? ⟨wq.heap.size, 4, none⟩ = some (int n.ev.f2) := box_cell hbx3 4
            have hfz3 := fun o => box_frozen hbx3 o
            have b1' := ht3.cell (p := ⟨wa.heap.size, 1, none⟩) (fun f => f) (unhide HB1)
            have b3' := ht3.cell (p := ⟨wa.heap.size, 3, none⟩) (fun f => f) (unhide HB3)
            have HT3 := hide ht3
            have HO : Hid (∀ j v, [int n.ev.pub, int n.ev.num, int n.ev.f0, int n.ev.f1, int n.ev.f2][j]? = some v → W3.cell? ⟨wq.heap.size, j, none⟩ = some v) := fun j v hj => ((box_cell hbx3 j).trans (by simpa using hj))
            have HALLN := hide hall
            have HB3' := hide b3'
            clear hn htq hbx3 ht3 hall
            go_wp2_with fail
            refine (keepMeets_any fl n.ev fa fc _ (unhide HGD) ((unhide HFT).calm (unhide HT3))).mono ?_
            rintro r w4 ⟨rfl, ht4⟩
            have HT4 := hide ht4
            have htl4 : (told.length : Int) ≤ 2199023255552 := by have := unhide HTL; omega
            clear o0 o1 o2 o3 o4 b0 b1 b1' b3 b3' b4 c0 c1 c2 c3 c4 c5 hW3 hfz3 ht4 hev
            go_wp2
            go_loopw [9, 10] (fun bt i wr => ∃ (j : Nat) (x : Bool), j ≤ told.length ∧ i = int j ∧ bt = .bool x ∧ (x = true ∨ ∀ i o, i < j → told[i]? = some o → o ≠ n.ev) ∧ Calm w4 wr) (fun _ i _ => told.length - (intOf i).toNat)
            case atStart => exact ⟨0, false, by omega, rfl, rfl, Or.inr (fun i o hi => by omega), Touch.refl _ _⟩
            case round =>
              obtain ⟨j, x, hj, rfl, rfl, hx, ht5⟩ := hrel
              have ht35 := (unhide HT4).calm ht5
              have b3 := ht35.cell (p := ⟨wa.heap.size, 3, none⟩) (fun f => f) (unhide HB3')
              have hox := fun j v hj => ht35.cell (p := ⟨wq.heap.size, j, none⟩) (fun f => f) (unhide HO j v hj)
              have o0 := hox 0 _ rfl
              have o1 := hox 1 _ rfl
              have o2 := hox 2 _ rfl
              have o3 := hox 3 _ rfl
              have o4 := hox 4 _ rfl
              have HX := hide hx
              have HT5 := hide ht5
              have heq := run_equal23b
              clear hx hox
              by_cases hlj : j < told.length
              · obtain ⟨o, ho⟩ : ∃ o, told[j]? = some o := ⟨_, List.getElem?_eq_getElem hlj⟩
                obtain ⟨g5, rfl, c0, c1, c2, c3, c4⟩ := (unhide HTA).calm ((unhide HT3).calm ht35) j o ho
                have hji : (j : Int) < told.length := by omega
                have HOO := hide ho
                clear ho ht5 ht35
                cases x with
                | true =>
                  go_wp2
                  go_region
                  all_goals go_wp2
                  all_goals go_roundw
                  case rel => exact ⟨j + 1, true, by omega, by go_num, rfl, Or.inl rfl, (unhide HT5).drew⟩
                  case measure => simp [intOf]; omega
                | false =>
                  have hxx : ∀ i o, i < j → told[i]? = some o → o ≠ n.ev := (unhide HX).resolve_left (by simp)
                  have HXX := hide hxx
                  clear hxx HX
                  by_cases hq : o = n.ev
                  · subst hq
                    go_wp2
                    go_region
                    all_goals go_wp2
                    all_goals go_roundw
                    case rel => exact ⟨j + 1, true, by omega, by go_num, rfl, Or.inl rfl, (unhide HT5).drew⟩
                    case measure => simp [intOf]; omega
                  · have HREL : Hid (∀ i o', i < j + 1 → told[i]? = some o' → o' ≠ n.ev) := fun i o' hi hm => by
                      by_cases ei : i = j
                      · subst ei; rw [unhide HOO] at hm; cases hm; exact hq
                      · exact unhide HXX i o' (by omega) hm
                    have hcase : o.pub ≠ n.ev.pub ∨ (o.pub = n.ev.pub ∧ o.num ≠ n.ev.num) ∨ (o.pub = n.ev.pub ∧ o.num = n.ev.num ∧ decide (o.f0 = n.ev.f0 ∧ o.f1 = n.ev.f1 ∧ o.f2 = n.ev.f2) = false) := ev_ne hq
                    clear hq
                    rcases hcase with hq | ⟨hq0, hq⟩ | ⟨hq0, hq1, hq⟩
                    · have hqb : (o.pub == n.ev.pub) = false := by rw [beq_dec]; exact decide_eq_false hq
                      go_wp2
                      go_region
                      all_goals go_wp2
                      all_goals go_roundw
                      case rel => exact ⟨j + 1, false, by omega, by go_num, rfl, Or.inr (unhide HREL), (unhide HT5).drew⟩
                      case measure => simp [intOf]; omega
                    · have hqb : (o.num == n.ev.num) = false := by rw [beq_dec]; exact decide_eq_false hq
                      rw [hq0] at c0
                      go_wp2
                      go_region
                      all_goals go_wp2
                      all_goals go_roundw
                      case rel => exact ⟨j + 1, false, by omega, by go_num, rfl, Or.inr (unhide HREL), (unhide HT5).drew⟩
                      case measure => simp [intOf]; omega
                    · rw [hq0] at c0
                      rw [hq1] at c1
                      go_wp2
                      go_region
                      all_goals go_wp2
                      all_goals go_roundw
                      case rel => exact ⟨j + 1, false, by omega, by go_num, rfl, Or.inr (unhide HREL), (unhide HT5).drew⟩
                      case measure => simp [intOf]; omega
              · have he : j = told.length := by omega
                subst he
                have hbool : meets fl n.ev = false ∨ x = true := by
                  cases hmm : meets fl n.ev with
                  | false => exact Or.inl rfl
                  | true =>
                    right
                    rcases unhide HX with h | h
                    · exact h
                    · exfalso
                      obtain ⟨i, hi⟩ := List.getElem?_of_mem (unhide HALLN hmm)
                      exact h i _ (List.getElem?_eq_some_iff.1 hi).1 hi rfl
                have HTE := hide ((unhide HT3).calm ht35)
                clear ht5 ht35
                rcases hbool with hb' | hb'
                · rw [hb']
                  go_wp2
                  go_roundw
                  case rel => exact ⟨rfl, k + 1, by omega, by go_num, unhide HTE⟩
                  case measure => simp [intOf]; omega
                · subst hb'
                  cases hmm : meets fl n.ev
                  all_goals
                    go_wp2
                    go_roundw
                  case rel => exact ⟨rfl, k + 1, by omega, by go_num, unhide HTE⟩
                  case measure => simp [intOf]; omega
                  case rel => exact ⟨rfl, k + 1, by omega, by go_num, unhide HTE⟩
                  case measure => simp [intOf]; omega
          · have he : k = l.length := by omega
            subst he
            clear htq
            go_wp2
            go_roundw
            case rel => exact ⟨s + 1, by omega, by go_num, (unhide HWW).calm (unhide HTQ)⟩
            case measure => simp [intOf]; omega
    · have hs9 : s = 8 := by omega
      subst hs9
      go_wp2
      go_ret
      exact ⟨rfl, ht⟩

theorem Ev.enc_len (e : Ev) : e.enc.length = 5 := rfl
theorem TkX.takenAt {w : World} {hb : Nat} {κ : Nat → Option Role} {s : Nat} {t : Tk} (h : TkX w hb κ s t) : TakenAt w hb (15 + s * 5) t := by
  obtain ⟨a, cap, h1, h2⟩ := h.fl
  obtain ⟨v, h3, h4, _⟩ := h.told
  obtain ⟨ta, tc, rfl⟩ := ownsRow_slice h4
  refine ⟨a, cap, ta, tc, h.on, h1, ?_, h.since, h3, fun i n hi => ?_, h.lost⟩
  · rcases h2 with h2 | ⟨fb, o, e1, _, e3⟩
    · exact Or.inl h2
    · exact Or.inr ⟨fb, o, e1, e3⟩
  · obtain ⟨g, cap', e1, hc⟩ := ownsRow_get h4 Ev.enc_len (by omega) hi
    cases e1
    exact ⟨g, rfl, hc 0 _ rfl, hc 1 _ rfl, hc 2 _ rfl, hc 3 _ rfl, hc 4 _ rfl⟩

theorem completeX {w : World} {hb b : Nat} {κ : Nat → Option Role} {H : HM} (h : HX w hb b κ H) (hE : H.evs.length ≤ 2199023255552) (hlost : ∀ s, s < 8 → (H.subs s).lost = 0)
    (hon : ∀ s, s < 8 → (H.subs s).on = true → (H.subs s).since = 0 ∧ goodFilter (H.subs s).fl = true ∧ (H.subs s).told.length ≤ 2199023255552 ∧ ∀ n, n ∈ H.evs → meets (H.subs s).fl n.ev = true → n.ev ∈ (H.subs s).told) :
    Calls Try.prog 23 #[ptr hb] w fun r w' => r = .returned (.bool true) ∧ Calm w w' := by
  obtain ⟨ea, ec, h1, h2⟩ := h.newsAt
  exact complete_walk w hb H.evs ea ec h1 hE h2 H.subs (fun s hs => (h.subs s hs).takenAt) hlost hon

theorem freshX {w : World} {hb b : Nat} {κ : Nat → Option Role} {H : HM} (h : HX w hb b κ H) (hE : H.evs.length ≤ 2199023255552) {s : Nat} (hs : s < 8) (e : Ev) (hon : (H.subs s).on = true) (hfg : goodFilter (H.subs s).fl = true)
    (htl : (H.subs s).told.length ≤ 2199023255552) (hst : stayOf H.evs e = 0) (hm : meets (H.subs s).fl e = true) (hr : ∀ o, o ∈ (H.subs s).told → o.pub = e.pub → o.num < e.num) :
    Calls Try.prog 56 #[ptr hb, .pointer (some ⟨hb, 15 + s * 5, none⟩), .agg #[int e.pub, int e.num, int e.f0, int e.f1, int e.f2]] w fun r w' => r = .returned (.bool true) ∧ Calm w w' := by
  obtain ⟨ea, ec, h1, h2⟩ := h.newsAt
  obtain ⟨fa, fc, ta, tc, g0, g1, g2, _, g4, g5, _⟩ := (h.subs s hs).takenAt
  rw [hon] at g0
  exact fresh_walk w hb _ H.evs ea ec e h1 hE h2 g0 _ fa fc g1 g2 hfg _ ta tc g4 htl g5 hst hm hr

/-- A step of the house alone. -/
structure Bk (κ κ' : Nat → Option Role) (w w' : World) : Prop where
  touch : Touch (fun k => κ k ≠ none) w w'
  role : ∀ k, k < w.heap.size → κ' k = κ k

theorem Bk.refl (κ : Nat → Option Role) (w : World) : Bk κ κ w w := ⟨Touch.refl _ _, fun _ _ => rfl⟩
theorem Bk.calm {κ : Nat → Option Role} {w w' : World} (t : Calm w w') : Bk κ κ w w' := ⟨t.mono (fun _ _ f => f.elim), fun _ _ => rfl⟩
theorem Bk.trans {κ κ' κ'' : Nat → Option Role} {w w' w'' : World} (h : Bk κ κ' w w') (k : Bk κ' κ'' w' w'') : Bk κ κ'' w w'' := by
  refine ⟨⟨k.touch.os.trans h.touch.os, k.touch.tape.trans h.touch.tape, k.touch.output.trans h.touch.output, Nat.le_trans h.touch.size k.touch.size, fun i hi hs => ?_⟩, fun i hi => (k.role i (Nat.lt_of_lt_of_le hi h.touch.size)).trans (h.role i hi)⟩
  exact (k.touch.block i (Nat.lt_of_lt_of_le hi h.touch.size) (by rw [h.role i hi]; exact hs)).trans (h.touch.block i hi hs)
theorem Bk.ow {κ κ' ρ : Nat → Option Role} {w w' : World} (h : Bk κ κ' w w') : Ow κ ρ κ' ρ w w' := ⟨h.touch.mono (fun _ _ x => Or.inl x), fun k hk => ⟨h.role k hk, Iff.rfl⟩⟩
theorem Bk.cell {κ κ' : Nat → Option Role} {w w' : World} (h : Bk κ κ' w w') {g o : Nat} {v : Value} (h1 : κ g = none) (hc : w.cell? ⟨g, o, none⟩ = some v) : w'.cell? ⟨g, o, none⟩ = some v :=
  h.touch.cell (p := ⟨g, o, none⟩) (fun x => x h1) hc
theorem HN.books {w w' : World} {hb b : Nat} {κ κ' ρ : Nat → Option Role} {σ : Net} {H H' : HM} (h : HN w hb b κ ρ σ H) (t : Bk κ κ' w w') (x : HX w' hb b κ' H') : HN w' hb b κ' ρ σ H' := by
  refine ⟨h.x.keep t.touch (fun k hk hr => hk (h.apart k hr)), x, fun k hk => ?_⟩
  by_cases hl : k < w.heap.size
  · rw [t.role k hl] at hk; exact h.apart k hk
  · cases hq : ρ k with
    | none => rfl
    | some r => exact absurd (h.x.lt k (by rw [hq]; simp)) hl

/-- What an append to one of the house's rows leaves. -/
structure Grown (w W : World) (hb q : Nat) (κ κ' : Nat → Option Role) (r : Role) : Prop where
  keep : ∀ {k : Nat} {r' : Role}, κ k = some r' → ¬ (r' = rHouse ∨ r' = r) → W.heap[k]? = w.heap[k]? ∧ κ' k = κ k
  house : κ' hb = κ hb
  lt : ∀ k, κ' k ≠ none → k < W.heap.size
  typ : ∃ cs, W.heap[hb]? = some (.cells cs 37)
  cell : ∀ o v, ¬ (o = q) → w.cell? ⟨hb, o, none⟩ = some v → W.cell? ⟨hb, o, none⟩ = some v
  bk : Bk κ κ' w W

theorem HX.grown {w w2 : World} {hb b : Nat} {κ : Nat → Option Role} {H : HM} (h : HX w hb b κ H) {r : Role} (hr : r ≠ rHouse) {vl : Value} {g cap n e size q : Nat} {cells : List Value} (hown : ∀ g, vl.ownBlock = some g → κ g = some r) (hg : Grew 0 e size vl n cells w g cap w2) {u : Value} (hq : w.cell? ⟨hb, q, none⟩ = some u) :
    Grown w (w2.setCell ⟨hb, q, none⟩ (.slice (some ⟨g, 0, none⟩) n cap)) hb q κ (roleAt κ g r) r ∧ RowAt (w2.setCell ⟨hb, q, none⟩ (.slice (some ⟨g, 0, none⟩) n cap)) (roleAt κ g r) r e size n cells (.slice (some ⟨g, 0, none⟩) n cap) ∧ (w2.setCell ⟨hb, q, none⟩ (.slice (some ⟨g, 0, none⟩) n cap)).cell? ⟨hb, q, none⟩ = some (.slice (some ⟨g, 0, none⟩) n cap) := by
  have hbl : hb < w.heap.size := h.lt hb (by rw [h.house]; simp)
  obtain ⟨gown, gt, glt⟩ := hg
  have hgr : κ g = some r ∨ w.heap.size ≤ g := by
    rcases gt with ⟨hv, _⟩ | ⟨hv, _⟩
    · exact Or.inl (hown g hv)
    · right; omega
  have hgb : hb ≠ g := by
    rcases hgr with h1 | h1
    · intro e1; subst e1; rw [h.house] at h1; cases h1; exact hr rfl
    · omega
  have t2 : Touch (fun i => i = g) w w2 := by
    rcases gt with ⟨_, t⟩ | ⟨_, t⟩
    · exact t
    · exact t.mono (fun _ _ f => f.elim)
  obtain ⟨W, hW⟩ : ∃ W, W = w2.setCell ⟨hb, q, none⟩ (.slice (some ⟨g, 0, none⟩) n cap) := ⟨_, rfl⟩
  rw [← hW]
  have hWk : ∀ i, i ≠ hb → W.heap[i]? = w2.heap[i]? := fun i hi => by rw [hW]; exact heap_setCell_other w2 _ hi
  have hWs : W.heap.size = w2.heap.size := by rw [hW]; simp [World.setCell]
  have hb2 : w2.heap[hb]? = w.heap[hb]? := t2.block hb hbl hgb
  have hrole : ∀ i, i < w.heap.size → roleAt κ g r i = κ i := fun i hi => by
    unfold roleAt; split
    · rename_i e1; subst e1
      rcases hgr with h1 | h1
      · exact h1.symm
      · omega
    · rfl
  have hkeep : ∀ i, i < w.heap.size → i ≠ hb → i ≠ g → W.heap[i]? = w.heap[i]? := fun i hi h1 h2 => (hWk i h1).trans (t2.block i hi h2)
  have hrg : roleAt κ g r g = some r := by unfold roleAt; rw [if_pos rfl]
  refine ⟨⟨fun {k r'} hk hn => ?_, hrole hb hbl, fun k hk => ?_, ?_, fun o v ho hv => ?_, ⟨⟨?_, ?_, ?_, ?_, fun i hi hs => ?_⟩, hrole⟩⟩, ⟨?_, fun g' hg' => ?_⟩, ?_⟩
  · have hkl := h.lt k (by rw [hk]; simp)
    refine ⟨hkeep k hkl (fun e1 => ?_) (fun e1 => ?_), hrole k hkl⟩
    · subst e1; rw [h.house] at hk; cases hk; exact hn (Or.inl rfl)
    · subst e1
      rcases hgr with h1 | h1
      · rw [h1] at hk; cases hk; exact hn (Or.inr rfl)
      · omega
  · rw [hWs]
    unfold roleAt at hk
    split at hk
    · rename_i e1; rw [e1]; exact glt
    · exact Nat.lt_of_lt_of_le (h.lt k hk) t2.size
  · rw [hW]
    obtain ⟨cs, hcs⟩ := h.typ
    exact typ_setCell ⟨cs, hb2.trans hcs⟩ _ _
  · rw [hW]; exact cell_setCell_ne w2 ho (cell_of_heap hb2 hv)
  · rw [hW]; exact t2.os
  · rw [hW]; exact t2.tape
  · rw [hW]; exact t2.output
  · rw [hWs]; exact t2.size
  · refine hkeep i hi (fun e1 => hs (by rw [e1, h.house]; simp)) (fun e1 => hs ?_)
    subst e1
    rcases hgr with h1 | h1
    · rw [h1]; simp
    · omega
  · exact ownsRow_keep gown (S := fun i => i = hb) (by rw [hW]; exact (Touch.refl (fun i => i = hb) w2).setCell (p := ⟨hb, q, none⟩) (fun _ => rfl) _) (fun g' hg' e1 => by
      simp [Value.ownBlock] at hg'
      exact hgb (by rw [← e1, hg']))
  · simp [Value.ownBlock] at hg'
    rw [← hg']; exact hrg
  · rw [hW]; exact World.cell?_setCell_same w2 _ _ (cell_of_heap hb2 hq)

/-- An event more was told for a subscription. -/
theorem HX.toldMore {w w2 : World} {hb b : Nat} {κ : Nat → Option Role} {H : HM} (h : HX w hb b κ H) {s : Nat} (hs : s < 8) (e : Ev) {vl : Value} {g cap : Nat} (hv : w.cell? ⟨hb, 15 + s * 5 + 3, none⟩ = some vl)
    (hg : Grew 0 63 5 vl ((H.subs s).told.length + 1) ((H.subs s).told.flatMap Ev.enc ++ e.enc) w g cap w2) :
    HX (w2.setCell ⟨hb, 15 + s * 5 + 3, none⟩ (.slice (some ⟨g, 0, none⟩) ((H.subs s).told.length + 1) cap)) hb b (roleAt κ g (rTold s)) { H with subs := put H.subs s { H.subs s with told := (H.subs s).told ++ [e] } } ∧
      Bk κ (roleAt κ g (rTold s)) w (w2.setCell ⟨hb, 15 + s * 5 + 3, none⟩ (.slice (some ⟨g, 0, none⟩) ((H.subs s).told.length + 1) cap)) := by
  have T := h.subs s hs
  obtain ⟨v, h3, h4⟩ := T.told
  rw [hv] at h3; cases h3
  obtain ⟨G, hrow, hnew⟩ := h.grown (r := rTold s) (by simp) h4.2 hg hv
  obtain ⟨W, hW⟩ : ∃ W, W = w2.setCell ⟨hb, 15 + s * 5 + 3, none⟩ (.slice (some ⟨g, 0, none⟩) ((H.subs s).told.length + 1) cap) := ⟨_, rfl⟩
  rw [← hW] at G hrow hnew ⊢
  refine ⟨h.step (S := fun r' => r' = rHouse ∨ r' = rTold s) G.keep G.house G.lt (fun o => o = 15 + s * 5 + 3) G.typ (fun o v ho => G.cell o v ho) (by omega) (by omega) rfl
    (Or.inl ⟨rfl, by omega, by simp⟩) (fun i hi => Or.inl ⟨rfl, by omega⟩) (fun t ht => ?_), G.bk⟩
  by_cases e1 : t = s
  · subst e1
    right
    simp only [put_same]
    obtain ⟨a, cap', h1, h2⟩ := T.fl
    refine ⟨G.cell _ _ (by omega) T.on, ⟨a, cap', G.cell _ _ (by omega) h1, ?_⟩, G.cell _ _ (by omega) T.since, ⟨_, hnew, ?_⟩, G.cell _ _ (by omega) T.lost⟩
    · rcases h2 with h2 | ⟨fb, o, e1, e2, e3⟩
      · exact Or.inl h2
      · have := G.keep e2 (by simp)
        exact Or.inr ⟨fb, o, e1, this.2.trans e2, fun j v hj => cell_of_heap this.1 (e3 j v hj)⟩
    · simp only [List.length_append, List.length_singleton, List.flatMap_append, List.flatMap_singleton]
      exact hrow
  · left
    exact ⟨put_other _ _ e1, fun o _ _ => by omega, by simp [e1], by simp⟩

/-- An event more was published. -/
theorem HX.evsMore {w w2 : World} {hb b : Nat} {κ : Nat → Option Role} {H : HM} (h : HX w hb b κ H) (e : News) {vl : Value} {g cap : Nat} (hv : w.cell? ⟨hb, 2, none⟩ = some vl)
    (hg : Grew 0 132 6 vl (H.evs.length + 1) (H.evs.flatMap News.enc ++ e.enc) w g cap w2) :
    HX (w2.setCell ⟨hb, 2, none⟩ (.slice (some ⟨g, 0, none⟩) (H.evs.length + 1) cap)) hb b (roleAt κ g rEvs) { H with evs := H.evs ++ [e] } ∧
      Bk κ (roleAt κ g rEvs) w (w2.setCell ⟨hb, 2, none⟩ (.slice (some ⟨g, 0, none⟩) (H.evs.length + 1) cap)) := by
  obtain ⟨v, h3, h4⟩ := h.evs
  rw [hv] at h3; cases h3
  obtain ⟨G, hrow, hnew⟩ := h.grown (r := rEvs) (by simp) h4.2 hg hv
  obtain ⟨W, hW⟩ : ∃ W, W = w2.setCell ⟨hb, 2, none⟩ (.slice (some ⟨g, 0, none⟩) (H.evs.length + 1) cap) := ⟨_, rfl⟩
  rw [← hW] at G hrow hnew ⊢
  refine ⟨h.step (S := fun r' => r' = rHouse ∨ r' = rEvs) G.keep G.house G.lt (fun o => o = 2) G.typ (fun o v ho => G.cell o v ho) (by omega) (by omega) rfl
    (Or.inr ⟨_, hnew, ?_⟩) (fun i hi => Or.inl ⟨rfl, by omega⟩) (fun t ht => Or.inl ⟨rfl, fun o _ _ => by omega, by simp, by simp⟩), G.bk⟩
  simp only [List.length_append, List.length_singleton, List.flatMap_append, List.flatMap_singleton]
  exact hrow

/-- A number of the house. -/
theorem HX.setNum {w : World} {hb b : Nat} {κ : Nat → Option Role} {H : HM} (h : HX w hb b κ H) {i : Nat} (hi : i < 12) (z : Int) :
    HX (w.setCell ⟨hb, 3 + i, none⟩ (int z)) hb b κ { H with num := put H.num i z } ∧ Bk κ κ w (w.setCell ⟨hb, 3 + i, none⟩ (int z)) := by
  have hne : ∀ k r, κ k = some r → r ≠ rHouse → k ≠ hb := fun k r hk hr e => by subst e; rw [h.house] at hk; cases hk; exact hr rfl
  refine ⟨h.step (S := fun r => r = rHouse) (fun {k r} hk hr => ⟨heap_setCell_other _ _ (hne k r hk hr), rfl⟩) rfl (fun k hk => by simpa [World.setCell] using h.lt k hk) (fun o => o = 3 + i) (typ_setCell h.typ _ _) (fun o v ho hv => cell_setCell_ne w ho hv) (by omega) (by omega) rfl
    (Or.inl ⟨rfl, by omega, by simp⟩) (fun j hj => ?_) (fun t ht => Or.inl ⟨rfl, fun o _ _ => by omega, by simp, by simp⟩), ⟨(Touch.refl _ _).setCell (p := ⟨hb, 3 + i, none⟩) (fun _ => by rw [h.house]; simp) _, fun _ _ => rfl⟩⟩
  by_cases e : j = i
  · subst e
    right
    simp only [put_same]
    exact World.cell?_setCell_same w _ _ (h.num j hj)
  · left
    exact ⟨put_other _ _ e, by omega⟩

theorem pending_many {σ : Net} {l : Lnk} {j : Nat} (h : σ.pending[j]? = some l) : 0 < l.many := by
  have h := List.mem_of_getElem? h
  unfold Net.pending at h
  split at h
  · cases h
  · simp only [List.mem_flatMap, List.mem_filterMap] at h
    obtain ⟨x, _, y, _, h⟩ := h
    split at h
    · cases h
    · rename_i hne
      cases h
      exact List.length_pos_iff.2 hne

set_option maxRecDepth 100000 in
set_option maxHeartbeats 1000000 in
theorem deliverH {I : Net → Prop} {m : Nat} (R : Runs I m) {w : World} {hb b : Nat} {κ ρ : Nat → Option Role} {σ : Net} {H : HM} (h : HN w hb b κ ρ σ H) (i : I σ) {a : Int} (ha : Fits a) :
    Calls Try.prog 55 #[ptr hb, int a] w fun e w' => e = .returned (.bool true) ∧ ∃ ρ' σ', HN w' hb b κ ρ' σ' H ∧ I σ' ∧ Ow κ ρ κ ρ' w w' := by
  have F := R.fine σ i
  have ho := R.opn σ i
  have hnet := h.h.net
  have RR := hide R
  have HN1 := hide h
  have HI1 := hide i
  have HA := hide ha
  have FF := hide F
  have HOP := hide ho
  clear R h i ha F ho
  go_enter Try.func55, Try.ntmps55
  go_wp2_with fail
  refine (pendingX (unhide HN1).x (unhide FF).len).mono ?_
  rintro e w1 ⟨v, rfl, hL, ht1⟩
  obtain ⟨pa, pc, rfl, hcells⟩ := links_at hL
  have hpl := pending_len (unhide HOP)
  have HC1 := hide hcells
  have HT1 := hide ht1
  have hnet1 := ht1.cell (p := ⟨hb, 0, none⟩) (fun f => f) hnet
  have hlenI : (σ.pending.length : Int) ≤ 36 := by omega
  clear hL hcells ht1 hnet
  by_cases hnil : σ.pending.length = 0
  · rw [hnil]
    clear hpl hlenI HC1
    go_wp2
    go_ret
    exact ⟨rfl, ρ, σ, (unhide HN1).calm (unhide HT1), unhide HI1, Ow.calm (unhide HT1)⟩
  · have hpos : (0 : Int) < σ.pending.length := by omega
    have hpb : ((σ.pending.length : Int) == 0) = false := by rw [beq_dec]; exact decide_eq_false (by omega)
    have hpk := fun w => pick_any a σ.pending.length w (unhide HA) (by omega) (by omega)
    have hpn := pickN_lt a σ.pending.length (by omega)
    obtain ⟨j, hj⟩ : ∃ j, j = pickN a σ.pending.length := ⟨_, rfl⟩
    rw [← hj] at hpk hpn
    have HPK := hide hpk
    have hjI : (j : Int) < σ.pending.length := by omega
    obtain ⟨lk, hlk⟩ : ∃ lk, σ.pending[j]? = some lk := ⟨_, List.getElem?_eq_getElem hpn⟩
    obtain ⟨fq, lq, hq⟩ := mem_pending (List.mem_of_getElem? hlk)
    obtain ⟨g, rfl, c0, c1, c2⟩ := unhide HC1 j lk hlk
    have hmany : (0 : Int) < lk.many := by
      have := pending_many hlk
      omega
    have HQ := hide hq
    have HMANY := hide hmany
    clear hpk hj hlk hq HC1 hmany
    go_wp2_with fail
    refine (unhide HPK _).mono ?_
    rintro e w2 ⟨rfl, hw2⟩
    have hw2 := hw2.symm
    subst hw2
    clear hpb
    go_wp2_with fail
    obtain ⟨W2, hW2⟩ : ∃ W2, W2 = w1.alloc (.cells #[.int .i64 (lk.a : Int), .int .i64 (lk.b : Int), .int .i64 (lk.many : Int)] 68) := ⟨_, rfl⟩
    have ht2 : Calm w1 W2 := by rw [hW2]; exact (Touch.refl _ _).alloc _
    have q0 : W2.cell? ⟨w1.heap.size, 0, none⟩ = some (int lk.a) := by rw [hW2]; exact box_cell (heap_alloc_new _ _) 0
    have q1 : W2.cell? ⟨w1.heap.size, 1, none⟩ = some (int lk.b) := by rw [hW2]; exact box_cell (heap_alloc_new _ _) 1
    have HBX : Hid (W2.heap[w1.heap.size]? = some (.cells #[.int .i64 (lk.a : Int), .int .i64 (lk.b : Int), .int .i64 (lk.many : Int)] 68)) := by rw [hW2]; exact heap_alloc_new _ _
    have qn : W2.cell? ⟨hb, 0, none⟩ = some (ptr b) := ht2.cell (p := ⟨hb, 0, none⟩) (fun f => f) hnet1
    have HN2 := hide (((unhide HN1).calm (unhide HT1)).calm ht2)
    have HO2 := hide ((Ow.calm (κ := κ) (ρ := ρ) (unhide HT1)).trans (Ow.calm ht2))
    have HOFF : Hid (κ w1.heap.size = none ∧ ρ w1.heap.size = none ∧ w1.heap.size < W2.heap.size) := by
      have hN := (unhide HN1).calm (unhide HT1)
      refine ⟨?_, ?_, ?_⟩
      · cases hq : κ w1.heap.size with
        | none => rfl
        | some r => have := hN.h.lt _ (by rw [hq]; simp); omega
      · cases hq : ρ w1.heap.size with
        | none => rfl
        | some r => have := hN.x.lt _ (by rw [hq]; simp); omega
      · rw [hW2]; simp
    rw [← hW2]
    clear hW2 ht2 hnet1 c0 c1 c2 hjI hpn hpos hnil hlenI hpl HPK HT1 HN1 hw2
    go_cut [7] (fun s wx => s = int 0 ∧ ∃ ρ', HN wx hb b κ ρ' (σ.del lk.a lk.b) H ∧ Ow κ ρ κ ρ' w wx ∧ wx.cell? ⟨w1.heap.size, 2, none⟩ = some (int lk.many))
    case first =>
      go_region_with (go_at_call 28; refine (deliverX ((unhide HN2).calm ((Touch.refl _ _).drew)).x (unhide FF).fit (unhide FF).lt (unhide HQ)).mono ?_; rintro e w3 ⟨rfl, ρ3, hX3, hM3⟩)
      all_goals go_wp2_with fail
      all_goals go_meet
      all_goals
        have hc2 : W2.drew.cell? ⟨w1.heap.size, 2, none⟩ = some (int lk.many) := box_cell (w := W2.drew) (unhide HBX) 2
        exact ⟨rfl, ρ3, ((unhide HN2).calm ((Touch.refl _ _).drew)).mv hX3 hM3, ((unhide HO2).trans (Ow.calm ((Touch.refl _ _).drew))).trans (Ow.mv hM3), (Ow.mv (κ := κ) hM3).cell (unhide HOFF).1 (unhide HOFF).2.1 hc2⟩
    case rest =>
      obtain ⟨rfl, ρ3, hN3, hO3, q2⟩ := hcut
      have hmany := unhide HMANY
      have HN3 := hide hN3
      have HO3 := hide hO3
      clear hN3 hO3 HN2 HO2 q0 q1 qn
      go_wp2
      go_ret
      exact ⟨rfl, ρ3, _, unhide HN3, (unhide RR).del σ _ _ _ _ (unhide HI1) (unhide HQ), unhide HO3⟩

/-- So much was read. -/
def HM.readTo (H : HM) (c : Nat) (L : List News) : HM := { H with subs := put H.subs (2 * c) { H.subs (2 * c) with told := L.map fun e => e.ev } }

theorem Ent.enc_len (e : Ent) : e.enc.length = 7 := rfl

set_option maxRecDepth 100000 in
set_option maxHeartbeats 4000000 in
theorem readX {w : World} {hb b : Nat} {κ ρ : Nat → Option Role} {σ : Net} {H : HM} (h : HN w hb b κ ρ σ H) {c : Nat} (hc : c < 4) (L : List News) (hlog : (σ.cl c).log = L.map fun e => ⟨0, 0, e.ev⟩)
    (hE : H.evs.length ≤ 2199023255552) (hL : L.length ≤ 2000000000000) (hon : (H.subs (2 * c)).on = true) (hgd : goodFilter (H.subs (2 * c)).fl = true) (htold : (H.subs (2 * c)).told = [])
    (hok : ∀ e, e ∈ L → stayOf H.evs e.ev = 0 ∧ meets (H.subs (2 * c)).fl e.ev = true) (hinc : L.Pairwise fun o e => o.ev.pub = e.ev.pub → o.ev.num < e.ev.num) :
    Calls Try.prog 22 #[ptr hb, int c] w fun r w' => r = .returned (.bool true) ∧ ∃ κ', HN w' hb b κ' ρ (σ.setCl c { σ.cl c with log := [] }) (H.readTo c L) ∧ Ow κ ρ κ' ρ w w' := by
  have hnet := h.h.net
  have HH := hide h
  have HLOG := hide hlog
  have HE := hide hE
  have HLL := hide hL
  have HON := hide hon
  have HGD := hide hgd
  have HTO := hide htold
  have HOK := hide hok
  have HIN := hide hinc
  clear h hlog hE hL hon hgd htold hok hinc
  go_enter Try.func22, Try.ntmps22
  go_wp2_with fail
  refine (logX2 (unhide HH).x hc).mono ?_
  rw [unhide HLOG]
  rintro r w1 ⟨v, rfl, hrow, hX1, hM1, hown⟩
  rw [List.length_map] at hrow
  obtain ⟨va, vc, hva⟩ := ownsRow_slice hrow
  subst hva
  have hN1 := (unhide HH).mv hX1 hM1
  have HN1 := hide hN1
  have HO1 := hide (Ow.mv (κ := κ) hM1)
  have HROW := hide hrow
  have HOWN : Hid (∀ g, (Value.slice va L.length vc).ownBlock = some g → κ g = none) := fun g hg => by
    cases hq : κ g with
    | none => rfl
    | some r => exact absurd ((unhide HH).apart g (by rw [hq]; simp)) (hown g hg)
  clear hrow hX1 hM1 hown hN1 hnet
  have hll : (L.length : Int) ≤ 2000000000000 := by have := unhide HLL; omega
  go_wp2_with fail
  go_loopw [7] (fun i wr => ∃ k : Nat, k ≤ L.length ∧ i = int k ∧ ∃ κ', HX wr hb b κ' (H.readTo c (L.take k)) ∧ Bk κ κ' w1 wr) (fun i _ => L.length - (intOf i).toNat)
  case atStart => exact ⟨0, by omega, rfl, κ, by
    have : H.readTo c (L.take 0) = H := by
      have h0 := unhide HTO
      cases H with
      | mk many evs num subs =>
        simp only [HM.readTo, List.take_zero, List.map_nil, HM.mk.injEq, true_and]
        funext s
        by_cases e : s = 2 * c
        · subst e; simp only at h0; rw [put_same, ← h0]
        · exact put_other _ _ e
    rw [this]; exact (unhide HN1).h, Bk.refl _ _⟩
  case round =>
    obtain ⟨k, hk, rfl, κ1, hX, hB⟩ := hrel
    by_cases hlt : k < L.length
    · obtain ⟨n, hn⟩ : ∃ n, L[k]? = some n := ⟨_, List.getElem?_eq_getElem hlt⟩
      obtain ⟨g, cap, e1, hcel⟩ := ownsRow_get (unhide HROW) Ent.enc_len (by omega) (i := k) (a := ⟨0, 0, n.ev⟩) (by rw [List.getElem?_map, hn]; rfl)
      cases e1
      have hgn := unhide HOWN g rfl
      have hc7 := fun j u hj => hB.cell (o := k * 7 + j) hgn (hcel j u hj)
      have c0 : wr.cell? ⟨g, k * 7, none⟩ = some (int 0) := hc7 0 _ rfl
      have c1 : wr.cell? ⟨g, k * 7 + 1, none⟩ = some (int 0) := hc7 1 _ rfl
      have c2 : wr.cell? ⟨g, k * 7 + 2, none⟩ = some (int n.ev.pub) := hc7 2 _ rfl
      have c3 : wr.cell? ⟨g, k * 7 + 3, none⟩ = some (int n.ev.num) := hc7 3 _ rfl
      have c4 : wr.cell? ⟨g, k * 7 + 4, none⟩ = some (int n.ev.f0) := hc7 4 _ rfl
      have c5 : wr.cell? ⟨g, k * 7 + 5, none⟩ = some (int n.ev.f1) := hc7 5 _ rfl
      have c6 : wr.cell? ⟨g, k * 7 + 6, none⟩ = some (int n.ev.f2) := hc7 6 _ rfl
      have hki : (k : Int) < L.length := by omega
      have HX1 := hide hX
      have HB1 := hide hB
      have HNN := hide hn
      have hci : (c : Int) < 4 := by omega
      clear hX hB hc7 hcel hn
      go_wp2_with fail
      go_cut [8] (fun s wx => s = .pointer (some ⟨hb, 15 + 2 * c * 5, none⟩) ∧ wx = wr.drew)
      case first =>
        go_region
        all_goals go_wp2_with fail
        all_goals go_meet
        all_goals exact ⟨rfl, rfl⟩
      case rest =>
        obtain ⟨rfl, hwc⟩ := hcut
        have htc : Calm wr wc := by rw [hwc]; exact (Touch.refl _ _).drew
        have d1 := htc.cell (p := ⟨g, k * 7 + 1, none⟩) (fun f => f) c1
        have d2 := htc.cell (p := ⟨g, k * 7 + 2, none⟩) (fun f => f) c2
        have d3 := htc.cell (p := ⟨g, k * 7 + 3, none⟩) (fun f => f) c3
        have d4 := htc.cell (p := ⟨g, k * 7 + 4, none⟩) (fun f => f) c4
        have d5 := htc.cell (p := ⟨g, k * 7 + 5, none⟩) (fun f => f) c5
        have d6 := htc.cell (p := ⟨g, k * 7 + 6, none⟩) (fun f => f) c6
        have HX2 := hide ((unhide HX1).keep htc (fun _ _ f => f))
        have HB2 := hide ((unhide HB1).trans (Bk.calm htc))
        clear hwc htc c0 c1 c2 c3 c4 c5 c6 HX1 HB1
        have hsub : (H.readTo c (L.take k)).subs (2 * c) = { H.subs (2 * c) with told := (L.take k).map fun e => e.ev } := by simp [HM.readTo]
        have HSUB := hide hsub
        clear hsub
        go_wp2_with fail
        refine (freshX (unhide HX2) (unhide HE) (s := 2 * c) (by omega) n.ev (by rw [unhide HSUB]; exact unhide HON) (by rw [unhide HSUB]; exact unhide HGD) (by
          rw [unhide HSUB]
          simp only [List.length_map, List.length_take]
          omega) (unhide HOK n (List.mem_of_getElem? (unhide HNN))).1 (by rw [unhide HSUB]; exact (unhide HOK n (List.mem_of_getElem? (unhide HNN))).2) (fun o ho => ?_)).mono ?_
        · rw [unhide HSUB] at ho
          simp only [List.mem_map] at ho
          obtain ⟨e', he', rfl⟩ := ho
          obtain ⟨i, hi⟩ := List.getElem?_of_mem he'
          have hik : i < k := by
            have := (List.getElem?_eq_some_iff.1 hi).1
            simp only [List.length_take] at this; omega
          rw [List.getElem?_take_of_lt hik] at hi
          have h1 := (List.getElem?_eq_some_iff.1 hi)
          have h2 := (List.getElem?_eq_some_iff.1 (unhide HNN))
          obtain ⟨h1, h1'⟩ := h1
          obtain ⟨h2, h2'⟩ := h2
          have := List.pairwise_iff_getElem.1 (unhide HIN) i k h1 h2 hik
          rw [h1', h2'] at this
          exact this
        rintro r w5 ⟨rfl, ht5⟩
        have e2 := ht5.cell (p := ⟨g, k * 7 + 2, none⟩) (fun f => f) d2
        have e3 := ht5.cell (p := ⟨g, k * 7 + 3, none⟩) (fun f => f) d3
        have e4 := ht5.cell (p := ⟨g, k * 7 + 4, none⟩) (fun f => f) d4
        have e5 := ht5.cell (p := ⟨g, k * 7 + 5, none⟩) (fun f => f) d5
        have e6 := ht5.cell (p := ⟨g, k * 7 + 6, none⟩) (fun f => f) d6
        have hX5 := (unhide HX2).keep ht5 (fun _ _ f => f)
        have HX5 := hide hX5
        have HB5 := hide ((unhide HB2).trans (Bk.calm ht5))
        obtain ⟨vl, hvl, hrowv⟩ := (hX5.subs (2 * c) (by omega)).told
        have hfz := hX5.fr
        have HFZ := hide hfz
        have HRW := hide hrowv
        have hone : vl.oneCell' = true := by
          rcases hrowv.1.2 with ⟨rfl, _⟩ | ⟨g, cap, cur, rfl, _⟩ <;> rfl
        have hbl : hb < w5.heap.size := block_lt_of_cell hvl
        have hvb : vl.ownBlock ≠ some hb := fun e => by
          have := hrowv.2 hb e; rw [hX5.house] at this; cases this
        have HVB := hide hvb
        obtain ⟨m, hm⟩ : ∃ m, m = ((H.readTo c (L.take k)).subs (2 * c)).told.length := ⟨_, rfl⟩
        rw [← hm] at HRW
        have hmk : m = k := by rw [hm, unhide HSUB]; simp only [List.length_map, List.length_take]; omega
        have HMM := hide hm
        have hm41 : m ≤ 2000000000000 := by omega
        clear d1 d2 d3 d4 d5 d6 ht5 hX5 hfz hrowv hvb HX2 HB2 hm hmk
        have key : ∀ g2 cp2 w2, Grew 0 63 5 vl (m + 1) (((H.readTo c (L.take k)).subs (2 * c)).told.flatMap Ev.enc ++ n.ev.enc) (w5.alloc (.cells n.ev.enc.toArray 63)).drew g2 cp2 w2 →
            ∃ κ', HX (w2.setCell ⟨hb, 15 + 2 * c * 5 + 3, none⟩ (.slice (some ⟨g2, 0, none⟩) (m + 1) cp2)) hb b κ' (H.readTo c (L.take (k + 1))) ∧ Bk κ κ' w1 (w2.setCell ⟨hb, 15 + 2 * c * 5 + 3, none⟩ (.slice (some ⟨g2, 0, none⟩) (m + 1) cp2)) := by
          intro g2 cp2 w2 hG
          have hta : Calm w5 (w5.alloc (.cells n.ev.enc.toArray 63)).drew := ((Touch.refl _ _).alloc _).drew
          have hXa := (unhide HX5).keep hta (fun _ _ f => f)
          rw [unhide HMM] at hG
          have hfin := hXa.toldMore (s := 2 * c) (by omega) n.ev (hta.cell (p := ⟨hb, 15 + 2 * c * 5 + 3, none⟩) (fun f => f) hvl) hG
          rw [← unhide HMM] at hfin
          refine ⟨_, ?_, ((unhide HB5).trans (Bk.calm hta)).trans hfin.2⟩
          have hH : H.readTo c (L.take (k + 1)) = { H.readTo c (L.take k) with subs := put (H.readTo c (L.take k)).subs (2 * c) { (H.readTo c (L.take k)).subs (2 * c) with told := ((H.readTo c (L.take k)).subs (2 * c)).told ++ [n.ev] } } := by
            have htk : L.take (k + 1) = L.take k ++ [n] := by rw [List.take_add_one, unhide HNN]; rfl
            rw [unhide HSUB]
            simp only [HM.readTo, htk, List.map_append, List.map_cons, List.map_nil, HM.mk.injEq, true_and]
            funext s
            by_cases e : s = 2 * c
            · subst e; simp
            · rw [put_other _ _ e, put_other _ _ e, put_other _ _ e]
          rw [hH]
          exact hfin.1
        have KEY := hide key
        clear key
        obtain ⟨ti, i3, z3, s3, b3⟩ := elem63
        have I3 := hide i3
        have Z3 := hide z3
        have S3 := hide s3
        have B3 := hide b3
        clear i3 z3 s3 b3
        go_wp2
        go_region_law (first
          | (refine step_append_mine _ rfl _ _ 32 rfl 0 63 ti (.agg #[int 0, int 0, int 0, int 0, int 0]) 5 40 Try.underlying32 (unhide I3) (unhide Z3) (unhide S3) (unhide B3) rfl (by decide) vl m (((H.readTo c (L.take k)).subs (2 * c)).told.flatMap Ev.enc) rfl ?own ⟨w5.heap.size, 0, none⟩ 1 1 n.ev.enc rfl rfl ?news ?one (by decide) ?h63 ?bytes ?base ?_
             case own => exact ownsRow_keep (unhide HRW).1 (((Touch.refl (fun _ => False) _).alloc _).drew) (fun _ _ f => f)
             case news => intro j u hj; exact new_cells w5 n.ev.enc 63 j u hj
             case one => intro u hu; simp [Ev.enc] at hu; rcases hu with rfl | rfl | rfl | rfl | rfl <;> rfl
             case h63 => unfold maxLen; omega
             case bytes => omega
             case base => simp
             intro g2 cp2 w2 hg2
             have hne : ¬ hb = g2 := by
               rcases hg2.2.1 with ⟨h, _⟩ | ⟨h, _⟩
               · intro e; exact unhide HVB (by rw [h, e])
               · simp at h; omega
             have ht2 : Touch (fun i => i = g2) w5 w2 := by
               rcases hg2.2.1 with ⟨_, h⟩ | ⟨_, h⟩
               · exact Touch.trans (((Touch.refl _ _).alloc _).drew) h
               · exact (((Touch.refl (fun i => i = g2) w5).alloc _).drew).calm h
             have dl2 : w2.cell? ⟨hb, 15 + 2 * c * 5 + 3, none⟩ = some vl := ht2.cell (p := ⟨hb, 15 + 2 * c * 5 + 3, none⟩) hne hvl
             have fz2 : w2.frozen? ⟨hb, 15 + 2 * c * 5 + 3, none⟩ = false := (World.frozen?_of_block (w := w5) (a := ⟨hb, 15 + 2 * c * 5 + 3, none⟩) (ht2.block hb hbl hne)).trans (unhide HFZ _)
             have HG2 := hide hg2
             clear hg2 ht2))
        all_goals go_wp2
        all_goals go_roundw
        all_goals first
          | exact ⟨k + 1, by omega, by go_num, unhide KEY _ _ _ (unhide HG2)⟩
          | (simp [intOf]; omega)
    · have he : k = L.length := by omega
      subst he
      have HX1 := hide hX
      have HB1 := hide hB
      clear hX hB
      go_wp2
      go_ret
      refine ⟨rfl, κ1, (unhide HN1).books (unhide HB1) ?_, (unhide HO1).trans (unhide HB1).ow⟩
      have := unhide HX1
      rw [List.take_length] at this
      exact this

end Go.Proofs.Ytodfcpblcpogiaa

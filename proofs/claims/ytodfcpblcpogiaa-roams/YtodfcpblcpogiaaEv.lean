/-
  An event is handled.
-/
import Derived.Test.YtodfcpblcpogiaaCool
namespace Go.Proofs.Ytodfcpblcpogiaa
open Go.RowKit Go.Shelf
attribute [local go_sem] Oper.semAt_some

set_option maxHeartbeats 400000 in
theorem wanting_any (b o : Nat) (f0 f1 f2 : Int) (w : World) : Calls Try.prog 98 #[.pointer (some ⟨b, o, none⟩), .agg #[int f0, int f1, int f2]] w fun e w' =>
    e = .returned (.func (.func 104) #[] #[ptr w.heap.size, ptr (w.heap.size + 1)]) ∧ w' = (w.alloc (.cells #[.pointer (some ⟨b, o, none⟩)] 158)).alloc (.cells #[int f0, int f1, int f2] 23) := by
  go_enter Try.func98, Try.ntmps98
  go_wp2
  go_ret
  exact ⟨rfl, rfl⟩

/-- Of the blocks from B on, those that a net has are cells. -/
def CellsFrom (B : Nat) (W : World) (ρ : Nat → Option Role) : Prop := ∀ k, B ≤ k → ρ k ≠ none → ∃ cs t f, W.heap[k]? = some (.cells cs t f)

/-- The roles that an event turns at a broker. -/
def hearAll (x : Nat) (r : Role) : Prop := r = .net ∨ (∃ c k, r = .map c k) ∨ (∃ c, r = .log c) ∨ ∃ s, r = .known x s ∨ r = .kept x s
theorem hearR_all {x c k : Nat} {r : Role} (h : hearR x c k r) : hearAll x r := by
  rcases h with (h | h | h) | (h | h)
  · exact Or.inl h
  · exact Or.inr (Or.inl ⟨c, k, h⟩)
  · exact Or.inr (Or.inr (Or.inl ⟨c, h⟩))
  · exact Or.inr (Or.inr (Or.inr ⟨_, Or.inl h⟩))
  · exact Or.inr (Or.inr (Or.inr ⟨_, Or.inr h⟩))

/-- What stands at a broker. -/
theorem stand_of {W : World} {b : Nat} {ρ : Nat → Option Role} {σ : Net} (h : XN W b ρ σ) (G : Good σ) {x : Nat} (hx : x < 6) : ∃ ft : Stand, Stands σ x ft ∧ StandAt W b (38 + x * 8) ft := by
  have key : ∀ s, s < 8 → ∃ o : Option (Fact × Nat × Value), σ.kn x s = o.map (·.1) ∧ W.cell? ⟨b, 38 + x * 8 + s, none⟩ = some (.pointer (match o with | none => none | some (_, kb, _) => some ⟨kb, 0, none⟩)) ∧
      (∀ f kb kv, o = some (f, kb, kv) → W.heap[kb]? = some (.cells (encKn s f kv).toArray 160)) := by
    intro s hs
    have hsk : s = 2 * (s / 2) + s % 2 := by omega
    obtain ⟨v, h1, h2⟩ := h.known x (s / 2) (s % 2) hx (by omega) (by omega)
    rw [← hsk] at h2
    have ho : 38 + x * 8 + s / 2 * 2 + s % 2 = 38 + x * 8 + s := by omega
    rw [ho] at h1
    cases hk : σ.kn x s with
    | none =>
      rw [hk] at h2
      have h2 : v = .pointer none := h2
      subst h2
      exact ⟨none, rfl, h1, fun _ _ _ e => by cases e⟩
    | some f =>
      rw [hk] at h2
      obtain ⟨kb, kv, rfl, _, h4, _⟩ := h2
      exact ⟨some (f, kb, kv), rfl, h1, fun _ _ _ e => by cases e; exact h4⟩
  have hch : ∀ s, ∃ o : Option (Fact × Nat × Value), s < 8 → σ.kn x s = o.map (·.1) ∧ W.cell? ⟨b, 38 + x * 8 + s, none⟩ = some (.pointer (match o with | none => none | some (_, kb, _) => some ⟨kb, 0, none⟩)) ∧
      (∀ f kb kv, o = some (f, kb, kv) → W.heap[kb]? = some (.cells (encKn s f kv).toArray 160)) := fun s => by
    by_cases hs : s < 8
    · obtain ⟨o, ho⟩ := key s hs; exact ⟨o, fun _ => ho⟩
    · exact ⟨none, fun h => absurd h hs⟩
  obtain ⟨g, hg⟩ := Classical.axiomOfChoice hch
  have e8 : ∀ s, s < 8 → (fun s => if s < 8 then g s else none) s = g s := fun s hs => by simp [hs]
  have e9 : ∀ s, ¬ s < 8 → (fun s => if s < 8 then g s else none) s = none := fun s hs => by simp [hs]
  generalize (fun s => if s < 8 then g s else none) = ft at e8 e9
  refine ⟨ft, fun s hs => ?_, ⟨fun s hs => ?_, fun s f kb kv hft => ?_⟩⟩
  · rw [e8 s hs]; exact (hg s hs).1
  · unfold standV standP
    rw [e8 s hs]
    exact (hg s hs).2.1
  · by_cases hs : s < 8
    · rw [e8 s hs] at hft
      refine ⟨(hg s hs).2.2 f kb kv hft, ?_⟩
      have h2 := (hg s hs).1
      rw [hft] at h2
      exact (G.facts x s f h2).fil
    · rw [e9 s hs] at hft; cases hft

def six (g : Nat → Bool) : Value := .agg #[.bool (g 0), .bool (g 1), .bool (g 2), .bool (g 3), .bool (g 4), .bool (g 5)]
theorem info4 : (Try.prog.info? 4).map (·.size) = some 1 := by kernel_rfl
theorem idx167 (g : Nat → Bool) (k : Nat) (hk : k < 6) (w : World) : (Instr.index 167 (six g) (.int .i64 k)).run Try.prog w = .ok (.bool (g k)) w := by
  obtain rfl | rfl | rfl | rfl | rfl | rfl : k = 0 ∨ k = 1 ∨ k = 2 ∨ k = 3 ∨ k = 4 ∨ k = 5 := by omega
  all_goals simp [six, Instr.index, asIntOf, Sem.run_bind, run_underlying Try.underlying167, part, isAgg, run_underlying Try.underlying4, size_of info4]

/-- The six flags. -/
def flags (σ : Net) (x : Nat) (l : List Nat) : Array Value := #[.bool (flag σ x l 0), .bool (flag σ x l 1), .bool (flag σ x l 2), .bool (flag σ x l 3), .bool (flag σ x l 4), .bool (flag σ x l 5)]

theorem flag_snoc (σ : Net) (x : Nat) (l : List Nat) (s y : Nat) : flag σ x (l ++ [s]) y = (flag σ x l y || wayIs (σ.kn x s) y) := by
  simp [flag]
theorem flags_same {σ : Net} {x : Nat} {l : List Nat} {s : Nat} {f : Fact} (hk : σ.kn x s = some f) (hw : f.way = none) : flags σ x (l ++ [s]) = flags σ x l := by
  simp [flags, flag_snoc, hk, hw, wayIs]
theorem flags_set {σ : Net} {x : Nat} {l : List Nat} {s y : Nat} {f : Fact} (hk : σ.kn x s = some f) (hw : f.way = some y) (hy : y < 6) : (flags σ x l).setIfInBounds y (.bool true) = flags σ x (l ++ [s]) := by
  simp only [flags, flag_snoc, hk, hw, wayIs, Option.some.injEq]
  obtain rfl | rfl | rfl | rfl | rfl | rfl : y = 0 ∨ y = 1 ∨ y = 2 ∨ y = 3 ∨ y = 4 ∨ y = 5 := by omega
  all_goals simp
theorem flags_at (σ : Net) (x : Nat) (l : List Nat) {y : Nat} (hy : y < 6) : (flags σ x l)[y]? = some (.bool (flag σ x l y)) := by
  obtain rfl | rfl | rfl | rfl | rfl | rfl : y = 0 ∨ y = 1 ∨ y = 2 ∨ y = 3 ∨ y = 4 ∨ y = 5 := by omega
  all_goals rfl

/-- What a round of the range leaves. -/
structure EvI (w W1 : World) (b : Nat) (ρ : Nat → Option Role) (σ : Net) (x : Nat) (e : News) (l : List Nat) (ρ' : Nat → Option Role) (V : World) : Prop where
  net : XN V b ρ' (σ.hears x e l)
  mv : Mv (hearAll x) ρ ρ' w V
  cells : CellsFrom W1.heap.size V ρ'
  only : OnlyT W1 V
  size : W1.heap.size ≤ V.heap.size
  low : ∀ k, w.heap.size ≤ k → k < W1.heap.size → ρ' k = none
  flg : V.heap[w.heap.size + 3]? = some (.cells (flags σ x l) 167)
  front : Front b W1 V

theorem EvI.own {w W1 : World} {b : Nat} {ρ : Nat → Option Role} {σ : Net} {x : Nat} {e : News} {l : List Nat} {ρ' : Nat → Option Role} {V V' : World} {row : Option Nat} (hw : w.heap.size ≤ W1.heap.size) (h : EvI w W1 b ρ σ x e l ρ' V) (hg : V.grownBy V' row)
    (hr : ∀ r, row = some r → W1.heap.size ≤ r ∧ ∃ o : Obj, V.heap[r]? = some o ∧ o.isCells = false) : EvI w W1 b ρ σ x e l ρ' V' := by
  have hne : ∀ k cs t f, V.heap[k]? = some (.cells cs t f) → row ≠ some k := fun k cs t f hk e => by
    obtain ⟨_, o, ho, hc⟩ := hr k e
    rw [hk] at ho; cases ho; simp [Obj.isCells] at hc
  have hrole : ∀ k, ρ' k ≠ none → row ≠ some k := fun k hk e => by
    obtain ⟨hB, _⟩ := hr k e
    obtain ⟨cs, t, f, hc⟩ := h.cells k hB hk
    exact hne k cs t f hc e
  have hlow : ∀ k, k < W1.heap.size → row ≠ some k := fun k hk e => by
    have := (hr k e).1; omega
  have hT : Touch (fun k => row = some k) V V' := ⟨hg.os, hg.tape, hg.output, hg.size, fun k hk hs => hg.block k hk (fun e => hs e.symm)⟩
  refine ⟨h.net.keep hT (fun k hk e => hrole k hk e), ⟨⟨hT.os.trans h.mv.touch.os, hT.tape.trans h.mv.touch.tape, hT.output.trans h.mv.touch.output, Nat.le_trans h.mv.touch.size hT.size, fun k hk hs => (hT.block k (Nat.lt_of_lt_of_le hk h.mv.touch.size) (fun e => hlow k (by omega) e)).trans (h.mv.touch.block k hk hs)⟩, h.mv.role, fun k hk => Nat.lt_of_lt_of_le (h.mv.lt k hk) hT.size⟩,
    fun k hB hk => ?_, h.only.trans (OnlyT.of_keep fun k cs t _ _ _ _ hk => (hT.block k (Array.getElem?_eq_some_iff.1 hk).1 (fun e => hne k cs t _ hk e)).trans hk), Nat.le_trans h.size hT.size, h.low, ?_, h.front.trans (fun o v _ hv => cell_of_heap (hT.block b (h.net.lt b (by rw [h.net.net]; simp)) (fun e => hrole b (by rw [h.net.net]; simp) e)) hv)⟩
  · obtain ⟨cs, t, f, hc⟩ := h.cells k hB hk
    exact ⟨cs, t, f, (hT.block k (Array.getElem?_eq_some_iff.1 hc).1 (fun e => hne k cs t f hc e)).trans hc⟩
  · exact (hT.block _ (Array.getElem?_eq_some_iff.1 h.flg).1 (fun e => hne _ _ _ _ h.flg e)).trans h.flg

/-- One heard more. -/
theorem EvI.heard {w W1 : World} {b : Nat} {ρ : Nat → Option Role} {σ : Net} {x : Nat} {e : News} {l : List Nat} {ρ' ρ4 : Nat → Option Role} {V V4 : World} {c k s : Nat} {f : Fact} (hw3 : w.heap.size + 3 < W1.heap.size) (h : EvI w W1 b ρ σ x e l ρ' V) (hk : σ.kn x s = some f) (hw : f.way = none)
    (h4 : XN V4 b ρ4 ((σ.hears x e l).hear x e s)) (m4 : Mv (hearR x c k) ρ' ρ4 V V4) (n4 : ∀ i, V.heap.size ≤ i → ρ4 i ≠ none → ∃ cs t f, V4.heap[i]? = some (.cells cs t f)) (o4 : OnlyT V V4) (s4 : StayC V V4) (f4 : Front b V V4) :
    EvI w W1 b ρ σ x e (l ++ [s]) ρ4 V4 ∧ KeepsFrom W1.heap.size V V4 ∧ Kp V V4 := by
  refine ⟨⟨by rw [hears_snoc]; exact h4, h.mv.trans (m4.mono (fun _ hr => hearR_all hr)), fun i hB hi => ?_, h.only.trans o4, Nat.le_trans h.size m4.touch.size, ?_, ?_, h.front.trans f4⟩, ⟨m4.touch.size, fun i o hB hi ho => ?_⟩, o4, m4.touch.size⟩
  · by_cases hi2 : i < V.heap.size
    · exact s4 i (h.cells i hB (fun hn => hi (m4.noRole hi2 hn)))
    · exact n4 i (by omega) hi
  · intro i h1 h2; exact m4.noRole (by have := h.size; omega) (h.low i h1 h2)
  · rw [flags_same hk hw]
    exact (m4.touch.block _ (by have := h.size; omega) (fun ⟨r, h1, _⟩ => by rw [h.low _ (by omega) hw3] at h1; cases h1)).trans h.flg
  · have hil := (Array.getElem?_eq_some_iff.1 hi).1
    refine (m4.touch.block i hil (fun ⟨r, h1, _⟩ => ?_)).trans hi
    obtain ⟨cs, t, f', hc⟩ := h.cells i hB (by rw [h1]; simp)
    rw [hi] at hc; cases hc; simp [Obj.isCells] at ho

/-- One flag more. -/
theorem EvI.flagged {w W1 : World} {b : Nat} {ρ : Nat → Option Role} {σ : Net} {x : Nat} {e : News} {l : List Nat} {ρ' : Nat → Option Role} {V : World} {s y : Nat} {f f' : Fact} (hw3 : w.heap.size + 3 < W1.heap.size) (h : EvI w W1 b ρ σ x e l ρ' V) (hk' : (σ.hears x e l).kn x s = some f') (hw' : f'.way = some y) (hk : σ.kn x s = some f) (hw : f.way = some y) (hy : y < 6) :
    EvI w W1 b ρ σ x e (l ++ [s]) ρ' (V.setCell ⟨w.heap.size + 3, y, none⟩ (.bool true)) ∧ KeepsFrom W1.heap.size V (V.setCell ⟨w.heap.size + 3, y, none⟩ (.bool true)) ∧ Kp V (V.setCell ⟨w.heap.size + 3, y, none⟩ (.bool true)) := by
  have hT : Touch (fun i => i = w.heap.size + 3) V (V.setCell ⟨w.heap.size + 3, y, none⟩ (.bool true)) := (Touch.refl (fun i => i = w.heap.size + 3) V).setCell (p := ⟨w.heap.size + 3, y, none⟩) (fun _ => rfl) _
  have hst : (σ.hears x e (l ++ [s])) = σ.hears x e l := by
    rw [hears_snoc]
    simp [Net.hear, hk', hw']
  have hnr : ∀ i, ρ' i ≠ none → i ≠ w.heap.size + 3 := fun i hi e => by subst e; exact hi (h.low _ (by omega) hw3)
  have hsz : (V.setCell ⟨w.heap.size + 3, y, none⟩ (.bool true)).heap.size = V.heap.size := by simp [World.setCell]
  have hfl : (V.setCell ⟨w.heap.size + 3, y, none⟩ (.bool true)).heap[w.heap.size + 3]? = some (.cells (flags σ x (l ++ [s])) 167) := by
    rw [heap_setCell_same _ _ _ _ _ _ h.flg, flags_set hk hw hy]
  have hot : OnlyT V (V.setCell ⟨w.heap.size + 3, y, none⟩ (.bool true)) := OnlyT.of_keep fun i cs t h1 h2 h3 _ hi => by
    refine (hT.block i (Array.getElem?_eq_some_iff.1 hi).1 (fun e => ?_)).trans hi
    subst e; rw [h.flg] at hi; cases hi; exact h3 rfl
  refine ⟨⟨by rw [hst]; exact h.net.keep hT (fun i hi e => hnr i hi e), ⟨⟨hT.os.trans h.mv.touch.os, hT.tape.trans h.mv.touch.tape, hT.output.trans h.mv.touch.output, by rw [hsz]; exact h.mv.touch.size, fun i hi hs => (hT.block i (Nat.lt_of_lt_of_le hi h.mv.touch.size) (by omega)).trans (h.mv.touch.block i hi hs)⟩, h.mv.role, fun i hi => by rw [hsz]; exact h.mv.lt i hi⟩,
    fun i hB hi => ?_, h.only.trans hot, by rw [hsz]; exact h.size, h.low, hfl, h.front.trans (fun o v _ hv => cell_of_heap (hT.block b (h.net.lt b (by rw [h.net.net]; simp)) (hnr b (by rw [h.net.net]; simp))) hv)⟩, ⟨by rw [hsz]; exact Nat.le_refl _, fun i o hB hi ho => ?_⟩, hot, by rw [hsz]; exact Nat.le_refl _⟩
  · obtain ⟨cs, t, f', hc⟩ := h.cells i hB hi
    exact ⟨cs, t, f', (hT.block i (Array.getElem?_eq_some_iff.1 hc).1 (hnr i hi)).trans hc⟩
  · refine (hT.block i (Array.getElem?_eq_some_iff.1 hi).1 (by omega)).trans hi

/-- The temporaries where the range begins; n: the heap's size at the call. -/
abbrev evTmps (b x fb n : Nat) (fr : Option Nat) (e : News) : Array Value := #[.pointer (some ⟨b, 0, none⟩), int x, int (whr fr), ptr fb, ptr n, ptr (n + 1), undef, ptr (n + 1 + 1), ptr (n + 1 + 1 + 1), undef, undef, undef, .pointer (some ⟨b, 0, none⟩), int x, .pointer (some ⟨b, 0, none⟩), .pointer (some ⟨b, 38, none⟩), .pointer (some ⟨b, 38 + x * 8, none⟩), ptr fb, ptr fb, .pointer (some ⟨fb, 14, none⟩), .pointer (some ⟨fb, 16, none⟩), .agg #[int e.ev.f0, int e.ev.f1, int e.ev.f2], .func (.func 104) #[] #[ptr (n + 4), ptr (n + 5)], undef, undef, undef, undef, undef, undef, undef, undef, undef, undef, undef, undef, undef, undef, undef, undef, undef, undef, undef, undef, undef, undef, undef, undef, undef, undef, undef, undef, undef, undef, undef, undef, undef, undef, undef]

/-- .. and in a round. -/
abbrev evTmps2 (b x fb n : Nat) (fr : Option Nat) (e : News) (kb : Nat) : Array Value := #[.pointer (some ⟨b, 0, none⟩), int x, int (whr fr), ptr fb, ptr n, ptr (n + 1), undef, ptr (n + 1 + 1), ptr (n + 1 + 1 + 1), ptr kb, undef, undef, .pointer (some ⟨b, 0, none⟩), int x, .pointer (some ⟨b, 0, none⟩), .pointer (some ⟨b, 38, none⟩), .pointer (some ⟨b, 38 + x * 8, none⟩), ptr fb, ptr fb, .pointer (some ⟨fb, 14, none⟩), .pointer (some ⟨fb, 16, none⟩), .agg #[int e.ev.f0, int e.ev.f1, int e.ev.f2], .func (.func 104) #[] #[ptr (n + 4), ptr (n + 5)], ptr kb, undef, undef, undef, undef, undef, undef, undef, undef, undef, undef, undef, undef, undef, undef, undef, undef, undef, undef, undef, undef, undef, undef, undef, undef, undef, undef, undef, undef, undef, undef, undef, undef, undef, undef]

/-- .. and behind a send. -/
abbrev evTmps3 (b x fb n : Nat) (fr : Option Nat) (e : News) (g : Nat → Bool) (k : Nat) (u : Value) : Array Value := #[.pointer (some ⟨b, 0, none⟩), int x, int (whr fr), ptr fb, ptr n, ptr (n + 1), undef, ptr (n + 1 + 1), ptr (n + 1 + 1 + 1), undef, int k, .bool true, .pointer (some ⟨b, 0, none⟩), int x, .pointer (some ⟨b, 0, none⟩), .pointer (some ⟨b, 38, none⟩), .pointer (some ⟨b, 38 + x * 8, none⟩), ptr fb, ptr fb, .pointer (some ⟨fb, 14, none⟩), .pointer (some ⟨fb, 16, none⟩), .agg #[int e.ev.f0, int e.ev.f1, int e.ev.f2], .func (.func 104) #[] #[ptr (n + 4), ptr (n + 5)], undef, undef, undef, undef, undef, undef, undef, undef, undef, undef, undef, undef, undef, undef, undef, undef, .agg #[.bool (g 0), .bool (g 1), .bool (g 2), .bool (g 3), .bool (g 4), .bool (g 5)], int k, .bool true, int k, .bool true, .bool true, .bool true, int k, int (whr fr), .bool true, .bool true, .pointer (some ⟨b, 0, none⟩), .pointer (some ⟨b, 0, none⟩), .pointer (some ⟨b, 2, none⟩), int x, int k, ptr fb, .tuple #[], u]

set_option maxRecDepth 100000 in
set_option maxHeartbeats 4000000 in
theorem handleEvent_walk {w : World} {b : Nat} {ρ : Nat → Option Role} {σ : Net} (h : XN w b ρ σ) {x : Nat} {fr : Option Nat} (hx : x < σ.n) (hlen : ∀ y, (σ.q x y).length < 2000) {m : Nat} (Wm : Warm σ m) (hm : m < 2000000000000)
    {e : News} (he : e.lim (m + 1)) {fb : Nat} (hf : FrAt w ρ (.event e) fb) :
    Calls Try.prog 81 #[.pointer (some ⟨b, 0, none⟩), int x, int (whr fr), ptr fb] w fun r w' => r = .returned (.tuple #[]) ∧ ∃ ρ', XN w' b ρ' (σ.handle x fr (.event e)) ∧ Mv (fun r => hearAll x r ∨ ∃ y, r = .chan x y) ρ ρ' w w' := by
  have G := Wm.live.good
  have heok : e.ok := by unfold News.ok; unfold News.lim at he; omega
  have T := G.tree
  have hx6 : x < 6 := Nat.lt_of_lt_of_le hx (size_le T)
  have hxi : (x : Int) < 6 := by omega
  obtain ⟨hr, _, _, _, hf', _⟩ := id hf
  rw [encFr_event] at hf'
  have c16 : w.cell? ⟨fb, 16, none⟩ = some (int e.ev.f0) := box_cell hf' 16
  have c17 : w.cell? ⟨fb, 17, none⟩ = some (int e.ev.f1) := box_cell hf' 17
  have c18 : w.cell? ⟨fb, 18, none⟩ = some (int e.ev.f2) := box_cell hf' 18
  have hfl := h.lt fb (by rw [hr]; simp)
  have HX := hide h
  have HF := hide hf
  have HLEN := hide hlen
  have HC := hide Wm
  have HE := hide he
  clear h hf hf' hlen Wm he
  refine (callsIn_wide (n := 4)).1 ?_
  refine callsIn_of_wp_marks Try.func81 rfl trivial ?_ rfl
  simp only [Try.ntmps81, List.size_toArray, List.length_cons, List.length_nil, Nat.reduceAdd, Nat.reduceSub, Array.replicate_succ, Array.replicate_zero, List.push_toArray, List.append_toArray, List.nil_append, List.cons_append]
  gi_wp2
  obtain ⟨W0, hW0⟩ : ∃ W0, W0 = ((((w.alloc (.cells #[.pointer (some ⟨b, 0, none⟩)] 28)).alloc (.cells #[int x] 3)).alloc (.cells #[ptr fb] 123)).alloc (.cells #[.bool false, .bool false, .bool false, .bool false, .bool false, .bool false] 167)) := ⟨_, rfl⟩
  rw [← hW0]
  have hW0s : W0.heap.size = w.heap.size + 4 := by rw [hW0]; simp
  have hb3 : W0.heap[w.heap.size + 3]? = some (.cells #[.bool false, .bool false, .bool false, .bool false, .bool false, .bool false] 167) := by
    rw [hW0]; have := heap_alloc_new (((w.alloc (.cells #[.pointer (some ⟨b, 0, none⟩)] 28)).alloc (.cells #[int x] 3)).alloc (.cells #[ptr fb] 123)) (.cells #[.bool false, .bool false, .bool false, .bool false, .bool false, .bool false] 167)
    simpa using this
  have hb2 : W0.heap[w.heap.size + 2]? = some (.cells #[ptr fb] 123) := by
    rw [hW0, Below.heap_alloc _ _ _ (by simp only [World.size_alloc]; omega)]; have := heap_alloc_new ((w.alloc (.cells #[.pointer (some ⟨b, 0, none⟩)] 28)).alloc (.cells #[int x] 3)) (.cells #[ptr fb] 123)
    simpa using this
  have hb1 : W0.heap[w.heap.size + 1]? = some (.cells #[int x] 3) := by
    rw [hW0, Below.heap_alloc _ _ _ (by simp only [World.size_alloc]; omega), Below.heap_alloc _ _ _ (by simp only [World.size_alloc]; omega)]; have := heap_alloc_new (w.alloc (.cells #[.pointer (some ⟨b, 0, none⟩)] 28)) (.cells #[int x] 3)
    simpa using this
  have hb0 : W0.heap[w.heap.size]? = some (.cells #[.pointer (some ⟨b, 0, none⟩)] 28) := by
    rw [hW0, Below.heap_alloc _ _ _ (by simp only [World.size_alloc]; omega), Below.heap_alloc _ _ _ (by simp only [World.size_alloc]; omega), Below.heap_alloc _ _ _ (by simp only [World.size_alloc]; omega)]; exact heap_alloc_new w _
  have hcal : Calm w W0 := by rw [hW0]; exact ((((Touch.refl _ _).alloc _).alloc _).alloc _).alloc _
  have d0 : W0.cell? ⟨w.heap.size, 0, none⟩ = some (.pointer (some ⟨b, 0, none⟩)) := box_cell hb0 0
  have d1 : W0.cell? ⟨w.heap.size + 1, 0, none⟩ = some (int x) := box_cell hb1 0
  have d2 : W0.cell? ⟨w.heap.size + 1 + 1, 0, none⟩ = some (ptr fb) := box_cell hb2 0
  have e16 := hcal.cell (p := ⟨fb, 16, none⟩) (fun f => f) c16
  have e17 := hcal.cell (p := ⟨fb, 17, none⟩) (fun f => f) c17
  have e18 := hcal.cell (p := ⟨fb, 18, none⟩) (fun f => f) c18
  have HCAL := hide hcal
  have HB0 := hide hb0
  have HB1 := hide hb1
  have HB2 := hide hb2
  have HB3 := hide hb3
  clear hW0 hb0 hb1 hb2 hb3 hcal c16 c17 c18
  refine wpIn_mono (Q := Exit.then (fun a' w' => a' = { tmps := evTmps b x fb w.heap.size fr e, defers := [] } ∧ w' = (W0.drew.alloc (.cells #[.pointer (some ⟨b, 38 + x * 8, none⟩)] 158)).alloc (.cells #[int e.ev.f0, int e.ev.f1, int e.ev.f2] 23)) (fun _ _ _ => False)) (wpIn_wide.2 ?reg) ?rest
  case reg =>
    go_region_with (go_at_call 98; refine (wanting_any b (38 + x * 8) e.ev.f0 e.ev.f1 e.ev.f2 _).mono ?_; rintro r w1 ⟨rfl, rfl⟩)
    all_goals exact ⟨by simp [evTmps], rfl⟩
  case rest =>
    rintro ex a' w' hq
    cases ex with
    | ret => exact hq.elim
    | exit _ => exact hq.elim
    | goto _ => exact hq.elim
    | panic _ => exact hq.elim
    | outgrown => exact hq.elim
    | normal =>
    obtain ⟨rfl, rfl⟩ := hq
    obtain ⟨W1, hW1⟩ : ∃ W1, W1 = (W0.drew.alloc (.cells #[.pointer (some ⟨b, 38 + x * 8, none⟩)] 158)).alloc (.cells #[int e.ev.f0, int e.ev.f1, int e.ev.f2] 23) := ⟨_, rfl⟩
    rw [← hW1]
    gi_wp2
    have hW1s : W1.heap.size = w.heap.size + 6 := by
      rw [hW1]; simp only [World.size_alloc]; show W0.heap.size + 1 + 1 = _; omega
    have hcal1 : Calm W0 W1 := by rw [hW1]; exact (((Touch.refl _ _).drew).alloc _).alloc _
    have hb5 : W1.heap[w.heap.size + 5]? = some (.cells #[int e.ev.f0, int e.ev.f1, int e.ev.f2] 23) := by
      rw [hW1]; have := heap_alloc_new (W0.drew.alloc (.cells #[.pointer (some ⟨b, 38 + x * 8, none⟩)] 158)) (.cells #[int e.ev.f0, int e.ev.f1, int e.ev.f2] 23)
      rw [World.size_alloc, show W0.drew.heap.size = w.heap.size + 4 from hW0s] at this
      exact this
    have hb4 : W1.heap[w.heap.size + 4]? = some (.cells #[.pointer (some ⟨b, 38 + x * 8, none⟩)] 158) := by
      rw [hW1, Below.heap_alloc _ _ _ (by rw [World.size_alloc, show W0.drew.heap.size = w.heap.size + 4 from hW0s]; omega)]; have := heap_alloc_new W0.drew (.cells #[.pointer (some ⟨b, 38 + x * 8, none⟩)] 158)
      rw [show W0.drew.heap.size = w.heap.size + 4 from hW0s] at this
      exact this
    clear hW1
    have hcw : Calm w W1 := Touch.trans (unhide HCAL) hcal1
    -- what stands at the broker
    have hX1 := (unhide HX).calm hcw
    obtain ⟨ft, hst, hsa⟩ := stand_of hX1 G hx6
    have hb0 := (OnlyT.of_calm hcal1).cells _ _ _ (by decide) (unhide HB0)
    have hb1 := (OnlyT.of_calm hcal1).cells _ _ _ (by decide) (unhide HB1)
    have hb2 := (OnlyT.of_calm hcal1).cells _ _ _ (by decide) (unhide HB2)
    have hb3 : W1.heap[w.heap.size + 3]? = some (.cells #[.bool false, .bool false, .bool false, .bool false, .bool false, .bool false] 167) := (hcal1.block _ (by omega) (fun f => f)).trans (unhide HB3)
    have hseq : SeqStopsK (α := A8 (fun a => a.1 < 8 ∧ ∃ f kv, ft a.1 = some (f, a.2, kv) ∧ meets f.fl e.ev = true)) Fence.wide 3 Try.prog 104 #[ptr (w.heap.size + 4), ptr (w.heap.size + 5)] (fun a => #[ptr a.1.2]) Kp (fun xs => xs.map (·.1) = wantTo ft e.ev 8) (fun _ => True) 9 W1 := by
      intro l J Jx V hbl hJ _ hY h0
      refine (wanting1_in (fun a => a.1 < 8 ∧ ∃ f kv, ft a.1 = some (f, a.2, kv) ∧ meets f.fl e.ev = true) 3 (by omega) l b (38 + x * 8) (w.heap.size + 4) (w.heap.size + 5) ft e.ev (fun s f kb kv hs hft hmt => ⟨hs, f, kv, hft, hmt⟩) J Jx hY V hJ ?_ ?_ ?_ h0)
      · have : W1.cell? ⟨w.heap.size + 4, 0, none⟩ = some (.pointer (some ⟨b, 38 + x * 8, none⟩)) := box_cell hb4 0
        exact cell_of_heap (hbl.block _ (by omega)) this
      · exact (hbl.block _ (by omega)).trans hb5
      · exact ⟨fun s hs => cell_of_heap (hbl.block _ (hX1.lt b (by rw [hX1.net]; simp))) (hsa.cell s hs), fun s f kb kv hft => ⟨(hbl.block _ (Array.getElem?_eq_some_iff.1 (hsa.fact s f kb kv hft).1).1).trans (hsa.fact s f kb kv hft).1, (hsa.fact s f kb kv hft).2⟩⟩
    have HX1 := hide hX1
    have HSA := hide hsa
    have HST := hide hst
    have hCW := hide hcw
    have H0 := hide hb0
    have H1 := hide hb1
    have H2 := hide hb2
    have H3 := hide hb3
    clear hX1 hsa hst hcw hb0 hb1 hb2 hb3 hb4 hb5 hcal1 HB0 HB1 HB2 HB3 HCAL d0 d1 d2 e16 e17 e18
    refine wpIn_rangeFunc_ownG (n := 4) rfl (by omega) (gf := 104) (lb := #[ptr (w.heap.size + 4), ptr (w.heap.size + 5)]) rfl trivial (enters_of Try.func104 (by kernel_rfl) rfl) hseq (fun h k => h.trans k) (fun V l o o' _ hl ho _ => Kp.putObj hl ho) (Below.refl _ _) (fun _ => rfl)
      (fun pre V => ∃ ρ', EvI w W1 b ρ σ x e (pre.map (·.1.1)) ρ' V) (fun _ _ _ => False) ?hI (fun _ _ _ _ _ hs _ _ => hs) ?h0 (fun a => { tmps := evTmps2 b x fb w.heap.size fr e a.1.2, defers := [] }) ?assign ?body ?done ?stop
    case hI =>
      rintro pre V V' row ⟨ρ', hh⟩ hg hrow
      exact ⟨ρ', hh.own (by omega) hg hrow⟩
    case h0 =>
      refine ⟨ρ, unhide HX1, Mv.calm (unhide HX).lt (unhide hCW), fun k hB hk => ?_, OnlyT.refl _, Nat.le_refl _, ?_, unhide H3, Front.refl _ _⟩
      · have := (unhide HX).lt k hk; omega
      · intro k h1 h2
        cases hh : ρ k with
        | none => rfl
        | some r => have := (unhide HX).lt k (by rw [hh]; simp); omega
    case assign =>
      intro l a V K hK
      gi_wp2
      exact hK
    case body =>
      rintro l pre ⟨⟨s, kb⟩, hs8, f, kv, hft, hmt⟩ V ⟨ρ', hI⟩ hlt
      simp only at hs8 hft
      have hkn0 : σ.kn x s = some f := by have := unhide HST s hs8; rw [hft] at this; exact this
      have hsk : 2 * (s / 2) + s % 2 = s := by omega
      have hpl : (pre.map (·.1.1)).length < 9 := by simpa using hlt
      have hW' : Warm (σ.hears x e (pre.map (·.1.1))) (m + 9) := by
        have h1 := Warm.hears hx6 (pre.map (·.1.1)) (unhide HC) (unhide HE) (fun t ht => by
          obtain ⟨a, _, rfl⟩ := List.mem_map.1 ht
          exact a.2.1)
        obtain ⟨E, e1, e2⟩ := h1.news
        exact ⟨h1.live, h1.slack.weak (Nat.le_refl _) (by omega), h1.nums.weak (by omega), E, e1, fun o ho => (e2 o ho).weak (by omega)⟩
      obtain ⟨f', hkn', hco⟩ : ∃ f', (σ.hears x e (pre.map (·.1.1))).kn x s = some f' ∧ f'.co = f.co := by
        have h1 := hears_co x e (pre.map (·.1.1)) σ x s
        rw [hkn0] at h1
        cases hq : (σ.hears x e (pre.map (·.1.1))).kn x s with
        | none => rw [hq] at h1; cases h1
        | some g => rw [hq] at h1; exact ⟨g, rfl, Option.some.inj h1⟩
      have hfl' : f'.fl = f.fl := congrArg Co.fl hco
      have hwy' : f'.way = f.way := congrArg Co.way hco
      obtain ⟨cs', hkb, hkj⟩ := hI.only.known kb _ ((unhide HSA).fact s f kb kv hft).1
      have k13 : V.cell? ⟨kb, 13, none⟩ = some (int (whr f.way)) := by rw [box_cell hkb, hkj 13 (by omega)]; rfl
      have b0 : V.cell? ⟨w.heap.size, 0, none⟩ = some (.pointer (some ⟨b, 0, none⟩)) := box_cell (hI.only.cells _ _ 28 (by decide) (unhide H0)) 0
      have b1 : V.cell? ⟨w.heap.size + 1, 0, none⟩ = some (int x) := box_cell (hI.only.cells _ _ 3 (by decide) (unhide H1)) 0
      have b2 : V.cell? ⟨w.heap.size + 1 + 1, 0, none⟩ = some (ptr fb) := box_cell (hI.only.cells _ _ 123 (by decide) (unhide H2)) 0
      have hptr : V.cell? ⟨b, 38 + x * 8 + s / 2 * 2 + s % 2, none⟩ = some (ptr kb) := by
        have h1 := (unhide HSA).cell s hs8
        rw [show standV ft s = ptr kb by simp [standV, standP, hft]] at h1
        rw [show 38 + x * 8 + s / 2 * 2 + s % 2 = 38 + x * 8 + s by omega]
        exact hI.front _ _ (by omega) h1
      have hfb : FrAt V ρ' (.event e) fb := (unhide HF).mv (unhide HX).lt hI.mv (by simp [hearAll]) (by simp [hearAll])
      have HI' := hide hI
      have HFB := hide hfb
      have HW' := hide hW'
      have HPT := hide hptr
      have HKN' := hide hkn'
      have HKN0 := hide hkn0
      clear hI hfb hW' hptr hkb hkj hkn' hkn0
      cases hway : f.way with
      | none =>
        rw [hway] at k13 hwy'
        replace k13 : V.cell? ⟨kb, 13, none⟩ = some (int (-1)) := k13
        have hkL := (unhide HW').keptLe hx6 hs8 (unhide HKN')
        have hkF := (unhide HW').nums.kn _ _ _ (unhide HKN')
        have hkM := ((unhide HW').live.good.facts _ _ _ (unhide HKN')).more
        have hkMo := hkF.more
        have hkS := hkF.six
        gi_wp2_with (refine ⟨trivial, ?_⟩; gi_at_call 99; refine (CallsIn.inRound l (callsIn_wide.2 (tocX (ρ := ρ') (σ := σ.hears x e (pre.map (·.1.1))) (x := x) (c := s / 2) (k := s % 2) (e := e) (f := f') (unhide HI').net hx6 (by omega) (by omega) heok (by rw [hsk]; exact unhide HKN') (unhide HPT) (by rw [hfl']; exact hmt) hwy' (fun hh hwt => (unhide HW').told (by omega) hs8 (unhide HKN') hwy' hh hwt) (by omega) hkS (by omega) (unhide HFB)))).mono ?_; rintro r V4 ⟨rfl, ρ4, h4, m4, n4, o4, s4, f4⟩)
        rw [hsk] at h4
        obtain ⟨r1, r2, r3⟩ := (unhide HI').heard (by omega) (unhide HKN0) hway h4 m4 n4 o4 s4 f4
        exact ⟨by rw [← hW1s]; exact r2, r3, ρ4, by simpa using r1⟩
      | some y =>
        rw [hway] at k13 hwy'
        replace k13 : V.cell? ⟨kb, 13, none⟩ = some (int y) := k13
        have hyn := (G.facts x s f (unhide HKN0)).way y hway
        have hy6 := (near_lt6 T hyn).2
        have hyi : (y : Int) < 6 := by omega
        have hym : ¬ ((y : Int) = -1) := by omega
        have fcell : V.cell? ⟨w.heap.size + 1 + 1 + 1, y, none⟩ = some (.bool (flag σ x (pre.map (·.1.1)) y)) := (box_cell (unhide HI').flg y).trans (flags_at _ _ _ hy6)
        have ffr : V.frozen? ⟨w.heap.size + 1 + 1 + 1, y, none⟩ = false := box_frozen (unhide HI').flg y
        obtain ⟨r1, r2, r3⟩ := (unhide HI').flagged (by omega) (unhide HKN') hwy' (unhide HKN0) hway hy6
        have R1 := hide r1
        have R2 := hide r2
        have R3 := hide r3
        clear r1 r2 r3
        gi_wp2
        exact ⟨by rw [← hW1s]; exact unhide R2, unhide R3, ρ', by simpa using unhide R1⟩
    case done =>
      rintro D xs V hD hS ⟨ρ', hI⟩ hK
      have hmap : xs.map (·.1.1) = (wantTo ft e.ev 8).map (·.1) := by rw [← hS, List.map_map]; rfl
      have hst := hears_wanted (e := e) (unhide HST) 8 (Nat.le_refl _)
      have hnet := hI.net
      have hfl := hI.flg
      rw [hmap] at hnet hfl
      rw [← hst] at hnet
      obtain ⟨kp1, kp2, _⟩ := hears_keeps x e (List.range 8) σ
      obtain ⟨g, hgd⟩ : ∃ g : Nat → Bool, g = flag σ x ((wantTo ft e.ev 8).map (·.1)) := ⟨_, rfl⟩
      have hgnear : ∀ y, (decide (some y ≠ fr) && g y) = true → y < 6 → near σ.par x y = true := fun y hy hy6 => by
        refine (targets_near G (e := e) (fr := fr) (y := y) ?_).1
        rw [targets_flag (unhide HST), List.mem_filter, ← hgd]
        exact ⟨List.mem_range.2 hy6, hy⟩
      have f0 : V.cell? ⟨w.heap.size + 1 + 1 + 1, 0, none⟩ = some (.bool (g 0)) := by rw [hgd]; exact box_cell hfl 0
      have f1 : V.cell? ⟨w.heap.size + 1 + 1 + 1, 1, none⟩ = some (.bool (g 1)) := by rw [hgd]; exact box_cell hfl 1
      have f2 : V.cell? ⟨w.heap.size + 1 + 1 + 1, 2, none⟩ = some (.bool (g 2)) := by rw [hgd]; exact box_cell hfl 2
      have f3 : V.cell? ⟨w.heap.size + 1 + 1 + 1, 3, none⟩ = some (.bool (g 3)) := by rw [hgd]; exact box_cell hfl 3
      have f4 : V.cell? ⟨w.heap.size + 1 + 1 + 1, 4, none⟩ = some (.bool (g 4)) := by rw [hgd]; exact box_cell hfl 4
      have f5 : V.cell? ⟨w.heap.size + 1 + 1 + 1, 5, none⟩ = some (.bool (g 5)) := by rw [hgd]; exact box_cell hfl 5
      have b0 : V.heap[w.heap.size]? = some (.cells #[.pointer (some ⟨b, 0, none⟩)] 28) := hI.only.cells _ _ 28 (by decide) (unhide H0)
      have b1 : V.heap[w.heap.size + 1]? = some (.cells #[int x] 3) := hI.only.cells _ _ 3 (by decide) (unhide H1)
      have b2 : V.heap[w.heap.size + 2]? = some (.cells #[ptr fb] 123) := hI.only.cells _ _ 123 (by decide) (unhide H2)
      have hfb : FrAt V ρ' (.event e) fb := (unhide HF).mv (unhide HX).lt hI.mv (by simp [hearAll]) (by simp [hearAll])
      have hDn : ρ' D = none := by
        cases hh : ρ' D with
        | none => rfl
        | some r =>
          obtain ⟨cs, t, f', hc⟩ := hI.cells D hD (by rw [hh]; simp)
          rw [hK] at hc; cases hc
      have hfin : sendTo (σ.hears x e (List.range 8)) x fr g (.event e) 6 = σ.handle x fr (.event e) := by
        simp only [Net.handle, Net.happens, sendTo, targets_flag (unhide HST), ← hgd]; rfl
      have HFIN := hide hfin
      have HNET := hide hnet
      have HI' := hide hI
      have HK := hide hK
      have HB0 := hide b0
      have HB1 := hide b1
      have HB2 := hide b2
      have HFB := hide hfb
      have HDN := hide hDn
      clear hfin hnet hI hK b0 b1 b2 hfb hDn hst hfl hmap hS hgd
      gi_wp2
      clear f0 f1 f2 f3 f4 f5
      gi_loopw [40] (fun p wr => ∃ k : Nat, k ≤ 6 ∧ p = int k ∧ XN wr b ρ' (sendTo (σ.hears x e (List.range 8)) x fr g (.event e) k) ∧ Mv (fun o => ∃ y, o = .chan x y) ρ' ρ' V wr) (fun p _ => 6 - (intOf p).toNat)
      case atStart => exact ⟨0, by omega, rfl, unhide HNET, Mv.refl (unhide HNET).lt⟩
      case round =>
        obtain ⟨k, hk, rfl, hXk, hMk⟩ := hrel
        have hsu := sendTo_succ (σ.hears x e (List.range 8)) x fr g (.event e) k
        have hkeepN : ∀ i, i < V.heap.size → ρ' i = none → wr.heap[i]? = V.heap[i]? := fun i hi hn => hMk.touch.block i hi (fun ⟨r, h1, _⟩ => by rw [hn] at h1; cases h1)
        have HXK := hide hXk
        have HMK := hide hMk
        have HSU := hide hsu
        have HKN := hide hkeepN
        clear hXk hMk hsu hkeepN
        by_cases hlt6 : k < 6
        · have hki : (k : Int) < 6 := by omega
          have hix := fun w => idx167 g k hlt6 w
          simp only [six] at hix
          cases hgk : g k with
          | false =>
            rw [hgk] at hix
            gi_wp2
            refine ⟨⟨k + 1, by omega, by go_num, ?_, unhide HMK⟩, by simp [intOf]; omega⟩
            rw [unhide HSU, hgk, Bool.and_false]; exact unhide HXK
          | true =>
            rw [hgk] at hix
            cases hd : decide (some k ≠ fr) with
            | false =>
              have hneq : ((k : Int) != whr fr) = false := by rw [whr_ne, hd]
              gi_wp2
              refine ⟨⟨k + 1, by omega, by go_num, ?_, unhide HMK⟩, by simp [intOf]; omega⟩
              rw [unhide HSU, hd, Bool.false_and]; exact unhide HXK
            | true =>
              have hneq : ((k : Int) != whr fr) = true := by rw [whr_ne, hd]
              gi_wp2
              have hok : (decide (some k ≠ fr) && g k) = true := by rw [hd, hgk]; rfl
              have hnb := hgnear k hok hlt6
              have hV0 : w.heap.size + 6 ≤ V.heap.size := by have := (unhide HI').size; omega
              have hV := fun i (h1 : w.heap.size ≤ i) (h2 : i < W1.heap.size) => unhide HKN i (by omega) ((unhide HI').low i h1 h2)
              have d0 : wr.cell? ⟨w.heap.size, 0, none⟩ = some (.pointer (some ⟨b, 0, none⟩)) := box_cell ((hV _ (by omega) (by omega)).trans (unhide HB0)) 0
              have d1 : wr.cell? ⟨w.heap.size + 1, 0, none⟩ = some (int x) := box_cell ((hV _ (by omega) (by omega)).trans (unhide HB1)) 0
              have d2 : wr.cell? ⟨w.heap.size + 1 + 1, 0, none⟩ = some (ptr fb) := box_cell ((hV _ (by omega) (by omega)).trans (unhide HB2)) 0
              have hfbk := (unhide HFB).mv (unhide HNET).lt (unhide HMK) (by simp) (by simp)
              have hql : ((sendTo (σ.hears x e (List.range 8)) x fr g (.event e) k).q x k).length < 2000 := by rw [sendTo_q _ _ _ _ _ _ _ _ (Nat.le_refl _), kp2]; exact unhide HLEN k
              have hpar : (sendTo (σ.hears x e (List.range 8)) x fr g (.event e) k).par = σ.par := by rw [sendTo_par]; exact kp1
              have HFBK := hide hfbk
              clear hV hfbk
              refine wpIn_mono (Q := Exit.then (fun a' w' => a' = { tmps := evTmps3 b x fb w.heap.size fr e g k u57, defers := [{ target := Target.collected D, args := #[] }] } ∧ XN w' b ρ' ((sendTo (σ.hears x e (List.range 8)) x fr g (.event e) k).push x k (.event e)) ∧ Mv (fun o => ∃ y, o = .chan x y) ρ' ρ' V w') (fun _ _ _ => False)) (wpIn_wide.2 ?reg2) ?rest2
              case reg2 =>
                go_region_with (go_at_call 93; refine (sendX (x := x) (y := k) (f := .event e) (fb := fb) ((unhide HXK).calm (Touch.refl _ _).drew) hx6 hlt6 (by rw [hpar]; exact hnb) hql ((unhide HFBK).calm (unhide HXK).lt (Touch.refl _ _).drew)).mono ?_; rintro r w3 ⟨rfl, hX3, hM3⟩)
                all_goals exact ⟨rfl, hX3, (unhide HMK).trans ((Mv.calm (unhide HXK).lt (Touch.refl _ _).drew).trans (hM3.mono (fun r hr => ⟨k, hr⟩)))⟩
              case rest2 =>
                rintro ex a' w' hq
                cases ex with
                | ret => exact hq.elim
                | exit _ => exact hq.elim
                | goto _ => exact hq.elim
                | panic _ => exact hq.elim
                | outgrown => exact hq.elim
                | normal =>
                obtain ⟨rfl, hX3, hM3⟩ := hq
                have HX3 := hide hX3
                have HM3 := hide hM3
                clear hX3 hM3 d0 d1 d2
                gi_wp2
                refine ⟨⟨k + 1, by omega, by go_num, ?_, unhide HM3⟩, by simp [intOf]; omega⟩
                rw [unhide HSU, hok]; exact unhide HX3
        · have hki : ¬ (k : Int) < 6 := by omega
          have hk6 : k = 6 := by omega
          subst hk6
          gi_wp2
          have hKD : wr.heap[D]? = some (.deferred (some [])) := (unhide HKN D (Array.getElem?_eq_some_iff.1 (unhide HK)).1 (unhide HDN)).trans (unhide HK)
          refine ⟨by simp, .inl ⟨_, _, rfl, run_takeDeferred hKD, ?_⟩⟩
          have hT : Touch (fun i => i = D) wr (wr.putObj D (.deferred none)) := ⟨rfl, rfl, rfl, by simp [World.putObj], fun i hi hs => by simp only [World.putObj]; rw [Array.getElem?_setIfInBounds_ne (Ne.symm hs)]⟩
          have hXF := (unhide HXK).keep hT (fun i hi e => by subst e; exact hi (unhide HDN))
          rw [unhide HFIN] at hXF
          have hMF : Mv (fun r => hearAll x r ∨ ∃ y, r = .chan x y) ρ ρ' w (wr.putObj D (.deferred none)) := by
            have m1 := ((unhide HI').mv.mono (fun r hr => Or.inl hr)).trans ((unhide HMK).mono (S' := fun r => hearAll x r ∨ ∃ y, r = .chan x y) (fun r hr => Or.inr hr))
            have hDw : w.heap.size ≤ D := by omega
            exact ⟨⟨hT.os.trans m1.touch.os, hT.tape.trans m1.touch.tape, hT.output.trans m1.touch.output, Nat.le_trans m1.touch.size hT.size, fun i hi hs => (hT.block i (Nat.lt_of_lt_of_le hi m1.touch.size) (by omega)).trans (m1.touch.block i hi hs)⟩, m1.role, fun i hi => Nat.lt_of_lt_of_le (m1.lt i hi) hT.size⟩
          exact ⟨_, results_none rfl _ _ _, rfl, ρ', hXF, hMF⟩
    case stop =>
      rintro D c pre V _ _ hh _
      exact hh.elim

end Go.Proofs.Ytodfcpblcpogiaa

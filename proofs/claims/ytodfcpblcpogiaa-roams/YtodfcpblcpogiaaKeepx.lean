/-
  Keeping, as the net knows it.
-/
import Derived.Test.YtodfcpblcpogiaaSub
namespace Go.Proofs.Ytodfcpblcpogiaa
open Go.RowKit

set_option maxRecDepth 100000 in
set_option maxHeartbeats 1000000 in
theorem keep_full (kb cap : Nat) (a : Option Addr) (mo n0 n1 n2 n3 n4 n5 n6 n7 : Int) (w : World) (h14 : w.cell? ⟨kb, 14, none⟩ = some (.bool false)) (h15 : w.cell? ⟨kb, 15, none⟩ = some (.slice a 6 cap)) (h16 : w.cell? ⟨kb, 16, none⟩ = some (int mo)) (hfr : ∀ o, w.frozen? ⟨kb, o, none⟩ = false) :
    Calls Try.prog 106 #[ptr kb, .agg #[int n0, int n1, int n2, int n3, int n4, int n5, int n6, int n7]] w fun e w' => e = .returned (.tuple #[]) ∧ Calm (w.setCell ⟨kb, 16, none⟩ (int (wrap64 (mo + 1)))) w' := by
  have hb := block_lt_of_cell h14
  simp only at hb
  go_enter Try.func106, Try.ntmps106
  go_wp2
  refine bodyPost_ret (v := .tuple #[]) (by simp [results, Try.results106, go_sem]) rfl ⟨rfl, (Touch.refl _ _).alloc _⟩

theorem goInt_small {m : Nat} (_h : m < 2199023255552) : goInt (m : Int) = int m := by
  simp only [goInt]
theorem len_row {w : World} {base : Nat} {e : TypeId} {size m : Nat} {kv : Value} {cells : List Value} (h : w.ownsRow base e size kv m cells) (hm : m < 2199023255552) (W : World) : (Builtin.len_ #[124] 3 #[kv]).run Try.prog W = .ok (int m) W := by
  rcases h.2 with ⟨rfl, rfl⟩ | ⟨g, cap, cur, rfl, _⟩
  · simp [Builtin.len_, run_underlying Try.underlying124]; rfl
  · simp [Builtin.len_, run_underlying Try.underlying124, goInt_small hm]

set_option maxRecDepth 100000 in
set_option maxHeartbeats 1000000 in
theorem keep_room (kb m : Nat) (kv : Value) (cells : List Value) (wt : Bool) (n0 n1 n2 n3 n4 n5 n6 n7 : Int) (w : World) (h14 : w.cell? ⟨kb, 14, none⟩ = some (.bool wt)) (h15 : w.cell? ⟨kb, 15, none⟩ = some kv) (hfr : ∀ o, w.frozen? ⟨kb, o, none⟩ = false)
    (hroom : wt = true ∨ m ≠ 6) (hrow : w.ownsRow 0 163 8 kv m cells) (hmm : m < 2199023255552) (hvb : kv.ownBlock ≠ some kb) :
    Calls Try.prog 106 #[ptr kb, .agg #[int n0, int n1, int n2, int n3, int n4, int n5, int n6, int n7]] w fun e w' => e = .returned (.tuple #[]) ∧
      ∃ w1 w2 g cap, Calm w w1 ∧ Grew 0 163 8 kv (m + 1) (cells ++ [int n0, int n1, int n2, int n3, int n4, int n5, int n6, int n7]) w1 g cap w2 ∧ w' = w2.setCell ⟨kb, 15, none⟩ (.slice (some ⟨g, 0, none⟩) (m + 1) cap) := by
  have hb := block_lt_of_cell h14
  simp only at hb
  obtain ⟨W, hW⟩ : ∃ W, w.alloc (.cells #[int n0, int n1, int n2, int n3, int n4, int n5, int n6, int n7] 163) = W := ⟨_, rfl⟩
  have hcal : Calm w W := by rw [← hW]; exact (Touch.refl _ _).alloc _
  have hb0 : W.heap[w.heap.size]? = some (.cells #[int n0, int n1, int n2, int n3, int n4, int n5, int n6, int n7] 163) := by rw [← hW]; exact heap_alloc_new w _
  have c0 : W.cell? ⟨w.heap.size, 0, none⟩ = some (int n0) := box_cell hb0 0
  have c1 : W.cell? ⟨w.heap.size, 1, none⟩ = some (int n1) := box_cell hb0 1
  have c2 : W.cell? ⟨w.heap.size, 2, none⟩ = some (int n2) := box_cell hb0 2
  have c3 : W.cell? ⟨w.heap.size, 3, none⟩ = some (int n3) := box_cell hb0 3
  have c4 : W.cell? ⟨w.heap.size, 4, none⟩ = some (int n4) := box_cell hb0 4
  have c5 : W.cell? ⟨w.heap.size, 5, none⟩ = some (int n5) := box_cell hb0 5
  have c6 : W.cell? ⟨w.heap.size, 6, none⟩ = some (int n6) := box_cell hb0 6
  have c7 : W.cell? ⟨w.heap.size, 7, none⟩ = some (int n7) := box_cell hb0 7
  have d14 := hcal.cell (p := ⟨kb, 14, none⟩) (fun f => f) h14
  have d15 := hcal.cell (p := ⟨kb, 15, none⟩) (fun f => f) h15
  have hWs : W.heap.size = w.heap.size + 1 := by rw [← hW]; simp
  have hfz : ∀ o', W.frozen? ⟨kb, o', none⟩ = false := fun o' => (World.frozen?_of_block (w := w) (a := ⟨kb, o', none⟩) (hcal.block kb hb (fun f => f))).trans (hfr o')
  have hone : kv.oneCell' = true := by
    rcases hrow.2 with ⟨rfl, _⟩ | ⟨g, cap, cur, rfl, _⟩ <;> rfl
  have hz : (Builtin.len_ #[124] 3 #[kv]).run Try.prog W = .ok (int m) W := len_row hrow hmm W
  have hbW : kb < W.heap.size := by omega
  have hwW : w.heap.size < W.heap.size := by omega
  have HWS := hide hWs
  have HR := hide hrow
  have HC := hide hcal
  have HFZ := hide hfz
  clear hWs hrow hb0 hcal hfz h14 h15 hfr
  obtain ⟨ti, i3, z3, s3, b3⟩ := elem163
  have I3 := hide i3
  have Z3 := hide z3
  have S3 := hide s3
  have B3 := hide b3
  clear i3 z3 s3 b3
  have hcase : (wt = true) ∨ (wt = false ∧ ((m : Int) == 6) = false) := by
    rcases hroom with h | h
    · exact Or.inl h
    · cases wt
      · exact Or.inr ⟨rfl, by simp; omega⟩
      · exact Or.inl rfl
  rcases hcase with rfl | ⟨rfl, h6⟩
  all_goals
    go_enter Try.func106, Try.ntmps106
    go_wp2
    clear hW
    go_region_law (first
        | (refine step_append_mine _ rfl _ _ 124 rfl 0 163 ti (.agg #[int 0, int 0, int 0, int 0, int 0, int 0, int 0, int 0]) 8 64 Try.underlying124 (unhide I3) (unhide Z3) (unhide S3) (unhide B3) rfl (by decide) kv m cells rfl ?own ⟨W.heap.size, 0, none⟩ 1 1 [int n0, int n1, int n2, int n3, int n4, int n5, int n6, int n7] rfl rfl ?news ?one (by decide) ?h63 ?bytes ?base ?_
           case own => exact ownsRow_keep (unhide HR) ((((unhide HC)).alloc _).drew) (fun _ _ f => f)
           case news => intro j u hj; exact new_cells W [int n0, int n1, int n2, int n3, int n4, int n5, int n6, int n7] 163 j u hj
           case one => intro u hu; simp at hu; rcases hu with rfl | rfl | rfl | rfl | rfl | rfl | rfl | rfl <;> rfl
           case h63 => unfold maxLen; omega
           case bytes => omega
           case base => simp
           intro g2 cp2 w2 hg2
           have hne : ¬ kb = g2 := by
             rcases hg2.2.1 with ⟨h, _⟩ | ⟨h, _⟩
             · intro e; exact hvb (by rw [h, e])
             · have := unhide HWS; simp at h; omega
           have ht2 : Touch (fun i => i = g2) W w2 := by
             rcases hg2.2.1 with ⟨_, h⟩ | ⟨_, h⟩
             · exact Touch.trans (((Touch.refl _ _).alloc _).drew) h
             · exact (((Touch.refl (fun i => i = g2) W).alloc _).drew).calm h
           have dl2 : w2.cell? ⟨kb, 15, none⟩ = some kv := ht2.cell (p := ⟨kb, 15, none⟩) hne d15
           have fz2 : w2.frozen? ⟨kb, 15, none⟩ = false := (World.frozen?_of_block (w := W) (a := ⟨kb, 15, none⟩) (ht2.block kb (by have := unhide HWS; omega) hne)).trans (unhide HFZ _)
           have HG2 := hide hg2
           clear hg2 ht2))
    all_goals first | go_end0 | go_ret2 | go_ret
    all_goals
      exact ⟨rfl, _, w2, g2, cp2, (((unhide HC).alloc _).drew), unhide HG2, rfl⟩

def keepR (x s : Nat) (r : Role) : Prop := r = .known x s ∨ r = .kept x s
/-- The roles that hearing turns. -/
def hearR (x c k : Nat) (r : Role) : Prop := tellR c k r ∨ keepR x (2 * c + k) r

/-- What is known of a subscription turns, in its block. -/
theorem XN.turnKn {w W : World} {b : Nat} {ρ ρ' : Nat → Option Role} {σ : Net} (h : XN w b ρ σ) {x c k kb : Nat} (hx : x < 6) (hc : c < 4) (hk : k < 2) {f' : Fact} {kv' : Value} (hptr : w.cell? ⟨b, 38 + x * 8 + c * 2 + k, none⟩ = some (ptr kb)) (hrb : ρ kb = some (.known x (2 * c + k)))
    (m : Mv (keepR x (2 * c + k)) ρ ρ' w W) (hblk : W.heap[kb]? = some (.cells (encKn (2 * c + k) f' kv').toArray 160)) (hrow : RowAt W ρ' (.kept x (2 * c + k)) 163 8 f'.kept.length (f'.kept.flatMap (noteOf ((2 * c + k) % 2))) kv') : XN W b ρ' (σ.know x (2 * c + k) (some f')) := by
  have hb := Mv.keeps h.lt m h.net (by simp [keepR])
  refine h.step m (fun _ => False) (by rw [hb.1]; exact h.typ) (fun o => (World.frozen?_of_block (w := w) (a := ⟨b, o, none⟩) hb.1).trans (h.fr o)) (fun o v _ hv => cell_of_heap hb.1 hv) rfl rfl id id (by simp [keepR]) (by simp [keepR]) (by simp [keepR])
    (fun u v _ _ => Or.inl ⟨rfl, id, by simp [keepR]⟩) (fun u d j hu hd hj => ?_) (fun d hd => Or.inl ⟨rfl, fun o _ _ => id, fun _ => by simp [keepR], by simp [keepR]⟩)
  by_cases e : u = x ∧ 2 * d + j = 2 * c + k
  · right
    obtain ⟨rfl, e⟩ := e
    have : d = c := by omega
    have : j = k := by omega
    subst_vars
    refine ⟨_, cell_of_heap hb.1 hptr, ?_⟩
    simp only [Net.know, put2_same]
    exact ⟨kb, kv', rfl, (Mv.keeps' h.lt m hrb).trans hrb, hblk, hrow⟩
  · left
    refine ⟨by simp only [Net.know, put2_other _ _ e], id, ?_, ?_⟩
    · simp only [keepR, Role.known.injEq, reduceCtorEq, or_false]; exact e
    · simp only [keepR, Role.kept.injEq, reduceCtorEq, false_or]; exact e

/-- What is known and kept, behind one event more. -/
def keepF (f : Fact) (e : News) : Fact := if (f.waits || decide (f.kept.length < 6)) = true then { f with kept := f.kept ++ [e] } else { f with more := f.more + 1 }

/-- Rows of one's own, and where they lie. -/
theorem RowAt.lt {w : World} {ρ : Nat → Option Role} {r : Role} {e : TypeId} {size n : Nat} {cells : List Value} {v : Value} (h : RowAt w ρ r e size n cells v) {g : Nat} (hg : v.ownBlock = some g) : g < w.heap.size ∧ ∃ cur, w.heap[g]? = some (.cells cur e) := by
  rcases h.1.2 with ⟨rfl, _⟩ | ⟨g', cap, cur, rfl, _, h2, _⟩
  · cases hg
  · cases hg; exact ⟨(Array.getElem?_eq_some_iff.1 h2).1, cur, h2⟩

set_option maxHeartbeats 400000 in
/-- KEEP. -/
theorem keepX {w : World} {b : Nat} {ρ : Nat → Option Role} {σ : Net} (h : XN w b ρ σ) {x c k kb : Nat} (hx : x < 6) (hc : c < 4) (hk : k < 2) {f : Fact} (hkn : σ.kn x (2 * c + k) = some f) (hptr : w.cell? ⟨b, 38 + x * 8 + c * 2 + k, none⟩ = some (ptr kb))
    {e : News} (hlen : f.kept.length < 2199023255552) (hsix : f.waits = false → f.kept.length ≤ 6) (hmo : 0 ≤ f.more ∧ f.more < 2199023255552) :
    Calls Try.prog 106 #[ptr kb, .agg #[int k, int 0, int e.ev.pub, int e.ev.num, int e.ev.f0, int e.ev.f1, int e.ev.f2, int e.stay]] w fun r w' => r = .returned (.tuple #[]) ∧
      ∃ ρ', XN w' b ρ' (σ.know x (2 * c + k) (some (keepF f e))) ∧ Mv (keepR x (2 * c + k)) ρ ρ' w w' ∧ (∀ i, w.heap.size ≤ i → ρ' i ≠ none → ∃ cs t f, w'.heap[i]? = some (.cells cs t f)) ∧ OnlyT w w' ∧ StayC w w' ∧ Front b w w' := by
  obtain ⟨v, hv1, hv2⟩ := h.known x c k hx hc hk
  rw [hkn] at hv2
  obtain ⟨kb', kv, rfl, hrb, hblk, hrow⟩ := hv2
  have : kb' = kb := by rw [hptr] at hv1; cases hv1; rfl
  subst this
  have hkbl := h.lt kb' (by rw [hrb]; simp)
  have c14 : w.cell? ⟨kb', 14, none⟩ = some (.bool f.waits) := box_cell hblk 14
  have c15 : w.cell? ⟨kb', 15, none⟩ = some kv := box_cell hblk 15
  have c16 : w.cell? ⟨kb', 16, none⟩ = some (int f.more) := box_cell hblk 16
  have hfr : ∀ o, w.frozen? ⟨kb', o, none⟩ = false := fun o => box_frozen hblk o
  by_cases hroom : (f.waits || decide (f.kept.length < 6)) = true
  · have hF : keepF f e = { f with kept := f.kept ++ [e] } := by simp only [keepF, hroom, if_true]
    rw [hF]
    have hvb : kv.ownBlock ≠ some kb' := fun he => by have := hrow.2 kb' he; rw [hrb] at this; cases this
    refine (keep_room kb' f.kept.length kv _ f.waits _ _ _ _ _ _ _ _ w c14 c15 hfr ?_ hrow.1 hlen hvb).mono ?_
    · simp only [Bool.or_eq_true, decide_eq_true_eq] at hroom
      exact hroom.imp id (fun h => by omega)
    · rintro r w' ⟨rfl, w1, w2, g, cap, t1, hg, rfl⟩
      refine ⟨rfl, roleAt ρ g (.kept x (2 * c + k)), ?_⟩
      obtain ⟨gown, gt, glt⟩ := hg
      have hgr : (ρ g = some (.kept x (2 * c + k)) ∧ kv.ownBlock = some g) ∨ w.heap.size ≤ g := by
        rcases gt with ⟨hv, _⟩ | ⟨hv, _⟩
        · exact Or.inl ⟨hrow.2 g hv, hv⟩
        · right; rw [hv]; exact t1.size
      have hgk : g ≠ kb' := by
        rcases hgr with ⟨h1, _⟩ | h1
        · intro e1; subst e1; rw [hrb] at h1; cases h1
        · omega
      have t2 : Touch (fun i => i = g) w1 w2 := by
        rcases gt with ⟨_, t⟩ | ⟨_, t⟩
        · exact t
        · exact t.mono (fun _ _ f => f.elim)
      have hkeep : ∀ i, i < w.heap.size → i ≠ g → w2.heap[i]? = w.heap[i]? := fun i hi h2 => (t2.block i (Nat.lt_of_lt_of_le hi t1.size) h2).trans (t1.block i hi (fun f => f))
      obtain ⟨W, hW⟩ : ∃ W, W = w2.setCell ⟨kb', 15, none⟩ (.slice (some ⟨g, 0, none⟩) (f.kept.length + 1) cap) := ⟨_, rfl⟩
      rw [← hW]
      have hWk : ∀ i, i ≠ kb' → W.heap[i]? = w2.heap[i]? := fun i hi => by rw [hW]; exact heap_setCell_other w2 _ hi
      have hWs : W.heap.size = w2.heap.size := by rw [hW]; simp [World.setCell]
      have hblk2 : w2.heap[kb']? = some (.cells (encKn (2 * c + k) f kv).toArray 160) := (hkeep kb' hkbl (Ne.symm hgk)).trans hblk
      have hblkW : W.heap[kb']? = some (.cells (encKn (2 * c + k) { f with kept := f.kept ++ [e] } (.slice (some ⟨g, 0, none⟩) (f.kept.length + 1) cap)).toArray 160) := by
        rw [hW, heap_setCell_same _ _ _ _ _ _ hblk2]; rfl
      have hrole : ∀ i, i < w.heap.size → roleAt ρ g (.kept x (2 * c + k)) i = ρ i := fun i hi => by
        unfold roleAt; split
        · rename_i e1; subst e1
          rcases hgr with ⟨h1, _⟩ | h1
          · exact h1.symm
          · omega
        · rfl
      have hmv : Mv (keepR x (2 * c + k)) ρ (roleAt ρ g (.kept x (2 * c + k))) w W := by
        refine ⟨⟨?_, ?_, ?_, ?_, fun i hi hs => ?_⟩, fun i hi => Or.inl (hrole i hi), fun i hi => ?_⟩
        · rw [hW]; exact t2.os.trans t1.os
        · rw [hW]; exact t2.tape.trans t1.tape
        · rw [hW]; exact t2.output.trans t1.output
        · rw [hWs]; exact Nat.le_trans t1.size t2.size
        · have h1 : i ≠ kb' := fun e1 => hs ⟨_, by rw [e1]; exact hrb, Or.inl rfl⟩
          have h3 : i ≠ g := fun e1 => by
            subst e1
            rcases hgr with ⟨h3, _⟩ | h3
            · exact hs ⟨_, h3, Or.inr rfl⟩
            · omega
          exact (hWk i h1).trans (hkeep i hi h3)
        · rw [hWs]
          unfold roleAt at hi
          split at hi
          · rename_i e1; rw [e1]; exact glt
          · exact Nat.lt_of_lt_of_le (h.lt i hi) (Nat.le_trans t1.size t2.size)
      have hgc : ∃ cur, W.heap[g]? = some (.cells cur 163) := by
        rcases gown.2 with ⟨a2, _⟩ | ⟨g', cap', cur, a3, a4, a5, a6⟩
        · cases a2
        · cases a3; exact ⟨cur, (hWk g hgk).trans a5⟩
      have hrowW : RowAt W (roleAt ρ g (.kept x (2 * c + k))) (.kept x (2 * c + k)) 163 8 (f.kept ++ [e]).length ((f.kept ++ [e]).flatMap (noteOf ((2 * c + k) % 2))) (.slice (some ⟨g, 0, none⟩) (f.kept.length + 1) cap) := by
        have hkk : (2 * c + k) % 2 = k := by omega
        rw [hkk]
        rw [hkk] at gown
        refine ⟨?_, fun g' hg' => by cases hg'; simp [roleAt]⟩
        have : (f.kept ++ [e]).length = f.kept.length + 1 := by simp
        rw [this, List.flatMap_append]
        simp only [List.flatMap_cons, List.flatMap_nil, List.append_nil]
        obtain ⟨a1, a2⟩ := gown
        refine ⟨a1, ?_⟩
        rcases a2 with ⟨a2, _⟩ | ⟨g', cap', cur, a3, a4, a5, a6⟩
        · cases a2
        · cases a3
          exact Or.inr ⟨g, cap, cur, rfl, a4, (hWk g hgk).trans a5, a6⟩
      refine ⟨h.turnKn hx hc hk hptr hrb hmv hblkW hrowW, hmv, fun i hi hne => ?_, ⟨fun i cs t hf hi => ?_, fun i cs hi => ?_⟩, fun i hi => ?_, fun o v _ hv => cell_of_heap (Mv.keeps h.lt hmv h.net (by simp [keepR])).1 hv⟩
      · unfold roleAt at hne
        split at hne
        · rename_i hig; rw [hig]; obtain ⟨cur, hc'⟩ := hgc; exact ⟨cur, 163, _, hc'⟩
        · exact absurd (h.lt i hne) (by omega)
      · have hil := (Array.getElem?_eq_some_iff.1 hi).1
        have e1 : i ≠ kb' := fun e => by subst e; rw [hblk] at hi; cases hi; exact hf.2.2.2.1 rfl
        have e2 : i ≠ g := fun e => by
          subst e
          rcases hgr with ⟨_, h3⟩ | h3
          · obtain ⟨_, cur, h4⟩ := hrow.lt h3
            rw [h4] at hi; cases hi; exact hf.2.2.2.2 rfl
          · omega
        exact ((hWk i e1).trans (hkeep i hil e2)).trans hi
      · have hil := (Array.getElem?_eq_some_iff.1 hi).1
        have e2 : i ≠ g := fun e => by
          subst e
          rcases hgr with ⟨_, h3⟩ | h3
          · obtain ⟨_, cur, h4⟩ := hrow.lt h3
            rw [h4] at hi; cases hi
          · omega
        by_cases e1 : i = kb'
        · subst e1
          rw [hblk] at hi; cases hi
          refine ⟨_, hblkW, fun j hj => ?_⟩
          simp only [encKn, List.getElem?_toArray]
          have : ∀ (l a b : List Value), l.length = 15 → (l ++ a)[j]? = (l ++ b)[j]? := fun l a b hl => by rw [List.getElem?_append_left (by omega), List.getElem?_append_left (by omega)]
          have h15 : ∀ (kv : Value) (mo : Value), ([int ((2 * c + k) / 2 : Nat), int ((2 * c + k) % 2 : Nat), int f.age] ++ encFil f.fl ++ [int (whr f.way), Value.bool f.waits, kv, mo]) = ([int ((2 * c + k) / 2 : Nat), int ((2 * c + k) % 2 : Nat), int f.age] ++ encFil f.fl ++ [int (whr f.way), Value.bool f.waits]) ++ [kv, mo] := fun kv mo => by simp
          rw [h15, h15]
          exact this _ _ _ (by simp [encFil, Tst.enc])
        · exact ⟨cs, ((hWk i e1).trans (hkeep i hil e2)).trans hi, fun _ _ => rfl⟩
      · obtain ⟨cs, t, fz, hi'⟩ := hi
        have hil := (Array.getElem?_eq_some_iff.1 hi').1
        by_cases e1 : i = kb'
        · subst e1; exact ⟨_, _, _, hblkW⟩
        · by_cases e2 : i = g
          · subst e2; obtain ⟨cur, hc'⟩ := hgc; exact ⟨cur, 163, _, hc'⟩
          · exact ⟨cs, t, fz, ((hWk i e1).trans (hkeep i hil e2)).trans hi'⟩
  · have hF : keepF f e = { f with more := f.more + 1 } := by simp only [keepF, if_neg hroom]
    rw [hF]
    simp only [Bool.or_eq_true, decide_eq_true_eq, not_or, Bool.not_eq_true] at hroom
    have h6 : f.kept.length = 6 := by have := hsix hroom.1; omega
    obtain ⟨a, cap, hkv⟩ : ∃ a cap, kv = .slice a 6 cap := by
      rcases hrow.1.2 with ⟨rfl, h0⟩ | ⟨g, cap, cur, rfl, _⟩
      · omega
      · exact ⟨_, _, by rw [h6]⟩
    rw [hroom.1] at c14
    rw [hkv] at c15
    refine (keep_full kb' cap a f.more _ _ _ _ _ _ _ _ w c14 c15 c16 hfr).mono ?_
    rintro r w' ⟨rfl, t1⟩
    rw [show wrap64 (f.more + 1) = f.more + 1 by simp only [wrap64]; omega] at t1
    obtain ⟨W, hW⟩ : ∃ W, W = w.setCell ⟨kb', 16, none⟩ (int (f.more + 1)) := ⟨_, rfl⟩
    rw [← hW] at t1
    have hblkW : W.heap[kb']? = some (.cells (encKn (2 * c + k) { f with more := f.more + 1 } kv).toArray 160) := by
      rw [hW, heap_setCell_same _ _ _ _ _ _ hblk]; rfl
    have hWk : ∀ i, i ≠ kb' → W.heap[i]? = w.heap[i]? := fun i hi => by rw [hW]; exact heap_setCell_other w _ hi
    have hmv : Mv (keepR x (2 * c + k)) ρ ρ w W := by rw [hW]; exact Mv.setCell (S := keepR x (2 * c + k)) h.lt hrb (Or.inl rfl) _ _
    have hX := h.turnKn (f' := { f with more := f.more + 1 }) hx hc hk hptr hrb hmv hblkW (hrow.keep (fun g hg => ⟨hWk g (fun e => by subst e; rw [hrb] at hg; cases hg), rfl⟩))
    have hWs : W.heap.size = w.heap.size := by rw [hW]; simp [World.setCell]
    have hot : OnlyT w W := ⟨fun i cs t hf hi => (hWk i (fun e => by subst e; rw [hblk] at hi; cases hi; exact hf.2.2.2.1 rfl)).trans hi, fun i cs hi => by
      by_cases e1 : i = kb'
      · subst e1
        rw [hblk] at hi; cases hi
        refine ⟨_, hblkW, fun j hj => ?_⟩
        simp only [encKn, List.getElem?_toArray]
        have : ∀ (l a b : List Value), l.length = 15 → (l ++ a)[j]? = (l ++ b)[j]? := fun l a b hl => by rw [List.getElem?_append_left (by omega), List.getElem?_append_left (by omega)]
        have h15 : ∀ (kv : Value) (mo : Value), ([int ((2 * c + k) / 2 : Nat), int ((2 * c + k) % 2 : Nat), int f.age] ++ encFil f.fl ++ [int (whr f.way), Value.bool f.waits, kv, mo]) = ([int ((2 * c + k) / 2 : Nat), int ((2 * c + k) % 2 : Nat), int f.age] ++ encFil f.fl ++ [int (whr f.way), Value.bool f.waits]) ++ [kv, mo] := fun kv mo => by simp
        rw [h15, h15]
        exact this _ _ _ (by simp [encFil, Tst.enc])
      · exact ⟨cs, (hWk i e1).trans hi, fun _ _ => rfl⟩⟩
    have hst : StayC w W := fun i ⟨cs, t, fz, hi'⟩ => by
      by_cases e1 : i = kb'
      · subst e1; exact ⟨_, _, _, hblkW⟩
      · exact ⟨cs, t, fz, (hWk i e1).trans hi'⟩
    exact ⟨rfl, ρ, hX.calm t1, hmv.trans (hX.mvCalm t1), fun i hi hne => absurd (h.lt i hne) (by omega), hot.trans (OnlyT.of_calm t1), hst.trans (StayC.of_calm t1), Front.trans (fun o v _ hv => cell_of_heap (Mv.keeps h.lt hmv h.net (by simp [keepR])).1 hv) (Front.of_calm t1)⟩

end Go.Proofs.Ytodfcpblcpogiaa

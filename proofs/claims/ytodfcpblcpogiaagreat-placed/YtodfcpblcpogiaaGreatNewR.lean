/-
  The document's New.
-/
import Derived.Test.YtodfcpblcpogiaaGreatNewX
import Derived.Deep.RegionLaw
namespace Go.Proofs.YtodfcpblcpogiaaGreat
open Go.RowKit

/-- The document's net, its clients' cells as lists, its parents a slice value. -/
structure RQ (w : World) (b : Nat) (v : Value) (cl : Nat → List Value) : Prop where
  par : w.cell? ⟨b, 0, none⟩ = some v
  frames : w.cell? ⟨b, 1, none⟩ = some (.slice none 0 0)
  facts : w.cell? ⟨b, 2, none⟩ = some (.slice none 0 0)
  cls : ∀ c, c < 4 → w.rangeAt b (3 + c * 13) (cl c) ∧ (cl c).length = 13
  closed : w.cell? ⟨b, 55, none⟩ = some (.bool false)
  fr : ∀ o, w.frozen? ⟨b, o, none⟩ = false

theorem RQ.keep {S : Nat → Prop} {w w' : World} {b : Nat} {v : Value} {cl : Nat → List Value} (h : RQ w b v cl) (t : Touch S w w') (hb : ¬ S b) : RQ w' b v cl := by
  have hc : ∀ o v, w.cell? ⟨b, o, none⟩ = some v → w'.cell? ⟨b, o, none⟩ = some v := fun o v hv => t.cell (p := ⟨b, o, none⟩) hb hv
  exact ⟨hc _ _ h.par, hc _ _ h.frames, hc _ _ h.facts, fun c k => ⟨fun j v hj => hc _ _ ((h.cls c k).1 j v hj), (h.cls c k).2⟩, hc _ _ h.closed,
    fun o => (World.frozen?_of_block (w := w) (a := ⟨b, o, none⟩) (t.block b (block_lt_of_cell h.closed) hb)).trans (h.fr o)⟩

theorem RQ.calm {w w' : World} {b : Nat} {v : Value} {cl : Nat → List Value} (h : RQ w b v cl) (t : Calm w w') : RQ w' b v cl := h.keep t (fun f => f)

theorem RQ.set {w : World} {b : Nat} {u : Value} {cl : Nat → List Value} (h : RQ w b u cl) (k j : Nat) (hk : k < 4) (hj : j < 13) (v : Value) :
    RQ (w.setCell ⟨b, 3 + k * 13 + j, none⟩ v) b u (fun c => if c = k then (cl k).set j v else cl c) := by
  have hne : ∀ o' u, w.cell? ⟨b, o', none⟩ = some u → o' ≠ 3 + k * 13 + j → (w.setCell ⟨b, 3 + k * 13 + j, none⟩ v).cell? ⟨b, o', none⟩ = some u := fun o' u hu hn =>
    (World.cell?_setCell_other w _ _ _ (by intro e; have := congrArg Addr.off e; exact hn this.symm)).trans hu
  refine ⟨hne _ _ h.par (by omega), hne _ _ h.frames (by omega), hne _ _ h.facts (by omega), fun c hc => ?_, hne _ _ h.closed (by omega), fun o' => by rw [World.frozen?_setCell]; exact h.fr o'⟩
  by_cases e : c = k
  · subst e
    simp only [if_true]
    exact ⟨rangeAt_set (h.cls c hc).1 j v, by rw [List.length_set]; exact (h.cls c hc).2⟩
  · simp only [if_neg e]
    exact ⟨rangeAt_other (h.cls c hc).1 (by have := (h.cls c hc).2; omega) v, (h.cls c hc).2⟩

theorem RQ.setPar {w : World} {b : Nat} {u : Value} {cl : Nat → List Value} (h : RQ w b u cl) (v : Value) : RQ (w.setCell ⟨b, 0, none⟩ v) b v cl := by
  have hne : ∀ o' u, w.cell? ⟨b, o', none⟩ = some u → o' ≠ 0 → (w.setCell ⟨b, 0, none⟩ v).cell? ⟨b, o', none⟩ = some u := fun o' u hu hn =>
    (World.cell?_setCell_other w _ _ _ (by intro e; have := congrArg Addr.off e; exact hn this.symm)).trans hu
  exact ⟨World.cell?_setCell_same w _ _ h.par, hne _ _ h.frames (by omega), hne _ _ h.facts (by omega), fun c hc => ⟨rangeAt_other (h.cls c hc).1 (by omega) v, (h.cls c hc).2⟩, hne _ _ h.closed (by omega), fun o' => by rw [World.frozen?_setCell]; exact h.fr o'⟩

theorem RQ.net {w : World} {b n : Nat} {a : Option Addr} {cap : Nat} {cl : Nat → List Value} (h : RQ w b (.slice a (n + 1) cap) cl) (A H M : Nat → Int) (hcl : ∀ c, c < 4 → cl c = clist (A c) (H c) 0 (M c)) : RN w b n A H M :=
  ⟨⟨a, cap, h.par⟩, h.frames, h.facts, fun c hc => ⟨0, by rw [← hcl c hc]; exact (h.cls c hc).1⟩, h.closed, h.fr⟩

theorem ownsRow_calm {w w' : World} {base : Nat} {e : TypeId} {size : Nat} {v : Value} {n : Nat} {xs : List Value} (h : w.ownsRow base e size v n xs) {S : Nat → Prop} (t : Touch S w w') (hs : ∀ g, v.ownBlock = some g → ¬ S g) : w'.ownsRow base e size v n xs := by
  refine ⟨h.1, ?_⟩
  rcases h.2 with hn | ⟨g, cap, cur, rfl, hb, hg, rest⟩
  · exact Or.inl hn
  · exact Or.inr ⟨g, cap, cur, rfl, hb, (t.block g (Array.getElem?_eq_some_iff.1 hg).1 (hs g rfl)).trans hg, rest⟩

/-- A client of a net that is being made. -/
def clist0 : List Value := [.int .i64 0, .int .i64 0, .bool false, .bool false, .int .i64 0, .int .i64 0, .slice none 0 0, .slice none 0 0, .slice none 0 0, .slice none 0 0, .int .i64 0, .int .i64 0, .slice none 0 0]

/-- The cells of a net that is being made. -/
def newR (v : Value) : List Value := [v, .slice none 0 0, .slice none 0 0] ++ clist0 ++ clist0 ++ clist0 ++ clist0 ++ [.bool false]

theorem newR_at (v : Value) (w : World) (g : Nat) (hg : w.heap[g]? = some (.cells (newR v).toArray 122)) : RQ w g v (fun _ => clist0) := by
  have hc : ∀ j, w.cell? ⟨g, j, none⟩ = (newR v)[j]? := fun j => by rw [box_cell hg]; simp
  refine ⟨hc 0, hc 1, hc 2, fun k hk => ⟨fun j u hj => ?_, rfl⟩, hc 55, box_frozen hg⟩
  have hjl : j < 13 := (List.getElem?_eq_some_iff.1 hj).1
  rw [hc]
  rcases k with _ | _ | _ | _ | k
  all_goals first | omega | (rcases j with _ | _ | _ | _ | _ | _ | _ | _ | _ | _ | _ | _ | _ | j <;> first | omega | exact hj)

theorem newR_calm (w wr w2 : World) (o : Obj) (gr g2 cp k : Nat) (xs : List Value) (j : Nat) (u : Value) (hc : Calm w wr) (ho : wr.ownsRow w.heap.size 3 1 (.slice (some ⟨gr, 0, none⟩) (k + 1) cp) (k + 1) xs)
    (ht : ((Value.slice (some ⟨gr, 0, none⟩) (k + 1) cp).ownBlock = some g2 ∧ Touch (fun k => k = g2) (wr.alloc o).drew w2) ∨ (g2 = (wr.alloc o).drew.heap.size ∧ Calm (wr.alloc o).drew w2)) :
    Calm w (w2.setCell ⟨w.heap.size + 1, j, none⟩ u) := by
  have h1 : Calm w (wr.alloc o).drew := (hc.alloc o).drew
  have hge : w.heap.size ≤ gr := (ho.lt gr rfl).1
  have h2 : Calm w w2 := by
    rcases ht with ⟨hin, t⟩ | ⟨_, t⟩
    · have : gr = g2 := Option.some.inj hin
      exact h1.fresh t (fun k hk e => by omega)
    · exact h1.calm t
  exact h2.fresh (Touch.set1 _ _ _ _) (fun k hk e => by omega)

set_option maxRecDepth 100000 in
set_option maxHeartbeats 400000 in
theorem newR_any (a : Option Addr) (n cap : Nat) (f : Nat → Int) (w : World) (hm : n ≤ maxLen) (h : IntsAt w a n f) :
    Calls Tryz.prog 30 #[.slice a n cap] w fun e w' =>
      ((goodB f n = false ∧ e = .returned (.tuple #[.pointer none, .int .i64 1])) ∨
       (goodB f n = true ∧ ∃ g, w.heap.size ≤ g ∧ e = .returned (.tuple #[.pointer (some ⟨g, 0, none⟩), .int .i64 0]) ∧ RN w' g n (fun _ => -1) (fun _ => -1) (fun _ => 0))) ∧ Calm w w' := by
  unfold maxLen at hm
  by_cases hlong : 5 < n
  · have hb := hide (bad_long (f := f) (n := n) (by omega))
    clear h
    go_enter Tryz.func30, Tryz.ntmps30
    go_wp2
    go_ret2
    exact ⟨Or.inl ⟨unhide hb, rfl⟩, Touch.refl _ _⟩
  · have H := hide h
    clear h
    go_enter Tryz.func30, Tryz.ntmps30
    go_wp2
    go_loopw [5] (fun i wr => ∃ k : Nat, k ≤ n ∧ i = .int .i64 k ∧ (∀ i, i < k → okB f i = true) ∧ Calm w wr ∧ ∃ gr cp xs, gr ≠ w.heap.size + 1 ∧ RQ wr (w.heap.size + 1) (.slice (some ⟨gr, 0, none⟩) (k + 1) cp) (fun _ => clist0) ∧ wr.ownsRow w.heap.size 3 1 (.slice (some ⟨gr, 0, none⟩) (k + 1) cp) (k + 1) xs) (fun i _ => n - (intOf i).toNat)
    case atStart =>
      refine ⟨0, by omega, rfl, fun i hi => by omega, ((Touch.refl _ _).alloc _).alloc _, w.heap.size, 1, [.int .i64 (-1)], by omega, newR_at _ _ _ (heap_alloc2_new _ _ _), rfl, Or.inr ⟨w.heap.size, 1, #[.int .i64 (-1)], rfl, Nat.le_refl _, heap_alloc2_old _ _ _, by omega, by unfold maxLen; omega, rfl, rfl⟩⟩
    case round =>
      obtain ⟨k, hk, rfl, hok, hc, gr, cp, xs, hne, hQ, hown⟩ := hrel
      have HOK := hide hok
      have HC := hide hc
      have HQ := hide hQ
      have HO := hide hown
      clear hok hc hQ hown
      by_cases hlt : k < n
      · rcases (unhide H).calm (unhide HC) with h0 | ⟨b, o, ha, hcells⟩
        · omega
        · have hx := hcells k hlt
          clear hcells
          subst ha
          have hbl := block_lt_of_cell hx
          simp only at hbl
          by_cases h0 : 0 ≤ f k
          · by_cases h1 : f k ≤ k
            · have q0 := (unhide HQ).par
              have qf := (unhide HQ).fr 0
              have hgl := block_lt_of_cell q0
              simp only at hgl
              obtain ⟨ti, hi, hz, hs, hb⟩ := elem3
              have HI := hide hi
              have HZ := hide hz
              have HS := hide hs
              have HB := hide hb
              clear hi hz hs hb
              have hwl := (unhide HC).size
              go_wp2
              go_region_law (first
                | (refine step_append_mine _ rfl _ _ 30 rfl w.heap.size 3 ti (.int .i64 0) 1 8 Tryz.underlying30 (unhide HI) (unhide HZ) (unhide HS) (unhide HB) rfl (by decide) (.slice (some ⟨gr, 0, none⟩) (k + 1) cp) (k + 1) xs rfl ?own ⟨wr.heap.size, 0, none⟩ 1 1 [.int .i64 (f k)] rfl rfl ?news ?one (by decide) ?h63 ?bytes ?base ?_
                   case own => exact ownsRow_calm (unhide HO) (((Touch.refl (fun _ => False) _).alloc _).drew) (fun _ _ f => f)
                   case news => intro j u hj; match j, hj with | 0, hj => simp at hj; subst hj; simp [Addr.add]
                   case one => intro u hu; simp at hu; subst hu; rfl
                   case h63 => unfold maxLen; omega
                   case bytes => omega
                   case base => simp; omega
                   intro g2 cp2 w2 hgrew
                   obtain ⟨ho2, ht2, hl2⟩ := hgrew
                   have r2 : RQ w2 (w.heap.size + 1) (.slice (some ⟨gr, 0, none⟩) (k + 1) cp) (fun _ => clist0) := by
                     rcases ht2 with ⟨hin, ht2⟩ | ⟨_, ht2⟩
                     · exact ((unhide HQ).calm (((Touch.refl (fun _ => False) _).alloc _).drew)).keep ht2 (fun e => hne (by simp [Value.ownBlock] at hin; omega))
                     · exact ((unhide HQ).calm (((Touch.refl (fun _ => False) _).alloc _).drew)).calm ht2
                   have p0 := r2.par
                   have pf := r2.fr 0
                   have HR2 := hide r2
                   have HO2 := hide ho2
                   have HT2 := hide ht2
                   clear r2 ho2 ht2))
              all_goals
                go_wp2
                go_roundw
                case rel =>
                  have hg2 : g2 ≠ w.heap.size + 1 := by
                    rcases unhide HT2 with ⟨hin, _⟩ | ⟨hnew, _⟩
                    · simp [Value.ownBlock] at hin; omega
                    · simp at hnew; omega
                  refine ⟨k + 1, by omega, by go_num, fun i hi => ?_, ?_, g2, cp2, xs ++ [.int .i64 (f k)], hg2, ?_, ?_⟩
                  · by_cases e : i = k
                    · subst e; simp [okB, h0, h1]
                    · exact unhide HOK i (by omega)
                  · exact newR_calm w wr w2 _ gr g2 cp k xs _ _ (unhide HC) (unhide HO) (unhide HT2)
                  · exact (unhide HR2).setPar _
                  · exact ownsRow_calm (unhide HO2) (Touch.set1 _ _ _ _) (fun g hg e => hg2 (by simp [Value.ownBlock] at hg; omega))
                case measure => simp [intOf]; omega
            · go_wp2
              go_ret2
              exact ⟨Or.inl ⟨bad_of hlt (by simp [okB]; omega), rfl⟩, unhide HC⟩
          · go_wp2
            go_ret2
            exact ⟨Or.inl ⟨bad_of hlt (by simp [okB]; omega), rfl⟩, unhide HC⟩
      · have hkn : k = n := by omega
        subst hkn
        go_wp2
        go_loopw [6] (fun i wx => ∃ q : Nat, q ≤ 4 ∧ i = .int .i64 q ∧ Touch (fun b => b = w.heap.size + 1) wr wx ∧ ∃ cl : Nat → List Value, RQ wx (w.heap.size + 1) (.slice (some ⟨gr, 0, none⟩) (k + 1) cp) cl ∧ ∀ c, c < 4 → cl c = if c < q then clist (-1) (-1) 0 0 else clist0) (fun i _ => 4 - (intOf i).toNat)
        case atStart => exact ⟨0, by omega, rfl, Touch.refl _ _, _, unhide HQ, fun c hc => by simp⟩
        case round =>
          obtain ⟨q, hq, rfl, ht, cl, hX, hcl⟩ := hrel
          have HX := hide hX
          have HCL := hide hcl
          have HT := hide ht
          clear hX hcl ht HQ HO
          by_cases hqt : q < 4
          · have hr := ((unhide HX).cls q hqt).1
            rw [unhide HCL q hqt, if_neg (by omega)] at hr
            have a0 : wr.cell? ⟨w.heap.size + 1, 3 + q * 13, none⟩ = some (.int .i64 0) := hr 0 _ rfl
            have a1 := hr 1 _ rfl
            have a4 := hr 4 _ rfl
            have a5 : wr.cell? ⟨w.heap.size + 1, 3 + q * 13 + 4 + 1, none⟩ = some (.int .i64 0) := hr 5 _ rfl
            have hfz := (unhide HX).fr
            clear hr
            go_wp2
            go_roundw
            case rel =>
              refine ⟨q + 1, by omega, by go_num, ?_, _, ((((unhide HX).set q 0 hqt (by omega) _).set q 1 hqt (by omega) _).set q 4 hqt (by omega) _).set q 5 hqt (by omega) _, fun c hc => ?_⟩
              · exact ((((unhide HT).trans (Touch.set1 _ _ _ _)).trans (Touch.set1 _ _ _ _)).trans (Touch.set1 _ _ _ _)).trans (Touch.set1 _ _ _ _)
              · by_cases e : c = q
                · subst e
                  simp [unhide HCL c hc, clist0, clist]
                · simp only [if_neg e]
                  rw [unhide HCL c hc]
                  by_cases h1 : c < q
                  · rw [if_pos h1, if_pos (by omega)]
                  · rw [if_neg h1, if_neg (by omega)]
            case measure => simp [intOf]; omega
          · go_wp2
            go_ret2
            refine ⟨Or.inr ⟨good_of (by omega) (unhide HOK), w.heap.size + 1, by omega, rfl, ?_⟩, (unhide HC).fresh (unhide HT) (fun b hb e => by omega)⟩
            exact (unhide HX).net _ _ _ (fun c hc => by rw [unhide HCL c hc, if_pos (by omega)])

end Go.Proofs.YtodfcpblcpogiaaGreat

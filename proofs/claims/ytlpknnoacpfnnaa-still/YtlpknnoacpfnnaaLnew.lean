/-
  New links.
-/
import Derived.Test.YtlpknnoacpfnnaaTnew
import Derived.Deep.RegionWith
namespace Go.Proofs.Ytlpknnoacpfnnaa
open Go.RowKit

/-- Channels that were made for links. -/
structure Chans (w : World) (base : Nat) (par : List Nat) (done : Nat → Nat → Prop) (ρ : Nat → Option Role) (qs : List Value) : Prop where
  len : qs.length = 36
  yes : ∀ x y, x < 6 → y < 6 → near par x y = true → done x y → ∃ r, qs[x * 6 + y]? = some (.chan (some r)) ∧ ρ r = some (.chan x y) ∧ w.heap[r]? = some (.chan 2000 #[] false 0 0 false)
  no : ∀ x y, x < 6 → y < 6 → ¬ (near par x y = true ∧ done x y) → qs[x * 6 + y]? = some (.chan none)
  role : ∀ k, ρ k ≠ none → base ≤ k ∧ k < w.heap.size ∧ ∃ x y, ρ k = some (.chan x y)
  isc : ∀ k, ρ k ≠ none → w.heap[k]? = some (.chan 2000 #[] false 0 0 false)
  all : ∀ v, v ∈ qs → ∃ r, v = .chan r

theorem Chans.keep {S : Nat → Prop} {w w' : World} {base : Nat} {par : List Nat} {done : Nat → Nat → Prop} {ρ : Nat → Option Role} {qs : List Value} (h : Chans w base par done ρ qs) (t : Touch S w w') (hs : ∀ k, ρ k ≠ none → ¬ S k) : Chans w' base par done ρ qs := by
  have hk : ∀ k, ρ k ≠ none → w'.heap[k]? = w.heap[k]? := fun k hk => t.block k (h.role k hk).2.1 (hs k hk)
  refine ⟨h.len, fun x y hx hy hn hd => ?_, h.no, fun k hk' => ⟨(h.role k hk').1, Nat.lt_of_lt_of_le (h.role k hk').2.1 t.size, (h.role k hk').2.2⟩, fun k hk' => (hk k hk').trans (h.isc k hk'), h.all⟩
  obtain ⟨r, h1, h2, h3⟩ := h.yes x y hx hy hn hd
  exact ⟨r, h1, h2, (hk r (by rw [h2]; simp)).trans h3⟩

theorem Chans.more {w : World} {base : Nat} {par : List Nat} {done done' : Nat → Nat → Prop} {ρ : Nat → Option Role} {qs : List Value} (h : Chans w base par done ρ qs) (hd : ∀ x y, x < 6 → y < 6 → near par x y = true → (done x y ↔ done' x y)) : Chans w base par done' ρ qs :=
  ⟨h.len, fun x y hx hy hn hd' => h.yes x y hx hy hn ((hd x y hx hy hn).2 hd'), fun x y hx hy hn => h.no x y hx hy (fun ⟨h1, h2⟩ => hn ⟨h1, (hd x y hx hy h1).1 h2⟩), h.role, h.isc, h.all⟩

theorem Chans.put {w : World} {base : Nat} {par : List Nat} {done : Nat → Nat → Prop} {ρ : Nat → Option Role} {qs : List Value} (h : Chans w base par done ρ qs) (hb : base ≤ w.heap.size) {x y : Nat} (hx : x < 6) (hy : y < 6) (hn : near par x y = true) (hd : ¬ done x y) :
    Chans (w.alloc (.chan 2000 #[] false 0 0 false)) base par (fun a b => done a b ∨ (a = x ∧ b = y)) (roleAt ρ w.heap.size (.chan x y)) (qs.set (x * 6 + y) (.chan (some w.heap.size))) := by
  have hc : Calm w (w.alloc (.chan 2000 #[] false 0 0 false)) := (Touch.refl _ _).alloc _
  have hne : ∀ k, ρ k ≠ none → k ≠ w.heap.size := fun k hk e => by have := (h.role k hk).2.1; omega
  have hro : ∀ k, k ≠ w.heap.size → roleAt ρ w.heap.size (.chan x y) k = ρ k := fun k hk => by simp [roleAt, hk]
  have hrn : roleAt ρ w.heap.size (.chan x y) w.heap.size = some (.chan x y) := by simp [roleAt]
  have hnew : (w.alloc (.chan 2000 #[] false 0 0 false)).heap[w.heap.size]? = some (.chan 2000 #[] false 0 0 false) := heap_alloc_new _ _
  refine ⟨by rw [List.length_set]; exact h.len, fun a b ha hb' hn' hd' => ?_, fun a b ha hb' hn' => ?_, fun k hk => ?_, fun k hk => ?_, fun v hv => ?_⟩
  · by_cases e : a = x ∧ b = y
    · obtain ⟨rfl, rfl⟩ := e
      refine ⟨w.heap.size, ?_, hrn, hnew⟩
      rw [List.getElem?_set_self (by rw [h.len]; omega)]
    · obtain ⟨r, h1, h2, h3⟩ := h.yes a b ha hb' hn' (hd'.resolve_right e)
      have hr : ρ r ≠ none := by rw [h2]; simp
      refine ⟨r, ?_, (hro r (hne r hr)).trans h2, (hc.block r (h.role r hr).2.1 (fun f => f)).trans h3⟩
      rw [List.getElem?_set_ne (by omega)]; exact h1
  · have e : ¬ (a = x ∧ b = y) := fun e => hn' ⟨by obtain ⟨rfl, rfl⟩ := e; exact hn, Or.inr e⟩
    rw [List.getElem?_set_ne (by omega)]
    exact h.no a b ha hb' (fun ⟨h1, h2⟩ => hn' ⟨h1, Or.inl h2⟩)
  · by_cases e : k = w.heap.size
    · subst e
      exact ⟨hb, by simp, x, y, hrn⟩
    · rw [hro k e] at hk ⊢
      obtain ⟨h1, h2, h3⟩ := h.role k hk
      exact ⟨h1, by simp; omega, h3⟩
  · by_cases e : k = w.heap.size
    · subst e; exact hnew
    · rw [hro k e] at hk
      exact (hc.block k (h.role k hk).2.1 (fun f => f)).trans (h.isc k hk)
  · rcases List.mem_or_eq_of_mem_set hv with hv | rfl
    · exact h.all v hv
    · exact ⟨_, rfl⟩

theorem run_makeChan82 (w : World) : (Instr.makeChan 82 (.int .i64 2000)).run Try.prog w = .ok (.chan (some w.heap.size)) (w.alloc (.chan 2000 #[] false 0 0 false)) := by kernel_rfl

theorem results_cell_mid {fn : Func} {p : Tmp} {ty : TypeId} (h : fn.results = #[.cell p ty]) (tmps : Array Value) (w : World) (b o : Nat) (cs : List Value) (d : TypeDesc)
    (hp : tmps.getD p undef = .pointer (some ⟨b, o, none⟩)) (hr : w.rangeAt b o cs) (hu : Try.prog.underlying ty = some d) (hd : d.isRow = true) (hi : (Try.prog.info? ty).map (·.size) = some cs.length) :
    (results fn tmps).run Try.prog w = .ok (.agg cs.toArray) w := by
  have hp' : tmps[p]?.getD undef = .pointer (some ⟨b, o, none⟩) := by simpa using hp
  simp [results, h, hp', asAddr, run_loadVar_mid w b o ty cs d hr hu hd hi]

theorem Touch.set1 (w : World) (b o : Nat) (v : Value) : Touch (fun k => k = b) w (w.setCell ⟨b, o, none⟩ v) := (Touch.refl (fun k => k = b) w).setCell (p := ⟨b, o, none⟩) (fun _ => rfl) v
theorem Touch.setCells (b : Nat) : ∀ (vs : List Value) (o : Nat) (w : World), Touch (fun k => k = b) w (w.setCells b o vs)
  | [], _, w => Touch.refl _ w
  | v :: r, o, w => (Touch.set1 w b o v).trans (Touch.setCells b r (o + 1) (w.setCell ⟨b, o, none⟩ v))

/-- What holds in the loops of links.New. -/
structure LN (w wr : World) (a : Option Addr) (par : List Nat) (cap : Nat) (done : Nat → Nat → Prop) : Prop where
  calm : Calm w wr
  box : wr.heap[w.heap.size]? = some (.cells #[.slice a par.length cap] 81)
  res : wr.heap[w.heap.size + 1]? = some (.cells (List.replicate 36 (Value.chan none)).toArray 86)
  made : ∃ ρ qs, wr.heap[w.heap.size + 1 + 1]? = some (.cells (List.toArray qs) 86) ∧ Chans wr (w.heap.size + 1 + 1 + 1) par done ρ qs
  big : w.heap.size + 1 + 1 + 1 ≤ wr.heap.size

theorem LN.go {w wr w2 : World} {a : Option Addr} {par : List Nat} {cap : Nat} {done : Nat → Nat → Prop} (h : LN w wr a par cap done) (t : Calm wr w2) : LN w w2 a par cap done := by
  obtain ⟨ρ, qs, h1, h2⟩ := h.made
  exact ⟨h.calm.calm t, (t.block _ (Array.getElem?_eq_some_iff.1 h.box).1 (fun f => f)).trans h.box, (t.block _ (Array.getElem?_eq_some_iff.1 h.res).1 (fun f => f)).trans h.res, ⟨ρ, qs, (t.block _ (Array.getElem?_eq_some_iff.1 h1).1 (fun f => f)).trans h1, h2.keep t (fun _ _ f => f)⟩, Nat.le_trans h.big t.size⟩

theorem LN.more {w wr : World} {a : Option Addr} {par : List Nat} {cap : Nat} {done done' : Nat → Nat → Prop} (h : LN w wr a par cap done) (hd : ∀ x y, x < 6 → y < 6 → near par x y = true → (done x y ↔ done' x y)) : LN w wr a par cap done' := by
  obtain ⟨ρ, qs, h1, h2⟩ := h.made
  exact ⟨h.calm, h.box, h.res, ⟨ρ, qs, h1, h2.more hd⟩, h.big⟩

theorem LN.put {w wr : World} {a : Option Addr} {par : List Nat} {cap : Nat} {done : Nat → Nat → Prop} (h : LN w wr a par cap done) {x y : Nat} (hx : x < 6) (hy : y < 6) (hn : near par x y = true) (hd : ¬ done x y) :
    LN w ((wr.alloc (.chan 2000 #[] false 0 0 false)).setCell ⟨w.heap.size + 1 + 1, x * 6 + y, none⟩ (.chan (some wr.heap.size))) a par cap (fun a b => done a b ∨ (a = x ∧ b = y)) := by
  obtain ⟨ρ, qs, h1, h2⟩ := h.made
  have hbig := h.big
  have t0 : Calm wr (wr.alloc (.chan 2000 #[] false 0 0 false)) := (Touch.refl _ _).alloc _
  have t : Touch (fun k => k = w.heap.size + 1 + 1) wr ((wr.alloc (.chan 2000 #[] false 0 0 false)).setCell ⟨w.heap.size + 1 + 1, x * 6 + y, none⟩ (.chan (some wr.heap.size))) := ((Touch.refl _ _).alloc _).trans (Touch.set1 _ _ _ _)
  refine ⟨?_, (t.block _ (Array.getElem?_eq_some_iff.1 h.box).1 (by omega)).trans h.box, (t.block _ (Array.getElem?_eq_some_iff.1 h.res).1 (by omega)).trans h.res, ⟨_, qs.set (x * 6 + y) (.chan (some wr.heap.size)), ?_, (h2.put hbig hx hy hn hd).keep (Touch.set1 _ (w.heap.size + 1 + 1) _ _) (fun k hk => ?_)⟩, Nat.le_trans hbig t.size⟩
  · exact (h.calm.alloc _).setCell (p := ⟨w.heap.size + 1 + 1, x * 6 + y, none⟩) (fun x => by simp only at x; omega) _
  · have h1' := (t0.block _ (Array.getElem?_eq_some_iff.1 h1).1 (fun f => f)).trans h1
    rw [heap_setCell_same _ _ _ _ _ _ h1']
    simp
  · have := ((h2.put hbig hx hy hn hd).role k hk).1
    omega

theorem replicate_get (j : Nat) (h : j < 36) : (List.replicate 36 (Value.chan none))[j]? = some (.chan none) := by rw [List.getElem?_replicate, if_pos h]

set_option maxRecDepth 100000 in
set_option maxHeartbeats 400000 in
theorem linksNew_any (a : Option Addr) (cap : Nat) (par : List Nat) (w : World) (T : Tree par) (h : ParAt w a par) :
    Calls Try.prog 57 #[.agg #[.slice a par.length cap]] w fun e w' => ∃ qs : List Value, e = .returned (.agg qs.toArray) ∧ (∃ ρ, Chans w' w.heap.size par (fun _ _ => True) ρ qs) ∧ Calm w w' := by
  have hn := T.1
  have H := hide h
  clear h
  go_enter Try.func57, Try.ntmps57
  go_wp2_with fail
  obtain ⟨W, hW⟩ : ∃ W, W = ((w.alloc (.cells #[.slice a par.length cap] 81)).alloc (.cells (List.replicate 36 (Value.chan none)).toArray 86)).alloc (.cells (List.replicate 36 (Value.chan none)).toArray 86) := ⟨_, rfl⟩
  have hL : LN w W a par cap (fun x _ => x < 0) := by
    rw [hW]
    refine ⟨(((Touch.refl _ _).alloc _).alloc _).alloc _, ?_, ?_, ⟨fun _ => none, List.replicate 36 (Value.chan none), ?_, ⟨rfl, fun x y hx hy _ hd => by omega, fun x y hx hy _ => replicate_get _ (by omega), fun k hk => absurd rfl hk, fun k hk => absurd rfl hk, fun v hv => ⟨_, List.eq_of_mem_replicate hv⟩⟩⟩, by simp⟩
    · rw [Below.heap_alloc _ _ _ (by simp; omega), Below.heap_alloc _ _ _ (by simp)]; exact heap_alloc_new _ _
    · rw [Below.heap_alloc _ _ _ (by simp)]; exact heap_alloc2_new _ _ _
    · rw [show w.heap.size + 1 + 1 = (w.alloc (.cells #[.slice a par.length cap] 81)).heap.size + 1 from by simp]; exact heap_alloc2_new _ _ _
  refine (brokers_any a par.length cap _ hn).mono ?_
  rintro e w1 ⟨rfl, hb1⟩
  have hL1 : LN w w1 a par cap (fun x _ => x < 0) := LN.go (wr := W) hL (by rw [hW]; exact hb1)
  have HL := hide hL1
  clear hL1 hL hb1 hW
  go_wp2_with fail
  go_loopw [8] (fun i wr => ∃ k : Nat, k ≤ par.length + 1 ∧ i = .int .i64 k ∧ LN w wr a par cap (fun x _ => x < k)) (fun i _ => par.length + 1 - (intOf i).toNat)
  case atStart => exact ⟨0, by omega, rfl, unhide HL⟩
  case round =>
    obtain ⟨k, hk, rfl, hL⟩ := hrel
    have e0 : wr.cell? ⟨w.heap.size, 0, none⟩ = some (.slice a par.length cap) := box_cell hL.box 0
    have HL1 := hide hL
    clear HL hL
    by_cases hlt : k < par.length + 1
    · go_wp2_with fail
      refine (brokers_any a par.length cap _ hn).mono ?_
      rintro e w2 ⟨rfl, hb2⟩
      have HL2 := hide (((unhide HL1).go hb2).more (done' := fun x y => x < k ∨ (x = k ∧ y < 0)) (fun x y _ _ _ => by omega))
      clear e0 HL1 hb2
      go_wp2_with fail
      go_loopw [13] (fun i wr => ∃ q : Nat, q ≤ par.length + 1 ∧ i = .int .i64 q ∧ LN w wr a par cap (fun x y => x < k ∨ (x = k ∧ y < q))) (fun i _ => par.length + 1 - (intOf i).toNat)
      case atStart => exact ⟨0, by omega, rfl, unhide HL2⟩
      case round =>
        obtain ⟨q, hq, rfl, hL⟩ := hrel
        have e0 : wr.cell? ⟨w.heap.size, 0, none⟩ = some (.slice a par.length cap) := box_cell hL.box 0
        have HL3 := hide hL
        clear HL2 hL
        by_cases hqt : q < par.length + 1
        · have HI := hide ((unhide H).calm (unhide HL3).calm)
          cases hr : near par k q with
          | false =>
            go_wp2_with fail
            refine (neighbours_any a cap par k q _ hn (unhide HI)).mono ?_
            rintro e w3 ⟨rfl, ht3⟩
            have HL4 := hide ((unhide HL3).go ht3)
            clear HL3 HI ht3 e0
            rw [hr]
            have HR := hide hr
            clear hr
            go_wp2
            go_roundw
            case rel => exact ⟨q + 1, by omega, by go_num, (unhide HL4).more (fun x y _ _ hxy => by
              by_cases e : x = k ∧ y = q
              · obtain ⟨rfl, rfl⟩ := e; rw [unhide HR] at hxy; cases hxy
              · omega)⟩
            case measure => simp [intOf]; omega
          | true =>
            go_wp2_with fail
            refine (neighbours_any a cap par k q _ hn (unhide HI)).mono ?_
            rintro e w3 ⟨rfl, ht3⟩
            have HL4 := hide ((unhide HL3).go ht3)
            clear HL3 HI ht3 e0
            rw [hr]
            have HR := hide hr
            clear hr
            obtain ⟨v, hv⟩ : ∃ v, w3.cell? ⟨w.heap.size + 1 + 1, k * 6 + q, none⟩ = some v := by
              obtain ⟨ρ, qs, h1, h2⟩ := (unhide HL4).made
              rw [box_cell h1]
              have := h2.len
              exact ⟨_, Array.getElem?_eq_getElem (by simp; omega)⟩
            have hfz : ∀ j, w3.frozen? ⟨w.heap.size + 1 + 1, j, none⟩ = false := fun j => by
              obtain ⟨ρ, qs, h1, _⟩ := (unhide HL4).made
              exact box_frozen h1 j
            have hmk := run_makeChan82
            have hlt3 : w.heap.size + 1 + 1 < w3.heap.size := block_lt_of_cell hv
            have hk6 : (k : Int) < 6 := by omega
            have hq6 : (q : Int) < 6 := by omega
            go_wp2
            go_region
            all_goals go_wp2
            all_goals go_roundw
            case rel => exact ⟨q + 1, by omega, by go_num, (LN.go (by have := (unhide HL4).put (x := k) (y := q) (by omega) (by omega) (unhide HR) (by omega); rwa [World.setCell_alloc_past _ _ _ _ hlt3] at this) ((Touch.refl _ _).drew)).more (fun x y _ _ _ => by omega)⟩
            case measure => simp [intOf]; omega
        · go_wp2
          go_roundw
          case rel => exact ⟨k + 1, by omega, by go_num, (unhide HL3).more (fun x y _ _ hxy => by have := (near_lt T hxy).2; simp only [size] at this; omega)⟩
          case measure => simp [intOf]; omega
    · obtain ⟨ρ, qs, hqs, hch⟩ := (unhide HL1).made
      have hl36 := hch.len
      have hr : wr.rangeAt (w.heap.size + 1 + 1) 0 qs := fun j v hj => by rw [box_cell hqs, Nat.zero_add]; simpa using hj
      have hone : ∀ v, v ∈ qs → v.oneCell' = true := fun v hv => by obtain ⟨r, rfl⟩ := hch.all v hv; rfl
      have hth : wr.there (w.heap.size + 1) 0 qs.toArray.size := fun j hj => by
        have hj' : j < 36 := by simpa [hl36] using hj
        refine ⟨?_, box_frozen (unhide HL1).res _⟩
        rw [box_cell (unhide HL1).res]
        simp; omega
      have hT : Touch (fun k => k = w.heap.size + 1) wr (wr.setCells (w.heap.size + 1) 0 qs) := Touch.setCells _ _ _ _
      have hI : Chans (wr.setCells (w.heap.size + 1) 0 qs) (w.heap.size + 1 + 1 + 1) par (fun x _ => x < k) ρ qs := hch.keep hT (fun k hk e => by have := (hch.role k hk).1; omega)
      have hI2 : Chans (wr.setCells (w.heap.size + 1) 0 qs) w.heap.size par (fun _ _ => True) ρ qs := by
        refine ⟨hI.len, fun x y hx hy hn _ => hI.yes x y hx hy hn ?_, fun x y hx hy hn => hI.no x y hx hy (fun ⟨h1, _⟩ => hn ⟨h1, trivial⟩), fun k hk => ⟨?_, (hI.role k hk).2⟩, hI.isc, hI.all⟩
        · have := (near_lt T hn).1; simp only [size] at this; omega
        · have := (hI.role k hk).1; omega
      have hC : Calm w (wr.setCells (w.heap.size + 1) 0 qs) := ⟨hT.os.trans (unhide HL1).calm.os, hT.tape.trans (unhide HL1).calm.tape, hT.output.trans (unhide HL1).calm.output, Nat.le_trans (unhide HL1).calm.size hT.size,
        fun k hk _ => (hT.block k (Nat.lt_of_lt_of_le hk (unhide HL1).calm.size) (by omega)).trans ((unhide HL1).calm.block k hk (fun f => f))⟩
      have hR := World.rangeAt_setCells_same wr (w.heap.size + 1) 0 qs (by simpa using hth)
      have i86 : (Try.prog.info? 86).map (·.size) = some qs.length := by rw [hl36]; kernel_rfl
      have HR := hide hR
      have HI := hide hI2
      have HC := hide hC
      have H86 := hide i86
      clear hR hI hI2 hC hch hqs hT i86 e0
      go_wp2_with (first
        | refine wpList_load_mid rfl 86 _ rfl (w.heap.size + 1 + 1) 0 rfl qs _ hr Try.underlying86 rfl (unhide H86) ?_
        | refine wpList_store_mid rfl 86 _ _ rfl (w.heap.size + 1) 0 qs.toArray rfl rfl hth (by simpa using unhide H86) (all_oneCell_toArray hone) ?_)
      exact bodyPost_ret (v := .agg qs.toArray) (results_cell_mid Try.results57 _ _ (w.heap.size + 1) 0 qs _ rfl (unhide HR) Try.underlying86 rfl (unhide H86)) rfl ⟨qs, rfl, ⟨ρ, unhide HI⟩, unhide HC⟩

end Go.Proofs.Ytlpknnoacpfnnaa

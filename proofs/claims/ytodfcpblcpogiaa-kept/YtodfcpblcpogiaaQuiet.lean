/-
  quiet: all frames are handled.
-/
import Derived.Test.YtodfcpblcpogiaaHous
import Derived.Test.YtodfcpblcpogiaaDel
import Derived.Test.YtodfcpblcpogiaaPubF
import Derived.Test.YtodfcpblcpogiaaSubG
namespace Go.Proofs.Ytodfcpblcpogiaa
open Go.RowKit

/-- A net that can do whatever comes next. -/
structure Fine (τ : Net) (m : Nat) : Prop where
  fit : Fit τ m
  lt : m < 2000000000000
theorem Fine.good {τ : Net} {m : Nat} (F : Fine τ m) : Good τ := F.fit.good
theorem Fine.wt {τ : Net} {m : Nat} (F : Fine τ m) : τ.weight ≤ 1500 := F.fit.r.alive.wt
theorem Fine.len {τ : Net} {m : Nat} (F : Fine τ m) (x y : Nat) : (τ.q x y).length < 2000 := F.fit.len x y

/-- What grows has room for all that waits: deliveries keep it. -/
def Room (τ : Net) (m : Nat) : Prop := ∃ k, k + 8 * τ.weight ≤ m ∧ Fit τ k
theorem Room.fit {τ : Net} {m : Nat} (F : Room τ m) : Fit τ m := by
  obtain ⟨k, hk, h⟩ := F
  exact h.weak (by omega)
theorem Room.of {τ : Net} {m m' : Nat} (F : Fit τ m) (h : m + 12000 ≤ m') : Room τ m' := ⟨m, by have := F.r.alive.wt; omega, F⟩
theorem Room.del {τ : Net} {m : Nat} (F : Room τ m) (ho : τ.closed = false) {x y : Nat} {f : Fr} {l : List Fr} (hq : τ.q x y = f :: l) : Room (τ.del x y) m := by
  have G := F.fit.good
  have h1 := (G.del x y).2.2 (delE_some ho (G.nbr x y (by rw [hq]; simp)) hq).1
  obtain ⟨k, hk, h⟩ := F
  exact ⟨k + 8, by omega, h.del _ _⟩

/-- What a run of deliveries keeps. -/
structure Runs (I : Net → Prop) (m : Nat) : Prop where
  fine : ∀ τ, I τ → Fine τ m
  opn : ∀ τ, I τ → τ.closed = false
  del : ∀ τ (x y : Nat) f l, I τ → τ.q x y = f :: l → I (τ.del x y)

theorem Runs.less {I : Net → Prop} {m : Nat} (R : Runs I m) {τ : Net} (h : I τ) {x y : Nat} {f : Fr} {l : List Fr} (hq : τ.q x y = f :: l) : (τ.del x y).weight + 1 ≤ τ.weight := by
  have G := (R.fine τ h).good
  exact (G.del x y).2.2 (delE_some (R.opn τ h) (G.nbr x y (by rw [hq]; simp)) hq).1

set_option maxRecDepth 100000 in
set_option maxHeartbeats 1000000 in
theorem quietX {I : Net → Prop} {m : Nat} (R : Runs I m) {w : World} {hb b : Nat} {κ ρ : Nat → Option Role} {σ : Net} {H : HM} (h : HN w hb b κ ρ σ H) (i : I σ) {a : Int} (ha : Fits a) (hE : H.evs.length ≤ 2199023255552) :
    Calls Try.prog 16 #[ptr hb, int a] w fun e w' => e = .returned (.bool true) ∧ ∃ ρ' σ', HN w' hb b κ ρ' σ' H.known ∧ I σ' ∧ (∀ x y, σ'.q x y = []) ∧ Ow κ ρ κ ρ' w w' := by
  have hwt := (R.fine σ i).wt
  have RR := hide R
  have HH := hide h
  have II := hide i
  have HA := hide ha
  have HE := hide hE
  have HW := hide hwt
  clear R h i ha hE hwt
  obtain ⟨B, hB⟩ : ∃ B : Nat, 1500 < B := ⟨1501, by omega⟩
  have HB := hide hB
  clear hB
  go_enter Try.func16, Try.ntmps16
  go_wp2
  go_loopw [5] (fun j wr => ∃ k : Nat, j = int k ∧ ∃ ρ' σ', HN wr hb b κ ρ' σ' H ∧ I σ' ∧ σ'.weight + k ≤ σ.weight ∧ Ow κ ρ κ ρ' w wr) (fun j _ => B - (intOf j).toNat)
  case atStart => exact ⟨0, rfl, ρ, σ, unhide HH, unhide II, by omega, Ow.refl _ _ _⟩
  case round =>
    obtain ⟨k, rfl, ρ1, τ, hN, hI, hk, hO⟩ := hrel
    have F := (unhide RR).fine τ hI
    have ho := (unhide RR).opn τ hI
    have hwt := unhide HW
    have hk2 : (k : Int) < 100000 := by omega
    have hk3 : (k : Int) ≤ 1500 := by omega
    have HK3 := hide hk3
    have hnet := hN.h.net
    have HN1 := hide hN
    have HI1 := hide hI
    have HK1 := hide hk
    have HO1 := hide hO
    have FF := hide F
    have HOP := hide ho
    clear HH hN hI hk hO F ho hwt hk3
    go_wp2_with fail
    refine (pendingX (unhide HN1).x (unhide FF).len).mono ?_
    rintro e w1 ⟨v, rfl, hL, ht1⟩
    obtain ⟨pa, pc, rfl, hcells⟩ := links_at hL
    have hpl := pending_len (unhide HOP)
    have HC1 := hide hcells
    have HT1 := hide ht1
    have hnet1 := ht1.cell (p := ⟨hb, 0, none⟩) (fun f => f) hnet
    have hlenI : (τ.pending.length : Int) ≤ 36 := by omega
    clear hL hcells ht1 hnet
    by_cases hnil : τ.pending.length = 0
    · have hnil0 : τ.pending = [] := List.eq_nil_of_length_eq_zero hnil
      have HNIL := hide (pending_nil (unhide FF).good (unhide HOP) hnil0)
      have HN2 := hide ((unhide HN1).calm (unhide HT1))
      have HO2 := hide ((unhide HO1).trans (Ow.calm (unhide HT1)))
      have hlen0 : (τ.pending.length : Int) = 0 := by omega
      rw [hnil0]
      simp only [List.length_nil]
      clear hnil hnil0 HC1 HT1 HN1 HO1 hlen0 hlenI hpl
      go_wp2_with fail
      go_loopw [7] (fun j wq => ∃ s : Nat, s ≤ 8 ∧ j = int s ∧ HN wq hb b κ ρ1 τ (H.knownTo s) ∧ Ow κ ρ κ ρ1 w wq) (fun j _ => 8 - (intOf j).toNat)
      case atStart => exact ⟨0, by omega, rfl, by have := unhide HN2; simpa [HM.knownTo] using this, unhide HO2⟩
      case round =>
        obtain ⟨s, hs, rfl, hN, hO⟩ := hrel
        by_cases hs8 : s < 8
        · have T := hN.h.subs s hs8
          have hsub : (H.knownTo s).subs s = H.subs s := by simp [HM.knownTo]
          have hsi := T.since
          rw [hsub] at hsi
          obtain ⟨ev, hev, hrow⟩ := hN.h.evs
          have hevl : ∃ ea ec, ev = .slice ea H.evs.length ec := by
            rcases hrow.1.2 with ⟨e1, e0⟩ | ⟨g, cap, cur, e1, _⟩
            · exact ⟨none, 0, by rw [e1]; exact congrArg (fun n => Value.slice none n 0) e0.symm⟩
            · exact ⟨_, _, e1⟩
          obtain ⟨ea, ec, rfl⟩ := hevl
          have hfz := hN.h.fr
          have hsi8 : (s : Int) < 8 := by omega
          have hE := unhide HE
          have HN3 := hide hN
          have HO3 := hide hO
          obtain ⟨z, hz⟩ : ∃ z, z = (H.subs s).since := ⟨_, rfl⟩
          rw [← hz] at hsi
          have hlb : hb < wr.heap.size := block_lt_of_cell hsi
          have HZ := hide hz
          clear hN hO T hrow hsub hz hE
          by_cases hneg : z < 0
          · go_wp2
            go_region
            all_goals go_wp2
            all_goals go_roundw
            case rel =>
              have hset := (unhide HN3).h.since hs8 (H.evs.length : Int)
              have hb2 := (unhide HN3).book (H' := H.knownTo (s + 1)) ((Touch.refl (fun k => κ k ≠ none) _).setCell (p := ⟨hb, 15 + s * 5 + 2, none⟩) (fun _ => by rw [(unhide HN3).h.house]; simp) (int H.evs.length)) (by
                rw [HM.knownTo_succ_lt H s (by rw [← unhide HZ]; exact hneg)]; exact hset)
              exact ⟨s + 1, by omega, by go_num, hb2.1.calm ((Touch.refl _ _).drew), ((unhide HO3).trans hb2.2).trans (Ow.calm ((Touch.refl _ _).drew))⟩
            case measure => simp [intOf]; omega
          · go_wp2
            go_roundw
            case rel => exact ⟨s + 1, by omega, by go_num, by rw [HM.knownTo_succ_ge H s (by rw [← unhide HZ]; exact hneg)]; exact unhide HN3, unhide HO3⟩
            case measure => simp [intOf]; omega
        · have hs9 : s = 8 := by omega
          subst hs9
          have HN3 := hide hN
          have HO3 := hide hO
          clear hN hO
          go_wp2
          go_ret
          exact ⟨rfl, ρ1, τ, unhide HN3, unhide HI1, unhide HNIL, unhide HO3⟩
    · have hpos : (0 : Int) < τ.pending.length := by omega
      have hpb : ((τ.pending.length : Int) == 0) = false := by rw [beq_dec]; exact decide_eq_false (by omega)
      have hpk := fun w => pick_any a τ.pending.length w (unhide HA) (by omega) (by omega)
      have hpn := pickN_lt a τ.pending.length (by omega)
      obtain ⟨z, hz⟩ : ∃ z, z = pickN a τ.pending.length := ⟨_, rfl⟩
      rw [← hz] at hpk hpn
      have HPK := hide hpk
      obtain ⟨j, hj⟩ : ∃ j : Nat, j = (z + k) % τ.pending.length := ⟨_, rfl⟩
      have hjl : j < τ.pending.length := by rw [hj]; exact Nat.mod_lt _ (by omega)
      have hji : ((z : Int) + k) % τ.pending.length = j := by rw [hj]; simp
      have hjI : (j : Int) < τ.pending.length := by omega
      obtain ⟨lk, hlk⟩ : ∃ lk, τ.pending[j]? = some lk := ⟨_, List.getElem?_eq_getElem hjl⟩
      obtain ⟨fq, lq, hq⟩ := mem_pending (List.mem_of_getElem? hlk)
      obtain ⟨g, rfl, c0, c1, c2⟩ := unhide HC1 j lk hlk
      have HQ := hide hq
      have HJI := hide hji
      clear hpk hz hj hlk hq HC1 hji
      go_wp2_with fail
      refine (unhide HPK _).mono ?_
      rintro e w2 ⟨rfl, hw2⟩
      have hw2 := hw2.symm
      subst hw2
      have hji := unhide HJI
      clear hpb
      go_wp2_with fail
      obtain ⟨W2, hW2⟩ : ∃ W2, W2 = w1.alloc (.cells #[.int .i64 (lk.a : Int), .int .i64 (lk.b : Int), .int .i64 (lk.many : Int)] 68) := ⟨_, rfl⟩
      have ht2 : Calm w1 W2 := by rw [hW2]; exact (Touch.refl _ _).alloc _
      have q0 : W2.cell? ⟨w1.heap.size, 0, none⟩ = some (int lk.a) := by rw [hW2]; exact box_cell (heap_alloc_new _ _) 0
      have q1 : W2.cell? ⟨w1.heap.size, 1, none⟩ = some (int lk.b) := by rw [hW2]; exact box_cell (heap_alloc_new _ _) 1
      have qn : W2.cell? ⟨hb, 0, none⟩ = some (ptr b) := ht2.cell (p := ⟨hb, 0, none⟩) (fun f => f) hnet1
      have HN2 := hide (((unhide HN1).calm (unhide HT1)).calm ht2)
      have HO2 := hide (((unhide HO1).trans (Ow.calm (unhide HT1))).trans (Ow.calm ht2))
      rw [← hW2]
      clear hW2 ht2 hnet1 c0 c1 c2 hji hjI hjl hpn hpos hnil hlenI hpl HPK HJI HT1 HN1 HO1 hw2
      go_cut [9] (fun s wx => s = int 0 ∧ ∃ ρ', HN wx hb b κ ρ' (τ.del lk.a lk.b) H ∧ Ow κ ρ κ ρ' w wx)
      case first =>
        clear hk2
        go_region_with (go_at_call 28; refine (deliverX ((unhide HN2).calm ((Touch.refl _ _).drew)).x (unhide FF).fit (unhide FF).lt (unhide HQ)).mono ?_; rintro e w3 ⟨rfl, ρ3, hX3, hM3⟩)
        all_goals go_wp2_with fail
        all_goals go_meet
        all_goals exact ⟨rfl, ρ3, ((unhide HN2).calm ((Touch.refl _ _).drew)).mv hX3 hM3, ((unhide HO2).trans (Ow.calm ((Touch.refl _ _).drew))).trans (Ow.mv hM3)⟩
      case rest =>
        obtain ⟨rfl, ρ3, hN3, hO3⟩ := hcut
        have HN3 := hide hN3
        have HO3 := hide hO3
        clear hN3 hO3 HN2 HO2 q0 q1 qn
        go_wp2
        go_roundw
        case rel => exact ⟨k + 1, by go_num, ρ3, _, unhide HN3, (unhide RR).del τ _ _ _ _ (unhide HI1) (unhide HQ), by
          have h1 := (unhide RR).less (unhide HI1) (unhide HQ)
          have h2 := unhide HK1
          omega, unhide HO3⟩
        case measure =>
          have h1 := unhide HK3
          have h2 := unhide HB
          simp [intOf]; omega

end Go.Proofs.Ytodfcpblcpogiaa

/-
  The statement roverkeep.Roams is proved: for every tree, two brokers and trips, made out of any numbers, the call returns true, and what was handed in reads behind the call as it read before.
  No condition: all arguments that can be read (the row's own reach alone).
-/
import Derived.Test.YtodfcpblcpogiaaRs
import Derived.Test.YtodfcpblcpogiaaOverOwn
import Derived.Test.YtodfcpblcpogiaaLook
import Derived.Test.YtodfcpblcpogiaaKept
import Derived.Test.YtodfcpblcpogiaaBools
import Derived.Test.YtodfcpblcpogiaaOpen
namespace Go.Proofs.Ytodfcpblcpogiaa
open Go.RowKit
open Go.ChangeShapes Go.WideShapes Go.ChangeAt Go.RowKit

/-- Where a house is. -/
def RQ (hb b : Nat) (κ ρ : Nat → Option Role) (w1 : World) (par : List Nat) (p n0 : Nat) (h2 : Option Nat) (n t W m : Nat) (wr : World) : Prop :=
  ∃ ρ' σ H E, HN wr hb b κ ρ' σ H ∧ H.evs = [] ∧ H.many = size par ∧ E.length = n ∧ RM 0 par p E n0 h2 t W m σ ∧ Ow κ ρ κ ρ' w1 wr

section
variable {hb b : Nat} {κ ρ : Nat → Option Role} {w1 wr : World} {par : List Nat} {p n0 : Nat} {h2 : Option Nat} {n t W m : Nat}
theorem RQ.calm {w2 : World} (h : RQ hb b κ ρ w1 par p n0 h2 n t W m wr) (c : Calm wr w2) : RQ hb b κ ρ w1 par p n0 h2 n t W m w2 := by
  obtain ⟨ρ', σ, H, E, hN, k1, k2, k3, k4, k5⟩ := h
  exact ⟨ρ', σ, H, E, hN.calm c, k1, k2, k3, k4, k5.trans (Ow.calm c)⟩
theorem RQ.weak {t' W' m' : Nat} (h : RQ hb b κ ρ w1 par p n0 h2 n t W m wr) (ht : t ≤ t') (hW : W ≤ W') (hm : m ≤ m') : RQ hb b κ ρ w1 par p n0 h2 n t' W' m' wr := by
  obtain ⟨ρ', σ, H, E, hN, k1, k2, k3, k4, k5⟩ := h
  exact ⟨ρ', σ, H, E, hN, k1, k2, k3, k4.weak ht hW hm, k5⟩
theorem RQ.net (h : RQ hb b κ ρ w1 par p n0 h2 n t W m wr) : wr.cell? ⟨hb, 0, none⟩ = some (ptr b) ∧ wr.cell? ⟨hb, 1, none⟩ = some (int (size par : Nat)) := by
  obtain ⟨ρ', σ, H, E, hN, k1, k2, k3, k4, k5⟩ := h
  have := hN.h.many
  rw [k2] at this
  exact ⟨hN.h.net, this⟩
theorem RQ.pub (h : RQ hb b κ ρ w1 par p n0 h2 n t W m wr) (ht : t ≤ 5) (hW : W < 100) (hm : m < 1000000000) (g : Int) :
    Calls Try.prog 17 #[.pointer (some ⟨b, 0, none⟩), int 3, .agg #[int ((n : Int) + 1), int g, int 0]] wr fun r w' => r = .returned (.tuple #[int ((n : Int) + 1), int 0]) ∧ RQ hb b κ ρ w1 par p n0 h2 (n + 1) (t + 1) (W + 5) (m + 48) w' := by
  obtain ⟨ρ', σ, H, E, hN, k1, k2, k3, k4, k5⟩ := h
  subst k3
  obtain ⟨e1, e2, R⟩ := k4.pub ht hW g
  refine (publishX hN.x k4.room.fit (by omega) 3 ((E.length : Int) + 1) g 0).mono ?_
  rw [e1, e2]
  rintro r w' ⟨rfl, ρ2, hX2, hM2⟩
  exact ⟨rfl, ρ2, _, H, _, hN.mv hX2 hM2, k1, k2, by simp, R, k5.trans (Ow.mv hM2)⟩
theorem RQ.deliver (h : RQ hb b κ ρ w1 par p n0 h2 n t W m wr) (ht : t ≤ 6) (hm : m < 1000000000) {a : Int} (ha : Fits a) :
    Calls Try.prog 55 #[ptr hb, int a] wr fun r w' => r = .returned (.bool true) ∧ RQ hb b κ ρ w1 par p n0 h2 n t W m w' := by
  obtain ⟨ρ', σ, H, E, hN, k1, k2, k3, k4, k5⟩ := h
  refine (deliverH (rm_runs ht (by omega)) hN k4 ha).mono ?_
  rintro r w' ⟨rfl, ρ2, σ2, hN2, k4', hO2⟩
  exact ⟨rfl, ρ2, σ2, H, E, hN2, k1, k2, k3, k4', k5.trans hO2⟩

set_option maxRecDepth 100000 in
set_option maxHeartbeats 4000000 in
theorem publishesX (h : RQ hb b κ ρ w1 par p n0 h2 n t W m wr) {q : Nat} (hq : q ≤ 3) (ht : t + q ≤ 6) (hW : W + 5 * q ≤ 100) (hm : m < 100000000) (hn : n ≤ 1000) {g : Nat} (hg : g ≤ 1099511627776) :
    Calls Try.prog 30 #[ptr hb, int n, int q, int g] wr fun r w' => r = .returned (.tuple #[int ((n : Int) + q), .bool true]) ∧ RQ hb b κ ρ w1 par p n0 h2 (n + q) (t + q) (W + 5 * q) (m + 48 * q) w' := by
  have HI := hide h
  have hgI : (g : Int) ≤ 1099511627776 := by omega
  have hnI : (n : Int) ≤ 1000 := by omega
  have hqI : (q : Int) ≤ 3 := by omega
  clear h
  go_enter Try.func30, Try.ntmps30
  go_wp2_with fail
  go_loopw [1, 10] (fun nv kv wx => ∃ k : Nat, k ≤ q ∧ nv = int ((n + k : Nat) : Int) ∧ kv = int k ∧ RQ hb b κ ρ w1 par p n0 h2 (n + k) (t + k) (W + 5 * k) (m + 48 * k) wx) (fun _ kv _ => q - (intOf kv).toNat)
  case atStart => exact ⟨0, by omega, rfl, rfl, unhide HI⟩
  case round =>
    obtain ⟨k, hk, rfl, rfl, hI⟩ := hrel
    have HI1 := hide hI
    obtain ⟨hnet, _⟩ := hI.net
    clear hI HI
    by_cases hkq : k < q
    · have hkI : (k : Int) < q := by omega
      have hk0 : (k : Int) ≤ 3 := by omega
      have hpub := (unhide HI1).pub (by omega) (by omega) (by omega) (g : Int)
      have ecast : (((n + k : Nat) : Int) + 1) = (n : Int) + k + 1 := by omega
      rw [ecast] at hpub
      have HCALL := hide hpub
      clear hpub ecast
      go_wp2_with fail
      refine (unhide HCALL).mono ?_
      rintro r w2 ⟨rfl, hI2⟩
      have HI2 := hide hI2
      clear hI2 HCALL
      go_wp2_with fail
      go_loopw [13] (fun iv wx => ∃ j : Nat, j ≤ g % 3 ∧ iv = int j ∧ RQ hb b κ ρ w1 par p n0 h2 (n + k + 1) (t + k + 1) (W + 5 * k + 5) (m + 48 * k + 48) wx) (fun iv _ => 3 - (intOf iv).toNat)
      case atStart => exact ⟨0, by omega, rfl, unhide HI2⟩
      case round =>
        obtain ⟨j, hj, rfl, hI3⟩ := hrel
        have HI3 := hide hI3
        have hj2 : (j : Int) ≤ 2 := by omega
        clear hI3 HI2
        by_cases hlt : j < g % 3
        · have hltI : (j : Int) < (g : Int) % 3 := by omega
          have HCALL := fun a (ha : Fits a) => (unhide HI3).deliver (by omega) (by omega) ha
          go_wp2_with fail
          refine (HCALL _ ⟨by omega, by omega⟩).mono ?_
          rintro r w4 ⟨rfl, hI4⟩
          have HI4 := hide hI4
          clear hI4 HCALL
          go_wp2
          go_roundw
          case rel => exact ⟨j + 1, by omega, by go_num, unhide HI4⟩
          case measure => simp [intOf]; omega
        · have hltI : ¬ (j : Int) < (g : Int) % 3 := by omega
          go_wp2
          go_roundw
          case rel => exact ⟨k + 1, by omega, by go_num, by go_num, (unhide HI3).weak (by omega) (by omega) (by omega)⟩
          case measure => simp [intOf]; omega
    · have hke : k = q := by omega
      subst hke
      go_wp2
      exact bodyPost_ret (v := .tuple #[int ((n : Int) + k), .bool true]) (by simp [results, Try.results30, go_sem]) rfl ⟨rfl, unhide HI1⟩
end

/-- .. where nothing waits. -/
def RN (hb b : Nat) (κ ρ : Nat → Option Role) (w1 : World) (par : List Nat) (p n0 n t W m : Nat) (wr : World) : Prop :=
  ∃ hh ρ' σ H E, HN wr hb b κ ρ' σ H ∧ H.evs = [] ∧ H.many = size par ∧ E.length = n ∧ RM 0 par p E n0 (some hh) t W m σ ∧ (∀ x y, σ.q x y = []) ∧ Ow κ ρ κ ρ' w1 wr

section
variable {hb b : Nat} {κ ρ : Nat → Option Role} {w1 wr : World} {par : List Nat} {p n0 : Nat} {h2 : Option Nat} {n t W m : Nat}
theorem RN.net (h : RN hb b κ ρ w1 par p n0 n t W m wr) : wr.cell? ⟨hb, 0, none⟩ = some (ptr b) ∧ wr.cell? ⟨hb, 1, none⟩ = some (int (size par : Nat)) := by
  obtain ⟨hh, ρ', σ, H, E, hN, k1, k2, _⟩ := h
  have := hN.h.many
  rw [k2] at this
  exact ⟨hN.h.net, this⟩
theorem RN.weak {t' W' m' : Nat} (h : RN hb b κ ρ w1 par p n0 n t W m wr) (ht : t ≤ t') (hW : W ≤ W') (hm : m ≤ m') : RN hb b κ ρ w1 par p n0 n t' W' m' wr := by
  obtain ⟨hh, ρ', σ, H, E, hN, k1, k2, k3, k4, k5, k6⟩ := h
  exact ⟨hh, ρ', σ, H, E, hN, k1, k2, k3, k4.weak ht hW hm, k5, k6⟩
theorem RN.ow (h : RN hb b κ ρ w1 par p n0 n t W m wr) : ∃ ρ', Ow κ ρ κ ρ' w1 wr := by
  obtain ⟨hh, ρ', σ, H, E, hN, k1, k2, k3, k4, k5, k6⟩ := h
  exact ⟨ρ', k6⟩
theorem RN.low {w0 : World} (h : RN hb b κ ρ w1 par p n0 n t W m wr) (hT : Calm w0 w1) (hlow : ∀ j, j < w0.heap.size → ¬ (κ j ≠ none ∨ ρ j ≠ none)) : Calm w0 wr := by
  obtain ⟨ρ', hO⟩ := h.ow
  exact hT.fresh hO.touch hlow
theorem RN.detach (h : RN hb b κ ρ w1 par p n0 n t W m wr) :
    Calls Try.prog 25 #[.pointer (some ⟨b, 0, none⟩), int 2] wr fun r w' => r = .returned (int 0) ∧ RQ hb b κ ρ w1 par p n0 none n 0 0 (m + 8) w' := by
  obtain ⟨hh, ρ', σ, H, E, hN, k1, k2, k3, k4, k5, k6⟩ := h
  obtain ⟨e1, R⟩ := k4.detach k5
  refine (detachX hN.x k4.room.fit 2).mono ?_
  rw [e1]
  rintro r w' ⟨rfl, hX2, hM2⟩
  exact ⟨rfl, ρ', _, H, E, hN.mv hX2 hM2, k1, k2, k3, R, k6.trans (Ow.mv hM2)⟩
theorem RQ.attach (h : RQ hb b κ ρ w1 par p n0 none n t W m wr) (hW : W < 100) (hm : m < 1000000000) {x : Nat} (hx : x < size par) :
    Calls Try.prog 14 #[.pointer (some ⟨b, 0, none⟩), int 2, int x] wr fun r w' => r = .returned (int 0) ∧ RQ hb b κ ρ w1 par p n0 (some x) n t (W + 28) (m + 232) w' := by
  obtain ⟨ρ', σ, H, E, hN, k1, k2, k3, k4, k5⟩ := h
  obtain ⟨e1, R⟩ := k4.attach hW hx
  refine (attachX hN.x k4.room.fit (by omega) 2 x).mono ?_
  rw [e1]
  rintro r w' ⟨rfl, ρ2, hX2, hM2⟩
  exact ⟨rfl, ρ2, _, H, E, hN.mv hX2 hM2, k1, k2, k3, R, k5.trans (Ow.mv hM2)⟩
theorem RQ.quiet {x : Nat} (h : RQ hb b κ ρ w1 par p n0 (some x) n t W m wr) (ht : t ≤ 6) (hm : m < 1000000000) {a : Int} (ha : Fits a) :
    Calls Try.prog 16 #[ptr hb, int a] wr fun r w' => r = .returned (.bool true) ∧ RN hb b κ ρ w1 par p n0 n t W m w' := by
  obtain ⟨ρ', σ, H, E, hN, k1, k2, k3, k4, k5⟩ := h
  refine (quietX (rm_runs ht (by omega)) hN k4 ha (by rw [k1]; simp)).mono ?_
  rintro r w' ⟨rfl, ρ2, σ2, hN2, R, hq, hO2⟩
  exact ⟨rfl, x, ρ2, σ2, H.known, E, hN2, k1, k2, k3, R, hq, k5.trans hO2⟩
/-- What is read behind a trip. -/
theorem RN.log (h : RN hb b κ ρ w1 par p n0 n t W m wr) :
    Calls Try.prog 20 #[.pointer (some ⟨b, 0, none⟩), int 2] wr fun r w' => ∃ a cap, r = .returned (.tuple #[.slice a (n - n0) cap, int 0]) ∧ n0 ≤ n ∧
      (∀ i, i < n - n0 → ∃ g f1 f2, a = some ⟨g, 0, none⟩ ∧ w'.cell? ⟨g, i * 7, none⟩ = some (int 0) ∧ w'.cell? ⟨g, i * 7 + 1, none⟩ = some (int 0) ∧ w'.cell? ⟨g, i * 7 + 2, none⟩ = some (int 3) ∧ w'.cell? ⟨g, i * 7 + 3, none⟩ = some (int ((n0 : Int) + i + 1)) ∧ w'.cell? ⟨g, i * 7 + 4, none⟩ = some (int ((n0 : Int) + i + 1)) ∧ w'.cell? ⟨g, i * 7 + 5, none⟩ = some (int f1) ∧ w'.cell? ⟨g, i * 7 + 6, none⟩ = some (int f2)) ∧
      RN hb b κ ρ w1 par p n n 0 0 (m + 8) w' := by
  obtain ⟨hh, ρ', σ, H, E, hN, k1, k2, k3, k4, k5, k6⟩ := h
  subst k3
  obtain ⟨hlog, _⟩ := k4.told k5
  have R := k4.log k5
  refine (logX hN.x (c := 2) (by omega)).mono ?_
  rintro r w' ⟨v, rfl, hrow, hX2, hM2⟩
  obtain ⟨a, cap, hv, hents⟩ := ents_at hrow
  have hlen : (σ.cl 2).log.length = E.length - n0 := by rw [hlog, List.length_map, List.length_drop]
  rw [hlen] at hv
  subst hv
  refine ⟨a, cap, rfl, k4.le, fun i hi => ?_, hh, ρ', _, H, E, hN.mv hX2 hM2, k1, k2, rfl, R, k5, k6.trans (Ow.mv hM2)⟩
  obtain ⟨e, he⟩ : ∃ e, E[n0 + i]? = some e := ⟨_, List.getElem?_eq_getElem (by omega)⟩
  have hev := k4.evs (n0 + i) e he
  have hle : (σ.cl 2).log[i]? = some ⟨0, 0, e.ev⟩ := by
    rw [hlog, List.getElem?_map, List.getElem?_drop, he]; rfl
  obtain ⟨g, hg, hc⟩ := hents i _ hle
  have hnum : ((n0 + i : Nat) : Int) + 1 = (n0 : Int) + i + 1 := by omega
  rw [hnum] at hev
  refine ⟨g, e.ev.f1, e.ev.f2, hg, hc 0 _ rfl, hc 1 _ rfl, ?_, ?_, ?_, hc 5 _ rfl, hc 6 _ rfl⟩
  · have := hc 2 _ rfl; rw [hev.1] at this; exact this
  · have := hc 3 _ rfl; rw [hev.2.1] at this; exact this
  · have := hc 4 _ rfl; rw [hev.2.2.1] at this; exact this
/-- Where it is in the end. -/
theorem RN.look (h : RN hb b κ ρ w1 par p n0 n t W m wr) :
    Calls Try.prog 29 #[.pointer (some ⟨b, 0, none⟩), int 2] wr fun r w' => ∃ x : Nat, r = .returned (.tuple #[.agg #[int x, int x, .bool false, .bool true, .bool false], int 0]) ∧ RN hb b κ ρ w1 par p n0 n t W m w' := by
  obtain ⟨hh, ρ', σ, H, E, hN, k1, k2, k3, k4, k5, k6⟩ := h
  obtain ⟨e1, e2, _⟩ := k4.on k5
  have u0 : (σ.cl 2).used 0 = true := k4.used 2 0 (by omega) (by omega)
  have u1 : (σ.cl 2).used 1 = false := k4.used 2 1 (by omega) (by omega)
  refine (look_ok hN.x k4.room.fit (c := 2) (by omega)).mono ?_
  rw [k4.here2, e1, e2, u0, u1]
  rintro r w' ⟨rfl, c⟩
  exact ⟨hh, rfl, hh, ρ', σ, H, E, hN.calm c, k1, k2, k3, k4, k5, k6.trans (Ow.calm c)⟩
end

set_option maxRecDepth 100000 in
set_option maxHeartbeats 8000000 in
theorem roams_any (ra : Option Addr) (rn rc : Nat) (f : Nat → Int) (home publ : Int) (ta : Option Addr) (tn tc : Nat) (g : Nat → Int) (w : World)
    (hr : RawAt w ra rn f) (hrn : rn ≤ maxLen) (h1 : Fits home) (h2 : Fits publ) (ht : RawAt w ta tn g) (htn : tn ≤ maxLen) :
    Calls Try.prog 9 #[.slice ra rn rc, int home, int publ, .slice ta tn tc] w fun e w' => e = .returned (.bool true) ∧ Calm w w' := by
  obtain ⟨par, hpar⟩ : ∃ par, par = treeP f (min rn 5) := ⟨_, rfl⟩
  have T : Tree par := by rw [hpar]; exact treeP_tree f _ (by omega)
  have HR := hide hr
  have HRN := hide hrn
  have H1 := hide h1
  have H2 := hide h2
  have HTT := hide ht
  have htnI : (tn : Int) ≤ 9223372036854775807 := by unfold maxLen at htn; omega
  have TT := hide T
  have HPAR := hide hpar
  clear hr hrn h1 h2 ht htn T hpar
  go_enter Try.func9, Try.ntmps9
  go_wp2_with fail
  refine (houseX ra rn rc f _ (unhide HRN) (unhide HR)).mono ?_
  rintro e w1 ⟨hb, b, κ, ρ, rfl, hN1, hlow1, ht1⟩
  rw [← unhide HPAR] at hN1
  have hsz := size_le (unhide TT)
  have hsp : 0 < size par := by unfold size; omega
  have hp1 := fun w => pick_any home (size par) w (unhide H1) (by omega) (by omega)
  have hpl1 := pickN_lt home (size par) hsp
  obtain ⟨a, haE⟩ : ∃ a, a = pickN home (size par) := ⟨_, rfl⟩
  rw [← haE] at hp1 hpl1
  have hp2 := fun w => pick_any publ (size par) w (unhide H2) (by omega) (by omega)
  have hpl2 := pickN_lt publ (size par) hsp
  obtain ⟨p, hpE⟩ : ∃ p, p = pickN publ (size par) := ⟨_, rfl⟩
  rw [← hpE] at hp2 hpl2
  obtain ⟨hE1, hE2, hS2, hE3, hR3⟩ := rm_start (unhide TT) hpl1 hpl2
  have hF0 := fit_new (unhide TT)
  have hF1 := hF0.attach 2 a
  have hF2 := hF1.sub 2 []
  have hnet := hN1.h.net
  have hmany : w1.cell? ⟨hb, 1, none⟩ = some (int (size par : Nat)) := hN1.h.many
  have HP1 := hide hp1
  have HP2 := hide hp2
  have HE1 := hide hE1
  have HE2 := hide hE2
  have HS2 := hide hS2
  have HE3 := hide hE3
  have HR3 := hide hR3
  have HF0 := hide hF0
  have HF1 := hide hF1
  have HF2 := hide hF2
  have HN1 := hide hN1
  have HLOW : Hid (∀ k, k < w.heap.size → ¬ (κ k ≠ none ∨ ρ k ≠ none)) := fun k hk hr => by
    have := hlow1 k hr
    omega
  have HT1 := hide ht1
  clear hp1 hp2 haE hpE hE1 hE2 hS2 hE3 hR3 hF0 hF1 hF2 hN1 hlow1 ht1
  go_wp2_with fail
  go_cut [11] (fun s wx => s = int 0 ∧ ∃ ρ', HN wx hb b κ ρ' ((newNet par).attach 2 a) (newHM par) ∧ Ow κ ρ κ ρ' w1 wx)
  case first =>
    as_aux_lemma =>
      go_region_held3 (fun w' => w'.cell? ⟨hb, 0, none⟩ = some (ptr b) ∧ w'.cell? ⟨hb, 1, none⟩ = some (int (size par : Nat)))
        (first
          | exact ⟨hnet, hmany⟩
          | exact ⟨(((unhide HN1).calm ((Touch.refl _ _).drew)).mv hX4 hM4).h.net, (((unhide HN1).calm ((Touch.refl _ _).drew)).mv hX4 hM4).h.many⟩
          | go_keep)
        (first
          | (go_at_call 12; refine (unhide HP1 _).mono ?_; rintro e w3 ⟨rfl, hw3⟩; have hw3 := hw3.symm; subst hw3)
          | (go_at_call 14; refine (attachX ((unhide HN1).calm ((Touch.refl _ _).drew)).x (unhide HF0) (by omega) 2 a).mono ?_; rw [unhide HE1]; rintro e w4 ⟨rfl, ρ4, hX4, hM4⟩))
      all_goals go_wp2_with fail
      all_goals go_meet
      all_goals exact ⟨rfl, ρ4, ((unhide HN1).calm ((Touch.refl _ _).drew)).mv hX4 hM4, (Ow.calm ((Touch.refl _ _).drew)).trans (Ow.mv hM4)⟩
  case rest =>
    obtain ⟨rfl, ρ4, hN4, hW4⟩ := hcut
    obtain ⟨w4, hw4⟩ : ∃ w4, w4 = wc := ⟨_, rfl⟩
    subst hw4
    have hnet4 := hN4.h.net
    have hsub := subscribeX hN4.x (unhide HF1) (by omega) 2 (l := []) rfl (a := none) (Or.inl rfl) 0
    rw [unhide HE2, if_pos rfl, show ((newNet par).attach 2 a).slot (2 : Int).toNat = 0 from unhide HS2] at hsub
    have HSUB := hide hsub
    have HN4 := hide hN4
    have HW4 := hide hW4
    clear hN4 hW4 hnet hmany hsub
    go_wp2_with fail
    refine (unhide HSUB).mono ?_
    rintro e w5 ⟨rfl, ρ5, hX5, hM5⟩
    have hN5 := (unhide HN4).mv hX5 hM5
    have HW5 := hide ((unhide HW4).trans (Ow.mv hM5))
    have hnet5 := hN5.h.net
    have hmany5 : w5.cell? ⟨hb, 1, none⟩ = some (int (size par : Nat)) := hN5.h.many
    have HN5 := hide hN5
    clear hN5 hX5 hM5 hnet4 HSUB
    go_wp2_with fail
    go_cut [14] (fun s wx => s = int 0 ∧ ∃ ρ', HN wx hb b κ ρ' ((((newNet par).attach 2 a).sub 2 []).attach 3 p) (newHM par) ∧ Ow κ ρ κ ρ' w1 wx)
    case first =>
      as_aux_lemma =>
        go_region_held3 (fun w' => w'.cell? ⟨hb, 0, none⟩ = some (ptr b) ∧ w'.cell? ⟨hb, 1, none⟩ = some (int (size par : Nat)))
          (first
            | exact ⟨hnet5, hmany5⟩
            | exact ⟨(((unhide HN5).calm ((Touch.refl _ _).drew)).mv hX6 hM6).h.net, (((unhide HN5).calm ((Touch.refl _ _).drew)).mv hX6 hM6).h.many⟩
            | go_keep)
          (first
            | (go_at_call 12; refine (unhide HP2 _).mono ?_; rintro e w3 ⟨rfl, hw3⟩; have hw3 := hw3.symm; subst hw3)
            | (go_at_call 14; refine (attachX ((unhide HN5).calm ((Touch.refl _ _).drew)).x (unhide HF2) (by omega) 3 p).mono ?_; rw [unhide HE3]; rintro e w6 ⟨rfl, ρ6, hX6, hM6⟩))
        all_goals go_wp2_with fail
        all_goals go_meet
        all_goals exact ⟨rfl, ρ6, ((unhide HN5).calm ((Touch.refl _ _).drew)).mv hX6 hM6, ((unhide HW5).trans (Ow.calm ((Touch.refl _ _).drew))).trans (Ow.mv hM6)⟩
    case rest =>
      obtain ⟨rfl, ρ6, hN6, hW6⟩ := hcut
      have HN6 := hide hN6
      have HW6 := hide hW6
      clear hN6 hW6 hnet5 hmany5 HN5 HW5 HN4 HW4 HN1
      go_wp2_with fail
      refine (quietX (rm_runs (by omega) (by omega)) (unhide HN6) (unhide HR3) (unhide H1) (by simp [newHM])).mono ?_
      rintro e w7 ⟨rfl, ρ7, σ7, hN7, hR7, hq7, hO7⟩
      have HI7 : Hid (RN hb b κ ρ w1 par p 0 0 0 100 2000 w7) := ⟨a, ρ7, σ7, _, [], hN7, rfl, rfl, rfl, hR7.known rfl hq7, hq7, (unhide HW6).trans hO7⟩
      clear hN7 hR7 hq7 hO7 HN6 HW6 HR3
      go_wp2_with fail
      go_loopw [15, 16, 17] (fun nv tv iv wx => ∃ k nn : Nat, k ≤ tn ∧ k ≤ 40 ∧ nv = int nn ∧ tv = int nn ∧ iv = int k ∧ nn ≤ 6 * k ∧ RN hb b κ ρ w1 par p nn nn 0 100 (2000 + k * 20000) wx) (fun _ _ iv _ => 40 - (intOf iv).toNat)
      case atStart => exact ⟨0, 0, by omega, by omega, rfl, rfl, rfl, by omega, unhide HI7⟩
      case round =>
        obtain ⟨k, nn, hk1, hk2, rfl, rfl, rfl, hnn, hI⟩ := hrel
        obtain ⟨wa, hwa⟩ : ∃ wa, wa = wr := ⟨_, rfl⟩
        subst hwa
        have HI := hide hI
        clear hI HI7
        by_cases hkt : k < tn
        · by_cases hk40 : k < 40
          · have hkI : (k : Int) < tn := by omega
            have hkI2 : (k : Int) < 40 := by omega
            have hcal := (unhide HI).low (unhide HT1) (unhide HLOW)
            obtain ⟨tb, tf, rfl, hc0, hfit⟩ := (unhide HTT).cell hkt
            have htc := hcal.cell (p := ⟨tb, _, none⟩) (fun f => f) hc0
            have hpk := fun w => pick_any (g k) 1099511627776 w hfit (by omega) (by omega)
            have hpl := pickN_lt (g k) 1099511627776 (by omega)
            obtain ⟨c, hc⟩ : ∃ c, c = pickN (g k) 1099511627776 := ⟨_, rfl⟩
            rw [← hc] at hpk hpl
            have HPK := hide hpk
            obtain ⟨hnet, _⟩ := (unhide HI).net
            have HDET := hide (unhide HI).detach
            have hcI : (c : Int) < 1099511627776 := by omega
            clear hcal hc0 hfit hpk hc HI
            go_wp2_with fail
            refine (unhide HPK _).mono ?_
            rintro e w3 ⟨rfl, hw3⟩
            have hw3 := hw3.symm
            subst hw3
            clear htc
            go_wp2_with fail
            refine (unhide HDET).mono ?_
            rintro e w4 ⟨rfl, hQ4⟩
            have hpub := publishesX hQ4 (q := c % 4) (by omega) (by omega) (by omega) (by omega) (by omega) (g := c / 16) (by omega)
            have e1 : ((c % 4 : Nat) : Int) = (c : Int) % 4 := by omega
            have e2 : ((c / 16 : Nat) : Int) = (c : Int) / 16 := by omega
            rw [e1, e2] at hpub
            have HPUB := hide hpub
            clear hQ4 hpub hnet HDET e2
            go_wp2_with fail
            refine (unhide HPUB).mono ?_
            rintro e w5 ⟨rfl, hQ5⟩
            obtain ⟨hnet, hmany⟩ := hQ5.net
            have hwz : IntKind.i64.wrap ((c : Int) / 1024) = (c : Int) / 1024 := by simp [IntKind.wrap, IntKind.signed, IntKind.bits]; omega
            have hpk2 := fun w => pick_any (IntKind.i64.wrap ((c : Int) / 1024)) (size par) w (by rw [hwz]; exact ⟨by omega, by omega⟩) (by omega) (by omega)
            have hpl2 := pickN_lt (IntKind.i64.wrap ((c : Int) / 1024)) (size par) hsp
            obtain ⟨x, hx⟩ : ∃ x, x = pickN (IntKind.i64.wrap ((c : Int) / 1024)) (size par) := ⟨_, rfl⟩
            rw [← hx] at hpk2 hpl2
            have HPK2 := hide hpk2
            have HXL := hide hpl2
            have HATT := hide (fun (wy : World) (cy : Calm w5 wy) => (hQ5.calm cy).attach (by omega) (by omega) hpl2)
            have HKK := hide (And.intro hkt (And.intro hk40 hnn))
            clear hwz hQ5 HPUB hpk2 hx hpl2 HXL HPK hw3 e1 hkt hk40 hkI hk1 hk2
            go_wp2_with fail
            go_cut [22] (fun s wx => s = int 0 ∧ RQ hb b κ ρ w1 par p nn (some x) (nn + c % 4) (0 + c % 4) (0 + 5 * (c % 4) + 28) (2000 + k * 20000 + 8 + 48 * (c % 4) + 232) wx)
            case first =>
              as_aux_lemma =>
                go_region_held3 (fun w' => w'.cell? ⟨hb, 0, none⟩ = some (ptr b) ∧ w'.cell? ⟨hb, 1, none⟩ = some (int (size par : Nat)))
                  (first
                    | exact ⟨hnet, hmany⟩
                    | exact hQ7.net
                    | go_keep)
                  (first
                    | (go_at_call 12; refine (unhide HPK2 _).mono ?_; rintro e w6 ⟨rfl, hw6⟩; have hw6 := hw6.symm; subst hw6)
                    | (go_at_call 14; refine (unhide HATT _ ((Touch.refl _ _).drew)).mono ?_; rintro e w7 ⟨rfl, hQ7⟩))
                all_goals go_wp2_with fail
                all_goals go_meet
                all_goals exact ⟨rfl, hQ7⟩
            case rest =>
              as_aux_lemma =>
                obtain ⟨rfl, hQ7⟩ := hcut
                have hkb := (unhide HKK).2.1
                have hpub := publishesX hQ7 (q := c / 4 % 4) (by omega) (by omega) (by omega) (by omega) (by omega) (g := c / 64) (by omega)
                have e2 : ((c / 4 % 4 : Nat) : Int) = (c : Int) / 4 % 4 := by omega
                have e3 : ((c / 64 : Nat) : Int) = (c : Int) / 64 := by omega
                have e4 : ((nn + c % 4 : Nat) : Int) = (nn : Int) + (c : Int) % 4 := by omega
                rw [e2, e3, e4] at hpub
                have HPUB := hide hpub
                clear hQ7 hpub hnet hmany e3 HPK2
                go_wp2_with fail
                refine (unhide HPUB).mono ?_
                rintro e w8 ⟨rfl, hQ8⟩
                have HQU := hide (hQ8.quiet (by omega) (by omega) (a := (c : Int)) ⟨by omega, by omega⟩)
                clear hQ8 HPUB
                go_wp2_with fail
                refine (unhide HQU).mono ?_
                rintro e w9 ⟨rfl, hI9⟩
                obtain ⟨hnet, _⟩ := hI9.net
                have HLG := hide hI9.log
                clear hI9 HQU
                go_wp2_with fail
                refine (unhide HLG).mono ?_
                rintro e w10 ⟨la, lc, rfl, _, hents, hI10⟩
                obtain ⟨d, hd⟩ : ∃ d : Nat, d = c % 4 + c / 4 % 4 := ⟨_, rfl⟩
                have hlen : nn + c % 4 + c / 4 % 4 - nn = d := by omega
                have hnd : nn + c % 4 + c / 4 % 4 = nn + d := by omega
                rw [hlen] at hents
                rw [hnd] at hI10
                rw [hlen]
                obtain ⟨N, hN⟩ : ∃ N : Nat, (N : Int) = (nn : Int) + (c : Int) % 4 + (c : Int) / 4 % 4 := ⟨nn + d, by omega⟩
                have hNd : N = nn + d := by omega
                have hd6 : d ≤ 6 := by omega
                rw [← hN]
                rw [← hNd] at hI10
                have HEN := hide hents
                have HI10 := hide (hI10.weak (t' := 0) (W' := 100) (m' := 2000 + (k + 1) * 20000) (by omega) (by omega) (by omega))
                have hNI : (N : Int) = (nn : Int) + d := by omega
                have hdI : (d : Int) ≤ 6 := by omega
                have hnnI : (nn : Int) ≤ 240 := by omega
                clear hkb hents hI10 HLG hlen hnd hd hN e2 e4 hcI hpl
                go_wp2_with fail
                go_loopw [16, 26] (fun tv jv wx => ∃ j : Nat, j ≤ d ∧ tv = int ((nn + j : Nat) : Int) ∧ jv = int j ∧ wx = w10) (fun _ jv _ => 6 - (intOf jv).toNat)
                case atStart => exact ⟨0, by omega, rfl, rfl, rfl⟩
                case round =>
                  obtain ⟨j, hj, rfl, rfl, hwx⟩ := hrel
                  subst hwx
                  by_cases hjd : j < d
                  · obtain ⟨gb, y1, y2, rfl, d0, d1, d2, d3, d4, d5, d6⟩ := unhide HEN j hjd
                    have hjI : (j : Int) < d := by omega
                    go_wp2
                    go_roundw
                    case rel => exact ⟨j + 1, by omega, by go_num, by go_num, trivial⟩
                    case measure => simp [intOf]; omega
                  · have hje : j = d := by omega
                    subst hje
                    rw [← hNd]
                    go_wp2
                    go_roundw
                    case rel => exact ⟨k + 1, N, by have := (unhide HKK).1; omega, by have := (unhide HKK).2.1; omega, by rw [hNI], by rw [hNI], by go_num, by have h1 := (unhide HKK).2.2; have h2 := hNd; have h3 := hd6; omega, unhide HI10⟩
                    case measure => have h1 := (unhide HKK).2.1; simp [intOf]; omega
          · have hk5 : k = 40 := by omega
            subst hk5
            have hkI : ((40 : Nat) : Int) < tn := by omega
            obtain ⟨hnet, _⟩ := (unhide HI).net
            have HLK := hide (unhide HI).look
            have heq := fun w a b x y => run_equal70' 9998 w a b x y
            go_wp2_with fail
            refine (unhide HLK).mono ?_
            rintro e w3 ⟨x, rfl, hI3⟩
            have HI3 := hide hI3
            have hx0 : (0 : Int) ≤ x := by omega
            clear hI3
            go_wp2
            go_ret
            exact ⟨rfl, ((unhide HI3).low (unhide HT1) (unhide HLOW)).alloc _⟩
        · have hk5 : k = tn := by omega
          subst hk5
          obtain ⟨hnet, _⟩ := (unhide HI).net
          have HLK := hide (unhide HI).look
          have heq := fun w a b x y => run_equal70' 9998 w a b x y
          go_wp2_with fail
          refine (unhide HLK).mono ?_
          rintro e w3 ⟨x, rfl, hI3⟩
          have HI3 := hide hI3
          have hx0 : (0 : Int) ≤ x := by omega
          clear hI3
          go_wp2
          go_ret
          exact ⟨rfl, ((unhide HI3).low (unhide HT1) (unhide HLOW)).alloc _⟩

set_option maxRecDepth 100000 in
theorem roams_lifted (os : Os) (started : os.Started) (H : Type) (enc : TypeId × Value → H) :
    ReturnsInHanded {} Try.checked os 9 .any (Rows.roamsSpec.pre6 enc Try.prog Try.f9 Rows.roamsRow.domain false) (Rows.roamsSpec.post enc Try.prog Try.f9 false true false false) := by
  refine returnsInHanded_of_change_sized (C := Try.checked) Try.own started (by kernel_rfl) Try.func9
    (ChangeSpec.witness6 (enc := enc) (C := Try.checked) false ⟨#[], #[.slice none 0 0, .int .i64 0, .int .i64 0, .slice none 0 0], []⟩ 8 (by kernel_rfl) (by kernel_rfl) (by kernel_rfl) (by kernel_rfl)) ?_
  intro W base args ds gs before hval0 hW _ _ _
  have hval : ∀ (j : Nat) t v, Try.f9.params[j]? = some t → args[j]? = some v → Value.okWide Try.prog W .any base t v := hval0
  have hW' := hW
  obtain ⟨p, q, hA0, hV, rfl, _, _⟩ := hW
  have hA : DataW.TrodAll enc Try.prog W 0 (fun _ => true) true Try.f9.params.toList args.toList ds p := hA0
  rw [Try.params9] at hA hval
  clear hA0 hval0
  obtain ⟨v0, r0, d0, e0, p0, q0, ha0, rfl, rfl, h0, hA⟩ := trodAll_cons hA
  obtain ⟨v1, r1, d1, e1, p1, q1, rfl, rfl, rfl, h1, hA⟩ := trodAll_cons hA
  obtain ⟨v2, r2, d2, e2, p2, q2, rfl, rfl, rfl, h2, hA⟩ := trodAll_cons hA
  obtain ⟨v3, r3, d3, e3, p3, q3, rfl, rfl, rfl, h3, hA⟩ := trodAll_cons hA
  obtain ⟨rfl, rfl, rfl⟩ := trodAll_nil hA
  obtain rfl : args = #[v0, v1, v2, v3] := by cases args; simp_all
  obtain ⟨rfl, rfl⟩ := trodVars_none hV
  simp only [List.append_nil] at hW'
  have hlt : ∀ x ∈ p0 ++ (p1 ++ (p2 ++ p3)), x.block < W.heap.size := fun x hx => by simpa using hW'.lt x hx
  have hlt0 : ∀ x ∈ p0, x.block < W.heap.size := fun x hx => hlt x (by simp [hx])
  have hlt1 : ∀ x ∈ p1, x.block < W.heap.size := fun x hx => hlt x (by simp [hx])
  have hlt2 : ∀ x ∈ p2, x.block < W.heap.size := fun x hx => hlt x (by simp [hx])
  have hlt3 : ∀ x ∈ p3, x.block < W.heap.size := fun x hx => hlt x (by simp [hx])
  obtain ⟨a0, n0, c0, rfl⟩ := okWide_slice Try.underlying22 (hval 0 22 v0 rfl rfl)
  obtain ⟨z1, rfl⟩ := okWide_int Try.underlying3 (hval 1 3 v1 rfl rfl)
  obtain ⟨z2, rfl⟩ := okWide_int Try.underlying3 (hval 2 3 v2 rfl rfl)
  obtain ⟨a3, n3, c3, rfl⟩ := okWide_slice Try.underlying22 (hval 3 22 v3 rfl rfl)
  have k0 := h0
  have k1 := h1
  have k2 := h2
  have k3 := h3
  obtain ⟨f0, h0⟩ := h0
  obtain ⟨f1, h1⟩ := h1
  obtain ⟨f2, h2⟩ := h2
  obtain ⟨f3, h3⟩ := h3
  obtain ⟨_, _, _, g0, e, hr0, hm0⟩ := list_open h0
  cases e
  obtain ⟨_, e, hf1⟩ := int_open h1
  cases e
  obtain ⟨_, e, hf2⟩ := int_open h2
  cases e
  obtain ⟨_, _, _, g3, e, hr3, hm3⟩ := list_open h3
  cases e
  refine (roams_any a0 n0 c0 g0 z1 z2 a3 n3 c3 g3 W hr0 hm0 hf1 hf2 hr3 hm3).mono fun e W' ⟨he, hb0⟩ => ?_
  subst he
  have hb : Below W.heap.size W W' := hb0.below (Nat.le_refl _) (fun _ f => f.elim)
  refine ⟨_, rfl, _, _, _, [], p0 ++ (p1 ++ (p2 ++ (p3 ++ []))), [], hW', ?_, ?_, rfl, hb.frame _, fun h => by cases h⟩
  · exact trodAll_cons_mk (shut_bool Try.underlying4 true) trodAll_mk0
  · exact trodAll_cons_mk (Below.trod Try.laidOut (by kernel_rfl) (of_decide_eq_true (by kernel_rfl)) k0 hb hlt0)
      (trodAll_cons_mk (Below.trod Try.laidOut (by kernel_rfl) (of_decide_eq_true (by kernel_rfl)) k1 hb hlt1)
      (trodAll_cons_mk (Below.trod Try.laidOut (by kernel_rfl) (of_decide_eq_true (by kernel_rfl)) k2 hb hlt2)
      (trodAll_cons_mk (Below.trod Try.laidOut (by kernel_rfl) (of_decide_eq_true (by kernel_rfl)) k3 hb hlt3) trodAll_mk0)))

/-- THE STATEMENT. -/
theorem roams_holds : Rows.RoamsSaid :=
  OpenClaim.holds_of_wide 9 Try.f9 rfl rfl rfl rfl rfl rfl rfl ⟨rfl, rfl, rfl, rfl, rfl⟩ rfl rfl rfl rfl rfl (by kernel_rfl) Try.func9 (by kernel_rfl)
    (of_decide_eq_true (by kernel_rfl)) (by unfold Func.isWrapper; first | (rw [if_pos (by decide +kernel)]; kernel_rfl) | (rw [if_neg (by decide +kernel)]; exact ⟨rfl, rfl⟩))
    (fun os started H enc _ => roams_lifted os started H enc)

#print axioms roams_holds

end Go.Proofs.Ytodfcpblcpogiaa

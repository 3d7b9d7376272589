/-
  SUBSCRIBE; DETACH.
-/
import Derived.Test.YtodfcpblcpogiaaSubX
namespace Go.Proofs.Ytodfcpblcpogiaa
open Go.RowKit

def freeB (σ : Net) (c : Nat) : Bool := !((σ.cl c).used (σ.slot c))
def freeS (σ : Net) (c : Nat) : Nat := if freeB σ c then σ.slot c else 0

theorem free_gen {w : World} {b : Nat} {ρ : Nat → Option Role} {σ : Net} (h : XN w b ρ σ) {c : Nat} (hc : c < 4) : Calls Try.prog 45 #[.pointer (some ⟨b, 86 + c * 31, none⟩)] w fun e w' => e = .returned (.tuple #[int (freeS σ c : Nat), .bool (freeB σ c)]) ∧ w' = w := by
  cases hu : (σ.cl c).used (σ.slot c) with
  | false =>
    have h1 : freeB σ c = true := by simp [freeB, hu]
    have h2 : freeS σ c = σ.slot c := by simp [freeS, h1]
    rw [h1, h2]; exact free_slot h hc hu
  | true =>
    have h1 : freeB σ c = false := by simp [freeB, hu]
    have h2 : freeS σ c = 0 := by simp [freeS, h1]
    rw [h1, h2]
    have C := h.cli c hc
    have u0 := C.used 0 (by omega)
    have u1 := C.used 1 (by omega)
    unfold Net.slot at hu
    cases h0 : (σ.cl c).used 0 with
    | false => rw [h0] at hu; simp at hu; rw [h0] at hu; cases hu
    | true =>
      rw [h0] at u0 hu
      simp only [if_true] at hu
      rw [hu] at u1
      exact free_none b (86 + c * 31) w u0 u1

section
variable {w : World} {b : Nat} {ρ : Nat → Option Role} {σ : Net}

set_option maxRecDepth 100000 in
set_option maxHeartbeats 1000000 in
theorem subscribe_arg (h : XN w b ρ σ) (c : Int) (hcc : isCli c = false) {l : List Tst} (hl : goodFilter l = true) {a : Option Addr} (ht : TestsAt w a l) (cap : Nat) :
    Calls Try.prog 15 #[.pointer (some ⟨b, 0, none⟩), int c, .slice a l.length cap] w fun e w' => e = .returned (.tuple #[int 0, int 1]) ∧ Calm w w' := by
  have hcl := h.closed
  have hct : chk false = 1 := rfl
  have hbl := h.lt b (by rw [h.net]; simp)
  have HT := hide ht
  have HL := hide hl
  clear h ht hl
  go_enter Try.func15, Try.ntmps15
  go_wp2_with (first
    | (go_at_call 44; refine (filtersNew_exp a cap l _ (unhide HL) (unhide HT)).mono ?_; rintro r w1 ⟨rfl, ht1⟩
       have hcl1 := (ht1.alloc (.cells #[int (tstAt l 0).fld, int (tstAt l 0).op, int (tstAt l 0).n, int (tstAt l 1).fld, int (tstAt l 1).op, int (tstAt l 1).n, int (tstAt l 2).fld, int (tstAt l 2).op, int (tstAt l 2).n, int l.length] 102)).cell (p := ⟨b, 0, none⟩) (fun f => f) hcl
       have HT1 := hide ht1
       clear ht1 hcl)
    | (go_at_call 36; refine (isClient_any _ _).mono ?_; rw [hcc]; rintro r w2 ⟨rfl, hw2⟩; have hw2 := hw2.symm; subst hw2)
    | (go_at_call 35; refine (check_any _ _ _ hcl1).mono ?_; rintro r w2 ⟨rfl, hw2⟩; have hw2 := hw2.symm; subst hw2))
  go_ret2
  exact ⟨rfl, (unhide HT1).alloc _⟩

set_option maxRecDepth 100000 in
set_option maxHeartbeats 2000000 in
theorem subscribe_no (h : XN w b ρ σ) {m : Nat} (F : Fit σ m) {c : Nat} (hc : c < 4) {l : List Tst} (hl : goodFilter l = true) {a : Option Addr} (ht : TestsAt w a l) (cap : Nat) (hE : σ.subE c l ≠ 0) :
    Calls Try.prog 15 #[.pointer (some ⟨b, 0, none⟩), int c, .slice a l.length cap] w fun e w' => e = .returned (.tuple #[int 0, int (σ.subE c l)]) ∧ Calm w w' := by
  have hcl := h.closed
  have hct : chk true = 0 := rfl
  have hcc : isCli (c : Int) = true := isCli_nat hc
  have hci : (c : Int) < 4 := by omega
  have hbl := h.lt b (by rw [h.net]; simp)
  have T := F.good.tree
  have hx6 : ∀ y, (σ.cl c).here = some y → y < 6 := fun y hy => Nat.lt_of_lt_of_le ((F.good.clis c hc).here y hy) (size_le T)
  have hask : σ.asked (isCli (c : Int) && goodFilter l) = 0 := asked_ok h.open_ (by rw [hcc, hl]; rfl)
  have hweq := F.live.waits_eq hc
  have HX := hide h
  have HT := hide ht
  have HL := hide hl
  have HF := hide F
  have HX6 := hide hx6
  -- what the calls ahead of the refusal leave
  cases hh : (σ.cl c).here with
  | none =>
    have e3 : σ.subE c l = 3 := by simp [Net.subE, hask, Net.still, hh]
    rw [e3]
    clear h ht hl F hx6 hE
    go_enter Try.func15, Try.ntmps15
    go_wp2_with (first
      | (go_at_call 44; refine (filtersNew_exp a cap l _ (unhide HL) (unhide HT)).mono ?_; rintro r w1 ⟨rfl, ht1⟩
         have ht2 := ht1.alloc (.cells #[int (tstAt l 0).fld, int (tstAt l 0).op, int (tstAt l 0).n, int (tstAt l 1).fld, int (tstAt l 1).op, int (tstAt l 1).n, int (tstAt l 2).fld, int (tstAt l 2).op, int (tstAt l 2).n, int l.length] 102)
         have hcl1 := ht2.cell (p := ⟨b, 0, none⟩) (fun f => f) hcl
         have HXW := hide ((unhide HX).calm ht2)
         have hat : (w1.alloc (.cells #[int (tstAt l 0).fld, int (tstAt l 0).op, int (tstAt l 0).n, int (tstAt l 1).fld, int (tstAt l 1).op, int (tstAt l 1).n, int (tstAt l 2).fld, int (tstAt l 2).op, int (tstAt l 2).n, int l.length] 102)).cell? ⟨b, 86 + c * 31, none⟩ = some (int (-1)) := by have := ((unhide HXW).cli c hc).here; rw [hh] at this; exact this
         have HT1 := hide ht2
         clear ht1 ht2 hcl)
      | (go_at_call 36; refine (isClient_any _ _).mono ?_; rw [hcc]; rintro r w2 ⟨rfl, hw2⟩; have hw2 := hw2.symm; subst hw2)
      | (go_at_call 35; refine (check_any _ _ _ hcl1).mono ?_; rintro r w2 ⟨rfl, hw2⟩; have hw2 := hw2.symm; subst hw2)
      | (go_at_call 45; refine (free_gen (unhide HXW) hc).mono ?_; rintro r w2 ⟨rfl, hw2⟩; have hw2 := hw2.symm; subst hw2)
      | (go_at_call 38; refine (away_any b (86 + c * 31) (-1) _ hat).mono ?_; rintro r w2 ⟨rfl, hw2⟩; have hw2 := hw2.symm; subst hw2))
    go_ret2
    exact ⟨rfl, unhide HT1⟩
  | some x =>
    have hxm : ((x : Int) == -1) = false := by rw [beq_dec]; exact decide_eq_false (by omega)
    cases hwt : σ.waits c with
    | true =>
      have e5 : σ.subE c l = 5 := by simp [Net.subE, hask, Net.still, hh, hwt]
      rw [e5]
      have hwt2 : waitsAt σ c = true := by rw [hweq]; exact hwt
      clear h ht hl F hx6 hE hwt hweq
      go_enter Try.func15, Try.ntmps15
      go_wp2_with (first
        | (go_at_call 44; refine (filtersNew_exp a cap l _ (unhide HL) (unhide HT)).mono ?_; rintro r w1 ⟨rfl, ht1⟩
           have ht2 := ht1.alloc (.cells #[int (tstAt l 0).fld, int (tstAt l 0).op, int (tstAt l 0).n, int (tstAt l 1).fld, int (tstAt l 1).op, int (tstAt l 1).n, int (tstAt l 2).fld, int (tstAt l 2).op, int (tstAt l 2).n, int l.length] 102)
           have hcl1 := ht2.cell (p := ⟨b, 0, none⟩) (fun f => f) hcl
           have HXW := hide ((unhide HX).calm ht2)
           have hat : (w1.alloc (.cells #[int (tstAt l 0).fld, int (tstAt l 0).op, int (tstAt l 0).n, int (tstAt l 1).fld, int (tstAt l 1).op, int (tstAt l 1).n, int (tstAt l 2).fld, int (tstAt l 2).op, int (tstAt l 2).n, int l.length] 102)).cell? ⟨b, 86 + c * 31, none⟩ = some (int x) := by have := ((unhide HXW).cli c hc).here; rw [hh] at this; exact this
           have HT1 := hide ht2
           clear ht1 ht2 hcl)
        | (go_at_call 36; refine (isClient_any _ _).mono ?_; rw [hcc]; rintro r w2 ⟨rfl, hw2⟩; have hw2 := hw2.symm; subst hw2)
        | (go_at_call 35; refine (check_any _ _ _ hcl1).mono ?_; rintro r w2 ⟨rfl, hw2⟩; have hw2 := hw2.symm; subst hw2)
        | (go_at_call 45; refine (free_gen (unhide HXW) hc).mono ?_; rintro r w2 ⟨rfl, hw2⟩; have hw2 := hw2.symm; subst hw2)
        | (go_at_call 38; refine (away_any b (86 + c * 31) x _ hat).mono ?_; rw [hxm]; rintro r w2 ⟨rfl, hw2⟩; have hw2 := hw2.symm; subst hw2)
        | (go_at_call 46; refine (waitsX (unhide HXW) hc (unhide HX6)).mono ?_; rw [hwt2]; rintro r w2 ⟨rfl, htw⟩))
      go_ret2
      exact ⟨rfl, (unhide HT1).trans htw⟩
    | false =>
      have hwt2 : waitsAt σ c = false := by rw [hweq]; exact hwt
      cases hu : (σ.cl c).used (σ.slot c) with
      | true =>
        have e7 : σ.subE c l = 7 := by simp [Net.subE, hask, Net.still, hh, hwt, hu]
        rw [e7]
        have hfb : freeB σ c = false := by simp [freeB, hu]
        clear h ht hl F hx6 hE hwt hweq hu
        go_enter Try.func15, Try.ntmps15
        go_wp2_with (first
          | (go_at_call 44; refine (filtersNew_exp a cap l _ (unhide HL) (unhide HT)).mono ?_; rintro r w1 ⟨rfl, ht1⟩
             have ht2 := ht1.alloc (.cells #[int (tstAt l 0).fld, int (tstAt l 0).op, int (tstAt l 0).n, int (tstAt l 1).fld, int (tstAt l 1).op, int (tstAt l 1).n, int (tstAt l 2).fld, int (tstAt l 2).op, int (tstAt l 2).n, int l.length] 102)
             have hcl1 := ht2.cell (p := ⟨b, 0, none⟩) (fun f => f) hcl
             have HXW := hide ((unhide HX).calm ht2)
             have hat : (w1.alloc (.cells #[int (tstAt l 0).fld, int (tstAt l 0).op, int (tstAt l 0).n, int (tstAt l 1).fld, int (tstAt l 1).op, int (tstAt l 1).n, int (tstAt l 2).fld, int (tstAt l 2).op, int (tstAt l 2).n, int l.length] 102)).cell? ⟨b, 86 + c * 31, none⟩ = some (int x) := by have := ((unhide HXW).cli c hc).here; rw [hh] at this; exact this
             have HT1 := hide ht2
             clear ht1 ht2 hcl)
          | (go_at_call 36; refine (isClient_any _ _).mono ?_; rw [hcc]; rintro r w2 ⟨rfl, hw2⟩; have hw2 := hw2.symm; subst hw2)
          | (go_at_call 35; refine (check_any _ _ _ hcl1).mono ?_; rintro r w2 ⟨rfl, hw2⟩; have hw2 := hw2.symm; subst hw2)
          | (go_at_call 45; refine (free_gen (unhide HXW) hc).mono ?_; rw [hfb]; rintro r w2 ⟨rfl, hw2⟩; have hw2 := hw2.symm; subst hw2)
          | (go_at_call 38; refine (away_any b (86 + c * 31) x _ hat).mono ?_; rw [hxm]; rintro r w2 ⟨rfl, hw2⟩; have hw2 := hw2.symm; subst hw2)
          | (go_at_call 46; refine (waitsX (unhide HXW) hc (unhide HX6)).mono ?_; rw [hwt2]; rintro r w2 ⟨rfl, htw⟩))
        go_ret2
        exact ⟨rfl, (unhide HT1).trans htw⟩
      | false =>
        cases hful : σ.full with
        | false => exact absurd (by simp [Net.subE, hask, Net.still, hh, hwt, hu, hful]) hE
        | true =>
          have e6 : σ.subE c l = 6 := by simp [Net.subE, hask, Net.still, hh, hwt, hu, hful]
          rw [e6]
          have hfb : freeB σ c = true := by simp [freeB, hu]
          clear h ht hl F hx6 hE hwt hweq hu
          go_enter Try.func15, Try.ntmps15
          go_wp2_with (first
            | (go_at_call 44; refine (filtersNew_exp a cap l _ (unhide HL) (unhide HT)).mono ?_; rintro r w1 ⟨rfl, ht1⟩
               have ht2 := ht1.alloc (.cells #[int (tstAt l 0).fld, int (tstAt l 0).op, int (tstAt l 0).n, int (tstAt l 1).fld, int (tstAt l 1).op, int (tstAt l 1).n, int (tstAt l 2).fld, int (tstAt l 2).op, int (tstAt l 2).n, int l.length] 102)
               have hcl1 := ht2.cell (p := ⟨b, 0, none⟩) (fun f => f) hcl
               have HXW := hide ((unhide HX).calm ht2)
               have hat : (w1.alloc (.cells #[int (tstAt l 0).fld, int (tstAt l 0).op, int (tstAt l 0).n, int (tstAt l 1).fld, int (tstAt l 1).op, int (tstAt l 1).n, int (tstAt l 2).fld, int (tstAt l 2).op, int (tstAt l 2).n, int l.length] 102)).cell? ⟨b, 86 + c * 31, none⟩ = some (int x) := by have := ((unhide HXW).cli c hc).here; rw [hh] at this; exact this
               have HT1 := hide ht2
               clear ht1 ht2 hcl)
            | (go_at_call 36; refine (isClient_any _ _).mono ?_; rw [hcc]; rintro r w2 ⟨rfl, hw2⟩; have hw2 := hw2.symm; subst hw2)
            | (go_at_call 35; refine (check_any _ _ _ hcl1).mono ?_; rintro r w2 ⟨rfl, hw2⟩; have hw2 := hw2.symm; subst hw2)
            | (go_at_call 45; refine (free_gen (unhide HXW) hc).mono ?_; rw [hfb]; rintro r w2 ⟨rfl, hw2⟩; have hw2 := hw2.symm; subst hw2)
            | (go_at_call 38; refine (away_any b (86 + c * 31) x _ hat).mono ?_; rw [hxm]; rintro r w2 ⟨rfl, hw2⟩; have hw2 := hw2.symm; subst hw2)
            | (go_at_call 46; refine (waitsX (unhide HXW) hc (unhide HX6)).mono ?_; rw [hwt2]; rintro r w2 ⟨rfl, htw⟩
               have HXV := hide ((unhide HXW).calm htw)
               have HTW := hide ((unhide HT1).trans htw)
               clear htw)
            | (go_at_call 39; refine (fullX (unhide HXV) (unhide HF)).mono ?_; rw [hful]; rintro r w3 ⟨rfl, ht3⟩))
          go_ret2
          exact ⟨rfl, (unhide HTW).trans ht3⟩

/-- SUBSCRIBE, with a filter that is good. -/
theorem subscribeX (h : XN w b ρ σ) {m : Nat} (F : Fit σ m) (hm : m < 2000000000000) (c : Int) {l : List Tst} (hl : goodFilter l = true) {a : Option Addr} (ht : TestsAt w a l) (cap : Nat) :
    Calls Try.prog 15 #[.pointer (some ⟨b, 0, none⟩), int c, .slice a l.length cap] w fun e w' => e = .returned (.tuple #[int (if σ.subE c l = 0 then (σ.slot c.toNat : Nat) else 0), int (σ.subE c l)]) ∧ ∃ ρ', XN w' b ρ' (σ.sub c l) ∧ Mv allR ρ ρ' w w' := by
  cases hcc : isCli c with
  | false =>
    have hE : σ.subE c l = 1 := by simp [Net.subE, Net.asked, h.open_, hcc]
    have hA : σ.sub c l = σ := by simp [Net.sub, hE]
    rw [hE, hA]
    exact (subscribe_arg h c hcc hl ht cap).mono fun e w' ⟨h1, h2⟩ => ⟨by rw [h1]; rfl, ρ, h.calm h2, h.mvCalm h2⟩
  | true =>
    have hcc' := hcc
    simp only [isCli, decide_eq_true_eq] at hcc'
    obtain ⟨c', rfl⟩ : ∃ c' : Nat, c = c' := ⟨c.toNat, by omega⟩
    have hc : c' < 4 := by omega
    by_cases hE : σ.subE c' l = 0
    · obtain ⟨_, _, _, h1, h2, h3, h4⟩ := subE_zero hE
      simp only [toNat_nat] at h1 h2 h3
      cases hh : (σ.cl c').here with
      | none => exact absurd hh h1
      | some x =>
        have hA : σ.sub c' l = ((σ.setCl c' ((σ.cl c').subs (σ.slot c') l)).handle x none (.sub (2 * c' + σ.slot c') ((σ.cl c').age (σ.slot c') + 1) l)) := by
          simp only [Net.sub, hE, if_true, toNat_nat, hh, Net.subN, Net.handle]
          congr 1
          unfold Net.learn
          have hk2 : σ.slot c' < 2 := by unfold Net.slot; split <;> omega
          have hkn : (σ.setCl c' ((σ.cl c').subs (σ.slot c') l)).kn x (2 * c' + σ.slot c') = σ.kn x (2 * c' + σ.slot c') := rfl
          rw [hkn]
          cases hf : σ.kn x (2 * c' + σ.slot c') with
          | none => simp [Cli.subs, hh]
          | some f =>
            have hs : (2 * c' + σ.slot c') / 2 = c' := by omega
            have hk3 : (2 * c' + σ.slot c') % 2 = σ.slot c' := by omega
            have hage := (F.live.view (2 * c' + σ.slot c') (by omega)).facts x f.co (by show (σ.kn x (2 * c' + σ.slot c')).map Fact.co = _; rw [hf]; rfl)
            have h5 : (σ.view (2 * c' + σ.slot c')).age = (σ.cl c').age (σ.slot c') := by simp only [Net.view, hs, hk3]
            rw [h5] at hage
            have h6 : f.age < (σ.cl c').age (σ.slot c') + 1 := by have : f.co.age = f.age := rfl; omega
            simp only [if_pos h6]
            simp [Cli.subs, hh]
        rw [hA, if_pos hE, hE]
        exact subscribe_ok h F hm hc hh rfl h3 h2 h4 hl ht cap
    · have hA : σ.sub c' l = σ := by simp [Net.sub, hE]
      rw [hA, if_neg hE]
      exact (subscribe_no h F hc hl ht cap hE).mono fun e w' ⟨h1, h2⟩ => ⟨h1, ρ, h.calm h2, h.mvCalm h2⟩

/-! ### a client goes -/
theorem XN.leave (h : XN w b ρ σ) {c : Nat} (hc : c < 4) : XN (w.setCell ⟨b, 86 + c * 31, none⟩ (int (-1))) b ρ (σ.setCl c { σ.cl c with here := none }) ∧ Mv allR ρ ρ w (w.setCell ⟨b, 86 + c * 31, none⟩ (int (-1))) := by
  have C := h.cli c hc
  have hne : ∀ o u, o ≠ 86 + c * 31 → w.cell? ⟨b, o, none⟩ = some u → (w.setCell ⟨b, 86 + c * 31, none⟩ (int (-1))).cell? ⟨b, o, none⟩ = some u := fun o u ho hu => cell_setCell_ne w ho hu
  have hkr : ∀ i r, ρ i = some r → r ≠ .net → (w.setCell ⟨b, 86 + c * 31, none⟩ (int (-1))).heap[i]? = w.heap[i]? ∧ ρ i = ρ i := fun i r hi hr => ⟨heap_setCell_other w _ (fun e => by subst e; rw [h.net] at hi; cases hi; exact hr rfl), rfl⟩
  refine ⟨h.storeCli hc _ _ (by omega) (by omega) ?_, Mv.setCell (S := allR) h.lt h.net trivial _ _⟩
  obtain ⟨u, g1, g2⟩ := C.log
  refine ⟨World.cell?_setCell_same w _ _ C.here, hne _ _ (by omega) C.home, hne _ _ (by omega) C.stays, hne _ _ (by omega) C.many, fun k h2 => hne _ _ (by omega) (C.used k h2), fun k h2 => hne _ _ (by omega) (C.age k h2), fun k h2 => (C.fl k h2).keep (fun j v hj => hne _ _ (by omega)), fun k h2 => ?_, u, hne _ _ (by omega) g1, g2.keep (fun i hi => hkr i _ hi (by simp))⟩
  obtain ⟨u', f1, f2⟩ := C.heard k h2
  exact ⟨u', hne _ _ (by omega) f1, f2.keep (fun i hi => hkr i _ hi (by simp))⟩

set_option maxRecDepth 100000 in
set_option maxHeartbeats 1000000 in
/-- DETACH. -/
theorem detachX (h : XN w b ρ σ) {m : Nat} (F : Fit σ m) (c : Int) :
    Calls Try.prog 25 #[.pointer (some ⟨b, 0, none⟩), int c] w fun e w' => e = .returned (int (σ.detachE c)) ∧ XN w' b ρ (σ.detach c) ∧ Mv allR ρ ρ w w' := by
  have hcl := h.closed
  have hct : chk true = 0 := rfl
  have hcf : chk false = 1 := rfl
  have hbl := h.lt b (by rw [h.net]; simp)
  cases hcc : isCli c with
  | false =>
    have hE : σ.detachE c = 1 := by simp [Net.detachE, Net.asked, h.open_, hcc]
    have hA : σ.detach c = σ := by simp [Net.detach, hE]
    rw [hE, hA]
    have HX := hide h
    clear h F
    go_enter Try.func25, Try.ntmps25
    go_wp2_with (first
      | (go_at_call 36; refine (isClient_any _ _).mono ?_; rw [hcc]; rintro r w2 ⟨rfl, hw2⟩; have hw2 := hw2.symm; subst hw2)
      | (go_at_call 35; refine (check_any _ _ _ hcl).mono ?_; rintro r w2 ⟨rfl, hw2⟩; have hw2 := hw2.symm; subst hw2))
    go_ret
    exact ⟨rfl, unhide HX, Mv.refl (unhide HX).lt⟩
  | true =>
    have hcc' := hcc
    simp only [isCli, decide_eq_true_eq] at hcc'
    obtain ⟨c', rfl⟩ : ∃ c' : Nat, c = c' := ⟨c.toNat, by omega⟩
    have hc : c' < 4 := by omega
    have hci : (c' : Int) < 4 := by omega
    have hask : σ.asked (isCli (c' : Int)) = 0 := asked_ok h.open_ hcc
    have hat := (h.cli c' hc).here
    have hx6 : ∀ y, (σ.cl c').here = some y → y < 6 := fun y hy => Nat.lt_of_lt_of_le ((F.good.clis c' hc).here y hy) (size_le F.good.tree)
    have hweq := F.live.waits_eq hc
    cases hh : (σ.cl c').here with
    | none =>
      rw [hh] at hat
      replace hat : w.cell? ⟨b, 86 + c' * 31, none⟩ = some (int (-1)) := hat
      have hE : σ.detachE c' = 3 := by simp [Net.detachE, hask, Net.still, hh]
      have hA : σ.detach c' = σ := by simp [Net.detach, hE]
      rw [hE, hA]
      have HX := hide h
      clear h F hx6 hweq
      go_enter Try.func25, Try.ntmps25
      go_wp2_with (first
        | (go_at_call 36; refine (isClient_any _ _).mono ?_; rw [hcc]; rintro r w2 ⟨rfl, hw2⟩; have hw2 := hw2.symm; subst hw2)
        | (go_at_call 35; refine (check_any _ _ _ hcl).mono ?_; rintro r w2 ⟨rfl, hw2⟩; have hw2 := hw2.symm; subst hw2)
        | (go_at_call 38; refine (away_any b (86 + c' * 31) (-1) _ hat).mono ?_; rintro r w2 ⟨rfl, hw2⟩; have hw2 := hw2.symm; subst hw2))
      go_ret
      exact ⟨rfl, unhide HX, Mv.refl (unhide HX).lt⟩
    | some x =>
      rw [hh] at hat
      replace hat : w.cell? ⟨b, 86 + c' * 31, none⟩ = some (int x) := hat
      have hxm : ((x : Int) == -1) = false := by rw [beq_dec]; exact decide_eq_false (by omega)
      cases hwt : σ.waits c' with
      | true =>
        have hE : σ.detachE c' = 5 := by simp [Net.detachE, hask, Net.still, hh, hwt]
        have hA : σ.detach c' = σ := by simp [Net.detach, hE]
        have hwt2 : waitsAt σ c' = true := by rw [hweq]; exact hwt
        rw [hE, hA]
        have HX := hide h
        have HX6 := hide hx6
        clear h F hx6 hweq hwt
        go_enter Try.func25, Try.ntmps25
        go_wp2_with (first
          | (go_at_call 36; refine (isClient_any _ _).mono ?_; rw [hcc]; rintro r w2 ⟨rfl, hw2⟩; have hw2 := hw2.symm; subst hw2)
          | (go_at_call 35; refine (check_any _ _ _ hcl).mono ?_; rintro r w2 ⟨rfl, hw2⟩; have hw2 := hw2.symm; subst hw2)
          | (go_at_call 38; refine (away_any b (86 + c' * 31) x _ hat).mono ?_; rw [hxm]; rintro r w2 ⟨rfl, hw2⟩; have hw2 := hw2.symm; subst hw2)
          | (go_at_call 46; refine (waitsX (unhide HX) hc (unhide HX6)).mono ?_; rw [hwt2]; rintro r w2 ⟨rfl, htw⟩))
        go_ret
        exact ⟨rfl, (unhide HX).calm htw, (unhide HX).mvCalm htw⟩
      | false =>
        have hE : σ.detachE c' = 0 := by simp [Net.detachE, hask, Net.still, hh, hwt]
        have hA : σ.detach c' = σ.setCl c' { σ.cl c' with here := none } := by simp [Net.detach, hE]
        have hwt2 : waitsAt σ c' = false := by rw [hweq]; exact hwt
        rw [hE, hA]
        have HX := hide h
        have HX6 := hide hx6
        clear h F hx6 hweq hwt
        go_enter Try.func25, Try.ntmps25
        go_wp2_with (first
          | (go_at_call 36; refine (isClient_any _ _).mono ?_; rw [hcc]; rintro r w2 ⟨rfl, hw2⟩; have hw2 := hw2.symm; subst hw2)
          | (go_at_call 35; refine (check_any _ _ _ hcl).mono ?_; rintro r w2 ⟨rfl, hw2⟩; have hw2 := hw2.symm; subst hw2)
          | (go_at_call 38; refine (away_any b (86 + c' * 31) x _ hat).mono ?_; rw [hxm]; rintro r w2 ⟨rfl, hw2⟩; have hw2 := hw2.symm; subst hw2)
          | (go_at_call 46; refine (waitsX (unhide HX) hc (unhide HX6)).mono ?_; rw [hwt2]; rintro r w2 ⟨rfl, htw⟩
             have HX2 := hide ((unhide HX).calm htw)
             have HM2 : Hid (Mv allR ρ ρ w w2) := Mv.calm (unhide HX).lt htw
             clear htw)
          | (go_at_call 57; refine (leave_any b (86 + c' * 31) _ _ ((unhide HX2).cli c' hc).here (unhide HX2).fr).mono ?_; rintro r w3 ⟨rfl, rfl⟩))
        go_ret
        obtain ⟨r1, r2⟩ := (unhide HX2).leave hc
        exact ⟨rfl, r1, (unhide HM2).trans r2⟩
end

end Go.Proofs.Ytodfcpblcpogiaa

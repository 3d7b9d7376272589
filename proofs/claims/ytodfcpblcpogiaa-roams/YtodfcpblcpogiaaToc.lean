/-
  An event, for a subscription that is here: told, or kept.
-/
import Derived.Test.YtodfcpblcpogiaaKeepx
namespace Go.Proofs.Ytodfcpblcpogiaa
open Go.RowKit

theorem encFr_event (e : News) (u : List Value) (kv : Value) : (encFr (.event e) u kv).toArray = #[int 2, int 0, int 0, int 0, int 0, int 0, int 0, int 0, int 0, int 0, int 0, int 0, int 0, int 0, int e.ev.pub, int e.ev.num, int e.ev.f0, int e.ev.f1, int e.ev.f2, int e.stay, int 0, int 0, nilS, int 0] := rfl

set_option maxHeartbeats 400000 in
theorem waits_known (kb : Nat) (g : Bool) (w : World) (h : w.cell? ⟨kb, 14, none⟩ = some (.bool g)) : Calls Try.prog 77 #[ptr kb] w fun e w' => e = .returned (.bool g) ∧ w' = w := by
  go_enter Try.func77, Try.ntmps77
  go_wp2
  go_ret
  exact ⟨rfl, rfl⟩




/-- What telling an event asks of a client. -/
structure Hears (x : Cli) (k : Nat) : Prop where
  used : x.used k = true
  ris : Rising (x.told k)
  log : x.log.length < 2199023255552
  told : (x.told k).length < 2199023255552

set_option maxRecDepth 100000 in
set_option maxHeartbeats 1000000 in
theorem toc_tell {w : World} {b : Nat} {ρ : Nat → Option Role} {σ : Net} (h : XN w b ρ σ) {x c k kb fb : Nat} (hc : c < 4) (hk : k < 2) {e : News} (he : e.ok) (hH : Hears (σ.cl c) k)
    (hat : w.cell? ⟨b, 86 + c * 31, none⟩ = some (int x)) (k14 : w.cell? ⟨kb, 14, none⟩ = some (.bool false)) (k0 : w.cell? ⟨kb, 0, none⟩ = some (int c)) (k1 : w.cell? ⟨kb, 1, none⟩ = some (int k))
    (c14 : w.cell? ⟨fb, 14, none⟩ = some (int e.ev.pub)) (c15 : w.cell? ⟨fb, 15, none⟩ = some (int e.ev.num)) (c16 : w.cell? ⟨fb, 16, none⟩ = some (int e.ev.f0)) (c17 : w.cell? ⟨fb, 17, none⟩ = some (int e.ev.f1)) (c18 : w.cell? ⟨fb, 18, none⟩ = some (int e.ev.f2)) (c19 : w.cell? ⟨fb, 19, none⟩ = some (int e.stay)) :
    Calls Try.prog 99 #[.pointer (some ⟨b, 0, none⟩), int x, ptr kb, ptr fb] w fun r w' => r = .returned (.tuple #[]) ∧
      ∃ ρ', XN w' b ρ' (σ.tell (2 * c + k) e) ∧ Mv (tellR c k) ρ ρ' w w' ∧ (∀ i, w.heap.size ≤ i → ρ' i ≠ none → ∃ cs t f, w'.heap[i]? = some (.cells cs t f)) ∧ OnlyT w w' ∧ StayC w w' ∧ Front b w w' := by
  obtain ⟨hu, hris, hlog, htl⟩ := hH
  have hci : (c : Int) < 4 := by omega
  have HX := hide h
  have HRIS := hide hris
  have HEK := hide he
  clear h hris he
  go_enter Try.func99, Try.ntmps99
  go_wp2
  go_region
  go_wp2_with (first
    | (go_at_call 49; refine (at_any b (86 + c * 31) x _ ?_).mono ?_; exact hat; rintro r w1 ⟨rfl, rfl⟩)
    | (go_at_call 77; refine (waits_known kb false _ ?_).mono ?_; exact k14; rintro r w1 ⟨rfl, rfl⟩))
  go_region_with (first
    | (go_at_call 107; refine (notesEvent_any _ _ _ _ _ _ _ _).mono ?_; rintro r w2 ⟨rfl, ht2⟩)
    | (go_at_call 72; refine (tellX (σ := σ) (ρ := ρ) (c := c) (k := k) (e := e) ((unhide HX).calm ((((Touch.refl _ _).drew).drew).calm ht2)) hc hk (unhide HEK) hu (unhide HRIS) hlog htl).mono ?_; rintro r w3 ⟨rfl, ρ3, h3, m3, n3, o3, s3, f3⟩))
  all_goals go_end0
  all_goals
    have hcal : Calm w w2 := (((Touch.refl _ _).drew).drew).calm ht2
    refine ⟨rfl, ρ3, h3, (Mv.calm (unhide HX).lt hcal).trans m3, fun i hi hne => ?_, (OnlyT.of_calm hcal).trans o3, (StayC.of_calm hcal).trans s3, (Front.of_calm hcal).trans f3⟩
    by_cases hi2 : w2.heap.size ≤ i
    · exact n3 i hi2 hne
    · have hn : ρ i = none := by
        cases hq : ρ i with
        | none => rfl
        | some r => exact absurd ((unhide HX).lt i (by rw [hq]; simp)) (by omega)
      exact absurd (m3.noRole (by omega) hn) hne

set_option maxRecDepth 100000 in
set_option maxHeartbeats 1000000 in
theorem toc_wait {w : World} {b : Nat} {ρ : Nat → Option Role} {σ : Net} (h : XN w b ρ σ) {x c k kb fb : Nat} (hx : x < 6) (hc : c < 4) (hk : k < 2) {e : News} {f : Fact} (hkn : σ.kn x (2 * c + k) = some f) (hptr : w.cell? ⟨b, 38 + x * 8 + c * 2 + k, none⟩ = some (ptr kb)) (hlen : f.kept.length < 2199023255552) (hsix : f.waits = false → f.kept.length ≤ 6) (hmo : 0 ≤ f.more ∧ f.more < 2199023255552)
    (hat : w.cell? ⟨b, 86 + c * 31, none⟩ = some (int x)) (k14 : w.cell? ⟨kb, 14, none⟩ = some (.bool true)) (k0 : w.cell? ⟨kb, 0, none⟩ = some (int c)) (k1 : w.cell? ⟨kb, 1, none⟩ = some (int k))
    (c14 : w.cell? ⟨fb, 14, none⟩ = some (int e.ev.pub)) (c15 : w.cell? ⟨fb, 15, none⟩ = some (int e.ev.num)) (c16 : w.cell? ⟨fb, 16, none⟩ = some (int e.ev.f0)) (c17 : w.cell? ⟨fb, 17, none⟩ = some (int e.ev.f1)) (c18 : w.cell? ⟨fb, 18, none⟩ = some (int e.ev.f2)) (c19 : w.cell? ⟨fb, 19, none⟩ = some (int e.stay)) :
    Calls Try.prog 99 #[.pointer (some ⟨b, 0, none⟩), int x, ptr kb, ptr fb] w fun r w' => r = .returned (.tuple #[]) ∧
      ∃ ρ', XN w' b ρ' (σ.know x (2 * c + k) (some (keepF f e))) ∧ Mv (keepR x (2 * c + k)) ρ ρ' w w' ∧ (∀ i, w.heap.size ≤ i → ρ' i ≠ none → ∃ cs t f, w'.heap[i]? = some (.cells cs t f)) ∧ OnlyT w w' ∧ StayC w w' ∧ Front b w w' := by
  have hci : (c : Int) < 4 := by omega
  have HX := hide h
  have HKN := hide hkn
  have HPT := hide hptr
  have HSIX := hide hsix
  have HMO := hide hmo
  have HLN := hide hlen
  clear h hkn hptr hsix hmo hlen
  go_enter Try.func99, Try.ntmps99
  go_wp2
  go_region
  go_wp2_with (first
    | (go_at_call 49; refine (at_any b (86 + c * 31) x _ ?_).mono ?_; exact hat; rintro r w1 ⟨rfl, rfl⟩)
    | (go_at_call 77; refine (waits_known kb true _ ?_).mono ?_; exact k14; rintro r w1 ⟨rfl, rfl⟩))
  go_region_with (first
    | (go_at_call 107; refine (notesEvent_any _ _ _ _ _ _ _ _).mono ?_; rintro r w2 ⟨rfl, ht2⟩)
    | (go_at_call 106; refine (keepX (σ := σ) (ρ := ρ) (x := x) (c := c) (k := k) (f := f) (e := e) ((unhide HX).calm ((((Touch.refl _ _).drew).drew).calm ht2)) hx hc hk (unhide HKN) (((((Touch.refl (fun _ => False) _).drew).drew).calm ht2).cell (p := ⟨b, 38 + x * 8 + c * 2 + k, none⟩) (fun f => f) (unhide HPT)) (unhide HLN) (unhide HSIX) (unhide HMO)).mono ?_; rintro r w3 ⟨rfl, ρ3, h3, m3, n3, o3, s3, f3⟩))
  all_goals go_end0
  all_goals
    have hcal : Calm w w2 := (((Touch.refl _ _).drew).drew).calm ht2
    refine ⟨rfl, ρ3, h3, (Mv.calm (unhide HX).lt hcal).trans m3, fun i hi hne => ?_, (OnlyT.of_calm hcal).trans o3, (StayC.of_calm hcal).trans s3, (Front.of_calm hcal).trans f3⟩
    by_cases hi2 : w2.heap.size ≤ i
    · exact n3 i hi2 hne
    · have hn : ρ i = none := by
        cases hq : ρ i with
        | none => rfl
        | some r => exact absurd ((unhide HX).lt i (by rw [hq]; simp)) (by omega)
      exact absurd (m3.noRole (by omega) hn) hne

set_option maxRecDepth 100000 in
set_option maxHeartbeats 1000000 in
theorem toc_away {w : World} {b : Nat} {ρ : Nat → Option Role} {σ : Net} (h : XN w b ρ σ) {x c k kb fb : Nat} (hx : x < 6) (hc : c < 4) (hk : k < 2) {e : News} {f : Fact} (hkn : σ.kn x (2 * c + k) = some f) (hptr : w.cell? ⟨b, 38 + x * 8 + c * 2 + k, none⟩ = some (ptr kb)) (hlen : f.kept.length < 2199023255552) (hsix : f.waits = false → f.kept.length ≤ 6) (hmo : 0 ≤ f.more ∧ f.more < 2199023255552)
    {z : Int} (hat : w.cell? ⟨b, 86 + c * 31, none⟩ = some (int z)) (hz : (z == (x : Int)) = false) (k0 : w.cell? ⟨kb, 0, none⟩ = some (int c)) (k1 : w.cell? ⟨kb, 1, none⟩ = some (int k))
    (c14 : w.cell? ⟨fb, 14, none⟩ = some (int e.ev.pub)) (c15 : w.cell? ⟨fb, 15, none⟩ = some (int e.ev.num)) (c16 : w.cell? ⟨fb, 16, none⟩ = some (int e.ev.f0)) (c17 : w.cell? ⟨fb, 17, none⟩ = some (int e.ev.f1)) (c18 : w.cell? ⟨fb, 18, none⟩ = some (int e.ev.f2)) (c19 : w.cell? ⟨fb, 19, none⟩ = some (int e.stay)) :
    Calls Try.prog 99 #[.pointer (some ⟨b, 0, none⟩), int x, ptr kb, ptr fb] w fun r w' => r = .returned (.tuple #[]) ∧
      ∃ ρ', XN w' b ρ' (σ.know x (2 * c + k) (some (keepF f e))) ∧ Mv (keepR x (2 * c + k)) ρ ρ' w w' ∧ (∀ i, w.heap.size ≤ i → ρ' i ≠ none → ∃ cs t f, w'.heap[i]? = some (.cells cs t f)) ∧ OnlyT w w' ∧ StayC w w' ∧ Front b w w' := by
  have hci : (c : Int) < 4 := by omega
  have HX := hide h
  have HKN := hide hkn
  have HPT := hide hptr
  have HSIX := hide hsix
  have HMO := hide hmo
  have HLN := hide hlen
  clear h hkn hptr hsix hmo hlen
  go_enter Try.func99, Try.ntmps99
  go_wp2
  go_region
  go_wp2_with (go_at_call 49; refine (at_any b (86 + c * 31) z _ ?_).mono ?_; exact hat; rintro r w1 ⟨rfl, rfl⟩)
  go_region_with (first
    | (go_at_call 107; refine (notesEvent_any _ _ _ _ _ _ _ _).mono ?_; rintro r w2 ⟨rfl, ht2⟩)
    | (go_at_call 106; refine (keepX (σ := σ) (ρ := ρ) (x := x) (c := c) (k := k) (f := f) (e := e) ((unhide HX).calm ((((Touch.refl _ _).drew).drew).calm ht2)) hx hc hk (unhide HKN) (((((Touch.refl (fun _ => False) _).drew).drew).calm ht2).cell (p := ⟨b, 38 + x * 8 + c * 2 + k, none⟩) (fun f => f) (unhide HPT)) (unhide HLN) (unhide HSIX) (unhide HMO)).mono ?_; rintro r w3 ⟨rfl, ρ3, h3, m3, n3, o3, s3, f3⟩))
  all_goals go_end0
  all_goals
    have hcal : Calm w w2 := (((Touch.refl _ _).drew).drew).calm ht2
    refine ⟨rfl, ρ3, h3, (Mv.calm (unhide HX).lt hcal).trans m3, fun i hi hne => ?_, (OnlyT.of_calm hcal).trans o3, (StayC.of_calm hcal).trans s3, (Front.of_calm hcal).trans f3⟩
    by_cases hi2 : w2.heap.size ≤ i
    · exact n3 i hi2 hne
    · have hn : ρ i = none := by
        cases hq : ρ i with
        | none => rfl
        | some r => exact absurd ((unhide HX).lt i (by rw [hq]; simp)) (by omega)
      exact absurd (m3.noRole (by omega) hn) hne

/-- TELLORKEEP. -/
theorem tocX {w : World} {b : Nat} {ρ : Nat → Option Role} {σ : Net} (h : XN w b ρ σ) {x c k kb fb : Nat} (hx : x < 6) (hc : c < 4) (hk : k < 2) {e : News} (he : e.ok) {f : Fact} (hkn : σ.kn x (2 * c + k) = some f) (hptr : w.cell? ⟨b, 38 + x * 8 + c * 2 + k, none⟩ = some (ptr kb))
    (hmt : meets f.fl e.ev = true) (hway : f.way = none) (hH : (σ.cl c).here = some x → f.waits = false → Hears (σ.cl c) k)
    (hlen : f.kept.length < 2199023255552) (hsix : f.waits = false → f.kept.length ≤ 6) (hmo : 0 ≤ f.more ∧ f.more < 2199023255552) (hf : FrAt w ρ (.event e) fb) :
    Calls Try.prog 99 #[.pointer (some ⟨b, 0, none⟩), int x, ptr kb, ptr fb] w fun r w' => r = .returned (.tuple #[]) ∧
      ∃ ρ', XN w' b ρ' (σ.hear x e (2 * c + k)) ∧ Mv (hearR x c k) ρ ρ' w w' ∧ (∀ i, w.heap.size ≤ i → ρ' i ≠ none → ∃ cs t f, w'.heap[i]? = some (.cells cs t f)) ∧ OnlyT w w' ∧ StayC w w' ∧ Front b w w' := by
  obtain ⟨v, hv1, hv2⟩ := h.known x c k hx hc hk
  rw [hkn] at hv2
  obtain ⟨kb', kv, rfl, hrb, hblk, hrow⟩ := hv2
  have : kb' = kb := by rw [hptr] at hv1; cases hv1; rfl
  subst this
  have h2c : (2 * c + k) / 2 = c := by omega
  have h2k : (2 * c + k) % 2 = k := by omega
  have k0 : w.cell? ⟨kb', 0, none⟩ = some (int c) := by
    have : w.cell? ⟨kb', 0, none⟩ = some (int ((2 * c + k) / 2 : Nat)) := box_cell hblk 0
    rw [h2c] at this; exact this
  have k1 : w.cell? ⟨kb', 1, none⟩ = some (int k) := by
    have : w.cell? ⟨kb', 1, none⟩ = some (int ((2 * c + k) % 2 : Nat)) := box_cell hblk 1
    rw [h2k] at this; exact this
  have k14 : w.cell? ⟨kb', 14, none⟩ = some (.bool f.waits) := box_cell hblk 14
  have hat := (h.cli c hc).here
  obtain ⟨hr, _, _, _, hf', _⟩ := id hf
  rw [encFr_event] at hf'
  have c14 : w.cell? ⟨fb, 14, none⟩ = some (int e.ev.pub) := box_cell hf' 14
  have c15 : w.cell? ⟨fb, 15, none⟩ = some (int e.ev.num) := box_cell hf' 15
  have c16 : w.cell? ⟨fb, 16, none⟩ = some (int e.ev.f0) := box_cell hf' 16
  have c17 : w.cell? ⟨fb, 17, none⟩ = some (int e.ev.f1) := box_cell hf' 17
  have c18 : w.cell? ⟨fb, 18, none⟩ = some (int e.ev.f2) := box_cell hf' 18
  have c19 : w.cell? ⟨fb, 19, none⟩ = some (int e.stay) := box_cell hf' 19
  have hwd : (meets f.fl e.ev && decide (f.way = none)) = true := by simp [hmt, hway]
  by_cases hhere : (σ.cl c).here = some x ∧ f.waits = false
  · obtain ⟨hh, hw⟩ := hhere
    rw [hh] at hat
    rw [hw] at k14
    have hst : σ.hear x e (2 * c + k) = σ.tell (2 * c + k) e := by
      unfold Net.hear; rw [hkn]; simp [hmt, hway, hw, h2c, hh]
    rw [hst]
    refine (toc_tell h hc hk he (hH hh hw) hat k14 k0 k1 c14 c15 c16 c17 c18 c19).mono ?_
    rintro r w' ⟨rfl, ρ', h1, m1, r1⟩
    exact ⟨rfl, ρ', h1, m1.mono (fun _ hr => Or.inl hr), r1⟩
  · have hst : σ.hear x e (2 * c + k) = σ.know x (2 * c + k) (some (keepF f e)) := by
      unfold Net.hear keepF; rw [hkn]
      simp only [hwd, if_true, h2c]
      by_cases hw : f.waits = true
      · simp [hw]
      · have hw : f.waits = false := by simpa using hw
        have hh : (σ.cl c).here ≠ some x := fun h => hhere ⟨h, hw⟩
        simp only [hw, Bool.false_or, ne_eq, hh, not_false_eq_true, decide_true, Bool.true_and, decide_eq_true_eq]
        by_cases h6 : f.kept.length < 6
        · simp [h6]
        · simp [h6]
    rw [hst]
    by_cases hh : (σ.cl c).here = some x
    · have hw : f.waits = true := by
        cases hq : f.waits with
        | true => rfl
        | false => exact absurd ⟨hh, hq⟩ hhere
      rw [hh] at hat
      rw [hw] at k14
      refine (toc_wait h hx hc hk hkn hptr hlen hsix hmo hat k14 k0 k1 c14 c15 c16 c17 c18 c19).mono ?_
      rintro r w' ⟨rfl, ρ', h1, m1, r1⟩
      exact ⟨rfl, ρ', h1, m1.mono (fun _ hr => Or.inr hr), r1⟩
    · have hz : (whr (σ.cl c).here == (x : Int)) = false := by
        cases hq : (σ.cl c).here with
        | none => simp [whr] <;> omega
        | some y =>
          have : y ≠ x := fun e => hh (by rw [hq, e])
          simp [whr] <;> omega
      refine (toc_away h hx hc hk hkn hptr hlen hsix hmo hat hz k0 k1 c14 c15 c16 c17 c18 c19).mono ?_
      rintro r w' ⟨rfl, ρ', h1, m1, r1⟩
      exact ⟨rfl, ρ', h1, m1.mono (fun _ hr => Or.inr hr), r1⟩

end Go.Proofs.Ytodfcpblcpogiaa

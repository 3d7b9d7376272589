/-
  PUBLISH; LOG.
-/
import Derived.Test.YtlpknnoacpfnnaaAtt
namespace Go.Proofs.Ytlpknnoacpfnnaa
open Go.RowKit

/-- A new frame. -/
theorem XN.addFrame {w w' : World} {b : Nat} {ρ : Nat → Option Role} {σ : Net} (h : XN w b ρ σ) (t : Calm w w') {fb : Nat} (h1 : w.heap.size ≤ fb) (h2 : fb < w'.heap.size) : XN w' b (roleAt ρ fb .frame) σ ∧ Mv allR ρ (roleAt ρ fb .frame) w w' := by
  have hrole : ∀ k, k < w.heap.size → roleAt ρ fb .frame k = ρ k := fun k hk => by unfold roleAt; rw [if_neg (by omega)]
  have hlt : ∀ k, roleAt ρ fb .frame k ≠ none → k < w'.heap.size := fun k hk => by
    unfold roleAt at hk
    split at hk
    · rename_i e; rw [e]; exact h2
    · exact Nat.lt_of_lt_of_le (h.lt k hk) t.size
  have hb := h.lt b (by rw [h.net]; simp)
  have hbk := t.block b hb (fun f => f)
  refine ⟨?_, ⟨t.mono (fun _ _ f => f.elim), hrole, hlt⟩⟩
  refine h.step' (S := fun _ => False) (fun {k r} hr _ => ?_) (hrole b hb) hlt (fun _ => False) (by rw [hbk]; exact h.typ) (fun o => (World.frozen?_of_block (w := w) (a := ⟨b, o, none⟩) hbk).trans (h.fr o)) (fun o v _ hc => cell_of_heap hbk hc) rfl rfl id id id id
    (fun x y _ _ => Or.inl ⟨rfl, id, id⟩) (fun x c k _ _ _ => Or.inl ⟨rfl, id, id, id⟩) (fun c _ => Or.inl ⟨rfl, fun _ _ _ => id, fun _ => id, id⟩)
  have hk := h.lt k (by rw [hr]; simp)
  exact ⟨t.block k hk (fun f => f), hrole k hk⟩

/-- A client's number of events. -/
theorem XN.setMany {w : World} {b : Nat} {ρ : Nat → Option Role} {σ : Net} (h : XN w b ρ σ) {c : Nat} (hc : c < 4) (v : Int) : XN (w.setCell ⟨b, 86 + c * 11 + 3, none⟩ (int v)) b ρ (σ.setCl c { σ.cl c with many := v }) ∧ Mv allR ρ ρ w (w.setCell ⟨b, 86 + c * 11 + 3, none⟩ (int v)) := by
  have C := h.cli c hc
  have hne : ∀ o u, o ≠ 86 + c * 11 + 3 → w.cell? ⟨b, o, none⟩ = some u → (w.setCell ⟨b, 86 + c * 11 + 3, none⟩ (int v)).cell? ⟨b, o, none⟩ = some u := fun o u ho hu => cell_setCell_ne w ho hu
  have hk : ∀ i r, ρ i = some r → r ≠ .net → (w.setCell ⟨b, 86 + c * 11 + 3, none⟩ (int v)).heap[i]? = w.heap[i]? ∧ ρ i = ρ i := fun i r hi hr => ⟨heap_setCell_other w _ (fun e => by subst e; rw [h.net] at hi; cases hi; exact hr rfl), rfl⟩
  refine ⟨h.storeCli hc _ _ (by omega) (by omega) ?_, Mv.setCell h.lt h.net trivial _ _⟩
  obtain ⟨u, g1, g2⟩ := C.log
  refine ⟨hne _ _ (by omega) C.here, hne _ _ (by omega) C.home, hne _ _ (by omega) C.stays, World.cell?_setCell_same w _ _ C.many, fun k h2 => hne _ _ (by omega) (C.used k h2), fun k h2 => hne _ _ (by omega) (C.age k h2), fun k h2 => ?_, u, hne _ _ (by omega) g1, g2.keep (fun i hi => hk i _ hi (by simp))⟩
  obtain ⟨u', f1, f2⟩ := C.heard k h2
  exact ⟨u', hne _ _ (by omega) f1, f2.keep (fun i hi => hk i _ hi (by simp))⟩

theorem Cool.setMany {σ : Net} {x m : Nat} (C : Cool σ x m) (c : Nat) (M : Int) : Cool (σ.setCl c { σ.cl c with many := M }) x m := by
  have hcl : ∀ d, ((σ.setCl c { σ.cl c with many := M }).cl d).here = (σ.cl d).here ∧ ((σ.setCl c { σ.cl c with many := M }).cl d).used = (σ.cl d).used ∧ ((σ.setCl c { σ.cl c with many := M }).cl d).told = (σ.cl d).told ∧ ((σ.setCl c { σ.cl c with many := M }).cl d).log = (σ.cl d).log := fun d => by
    by_cases e : d = c
    · subst e; simp [Net.setCl]
    · simp [Net.setCl, put_other _ _ e]
  refine ⟨fun s f hk hw => ?_, C.calm, fun d k hd => ?_, fun d hd => ?_⟩
  · rw [(hcl _).1, (hcl _).2.1]; exact C.here s f hk hw
  · rw [(hcl d).2.2.1]; exact C.ris d k hd
  · rw [(hcl d).2.2.1, (hcl d).2.2.2]; exact C.len d hd

set_option maxHeartbeats 400000 in
theorem number_one (b o : Nat) (w : World) (p M : Int) (hM : wrap64 (p + 1) = M) (h : w.cell? ⟨b, o + 3, none⟩ = some (int p)) (f : w.frozen? ⟨b, o + 3, none⟩ = false) :
    Calls Try.prog 41 #[.pointer (some ⟨b, o, none⟩)] w fun e w' => e = .returned (int M) ∧ w' = w.setCell ⟨b, o + 3, none⟩ (int M) := by
  subst hM
  go_enter Try.func41, Try.ntmps41
  go_wp2
  go_ret
  exact ⟨rfl, rfl⟩

set_option maxRecDepth 100000 in
set_option maxHeartbeats 2000000 in
/-- PUBLISH. -/
theorem publishX {w : World} {b : Nat} {ρ : Nat → Option Role} {σ : Net} (h : XN w b ρ σ) {m : Nat} (F : Fine σ m) {c x : Nat} (hc : c < 4) (hx : x < σ.n) (hh : (σ.cl c).here = some x) (hmany : 0 ≤ (σ.cl c).many ∧ (σ.cl c).many < 2199023255552) (hst : 0 ≤ (σ.cl c).stays ∧ (σ.cl c).stays ≤ 2199023255552) (f0 f1 f2 : Int) (hful : σ.full = false) :
    Calls Try.prog 14 #[.pointer (some ⟨b, 0, none⟩), int c, .agg #[int f0, int f1, int f2]] w fun e w' => e = .returned (.tuple #[int ((σ.cl c).many + 1), int 0]) ∧ ∃ ρ', XN w' b ρ' ((σ.setCl c { σ.cl c with many := (σ.cl c).many + 1 }).happens x ⟨⟨c, (σ.cl c).many + 1, f0, f1, f2⟩, (σ.cl c).stays⟩ none) ∧ Mv allR ρ ρ' w w' := by
  have T := F.good.tree
  have hcl := h.closed
  have hcc : isCli (c : Int) = true := isCli_nat hc
  have hat := (h.cli c hc).here
  rw [hh] at hat
  replace hat : w.cell? ⟨b, 86 + c * 11, none⟩ = some (int x) := hat
  have hci : (c : Int) < 4 := by omega
  have hct : chk true = 0 := rfl
  have hxm : ((x : Int) == -1) = false := by rw [beq_dec]; exact decide_eq_false (by omega)
  have hcal : Calm w (w.alloc (.cells #[int f0, int f1, int f2] 23)) := (Touch.refl _ _).alloc _
  have HX := hide (h.calm hcal)
  have HM : Hid (Mv allR ρ ρ w (w.alloc (.cells #[int f0, int f1, int f2] 23))) := Mv.calm h.lt hcal
  have hbl := h.lt b (by rw [h.net]; simp)
  have HF := hide F
  have HH := hide hh
  clear h F hcal hh
  go_enter Try.func14, Try.ntmps14
  go_wp2_with (first
    | (go_at_call 30; refine (isClient_any _ _).mono ?_; rw [hcc]; rintro e w1 ⟨rfl, hw1⟩; have hw1 := hw1.symm; subst hw1)
    | (go_at_call 29; refine (check_any _ _ _ (by go_simp)).mono ?_; rintro e w2 ⟨rfl, hw2⟩; have hw2 := hw2.symm; subst hw2)
    | (go_at_call 32; refine (away_any _ _ (x : Int) _ (by go_simp)).mono ?_; rw [hxm]; rintro e w2 ⟨rfl, hw2⟩; have hw2 := hw2.symm; subst hw2))
  refine (fullX (unhide HX) (unhide HF)).mono ?_
  rw [hful]
  rintro e w1 ⟨rfl, ht1⟩
  have hbx := ht1.box (fun f => f)
  have c0 : w1.cell? ⟨w.heap.size, 0, none⟩ = some (int f0) := box_cell hbx 0
  have c1 : w1.cell? ⟨w.heap.size, 1, none⟩ = some (int f1) := box_cell hbx 1
  have c2 : w1.cell? ⟨w.heap.size, 2, none⟩ = some (int f2) := box_cell hbx 2
  have hsz : w.heap.size < w1.heap.size := block_lt_of_cell c0
  have hX1 := (unhide HX).calm ht1
  have q3 := (hX1.cli c hc).many
  have fz := hX1.fr (86 + c * 11 + 3)
  have hb1 := hX1.lt b (by rw [hX1.net]; simp)
  have hnb : ¬ w.heap.size = b := by omega
  have hnb' : ¬ b = w.heap.size := by omega
  have hwr : wrap64 ((σ.cl c).many + 1) = (σ.cl c).many + 1 := wrap_small (by omega) (by omega)
  have HX1 := hide hX1
  have HM1 := hide ((unhide HM).trans (Mv.calm (unhide HX).lt ht1))
  have HFR := hide hX1.fr
  have hnr : ρ w1.heap.size = none := by
    cases hq : ρ w1.heap.size with
    | none => rfl
    | some r => have := hX1.lt w1.heap.size (by rw [hq]; simp); omega
  have HNR := hide hnr
  clear hnr
  clear hX1 HX hbx hcl hat ht1 HM
  obtain ⟨e, he⟩ : ∃ e : News, e = ⟨⟨c, (σ.cl c).many + 1, f0, f1, f2⟩, (σ.cl c).stays⟩ := ⟨_, rfl⟩
  have HE := hide he
  generalize hM0 : (σ.cl c).many + 1 = M at *
  have HWR : wrap64 ((σ.cl c).many + 1) = M := by rw [hM0]; exact hwr
  have fin : ((w1.setCell ⟨b, 86 + c * 11 + 3, none⟩ (int M)).alloc (.cells #[int c, int M, int f0, int f1, int f2] 76)).drew.heap[w1.heap.size]? = some (.cells #[int c, int M, int f0, int f1, int f2] 76) ∧ XN ((w1.setCell ⟨b, 86 + c * 11 + 3, none⟩ (int M)).alloc (.cells #[int c, int M, int f0, int f1, int f2] 76)).drew b ρ (σ.setCl c { σ.cl c with many := M }) ∧ Mv allR ρ ρ w ((w1.setCell ⟨b, 86 + c * 11 + 3, none⟩ (int M)).alloc (.cells #[int c, int M, int f0, int f1, int f2] 76)).drew := by
    obtain ⟨g1, g2⟩ := (unhide HX1).setMany hc M
    have t : Calm (w1.setCell ⟨b, 86 + c * 11 + 3, none⟩ (int M)) ((w1.setCell ⟨b, 86 + c * 11 + 3, none⟩ (int M)).alloc (.cells #[int c, int M, int f0, int f1, int f2] 76)).drew := ((Touch.refl _ _).alloc _).drew
    refine ⟨?_, g1.calm t, ((unhide HM1).trans g2).trans (Mv.calm g1.lt t)⟩
    have := heap_alloc_new (w1.setCell ⟨b, 86 + c * 11 + 3, none⟩ (int M)) (.cells #[int c, int M, int f0, int f1, int f2] 76)
    have hs : (w1.setCell ⟨b, 86 + c * 11 + 3, none⟩ (int M)).heap.size = w1.heap.size := by simp [World.setCell]
    rw [hs] at this
    exact this
  have FIN := hide fin
  clear fin
  go_wp2
  go_cut [10] (fun s wx => s = ptr w1.heap.size ∧ wx.heap[w1.heap.size]? = some (.cells #[int c, int M, int f0, int f1, int f2] 76) ∧ XN wx b ρ (σ.setCl c { σ.cl c with many := M }) ∧ Mv allR ρ ρ w wx)
  case first =>
    go_region_with (first
      | (go_at_call 41; refine (number_one b (86 + c * 11) _ (σ.cl c).many M HWR (by go_simp) (by go_simp)).mono ?_; rintro e w3 ⟨rfl, rfl⟩))
    all_goals (go_wp2_with fail; go_meet; exact ⟨rfl, unhide FIN⟩)
  case rest =>
    obtain ⟨rfl, hbx, hXC, hMC⟩ := hcut
    have hcl' : (σ.setCl c { σ.cl c with many := M }).cl c = { σ.cl c with many := M } := by simp [Net.setCl]
    have CC := hXC.cli c hc
    rw [hcl'] at CC
    have q0 : wc.cell? ⟨b, 86 + c * 11, none⟩ = some (int x) := by have := CC.here; rw [unhide HH] at this; exact this
    have q2 : wc.cell? ⟨b, 86 + c * 11 + 2, none⟩ = some (int (σ.cl c).stays) := CC.stays
    have e0 : wc.cell? ⟨w1.heap.size, 0, none⟩ = some (int c) := box_cell hbx 0
    have e1 : wc.cell? ⟨w1.heap.size, 1, none⟩ = some (int M) := box_cell hbx 1
    have e2 : wc.cell? ⟨w1.heap.size, 2, none⟩ = some (int f0) := box_cell hbx 2
    have e3 : wc.cell? ⟨w1.heap.size, 3, none⟩ = some (int f1) := box_cell hbx 3
    have e4 : wc.cell? ⟨w1.heap.size, 4, none⟩ = some (int f2) := box_cell hbx 4
    have hsc : w1.heap.size < wc.heap.size := block_lt_of_cell e0
    have hbc := hXC.lt b (by rw [hXC.net]; simp)
    have hG : Good (σ.setCl c { σ.cl c with many := M }) := (unhide HF).good.setCl ⟨((unhide HF).good.clis c hc).here, ((unhide HF).good.clis c hc).home, ((unhide HF).good.clis c hc).fil⟩
    have hCool : Cool (σ.setCl c { σ.cl c with many := M }) x m := ((unhide HF).cool x).setMany c M
    have hcan : CanHandle (σ.setCl c { σ.cl c with many := M }) x (.event e) := Or.inr ⟨e, rfl, by rw [unhide HE]; exact ⟨by show (0 : Int) ≤ c; omega, by show (c : Int) < 4; omega, by show 1 ≤ M; omega, by show M ≤ 2199023255552; omega, hst.1, hst.2⟩⟩
    have henc : (encFr (.event e)).toArray = #[int 2, int 0, int 0, int 0, int 0, int 0, int 0, int 0, int 0, int 0, int 0, int 0, int 0, int 0, int c, int M, int f0, int f1, int f2, int (σ.cl c).stays] := by rw [unhide HE]; rfl
    have HXC := hide hXC
    have HMC := hide hMC
    have HG := hide hG
    have HCO := hide hCool
    have HCAN := hide hcan
    have HENC := hide henc
    have HBX := hide hbx
    clear hXC hMC CC hG hCool hcan henc hbx c0 c1 c2 hsz q3 fz hb1 hnb hnb' FIN HX1 HM1 HFR hbl
    go_wp2_with fail
    go_cut [] (fun wx => ∃ ρ', XN wx b ρ' ((σ.setCl c { σ.cl c with many := M }).happens x e none) ∧ Mv allR ρ ρ' w wx ∧ wx.cell? ⟨w1.heap.size, 1, none⟩ = some (int M))
    case first =>
      go_region_with (first
        | (go_at_call 40; refine (at_any b (86 + c * 11) x _ (by go_simp)).mono ?_; rintro r w3 ⟨rfl, rfl⟩)
        | (go_at_call 42; refine (stay_any b (86 + c * 11) (σ.cl c).stays _ (by go_simp)).mono ?_; rintro r w3 ⟨rfl, rfl⟩)
        | (go_at_call 39; refine (handle_any (fr := none) (f := .event e) (fb := wc.heap.size) (ρ := roleAt ρ wc.heap.size .frame) (σ := σ.setCl c { σ.cl c with many := M }) ((unhide HXC).addFrame (((Touch.refl _ _).alloc _).drew) (Nat.le_refl _) (by simp [World.drew])).1 (unhide HG) hx (fun z => (unhide HF).len x z) (unhide HCO) (unhide HF).few (unhide HCAN) (by simp [roleAt]) ?_).mono ?_; rw [unhide HENC]; exact heap_alloc_new wc _; rintro r w4 ⟨rfl, ρ4, h4, m4⟩))
      all_goals go_wp2_with fail
      all_goals go_meet
      all_goals
        obtain ⟨_, mf⟩ := (unhide HXC).addFrame (w' := (wc.alloc (.cells #[int 2, int 0, int 0, int 0, int 0, int 0, int 0, int 0, int 0, int 0, int 0, int 0, int 0, int 0, int c, int M, int f0, int f1, int f2, int (σ.cl c).stays] 118)).drew) (((Touch.refl _ _).alloc _).drew) (Nat.le_refl _) (by simp [World.drew])
        refine ⟨ρ4, h4, ((unhide HMC).trans mf).trans m4, ?_⟩
        have hnr4 : roleAt ρ wc.heap.size .frame w1.heap.size = none := by unfold roleAt; rw [if_neg (by omega)]; exact unhide HNR
        have hbk : (wc.alloc (.cells #[int 2, int 0, int 0, int 0, int 0, int 0, int 0, int 0, int 0, int 0, int 0, int 0, int 0, int 0, int c, int M, int f0, int f1, int f2, int (σ.cl c).stays] 118)).drew.heap[w1.heap.size]? = some (.cells #[int c, int M, int f0, int f1, int f2] 76) := (Below.heap_alloc _ _ _ hsc).trans (unhide HBX)
        have := (m4.touch.block w1.heap.size (by simp [World.drew]; omega) (fun ⟨r, h1, _⟩ => by rw [hnr4] at h1; cases h1)).trans hbk
        exact box_cell this 1
    case rest =>
      obtain ⟨ρ', h4, m4, q1⟩ := hcut
      have H4 := hide h4
      have M4 := hide m4
      clear h4 m4 e0 e1 e2 e3 e4 q0 q2
      go_wp2
      go_ret2
      exact ⟨rfl, ρ', by rw [← unhide HE]; exact unhide H4, unhide M4⟩

end Go.Proofs.Ytlpknnoacpfnnaa

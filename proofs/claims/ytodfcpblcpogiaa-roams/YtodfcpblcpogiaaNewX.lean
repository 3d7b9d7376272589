/-
  The program's New.
-/
import Derived.Test.YtodfcpblcpogiaaNnew
namespace Go.Proofs.Ytodfcpblcpogiaa
open Go.RowKit

theorem XQ.net {w : World} {b base : Nat} {a : Option Addr} {par : List Nat} {cap : Nat} {qs : List Value} {cl : Nat → List Value} {ρ : Nat → Option Role} (h : XQ w b a par.length cap qs cl) (hcl : ∀ c, c < 4 → cl c = cliTo 2)
    (hP : ParNew w base a par) (hC : Chans w base par (fun _ _ => True) ρ qs) (hb : base ≤ b) (hab : ∀ o, a = some o → par ≠ [] → o.block ≠ b) : ∃ ρ', XN w b ρ' (newNet par) ∧ ∀ k, ρ' k ≠ none → base ≤ k := by
  obtain ⟨cs, hcs⟩ := h.typ
  have hbl : b < w.heap.size := (Array.getElem?_eq_some_iff.1 hcs).1
  have hlink : ∀ (ρ' : Nat → Option Role), (∀ k r, ρ k = some r → ρ' k = some r) → ∀ x y, x < 6 → y < 6 → ∃ v, w.cell? ⟨b, 2 + x * 6 + y, none⟩ = some v ∧ LinkAt w ρ' x y (near par x y) [] v := by
    intro ρ' hρ' x y hx hy
    cases hn : near par x y with
    | true =>
      obtain ⟨r, h1, h2, h3⟩ := hC.yes x y hx hy hn trivial
      refine ⟨_, by have := h.links _ _ h1; rwa [← Nat.add_assoc] at this, ?_⟩
      simp only [LinkAt, if_true]
      exact ⟨r, #[], 0, 0, rfl, hρ' r _ h2, h3, rfl, fun i f hf => by simp at hf⟩
    | false =>
      have h1 := hC.no x y hx hy (by rw [hn]; simp)
      refine ⟨_, by have := h.links _ _ h1; rwa [← Nat.add_assoc] at this, ?_⟩
      simp [LinkAt]
  have hcl' : ∀ (ρ' : Nat → Option Role), ∀ c, c < 4 → CliX w b ρ' c newCli := by
    intro ρ' c hc
    have hr := (h.cls c hc).1
    rw [hcl c hc] at hr
    refine ⟨hr 0 _ rfl, hr 1 _ rfl, hr 2 _ rfl, hr 3 _ rfl, fun k hk => ?_, fun k hk => ?_, fun k hk => ?_, fun k hk => ?_, ⟨_, hr 30 _ rfl, ⟨by simp [newCli], Or.inl ⟨rfl, rfl⟩⟩, fun g hg => by simp [Value.ownBlock] at hg⟩⟩
    · rcases k with _ | _ | k
      · exact hr 4 _ rfl
      · exact hr 17 _ rfl
      · omega
    · rcases k with _ | _ | k
      · exact hr 5 _ rfl
      · exact hr 18 _ rfl
      · omega
    · refine ⟨List.replicate 10 (int 0), rfl, fun j v hj => ?_, fun v hv => ⟨0, List.eq_of_mem_replicate hv⟩, fun e => by simp [newCli] at e⟩
      have hj' : j < 10 := (List.getElem?_eq_some_iff.1 hj).1
      rw [List.getElem?_replicate, if_pos hj'] at hj
      cases hj
      rcases k with _ | _ | k
      · rw [show 86 + c * 31 + 4 + 0 * 13 + 2 + j = 86 + c * 31 + (6 + j) by omega]
        refine hr (6 + j) _ ?_
        rcases j with _ | _ | _ | _ | _ | _ | _ | _ | _ | _ | j <;> first | rfl | omega
      · rw [show 86 + c * 31 + 4 + (0 + 1) * 13 + 2 + j = 86 + c * 31 + (19 + j) by omega]
        refine hr (19 + j) _ ?_
        rcases j with _ | _ | _ | _ | _ | _ | _ | _ | _ | _ | j <;> first | rfl | omega
      · omega
    · refine ⟨.map none, ?_, by simp [HeardAt, newCli]⟩
      rcases k with _ | _ | k
      · exact hr 16 _ rfl
      · exact hr 29 _ rfl
      · omega
  have hkn : ∀ (ρ' : Nat → Option Role), ∀ x c k, x < 6 → c < 4 → k < 2 → ∃ v, w.cell? ⟨b, 38 + x * 8 + c * 2 + k, none⟩ = some v ∧ KnownAt w ρ' x (2 * c + k) none v := by
    intro ρ' x c k hx hc hk
    exact ⟨_, by have := h.known (x * 8 + c * 2 + k) (by omega); rwa [show 38 + (x * 8 + c * 2 + k) = 38 + x * 8 + c * 2 + k from by omega] at this, rfl⟩
  rcases hP with hp | ⟨tb, o, rfl, hP0, hP1, ⟨cs', t', f', hP2⟩, hP3⟩
  · refine ⟨fun k => if k = b then some .net else ρ k, ⟨by simp, ⟨cs, hcs⟩, h.fr, h.closed, ⟨a, cap, h.tree, Or.inl hp⟩, hlink _ (fun k r hr => ?_), hkn _, hcl' _, fun k hk => ?_, rfl⟩, fun k hk => ?_⟩
    · have : k ≠ b := fun e => by subst e; have := hC.isc k (by rw [hr]; simp); rw [hcs] at this; cases this
      simp only [if_neg this]; exact hr
    · by_cases e : k = b
      · subst e; exact hbl
      · simp only [if_neg e] at hk; exact (hC.role k hk).2.1
    · by_cases e : k = b
      · subst e; exact hb
      · simp only [if_neg e] at hk; exact (hC.role k hk).1
  · by_cases hp : par = []
    · refine ⟨fun k => if k = b then some .net else ρ k, ⟨by simp, ⟨cs, hcs⟩, h.fr, h.closed, ⟨_, cap, h.tree, Or.inl hp⟩, hlink _ (fun k r hr => ?_), hkn _, hcl' _, fun k hk => ?_, rfl⟩, fun k hk => ?_⟩
      · have : k ≠ b := fun e => by subst e; have := hC.isc k (by rw [hr]; simp); rw [hcs] at this; cases this
        simp only [if_neg this]; exact hr
      · by_cases e : k = b
        · subst e; exact hbl
        · simp only [if_neg e] at hk; exact (hC.role k hk).2.1
      · by_cases e : k = b
        · subst e; exact hb
        · simp only [if_neg e] at hk; exact (hC.role k hk).1
    · have hne := hab _ rfl hp
      simp only at hne
      refine ⟨fun k => if k = b then some .net else if k = tb then some .tree else ρ k, ⟨by simp, ⟨cs, hcs⟩, h.fr, h.closed, ⟨_, cap, h.tree, Or.inr ⟨tb, o, rfl, by simp [hne], hP3⟩⟩, hlink _ (fun k r hr => ?_), hkn _, hcl' _, fun k hk => ?_, rfl⟩, fun k hk => ?_⟩
      · have h1 : k ≠ b := fun e => by subst e; have := hC.isc k (by rw [hr]; simp); rw [hcs] at this; cases this
        have h2 : k ≠ tb := fun e => by subst e; have := hC.isc k (by rw [hr]; simp); rw [hP2] at this; cases this
        simp only [if_neg h1, if_neg h2]; exact hr
      · by_cases e : k = b
        · subst e; exact hbl
        · by_cases e2 : k = tb
          · subst e2; exact hP1
          · simp only [if_neg e, if_neg e2] at hk; exact (hC.role k hk).2.1
      · by_cases e : k = b
        · subst e; exact hb
        · by_cases e2 : k = tb
          · subst e2; exact hP0
          · simp only [if_neg e, if_neg e2] at hk; exact (hC.role k hk).1

theorem one_cli2 : ∀ v, v ∈ cliTo 2 → v.oneCell' = true := fun v hv => List.all_eq_true.1 (show (cliTo 2).all (fun v => v.oneCell') = true from rfl) v hv
theorem store_cli {w : World} {g o : Nat} (h : w.there g o (cliTo 2).toArray.size) : (storeCells ⟨g, o, none⟩ (cliTo 2)).run Try.prog w = .ok () (w.setCells g o (cliTo 2)) := by
  have := run_storeCells_cells (P := Try.prog) g o (cliTo 2) 0 w (fun j hj => by simpa using (h j (by simpa using hj)).1) (fun j hj => by simpa using (h j (by simpa using hj)).2) one_cli2
  simpa only [Nat.add_zero] using this

set_option maxRecDepth 100000 in
set_option maxHeartbeats 800000 in
theorem newX {v : Value} {par : List Nat} (w : World) (T : Tree par) (h : ParRow w v par) :
    Calls Try.prog 34 #[v] w fun e w' => ∃ g ρ, e = .returned (.tuple #[ptr g, int 0]) ∧ XN w' g ρ (newNet par) ∧ (∀ k, ρ k ≠ none → w.heap.size ≤ k) ∧ Calm w w' := by
  have H := hide h
  clear h
  go_enter Try.func34, Try.ntmps34
  go_wp2_with fail
  refine (treeNew_any _ T (unhide H)).mono ?_
  rintro e w1 ⟨a', c', rfl, hI, ht1⟩
  have HT1 := hide ht1
  have HI := hide (hI.calm ((Touch.refl _ _).alloc (.cells #[.slice a' par.length c'] 88)))
  clear hI
  go_wp2
  go_cut [6] (fun s wx => ∃ g, s = .pointer (some ⟨g, 0, none⟩) ∧ w1.heap.size + 1 ≤ g ∧ Calm (w1.alloc (.cells #[.slice a' par.length c'] 88)) wx ∧ ∃ qs ρ, XQ wx g a' par.length c' qs (fun _ => cli0) ∧ Chans wx (w1.heap.size + 1) par (fun _ _ => True) ρ qs)
  case first =>
    have e0 : (w1.alloc (.cells #[.slice a' par.length c'] 88)).cell? ⟨w1.heap.size, 0, none⟩ = some (.slice a' par.length c') := box_cell (heap_alloc_new _ _) 0
    go_region_held3 (fun w' => w'.cell? ⟨w1.heap.size, 0, none⟩ = some (.slice a' par.length c'))
      (first | exact ht2.cell (p := ⟨w1.heap.size, 0, none⟩) (fun f => f) e0 | exact (Touch.refl (fun _ => False) _).alloc _ |>.cell (p := ⟨w1.heap.size, 0, none⟩) (fun f => f) (ht2.cell (p := ⟨w1.heap.size, 0, none⟩) (fun f => f) e0) | go_keep)
      (first | (go_at_call 66; refine (linksNew_any a' c' par _ T ?_).mono ?_; exact ((unhide HI).par).calm ((Touch.refl _ _).drew); rintro e w2 ⟨qs, rfl, ⟨ρ, hch⟩, ht2⟩; have hl36 : qs.length = 36 := hch.len))
    all_goals go_wp2_with fail
    all_goals go_meet
    have hE := fold101 a' par.length c' qs hl36
    refine ⟨w2.heap.size, rfl, ?_, ?_, qs, ρ, ?_, ?_⟩
    · have h2 := ht2.size
      simp at h2
      omega
    · exact (((Touch.refl _ _).drew).calm ht2).alloc _
    · refine newCells_at a' par.length c' qs hl36 _ _ ?_
      rw [← hE]
      exact heap_alloc_new _ _
    · have hb : (w1.alloc (.cells #[.slice a' par.length c'] 88)).drew.heap.size = w1.heap.size + 1 := by simp [World.drew]
      rw [hb] at hch
      exact hch.keep ((Touch.refl (fun _ => False) _).alloc _) (fun _ _ f => f)
  case rest =>
    obtain ⟨g, rfl, hgw, hc, qs, ρ, hQ, hch⟩ := hcut
    have HP := hide ((unhide HI).calm hc)
    have hl36 := hch.len
    have HQ := hide hQ
    have HG := hide hQ.typ
    have HC := hide hc
    have HH := hide hch
    have HIa := hide ((unhide HI))
    clear hQ hc HI hch
    go_wp2_with fail
    go_loopw [20] (fun i wr => ∃ k : Nat, k ≤ 4 ∧ i = .int .i64 k ∧ Touch (fun b => b = g) wc wr ∧ ∃ cl : Nat → List Value, XQ wr g a' par.length c' qs cl ∧ ∀ c, c < 4 → cl c = if c < k then cliTo 2 else cli0) (fun i _ => 4 - (intOf i).toNat)
    case atStart => exact ⟨0, by omega, rfl, Touch.refl _ _, _, unhide HQ, fun c hc => by simp⟩
    case round =>
      obtain ⟨k, hk, rfl, ht, cl, hX, hcl⟩ := hrel
      have HX := hide hX
      have HCL := hide hcl
      have HT := hide ht
      clear hX hcl ht HQ
      by_cases hlt : k < 4
      · have hlen := ((unhide HX).cls k hlt).2
        have hfz := (unhide HX).fr
        have hgl := block_lt_of_cell (unhide HX).closed
        simp only at hgl
        have hth : ∀ w', Calm wr w' → w'.there g (86 + k * 31) (cliTo 2).toArray.size := fun w' t j hj => by
          have hj' : j < 31 := hj
          have h9 := (unhide HX).calm t
          have hj2 : j < (cl k).length := by rw [hlen]; exact hj'
          exact ⟨by rw [(h9.cls k hlt).1 j _ (List.getElem?_eq_getElem hj2)]; rfl, h9.fr _⟩
        have HTH := hide hth
        clear hth
        go_wp2
        go_region_with (go_at_call 67; refine (clientsNew_any _).mono ?_; rintro e w' ⟨rfl, ht9⟩; replace ht9 : Calm wr w' := ((Touch.refl (fun _ => False) wr).drew).calm ht9; replace hfz : ∀ o, w'.frozen? ⟨g, o, none⟩ = false := ((unhide HX).calm ht9).fr; have HX9 := hide ((unhide HX).calm ht9); have hst := store_cli ((unhide HTH) w' ht9))
        all_goals go_wp2
        all_goals go_roundw
        case rel =>
          refine ⟨k + 1, by omega, by go_num, ?_, _, (unhide HX9).setAll hl36 k hlt (cliTo 2) rfl, fun c hc => ?_⟩
          · exact ((unhide HT).calm ht9).trans (Touch.setCells _ _ _ _)
          · by_cases e : c = k
            · subst e
              simp only [if_true]
              rw [if_pos (by omega)]
            · simp only [if_neg e]
              rw [unhide HCL c hc]
              by_cases h1 : c < k
              · rw [if_pos h1, if_pos (by omega)]
              · rw [if_neg h1, if_neg (by omega)]
        case measure => simp [intOf]; omega
      · go_wp2
        go_ret2
        have hs1 := (unhide HT1).size
        have hP9 : ParNew wr w.heap.size a' par ∧ (∀ o, a' = some o → par ≠ [] → o.block ≠ g) := by
          rcases unhide HIa with h1 | ⟨tb, o, rfl, h3, h4, _⟩
          · exact ⟨Or.inl h1, fun o _ h => absurd h1 h⟩
          · have h5 : tb < w1.heap.size + 1 := by simpa using h4
            exact ⟨(unhide HP).keep (unhide HT) (fun tb' o' e => by cases e; omega), fun o e _ => by cases e; show tb ≠ g; omega⟩
        have hC9 : Chans wr w.heap.size par (fun _ _ => True) ρ qs := by
          have := (unhide HH).keep (unhide HT) (fun k hk e => by
            subst e
            have h1 := (unhide HH).isc k hk
            obtain ⟨cs, h2⟩ := unhide HG
            rw [h2] at h1; cases h1)
          exact ⟨this.len, this.yes, this.no, fun k hk => ⟨by have := (this.role k hk).1; omega, (this.role k hk).2⟩, this.isc, this.all⟩
        obtain ⟨ρ', hN, hlow⟩ := (unhide HX).net (fun c hc => by rw [unhide HCL c hc, if_pos (by omega)]) hP9.1 hC9 (by omega) hP9.2
        exact ⟨g, ρ', rfl, hN, hlow, (((unhide HT1).alloc _).calm (unhide HC)).fresh (unhide HT) (fun b hb e => by omega)⟩

end Go.Proofs.Ytodfcpblcpogiaa

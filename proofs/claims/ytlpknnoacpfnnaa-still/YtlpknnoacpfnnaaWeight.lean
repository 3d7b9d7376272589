/-
  How many frames a net can still bring forth: each frame that is handled makes it less.
-/
import Derived.Test.YtlpknnoacpfnnaaTree
namespace Go.Proofs.Ytlpknnoacpfnnaa

/-- What a frame in a link can become, itself counted. -/
def wt (par : List Nat) (x y : Nat) : Fr → Nat
  | .move _ _ _ old _ => dist par y old + 8
  | .rest _ _ _ new => dist par y new + 1
  | _ => beyond par x y

def Net.wtL (σ : Net) (x y : Nat) : Nat := ((σ.q x y).map (wt σ.par x y)).sum
def sum6 (f : Nat → Nat) : Nat := f 0 + f 1 + f 2 + f 3 + f 4 + f 5
def Net.weight (σ : Net) : Nat := sum6 fun x => sum6 fun y => σ.wtL x y

theorem sum6_put (f g : Nat → Nat) (i : Nat) (hi : i < 6) (h : ∀ j, j ≠ i → g j = f j) : sum6 g + f i = sum6 f + g i := by
  unfold sum6
  have hh : ∀ j, j = i ∨ g j = f j := fun j => by
    by_cases e : j = i
    · exact Or.inl e
    · exact Or.inr (h j e)
  have h0 := hh 0; have h1 := hh 1; have h2 := hh 2; have h3 := hh 3; have h4 := hh 4; have h5 := hh 5
  obtain rfl | rfl | rfl | rfl | rfl | rfl : i = 0 ∨ i = 1 ∨ i = 2 ∨ i = 3 ∨ i = 4 ∨ i = 5 := by omega
  all_goals omega

theorem sum6_congr {f g : Nat → Nat} (h : ∀ j, j < 6 → f j = g j) : sum6 f = sum6 g := by
  unfold sum6; rw [h 0 (by omega), h 1 (by omega), h 2 (by omega), h 3 (by omega), h 4 (by omega), h 5 (by omega)]
theorem sum6_le {f g : Nat → Nat} (h : ∀ j, j < 6 → f j ≤ g j) : sum6 f ≤ sum6 g := by
  unfold sum6
  have h0 := h 0 (by omega); have h1 := h 1 (by omega); have h2 := h 2 (by omega); have h3 := h 3 (by omega); have h4 := h 4 (by omega); have h5 := h 5 (by omega)
  omega
theorem le_sum6 {f : Nat → Nat} {i : Nat} (h : i < 6) : f i ≤ sum6 f := by
  unfold sum6
  obtain rfl | rfl | rfl | rfl | rfl | rfl : i = 0 ∨ i = 1 ∨ i = 2 ∨ i = 3 ∨ i = 4 ∨ i = 5 := by omega
  all_goals omega
theorem sum6_range (f : Nat → Nat) : ((List.range 6).map f).sum = sum6 f := by
  simp [List.range, List.range.loop, sum6]; omega
theorem sum6_mul (f : Nat → Nat) (k : Nat) : sum6 (fun i => k * f i) = k * sum6 f := by unfold sum6; simp [Nat.mul_add]

/-- One link turns. -/
theorem weight_put2 (σ : Net) (x y : Nat) (hx : x < 6) (hy : y < 6) (l : List Fr) :
    Net.weight { σ with q := put2 σ.q x y l } + σ.wtL x y = σ.weight + (l.map (wt σ.par x y)).sum := by
  have h1 := sum6_put (fun a => sum6 fun b => σ.wtL a b) (fun a => sum6 fun b => Net.wtL { σ with q := put2 σ.q x y l } a b) x hx (fun j hj => by
    apply sum6_congr; intro b _
    simp only [Net.wtL, put2_other σ.q l (fun h => hj h.1)])
  have h2 := sum6_put (fun b => σ.wtL x b) (fun b => Net.wtL { σ with q := put2 σ.q x y l } x b) y hy (fun j hj => by
    simp only [Net.wtL, put2_other σ.q l (fun h => hj h.2)])
  have h3 : Net.wtL { σ with q := put2 σ.q x y l } x y = (l.map (wt σ.par x y)).sum := by simp only [Net.wtL, put2_same]
  simp only [Net.weight] at *
  omega

@[simp] theorem push_par (σ : Net) (x y : Nat) (f : Fr) : (σ.push x y f).par = σ.par := rfl
@[simp] theorem pushAll_par (σ : Net) (x : Nat) (ys : List Nat) (f : Fr) : (σ.pushAll x ys f).par = σ.par := by
  induction ys generalizing σ with
  | nil => rfl
  | cons y ys ih => exact ih (σ.push x y f)

theorem weight_push (σ : Net) {x y : Nat} (hx : x < 6) (hy : y < 6) (f : Fr) : (σ.push x y f).weight = σ.weight + wt σ.par x y f := by
  have := weight_put2 σ x y hx hy (σ.q x y ++ [f])
  simp only [List.map_append, List.sum_append, List.map_cons, List.map_nil, List.sum_cons, List.sum_nil, Nat.add_zero] at this
  simp only [Net.push, Net.wtL] at *
  omega

theorem weight_pushAll (f : Fr) {x : Nat} (hx : x < 6) : ∀ (ys : List Nat) (σ : Net), (∀ y, y ∈ ys → y < 6) → (σ.pushAll x ys f).weight = σ.weight + (ys.map fun y => wt σ.par x y f).sum
  | [], σ, _ => by simp [Net.pushAll]
  | y :: ys, σ, h => by
    have ih := weight_pushAll f hx ys (σ.push x y f) (fun z hz => h z (List.mem_cons_of_mem _ hz))
    have h1 := weight_push σ hx (h y (List.mem_cons_self ..)) f
    simp only [push_par] at ih
    simp only [Net.pushAll, List.foldl_cons, List.map_cons, List.sum_cons] at *
    omega

/-- What does not turn links or the tree does not turn the weight. -/
theorem weight_congr {σ τ : Net} (hp : τ.par = σ.par) (hq : τ.q = σ.q) : τ.weight = σ.weight := by simp only [Net.weight, Net.wtL, hp, hq]

theorem waiting_eq (σ : Net) : σ.waiting = sum6 fun x => sum6 fun y => (σ.q x y).length := by
  simp only [Net.waiting, sum6_range]

theorem sum_ge_length {l : List Nat} (h : ∀ a, a ∈ l → 1 ≤ a) : l.length ≤ l.sum := by
  induction l with
  | nil => simp
  | cons a l ih =>
    have h1 := h a (List.mem_cons_self ..)
    have h2 := ih (fun b hb => h b (List.mem_cons_of_mem _ hb))
    simp; omega
theorem sum_le_length {l : List Nat} {k : Nat} (h : ∀ a, a ∈ l → a ≤ k) : l.sum ≤ k * l.length := by
  induction l with
  | nil => simp
  | cons a l ih =>
    have h1 := h a (List.mem_cons_self ..)
    have h2 := ih (fun b hb => h b (List.mem_cons_of_mem _ hb))
    simp [Nat.mul_add]; omega

/-- The links of a net: only neighbours have frames. -/
def Net.Linked (σ : Net) : Prop := Tree σ.par ∧ ∀ x y, σ.q x y ≠ [] → near σ.par x y = true

theorem wt_pos {σ : Net} (T : Tree σ.par) {x y : Nat} (hn : near σ.par x y = true) (f : Fr) : 1 ≤ wt σ.par x y f ∧ wt σ.par x y f ≤ 14 := by
  have hb := beyond_step T hn
  cases f with
  | move s a l old new => have := dist_le σ.par y old; simp only [wt]; omega
  | rest s l m new => have := dist_le σ.par y new; simp only [wt]; omega
  | sub => simp only [wt]; omega
  | unsub => simp only [wt]; omega
  | event => simp only [wt]; omega

theorem wtL_bounds {σ : Net} (L : σ.Linked) (x y : Nat) : (σ.q x y).length ≤ σ.wtL x y ∧ σ.wtL x y ≤ 14 * (σ.q x y).length := by
  by_cases h : σ.q x y = []
  · simp [Net.wtL, h]
  · have hn := L.2 x y h
    have h1 := sum_ge_length (l := (σ.q x y).map (wt σ.par x y)) (fun a ha => by
      obtain ⟨f, _, rfl⟩ := List.mem_map.1 ha
      exact (wt_pos L.1 hn f).1)
    have h2 := sum_le_length (k := 14) (l := (σ.q x y).map (wt σ.par x y)) (fun a ha => by
      obtain ⟨f, _, rfl⟩ := List.mem_map.1 ha
      exact (wt_pos L.1 hn f).2)
    simp only [List.length_map] at h1 h2
    exact ⟨h1, h2⟩

theorem waiting_le_weight {σ : Net} (L : σ.Linked) : σ.waiting ≤ σ.weight ∧ σ.weight ≤ 14 * σ.waiting := by
  rw [waiting_eq]
  refine ⟨sum6_le fun x _ => sum6_le fun y _ => (wtL_bounds L x y).1, ?_⟩
  rw [← sum6_mul]
  refine sum6_le fun x _ => ?_
  rw [← sum6_mul]
  exact sum6_le fun y _ => (wtL_bounds L x y).2

theorem link_le_weight {σ : Net} (L : σ.Linked) {x y : Nat} (hx : x < 6) (hy : y < 6) : (σ.q x y).length ≤ σ.weight :=
  Nat.le_trans (wtL_bounds L x y).1 (Nat.le_trans (le_sum6 (f := fun y => σ.wtL x y) hy) (le_sum6 (f := fun x => sum6 fun y => σ.wtL x y) hx))

theorem filter_sum_le {p r : Nat → Bool} {g : Nat → Nat} : ∀ (l : List Nat), (∀ z, z ∈ l → p z = true → r z = true) → ((l.filter p).map g).sum ≤ ((l.filter r).map g).sum
  | [], _ => by simp
  | a :: l, h => by
    have ih := filter_sum_le (g := g) l (fun z hz => h z (List.mem_cons_of_mem _ hz))
    have ha := h a (List.mem_cons_self ..)
    rcases Bool.eq_false_or_eq_true (p a) with hp | hp
    · simp [hp, ha hp, ih]
    · rcases Bool.eq_false_or_eq_true (r a) with hr | hr
      · simp [hp, hr]; omega
      · simp [hp, hr, ih]

end Go.Proofs.Ytlpknnoacpfnnaa

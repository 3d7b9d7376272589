/-
  Clients that stay: an event is published; a frame is handled.
-/
namespace Go.Proofs.Ytodfcpblcpogiaa

/-- A test of a filter. -/
structure Tst where
  fld : Int
  op : Int
  n : Int
deriving DecidableEq, Inhabited

structure Ev where
  pub : Int
  num : Int
  f0 : Int
  f1 : Int
  f2 : Int
deriving DecidableEq, Inhabited

def Ev.zero : Ev := ⟨0, 0, 0, 0, 0⟩
def Ev.field (e : Ev) (i : Int) : Int := if i = 0 then e.f0 else if i = 1 then e.f1 else e.f2

/-- An event, and the stay of its publisher. -/
structure News where
  ev : Ev
  stay : Int
deriving DecidableEq, Inhabited

def Tst.good (t : Tst) : Bool := decide (0 ≤ t.fld ∧ t.fld ≤ 2 ∧ 1 ≤ t.op ∧ t.op ≤ 4)
def Tst.met (t : Tst) (e : Ev) : Bool :=
  if t.op = 2 then decide (e.field t.fld ≠ t.n) else if t.op = 3 then decide (e.field t.fld < t.n) else if t.op = 4 then decide (t.n ≤ e.field t.fld) else decide (e.field t.fld = t.n)
def meets (l : List Tst) (e : Ev) : Bool := l.all fun t => t.met e

/-- An entry of a log. -/
structure Ent where
  slot : Int
  lost : Int
  ev : Ev
deriving DecidableEq, Inhabited

/-- A frame; a subscription's number is two times the client and the slot. -/
inductive Fr where
  | sub (s : Nat) (age : Int) (fl : List Tst)
  | unsub (s : Nat) (age : Int)
  | event (e : News)
  | move (s : Nat) (age : Int) (fl : List Tst) (old new : Nat)
  | rest (s : Nat) (evs : List News) (more : Int) (new : Nat)
deriving DecidableEq, Inhabited

structure Fact where
  age : Int
  fl : List Tst
  way : Option Nat
  kept : List News
  more : Int
  waits : Bool

structure Cli where
  here : Option Nat
  home : Option Nat
  stays : Int
  many : Int
  used : Nat → Bool
  age : Nat → Int
  fl : Nat → List Tst
  told : Nat → List News
  log : List Ent

structure Net where
  par : List Nat
  q : Nat → Nat → List Fr
  kn : Nat → Nat → Option Fact
  cl : Nat → Cli
  closed : Bool

def put {α : Type} (f : Nat → α) (i : Nat) (v : α) : Nat → α := fun j => if j = i then v else f j
def put2 {α : Type} (f : Nat → Nat → α) (i j : Nat) (v : α) : Nat → Nat → α := fun a b => if a = i ∧ b = j then v else f a b

@[simp] theorem put_same {α : Type} (f : Nat → α) (i : Nat) (v : α) : put f i v i = v := by simp [put]
theorem put_other {α : Type} (f : Nat → α) {i j : Nat} (v : α) (h : j ≠ i) : put f i v j = f j := by simp [put, h]
@[simp] theorem put2_same {α : Type} (f : Nat → Nat → α) (i j : Nat) (v : α) : put2 f i j v i j = v := by simp [put2]
theorem put2_other {α : Type} (f : Nat → Nat → α) {i j a b : Nat} (v : α) (h : ¬ (a = i ∧ b = j)) : put2 f i j v a b = f a b := by simp [put2, h]

/-! ### The tree -/

/-- How many brokers. -/
def size (par : List Nat) : Nat := par.length + 1
/-- The parent of a broker that is no root. -/
def up (par : List Nat) (i : Nat) : Nat := par.getD (i - 1) 0
def isPar (par : List Nat) (p c : Nat) : Bool := decide (0 < c ∧ c < size par ∧ up par c = p)
def near (par : List Nat) (a b : Nat) : Bool := isPar par a b || isPar par b a
/-- The child of x above h, if h is below x. -/
def climb (par : List Nat) : Nat → Nat → Nat → Option Nat
  | 0, _, _ => none
  | f + 1, h, x => if h = 0 then none else if up par h = x then some h else climb par f (up par h) x
/-- The neighbour on the path. -/
def next (par : List Nat) (x h : Nat) : Nat := match climb par 6 h x with
  | some c => c
  | none => up par x
def distF (par : List Nat) : Nat → Nat → Nat → Nat
  | 0, _, _ => 0
  | f + 1, x, h => if x = h then 0 else distF par f (next par x h) h + 1
def dist (par : List Nat) (x h : Nat) : Nat := distF par 6 x h
/-- How many brokers lie beyond a link. -/
def beyond (par : List Nat) (x y : Nat) : Nat := ((List.range (size par)).filter fun z => decide (z ≠ x) && decide (next par x z = y)).length

/-! ### What is done -/

def Net.n (σ : Net) : Nat := size σ.par
def Net.push (σ : Net) (x y : Nat) (f : Fr) : Net := { σ with q := put2 σ.q x y (σ.q x y ++ [f]) }
def Net.pushAll (σ : Net) (x : Nat) (ys : List Nat) (f : Fr) : Net := ys.foldl (fun σ y => σ.push x y f) σ
def Net.others (σ : Net) (x : Nat) (but : Option Nat) : List Nat := (List.range σ.n).filter fun y => decide (some y ≠ but) && near σ.par x y
def Net.spread (σ : Net) (x : Nat) (but : Option Nat) (f : Fr) : Net := σ.pushAll x (σ.others x but) f
def Net.know (σ : Net) (b s : Nat) (f : Option Fact) : Net := { σ with kn := put2 σ.kn b s f }
def Net.setCl (σ : Net) (c : Nat) (x : Cli) : Net := { σ with cl := put σ.cl c x }

/-- Was one of the same stay, with a number that is not lower, told? -/
def outrun (l : List News) (e : News) : Bool := l.any fun o => decide (o.ev.pub = e.ev.pub ∧ o.stay = e.stay ∧ e.ev.num ≤ o.ev.num)
def Cli.tell (x : Cli) (k : Nat) (e : News) : Cli :=
  if outrun (x.told k) e then x else { x with told := put x.told k (x.told k ++ [e]), log := x.log ++ [⟨k, 0, e.ev⟩] }
def Cli.lose (x : Cli) (k : Nat) (m : Int) : Cli := if 0 < m then { x with log := x.log ++ [⟨k, m, Ev.zero⟩] } else x
def Net.tell (σ : Net) (s : Nat) (e : News) : Net := σ.setCl (s / 2) ((σ.cl (s / 2)).tell (s % 2) e)
def Net.lose (σ : Net) (s : Nat) (m : Int) : Net := σ.setCl (s / 2) ((σ.cl (s / 2)).lose (s % 2) m)
def Net.tells (σ : Net) (s : Nat) (l : List News) : Net := l.foldl (fun σ e => σ.tell s e) σ

/-- An event, for one subscription that is here. -/
def Net.hear (σ : Net) (b : Nat) (e : News) (s : Nat) : Net := match σ.kn b s with
  | none => σ
  | some f =>
    if meets f.fl e.ev && decide (f.way = none) then
      if f.waits || (decide ((σ.cl (s / 2)).here ≠ some b) && decide (f.kept.length < 6)) then σ.know b s (some { f with kept := f.kept ++ [e] })
      else if (σ.cl (s / 2)).here ≠ some b then σ.know b s (some { f with more := f.more + 1 })
      else σ.tell s e
    else σ
def Net.wants (σ : Net) (b : Nat) (e : News) (y : Nat) (s : Nat) : Bool := match σ.kn b s with
  | none => false
  | some f => meets f.fl e.ev && decide (f.way = some y)
def Net.targets (σ : Net) (b : Nat) (e : News) (from_ : Option Nat) : List Nat := (List.range 6).filter fun y => decide (some y ≠ from_) && (List.range 8).any (σ.wants b e y)
def Net.happens (σ : Net) (b : Nat) (e : News) (from_ : Option Nat) : Net := ((List.range 8).foldl (fun σ s => σ.hear b e s) σ).pushAll b (σ.targets b e from_) (.event e)

def Net.learn (σ : Net) (b s : Nat) (age : Int) (fl : List Tst) (way : Option Nat) : Net := match σ.kn b s with
  | none => σ.know b s (some ⟨age, fl, way, [], 0, false⟩)
  | some f => if f.age < age then σ.know b s (some ⟨age, fl, way, [], 0, false⟩) else σ
def Net.forget (σ : Net) (b s : Nat) (age : Int) : Net := match σ.kn b s with
  | none => σ
  | some f => if f.age ≤ age then σ.know b s none else σ

def Net.handle (σ : Net) (b : Nat) (from_ : Option Nat) : Fr → Net
  | .sub s age fl => (σ.learn b s age fl from_).spread b from_ (.sub s age fl)
  | .unsub s age => (σ.forget b s age).spread b from_ (.unsub s age)
  | .event e => σ.happens b e from_
  | .move s age fl old new =>
    let σ' := σ.know b s (some ⟨age, fl, from_, [], 0, false⟩)
    if b = old then match from_ with
      | some y => σ'.push b y (match σ.kn b s with | some f => .rest s f.kept f.more new | none => .rest s [] 0 new)
      | none => σ'
    else σ'.push b (next σ.par b old) (.move s age fl old new)
  | .rest s evs more new =>
    if b ≠ new then σ.push b (next σ.par b new) (.rest s evs more new)
    else match σ.kn b s with
      | none => σ
      | some f => (((σ.lose s more).tells s evs).tells s f.kept).know b s (some { f with kept := [], waits := false })

/-! ### The calls -/

/-- How many frames wait. -/
def Net.waiting (σ : Net) : Nat := ((List.range 6).map fun x => ((List.range 6).map fun y => (σ.q x y).length).sum).sum

def isCli (c : Int) : Bool := decide (0 ≤ c ∧ c < 4)
def Net.isBro (σ : Net) (b : Int) : Bool := decide (0 ≤ b ∧ b < σ.n)
def Net.full (σ : Net) : Bool := decide (100 ≤ σ.waiting)

def newCli : Cli := ⟨none, none, 0, 0, fun _ => false, fun _ => -1, fun _ => [], fun _ => [], []⟩
def newNet (par : List Nat) : Net := ⟨par, fun _ _ => [], fun _ _ => none, fun _ => newCli, false⟩

/-- Does a broker wait for one of a client's subscriptions? -/
def Net.waits (σ : Net) (c : Nat) : Bool := match (σ.cl c).here with
  | none => false
  | some b => (List.range 2).any fun k => (σ.cl c).used k && (match σ.kn b (2 * c + k) with | some f => f.waits | none => false)

/-- ErrClosed, ErrArg. -/
def Net.asked (σ : Net) (good : Bool) : Int := if σ.closed then 2 else if good then 0 else 1
/-- ErrAway, ErrBusy. -/
def Net.still (σ : Net) (c : Nat) : Int := if (σ.cl c).here = none then 3 else if σ.waits c then 5 else 0

def Net.attachE (σ : Net) (c b : Int) : Int :=
  if σ.asked (isCli c && σ.isBro b) ≠ 0 then σ.asked (isCli c && σ.isBro b) else if (σ.cl c.toNat).here ≠ none then 4 else if σ.full then 6 else 0
/-- What is kept for a slot is told. -/
def Net.backs (σ : Net) (c b k : Nat) : Net :=
  if (σ.cl c).used k then match σ.kn b (2 * c + k) with
    | none => σ
    | some f => ((σ.lose (2 * c + k) f.more).tells (2 * c + k) f.kept).know b (2 * c + k) (some { f with kept := [], more := 0 })
  else σ
/-- A slot comes to another broker. -/
def Net.comes (σ : Net) (c b old k : Nat) : Net :=
  let x := σ.cl c
  if x.used k then
    ((σ.setCl c { x with age := put x.age k (x.age k + 1) }).know b (2 * c + k) (some ⟨x.age k + 1, x.fl k, none, [], 0, true⟩)).push b (next σ.par b old) (.move (2 * c + k) (x.age k + 1) (x.fl k) old b)
  else σ
def Net.arrive (σ : Net) (c b : Nat) : Net := σ.setCl c { σ.cl c with here := some b, home := some b, stays := (σ.cl c).stays + 1 }
def Net.attachN (σ : Net) (c b : Nat) : Net := match (σ.cl c).home with
  | none => ((σ.backs c b 0).backs c b 1).arrive c b
  | some h => if h = b then ((σ.backs c b 0).backs c b 1).arrive c b else ((σ.comes c b h 0).comes c b h 1).arrive c b
def Net.attach (σ : Net) (c b : Int) : Net := if σ.attachE c b = 0 then σ.attachN c.toNat b.toNat else σ

def Net.detachE (σ : Net) (c : Int) : Int := if σ.asked (isCli c) ≠ 0 then σ.asked (isCli c) else σ.still c.toNat
def Net.detach (σ : Net) (c : Int) : Net := if σ.detachE c = 0 then σ.setCl c.toNat { σ.cl c.toNat with here := none } else σ

def goodFilter (l : List Tst) : Bool := decide (l.length ≤ 3) && l.all Tst.good
def Net.slot (σ : Net) (c : Nat) : Nat := if (σ.cl c).used 0 then 1 else 0
def Net.subE (σ : Net) (c : Int) (l : List Tst) : Int :=
  if σ.asked (isCli c && goodFilter l) ≠ 0 then σ.asked (isCli c && goodFilter l) else if σ.still c.toNat ≠ 0 then σ.still c.toNat else if (σ.cl c.toNat).used (σ.slot c.toNat) then 7 else if σ.full then 6 else 0
def Net.subN (σ : Net) (c b k : Nat) (l : List Tst) : Net :=
  let x := σ.cl c
  ((σ.setCl c { x with used := put x.used k true, age := put x.age k (x.age k + 1), fl := put x.fl k l, told := put x.told k [] }).know b (2 * c + k) (some ⟨x.age k + 1, l, none, [], 0, false⟩)).spread b none (.sub (2 * c + k) (x.age k + 1) l)
def Net.sub (σ : Net) (c : Int) (l : List Tst) : Net :=
  if σ.subE c l = 0 then match (σ.cl c.toNat).here with
    | some b => σ.subN c.toNat b (σ.slot c.toNat) l
    | none => σ
  else σ

def Net.unsubE (σ : Net) (c k : Int) : Int :=
  if σ.asked (isCli c && decide (0 ≤ k ∧ k < 2)) ≠ 0 then σ.asked (isCli c && decide (0 ≤ k ∧ k < 2)) else if σ.still c.toNat ≠ 0 then σ.still c.toNat else if (σ.cl c.toNat).used k.toNat then (if σ.full then 6 else 0) else 7
def Net.pubE (σ : Net) (c : Int) : Int :=
  if σ.asked (isCli c) ≠ 0 then σ.asked (isCli c) else if (σ.cl c.toNat).here = none then 3 else if σ.full then 6 else 0
def Net.pubEv (σ : Net) (c f0 f1 f2 : Int) : News := ⟨⟨c, (σ.cl c.toNat).many + 1, f0, f1, f2⟩, (σ.cl c.toNat).stays⟩
def Net.pub (σ : Net) (c f0 f1 f2 : Int) : Net :=
  if σ.pubE c = 0 then match (σ.cl c.toNat).here with
    | some b => (σ.setCl c.toNat { σ.cl c.toNat with many := (σ.cl c.toNat).many + 1 }).happens b (σ.pubEv c f0 f1 f2) none
    | none => σ
  else σ
def Net.pubA (σ : Net) (c : Int) : Int := if σ.pubE c = 0 then (σ.cl c.toNat).many + 1 else 0

def Net.isLink (σ : Net) (a b : Int) : Bool := decide (0 ≤ a ∧ 0 ≤ b) && near σ.par a.toNat b.toNat
def Net.delE (σ : Net) (a b : Int) : Int :=
  if σ.asked (σ.isLink a b) ≠ 0 then σ.asked (σ.isLink a b) else if σ.q a.toNat b.toNat = [] then 7 else 0
def Net.del (σ : Net) (a b : Int) : Net :=
  if σ.delE a b = 0 then match σ.q a.toNat b.toNat with
    | f :: r => Net.handle { σ with q := put2 σ.q a.toNat b.toNat r } b.toNat (some a.toNat) f
    | [] => σ
  else σ

/-- A link in which frames wait. -/
structure Lnk where
  a : Nat
  b : Nat
  many : Nat
deriving DecidableEq, Inhabited
def Net.pending (σ : Net) : List Lnk := if σ.closed then [] else
  (List.range 6).flatMap fun x => (List.range 6).filterMap fun y => if σ.q x y = [] then none else some ⟨x, y, (σ.q x y).length⟩

def Net.logE (σ : Net) (c : Int) : Int := σ.asked (isCli c)
def Net.log (σ : Net) (c : Int) : Net := if σ.logE c = 0 then σ.setCl c.toNat { σ.cl c.toNat with log := [] } else σ

def trees : Nat → List (List Nat)
  | 0 => [[]]
  | k + 1 => (trees k).flatMap fun l => (List.range (k + 1)).map fun p => l ++ [p]

def forest : List (List Nat) := (List.range 6).flatMap trees

/-- All that is asked of a tree. -/
def treeCheck (par : List Nat) : Bool :=
  (List.range (size par)).all fun x => (List.range (size par)).all fun h =>
    (x == h || (near par x (next par x h) && decide (next par x h < size par) && decide (dist par x h = dist par (next par x h) h + 1))) &&
    (List.range (size par)).all fun y => !near par x y || ((next par x h == y || next par y h == x) && (y != h || next par x h == y))

def treeCheck2 (par : List Nat) : Bool :=
  (List.range (size par)).all fun x => (List.range (size par)).all fun y =>
    !near par x y || (decide (1 + (((List.range (size par)).filter fun z => near par y z && decide (z ≠ x)).map fun z => beyond par y z).sum ≤ beyond par x y) && decide (beyond par x y ≤ 5) && near par y x && decide (x ≠ y) &&
      (List.range (size par)).all fun h => !(next par x h == y && next par y h == x) || x == h || y == h)

def treeCheck3 (par : List Nat) : Bool :=
  (List.range (size par)).all fun x => decide ((((List.range (size par)).filter fun z => near par x z).map fun z => beyond par x z).sum ≤ 5)

set_option maxRecDepth 100000 in
theorem forest_check : (forest.all fun par => treeCheck par && treeCheck2 par && treeCheck3 par) = true := by decide +kernel


/-- A list of parents that is a tree. -/
def Tree (par : List Nat) : Prop := par.length ≤ 5 ∧ ∀ i, i < par.length → par.getD i 0 ≤ i

theorem trees_mem : ∀ (k : Nat) (par : List Nat), par.length = k → (∀ i, i < par.length → par.getD i 0 ≤ i) → par ∈ trees k
  | 0, par, h, _ => by
    have : par = [] := List.eq_nil_of_length_eq_zero h
    subst this; simp [trees]
  | k + 1, par, h, hp => by
    have hne : par ≠ [] := by intro e; subst e; simp at h
    have hsplit := List.dropLast_concat_getLast hne
    have hl : par.dropLast.length = k := by simp [h]
    have hlast : par.getLast hne = par.getD k 0 := by
      rw [List.getLast_eq_getElem, List.getD_eq_getElem?_getD, List.getElem?_eq_getElem (by omega)]
      simp [h]
    have ih := trees_mem k par.dropLast hl (fun i hi => by
      have h1 := hp i (by omega)
      have h2 : par.dropLast.getD i 0 = par.getD i 0 := by
        rw [List.getD_eq_getElem?_getD, List.getD_eq_getElem?_getD, List.getElem?_dropLast, if_pos (by omega)]
      omega)
    rw [trees, List.mem_flatMap]
    refine ⟨par.dropLast, ih, ?_⟩
    rw [List.mem_map]
    refine ⟨par.getD k 0, ?_, ?_⟩
    · have := hp k (by omega)
      exact List.mem_range.2 (by omega)
    · rw [← hlast]; exact hsplit

theorem Tree.mem {par : List Nat} (h : Tree par) : par ∈ forest := by
  rw [forest, List.mem_flatMap]
  exact ⟨par.length, by have := h.1; simp; omega, trees_mem _ _ rfl h.2⟩

theorem Tree.check {par : List Nat} (h : Tree par) : treeCheck par = true ∧ treeCheck2 par = true ∧ treeCheck3 par = true := by
  have := List.all_eq_true.1 forest_check par h.mem
  simp only [Bool.and_eq_true] at this
  exact ⟨this.1.1, this.1.2, this.2⟩

theorem all_range {n : Nat} {p : Nat → Bool} (h : (List.range n).all p = true) {x : Nat} (hx : x < n) : p x = true := List.all_eq_true.1 h x (List.mem_range.2 hx)

theorem isPar_lt {par : List Nat} (h : Tree par) {p c : Nat} (hp : isPar par p c = true) : p < c ∧ c < size par := by
  have hp := of_decide_eq_true hp
  simp only [up, size] at hp
  have := h.2 (c - 1) (by omega)
  simp only [size]
  omega

section
variable {par : List Nat} (T : Tree par)
include T

theorem near_lt {x y : Nat} (h : near par x y = true) : x < size par ∧ y < size par := by
  simp only [near, Bool.or_eq_true] at h
  rcases h with h | h
  · have := isPar_lt T h; omega
  · have := isPar_lt T h; omega

theorem size_le : size par ≤ 6 := by have := T.1; simp only [size]; omega

theorem near_lt6 {x y : Nat} (h : near par x y = true) : x < 6 ∧ y < 6 := by
  have := near_lt T h; have := size_le T; omega

omit T in
theorem near_comm (x y : Nat) : near par x y = near par y x := by simp only [near]; exact Bool.or_comm _ _

theorem near_ne {x y : Nat} (h : near par x y = true) : x ≠ y := by
  simp only [near, Bool.or_eq_true] at h
  rcases h with h | h
  · have := isPar_lt T h; omega
  · have := isPar_lt T h; omega

theorem next_step {x h : Nat} (hx : x < size par) (hh : h < size par) (hne : x ≠ h) : near par x (next par x h) = true ∧ next par x h < size par ∧ dist par x h = dist par (next par x h) h + 1 := by
  have := all_range (all_range T.check.1 hx) hh
  simp only [Bool.and_eq_true, Bool.or_eq_true, beq_iff_eq, decide_eq_true_eq] at this
  rcases this.1 with e | ⟨⟨h1, h2⟩, h3⟩
  · exact absurd e hne
  · exact ⟨h1, h2, h3⟩

theorem turn {x y h : Nat} (hn : near par x y = true) (hh : h < size par) : next par x h = y ∨ next par y h = x := by
  have := all_range (all_range T.check.1 (near_lt T hn).1) hh
  simp only [Bool.and_eq_true] at this
  have := all_range this.2 (near_lt T hn).2
  simp only [hn, Bool.not_true, Bool.false_or, Bool.and_eq_true, Bool.or_eq_true, beq_iff_eq] at this
  exact this.1

theorem next_near {x y : Nat} (hn : near par x y = true) : next par x y = y := by
  have := all_range (all_range T.check.1 (near_lt T hn).1) (near_lt T hn).2
  simp only [Bool.and_eq_true] at this
  have := all_range this.2 (near_lt T hn).2
  simp only [hn, Bool.not_true, Bool.false_or, Bool.and_eq_true, Bool.or_eq_true, beq_iff_eq, bne_self_eq_false] at this
  simpa using this.2

theorem beyond_step {x y : Nat} (hn : near par x y = true) : 1 + (((List.range (size par)).filter fun z => near par y z && decide (z ≠ x)).map fun z => beyond par y z).sum ≤ beyond par x y ∧ beyond par x y ≤ 5 := by
  have := all_range (all_range T.check.2.1 (near_lt T hn).1) (near_lt T hn).2
  simp only [hn, Bool.not_true, Bool.false_or, Bool.and_eq_true, decide_eq_true_eq] at this
  exact ⟨this.1.1.1.1, this.1.1.1.2⟩

theorem beyond_all {x : Nat} (hx : x < size par) : (((List.range (size par)).filter fun z => near par x z).map fun z => beyond par x z).sum ≤ 5 := by
  have := all_range T.check.2.2 hx
  simpa using this
end

theorem distF_le (par : List Nat) : ∀ k x h, distF par k x h ≤ k
  | 0, _, _ => by simp [distF]
  | k + 1, x, h => by
    simp only [distF]
    split
    · omega
    · have := distF_le par k (next par x h) h; omega
theorem dist_le (par : List Nat) (x h : Nat) : dist par x h ≤ 6 := distF_le par 6 x h
@[simp] theorem dist_self (par : List Nat) (x : Nat) : dist par x x = 0 := by simp [dist, distF]
theorem dist_pos {par : List Nat} {x h : Nat} (hne : x ≠ h) : 0 < dist par x h := by simp [dist, distF, hne]

/-- What a frame in a link can become, itself counted. -/
def wt (par : List Nat) (x y : Nat) : Fr → Nat
  | .move _ _ _ old _ => dist par y old + 8
  | .rest _ _ _ new => dist par y new + 1
  | _ => beyond par x y

def Net.wtL (σ : Net) (x y : Nat) : Nat := ((σ.q x y).map (wt σ.par x y)).sum
def sum6 (f : Nat → Nat) : Nat := f 0 + f 1 + f 2 + f 3 + f 4 + f 5
def Net.weight (σ : Net) : Nat := sum6 fun x => sum6 fun y => σ.wtL x y

theorem sum6_put (f g : Nat → Nat) (i : Nat) (hi : i < 6) (h : ∀ j, j ≠ i → g j = f j) : sum6 g + f i = sum6 f + g i := by
  unfold sum6
  have hh : ∀ j, j = i ∨ g j = f j := fun j => by
    by_cases e : j = i
    · exact Or.inl e
    · exact Or.inr (h j e)
  have h0 := hh 0; have h1 := hh 1; have h2 := hh 2; have h3 := hh 3; have h4 := hh 4; have h5 := hh 5
  obtain rfl | rfl | rfl | rfl | rfl | rfl : i = 0 ∨ i = 1 ∨ i = 2 ∨ i = 3 ∨ i = 4 ∨ i = 5 := by omega
  all_goals omega

theorem sum6_congr {f g : Nat → Nat} (h : ∀ j, j < 6 → f j = g j) : sum6 f = sum6 g := by
  unfold sum6; rw [h 0 (by omega), h 1 (by omega), h 2 (by omega), h 3 (by omega), h 4 (by omega), h 5 (by omega)]
theorem sum6_le {f g : Nat → Nat} (h : ∀ j, j < 6 → f j ≤ g j) : sum6 f ≤ sum6 g := by
  unfold sum6
  have h0 := h 0 (by omega); have h1 := h 1 (by omega); have h2 := h 2 (by omega); have h3 := h 3 (by omega); have h4 := h 4 (by omega); have h5 := h 5 (by omega)
  omega
theorem le_sum6 {f : Nat → Nat} {i : Nat} (h : i < 6) : f i ≤ sum6 f := by
  unfold sum6
  obtain rfl | rfl | rfl | rfl | rfl | rfl : i = 0 ∨ i = 1 ∨ i = 2 ∨ i = 3 ∨ i = 4 ∨ i = 5 := by omega
  all_goals omega
theorem sum6_range (f : Nat → Nat) : ((List.range 6).map f).sum = sum6 f := by
  simp [List.range, List.range.loop, sum6]; omega
theorem sum6_mul (f : Nat → Nat) (k : Nat) : sum6 (fun i => k * f i) = k * sum6 f := by unfold sum6; simp [Nat.mul_add]

/-- One link turns. -/
theorem weight_put2 (σ : Net) (x y : Nat) (hx : x < 6) (hy : y < 6) (l : List Fr) :
    Net.weight { σ with q := put2 σ.q x y l } + σ.wtL x y = σ.weight + (l.map (wt σ.par x y)).sum := by
  have h1 := sum6_put (fun a => sum6 fun b => σ.wtL a b) (fun a => sum6 fun b => Net.wtL { σ with q := put2 σ.q x y l } a b) x hx (fun j hj => by
    apply sum6_congr; intro b _
    simp only [Net.wtL, put2_other σ.q l (fun h => hj h.1)])
  have h2 := sum6_put (fun b => σ.wtL x b) (fun b => Net.wtL { σ with q := put2 σ.q x y l } x b) y hy (fun j hj => by
    simp only [Net.wtL, put2_other σ.q l (fun h => hj h.2)])
  have h3 : Net.wtL { σ with q := put2 σ.q x y l } x y = (l.map (wt σ.par x y)).sum := by simp only [Net.wtL, put2_same]
  simp only [Net.weight] at *
  omega

@[simp] theorem push_par (σ : Net) (x y : Nat) (f : Fr) : (σ.push x y f).par = σ.par := rfl
@[simp] theorem pushAll_par (σ : Net) (x : Nat) (ys : List Nat) (f : Fr) : (σ.pushAll x ys f).par = σ.par := by
  induction ys generalizing σ with
  | nil => rfl
  | cons y ys ih => exact ih (σ.push x y f)

theorem weight_push (σ : Net) {x y : Nat} (hx : x < 6) (hy : y < 6) (f : Fr) : (σ.push x y f).weight = σ.weight + wt σ.par x y f := by
  have := weight_put2 σ x y hx hy (σ.q x y ++ [f])
  simp only [List.map_append, List.sum_append, List.map_cons, List.map_nil, List.sum_cons, List.sum_nil, Nat.add_zero] at this
  simp only [Net.push, Net.wtL] at *
  omega

theorem weight_pushAll (f : Fr) {x : Nat} (hx : x < 6) : ∀ (ys : List Nat) (σ : Net), (∀ y, y ∈ ys → y < 6) → (σ.pushAll x ys f).weight = σ.weight + (ys.map fun y => wt σ.par x y f).sum
  | [], σ, _ => by simp [Net.pushAll]
  | y :: ys, σ, h => by
    have ih := weight_pushAll f hx ys (σ.push x y f) (fun z hz => h z (List.mem_cons_of_mem _ hz))
    have h1 := weight_push σ hx (h y (List.mem_cons_self ..)) f
    simp only [push_par] at ih
    simp only [Net.pushAll, List.foldl_cons, List.map_cons, List.sum_cons] at *
    omega

/-- What does not turn links or the tree does not turn the weight. -/
theorem weight_congr {σ τ : Net} (hp : τ.par = σ.par) (hq : τ.q = σ.q) : τ.weight = σ.weight := by simp only [Net.weight, Net.wtL, hp, hq]

theorem waiting_eq (σ : Net) : σ.waiting = sum6 fun x => sum6 fun y => (σ.q x y).length := by
  simp only [Net.waiting, sum6_range]

theorem sum_ge_length {l : List Nat} (h : ∀ a, a ∈ l → 1 ≤ a) : l.length ≤ l.sum := by
  induction l with
  | nil => simp
  | cons a l ih =>
    have h1 := h a (List.mem_cons_self ..)
    have h2 := ih (fun b hb => h b (List.mem_cons_of_mem _ hb))
    simp; omega
theorem sum_le_length {l : List Nat} {k : Nat} (h : ∀ a, a ∈ l → a ≤ k) : l.sum ≤ k * l.length := by
  induction l with
  | nil => simp
  | cons a l ih =>
    have h1 := h a (List.mem_cons_self ..)
    have h2 := ih (fun b hb => h b (List.mem_cons_of_mem _ hb))
    simp [Nat.mul_add]; omega

/-- The links of a net: only neighbours have frames. -/
def Net.Linked (σ : Net) : Prop := Tree σ.par ∧ ∀ x y, σ.q x y ≠ [] → near σ.par x y = true

theorem wt_pos {σ : Net} (T : Tree σ.par) {x y : Nat} (hn : near σ.par x y = true) (f : Fr) : 1 ≤ wt σ.par x y f ∧ wt σ.par x y f ≤ 14 := by
  have hb := beyond_step T hn
  cases f with
  | move s a l old new => have := dist_le σ.par y old; simp only [wt]; omega
  | rest s l m new => have := dist_le σ.par y new; simp only [wt]; omega
  | sub => simp only [wt]; omega
  | unsub => simp only [wt]; omega
  | event => simp only [wt]; omega

theorem wtL_bounds {σ : Net} (L : σ.Linked) (x y : Nat) : (σ.q x y).length ≤ σ.wtL x y ∧ σ.wtL x y ≤ 14 * (σ.q x y).length := by
  by_cases h : σ.q x y = []
  · simp [Net.wtL, h]
  · have hn := L.2 x y h
    have h1 := sum_ge_length (l := (σ.q x y).map (wt σ.par x y)) (fun a ha => by
      obtain ⟨f, _, rfl⟩ := List.mem_map.1 ha
      exact (wt_pos L.1 hn f).1)
    have h2 := sum_le_length (k := 14) (l := (σ.q x y).map (wt σ.par x y)) (fun a ha => by
      obtain ⟨f, _, rfl⟩ := List.mem_map.1 ha
      exact (wt_pos L.1 hn f).2)
    simp only [List.length_map] at h1 h2
    exact ⟨h1, h2⟩

theorem waiting_le_weight {σ : Net} (L : σ.Linked) : σ.waiting ≤ σ.weight ∧ σ.weight ≤ 14 * σ.waiting := by
  rw [waiting_eq]
  refine ⟨sum6_le fun x _ => sum6_le fun y _ => (wtL_bounds L x y).1, ?_⟩
  rw [← sum6_mul]
  refine sum6_le fun x _ => ?_
  rw [← sum6_mul]
  exact sum6_le fun y _ => (wtL_bounds L x y).2

theorem link_le_weight {σ : Net} (L : σ.Linked) {x y : Nat} (hx : x < 6) (hy : y < 6) : (σ.q x y).length ≤ σ.weight :=
  Nat.le_trans (wtL_bounds L x y).1 (Nat.le_trans (le_sum6 (f := fun y => σ.wtL x y) hy) (le_sum6 (f := fun x => sum6 fun y => σ.wtL x y) hx))

theorem filter_sum_le {p r : Nat → Bool} {g : Nat → Nat} : ∀ (l : List Nat), (∀ z, z ∈ l → p z = true → r z = true) → ((l.filter p).map g).sum ≤ ((l.filter r).map g).sum
  | [], _ => by simp
  | a :: l, h => by
    have ih := filter_sum_le (g := g) l (fun z hz => h z (List.mem_cons_of_mem _ hz))
    have ha := h a (List.mem_cons_self ..)
    rcases Bool.eq_false_or_eq_true (p a) with hp | hp
    · simp [hp, ha hp, ih]
    · rcases Bool.eq_false_or_eq_true (r a) with hr | hr
      · simp [hp, hr]; omega
      · simp [hp, hr, ih]

def Fr.ok (n : Nat) : Fr → Prop
  | .sub s _ fl => s < 8 ∧ goodFilter fl = true
  | .unsub s _ => s < 8
  | .event _ => True
  | .move s _ fl old new => s < 8 ∧ goodFilter fl = true ∧ old < n ∧ new < n
  | .rest s _ m new => s < 8 ∧ new < n ∧ 0 ≤ m

structure FactOk (par : List Nat) (b s : Nat) (f : Fact) : Prop where
  bro : b < size par
  sub : s < 8
  fil : goodFilter f.fl = true
  way : ∀ y, f.way = some y → near par b y = true
  more : 0 ≤ f.more

structure CliOk (n : Nat) (x : Cli) : Prop where
  here : ∀ b, x.here = some b → b < n
  home : ∀ b, x.home = some b → b < n
  fil : ∀ k, x.used k = true → goodFilter (x.fl k) = true

structure Good (σ : Net) : Prop where
  tree : Tree σ.par
  nbr : ∀ x y, σ.q x y ≠ [] → near σ.par x y = true
  frames : ∀ x y f, f ∈ σ.q x y → f.ok σ.n
  facts : ∀ b s f, σ.kn b s = some f → FactOk σ.par b s f
  clis : ∀ c, c < 4 → CliOk σ.n (σ.cl c)

theorem Good.linked {σ : Net} (G : Good σ) : σ.Linked := ⟨G.tree, G.nbr⟩

/-! ### steps -/
section
variable {σ : Net} (G : Good σ)
include G

theorem Good.push {x y : Nat} (hn : near σ.par x y = true) {f : Fr} (hf : f.ok σ.n) : Good (σ.push x y f) := by
  refine ⟨G.tree, fun a b h => ?_, fun a b g hg => ?_, G.facts, G.clis⟩
  · by_cases e : a = x ∧ b = y
    · obtain ⟨rfl, rfl⟩ := e; exact hn
    · simp only [Net.push, put2_other _ _ e] at h
      exact G.nbr a b h
  · by_cases e : a = x ∧ b = y
    · obtain ⟨rfl, rfl⟩ := e
      simp only [Net.push, put2_same, List.mem_append, List.mem_singleton] at hg
      rcases hg with hg | rfl
      · exact G.frames _ _ _ hg
      · exact hf
    · simp only [Net.push, put2_other _ _ e] at hg
      exact G.frames _ _ _ hg

theorem Good.pop {x y : Nat} {f : Fr} {r : List Fr} (h : σ.q x y = f :: r) : Good { σ with q := put2 σ.q x y r } := by
  refine ⟨G.tree, fun a b h' => ?_, fun a b g hg => ?_, G.facts, G.clis⟩
  · by_cases e : a = x ∧ b = y
    · obtain ⟨rfl, rfl⟩ := e; exact G.nbr _ _ (by rw [h]; simp)
    · simp only [put2_other _ _ e] at h'
      exact G.nbr a b h'
  · by_cases e : a = x ∧ b = y
    · obtain ⟨rfl, rfl⟩ := e
      simp only [put2_same] at hg
      exact G.frames _ _ _ (by rw [h]; exact List.mem_cons_of_mem _ hg)
    · simp only [put2_other _ _ e] at hg
      exact G.frames _ _ _ hg

theorem Good.know {b s : Nat} {o : Option Fact} (ho : ∀ f, o = some f → FactOk σ.par b s f) : Good (σ.know b s o) := by
  refine ⟨G.tree, G.nbr, G.frames, fun a t f h => ?_, G.clis⟩
  by_cases e : a = b ∧ t = s
  · obtain ⟨rfl, rfl⟩ := e
    simp only [Net.know, put2_same] at h
    exact ho f h
  · simp only [Net.know, put2_other _ _ e] at h
    exact G.facts _ _ _ h

theorem Good.setCl {c : Nat} {x : Cli} (hx : CliOk σ.n x) : Good (σ.setCl c x) := by
  refine ⟨G.tree, G.nbr, G.frames, G.facts, fun d hd => ?_⟩
  by_cases e : d = c
  · subst e; simp only [Net.setCl, put_same]; exact hx
  · simp only [Net.setCl, put_other _ _ e]; exact G.clis d hd
end

theorem Good.pushAll {x : Nat} {f : Fr} : ∀ (ys : List Nat) {σ : Net}, Good σ → (∀ y, y ∈ ys → near σ.par x y = true) → f.ok σ.n → Good (σ.pushAll x ys f)
  | [], _, G, _, _ => G
  | y :: ys, _, G, h, hf => Good.pushAll ys (G.push (h y (List.mem_cons_self ..)) hf) (fun z hz => h z (List.mem_cons_of_mem _ hz)) hf

theorem others_near {σ : Net} {x y : Nat} {but : Option Nat} (h : y ∈ σ.others x but) : near σ.par x y = true ∧ some y ≠ but ∧ y < σ.n := by
  simp only [Net.others, List.mem_filter, List.mem_range, Bool.and_eq_true, decide_eq_true_eq] at h
  exact ⟨h.2.2, h.2.1, h.1⟩

theorem Good.spread {σ : Net} (G : Good σ) {x : Nat} {but : Option Nat} {f : Fr} (hf : f.ok σ.n) : Good (σ.spread x but f) :=
  Good.pushAll _ G (fun _ hy => (others_near hy).1) hf

theorem CliOk.tell {n : Nat} {x : Cli} (h : CliOk n x) (k : Nat) (e : News) : CliOk n (x.tell k e) := by
  unfold Cli.tell; split
  · exact h
  · exact ⟨h.here, h.home, h.fil⟩
theorem CliOk.lose {n : Nat} {x : Cli} (h : CliOk n x) (k : Nat) (m : Int) : CliOk n (x.lose k m) := by
  unfold Cli.lose; split
  · exact ⟨h.here, h.home, h.fil⟩
  · exact h
theorem Good.tell {σ : Net} (G : Good σ) {s : Nat} (hs : s < 8) (e : News) : Good (σ.tell s e) := G.setCl ((G.clis _ (by omega)).tell _ _)
theorem Good.lose {σ : Net} (G : Good σ) {s : Nat} (hs : s < 8) (m : Int) : Good (σ.lose s m) := G.setCl ((G.clis _ (by omega)).lose _ _)
theorem Good.tells {s : Nat} (hs : s < 8) : ∀ (l : List News) {σ : Net}, Good σ → Good (σ.tells s l)
  | [], _, G => G
  | e :: l, _, G => Good.tells hs l (G.tell hs e)

theorem Good.hear {σ : Net} (G : Good σ) (b : Nat) (e : News) {s : Nat} (hs : s < 8) : Good (σ.hear b e s) := by
  unfold Net.hear
  split
  · exact G
  · rename_i f hf
    have F := G.facts _ _ _ hf
    split
    · split
      · exact G.know (fun g hg => by cases hg; exact ⟨F.bro, F.sub, F.fil, F.way, F.more⟩)
      · split
        · exact G.know (fun g hg => by cases hg; exact ⟨F.bro, F.sub, F.fil, F.way, by have := F.more; simp only; omega⟩)
        · exact G.tell hs e
    · exact G

theorem hear_keeps (σ : Net) (b : Nat) (e : News) (s : Nat) : (σ.hear b e s).par = σ.par ∧ (σ.hear b e s).q = σ.q ∧ (σ.hear b e s).closed = σ.closed := by
  unfold Net.hear
  split
  · exact ⟨rfl, rfl, rfl⟩
  · split
    · split
      · exact ⟨rfl, rfl, rfl⟩
      · split
        · exact ⟨rfl, rfl, rfl⟩
        · exact ⟨rfl, rfl, rfl⟩
    · exact ⟨rfl, rfl, rfl⟩

def Net.hears (σ : Net) (b : Nat) (e : News) (l : List Nat) : Net := l.foldl (fun σ s => σ.hear b e s) σ
theorem hears_keeps (b : Nat) (e : News) : ∀ (l : List Nat) (σ : Net), (σ.hears b e l).par = σ.par ∧ (σ.hears b e l).q = σ.q ∧ (σ.hears b e l).closed = σ.closed
  | [], σ => ⟨rfl, rfl, rfl⟩
  | s :: l, σ => by
    have h1 := hear_keeps σ b e s
    have h2 := hears_keeps b e l (σ.hear b e s)
    exact ⟨h2.1.trans h1.1, h2.2.1.trans h1.2.1, h2.2.2.trans h1.2.2⟩
theorem Good.hears (b : Nat) (e : News) : ∀ (l : List Nat) {σ : Net}, Good σ → (∀ s, s ∈ l → s < 8) → Good (σ.hears b e l)
  | [], _, G, _ => G
  | s :: l, _, G, h => Good.hears b e l (G.hear b e (h s (List.mem_cons_self ..))) (fun t ht => h t (List.mem_cons_of_mem _ ht))

theorem targets_near {σ : Net} (G : Good σ) {b y : Nat} {e : News} {fr : Option Nat} (h : y ∈ σ.targets b e fr) : near σ.par b y = true ∧ some y ≠ fr ∧ y < σ.n := by
  simp only [Net.targets, List.mem_filter, List.mem_range, Bool.and_eq_true, decide_eq_true_eq, List.any_eq_true] at h
  obtain ⟨_, h2, s, hs, hw⟩ := h
  unfold Net.wants at hw
  split at hw
  · cases hw
  · rename_i f hf
    simp only [Bool.and_eq_true, decide_eq_true_eq] at hw
    have := (G.facts _ _ _ hf).way y hw.2
    exact ⟨this, h2, (near_lt G.tree this).2⟩

theorem Good.happens {σ : Net} (G : Good σ) (b : Nat) (e : News) (fr : Option Nat) : Good (σ.happens b e fr) := by
  have h := hears_keeps b e (List.range 8) σ
  refine Good.pushAll _ (Good.hears b e (List.range 8) G (fun s hs => List.mem_range.1 hs)) (fun y hy => ?_) trivial
  rw [show (List.foldl (fun σ s => σ.hear b e s) σ (List.range 8)).par = σ.par from h.1]
  exact (targets_near G hy).1

theorem Good.learn {σ : Net} (G : Good σ) {b s : Nat} {age : Int} {fl : List Tst} {way : Option Nat} (hb : b < σ.n) (hs : s < 8) (hf : goodFilter fl = true) (hw : ∀ y, way = some y → near σ.par b y = true) : Good (σ.learn b s age fl way) := by
  have hok : FactOk σ.par b s ⟨age, fl, way, [], 0, false⟩ := ⟨hb, hs, hf, hw, Int.le_refl _⟩
  unfold Net.learn
  split
  · exact G.know (fun g hg => by cases hg; exact hok)
  · split
    · exact G.know (fun g hg => by cases hg; exact hok)
    · exact G
theorem Good.forget {σ : Net} (G : Good σ) {b s : Nat} {age : Int} : Good (σ.forget b s age) := by
  unfold Net.forget
  split
  · exact G
  · split
    · exact G.know (fun g hg => by cases hg)
    · exact G
theorem learn_keeps (σ : Net) (b s : Nat) (age : Int) (fl : List Tst) (way : Option Nat) : (σ.learn b s age fl way).par = σ.par ∧ (σ.learn b s age fl way).q = σ.q ∧ (σ.learn b s age fl way).closed = σ.closed ∧ (σ.learn b s age fl way).cl = σ.cl := by
  unfold Net.learn
  split
  · exact ⟨rfl, rfl, rfl, rfl⟩
  · split <;> exact ⟨rfl, rfl, rfl, rfl⟩
theorem forget_keeps (σ : Net) (b s : Nat) (age : Int) : (σ.forget b s age).par = σ.par ∧ (σ.forget b s age).q = σ.q ∧ (σ.forget b s age).closed = σ.closed ∧ (σ.forget b s age).cl = σ.cl := by
  unfold Net.forget
  split
  · exact ⟨rfl, rfl, rfl, rfl⟩
  · split <;> exact ⟨rfl, rfl, rfl, rfl⟩
theorem tells_keeps (s : Nat) : ∀ (l : List News) (σ : Net), (σ.tells s l).par = σ.par ∧ (σ.tells s l).q = σ.q ∧ (σ.tells s l).closed = σ.closed ∧ (σ.tells s l).kn = σ.kn
  | [], _ => ⟨rfl, rfl, rfl, rfl⟩
  | e :: l, σ => tells_keeps s l (σ.tell s e)

theorem Good.handle {σ : Net} (G : Good σ) {b a : Nat} (hn : near σ.par b a = true) {f : Fr} (hf : f.ok σ.n) : Good (σ.handle b (some a) f) := by
  have hb := (near_lt G.tree hn).1
  have hw : ∀ y, some a = some y → near σ.par b y = true := fun y e => by cases e; exact hn
  cases f with
  | sub s age fl =>
    have hk := learn_keeps σ b s age fl (some a)
    exact (G.learn hb hf.1 hf.2 hw).spread (by simp only [Net.n, hk.1]; exact hf)
  | unsub s age =>
    have hk := forget_keeps σ b s age
    exact (G.forget).spread (by simp only [Fr.ok]; exact hf)
  | event e => exact G.happens b e (some a)
  | move s age fl old new =>
    obtain ⟨h1, h2, h3, h4⟩ := hf
    have G' : Good (σ.know b s (some ⟨age, fl, some a, [], 0, false⟩)) := G.know (fun g hg => by cases hg; exact ⟨hb, h1, h2, hw, Int.le_refl _⟩)
    simp only [Net.handle]
    split
    · refine G'.push (by exact hn) ?_
      split
      · rename_i f hf
        exact ⟨h1, h4, (G.facts _ _ _ hf).more⟩
      · exact ⟨h1, h4, Int.le_refl _⟩
    · rename_i hne
      exact G'.push (next_step G.tree hb h3 hne).1 ⟨h1, h2, h3, h4⟩
  | rest s evs m new =>
    obtain ⟨h1, h2, h3⟩ := hf
    simp only [Net.handle]
    split
    · rename_i hne
      exact G.push (next_step G.tree hb h2 hne).1 ⟨h1, h2, h3⟩
    · split
      · exact G
      · rename_i f hf
        have F := G.facts _ _ _ hf
        have hk1 := tells_keeps s evs (σ.lose s m)
        have hk2 := tells_keeps s f.kept ((σ.lose s m).tells s evs)
        refine (Good.tells h1 _ (Good.tells h1 _ (G.lose h1 m))).know (fun g hg => ?_)
        cases hg
        rw [hk2.1, hk1.1]
        exact ⟨F.bro, F.sub, F.fil, F.way, F.more⟩

/-! ### the weight -/
theorem sum_others {σ : Net} {x : Nat} {a : Option Nat} {f : Fr} : ((σ.others x a).map fun y => wt σ.par x y f).sum = (((List.range (size σ.par)).filter fun z => decide (some z ≠ a) && near σ.par x z).map fun z => wt σ.par x z f).sum := rfl

theorem weight_spread {σ : Net} (T : Tree σ.par) {a b : Nat} (hn : near σ.par a b = true) {f : Fr} (hf : ∀ x y, wt σ.par x y f = beyond σ.par x y) : (σ.spread b (some a) f).weight + 1 ≤ σ.weight + beyond σ.par a b := by
  have hb := near_lt6 T hn
  have h1 := weight_pushAll f hb.2 (σ.others b (some a)) σ (fun y hy => (near_lt6 T (others_near hy).1).2)
  have h2 := (beyond_step T hn).1
  have h3 := filter_sum_le (g := fun z => beyond σ.par b z) (p := fun z => decide (some z ≠ some a) && near σ.par b z) (r := fun z => near σ.par b z && decide (z ≠ a)) (List.range (size σ.par)) (fun z _ hz => by simpa [and_comm] using hz)
  rw [sum_others] at h1
  simp only [hf] at h1
  simp only [Net.spread]
  omega

theorem nodup_filter_sum {g : Nat → Nat} {l m : List Nat} (hl : l.Nodup) (h : ∀ z, z ∈ l → z ∈ m) : (l.map g).sum ≤ (m.map g).sum := by
  induction l generalizing m with
  | nil => simp
  | cons a l ih =>
    have ha := h a (List.mem_cons_self ..)
    obtain ⟨m1, m2, rfl⟩ := List.append_of_mem ha
    have hl' := List.nodup_cons.1 hl
    have := ih hl'.2 (m := m1 ++ m2) (fun z hz => by
      have hz' := h z (List.mem_cons_of_mem _ hz)
      have hne : z ≠ a := fun e => hl'.1 (e ▸ hz)
      simp only [List.mem_append, List.mem_cons] at hz' ⊢
      rcases hz' with h | h | h
      · exact Or.inl h
      · exact absurd h hne
      · exact Or.inr h)
    simp only [List.map_append, List.sum_append, List.map_cons, List.sum_cons] at *
    omega

theorem targets_sum {σ : Net} (G : Good σ) {b : Nat} {e : News} {fr : Option Nat} : ((σ.targets b e fr).map fun y => beyond σ.par b y).sum ≤ (((List.range (size σ.par)).filter fun z => near σ.par b z && decide (some z ≠ fr)).map fun z => beyond σ.par b z).sum := by
  refine nodup_filter_sum (List.Pairwise.filter _ List.nodup_range) (fun z hz => ?_)
  have := targets_near G hz
  simp only [List.mem_filter, List.mem_range, Bool.and_eq_true, decide_eq_true_eq]
  exact ⟨this.2.2, this.1, this.2.1⟩

theorem weight_happens {σ : Net} (G : Good σ) {b : Nat} (hb : b < 6) (e : News) (fr : Option Nat) : (σ.happens b e fr).weight = σ.weight + ((σ.targets b e fr).map fun y => beyond σ.par b y).sum := by
  have hk := hears_keeps b e (List.range 8) σ
  have h1 := weight_pushAll (.event e) hb (σ.targets b e fr) (σ.hears b e (List.range 8)) (fun y hy => (near_lt6 G.tree (targets_near G hy).1).2)
  rw [weight_congr hk.1 hk.2.1, hk.1] at h1
  exact h1

theorem weight_handle {σ : Net} (G : Good σ) {a b : Nat} (hn : near σ.par a b = true) {f : Fr} (hf : f.ok σ.n) : (σ.handle b (some a) f).weight + 1 ≤ σ.weight + wt σ.par a b f := by
  have T := G.tree
  have h6 := near_lt6 T hn
  have hlt := near_lt T hn
  cases f with
  | sub s age fl =>
    have hk := learn_keeps σ b s age fl (some a)
    have := weight_spread (σ := σ.learn b s age fl (some a)) (by rw [hk.1]; exact T) (by rw [hk.1]; exact hn) (f := .sub s age fl) (fun _ _ => rfl)
    rw [weight_congr hk.1 hk.2.1, hk.1] at this
    exact this
  | unsub s age =>
    have hk := forget_keeps σ b s age
    have := weight_spread (σ := σ.forget b s age) (by rw [hk.1]; exact T) (by rw [hk.1]; exact hn) (f := .unsub s age) (fun _ _ => rfl)
    rw [weight_congr hk.1 hk.2.1, hk.1] at this
    exact this
  | event e =>
    have h1 := weight_happens G h6.2 e (some a)
    have h2 := targets_sum G (b := b) (e := e) (fr := some a)
    have h3 := (beyond_step T hn).1
    have h4 := filter_sum_le (g := fun z => beyond σ.par b z) (p := fun z => near σ.par b z && decide (some z ≠ some a)) (r := fun z => near σ.par b z && decide (z ≠ a)) (List.range (size σ.par)) (fun z _ hz => by simpa using hz)
    simp only [Net.handle, wt]
    omega
  | move s age fl old new =>
    simp only [Net.handle]
    have hw : (σ.know b s (some ⟨age, fl, some a, [], 0, false⟩)).weight = σ.weight := weight_congr rfl rfl
    split
    · rw [weight_push _ h6.2 h6.1, hw]
      have hd := dist_le σ.par a new
      split
      · simp only [wt, Net.know]; omega
      · simp only [wt, Net.know]; omega
    · rename_i hne
      have hs := next_step T hlt.2 hf.2.2.1 hne
      rw [weight_push _ h6.2 (near_lt6 T hs.1).2, hw]
      simp only [wt, Net.know]
      omega
  | rest s evs m new =>
    simp only [Net.handle]
    split
    · rename_i hne
      have hs := next_step T hlt.2 hf.2.1 hne
      rw [weight_push _ h6.2 (near_lt6 T hs.1).2]
      simp only [wt]
      omega
    · split
      · simp only [wt]; omega
      · rename_i f hf
        have hk1 := tells_keeps s evs (σ.lose s m)
        have hk2 := tells_keeps s f.kept ((σ.lose s m).tells s evs)
        have : ∀ o, ((((σ.lose s m).tells s evs).tells s f.kept).know b s o).weight = σ.weight := fun o => weight_congr (hk2.1.trans hk1.1) (hk2.2.1.trans hk1.2.1)
        rw [this]
        simp only [wt]; omega

/-- A frame is handled: the net is good again, and lighter. -/
theorem Good.del {σ : Net} (G : Good σ) (a b : Int) : Good (σ.del a b) ∧ (σ.del a b).weight ≤ σ.weight ∧ (σ.delE a b = 0 → (σ.del a b).weight + 1 ≤ σ.weight) := by
  unfold Net.del
  split
  · rename_i he
    split
    · rename_i f r hq
      have hn := G.nbr _ _ (by rw [hq]; simp : σ.q a.toNat b.toNat ≠ [])
      have hn' : near σ.par b.toNat a.toNat = true := by rw [near_comm]; exact hn
      have h6 := near_lt6 G.tree hn
      have hf := G.frames _ _ f (by rw [hq]; exact List.mem_cons_self ..)
      have G' := G.pop hq
      have hw := weight_put2 σ a.toNat b.toNat h6.1 h6.2 r
      have hl : σ.wtL a.toNat b.toNat = wt σ.par a.toNat b.toNat f + (r.map (wt σ.par a.toNat b.toNat)).sum := by simp [Net.wtL, hq]
      have hh := weight_handle G' (a := a.toNat) (b := b.toNat) hn (f := f) hf
      refine ⟨G'.handle hn' hf, ?_, fun _ => ?_⟩
      · simp only at hh; omega
      · simp only at hh; omega
    · rename_i hq
      exact ⟨G, Nat.le_refl _, fun _ => by simp [Net.delE, hq] at he; split at he <;> simp_all⟩
  · rename_i he
    exact ⟨G, Nat.le_refl _, fun h => absurd h he⟩

/-- The way from a broker to a home. -/
def wayTo (par : List Nat) (x h : Nat) : Option Nat := if x = h then none else some (next par x h)
def plain (l : List Tst) (way : Option Nat) : Fact := ⟨0, l, way, [], 0, false⟩

/-- Clients as they are, who stay. -/
structure CliAt (x : Cli) (a : Option Nat) (f : Option (List Tst)) : Prop where
  here : x.here = a
  home : x.home = a
  used0 : x.used 0 = f.isSome
  used1 : x.used 1 = false
  fil : ∀ l, f = some l → x.fl 0 = l
  age : f = none → x.age 0 = -1
  stays : x.stays = if a = none then 0 else 1

structure Stays (σ : Net) (A : Nat → Option Nat) (F : Nat → Option (List Tst)) : Prop where
  good : Good σ
  open_ : σ.closed = false
  cl : ∀ c, c < 4 → CliAt (σ.cl c) (A c) (F c)
  odd : ∀ x c, σ.kn x (2 * c + 1) = none
  off : ∀ x c, F c = none → σ.kn x (2 * c) = none
  far : ∀ c, 4 ≤ c → F c = none

structure Spread (σ : Net) (A : Nat → Option Nat) (F : Nat → Option (List Tst)) : Prop extends Stays σ A F where
  on : ∀ c l, F c = some l → ∃ h, A c = some h ∧ σ.kn h (2 * c) = some (plain l none) ∧ ∀ x f, σ.kn x (2 * c) = some f → f = plain l (wayTo σ.par x h)
  fr : ∀ x y f, f ∈ σ.q x y → ∃ c l h, f = .sub (2 * c) 0 l ∧ F c = some l ∧ A c = some h ∧ y ≠ h ∧ x = next σ.par y h
  spr : ∀ c l h x, F c = some l → A c = some h → x < σ.n → x ≠ h → σ.kn (next σ.par x h) (2 * c) ≠ none → σ.kn x (2 * c) ≠ none ∨ .sub (2 * c) 0 l ∈ σ.q (next σ.par x h) x

theorem Stays.at_lt {σ : Net} {A : Nat → Option Nat} {F : Nat → Option (List Tst)} (S : Stays σ A F) {c h : Nat} (hc : c < 4) (ha : A c = some h) : h < σ.n :=
  (S.good.clis c hc).here h ((S.cl c hc).here.trans ha)

theorem Stays.on_lt {σ : Net} {A : Nat → Option Nat} {F : Nat → Option (List Tst)} (S : Stays σ A F) {c : Nat} {l : List Tst} (hf : F c = some l) : c < 4 := by
  by_cases h : c < 4
  · exact h
  · have := S.far c (by omega); rw [hf] at this; cases this

/-- When nothing waits, all know. -/
theorem Spread.all_know {σ : Net} {A : Nat → Option Nat} {F : Nat → Option (List Tst)} (S : Spread σ A F) (hq : ∀ x y, σ.q x y = []) {c : Nat} {l : List Tst} {h : Nat} (hf : F c = some l) (ha : A c = some h) :
    ∀ (d x : Nat), x < σ.n → dist σ.par x h = d → σ.kn x (2 * c) = some (plain l (wayTo σ.par x h)) := by
  obtain ⟨h', ha', hk, hx⟩ := S.on c l hf
  rw [ha] at ha'; cases ha'
  have hh := S.at_lt (S.on_lt hf) ha
  intro d
  induction d with
  | zero =>
    intro x hx' hd
    by_cases e : x = h
    · subst e; rw [hk]; simp [wayTo]
    · have := dist_pos (par := σ.par) e; omega
  | succ d ih =>
    intro x hx' hd
    have hne : x ≠ h := by intro e; subst e; simp at hd
    have hs := next_step S.good.tree hx' hh hne
    have hn := ih (next σ.par x h) hs.2.1 (by omega)
    rcases S.spr c l h x hf ha hx' hne (by rw [hn]; simp) with h1 | h1
    · cases hc : σ.kn x (2 * c) with
      | none => exact absurd hc h1
      | some f => rw [hx x f hc]
    · rw [hq] at h1; cases h1

/-- What spreading leaves in a link. -/
theorem mem_pushAll {f g : Fr} {x a b : Nat} : ∀ (ys : List Nat) (σ : Net), g ∈ (σ.pushAll x ys f).q a b ↔ g ∈ σ.q a b ∨ (a = x ∧ b ∈ ys ∧ g = f)
  | [], σ => by simp [Net.pushAll]
  | y :: ys, σ => by
    have ih := mem_pushAll (f := f) (g := g) (x := x) (a := a) (b := b) ys (σ.push x y f)
    have h1 : g ∈ (σ.push x y f).q a b ↔ g ∈ σ.q a b ∨ (a = x ∧ b = y ∧ g = f) := by
      simp only [Net.push]
      by_cases e : a = x ∧ b = y
      · obtain ⟨rfl, rfl⟩ := e; simp
      · rw [put2_other _ _ e]
        constructor
        · exact Or.inl
        · rintro (h | ⟨rfl, rfl, _⟩)
          · exact h
          · exact absurd ⟨rfl, rfl⟩ e
    simp only [Net.pushAll, List.foldl_cons] at ih ⊢
    rw [ih, h1, List.mem_cons]
    constructor
    · rintro ((h | ⟨h1, h2, h3⟩) | ⟨h1, h2, h3⟩)
      · exact Or.inl h
      · exact Or.inr ⟨h1, Or.inl h2, h3⟩
      · exact Or.inr ⟨h1, Or.inr h2, h3⟩
    · rintro (h | ⟨h1, h2 | h2, h3⟩)
      · exact Or.inl (Or.inl h)
      · exact Or.inl (Or.inr ⟨h1, h2, h3⟩)
      · exact Or.inr ⟨h1, h2, h3⟩

theorem pushAll_keeps {f : Fr} {x : Nat} : ∀ (ys : List Nat) (σ : Net), (σ.pushAll x ys f).kn = σ.kn ∧ (σ.pushAll x ys f).cl = σ.cl ∧ (σ.pushAll x ys f).closed = σ.closed
  | [], _ => ⟨rfl, rfl, rfl⟩
  | y :: ys, σ => pushAll_keeps ys (σ.push x y f)

/-- Beyond y, seen from x: y is on the way to x's side. -/
theorem outward {par : List Nat} (T : Tree par) {y z h : Nat} (hn : near par y z = true) (hh : h < size par) (hz : z ≠ next par y h) : z ≠ h ∧ next par z h = y := by
  constructor
  · intro e; subst e; exact hz (next_near T hn).symm
  · rcases turn T hn hh with e | e
    · exact absurd e.symm hz
    · exact e

section
variable {σ : Net} {A : Nat → Option Nat} {F : Nat → Option (List Tst)}

/-- A Sub frame is handled. -/
theorem Spread.del (S : Spread σ A F) (a b : Int) : Spread (σ.del a b) A F := by
  have G' := (S.good.del a b).1
  unfold Net.del at G' ⊢
  split
  · rename_i he
    split
    · rename_i f r hq
      rw [if_pos he, hq] at G'
      simp only at G'
      have hn := S.good.nbr _ _ (by rw [hq]; simp : σ.q a.toNat b.toNat ≠ [])
      generalize ha : a.toNat = x at *
      generalize hb : b.toNat = y at *
      obtain ⟨c, l, h, rfl, hF, hA, hyh, hx⟩ := S.fr x y f (by rw [hq]; exact List.mem_cons_self ..)
      have hc4 := S.on_lt hF
      have hh := S.at_lt hc4 hA
      obtain ⟨h', hA', hk, hon⟩ := S.on c l hF
      rw [hA] at hA'; cases hA'
      -- the net without the frame, and with what y knows
      have hkn : ∀ u s, (Net.learn { σ with q := put2 σ.q x y r } y (2 * c) 0 l (some x)).kn u s = if u = y ∧ s = 2 * c then some (plain l (some x)) else σ.kn u s := by
        intro u s
        unfold Net.learn
        simp only
        split
        · by_cases e : u = y ∧ s = 2 * c
          · obtain ⟨rfl, rfl⟩ := e; simp [Net.know, plain]
          · simp [Net.know, put2, e]
        · rename_i g hg
          have := hon y g hg
          subst this
          rw [if_neg (by simp [plain])]
          by_cases e : u = y ∧ s = 2 * c
          · obtain ⟨rfl, rfl⟩ := e
            simp only [and_self, if_true]
            rw [hg, hx]
            simp [wayTo, hyh]
          · simp [e]
      have hkeep := learn_keeps { σ with q := put2 σ.q x y r } y (2 * c) 0 l (some x)
      have hpa := pushAll_keeps (f := .sub (2 * c) 0 l) (x := y) ((Net.learn { σ with q := put2 σ.q x y r } y (2 * c) 0 l (some x)).others y (some x)) (Net.learn { σ with q := put2 σ.q x y r } y (2 * c) 0 l (some x))
      have hpar : (Net.handle { σ with q := put2 σ.q x y r } y (some x) (.sub (2 * c) 0 l)).par = σ.par := by
        simp only [Net.handle, Net.spread, pushAll_par]; exact hkeep.1
      have hkn' : ∀ u s, (Net.handle { σ with q := put2 σ.q x y r } y (some x) (.sub (2 * c) 0 l)).kn u s = if u = y ∧ s = 2 * c then some (plain l (some x)) else σ.kn u s := by
        intro u s
        simp only [Net.handle, Net.spread, hpa.1]; exact hkn u s
      have hcl' : (Net.handle { σ with q := put2 σ.q x y r } y (some x) (.sub (2 * c) 0 l)).cl = σ.cl := by
        simp only [Net.handle, Net.spread, hpa.2.1]; exact hkeep.2.2.2
      have hclo : (Net.handle { σ with q := put2 σ.q x y r } y (some x) (.sub (2 * c) 0 l)).closed = σ.closed := by
        simp only [Net.handle, Net.spread, hpa.2.2]; exact hkeep.2.2.1
      have hq' : ∀ g u v, g ∈ (Net.handle { σ with q := put2 σ.q x y r } y (some x) (.sub (2 * c) 0 l)).q u v ↔ g ∈ put2 σ.q x y r u v ∨ (u = y ∧ (near σ.par y v = true ∧ v ≠ x ∧ v < σ.n) ∧ g = .sub (2 * c) 0 l) := by
        intro g u v
        simp only [Net.handle, Net.spread, mem_pushAll, hkeep.2.1]
        have : v ∈ (Net.learn { σ with q := put2 σ.q x y r } y (2 * c) 0 l (some x)).others y (some x) ↔ (near σ.par y v = true ∧ v ≠ x ∧ v < σ.n) := by
          simp only [Net.others, List.mem_filter, List.mem_range, Bool.and_eq_true, decide_eq_true_eq, Net.n, hkeep.1]
          constructor
          · rintro ⟨h1, h2, h3⟩; exact ⟨h3, fun e => h2 (by rw [e]), h1⟩
          · rintro ⟨h1, h2, h3⟩; exact ⟨h3, fun e => h2 (by cases e; rfl), h1⟩
        rw [this]
      refine ⟨⟨G', hclo.trans S.open_, by rw [hcl']; exact S.cl, fun u d => ?_, fun u d hd => ?_, S.far⟩, fun d m hd => ?_, fun u v g hg => ?_, fun d m k u hd hk' hu hne hkn0 => ?_⟩
      · rw [hkn', if_neg (by omega)]; exact S.odd u d
      · rw [hkn', if_neg (by rintro ⟨_, e⟩; have : d = c := by omega
                             subst this; rw [hF] at hd; cases hd)]; exact S.off u d hd
      · obtain ⟨k, h1, h2, h3⟩ := S.on d m hd
        refine ⟨k, h1, ?_, fun u g hg => ?_⟩
        · rw [hkn']
          by_cases e : k = y ∧ 2 * d = 2 * c
          · obtain ⟨rfl, e⟩ := e
            have : d = c := by omega
            subst this; rw [hA] at h1; cases h1; exact absurd rfl hyh
          · rw [if_neg e]; exact h2
        · rw [hkn'] at hg
          rw [hpar]
          by_cases e : u = y ∧ 2 * d = 2 * c
          · rw [if_pos e] at hg; cases hg
            obtain ⟨rfl, e⟩ := e
            have : d = c := by omega
            subst this; rw [hA] at h1; cases h1
            rw [hF] at hd; cases hd
            simp [wayTo, hyh, hx]
          · rw [if_neg e] at hg; exact h3 u g hg
      · rw [hpar]
        rcases (hq' g u v).1 hg with hg | ⟨rfl, ⟨h1, h2, h3⟩, rfl⟩
        · by_cases e : u = x ∧ v = y
          · obtain ⟨rfl, rfl⟩ := e
            rw [put2_same] at hg
            exact S.fr u v g (by rw [hq]; exact List.mem_cons_of_mem _ hg)
          · rw [put2_other _ _ e] at hg; exact S.fr u v g hg
        · have ho := outward S.good.tree h1 hh (by rw [← hx]; exact h2)
          exact ⟨c, l, h, rfl, hF, hA, ho.1, ho.2.symm⟩
      · rw [hpar] at hkn0 ⊢
        rw [hkn'] at hkn0 ⊢
        have hu' : u < σ.n := by simp only [Net.n, hpar] at hu; exact hu
        by_cases e : u = y ∧ 2 * d = 2 * c
        · rw [if_pos e]; exact Or.inl (by simp)
        · rw [if_neg e]
          by_cases e2 : next σ.par u k = y ∧ 2 * d = 2 * c
          · -- y has just learned: it has sent the frame on
            obtain ⟨e2, e3⟩ := e2
            have : d = c := by omega
            subst this
            rw [hA] at hk'; cases hk'
            rw [hF] at hd; cases hd
            have hs := next_step S.good.tree hu' hh hne
            rw [e2] at hs ⊢
            refine Or.inr ((hq' _ _ _).2 (Or.inr ⟨rfl, ⟨by rw [near_comm]; exact hs.1, ?_, hu'⟩, rfl⟩))
            intro e4
            have h5 := next_step S.good.tree (near_lt S.good.tree hn).2 hh hyh
            rw [← hx, ← e4] at h5
            omega
          · rw [if_neg e2] at hkn0
            rcases S.spr d m k u hd hk' hu' hne hkn0 with h1 | h1
            · exact Or.inl h1
            · refine Or.inr ((hq' _ _ _).2 (Or.inl ?_))
              by_cases e3 : next σ.par u k = x ∧ u = y
              · -- the frame itself: then y knows
                obtain ⟨e3, rfl⟩ := e3
                have hdc : d ≠ c := fun h => e ⟨rfl, by omega⟩
                rw [e3] at h1 ⊢
                rw [put2_same]
                rw [hq, List.mem_cons] at h1
                rcases h1 with h1 | h1
                · simp only [Fr.sub.injEq] at h1; omega
                · exact h1
              · rw [put2_other _ _ e3]; exact h1
    · exact S
  · exact S
end

theorem toNat_nat (c : Nat) : ((c : Int)).toNat = c := by omega
theorem isCli_nat {c : Nat} (h : c < 4) : isCli (c : Int) = true := by simp [isCli]; omega
theorem isBro_nat {σ : Net} {b : Nat} (h : b < σ.n) : σ.isBro (b : Int) = true := by simp [Net.isBro]; omega

theorem full_of_weight {σ : Net} (L : σ.Linked) (h : σ.weight < 100) : σ.full = false := by
  have := (waiting_le_weight L).1
  simp [Net.full]; omega

/-- Bounds on the frames when a call is let in. -/
theorem weight_of_full {σ : Net} (L : σ.Linked) (h : σ.full = false) : σ.weight ≤ 1386 := by
  have := (waiting_le_weight L).2
  simp [Net.full] at h; omega

theorem weight_spread_all {σ : Net} (T : Tree σ.par) {b : Nat} (hb : b < σ.n) {f : Fr} (hf : ∀ x y, wt σ.par x y f = beyond σ.par x y) : (σ.spread b none f).weight ≤ σ.weight + 5 := by
  have h6 : b < 6 := Nat.lt_of_lt_of_le hb (size_le T)
  have h1 := weight_pushAll f h6 (σ.others b none) σ (fun y hy => (near_lt6 T (others_near hy).1).2)
  have h2 := beyond_all T hb
  have h3 := filter_sum_le (g := fun z => beyond σ.par b z) (p := fun z => decide (some z ≠ none) && near σ.par b z) (r := fun z => near σ.par b z) (List.range (size σ.par)) (fun z _ hz => by simpa using hz)
  rw [sum_others] at h1
  simp only [hf] at h1
  simp only [Net.spread]
  omega

section
variable {σ : Net} {A : Nat → Option Nat} {F : Nat → Option (List Tst)}

theorem attach_first (S : Stays σ A F) {c b : Nat} (hc : c < 4) (hb : b < σ.n) (ha : A c = none) (hf : F c = none) (hw : σ.weight < 100) :
    σ.attachE c b = 0 ∧ σ.attach c b = σ.arrive c b := by
  have C := S.cl c hc
  have h0 : (σ.cl c).here = none := C.here.trans ha
  have h1 : (σ.cl c).home = none := C.home.trans ha
  have hE : σ.attachE c b = 0 := by
    simp [Net.attachE, Net.asked, S.open_, isCli_nat hc, isBro_nat hb, h0, full_of_weight S.good.linked hw]
  refine ⟨hE, ?_⟩
  have hu0 : (σ.cl c).used 0 = false := by rw [C.used0, hf]; rfl
  simp [Net.attach, hE, Net.attachN, h1, Net.backs, hu0, C.used1]

theorem Spread.attach (S : Spread σ A F) {c b : Nat} (hc : c < 4) (hb : b < σ.n) (ha : A c = none) (hf : F c = none) (hw : σ.weight < 100) :
    Spread (σ.attach c b) (put A c (some b)) F ∧ (σ.attach c b).weight = σ.weight := by
  rw [(attach_first S.toStays hc hb ha hf hw).2]
  have C := S.cl c hc
  have hne : ∀ d l, F d = some l → d ≠ c := fun d l h e => by subst e; rw [hf] at h; cases h
  refine ⟨⟨⟨?_, S.open_, fun d hd => ?_, S.odd, S.off, S.far⟩, fun d l hd => ?_, fun x y f h => ?_, fun d l h x hd hA hx => ?_⟩, weight_congr rfl rfl⟩
  · refine S.good.setCl ⟨fun b' h => ?_, fun b' h => ?_, (S.good.clis c hc).fil⟩
    · cases h; exact hb
    · cases h; exact hb
  · by_cases e : d = c
    · subst e
      simp only [Net.arrive, Net.setCl, put_same]
      exact ⟨rfl, rfl, C.used0, C.used1, C.fil, C.age, by simp [C.stays, ha]⟩
    · simp only [Net.arrive, Net.setCl, put_other _ _ e]; exact S.cl d hd
  · obtain ⟨h, h1, h2, h3⟩ := S.on d l hd
    exact ⟨h, by rw [put_other _ _ (hne d l hd)]; exact h1, h2, h3⟩
  · obtain ⟨d, l, k, h1, h2, h3, h4, h5⟩ := S.fr x y f h
    exact ⟨d, l, k, h1, h2, by rw [put_other _ _ (hne d l h2)]; exact h3, h4, h5⟩
  · rw [put_other _ _ (hne d l hd)] at hA
    exact S.spr d l h x hd hA hx

theorem sub_first (S : Stays σ A F) {c b : Nat} {l : List Tst} (hc : c < 4) (ha : A c = some b) (hf : F c = none) (hl : goodFilter l = true) (hw : σ.weight < 100) :
    σ.subE c l = 0 ∧ σ.slot c = 0 ∧ σ.sub c l = σ.subN c b 0 l := by
  have C := S.cl c hc
  have h0 : (σ.cl c).here = some b := C.here.trans ha
  have hu0 : (σ.cl c).used 0 = false := by rw [C.used0, hf]; rfl
  have hs : σ.slot c = 0 := by simp [Net.slot, hu0]
  have hwt : σ.waits c = false := by simp [Net.waits, h0, List.range, List.range.loop, hu0, C.used1]
  have hE : σ.subE c l = 0 := by
    simp [Net.subE, Net.asked, S.open_, isCli_nat hc, hl, Net.still, h0, hwt, hs, hu0, full_of_weight S.good.linked hw]
  exact ⟨hE, hs, by simp [Net.sub, hE, h0, hs]⟩

theorem Spread.sub (S : Spread σ A F) {c b : Nat} {l : List Tst} (hc : c < 4) (ha : A c = some b) (hf : F c = none) (hl : goodFilter l = true) (hw : σ.weight < 100) :
    Spread (σ.sub c l) A (put F c (some l)) ∧ (σ.sub c l).weight ≤ σ.weight + 5 := by
  rw [(sub_first S.toStays hc ha hf hl hw).2.2]
  have C := S.cl c hc
  have hb := S.at_lt hc ha
  have hage : (σ.cl c).age 0 + 1 = 0 := by rw [C.age hf]; rfl
  have hne : ∀ d m, F d = some m → d ≠ c := fun d m h e => by subst e; rw [hf] at h; cases h
  have T := S.good.tree
  -- the net behind it
  obtain ⟨x, hx⟩ : ∃ x : Cli, x = { σ.cl c with used := put (σ.cl c).used 0 true, age := put (σ.cl c).age 0 ((σ.cl c).age 0 + 1), fl := put (σ.cl c).fl 0 l, told := put (σ.cl c).told 0 [] } := ⟨_, rfl⟩
  have hτ : σ.subN c b 0 l = ((σ.setCl c x).know b (2 * c) (some (plain l none))).spread b none (.sub (2 * c) 0 l) := by
    subst hx
    simp only [Net.subN, Nat.add_zero, hage, plain]
  rw [hτ]
  have G1 : Good (σ.setCl c x) := by
    refine S.good.setCl ?_
    subst hx
    refine ⟨(S.good.clis c hc).here, (S.good.clis c hc).home, fun k hk => ?_⟩
    by_cases e : k = 0
    · subst e; simpa using hl
    · simp only [put_other _ _ e] at hk ⊢; exact (S.good.clis c hc).fil k hk
  have G2 : Good ((σ.setCl c x).know b (2 * c) (some (plain l none))) := G1.know (fun g hg => by cases hg; exact ⟨hb, by omega, hl, (by intro y h; cases h), Int.le_refl _⟩)
  have hkn : ∀ u s, (((σ.setCl c x).know b (2 * c) (some (plain l none))).spread b none (.sub (2 * c) 0 l)).kn u s = if u = b ∧ s = 2 * c then some (plain l none) else σ.kn u s := by
    intro u s
    simp only [Net.spread, (pushAll_keeps _ _).1]
    rfl
  have hcl : (((σ.setCl c x).know b (2 * c) (some (plain l none))).spread b none (.sub (2 * c) 0 l)).cl = put σ.cl c x := by
    simp only [Net.spread, (pushAll_keeps _ _).2.1]; rfl
  have hpar : (((σ.setCl c x).know b (2 * c) (some (plain l none))).spread b none (.sub (2 * c) 0 l)).par = σ.par := by
    simp only [Net.spread, pushAll_par]; rfl
  have hq' : ∀ g u v, g ∈ (((σ.setCl c x).know b (2 * c) (some (plain l none))).spread b none (.sub (2 * c) 0 l)).q u v ↔ g ∈ σ.q u v ∨ (u = b ∧ (near σ.par b v = true ∧ v < σ.n) ∧ g = .sub (2 * c) 0 l) := by
    intro g u v
    simp only [Net.spread, mem_pushAll]
    have : v ∈ ((σ.setCl c x).know b (2 * c) (some (plain l none))).others b none ↔ (near σ.par b v = true ∧ v < σ.n) := by
      simp only [Net.others, List.mem_filter, List.mem_range, Bool.and_eq_true, decide_eq_true_eq]
      constructor
      · rintro ⟨h1, _, h3⟩; exact ⟨h3, h1⟩
      · rintro ⟨h1, h2⟩; exact ⟨h2, by simp, h1⟩
    rw [this]; rfl
  refine ⟨⟨⟨G2.spread (by exact ⟨by omega, hl⟩), ?_, fun d hd => ?_, fun u d => ?_, fun u d hd => ?_, fun d hd => ?_⟩, fun d m hd => ?_, fun u v g hg => ?_, fun d m h u hd hA hu hne' hk => ?_⟩, ?_⟩
  · simp only [Net.spread, (pushAll_keeps _ _).2.2]; exact S.open_
  · rw [hcl]
    by_cases e : d = c
    · subst e; subst hx
      simp only [put_same]
      exact ⟨C.here, C.home, rfl, C.used1, (fun m hm => by cases hm; simp), (fun h => by cases h), C.stays⟩
    · simp only [put_other _ _ e]; exact S.cl d hd
  · rw [hkn, if_neg (by omega)]; exact S.odd u d
  · have hdc : d ≠ c := fun e => by subst e; simp at hd
    rw [hkn, if_neg (by rintro ⟨_, e⟩; omega)]
    rw [put_other _ _ hdc] at hd
    exact S.off u d hd
  · rw [put_other _ _ (by omega)]; exact S.far d hd
  · by_cases e : d = c
    · subst e
      simp only [put_same, Option.some.injEq] at hd
      subst hd
      refine ⟨b, ha, by rw [hkn]; simp, fun u f h => ?_⟩
      rw [hkn] at h
      split at h
      · rename_i e; cases h; rw [e.1]; simp [wayTo]
      · rw [S.off u d hf] at h; cases h
    · rw [put_other _ _ e] at hd
      obtain ⟨h, h1, h2, h3⟩ := S.on d m hd
      refine ⟨h, h1, ?_, fun u f hu => ?_⟩
      · rw [hkn, if_neg (by rintro ⟨_, e'⟩; omega)]; exact h2
      · rw [hkn, if_neg (by rintro ⟨_, e'⟩; omega)] at hu
        rw [hpar]; exact h3 u f hu
  · rw [hpar]
    rcases (hq' g u v).1 hg with h | ⟨rfl, ⟨h1, h2⟩, rfl⟩
    · obtain ⟨d, m, k, e1, e2, e3, e4, e5⟩ := S.fr u v g h
      exact ⟨d, m, k, e1, by rw [put_other _ _ (hne d m e2)]; exact e2, e3, e4, e5⟩
    · exact ⟨c, l, u, rfl, by simp, ha, (near_ne T h1).symm, (next_near T (by rw [near_comm]; exact h1)).symm⟩
  · rw [hpar] at hk ⊢
    have hu' : u < σ.n := by simp only [Net.n, hpar] at hu; exact hu
    rw [hkn] at hk ⊢
    by_cases e : d = c
    · subst e
      rw [ha] at hA; cases hA
      simp only [put_same, Option.some.injEq] at hd
      subst hd
      rw [if_neg (by rintro ⟨e, _⟩; exact hne' e)]
      by_cases e2 : next σ.par u b = b
      · have hs := next_step T hu' hb hne'
        rw [e2] at hs ⊢
        exact Or.inr ((hq' _ _ _).2 (Or.inr ⟨rfl, ⟨by rw [near_comm]; exact hs.1, hu'⟩, rfl⟩))
      · rw [if_neg (by rintro ⟨e, _⟩; exact e2 e), S.off _ _ hf] at hk
        exact absurd rfl hk
    · rw [if_neg (by rintro ⟨_, e'⟩; omega)] at hk ⊢
      rw [put_other _ _ e] at hd
      rcases S.spr d m h u hd hA hu' hne' hk with h1 | h1
      · exact Or.inl h1
      · exact Or.inr ((hq' _ _ _).2 (Or.inl h1))
  · have := weight_spread_all (σ := (σ.setCl c x).know b (2 * c) (some (plain l none))) T (b := b) hb (f := .sub (2 * c) 0 l) (fun _ _ => rfl)
    rw [show ((σ.setCl c x).know b (2 * c) (some (plain l none))).weight = σ.weight from weight_congr rfl rfl] at this
    exact this

/-- A new net. -/
theorem Spread.new {par : List Nat} (T : Tree par) : Spread (newNet par) (fun _ => none) (fun _ => none) ∧ (newNet par).weight = 0 := by
  refine ⟨⟨⟨⟨T, fun _ _ h => absurd rfl h, fun _ _ _ h => (by cases h), fun _ _ _ h => (by cases h), fun c _ => ⟨fun _ h => (by cases h), fun _ h => (by cases h), fun _ h => (by cases h)⟩⟩, rfl, fun c _ => ⟨rfl, rfl, rfl, rfl, fun _ h => (by cases h), fun _ => rfl, rfl⟩, fun _ _ => rfl, fun _ _ _ => rfl, fun _ _ => rfl⟩,
    fun _ _ h => (by cases h), fun _ _ _ h => (by cases h), fun _ _ _ _ h => (by cases h)⟩, ?_⟩
  simp [Net.weight, Net.wtL, newNet, sum6]
end

def Fr.news : Fr → Option News
  | .event e => some e
  | _ => none
def evs (l : List Fr) : List News := l.filterMap Fr.news
theorem evs_append (l m : List Fr) : evs (l ++ m) = evs l ++ evs m := by simp [evs]
@[simp] theorem evs_event (e : News) (l : List Fr) : evs (.event e :: l) = e :: evs l := rfl
@[simp] theorem evs_nil : evs [] = [] := rfl

/-- What is on its way from a broker to a home, the first to come first. -/
def chain (σ : Net) (P : News → Bool) (h : Nat) : Nat → Nat → List News
  | 0, _ => []
  | k + 1, x => chain σ P h k (next σ.par x h) ++ (evs (σ.q x (next σ.par x h))).filter P

/-- Of a publisher, and wanted. -/
def isOf (p : Nat) (l : List Tst) (e : News) : Bool := decide (e.ev.pub = p) && meets l e.ev

section
variable {par : List Nat} (T : Tree par) {b h : Nat} (hb : b < size par) (hh : h < size par)
include T hb hh
end

theorem chain_congr {σ τ : Net} {P : News → Bool} {h : Nat} (hp : τ.par = σ.par) (T : Tree σ.par) (hh : h < σ.n) : ∀ (k u : Nat), u < σ.n → dist σ.par u h = k →
    (∀ w, w < σ.n → w ≠ h → dist σ.par w h ≤ k → (evs (τ.q w (next σ.par w h))).filter P = (evs (σ.q w (next σ.par w h))).filter P) → chain τ P h k u = chain σ P h k u
  | 0, _, _, _, _ => rfl
  | k + 1, u, hu, hk, H => by
    have hne : u ≠ h := fun e => by subst e; simp at hk
    have hs := next_step T hu hh hne
    simp only [chain, hp]
    rw [chain_congr hp T hh k _ hs.2.1 (by omega) (fun w hw hwh hd => H w hw hwh (by omega)), H u hu hne (by omega)]

structure Flow (σ : Net) (A : Nat → Option Nat) (F : Nat → Option (List Tst)) (E : List News) : Prop extends Stays σ A F where
  on : ∀ c l, F c = some l → ∃ h, A c = some h ∧ ∀ x, x < σ.n → σ.kn x (2 * c) = some (plain l (wayTo σ.par x h))
  fr : ∀ x y f, f ∈ σ.q x y → ∃ e b p, f = .event e ∧ e ∈ E ∧ e.ev.pub = (p : Nat) ∧ A p = some b ∧ y ≠ b ∧ x = next σ.par y b
  ev : ∀ e, e ∈ E → ∃ p : Nat, p < 4 ∧ e.ev.pub = p ∧ A p ≠ none ∧ e.stay = 1 ∧ e.ev.num ≤ (σ.cl p).many
  inc : E.Pairwise fun o e => o.ev.pub = e.ev.pub → o.ev.num < e.ev.num
  told : ∀ c l e, F c = some l → e ∈ (σ.cl c).told 0 → e ∈ E ∧ meets l e.ev = true
  eq : ∀ p c l h b, p < 4 → F c = some l → A c = some h → A p = some b → ((σ.cl c).told 0).filter (isOf p l) ++ chain σ (isOf p l) h (dist σ.par b h) b = E.filter (isOf p l)
  log : ∀ c l, F c = some l → (σ.cl c).log = ((σ.cl c).told 0).map fun e => ⟨0, 0, e.ev⟩

theorem chain_empty {σ : Net} {P : News → Bool} {h : Nat} (hq : ∀ x y, σ.q x y = []) : ∀ k u, chain σ P h k u = []
  | 0, _ => rfl
  | k + 1, u => by simp [chain, chain_empty hq k, hq]

/-- Nothing waits, all know: events may come. -/
theorem Spread.flow {σ : Net} {A : Nat → Option Nat} {F : Nat → Option (List Tst)} (S : Spread σ A F) (hq : ∀ x y, σ.q x y = []) (ht : ∀ c l, F c = some l → (σ.cl c).told 0 = [] ∧ (σ.cl c).log = []) : Flow σ A F [] := by
  refine ⟨S.toStays, fun c l hf => ?_, fun x y f hf => ?_, fun e he => (by cases he), List.Pairwise.nil, fun c l e hf he => ?_, fun p c l h b _ hf _ _ => ?_, fun c l hf => ?_⟩
  · obtain ⟨h, ha, _⟩ := S.on c l hf
    exact ⟨h, ha, fun x hx => S.all_know hq hf ha _ x hx rfl⟩
  · rw [hq] at hf; cases hf
  · rw [(ht c l hf).1] at he; cases he
  · rw [(ht c l hf).1, chain_empty hq]; rfl
  · rw [(ht c l hf).1, (ht c l hf).2]; rfl

/-! ### what an event does at a broker -/
section
variable {σ : Net} {A : Nat → Option Nat} {F : Nat → Option (List Tst)} {y : Nat}

/-- Does a client's own broker get it, for its subscription? -/
def hit (A : Nat → Option Nat) (F : Nat → Option (List Tst)) (y : Nat) (e : News) (c : Nat) : Bool := match F c with
  | some l => decide (A c = some y) && meets l e.ev
  | none => false

structure Facts (σ : Net) (A : Nat → Option Nat) (F : Nat → Option (List Tst)) (y : Nat) : Prop where
  odd : ∀ c, σ.kn y (2 * c + 1) = none
  off : ∀ c, F c = none → σ.kn y (2 * c) = none
  on : ∀ c l, F c = some l → ∃ h, A c = some h ∧ σ.kn y (2 * c) = some (plain l (wayTo σ.par y h))
  here : ∀ c, c < 4 → (σ.cl c).here = A c
  far : ∀ c, 4 ≤ c → F c = none

theorem hear_even (W : Facts σ A F y) (e : News) (c : Nat) : σ.hear y e (2 * c) = if hit A F y e c then σ.setCl c ((σ.cl c).tell 0 e) else σ := by
  unfold Net.hear hit
  cases hF : F c with
  | none => simp [W.off c hF]
  | some l =>
    obtain ⟨h, ha, hk⟩ := W.on c l hF
    have hc : c < 4 := by
      by_cases h4 : c < 4
      · exact h4
      · rw [W.far c (by omega)] at hF; cases hF
    rw [hk]
    simp only [plain, wayTo, ha, Option.some.injEq]
    by_cases e1 : y = h
    · subst e1
      have h2 : 2 * c / 2 = c := by omega
      have h3 : 2 * c % 2 = 0 := by omega
      rcases Bool.eq_false_or_eq_true (meets l e.ev) with hm | hm
      · simp [h2, h3, W.here c hc, ha, Net.tell, hm]
      · simp [hm]
    · simp [e1, Ne.symm e1]
theorem hear_odd (W : Facts σ A F y) (e : News) (c : Nat) : σ.hear y e (2 * c + 1) = σ := by
  unfold Net.hear; rw [W.odd c]

theorem Facts.tell (W : Facts σ A F y) (c : Nat) (e : News) : Facts (σ.setCl c ((σ.cl c).tell 0 e)) A F y := by
  refine ⟨W.odd, W.off, W.on, fun d hd => ?_, W.far⟩
  by_cases h : d = c
  · subst h; simp only [Net.setCl, put_same]
    rw [show ((σ.cl d).tell 0 e).here = (σ.cl d).here from by unfold Cli.tell; split <;> rfl]; exact W.here d hd
  · simp only [Net.setCl, put_other _ _ h]; exact W.here d hd

/-- All eight subscriptions, two by two. -/
def two (l : List Nat) : List Nat := l.flatMap fun c => [2 * c, 2 * c + 1]
theorem hears_two (e : News) : ∀ (l : List Nat) (σ : Net), Facts σ A F y → l.Nodup → (σ.hears y e (two l)).kn = σ.kn ∧ (∀ c, (σ.hears y e (two l)).cl c = if c ∈ l ∧ hit A F y e c = true then (σ.cl c).tell 0 e else σ.cl c)
  | [], σ, _, _ => ⟨rfl, fun c => by simp [two, Net.hears]⟩
  | d :: l, σ, W, hnd => by
    have hnd' := List.nodup_cons.1 hnd
    have h1 : σ.hears y e (two (d :: l)) = (σ.hear y e (2 * d)).hears y e (two l) := by
      simp only [two, List.flatMap_cons, Net.hears, List.cons_append, List.nil_append, List.foldl_cons]
      rw [hear_even W]
      split
      · rw [hear_odd (W.tell d e)]
      · rw [hear_odd W]
    rw [h1, hear_even W]
    by_cases hh : hit A F y e d = true
    · rw [if_pos hh]
      obtain ⟨ih1, ih2⟩ := hears_two e l _ (W.tell d e) hnd'.2
      refine ⟨ih1, fun c => ?_⟩
      rw [ih2 c]
      by_cases hc : c = d
      · subst hc; simp [hnd'.1, hh, Net.setCl]
      · simp [hc, Net.setCl, put_other _ _ hc]
    · rw [if_neg hh]
      obtain ⟨ih1, ih2⟩ := hears_two e l σ W hnd'.2
      refine ⟨ih1, fun c => ?_⟩
      rw [ih2 c]
      by_cases hc : c = d
      · subst hc; simp [hnd'.1, hh]
      · simp [hc]

theorem hears_eight (W : Facts σ A F y) (e : News) : (σ.hears y e (List.range 8)).kn = σ.kn ∧ (∀ c, (σ.hears y e (List.range 8)).cl c = if hit A F y e c = true then (σ.cl c).tell 0 e else σ.cl c) := by
  have h := hears_two (A := A) (F := F) e (List.range 4) σ W List.nodup_range
  have : two (List.range 4) = List.range 8 := by decide
  rw [this] at h
  refine ⟨h.1, fun c => ?_⟩
  rw [h.2 c]
  by_cases hc : c < 4
  · simp [hc]
  · have : hit A F y e c = false := by simp [hit, W.far c (by omega)]
    simp [this]

/-- Where it is sent. -/
theorem mem_targets (W : Facts σ A F y) (T : Tree σ.par) (hw : ∀ c l h, F c = some l → A c = some h → h < σ.n) (hy : y < σ.n) (e : News) (fr : Option Nat) (z : Nat) :
    z ∈ σ.targets y e fr ↔ some z ≠ fr ∧ ∃ c l h, F c = some l ∧ A c = some h ∧ y ≠ h ∧ z = next σ.par y h ∧ meets l e.ev = true := by
  simp only [Net.targets, List.mem_filter, List.mem_range, Bool.and_eq_true, decide_eq_true_eq, List.any_eq_true]
  constructor
  · rintro ⟨_, h2, s, hs, hwt⟩
    refine ⟨h2, ?_⟩
    unfold Net.wants at hwt
    obtain ⟨c, hc | hc⟩ : ∃ c, s = 2 * c ∨ s = 2 * c + 1 := ⟨s / 2, by omega⟩
    · subst hc
      cases hF : F c with
      | none => rw [W.off c hF] at hwt; cases hwt
      | some l =>
        obtain ⟨h, ha, hk⟩ := W.on c l hF
        rw [hk] at hwt
        simp only [plain, wayTo, Bool.and_eq_true] at hwt
        by_cases e1 : y = h
        · simp [e1] at hwt
        · simp only [e1, if_false, Option.some.injEq] at hwt
          exact ⟨c, l, h, hF, ha, e1, (of_decide_eq_true hwt.2).symm, hwt.1⟩
    · subst hc; rw [W.odd c] at hwt; cases hwt
  · rintro ⟨h2, c, l, h, hF, ha, hne, rfl, hm⟩
    have hs := next_step T hy (hw c l h hF ha) hne
    have hc : c < 4 := by
      by_cases h4 : c < 4
      · exact h4
      · rw [W.far c (by omega)] at hF; cases hF
    refine ⟨(near_lt6 T hs.1).2, h2, 2 * c, by omega, ?_⟩
    obtain ⟨h', ha', hk⟩ := W.on c l hF
    rw [ha] at ha'; cases ha'
    simp [Net.wants, hk, plain, wayTo, hne, hm]

theorem nodup_targets (σ : Net) (y : Nat) (e : News) (fr : Option Nat) : (σ.targets y e fr).Nodup := List.Pairwise.filter _ List.nodup_range

/-- A frame to some links: what each holds then. -/
theorem q_pushAll {f : Fr} {x : Nat} : ∀ (ys : List Nat) (σ : Net) (a b : Nat), ys.Nodup → (σ.pushAll x ys f).q a b = if a = x ∧ b ∈ ys then σ.q a b ++ [f] else σ.q a b
  | [], σ, a, b, _ => by simp [Net.pushAll]
  | y :: ys, σ, a, b, hnd => by
    have hnd' := List.nodup_cons.1 hnd
    have ih := q_pushAll (f := f) (x := x) ys (σ.push x y f) a b hnd'.2
    simp only [Net.pushAll, List.foldl_cons] at ih ⊢
    rw [ih]
    simp only [Net.push, List.mem_cons]
    by_cases e : a = x ∧ b = y
    · obtain ⟨rfl, rfl⟩ := e; simp [hnd'.1]
    · rw [put2_other _ _ e]
      by_cases e1 : a = x
      · have : b ≠ y := fun h => e ⟨e1, h⟩
        simp [e1, this]
      · simp [e1]
end

theorem CliAt.tell {x : Cli} {a : Option Nat} {f : Option (List Tst)} (h : CliAt x a f) (k : Nat) (e : News) : CliAt (x.tell k e) a f := by
  unfold Cli.tell; split
  · exact h
  · exact ⟨h.here, h.home, h.used0, h.used1, h.fil, h.age, h.stays⟩
theorem tell_many (x : Cli) (k : Nat) (e : News) : (x.tell k e).many = x.many := by unfold Cli.tell; split <;> rfl

section
variable {σ : Net} {A : Nat → Option Nat} {F : Nat → Option (List Tst)} {E : List News}

theorem Flow.facts (W : Flow σ A F E) {y : Nat} (hy : y < σ.n) : Facts σ A F y :=
  ⟨W.odd y, W.off y, fun c l hf => by obtain ⟨h, h1, h2⟩ := W.on c l hf; exact ⟨h, h1, h2 y hy⟩, fun c hc => (W.cl c hc).here, W.far⟩

theorem happens_keeps {y : Nat} (W : Facts σ A F y) (e : News) (fr : Option Nat) :
    (σ.happens y e fr).par = σ.par ∧ (σ.happens y e fr).closed = σ.closed ∧ (σ.happens y e fr).kn = σ.kn ∧ (∀ c, (σ.happens y e fr).cl c = if hit A F y e c = true then (σ.cl c).tell 0 e else σ.cl c) ∧
    (∀ u v, (σ.happens y e fr).q u v = if u = y ∧ v ∈ σ.targets y e fr then σ.q u v ++ [.event e] else σ.q u v) := by
  have h1 := hears_keeps y e (List.range 8) σ
  have h2 := hears_eight W e
  have h3 := pushAll_keeps (f := .event e) (x := y) (σ.targets y e fr) (σ.hears y e (List.range 8))
  refine ⟨?_, ?_, ?_, fun c => ?_, fun u v => ?_⟩
  · exact (pushAll_par _ _ _ _).trans h1.1
  · exact h3.2.2.trans h1.2.2
  · exact h3.1.trans h2.1
  · exact (congrFun h3.2.1 c).trans (h2.2 c)
  · exact (q_pushAll (f := .event e) (x := y) (σ.targets y e fr) (σ.hears y e (List.range 8)) u v (nodup_targets σ y e fr)).trans (by rw [h1.2.1])

theorem filter_evs_app {P : News → Bool} {e : News} (h : P e = false) (l : List Fr) : (evs (l ++ [.event e])).filter P = (evs l).filter P := by
  simp [evs_append, h]
theorem filter_evs_app' {P : News → Bool} {e : News} (h : P e = true) (l : List Fr) : (evs (l ++ [.event e])).filter P = (evs l).filter P ++ [e] := by
  simp [evs_append, h]

theorem tell_fresh {x : Cli} {e : News} (h : outrun (x.told 0) e = false) : (x.tell 0 e).told 0 = x.told 0 ++ [e] ∧ (x.tell 0 e).log = x.log ++ [⟨0, 0, e.ev⟩] := by
  simp [Cli.tell, h]
theorem tell_filter {P : News → Bool} {x : Cli} {e : News} (h : P e = false) : ((x.tell 0 e).told 0).filter P = (x.told 0).filter P := by
  unfold Cli.tell; split
  · rfl
  · simp [h]

/-- An event is published. -/
theorem Flow.pub (W : Flow σ A F E) {p : Nat} (hp4 : p < 4) {b : Nat} (hA : A p = some b) (hfull : σ.full = false) (f0 f1 f2 : Int) :
    σ.pubE p = 0 ∧ σ.pubA p = (σ.cl p).many + 1 ∧ (∀ c, ((σ.pub p f0 f1 f2).cl c).many = if c = p then (σ.cl p).many + 1 else (σ.cl c).many) ∧ Flow (σ.pub p f0 f1 f2) A F (E ++ [⟨⟨p, (σ.cl p).many + 1, f0, f1, f2⟩, 1⟩]) := by
  have T := W.good.tree
  have C := W.cl p hp4
  have hhere : (σ.cl p).here = some b := C.here.trans hA
  have hE0 : σ.pubE p = 0 := by simp [Net.pubE, Net.asked, W.open_, isCli_nat hp4, hhere, hfull]
  have hb := W.at_lt hp4 hA
  obtain ⟨e, he⟩ : ∃ e : News, e = ⟨⟨p, (σ.cl p).many + 1, f0, f1, f2⟩, 1⟩ := ⟨_, rfl⟩
  have hst : (σ.cl p).stays = 1 := by rw [C.stays, hA]; simp
  obtain ⟨σ0, hσ0⟩ : ∃ σ0 : Net, σ0 = σ.setCl p { σ.cl p with many := (σ.cl p).many + 1 } := ⟨_, rfl⟩
  have hτ0 : σ.pub p f0 f1 f2 = σ0.happens b e none := by
    have h1 : σ.pubEv p f0 f1 f2 = e := by rw [he]; simp only [Net.pubEv, toNat_nat, hst]
    simp only [Net.pub, hE0, if_true, toNat_nat]
    rw [h1, hσ0]
    split
    · rename_i b' hb'
      rw [hhere] at hb'; cases hb'; rfl
    · rename_i hb'
      rw [hhere] at hb'; cases hb'
  rw [← he, hτ0]
  have hcl0 : ∀ c, (σ0.cl c).told = (σ.cl c).told ∧ (σ0.cl c).log = (σ.cl c).log ∧ (σ0.cl c).many = if c = p then (σ.cl p).many + 1 else (σ.cl c).many := fun c => by
    by_cases h : c = p
    · subst h; rw [hσ0]; simp [Net.setCl]
    · rw [hσ0]; simp [Net.setCl, put_other _ _ h, h]
  have hC0 : ∀ c, c < 4 → CliAt (σ0.cl c) (A c) (F c) := fun c hc => by
    by_cases h : c = p
    · subst h; rw [hσ0]; simp only [Net.setCl, put_same]; exact ⟨C.here, C.home, C.used0, C.used1, C.fil, C.age, C.stays⟩
    · rw [hσ0]; simp only [Net.setCl, put_other _ _ h]; exact W.cl c hc
  have hG0 : Good σ0 := by
    rw [hσ0]; exact W.good.setCl ⟨(W.good.clis p hp4).here, (W.good.clis p hp4).home, (W.good.clis p hp4).fil⟩
  have W0 : Facts σ0 A F b := by
    have := W.facts hb
    exact ⟨by rw [hσ0]; exact this.odd, by rw [hσ0]; exact this.off, by rw [hσ0]; exact this.on, fun c hc => (hC0 c hc).here, this.far⟩
  have hlt : ∀ c l h, F c = some l → A c = some h → h < σ.n := fun c l h h1 h2 => W.at_lt (W.on_lt h1) h2
  have hK := happens_keeps W0 e none
  have hT := fun z => mem_targets W0 (by rw [hσ0]; exact T) (by rw [hσ0]; exact hlt) (by rw [hσ0]; exact hb) e none z
  have G' := hG0.happens b e none
  obtain ⟨τ, hτ⟩ : ∃ τ, τ = σ0.happens b e none := ⟨_, rfl⟩
  rw [← hτ] at G' hK ⊢
  obtain ⟨k1, k2, k3, k4, k5⟩ := hK
  have hpar : τ.par = σ.par := by rw [k1, hσ0]; rfl
  have hkn : τ.kn = σ.kn := by rw [k3, hσ0]; rfl
  have hq0 : σ0.q = σ.q := by rw [hσ0]; rfl
  have hT' : ∀ z, z ∈ σ0.targets b e none ↔ ∃ c l h, F c = some l ∧ A c = some h ∧ b ≠ h ∧ z = next σ.par b h ∧ meets l e.ev = true := by
    intro z; rw [hT z]; rw [hσ0]; simp [Net.setCl]
  have hqo : ∀ u v, u ≠ b → τ.q u v = σ.q u v := fun u v h1 => by rw [k5, if_neg (fun h => h1 h.1), hq0]
  have hqb : ∀ v, τ.q b v = if v ∈ σ0.targets b e none then σ.q b v ++ [.event e] else σ.q b v := fun v => by rw [k5, hq0]; simp
  have hpub : e.ev.pub = (p : Int) := by rw [he]
  have hnum : e.ev.num = (σ.cl p).many + 1 := by rw [he]
  have hfresh : ∀ c l, F c = some l → outrun ((σ0.cl c).told 0) e = false := fun c l hF => by
    rw [(hcl0 c).1]
    cases ho : outrun ((σ.cl c).told 0) e with
    | false => rfl
    | true =>
      simp only [outrun, List.any_eq_true, decide_eq_true_eq] at ho
      obtain ⟨o, hm, h1, _, h3⟩ := ho
      obtain ⟨q, _, q2, _, _, q5⟩ := W.ev o (W.told c l o hF hm).1
      have : q = p := by omega
      subst this; omega
  have hmany : ∀ c, (τ.cl c).many = if c = p then (σ.cl p).many + 1 else (σ.cl c).many := fun c => by
    rw [k4]
    split
    · rw [tell_many]; exact (hcl0 c).2.2
    · exact (hcl0 c).2.2
  refine ⟨hE0, by simp [Net.pubA, hE0], hmany, ⟨G', by rw [k2, hσ0]; exact W.open_, fun c hc => ?_, by rw [hkn]; exact W.odd, by rw [hkn]; exact W.off, W.far⟩, ?_, fun u v g hg => ?_, fun e' h' => ?_, ?_, fun c l e' hF he' => ?_, fun q c l h b' hq4 hF hA' hAq => ?_, fun c l hF => ?_⟩
  · rw [k4]
    split
    · exact (hC0 c hc).tell 0 e
    · exact hC0 c hc
  · rw [hkn, hpar]
    simp only [Net.n, hpar]
    exact W.on
  · rw [hpar]
    have hcase : g ∈ σ.q u v ∨ (u = b ∧ v ∈ σ0.targets b e none ∧ g = .event e) := by
      by_cases e1 : u = b
      · subst e1
        rw [hqb] at hg
        split at hg
        · rename_i hv
          rw [List.mem_append, List.mem_singleton] at hg
          rcases hg with hg | hg
          · exact Or.inl hg
          · exact Or.inr ⟨rfl, hv, hg⟩
        · exact Or.inl hg
      · rw [hqo u v e1] at hg; exact Or.inl hg
    rcases hcase with hg | ⟨rfl, hv, rfl⟩
    · obtain ⟨e', b', p', h1, h2, h3⟩ := W.fr u v g hg
      exact ⟨e', b', p', h1, List.mem_append_left _ h2, h3⟩
    · obtain ⟨c, l, h, hF, hA', hyh, rfl, _⟩ := (hT' v).1 hv
      have hs := next_step T hb (hlt c l h hF hA') hyh
      exact ⟨e, u, p, rfl, by simp, hpub, hA, (near_ne T hs.1).symm, (next_near T (by rw [near_comm]; exact hs.1)).symm⟩
  · rw [List.mem_append, List.mem_singleton] at h'
    rcases h' with h' | rfl
    · obtain ⟨p2, q1, q2, q3, q4, q5⟩ := W.ev e' h'
      refine ⟨p2, q1, q2, q3, q4, ?_⟩
      rw [hmany]
      split
      · rename_i h; subst h; omega
      · exact q5
    · exact ⟨p, hp4, hpub, by rw [hA]; simp, by rw [he], by rw [hmany]; simp [hnum]⟩
  · rw [List.pairwise_append]
    refine ⟨W.inc, List.pairwise_singleton _ _, fun o ho x hx => ?_⟩
    rw [List.mem_singleton] at hx
    subst hx
    intro h1
    obtain ⟨q, _, q2, _, _, q5⟩ := W.ev o ho
    have : q = p := by omega
    subst this; omega
  · rw [k4] at he'
    split at he'
    · rename_i hh
      rw [(tell_fresh (hfresh c l hF)).1, (hcl0 c).1, List.mem_append, List.mem_singleton] at he'
      rcases he' with he' | rfl
      · exact ⟨List.mem_append_left _ (W.told c l e' hF he').1, (W.told c l e' hF he').2⟩
      · simp only [hit, hF, Bool.and_eq_true] at hh
        exact ⟨by simp, hh.2⟩
    · rw [(hcl0 c).1] at he'
      exact ⟨List.mem_append_left _ (W.told c l e' hF he').1, (W.told c l e' hF he').2⟩
  · rw [hpar, List.filter_append]
    have hE := W.eq q c l h b' hq4 hF hA' hAq
    have hh := W.at_lt (W.on_lt hF) hA'
    have hb' := W.at_lt hq4 hAq
    by_cases hP : isOf q l e = true
    · have hm : meets l e.ev = true := by simp only [isOf, Bool.and_eq_true] at hP; exact hP.2
      have hqp : q = p := by simp only [isOf, Bool.and_eq_true, decide_eq_true_eq] at hP; omega
      subst hqp
      rw [hA] at hAq; cases hAq
      have hhit : hit A F b e c = decide (b = h) := by simp [hit, hF, hA', hm, eq_comm]
      by_cases e1 : b = h
      · subst e1
        rw [k4, hhit, if_pos (by simp), (tell_fresh (hfresh c l hF)).1, (hcl0 c).1, ← hE]
        simp [chain, hP]
      · rw [k4, hhit, if_neg (by simp [e1]), (hcl0 c).1, ← hE]
        have hs2 := next_step T hb hh e1
        have hin : next σ.par b h ∈ σ0.targets b e none := (hT' _).2 ⟨c, l, h, hF, hA', e1, rfl, hm⟩
        rw [hs2.2.2]
        simp only [chain, hpar]
        rw [hqb, if_pos hin, filter_evs_app' hP, chain_congr hpar T hh _ _ hs2.2.1 rfl (fun w hw hwh hd => by
          rw [hqo w _ (fun e => by subst e; omega)])]
        simp [hP]
    · have hP : isOf q l e = false := by simpa using hP
      have c1 : chain τ (isOf q l) h (dist σ.par b' h) b' = chain σ (isOf q l) h (dist σ.par b' h) b' := chain_congr hpar T hh _ _ hb' rfl (fun w hw _ _ => by
        by_cases e1 : w = b
        · subst e1
          rw [hqb]
          split
          · rw [filter_evs_app hP]
          · rfl
        · rw [hqo w _ e1])
      rw [c1, ← hE, k4]
      split
      · rw [tell_filter hP, (hcl0 c).1]; simp [hP]
      · rw [(hcl0 c).1]; simp [hP]
  · rw [k4]
    split
    · rw [(tell_fresh (hfresh c l hF)).1, (tell_fresh (hfresh c l hF)).2, (hcl0 c).1, (hcl0 c).2.1, W.log c l hF]
      simp
    · rw [(hcl0 c).1, (hcl0 c).2.1]; exact W.log c l hF
end

end Go.Proofs.Ytodfcpblcpogiaa

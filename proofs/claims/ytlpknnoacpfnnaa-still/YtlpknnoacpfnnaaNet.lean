/-
  THE NET, AS THE DOCUMENT TELLS IT, in plain Lean: brokers in a tree, links, what brokers know, clients; what each call does.
-/
namespace Go.Proofs.Ytlpknnoacpfnnaa

/-- A test of a filter. -/
structure Tst where
  fld : Int
  op : Int
  n : Int
deriving DecidableEq, Inhabited

structure Ev where
  pub : Int
  num : Int
  f0 : Int
  f1 : Int
  f2 : Int
deriving DecidableEq, Inhabited

def Ev.zero : Ev := ⟨0, 0, 0, 0, 0⟩
def Ev.field (e : Ev) (i : Int) : Int := if i = 0 then e.f0 else if i = 1 then e.f1 else e.f2

/-- An event, and the stay of its publisher. -/
structure News where
  ev : Ev
  stay : Int
deriving DecidableEq, Inhabited

def Tst.good (t : Tst) : Bool := decide (0 ≤ t.fld ∧ t.fld ≤ 2 ∧ 1 ≤ t.op ∧ t.op ≤ 4)
def Tst.met (t : Tst) (e : Ev) : Bool :=
  if t.op = 2 then decide (e.field t.fld ≠ t.n) else if t.op = 3 then decide (e.field t.fld < t.n) else if t.op = 4 then decide (t.n ≤ e.field t.fld) else decide (e.field t.fld = t.n)
def meets (l : List Tst) (e : Ev) : Bool := l.all fun t => t.met e

/-- An entry of a log. -/
structure Ent where
  slot : Int
  lost : Int
  ev : Ev
deriving DecidableEq, Inhabited

/-- A frame; a subscription's number is two times the client and the slot. -/
inductive Fr where
  | sub (s : Nat) (age : Int) (fl : List Tst)
  | unsub (s : Nat) (age : Int)
  | event (e : News)
  | move (s : Nat) (age : Int) (fl : List Tst) (old new : Nat)
  | rest (s : Nat) (evs : List News) (more : Int) (new : Nat)
deriving DecidableEq, Inhabited

structure Fact where
  age : Int
  fl : List Tst
  way : Option Nat
  kept : List News
  more : Int
  waits : Bool

structure Cli where
  here : Option Nat
  home : Option Nat
  stays : Int
  many : Int
  used : Nat → Bool
  age : Nat → Int
  fl : Nat → List Tst
  told : Nat → List News
  log : List Ent

structure Net where
  par : List Nat
  q : Nat → Nat → List Fr
  kn : Nat → Nat → Option Fact
  cl : Nat → Cli
  closed : Bool

def put {α : Type} (f : Nat → α) (i : Nat) (v : α) : Nat → α := fun j => if j = i then v else f j
def put2 {α : Type} (f : Nat → Nat → α) (i j : Nat) (v : α) : Nat → Nat → α := fun a b => if a = i ∧ b = j then v else f a b

@[simp] theorem put_same {α : Type} (f : Nat → α) (i : Nat) (v : α) : put f i v i = v := by simp [put]
theorem put_other {α : Type} (f : Nat → α) {i j : Nat} (v : α) (h : j ≠ i) : put f i v j = f j := by simp [put, h]
@[simp] theorem put2_same {α : Type} (f : Nat → Nat → α) (i j : Nat) (v : α) : put2 f i j v i j = v := by simp [put2]
theorem put2_other {α : Type} (f : Nat → Nat → α) {i j a b : Nat} (v : α) (h : ¬ (a = i ∧ b = j)) : put2 f i j v a b = f a b := by simp [put2, h]

/-! ### The tree -/

/-- How many brokers. -/
def size (par : List Nat) : Nat := par.length + 1
/-- The parent of a broker that is no root. -/
def up (par : List Nat) (i : Nat) : Nat := par.getD (i - 1) 0
def isPar (par : List Nat) (p c : Nat) : Bool := decide (0 < c ∧ c < size par ∧ up par c = p)
def near (par : List Nat) (a b : Nat) : Bool := isPar par a b || isPar par b a
/-- The child of x above h, if h is below x. -/
def climb (par : List Nat) : Nat → Nat → Nat → Option Nat
  | 0, _, _ => none
  | f + 1, h, x => if h = 0 then none else if up par h = x then some h else climb par f (up par h) x
/-- The neighbour on the path. -/
def next (par : List Nat) (x h : Nat) : Nat := match climb par 6 h x with
  | some c => c
  | none => up par x
def distF (par : List Nat) : Nat → Nat → Nat → Nat
  | 0, _, _ => 0
  | f + 1, x, h => if x = h then 0 else distF par f (next par x h) h + 1
def dist (par : List Nat) (x h : Nat) : Nat := distF par 6 x h
/-- How many brokers lie beyond a link. -/
def beyond (par : List Nat) (x y : Nat) : Nat := ((List.range (size par)).filter fun z => decide (z ≠ x) && decide (next par x z = y)).length

def isTree (l : List Int) : Bool := decide (l.length ≤ 5) && (List.range l.length).all fun i => decide (0 ≤ l.getD i 0 ∧ l.getD i 0 ≤ i)

/-! ### What is done -/

def Net.n (σ : Net) : Nat := size σ.par
def Net.push (σ : Net) (x y : Nat) (f : Fr) : Net := { σ with q := put2 σ.q x y (σ.q x y ++ [f]) }
def Net.pushAll (σ : Net) (x : Nat) (ys : List Nat) (f : Fr) : Net := ys.foldl (fun σ y => σ.push x y f) σ
def Net.others (σ : Net) (x : Nat) (but : Option Nat) : List Nat := (List.range σ.n).filter fun y => decide (some y ≠ but) && near σ.par x y
def Net.spread (σ : Net) (x : Nat) (but : Option Nat) (f : Fr) : Net := σ.pushAll x (σ.others x but) f
def Net.know (σ : Net) (b s : Nat) (f : Option Fact) : Net := { σ with kn := put2 σ.kn b s f }
def Net.setCl (σ : Net) (c : Nat) (x : Cli) : Net := { σ with cl := put σ.cl c x }

/-- Was one of the same stay, with a number that is not lower, told? -/
def outrun (l : List News) (e : News) : Bool := l.any fun o => decide (o.ev.pub = e.ev.pub ∧ o.stay = e.stay ∧ e.ev.num ≤ o.ev.num)
def Cli.tell (x : Cli) (k : Nat) (e : News) : Cli :=
  if outrun (x.told k) e then x else { x with told := put x.told k (x.told k ++ [e]), log := x.log ++ [⟨k, 0, e.ev⟩] }
def Cli.lose (x : Cli) (k : Nat) (m : Int) : Cli := if 0 < m then { x with log := x.log ++ [⟨k, m, Ev.zero⟩] } else x
def Net.tell (σ : Net) (s : Nat) (e : News) : Net := σ.setCl (s / 2) ((σ.cl (s / 2)).tell (s % 2) e)
def Net.lose (σ : Net) (s : Nat) (m : Int) : Net := σ.setCl (s / 2) ((σ.cl (s / 2)).lose (s % 2) m)
def Net.tells (σ : Net) (s : Nat) (l : List News) : Net := l.foldl (fun σ e => σ.tell s e) σ

/-- An event, for one subscription that is here. -/
def Net.hear (σ : Net) (b : Nat) (e : News) (s : Nat) : Net := match σ.kn b s with
  | none => σ
  | some f =>
    if meets f.fl e.ev && decide (f.way = none) then
      if f.waits || (decide ((σ.cl (s / 2)).here ≠ some b) && decide (f.kept.length < 6)) then σ.know b s (some { f with kept := f.kept ++ [e] })
      else if (σ.cl (s / 2)).here ≠ some b then σ.know b s (some { f with more := f.more + 1 })
      else σ.tell s e
    else σ
def Net.wants (σ : Net) (b : Nat) (e : News) (y : Nat) (s : Nat) : Bool := match σ.kn b s with
  | none => false
  | some f => meets f.fl e.ev && decide (f.way = some y)
def Net.targets (σ : Net) (b : Nat) (e : News) (from_ : Option Nat) : List Nat := (List.range 6).filter fun y => decide (some y ≠ from_) && (List.range 8).any (σ.wants b e y)
def Net.happens (σ : Net) (b : Nat) (e : News) (from_ : Option Nat) : Net := ((List.range 8).foldl (fun σ s => σ.hear b e s) σ).pushAll b (σ.targets b e from_) (.event e)

def Net.learn (σ : Net) (b s : Nat) (age : Int) (fl : List Tst) (way : Option Nat) : Net := match σ.kn b s with
  | none => σ.know b s (some ⟨age, fl, way, [], 0, false⟩)
  | some f => if f.age < age then σ.know b s (some ⟨age, fl, way, [], 0, false⟩) else σ
def Net.forget (σ : Net) (b s : Nat) (age : Int) : Net := match σ.kn b s with
  | none => σ
  | some f => if f.age ≤ age then σ.know b s none else σ

def Net.handle (σ : Net) (b : Nat) (from_ : Option Nat) : Fr → Net
  | .sub s age fl => (σ.learn b s age fl from_).spread b from_ (.sub s age fl)
  | .unsub s age => (σ.forget b s age).spread b from_ (.unsub s age)
  | .event e => σ.happens b e from_
  | .move s age fl old new =>
    let σ' := σ.know b s (some ⟨age, fl, from_, [], 0, false⟩)
    if b = old then match from_ with
      | some y => σ'.push b y (match σ.kn b s with | some f => .rest s f.kept f.more new | none => .rest s [] 0 new)
      | none => σ'
    else σ'.push b (next σ.par b old) (.move s age fl old new)
  | .rest s evs more new =>
    if b ≠ new then σ.push b (next σ.par b new) (.rest s evs more new)
    else match σ.kn b s with
      | none => σ
      | some f => (((σ.lose s more).tells s evs).tells s f.kept).know b s (some { f with kept := [], waits := false })

/-! ### The calls -/

/-- How many frames wait. -/
def Net.waiting (σ : Net) : Nat := ((List.range 6).map fun x => ((List.range 6).map fun y => (σ.q x y).length).sum).sum

def isCli (c : Int) : Bool := decide (0 ≤ c ∧ c < 4)
def Net.isBro (σ : Net) (b : Int) : Bool := decide (0 ≤ b ∧ b < σ.n)
def Net.full (σ : Net) : Bool := decide (100 ≤ σ.waiting)

def newCli : Cli := ⟨none, none, 0, 0, fun _ => false, fun _ => -1, fun _ => [], fun _ => [], []⟩
def newNet (par : List Nat) : Net := ⟨par, fun _ _ => [], fun _ _ => none, fun _ => newCli, false⟩

/-- Does a broker wait for one of a client's subscriptions? -/
def Net.waits (σ : Net) (c : Nat) : Bool := match (σ.cl c).here with
  | none => false
  | some b => (List.range 2).any fun k => (σ.cl c).used k && (match σ.kn b (2 * c + k) with | some f => f.waits | none => false)

/-- ErrClosed, ErrArg. -/
def Net.asked (σ : Net) (good : Bool) : Int := if σ.closed then 2 else if good then 0 else 1
/-- ErrAway, ErrBusy. -/
def Net.still (σ : Net) (c : Nat) : Int := if (σ.cl c).here = none then 3 else if σ.waits c then 5 else 0

def Net.attachE (σ : Net) (c b : Int) : Int :=
  if σ.asked (isCli c && σ.isBro b) ≠ 0 then σ.asked (isCli c && σ.isBro b) else if (σ.cl c.toNat).here ≠ none then 4 else if σ.full then 6 else 0
/-- What is kept for a slot is told. -/
def Net.backs (σ : Net) (c b k : Nat) : Net :=
  if (σ.cl c).used k then match σ.kn b (2 * c + k) with
    | none => σ
    | some f => ((σ.lose (2 * c + k) f.more).tells (2 * c + k) f.kept).know b (2 * c + k) (some { f with kept := [], more := 0 })
  else σ
/-- A slot comes to another broker. -/
def Net.comes (σ : Net) (c b old k : Nat) : Net :=
  let x := σ.cl c
  if x.used k then
    ((σ.setCl c { x with age := put x.age k (x.age k + 1) }).know b (2 * c + k) (some ⟨x.age k + 1, x.fl k, none, [], 0, true⟩)).push b (next σ.par b old) (.move (2 * c + k) (x.age k + 1) (x.fl k) old b)
  else σ
def Net.arrive (σ : Net) (c b : Nat) : Net := σ.setCl c { σ.cl c with here := some b, home := some b, stays := (σ.cl c).stays + 1 }
def Net.attachN (σ : Net) (c b : Nat) : Net := match (σ.cl c).home with
  | none => ((σ.backs c b 0).backs c b 1).arrive c b
  | some h => if h = b then ((σ.backs c b 0).backs c b 1).arrive c b else ((σ.comes c b h 0).comes c b h 1).arrive c b
def Net.attach (σ : Net) (c b : Int) : Net := if σ.attachE c b = 0 then σ.attachN c.toNat b.toNat else σ

def Net.detachE (σ : Net) (c : Int) : Int := if σ.asked (isCli c) ≠ 0 then σ.asked (isCli c) else σ.still c.toNat
def Net.detach (σ : Net) (c : Int) : Net := if σ.detachE c = 0 then σ.setCl c.toNat { σ.cl c.toNat with here := none } else σ

def goodFilter (l : List Tst) : Bool := decide (l.length ≤ 3) && l.all Tst.good
def Net.slot (σ : Net) (c : Nat) : Nat := if (σ.cl c).used 0 then 1 else 0
def Net.subE (σ : Net) (c : Int) (l : List Tst) : Int :=
  if σ.asked (isCli c && goodFilter l) ≠ 0 then σ.asked (isCli c && goodFilter l) else if σ.still c.toNat ≠ 0 then σ.still c.toNat else if (σ.cl c.toNat).used (σ.slot c.toNat) then 7 else if σ.full then 6 else 0
def Net.subN (σ : Net) (c b k : Nat) (l : List Tst) : Net :=
  let x := σ.cl c
  ((σ.setCl c { x with used := put x.used k true, age := put x.age k (x.age k + 1), fl := put x.fl k l, told := put x.told k [] }).know b (2 * c + k) (some ⟨x.age k + 1, l, none, [], 0, false⟩)).spread b none (.sub (2 * c + k) (x.age k + 1) l)
def Net.sub (σ : Net) (c : Int) (l : List Tst) : Net :=
  if σ.subE c l = 0 then match (σ.cl c.toNat).here with
    | some b => σ.subN c.toNat b (σ.slot c.toNat) l
    | none => σ
  else σ

def Net.unsubE (σ : Net) (c k : Int) : Int :=
  if σ.asked (isCli c && decide (0 ≤ k ∧ k < 2)) ≠ 0 then σ.asked (isCli c && decide (0 ≤ k ∧ k < 2)) else if σ.still c.toNat ≠ 0 then σ.still c.toNat else if (σ.cl c.toNat).used k.toNat then (if σ.full then 6 else 0) else 7
def Net.unsub (σ : Net) (c k : Int) : Net :=
  if σ.unsubE c k = 0 then match (σ.cl c.toNat).here with
    | some b => ((σ.setCl c.toNat { σ.cl c.toNat with used := put (σ.cl c.toNat).used k.toNat false }).know b (2 * c.toNat + k.toNat) none).spread b none (.unsub (2 * c.toNat + k.toNat) ((σ.cl c.toNat).age k.toNat))
    | none => σ
  else σ

def Net.pubE (σ : Net) (c : Int) : Int :=
  if σ.asked (isCli c) ≠ 0 then σ.asked (isCli c) else if (σ.cl c.toNat).here = none then 3 else if σ.full then 6 else 0
def Net.pubEv (σ : Net) (c f0 f1 f2 : Int) : News := ⟨⟨c, (σ.cl c.toNat).many + 1, f0, f1, f2⟩, (σ.cl c.toNat).stays⟩
def Net.pub (σ : Net) (c f0 f1 f2 : Int) : Net :=
  if σ.pubE c = 0 then match (σ.cl c.toNat).here with
    | some b => (σ.setCl c.toNat { σ.cl c.toNat with many := (σ.cl c.toNat).many + 1 }).happens b (σ.pubEv c f0 f1 f2) none
    | none => σ
  else σ
def Net.pubA (σ : Net) (c : Int) : Int := if σ.pubE c = 0 then (σ.cl c.toNat).many + 1 else 0

def Net.isLink (σ : Net) (a b : Int) : Bool := decide (0 ≤ a ∧ 0 ≤ b) && near σ.par a.toNat b.toNat
def Net.delE (σ : Net) (a b : Int) : Int :=
  if σ.asked (σ.isLink a b) ≠ 0 then σ.asked (σ.isLink a b) else if σ.q a.toNat b.toNat = [] then 7 else 0
def Net.del (σ : Net) (a b : Int) : Net :=
  if σ.delE a b = 0 then match σ.q a.toNat b.toNat with
    | f :: r => Net.handle { σ with q := put2 σ.q a.toNat b.toNat r } b.toNat (some a.toNat) f
    | [] => σ
  else σ

/-- A link in which frames wait. -/
structure Lnk where
  a : Nat
  b : Nat
  many : Nat
deriving DecidableEq, Inhabited
def Net.pending (σ : Net) : List Lnk := if σ.closed then [] else
  (List.range 6).flatMap fun x => (List.range 6).filterMap fun y => if σ.q x y = [] then none else some ⟨x, y, (σ.q x y).length⟩

def Net.logE (σ : Net) (c : Int) : Int := σ.asked (isCli c)
def Net.logA (σ : Net) (c : Int) : List Ent := if σ.logE c = 0 then (σ.cl c.toNat).log else []
def Net.log (σ : Net) (c : Int) : Net := if σ.logE c = 0 then σ.setCl c.toNat { σ.cl c.toNat with log := [] } else σ

end Go.Proofs.Ytlpknnoacpfnnaa

/-
  What a call leaves alone; how the program's net lies in memory.
-/
import Derived.Test.YtodfcpblcpogiaaRows
import Derived.Test.YtodfcpblcpogiaaFlow2
import Derived.Test.YtodfcpblcpogiaaAtp
import Derived.WalkKit
import Derived.WalkSpells
import Derived.WalkLawsBesides
import Derived.Deep.QuietTactic
import Derived.BigQuiet
import Derived.Deep.MidRow
import Derived.Laws.EntriesVeiled
import Derived.Maps.Own
import Derived.Maps.OwnOps
import Derived.DeepKeys5
import Derived.Conc.LoneSelect
namespace Go.Proofs.Ytodfcpblcpogiaa
open Go.RowKit

theorem hide {p : Prop} (h : p) : Hid p := h
theorem unhide {p : Prop} (h : Hid p) : p := h

/-- Of the blocks of w none but those of S is touched; new ones may have come. -/
structure Touch (S : Nat → Prop) (w w' : World) : Prop where
  os : w'.os = w.os
  tape : w'.tape = w.tape
  output : w'.output = w.output
  size : w.heap.size ≤ w'.heap.size
  block : ∀ k, k < w.heap.size → ¬ S k → w'.heap[k]? = w.heap[k]?

abbrev Calm (w w' : World) : Prop := Touch (fun _ => False) w w'

theorem Touch.refl (S : Nat → Prop) (w : World) : Touch S w w := ⟨rfl, rfl, rfl, Nat.le_refl _, fun _ _ _ => rfl⟩
theorem Touch.trans {S : Nat → Prop} {a b c : World} (h : Touch S a b) (k : Touch S b c) : Touch S a c :=
  ⟨k.os.trans h.os, k.tape.trans h.tape, k.output.trans h.output, Nat.le_trans h.size k.size, fun i hi hs => (k.block i (Nat.lt_of_lt_of_le hi h.size) hs).trans (h.block i hi hs)⟩
theorem Touch.mono {S T : Nat → Prop} {a b : World} (h : Touch S a b) (hst : ∀ k, k < a.heap.size → S k → T k) : Touch T a b :=
  ⟨h.os, h.tape, h.output, h.size, fun i hi hs => h.block i hi (fun x => hs (hst i hi x))⟩
theorem Touch.alloc {S : Nat → Prop} {a w : World} (h : Touch S a w) (o : Obj) : Touch S a (w.alloc o) :=
  h.trans ⟨rfl, rfl, rfl, by simp, fun k hk _ => Below.heap_alloc _ _ _ hk⟩
theorem Touch.drew {S : Nat → Prop} {a w : World} (h : Touch S a w) : Touch S a w.drew := ⟨h.os, h.tape, h.output, h.size, h.block⟩
/-- A store into a block of S, or into a new one. -/
theorem Touch.setCell {S : Nat → Prop} {a w : World} (h : Touch S a w) {p : Addr} (hp : p.block < a.heap.size → S p.block) (u : Value) : Touch S a (w.setCell p u) :=
  ⟨h.os, h.tape, h.output, by simpa [World.setCell] using h.size, fun k hk hs => (Below.heap_setCell _ _ _ _ (fun e => by subst e; exact hs (hp hk))).trans (h.block k hk hs)⟩
theorem Touch.calm {S : Nat → Prop} {a b c : World} (h : Touch S a b) (k : Calm b c) : Touch S a c := h.trans (k.mono (fun _ _ f => f.elim))
theorem Touch.cell {S : Nat → Prop} {w w' : World} (h : Touch S w w') {p : Addr} {v : Value} (hs : ¬ S p.block) (hc : w.cell? p = some v) : w'.cell? p = some v :=
  (World.cell?_of_block (w := w) (h.block p.block (block_lt_of_cell hc) hs)).trans hc
theorem Touch.below {S : Nat → Prop} {w w' : World} {B : Nat} (h : Touch S w w') (hB : B ≤ w.heap.size) (hs : ∀ k, S k → B ≤ k) : Below B w w' :=
  ⟨h.os, h.tape, h.output, h.size, fun k hk => h.block k (by omega) (fun x => by have := hs k x; omega)⟩

/-- A block that was new ahead of a call is still there behind it. -/
theorem Touch.box {S : Nat → Prop} {w w' : World} {o : Obj} (h : Touch S (w.alloc o) w') (hs : ¬ S w.heap.size) : w'.heap[w.heap.size]? = some o :=
  (h.block w.heap.size (by simp) hs).trans (heap_alloc_new w o)
theorem box_cell {w : World} {b : Nat} {cs : Array Value} {t : TypeId} (h : w.heap[b]? = some (.cells cs t)) (j : Nat) : w.cell? ⟨b, j, none⟩ = cs[j]? := by simp [World.cell?, h]
theorem box_frozen {w : World} {b : Nat} {cs : Array Value} {t : TypeId} (h : w.heap[b]? = some (.cells cs t)) (j : Nat) : w.frozen? ⟨b, j, none⟩ = false := by simp [World.frozen?, h]


theorem Touch.setChan {S : Nat → Prop} {a w : World} (h : Touch S a w) {r : Nat} (hp : r < a.heap.size → S r) (cap : Nat) (buf : Array Value) (cl : Bool) (s t : Nat) (tm : Bool) : Touch S a (w.setChan r cap buf cl s t tm) :=
  ⟨h.os, h.tape, h.output, by simpa [World.setChan] using h.size, fun k hk hs => by
    have hne : r ≠ k := fun e => by subst e; exact hs (hp hk)
    have h1 := h.block k hk hs
    simp only [World.setChan]
    rw [Array.getElem?_setIfInBounds_ne hne]; exact h1⟩

/-- Whose a block is. -/
inductive Role where
  | net
  | tree
  | frame
  | rest
  | chan (x y : Nat)
  | known (x s : Nat)
  | kept (x s : Nat)
  | map (c k : Nat)
  | log (c : Nat)

abbrev int (z : Int) : Value := .int .i64 z
abbrev ptr (b : Nat) : Value := .pointer (some ⟨b, 0, none⟩)
def whr : Option Nat → Int
  | none => -1
  | some b => b

/-! ### data -/
def Tst.enc (t : Tst) : List Value := [int t.fld, int t.op, int t.n]
def Ev.enc (e : Ev) : List Value := [int e.pub, int e.num, int e.f0, int e.f1, int e.f2]
def Ent.enc (e : Ent) : List Value := [int e.slot, int e.lost] ++ e.ev.enc
def Lnk.enc (l : Lnk) : List Value := [int l.a, int l.b, int l.many]
/-- The i-th test of a filter, noughts behind. -/
def tstAt (l : List Tst) (i : Nat) : Tst := l.getD i ⟨0, 0, 0⟩
/-- A filter: three tests, how many. -/
def encFil (l : List Tst) : List Value := (tstAt l 0).enc ++ (tstAt l 1).enc ++ (tstAt l 2).enc ++ [int l.length]
def noFil : List Value := [int 0, int 0, int 0, int 0, int 0, int 0, int 0, int 0, int 0, int 0]
/-- A note of an event. -/
def noteOf (k : Nat) (e : News) : List Value := [int k, int 0] ++ e.ev.enc ++ [int e.stay]
abbrev nilS : Value := .slice none 0 0
/-- A frame's cells; u: what else of the subscription a Rest frame has; kv: its row. -/
def encFr (f : Fr) (u : List Value) (kv : Value) : List Value := match f with
  | .sub s age fl => [int 0, int (s / 2 : Nat), int (s % 2 : Nat), int age] ++ encFil fl ++ Ev.zero.enc ++ [int 0, int 0, int 0, nilS, int 0]
  | .unsub s age => [int 1, int (s / 2 : Nat), int (s % 2 : Nat), int age] ++ noFil ++ Ev.zero.enc ++ [int 0, int 0, int 0, nilS, int 0]
  | .event e => [int 2, int 0, int 0, int 0] ++ noFil ++ e.ev.enc ++ [int e.stay, int 0, int 0, nilS, int 0]
  | .move s age fl old new => [int 3, int (s / 2 : Nat), int (s % 2 : Nat), int age] ++ encFil fl ++ Ev.zero.enc ++ [int 0, int (old : Nat), int (new : Nat), nilS, int 0]
  | .rest s _ more new => [int 4, int (s / 2 : Nat), int (s % 2 : Nat)] ++ u ++ Ev.zero.enc ++ [int 0, int 0, int (new : Nat), kv, int more]
def encKn (s : Nat) (f : Fact) (kv : Value) : List Value := [int (s / 2 : Nat), int (s % 2 : Nat), int f.age] ++ encFil f.fl ++ [int (whr f.way), .bool f.waits, kv, int f.more]

/-- A row of its own: nil, or a block that is its alone. -/
def RowAt (w : World) (ρ : Nat → Option Role) (r : Role) (e : TypeId) (size : Nat) (n : Nat) (cells : List Value) (v : Value) : Prop :=
  w.ownsRow 0 e size v n cells ∧ ∀ g, v.ownBlock = some g → ρ g = some r

/-- What is on its way in a frame. -/
def restOf : Fr → List Value
  | .rest s evs _ _ => evs.flatMap (noteOf (s % 2))
  | _ => []
def restN : Fr → Nat
  | .rest _ evs _ _ => evs.length
  | _ => 0
/-- A frame, in its block. -/
def FrAt (w : World) (ρ : Nat → Option Role) (f : Fr) (fb : Nat) : Prop :=
  ρ fb = some .frame ∧ ∃ a u kv, w.heap[fb]? = some (.cells (encFr f (int a :: u) kv).toArray 128) ∧ u.length = 10 ∧ (∀ v, v ∈ u → v.oneCell' = true) ∧ RowAt w ρ .rest 163 8 (restN f) (restOf f) kv

/-- Frames in a channel. -/
def FramesAt (w : World) (ρ : Nat → Option Role) (vs : List Value) (l : List Fr) : Prop :=
  vs.length = l.length ∧ ∀ (i : Nat) f, l[i]? = some f → ∃ fb, vs[i]? = some (ptr fb) ∧ FrAt w ρ f fb

def LinkAt (w : World) (ρ : Nat → Option Role) (x y : Nat) (nb : Bool) (l : List Fr) (v : Value) : Prop :=
  if nb then ∃ r buf s t, v = .chan (some r) ∧ ρ r = some (.chan x y) ∧ w.heap[r]? = some (.chan 2000 buf false s t false) ∧ FramesAt w ρ buf.toList l else v = .chan none ∧ l = []

def KnownAt (w : World) (ρ : Nat → Option Role) (x s : Nat) (o : Option Fact) (v : Value) : Prop := match o with
  | none => v = .pointer none
  | some f => ∃ kb kv, v = ptr kb ∧ ρ kb = some (.known x s) ∧ w.heap[kb]? = some (.cells (encKn s f kv).toArray 160) ∧ RowAt w ρ (.kept x s) 163 8 f.kept.length (f.kept.flatMap (noteOf (s % 2))) kv

/-- The greatest number of a stay. -/
def heardOf (l : List News) (p st : Int) : Int := l.foldl (fun m e => if e.ev.pub = p ∧ e.stay = st then e.ev.num else m) 0


end Go.Proofs.Ytodfcpblcpogiaa

/-
  read, whatever stands in the log.
-/
import Derived.Test.YtodfcpblcpogiaaAtp
import Derived.Test.YtodfcpblcpogiaaHact
namespace Go.Proofs.Ytodfcpblcpogiaa
open Go.RowKit

structure CSame (x y : Cli) : Prop where
 here : y.here = x.here
 stays : y.stays = x.stays
 many : y.many = x.many
 used : y.used = x.used
 fl : y.fl = x.fl
theorem CSame.refl (x : Cli) : CSame x x := ⟨rfl, rfl, rfl, rfl, rfl⟩
theorem CSame.trans {x y z : Cli} (h : CSame x y) (k : CSame y z) : CSame x z := ⟨k.here.trans h.here, k.stays.trans h.stays, k.many.trans h.many, k.used.trans h.used, k.fl.trans h.fl⟩
theorem csame_tell (x : Cli) (k : Nat) (e : News) : CSame x (x.tell k e) := by unfold Cli.tell; split <;> exact ⟨rfl, rfl, rfl, rfl, rfl⟩
theorem csame_lose (x : Cli) (k : Nat) (m : Int) : CSame x (x.lose k m) := by unfold Cli.lose; split <;> exact ⟨rfl, rfl, rfl, rfl, rfl⟩

def Sm (σ τ : Net) : Prop := ∀ c, CSame (σ.cl c) (τ.cl c)
section
variable {σ τ : Net}
theorem Sm.refl (σ : Net) : Sm σ σ := fun _ => CSame.refl _
theorem Sm.trans {υ : Net} (h : Sm σ τ) (k : Sm τ υ) : Sm σ υ := fun c => (h c).trans (k c)
theorem Sm.of (h : τ.cl = σ.cl) : Sm σ τ := fun c => by rw [h]; exact CSame.refl _
theorem Sm.setCl {c : Nat} {x : Cli} (h : CSame (σ.cl c) x) : Sm σ (σ.setCl c x) := fun d => by
 by_cases e : d = c
 ·subst e; simp only [Net.setCl, put_same]; exact h
 ·simp only [Net.setCl, put_other _ _ e]; exact CSame.refl _
theorem Sm.tell (σ : Net) (s : Nat) (e : News) : Sm σ (σ.tell s e) := Sm.setCl (csame_tell _ _ _)
theorem Sm.lose (σ : Net) (s : Nat) (m : Int) : Sm σ (σ.lose s m) := Sm.setCl (csame_lose _ _ _)
theorem Sm.tells (s : Nat) : ∀ (l : List News) (σ : Net), Sm σ (σ.tells s l)
 | [], σ => Sm.refl σ
 | e :: l, σ => (Sm.tell σ s e).trans (Sm.tells s l (σ.tell s e))
theorem Sm.hear (σ : Net) (b : Nat) (e : News) (s : Nat) : Sm σ (σ.hear b e s) := by
 unfold Net.hear
 split
 ·exact Sm.refl _
 ·split
  ·split
   ·exact Sm.of rfl
   ·split
    ·exact Sm.of rfl
    ·exact Sm.tell _ _ _
  ·exact Sm.refl _
theorem Sm.hears (b : Nat) (e : News) : ∀ (l : List Nat) (σ : Net), Sm σ (σ.hears b e l)
 | [], σ => Sm.refl σ
 | s :: l, σ => (Sm.hear σ b e s).trans (Sm.hears b e l (σ.hear b e s))
theorem Sm.happens (σ : Net) (b : Nat) (e : News) (fr : Option Nat) : Sm σ (σ.happens b e fr) :=
 (Sm.hears b e (List.range 8) σ).trans (Sm.of (pushAll_keeps _ _).2.1)
theorem Sm.handle (σ : Net) (b : Nat) (fr : Option Nat) (f : Fr) : Sm σ (σ.handle b fr f) := by
 cases f with
 | sub t age fl => exact Sm.of (by simp only [Net.handle, Net.spread]; rw [(pushAll_keeps _ _).2.1, (learn_keeps _ _ _ _ _ _).2.2.2])
 | unsub t age => exact Sm.of (by simp only [Net.handle, Net.spread]; rw [(pushAll_keeps _ _).2.1, (forget_keeps _ _ _ _).2.2.2])
 | event e => exact Sm.happens σ b e fr
 | move t age fl old new =>
  simp only [Net.handle]
  split
  ·split
   ·exact Sm.of rfl
   ·exact Sm.of rfl
  ·exact Sm.of rfl
 | rest t evs m new =>
  simp only [Net.handle]
  split
  ·exact Sm.of rfl
  ·split
   ·exact Sm.refl _
   ·exact (((Sm.lose σ t m).trans (Sm.tells t evs _)).trans (Sm.tells t _ _)).trans (Sm.of rfl)
theorem Sm.del (σ : Net) (x y : Int) : Sm σ (σ.del x y) := by
 unfold Net.del
 split
 ·split
  ·rename_i f r hq
   exact (Sm.of (σ := σ) rfl).trans (Sm.handle { σ with q := put2 σ.q x.toNat y.toNat r } y.toNat (some x.toNat) f)
  ·exact Sm.refl _
 ·exact Sm.refl _
theorem Sm.backs (σ : Net) (c b k : Nat) : Sm σ (σ.backs c b k) := by
 unfold Net.backs
 split
 ·split
  ·exact Sm.refl _
  ·exact ((Sm.lose σ _ _).trans (Sm.tells _ _ _)).trans (Sm.of rfl)
 ·exact Sm.refl _
theorem Sm.comes (σ : Net) (c b old k : Nat) : Sm σ (σ.comes c b old k) := by
 simp only [Net.comes]
 split
 ·exact (Sm.setCl (σ := σ) (c := c) (x := { σ.cl c with age := put (σ.cl c).age k ((σ.cl c).age k + 1) }) ⟨rfl, rfl, rfl, rfl, rfl⟩).trans (Sm.of rfl)
 ·exact Sm.refl _
theorem attach_cl {c b : Nat} (h : σ.attachE c b = 0) (d : Nat) : (d ≠ c → CSame (σ.cl d) ((σ.attach c b).cl d)) ∧ (d = c → CSame { σ.cl c with here := some b, stays := (σ.cl c).stays + 1 } ((σ.attach c b).cl d)) := by
 have key : ∀ τ, Sm σ τ → (d ≠ c → CSame (σ.cl d) ((τ.arrive c b).cl d)) ∧ (d = c → CSame { σ.cl c with here := some b, stays := (σ.cl c).stays + 1 } ((τ.arrive c b).cl d)) := fun τ hs => by
  refine ⟨fun hd => ?_, fun hd => ?_⟩
  ·simp only [Net.arrive, Net.setCl, put_other _ _ hd]; exact hs d
  ·subst hd
   simp only [Net.arrive, Net.setCl, put_same]
   have := hs d
   exact ⟨rfl, by show (τ.cl d).stays + 1 = (σ.cl d).stays + 1; rw [this.stays], this.many, this.used, this.fl⟩
 unfold Net.attach
 rw [if_pos h]
 simp only [toNat_nat]
 unfold Net.attachN
 split
 ·exact key _ ((Sm.backs σ c b 0).trans (Sm.backs _ c b 1))
 ·split
  ·exact key _ ((Sm.backs σ c b 0).trans (Sm.backs _ c b 1))
  ·exact key _ ((Sm.comes σ c b _ 0).trans (Sm.comes _ c b _ 1))
theorem attach_same {c b : Int} (h : σ.attachE c b ≠ 0) : σ.attach c b = σ := by unfold Net.attach; rw [if_neg h]
theorem detach_same {c : Int} (h : σ.detachE c ≠ 0) : σ.detach c = σ := by unfold Net.detach; rw [if_neg h]
theorem sub_same {c : Int} {l : List Tst} (h : σ.subE c l ≠ 0) : σ.sub c l = σ := by unfold Net.sub; rw [if_neg h]
theorem unsub_same {c k : Int} (h : σ.unsubE c k ≠ 0) : σ.unsub c k = σ := by unfold Net.unsub; rw [if_neg h]
theorem pub_same {c f0 f1 f2 : Int} (h : σ.pubE c ≠ 0) : σ.pub c f0 f1 f2 = σ := by unfold Net.pub; rw [if_neg h]
theorem detach_cl {c : Nat} (h : σ.detachE c = 0) : σ.detach c = σ.setCl c { σ.cl c with here := none } := by unfold Net.detach; rw [if_pos h]; simp only [toNat_nat]
theorem pub_eq {c : Nat} (h : σ.pubE c = 0) (f0 f1 f2 : Int) : ∃ b, (σ.cl c).here = some b ∧ σ.pub c f0 f1 f2 = (σ.setCl c { σ.cl c with many := (σ.cl c).many + 1 }).happens b (σ.pubEv c f0 f1 f2) none := by
 have hz := (pubE_zero h).2.2.1
 simp only [toNat_nat] at hz
 obtain ⟨b, hb⟩ := Option.ne_none_iff_exists'.1 hz
 refine ⟨b, hb, ?_⟩
 unfold Net.pub
 rw [if_pos h]
 simp only [toNat_nat, hb]
theorem pub_cl {c : Nat} (h : σ.pubE c = 0) (f0 f1 f2 : Int) (d : Nat) : (d ≠ c → CSame (σ.cl d) ((σ.pub c f0 f1 f2).cl d)) ∧ (d = c → CSame { σ.cl c with many := (σ.cl c).many + 1 } ((σ.pub c f0 f1 f2).cl d)) := by
 obtain ⟨b, hb, he⟩ := pub_eq h f0 f1 f2
 rw [he]
 have h1 := Sm.happens (σ.setCl c { σ.cl c with many := (σ.cl c).many + 1 }) b (σ.pubEv c f0 f1 f2) none d
 refine ⟨fun hd => ?_, fun hd => ?_⟩
 ·simp only [Net.setCl, put_other _ _ hd] at h1; exact h1
 ·subst hd
  simp only [Net.setCl, put_same] at h1; exact h1
theorem sub_eq {c : Nat} {l : List Tst} (h : σ.subE c l = 0) : ∃ b, (σ.cl c).here = some b ∧ (σ.cl c).used (σ.slot c) = false ∧ σ.sub c l = σ.subN c b (σ.slot c) l := by
 have hz := subE_zero h
 simp only [toNat_nat] at hz
 obtain ⟨b, hb⟩ := Option.ne_none_iff_exists'.1 hz.2.2.2.1
 refine ⟨b, hb, hz.2.2.2.2.2.1, ?_⟩
 unfold Net.sub
 rw [if_pos h]
 simp only [toNat_nat, hb]
theorem sub_cl {c : Nat} {l : List Tst} (h : σ.subE c l = 0) : (σ.sub c l).cl = (σ.setCl c { σ.cl c with used := put (σ.cl c).used (σ.slot c) true, age := put (σ.cl c).age (σ.slot c) ((σ.cl c).age (σ.slot c) + 1), fl := put (σ.cl c).fl (σ.slot c) l, told := put (σ.cl c).told (σ.slot c) [] }).cl := by
 obtain ⟨b, _, _, he⟩ := sub_eq h
 rw [he]
 exact (pushAll_keeps _ _).2.1
theorem unsub_eq {c k : Nat} (h : σ.unsubE c k = 0) : ∃ b, (σ.cl c).here = some b ∧ (σ.cl c).used k = true ∧ k < 2 ∧ σ.unsub c k = ((σ.setCl c { σ.cl c with used := put (σ.cl c).used k false }).know b (2 * c + k) none).spread b none (.unsub (2 * c + k) ((σ.cl c).age k)) := by
 have hz := unsubE_zero h
 simp only [toNat_nat] at hz
 obtain ⟨b, hb⟩ := Option.ne_none_iff_exists'.1 hz.2.2.2.1
 refine ⟨b, hb, hz.2.2.2.2.2.1, by omega, ?_⟩
 unfold Net.unsub
 rw [if_pos h]
 simp only [toNat_nat, hb]
theorem unsub_cl {c k : Nat} (h : σ.unsubE c k = 0) : (σ.unsub c k).cl = (σ.setCl c { σ.cl c with used := put (σ.cl c).used k false }).cl := by
 obtain ⟨b, _, _, _, he⟩ := unsub_eq h
 rw [he]
 exact (pushAll_keeps _ _).2.1

theorem EvsOk.of {E : List News} (V : EvsOk E σ) (hm : ∀ c, c < 4 → (τ.cl c).many = (σ.cl c).many) (hs : ∀ c, c < 4 → 0 ≤ (τ.cl c).stays) : EvsOk E τ :=
 ⟨fun e he => by obtain ⟨p, h1, h2, h3, h4, h5⟩ := V.ev e he; exact ⟨p, h1, h2, h3, by rw [hm p h1]; exact h4, h5⟩, V.inc, fun c hc => ⟨by rw [hm c hc]; exact (V.low c hc).1, hs c hc⟩⟩
theorem EvsOk.sm {E : List News} (V : EvsOk E σ) (h : Sm σ τ) : EvsOk E τ := V.of (fun c _ => (h c).many) (fun c hc => by rw [(h c).stays]; exact (V.low c hc).2)
end

structure Core (E : List News) (G : Nat → Nat → List News) (σ : Net) : Prop where
 opn : σ.closed = false
 tells : Tells G σ
 pubs : Pubs E σ
 evs : EvsOk E σ

section
variable {E : List News} {G : Nat → Nat → List News} {σ : Net}
theorem handle_closed (b : Nat) (fr : Option Nat) (f : Fr) : (σ.handle b fr f).closed = σ.closed := by
 cases f with
 | sub t age fl => simp only [Net.handle, Net.spread]; rw [(pushAll_keeps _ _).2.2, (learn_keeps _ _ _ _ _ _).2.2.1]
 | unsub t age => simp only [Net.handle, Net.spread]; rw [(pushAll_keeps _ _).2.2, (forget_keeps _ _ _ _).2.2.1]
 | event e => exact (pushAll_keeps _ _).2.2.trans (hears_keeps b e (List.range 8) σ).2.2
 | move t age fl old new =>
  simp only [Net.handle]
  split
  ·split <;> rfl
  ·rfl
 | rest t evs m new =>
  simp only [Net.handle]
  split
  ·rfl
  ·split
   ·rfl
   ·exact (tells_keeps t _ _).2.2.1.trans (tells_keeps t evs _).2.2.1
theorem del_closed (x y : Int) : (σ.del x y).closed = σ.closed := by
 unfold Net.del
 split
 ·split
  ·exact handle_closed (σ := { σ with q := _ }) _ _ _
  ·rfl
 ·rfl
theorem Core.del (C : Core E G σ) (L : Live σ) (x y : Int) : Core E G (σ.del x y) := ⟨(del_closed x y).trans C.opn, C.tells.del L x y, C.pubs.del x y, C.evs.sm (Sm.del σ x y)⟩
theorem attach_closed (c b : Int) : (σ.attach c b).closed = σ.closed := by
 unfold Net.attach
 split
 ·unfold Net.attachN
  split
  ·exact (backs_keeps c.toNat b.toNat 1).2.2.1.trans (backs_keeps c.toNat b.toNat 0).2.2.1
  ·split
   ·exact (backs_keeps c.toNat b.toNat 1).2.2.1.trans (backs_keeps c.toNat b.toNat 0).2.2.1
   ·exact (comes_keeps c.toNat b.toNat _ 1).2.1.trans (comes_keeps c.toNat b.toNat _ 0).2.1
 ·rfl
theorem Core.attach (C : Core E G σ) (L : Live σ) {c b : Nat} (hE : σ.attachE c b = 0) : Core E G (σ.attach c b) := by
 refine ⟨(attach_closed _ _).trans C.opn, C.tells.attach L c b, C.pubs.attach c b, C.evs.of (fun d hd => ?_) (fun d hd => ?_)⟩
 ·by_cases e : d = c
  ·exact ((attach_cl hE d).2 e).many.trans (by rw [e])
  ·exact ((attach_cl hE d).1 e).many
 ·by_cases e : d = c
  ·rw [((attach_cl hE d).2 e).stays]
   have := (C.evs.low d hd).2
   subst e
   show 0 ≤ (σ.cl d).stays + 1
   omega
  ·rw [((attach_cl hE d).1 e).stays]; exact (C.evs.low d hd).2
theorem Core.detach (C : Core E G σ) {c : Nat} (hE : σ.detachE c = 0) : Core E G (σ.detach c) := by
 refine ⟨?_, C.tells.detach c, C.pubs.detach c, ?_⟩
 ·rw [detach_cl hE]; exact C.opn
 ·rw [detach_cl hE]
  refine C.evs.of (fun d hd => ?_) (fun d hd => ?_)
  ·by_cases e : d = c
   ·subst e; simp [Net.setCl]
   ·simp [Net.setCl, put_other _ _ e]
  ·by_cases e : d = c
   ·subst e; simp only [Net.setCl, put_same]; exact (C.evs.low d hd).2
   ·simp only [Net.setCl, put_other _ _ e]; exact (C.evs.low d hd).2
theorem Core.pub (C : Core E G σ) (L : Live σ) {c : Nat} (hc : c < 4) (hE : σ.pubE c = 0) (f0 f1 f2 : Int) : Core (E ++ [σ.pubEv c f0 f1 f2]) G (σ.pub c f0 f1 f2) := by
 have hlow := C.evs.low c hc
 have hcl := fun d => pub_cl hE f0 f1 f2 d
 have hmany : ∀ d, d < 4 → ((σ.pub c f0 f1 f2).cl d).many = if d = c then (σ.cl c).many + 1 else (σ.cl d).many := fun d hd => by
  by_cases e : d = c
  ·rw [if_pos e]; exact ((hcl d).2 e).many
  ·rw [if_neg e]; exact ((hcl d).1 e).many
 have hev : (σ.pubEv c f0 f1 f2).ev.pub = (c : Nat) ∧ (σ.pubEv c f0 f1 f2).ev.num = (σ.cl c).many + 1 ∧ (σ.pubEv c f0 f1 f2).stay = (σ.cl c).stays := by simp [Net.pubEv]
 refine ⟨?_, C.tells.pub L c f0 f1 f2 (by omega), ?_, ⟨fun e he => ?_, ?_, fun d hd => ⟨?_, ?_⟩⟩⟩
 ·obtain ⟨b, _, he⟩ := pub_eq hE f0 f1 f2
  rw [he]
  have h1 := hears_keeps b (σ.pubEv c f0 f1 f2) (List.range 8) (σ.setCl c { σ.cl c with many := (σ.cl c).many + 1 })
  exact ((pushAll_keeps _ _).2.2.trans h1.2.2).trans C.opn
 ·obtain ⟨b, _, he⟩ := pub_eq hE f0 f1 f2
  rw [he]
  have P1 : Pubs (E ++ [σ.pubEv c f0 f1 f2]) (σ.setCl c { σ.cl c with many := (σ.cl c).many + 1 }) := (C.pubs.mono (fun e he => List.mem_append_left _ he)).setCl (fun k e he => List.mem_append_left _ (C.pubs.told c k e he))
  exact P1.happens b (List.mem_append_right _ (List.mem_singleton.2 rfl)) none
 ·rcases List.mem_append.1 he with he | he
  ·obtain ⟨p, h1, h2, h3, h4, h5⟩ := C.evs.ev e he
   refine ⟨p, h1, h2, h3, ?_, h5⟩
   rw [hmany p h1]
   split
   ·rename_i e1; subst e1; omega
   ·exact h4
  ·rw [List.mem_singleton.1 he]
   exact ⟨c, hc, hev.1, by rw [hev.2.1]; omega, by rw [hmany c hc, if_pos rfl, hev.2.1]; exact Int.le_refl _, by rw [hev.2.2]; exact hlow.2⟩
 ·refine List.pairwise_append.2 ⟨C.evs.inc, List.pairwise_singleton _ _, fun o ho e he => ?_⟩
  rw [List.mem_singleton.1 he]
  intro hp
  obtain ⟨p, h1, h2, h3, h4, h5⟩ := C.evs.ev o ho
  have : p = c := by have := hev.1; omega
  subst this
  rw [hev.2.1]; omega
 ·rw [hmany d hd]
  split
  ·omega
  ·exact (C.evs.low d hd).1
 ·by_cases e : d = c
  ·rw [((hcl d).2 e).stays]; subst e; exact hlow.2
  ·rw [((hcl d).1 e).stays]; exact (C.evs.low d hd).2
theorem Core.sub (C : Core E G σ) {c : Nat} {l : List Tst} (hl : (σ.cl c).log = []) (hE : σ.subE c l = 0) : Core E (put G c (put (G c) (σ.slot c) [])) (σ.sub c l) := by
 obtain ⟨b, hb, hu, he⟩ := sub_eq hE
 have hcl := sub_cl hE
 refine ⟨?_, ?_, C.pubs.sub c l, ?_⟩
 ·rw [he]; exact (pushAll_keeps _ _).2.2.trans C.opn
 ·rw [he]; exact C.tells.subN l hl
 ·refine C.evs.of (fun d hd => ?_) (fun d hd => ?_)
  ·rw [hcl]
   by_cases e : d = c
   ·subst e; simp [Net.setCl]
   ·simp [Net.setCl, put_other _ _ e]
  ·rw [hcl]
   by_cases e : d = c
   ·subst e; simp only [Net.setCl, put_same]; exact (C.evs.low d hd).2
   ·simp only [Net.setCl, put_other _ _ e]; exact (C.evs.low d hd).2
theorem Core.unsub (C : Core E G σ) {c k : Nat} (hl : (σ.cl c).log = []) (hE : σ.unsubE c k = 0) : Core E G (σ.unsub c k) := by
 obtain ⟨b, hb, hu, hk, he⟩ := unsub_eq hE
 have hcl := unsub_cl hE
 refine ⟨?_, ?_, C.pubs.unsub c k, ?_⟩
 ·rw [he]; exact (pushAll_keeps _ _).2.2.trans C.opn
 ·rw [he]; exact C.tells.unsubN hl _
 ·refine C.evs.of (fun d hd => ?_) (fun d hd => ?_)
  ·rw [hcl]
   by_cases e : d = c
   ·subst e; simp [Net.setCl]
   ·simp [Net.setCl, put_other _ _ e]
  ·rw [hcl]
   by_cases e : d = c
   ·subst e; simp only [Net.setCl, put_same]; exact (C.evs.low d hd).2
   ·simp only [Net.setCl, put_other _ _ e]; exact (C.evs.low d hd).2
theorem Core.read (C : Core E G σ) {c : Nat} (hc : c < 4) : Core E (readG G σ c) (σ.setCl c { σ.cl c with log := [] }) :=
 ⟨C.opn, C.tells.read hc, C.pubs.setCl (fun k e he => C.pubs.told c k e he), C.evs.sm (Sm.setCl ⟨rfl, rfl, rfl, rfl, rfl⟩)⟩
theorem core_new {par : List Nat} : Core [] (fun _ _ => []) (newNet par) :=
 ⟨rfl, fun c _ => ⟨fun k => List.Pairwise.nil, fun k _ hu => (by cases hu), fun en hen => (by cases hen), fun k _ hu => (by cases hu)⟩, ⟨fun x y f hf => (by cases hf), fun b s f hf => (by cases hf), fun c k e he => (by cases he)⟩, ⟨fun e he => (by cases he), List.Pairwise.nil, fun c _ => ⟨Int.le_refl _, Int.le_refl _⟩⟩⟩
end

def Tk.read (t : Tk) (en : Ent) : Tk := if en.lost ≠ 0 then { t with lost := wrap64 (t.lost + en.lost) } else { t with told := t.told ++ [en.ev] }
def HM.hear (H : HM) (c : Nat) (en : Ent) : HM := { H with subs := put H.subs (2 * c + en.slot.toNat) ((H.subs (2 * c + en.slot.toNat)).read en) }
def HM.reads (H : HM) (c : Nat) (L : List Ent) : HM := L.foldl (fun H en => H.hear c en) H

theorem reads_take (H : HM) (c : Nat) {L : List Ent} {i : Nat} {en : Ent} (h : L[i]? = some en) : H.reads c (L.take (i + 1)) = (H.reads c (L.take i)).hear c en := by
 rw [List.take_add_one, h]
 simp [HM.reads]

structure MayTell (E : List News) (t : Tk) (e : Ev) : Prop where
 good : goodFilter t.fl = true
 len : t.told.length ≤ 2000000000000
 stay : 0 ≤ stayOf E e
 meet : meets t.fl e = true
 new : ∀ o, o ∈ t.told → o ≠ e ∧ ¬ (o.pub = e.pub ∧ e.num ≤ o.num ∧ stayOf E o = stayOf E e)
def EntOk (H : HM) (c : Nat) (en : Ent) : Prop := ∃ k : Nat, k < 2 ∧ en.slot = (k : Int) ∧ (H.subs (2 * c + k)).on = true ∧ ((0 < en.lost ∧ en.ev = Ev.zero) ∨ (en.lost = 0 ∧ MayTell H.evs (H.subs (2 * c + k)) en.ev))

def lostOf (L : List Ent) (k : Nat) (z : Int) : Int := (L.filter fun en => decide (en.slot = (k : Int) ∧ en.lost ≠ 0)).foldl (fun z en => wrap64 (z + en.lost)) z

theorem reads_sub (c : Nat) : ∀ (L : List Ent) (H : HM), (∀ en, en ∈ L → ∃ k : Nat, k < 2 ∧ en.slot = (k : Int)) →
  (H.reads c L).evs = H.evs ∧ (H.reads c L).num = H.num ∧ (H.reads c L).many = H.many ∧ (∀ s, s / 2 ≠ c → (H.reads c L).subs s = H.subs s) ∧
  ∀ k, k < 2 → (H.reads c L).subs (2 * c + k) = { H.subs (2 * c + k) with told := (H.subs (2 * c + k)).told ++ logEv L k, lost := lostOf L k (H.subs (2 * c + k)).lost }
 | [], H, _ => ⟨rfl, rfl, rfl, fun _ _ => rfl, fun k _ => by simp [HM.reads, logEv, lostOf]⟩
 | en :: L, H, h => by
  obtain ⟨k0, hk0, he⟩ := h en (List.mem_cons_self ..)
  obtain ⟨h1, h2, h3, h4, h5⟩ := reads_sub c L (H.hear c en) (fun e he => h e (List.mem_cons_of_mem _ he))
  have ht : en.slot.toNat = k0 := by omega
  refine ⟨h1, h2, h3, fun s hs => ?_, fun k hk => ?_⟩
  ·show ((H.hear c en).reads c L).subs s = _
   rw [h4 s hs]
   exact put_other _ _ (by rw [ht]; omega)
  ·show ((H.hear c en).reads c L).subs (2 * c + k) = _
   rw [h5 k hk]
   by_cases e : k = k0
   ·subst e
    have hs : (H.hear c en).subs (2 * c + k) = (H.subs (2 * c + k)).read en := by simp only [HM.hear, ht, put_same]
    rw [hs]
    unfold Tk.read
    by_cases hl : en.lost = 0
    ·simp [hl, logEv, lostOf, he]
    ·simp [hl, logEv, lostOf, he]
   ·have hs : (H.hear c en).subs (2 * c + k) = H.subs (2 * c + k) := put_other _ _ (by rw [ht]; omega)
    have hne : ¬ ((k0 : Int) = (k : Int)) := by omega
    rw [hs]
    simp [logEv, lostOf, he, hne]

theorem stayOf_mem {E : List News} {σ : Net} (V : EvsOk E σ) {e : News} (he : e ∈ E) : stayOf E e.ev = e.stay := by
 have key : ∀ l : List News, (∀ n, n ∈ l → n ∈ E) → e ∈ l → stayOf l e.ev = e.stay := by
  intro l
  induction l with
  | nil => intro _ h; cases h
  | cons a l ih =>
   intro hs h
   unfold stayOf
   by_cases ha : a.ev = e.ev
   ·rw [if_pos ha, V.uniq (hs a (List.mem_cons_self ..)) he ha]
   ·rw [if_neg ha]
    refine ih (fun n hn => hs n (List.mem_cons_of_mem _ hn)) ?_
    rcases List.mem_cons.1 h with rfl | h
    ·exact absurd rfl ha
    ·exact h
 exact key E (fun _ h => h) he

def atZ : Option Nat → Int
 | none => -1
 | some b => b

structure Book (E : List News) (G : Nat → Nat → List News) (σ : Net) (H : HM) : Prop where
 core : Core E G σ
 many : H.many = σ.n
 evs : H.evs = E
 at_ : ∀ c, c < 4 → H.num c = atZ (σ.cl c).here
 stay : ∀ c, c < 4 → H.num (4 + c) = (σ.cl c).stays
 num : ∀ c, c < 4 → H.num (8 + c) = (σ.cl c).many
 on : ∀ c k, c < 4 → k < 2 → (H.subs (2 * c + k)).on = (σ.cl c).used k
 sub : ∀ c k, c < 4 → k < 2 → (σ.cl c).used k = true → (H.subs (2 * c + k)).fl = (σ.cl c).fl k ∧ (H.subs (2 * c + k)).told = (G c k).map fun e => e.ev

section
variable {E : List News} {G : Nat → Nat → List News} {σ : Net} {H : HM}

theorem Book.sm (B : Book E G σ H) {τ : Net} (h : Sm σ τ) (hn : τ.n = σ.n) (C : Core E G τ) : Book E G τ H :=
 ⟨C, B.many.trans hn.symm, B.evs, fun c hc => by rw [(h c).here]; exact B.at_ c hc, fun c hc => by rw [(h c).stays]; exact B.stay c hc, fun c hc => by rw [(h c).many]; exact B.num c hc, fun c k hc hk => by rw [(h c).used]; exact B.on c k hc hk, fun c k hc hk => by rw [(h c).used, (h c).fl]; exact B.sub c k hc hk⟩
theorem Book.known (B : Book E G σ H) : Book E G σ H.known := by
 have hs : ∀ s, (H.known.subs s).on = (H.subs s).on ∧ (H.known.subs s).fl = (H.subs s).fl ∧ (H.known.subs s).told = (H.subs s).told := fun s => by
  simp only [HM.known, HM.knownTo]
  split
  ·unfold Tk.known; split <;> exact ⟨rfl, rfl, rfl⟩
  ·exact ⟨rfl, rfl, rfl⟩
 exact ⟨B.core, B.many, B.evs, B.at_, B.stay, B.num, fun c k hc hk => by rw [(hs _).1]; exact B.on c k hc hk, fun c k hc hk hu => by rw [(hs _).2.1, (hs _).2.2]; exact B.sub c k hc hk hu⟩
theorem del_n (x y : Int) (_ : Good σ) : (σ.del x y).n = σ.n := by
 have : ∀ b fr f (τ : Net), (τ.handle b fr f).par = τ.par := fun b fr f τ => by
  cases f with
  | sub t age fl => simp only [Net.handle, Net.spread]; rw [pushAll_par, (learn_keeps _ _ _ _ _ _).1]
  | unsub t age => simp only [Net.handle, Net.spread]; rw [pushAll_par, (forget_keeps _ _ _ _).1]
  | event e => exact (pushAll_par _ _ _ _).trans (hears_keeps b e (List.range 8) τ).1
  | move t age fl old new =>
   simp only [Net.handle]
   split
   ·split <;> rfl
   ·rfl
  | rest t evs m new =>
   simp only [Net.handle]
   split
   ·rfl
   ·split
    ·rfl
    ·exact (tells_keeps t _ _).1.trans (tells_keeps t evs _).1
 unfold Net.n
 unfold Net.del
 split
 ·split
  ·exact congrArg size (this _ _ _ _)
  ·rfl
 ·rfl
theorem Book.del (B : Book E G σ H) (L : Live σ) (x y : Int) : Book E G (σ.del x y) H := B.sm (Sm.del σ x y) (del_n x y L.good) (B.core.del L x y)

def BookI (E : List News) (G : Nat → Nat → List News) (H : HM) (m : Nat) (τ : Net) : Prop := Book E G τ H ∧ Room τ m
theorem book_runs {m : Nat} (hm : m < 2000000000000) : Runs (BookI E G H m) m := by
 refine ⟨fun τ h => ⟨h.2.fit, hm⟩, fun τ h => h.1.core.opn, fun τ x y f l h hq => ⟨h.1.del h.2.fit.live x y, h.2.del h.1.core.opn hq⟩⟩

theorem Book.ents (B : Book E G σ H) (L : Live σ) {c : Nat} (hc : c < 4) (hlen : ∀ k, k < 2 → ((σ.cl c).told k).length ≤ 2000000000000) {i : Nat} {en : Ent} (hi : (σ.cl c).log[i]? = some en) : EntOk (H.reads c ((σ.cl c).log.take i)) c en := by
 have T := B.core.tells c hc
 have V := B.core.evs
 obtain ⟨k, hk, hs, hu, hl⟩ := T.ents en (List.mem_of_getElem? hi)
 have hsl : ∀ e, e ∈ (σ.cl c).log.take i → ∃ k : Nat, k < 2 ∧ e.slot = (k : Int) := fun e he => by
  obtain ⟨k, h1, h2, _⟩ := T.ents e (List.mem_of_mem_take he)
  exact ⟨k, h1, h2⟩
 obtain ⟨r1, r2, r3, r4, r5⟩ := reads_sub c ((σ.cl c).log.take i) H hsl
 have hon : ((H.reads c ((σ.cl c).log.take i)).subs (2 * c + k)).on = true := by rw [r5 k hk]; exact (B.on c k hc hk).trans hu
 refine ⟨k, hk, hs, hon, ?_⟩
 rcases hl with hl | hl
 ·right
  refine ⟨hl, ?_⟩
  rw [r1, r5 k hk, B.evs]
  obtain ⟨hfl, htd⟩ := B.sub c k hc hk hu
  obtain ⟨U, hU1, hU2⟩ := T.read k hk hu
  have hsplit : (σ.cl c).log = (σ.cl c).log.take i ++ en :: (σ.cl c).log.drop (i + 1) := by
   have h1 := List.getElem?_eq_some_iff.1 hi
   rw [← h1.2, List.getElem_cons_drop, List.take_append_drop]
  have hU3 : U.map (fun e => e.ev) = logEv ((σ.cl c).log.take i) k ++ en.ev :: logEv ((σ.cl c).log.drop (i + 1)) k := by
   rw [← hU2]
   conv => lhs; rw [hsplit]
   rw [logEv_append]
   simp [logEv, hs, hl]
  obtain ⟨U1, U2, hUs, h1, h2⟩ := List.map_eq_append_iff.1 hU3
  obtain ⟨n, U3, hU2', h3, h4⟩ := List.map_eq_cons_iff.1 h2
  have hn : n ∈ (σ.cl c).told k := by rw [hU1, hUs, hU2']; simp
  have hnE := B.core.pubs.told c k n hn
  have htold : (H.subs (2 * c + k)).told ++ logEv ((σ.cl c).log.take i) k = (G c k ++ U1).map fun e => e.ev := by rw [htd, List.map_append, h1]
  have hrise := T.rise k
  have hwhole : (σ.cl c).told k = (G c k ++ U1) ++ n :: U3 := by rw [hU1, hUs, hU2']; simp
  rw [hwhole] at hrise
  have hrise := (List.pairwise_append.1 hrise).2.2
  have hst : stayOf E en.ev = n.stay := by rw [← h3]; exact stayOf_mem V hnE
  refine ⟨?_, ?_, ?_, ?_, fun o ho => ?_⟩
  ·show goodFilter (H.subs (2 * c + k)).fl = true
   rw [hfl]; exact (L.good.clis c hc).fil k hu
  ·show ((H.subs (2 * c + k)).told ++ logEv ((σ.cl c).log.take i) k).length ≤ _
   rw [htold, List.length_map]
   have := hlen k hk
   rw [hwhole, List.length_append] at this
   omega
  ·rw [hst]
   obtain ⟨_, _, _, _, _, h5⟩ := V.ev n hnE
   exact h5
  ·show meets (H.subs (2 * c + k)).fl en.ev = true
   rw [hfl, ← h3]; exact T.want k hk hu n hn
  ·have ho : o ∈ (H.subs (2 * c + k)).told ++ logEv ((σ.cl c).log.take i) k := ho
   rw [htold, List.mem_map] at ho
   obtain ⟨p, hp, rfl⟩ := ho
   have hpl := hrise p hp n (List.mem_cons_self ..)
   have hpE := B.core.pubs.told c k p (by rw [hwhole]; exact List.mem_append_left _ hp)
   refine ⟨fun e1 => ?_, fun ⟨e1, e2, e3⟩ => ?_⟩
   ·rw [← h3] at e1
    have := V.uniq hpE hnE e1
    subst this
    exact hpl ⟨rfl, rfl, Int.le_refl _⟩
   ·rw [stayOf_mem V hpE, hst] at e3
    rw [← h3] at e1 e2
    exact hpl ⟨e1, e3, e2⟩
 ·exact Or.inl ⟨hl.1, hl.2⟩

theorem Book.read (B : Book E G σ H) {c : Nat} (hc : c < 4) : Book E (readG G σ c) (σ.setCl c { σ.cl c with log := [] }) (H.reads c (σ.cl c).log) := by
 have T := B.core.tells c hc
 obtain ⟨r1, r2, r3, r4, r5⟩ := reads_sub c (σ.cl c).log H (fun e he => by obtain ⟨k, h1, h2, _⟩ := T.ents e he; exact ⟨k, h1, h2⟩)
 have hS : Sm σ (σ.setCl c { σ.cl c with log := [] }) := Sm.setCl ⟨rfl, rfl, rfl, rfl, rfl⟩
 refine ⟨B.core.read hc, r3.trans B.many, r1.trans B.evs, fun d hd => by rw [r2, (hS d).here]; exact B.at_ d hd, fun d hd => by rw [r2, (hS d).stays]; exact B.stay d hd, fun d hd => by rw [r2, (hS d).many]; exact B.num d hd, fun d k hd hk => ?_, fun d k hd hk hu => ?_⟩
 ·rw [(hS d).used]
  by_cases e : d = c
  ·subst e; rw [r5 k hk]; exact B.on d k hd hk
  ·rw [r4 _ (by omega)]; exact B.on d k hd hk
 ·rw [(hS d).used] at hu
  rw [(hS d).fl]
  by_cases e : d = c
  ·subst e
   rw [r5 k hk]
   obtain ⟨h1, h2⟩ := B.sub d k hd hk hu
   obtain ⟨U, hU1, hU2⟩ := T.read k hk hu
   refine ⟨h1, ?_⟩
   show (H.subs (2 * d + k)).told ++ logEv (σ.cl d).log k = _
   rw [h2, hU2, readG, put_same, hU1, List.map_append]
  ·rw [r4 _ (by omega), readG, put_other _ _ e]; exact B.sub d k hd hk hu
end

set_option maxRecDepth 100000 in
set_option maxHeartbeats 4000000 in
theorem fresh_all (w : World) (hb q : Nat) (l : List News) (ea : Option Addr) (ec : Nat) (e : Ev) (hev : w.cell? ⟨hb, 2, none⟩ = some (.slice ea l.length ec)) (hl : l.length ≤ 2199023255552) (hn : NewsAt w ea l)
  (hon : w.cell? ⟨hb, q, none⟩ = some (.bool true)) (fl : List Tst) (fa : Option Addr) (fc : Nat) (hfl : w.cell? ⟨hb, q + 1, none⟩ = some (.slice fa fl.length fc)) (hft : TestsAt w fa fl) (hfg : goodFilter fl = true)
  (told : List Ev) (ta : Option Addr) (tc : Nat) (htd : w.cell? ⟨hb, q + 3, none⟩ = some (.slice ta told.length tc)) (htl : told.length ≤ 2199023255552) (hta : EvsAt w ta told)
  (hst : 0 ≤ stayOf l e) (hm : meets fl e = true) (hr : ∀ o, o ∈ told → o ≠ e ∧ ¬ (o.pub = e.pub ∧ e.num ≤ o.num ∧ stayOf l o = stayOf l e)) :
  Calls Try.prog 56 #[ptr hb, .pointer (some ⟨hb, q, none⟩), .agg #[int e.pub, int e.num, int e.f0, int e.f1, int e.f2]] w fun r w' => r = .returned (.bool true) ∧ Calm w w' := by
 obtain ⟨z, hz⟩ : ∃ z, z = stayOf l e := ⟨_, rfl⟩
 rw [← hz] at hst hr
 obtain ⟨W, hW⟩ : ∃ W, w.alloc (.cells #[int e.pub, int e.num, int e.f0, int e.f1, int e.f2] 63) = W := ⟨_, rfl⟩
 have hbx : W.heap[w.heap.size]? = some (.cells #[int e.pub, int e.num, int e.f0, int e.f1, int e.f2] 63) := by rw [← hW]; exact heap_alloc_new w _
 have hcal : Calm w W := by rw [← hW]; exact (Touch.refl _ _).alloc _
 have HEV := hide (hcal.cell (p := ⟨hb, 2, none⟩) (fun f => f) hev)
 have HN := hide (hn.calm hcal)
 have HON := hide (hcal.cell (p := ⟨hb, q, none⟩) (fun f => f) hon)
 have HFL := hide (hcal.cell (p := ⟨hb, q + 1, none⟩) (fun f => f) hfl)
 have HTD := hide (hcal.cell (p := ⟨hb, q + 3, none⟩) (fun f => f) htd)
 have HFT := hide (hft.calm hcal)
 have HTA := hide (hta.calm hcal)
 have HFG := hide hfg
 have HBX := hide hbx
 have HC := hide hcal
 have HL := hide hl
 have HTL := hide htl
 have HZ := hide hz
 have HM := hide hm
 have HR := hide hr
 have bx0 : ∀ j v, [int e.pub, int e.num, int e.f0, int e.f1, int e.f2][j]? = some v → W.cell? ⟨w.heap.size, j, none⟩ = some v := fun j v hj => ((box_cell hbx j).trans (by simpa using hj))
 have BX0 := hide bx0
 clear hbx hcal hev hn hl hon hfl htd hft hta hfg htl hz hm hr bx0
 have x0 := unhide BX0 0 _ rfl
 have x1 := unhide BX0 1 _ rfl
 have x2 := unhide BX0 2 _ rfl
 have x3 := unhide BX0 3 _ rfl
 have x4 := unhide BX0 4 _ rfl
 go_enter Try.func56, Try.ntmps56
 go_wp2_with fail
 refine (stay_walk W hb l ea ec e (unhide HEV) (unhide HL) (unhide HN)).mono ?_
 rw [← unhide HZ]
 rintro r w1 ⟨rfl, ht1⟩
 have bx1 : ∀ j v, [int e.pub, int e.num, int e.f0, int e.f1, int e.f2][j]? = some v → w1.cell? ⟨w.heap.size, j, none⟩ = some v := fun j v hj => ht1.cell (p := ⟨w.heap.size, j, none⟩) (fun f => f) (unhide BX0 j v hj)
 clear x0 x1 x2 x3 x4 hW
 have x2 := bx1 2 _ rfl
 have x3 := bx1 3 _ rfl
 have x4 := bx1 4 _ rfl
 have hfl := ht1.cell (p := ⟨hb, q + 1, none⟩) (fun f => f) (unhide HFL)
 have HT1 := hide ht1
 clear bx1 ht1
 go_wp2_with fail
 go_cut [8] (fun s wx => s = .bool true ∧ Calm W wx)
 case first =>
  go_region_with (go_at_call 19; refine (keepMeets_any fl e fa fc _ (unhide HFG) ((unhide HFT).calm (((unhide HT1)).drew))).mono ?_; rw [unhide HM]; rintro r w2 ⟨rfl, ht2⟩)
  all_goals go_wp2_with fail
  all_goals go_meet
  all_goals exact ⟨rfl, ((unhide HT1).drew).calm ht2⟩
 case rest =>
  obtain ⟨rfl, ht2⟩ := hcut
  have hon := ht2.cell (p := ⟨hb, q, none⟩) (fun f => f) (unhide HON)
  have HT2 := hide ht2
  clear ht2 x2 x3 x4 hfl HT1
  go_wp2_with fail
  go_loopw [9] (fun i wr => ∃ k : Nat, k ≤ told.length ∧ i = int k ∧ Calm W wr) (fun i _ => told.length - (intOf i).toNat)
  case atStart => exact ⟨0, by omega, rfl, unhide HT2⟩
  case round =>
   obtain ⟨k, hk, rfl, ht⟩ := hrel
   have htd := ht.cell (p := ⟨hb, q + 3, none⟩) (fun f => f) (unhide HTD)
   have htl : (told.length : Int) ≤ 2199023255552 := by have := unhide HTL; omega
   have HT := hide ht
   clear hon
   by_cases hlt : k < told.length
   ·obtain ⟨n, hn⟩ : ∃ n, told[k]? = some n := ⟨_, List.getElem?_eq_getElem hlt⟩
    obtain ⟨g, rfl, c0, c1, c2, c3, c4⟩ := (unhide HTA).calm ht k n hn
    have hki : (k : Int) < told.length := by omega
    have hrr := unhide HR n (List.mem_of_getElem? hn)
    obtain ⟨W3, hW3⟩ : ∃ W3, wr.alloc (.cells #[int n.pub, int n.num, int n.f0, int n.f1, int n.f2] 63) = W3 := ⟨_, rfl⟩
    have ht3 : Calm W W3 := by rw [← hW3]; exact ht.alloc _
    have hbx3 : W3.heap[wr.heap.size]? = some (.cells #[int n.pub, int n.num, int n.f0, int n.f1, int n.f2] 63) := by rw [← hW3]; exact heap_alloc_new _ _
    have o0 : W3.cell? ⟨wr.heap.size, 0, none⟩ = some (int n.pub) := box_cell hbx3 0
    have o1 : W3.cell? ⟨wr.heap.size, 1, none⟩ = some (int n.num) := box_cell hbx3 1
    have o2 : W3.cell? ⟨wr.heap.size, 2, none⟩ = some (int n.f0) := box_cell hbx3 2
    have o3 : W3.cell? ⟨wr.heap.size, 3, none⟩ = some (int n.f1) := box_cell hbx3 3
    have o4 : W3.cell? ⟨wr.heap.size, 4, none⟩ = some (int n.f2) := box_cell hbx3 4
    have bx3 : ∀ j v, [int e.pub, int e.num, int e.f0, int e.f1, int e.f2][j]? = some v → W3.cell? ⟨w.heap.size, j, none⟩ = some v := fun j v hj => ht3.cell (p := ⟨w.heap.size, j, none⟩) (fun f => f) (unhide BX0 j v hj)
    have x0 := bx3 0 _ rfl
    have x1 := bx3 1 _ rfl
    have x2 := bx3 2 _ rfl
    have x3 := bx3 3 _ rfl
    have x4 := bx3 4 _ rfl
    have HT3 := hide ht3
    have HBX3 : Hid (∀ j v, [int n.pub, int n.num, int n.f0, int n.f1, int n.f2][j]? = some v → W3.cell? ⟨wr.heap.size, j, none⟩ = some v) := fun j v hj => ((box_cell hbx3 j).trans (by simpa using hj))
    clear hn ht bx3 hbx3 ht3
    have heq := run_equal23b
    obtain ⟨hne, hno⟩ := hrr
    by_cases hp : n.pub = e.pub
    ·by_cases hnum : e.num ≤ n.num
     ·have hsn : ¬ stayOf l n = z := fun h => hno ⟨hp, hnum, h⟩
      have HSN := hide hsn
      have HNE := hide hne
      have HP := hide hp
      have HNUM := hide hnum
      have hpb : (n.pub == e.pub) = true := by rw [beq_dec]; exact decide_eq_true hp
      clear hsn hne hno hp
      go_wp2_with fail
      refine (stay_walk W3 hb l ea ec n ((unhide HT3).cell (p := ⟨hb, 2, none⟩) (fun f => f) (unhide HEV)) (unhide HL) ((unhide HN).calm (unhide HT3))).mono ?_
      rintro r w5 ⟨rfl, ht5⟩
      have HT5 := hide ((unhide HT3).calm ht5)
      have x0 := ht5.cell (p := ⟨w.heap.size, 0, none⟩) (fun f => f) x0
      have x1 := ht5.cell (p := ⟨w.heap.size, 1, none⟩) (fun f => f) x1
      have x2 := ht5.cell (p := ⟨w.heap.size, 2, none⟩) (fun f => f) x2
      have x3 := ht5.cell (p := ⟨w.heap.size, 3, none⟩) (fun f => f) x3
      have x4 := ht5.cell (p := ⟨w.heap.size, 4, none⟩) (fun f => f) x4
      have y0 := ht5.cell (p := ⟨wr.heap.size, 0, none⟩) (fun f => f) o0
      have y1 := ht5.cell (p := ⟨wr.heap.size, 1, none⟩) (fun f => f) o1
      have y2 := ht5.cell (p := ⟨wr.heap.size, 2, none⟩) (fun f => f) o2
      have y3 := ht5.cell (p := ⟨wr.heap.size, 3, none⟩) (fun f => f) o3
      have y4 := ht5.cell (p := ⟨wr.heap.size, 4, none⟩) (fun f => f) o4
      have hsb : (stayOf l n == z) = false := by rw [beq_dec]; exact decide_eq_false (unhide HSN)
      clear o0 o1 o2 o3 o4 c0 c1 c2 c3 c4 ht5 hW3 htd
      rcases ev_ne (unhide HNE) with hq | ⟨_, hq⟩ | ⟨_, hq1, hq⟩
      ·exact absurd (unhide HP) hq
      ·have hqb : (n.num == e.num) = false := by rw [beq_dec]; exact decide_eq_false hq
       go_wp2
       go_roundw
       case rel => exact ⟨k + 1, by omega, by go_num, unhide HT5⟩
       case measure => simp [intOf]; omega
      ·rw [hq1] at y1
       go_wp2
       go_roundw
       case rel => exact ⟨k + 1, by omega, by go_num, unhide HT5⟩
       case measure => simp [intOf]; omega
     ·have hnum : n.num < e.num := by omega
      have hqb : (n.num == e.num) = false := by rw [beq_dec]; exact decide_eq_false (by omega)
      rw [hp] at o0 c0 hW3
      clear hp hne hno
      go_wp2
      go_roundw
      case rel => exact ⟨k + 1, by omega, by go_num, unhide HT3⟩
      case measure => simp [intOf]; omega
    ·have hqb : (n.pub == e.pub) = false := by rw [beq_dec]; exact decide_eq_false hp
     clear hne hno
     go_wp2
     go_roundw
     case rel => exact ⟨k + 1, by omega, by go_num, unhide HT3⟩
     case measure => simp [intOf]; omega
   ·have he : k = told.length := by omega
    subst he
    go_wp2
    go_ret
    exact ⟨rfl, (unhide HC).calm (unhide HT)⟩

theorem freshY {w : World} {hb b : Nat} {κ : Nat → Option Role} {H : HM} (h : HX w hb b κ H) (hE : H.evs.length ≤ 2199023255552) {s : Nat} (hs : s < 8) (e : Ev) (hon : (H.subs s).on = true) (M : MayTell H.evs (H.subs s) e) :
  Calls Try.prog 56 #[ptr hb, .pointer (some ⟨hb, 15 + s * 5, none⟩), .agg #[int e.pub, int e.num, int e.f0, int e.f1, int e.f2]] w fun r w' => r = .returned (.bool true) ∧ Calm w w' := by
 obtain ⟨ea, ec, h1, h2⟩ := h.newsAt
 obtain ⟨fa, fc, ta, tc, g0, g1, g2, _, g4, g5, _⟩ := (h.subs s hs).takenAt
 rw [hon] at g0
 exact fresh_all w hb _ H.evs ea ec e h1 hE h2 g0 _ fa fc g1 g2 M.good _ ta tc g4 (by have := M.len; omega) g5 M.stay M.meet M.new

theorem HX.setLost {w : World} {hb b : Nat} {κ : Nat → Option Role} {H : HM} (h : HX w hb b κ H) {s : Nat} (hs : s < 8) (z : Int) : HX (w.setCell ⟨hb, 15 + s * 5 + 4, none⟩ (int z)) hb b κ { H with subs := put H.subs s { H.subs s with lost := z } } ∧ Bk κ κ w (w.setCell ⟨hb, 15 + s * 5 + 4, none⟩ (int z)) := by
 have hne : ∀ k r, κ k = some r → r ≠ rHouse → k ≠ hb := fun k r hk hr e => by subst e; rw [h.house] at hk; cases hk; exact hr rfl
 have hoth : ∀ o v, o ≠ 15 + s * 5 + 4 → w.cell? ⟨hb, o, none⟩ = some v → (w.setCell ⟨hb, 15 + s * 5 + 4, none⟩ (int z)).cell? ⟨hb, o, none⟩ = some v := fun o v ho hv => cell_setCell_ne w ho hv
 refine ⟨h.step (S := fun r => r = rHouse) (fun {k r} hk hr => ⟨heap_setCell_other _ _ (hne k r hk hr), rfl⟩) rfl (fun k hk => by simpa [World.setCell] using h.lt k hk) (fun o => o = 15 + s * 5 + 4) (typ_setCell h.typ _ _) (fun o v ho => hoth o v ho) (by omega) (by omega) rfl
  (Or.inl ⟨rfl, by omega, by simp⟩) (fun i hi => Or.inl ⟨rfl, by omega⟩) (fun t ht => ?_), ⟨(Touch.refl _ _).setCell (p := ⟨hb, 15 + s * 5 + 4, none⟩) (fun _ => by rw [h.house]; simp) _, fun _ _ => rfl⟩⟩
 by_cases e : t = s
 ·subst e
  right
  simp only [put_same]
  have T := h.subs t ht
  obtain ⟨a, cap, h1, h2⟩ := T.fl
  obtain ⟨v, h3, h4⟩ := T.told
  refine ⟨hoth _ _ (by omega) T.on, ⟨a, cap, hoth _ _ (by omega) h1, ?_⟩, hoth _ _ (by omega) T.since, ⟨v, hoth _ _ (by omega) h3, h4.keep (fun i e => ⟨heap_setCell_other _ _ (hne i _ e (by simp)), rfl⟩)⟩, World.cell?_setCell_same w _ _ T.lost⟩
  rcases h2 with h2 | ⟨fb, o, e1, e2, e3⟩
  ·exact Or.inl h2
  ·exact Or.inr ⟨fb, o, e1, e2, fun j v hj => cell_of_heap (heap_setCell_other _ _ (hne fb _ e2 (by simp))) (e3 j v hj)⟩
 ·left
  exact ⟨put_other _ _ e, fun o _ _ => by omega, by simp, by simp⟩

set_option maxRecDepth 100000 in
set_option maxHeartbeats 4000000 in
theorem readY {w : World} {hb b : Nat} {κ ρ : Nat → Option Role} {σ : Net} {H : HM} (h : HN w hb b κ ρ σ H) {c : Nat} (hc : c < 4) (L : List Ent) (hlog : (σ.cl c).log = L)
    (hE : H.evs.length ≤ 2199023255552) (hL : L.length ≤ 2000000000000) (hok : ∀ i en, L[i]? = some en → EntOk (H.reads c (L.take i)) c en) (hsl : ∀ en, en ∈ L → ∃ k : Nat, k < 2 ∧ en.slot = (k : Int)) :
    Calls Try.prog 22 #[ptr hb, int c] w fun r w' => r = .returned (.bool true) ∧ ∃ κ', HN w' hb b κ' ρ (σ.setCl c { σ.cl c with log := [] }) (H.reads c L) ∧ Ow κ ρ κ' ρ w w' := by
  have hnet := h.h.net
  have HH := hide h
  have HLOG := hide hlog
  have HE := hide hE
  have HLL := hide hL
  have HOK := hide hok
  have HSL := hide hsl
  clear h hlog hE hL hok hsl
  go_enter Try.func22, Try.ntmps22
  go_wp2_with fail
  refine (logX2 (unhide HH).x hc).mono ?_
  rw [unhide HLOG]
  rintro r w1 ⟨v, rfl, hrow, hX1, hM1, hown⟩
  obtain ⟨va, vc, hva⟩ := ownsRow_slice hrow
  subst hva
  have hN1 := (unhide HH).mv hX1 hM1
  have HN1 := hide hN1
  have HO1 := hide (Ow.mv (κ := κ) hM1)
  have HROW := hide hrow
  have HOWN : Hid (∀ g, (Value.slice va L.length vc).ownBlock = some g → κ g = none) := fun g hg => by
    cases hq : κ g with
    | none => rfl
    | some r => exact absurd ((unhide HH).apart g (by rw [hq]; simp)) (hown g hg)
  clear hrow hX1 hM1 hown hN1 hnet
  have hll : (L.length : Int) ≤ 2000000000000 := by have := unhide HLL; omega
  go_wp2_with fail
  go_loopw [7] (fun i wr => ∃ k : Nat, k ≤ L.length ∧ i = int k ∧ ∃ κ', HX wr hb b κ' (H.reads c (L.take k)) ∧ Bk κ κ' w1 wr) (fun i _ => L.length - (intOf i).toNat)
  case atStart => exact ⟨0, by omega, rfl, κ, (unhide HN1).h, Bk.refl _ _⟩
  case round =>
    obtain ⟨k, hk, rfl, κ1, hX, hB⟩ := hrel
    by_cases hlt : k < L.length
    · obtain ⟨n, hn⟩ : ∃ n, L[k]? = some n := ⟨_, List.getElem?_eq_getElem hlt⟩
      obtain ⟨g, cap, e1, hcel⟩ := ownsRow_get (unhide HROW) Ent.enc_len (by omega) (i := k) (a := n) hn
      cases e1
      have hgn := unhide HOWN g rfl
      have hc7 := fun j u hj => hB.cell (o := k * 7 + j) hgn (hcel j u hj)
      obtain ⟨j, hj2, hjs, hjon, hjc⟩ := unhide HOK k n hn
      have hH1 := reads_take H c hn
      have hEv := (reads_sub c (L.take k) H (fun e he => unhide HSL e (List.mem_of_mem_take he))).1
      obtain ⟨H1, hH1e⟩ : ∃ H1, H1 = H.reads c (L.take k) := ⟨_, rfl⟩
      rw [← hH1e] at hX hjon hjc hH1 hEv
      obtain ⟨slot, lost, ev⟩ := n
      simp only at hjs hjc
      subst hjs
      have c0 : wr.cell? ⟨g, k * 7, none⟩ = some (int j) := hc7 0 _ rfl
      have c1 : wr.cell? ⟨g, k * 7 + 1, none⟩ = some (int lost) := hc7 1 _ rfl
      have c2 : wr.cell? ⟨g, k * 7 + 2, none⟩ = some (int ev.pub) := hc7 2 _ rfl
      have c3 : wr.cell? ⟨g, k * 7 + 3, none⟩ = some (int ev.num) := hc7 3 _ rfl
      have c4 : wr.cell? ⟨g, k * 7 + 4, none⟩ = some (int ev.f0) := hc7 4 _ rfl
      have c5 : wr.cell? ⟨g, k * 7 + 5, none⟩ = some (int ev.f1) := hc7 5 _ rfl
      have c6 : wr.cell? ⟨g, k * 7 + 6, none⟩ = some (int ev.f2) := hc7 6 _ rfl
      have hki : (k : Int) < L.length := by omega
      have HX1 := hide hX
      have HB1 := hide hB
      have HH1 := hide hH1
      have HEV := hide hEv
      have HJON := hide hjon
      have HJC := hide hjc
      have hci : (c : Int) < 4 := by omega
      have hji : (j : Int) < 2 := by omega
      have hjb : ((j : Int) > 1) = False := by simp; omega
      clear hX hB hc7 hcel hn hH1 hEv hjon hjc hH1e hjb
      go_wp2_with fail
      go_cut [8] (fun s wx => s = .pointer (some ⟨hb, 15 + (2 * c + j) * 5, none⟩) ∧ wx = wr.drew)
      case first =>
        go_region
        all_goals go_wp2_with fail
        all_goals go_meet
        all_goals exact ⟨rfl, rfl⟩
      case rest =>
        obtain ⟨rfl, hwc⟩ := hcut
        have htc : Calm wr wc := by rw [hwc]; exact (Touch.refl _ _).drew
        have d1 := htc.cell (p := ⟨g, k * 7 + 1, none⟩) (fun f => f) c1
        have d2 := htc.cell (p := ⟨g, k * 7 + 2, none⟩) (fun f => f) c2
        have d3 := htc.cell (p := ⟨g, k * 7 + 3, none⟩) (fun f => f) c3
        have d4 := htc.cell (p := ⟨g, k * 7 + 4, none⟩) (fun f => f) c4
        have d5 := htc.cell (p := ⟨g, k * 7 + 5, none⟩) (fun f => f) c5
        have d6 := htc.cell (p := ⟨g, k * 7 + 6, none⟩) (fun f => f) c6
        have hX2 := (unhide HX1).keep htc (fun _ _ f => f)
        have HX2 := hide hX2
        have HB2 := hide ((unhide HB1).trans (Bk.calm htc))
        have T2 := hX2.subs (2 * c + j) (by omega)
        have t0 := T2.on
        rw [unhide HJON] at t0
        have t4 := T2.lost
        have hfz2 := hX2.fr (15 + (2 * c + j) * 5 + 4)
        clear hwc htc c0 c1 c2 c3 c4 c5 c6 HX1 HB1 hX2 T2
        rcases unhide HJC with ⟨hlo, hez⟩ | ⟨hlo, hmay⟩
        · subst hez
          have d2 : wc.cell? ⟨g, k * 7 + 2, none⟩ = some (int 0) := d2
          have d3 : wc.cell? ⟨g, k * 7 + 3, none⟩ = some (int 0) := d3
          have d4 : wc.cell? ⟨g, k * 7 + 4, none⟩ = some (int 0) := d4
          have d5 : wc.cell? ⟨g, k * 7 + 5, none⟩ = some (int 0) := d5
          have d6 : wc.cell? ⟨g, k * 7 + 6, none⟩ = some (int 0) := d6
          have hlb : (lost == 0) = false := by rw [beq_dec]; exact decide_eq_false (by omega)
          have heq := run_equal23b
          obtain ⟨z, hz⟩ : ∃ z, z = (H1.subs (2 * c + j)).lost := ⟨_, rfl⟩
          rw [← hz] at t4
          have HKEY : Hid (∀ wz, Calm wc wz → ∃ κ', HX (wz.setCell ⟨hb, 15 + (2 * c + j) * 5 + 4, none⟩ (int (wrap64 (z + lost)))) hb b κ' (H.reads c (L.take (k + 1))) ∧ Bk κ κ' w1 (wz.setCell ⟨hb, 15 + (2 * c + j) * 5 + 4, none⟩ (int (wrap64 (z + lost))))) := fun wz hz' => by
            have hXz := (unhide HX2).keep hz' (fun _ _ f => f)
            have hfin := hXz.setLost (s := 2 * c + j) (by omega) (wrap64 (z + lost))
            refine ⟨κ1, ?_, ((unhide HB2).trans (Bk.calm hz')).trans hfin.2⟩
            rw [unhide HH1]
            have : H1.hear c ⟨j, lost, Ev.zero⟩ = { H1 with subs := put H1.subs (2 * c + j) { H1.subs (2 * c + j) with lost := wrap64 (z + lost) } } := by
              unfold HM.hear Tk.read
              simp only [Int.toNat_natCast]
              rw [if_pos (by omega), hz]
            rw [this]
            exact hfin.1
          have hsz : True := trivial
          clear hz
          go_wp2
          go_region
          all_goals go_wp2
          all_goals go_roundw
          all_goals first
            | exact ⟨k + 1, by omega, by go_num, unhide HKEY _ (Touch.refl _ _)⟩
            | exact ⟨k + 1, by omega, by go_num, unhide HKEY _ ((Touch.refl _ _).drew)⟩
            | exact ⟨k + 1, by omega, by go_num, unhide HKEY _ (((Touch.refl _ _).drew).drew)⟩
            | (simp [intOf]; omega)
        · subst hlo
          clear t0 t4 hfz2
          have HMAY := hide hmay
          clear hmay HJC
          go_wp2_with fail
          refine (freshY (unhide HX2) (by rw [unhide HEV]; exact unhide HE) (s := 2 * c + j) (by omega) ev (unhide HJON) (unhide HMAY)).mono ?_
          rintro r w5 ⟨rfl, ht5⟩
          have e2 := ht5.cell (p := ⟨g, k * 7 + 2, none⟩) (fun f => f) d2
          have e3 := ht5.cell (p := ⟨g, k * 7 + 3, none⟩) (fun f => f) d3
          have e4 := ht5.cell (p := ⟨g, k * 7 + 4, none⟩) (fun f => f) d4
          have e5 := ht5.cell (p := ⟨g, k * 7 + 5, none⟩) (fun f => f) d5
          have e6 := ht5.cell (p := ⟨g, k * 7 + 6, none⟩) (fun f => f) d6
          have hX5 := (unhide HX2).keep ht5 (fun _ _ f => f)
          have HX5 := hide hX5
          have HB5 := hide ((unhide HB2).trans (Bk.calm ht5))
          obtain ⟨vl, hvl, hrowv⟩ := (hX5.subs (2 * c + j) (by omega)).told
          have hfz := hX5.fr
          have HFZ := hide hfz
          have HRW := hide hrowv
          have hone : vl.oneCell' = true := by
            rcases hrowv.1.2 with ⟨rfl, _⟩ | ⟨g, cap, cur, rfl, _⟩ <;> rfl
          have hbl : hb < w5.heap.size := block_lt_of_cell hvl
          have hvb : vl.ownBlock ≠ some hb := fun e => by
            have := hrowv.2 hb e; rw [hX5.house] at this; cases this
          have HVB := hide hvb
          obtain ⟨m, hm⟩ : ∃ m, m = (H1.subs (2 * c + j)).told.length := ⟨_, rfl⟩
          rw [← hm] at HRW
          have HMM := hide hm
          have hm41 : m ≤ 2000000000000 := by rw [hm]; exact (unhide HMAY).len
          clear d1 d2 d3 d4 d5 d6 ht5 hX5 hfz hrowv hvb HX2 HB2 hm
          have key : ∀ g2 cp2 w2, Grew 0 63 5 vl (m + 1) ((H1.subs (2 * c + j)).told.flatMap Ev.enc ++ ev.enc) (w5.alloc (.cells ev.enc.toArray 63)).drew g2 cp2 w2 →
              ∃ κ', HX (w2.setCell ⟨hb, 15 + (2 * c + j) * 5 + 3, none⟩ (.slice (some ⟨g2, 0, none⟩) (m + 1) cp2)) hb b κ' (H.reads c (L.take (k + 1))) ∧ Bk κ κ' w1 (w2.setCell ⟨hb, 15 + (2 * c + j) * 5 + 3, none⟩ (.slice (some ⟨g2, 0, none⟩) (m + 1) cp2)) := by
            intro g2 cp2 w2 hG
            have hta : Calm w5 (w5.alloc (.cells ev.enc.toArray 63)).drew := ((Touch.refl _ _).alloc _).drew
            have hXa := (unhide HX5).keep hta (fun _ _ f => f)
            rw [unhide HMM] at hG
            have hfin := hXa.toldMore (s := 2 * c + j) (by omega) ev (hta.cell (p := ⟨hb, 15 + (2 * c + j) * 5 + 3, none⟩) (fun f => f) hvl) hG
            rw [← unhide HMM] at hfin
            refine ⟨_, ?_, ((unhide HB5).trans (Bk.calm hta)).trans hfin.2⟩
            have hH : H.reads c (L.take (k + 1)) = { H1 with subs := put H1.subs (2 * c + j) { H1.subs (2 * c + j) with told := (H1.subs (2 * c + j)).told ++ [ev] } } := by
              rw [unhide HH1]
              unfold HM.hear Tk.read
              simp only [Int.toNat_natCast]
              rw [if_neg (by simp)]
            rw [hH]
            exact hfin.1
          have KEY := hide key
          clear key
          obtain ⟨ti, i3, z3, s3, b3⟩ := elem63
          have I3 := hide i3
          have Z3 := hide z3
          have S3 := hide s3
          have B3 := hide b3
          clear i3 z3 s3 b3
          go_wp2
          go_region_law (first
            | (refine step_append_mine _ rfl _ _ 32 rfl 0 63 ti (.agg #[int 0, int 0, int 0, int 0, int 0]) 5 40 Try.underlying32 (unhide I3) (unhide Z3) (unhide S3) (unhide B3) rfl (by decide) vl m ((H1.subs (2 * c + j)).told.flatMap Ev.enc) rfl ?own ⟨w5.heap.size, 0, none⟩ 1 1 ev.enc rfl rfl ?news ?one (by decide) ?h63 ?bytes ?base ?_
               case own => exact ownsRow_keep (unhide HRW).1 (((Touch.refl (fun _ => False) _).alloc _).drew) (fun _ _ f => f)
               case news => intro j u hj; exact new_cells w5 ev.enc 63 j u hj
               case one => intro u hu; simp [Ev.enc] at hu; rcases hu with rfl | rfl | rfl | rfl | rfl <;> rfl
               case h63 => unfold maxLen; omega
               case bytes => omega
               case base => simp
               intro g2 cp2 w2 hg2
               have hne : ¬ hb = g2 := by
                 rcases hg2.2.1 with ⟨h, _⟩ | ⟨h, _⟩
                 · intro e; exact unhide HVB (by rw [h, e])
                 · simp at h; omega
               have ht2 : Touch (fun i => i = g2) w5 w2 := by
                 rcases hg2.2.1 with ⟨_, h⟩ | ⟨_, h⟩
                 · exact Touch.trans (((Touch.refl _ _).alloc _).drew) h
                 · exact (((Touch.refl (fun i => i = g2) w5).alloc _).drew).calm h
               have dl2 : w2.cell? ⟨hb, 15 + (2 * c + j) * 5 + 3, none⟩ = some vl := ht2.cell (p := ⟨hb, 15 + (2 * c + j) * 5 + 3, none⟩) hne hvl
               have fz2 : w2.frozen? ⟨hb, 15 + (2 * c + j) * 5 + 3, none⟩ = false := (World.frozen?_of_block (w := w5) (a := ⟨hb, 15 + (2 * c + j) * 5 + 3, none⟩) (ht2.block hb hbl hne)).trans (unhide HFZ _)
               have HG2 := hide hg2
               clear hg2 ht2))
          all_goals go_wp2
          all_goals go_roundw
          all_goals first
            | exact ⟨k + 1, by omega, by go_num, unhide KEY _ _ _ (unhide HG2)⟩
            | (simp [intOf]; omega)
    · have he : k = L.length := by omega
      subst he
      have HX1 := hide hX
      have HB1 := hide hB
      clear hX hB
      go_wp2
      go_ret
      refine ⟨rfl, κ1, (unhide HN1).books (unhide HB1) ?_, (unhide HO1).trans (unhide HB1).ow⟩
      have := unhide HX1
      rw [List.take_length] at this
      exact this

theorem readB {w : World} {hb b : Nat} {κ ρ : Nat → Option Role} {σ : Net} {H : HM} {E : List News} {G : Nat → Nat → List News} {m : Nat} (h : HN w hb b κ ρ σ H) (B : Book E G σ H) (F : Fit σ m) (hm : m < 2000000000000) (hE : E.length ≤ 2000000000000) {c : Nat} (hc : c < 4) :
  Calls Try.prog 22 #[ptr hb, int c] w fun r w' => r = .returned (.bool true) ∧ ∃ κ', HN w' hb b κ' ρ (σ.setCl c { σ.cl c with log := [] }) (H.reads c (σ.cl c).log) ∧ Book E (readG G σ c) (σ.setCl c { σ.cl c with log := [] }) (H.reads c (σ.cl c).log) ∧ Ow κ ρ κ' ρ w w' := by
 have T := B.core.tells c hc
 have hlen := fun k (hk : k < 2) => F.r.slack.told (2 * c + k) (by omega)
 have hll := F.r.slack.log c hc
 refine (readY h hc (σ.cl c).log rfl (by rw [B.evs]; omega) (by omega) (fun i en hi => B.ents F.live hc (fun k hk => ?_) hi) (fun en hen => by obtain ⟨k, h1, h2, _⟩ := T.ents en hen; exact ⟨k, h1, h2⟩)).mono ?_
 ·have := hlen k hk
  simp only [Net.toldN, show (2 * c + k) / 2 = c by omega, show (2 * c + k) % 2 = k by omega] at this
  omega
 ·rintro r w' ⟨rfl, κ', hN, hO⟩
  exact ⟨rfl, κ', hN, B.read hc, hO⟩

end Go.Proofs.Ytodfcpblcpogiaa

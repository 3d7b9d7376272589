/-
  ONCE, as the pure net has it: what each call does with the numbers that a house keeps of clients; the core: all that ONCE needs, kept by every call.
-/
import Derived.Test.YtodfcpblcpogiaaAtp
namespace Go.Proofs.Ytodfcpblcpogiaa

/-- As the house sees a client. -/
structure CSame (x y : Cli) : Prop where
  here : y.here = x.here
  stays : y.stays = x.stays
  many : y.many = x.many
  used : y.used = x.used
  fl : y.fl = x.fl
theorem CSame.refl (x : Cli) : CSame x x := ⟨rfl, rfl, rfl, rfl, rfl⟩
theorem CSame.trans {x y z : Cli} (h : CSame x y) (k : CSame y z) : CSame x z := ⟨k.here.trans h.here, k.stays.trans h.stays, k.many.trans h.many, k.used.trans h.used, k.fl.trans h.fl⟩
theorem csame_tell (x : Cli) (k : Nat) (e : News) : CSame x (x.tell k e) := by unfold Cli.tell; split <;> exact ⟨rfl, rfl, rfl, rfl, rfl⟩
theorem csame_lose (x : Cli) (k : Nat) (m : Int) : CSame x (x.lose k m) := by unfold Cli.lose; split <;> exact ⟨rfl, rfl, rfl, rfl, rfl⟩

def Sm (σ τ : Net) : Prop := ∀ c, CSame (σ.cl c) (τ.cl c)
section
variable {σ τ : Net}
theorem Sm.refl (σ : Net) : Sm σ σ := fun _ => CSame.refl _
theorem Sm.trans {υ : Net} (h : Sm σ τ) (k : Sm τ υ) : Sm σ υ := fun c => (h c).trans (k c)
theorem Sm.of (h : τ.cl = σ.cl) : Sm σ τ := fun c => by rw [h]; exact CSame.refl _
theorem Sm.setCl {c : Nat} {x : Cli} (h : CSame (σ.cl c) x) : Sm σ (σ.setCl c x) := fun d => by
  by_cases e : d = c
  · subst e; simp only [Net.setCl, put_same]; exact h
  · simp only [Net.setCl, put_other _ _ e]; exact CSame.refl _
theorem Sm.tell (σ : Net) (s : Nat) (e : News) : Sm σ (σ.tell s e) := Sm.setCl (csame_tell _ _ _)
theorem Sm.lose (σ : Net) (s : Nat) (m : Int) : Sm σ (σ.lose s m) := Sm.setCl (csame_lose _ _ _)
theorem Sm.tells (s : Nat) : ∀ (l : List News) (σ : Net), Sm σ (σ.tells s l)
  | [], σ => Sm.refl σ
  | e :: l, σ => (Sm.tell σ s e).trans (Sm.tells s l (σ.tell s e))
theorem Sm.hear (σ : Net) (b : Nat) (e : News) (s : Nat) : Sm σ (σ.hear b e s) := by
  unfold Net.hear
  split
  · exact Sm.refl _
  · split
    · split
      · exact Sm.of rfl
      · split
        · exact Sm.of rfl
        · exact Sm.tell _ _ _
    · exact Sm.refl _
theorem Sm.hears (b : Nat) (e : News) : ∀ (l : List Nat) (σ : Net), Sm σ (σ.hears b e l)
  | [], σ => Sm.refl σ
  | s :: l, σ => (Sm.hear σ b e s).trans (Sm.hears b e l (σ.hear b e s))
theorem Sm.happens (σ : Net) (b : Nat) (e : News) (fr : Option Nat) : Sm σ (σ.happens b e fr) :=
  (Sm.hears b e (List.range 8) σ).trans (Sm.of (pushAll_keeps _ _).2.1)
theorem Sm.handle (σ : Net) (b : Nat) (fr : Option Nat) (f : Fr) : Sm σ (σ.handle b fr f) := by
  cases f with
  | sub t age fl => exact Sm.of (by simp only [Net.handle, Net.spread]; rw [(pushAll_keeps _ _).2.1, (learn_keeps _ _ _ _ _ _).2.2.2])
  | unsub t age => exact Sm.of (by simp only [Net.handle, Net.spread]; rw [(pushAll_keeps _ _).2.1, (forget_keeps _ _ _ _).2.2.2])
  | event e => exact Sm.happens σ b e fr
  | move t age fl old new =>
    simp only [Net.handle]
    split
    · split
      · exact Sm.of rfl
      · exact Sm.of rfl
    · exact Sm.of rfl
  | rest t evs m new =>
    simp only [Net.handle]
    split
    · exact Sm.of rfl
    · split
      · exact Sm.refl _
      · exact (((Sm.lose σ t m).trans (Sm.tells t evs _)).trans (Sm.tells t _ _)).trans (Sm.of rfl)
theorem Sm.del (σ : Net) (x y : Int) : Sm σ (σ.del x y) := by
  unfold Net.del
  split
  · split
    · rename_i f r hq
      exact (Sm.of (σ := σ) rfl).trans (Sm.handle { σ with q := put2 σ.q x.toNat y.toNat r } y.toNat (some x.toNat) f)
    · exact Sm.refl _
  · exact Sm.refl _
theorem Sm.backs (σ : Net) (c b k : Nat) : Sm σ (σ.backs c b k) := by
  unfold Net.backs
  split
  · split
    · exact Sm.refl _
    · exact ((Sm.lose σ _ _).trans (Sm.tells _ _ _)).trans (Sm.of rfl)
  · exact Sm.refl _
theorem Sm.comes (σ : Net) (c b old k : Nat) : Sm σ (σ.comes c b old k) := by
  simp only [Net.comes]
  split
  · exact (Sm.setCl (σ := σ) (c := c) (x := { σ.cl c with age := put (σ.cl c).age k ((σ.cl c).age k + 1) }) ⟨rfl, rfl, rfl, rfl, rfl⟩).trans (Sm.of rfl)
  · exact Sm.refl _
theorem attach_cl {c b : Nat} (h : σ.attachE c b = 0) (d : Nat) : (d ≠ c → CSame (σ.cl d) ((σ.attach c b).cl d)) ∧ (d = c → CSame { σ.cl c with here := some b, stays := (σ.cl c).stays + 1 } ((σ.attach c b).cl d)) := by
  have key : ∀ τ, Sm σ τ → (d ≠ c → CSame (σ.cl d) ((τ.arrive c b).cl d)) ∧ (d = c → CSame { σ.cl c with here := some b, stays := (σ.cl c).stays + 1 } ((τ.arrive c b).cl d)) := fun τ hs => by
    refine ⟨fun hd => ?_, fun hd => ?_⟩
    · simp only [Net.arrive, Net.setCl, put_other _ _ hd]; exact hs d
    · subst hd
      simp only [Net.arrive, Net.setCl, put_same]
      have := hs d
      exact ⟨rfl, by show (τ.cl d).stays + 1 = (σ.cl d).stays + 1; rw [this.stays], this.many, this.used, this.fl⟩
  unfold Net.attach
  rw [if_pos h]
  simp only [toNat_nat]
  unfold Net.attachN
  split
  · exact key _ ((Sm.backs σ c b 0).trans (Sm.backs _ c b 1))
  · split
    · exact key _ ((Sm.backs σ c b 0).trans (Sm.backs _ c b 1))
    · exact key _ ((Sm.comes σ c b _ 0).trans (Sm.comes _ c b _ 1))
theorem detach_same {c : Int} (h : σ.detachE c ≠ 0) : σ.detach c = σ := by unfold Net.detach; rw [if_neg h]
theorem detach_cl {c : Nat} (h : σ.detachE c = 0) : σ.detach c = σ.setCl c { σ.cl c with here := none } := by unfold Net.detach; rw [if_pos h]; simp only [toNat_nat]
theorem pub_eq {c : Nat} (h : σ.pubE c = 0) (f0 f1 f2 : Int) : ∃ b, (σ.cl c).here = some b ∧ σ.pub c f0 f1 f2 = (σ.setCl c { σ.cl c with many := (σ.cl c).many + 1 }).happens b (σ.pubEv c f0 f1 f2) none := by
  have hz := (pubE_zero h).2.2.1
  simp only [toNat_nat] at hz
  obtain ⟨b, hb⟩ := Option.ne_none_iff_exists'.1 hz
  refine ⟨b, hb, ?_⟩
  unfold Net.pub
  rw [if_pos h]
  simp only [toNat_nat, hb]
theorem pub_cl {c : Nat} (h : σ.pubE c = 0) (f0 f1 f2 : Int) (d : Nat) : (d ≠ c → CSame (σ.cl d) ((σ.pub c f0 f1 f2).cl d)) ∧ (d = c → CSame { σ.cl c with many := (σ.cl c).many + 1 } ((σ.pub c f0 f1 f2).cl d)) := by
  obtain ⟨b, hb, he⟩ := pub_eq h f0 f1 f2
  rw [he]
  have h1 := Sm.happens (σ.setCl c { σ.cl c with many := (σ.cl c).many + 1 }) b (σ.pubEv c f0 f1 f2) none d
  refine ⟨fun hd => ?_, fun hd => ?_⟩
  · simp only [Net.setCl, put_other _ _ hd] at h1; exact h1
  · subst hd
    simp only [Net.setCl, put_same] at h1; exact h1
theorem sub_eq {c : Nat} {l : List Tst} (h : σ.subE c l = 0) : ∃ b, (σ.cl c).here = some b ∧ (σ.cl c).used (σ.slot c) = false ∧ σ.sub c l = σ.subN c b (σ.slot c) l := by
  have hz := subE_zero h
  simp only [toNat_nat] at hz
  obtain ⟨b, hb⟩ := Option.ne_none_iff_exists'.1 hz.2.2.2.1
  refine ⟨b, hb, hz.2.2.2.2.2.1, ?_⟩
  unfold Net.sub
  rw [if_pos h]
  simp only [toNat_nat, hb]
theorem sub_cl {c : Nat} {l : List Tst} (h : σ.subE c l = 0) : (σ.sub c l).cl = (σ.setCl c { σ.cl c with used := put (σ.cl c).used (σ.slot c) true, age := put (σ.cl c).age (σ.slot c) ((σ.cl c).age (σ.slot c) + 1), fl := put (σ.cl c).fl (σ.slot c) l, told := put (σ.cl c).told (σ.slot c) [] }).cl := by
  obtain ⟨b, _, _, he⟩ := sub_eq h
  rw [he]
  exact (pushAll_keeps _ _).2.1
theorem EvsOk.of {E : List News} (V : EvsOk E σ) (hm : ∀ c, c < 4 → (τ.cl c).many = (σ.cl c).many) (hs : ∀ c, c < 4 → 0 ≤ (τ.cl c).stays) : EvsOk E τ :=
  ⟨fun e he => by obtain ⟨p, h1, h2, h3, h4, h5⟩ := V.ev e he; exact ⟨p, h1, h2, h3, by rw [hm p h1]; exact h4, h5⟩, V.inc, fun c hc => ⟨by rw [hm c hc]; exact (V.low c hc).1, hs c hc⟩⟩
theorem EvsOk.sm {E : List News} (V : EvsOk E σ) (h : Sm σ τ) : EvsOk E τ := V.of (fun c _ => (h c).many) (fun c hc => by rw [(h c).stays]; exact (V.low c hc).2)
end

/-- All that ONCE needs of a net: E was published, G was told and read. -/
structure Core (E : List News) (G : Nat → Nat → List News) (σ : Net) : Prop where
  opn : σ.closed = false
  tells : Tells G σ
  pubs : Pubs E σ
  evs : EvsOk E σ

section
variable {E : List News} {G : Nat → Nat → List News} {σ : Net}
theorem handle_closed (b : Nat) (fr : Option Nat) (f : Fr) : (σ.handle b fr f).closed = σ.closed := by
  cases f with
  | sub t age fl => simp only [Net.handle, Net.spread]; rw [(pushAll_keeps _ _).2.2, (learn_keeps _ _ _ _ _ _).2.2.1]
  | unsub t age => simp only [Net.handle, Net.spread]; rw [(pushAll_keeps _ _).2.2, (forget_keeps _ _ _ _).2.2.1]
  | event e => exact (pushAll_keeps _ _).2.2.trans (hears_keeps b e (List.range 8) σ).2.2
  | move t age fl old new =>
    simp only [Net.handle]
    split
    · split <;> rfl
    · rfl
  | rest t evs m new =>
    simp only [Net.handle]
    split
    · rfl
    · split
      · rfl
      · exact (tells_keeps t _ _).2.2.1.trans (tells_keeps t evs _).2.2.1
theorem del_closed (x y : Int) : (σ.del x y).closed = σ.closed := by
  unfold Net.del
  split
  · split
    · exact handle_closed (σ := { σ with q := _ }) _ _ _
    · rfl
  · rfl
theorem Core.del (C : Core E G σ) (L : Live σ) (x y : Int) : Core E G (σ.del x y) := ⟨(del_closed x y).trans C.opn, C.tells.del L x y, C.pubs.del x y, C.evs.sm (Sm.del σ x y)⟩
theorem attach_closed (c b : Int) : (σ.attach c b).closed = σ.closed := by
  unfold Net.attach
  split
  · unfold Net.attachN
    split
    · exact (backs_keeps c.toNat b.toNat 1).2.2.1.trans (backs_keeps c.toNat b.toNat 0).2.2.1
    · split
      · exact (backs_keeps c.toNat b.toNat 1).2.2.1.trans (backs_keeps c.toNat b.toNat 0).2.2.1
      · exact (comes_keeps c.toNat b.toNat _ 1).2.1.trans (comes_keeps c.toNat b.toNat _ 0).2.1
  · rfl
theorem Core.attach (C : Core E G σ) (L : Live σ) {c b : Nat} (hE : σ.attachE c b = 0) : Core E G (σ.attach c b) := by
  refine ⟨(attach_closed _ _).trans C.opn, C.tells.attach L c b, C.pubs.attach c b, C.evs.of (fun d hd => ?_) (fun d hd => ?_)⟩
  · by_cases e : d = c
    · exact ((attach_cl hE d).2 e).many.trans (by rw [e])
    · exact ((attach_cl hE d).1 e).many
  · by_cases e : d = c
    · rw [((attach_cl hE d).2 e).stays]
      have := (C.evs.low d hd).2
      subst e
      show 0 ≤ (σ.cl d).stays + 1
      omega
    · rw [((attach_cl hE d).1 e).stays]; exact (C.evs.low d hd).2
theorem Core.detach (C : Core E G σ) {c : Nat} (hE : σ.detachE c = 0) : Core E G (σ.detach c) := by
  refine ⟨?_, C.tells.detach c, C.pubs.detach c, ?_⟩
  · rw [detach_cl hE]; exact C.opn
  · rw [detach_cl hE]
    refine C.evs.of (fun d hd => ?_) (fun d hd => ?_)
    · by_cases e : d = c
      · subst e; simp [Net.setCl]
      · simp [Net.setCl, put_other _ _ e]
    · by_cases e : d = c
      · subst e; simp only [Net.setCl, put_same]; exact (C.evs.low d hd).2
      · simp only [Net.setCl, put_other _ _ e]; exact (C.evs.low d hd).2
theorem Core.pub (C : Core E G σ) (L : Live σ) {c : Nat} (hc : c < 4) (hE : σ.pubE c = 0) (f0 f1 f2 : Int) : Core (E ++ [σ.pubEv c f0 f1 f2]) G (σ.pub c f0 f1 f2) := by
  have hlow := C.evs.low c hc
  have hcl := fun d => pub_cl hE f0 f1 f2 d
  have hmany : ∀ d, d < 4 → ((σ.pub c f0 f1 f2).cl d).many = if d = c then (σ.cl c).many + 1 else (σ.cl d).many := fun d hd => by
    by_cases e : d = c
    · rw [if_pos e]; exact ((hcl d).2 e).many
    · rw [if_neg e]; exact ((hcl d).1 e).many
  have hev : (σ.pubEv c f0 f1 f2).ev.pub = (c : Nat) ∧ (σ.pubEv c f0 f1 f2).ev.num = (σ.cl c).many + 1 ∧ (σ.pubEv c f0 f1 f2).stay = (σ.cl c).stays := by simp [Net.pubEv]
  refine ⟨?_, C.tells.pub L c f0 f1 f2 (by omega), ?_, ⟨fun e he => ?_, ?_, fun d hd => ⟨?_, ?_⟩⟩⟩
  · obtain ⟨b, _, he⟩ := pub_eq hE f0 f1 f2
    rw [he]
    have h1 := hears_keeps b (σ.pubEv c f0 f1 f2) (List.range 8) (σ.setCl c { σ.cl c with many := (σ.cl c).many + 1 })
    exact ((pushAll_keeps _ _).2.2.trans h1.2.2).trans C.opn
  · obtain ⟨b, _, he⟩ := pub_eq hE f0 f1 f2
    rw [he]
    have P1 : Pubs (E ++ [σ.pubEv c f0 f1 f2]) (σ.setCl c { σ.cl c with many := (σ.cl c).many + 1 }) := (C.pubs.mono (fun e he => List.mem_append_left _ he)).setCl (fun k e he => List.mem_append_left _ (C.pubs.told c k e he))
    exact P1.happens b (List.mem_append_right _ (List.mem_singleton.2 rfl)) none
  · rcases List.mem_append.1 he with he | he
    · obtain ⟨p, h1, h2, h3, h4, h5⟩ := C.evs.ev e he
      refine ⟨p, h1, h2, h3, ?_, h5⟩
      rw [hmany p h1]
      split
      · rename_i e1; subst e1; omega
      · exact h4
    · rw [List.mem_singleton.1 he]
      exact ⟨c, hc, hev.1, by rw [hev.2.1]; omega, by rw [hmany c hc, if_pos rfl, hev.2.1]; exact Int.le_refl _, by rw [hev.2.2]; exact hlow.2⟩
  · refine List.pairwise_append.2 ⟨C.evs.inc, List.pairwise_singleton _ _, fun o ho e he => ?_⟩
    rw [List.mem_singleton.1 he]
    intro hp
    obtain ⟨p, h1, h2, h3, h4, h5⟩ := C.evs.ev o ho
    have : p = c := by have := hev.1; omega
    subst this
    rw [hev.2.1]; omega
  · rw [hmany d hd]
    split
    · omega
    · exact (C.evs.low d hd).1
  · by_cases e : d = c
    · rw [((hcl d).2 e).stays]; subst e; exact hlow.2
    · rw [((hcl d).1 e).stays]; exact (C.evs.low d hd).2
theorem Core.sub (C : Core E G σ) {c : Nat} {l : List Tst} (hl : (σ.cl c).log = []) (hE : σ.subE c l = 0) : Core E (put G c (put (G c) (σ.slot c) [])) (σ.sub c l) := by
  obtain ⟨b, hb, hu, he⟩ := sub_eq hE
  have hcl := sub_cl hE
  refine ⟨?_, ?_, C.pubs.sub c l, ?_⟩
  · rw [he]; exact (pushAll_keeps _ _).2.2.trans C.opn
  · rw [he]; exact C.tells.subN l hl
  · refine C.evs.of (fun d hd => ?_) (fun d hd => ?_)
    · rw [hcl]
      by_cases e : d = c
      · subst e; simp [Net.setCl]
      · simp [Net.setCl, put_other _ _ e]
    · rw [hcl]
      by_cases e : d = c
      · subst e; simp only [Net.setCl, put_same]; exact (C.evs.low d hd).2
      · simp only [Net.setCl, put_other _ _ e]; exact (C.evs.low d hd).2
theorem Core.read (C : Core E G σ) {c : Nat} (hc : c < 4) : Core E (readG G σ c) (σ.setCl c { σ.cl c with log := [] }) :=
  ⟨C.opn, C.tells.read hc, C.pubs.setCl (fun k e he => C.pubs.told c k e he), C.evs.sm (Sm.setCl ⟨rfl, rfl, rfl, rfl, rfl⟩)⟩
theorem core_new {par : List Nat} : Core [] (fun _ _ => []) (newNet par) :=
  ⟨rfl, fun c _ => ⟨fun k => List.Pairwise.nil, fun k _ hu => (by cases hu), fun en hen => (by cases hen), fun k _ hu => (by cases hu)⟩, ⟨fun x y f hf => (by cases hf), fun b s f hf => (by cases hf), fun c k e he => (by cases he)⟩, ⟨fun e he => (by cases he), List.Pairwise.nil, fun c _ => ⟨Int.le_refl _, Int.le_refl _⟩⟩⟩
end

end Go.Proofs.Ytodfcpblcpogiaa

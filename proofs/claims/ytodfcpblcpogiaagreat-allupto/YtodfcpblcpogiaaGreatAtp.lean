import Derived.Test.YtodfcpblcpogiaaGreatFlow2
namespace Go.Proofs.YtodfcpblcpogiaaGreat
def Fr.about (s:Nat):Fr→Bool
 | .sub t _ _=>t == s
 | .unsub t _=>t == s
 | .event _=>false
 | .move t _ _ _ _=>t == s
 | .rest t _ _ _=>t == s
def Fr.isMv:Fr→Bool
 | .move _ _ _ _ _=>true
 | .rest _ _ _ _=>true
 | _=>false
structure Co where
 age:Int
 fl:List Tst
 way:Option Nat
 waits:Bool
def Fact.co (f:Fact):Co:=⟨f.age,f.fl,f.way,f.waits⟩
structure View where
 par:List Nat
 used:Bool
 age:Int
 fl:List Tst
 home:Option Nat
 here:Option Nat
 co:Nat→Option Co
 q:Nat→Nat→List Fr
def Net.view (σ:Net)(s:Nat):View:=⟨σ.par,(σ.cl (s/2)).used (s%2),(σ.cl (s/2)).age (s%2),(σ.cl (s/2)).fl (s%2),(σ.cl (s/2)).home,(σ.cl (s/2)).here,fun b=>(σ.kn b s).map Fact.co,fun x y=>(σ.q x y).filter (Fr.about s)⟩
def View.mv (v:View)(x y:Nat):List Fr:=(v.q x y).filter Fr.isMv
def View.noMv (v:View):Prop:=∀x y,v.mv x y=[]
def View.only(v:View)(x y:Nat)(f:Fr):Prop:=v.mv x y=[f]∧∀a b,¬(a=x∧b=y)→v.mv a b=[]
def View.but (v:View)(H:Nat→Prop):Prop:=∀b o,v.co b=some o→¬H b→o.way≠none
inductive Phase (s:Nat) (v:View):Prop
  | off (hu:v.used=false) (ho:v.but fun _=>False) (hm:v.noMv)
  | on (h:Nat) (hu:v.used=true) (hh:v.home=some h) (hc:v.co h=some ⟨v.age,v.fl,none,false⟩) (ho:v.but fun b=>b=h) (hm:v.noMv)
  | moving (h old x y:Nat) (hu:v.used=true) (hh:v.home=some h) (he:v.here=some h) (hne:old≠h) (hl:h<size v.par∧old<size v.par) (hc:v.co h=some ⟨v.age,v.fl,none,true⟩) (hd:v.co old=some ⟨v.age-1,v.fl,none,false⟩)
      (ho:v.but fun b=>b=h∨b=old) (hm:v.only x y (.move s v.age v.fl old h)) (hy:lK v.par y old<lK v.par h old)
  | resting (h x y:Nat) (evs:List News) (more:Int) (hu:v.used=true) (hh:v.home=some h) (he:v.here=some h) (hc:v.co h=some ⟨v.age,v.fl,none,true⟩) (ho:v.but fun b=>b=h) (hm:v.only x y (.rest s evs more h)) (hk:∀e,e∈evs→lC v.fl e.ev=true)
def View.late (v:View)(s:Nat)(f:Fr):Prop:=(∀age fl,f=.sub s age fl→age≤v.age∧∀b o,v.co b=some o→o.way=none→age≤o.age)∧(∀age,f=.unsub s age→age≤v.age∧∀b o,v.co b=some o→o.way=none→age<o.age)
structure ViewOk (s:Nat)(v:View):Prop where
 facts:∀b o,v.co b=some o→o.age≤v.age
 late:∀x y f,f∈v.q x y→v.late s f
 ph:Phase s v
section
variable {s : Nat} {v : View}
theorem ViewOk.frames (h:ViewOk s v){q:Nat→Nat→List Fr}(hq:∀x y f,f∈q x y→f∈v.q x y∨v.late s f)(hm:∀x y,(q x y).filter Fr.isMv=v.mv x y):ViewOk s {v with q:=q}:=by
 refine⟨h.facts,fun x y f hf=>?_,?_⟩
 ·rcases hq x y f hf with hf | hf
  ·exact h.late x y f hf
  ·exact hf
 ·have e:({v with q:=q}:View).mv=v.mv:=by funext x y;exact hm x y
  have en:v.noMv→({v with q:=q}:View).noMv:=fun hn x y=>by rw[e];exact hn x y
  have eo:∀x y f,v.only x y f→({v with q:=q}:View).only x y f:=fun x y f ho=>⟨by rw[e];exact ho.1,fun a b hab=>by rw[e];exact ho.2 a b hab⟩;cases h.ph with
  | off hu ho hm=>exact .off hu ho (en hm)
  | on h hu hh hc ho hm=>exact .on h hu hh hc ho (en hm)
  | moving h old x y hu hh he hne hl hc hd ho hm hy=>exact .moving h old x y hu hh he hne hl hc hd ho (eo _ _ _ hm) hy
  | resting h x y evs more hu hh he hc ho hm hk=>exact .resting h x y evs more hu hh he hc ho (eo _ _ _ hm) hk
theorem bE0 {v v':View}{s:Nat}{f:Fr}(h:v.late s f)(ha:v.age≤v'.age)(hc:∀b o,v'.co b=some o→o.way=none→v.co b=some o):v'.late s f:=
 ⟨fun age fl e=>⟨Int.le_trans (h.1 age fl e).1 ha,fun b o hb hw=>(h.1 age fl e).2 b o (hc b o hb hw) hw⟩,fun age e=>⟨Int.le_trans (h.2 age e).1 ha,fun b o hb hw=>(h.2 age e).2 b o (hc b o hb hw) hw⟩⟩
theorem ViewOk.turn (h:ViewOk s v){b:Nat}(hb:∀o,v.co b=some o→o.way≠none){o':Option Co}(ho':∀o,o'=some o→o.way≠none∧o.age≤v.age):ViewOk s {v with co:=put v.co b o'}:=by
 have hne:∀x o,v.co x=some o→o.way=none→put v.co b o' x=some o:=fun x o hx hw=>by
  have:x≠b:=fun e=>by subst e;exact hb o hx hw
  rw[kA _ _ this];exact hx
 have hback:∀x o,put v.co b o' x=some o→o.way=none→v.co x=some o:=fun x o hx hw=>by
  by_cases e:x=b
  ·subst e;rw[put_same] at hx;exact absurd hw (ho' o hx).1
  ·rw[kA _ _ e] at hx;exact hx
 have hbut:∀H:Nat→Prop,v.but H→({v with co:=put v.co b o'}:View).but H:=fun H hH x o hx hn hw=>hH x o (hback x o hx hw) hn hw;refine⟨fun x o hx=>?_,fun x y f hf=>bE0 (h.late x y f hf) (Int.le_refl _) hback,?_⟩
 ·have hx:put v.co b o' x=some o:=hx;by_cases e:x=b
  ·subst e;rw[put_same] at hx;exact(ho' o hx).2
  ·rw[kA _ _ e] at hx;exact h.facts x o hx
 ·cases h.ph with
  | off hu ho hm=>exact .off hu (hbut _ ho) hm
  | on h hu hh hc ho hm=>exact .on h hu hh (hne _ _ hc rfl) (hbut _ ho) hm
  | moving h old x y hu hh he hne' hl hc hd ho hm hy=>exact .moving h old x y hu hh he hne' hl (hne _ _ hc rfl) (hne _ _ hd rfl) (hbut _ ho) hm hy
  | resting h x y evs more hu hh he hc ho hm hk=>exact .resting h x y evs more hu hh he (hne _ _ hc rfl) (hbut _ ho) hm hk
theorem Phase.of_mem (p:Phase s v){x y:Nat}{f:Fr}{r:List Fr}(hf:v.mv x y=f::r):
  (∃h old,v.used=true∧v.home=some h∧v.here=some h∧old≠h∧(h<size v.par∧old<size v.par)∧v.co h=some ⟨v.age,v.fl,none,true⟩∧v.co old=some ⟨v.age-1,v.fl,none,false⟩∧(v.but fun b=>b=h∨b=old)∧v.only x y f∧lK v.par y old<lK v.par h old∧f=.move s v.age v.fl old h)∨
  (∃h evs more,v.used=true∧v.home=some h∧v.here=some h∧v.co h=some ⟨v.age,v.fl,none,true⟩∧(v.but fun b=>b=h)∧v.only x y f∧(∀e,e∈evs→lC v.fl e.ev=true)∧f=.rest s evs more h):=by
 have pick:∀{x' y':Nat} {g:Fr},v.only x' y' g→x=x'∧y=y'∧f=g:=fun {x' y' g} ho=>by
  by_cases e:x=x'∧y=y'
  ·obtain⟨rfl,rfl⟩:=e;have:=ho.1;rw[hf] at this;cases this
   exact⟨rfl,rfl,rfl⟩
  ·rw[ho.2 x y e] at hf;cases hf
 cases p with
 | off hu ho hm=>rw[hm x y] at hf;cases hf
 | on h hu hh hc ho hm=>rw[hm x y] at hf;cases hf
 | moving h old x' y' hu hh he hne hl hc hd ho hm hy=>
  obtain⟨rfl,rfl,rfl⟩:=pick hm;exact Or.inl ⟨h,old,hu,hh,he,hne,hl,hc,hd,ho,hm,hy,rfl⟩
 | resting h x' y' evs more hu hh he hc ho hm hk=>
  obtain⟨rfl,rfl,rfl⟩:=pick hm;exact Or.inr ⟨h,evs,more,hu,hh,he,hc,ho,hm,hk,rfl⟩
def uR (q:Nat→Nat→List Fr)(x y:Nat)(r:List Fr)(x' y':Nat)(g:Fr):Nat→Nat→List Fr:=xB (xB q x y r) x' y' (xB q x y r x' y'++[g])
theorem vR {q:Nat→Nat→List Fr}{x y:Nat}{f:Fr}{r:List Fr}(hq:q x y=f::r){x' y':Nat}{g:Fr}{a b:Nat}{e:Fr}(h:e∈uR q x y r x' y' g a b):e∈q a b∨e=g:=by
 have h1:∀a b,e∈xB q x y r a b→e∈q a b:=fun a b h=>by
  by_cases e1:a=x∧b=y
  ·obtain⟨rfl,rfl⟩:=e1;rw[put2_same] at h;rw[hq];exact kO0 _ h
  ·rw[jA _ _ e1] at h;exact h
 unfold uR at h;by_cases e1:a=x'∧b=y'
 ·obtain⟨rfl,rfl⟩:=e1;rw[put2_same] at h;rcases xP0.1 h with h | h
  ·exact Or.inl (h1 _ _ h)
  ·exact Or.inr (eO0.1 h)
 ·rw[jA _ _ e1] at h;exact Or.inl (h1 _ _ h)
theorem yP {q:Nat→Nat→List Fr}{x y:Nat}{f:Fr}{r:List Fr}(hq:q x y=f::r)(hf:f.isMv=true)(ho:v.only x y f)(hv:v.q=q){x' y':Nat}{g:Fr}(hg:g.isMv=true):({v with q:=uR q x y r x' y' g}:View).only x' y' g:=by
 have hr:r.filter Fr.isMv=[]:=by
  have:=ho.1;unfold View.mv at this;rw[hv,hq,List.filter_cons,if_pos hf] at this;exact(List.cons.inj this).2
 have h1:∀a b,(xB q x y r a b).filter Fr.isMv=[]:=fun a b=>by
  by_cases e1:a=x∧b=y
  ·obtain⟨rfl,rfl⟩:=e1;rw[put2_same];exact hr
  ·rw[jA _ _ e1];have:=ho.2 a b e1;unfold View.mv at this;rw[hv] at this;exact this
 refine⟨?_,fun a b hab=>?_⟩
 ·show (uR q x y r x' y' g x' y').filter Fr.isMv=[g]
  unfold uR;rw[put2_same,List.filter_append,h1];simp[hg]
 ·show (uR q x y r x' y' g a b).filter Fr.isMv=[]
  unfold uR;rw[jA _ _ hab];exact h1 a b
theorem iQ {g:Fr}(hg:g.isMv=true):v.late s g:=⟨fun age fl e=>(by subst e;simp[Fr.isMv] at hg),fun age e=>(by subst e;simp[Fr.isMv] at hg)⟩
theorem ViewOk.moves (h:ViewOk s v)(T:Tree v.par){x y:Nat}{age:Int}{fl:List Tst}{old new:Nat}{r:List Fr}(hq:v.q x y=.move s age fl old new::r)(hy:y<size v.par)(hne:y≠old):
  ViewOk s {v with co:=put v.co y (some ⟨age,fl,some x,false⟩),q:=uR v.q x y r y (tB v.par y old) (.move s age fl old new)}:=by
 have hmv:v.mv x y=.move s age fl old new::r.filter Fr.isMv:=by unfold View.mv;rw[hq];rfl
 rcases h.ph.of_mem hmv with⟨h1,old',hu,hh,he,hno,hl,hc,hd,ho,hm,hdi,e⟩ | ⟨_,_,_,_,_,_,_,_,_,_,e⟩
 ·cases e
  have hyh:y≠new:=fun e=>by subst e;omega
  have hco:∀o,v.co y=some o→o.way≠none:=fun o hy'=>ho y o hy' (fun e=>e.elim hyh hne);have h2:=h.turn hco (o':=some ⟨v.age,v.fl,some x,false⟩) (fun o e=>by cases e;exact⟨by simp,Int.le_refl _⟩);have hn:=cB T hy hl.2 hne;refine⟨h2.facts,fun a b f hf=>?_,?_⟩
  ·rcases vR hq hf with hf | rfl
   ·exact h2.late a b f hf
   ·exact iQ rfl
  ·refine .moving new old y (tB v.par y old) hu hh he hno hl ?_ ?_ (fun b o hb hn' hw=>?_) (yP (v:={v with co:=_}) hq (by rfl) hm rfl (by rfl)) (by show lK v.par (tB v.par y old) old<lK v.par new old;omega)
   ·show put v.co y _ new=_;rw[kA _ _ hyh.symm];exact hc
   ·show put v.co y _ old=_;rw[kA _ _ hne.symm];exact hd
   ·have hb:put v.co y _ b=some o:=hb;by_cases e:b=y
    ·subst e;rw[put_same] at hb;cases hb;cases hw
    ·rw[kA _ _ e] at hb;exact ho b o hb hn' hw
 ·cases e
theorem ViewOk.turns (h:ViewOk s v){x y:Nat}{age:Int}{fl:List Tst}{new:Nat}{r:List Fr}(hq:v.q x y=.move s age fl y new::r){evs:List News}(hk:∀o,v.co y=some o→o.way=none→∀e,e∈evs→lC o.fl e.ev=true)(more:Int):
  ViewOk s {v with co:=put v.co y (some ⟨age,fl,some x,false⟩),q:=uR v.q x y r y x (.rest s evs more new)}∧∃o,v.co y=some o∧o.way=none:=by
 have hmv:v.mv x y=.move s age fl y new::r.filter Fr.isMv:=by unfold View.mv;rw[hq];rfl
 rcases h.ph.of_mem hmv with⟨h1,old',hu,hh,he,hno,hl,hc,hd,ho,hm,hdi,e⟩ | ⟨_,_,_,_,_,_,_,_,_,_,e⟩
 ·cases e
  refine⟨⟨fun b o hb=>?_,fun a b f hf=>?_,?_⟩,_,hd,rfl⟩
  ·have hb:put v.co y _ b=some o:=hb;by_cases e:b=y
   ·subst e;rw[put_same] at hb;cases hb;exact Int.le_refl _
   ·rw[kA _ _ e] at hb;exact h.facts b o hb
  ·rcases vR hq hf with hf | rfl
   ·refine bE0 (h.late a b f hf) (Int.le_refl _) (fun b o hb hw=>?_);have hb:put v.co y _ b=some o:=hb;by_cases e:b=y
    ·subst e;rw[put_same] at hb;cases hb;cases hw
    ·rw[kA _ _ e] at hb;exact hb
   ·exact iQ rfl
  ·refine .resting new y x evs more hu hh he ?_ (fun b o hb hn' hw=>?_) (yP (v:={v with co:=_}) hq (by rfl) hm rfl (by rfl)) (fun e he'=>hk _ hd rfl e he')
   ·show put v.co y _ new=_;rw[kA _ _ hno.symm];exact hc
   ·have hb:put v.co y _ b=some o:=hb;by_cases e:b=y
    ·subst e;rw[put_same] at hb;cases hb;cases hw
    ·rw[kA _ _ e] at hb;exact ho b o hb (fun x=>x.elim hn' e) hw
 ·cases e
theorem ViewOk.rests (h:ViewOk s v){x y z:Nat}{evs:List News}{more:Int}{new:Nat}{r:List Fr}(hq:v.q x y=.rest s evs more new::r):ViewOk s {v with q:=uR v.q x y r y z (.rest s evs more new)}:=by
 have hmv:v.mv x y=.rest s evs more new::r.filter Fr.isMv:=by unfold View.mv;rw[hq];rfl
 rcases h.ph.of_mem hmv with⟨_,_,_,_,_,_,_,_,_,_,_,_,e⟩ | ⟨h1,evs',more',hu,hh,he,hc,ho,hm,hk,e⟩
 ·cases e
 ·cases e
  refine⟨h.facts,fun a b f hf=>?_,.resting new y z evs more hu hh he hc ho (yP hq (by rfl) hm rfl (by rfl)) hk⟩;rcases vR hq hf with hf | rfl
  ·exact h.late a b f hf
  ·exact iQ rfl
theorem ViewOk.rested (h:ViewOk s v){x y:Nat}{evs:List News}{more:Int}{r:List Fr}(hq:v.q x y=.rest s evs more y::r):
  ViewOk s {v with co:=put v.co y (some ⟨v.age,v.fl,none,false⟩),q:=xB v.q x y r}∧v.co y=some ⟨v.age,v.fl,none,true⟩∧v.used=true∧v.here=some y∧∀e,e∈evs→lC v.fl e.ev=true:=by
 have hmv:v.mv x y=.rest s evs more y::r.filter Fr.isMv:=by unfold View.mv;rw[hq];rfl
 rcases h.ph.of_mem hmv with⟨_,_,_,_,_,_,_,_,_,_,_,_,e⟩ | ⟨h1,evs',more',hu,hh,he,hc,ho,hm,hk,e⟩
 ·cases e
 ·cases e
  have hsame:∀b o,put v.co y (some ⟨v.age,v.fl,none,false⟩) b=some o→o.way=none→∃o',v.co b=some o'∧o'.way=none∧o'.age=o.age:=fun b o hb hw=>by
   by_cases e:b=y
   ·subst e;rw[put_same] at hb;cases hb;exact⟨_,hc,rfl,rfl⟩
   ·rw[kA _ _ e] at hb;exact⟨o,hb,hw,rfl⟩
  refine⟨⟨fun b o hb=>?_,fun a b f hf=>?_,.on y hu hh (put_same _ _ _) (fun b o hb hn' hw=>?_) (fun a b=>?_)⟩,hc,hu,he,hk⟩
  ·have hb:put v.co y _ b=some o:=hb;by_cases e:b=y
   ·subst e;rw[put_same] at hb;cases hb;exact Int.le_refl _
   ·rw[kA _ _ e] at hb;exact h.facts b o hb
  ·have hf:f∈xB v.q x y r a b:=hf;have hf':f∈v.q a b:=by
    by_cases e1:a=x∧b=y
    ·obtain⟨rfl,rfl⟩:=e1;rw[put2_same] at hf;rw[hq];exact kO0 _ hf
    ·rw[jA _ _ e1] at hf;exact hf
   have hl:=h.late a b f hf';refine⟨fun age fl e=>⟨(hl.1 age fl e).1,fun b o hb hw=>?_⟩,fun age e=>⟨(hl.2 age e).1,fun b o hb hw=>?_⟩⟩
   ·obtain⟨o',h1,h2,h3⟩:=hsame b o hb hw;rw[←h3];exact(hl.1 age fl e).2 b o' h1 h2
   ·obtain⟨o',h1,h2,h3⟩:=hsame b o hb hw;rw[←h3];exact(hl.2 age e).2 b o' h1 h2
  ·have hb:put v.co y _ b=some o:=hb;rw[kA _ _ hn'] at hb;exact ho b o hb hn' hw
  ·show (xB v.q x y r a b).filter Fr.isMv=[]
   by_cases e1:a=x∧b=y
   ·obtain⟨rfl,rfl⟩:=e1;rw[put2_same];have:=hm.1;rw[hmv] at this;exact(List.cons.inj this).2
   ·rw[jA _ _ e1];exact hm.2 a b e1
theorem Phase.calm (p:Phase s v)(hw:v.used=true→∀b o,v.here=some b→v.co b=some o→o.waits=false):(v.used=false∧(v.but fun _=>False)∧v.noMv)∨∃h,v.used=true∧v.home=some h∧v.co h=some ⟨v.age,v.fl,none,false⟩∧(v.but fun b=>b=h)∧v.noMv:=by
 cases p with
 | off hu ho hm=>exact Or.inl ⟨hu,ho,hm⟩
 | on h hu hh hc ho hm=>exact Or.inr ⟨h,hu,hh,hc,ho,hm⟩
 | moving h old x y hu hh he hne hl hc hd ho hm hy=>have:=hw hu h _ he hc;cases this
 | resting h x y evs more hu hh he hc ho hm hk=>have:=hw hu h _ he hc;cases this
theorem ViewOk.here (h:ViewOk s v)(hw:v.used=true→∀b o,v.here=some b→v.co b=some o→o.waits=false)(x:Option Nat):ViewOk s {v with here:=x}:=by
 refine⟨h.facts,fun a b f hf=>h.late a b f hf,?_⟩;rcases h.ph.calm hw with⟨hu,ho,hm⟩ | ⟨h1,hu,hh,hc,ho,hm⟩
 ·exact .off hu ho hm
 ·exact .on h1 hu hh hc ho hm
theorem ViewOk.back (h:ViewOk s v)(hn:v.here=none){b:Nat}(hb:v.used=true→v.home=some b):ViewOk s {v with here:=some b,home:=some b}:=by
 refine⟨h.facts,fun a b f hf=>h.late a b f hf,?_⟩;rcases h.ph.calm (fun _ b' o e=>by rw[hn] at e;cases e) with⟨hu,ho,hm⟩ | ⟨h1,hu,hh,hc,ho,hm⟩
 ·exact .off hu ho hm
 ·have:h1=b:=by have:=hb hu;rw[hh] at this;exact bO0 this
  subst this;exact .on h1 hu rfl hc ho hm
theorem ViewOk.comes (h:ViewOk s v)(T:Tree v.par)(hn:v.here=none){b old:Nat}(hu:v.used=true)(hh:v.home=some old)(hb:b<size v.par)(ho:old<size v.par)(hne:b≠old):
  ViewOk s {v with age:=v.age+1,here:=some b,home:=some b,co:=put v.co b (some ⟨v.age+1,v.fl,none,true⟩),q:=xB v.q b (tB v.par b old) (v.q b (tB v.par b old)++[.move s (v.age+1) v.fl old b])}:=by
 rcases h.ph.calm (fun _ b' o e=>by rw[hn] at e;cases e) with⟨hu',_⟩ | ⟨h1,_,hh',hc,hbut,hm⟩
 ·rw[hu] at hu';cases hu'
 ·have:h1=old:=by rw[hh] at hh';exact(bO0 hh').symm
  subst this;have hcl:∀x o,put v.co b (some ⟨v.age+1,v.fl,none,true⟩) x=some o→(x=b∧o.age=v.age+1)∨v.co x=some o:=fun x o hx=>by
   by_cases e:x=b
   ·subst e;rw[put_same] at hx;cases hx;exact Or.inl ⟨rfl,rfl⟩
   ·rw[kA _ _ e] at hx;exact Or.inr hx
  have hst:=cB T hb ho hne;refine⟨fun x o hx=>?_,fun x y f hf=>?_,.moving b h1 b (tB v.par b h1) hu rfl rfl (fun e=>hne e.symm) ⟨hb,ho⟩ (put_same _ _ _) ?_ (fun x o hx hn' hw=>?_) ⟨?_,fun a c hac=>?_⟩ (by show lK v.par _ _<lK v.par _ _;omega)⟩
  ·rcases hcl x o hx with⟨_,e⟩ | e
   ·rw[e];exact Int.le_refl _
   ·have:=h.facts x o e;show o.age≤v.age+1;omega
  ·have hf:f∈xB v.q b (tB v.par b h1) (v.q b (tB v.par b h1)++[.move s (v.age+1) v.fl h1 b]) x y:=hf;have hf':f∈v.q x y∨f=.move s (v.age+1) v.fl h1 b:=by
    by_cases e1:x=b∧y=tB v.par b h1
    ·obtain⟨rfl,rfl⟩:=e1;rw[put2_same] at hf;exact(xP0.1 hf).imp id eO0.1
    ·rw[jA _ _ e1] at hf;exact Or.inl hf
   rcases hf' with hf' | rfl
   ·have hl:=h.late x y f hf';refine⟨fun age fl e=>⟨by have:=(hl.1 age fl e).1;show age≤v.age+1;omega,fun z o hz hw=>?_⟩,fun age e=>⟨by have:=(hl.2 age e).1;show age≤v.age+1;omega,fun z o hz hw=>?_⟩⟩
    ·rcases hcl z o hz with⟨_,e2⟩ | e2
     ·have:=(hl.1 age fl e).1;omega
     ·exact(hl.1 age fl e).2 z o e2 hw
    ·rcases hcl z o hz with⟨_,e2⟩ | e2
     ·have:=(hl.2 age e).1;omega
     ·exact(hl.2 age e).2 z o e2 hw
   ·exact iQ rfl
  ·show put v.co b _ h1=some ⟨v.age+1-1,v.fl,none,false⟩
   rw[kA _ _ (fun e=>hne e.symm),hc,Int.add_sub_cancel]
  ·have hx:put v.co b _ x=some o:=hx;rw[kA _ _ (fun e=>hn' (Or.inl e))] at hx;exact hbut x o hx (fun e=>hn' (Or.inr e)) hw
  ·show (xB v.q b (tB v.par b h1) _ b (tB v.par b h1)).filter Fr.isMv=_
   rw[put2_same,List.filter_append];have:=hm b (tB v.par b h1);unfold View.mv at this;rw[this];rfl
  ·show (xB v.q b (tB v.par b h1) _ a c).filter Fr.isMv=[]
   rw[jA _ _ hac];exact hm a c
theorem ViewOk.subs (h:ViewOk s v)(hu:v.used=false){b:Nat}(hh:v.home=some b)(l:List Tst){q:Nat→Nat→List Fr}(hq:∀x y f,f∈q x y→f∈v.q x y∨f=.sub s (v.age+1) l)(hm:∀x y,(q x y).filter Fr.isMv=v.mv x y):
  ViewOk s {v with used:=true,age:=v.age+1,fl:=l,co:=put v.co b (some ⟨v.age+1,l,none,false⟩),q:=q}:=by
 have hoff:(v.but fun _=>False)∧v.noMv:=by
  cases h.ph with
  | off hu ho hm=>exact⟨ho,hm⟩
  | on h hu' _ _ _ _=>rw[hu] at hu';cases hu'
  | moving _ _ _ _ hu' _ _ _ _ _ _ _ _ _=>rw[hu] at hu';cases hu'
  | resting _ _ _ _ _ hu' _ _ _ _ _ _=>rw[hu] at hu';cases hu'
 have hcl:∀x o,put v.co b (some ⟨v.age+1,l,none,false⟩) x=some o→(x=b∧o.age=v.age+1)∨(v.co x=some o∧o.way≠none):=fun x o hx=>by
  by_cases e:x=b
  ·subst e;rw[put_same] at hx;cases hx;exact Or.inl ⟨rfl,rfl⟩
  ·rw[kA _ _ e] at hx;exact Or.inr ⟨hx,hoff.1 x o hx id⟩
 refine⟨fun x o hx=>?_,fun x y f hf=>?_,.on b rfl hh (put_same _ _ _) (fun x o hx hn' hw=>?_) (fun x y=>(hm x y).trans (hoff.2 x y))⟩
 ·rcases hcl x o hx with⟨_,e⟩ | ⟨e,_⟩
  ·rw[e];exact Int.le_refl _
  ·have:=h.facts x o e;show o.age≤v.age+1;omega
 ·rcases hq x y f hf with hf' | rfl
  ·have hl:=h.late x y f hf';refine⟨fun age fl e=>⟨by have:=(hl.1 age fl e).1;show age≤v.age+1;omega,fun z o hz hw=>?_⟩,fun age e=>⟨by have:=(hl.2 age e).1;show age≤v.age+1;omega,fun z o hz hw=>?_⟩⟩
   ·rcases hcl z o hz with⟨_,e2⟩ | ⟨_,e2⟩
    ·have:=(hl.1 age fl e).1;omega
    ·exact absurd hw e2
   ·rcases hcl z o hz with⟨_,e2⟩ | ⟨_,e2⟩
    ·have:=(hl.2 age e).1;omega
    ·exact absurd hw e2
  ·refine⟨fun age fl e=>?_,fun age e=>by cases e⟩;cases e
   refine⟨Int.le_refl _,fun z o hz hw=>?_⟩;rcases hcl z o hz with⟨_,e2⟩ | ⟨_,e2⟩
   ·omega
   ·exact absurd hw e2
 ·rcases hcl x o hx with⟨e,_⟩ | ⟨_,e⟩
  ·exact hn' e
  ·exact e hw
theorem ViewOk.unsubs (h:ViewOk s v)(hu:v.used=true){b:Nat}(hh:v.home=some b)(hw:∀b o,v.here=some b→v.co b=some o→o.waits=false){q:Nat→Nat→List Fr}(hq:∀x y f,f∈q x y→f∈v.q x y∨f=.unsub s v.age)(hm:∀x y,(q x y).filter Fr.isMv=v.mv x y):
  ViewOk s {v with used:=false,co:=put v.co b none,q:=q}:=by
 rcases h.ph.calm (fun _=>hw) with⟨hu',_⟩ | ⟨h1,_,hh',hc,hbut,hn⟩
 ·rw[hu] at hu';cases hu'
 ·have:h1=b:=by rw[hh] at hh';exact(bO0 hh').symm
  subst this;have hcl:∀x o,put v.co h1 none x=some o→v.co x=some o∧o.way≠none:=fun x o hx=>by
   by_cases e:x=h1
   ·subst e;rw[put_same] at hx;cases hx
   ·rw[kA _ _ e] at hx;exact⟨hx,hbut x o hx e⟩
  refine⟨fun x o hx=>h.facts x o (hcl x o hx).1,fun x y f hf=>?_,.off rfl (fun x o hx _=>(hcl x o hx).2) (fun x y=>(hm x y).trans (hn x y))⟩;rcases hq x y f hf with hf' | rfl
  ·have hl:=h.late x y f hf';exact⟨fun age fl e=>⟨(hl.1 age fl e).1,fun z o hz hw=>absurd hw (hcl z o hz).2⟩,fun age e=>⟨(hl.2 age e).1,fun z o hz hw=>absurd hw (hcl z o hz).2⟩⟩
  ·refine⟨fun age fl e=>(by cases e),fun age e=>?_⟩;cases e
   exact⟨Int.le_refl _,fun z o hz hw=>absurd hw (hcl z o hz).2⟩
end
def aY (f:Fact):Prop:=(f.way=none→∀e,e∈f.kept→lC f.fl e.ev=true)∧(f.way≠none→f.kept=[]∧f.more=0∧f.waits=false)
structure Live (σ:Net):Prop where
 good:Good σ
 view:∀s,s<8→ViewOk s (σ.view s)
 kept:∀b s f,σ.kn b s=some f→aY f
 home:∀c,c<4→∀b,(σ.cl c).here=some b→(σ.cl c).home=some b
theorem lN {α β:Type}(h:α→β)(q:Nat→Nat→α)(a b:Nat)(r:α):(fun x y=>h (xB q a b r x y))=xB (fun x y=>h (q x y)) a b (h r):=by
 funext x y
 unfold xB;split<;>rfl
theorem cZ {α:Type}(f:Nat→α)(b:Nat){v:α}(h:f b=v):put f b v=f:=by
 funext x
 by_cases e:x=b
 ·subst e;rw[put_same,h]
 ·exact kA _ _ e
theorem qG {p:Fr→Bool}{f:Fr}(hp:p f=false)(x a b:Nat):∀(ys:List Nat) (σ:Net),((σ.pushAll x ys f).q a b).filter p=(σ.q a b).filter p
 | [],σ=>rfl
 | y::ys,σ=>by
  have ih:=qG hp x a b ys (σ.push x y f);simp only[Net.pushAll,List.foldl_cons] at ih ⊢;rw[ih];simp only[Net.push];by_cases e:a=x∧b=y
  ·obtain⟨rfl,rfl⟩:=e;rw[put2_same,List.filter_append];simp[hp]
  ·rw[jA _ _ e]
theorem rB0 {p:Fr→Bool}{q:Nat→Nat→List Fr}{a b:Nat}{f:Fr}{r:List Fr}(hq:q a b=f::r)(hp:p f=false)(x y:Nat):(xB q a b r x y).filter p=(q x y).filter p:=by
 by_cases e:x=a∧y=b
 ·obtain⟨rfl,rfl⟩:=e;rw[put2_same,hq,List.filter_cons,hp];rfl
 ·rw[jA _ _ e]
theorem dK (σ σ':Net)(s:Nat)(hp:σ'.par=σ.par)(hc:σ'.cl=σ.cl):σ'.view s={σ.view s with co:=fun b=>(σ'.kn b s).map Fact.co,q:=fun x y=>(σ'.q x y).filter (Fr.about s)}:=by simp[Net.view,hp,hc]
theorem aO {σ σ':Net}{s:Nat}(hp:σ'.par=σ.par)(hc:σ'.cl=σ.cl)(hk:∀b,(σ'.kn b s).map Fact.co=(σ.kn b s).map Fact.co)(hq:∀x y,(σ'.q x y).filter (Fr.about s)=(σ.q x y).filter (Fr.about s)):σ'.view s=σ.view s:=by
 simp only[Net.view,hp,hc,hk,hq]
theorem lG {σ:Net}{c:Nat}{x:Cli}(hu:x.used=(σ.cl c).used)(ha:x.age=(σ.cl c).age)(hf:x.fl=(σ.cl c).fl)(hh:x.home=(σ.cl c).home)(he:x.here=(σ.cl c).here)(s:Nat):(σ.setCl c x).view s=σ.view s:=by
 by_cases e:s/2=c
 ·subst e;simp[Net.view,Net.setCl,hu,ha,hf,hh,he]
 ·simp[Net.view,Net.setCl,kA _ _ e]
theorem eU (σ:Net)(t:Nat)(e:News)(s:Nat):(σ.tell t e).view s=σ.view s:=by
 unfold Net.tell Cli.tell;split
 ·refine lG ?_ ?_ ?_ ?_ ?_ s<;>rfl
 ·refine lG ?_ ?_ ?_ ?_ ?_ s<;>rfl
theorem eK (σ:Net)(t:Nat)(m:Int)(s:Nat):(σ.lose t m).view s=σ.view s:=by
 unfold Net.lose Cli.lose;split
 ·refine lG ?_ ?_ ?_ ?_ ?_ s<;>rfl
 ·refine lG ?_ ?_ ?_ ?_ ?_ s<;>rfl
theorem fE (t s:Nat):∀(l:List News) (σ:Net),(σ.tells t l).view s=σ.view s
 | [],_=>rfl
 | e::l,σ=>(fE t s l (σ.tell t e)).trans (eU σ t e s)
theorem vC (σ:Net){b s t:Nat}(h:s≠t)(o:Option Fact):(σ.know b t o).view s=σ.view s:=by
 refine aO rfl rfl (fun x=>?_) (fun _ _=>rfl);show (xB σ.kn b t o x s).map Fact.co=_
 rw[jA _ _ (fun e=>h e.2)]
theorem qD (σ:Net)(b s:Nat)(o:Option Fact):(σ.know b s o).view s={σ.view s with co:=put (σ.view s).co b (o.map Fact.co)}:=by
 rw[dK σ (σ.know b s o) s rfl rfl];have:(fun x=>((σ.know b s o).kn x s).map Fact.co)=put (σ.view s).co b (o.map Fact.co):=by
  funext x
  show (xB σ.kn b s o x s).map Fact.co=_
  by_cases e:x=b
  ·subst e;rw[put2_same,put_same]
  ·rw[jA _ _ (fun h=>e h.1),kA _ _ e];rfl
 rw[this];rfl
theorem xG {f:Fr}{s:Nat}(hf:f.about s=false)(x:Nat)(ys:List Nat)(σ:Net):(σ.pushAll x ys f).view s=σ.view s:=by
 have h:=rB (f:=f) (x:=x) ys σ;exact aO (pushAll_par _ _ _ _) h.2.1 (fun b=>by rw[h.1]) (fun a b=>qG hf x a b ys σ)
theorem kH {σ:Net}{a b:Nat}{f:Fr}{r:List Fr}(hq:σ.q a b=f::r){s:Nat}(hf:f.about s=false):({σ with q:=xB σ.q a b r}:Net).view s=σ.view s:=
 aO rfl rfl (fun _=>rfl) (fun x y=>rB0 hq hf x y)
theorem dU (σ:Net)(b:Nat)(e:News)(t s:Nat):(σ.hear b e t).view s=σ.view s:=by
 have key:∀f g:Fact,σ.kn b t=some f→g.co=f.co→(σ.know b t (some g)).view s=σ.view s:=fun f g hf hg=>by
  by_cases e:s=t
  ·subst e;rw[qD];have:put (σ.view s).co b ((some g).map Fact.co)=(σ.view s).co:=cZ _ _ (by show (σ.kn b s).map Fact.co=_;rw[hf];simp[hg])
   rw[this]
  ·exact vC σ e _
 unfold Net.hear;split
 ·rfl
 ·rename_i f hf
  split
  ·split
   ·exact key f _ hf rfl
   ·split
    ·exact key f _ hf rfl
    ·exact eU σ t e s
  ·rfl
theorem qM (b:Nat)(e:News)(s:Nat):∀(l:List Nat) (σ:Net),(σ.hears b e l).view s=σ.view s
 | [],_=>rfl
 | t::l,σ=>(qM b e s l (σ.hear b e t)).trans (dU σ b e t s)
theorem yX (σ:Net)(b:Nat)(e:News)(fr:Option Nat)(s:Nat):(σ.happens b e fr).view s=σ.view s:=
 (xG rfl _ _ _).trans (qM b e s (List.range 8) σ)
def Kept (σ:Net):Prop:=∀b s f,σ.kn b s=some f→aY f
theorem Kept.know {σ:Net}(h:Kept σ){b s:Nat}{o:Option Fact}(ho:∀f,o=some f→aY f):Kept (σ.know b s o):=fun x t f hf=>by
 have hf:xB σ.kn b s o x t=some f:=hf;by_cases e:x=b∧t=s
 ·obtain⟨rfl,rfl⟩:=e;rw[put2_same] at hf;exact ho f hf
 ·rw[jA _ _ e] at hf;exact h x t f hf
theorem Kept.hear {σ:Net}(h:Kept σ)(b:Nat)(e:News)(t:Nat):Kept (σ.hear b e t):=by
 unfold Net.hear;split
 ·exact h
 ·rename_i f hf
  split
  ·rename_i hm
   simp only[qP0,oP0] at hm;have hk:=h b t f hf;split
   ·refine h.know (fun g hg=>?_);cases hg;refine⟨fun hw o ho=>?_,fun hw=>absurd hm.2 hw⟩;rcases xP0.1 ho with ho | ho
    ·exact hk.1 hw o ho
    ·rw[eO0.1 ho];exact hm.1
   ·split
    ·refine h.know (fun g hg=>?_);cases hg;exact⟨fun hw o ho=>hk.1 hw o ho,fun hw=>absurd hm.2 hw⟩
    ·exact h
  ·exact h
theorem Kept.hears (b:Nat)(e:News):∀(l:List Nat) {σ:Net},Kept σ→Kept (σ.hears b e l)
 | [],_,h=>h
 | t::l,_,h=>Kept.hears b e l (h.hear b e t)
theorem Kept.of_kn {σ σ':Net}(h:Kept σ)(hk:σ'.kn=σ.kn):Kept σ':=fun b s f hf=>h b s f (by rw[←hk];exact hf)
def Homed (σ:Net):Prop:=∀c,c<4→∀b,(σ.cl c).here=some b→(σ.cl c).home=some b
theorem Homed.of_cl {σ σ':Net}(h:Homed σ)(hc:∀c,(σ'.cl c).here=(σ.cl c).here∧(σ'.cl c).home=(σ.cl c).home):Homed σ':=fun c h4 b hb=>by
 rw[(hc c).2];rw[(hc c).1] at hb;exact h c h4 b hb
theorem fO {σ:Net}{c:Nat}{x:Cli}(he:x.here=(σ.cl c).here)(hh:x.home=(σ.cl c).home)(d:Nat):((σ.setCl c x).cl d).here=(σ.cl d).here∧((σ.setCl c x).cl d).home=(σ.cl d).home:=by
 by_cases e:d=c
 ·subst e;simp[Net.setCl,he,hh]
 ·simp[Net.setCl,kA _ _ e]
theorem pF0 (σ:Net)(t:Nat)(e:News)(d:Nat):((σ.tell t e).cl d).here=(σ.cl d).here∧((σ.tell t e).cl d).home=(σ.cl d).home:=by
 unfold Net.tell Cli.tell;split
 ·refine fO ?_ ?_ d<;>rfl
 ·refine fO ?_ ?_ d<;>rfl
theorem eY (σ:Net)(t:Nat)(m:Int)(d:Nat):((σ.lose t m).cl d).here=(σ.cl d).here∧((σ.lose t m).cl d).home=(σ.cl d).home:=by
 unfold Net.lose Cli.lose;split
 ·refine fO ?_ ?_ d<;>rfl
 ·refine fO ?_ ?_ d<;>rfl
theorem gK (t d:Nat):∀(l:List News) (σ:Net),((σ.tells t l).cl d).here=(σ.cl d).here∧((σ.tells t l).cl d).home=(σ.cl d).home
 | [],_=>⟨rfl,rfl⟩
 | e::l,σ=>by
  have h1:=gK t d l (σ.tell t e);have h2:=pF0 σ t e d;exact⟨h1.1.trans h2.1,h1.2.trans h2.2⟩
theorem oF0 (σ:Net)(b:Nat)(e:News)(t d:Nat):((σ.hear b e t).cl d).here=(σ.cl d).here∧((σ.hear b e t).cl d).home=(σ.cl d).home:=by
 unfold Net.hear;split
 ·exact⟨rfl,rfl⟩
 ·split
  ·split
   ·exact⟨rfl,rfl⟩
   ·split
    ·exact⟨rfl,rfl⟩
    ·exact pF0 σ t e d
  ·exact⟨rfl,rfl⟩
theorem kT (b:Nat)(e:News)(d:Nat):∀(l:List Nat) (σ:Net),((σ.hears b e l).cl d).here=(σ.cl d).here∧((σ.hears b e l).cl d).home=(σ.cl d).home
 | [],_=>⟨rfl,rfl⟩
 | t::l,σ=>by
  have h1:=kT b e d l (σ.hear b e t);have h2:=oF0 σ b e t d;exact⟨h1.1.trans h2.1,h1.2.trans h2.2⟩
theorem Live.happens {σ:Net}(L:Live σ)(b:Nat)(e:News)(fr:Option Nat):Live (σ.happens b e fr):=by
 have hp:=rB (f:=.event e) (x:=b) (σ.targets b e fr) ((List.range 8).foldl (fun σ s=>σ.hear b e s) σ);refine⟨L.good.happens b e fr,fun s hs=>by rw[yX];exact L.view s hs,?_,?_⟩
 ·exact Kept.of_kn (Kept.hears b e (List.range 8) L.kept) hp.1
 ·exact Homed.of_cl L.home (fun c=>by
   have:(σ.happens b e fr).cl=(σ.hears b e (List.range 8)).cl:=hp.2.1
   rw[this];exact kT b e c (List.range 8) σ)
theorem tL (s:Nat)(l:List Fr):(l.filter (Fr.about s)).filter Fr.isMv=l.filter (fun f=>Fr.isMv f && Fr.about s f):=List.filter_filter ..
theorem iZ {σ:Net}{a b:Nat}{f:Fr}{r:List Fr}(hq:σ.q a b=f::r)(hf:f.isMv=false){s:Nat}(V:ViewOk s (σ.view s)){τ:Net}(hτ:τ.q=xB σ.q a b r)(ys:List Nat):
  ViewOk s {σ.view s with q:=fun x y=>((τ.pushAll b ys f).q x y).filter (Fr.about s)}:=by
 refine V.frames (fun x y g hg=>?_) (fun x y=>?_)
 ·obtain⟨hg,hab⟩:=dO0.1 hg;rcases(rH ys τ).1 hg with hg | ⟨_,_,rfl⟩
  ·left
   rw[hτ] at hg;refine dO0.2 ⟨?_,hab⟩;by_cases e:x=a∧y=b
   ·obtain⟨rfl,rfl⟩:=e;rw[put2_same] at hg;rw[hq];exact kO0 _ hg
   ·rw[jA _ _ e] at hg;exact hg
  ·right
   exact V.late a b g (dO0.2 ⟨by rw[hq];exact lO0 ..,hab⟩)
 ·show (((τ.pushAll b ys f).q x y).filter (Fr.about s)).filter Fr.isMv=((σ.q x y).filter (Fr.about s)).filter Fr.isMv
  have hp:(fun f=>Fr.isMv f && Fr.about s f) f=false:=by simp[hf]
  rw[tL,tL,qG hp,hτ,rB0 hq hp]
theorem Live.sub {σ:Net}(L:Live σ){a b:Nat}{t:Nat}{age:Int}{fl:List Tst}{r:List Fr}(hq:σ.q a b=.sub t age fl::r)(s:Nat)(hs:s<8):
  ViewOk s ((Net.handle {σ with q:=xB σ.q a b r} b (some a) (.sub t age fl)).view s):=by
 have V:=L.view s hs;simp only[Net.handle,Net.spread];obtain⟨ys,hys⟩:∃ys,ys=(Net.learn {σ with q:=xB σ.q a b r} b t age fl (some a)).others b (some a):=⟨_,rfl⟩;rw[←hys];have hk:=mD {σ with q:=xB σ.q a b r} b t age fl (some a);obtain⟨τ,hτ⟩:∃τ,τ=Net.learn {σ with q:=xB σ.q a b r} b t age fl (some a):=⟨_,rfl⟩;rw[←hτ] at hk ⊢;have hpa:=rB (f:=.sub t age fl) (x:=b) ys τ;have V1:=iZ hq rfl V (τ:=τ) hk.2.1 ys;rw[dK σ (τ.pushAll b ys (.sub t age fl)) s ((pushAll_par _ _ _ _).trans hk.1) (hpa.2.1.trans hk.2.2.2)];rw[hpa.1];have same:(∀x,(τ.kn x s).map Fact.co=(σ.kn x s).map Fact.co)→ViewOk s {σ.view s with co:=fun x=>(τ.kn x s).map Fact.co,q:=fun x y=>((τ.pushAll b ys (.sub t age fl)).q x y).filter (Fr.about s)}:=fun h=>by
  have:(fun x=>(τ.kn x s).map Fact.co)=(σ.view s).co:=by funext x;exact h x
  rw[this];exact V1
 have new:(∀g,σ.kn b t=some g→g.age<age)→τ.kn=xB σ.kn b t (some ⟨age,fl,some a,[],0,false⟩)→ViewOk s {σ.view s with co:=fun x=>(τ.kn x s).map Fact.co,q:=fun x y=>((τ.pushAll b ys (.sub t age fl)).q x y).filter (Fr.about s)}:=fun hg hkn=>by
  by_cases e:s=t
  ·subst e;have hl:=(V.late a b (.sub s age fl) (dO0.2 ⟨by rw[hq];exact lO0 ..,by simp[Fr.about]⟩)).1 age fl rfl
   have:=V1.turn (b:=b) (fun o ho hw=>by
    have ho:(σ.kn b s).map Fact.co=some o:=ho;cases hf:σ.kn b s with
    | none=>rw[hf] at ho;cases ho
    | some g=>
     have h1:=hg g hf;have h2:=hl.2 b o ho hw;rw[hf] at ho;cases ho;simp only[Fact.co] at h2
     omega) (o':=some ⟨age,fl,some a,false⟩) (fun o ho=>by cases ho;exact⟨by simp,hl.1⟩)
   have hco:(fun x=>(τ.kn x s).map Fact.co)=put (σ.view s).co b (some ⟨age,fl,some a,false⟩):=by
    funext x
    rw[hkn];by_cases e1:x=b
    ·subst e1;rw[put2_same,put_same];rfl
    ·rw[jA _ _ (fun h=>e1 h.1),kA _ _ e1];rfl
   rw[hco];exact this
  ·exact same (fun x=>by rw[hkn,jA _ _ (fun h=>e h.2)])
 have hle:τ.kn=xB σ.kn b t (some ⟨age,fl,some a,[],0,false⟩)∧(∀g,σ.kn b t=some g→g.age<age)∨τ.kn=σ.kn:=by
  rw[hτ];unfold Net.learn;split
  ·rename_i hn
   exact Or.inl ⟨rfl,fun g hg=>by rw[show σ.kn b t=none from hn] at hg;cases hg⟩
  ·rename_i g hg
   split
   ·rename_i hlt
    exact Or.inl ⟨rfl,fun g' hg'=>by rw[show σ.kn b t=some g from hg] at hg';cases hg';exact hlt⟩
   ·exact Or.inr rfl
 rcases hle with⟨h1,h2⟩ | h1
 ·exact new h2 h1
 ·exact same (fun x=>by rw[h1])
theorem Live.unsub {σ:Net}(L:Live σ){a b:Nat}{t:Nat}{age:Int}{r:List Fr}(hq:σ.q a b=.unsub t age::r)(s:Nat)(hs:s<8):
  ViewOk s ((Net.handle {σ with q:=xB σ.q a b r} b (some a) (.unsub t age)).view s):=by
 have V:=L.view s hs;simp only[Net.handle,Net.spread];obtain⟨ys,hys⟩:∃ys,ys=(Net.forget {σ with q:=xB σ.q a b r} b t age).others b (some a):=⟨_,rfl⟩;rw[←hys];have hk:=xD {σ with q:=xB σ.q a b r} b t age;obtain⟨τ,hτ⟩:∃τ,τ=Net.forget {σ with q:=xB σ.q a b r} b t age:=⟨_,rfl⟩;rw[←hτ] at hk ⊢;have hpa:=rB (f:=.unsub t age) (x:=b) ys τ;have V1:=iZ hq rfl V (τ:=τ) hk.2.1 ys;rw[dK σ (τ.pushAll b ys (.unsub t age)) s ((pushAll_par _ _ _ _).trans hk.1) (hpa.2.1.trans hk.2.2.2)];rw[hpa.1];have same:(∀x,(τ.kn x s).map Fact.co=(σ.kn x s).map Fact.co)→ViewOk s {σ.view s with co:=fun x=>(τ.kn x s).map Fact.co,q:=fun x y=>((τ.pushAll b ys (.unsub t age)).q x y).filter (Fr.about s)}:=fun h=>by
  have:(fun x=>(τ.kn x s).map Fact.co)=(σ.view s).co:=by funext x;exact h x
  rw[this];exact V1
 have hle:(τ.kn=xB σ.kn b t none∧∃g,σ.kn b t=some g∧g.age≤age)∨τ.kn=σ.kn:=by
  rw[hτ];unfold Net.forget;split
  ·exact Or.inr rfl
  ·rename_i g hg
   split
   ·rename_i hle
    exact Or.inl ⟨rfl,g,hg,hle⟩
   ·exact Or.inr rfl
 rcases hle with⟨hkn,g,hg,hage⟩ | h1
 ·by_cases e:s=t
  ·subst e;have hl:=(V.late a b (.unsub s age) (dO0.2 ⟨by rw[hq];exact lO0 ..,by simp[Fr.about]⟩)).2 age rfl
   have:=V1.turn (b:=b) (fun o ho hw=>by
    have ho:(σ.kn b s).map Fact.co=some o:=ho;have h2:=hl.2 b o ho hw;rw[hg] at ho;cases ho;simp only[Fact.co] at h2
    omega) (o':=none) (fun o ho=>by cases ho)
   have hco:(fun x=>(τ.kn x s).map Fact.co)=put (σ.view s).co b none:=by
    funext x
    rw[hkn];by_cases e1:x=b
    ·subst e1;rw[put2_same,put_same];rfl
    ·rw[jA _ _ (fun h=>e1 h.1),kA _ _ e1];rfl
   rw[hco];exact this
  ·exact same (fun x=>by rw[hkn,jA _ _ (fun h=>e h.2)])
 ·exact same (fun x=>by rw[h1])
theorem lE {f:Fr}{s:Nat}(hf:f.about s=false)(x y:Nat)(σ:Net):(σ.push x y f).view s=σ.view s:=xG hf x [y] σ
theorem oC0 {σ:Net}{s a b:Nat}{r:List Fr}{x' y':Nat}{g:Fr}(hg:g.about s=true):
  (fun x y=>(xB (xB σ.q a b r) x' y' (xB σ.q a b r x' y'++[g]) x y).filter (Fr.about s))=uR (σ.view s).q a b (r.filter (Fr.about s)) x' y' g:=by
 have h1:=lN (List.filter (Fr.about s)) σ.q a b r;have h2:=lN (List.filter (Fr.about s)) (xB σ.q a b r) x' y' (xB σ.q a b r x' y'++[g]);have h3:(xB σ.q a b r x' y').filter (Fr.about s)=xB (fun x y=>(σ.q x y).filter (Fr.about s)) a b (r.filter (Fr.about s)) x' y':=congrFun (congrFun h1 x') y';rw[h2,h1,List.filter_append,h3];have:[g].filter (Fr.about s)=[g]:=by simp[hg]
 rw[this];rfl
theorem xY {σ:Net}{s a b:Nat}{f:Fr}{r:List Fr}(hq:σ.q a b=f::r)(hf:f.about s=true):(σ.view s).q a b=f::r.filter (Fr.about s):=by
 show (σ.q a b).filter (Fr.about s)=_
 rw[hq,List.filter_cons,if_pos hf]
section
variable {σ : Net} {a b t : Nat} {r : List Fr}
theorem Live.moveV (L:Live σ){age:Int}{fl:List Tst}{old new:Nat}(hq:σ.q a b=.move t age fl old new::r)(s:Nat)(hs:s<8):
  ViewOk s ((Net.handle {σ with q:=xB σ.q a b r} b (some a) (.move t age fl old new)).view s):=by
 have V:=L.view s hs;have hn:=L.good.nbr a b (by rw[hq];simp)
 have hb:=(bB L.good.tree hn).2;by_cases e:s=t
 ·subst e;have hab:(Fr.move s age fl old new).about s=true:=by simp[Fr.about]
  have hq':=xY hq hab;have hco:∀o:Option Fact,(fun x=>(xB σ.kn b s o x s).map Fact.co)=put (σ.view s).co b (o.map Fact.co):=fun o=>by
   funext x
   by_cases e1:x=b
   ·subst e1;rw[put2_same,put_same]
   ·rw[jA _ _ (fun h=>e1 h.1),kA _ _ e1];rfl
  simp only[Net.handle];split
  ·rename_i hbo
   subst hbo;obtain⟨o,ho,hw⟩:=(V.turns hq' (evs:=[]) (fun _ _ _ _ he=>by cases he) 0).2;have ho:(σ.kn b s).map Fact.co=some o:=ho;obtain⟨f,hf⟩:∃f,σ.kn b s=some f:=by
    cases hk:σ.kn b s with
    | none=>rw[hk] at ho;cases ho
    | some f=>exact⟨f,rfl⟩
   have hf':({σ with q:=xB σ.q a b r}:Net).kn b s=some f:=hf;rw[hf'];simp only
   have:=(V.turns hq' (evs:=f.kept) (fun o' ho' hw' e he=>by
    have ho':(σ.kn b s).map Fact.co=some o':=ho';rw[hf] at ho';cases ho'
    exact(L.kept b s f hf).1 hw' e he) f.more).1
   show ViewOk s {σ.view s with co:=fun x=>(xB σ.kn b s _ x s).map Fact.co,q:=fun x y=>(xB (xB σ.q a b r) b a (xB σ.q a b r b a++[_]) x y).filter (Fr.about s)}
   rw[hco,oC0 (by simp[Fr.about])];exact this
  ·rename_i hbo
   have:=V.moves (T:=L.good.tree) hq' hb hbo;show ViewOk s {σ.view s with co:=fun x=>(xB σ.kn b s _ x s).map Fact.co,q:=fun x y=>(xB (xB σ.q a b r) b (tB σ.par b old) (xB σ.q a b r b (tB σ.par b old)++[_]) x y).filter (Fr.about s)}
   rw[hco,oC0 hab];exact this
 ·have hne:∀age fl o n,(Fr.move t age fl o n).about s=false:=fun _ _ _ _=>by simp[Fr.about];exact fun h=>e h.symm
  have hne2:∀evs m n,(Fr.rest t evs m n).about s=false:=fun _ _ _=>by simp[Fr.about];exact fun h=>e h.symm
  simp only[Net.handle];split
  ·rw[lE (by split<;>exact hne2 _ _ _),vC _ e,kH hq (hne _ _ _ _)];exact V
  ·rw[lE (hne _ _ _ _),vC _ e,kH hq (hne _ _ _ _)];exact V
theorem Live.restV (L:Live σ){evs:List News}{m:Int}{new:Nat}(hq:σ.q a b=.rest t evs m new::r)(s:Nat)(hs:s<8):
  ViewOk s ((Net.handle {σ with q:=xB σ.q a b r} b (some a) (.rest t evs m new)).view s):=by
 have V:=L.view s hs;by_cases e:s=t
 ·subst e;have hab:(Fr.rest s evs m new).about s=true:=by simp[Fr.about]
  have hq':=xY hq hab;simp only[Net.handle];split
  ·have:=V.rests (z:=tB σ.par b new) hq';show ViewOk s {σ.view s with co:=(σ.view s).co,q:=fun x y=>(xB (xB σ.q a b r) b (tB σ.par b new) (xB σ.q a b r b (tB σ.par b new)++[_]) x y).filter (Fr.about s)}
   rw[oC0 hab];exact this
  ·rename_i hbn
   have hbn:b=new:=by simpa using hbn
   subst hbn;obtain⟨h1,h2,_⟩:=V.rested hq';have h2:(σ.kn b s).map Fact.co=_:=h2;cases hk:σ.kn b s with
   | none=>rw[hk] at h2;cases h2
   | some f=>
    simp only;rw[qD,fE,fE,eK];rw[hk] at h2;have hc:f.co=⟨(σ.view s).age,(σ.view s).fl,none,true⟩:=bO0 h2;have hc1:f.age=(σ.view s).age:=congrArg Co.age hc;have hc2:f.fl=(σ.view s).fl:=congrArg Co.fl hc;have hc3:f.way=none:=congrArg Co.way hc;have hv:({σ with q:=xB σ.q a b r}:Net).view s={σ.view s with q:=xB (σ.view s).q a b (r.filter (Fr.about s))}:=by
     show {σ.view s with co:=(σ.view s).co,q:=fun x y=>(xB σ.q a b r x y).filter (Fr.about s)}=_
     rw[lN (List.filter (Fr.about s)) σ.q a b r];rfl
    rw[hv];simp only[Option.map_some,Fact.co,hc1,hc2,hc3];exact h1
 ·have hne:∀evs m n,(Fr.rest t evs m n).about s=false:=fun _ _ _=>by simp[Fr.about];exact fun h=>e h.symm
  simp only[Net.handle];split
  ·rw[lE (hne _ _ _),kH hq (hne _ _ _)];exact V
  ·split
   ·rw[kH hq (hne _ _ _)];exact V
   ·rw[vC _ e,fE,fE,eK,kH hq (hne _ _ _)];exact V
theorem fG (age:Int)(fl:List Tst)(way:Option Nat):aY ⟨age,fl,way,[],0,false⟩:=⟨fun _ e he=>(by cases he),fun _=>⟨rfl,rfl,rfl⟩⟩
theorem Live.handle (L:Live σ){f:Fr}(hq:σ.q a b=f::r):Live (Net.handle {σ with q:=xB σ.q a b r} b (some a) f):=by
 have hn:=L.good.nbr a b (by rw[hq];simp)
 have hn':iB σ.par b a=true:=by rw[tP];exact hn
 have hf:=L.good.frames a b f (by rw[hq];exact lO0 ..);have G':Good {σ with q:=xB σ.q a b r}:=L.good.pop hq;have K0:Kept {σ with q:=xB σ.q a b r}:=Kept.of_kn L.kept rfl;have H0:Homed {σ with q:=xB σ.q a b r}:=L.home;have GH:Good (Net.handle {σ with q:=xB σ.q a b r} b (some a) f):=G'.handle hn' hf;cases f with
 | sub t age fl=>
  refine⟨GH,L.sub hq,?_,?_⟩
  ·simp only[Net.handle,Net.spread];refine Kept.of_kn (σ:=Net.learn {σ with q:=xB σ.q a b r} b t age fl (some a)) ?_ (rB _ _).1;unfold Net.learn;split
   ·exact K0.know (fun g hg=>by cases hg;exact fG _ _ _)
   ·split
    ·exact K0.know (fun g hg=>by cases hg;exact fG _ _ _)
    ·exact K0
  ·refine Homed.of_cl H0 (fun c=>?_);simp only[Net.handle,Net.spread];rw[(rB _ _).2.1,(mD _ _ _ _ _ _).2.2.2];exact⟨rfl,rfl⟩
 | unsub t age=>
  refine⟨GH,L.unsub hq,?_,?_⟩
  ·simp only[Net.handle,Net.spread];refine Kept.of_kn (σ:=Net.forget {σ with q:=xB σ.q a b r} b t age) ?_ (rB _ _).1;unfold Net.forget;split
   ·exact K0
   ·split
    ·exact K0.know (fun g hg=>by cases hg)
    ·exact K0
  ·refine Homed.of_cl H0 (fun c=>?_);simp only[Net.handle,Net.spread];rw[(rB _ _).2.1,(xD _ _ _ _).2.2.2];exact⟨rfl,rfl⟩
 | event e=>
  have L0:Live {σ with q:=xB σ.q a b r}:=⟨G',fun s hs=>by rw[kH hq rfl];exact L.view s hs,K0,H0⟩;exact L0.happens b e (some a)
 | move t age fl old new=>
  refine⟨GH,L.moveV hq,?_,?_⟩
  ·simp only[Net.handle];split
   ·exact Kept.of_kn (K0.know (b:=b) (s:=t) (o:=some ⟨age,fl,some a,[],0,false⟩) (fun g hg=>by cases hg;exact fG _ _ _)) rfl
   ·exact Kept.of_kn (K0.know (b:=b) (s:=t) (o:=some ⟨age,fl,some a,[],0,false⟩) (fun g hg=>by cases hg;exact fG _ _ _)) rfl
  ·refine Homed.of_cl H0 (fun c=>?_);simp only[Net.handle];split<;>exact⟨rfl,rfl⟩
 | rest t evs m new=>
  refine⟨GH,L.restV hq,?_,?_⟩
  ·simp only[Net.handle];split
   ·exact Kept.of_kn K0 rfl
   ·split
    ·exact K0
    ·rename_i f hf
     have hk:=K0 b t f hf;refine Kept.know (Kept.of_kn K0 ?_) (fun g hg=>?_)
     ·rw[(jB _ _ _).2.2.2,(jB _ _ _).2.2.2];rfl
     ·cases hg;exact⟨fun _ e he=>(by cases he),fun hw=>⟨rfl,(hk.2 hw).2.1,rfl⟩⟩
  ·refine Homed.of_cl H0 (fun c=>?_);simp only[Net.handle];split
   ·exact⟨rfl,rfl⟩
   ·split
    ·exact⟨rfl,rfl⟩
    ·have h1:=eY {σ with q:=xB σ.q a b r} t m c;have h2:=gK t c evs (Net.lose {σ with q:=xB σ.q a b r} t m);rename_i f hf
     have h3:=gK t c f.kept ((Net.lose {σ with q:=xB σ.q a b r} t m).tells t evs);exact⟨(h3.1.trans h2.1).trans h1.1,(h3.2.trans h2.2).trans h1.2⟩
theorem Live.del (L:Live σ)(x y:Int):Live (σ.del x y):=by
 unfold Net.del;split
 ·split
  ·rename_i f r hq
   exact L.handle hq
  ·exact L
 ·exact L
end
section
variable {σ : Net}
theorem Kept.setCl (h:Kept σ)(c:Nat)(x:Cli):Kept (σ.setCl c x):=h.of_kn rfl
theorem Homed.setCl (h:Homed σ){c:Nat}{x:Cli}(hx:∀b,x.here=some b→x.home=some b):Homed (σ.setCl c x):=fun d hd b hb=>by
 by_cases e:d=c
 ·subst e;simp only[Net.setCl,put_same] at hb ⊢;exact hx b hb
 ·simp only[Net.setCl,kA _ _ e] at hb ⊢;exact h d hd b hb
theorem rE {c:Nat}(x:Cli){s:Nat}(h:s/2≠c):(σ.setCl c x).view s=σ.view s:=by simp[Net.view,Net.setCl,kA _ _ h]
theorem zE (c:Nat)(x:Cli):(σ.setCl c x).weight=σ.weight:=pC rfl rfl
theorem mJ (b s:Nat)(o:Option Fact):(σ.know b s o).weight=σ.weight:=pC rfl rfl
theorem Live.setCl (L:Live σ){c:Nat}(hc:c<4){x:Cli}(hu:x.used=(σ.cl c).used)(ha:x.age=(σ.cl c).age)(hf:x.fl=(σ.cl c).fl)(hh:x.home=(σ.cl c).home)(he:x.here=(σ.cl c).here):Live (σ.setCl c x):=by
 have C:=L.good.clis c hc;refine⟨L.good.setCl ⟨by rw[he];exact C.here,by rw[hh];exact C.home,by rw[hu,hf];exact C.fil⟩,fun s hs=>by rw[lG hu ha hf hh he];exact L.view s hs,Kept.setCl L.kept c x,Homed.setCl L.home (fun b hb=>?_)⟩;rw[hh];rw[he] at hb;exact L.home c hc b hb
theorem Live.log (L:Live σ)(c:Int)(hc:0≤c∧c<4):Live (σ.log c):=by
 unfold Net.log;split
 ·refine L.setCl (by omega) ?_ ?_ ?_ ?_ ?_<;>rfl
 ·exact L
theorem vA0 {c b:Nat}(hh:(σ.cl c).here=some b)(hw:σ.waits c=false){s:Nat}(hs:s/2=c):(σ.view s).used=true→∀b' o,(σ.view s).here=some b'→(σ.view s).co b'=some o→o.waits=false:=fun hu b' o hb' ho=>by
 have hb':(σ.cl (s/2)).here=some b':=hb';rw[hs,hh] at hb';cases hb'
 have ho:(σ.kn b s).map Fact.co=some o:=ho;cases hk:σ.kn b s with
 | none=>rw[hk] at ho;cases ho
 | some f=>
  rw[hk] at ho;cases ho;have hu:(σ.cl (s/2)).used (s%2)=true:=hu;unfold Net.waits at hw;rw[hh] at hw;simp only[List.any_eq_false,yP0,qP0,not_and,Bool.not_eq_true] at hw;have:=hw (s%2) (by omega) (by rw[←hs];exact hu);rw[show 2*c+s%2=s by omega,hk] at this;exact this
theorem Live.detach (L:Live σ)(c:Int)(hc:0≤c∧c<4):Live (σ.detach c):=by
 unfold Net.detach;split
 ·rename_i hE
  have hst:σ.still c.toNat=0:=by
   unfold Net.detachE at hE;split at hE
   ·rename_i h;exact absurd hE h
   ·exact hE
  unfold Net.still at hst;have hh:(σ.cl c.toNat).here≠none:=fun h=>by rw[if_pos h] at hst;cases hst
  rw[if_neg hh] at hst;have hw:σ.waits c.toNat=false:=by
   cases h:σ.waits c.toNat with
   | false=>rfl
   | true=>rw[h] at hst;cases hst
  obtain⟨b,hb⟩:=Option.ne_none_iff_exists'.1 hh;have C:=L.good.clis c.toNat (by omega);refine⟨L.good.setCl ⟨fun b hb=>(by cases hb),C.home,C.fil⟩,fun s hs=>?_,Kept.setCl L.kept _ _,Homed.setCl L.home (fun b hb=>(by cases hb))⟩;by_cases e:s/2=c.toNat
  ·have:=(L.view s hs).here (vA0 hb hw e) none;have hv:(σ.setCl c.toNat {σ.cl c.toNat with here:=none}).view s={σ.view s with here:=none}:=by
    rw[←e];simp[Net.view,Net.setCl]
   rw[hv];exact this
  ·rw[rE _ e];exact L.view s hs
 ·exact L
theorem lR {b:Nat}{f:Fr}(hf:f.isMv=false){s:Nat}{τ:Net}(hτ:τ.q=σ.q)(ys:List Nat):
  (∀x y g,g∈((τ.pushAll b ys f).q x y).filter (Fr.about s)→g∈(σ.view s).q x y∨g=f)∧∀x y,(((τ.pushAll b ys f).q x y).filter (Fr.about s)).filter Fr.isMv=(σ.view s).mv x y:=by
 refine⟨fun x y g hg=>?_,fun x y=>?_⟩
 ·obtain⟨hg,hab⟩:=dO0.1 hg;rcases(rH ys τ).1 hg with hg | ⟨_,_,rfl⟩
  ·rw[hτ] at hg;exact Or.inl (dO0.2 ⟨hg,hab⟩)
  ·exact Or.inr rfl
 ·show _=((σ.q x y).filter (Fr.about s)).filter Fr.isMv
  have hp:(fun f=>Fr.isMv f && Fr.about s f) f=false:=by simp[hf]
  rw[tL,tL,qG hp,hτ]
theorem Live.subN (L:Live σ){c b k:Nat}(hc:c<4)(hk:k<2)(hh:(σ.cl c).here=some b)(hu:(σ.cl c).used k=false){l:List Tst}(hl:yB l=true):Live (σ.subN c b k l):=by
 have C:=L.good.clis c hc;have hb:=C.here b hh;have hs2:(2*c+k)/2=c:=by omega
 have hs3:(2*c+k)%2=k:=by omega
 obtain⟨x',hx'⟩:∃x':Cli,x'={σ.cl c with used:=put (σ.cl c).used k true,age:=put (σ.cl c).age k ((σ.cl c).age k+1),fl:=put (σ.cl c).fl k l,told:=put (σ.cl c).told k []}:=⟨_,rfl⟩;obtain⟨τ,hτ⟩:∃τ,τ=(σ.setCl c x').know b (2*c+k) (some ⟨(σ.cl c).age k+1,l,none,[],0,false⟩):=⟨_,rfl⟩;have hN:σ.subN c b k l=τ.pushAll b (τ.others b none) (.sub (2*c+k) ((σ.cl c).age k+1) l):=by rw[hτ,hx'];rfl
 rw[hN];have Gτ:Good τ:=by
  rw[hτ];refine(L.good.setCl (c:=c) (x:=x') ?_).know (fun g hg=>?_)
  ·rw[hx'];refine⟨C.here,C.home,fun j hj=>?_⟩;by_cases e:j=k
   ·subst e;simp only[put_same];exact hl
   ·simp only[kA _ _ e] at hj ⊢;exact C.fil j hj
  ·cases hg;exact⟨hb,by omega,hl,fun y hy=>(by cases hy),Int.le_refl _⟩
 have hpa:=rB (f:=.sub (2*c+k) ((σ.cl c).age k+1) l) (x:=b) (τ.others b none) τ;refine⟨Good.pushAll _ Gτ (fun y hy=>(yD hy).1) ⟨by omega,hl⟩,fun s hs=>?_,?_,?_⟩
 ·have V:=L.view s hs;by_cases e:s=2*c+k
  ·subst e;have hq:=lR (σ:=σ) (b:=b) (f:=.sub (2*c+k) ((σ.cl c).age k+1) l) rfl (s:=2*c+k) (τ:=τ) (by rw[hτ];rfl) (τ.others b none);have hage:(σ.view (2*c+k)).age=(σ.cl c).age k:=by simp[Net.view,hs2,hs3]
   have:=V.subs (by simp[Net.view,hs2,hs3,hu]) (b:=b) (by simp only[Net.view,hs2];exact L.home c hc b hh) l (fun x y f hf=>by rw[hage];exact hq.1 x y f hf) hq.2;rw[hage] at this;have hv:(τ.pushAll b (τ.others b none) (.sub (2*c+k) ((σ.cl c).age k+1) l)).view (2*c+k)={σ.view (2*c+k) with used:=true,age:=(σ.cl c).age k+1,fl:=l,co:=put (σ.view (2*c+k)).co b (some ⟨(σ.cl c).age k+1,l,none,false⟩),q:=fun x y=>((τ.pushAll b (τ.others b none) (.sub (2*c+k) ((σ.cl c).age k+1) l)).q x y).filter (Fr.about (2*c+k))}:=by
    rw[dK τ _ _ (pushAll_par _ _ _ _) hpa.2.1,hpa.1];have h1:τ.view (2*c+k)={σ.view (2*c+k) with used:=true,age:=(σ.cl c).age k+1,fl:=l,co:=put (σ.view (2*c+k)).co b (some ⟨(σ.cl c).age k+1,l,none,false⟩)}:=by
     rw[hτ,qD,hx'];simp[Net.view,Net.setCl,hs2,hs3,Fact.co]
    rw[show (fun x=>(τ.kn x (2*c+k)).map Fact.co)=(τ.view (2*c+k)).co from rfl,h1]
   rw[hv];exact this
  ·rw[xG (by simp[Fr.about];exact fun h=>e h.symm),hτ,vC _ e];by_cases e2:s/2=c
   ·have e3:s%2≠k:=by omega
    have hv:(σ.setCl c x').view s=σ.view s:=by
     rw[hx',←e2];simp[Net.view,Net.setCl,kA _ _ e3]
    rw[hv];exact V
   ·rw[rE _ e2];exact V
 ·refine Kept.of_kn ?_ hpa.1;rw[hτ];exact(Kept.setCl L.kept _ _).know (fun g hg=>by cases hg;exact fG _ _ _)
 ·refine Homed.of_cl (σ:=σ.setCl c x') (Homed.setCl L.home (fun b hb=>?_)) (fun d=>by rw[hpa.2.1,hτ];exact⟨rfl,rfl⟩);rw[hx'] at hb ⊢;exact L.home c hc b hb
theorem Live.unsubN (L:Live σ){c b k:Nat}(hc:c<4)(hk:k<2)(hh:(σ.cl c).here=some b)(hu:(σ.cl c).used k=true)(hw:σ.waits c=false):
  Live (((σ.setCl c {σ.cl c with used:=put (σ.cl c).used k false}).know b (2*c+k) none).spread b none (.unsub (2*c+k) ((σ.cl c).age k))):=by
 have C:=L.good.clis c hc;have hb:=C.here b hh;have hs2:(2*c+k)/2=c:=by omega
 have hs3:(2*c+k)%2=k:=by omega
 obtain⟨x',hx'⟩:∃x':Cli,x'={σ.cl c with used:=put (σ.cl c).used k false}:=⟨_,rfl⟩;rw[←hx'];obtain⟨τ,hτ⟩:∃τ,τ=(σ.setCl c x').know b (2*c+k) none:=⟨_,rfl⟩;unfold Net.spread;rw[←hτ];have Gτ:Good τ:=by
  rw[hτ];refine(L.good.setCl (c:=c) (x:=x') ?_).know (fun g hg=>by cases hg);rw[hx'];refine⟨C.here,C.home,fun j hj=>?_⟩;by_cases e:j=k
  ·subst e;simp only[put_same] at hj;cases hj
  ·simp only[kA _ _ e] at hj ⊢;exact C.fil j hj
 have hpa:=rB (f:=.unsub (2*c+k) ((σ.cl c).age k)) (x:=b) (τ.others b none) τ;refine⟨Good.pushAll _ Gτ (fun y hy=>(yD hy).1) (by show 2*c+k<8;omega),fun s hs=>?_,?_,?_⟩
 ·have V:=L.view s hs;by_cases e:s=2*c+k
  ·subst e;have hq:=lR (σ:=σ) (b:=b) (f:=.unsub (2*c+k) ((σ.cl c).age k)) rfl (s:=2*c+k) (τ:=τ) (by rw[hτ];rfl) (τ.others b none);have hage:(σ.view (2*c+k)).age=(σ.cl c).age k:=by simp[Net.view,hs2,hs3]
   have huv:(σ.view (2*c+k)).used=true:=by simp[Net.view,hs2,hs3,hu]
   have:=V.unsubs huv (b:=b) (by simp only[Net.view,hs2];exact L.home c hc b hh) (vA0 hh hw hs2 huv) (fun x y f hf=>by rw[hage];exact hq.1 x y f hf) hq.2;have hv:(τ.pushAll b (τ.others b none) (.unsub (2*c+k) ((σ.cl c).age k))).view (2*c+k)={σ.view (2*c+k) with used:=false,co:=put (σ.view (2*c+k)).co b none,q:=fun x y=>((τ.pushAll b (τ.others b none) (.unsub (2*c+k) ((σ.cl c).age k))).q x y).filter (Fr.about (2*c+k))}:=by
    rw[dK τ _ _ (pushAll_par _ _ _ _) hpa.2.1,hpa.1];have h1:τ.view (2*c+k)={σ.view (2*c+k) with used:=false,co:=put (σ.view (2*c+k)).co b none}:=by
     rw[hτ,qD,hx'];simp[Net.view,Net.setCl,hs2,hs3]
    rw[show (fun x=>(τ.kn x (2*c+k)).map Fact.co)=(τ.view (2*c+k)).co from rfl,h1]
   rw[hv];exact this
  ·rw[xG (by simp[Fr.about];exact fun h=>e h.symm),hτ,vC _ e];by_cases e2:s/2=c
   ·have e3:s%2≠k:=by omega
    have hv:(σ.setCl c x').view s=σ.view s:=by
     rw[hx',←e2];simp[Net.view,Net.setCl,kA _ _ e3]
    rw[hv];exact V
   ·rw[rE _ e2];exact V
 ·refine Kept.of_kn ?_ hpa.1;rw[hτ];exact(Kept.setCl L.kept _ _).know (fun g hg=>by cases hg)
 ·refine Homed.of_cl (σ:=σ.setCl c x') (Homed.setCl L.home (fun b hb=>?_)) (fun d=>by rw[hpa.2.1,hτ];exact⟨rfl,rfl⟩);rw[hx'] at hb ⊢;exact L.home c hc b hb
end
section
variable {σ : Net}
theorem pM (c b k s:Nat):(σ.backs c b k).view s=σ.view s:=by
 unfold Net.backs;split
 ·split
  ·rfl
  ·rename_i f hf
   by_cases e:s=2*c+k
   ·subst e;rw[qD,fE,eK];have:put (σ.view (2*c+k)).co b ((some {f with kept:=[],more:=0}).map Fact.co)=(σ.view (2*c+k)).co:=cZ _ _ (by show (σ.kn b (2*c+k)).map Fact.co=_;rw[hf];rfl);rw[this]
   ·rw[vC _ e,fE,eK]
 ·rfl
theorem aF (c b k:Nat):(σ.backs c b k).par=σ.par∧(σ.backs c b k).q=σ.q∧(σ.backs c b k).closed=σ.closed∧∀d,((σ.backs c b k).cl d).here=(σ.cl d).here∧((σ.backs c b k).cl d).home=(σ.cl d).home:=by
 unfold Net.backs;split
 ·split
  ·exact⟨rfl,rfl,rfl,fun _=>⟨rfl,rfl⟩⟩
  ·rename_i f hf
   have h:=jB (2*c+k) f.kept (σ.lose (2*c+k) f.more);refine⟨h.1,h.2.1,h.2.2.1,fun d=>?_⟩;have h1:=eY σ (2*c+k) f.more d;have h2:=gK (2*c+k) d f.kept (σ.lose (2*c+k) f.more);exact⟨h2.1.trans h1.1,h2.2.trans h1.2⟩
 ·exact⟨rfl,rfl,rfl,fun _=>⟨rfl,rfl⟩⟩
theorem Live.backs (L:Live σ){c b k:Nat}(hc:c<4)(hk:k<2):Live (σ.backs c b k):=by
 have hkeep:=aF (σ:=σ) c b k;refine⟨?_,fun s hs=>by rw[pM];exact L.view s hs,?_,Homed.of_cl L.home hkeep.2.2.2⟩
 ·unfold Net.backs;split
  ·split
   ·exact L.good
   ·rename_i f hf
    have F:=L.good.facts _ _ _ hf;have h:=jB (2*c+k) f.kept (σ.lose (2*c+k) f.more);refine(Good.tells (by omega) _ (L.good.lose (by omega) _)).know (fun g hg=>?_);cases hg;rw[h.1];exact⟨F.bro,F.sub,F.fil,F.way,Int.le_refl _⟩
  ·exact L.good
 ·unfold Net.backs;split
  ·split
   ·exact L.kept
   ·rename_i f hf
    have hk:=L.kept b _ f hf;refine Kept.know (Kept.of_kn L.kept ?_) (fun g hg=>?_)
    ·rw[(jB _ _ _).2.2.2];rfl
    ·cases hg;exact⟨fun _ e he=>(by cases he),fun hw=>⟨rfl,rfl,(hk.2 hw).2.2⟩⟩
  ·exact L.kept
theorem jP (c b s:Nat):(σ.arrive c b).view s=if s/2=c then {σ.view s with here:=some b,home:=some b} else σ.view s:=by
 split
 ·rename_i e;subst e;simp[Net.arrive,Net.view,Net.setCl]
 ·rename_i e;exact rE _ e
theorem xQ (G:Good σ){c b:Nat}(hc:c<4)(hb:b<σ.n):Good (σ.arrive c b):=
 G.setCl ⟨fun x hx=>(by cases hx;exact hb),fun x hx=>(by cases hx;exact hb),(G.clis c hc).fil⟩
theorem dN (h:Homed σ)(c b:Nat):Homed (σ.arrive c b):=Homed.setCl h (fun x hx=>(by cases hx;rfl))
theorem Live.arrive (L:Live σ){c b:Nat}(hc:c<4)(hb:b<σ.n)(hn:(σ.cl c).here=none)(hh:∀k,k<2→(σ.cl c).used k=true→(σ.cl c).home=some b):Live (σ.arrive c b):=by
  refine⟨xQ L.good hc hb,fun s hs=>?_,Kept.setCl L.kept _ _,dN L.home c b⟩;rw[jP];split
  · rename_i e
    have e':(σ.cl (s/2))=σ.cl c:=by rw[e]
    exact(L.view s hs).back (by show (σ.cl (s/2)).here=none;rw[e'];exact hn) (fun hu=>by
      have hu:(σ.cl (s/2)).used (s%2)=true:=hu;show (σ.cl (s/2)).home=some b
      rw[e'] at hu ⊢
      exact hh (s%2) (by omega) hu)
  · exact L.view s hs
theorem oH {c b old k s:Nat}(h:s≠2*c+k):(σ.comes c b old k).view s=σ.view s:=by
 simp only[Net.comes];split
 ·rw[lE (by simp[Fr.about];exact fun e=>h e.symm),vC _ h];by_cases e2:s/2=c
  ·have e3:s%2≠k:=by omega
   rw[←e2];simp[Net.view,Net.setCl,kA _ _ e3]
  ·exact rE _ e2
 ·rfl
theorem dW {c b old k:Nat}(hu:(σ.cl c).used k=false):σ.comes c b old k=σ:=by simp[Net.comes,hu]
theorem qT {c b old k:Nat}(hk:k<2)(hu:(σ.cl c).used k=true):(σ.comes c b old k).view (2*c+k)={σ.view (2*c+k) with age:=(σ.view (2*c+k)).age+1,co:=put (σ.view (2*c+k)).co b (some ⟨(σ.view (2*c+k)).age+1,(σ.view (2*c+k)).fl,none,true⟩),q:=xB (σ.view (2*c+k)).q b (tB σ.par b old) ((σ.view (2*c+k)).q b (tB σ.par b old)++[.move (2*c+k) ((σ.view (2*c+k)).age+1) (σ.view (2*c+k)).fl old b])}:=by
 have hs2:(2*c+k)/2=c:=by omega
 have hs3:(2*c+k)%2=k:=by omega
 have hage:(σ.view (2*c+k)).age=(σ.cl c).age k:=by simp[Net.view,hs2,hs3]
 have hfl:(σ.view (2*c+k)).fl=(σ.cl c).fl k:=by simp[Net.view,hs2,hs3]
 obtain⟨τ,hτ⟩:∃τ,τ=(σ.setCl c {σ.cl c with age:=put (σ.cl c).age k ((σ.cl c).age k+1)}).know b (2*c+k) (some ⟨(σ.cl c).age k+1,(σ.cl c).fl k,none,[],0,true⟩):=⟨_,rfl⟩;have hN:σ.comes c b old k=τ.push b (tB σ.par b old) (.move (2*c+k) ((σ.cl c).age k+1) ((σ.cl c).fl k) old b):=by rw[hτ];simp only[Net.comes,hu,if_true]
 have h1:τ.view (2*c+k)={σ.view (2*c+k) with age:=(σ.cl c).age k+1,co:=put (σ.view (2*c+k)).co b (some ⟨(σ.cl c).age k+1,(σ.cl c).fl k,none,true⟩)}:=by
  rw[hτ,qD];simp[Net.view,Net.setCl,hs2,hs3,Fact.co]
 rw[hN,hage,hfl,dK τ (τ.push b (tB σ.par b old) (.move (2*c+k) ((σ.cl c).age k+1) ((σ.cl c).fl k) old b)) _ rfl rfl];have hq:(fun x y=>((τ.push b (tB σ.par b old) (.move (2*c+k) ((σ.cl c).age k+1) ((σ.cl c).fl k) old b)).q x y).filter (Fr.about (2*c+k)))=xB (τ.view (2*c+k)).q b (tB σ.par b old) ((τ.view (2*c+k)).q b (tB σ.par b old)++[.move (2*c+k) ((σ.cl c).age k+1) ((σ.cl c).fl k) old b]):=by
  have:=lN (List.filter (Fr.about (2*c+k))) τ.q b (tB σ.par b old) (τ.q b (tB σ.par b old)++[.move (2*c+k) ((σ.cl c).age k+1) ((σ.cl c).fl k) old b]);refine this.trans ?_;rw[List.filter_append];simp[Fr.about,Net.view]
 rw[hq];show View.mk (τ.view (2*c+k)).par (τ.view (2*c+k)).used (τ.view (2*c+k)).age (τ.view (2*c+k)).fl (τ.view (2*c+k)).home (τ.view (2*c+k)).here (τ.view (2*c+k)).co (xB (τ.view (2*c+k)).q b (tB σ.par b old) ((τ.view (2*c+k)).q b (tB σ.par b old)++[.move (2*c+k) ((σ.cl c).age k+1) ((σ.cl c).fl k) old b]))=_
 rw[h1]
theorem bF (c b old k:Nat):(σ.comes c b old k).par=σ.par∧(σ.comes c b old k).closed=σ.closed∧∀d,((σ.comes c b old k).cl d).here=(σ.cl d).here∧((σ.comes c b old k).cl d).home=(σ.cl d).home∧((σ.comes c b old k).cl d).used=(σ.cl d).used∧((σ.comes c b old k).cl d).fl=(σ.cl d).fl:=by
 simp only[Net.comes];split
 ·refine⟨rfl,rfl,fun d=>?_⟩;by_cases e:d=c
  ·subst e;simp[Net.push,Net.know,Net.setCl]
  ·simp[Net.push,Net.know,Net.setCl,kA _ _ e]
 ·exact⟨rfl,rfl,fun _=>⟨rfl,rfl,rfl,rfl⟩⟩
theorem aS (G:Good σ){c b old k:Nat}(hc:c<4)(hk:k<2)(hb:b<σ.n)(ho:old<σ.n)(hne:b≠old):Good (σ.comes c b old k)∧(σ.comes c b old k).weight≤σ.weight+14:=by
 simp only[Net.comes];split
 ·rename_i hu
  have C:=G.clis c hc;have hn:=cB G.tree hb ho hne;have h6:=dB G.tree hn.1;have G1:Good ((σ.setCl c {σ.cl c with age:=put (σ.cl c).age k ((σ.cl c).age k+1)}).know b (2*c+k) (some ⟨(σ.cl c).age k+1,(σ.cl c).fl k,none,[],0,true⟩)):=
   Good.know (G.setCl (c:=c) (x:={σ.cl c with age:=put (σ.cl c).age k ((σ.cl c).age k+1)}) ⟨C.here,C.home,C.fil⟩) (o:=some ⟨(σ.cl c).age k+1,(σ.cl c).fl k,none,[],0,true⟩) (fun g hg=>by cases hg;exact⟨hb,by omega,C.fil k hu,fun y hy=>(by cases hy),Int.le_refl _⟩)
  refine⟨G1.push hn.1 ⟨by omega,C.fil k hu,ho,hb⟩,?_⟩;rw[dF _ h6.1 h6.2,mJ,zE];have hwt:=(aB0 (σ:=σ) G.tree hn.1 (.move (2*c+k) ((σ.cl c).age k+1) ((σ.cl c).fl k) old b)).2;exact Nat.add_le_add_left hwt _
 ·exact⟨G,by omega⟩
theorem pS (h:Kept σ)(c b old k:Nat):Kept (σ.comes c b old k):=by
 simp only[Net.comes];split
 ·exact Kept.of_kn ((Kept.setCl h c {σ.cl c with age:=put (σ.cl c).age k ((σ.cl c).age k+1)}).know (b:=b) (s:=2*c+k) (o:=some ⟨(σ.cl c).age k+1,(σ.cl c).fl k,none,[],0,true⟩) (fun g hg=>by cases hg;exact⟨fun _ e he=>(by cases he),fun hw=>absurd rfl hw⟩)) rfl
 ·exact h
theorem Live.elsewhere (L:Live σ){c b old:Nat}(hc:c<4)(hb:b<σ.n)(hn:(σ.cl c).here=none)(hh:(σ.cl c).home=some old)(hne:b≠old):Live (((σ.comes c b old 0).comes c b old 1).arrive c b)∧(((σ.comes c b old 0).comes c b old 1).arrive c b).weight≤σ.weight+28:=by
 have C:=L.good.clis c hc;have ho:=C.home old hh;obtain⟨σ1,h1⟩:∃σ1,σ1=σ.comes c b old 0:=⟨_,rfl⟩;obtain⟨σ2,h2⟩:∃σ2,σ2=σ1.comes c b old 1:=⟨_,rfl⟩;rw[←h1,←h2];have k1:=bF (σ:=σ) c b old 0;have k2:=bF (σ:=σ1) c b old 1;rw[←h1] at k1;rw[←h2] at k2;have g1:=aS L.good hc (k:=0) (by omega) hb ho hne;rw[←h1] at g1;have g2:=aS g1.1 hc (k:=1) (by omega) (by unfold Net.n;rw[k1.1];exact hb) (by unfold Net.n;rw[k1.1];exact ho) hne;rw[←h2] at g2;have hb2:b<σ2.n:=by unfold Net.n;rw[k2.1,k1.1];exact hb
 refine⟨⟨xQ g2.1 hc hb2,fun s hs=>?_,?_,dN (Homed.of_cl L.home (fun d=>?_)) c b⟩,?_⟩
 ·rw[jP];have V:=L.view s hs;split
  ·rename_i e
   have hhere:(σ.view s).here=none:=by show (σ.cl (s/2)).here=none;rw[e];exact hn
   have hhome:(σ.view s).home=some old:=by show (σ.cl (s/2)).home=some old;rw[e];exact hh
   have hpar:(σ.view s).par=σ.par:=rfl;rcases(by omega:s=2*c+0∨s=2*c+1) with e2 | e2
   ·have hv:σ2.view s=σ1.view s:=by rw[h2];exact oH (by omega)
    rw[hv];cases hu:(σ.cl c).used 0 with
    | true=>
     rw[h1,e2,qT (by omega) hu,←e2];exact V.comes L.good.tree hhere (by show (σ.cl (s/2)).used (s%2)=true;rw[e,show s%2=0 by omega];exact hu) hhome hb ho hne
    | false=>
     rw[h1,dW hu]
     exact V.back hhere (fun hu'=>by
      have hu':(σ.cl (s/2)).used (s%2)=true:=hu'
      rw[e,show s%2=0 by omega,hu] at hu';cases hu')
   ·have hv:σ1.view s=σ.view s:=by rw[h1];exact oH (by omega)
    have hu1:(σ1.cl c).used=(σ.cl c).used:=(k1.2.2 c).2.2.1;cases hu:(σ.cl c).used 1 with
    | true=>
     rw[h2,e2,qT (by omega) (by rw[hu1];exact hu),←e2,hv,k1.1];exact V.comes L.good.tree hhere (by show (σ.cl (s/2)).used (s%2)=true;rw[e,show s%2=1 by omega];exact hu) hhome hb ho hne
    | false=>
     rw[h2,dW (by rw[hu1];exact hu),hv]
     exact V.back hhere (fun hu'=>by
      have hu':(σ.cl (s/2)).used (s%2)=true:=hu'
      rw[e,show s%2=1 by omega,hu] at hu';cases hu')
  ·rename_i e
   have hv:σ2.view s=σ.view s:=by rw[h2,oH (by omega),h1,oH (by omega)]
   rw[hv];exact V
 ·refine Kept.setCl ?_ _ _;rw[h2,h1];exact pS (pS L.kept _ _ _ _) _ _ _ _
 ·exact⟨((k2.2.2 d).1).trans (k1.2.2 d).1,((k2.2.2 d).2.1).trans (k1.2.2 d).2.1⟩
 ·have:(σ2.arrive c b).weight=σ2.weight:=pC rfl rfl;omega
theorem Live.home_ (L:Live σ){c b:Nat}(hc:c<4)(hb:b<σ.n)(hn:(σ.cl c).here=none)(hh:(σ.cl c).home=none∨(σ.cl c).home=some b):Live (((σ.backs c b 0).backs c b 1).arrive c b)∧(((σ.backs c b 0).backs c b 1).arrive c b).weight=σ.weight:=by
 have k1:=aF (σ:=σ) c b 0;have k2:=aF (σ:=σ.backs c b 0) c b 1;refine⟨((L.backs hc (by omega)).backs hc (by omega)).arrive hc (by unfold Net.n;rw[k2.1,k1.1];exact hb) (by rw[(k2.2.2.2 c).1,(k1.2.2.2 c).1];exact hn) (fun k hk hu=>?_),?_⟩
 ·have hv:(((σ.backs c b 0).backs c b 1).view (2*c+k)).used=(σ.view (2*c+k)).used:=by rw[pM,pM]
  have hs2:(2*c+k)/2=c:=by omega
  have hs3:(2*c+k)%2=k:=by omega
  have hu0:(σ.cl c).used k=true:=by
   simp only[Net.view,hs2,hs3] at hv;rw[←hv];exact hu
  rw[(k2.2.2.2 c).2,(k1.2.2.2 c).2];rcases hh with hh | hh
  ·have V:=(L.view (2*c+k) (by omega)).ph.calm (fun _ b' o e=>by
    have e:(σ.cl ((2*c+k)/2)).here=some b':=e
    rw[hs2,hn] at e;cases e)
   rcases V with⟨h1,_⟩ | ⟨h,_,h2,_⟩
   ·simp only[Net.view,hs2,hs3] at h1;rw[hu0] at h1;cases h1
   ·simp only[Net.view,hs2] at h2;rw[hh] at h2;cases h2
  ·exact hh
 ·exact pC (k2.1.trans k1.1) (k2.2.1.trans k1.2.1)
end
structure Alive (σ:Net):Prop where
 live:Live σ
 wt:σ.weight≤1500
section
variable {σ : Net}
theorem tD {g:Bool}(h:¬σ.asked g≠0):σ.closed=false∧g=true:=by
 unfold Net.asked at h;split at h
 ·simp at h
 ·rename_i h1
  split at h
  ·rename_i h2;exact⟨by simpa using h1,h2⟩
  ·simp at h
theorem Alive.attach (A:Alive σ)(c b:Int):Alive (σ.attach c b):=by
 unfold Net.attach;split
 ·rename_i hE
  unfold Net.attachE at hE;split at hE
  ·rename_i h;exact absurd hE h
  ·rename_i hA
   have hA:=tD hA;simp only[qP0,dA,Net.isBro,oP0] at hA;split at hE
   ·cases hE
   ·rename_i hh
    split at hE
    ·cases hE
    ·rename_i hful
     have hn:(σ.cl c.toNat).here=none:=by simpa using hh
     have hw:=sF A.live.good.linked (by simpa using hful);unfold Net.attachN;split
     ·rename_i hm
      have:=A.live.home_ (c:=c.toNat) (b:=b.toNat) (by omega) (by omega) hn (Or.inl hm);exact⟨this.1,by omega⟩
     ·rename_i h hm
      split
      ·rename_i e
       subst e;have:=A.live.home_ (c:=c.toNat) (b:=b.toNat) (by omega) (by omega) hn (Or.inr hm);exact⟨this.1,by omega⟩
      ·rename_i e
       have:=A.live.elsewhere (c:=c.toNat) (b:=b.toNat) (by omega) (by omega) hn hm (fun x=>e x.symm);exact⟨this.1,by omega⟩
 ·exact A
theorem Alive.detach (A:Alive σ)(c:Int):Alive (σ.detach c):=by
 by_cases hc:0≤c∧c<4
 ·refine⟨A.live.detach c hc,?_⟩;unfold Net.detach;split
  ·rw[zE];exact A.wt
  ·exact A.wt
 ·have:σ.detach c=σ:=by
   unfold Net.detach;split
   ·rename_i hE
    unfold Net.detachE at hE;split at hE
    ·rename_i h;exact absurd hE h
    ·rename_i h
     have:=(tD h).2;simp only[dA,oP0] at this;exact absurd this hc
   ·rfl
  rw[this];exact A
theorem Alive.sub (A:Alive σ)(c:Int)(l:List Tst):Alive (σ.sub c l):=by
 unfold Net.sub;split
 ·rename_i hE
  unfold Net.subE at hE;split at hE
  ·rename_i h;exact absurd hE h
  ·rename_i hA
   have hA:=(tD hA).2;simp only[qP0,dA,oP0] at hA;split at hE
   ·rename_i h;exact absurd hE h
   ·split at hE
    ·cases hE
    ·rename_i hu
     split at hE
     ·cases hE
     ·rename_i hful
      have hw:=sF A.live.good.linked (by simpa using hful);split
      ·rename_i b hb
       have hbn:=(A.live.good.clis c.toNat (by omega)).here b hb;refine⟨A.live.subN (by omega) (by unfold Net.slot;split<;>omega) hb (by simpa using hu) hA.2,?_⟩
       have:=vH (σ:=(σ.setCl c.toNat {σ.cl c.toNat with used:=put (σ.cl c.toNat).used (σ.slot c.toNat) true,age:=put (σ.cl c.toNat).age (σ.slot c.toNat) ((σ.cl c.toNat).age (σ.slot c.toNat)+1),fl:=put (σ.cl c.toNat).fl (σ.slot c.toNat) l,told:=put (σ.cl c.toNat).told (σ.slot c.toNat) []}).know b (2*c.toNat+σ.slot c.toNat) (some ⟨(σ.cl c.toNat).age (σ.slot c.toNat)+1,l,none,[],0,false⟩)) A.live.good.tree (b:=b) hbn (f:=.sub (2*c.toNat+σ.slot c.toNat) ((σ.cl c.toNat).age (σ.slot c.toNat)+1) l) (fun _ _=>rfl);rw[mJ,zE] at this;have this2:(σ.subN c.toNat b (σ.slot c.toNat) l).weight≤σ.weight+5:=this;omega
      ·exact A
 ·exact A
theorem Alive.unsub (A:Alive σ)(c k:Int):Alive (σ.unsub c k):=by
 unfold Net.unsub;split
 ·rename_i hE
  unfold Net.unsubE at hE;split at hE
  ·rename_i h;exact absurd hE h
  ·rename_i hA
   have hA:=(tD hA).2;simp only[qP0,dA,oP0] at hA;split at hE
   ·rename_i h;exact absurd hE h
   ·rename_i hst
    have hst:σ.still c.toNat=0:=by simpa using hst
    split at hE
    ·rename_i hu
     split at hE
     ·cases hE
     ·rename_i hful
      have hw:=sF A.live.good.linked (by simpa using hful);split
      ·rename_i b hb
       have hbn:=(A.live.good.clis c.toNat (by omega)).here b hb;have hwt:σ.waits c.toNat=false:=by
        unfold Net.still at hst;rw[if_neg (by rw[hb];simp)] at hst
        cases h:σ.waits c.toNat with
        | false=>rfl
        | true=>rw[h] at hst;cases hst
       refine⟨A.live.unsubN (by omega) (by omega) hb hu hwt,?_⟩;have:=vH (σ:=(σ.setCl c.toNat {σ.cl c.toNat with used:=put (σ.cl c.toNat).used k.toNat false}).know b (2*c.toNat+k.toNat) none) A.live.good.tree (b:=b) hbn (f:=.unsub (2*c.toNat+k.toNat) ((σ.cl c.toNat).age k.toNat)) (fun _ _=>rfl);rw[mJ,zE] at this;omega
      ·exact A
    ·cases hE
 ·exact A
theorem Alive.del (A:Alive σ)(x y:Int):Alive (σ.del x y):=⟨A.live.del x y,mO0 (A.live.good.del x y).2.1 A.wt⟩
theorem Alive.log (A:Alive σ)(c:Int):Alive (σ.log c):=by
 by_cases hc:0≤c∧c<4
 ·refine⟨A.live.log c hc,?_⟩;unfold Net.log;split
  ·rw[zE];exact A.wt
  ·exact A.wt
 ·have:σ.log c=σ:=by
   unfold Net.log;split
   ·rename_i hE
    unfold Net.logE at hE;have:=(tD (by simpa using hE)).2;simp only[dA,oP0] at this;exact absurd this hc
   ·rfl
  rw[this];exact A
end
def aR:Fr→List News
 | .event e=>[e]
 | .rest _ evs _ _=>evs
 | _=>[]
structure Pubs (E:List News)(σ:Net):Prop where
 fr:∀x y f,f∈σ.q x y→∀e,e∈aR f→e∈E
 kn:∀b s f,σ.kn b s=some f→∀e,e∈f.kept→e∈E
 told:∀c k,∀e,e∈(σ.cl c).told k→e∈E
section
variable {E : List News} {σ : Net}
theorem Pubs.push (P:Pubs E σ){x y:Nat}{f:Fr}(hf:∀e,e∈aR f→e∈E):Pubs E (σ.push x y f):=by
 refine⟨fun a b g hg=>?_,P.kn,P.told⟩;have hg:g∈xB σ.q x y (σ.q x y++[f]) a b:=hg;by_cases e:a=x∧b=y
 ·obtain⟨rfl,rfl⟩:=e;rw[put2_same] at hg;rcases xP0.1 hg with hg | hg
  ·exact P.fr _ _ g hg
  ·rw[eO0.1 hg];exact hf
 ·rw[jA _ _ e] at hg;exact P.fr a b g hg
theorem Pubs.pushAll {f:Fr}(hf:∀e,e∈aR f→e∈E)(x:Nat):∀(ys:List Nat) {σ:Net},Pubs E σ→Pubs E (σ.pushAll x ys f)
 | [],_,P=>P
 | y::ys,_,P=>Pubs.pushAll hf x ys (P.push (x:=x) (y:=y) hf)
theorem Pubs.know (P:Pubs E σ){b s:Nat}{o:Option Fact}(ho:∀f,o=some f→∀e,e∈f.kept→e∈E):Pubs E (σ.know b s o):=by
 refine⟨P.fr,fun x t f hf=>?_,P.told⟩;have hf:xB σ.kn b s o x t=some f:=hf;by_cases e:x=b∧t=s
 ·obtain⟨rfl,rfl⟩:=e;rw[put2_same] at hf;exact ho f hf
 ·rw[jA _ _ e] at hf;exact P.kn x t f hf
theorem Pubs.setCl (P:Pubs E σ){c:Nat}{x:Cli}(hx:∀k e,e∈x.told k→e∈E):Pubs E (σ.setCl c x):=by
 refine⟨P.fr,P.kn,fun d k e he=>?_⟩;by_cases h:d=c
 ·subst h;simp only[Net.setCl,put_same] at he;exact hx k e he
 ·simp only[Net.setCl,kA _ _ h] at he;exact P.told d k e he
theorem Pubs.tell (P:Pubs E σ)(s:Nat){e:News}(he:e∈E):Pubs E (σ.tell s e):=by
 refine P.setCl (fun k o ho=>?_);unfold Cli.tell at ho;split at ho
 ·exact P.told _ k o ho
 ·simp only at ho;by_cases h:k=s%2
  ·subst h;rw[put_same] at ho;rcases xP0.1 ho with ho | ho
   ·exact P.told _ _ o ho
   ·rw[eO0.1 ho];exact he
  ·rw[kA _ _ h] at ho;exact P.told _ k o ho
theorem Pubs.lose (P:Pubs E σ)(s:Nat)(m:Int):Pubs E (σ.lose s m):=by
 refine P.setCl (fun k o ho=>?_);unfold Cli.lose at ho;split at ho
 ·exact P.told _ k o ho
 ·exact P.told _ k o ho
theorem Pubs.tells (s:Nat):∀(l:List News) {σ:Net},Pubs E σ→(∀e,e∈l→e∈E)→Pubs E (σ.tells s l)
 | [],_,P,_=>P
 | e::l,_,P,h=>Pubs.tells s l (P.tell s (h e (lO0 ..))) (fun o ho=>h o (kO0 _ ho))
theorem Pubs.hear (P:Pubs E σ)(b:Nat){e:News}(he:e∈E)(s:Nat):Pubs E (σ.hear b e s):=by
 unfold Net.hear;split
 ·exact P
 ·rename_i f hf
  have hk:=P.kn b s f hf;split
  ·split
   ·refine P.know (fun g hg=>?_);cases hg;intro o ho;rcases xP0.1 ho with ho | ho
    ·exact hk o ho
    ·rw[eO0.1 ho];exact he
   ·split
    ·exact P.know (fun g hg=>by cases hg;exact hk)
    ·exact P.tell s he
  ·exact P
theorem Pubs.hears (b:Nat){e:News}(he:e∈E):∀(l:List Nat) {σ:Net},Pubs E σ→Pubs E (σ.hears b e l)
 | [],_,P=>P
 | t::l,_,P=>Pubs.hears b he l (P.hear b he t)
theorem Pubs.happens (P:Pubs E σ)(b:Nat){e:News}(he:e∈E)(fr:Option Nat):Pubs E (σ.happens b e fr):=
 Pubs.pushAll (fun o ho=>by rw[eO0.1 ho];exact he) b _ (Pubs.hears b he (List.range 8) P)
theorem Pubs.pop (P:Pubs E σ){a b:Nat}{f:Fr}{r:List Fr}(hq:σ.q a b=f::r):Pubs E {σ with q:=xB σ.q a b r}:=by
 refine⟨fun x y g hg=>?_,P.kn,P.told⟩;have hg:g∈xB σ.q a b r x y:=hg;by_cases e:x=a∧y=b
 ·obtain⟨rfl,rfl⟩:=e;rw[put2_same] at hg;exact P.fr x y g (by rw[hq];exact kO0 _ hg)
 ·rw[jA _ _ e] at hg;exact P.fr x y g hg
theorem Pubs.handle (P:Pubs E σ){b:Nat}{fr:Option Nat}{f:Fr}(hf:∀e,e∈aR f→e∈E):Pubs E (σ.handle b fr f):=by
 have none_:∀{age:Int} {fl:List Tst} {way:Option Nat} {w:Bool},∀g,some (⟨age,fl,way,[],0,w⟩:Fact)=some g→∀e,e∈g.kept→e∈E:=fun g hg e he=>by cases hg;cases he
 cases f with
 | sub t age fl=>
  refine Pubs.pushAll (fun o ho=>by cases ho) b _ ?_;unfold Net.learn;split
  ·exact P.know none_
  ·split
   ·exact P.know none_
   ·exact P
 | unsub t age=>
  refine Pubs.pushAll (fun o ho=>by cases ho) b _ ?_;unfold Net.forget;split
  ·exact P
  ·split
   ·exact P.know (fun g hg=>by cases hg)
   ·exact P
 | event e=>exact P.happens b (hf e (eO0.2 rfl)) fr
 | move t age fl old new=>
  simp only[Net.handle];split
  ·split
   ·refine Pubs.push (P.know none_) ?_;split
    ·rename_i g hg
     exact P.kn _ _ g hg
    ·intro e he;cases he
   ·exact P.know none_
  ·exact Pubs.push (P.know none_) (fun e he=>by cases he)
 | rest t evs m new=>
  simp only[Net.handle];split
  ·exact P.push hf
  ·split
   ·exact P
   ·rename_i g hg
    exact(Pubs.tells t g.kept (Pubs.tells t evs (P.lose t m) hf) (P.kn _ _ g hg)).know (fun g' hg'=>by cases hg';intro e he;cases he)
theorem Pubs.del (P:Pubs E σ)(x y:Int):Pubs E (σ.del x y):=by
 unfold Net.del;split
 ·split
  ·rename_i f r hq
   exact(P.pop hq).handle (P.fr _ _ f (by rw[hq];exact lO0 ..))
  ·exact P
 ·exact P
theorem Pubs.mono (P:Pubs E σ){E':List News}(h:∀e,e∈E→e∈E'):Pubs E' σ:=⟨fun x y f hf e he=>h e (P.fr x y f hf e he),fun b s f hf e he=>h e (P.kn b s f hf e he),fun c k e he=>h e (P.told c k e he)⟩
theorem Pubs.backs (P:Pubs E σ)(c b k:Nat):Pubs E (σ.backs c b k):=by
 unfold Net.backs;split
 ·split
  ·exact P
  ·rename_i f hf
   exact(Pubs.tells _ f.kept (P.lose _ f.more) (P.kn _ _ f hf)).know (fun g hg=>by cases hg;intro e he;cases he)
 ·exact P
theorem Pubs.comes (P:Pubs E σ)(c b old k:Nat):Pubs E (σ.comes c b old k):=by
 simp only[Net.comes];split
 ·have P1:Pubs E (σ.setCl c {σ.cl c with age:=put (σ.cl c).age k ((σ.cl c).age k+1)}):=P.setCl (fun j e he=>P.told c j e he);have P2:=P1.know (b:=b) (s:=2*c+k) (o:=some ⟨(σ.cl c).age k+1,(σ.cl c).fl k,none,[],0,true⟩) (fun g hg=>by cases hg;intro e he;cases he)
  exact P2.push (f:=.move (2*c+k) ((σ.cl c).age k+1) ((σ.cl c).fl k) old b) (fun e he=>by cases he)
 ·exact P
theorem Pubs.attach (P:Pubs E σ)(c b:Int):Pubs E (σ.attach c b):=by
 have arr:∀{τ:Net},Pubs E τ→Pubs E (τ.arrive c.toNat b.toNat):=fun {τ} Q=>Q.setCl (fun j e he=>Q.told _ j e he);unfold Net.attach;split
 ·unfold Net.attachN;split
  ·exact arr ((P.backs _ _ _).backs _ _ _)
  ·split
   ·exact arr ((P.backs _ _ _).backs _ _ _)
   ·exact arr ((P.comes _ _ _ _).comes _ _ _ _)
 ·exact P
theorem Pubs.detach (P:Pubs E σ)(c:Int):Pubs E (σ.detach c):=by
 unfold Net.detach;split
 ·exact P.setCl (fun j e he=>P.told _ j e he)
 ·exact P
theorem Pubs.log (P:Pubs E σ)(c:Int):Pubs E (σ.log c):=by
 unfold Net.log;split
 ·exact P.setCl (fun j e he=>P.told _ j e he)
 ·exact P
theorem Pubs.sub (P:Pubs E σ)(c:Int)(l:List Tst):Pubs E (σ.sub c l):=by
 unfold Net.sub;split
 ·split
  ·refine Pubs.pushAll (fun o ho=>by cases ho) _ _ (Pubs.know (P.setCl (fun j e he=>?_)) (fun g hg=>by cases hg;intro e he;cases he))
   simp only at he;by_cases h:j=σ.slot c.toNat
   ·subst h;rw[put_same] at he;cases he
   ·rw[kA _ _ h] at he;exact P.told _ j e he
  ·exact P
 ·exact P
theorem Pubs.unsub (P:Pubs E σ)(c k:Int):Pubs E (σ.unsub c k):=by
 unfold Net.unsub;split
 ·split
  ·rename_i b hb
   have P1:Pubs E (σ.setCl c.toNat {σ.cl c.toNat with used:=put (σ.cl c.toNat).used k.toNat false}):=P.setCl (fun j e he=>P.told _ j e he);have P2:=P1.know (b:=b) (s:=2*c.toNat+k.toNat) (o:=none) (fun g hg=>by cases hg);exact Pubs.pushAll (f:=.unsub (2*c.toNat+k.toNat) ((σ.cl c.toNat).age k.toNat)) (fun o ho=>by cases ho) b _ P2
  ·exact P
 ·exact P
end
def uM0 (o e:News):Prop:=¬(o.ev.pub=e.ev.pub∧o.stay=e.stay∧e.ev.num≤o.ev.num)
section
variable {G : Nat → List News} {x : Cli}
end
def oB:Option Fact→Nat
 | none=>0
 | some f=>f.kept.length
def tC (s:Nat):Fr→Nat
 | .rest t evs _ _=>if t=s then evs.length else 0
 | _=>0
def Net.massK (σ:Net)(s:Nat):Nat:=qE fun b=>oB (σ.kn b s)
def Net.restQ (σ:Net)(s x y:Nat):Nat:=((σ.q x y).map (tC s)).sum
def Net.massQ (σ:Net)(s:Nat):Nat:=qE fun x=>qE fun y=>σ.restQ s x y
def Net.mass (σ:Net)(s:Nat):Nat:=σ.massK s+σ.massQ s
def Net.toldN (σ:Net)(s:Nat):Nat:=((σ.cl (s/2)).told (s%2)).length
theorem jD {σ τ:Net}(hk:τ.kn=σ.kn)(hq:τ.q=σ.q)(s:Nat):τ.mass s=σ.mass s:=by
 simp only[Net.mass,Net.massK,Net.massQ,Net.restQ,hk,hq]
theorem tS (σ:Net)(s x y:Nat)(hx:x<6)(hy:y<6)(l:List Fr):Net.massQ {σ with q:=xB σ.q x y l} s+σ.restQ s x y=σ.massQ s+(l.map (tC s)).sum:=by
 have h1:=gJ (fun a=>qE fun b=>σ.restQ s a b) (fun a=>qE fun b=>Net.restQ {σ with q:=xB σ.q x y l} s a b) x hx (fun j hj=>by
  apply fM;intro b _
  simp only[Net.restQ,jA σ.q l (fun h=>hj h.1)])
 have h2:=gJ (fun b=>σ.restQ s x b) (fun b=>Net.restQ {σ with q:=xB σ.q x y l} s x b) y hy (fun j hj=>by
  simp only[Net.restQ,jA σ.q l (fun h=>hj h.2)])
 have h3:Net.restQ {σ with q:=xB σ.q x y l} s x y=(l.map (tC s)).sum:=by simp only[Net.restQ,put2_same]
 simp only[Net.massQ] at*;omega
theorem aK (σ:Net)(s:Nat){x y:Nat}(hx:x<6)(hy:y<6)(f:Fr):(σ.push x y f).mass s=σ.mass s+tC s f:=by
 have h:=tS σ s x y hx hy (σ.q x y++[f]);have h1:(σ.push x y f).massK s=σ.massK s:=rfl;have h2:(σ.push x y f).massQ s=Net.massQ {σ with q:=xB σ.q x y (σ.q x y++[f])} s:=rfl;simp only[Net.restQ,List.map_append,List.sum_append,List.map_cons,List.map_nil,List.sum_cons,List.sum_nil] at h;simp only[Net.mass];omega
theorem uK0 (σ:Net)(s:Nat){x y:Nat}(hx:x<6)(hy:y<6){f:Fr}{r:List Fr}(hq:σ.q x y=f::r):Net.mass {σ with q:=xB σ.q x y r} s+tC s f=σ.mass s:=by
 have h:=tS σ s x y hx hy r;have h1:Net.massK {σ with q:=xB σ.q x y r} s=σ.massK s:=rfl;simp only[Net.restQ,hq,List.map_cons,List.sum_cons] at h;simp only[Net.mass];omega
theorem sG (s:Nat){f:Fr}(hf:tC s f=0)(x:Nat):∀(ys:List Nat) (σ:Net),(∀y,y∈ys→y<6)→x<6→(σ.pushAll x ys f).mass s=σ.mass s
 | [],_,_,_=>rfl
 | y::ys,σ,h,hx=>by
  have:=sG s hf x ys (σ.push x y f) (fun z hz=>h z (kO0 _ hz)) hx;rw[aK σ s hx (h y (lO0 ..)) f,hf] at this;exact this
theorem lG0 (σ:Net){b:Nat}(hb:b<6)(s:Nat)(o:Option Fact):(σ.know b s o).mass s+oB (σ.kn b s)=σ.mass s+oB o:=by
 have h:=gJ (fun a=>oB (σ.kn a s)) (fun a=>oB ((σ.know b s o).kn a s)) b hb (fun j hj=>by simp only[Net.know,jA σ.kn o (fun h=>hj h.1)]);have h1:(σ.know b s o).massQ s=σ.massQ s:=rfl;have h2:(σ.know b s o).kn b s=o:=by simp[Net.know]
 rw[h2] at h;simp only[Net.mass,Net.massK,h1];omega
theorem gD (σ:Net)(b:Nat){s t:Nat}(h:s≠t)(o:Option Fact):(σ.know b t o).mass s=σ.mass s:=by
 have h1:(σ.know b t o).massQ s=σ.massQ s:=rfl;have h2:(σ.know b t o).massK s=σ.massK s:=by
  simp only[Net.massK,Net.know];apply fM;intro j _;rw[jA _ _ (fun e=>h e.2)]
 simp only[Net.mass,h1,h2]
structure Slack (s d:Nat)(σ:Net)(m:Nat):Prop where
 told:∀t,t<8→σ.toldN t+σ.mass t+(if t=s then d else 0)≤m
 log:∀c,c<4→(σ.cl c).log.length+σ.mass (2*c)+σ.mass (2*c+1)+(if c=s/2 then d else 0)≤m
section
variable {s d m : Nat} {σ : Net}
theorem Slack.weak (h:Slack s d σ m){d' m':Nat}(hd:d'≤d)(hm:m≤m'):Slack s d' σ m':=by
 refine⟨fun t ht=>?_,fun c hc=>?_⟩
 ·have:=h.told t ht;split<;>simp_all<;>omega
 ·have:=h.log c hc;split<;>simp_all<;>omega
theorem Slack.more (h:Slack s d σ m)(n:Nat):Slack s (d+n) σ (m+n):=by
 refine⟨fun t ht=>?_,fun c hc=>?_⟩
 ·have:=h.told t ht;split<;>simp_all<;>omega
 ·have:=h.log c hc;split<;>simp_all<;>omega
theorem Slack.of_none (h:Slack s 0 σ m)(t:Nat):Slack t 0 σ m:=⟨fun u hu=>by have:=h.told u hu;simp at this ⊢;omega,fun c hc=>by have:=h.log c hc;simp at this ⊢;omega⟩
theorem Slack.of_same (h:Slack s d σ m){τ:Net}(hk:τ.kn=σ.kn)(hq:τ.q=σ.q)(ht:∀t,τ.toldN t=σ.toldN t)(hl:∀c,(τ.cl c).log.length=(σ.cl c).log.length):Slack s d τ m:=
 ⟨fun t h8=>by rw[jD hk hq,ht];exact h.told t h8,fun c h4=>by rw[jD hk hq,jD hk hq,hl];exact h.log c h4⟩
theorem Slack.know (h:Slack s d σ m){b:Nat}(hb:b<6){o:Option Fact}{d':Nat}(hd:d'+oB o≤d+oB (σ.kn b s)):Slack s d' (σ.know b s o) m:=by
 have hm:=lG0 σ hb s o;refine⟨fun t ht=>?_,fun c hc=>?_⟩
 ·have:=h.told t ht;have e:(σ.know b s o).toldN t=σ.toldN t:=rfl;by_cases he:t=s
  ·subst he;simp only[if_true] at this ⊢;omega
  ·rw[gD σ b he o,e];simp only[if_neg he] at this ⊢;exact this
 ·have:=h.log c hc;have e:(σ.know b s o).cl=σ.cl:=rfl;rw[e];by_cases h1:2*c=s
  ·subst h1;rw[gD σ b (by omega:2*c+1≠2*c) o];have h3:c=2*c/2:=by omega
   rw[if_pos h3] at this ⊢;omega
  ·by_cases h2:2*c+1=s
   ·subst h2;rw[gD σ b h1 o];have h3:c=(2*c+1)/2:=by omega
    rw[if_pos h3] at this ⊢;omega
   ·rw[gD σ b h1 o,gD σ b h2 o];have h3:¬c=s/2:=by omega
    rw[if_neg h3] at this ⊢;exact this
theorem Slack.push (h:Slack s d σ m){x y:Nat}(hx:x<6)(hy:y<6){f:Fr}(hf:∀t,t≠s→tC t f=0){d':Nat}(hd:d'+tC s f≤d):Slack s d' (σ.push x y f) m:=by
 refine⟨fun t ht=>?_,fun c hc=>?_⟩
 ·have:=h.told t ht;have e:(σ.push x y f).toldN t=σ.toldN t:=rfl;rw[aK σ t hx hy,e];by_cases he:t=s
  ·subst he;simp only[if_true] at this ⊢;omega
  ·rw[hf t he];simp only[if_neg he] at this ⊢;omega
 ·have:=h.log c hc;have e:(σ.push x y f).cl=σ.cl:=rfl;rw[e,aK σ _ hx hy,aK σ _ hx hy];by_cases h3:c=s/2
  ·rw[if_pos h3] at this ⊢;by_cases h1:2*c=s
   ·rw[hf (2*c+1) (by omega)];subst h1;omega
   ·rw[hf (2*c) h1];have h2:2*c+1=s:=by omega
    rw[h2];rw[h2] at this;omega
  ·rw[if_neg h3] at this ⊢;rw[hf (2*c) (by omega),hf (2*c+1) (by omega)];omega
theorem Slack.pop (h:Slack s 0 σ m){x y:Nat}(hx:x<6)(hy:y<6){f:Fr}{r:List Fr}(hq:σ.q x y=f::r)(t:Nat):Slack t (tC t f) {σ with q:=xB σ.q x y r} m:=by
 have hp:=fun u=>uK0 σ u hx hy hq;refine⟨fun u hu=>?_,fun c hc=>?_⟩
 ·have:=h.told u hu;have e:Net.toldN {σ with q:=xB σ.q x y r} u=σ.toldN u:=rfl;have hp:=hp u;rw[e];by_cases he:u=t
  ·subst he;simp only[if_true];simp at this;omega
  ·rw[if_neg he];simp at this;omega
 ·have:=h.log c hc;have h1:=hp (2*c);have h2:=hp (2*c+1);have e:(Net.cl {σ with q:=xB σ.q x y r})=σ.cl:=rfl;simp only[ite_self,Nat.add_zero] at this;rw[e];by_cases h3:c=t/2
  ·rw[if_pos h3];by_cases h4:t=2*c
   ·rw[h4];omega
   ·have h5:t=2*c+1:=by omega
    rw[h5];omega
  ·rw[if_neg h3];omega
theorem Slack.pushAll (h:Slack s d σ m){x:Nat}(hx:x<6){f:Fr}(hf:∀t,tC t f=0){ys:List Nat}(hy:∀y,y∈ys→y<6):Slack s d (σ.pushAll x ys f) m:=by
 refine⟨fun t ht=>?_,fun c hc=>?_⟩
 ·rw[sG t (hf t) x ys σ hy hx];have e:(σ.pushAll x ys f).toldN t=σ.toldN t:=by simp only[Net.toldN,(rB ys σ).2.1]
  rw[e];exact h.told t ht
 ·rw[sG _ (hf _) x ys σ hy hx,sG _ (hf _) x ys σ hy hx,(rB ys σ).2.1];exact h.log c hc
theorem Slack.setCl (h:Slack s d σ m)(hs:s<8){x:Cli}{d':Nat}(ht:(x.told (s%2)).length+d'≤((σ.cl (s/2)).told (s%2)).length+d)(hto:∀k,k<2→k≠s%2→(x.told k).length≤((σ.cl (s/2)).told k).length)(hl:x.log.length+d'≤(σ.cl (s/2)).log.length+d):Slack s d' (σ.setCl (s/2) x) m:=by
 refine⟨fun t h8=>?_,fun c h4=>?_⟩
 ·have:=h.told t h8;rw[jD (σ:=σ) (τ:=σ.setCl (s/2) x) rfl rfl];by_cases he:t/2=s/2
  ·have e:(σ.setCl (s/2) x).toldN t=(x.told (t%2)).length:=by simp[Net.toldN,Net.setCl,he]
   rw[e];by_cases h2:t=s
   ·subst h2;simp only[if_true] at this ⊢;simp only[Net.toldN] at this;omega
   ·rw[if_neg h2] at this ⊢;have:=hto (t%2) (by omega) (by omega);simp only[Net.toldN,he] at *;omega
  ·have e:(σ.setCl (s/2) x).toldN t=σ.toldN t:=by simp[Net.toldN,Net.setCl,kA _ _ he]
   rw[e];have h2:t≠s:=fun h=>he (by rw[h]);rw[if_neg h2] at this ⊢;exact this
 ·have:=h.log c h4;rw[jD (σ:=σ) (τ:=σ.setCl (s/2) x) rfl rfl,jD (σ:=σ) (τ:=σ.setCl (s/2) x) rfl rfl];by_cases he:c=s/2
  ·subst he;simp only[Net.setCl,put_same,if_true] at this ⊢;omega
  ·simp only[Net.setCl,kA _ _ he,if_neg he] at this ⊢;exact this
theorem Slack.tell (h:Slack s (d+1) σ m)(hs:s<8)(e:News):Slack s d (σ.tell s e) m:=by
 unfold Net.tell;refine h.setCl hs ?_ (fun k _ hk=>?_) ?_
 ·unfold Cli.tell;split
  ·omega
  ·simp;omega
 ·unfold Cli.tell;split
  ·exact qO0 _
  ·simp only[kA _ _ hk];exact qO0 _
 ·unfold Cli.tell;split
  ·omega
  ·simp;omega
theorem Slack.lose (h:Slack s (d+1) σ m)(hs:s<8)(mo:Int):Slack s d (σ.lose s mo) m:=by
 unfold Net.lose;refine h.setCl hs ?_ (fun k _ hk=>?_) ?_
 ·unfold Cli.lose;split
  ·simp
  ·omega
 ·unfold Cli.lose;split<;>exact qO0 _
 ·unfold Cli.lose;split
  ·simp;omega
  ·omega
theorem Slack.tells (hs:s<8):∀(l:List News) {d:Nat} {σ:Net},Slack s (d+l.length) σ m→Slack s d (σ.tells s l) m
 | [],_,_,h=>h
 | e::l,d,σ,h=>Slack.tells hs l (Slack.tell (d:=d+l.length) (by simpa[rP0] using h) hs e)
theorem Slack.hear (h:Slack s 0 σ m){b:Nat}(hb:b<6)(e:News){t:Nat}(ht:t<8):Slack t 0 (σ.hear b e t) (m+1):=by
 have h1:Slack t 1 σ (m+1):=(h.of_none t).more 1;unfold Net.hear;split
 ·exact h1.weak (by omega) (qO0 _)
 ·rename_i f hf
  split
  ·split
   ·exact h1.know hb (by simp[oB,hf];omega)
   ·split
    ·exact h1.know hb (by simp[oB,hf])
    ·exact h1.tell ht e
  ·exact h1.weak (by omega) (qO0 _)
theorem Slack.hears {b:Nat}(hb:b<6)(e:News):∀(l:List Nat) {σ:Net} {m:Nat},Slack 0 0 σ m→(∀t,t∈l→t<8)→Slack 0 0 (σ.hears b e l) (m+l.length)
 | [],_,_,h,_=>h
 | t::l,σ,m,h,hl=>by
  have:=Slack.hears hb e l ((h.hear hb e (hl t (lO0 ..))).of_none 0) (fun u hu=>hl u (kO0 _ hu));have e1:m+1+l.length=m+(t::l).length:=by simp;omega
  rw[←e1];exact this
theorem Slack.happens (h:Slack 0 0 σ m)(G:Good σ){b:Nat}(hb:b<6)(e:News)(fr:Option Nat):Slack 0 0 (σ.happens b e fr) (m+8):=by
 have h1:=Slack.hears hb e (List.range 8) h (fun t ht=>yP0.1 ht);refine Slack.pushAll (f:=.event e) h1 hb (fun t=>rfl) (fun y hy=>?_);exact(dB G.tree (rF G hy).1).2
end
structure NumOk (x:Cli)(m:Nat):Prop where
 stays:0≤x.stays∧x.stays≤m
 many:0≤x.many∧x.many≤m
 age:∀k,-1≤x.age k∧x.age k≤m
 ris:∀k,(x.told k).Pairwise uM0
structure FactN (f:Fact)(m:Nat):Prop where
 more:f.more≤m
 none:f.waits=true→f.more=0
 six:f.waits=false→f.kept.length≤6
structure Nums (σ:Net)(m:Nat):Prop where
 cl:∀c,NumOk (σ.cl c) m
 kn:∀b s f,σ.kn b s=some f→FactN f m
section
variable {m : Nat} {σ : Net}
theorem NumOk.weak {x:Cli}(h:NumOk x m){m':Nat}(hm:m≤m'):NumOk x m':=⟨⟨h.stays.1,by have:=h.stays.2;omega⟩,⟨h.many.1,by have:=h.many.2;omega⟩,fun k=>⟨(h.age k).1,by have:=(h.age k).2;omega⟩,h.ris⟩
theorem FactN.weak {f:Fact}(h:FactN f m){m':Nat}(hm:m≤m'):FactN f m':=⟨by have:=h.more;omega,h.none,h.six⟩
theorem Nums.weak (h:Nums σ m){m':Nat}(hm:m≤m'):Nums σ m':=⟨fun c=>(h.cl c).weak hm,fun b s f hf=>(h.kn b s f hf).weak hm⟩
theorem Nums.know (h:Nums σ m){b s:Nat}{o:Option Fact}(ho:∀f,o=some f→FactN f m):Nums (σ.know b s o) m:=by
 refine⟨h.cl,fun x t f hf=>?_⟩;have hf:xB σ.kn b s o x t=some f:=hf;by_cases e:x=b∧t=s
 ·obtain⟨rfl,rfl⟩:=e;rw[put2_same] at hf;exact ho f hf
 ·rw[jA _ _ e] at hf;exact h.kn x t f hf
theorem Nums.setCl (h:Nums σ m){c:Nat}{x:Cli}(hx:NumOk x m):Nums (σ.setCl c x) m:=by
 refine⟨fun d=>?_,h.kn⟩;by_cases e:d=c
 ·subst e;simp only[Net.setCl,put_same];exact hx
 ·simp only[Net.setCl,kA _ _ e];exact h.cl d
theorem Nums.of (h:Nums σ m){τ:Net}(hk:τ.kn=σ.kn)(hc:τ.cl=σ.cl):Nums τ m:=⟨fun c=>by rw[hc];exact h.cl c,fun b s f hf=>h.kn b s f (by rw[←hk];exact hf)⟩
theorem mQ {l:List News}{e:News}(h:¬tE l e=true):∀o,o∈l→uM0 o e:=fun o ho hc=>h (List.any_eq_true.2 ⟨o,ho,decide_eq_true hc⟩)
theorem NumOk.tell {x:Cli}(h:NumOk x m)(k:Nat)(e:News):NumOk (x.tell k e) m:=by
 unfold Cli.tell;split
 ·exact h
 ·rename_i ho
  refine⟨h.stays,h.many,h.age,fun j=>?_⟩;by_cases hj:j=k
  ·subst hj;simp only[put_same];exact List.pairwise_append.2 ⟨h.ris j,List.pairwise_singleton _ _,fun o ho' e' he'=>by rw[eO0.1 he'];exact mQ ho o ho'⟩
  ·simp only[kA _ _ hj];exact h.ris j
theorem NumOk.lose {x:Cli}(h:NumOk x m)(k:Nat)(mo:Int):NumOk (x.lose k mo) m:=by
 unfold Cli.lose;split
 ·exact⟨h.stays,h.many,h.age,h.ris⟩
 ·exact h
theorem Nums.tell (h:Nums σ m)(s:Nat)(e:News):Nums (σ.tell s e) m:=h.setCl ((h.cl _).tell _ _)
theorem Nums.lose (h:Nums σ m)(s:Nat)(mo:Int):Nums (σ.lose s mo) m:=h.setCl ((h.cl _).lose _ _)
theorem Nums.tells (s:Nat):∀(l:List News) {σ:Net},Nums σ m→Nums (σ.tells s l) m
 | [],_,h=>h
 | e::l,_,h=>Nums.tells s l (h.tell s e)
theorem Nums.hear (h:Nums σ m)(b:Nat)(e:News)(s:Nat):Nums (σ.hear b e s) (m+1):=by
 have h1:=h.weak (m':=m+1) (by omega);unfold Net.hear;split
 ·exact h1
 ·rename_i f hf
  have hF:=h.kn b s f hf;split
  ·split
   ·rename_i hw
    refine h1.know (fun g hg=>?_);cases hg;refine⟨by have:=hF.more;simp;omega,hF.none,fun hn=>?_⟩;simp only at hn;simp only[hn,Bool.false_or,qP0,oP0] at hw;simp;omega
   ·rename_i hw
    split
    ·refine h1.know (fun g hg=>?_);cases hg;refine⟨by have:=hF.more;simp;omega,fun hw'=>?_,hF.six⟩;simp only at hw';rw[hw'] at hw;simp at hw
    ·exact h1.tell s e
  ·exact h1
theorem Nums.hears (b:Nat)(e:News):∀(l:List Nat) {σ:Net} {m:Nat},Nums σ m→Nums (σ.hears b e l) (m+l.length)
 | [],_,_,h=>h
 | t::l,σ,m,h=>by
  have:=Nums.hears b e l (h.hear b e t);have e1:m+1+l.length=m+(t::l).length:=by simp;omega
  rw[←e1];exact this
theorem Nums.pushAll (h:Nums σ m)(x:Nat)(ys:List Nat)(f:Fr):Nums (σ.pushAll x ys f) m:=h.of (rB ys σ).1 (rB ys σ).2.1
theorem Nums.happens (h:Nums σ m)(b:Nat)(e:News)(fr:Option Nat):Nums (σ.happens b e fr) (m+8):=by
 have h1:=Nums.hears b e (List.range 8) h;exact Nums.pushAll (σ:=σ.hears b e (List.range 8)) h1 b _ _
theorem xI (age:Int)(fl:List Tst)(way:Option Nat)(w:Bool):FactN ⟨age,fl,way,[],0,w⟩ m:=⟨by simp,fun _=>rfl,fun _=>by simp⟩
theorem Nums.learn (h:Nums σ m)(b s:Nat)(age:Int)(fl:List Tst)(way:Option Nat):Nums (σ.learn b s age fl way) m:=by
 unfold Net.learn;split
 ·exact h.know (fun f hf=>by cases hf;exact xI ..)
 ·split
  ·exact h.know (fun f hf=>by cases hf;exact xI ..)
  ·exact h
theorem Nums.forget (h:Nums σ m)(b s:Nat)(age:Int):Nums (σ.forget b s age) m:=by
 unfold Net.forget;split
 ·exact h
 ·split
  ·exact h.know (fun f hf=>by cases hf)
  ·exact h
theorem Slack.learn (h:Slack 0 0 σ m){b:Nat}(hb:b<6)(s:Nat)(age:Int)(fl:List Tst)(way:Option Nat):Slack 0 0 (σ.learn b s age fl way) m:=by
 have h1:=h.of_none s;unfold Net.learn;split
 ·exact(h1.know (d':=0) hb (by simp[oB])).of_none 0
 ·split
  ·exact(h1.know (d':=0) hb (by simp[oB])).of_none 0
  ·exact h
theorem Slack.forget (h:Slack 0 0 σ m){b:Nat}(hb:b<6)(s:Nat)(age:Int):Slack 0 0 (σ.forget b s age) m:=by
 have h1:=h.of_none s;unfold Net.forget;split
 ·exact h
 ·split
  ·exact(h1.know (d':=0) hb (by simp[oB])).of_none 0
  ·exact h
end
section
variable {σ : Net}
theorem zH {g:Bool}(hc:σ.closed=false)(hg:g=true):σ.asked g=0:=by simp[Net.asked,hc,hg]
theorem gO {c b:Int}(h:σ.attachE c b=0):σ.closed=false∧(0≤c∧c<4)∧(0≤b∧b<σ.n)∧(σ.cl c.toNat).here=none∧σ.full=false:=by
 unfold Net.attachE at h;split at h
 ·rename_i h1;exact absurd h h1
 ·rename_i h1
  have hA:=tD h1;simp only[qP0,dA,Net.isBro,oP0] at hA;split at h
  ·cases h
  ·rename_i h2
   split at h
   ·cases h
   ·rename_i h3
    exact⟨hA.1,hA.2.1,hA.2.2,by simpa using h2,by simpa using h3⟩
theorem mR {c:Nat}(h:¬σ.still c≠0):(σ.cl c).here≠none∧σ.waits c=false:=by
 unfold Net.still at h;split at h
 ·simp at h
 ·rename_i h2
  split at h
  ·simp at h
  ·rename_i h3;exact⟨h2,by simpa using h3⟩
theorem yV {c:Int}{l:List Tst}(h:σ.subE c l=0):σ.closed=false∧(0≤c∧c<4)∧yB l=true∧(σ.cl c.toNat).here≠none∧σ.waits c.toNat=false∧(σ.cl c.toNat).used (σ.slot c.toNat)=false∧σ.full=false:=by
 unfold Net.subE at h;split at h
 ·rename_i h1;exact absurd h h1
 ·rename_i h1
  have hA:=tD h1;simp only[qP0,dA,oP0] at hA;split at h
  ·rename_i h2;exact absurd h h2
  ·rename_i h2
   have h2:=mR h2;split at h
   ·cases h
   ·rename_i h3
    split at h
    ·cases h
    ·rename_i h4
     exact⟨hA.1,hA.2.1,hA.2.2,h2.1,h2.2,by simpa using h3,by simpa using h4⟩
theorem gP {c k:Int}(h:σ.unsubE c k=0):σ.closed=false∧(0≤c∧c<4)∧(0≤k∧k<2)∧(σ.cl c.toNat).here≠none∧σ.waits c.toNat=false∧(σ.cl c.toNat).used k.toNat=true∧σ.full=false:=by
 unfold Net.unsubE at h;split at h
 ·rename_i h1;exact absurd h h1
 ·rename_i h1
  have hA:=tD h1;simp only[qP0,dA,oP0] at hA;split at h
  ·rename_i h2;exact absurd h h2
  ·rename_i h2
   have h2:=mR h2;split at h
   ·rename_i h3
    split at h
    ·cases h
    ·rename_i h4
     exact⟨hA.1,hA.2.1,hA.2.2,h2.1,h2.2,h3,by simpa using h4⟩
   ·cases h
theorem nV {c:Int}(h:σ.pubE c=0):σ.closed=false∧(0≤c∧c<4)∧(σ.cl c.toNat).here≠none∧σ.full=false:=by
 unfold Net.pubE at h;split at h
 ·rename_i h1;exact absurd h h1
 ·rename_i h1
  have hA:=tD h1;simp only[dA,oP0] at hA;split at h
  ·cases h
  ·rename_i h2
   split at h
   ·cases h
   ·rename_i h3;exact⟨hA.1,hA.2,h2,by simpa using h3⟩
theorem fW {a b:Int}(h:σ.delE a b=0):σ.closed=false∧(0≤a∧0≤b)∧iB σ.par a.toNat b.toNat=true∧σ.q a.toNat b.toNat≠[]:=by
 unfold Net.delE at h;split at h
 ·rename_i h1;exact absurd h h1
 ·rename_i h1
  have hA:=tD h1;simp only[Net.isLink,qP0,oP0] at hA;split at h
  ·cases h
  ·rename_i h2;exact⟨hA.1,hA.2.1,hA.2.2,h2⟩
theorem Alive.pub (A:Alive σ)(c f0 f1 f2:Int):Alive (σ.pub c f0 f1 f2):=by
 unfold Net.pub;split
 ·rename_i hE
  obtain⟨_,hc,hh,hf⟩:=nV hE;split
  ·rename_i b hb
   have L1:Live (σ.setCl c.toNat {σ.cl c.toNat with many:=(σ.cl c.toNat).many+1}):=by
    refine A.live.setCl (by omega) ?_ ?_ ?_ ?_ ?_<;>rfl
   refine⟨L1.happens b (σ.pubEv c f0 f1 f2) none,?_⟩;have hbn:=(A.live.good.clis c.toNat (by omega)).here b hb;have hs6:=gB A.live.good.tree;have hb6:b<6:=sO0 hbn hs6;rw[lJ L1.good hb6,zE];have h1:=eP L1.good (b:=b) (e:=σ.pubEv c f0 f1 f2) (fr:=none);have h2:=lT A.live.good.tree (x:=b) hbn;have h3:(((List.range (size σ.par)).filter fun z=>iB σ.par b z && decide (some z≠none)).map fun z=>xC σ.par b z).sum≤(((List.range (size σ.par)).filter fun z=>iB σ.par b z).map fun z=>xC σ.par b z).sum:=mE _ (fun z _ hz=>by simp at hz;exact hz);have hw:=sF A.live.good.linked hf;have e:(σ.setCl c.toNat {σ.cl c.toNat with many:=(σ.cl c.toNat).many+1}).par=σ.par:=rfl;have h4:=mO0 h1 (mO0 h3 h2);exact mO0 (Nat.add_le_add_left h4 _) (by omega)
  ·exact A
 ·exact A
end
def News.lim (m:Nat)(e:News):Prop:=0≤e.ev.pub∧e.ev.pub<4∧1≤e.ev.num∧e.ev.num≤m∧0≤e.stay∧e.stay≤m
theorem News.lim.weak {m m':Nat}{e:News}(h:e.lim m)(hm:m≤m'):e.lim m':=by unfold News.lim at *;omega
theorem gH {s:Nat}:∀(l:List News) {σ τ:Net},τ.cl=σ.cl→(τ.tells s l).cl=(σ.tells s l).cl
 | [],_,_,h=>h
 | e::l,σ,τ,h=>gH l (by simp only[Net.tell,Net.setCl,h])
theorem xN {s:Nat}{mo:Int}{σ τ:Net}(h:τ.cl=σ.cl):(τ.lose s mo).cl=(σ.lose s mo).cl:=by simp only[Net.lose,Net.setCl,h]
structure Ready (σ:Net)(m:Nat):Prop where
 alive:Alive σ
 slack:Slack 0 0 σ m
 nums:Nums σ m
 news:∃E,Pubs E σ∧∀e,e∈E→e.lim m
section
variable {σ : Net} {m : Nat}
theorem Ready.weak (R:Ready σ m){m':Nat}(h:m≤m'):Ready σ m':=by
 obtain⟨E,h1,h2⟩:=R.news;exact⟨R.alive,R.slack.weak (qO0 _) h,R.nums.weak h,E,h1,fun e he=>(h2 e he).weak h⟩
theorem Ready.tree (R:Ready σ m):Tree σ.par:=R.alive.live.good.tree
theorem Ready.bro6 (R:Ready σ m){b:Nat}(h:b<σ.n):b<6:=sO0 h (gB R.tree)
theorem Ready.del (R:Ready σ m)(x y:Int):Ready (σ.del x y) (m+8):=by
 obtain⟨E,hP,hE⟩:=R.news;refine⟨R.alive.del x y,?_,?_,E,hP.del x y,fun e he=>(hE e he).weak (by omega)⟩
 all_goals unfold Net.del
 all_goals split
 ·rename_i h0
  obtain⟨_,_,hn,_⟩:=fW h0;have h6:=dB R.tree hn;split
  ·rename_i f r hq
   have G0:=R.alive.live.good.pop hq;have S0:=R.slack.pop h6.1 h6.2 hq;cases f with
   | sub t age fl=>
    have S1:Slack 0 0 {σ with q:=xB σ.q x.toNat y.toNat r} m:=S0 0;refine((S1.learn h6.2 t age fl (some x.toNat)).pushAll h6.2 (f:=.sub t age fl) (fun _=>rfl) (fun z hz=>?_)).weak (qO0 _) (by omega);have:=(yD hz).1;rw[(mD _ _ _ _ _ _).1] at this;exact(dB R.tree this).2
   | unsub t age=>
    have S1:Slack 0 0 {σ with q:=xB σ.q x.toNat y.toNat r} m:=S0 0;refine((S1.forget h6.2 t age).pushAll h6.2 (f:=.unsub t age) (fun _=>rfl) (fun z hz=>?_)).weak (qO0 _) (by omega);have:=(yD hz).1;rw[(xD _ _ _ _).1] at this;exact(dB R.tree this).2
   | event e=>
    have S1:Slack 0 0 {σ with q:=xB σ.q x.toNat y.toNat r} m:=S0 0;exact S1.happens G0 h6.2 e (some x.toNat)
   | move t age fl old new=>
    have hok:t<8∧yB fl=true∧old<σ.n∧new<σ.n:=R.alive.live.good.frames x.toNat y.toNat (.move t age fl old new) (by rw[hq];exact lO0 ..);have S1:Slack t 0 {σ with q:=xB σ.q x.toNat y.toNat r} m:=S0 t;simp only[Net.handle];split
    ·have S2:=S1.know (o:=some ⟨age,fl,some x.toNat,[],0,false⟩) (d':=oB (σ.kn y.toNat t)) h6.2 (by simp[oB]);refine((S2.push h6.2 h6.1 (d':=0) ?_ ?_).of_none 0).weak (qO0 _) (by omega)
     ·intro u hu;cases hk:σ.kn y.toNat t<;>simp[tC,Ne.symm hu]
     ·cases hk:σ.kn y.toNat t<;>simp[tC,oB]
    ·rename_i hne
     have hyn:y.toNat<σ.n:=(bB R.tree hn).2;have S2:=S1.know (o:=some ⟨age,fl,some x.toNat,[],0,false⟩) (d':=0) h6.2 (by simp[oB]);have h7:=R.bro6 (cB R.tree hyn hok.2.2.1 hne).2.1;exact((S2.push h6.2 h7 (d':=0) (f:=.move t age fl old new) (fun _ _=>rfl) (by simp[tC])).of_none 0).weak (qO0 _) (by omega)
   | rest t evs mo new=>
    have hok:t<8∧new<σ.n∧0≤mo:=R.alive.live.good.frames x.toNat y.toNat (.rest t evs mo new) (by rw[hq];exact lO0 ..);have S1:Slack t evs.length {σ with q:=xB σ.q x.toNat y.toNat r} m:=by have:=S0 t;simpa[tC] using this
    simp only[Net.handle];split
    ·rename_i hne
     have hyn:y.toNat<σ.n:=(bB R.tree hn).2;have h7:=R.bro6 (cB R.tree hyn hok.2.1 hne).2.1;exact((S1.push h6.2 h7 (d':=0) (f:=.rest t evs mo new) (fun u hu=>by simp[tC,Ne.symm hu]) (by simp[tC])).of_none 0).weak (qO0 _) (by omega)
    ·split
     ·exact((S1.weak (d':=0) (by omega) (qO0 _)).of_none 0).weak (qO0 _) (by omega)
     ·rename_i f hf
      have S2:Slack t (f.kept.length+evs.length+1) (({σ with q:=xB σ.q x.toNat y.toNat r}:Net).know y.toNat t (some {f with kept:=[],waits:=false})) (m+1):=
       (S1.more 1).know h6.2 (by
        have hf:σ.kn y.toNat t=some f:=hf
        simp[oB,hf];omega)
      have S3:=Slack.tells hok.1 f.kept (d:=0) (Slack.tells hok.1 evs (d:=f.kept.length) (S2.lose hok.1 mo) |>.weak (d':=0+f.kept.length) (by omega) (qO0 _));refine((S3.of_same (τ:=_) ?_ ?_ ?_ ?_).of_none 0).weak (qO0 _) (by omega)
      ·simp only[Net.know,(jB t f.kept _).2.2.2,(jB t evs _).2.2.2];rfl
      ·simp only[Net.know,(jB t f.kept _).2.1,(jB t evs _).2.1];rfl
      ·intro u;have:=gH (s:=t) f.kept (gH (s:=t) evs (xN (s:=t) (mo:=mo) (σ:=({σ with q:=xB σ.q x.toNat y.toNat r}:Net).know y.toNat t (some {f with kept:=[],waits:=false})) (τ:={σ with q:=xB σ.q x.toNat y.toNat r}) rfl));simp only[Net.toldN,Net.know,this]
      ·intro u;have:=gH (s:=t) f.kept (gH (s:=t) evs (xN (s:=t) (mo:=mo) (σ:=({σ with q:=xB σ.q x.toNat y.toNat r}:Net).know y.toNat t (some {f with kept:=[],waits:=false})) (τ:={σ with q:=xB σ.q x.toNat y.toNat r}) rfl));simp only[Net.know,this]
  ·exact R.slack.weak (qO0 _) (by omega)
 ·exact R.slack.weak (qO0 _) (by omega)
 ·rename_i h0
  split
  ·rename_i f r hq
   have N0:Nums {σ with q:=xB σ.q x.toNat y.toNat r} m:=R.nums.of rfl rfl;cases f with
   | sub t age fl=>exact((N0.learn _ _ _ _ _).pushAll _ _ _).weak (by omega)
   | unsub t age=>exact((N0.forget _ _ _).pushAll _ _ _).weak (by omega)
   | event e=>exact N0.happens _ e _
   | move t age fl old new=>
    simp only[Net.handle];have N1:=(N0.know (b:=y.toNat) (s:=t) (o:=some ⟨age,fl,some x.toNat,[],0,false⟩) (fun f hf=>by cases hf;exact xI ..)).weak (m':=m+8) (by omega);split
    ·exact N1.of rfl rfl
    ·exact N1.of rfl rfl
   | rest t evs mo new=>
    simp only[Net.handle];split
    ·exact(N0.weak (m':=m+8) (by omega)).of rfl rfl
    ·split
     ·exact N0.weak (by omega)
     ·rename_i f hf
      have hF:=N0.kn _ _ _ hf;exact((Nums.tells t f.kept (Nums.tells t evs (N0.lose t mo))).know (fun g hg=>by cases hg;exact⟨hF.more,fun h=>by simp at h,fun _=>by simp⟩)).weak (by omega)
  ·exact R.nums.weak (by omega)
 ·exact R.nums.weak (by omega)
end
section
variable {σ : Net} {m : Nat}
theorem Slack.clSame (h:Slack 0 0 σ m){c:Nat}{x:Cli}(ht:∀k,(x.told k).length≤((σ.cl c).told k).length)(hl:x.log.length≤(σ.cl c).log.length):Slack 0 0 (σ.setCl c x) m:=by
 refine⟨fun t h8=>?_,fun d h4=>?_⟩
 ·have:=h.told t h8;rw[jD (σ:=σ) (τ:=σ.setCl c x) rfl rfl];by_cases e:t/2=c
  ·have e1:(σ.setCl c x).toldN t=(x.told (t%2)).length:=by simp[Net.toldN,Net.setCl,e]
   have:=ht (t%2);rw[e1];simp only[Net.toldN,e] at *;omega
  ·have e1:(σ.setCl c x).toldN t=σ.toldN t:=by simp[Net.toldN,Net.setCl,kA _ _ e]
   rw[e1];exact this
 ·have:=h.log d h4;rw[jD (σ:=σ) (τ:=σ.setCl c x) rfl rfl,jD (σ:=σ) (τ:=σ.setCl c x) rfl rfl];by_cases e:d=c
  ·subst e;simp only[Net.setCl,put_same];omega
  ·simp only[Net.setCl,kA _ _ e];exact this
theorem Ready.detach (R:Ready σ m)(c:Int):Ready (σ.detach c) (m+8):=by
 obtain⟨E,hP,hE⟩:=R.news;refine⟨R.alive.detach c,?_,?_,E,hP.detach c,fun e he=>(hE e he).weak (by omega)⟩
 all_goals unfold Net.detach
 all_goals split
 ·refine(R.slack.clSame (c:=c.toNat) (x:={σ.cl c.toNat with here:=none}) (fun _=>qO0 _) (qO0 _)).weak (m':=m+8) (qO0 _) (by omega)
 ·exact R.slack.weak (m':=m+8) (qO0 _) (by omega)
 ·have:=R.nums.cl c.toNat;exact(R.nums.setCl (c:=c.toNat) (x:={σ.cl c.toNat with here:=none}) ⟨this.stays,this.many,this.age,this.ris⟩).weak (m':=m+8) (by omega)
 ·exact R.nums.weak (m':=m+8) (by omega)
theorem Ready.log (R:Ready σ m)(c:Int):Ready (σ.log c) (m+8):=by
 obtain⟨E,hP,hE⟩:=R.news;refine⟨R.alive.log c,?_,?_,E,hP.log c,fun e he=>(hE e he).weak (by omega)⟩
 all_goals unfold Net.log
 all_goals split
 ·exact(R.slack.clSame (c:=c.toNat) (x:={σ.cl c.toNat with log:=[]}) (fun _=>qO0 _) (by simp)).weak (m':=m+8) (qO0 _) (by omega)
 ·exact R.slack.weak (m':=m+8) (qO0 _) (by omega)
 ·have:=R.nums.cl c.toNat;exact(R.nums.setCl (c:=c.toNat) (x:={σ.cl c.toNat with log:=[]}) ⟨this.stays,this.many,this.age,this.ris⟩).weak (m':=m+8) (by omega)
 ·exact R.nums.weak (m':=m+8) (by omega)
theorem bI0 (s:Nat)(e:News)(σ:Net)(d:Nat):((σ.tell s e).cl d).stays=(σ.cl d).stays∧((σ.tell s e).cl d).many=(σ.cl d).many∧((σ.tell s e).cl d).age=(σ.cl d).age:=by
 by_cases h:d=s/2
 ·subst h;simp only[Net.tell,Net.setCl,put_same,Cli.tell];split<;>exact⟨rfl,rfl,rfl⟩
 ·simp[Net.tell,Net.setCl,kA _ _ h]
theorem cK0 (b:Nat)(e:News)(s:Nat)(σ:Net)(d:Nat):((σ.hear b e s).cl d).stays=(σ.cl d).stays∧((σ.hear b e s).cl d).many=(σ.cl d).many∧((σ.hear b e s).cl d).age=(σ.cl d).age:=by
 unfold Net.hear;split
 ·exact⟨rfl,rfl,rfl⟩
 ·split
  ·split
   ·exact⟨rfl,rfl,rfl⟩
   ·split
    ·exact⟨rfl,rfl,rfl⟩
    ·exact bI0 s e σ d
  ·exact⟨rfl,rfl,rfl⟩
theorem xW (b:Nat)(e:News):∀(l:List Nat) (σ:Net) (d:Nat),((σ.hears b e l).cl d).stays=(σ.cl d).stays∧((σ.hears b e l).cl d).many=(σ.cl d).many∧((σ.hears b e l).cl d).age=(σ.cl d).age
 | [],_,_=>⟨rfl,rfl,rfl⟩
 | s::l,σ,d=>by
  have h1:=cK0 b e s σ d;have h2:=xW b e l (σ.hear b e s) d;exact⟨h2.1.trans h1.1,h2.2.1.trans h1.2.1,h2.2.2.trans h1.2.2⟩
theorem gK0 (b:Nat)(e:News)(l:List Nat){m:Nat}{τ:Net}(h:∀b s f,τ.kn b s=some f→FactN f m):∀x s f,(τ.hears b e l).kn x s=some f→FactN f (m+l.length):=by
 have key:∀(l:List Nat) {m:Nat} {τ:Net},(∀b s f,τ.kn b s=some f→FactN f m)→∀x s f,(τ.hears b e l).kn x s=some f→FactN f (m+l.length):=by
  intro l;induction l with
  | nil=>intro m τ h x s f hf;exact h x s f hf
  | cons t l ih=>
   intro m τ h x s f hf;have h1:∀b' s f,(τ.hear b e t).kn b' s=some f→FactN f (m+1):=by
    intro b' s f hf;unfold Net.hear at hf;split at hf
    ·exact(h _ _ _ hf).weak (by omega)
    ·rename_i g hg
     have hF:=h b t g hg;have put_:∀{o:Option Fact},(∀f,o=some f→FactN f (m+1))→xB τ.kn b t o b' s=some f→FactN f (m+1):=by
      intro o ho hx;by_cases e:b'=b∧s=t
      ·obtain⟨rfl,rfl⟩:=e;rw[put2_same] at hx;exact ho f hx
      ·rw[jA _ _ e] at hx;exact(h _ _ _ hx).weak (by omega)
     split at hf
     ·split at hf
      ·rename_i hw
       refine put_ ?_ hf;intro f hf;cases hf;refine⟨by have:=hF.more;simp;omega,hF.none,fun hn=>?_⟩;simp only at hn;simp only[hn,Bool.false_or,qP0,oP0] at hw;simp;omega
      ·rename_i hw
       split at hf
       ·refine put_ ?_ hf;intro f hf;cases hf;refine⟨by have:=hF.more;simp;omega,fun hw'=>?_,hF.six⟩;simp only at hw';rw[hw'] at hw;simp at hw
       ·exact(h _ _ _ hf).weak (by omega)
     ·exact(h _ _ _ hf).weak (by omega)
   have:=ih h1 x s f hf;have e1:m+1+l.length=m+(t::l).length:=by simp;omega
   rw[←e1];exact this
 exact key l h
theorem Ready.pub (R:Ready σ m)(c f0 f1 f2:Int):Ready (σ.pub c f0 f1 f2) (m+8):=by
 obtain⟨E,hP,hE⟩:=R.news;by_cases h0:σ.pubE c=0
 ·obtain⟨ho,hc,hh,hf⟩:=nV h0;cases hb:(σ.cl c.toNat).here with
  | none=>exact absurd hb hh
  | some b=>
   have e:σ.pub c f0 f1 f2=(σ.setCl c.toNat {σ.cl c.toNat with many:=(σ.cl c.toNat).many+1}).happens b (σ.pubEv c f0 f1 f2) none:=by simp only[Net.pub,h0,if_true,hb]
   have hb6:=R.bro6 ((R.alive.live.good.clis c.toNat (by omega)).here b hb);have hN:=R.nums.cl c.toNat;have L1:Live (σ.setCl c.toNat {σ.cl c.toNat with many:=(σ.cl c.toNat).many+1}):=by
    refine R.alive.live.setCl (by omega) ?_ ?_ ?_ ?_ ?_<;>rfl
   have S1:Slack 0 0 (σ.setCl c.toNat {σ.cl c.toNat with many:=(σ.cl c.toNat).many+1}) m:=R.slack.clSame (fun _=>qO0 _) (qO0 _);have N1:Nums (σ.setCl c.toNat {σ.cl c.toNat with many:=(σ.cl c.toNat).many+1}) (m+1):=(R.nums.weak (by omega)).setCl ⟨⟨hN.stays.1,by have:=hN.stays.2;simp;omega⟩,⟨by have:=hN.many.1;simp;omega,by have:=hN.many.2;simp;omega⟩,fun k=>⟨(hN.age k).1,by have:=(hN.age k).2;simp;omega⟩,hN.ris⟩;have P1:Pubs (E++[σ.pubEv c f0 f1 f2]) (σ.setCl c.toNat {σ.cl c.toNat with many:=(σ.cl c.toNat).many+1}):=(hP.setCl (c:=c.toNat) (x:={σ.cl c.toNat with many:=(σ.cl c.toNat).many+1}) (fun k e he=>hP.told c.toNat k e he)).mono (fun e he=>List.mem_append_left _ he);refine⟨R.alive.pub c f0 f1 f2,?_,?_,E++[σ.pubEv c f0 f1 f2],?_,fun e he=>?_⟩
   ·rw[e];exact S1.happens L1.good hb6 _ _
   ·rw[e];have h1:=N1.happens b (σ.pubEv c f0 f1 f2) none;refine⟨fun d=>?_,fun x s f hf=>?_⟩
    ·have h2:=xW b (σ.pubEv c f0 f1 f2) (List.range 8) (σ.setCl c.toNat {σ.cl c.toNat with many:=(σ.cl c.toNat).many+1}) d;have h3:((σ.setCl c.toNat {σ.cl c.toNat with many:=(σ.cl c.toNat).many+1}).happens b (σ.pubEv c f0 f1 f2) none).cl=((σ.setCl c.toNat {σ.cl c.toNat with many:=(σ.cl c.toNat).many+1}).hears b (σ.pubEv c f0 f1 f2) (List.range 8)).cl:=(rB _ _).2.1;have h4:=N1.cl d;have h5:=h1.cl d;rw[h3] at h5 ⊢;refine⟨?_,?_,fun k=>?_,h5.ris⟩
     ·rw[h2.1];exact⟨h4.stays.1,by have:=h4.stays.2;omega⟩
     ·rw[h2.2.1];exact⟨h4.many.1,by have:=h4.many.2;omega⟩
     ·rw[h2.2.2];exact⟨(h4.age k).1,by have:=(h4.age k).2;omega⟩
    ·have h7:((σ.setCl c.toNat {σ.cl c.toNat with many:=(σ.cl c.toNat).many+1}).happens b (σ.pubEv c f0 f1 f2) none).kn=((σ.setCl c.toNat {σ.cl c.toNat with many:=(σ.cl c.toNat).many+1}).hears b (σ.pubEv c f0 f1 f2) (List.range 8)).kn:=(rB _ _).1;rw[h7] at hf;have h8:∀b s f,(σ.setCl c.toNat {σ.cl c.toNat with many:=(σ.cl c.toNat).many+1}).kn b s=some f→FactN f m:=R.nums.kn;exact gK0 b _ (List.range 8) h8 x s f hf
   ·rw[e];exact P1.happens b (List.mem_append_right _ (eO0.2 rfl)) none
   ·rcases xP0.1 he with he | he
    ·exact(hE e he).weak (by omega)
    ·rw[eO0.1 he];have h1:=hN.many;have h2:=hN.stays;exact⟨hc.1,hc.2,by show 1≤(σ.cl c.toNat).many+1;omega,by show (σ.cl c.toNat).many+1≤_;omega,h2.1,by show (σ.cl c.toNat).stays≤_;omega⟩
 ·have e:σ.pub c f0 f1 f2=σ:=by simp[Net.pub,h0]
  rw[e];exact R.weak (by omega)
theorem Ready.sub (R:Ready σ m)(c:Int)(l:List Tst):Ready (σ.sub c l) (m+8):=by
 obtain⟨E,hP,hE⟩:=R.news;refine⟨R.alive.sub c l,?_,?_,E,hP.sub c l,fun e he=>(hE e he).weak (by omega)⟩
 all_goals unfold Net.sub
 all_goals split
 ·rename_i h0
  obtain⟨ho,hc,_,hh,_⟩:=yV h0;split
  ·rename_i b hb
   have hb6:=R.bro6 ((R.alive.live.good.clis c.toNat (by omega)).here b hb);have S1:Slack 0 0 (σ.setCl c.toNat {σ.cl c.toNat with used:=put (σ.cl c.toNat).used (σ.slot c.toNat) true,age:=put (σ.cl c.toNat).age (σ.slot c.toNat) ((σ.cl c.toNat).age (σ.slot c.toNat)+1),fl:=put (σ.cl c.toNat).fl (σ.slot c.toNat) l,told:=put (σ.cl c.toNat).told (σ.slot c.toNat) []}) m:=
    R.slack.clSame (fun k=>by simp only[put];split<;>simp) (qO0 _)
   have S2:=(S1.of_none (2*c.toNat+σ.slot c.toNat)).know (b:=b) (o:=some ⟨(σ.cl c.toNat).age (σ.slot c.toNat)+1,l,none,[],0,false⟩) (d':=0) hb6 (by simp[oB]);refine((S2.of_none 0).pushAll hb6 (f:=.sub (2*c.toNat+σ.slot c.toNat) ((σ.cl c.toNat).age (σ.slot c.toNat)+1) l) (fun _=>rfl) (fun z hz=>?_)).weak (qO0 _) (by omega);exact(dB R.tree (yD hz).1).2
  ·exact R.slack.weak (qO0 _) (by omega)
 ·exact R.slack.weak (qO0 _) (by omega)
 ·split
  ·rename_i b hb
   have hN:=R.nums.cl c.toNat;refine((((R.nums.weak (m':=m+8) (by omega)).setCl (c:=c.toNat) (x:={σ.cl c.toNat with used:=put (σ.cl c.toNat).used (σ.slot c.toNat) true,age:=put (σ.cl c.toNat).age (σ.slot c.toNat) ((σ.cl c.toNat).age (σ.slot c.toNat)+1),fl:=put (σ.cl c.toNat).fl (σ.slot c.toNat) l,told:=put (σ.cl c.toNat).told (σ.slot c.toNat) []}) ?_).know (b:=b) (s:=2*c.toNat+σ.slot c.toNat) (o:=some ⟨(σ.cl c.toNat).age (σ.slot c.toNat)+1,l,none,[],0,false⟩) (fun f hf=>by cases hf;exact xI ..)).pushAll _ _ _);refine⟨⟨hN.stays.1,by have:=hN.stays.2;simp;omega⟩,⟨hN.many.1,by have:=hN.many.2;simp;omega⟩,fun k=>?_,fun k=>?_⟩
   ·have h1:=hN.age (σ.slot c.toNat);have h2:=hN.age k;simp only[put];split<;>omega
   ·simp only[put];split
    ·exact List.Pairwise.nil
    ·exact hN.ris k
  ·exact R.nums.weak (by omega)
 ·exact R.nums.weak (by omega)
theorem Ready.unsub (R:Ready σ m)(c k:Int):Ready (σ.unsub c k) (m+8):=by
 obtain⟨E,hP,hE⟩:=R.news;refine⟨R.alive.unsub c k,?_,?_,E,hP.unsub c k,fun e he=>(hE e he).weak (by omega)⟩
 all_goals unfold Net.unsub
 all_goals split
 ·rename_i h0
  obtain⟨ho,hc,_,hh,_⟩:=gP h0;split
  ·rename_i b hb
   have hb6:=R.bro6 ((R.alive.live.good.clis c.toNat (by omega)).here b hb);have S1:Slack 0 0 (σ.setCl c.toNat {σ.cl c.toNat with used:=put (σ.cl c.toNat).used k.toNat false}) m:=R.slack.clSame (fun k=>qO0 _) (qO0 _);have S2:=(S1.of_none (2*c.toNat+k.toNat)).know (b:=b) (o:=none) (d':=0) hb6 (by simp[oB]);refine((S2.of_none 0).pushAll hb6 (f:=.unsub (2*c.toNat+k.toNat) ((σ.cl c.toNat).age k.toNat)) (fun _=>rfl) (fun z hz=>?_)).weak (qO0 _) (by omega);exact(dB R.tree (yD hz).1).2
  ·exact R.slack.weak (qO0 _) (by omega)
 ·exact R.slack.weak (qO0 _) (by omega)
 ·split
  ·rename_i b hb
   have hN:=(R.nums.weak (m':=m+8) (by omega)).cl c.toNat;exact((((R.nums.weak (m':=m+8) (by omega)).setCl (c:=c.toNat) (x:={σ.cl c.toNat with used:=put (σ.cl c.toNat).used k.toNat false}) ⟨hN.stays,hN.many,hN.age,hN.ris⟩).know (b:=b) (s:=2*c.toNat+k.toNat) (o:=none) (fun f hf=>by cases hf)).pushAll _ _ _)
  ·exact R.nums.weak (by omega)
 ·exact R.nums.weak (by omega)
theorem Slack.backs (h:Slack 0 0 σ m){c b k:Nat}(hc:c<4)(hk:k<2)(hb:b<6):Slack 0 0 (σ.backs c b k) (m+1):=by
 unfold Net.backs;split
 ·split
  ·exact h.weak (qO0 _) (by omega)
  ·rename_i f hf
   have h8:2*c+k<8:=by omega
   have S1:=((h.of_none (2*c+k)).more 1).know (b:=b) (o:=some {f with kept:=[],more:=0}) (d':=f.kept.length+1) hb (by simp[oB,hf];omega);have S2:=Slack.tells h8 f.kept (d:=0) ((S1.lose h8 f.more).weak (d':=0+f.kept.length) (by omega) (qO0 _));have hcl:=gH (s:=2*c+k) f.kept (xN (s:=2*c+k) (mo:=f.more) (σ:=σ.know b (2*c+k) (some {f with kept:=[],more:=0})) (τ:=σ) rfl);refine(S2.of_same ?_ ?_ ?_ ?_).of_none 0
   ·simp only[Net.know,(jB (2*c+k) f.kept _).2.2.2];rfl
   ·simp only[Net.know,(jB (2*c+k) f.kept _).2.1];rfl
   ·intro u;simp only[Net.toldN,Net.know,hcl]
   ·intro u;simp only[Net.know,hcl]
 ·exact h.weak (qO0 _) (by omega)
theorem Nums.backs (h:Nums σ m)(c b k:Nat):Nums (σ.backs c b k) m:=by
 unfold Net.backs;split
 ·split
  ·exact h
  ·rename_i f hf
   have hF:=h.kn _ _ _ hf;exact(Nums.tells _ f.kept (h.lose _ f.more)).know (fun g hg=>by cases hg;exact⟨by simp,fun _=>rfl,fun hw=>by simp⟩)
 ·exact h
theorem Slack.comes (h:Slack 0 0 σ m)(T:Tree σ.par){c b old k:Nat}(hb:b<σ.n)(ho:old<σ.n)(hne:b≠old):Slack 0 0 (σ.comes c b old k) m:=by
 unfold Net.comes;simp only;split
 ·have hb6:b<6:=sO0 hb (gB T);have S1:Slack 0 0 (σ.setCl c {σ.cl c with age:=put (σ.cl c).age k ((σ.cl c).age k+1)}) m:=h.clSame (fun _=>qO0 _) (qO0 _);have S2:=(S1.of_none (2*c+k)).know (b:=b) (o:=some ⟨(σ.cl c).age k+1,(σ.cl c).fl k,none,[],0,true⟩) (d':=0) hb6 (by simp[oB]);have h7:tB σ.par b old<6:=sO0 (cB T hb ho hne).2.1 (gB T);exact(S2.push hb6 h7 (d':=0) (f:=.move (2*c+k) ((σ.cl c).age k+1) ((σ.cl c).fl k) old b) (fun _ _=>rfl) (by simp[tC])).of_none 0
 ·exact h
theorem Nums.comes (h:Nums σ m)(c b old k:Nat):Nums (σ.comes c b old k) (m+1):=by
 unfold Net.comes;simp only;have h1:=h.weak (m':=m+1) (by omega);split
 ·have hN:=h.cl c;refine Nums.of (σ:=(σ.setCl c {σ.cl c with age:=put (σ.cl c).age k ((σ.cl c).age k+1)}).know b (2*c+k) (some ⟨(σ.cl c).age k+1,(σ.cl c).fl k,none,[],0,true⟩)) ?_ rfl rfl;refine(h1.setCl (c:=c) (x:={σ.cl c with age:=put (σ.cl c).age k ((σ.cl c).age k+1)}) ⟨⟨hN.stays.1,by have:=hN.stays.2;simp;omega⟩,⟨hN.many.1,by have:=hN.many.2;simp;omega⟩,fun j=>?_,hN.ris⟩).know (b:=b) (s:=2*c+k) (o:=some ⟨(σ.cl c).age k+1,(σ.cl c).fl k,none,[],0,true⟩) (fun f hf=>by cases hf;exact xI ..);have h2:=hN.age k;have h3:=hN.age j;simp only[put];split<;>omega
 ·exact h1
theorem Nums.arrive (h:Nums σ m)(c b:Nat):Nums (σ.arrive c b) (m+1):=by
 have hN:=h.cl c;exact(h.weak (m':=m+1) (by omega)).setCl ⟨⟨by have:=hN.stays.1;simp;omega,by have:=hN.stays.2;simp;omega⟩,⟨hN.many.1,by have:=hN.many.2;simp;omega⟩,fun k=>⟨(hN.age k).1,by have:=(hN.age k).2;simp;omega⟩,hN.ris⟩
theorem Slack.arrive (h:Slack 0 0 σ m)(c b:Nat):Slack 0 0 (σ.arrive c b) m:=h.clSame (fun _=>qO0 _) (qO0 _)
theorem Ready.attach (R:Ready σ m)(c b:Int):Ready (σ.attach c b) (m+8):=by
 obtain⟨E,hP,hE⟩:=R.news;by_cases h0:σ.attachE c b=0
 ·obtain⟨ho,hc,hb,hn,_⟩:=gO h0;have hb6:=R.bro6 (b:=b.toNat) (by omega);have hbk:Slack 0 0 (((σ.backs c.toNat b.toNat 0).backs c.toNat b.toNat 1).arrive c.toNat b.toNat) (m+8)∧Nums (((σ.backs c.toNat b.toNat 0).backs c.toNat b.toNat 1).arrive c.toNat b.toNat) (m+8):=
   ⟨(((R.slack.backs (by omega) (by omega) hb6).backs (by omega) (by omega) hb6).arrive _ _).weak (qO0 _) (by omega),(((R.nums.backs _ _ _).backs _ _ _).arrive _ _).weak (by omega)⟩
  have key:Slack 0 0 (σ.attachN c.toNat b.toNat) (m+8)∧Nums (σ.attachN c.toNat b.toNat) (m+8):=by
   unfold Net.attachN;split
   ·exact hbk
   ·rename_i h hh
    split
    ·exact hbk
    ·rename_i e
     have hh':=(R.alive.live.good.clis c.toNat (by omega)).home h hh;have hk:=(bF (σ:=σ) c.toNat b.toNat h 0).1;refine⟨(((R.slack.comes R.tree (by omega) hh' (fun x=>e x.symm)).comes (by rw[hk];exact R.tree) (by simp only[Net.n,hk];have:=hb.2;simp only[Net.n] at this;omega) (by simp only[Net.n,hk];exact hh') (fun x=>e x.symm)).arrive _ _).weak (qO0 _) (by omega),(((R.nums.comes _ _ _ _).comes _ _ _ _).arrive _ _).weak (by omega)⟩
  have e:σ.attach c b=σ.attachN c.toNat b.toNat:=by simp[Net.attach,h0]
  exact⟨R.alive.attach c b,by rw[e];exact key.1,by rw[e];exact key.2,E,hP.attach c b,fun e he=>(hE e he).weak (by omega)⟩
 ·have e:σ.attach c b=σ:=by simp[Net.attach,h0]
  rw[e];exact R.weak (by omega)
end
def Fr.isMove:Fr→Bool
 | .move _ _ _ _ _=>true
 | _=>false
def MvWay (σ:Net):Prop:=∀x y s age fl old new,Fr.move s age fl old new∈σ.q x y→x≠old∧tB σ.par x old=y∧tB σ.par y new=x
section
variable {σ : Net}
theorem MvWay.sub (h:MvWay σ){τ:Net}(hp:τ.par=σ.par)(hq:∀x y f,f∈τ.q x y→f.isMove=true→f∈σ.q x y):MvWay τ:=fun x y s age fl old new hf=>by
 rw[hp];exact h x y s age fl old new (hq x y _ hf rfl)
theorem MvWay.same (h:MvWay σ){τ:Net}(hp:τ.par=σ.par)(hq:τ.q=σ.q):MvWay τ:=h.sub hp (fun x y f hf _=>by rw[←hq];exact hf)
theorem MvWay.pushAll (h:MvWay σ){f:Fr}(hf:f.isMove=false)(x:Nat)(ys:List Nat):MvWay (σ.pushAll x ys f):=h.sub (pushAll_par _ _ _ _) (fun a b g hg hm=>by
 rcases(rH ys σ).1 hg with h1 | ⟨_,_,rfl⟩
 ·exact h1
 ·rw[hf] at hm;cases hm)
theorem MvWay.push (h:MvWay σ){f:Fr}(hf:f.isMove=false)(x y:Nat):MvWay (σ.push x y f):=h.pushAll hf x [y]
theorem MvWay.pop (h:MvWay σ){a b:Nat}{f:Fr}{r:List Fr}(hq:σ.q a b=f::r):MvWay {σ with q:=xB σ.q a b r}:=h.sub rfl (fun x y g hg _=>by
 have hg:g∈xB σ.q a b r x y:=hg;by_cases e:x=a∧y=b
 ·obtain⟨rfl,rfl⟩:=e;rw[put2_same] at hg;rw[hq];exact kO0 _ hg
 ·rw[jA _ _ e] at hg;exact hg)
theorem MvWay.pushMove (h:MvWay σ){x y s:Nat}{age:Int}{fl:List Tst}{old new:Nat}(h1:x≠old)(h2:tB σ.par x old=y)(h3:tB σ.par y new=x):MvWay (σ.push x y (.move s age fl old new)):=fun a b s' age' fl' old' new' hf=>by
 have hf:_∈xB σ.q x y (σ.q x y++[.move s age fl old new]) a b:=hf;by_cases e:a=x∧b=y
 ·obtain⟨rfl,rfl⟩:=e;rw[put2_same] at hf;rcases xP0.1 hf with hf | hf
  ·exact h _ _ _ _ _ _ _ hf
  ·cases eO0.1 hf;exact⟨h1,h2,h3⟩
 ·rw[jA _ _ e] at hf;exact h _ _ _ _ _ _ _ hf
theorem iM0 {par:List Nat}(T:Tree par){x y old new:Nat}(hx:x<size par)(hy:y<size par)(ho:old<size par)(hn:new<size par)(h1:x≠old)(h2:tB par x old=y)(h3:tB par y new=x)(hne:y≠old):
  tB par (tB par y old) new=y:=by
 have a:=cB T hx ho h1;have b:=cB T hy ho hne;rcases turn T b.1 hn with h | h
 ·exfalso;rw[h3] at h;rw[h2] at a;rw[←h] at b;omega
 ·exact h
theorem zQ (b:Nat)(e:News)(l:List Nat):(σ.hears b e l).par=σ.par∧(σ.hears b e l).q=σ.q:=⟨(uF b e l σ).1,(uF b e l σ).2.1⟩
theorem MvWay.happens (h:MvWay σ)(b:Nat)(e:News)(fr:Option Nat):MvWay (σ.happens b e fr):=by
 have h1:=zQ (σ:=σ) b e (List.range 8);exact(MvWay.same (τ:=σ.hears b e (List.range 8)) h h1.1 h1.2).pushAll rfl b _
theorem MvWay.del (h:MvWay σ)(G:Good σ)(x y:Int):MvWay (σ.del x y):=by
 unfold Net.del;split
 ·rename_i h0
  obtain⟨_,_,hn,_⟩:=fW h0;split
  ·rename_i f r hq
   have h1:=h.pop hq;cases f with
   | sub t age fl=>exact(h1.same (mD _ _ _ _ _ _).1 (mD _ _ _ _ _ _).2.1).pushAll rfl _ _
   | unsub t age=>exact(h1.same (xD _ _ _ _).1 (xD _ _ _ _).2.1).pushAll rfl _ _
   | event e=>exact h1.happens _ e _
   | move t age fl old new=>
    simp only[Net.handle];split
    ·refine MvWay.push (σ:=({σ with q:=xB σ.q x.toNat y.toNat r}:Net).know y.toNat t (some ⟨age,fl,some x.toNat,[],0,false⟩)) (h1.same rfl rfl) ?_ _ _;split<;>rfl
    ·rename_i hne
     have hw:=h x.toNat y.toNat t age fl old new (by rw[hq];exact lO0 ..);have hl:=bB G.tree hn;have hok:t<8∧yB fl=true∧old<σ.n∧new<σ.n:=G.frames x.toNat y.toNat (.move t age fl old new) (by rw[hq];exact lO0 ..);exact MvWay.pushMove (σ:=({σ with q:=xB σ.q x.toNat y.toNat r}:Net).know y.toNat t (some ⟨age,fl,some x.toNat,[],0,false⟩)) (h1.same rfl rfl) hne rfl (iM0 G.tree hl.1 hl.2 hok.2.2.1 hok.2.2.2 hw.1 hw.2.1 hw.2.2 hne)
   | rest t evs mo new=>
    simp only[Net.handle];split
    ·exact MvWay.push h1 rfl _ _
    ·split
     ·exact h1
     ·rename_i f hf
      refine h1.same ?_ ?_
      ·simp only[Net.know,(jB _ _ _).1];rfl
      ·simp only[Net.know,(jB _ _ _).2.1];rfl
  ·exact h
 ·exact h
theorem MvWay.backs (h:MvWay σ)(c b k:Nat):MvWay (σ.backs c b k):=h.same (aF c b k).1 (aF c b k).2.1
theorem MvWay.comes (h:MvWay σ)(T:Tree σ.par){c b old k:Nat}(hb:b<σ.n)(ho:old<σ.n)(hne:b≠old):MvWay (σ.comes c b old k):=by
 unfold Net.comes;simp only;split
 ·have a:=cB T hb ho hne;exact MvWay.pushMove (σ:=(σ.setCl c {σ.cl c with age:=put (σ.cl c).age k ((σ.cl c).age k+1)}).know b (2*c+k) (some ⟨(σ.cl c).age k+1,(σ.cl c).fl k,none,[],0,true⟩)) (h.same rfl rfl) hne rfl (pG0 T (by rw[tP];exact a.1))
 ·exact h
theorem MvWay.attach (h:MvWay σ)(G:Good σ)(c b:Int):MvWay (σ.attach c b):=by
 unfold Net.attach;split
 ·rename_i h0
  obtain⟨_,hc,hb,_⟩:=gO h0;have hbk:MvWay (((σ.backs c.toNat b.toNat 0).backs c.toNat b.toNat 1).arrive c.toNat b.toNat):=((h.backs _ _ _).backs _ _ _).same rfl rfl;unfold Net.attachN;split
  ·exact hbk
  ·rename_i old hh
   split
   ·exact hbk
   ·rename_i hne
    have ho:=(G.clis c.toNat (by omega)).home old hh;have hk:=(bF (σ:=σ) c.toNat b.toNat old 0).1;have h1:=h.comes G.tree (c:=c.toNat) (b:=b.toNat) (old:=old) (k:=0) (by omega) ho (fun x=>hne x.symm);exact(h1.comes (by rw[hk];exact G.tree) (c:=c.toNat) (b:=b.toNat) (old:=old) (k:=1) (by simp only[Net.n,hk];have:=hb.2;simp only[Net.n] at this;omega) (by simp only[Net.n,hk];exact ho) (fun x=>hne x.symm)).same rfl rfl
 ·exact h
theorem MvWay.detach (h:MvWay σ)(c:Int):MvWay (σ.detach c):=by
 unfold Net.detach;split
 ·exact h.same rfl rfl
 ·exact h
theorem MvWay.log (h:MvWay σ)(c:Int):MvWay (σ.log c):=by
 unfold Net.log;split
 ·exact h.same rfl rfl
 ·exact h
theorem MvWay.sub' (h:MvWay σ)(c:Int)(l:List Tst):MvWay (σ.sub c l):=by
 unfold Net.sub;split
 ·split
  ·rename_i b _
   exact MvWay.pushAll (f:=.sub (2*c.toNat+σ.slot c.toNat) ((σ.cl c.toNat).age (σ.slot c.toNat)+1) l) (σ:=(σ.setCl c.toNat {σ.cl c.toNat with used:=put (σ.cl c.toNat).used (σ.slot c.toNat) true,age:=put (σ.cl c.toNat).age (σ.slot c.toNat) ((σ.cl c.toNat).age (σ.slot c.toNat)+1),fl:=put (σ.cl c.toNat).fl (σ.slot c.toNat) l,told:=put (σ.cl c.toNat).told (σ.slot c.toNat) []}).know b (2*c.toNat+σ.slot c.toNat) (some ⟨(σ.cl c.toNat).age (σ.slot c.toNat)+1,l,none,[],0,false⟩)) (h.same rfl rfl) rfl _ _
  ·exact h
 ·exact h
theorem MvWay.unsub (h:MvWay σ)(c k:Int):MvWay (σ.unsub c k):=by
 unfold Net.unsub;split
 ·split
  ·rename_i b _
   exact MvWay.pushAll (f:=.unsub (2*c.toNat+k.toNat) ((σ.cl c.toNat).age k.toNat)) (σ:=(σ.setCl c.toNat {σ.cl c.toNat with used:=put (σ.cl c.toNat).used k.toNat false}).know b (2*c.toNat+k.toNat) none) (h.same rfl rfl) rfl _ _
  ·exact h
 ·exact h
theorem MvWay.pub (h:MvWay σ)(c f0 f1 f2:Int):MvWay (σ.pub c f0 f1 f2):=by
 unfold Net.pub;split
 ·split
  ·rename_i b _
   exact MvWay.happens (σ:=σ.setCl c.toNat {σ.cl c.toNat with many:=(σ.cl c.toNat).many+1}) (h.same rfl rfl) b _ _
  ·exact h
 ·exact h
end
structure Fit (σ:Net)(m:Nat):Prop where
 r:Ready σ m
 mv:MvWay σ
section
variable {σ : Net} {m : Nat}
theorem Fit.good (F:Fit σ m):Good σ:=F.r.alive.live.good
theorem Fit.live (F:Fit σ m):Live σ:=F.r.alive.live
theorem Fit.weak (F:Fit σ m){m':Nat}(h:m≤m'):Fit σ m':=⟨F.r.weak h,F.mv⟩
theorem Fit.attach (F:Fit σ m)(c b:Int):Fit (σ.attach c b) (m+8):=⟨F.r.attach c b,F.mv.attach F.good c b⟩
theorem Fit.detach (F:Fit σ m)(c:Int):Fit (σ.detach c) (m+8):=⟨F.r.detach c,F.mv.detach c⟩
theorem Fit.sub (F:Fit σ m)(c:Int)(l:List Tst):Fit (σ.sub c l) (m+8):=⟨F.r.sub c l,F.mv.sub' c l⟩
theorem Fit.unsub (F:Fit σ m)(c k:Int):Fit (σ.unsub c k) (m+8):=⟨F.r.unsub c k,F.mv.unsub c k⟩
theorem Fit.pub (F:Fit σ m)(c f0 f1 f2:Int):Fit (σ.pub c f0 f1 f2) (m+8):=⟨F.r.pub c f0 f1 f2,F.mv.pub c f0 f1 f2⟩
theorem Fit.del (F:Fit σ m)(x y:Int):Fit (σ.del x y) (m+8):=⟨F.r.del x y,F.mv.del F.good x y⟩
theorem Fit.log (F:Fit σ m)(c:Int):Fit (σ.log c) (m+8):=⟨F.r.log c,F.mv.log c⟩
end
theorem uF0 {par:List Nat}(T:Tree par):Fit (nC par) 0:=by
 have hk:∀b s,(nC par).kn b s=none:=fun _ _=>rfl;have hq:∀x y,(nC par).q x y=[]:=fun _ _=>rfl;have hm:∀s,(nC par).mass s=0:=fun s=>by simp[Net.mass,Net.massK,Net.massQ,Net.restQ,hk,hq,oB,qE]
 refine⟨⟨⟨⟨⟨T,fun x y h=>absurd (hq x y) h,fun x y f hf=>(by rw[hq] at hf;cases hf),fun b s f hf=>(by rw[hk] at hf;cases hf),fun c _=>⟨fun b hb=>(by cases hb),fun b hb=>(by cases hb),fun k hu=>(by cases hu)⟩⟩,fun s hs=>?_,fun b s f hf=>(by rw[hk] at hf;cases hf),fun c _ b hb=>(by cases hb)⟩,?_⟩,⟨fun t _=>by rw[hm];simp[Net.toldN,nC,gG],fun c _=>by rw[hm,hm];simp[nC,gG]⟩,⟨fun c=>⟨by simp[nC,gG],by simp[nC,gG],fun k=>by simp[nC,gG],fun k=>List.Pairwise.nil⟩,fun b s f hf=>(by rw[hk] at hf;cases hf)⟩,[],⟨fun x y f hf=>(by rw[hq] at hf;cases hf),fun b s f hf=>(by rw[hk] at hf;cases hf),fun c k e he=>(by cases he)⟩,fun e he=>(by cases he)⟩,fun x y s age fl old new hf=>(by rw[hq] at hf;cases hf)⟩
 ·exact⟨fun b o ho=>(by cases ho),fun x y f hf=>(by cases hf),.off rfl (fun b o ho=>(by cases ho)) (fun x y=>rfl)⟩
 ·simp[Net.weight,Net.wtL,hq,qE]
section
variable {G : Nat → Nat → List News} {σ : Net}
theorem Live.here_fl (L:Live σ){b s:Nat}(hs:s<8){f:Fact}(hf:σ.kn b s=some f)(hw:f.way=none)(hh:(σ.cl (s/2)).here=some b)(hwt:f.waits=false):(σ.view s).used=true∧(σ.view s).fl=f.fl:=by
 have hc:(σ.view s).co b=some f.co:=by show (σ.kn b s).map Fact.co=_;rw[hf];rfl
 have hhv:(σ.view s).here=some b:=hh;cases (L.view s hs).ph with
 | off hu ho hm=>exact absurd hw (ho b f.co hc (fun x=>x))
 | on h hu hho hco ho hm=>
  by_cases e:b=h
  ·subst e;rw[hc] at hco;exact⟨hu,(congrArg Co.fl (bO0 hco)).symm⟩
  ·exact absurd hw (ho b f.co hc e)
 | moving h old x y hu hho he hne hl hco hd ho hm hy=>
  rw[hhv] at he;cases he;rw[hc] at hco;have:=congrArg Co.waits (bO0 hco);simp only[Fact.co] at this;rw[hwt] at this;cases this
 | resting h x y evs more hu hho he hco ho hm hk=>
  rw[hhv] at he;cases he;rw[hc] at hco;have:=congrArg Co.waits (bO0 hco);simp only[Fact.co] at this;rw[hwt] at this;cases this
theorem Live.hear (L:Live σ)(b:Nat)(e:News){s:Nat}(hs:s<8):Live (σ.hear b e s):=⟨L.good.hear b e hs,fun t ht=>by rw[dU];exact L.view t ht,Kept.hear L.kept b e s,Homed.of_cl L.home (fun c=>oF0 σ b e s c)⟩
end
def Net.rel (σ:Net)(c b k:Nat):Net:=match σ.kn b (2*c+k) with
 | none=>σ
 | some f=>((σ.lose (2*c+k) f.more).tells (2*c+k) f.kept).know b (2*c+k) (some {f with kept:=[],more:=0})
def Cli.arr (x:Cli)(b:Nat):Cli:={x with here:=some b,home:=some b,stays:=x.stays+1}
theorem xM0 (x:Cli)(b k:Nat)(e:News):(x.arr b).tell k e=(x.tell k e).arr b:=by
 unfold Cli.tell Cli.arr;simp only;split<;>rfl
theorem vM0 (x:Cli)(b k:Nat)(m:Int):(x.arr b).lose k m=(x.lose k m).arr b:=by
 unfold Cli.lose Cli.arr;simp only;split<;>rfl
theorem gF (σ:Net)(c b:Nat):σ.arrive c b=σ.setCl c ((σ.cl c).arr b):=rfl
theorem jQ {α:Type}(f:Nat→α)(i:Nat)(u v:α):put (put f i u) i v=put f i v:=by funext j;simp only[put];split<;>rfl
theorem tH (σ:Net)(c:Nat)(x y:Cli):(σ.setCl c x).setCl c y=σ.setCl c y:=by simp only[Net.setCl,jQ]
theorem jG (σ:Net)(c:Nat)(x:Cli):(σ.setCl c x).cl c=x:=by simp[Net.setCl]
theorem dB0 (σ:Net){c b s:Nat}(hs:s/2=c)(e:News):(σ.arrive c b).tell s e=(σ.tell s e).arrive c b:=by
 subst hs;simp only[gF,Net.tell,jG,tH,xM0]
theorem cB0 (σ:Net){c b s:Nat}(hs:s/2=c)(m:Int):(σ.arrive c b).lose s m=(σ.lose s m).arrive c b:=by
 subst hs;simp only[gF,Net.lose,jG,tH,vM0]
theorem eO {c b s:Nat}(hs:s/2=c):∀(l:List News) (σ:Net),(σ.arrive c b).tells s l=(σ.tells s l).arrive c b
 | [],_=>rfl
 | e::l,σ=>by
  have:=eO (b:=b) hs l (σ.tell s e);rw[←dB0 σ hs e] at this;exact this
theorem jT (σ:Net){c b k x:Nat}(hk:k<2):(σ.arrive c b).rel c x k=(σ.rel c x k).arrive c b:=by
 have hs:(2*c+k)/2=c:=by omega
 unfold Net.rel;have hkn:(σ.arrive c b).kn x (2*c+k)=σ.kn x (2*c+k):=rfl;rw[hkn];cases σ.kn x (2*c+k) with
 | none=>rfl
 | some f=>
  simp only;rw[cB0 σ hs,eO hs];rfl
theorem dO (σ:Net)(c b old k:Nat):(σ.arrive c b).comes c b old k=(σ.comes c b old k).arrive c b:=by
 unfold Net.comes;have hu:((σ.arrive c b).cl c).used k=(σ.cl c).used k:=by rw[gF,jG];rfl
 simp only[hu];cases h:(σ.cl c).used k with
 | false=>rfl
 | true=>
  simp only[if_true];have ha:((σ.arrive c b).cl c).age k=(σ.cl c).age k∧((σ.arrive c b).cl c).fl=(σ.cl c).fl:=by rw[gF,jG];exact⟨rfl,rfl⟩
  rw[ha.1,ha.2];simp only[Net.push,Net.know,Net.arrive,Net.setCl,put_same,jQ]
theorem nA0 (σ:Net)(s:Nat):σ.lose s 0=σ:=by
 have:put σ.cl (s/2) (σ.cl (s/2))=σ.cl:=by funext j;simp only[put];split<;>simp_all
 simp[Net.lose,Cli.lose,Net.setCl,this]
theorem zH0 (σ:Net){b s:Nat}{f:Fact}(h:σ.kn b s=some f):σ.know b s (some f)=σ:=by
 have:xB σ.kn b s (some f)=σ.kn:=by funext x y;simp only[xB];split<;>simp_all
 simp only[Net.know,this]
theorem Live.unused {σ:Net}(L:Live σ){c b k:Nat}(hc:c<4)(hk:k<2)(hu:(σ.cl c).used k=false){f:Fact}(hf:σ.kn b (2*c+k)=some f):f.kept=[]∧f.more=0:=by
 have hs:(2*c+k)/2=c:=by omega
 have hk2:(2*c+k)%2=k:=by omega
 have V:=L.view (2*c+k) (by omega);have huv:(σ.view (2*c+k)).used=false:=by simp only[Net.view,hs,hk2,hu]
 have hco:(σ.view (2*c+k)).co b=some f.co:=by show (σ.kn b (2*c+k)).map Fact.co=_;rw[hf];rfl
 have hw:f.way≠none:=by
  cases V.ph with
  | off _ ho _=>exact ho b f.co hco (fun h=>h)
  | on h h1=>rw[huv] at h1;cases h1
  | moving h old x y h1=>rw[huv] at h1;cases h1
  | resting h x y evs more h1=>rw[huv] at h1;cases h1
 have:=(L.kept b _ f hf).2 hw;exact⟨this.1,this.2.1⟩
theorem Live.backs_rel {σ:Net}(L:Live σ){c b k:Nat}(hc:c<4)(hk:k<2):σ.backs c b k=σ.rel c b k:=by
 unfold Net.backs Net.rel;cases hu:(σ.cl c).used k with
 | true=>simp only[if_true];rfl
 | false=>
  simp only[Bool.false_eq_true,if_false];cases hf:σ.kn b (2*c+k) with
  | none=>rfl
  | some f=>
   obtain⟨h1,h2⟩:=L.unused hc hk hu hf;simp only[h1,h2,nA0];have:({f with kept:=[],more:=0}:Fact)=f:=by cases f;simp_all
   have e2:σ.tells (2*c+k) []=σ:=rfl;rw[e2];have h3:=zH0 σ hf;rw[←this] at h3;exact h3.symm
theorem gY {σ:Net}(L:Live σ){c b:Nat}(hc:c<4)(hh:(σ.cl c).home=none∨(σ.cl c).home=some b):σ.attachN c b=((σ.arrive c b).rel c b 0).rel c b 1:=by
 have L1:Live (σ.backs c b 0):=L.backs hc (by omega);have h1:σ.attachN c b=((σ.backs c b 0).backs c b 1).arrive c b:=by
  unfold Net.attachN;rcases hh with hh | hh
  ·rw[hh]
  ·rw[hh];simp
 rw[h1,L1.backs_rel hc (by omega),L.backs_rel hc (by omega),←jT _ (by omega),←jT _ (by omega)]
theorem fY {σ:Net}{c b old:Nat}(hh:(σ.cl c).home=some old)(hne:old≠b):σ.attachN c b=((σ.arrive c b).comes c b old 0).comes c b old 1:=by
 unfold Net.attachN;rw[hh];simp only[if_neg hne];rw[dO,dO]
end Go.Proofs.YtodfcpblcpogiaaGreat

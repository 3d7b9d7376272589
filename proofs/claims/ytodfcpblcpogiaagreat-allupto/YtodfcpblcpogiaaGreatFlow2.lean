namespace Go.Proofs.YtodfcpblcpogiaaGreat
theorem tO0:type_of% @Array.getElem?_eq_some_iff:=@Array.getElem?_eq_some_iff
theorem sO0:type_of% @Nat.lt_of_lt_of_le:=@Nat.lt_of_lt_of_le
theorem rO0:type_of% @List.getElem?_eq_some_iff:=@List.getElem?_eq_some_iff
theorem qO0:type_of% @Nat.le_refl:=@Nat.le_refl
theorem pO0:type_of% @List.getElem?_eq_getElem:=@List.getElem?_eq_getElem
theorem oO0:type_of% @List.getElem?_append_left:=@List.getElem?_append_left
theorem nO0:type_of% @List.getElem?_append_right:=@List.getElem?_append_right
theorem mO0:type_of% @Nat.le_trans:=@Nat.le_trans
theorem lO0:type_of% @List.mem_cons_self:=@List.mem_cons_self
theorem kO0:type_of% @List.mem_cons_of_mem:=@List.mem_cons_of_mem
theorem jO0:type_of% @List.getD_eq_getElem?_getD:=@List.getD_eq_getElem?_getD
theorem iO0:type_of% @Int.toNat_natCast:=@Int.toNat_natCast
theorem hO0:type_of% @List.length_append:=@List.length_append
theorem gO0:type_of% @List.length_cons:=@List.length_cons
theorem fO0:type_of% @Array.getElem?_eq_getElem:=@Array.getElem?_eq_getElem
theorem eO0:type_of% @List.mem_singleton:=@List.mem_singleton
theorem dO0:type_of% @List.mem_filter:=@List.mem_filter
theorem cO0:type_of% @Nat.lt_irrefl:=@Nat.lt_irrefl
theorem bO0:type_of% @Option.some.inj:=@Option.some.inj
theorem aO0:type_of% @Nat.mul_le_mul_right:=@Nat.mul_le_mul_right
theorem zP0:type_of% @List.eq_nil_of_length_eq_zero:=@List.eq_nil_of_length_eq_zero
theorem yP0:type_of% @List.mem_range:=@List.mem_range
theorem xP0:type_of% @List.mem_append:=@List.mem_append
theorem vP0:type_of% @List.mem_of_getElem?:=@List.mem_of_getElem?
theorem uP0:type_of% @List.getElem?_take:=@List.getElem?_take
theorem tP0:type_of% @List.flatMap_cons:=@List.flatMap_cons
theorem sP0:type_of% @Nat.zero_add:=@Nat.zero_add
theorem rP0:type_of% @Nat.add_assoc:=@Nat.add_assoc
theorem qP0:type_of% @Bool.and_eq_true:=@Bool.and_eq_true
theorem pP0:type_of% @decide_eq_false:=@decide_eq_false
theorem oP0:type_of% @decide_eq_true_eq:=@decide_eq_true_eq
structure Tst where
 fld:Int
 op:Int
 n:Int
deriving DecidableEq,Inhabited
structure Ev where
 pub:Int
 num:Int
 f0:Int
 f1:Int
 f2:Int
deriving DecidableEq,Inhabited
def Ev.zero:Ev:=⟨0,0,0,0,0⟩
def Ev.field (e:Ev)(i:Int):Int:=if i=0 then e.f0 else if i=1 then e.f1 else e.f2
structure News where
 ev:Ev
 stay:Int
deriving DecidableEq,Inhabited
def Tst.good (t:Tst):Bool:=decide (0≤t.fld∧t.fld≤2∧1≤t.op∧t.op≤4)
def Tst.met (t:Tst)(e:Ev):Bool:=
 if t.op=2 then decide (e.field t.fld≠t.n) else if t.op=3 then decide (e.field t.fld<t.n) else if t.op=4 then decide (t.n≤e.field t.fld) else decide (e.field t.fld=t.n)
def lC (l:List Tst)(e:Ev):Bool:=l.all fun t=>t.met e
structure Ent where
 slot:Int
 lost:Int
 ev:Ev
deriving DecidableEq,Inhabited
inductive Fr where
 | sub (s:Nat) (age:Int) (fl:List Tst)
 | unsub (s:Nat) (age:Int)
 | event (e:News)
 | move (s:Nat) (age:Int) (fl:List Tst) (old new:Nat)
 | rest (s:Nat) (evs:List News) (more:Int) (new:Nat)
deriving DecidableEq,Inhabited
structure Fact where
 age:Int
 fl:List Tst
 way:Option Nat
 kept:List News
 more:Int
 waits:Bool
structure Cli where
 here:Option Nat
 home:Option Nat
 stays:Int
 many:Int
 used:Nat→Bool
 age:Nat→Int
 fl:Nat→List Tst
 told:Nat→List News
 log:List Ent
structure Net where
 par:List Nat
 q:Nat→Nat→List Fr
 kn:Nat→Nat→Option Fact
 cl:Nat→Cli
 closed:Bool
def put {α:Type}(f:Nat→α)(i:Nat)(v:α):Nat→α:=fun j=>if j=i then v else f j
def xB {α:Type}(f:Nat→Nat→α)(i j:Nat)(v:α):Nat→Nat→α:=fun a b=>if a=i∧b=j then v else f a b
@[simp] theorem put_same {α:Type} (f:Nat→α) (i:Nat) (v:α):put f i v i=v:=by simp[put]
theorem kA {α:Type}(f:Nat→α){i j:Nat}(v:α)(h:j≠i):put f i v j=f j:=by simp[put,h]
@[simp] theorem put2_same {α:Type} (f:Nat→Nat→α) (i j:Nat) (v:α):xB f i j v i j=v:=by simp[xB]
theorem jA {α:Type}(f:Nat→Nat→α){i j a b:Nat}(v:α)(h:¬(a=i∧b=j)):xB f i j v a b=f a b:=by simp[xB,h]
def size (par:List Nat):Nat:=par.length+1
def up (par:List Nat)(i:Nat):Nat:=par.getD (i-1) 0
def xK (par:List Nat)(p c:Nat):Bool:=decide (0<c∧c<size par∧up par c=p)
def iB (par:List Nat)(a b:Nat):Bool:=xK par a b || xK par b a
def mO (par:List Nat):Nat→Nat→Nat→Option Nat
 | 0,_,_=>none
 | f+1,h,x=>if h=0 then none else if up par h=x then some h else mO par f (up par h) x
def tB (par:List Nat)(x h:Nat):Nat:=match mO par 6 h x with
 | some c=>c
 | none=>up par x
def jW (par:List Nat):Nat→Nat→Nat→Nat
 | 0,_,_=>0
 | f+1,x,h=>if x=h then 0 else jW par f (tB par x h) h+1
def lK (par:List Nat)(x h:Nat):Nat:=jW par 6 x h
def xC (par:List Nat)(x y:Nat):Nat:=((List.range (size par)).filter fun z=>decide (z≠x) && decide (tB par x z=y)).length
def Net.n (σ:Net):Nat:=size σ.par
def Net.push (σ:Net)(x y:Nat)(f:Fr):Net:={σ with q:=xB σ.q x y (σ.q x y++[f])}
def Net.pushAll (σ:Net)(x:Nat)(ys:List Nat)(f:Fr):Net:=ys.foldl (fun σ y=>σ.push x y f) σ
def Net.others (σ:Net)(x:Nat)(but:Option Nat):List Nat:=(List.range σ.n).filter fun y=>decide (some y≠but) && iB σ.par x y
def Net.spread (σ:Net)(x:Nat)(but:Option Nat)(f:Fr):Net:=σ.pushAll x (σ.others x but) f
def Net.know (σ:Net)(b s:Nat)(f:Option Fact):Net:={σ with kn:=xB σ.kn b s f}
def Net.setCl (σ:Net)(c:Nat)(x:Cli):Net:={σ with cl:=put σ.cl c x}
def tE (l:List News)(e:News):Bool:=l.any fun o=>decide (o.ev.pub=e.ev.pub∧o.stay=e.stay∧e.ev.num≤o.ev.num)
def Cli.tell (x:Cli)(k:Nat)(e:News):Cli:=
 if tE (x.told k) e then x else {x with told:=put x.told k (x.told k++[e]),log:=x.log++[⟨k,0,e.ev⟩]}
def Cli.lose (x:Cli)(k:Nat)(m:Int):Cli:=if 0<m then {x with log:=x.log++[⟨k,m,Ev.zero⟩]} else x
def Net.tell (σ:Net)(s:Nat)(e:News):Net:=σ.setCl (s/2) ((σ.cl (s/2)).tell (s%2) e)
def Net.lose (σ:Net)(s:Nat)(m:Int):Net:=σ.setCl (s/2) ((σ.cl (s/2)).lose (s%2) m)
def Net.tells (σ:Net)(s:Nat)(l:List News):Net:=l.foldl (fun σ e=>σ.tell s e) σ
def Net.hear (σ:Net)(b:Nat)(e:News)(s:Nat):Net:=match σ.kn b s with
 | none=>σ
 | some f=>
  if lC f.fl e.ev && decide (f.way=none) then
   if f.waits || (decide ((σ.cl (s/2)).here≠some b) && decide (f.kept.length<6)) then σ.know b s (some {f with kept:=f.kept++[e]})
   else if (σ.cl (s/2)).here≠some b then σ.know b s (some {f with more:=f.more+1})
   else σ.tell s e
  else σ
def Net.wants (σ:Net)(b:Nat)(e:News)(y:Nat)(s:Nat):Bool:=match σ.kn b s with
 | none=>false
 | some f=>lC f.fl e.ev && decide (f.way=some y)
def Net.targets (σ:Net)(b:Nat)(e:News)(from_:Option Nat):List Nat:=(List.range 6).filter fun y=>decide (some y≠from_) && (List.range 8).any (σ.wants b e y)
def Net.happens (σ:Net)(b:Nat)(e:News)(from_:Option Nat):Net:=((List.range 8).foldl (fun σ s=>σ.hear b e s) σ).pushAll b (σ.targets b e from_) (.event e)
def Net.learn (σ:Net)(b s:Nat)(age:Int)(fl:List Tst)(way:Option Nat):Net:=match σ.kn b s with
 | none=>σ.know b s (some ⟨age,fl,way,[],0,false⟩)
 | some f=>if f.age<age then σ.know b s (some ⟨age,fl,way,[],0,false⟩) else σ
def Net.forget (σ:Net)(b s:Nat)(age:Int):Net:=match σ.kn b s with
 | none=>σ
 | some f=>if f.age≤age then σ.know b s none else σ
def Net.handle (σ:Net)(b:Nat)(from_:Option Nat):Fr→Net
 | .sub s age fl=>(σ.learn b s age fl from_).spread b from_ (.sub s age fl)
 | .unsub s age=>(σ.forget b s age).spread b from_ (.unsub s age)
 | .event e=>σ.happens b e from_
 | .move s age fl old new=>
  let σ':=σ.know b s (some ⟨age,fl,from_,[],0,false⟩)
  if b=old then match from_ with
   | some y=>σ'.push b y (match σ.kn b s with | some f=>.rest s f.kept f.more new | none=>.rest s [] 0 new)
   | none=>σ'
  else σ'.push b (tB σ.par b old) (.move s age fl old new)
 | .rest s evs more new=>
  if b≠new then σ.push b (tB σ.par b new) (.rest s evs more new)
  else match σ.kn b s with
   | none=>σ
   | some f=>(((σ.lose s more).tells s evs).tells s f.kept).know b s (some {f with kept:=[],waits:=false})
def Net.waiting (σ:Net):Nat:=((List.range 6).map fun x=>((List.range 6).map fun y=>(σ.q x y).length).sum).sum
def dA (c:Int):Bool:=decide (0≤c∧c<4)
def Net.isBro (σ:Net)(b:Int):Bool:=decide (0≤b∧b<σ.n)
def Net.full (σ:Net):Bool:=decide (100≤σ.waiting)
def gG:Cli:=⟨none,none,0,0,fun _=>false,fun _=>-1,fun _=>[],fun _=>[],[]⟩
def nC (par:List Nat):Net:=⟨par,fun _ _=>[],fun _ _=>none,fun _=>gG,false⟩
def Net.waits (σ:Net)(c:Nat):Bool:=match (σ.cl c).here with
 | none=>false
 | some b=>(List.range 2).any fun k=>(σ.cl c).used k && (match σ.kn b (2*c+k) with | some f=>f.waits | none=>false)
def Net.asked (σ:Net)(good:Bool):Int:=if σ.closed then 2 else if good then 0 else 1
def Net.still (σ:Net)(c:Nat):Int:=if (σ.cl c).here=none then 3 else if σ.waits c then 5 else 0
def Net.attachE (σ:Net)(c b:Int):Int:=
 if σ.asked (dA c && σ.isBro b)≠0 then σ.asked (dA c && σ.isBro b) else if (σ.cl c.toNat).here≠none then 4 else if σ.full then 6 else 0
def Net.backs (σ:Net)(c b k:Nat):Net:=
 if (σ.cl c).used k then match σ.kn b (2*c+k) with
  | none=>σ
  | some f=>((σ.lose (2*c+k) f.more).tells (2*c+k) f.kept).know b (2*c+k) (some {f with kept:=[],more:=0})
 else σ
def Net.comes (σ:Net)(c b old k:Nat):Net:=
 let x:=σ.cl c
 if x.used k then
  ((σ.setCl c {x with age:=put x.age k (x.age k+1)}).know b (2*c+k) (some ⟨x.age k+1,x.fl k,none,[],0,true⟩)).push b (tB σ.par b old) (.move (2*c+k) (x.age k+1) (x.fl k) old b)
 else σ
def Net.arrive (σ:Net)(c b:Nat):Net:=σ.setCl c {σ.cl c with here:=some b,home:=some b,stays:=(σ.cl c).stays+1}
def Net.attachN (σ:Net)(c b:Nat):Net:=match (σ.cl c).home with
 | none=>((σ.backs c b 0).backs c b 1).arrive c b
 | some h=>if h=b then ((σ.backs c b 0).backs c b 1).arrive c b else ((σ.comes c b h 0).comes c b h 1).arrive c b
def Net.attach (σ:Net)(c b:Int):Net:=if σ.attachE c b=0 then σ.attachN c.toNat b.toNat else σ
def Net.detachE (σ:Net)(c:Int):Int:=if σ.asked (dA c)≠0 then σ.asked (dA c) else σ.still c.toNat
def Net.detach (σ:Net)(c:Int):Net:=if σ.detachE c=0 then σ.setCl c.toNat {σ.cl c.toNat with here:=none} else σ
def yB (l:List Tst):Bool:=decide (l.length≤3) && l.all Tst.good
def Net.slot (σ:Net)(c:Nat):Nat:=if (σ.cl c).used 0 then 1 else 0
def Net.subE (σ:Net)(c:Int)(l:List Tst):Int:=
 if σ.asked (dA c && yB l)≠0 then σ.asked (dA c && yB l) else if σ.still c.toNat≠0 then σ.still c.toNat else if (σ.cl c.toNat).used (σ.slot c.toNat) then 7 else if σ.full then 6 else 0
def Net.subN (σ:Net)(c b k:Nat)(l:List Tst):Net:=
 let x:=σ.cl c
 ((σ.setCl c {x with used:=put x.used k true,age:=put x.age k (x.age k+1),fl:=put x.fl k l,told:=put x.told k []}).know b (2*c+k) (some ⟨x.age k+1,l,none,[],0,false⟩)).spread b none (.sub (2*c+k) (x.age k+1) l)
def Net.sub (σ:Net)(c:Int)(l:List Tst):Net:=
 if σ.subE c l=0 then match (σ.cl c.toNat).here with
  | some b=>σ.subN c.toNat b (σ.slot c.toNat) l
  | none=>σ
 else σ
def Net.unsubE (σ:Net)(c k:Int):Int:=
 if σ.asked (dA c && decide (0≤k∧k<2))≠0 then σ.asked (dA c && decide (0≤k∧k<2)) else if σ.still c.toNat≠0 then σ.still c.toNat else if (σ.cl c.toNat).used k.toNat then (if σ.full then 6 else 0) else 7
def Net.unsub (σ:Net)(c k:Int):Net:=
 if σ.unsubE c k=0 then match (σ.cl c.toNat).here with
  | some b=>((σ.setCl c.toNat {σ.cl c.toNat with used:=put (σ.cl c.toNat).used k.toNat false}).know b (2*c.toNat+k.toNat) none).spread b none (.unsub (2*c.toNat+k.toNat) ((σ.cl c.toNat).age k.toNat))
  | none=>σ
 else σ
def Net.pubE (σ:Net)(c:Int):Int:=
 if σ.asked (dA c)≠0 then σ.asked (dA c) else if (σ.cl c.toNat).here=none then 3 else if σ.full then 6 else 0
def Net.pubEv (σ:Net)(c f0 f1 f2:Int):News:=⟨⟨c,(σ.cl c.toNat).many+1,f0,f1,f2⟩,(σ.cl c.toNat).stays⟩
def Net.pub (σ:Net)(c f0 f1 f2:Int):Net:=
 if σ.pubE c=0 then match (σ.cl c.toNat).here with
  | some b=>(σ.setCl c.toNat {σ.cl c.toNat with many:=(σ.cl c.toNat).many+1}).happens b (σ.pubEv c f0 f1 f2) none
  | none=>σ
 else σ
def Net.pubA (σ:Net)(c:Int):Int:=if σ.pubE c=0 then (σ.cl c.toNat).many+1 else 0
def Net.isLink (σ:Net)(a b:Int):Bool:=decide (0≤a∧0≤b) && iB σ.par a.toNat b.toNat
def Net.delE (σ:Net)(a b:Int):Int:=
 if σ.asked (σ.isLink a b)≠0 then σ.asked (σ.isLink a b) else if σ.q a.toNat b.toNat=[] then 7 else 0
def Net.del (σ:Net)(a b:Int):Net:=
 if σ.delE a b=0 then match σ.q a.toNat b.toNat with
  | f::r=>Net.handle {σ with q:=xB σ.q a.toNat b.toNat r} b.toNat (some a.toNat) f
  | []=>σ
 else σ
structure Lnk where
 a:Nat
 b:Nat
 many:Nat
deriving DecidableEq,Inhabited
def Net.pending (σ:Net):List Lnk:=if σ.closed then [] else
 (List.range 6).flatMap fun x=>(List.range 6).filterMap fun y=>if σ.q x y=[] then none else some ⟨x,y,(σ.q x y).length⟩
def Net.logE (σ:Net)(c:Int):Int:=σ.asked (dA c)
def Net.logA (σ:Net)(c:Int):List Ent:=if σ.logE c=0 then (σ.cl c.toNat).log else []
def Net.log (σ:Net)(c:Int):Net:=if σ.logE c=0 then σ.setCl c.toNat {σ.cl c.toNat with log:=[]} else σ
def sZ:Nat→List (List Nat)
 | 0=>[[]]
 | k+1=>(sZ k).flatMap fun l=>(List.range (k+1)).map fun p=>l++[p]
def forest:List (List Nat):=(List.range 6).flatMap sZ
def aU (par:List Nat):Bool:=
 (List.range (size par)).all fun x=>(List.range (size par)).all fun h=>
  (x == h || (iB par x (tB par x h) && decide (tB par x h<size par) && decide (lK par x h=lK par (tB par x h) h+1))) &&
  (List.range (size par)).all fun y=>!iB par x y || ((tB par x h == y || tB par y h == x) && (y != h || tB par x h == y))
def zR (par:List Nat):Bool:=
 (List.range (size par)).all fun x=>(List.range (size par)).all fun y=>
  !iB par x y || (decide (1+(((List.range (size par)).filter fun z=>iB par y z && decide (z≠x)).map fun z=>xC par y z).sum≤xC par x y) && decide (xC par x y≤5) && iB par y x && decide (x≠y) &&
   (List.range (size par)).all fun h=>!(tB par x h == y && tB par y h == x) || x == h || y == h)
def aQ (par:List Nat):Bool:=
 (List.range (size par)).all fun x=>decide ((((List.range (size par)).filter fun z=>iB par x z).map fun z=>xC par x z).sum≤5)
set_option maxRecDepth 100000 in
theorem pY:(forest.all fun par=>aU par && zR par && aQ par)=true:=by decide +kernel
def Tree (par:List Nat):Prop:=par.length≤5∧∀i,i<par.length→par.getD i 0≤i
theorem bU:∀(k:Nat) (par:List Nat) ,par.length=k→(∀i,i<par.length→par.getD i 0≤i)→par∈sZ k
 | 0,par,h,_=>by
  have:par=[]:=zP0 h;subst this;simp[sZ]
 | k+1,par,h,hp=>by
  have hne:par≠[]:=by intro e;subst e;simp at h
  have hsplit:=List.dropLast_concat_getLast hne;have hl:par.dropLast.length=k:=by simp[h]
  have hlast:par.getLast hne=par.getD k 0:=by
   rw[List.getLast_eq_getElem,jO0,pO0 (by omega)];simp[h]
  have ih:=bU k par.dropLast hl (fun i hi=>by
   have h1:=hp i (by omega);have h2:par.dropLast.getD i 0=par.getD i 0:=by
    rw[jO0,jO0,List.getElem?_dropLast,if_pos (by omega)]
   omega)
  rw[sZ,List.mem_flatMap];refine⟨par.dropLast,ih,?_⟩;rw[List.mem_map];refine⟨par.getD k 0,?_,?_⟩
  ·have:=hp k (by omega);exact yP0.2 (by omega)
  ·rw[←hlast];exact hsplit
theorem Tree.mem {par:List Nat}(h:Tree par):par∈forest:=by
 rw[forest,List.mem_flatMap];exact⟨par.length,by have:=h.1;simp;omega,bU _ _ rfl h.2⟩
theorem Tree.check {par:List Nat}(h:Tree par):aU par=true∧zR par=true∧aQ par=true:=by
 have:=List.all_eq_true.1 pY par h.mem;simp only[qP0] at this;exact⟨this.1.1,this.1.2,this.2⟩
theorem iC {n:Nat}{p:Nat→Bool}(h:(List.range n).all p=true){x:Nat}(hx:x<n):p x=true:=List.all_eq_true.1 h x (yP0.2 hx)
theorem eN {par:List Nat}(h:Tree par){p c:Nat}(hp:xK par p c=true):p<c∧c<size par:=by
 have hp:=of_decide_eq_true hp;simp only[up,size] at hp;have:=h.2 (c-1) (by omega);simp only[size];omega
section
variable {par : List Nat} (T : Tree par)
include T
theorem bB {x y:Nat}(h:iB par x y=true):x<size par∧y<size par:=by
 simp only[iB,Bool.or_eq_true] at h;rcases h with h | h
 ·have:=eN T h;omega
 ·have:=eN T h;omega
theorem gB:size par≤6:=by have:=T.1;simp only[size];omega
theorem dB {x y:Nat}(h:iB par x y=true):x<6∧y<6:=by
 have:=bB T h;have:=gB T;omega
omit T in
theorem tP (x y:Nat):iB par x y=iB par y x:=by simp only[iB];exact Bool.or_comm _ _
theorem jM0 {x y:Nat}(h:iB par x y=true):x≠y:=by
 simp only[iB,Bool.or_eq_true] at h;rcases h with h | h
 ·have:=eN T h;omega
 ·have:=eN T h;omega
theorem cB {x h:Nat}(hx:x<size par)(hh:h<size par)(hne:x≠h):iB par x (tB par x h)=true∧tB par x h<size par∧lK par x h=lK par (tB par x h) h+1:=by
 have:=iC (iC T.check.1 hx) hh;simp only[qP0,Bool.or_eq_true,beq_iff_eq,oP0] at this;rcases this.1 with e | ⟨⟨h1,h2⟩,h3⟩
 ·exact absurd e hne
 ·exact⟨h1,h2,h3⟩
theorem turn {x y h:Nat}(hn:iB par x y=true)(hh:h<size par):tB par x h=y∨tB par y h=x:=by
 have:=iC (iC T.check.1 (bB T hn).1) hh;simp only[qP0] at this;have:=iC this.2 (bB T hn).2;simp only[hn,Bool.not_true,Bool.false_or,qP0,Bool.or_eq_true,beq_iff_eq] at this;exact this.1
theorem pG0 {x y:Nat}(hn:iB par x y=true):tB par x y=y:=by
 have:=iC (iC T.check.1 (bB T hn).1) (bB T hn).2;simp only[qP0] at this;have:=iC this.2 (bB T hn).2;simp only[hn,Bool.not_true,Bool.false_or,qP0,Bool.or_eq_true,beq_iff_eq,bne_self_eq_false] at this;simpa using this.2
theorem aD {x y:Nat}(hn:iB par x y=true):1+(((List.range (size par)).filter fun z=>iB par y z && decide (z≠x)).map fun z=>xC par y z).sum≤xC par x y∧xC par x y≤5:=by
 have:=iC (iC T.check.2.1 (bB T hn).1) (bB T hn).2;simp only[hn,Bool.not_true,Bool.false_or,qP0,oP0] at this;exact⟨this.1.1.1.1,this.1.1.1.2⟩
theorem lT {x:Nat}(hx:x<size par):(((List.range (size par)).filter fun z=>iB par x z).map fun z=>xC par x z).sum≤5:=by
 have:=iC T.check.2.2 hx;simpa using this
end
theorem oB0 (par:List Nat):∀k x h,jW par k x h≤k
 | 0,_,_=>by simp[jW]
 | k+1,x,h=>by
  simp only[jW];split
  ·omega
  ·have:=oB0 par k (tB par x h) h;omega
theorem lY (par:List Nat)(x h:Nat):lK par x h≤6:=oB0 par 6 x h
@[simp] theorem dist_self (par:List Nat) (x:Nat):lK par x x=0:=by simp[lK,jW]
def wt (par:List Nat)(x y:Nat):Fr→Nat
 | .move _ _ _ old _=>lK par y old+8
 | .rest _ _ _ new=>lK par y new+1
 | _=>xC par x y
def Net.wtL (σ:Net)(x y:Nat):Nat:=((σ.q x y).map (wt σ.par x y)).sum
def qE (f:Nat→Nat):Nat:=f 0+f 1+f 2+f 3+f 4+f 5
def Net.weight (σ:Net):Nat:=qE fun x=>qE fun y=>σ.wtL x y
theorem gJ (f g:Nat→Nat)(i:Nat)(hi:i<6)(h:∀j,j≠i→g j=f j):qE g+f i=qE f+g i:=by
 unfold qE;have hh:∀j,j=i∨g j=f j:=fun j=>by
  by_cases e:j=i
  ·exact Or.inl e
  ·exact Or.inr (h j e)
 have h0:=hh 0;have h1:=hh 1;have h2:=hh 2;have h3:=hh 3;have h4:=hh 4;have h5:=hh 5;obtain rfl | rfl | rfl | rfl | rfl | rfl:i=0∨i=1∨i=2∨i=3∨i=4∨i=5:=by omega
 all_goals omega
theorem fM {f g:Nat→Nat}(h:∀j,j<6→f j=g j):qE f=qE g:=by
 unfold qE;rw[h 0 (by omega),h 1 (by omega),h 2 (by omega),h 3 (by omega),h 4 (by omega),h 5 (by omega)]
theorem kQ {f g:Nat→Nat}(h:∀j,j<6→f j≤g j):qE f≤qE g:=by
 unfold qE;have h0:=h 0 (by omega);have h1:=h 1 (by omega);have h2:=h 2 (by omega);have h3:=h 3 (by omega);have h4:=h 4 (by omega);have h5:=h 5 (by omega);omega
theorem jI {f:Nat→Nat}{i:Nat}(h:i<6):f i≤qE f:=by
 unfold qE;obtain rfl | rfl | rfl | rfl | rfl | rfl:i=0∨i=1∨i=2∨i=3∨i=4∨i=5:=by omega
 all_goals omega
theorem iM (f:Nat→Nat):((List.range 6).map f).sum=qE f:=by
 simp[List.range,List.range.loop,qE];omega
theorem mZ (f:Nat→Nat)(k:Nat):qE (fun i=>k*f i)=k*qE f:=by unfold qE;simp[Nat.mul_add]
theorem mP (σ:Net)(x y:Nat)(hx:x<6)(hy:y<6)(l:List Fr):
  Net.weight {σ with q:=xB σ.q x y l}+σ.wtL x y=σ.weight+(l.map (wt σ.par x y)).sum:=by
 have h1:=gJ (fun a=>qE fun b=>σ.wtL a b) (fun a=>qE fun b=>Net.wtL {σ with q:=xB σ.q x y l} a b) x hx (fun j hj=>by
  apply fM;intro b _
  simp only[Net.wtL,jA σ.q l (fun h=>hj h.1)])
 have h2:=gJ (fun b=>σ.wtL x b) (fun b=>Net.wtL {σ with q:=xB σ.q x y l} x b) y hy (fun j hj=>by
  simp only[Net.wtL,jA σ.q l (fun h=>hj h.2)])
 have h3:Net.wtL {σ with q:=xB σ.q x y l} x y=(l.map (wt σ.par x y)).sum:=by simp only[Net.wtL,put2_same]
 simp only[Net.weight] at*;omega
@[simp] theorem push_par (σ:Net) (x y:Nat) (f:Fr):(σ.push x y f).par=σ.par:=rfl
@[simp] theorem pushAll_par (σ:Net) (x:Nat) (ys:List Nat) (f:Fr):(σ.pushAll x ys f).par=σ.par:=by
 induction ys generalizing σ with
 | nil=>rfl
 | cons y ys ih=>exact ih (σ.push x y f)
theorem dF (σ:Net){x y:Nat}(hx:x<6)(hy:y<6)(f:Fr):(σ.push x y f).weight=σ.weight+wt σ.par x y f:=by
 have:=mP σ x y hx hy (σ.q x y++[f]);simp only[List.map_append,List.sum_append,List.map_cons,List.map_nil,List.sum_cons,List.sum_nil,Nat.add_zero] at this;simp only[Net.push,Net.wtL] at*;omega
theorem tF (f:Fr){x:Nat}(hx:x<6):∀(ys:List Nat) (σ:Net),(∀y,y∈ys→y<6)→(σ.pushAll x ys f).weight=σ.weight+(ys.map fun y=>wt σ.par x y f).sum
 | [],σ,_=>by simp[Net.pushAll]
 | y::ys,σ,h=>by
  have ih:=tF f hx ys (σ.push x y f) (fun z hz=>h z (kO0 _ hz));have h1:=dF σ hx (h y (lO0 ..)) f;simp only[push_par] at ih;simp only[Net.pushAll,List.foldl_cons,List.map_cons,List.sum_cons] at*;omega
theorem pC {σ τ:Net}(hp:τ.par=σ.par)(hq:τ.q=σ.q):τ.weight=σ.weight:=by simp only[Net.weight,Net.wtL,hp,hq]
theorem dQ (σ:Net):σ.waiting=qE fun x=>qE fun y=>(σ.q x y).length:=by
 simp only[Net.waiting,iM]
theorem eT {l:List Nat}(h:∀a,a∈l→1≤a):l.length≤l.sum:=by
 induction l with
 | nil=>simp
 | cons a l ih=>
  have h1:=h a (lO0 ..);have h2:=ih (fun b hb=>h b (kO0 _ hb));simp;omega
theorem fT {l:List Nat}{k:Nat}(h:∀a,a∈l→a≤k):l.sum≤k*l.length:=by
 induction l with
 | nil=>simp
 | cons a l ih=>
  have h1:=h a (lO0 ..);have h2:=ih (fun b hb=>h b (kO0 _ hb));simp[Nat.mul_add];omega
def Net.Linked (σ:Net):Prop:=Tree σ.par∧∀x y,σ.q x y≠[]→iB σ.par x y=true
theorem aB0 {σ:Net}(T:Tree σ.par){x y:Nat}(hn:iB σ.par x y=true)(f:Fr):1≤wt σ.par x y f∧wt σ.par x y f≤14:=by
 have hb:=aD T hn;cases f with
 | move s a l old new=>have:=lY σ.par y old;simp only[wt];omega
 | rest s l m new=>have:=lY σ.par y new;simp only[wt];omega
 | sub=>simp only[wt];omega
 | unsub=>simp only[wt];omega
 | event=>simp only[wt];omega
theorem sM {σ:Net}(L:σ.Linked)(x y:Nat):(σ.q x y).length≤σ.wtL x y∧σ.wtL x y≤14*(σ.q x y).length:=by
 by_cases h:σ.q x y=[]
 ·simp[Net.wtL,h]
 ·have hn:=L.2 x y h
  have h1:=eT (l:=(σ.q x y).map (wt σ.par x y)) (fun a ha=>by
   obtain⟨f,_,rfl⟩:=List.mem_map.1 ha
   exact(aB0 L.1 hn f).1)
  have h2:=fT (k:=14) (l:=(σ.q x y).map (wt σ.par x y)) (fun a ha=>by
   obtain⟨f,_,rfl⟩:=List.mem_map.1 ha
   exact(aB0 L.1 hn f).2)
  simp only[List.length_map] at h1 h2;exact⟨h1,h2⟩
theorem uH {σ:Net}(L:σ.Linked):σ.waiting≤σ.weight∧σ.weight≤14*σ.waiting:=by
 rw[dQ];refine⟨kQ fun x _=>kQ fun y _=>(sM L x y).1,?_⟩;rw[←mZ];refine kQ fun x _=>?_;rw[←mZ];exact kQ fun y _=>(sM L x y).2
theorem yK {σ:Net}(L:σ.Linked){x y:Nat}(hx:x<6)(hy:y<6):(σ.q x y).length≤σ.weight:=
 mO0 (sM L x y).1 (mO0 (jI (f:=fun y=>σ.wtL x y) hy) (jI (f:=fun x=>qE fun y=>σ.wtL x y) hx))
theorem mE {p r:Nat→Bool}{g:Nat→Nat}:∀(l:List Nat),(∀z,z∈l→p z=true→r z=true)→((l.filter p).map g).sum≤((l.filter r).map g).sum
 | [],_=>by simp
 | a::l,h=>by
  have ih:=mE (g:=g) l (fun z hz=>h z (kO0 _ hz));have ha:=h a (lO0 ..);rcases Bool.eq_false_or_eq_true (p a) with hp | hp
  ·simp[hp,ha hp,ih]
  ·rcases Bool.eq_false_or_eq_true (r a) with hr | hr
   ·simp[hp,hr];omega
   ·simp[hp,hr,ih]
def Fr.ok (n:Nat):Fr→Prop
 | .sub s _ fl=>s<8∧yB fl=true
 | .unsub s _=>s<8
 | .event _=>True
 | .move s _ fl old new=>s<8∧yB fl=true∧old<n∧new<n
 | .rest s _ m new=>s<8∧new<n∧0≤m
structure FactOk (par:List Nat)(b s:Nat)(f:Fact):Prop where
 bro:b<size par
 sub:s<8
 fil:yB f.fl=true
 way:∀y,f.way=some y→iB par b y=true
 more:0≤f.more
structure CliOk (n:Nat)(x:Cli):Prop where
 here:∀b,x.here=some b→b<n
 home:∀b,x.home=some b→b<n
 fil:∀k,x.used k=true→yB (x.fl k)=true
structure Good (σ:Net):Prop where
 tree:Tree σ.par
 nbr:∀x y,σ.q x y≠[]→iB σ.par x y=true
 frames:∀x y f,f∈σ.q x y→f.ok σ.n
 facts:∀b s f,σ.kn b s=some f→FactOk σ.par b s f
 clis:∀c,c<4→CliOk σ.n (σ.cl c)
theorem Good.linked {σ:Net}(G:Good σ):σ.Linked:=⟨G.tree,G.nbr⟩
section
variable {σ : Net} (G : Good σ)
include G
theorem Good.push {x y:Nat}(hn:iB σ.par x y=true){f:Fr}(hf:f.ok σ.n):Good (σ.push x y f):=by
 refine⟨G.tree,fun a b h=>?_,fun a b g hg=>?_,G.facts,G.clis⟩
 ·by_cases e:a=x∧b=y
  ·obtain⟨rfl,rfl⟩:=e;exact hn
  ·simp only[Net.push,jA _ _ e] at h;exact G.nbr a b h
 ·by_cases e:a=x∧b=y
  ·obtain⟨rfl,rfl⟩:=e;simp only[Net.push,put2_same,xP0,eO0] at hg;rcases hg with hg | rfl
   ·exact G.frames _ _ _ hg
   ·exact hf
  ·simp only[Net.push,jA _ _ e] at hg;exact G.frames _ _ _ hg
theorem Good.pop {x y:Nat}{f:Fr}{r:List Fr}(h:σ.q x y=f::r):Good {σ with q:=xB σ.q x y r}:=by
 refine⟨G.tree,fun a b h'=>?_,fun a b g hg=>?_,G.facts,G.clis⟩
 ·by_cases e:a=x∧b=y
  ·obtain⟨rfl,rfl⟩:=e;exact G.nbr _ _ (by rw[h];simp)
  ·simp only[jA _ _ e] at h';exact G.nbr a b h'
 ·by_cases e:a=x∧b=y
  ·obtain⟨rfl,rfl⟩:=e;simp only[put2_same] at hg;exact G.frames _ _ _ (by rw[h];exact kO0 _ hg)
  ·simp only[jA _ _ e] at hg;exact G.frames _ _ _ hg
theorem Good.know {b s:Nat}{o:Option Fact}(ho:∀f,o=some f→FactOk σ.par b s f):Good (σ.know b s o):=by
 refine⟨G.tree,G.nbr,G.frames,fun a t f h=>?_,G.clis⟩;by_cases e:a=b∧t=s
 ·obtain⟨rfl,rfl⟩:=e;simp only[Net.know,put2_same] at h;exact ho f h
 ·simp only[Net.know,jA _ _ e] at h;exact G.facts _ _ _ h
theorem Good.setCl {c:Nat}{x:Cli}(hx:CliOk σ.n x):Good (σ.setCl c x):=by
 refine⟨G.tree,G.nbr,G.frames,G.facts,fun d hd=>?_⟩;by_cases e:d=c
 ·subst e;simp only[Net.setCl,put_same];exact hx
 ·simp only[Net.setCl,kA _ _ e];exact G.clis d hd
end
theorem Good.pushAll {x:Nat}{f:Fr}:∀(ys:List Nat) {σ:Net},Good σ→(∀y,y∈ys→iB σ.par x y=true)→f.ok σ.n→Good (σ.pushAll x ys f)
 | [],_,G,_,_=>G
 | y::ys,_,G,h,hf=>Good.pushAll ys (G.push (h y (lO0 ..)) hf) (fun z hz=>h z (kO0 _ hz)) hf
theorem yD {σ:Net}{x y:Nat}{but:Option Nat}(h:y∈σ.others x but):iB σ.par x y=true∧some y≠but∧y<σ.n:=by
 simp only[Net.others,dO0,yP0,qP0,oP0] at h;exact⟨h.2.2,h.2.1,h.1⟩
theorem Good.spread {σ:Net}(G:Good σ){x:Nat}{but:Option Nat}{f:Fr}(hf:f.ok σ.n):Good (σ.spread x but f):=
 Good.pushAll _ G (fun _ hy=>(yD hy).1) hf
theorem CliOk.tell {n:Nat}{x:Cli}(h:CliOk n x)(k:Nat)(e:News):CliOk n (x.tell k e):=by
 unfold Cli.tell;split
 ·exact h
 ·exact⟨h.here,h.home,h.fil⟩
theorem CliOk.lose {n:Nat}{x:Cli}(h:CliOk n x)(k:Nat)(m:Int):CliOk n (x.lose k m):=by
 unfold Cli.lose;split
 ·exact⟨h.here,h.home,h.fil⟩
 ·exact h
theorem Good.tell {σ:Net}(G:Good σ){s:Nat}(hs:s<8)(e:News):Good (σ.tell s e):=G.setCl ((G.clis _ (by omega)).tell _ _)
theorem Good.lose {σ:Net}(G:Good σ){s:Nat}(hs:s<8)(m:Int):Good (σ.lose s m):=G.setCl ((G.clis _ (by omega)).lose _ _)
theorem Good.tells {s:Nat}(hs:s<8):∀(l:List News) {σ:Net},Good σ→Good (σ.tells s l)
 | [],_,G=>G
 | e::l,_,G=>Good.tells hs l (G.tell hs e)
theorem Good.hear {σ:Net}(G:Good σ)(b:Nat)(e:News){s:Nat}(hs:s<8):Good (σ.hear b e s):=by
 unfold Net.hear;split
 ·exact G
 ·rename_i f hf
  have F:=G.facts _ _ _ hf;split
  ·split
   ·exact G.know (fun g hg=>by cases hg;exact⟨F.bro,F.sub,F.fil,F.way,F.more⟩)
   ·split
    ·exact G.know (fun g hg=>by cases hg;exact⟨F.bro,F.sub,F.fil,F.way,by have:=F.more;simp only;omega⟩)
    ·exact G.tell hs e
  ·exact G
theorem hD0 (σ:Net)(b:Nat)(e:News)(s:Nat):(σ.hear b e s).par=σ.par∧(σ.hear b e s).q=σ.q∧(σ.hear b e s).closed=σ.closed:=by
 unfold Net.hear;split
 ·exact⟨rfl,rfl,rfl⟩
 ·split
  ·split
   ·exact⟨rfl,rfl,rfl⟩
   ·split
    ·exact⟨rfl,rfl,rfl⟩
    ·exact⟨rfl,rfl,rfl⟩
  ·exact⟨rfl,rfl,rfl⟩
def Net.hears (σ:Net)(b:Nat)(e:News)(l:List Nat):Net:=l.foldl (fun σ s=>σ.hear b e s) σ
theorem uF (b:Nat)(e:News):∀(l:List Nat) (σ:Net),(σ.hears b e l).par=σ.par∧(σ.hears b e l).q=σ.q∧(σ.hears b e l).closed=σ.closed
 | [],σ=>⟨rfl,rfl,rfl⟩
 | s::l,σ=>by
  have h1:=hD0 σ b e s;have h2:=uF b e l (σ.hear b e s);exact⟨h2.1.trans h1.1,h2.2.1.trans h1.2.1,h2.2.2.trans h1.2.2⟩
theorem Good.hears (b:Nat)(e:News):∀(l:List Nat) {σ:Net},Good σ→(∀s,s∈l→s<8)→Good (σ.hears b e l)
 | [],_,G,_=>G
 | s::l,_,G,h=>Good.hears b e l (G.hear b e (h s (lO0 ..))) (fun t ht=>h t (kO0 _ ht))
theorem rF {σ:Net}(G:Good σ){b y:Nat}{e:News}{fr:Option Nat}(h:y∈σ.targets b e fr):iB σ.par b y=true∧some y≠fr∧y<σ.n:=by
 simp only[Net.targets,dO0,yP0,qP0,oP0,List.any_eq_true] at h;obtain⟨_,h2,s,hs,hw⟩:=h;unfold Net.wants at hw;split at hw
 ·cases hw
 ·rename_i f hf
  simp only[qP0,oP0] at hw;have:=(G.facts _ _ _ hf).way y hw.2;exact⟨this,h2,(bB G.tree this).2⟩
theorem Good.happens {σ:Net}(G:Good σ)(b:Nat)(e:News)(fr:Option Nat):Good (σ.happens b e fr):=by
 have h:=uF b e (List.range 8) σ;refine Good.pushAll _ (Good.hears b e (List.range 8) G (fun s hs=>yP0.1 hs)) (fun y hy=>?_) trivial;rw[show (List.foldl (fun σ s=>σ.hear b e s) σ (List.range 8)).par=σ.par from h.1];exact(rF G hy).1
theorem Good.learn {σ:Net}(G:Good σ){b s:Nat}{age:Int}{fl:List Tst}{way:Option Nat}(hb:b<σ.n)(hs:s<8)(hf:yB fl=true)(hw:∀y,way=some y→iB σ.par b y=true):Good (σ.learn b s age fl way):=by
 have hok:FactOk σ.par b s ⟨age,fl,way,[],0,false⟩:=⟨hb,hs,hf,hw,Int.le_refl _⟩;unfold Net.learn;split
 ·exact G.know (fun g hg=>by cases hg;exact hok)
 ·split
  ·exact G.know (fun g hg=>by cases hg;exact hok)
  ·exact G
theorem Good.forget {σ:Net}(G:Good σ){b s:Nat}{age:Int}:Good (σ.forget b s age):=by
 unfold Net.forget;split
 ·exact G
 ·split
  ·exact G.know (fun g hg=>by cases hg)
  ·exact G
theorem mD (σ:Net)(b s:Nat)(age:Int)(fl:List Tst)(way:Option Nat):(σ.learn b s age fl way).par=σ.par∧(σ.learn b s age fl way).q=σ.q∧(σ.learn b s age fl way).closed=σ.closed∧(σ.learn b s age fl way).cl=σ.cl:=by
 unfold Net.learn;split
 ·exact⟨rfl,rfl,rfl,rfl⟩
 ·split<;>exact⟨rfl,rfl,rfl,rfl⟩
theorem xD (σ:Net)(b s:Nat)(age:Int):(σ.forget b s age).par=σ.par∧(σ.forget b s age).q=σ.q∧(σ.forget b s age).closed=σ.closed∧(σ.forget b s age).cl=σ.cl:=by
 unfold Net.forget;split
 ·exact⟨rfl,rfl,rfl,rfl⟩
 ·split<;>exact⟨rfl,rfl,rfl,rfl⟩
theorem jB (s:Nat):∀(l:List News) (σ:Net),(σ.tells s l).par=σ.par∧(σ.tells s l).q=σ.q∧(σ.tells s l).closed=σ.closed∧(σ.tells s l).kn=σ.kn
 | [],_=>⟨rfl,rfl,rfl,rfl⟩
 | e::l,σ=>jB s l (σ.tell s e)
theorem Good.handle {σ:Net}(G:Good σ){b a:Nat}(hn:iB σ.par b a=true){f:Fr}(hf:f.ok σ.n):Good (σ.handle b (some a) f):=by
 have hb:=(bB G.tree hn).1;have hw:∀y,some a=some y→iB σ.par b y=true:=fun y e=>by cases e;exact hn
 cases f with
 | sub s age fl=>
  have hk:=mD σ b s age fl (some a);exact(G.learn hb hf.1 hf.2 hw).spread (by simp only[Net.n,hk.1];exact hf)
 | unsub s age=>
  have hk:=xD σ b s age;exact(G.forget).spread (by simp only[Fr.ok];exact hf)
 | event e=>exact G.happens b e (some a)
 | move s age fl old new=>
  obtain⟨h1,h2,h3,h4⟩:=hf;have G':Good (σ.know b s (some ⟨age,fl,some a,[],0,false⟩)):=G.know (fun g hg=>by cases hg;exact⟨hb,h1,h2,hw,Int.le_refl _⟩);simp only[Net.handle];split
  ·refine G'.push (by exact hn) ?_;split
   ·rename_i f hf
    exact⟨h1,h4,(G.facts _ _ _ hf).more⟩
   ·exact⟨h1,h4,Int.le_refl _⟩
  ·rename_i hne
   exact G'.push (cB G.tree hb h3 hne).1 ⟨h1,h2,h3,h4⟩
 | rest s evs m new=>
  obtain⟨h1,h2,h3⟩:=hf;simp only[Net.handle];split
  ·rename_i hne
   exact G.push (cB G.tree hb h2 hne).1 ⟨h1,h2,h3⟩
  ·split
   ·exact G
   ·rename_i f hf
    have F:=G.facts _ _ _ hf;have hk1:=jB s evs (σ.lose s m);have hk2:=jB s f.kept ((σ.lose s m).tells s evs);refine(Good.tells h1 _ (Good.tells h1 _ (G.lose h1 m))).know (fun g hg=>?_);cases hg;rw[hk2.1,hk1.1];exact⟨F.bro,F.sub,F.fil,F.way,F.more⟩
theorem tR {σ:Net}{x:Nat}{a:Option Nat}{f:Fr}:((σ.others x a).map fun y=>wt σ.par x y f).sum=(((List.range (size σ.par)).filter fun z=>decide (some z≠a) && iB σ.par x z).map fun z=>wt σ.par x z f).sum:=rfl
theorem pL {σ:Net}(T:Tree σ.par){a b:Nat}(hn:iB σ.par a b=true){f:Fr}(hf:∀x y,wt σ.par x y f=xC σ.par x y):(σ.spread b (some a) f).weight+1≤σ.weight+xC σ.par a b:=by
 have hb:=dB T hn;have h1:=tF f hb.2 (σ.others b (some a)) σ (fun y hy=>(dB T (yD hy).1).2);have h2:=(aD T hn).1;have h3:=mE (g:=fun z=>xC σ.par b z) (p:=fun z=>decide (some z≠some a) && iB σ.par b z) (r:=fun z=>iB σ.par b z && decide (z≠a)) (List.range (size σ.par)) (fun z _ hz=>by simpa[and_comm] using hz);rw[tR] at h1;simp only[hf] at h1;simp only[Net.spread];omega
theorem cH {g:Nat→Nat}{l m:List Nat}(hl:l.Nodup)(h:∀z,z∈l→z∈m):(l.map g).sum≤(m.map g).sum:=by
 induction l generalizing m with
 | nil=>simp
 | cons a l ih=>
  have ha:=h a (lO0 ..);obtain⟨m1,m2,rfl⟩:=List.append_of_mem ha;have hl':=List.nodup_cons.1 hl
  have:=ih hl'.2 (m:=m1++m2) (fun z hz=>by
   have hz':=h z (kO0 _ hz);have hne:z≠a:=fun e=>hl'.1 (e▸hz);simp only[xP0,List.mem_cons] at hz' ⊢;rcases hz' with h | h | h
   ·exact Or.inl h
   ·exact absurd h hne
   ·exact Or.inr h)
  simp only[List.map_append,List.sum_append,List.map_cons,List.sum_cons] at*;omega
theorem eP {σ:Net}(G:Good σ){b:Nat}{e:News}{fr:Option Nat}:((σ.targets b e fr).map fun y=>xC σ.par b y).sum≤(((List.range (size σ.par)).filter fun z=>iB σ.par b z && decide (some z≠fr)).map fun z=>xC σ.par b z).sum:=by
 refine cH (List.Pairwise.filter _ List.nodup_range) (fun z hz=>?_);have:=rF G hz;simp only[dO0,yP0,qP0,oP0];exact⟨this.2.2,this.1,this.2.1⟩
theorem lJ {σ:Net}(G:Good σ){b:Nat}(hb:b<6)(e:News)(fr:Option Nat):(σ.happens b e fr).weight=σ.weight+((σ.targets b e fr).map fun y=>xC σ.par b y).sum:=by
 have hk:=uF b e (List.range 8) σ;have h1:=tF (.event e) hb (σ.targets b e fr) (σ.hears b e (List.range 8)) (fun y hy=>(dB G.tree (rF G hy).1).2);rw[pC hk.1 hk.2.1,hk.1] at h1;exact h1
theorem gT {σ:Net}(G:Good σ){a b:Nat}(hn:iB σ.par a b=true){f:Fr}(hf:f.ok σ.n):(σ.handle b (some a) f).weight+1≤σ.weight+wt σ.par a b f:=by
 have T:=G.tree;have h6:=dB T hn;have hlt:=bB T hn;cases f with
 | sub s age fl=>
  have hk:=mD σ b s age fl (some a);have:=pL (σ:=σ.learn b s age fl (some a)) (by rw[hk.1];exact T) (by rw[hk.1];exact hn) (f:=.sub s age fl) (fun _ _=>rfl);rw[pC hk.1 hk.2.1,hk.1] at this;exact this
 | unsub s age=>
  have hk:=xD σ b s age;have:=pL (σ:=σ.forget b s age) (by rw[hk.1];exact T) (by rw[hk.1];exact hn) (f:=.unsub s age) (fun _ _=>rfl);rw[pC hk.1 hk.2.1,hk.1] at this;exact this
 | event e=>
  have h1:=lJ G h6.2 e (some a);have h2:=eP G (b:=b) (e:=e) (fr:=some a);have h3:=(aD T hn).1;have h4:=mE (g:=fun z=>xC σ.par b z) (p:=fun z=>iB σ.par b z && decide (some z≠some a)) (r:=fun z=>iB σ.par b z && decide (z≠a)) (List.range (size σ.par)) (fun z _ hz=>by simpa using hz);simp only[Net.handle,wt];omega
 | move s age fl old new=>
  simp only[Net.handle];have hw:(σ.know b s (some ⟨age,fl,some a,[],0,false⟩)).weight=σ.weight:=pC rfl rfl;split
  ·rw[dF _ h6.2 h6.1,hw];have hd:=lY σ.par a new;split
   ·simp only[wt,Net.know];omega
   ·simp only[wt,Net.know];omega
  ·rename_i hne
   have hs:=cB T hlt.2 hf.2.2.1 hne;rw[dF _ h6.2 (dB T hs.1).2,hw];simp only[wt,Net.know];omega
 | rest s evs m new=>
  simp only[Net.handle];split
  ·rename_i hne
   have hs:=cB T hlt.2 hf.2.1 hne;rw[dF _ h6.2 (dB T hs.1).2];simp only[wt];omega
  ·split
   ·simp only[wt];omega
   ·rename_i f hf
    have hk1:=jB s evs (σ.lose s m);have hk2:=jB s f.kept ((σ.lose s m).tells s evs);have:∀o,((((σ.lose s m).tells s evs).tells s f.kept).know b s o).weight=σ.weight:=fun o=>pC (hk2.1.trans hk1.1) (hk2.2.1.trans hk1.2.1);rw[this];simp only[wt];omega
theorem Good.del {σ:Net}(G:Good σ)(a b:Int):Good (σ.del a b)∧(σ.del a b).weight≤σ.weight∧(σ.delE a b=0→(σ.del a b).weight+1≤σ.weight):=by
 unfold Net.del;split
 ·rename_i he
  split
  ·rename_i f r hq
   have hn:=G.nbr _ _ (by rw[hq];simp:σ.q a.toNat b.toNat≠[])
   have hn':iB σ.par b.toNat a.toNat=true:=by rw[tP];exact hn
   have h6:=dB G.tree hn;have hf:=G.frames _ _ f (by rw[hq];exact lO0 ..);have G':=G.pop hq;have hw:=mP σ a.toNat b.toNat h6.1 h6.2 r;have hl:σ.wtL a.toNat b.toNat=wt σ.par a.toNat b.toNat f+(r.map (wt σ.par a.toNat b.toNat)).sum:=by simp[Net.wtL,hq]
   have hh:=gT G' (a:=a.toNat) (b:=b.toNat) hn (f:=f) hf;refine⟨G'.handle hn' hf,?_,fun _=>?_⟩
   ·simp only at hh;omega
   ·simp only at hh;omega
  ·rename_i hq
   exact⟨G,qO0 _,fun _=>by simp[Net.delE,hq] at he;split at he<;>simp_all⟩
 ·rename_i he
  exact⟨G,qO0 _,fun h=>absurd h he⟩
theorem rH {f g:Fr}{x a b:Nat}:∀(ys:List Nat) (σ:Net),g∈(σ.pushAll x ys f).q a b↔g∈σ.q a b∨(a=x∧b∈ys∧g=f)
 | [],σ=>by simp[Net.pushAll]
 | y::ys,σ=>by
  have ih:=rH (f:=f) (g:=g) (x:=x) (a:=a) (b:=b) ys (σ.push x y f);have h1:g∈(σ.push x y f).q a b↔g∈σ.q a b∨(a=x∧b=y∧g=f):=by
   simp only[Net.push];by_cases e:a=x∧b=y
   ·obtain⟨rfl,rfl⟩:=e;simp
   ·rw[jA _ _ e];constructor
    ·exact Or.inl
    ·rintro(h | ⟨rfl,rfl,_⟩)
     ·exact h
     ·exact absurd ⟨rfl,rfl⟩ e
  simp only[Net.pushAll,List.foldl_cons] at ih ⊢;rw[ih,h1,List.mem_cons];constructor
  ·rintro((h | ⟨h1,h2,h3⟩) | ⟨h1,h2,h3⟩)
   ·exact Or.inl h
   ·exact Or.inr ⟨h1,Or.inl h2,h3⟩
   ·exact Or.inr ⟨h1,Or.inr h2,h3⟩
  ·rintro(h | ⟨h1,h2 | h2,h3⟩)
   ·exact Or.inl (Or.inl h)
   ·exact Or.inl (Or.inr ⟨h1,h2,h3⟩)
   ·exact Or.inr ⟨h1,h2,h3⟩
theorem rB {f:Fr}{x:Nat}:∀(ys:List Nat) (σ:Net),(σ.pushAll x ys f).kn=σ.kn∧(σ.pushAll x ys f).cl=σ.cl∧(σ.pushAll x ys f).closed=σ.closed
 | [],_=>⟨rfl,rfl,rfl⟩
 | y::ys,σ=>rB ys (σ.push x y f)
section
variable {σ : Net} {A : Nat → Option Nat} {F : Nat → Option (List Tst)}
end
theorem lF (c:Nat):((c:Int)).toNat=c:=by omega
theorem jC {c:Nat}(h:c<4):dA (c:Int)=true:=by simp[dA];omega
theorem sF {σ:Net}(L:σ.Linked)(h:σ.full=false):σ.weight≤1386:=by
 have:=(uH L).2;simp[Net.full] at h;omega
theorem vH {σ:Net}(T:Tree σ.par){b:Nat}(hb:b<σ.n){f:Fr}(hf:∀x y,wt σ.par x y f=xC σ.par x y):(σ.spread b none f).weight≤σ.weight+5:=by
 have h6:b<6:=sO0 hb (gB T);have h1:=tF f h6 (σ.others b none) σ (fun y hy=>(dB T (yD hy).1).2);have h2:=lT T hb;have h3:=mE (g:=fun z=>xC σ.par b z) (p:=fun z=>decide (some z≠none) && iB σ.par b z) (r:=fun z=>iB σ.par b z) (List.range (size σ.par)) (fun z _ hz=>by simpa using hz);rw[tR] at h1;simp only[hf] at h1;simp only[Net.spread];omega
section
variable {σ : Net} {A : Nat → Option Nat} {F : Nat → Option (List Tst)}
end
def Fr.news:Fr→Option News
 | .event e=>some e
 | _=>none
def evs (l:List Fr):List News:=l.filterMap Fr.news
@[simp] theorem evs_event (e:News) (l:List Fr):evs (.event e::l)=e::evs l:=rfl
@[simp] theorem evs_nil:evs []=[]:=rfl
section
variable {par : List Nat} (T : Tree par) {b h : Nat} (hb : b < size par) (hh : h < size par)
include T hb hh
end
section
variable {σ : Net} {A : Nat → Option Nat} {F : Nat → Option (List Tst)} {y : Nat}
def two (l:List Nat):List Nat:=l.flatMap fun c=>[2*c,2*c+1]
theorem cK {f:Fr}{x:Nat}:∀(ys:List Nat) (σ:Net) (a b:Nat),ys.Nodup→(σ.pushAll x ys f).q a b=if a=x∧b∈ys then σ.q a b++[f] else σ.q a b
 | [],σ,a,b,_=>by simp[Net.pushAll]
 | y::ys,σ,a,b,hnd=>by
  have hnd':=List.nodup_cons.1 hnd;have ih:=cK (f:=f) (x:=x) ys (σ.push x y f) a b hnd'.2;simp only[Net.pushAll,List.foldl_cons] at ih ⊢;rw[ih];simp only[Net.push,List.mem_cons];by_cases e:a=x∧b=y
  ·obtain⟨rfl,rfl⟩:=e;simp[hnd'.1]
  ·rw[jA _ _ e];by_cases e1:a=x
   ·have:b≠y:=fun h=>e ⟨e1,h⟩;simp[e1,this]
   ·simp[e1]
end
section
variable {σ : Net} {A : Nat → Option Nat} {F : Nat → Option (List Tst)} {E : List News}
end
end Go.Proofs.YtodfcpblcpogiaaGreat

import Derived.Test.YtodfcpblcpogiaaGreatRt
import Derived.Test.YtodfcpblcpogiaaGreatXnet
import Derived.Test.YtodfcpblcpogiaaGreatSpr
namespace Go.Proofs.YtodfcpblcpogiaaGreat
open Go.RowKit
def News.encR (e:News):List Value:=e.ev.enc++[int e.stay]
def FlAt (w:World)(ρ:zA)(v:Value)(fl:List Tst):Prop:=∃a cap,v=.slice a fl.length cap∧(fl=[]∨∃fb o,a=some ⟨fb,o,none⟩∧ρ fb=some .frame∧∀(j:Nat) u,(fl.flatMap Tst.enc)[j]?=some u→w.cell? ⟨fb,o+j,none⟩=some u)
theorem FlAt.tests {w:World}{ρ:zA}{v:Value}{fl:List Tst}(h:FlAt w ρ v fl):∃a cap,v=.slice a fl.length cap∧TestsAt w a fl:=by
 obtain⟨a,cap,h1,h2⟩:=h;exact⟨a,cap,h1,h2.imp id (fun ⟨fb,o,e1,_,e2⟩=>⟨fb,o,e1,e2⟩)⟩
abbrev NewsRow (w:World)(ρ:zA)(r:Role)(l:List News)(v:Value):Prop:=RowAt w ρ r 129 6 l.length (l.flatMap News.encR) v
def uA0:List Value:=[int 0,int 0,int 0,int 0,int 0,int 0]
def FrC (w:World)(ρ:zA)(l:LFr)(cs:List Value):Prop:=match l.f with
 | .sub s age fl=>∃fv,FlAt w ρ fv fl∧cs=[int 1,int l.a,int l.b,int s,int age,fv]++uA0++[int 0,int 0,rA,int 0]
 | .unsub s age=>cs=[int 2,int l.a,int l.b,int s,int age,rA]++uA0++[int 0,int 0,rA,int 0]
 | .event e=>cs=[int 3,int l.a,int l.b,int 0,int 0,rA]++e.encR++[int 0,int 0,rA,int 0]
 | .move s age fl old new=>∃fv,FlAt w ρ fv fl∧cs=[int 4,int l.a,int l.b,int s,int age,fv]++uA0++[int old,int new,rA,int 0]
 | .rest s evs more new=>∃ev,NewsRow w ρ .rest evs ev∧cs=[int 5,int l.a,int l.b,int s,int 0,rA]++uA0++[int 0,int new,ev,int more]
def FaC (w:World)(ρ:zA)(k:KFa)(cs:List Value):Prop:=∃fv kv,FlAt w ρ fv k.f.fl∧NewsRow w ρ (.kept k.b k.s) k.f.kept kv∧cs=[int k.b,int k.s,int k.f.age,fv,int (whr k.f.way),kv,int k.f.more,.bool k.f.waits]
structure ClC (w:World)(ρ:zA)(b c:Nat)(x:Cli):Prop where
 here:w.cell? ⟨b,3+c*13,none⟩=some (int (whr x.here))
 home:w.cell? ⟨b,3+c*13+1,none⟩=some (int (whr x.home))
 used:∀k,k<2→w.cell? ⟨b,3+c*13+2+k,none⟩=some (.bool (x.used k))
 age:∀k,k<2→w.cell? ⟨b,3+c*13+4+k,none⟩=some (int (x.age k))
 fil:∀k,k<2→∃v,w.cell? ⟨b,3+c*13+6+k,none⟩=some v∧(x.used k=true→FlAt w ρ v (x.fl k))∧∃a n cap,v=.slice a n cap
 told:∀k,k<2→∃v,w.cell? ⟨b,3+c*13+8+k,none⟩=some v∧NewsRow w ρ (.map c k) (x.told k) v
 stays:w.cell? ⟨b,3+c*13+10,none⟩=some (int x.stays)
 many:w.cell? ⟨b,3+c*13+11,none⟩=some (int x.many)
 log:∃v,w.cell? ⟨b,3+c*13+12,none⟩=some v∧RowAt w ρ (.log c) 74 7 x.log.length (x.log.flatMap Ent.enc) v
def PiecesAt {α:Type}(w:World)(ρ:zA)(r:Role)(t size:Nat)(C:α→List Value→Prop)(l:List α)(v:Value):Prop:=
 ∃css:List (List Value),css.length=l.length∧RowAt w ρ r t size l.length css.flatten v∧∀(i:Nat) a cs,l[i]?=some a→css[i]?=some cs→C a cs
structure RX (w:World)(b:Nat)(ρ:zA)(R:RNet):Prop where
 net:ρ b=some .net
 typ:∃cs,w.heap[b]?=some (.cells cs 122)
 fr:∀o,w.frozen? ⟨b,o,none⟩=false
 lt:∀k,ρ k≠none→k<w.heap.size
 pars:∃pb po cap,w.cell? ⟨b,0,none⟩=some (.slice (some ⟨pb,po,none⟩) (size R.par) cap)∧ρ pb=some .tree∧∀i,i<size R.par→w.cell? ⟨pb,po+i,none⟩=some (int (qQ R.par i))
 frames:∃v,w.cell? ⟨b,1,none⟩=some v∧PiecesAt w ρ (.chan 0 0) 133 16 (FrC w ρ) R.fr v
 facts:∃v,w.cell? ⟨b,2,none⟩=some v∧PiecesAt w ρ (.known 0 0) 126 8 (FaC w ρ) R.fa v
 cl:∀c,c<4→ClC w ρ b c (R.cl c)
 closed:w.cell? ⟨b,55,none⟩=some (.bool R.closed)
theorem RX.parsAt {w:World}{b:Nat}{ρ:zA}{R:RNet}(h:RX w b ρ R):ParsAt w b R.par:=by
 obtain⟨pb,po,cap,h0,_,h2⟩:=h.pars;exact⟨pb,po,cap,h0,h2⟩
section
variable {w w' : World} {ρ : Nat → Option Role} {S : Nat → Prop}
theorem RowAt.still {r:Role}{t size n:Nat}{cells:List Value}{v:Value}(h:RowAt w ρ r t size n cells v)(T:Touch S w w')(hs:∀k,S k→ρ k=none):RowAt w' ρ r t size n cells v:=
 ⟨eA h.1 T (fun g hg hS=>by have:=h.2 g hg;rw[hs g hS] at this;cases this),h.2⟩
theorem FlAt.still {v:Value}{fl:List Tst}(h:FlAt w ρ v fl)(T:Touch S w w')(hs:∀k,S k→ρ k=none):FlAt w' ρ v fl:=by
 obtain⟨a,cap,h1,h2⟩:=h;refine⟨a,cap,h1,h2.imp id (fun ⟨fb,o,e1,e2,e3⟩=>⟨fb,o,e1,e2,fun j u hj=>T.cell (p:=⟨fb,o+j,none⟩) (fun hS=>?_) (e3 j u hj)⟩)⟩;have:=hs fb hS;rw[e2] at this;cases this
theorem FrC.still {l:LFr}{cs:List Value}(h:FrC w ρ l cs)(T:Touch S w w')(hs:∀k,S k→ρ k=none):FrC w' ρ l cs:=by
 unfold FrC at h ⊢;split at h
 ·obtain⟨fv,h1,h2⟩:=h;exact⟨fv,h1.still T hs,h2⟩
 ·exact h
 ·exact h
 ·obtain⟨fv,h1,h2⟩:=h;exact⟨fv,h1.still T hs,h2⟩
 ·obtain⟨fv,h1,h2⟩:=h;exact⟨fv,h1.still T hs,h2⟩
theorem FaC.still {k:KFa}{cs:List Value}(h:FaC w ρ k cs)(T:Touch S w w')(hs:∀k,S k→ρ k=none):FaC w' ρ k cs:=by
 obtain⟨fv,kv,h1,h2,h3⟩:=h;exact⟨fv,kv,h1.still T hs,h2.still T hs,h3⟩
theorem PiecesAt.still {α:Type}{r:Role}{t size:Nat}{C C':α→List Value→Prop}{l:List α}{v:Value}(h:PiecesAt w ρ r t size C l v)(hC:∀a cs,C a cs→C' a cs)(T:Touch S w w')(hs:∀k,S k→ρ k=none):PiecesAt w' ρ r t size C' l v:=by
 obtain⟨css,h1,h2,h3⟩:=h;exact⟨css,h1,h2.still T hs,fun i a cs ha hc=>hC a cs (h3 i a cs ha hc)⟩
theorem ClC.still {b c:Nat}{x:Cli}(h:ClC w ρ b c x)(hb:ρ b≠none)(T:Touch S w w')(hs:∀k,S k→ρ k=none):ClC w' ρ b c x:=by
 have hc:∀o v,w.cell? ⟨b,o,none⟩=some v→w'.cell? ⟨b,o,none⟩=some v:=fun o v hv=>T.cell (p:=⟨b,o,none⟩) (fun hS=>hb (hs b hS)) hv;refine⟨hc _ _ h.here,hc _ _ h.home,fun k hk=>hc _ _ (h.used k hk),fun k hk=>hc _ _ (h.age k hk),fun k hk=>?_,fun k hk=>?_,hc _ _ h.stays,hc _ _ h.many,?_⟩
 ·obtain⟨v,h1,h2,h3⟩:=h.fil k hk;exact⟨v,hc _ _ h1,fun hu=>(h2 hu).still T hs,h3⟩
 ·obtain⟨v,h1,h2⟩:=h.told k hk;exact⟨v,hc _ _ h1,h2.still T hs⟩
 ·obtain⟨v,h1,h2⟩:=h.log;exact⟨v,hc _ _ h1,h2.still T hs⟩
theorem RX.still {b:Nat}{R:RNet}(h:RX w b ρ R)(T:Touch S w w')(hs:∀k,S k→ρ k=none):RX w' b ρ R:=by
 have hb:ρ b≠none:=by rw[h.net];simp
 have hbS:¬S b:=fun hS=>hb (hs b hS);have hc:∀o v,w.cell? ⟨b,o,none⟩=some v→w'.cell? ⟨b,o,none⟩=some v:=fun o v hv=>T.cell (p:=⟨b,o,none⟩) hbS hv;have hblk:=T.block b (h.lt b hb) hbS;obtain⟨cs,hcs⟩:=h.typ;obtain⟨pb,po,cap,p0,p1,p2⟩:=h.pars;obtain⟨v1,f1,f2⟩:=h.frames;obtain⟨v2,g1,g2⟩:=h.facts;refine⟨h.net,⟨cs,hblk.trans hcs⟩,fun o=>(nP0 (w:=w) (a:=⟨b,o,none⟩) hblk).trans (h.fr o),fun k hk=>sO0 (h.lt k hk) T.size,⟨pb,po,cap,hc _ _ p0,p1,fun i hi=>T.cell (p:=⟨pb,po+i,none⟩) (fun hS=>by have:=hs pb hS;rw[p1] at this;cases this) (p2 i hi)⟩,⟨v1,hc _ _ f1,f2.still (fun a cs hC=>hC.still T hs) T hs⟩,⟨v2,hc _ _ g1,g2.still (fun a cs hC=>hC.still T hs) T hs⟩,fun c hcc=>(h.cl c hcc).still hb T hs,hc _ _ h.closed⟩
theorem RX.calm {b:Nat}{R:RNet}(h:RX w b ρ R)(T:qA w w'):RX w' b ρ R:=h.still T (fun _ f=>f.elim)
end
theorem fI {k:Nat}:∀{css:List (List Value)},(∀cs,cs∈css→cs.length=k)→∀{i:Nat} {cs:List Value},css[i]?=some cs→∀{j:Nat} {u:Value},cs[j]?=some u→css.flatten[i*k+j]?=some u
 | [],_,i,cs,h,_,_,_=>by simp at h
 | c::css,hl,i,cs,h,j,u,hu=>by
  have hc:=hl c (lO0 ..);cases i with
  | zero=>
   simp only[List.getElem?_cons_zero,Option.some.injEq] at h;subst h;have hj:j<c.length:=(rO0.1 hu).1;rw[List.flatten_cons,Nat.zero_mul,sP0,oO0 hj];exact hu
  | succ i=>
   simp only[List.getElem?_cons_succ] at h;have ih:=fI (fun cs hcs=>hl cs (kO0 _ hcs)) h hu;rw[List.flatten_cons,nO0 (by rw[hc,Nat.add_mul];omega),hc,show (i+1)*k+j-k=i*k+j by rw[Nat.add_mul];omega];exact ih
section
variable {w : World} {ρ : Nat → Option Role} {α : Type} {r : Role} {t k : Nat} {C : α → List Value → Prop} {l : List α} {v : Value}
theorem PiecesAt.slice (h:PiecesAt w ρ r t k C l v):∃a cap,v=.slice a l.length cap:=by
 obtain⟨css,_,h2,_⟩:=h;rcases h2.1.2 with⟨e,h0⟩ | ⟨g,cap,cur,e,_⟩
 ·exact⟨none,0,by rw[e,h0]⟩
 ·exact⟨_,_,e⟩
theorem PiecesAt.at (h:PiecesAt w ρ r t k C l v)(hlen:∀a cs,C a cs→cs.length=k){i:Nat}{a:α}(hi:l[i]?=some a):∃g cap cs,v=.slice (some ⟨g,0,none⟩) l.length cap∧ρ g=some r∧C a cs∧∀(j:Nat) u,cs[j]?=some u→w.cell? ⟨g,i*k+j,none⟩=some u:=by
 obtain⟨css,h1,h2,h3⟩:=h;have hil:i<l.length:=(rO0.1 hi).1;obtain⟨cs,hcs⟩:∃cs,css[i]?=some cs:=⟨_,pO0 (by omega)⟩;have hall:∀cs,cs∈css→cs.length=k:=fun cs hm=>by
  obtain⟨j,hj⟩:=List.getElem?_of_mem hm;have hjl:j<css.length:=(rO0.1 hj).1;obtain⟨a',ha'⟩:∃a',l[j]?=some a':=⟨_,pO0 (by omega)⟩;exact hlen a' cs (h3 j a' cs ha' hj)
 have hcell:=fun g hg=>World.ownsRow.cells h2.1 (g:=g) hg;rcases h2.1.2 with⟨_,h0⟩ | ⟨g,cap,cur,e,_⟩
 ·omega
 ·subst e;refine⟨g,cap,cs,rfl,h2.2 g rfl,h3 i a cs hi hcs,fun j u hj=>?_⟩;have:=hcell g rfl _ _ (fI hall hcs hj);rw[gP0,sP0] at this;exact this
end
theorem FaC.len {w:World}{ρ:zA}(k:KFa)(cs:List Value)(h:FaC w ρ k cs):cs.length=8:=by obtain⟨_,_,_,_,rfl⟩:=h;rfl
theorem FrC.len {w:World}{ρ:zA}(l:LFr)(cs:List Value)(h:FrC w ρ l cs):cs.length=16:=by
 unfold FrC at h;split at h
 ·obtain⟨_,_,rfl⟩:=h;rfl
 ·rw[h];rfl
 ·rw[h];rfl
 ·obtain⟨_,_,rfl⟩:=h;rfl
 ·obtain⟨_,_,rfl⟩:=h;rfl
theorem FaC.heads {w:World}{ρ:zA}{k:KFa}{cs:List Value}(h:FaC w ρ k cs):cs[0]?=some (int k.b)∧cs[1]?=some (int k.s):=by obtain⟨_,_,_,_,rfl⟩:=h;exact⟨rfl,rfl⟩
theorem FrC.heads {w:World}{ρ:zA}{l:LFr}{cs:List Value}(h:FrC w ρ l cs):cs[1]?=some (int l.a)∧cs[2]?=some (int l.b):=by
 unfold FrC at h;split at h
 ·obtain⟨_,_,rfl⟩:=h;exact⟨rfl,rfl⟩
 ·rw[h];exact⟨rfl,rfl⟩
 ·rw[h];exact⟨rfl,rfl⟩
 ·obtain⟨_,_,rfl⟩:=h;exact⟨rfl,rfl⟩
 ·obtain⟨_,_,rfl⟩:=h;exact⟨rfl,rfl⟩
def faB (l:List KFa)(i:Nat):Int:=match l[i]? with | some k=>k.b | none=>0
def faS (l:List KFa)(i:Nat):Int:=match l[i]? with | some k=>k.s | none=>0
def frA (l:List LFr)(i:Nat):Int:=match l[i]? with | some k=>k.a | none=>0
def frB (l:List LFr)(i:Nat):Int:=match l[i]? with | some k=>k.b | none=>0
section
variable {w : World} {b : Nat} {ρ : Nat → Option Role} {R : RNet}
theorem RX.factHeads (h:RX w b ρ R):cO w b 2 8 0 1 R.fa.length (faB R.fa) (faS R.fa):=by
 obtain⟨v,h1,h2⟩:=h.facts;obtain⟨a,cap,rfl⟩:=h2.slice;refine⟨a,cap,h1,fun i hi=>?_⟩;obtain⟨k,hk⟩:∃k,R.fa[i]?=some k:=⟨_,pO0 hi⟩;obtain⟨g,cap',cs,e,_,hC,hc⟩:=h2.at FaC.len hk;cases e
 have hh:=hC.heads;exact⟨g,rfl,by unfold faB;rw[hk];exact hc 0 _ hh.1,by unfold faS;rw[hk];exact hc 1 _ hh.2⟩
theorem RX.frameHeads (h:RX w b ρ R):cO w b 1 16 1 2 R.fr.length (frA R.fr) (frB R.fr):=by
 obtain⟨v,h1,h2⟩:=h.frames;obtain⟨a,cap,rfl⟩:=h2.slice;refine⟨a,cap,h1,fun i hi=>?_⟩;obtain⟨k,hk⟩:∃k,R.fr[i]?=some k:=⟨_,pO0 hi⟩;obtain⟨g,cap',cs,e,_,hC,hc⟩:=h2.at FrC.len hk;cases e
 have hh:=hC.heads;exact⟨g,rfl,by unfold frA;rw[hk];exact hc 1 _ hh.1,by unfold frB;rw[hk];exact hc 2 _ hh.2⟩
end
theorem zJ {l:List KFa}{i:Nat}{k:KFa}(h:l[i]?=some k):faB l i=k.b:=by unfold faB;rw[h]
theorem bI {l:List KFa}{i:Nat}{k:KFa}(h:l[i]?=some k):faS l i=k.s:=by unfold faS;rw[h]
def RNet.idx (R:RNet)(x s:Int):Int:=rK (fun i=>decide (faB R.fa i=x∧faS R.fa i=s)) R.fa.length
theorem iA0 {R:RNet}{x s:Nat}(h:R.kn x s=none):R.idx x s=-1:=by
 refine sK (fun i hi=>?_);obtain⟨k,hk⟩:∃k,R.fa[i]?=some k:=⟨_,pO0 hi⟩;rw[zJ hk,bI hk];refine pP0 (fun hh=>?_);unfold RNet.kn at h;rw[Option.map_eq_none_iff,List.find?_eq_none] at h;have:=h k (vP0 hk);simp only[KFa.on,oP0,not_and] at this;exact this (by omega) (by omega)
theorem lS {R:RNet}{x s:Nat}{f:Fact}(h:R.kn x s=some f):∃i,i<R.fa.length∧R.idx x s=(i:Int)∧R.fa[i]?=some ⟨x,s,f⟩:=by
 unfold RNet.kn at h;rw[Option.map_eq_some_iff] at h;obtain⟨k,h1,rfl⟩:=h;obtain⟨h2,lA,lB,h3,h4⟩:=List.find?_eq_some_iff_append.1 h1;simp only[KFa.on,oP0] at h2;have hi:R.fa[lA.length]?=some k:=by rw[h3];simp
 have hlt:lA.length<R.fa.length:=(rO0.1 hi).1;refine⟨lA.length,hlt,qW hlt (fun i hi'=>?_) ?_,?_⟩
 ·obtain⟨k',hk'⟩:∃k',R.fa[i]?=some k':=⟨_,pO0 (by omega)⟩;have hm:k'∈lA:=by
   rw[h3,oO0 hi'] at hk';exact vP0 hk'
  have:=h4 k' hm;simp only[KFa.on,Bool.not_eq_true',decide_eq_false_iff_not] at this;rw[zJ hk',bI hk'];exact pP0 (fun hh=>this ⟨by omega,by omega⟩)
 ·rw[zJ hi,bI hi];exact decide_eq_true ⟨by omega,by omega⟩
 ·rw[hi];cases k
  simp only at h2;rw[h2.1,h2.2]
theorem jK0 {R:RNet}{s:Int}:R.idx (-1) s=-1:=sK (fun i hi=>pP0 (fun hh=>by
 have:=hh.1;unfold faB at this
 split at this<;>omega))
section
variable {Z : Role → Prop} {ρ ρ' : Nat → Option Role} {w w' : World}
theorem Mv.stay (m:Mv Z ρ ρ' w w'){g:Nat}{r:Role}(hr:ρ g=some r)(hz:¬Z r)(hg:g<w.heap.size):ρ' g=some r:=by
 rcases m.role g hg with e | ⟨x,s,e1,e2,_⟩
 ·exact e.trans hr
 ·rw[hr] at e1;cases e1;exact absurd e2 hz
theorem Mv.cellZ (m:Mv Z ρ ρ' w w'){g o:Nat}{v:Value}{r:Role}(hr:ρ g=some r)(hz:¬Z r)(h:w.cell? ⟨g,o,none⟩=some v):w'.cell? ⟨g,o,none⟩=some v:=
 m.touch.cell (p:=⟨g,o,none⟩) (fun ⟨r',h1,h2⟩=>hz (by rw[hr] at h1;cases h1;exact h2)) h
theorem Mv.rowZ (m:Mv Z ρ ρ' w w'){r:Role}{t size n:Nat}{cells:List Value}{v:Value}(h:RowAt w ρ r t size n cells v)(hz:¬Z r):RowAt w' ρ' r t size n cells v:=
 ⟨eA h.1 m.touch (fun g hg ⟨r',h1,h2⟩=>hz (by rw[h.2 g hg] at h1;cases h1;exact h2)),fun g hg=>m.stay (h.2 g hg) hz (dE h.1 g hg)⟩
theorem Mv.fl (m:Mv Z ρ ρ' w w'){v:Value}{fl:List Tst}(h:FlAt w ρ v fl)(hz:¬Z .frame):FlAt w' ρ' v fl:=by
 obtain⟨a,cap,h1,h2⟩:=h;by_cases hfl:fl=[]
 ·exact⟨a,cap,h1,Or.inl hfl⟩
 ·rcases h2 with h2 | ⟨fb,o,e1,e2,e3⟩
  ·exact absurd h2 hfl
  ·have hlt:fb<w.heap.size:=by
    cases fl with
    | nil=>exact absurd rfl hfl
    | cons t fl=>exact fP0 (e3 0 (int t.fld) rfl)
   exact⟨a,cap,h1,Or.inr ⟨fb,o,e1,m.stay e2 hz hlt,fun j u hj=>m.cellZ e2 hz (e3 j u hj)⟩⟩
theorem Mv.frC (m:Mv Z ρ ρ' w w'){l:LFr}{cs:List Value}(h:FrC w ρ l cs)(h1:¬Z .frame)(h2:¬Z .rest):FrC w' ρ' l cs:=by
 unfold FrC at h ⊢;split at h
 ·obtain⟨fv,k1,k2⟩:=h;exact⟨fv,m.fl k1 h1,k2⟩
 ·exact h
 ·exact h
 ·obtain⟨fv,k1,k2⟩:=h;exact⟨fv,m.fl k1 h1,k2⟩
 ·obtain⟨fv,k1,k2⟩:=h;exact⟨fv,m.rowZ k1 h2,k2⟩
theorem Mv.faC (m:Mv Z ρ ρ' w w'){k:KFa}{cs:List Value}(h:FaC w ρ k cs)(h1:¬Z .frame)(h2:¬Z (.kept k.b k.s)):FaC w' ρ' k cs:=by
 obtain⟨fv,kv,k1,k2,k3⟩:=h;exact⟨fv,kv,m.fl k1 h1,m.rowZ k2 h2,k3⟩
theorem Mv.pieces (m:Mv Z ρ ρ' w w'){α:Type}{r:Role}{t size:Nat}{C C':α→List Value→Prop}{l:List α}{v:Value}(h:PiecesAt w ρ r t size C l v)(hz:¬Z r)(hC:∀a cs,a∈l→C a cs→C' a cs):PiecesAt w' ρ' r t size C' l v:=by
 obtain⟨css,h1,h2,h3⟩:=h;exact⟨css,h1,m.rowZ h2 hz,fun i a cs ha hc=>hC a cs (vP0 ha) (h3 i a cs ha hc)⟩
theorem Mv.clC (m:Mv Z ρ ρ' w w'){b c:Nat}{x:Cli}(h:ClC w ρ b c x)(hb:ρ b=some .net)(z0:¬Z .net)(z1:¬Z .frame)(z2:∀k,¬Z (.map c k))(z3:¬Z (.log c)):ClC w' ρ' b c x:=by
 have hc:∀o v,w.cell? ⟨b,o,none⟩=some v→w'.cell? ⟨b,o,none⟩=some v:=fun o v hv=>m.cellZ hb z0 hv;refine⟨hc _ _ h.here,hc _ _ h.home,fun k hk=>hc _ _ (h.used k hk),fun k hk=>hc _ _ (h.age k hk),fun k hk=>?_,fun k hk=>?_,hc _ _ h.stays,hc _ _ h.many,?_⟩
 ·obtain⟨v,h1,h2,h3⟩:=h.fil k hk;exact⟨v,hc _ _ h1,fun hu=>m.fl (h2 hu) z1,h3⟩
 ·obtain⟨v,h1,h2⟩:=h.told k hk;exact⟨v,hc _ _ h1,m.rowZ h2 (z2 k)⟩
 ·obtain⟨v,h1,h2⟩:=h.log;exact⟨v,hc _ _ h1,m.rowZ h2 z3⟩
end
theorem ClC.store {w:World}{ρ:zA}{b c o:Nat}{x:Cli}{v:Value}(h:ClC w ρ b c x)(hb:ρ b=some .net)(ho:o<3+c*13∨3+c*13+13≤o):ClC (w.setCell ⟨b,o,none⟩ v) ρ b c x:=by
 have hne:∀o' u,w.cell? ⟨b,o',none⟩=some u→o'≠o→(w.setCell ⟨b,o,none⟩ v).cell? ⟨b,o',none⟩=some u:=fun o' u hu hn=>
  (World.cell?_setCell_other w _ _ _ (by intro e;cases e;exact hn rfl)).trans hu
 have T:Touch (fun k=>k=b) w (w.setCell ⟨b,o,none⟩ v):=(cP0 (fun k=>k=b) w).setCell (p:=⟨b,o,none⟩) (fun _=>rfl) v;have row:∀{r:Role} {t size n:Nat} {cells:List Value} {u:Value},r≠.net→RowAt w ρ r t size n cells u→RowAt (w.setCell ⟨b,o,none⟩ v) ρ r t size n cells u:=fun hr hw=>
  ⟨eA hw.1 T (fun g hg e=>by subst e;have:=hw.2 g hg;rw[hb] at this;cases this;exact hr rfl),hw.2⟩
 have fl:∀{u:Value} {f:List Tst},FlAt w ρ u f→FlAt (w.setCell ⟨b,o,none⟩ v) ρ u f:=fun hf=>by
  obtain⟨a,cap,h1,h2⟩:=hf;exact⟨a,cap,h1,h2.imp id (fun ⟨fb,o',e1,e2,e3⟩=>⟨fb,o',e1,e2,fun j u hj=>T.cell (p:=⟨fb,o'+j,none⟩) (fun e=>by subst e;rw[hb] at e2;cases e2) (e3 j u hj)⟩)⟩
 refine⟨hne _ _ h.here (by omega),hne _ _ h.home (by omega),fun k hk=>hne _ _ (h.used k hk) (by omega),fun k hk=>hne _ _ (h.age k hk) (by omega),fun k hk=>?_,fun k hk=>?_,hne _ _ h.stays (by omega),hne _ _ h.many (by omega),?_⟩
 ·obtain⟨u,h1,h2,h3⟩:=h.fil k hk;exact⟨u,hne _ _ h1 (by omega),fun hu=>fl (h2 hu),h3⟩
 ·obtain⟨u,h1,h2⟩:=h.told k hk;exact⟨u,hne _ _ h1 (by omega),row (by simp) h2⟩
 ·obtain⟨u,h1,h2⟩:=h.log;exact⟨u,hne _ _ h1 (by omega),row (by simp) h2⟩
def RNet.waitsK (R:RNet)(c k:Nat):Bool:=match (R.cl c).here with
 | none=>false
 | some x=>(R.cl c).used k && (match R.kn x (2*c+k) with | some f=>f.waits | none=>false)
theorem vC0 (R:RNet)(c:Nat):R.net.waits c=(R.waitsK c 0 || R.waitsK c 1):=by
 unfold Net.waits RNet.waitsK;show (match (R.cl c).here with | none=>false | some b=>(List.range 2).any fun k=>(R.cl c).used k && (match R.kn b (2*c+k) with | some f=>f.waits | none=>false))=_
 cases (R.cl c).here with
 | none=>rfl
 | some x=>simp[List.range,List.range.loop]
section
variable {w : World} {b : Nat} {ρ : Nat → Option Role} {R : RNet}
theorem RX.slot (h:RX w b ρ R)(c k:Nat):∃z:Int,R.idx (whr (R.cl c).here) (2*c+k:Nat)=z∧(z=-1∨0≤z)∧z<R.fa.length+1∧
  (0≤z→∃a cap g wt,w.cell? ⟨b,2,none⟩=some (.slice a R.fa.length cap)∧a=some ⟨g,0,none⟩∧z<R.fa.length∧w.cell? ⟨g,z.toNat*8+7,none⟩=some (.bool wt)∧(R.waitsK c k=((R.cl c).used k && wt)))∧(z=-1→R.waitsK c k=false):=by
 cases hh:(R.cl c).here with
 | none=>
  refine⟨-1,jK0,Or.inl rfl,by omega,fun h=>by omega,fun _=>by unfold RNet.waitsK;rw[hh]⟩
 | some x=>
  cases hkn:R.kn x (2*c+k) with
  | none=>exact⟨-1,iA0 hkn,Or.inl rfl,by omega,fun h=>by omega,fun _=>by unfold RNet.waitsK;rw[hh];simp[hkn]⟩
  | some f=>
   obtain⟨i,h1,h2,h3⟩:=lS hkn;refine⟨i,h2,Or.inr (by omega),by omega,fun _=>?_,fun e=>by omega⟩;obtain⟨v,g1,g2⟩:=h.facts;obtain⟨g,cap,cs,e,_,hC,hcell⟩:=g2.at FaC.len h3;subst e;obtain⟨fv,kv,_,_,rfl⟩:=hC;refine⟨_,cap,g,f.waits,g1,rfl,by omega,?_,by unfold RNet.waitsK;rw[hh];simp[hkn]⟩
   have:=hcell 7 _ rfl;rw[iO0];exact this
end
set_option maxRecDepth 100000 in
set_option maxHeartbeats 2000000 in
theorem gU {w:World}{b:Nat}{ρ:zA}{R:RNet}(h:RX w b ρ R){c:Nat}(hc:c<4)(hn:R.fa.length≤1000):
  Calls Tryz.prog 52 #[.pointer (some ⟨b,0,none⟩),int c] w fun e w'=>e=.returned (.bool (R.net.waits c))∧w'=w:=by
 rw[vC0];have C:=h.cl c hc;have hci:(c:Int)<4:=by omega
 have hat:=C.here;have HSL:=uA (fun k=>h.slot c k);have HFA:=uA (fun x y=>qO b R.fa.length _ _ x y w h.factHeads hn);have HUS:=uA C.used;have hnI:(R.fa.length:Int)≤1000:=by omega
 obtain⟨A,hA⟩:∃A,A=whr (R.cl c).here:=⟨_,rfl⟩;rw[←hA] at hat;have HA:=uA hA;have hAneg:A<0→∀k,R.waitsK c k=false:=fun h0 k=>by
  unfold RNet.waitsK;rw[hA] at h0;cases hh:(R.cl c).here with
  | none=>rfl
  | some x=>rw[hh] at h0;have:(x:Int)<0:=h0;omega
 have HAN:=uA hAneg;clear C h hA hAneg;go_enter Tryz.func52,Tryz.ntmps52
 go_wp2;go_loopw [5] (fun kv wr=>∃k:Nat,k≤2∧kv=int k∧(∀j,j<k→R.waitsK c j=false)∧wr=w) (fun kv _=>2-(intOf kv).toNat)
 case atStart=>exact⟨0,by omega,rfl,fun j hj=>by omega,rfl⟩
 case round=>
  obtain⟨k,hk,rfl,hall,hw⟩:=hrel;subst hw;have HALL:=uA hall;clear hall;by_cases hk2:k<2
  ·have hkI:(k:Int)<2:=by omega
   obtain⟨z,hz,hz1,hz2,hz3,hz4⟩:=yA HSL k;have hus:=yA HUS k hk2;obtain⟨u,hu⟩:∃u,u=(R.cl c).used k:=⟨_,rfl⟩;rw[←hu] at hus hz3;have hfa:=yA HFA A ((2*c+k:Nat):Int);have hfz:rK (fun i=>decide (faB R.fa i=A∧faS R.fa i=((2*c+k:Nat):Int))) R.fa.length=z:=by rw[←hz,←yA HA];rfl
   rw[hfz,show ((2*c+k:Nat):Int)=2*(c:Int)+k by omega] at hfa;have HCALL:=uA hfa;clear hfa hfz hz;go_wp2_with fail
   refine(yA HCALL).mono ?_;rintro e w2 ⟨rfl,hw2⟩
   have hw2:=hw2.symm;subst hw2
   have tB:R.waitsK c k=false→Hid (∀j,j<k+1→R.waitsK c j=false):=fun h0=>uA (fun j hj=>by
    by_cases e:j=k
    ·subst e;exact h0
    ·exact yA HALL j (by omega))
   by_cases hA0:A<0
   ·have HNX:=tB (yA HAN hA0 k);clear tB hz3 hz4;go_wp2;go_roundw
    case rel=>exact⟨k+1,by omega,by go_num,yA HNX,trivial⟩
    case measure=>simp[intOf];omega
   ·have hA1:0≤A:=by omega
    clear hA0 hu;cases u with
    | false=>
     have h0:R.waitsK c k=false:=by
      rcases hz1 with e | e
      ·exact hz4 e
      ·obtain⟨_,_,_,_,_,_,_,_,e5⟩:=hz3 e;rw[e5];rfl
     have HNX:=tB h0;clear tB hz3 hz4 h0;go_wp2;go_roundw
     case rel=>exact⟨k+1,by omega,by go_num,yA HNX,trivial⟩
     case measure=>simp[intOf];omega
    | true=>
     rcases hz1 with e | e
     ·have HNX:=tB (hz4 e);subst e;clear tB hz3 hz4;go_wp2;go_roundw
      case rel=>exact⟨k+1,by omega,by go_num,yA HNX,trivial⟩
      case measure=>simp[intOf];omega
     ·obtain⟨a,cap,g,wt,g1,rfl,g3,g4,g5⟩:=hz3 e;obtain⟨i,rfl⟩:∃i:Nat,z=i:=⟨z.toNat,by omega⟩;rw[iO0] at g4;cases wt with
      | false=>
       have HNX:=tB (by rw[g5];rfl);clear tB hz4 g5;go_wp2;go_roundw
       case rel=>exact⟨k+1,by omega,by go_num,yA HNX,trivial⟩
       case measure=>simp[intOf];omega
      | true=>
       have h1:R.waitsK c k=true:=by rw[g5];rfl
       have HFIN:Hid ((R.waitsK c 0 || R.waitsK c 1)=true):=uA (by
        rcases(by omega:k=0∨k=1) with rfl | rfl
        ·rw[h1];rfl
        ·rw[h1];simp)
       clear tB hz4 g5 h1;go_wp2;go_ret;exact⟨by rw[yA HFIN];rfl,rfl⟩
  ·have hke:k=2:=by omega
   subst hke;have HFIN:Hid ((R.waitsK c 0 || R.waitsK c 1)=false):=uA (by rw[yA HALL 0 (by omega),yA HALL 1 (by omega)];rfl);go_wp2;go_ret;exact⟨by rw[yA HFIN];rfl,rfl⟩
set_option maxRecDepth 100000 in
set_option maxHeartbeats 1000000 in
theorem xV {w:World}{b:Nat}{ρ:zA}{R:RNet}(h:RX w b ρ R){c:Nat}(hc:c<4)(hn:R.fa.length≤1000):
  Calls Tryz.prog 46 #[.pointer (some ⟨b,0,none⟩),int c] w fun e w'=>e=.returned (int (R.net.still c))∧w'=w:=by
 have hat:=(h.cl c hc).here;have HW:=uA (gU h hc hn);have hci:(c:Int)<4:=by omega
 have hst:R.net.still c=if (R.cl c).here=none then 3 else if R.net.waits c then 5 else 0:=rfl;rw[hst];clear hst h;cases hh:(R.cl c).here with
 | none=>
  rw[hh] at hat;have hat:w.cell? ⟨b,3+c*13,none⟩=some (int (-1)):=hat;rw[if_pos rfl];go_enter Tryz.func46,Tryz.ntmps46
  go_wp2;go_ret
  exact⟨rfl,rfl⟩
 | some x=>
  rw[hh] at hat;have hat:w.cell? ⟨b,3+c*13,none⟩=some (int x):=hat;rw[if_neg (by simp)];clear hh;cases hwv:R.net.waits c with
  | true=>
   rw[hwv] at HW;go_enter Tryz.func46,Tryz.ntmps46
   go_wp2_with (go_at_call 52;refine(yA HW).mono ?_;rintro e w' ⟨rfl,hw'⟩;have hw':=hw'.symm;subst hw')
   go_ret;exact⟨rfl,rfl⟩
  | false=>
   rw[hwv] at HW;go_enter Tryz.func46,Tryz.ntmps46
   go_wp2_with (go_at_call 52;refine(yA HW).mono ?_;rintro e w' ⟨rfl,hw'⟩;have hw':=hw'.symm;subst hw')
   go_ret;exact⟨rfl,rfl⟩
section
variable {Z : Role → Prop} {ρ ρ' : Nat → Option Role} {w w' : World}
theorem Mv.clK (m:Mv Z ρ ρ' w w'){b c:Nat}{x:Cli}(h:ClC w ρ b c x)(hc:∀o v,3+c*13≤o→o<3+c*13+13→w.cell? ⟨b,o,none⟩=some v→w'.cell? ⟨b,o,none⟩=some v)(z1:¬Z .frame)(z2:∀k,¬Z (.map c k))(z3:¬Z (.log c)):ClC w' ρ' b c x:=by
 refine⟨hc _ _ (by omega) (by omega) h.here,hc _ _ (by omega) (by omega) h.home,fun k hk=>hc _ _ (by omega) (by omega) (h.used k hk),fun k hk=>hc _ _ (by omega) (by omega) (h.age k hk),fun k hk=>?_,fun k hk=>?_,hc _ _ (by omega) (by omega) h.stays,hc _ _ (by omega) (by omega) h.many,?_⟩
 ·obtain⟨v,h1,h2,h3⟩:=h.fil k hk;exact⟨v,hc _ _ (by omega) (by omega) h1,fun hu=>m.fl (h2 hu) z1,h3⟩
 ·obtain⟨v,h1,h2⟩:=h.told k hk;exact⟨v,hc _ _ (by omega) (by omega) h1,m.rowZ h2 (z2 k)⟩
 ·obtain⟨v,h1,h2⟩:=h.log;exact⟨v,hc _ _ (by omega) (by omega) h1,m.rowZ h2 z3⟩
end
structure Grown (w w':World)(b o:Nat)(ρ ρ':zA)(r:Role)(t size k:Nat)(all:List Value):Prop where
 mv:Mv (fun z=>z=.net∨z=r) ρ ρ' w w'
 cell:∀o' v,o'≠o→w.cell? ⟨b,o',none⟩=some v→w'.cell? ⟨b,o',none⟩=some v
 row:∃v,w'.cell? ⟨b,o,none⟩=some v∧RowAt w' ρ' r t size k all v
 net:ρ' b=some .net
 typ:∃cs,w'.heap[b]?=some (.cells cs 122)
 fr:∀o,w'.frozen? ⟨b,o,none⟩=false
theorem yQ {w w1 w2:World}{b:Nat}{ρ:zA}{R:RNet}(h:RX w b ρ R){r:Role}(hr:r≠.net){o t size m k:Nat}{cells all:List Value}{vl:Value}(hl:w.cell? ⟨b,o,none⟩=some vl)(hrow:RowAt w ρ r t size m cells vl)
  (t1:qA w w1) {g cap:Nat} (hg:xF 0 t size vl k all w1 g cap w2):Grown w (w2.setCell ⟨b,o,none⟩ (.slice (some ⟨g,0,none⟩) k cap)) b o ρ (iA ρ g r) r t size k all:=by
 have hb:b<w.heap.size:=h.lt b (by rw[h.net];simp)
 obtain⟨gown,gt,glt⟩:=hg;have hgr:(ρ g=some r∧vl.ownBlock=some g)∨w.heap.size≤g:=by
  rcases gt with⟨hv,_⟩ | ⟨hv,_⟩
  ·exact Or.inl ⟨hrow.2 g hv,hv⟩
  ·right;rw[hv];exact t1.size
 have hgb:b≠g:=by
  rcases hgr with⟨h1,_⟩ | h1
  ·intro e1;subst e1;rw[h.net] at h1;cases h1;exact hr rfl
  ·omega
 have t2:Touch (fun i=>i=g) w1 w2:=by
  rcases gt with⟨_,t⟩ | ⟨_,t⟩
  ·exact t
  ·exact t.mono (fun _ _ f=>f.elim)
 have hkeep:∀i,i<w.heap.size→i≠g→w2.heap[i]?=w.heap[i]?:=fun i hi h2=>(t2.block i (sO0 hi t1.size) h2).trans (t1.block i hi id);obtain⟨W,hW⟩:∃W,W=w2.setCell ⟨b,o,none⟩ (.slice (some ⟨g,0,none⟩) k cap):=⟨_,rfl⟩;rw[←hW];have hWk:∀i,i≠b→W.heap[i]?=w2.heap[i]?:=fun i hi=>by rw[hW];exact zB w2 _ hi
 have hWs:W.heap.size=w2.heap.size:=by rw[hW];simp[World.setCell]
 have hb2:w2.heap[b]?=w.heap[b]?:=hkeep b hb hgb;have hrole:∀i,i<w.heap.size→iA ρ g r i=ρ i:=fun i hi=>by
  unfold iA;split
  ·rename_i e1;subst e1
   rcases hgr with⟨h1,_⟩ | h1
   ·exact h1.symm
   ·omega
  ·rfl
 refine⟨⟨⟨?_,?_,?_,?_,fun i hi hs=>?_⟩,fun i hi=>Or.inl (hrole i hi),fun i hi=>?_⟩,fun o' v ho hv=>?_,⟨.slice (some ⟨g,0,none⟩) k cap,?_,?_,fun g' hg'=>?_⟩,(hrole b hb).trans h.net,?_,fun o'=>?_⟩
 ·rw[hW];exact t2.os.trans t1.os
 ·rw[hW];exact t2.tape.trans t1.tape
 ·rw[hW];exact t2.output.trans t1.output
 ·rw[hWs];exact mO0 t1.size t2.size
 ·have h1:i≠b:=fun e1=>hs ⟨.net,by rw[e1];exact h.net,Or.inl rfl⟩;have h3:i≠g:=fun e1=>by
   subst e1;rcases hgr with⟨h3,_⟩ | h3
   ·exact hs ⟨r,h3,Or.inr rfl⟩
   ·omega
  exact(hWk i h1).trans (hkeep i hi h3)
 ·rw[hWs];unfold iA at hi;split at hi
  ·rename_i e1;rw[e1];exact glt
  ·exact sO0 (h.lt i hi) (mO0 t1.size t2.size)
 ·rw[hW];exact tA w2 ho (pA hb2 hv)
 ·rw[hW];exact mP0 w2 _ _ (pA hb2 hl)
 ·obtain⟨a1,a2⟩:=gown;refine⟨a1,?_⟩;rcases a2 with⟨a2,_⟩ | ⟨g',cap',cur,a3,a4,a5,a6⟩
  ·cases a2
  ·cases a3
   exact Or.inr ⟨g,cap,cur,rfl,a4,(hWk g (Ne.symm hgb)).trans a5,a6⟩
 ·cases hg'
  simp[iA]
 ·rw[hW];exact nB (by rw[hb2];exact h.typ) _ _
 ·rw[hW];exact qB _ _ _ _ _ ((nP0 (w:=w) (a:=⟨b,o',none⟩) hb2).trans (h.fr o'))
theorem RX.frames' {w w':World}{b:Nat}{ρ ρ':zA}{R:RNet}(h:RX w b ρ R){k:Nat}{all:List Value}(G:Grown w w' b 1 ρ ρ' (.chan 0 0) 133 16 k all){fr:List LFr}{css:List (List Value)}(hk:k=fr.length)(hcss:css.length=fr.length)(hall:all=css.flatten)
  (hC:∀(i:Nat) a cs,fr[i]?=some a→css[i]?=some cs→FrC w ρ a cs):RX w' b ρ' {R with fr:=fr}:=by
 have z:∀r:Role,r≠.net→r≠.chan 0 0→¬(r=.net∨r=.chan 0 0):=fun r h1 h2 h3=>h3.elim h1 h2;obtain⟨pb,po,cap,p0,p1,p2⟩:=h.pars;obtain⟨v1,g1,g2⟩:=G.row;obtain⟨v2,f1,f2⟩:=h.facts;subst hk;subst hall;refine⟨G.net,G.typ,G.fr,G.mv.lt,⟨pb,po,cap,G.cell _ _ (by omega) p0,?_,fun i hi=>?_⟩,⟨v1,g1,css,hcss,g2,fun i a cs ha hc=>?_⟩,⟨v2,G.cell _ _ (by omega) f1,?_⟩,fun c hc=>?_,G.cell _ _ (by omega) h.closed⟩
 ·exact G.mv.stay p1 (z _ (by simp) (by simp)) (h.lt pb (by rw[p1];simp))
 ·exact G.mv.cellZ p1 (z _ (by simp) (by simp)) (p2 i hi)
 ·exact G.mv.frC (hC i a cs ha hc) (z _ (by simp) (by simp)) (z _ (by simp) (by simp))
 ·exact G.mv.pieces f2 (z _ (by simp) (by simp)) (fun a cs _ hF=>G.mv.faC hF (z _ (by simp) (by simp)) (z _ (by simp) (by simp)))
 ·exact G.mv.clK (h.cl c hc) (fun o v h1 h2 hv=>G.cell o v (by omega) hv) (z _ (by simp) (by simp)) (fun k=>z _ (by simp) (by simp)) (z _ (by simp) (by simp))
theorem RX.sent {w w1 w2:World}{b:Nat}{ρ:zA}{R:RNet}(h:RX w b ρ R){l:LFr}{cs:List Value}(hC:FrC w ρ l cs){vl:Value}{css:List (List Value)}(hl:w.cell? ⟨b,1,none⟩=some vl)(hcss:css.length=R.fr.length)(hrow:RowAt w ρ (.chan 0 0) 133 16 R.fr.length css.flatten vl)
  (hp:∀(i:Nat) a cs,R.fr[i]?=some a→css[i]?=some cs→FrC w ρ a cs) (t1:qA w w1) {g cap:Nat} (hg:xF 0 133 16 vl (R.fr.length+1) (css.flatten++cs) w1 g cap w2):
  RX (w2.setCell ⟨b,1,none⟩ (.slice (some ⟨g,0,none⟩) (R.fr.length+1) cap)) b (iA ρ g (.chan 0 0)) {R with fr:=R.fr++[l]}∧Mv (fun z=>z=.net∨z=.chan 0 0) ρ (iA ρ g (.chan 0 0)) w (w2.setCell ⟨b,1,none⟩ (.slice (some ⟨g,0,none⟩) (R.fr.length+1) cap)):=by
 have G:=yQ h (by simp) hl hrow t1 hg;refine⟨h.frames' G (css:=css++[cs]) (by simp) (by simp[hcss]) (by simp) (fun i a cs' ha hc=>?_),G.mv⟩;by_cases hi:i<R.fr.length
 ·rw[oO0 hi] at ha;rw[oO0 (by omega)] at hc;exact hp i a cs' ha hc
 ·have hi':i=R.fr.length:=by
   have:=(rO0.1 ha).1;simp at this;omega
  subst hi';rw[nO0 (qO0 _)] at ha;rw[nO0 (by omega)] at hc;simp only[Nat.sub_self,List.getElem?_cons_zero,Option.some.injEq,hcss] at ha hc;subst ha hc;exact hC
end Go.Proofs.YtodfcpblcpogiaaGreat

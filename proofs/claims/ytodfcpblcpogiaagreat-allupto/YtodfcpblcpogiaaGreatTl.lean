import Derived.Test.YtodfcpblcpogiaaGreatTh
import Derived.Test.YtodfcpblcpogiaaGreatSta
import Derived.Test.YtodfcpblcpogiaaGreatSx
import Derived.Test.YtodfcpblcpogiaaGreatFil
namespace Go.Proofs.YtodfcpblcpogiaaGreat
open Go.RowKit
theorem RG.own {w:World}{b:Nat}{ρ:zA}{σ:Net}(h:RG w b ρ σ){w1:World}(t:qA w w1){g:Nat}(hg:w.heap.size≤g)(hl:g<w1.heap.size)(r:Role):RG w1 b (iA ρ g r) σ∧Mv uB ρ (iA ρ g r) w w1:=by
 have hrl:∀j,j<w.heap.size→iA ρ g r j=ρ j:=fun j hj=>by unfold iA;rw[if_neg (by omega)]
 have m:Mv (fun _=>False) ρ (iA ρ g r) w w1:=by
  refine⟨⟨t.os,t.tape,t.output,t.size,fun k hk _=>t.block k hk id⟩,fun k hk=>Or.inl (hrl k hk),fun k hk=>?_⟩;unfold iA at hk;split at hk
  ·rename_i e;rw[e];exact hl
  ·exact sO0 (h.lt k hk) t.size
 refine⟨?_,m.mono (fun _ f=>f.elim)⟩;obtain⟨R,h1,h2,h3⟩:=h;refine⟨R,?_,h2,h3⟩;have hb:b<w.heap.size:=h1.lt b (by rw[h1.net];simp)
 have hblk:w1.heap[b]?=w.heap[b]?:=t.block b hb id;have hc:∀o u,w.cell? ⟨b,o,none⟩=some u→w1.cell? ⟨b,o,none⟩=some u:=fun o u hu=>pA hblk hu;obtain⟨pb,po,cap,p0,p1,p2⟩:=h1.pars;obtain⟨v1,g1,g2⟩:=h1.frames;obtain⟨v2,f1,f2⟩:=h1.facts;obtain⟨tcs,htyp⟩:=h1.typ;exact⟨m.stay h1.net id hb,⟨tcs,hblk.trans htyp⟩,fun o=>(nP0 (w:=w) (a:=⟨b,o,none⟩) hblk).trans (h1.fr o),m.lt,⟨pb,po,cap,hc _ _ p0,m.stay p1 id (h1.lt pb (by rw[p1];simp)),fun i hi=>m.cellZ p1 id (p2 i hi)⟩,⟨v1,hc _ _ g1,m.pieces g2 id (fun a cs _ hC=>m.frC hC id id)⟩,⟨v2,hc _ _ f1,m.pieces f2 id (fun a cs _ hC=>m.faC hC id id)⟩,fun c hcc=>m.clC (h1.cl c hcc) h1.net id id (fun k f=>f) id,hc _ _ h1.closed⟩
theorem RG.client {w w':World}{b c:Nat}{ρ:zA}{σ:Net}(h:RG w b ρ σ)(hc:c<4)(m:Mv qL ρ ρ w w')(hcell:∀o v,o<3+c*13∨3+c*13+13≤o→w.cell? ⟨b,o,none⟩=some v→w'.cell? ⟨b,o,none⟩=some v)(htyp:∃cs,w'.heap[b]?=some (.cells cs 122))(hfr:∀o,w'.frozen? ⟨b,o,none⟩=false){x:Cli}(hx:ClC w' ρ b c x):RG w' b ρ (σ.setCl c x):=by
 obtain⟨R,h1,rfl,h3⟩:=h;refine⟨R.setCl c x,?_,rfl,h3.setCl _ _⟩;obtain⟨pb,po,cap,p0,p1,p2⟩:=h1.pars;obtain⟨v1,g1,g2⟩:=h1.frames;obtain⟨v2,f1,f2⟩:=h1.facts;refine⟨h1.net,htyp,hfr,m.lt,⟨pb,po,cap,hcell _ _ (by omega) p0,p1,fun i hi=>m.cellZ p1 (by simp) (p2 i hi)⟩,⟨v1,hcell _ _ (by omega) g1,m.pieces g2 (by simp) (fun a cs _ hF=>m.frC hF (by simp) (by simp))⟩,⟨v2,hcell _ _ (by omega) f1,m.pieces f2 (by simp) (fun a cs _ hF=>m.faC hF (by simp) (by simp))⟩,fun d hd=>?_,hcell _ _ (by omega) h1.closed⟩;by_cases e:d=c
 ·subst e;show ClC _ ρ b d (put R.cl d x d)
  rw[put_same];exact hx
 ·show ClC _ ρ b d (put R.cl c x d)
  rw[kA _ _ e];exact m.clK (h1.cl d hd) (fun o v h1 h2 hv=>hcell o v (by omega) hv) (by simp) (fun k=>by simp) (by simp)
theorem RG.setSub {w:World}{b c k:Nat}{ρ:zA}{σ:Net}(h:RG w b ρ σ)(hc:c<4)(hk:k<2)(A:Int){fv:Value}{l:List Tst}(hfl:FlAt w ρ fv l):
  RG ((((w.setCell ⟨b,3+c*13+2+k,none⟩ (.bool true)).setCell ⟨b,3+c*13+4+k,none⟩ (int A)).setCell ⟨b,3+c*13+6+k,none⟩ fv).setCell ⟨b,3+c*13+8+k,none⟩ rA) b ρ (σ.setCl c {σ.cl c with used:=put (σ.cl c).used k true,age:=put (σ.cl c).age k A,fl:=put (σ.cl c).fl k l,told:=put (σ.cl c).told k []})∧
   Mv qL ρ ρ w ((((w.setCell ⟨b,3+c*13+2+k,none⟩ (.bool true)).setCell ⟨b,3+c*13+4+k,none⟩ (int A)).setCell ⟨b,3+c*13+6+k,none⟩ fv).setCell ⟨b,3+c*13+8+k,none⟩ rA):=by
 obtain⟨W1,hW1⟩:∃W1,W1=w.setCell ⟨b,3+c*13+2+k,none⟩ (.bool true):=⟨_,rfl⟩;obtain⟨W2,hW2⟩:∃W2,W2=W1.setCell ⟨b,3+c*13+4+k,none⟩ (int A):=⟨_,rfl⟩;obtain⟨W3,hW3⟩:∃W3,W3=W2.setCell ⟨b,3+c*13+6+k,none⟩ fv:=⟨_,rfl⟩;obtain⟨W4,hW4⟩:∃W4,W4=W3.setCell ⟨b,3+c*13+8+k,none⟩ rA:=⟨_,rfl⟩;rw[←hW1,←hW2,←hW3,←hW4];have hlt:=h.lt;have m1:Mv qL ρ ρ w W1:=by rw[hW1];exact yQ0 (S:=qL) hlt h.net rfl _ _
 have m2:Mv qL ρ ρ W1 W2:=by rw[hW2];exact yQ0 (S:=qL) m1.lt h.net rfl _ _
 have m3:Mv qL ρ ρ W2 W3:=by rw[hW3];exact yQ0 (S:=qL) m2.lt h.net rfl _ _
 have m4:Mv qL ρ ρ W3 W4:=by rw[hW4];exact yQ0 (S:=qL) m3.lt h.net rfl _ _
 have m:=((m1.trans m2).trans m3).trans m4;have cell:∀o v,o≠3+c*13+2+k→o≠3+c*13+4+k→o≠3+c*13+6+k→o≠3+c*13+8+k→w.cell? ⟨b,o,none⟩=some v→W4.cell? ⟨b,o,none⟩=some v:=fun o v e1 e2 e3 e4 hv=>by
  rw[hW4,hW3,hW2,hW1];exact tA _ e4 (tA _ e3 (tA _ e2 (tA _ e1 hv)))
 have C:=h.cl hc;obtain⟨u6,q6,_⟩:=C.fil k hk;obtain⟨u8,q8,_⟩:=C.told k hk;have n2:W4.cell? ⟨b,3+c*13+2+k,none⟩=some (.bool true):=by
  rw[hW4,hW3,hW2,hW1];exact tA _ (by omega) (tA _ (by omega) (tA _ (by omega) (mP0 w _ _ (C.used k hk))))
 have n4:W4.cell? ⟨b,3+c*13+4+k,none⟩=some (int A):=by
  rw[hW4,hW3,hW2,hW1];exact tA _ (by omega) (tA _ (by omega) (mP0 _ _ _ (tA _ (by omega) (C.age k hk))))
 have n6:W4.cell? ⟨b,3+c*13+6+k,none⟩=some fv:=by
  rw[hW4,hW3,hW2,hW1];exact tA _ (by omega) (mP0 _ _ _ (tA _ (by omega) (tA _ (by omega) q6)))
 have n8:W4.cell? ⟨b,3+c*13+8+k,none⟩=some rA:=by
  rw[hW4,hW3,hW2,hW1];exact mP0 _ _ _ (tA _ (by omega) (tA _ (by omega) (tA _ (by omega) q8)))
 refine⟨h.client hc m (fun o v ho hv=>cell o v (by omega) (by omega) (by omega) (by omega) hv) ?_ (fun o=>?_) ?_,m⟩
 ·obtain⟨R,h1,_⟩:=h;rw[hW4,hW3,hW2,hW1];exact nB (nB (nB (nB h1.typ _ _) _ _) _ _) _ _
 ·rw[hW4,hW3,hW2,hW1];exact qB _ _ _ _ _ (qB _ _ _ _ _ (qB _ _ _ _ _ (qB _ _ _ _ _ (h.fr o))))
 ·refine⟨cell _ _ (by omega) (by omega) (by omega) (by omega) C.here,cell _ _ (by omega) (by omega) (by omega) (by omega) C.home,fun j hj=>?_,fun j hj=>?_,fun j hj=>?_,fun j hj=>?_,cell _ _ (by omega) (by omega) (by omega) (by omega) C.stays,cell _ _ (by omega) (by omega) (by omega) (by omega) C.many,?_⟩
  ·by_cases e:j=k
   ·subst e;simp only[put_same];exact n2
   ·simp only[kA _ _ e];exact cell _ _ (by omega) (by omega) (by omega) (by omega) (C.used j hj)
  ·by_cases e:j=k
   ·subst e;simp only[put_same];exact n4
   ·simp only[kA _ _ e];exact cell _ _ (by omega) (by omega) (by omega) (by omega) (C.age j hj)
  ·by_cases e:j=k
   ·subst e;simp only[put_same];refine⟨fv,n6,fun _=>m.fl hfl (by simp),?_⟩;obtain⟨a,cp,e1,_⟩:=hfl;exact⟨a,_,cp,e1⟩
   ·obtain⟨v,r1,r2,r3⟩:=C.fil j hj;refine⟨v,cell _ _ (by omega) (by omega) (by omega) (by omega) r1,fun hu=>?_,r3⟩;simp only[kA _ _ e] at hu ⊢;exact m.fl (r2 hu) (by simp)
  ·by_cases e:j=k
   ·subst e;simp only[put_same];exact⟨rA,n8,tQ0⟩
   ·obtain⟨v,r1,r2⟩:=C.told j hj;refine⟨v,cell _ _ (by omega) (by omega) (by omega) (by omega) r1,?_⟩;simp only[kA _ _ e];exact m.rowZ r2 (by simp)
  ·obtain⟨v,r1,r2⟩:=C.log;exact⟨v,cell _ _ (by omega) (by omega) (by omega) (by omega) r1,m.rowZ r2 (by simp)⟩
theorem fJ0 {w w1:World}{b:Nat}{ρ:zA}{σ:Net}(h:RG w b ρ σ)(t:qA w w1){v:Value}{l:List Tst}(ho:w1.ownsRow w.heap.size 47 3 v l.length (l.flatMap Tst.enc)):∃ρ1,RG w1 b ρ1 σ∧Mv uB ρ ρ1 w w1∧FlAt w1 ρ1 v l:=by
 rcases ho.2 with⟨rfl,h0⟩ | ⟨g,cap,cur,rfl,hg,hh,_⟩
 ·exact⟨ρ,h.calm t,zQ0 h.lt t,none,0,by rw[h0],Or.inl (zP0 h0)⟩
 ·have hl:=(tO0.1 hh).1;obtain⟨q1,q2⟩:=h.own t hg hl .frame;refine⟨_,q1,q2,some ⟨g,0,none⟩,cap,rfl,Or.inr ⟨g,0,rfl,by simp[iA],fun j u hj=>?_⟩⟩;have:=World.ownsRow.cells ho (g:=g) rfl j u hj;rw[gP0] at this;exact this
theorem xH {w:World}{ops:Array Oper}{rest:List Oper}{o:Oper}{a:Act}{Q:Exit→Act→World→Prop}(hgd:o.guard=none)(s x:Operand)(t:TypeId)
  (ho:o.op=.call {callee:=.builtin .append,args:=#[s,x],argTypes:=#[t,t]}) {e:TypeId} (i:TypeInfo) (ht:Tryz.prog.underlying t=some (.slice e)) (hi:Tryz.prog.info? e=some i) (_:i.size=3)
  (hs:a.eval s=.slice none 0 0) (c:Nat) (hx:a.eval x=.slice none 0 c) (h:wpList Tryz.prog ops Q rest (a.put o.dst (.slice none 0 0)) w):wpList Tryz.prog ops Q (o::rest) a w:=
 wpList_plain hgd fun _ hK=>by
  have hr:(Builtin.append_ #[t,t] o.type #[.slice none 0 0,.slice none 0 c]).run Tryz.prog w=.ok (.slice none 0 0) w:=by
   simp[Builtin.append_,run_underlying ht,sizeOf,typeInfo,hi,Builtin.lenOf,Builtin.firstCells]
  unfold Oper.wp execOp;simp only[ho,resolve,invoke,builtin,Sem.run_bind,Sem.run_pure,Result.andThen_ok,List.map_toArray,List.map_cons,List.map_nil,hs,hx,hr];exact hK _ _ h
theorem pP:∀l:List Tst,(l.flatMap Tst.enc).length=l.length*3
 | []=>rfl
 | t::l=>by rw[tP0,hO0,pP l,gO0];simp[Tst.enc];omega
theorem mW (l:List Tst):∀u∈l.flatMap Tst.enc,u.oneCell'=true:=fun u hu=>by
 obtain⟨t,_,ht⟩:=List.mem_flatMap.1 hu;simp only[Tst.enc,List.mem_cons,List.not_mem_nil,or_false] at ht;rcases ht with rfl | rfl | rfl<;>rfl
set_option maxRecDepth 100000 in
set_option maxHeartbeats 8000000 in
theorem bT {w:World}{b:Nat}{ρ:zA}{σ:Net}(h:RG w b ρ σ){d x lc:Nat}{l:List Tst}{a:Option Addr}(hd:d<4)(hx6:x<6)(hxn:x<σ.n)(hs6:σ.n≤6)(hA:σ.asked (dA d)=0)(hS:σ.still d=0)(hh:(σ.cl d).here=some x)(hu0:(σ.cl d).used 0=false)(huk:(σ.cl d).used 0=false)(hfull:σ.waiting<100)(hl:yB l=true)(ht:TestsAt w a l)(hag:-1≤(σ.cl d).age 0∧(σ.cl d).age 0<2199023255552):
    Calls Tryz.prog 86 #[.pointer (some ⟨b,0,none⟩),int d,.slice a l.length lc] w fun e w'=>e=.returned (.tuple #[int 0,int 0])∧∃ρ',RG w' b ρ' (σ.subN d x 0 l)∧Mv uB ρ ρ' w w':=by
  have h3:=yI hl;have h3i:(l.length:Int)≤3:=by omega
  have hdI:(d:Int)<4:=by omega
  have HA:=aC h d;rw[hA] at HA;have HA:=uA HA;have HSt:=eM h hd;rw[hS] at HSt;have HSt:=uA HSt;have C:=h.cl hd;have d0:=C.here;rw[hh] at d0;replace d0:w.cell? ⟨b,3+d*13,none⟩=some (int x):=d0;have u0:w.cell? ⟨b,3+d*13+2,none⟩=some (.bool false):=by have:=C.used 0 (by omega);rw[hu0] at this;exact this
  have uk:w.cell? ⟨b,3+d*13+2,none⟩=some (.bool false):=by have:=C.used 0 (by omega);rw[huk] at this;exact this
  obtain⟨A,hAe⟩:∃A,A=(σ.cl d).age 0:=⟨_,rfl⟩;have ag:w.cell? ⟨b,3+d*13+4,none⟩=some (int A):=by have:=C.age 0 (by omega);rw[←hAe] at this;exact this
  obtain⟨v6,f6,_,fa6,fn6,fc6,rfl⟩:=C.fil 0 (by omega);replace f6:w.cell? ⟨b,3+d*13+6,none⟩=some (.slice fa6 fn6 fc6):=f6;obtain⟨v8,t8,hr8⟩:=C.told 0 (by omega);obtain⟨ta,tc,rfl,_⟩:=uQ0 hr8;replace t8:w.cell? ⟨b,3+d*13+8,none⟩=some (.slice ta ((σ.cl d).told 0).length tc):=t8;obtain⟨tn,htn⟩:∃tn,tn=((σ.cl d).told 0).length:=⟨_,rfl⟩;rw[←htn] at t8;obtain⟨fra,frc,g1⟩:=h.frames;obtain⟨N,hN⟩:∃N,N=σ.waiting:=⟨_,rfl⟩;rw[←hN] at g1 hfull;have hfI:(N:Int)<100:=by omega
  rw[←hAe] at hag;obtain⟨ha0,ha1⟩:=hag;have hwA:IntKind.i64.wrap (A+1)=A+1:=by rw[IntKind.wrap_i64];omega
  have hw1:IntKind.i64.wrap (2*(d:Int))=2*(d:Int):=by rw[IntKind.wrap_i64];omega
  have hw2:IntKind.i64.wrap (2*(d:Int)+0)=2*(d:Int):=by rw[IntKind.wrap_i64];omega
  have hb:b<w.heap.size:=h.lt b (by rw[h.net];simp)
  have HFZ:=uA h.fr;have HG:=uA hl;have HT:=uA ht;have HX:=uA h
  have HSUB:Hid (∀w1 v,qA w w1→w1.ownsRow w.heap.size 47 3 v l.length (l.flatMap Tst.enc)→∃ρ2,RG ((((w1.setCell ⟨b,3+d*13+2,none⟩ (.bool true)).setCell ⟨b,3+d*13+4,none⟩ (int (A+1))).setCell ⟨b,3+d*13+6,none⟩ v).setCell ⟨b,3+d*13+8,none⟩ rA) b ρ2 (σ.setCl d {σ.cl d with used:=put (σ.cl d).used 0 true,age:=put (σ.cl d).age 0 (A+1),fl:=put (σ.cl d).fl 0 l,told:=put (σ.cl d).told 0 []})∧Mv uB ρ ρ2 w ((((w1.setCell ⟨b,3+d*13+2,none⟩ (.bool true)).setCell ⟨b,3+d*13+4,none⟩ (int (A+1))).setCell ⟨b,3+d*13+6,none⟩ v).setCell ⟨b,3+d*13+8,none⟩ rA)∧FlAt ((((w1.setCell ⟨b,3+d*13+2,none⟩ (.bool true)).setCell ⟨b,3+d*13+4,none⟩ (int (A+1))).setCell ⟨b,3+d*13+6,none⟩ v).setCell ⟨b,3+d*13+8,none⟩ rA) ρ2 v l):=uA (fun w1 v t ho=>by
    obtain⟨ρ1,q1,q2,q3⟩:=fJ0 h t ho;obtain⟨r1,r2⟩:=q1.setSub hd (k:=0) (by omega) (A+1) q3
    exact⟨ρ1,r1,q2.trans (r2.mono (fun _ _=>trivial)),r2.fl q3 (by simp)⟩)
  have hτn:(σ.setCl d {σ.cl d with used:=put (σ.cl d).used 0 true,age:=put (σ.cl d).age 0 (A+1),fl:=put (σ.cl d).fl 0 l,told:=put (σ.cl d).told 0 []}).n=σ.n:=rfl;have hτw:(σ.setCl d {σ.cl d with used:=put (σ.cl d).used 0 true,age:=put (σ.cl d).age 0 (A+1),fl:=put (σ.cl d).fl 0 l,told:=put (σ.cl d).told 0 []}).waiting=N:=hN.symm;have hsubN:σ.subN d x 0 l=((σ.setCl d {σ.cl d with used:=put (σ.cl d).used 0 true,age:=put (σ.cl d).age 0 (A+1),fl:=put (σ.cl d).fl 0 l,told:=put (σ.cl d).told 0 []}).know x (2*d+0) (some ⟨A+1,l,none,[],0,false⟩)).spread x none (.sub (2*d+0) (A+1) l):=by rw[hAe];rfl
  obtain⟨τ,hτ⟩:∃τ,τ=σ.setCl d {σ.cl d with used:=put (σ.cl d).used 0 true,age:=put (σ.cl d).age 0 (A+1),fl:=put (σ.cl d).fl 0 l,told:=put (σ.cl d).told 0 []}:=⟨_,rfl⟩;rw[←hτ] at hτn hτw hsubN HSUB;have hsc:((2*d+0:Nat):Int)=2*(d:Int):=by omega
  have HLRN:Hid (∀w3 ρ3 fa fc,RG w3 b ρ3 τ→Mv uB ρ ρ3 w w3→FlAt w3 ρ3 (.slice fa l.length fc) l→w3.cell? ⟨b,3+d*13+4,none⟩=some (int (A+1))→w3.cell? ⟨b,3+d*13,none⟩=some (int x)→Calls Tryz.prog 42 #[.pointer (some ⟨b,0,none⟩),.agg #[int x,int (2*(d:Int)),int (A+1),.slice fa l.length fc,int (-1),rA,int 0,.bool false]] w3 fun e w'=>e=.returned (.tuple #[])∧∃ρ4,RG w' b ρ4 (τ.know x (2*d+0) (some ⟨A+1,l,none,[],0,false⟩))∧Mv uB ρ ρ4 w w'∧FlAt w' ρ4 (.slice fa l.length fc) l∧w'.cell? ⟨b,3+d*13+4,none⟩=some (int (A+1))∧w'.cell? ⟨b,3+d*13,none⟩=some (int x)):=uA (fun w3 ρ3 fa fc hq hmq hf k4 k0=>by
    have hq2:FaC w3 ρ3 ⟨x,2*d+0,⟨A+1,l,none,[],0,false⟩⟩ [int x,int (2*d+0:Nat),int (A+1),.slice fa l.length fc,int (-1),rA,int 0,.bool false]:=⟨_,rA,hf,tQ0,rfl⟩;have:=eX hq hx6 (by omega) hq2;rw[hsc] at this;refine this.mono ?_;rintro r w' ⟨rfl,ρ4,q1,q2,q3⟩
    exact⟨rfl,ρ4,q1,hmq.trans (q2.mono (fun _ _=>trivial)),q2.fl hf (by simp),q3 _ _ (by omega) k4,q3 _ _ (by omega) k0⟩)
  have HSPR:Hid (∀w3 ρ3 fa fc,RG w3 b ρ3 (τ.know x (2*d+0) (some ⟨A+1,l,none,[],0,false⟩))→Mv uB ρ ρ3 w w3→FlAt w3 ρ3 (.slice fa l.length fc) l→Calls Tryz.prog 89 #[.pointer (some ⟨b,0,none⟩),.agg #[int 1,int 0,int 0,int (2*(d:Int)),int (A+1),.slice fa l.length fc,int 0,int 0,int 0,int 0,int 0,int 0,int 0,int 0,rA,int 0],int x,int (-1)] w3 fun e w'=>e=.returned (.tuple #[])∧∃ρ4,RG w' b ρ4 (σ.subN d x 0 l)∧Mv uB ρ ρ4 w w'):=uA (fun w3 ρ3 fa fc hq hmq hf=>by
    have hw':(τ.know x (2*d+0) (some ⟨A+1,l,none,[],0,false⟩)).waiting=N:=hτw;have hn':(τ.know x (2*d+0) (some ⟨A+1,l,none,[],0,false⟩)).n=σ.n:=hτn;have:=vG hq (by omega) (x:=x) (by omega) none (pN (s:=2*d+0) (age:=A+1) hf (int 0) (int 0) rfl rfl) (by omega);rw[hsc] at this;refine this.mono ?_;rintro r w' ⟨rfl,ρ4,q1,q2⟩
    exact⟨rfl,ρ4,by rw[hsubN];exact q1,hmq.trans (q2.mono (fun _ _=>trivial))⟩)
  have HAFT:Hid (∀w5 ρ5,RG w5 b ρ5 (σ.subN d x 0 l)→w5.cell? ⟨b,3+d*13+4,none⟩=some (int (A+1))∧w5.cell? ⟨b,3+d*13,none⟩=some (int x)):=uA (fun w5 ρ5 h5=>by
    have C5:=h5.cl hd;have hc5:(σ.subN d x 0 l).cl d={σ.cl d with used:=put (σ.cl d).used 0 true,age:=put (σ.cl d).age 0 (A+1),fl:=put (σ.cl d).fl 0 l,told:=put (σ.cl d).told 0 []}:=by
      rw[hsubN];have:=(rB (f:=.sub (2*d+0) (A+1) l) (x:=x) ((τ.know x (2*d+0) (some ⟨A+1,l,none,[],0,false⟩)).others x none) (τ.know x (2*d+0) (some ⟨A+1,l,none,[],0,false⟩))).2.1;show ((τ.know x (2*d+0) (some ⟨A+1,l,none,[],0,false⟩)).pushAll x _ (.sub (2*d+0) (A+1) l)).cl d=_
      rw[this,hτ];exact put_same _ _ _
    rw[hc5] at C5;have r0:=C5.here;have r4:=C5.age 0 (by omega);simp only[put_same,hh] at r0 r4
    exact⟨r4,r0⟩)
  clear h C hA hS hh hu0 huk hN hAe htn hr8 hl ht hτ hτn hτw hsubN hsc hxn hs6 hfull;obtain⟨ti,i3,z3,s3,b3⟩:=uE0;have I3:=uA i3;have Z3:=uA z3;have S3:=uA s3;have B3:=uA b3;clear i3 z3 s3 b3;go_enter Tryz.func86,Tryz.ntmps86
  go_wp2_with (go_at_call 38;refine(yA HA).mono ?_;rintro e w1 ⟨rfl,hw1⟩;have hw1:=hw1.symm;subst hw1)
  go_loopw [9] (fun p wr=>∃i:Nat,i≤l.length∧p=int i∧wr=w) (fun p _=>4-(intOf p).toNat)
  case atStart=>exact⟨0,by omega,rfl,rfl⟩
  case round=>
    obtain⟨i,hi,rfl,hw⟩:=hrel;subst hw;by_cases hlt:i<l.length
    · have hiI:(i:Int)<l.length:=by omega
      have hg:=uL (yA HG) hlt;obtain⟨e0,e1,e2⟩:=pF l i hlt;rcases yA HT with h0 | ⟨tb,o,rfl,hc⟩
      · rw[h0] at hlt;simp at hlt
      · have c0:=hc _ _ e0
        have c1:=hc _ _ e1;rw[←rP0] at c1;obtain⟨F,hF⟩:∃F,F=(sA l i).fld:=⟨_,rfl⟩;obtain⟨O,hO⟩:∃O,O=(sA l i).op:=⟨_,rfl⟩;rw[←hF] at c0;rw[←hO] at c1;simp only[Tst.good,oP0] at hg;rw[←hF,←hO] at hg;obtain⟨g0,g2,g3,g4⟩:=hg;clear e0 e1 e2 hc hF hO;go_wp2;go_roundw
        case rel=>exact⟨i+1,by omega,by go_num,trivial⟩
        case measure=>simp[intOf];omega
    · have hie:i=l.length:=by omega
      subst hie;cases a with
      | none=>
        have hl0:l=[]:=by rcases yA HT with h0 | ⟨tb,o,e,_⟩;exact h0;cases e
        subst hl0;have HO1:Hid (wr.ownsRow wr.heap.size 47 3 (.slice none 0 0) ([]:List Tst).length (([]:List Tst).flatMap Tst.enc)):=uA (jP0 _ _ _ _);have z2:=yA HFZ (3+d*13+2);have z4:=yA HFZ (3+d*13+4);have z6:=yA HFZ (3+d*13+6);have z8:=yA HFZ (3+d*13+8)
        go_wp2_with (first
          | (go_at_call 46;refine(yA HSt).mono ?_;rintro e w2 ⟨rfl,hw2⟩;have hw2:=hw2.symm;subst hw2)
          | (at_builtin;refine xH rfl _ _ 36 rfl ti Tryz.underlying36 (yA I3) (yA S3) rfl _ rfl ?_))
        obtain⟨ρ2,q1,q2,q3⟩:=yA HSUB wr (.slice none 0 0) (cP0 _ _) (yA HO1);have K4:((((wr.setCell ⟨b,3+d*13+2,none⟩ (.bool true)).setCell ⟨b,3+d*13+4,none⟩ (int (A+1))).setCell ⟨b,3+d*13+6,none⟩ (.slice none 0 0)).setCell ⟨b,3+d*13+8,none⟩ rA).cell? ⟨b,3+d*13+4,none⟩=some (int (A+1)):=tA _ (by omega) (tA _ (by omega) (mP0 _ _ _ (tA _ (by omega) ag)));have K0:((((wr.setCell ⟨b,3+d*13+2,none⟩ (.bool true)).setCell ⟨b,3+d*13+4,none⟩ (int (A+1))).setCell ⟨b,3+d*13+6,none⟩ (.slice none 0 0)).setCell ⟨b,3+d*13+8,none⟩ rA).cell? ⟨b,3+d*13,none⟩=some (int x):=tA _ (by omega) (tA _ (by omega) (tA _ (by omega) (tA _ (by omega) d0)));have HQ1:=uA q1;have HQ2:=uA q2;have HQ3:=uA q3;clear q1 q2 q3 HT HG HSUB;go_wp2;go_region
        all_goals go_wp2
        all_goals go_region_held3 (fun w'=>w'.cell? ⟨b,3+d*13+4,none⟩=some (int (A+1))∧w'.cell? ⟨b,3+d*13,none⟩=some (int x))
          (first
            | exact⟨K4,K0⟩
            | exact q4
            | go_keep)
          (first
            | (go_at_call 42;refine(yA HLRN _ ρ2 none 0 ((yA HQ1).calm (((cP0 (fun _=>False) _).drew).drew)) ((yA HQ2).trans (zQ0 (yA HQ1).lt (((cP0 (fun _=>False) _).drew).drew))) ((yA HQ3).still (((cP0 (fun _=>False) _).drew).drew) (fun _ f=>f.elim)) K4 K0).mono ?_;rintro e w3 ⟨rfl,ρ3,h3',m3',f3',q4⟩
               have H3:=uA h3';have M3:=uA m3';have F3:=uA f3'
               clear h3' m3' f3'))
        all_goals go_wp2
        all_goals go_region_held3 (fun w'=>w'.cell? ⟨b,3+d*13+4,none⟩=some (int (A+1))∧w'.cell? ⟨b,3+d*13,none⟩=some (int x))
          (first
            | exact q4
            | exact q5
            | go_keep)
          (first
            | (go_at_call 89;refine(yA HSPR w3.drew ρ3 none 0 ((yA H3).calm (cP0 _ _).drew) ((yA M3).trans (zQ0 (yA H3).lt (cP0 _ _).drew)) ((yA F3).still ((cP0 (fun _=>False) w3).drew) (fun _ f=>f.elim))).mono ?_;rintro e w5 ⟨rfl,ρ5,h5,m5⟩
               have q5:=yA HAFT w5 ρ5 h5;have H5:=uA h5;have M5:=uA m5
               clear h5 m5))
        all_goals go_wp2
        all_goals go_ret2
        all_goals exact⟨rfl,ρ5,yA H5,yA M5⟩
      | some ad=>
        have HNEW:Hid (∀j u,(l.flatMap Tst.enc)[j]?=some u→wr.cell? (ad.add j)=some u):=uA (fun j u hj=>by
          rcases yA HT with h0 | ⟨tb,o,e,hc⟩
          · rw[h0] at hj;cases hj
          · cases e
            rw[gP0]
            exact hc j u hj)
        have HLN:Hid ((l.flatMap Tst.enc).length=l.length*3):=uA (pP l)
        go_wp2_with (first
          | (go_at_call 46;refine(yA HSt).mono ?_;rintro e w2 ⟨rfl,hw2⟩;have hw2:=hw2.symm;subst hw2)
          | (at_builtin;refine wpList_append_own _ rfl _ _ 36 rfl wr.heap.size 47 ti (.agg #[int 0,int 0,int 0]) 3 24 Tryz.underlying36 (yA I3) (yA Z3) (yA S3) (yA B3) rfl (by decide) (.slice none 0 0) 0 [] rfl (jP0 _ _ _ _) ad l.length _ (l.flatMap Tst.enc) rfl ?hl ?news ?one ?h63 ?bytes ?base ?_))
        case hl=>exact yA HLN
        case news=>exact yA HNEW
        case one=>exact mW l
        case h63=>unfold maxLen;omega
        case bytes=>omega
        case base=>exact qO0 _
        intro v1 w1 o1 gr1 i1;obtain⟨a1,c1,rfl⟩:∃a c,v1=.slice a l.length c:=by
          rcases o1.2 with⟨e,e0⟩ | ⟨g',cp',cur,e,_⟩
          · exact⟨none,0,by rw[e,e0]⟩
          · exact⟨_,_,e⟩
        have t1:qA wr w1:=⟨gr1.os,gr1.tape,gr1.output,gr1.size,fun k hk _=>gr1.block k hk (by simp[Value.ownBlock])⟩;have e0:=t1.cell (p:=⟨b,3+d*13,none⟩) id d0;have e2:=t1.cell (p:=⟨b,3+d*13+2,none⟩) id uk;have e4:=t1.cell (p:=⟨b,3+d*13+4,none⟩) id ag;have e6:=t1.cell (p:=⟨b,3+d*13+6,none⟩) id f6;have e8:=t1.cell (p:=⟨b,3+d*13+8,none⟩) id t8;have hfz:∀o,w1.frozen? ⟨b,o,none⟩=false:=fun o=>(nP0 (w:=wr) (a:=⟨b,o,none⟩) (t1.block b hb id)).trans (yA HFZ o);have z2:=hfz (3+d*13+2);have z4:=hfz (3+d*13+4);have z6:=hfz (3+d*13+6);have z8:=hfz (3+d*13+8);obtain⟨ρ2,q1,q2,q3⟩:=yA HSUB w1 _ t1 o1;have K4:((((w1.setCell ⟨b,3+d*13+2,none⟩ (.bool true)).setCell ⟨b,3+d*13+4,none⟩ (int (A+1))).setCell ⟨b,3+d*13+6,none⟩ (.slice a1 l.length c1)).setCell ⟨b,3+d*13+8,none⟩ rA).cell? ⟨b,3+d*13+4,none⟩=some (int (A+1)):=tA _ (by omega) (tA _ (by omega) (mP0 _ _ _ (tA _ (by omega) e4)));have K0:((((w1.setCell ⟨b,3+d*13+2,none⟩ (.bool true)).setCell ⟨b,3+d*13+4,none⟩ (int (A+1))).setCell ⟨b,3+d*13+6,none⟩ (.slice a1 l.length c1)).setCell ⟨b,3+d*13+8,none⟩ rA).cell? ⟨b,3+d*13,none⟩=some (int x):=tA _ (by omega) (tA _ (by omega) (tA _ (by omega) (tA _ (by omega) e0)));have HQ1:=uA q1;have HQ2:=uA q2;have HQ3:=uA q3;clear o1 gr1 i1 t1 hfz q1 q2 q3 HT HG HSUB HNEW HLN d0 u0 uk ag f6 t8;go_wp2;go_region
        all_goals go_wp2
        all_goals go_region_held3 (fun w'=>w'.cell? ⟨b,3+d*13+4,none⟩=some (int (A+1))∧w'.cell? ⟨b,3+d*13,none⟩=some (int x))
          (first
            | exact⟨K4,K0⟩
            | exact q4
            | go_keep)
          (first
            | (go_at_call 42;refine(yA HLRN _ ρ2 a1 c1 ((yA HQ1).calm (((cP0 (fun _=>False) _).drew).drew)) ((yA HQ2).trans (zQ0 (yA HQ1).lt (((cP0 (fun _=>False) _).drew).drew))) ((yA HQ3).still (((cP0 (fun _=>False) _).drew).drew) (fun _ f=>f.elim)) K4 K0).mono ?_;rintro e w3 ⟨rfl,ρ3,h3',m3',f3',q4⟩
               have H3:=uA h3';have M3:=uA m3';have F3:=uA f3'
               clear h3' m3' f3'))
        all_goals go_wp2
        all_goals go_region_held3 (fun w'=>w'.cell? ⟨b,3+d*13+4,none⟩=some (int (A+1))∧w'.cell? ⟨b,3+d*13,none⟩=some (int x))
          (first
            | exact q4
            | exact q5
            | go_keep)
          (first
            | (go_at_call 89;refine(yA HSPR w3.drew ρ3 a1 c1 ((yA H3).calm (cP0 _ _).drew) ((yA M3).trans (zQ0 (yA H3).lt (cP0 _ _).drew)) ((yA F3).still ((cP0 (fun _=>False) w3).drew) (fun _ f=>f.elim))).mono ?_;rintro e w5 ⟨rfl,ρ5,h5,m5⟩
               have q5:=yA HAFT w5 ρ5 h5;have H5:=uA h5;have M5:=uA m5
               clear h5 m5))
        all_goals go_wp2
        all_goals go_ret2
        all_goals exact⟨rfl,ρ5,yA H5,yA M5⟩
end Go.Proofs.YtodfcpblcpogiaaGreat

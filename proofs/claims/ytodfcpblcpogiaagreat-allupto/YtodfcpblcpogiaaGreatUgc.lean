import Derived.Test.YtodfcpblcpogiaaGreatTl
import Derived.Test.YtodfcpblcpogiaaGreatTq
import Derived.Test.YtodfcpblcpogiaaGreatUh
namespace Go.Proofs.YtodfcpblcpogiaaGreat
open Go.RowKit
set_option maxRecDepth 100000 in
set_option maxHeartbeats 8000000 in
theorem dT {w:World}{b:Nat}{ρ:zA}{σ:Net}(h:RG w b ρ σ){d x lc:Nat}{l:List Tst}{a:Option Addr}(hd:d<4)(hx6:x<6)(hxn:x<σ.n)(hs6:σ.n≤6)(hA:σ.asked (dA d)=0)(hS:σ.still d=0)(hh:(σ.cl d).here=some x)(hu0:(σ.cl d).used 0=true)(huk:(σ.cl d).used 1=false)(hfull:σ.waiting<100)(hl:yB l=true)(ht:TestsAt w a l)(hag:-1≤(σ.cl d).age 1∧(σ.cl d).age 1<2199023255552):
    Calls Tryz.prog 86 #[.pointer (some ⟨b,0,none⟩),int d,.slice a l.length lc] w fun e w'=>e=.returned (.tuple #[int 1,int 0])∧∃ρ',RG w' b ρ' (σ.subN d x 1 l)∧Mv uB ρ ρ' w w':=by
  have h3:=yI hl;have h3i:(l.length:Int)≤3:=by omega
  have hdI:(d:Int)<4:=by omega
  have HA:=aC h d;rw[hA] at HA;have HA:=uA HA;have HSt:=eM h hd;rw[hS] at HSt;have HSt:=uA HSt;have C:=h.cl hd;have d0:=C.here;rw[hh] at d0;replace d0:w.cell? ⟨b,3+d*13,none⟩=some (int x):=d0;have u0:w.cell? ⟨b,3+d*13+2,none⟩=some (.bool true):=by have:=C.used 0 (by omega);rw[hu0] at this;exact this
  have uk:w.cell? ⟨b,3+d*13+2+1,none⟩=some (.bool false):=by have:=C.used 1 (by omega);rw[huk] at this;exact this
  obtain⟨A,hAe⟩:∃A,A=(σ.cl d).age 1:=⟨_,rfl⟩;have ag:w.cell? ⟨b,3+d*13+4+1,none⟩=some (int A):=by have:=C.age 1 (by omega);rw[←hAe] at this;exact this
  obtain⟨v6,f6,_,fa6,fn6,fc6,rfl⟩:=C.fil 1 (by omega);replace f6:w.cell? ⟨b,3+d*13+6+1,none⟩=some (.slice fa6 fn6 fc6):=f6;obtain⟨v8,t8,hr8⟩:=C.told 1 (by omega);obtain⟨ta,tc,rfl,_⟩:=uQ0 hr8;replace t8:w.cell? ⟨b,3+d*13+8+1,none⟩=some (.slice ta ((σ.cl d).told 1).length tc):=t8;obtain⟨tn,htn⟩:∃tn,tn=((σ.cl d).told 1).length:=⟨_,rfl⟩;rw[←htn] at t8;obtain⟨fra,frc,g1⟩:=h.frames;obtain⟨N,hN⟩:∃N,N=σ.waiting:=⟨_,rfl⟩;rw[←hN] at g1 hfull;have hfI:(N:Int)<100:=by omega
  rw[←hAe] at hag;obtain⟨ha0,ha1⟩:=hag;have hwA:IntKind.i64.wrap (A+1)=A+1:=by rw[IntKind.wrap_i64];omega
  have hw1:IntKind.i64.wrap (2*(d:Int))=2*(d:Int):=by rw[IntKind.wrap_i64];omega
  have hw2:IntKind.i64.wrap (2*(d:Int)+1)=2*(d:Int)+1:=by rw[IntKind.wrap_i64];omega
  have hb:b<w.heap.size:=h.lt b (by rw[h.net];simp)
  have HFZ:=uA h.fr;have HG:=uA hl;have HT:=uA ht;have HX:=uA h
  have HSUB:Hid (∀w1 v,qA w w1→w1.ownsRow w.heap.size 47 3 v l.length (l.flatMap Tst.enc)→∃ρ2,RG ((((w1.setCell ⟨b,3+d*13+2+1,none⟩ (.bool true)).setCell ⟨b,3+d*13+4+1,none⟩ (int (A+1))).setCell ⟨b,3+d*13+6+1,none⟩ v).setCell ⟨b,3+d*13+8+1,none⟩ rA) b ρ2 (σ.setCl d {σ.cl d with used:=put (σ.cl d).used 1 true,age:=put (σ.cl d).age 1 (A+1),fl:=put (σ.cl d).fl 1 l,told:=put (σ.cl d).told 1 []})∧Mv uB ρ ρ2 w ((((w1.setCell ⟨b,3+d*13+2+1,none⟩ (.bool true)).setCell ⟨b,3+d*13+4+1,none⟩ (int (A+1))).setCell ⟨b,3+d*13+6+1,none⟩ v).setCell ⟨b,3+d*13+8+1,none⟩ rA)∧FlAt ((((w1.setCell ⟨b,3+d*13+2+1,none⟩ (.bool true)).setCell ⟨b,3+d*13+4+1,none⟩ (int (A+1))).setCell ⟨b,3+d*13+6+1,none⟩ v).setCell ⟨b,3+d*13+8+1,none⟩ rA) ρ2 v l):=uA (fun w1 v t ho=>by
    obtain⟨ρ1,q1,q2,q3⟩:=fJ0 h t ho;obtain⟨r1,r2⟩:=q1.setSub hd (k:=1) (by omega) (A+1) q3
    exact⟨ρ1,r1,q2.trans (r2.mono (fun _ _=>trivial)),r2.fl q3 (by simp)⟩)
  have hτn:(σ.setCl d {σ.cl d with used:=put (σ.cl d).used 1 true,age:=put (σ.cl d).age 1 (A+1),fl:=put (σ.cl d).fl 1 l,told:=put (σ.cl d).told 1 []}).n=σ.n:=rfl;have hτw:(σ.setCl d {σ.cl d with used:=put (σ.cl d).used 1 true,age:=put (σ.cl d).age 1 (A+1),fl:=put (σ.cl d).fl 1 l,told:=put (σ.cl d).told 1 []}).waiting=N:=hN.symm;have hsubN:σ.subN d x 1 l=((σ.setCl d {σ.cl d with used:=put (σ.cl d).used 1 true,age:=put (σ.cl d).age 1 (A+1),fl:=put (σ.cl d).fl 1 l,told:=put (σ.cl d).told 1 []}).know x (2*d+1) (some ⟨A+1,l,none,[],0,false⟩)).spread x none (.sub (2*d+1) (A+1) l):=by rw[hAe];rfl
  obtain⟨τ,hτ⟩:∃τ,τ=σ.setCl d {σ.cl d with used:=put (σ.cl d).used 1 true,age:=put (σ.cl d).age 1 (A+1),fl:=put (σ.cl d).fl 1 l,told:=put (σ.cl d).told 1 []}:=⟨_,rfl⟩;rw[←hτ] at hτn hτw hsubN HSUB;have hsc:((2*d+1:Nat):Int)=2*(d:Int)+1:=by omega
  have HLRN:Hid (∀w3 ρ3 fa fc,RG w3 b ρ3 τ→Mv uB ρ ρ3 w w3→FlAt w3 ρ3 (.slice fa l.length fc) l→w3.cell? ⟨b,3+d*13+4+1,none⟩=some (int (A+1))→w3.cell? ⟨b,3+d*13,none⟩=some (int x)→Calls Tryz.prog 42 #[.pointer (some ⟨b,0,none⟩),.agg #[int x,int (2*(d:Int)+1),int (A+1),.slice fa l.length fc,int (-1),rA,int 0,.bool false]] w3 fun e w'=>e=.returned (.tuple #[])∧∃ρ4,RG w' b ρ4 (τ.know x (2*d+1) (some ⟨A+1,l,none,[],0,false⟩))∧Mv uB ρ ρ4 w w'∧FlAt w' ρ4 (.slice fa l.length fc) l∧w'.cell? ⟨b,3+d*13+4+1,none⟩=some (int (A+1))∧w'.cell? ⟨b,3+d*13,none⟩=some (int x)):=uA (fun w3 ρ3 fa fc hq hmq hf k4 k0=>by
    have hq2:FaC w3 ρ3 ⟨x,2*d+1,⟨A+1,l,none,[],0,false⟩⟩ [int x,int (2*d+1:Nat),int (A+1),.slice fa l.length fc,int (-1),rA,int 0,.bool false]:=⟨_,rA,hf,tQ0,rfl⟩;have:=eX hq hx6 (by omega) hq2;rw[hsc] at this;refine this.mono ?_;rintro r w' ⟨rfl,ρ4,q1,q2,q3⟩
    exact⟨rfl,ρ4,q1,hmq.trans (q2.mono (fun _ _=>trivial)),q2.fl hf (by simp),q3 _ _ (by omega) k4,q3 _ _ (by omega) k0⟩)
  have HSPR:Hid (∀w3 ρ3 fa fc,RG w3 b ρ3 (τ.know x (2*d+1) (some ⟨A+1,l,none,[],0,false⟩))→Mv uB ρ ρ3 w w3→FlAt w3 ρ3 (.slice fa l.length fc) l→Calls Tryz.prog 89 #[.pointer (some ⟨b,0,none⟩),.agg #[int 1,int 0,int 0,int (2*(d:Int)+1),int (A+1),.slice fa l.length fc,int 0,int 0,int 0,int 0,int 0,int 0,int 0,int 0,rA,int 0],int x,int (-1)] w3 fun e w'=>e=.returned (.tuple #[])∧∃ρ4,RG w' b ρ4 (σ.subN d x 1 l)∧Mv uB ρ ρ4 w w'):=uA (fun w3 ρ3 fa fc hq hmq hf=>by
    have hw':(τ.know x (2*d+1) (some ⟨A+1,l,none,[],0,false⟩)).waiting=N:=hτw;have hn':(τ.know x (2*d+1) (some ⟨A+1,l,none,[],0,false⟩)).n=σ.n:=hτn;have:=vG hq (by omega) (x:=x) (by omega) none (pN (s:=2*d+1) (age:=A+1) hf (int 0) (int 0) rfl rfl) (by omega);rw[hsc] at this;refine this.mono ?_;rintro r w' ⟨rfl,ρ4,q1,q2⟩
    exact⟨rfl,ρ4,by rw[hsubN];exact q1,hmq.trans (q2.mono (fun _ _=>trivial))⟩)
  have HAFT:Hid (∀w5 ρ5,RG w5 b ρ5 (σ.subN d x 1 l)→w5.cell? ⟨b,3+d*13+4+1,none⟩=some (int (A+1))∧w5.cell? ⟨b,3+d*13,none⟩=some (int x)):=uA (fun w5 ρ5 h5=>by
    have C5:=h5.cl hd;have hc5:(σ.subN d x 1 l).cl d={σ.cl d with used:=put (σ.cl d).used 1 true,age:=put (σ.cl d).age 1 (A+1),fl:=put (σ.cl d).fl 1 l,told:=put (σ.cl d).told 1 []}:=by
      rw[hsubN];have:=(rB (f:=.sub (2*d+1) (A+1) l) (x:=x) ((τ.know x (2*d+1) (some ⟨A+1,l,none,[],0,false⟩)).others x none) (τ.know x (2*d+1) (some ⟨A+1,l,none,[],0,false⟩))).2.1;show ((τ.know x (2*d+1) (some ⟨A+1,l,none,[],0,false⟩)).pushAll x _ (.sub (2*d+1) (A+1) l)).cl d=_
      rw[this,hτ];exact put_same _ _ _
    rw[hc5] at C5;have r0:=C5.here;have r4:=C5.age 1 (by omega);simp only[put_same,hh] at r0 r4
    exact⟨r4,r0⟩)
  clear h C hA hS hh hu0 huk hN hAe htn hr8 hl ht hτ hτn hτw hsubN hsc hxn hs6 hfull;obtain⟨ti,i3,z3,s3,b3⟩:=uE0;have I3:=uA i3;have Z3:=uA z3;have S3:=uA s3;have B3:=uA b3;clear i3 z3 s3 b3;go_enter Tryz.func86,Tryz.ntmps86
  go_wp2_with (go_at_call 38;refine(yA HA).mono ?_;rintro e w1 ⟨rfl,hw1⟩;have hw1:=hw1.symm;subst hw1)
  go_loopw [9] (fun p wr=>∃i:Nat,i≤l.length∧p=int i∧wr=w) (fun p _=>4-(intOf p).toNat)
  case atStart=>exact⟨0,by omega,rfl,rfl⟩
  case round=>
    obtain⟨i,hi,rfl,hw⟩:=hrel;subst hw;by_cases hlt:i<l.length
    · have hiI:(i:Int)<l.length:=by omega
      have hg:=uL (yA HG) hlt;obtain⟨e0,e1,e2⟩:=pF l i hlt;rcases yA HT with h0 | ⟨tb,o,rfl,hc⟩
      · rw[h0] at hlt;simp at hlt
      · have c0:=hc _ _ e0
        have c1:=hc _ _ e1;rw[←rP0] at c1;obtain⟨F,hF⟩:∃F,F=(sA l i).fld:=⟨_,rfl⟩;obtain⟨O,hO⟩:∃O,O=(sA l i).op:=⟨_,rfl⟩;rw[←hF] at c0;rw[←hO] at c1;simp only[Tst.good,oP0] at hg;rw[←hF,←hO] at hg;obtain⟨g0,g2,g3,g4⟩:=hg;clear e0 e1 e2 hc hF hO;go_wp2;go_roundw
        case rel=>exact⟨i+1,by omega,by go_num,trivial⟩
        case measure=>simp[intOf];omega
    · have hie:i=l.length:=by omega
      subst hie;cases a with
      | none=>
        have hl0:l=[]:=by rcases yA HT with h0 | ⟨tb,o,e,_⟩;exact h0;cases e
        subst hl0;have HO1:Hid (wr.ownsRow wr.heap.size 47 3 (.slice none 0 0) ([]:List Tst).length (([]:List Tst).flatMap Tst.enc)):=uA (jP0 _ _ _ _);have z2:=yA HFZ (3+d*13+2+1);have z4:=yA HFZ (3+d*13+4+1);have z6:=yA HFZ (3+d*13+6+1);have z8:=yA HFZ (3+d*13+8+1)
        go_wp2_with (first
          | (go_at_call 46;refine(yA HSt).mono ?_;rintro e w2 ⟨rfl,hw2⟩;have hw2:=hw2.symm;subst hw2)
          | (at_builtin;refine xH rfl _ _ 36 rfl ti Tryz.underlying36 (yA I3) (yA S3) rfl _ rfl ?_))
        obtain⟨ρ2,q1,q2,q3⟩:=yA HSUB wr (.slice none 0 0) (cP0 _ _) (yA HO1);have K4:((((wr.setCell ⟨b,3+d*13+2+1,none⟩ (.bool true)).setCell ⟨b,3+d*13+4+1,none⟩ (int (A+1))).setCell ⟨b,3+d*13+6+1,none⟩ (.slice none 0 0)).setCell ⟨b,3+d*13+8+1,none⟩ rA).cell? ⟨b,3+d*13+4+1,none⟩=some (int (A+1)):=tA _ (by omega) (tA _ (by omega) (mP0 _ _ _ (tA _ (by omega) ag)));have K0:((((wr.setCell ⟨b,3+d*13+2+1,none⟩ (.bool true)).setCell ⟨b,3+d*13+4+1,none⟩ (int (A+1))).setCell ⟨b,3+d*13+6+1,none⟩ (.slice none 0 0)).setCell ⟨b,3+d*13+8+1,none⟩ rA).cell? ⟨b,3+d*13,none⟩=some (int x):=tA _ (by omega) (tA _ (by omega) (tA _ (by omega) (tA _ (by omega) d0)));have HQ1:=uA q1;have HQ2:=uA q2;have HQ3:=uA q3;clear q1 q2 q3 HT HG HSUB;go_wp2;go_region
        all_goals go_wp2
        all_goals go_region_held3 (fun w'=>w'.cell? ⟨b,3+d*13+4+1,none⟩=some (int (A+1))∧w'.cell? ⟨b,3+d*13,none⟩=some (int x))
          (first
            | exact⟨K4,K0⟩
            | exact q4
            | go_keep)
          (first
            | (go_at_call 42;refine(yA HLRN _ ρ2 none 0 ((yA HQ1).calm (((cP0 (fun _=>False) _).drew).drew)) ((yA HQ2).trans (zQ0 (yA HQ1).lt (((cP0 (fun _=>False) _).drew).drew))) ((yA HQ3).still (((cP0 (fun _=>False) _).drew).drew) (fun _ f=>f.elim)) K4 K0).mono ?_;rintro e w3 ⟨rfl,ρ3,h3',m3',f3',q4⟩
               have H3:=uA h3';have M3:=uA m3';have F3:=uA f3'
               clear h3' m3' f3'))
        all_goals go_wp2
        all_goals go_region_held3 (fun w'=>w'.cell? ⟨b,3+d*13+4+1,none⟩=some (int (A+1))∧w'.cell? ⟨b,3+d*13,none⟩=some (int x))
          (first
            | exact q4
            | exact q5
            | go_keep)
          (first
            | (go_at_call 89;refine(yA HSPR w3.drew ρ3 none 0 ((yA H3).calm (cP0 _ _).drew) ((yA M3).trans (zQ0 (yA H3).lt (cP0 _ _).drew)) ((yA F3).still ((cP0 (fun _=>False) w3).drew) (fun _ f=>f.elim))).mono ?_;rintro e w5 ⟨rfl,ρ5,h5,m5⟩
               have q5:=yA HAFT w5 ρ5 h5;have H5:=uA h5;have M5:=uA m5
               clear h5 m5))
        all_goals go_wp2
        all_goals go_ret2
        all_goals exact⟨rfl,ρ5,yA H5,yA M5⟩
      | some ad=>
        have HNEW:Hid (∀j u,(l.flatMap Tst.enc)[j]?=some u→wr.cell? (ad.add j)=some u):=uA (fun j u hj=>by
          rcases yA HT with h0 | ⟨tb,o,e,hc⟩
          · rw[h0] at hj;cases hj
          · cases e
            rw[gP0]
            exact hc j u hj)
        have HLN:Hid ((l.flatMap Tst.enc).length=l.length*3):=uA (pP l)
        go_wp2_with (first
          | (go_at_call 46;refine(yA HSt).mono ?_;rintro e w2 ⟨rfl,hw2⟩;have hw2:=hw2.symm;subst hw2)
          | (at_builtin;refine wpList_append_own _ rfl _ _ 36 rfl wr.heap.size 47 ti (.agg #[int 0,int 0,int 0]) 3 24 Tryz.underlying36 (yA I3) (yA Z3) (yA S3) (yA B3) rfl (by decide) (.slice none 0 0) 0 [] rfl (jP0 _ _ _ _) ad l.length _ (l.flatMap Tst.enc) rfl ?hl ?news ?one ?h63 ?bytes ?base ?_))
        case hl=>exact yA HLN
        case news=>exact yA HNEW
        case one=>exact mW l
        case h63=>unfold maxLen;omega
        case bytes=>omega
        case base=>exact qO0 _
        intro v1 w1 o1 gr1 i1;obtain⟨a1,c1,rfl⟩:∃a c,v1=.slice a l.length c:=by
          rcases o1.2 with⟨e,e0⟩ | ⟨g',cp',cur,e,_⟩
          · exact⟨none,0,by rw[e,e0]⟩
          · exact⟨_,_,e⟩
        have t1:qA wr w1:=⟨gr1.os,gr1.tape,gr1.output,gr1.size,fun k hk _=>gr1.block k hk (by simp[Value.ownBlock])⟩;have e0:=t1.cell (p:=⟨b,3+d*13,none⟩) id d0;have e2:=t1.cell (p:=⟨b,3+d*13+2+1,none⟩) id uk;have e4:=t1.cell (p:=⟨b,3+d*13+4+1,none⟩) id ag;have e6:=t1.cell (p:=⟨b,3+d*13+6+1,none⟩) id f6;have e8:=t1.cell (p:=⟨b,3+d*13+8+1,none⟩) id t8;have hfz:∀o,w1.frozen? ⟨b,o,none⟩=false:=fun o=>(nP0 (w:=wr) (a:=⟨b,o,none⟩) (t1.block b hb id)).trans (yA HFZ o);have z2:=hfz (3+d*13+2+1);have z4:=hfz (3+d*13+4+1);have z6:=hfz (3+d*13+6+1);have z8:=hfz (3+d*13+8+1);obtain⟨ρ2,q1,q2,q3⟩:=yA HSUB w1 _ t1 o1;have K4:((((w1.setCell ⟨b,3+d*13+2+1,none⟩ (.bool true)).setCell ⟨b,3+d*13+4+1,none⟩ (int (A+1))).setCell ⟨b,3+d*13+6+1,none⟩ (.slice a1 l.length c1)).setCell ⟨b,3+d*13+8+1,none⟩ rA).cell? ⟨b,3+d*13+4+1,none⟩=some (int (A+1)):=tA _ (by omega) (tA _ (by omega) (mP0 _ _ _ (tA _ (by omega) e4)));have K0:((((w1.setCell ⟨b,3+d*13+2+1,none⟩ (.bool true)).setCell ⟨b,3+d*13+4+1,none⟩ (int (A+1))).setCell ⟨b,3+d*13+6+1,none⟩ (.slice a1 l.length c1)).setCell ⟨b,3+d*13+8+1,none⟩ rA).cell? ⟨b,3+d*13,none⟩=some (int x):=tA _ (by omega) (tA _ (by omega) (tA _ (by omega) (tA _ (by omega) e0)));have HQ1:=uA q1;have HQ2:=uA q2;have HQ3:=uA q3;clear o1 gr1 i1 t1 hfz q1 q2 q3 HT HG HSUB HNEW HLN d0 u0 uk ag f6 t8;go_wp2;go_region
        all_goals go_wp2
        all_goals go_region_held3 (fun w'=>w'.cell? ⟨b,3+d*13+4+1,none⟩=some (int (A+1))∧w'.cell? ⟨b,3+d*13,none⟩=some (int x))
          (first
            | exact⟨K4,K0⟩
            | exact q4
            | go_keep)
          (first
            | (go_at_call 42;refine(yA HLRN _ ρ2 a1 c1 ((yA HQ1).calm (((cP0 (fun _=>False) _).drew).drew)) ((yA HQ2).trans (zQ0 (yA HQ1).lt (((cP0 (fun _=>False) _).drew).drew))) ((yA HQ3).still (((cP0 (fun _=>False) _).drew).drew) (fun _ f=>f.elim)) K4 K0).mono ?_;rintro e w3 ⟨rfl,ρ3,h3',m3',f3',q4⟩
               have H3:=uA h3';have M3:=uA m3';have F3:=uA f3'
               clear h3' m3' f3'))
        all_goals go_wp2
        all_goals go_region_held3 (fun w'=>w'.cell? ⟨b,3+d*13+4+1,none⟩=some (int (A+1))∧w'.cell? ⟨b,3+d*13,none⟩=some (int x))
          (first
            | exact q4
            | exact q5
            | go_keep)
          (first
            | (go_at_call 89;refine(yA HSPR w3.drew ρ3 a1 c1 ((yA H3).calm (cP0 _ _).drew) ((yA M3).trans (zQ0 (yA H3).lt (cP0 _ _).drew)) ((yA F3).still ((cP0 (fun _=>False) w3).drew) (fun _ f=>f.elim))).mono ?_;rintro e w5 ⟨rfl,ρ5,h5,m5⟩
               have q5:=yA HAFT w5 ρ5 h5;have H5:=uA h5;have M5:=uA m5
               clear h5 m5))
        all_goals go_wp2
        all_goals go_ret2
        all_goals exact⟨rfl,ρ5,yA H5,yA M5⟩
section
variable {w : World} {b : Nat} {ρ : Nat → Option Role} {σ : Net}
set_option maxRecDepth 100000 in
set_option maxHeartbeats 1000000 in
theorem rJ (h:RG w b ρ σ)(c:Int)(v:Value)(hA:σ.asked (dA c)≠0):
  Calls Tryz.prog 86 #[.pointer (some ⟨b,0,none⟩),int c,v] w fun e w'=>e=.returned (.tuple #[int 0,int (σ.asked (dA c))])∧w'=w:=by
 have HA:=uA (aC h c);obtain⟨E,hEE⟩:∃E,E=σ.asked (dA c):=⟨_,rfl⟩;rw[←hEE] at HA hA ⊢;have hE1:(E == 0)=false:=by rw[vB];exact pP0 hA
 clear h hA hEE;go_enter Tryz.func86,Tryz.ntmps86
 go_wp2_with (go_at_call 38;refine(yA HA).mono ?_;rintro e w1 ⟨rfl,hw1⟩;have hw1:=hw1.symm;subst hw1)
 go_ret2;exact⟨rfl,rfl⟩
set_option maxRecDepth 100000 in
set_option maxHeartbeats 1000000 in
theorem rR (h:RG w b ρ σ)(c:Int)(a:Option Addr)(n lc:Nat)(hA:σ.asked (dA c)=0)(hn:3<n):
  Calls Tryz.prog 86 #[.pointer (some ⟨b,0,none⟩),int c,.slice a n lc] w fun e w'=>e=.returned (.tuple #[int 0,int 1])∧w'=w:=by
 have HA:=aC h c;rw[hA] at HA;have HA:=uA HA;have h3i:(3:Int)<n:=by omega
 clear h hA hn;go_enter Tryz.func86,Tryz.ntmps86
 go_wp2_with (go_at_call 38;refine(yA HA).mono ?_;rintro e w1 ⟨rfl,hw1⟩;have hw1:=hw1.symm;subst hw1)
 go_ret2;exact⟨rfl,rfl⟩
set_option maxRecDepth 100000 in
set_option maxHeartbeats 4000000 in
theorem zU (h:RG w b ρ σ)(c:Int){a:Option Addr}{l:List Tst}(lc:Nat)(hA:σ.asked (dA c)=0)(h3:l.length≤3)(hl:yB l=false)(ht:TestsAt w a l):
  Calls Tryz.prog 86 #[.pointer (some ⟨b,0,none⟩),int c,.slice a l.length lc] w fun e w'=>e=.returned (.tuple #[int 0,int 1])∧w'=w:=by
 have HA:=aC h c;rw[hA] at HA;have HA:=uA HA;have h3i:(l.length:Int)≤3:=by omega
 have HG:=uA (aW hl h3);have HT:=uA ht;clear h hA hl ht;go_enter Tryz.func86,Tryz.ntmps86
 go_wp2_with (go_at_call 38;refine(yA HA).mono ?_;rintro e w1 ⟨rfl,hw1⟩;have hw1:=hw1.symm;subst hw1)
 go_loopw [9] (fun p wr=>∃i:Nat,i≤l.length∧p=int i∧wr=w∧Hid (∀j,j<i→(sA l j).good=true)) (fun p _=>4-(intOf p).toNat)
 case atStart=>exact⟨0,by omega,rfl,rfl,uA (fun j hj=>by omega)⟩
 case round=>
  obtain⟨i,hi,rfl,hw,HB⟩:=hrel;subst hw;by_cases hlt:i<l.length
  ·have hiI:(i:Int)<l.length:=by omega
   obtain⟨e0,e1,e2⟩:=pF l i hlt;rcases yA HT with h0 | ⟨tb,o,rfl,hc⟩
   ·rw[h0] at hlt;simp at hlt
   ·have c0:=hc _ _ e0;have c1:=hc _ _ e1;rw[←rP0] at c1;obtain⟨F,hF⟩:∃F,F=(sA l i).fld:=⟨_,rfl⟩;obtain⟨O,hO⟩:∃O,O=(sA l i).op:=⟨_,rfl⟩;rw[←hF] at c0;rw[←hO] at c1;clear e0 e1 e2 hc;by_cases g0:F<0
    ·go_wp2;go_ret2
     exact⟨rfl,rfl⟩
    ·by_cases g1:2<F
     ·go_wp2;go_ret2
      exact⟨rfl,rfl⟩
     ·by_cases g2:O<1
      ·go_wp2;go_ret2
       exact⟨rfl,rfl⟩
      ·by_cases g3:4<O
       ·go_wp2;go_ret2
        exact⟨rfl,rfl⟩
       ·have hgood:Hid ((sA l i).good=true):=uA (by
         simp only[Tst.good,oP0];rw[←hF,←hO]
         omega)
        clear hF hO;go_wp2;go_roundw
        case rel=>
         refine⟨i+1,by omega,by go_num,trivial,uA (fun j hj=>?_)⟩;by_cases e:j=i
         ·subst e;exact yA hgood
         ·exact yA HB j (by omega)
        case measure=>simp[intOf];omega
  ·have hie:i=l.length:=by omega
   exfalso;have:=bB0 (fun j hj=>yA HB j (by omega));rw[yA HG] at this;cases this
end
section
variable {w : World} {b : Nat} {ρ : Nat → Option Role} {σ : Net}
set_option maxRecDepth 100000 in
set_option maxHeartbeats 4000000 in
theorem nH (h:RG w b ρ σ){d lc:Nat}{l:List Tst}{a:Option Addr}(hd:d<4)(hA:σ.asked (dA d)=0)(hl:yB l=true)(ht:TestsAt w a l)(hE:σ.still d≠0∨(σ.still d=0∧(σ.cl d).used (σ.slot d)=true)∨(σ.still d=0∧(σ.cl d).used (σ.slot d)=false∧100≤σ.waiting)):
  Calls Tryz.prog 86 #[.pointer (some ⟨b,0,none⟩),int d,.slice a l.length lc] w fun e w'=>e=.returned (.tuple #[int 0,int (if σ.still d≠0 then σ.still d else if (σ.cl d).used (σ.slot d) then 7 else 6)])∧w'=w:=by
 have h3:=yI hl;have h3i:(l.length:Int)≤3:=by omega
 have hdI:(d:Int)<4:=by omega
 have HA:=aC h d;rw[hA] at HA;have HA:=uA HA;have HSt:=uA (eM h hd);have C:=h.cl hd;have u0:w.cell? ⟨b,3+d*13+2,none⟩=some (.bool ((σ.cl d).used 0)):=C.used 0 (by omega);have u1:w.cell? ⟨b,3+d*13+2+1,none⟩=some (.bool ((σ.cl d).used 1)):=C.used 1 (by omega);obtain⟨fra,frc,g1⟩:=h.frames;obtain⟨N,hN⟩:∃N,N=σ.waiting:=⟨_,rfl⟩;rw[←hN] at g1 hE;have hsl:σ.slot d=if (σ.cl d).used 0 then 1 else 0:=rfl;obtain⟨S,hS⟩:∃S,S=σ.still d:=⟨_,rfl⟩;rw[←hS] at HSt hE ⊢;rw[hsl] at hE ⊢;obtain⟨U0,hU0⟩:∃U,U=(σ.cl d).used 0:=⟨_,rfl⟩;obtain⟨U1,hU1⟩:∃U,U=(σ.cl d).used 1:=⟨_,rfl⟩
 have HE:Hid ((S≠0∧(if S≠0 then S else if (σ.cl d).used (if (σ.cl d).used 0 then 1 else 0) then 7 else 6)=S)∨(S=0∧U0=true∧U1=true∧(if S≠0 then S else if (σ.cl d).used (if (σ.cl d).used 0 then 1 else 0) then 7 else 6)=7)∨(S=0∧U0=true∧U1=false∧100≤N∧(if S≠0 then S else if (σ.cl d).used (if (σ.cl d).used 0 then 1 else 0) then 7 else 6)=6)∨(S=0∧U0=false∧100≤N∧(if S≠0 then S else if (σ.cl d).used (if (σ.cl d).used 0 then 1 else 0) then 7 else 6)=6)):=uA (by
  rcases hE with hE | ⟨hE,hu⟩ | ⟨hE,hu,hn⟩
  ·exact Or.inl ⟨hE,by rw[if_pos hE]⟩
  ·refine Or.inr (Or.inl ⟨hE,?_⟩);rw[if_neg (fun x=>x hE),if_pos hu];rw[←hU0] at hu;cases hq:U0 with
   | false=>rw[hq] at hu;simp only[Bool.false_eq_true,if_false,←hU0] at hu;rw[hq] at hu;cases hu
   | true=>rw[hq] at hu;simp only[if_true,←hU1] at hu;exact⟨rfl,hu,rfl⟩
  ·right;right
   rw[if_neg (fun x=>x hE),if_neg (by rw[hu];simp)]
   rw[←hU0] at hu;cases hq:U0 with
   | false=>exact Or.inr ⟨hE,rfl,hn,rfl⟩
   | true=>rw[hq] at hu;simp only[if_true,←hU1] at hu;exact Or.inl ⟨hE,rfl,hu,hn,rfl⟩)
 rw[←hU0] at u0;rw[←hU1] at u1;generalize (if S≠0 then S else if (σ.cl d).used (if (σ.cl d).used 0 then 1 else 0) then 7 else 6)=E at*;have HG:=uA hl;have HT:=uA ht;clear h C hA hE hN hS hU0 hU1 hl ht hsl;go_enter Tryz.func86,Tryz.ntmps86
 go_wp2_with (go_at_call 38;refine(yA HA).mono ?_;rintro e w1 ⟨rfl,hw1⟩;have hw1:=hw1.symm;subst hw1)
 go_loopw [9] (fun p wr=>∃i:Nat,i≤l.length∧p=int i∧wr=w) (fun p _=>4-(intOf p).toNat)
 case atStart=>exact⟨0,by omega,rfl,rfl⟩
 case round=>
  obtain⟨i,hi,rfl,hw⟩:=hrel;subst hw;by_cases hlt:i<l.length
  ·have hiI:(i:Int)<l.length:=by omega
   have hg:=uL (yA HG) hlt;obtain⟨e0,e1,e2⟩:=pF l i hlt;rcases yA HT with h0 | ⟨tb,o,rfl,hc⟩
   ·rw[h0] at hlt;simp at hlt
   ·have c0:=hc _ _ e0;have c1:=hc _ _ e1;rw[←rP0] at c1;obtain⟨F,hF⟩:∃F,F=(sA l i).fld:=⟨_,rfl⟩;obtain⟨O,hO⟩:∃O,O=(sA l i).op:=⟨_,rfl⟩;rw[←hF] at c0;rw[←hO] at c1;simp only[Tst.good,oP0] at hg;rw[←hF,←hO] at hg;obtain⟨g0,g2,g3,g4⟩:=hg;clear e0 e1 e2 hc hF hO;go_wp2;go_roundw
    case rel=>exact⟨i+1,by omega,by go_num,trivial⟩
    case measure=>simp[intOf];omega
  ·have hie:i=l.length:=by omega
   subst hie;rcases yA HE with⟨hS,rfl⟩ | ⟨rfl,rfl,rfl,rfl⟩ | ⟨rfl,rfl,rfl,hn,rfl⟩ | ⟨rfl,rfl,hn,rfl⟩
   ·have hS1:(E == 0)=false:=by rw[vB];exact pP0 hS
    clear hS HE;go_wp2_with (go_at_call 46;refine(yA HSt).mono ?_;rintro e w2 ⟨rfl,hw2⟩;have hw2:=hw2.symm;subst hw2);go_ret2;exact⟨rfl,rfl⟩
   ·clear HE;go_wp2_with (go_at_call 46;refine(yA HSt).mono ?_;rintro e w2 ⟨rfl,hw2⟩;have hw2:=hw2.symm;subst hw2);go_ret2;exact⟨rfl,rfl⟩
   ·have hnI:(100:Int)≤N:=by omega
    clear HE;go_wp2_with (go_at_call 46;refine(yA HSt).mono ?_;rintro e w2 ⟨rfl,hw2⟩;have hw2:=hw2.symm;subst hw2);go_ret2;exact⟨rfl,rfl⟩
   ·have hnI:(100:Int)≤N:=by omega
    clear HE;go_wp2_with (go_at_call 46;refine(yA HSt).mono ?_;rintro e w2 ⟨rfl,hw2⟩;have hw2:=hw2.symm;subst hw2);go_ret2;exact⟨rfl,rfl⟩
theorem iC0 {d:Nat}(h:σ.still d=0):∃x,(σ.cl d).here=some x:=by
 unfold Net.still at h;cases hh:(σ.cl d).here with
 | none=>rw[hh] at h;simp at h
 | some x=>exact⟨x,rfl⟩
theorem jC0 (h:RG w b ρ σ){m:Nat}(F:Fit σ m)(hm:m<2000000000000)(c:Int){l:List Tst}{a:Option Addr}(ht:TestsAt w a l)(lc:Nat):
  Calls Tryz.prog 86 #[.pointer (some ⟨b,0,none⟩),int c,.slice a l.length lc] w fun e w'=>e=.returned (.tuple #[int (if σ.subE c l=0 then (σ.slot c.toNat:Nat) else 0),int (σ.subE c l)])∧∃ρ',RG w' b ρ' (σ.sub c l)∧Mv uB ρ ρ' w w':=by
 have no:∀E:Int,σ.subE c l=E→E≠0→Calls Tryz.prog 86 #[.pointer (some ⟨b,0,none⟩),int c,.slice a l.length lc] w (fun e w'=>e=.returned (.tuple #[int 0,int E])∧w'=w)→Calls Tryz.prog 86 #[.pointer (some ⟨b,0,none⟩),int c,.slice a l.length lc] w fun e w'=>e=.returned (.tuple #[int (if σ.subE c l=0 then (σ.slot c.toNat:Nat) else 0),int (σ.subE c l)])∧∃ρ',RG w' b ρ' (σ.sub c l)∧Mv uB ρ ρ' w w':=fun E hE hne hc=>by
  refine hc.mono ?_;rintro e w' ⟨rfl,rfl⟩
  have hs:σ.sub c l=σ:=by unfold Net.sub;rw[if_neg (by rw[hE];exact hne)]
  rw[hs,hE,if_neg hne];exact⟨rfl,ρ,h,aP0 h.lt⟩
 by_cases hA:σ.asked (dA c)=0
 ·obtain⟨d,hd,rfl⟩:=uE hA;rw[iO0] at*;have hop:σ.closed=false:=by
   unfold Net.asked at hA;cases hcl:σ.closed with
   | false=>rfl
   | true=>rw[hcl] at hA;simp at hA
  have hcc:dA (d:Int)=true:=jC hd;cases hl:yB l with
  | false=>
   have hE:σ.subE d l=1:=by simp[Net.subE,Net.asked,hop,hl,hcc]
   refine no 1 hE (by decide) ?_;by_cases h3:l.length≤3
   ·exact zU h d lc hA h3 hl ht
   ·exact rR h d a l.length lc hA (by omega)
  | true=>
   have hask:σ.asked (dA (d:Int) && yB l)=0:=by rw[hl,Bool.and_true];exact hA
   have hEE:σ.subE d l=if σ.still d≠0 then σ.still d else if (σ.cl d).used (σ.slot d) then 7 else if σ.full then 6 else 0:=by
    unfold Net.subE;rw[hask,iO0];simp
   by_cases hS:σ.still d=0
   ·cases hu:(σ.cl d).used (σ.slot d) with
    | true=>
     have hE:σ.subE d l=7:=by rw[hEE,if_neg (fun x=>x hS),hu];simp
     refine no 7 hE (by decide) ?_;have:=nH (lc:=lc) h hd hA hl ht (Or.inr (Or.inl ⟨hS,hu⟩));rw[if_neg (fun x=>x hS),if_pos hu] at this;exact this
    | false=>
     by_cases hf:100≤σ.waiting
     ·have hful:σ.full=true:=decide_eq_true hf;have hE:σ.subE d l=6:=by rw[hEE,if_neg (fun x=>x hS),hu,hful];simp
      refine no 6 hE (by decide) ?_;have:=nH (lc:=lc) h hd hA hl ht (Or.inr (Or.inr ⟨hS,hu,hf⟩));rw[if_neg (fun x=>x hS),if_neg (by rw[hu];simp)] at this
      exact this
     ·have hful:σ.full=false:=pP0 hf;have hE:σ.subE d l=0:=by rw[hEE,if_neg (fun x=>x hS),hu,hful];simp
      obtain⟨x,hh⟩:=iC0 hS;have T:=F.good.tree;have hxn:x<σ.n:=(F.good.clis d hd).here x hh;have hs6:σ.n≤6:=gB T;have hsub:σ.sub d l=σ.subN d x (σ.slot d) l:=by
       unfold Net.sub;rw[if_pos hE,iO0,hh]
      have hag:∀k,k<2→-1≤(σ.cl d).age k∧(σ.cl d).age k<2199023255552:=fun k hk=>by have:=(F.r.nums.cl d).age k;omega
      rw[hE,if_pos rfl,hsub];cases hu0:(σ.cl d).used 0 with
      | false=>
       have hsl:σ.slot d=0:=by simp[Net.slot,hu0]
       rw[hsl];exact bT h hd (by omega) hxn hs6 hA hS hh hu0 hu0 (by omega) hl ht (hag 0 (by decide))
      | true=>
       have hsl:σ.slot d=1:=by simp[Net.slot,hu0]
       rw[hsl] at hu ⊢;exact dT h hd (by omega) hxn hs6 hA hS hh hu0 hu (by omega) hl ht (hag 1 (by decide))
   ·have hE:σ.subE d l=σ.still d:=by rw[hEE,if_pos hS]
    refine no _ hE hS ?_;have:=nH (lc:=lc) h hd hA hl ht (Or.inl hS);rw[if_pos hS] at this;exact this
 ·have hE:σ.subE c l=σ.asked (dA c):=by
   unfold Net.subE;have:σ.asked (dA c && yB l)=σ.asked (dA c):=by
    unfold Net.asked at hA ⊢;cases hcl:σ.closed with
    | true=>rfl
    | false=>
     cases hcc:dA c with
     | false=>rfl
     | true=>rw[hcl,hcc] at hA;simp at hA
   rw[this,if_pos hA]
  exact no _ hE hA (rJ h c _ hA)
end
section
variable {B : Nat} {kp : Nat → Prop} {wk w0 w : World} {bw : Nat} {nets : List Tw} {p : Nat}
theorem kZ (h:St B kp wk w0 bw nets p w){i:Nat}{t:Tw}(hi:nets[i]?=some t)(hp:p≤1000000000)(c:Int){l:List Tst}{a:Option Addr}(ht:TestsAt w a l)(cap:Nat):
  Calls Tryz.prog 85 #[.pointer (some ⟨t.bx,0,none⟩),int c,.slice a l.length cap] w fun e w'=>e=.returned (.tuple #[int (if t.σ.subE c l=0 then (t.σ.slot c.toNat:Nat) else 0),int (t.σ.subE c l)])∧St B kp wk w0 bw (nets.set i {t with σ:=t.σ.sub c l}) (p+1) w':=
 h.x hi (fun ρ hc F X=>lC0 X F (by omega) c ht cap) (fun F=>F.sub c l) (fun hc X=>by
  obtain⟨e1,e2⟩:=nR hc c l;rw[e1,e2,if_neg (by decide)]
  exact⟨lZ X c ht cap,rfl⟩)
theorem jZ (h:St B kp wk w0 bw nets p w){i:Nat}{t:Tw}(hi:nets[i]?=some t)(hp:p≤1000000000)(c:Int){l:List Tst}{a:Option Addr}(ht:TestsAt w a l)(cap:Nat):
  Calls Tryz.prog 86 #[.pointer (some ⟨t.br,0,none⟩),int c,.slice a l.length cap] w fun e w'=>e=.returned (.tuple #[int (if t.τ.subE c l=0 then (t.τ.slot c.toNat:Nat) else 0),int (t.τ.subE c l)])∧St B kp wk w0 bw (nets.set i {t with τ:=t.τ.sub c l}) (p+1) w':=by
 refine h.r hi (fun ρ HF R=>?_) (fun HF hc=>?_)
 ·cases hc:t.τ.closed with
  | false=>
   have F:=HF hc;exact jC0 R F (by omega) c ht cap
  | true=>
   obtain⟨e1,e2⟩:=nR hc c l;rw[e1,e2,if_neg (by decide)];refine(rJ R c _ (dY hc _)).mono ?_;rintro e w' ⟨rfl,q⟩
   exact⟨by rw[uC hc],ρ,by rw[q];exact R,by rw[q];exact aP0 R.lt⟩
 ·cases h2:t.τ.closed with
  | false=>exact(HF h2).sub c l
  | true=>
   have hc2:=h2;obtain⟨e1,e2⟩:=nR h2 c l;rw[e2] at hc;rw[hc] at hc2;cases hc2
end
end Go.Proofs.YtodfcpblcpogiaaGreat

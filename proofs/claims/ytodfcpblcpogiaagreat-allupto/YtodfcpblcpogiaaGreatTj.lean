import Derived.Test.YtodfcpblcpogiaaGreatTh
import Derived.Test.YtodfcpblcpogiaaGreatSva
namespace Go.Proofs.YtodfcpblcpogiaaGreat
open Go.RowKit
set_option maxRecDepth 100000 in
set_option maxHeartbeats 8000000 in
theorem eB0 {w:World}{b:Nat}{ρ:zA}{σ:Net}(h:RG w b ρ σ){d x old:Nat}(T:Tree σ.par)(hd:d<4)(hx6:x<6)(hxn:x<σ.n)(hon:old<σ.n)(hne:x≠old)(hA:σ.asked (dA d)=0)(hh:(σ.cl d).here=none){H:Int}(hm:whr (σ.cl d).home=H)(hH:H≠x)(hHo:∀k,k<2→(σ.cl d).used k=true→H=(old:Int))(hfull:σ.waiting<100)(hlen:∀a y,(σ.q a y).length<2000)
    (hst:0≤(σ.cl d).stays∧(σ.cl d).stays<2199023255552) (hag:∀k,-1≤(σ.cl d).age k∧(σ.cl d).age k<2199023255552):
    Calls Tryz.prog 15 #[.pointer (some ⟨b,0,none⟩),int d,int x] w fun e w'=>e=.returned (int 0)∧∃ρ',RG w' b ρ' ((sC σ d x old 2).arrive d x)∧Mv uB ρ ρ' w w':=by
  have hs6:σ.n≤6:=gB T;have hdI:(d:Int)<4:=by omega
  have HA:=aC h d;rw[hA] at HA;have HA:=uA HA;obtain⟨pb,po,pcap,p0,_⟩:=h.parsAt;obtain⟨n,hn⟩:∃n,n=size σ.par:=⟨_,rfl⟩;rw[←hn] at p0;have hxI:(x:Int)<n:=by have:σ.n=size σ.par:=rfl;omega
  have hnx:¬n≤x:=by omega
  have C:=h.cl hd;have d0:=C.here;rw[hh] at d0;replace d0:w.cell? ⟨b,3+d*13,none⟩=some (int (-1)):=d0;obtain⟨a,cap,g1⟩:=h.frames;obtain⟨N,hN⟩:∃N,N=σ.waiting:=⟨_,rfl⟩;rw[←hN] at g1 hfull;have hfI:(N:Int)<100:=by omega
  have hHx:(H == (x:Int))=false:=by rw[vB];exact pP0 hH
  have HOK:=uA (fun k=>pT σ d x old k);have H0:Hid (RG w b ρ (sC σ d x old 0)∧Mv uB ρ ρ w w):=uA ⟨h,aP0 h.lt⟩;obtain⟨S,hS⟩:∃S,S=(σ.cl d).stays:=⟨_,rfl⟩;have HS:=uA hS;have HCD:=uA (And.intro hh hm);obtain⟨US,hUS⟩:∃US,US=(σ.cl d).used:=⟨_,rfl⟩;have HUS:=uA hUS;have HHO:=uA hHo;rw[←hS] at hst;obtain⟨hst0,hst1⟩:=hst;have HAG:=uA hag;have HLEN:=uA hlen;have hnxt:=cB T hxn hon hne;have HNX6:Hid (tB σ.par x old<6):=uA (sO0 hnxt.2.1 hs6)
  have HTW:Hid (∀w3 ρ3 τ,RG w3 b ρ3 τ→τ.par=σ.par→Calls Tryz.prog 44 #[.pointer (some ⟨b,0,none⟩),int x,int old] w3 fun e w'=>e=.returned (int (tB σ.par x old))∧qA w3 w'):=uA (fun w3 ρ3 τ hq hp=>by
    have:=hq.parsAt;rw[hp] at this
    exact rI b σ.par T x old hxn hon hne w3 this)
  clear h C hA hN hn hh hm hS hUS hHo hag hlen hnxt hH;go_enter Tryz.func15,Tryz.ntmps15
  go_wp2_with (go_at_call 38;refine(yA HA).mono ?_;rintro e w1 ⟨rfl,hw1⟩;have hw1:=hw1.symm;subst hw1)
  go_loopw [9] (fun p wr=>∃k:Nat,k≤2∧p=int k∧∃ρ',RG wr b ρ' (sC σ d x old k)∧Mv uB ρ ρ' w wr) (fun p _=>2-(intOf p).toNat)
  case atStart=>exact⟨0,by omega,rfl,ρ,(yA H0).1,(yA H0).2⟩
  case round=>
    clear p0 d0 g1 H0;obtain⟨k,hk,rfl,ρ1,hR,hM⟩:=hrel;have SM:=yA HOK k;have C:=hR.cl hd;have hho:=C.home;rw[SM.home,(yA HCD).2] at hho;by_cases hk2:k<2
    · have hkI:(k:Int)<2:=by omega
      have hw1:IntKind.i64.wrap (2*(d:Int))=2*(d:Int):=by rw[IntKind.wrap_i64];omega
      have hw2:IntKind.i64.wrap (2*(d:Int)+k)=2*(d:Int)+k:=by rw[IntKind.wrap_i64];omega
      have hus:=C.used k hk2;rw[SM.used,←yA HUS] at hus;cases hu:US k with
      | false=>
        rw[hu] at hus
        have HN:Hid (RG wr b ρ1 (sC σ d x old (k+1))∧Mv uB ρ ρ1 w wr):=uA ⟨by
          show RG wr b ρ1 ((sC σ d x old k).comes d x old k)
          unfold Net.comes;simp only;rw[if_neg (by rw[SM.used,←yA HUS,hu];simp)]
          exact hR,hM⟩
        clear hR hM SM C hu;go_wp2;go_roundw
        case rel=>exact⟨k+1,by omega,by go_num,ρ1,(yA HN).1,(yA HN).2⟩
        case measure=>simp[intOf];omega
      | true=>
        rw[hu] at hus;have hHe:H=(old:Int):=yA HHO k hk2 (by rw[←yA HUS];exact hu);subst hHe;have hage:=C.age k hk2;rw[SM.age k (qO0 _)] at hage;obtain⟨A,hAe⟩:∃A,A=(σ.cl d).age k:=⟨_,rfl⟩;rw[←hAe] at hage;have hab:=yA HAG k;rw[←hAe] at hab;obtain⟨ha0,ha1⟩:=hab;have hwA:IntKind.i64.wrap (A+1)=A+1:=by rw[IntKind.wrap_i64];omega
        obtain⟨fv,hfc,hfl,fa,fn,fc,rfl⟩:=C.fil k hk2;have hfl:=hfl (by rw[SM.used,←yA HUS];exact hu);have hsc:((2*d+k:Nat):Int)=2*(d:Int)+k:=by omega
        have hfz:=hR.fr (3+d*13+4+k);have hR1:=hR.setAge hd hk2 (A+1);have hM1:=hR.poke_mv (o:=3+d*13+4+k) (int (A+1));obtain⟨W1,hW1⟩:∃W1,wr.setCell ⟨b,3+d*13+4+k,none⟩ (int (A+1))=W1:=⟨_,rfl⟩;have hfl1:=hM1.fl hfl (by simp);rw[hW1] at hR1 hM1 hfl1;have k4:W1.cell? ⟨b,3+d*13+4+k,none⟩=some (int (A+1)):=by rw[←hW1];exact mP0 wr _ _ hage
        have k6:W1.cell? ⟨b,3+d*13+6+k,none⟩=some (.slice fa fn fc):=by rw[←hW1];exact tA wr (by omega) hfc
        have k1:W1.cell? ⟨b,3+d*13+1,none⟩=some (int old):=by rw[←hW1];exact tA wr (by omega) hho
        obtain⟨τ,hτ⟩:∃τ,τ=sC σ d x old k:=⟨_,rfl⟩;rw[←hτ] at hR1 hfl1;obtain⟨τ1,hτ1⟩:∃τ1,τ1=τ.setCl d {τ.cl d with age:=put (τ.cl d).age k (A+1)}:=⟨_,rfl⟩;rw[←hτ1] at hR1
        have HLRN:Hid (∀w3,qA W1 w3→Calls Tryz.prog 42 #[.pointer (some ⟨b,0,none⟩),.agg #[int x,int (2*(d:Int)+k),int (A+1),.slice fa fn fc,int (-1),rA,int 0,.bool true]] w3 fun e w'=>e=.returned (.tuple #[])∧∃ρ3,RG w' b ρ3 (τ1.know x (2*d+k) (some ⟨A+1,(τ.cl d).fl k,none,[],0,true⟩))∧Mv uB ρ ρ3 w w'∧FlAt w' ρ3 (.slice fa fn fc) ((τ.cl d).fl k)∧w'.cell? ⟨b,3+d*13+4+k,none⟩=some (int (A+1))∧w'.cell? ⟨b,3+d*13+6+k,none⟩=some (.slice fa fn fc)∧w'.cell? ⟨b,3+d*13+1,none⟩=some (int old)):=uA (fun w3 t=>by
          have hf3:=hfl1.still t (fun _ f=>f.elim);have hq:FaC w3 ρ1 ⟨x,2*d+k,⟨A+1,(τ.cl d).fl k,none,[],0,true⟩⟩ [int x,int (2*d+k:Nat),int (A+1),.slice fa fn fc,int (-1),rA,int 0,.bool true]:=⟨_,rA,hf3,tQ0,rfl⟩;have:=eX (hR1.calm t) hx6 (by omega) hq;rw[hsc] at this;refine this.mono ?_;rintro r w' ⟨rfl,ρ3,q1,q2,q3⟩
          exact⟨rfl,ρ3,q1,((hM.trans (hM1.mono (fun _ _=>trivial))).trans (zQ0 hR1.lt t)).trans (q2.mono (fun _ _=>trivial)),q2.fl hf3 (by simp),q3 _ _ (by omega) (t.cell (p:=⟨b,3+d*13+4+k,none⟩) id k4),q3 _ _ (by omega) (t.cell (p:=⟨b,3+d*13+6+k,none⟩) id k6),q3 _ _ (by omega) (t.cell (p:=⟨b,3+d*13+1,none⟩) id k1)⟩)
        have hpar1:(τ1.know x (2*d+k) (some ⟨A+1,(τ.cl d).fl k,none,[],0,true⟩)).par=σ.par:=by rw[hτ1,hτ];exact SM.par
        have hwt1:(τ1.know x (2*d+k) (some ⟨A+1,(τ.cl d).fl k,none,[],0,true⟩)).waiting<1000000000:=by
          have:=sI (σ:=τ1.know x (2*d+k) (some ⟨A+1,(τ.cl d).fl k,none,[],0,true⟩)) (B:=2010) (fun a y=>by
            have q1:=SM.q a y;have q2:=yA HLEN a y;have q3:(τ1.know x (2*d+k) (some ⟨A+1,(τ.cl d).fl k,none,[],0,true⟩)).q=(sC σ d x old k).q:=by rw[hτ1,hτ];rfl
            rw[q3];omega)
          omega
        have hcome:sC σ d x old (k+1)=(τ1.know x (2*d+k) (some ⟨A+1,(τ.cl d).fl k,none,[],0,true⟩)).push x (tB σ.par x old) (.move (2*d+k) (A+1) ((τ.cl d).fl k) old x):=by
          show (sC σ d x old k).comes d x old k=_
          rw[←hτ];unfold Net.comes;simp only;rw[if_pos (by rw[hτ,SM.used,←yA HUS];exact hu),show (τ.cl d).age k=A by rw[hτ,SM.age k (qO0 _)];exact hAe.symm,show τ.par=σ.par by rw[hτ];exact SM.par,hτ1]
        obtain⟨τ2,hτ2⟩:∃τ2,τ2=τ1.know x (2*d+k) (some ⟨A+1,(τ.cl d).fl k,none,[],0,true⟩):=⟨_,rfl⟩;rw[←hτ2] at HLRN hpar1 hwt1 hcome
        have HSD:Hid (∀w3 ρ3,RG w3 b ρ3 τ2→Mv uB ρ ρ3 w w3→FlAt w3 ρ3 (.slice fa fn fc) ((τ.cl d).fl k)→Calls Tryz.prog 43 #[.pointer (some ⟨b,0,none⟩),.agg #[int 4,int 0,int 0,int (2*(d:Int)+k),int (A+1),.slice fa fn fc,int 0,int 0,int 0,int 0,int 0,int 0,int old,int x,rA,int 0],int x,int (tB σ.par x old)] w3 fun e w'=>e=.returned (.tuple #[])∧∃ρ',RG w' b ρ' (sC σ d x old (k+1))∧Mv uB ρ ρ' w w'∧∀o v,o≠1→w3.cell? ⟨b,o,none⟩=some v→w'.cell? ⟨b,o,none⟩=some v):=uA (fun w3 ρ3 hq hmq hf=>by
          have:=sendG2 hq hx6 (yA HNX6) (uS (s:=2*d+k) (age:=A+1) (old:=old) (new:=x) hf (int 0) (int 0) rfl rfl) hwt1;rw[hsc] at this;refine this.mono ?_;rintro r w' ⟨rfl,ρ',q1,q2,q3⟩
          exact⟨rfl,ρ',by rw[hcome];exact q1,hmq.trans (q2.mono (fun _ _=>trivial)),q3⟩)
        have HTK:Hid (∀w3 ρ3,RG w3 b ρ3 τ2→Calls Tryz.prog 44 #[.pointer (some ⟨b,0,none⟩),int x,int old] w3 fun e w'=>e=.returned (int (tB σ.par x old))∧qA w3 w'):=uA (fun w3 ρ3 hq=>yA HTW w3 ρ3 τ2 hq hpar1);obtain⟨NX,hNX⟩:∃NX,NX=tB σ.par x old:=⟨_,rfl⟩;rw[←hNX] at HSD HTK;have HW1:=uA hW1;clear hR hM SM C hu hR1 hM1 hfl hfl1 hτ hτ1 hτ2 hcome hpar1 hwt1 hW1 hNX hAe hsc;go_wp2;go_region
        all_goals go_wp2
        all_goals go_region_held3 (fun w'=>w'.cell? ⟨b,3+d*13+4+k,none⟩=some (int (A+1))∧w'.cell? ⟨b,3+d*13+6+k,none⟩=some (.slice fa fn fc)∧w'.cell? ⟨b,3+d*13+1,none⟩=some (int old))
          (first
            | exact⟨k4,k6,k1⟩
            | (rw[yA HW1];exact⟨k4,k6,k1⟩)
            | (have hW1:=yA HW1;subst hW1;exact⟨k4,k6,k1⟩)
            | exact q3
            | go_keep)
          (first
            | (go_at_call 42;refine(yA HLRN _ (by have hW1:=yA HW1;subst hW1;exact(((cP0 (fun _=>False) _).drew).drew))).mono ?_;rintro e w3 ⟨rfl,ρ3,h3,m3,f3,q3⟩
               have H3:=uA h3;have M3:=uA m3;have F3:=uA f3
               clear h3 m3 f3))
        all_goals go_wp2
        all_goals go_region_held3 (fun w'=>w'.cell? ⟨b,3+d*13+4+k,none⟩=some (int (A+1))∧w'.cell? ⟨b,3+d*13+6+k,none⟩=some (.slice fa fn fc)∧w'.cell? ⟨b,3+d*13+1,none⟩=some (int old))
          (first
            | exact q3
            | exact q4
            | exact q5
            | go_keep)
          (first
            | (go_at_call 44;refine(yA HTK w3.drew ρ3 ((yA H3).calm (cP0 _ _).drew)).mono ?_;rintro e w4 ⟨rfl,t4⟩
               have t5:qA w3 w4:=((cP0 (fun _=>False) w3).drew).calm t4;have q4:=And.intro (t5.cell (p:=⟨b,3+d*13+4+k,none⟩) id q3.1) (And.intro (t5.cell (p:=⟨b,3+d*13+6+k,none⟩) id q3.2.1) (t5.cell (p:=⟨b,3+d*13+1,none⟩) id q3.2.2));have H4:=uA ((yA H3).calm t5);have M4:=uA ((yA M3).trans (zQ0 (yA H3).lt t5));have F4:=uA ((yA F3).still t5 (fun _ f=>f.elim))
               clear t4 t5)
            | (go_at_call 43;refine(yA HSD w4 ρ3 (yA H4) (yA M4) (yA F4)).mono ?_;rintro e w5 ⟨rfl,ρ5,h5,m5,n5⟩
               have q5:=And.intro (n5 _ _ (by omega) q4.1) (And.intro (n5 _ _ (by omega) q4.2.1) (n5 _ _ (by omega) q4.2.2));have H5:=uA h5;have M5:=uA m5
               clear h5 m5 n5))
        all_goals go_wp2
        all_goals go_roundw
        all_goals first
          | exact⟨k+1,by omega,by go_num,ρ5,yA H5,yA M5⟩
          | (simp[intOf];omega)
    · have hke:k=2:=by omega
      subst hke;have q0:=C.here;have q2:=C.stays;rw[SM.stays,←yA HS] at q2;have f0:=hR.fr (3+d*13);have f1:=hR.fr (3+d*13+1);have f2:=hR.fr (3+d*13+10);have hwS:IntKind.i64.wrap (S+1)=S+1:=by rw[IntKind.wrap_i64];omega
      have hfin:=hR.arrive hd x (S+1) (by rw[SM.stays,←yA HS]);have HF:=uA (And.intro hfin.1 (hM.trans (hfin.2.mono (fun _ _=>trivial))));obtain⟨A0,hA0⟩:∃A0,A0=whr ((sC σ d x old 2).cl d).here:=⟨_,rfl⟩;rw[←hA0] at q0;clear hR hM SM C hfin hA0;go_wp2;go_ret;exact⟨rfl,ρ1,(yA HF).1,(yA HF).2⟩
section
variable {w : World} {b : Nat} {ρ : Nat → Option Role} {σ : Net}
set_option maxRecDepth 100000 in
set_option maxHeartbeats 1000000 in
theorem iO (h:RG w b ρ σ)(c x:Int)(hA:σ.asked (dA c)≠0):
  Calls Tryz.prog 15 #[.pointer (some ⟨b,0,none⟩),int c,int x] w fun e w'=>e=.returned (int (σ.asked (dA c)))∧w'=w:=by
 have HA:=uA (aC h c);obtain⟨E,hEE⟩:∃E,E=σ.asked (dA c):=⟨_,rfl⟩;rw[←hEE] at HA hA ⊢;have hE1:(E == 0)=false:=by rw[vB];exact pP0 hA
 clear hA hEE h;go_enter Tryz.func15,Tryz.ntmps15
 go_wp2_with (go_at_call 38;refine(yA HA).mono ?_;rintro e w1 ⟨rfl,hw1⟩;have hw1:=hw1.symm;subst hw1)
 go_ret;exact⟨rfl,rfl⟩
set_option maxRecDepth 100000 in
set_option maxHeartbeats 1000000 in
theorem iY (h:RG w b ρ σ)(c x:Int)(hA:σ.asked (dA c)=0)(hx:¬(0≤x∧x<σ.n)):
  Calls Tryz.prog 15 #[.pointer (some ⟨b,0,none⟩),int c,int x] w fun e w'=>e=.returned (int 1)∧w'=w:=by
 have HA:=aC h c;rw[hA] at HA;have HA:=uA HA;obtain⟨pb,po,pcap,p0,_⟩:=h.parsAt;obtain⟨n,hn⟩:∃n,n=size σ.par:=⟨_,rfl⟩;rw[←hn] at p0;have hx:¬(0≤x∧x<(n:Int)):=by rw[hn];exact hx
 clear hA h hn;by_cases h0:x<0
 ·go_enter Tryz.func15,Tryz.ntmps15
  go_wp2_with (go_at_call 38;refine(yA HA).mono ?_;rintro e w1 ⟨rfl,hw1⟩;have hw1:=hw1.symm;subst hw1)
  go_ret;exact⟨rfl,rfl⟩
 ·have h1:(n:Int)≤x:=by omega
  have h2:¬x<(n:Int):=by omega
  go_enter Tryz.func15,Tryz.ntmps15
  go_wp2_with (go_at_call 38;refine(yA HA).mono ?_;rintro e w1 ⟨rfl,hw1⟩;have hw1:=hw1.symm;subst hw1)
  go_ret;exact⟨rfl,rfl⟩
set_option maxRecDepth 100000 in
set_option maxHeartbeats 1000000 in
theorem hB0 (h:RG w b ρ σ){d x y:Nat}(hd:d<4)(hA:σ.asked (dA d)=0)(hx:x<σ.n)(hh:(σ.cl d).here=some y):
  Calls Tryz.prog 15 #[.pointer (some ⟨b,0,none⟩),int d,int x] w fun e w'=>e=.returned (int 4)∧w'=w:=by
 have HA:=aC h d;rw[hA] at HA;have HA:=uA HA;obtain⟨pb,po,pcap,p0,_⟩:=h.parsAt;obtain⟨n,hn⟩:∃n,n=size σ.par:=⟨_,rfl⟩;rw[←hn] at p0;have hxI:(x:Int)<n:=by have:σ.n=size σ.par:=rfl;omega
 have hdI:(d:Int)<4:=by omega
 have d0:=(h.cl hd).here;rw[hh] at d0;replace d0:w.cell? ⟨b,3+d*13,none⟩=some (int y):=d0;clear hA h hn hh;go_enter Tryz.func15,Tryz.ntmps15
 go_wp2_with (go_at_call 38;refine(yA HA).mono ?_;rintro e w1 ⟨rfl,hw1⟩;have hw1:=hw1.symm;subst hw1)
 go_ret;exact⟨rfl,rfl⟩
set_option maxRecDepth 100000 in
set_option maxHeartbeats 1000000 in
theorem gB0 (h:RG w b ρ σ){d x:Nat}(hd:d<4)(hA:σ.asked (dA d)=0)(hx:x<σ.n)(hh:(σ.cl d).here=none)(hf:100≤σ.waiting):
  Calls Tryz.prog 15 #[.pointer (some ⟨b,0,none⟩),int d,int x] w fun e w'=>e=.returned (int 6)∧w'=w:=by
 have HA:=aC h d;rw[hA] at HA;have HA:=uA HA;obtain⟨pb,po,pcap,p0,_⟩:=h.parsAt;obtain⟨n,hn⟩:∃n,n=size σ.par:=⟨_,rfl⟩;rw[←hn] at p0;have hxI:(x:Int)<n:=by have:σ.n=size σ.par:=rfl;omega
 have hdI:(d:Int)<4:=by omega
 have d0:=(h.cl hd).here;rw[hh] at d0;replace d0:w.cell? ⟨b,3+d*13,none⟩=some (int (-1)):=d0;obtain⟨a,cap,g1⟩:=h.frames;obtain⟨N,hN⟩:∃N,N=σ.waiting:=⟨_,rfl⟩;rw[←hN] at g1 hf;have hfI:¬(N:Int)<100:=by omega
 have hfI2:(100:Int)≤(N:Int):=by omega
 clear hA h hn hh hN hf;go_enter Tryz.func15,Tryz.ntmps15
 go_wp2_with (go_at_call 38;refine(yA HA).mono ?_;rintro e w1 ⟨rfl,hw1⟩;have hw1:=hw1.symm;subst hw1)
 go_ret;exact⟨rfl,rfl⟩
theorem cN0 (h:RG w b ρ σ){m:Nat}(F:Fit σ m)(hm:m<2000000000000)(c x:Int):
  Calls Tryz.prog 15 #[.pointer (some ⟨b,0,none⟩),int c,int x] w fun e w'=>e=.returned (int (σ.attachE c x))∧∃ρ',RG w' b ρ' (σ.attach c x)∧Mv uB ρ ρ' w w':=by
 have no:∀E:Int,σ.attachE c x=E→E≠0→Calls Tryz.prog 15 #[.pointer (some ⟨b,0,none⟩),int c,int x] w (fun e w'=>e=.returned (int E)∧w'=w)→Calls Tryz.prog 15 #[.pointer (some ⟨b,0,none⟩),int c,int x] w fun e w'=>e=.returned (int (σ.attachE c x))∧∃ρ',RG w' b ρ' (σ.attach c x)∧Mv uB ρ ρ' w w':=fun E hE hne hc=>by
  refine hc.mono ?_;rintro e w' ⟨rfl,rfl⟩
  have:σ.attach c x=σ:=by unfold Net.attach;rw[if_neg (by rw[hE];exact hne)]
  rw[this,hE];exact⟨rfl,ρ,h,aP0 h.lt⟩
 have T:=F.good.tree;have hs6:σ.n≤6:=gB T;by_cases hA:σ.asked (dA c)=0
 ·obtain⟨d,hd,rfl⟩:=uE hA;have hcl:σ.closed=false:=by
   unfold Net.asked at hA;split at hA
   ·omega
   ·rename_i hc;simpa using hc
  by_cases hx:0≤x∧x<σ.n
  ·obtain⟨y,rfl⟩:∃y:Nat,x=y:=⟨x.toNat,by omega⟩;have hyn:y<σ.n:=by omega
   have hg:σ.asked (dA d && σ.isBro y)=0:=by
    have:σ.isBro y=true:=decide_eq_true hx;rw[this,Bool.and_true];exact hA
   have hE:σ.attachE d y=if (σ.cl d).here≠none then 4 else if σ.full then 6 else 0:=by
    unfold Net.attachE;rw[if_neg (by rw[hg];simp),iO0]
   cases hh:(σ.cl d).here with
   | some z=>
    rw[hh,if_pos (by simp)] at hE;exact no 4 hE (by omega) (hB0 h hd hA hyn hh)
   | none=>
    rw[hh,if_neg (by simp)] at hE;by_cases hf:100≤σ.waiting
    ·have:σ.full=true:=decide_eq_true hf;rw[this] at hE;exact no 6 hE (by omega) (gB0 h hd hA hyn hh hf)
    ·have:σ.full=false:=pP0 hf;rw[this] at hE;have hE:σ.attachE d y=0:=hE;have hN:σ.attach d y=σ.attachN d y:=by unfold Net.attach;rw[if_pos hE,iO0,iO0]
     rw[hE,hN];have hnum:=F.r.nums.cl d;have hst:0≤(σ.cl d).stays∧(σ.cl d).stays<2199023255552:=⟨hnum.stays.1,by have:=hnum.stays.2;omega⟩;have back:(∀k,k<2→(σ.cl d).used k=true→(σ.cl d).home=some y)→Calls Tryz.prog 15 #[.pointer (some ⟨b,0,none⟩),int d,int y] w fun e w'=>e=.returned (int 0)∧∃ρ',RG w' b ρ' ((fB σ d y 2).arrive d y)∧Mv uB ρ ρ' w w':=fun hho=>
      fB0 h hd (sO0 hyn hs6) hyn hs6 hA hh hho (by omega) F.r.slack hm hst (fun k hk hu=>F.live.atHome hd hk hu hh (hho k hk hu))
     cases hmm:(σ.cl d).home with
     | none=>
      have hN2:σ.attachN d y=(fB σ d y 2).arrive d y:=by unfold Net.attachN;rw[hmm];rfl
      rw[hN2];exact back (fun k hk hu=>by rw[F.live.noHome hd hk hmm] at hu;cases hu)
     | some old=>
      by_cases e:old=y
      ·subst e;have hN2:σ.attachN d old=(fB σ d old 2).arrive d old:=by unfold Net.attachN;rw[hmm];simp only[if_true];rfl
       rw[hN2];exact back (fun k hk hu=>hmm)
      ·have hN2:σ.attachN d y=(sC σ d y old 2).arrive d y:=by unfold Net.attachN;rw[hmm];simp only;rw[if_neg e];rfl
       rw[hN2];have hon:=(F.good.clis d hd).home old hmm;refine eB0 h T hd (sO0 hyn hs6) hyn hon (fun e'=>e e'.symm) hA hh (H:=old) (by rw[hmm];rfl) (by omega) (fun k hk hu=>rfl) (by omega) (fun a z=>F.len a z) hst (fun k=>⟨(hnum.age k).1,by have:=(hnum.age k).2;omega⟩)
  ·have hE:σ.attachE d x=1:=by
    unfold Net.attachE Net.asked Net.isBro;rw[hcl,pP0 hx];simp
   exact no 1 hE (by omega) (iY h d x hA hx)
 ·have hE:σ.attachE c x=σ.asked (dA c):=by
   have:σ.asked (dA c && σ.isBro x)=σ.asked (dA c):=by
    unfold Net.asked at hA ⊢;split
    ·rfl
    ·rename_i hc
     rw[if_neg hc] at hA;split at hA
     ·exact absurd rfl hA
     ·rename_i hg
      have:dA c=false:=by simpa using hg
      rw[this];rfl
   unfold Net.attachE;rw[this,if_pos hA]
  exact no _ hE hA (iO h c x hA)
end
end Go.Proofs.YtodfcpblcpogiaaGreat

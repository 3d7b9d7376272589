import Derived.Test.YtodfcpblcpogiaaGreatSy
import Derived.Test.YtodfcpblcpogiaaGreatPubF
namespace Go.Proofs.YtodfcpblcpogiaaGreat
open Go.RowKit
theorem RG.setMany {w:World}{b c:Nat}{ρ:zA}{σ:Net}(h:RG w b ρ σ)(hc:c<4)(y:Int):RG (w.setCell ⟨b,3+c*13+11,none⟩ (int y)) b ρ (σ.setCl c {σ.cl c with many:=y}):=by
 obtain⟨R,h1,rfl,h3⟩:=h;exact⟨_,h1.setMany hc y,rfl,h3.setCl _ _⟩
theorem fF0 (σ:Net)(s:Nat)(e:News)(d:Nat):((σ.tell s e).cl d).many=(σ.cl d).many∧((σ.tell s e).cl d).stays=(σ.cl d).stays∧((σ.tell s e).cl d).here=(σ.cl d).here:=by
 show (put σ.cl (s/2) ((σ.cl (s/2)).tell (s%2) e) d).many=_∧(put σ.cl (s/2) ((σ.cl (s/2)).tell (s%2) e) d).stays=_∧(put σ.cl (s/2) ((σ.cl (s/2)).tell (s%2) e) d).here=_
 by_cases h:d=s/2
 ·subst h;rw[put_same];unfold Cli.tell;split<;>exact⟨rfl,rfl,rfl⟩
 ·rw[kA _ _ h];exact⟨rfl,rfl,rfl⟩
theorem sH0 (σ:Net)(x:Nat)(e:News)(s d:Nat):((σ.hear x e s).cl d).many=(σ.cl d).many∧((σ.hear x e s).cl d).stays=(σ.cl d).stays∧((σ.hear x e s).cl d).here=(σ.cl d).here:=by
 unfold Net.hear;split
 ·exact⟨rfl,rfl,rfl⟩
 ·split
  ·split
   ·exact⟨rfl,rfl,rfl⟩
   ·split
    ·exact⟨rfl,rfl,rfl⟩
    ·exact fF0 σ s e d
  ·exact⟨rfl,rfl,rfl⟩
theorem jS (x:Nat)(e:News)(d:Nat):∀(l:List Nat) (σ:Net),((σ.hears x e l).cl d).many=(σ.cl d).many∧((σ.hears x e l).cl d).stays=(σ.cl d).stays∧((σ.hears x e l).cl d).here=(σ.cl d).here
 | [],_=>⟨rfl,rfl,rfl⟩
 | s::l,σ=>by
  have h1:=sH0 σ x e s d;have h2:=jS x e d l (σ.hear x e s);exact⟨h2.1.trans h1.1,h2.2.1.trans h1.2.1,h2.2.2.trans h1.2.2⟩
theorem vY (σ:Net)(x:Nat)(e:News)(fr:Option Nat)(d:Nat):((σ.happens x e fr).cl d).many=(σ.cl d).many∧((σ.happens x e fr).cl d).stays=(σ.cl d).stays∧((σ.happens x e fr).cl d).here=(σ.cl d).here:=by
 have h1:=(rB (f:=.event e) (x:=x) (σ.targets x e fr) (σ.hears x e (List.range 8))).2.1;have h2:(σ.happens x e fr).cl=(σ.hears x e (List.range 8)).cl:=h1;rw[h2];exact jS x e d _ σ
set_option maxRecDepth 100000 in
set_option maxHeartbeats 4000000 in
theorem aC0 {w:World}{b:Nat}{ρ:zA}{σ:Net}(h:RG w b ρ σ){d x:Nat}(hd:d<4)(hA:σ.asked (dA d)=0)(hh:(σ.cl d).here=some x)(hfull:σ.waiting<100)(f0 f1 f2 M:Int)(hM:M=(σ.cl d).many+1)(hM0:0≤(σ.cl d).many∧(σ.cl d).many<2199023255552)
    (HCALL:∀wq ρq,RG wq b ρq (σ.setCl d {σ.cl d with many:=M})→Calls Tryz.prog 51 #[.pointer (some ⟨b,0,none⟩),int x,.agg #[int 3,int 0,int 0,int 0,int 0,rA,int d,int M,int f0,int f1,int f2,int (σ.cl d).stays,int 0,int 0,rA,int 0],int (-1)] wq fun r w'=>r=.returned (.tuple #[])∧∃ρ',RG w' b ρ' ((σ.setCl d {σ.cl d with many:=M}).happens x ⟨⟨d,M,f0,f1,f2⟩,(σ.cl d).stays⟩ none)∧Mv uB ρq ρ' wq w'):
    Calls Tryz.prog 19 #[.pointer (some ⟨b,0,none⟩),int d,.agg #[int f0,int f1,int f2]] w fun e w'=>e=.returned (.tuple #[int M,int 0])∧∃ρ',RG w' b ρ' ((σ.setCl d {σ.cl d with many:=M}).happens x ⟨⟨d,M,f0,f1,f2⟩,(σ.cl d).stays⟩ none)∧Mv uB ρ ρ' w w':=by
  have hdI:(d:Int)<4:=by omega
  obtain⟨W0,hW0⟩:∃W0,w.alloc (.cells #[int f0,int f1,int f2] 35)=W0:=⟨_,rfl⟩;have t0:qA w W0:=by rw[←hW0];exact(cP0 _ _).alloc _
  have hbx:W0.heap[w.heap.size]?=some (.cells #[int f0,int f1,int f2] 35):=by rw[←hW0];exact eP0 w _
  have h0:=h.calm t0;have hne:b≠w.heap.size:=by have:=h.lt b (by rw[h.net];simp);omega
  have HA:=aC h0 d;rw[hA] at HA;have HA:=uA HA;have C:=h0.cl hd;have d0:=C.here;rw[hh] at d0;have d0:W0.cell? ⟨b,3+d*13,none⟩=some (int x):=d0;have dm:=C.many;have dst:=C.stays;obtain⟨a,cap,g1⟩:=h0.frames;obtain⟨N,hN⟩:∃N,N=σ.waiting:=⟨_,rfl⟩;rw[←hN] at g1 hfull;have hfI:(N:Int)<100:=by omega
  have hfz:=h0.fr (3+d*13+11);obtain⟨K,hK⟩:∃K,K=(σ.cl d).many:=⟨_,rfl⟩;rw[←hK] at dm hM0 hM;obtain⟨S,hS⟩:∃S,S=(σ.cl d).stays:=⟨_,rfl⟩;rw[←hS] at dst HCALL ⊢;obtain⟨hM1,hM2⟩:=hM0;have hwM:IntKind.i64.wrap (K+1)=M:=by rw[IntKind.wrap_i64];omega
  have hw64:wrap64 (K+1)=M:=by simp only[wrap64];omega
  have c0:W0.cell? ⟨w.heap.size,0,none⟩=some (int f0):=xA hbx 0;have c1:W0.cell? ⟨w.heap.size,1,none⟩=some (int f1):=xA hbx 1;have c2:W0.cell? ⟨w.heap.size,2,none⟩=some (int f2):=xA hbx 2;have hS1:=h0.setMany hd M;have hM1':=h0.poke_mv (o:=3+d*13+11) (int M);obtain⟨W1,hW1⟩:∃W1,W0.setCell ⟨b,3+d*13+11,none⟩ (int M)=W1:=⟨_,rfl⟩;rw[hW1] at hS1 hM1';have k0:W1.cell? ⟨b,3+d*13,none⟩=some (int x):=by rw[←hW1];exact tA W0 (by omega) d0
  have km:W1.cell? ⟨b,3+d*13+11,none⟩=some (int M):=by rw[←hW1];exact mP0 W0 _ _ dm
  have ks:W1.cell? ⟨b,3+d*13+10,none⟩=some (int S):=by rw[←hW1];exact tA W0 (by omega) dst
  have hb1:W1.heap[w.heap.size]?=some (.cells #[int f0,int f1,int f2] 35):=by rw[←hW1];exact(zB W0 _ (Ne.symm hne)).trans hbx
  have k3:W1.cell? ⟨w.heap.size,0,none⟩=some (int f0):=xA hb1 0;have k4:W1.cell? ⟨w.heap.size,1,none⟩=some (int f1):=xA hb1 1;have k5:W1.cell? ⟨w.heap.size,2,none⟩=some (int f2):=xA hb1 2;have hnon:ρ w.heap.size=none:=by
    cases hq:ρ w.heap.size with
    | none=>rfl
    | some r=>have:=h.lt w.heap.size (by rw[hq];simp);omega
  have HM0:Hid (Mv uB ρ ρ w W1):=uA ((zQ0 h.lt t0).trans (hM1'.mono (fun _ _=>trivial)));have HCA:=uA (HCALL W1.drew ρ (hS1.calm (cP0 _ _).drew))
  have HAFT:Hid (∀w4 ρ4,RG w4 b ρ4 ((σ.setCl d {σ.cl d with many:=M}).happens x ⟨⟨d,M,f0,f1,f2⟩,S⟩ none)→Mv uB ρ ρ4 W1.drew w4→w4.cell? ⟨b,3+d*13,none⟩=some (int x)∧w4.cell? ⟨b,3+d*13+11,none⟩=some (int M)∧w4.cell? ⟨b,3+d*13+10,none⟩=some (int S)∧w4.cell? ⟨w.heap.size,0,none⟩=some (int f0)∧w4.cell? ⟨w.heap.size,1,none⟩=some (int f1)∧w4.cell? ⟨w.heap.size,2,none⟩=some (int f2)):=uA (fun w4 ρ4 h4 m4=>by
    have C4:=h4.cl hd;have n4:=vY (σ.setCl d {σ.cl d with many:=M}) x ⟨⟨d,M,f0,f1,f2⟩,S⟩ none d;have hcl:(σ.setCl d {σ.cl d with many:=M}).cl d={σ.cl d with many:=M}:=put_same _ _ _;rw[hcl] at n4;have r0:=C4.here;have r1:=C4.many;have r2:=C4.stays;rw[n4.2.2] at r0;rw[n4.1] at r1;rw[n4.2.1] at r2;simp only[hh] at r0;have hb4:w4.heap[w.heap.size]?=some (.cells #[int f0,int f1,int f2] 35):=(m4.touch.block _ (tO0.1 hb1).1 (fun ⟨r,e,_⟩=>by rw[hnon] at e;cases e)).trans hb1
    exact⟨r0,r1,by rw[hS];exact r2,xA hb4 0,xA hb4 1,xA hb4 2⟩)
  have HMD:Hid (Mv uB ρ ρ W1 W1.drew):=uA (zQ0 hS1.lt (cP0 _ _).drew);have HW0:=uA hW0;clear h h0 t0 hbx C hA hh hN hK hS hS1 hM1' hb1 hnon HCALL hM hW0;go_enter Tryz.func19,Tryz.ntmps19
  go_wp2_with (go_at_call 38;(try rw[yA HW0]);refine(yA HA).mono ?_;rintro e w1 ⟨rfl,hw1⟩;have hw1:=hw1.symm;subst hw1)
  go_region_held3 (fun w'=>w'.cell? ⟨b,3+d*13,none⟩=some (int x)∧w'.cell? ⟨b,3+d*13+11,none⟩=some (int M)∧w'.cell? ⟨b,3+d*13+10,none⟩=some (int S)∧w'.cell? ⟨w.heap.size,0,none⟩=some (int f0)∧w'.cell? ⟨w.heap.size,1,none⟩=some (int f1)∧w'.cell? ⟨w.heap.size,2,none⟩=some (int f2))
    (first
      | exact⟨k0,km,ks,k3,k4,k5⟩
      | exact q4
      | go_keep)
    (first
      | (go_at_call 51;refine(yA HCA).mono ?_;rintro e w4 ⟨rfl,ρ4,h4,m4⟩
         have q4:=yA HAFT w4 ρ4 h4 m4;have q5:=q4.2.1;have HX4:=uA h4;have HM4:=uA m4
         clear h4 m4))
  all_goals go_wp2
  all_goals go_ret2
  all_goals exact⟨rfl,ρ4,yA HX4,((yA HM0).trans (yA HMD)).trans (yA HM4)⟩
section
variable {w : World} {b : Nat} {ρ : Nat → Option Role} {σ : Net}
set_option maxRecDepth 100000 in
set_option maxHeartbeats 1000000 in
theorem eL (h:RG w b ρ σ)(c f0 f1 f2:Int)(hA:σ.asked (dA c)≠0):
  Calls Tryz.prog 19 #[.pointer (some ⟨b,0,none⟩),int c,.agg #[int f0,int f1,int f2]] w fun e w'=>e=.returned (.tuple #[int 0,int (σ.asked (dA c))])∧qA w w':=by
 have HA:=uA (fun wq (t:qA w wq)=>aC (h.calm t) c);obtain⟨E,hEE⟩:∃E,E=σ.asked (dA c):=⟨_,rfl⟩;rw[←hEE] at HA hA ⊢;have hE1:(E == 0)=false:=by rw[vB];exact pP0 hA
 clear hA hEE h;go_enter Tryz.func19,Tryz.ntmps19
 go_wp2_with (go_at_call 38;refine(yA HA _ ((cP0 _ _).alloc _)).mono ?_;rintro e w1 ⟨rfl,rfl⟩)
 go_ret2;exact⟨rfl,(cP0 _ _).alloc _⟩
set_option maxRecDepth 100000 in
set_option maxHeartbeats 1000000 in
theorem qX (h:RG w b ρ σ){d:Nat}(hd:d<4)(f0 f1 f2:Int)(hA:σ.asked (dA d)=0)(hh:(σ.cl d).here=none):
  Calls Tryz.prog 19 #[.pointer (some ⟨b,0,none⟩),int d,.agg #[int f0,int f1,int f2]] w fun e w'=>e=.returned (.tuple #[int 0,int 3])∧qA w w':=by
 obtain⟨W0,hW0⟩:∃W0,w.alloc (.cells #[int f0,int f1,int f2] 35)=W0:=⟨_,rfl⟩;have t0:qA w W0:=by rw[←hW0];exact(cP0 _ _).alloc _
 have h0:=h.calm t0;have HA:=aC h0 d;rw[hA] at HA;have HA:=uA HA;have d0:=(h0.cl hd).here;rw[hh] at d0;have d0:W0.cell? ⟨b,3+d*13,none⟩=some (int (-1)):=d0;have hdI:(d:Int)<4:=by omega
 have HW0:=uA hW0;have HT0:=uA t0;clear h h0 hA hh hW0 t0;go_enter Tryz.func19,Tryz.ntmps19
 go_wp2_with (go_at_call 38;(try rw[yA HW0]);refine(yA HA).mono ?_;rintro e w1 ⟨rfl,hw1⟩;have hw1:=hw1.symm;subst hw1)
 go_ret2;exact⟨rfl,yA HT0⟩
set_option maxRecDepth 100000 in
set_option maxHeartbeats 1000000 in
theorem pX (h:RG w b ρ σ){d x:Nat}(hd:d<4)(f0 f1 f2:Int)(hA:σ.asked (dA d)=0)(hh:(σ.cl d).here=some x)(hf:100≤σ.waiting):
  Calls Tryz.prog 19 #[.pointer (some ⟨b,0,none⟩),int d,.agg #[int f0,int f1,int f2]] w fun e w'=>e=.returned (.tuple #[int 0,int 6])∧qA w w':=by
 obtain⟨W0,hW0⟩:∃W0,w.alloc (.cells #[int f0,int f1,int f2] 35)=W0:=⟨_,rfl⟩;have t0:qA w W0:=by rw[←hW0];exact(cP0 _ _).alloc _
 have h0:=h.calm t0;have HA:=aC h0 d;rw[hA] at HA;have HA:=uA HA;have d0:=(h0.cl hd).here;rw[hh] at d0;have d0:W0.cell? ⟨b,3+d*13,none⟩=some (int x):=d0;have hdI:(d:Int)<4:=by omega
 obtain⟨a,cap,g1⟩:=h0.frames;obtain⟨N,hN⟩:∃N,N=σ.waiting:=⟨_,rfl⟩;rw[←hN] at g1 hf;have hfI:¬(N:Int)<100:=by omega
 have hfI2:(100:Int)≤(N:Int):=by omega
 have HW0:=uA hW0;have HT0:=uA t0;clear h h0 hA hh hW0 t0 hN hf;go_enter Tryz.func19,Tryz.ntmps19
 go_wp2_with (go_at_call 38;(try rw[yA HW0]);refine(yA HA).mono ?_;rintro e w1 ⟨rfl,hw1⟩;have hw1:=hw1.symm;subst hw1)
 go_ret2;exact⟨rfl,yA HT0⟩
theorem lJ0 (h:RG w b ρ σ){m:Nat}(F:Fit σ m)(hm:m<1999999999999)(c f0 f1 f2:Int):
  Calls Tryz.prog 19 #[.pointer (some ⟨b,0,none⟩),int c,.agg #[int f0,int f1,int f2]] w fun e w'=>e=.returned (.tuple #[int (σ.pubA c),int (σ.pubE c)])∧∃ρ',RG w' b ρ' (σ.pub c f0 f1 f2)∧Mv uB ρ ρ' w w':=by
 have no:∀E:Int,σ.pubE c=E→E≠0→Calls Tryz.prog 19 #[.pointer (some ⟨b,0,none⟩),int c,.agg #[int f0,int f1,int f2]] w (fun e w'=>e=.returned (.tuple #[int 0,int E])∧qA w w')→Calls Tryz.prog 19 #[.pointer (some ⟨b,0,none⟩),int c,.agg #[int f0,int f1,int f2]] w fun e w'=>e=.returned (.tuple #[int (σ.pubA c),int (σ.pubE c)])∧∃ρ',RG w' b ρ' (σ.pub c f0 f1 f2)∧Mv uB ρ ρ' w w':=fun E hE hne hc=>by
  refine hc.mono ?_;rintro e w' ⟨rfl,t⟩
  have h1:σ.pub c f0 f1 f2=σ:=by unfold Net.pub;rw[if_neg (by rw[hE];exact hne)]
  have h2:σ.pubA c=0:=by unfold Net.pubA;rw[if_neg (by rw[hE];exact hne)]
  rw[h1,h2,hE];exact⟨rfl,ρ,h.calm t,zQ0 h.lt t⟩
 by_cases hA:σ.asked (dA c)=0
 ·obtain⟨d,hd,rfl⟩:=uE hA;have hE:σ.pubE d=if (σ.cl d).here=none then 3 else if σ.full then 6 else 0:=by
   unfold Net.pubE;rw[if_neg (by rw[hA];simp),iO0]
  cases hh:(σ.cl d).here with
  | none=>
   rw[hh,if_pos rfl] at hE;exact no 3 hE (by omega) (qX h hd f0 f1 f2 hA hh)
  | some x=>
   rw[hh,if_neg (by simp)] at hE;by_cases hf:100≤σ.waiting
   ·have:σ.full=true:=decide_eq_true hf;rw[this] at hE;exact no 6 hE (by omega) (pX h hd f0 f1 f2 hA hh hf)
   ·have:σ.full=false:=pP0 hf;rw[this] at hE;have hE:σ.pubE d=0:=hE;have hx:=(F.good.clis d hd).here x hh;have hN:=F.r.nums.cl d;have hW:=F.r.warm;have hPA:σ.pubA d=(σ.cl d).many+1:=by unfold Net.pubA;rw[if_pos hE,iO0]
    have hPN:σ.pub d f0 f1 f2=(σ.setCl d {σ.cl d with many:=(σ.cl d).many+1}).happens x ⟨⟨d,(σ.cl d).many+1,f0,f1,f2⟩,(σ.cl d).stays⟩ none:=by
     unfold Net.pub Net.pubEv;rw[if_pos hE,iO0,hh]
    rw[hPA,hE,hPN];have hm0:=hN.many;have hst:=hN.stays;have hWm:Warm (σ.setCl d {σ.cl d with many:=(σ.cl d).many+1}) (m+1):=by
     obtain⟨E,e1,e2⟩:=hW.news;refine⟨hW.live.setCl hd rfl rfl rfl rfl rfl,(hW.slack.clSame (c:=d) (x:={σ.cl d with many:=(σ.cl d).many+1}) (fun _=>qO0 _) (qO0 _)).weak (qO0 _) (by omega),(hW.nums.weak (by omega)).setCl ⟨⟨hN.stays.1,by have:=hN.stays.2;show (σ.cl d).stays≤_;omega⟩,⟨by show 0≤(σ.cl d).many+1;omega,by show (σ.cl d).many+1≤((m+1:Nat):Int);omega⟩,fun k=>⟨(hN.age k).1,by have:=(hN.age k).2;show (σ.cl d).age k≤_;omega⟩,hN.ris⟩,E,e1.setCl (c:=d) (x:={σ.cl d with many:=(σ.cl d).many+1}) (fun k e he=>e1.told d k e he),fun o ho=>(e2 o ho).weak (by omega)⟩
    refine aC0 h hd hA hh (by omega) f0 f1 f2 _ rfl ⟨hm0.1,by omega⟩ (fun wq ρq hq=>?_);have hlim:News.lim (m+1+1) ⟨⟨d,(σ.cl d).many+1,f0,f1,f2⟩,(σ.cl d).stays⟩:=⟨by show (0:Int)≤d;omega,by show (d:Int)<4;omega,by show 1≤(σ.cl d).many+1;omega,by show (σ.cl d).many+1≤((m+1+1:Nat):Int);omega,hst.1,by show (σ.cl d).stays≤((m+1+1:Nat):Int);omega⟩;exact fA0 hq (fr:=none) (x:=x) hx (fun a y=>F.len a y) hWm (by omega) hlim 0 0
 ·have hE:σ.pubE c=σ.asked (dA c):=by
   unfold Net.pubE;rw[if_pos hA]
  exact no _ hE hA (eL h c f0 f1 f2 hA)
end
end Go.Proofs.YtodfcpblcpogiaaGreat

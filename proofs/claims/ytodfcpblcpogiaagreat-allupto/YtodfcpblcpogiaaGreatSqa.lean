import Derived.Test.YtodfcpblcpogiaaGreatSp
import Derived.Test.YtodfcpblcpogiaaGreatAtg
namespace Go.Proofs.YtodfcpblcpogiaaGreat
open Go.RowKit
abbrev callR:Role→Prop:=fun z=>z=.net∨z=.known 0 0∨z=.chan 0 0
theorem nF0 {w:World}{ρ:zA}(s:Nat)(age:Int):FrG w ρ (.unsub s age) (.agg #[int 2,int 0,int 0,int s,int age,rA,int 0,int 0,int 0,int 0,int 0,int 0,int 0,int 0,rA,int 0]):=
 ⟨_,_,_,_,_,_,_,_,_,_,_,_,_,_,_,_,rfl,rfl,rfl,fun _ _=>rfl⟩
theorem RG.setUnused {w:World}{b c:Nat}{ρ:zA}{σ:Net}(h:RG w b ρ σ)(hc:c<4){j:Nat}(hj:j<2):RG (w.setCell ⟨b,3+c*13+2+j,none⟩ (.bool false)) b ρ (σ.setCl c {σ.cl c with used:=put (σ.cl c).used j false}):=by
 obtain⟨R,h1,rfl,h3⟩:=h;exact⟨_,h1.setUnused hc hj,rfl,h3.setCl _ _⟩
theorem RG.poke_mv {w:World}{b o:Nat}{ρ:zA}{σ:Net}(h:RG w b ρ σ)(v:Value):Mv qL ρ ρ w (w.setCell ⟨b,o,none⟩ v):=by
 obtain⟨R,h1,_⟩:=h;exact Go.Proofs.YtodfcpblcpogiaaGreat.poke_mv h1 v
set_option maxRecDepth 100000 in
set_option maxHeartbeats 4000000 in
theorem iI0 {w:World}{b:Nat}{ρ:zA}{σ:Net}(h:RG w b ρ σ){d j x:Nat}(hd:d<4)(hj:j<2)(hcl:σ.closed=false)(hst:σ.still d=0)(hh:(σ.cl d).here=some x)(hx:x<σ.n)(hs:σ.n≤6)(hu:(σ.cl d).used j=true)(hfull:σ.waiting<100):
    Calls Tryz.prog 55 #[.pointer (some ⟨b,0,none⟩),int d,int j] w fun e w'=>e=.returned (int 0)∧∃ρ',RG w' b ρ' (((σ.setCl d {σ.cl d with used:=put (σ.cl d).used j false}).know x (2*d+j) none).spread x none (.unsub (2*d+j) ((σ.cl d).age j)))∧Mv callR ρ ρ' w w':=by
  have hdI:(d:Int)<4:=by omega
  have hjI:(j:Int)<2:=by omega
  have hw1:IntKind.i64.wrap (2*(d:Int))=2*(d:Int):=by rw[IntKind.wrap_i64];omega
  have hw2:IntKind.i64.wrap (2*(d:Int)+j)=2*(d:Int)+j:=by rw[IntKind.wrap_i64];omega
  have hA:σ.asked (dA d)=0:=by
    unfold Net.asked;rw[hcl,jC hd];rfl
  have HA:=aC h d;rw[hA] at HA;have HA:=uA HA;have HS:=eM h hd;rw[hst] at HS;have HS:=uA HS;have C:=h.cl hd;have d0:=C.here;rw[hh] at d0;have d1:=C.used j hj;rw[hu] at d1;have d2:=C.age j hj;obtain⟨a,cap,g1⟩:=h.frames;obtain⟨N,hN⟩:∃N,N=σ.waiting:=⟨_,rfl⟩;rw[←hN] at g1 hfull;have hfI:(N:Int)<100:=by omega
  have hfz:=h.fr (3+d*13+2+j);have h1:=h.setUnused hd hj;have m1:=h.poke_mv (o:=3+d*13+2+j) (.bool false);obtain⟨W,hW⟩:∃W,w.setCell ⟨b,3+d*13+2+j,none⟩ (.bool false)=W:=⟨_,rfl⟩;rw[hW] at h1 m1;have e0:W.cell? ⟨b,3+d*13,none⟩=some (int x):=by rw[←hW];exact tA w (by omega) d0
  have e2:W.cell? ⟨b,3+d*13+4+j,none⟩=some (int ((σ.cl d).age j)):=by rw[←hW];exact tA w (by omega) d2
  obtain⟨A,hAe⟩:∃A,A=(σ.cl d).age j:=⟨_,rfl⟩;rw[←hAe] at e2 ⊢;obtain⟨τ,hτ⟩:∃τ,τ=(σ.setCl d {σ.cl d with used:=put (σ.cl d).used j false}).know x (2*d+j) none:=⟨_,rfl⟩;have hτn:τ.n=σ.n:=by rw[hτ];rfl
  have hτw:τ.waiting=σ.waiting:=by rw[hτ];rfl
  have hτc:τ.cl d={σ.cl d with used:=put (σ.cl d).used j false}:=by rw[hτ];exact put_same _ _ _
  have hsc:((2*d+j:Nat):Int)=2*(d:Int)+j:=by omega
  have HF:=vF0 h1 x (2*d+j);rw[hsc,←hτ] at HF;have HF:=uA HF;rw[←hτ]
  have HSP:Hid (∀w3 ρ3,RG w3 b ρ3 τ→Calls Tryz.prog 89 #[.pointer (some ⟨b,0,none⟩),.agg #[int 2,int 0,int 0,int (2*(d:Int)+j),int A,rA,int 0,int 0,int 0,int 0,int 0,int 0,int 0,int 0,rA,int 0],int x,int (-1)] w3 fun e w'=>e=.returned (.tuple #[])∧∃ρ',RG w' b ρ' (τ.spread x none (.unsub (2*d+j) A))∧Mv mN ρ3 ρ' w3 w'):=uA (fun w3 ρ3 h3=>by
    have:=vG h3 (by omega) (x:=x) (by omega) none (nF0 (w:=w3) (ρ:=ρ3) (2*d+j) A) (by omega);rw[hsc] at this
    exact this)
  have HCL:Hid (∀w3 ρ3 τ',RG w3 b ρ3 τ'→τ'.cl=τ.cl→w3.cell? ⟨b,3+d*13,none⟩=some (int x)∧w3.cell? ⟨b,3+d*13+4+j,none⟩=some (int A)):=uA (fun w3 ρ3 τ' h3 he=>by
    have C3:=h3.cl hd;rw[he,hτc] at C3;have q0:=C3.here;have q2:=C3.age j hj;simp only[hh] at q0;rw[hAe]
    exact⟨q0,q2⟩)
  have HSC:Hid ((τ.spread x none (.unsub (2*d+j) A)).cl=τ.cl):=uA (rB (f:=.unsub (2*d+j) A) (x:=x) _ τ).2.1;have HM1:=uA m1;clear h h1 m1 C hA hst hsc hAe hτ hτc hτn hτw hN hx hs;go_enter Tryz.func55,Tryz.ntmps55
  go_wp2_with (first
    | (go_at_call 38;refine(yA HA).mono ?_;rintro e w1 ⟨rfl,hw1⟩;have hw1:=hw1.symm;subst hw1)
    | (go_at_call 46;refine(yA HS).mono ?_;rintro e w2 ⟨rfl,hw2⟩;have hw2:=hw2.symm;subst hw2)
    | (go_at_call 76;refine(yA HF).mono ?_;rintro e w3 ⟨rfl,ρ3,h3,m3⟩
       obtain⟨q0,q2⟩:=yA HCL w3 ρ3 τ h3 rfl;have HX3:=uA h3;have HM3:=uA m3
       clear h3 m3))
  go_region_held3 (fun w'=>w'.cell? ⟨b,3+d*13,none⟩=some (int x)∧w'.cell? ⟨b,3+d*13+4+j,none⟩=some (int A))
    (first
      | exact⟨q0,q2⟩
      | exact q4
      | go_keep)
    (first
      | (go_at_call 89;refine(yA HSP w3.drew ρ3 ((yA HX3).calm (cP0 _ _).drew)).mono ?_;rintro e w4 ⟨rfl,ρ4,h4,m4⟩
         have q4:=yA HCL w4 ρ4 _ h4 (yA HSC);have HX4:=uA h4;have HM4:=uA ((zQ0 (S:=mN) (yA HX3).lt (cP0 (fun _=>False) w3).drew).trans m4)
         clear h4 m4))
  all_goals go_wp2
  all_goals go_ret
  all_goals exact⟨rfl,ρ4,yA HX4,(((yA HM1).mono (fun r hr=>Or.inl hr)).trans ((yA HM3).mono (fun r hr=>by rcases hr with e | e<;>simp[e]))).trans ((yA HM4).mono (fun r hr=>by rcases hr with e | e<;>simp[e]))⟩
section
variable {w : World} {b : Nat} {ρ : Nat → Option Role} {σ : Net}
set_option maxRecDepth 100000 in
set_option maxHeartbeats 1000000 in
theorem iP (h:RG w b ρ σ)(c k:Int)(hA:σ.asked (dA c)≠0):
  Calls Tryz.prog 55 #[.pointer (some ⟨b,0,none⟩),int c,int k] w fun e w'=>e=.returned (int (σ.asked (dA c)))∧w'=w:=by
 have HA:=uA (aC h c);obtain⟨E,hEE⟩:∃E,E=σ.asked (dA c):=⟨_,rfl⟩;rw[←hEE] at HA hA ⊢;have hE1:(E == 0)=false:=by rw[vB];exact pP0 hA
 clear hA hEE h;go_enter Tryz.func55,Tryz.ntmps55
 go_wp2_with (go_at_call 38;refine(yA HA).mono ?_;rintro e w1 ⟨rfl,hw1⟩;have hw1:=hw1.symm;subst hw1)
 go_ret;exact⟨rfl,rfl⟩
set_option maxRecDepth 100000 in
set_option maxHeartbeats 1000000 in
theorem tC0 (h:RG w b ρ σ)(c k:Int)(hA:σ.asked (dA c)=0)(hk:¬(0≤k∧k<2)):
  Calls Tryz.prog 55 #[.pointer (some ⟨b,0,none⟩),int c,int k] w fun e w'=>e=.returned (int 1)∧w'=w:=by
 have HA:=aC h c;rw[hA] at HA;have HA:=uA HA;clear hA h;by_cases h0:k<0
 ·go_enter Tryz.func55,Tryz.ntmps55
  go_wp2_with (go_at_call 38;refine(yA HA).mono ?_;rintro e w1 ⟨rfl,hw1⟩;have hw1:=hw1.symm;subst hw1)
  go_ret;exact⟨rfl,rfl⟩
 ·have h1:1<k:=by omega
  go_enter Tryz.func55,Tryz.ntmps55
  go_wp2_with (go_at_call 38;refine(yA HA).mono ?_;rintro e w1 ⟨rfl,hw1⟩;have hw1:=hw1.symm;subst hw1)
  go_ret;exact⟨rfl,rfl⟩
set_option maxRecDepth 100000 in
set_option maxHeartbeats 1000000 in
theorem uZ (h:RG w b ρ σ){d j:Nat}(hd:d<4)(hj:j<2)(hA:σ.asked (dA d)=0)(hS:σ.still d≠0):
  Calls Tryz.prog 55 #[.pointer (some ⟨b,0,none⟩),int d,int j] w fun e w'=>e=.returned (int (σ.still d))∧w'=w:=by
 have HA:=aC h d;rw[hA] at HA;have HA:=uA HA;have HS:=uA (eM h hd);obtain⟨E,hEE⟩:∃E,E=σ.still d:=⟨_,rfl⟩;rw[←hEE] at HS hS ⊢;have hE1:(E == 0)=false:=by rw[vB];exact pP0 hS
 have hjI:(j:Int)<2:=by omega
 clear hA hS hEE h;go_enter Tryz.func55,Tryz.ntmps55
 go_wp2_with (first
  | (go_at_call 38;refine(yA HA).mono ?_;rintro e w1 ⟨rfl,hw1⟩;have hw1:=hw1.symm;subst hw1)
  | (go_at_call 46;refine(yA HS).mono ?_;rintro e w2 ⟨rfl,hw2⟩;have hw2:=hw2.symm;subst hw2))
 go_ret;exact⟨rfl,rfl⟩
set_option maxRecDepth 100000 in
set_option maxHeartbeats 1000000 in
theorem sC0 (h:RG w b ρ σ){d j:Nat}(hd:d<4)(hj:j<2)(hA:σ.asked (dA d)=0)(hS:σ.still d=0)(hu:(σ.cl d).used j=false):
  Calls Tryz.prog 55 #[.pointer (some ⟨b,0,none⟩),int d,int j] w fun e w'=>e=.returned (int 7)∧w'=w:=by
 have HA:=aC h d;rw[hA] at HA;have HA:=uA HA;have HS:=eM h hd;rw[hS] at HS;have HS:=uA HS;have hjI:(j:Int)<2:=by omega
 have hdI:(d:Int)<4:=by omega
 have d1:=(h.cl hd).used j hj;rw[hu] at d1;clear hA hS h hu;go_enter Tryz.func55,Tryz.ntmps55
 go_wp2_with (first
  | (go_at_call 38;refine(yA HA).mono ?_;rintro e w1 ⟨rfl,hw1⟩;have hw1:=hw1.symm;subst hw1)
  | (go_at_call 46;refine(yA HS).mono ?_;rintro e w2 ⟨rfl,hw2⟩;have hw2:=hw2.symm;subst hw2))
 go_ret;exact⟨rfl,rfl⟩
set_option maxRecDepth 100000 in
set_option maxHeartbeats 1000000 in
theorem rC0 (h:RG w b ρ σ){d j:Nat}(hd:d<4)(hj:j<2)(hA:σ.asked (dA d)=0)(hS:σ.still d=0)(hu:(σ.cl d).used j=true)(hf:100≤σ.waiting):
  Calls Tryz.prog 55 #[.pointer (some ⟨b,0,none⟩),int d,int j] w fun e w'=>e=.returned (int 6)∧w'=w:=by
 have HA:=aC h d;rw[hA] at HA;have HA:=uA HA;have HS:=eM h hd;rw[hS] at HS;have HS:=uA HS;have hjI:(j:Int)<2:=by omega
 have hdI:(d:Int)<4:=by omega
 have d1:=(h.cl hd).used j hj;rw[hu] at d1;obtain⟨a,cap,g1⟩:=h.frames;obtain⟨N,hN⟩:∃N,N=σ.waiting:=⟨_,rfl⟩;rw[←hN] at g1 hf;have hfI:¬(N:Int)<100:=by omega
 have hfI2:(100:Int)≤(N:Int):=by omega
 clear hA hS h hu hN hf;go_enter Tryz.func55,Tryz.ntmps55
 go_wp2_with (first
  | (go_at_call 38;refine(yA HA).mono ?_;rintro e w1 ⟨rfl,hw1⟩;have hw1:=hw1.symm;subst hw1)
  | (go_at_call 46;refine(yA HS).mono ?_;rintro e w2 ⟨rfl,hw2⟩;have hw2:=hw2.symm;subst hw2))
 go_ret;exact⟨rfl,rfl⟩
theorem unsubG (h:RG w b ρ σ){m:Nat}(F:Fit σ m)(c k:Int):
  Calls Tryz.prog 55 #[.pointer (some ⟨b,0,none⟩),int c,int k] w fun e w'=>e=.returned (int (σ.unsubE c k))∧∃ρ',RG w' b ρ' (σ.unsub c k)∧Mv uB ρ ρ' w w':=by
 have no:∀E:Int,σ.unsubE c k=E→E≠0→Calls Tryz.prog 55 #[.pointer (some ⟨b,0,none⟩),int c,int k] w (fun e w'=>e=.returned (int E)∧w'=w)→Calls Tryz.prog 55 #[.pointer (some ⟨b,0,none⟩),int c,int k] w fun e w'=>e=.returned (int (σ.unsubE c k))∧∃ρ',RG w' b ρ' (σ.unsub c k)∧Mv uB ρ ρ' w w':=fun E hE hne hc=>by
  refine hc.mono ?_;rintro e w' ⟨rfl,rfl⟩
  have:σ.unsub c k=σ:=by unfold Net.unsub;rw[if_neg (by rw[hE];exact hne)]
  rw[this,hE];exact⟨rfl,ρ,h,aP0 h.lt⟩
 have hs6:σ.n≤6:=gB F.good.tree;by_cases hA:σ.asked (dA c)=0
 ·obtain⟨d,hd,rfl⟩:=uE hA;have hcl:σ.closed=false:=by
   unfold Net.asked at hA;split at hA
   ·omega
   ·rename_i hc;simpa using hc
  by_cases hk:0≤k∧k<2
  ·obtain⟨j,rfl⟩:∃j:Nat,k=j:=⟨k.toNat,by omega⟩;have hj:j<2:=by omega
   have hg:σ.asked (dA d && decide ((0:Int)≤j∧(j:Int)<2))=0:=by
    rw[decide_eq_true hk,Bool.and_true];exact hA
   have hE:σ.unsubE d j=if σ.still d≠0 then σ.still d else if (σ.cl d).used j then (if σ.full then 6 else 0) else 7:=by
    unfold Net.unsubE;rw[if_neg (by rw[hg];simp),iO0,iO0]
   by_cases hS:σ.still d=0
   ·rw[if_neg (by rw[hS];simp)] at hE
    cases hu:(σ.cl d).used j with
    | false=>
     rw[hu] at hE;exact no 7 hE (by omega) (sC0 h hd hj hA hS hu)
    | true=>
     rw[hu] at hE;by_cases hf:100≤σ.waiting
     ·have:σ.full=true:=decide_eq_true hf;rw[this] at hE;exact no 6 hE (by omega) (rC0 h hd hj hA hS hu hf)
     ·have:σ.full=false:=pP0 hf;rw[this] at hE;have hE:σ.unsubE d j=0:=hE;cases hh:(σ.cl d).here with
      | none=>unfold Net.still at hS;rw[hh] at hS;simp at hS
      | some x=>
       have hx:=(F.good.clis d hd).here x hh;refine(iI0 h hd hj hcl hS hh hx hs6 hu (by omega)).mono ?_;rintro e w' ⟨rfl,ρ',k1,k2⟩
       have hN:σ.unsub d j=((σ.setCl d {σ.cl d with used:=put (σ.cl d).used j false}).know x (2*d+j) none).spread x none (.unsub (2*d+j) ((σ.cl d).age j)):=by
        unfold Net.unsub;rw[if_pos hE,iO0,iO0,hh]
       rw[hE,hN];exact⟨rfl,ρ',k1,k2.mono (fun _ _=>trivial)⟩
   ·rw[if_pos hS] at hE;exact no _ hE hS (uZ h hd hj hA hS)
  ·have hE:σ.unsubE d k=1:=by
    unfold Net.unsubE Net.asked;rw[hcl,pP0 hk];simp
   exact no 1 hE (by omega) (tC0 h d k hA hk)
 ·have hE:σ.unsubE c k=σ.asked (dA c):=by
   have:σ.asked (dA c && decide (0≤k∧k<2))=σ.asked (dA c):=by
    unfold Net.asked at hA ⊢;split
    ·rfl
    ·rename_i hc
     rw[if_neg hc] at hA;split at hA
     ·exact absurd rfl hA
     ·rename_i hg
      have:dA c=false:=by simpa using hg
      rw[this];rfl
   unfold Net.unsubE;rw[this,if_pos hA]
  exact no _ hE hA (iP h c k hA)
end
end Go.Proofs.YtodfcpblcpogiaaGreat

import Derived.Test.YtodfcpblcpogiaaGreatSubX
namespace Go.Proofs.YtodfcpblcpogiaaGreat
open Go.RowKit
def xM (σ:Net)(c:Nat):Bool:=!((σ.cl c).used (σ.slot c))
def zB0 (σ:Net)(c:Nat):Nat:=if xM σ c then σ.slot c else 0
theorem xO {w:World}{b:Nat}{ρ:zA}{σ:Net}(h:XN w b ρ σ){c:Nat}(hc:c<4):Calls Tryz.prog 111 #[.pointer (some ⟨b,86+c*31,none⟩)] w fun e w'=>e=.returned (.tuple #[int (zB0 σ c:Nat),.bool (xM σ c)])∧w'=w:=by
 cases hu:(σ.cl c).used (σ.slot c) with
 | false=>
  have h1:xM σ c=true:=by simp[xM,hu]
  have h2:zB0 σ c=σ.slot c:=by simp[zB0,h1]
  rw[h1,h2];exact uW h hc hu
 | true=>
  have h1:xM σ c=false:=by simp[xM,hu]
  have h2:zB0 σ c=0:=by simp[zB0,h1]
  rw[h1,h2];have C:=h.cli c hc;have u0:=C.used 0 (by omega);have u1:=C.used 1 (by omega);unfold Net.slot at hu;cases h0:(σ.cl c).used 0 with
  | false=>rw[h0] at hu;simp at hu;rw[h0] at hu;cases hu
  | true=>
   rw[h0] at u0 hu;simp only[if_true] at hu;rw[hu] at u1;exact lH0 b (86+c*31) w u0 u1
section
variable {w : World} {b : Nat} {ρ : Nat → Option Role} {σ : Net}
set_option maxRecDepth 100000 in
set_option maxHeartbeats 1000000 in
theorem yU (h:XN w b ρ σ)(c:Int)(hcc:dA c=false){l:List Tst}(hl:yB l=true){a:Option Addr}(ht:TestsAt w a l)(cap:Nat):
    Calls Tryz.prog 85 #[.pointer (some ⟨b,0,none⟩),int c,.slice a l.length cap] w fun e w'=>e=.returned (.tuple #[int 0,int 1])∧qA w w':=by
  have hcl:=h.closed;have hct:chk false=1:=rfl;have hbl:=h.lt b (by rw[h.net];simp)
  have HT:=uA ht;have HL:=uA hl;clear h ht hl;go_enter Tryz.func85,Tryz.ntmps85
  go_wp2_with (first
    | (go_at_call 110;refine(dC a cap l _ (yA HL) (yA HT)).mono ?_;rintro r w1 ⟨rfl,ht1⟩
       have hcl1:=(ht1.alloc (.cells #[int (sA l 0).fld,int (sA l 0).op,int (sA l 0).n,int (sA l 1).fld,int (sA l 1).op,int (sA l 1).n,int (sA l 2).fld,int (sA l 2).op,int (sA l 2).n,int l.length] 80)).cell (p:=⟨b,0,none⟩) id hcl;have HT1:=uA ht1
       clear ht1 hcl)
    | (go_at_call 26;refine(aA _ _).mono ?_;rw[hcc];rintro r w2 ⟨rfl,hw2⟩;have hw2:=hw2.symm;subst hw2)
    | (go_at_call 25;refine(sB _ _ _ hcl1).mono ?_;rintro r w2 ⟨rfl,hw2⟩;have hw2:=hw2.symm;subst hw2))
  go_ret2;exact⟨rfl,(yA HT1).alloc _⟩
set_option maxRecDepth 100000 in
set_option maxHeartbeats 2000000 in
theorem tX (h:XN w b ρ σ){m:Nat}(F:Fit σ m){c:Nat}(hc:c<4){l:List Tst}(hl:yB l=true){a:Option Addr}(ht:TestsAt w a l)(cap:Nat)(hE:σ.subE c l≠0):
    Calls Tryz.prog 85 #[.pointer (some ⟨b,0,none⟩),int c,.slice a l.length cap] w fun e w'=>e=.returned (.tuple #[int 0,int (σ.subE c l)])∧qA w w':=by
  have hcl:=h.closed;have hct:chk true=0:=rfl;have hcc:dA (c:Int)=true:=jC hc;have hci:(c:Int)<4:=by omega
  have hbl:=h.lt b (by rw[h.net];simp)
  have T:=F.good.tree;have hx6:∀y,(σ.cl c).here=some y→y<6:=fun y hy=>sO0 ((F.good.clis c hc).here y hy) (gB T);have hask:σ.asked (dA (c:Int) && yB l)=0:=zH h.open_ (by rw[hcc,hl];rfl);have hweq:=F.live.waits_eq hc;have HX:=uA h;have HT:=uA ht;have HL:=uA hl;have HF:=uA F;have HX6:=uA hx6;cases hh:(σ.cl c).here with
  | none=>
    have e3:σ.subE c l=3:=by simp[Net.subE,hask,Net.still,hh]
    rw[e3];clear h ht hl F hx6 hE;go_enter Tryz.func85,Tryz.ntmps85
    go_wp2_with (first
      | (go_at_call 110;refine(dC a cap l _ (yA HL) (yA HT)).mono ?_;rintro r w1 ⟨rfl,ht1⟩
         have ht2:=ht1.alloc (.cells #[int (sA l 0).fld,int (sA l 0).op,int (sA l 0).n,int (sA l 1).fld,int (sA l 1).op,int (sA l 1).n,int (sA l 2).fld,int (sA l 2).op,int (sA l 2).n,int l.length] 80);have hcl1:=ht2.cell (p:=⟨b,0,none⟩) id hcl;have HXW:=uA ((yA HX).calm ht2);have hat:(w1.alloc (.cells #[int (sA l 0).fld,int (sA l 0).op,int (sA l 0).n,int (sA l 1).fld,int (sA l 1).op,int (sA l 1).n,int (sA l 2).fld,int (sA l 2).op,int (sA l 2).n,int l.length] 80)).cell? ⟨b,86+c*31,none⟩=some (int (-1)):=by have:=((yA HXW).cli c hc).here;rw[hh] at this;exact this
         have HT1:=uA ht2
         clear ht1 ht2 hcl)
      | (go_at_call 26;refine(aA _ _).mono ?_;rw[hcc];rintro r w2 ⟨rfl,hw2⟩;have hw2:=hw2.symm;subst hw2)
      | (go_at_call 25;refine(sB _ _ _ hcl1).mono ?_;rintro r w2 ⟨rfl,hw2⟩;have hw2:=hw2.symm;subst hw2)
      | (go_at_call 111;refine(xO (yA HXW) hc).mono ?_;rintro r w2 ⟨rfl,hw2⟩;have hw2:=hw2.symm;subst hw2)
      | (go_at_call 32;refine(zC b (86+c*31) (-1) _ hat).mono ?_;rintro r w2 ⟨rfl,hw2⟩;have hw2:=hw2.symm;subst hw2))
    go_ret2;exact⟨rfl,yA HT1⟩
  | some x=>
    have hxm:((x:Int) == -1)=false:=by rw[iE];exact pP0 (by omega)
    cases hwt:σ.waits c with
    | true=>
      have e5:σ.subE c l=5:=by simp[Net.subE,hask,Net.still,hh,hwt]
      rw[e5];have hwt2:lD σ c=true:=by rw[hweq];exact hwt
      clear h ht hl F hx6 hE hwt hweq;go_enter Tryz.func85,Tryz.ntmps85
      go_wp2_with (first
        | (go_at_call 110;refine(dC a cap l _ (yA HL) (yA HT)).mono ?_;rintro r w1 ⟨rfl,ht1⟩
           have ht2:=ht1.alloc (.cells #[int (sA l 0).fld,int (sA l 0).op,int (sA l 0).n,int (sA l 1).fld,int (sA l 1).op,int (sA l 1).n,int (sA l 2).fld,int (sA l 2).op,int (sA l 2).n,int l.length] 80);have hcl1:=ht2.cell (p:=⟨b,0,none⟩) id hcl;have HXW:=uA ((yA HX).calm ht2);have hat:(w1.alloc (.cells #[int (sA l 0).fld,int (sA l 0).op,int (sA l 0).n,int (sA l 1).fld,int (sA l 1).op,int (sA l 1).n,int (sA l 2).fld,int (sA l 2).op,int (sA l 2).n,int l.length] 80)).cell? ⟨b,86+c*31,none⟩=some (int x):=by have:=((yA HXW).cli c hc).here;rw[hh] at this;exact this
           have HT1:=uA ht2
           clear ht1 ht2 hcl)
        | (go_at_call 26;refine(aA _ _).mono ?_;rw[hcc];rintro r w2 ⟨rfl,hw2⟩;have hw2:=hw2.symm;subst hw2)
        | (go_at_call 25;refine(sB _ _ _ hcl1).mono ?_;rintro r w2 ⟨rfl,hw2⟩;have hw2:=hw2.symm;subst hw2)
        | (go_at_call 111;refine(xO (yA HXW) hc).mono ?_;rintro r w2 ⟨rfl,hw2⟩;have hw2:=hw2.symm;subst hw2)
        | (go_at_call 32;refine(zC b (86+c*31) x _ hat).mono ?_;rw[hxm];rintro r w2 ⟨rfl,hw2⟩;have hw2:=hw2.symm;subst hw2)
        | (go_at_call 28;refine(mG (yA HXW) hc (yA HX6)).mono ?_;rw[hwt2];rintro r w2 ⟨rfl,htw⟩))
      go_ret2;exact⟨rfl,(yA HT1).trans htw⟩
    | false=>
      have hwt2:lD σ c=false:=by rw[hweq];exact hwt
      cases hu:(σ.cl c).used (σ.slot c) with
      | true=>
        have e7:σ.subE c l=7:=by simp[Net.subE,hask,Net.still,hh,hwt,hu]
        rw[e7];have hfb:xM σ c=false:=by simp[xM,hu]
        clear h ht hl F hx6 hE hwt hweq hu;go_enter Tryz.func85,Tryz.ntmps85
        go_wp2_with (first
          | (go_at_call 110;refine(dC a cap l _ (yA HL) (yA HT)).mono ?_;rintro r w1 ⟨rfl,ht1⟩
             have ht2:=ht1.alloc (.cells #[int (sA l 0).fld,int (sA l 0).op,int (sA l 0).n,int (sA l 1).fld,int (sA l 1).op,int (sA l 1).n,int (sA l 2).fld,int (sA l 2).op,int (sA l 2).n,int l.length] 80);have hcl1:=ht2.cell (p:=⟨b,0,none⟩) id hcl;have HXW:=uA ((yA HX).calm ht2);have hat:(w1.alloc (.cells #[int (sA l 0).fld,int (sA l 0).op,int (sA l 0).n,int (sA l 1).fld,int (sA l 1).op,int (sA l 1).n,int (sA l 2).fld,int (sA l 2).op,int (sA l 2).n,int l.length] 80)).cell? ⟨b,86+c*31,none⟩=some (int x):=by have:=((yA HXW).cli c hc).here;rw[hh] at this;exact this
             have HT1:=uA ht2
             clear ht1 ht2 hcl)
          | (go_at_call 26;refine(aA _ _).mono ?_;rw[hcc];rintro r w2 ⟨rfl,hw2⟩;have hw2:=hw2.symm;subst hw2)
          | (go_at_call 25;refine(sB _ _ _ hcl1).mono ?_;rintro r w2 ⟨rfl,hw2⟩;have hw2:=hw2.symm;subst hw2)
          | (go_at_call 111;refine(xO (yA HXW) hc).mono ?_;rw[hfb];rintro r w2 ⟨rfl,hw2⟩;have hw2:=hw2.symm;subst hw2)
          | (go_at_call 32;refine(zC b (86+c*31) x _ hat).mono ?_;rw[hxm];rintro r w2 ⟨rfl,hw2⟩;have hw2:=hw2.symm;subst hw2)
          | (go_at_call 28;refine(mG (yA HXW) hc (yA HX6)).mono ?_;rw[hwt2];rintro r w2 ⟨rfl,htw⟩))
        go_ret2;exact⟨rfl,(yA HT1).trans htw⟩
      | false=>
        cases hful:σ.full with
        | false=>exact absurd (by simp[Net.subE,hask,Net.still,hh,hwt,hu,hful]) hE
        | true=>
          have e6:σ.subE c l=6:=by simp[Net.subE,hask,Net.still,hh,hwt,hu,hful]
          rw[e6];have hfb:xM σ c=true:=by simp[xM,hu]
          clear h ht hl F hx6 hE hwt hweq hu;go_enter Tryz.func85,Tryz.ntmps85
          go_wp2_with (first
            | (go_at_call 110;refine(dC a cap l _ (yA HL) (yA HT)).mono ?_;rintro r w1 ⟨rfl,ht1⟩
               have ht2:=ht1.alloc (.cells #[int (sA l 0).fld,int (sA l 0).op,int (sA l 0).n,int (sA l 1).fld,int (sA l 1).op,int (sA l 1).n,int (sA l 2).fld,int (sA l 2).op,int (sA l 2).n,int l.length] 80);have hcl1:=ht2.cell (p:=⟨b,0,none⟩) id hcl;have HXW:=uA ((yA HX).calm ht2);have hat:(w1.alloc (.cells #[int (sA l 0).fld,int (sA l 0).op,int (sA l 0).n,int (sA l 1).fld,int (sA l 1).op,int (sA l 1).n,int (sA l 2).fld,int (sA l 2).op,int (sA l 2).n,int l.length] 80)).cell? ⟨b,86+c*31,none⟩=some (int x):=by have:=((yA HXW).cli c hc).here;rw[hh] at this;exact this
               have HT1:=uA ht2
               clear ht1 ht2 hcl)
            | (go_at_call 26;refine(aA _ _).mono ?_;rw[hcc];rintro r w2 ⟨rfl,hw2⟩;have hw2:=hw2.symm;subst hw2)
            | (go_at_call 25;refine(sB _ _ _ hcl1).mono ?_;rintro r w2 ⟨rfl,hw2⟩;have hw2:=hw2.symm;subst hw2)
            | (go_at_call 111;refine(xO (yA HXW) hc).mono ?_;rw[hfb];rintro r w2 ⟨rfl,hw2⟩;have hw2:=hw2.symm;subst hw2)
            | (go_at_call 32;refine(zC b (86+c*31) x _ hat).mono ?_;rw[hxm];rintro r w2 ⟨rfl,hw2⟩;have hw2:=hw2.symm;subst hw2)
            | (go_at_call 28;refine(mG (yA HXW) hc (yA HX6)).mono ?_;rw[hwt2];rintro r w2 ⟨rfl,htw⟩
               have HXV:=uA ((yA HXW).calm htw);have HTW:=uA ((yA HT1).trans htw)
               clear htw)
            | (go_at_call 33;refine(yO (yA HXV) (yA HF)).mono ?_;rw[hful];rintro r w3 ⟨rfl,ht3⟩))
          go_ret2;exact⟨rfl,(yA HTW).trans ht3⟩
theorem kC0 (h:XN w b ρ σ){m:Nat}(F:Fit σ m)(hm:m<2000000000000)(c:Int){l:List Tst}(hl:yB l=true){a:Option Addr}(ht:TestsAt w a l)(cap:Nat):
  Calls Tryz.prog 85 #[.pointer (some ⟨b,0,none⟩),int c,.slice a l.length cap] w fun e w'=>e=.returned (.tuple #[int (if σ.subE c l=0 then (σ.slot c.toNat:Nat) else 0),int (σ.subE c l)])∧∃ρ',XN w' b ρ' (σ.sub c l)∧Mv uB ρ ρ' w w':=by
 cases hcc:dA c with
 | false=>
  have hE:σ.subE c l=1:=by simp[Net.subE,Net.asked,h.open_,hcc]
  have hA:σ.sub c l=σ:=by simp[Net.sub,hE]
  rw[hE,hA];exact(yU h c hcc hl ht cap).mono fun e w' ⟨h1,h2⟩=>⟨by rw[h1];rfl,ρ,h.calm h2,h.mvCalm h2⟩
 | true=>
  have hcc':=hcc;simp only[dA,oP0] at hcc';obtain⟨c',rfl⟩:∃c':Nat,c=c':=⟨c.toNat,by omega⟩;have hc:c' < 4:=by omega
  by_cases hE:σ.subE c' l=0
  ·obtain⟨_,_,_,h1,h2,h3,h4⟩:=yV hE;simp only[lF] at h1 h2 h3;cases hh:(σ.cl c').here with
   | none=>exact absurd hh h1
   | some x=>
    have hA:σ.sub c' l=((σ.setCl c' ((σ.cl c').subs (σ.slot c') l)).handle x none (.sub (2*c'+σ.slot c') ((σ.cl c').age (σ.slot c')+1) l)):=by
     simp only[Net.sub,hE,if_true,lF,hh,Net.subN,Net.handle];congr 1
     unfold Net.learn;have hk2:σ.slot c' < 2:=by unfold Net.slot;split<;>omega
     have hkn:(σ.setCl c' ((σ.cl c').subs (σ.slot c') l)).kn x (2*c'+σ.slot c')=σ.kn x (2*c'+σ.slot c'):=rfl;rw[hkn];cases hf:σ.kn x (2*c'+σ.slot c') with
     | none=>simp[Cli.subs,hh]
     | some f=>
      have hs:(2*c'+σ.slot c')/2=c':=by omega
      have hk3:(2*c'+σ.slot c')%2=σ.slot c':=by omega
      have hage:=(F.live.view (2*c'+σ.slot c') (by omega)).facts x f.co (by show (σ.kn x (2*c'+σ.slot c')).map Fact.co=_;rw[hf];rfl);have h5:(σ.view (2*c'+σ.slot c')).age=(σ.cl c').age (σ.slot c'):=by simp only[Net.view,hs,hk3]
      rw[h5] at hage;have h6:f.age<(σ.cl c').age (σ.slot c')+1:=by have:f.co.age=f.age:=rfl;omega
      simp only[if_pos h6];simp[Cli.subs,hh]
    rw[hA,if_pos hE,hE];exact uX h F hm hc hh rfl h3 h2 h4 hl ht cap
  ·have hA:σ.sub c' l=σ:=by simp[Net.sub,hE]
   rw[hA,if_neg hE];exact(tX h F hc hl ht cap hE).mono fun e w' ⟨h1,h2⟩=>⟨h1,ρ,h.calm h2,h.mvCalm h2⟩
theorem XN.leave (h:XN w b ρ σ){c:Nat}(hc:c<4):XN (w.setCell ⟨b,86+c*31,none⟩ (int (-1))) b ρ (σ.setCl c {σ.cl c with here:=none})∧Mv uB ρ ρ w (w.setCell ⟨b,86+c*31,none⟩ (int (-1))):=by
 have C:=h.cli c hc;have hne:∀o u,o≠86+c*31→w.cell? ⟨b,o,none⟩=some u→(w.setCell ⟨b,86+c*31,none⟩ (int (-1))).cell? ⟨b,o,none⟩=some u:=fun o u ho hu=>tA w ho hu;have hkr:∀i r,ρ i=some r→r≠.net→(w.setCell ⟨b,86+c*31,none⟩ (int (-1))).heap[i]?=w.heap[i]?∧ρ i=ρ i:=fun i r hi hr=>⟨zB w _ (fun e=>by subst e;rw[h.net] at hi;cases hi;exact hr rfl),rfl⟩;refine⟨h.storeCli hc _ _ (by omega) (by omega) ?_,yQ0 (S:=uB) h.lt h.net trivial _ _⟩;obtain⟨u,g1,g2⟩:=C.log;refine⟨mP0 w _ _ C.here,hne _ _ (by omega) C.home,hne _ _ (by omega) C.stays,hne _ _ (by omega) C.many,fun k h2=>hne _ _ (by omega) (C.used k h2),fun k h2=>hne _ _ (by omega) (C.age k h2),fun k h2=>(C.fl k h2).keep (fun j v hj=>hne _ _ (by omega)),fun k h2=>?_,u,hne _ _ (by omega) g1,g2.keep (fun i hi=>hkr i _ hi (by simp))⟩;obtain⟨u',f1,f2⟩:=C.heard k h2;exact⟨u',hne _ _ (by omega) f1,f2.keep (fun i hi=>hkr i _ hi (by simp))⟩
set_option maxRecDepth 100000 in
set_option maxHeartbeats 1000000 in
theorem kN0 (h:XN w b ρ σ){m:Nat}(F:Fit σ m)(c:Int):
    Calls Tryz.prog 16 #[.pointer (some ⟨b,0,none⟩),int c] w fun e w'=>e=.returned (int (σ.detachE c))∧XN w' b ρ (σ.detach c)∧Mv uB ρ ρ w w':=by
  have hcl:=h.closed;have hct:chk true=0:=rfl;have hcf:chk false=1:=rfl;have hbl:=h.lt b (by rw[h.net];simp)
  cases hcc:dA c with
  | false=>
    have hE:σ.detachE c=1:=by simp[Net.detachE,Net.asked,h.open_,hcc]
    have hA:σ.detach c=σ:=by simp[Net.detach,hE]
    rw[hE,hA];have HX:=uA h;clear h F;go_enter Tryz.func16,Tryz.ntmps16
    go_wp2_with (first
      | (go_at_call 26;refine(aA _ _).mono ?_;rw[hcc];rintro r w2 ⟨rfl,hw2⟩;have hw2:=hw2.symm;subst hw2)
      | (go_at_call 25;refine(sB _ _ _ hcl).mono ?_;rintro r w2 ⟨rfl,hw2⟩;have hw2:=hw2.symm;subst hw2))
    go_ret;exact⟨rfl,yA HX,aP0 (yA HX).lt⟩
  | true=>
    have hcc':=hcc;simp only[dA,oP0] at hcc';obtain⟨c',rfl⟩:∃c':Nat,c=c':=⟨c.toNat,by omega⟩;have hc:c' < 4:=by omega
    have hci:(c':Int)<4:=by omega
    have hask:σ.asked (dA (c':Int))=0:=zH h.open_ hcc;have hat:=(h.cli c' hc).here;have hx6:∀y,(σ.cl c').here=some y→y<6:=fun y hy=>sO0 ((F.good.clis c' hc).here y hy) (gB F.good.tree);have hweq:=F.live.waits_eq hc;cases hh:(σ.cl c').here with
    | none=>
      rw[hh] at hat;replace hat:w.cell? ⟨b,86+c'*31,none⟩=some (int (-1)):=hat;have hE:σ.detachE c'=3:=by simp[Net.detachE,hask,Net.still,hh]
      have hA:σ.detach c'=σ:=by simp[Net.detach,hE]
      rw[hE,hA];have HX:=uA h;clear h F hx6 hweq;go_enter Tryz.func16,Tryz.ntmps16
      go_wp2_with (first
        | (go_at_call 26;refine(aA _ _).mono ?_;rw[hcc];rintro r w2 ⟨rfl,hw2⟩;have hw2:=hw2.symm;subst hw2)
        | (go_at_call 25;refine(sB _ _ _ hcl).mono ?_;rintro r w2 ⟨rfl,hw2⟩;have hw2:=hw2.symm;subst hw2)
        | (go_at_call 32;refine(zC b (86+c'*31) (-1) _ hat).mono ?_;rintro r w2 ⟨rfl,hw2⟩;have hw2:=hw2.symm;subst hw2))
      go_ret;exact⟨rfl,yA HX,aP0 (yA HX).lt⟩
    | some x=>
      rw[hh] at hat;replace hat:w.cell? ⟨b,86+c'*31,none⟩=some (int x):=hat;have hxm:((x:Int) == -1)=false:=by rw[iE];exact pP0 (by omega)
      cases hwt:σ.waits c' with
      | true=>
        have hE:σ.detachE c'=5:=by simp[Net.detachE,hask,Net.still,hh,hwt]
        have hA:σ.detach c'=σ:=by simp[Net.detach,hE]
        have hwt2:lD σ c'=true:=by rw[hweq];exact hwt
        rw[hE,hA];have HX:=uA h;have HX6:=uA hx6;clear h F hx6 hweq hwt;go_enter Tryz.func16,Tryz.ntmps16
        go_wp2_with (first
          | (go_at_call 26;refine(aA _ _).mono ?_;rw[hcc];rintro r w2 ⟨rfl,hw2⟩;have hw2:=hw2.symm;subst hw2)
          | (go_at_call 25;refine(sB _ _ _ hcl).mono ?_;rintro r w2 ⟨rfl,hw2⟩;have hw2:=hw2.symm;subst hw2)
          | (go_at_call 32;refine(zC b (86+c'*31) x _ hat).mono ?_;rw[hxm];rintro r w2 ⟨rfl,hw2⟩;have hw2:=hw2.symm;subst hw2)
          | (go_at_call 28;refine(mG (yA HX) hc (yA HX6)).mono ?_;rw[hwt2];rintro r w2 ⟨rfl,htw⟩))
        go_ret;exact⟨rfl,(yA HX).calm htw,(yA HX).mvCalm htw⟩
      | false=>
        have hE:σ.detachE c'=0:=by simp[Net.detachE,hask,Net.still,hh,hwt]
        have hA:σ.detach c'=σ.setCl c' {σ.cl c' with here:=none}:=by simp[Net.detach,hE]
        have hwt2:lD σ c'=false:=by rw[hweq];exact hwt
        rw[hE,hA];have HX:=uA h;have HX6:=uA hx6;clear h F hx6 hweq hwt;go_enter Tryz.func16,Tryz.ntmps16
        go_wp2_with (first
          | (go_at_call 26;refine(aA _ _).mono ?_;rw[hcc];rintro r w2 ⟨rfl,hw2⟩;have hw2:=hw2.symm;subst hw2)
          | (go_at_call 25;refine(sB _ _ _ hcl).mono ?_;rintro r w2 ⟨rfl,hw2⟩;have hw2:=hw2.symm;subst hw2)
          | (go_at_call 32;refine(zC b (86+c'*31) x _ hat).mono ?_;rw[hxm];rintro r w2 ⟨rfl,hw2⟩;have hw2:=hw2.symm;subst hw2)
          | (go_at_call 28;refine(mG (yA HX) hc (yA HX6)).mono ?_;rw[hwt2];rintro r w2 ⟨rfl,htw⟩
             have HX2:=uA ((yA HX).calm htw);have HM2:Hid (Mv uB ρ ρ w w2):=zQ0 (yA HX).lt htw
             clear htw)
          | (go_at_call 45;refine(dG0 b (86+c'*31) _ _ ((yA HX2).cli c' hc).here (yA HX2).fr).mono ?_;rintro r w3 ⟨rfl,rfl⟩))
        go_ret;obtain⟨r1,r2⟩:=(yA HX2).leave hc;exact⟨rfl,r1,(yA HM2).trans r2⟩
end
theorem yH0 {σ:Net}{b s:Nat}(h:σ.kn b s=none):σ.know b s none=σ:=by
 have:xB σ.kn b s none=σ.kn:=by
  funext x t
  by_cases e:x=b∧t=s
  ·obtain⟨rfl,rfl⟩:=e;rw[put2_same,h]
  ·exact jA _ _ e
 simp only[Net.know,this]
theorem cD0 {σ:Net}{b s:Nat}{age:Int}(h:∀f,σ.kn b s=some f→f.age≤age):σ.forget b s age=σ.know b s none:=by
 unfold Net.forget;cases hk:σ.kn b s with
 | none=>exact(yH0 hk).symm
 | some f=>simp[h f hk]
section
variable {w : World} {b : Nat} {ρ : Nat → Option Role} {σ : Net}
set_option maxRecDepth 100000 in
set_option maxHeartbeats 2000000 in
theorem cQ (h:XN w b ρ σ){m:Nat}(F:Fit σ m){c x k:Nat}(hc:c<4)(hk:k<2)(hh:(σ.cl c).here=some x)(hu:(σ.cl c).used k=true)(hwt:σ.waits c=false)(hful:σ.full=false):
    Calls Tryz.prog 54 #[.pointer (some ⟨b,0,none⟩),int c,int k] w fun e w'=>e=.returned (int 0)∧∃ρ',XN w' b ρ' ((σ.setCl c ((σ.cl c).ends k)).handle x none (.unsub (2*c+k) ((σ.cl c).age k)))∧Mv uB ρ ρ' w w':=by
  have T:=F.good.tree;have hx:x<σ.n:=(F.good.clis c hc).here x hh;have hx6:x<6:=sO0 hx (gB T);have hki:(k:Int)<2:=by omega
  have hwt2:lD σ c=false:=by rw[F.live.waits_eq hc];exact hwt
  have hcc:dA (c:Int)=true:=jC hc;have hks:decide (0≤(k:Int)∧(k:Int)<2)=true:=decide_eq_true (by omega);have hci:(c:Int)<4:=by omega
  have hct:chk true=0:=rfl;have hxm:((x:Int) == -1)=false:=by rw[iE];exact pP0 (by omega)
  have hbl:=h.lt b (by rw[h.net];simp)
  have hcl:=h.closed;have hat:w.cell? ⟨b,86+c*31,none⟩=some (int x):=by have:=(h.cli c hc).here;rw[hh] at this;exact this
  have HX:=uA h;have HF:=uA F;have HH:=uA hh;have HX6:Hid (∀y,(σ.cl c).here=some y→y<6):=fun y hy=>by rw[hh] at hy;cases hy;exact hx6
  clear h F hh hwt;go_enter Tryz.func54,Tryz.ntmps54
  go_wp2_with (first
    | (go_at_call 26;refine(aA _ _).mono ?_;rw[hcc];rintro r w2 ⟨rfl,hw2⟩;have hw2:=hw2.symm;subst hw2)
    | (go_at_call 87;refine(bE _ _).mono ?_;rw[hks];rintro r w2 ⟨rfl,hw2⟩;have hw2:=hw2.symm;subst hw2)
    | (go_at_call 25;refine(sB _ _ _ hcl).mono ?_;rintro r w2 ⟨rfl,hw2⟩;have hw2:=hw2.symm;subst hw2)
    | (go_at_call 32;refine(zC b (86+c*31) x _ hat).mono ?_;rw[hxm];rintro r w2 ⟨rfl,hw2⟩;have hw2:=hw2.symm;subst hw2)
    | (go_at_call 28;refine(mG (yA HX) hc (yA HX6)).mono ?_;rw[hwt2];rintro r w2 ⟨rfl,htw⟩
       have HXV:=uA ((yA HX).calm htw);have HTW:=uA htw;have hus:w2.cell? ⟨b,86+c*31+4+k*13,none⟩=some (.bool ((σ.cl c).used k)):=((yA HXV).cli c hc).used k hk
       clear htw)
    | (go_at_call 63;refine(cD b (86+c*31) k _ _ hk hus).mono ?_;rw[hu];rintro r w3 ⟨rfl,hw3⟩;have hw3:=hw3.symm;subst hw3)
    | (go_at_call 33;refine(yO (yA HXV) (yA HF)).mono ?_;rw[hful];rintro r w3 ⟨rfl,ht3'⟩
       have ht3:=(yA HTW).trans ht3'
       clear ht3'))
  have HX3:=uA ((yA HX).calm ht3);have HM3:Hid (Mv uB ρ ρ w w3):=zQ0 (yA HX).lt ht3;have HS3:=uA ht3.size;have hn3:ρ w3.heap.size=none:=by
    cases hq:ρ w3.heap.size with
    | none=>rfl
    | some r=>have h1:=(yA HX).lt w3.heap.size (by rw[hq];simp);have h2:=yA HS3;omega
  have HN3:=uA hn3;generalize hA:(σ.cl c).age k=A at*;clear ht3 hn3 hcl hat HTW HXV hus;refine(nQ (yA HX3) hc hk).mono ?_;rw[hA];rintro r w4 ⟨rfl,h4,m4⟩
  have hn4:ρ w4.heap.size=none:=by
    cases hq:ρ w4.heap.size with
    | none=>rfl
    | some r=>have h1:=h4.lt w4.heap.size (by rw[hq];simp);omega
  have HN4:=uA hn4;have H4:=uA (h4.calm ((cP0 _ _).alloc (.cells #[int c,int k,int A,int 0,int 0,int 0,int 0,int 0,int 0,int 0,int 0,int 0,int 0] 137)));have M4:=uA (((yA HM3).trans (m4.mono (fun _ _=>trivial))).trans (zQ0 h4.lt ((cP0 _ _).alloc (.cells #[int c,int k,int A,int 0,int 0,int 0,int 0,int 0,int 0,int 0,int 0,int 0,int 0] 137))));have HBX:=uA (eP0 w4 (.cells #[int c,int k,int A,int 0,int 0,int 0,int 0,int 0,int 0,int 0,int 0,int 0,int 0] 137));clear h4 m4 hn4 HN3 HM3 HX3 HS3;go_wp2_with fail
  obtain⟨wc,hwc⟩:∃wc,w4.alloc (.cells #[int c,int k,int A,int 0,int 0,int 0,int 0,int 0,int 0,int 0,int 0,int 0,int 0] 137)=wc:=⟨_,rfl⟩;obtain⟨g,hg⟩:∃g,w4.heap.size=g:=⟨_,rfl⟩;rw[hwc] at H4 M4 HBX;have hXC:=yA H4;have hMC:=yA M4;have hbx:=yA HBX;rw[hg] at hbx;rw[hwc,hg];clear hwc hg HN4 H4 M4 HBX;have hcl':(σ.setCl c ((σ.cl c).ends k)).cl c=(σ.cl c).ends k:=by simp[Net.setCl]
  have CC:=hXC.cli c hc;rw[hcl'] at CC;have q0:wc.cell? ⟨b,86+c*31,none⟩=some (int x):=by have:=CC.here;rw[show ((σ.cl c).ends k).here=(σ.cl c).here from rfl,yA HH] at this;exact this
  have e0:wc.cell? ⟨g,0,none⟩=some (int c):=xA hbx 0;have e1:wc.cell? ⟨g,1,none⟩=some (int k):=xA hbx 1;have e2:wc.cell? ⟨g,2,none⟩=some (int A):=xA hbx 2;have e3:wc.cell? ⟨g,3,none⟩=some (int 0):=xA hbx 3;have e4:wc.cell? ⟨g,4,none⟩=some (int 0):=xA hbx 4;have e5:wc.cell? ⟨g,5,none⟩=some (int 0):=xA hbx 5;have e6:wc.cell? ⟨g,6,none⟩=some (int 0):=xA hbx 6;have e7:wc.cell? ⟨g,7,none⟩=some (int 0):=xA hbx 7;have e8:wc.cell? ⟨g,8,none⟩=some (int 0):=xA hbx 8;have e9:wc.cell? ⟨g,9,none⟩=some (int 0):=xA hbx 9;have e10:wc.cell? ⟨g,10,none⟩=some (int 0):=xA hbx 10;have e11:wc.cell? ⟨g,11,none⟩=some (int 0):=xA hbx 11;have e12:wc.cell? ⟨g,12,none⟩=some (int 0):=xA hbx 12;have hgl:g<wc.heap.size:=fP0 e0;have hbc:=hXC.lt b (by rw[hXC.net];simp)
  have hcan:tI (σ.setCl c ((σ.cl c).ends k)) x none (.unsub (2*c+k) A):=by show 2*c+k<8;omega
  have hFF:FrAt (wc.alloc (.cells #[int 1,int c,int k,int A,int 0,int 0,int 0,int 0,int 0,int 0,int 0,int 0,int 0,int 0,int 0,int 0,int 0,int 0,int 0,int 0,int 0,int 0,rA,int 0] 142)).drew (iA ρ wc.heap.size .frame) (.unsub (2*c+k) A) wc.heap.size:=by
    refine⟨by simp[iA],0,[int 0,int 0,int 0,int 0,int 0,int 0,int 0,int 0,int 0,int 0],rA,?_,rfl,by simp[Value.oneCell'],⟨⟨rfl,Or.inl ⟨rfl,rfl⟩⟩,fun g hg=>by cases hg⟩⟩;rw[mK c k hk];exact eP0 wc _
  obtain⟨hXF,hMF⟩:=hXC.addFrame (w':=(wc.alloc (.cells #[int 1,int c,int k,int A,int 0,int 0,int 0,int 0,int 0,int 0,int 0,int 0,int 0,int 0,int 0,int 0,int 0,int 0,int 0,int 0,int 0,int 0,rA,int 0] 142)).drew) (((cP0 _ _).alloc _).drew) (qO0 _) (by simp[World.drew]);have HXF:=uA hXF;have HMF:=uA hMF;have HFF:=uA hFF;have HLEN:Hid (∀z,((σ.setCl c ((σ.cl c).ends k)).q x z).length<2000):=fun z=>(yA HF).len x z;have HMC:=uA hMC;have HCAN:=uA hcan;clear hXC hMC CC hcan hXF hMF hFF hbx hcl';go_cut [] (fun wx=>∃ρ',XN wx b ρ' ((σ.setCl c ((σ.cl c).ends k)).handle x none (.unsub (2*c+k) A))∧Mv uB ρ ρ' w wx)
  case first=>
    go_region_with (first
      | (go_at_call 49;refine(iF b (86+c*31) x _ (by go_simp)).mono ?_;rintro r w5 ⟨rfl,rfl⟩)
      | (go_at_call 48;refine(iI (fr:=none) (yA HXF) T hx (yA HLEN) (yA HCAN) (yA HFF)).mono ?_;rintro r w6 ⟨rfl,ρ6,h6,m6⟩))
    all_goals go_wp2_with fail
    all_goals go_meet
    all_goals exact⟨ρ6,h6,((yA HMC).trans ((yA HMF).mono (fun _ f=>f.elim))).trans m6⟩
  case rest=>
    obtain⟨ρ',h7,m7⟩:=hcut;have H7:=uA h7;have M7:=uA m7;clear h7 m7 q0 e0 e1 e2 e3 e4 e5 e6 e7 e8 e9 e10 e11 e12;go_wp2;go_ret;exact⟨rfl,ρ',by rw[hA];exact yA H7,yA M7⟩
end
section
variable {w : World} {b : Nat} {ρ : Nat → Option Role} {σ : Net}
set_option maxRecDepth 100000 in
set_option maxHeartbeats 1000000 in
theorem sQ (h:XN w b ρ σ)(c k:Int)(hg:(dA c && decide (0≤k∧k<2))=false):
  Calls Tryz.prog 54 #[.pointer (some ⟨b,0,none⟩),int c,int k] w fun e w'=>e=.returned (int 1)∧w'=w:=by
 have hcl:=h.closed;have hct:chk false=1:=rfl;have hbl:=h.lt b (by rw[h.net];simp)
 clear h;cases hcc:dA c with
 | false=>
  go_enter Tryz.func54,Tryz.ntmps54
  go_wp2_with (first
   | (go_at_call 26;refine(aA _ _).mono ?_;rw[hcc];rintro r w2 ⟨rfl,hw2⟩;have hw2:=hw2.symm;subst hw2)
   | (go_at_call 25;refine(sB _ _ _ hcl).mono ?_;rintro r w2 ⟨rfl,hw2⟩;have hw2:=hw2.symm;subst hw2))
  go_ret;exact⟨rfl,rfl⟩
 | true=>
  have hks:decide (0≤k∧k<2)=false:=by rw[hcc] at hg;simpa using hg
  clear hg;go_enter Tryz.func54,Tryz.ntmps54
  go_wp2_with (first
   | (go_at_call 26;refine(aA _ _).mono ?_;rw[hcc];rintro r w2 ⟨rfl,hw2⟩;have hw2:=hw2.symm;subst hw2)
   | (go_at_call 87;refine(bE _ _).mono ?_;rw[hks];rintro r w2 ⟨rfl,hw2⟩;have hw2:=hw2.symm;subst hw2)
   | (go_at_call 25;refine(sB _ _ _ hcl).mono ?_;rintro r w2 ⟨rfl,hw2⟩;have hw2:=hw2.symm;subst hw2))
  go_ret;exact⟨rfl,rfl⟩
set_option maxRecDepth 100000 in
set_option maxHeartbeats 2000000 in
theorem bQ (h:XN w b ρ σ){m:Nat}(F:Fit σ m){c k:Nat}(hc:c<4)(hk:k<2)(hE:σ.unsubE c k≠0):
    Calls Tryz.prog 54 #[.pointer (some ⟨b,0,none⟩),int c,int k] w fun e w'=>e=.returned (int (σ.unsubE c k))∧qA w w':=by
  have hcl:=h.closed;have hct:chk true=0:=rfl;have hcc:dA (c:Int)=true:=jC hc;have hks:decide (0≤(k:Int)∧(k:Int)<2)=true:=decide_eq_true (by omega);have hci:(c:Int)<4:=by omega
  have hki:(k:Int)<2:=by omega
  have hbl:=h.lt b (by rw[h.net];simp)
  have HX6:Hid (∀y,(σ.cl c).here=some y→y<6):=fun y hy=>sO0 ((F.good.clis c hc).here y hy) (gB F.good.tree);have hask:σ.asked (dA (c:Int) && decide (0≤(k:Int)∧(k:Int)<2))=0:=zH h.open_ (by rw[hcc,hks];rfl);have hweq:=F.live.waits_eq hc;have hat0:=(h.cli c hc).here;have HX:=uA h;have HF:=uA F;have hE0:σ.unsubE c k=if σ.still c≠0 then σ.still c else if (σ.cl c).used k then (if σ.full then 6 else 0) else 7:=by
    simp only[Net.unsubE,hask,lF];simp
  cases hh:(σ.cl c).here with
  | none=>
    have e3:σ.unsubE c k=3:=by rw[hE0];simp[Net.still,hh]
    rw[e3];rw[hh] at hat0;have hat:w.cell? ⟨b,86+c*31,none⟩=some (int (-1)):=hat0;clear h F hE hE0 hask hweq hat0;go_enter Tryz.func54,Tryz.ntmps54
    go_wp2_with (first
      | (go_at_call 26;refine(aA _ _).mono ?_;rw[hcc];rintro r w2 ⟨rfl,hw2⟩;have hw2:=hw2.symm;subst hw2)
      | (go_at_call 87;refine(bE _ _).mono ?_;rw[hks];rintro r w2 ⟨rfl,hw2⟩;have hw2:=hw2.symm;subst hw2)
      | (go_at_call 25;refine(sB _ _ _ hcl).mono ?_;rintro r w2 ⟨rfl,hw2⟩;have hw2:=hw2.symm;subst hw2)
      | (go_at_call 32;refine(zC b (86+c*31) (-1) _ hat).mono ?_;rintro r w2 ⟨rfl,hw2⟩;have hw2:=hw2.symm;subst hw2))
    go_ret;exact⟨rfl,cP0 _ _⟩
  | some x=>
    have hxm:((x:Int) == -1)=false:=by rw[iE];exact pP0 (by omega)
    rw[hh] at hat0;have hat:w.cell? ⟨b,86+c*31,none⟩=some (int x):=hat0;cases hwt:σ.waits c with
    | true=>
      have e5:σ.unsubE c k=5:=by rw[hE0];simp[Net.still,hh,hwt]
      rw[e5];have hwt2:lD σ c=true:=by rw[hweq];exact hwt
      clear h F hE hE0 hask hweq hat0 hwt;go_enter Tryz.func54,Tryz.ntmps54
      go_wp2_with (first
        | (go_at_call 26;refine(aA _ _).mono ?_;rw[hcc];rintro r w2 ⟨rfl,hw2⟩;have hw2:=hw2.symm;subst hw2)
        | (go_at_call 87;refine(bE _ _).mono ?_;rw[hks];rintro r w2 ⟨rfl,hw2⟩;have hw2:=hw2.symm;subst hw2)
        | (go_at_call 25;refine(sB _ _ _ hcl).mono ?_;rintro r w2 ⟨rfl,hw2⟩;have hw2:=hw2.symm;subst hw2)
        | (go_at_call 32;refine(zC b (86+c*31) x _ hat).mono ?_;rw[hxm];rintro r w2 ⟨rfl,hw2⟩;have hw2:=hw2.symm;subst hw2)
        | (go_at_call 28;refine(mG (yA HX) hc (yA HX6)).mono ?_;rw[hwt2];rintro r w2 ⟨rfl,htw⟩))
      go_ret;exact⟨rfl,htw⟩
    | false=>
      have hwt2:lD σ c=false:=by rw[hweq];exact hwt
      cases hu:(σ.cl c).used k with
      | false=>
        have e7:σ.unsubE c k=7:=by rw[hE0];simp[Net.still,hh,hwt,hu]
        rw[e7];clear h F hE hE0 hask hweq hat0 hwt;go_enter Tryz.func54,Tryz.ntmps54
        go_wp2_with (first
          | (go_at_call 26;refine(aA _ _).mono ?_;rw[hcc];rintro r w2 ⟨rfl,hw2⟩;have hw2:=hw2.symm;subst hw2)
          | (go_at_call 87;refine(bE _ _).mono ?_;rw[hks];rintro r w2 ⟨rfl,hw2⟩;have hw2:=hw2.symm;subst hw2)
          | (go_at_call 25;refine(sB _ _ _ hcl).mono ?_;rintro r w2 ⟨rfl,hw2⟩;have hw2:=hw2.symm;subst hw2)
          | (go_at_call 32;refine(zC b (86+c*31) x _ hat).mono ?_;rw[hxm];rintro r w2 ⟨rfl,hw2⟩;have hw2:=hw2.symm;subst hw2)
          | (go_at_call 28;refine(mG (yA HX) hc (yA HX6)).mono ?_;rw[hwt2];rintro r w2 ⟨rfl,htw⟩
             have HXV:=uA ((yA HX).calm htw);have HTW:=uA htw;have hus:w2.cell? ⟨b,86+c*31+4+k*13,none⟩=some (.bool ((σ.cl c).used k)):=((yA HXV).cli c hc).used k hk
             clear htw)
          | (go_at_call 63;refine(cD b (86+c*31) k _ _ hk hus).mono ?_;rw[hu];rintro r w3 ⟨rfl,hw3⟩;have hw3:=hw3.symm;subst hw3))
        go_ret;exact⟨rfl,yA HTW⟩
      | true=>
        cases hful:σ.full with
        | false=>exact absurd (by rw[hE0];simp[Net.still,hh,hwt,hu,hful]) hE
        | true=>
          have e6:σ.unsubE c k=6:=by rw[hE0];simp[Net.still,hh,hwt,hu,hful]
          rw[e6];clear h F hE hE0 hask hweq hat0 hwt;go_enter Tryz.func54,Tryz.ntmps54
          go_wp2_with (first
            | (go_at_call 26;refine(aA _ _).mono ?_;rw[hcc];rintro r w2 ⟨rfl,hw2⟩;have hw2:=hw2.symm;subst hw2)
            | (go_at_call 87;refine(bE _ _).mono ?_;rw[hks];rintro r w2 ⟨rfl,hw2⟩;have hw2:=hw2.symm;subst hw2)
            | (go_at_call 25;refine(sB _ _ _ hcl).mono ?_;rintro r w2 ⟨rfl,hw2⟩;have hw2:=hw2.symm;subst hw2)
            | (go_at_call 32;refine(zC b (86+c*31) x _ hat).mono ?_;rw[hxm];rintro r w2 ⟨rfl,hw2⟩;have hw2:=hw2.symm;subst hw2)
            | (go_at_call 28;refine(mG (yA HX) hc (yA HX6)).mono ?_;rw[hwt2];rintro r w2 ⟨rfl,htw⟩
               have HXV:=uA ((yA HX).calm htw);have HTW:=uA htw;have hus:w2.cell? ⟨b,86+c*31+4+k*13,none⟩=some (.bool ((σ.cl c).used k)):=((yA HXV).cli c hc).used k hk
               clear htw)
            | (go_at_call 63;refine(cD b (86+c*31) k _ _ hk hus).mono ?_;rw[hu];rintro r w3 ⟨rfl,hw3⟩;have hw3:=hw3.symm;subst hw3)
            | (go_at_call 33;refine(yO (yA HXV) (yA HF)).mono ?_;rw[hful];rintro r w3 ⟨rfl,ht3⟩))
          go_ret;exact⟨rfl,(yA HTW).trans ht3⟩
theorem unsubX (h:XN w b ρ σ){m:Nat}(F:Fit σ m)(c k:Int):
  Calls Tryz.prog 54 #[.pointer (some ⟨b,0,none⟩),int c,int k] w fun e w'=>e=.returned (int (σ.unsubE c k))∧∃ρ',XN w' b ρ' (σ.unsub c k)∧Mv uB ρ ρ' w w':=by
 cases hg:(dA c && decide (0≤k∧k<2)) with
 | false=>
  have hE:σ.unsubE c k=1:=by simp only[Net.unsubE,Net.asked,h.open_,hg];simp
  have hA:σ.unsub c k=σ:=by simp[Net.unsub,hE]
  rw[hE,hA];exact(sQ h c k hg).mono fun e w' ⟨h1,h2⟩=>⟨h1,ρ,by rw[h2];exact h,by rw[h2];exact aP0 h.lt⟩
 | true=>
  simp only[qP0,dA,oP0] at hg;obtain⟨c',rfl⟩:∃c':Nat,c=c':=⟨c.toNat,by omega⟩;obtain⟨k',rfl⟩:∃k':Nat,k=k':=⟨k.toNat,by omega⟩;have hc:c' < 4:=by omega
  have hk:k' < 2:=by omega
  by_cases hE:σ.unsubE c' k'=0
  ·obtain⟨_,_,_,h1,hwt,hu,hful⟩:=gP hE;simp only[lF] at h1 hwt hu;cases hh:(σ.cl c').here with
   | none=>exact absurd hh h1
   | some x=>
    have hA:σ.unsub c' k'=(σ.setCl c' ((σ.cl c').ends k')).handle x none (.unsub (2*c'+k') ((σ.cl c').age k')):=by
     simp only[Net.unsub,hE,if_true,lF,hh,Net.handle];rw[cD0]
     ·simp[Cli.ends,hh]
     ·intro f hf;have hf:σ.kn x (2*c'+k')=some f:=hf;have hs:(2*c'+k')/2=c':=by omega
      have hk3:(2*c'+k')%2=k':=by omega
      have hage:=(F.live.view (2*c'+k') (by omega)).facts x f.co (by show (σ.kn x (2*c'+k')).map Fact.co=_;rw[hf];rfl);have h5:(σ.view (2*c'+k')).age=(σ.cl c').age k':=by simp only[Net.view,hs,hk3]
      rw[h5] at hage;exact hage
    rw[hA,hE];exact cQ h F hc hk hh hu hwt hful
  ·have hA:σ.unsub c' k'=σ:=by simp[Net.unsub,hE]
   rw[hA];exact(bQ h F hc hk hE).mono fun e w' ⟨h1,h2⟩=>⟨h1,ρ,h.calm h2,h.mvCalm h2⟩
end
end Go.Proofs.YtodfcpblcpogiaaGreat

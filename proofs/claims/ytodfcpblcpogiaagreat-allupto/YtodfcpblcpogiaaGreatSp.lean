import Derived.Test.YtodfcpblcpogiaaGreatSi
import Derived.Test.YtodfcpblcpogiaaGreatRt
import Derived.Test.YtodfcpblcpogiaaGreatPend
import Derived.Test.YtodfcpblcpogiaaGreatMvs
namespace Go.Proofs.YtodfcpblcpogiaaGreat
open Go.RowKit
abbrev qL:Role→Prop:=fun z=>z=.net
theorem poke_mv {w:World}{b o:Nat}{ρ:zA}{R:RNet}(h:RX w b ρ R)(v:Value):Mv qL ρ ρ w (w.setCell ⟨b,o,none⟩ v):=by
 refine⟨(cP0 (fun k=>∃r,ρ k=some r∧r=.net) w).setCell (p:=⟨b,o,none⟩) (fun _=>⟨.net,h.net,rfl⟩) v,fun _ _=>Or.inl rfl,fun k hk=>?_⟩;have:=h.lt k hk;simp[World.setCell]
 exact this
theorem RX.poke {w:World}{b o c:Nat}{ρ:zA}{R:RNet}(h:RX w b ρ R)(ho:3+c*13≤o∧o<3+c*13+13)(hc:c<4){v:Value}{x:Cli}(hx:ClC (w.setCell ⟨b,o,none⟩ v) ρ b c x):RX (w.setCell ⟨b,o,none⟩ v) b ρ (R.setCl c x):=by
 have m:=poke_mv (o:=o) h v;obtain⟨pb,po,cap,p0,p1,p2⟩:=h.pars;obtain⟨v1,g1,g2⟩:=h.frames;obtain⟨v2,f1,f2⟩:=h.facts;refine⟨h.net,nB h.typ _ _,fun o'=>qB _ _ _ _ _ (h.fr o'),m.lt,⟨pb,po,cap,tA w (by omega) p0,p1,fun i hi=>m.cellZ p1 (by simp) (p2 i hi)⟩,⟨v1,tA w (by omega) g1,m.pieces g2 (by simp) (fun a cs _ hF=>m.frC hF (by simp) (by simp))⟩,⟨v2,tA w (by omega) f1,m.pieces f2 (by simp) (fun a cs _ hF=>m.faC hF (by simp) (by simp))⟩,fun d hd=>?_,tA w (by omega) h.closed⟩;by_cases e:d=c
 ·subst e;show ClC _ ρ b d (put R.cl d x d)
  rw[put_same];exact hx
 ·show ClC _ ρ b d (put R.cl c x d)
  rw[kA _ _ e];exact(h.cl d hd).store h.net (by omega)
theorem RX.setHere {w:World}{b c:Nat}{ρ:zA}{R:RNet}(h:RX w b ρ R)(hc:c<4)(y:Option Nat):RX (w.setCell ⟨b,3+c*13,none⟩ (int (whr y))) b ρ (R.setCl c {R.cl c with here:=y}):=by
 refine h.poke (by omega) hc ?_;have m:=poke_mv (o:=3+c*13) h (int (whr y));have C:=h.cl c hc;refine⟨mP0 w _ _ C.here,tA w (by omega) C.home,fun k hk=>tA w (by omega) (C.used k hk),fun k hk=>tA w (by omega) (C.age k hk),fun k hk=>?_,fun k hk=>?_,tA w (by omega) C.stays,tA w (by omega) C.many,?_⟩
 ·obtain⟨u,h1,h2,h3⟩:=C.fil k hk;exact⟨u,tA w (by omega) h1,fun hu=>m.fl (h2 hu) (by simp),h3⟩
 ·obtain⟨u,h1,h2⟩:=C.told k hk;exact⟨u,tA w (by omega) h1,m.rowZ h2 (by simp)⟩
 ·obtain⟨u,h1,h2⟩:=C.log;exact⟨u,tA w (by omega) h1,m.rowZ h2 (by simp)⟩
theorem fK {w:World}{b:Nat}{ρ:zA}{R:RNet}(h:RX w b ρ R)(c:Int):Calls Tryz.prog 38 #[.pointer (some ⟨b,0,none⟩),int c] w fun e w'=>e=.returned (int (R.net.asked (dA c)))∧w'=w:=
 tI0 b R.closed c w h.closed
def RNet.detach (R:RNet)(c:Int):RNet:=if R.net.detachE c=0 then R.setCl c.toNat {R.cl c.toNat with here:=none} else R
theorem sD0 {R:RNet}(c:Int):(R.detach c).net=R.net.detach c:=by
 unfold RNet.detach Net.detach;split<;>rfl
theorem uE {σ:Net}{c:Int}(h:σ.asked (dA c)=0):∃d:Nat,d<4∧c=d:=by
 unfold Net.asked at h;split at h
 ·omega
 ·split at h
  ·rename_i hc
   simp only[dA,oP0] at hc;exact⟨c.toNat,by omega,by omega⟩
  ·omega
set_option maxRecDepth 100000 in
set_option maxHeartbeats 1000000 in
theorem tE0 {w:World}{b:Nat}{ρ:zA}{R:RNet}(h:RX w b ρ R)(c:Int)(hn:R.fa.length≤1000):
  Calls Tryz.prog 17 #[.pointer (some ⟨b,0,none⟩),int c] w fun e w'=>e=.returned (int (R.net.detachE c))∧RX w' b ρ (R.detach c)∧Mv qL ρ ρ w w':=by
 have hE:R.net.detachE c=if R.net.asked (dA c)≠0 then R.net.asked (dA c) else R.net.still c.toNat:=rfl;have hD:R.detach c=if R.net.detachE c=0 then R.setCl c.toNat {R.cl c.toNat with here:=none} else R:=rfl;have HA:=uA (fK h c);have HX:=uA h;by_cases hA:R.net.asked (dA c)=0
 ·obtain⟨d,hd,rfl⟩:=uE hA;rw[if_neg (by simp[hA]),iO0] at hE;rw[hE,iO0] at hD;rw[hE,hD];rw[hA] at HA;have HS:=uA (xV h hd hn);have hdI:(d:Int)<4:=by omega
  have hat:=(h.cl d hd).here;have hfz:=h.fr (3+d*13);obtain⟨E,hEE⟩:∃E,E=R.net.still d:=⟨_,rfl⟩;rw[←hEE] at HS ⊢;clear hE hD hA hEE h;by_cases hE0:E=0
  ·subst hE0;rw[if_pos rfl];go_enter Tryz.func17,Tryz.ntmps17
   go_wp2_with (first
    | (go_at_call 38;refine(yA HA).mono ?_;rintro e w1 ⟨rfl,hw1⟩;have hw1:=hw1.symm;subst hw1)
    | (go_at_call 46;refine(yA HS).mono ?_;rintro e w2 ⟨rfl,hw2⟩;have hw2:=hw2.symm;subst hw2))
   go_ret;exact⟨rfl,(yA HX).setHere hd none,poke_mv (yA HX) _⟩
  ·have hE1:(E == 0)=false:=by rw[vB];exact pP0 hE0
   rw[if_neg hE0];clear hE0;go_enter Tryz.func17,Tryz.ntmps17
   go_wp2_with (first
    | (go_at_call 38;refine(yA HA).mono ?_;rintro e w1 ⟨rfl,hw1⟩;have hw1:=hw1.symm;subst hw1)
    | (go_at_call 46;refine(yA HS).mono ?_;rintro e w2 ⟨rfl,hw2⟩;have hw2:=hw2.symm;subst hw2))
   go_ret;exact⟨rfl,yA HX,aP0 (yA HX).lt⟩
 ·rw[if_pos hA] at hE;rw[hE,if_neg hA] at hD;rw[hE,hD];obtain⟨E,hEE⟩:∃E,E=R.net.asked (dA c):=⟨_,rfl⟩;rw[←hEE] at HA hA ⊢;have hE1:(E == 0)=false:=by rw[vB];exact pP0 hA
  clear hE hD hA hEE h;go_enter Tryz.func17,Tryz.ntmps17
  go_wp2_with (go_at_call 38;refine(yA HA).mono ?_;rintro e w1 ⟨rfl,hw1⟩;have hw1:=hw1.symm;subst hw1)
  go_ret;exact⟨rfl,yA HX,aP0 (yA HX).lt⟩
theorem RX.logOut {w:World}{b c:Nat}{ρ:zA}{R:RNet}(h:RX w b ρ R)(hc:c<4):RX (w.setCell ⟨b,3+c*13+12,none⟩ rA) b ρ (R.setCl c {R.cl c with log:=[]}):=by
 refine h.poke (by omega) hc ?_;have m:=poke_mv (o:=3+c*13+12) h rA;have C:=h.cl c hc;refine⟨tA w (by omega) C.here,tA w (by omega) C.home,fun k hk=>tA w (by omega) (C.used k hk),fun k hk=>tA w (by omega) (C.age k hk),fun k hk=>?_,fun k hk=>?_,tA w (by omega) C.stays,tA w (by omega) C.many,?_⟩
 ·obtain⟨u,h1,h2,h3⟩:=C.fil k hk;exact⟨u,tA w (by omega) h1,fun hu=>m.fl (h2 hu) (by simp),h3⟩
 ·obtain⟨u,h1,h2⟩:=C.told k hk;exact⟨u,tA w (by omega) h1,m.rowZ h2 (by simp)⟩
 ·obtain⟨u,h1,h2⟩:=C.log;exact⟨rA,mP0 w _ _ h1,⟨by simp,Or.inl ⟨rfl,rfl⟩⟩,fun g hg=>by cases hg⟩
def RNet.log (R:RNet)(c:Int):RNet:=if R.net.logE c=0 then R.setCl c.toNat {R.cl c.toNat with log:=[]} else R
theorem kM0 {R:RNet}(c:Int):(R.log c).net=R.net.log c:=by
 unfold RNet.log Net.log;split<;>rfl
set_option maxRecDepth 100000 in
set_option maxHeartbeats 1000000 in
theorem dM0 {w:World}{b:Nat}{ρ:zA}{R:RNet}(h:RX w b ρ R)(c:Int):
  Calls Tryz.prog 94 #[.pointer (some ⟨b,0,none⟩),int c] w fun e w'=>∃v,e=.returned (.tuple #[v,int (R.net.logE c)])∧w'.ownsRow 0 74 7 v (R.net.logA c).length ((R.net.logA c).flatMap Ent.enc)∧RX w' b ρ (R.log c)∧Mv qL ρ ρ w w'∧∀g,v.ownBlock=some g→ρ g≠none:=by
 have hE:R.net.logE c=R.net.asked (dA c):=rfl;have hL:R.net.logA c=if R.net.asked (dA c)=0 then (R.cl c.toNat).log else []:=rfl;have hD:R.log c=if R.net.asked (dA c)=0 then R.setCl c.toNat {R.cl c.toNat with log:=[]} else R:=rfl;rw[hE,hL,hD];have HA:=uA (fK h c);have HX:=uA h;by_cases hA:R.net.asked (dA c)=0
 ·obtain⟨d,hd,rfl⟩:=uE hA;rw[hA] at HA;rw[hA,if_pos rfl,if_pos rfl,iO0];have hdI:(d:Int)<4:=by omega
  obtain⟨v,g1,g2⟩:=(h.cl d hd).log;have hfz:=h.fr (3+d*13+12);have HG:=uA g2;have hone:=g2.oneCell;have HNB:Hid (∀g,v.ownBlock=some g→¬∃r,ρ g=some r∧r=.net):=uA (fun g hg=>by rintro⟨r,e,rfl⟩;rw[g2.2 g hg] at e;cases e)
  clear hE hL hD hA h g2;go_enter Tryz.func94,Tryz.ntmps94
  go_wp2_with (go_at_call 38;refine(yA HA).mono ?_;rintro e w1 ⟨rfl,hw1⟩;have hw1:=hw1.symm;subst hw1)
  go_ret2;exact⟨v,rfl,eA (yA HG).1 (poke_mv (yA HX) _).touch (yA HNB),(yA HX).logOut hd,poke_mv (yA HX) _,fun g hg=>by rw[(yA HG).2 g hg];simp⟩
 ·rw[if_neg hA,if_neg hA];obtain⟨E,hEE⟩:∃E,E=R.net.asked (dA c):=⟨_,rfl⟩;rw[←hEE] at HA hA ⊢;have hE1:(E == 0)=false:=by rw[vB];exact pP0 hA
  clear hE hL hD hA hEE h;go_enter Tryz.func94,Tryz.ntmps94
  go_wp2_with (go_at_call 38;refine(yA HA).mono ?_;rintro e w1 ⟨rfl,hw1⟩;have hw1:=hw1.symm;subst hw1)
  go_ret2;exact⟨rA,rfl,⟨by simp,Or.inl ⟨rfl,rfl⟩⟩,yA HX,aP0 (yA HX).lt,fun g hg=>by cases hg⟩
def RNet.close (R:RNet):RNet:={R with closed:=true}
theorem RX.shut {w:World}{b:Nat}{ρ:zA}{R:RNet}(h:RX w b ρ R):RX (w.setCell ⟨b,55,none⟩ (.bool true)) b ρ R.close:=by
 have m:=poke_mv (o:=55) h (.bool true);obtain⟨pb,po,cap,p0,p1,p2⟩:=h.pars;obtain⟨v1,g1,g2⟩:=h.frames;obtain⟨v2,f1,f2⟩:=h.facts;exact⟨h.net,nB h.typ _ _,fun o'=>qB _ _ _ _ _ (h.fr o'),m.lt,⟨pb,po,cap,tA w (by omega) p0,p1,fun i hi=>m.cellZ p1 (by simp) (p2 i hi)⟩,⟨v1,tA w (by omega) g1,m.pieces g2 (by simp) (fun a cs _ hF=>m.frC hF (by simp) (by simp))⟩,⟨v2,tA w (by omega) f1,m.pieces f2 (by simp) (fun a cs _ hF=>m.faC hF (by simp) (by simp))⟩,fun d hd=>(h.cl d hd).store h.net (by omega),mP0 w _ _ h.closed⟩
set_option maxHeartbeats 1000000 in
theorem cH0 {w:World}{b:Nat}{ρ:zA}{R:RNet}(h:RX w b ρ R):
  Calls Tryz.prog 60 #[.pointer (some ⟨b,0,none⟩)] w fun e w'=>e=.returned (.tuple #[int (if R.closed then 0 else (R.fr.length:Int)),int (if R.closed then 2 else 0)])∧RX w' b ρ R.close∧Mv qL ρ ρ w w':=by
 have HX:=uA h;have hcl:=h.closed;obtain⟨v,g1,g2⟩:=h.frames;obtain⟨a,cap,rfl⟩:=g2.slice;have hfz:=h.fr 55;have HC:Hid (R.closed=true→R.close=R):=uA (fun e=>by cases R;simp only at e;subst e;rfl);obtain⟨C,hC⟩:∃C,C=R.closed:=⟨_,rfl⟩;rw[←hC] at hcl ⊢;have HE:=uA hC;clear h g2 hC;cases C with
 | true=>
  go_enter Tryz.func60,Tryz.ntmps60
  go_wp2;go_ret2
  exact⟨rfl,by rw[yA HC (yA HE).symm];exact yA HX,aP0 (yA HX).lt⟩
 | false=>
  go_enter Tryz.func60,Tryz.ntmps60
  go_wp2;go_ret2
  exact⟨rfl,(yA HX).shut,poke_mv (yA HX) _⟩
theorem RowAt.sl {w:World}{ρ:zA}{r:Role}{t size n:Nat}{cells:List Value}{v:Value}(h:RowAt w ρ r t size n cells v):∃a k c,v=.slice a k c:=by
 rcases h.1.2 with⟨e,_⟩ | ⟨g,cap,cur,e,_⟩
 ·exact⟨_,_,_,e⟩
 ·exact⟨_,_,_,e⟩
set_option maxRecDepth 100000 in
set_option maxHeartbeats 2000000 in
theorem sK0 {w:World}{b:Nat}{ρ:zA}{R:RNet}(h:RX w b ρ R){c:Nat}(hc:c<4)(hcl:R.closed=false)(hn:R.fa.length≤1000):
  Calls Tryz.prog 20 #[.pointer (some ⟨b,0,none⟩),int c] w fun e w'=>e=.returned (.tuple #[.agg #[int (whr (R.cl c).here),int (whr (R.cl c).home),.bool (R.net.waits c),.bool ((R.cl c).used 0),.bool ((R.cl c).used 1)],int 0])∧qA w w':=by
 have hci:(c:Int)<4:=by omega
 have hA:R.net.asked (dA c)=0:=by
  unfold Net.asked;rw[show R.net.closed=false from hcl,jC hc];rfl
 have HA:Hid (∀wq,qA w wq→Calls Tryz.prog 38 #[.pointer (some ⟨b,0,none⟩),int c] wq fun e w'=>e=.returned (int 0)∧w'=wq):=uA (fun wq hq=>by
  have:=fK (h.calm hq) c;rw[hA] at this
  exact this)
 have HW:=uA (fun wq (hq:qA w wq)=>gU (h.calm hq) hc hn);have C:=h.cl c hc;have d0:=C.here;have d1:=C.home;have d2:=C.used 0 (by omega);have d3:=C.used 1 (by omega);have d4:=C.age 0 (by omega);have d5:=C.age 1 (by omega);obtain⟨x6,d6,_,a6,n6,p6,rfl⟩:=C.fil 0 (by omega);obtain⟨x7,d7,_,a7,n7,p7,rfl⟩:=C.fil 1 (by omega);obtain⟨x8,d8,r8⟩:=C.told 0 (by omega);obtain⟨x9,d9,r9⟩:=C.told 1 (by omega);have d10:=C.stays;have d11:=C.many;obtain⟨x12,d12,r12⟩:=C.log;obtain⟨a8,n8,p8,rfl⟩:=r8.sl;obtain⟨a9,n9,p9,rfl⟩:=r9.sl;obtain⟨a12,n12,p12,rfl⟩:=r12.sl;have hb:b<w.heap.size:=h.lt b (by rw[h.net];simp)
 simp only[Nat.add_zero] at d2 d4 d6 d8;generalize whr (R.cl c).here=V0 at*;generalize whr (R.cl c).home=V1 at*;generalize (R.cl c).used 0=V2 at*;generalize (R.cl c).used 1=V3 at*;generalize (R.cl c).age 0=V4 at*;generalize (R.cl c).age 1=V5 at*;generalize (R.cl c).stays=V10 at*;generalize (R.cl c).many=V11 at*;generalize R.net.waits c=VW at*;clear C h hA hcl r8 r9 r12;go_enter Tryz.func20,Tryz.ntmps20
 go_wp2_with (first
  | (go_at_call 38;refine(yA HA _ ((cP0 _ _).alloc _)).mono ?_;rintro e w1 ⟨rfl,rfl⟩)
  | (go_at_call 52;refine(yA HW _ (by first | exact((cP0 _ _).alloc _).alloc _ | exact(cP0 _ _).alloc _)).mono ?_;rintro e w1 ⟨rfl,rfl⟩))
 exact bodyPost_ret (v:=.tuple #[.agg #[int V0,int V1,.bool VW,.bool V2,.bool V3],int 0]) (by simp[results,Tryz.results20,go_sem]) rfl ⟨rfl,((cP0 _ _).alloc _).alloc _⟩
set_option maxHeartbeats 1000000 in
theorem mA0 {w:World}{b:Nat}{ρ:zA}{R:RNet}(h:RX w b ρ R){c:Int}(hA:R.net.asked (dA c)≠0):
  Calls Tryz.prog 20 #[.pointer (some ⟨b,0,none⟩),int c] w fun e w'=>e=.returned (.tuple #[.agg #[int 0,int 0,.bool false,.bool false,.bool false],int (R.net.asked (dA c))])∧qA w w':=by
 have HA:=uA (fun wq (hq:qA w wq)=>fK (h.calm hq) c);obtain⟨E,hEE⟩:∃E,E=R.net.asked (dA c):=⟨_,rfl⟩;rw[←hEE] at HA hA ⊢;have hE1:(E == 0)=false:=by rw[vB];exact pP0 hA
 clear hA hEE h;go_enter Tryz.func20,Tryz.ntmps20
 go_wp2_with (go_at_call 38;refine(yA HA _ ((cP0 _ _).alloc _)).mono ?_;rintro e w1 ⟨rfl,rfl⟩)
 exact bodyPost_ret (v:=.tuple #[.agg #[int 0,int 0,.bool false,.bool false,.bool false],int E]) (by simp[results,Tryz.results20,go_sem]) rfl ⟨rfl,(cP0 _ _).alloc _⟩
def xL (l:List LFr):Nat:=((List.range 6).map fun x=>((List.range 6).map fun y=>(l.filter (LFr.on x y)).length).sum).sum
theorem vX (f g:Nat→Nat):∀l:List Nat,(l.map fun x=>f x+g x).sum=(l.map f).sum+(l.map g).sum
 | []=>rfl
 | x::l=>by
  have:=vX f g l;simp only[List.map_cons,List.sum_cons];omega
theorem xX (a:Nat):∀n:Nat,((List.range n).map fun x=>if x=a then 1 else 0).sum=if a<n then 1 else 0
 | 0=>by simp
 | n+1=>by
  rw[List.range_succ,List.map_append,List.sum_append,xX a n];simp only[List.map_cons,List.map_nil,List.sum_cons,List.sum_nil,Nat.add_zero];by_cases h1:a<n
  ·rw[if_pos h1,if_neg (by omega),if_pos (by omega)]
  ·by_cases h2:n=a
   ·rw[if_neg h1,if_pos h2,if_pos (by omega)]
   ·rw[if_neg h1,if_neg h2,if_neg (by omega)]
theorem jM:∀l:List Nat,(l.map fun _=>0).sum=0
 | []=>rfl
 | _::l=>by simp only[List.map_cons,List.sum_cons,sP0];exact jM l
theorem zY (k:LFr)(l:List LFr)(ha:k.a<6)(hb:k.b<6):xL (k::l)=1+xL l:=by
 have h1:∀x y,((k::l).filter (LFr.on x y)).length=(if x=k.a∧y=k.b then 1 else 0)+(l.filter (LFr.on x y)).length:=fun x y=>by
  by_cases e:x=k.a∧y=k.b
  ·rw[if_pos e,List.filter_cons_of_pos (by simp[LFr.on,e.1,e.2]),gO0];omega
  ·rw[if_neg e,List.filter_cons_of_neg (by simp only[LFr.on,oP0];intro g;exact e ⟨g.1.symm,g.2.symm⟩)];omega
 have h2:∀x,((List.range 6).map fun y=>((k::l).filter (LFr.on x y)).length).sum=(if x=k.a then 1 else 0)+((List.range 6).map fun y=>(l.filter (LFr.on x y)).length).sum:=fun x=>by
  simp only[h1];rw[vX];congr 1
  by_cases e:x=k.a
  ·rw[if_pos e];have:(fun y=>if x=k.a∧y=k.b then 1 else 0)=fun y=>if y=k.b then 1 else 0:=by funext y;simp[e]
   rw[this,xX,if_pos hb]
  ·rw[if_neg e];have:(fun y=>if x=k.a∧y=k.b then 1 else 0)=fun _=>0:=by funext y;simp[e]
   rw[this,jM]
 unfold xL;simp only[h2];rw[vX,xX,if_pos ha]
theorem aP:∀l:List LFr,(∀k∈l,k.a<6∧k.b<6)→xL l=l.length
 | [],_=>by unfold xL;simp only[List.filter_nil,List.length_nil,jM]
 | k::l,h=>by
  have hk:=h k (lO0 ..);rw[zY k l hk.1 hk.2,aP l (fun q hq=>h q (kO0 _ hq)),gO0];omega
theorem RNet.waiting {R:RNet}(h:∀k∈R.fr,k.a<6∧k.b<6):R.net.waiting=R.fr.length:=by
 rw[←aP R.fr h];unfold Net.waiting xL;show ((List.range 6).map fun x=>((List.range 6).map fun y=>(R.q x y).length).sum).sum=_
 unfold RNet.q;simp only[List.length_map]
theorem RX.setHome {w:World}{b c:Nat}{ρ:zA}{R:RNet}(h:RX w b ρ R)(hc:c<4)(y:Option Nat):RX (w.setCell ⟨b,3+c*13+1,none⟩ (int (whr y))) b ρ (R.setCl c {R.cl c with home:=y}):=by
 refine h.poke (by omega) hc ?_;have m:=poke_mv (o:=3+c*13+1) h (int (whr y));have C:=h.cl c hc;refine⟨tA w (by omega) C.here,mP0 w _ _ C.home,fun k hk=>tA w (by omega) (C.used k hk),fun k hk=>tA w (by omega) (C.age k hk),fun k hk=>?_,fun k hk=>?_,tA w (by omega) C.stays,tA w (by omega) C.many,?_⟩
 ·obtain⟨u,h1,h2,h3⟩:=C.fil k hk;exact⟨u,tA w (by omega) h1,fun hu=>m.fl (h2 hu) (by simp),h3⟩
 ·obtain⟨u,h1,h2⟩:=C.told k hk;exact⟨u,tA w (by omega) h1,m.rowZ h2 (by simp)⟩
 ·obtain⟨u,h1,h2⟩:=C.log;exact⟨u,tA w (by omega) h1,m.rowZ h2 (by simp)⟩
theorem RX.setStays {w:World}{b c:Nat}{ρ:zA}{R:RNet}(h:RX w b ρ R)(hc:c<4)(y:Int):RX (w.setCell ⟨b,3+c*13+10,none⟩ (int y)) b ρ (R.setCl c {R.cl c with stays:=y}):=by
 refine h.poke (by omega) hc ?_;have m:=poke_mv (o:=3+c*13+10) h (int y);have C:=h.cl c hc;refine⟨tA w (by omega) C.here,tA w (by omega) C.home,fun k hk=>tA w (by omega) (C.used k hk),fun k hk=>tA w (by omega) (C.age k hk),fun k hk=>?_,fun k hk=>?_,mP0 w _ _ C.stays,tA w (by omega) C.many,?_⟩
 ·obtain⟨u,h1,h2,h3⟩:=C.fil k hk;exact⟨u,tA w (by omega) h1,fun hu=>m.fl (h2 hu) (by simp),h3⟩
 ·obtain⟨u,h1,h2⟩:=C.told k hk;exact⟨u,tA w (by omega) h1,m.rowZ h2 (by simp)⟩
 ·obtain⟨u,h1,h2⟩:=C.log;exact⟨u,tA w (by omega) h1,m.rowZ h2 (by simp)⟩
theorem RX.setMany {w:World}{b c:Nat}{ρ:zA}{R:RNet}(h:RX w b ρ R)(hc:c<4)(y:Int):RX (w.setCell ⟨b,3+c*13+11,none⟩ (int y)) b ρ (R.setCl c {R.cl c with many:=y}):=by
 refine h.poke (by omega) hc ?_;have m:=poke_mv (o:=3+c*13+11) h (int y);have C:=h.cl c hc;refine⟨tA w (by omega) C.here,tA w (by omega) C.home,fun k hk=>tA w (by omega) (C.used k hk),fun k hk=>tA w (by omega) (C.age k hk),fun k hk=>?_,fun k hk=>?_,tA w (by omega) C.stays,mP0 w _ _ C.many,?_⟩
 ·obtain⟨u,h1,h2,h3⟩:=C.fil k hk;exact⟨u,tA w (by omega) h1,fun hu=>m.fl (h2 hu) (by simp),h3⟩
 ·obtain⟨u,h1,h2⟩:=C.told k hk;exact⟨u,tA w (by omega) h1,m.rowZ h2 (by simp)⟩
 ·obtain⟨u,h1,h2⟩:=C.log;exact⟨u,tA w (by omega) h1,m.rowZ h2 (by simp)⟩
theorem RX.setAge {w:World}{b c:Nat}{ρ:zA}{R:RNet}(h:RX w b ρ R)(hc:c<4){j:Nat}(hj:j<2)(y:Int):RX (w.setCell ⟨b,3+c*13+4+j,none⟩ (int y)) b ρ (R.setCl c {R.cl c with age:=put (R.cl c).age j y}):=by
 refine h.poke (by omega) hc ?_;have m:=poke_mv (o:=3+c*13+4+j) h (int y);have C:=h.cl c hc
 refine⟨tA w (by omega) C.here,tA w (by omega) C.home,fun k hk=>tA w (by omega) (C.used k hk),fun k hk=>by
  by_cases e:k=j
  ·subst e;simp only[put_same];exact mP0 w _ _ (C.age k hk)
  ·simp only[kA _ _ e];exact tA w (by omega) (C.age k hk),fun k hk=>?_,fun k hk=>?_,tA w (by omega) C.stays,tA w (by omega) C.many,?_⟩
 ·obtain⟨u,h1,h2,h3⟩:=C.fil k hk;exact⟨u,tA w (by omega) h1,fun hu=>m.fl (h2 hu) (by simp),h3⟩
 ·obtain⟨u,h1,h2⟩:=C.told k hk;exact⟨u,tA w (by omega) h1,m.rowZ h2 (by simp)⟩
 ·obtain⟨u,h1,h2⟩:=C.log;exact⟨u,tA w (by omega) h1,m.rowZ h2 (by simp)⟩
theorem RX.setUnused {w:World}{b c:Nat}{ρ:zA}{R:RNet}(h:RX w b ρ R)(hc:c<4){j:Nat}(hj:j<2):RX (w.setCell ⟨b,3+c*13+2+j,none⟩ (.bool false)) b ρ (R.setCl c {R.cl c with used:=put (R.cl c).used j false}):=by
 refine h.poke (by omega) hc ?_;have m:=poke_mv (o:=3+c*13+2+j) h (.bool false);have C:=h.cl c hc
 refine⟨tA w (by omega) C.here,tA w (by omega) C.home,fun k hk=>by
  by_cases e:k=j
  ·subst e;simp only[put_same];exact mP0 w _ _ (C.used k hk)
  ·simp only[kA _ _ e];exact tA w (by omega) (C.used k hk),fun k hk=>tA w (by omega) (C.age k hk),fun k hk=>?_,fun k hk=>?_,tA w (by omega) C.stays,tA w (by omega) C.many,?_⟩
 ·obtain⟨u,h1,h2,h3⟩:=C.fil k hk;refine⟨u,tA w (by omega) h1,fun hu=>m.fl (h2 ?_) (by simp),h3⟩;by_cases e:k=j
  ·subst e;simp only[put_same] at hu;cases hu
  ·simp only[kA _ _ e] at hu;exact hu
 ·obtain⟨u,h1,h2⟩:=C.told k hk;exact⟨u,tA w (by omega) h1,m.rowZ h2 (by simp)⟩
 ·obtain⟨u,h1,h2⟩:=C.log;exact⟨u,tA w (by omega) h1,m.rowZ h2 (by simp)⟩
structure RNet.Okay (R:RNet):Prop where
 uniq:R.Uniq
 fa:∀k∈R.fa,k.b<6∧k.s<8
 fr:∀l∈R.fr,l.a<6∧l.b<6
theorem sR:∀l:List Nat,(l.map fun _=>1).sum=l.length
 | []=>rfl
 | _::l=>by rw[List.map_cons,List.sum_cons,sR l,gO0];omega
theorem pigeon {n:Nat}{l:List Nat}(h:l.Nodup)(hl:∀x∈l,x<n):l.length≤n:=by
 have:=cH (g:=fun _=>1) (m:=List.range n) h (fun z hz=>yP0.2 (hl z hz));rw[sR,sR,List.length_range] at this;exact this
section
variable {R : RNet}
theorem RNet.Okay.len (h:R.Okay):R.fa.length≤48:=by
 have h1:(R.fa.map fun k=>k.b*8+k.s).Nodup:=by
  unfold List.Nodup;rw[List.pairwise_map,List.pairwise_iff_getElem];intro i j hi hj hij;have h1:=List.pairwise_iff_getElem.1 h.uniq i j hi hj hij;have h2:=h.fa _ (List.getElem_mem hi);have h3:=h.fa _ (List.getElem_mem hj);intro e;exact h1 ⟨by omega,by omega⟩
 have h2:=pigeon (n:=48) h1 (fun x hx=>by
  obtain⟨k,hk,rfl⟩:=List.mem_map.1 hx;have:=h.fa k hk
  omega)
 rw[List.length_map] at h2;exact h2
theorem RNet.Okay.send (h:R.Okay){x y:Nat}(hx:x<6)(hy:y<6)(f:Fr):(R.send x y f).Okay:=⟨h.uniq,h.fa,fun l hl=>by
 rcases xP0.1 hl with hl | hl
 ·exact h.fr l hl
 ·rw[eO0.1 hl];exact⟨hx,hy⟩⟩
theorem RNet.Okay.sends {x:Nat}(hx:x<6)(f:Fr):∀(ys:List Nat) {R:RNet},R.Okay→(∀y∈ys,y<6)→(R.sends x ys f).Okay
 | [],_,h,_=>h
 | y::ys,_R,h,hy=>RNet.Okay.sends hx f ys (h.send hx (hy y (lO0 ..)) f) (fun z hz=>hy z (kO0 _ hz))
theorem RNet.Okay.spread (h:R.Okay)(hs:size R.par≤6){x:Nat}(hx:x<6)(bt:Option Nat)(f:Fr):(R.spread x bt f).Okay:=RNet.Okay.sends hx f _ h (fun y hy=>by
 have:=yP0.1 (dO0.1 hy).1
 omega)
theorem RNet.Okay.forget (h:R.Okay)(b s:Nat):(R.forget b s).Okay:=⟨Uniq.forget h.uniq b s,fun k hk=>h.fa k (dO0.1 hk).1,h.fr⟩
theorem RNet.Okay.learn (h:R.Okay){b s:Nat}(hb:b<6)(hs:s<8)(f:Fact):(R.learn b s f).Okay:=⟨Uniq.learn h.uniq b s f,fun k hk=>by
 rcases xP0.1 hk with hk | hk
 ·exact h.fa k (dO0.1 hk).1
 ·rw[eO0.1 hk];exact⟨hb,hs⟩,h.fr⟩
theorem RNet.Okay.mend (h:R.Okay)(b s:Nat)(f:Fact):(R.mend b s f).Okay:=⟨Uniq.mend h.uniq b s f,fun k hk=>by
 obtain⟨j,hj,rfl⟩:=List.mem_map.1 hk;have:=h.fa j hj;split
 ·exact this
 ·exact this,h.fr⟩
theorem RNet.Okay.setCl (h:R.Okay)(c:Nat)(x:Cli):(R.setCl c x).Okay:=⟨h.uniq,h.fa,h.fr⟩
theorem RNet.Okay.pop (h:R.Okay)(x y:Nat):(R.pop x y).Okay:=⟨h.uniq,h.fa,fun l hl=>h.fr l (List.mem_of_mem_eraseP hl)⟩
theorem RNet.Okay.waiting (h:R.Okay):R.net.waiting=R.fr.length:=RNet.waiting h.fr
end
def RG (w:World)(b:Nat)(ρ:zA)(σ:Net):Prop:=∃R:RNet,RX w b ρ R∧R.net=σ∧R.Okay
section
variable {w w' : World} {b : Nat} {ρ ρ' : Nat → Option Role} {σ : Net}
theorem RG.still {S:Nat→Prop}(h:RG w b ρ σ)(T:Touch S w w')(hs:∀k,S k→ρ k=none):RG w' b ρ σ:=by
 obtain⟨R,h1,h2,h3⟩:=h;exact⟨R,h1.still T hs,h2,h3⟩
theorem RG.calm (h:RG w b ρ σ)(T:qA w w'):RG w' b ρ σ:=h.still T (fun _ f=>f.elim)
theorem RG.lt (h:RG w b ρ σ):∀k,ρ k≠none→k<w.heap.size:=by
 obtain⟨R,h1,_⟩:=h;exact h1.lt
theorem RG.net (h:RG w b ρ σ):ρ b=some .net:=by
 obtain⟨R,h1,_⟩:=h;exact h1.net
theorem RG.fr (h:RG w b ρ σ):∀o,w.frozen? ⟨b,o,none⟩=false:=by
 obtain⟨R,h1,_⟩:=h;exact h1.fr
theorem RG.cl (h:RG w b ρ σ){c:Nat}(hc:c<4):ClC w ρ b c (σ.cl c):=by
 obtain⟨R,h1,h2,_⟩:=h;rw[←h2];exact h1.cl c hc
theorem RG.parsAt (h:RG w b ρ σ):ParsAt w b σ.par:=by
 obtain⟨R,h1,h2,_⟩:=h;rw[←h2];exact h1.parsAt
theorem RG.frames (h:RG w b ρ σ):∃a cap,w.cell? ⟨b,1,none⟩=some (.slice a σ.waiting cap):=by
 obtain⟨R,h1,h2,h3⟩:=h;obtain⟨v,g1,g2⟩:=h1.frames;obtain⟨a,cap,rfl⟩:=g2.slice;exact⟨a,cap,by rw[←h2,h3.waiting];exact g1⟩
theorem aC (h:RG w b ρ σ)(c:Int):Calls Tryz.prog 38 #[.pointer (some ⟨b,0,none⟩),int c] w fun e w'=>e=.returned (int (σ.asked (dA c)))∧w'=w:=by
 obtain⟨R,h1,h2,h3⟩:=h;rw[←h2];exact fK h1 c
theorem eM (h:RG w b ρ σ){c:Nat}(hc:c<4):Calls Tryz.prog 46 #[.pointer (some ⟨b,0,none⟩),int c] w fun e w'=>e=.returned (int (σ.still c))∧w'=w:=by
 obtain⟨R,h1,h2,h3⟩:=h;rw[←h2];exact xV h1 hc (by have:=h3.len;omega)
theorem pV (h:RG w b ρ σ){x y:Nat}(hx:x<6)(hy:y<6){f:Fr}{v:Value}(hv:FrG w ρ f v)(hn:σ.waiting<1000000000):Calls Tryz.prog 43 #[.pointer (some ⟨b,0,none⟩),v,int x,int y] w fun e w'=>e=.returned (.tuple #[])∧∃ρ',RG w' b ρ' (σ.push x y f)∧Mv mN ρ ρ' w w':=by
 obtain⟨R,h1,rfl,h3⟩:=h;rw[h3.waiting] at hn;refine(hZ h1 hv (by omega)).mono ?_;rintro e w' ⟨rfl,ρ',k1,k2⟩
 exact⟨rfl,ρ',⟨_,k1,zS x y f,h3.send hx hy f⟩,k2⟩
theorem vG (h:RG w b ρ σ)(hs:σ.n≤6){x:Nat}(hx:x<σ.n)(bt:Option Nat){f:Fr}{v:Value}(hv:FrG w ρ f v)(hn:σ.waiting<1000000000):Calls Tryz.prog 89 #[.pointer (some ⟨b,0,none⟩),v,int x,int (whr bt)] w fun e w'=>e=.returned (.tuple #[])∧∃ρ',RG w' b ρ' (σ.spread x bt f)∧Mv mN ρ ρ' w w':=by
 obtain⟨R,h1,rfl,h3⟩:=h;rw[h3.waiting] at hn;refine(hC0 h1 hs hx bt hv (by omega)).mono ?_;rintro e w' ⟨rfl,ρ',k1,k2⟩
 have hx6:x<6:=sO0 hx hs;exact⟨rfl,ρ',⟨_,k1,uD0 x bt f,h3.spread hs hx6 bt f⟩,k2⟩
theorem vF0 (h:RG w b ρ σ)(x s:Nat):Calls Tryz.prog 76 #[.pointer (some ⟨b,0,none⟩),int x,int s] w fun e w'=>e=.returned (.tuple #[])∧∃ρ',RG w' b ρ' (σ.know x s none)∧Mv yM ρ ρ' w w':=by
 obtain⟨R,h1,rfl,h3⟩:=h;refine(uN h1 x s (by have:=h3.len;omega)).mono ?_;rintro e w' ⟨rfl,ρ',k1,k2⟩
 exact⟨rfl,ρ',⟨_,k1,tD0 x s,h3.forget x s⟩,k2⟩
theorem nK0 (h:RG w b ρ σ){x s:Nat}(hx:x<6)(hs:s<8){f:Fact}{v2 v3 v4 v5 v6 v7:Value}(hv:FaC w ρ ⟨x,s,f⟩ [int x,int s,v2,v3,v4,v5,v6,v7]):Calls Tryz.prog 42 #[.pointer (some ⟨b,0,none⟩),.agg #[int x,int s,v2,v3,v4,v5,v6,v7]] w fun e w'=>e=.returned (.tuple #[])∧∃ρ',RG w' b ρ' (σ.know x s (some f))∧Mv yM ρ ρ' w w':=by
 obtain⟨R,h1,rfl,h3⟩:=h;refine(cG0 h1 hv (by have:=h3.len;omega)).mono ?_;rintro e w' ⟨rfl,ρ',k1,k2⟩
 exact⟨rfl,ρ',⟨_,k1,uP x s f,h3.learn hx hs f⟩,k2⟩
theorem vO0 (h:RG w b ρ σ){c k:Nat}(hc:c<4)(hk:k<2)(e:News)(hn:(σ.cl c).log.length<2199023255552)(ht:((σ.cl c).told k).length<2199023255552):Calls Tryz.prog 41 #[.pointer (some ⟨b,0,none⟩),int (2*c+k:Nat),e.val] w fun r w'=>r=.returned (.tuple #[])∧∃ρ',RG w' b ρ' (σ.tell (2*c+k) e)∧Mv (eB c k) ρ ρ' w w':=by
 obtain⟨R,h1,rfl,h3⟩:=h;refine(cI0 h1 hc hk e hn ht).mono ?_;rintro e' w' ⟨rfl,ρ',k1,k2⟩
 exact⟨rfl,ρ',⟨_,k1,zK0 _ e,h3.setCl _ _⟩,k2⟩
theorem loseG (h:RG w b ρ σ){c k:Nat}(hc:c<4)(hk:k<2)(mo:Int)(hn:(σ.cl c).log.length<2199023255552):Calls Tryz.prog 40 #[.pointer (some ⟨b,0,none⟩),int (2*c+k:Nat),int mo] w fun r w'=>r=.returned (.tuple #[])∧∃ρ',RG w' b ρ' (σ.lose (2*c+k) mo)∧Mv (eB c k) ρ ρ' w w':=by
 obtain⟨R,h1,rfl,h3⟩:=h;refine(tK0 h1 hc hk mo hn).mono ?_;rintro e' w' ⟨rfl,ρ',k1,k2⟩
 exact⟨rfl,ρ',⟨_,k1,yK0 _ mo,h3.setCl _ _⟩,k2⟩
end
end Go.Proofs.YtodfcpblcpogiaaGreat

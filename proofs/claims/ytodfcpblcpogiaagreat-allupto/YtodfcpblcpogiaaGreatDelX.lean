import Derived.Test.YtodfcpblcpogiaaGreatUnsX
import Derived.Test.YtodfcpblcpogiaaGreatNewX
import Derived.Test.YtodfcpblcpogiaaGreatDel
namespace Go.Proofs.YtodfcpblcpogiaaGreat
open Go.RowKit
set_option maxRecDepth 100000 in
set_option maxHeartbeats 1000000 in
theorem kI0 (b o:Nat)(at_ home:Int)(u0 u1:Bool)(w:World)(h0:w.cell? ⟨b,o,none⟩=some (int at_))(h1:w.cell? ⟨b,o+1,none⟩=some (int home))(h2:w.cell? ⟨b,o+4,none⟩=some (.bool u0))(h3:w.cell? ⟨b,o+4+1*13,none⟩=some (.bool u1)):
  Calls Tryz.prog 27 #[.pointer (some ⟨b,o,none⟩)] w fun e w'=>e=.returned (.agg #[int at_,int home,.bool false,.bool u0,.bool u1])∧qA w w':=by
 have hb:b<w.heap.size:=fP0 h0;have k0:w.cell? ⟨b,o+4+0*13,none⟩=some (.bool u0):=h2;go_enter Tryz.func27,Tryz.ntmps27
 go_wp2_with fail
 go_region
 all_goals go_wp2_with fail
 all_goals refine wp_loop_rounds 3 ?_
 all_goals rw[rounds_succ]
 all_goals go_wp2_with (go_at_call 63;refine(cD b o 0 u0 _ (by omega) (by go_simp)).mono ?_;rintro r w2 ⟨rfl,hw2⟩;have hw2:=hw2.symm;subst hw2)
 all_goals rw[rounds_succ]
 all_goals go_wp2_with (go_at_call 63;refine(cD b o 1 u1 _ (by omega) (by go_simp)).mono ?_;rintro r w2 ⟨rfl,hw2⟩;have hw2:=hw2.symm;subst hw2)
 all_goals rw[rounds_succ]
 all_goals go_wp2
 all_goals exact bodyPost_ret (v:=.agg #[int at_,int home,.bool false,.bool u0,.bool u1]) (by simp[results,Tryz.results27,go_sem]) rfl ⟨rfl,(((cP0 _ _).alloc _).alloc _).drew⟩
section
variable {w : World} {b : Nat} {ρ : Nat → Option Role} {σ : Net}
set_option maxRecDepth 100000 in
set_option maxHeartbeats 1000000 in
theorem eM0 (h:XN w b ρ σ){m:Nat}(F:Fit σ m){c:Nat}(hc:c<4):
  Calls Tryz.prog 10 #[.pointer (some ⟨b,0,none⟩),int c] w fun e w'=>e=.returned (.tuple #[.agg #[int (whr (σ.cl c).here),int (whr (σ.cl c).home),.bool (σ.waits c),.bool ((σ.cl c).used 0),.bool ((σ.cl c).used 1)],int 0])∧qA w w':=by
 have hcl:=h.closed;have hct:chk true=0:=rfl;have hcc:dA (c:Int)=true:=jC hc;have hci:(c:Int)<4:=by omega
 have hbl:=h.lt b (by rw[h.net];simp)
 have C:=h.cli c hc;have HX6:Hid (∀y,(σ.cl c).here=some y→y<6):=fun y hy=>sO0 ((F.good.clis c hc).here y hy) (gB F.good.tree);have hweq:=F.live.waits_eq hc;have HC:=uA C;have HX:=uA h;clear h C F;go_enter Tryz.func10,Tryz.ntmps10
 go_wp2_with (first
  | (go_at_call 26;refine(aA _ _).mono ?_;rw[hcc];rintro r w2 ⟨rfl,hw2⟩;have hw2:=hw2.symm;subst hw2)
  | (go_at_call 25;refine(sB _ _ _ (by go_simp)).mono ?_;rintro r w2 ⟨rfl,hw2⟩;have hw2:=hw2.symm;subst hw2))
 obtain⟨W,hW⟩:∃W,w.alloc (.cells #[int 0,int 0,.bool false,.bool false,.bool false] 50)=W:=⟨_,rfl⟩;have tW:qA w W:=by rw[←hW];exact(cP0 _ _).alloc _
 have CW:=((yA HX).calm tW).cli c hc;have HBX:Hid (W.heap[w.heap.size]?=some (.cells #[int 0,int 0,.bool false,.bool false,.bool false] 50)):=by rw[←hW];exact eP0 w _
 have HTW:=uA tW;rw[hW];clear hW tW;refine(kI0 b (86+c*31) _ _ _ _ W CW.here CW.home (CW.used 0 (by omega)) (CW.used 1 (by omega))).mono ?_;rintro r w3 ⟨rfl,ht3⟩
 have hbx:=(ht3.block _ (tO0.1 (yA HBX)).1 id).trans (yA HBX);have HBX3:=uA hbx;have HT3:=uA ((yA HTW).trans ht3);have c0:w3.cell? ⟨w.heap.size,0,none⟩=some (int 0):=xA hbx 0;have c1:w3.cell? ⟨w.heap.size,1,none⟩=some (int 0):=xA hbx 1;have c2:w3.cell? ⟨w.heap.size,2,none⟩=some (.bool false):=xA hbx 2;have c3:w3.cell? ⟨w.heap.size,3,none⟩=some (.bool false):=xA hbx 3;have c4:w3.cell? ⟨w.heap.size,4,none⟩=some (.bool false):=xA hbx 4;clear ht3 CW hbx HBX;go_wp2_with fail
 obtain⟨V,hV⟩:∃V,w3.alloc (.cells #[int (whr (σ.cl c).here),int (whr (σ.cl c).home),.bool false,.bool ((σ.cl c).used 0),.bool ((σ.cl c).used 1)] 50)=V:=⟨_,rfl⟩;have tV:qA w3 V:=by rw[←hV];exact(cP0 _ _).alloc _
 have hvx:V.heap[w3.heap.size]?=some (.cells #[int (whr (σ.cl c).here),int (whr (σ.cl c).home),.bool false,.bool ((σ.cl c).used 0),.bool ((σ.cl c).used 1)] 50):=by rw[←hV];exact eP0 w3 _
 have hzx:=(tV.block _ (tO0.1 (yA HBX3)).1 id).trans (yA HBX3);rw[hV];have HV:=uA ((yA HT3).trans tV);have hwl:w.heap.size<w3.heap.size:=(tO0.1 (yA HBX3)).1;obtain⟨vg,hvg⟩:∃vg,w3.heap.size=vg:=⟨_,rfl⟩;rw[hvg] at hvx hwl;rw[hvg];obtain⟨zg,hzg⟩:∃zg,w.heap.size=zg:=⟨_,rfl⟩;rw[hzg] at hzx hwl;rw[hzg];have HZG:Hid (w.heap.size≤zg):=by rw[←hzg];exact qO0 _
 clear hV tV c0 c1 c2 c3 c4 HBX3 hvg hzg HTW;refine(mG ((yA HX).calm (yA HV)) hc (yA HX6)).mono ?_;rw[hweq];rintro r w5 ⟨rfl,ht5⟩
 have hvx5:=(ht5.block _ (tO0.1 hvx).1 id).trans hvx;have hzx5:=(ht5.block _ (tO0.1 hzx).1 id).trans hzx;have HT5:=uA ((yA HV).trans ht5);generalize hg0:σ.waits c=wt at*;generalize hg1:(σ.cl c).used 0=u0 at*;generalize hg2:(σ.cl c).used 1=u1 at*;generalize hg3:whr (σ.cl c).here=p0 at*;generalize hg4:whr (σ.cl c).home=p1 at*;have v0:w5.cell? ⟨vg,0,none⟩=some (int p0):=xA hvx5 0;have v1:w5.cell? ⟨vg,1,none⟩=some (int p1):=xA hvx5 1;have v2:w5.cell? ⟨vg,2,none⟩=some (.bool false):=xA hvx5 2;have v3:w5.cell? ⟨vg,3,none⟩=some (.bool u0):=xA hvx5 3;have v4:w5.cell? ⟨vg,4,none⟩=some (.bool u1):=xA hvx5 4;have z0:w5.cell? ⟨zg,0,none⟩=some (int 0):=xA hzx5 0;have z1:w5.cell? ⟨zg,1,none⟩=some (int 0):=xA hzx5 1;have z2:w5.cell? ⟨zg,2,none⟩=some (.bool false):=xA hzx5 2;have z3:w5.cell? ⟨zg,3,none⟩=some (.bool false):=xA hzx5 3;have z4:w5.cell? ⟨zg,4,none⟩=some (.bool false):=xA hzx5 4;have vf:=bA hvx5;have zf:=bA hzx5;have hne:zg≠vg:=by omega
 have hl1:vg<w5.heap.size:=fP0 v0;have hl2:zg<w5.heap.size:=fP0 z0;have HG:=uA (And.intro hg0 (And.intro hg1 (And.intro hg2 (And.intro hg3 hg4))));clear hvx hzx hvx5 hzx5 ht5 hweq HX HC hg0 hg1 hg2 hg3 hg4;go_wp2;obtain⟨hg0,hg1,hg2,hg3,hg4⟩:=yA HG;have hz:=yA HZG;have hfin:qA w ((((((w5.setCell ⟨vg,2,none⟩ (.bool wt)).setCell ⟨zg,0,none⟩ (int p0)).setCell ⟨zg,1,none⟩ (int p1)).setCell ⟨zg,2,none⟩ (.bool wt)).setCell ⟨zg,3,none⟩ (.bool u0)).setCell ⟨zg,4,none⟩ (.bool u1)):=Touch.fresh (yA HT5) (((((((cP0 (fun k=>k=vg∨k=zg) w5).setCell (p:=⟨vg,2,none⟩) (fun _=>Or.inl rfl) _).setCell (p:=⟨zg,0,none⟩) (fun _=>Or.inr rfl) _).setCell (p:=⟨zg,1,none⟩) (fun _=>Or.inr rfl) _).setCell (p:=⟨zg,2,none⟩) (fun _=>Or.inr rfl) _).setCell (p:=⟨zg,3,none⟩) (fun _=>Or.inr rfl) _).setCell (p:=⟨zg,4,none⟩) (fun _=>Or.inr rfl) _) (fun k hk e=>by rcases e with e | e<;>omega)
 have y0:((((((w5.setCell ⟨vg,2,none⟩ (.bool wt)).setCell ⟨zg,0,none⟩ (int p0)).setCell ⟨zg,1,none⟩ (int p1)).setCell ⟨zg,2,none⟩ (.bool wt)).setCell ⟨zg,3,none⟩ (.bool u0)).setCell ⟨zg,4,none⟩ (.bool u1)).cell? ⟨zg,0,none⟩=some (int p0):=by go_simp
 have y1:((((((w5.setCell ⟨vg,2,none⟩ (.bool wt)).setCell ⟨zg,0,none⟩ (int p0)).setCell ⟨zg,1,none⟩ (int p1)).setCell ⟨zg,2,none⟩ (.bool wt)).setCell ⟨zg,3,none⟩ (.bool u0)).setCell ⟨zg,4,none⟩ (.bool u1)).cell? ⟨zg,1,none⟩=some (int p1):=by go_simp
 have y2:((((((w5.setCell ⟨vg,2,none⟩ (.bool wt)).setCell ⟨zg,0,none⟩ (int p0)).setCell ⟨zg,1,none⟩ (int p1)).setCell ⟨zg,2,none⟩ (.bool wt)).setCell ⟨zg,3,none⟩ (.bool u0)).setCell ⟨zg,4,none⟩ (.bool u1)).cell? ⟨zg,2,none⟩=some (.bool wt):=by go_simp
 have y3:((((((w5.setCell ⟨vg,2,none⟩ (.bool wt)).setCell ⟨zg,0,none⟩ (int p0)).setCell ⟨zg,1,none⟩ (int p1)).setCell ⟨zg,2,none⟩ (.bool wt)).setCell ⟨zg,3,none⟩ (.bool u0)).setCell ⟨zg,4,none⟩ (.bool u1)).cell? ⟨zg,3,none⟩=some (.bool u0):=by go_simp
 have y4:((((((w5.setCell ⟨vg,2,none⟩ (.bool wt)).setCell ⟨zg,0,none⟩ (int p0)).setCell ⟨zg,1,none⟩ (int p1)).setCell ⟨zg,2,none⟩ (.bool wt)).setCell ⟨zg,3,none⟩ (.bool u0)).setCell ⟨zg,4,none⟩ (.bool u1)).cell? ⟨zg,4,none⟩=some (.bool u1):=by go_simp
 generalize ((((((w5.setCell ⟨vg,2,none⟩ (.bool wt)).setCell ⟨zg,0,none⟩ (int p0)).setCell ⟨zg,1,none⟩ (int p1)).setCell ⟨zg,2,none⟩ (.bool wt)).setCell ⟨zg,3,none⟩ (.bool u0)).setCell ⟨zg,4,none⟩ (.bool u1))=Z at*;exact bodyPost_ret (v:=.tuple #[.agg #[int p0,int p1,.bool wt,.bool u0,.bool u1],int 0]) (by simp[results,Tryz.results10,go_sem,y0,y1,y2,y3,y4]) rfl ⟨by rw[hg0,hg1,hg2,hg3,hg4],hfin⟩
set_option maxRecDepth 100000 in
set_option maxHeartbeats 1000000 in
theorem rK0 (h:XN w b ρ σ)(c:Int)(hcc:dA c=false):
  Calls Tryz.prog 10 #[.pointer (some ⟨b,0,none⟩),int c] w fun e w'=>e=.returned (.tuple #[.agg #[int 0,int 0,.bool false,.bool false,.bool false],int 1])∧qA w w':=by
 have hcl:=h.closed;have hct:chk false=1:=rfl;have hbl:=h.lt b (by rw[h.net];simp)
 clear h;go_enter Tryz.func10,Tryz.ntmps10
 go_wp2_with (first
  | (go_at_call 26;refine(aA _ _).mono ?_;rw[hcc];rintro r w2 ⟨rfl,hw2⟩;have hw2:=hw2.symm;subst hw2)
  | (go_at_call 25;refine(sB _ _ _ (by go_simp)).mono ?_;rintro r w2 ⟨rfl,hw2⟩;have hw2:=hw2.symm;subst hw2))
 exact bodyPost_ret (v:=.tuple #[.agg #[int 0,int 0,.bool false,.bool false,.bool false],int 1]) (by simp[results,Tryz.results10,go_sem]) rfl ⟨rfl,(cP0 _ _).alloc _⟩
end
def mH (par:List Nat)(p c:Int):Bool:=decide (0<c∧c<size par∧((up par c.toNat:Nat):Int)=p)
def yS (par:List Nat)(x y:Int):Bool:=mH par x y || mH par y x
theorem jD0 (par:List Nat)(p c:Nat):mH par p c=xK par p c:=by
 unfold mH xK;apply decide_eq_decide.2
 simp only[iO0];omega
theorem nS (par:List Nat)(p c:Int)(h:p<0∨c<0):mH par p c=false:=pP0 (by omega)
theorem qD0 (σ:Net)(x y:Int):yS σ.par x y=σ.isLink x y:=by
 unfold Net.isLink;by_cases h:0≤x∧0≤y
 ·obtain⟨x',rfl⟩:∃x':Nat,x=x':=⟨x.toNat,by omega⟩;obtain⟨y',rfl⟩:∃y':Nat,y=y':=⟨y.toNat,by omega⟩;simp only[yS,jD0,iB,iO0,decide_eq_true h,Bool.true_and]
 ·rw[pP0 h,Bool.false_and,yS,nS _ _ _ (by omega),nS _ _ _ (by omega)];rfl
set_option maxRecDepth 100000 in
set_option maxHeartbeats 400000 in
theorem gN (a:Option Addr)(cap:Nat)(par:List Nat)(p c:Int)(w:World)(hn:par.length≤5)(h:ParAt w a par):
  Calls Tryz.prog 114 #[.agg #[.slice a par.length cap],int p,int c] w fun e w'=>e=.returned (.bool (mH par p c))∧qA w w':=by
 by_cases hc0:0<c
 ·obtain⟨c',rfl⟩:∃c':Nat,c=c':=⟨c.toNat,by omega⟩;have hc1:0<c':=by omega
  by_cases hcn:c'≤par.length
  ·have hh:vN par.length c'=true:=by simp[vN];omega
   have HC:=uA h;clear h;go_enter Tryz.func114,Tryz.ntmps114
   go_wp2_with fail
   refine(eF _ _ _ _ _ hn).mono ?_;rintro e w1 ⟨rfl,ht1⟩
   have hbx:=ht1.box id;have e0:w1.cell? ⟨w.heap.size,0,none⟩=some (.slice a par.length cap):=xA hbx 0;have HC1:=uA ((yA HC).calm (((cP0 (fun _=>False) w).alloc _).calm ht1));clear hbx HC;go_wp2_with (go_at_call 120;refine(jF a cap par c' _ hn hc1 hcn ?_).mono ?_;exact yA HC1;rintro e w2 ⟨rfl,ht2⟩)
   go_ret;refine⟨?_,(((cP0 _ _).alloc _).calm ht1).calm ht2⟩;have hs:(c':Int)<size par:=by simp only[size];omega
   simp only[mH,hc0,hs,true_and,iO0];rw[iE];rfl
  ·have hh:vN par.length c'=false:=by simp[vN];omega
   clear h;go_enter Tryz.func114,Tryz.ntmps114
   go_wp2_with (go_at_call 31;refine(eF _ _ _ _ _ hn).mono ?_;rintro e w1 ⟨rfl,hb1⟩)
   go_ret;exact⟨by rw[show mH par p c'=false from pP0 (by simp only[size];omega)];rfl,((cP0 _ _).alloc _).calm hb1⟩
 ·clear h;go_enter Tryz.func114,Tryz.ntmps114
  go_wp2;go_ret
  exact⟨by rw[show mH par p c=false from pP0 (by omega)];rfl,(cP0 _ _).alloc _⟩
set_option maxRecDepth 100000 in
set_option maxHeartbeats 400000 in
theorem bJ (a:Option Addr)(cap:Nat)(par:List Nat)(x y:Int)(w:World)(hn:par.length≤5)(h:ParAt w a par):
  Calls Tryz.prog 90 #[.agg #[.slice a par.length cap],int x,int y] w fun e w'=>e=.returned (.bool (yS par x y))∧qA w w':=by
 have H:=uA h;clear h;go_enter Tryz.func90,Tryz.ntmps90
 go_wp2_with fail
 refine(gN a cap par x y _ hn ((yA H).calm ((cP0 _ _).alloc _))).mono ?_;rintro e w1 ⟨rfl,ht1⟩
 have hbx:=ht1.box id;have e0:w1.cell? ⟨w.heap.size,0,none⟩=some (.slice a par.length cap):=xA hbx 0;have H1:=uA ((yA H).calm (((cP0 _ _).alloc _).calm ht1));clear hbx;cases hr:mH par x y with
 | true=>
  go_wp2;go_ret
  exact⟨by simp[yS,hr],((cP0 _ _).alloc _).calm ht1⟩
 | false=>
  go_wp2_with fail
  refine(gN a cap par y x _ hn (yA H1)).mono ?_;rintro e w2 ⟨rfl,ht2⟩
  go_wp2;go_ret
  exact⟨by simp[yS,hr],(((cP0 _ _).alloc _).calm ht1).calm ht2⟩
section
variable {w : World} {b : Nat} {ρ : Nat → Option Role} {σ : Net}
set_option maxRecDepth 100000 in
set_option maxHeartbeats 1000000 in
theorem mB0 (h:XN w b ρ σ)(h5:σ.par.length≤5)(x y:Int)(hl:σ.isLink x y=false):
    Calls Tryz.prog 56 #[.pointer (some ⟨b,0,none⟩),int x,int y] w fun e w'=>e=.returned (int 1)∧qA w w':=by
  obtain⟨a,cap,ha,hpa⟩:=h.par;have hcl:=h.closed;have hct:chk false=1:=rfl;have hbl:=h.lt b (by rw[h.net];simp)
  have hni:yS σ.par x y=false:=by rw[qD0];exact hl
  have HPA:=uA hpa;clear h hpa hl;go_enter Tryz.func56,Tryz.ntmps56
  go_wp2_with (first
    | (go_at_call 90;refine(bJ a cap σ.par x y _ h5 ?_).mono ?_;exact yA HPA;rw[hni];rintro r w1 ⟨rfl,ht1⟩
       have hcl1:=ht1.cell (p:=⟨b,0,none⟩) id hcl;have HT1:=uA ht1
       clear ht1 hcl)
    | (go_at_call 25;refine(sB _ _ _ hcl1).mono ?_;rintro r w2 ⟨rfl,hw2⟩;have hw2:=hw2.symm;subst hw2))
  go_ret;exact⟨rfl,yA HT1⟩
theorem pC0 (h:XN w b ρ σ){x y:Nat}(hx:x<6)(hy:y<6)(hn:iB σ.par x y=true)(hq:σ.q x y=[]):
  Calls Tryz.prog 91 #[.pointer (some ⟨b,2,none⟩),int x,int y] w fun e w'=>e=.returned (.tuple #[.pointer none,.bool false])∧w'=w:=by
 obtain⟨v,h1,h2⟩:=h.link x y hx hy;unfold LinkAt at h2;rw[if_pos hn] at h2;obtain⟨r,buf,s,t,rfl,hrr,hch,hfr⟩:=h2;have hsz:buf=#[]:=by
  have:=hfr.1;rw[hq] at this;have:buf.toList=[]:=zP0 this;exact Array.toList_eq_nil_iff.1 this
 subst hsz;exact cF0 b r 2000 s t x y w hx hy h1 hch
set_option maxRecDepth 100000 in
set_option maxHeartbeats 1000000 in
theorem jY (h:XN w b ρ σ){m:Nat}(F:Fit σ m){x y:Nat}(hn:iB σ.par x y=true)(hq:σ.q x y=[]):
    Calls Tryz.prog 56 #[.pointer (some ⟨b,0,none⟩),int x,int y] w fun e w'=>e=.returned (int 7)∧qA w w':=by
  have T:=F.good.tree;have h5:=T.1;have h6:=dB T hn;obtain⟨a,cap,ha,hpa⟩:=h.par;have hcl:=h.closed;have hct:chk true=0:=rfl;have hbl:=h.lt b (by rw[h.net];simp)
  have HX:=uA h;have HPA:=uA hpa;have HQ:=uA hq;clear h hpa F hq;go_enter Tryz.func56,Tryz.ntmps56
  go_wp2_with (first
    | (go_at_call 90;refine(pD a cap σ.par x y _ h5 ?_).mono ?_;exact yA HPA;rw[hn];rintro r w1 ⟨rfl,ht1⟩
       have hcl1:=ht1.cell (p:=⟨b,0,none⟩) id hcl;have HX1:=uA ((yA HX).calm ht1);have HT1:=uA ht1
       clear ht1 hcl)
    | (go_at_call 25;refine(sB _ _ _ hcl1).mono ?_;rintro r w2 ⟨rfl,hw2⟩;have hw2:=hw2.symm;subst hw2)
    | (go_at_call 91;refine(pC0 (x:=x) (y:=y) (yA HX1) h6.1 h6.2 hn (yA HQ)).mono ?_;rintro r w3 ⟨rfl,hw3⟩;have hw3:=hw3.symm;subst hw3))
  go_ret;exact⟨rfl,yA HT1⟩
theorem iL0 (h:XN w b ρ σ){m:Nat}(F:Fit σ m)(hm:m<2000000000000)(x y:Int):
  Calls Tryz.prog 56 #[.pointer (some ⟨b,0,none⟩),int x,int y] w fun e w'=>e=.returned (int (σ.delE x y))∧∃ρ',XN w' b ρ' (σ.del x y)∧Mv uB ρ ρ' w w':=by
 cases hl:σ.isLink x y with
 | false=>
  have hE:σ.delE x y=1:=by simp[Net.delE,Net.asked,h.open_,hl]
  have hD:σ.del x y=σ:=by simp[Net.del,hE]
  rw[hE,hD];exact(mB0 h F.good.tree.1 x y hl).mono fun e w' ⟨h1,h2⟩=>⟨h1,ρ,h.calm h2,h.mvCalm h2⟩
 | true=>
  have hl2:=hl;simp only[Net.isLink,qP0,oP0] at hl2;obtain⟨hp,hn⟩:=hl2;obtain⟨x',rfl⟩:∃x':Nat,x=x':=⟨x.toNat,by omega⟩;obtain⟨y',rfl⟩:∃y':Nat,y=y':=⟨y.toNat,by omega⟩;simp only[iO0] at hn;cases hq:σ.q x' y' with
  | nil=>
   have hE:σ.delE x' y'=7:=by simp[Net.delE,Net.asked,h.open_,hl,hq]
   have hD:σ.del x' y'=σ:=by simp[Net.del,hE]
   rw[hE,hD];exact(jY h F hn hq).mono fun e w' ⟨h1,h2⟩=>⟨h1,ρ,h.calm h2,h.mvCalm h2⟩
  | cons f l=>
   rw[(eW h.open_ hn hq).1];exact kL0 h F hm hq
end
end Go.Proofs.YtodfcpblcpogiaaGreat

import Derived.Test.YtodfcpblcpogiaaGreatMvs
import Derived.Test.YtodfcpblcpogiaaGreatDel
namespace Go.Proofs.YtodfcpblcpogiaaGreat
open Go.RowKit
theorem rM {z:Int}(h0:-9223372036854775808≤z)(h1:z≤9223372036854775807):wrap64 z=z:=by
 simp only[wrap64];omega
theorem XN.come {w:World}{b:Nat}{ρ:zA}{σ:Net}(h:XN w b ρ σ){c x:Nat}(hc:c<4)(hs:0≤(σ.cl c).stays∧(σ.cl c).stays<2199023255552):
  XN (((w.setCell ⟨b,86+c*31,none⟩ (int x)).setCell ⟨b,86+c*31+1,none⟩ (int x)).setCell ⟨b,86+c*31+2,none⟩ (int (wrap64 ((σ.cl c).stays+1)))) b ρ (σ.arrive c x)∧
   Mv uB ρ ρ w (((w.setCell ⟨b,86+c*31,none⟩ (int x)).setCell ⟨b,86+c*31+1,none⟩ (int x)).setCell ⟨b,86+c*31+2,none⟩ (int (wrap64 ((σ.cl c).stays+1)))):=by
 have C:=h.cli c hc;obtain⟨w1,e1⟩:∃w1,w1=w.setCell ⟨b,86+c*31,none⟩ (int x):=⟨_,rfl⟩;obtain⟨w2,e2⟩:∃w2,w2=w1.setCell ⟨b,86+c*31+1,none⟩ (int x):=⟨_,rfl⟩;obtain⟨w3,e3⟩:∃w3,w3=w2.setCell ⟨b,86+c*31+2,none⟩ (int (wrap64 ((σ.cl c).stays+1))):=⟨_,rfl⟩;rw[←e1,←e2,←e3];have hcell:∀o v,o≠86+c*31→o≠86+c*31+1→o≠86+c*31+2→w.cell? ⟨b,o,none⟩=some v→w3.cell? ⟨b,o,none⟩=some v:=fun o v n1 n2 n3 hv=>by
  rw[e3];refine tA _ n3 ?_;rw[e2];refine tA _ n2 ?_;rw[e1];exact tA _ n1 hv
 have c0:w3.cell? ⟨b,86+c*31,none⟩=some (int x):=by
  rw[e3];refine tA _ (by omega) ?_;rw[e2];refine tA _ (by omega) ?_;rw[e1];exact mP0 w _ _ C.here
 have hh1:w1.cell? ⟨b,86+c*31+1,none⟩=some (int (whr (σ.cl c).home)):=by rw[e1];exact tA _ (by omega) C.home
 have hs1:w1.cell? ⟨b,86+c*31+2,none⟩=some (int (σ.cl c).stays):=by rw[e1];exact tA _ (by omega) C.stays
 have hs2:w2.cell? ⟨b,86+c*31+2,none⟩=some (int (σ.cl c).stays):=by rw[e2];exact tA _ (by omega) hs1
 have c1:w3.cell? ⟨b,86+c*31+1,none⟩=some (int x):=by
  rw[e3];refine tA _ (by omega) ?_;rw[e2];exact mP0 w1 _ _ hh1
 have c2:w3.cell? ⟨b,86+c*31+2,none⟩=some (int ((σ.cl c).stays+1)):=by
  rw[e3,rM (by omega) (by omega)];exact mP0 w2 _ _ hs2
 have hk:∀i,i≠b→w3.heap[i]?=w.heap[i]?:=fun i hi=>by
  rw[e3,zB _ _ hi,e2,zB _ _ hi,e1,zB _ _ hi]
 have ht:Touch (fun i=>i=b) w w3:=by
  rw[e3,e2,e1];exact(((cP0 (fun i=>i=b) w).setCell (p:=⟨b,86+c*31,none⟩) (fun _=>rfl) _).setCell (p:=⟨b,86+c*31+1,none⟩) (fun _=>rfl) _).setCell (p:=⟨b,86+c*31+2,none⟩) (fun _=>rfl) _
 have hmv:Mv (fun r=>r=.net) ρ ρ w w3:=⟨ht.mono (fun i _ e=>⟨.net,by rw[e];exact h.net,rfl⟩),fun _ _=>Or.inl rfl,fun k hk=>sO0 (h.lt k hk) ht.size⟩;refine⟨?_,hmv.mono (fun _ _=>trivial)⟩;refine h.step hmv (fun o=>o=86+c*31∨o=86+c*31+1∨o=86+c*31+2) (by rw[e3,e2,e1];exact nB (nB (nB h.typ _ _) _ _) _ _) (fun o=>by rw[e3,e2,e1];exact qB _ _ _ _ _ (qB _ _ _ _ _ (qB _ _ _ _ _ (h.fr o)))) (fun o v ho=>hcell o v (fun e=>ho (Or.inl e)) (fun e=>ho (Or.inr (Or.inl e))) (fun e=>ho (Or.inr (Or.inr e)))) rfl rfl (by omega) (by omega) (by simp) (by simp) (by simp)
  (fun u v _ _=>Or.inl ⟨rfl,by omega,by simp⟩) (fun u d k _ _ _=>Or.inl ⟨rfl,by omega,by simp,by simp⟩) (fun d hd=>?_)
 by_cases ed:d=c
 ·right
  subst ed;simp only[Net.arrive,Net.setCl,put_same];obtain⟨v,g1,g2⟩:=C.log;have hkr:∀i r,ρ i=some r→r≠.net→w3.heap[i]?=w.heap[i]?∧ρ i=ρ i:=fun i r hi hr=>⟨hk i (fun e=>by subst e;rw[h.net] at hi;cases hi;exact hr rfl),rfl⟩;refine⟨c0,c1,c2,hcell _ _ (by omega) (by omega) (by omega) C.many,fun k hk2=>hcell _ _ (by omega) (by omega) (by omega) (C.used k hk2),fun k hk2=>hcell _ _ (by omega) (by omega) (by omega) (C.age k hk2),fun k hk2=>(C.fl k hk2).keep (fun j v hj=>hcell _ _ (by omega) (by omega) (by omega)),fun k hk2=>?_,v,hcell _ _ (by omega) (by omega) (by omega) g1,g2.keep (fun i hi=>hkr i _ hi (by simp))⟩;obtain⟨u,f1,f2⟩:=C.heard k hk2;exact⟨u,hcell _ _ (by omega) (by omega) (by omega) f1,f2.keep (fun i hi=>hkr i _ hi (by simp))⟩
 ·left
  exact⟨by simp only[Net.arrive,Net.setCl,kA _ _ ed],fun o _ _=>by omega,fun _=>by simp,by simp⟩
def oF (σ:Net)(c x:Nat):Nat→Net
 | 0=>σ
 | j+1=>(oF σ c x j).rel c x j
theorem zG0 (σ:Net)(c x k:Nat)(_:k<2):((σ.rel c x k).cl c).here=(σ.cl c).here∧∀s,s≠2*c+k→(σ.rel c x k).kn x s=σ.kn x s:=by
 unfold Net.rel;cases σ.kn x (2*c+k) with
 | none=>exact⟨rfl,fun _ _=>rfl⟩
 | some f=>
  simp only;refine⟨?_,fun s hs=>?_⟩
  ·have h1:=(gK (2*c+k) c f.kept (σ.lose (2*c+k) f.more)).1;have h2:=(eY σ (2*c+k) f.more c).1;exact h1.trans h2
  ·show xB ((σ.lose (2*c+k) f.more).tells (2*c+k) f.kept).kn x (2*c+k) _ x s=_
   rw[jA _ _ (fun e=>hs e.2),oZ];rfl
set_option maxRecDepth 100000 in
set_option maxHeartbeats 2000000 in
theorem eF0 {w:World}{b:Nat}{ρ:zA}{σ:Net}(h:XN w b ρ σ){c x:Nat}(hc:c<4)(hx:x<6)(hh:(σ.cl c).here=some x)
  (hC:∀k,k<2→∀f,σ.kn x (2*c+k)=some f→tJ (oF σ c x k) c k f.kept f.more):
  Calls Tryz.prog 36 #[.pointer (some ⟨b,0,none⟩),int c] w fun e w'=>e=.returned (.tuple #[])∧∃ρ',XN w' b ρ' (oF σ c x 2)∧Mv uB ρ ρ' w w':=by
 have hci:(c:Int)<4:=by omega
 have hxi:(x:Int)<6:=by omega
 have HX:=uA h;have HC:=uA hC;clear h hC;go_enter Tryz.func36,Tryz.ntmps36
 go_wp2;go_loopw [12] (fun p wr=>∃j:Nat,j≤2∧p=int j∧∃ρ',XN wr b ρ' (oF σ c x j)∧Mv uB ρ ρ' w wr∧((oF σ c x j).cl c).here=some x∧∀k,j≤k→(oF σ c x j).kn x (2*c+k)=σ.kn x (2*c+k)) (fun p _=>2-(intOf p).toNat)
 case atStart=>exact⟨0,by omega,rfl,ρ,yA HX,aP0 (yA HX).lt,hh,fun _ _=>rfl⟩
 case round=>
  obtain⟨j,hj,rfl,ρ1,hX1,hM1,hH1,hK1⟩:=hrel;by_cases hlt:j<2
  ·have hji:(j:Int)<2:=by omega
   have hat:=(hX1.cli c hc).here;rw[hH1] at hat;replace hat:wr.cell? ⟨b,86+c*31,none⟩=some (int x):=hat;obtain⟨rk1,rk2⟩:=zG0 (oF σ c x j) c x j hlt;have hrs:oF σ c x (j+1)=(oF σ c x j).rel c x j:=rfl;have hnext:((oF σ c x (j+1)).cl c).here=some x∧∀k,j+1≤k→(oF σ c x (j+1)).kn x (2*c+k)=σ.kn x (2*c+k):=by
    rw[hrs];exact⟨rk1.trans hH1,fun k hk=>(rk2 _ (by omega)).trans (hK1 k (by omega))⟩
   have hkj:=hK1 j (qO0 _);obtain⟨v,hv1,hv2⟩:=hX1.known x c j hx hc hlt;cases hkn:(oF σ c x j).kn x (2*c+j) with
   | none=>
    rw[hkn] at hv2;have hv2:v=.pointer none:=hv2;subst hv2;have hst:(oF σ c x j).rel c x j=oF σ c x j:=by unfold Net.rel;rw[hkn]
    have HX1:=uA hX1;have HM1:=uA hM1;have HNX:=uA hnext;have HRS:=uA (hrs.trans hst);clear hX1 hM1 hH1 hK1 rk1 rk2 hnext hrs hst hkn hkj;go_wp2
    go_region_with (first
     | (go_at_call 49;refine(iF b (86+c*31) x _ ?_).mono ?_;exact hat;rintro e w1 ⟨rfl,rfl⟩)
     | (go_at_call 64;refine(oG b (38+x*8) c j _ (.pointer none) hc hlt ⟨_,rfl⟩ ?_).mono ?_;exact hv1;rintro e w1 ⟨rfl,rfl⟩))
    all_goals go_wp2
    all_goals go_roundw
    all_goals first
     | exact⟨j+1,by omega,by go_num,ρ1,by rw[yA HRS];exact(yA HX1).calm (cP0 _ _).drew,(yA HM1).trans (zQ0 (yA HX1).lt (cP0 _ _).drew),(yA HNX).1,(yA HNX).2⟩
     | (simp[intOf];omega)
   | some f=>
    rw[hkn] at hv2;obtain⟨kb,kv,rfl,_⟩:=hv2;have hcr:=yA HC j hlt f (by rw[←hkj];exact hkn);have hst:(oF σ c x j).rel c x j=(((oF σ c x j).lose (2*c+j) f.more).tells (2*c+j) f.kept).know x (2*c+j) (some {f with kept:=[],more:=0}):=by unfold Net.rel;rw[hkn]
    have HX1:=uA hX1;have HM1:=uA hM1;have HNX:=uA hnext;have HRS:=uA (hrs.trans hst);have HKN:=uA hkn;have HCR:=uA hcr;have HPT:=uA hv1;clear hX1 hM1 hH1 hK1 rk1 rk2 hnext hrs hst hkn hkj hcr;go_wp2
    go_region_with (first
     | (go_at_call 49;refine(iF b (86+c*31) x _ ?_).mono ?_;exact hat;rintro e w1 ⟨rfl,rfl⟩)
     | (go_at_call 64;refine(oG b (38+x*8) c j _ (ptr kb) hc hlt ⟨_,rfl⟩ ?_).mono ?_;exact hv1;rintro e w1 ⟨rfl,rfl⟩))
    all_goals go_wp2_with (go_at_call 71;refine(eZ (w:=wr.drew) ((yA HX1).calm (cP0 _ _).drew) hx hc hlt (yA HKN) (yA HPT) (yA HCR)).mono ?_;rintro e w2 ⟨rfl,ρ2,h2,m2,_⟩)
    all_goals
     have HX2:=uA h2;have HM2:=uA (((yA HM1).trans (zQ0 (yA HX1).lt (cP0 _ _).drew)).trans (m2.mono (fun _ _=>trivial)));clear h2 m2
    all_goals go_roundw
    all_goals first
     | exact⟨j+1,by omega,by go_num,ρ2,by rw[yA HRS];exact yA HX2,yA HM2,(yA HNX).1,(yA HNX).2⟩
     | (simp[intOf];omega)
  ·have hji:¬(j:Int)<2:=by omega
   have hj2:j=2:=by omega
   subst hj2;have HX1:=uA hX1;have HM1:=uA hM1;clear hX1 hM1;go_wp2;go_end0
   exact⟨rfl,ρ1,yA HX1,yA HM1⟩
theorem iH {c k j:Nat}(hk:k<2)(hj:j≠k):∀(l:List News) (σ:Net),((σ.tells (2*c+k) l).cl c).told j=(σ.cl c).told j
 | [],_=>rfl
 | e::l,σ=>by
  have h2c:(2*c+k)/2=c:=by omega
  have h2k:(2*c+k)%2=k:=by omega
  have hcl:(σ.tell (2*c+k) e).cl c=(σ.cl c).tell k e:=by simp[Net.tell,Net.setCl,h2c,h2k]
  have h1:=iH (c:=c) hk hj l (σ.tell (2*c+k) e);have h2:((σ.cl c).tell k e).told j=(σ.cl c).told j:=by
   unfold Cli.tell;split
   ·rfl
   ·simp only[kA _ _ hj]
  rw[hcl,h2] at h1;exact h1
theorem rel_cl (σ:Net)(c x k:Nat)(hk:k<2):((σ.rel c x k).cl c).used=(σ.cl c).used∧(∀j,j≠k→((σ.rel c x k).cl c).told j=(σ.cl c).told j)∧((σ.rel c x k).cl c).log.length≤(σ.cl c).log.length+oB (σ.kn x (2*c+k))+1:=by
 unfold Net.rel;cases σ.kn x (2*c+k) with
 | none=>exact⟨rfl,fun _ _=>rfl,by simp only[oB];omega⟩
 | some f=>
  simp only;have h1:=fF (c:=c) hk f.kept (σ.lose (2*c+k) f.more);have h2:=kI σ (c:=c) hk f.more;have e:∀(τ:Net) (s:Nat) (o:Option Fact),(τ.know x s o).cl=τ.cl:=fun _ _ _=>rfl;rw[e];refine⟨h1.1.trans h2.1,fun j hj=>?_,?_⟩
  ·rw[iH hk hj,h2.2.1]
  ·have h3:=h1.2.2;have h4:=h2.2.2;have h5:oB (some f)=f.kept.length:=rfl;omega
theorem Fit.canRel {σ:Net}{m:Nat}(F:Fit σ m)(hm:m<2000000000000){c x:Nat}(hc:c<4)(hx:x<6):∀k,k<2→∀f,(σ.arrive c x).kn x (2*c+k)=some f→tJ (oF (σ.arrive c x) c x k) c k f.kept f.more:=fun k hk f hf=>by
 have hf:σ.kn x (2*c+k)=some f:=hf;cases hu:(σ.cl c).used k with
 | false=>
  obtain⟨h1,h2⟩:=F.live.unused hc hk hu hf;exact Or.inr ⟨h1,by omega⟩
 | true=>
  have hW:=F.r.warm;obtain⟨E,hP,hE⟩:=hW.news;have hacl:(σ.arrive c x).cl c=(σ.cl c).arr x:=by rw[gF,jG]
  have hok:∀e,e∈f.kept→e.ok:=fun e he=>by have:=hE e (hP.kn x _ f hf e he);unfold News.ok;unfold News.lim at this;omega
  have hS:=F.r.slack.log c hc;have hkl:∀j,j<2→oB (σ.kn x (2*c+j))≤σ.mass (2*c+j):=fun j _=>by
   have:oB (σ.kn x (2*c+j))≤σ.massK (2*c+j):=jI (f:=fun b=>oB (σ.kn b (2*c+j))) hx;simp only[Net.mass];omega
  have hk0:=hkl 0 (by omega);have hk1:=hkl 1 (by omega);have hT:=F.r.slack.told (2*c+k) (by omega);have h2c:(2*c+k)/2=c:=by omega
  have h2k:(2*c+k)%2=k:=by omega
  simp only[Net.toldN,h2c,h2k] at hT;have hkk:=hkl k hk;rw[hf] at hkk;have hkf:oB (some f)=f.kept.length:=rfl;have key:∀τ:Net,(τ.cl c).used=(σ.cl c).used→(τ.cl c).told k=(σ.cl c).told k→(τ.cl c).log.length+f.kept.length+1<2199023255552→tJ τ c k f.kept f.more:=fun τ t1 t2 t3=>by
   have hl:=kI τ (c:=c) hk f.more;refine Or.inl ⟨by rw[hl.1,t1];exact hu,by rw[hl.2.1,t2];exact hW.rising c k,hok,?_,?_⟩
   ·have:=hl.2.2;omega
   ·rw[hl.2.1,t2];omega
  obtain rfl | rfl:k=0∨k=1:=by omega
  ·refine key _ (by show ((σ.arrive c x).cl c).used=_;rw[hacl];rfl) (by show ((σ.arrive c x).cl c).told 0=_;rw[hacl];rfl) ?_;show ((σ.arrive c x).cl c).log.length+f.kept.length+1<_
   rw[hacl];show (σ.cl c).log.length+f.kept.length+1<_
   simp only[Nat.add_zero] at hk0 hkk;omega
  ·have hr:=rel_cl (σ.arrive c x) c x 0 (by omega);rw[hacl] at hr;refine key _ (by show (((σ.arrive c x).rel c x 0).cl c).used=_;rw[hr.1];rfl) (by show (((σ.arrive c x).rel c x 0).cl c).told 1=_;rw[hr.2.1 1 (by omega)];rfl) ?_;show (((σ.arrive c x).rel c x 0).cl c).log.length+f.kept.length+1<_
   have h3:=hr.2.2;have h4:((σ.cl c).arr x).log.length=(σ.cl c).log.length:=rfl;have h5:oB ((σ.arrive c x).kn x (2*c+0))=oB (σ.kn x (2*c+0)):=rfl;simp only[Nat.add_zero] at hk0 h3 h5;omega
section
variable {w : World} {b : Nat} {ρ : Nat → Option Role} {σ : Net}
set_option maxRecDepth 100000 in
set_option maxHeartbeats 1000000 in
theorem nE0 (h:XN w b ρ σ)(h5:σ.par.length≤5)(c x:Int)(hbad:(dA c && σ.isBro x)=false):
    Calls Tryz.prog 13 #[.pointer (some ⟨b,0,none⟩),int c,int x] w fun e w'=>e=.returned (int 1)∧qA w w':=by
  obtain⟨a,cap,ha,_⟩:=h.par;have hcl:=h.closed;have hn:σ.n=σ.par.length+1:=rfl;have hbro:σ.isBro x=vN σ.par.length x:=by
    simp only[Net.isBro,vN,hn];by_cases h0:0≤x<;>by_cases h1:x<(σ.par.length:Int)+1<;>simp[h0,h1]
  rw[hbro] at hbad;have hbl:=h.lt b (by rw[h.net];simp)
  have hct:chk false=1:=rfl;clear h;cases hcc:dA c with
  | false=>
    go_enter Tryz.func13,Tryz.ntmps13
    go_wp2_with (first
      | (go_at_call 26;refine(aA _ _).mono ?_;rw[hcc];rintro e w1 ⟨rfl,hw1⟩;have hw1:=hw1.symm;subst hw1)
      | (go_at_call 25;refine(sB _ _ _ hcl).mono ?_;rintro e w2 ⟨rfl,hw2⟩;have hw2:=hw2.symm;subst hw2))
    go_ret;exact⟨rfl,cP0 _ _⟩
  | true=>
    rw[hcc,Bool.true_and] at hbad;go_enter Tryz.func13,Tryz.ntmps13
    go_wp2_with (first
      | (go_at_call 26;refine(aA _ _).mono ?_;rw[hcc];rintro e w1 ⟨rfl,hw1⟩;have hw1:=hw1.symm;subst hw1)
      | (go_at_call 31;refine(eF _ _ _ _ _ h5).mono ?_;rw[hbad];rintro e w1 ⟨rfl,ht1⟩
         have hcl1:=ht1.cell (p:=⟨b,0,none⟩) id hcl;have HT1:=uA ht1
         clear ht1 hcl)
      | (go_at_call 25;refine(sB _ _ _ hcl1).mono ?_;rintro e w2 ⟨rfl,hw2⟩;have hw2:=hw2.symm;subst hw2))
    go_ret;exact⟨rfl,yA HT1⟩
set_option maxRecDepth 100000 in
set_option maxHeartbeats 2000000 in
theorem uI0 (h:XN w b ρ σ){m:Nat}(F:Fit σ m)(hm:m<2000000000000){c x:Nat}(hc:c<4)(hx:x<σ.n):
    Calls Tryz.prog 13 #[.pointer (some ⟨b,0,none⟩),int c,int x] w fun e w'=>e=.returned (int (σ.attachE c x))∧∃ρ',XN w' b ρ' (σ.attach c x)∧Mv uB ρ ρ' w w':=by
  have T:=F.good.tree;have h5:=T.1;obtain⟨a,cap,ha,hpa⟩:=h.par;have hcl:=h.closed;have hx6:x<6:=sO0 hx (gB T);have hcc:dA (c:Int)=true:=jC hc;have hxx:vN σ.par.length (x:Int)=true:=by simp only[vN,qP0,oP0];simp only[Net.n,size] at hx;omega
  have hbb:σ.isBro (x:Int)=true:=by simp only[Net.isBro,oP0];omega
  have hC:=h.cli c hc;have hat:=hC.here;have hci:(c:Int)<4:=by omega
  have hct:chk true=0:=rfl;have hN:=F.r.nums.cl c;have hs:0≤(σ.cl c).stays∧(σ.cl c).stays<2199023255552:=by have:=hN.stays;omega
  have hbl:=h.lt b (by rw[h.net];simp)
  have hask:σ.asked (dA (c:Int) && σ.isBro (x:Int))=0:=zH h.open_ (by rw[hcc,hbb];rfl);cases hh:(σ.cl c).here with
  | some y=>
    rw[hh] at hat;replace hat:w.cell? ⟨b,86+c*31,none⟩=some (int y):=hat;have hE:σ.attachE c x=4:=by simp[Net.attachE,hask,hh]
    have hA:σ.attach c x=σ:=by simp[Net.attach,hE]
    have hym:((y:Int) == -1)=false:=by rw[iE];exact pP0 (by omega)
    rw[hE,hA];have HX:=uA h;clear h F hpa hC;go_enter Tryz.func13,Tryz.ntmps13
    go_wp2_with (first
      | (go_at_call 26;refine(aA _ _).mono ?_;rw[hcc];rintro e w1 ⟨rfl,hw1⟩;have hw1:=hw1.symm;subst hw1)
      | (go_at_call 31;refine(eF _ _ _ _ _ h5).mono ?_;rw[hxx];rintro e w1 ⟨rfl,ht1⟩
         have hcl1:=ht1.cell (p:=⟨b,0,none⟩) id hcl;have hat1:=ht1.cell (p:=⟨b,86+c*31,none⟩) id hat;have HT1:=uA ht1
         clear ht1 hcl hat)
      | (go_at_call 25;refine(sB _ _ _ hcl1).mono ?_;rintro e w2 ⟨rfl,hw2⟩;have hw2:=hw2.symm;subst hw2)
      | (go_at_call 32;refine(zC _ _ _ _ hat1).mono ?_;rw[hym];rintro e w2 ⟨rfl,hw2⟩;have hw2:=hw2.symm;subst hw2))
    go_ret;exact⟨rfl,ρ,(yA HX).calm (yA HT1),(yA HX).mvCalm (yA HT1)⟩
  | none=>
    rw[hh] at hat;replace hat:w.cell? ⟨b,86+c*31,none⟩=some (int (-1)):=hat;cases hful:σ.full with
    | true=>
      have hE:σ.attachE c x=6:=by simp[Net.attachE,hask,hh,hful]
      have hA:σ.attach c x=σ:=by simp[Net.attach,hE]
      rw[hE,hA];have HX:=uA h;have HF:=uA F;clear h F hpa hC;go_enter Tryz.func13,Tryz.ntmps13
      go_wp2_with (first
        | (go_at_call 26;refine(aA _ _).mono ?_;rw[hcc];rintro e w1 ⟨rfl,hw1⟩;have hw1:=hw1.symm;subst hw1)
        | (go_at_call 31;refine(eF _ _ _ _ _ h5).mono ?_;rw[hxx];rintro e w1 ⟨rfl,ht1⟩
           have hcl1:=ht1.cell (p:=⟨b,0,none⟩) id hcl;have hat1:=ht1.cell (p:=⟨b,86+c*31,none⟩) id hat;have HX1:=uA ((yA HX).calm ht1);have HM1:Hid (Mv uB ρ ρ w w1):=zQ0 (yA HX).lt ht1
           clear ht1 hcl hat)
        | (go_at_call 25;refine(sB _ _ _ hcl1).mono ?_;rintro e w2 ⟨rfl,hw2⟩;have hw2:=hw2.symm;subst hw2)
        | (go_at_call 32;refine(zC _ _ _ _ hat1).mono ?_;rintro e w2 ⟨rfl,hw2⟩;have hw2:=hw2.symm;subst hw2)
        | (go_at_call 33;refine(yO (yA HX1) (yA HF)).mono ?_;rw[hful];rintro e w3 ⟨rfl,ht3⟩
           have HX3:=uA ((yA HX1).calm ht3);have HM3:=uA ((yA HM1).trans (zQ0 (yA HX1).lt ht3))
           clear ht3))
      go_ret;exact⟨rfl,ρ,yA HX3,yA HM3⟩
    | false=>
      have hE:σ.attachE c x=0:=by simp[Net.attachE,hask,hh,hful]
      have hA:σ.attach c x=σ.attachN c x:=by simp[Net.attach,hE]
      rw[hE,hA];by_cases hhome:(σ.cl c).home=none∨(σ.cl c).home=some x
      · have hst:σ.attachN c x=oF (σ.arrive c x) c x 2:=gY F.live hc hhome
        rw[hst];have hcan:=F.canRel hm hc hx6;have hhi:∃z:Int,w.cell? ⟨b,86+c*31+1,none⟩=some (int z)∧(((z == (x:Int))=true)∨((z == (x:Int))=false∧(z == -1)=true)):=by
          refine⟨_,hC.home,?_⟩;rcases hhome with hhome | hhome
          · right;rw[hhome];simp[whr]<;>omega
          · left;rw[hhome];simp[whr]
        obtain⟨z,hz1,hz2⟩:=hhi;have HX:=uA h;have HF:=uA F;have HCN:=uA hcan;have HHM:=uA hhome;clear h F hpa hC hcan hst hhome hN;rcases hz2 with hz2 | ⟨hz2,hz3⟩
        all_goals
          go_enter Tryz.func13,Tryz.ntmps13
          go_wp2_with (first
            | (go_at_call 26;refine(aA _ _).mono ?_;rw[hcc];rintro e w1 ⟨rfl,hw1⟩;have hw1:=hw1.symm;subst hw1)
            | (go_at_call 31;refine(eF _ _ _ _ _ h5).mono ?_;rw[hxx];rintro e w1 ⟨rfl,ht1⟩
               have hcl1:=ht1.cell (p:=⟨b,0,none⟩) id hcl;have hat1:=ht1.cell (p:=⟨b,86+c*31,none⟩) id hat;have hho1:=ht1.cell (p:=⟨b,86+c*31+1,none⟩) id hz1;have HX1:=uA ((yA HX).calm ht1);have HM1:Hid (Mv uB ρ ρ w w1):=zQ0 (yA HX).lt ht1
               clear ht1 hcl hat hz1)
            | (go_at_call 25;refine(sB _ _ _ hcl1).mono ?_;rintro e w2 ⟨rfl,hw2⟩;have hw2:=hw2.symm;subst hw2)
            | (go_at_call 32;refine(zC _ _ _ _ hat1).mono ?_;rintro e w2 ⟨rfl,hw2⟩;have hw2:=hw2.symm;subst hw2)
            | (go_at_call 33;refine(yO (yA HX1) (yA HF)).mono ?_;rw[hful];rintro e w3 ⟨rfl,ht3⟩
               have hho3:=ht3.cell (p:=⟨b,86+c*31+1,none⟩) id hho1;have HX3:=uA ((yA HX1).calm ht3);have HM3:=uA ((yA HM1).trans (zQ0 (yA HX1).lt ht3))
               clear ht3)
            | (go_at_call 34;refine(gA0 b (86+c*31) z _ hho3).mono ?_;rintro e w4 ⟨rfl,hw4⟩;have hw4:=hw4.symm;subst hw4)
            | (go_at_call 35;refine(lB0 b (86+c*31) x (σ.cl c).stays _ _ _ ((yA HX3).cli c hc).here ((yA HX3).cli c hc).home ((yA HX3).cli c hc).stays (yA HX3).fr).mono ?_;rintro e w4 ⟨rfl,rfl⟩
               obtain⟨h4,m4⟩:=(yA HX3).come (x:=x) hc hs;have HX4:=uA h4;have HM4:=uA ((yA HM3).trans m4)
               clear h4 m4)
            | (go_at_call 36;refine(eF0 (yA HX4) hc hx6 (by rw[gF,jG];rfl) (yA HCN)).mono ?_;rintro e w5 ⟨rfl,ρ5,h5',m5⟩))
          go_ret;exact⟨rfl,ρ5,h5',(yA HM4).trans m5⟩
      · obtain⟨old,hold⟩:∃old,(σ.cl c).home=some old:=by
          cases hq:(σ.cl c).home with
          | none=>exact absurd (Or.inl hq) hhome
          | some o=>exact⟨o,rfl⟩
        have hne:x≠old:=fun e=>hhome (Or.inr (by rw[hold,e]));have ho:=(F.good.clis c hc).home old hold;have hst:σ.attachN c x=rD (σ.arrive c x) c x old 2:=fY hold (Ne.symm hne);rw[hst];have hacl:(σ.arrive c x).cl c=(σ.cl c).arr x:=by rw[gF,jG]
        have hz1:=hC.home;rw[hold] at hz1;replace hz1:w.cell? ⟨b,86+c*31+1,none⟩=some (int old):=hz1;have hz2:(((old:Int) == (x:Int))=false):=by simp<;>omega
        have hz3:(((old:Int) == -1)=false):=by simp<;>omega
        have hage:∀k,k<2→-1≤((σ.arrive c x).cl c).age k∧((σ.arrive c x).cl c).age k<2199023255552:=fun k _=>by
          rw[hacl];have:=hN.age k;show -1≤(σ.cl c).age k∧(σ.cl c).age k<_;omega
        have hlen:∀y,((σ.arrive c x).q x y).length<1990:=fun y=>by
          show (σ.q x y).length<1990
          by_cases hq:σ.q x y=[]
          · rw[hq];simp
          · have hn:=dB F.good.tree (F.good.nbr x y hq)
            have:=yK F.good.linked hn.1 hn.2;have:=F.r.alive.wt;omega
        have HX:=uA h;have HF:=uA F;have HAG:=uA hage;have HLN:=uA hlen;clear h F hpa hC hst hhome hN hage hlen;go_enter Tryz.func13,Tryz.ntmps13
        go_wp2_with (first
          | (go_at_call 26;refine(aA _ _).mono ?_;rw[hcc];rintro e w1 ⟨rfl,hw1⟩;have hw1:=hw1.symm;subst hw1)
          | (go_at_call 31;refine(eF _ _ _ _ _ h5).mono ?_;rw[hxx];rintro e w1 ⟨rfl,ht1⟩
             have hcl1:=ht1.cell (p:=⟨b,0,none⟩) id hcl;have hat1:=ht1.cell (p:=⟨b,86+c*31,none⟩) id hat;have hho1:=ht1.cell (p:=⟨b,86+c*31+1,none⟩) id hz1;have HX1:=uA ((yA HX).calm ht1);have HM1:Hid (Mv uB ρ ρ w w1):=zQ0 (yA HX).lt ht1
             clear ht1 hcl hat hz1)
          | (go_at_call 25;refine(sB _ _ _ hcl1).mono ?_;rintro e w2 ⟨rfl,hw2⟩;have hw2:=hw2.symm;subst hw2)
          | (go_at_call 32;refine(zC _ _ _ _ hat1).mono ?_;rintro e w2 ⟨rfl,hw2⟩;have hw2:=hw2.symm;subst hw2)
          | (go_at_call 33;refine(yO (yA HX1) (yA HF)).mono ?_;rw[hful];rintro e w3 ⟨rfl,ht3⟩
             have hho3:=ht3.cell (p:=⟨b,86+c*31+1,none⟩) id hho1;have HX3:=uA ((yA HX1).calm ht3);have HM3:=uA ((yA HM1).trans (zQ0 (yA HX1).lt ht3))
             clear ht3)
          | (go_at_call 34;refine(gA0 b (86+c*31) old _ hho3).mono ?_;rintro e w4 ⟨rfl,hw4⟩;have hw4:=hw4.symm;subst hw4)
          | (go_at_call 35;refine(lB0 b (86+c*31) x (σ.cl c).stays _ _ _ ((yA HX3).cli c hc).here ((yA HX3).cli c hc).home ((yA HX3).cli c hc).stays (yA HX3).fr).mono ?_;rintro e w4 ⟨rfl,rfl⟩
             obtain⟨h4,m4⟩:=(yA HX3).come (x:=x) hc hs;have HX4:=uA h4;have HM4:=uA ((yA HM3).trans m4)
             clear h4 m4)
          | (go_at_call 37;refine(moveX (yA HX4) T hc hx ho hne (by rw[hacl];rfl) (yA HAG) (yA HLN)).mono ?_;rintro e w5 ⟨rfl,ρ5,h5',m5⟩))
        go_ret;exact⟨rfl,ρ5,h5',(yA HM4).trans m5⟩
theorem dN0 (h:XN w b ρ σ){m:Nat}(F:Fit σ m)(hm:m<2000000000000)(c x:Int):
  Calls Tryz.prog 13 #[.pointer (some ⟨b,0,none⟩),int c,int x] w fun e w'=>e=.returned (int (σ.attachE c x))∧∃ρ',XN w' b ρ' (σ.attach c x)∧Mv uB ρ ρ' w w':=by
 cases hg:(dA c && σ.isBro x) with
 | true=>
  simp only[qP0,dA,Net.isBro,oP0] at hg;obtain⟨c',rfl⟩:∃c':Nat,c=c':=⟨c.toNat,by omega⟩;obtain⟨x',rfl⟩:∃x':Nat,x=x':=⟨x.toNat,by omega⟩;exact uI0 h F hm (by omega) (by omega)
 | false=>
  have hE:σ.attachE c x=1:=by simp[Net.attachE,Net.asked,h.open_,hg]
  have hA:σ.attach c x=σ:=by simp[Net.attach,hE]
  refine(nE0 h F.good.tree.1 c x hg).mono ?_;rintro e w' ⟨rfl,ht⟩
  rw[hE,hA];exact⟨rfl,ρ,h.calm ht,h.mvCalm ht⟩
end
end Go.Proofs.YtodfcpblcpogiaaGreat

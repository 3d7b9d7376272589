import Derived.Test.YtodfcpblcpogiaaGreatAtg
import Derived.Laws.IdiomCopy
namespace Go.Proofs.YtodfcpblcpogiaaGreat
open Go.RowKit
set_option maxRecDepth 100000 in
set_option maxHeartbeats 1000000 in
theorem logX2 {w:World}{b:Nat}{ρ:zA}{σ:Net}(h:XN w b ρ σ){c:Nat}(hc:c<4):
  Calls Tryz.prog 93 #[.pointer (some ⟨b,0,none⟩),int c] w fun e w'=>∃v,e=.returned (.tuple #[v,int 0])∧w'.ownsRow 0 74 7 v (σ.cl c).log.length ((σ.cl c).log.flatMap Ent.enc)∧XN w' b ρ (σ.setCl c {σ.cl c with log:=[]})∧Mv uB ρ ρ w w'∧(∀g,v.ownBlock=some g→ρ g=some (.log c))∧w'.cell? ⟨b,86+c*31+30,none⟩=some rA:=by
 have hcl:=h.closed;have hcc:dA (c:Int)=true:=jC hc;have hci:(c:Int)<4:=by omega
 have hct:chk true=0:=rfl;have C:=h.cli c hc;obtain⟨v,g1,g2⟩:=C.log;have hvb:v.ownBlock≠some b:=fun e=>by have:=g2.2 b e;rw[h.net] at this;cases this
 have hne:∀o u,o≠86+c*31+30→w.cell? ⟨b,o,none⟩=some u→(w.setCell ⟨b,86+c*31+30,none⟩ (.slice none 0 0)).cell? ⟨b,o,none⟩=some u:=fun o u ho hu=>tA w ho hu;have hk:∀i r,ρ i=some r→r≠.net→(w.setCell ⟨b,86+c*31+30,none⟩ (.slice none 0 0)).heap[i]?=w.heap[i]?∧ρ i=ρ i:=fun i r hi hr=>⟨zB w _ (fun e=>by subst e;rw[h.net] at hi;cases hi;exact hr rfl),rfl⟩;have hX':XN (w.setCell ⟨b,86+c*31+30,none⟩ (.slice none 0 0)) b ρ (σ.setCl c {σ.cl c with log:=[]}):=by
  refine h.storeCli hc _ _ (by omega) (by omega) ?_;refine⟨hne _ _ (by omega) C.here,hne _ _ (by omega) C.home,hne _ _ (by omega) C.stays,hne _ _ (by omega) C.many,fun k h2=>hne _ _ (by omega) (C.used k h2),fun k h2=>hne _ _ (by omega) (C.age k h2),fun k h2=>(C.fl k h2).keep (fun j v hj=>hne _ _ (by omega)),fun k h2=>?_,.slice none 0 0,mP0 w _ _ g1,⟨rfl,Or.inl ⟨rfl,rfl⟩⟩,fun g hg=>by cases hg⟩;obtain⟨u',f1,f2⟩:=C.heard k h2;exact⟨u',hne _ _ (by omega) f1,f2.keep (fun i hi=>hk i _ hi (by simp))⟩
 have hrow:(w.setCell ⟨b,86+c*31+30,none⟩ (.slice none 0 0)).ownsRow 0 74 7 v (σ.cl c).log.length ((σ.cl c).log.flatMap Ent.enc):=
  eA g2.1 ((cP0 (fun i=>i=b) w).setCell (p:=⟨b,86+c*31+30,none⟩) (fun _=>rfl) _) (fun g hg e=>hvb (by rw[hg,e]))
 have hM:Mv uB ρ ρ w (w.setCell ⟨b,86+c*31+30,none⟩ (.slice none 0 0)):=yQ0 (S:=uB) h.lt h.net trivial _ _;have HX:=uA hX';have HR:=uA hrow;have HM:=uA hM;have HFR:=uA h.fr;have HOWN:Hid (∀g,v.ownBlock=some g→ρ g=some (.log c)):=g2.2;have HNIL:Hid ((w.setCell ⟨b,86+c*31+30,none⟩ (.slice none 0 0)).cell? ⟨b,86+c*31+30,none⟩=some rA):=mP0 w _ _ g1;clear C h hX' hrow hM hne hk g2 hvb;go_enter Tryz.func93,Tryz.ntmps93
 go_wp2_with (first
  | (go_at_call 26;refine(aA _ _).mono ?_;rw[hcc];rintro e w1 ⟨rfl,hw1⟩;have hw1:=hw1.symm;subst hw1)
  | (go_at_call 25;refine(sB _ _ _ hcl).mono ?_;rintro e w2 ⟨rfl,hw2⟩;have hw2:=hw2.symm;subst hw2)
  | (go_at_call 117;refine(nZ b (86+c*31) _ v g1 (yA HFR)).mono ?_;rintro e w3 ⟨rfl,hw3⟩;subst hw3))
 go_ret2;exact⟨v,rfl,yA HR,yA HX,yA HM,yA HOWN,yA HNIL⟩
set_option maxHeartbeats 400000 in
theorem zT (f o n:Int)(w:World):Calls Tryz.prog 125 #[.agg #[int f,int o,int n]] w fun e w'=>e=.returned (.bool (Tst.good ⟨f,o,n⟩))∧qA w w':=by
 by_cases h1:0≤f
 ·by_cases h2:f<3
  ·by_cases h3:1≤o
   ·by_cases h4:o≤4
    all_goals
    go_enter Tryz.func125,Tryz.ntmps125
    go_wp2;go_ret
    refine⟨?_,(cP0 _ _).alloc _⟩;first
     | (rw[show Tst.good ⟨f,o,n⟩=true from decide_eq_true (by show 0≤f∧f≤2∧1≤o∧o≤4;omega)];rfl)
     | (rw[show Tst.good ⟨f,o,n⟩=false from pP0 (by show ¬(0≤f∧f≤2∧1≤o∧o≤4);omega)];rfl)
   ·go_enter Tryz.func125,Tryz.ntmps125
    go_wp2;go_ret
    refine⟨?_,(cP0 _ _).alloc _⟩;rw[show Tst.good ⟨f,o,n⟩=false from pP0 (by show ¬(0≤f∧f≤2∧1≤o∧o≤4);omega)];rfl
  ·go_enter Tryz.func125,Tryz.ntmps125
   go_wp2;go_ret
   refine⟨?_,(cP0 _ _).alloc _⟩;rw[show Tst.good ⟨f,o,n⟩=false from pP0 (by show ¬(0≤f∧f≤2∧1≤o∧o≤4);omega)];rfl
 ·go_enter Tryz.func125,Tryz.ntmps125
  go_wp2;go_ret
  refine⟨?_,(cP0 _ _).alloc _⟩;rw[show Tst.good ⟨f,o,n⟩=false from pP0 (by show ¬(0≤f∧f≤2∧1≤o∧o≤4);omega)];rfl
def TestsAt (w:World)(a:Option Addr)(l:List Tst):Prop:=l=[]∨∃b o,a=some ⟨b,o,none⟩∧∀(j:Nat) v,(l.flatMap Tst.enc)[j]?=some v→w.cell? ⟨b,o+j,none⟩=some v
theorem TestsAt.calm {w w':World}{a:Option Addr}{l:List Tst}(h:TestsAt w a l)(t:qA w w'):TestsAt w' a l:=by
 rcases h with h | ⟨b,o,rfl,h⟩
 ·exact Or.inl h
 ·exact Or.inr ⟨b,o,rfl,fun j v hj=>t.cell (p:=⟨b,o+j,none⟩) id (h j v hj)⟩
theorem pO (l:List Tst):(l.flatMap Tst.enc).length=l.length*3:=by
 induction l with
 | nil=>rfl
 | cons t l ih=>simp only[tP0,hO0,ih,gO0,Tst.enc,List.length_nil];omega
theorem pF:∀(l:List Tst) (k:Nat),k<l.length→(l.flatMap Tst.enc)[k*3]?=some (int (sA l k).fld)∧(l.flatMap Tst.enc)[k*3+1]?=some (int (sA l k).op)∧(l.flatMap Tst.enc)[k*3+2]?=some (int (sA l k).n)
 | [],k,h=>by simp at h
 | t::l,0,_=>⟨rfl,rfl,rfl⟩
 | t::l,k+1,h=>by
  have:=pF l k (by simpa using h);simp only[tP0,Tst.enc,List.cons_append,List.nil_append];rw[show (k+1)*3=k*3+1+1+1 by omega];exact this
theorem pB0 (l:List Tst):∀v,v∈l.flatMap Tst.enc→v.oneCell'=true:=fun v hv=>by
 obtain⟨t,_,ht⟩:=List.mem_flatMap.1 hv;simp only[Tst.enc,List.mem_cons,List.not_mem_nil,or_false] at ht;rcases ht with rfl | rfl | rfl<;>rfl
theorem kK0:(Tryz.prog.info? 47).map (·.size)=some 3:=by kernel_rfl
theorem gC (b:Nat):∀(vs:List Value) (o:Nat) (w:World),Touch (fun k=>k=b) w (w.setCells b o vs)
 | [],_,w=>cP0 _ w
 | v::r,o,w=>((cP0 (fun k=>k=b) w).setCell (p:=⟨b,o,none⟩) (fun _=>rfl) v).trans (gC b r (o+1) (w.setCell ⟨b,o,none⟩ v))
theorem oV (w:World)(ty:TypeId)(b o dLen dCap:Nat)(a:Addr)(sLen sCap:Nat)(cs:List Value)(hn:cs.length=Nat.min sLen dLen*3)
  (hsrc:∀j v,cs[j]?=some v→w.cell? (a.add j)=some v) (hc:∀j,j<cs.length→(w.cell? ⟨b,o+j,none⟩).isSome=true) (hf:∀j,j<cs.length→w.frozen? ⟨b,o+j,none⟩=false) (h1:∀v∈cs,v.oneCell'=true):
  (Builtin.copy_ #[36,36] ty #[.slice (some ⟨b,o,none⟩) dLen dCap,.slice (some a) sLen sCap]).run Tryz.prog w=.ok (goInt (Nat.min sLen dLen)) (w.setCells b o cs):=by
 have hl:=run_loadCells_list (P:=Tryz.prog) w a cs hsrc;have hst:=run_storeCells_cells (P:=Tryz.prog) b o cs 0 w (by simpa using hc) (by simpa using hf) h1;have hs:=kK0;cases hq:Tryz.prog.info? 47 with
 | none=>simp[hq] at hs
 | some i=>
  have hi:i.size=3:=by simpa[hq] using hs
  simp[Builtin.copy_,run_underlying Tryz.underlying36,Builtin.lenOf,Builtin.firstCells,sizeOf,typeInfo,hq,hi,←hn,hl,hst]
theorem iL (w:World)(ty:TypeId)(b o dLen dCap:Nat)(a:Option Addr)(sCap:Nat):
  (Builtin.copy_ #[36,36] ty #[.slice (some ⟨b,o,none⟩) dLen dCap,.slice a 0 sCap]).run Tryz.prog w=.ok (goInt 0) w:=by
 have hs:=kK0;cases hq:Tryz.prog.info? 47 with
 | none=>simp[hq] at hs
 | some i=>
  have hst:=run_storeCells_cells (P:=Tryz.prog) b o [] 0 w (fun j hj=>by simp at hj) (fun j hj=>by simp at hj) (fun v hv=>by simp at hv);have hst':(storeCells ⟨b,o,none⟩ []).run Tryz.prog w=.ok () w:=hst;cases a with
  | none=>simp[Builtin.copy_,run_underlying Tryz.underlying36,Builtin.lenOf,Builtin.firstCells,sizeOf,typeInfo,hq,hst']
  | some a=>
   have hl:(loadCells a 0).run Tryz.prog w=.ok #[] w:=run_loadCells_list (P:=Tryz.prog) w a [] (fun j v hj=>by cases hj);simp[Builtin.copy_,run_underlying Tryz.underlying36,Builtin.lenOf,Builtin.firstCells,sizeOf,typeInfo,hq,hst',hl]
theorem oO {l:List Tst}(h:l.length≤3){j:Nat}{v:Value}(hv:(aB l)[j]?=some v):(j<l.length*3∧(l.flatMap Tst.enc)[j]?=some v)∨(l.length*3≤j∧j<10∧(#[int 0,int 0,int 0,int 0,int 0,int 0,int 0,int 0,int 0,int l.length]:Array Value)[j]?=some v):=by
 have hj:j<10:=by
  have:=(rO0.1 hv).1;simpa[xE0] using this
 by_cases h1:j<l.length*3
 ·left
  refine⟨h1,?_⟩;obtain⟨a1,a2,a3⟩:=pF l (j/3) (by omega);obtain⟨b1,b2,b3⟩:=lW h (k:=j/3) (by omega);obtain e | e | e:j=j/3*3∨j=j/3*3+1∨j=j/3*3+2:=by omega
  ·rw[e] at hv ⊢;rw[b1] at hv;rw[←hv];exact a1
  ·rw[e] at hv ⊢;rw[b2] at hv;rw[←hv];exact a2
  ·rw[e] at hv ⊢;rw[b3] at hv;rw[←hv];exact a3
 ·right
  refine⟨by omega,hj,?_⟩;match l,h,h1 with
  | [],_,_=>
   rw[←hv];obtain rfl | rfl | rfl | rfl | rfl | rfl | rfl | rfl | rfl | rfl:j=0∨j=1∨j=2∨j=3∨j=4∨j=5∨j=6∨j=7∨j=8∨j=9:=by omega
   all_goals rfl
  | [a],_,h1=>
   simp only[gO0,List.length_nil] at h1;rw[←hv];obtain rfl | rfl | rfl | rfl | rfl | rfl | rfl:j=3∨j=4∨j=5∨j=6∨j=7∨j=8∨j=9:=by omega
   all_goals rfl
  | [a,b],_,h1=>
   simp only[gO0,List.length_nil] at h1;rw[←hv];obtain rfl | rfl | rfl | rfl:j=6∨j=7∨j=8∨j=9:=by omega
   all_goals rfl
  | [a,b,c],_,h1=>
   simp only[gO0,List.length_nil] at h1;obtain rfl:j=9:=by omega
   rw[←hv];rfl
  | a::b::c::d::l,h,_=>simp at h
set_option maxRecDepth 100000 in
set_option maxHeartbeats 1000000 in
theorem vT (a:Option Addr)(cap:Nat)(l:List Tst)(w:World)(hl:yB l=true)(ht:TestsAt w a l):
  Calls Tryz.prog 110 #[.slice a l.length cap] w fun e w'=>e=.returned (.tuple #[.agg (aB l).toArray,.bool true])∧qA w w':=by
 have h3:=yI hl;have h3i:¬(3:Int)<l.length:=by omega
 obtain⟨W,hW⟩:∃W,w.alloc (.cells #[int 0,int 0,int 0,int 0,int 0,int 0,int 0,int 0,int 0,int 0] 80)=W:=⟨_,rfl⟩;have hcal:qA w W:=by rw[←hW];exact(cP0 _ _).alloc _
 have hb0:W.heap[w.heap.size]?=some (.cells #[int 0,int 0,int 0,int 0,int 0,int 0,int 0,int 0,int 0,int 0] 80):=by rw[←hW];exact eP0 w _
 have HC:=uA hcal;have HB:=uA hb0;have HT:=uA (ht.calm hcal);have HG:=uA hl;clear hcal hb0 ht hl;go_enter Tryz.func110,Tryz.ntmps110
 go_wp2;clear hW
 go_loopw [13] (fun p wr=>∃k:Nat,k≤l.length∧p=int k∧qA W wr) (fun p _=>l.length-(intOf p).toNat)
 case atStart=>exact⟨0,by omega,rfl,cP0 _ _⟩
 case round=>
  obtain⟨k,hk,rfl,hc⟩:=hrel;by_cases hlt:k<l.length
  ·have hg:=uL (yA HG) hlt;rcases(yA HT).calm hc with hnil | ⟨b,o,rfl,hcells⟩
   ·rw[hnil] at hlt;simp at hlt
   ·obtain⟨e0,e1,e2⟩:=pF l k hlt;have c0:wr.cell? ⟨b,o+k*3,none⟩=some (int (sA l k).fld):=hcells _ _ e0;have c1:wr.cell? ⟨b,o+k*3+1,none⟩=some (int (sA l k).op):=by rw[rP0];exact hcells _ _ e1
    have c2:wr.cell? ⟨b,o+k*3+2,none⟩=some (int (sA l k).n):=by rw[rP0];exact hcells _ _ e2
    have hbl:=fP0 c0;simp only at hbl;have HCC:=uA hc;clear hcells e0 e1 e2 hc;generalize sA l k=t at*;obtain⟨f,op,n⟩:=t;simp only at c0 c1 c2;go_wp2_with (go_at_call 125;refine(zT f op n _).mono ?_;rw[hg];rintro r w3 ⟨rfl,ht3⟩)
    go_roundw
    case rel=>exact⟨k+1,by omega,by go_num,(((yA HCC).alloc _).calm ht3)⟩
    case measure=>simp[intOf];omega
  ·have hke:k=l.length:=by omega
   subst hke;have HCC:=uA hc;clear hc;obtain⟨V,hV⟩:∃V,wr.alloc (.cells #[int 0,int 0,int 0,int 0,int 0,int 0,int 0,int 0,int 0,int l.length] 80)=V:=⟨_,rfl⟩;have hcV:qA wr V:=by rw[←hV];exact(cP0 _ _).alloc _
   have hbV:V.heap[wr.heap.size]?=some (.cells #[int 0,int 0,int 0,int 0,int 0,int 0,int 0,int 0,int 0,int l.length] 80):=by rw[←hV];exact eP0 wr _
   obtain⟨V2,hrun,hcell,htouch⟩:∃V2,(∀ty,(Builtin.copy_ #[36,36] ty #[.slice (some ⟨wr.heap.size,0,none⟩) 3 3,.slice a l.length cap]).run Tryz.prog V=.ok (goInt l.length) V2)∧(∀(j:Nat) v,(aB l)[j]?=some v→V2.cell? ⟨wr.heap.size,j,none⟩=some v)∧Touch (fun i=>i=wr.heap.size) V V2:=by
    rcases((yA HT).calm (yA HCC)).calm hcV with hnil | ⟨b,o,rfl,hcells⟩
    ·subst hnil;refine⟨V,fun ty=>iL V ty _ _ _ _ _ _,fun j v hv=>?_,cP0 _ _⟩;rcases oO (by simp) hv with⟨h1,_⟩ | ⟨_,_,h2⟩
     ·simp at h1
     ·exact(xA hbV j).trans h2
    ·have hmin:Nat.min l.length 3=l.length:=Nat.min_eq_left h3;have hlen:=pO l;have hbc:∀j,j<10→(V.cell? ⟨wr.heap.size,j,none⟩).isSome=true:=fun j hj=>by
      rw[xA hbV j];obtain rfl | rfl | rfl | rfl | rfl | rfl | rfl | rfl | rfl | rfl:j=0∨j=1∨j=2∨j=3∨j=4∨j=5∨j=6∨j=7∨j=8∨j=9:=by omega
      all_goals rfl
     refine⟨V.setCells wr.heap.size 0 (l.flatMap Tst.enc),fun ty=>?_,fun j v hv=>?_,?_⟩
     ·have:=oV V ty wr.heap.size 0 3 3 ⟨b,o,none⟩ l.length cap (l.flatMap Tst.enc) (by rw[hmin];exact hlen) (fun j v hj=>by rw[gP0];exact hcells j v hj) (fun j hj=>by rw[sP0];exact hbc j (by omega)) (fun j _=>bA hbV _) (pB0 l);rw[hmin] at this;exact this
     ·rcases oO h3 hv with⟨h1,h2⟩ | ⟨h1,h2,h4⟩
      ·have:=World.cell?_setCells_in wr.heap.size (l.flatMap Tst.enc) 0 V (fun j hj=>by rw[sP0];exact hbc j (by omega)) j (by omega);rw[sP0] at this;rw[this];rw[pO0 (by omega)] at h2;exact h2
      ·rw[iP0 wr.heap.size _ 0 V _ (fun _ _=>Or.inr (by simp only;omega))];exact(xA hbV j).trans h4
     ·exact gC _ _ _ V
   have f0:=hcell 0 _ rfl;have f1:=hcell 1 _ rfl;have f2:=hcell 2 _ rfl;have f3:=hcell 3 _ rfl;have f4:=hcell 4 _ rfl;have f5:=hcell 5 _ rfl;have f6:=hcell 6 _ rfl;have f7:=hcell 7 _ rfl;have f8:=hcell 8 _ rfl;have f9:=hcell 9 _ rfl;have hRlt:w.heap.size<wr.heap.size:=by
    have h1:=(tO0.1 (yA HB)).1;have h2:=(yA HCC).size;omega
   have hR:V2.heap[w.heap.size]?=some (.cells #[int 0,int 0,int 0,int 0,int 0,int 0,int 0,int 0,int 0,int 0] 80):=(htouch.block _ (by have:=hcV.size;omega) (by omega)).trans ((hcV.block _ hRlt id).trans (((yA HCC).block _ (tO0.1 (yA HB)).1 id).trans (yA HB)));have r0:V2.cell? ⟨w.heap.size,0,none⟩=some (int 0):=xA hR 0;have r1:V2.cell? ⟨w.heap.size,1,none⟩=some (int 0):=xA hR 1;have r2:V2.cell? ⟨w.heap.size,2,none⟩=some (int 0):=xA hR 2;have r3:V2.cell? ⟨w.heap.size,3,none⟩=some (int 0):=xA hR 3;have r4:V2.cell? ⟨w.heap.size,4,none⟩=some (int 0):=xA hR 4;have r5:V2.cell? ⟨w.heap.size,5,none⟩=some (int 0):=xA hR 5;have r6:V2.cell? ⟨w.heap.size,6,none⟩=some (int 0):=xA hR 6;have r7:V2.cell? ⟨w.heap.size,7,none⟩=some (int 0):=xA hR 7;have r8:V2.cell? ⟨w.heap.size,8,none⟩=some (int 0):=xA hR 8;have r9:V2.cell? ⟨w.heap.size,9,none⟩=some (int 0):=xA hR 9;have hrf:=bA hR;have hWS:W.heap.size≤wr.heap.size:=(yA HCC).size;have hWs:w.heap.size<W.heap.size:=(tO0.1 (yA HB)).1;have HTT:Hid (qA w V2):=by
    have t1:Touch (fun i=>i=wr.heap.size) w V2:=((((yA HC).trans (yA HCC)).trans hcV).mono (fun _ _ f=>f.elim)).trans htouch;exact t1.mono (fun i hi e=>by omega)
   clear hcell htouch hR hcV hbV;go_wp2;refine bodyPost_ret (v:=.tuple #[.agg #[int (sA l 0).fld,int (sA l 0).op,int (sA l 0).n,int (sA l 1).fld,int (sA l 1).op,int (sA l 1).n,int (sA l 2).fld,int (sA l 2).op,int (sA l 2).n,int l.length],.bool true]) (by simp[results,Tryz.results110,go_sem,r0,r1,r2,r3,r4,r5,r6,r7,r8,r9]) rfl ⟨rfl,?_⟩;exact(((((((((((yA HTT).setCell (p:=⟨w.heap.size,0,none⟩) (fun h=>absurd h (cO0 _)) _).setCell (p:=⟨w.heap.size,1,none⟩) (fun h=>absurd h (cO0 _)) _).setCell (p:=⟨w.heap.size,2,none⟩) (fun h=>absurd h (cO0 _)) _).setCell (p:=⟨w.heap.size,3,none⟩) (fun h=>absurd h (cO0 _)) _).setCell (p:=⟨w.heap.size,4,none⟩) (fun h=>absurd h (cO0 _)) _).setCell (p:=⟨w.heap.size,5,none⟩) (fun h=>absurd h (cO0 _)) _).setCell (p:=⟨w.heap.size,6,none⟩) (fun h=>absurd h (cO0 _)) _).setCell (p:=⟨w.heap.size,7,none⟩) (fun h=>absurd h (cO0 _)) _).setCell (p:=⟨w.heap.size,8,none⟩) (fun h=>absurd h (cO0 _)) _).setCell (p:=⟨w.heap.size,9,none⟩) (fun h=>absurd h (cO0 _)) _)
def kD (w:World)(b o:Nat):Nat→List Value→World
 | _,[]=>w
 | i,v::vs=>kD (w.setCell ⟨b,o+i,none⟩ v) b o (i+1) vs
theorem tG (b o:Nat):∀(vs:List Value) (i:Nat) (w:World),(kD w b o i vs).heap.size=w.heap.size
 | [],_,_=>rfl
 | _::vs,i,_=>(tG b o vs (i+1) _).trans (by simp[World.setCell])
theorem jL (b o:Nat){k:Nat}(hk:k≠b):∀(vs:List Value) (i:Nat) (w:World),(kD w b o i vs).heap[k]?=w.heap[k]?
 | [],_,_=>rfl
 | _::vs,i,w=>(jL b o hk vs (i+1) _).trans (zB w _ hk)
theorem kL (b o:Nat):∀(vs:List Value) (i:Nat) (w:World),Touch (fun k=>k=b) w (kD w b o i vs)
 | [],_,w=>cP0 _ w
 | v::vs,i,w=>((cP0 (fun k=>k=b) w).setCell (p:=⟨b,o+i,none⟩) (fun _=>rfl) v).trans (kL b o vs (i+1) _)
theorem dP (b o t:Nat):∀(vs:List Value) (i:Nat) (w:World),(∃cs,w.heap[b]?=some (.cells cs t))→∃cs,(kD w b o i vs).heap[b]?=some (.cells cs t)
 | [],_,_,h=>h
 | _::vs,i,_,h=>dP b o t vs (i+1) _ (nB h _ _)
theorem jR (b o o':Nat):∀(vs:List Value) (i:Nat) (w:World),w.frozen? ⟨b,o',none⟩=false→(kD w b o i vs).frozen? ⟨b,o',none⟩=false
 | [],_,_,h=>h
 | _::vs,i,_,h=>jR b o o' vs (i+1) _ (qB _ _ _ _ _ h)
theorem fJ (b o:Nat){o':Nat}{u:Value}:∀(vs:List Value) (i:Nat) (w:World),(o' < o+i∨o+i+vs.length≤o')→w.cell? ⟨b,o',none⟩=some u→(kD w b o i vs).cell? ⟨b,o',none⟩=some u
 | [],_,_,_,h=>h
 | _::vs,i,w,ho,h=>fJ b o vs (i+1) _ (by simp only[gO0] at ho;omega) (tA w (by simp only[gO0] at ho;omega) h)
theorem kR (b o:Nat):∀(vs:List Value) (i:Nat) (w:World),(∀j,j<vs.length→∃u,w.cell? ⟨b,o+i+j,none⟩=some u)→∀(j:Nat) v,vs[j]?=some v→(kD w b o i vs).cell? ⟨b,o+i+j,none⟩=some v
 | [],_,_,_,j,v,h=>by simp at h
 | x::vs,i,w,hex,0,v,h=>by
  simp at h;subst h
  obtain⟨u,hu⟩:=hex 0 (by simp);exact fJ b o vs (i+1) _ (Or.inl (by omega)) (mP0 w _ _ hu)
 | x::vs,i,w,hex,j+1,v,h=>by
  simp at h
  have:=kR b o vs (i+1) (w.setCell ⟨b,o+i,none⟩ x) (fun j' hj'=>by
   obtain⟨u,hu⟩:=hex (j'+1) (by simp;omega)
   exact⟨u,by rw[show o+(i+1)+j'=o+i+(j'+1) by omega];exact tA w (by omega) hu⟩) j v h
  rw[show o+(i+1)+j=o+i+(j+1) by omega] at this;exact this
def zD (used:Bool)(age:Int)(fil:List Value)(hd:Value):List Value:=[.bool used,int age]++fil++[hd]
theorem CliX.slotEx {w:World}{b:Nat}{ρ:zA}{c:Nat}{x:Cli}(C:CliX w b ρ c x){k:Nat}(hk:k<2):∀j,j<13→∃u,w.cell? ⟨b,86+c*31+4+k*13+0+j,none⟩=some u:=fun j hj=>by
 obtain⟨us,h1,h2,_⟩:=C.fl k hk;obtain⟨v,h3,_⟩:=C.heard k hk;by_cases e0:j=0
 ·subst e0;exact⟨_,C.used k hk⟩
 ·by_cases e1:j=1
  ·subst e1;exact⟨_,C.age k hk⟩
  ·by_cases e2:j=12
   ·subst e2;exact⟨_,h3⟩
   ·have hlt:j-2<us.length:=by omega
    have:=h2 (j-2) _ (pO0 hlt);exact⟨_,by rw[show 86+c*31+4+k*13+0+j=86+c*31+4+k*13+2+(j-2) by omega];exact this⟩
theorem XN.slotSet {w W:World}{b:Nat}{ρ ρ':zA}{σ:Net}(h:XN w b ρ σ){c k:Nat}(hc:c<4)(hk:k<2){x:Cli}{fil:List Value}{hd:Value}(hfil:fil.length=10)(t:qA (kD w b (86+c*31+4+k*13) 0 (zD (x.used k) (x.age k) fil hd)) W)
  (hrole:∀i,i<w.heap.size→ρ' i=ρ i) (hlt:∀i,ρ' i≠none→i<W.heap.size)
  (x1:x.here=(σ.cl c).here) (x2:x.home=(σ.cl c).home) (x3:x.stays=(σ.cl c).stays) (x4:x.many=(σ.cl c).many) (x5:x.log=(σ.cl c).log) (x6:∀j,j≠k→x.used j=(σ.cl c).used j∧x.age j=(σ.cl c).age j∧x.fl j=(σ.cl c).fl j∧x.told j=(σ.cl c).told j)
  (hf1:∀v,v∈fil→∃z,v=int z) (hf2:x.used k=true→fil=aB (x.fl k)) (hhd:HeardAt W ρ' c k (x.used k) (x.told k) hd):XN W b ρ' (σ.setCl c x)∧Mv (fun r=>r=.net) ρ ρ' w W:=by
 have C:=h.cli c hc;have hb:=h.lt b (by rw[h.net];simp)
 obtain⟨V,hV⟩:∃V,V=kD w b (86+c*31+4+k*13) 0 (zD (x.used k) (x.age k) fil hd):=⟨_,rfl⟩;rw[←hV] at t;have hlen:(zD (x.used k) (x.age k) fil hd).length=13:=by simp[zD,hfil]
 have hVs:V.heap.size=w.heap.size:=by rw[hV];exact tG _ _ _ _ _
 have hVb:W.heap[b]?=V.heap[b]?:=t.block b (by omega) id;have hout:∀o v,(o<86+c*31+4+k*13∨86+c*31+4+k*13+13≤o)→w.cell? ⟨b,o,none⟩=some v→W.cell? ⟨b,o,none⟩=some v:=fun o v ho hv=>by
  refine pA hVb ?_;rw[hV];exact fJ b _ _ 0 w (by rw[hlen];omega) hv
 have hin:∀j v,(zD (x.used k) (x.age k) fil hd)[j]?=some v→W.cell? ⟨b,86+c*31+4+k*13+0+j,none⟩=some v:=fun j v hj=>by
  refine pA hVb ?_;rw[hV];exact kR b _ _ 0 w (by rw[hlen];exact C.slotEx hk) j v hj
 have hko:∀i,i<w.heap.size→i≠b→W.heap[i]?=w.heap[i]?:=fun i hi hne=>by
  rw[t.block i (by omega) id,hV,jL b _ hne]
 have ht:Touch (fun i=>i=b) w W:=by
  have h1:=kL b (86+c*31+4+k*13) (zD (x.used k) (x.age k) fil hd) 0 w;rw[←hV] at h1;exact h1.calm t
 have hmv:Mv (fun r=>r=.net) ρ ρ' w W:=⟨ht.mono (fun i _ e=>⟨.net,by rw[e];exact h.net,rfl⟩),fun i hi=>Or.inl (hrole i hi),hlt⟩;refine⟨?_,hmv⟩;refine h.step hmv (fun o=>86+c*31+4+k*13≤o∧o<86+c*31+4+k*13+13) (by rw[hVb,hV];exact dP b _ 102 _ 0 w h.typ) (fun o=>(nP0 (w:=V) (a:=⟨b,o,none⟩) hVb).trans (by rw[hV];exact jR b _ _ _ 0 w (h.fr o))) (fun o v ho hv=>hout o v (by omega) hv) rfl rfl (by omega) (by omega) (by simp) (by simp) (by simp)
  (fun u v _ _=>Or.inl ⟨rfl,by omega,by simp⟩) (fun u d j _ _ _=>Or.inl ⟨rfl,by omega,by simp,by simp⟩) (fun d hd'=>?_)
 by_cases ed:d=c
 ·right
  subst ed;simp only[Net.setCl,put_same];obtain⟨v,f1,f2⟩:=C.log;have hkr:∀i r,ρ i=some r→r≠.net→W.heap[i]?=w.heap[i]?∧ρ' i=ρ i:=fun i r hi hr=>⟨hko i (h.lt i (by rw[hi];simp)) (fun e=>by subst e;rw[h.net] at hi;cases hi;exact hr rfl),hrole i (h.lt i (by rw[hi];simp))⟩
  refine⟨by rw[x1];exact hout _ _ (by omega) C.here,by rw[x2];exact hout _ _ (by omega) C.home,by rw[x3];exact hout _ _ (by omega) C.stays,by rw[x4];exact hout _ _ (by omega) C.many,fun j hj=>?_,fun j hj=>?_,fun j hj=>?_,fun j hj=>?_,v,hout _ _ (by omega) f1,by rw[x5];exact f2.keep (fun i hi=>hkr i _ hi (by simp))⟩
  ·by_cases ej:j=k
   ·subst ej;exact hin 0 _ rfl
   ·rw[(x6 j ej).1];exact hout _ _ (by omega) (C.used j hj)
  ·by_cases ej:j=k
   ·subst ej;exact hin 1 _ rfl
   ·rw[(x6 j ej).2.1];exact hout _ _ (by omega) (C.age j hj)
  ·by_cases ej:j=k
   ·subst ej;refine⟨fil,hfil,fun i u hi=>?_,hf1,hf2⟩;have hi10:i<10:=by rw[←hfil];exact(rO0.1 hi).1
    have:=hin (2+i) u (by
     show ([Value.bool (x.used j),int (x.age j)]++fil++[hd])[2+i]?=some u
     rw[List.append_assoc,nO0 (by simp),oO0 (by simp;omega)]
     simpa using hi)
    rw[show 86+d*31+4+j*13+2+i=86+d*31+4+j*13+0+(2+i) by omega];exact this
   ·rw[(x6 j ej).1,(x6 j ej).2.2.1];exact(C.fl j hj).keep (fun i v hi=>hout _ _ (by omega))
  ·by_cases ej:j=k
   ·subst ej;refine⟨hd,?_,hhd⟩
    have:=hin 12 hd (by
     show ([Value.bool (x.used j),int (x.age j)]++fil++[hd])[12]?=some hd
     rw[nO0 (by simp[hfil])]
     simp[hfil])
    exact this
   ·obtain⟨u,p1,p2⟩:=C.heard j hj;rw[(x6 j ej).1,(x6 j ej).2.2.2];exact⟨u,hout _ _ (by omega) p1,p2.keep (fun i hi=>hkr i _ hi (by simp))⟩
 ·left
  exact⟨by simp only[Net.setCl,kA _ _ ed],fun o _ _=>by omega,fun _=>by simp,by simp⟩
end Go.Proofs.YtodfcpblcpogiaaGreat

import Derived.Test.YtodfcpblcpogiaaGreatSf
namespace Go.Proofs.YtodfcpblcpogiaaGreat
open Go.RowKit
theorem gQ:bO 126 (.agg #[int 0,int 0,int 0,rA,int 0,rA,int 0,.bool false]) 8 96:=vE (by kernel_rfl)
def fC (p:Nat→Bool)(css:List (List Value))(k:Nat):List (List Value):=((List.range k).filter p).map fun i=>css.getD i []
theorem lA0 (p:Nat→Bool)(css:List (List Value))(k:Nat):fC p css (k+1)=fC p css k++if p k then [css.getD k []] else []:=by
 unfold fC;rw[List.range_succ,List.filter_append,List.map_append];cases h:p k
 ·rw[List.filter_cons_of_neg (by rw[h];simp)];simp
 ·rw[List.filter_cons_of_pos h];simp
theorem eG0 (p:Nat→Bool)(css:List (List Value))(k:Nat):(fC p css k).length≤k:=by
 unfold fC;rw[List.length_map];exact mO0 (List.length_filter_le _ _) (by rw[List.length_range];exact qO0 _)
set_option maxRecDepth 100000 in
set_option maxHeartbeats 4000000 in
theorem uQ (b n:Nat)(X Y:Nat→Int)(x s:Int)(css:List (List Value))(a:Option Addr)(cap:Nat)(w:World)(hn:n≤1000)(hfr:∀o,w.frozen? ⟨b,o,none⟩=false)(h2:w.cell? ⟨b,2,none⟩=some (.slice a n cap))
  (hc:∀i,i<n→∃g u2 u3 u4 u5 u6 u7,a=some ⟨g,0,none⟩∧css.getD i []=[int (X i),int (Y i),u2,u3,u4,u5,u6,u7]∧(∀u,u∈[u2,u3,u4,u5,u6,u7]→u.oneCell'=true)∧w.cell? ⟨g,i*8,none⟩=some (int (X i))∧w.cell? ⟨g,i*8+1,none⟩=some (int (Y i))∧
   w.cell? ⟨g,i*8+2,none⟩=some u2∧w.cell? ⟨g,i*8+3,none⟩=some u3∧w.cell? ⟨g,i*8+4,none⟩=some u4∧w.cell? ⟨g,i*8+5,none⟩=some u5∧w.cell? ⟨g,i*8+6,none⟩=some u6∧w.cell? ⟨g,i*8+7,none⟩=some u7):
  Calls Tryz.prog 76 #[.pointer (some ⟨b,0,none⟩),int x,int s] w fun e w'=>e=.returned (.tuple #[])∧∃w1 lv,qA w w1∧w1.ownsRow w.heap.size 126 8 lv (fC (fun i=>!decide (X i=x∧Y i=s)) css n).length (fC (fun i=>!decide (X i=x∧Y i=s)) css n).flatten∧w'=w1.setCell ⟨b,2,none⟩ lv:=by
 have hb:=fP0 h2;simp only at hb;have hnI:(n:Int)≤1000:=by omega
 have HC:=uA hc;have HFR:=uA hfr;obtain⟨B,hB⟩:∃B:Nat,1000<B:=⟨1001,by omega⟩;have HB:=uA hB;have HNL:=uA hn;obtain⟨ti,i3,z3,s3,b3⟩:=gQ;have I3:=uA i3;have Z3:=uA z3;have S3:=uA s3;have B3:=uA b3;have HH2:=uA h2;clear hc hfr hB hn i3 z3 s3 b3;go_enter Tryz.func76,Tryz.ntmps76
 go_wp2;go_loopw [6,7] (fun lv iv wr=>∃k:Nat,k≤n∧iv=int k∧qA w wr∧wr.ownsRow w.heap.size 126 8 lv (fC (fun i=>!decide (X i=x∧Y i=s)) css k).length (fC (fun i=>!decide (X i=x∧Y i=s)) css k).flatten) (fun _ iv _=>B-(intOf iv).toNat)
 case atStart=>exact⟨0,by omega,rfl,cP0 _ _,⟨by simp[fC],Or.inl ⟨rfl,rfl⟩⟩⟩
 case round=>
  obtain⟨k,hk,rfl,hcal,hrow⟩:=hrel;have hsu:=lA0 (fun i=>!decide (X i=x∧Y i=s)) css k;have hle:=eG0 (fun i=>!decide (X i=x∧Y i=s)) css k;obtain⟨L,hL⟩:∃L,L=fC (fun i=>!decide (X i=x∧Y i=s)) css k:=⟨_,rfl⟩;rw[←hL] at hrow hsu hle;have hd2:=hcal.cell (p:=⟨b,2,none⟩) id (yA HH2);have HSU:=uA hsu;have HCA:=uA hcal;have HRO:=uA hrow;have HLL:=uA hL;have hone:u6.oneCell'=true:=by
   rcases hrow.2 with⟨rfl,_⟩ | ⟨g,cap,cur,rfl,_⟩<;>rfl
  clear hsu hrow hL h2;by_cases hkn:k<n
  ·have hkI:(k:Int)<n:=by omega
   obtain⟨g,y2,y3,y4,y5,y6,y7,rfl,hcs,hon,n0,n1,n2,n3,n4,n5,n6,n7⟩:=yA HC k hkn;have m0:=hcal.cell (p:=⟨g,k*8,none⟩) id n0;have m1:=hcal.cell (p:=⟨g,k*8+1,none⟩) id n1;have m2:=hcal.cell (p:=⟨g,k*8+2,none⟩) id n2;have m3:=hcal.cell (p:=⟨g,k*8+3,none⟩) id n3;have m4:=hcal.cell (p:=⟨g,k*8+4,none⟩) id n4;have m5:=hcal.cell (p:=⟨g,k*8+5,none⟩) id n5;have m6:=hcal.cell (p:=⟨g,k*8+6,none⟩) id n6;have m7:=hcal.cell (p:=⟨g,k*8+7,none⟩) id n7;obtain⟨P,hP⟩:∃P,P=X k:=⟨_,rfl⟩;obtain⟨Q,hQ⟩:∃Q,Q=Y k:=⟨_,rfl⟩;rw[←hP] at m0 hcs;rw[←hQ] at m1 hcs;have HP:=uA hP;have HQ:=uA hQ;have HCS:=uA hcs
   have HON:Hid (∀u,u∈[int P,int Q,y2,y3,y4,y5,y6,y7]→u.oneCell'=true):=uA (fun u hu=>by
    rw[List.mem_cons,List.mem_cons] at hu;rcases hu with rfl | rfl | hu
    ·rfl
    ·rfl
    ·exact hon u hu)
   have o2:=hon y2 (by simp);have o3:=hon y3 (by simp);have o4:=hon y4 (by simp);have o5:=hon y5 (by simp);have o6:=hon y6 (by simp);have o7:=hon y7 (by simp);have hsz:=hcal.size;clear hP hQ hcs hon n0 n1 n2 n3 n4 n5 n6 n7 hcal;by_cases hout:P=x∧Q=s
   ·obtain⟨rfl,rfl⟩:=hout;have hst:fC (fun i=>!decide (X i=P∧Y i=Q)) css (k+1)=L:=by rw[yA HSU,if_neg (by rw[←yA HP,←yA HQ];simp),List.append_nil]
    have HST:=uA hst;clear hst;go_wp2;go_roundw
    case rel=>exact⟨k+1,by omega,by go_num,yA HCA,by rw[yA HST];exact yA HRO⟩
    case measure=>have:=yA HB;simp[intOf];omega
   ·have hst:fC (fun i=>!decide (X i=x∧Y i=s)) css (k+1)=L++[[int P,int Q,y2,y3,y4,y5,y6,y7]]:=by rw[yA HSU,if_pos (by rw[←yA HP,←yA HQ];simp[hout]),yA HCS]
    have HST:=uA hst;have hsplit:(P == x)=false∨(P=x∧(Q == s)=false):=by
     by_cases h1:P=x
     ·right;exact⟨h1,by rw[vB];exact pP0 (fun h2=>hout ⟨h1,h2⟩)⟩
     ·left;rw[vB];exact pP0 h1
    clear hst hout;rcases hsplit with h1b | ⟨h1,h2b⟩
    ·go_wp2_with (at_builtin;refine pB _ rfl _ _ 113 rfl w.heap.size 126 ti (.agg #[int 0,int 0,int 0,rA,int 0,rA,int 0,.bool false]) 8 96 Tryz.underlying113 (yA I3) (yA Z3) (yA S3) (yA B3) rfl (by decide) u6 L.length L.flatten rfl (eA (yA HRO) ((cP0 (fun _=>False) _).alloc _) (fun _ _ f=>f)) ⟨wr.heap.size,0,none⟩ 1 1 [int P,int Q,y2,y3,y4,y5,y6,y7] rfl rfl ?news ?one (by decide) ?h63 ?bytes ?base ?_)
     case news=>exact fun j u hj=>yC wr [int P,int Q,y2,y3,y4,y5,y6,y7] 126 j u hj
     case one=>exact yA HON
     case h63=>unfold maxLen;omega
     case bytes=>omega
     case base=>simp;omega
     intro g2 cp2 w2 hg2;have hrow2:w2.ownsRow w.heap.size 126 8 (.slice (some ⟨g2,0,none⟩) (L.length+1) cp2) (fC (fun i=>!decide (X i=x∧Y i=s)) css (k+1)).length (fC (fun i=>!decide (X i=x∧Y i=s)) css (k+1)).flatten:=by
      rw[yA HST];simp only[hO0,gO0,List.length_nil,List.flatten_append,List.flatten_cons,List.flatten_nil,List.append_nil];exact hg2.1
     have ht2:qA w w2:=by
      rcases hg2.2.1 with⟨hv,t⟩ | ⟨_,t⟩
      ·have hge:w.heap.size≤g2:=by
        rcases(yA HRO).2 with⟨e,_⟩ | ⟨g',cp',cur,e,hb',_⟩
        ·rw[e] at hv;cases hv
        ·rw[e] at hv;cases hv;exact hb'
       have t':Touch (fun i=>i=g2) w w2:=bP0 ((((yA HCA).mono (fun _ _ f=>f.elim)):Touch (fun i=>i=g2) w wr).alloc _) t;exact t'.mono (fun i hi e=>by omega)
      ·exact((yA HCA).alloc _).trans t
     have HR2:=uA hrow2;have HT2:=uA ht2;clear hrow2 ht2 hg2;go_wp2;go_roundw
     case rel=>exact⟨k+1,by omega,by go_num,yA HT2,yA HR2⟩
     case measure=>have:=yA HB;simp[intOf];omega
    ·subst h1;go_wp2_with (at_builtin;refine pB _ rfl _ _ 113 rfl w.heap.size 126 ti (.agg #[int 0,int 0,int 0,rA,int 0,rA,int 0,.bool false]) 8 96 Tryz.underlying113 (yA I3) (yA Z3) (yA S3) (yA B3) rfl (by decide) u6 L.length L.flatten rfl (eA (yA HRO) ((cP0 (fun _=>False) _).alloc _) (fun _ _ f=>f)) ⟨wr.heap.size,0,none⟩ 1 1 [int P,int Q,y2,y3,y4,y5,y6,y7] rfl rfl ?news ?one (by decide) ?h63 ?bytes ?base ?_)
     case news=>exact fun j u hj=>yC wr [int P,int Q,y2,y3,y4,y5,y6,y7] 126 j u hj
     case one=>exact yA HON
     case h63=>unfold maxLen;omega
     case bytes=>omega
     case base=>simp;omega
     intro g2 cp2 w2 hg2;have hrow2:w2.ownsRow w.heap.size 126 8 (.slice (some ⟨g2,0,none⟩) (L.length+1) cp2) (fC (fun i=>!decide (X i=P∧Y i=s)) css (k+1)).length (fC (fun i=>!decide (X i=P∧Y i=s)) css (k+1)).flatten:=by
      rw[yA HST];simp only[hO0,gO0,List.length_nil,List.flatten_append,List.flatten_cons,List.flatten_nil,List.append_nil];exact hg2.1
     have ht2:qA w w2:=by
      rcases hg2.2.1 with⟨hv,t⟩ | ⟨_,t⟩
      ·have hge:w.heap.size≤g2:=by
        rcases(yA HRO).2 with⟨e,_⟩ | ⟨g',cp',cur,e,hb',_⟩
        ·rw[e] at hv;cases hv
        ·rw[e] at hv;cases hv;exact hb'
       have t':Touch (fun i=>i=g2) w w2:=bP0 ((((yA HCA).mono (fun _ _ f=>f.elim)):Touch (fun i=>i=g2) w wr).alloc _) t;exact t'.mono (fun i hi e=>by omega)
      ·exact((yA HCA).alloc _).trans t
     have HR2:=uA hrow2;have HT2:=uA ht2;clear hrow2 ht2 hg2;go_wp2;go_roundw
     case rel=>exact⟨k+1,by omega,by go_num,yA HT2,yA HR2⟩
     case measure=>have:=yA HB;simp[intOf];omega
  ·have hke:k=n:=by omega
   subst hke;have hfz:wr.frozen? ⟨b,2,none⟩=false:=(nP0 (w:=w) (a:=⟨b,2,none⟩) (hcal.block b hb id)).trans (yA HFR _);have hsl:∃a' n' c',u6=.slice a' n' c':=by
    rcases(yA HRO).2 with⟨e,_⟩ | ⟨g,cp,cur,e,_⟩
    ·exact⟨_,_,_,e⟩
    ·exact⟨_,_,_,e⟩
   obtain⟨a',n',c',rfl⟩:=hsl;clear hcal hkn hle hone;go_wp2;go_end0
   refine⟨rfl,wr,_,yA HCA,?_,rfl⟩;rw[←yA HLL];exact yA HRO
theorem eR {w w1:World}{b:Nat}{ρ:zA}{R:RNet}(h:RX w b ρ R)(r:Role){o t size k:Nat}{all:List Value}{vl lv:Value}(hl:w.cell? ⟨b,o,none⟩=some vl)(t1:qA w w1)(hown:w1.ownsRow w.heap.size t size lv k all):∃ρ',Grown w (w1.setCell ⟨b,o,none⟩ lv) b o ρ ρ' r t size k all:=by
 have hb:b<w.heap.size:=h.lt b (by rw[h.net];simp)
 obtain⟨W,hW⟩:∃W,W=w1.setCell ⟨b,o,none⟩ lv:=⟨_,rfl⟩;rw[←hW];have hWk:∀i,i≠b→W.heap[i]?=w1.heap[i]?:=fun i hi=>by rw[hW];exact zB w1 _ hi
 have hWs:W.heap.size=w1.heap.size:=by rw[hW];simp[World.setCell]
 have hb2:w1.heap[b]?=w.heap[b]?:=t1.block b hb id;obtain⟨ρ',hr1,hr2,hr3⟩:∃ρ':zA,(∀i,i<w.heap.size→ρ' i=ρ i)∧(∀g,lv.ownBlock=some g→ρ' g=some r)∧∀i,ρ' i≠none→i<w1.heap.size:=by
  rcases hown.2 with⟨rfl,_⟩ | ⟨g,cap,cur,rfl,hge,hg,_⟩
  ·exact⟨ρ,fun _ _=>rfl,(fun g hg=>by cases hg),fun i hi=>sO0 (h.lt i hi) t1.size⟩
  ·refine⟨iA ρ g r,(fun i hi=>by unfold iA;rw[if_neg (by omega)]),(fun g' hg'=>by cases hg';simp[iA]),fun i hi=>?_⟩
   unfold iA at hi;split at hi
   ·rename_i e;rw[e];exact(tO0.1 hg).1
   ·exact sO0 (h.lt i hi) t1.size
 refine⟨ρ',⟨⟨?_,?_,?_,?_,fun i hi hs=>?_⟩,fun i hi=>Or.inl (hr1 i hi),fun i hi=>?_⟩,fun o' v ho hv=>?_,⟨lv,?_,?_,hr2⟩,(hr1 b hb).trans h.net,?_,fun o'=>?_⟩
 ·rw[hW];exact t1.os
 ·rw[hW];exact t1.tape
 ·rw[hW];exact t1.output
 ·rw[hWs];exact t1.size
 ·have h1:i≠b:=fun e1=>hs ⟨.net,by rw[e1];exact h.net,Or.inl rfl⟩;exact(hWk i h1).trans (t1.block i hi id)
 ·rw[hWs];exact hr3 i hi
 ·rw[hW];exact tA w1 ho (pA hb2 hv)
 ·rw[hW];exact mP0 w1 _ _ (pA hb2 hl)
 ·obtain⟨a1,a2⟩:=hown;refine⟨a1,?_⟩;rcases a2 with a2 | ⟨g,cap,cur,a3,a4,a5,a6⟩
  ·exact Or.inl a2
  ·exact Or.inr ⟨g,cap,cur,a3,Nat.zero_le _,(hWk g (by omega)).trans a5,a6⟩
 ·rw[hW];exact nB (by rw[hb2];exact h.typ) _ _
 ·rw[hW];exact qB _ _ _ _ _ ((nP0 (w:=w) (a:=⟨b,o',none⟩) hb2).trans (h.fr o'))
theorem RX.facts' {w w':World}{b:Nat}{ρ ρ':zA}{R:RNet}(h:RX w b ρ R){k:Nat}{all:List Value}(G:Grown w w' b 2 ρ ρ' (.known 0 0) 126 8 k all){fa:List KFa}{css:List (List Value)}(hk:k=fa.length)(hcss:css.length=fa.length)(hall:all=css.flatten)
  (hC:∀(i:Nat) a cs,fa[i]?=some a→css[i]?=some cs→FaC w ρ a cs):RX w' b ρ' {R with fa:=fa}:=by
 have z:∀r:Role,r≠.net→r≠.known 0 0→¬(r=.net∨r=.known 0 0):=fun r h1 h2 h3=>h3.elim h1 h2;obtain⟨pb,po,cap,p0,p1,p2⟩:=h.pars;obtain⟨v1,g1,g2⟩:=G.row;obtain⟨v2,f1,f2⟩:=h.frames;subst hk;subst hall;refine⟨G.net,G.typ,G.fr,G.mv.lt,⟨pb,po,cap,G.cell _ _ (by omega) p0,?_,fun i hi=>?_⟩,⟨v2,G.cell _ _ (by omega) f1,?_⟩,⟨v1,g1,css,hcss,g2,fun i a cs ha hc=>?_⟩,fun c hc=>?_,G.cell _ _ (by omega) h.closed⟩
 ·exact G.mv.stay p1 (z _ (by simp) (by simp)) (h.lt pb (by rw[p1];simp))
 ·exact G.mv.cellZ p1 (z _ (by simp) (by simp)) (p2 i hi)
 ·exact G.mv.pieces f2 (z _ (by simp) (by simp)) (fun a cs _ hF=>G.mv.frC hF (z _ (by simp) (by simp)) (z _ (by simp) (by simp)))
 ·exact G.mv.faC (hC i a cs ha hc) (z _ (by simp) (by simp)) (z _ (by simp) (by simp))
 ·exact G.mv.clK (h.cl c hc) (fun o v h1 h2 hv=>G.cell o v (by omega) hv) (z _ (by simp) (by simp)) (fun k=>z _ (by simp) (by simp)) (z _ (by simp) (by simp))
theorem cC0 {α:Type}(d:α)(l:List α):(List.range l.length).map (fun i=>l.getD i d)=l:=by
 refine List.ext_getElem (by simp) (fun i h1 h2=>?_);simp[h2]
theorem eI {α:Type}(d:α)(q:α→Bool)(l:List α):l.filter q=((List.range l.length).filter fun i=>q (l.getD i d)).map fun i=>l.getD i d:=by
 conv=>lhs;rw[←cC0 d l]
 rw[List.filter_map];rfl
theorem FaC.ones {w:World}{ρ:zA}{k:KFa}{cs:List Value}(h:FaC w ρ k cs):∀u,u∈cs→u.oneCell'=true:=by
 obtain⟨fv,kv,⟨a,cap,rfl,_⟩,h2,rfl⟩:=h;have hone:=h2.oneCell;intro u hu;simp only[List.mem_cons,List.not_mem_nil,or_false] at hu;rcases hu with rfl | rfl | rfl | rfl | rfl | rfl | rfl | rfl<;>first | exact hone | rfl
abbrev yM:Role→Prop:=fun z=>z=.net∨z=.known 0 0
theorem uN {w:World}{b:Nat}{ρ:zA}{R:RNet}(h:RX w b ρ R)(x s:Nat)(hn:R.fa.length≤1000):
  Calls Tryz.prog 76 #[.pointer (some ⟨b,0,none⟩),int x,int s] w fun e w'=>e=.returned (.tuple #[])∧∃ρ',RX w' b ρ' (R.forget x s)∧Mv yM ρ ρ' w w':=by
 obtain⟨v,g1,hP⟩:=h.facts;obtain⟨a,cap,rfl⟩:=hP.slice;obtain⟨css,k1,k2,k3⟩:=id hP;have hat:∀i,i<R.fa.length→∃k cs,R.fa[i]?=some k∧css[i]?=some cs∧FaC w ρ k cs:=fun i hi=>by
  obtain⟨k,hk⟩:∃k,R.fa[i]?=some k:=⟨_,pO0 hi⟩;obtain⟨cs,hcs⟩:∃cs,css[i]?=some cs:=⟨_,pO0 (by omega)⟩;exact⟨k,cs,hk,hcs,k3 i k cs hk hcs⟩
 have hall:∀cs,cs∈css→cs.length=8:=fun cs hm=>by
  obtain⟨j,hj⟩:=List.getElem?_of_mem hm;have hjl:j<css.length:=(rO0.1 hj).1;obtain⟨k,cs',e1,e2,e3⟩:=hat j (by omega);rw[hj] at e2;cases e2
  exact e3.len
 refine(uQ b R.fa.length (faB R.fa) (faS R.fa) x s css a cap w hn h.fr g1 (fun i hi=>?_)).mono ?_
 ·obtain⟨k,cs,e1,e2,e3⟩:=hat i hi;have ho:=e3.ones;have hcell:∀g,a=some ⟨g,0,none⟩→∀(j:Nat) u,cs[j]?=some u→w.cell? ⟨g,i*8+j,none⟩=some u:=fun g hg j u hj=>by
   subst hg;have:=World.ownsRow.cells k2.1 (g:=g) rfl _ _ (fI hall e2 hj);rw[gP0,sP0] at this;exact this
  have hag:∃g,a=some ⟨g,0,none⟩:=by
   rcases k2.1.2 with⟨_,h0⟩ | ⟨g,c',cur,e,_⟩
   ·omega
   ·cases e;exact⟨g,rfl⟩
  obtain⟨g,hg⟩:=hag;have hc:=hcell g hg;obtain⟨fv,kv,_,_,rfl⟩:=e3;refine⟨g,_,_,_,_,_,_,hg,?_,fun u hu=>ho u (kO0 _ (kO0 _ hu)),?_,?_,hc 2 _ rfl,hc 3 _ rfl,hc 4 _ rfl,hc 5 _ rfl,hc 6 _ rfl,hc 7 _ rfl⟩
  ·rw[jO0,e2,zJ e1,bI e1];rfl
  ·rw[zJ e1];exact hc 0 _ rfl
  ·rw[bI e1];exact hc 1 _ rfl
 ·rintro e w' ⟨rfl,w1,lv,t1,hown,rfl⟩
  obtain⟨ρ',G⟩:=eR h (.known 0 0) g1 t1 hown;have hfil:∀i,i<R.fa.length→(!decide (faB R.fa i=(x:Int)∧faS R.fa i=(s:Int)))=!KFa.on x s (R.fa.getD i ⟨0,0,⟨0,[],none,[],0,false⟩⟩):=fun i hi=>by
   obtain⟨k,cs,e1,_,_⟩:=hat i hi;rw[zJ e1,bI e1,jO0,e1];simp only[Option.getD_some,KFa.on];congr 1
   rw[decide_eq_decide];omega
  have hidx:(List.range R.fa.length).filter (fun i=>!decide (faB R.fa i=(x:Int)∧faS R.fa i=(s:Int)))=(List.range R.fa.length).filter fun i=>!KFa.on x s (R.fa.getD i ⟨0,0,⟨0,[],none,[],0,false⟩⟩):=List.filter_congr (fun i hi=>hfil i (yP0.1 hi));have hfa:(R.forget x s).fa=((List.range R.fa.length).filter fun i=>!decide (faB R.fa i=(x:Int)∧faS R.fa i=(s:Int))).map fun i=>R.fa.getD i ⟨0,0,⟨0,[],none,[],0,false⟩⟩:=by
   rw[hidx];exact eI _ _ _
  have hlen:(fC (fun i=>!decide (faB R.fa i=(x:Int)∧faS R.fa i=(s:Int))) css R.fa.length).length=(R.forget x s).fa.length:=by
   rw[hfa];unfold fC;rw[List.length_map,List.length_map]
  refine⟨rfl,ρ',h.facts' G (fa:=(R.forget x s).fa) hlen hlen rfl (fun i k cs hk hcs=>?_),G.mv⟩;rw[hfa] at hk;unfold fC at hcs;rw[List.getElem?_map] at hk hcs;cases hj:((List.range R.fa.length).filter fun i=>!decide (faB R.fa i=(x:Int)∧faS R.fa i=(s:Int)))[i]? with
  | none=>rw[hj] at hk;cases hk
  | some j=>
   rw[hj] at hk hcs;have hjm:=(dO0.1 (vP0 hj)).1;obtain⟨k',cs',e1,e2,e3⟩:=hat j (yP0.1 hjm);simp only[Option.map_some,Option.some.injEq,jO0,e1,e2,Option.getD_some] at hk hcs;subst hk hcs;exact e3
theorem RNet.forget_le (R:RNet)(x s:Nat):(R.forget x s).fa.length≤R.fa.length:=List.length_filter_le _ _
theorem RX.knows {w w1 w2:World}{b:Nat}{ρ:zA}{R:RNet}(h:RX w b ρ R){l:KFa}{cs:List Value}(hC:FaC w ρ l cs){vl:Value}{css:List (List Value)}(hl:w.cell? ⟨b,2,none⟩=some vl)(hcss:css.length=R.fa.length)(hrow:RowAt w ρ (.known 0 0) 126 8 R.fa.length css.flatten vl)
  (hp:∀(i:Nat) a cs,R.fa[i]?=some a→css[i]?=some cs→FaC w ρ a cs) (t1:qA w w1) {g cap:Nat} (hg:xF 0 126 8 vl (R.fa.length+1) (css.flatten++cs) w1 g cap w2):
  RX (w2.setCell ⟨b,2,none⟩ (.slice (some ⟨g,0,none⟩) (R.fa.length+1) cap)) b (iA ρ g (.known 0 0)) {R with fa:=R.fa++[l]}∧Mv yM ρ (iA ρ g (.known 0 0)) w (w2.setCell ⟨b,2,none⟩ (.slice (some ⟨g,0,none⟩) (R.fa.length+1) cap)):=by
 have G:=yQ h (by simp) hl hrow t1 hg;refine⟨h.facts' G (css:=css++[cs]) (by simp) (by simp[hcss]) (by simp) (fun i a cs' ha hc=>?_),G.mv⟩;by_cases hi:i<R.fa.length
 ·rw[oO0 hi] at ha;rw[oO0 (by omega)] at hc;exact hp i a cs' ha hc
 ·have hi':i=R.fa.length:=by
   have:=(rO0.1 ha).1;simp at this;omega
  subst hi';rw[nO0 (qO0 _)] at ha;rw[nO0 (by omega)] at hc;simp only[Nat.sub_self,List.getElem?_cons_zero,Option.some.injEq,hcss] at ha hc;subst ha hc;exact hC
set_option maxRecDepth 100000 in
set_option maxHeartbeats 4000000 in
theorem cG0 {w:World}{b:Nat}{ρ:zA}{R:RNet}(h:RX w b ρ R){x s:Nat}{f:Fact}{v2 v3 v4 v5 v6 v7:Value}(hv:FaC w ρ ⟨x,s,f⟩ [int x,int s,v2,v3,v4,v5,v6,v7])(hn:R.fa.length≤1000):
    Calls Tryz.prog 42 #[.pointer (some ⟨b,0,none⟩),.agg #[int x,int s,v2,v3,v4,v5,v6,v7]] w fun e w'=>e=.returned (.tuple #[])∧∃ρ',RX w' b ρ' (R.learn x s f)∧Mv yM ρ ρ' w w':=by
  have ho:=hv.ones;have o2:=ho v2 (by simp);have o3:=ho v3 (by simp);have o4:=ho v4 (by simp);have o5:=ho v5 (by simp);have o6:=ho v6 (by simp);have o7:=ho v7 (by simp);have HON:=uA ho;have hnon:ρ w.heap.size=none:=by
    cases hq:ρ w.heap.size with
    | none=>rfl
    | some r=>have:=h.lt w.heap.size (by rw[hq];simp);omega
  obtain⟨W,hW⟩:∃W,w.alloc (.cells #[int x,int s,v2,v3,v4,v5,v6,v7] 126)=W:=⟨_,rfl⟩;have hcal:qA w W:=by rw[←hW];exact(cP0 _ _).alloc _
  have hb0:W.heap[w.heap.size]?=some (.cells #[int x,int s,v2,v3,v4,v5,v6,v7] 126):=by rw[←hW];exact eP0 w _
  have c0:W.cell? ⟨w.heap.size,0,none⟩=some (int x):=xA hb0 0;have c1:W.cell? ⟨w.heap.size,1,none⟩=some (int s):=xA hb0 1;have HB0:=uA hb0;have HM0:Hid (Mv yM ρ ρ w W):=uA (zQ0 h.lt hcal);have HXW:=uA (h.calm hcal);have HV:=uA hv;have HNN:=uA hnon;have HLN:=uA hn;clear ho h hv hnon hcal hb0 hn;go_enter Tryz.func42,Tryz.ntmps42
  go_wp2_with (go_at_call 76;(try rw[hW]);refine(uN (yA HXW) x s (yA HLN)).mono ?_;rintro e wx ⟨rfl,ρ2,h2,m2⟩
               have HX2:=uA h2;have HM2:=uA m2
               clear h2 m2)
  have hbx:wx.heap[w.heap.size]?=some (.cells #[int x,int s,v2,v3,v4,v5,v6,v7] 126):=((yA HM2).touch.block _ (fP0 c0) (fun ⟨r,e,_⟩=>by rw[yA HNN] at e;cases e)).trans (yA HB0)
  obtain⟨vl,g1,css,k1,k2,k3⟩:=(yA HX2).facts;have hvb:vl.ownBlock≠some b:=fun e=>by have:=k2.2 b e;rw[(yA HX2).net] at this;cases this
  have hbl:b<wx.heap.size:=(yA HX2).lt b (by rw[(yA HX2).net];simp)
  have hfl:(R.forget x s).fa.length≤1000:=mO0 (R.forget_le x s) (yA HLN);have q0:wx.cell? ⟨w.heap.size,0,none⟩=some (int x):=xA hbx 0;have q1:wx.cell? ⟨w.heap.size,1,none⟩=some (int s):=xA hbx 1;have q2:wx.cell? ⟨w.heap.size,2,none⟩=some v2:=xA hbx 2;have q3:wx.cell? ⟨w.heap.size,3,none⟩=some v3:=xA hbx 3;have q4:wx.cell? ⟨w.heap.size,4,none⟩=some v4:=xA hbx 4;have q5:wx.cell? ⟨w.heap.size,5,none⟩=some v5:=xA hbx 5;have q6:wx.cell? ⟨w.heap.size,6,none⟩=some v6:=xA hbx 6;have q7:wx.cell? ⟨w.heap.size,7,none⟩=some v7:=xA hbx 7;have hone:vl.oneCell'=true:=k2.oneCell;have HRW:=uA k2;have HK3:=uA k3;have hFA:FaC wx ρ2 ⟨x,s,f⟩ [int x,int s,v2,v3,v4,v5,v6,v7]:=(yA HM2).faC ((yA HM0).faC (yA HV) (by simp) (by simp)) (by simp) (by simp);have HFA:=uA hFA;have HFZ:=uA (yA HX2).fr;obtain⟨ti,i3,z3,s3,b3⟩:=gQ;have I3:=uA i3;have Z3:=uA z3;have S3:=uA s3;have B3:=uA b3;clear i3 z3 s3 b3 k2 k3 hFA hbx c0 c1 hW;go_wp2
  go_region_law (first
    | (refine kB _ rfl _ _ 113 rfl 0 126 ti (.agg #[int 0,int 0,int 0,rA,int 0,rA,int 0,.bool false]) 8 96 Tryz.underlying113 (yA I3) (yA Z3) (yA S3) (yA B3) rfl (by decide) vl (R.forget x s).fa.length css.flatten rfl ?own ⟨wx.heap.size,0,none⟩ 1 1 [int x,int s,v2,v3,v4,v5,v6,v7] rfl rfl ?news ?one (by decide) ?h63 ?bytes ?base ?_
       case own=>exact eA (yA HRW).1 (((cP0 (fun _=>False) _).alloc _).drew) (fun _ _ f=>f)
       case news=>intro j u hj;exact yC wx [int x,int s,v2,v3,v4,v5,v6,v7] 126 j u hj
       case one=>exact yA HON
       case h63=>unfold maxLen;omega
       case bytes=>omega
       case base=>simp
       intro g2 cp2 w2 hg2;have hne:¬b=g2:=by
         rcases hg2.2.1 with⟨h,_⟩ | ⟨h,_⟩
         · intro e;exact hvb (by rw[h,e])
         · simp at h;omega
       have ht2:Touch (fun i=>i=g2) wx w2:=by
         rcases hg2.2.1 with⟨_,h⟩ | ⟨_,h⟩
         · exact bP0 (((cP0 _ _).alloc _).drew) h
         · exact(((cP0 (fun i=>i=g2) wx).alloc _).drew).calm h
       have dl2:w2.cell? ⟨b,2,none⟩=some vl:=ht2.cell (p:=⟨b,2,none⟩) hne g1;have fz2:w2.frozen? ⟨b,2,none⟩=false:=(nP0 (w:=wx) (a:=⟨b,2,none⟩) (ht2.block b hbl hne)).trans (yA HFZ _);have HG2:=uA hg2
       clear hg2 ht2))
  all_goals go_end0
  all_goals
    have hk:=(yA HX2).knows (yA HFA) g1 k1 (yA HRW) (yA HK3) (((cP0 (fun _=>False) wx).alloc _).drew) (yA HG2);exact⟨rfl,_,hk.1,((yA HM0).trans (yA HM2)).trans hk.2⟩
end Go.Proofs.YtodfcpblcpogiaaGreat

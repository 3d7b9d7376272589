import Derived.Test.YtodfcpblcpogiaaGreatSpr
namespace Go.Proofs.YtodfcpblcpogiaaGreat
open Go.RowKit
set_option maxHeartbeats 400000 in
theorem tU (k m:Int)(w:World):Calls Tryz.prog 119 #[int k,int m] w fun e w'=>e=.returned (.agg #[int k,int m,int 0,int 0,int 0,int 0,int 0,int 0])∧qA w w':=by
 go_enter Tryz.func119,Tryz.ntmps119
 go_wp2;exact bodyPost_ret (v:=.agg #[int k,int m,int 0,int 0,int 0,int 0,int 0,int 0]) (by simp[results,Tryz.results119,go_sem]) rfl ⟨rfl,(cP0 _ _).alloc _⟩
set_option maxRecDepth 100000 in
set_option maxHeartbeats 400000 in
theorem pH0 (b o:Nat)(k m:Int)(w:World)(ht:w.cell? ⟨b,o,none⟩=some (.bool true))(hm:0<m):
  Calls Tryz.prog 100 #[.pointer (some ⟨b,o,none⟩),.agg #[int k,int m,int 0,int 0,int 0,int 0,int 0,int 0]] w fun e w'=>e=.returned (.bool true)∧qA w w':=by
 have hb:=fP0 ht;simp only at hb;go_enter Tryz.func100,Tryz.ntmps100
 go_wp2;go_ret
 exact⟨rfl,(cP0 _ _).alloc _⟩
set_option maxRecDepth 100000 in
set_option maxHeartbeats 1000000 in
theorem kG0 (b o k m:Nat)(mo:Int)(vl:Value)(cells:List Value)(w:World)(hk:k<2)(ht:w.cell? ⟨b,o+4+k*13,none⟩=some (.bool true))(hfr:∀o,w.frozen? ⟨b,o,none⟩=false)(hmo:0<mo)
    (hlog:w.cell? ⟨b,o+30,none⟩=some vl) (hrow:w.ownsRow 0 74 7 vl m cells) (hmm:m<2199023255552) (hvb:vl.ownBlock≠some b):
    Calls Tryz.prog 72 #[.pointer (some ⟨b,o,none⟩),.agg #[int k,int mo,int 0,int 0,int 0,int 0,int 0,int 0]] w fun e w'=>e=.returned (.tuple #[])∧
      ∃w1 w2 g cap,qA w w1∧xF 0 74 7 vl (m+1) (cells++[int k,int mo,int 0,int 0,int 0,int 0,int 0]) w1 g cap w2∧w'=w2.setCell ⟨b,o+30,none⟩ (.slice (some ⟨g,0,none⟩) (m+1) cap):=by
  have hb:=fP0 ht;simp only at hb;obtain⟨W,hW⟩:∃W,w.alloc (.cells #[int k,int mo,int 0,int 0,int 0,int 0,int 0,int 0] 181)=W:=⟨_,rfl⟩;have hcal:qA w W:=by rw[←hW];exact(cP0 _ _).alloc _
  have hb0:W.heap[w.heap.size]?=some (.cells #[int k,int mo,int 0,int 0,int 0,int 0,int 0,int 0] 181):=by rw[←hW];exact eP0 w _
  have c0:W.cell? ⟨w.heap.size,0,none⟩=some (int k):=xA hb0 0;have c1:W.cell? ⟨w.heap.size,1,none⟩=some (int mo):=xA hb0 1;have c2:W.cell? ⟨w.heap.size,2,none⟩=some (int 0):=xA hb0 2;have c3:W.cell? ⟨w.heap.size,3,none⟩=some (int 0):=xA hb0 3;have c4:W.cell? ⟨w.heap.size,4,none⟩=some (int 0):=xA hb0 4;have c5:W.cell? ⟨w.heap.size,5,none⟩=some (int 0):=xA hb0 5;have c6:W.cell? ⟨w.heap.size,6,none⟩=some (int 0):=xA hb0 6;have c7:W.cell? ⟨w.heap.size,7,none⟩=some (int 0):=xA hb0 7;have hki:(k:Int)<2:=by omega
  have ht1:=hcal.cell (p:=⟨b,o+4+k*13,none⟩) id ht;have HB0:=uA hb0;have HC:=uA hcal;have HF:=uA hfr;have HT:=uA ht1;have HL:=uA (hcal.cell (p:=⟨b,o+30,none⟩) id hlog);have HR:=uA hrow;clear hb0 hcal hfr ht1 ht hlog hrow;go_enter Tryz.func72,Tryz.ntmps72
  go_wp2;clear hW
  go_cut [12] (fun s wx=>s=.bool true∧qA W wx)
  case first=>
    go_region_with (go_at_call 100;refine(pH0 b (o+4+k*13) k mo _ ?_ hmo).mono ?_;exact yA HT;rintro r w3 ⟨rfl,h2⟩)
    all_goals go_wp2_with fail
    all_goals go_meet
    all_goals exact⟨rfl,((cP0 _ _).drew).calm h2⟩
  case rest=>
    obtain⟨rfl,h2⟩:=hcut;have d0:=h2.cell (p:=⟨w.heap.size,0,none⟩) id c0;have d1:=h2.cell (p:=⟨w.heap.size,1,none⟩) id c1;have d2:=h2.cell (p:=⟨w.heap.size,2,none⟩) id c2;have d3:=h2.cell (p:=⟨w.heap.size,3,none⟩) id c3;have d4:=h2.cell (p:=⟨w.heap.size,4,none⟩) id c4;have d5:=h2.cell (p:=⟨w.heap.size,5,none⟩) id c5;have d6:=h2.cell (p:=⟨w.heap.size,6,none⟩) id c6;have dl:=h2.cell (p:=⟨b,o+30,none⟩) id (yA HL);have hT:qA w wc:=(yA HC).trans h2;have hrow2:wc.ownsRow 0 74 7 vl m cells:=eA (yA HR) hT (fun _ _ f=>f);have hfz:∀o',wc.frozen? ⟨b,o',none⟩=false:=fun o'=>(nP0 (w:=w) (a:=⟨b,o',none⟩) (hT.block b hb id)).trans (yA HF o');have hbc:b<wc.heap.size:=sO0 hb hT.size;have hwsz:w.heap.size<wc.heap.size:=fP0 d0;have HRW:=uA hrow2;have HTT:=uA hT;have HFZ:=uA hfz;clear h2 c0 c1 c2 c3 c4 c5 c6 c7 hrow2 hT hfz HR HF HL HT HB0 hki;obtain⟨ti,i3,z3,s3,b3⟩:=tT;have I3:=uA i3;have Z3:=uA z3;have S3:=uA s3;have B3:=uA b3;clear i3 z3 s3 b3;have hone:vl.oneCell'=true:=by
      rcases(yA HRW).2 with⟨rfl,_⟩ | ⟨g,cap,cur,rfl,_⟩<;>rfl
    go_wp2
    go_region_law (first
      | (refine kB _ rfl _ _ 70 rfl 0 74 ti (.agg #[int 0,int 0,int 0,int 0,int 0,int 0,int 0]) 7 56 Tryz.underlying70 (yA I3) (yA Z3) (yA S3) (yA B3) rfl (by decide) vl m cells rfl ?own ⟨wc.heap.size,0,none⟩ 1 1 [int k,int mo,int 0,int 0,int 0,int 0,int 0] rfl rfl ?news ?one (by decide) ?h63 ?bytes ?base ?_
         case own=>exact eA (yA HRW) (((cP0 (fun _=>False) _).alloc _).drew) (fun _ _ f=>f)
         case news=>intro j u hj;exact yC wc [int k,int mo,int 0,int 0,int 0,int 0,int 0] 74 j u hj
         case one=>intro u hu;simp at hu;rcases hu with rfl | rfl | rfl<;>rfl
         case h63=>unfold maxLen;omega
         case bytes=>omega
         case base=>simp
         intro g2 cp2 w2 hg2;have hne:¬b=g2:=by
           rcases hg2.2.1 with⟨h,_⟩ | ⟨h,_⟩
           · intro e;exact hvb (by rw[h,e])
           · simp at h;omega
         have ht2:Touch (fun i=>i=g2) wc w2:=by
           rcases hg2.2.1 with⟨_,h⟩ | ⟨_,h⟩
           · exact bP0 (((cP0 _ _).alloc _).drew) h
           · exact(((cP0 (fun i=>i=g2) wc).alloc _).drew).calm h
         have dl2:w2.cell? ⟨b,o+30,none⟩=some vl:=ht2.cell (p:=⟨b,o+30,none⟩) hne dl;have fz2:w2.frozen? ⟨b,o+30,none⟩=false:=(nP0 (w:=wc) (a:=⟨b,o+30,none⟩) (ht2.block b hbc hne)).trans (yA HFZ _);have HG2:=uA hg2
         clear hg2 ht2))
    all_goals go_end0
    all_goals exact⟨rfl,_,w2,g2,cp2,((yA HTT).alloc _).drew,yA HG2,rfl⟩
def iX (k:Nat)(mo:Int):Ent:=⟨k,mo,Ev.zero⟩
theorem XN.logged {w w1 w2:World}{b:Nat}{ρ:zA}{σ:Net}(h:XN w b ρ σ){c:Nat}(hc:c<4){en:Ent}{m g cap:Nat}{vl:Value}(hl:w.cell? ⟨b,86+c*31+30,none⟩=some vl)(hrow:RowAt w ρ (.log c) 74 7 m ((σ.cl c).log.flatMap Ent.enc) vl)(hmlen:m=(σ.cl c).log.length)
  (t1:qA w w1) (hg:xF 0 74 7 vl (m+1) ((σ.cl c).log.flatMap Ent.enc++en.enc) w1 g cap w2):
  XN (w2.setCell ⟨b,86+c*31+30,none⟩ (.slice (some ⟨g,0,none⟩) (m+1) cap)) b (iA ρ g (.log c)) (σ.setCl c {σ.cl c with log:=(σ.cl c).log++[en]})∧
   Mv (fun r=>r=.net∨r=.log c) ρ (iA ρ g (.log c)) w (w2.setCell ⟨b,86+c*31+30,none⟩ (.slice (some ⟨g,0,none⟩) (m+1) cap))∧Front b w (w2.setCell ⟨b,86+c*31+30,none⟩ (.slice (some ⟨g,0,none⟩) (m+1) cap)):=by
 have hb:b<w.heap.size:=h.lt b (by rw[h.net];simp)
 obtain⟨gown,gt,glt⟩:=hg;have hgr:(ρ g=some (.log c)∧vl.ownBlock=some g)∨w.heap.size≤g:=by
  rcases gt with⟨hv,_⟩ | ⟨hv,_⟩
  ·exact Or.inl ⟨hrow.2 g hv,hv⟩
  ·right;rw[hv];exact t1.size
 have hgb:b≠g:=by
  rcases hgr with⟨h1,_⟩ | h1
  ·intro e1;subst e1;rw[h.net] at h1;cases h1
  ·omega
 have t2:Touch (fun i=>i=g) w1 w2:=by
  rcases gt with⟨_,t⟩ | ⟨_,t⟩
  ·exact t
  ·exact t.mono (fun _ _ f=>f.elim)
 have hkeep:∀i,i<w.heap.size→i≠g→w2.heap[i]?=w.heap[i]?:=fun i hi h2=>(t2.block i (sO0 hi t1.size) h2).trans (t1.block i hi id);obtain⟨W,hW⟩:∃W,W=w2.setCell ⟨b,86+c*31+30,none⟩ (.slice (some ⟨g,0,none⟩) (m+1) cap):=⟨_,rfl⟩;rw[←hW];have hWk:∀i,i≠b→W.heap[i]?=w2.heap[i]?:=fun i hi=>by rw[hW];exact zB w2 _ hi
 have hWs:W.heap.size=w2.heap.size:=by rw[hW];simp[World.setCell]
 have hb2:w2.heap[b]?=w.heap[b]?:=hkeep b hb hgb;have hcell:∀o v,o≠86+c*31+30→w.cell? ⟨b,o,none⟩=some v→W.cell? ⟨b,o,none⟩=some v:=fun o v ho hv=>by
  rw[hW];exact tA w2 ho (pA hb2 hv)
 have hfr:∀o,W.frozen? ⟨b,o,none⟩=false:=fun o=>by
  rw[hW];exact qB _ _ _ _ _ ((nP0 (w:=w) (a:=⟨b,o,none⟩) hb2).trans (h.fr o))
 have hrole:∀i,i<w.heap.size→iA ρ g (.log c) i=ρ i:=fun i hi=>by
  unfold iA;split
  ·rename_i e1;subst e1
   rcases hgr with⟨h1,_⟩ | h1
   ·exact h1.symm
   ·omega
  ·rfl
 have hmv:Mv (fun r=>r=.net∨r=.log c) ρ (iA ρ g (.log c)) w W:=by
  refine⟨⟨?_,?_,?_,?_,fun i hi hs=>?_⟩,fun i hi=>Or.inl (hrole i hi),fun i hi=>?_⟩
  ·rw[hW];exact t2.os.trans t1.os
  ·rw[hW];exact t2.tape.trans t1.tape
  ·rw[hW];exact t2.output.trans t1.output
  ·rw[hWs];exact mO0 t1.size t2.size
  ·have h1:i≠b:=fun e1=>hs ⟨.net,by rw[e1];exact h.net,Or.inl rfl⟩;have h3:i≠g:=fun e1=>by
    subst e1;rcases hgr with⟨h3,_⟩ | h3
    ·exact hs ⟨.log c,h3,Or.inr rfl⟩
    ·omega
   exact(hWk i h1).trans (hkeep i hi h3)
  ·rw[hWs];unfold iA at hi;split at hi
   ·rename_i e1;rw[e1];exact glt
   ·exact sO0 (h.lt i hi) (mO0 t1.size t2.size)
 refine⟨?_,hmv,fun o v ho hv=>hcell o v (by omega) hv⟩;refine h.step hmv (fun o=>o=86+c*31+30) (by rw[hW];exact nB (by rw[hb2];exact h.typ) _ _) hfr (fun o v ho=>hcell o v ho) rfl rfl (by omega) (by omega) (by simp) (by simp) (by simp)
  (fun x y _ _=>Or.inl ⟨rfl,by omega,by simp⟩) (fun x c k _ _ _=>Or.inl ⟨rfl,by omega,by simp,by simp⟩) (fun d hd=>?_)
 by_cases ed:d=c
 ·right
  subst ed;simp only[Net.setCl,put_same];have C:=h.cli d hd;refine⟨hcell _ _ (by omega) C.here,hcell _ _ (by omega) C.home,hcell _ _ (by omega) C.stays,hcell _ _ (by omega) C.many,fun k' h'=>hcell _ _ (by omega) (C.used k' h'),fun k' h'=>hcell _ _ (by omega) (C.age k' h'),fun k' h'=>(C.fl k' h').keep (fun j v hj=>hcell _ _ (by omega)),fun k' h'=>?_,?_⟩
  ·obtain⟨v,e1,e2⟩:=C.heard k' h';refine⟨v,hcell _ _ (by omega) e1,e2.keep (fun i hi=>?_)⟩;have hi':=h.lt i (by rw[hi];simp)
   have h1:i≠b:=fun e1=>by subst e1;rw[h.net] at hi;cases hi
   have h3:i≠g:=fun e1=>by
    subst e1;rcases hgr with⟨h3,_⟩ | h3
    ·rw[h3] at hi;cases hi
    ·omega
   exact⟨(hWk i h1).trans (hkeep i hi' h3),hrole i hi'⟩
  ·refine⟨.slice (some ⟨g,0,none⟩) (m+1) cap,?_,?_,fun g' hg'=>?_⟩
   ·rw[hW];exact mP0 w2 _ _ (pA hb2 hl)
   ·have:((σ.cl d).log++[en]).length=m+1:=by simp[hmlen]
    rw[this,List.flatMap_append];simp only[tP0,List.flatMap_nil,List.append_nil];obtain⟨a1,a2⟩:=gown;refine⟨a1,?_⟩;rcases a2 with⟨a2,_⟩ | ⟨g',cap',cur,a3,a4,a5,a6⟩
    ·cases a2
    ·cases a3
     exact Or.inr ⟨g,cap,cur,rfl,a4,(hWk g (Ne.symm hgb)).trans a5,a6⟩
   ·cases hg'
    simp[iA]
 ·left
  exact⟨by simp only[Net.setCl,kA _ _ ed],fun o _ _=>by omega,fun k'=>by simp,by simp only[reduceCtorEq,Role.log.injEq,false_or];exact ed⟩
theorem loseX {w:World}{b:Nat}{ρ:zA}{σ:Net}(h:XN w b ρ σ){c k:Nat}(hc:c<4)(hk:k<2){mo:Int}(hmo:0<mo)(hu:(σ.cl c).used k=true)(hlen:(σ.cl c).log.length<2199023255552):
  Calls Tryz.prog 72 #[.pointer (some ⟨b,86+c*31,none⟩),.agg #[int k,int mo,int 0,int 0,int 0,int 0,int 0,int 0]] w fun r w'=>r=.returned (.tuple #[])∧
   ∃ρ',XN w' b ρ' (σ.lose (2*c+k) mo)∧Mv (eB c k) ρ ρ' w w'∧Front b w w':=by
 have C:=h.cli c hc;obtain⟨vl,hl1,hl2⟩:=C.log;have hused:=C.used k hk;rw[hu] at hused;have h2c:(2*c+k)/2=c:=by omega
 have h2k:(2*c+k)%2=k:=by omega
 refine(kG0 b (86+c*31) k (σ.cl c).log.length mo vl _ w hk hused h.fr hmo hl1 hl2.1 hlen ?_).mono ?_
 ·intro hx;have:=hl2.2 b hx;rw[h.net] at this;cases this
 ·rintro r w' ⟨rfl,w1,w2,g,cap,t1,hg,rfl⟩
  obtain⟨r1,r2,r3⟩:=h.logged (en:=iX k mo) hc hl1 hl2 rfl t1 hg;refine⟨rfl,_,?_,r2.mono (fun r hr=>hr.elim Or.inl (fun e=>Or.inr (Or.inr e))),r3⟩;have:σ.lose (2*c+k) mo=σ.setCl c {σ.cl c with log:=(σ.cl c).log++[iX k mo]}:=by
   simp only[Net.lose,h2c,h2k,Cli.lose,hmo,if_true,iX]
  rw[this];exact r1
theorem xT {k:Nat}:∀(l:List News) (i:Nat) (a:News),l[i]?=some a→∀j,j<8→(l.flatMap (rC k))[i*8+j]?=(rC k a)[j]?
 | [],i,a,h,_,_=>by simp at h
 | x::l,0,a,h,j,hj=>by
  simp at h;subst h
  simp only[tP0,Nat.zero_mul,sP0];rw[oO0 (by simp[rC,Ev.enc];omega)]
 | x::l,i+1,a,h,j,hj=>by
  simp at h
  simp only[tP0];have hl:(rC k x).length=8:=by simp[rC,Ev.enc]
  rw[nO0 (by rw[hl];omega),hl];have:=xT (k:=k) l i a h j hj;rw[show (i+1)*8+j-8=i*8+j by omega];exact this
abbrev xR (b c:Nat):Value:=.func (.func 72) #[.pointer (some ⟨b,86+c*31,none⟩)] #[]
structure CanTell (σ:Net)(c k:Nat)(l:List News):Prop where
 used:(σ.cl c).used k=true
 ris:Rising ((σ.cl c).told k)
 ok:∀e,e∈l→e.ok
 log:(σ.cl c).log.length+l.length<2199023255552
 told:((σ.cl c).told k).length+l.length<2199023255552
theorem CanTell.tell {σ:Net}{c k:Nat}(hk:k<2){e:News}{l:List News}(h:CanTell σ c k (e::l)):CanTell (σ.tell (2*c+k) e) c k l:=by
 have h2c:(2*c+k)/2=c:=by omega
 have h2k:(2*c+k)%2=k:=by omega
 have hcl:(σ.tell (2*c+k) e).cl c=(σ.cl c).tell k e:=by simp[Net.tell,Net.setCl,h2c,h2k]
 obtain⟨h1,h2,h3,h4,h5⟩:=h;have he:=h3 e (lO0 ..);simp only[gO0] at h4 h5;refine⟨?_,?_,fun o ho=>h3 o (kO0 _ ho),?_,?_⟩
 ·rw[hcl];unfold Cli.tell;split<;>exact h1
 ·rw[hcl];unfold Cli.tell;split
  ·exact h2
  ·rename_i ho
   simp only[put_same];exact h2.snoc he.2.2.1 (by simpa using ho)
 ·rw[hcl];unfold Cli.tell;split
  ·omega
  ·simp;omega
 ·rw[hcl];unfold Cli.tell;split
  ·omega
  ·simp;omega
theorem CanTell.tells {c k:Nat}(hk:k<2):∀(l:List News) {σ:Net} {m:List News},CanTell σ c k (l++m)→CanTell (σ.tells (2*c+k) l) c k m
 | [],_,_,h=>h
 | _::l,_,_,h=>CanTell.tells hk l (h.tell hk)
theorem kG (σ:Net)(s:Nat)(l:List News)(e:News):σ.tells s (l++[e])=(σ.tells s l).tell s e:=by simp[Net.tells,List.foldl_append]
theorem zL (σ:Net)(s:Nat){mo:Int}(h:¬0<mo):σ.lose s mo=σ:=by
 have:put σ.cl (s/2) (σ.cl (s/2))=σ.cl:=by funext j;simp only[put];split<;>simp_all
 simp only[Net.lose,Cli.lose,if_neg h,Net.setCl,this]
set_option maxRecDepth 100000 in
set_option maxHeartbeats 1000000 in
theorem oS {w:World}{b:Nat}{ρ:zA}{σ:Net}(h:XN w b ρ σ){c k n sc:Nat}{sa:Option Addr}(hc:c<4)(hk:k<2){l:List News}{mo:Int}(hmo:¬0<mo){r:Role}(hr:r≠.net∧(∀c k,r≠.map c k)∧∀c,r≠.log c)(hrow:RowAt w ρ r 181 8 n (l.flatMap (rC k)) (.slice sa n sc))(hn:n=l.length)(hC:CanTell σ c k l):
    Calls Tryz.prog 99 #[.agg #[.slice sa n sc,int mo],int k,xR b c] w fun e w'=>e=.returned (.tuple #[])∧∃ρ',XN w' b ρ' (σ.tells (2*c+k) l)∧Mv (eB c k) ρ ρ' w w'∧Front b w w':=by
  have hcells:∀j e,l[j]?=some e→∃g,sa=some ⟨g,0,none⟩∧ρ g=some r∧∀i u,(rC k e)[i]?=some u→w.cell? ⟨g,j*8+i,none⟩=some u:=fun j e hj=>by
    rcases hrow.1.2 with⟨e1,e0⟩ | ⟨g,cap,cur,e1,_⟩
    · exfalso
      have:=(rO0.1 hj).1;omega
    · have hsa:sa=some ⟨g,0,none⟩:=by cases e1;rfl
      refine⟨g,hsa,hrow.2 g (by rw[hsa];rfl),fun i u hu=>?_⟩;have hi:i<8:=by have:=(rO0.1 hu).1;simpa[rC,Ev.enc] using this
      have:=World.ownsRow.cells hrow.1 (g:=g) (by rw[hsa];rfl) (j*8+i) u (by rw[xT l j e hj i hi];exact hu);rw[gP0,sP0] at this;exact this
  have hlen:n<2199023255552:=by have:=hC.log;omega
  have HX:=uA h;have HCE:=uA hcells;have HC:=uA hC;have HR:=uA hr;have HN:=uA hn;clear h hcells hC hrow hr hn;go_enter Tryz.func99,Tryz.ntmps99
  go_wp2;obtain⟨W,hW⟩:∃W,w.alloc (.cells #[.slice sa n sc,int mo] 140)=W:=⟨_,rfl⟩
  rw[hW];have hcal:qA w W:=by rw[←hW];exact(cP0 _ _).alloc _
  have HX1:=uA ((yA HX).calm hcal);have HM1:Hid (Mv (eB c k) ρ ρ w W):=zQ0 (yA HX).lt hcal;have HF1:Hid (Front b w W):=vQ0 hcal;clear hcal hW;go_loopw [20] (fun p wr=>∃j:Nat,j≤n∧p=int j∧∃ρ',XN wr b ρ' (σ.tells (2*c+k) (l.take j))∧Mv (eB c k) ρ ρ' w wr∧Front b w wr) (fun p _=>n-(intOf p).toNat)
  case atStart=>exact⟨0,by omega,rfl,ρ,by simpa[Net.tells] using yA HX1,yA HM1,yA HF1⟩
  case round=>
    obtain⟨j,hj,rfl,ρ',hXj,hMj,hFj⟩:=hrel;by_cases hlt:j<n
    · have hlti:(j:Int)<n:=by omega
      obtain⟨e,he⟩:∃e,l[j]?=some e:=⟨l[j]'(by have:=yA HN;omega),pO0 _⟩;obtain⟨g,hsa,hrg,hcl⟩:=yA HCE j e he;have hblk:=hMj.keeps (yA HX).lt hrg (by obtain⟨h1,h2,h3⟩:=yA HR;simp only[eB,not_or];exact⟨h1,h2 c k,h3 c⟩);have hgl:g<w.heap.size:=(yA HX).lt g (by rw[hrg];simp)
      have hglr:g<wr.heap.size:=sO0 hgl hMj.touch.size;subst hsa;have n0:wr.cell? ⟨g,j*8,none⟩=some (int k):=pA hblk.1 (hcl 0 _ rfl);have n1:wr.cell? ⟨g,j*8+1,none⟩=some (int 0):=pA hblk.1 (hcl 1 _ rfl);have n2:wr.cell? ⟨g,j*8+2,none⟩=some (int e.ev.pub):=pA hblk.1 (hcl 2 _ rfl);have n3:wr.cell? ⟨g,j*8+3,none⟩=some (int e.ev.num):=pA hblk.1 (hcl 3 _ rfl);have n4:wr.cell? ⟨g,j*8+4,none⟩=some (int e.ev.f0):=pA hblk.1 (hcl 4 _ rfl);have n5:wr.cell? ⟨g,j*8+5,none⟩=some (int e.ev.f1):=pA hblk.1 (hcl 5 _ rfl);have n6:wr.cell? ⟨g,j*8+6,none⟩=some (int e.ev.f2):=pA hblk.1 (hcl 6 _ rfl);have n7:wr.cell? ⟨g,j*8+7,none⟩=some (int e.stay):=pA hblk.1 (hcl 7 _ rfl);have hsplit:l=l.take j++e::l.drop (j+1):=by
        have h1:l.drop j=e::l.drop (j+1):=by
          obtain⟨hl,rfl⟩:=rO0.1 he;exact List.drop_eq_getElem_cons hl
        rw[←h1,List.take_append_drop]
      have hC2:=CanTell.tells (c:=c) (k:=k) hk (l.take j) (σ:=σ) (m:=e::l.drop (j+1)) (by rw[←hsplit];exact yA HC);have htk:l.take (j+1)=l.take j++[e]:=by
        obtain⟨hl,rfl⟩:=rO0.1 he;exact(List.take_append_getElem hl).symm
      have HX2:=uA hXj;have HM2:=uA hMj;have HF2:=uA hFj;have HC2:=uA hC2;have HTK:=uA htk;clear hXj hMj hFj hC2 hblk hcl hsplit htk he
      go_wp2_with (go_at_call 72;refine(aI0 (c:=c) (k:=k) (e:=e) ((yA HX2).calm ((cP0 _ _).alloc _)) hc hk ((yA HC2).ok e (lO0 ..)) (yA HC2).used (yA HC2).ris (by have:=(yA HC2).log;simp at this;omega) (by have:=(yA HC2).told;simp at this;omega)).mono ?_;rintro q w3 ⟨rfl,ρ3,h3,m3,_,_,_,f3⟩
                   have HX3:=uA h3;have HM3:=uA (((yA HM2).trans (zQ0 (yA HX2).lt ((cP0 _ _).alloc _))).trans m3);have HF3:=uA (((yA HF2).trans (vQ0 ((cP0 _ _).alloc _))).trans f3)
                   clear h3 m3 f3)
      go_roundw
      case rel=>exact⟨j+1,by omega,by go_num,ρ3,by rw[yA HTK,kG];exact yA HX3,yA HM3,yA HF3⟩
      case measure=>simp[intOf];omega
    · have hlti:¬(j:Int)<n:=by omega
      have hje:l.take j=l:=List.take_of_length_le (by have:=yA HN;omega);have HX2:=uA hXj;have HM2:=uA hMj;have HF2:=uA hFj;clear hXj hMj hFj;go_wp2;go_end0
      exact⟨rfl,ρ',by rw[←hje];exact yA HX2,yA HM2,yA HF2⟩
set_option maxRecDepth 100000 in
set_option maxHeartbeats 1000000 in
theorem pU {w:World}{b:Nat}{ρ:zA}{σ:Net}(h:XN w b ρ σ){c k n sc:Nat}{sa:Option Addr}(hc:c<4)(hk:k<2){l:List News}{mo:Int}(hmo:0<mo){r:Role}(hr:r≠.net∧(∀c k,r≠.map c k)∧∀c,r≠.log c)(hrow:RowAt w ρ r 181 8 n (l.flatMap (rC k)) (.slice sa n sc))(hn:n=l.length)(hC:CanTell (σ.lose (2*c+k) mo) c k l):
    Calls Tryz.prog 99 #[.agg #[.slice sa n sc,int mo],int k,xR b c] w fun e w'=>e=.returned (.tuple #[])∧∃ρ',XN w' b ρ' ((σ.lose (2*c+k) mo).tells (2*c+k) l)∧Mv (eB c k) ρ ρ' w w'∧Front b w w':=by
  have hcells:∀j e,l[j]?=some e→∃g,sa=some ⟨g,0,none⟩∧ρ g=some r∧∀i u,(rC k e)[i]?=some u→w.cell? ⟨g,j*8+i,none⟩=some u:=fun j e hj=>by
    rcases hrow.1.2 with⟨e1,e0⟩ | ⟨g,cap,cur,e1,_⟩
    · exfalso
      have:=(rO0.1 hj).1;omega
    · have hsa:sa=some ⟨g,0,none⟩:=by cases e1;rfl
      refine⟨g,hsa,hrow.2 g (by rw[hsa];rfl),fun i u hu=>?_⟩;have hi:i<8:=by have:=(rO0.1 hu).1;simpa[rC,Ev.enc] using this
      have:=World.ownsRow.cells hrow.1 (g:=g) (by rw[hsa];rfl) (j*8+i) u (by rw[xT l j e hj i hi];exact hu);rw[gP0,sP0] at this;exact this
  have hlen:n<2199023255552:=by have:=hC.log;omega
  have hlu:(σ.cl c).used k=true∧(σ.cl c).log.length<2199023255552:=by
    have h1:=hC.used;have h2:=hC.log;have h2c:(2*c+k)/2=c:=by omega
    have hcl:(σ.lose (2*c+k) mo).cl c=(σ.cl c).lose ((2*c+k)%2) mo:=by simp[Net.lose,Net.setCl,h2c]
    rw[hcl] at h1 h2;simp only[Cli.lose,hmo,if_true,hO0,gO0,List.length_nil] at h1 h2;exact⟨h1,by omega⟩
  have hnr:ρ w.heap.size=none:=by
    cases hq:ρ w.heap.size with
    | none=>rfl
    | some r=>have:=h.lt w.heap.size (by rw[hq];simp);omega
  have HX:=uA h;have HCE:=uA hcells;have HC:=uA hC;have HR:=uA hr;have HN:=uA hn;clear h hcells hC hrow hr hn;have HNR:=uA hnr;have HLU:=uA hlu;clear hnr hlu;go_enter Tryz.func99,Tryz.ntmps99
  go_wp2_with (first
    | (go_at_call 119;refine(tU _ _ _).mono ?_;rintro q w1 ⟨rfl,ht1⟩
       have hbx:=ht1.box id;have HX1:=uA ((yA HX).calm (((cP0 _ _).alloc _).calm ht1));have HM1:Hid (Mv (eB c k) ρ ρ w w1):=zQ0 (yA HX).lt (((cP0 _ _).alloc _).calm ht1);have HF1:Hid (Front b w w1):=vQ0 (((cP0 _ _).alloc _).calm ht1);have HBX:=uA hbx;have hsz1:w.heap.size<w1.heap.size:=(tO0.1 hbx).1
       clear hbx ht1)
    | (go_at_call 72;refine(loseX (yA HX1) hc hk hmo (yA HLU).1 (yA HLU).2).mono ?_;rintro q w2 ⟨rfl,ρ2,h2,m2,f2⟩
       have hbx2:w2.heap[w.heap.size]?=some (.cells #[.slice sa n sc,int mo] 140):=(m2.touch.block w.heap.size hsz1 (fun ⟨q,hq,_⟩=>by rw[yA HNR] at hq;cases hq)).trans (yA HBX)
       have q0:w2.cell? ⟨w.heap.size,0,none⟩=some (.slice sa n sc):=xA hbx2 0;have HX2:=uA h2;have HM2:=uA ((yA HM1).trans m2);have HF2:=uA ((yA HF1).trans f2)
       clear h2 m2 f2 hbx2 HX1 HM1 HF1 HBX))
  go_loopw [20] (fun p wr=>∃j:Nat,j≤n∧p=int j∧∃ρ',XN wr b ρ' ((σ.lose (2*c+k) mo).tells (2*c+k) (l.take j))∧Mv (eB c k) ρ ρ' w wr∧Front b w wr) (fun p _=>n-(intOf p).toNat)
  case atStart=>exact⟨0,by omega,rfl,ρ2,by simpa[Net.tells] using yA HX2,yA HM2,yA HF2⟩
  case round=>
    obtain⟨j,hj,rfl,ρ',hXj,hMj,hFj⟩:=hrel;clear HX2 HM2 HF2 q0;by_cases hlt:j<n
    · have hlti:(j:Int)<n:=by omega
      obtain⟨e,he⟩:∃e,l[j]?=some e:=⟨l[j]'(by have:=yA HN;omega),pO0 _⟩;obtain⟨g,hsa,hrg,hcl⟩:=yA HCE j e he;have hblk:=hMj.keeps (yA HX).lt hrg (by obtain⟨h1,h2,h3⟩:=yA HR;simp only[eB,not_or];exact⟨h1,h2 c k,h3 c⟩);have hgl:g<w.heap.size:=(yA HX).lt g (by rw[hrg];simp)
      have hglr:g<wr.heap.size:=sO0 hgl hMj.touch.size;subst hsa;have n0:wr.cell? ⟨g,j*8,none⟩=some (int k):=pA hblk.1 (hcl 0 _ rfl);have n1:wr.cell? ⟨g,j*8+1,none⟩=some (int 0):=pA hblk.1 (hcl 1 _ rfl);have n2:wr.cell? ⟨g,j*8+2,none⟩=some (int e.ev.pub):=pA hblk.1 (hcl 2 _ rfl);have n3:wr.cell? ⟨g,j*8+3,none⟩=some (int e.ev.num):=pA hblk.1 (hcl 3 _ rfl);have n4:wr.cell? ⟨g,j*8+4,none⟩=some (int e.ev.f0):=pA hblk.1 (hcl 4 _ rfl);have n5:wr.cell? ⟨g,j*8+5,none⟩=some (int e.ev.f1):=pA hblk.1 (hcl 5 _ rfl);have n6:wr.cell? ⟨g,j*8+6,none⟩=some (int e.ev.f2):=pA hblk.1 (hcl 6 _ rfl);have n7:wr.cell? ⟨g,j*8+7,none⟩=some (int e.stay):=pA hblk.1 (hcl 7 _ rfl);have hsplit:l=l.take j++e::l.drop (j+1):=by
        have h1:l.drop j=e::l.drop (j+1):=by
          obtain⟨hl,rfl⟩:=rO0.1 he;exact List.drop_eq_getElem_cons hl
        rw[←h1,List.take_append_drop]
      have hC2:=CanTell.tells (c:=c) (k:=k) hk (l.take j) (σ:=σ.lose (2*c+k) mo) (m:=e::l.drop (j+1)) (by rw[←hsplit];exact yA HC);have htk:l.take (j+1)=l.take j++[e]:=by
        obtain⟨hl,rfl⟩:=rO0.1 he;exact(List.take_append_getElem hl).symm
      have HX2:=uA hXj;have HM2:=uA hMj;have HF2:=uA hFj;have HC2:=uA hC2;have HTK:=uA htk;clear hXj hMj hFj hC2 hblk hcl hsplit htk he
      go_wp2_with (go_at_call 72;refine(aI0 (c:=c) (k:=k) (e:=e) ((yA HX2).calm ((cP0 _ _).alloc _)) hc hk ((yA HC2).ok e (lO0 ..)) (yA HC2).used (yA HC2).ris (by have:=(yA HC2).log;simp at this;omega) (by have:=(yA HC2).told;simp at this;omega)).mono ?_;rintro q w3 ⟨rfl,ρ3,h3,m3,_,_,_,f3⟩
                   have HX3:=uA h3;have HM3:=uA (((yA HM2).trans (zQ0 (yA HX2).lt ((cP0 _ _).alloc _))).trans m3);have HF3:=uA (((yA HF2).trans (vQ0 ((cP0 _ _).alloc _))).trans f3)
                   clear h3 m3 f3)
      go_roundw
      case rel=>exact⟨j+1,by omega,by go_num,ρ3,by rw[yA HTK,kG];exact yA HX3,yA HM3,yA HF3⟩
      case measure=>simp[intOf];omega
    · have hlti:¬(j:Int)<n:=by omega
      have hje:l.take j=l:=List.take_of_length_le (by have:=yA HN;omega);have HX2:=uA hXj;have HM2:=uA hMj;have HF2:=uA hFj;clear hXj hMj hFj;go_wp2;go_end0
      exact⟨rfl,ρ',by rw[←hje];exact yA HX2,yA HM2,yA HF2⟩
theorem xH0 {w:World}{b:Nat}{ρ:zA}{σ:Net}(h:XN w b ρ σ){c k n sc:Nat}{sa:Option Addr}(hc:c<4)(hk:k<2){l:List News}{mo:Int}{r:Role}(hr:r≠.net∧(∀c k,r≠.map c k)∧∀c,r≠.log c)(hrow:RowAt w ρ r 181 8 n (l.flatMap (rC k)) (.slice sa n sc))(hn:n=l.length)(hC:CanTell (σ.lose (2*c+k) mo) c k l):
  Calls Tryz.prog 99 #[.agg #[.slice sa n sc,int mo],int k,xR b c] w fun e w'=>e=.returned (.tuple #[])∧∃ρ',XN w' b ρ' ((σ.lose (2*c+k) mo).tells (2*c+k) l)∧Mv (eB c k) ρ ρ' w w'∧Front b w w':=by
 by_cases hmo:0<mo
 ·exact pU h hc hk hmo hr hrow hn hC
 ·rw[zL σ _ hmo] at hC ⊢;exact oS h hc hk hmo hr hrow hn hC
end Go.Proofs.YtodfcpblcpogiaaGreat

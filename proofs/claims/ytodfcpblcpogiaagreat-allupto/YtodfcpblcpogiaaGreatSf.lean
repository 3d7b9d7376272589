import Derived.Test.YtodfcpblcpogiaaGreatSc
import Derived.Test.YtodfcpblcpogiaaGreatPend
namespace Go.Proofs.YtodfcpblcpogiaaGreat
open Go.RowKit
theorem RX.client' {w w':World}{b o:Nat}{ρ ρ':zA}{R:RNet}(h:RX w b ρ R){r:Role}{t sz k c:Nat}{all:List Value}(G:Grown w w' b o ρ ρ' r t sz k all)(ho:3+c*13≤o∧o<3+c*13+13)(hc:c<4)(hr:r=.log c∨∃j,r=.map c j){x:Cli}(hx:ClC w' ρ' b c x):RX w' b ρ' (R.setCl c x):=by
 have z:∀q:Role,q≠.net→q≠r→¬(q=.net∨q=r):=fun q h1 h2 h3=>h3.elim h1 h2;have zf:∀q:Role,(∀d,q≠.log d)→(∀d j,q≠.map d j)→q≠r:=fun q h1 h2 e=>by
  rcases hr with e1 | ⟨j,e1⟩
  ·exact h1 c (e.trans e1)
  ·exact h2 c j (e.trans e1)
 obtain⟨pb,po,cap,p0,p1,p2⟩:=h.pars;obtain⟨v1,g1,g2⟩:=h.frames;obtain⟨v2,f1,f2⟩:=h.facts;refine⟨G.net,G.typ,G.fr,G.mv.lt,⟨pb,po,cap,G.cell _ _ (by omega) p0,?_,fun i hi=>?_⟩,⟨v1,G.cell _ _ (by omega) g1,?_⟩,⟨v2,G.cell _ _ (by omega) f1,?_⟩,fun d hd=>?_,G.cell _ _ (by omega) h.closed⟩
 ·exact G.mv.stay p1 (z _ (by simp) (zf _ (by simp) (by simp))) (h.lt pb (by rw[p1];simp))
 ·exact G.mv.cellZ p1 (z _ (by simp) (zf _ (by simp) (by simp))) (p2 i hi)
 ·exact G.mv.pieces g2 (z _ (by simp) (zf _ (by simp) (by simp))) (fun a cs _ hF=>G.mv.frC hF (z _ (by simp) (zf _ (by simp) (by simp))) (z _ (by simp) (zf _ (by simp) (by simp))))
 ·exact G.mv.pieces f2 (z _ (by simp) (zf _ (by simp) (by simp))) (fun a cs _ hF=>G.mv.faC hF (z _ (by simp) (zf _ (by simp) (by simp))) (z _ (by simp) (zf _ (by simp) (by simp))))
 ·by_cases e:d=c
  ·subst e;show ClC w' ρ' b d (put R.cl d x d)
   rw[put_same];exact hx
  ·show ClC w' ρ' b d (put R.cl c x d)
   rw[kA _ _ e];refine G.mv.clK (h.cl d hd) (fun o' v h1 h2 hv=>G.cell o' v (by omega) hv) (z _ (by simp) (zf _ (by simp) (by simp))) (fun j=>z _ (by simp) (fun e1=>?_)) (z _ (by simp) (fun e1=>?_))
   ·rcases hr with e2 | ⟨j',e2⟩
    ·rw[e2] at e1;cases e1
    ·rw[e2] at e1;cases e1;exact e rfl
   ·rcases hr with e2 | ⟨j',e2⟩
    ·rw[e2] at e1;cases e1;exact e rfl
    ·rw[e2] at e1;cases e1
theorem RX.logged {w w1 w2:World}{b:Nat}{ρ:zA}{R:RNet}(h:RX w b ρ R){c:Nat}(hc:c<4){en:Ent}{g cap:Nat}{vl:Value}(hl:w.cell? ⟨b,3+c*13+12,none⟩=some vl)(hrow:RowAt w ρ (.log c) 74 7 (R.cl c).log.length ((R.cl c).log.flatMap Ent.enc) vl)
  (t1:qA w w1) (hg:xF 0 74 7 vl ((R.cl c).log.length+1) ((R.cl c).log.flatMap Ent.enc++en.enc) w1 g cap w2):
  RX (w2.setCell ⟨b,3+c*13+12,none⟩ (.slice (some ⟨g,0,none⟩) ((R.cl c).log.length+1) cap)) b (iA ρ g (.log c)) (R.setCl c {R.cl c with log:=(R.cl c).log++[en]})∧Mv (fun z=>z=.net∨z=.log c) ρ (iA ρ g (.log c)) w (w2.setCell ⟨b,3+c*13+12,none⟩ (.slice (some ⟨g,0,none⟩) ((R.cl c).log.length+1) cap)):=by
 have G:=yQ h (by simp) hl hrow t1 hg;refine⟨h.client' G (by omega) hc (Or.inl rfl) ?_,G.mv⟩;have C:=h.cl c hc;refine⟨G.cell _ _ (by omega) C.here,G.cell _ _ (by omega) C.home,fun k hk=>G.cell _ _ (by omega) (C.used k hk),fun k hk=>G.cell _ _ (by omega) (C.age k hk),fun k hk=>?_,fun k hk=>?_,G.cell _ _ (by omega) C.stays,G.cell _ _ (by omega) C.many,?_⟩
 ·obtain⟨v,h1,h2,h3⟩:=C.fil k hk;exact⟨v,G.cell _ _ (by omega) h1,fun hu=>G.mv.fl (h2 hu) (by simp),h3⟩
 ·obtain⟨v,h1,h2⟩:=C.told k hk;exact⟨v,G.cell _ _ (by omega) h1,G.mv.rowZ h2 (by simp)⟩
 ·obtain⟨v,h1,h2⟩:=G.row;refine⟨v,h1,?_⟩;simp only[hO0,gO0,List.length_nil,List.flatMap_append,tP0,List.flatMap_nil,List.append_nil];exact h2
set_option maxRecDepth 100000 in
set_option maxHeartbeats 2000000 in
theorem bL (b c k m:Nat)(mo:Int)(vl:Value)(cells:List Value)(w:World)(hc:c<4)(hk:k<2)(hfr:∀o,w.frozen? ⟨b,o,none⟩=false)(hmo:0<mo)
  (hl:w.cell? ⟨b,3+c*13+12,none⟩=some vl) (hrow:w.ownsRow 0 74 7 vl m cells) (hmm:m<2199023255552) (hvb:vl.ownBlock≠some b):
  Calls Tryz.prog 40 #[.pointer (some ⟨b,0,none⟩),int (2*c+k:Nat),int mo] w fun e w'=>e=.returned (.tuple #[])∧
   ∃w1 w2 g cap,qA w w1∧xF 0 74 7 vl (m+1) (cells++[int k,int mo,int 0,int 0,int 0,int 0,int 0]) w1 g cap w2∧w'=w2.setCell ⟨b,3+c*13+12,none⟩ (.slice (some ⟨g,0,none⟩) (m+1) cap):=by
 have hb:=fP0 hl;simp only at hb;have hci:(c:Int)<4:=by omega
 have hki:(k:Int)<2:=by omega
 have hq:((2*c+k:Nat):Int).tdiv 2=c:=by rw[Int.tdiv_eq_ediv_of_nonneg (by omega)];omega
 have hr:((2*c+k:Nat):Int).tmod 2=k:=by rw[Int.tmod_eq_emod_of_nonneg (by omega)];omega
 obtain⟨S,hS⟩:∃S:Int,S=((2*c+k:Nat):Int):=⟨_,rfl⟩;rw[←hS] at hq hr ⊢;have hS8:0≤S∧S<8:=by omega
 clear hS;obtain⟨hS0,hS1⟩:=hS8;obtain⟨ti,i3,z3,s3,b3⟩:=tT;have I3:=uA i3;have Z3:=uA z3;have S3:=uA s3;have B3:=uA b3;have HRW:=uA hrow;have HFZ:=uA hfr;clear i3 z3 s3 b3 hfr hrow;have hone:vl.oneCell'=true:=by
  rcases(yA HRW).2 with⟨rfl,_⟩ | ⟨g,cap,cur,rfl,_⟩<;>rfl
 go_enter Tryz.func40,Tryz.ntmps40
 go_wp2_with (at_builtin;refine pB _ rfl _ _ 70 rfl 0 74 ti (.agg #[int 0,int 0,int 0,int 0,int 0,int 0,int 0]) 7 56 Tryz.underlying70 (yA I3) (yA Z3) (yA S3) (yA B3) rfl (by decide) vl m cells rfl (eA (yA HRW) ((cP0 (fun _=>False) _).alloc _) (fun _ _ f=>f)) ⟨w.heap.size,0,none⟩ 1 1 [int k,int mo,int 0,int 0,int 0,int 0,int 0] rfl rfl ?news ?one (by decide) ?h63 ?bytes ?base ?_)
 case news=>exact fun j u hj=>yC w [int k,int mo,int 0,int 0,int 0,int 0,int 0] 74 j u hj
 case one=>intro u hu;simp at hu;rcases hu with rfl | rfl | rfl<;>rfl
 case h63=>unfold maxLen;omega
 case bytes=>omega
 case base=>simp
 intro g2 cp2 w2 hg2;have hne:¬b=g2:=by
  rcases hg2.2.1 with⟨h,_⟩ | ⟨h,_⟩
  ·intro e;exact hvb (by rw[h,e])
  ·simp at h;omega
 have ht2:Touch (fun i=>i=g2) w w2:=by
  rcases hg2.2.1 with⟨_,h⟩ | ⟨_,h⟩
  ·exact bP0 ((cP0 _ _).alloc _) h
  ·exact((cP0 (fun i=>i=g2) w).alloc _).calm h
 have dl2:w2.cell? ⟨b,3+c*13+12,none⟩=some vl:=ht2.cell (p:=⟨b,3+c*13+12,none⟩) hne hl;have fz2:w2.frozen? ⟨b,3+c*13+12,none⟩=false:=(nP0 (w:=w) (a:=⟨b,3+c*13+12,none⟩) (ht2.block b hb hne)).trans (yA HFZ _);have HG2:=uA hg2;clear hg2 ht2;go_wp2;go_end0
 exact⟨rfl,_,w2,g2,cp2,(cP0 (fun _=>False) w).alloc _,yA HG2,rfl⟩
theorem zM (b:Nat)(s:Int)(mo:Int)(w:World)(hmo:mo≤0):Calls Tryz.prog 40 #[.pointer (some ⟨b,0,none⟩),int s,int mo] w fun e w'=>e=.returned (.tuple #[])∧w'=w:=by
 go_enter Tryz.func40,Tryz.ntmps40
 go_wp2;go_end0
 exact⟨rfl,rfl⟩
def RNet.lose (R:RNet)(s:Nat)(m:Int):RNet:=R.setCl (s/2) ((R.cl (s/2)).lose (s%2) m)
theorem yK0 {R:RNet}(s:Nat)(m:Int):(R.lose s m).net=R.net.lose s m:=rfl
theorem mI (R:RNet)(c:Nat):R.setCl c (R.cl c)=R:=by
 have:put R.cl c (R.cl c)=R.cl:=by funext d;unfold put;split<;>simp_all
 unfold RNet.setCl;rw[this]
theorem tK0 {w:World}{b:Nat}{ρ:zA}{R:RNet}(h:RX w b ρ R){c k:Nat}(hc:c<4)(hk:k<2)(mo:Int)(hn:(R.cl c).log.length<2199023255552):
  Calls Tryz.prog 40 #[.pointer (some ⟨b,0,none⟩),int (2*c+k:Nat),int mo] w fun e w'=>e=.returned (.tuple #[])∧∃ρ',RX w' b ρ' (R.lose (2*c+k) mo)∧Mv (eB c k) ρ ρ' w w':=by
 have h2c:(2*c+k)/2=c:=by omega
 have h2k:(2*c+k)%2=k:=by omega
 unfold RNet.lose Cli.lose;rw[h2c,h2k];by_cases hmo:0<mo
 ·rw[if_pos hmo];obtain⟨vl,g1,g2⟩:=(h.cl c hc).log;have hvb:vl.ownBlock≠some b:=fun e=>by have:=g2.2 b e;rw[h.net] at this;cases this
  refine(bL b c k (R.cl c).log.length mo vl _ w hc hk h.fr hmo g1 g2.1 hn hvb).mono ?_;rintro e w' ⟨rfl,w1,w2,g,cap,t1,hg,rfl⟩
  have:=h.logged hc (en:=⟨k,mo,Ev.zero⟩) g1 g2 t1 hg;exact⟨rfl,_,this.1,this.2.mono (fun r hr=>by rcases hr with e | e<;>simp[eB,e])⟩
 ·rw[if_neg hmo,mI];refine(zM b _ mo w (by omega)).mono ?_;rintro e w' ⟨rfl,rfl⟩
  exact⟨rfl,ρ,h,aP0 h.lt⟩
theorem mY:bO 129 (.agg #[int 0,int 0,int 0,int 0,int 0,int 0]) 6 48:=vE (by kernel_rfl)
def NewsAt (w:World)(v:Value)(l:List News):Prop:=∃a cap,v=.slice a l.length cap∧∀(i:Nat) (o:News),l[i]?=some o→∃g,a=some ⟨g,0,none⟩∧w.cell? ⟨g,i*6,none⟩=some (int o.ev.pub)∧w.cell? ⟨g,i*6+1,none⟩=some (int o.ev.num)∧w.cell? ⟨g,i*6+2,none⟩=some (int o.ev.f0)∧w.cell? ⟨g,i*6+3,none⟩=some (int o.ev.f1)∧w.cell? ⟨g,i*6+4,none⟩=some (int o.ev.f2)∧w.cell? ⟨g,i*6+5,none⟩=some (int o.stay)
theorem NewsRow.cells {w:World}{ρ:zA}{r:Role}{l:List News}{v:Value}(h:NewsRow w ρ r l v):NewsAt w v l:=by
 have hP:PiecesAt w ρ r 129 6 (fun (o:News) cs=>cs=o.encR) l v:=⟨l.map News.encR,by simp,by rw[←List.flatMap_def];exact h,fun i a cs ha hc=>by
  rw[List.getElem?_map,ha] at hc;simpa using hc.symm⟩
 obtain⟨a,cap,e⟩:=hP.slice;refine⟨a,cap,e,fun i o ho=>?_⟩;obtain⟨g,cap',cs,e',_,hcs,hcell⟩:=hP.at (fun a cs hc=>by subst hc;rfl) ho;rw[e] at e';cases e'
 subst hcs;exact⟨g,rfl,hcell 0 _ rfl,hcell 1 _ rfl,hcell 2 _ rfl,hcell 3 _ rfl,hcell 4 _ rfl,hcell 5 _ rfl⟩
theorem NewsAt.calm {w w':World}{v:Value}{l:List News}(h:NewsAt w v l)(t:qA w w'):NewsAt w' v l:=by
 obtain⟨a,cap,e,hc⟩:=h;refine⟨a,cap,e,fun i o ho=>?_⟩;obtain⟨g,h0,h1,h2,h3,h4,h5,h6⟩:=hc i o ho;have k:∀j u,w.cell? ⟨g,j,none⟩=some u→w'.cell? ⟨g,j,none⟩=some u:=fun j u hu=>t.cell (p:=⟨g,j,none⟩) id hu;exact⟨g,h0,k _ _ h1,k _ _ h2,k _ _ h3,k _ _ h4,k _ _ h5,k _ _ h6⟩
def bK (o e:News):Bool:=decide (o.ev.pub=e.ev.pub∧o.stay=e.stay∧e.ev.num≤o.ev.num)
set_option maxRecDepth 100000 in
set_option maxHeartbeats 4000000 in
theorem lL (b c k:Nat)(e:News)(told:List News)(m:Nat)(vt vl:Value)(tc lc:List Value)(w:World)(hc:c<4)(hk:k<2)(hfr:∀o,w.frozen? ⟨b,o,none⟩=false)
    (ht:w.cell? ⟨b,3+c*13+8+k,none⟩=some vt) (hta:NewsAt w vt told) (htr:w.ownsRow 0 129 6 vt told.length tc) (hvt:vt.ownBlock≠some b)
    (hl:w.cell? ⟨b,3+c*13+12,none⟩=some vl) (hrow:w.ownsRow 0 74 7 vl m lc) (hvl:vl.ownBlock≠some b) (hvv:∀g,vt.ownBlock=some g→vl.ownBlock≠some g) (hmm:m<2199023255552) (htm:told.length<2199023255552):
    Calls Tryz.prog 41 #[.pointer (some ⟨b,0,none⟩),int (2*c+k:Nat),.agg #[int e.ev.pub,int e.ev.num,int e.ev.f0,int e.ev.f1,int e.ev.f2,int e.stay]] w fun r w'=>r=.returned (.tuple #[])∧
      ((tE told e=true∧qA w w')∨(tE told e=false∧∃w1 w2 g cap w4 w5 g' cap',qA w w1∧xF 0 129 6 vt (told.length+1) (tc++e.encR) w1 g cap w2∧qA (w2.setCell ⟨b,3+c*13+8+k,none⟩ (.slice (some ⟨g,0,none⟩) (told.length+1) cap)) w4∧
        xF 0 74 7 vl (m+1) (lc++[int k,int 0,int e.ev.pub,int e.ev.num,int e.ev.f0,int e.ev.f1,int e.ev.f2]) w4 g' cap' w5∧w'=w5.setCell ⟨b,3+c*13+12,none⟩ (.slice (some ⟨g',0,none⟩) (m+1) cap'))):=by
  obtain⟨⟨p,num,f0,f1,f2⟩,st⟩:=e;have hb:=fP0 hl;simp only at hb;have hci:(c:Int)<4:=by omega
  have hki:(k:Int)<2:=by omega
  have hq:((2*c+k:Nat):Int).tdiv 2=c:=by rw[Int.tdiv_eq_ediv_of_nonneg (by omega)];omega
  have hr:((2*c+k:Nat):Int).tmod 2=k:=by rw[Int.tmod_eq_emod_of_nonneg (by omega)];omega
  obtain⟨S,hS⟩:∃S:Int,S=((2*c+k:Nat):Int):=⟨_,rfl⟩;rw[←hS] at hq hr ⊢;have hS8:0≤S∧S<8:=by omega
  clear hS;obtain⟨hS0,hS1⟩:=hS8;obtain⟨W,hW⟩:∃W,w.alloc (.cells #[int p,int num,int f0,int f1,int f2,int st] 129)=W:=⟨_,rfl⟩;have hcal:qA w W:=by rw[←hW];exact(cP0 _ _).alloc _
  have hb0:W.heap[w.heap.size]?=some (.cells #[int p,int num,int f0,int f1,int f2,int st] 129):=by rw[←hW];exact eP0 w _
  have c0:W.cell? ⟨w.heap.size,0,none⟩=some (int p):=xA hb0 0;have c1:W.cell? ⟨w.heap.size,1,none⟩=some (int num):=xA hb0 1;have c2:W.cell? ⟨w.heap.size,2,none⟩=some (int f0):=xA hb0 2;have c3:W.cell? ⟨w.heap.size,3,none⟩=some (int f1):=xA hb0 3;have c4:W.cell? ⟨w.heap.size,4,none⟩=some (int f2):=xA hb0 4;have c5:W.cell? ⟨w.heap.size,5,none⟩=some (int st):=xA hb0 5;have hta':=hta.calm hcal;obtain⟨a,cap,rfl,hnews⟩:=hta';have dt:=hcal.cell (p:=⟨b,3+c*13+8+k,none⟩) id ht;have dl:=hcal.cell (p:=⟨b,3+c*13+12,none⟩) id hl;have hbW:b<W.heap.size:=sO0 hb hcal.size;have hwW:w.heap.size<W.heap.size:=fP0 c0;have HB0:=uA hb0;have HNW:=uA hnews;have HFR:=uA hfr;have HTR:=uA (eA htr hcal (fun _ _ f=>f));have HRW:=uA (eA hrow hcal (fun _ _ f=>f));have HCAL:=uA hcal;have HVV:=uA hvv
  have HNB:=uA (show ∀g,(Value.slice a told.length cap).ownBlock=some g→g≠w.heap.size from fun g hg e=>by
    have:=dE htr g hg
    omega)
  have hn1:(told.length:Int)<2199023255552:=by omega
  clear hcal hb0 hnews hfr htr hrow hvv hta ht hl;obtain⟨B,hB⟩:∃B:Nat,told.length<B:=⟨told.length+1,by omega⟩;have HB:=uA hB;clear hB;go_enter Tryz.func41,Tryz.ntmps41
  go_wp2;go_loopw [8] (fun p' wr=>∃j:Nat,j≤told.length∧p'=int j∧(∀i o,i<j→told[i]?=some o→bK o ⟨⟨p,num,f0,f1,f2⟩,st⟩=false)∧qA W wr) (fun p' _=>B-(intOf p').toNat)
  case atStart=>exact⟨0,by omega,rfl,fun i o hi=>by omega,by rw[←hW];exact cP0 _ _⟩
  case round=>
    obtain⟨j,hj,rfl,hall,hwr⟩:=hrel;have HALL:=uA hall;have HWR:=uA hwr;have HTB:=uA dt;have HC0:=uA (And.intro c0 (And.intro c1 (And.intro c2 (And.intro c3 (And.intro c4 (And.intro c5 dl))))));have e0:=hwr.cell (p:=⟨w.heap.size,0,none⟩) id c0;have e1:=hwr.cell (p:=⟨w.heap.size,1,none⟩) id c1;have e5:=hwr.cell (p:=⟨w.heap.size,5,none⟩) id c5;clear hall;by_cases hjn:j<told.length
    · have hjI:(j:Int)<told.length:=by omega
      obtain⟨o,ho⟩:∃o,told[j]?=some o:=⟨_,pO0 hjn⟩;obtain⟨g,rfl,n0,n1,_,_,_,n5⟩:=yA HNW j o ho;have m0:=hwr.cell (p:=⟨g,j*6,none⟩) id n0;have m1:=hwr.cell (p:=⟨g,j*6+1,none⟩) id n1;have m5:=hwr.cell (p:=⟨g,j*6+5,none⟩) id n5;have hou:bK o ⟨⟨p,num,f0,f1,f2⟩,st⟩=decide (o.ev.pub=p∧o.stay=st∧num≤o.ev.num):=rfl
      have hnext:bK o ⟨⟨p,num,f0,f1,f2⟩,st⟩=false→Hid (∀i o,i<j+1→told[i]?=some o→bK o ⟨⟨p,num,f0,f1,f2⟩,st⟩=false):=fun h0=>uA (fun i o' hi ho'=>by
        by_cases e:i=j
        · subst e;rw[ho] at ho';cases ho';exact h0
        · exact yA HALL i o' (by omega) ho')
      have hyes:bK o ⟨⟨p,num,f0,f1,f2⟩,st⟩=true→Hid (tE told ⟨⟨p,num,f0,f1,f2⟩,st⟩=true):=fun h0=>uA (List.any_eq_true.2 ⟨o,vP0 ho,h0⟩);obtain⟨P,hP⟩:∃P,P=o.ev.pub:=⟨_,rfl⟩;obtain⟨N,hN⟩:∃N,N=o.ev.num:=⟨_,rfl⟩;obtain⟨T,hT⟩:∃T,T=o.stay:=⟨_,rfl⟩;rw[←hP,←hN,←hT] at hou;rw[←hP] at m0;rw[←hN] at m1;rw[←hT] at m5;rw[hou] at hnext hyes;clear hP hN hT hou n0 n1 n5 c0 c1 c2 c3 c4 c5 hwr dt dl hW HC0 HTB;by_cases h1:P=p
      · subst h1
        by_cases h2:T=st
        · subst h2
          have hde:decide (P=P∧T=T∧num≤N)=decide (num≤N):=by simp
          rw[hde] at hnext hyes;have HNX0:=uA hnext;have HYE0:=uA hyes;clear hnext hyes hde;go_wp2;go_cut [59] (fun s wx=>s=.bool (decide (num≤N))∧wx=wr.drew)
          case first=>
            go_region
            all_goals (go_wp2_with fail;go_meet;exact⟨rfl,rfl⟩)
          case rest=>
            obtain⟨rfl,hwc⟩:=hcut;have HWC:Hid (qA W wc):=by rw[hwc];exact(yA HWR).drew
            clear hwc;cases hde:decide (num≤N) with
            | true=>
              have HY:=yA HYE0 hde;clear hde;go_wp2;(try simp only[Exit.inBlock,Exit.then])
              refine bodyPost_ret (results_none rfl _ _ _) rfl ?_;exact⟨rfl,Or.inl ⟨yA HY,(yA HCAL).trans (yA HWC)⟩⟩
            | false=>
              have HNX:=yA HNX0 hde;clear hde;go_wp2;go_roundw
              case rel=>exact⟨j+1,by omega,by go_num,yA HNX,yA HWC⟩
              case measure=>have:=yA HB;simp[intOf];omega
        · have h2b:(T == st)=false:=by rw[vB];exact pP0 h2
          have HNX:=hnext (by simp[h2]);clear hnext hyes;go_wp2;go_region
          all_goals go_wp2
          all_goals go_roundw
          case rel=>exact⟨j+1,by omega,by go_num,yA HNX,(yA HWR).drew⟩
          case measure=>have:=yA HB;simp[intOf];omega
      · have h1b:(P == p)=false:=by rw[vB];exact pP0 h1
        have HNX:=hnext (by simp[h1]);clear hnext hyes;go_wp2;go_region
        all_goals go_wp2
        all_goals go_roundw
        case rel=>exact⟨j+1,by omega,by go_num,yA HNX,(yA HWR).drew⟩
        case measure=>have:=yA HB;simp[intOf];omega
    · have hje:j=told.length:=by omega
      subst hje
      have HNO:Hid (tE told ⟨⟨p,num,f0,f1,f2⟩,st⟩=false):=uA (by
        unfold tE;rw[List.any_eq_false];intro o ho;obtain⟨i,hi⟩:=List.getElem?_of_mem ho;have:=yA HALL i o (rO0.1 hi).1 hi;unfold bK at this;rw[this]
        simp)
      have e2:=hwr.cell (p:=⟨w.heap.size,2,none⟩) id c2;have e3:=hwr.cell (p:=⟨w.heap.size,3,none⟩) id c3;have e4:=hwr.cell (p:=⟨w.heap.size,4,none⟩) id c4;have dt1:=hwr.cell (p:=⟨b,3+c*13+8+k,none⟩) id dt;have dl1:=hwr.cell (p:=⟨b,3+c*13+12,none⟩) id dl;have hfz:∀o',wr.frozen? ⟨b,o',none⟩=false:=fun o'=>(nP0 (w:=w) (a:=⟨b,o',none⟩) (((yA HCAL).trans hwr).block b hb id)).trans (yA HFR o');have hbr:b<wr.heap.size:=sO0 hbW hwr.size;have hwr1:w.heap.size<wr.heap.size:=sO0 hwW hwr.size;have HTR1:=uA (eA (yA HTR) hwr (fun _ _ f=>f));have HRW1:=uA (eA (yA HRW) hwr (fun _ _ f=>f));have HFZ:=uA hfz;have HL1:=uA dl1;have HE:=uA (And.intro e0 (And.intro e1 (And.intro e2 (And.intro e3 (And.intro e4 e5)))));clear HALL hwr c0 c1 c2 c3 c4 c5 dt dl hfz HTR HRW HC0 HTB hW dl1;obtain⟨ti,i3,z3,s3,b3⟩:=mY;have I3:=uA i3;have Z3:=uA z3;have S3:=uA s3;have B3:=uA b3;clear i3 z3 s3 b3;go_wp2;go_cut [66] (fun s wx=>∃w1 w2 g cp,s=.slice (some ⟨g,0,none⟩) (told.length+1) cp∧qA wr w1∧xF 0 129 6 (.slice a told.length cap) (told.length+1) (tc++[int p,int num,int f0,int f1,int f2,int st]) w1 g cp w2∧wx=w2.setCell ⟨b,3+c*13+8+k,none⟩ (.slice (some ⟨g,0,none⟩) (told.length+1) cp))
      case first=>
        go_region_law (first
          | (refine kB _ rfl _ _ 116 rfl 0 129 ti (.agg #[int 0,int 0,int 0,int 0,int 0,int 0]) 6 48 Tryz.underlying116 (yA I3) (yA Z3) (yA S3) (yA B3) rfl (by decide) (.slice a told.length cap) told.length tc rfl ?own ⟨wr.heap.size,0,none⟩ 1 1 [int p,int num,int f0,int f1,int f2,int st] rfl rfl ?news ?one (by decide) ?h63 ?bytes ?base ?_
             case own=>exact eA (yA HTR1) (((cP0 (fun _=>False) _).alloc _).drew) (fun _ _ f=>f)
             case news=>intro j u hj;exact yC wr [int p,int num,int f0,int f1,int f2,int st] 129 j u hj
             case one=>intro u hu;simp at hu;rcases hu with rfl | rfl | rfl | rfl | rfl | rfl<;>rfl
             case h63=>unfold maxLen;omega
             case bytes=>omega
             case base=>simp
             intro g2 cp2 w2 hg2;have hne:¬b=g2:=by
               rcases hg2.2.1 with⟨h,_⟩ | ⟨h,_⟩
               · intro e;exact hvt (by rw[h,e])
               · simp at h;omega
             have ht2:Touch (fun i=>i=g2) wr w2:=by
               rcases hg2.2.1 with⟨_,h⟩ | ⟨_,h⟩
               · exact bP0 (((cP0 _ _).alloc _).drew) h
               · exact(((cP0 (fun i=>i=g2) wr).alloc _).drew).calm h
             have dl2:w2.cell? ⟨b,3+c*13+8+k,none⟩=some (.slice a told.length cap):=ht2.cell (p:=⟨b,3+c*13+8+k,none⟩) hne dt1;have fz2:w2.frozen? ⟨b,3+c*13+8+k,none⟩=false:=(nP0 (w:=wr) (a:=⟨b,3+c*13+8+k,none⟩) (ht2.block b hbr hne)).trans (yA HFZ _);have HG2:=uA hg2
             clear hg2 ht2))
        all_goals go_wp2_with fail
        all_goals go_meet
        all_goals exact⟨_,w2,g2,cp2,rfl,(((cP0 (fun _=>False) wr).alloc _).drew),yA HG2,rfl⟩
      case rest=>
        obtain⟨w1,w2,g,cp,rfl,t1,hg,hwc⟩:=hcut;have hgn:b≠g∧w.heap.size≠g∧vl.ownBlock≠some g:=by
          rcases hg.2.1 with⟨h,_⟩ | ⟨h,_⟩
          · have hvg:=yA HVV g h
            refine⟨fun e=>hvt (by rw[h,e]),fun e=>?_,hvg⟩;exact yA HNB g h e.symm
          · have:=t1.size
            refine⟨by omega,by omega,fun e=>?_⟩;have:=dE (yA HRW1) g e;omega
        have t2:Touch (fun i=>i=g) wr w2:=by
          rcases hg.2.1 with⟨_,h⟩ | ⟨_,h⟩
          · exact bP0 (t1.mono (fun _ _ f=>f.elim)) h
          · exact(t1.mono (fun _ _ f=>f.elim)).calm h
        have t3:Touch (fun i=>i=g∨i=b) wr wc:=by
          rw[hwc];exact(t2.mono (T:=fun i=>i=g∨i=b) (fun _ _ h=>Or.inl h)).setCell (p:=⟨b,3+c*13+8+k,none⟩) (fun _=>Or.inr rfl) _
        obtain⟨e0,e1,e2,e3,e4,e5⟩:=yA HE;have hbx:¬(w.heap.size=g∨w.heap.size=b):=by rintro(h | h);exact hgn.2.1 h;omega
        have q0:=t3.cell (p:=⟨w.heap.size,0,none⟩) hbx e0;have q1:=t3.cell (p:=⟨w.heap.size,1,none⟩) hbx e1;have q2:=t3.cell (p:=⟨w.heap.size,2,none⟩) hbx e2;have q3:=t3.cell (p:=⟨w.heap.size,3,none⟩) hbx e3;have q4:=t3.cell (p:=⟨w.heap.size,4,none⟩) hbx e4;have ql:wc.cell? ⟨b,3+c*13+12,none⟩=some vl:=by
          rw[hwc];exact tA w2 (by omega) (t2.cell (p:=⟨b,3+c*13+12,none⟩) hgn.1 (yA HL1))
        have qf:∀o',wc.frozen? ⟨b,o',none⟩=false:=fun o'=>by
          rw[hwc];exact qB _ _ _ _ _ ((nP0 (w:=wr) (a:=⟨b,o',none⟩) (t2.block b hbr hgn.1)).trans (yA HFZ o'))
        have hbc:b<wc.heap.size:=sO0 hbr t3.size
        have hrow2:wc.ownsRow 0 74 7 vl m lc:=eA (yA HRW1) t3 (fun g' hg' h=>by
          rcases h with h | h
          · exact hgn.2.2 (by rw[hg',h])
          · exact hvl (by rw[hg',h]))
        have HRW2:=uA hrow2;have HQF:=uA qf;have HPRE:Hid (∃w1 w2 g cp,qA w w1∧xF 0 129 6 (.slice a told.length cap) (told.length+1) (tc++[int p,int num,int f0,int f1,int f2,int st]) w1 g cp w2∧wc=w2.setCell ⟨b,3+c*13+8+k,none⟩ (.slice (some ⟨g,0,none⟩) (told.length+1) cp)):=uA ⟨w1,w2,g,cp,((yA HCAL).trans (yA HWR)).trans t1,hg,hwc⟩;clear hg hwc t1 t2 t3 hgn hbx e0 e1 e2 e3 e4 e5 qf hrow2 HE HRW1 HTR1 HFZ HL1 I3 Z3 S3 B3 HVV HNB dt1;obtain⟨ti,i3,z3,s3,b3⟩:=tT;have I3:=uA i3;have Z3:=uA z3;have S3:=uA s3;have B3:=uA b3;clear i3 z3 s3 b3;have hone:vl.oneCell'=true:=by
          rcases(yA HRW2).2 with⟨rfl,_⟩ | ⟨g,cap,cur,rfl,_⟩<;>rfl
        go_wp2
        go_region_law (first
          | (refine kB _ rfl _ _ 70 rfl 0 74 ti (.agg #[int 0,int 0,int 0,int 0,int 0,int 0,int 0]) 7 56 Tryz.underlying70 (yA I3) (yA Z3) (yA S3) (yA B3) rfl (by decide) vl m lc rfl ?own ⟨wc.heap.size,0,none⟩ 1 1 [int k,int 0,int p,int num,int f0,int f1,int f2] rfl rfl ?news ?one (by decide) ?h63 ?bytes ?base ?_
             case own=>exact eA (yA HRW2) (((cP0 (fun _=>False) _).alloc _).drew) (fun _ _ f=>f)
             case news=>intro j u hj;exact yC wc [int k,int 0,int p,int num,int f0,int f1,int f2] 74 j u hj
             case one=>intro u hu;simp at hu;rcases hu with rfl | rfl | rfl | rfl | rfl | rfl | rfl<;>rfl
             case h63=>unfold maxLen;omega
             case bytes=>omega
             case base=>simp
             intro g2 cp2 w2 hg2;have hne:¬b=g2:=by
               rcases hg2.2.1 with⟨h,_⟩ | ⟨h,_⟩
               · intro e;exact hvl (by rw[h,e])
               · simp at h;omega
             have ht2:Touch (fun i=>i=g2) wc w2:=by
               rcases hg2.2.1 with⟨_,h⟩ | ⟨_,h⟩
               · exact bP0 (((cP0 _ _).alloc _).drew) h
               · exact(((cP0 (fun i=>i=g2) wc).alloc _).drew).calm h
             have dl2:w2.cell? ⟨b,3+c*13+12,none⟩=some vl:=ht2.cell (p:=⟨b,3+c*13+12,none⟩) hne ql;have fz2:w2.frozen? ⟨b,3+c*13+12,none⟩=false:=(nP0 (w:=wc) (a:=⟨b,3+c*13+12,none⟩) (ht2.block b hbc hne)).trans (yA HQF _);have HG2:=uA hg2
             clear hg2 ht2))
        all_goals go_end0
        all_goals
          obtain⟨w1,w3,g,cp,r1,r2,r3⟩:=yA HPRE;refine⟨rfl,Or.inr ⟨yA HNO,w1,w3,g,cp,_,w2,g2,cp2,r1,r2,?_,yA HG2,rfl⟩⟩;rw[←r3];exact((cP0 (fun _=>False) wc).alloc _).drew
def RNet.tell (R:RNet)(s:Nat)(e:News):RNet:=R.setCl (s/2) ((R.cl (s/2)).tell (s%2) e)
theorem zK0 {R:RNet}(s:Nat)(e:News):(R.tell s e).net=R.net.tell s e:=rfl
theorem RX.toldRow {w w1 w2:World}{b:Nat}{ρ:zA}{R:RNet}(h:RX w b ρ R){c k:Nat}(hc:c<4)(hk:k<2){e:News}{g cap:Nat}{vt:Value}(ht:w.cell? ⟨b,3+c*13+8+k,none⟩=some vt)(hrow:NewsRow w ρ (.map c k) ((R.cl c).told k) vt)
  (t1:qA w w1) (hg:xF 0 129 6 vt (((R.cl c).told k).length+1) (((R.cl c).told k).flatMap News.encR++e.encR) w1 g cap w2):
  RX (w2.setCell ⟨b,3+c*13+8+k,none⟩ (.slice (some ⟨g,0,none⟩) (((R.cl c).told k).length+1) cap)) b (iA ρ g (.map c k)) (R.setCl c {R.cl c with told:=put (R.cl c).told k ((R.cl c).told k++[e])})∧
   Grown w (w2.setCell ⟨b,3+c*13+8+k,none⟩ (.slice (some ⟨g,0,none⟩) (((R.cl c).told k).length+1) cap)) b (3+c*13+8+k) ρ (iA ρ g (.map c k)) (.map c k) 129 6 (((R.cl c).told k).length+1) (((R.cl c).told k).flatMap News.encR++e.encR):=by
 have G:=yQ h (by simp) ht hrow t1 hg;refine⟨h.client' G (by omega) hc (Or.inr ⟨k,rfl⟩) ?_,G⟩;have C:=h.cl c hc;refine⟨G.cell _ _ (by omega) C.here,G.cell _ _ (by omega) C.home,fun j hj=>G.cell _ _ (by omega) (C.used j hj),fun j hj=>G.cell _ _ (by omega) (C.age j hj),fun j hj=>?_,fun j hj=>?_,G.cell _ _ (by omega) C.stays,G.cell _ _ (by omega) C.many,?_⟩
 ·obtain⟨v,h1,h2,h3⟩:=C.fil j hj;exact⟨v,G.cell _ _ (by omega) h1,fun hu=>G.mv.fl (h2 hu) (by simp),h3⟩
 ·by_cases ej:j=k
  ·subst ej;obtain⟨v,h1,h2⟩:=G.row;refine⟨v,h1,?_⟩;simp only[put_same,NewsRow,hO0,gO0,List.length_nil,List.flatMap_append,tP0,List.flatMap_nil,List.append_nil];exact h2
  ·obtain⟨v,h1,h2⟩:=C.told j hj;refine⟨v,G.cell _ _ (by omega) h1,?_⟩;simp only[kA _ _ ej];exact G.mv.rowZ h2 (by simp only[reduceCtorEq,Role.map.injEq,true_and,false_or];exact ej)
 ·obtain⟨v,h1,h2⟩:=C.log;exact⟨v,G.cell _ _ (by omega) h1,G.mv.rowZ h2 (by simp)⟩
def News.val (e:News):Value:=.agg #[int e.ev.pub,int e.ev.num,int e.ev.f0,int e.ev.f1,int e.ev.f2,int e.stay]
theorem cI0 {w:World}{b:Nat}{ρ:zA}{R:RNet}(h:RX w b ρ R){c k:Nat}(hc:c<4)(hk:k<2)(e:News)(hn:(R.cl c).log.length<2199023255552)(ht:((R.cl c).told k).length<2199023255552):
  Calls Tryz.prog 41 #[.pointer (some ⟨b,0,none⟩),int (2*c+k:Nat),e.val] w fun r w'=>r=.returned (.tuple #[])∧∃ρ',RX w' b ρ' (R.tell (2*c+k) e)∧Mv (eB c k) ρ ρ' w w':=by
 have h2c:(2*c+k)/2=c:=by omega
 have h2k:(2*c+k)%2=k:=by omega
 unfold RNet.tell Cli.tell;rw[h2c,h2k];obtain⟨vt,a1,a2⟩:=(h.cl c hc).told k hk;obtain⟨vl,g1,g2⟩:=(h.cl c hc).log;have hvt:vt.ownBlock≠some b:=fun e=>by have:=a2.2 b e;rw[h.net] at this;cases this
 have hvl:vl.ownBlock≠some b:=fun e=>by have:=g2.2 b e;rw[h.net] at this;cases this
 refine(lL b c k e ((R.cl c).told k) (R.cl c).log.length vt vl _ _ w hc hk h.fr a1 (NewsRow.cells a2) a2.1 hvt g1 g2.1 hvl (fun g hg e=>?_) hn ht).mono ?_
 ·have:=a2.2 g hg;rw[g2.2 g e] at this;cases this
 ·rintro r w' ⟨rfl,⟨ho,t⟩ | ⟨ho,w1,w2,g,cap,w4,w5,g',cap',t1,hg,t4,hg',rfl⟩⟩
  ·rw[if_pos ho,mI];exact⟨rfl,ρ,h.calm t,zQ0 h.lt t⟩
  ·rw[if_neg (by rw[ho];simp)]
   obtain⟨h1,G1⟩:=h.toldRow hc hk a1 a2 t1 hg;have c1:=G1.cell _ _ (by omega) g1;obtain⟨vl',d1,d2⟩:=(h1.cl c hc).log;rw[c1] at d1;cases d1
   have hcl:(R.setCl c {R.cl c with told:=put (R.cl c).told k ((R.cl c).told k++[e])}).cl c={R.cl c with told:=put (R.cl c).told k ((R.cl c).told k++[e])}:=put_same _ _ _;have hlg:((R.setCl c {R.cl c with told:=put (R.cl c).told k ((R.cl c).told k++[e])}).cl c).log=(R.cl c).log:=by rw[hcl]
   have h2:=h1.logged hc (en:=⟨k,0,e.ev⟩) (w1:=w4) (w2:=w5) (g:=g') (cap:=cap') c1 d2 t4 (by rw[hlg];exact hg');rw[hlg,hcl] at h2;refine⟨rfl,_,?_,(G1.mv.mono (fun r hr=>by rcases hr with e | e<;>simp[eB,e])).trans (h2.2.mono (fun r hr=>by rcases hr with e | e<;>simp[eB,e]))⟩
   have:=h2.1;unfold RNet.setCl at this ⊢;rw[jQ] at this;exact this
theorem uQ0:type_of% @NewsRow.cells:=@NewsRow.cells
end Go.Proofs.YtodfcpblcpogiaaGreat

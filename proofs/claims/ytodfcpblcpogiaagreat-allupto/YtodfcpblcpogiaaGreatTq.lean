import Derived.Test.YtodfcpblcpogiaaGreatSp
import Derived.Test.YtodfcpblcpogiaaGreatPend
import Derived.Test.YtodfcpblcpogiaaGreatDelX
import Derived.Test.YtodfcpblcpogiaaGreatClose
namespace Go.Proofs.YtodfcpblcpogiaaGreat
open Go.RowKit
section
variable {w : World} {b : Nat} {ρ : Nat → Option Role} {σ : Net}
theorem jN0 (h:RG w b ρ σ)(c:Int):Calls Tryz.prog 17 #[.pointer (some ⟨b,0,none⟩),int c] w fun e w'=>e=.returned (int (σ.detachE c))∧RG w' b ρ (σ.detach c)∧Mv uB ρ ρ w w':=by
 obtain⟨R,h1,rfl,h3⟩:=h;refine(tE0 h1 c (by have:=h3.len;omega)).mono ?_;rintro e w' ⟨rfl,k1,k2⟩
 refine⟨rfl,⟨_,k1,sD0 c,?_⟩,k2.mono (fun _ _=>trivial)⟩;unfold RNet.detach;split
 ·exact h3.setCl _ _
 ·exact h3
theorem logG (h:RG w b ρ σ)(c:Int):Calls Tryz.prog 94 #[.pointer (some ⟨b,0,none⟩),int c] w fun e w'=>∃v,e=.returned (.tuple #[v,int (σ.logE c)])∧w'.ownsRow 0 74 7 v (σ.logA c).length ((σ.logA c).flatMap Ent.enc)∧RG w' b ρ (σ.log c)∧Mv uB ρ ρ w w':=by
 obtain⟨R,h1,rfl,h3⟩:=h;refine(dM0 h1 c).mono ?_;rintro e w' ⟨v,rfl,k1,k2,k3,_⟩
 refine⟨v,rfl,k1,⟨_,k2,kM0 c,?_⟩,k3.mono (fun _ _=>trivial)⟩;unfold RNet.log;split
 ·exact h3.setCl _ _
 ·exact h3
def Net.close (σ:Net):Net:={σ with closed:=true}
theorem closeG (h:RG w b ρ σ):Calls Tryz.prog 60 #[.pointer (some ⟨b,0,none⟩)] w fun e w'=>e=.returned (.tuple #[int (if σ.closed then 0 else (σ.waiting:Int)),int (if σ.closed then 2 else 0)])∧RG w' b ρ σ.close∧Mv uB ρ ρ w w':=by
 obtain⟨R,h1,rfl,h3⟩:=h;rw[h3.waiting];refine(cH0 h1).mono ?_;rintro e w' ⟨rfl,k1,k2⟩
 exact⟨rfl,⟨_,k1,rfl,⟨h3.uniq,h3.fa,h3.fr⟩⟩,k2.mono (fun _ _=>trivial)⟩
def Net.lookE (σ:Net)(c:Int):Int:=σ.asked (dA c)
def Net.lookA (σ:Net)(c:Int):Array Value:=if σ.lookE c=0 then #[int (whr (σ.cl c.toNat).here),int (whr (σ.cl c.toNat).home),.bool (σ.waits c.toNat),.bool ((σ.cl c.toNat).used 0),.bool ((σ.cl c.toNat).used 1)] else #[int 0,int 0,.bool false,.bool false,.bool false]
theorem lookG (h:RG w b ρ σ)(c:Int):Calls Tryz.prog 20 #[.pointer (some ⟨b,0,none⟩),int c] w fun e w'=>e=.returned (.tuple #[.agg (σ.lookA c),int (σ.lookE c)])∧qA w w':=by
 obtain⟨R,h1,rfl,h3⟩:=h;unfold Net.lookA Net.lookE;by_cases hA:R.net.asked (dA c)=0
 ·obtain⟨d,hd,rfl⟩:=uE hA;rw[if_pos hA,hA,iO0];have hcl:R.closed=false:=by
   unfold Net.asked at hA;cases e:R.closed with
   | false=>rfl
   | true=>rw[show R.net.closed=true from e] at hA;simp at hA
  exact sK0 h1 hd hcl (by have:=h3.len;omega)
 ·rw[if_neg hA];exact mA0 h1 hA
theorem lookX (h:XN w b ρ σ){m:Nat}(F:Fit σ m)(c:Int):Calls Tryz.prog 10 #[.pointer (some ⟨b,0,none⟩),int c] w fun e w'=>e=.returned (.tuple #[.agg (σ.lookA c),int (σ.lookE c)])∧qA w w':=by
 unfold Net.lookA Net.lookE;have hop:=h.open_;cases hcc:dA c with
 | true=>
  have hA:σ.asked true=0:=zH hop rfl;obtain⟨d,hd,rfl⟩:=uE (σ:=σ) (c:=c) (by rw[hcc];exact hA);rw[hA,if_pos rfl,iO0];exact eM0 h F hd
 | false=>
  have hA:σ.asked false=1:=by simp[Net.asked,hop]
  rw[hA,if_neg (by decide)];exact rK0 h c hcc
set_option maxRecDepth 100000 in
set_option maxHeartbeats 1000000 in
theorem nX (h:RG w b ρ σ)(hcl:σ.closed=true):Calls Tryz.prog 23 #[.pointer (some ⟨b,0,none⟩)] w fun e w'=>e=.returned (.slice none 0 0)∧w'=w:=by
 obtain⟨pb,po,pcap,p0,_⟩:=h.parsAt;have p55:w.cell? ⟨b,55,none⟩=some (.bool true):=by
  obtain⟨R,h1,rfl,_⟩:=h;have:=h1.closed;rw[show R.closed=true from hcl] at this;exact this
 have hpos:(0:Int)<(size σ.par:Nat):=by unfold size;omega
 obtain⟨n,hn⟩:∃n,n=size σ.par:=⟨_,rfl⟩;rw[←hn] at p0 hpos;clear h hcl hn;go_enter Tryz.func23,Tryz.ntmps23
 go_wp2;refine wp_loop_rounds 1 ?_;rw[rounds_succ]
 go_wp2;go_ret
 exact⟨rfl,rfl⟩
theorem bG (h:σ.closed=true):σ.pending=[]:=by unfold Net.pending;rw[h];rfl
end
theorem cJ {σ:Net}{a:Nat}:∀k,(∀j,a≤j→j<a+k→pJ σ j=none)→bC σ (a+k)=bC σ a
 | 0,_=>rfl
 | k+1,h=>by
  rw[show a+(k+1)=(a+k)+1 by omega,dJ,h (a+k) (by omega) (by omega),cJ k (fun j h1 h2=>h j h1 (by omega))];simp
theorem eV {σ:Net}(G:Good σ){x y:Nat}(hy:y<6)(h:σ.n≤x∨σ.n≤y):pJ σ (x*6+y)=none:=by
 unfold pJ;rw[show (x*6+y)/6=x by omega,show (x*6+y)%6=y by omega];by_cases e:σ.q x y=[]
 ·rw[if_pos e]
 ·have:=bB G.tree (G.nbr x y e);have hn:σ.n=size σ.par:=rfl;omega
theorem lI0 {w:World}{b:Nat}{ρ:zA}{σ:Net}(h:RG w b ρ σ)(x y:Nat)(hn:σ.waiting≤100000):Calls Tryz.prog 62 #[.pointer (some ⟨b,0,none⟩),int x,int y] w fun e w'=>e=.returned (int (σ.q x y).length)∧w'=w:=by
 obtain⟨R,h1,rfl,h3⟩:=h;rw[h3.waiting] at hn;have:=vZ b R.fr.length _ _ x y w h1.frameHeads hn;have hq:(R.net.q x y).length=xE (fun i=>decide (frA R.fr i=(x:Int)∧frB R.fr i=(y:Int))) R.fr.length:=by
  show ((R.fr.filter (LFr.on x y)).map LFr.f).length=_
  rw[List.length_map,eI ⟨0,0,default⟩ (LFr.on x y) R.fr,List.length_map];unfold xE;congr 1
  refine List.filter_congr (fun i hi=>?_);have hi:=yP0.1 hi;obtain⟨k,hk⟩:∃k,R.fr[i]?=some k:=⟨_,pO0 hi⟩;unfold frA frB LFr.on;rw[jO0,hk];simp only[Option.getD_some];rw[decide_eq_decide];omega
 rw[hq];exact this
set_option maxRecDepth 100000 in
set_option maxHeartbeats 2000000 in
theorem hJ0 {w:World}{b:Nat}{ρ:zA}{σ:Net}(h:RG w b ρ σ)(G:Good σ)(hcl:σ.closed=false)(hw:∀x y,(σ.q x y).length<2000)(hwt:σ.waiting≤100000):
  Calls Tryz.prog 23 #[.pointer (some ⟨b,0,none⟩)] w fun e w'=>∃v,e=.returned v∧LinksAt w' w.heap.size v σ.pending∧qA w w':=by
 have hs6:σ.n≤6:=gB G.tree;have hall:=zN σ hcl;obtain⟨pb,po,pcap,p0,_⟩:=h.parsAt;have p0:w.cell? ⟨b,0,none⟩=some (.slice (some ⟨pb,po,none⟩) σ.n pcap):=p0;have p55:w.cell? ⟨b,55,none⟩=some (.bool false):=by
  obtain⟨R,h1,rfl,_⟩:=h;have:=h1.closed;rw[show R.closed=false from hcl] at this;exact this
 obtain⟨n,hn⟩:∃n,n=σ.n:=⟨_,rfl⟩;rw[←hn] at p0 hs6
 have HEND:Hid (bC σ (n*6)=σ.pending):=uA (by
  rw[←hall,show 36=n*6+(6-n)*6 by omega];refine(cJ _ (fun j h1 h2=>?_)).symm;have:=eV G (x:=j/6) (y:=j%6) (by omega) (Or.inl (by omega))
  rwa [show j/6*6+j%6=j by omega] at this)
 have HROWE:Hid (∀x,bC σ (x*6+n)=bC σ ((x+1)*6)):=uA (fun x=>by
  rw[show (x+1)*6=(x*6+n)+(6-n) by omega];refine(cJ _ (fun j h1 h2=>?_)).symm;have:=eV G (x:=x) (y:=j-x*6) (by omega) (Or.inr (by omega))
  rwa [show x*6+(j-x*6)=j by omega] at this)
 have HX:=uA h;have HWC:Hid (∀wq x y,qA w wq→Calls Tryz.prog 62 #[.pointer (some ⟨b,0,none⟩),int ((x:Nat):Int),int ((y:Nat):Int)] wq fun e w'=>e=.returned (int (σ.q x y).length)∧w'=wq):=uA (fun wq x y t=>lI0 (h.calm t) x y hwt);clear h hall G hn hwt hcl;obtain⟨ti,i3,z3,s3,b3⟩:=vE0;have I3:=uA i3;have Z3:=uA z3;have S3:=uA s3;have B3:=uA b3;clear i3 z3 s3 b3;have hnI:(n:Int)≤6:=by omega
 have HP:=uA (And.intro p0 p55);go_enter Tryz.func23,Tryz.ntmps23
 go_wp2;go_loopw [3,4] (fun p i wr=>∃x:Nat,x≤n∧i=int x∧LinksAt wr w.heap.size p (bC σ (x*6))∧qA w wr) (fun _ i _=>6-(intOf i).toNat)
 case atStart=>exact⟨0,by omega,rfl,jP0 _ _ _ _,cP0 _ _⟩
 case round=>
  obtain⟨x,hx,rfl,hrow,ht⟩:=hrel;clear p0 p55;have p0:=ht.cell (p:=⟨b,0,none⟩) id (yA HP).1;have p55:=ht.cell (p:=⟨b,55,none⟩) id (yA HP).2;have HROW:=uA hrow;have HT:=uA ht;clear hrow ht;by_cases hlt:x<n
  ·have hxi:(x:Int)<n:=by omega
   go_wp2;go_loopw [3,5] (fun p j wq=>∃y:Nat,y≤n∧j=int y∧LinksAt wq w.heap.size p (bC σ (x*6+y))∧qA w wq) (fun _ j _=>6-(intOf j).toNat)
   case atStart=>exact⟨0,by omega,rfl,yA HROW,yA HT⟩
   case round=>
    obtain⟨y,hy,rfl,hrow,ht⟩:=hrel;clear HROW HT p0 p55;have p0:=ht.cell (p:=⟨b,0,none⟩) id (yA HP).1;have HROW:=uA hrow;have HT:=uA ht;clear hrow ht;by_cases hyt:y<n
    ·have hyi:(y:Int)<n:=by omega
     have h6a:(x*6+y)/6=x:=by omega
     have h6b:(x*6+y)%6=y:=by omega
     have hsu:=dJ σ (x*6+y);have hl2:=hw x y;have hla:pJ σ (x*6+y)=if σ.q x y=[] then none else some ⟨x,y,(σ.q x y).length⟩:=by simp only[pJ,h6a,h6b]
     have HSU:=uA hsu;have HLA:=uA hla;have HCA:=uA (yA HWC wr x y (yA HT));clear hsu hla h6a h6b;obtain⟨N,hN⟩:∃N,N=(σ.q x y).length:=⟨_,rfl⟩;rw[←hN] at HCA HLA hl2;have HN:=uA hN;clear hN;by_cases hN0:0<N
     ·have hN0i:(0:Int)<N:=by omega
      have hne:σ.q x y≠[]:=fun e=>by have:=yA HN;rw[e] at this;simp at this;omega
      have HNE:=uA hne;have hsz:=(yA HT).size;have hpl:=bM σ (x*6+y);clear hne
      go_wp2_with (first
       | (go_at_call 62;refine(yA HCA).mono ?_;rintro e w1 ⟨rfl,hw1⟩;have hw1:=hw1.symm;subst hw1)
       | (at_builtin;refine pB _ rfl _ _ 67 rfl w.heap.size 69 ti (.agg #[int 0,int 0,int 0]) 3 24 Tryz.underlying67 (yA I3) (yA Z3) (yA S3) (yA B3) rfl (by decide) _ (bC σ (x*6+y)).length _ rfl (eA (yA HROW) ((cP0 (fun _=>False) _).alloc _) (fun _ _ f=>f)) ⟨wr.heap.size,0,none⟩ 1 1 [int x,int y,int N] rfl rfl ?news ?one (by decide) ?h63 ?bytes ?base ?_))
      case news=>exact fun j u hj=>yC wr [int x,int y,int N] 69 j u hj
      case one=>intro u hu;simp at hu;rcases hu with rfl | rfl | rfl<;>rfl
      case h63=>unfold maxLen;omega
      case bytes=>omega
      case base=>simp;omega
      intro g cap w2 hg;have hrow2:LinksAt w2 w.heap.size (.slice (some ⟨g,0,none⟩) ((bC σ (x*6+y)).length+1) cap) (bC σ (x*6+y+1)):=by
       rw[yA HSU,yA HLA,if_neg (yA HNE)];have:=hg.1;simp only[LinksAt,Option.toList_some,hO0,gO0,List.length_nil,List.flatMap_append,tP0,List.flatMap_nil,List.append_nil,Lnk.enc];exact this
      have ht2:qA w w2:=by
       rcases hg.2.1 with⟨hv,t⟩ | ⟨_,t⟩
       ·have hge:w.heap.size≤g:=by
         rcases(yA HROW).2 with⟨e,_⟩ | ⟨g',cp',cur,e,hb,_⟩
         ·rw[e] at hv;cases hv
         ·rw[e] at hv;cases hv;exact hb
        have t1:Touch (fun i=>i=g) w (wr.alloc (.cells #[int x,int y,int N] 69)):=((yA HT).mono (fun _ _ f=>f.elim)).alloc _;exact(t1.trans t).mono (fun i hi e=>by omega)
       ·exact((yA HT).alloc _).trans t
      have HROW3:=uA hrow2;have HT3:=uA ht2;clear hrow2 ht2 hg;go_wp2;go_roundw
      case rel=>exact⟨y+1,by omega,by go_num,yA HROW3,yA HT3⟩
      case measure=>simp[intOf];omega
     ·have hNe:N=0:=by omega
      subst hNe;have HNE:Hid (σ.q x y=[]):=uA (zP0 (yA HN).symm);go_wp2_with (go_at_call 62;refine(yA HCA).mono ?_;rintro e w1 ⟨rfl,hw1⟩;have hw1:=hw1.symm;subst hw1);go_roundw
      case rel=>exact⟨y+1,by omega,by go_num,by rw[←rP0,yA HSU,yA HLA,if_pos (yA HNE)];simpa using yA HROW,yA HT⟩
      case measure=>simp[intOf];omega
    ·have hyi:¬(y:Int)<n:=by omega
     have hy6:y=n:=by omega
     subst hy6;go_wp2;go_roundw
     case rel=>exact⟨x+1,by omega,by go_num,by rw[←yA HROWE x];exact yA HROW,yA HT⟩
     case measure=>simp[intOf];omega
  ·have hxi:¬(x:Int)<n:=by omega
   have hx6:x=n:=by omega
   subst hx6;go_wp2;go_ret;exact⟨_,rfl,by rw[←yA HEND];exact yA HROW,yA HT⟩
section
variable {w : World} {b : Nat} {ρ : Nat → Option Role} {σ : Net}
theorem XN.dropLog (h:XN w b ρ σ){c:Nat}(hc:c<4)(hl:(σ.cl c).log=[])(hnil:w.cell? ⟨b,86+c*31+30,none⟩=some rA){v:Value}(hg:∀g,v.ownBlock=some g→ρ g=some (.log c)):XN w b (fun k=>if v.ownBlock=some k then none else ρ k) σ:=by
 have hk:∀r,r≠.log c→∀k,ρ k=some r→w.heap[k]?=w.heap[k]?∧(if v.ownBlock=some k then none else ρ k)=ρ k:=fun r hr k hk=>⟨rfl,if_neg (fun e=>by have:=hg k e;rw[hk] at this;exact hr (bO0 this))⟩;refine⟨(hk _ (by simp) b h.net).2.trans h.net,h.typ,h.fr,h.closed,?_,fun x y hx hy=>?_,fun x d k hx hd hk2=>?_,fun d hd=>?_,fun k hk2=>?_,h.open_⟩
 ·obtain⟨a,cap,h1,h2⟩:=h.tree;refine⟨a,cap,h1,h2.imp id ?_⟩;rintro⟨tb,o,e1,e2,e3⟩
  exact⟨tb,o,e1,(hk _ (by simp) tb e2).2.trans e2,e3⟩
 ·obtain⟨u,h1,h2⟩:=h.link x y hx hy;exact⟨u,h1,h2.keep (fun k e=>by rcases e with e | e | e<;>exact hk _ (by simp) k e)⟩
 ·obtain⟨u,h1,h2⟩:=h.known x d k hx hd hk2;exact⟨u,h1,h2.keep (fun k e=>by rcases e with e | e<;>exact hk _ (by simp) k e)⟩
 ·have C:=h.cli d hd;by_cases e:d=c
  ·subst e;refine⟨C.here,C.home,C.stays,C.many,C.used,C.age,C.fl,fun k hk2=>?_,rA,hnil,⟨?_,fun g hg=>by cases hg⟩⟩
   ·obtain⟨u,h1,h2⟩:=C.heard k hk2;exact⟨u,h1,h2.keep (fun i e=>hk _ (by simp) i e)⟩
   ·rw[hl];exact jP0 _ _ _ _
  ·exact C.keep (fun _ _ _ _ hv=>hv) (fun i e2=>by
    rcases e2 with⟨k,e2⟩ | e2
    ·exact hk _ (by simp) i e2
    ·exact hk _ (fun e3=>e (by cases e3;rfl)) i e2)
 ·refine h.lt k (fun e=>hk2 ?_);simp only[e];split<;>rfl
set_option maxRecDepth 100000 in
set_option maxHeartbeats 1000000 in
theorem cM0 (h:XN w b ρ σ)(c:Int)(hcc:dA c=false):Calls Tryz.prog 93 #[.pointer (some ⟨b,0,none⟩),int c] w fun e w'=>e=.returned (.tuple #[rA,int 1])∧w'=w:=by
 have hcl:=h.closed;have hct:chk false=1:=rfl;clear h;go_enter Tryz.func93,Tryz.ntmps93
 go_wp2_with (first
  | (go_at_call 26;refine(aA _ _).mono ?_;rw[hcc];rintro e w1 ⟨rfl,hw1⟩;have hw1:=hw1.symm;subst hw1)
  | (go_at_call 25;refine(sB _ _ _ hcl).mono ?_;rintro e w2 ⟨rfl,hw2⟩;have hw2:=hw2.symm;subst hw2))
 go_ret2;exact⟨rfl,rfl⟩
theorem logY (h:XN w b ρ σ)(c:Int):Calls Tryz.prog 93 #[.pointer (some ⟨b,0,none⟩),int c] w fun e w'=>∃v ρ',e=.returned (.tuple #[v,int (σ.logE c)])∧w'.ownsRow 0 74 7 v (σ.logA c).length ((σ.logA c).flatMap Ent.enc)∧XN w' b ρ' (σ.log c)∧Mv uB ρ ρ w w'∧(∀k,ρ' k≠none→ρ k≠none)∧∀g,v.ownBlock=some g→ρ g≠none∧ρ' g=none:=by
 have hop:=h.open_;cases hcc:dA c with
 | true=>
  have hA:σ.asked (dA c)=0:=by rw[hcc];exact zH hop rfl
  obtain⟨d,hd,rfl⟩:∃d:Nat,d<4∧c=d:=by
   simp only[dA,oP0] at hcc;exact⟨c.toNat,by omega,by omega⟩
  have hE:σ.logE d=0:=hA;have hL:σ.logA d=(σ.cl d).log:=by unfold Net.logA;rw[if_pos hE,iO0]
  have hD:σ.log d=σ.setCl d {σ.cl d with log:=[]}:=by unfold Net.log;rw[if_pos hE,iO0]
  rw[hE,hL,hD];refine(logX2 h hd).mono ?_;rintro e w' ⟨v,rfl,k1,k2,k3,k4,k5⟩
  refine⟨v,_,rfl,k1,k2.dropLog hd (by simp[Net.setCl,put]) k5 k4,k3,fun k hk e=>hk ?_,fun g hg=>⟨by rw[k4 g hg];simp,by simp[hg]⟩⟩
  simp only[e];split<;>rfl
 | false=>
  have hE:σ.logE c=1:=by unfold Net.logE;rw[hcc];simp[Net.asked,hop]
  have hL:σ.logA c=[]:=by unfold Net.logA;rw[if_neg (by rw[hE];decide)]
  have hD:σ.log c=σ:=by unfold Net.log;rw[if_neg (by rw[hE];decide)]
  rw[hE,hL,hD];refine(cM0 h c hcc).mono ?_;rintro e w' ⟨rfl,rfl⟩
  exact⟨rA,ρ,rfl,jP0 _ _ _ _,h,aP0 h.lt,fun _ hk=>hk,fun g hg=>by cases hg⟩
theorem aW {l:List Tst}(h:yB l=false)(h3:l.length≤3):l.all Tst.good=false:=by
 simp only[yB,decide_eq_true h3,Bool.true_and] at h;exact h
theorem bB0 {l:List Tst}(h:∀i,i<l.length→(sA l i).good=true):l.all Tst.good=true:=by
 rw[List.all_eq_true];intro t ht;obtain⟨i,hi,rfl⟩:=List.getElem_of_mem ht;have:=h i hi;rw[show sA l i=l[i] from by simp[sA,hi]] at this;exact this
set_option maxRecDepth 100000 in
set_option maxHeartbeats 1000000 in
theorem qK (a:Option Addr)(cap:Nat)(l:List Tst)(w:World)(hl:yB l=false)(ht:TestsAt w a l):
    Calls Tryz.prog 110 #[.slice a l.length cap] w fun e w'=>e=.returned (.tuple #[.agg #[int 0,int 0,int 0,int 0,int 0,int 0,int 0,int 0,int 0,int 0],.bool false])∧qA w w':=by
  by_cases h3:l.length≤3
  · have h3i:¬(3:Int)<l.length:=by omega
    obtain⟨W,hW⟩:∃W,w.alloc (.cells #[int 0,int 0,int 0,int 0,int 0,int 0,int 0,int 0,int 0,int 0] 80)=W:=⟨_,rfl⟩;have hcal:qA w W:=by rw[←hW];exact(cP0 _ _).alloc _
    have HC:=uA hcal;have HBX:Hid (W.heap[w.heap.size]?=some (.cells #[int 0,int 0,int 0,int 0,int 0,int 0,int 0,int 0,int 0,int 0] 80)):=uA (by rw[←hW];exact eP0 w _);have HT:=uA (ht.calm hcal);have HG:=uA (aW hl h3);clear hcal ht hl;go_enter Tryz.func110,Tryz.ntmps110
    go_wp2;clear hW
    go_loopw [13] (fun p wr=>∃k:Nat,k≤l.length∧p=int k∧qA W wr∧Hid (∀j,j<k→(sA l j).good=true)) (fun p _=>l.length-(intOf p).toNat)
    case atStart=>exact⟨0,by omega,rfl,cP0 _ _,uA (fun j hj=>by omega)⟩
    case round=>
      obtain⟨k,hk,rfl,hc,HB⟩:=hrel;by_cases hlt:k<l.length
      · rcases(yA HT).calm hc with hnil | ⟨b,o,rfl,hcells⟩
        · rw[hnil] at hlt;simp at hlt
        · obtain⟨e0,e1,e2⟩:=pF l k hlt
          have c0:wr.cell? ⟨b,o+k*3,none⟩=some (int (sA l k).fld):=hcells _ _ e0;have c1:wr.cell? ⟨b,o+k*3+1,none⟩=some (int (sA l k).op):=by rw[rP0];exact hcells _ _ e1
          have c2:wr.cell? ⟨b,o+k*3+2,none⟩=some (int (sA l k).n):=by rw[rP0];exact hcells _ _ e2
          have hbl:=fP0 c0;simp only at hbl;have HCC:=uA hc;clear hcells e0 e1 e2 hc;cases hg:(sA l k).good with
          | true=>
            have HGK:Hid ((sA l k).good=true):=hg;generalize sA l k=t at hg c0 c1 c2;obtain⟨f,op,n⟩:=t;simp only at c0 c1 c2;go_wp2_with (go_at_call 125;refine(zT f op n _).mono ?_;rw[hg];rintro r w3 ⟨rfl,ht3⟩)
            go_roundw
            case rel=>
              refine⟨k+1,by omega,by go_num,(((yA HCC).alloc _).calm ht3),uA (fun j hj=>?_)⟩;by_cases e:j=k
              · subst e;exact yA HGK
              · exact yA HB j (by omega)
            case measure=>simp[intOf];omega
          | false=>
            generalize sA l k=t at*;obtain⟨f,op,n⟩:=t;simp only at c0 c1 c2;have hbR:=(yA HCC).block w.heap.size (tO0.1 (yA HBX)).1 id;have hwl:w.heap.size<wr.heap.size:=sO0 (tO0.1 (yA HBX)).1 (yA HCC).size;have HBR:=uA (hbR.trans (yA HBX));clear hbR
            go_wp2_with (go_at_call 125;refine(zT f op n _).mono ?_;rw[hg];rintro r w3 ⟨rfl,ht3⟩
                         have hR:w3.heap[w.heap.size]?=some (.cells #[int 0,int 0,int 0,int 0,int 0,int 0,int 0,int 0,int 0,int 0] 80):=(((cP0 (fun _=>False) wr).alloc _).calm ht3).block w.heap.size hwl id |>.trans (yA HBR);have r0:w3.cell? ⟨w.heap.size,0,none⟩=some (int 0):=xA hR 0;have r1:w3.cell? ⟨w.heap.size,1,none⟩=some (int 0):=xA hR 1;have r2:w3.cell? ⟨w.heap.size,2,none⟩=some (int 0):=xA hR 2;have r3:w3.cell? ⟨w.heap.size,3,none⟩=some (int 0):=xA hR 3;have r4:w3.cell? ⟨w.heap.size,4,none⟩=some (int 0):=xA hR 4;have r5:w3.cell? ⟨w.heap.size,5,none⟩=some (int 0):=xA hR 5;have r6:w3.cell? ⟨w.heap.size,6,none⟩=some (int 0):=xA hR 6;have r7:w3.cell? ⟨w.heap.size,7,none⟩=some (int 0):=xA hR 7;have r8:w3.cell? ⟨w.heap.size,8,none⟩=some (int 0):=xA hR 8;have r9:w3.cell? ⟨w.heap.size,9,none⟩=some (int 0):=xA hR 9;have hrf:=bA hR;have HTT:=uA ((yA HC).trans (((yA HCC).alloc _).calm ht3))
                         clear hR ht3)
            exact bodyPost_ret (v:=.tuple #[.agg #[int 0,int 0,int 0,int 0,int 0,int 0,int 0,int 0,int 0,int 0],.bool false]) (by simp[results,Tryz.results110,go_sem,r0,r1,r2,r3,r4,r5,r6,r7,r8,r9]) rfl ⟨rfl,((((((((((yA HTT).setCell (p:=⟨w.heap.size,0,none⟩) (fun h=>absurd h (cO0 _)) _).setCell (p:=⟨w.heap.size,1,none⟩) (fun h=>absurd h (cO0 _)) _).setCell (p:=⟨w.heap.size,2,none⟩) (fun h=>absurd h (cO0 _)) _).setCell (p:=⟨w.heap.size,3,none⟩) (fun h=>absurd h (cO0 _)) _).setCell (p:=⟨w.heap.size,4,none⟩) (fun h=>absurd h (cO0 _)) _).setCell (p:=⟨w.heap.size,5,none⟩) (fun h=>absurd h (cO0 _)) _).setCell (p:=⟨w.heap.size,6,none⟩) (fun h=>absurd h (cO0 _)) _).setCell (p:=⟨w.heap.size,7,none⟩) (fun h=>absurd h (cO0 _)) _).setCell (p:=⟨w.heap.size,8,none⟩) (fun h=>absurd h (cO0 _)) _).setCell (p:=⟨w.heap.size,9,none⟩) (fun h=>absurd h (cO0 _)) _⟩
      · have hke:k=l.length:=by omega
        exfalso;have:=bB0 (fun j hj=>yA HB j (by omega));rw[yA HG] at this;cases this
  · have h3i:(3:Int)<l.length:=by omega
    clear ht hl;go_enter Tryz.func110,Tryz.ntmps110
    go_wp2;exact bodyPost_ret (v:=.tuple #[.agg #[int 0,int 0,int 0,int 0,int 0,int 0,int 0,int 0,int 0,int 0],.bool false]) (by simp[results,Tryz.results110,go_sem]) rfl ⟨rfl,(cP0 _ _).alloc _⟩
set_option maxRecDepth 100000 in
set_option maxHeartbeats 1000000 in
theorem pR (hcl:w.cell? ⟨b,0,none⟩=some (.bool false))(c:Int){l:List Tst}(hl:yB l=false){a:Option Addr}(ht:TestsAt w a l)(cap:Nat):
    Calls Tryz.prog 85 #[.pointer (some ⟨b,0,none⟩),int c,.slice a l.length cap] w fun e w'=>e=.returned (.tuple #[int 0,int 1])∧qA w w':=by
  have hct:chk false=1:=rfl;have hbl:b<w.heap.size:=fP0 hcl;have HT:=uA ht;have HL:=uA hl;clear ht hl;go_enter Tryz.func85,Tryz.ntmps85
  go_wp2_with (first
    | (go_at_call 110;refine(qK a cap l _ (yA HL) (yA HT)).mono ?_;rintro r w1 ⟨rfl,ht1⟩
       have hcl1:=(ht1.alloc (.cells #[int 0,int 0,int 0,int 0,int 0,int 0,int 0,int 0,int 0,int 0] 80)).cell (p:=⟨b,0,none⟩) id hcl;have HT1:=uA ht1
       clear ht1 hcl)
    | (go_at_call 25;refine(sB _ _ _ hcl1).mono ?_;rintro r w2 ⟨rfl,hw2⟩;have hw2:=hw2.symm;subst hw2))
  go_ret2;exact⟨rfl,(yA HT1).alloc _⟩
set_option maxRecDepth 100000 in
set_option maxHeartbeats 1000000 in
theorem qR (hcl:w.cell? ⟨b,0,none⟩=some (.bool true))(c:Int){l:List Tst}(hl:yB l=false){a:Option Addr}(ht:TestsAt w a l)(cap:Nat):
    Calls Tryz.prog 85 #[.pointer (some ⟨b,0,none⟩),int c,.slice a l.length cap] w fun e w'=>e=.returned (.tuple #[int 0,int 2])∧qA w w':=by
  have hbl:b<w.heap.size:=fP0 hcl;have HT:=uA ht;have HL:=uA hl;clear ht hl;go_enter Tryz.func85,Tryz.ntmps85
  go_wp2_with (first
    | (go_at_call 110;refine(qK a cap l _ (yA HL) (yA HT)).mono ?_;rintro r w1 ⟨rfl,ht1⟩
       have hcl1:=(ht1.alloc (.cells #[int 0,int 0,int 0,int 0,int 0,int 0,int 0,int 0,int 0,int 0] 80)).cell (p:=⟨b,0,none⟩) id hcl;have HT1:=uA ht1
       clear ht1 hcl)
    | (go_at_call 25;refine(cC _ _ _ hcl1).mono ?_;rintro r w2 ⟨rfl,hw2⟩;have hw2:=hw2.symm;subst hw2))
  go_ret2;exact⟨rfl,(yA HT1).alloc _⟩
theorem lC0 (h:XN w b ρ σ){m:Nat}(F:Fit σ m)(hm:m<2000000000000)(c:Int){l:List Tst}{a:Option Addr}(ht:TestsAt w a l)(cap:Nat):
  Calls Tryz.prog 85 #[.pointer (some ⟨b,0,none⟩),int c,.slice a l.length cap] w fun e w'=>e=.returned (.tuple #[int (if σ.subE c l=0 then (σ.slot c.toNat:Nat) else 0),int (σ.subE c l)])∧∃ρ',XN w' b ρ' (σ.sub c l)∧Mv uB ρ ρ' w w':=by
 cases hl:yB l with
 | true=>exact kC0 h F hm c hl ht cap
 | false=>
  have hE:σ.subE c l=1:=by simp[Net.subE,Net.asked,h.open_,hl]
  have hs:σ.sub c l=σ:=by unfold Net.sub;rw[if_neg (by rw[hE];decide)]
  rw[hE,hs,if_neg (by decide)];refine(pR h.closed c hl ht cap).mono ?_;rintro e w' ⟨rfl,t⟩
  exact⟨rfl,ρ,h.calm t,zQ0 h.lt t⟩
theorem lZ (h:XC w b)(c:Int){l:List Tst}{a:Option Addr}(ht:TestsAt w a l)(cap:Nat):
  Calls Tryz.prog 85 #[.pointer (some ⟨b,0,none⟩),int c,.slice a l.length cap] w fun e w'=>e=.returned (.tuple #[int 0,int 2])∧qA w w':=by
 cases hl:yB l with
 | true=>exact mC0 h c hl ht cap
 | false=>exact qR h.closed c hl ht cap
end
end Go.Proofs.YtodfcpblcpogiaaGreat

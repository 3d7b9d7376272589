import Derived.Test.YtodfcpblcpogiaaGreatUf
import Derived.Test.YtodfcpblcpogiaaGreatTq
import Derived.Test.YtodfcpblcpogiaaGreatSqa
import Derived.Test.YtodfcpblcpogiaaGreatTb
import Derived.Test.YtodfcpblcpogiaaGreatTj
import Derived.Test.YtodfcpblcpogiaaGreatUnsX
import Derived.Test.YtodfcpblcpogiaaGreatPubF
import Derived.Test.YtodfcpblcpogiaaGreatDelX
namespace Go.Proofs.YtodfcpblcpogiaaGreat
open Go.RowKit
section
variable {σ : Net}
theorem uC (h:σ.closed=true)(g:Bool):σ.asked g=2:=by unfold Net.asked;rw[h];rfl
theorem iK (h:σ.closed=true)(c x:Int):σ.attachE c x=2∧σ.attach c x=σ:=by
 have e:σ.attachE c x=2:=by unfold Net.attachE;rw[uC h];rfl
 exact⟨e,by unfold Net.attach;rw[e];rfl⟩
theorem tQ (h:σ.closed=true)(c:Int):σ.detachE c=2∧σ.detach c=σ:=by
 have e:σ.detachE c=2:=by unfold Net.detachE;rw[uC h];rfl
 exact⟨e,by unfold Net.detach;rw[e];rfl⟩
theorem nR (h:σ.closed=true)(c:Int)(l:List Tst):σ.subE c l=2∧σ.sub c l=σ:=by
 have e:σ.subE c l=2:=by unfold Net.subE;rw[uC h];rfl
 exact⟨e,by unfold Net.sub;rw[e];rfl⟩
theorem oM (h:σ.closed=true)(c k:Int):σ.unsubE c k=2∧σ.unsub c k=σ:=by
 have e:σ.unsubE c k=2:=by unfold Net.unsubE;rw[uC h];rfl
 exact⟨e,by unfold Net.unsub;rw[e];rfl⟩
theorem dR (h:σ.closed=true)(c f0 f1 f2:Int):σ.pubE c=2∧σ.pubA c=0∧σ.pub c f0 f1 f2=σ:=by
 have e:σ.pubE c=2:=by unfold Net.pubE;rw[uC h];rfl
 exact⟨e,by unfold Net.pubA;rw[e];rfl,by unfold Net.pub;rw[e];rfl⟩
theorem sT (h:σ.closed=true)(x y:Int):σ.delE x y=2∧σ.del x y=σ:=by
 have e:σ.delE x y=2:=by unfold Net.delE;rw[uC h];rfl
 exact⟨e,by unfold Net.del;rw[e];rfl⟩
theorem rS (h:σ.closed=true)(c:Int):σ.logE c=2∧σ.logA c=[]∧σ.log c=σ:=by
 have e:σ.logE c=2:=uC h _;exact⟨e,by unfold Net.logA;rw[e];rfl,by unfold Net.log;rw[e];rfl⟩
theorem gG0 (h:σ.closed=true)(c:Int):σ.lookE c=2∧σ.lookA c=#[int 0,int 0,.bool false,.bool false,.bool false]:=by
 have e:σ.lookE c=2:=uC h _;exact⟨e,by unfold Net.lookA;rw[e];rfl⟩
theorem Fit.wait {m:Nat}(F:Fit σ m):σ.waiting≤100000:=by
 have:=sI (B:=2000) (fun x y=>Nat.le_of_lt (F.len x y));omega
theorem dY (h:σ.closed=true)(g:Bool):σ.asked g≠0:=by rw[uC h];decide
end
section
variable {B : Nat} {kp : Nat → Prop} {wk w0 w : World} {bw : Nat} {nets : List Tw} {p : Nat}
theorem zM0 (h:St B kp wk w0 bw nets p w){i:Nat}{t:Tw}(hi:nets[i]?=some t)(hp:p≤1000000000)(c x:Int):
  Calls Tryz.prog 13 #[.pointer (some ⟨t.bx,0,none⟩),int c,int x] w fun e w'=>e=.returned (int (t.σ.attachE c x))∧St B kp wk w0 bw (nets.set i {t with σ:=t.σ.attach c x}) (p+1) w':=
 h.x hi (fun ρ hc F X=>dN0 X F (by omega) c x) (fun F=>F.attach c x) (fun hc X=>by
  obtain⟨e1,e2⟩:=iK hc c x;rw[e1,e2]
  exact⟨eN0 X c x,rfl⟩)
theorem yM0 (h:St B kp wk w0 bw nets p w){i:Nat}{t:Tw}(hi:nets[i]?=some t)(hp:p≤1000000000)(c x:Int):
  Calls Tryz.prog 15 #[.pointer (some ⟨t.br,0,none⟩),int c,int x] w fun e w'=>e=.returned (int (t.τ.attachE c x))∧St B kp wk w0 bw (nets.set i {t with τ:=t.τ.attach c x}) (p+1) w':=by
 refine h.r hi (fun ρ HF R=>?_) (fun HF hc=>?_)
 ·cases hc:t.τ.closed with
  | false=>
   have F:=HF hc;exact cN0 R F (by omega) c x
  | true=>
   obtain⟨e1,e2⟩:=iK hc c x;rw[e1,e2];refine(iO R c x (dY hc _)).mono ?_;rintro e w' ⟨rfl,q⟩
   exact⟨by rw[uC hc],ρ,by rw[q];exact R,by rw[q];exact aP0 R.lt⟩
 ·cases h2:t.τ.closed with
  | false=>exact(HF h2).attach c x
  | true=>
   have hc2:=h2;obtain⟨e1,e2⟩:=iK h2 c x;rw[e2] at hc;rw[hc] at hc2;cases hc2
theorem nL0 (h:St B kp wk w0 bw nets p w){i:Nat}{t:Tw}(hi:nets[i]?=some t)(_hp:p≤1000000000)(c:Int):
  Calls Tryz.prog 16 #[.pointer (some ⟨t.bx,0,none⟩),int c] w fun e w'=>e=.returned (int (t.σ.detachE c))∧St B kp wk w0 bw (nets.set i {t with σ:=t.σ.detach c}) (p+1) w':=
 h.x hi (fun ρ hc F X=>(kN0 X F c).mono fun e w' ⟨h1,h2,h3⟩=>⟨h1,ρ,h2,h3⟩) (fun F=>F.detach c) (fun hc X=>by
  obtain⟨e1,e2⟩:=tQ hc c;rw[e1,e2]
  exact⟨lN0 X c,rfl⟩)
theorem mL0 (h:St B kp wk w0 bw nets p w){i:Nat}{t:Tw}(hi:nets[i]?=some t)(c:Int):
  Calls Tryz.prog 17 #[.pointer (some ⟨t.br,0,none⟩),int c] w fun e w'=>e=.returned (int (t.τ.detachE c))∧St B kp wk w0 bw (nets.set i {t with τ:=t.τ.detach c}) (p+1) w':=by
 refine h.r hi (fun ρ HF R=>(jN0 R c).mono fun e w' ⟨h1,h2,h3⟩=>⟨h1,ρ,h2,h3⟩) (fun HF hc=>?_);cases h2:t.τ.closed with
 | false=>exact(HF h2).detach c
 | true=>
  rw[(tQ h2 c).2,h2] at hc;cases hc
theorem yG0 (h:St B kp wk w0 bw nets p w){i:Nat}{t:Tw}(hi:nets[i]?=some t)(hp:p≤1000000000)(c f0 f1 f2:Int):
  Calls Tryz.prog 18 #[.pointer (some ⟨t.bx,0,none⟩),int c,.agg #[int f0,int f1,int f2]] w fun e w'=>e=.returned (.tuple #[int (t.σ.pubA c),int (t.σ.pubE c)])∧St B kp wk w0 bw (nets.set i {t with σ:=t.σ.pub c f0 f1 f2}) (p+1) w':=
 h.x hi (fun ρ hc F X=>mJ0 X F (by omega) c f0 f1 f2) (fun F=>F.pub c f0 f1 f2) (fun hc X=>by
  obtain⟨e1,e2,e3⟩:=dR hc c f0 f1 f2;rw[e1,e2,e3]
  exact⟨nJ0 X c f0 f1 f2,rfl⟩)
theorem xG0 (h:St B kp wk w0 bw nets p w){i:Nat}{t:Tw}(hi:nets[i]?=some t)(hp:p≤1000000000)(c f0 f1 f2:Int):
  Calls Tryz.prog 19 #[.pointer (some ⟨t.br,0,none⟩),int c,.agg #[int f0,int f1,int f2]] w fun e w'=>e=.returned (.tuple #[int (t.τ.pubA c),int (t.τ.pubE c)])∧St B kp wk w0 bw (nets.set i {t with τ:=t.τ.pub c f0 f1 f2}) (p+1) w':=by
 refine h.r hi (fun ρ HF R=>?_) (fun HF hc=>?_)
 ·cases hc:t.τ.closed with
  | false=>
   have F:=HF hc;exact lJ0 R F (by omega) c f0 f1 f2
  | true=>
   obtain⟨e1,e2,e3⟩:=dR hc c f0 f1 f2;rw[e1,e2,e3];refine(eL R c f0 f1 f2 (dY hc _)).mono ?_;rintro e w' ⟨rfl,q⟩
   exact⟨by rw[uC hc],ρ,R.calm q,zQ0 R.lt q⟩
 ·cases h2:t.τ.closed with
  | false=>exact(HF h2).pub c f0 f1 f2
  | true=>
   have hc2:=h2;obtain⟨e1,e2,e3⟩:=dR h2 c f0 f1 f2;rw[e3] at hc;rw[hc] at hc2;cases hc2
theorem sM0 (h:St B kp wk w0 bw nets p w){i:Nat}{t:Tw}(hi:nets[i]?=some t)(_hp:p≤1000000000)(c k:Int):
  Calls Tryz.prog 54 #[.pointer (some ⟨t.bx,0,none⟩),int c,int k] w fun e w'=>e=.returned (int (t.σ.unsubE c k))∧St B kp wk w0 bw (nets.set i {t with σ:=t.σ.unsub c k}) (p+1) w':=
 h.x hi (fun ρ hc F X=>unsubX X F c k) (fun F=>F.unsub c k) (fun hc X=>by
  obtain⟨e1,e2⟩:=oM hc c k;rw[e1,e2]
  exact⟨unsubZ X c k,rfl⟩)
theorem rM0 (h:St B kp wk w0 bw nets p w){i:Nat}{t:Tw}(hi:nets[i]?=some t)(_hp:p≤1000000000)(c k:Int):
  Calls Tryz.prog 55 #[.pointer (some ⟨t.br,0,none⟩),int c,int k] w fun e w'=>e=.returned (int (t.τ.unsubE c k))∧St B kp wk w0 bw (nets.set i {t with τ:=t.τ.unsub c k}) (p+1) w':=by
 refine h.r hi (fun ρ HF R=>?_) (fun HF hc=>?_)
 ·cases hc:t.τ.closed with
  | false=>
   have F:=HF hc;exact unsubG R F c k
  | true=>
   obtain⟨e1,e2⟩:=oM hc c k;rw[e1,e2];refine(iP R c k (dY hc _)).mono ?_;rintro e w' ⟨rfl,q⟩
   exact⟨by rw[uC hc],ρ,by rw[q];exact R,by rw[q];exact aP0 R.lt⟩
 ·cases h2:t.τ.closed with
  | false=>exact(HF h2).unsub c k
  | true=>
   have hc2:=h2;obtain⟨e1,e2⟩:=oM h2 c k;rw[e2] at hc;rw[hc] at hc2;cases hc2
theorem qK0 (h:St B kp wk w0 bw nets p w){i:Nat}{t:Tw}(hi:nets[i]?=some t)(c:Int):
  Calls Tryz.prog 10 #[.pointer (some ⟨t.bx,0,none⟩),int c] w fun e w'=>e=.returned (.tuple #[.agg (t.σ.lookA c),int (t.σ.lookE c)])∧St B kp wk w0 bw nets p w'∧qA w w':=
 h.xCalm hi (Q:=fun e _=>e=.returned (.tuple #[.agg (t.σ.lookA c),int (t.σ.lookE c)])) (fun ρ hc F X=>lookX X F c) (fun hc X=>by
  obtain⟨e1,e2⟩:=gG0 hc c;rw[e1,e2]
  exact lookZ X c)
theorem lookSR (h:St B kp wk w0 bw nets p w){i:Nat}{t:Tw}(hi:nets[i]?=some t)(c:Int):
  Calls Tryz.prog 20 #[.pointer (some ⟨t.br,0,none⟩),int c] w fun e w'=>e=.returned (.tuple #[.agg (t.τ.lookA c),int (t.τ.lookE c)])∧St B kp wk w0 bw nets p w'∧qA w w':=
 h.rCalm hi (Q:=fun e _=>e=.returned (.tuple #[.agg (t.τ.lookA c),int (t.τ.lookE c)])) (fun _ρ _HF R=>lookG R c)
theorem sG0 (h:St B kp wk w0 bw nets p w){i:Nat}{t:Tw}(hi:nets[i]?=some t):
  Calls Tryz.prog 22 #[.pointer (some ⟨t.bx,0,none⟩)] w fun e w'=>(∃v,e=.returned v∧LinksAt w' w.heap.size v t.σ.pending)∧St B kp wk w0 bw nets p w'∧qA w w':=
 h.xCalm hi (Q:=fun e w'=>∃v,e=.returned v∧LinksAt w' w.heap.size v t.σ.pending) (fun ρ hc F X=>(iJ0 X F.len).mono fun e w' ⟨v,h1,h2,h3⟩=>⟨⟨v,h1,h2⟩,h3⟩) (fun hc X=>by
  rw[bG hc]
  exact(jJ0 X).mono fun e w' ⟨h1,h2⟩=>⟨⟨_,h1,jP0 _ _ _ _⟩,h2⟩)
theorem lV (h:St B kp wk w0 bw nets p w){i:Nat}{t:Tw}(hi:nets[i]?=some t):
  Calls Tryz.prog 23 #[.pointer (some ⟨t.br,0,none⟩)] w fun e w'=>(∃v,e=.returned v∧LinksAt w' w.heap.size v t.τ.pending)∧St B kp wk w0 bw nets p w'∧qA w w':=
 h.rCalm hi (Q:=fun e w'=>∃v,e=.returned v∧LinksAt w' w.heap.size v t.τ.pending) (fun ρ HF R=>by
  cases hc:t.τ.closed with
  | false=>exact(hJ0 R (HF hc).good hc (HF hc).len (HF hc).wait).mono fun e w' ⟨v,h1,h2,h3⟩=>⟨⟨v,h1,h2⟩,h3⟩
  | true=>
   rw[bG hc]
   exact(nX R hc).mono fun e w' ⟨h1,h2⟩=>⟨⟨_,h1,jP0 _ _ _ _⟩,by rw[h2];exact cP0 _ _⟩)
theorem gN0 (h:St B kp wk w0 bw nets p w){i:Nat}{t:Tw}(hi:nets[i]?=some t):
  Calls Tryz.prog 59 #[.pointer (some ⟨t.bx,0,none⟩)] w fun e w'=>e=.returned (.tuple #[int (if t.σ.closed then 0 else (t.σ.waiting:Int)),int (if t.σ.closed then 2 else 0)])∧St B kp wk w0 bw (nets.set i {t with σ:=t.σ.close}) (p+1) w':=by
 obtain⟨own,D,wb,wc,rfl,hn,h4,h6,be⟩:=h;have N:=wc.net i t hi;rcases N.x with⟨hcl,F,ρ,hX,hρ⟩ | ⟨hcl,hX,hown⟩
 ·rw[hcl];refine(closeX hX F.len).mono ?_;rintro e w' ⟨rfl,hX',T⟩
  have f:Stp (20,i) own own w w':=⟨T.mono (fun k _ hk=>Or.inr (hρ k hk)),fun k h0 hR=>⟨rfl,T.block k (yN wb.fresh h0) (fun hk=>hR (hρ k hk))⟩⟩;refine⟨rfl,own,{D with nets:=D.nets.set i {t with σ:=t.σ.close}},(wb.keep f (fun k hk=>wb.fresh k (mO0 T.size hk)) wb.base (Or.inl (by show 10≤20;decide))).withNets _,wc.turn hi (t':={t with σ:=t.σ.close}) rfl rfl (Or.inl rfl) f (m':=8*(p+1)) (by omega) ⟨⟨fun e=>(N.r.1 e).weak (by omega),NetOK.keepR f (fA (by decide)) N.r.2⟩,Or.inr ⟨rfl,hX',hρ t.bx (by rw[hX.net];simp)⟩⟩,rfl,fun o ho=>by have:=hn o ho;show D.n o≤_;omega,h4,h6,be.trans (T.below wb.lo ?_)⟩;intro k hk;exact wb.base k (by rw[hρ k hk];exact fA (by decide))
 ·rw[hcl];refine(closeZ hX).mono ?_;rintro e w' ⟨rfl,c⟩
  have hs:t.σ.close=t.σ:=by unfold Net.close;rw[←hcl]
  rw[hs,sX hi];exact⟨rfl,own,D,wb.calm c,(wc.calm wb.fresh c).weak (by omega),rfl,fun o ho=>by have:=hn o ho;omega,h4,h6,be.trans (c.below wb.lo (fun _ f=>f.elim))⟩
theorem fN0 (h:St B kp wk w0 bw nets p w){i:Nat}{t:Tw}(hi:nets[i]?=some t):
  Calls Tryz.prog 60 #[.pointer (some ⟨t.br,0,none⟩)] w fun e w'=>e=.returned (.tuple #[int (if t.τ.closed then 0 else (t.τ.waiting:Int)),int (if t.τ.closed then 2 else 0)])∧St B kp wk w0 bw (nets.set i {t with τ:=t.τ.close}) (p+1) w':=
 h.r hi (fun ρ HF R=>(closeG R).mono fun e w' ⟨h1,h2,h3⟩=>⟨h1,ρ,h2,h3⟩) (fun HF hc=>by cases hc)
theorem logSX (h:St B kp wk w0 bw nets p w){i:Nat}{t:Tw}(hi:nets[i]?=some t)(c:Int):
  Calls Tryz.prog 93 #[.pointer (some ⟨t.bx,0,none⟩),int c] w fun e w'=>∃v,e=.returned (.tuple #[v,int (t.σ.logE c)])∧StL 6 7 74 B kp wk w0 bw (nets.set i {t with σ:=t.σ.log c}) (p+1) (t.σ.logA c).length v ((t.σ.logA c).flatMap Ent.enc) w':=by
 obtain⟨own,D,wb,wc,rfl,hn,h4,h6,be⟩:=h;have N:=wc.net i t hi;have hk:yH 6 7:=Or.inr ⟨rfl,rfl⟩;rcases N.x with⟨hcl,F,ρ,hX,hρ⟩ | ⟨hcl,hX,hown⟩
 ·refine(logY hX c).mono ?_;rintro e w' ⟨v,ρ',rfl,hrow,hX',M,hsub,hg⟩
  refine⟨v,rfl,?_⟩;obtain⟨f,hρ2,hfr,hba⟩:=Stp.mv wb.fresh wb.base wb.lo hρ M;have hop:(t.σ.log c).closed=false:=hX'.open_;have wb1:=(wb.keep f hfr hba (Or.inl (by show 10≤20;decide)))
  have be1:Below B w0 w':=be.trans (M.touch.below wb.lo (by
   rintro k ⟨r,e,_⟩
   exact wb.base k (by rw[hρ k (by rw[e];simp)];exact fA (by decide))))
  rcases hrow.2 with⟨hv,h0⟩ | ⟨g,cap,cur,hv,hbg,hgg,r1⟩
  ·subst hv;have wc1:=wc.turn hi (t':={t with σ:=t.σ.log c}) rfl rfl (Or.inl rfl) f (m':=8*(p+1)) (by omega) ⟨⟨fun e=>(N.r.1 e).weak (by omega),NetOK.keepR f (fA (by decide)) N.r.2⟩,Or.inl ⟨hop,F.log c,ρ',hX',fun k hk=>hρ2 k (hsub k hk)⟩⟩;exact⟨_,_,⟨wb1.withNets _,wc1,be1,⟨⟨hrow.1,Or.inl ⟨rfl,h0⟩⟩,fun g hg=>by cases hg⟩,fun x hx g q cap hg=>by cases hg⟩,rfl,fun o ho=>by have:=hn o ho;show D.n o≤_;omega,h4,h6⟩
  ·subst hv;obtain⟨hg1,hg2⟩:=hg g rfl;have hog:mF own ρ (20,i) g=(20,i):=hρ2 g hg1;have f2:Stp (20,i) (mF own ρ (20,i)) (nD (mF own ρ (20,i)) g (12,0)) w' w':=Stp.gives hfr g (12,0) (20,i) (Or.inr hog);have hgl:g<w'.heap.size:=(tO0.1 hgg).1;have hgB:B≤g:=hba g (by rw[hog];exact fA (by decide))
   have f3:Stp (20,i) own (nD (mF own ρ (20,i)) g (12,0)) w w':=⟨f.touch,fun k h0 hR=>by
    have k1:=f.keep k h0 hR
    exact⟨((f2.keep k (by rw[k1.1];exact h0) (by rw[k1.1];exact hR)).1).trans k1.1,k1.2⟩⟩
   have wc1:=wc.turn hi (t':={t with σ:=t.σ.log c}) rfl rfl (Or.inl rfl) f3 (m':=8*(p+1)) (by omega) ⟨⟨fun e=>(N.r.1 e).weak (by omega),NetOK.keepR f3 (fA (by decide)) N.r.2⟩,Or.inl ⟨hop,F.log c,ρ',hX',fun k hk=>by
    rw[eC _ _ _ _ (fun e=>by subst e;exact hk hg2)]
    exact hρ2 k (hsub k hk)⟩⟩
   refine⟨_,_,⟨(wb1.gives g (12,0) (20,i) (Or.inr hog) (Or.inl (by show 10≤20;decide)) hgB hgl).withNets _,wc1,be1,⟨⟨hrow.1,Or.inr ⟨g,cap,cur,rfl,hgB,hgg,r1⟩⟩,fun g' hg'=>?_⟩,fun x hx g' q cap' hg' hxe=>?_⟩,rfl,fun o ho=>by have:=hn o ho;show D.n o≤_;omega,h4,h6⟩
   ·have:g=g':=bO0 hg';subst this;exact fD _ _ _
   ·have:g=g':=bO0 hg';subst this;obtain⟨a,q1,cap1,z,x1,x2,x3⟩:=(wc.marks hk) x hx;have hxe':=hxe;rw[x1] at hxe';simp only[Value.slice.injEq] at hxe';rcases x3 with x3 | ⟨g2,ha,hr,_⟩
    ·omega
    ·have:g2=g:=by
      have e:=hxe'.1;rw[ha] at e;simp only[Option.some.injEq,Addr.mk.injEq] at e;exact e.1
     subst this;rw[hρ g2 hg1] at hr;exact absurd hr (fA (by decide))
 ·obtain⟨e1,e2,e3⟩:=rS hcl c;rw[e1,e2,e3,sX hi];refine(logZ hX c).mono ?_;rintro e w' ⟨rfl,ca⟩
  exact⟨rA,rfl,own,D,⟨wb.calm ca,(wc.calm wb.fresh ca).weak (by omega),be.trans (ca.below wb.lo (fun _ f=>f.elim)),⟨jP0 _ _ _ _,fun g hg=>by cases hg⟩,fun x hx g q cap hg=>by cases hg⟩,rfl,fun o ho=>by have:=hn o ho;omega,h4,h6⟩
theorem logSR {n:Nat}{lv:Value}{xs:List Value}(h:StL 6 7 74 B kp wk w0 bw nets p n lv xs w){i:Nat}{t:Tw}(hi:nets[i]?=some t)(c:Int):
  Calls Tryz.prog 94 #[.pointer (some ⟨t.br,0,none⟩),int c] w fun e w'=>∃v,e=.returned (.tuple #[v,int (t.τ.logE c)])∧w'.ownsRow 0 74 7 v (t.τ.logA c).length ((t.τ.logA c).flatMap Ent.enc)∧StL 6 7 74 B kp wk w0 bw (nets.set i {t with τ:=t.τ.log c}) (p+1) n lv xs w':=by
 obtain⟨own,D,hK,rfl,hn,h4,h6⟩:=h;have wb:=hK.wb;have wc:=hK.wc;have N:=wc.net i t hi;obtain⟨hN1,ρ,hR,hρ⟩:=N.r;refine(logG hR c).mono ?_;rintro e w' ⟨v,rfl,hrow,hR',M⟩
 refine⟨v,rfl,hrow,?_⟩;obtain⟨f,hρ',hfr,hba⟩:=Stp.mv wb.fresh wb.base wb.lo hρ M;have hF:(t.τ.log c).closed=false→Fit (t.τ.log c) (8*p+8):=fun hc=>by
  cases h2:t.τ.closed with
  | false=>exact(hN1 h2).log c
  | true=>rw[(rS h2 c).2.2,h2] at hc;cases hc
 refine⟨mF own ρ (21,i),{D with nets:=D.nets.set i {t with τ:=t.τ.log c}},⟨(wb.keep f hfr hba (Or.inl (by show 10≤21;decide))).withNets _,wc.turn hi (t':={t with τ:=t.τ.log c}) rfl rfl (Or.inr rfl) f (m':=8*(p+1)) (by omega) ⟨⟨fun e=>hF e,ρ,hR',hρ'⟩,(NetOK.keepX f (fA (by decide)) N.x).imp (fun ⟨a,b,c⟩=>⟨a,b.weak (by omega),c⟩) id⟩,hK.below.trans (M.touch.below wb.lo ?_),hK.row.keep f (fA (by decide)) (by decide),hK.le⟩,rfl,fun o ho=>by have:=hn o ho;show D.n o≤_;omega,h4,h6⟩;rintro k ⟨r,e,_⟩
 exact wb.base k (by rw[hρ k (by rw[e];simp)];exact fA (by decide))
end
set_option maxHeartbeats 400000 in
theorem kE (x:Int)(w:World):Calls Tryz.prog 14 #[.int .i64 x] w fun e w'=>e=.returned (.int .i64 x)∧w'=w:=by
 go_enter Tryz.func14,Tryz.ntmps14
 go_wp2;go_ret
 exact⟨rfl,rfl⟩
def oE (c:Int)(n:Nat):Nat:=((if c<0 then -(c+1) else c)%n).toNat
theorem yA0 (c:Int)(n:Nat)(h:0<n):oE c n<n:=by
 unfold oE;have h1:(0:Int)≤(if c<0 then -(c+1) else c)%n:=Int.emod_nonneg _ (by omega);have h2:(if c<0 then -(c+1) else c)%(n:Int)<n:=Int.emod_lt_of_pos _ (by omega);omega
theorem tG0 (c:Int)(n:Nat)(hc:c<0)(h:0<n):((oE c n:Nat):Int)=-((c+1).tmod n):=by
 unfold oE;rw[if_pos hc,←Int.neg_tmod];have h1:(0:Int)≤(-(c+1))%n:=Int.emod_nonneg _ (by omega);rw[Int.tmod_eq_emod_of_nonneg (by omega),Int.toNat_of_nonneg h1]
theorem uG0 (c:Int)(n:Nat)(hc:0≤c)(h:0<n):((oE c n:Nat):Int)=c%n:=by
 unfold oE;rw[if_neg (by omega)];have h1:(0:Int)≤c%n:=Int.emod_nonneg _ (by omega);rw[Int.toNat_of_nonneg h1]
theorem gE0 {k:IntKind}{a b:Int}(h:a=b):Ending.returned (.int k a)=.returned (.int k b):=by rw[h]
set_option maxHeartbeats 400000 in
theorem zA0 (c:Int)(n:Nat)(w:World)(h1:-9223372036854775808≤c)(h2:c≤9223372036854775807)(hn:0<n)(hn2:n≤4611686018427387904):
  Calls Tryz.prog 12 #[.int .i64 c,.int .i64 n] w fun e w'=>e=.returned (.int .i64 (oE c n:Nat))∧w'=w:=by
 by_cases hc:c<0
 ·have hp:=tG0 c n hc hn;generalize (oE c n:Int)=v at*;have HP:=uA hp;clear hp;go_enter Tryz.func12,Tryz.ntmps12
  go_wp2;go_ret
  exact⟨gE0 (yA HP).symm,rfl⟩
 ·have hp:=uG0 c n (by omega) hn;generalize (oE c n:Int)=v at*;have HP:=uA hp;clear hp;go_enter Tryz.func12,Tryz.ntmps12
  go_wp2;go_ret
  exact⟨gE0 (yA HP).symm,rfl⟩
theorem eq35 (x y z:Int)(w:World):(Op.equalIn 9998 35 (.agg #[int x,int y,int z]) (.agg #[int x,int y,int z])).run Tryz.prog w=.ok true w:=by
 obtain⟨i,hi,_⟩:=kW;rw[run_equalIn_array (P:=Tryz.prog) w 9997 (t:=35) (e:=3) (n:=3) (i:=i) _ _ Tryz.underlying35 hi];have hc:Tryz.prog.cellsOf 3=1:=by kernel_rfl
 have hr:List.range 3=[0,1,2]:=rfl;rw[hc,hr];simp[Op.eqItems,go_sem,Tryz.underlying3]
theorem qC (w:World)(n:Nat):qA w (w.drewN n):=⟨rfl,rfl,rfl,qO0 _,fun _ _ _=>rfl⟩
theorem fH {w:World}{base e size n:Nat}{v:Value}{xs:List Value}(h:w.ownsRow base e size v n xs):∃a cap,v=.slice a n cap:=by
 rcases h.2 with⟨hv,h0⟩ | ⟨g,cap,cur,hv,_⟩
 ·exact⟨none,0,by rw[hv,h0]⟩
 ·exact⟨_,_,hv⟩
theorem eJ {w:World}{base e size n cap:Nat}{a:Option Addr}{xs:List Value}(h:w.ownsRow base e size (.slice a n cap) n xs)(hn:0<n):∃g,a=some ⟨g,0,none⟩∧∀(j:Nat) u,xs[j]?=some u→w.cell? ⟨g,j,none⟩=some u:=by
 rcases h.2 with⟨hv,h0⟩ | ⟨g,cap',cur,hv,_,hg,_⟩
 ·omega
 ·simp only[Value.slice.injEq] at hv;obtain⟨rfl,_,rfl⟩:=hv;refine⟨g,rfl,fun j u hu=>?_⟩;have:=h.cells (g:=g) rfl j u hu;rw[gP0] at this;simpa using this
theorem gX:∀(l:List Lnk) (k:Nat) (x:Lnk),l[k]?=some x→(l.flatMap Lnk.enc)[k*3]?=some (int x.a)∧(l.flatMap Lnk.enc)[k*3+1]?=some (int x.b)∧(l.flatMap Lnk.enc)[k*3+2]?=some (int x.many)
 | [],k,x,h=>by simp at h
 | t::l,0,x,h=>by
  have:t=x:=by simpa using h
  subst this;exact⟨rfl,rfl,rfl⟩
 | t::l,k+1,x,h=>by
  have:=gX l k x (by simpa using h);simp only[tP0,Lnk.enc,List.cons_append,List.nil_append];rw[show (k+1)*3=k*3+1+1+1 by omega];exact this
theorem tF0:∀(l:List Ent) (k:Nat) (x:Ent),l[k]?=some x→(l.flatMap Ent.enc)[k*7]?=some (int x.slot)∧(l.flatMap Ent.enc)[k*7+1]?=some (int x.lost)∧(l.flatMap Ent.enc)[k*7+2]?=some (int x.ev.pub)∧(l.flatMap Ent.enc)[k*7+3]?=some (int x.ev.num)∧(l.flatMap Ent.enc)[k*7+4]?=some (int x.ev.f0)∧(l.flatMap Ent.enc)[k*7+5]?=some (int x.ev.f1)∧(l.flatMap Ent.enc)[k*7+6]?=some (int x.ev.f2)
 | [],k,x,h=>by simp at h
 | t::l,0,x,h=>by
  have:t=x:=by simpa using h
  subst this;exact⟨rfl,rfl,rfl,rfl,rfl,rfl,rfl⟩
 | t::l,k+1,x,h=>by
  have:=tF0 l k x (by simpa using h);simp only[tP0,Ent.enc,Ev.enc,List.cons_append,List.nil_append];rw[show (k+1)*7=k*7+1+1+1+1+1+1+1 by omega];exact this
theorem dL (σ:Net):σ.pending.length≤36:=by
 cases h:σ.closed with
 | true=>rw[bG h];simp
 | false=>exact cP h
theorem St.logLen {B:Nat}{kp:Nat→Prop}{wk w0 w:World}{bw:Nat}{nets:List Tw}{p:Nat}(h:St B kp wk w0 bw nets p w){i:Nat}{t:Tw}(hi:nets[i]?=some t)(c:Int):(t.σ.logA c).length≤8*p:=by
 obtain⟨own,D,wb,wc,rfl,hn,h4,h6,be⟩:=h;have N:=wc.net i t hi;rcases N.x with⟨hcl,F,_⟩ | ⟨hcl,_⟩
 ·by_cases hE:t.σ.logE c=0
  ·obtain⟨d,hd,rfl⟩:=uE (σ:=t.σ) hE;have:=F.r.slack.log d hd;unfold Net.logA;rw[if_pos hE,iO0];omega
  ·unfold Net.logA;rw[if_neg hE];simp
 ·rw[(rS hcl c).2.1];simp
end Go.Proofs.YtodfcpblcpogiaaGreat

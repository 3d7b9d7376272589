import Derived.Test.YtodfcpblcpogiaaGreatEv
import Derived.Test.YtodfcpblcpogiaaGreatMvs
import Derived.Test.YtodfcpblcpogiaaGreatArr
import Derived.Test.YtodfcpblcpogiaaGreatPend
namespace Go.Proofs.YtodfcpblcpogiaaGreat
open Go.RowKit
def tI (σ:Net)(y:Nat)(fr:Option Nat):Fr→Prop
 | .sub s _ _=>s<8
 | .unsub s _=>s<8
 | .event e=>∃m,e.lim (m+1)∧Warm σ m∧m<2000000000000
 | .move s _ _ old new=>s<8∧old<σ.n∧new<σ.n∧old≠new∧∃z,fr=some z∧(y=old→tB σ.par y new=z)
 | .rest s evs mo new=>s<8∧new<σ.n∧(y=new→∃f,RestOk σ y (s/2) (s%2) evs mo f)
section
variable {w : World} {b : Nat} {ρ : Nat → Option Role} {σ : Net}
set_option maxRecDepth 100000 in
set_option maxHeartbeats 1000000 in
theorem gD0 (h:XN w b ρ σ)(T:Tree σ.par){x:Nat}{fr:Option Nat}(hx:x<σ.n)(hlen:∀y,(σ.q x y).length<2000){c k:Nat}(hc:c<4)(hk:k<2)(age:Int)(fl:List Tst){fb:Nat}(hf:FrAt w ρ (.sub (2*c+k) age fl) fb):
  Calls Tryz.prog 48 #[.pointer (some ⟨b,0,none⟩),int x,int (whr fr),ptr fb] w fun e w'=>e=.returned (.tuple #[])∧∃ρ',XN w' b ρ' (σ.handle x fr (.sub (2*c+k) age fl))∧Mv uB ρ ρ' w w':=by
 obtain⟨hr,_,_,_,hf',_⟩:=id hf;rw[oP c k hk] at hf';have c0:w.cell? ⟨fb,0,none⟩=some (int 0):=xA hf' 0;have hfl:=h.lt fb (by rw[hr];simp)
 have HX:=uA h;have HF:=uA hf;clear h hf hf';go_enter Tryz.func48,Tryz.ntmps48
 go_wp2_with (go_at_call 79;refine(fD0 (fr:=fr) ((yA HX).calm ((cP0 _ _).alloc _)) T hx hlen hc hk age fl ((yA HF).calm (yA HX).lt ((cP0 _ _).alloc _))).mono ?_;rintro r w1 ⟨rfl,ρ1,h1,m1⟩)
 go_end0
 exact⟨rfl,ρ1,h1,(zQ0 (yA HX).lt ((cP0 _ _).alloc _)).trans (m1.mono (fun _ _=>trivial))⟩
set_option maxRecDepth 100000 in
set_option maxHeartbeats 1000000 in
theorem uY (h:XN w b ρ σ)(T:Tree σ.par){x:Nat}{fr:Option Nat}(hx:x<σ.n)(hlen:∀y,(σ.q x y).length<2000){c k:Nat}(hc:c<4)(hk:k<2)(age:Int){fb:Nat}(hf:FrAt w ρ (.unsub (2*c+k) age) fb):
  Calls Tryz.prog 48 #[.pointer (some ⟨b,0,none⟩),int x,int (whr fr),ptr fb] w fun e w'=>e=.returned (.tuple #[])∧∃ρ',XN w' b ρ' (σ.handle x fr (.unsub (2*c+k) age))∧Mv uB ρ ρ' w w':=by
 obtain⟨hr,_,_,_,hf',_⟩:=id hf;rw[mK c k hk] at hf';have c0:w.cell? ⟨fb,0,none⟩=some (int 1):=xA hf' 0;have hfl:=h.lt fb (by rw[hr];simp)
 have HX:=uA h;have HF:=uA hf;clear h hf hf';go_enter Tryz.func48,Tryz.ntmps48
 go_wp2_with (go_at_call 80;refine(sY (fr:=fr) ((yA HX).calm ((cP0 _ _).alloc _)) T hx hlen hc hk age ((yA HF).calm (yA HX).lt ((cP0 _ _).alloc _))).mono ?_;rintro r w1 ⟨rfl,ρ1,h1,m1⟩)
 go_end0
 exact⟨rfl,ρ1,h1,(zQ0 (yA HX).lt ((cP0 _ _).alloc _)).trans (m1.mono (fun _ _=>trivial))⟩
set_option maxRecDepth 100000 in
set_option maxHeartbeats 1000000 in
theorem tY (h:XN w b ρ σ){x:Nat}{fr:Option Nat}(hx:x<σ.n)(hlen:∀y,(σ.q x y).length<2000){m:Nat}(Wm:Warm σ m)(hm:m<2000000000000){e:News}(he:e.lim (m+1)){fb:Nat}(hf:FrAt w ρ (.event e) fb):
  Calls Tryz.prog 48 #[.pointer (some ⟨b,0,none⟩),int x,int (whr fr),ptr fb] w fun r w'=>r=.returned (.tuple #[])∧∃ρ',XN w' b ρ' (σ.handle x fr (.event e))∧Mv uB ρ ρ' w w':=by
 obtain⟨hr,_,_,_,hf',_⟩:=id hf;rw[pH] at hf';have c0:w.cell? ⟨fb,0,none⟩=some (int 2):=xA hf' 0;have hfl:=h.lt fb (by rw[hr];simp)
 have HX:=uA h;have HF:=uA hf;have HW:=uA Wm;have HE:=uA he;clear h hf hf' Wm he;go_enter Tryz.func48,Tryz.ntmps48
 go_wp2_with (go_at_call 81;refine(qP (fr:=fr) ((yA HX).calm ((cP0 _ _).alloc _)) hx hlen (yA HW) hm (yA HE) ((yA HF).calm (yA HX).lt ((cP0 _ _).alloc _))).mono ?_;rintro r w1 ⟨rfl,ρ1,h1,m1⟩)
 go_end0
 exact⟨rfl,ρ1,h1,(zQ0 (yA HX).lt ((cP0 _ _).alloc _)).trans (m1.mono (fun _ _=>trivial))⟩
set_option maxRecDepth 100000 in
set_option maxHeartbeats 1000000 in
theorem dA0 (h:XN w b ρ σ)(T:Tree σ.par){x y:Nat}(hx:x<σ.n)(hlen:∀y,(σ.q x y).length<2000){c k:Nat}(hc:c<4)(hk:k<2)(age:Int)(fl:List Tst){old new:Nat}(ho:old<σ.n)(hn:new<σ.n)(hon:old≠new)(hway:x=old→tB σ.par x new=y){fb:Nat}(hf:FrAt w ρ (.move (2*c+k) age fl old new) fb):
  Calls Tryz.prog 48 #[.pointer (some ⟨b,0,none⟩),int x,int (y:Nat),ptr fb] w fun e w'=>e=.returned (.tuple #[])∧∃ρ',XN w' b ρ' (σ.handle x (some y) (.move (2*c+k) age fl old new))∧Mv uB ρ ρ' w w':=by
 obtain⟨hr,_,_,_,hf',_⟩:=id hf;rw[xJ c k hk] at hf';have c0:w.cell? ⟨fb,0,none⟩=some (int 3):=xA hf' 0;have hfl:=h.lt fb (by rw[hr];simp)
 have HX:=uA h;have HF:=uA hf;have HWY:=uA hway;clear h hf hf' hway;go_enter Tryz.func48,Tryz.ntmps48
 go_wp2_with (go_at_call 82;refine(cA0 ((yA HX).calm ((cP0 _ _).alloc _)) T hx hlen hc hk age fl ho hn hon (yA HWY) ((yA HF).calm (yA HX).lt ((cP0 _ _).alloc _))).mono ?_;rintro r w1 ⟨rfl,ρ1,h1,m1⟩)
 go_end0
 exact⟨rfl,ρ1,h1,(zQ0 (yA HX).lt ((cP0 _ _).alloc _)).trans m1⟩
set_option maxRecDepth 100000 in
set_option maxHeartbeats 1000000 in
theorem eA0 (h:XN w b ρ σ)(T:Tree σ.par){x:Nat}{fr:Option Nat}(hx:x<σ.n)(hlen:∀y,(σ.q x y).length<2000){c k:Nat}(hc:c<4)(hk:k<2){evs:List News}{mo:Int}{new:Nat}(hn:new<σ.n)(hend:x=new→∃f,RestOk σ x c k evs mo f){fb:Nat}(hf:FrAt w ρ (.rest (2*c+k) evs mo new) fb):
  Calls Tryz.prog 48 #[.pointer (some ⟨b,0,none⟩),int x,int (whr fr),ptr fb] w fun e w'=>e=.returned (.tuple #[])∧∃ρ',XN w' b ρ' (σ.handle x fr (.rest (2*c+k) evs mo new))∧Mv uB ρ ρ' w w':=by
 obtain⟨hr,a,u,kv,hf1,hu,_,_⟩:=id hf;obtain⟨c0,_⟩:=yJ c k hk evs mo new a u kv w fb hu hf1;have hfl:=h.lt fb (by rw[hr];simp)
 have hx6:x<6:=sO0 hx (gB T);have HX:=uA h;have HF:=uA hf;clear h hf hf1;by_cases hxn:x=new
 ·obtain⟨f,hR⟩:=hend hxn;subst hxn;have hst:σ.handle x fr (.rest (2*c+k) evs mo x)=((((σ.lose (2*c+k) mo).tells (2*c+k) evs).tells (2*c+k) f.kept).know x (2*c+k) (some {f with kept:=[],waits:=false})):=by
   simp only[Net.handle,ne_eq,not_true_eq_false,if_false,hR.known]
  rw[hst];have HR:=uA hR;clear hR hst hend;go_enter Tryz.func48,Tryz.ntmps48
  go_wp2_with (go_at_call 83;refine(cS ((yA HX).calm ((cP0 _ _).alloc _)) hx6 hc hk (yA HR) (whr fr) ((yA HF).calm (yA HX).lt ((cP0 _ _).alloc _))).mono ?_;rintro r w1 ⟨rfl,ρ1,h1,m1⟩)
  go_end0
  exact⟨rfl,ρ1,h1,(zQ0 (yA HX).lt ((cP0 _ _).alloc _)).trans (m1.mono (fun _ _=>trivial))⟩
 ·have hst:σ.handle x fr (.rest (2*c+k) evs mo new)=σ.push x (tB σ.par x new) (.rest (2*c+k) evs mo new):=by
   simp only[Net.handle,ne_eq,hxn,not_false_eq_true,if_true]
  rw[hst];clear hst hend;go_enter Tryz.func48,Tryz.ntmps48
  go_wp2_with (go_at_call 83;refine(kU ((yA HX).calm ((cP0 _ _).alloc _)) T hx hlen hk hn hxn (whr fr) ((yA HF).calm (yA HX).lt ((cP0 _ _).alloc _))).mono ?_;rintro r w1 ⟨rfl,ρ1,h1,m1⟩)
  go_end0
  exact⟨rfl,ρ1,h1,(zQ0 (yA HX).lt ((cP0 _ _).alloc _)).trans (m1.mono (fun _ _=>trivial))⟩
theorem iI (h:XN w b ρ σ)(T:Tree σ.par){y:Nat}{fr:Option Nat}(hy:y<σ.n)(hlen:∀z,(σ.q y z).length<2000){f:Fr}(hcan:tI σ y fr f){fb:Nat}(hf:FrAt w ρ f fb):
  Calls Tryz.prog 48 #[.pointer (some ⟨b,0,none⟩),int y,int (whr fr),ptr fb] w fun r w'=>r=.returned (.tuple #[])∧∃ρ',XN w' b ρ' (σ.handle y fr f)∧Mv uB ρ ρ' w w':=by
 have hs:∀s,2*(s/2)+s%2=s:=fun s=>by omega
 cases f with
 | sub s age fl=>
  have hcan:s<8:=hcan;have:=gD0 h T (fr:=fr) hy hlen (c:=s/2) (k:=s%2) (by omega) (by omega) age fl (fb:=fb) (by rw[hs];exact hf);rw[hs] at this;exact this
 | unsub s age=>
  have hcan:s<8:=hcan;have:=uY h T (fr:=fr) hy hlen (c:=s/2) (k:=s%2) (by omega) (by omega) age (fb:=fb) (by rw[hs];exact hf);rw[hs] at this;exact this
 | event e=>
  obtain⟨m,h1,h2,h3⟩:=hcan;exact tY h hy hlen h2 h3 h1 hf
 | move s age fl old new=>
  obtain⟨h1,h2,h3,h4,z,rfl,h5⟩:=hcan;have:=dA0 h T (y:=z) hy hlen (c:=s/2) (k:=s%2) (by omega) (by omega) age fl h2 h3 h4 h5 (fb:=fb) (by rw[hs];exact hf);rw[hs] at this;exact this
 | rest s evs mo new=>
  obtain⟨h1,h2,h3⟩:=hcan;have:=eA0 h T (fr:=fr) hy hlen (c:=s/2) (k:=s%2) (by omega) (by omega) (evs:=evs) (mo:=mo) h2 h3 (fb:=fb) (by rw[hs];exact hf);rw[hs] at this;exact this
end
theorem Warm.pop {σ:Net}{m:Nat}(W:Warm σ m){x y:Nat}{f:Fr}{r:List Fr}(hq:σ.q x y=f::r)(hf:f.isMv=false)(hx:x<6)(hy:y<6):Warm {σ with q:=xB σ.q x y r} m:=by
 obtain⟨E,h1,h2⟩:=W.news;have hs:=W.slack.pop hx hy hq 0;have hk:∀s,({σ with q:=xB σ.q x y r}:Net).view s={σ.view s with q:=fun a b=>(xB σ.q x y r a b).filter (Fr.about s)}:=fun s=>rfl;refine⟨⟨W.live.good.pop hq,fun s hs=>?_,W.live.kept,W.live.home⟩,hs.weak (by omega) (qO0 _),W.nums.of rfl rfl,E,h1.pop hq,h2⟩;rw[hk];refine(W.live.view s hs).frames (fun a b g hg=>Or.inl ?_) (fun a b=>?_)
 ·have hg:=dO0.1 hg;refine dO0.2 ⟨?_,hg.2⟩;by_cases e:a=x∧b=y
  ·obtain⟨rfl,rfl⟩:=e;have h3:=hg.1;rw[put2_same] at h3;rw[hq];exact kO0 _ h3
  ·have h3:=hg.1;rw[jA _ _ e] at h3;exact h3
 ·show ((xB σ.q x y r a b).filter (Fr.about s)).filter Fr.isMv=((σ.q a b).filter (Fr.about s)).filter Fr.isMv
  rw[List.filter_filter,List.filter_filter];by_cases e:a=x∧b=y
  ·obtain⟨rfl,rfl⟩:=e;rw[put2_same,hq,List.filter_cons];simp[hf]
  ·rw[jA _ _ e]
theorem kI (σ:Net){c k:Nat}(hk:k<2)(mo:Int):((σ.lose (2*c+k) mo).cl c).used=(σ.cl c).used∧((σ.lose (2*c+k) mo).cl c).told=(σ.cl c).told∧((σ.lose (2*c+k) mo).cl c).log.length≤(σ.cl c).log.length+1:=by
 have h2c:(2*c+k)/2=c:=by omega
 have hcl:(σ.lose (2*c+k) mo).cl c=(σ.cl c).lose ((2*c+k)%2) mo:=by simp[Net.lose,Net.setCl,h2c]
 rw[hcl];unfold Cli.lose;split<;>simp
theorem fF {c k:Nat}(hk:k<2):∀(l:List News) (σ:Net),((σ.tells (2*c+k) l).cl c).used=(σ.cl c).used∧(((σ.tells (2*c+k) l).cl c).told k).length≤((σ.cl c).told k).length+l.length∧((σ.tells (2*c+k) l).cl c).log.length≤(σ.cl c).log.length+l.length
 | [],_=>⟨rfl,qO0 _,qO0 _⟩
 | e::l,σ=>by
  have h2c:(2*c+k)/2=c:=by omega
  have h2k:(2*c+k)%2=k:=by omega
  have hcl:(σ.tell (2*c+k) e).cl c=(σ.cl c).tell k e:=by simp[Net.tell,Net.setCl,h2c,h2k]
  obtain⟨h1,h2,h3⟩:=fF hk l (σ.tell (2*c+k) e);have h4:((σ.cl c).tell k e).used=(σ.cl c).used∧(((σ.cl c).tell k e).told k).length≤((σ.cl c).told k).length+1∧((σ.cl c).tell k e).log.length≤(σ.cl c).log.length+1:=by
   unfold Cli.tell;split<;>simp
  rw[hcl] at h1 h2 h3;have e1:(σ.tell (2*c+k) e).tells (2*c+k) l=σ.tells (2*c+k) (e::l):=rfl;rw[e1] at h1 h2 h3;refine⟨h1.trans h4.1,?_,?_⟩
  ·simp only[gO0];omega
  ·simp only[gO0];omega
theorem Fit.can {σ:Net}{m:Nat}(F:Fit σ m)(hm:m<2000000000000){x y:Nat}{f:Fr}{r:List Fr}(hq:σ.q x y=f::r):tI {σ with q:=xB σ.q x y r} y (some x) f:=by
 have hn:=F.good.nbr x y (by rw[hq];simp)
 have h6:=dB F.good.tree hn;have hok:=F.good.frames x y f (by rw[hq];exact lO0 ..);have hW:=F.r.warm;obtain⟨E,hP,hE⟩:=hW.news;have hnw:∀e,e∈aR f→e.lim m:=fun e he=>hE e (hP.fr x y f (by rw[hq];exact lO0 ..) e he);cases f with
 | sub s age fl=>exact hok.1
 | unsub s age=>exact hok
 | event e=>exact⟨m,(hnw e (eO0.2 rfl)).weak (by omega),hW.pop hq rfl h6.1 h6.2,hm⟩
 | move s age fl old new=>
  have hok:s<8∧yB fl=true∧old<σ.n∧new<σ.n:=hok;have hw:=F.mv x y s age fl old new (by rw[hq];exact lO0 ..);have hne:old≠new:=by
   have hab:(Fr.move s age fl old new).about s=true:=by simp[Fr.about]
   have h1:=xY hq hab;have h2:(σ.view s).mv x y=.move s age fl old new::(r.filter (Fr.about s)).filter Fr.isMv:=by
    show ((σ.view s).q x y).filter Fr.isMv=_
    rw[h1,List.filter_cons];rfl
   rcases(F.live.view s hok.1).ph.of_mem h2 with⟨h,o,_,_,_,h3,_,_,_,_,_,_,h4⟩ | ⟨_,_,_,_,_,_,_,_,_,_,h4⟩
   ·cases h4;exact h3
   ·cases h4
  exact⟨hok.1,hok.2.2.1,hok.2.2.2,hne,x,rfl,fun _=>hw.2.2⟩
 | rest s evs mo new=>
  have hok:s<8∧new<σ.n∧0≤mo:=hok;refine⟨hok.1,hok.2.1,fun hyn=>?_⟩;subst hyn;have hab:(Fr.rest s evs mo y).about s=true:=by simp[Fr.about]
  have h1:=xY hq hab;have h2:(σ.view s).mv x y=.rest s evs mo y::(r.filter (Fr.about s)).filter Fr.isMv:=by
   show ((σ.view s).q x y).filter Fr.isMv=_
   rw[h1,List.filter_cons];rfl
  rcases(F.live.view s hok.1).ph.of_mem h2 with⟨_,_,_,_,_,_,_,_,_,_,_,_,h4⟩ | ⟨h,evs',more',hu,hh,he,hc,_,_,_,h4⟩
  ·cases h4
  ·cases h4;have hc:(σ.kn y s).map Fact.co=some ⟨(σ.view s).age,(σ.view s).fl,none,true⟩:=hc
   cases hk:σ.kn y s with
   | none=>rw[hk] at hc;cases hc
   | some f=>
    rw[hk] at hc;have hco:f.co=⟨(σ.view s).age,(σ.view s).fl,none,true⟩:=bO0 hc;have hwt:f.waits=true:=congrArg Co.waits hco;have hN:=F.r.nums.kn y s f hk;have hs2:2*(s/2)+s%2=s:=by omega
    have hS:=F.r.slack.pop h6.1 h6.2 hq s;have hmK:oB (σ.kn y s)≤σ.massK s:=jI (f:=fun b=>oB (σ.kn b s)) h6.2;rw[hk] at hmK;have hkl:oB (some f)=f.kept.length:=rfl;have hrl:tC s (.rest s evs mo y)=evs.length:=by simp[tC]
    have hmass:f.kept.length≤Net.mass {σ with q:=xB σ.q x y r} s:=by
     show _≤σ.massK s+_
     omega
    have hT1:=hS.told s hok.1;have hT2:=hS.log (s/2) (by omega);rw[if_pos rfl,hrl] at hT1 hT2;have hmass2:f.kept.length≤Net.mass {σ with q:=xB σ.q x y r} (2*(s/2))+Net.mass {σ with q:=xB σ.q x y r} (2*(s/2)+1):=by
     by_cases e:s%2=0
     ·rw[show 2*(s/2)=s by omega];omega
     ·rw[show 2*(s/2)+1=s by omega];omega
    have htold:((σ.cl (s/2)).told (s%2)).length+evs.length+f.kept.length≤m:=by
     have:Net.toldN {σ with q:=xB σ.q x y r} s=((σ.cl (s/2)).told (s%2)).length:=rfl;omega
    have hlog:(σ.cl (s/2)).log.length+evs.length+f.kept.length≤m:=by
     have:(Net.cl {σ with q:=xB σ.q x y r} (s/2)).log.length=(σ.cl (s/2)).log.length:=rfl;omega
    have hused:(σ.cl (s/2)).used (s%2)=true:=hu;have hrise:=hW.rising (s/2) (s%2);have hok1:∀e,e∈evs→e.ok:=fun e he=>by have:=hnw e he;unfold News.ok;unfold News.lim at this;omega
    have hok2:∀e,e∈f.kept→e.ok:=fun e he=>by have:=hE e (hP.kn y s f hk e he);unfold News.ok;unfold News.lim at this;omega
    have hl1:=kI ({σ with q:=xB σ.q x y r}:Net) (c:=s/2) (k:=s%2) (by omega) mo;have c1:CanTell (({σ with q:=xB σ.q x y r}:Net).lose (2*(s/2)+s%2) mo) (s/2) (s%2) (evs++f.kept):=by
     refine⟨by rw[hl1.1];exact hused,by rw[hl1.2.1];exact hrise,fun e he=>?_,?_,?_⟩
     ·rcases xP0.1 he with he | he
      ·exact hok1 e he
      ·exact hok2 e he
     ·have h3:=hl1.2.2;have h4:(Net.cl {σ with q:=xB σ.q x y r} (s/2)).log.length=(σ.cl (s/2)).log.length:=rfl;rw[hO0];omega
     ·rw[hl1.2.1,hO0];have h4:((Net.cl {σ with q:=xB σ.q x y r} (s/2)).told (s%2)).length=((σ.cl (s/2)).told (s%2)).length:=rfl;omega
    have c2:=CanTell.tells (c:=s/2) (k:=s%2) (by omega) evs c1;refine⟨f,by rw[hs2];exact hk,Or.inl ⟨c1.used,c1.ris,hok1,by have:=c1.log;rw[hO0] at this;omega,by have:=c1.told;rw[hO0] at this;omega⟩,Or.inl ?_,hN.none hwt⟩;rw[hN.none hwt,zL _ _ (by omega)];exact c2
theorem eW {σ:Net}(ho:σ.closed=false){x y:Nat}(hn:iB σ.par x y=true){f:Fr}{l:List Fr}(hq:σ.q x y=f::l):σ.delE x y=0∧σ.del x y=Net.handle {σ with q:=xB σ.q x y l} y (some x) f:=by
 have hE:σ.delE x y=0:=by simp[Net.delE,Net.asked,ho,Net.isLink,hn,hq]
 refine⟨hE,?_⟩;simp only[Net.del,hE,if_true,lF,hq]
set_option maxRecDepth 100000 in
set_option maxHeartbeats 1000000 in
theorem kL0 {w:World}{b:Nat}{ρ:zA}{σ:Net}(h:XN w b ρ σ){m:Nat}(F:Fit σ m)(hm:m<2000000000000){x y:Nat}{f:Fr}{l:List Fr}(hq:σ.q x y=f::l):
    Calls Tryz.prog 56 #[.pointer (some ⟨b,0,none⟩),int x,int y] w fun e w'=>e=.returned (int 0)∧∃ρ',XN w' b ρ' (σ.del x y)∧Mv uB ρ ρ' w w':=by
  have T:=F.good.tree;have h5:=T.1;have hn:=F.good.nbr x y (by rw[hq];simp)
  have h6:=dB T hn;have hyn:y<σ.n:=(bB T hn).2;have hdel:=(eW h.open_ hn hq).2;have hfr:=F.can hm hq;have hlen:=F.len;have hG0:=F.good.pop hq;obtain⟨a,cap,ha,hpa⟩:=h.par;have hcl:=h.closed;have HX:=uA h;have HPA:=uA hpa;have HF:=uA F;have HDEL:=uA hdel;have HFR:=uA hfr;have HG:=uA hG0;have HQ:=uA hq;have hlen0:∀z,(xB σ.q x y l y z).length<2000:=fun z=>by
    rw[jA _ _ (fun e=>jM0 T hn e.1.symm)];exact hlen y z
  have HLEN0:=uA hlen0;clear h hpa F hdel hfr hlen hG0 hq hlen0;go_enter Tryz.func56,Tryz.ntmps56
  go_wp2_with (first
    | (go_at_call 90;refine(pD a cap σ.par x y _ h5 ?_).mono ?_;exact yA HPA;rw[hn];rintro r w1 ⟨rfl,ht1⟩
       have hcl1:=ht1.cell (p:=⟨b,0,none⟩) id hcl;have HX1:=uA ((yA HX).calm ht1);have HM1:Hid (Mv uB ρ ρ w w1):=zQ0 (yA HX).lt ht1
       clear ht1 hcl)
    | (go_at_call 25;refine(sB _ _ _ hcl1).mono ?_;rintro r w2 ⟨rfl,rfl⟩
       have hct:chk true=0:=rfl)
    | (go_at_call 91;refine(takeX (x:=x) (y:=y) (yA HX1) h6.1 h6.2 hn (yA HQ)).mono ?_;rintro r w3 ⟨fb,rfl,hX3,hM3,hf3⟩
       have HX3:=uA hX3;have HM3:=uA ((yA HM1).trans (hM3.mono (fun _ _=>trivial)));have HF3:=uA hf3
       clear hX3 hM3 hf3)
    | (go_at_call 48;refine(iI (fr:=some x) (yA HX3) T hyn (fun z=>?_) (yA HFR) (yA HF3)).mono ?_;exact yA HLEN0 z;rintro r w4 ⟨rfl,ρ4,hX4,hM4⟩))
  go_ret;exact⟨rfl,ρ4,by rw[yA HDEL];exact hX4,(yA HM3).trans hM4⟩
end Go.Proofs.YtodfcpblcpogiaaGreat

import Derived.Test.YtodfcpblcpogiaaGreatClose
import Derived.Test.YtodfcpblcpogiaaGreatSp
namespace Go.Proofs.YtodfcpblcpogiaaGreat
open Go.RowKit
abbrev Own:Type:=Nat→Nat × Nat
structure Stp (R:Nat × Nat)(o o':Own)(w w':World):Prop where
 touch:Touch (fun k=>o k=(0,0)∨o k=R) w w'
 keep:∀k,o k≠(0,0)→o k≠R→o' k=o k∧w'.heap[k]?=w.heap[k]?
structure Tw where
 bx:Nat
 br:Nat
 σ:Net
 τ:Net
theorem fA {a b c d:Nat}(h:a≠c):((a,b):Nat × Nat)≠(c,d):=fun e=>h (congrArg Prod.fst e)
theorem kB0 {a b c d:Nat}(h:b≠d):((a,b):Nat × Nat)≠(c,d):=fun e=>h (congrArg Prod.snd e)
structure NetOK (own:Own)(w:World)(m i:Nat)(t:Tw):Prop where
 r:(t.τ.closed=false→Fit t.τ m)∧∃ρ,RG w t.br ρ t.τ∧∀k,ρ k≠none→own k=(21,i)
 x:(t.σ.closed=false∧Fit t.σ m∧∃ρ,XN w t.bx ρ t.σ∧∀k,ρ k≠none→own k=(20,i))∨(t.σ.closed=true∧XC w t.bx∧own t.bx=(20,i))
section
variable {own own' : Own} {w w' : World} {R : Nat × Nat}
theorem yN (hf:∀k,w.heap.size≤k→own k=(0,0)){k:Nat}(h:own k≠(0,0)):k<w.heap.size:=by
 by_cases hlt:k<w.heap.size
 ·exact hlt
 ·exact absurd (hf k (by omega)) h
theorem Stp.apart (f:Stp R own own' w w'){ρ:zA}{Q:Nat × Nat}(h:∀k,ρ k≠none→own k=Q)(h0:Q≠(0,0))(hR:Q≠R):(∀k,(own k=(0,0)∨own k=R)→ρ k=none)∧∀k,ρ k≠none→own' k=Q:=by
 refine⟨fun k hk=>?_,fun k hk=>(f.keep k (by rw[h k hk];exact h0) (by rw[h k hk];exact hR)).1.trans (h k hk)⟩;cases e:ρ k with
 | none=>rfl
 | some r=>
  have:=h k (by rw[e];simp)
  rcases hk with hk | hk
  ·exact absurd (this.symm.trans hk) h0
  ·exact absurd (this.symm.trans hk) hR
theorem NetOK.keepR {i:Nat}{t:Tw}(f:Stp R own own' w w')(h1:R≠(21,i)){τ:Net}(h:∃ρ,RG w t.br ρ τ∧∀k,ρ k≠none→own k=(21,i)):∃ρ,RG w' t.br ρ τ∧∀k,ρ k≠none→own' k=(21,i):=by
 obtain⟨ρ,r1,r2⟩:=h;have a:=f.apart r2 (fA (by decide)) h1.symm;exact⟨ρ,r1.still f.touch a.1,a.2⟩
theorem NetOK.keepX {m i:Nat}{t:Tw}(f:Stp R own own' w w')(h0:R≠(20,i))(h:(t.σ.closed=false∧Fit t.σ m∧∃ρ,XN w t.bx ρ t.σ∧∀k,ρ k≠none→own k=(20,i))∨(t.σ.closed=true∧XC w t.bx∧own t.bx=(20,i))):
  (t.σ.closed=false∧Fit t.σ m∧∃ρ,XN w' t.bx ρ t.σ∧∀k,ρ k≠none→own' k=(20,i))∨(t.σ.closed=true∧XC w' t.bx∧own' t.bx=(20,i)):=by
 rcases h with⟨hc,hF,ρ,x1,x2⟩ | ⟨hc,hX,ho⟩
 ·have a:=f.apart x2 (fA (by decide)) h0.symm;exact Or.inl ⟨hc,hF,ρ,x1.keep f.touch (fun k hk hS=>hk (a.1 k hS)),a.2⟩
 ·have kb:=f.keep t.bx (by rw[ho];exact fA (by decide)) (by rw[ho];exact h0.symm);refine Or.inr ⟨hc,hX.keep f.touch (fun hS=>?_),kb.1.trans ho⟩;rw[ho] at hS;rcases hS with hS | hS
  ·exact absurd hS (fA (by decide))
  ·exact h0 hS.symm
theorem NetOK.keep {m i:Nat}{t:Tw}(h:NetOK own w m i t)(f:Stp R own own' w w')(h0:R≠(20,i))(h1:R≠(21,i)):NetOK own' w' m i t:=
 ⟨⟨h.r.1,NetOK.keepR f h1 h.r.2⟩,NetOK.keepX f h0 h.x⟩
theorem NetOK.weak {m m' i:Nat}{t:Tw}(h:NetOK own w m i t)(hm:m≤m'):NetOK own w m' i t:=
 ⟨⟨fun e=>(h.r.1 e).weak hm,h.r.2⟩,h.x.imp (fun ⟨a,b,c⟩=>⟨a,b.weak hm,c⟩) id⟩
structure Row (B:Nat)(ow:Own)(w:World)(r:Nat)(e size:Nat)(v:Value)(n:Nat)(xs:List Value):Prop where
 own:w.ownsRow B e size v n xs
 mine:∀g,v.ownBlock=some g→ow g=(r,0)
theorem Row.keep {B r e size n:Nat}{v:Value}{xs:List Value}(h:Row B own w r e size v n xs)(f:Stp R own own' w w')(hR:R≠(r,0))(hr:r≠0):Row B own' w' r e size v n xs:=by
 have hk:∀g,v.ownBlock=some g→own' g=own g∧w'.heap[g]?=w.heap[g]?:=fun g hg=>f.keep g (by rw[h.mine g hg];exact fA hr) (by rw[h.mine g hg];exact hR.symm);refine⟨⟨h.own.1,?_⟩,fun g hg=>(hk g hg).1.trans (h.mine g hg)⟩;rcases h.own.2 with hn | ⟨g,cap,cur,rfl,hb,hg,rest⟩
 ·exact Or.inl hn
 ·exact Or.inr ⟨g,cap,cur,rfl,hb,(hk g rfl).2.trans hg,rest⟩
def FullOK (r sz:Nat)(mark:Nat→Value)(own:Own)(w:World)(vs:List Value):Prop:=∀v,v∈vs→∃g m cap,v=.slice (some ⟨g,0,none⟩) m cap∧own g=(r,0)∧m≤maxLen∧∀j i,j<m→i<sz→w.cell? ⟨g,j*sz+i,none⟩=some (mark i)
theorem FullOK.keep {r sz:Nat}{mark:Nat→Value}{vs:List Value}(h:FullOK r sz mark own w vs)(f:Stp R own own' w w')(hR:R≠(r,0))(hr:r≠0):FullOK r sz mark own' w' vs:=by
 intro v hv;obtain⟨g,m,cap,rfl,ho,hm,hc⟩:=h v hv;obtain⟨kr,kb⟩:=f.keep g (by rw[ho];exact fA hr) (by rw[ho];exact hR.symm);exact⟨g,m,cap,rfl,kr.trans ho,hm,fun j i hj hi=>(lP0 (w:=w) (a:=⟨g,j*sz+i,none⟩) kb).trans (hc j i hj hi)⟩
theorem FullOK.add {r sz:Nat}{mark:Nat→Value}{vs us:List Value}(h:FullOK r sz mark own w vs)(h':FullOK r sz mark own w us):FullOK r sz mark own w (vs++us):=fun v hv=>(xP0.1 hv).elim (h v) (h' v)
def lE0 (w:World)(sz g m:Nat)(k:Int):Prop:=∀j i,j<m→i<sz→w.cell? ⟨g,j*sz+i,none⟩=some (int (if i=0 then k else 0))
def MarkOK (r sz:Nat)(own:Own)(w:World)(ls ms:List Value):Prop:=∀x,x∈ls.zip ms→∃a m cap k,x=(.slice a m cap,int k)∧m≤maxLen∧(m=0∨∃g,a=some ⟨g,0,none⟩∧own g=(r,0)∧lE0 w sz g m k)
theorem MarkOK.keep {r sz:Nat}{ls ms:List Value}(h:MarkOK r sz own w ls ms)(f:Stp R own own' w w')(hR:R≠(r,0))(hr:r≠0):MarkOK r sz own' w' ls ms:=by
 intro x hx;obtain⟨a,m,cap,k,h1,h2,h3⟩:=h x hx;refine⟨a,m,cap,k,h1,h2,h3.imp id ?_⟩;rintro⟨g,ha,ho,hm⟩
 obtain⟨kr,kb⟩:=f.keep g (by rw[ho];exact fA hr) (by rw[ho];exact hR.symm);exact⟨g,ha,kr.trans ho,fun j i hj hi=>(lP0 (w:=w) (a:=⟨g,j*sz+i,none⟩) kb).trans (hm j i hj hi)⟩
def Kpt (kp:Nat→Prop)(wk:World)(own:Own)(w:World):Prop:=∀k,kp k→own k=(15,0)∧w.heap[k]?=wk.heap[k]?
theorem Kpt.keep {kp:Nat→Prop}{wk:World}(h:Kpt kp wk own w)(f:Stp R own own' w w')(hR:R≠(15,0)):Kpt kp wk own' w':=by
 intro k hk;obtain⟨hr,hb⟩:=h k hk;obtain⟨kr,kb⟩:=f.keep k (by rw[hr];exact fA (by decide)) (by rw[hr];exact hR.symm);exact⟨kr.trans hr,kb.trans hb⟩
end
def jJ (nets:List Tw):List Value:=nets.flatMap fun t=>[ptr t.bx,ptr t.br]
structure WD where
 nets:List Tw
 N:Int
 v:Nat→Value
 n:Nat→Nat
 L:Nat→List Value
def wty:Nat→Nat
 | 0=>45
 | 2=>30
 | 3=>36
 | 4=>67
 | 6=>70
 | _=>3
def wsz:Nat→Nat
 | 0=>2
 | _=>1
def mS:Nat→Value:=fun _=>int (-77000000)
def rL:Nat→Value:=fun i=>if i=0 then int 0 else if i=1 then int 1 else int (-77000000)
structure WB (B bw:Nat)(own:Own)(w:World)(D:WD):Prop where
 fresh:∀k,w.heap.size≤k→own k=(0,0)
 base:∀k,own k≠(0,0)→B≤k
 lo:B≤w.heap.size
 me:own bw=(1,0)
 num:w.cell? ⟨bw,1,none⟩=some (int D.N)
 cell:∀o,o<8→o≠1→w.cell? ⟨bw,o,none⟩=some (D.v o)
 fr:∀o,w.frozen? ⟨bw,o,none⟩=false
 row:∀o,o<8→o≠1→Row B own w (o+2) (wty o) (wsz o) (D.v o) (D.n o) (D.L o)
structure WC (kp:Nat→Prop)(wk:World)(own:Own)(w:World)(m:Nat)(D:WD):Prop where
 tw:D.L 0=jJ D.nets
 twn:D.n 0=D.nets.length
 net:∀i t,D.nets[i]?=some t→NetOK own w m i t
 ints:FullOK 13 1 mS own w (D.L 2)
 tests:FullOK 14 3 rL own w (D.L 3)
 links:MarkOK 10 3 own w (D.L 4) (D.L 5)
 logs:MarkOK 12 7 own w (D.L 6) (D.L 7)
 kept:Kpt kp wk own w
section
variable {B bw : Nat} {kp : Nat → Prop} {wk w w' : World} {own own' : Own} {m : Nat} {D : WD} {R : Nat × Nat}
theorem WB.lt (h:WB B bw own w D){k:Nat}(hk:own k≠(0,0)):k<w.heap.size:=yN h.fresh hk
theorem WB.keep (h:WB B bw own w D)(f:Stp R own own' w w')(hf:∀k,w'.heap.size≤k→own' k=(0,0))(hb:∀k,own' k≠(0,0)→B≤k)(h1:10≤R.1∨R.1=0):WB B bw own' w' D:=by
 have kb:=f.keep bw (by rw[h.me];exact fA (by decide)) (by rw[h.me];intro e;have:=congrArg Prod.fst e;simp only at this;omega);have hc:∀o v,w.cell? ⟨bw,o,none⟩=some v→w'.cell? ⟨bw,o,none⟩=some v:=fun o v hv=>(lP0 (w:=w) (a:=⟨bw,o,none⟩) kb.2).trans hv;refine⟨hf,hb,mO0 h.lo f.touch.size,kb.1.trans h.me,hc _ _ h.num,fun o h2 h3=>hc _ _ (h.cell o h2 h3),fun o=>(nP0 (w:=w) (a:=⟨bw,o,none⟩) kb.2).trans (h.fr o),fun o h2 h3=>(h.row o h2 h3).keep f (fun e=>?_) (by omega)⟩;have:=congrArg Prod.fst e;simp only at this;omega
theorem WC.keep (h:WC kp wk own w m D)(f:Stp R own own' w w')(h1:R.1<10):WC kp wk own' w' m D:=by
 have hne:∀a b:Nat,10≤a→R≠(a,b):=fun a b ha e=>by rw[e] at h1;simp only at h1;omega
 exact⟨h.tw,h.twn,fun i t hi=>(h.net i t hi).keep f (hne _ _ (by decide)) (hne _ _ (by decide)),h.ints.keep f (hne _ _ (by decide)) (by decide),h.tests.keep f (hne _ _ (by decide)) (by decide),h.links.keep f (hne _ _ (by decide)) (by decide),h.logs.keep f (hne _ _ (by decide)) (by decide),h.kept.keep f (hne _ _ (by decide))⟩
theorem WC.weak (h:WC kp wk own w m D){m':Nat}(hm:m≤m'):WC kp wk own w m' D:=⟨h.tw,h.twn,fun i t hi=>(h.net i t hi).weak hm,h.ints,h.tests,h.links,h.logs,h.kept⟩
theorem Stp.calm (hf:∀k,w.heap.size≤k→own k=(0,0))(t:qA w w')(R:Nat × Nat):Stp R own own w w':=
 ⟨t.mono (fun _ _ f=>f.elim),fun _ h0 _=>⟨rfl,t.block _ (yN hf h0) id⟩⟩
theorem WB.calm (h:WB B bw own w D)(t:qA w w'):WB B bw own w' D:=h.keep (Stp.calm h.fresh t (0,0)) (fun k hk=>h.fresh k (mO0 t.size hk)) h.base (Or.inr rfl)
theorem WC.calm (h:WC kp wk own w m D)(hf:∀k,w.heap.size≤k→own k=(0,0))(t:qA w w'):WC kp wk own w' m D:=h.keep (Stp.calm hf t (0,0)) (by decide)
theorem Stp.one {g:Nat}(hf:∀k,w.heap.size≤k→own k=(0,0))(t:Touch (fun k=>k=g) w w')(hg:own g=R):Stp R own own w w':=
 ⟨t.mono (fun k _ e=>Or.inr (by rw[e];exact hg)),fun k h0 hR=>⟨rfl,t.block k (yN hf h0) (fun e=>hR (by rw[e];exact hg))⟩⟩
def nD (own:Own)(g:Nat)(R:Nat × Nat):Own:=fun k=>if k=g then R else own k
theorem fD (own:Own)(g:Nat)(R:Nat × Nat):nD own g R g=R:=by simp[nD]
theorem eC (own:Own)(g k:Nat)(R:Nat × Nat)(h:k≠g):nD own g R k=own k:=by simp[nD,h]
theorem yF0 {g:Nat}(h:own g=R):nD own g R=own:=by
 funext k
 by_cases e:k=g
 ·rw[e,fD,h]
 ·rw[eC _ _ _ _ e]
theorem nP {g:Nat}(h:∀k,own k≠(0,0)→B≤k)(hB:B≤g):∀k,nD own g R k≠(0,0)→B≤k:=by
 intro k hk;by_cases e:k=g
 ·rw[e];exact hB
 ·rw[eC _ _ _ _ e] at hk;exact h k hk
theorem dD0 {g:Nat}(h:∀k,w.heap.size≤k→own k=(0,0))(hg:g<w.heap.size):∀k,w.heap.size≤k→nD own g R k=(0,0):=fun k hk=>by rw[eC _ _ _ _ (by omega)];exact h k hk
theorem Stp.gives (_hf:∀k,w.heap.size≤k→own k=(0,0))(g:Nat)(R' Q:Nat × Nat)(hg:own g=(0,0)∨own g=Q):Stp Q own (nD own g R') w w:=
 ⟨cP0 _ _,fun k h0 hQ=>⟨eC _ _ _ _ (fun e=>by subst e;rcases hg with hg | hg;exact h0 hg;exact hQ hg),rfl⟩⟩
theorem WB.gives (h:WB B bw own w D)(g:Nat)(R Q:Nat × Nat)(hg:own g=(0,0)∨own g=Q)(hQ:10≤Q.1∨Q.1=0)(hB:B≤g)(hlt:g<w.heap.size):WB B bw (nD own g R) w D:=
 h.keep (Stp.gives h.fresh g R Q hg) (dD0 h.fresh hlt) (nP h.base hB) hQ
theorem WC.gives (h:WC kp wk own w m D)(hf:∀k,w.heap.size≤k→own k=(0,0))(g:Nat)(R:Nat × Nat)(hg:own g=(0,0)):WC kp wk (nD own g R) w m D:=h.keep (Stp.gives hf g R (0,0) (Or.inl hg)) (by decide)
def mF (own:Own)(ρ:zA)(R:Nat × Nat):Own:=fun k=>match ρ k with
 | none=>own k
 | some _=>R
theorem uJ {own:Own}{ρ:zA}{R:Nat × Nat}{k:Nat}(h:ρ k≠none):mF own ρ R k=R:=by
 unfold mF;cases e:ρ k with
 | none=>exact absurd e h
 | some r=>rfl
theorem bD {own:Own}{ρ:zA}{R:Nat × Nat}{k:Nat}(h:ρ k=none):mF own ρ R k=own k:=by simp[mF,h]
theorem Stp.mv {S:Role→Prop}{ρ ρ':zA}(hf:∀k,w.heap.size≤k→own k=(0,0))(hb:∀k,own k≠(0,0)→B≤k)(hB:B≤w.heap.size)(hρ:∀k,ρ k≠none→own k=R)(M:Mv S ρ ρ' w w'):
  Stp R own (mF own ρ' R) w w'∧(∀k,ρ' k≠none→mF own ρ' R k=R)∧(∀k,w'.heap.size≤k→mF own ρ' R k=(0,0))∧(∀k,mF own ρ' R k≠(0,0)→B≤k):=by
 have ho:∀k,own k≠(0,0)→own k≠R→ρ' k=none:=fun k h0 hR=>by
  have hk:=yN hf h0;have hn:ρ k=none:=by
   cases e:ρ k with
   | none=>rfl
   | some r=>exact absurd (hρ k (by rw[e];simp)) hR
  exact M.noRole hk hn
 refine⟨⟨M.touch.mono (fun k _ ⟨r,e,_⟩=>Or.inr (hρ k (by rw[e];simp))),fun k h0 hR=>⟨bD (ho k h0 hR),M.touch.block k (yN hf h0) ?_⟩⟩,fun k hk=>uJ hk,fun k hk=>?_,fun k hk=>?_⟩
 ·rintro⟨r,e,_⟩
  exact hR (hρ k (by rw[e];simp))
 ·have:ρ' k=none:=by
   cases e:ρ' k with
   | none=>rfl
   | some r=>have:=M.lt k (by rw[e];simp);omega
  rw[bD this];exact hf k (mO0 M.touch.size hk)
 ·by_cases hk2:k<w.heap.size
  ·by_cases hn:ρ' k=none
   ·rw[bD hn] at hk;exact hb k hk
   ·by_cases h0:own k=(0,0)
    ·exfalso;have:ρ k≠none:=by
      intro e;exact hn (M.noRole hk2 e)
     have h1:=hρ k this;rw[uJ hn,←h1] at hk;exact hk h0
    ·exact hb k h0
  ·omega
theorem WC.turn (h:WC kp wk own w m D){i:Nat}{t t':Tw}(hi:D.nets[i]?=some t)(ex:t'.bx=t.bx)(er:t'.br=t.br){own1:Own}{w1:World}{r:Nat}(hr:r=20∨r=21)(f:Stp (r,i) own own1 w w1){m':Nat}(hm:m≤m')(ht:NetOK own1 w1 m' i t'):
  WC kp wk own1 w1 m' {D with nets:=D.nets.set i t'}:=by
 have hil:i<D.nets.length:=(rO0.1 hi).1;have htw:jJ (D.nets.set i t')=jJ D.nets:=by
  clear h f ht;generalize D.nets=nets at*;unfold jJ;induction nets generalizing i with
  | nil=>rfl
  | cons y ys ih=>
   cases i with
   | zero=>
    have:y=t:=by simpa using hi
    subst this;simp[ex,er]
   | succ j=>
    simp only[List.set_cons_succ,tP0];rw[ih (by simpa using hi) (by simpa using hil)]
 have n1:∀a b:Nat,a<20→((r,i):Nat × Nat)≠(a,b):=fun a b ha=>fA (by omega);refine⟨h.tw.trans htw.symm,by rw[h.twn];simp,fun j y hj=>?_,h.ints.keep f (n1 _ _ (by decide)) (by decide),h.tests.keep f (n1 _ _ (by decide)) (by decide),h.links.keep f (n1 _ _ (by decide)) (by decide),h.logs.keep f (n1 _ _ (by decide)) (by decide),h.kept.keep f (n1 _ _ (by decide))⟩
 by_cases e:j=i
 ·subst e;have hj':(D.nets.set j t')[j]?=some y:=hj;rw[List.getElem?_set_self hil] at hj';have:t'=y:=by simpa using hj'
  subst this;exact ht
 ·have hj':(D.nets.set i t')[j]?=some y:=hj;rw[List.getElem?_set_ne (fun x=>e x.symm)] at hj';exact((h.net j y hj').keep f (kB0 (fun x=>e x.symm)) (kB0 (fun x=>e x.symm))).weak hm
theorem bS {r e size n k g cap:Nat}{v:Value}{xs all:List Value}(hf:∀k,w.heap.size≤k→own k=(0,0))(h:Row B own w r e size v n xs)(hg:xF B e size v k all w g cap w'):
  Stp (r,0) own (nD own g (r,0)) w w'∧Row B (nD own g (r,0)) w' r e size (.slice (some ⟨g,0,none⟩) k cap) k all∧(∀j,w'.heap.size≤j→nD own g (r,0) j=(0,0))∧B≤g∧w.heap.size≤w'.heap.size:=by
 obtain⟨hown,ht,hlt⟩:=hg;have hB:B≤g:=(hown.lt g rfl).1
 have hrow:Row B (nD own g (r,0)) w' r e size (.slice (some ⟨g,0,none⟩) k cap) k all:=⟨hown,fun g' hg'=>by
  have:g=g':=bO0 hg'
  rw[←this];exact fD _ _ _⟩
 rcases ht with⟨hin,t⟩ | ⟨hnew,t⟩
 ·have hgr:=h.mine g hin;have hid:=yF0 hgr;refine⟨by rw[hid];exact Stp.one hf t hgr,hrow,fun j hj=>by rw[hid];exact hf j (mO0 t.size hj),hB,t.size⟩
 ·have h0:own g=(0,0):=hf g (by omega);refine⟨⟨t.mono (fun _ _ f=>f.elim),fun k hk0 hR=>⟨eC _ _ _ _ (fun e=>hk0 (by rw[e];exact h0)),t.block k (yN hf hk0) id⟩⟩,hrow,fun j hj=>?_,hB,t.size⟩;rw[eC _ _ _ _ (by omega)];exact hf j (mO0 t.size hj)
theorem kK (w:World)(b o o':Nat)(v u:Value)(h:o'≠o)(hu:w.cell? ⟨b,o',none⟩=some u):(w.setCell ⟨b,o,none⟩ v).cell? ⟨b,o',none⟩=some u:=
 (World.cell?_setCell_other w _ _ _ (by intro e;have:=congrArg Addr.off e;exact h this.symm)).trans hu
def WD.put (D:WD)(o:Nat)(v:Value)(n:Nat)(L:List Value):WD:={D with v:=Go.Proofs.YtodfcpblcpogiaaGreat.put D.v o v,n:=Go.Proofs.YtodfcpblcpogiaaGreat.put D.n o n,L:=Go.Proofs.YtodfcpblcpogiaaGreat.put D.L o L}
theorem eE {α:Type}(f:Nat→α)(o:Nat)(v:α):put f o v o=v:=by simp[put]
theorem oC {α:Type}(f:Nat→α){o i:Nat}(v:α)(h:i≠o):put f o v i=f i:=by simp[put,h]
theorem WB.add (h:WB B bw own w D){o:Nat}(ho:o<8)(ho1:o≠1){k:Nat}{xs:List Value}{g cap:Nat}(hg:xF B (wty o) (wsz o) (D.v o) (D.n o+k) (D.L o++xs) w g cap w'):
  WB B bw (nD own g (o+2,0)) (w'.setCell ⟨bw,o,none⟩ (.slice (some ⟨g,0,none⟩) (D.n o+k) cap)) (D.put o (.slice (some ⟨g,0,none⟩) (D.n o+k) cap) (D.n o+k) (D.L o++xs))∧
  (∀kp wk m,WC kp wk own w m D→WC kp wk (nD own g (o+2,0)) (w'.setCell ⟨bw,o,none⟩ (.slice (some ⟨g,0,none⟩) (D.n o+k) cap)) m D)∧Below B w (w'.setCell ⟨bw,o,none⟩ (.slice (some ⟨g,0,none⟩) (D.n o+k) cap))∧
  (w'.cell? ⟨bw,o,none⟩=some (D.v o)∧∀j,w'.frozen? ⟨bw,j,none⟩=false)∧Stp (o+2,0) own (nD own g (o+2,0)) w w'∧Stp (1,0) (nD own g (o+2,0)) (nD own g (o+2,0)) w' (w'.setCell ⟨bw,o,none⟩ (.slice (some ⟨g,0,none⟩) (D.n o+k) cap)):=by
 obtain⟨f,hrow,hfr,hB,hsz⟩:=bS h.fresh (h.row o ho ho1) hg;have kb:=f.keep bw (by rw[h.me];exact fA (by decide)) (by rw[h.me];exact fA (by omega));have hc:∀o v,w.cell? ⟨bw,o,none⟩=some v→w'.cell? ⟨bw,o,none⟩=some v:=fun o v hv=>(lP0 (w:=w) (a:=⟨bw,o,none⟩) kb.2).trans hv;have hz:∀j,w'.frozen? ⟨bw,j,none⟩=false:=fun j=>(nP0 (w:=w) (a:=⟨bw,j,none⟩) kb.2).trans (h.fr j);have hme:nD own g (o+2,0) bw=(1,0):=kb.1.trans h.me;obtain⟨sv,hsv⟩:∃sv,sv=Value.slice (some ⟨g,0,none⟩) (D.n o+k) cap:=⟨_,rfl⟩;rw[←hsv] at hrow ⊢;have f2:Stp (1,0) (nD own g (o+2,0)) (nD own g (o+2,0)) w' (w'.setCell ⟨bw,o,none⟩ sv):=Stp.one hfr ((cP0 (fun k=>k=bw) _).setCell (p:=⟨bw,o,none⟩) (fun _=>rfl) _) hme;have hsize:(w'.setCell ⟨bw,o,none⟩ sv).heap.size=w'.heap.size:=by simp[World.setCell]
 refine⟨⟨fun k hk=>hfr k (by omega),nP h.base hB,by rw[hsize];exact mO0 h.lo hsz,hme,kK _ _ _ _ _ _ (fun e=>ho1 e.symm) (hc _ _ h.num),fun i hi hi1=>?_,fun j=>by rw[World.frozen?_setCell];exact hz j,fun i hi hi1=>?_⟩,fun kp wk m hC=>(hC.keep f (by show o+2<10;omega)).keep f2 (by decide),?_,⟨hc _ _ (h.cell o ho ho1),hz⟩,f,f2⟩
 ·by_cases e:i=o
  ·subst e;rw[mP0 _ _ _ (hc _ _ (h.cell i hi hi1))];show some sv=some (Go.Proofs.YtodfcpblcpogiaaGreat.put D.v i sv i)
   rw[eE]
  ·rw[kK _ _ _ _ _ _ e (hc _ _ (h.cell i hi hi1))];show some (D.v i)=some (Go.Proofs.YtodfcpblcpogiaaGreat.put D.v o sv i)
   rw[oC _ _ e]
 ·by_cases e:i=o
  ·subst e;show Row B _ _ _ _ _ (Go.Proofs.YtodfcpblcpogiaaGreat.put D.v i sv i) (Go.Proofs.YtodfcpblcpogiaaGreat.put D.n i _ i) (Go.Proofs.YtodfcpblcpogiaaGreat.put D.L i _ i)
   rw[eE,eE,eE];exact hrow.keep f2 (fA (by omega)) (by omega)
  ·show Row B _ _ _ _ _ (Go.Proofs.YtodfcpblcpogiaaGreat.put D.v o sv i) (Go.Proofs.YtodfcpblcpogiaaGreat.put D.n o _ i) (Go.Proofs.YtodfcpblcpogiaaGreat.put D.L o _ i)
   rw[oC _ _ e,oC _ _ e,oC _ _ e];exact((h.row i hi hi1).keep f (fA (by omega)) (by omega)).keep f2 (fA (by omega)) (by omega)
 ·obtain⟨hown,ht,_⟩:=hg;have t1:Touch (fun k=>k=g) w w':=by
   rcases ht with⟨_,t⟩ | ⟨_,t⟩
   ·exact t
   ·exact t.mono (fun _ _ f=>f.elim)
  exact(t1.below h.lo (fun k e=>by rw[e];exact hB)).trans (((cP0 (fun k=>k=bw) _).setCell (p:=⟨bw,o,none⟩) (fun _=>rfl) _).below (mO0 h.lo hsz) (fun k e=>by rw[e];exact h.base bw (by rw[h.me];exact fA (by decide))))
theorem WB.setN (h:WB B bw own w D)(z:Int):WB B bw own (w.setCell ⟨bw,1,none⟩ (int z)) {D with N:=z}∧(∀kp wk m,WC kp wk own w m D→WC kp wk own (w.setCell ⟨bw,1,none⟩ (int z)) m {D with N:=z})∧Below B w (w.setCell ⟨bw,1,none⟩ (int z)):=by
 have f2:Stp (1,0) own own w (w.setCell ⟨bw,1,none⟩ (int z)):=Stp.one h.fresh ((cP0 (fun k=>k=bw) _).setCell (p:=⟨bw,1,none⟩) (fun _=>rfl) _) h.me;have hsize:(w.setCell ⟨bw,1,none⟩ (int z)).heap.size=w.heap.size:=by simp[World.setCell]
 refine⟨⟨fun k hk=>h.fresh k (by omega),h.base,by rw[hsize];exact h.lo,h.me,mP0 w _ _ h.num,fun i hi hi1=>kK _ _ _ _ _ _ hi1 (h.cell i hi hi1),fun j=>by rw[World.frozen?_setCell];exact h.fr j,fun i hi hi1=>(h.row i hi hi1).keep f2 (fA (by omega)) (by omega)⟩,fun kp wk m hC=>?_,?_⟩
 ·have:=hC.keep f2 (by decide);exact⟨this.tw,this.twn,this.net,this.ints,this.tests,this.links,this.logs,this.kept⟩
 ·exact((cP0 (fun k=>k=bw) _).setCell (p:=⟨bw,1,none⟩) (fun _=>rfl) _).below h.lo (fun k e=>by rw[e];exact h.base bw (by rw[h.me];exact fA (by decide)))
theorem WC.addI (h:WC kp wk own w m D)(sv v:Value)(n:Nat)(hv:FullOK 13 1 mS own w [v]):WC kp wk own w m (D.put 2 sv n (D.L 2++[v])):=
 ⟨h.tw,h.twn,h.net,h.ints.add hv,h.tests,h.links,h.logs,h.kept⟩
theorem WC.addT (h:WC kp wk own w m D)(sv v:Value)(n:Nat)(hv:FullOK 14 3 rL own w [v]):WC kp wk own w m (D.put 3 sv n (D.L 3++[v])):=
 ⟨h.tw,h.twn,h.net,h.ints,h.tests.add hv,h.links,h.logs,h.kept⟩
theorem WC.addA (h:WC kp wk own w m D)(sv:Value)(t:Tw)(ht:NetOK own w m D.nets.length t):WC kp wk own w m {D.put 0 sv (D.n 0+1) (D.L 0++[ptr t.bx,ptr t.br]) with nets:=D.nets++[t]}:=by
 refine⟨?_,?_,fun i y hy=>?_,h.ints,h.tests,h.links,h.logs,h.kept⟩
 ·show D.L 0++[ptr t.bx,ptr t.br]=jJ (D.nets++[t])
  rw[h.tw];simp[jJ]
 ·show D.n 0+1=(D.nets++[t]).length
  rw[h.twn];simp
 ·have hy':(D.nets++[t])[i]?=some y:=hy;by_cases hi:i<D.nets.length
  ·rw[oO0 hi] at hy';exact h.net i y hy'
  ·rw[nO0 (by omega)] at hy';have hi0:i-D.nets.length=0:=by
    have:=(rO0.1 hy').1;simp at this;omega
   rw[hi0] at hy';have:t=y:=by simpa using hy'
   subst this;have:i=D.nets.length:=by omega
   rw[this];exact ht
end
def cF (N:Int):Int:=wrap64 (-77000000-N)
theorem kE0 (N:Int):IntKind.i64.wrap (-77000000-N)=cF N:=by unfold cF;exact Go.IntWalk.i64_left _
def mk1 (sz:Nat)(k:Int):List Value:=(List.range sz).map fun i=>int (if i=0 then k else 0)
def mks (sz:Nat)(k:Int)(n:Nat):List Value:=(List.replicate n (mk1 sz k)).flatten
theorem sH (sz:Nat)(k:Int):(mk1 sz k).length=sz:=by simp[mk1]
theorem mk1_at (sz:Nat)(k:Int){i:Nat}(hi:i<sz):(mk1 sz k)[i]?=some (int (if i=0 then k else 0)):=by simp[mk1,hi]
theorem dE0 (sz:Nat)(k:Int):∀u,u∈mk1 sz k→u.oneCell'=true:=by
 intro u hu;simp only[mk1,List.mem_map] at hu;obtain⟨i,_,rfl⟩:=hu;rfl
theorem lI (sz:Nat)(k:Int):∀n,(mks sz k n).length=n*sz
 | 0=>by simp[mks]
 | n+1=>by
  have:=lI sz k n;simp only[mks,List.replicate_succ,List.flatten_cons,hO0,sH] at this ⊢;rw[this,Nat.succ_mul];omega
theorem aH (sz:Nat)(k:Int)(n:Nat):mks sz k (n+1)=mks sz k n++mk1 sz k:=by
 simp only[mks,List.replicate_succ',List.flatten_append,List.flatten_cons,List.flatten_nil,List.append_nil]
theorem vK0 (sz:Nat)(k:Int):∀n j i,j<n→i<sz→(mks sz k n)[j*sz+i]?=some (int (if i=0 then k else 0))
 | 0,j,i,h,_=>by omega
 | n+1,j,i,h,hi=>by
  have hl:=lI sz k n;rw[aH];by_cases e:j<n
  ·have:j*sz+sz≤n*sz:=by rw[←Nat.succ_mul];exact aO0 _ e
   rw[oO0 (by omega)];exact vK0 sz k n j i e hi
  ·have:j=n:=by omega
   subst this;rw[nO0 (by omega),hl,show j*sz+i-j*sz=i from by omega];exact mk1_at sz k hi
theorem lM {B e size n:Nat}{v:Value}{all:List Value}{w w':World}{g cap:Nat}(hg:xF B e size v n all w g cap w'):Touch (fun k=>k=g) w w'∧B≤g:=by
 obtain⟨hown,ht,_⟩:=hg;refine⟨?_,(hown.lt g rfl).1⟩;rcases ht with⟨_,t⟩ | ⟨_,t⟩
 ·exact t
 ·exact t.mono (fun _ _ f=>f.elim)
theorem fQ:∀(ls ms:List Value) (x:Value),ls.length=ms.length→(ls++[x]).zip ms=ls.zip ms
 | [],[],_,_=>rfl
 | [],_::_,_,h=>by simp at h
 | _::_,[],_,h=>by simp at h
 | l::ls,m::ms,x,h=>by simp[fQ ls ms x (by simpa using h)]
structure KL (o sz et B:Nat)(kp:Nat→Prop)(wk w0:World)(bw m:Nat)(k:Nat)(lv:Value)(bm:Nat)(mk:Int)(own:Own)(D:WD)(w:World):Prop where
 wb:WB B bw own w D
 wc:WC kp wk own w m D
 below:Below B w0 w
 box:w.heap[bm]?=some (.cells (mk1 sz mk).toArray et)
 rb:own bm=(15,0)
 row:Row B own w (o+6) et sz lv k (mks sz mk k)
 le:∀x,x∈(D.L o).zip (D.L (o+1))→∀g n cap,lv.ownBlock=some g→x.1=.slice (some ⟨g,0,none⟩) n cap→n≤k
def yH (o sz:Nat):Prop:=(o=4∧sz=3)∨(o=6∧sz=7)
section
variable {o sz et B : Nat} {kp : Nat → Prop} {wk w0 : World} {bw m k : Nat} {lv : Value} {bm : Nat} {mk : Int} {own own' : Own} {D : WD} {w w' : World}
theorem WC.marks (h:WC kp wk own w m D)(hk:yH o sz):MarkOK (o+6) sz own w (D.L o) (D.L (o+1)):=by
 rcases hk with⟨rfl,rfl⟩ | ⟨rfl,rfl⟩
 ·exact h.links
 ·exact h.logs
theorem WC.setMarks (h:WC kp wk own w m D)(hk:yH o sz){D':WD}(hn:D'.nets=D.nets)(hn0:D'.n 0=D.n 0)(hL:∀i,i≠o→i≠o+1→D'.L i=D.L i)(hm:MarkOK (o+6) sz own w (D'.L o) (D'.L (o+1))):WC kp wk own w m D':=by
 rcases hk with⟨rfl,rfl⟩ | ⟨rfl,rfl⟩
 ·exact⟨by rw[hL 0 (by decide) (by decide),hn];exact h.tw,by rw[hn0,hn];exact h.twn,by rw[hn];exact h.net,by rw[hL 2 (by decide) (by decide)];exact h.ints,by rw[hL 3 (by decide) (by decide)];exact h.tests,hm,by rw[hL 6 (by decide) (by decide),hL 7 (by decide) (by decide)];exact h.logs,h.kept⟩
 ·exact⟨by rw[hL 0 (by decide) (by decide),hn];exact h.tw,by rw[hn0,hn];exact h.twn,by rw[hn];exact h.net,by rw[hL 2 (by decide) (by decide)];exact h.ints,by rw[hL 3 (by decide) (by decide)];exact h.tests,by rw[hL 4 (by decide) (by decide),hL 5 (by decide) (by decide)];exact h.links,hm,h.kept⟩
theorem KL.calm (h:KL o sz et B kp wk w0 bw m k lv bm mk own D w)(_hk:yH o sz)(t:qA w w'):KL o sz et B kp wk w0 bw m k lv bm mk own D w':=
 ⟨h.wb.calm t,h.wc.calm h.wb.fresh t,h.below.trans (t.below h.wb.lo (fun _ f=>f.elim)),(t.block bm (tO0.1 h.box).1 id).trans h.box,h.rb,h.row.keep (Stp.calm h.wb.fresh t (0,0)) (fA (by omega)) (by omega),h.le⟩
theorem qJ0 {e size n:Nat}{v:Value}{xs:List Value}{r:Nat}(h:Row B own w r e size v n xs):xs.length=n*size:=h.own.1
theorem WB.len1 (h:WB B bw own w D){i:Nat}(hi:i<8)(h1:i≠1)(h0:i≠0):(D.L i).length=D.n i:=by
 have h9:=qJ0 (h.row i hi h1);have:wsz i=1:=by
  unfold wsz;split
  ·omega
  ·rfl
 rw[this] at h9;omega
theorem KL.one (h:KL o sz et B kp wk w0 bw m k lv bm mk own D w)(hk:yH o sz)(hlen:D.n o=D.n (o+1)){g cap:Nat}(hg:xF B (wty o) (wsz o) (D.v o) (D.n o+1) (D.L o++[lv]) w g cap w'):
  KL o sz et B kp wk w0 bw m k lv bm mk (nD own g (o+2,0)) (D.put o (.slice (some ⟨g,0,none⟩) (D.n o+1) cap) (D.n o+1) (D.L o++[lv])) (w'.setCell ⟨bw,o,none⟩ (.slice (some ⟨g,0,none⟩) (D.n o+1) cap))∧w'.cell? ⟨bw,o,none⟩=some (D.v o)∧∀j,w'.frozen? ⟨bw,j,none⟩=false:=by
 have ho:o<7∧4≤o:=by rcases hk with⟨rfl,_⟩ | ⟨rfl,_⟩<;>omega
 have hll:(D.L o).length=(D.L (o+1)).length:=by rw[h.wb.len1 (by omega) (by omega) (by omega),h.wb.len1 (by omega) (by omega) (by omega),hlen]
 obtain⟨wb,wc,be,hc,f,f2⟩:=h.wb.add (by omega) (by omega) hg;have kb:=f.keep bm (by rw[h.rb];exact fA (by decide)) (by rw[h.rb];exact fA (by omega));have kb2:=f2.keep bm (by rw[kb.1,h.rb];exact fA (by decide)) (by rw[kb.1,h.rb];exact fA (by decide));have hz:((D.put o (.slice (some ⟨g,0,none⟩) (D.n o+1) cap) (D.n o+1) (D.L o++[lv])).L o).zip ((D.put o (.slice (some ⟨g,0,none⟩) (D.n o+1) cap) (D.n o+1) (D.L o++[lv])).L (o+1))=(D.L o).zip (D.L (o+1)):=by
  show (put D.L o (D.L o++[lv]) o).zip (put D.L o (D.L o++[lv]) (o+1))=_
  rw[eE,oC _ _ (by omega)];exact fQ _ _ lv hll
 refine⟨⟨wb,(wc _ _ _ h.wc).setMarks hk rfl (show put D.n o (D.n o+1) 0=D.n 0 from oC _ _ (by omega)) (fun i h1 h2=>oC _ _ h1) ?_,h.below.trans be,kb2.2.trans (kb.2.trans h.box),kb.1.trans h.rb,(h.row.keep f (fA (by omega)) (by omega)).keep f2 (fA (by omega)) (by omega),by rw[hz];exact h.le⟩,hc.1,hc.2⟩;have:=(wc _ _ _ h.wc).marks hk;unfold MarkOK at this ⊢;rw[hz];exact this
theorem KL.two {ls:List Value}(h:KL o sz et B kp wk w0 bw m k lv bm mk own D w)(hk:yH o sz)(hL:D.L o=ls++[lv])(hlen:D.n o=D.n (o+1)+1)(hkm:k≤maxLen){g cap:Nat}(hg:xF B (wty (o+1)) (wsz (o+1)) (D.v (o+1)) (D.n (o+1)+1) (D.L (o+1)++[int mk]) w g cap w'):
  KL o sz et B kp wk w0 bw m k lv bm mk (nD own g (o+1+2,0)) (D.put (o+1) (.slice (some ⟨g,0,none⟩) (D.n (o+1)+1) cap) (D.n (o+1)+1) (D.L (o+1)++[int mk])) (w'.setCell ⟨bw,o+1,none⟩ (.slice (some ⟨g,0,none⟩) (D.n (o+1)+1) cap))∧w'.cell? ⟨bw,o+1,none⟩=some (D.v (o+1))∧∀j,w'.frozen? ⟨bw,j,none⟩=false:=by
 have ho:o<7∧4≤o:=by rcases hk with⟨rfl,_⟩ | ⟨rfl,_⟩<;>omega
 have hll:ls.length=(D.L (o+1)).length:=by
  have h1:=h.wb.len1 (i:=o) (by omega) (by omega) (by omega);rw[hL] at h1;simp at h1
  rw[h.wb.len1 (by omega) (by omega) (by omega)];omega
 obtain⟨wb,wc,be,hc,f,f2⟩:=h.wb.add (o:=o+1) (by omega) (by omega) hg;have kb:=f.keep bm (by rw[h.rb];exact fA (by decide)) (by rw[h.rb];exact fA (by omega));have kb2:=f2.keep bm (by rw[kb.1,h.rb];exact fA (by decide)) (by rw[kb.1,h.rb];exact fA (by decide));have hrow:=(h.row.keep f (fA (by omega)) (by omega)).keep f2 (fA (by omega)) (by omega);obtain⟨sv,hsv⟩:∃sv,sv=Value.slice (some ⟨g,0,none⟩) (D.n (o+1)+1) cap:=⟨_,rfl⟩;rw[←hsv] at wb wc be f2 hrow kb2 ⊢;have hz0:(D.L o).zip (D.L (o+1))=ls.zip (D.L (o+1)):=by rw[hL];exact fQ _ _ lv hll
 have hz:((D.put (o+1) sv (D.n (o+1)+1) (D.L (o+1)++[int mk])).L o).zip ((D.put (o+1) sv (D.n (o+1)+1) (D.L (o+1)++[int mk])).L (o+1))=(D.L o).zip (D.L (o+1))++[(lv,int mk)]:=by
  show (put D.L (o+1) (D.L (o+1)++[int mk]) o).zip (put D.L (o+1) (D.L (o+1)++[int mk]) (o+1))=_
  rw[eE,oC _ _ (by omega),hz0,hL,List.zip_append hll];rfl
 have hw:=(wc _ _ _ h.wc);have hmk:∃a n cap,lv=.slice a n cap∧n≤maxLen∧(n=0∨∃g0,a=some ⟨g0,0,none⟩∧(nD own g (o+1+2,0)) g0=(o+6,0)∧lE0 (w'.setCell ⟨bw,o+1,none⟩ sv) sz g0 n mk):=by
  rcases hrow.own.2 with⟨hv,h0⟩ | ⟨g0,cap0,cur,hv,_,hg0,_,_,_,htake⟩
  ·exact⟨none,0,0,hv,by unfold maxLen;omega,Or.inl rfl⟩
  ·refine⟨some ⟨g0,0,none⟩,k,cap0,hv,hkm,Or.inr ⟨g0,rfl,hrow.mine g0 (by rw[hv];rfl),?_⟩⟩;intro j i hj hi;have hu:=vK0 sz mk k j i hj hi;have hol:j*sz+i<k*sz:=by have:=(rO0.1 hu).1;rw[lI] at this;exact this
   rw[xA hg0,←Array.getElem?_toList];rw[←htake,uP0,if_pos hol] at hu;exact hu
 refine⟨⟨wb,hw.setMarks hk rfl (show put D.n (o+1) (D.n (o+1)+1) 0=D.n 0 from oC _ _ (by omega)) (fun i h1 h2=>oC _ _ h2) ?_,h.below.trans be,kb2.2.trans (kb.2.trans h.box),kb.1.trans h.rb,hrow,?_⟩,hc.1,hc.2⟩
 ·have:=hw.marks hk;unfold MarkOK at this ⊢;rw[hz];intro x hx;rcases xP0.1 hx with hx | hx
  ·exact this x hx
  ·have:x=(lv,int mk):=by simpa using hx
   subst this;obtain⟨a,n,cap,hv,h1,h2⟩:=hmk;exact⟨a,n,cap,mk,by rw[hv],h1,h2⟩
 ·rw[hz];intro x hx g' n cap' hg' hxe;rcases xP0.1 hx with hx | hx
  ·exact h.le x hx g' n cap' hg' hxe
  ·have:x=(lv,int mk):=by simpa using hx
   subst this;rcases h.row.own.2 with⟨hv,h0⟩ | ⟨g0,cap0,cur,hv,_⟩
   ·rw[hv] at hg';cases hg'
   ·rw[hv] at hxe;simp only[Value.slice.injEq] at hxe;omega
theorem WC.marksIn (h:WC kp wk own w m D)(hk:yH o sz)(hf:∀k,w.heap.size≤k→own k=(0,0)){g n:Nat}(hg:own g=(o+6,0))(t:Touch (fun k=>k=g) w w')
  (hsame:∀i u,i<n*sz→w.cell? ⟨g,i,none⟩=some u→w'.cell? ⟨g,i,none⟩=some u)
  (hle:∀x,x∈(D.L o).zip (D.L (o+1))→∀q cap,x.1=.slice (some ⟨g,0,none⟩) q cap→q≤n):WC kp wk own w' m D:=by
 have f:=Stp.one hf t hg;have hm:=h.marks hk;have hmm:MarkOK (o+6) sz own w' (D.L o) (D.L (o+1)):=by
  intro x hx;obtain⟨a,q,cap,z,h1,h2,h3⟩:=hm x hx;refine⟨a,q,cap,z,h1,h2,h3.imp id ?_⟩;rintro⟨g',ha,hr,hq⟩
  refine⟨g',ha,hr,?_⟩;by_cases e:g'=g
  ·subst e;have hqn:=hle x hx q cap (by rw[h1,ha]);intro j i hj hi;refine hsame _ _ ?_ (hq j i hj hi);have:j*sz+sz≤n*sz:=by rw[←Nat.succ_mul];exact aO0 _ (by omega)
   omega
  ·intro j i hj hi;exact t.cell (p:=⟨g',j*sz+i,none⟩) e (hq j i hj hi)
 have hne:∀a b:Nat,a≠o+6→((o+6,0):Nat × Nat)≠(a,b):=fun a b ha=>fA (fun e=>ha e.symm);rcases hk with⟨rfl,rfl⟩ | ⟨rfl,rfl⟩
 ·exact⟨h.tw,h.twn,fun i t hi=>(h.net i t hi).keep f (hne _ _ (by decide)) (hne _ _ (by decide)),h.ints.keep f (hne _ _ (by decide)) (by decide),h.tests.keep f (hne _ _ (by decide)) (by decide),hmm,h.logs.keep f (hne _ _ (by decide)) (by decide),h.kept.keep f (hne _ _ (by decide))⟩
 ·exact⟨h.tw,h.twn,fun i t hi=>(h.net i t hi).keep f (hne _ _ (by decide)) (hne _ _ (by decide)),h.ints.keep f (hne _ _ (by decide)) (by decide),h.tests.keep f (hne _ _ (by decide)) (by decide),h.links.keep f (hne _ _ (by decide)) (by decide),hmm,h.kept.keep f (hne _ _ (by decide))⟩
theorem KL.three (h:KL o sz et B kp wk w0 bw m k lv bm mk own D w)(hk:yH o sz){g cap:Nat}(hg:xF B et sz lv (k+1) (mks sz mk k++mk1 sz mk) w g cap w'):
  KL o sz et B kp wk w0 bw m (k+1) (.slice (some ⟨g,0,none⟩) (k+1) cap) bm mk (nD own g (o+6,0)) D w':=by
 have tg:=lM hg;have ho:o<7∧4≤o:=by rcases hk with⟨rfl,_⟩ | ⟨rfl,_⟩<;>omega
 rw[←aH] at hg;obtain⟨f,hrow,hfr,hB,hsz⟩:=bS h.wb.fresh h.row hg;have kb:=f.keep bm (by rw[h.rb];exact fA (by decide)) (by rw[h.rb];exact fA (by omega));have hbelow:Below B w0 w':=h.below.trans (tg.1.below h.wb.lo (fun k e=>by rw[e];exact tg.2));have wb:WB B bw (nD own g (o+6,0)) w' D:=h.wb.keep f hfr (nP h.wb.base hB) (Or.inl (by show 10≤o+6;omega));obtain⟨hown,ht,hlt⟩:=hg;rcases ht with⟨hin,t⟩ | ⟨hnew,t⟩
 ·have hr8:=h.row.mine g hin;have hid:=yF0 hr8;rcases h.row.own.2 with⟨hv,h0⟩ | ⟨g0,cap0,cur,hv,_,hg0,_,_,_,htake⟩
  ·rw[hv] at hin;cases hin
  ·have hgg:g0=g:=by rw[hv] at hin;exact bO0 hin
   subst hgg;rcases hown.2 with⟨hv',_⟩ | ⟨g1,cap1,cur1,hv',_,hg1,_,_,_,htake1⟩
   ·cases hv'
   ·have hg1e:g1=g0:=by simp only[Value.slice.injEq,Option.some.injEq,Addr.mk.injEq] at hv';exact hv'.1.1.symm
    subst hg1e;have hsame:∀i u,i<k*sz→w.cell? ⟨g1,i,none⟩=some u→w'.cell? ⟨g1,i,none⟩=some u:=fun i u hi hu=>by
     rw[xA hg0,←Array.getElem?_toList] at hu;rw[xA hg1,←Array.getElem?_toList];have hk1:k*sz≤(k+1)*sz:=aO0 _ (by omega);have e1:cur.toList[i]?=(mks sz mk k)[i]?:=by rw[←htake,uP0,if_pos hi]
     have e2:cur1.toList[i]?=(mks sz mk k++mk1 sz mk)[i]?:=by rw[←aH,←htake1,uP0,if_pos (by omega)]
     rw[e2,oO0 (by rw[lI];exact hi),←e1];exact hu
    have wc:=h.wc.marksIn hk h.wb.fresh hr8 t hsame (fun x hx q cap hxe=>h.le x hx g1 q cap hin hxe);rw[hid] at hrow wb ⊢;refine⟨wb,wc,hbelow,kb.2.trans h.box,h.rb,hrow,fun x hx g' q cap' hg' hxe=>?_⟩;have:g1=g':=bO0 hg';subst this;exact Nat.le_succ_of_le (h.le x hx g1 q cap' hin hxe)
 ·have hr0:own g=(0,0):=h.wb.fresh g (by omega);have wc:WC kp wk (nD own g (o+6,0)) w' m D:=(h.wc.calm h.wb.fresh t).gives (fun k hk=>h.wb.fresh k (mO0 t.size hk)) g (o+6,0) hr0;refine⟨wb,wc,hbelow,kb.2.trans h.box,kb.1.trans h.rb,hrow,fun x hx g' q cap' hg' hxe=>?_⟩;have:g=g':=bO0 hg';subst this;obtain⟨a,q1,cap1,z,h1,h2,h3⟩:=(h.wc.marks hk) x hx;have hxe':=hxe;rw[h1] at hxe';simp only[Value.slice.injEq] at hxe';rcases h3 with h3 | ⟨g2,ha,hr,_⟩
  ·omega
  ·have:g2=g:=by
    have e:=hxe'.1;rw[ha] at e;simp only[Option.some.injEq,Addr.mk.injEq] at e;exact e.1
   subst this;rw[hr0] at hr;exact absurd hr (fA (by omega))
end
theorem elem67:bO 67 (.slice none 0 0) 1 24:=vE (by kernel_rfl)
theorem elem70:bO 70 (.slice none 0 0) 1 24:=vE (by kernel_rfl)
theorem pL0:bO 30 (.slice none 0 0) 1 24:=vE (by kernel_rfl)
theorem elem36:bO 36 (.slice none 0 0) 1 24:=vE (by kernel_rfl)
theorem elem45:bO 45 (.agg #[.pointer none,.pointer none]) 2 16:=vE (by kernel_rfl)
def St (B:Nat)(kp:Nat→Prop)(wk w0:World)(bw:Nat)(nets:List Tw)(p:Nat)(w:World):Prop:=
 ∃own D,WB B bw own w D∧WC kp wk own w (8*p) D∧D.nets=nets∧(∀o,o<8→D.n o≤4*p)∧D.n 4=D.n 5∧D.n 6=D.n 7∧Below B w0 w
structure KO (o sz et B:Nat)(kp:Nat→Prop)(wk w0:World)(bw m n:Nat)(lv:Value)(xs:List Value)(own:Own)(D:WD)(w:World):Prop where
 wb:WB B bw own w D
 wc:WC kp wk own w m D
 below:Below B w0 w
 row:Row B own w (o+6) et sz lv n xs
 le:∀x,x∈(D.L o).zip (D.L (o+1))→∀g q cap,lv.ownBlock=some g→x.1=.slice (some ⟨g,0,none⟩) q cap→q≤0
structure KW (o sz et B:Nat)(kp:Nat→Prop)(wk w0:World)(bw m n:Nat)(lv:Value)(xs:List Value)(bm:Nat)(mk:Int)(i:Nat)(own:Own)(D:WD)(w:World):Prop where
 wb:WB B bw own w D
 wc:WC kp wk own w m D
 below:Below B w0 w
 box:w.heap[bm]?=some (.cells (mk1 sz mk).toArray et)
 rb:own bm=(15,0)
 row:Row B own w (o+6) et sz lv n (mks sz mk i++xs.drop (i*sz))
 le:∀x,x∈(D.L o).zip (D.L (o+1))→∀g q cap,lv.ownBlock=some g→x.1=.slice (some ⟨g,0,none⟩) q cap→q≤0
section
variable {o sz et B : Nat} {kp : Nat → Prop} {wk w0 : World} {bw m n : Nat} {lv : Value} {xs : List Value} {bm : Nat} {mk : Int} {i : Nat} {own : Own} {D : WD} {w w' : World}
theorem KO.calm (h:KO o sz et B kp wk w0 bw m n lv xs own D w)(t:qA w w'):KO o sz et B kp wk w0 bw m n lv xs own D w':=
 ⟨h.wb.calm t,h.wc.calm h.wb.fresh t,h.below.trans (t.below h.wb.lo (fun _ f=>f.elim)),h.row.keep (Stp.calm h.wb.fresh t (0,0)) (fA (by omega)) (by omega),h.le⟩
theorem KO.start (h:KO o sz et B kp wk w0 bw m n lv xs own D w)(z:Int)(hz:mk=z)(N:Int):
  KW o sz et B kp wk w0 bw m n lv xs w.heap.size mk 0 (nD own w.heap.size (15,0)) {D with N:=N} ((w.setCell ⟨bw,1,none⟩ (int N)).alloc (.cells (mk1 sz z).toArray et)):=by
 subst hz;obtain⟨wb,wc,be⟩:=h.wb.setN N;have hs:(w.setCell ⟨bw,1,none⟩ (int N)).heap.size=w.heap.size:=by simp[World.setCell]
 have ca:qA (w.setCell ⟨bw,1,none⟩ (int N)) ((w.setCell ⟨bw,1,none⟩ (int N)).alloc (.cells (mk1 sz mk).toArray et)):=(cP0 _ _).alloc _;have hb:=eP0 (w.setCell ⟨bw,1,none⟩ (int N)) (.cells (mk1 sz mk).toArray et);rw[hs] at hb;have f2:Stp (1,0) own own w (w.setCell ⟨bw,1,none⟩ (int N)):=Stp.one h.wb.fresh ((cP0 (fun k=>k=bw) _).setCell (p:=⟨bw,1,none⟩) (fun _=>rfl) _) h.wb.me;have wb2:=wb.calm ca;have wc2:=(wc _ _ _ h.wc).calm wb.fresh ca;have hlt:w.heap.size<((w.setCell ⟨bw,1,none⟩ (int N)).alloc (.cells (mk1 sz mk).toArray et)).heap.size:=by simp[hs]
 have h0:own w.heap.size=(0,0):=h.wb.fresh _ (qO0 _);have r1:=(h.row.keep f2 (fA (by omega)) (by omega)).keep (Stp.calm wb.fresh ca (0,0)) (fA (by omega)) (by omega);refine⟨wb2.gives _ (15,0) (0,0) (Or.inl h0) (Or.inr rfl) h.wb.lo hlt,wc2.gives wb2.fresh _ (15,0) h0,(h.below.trans be).trans (ca.below (by rw[hs];exact h.wb.lo) (fun _ f=>f.elim)),hb,fD _ _ _,?_,h.le⟩;have r2:=r1.keep (Stp.gives wb2.fresh w.heap.size (15,0) (0,0) (Or.inl h0)) (fA (by omega)) (by omega);simpa[mks] using r2
theorem KW.store (h:KW o sz et B kp wk w0 bw m n lv xs bm mk i own D w)(hk:yH o sz)(hxs:xs.length=n*sz)(hi:i<n){g cap:Nat}(hv:lv=.slice (some ⟨g,0,none⟩) n cap)(t:Touch (fun k=>k=g) w w')
  (hb:∀cs:Array Value,w.heap[g]?=some (.cells cs et)→∃cs':Array Value,w'.heap[g]?=some (.cells cs' et)∧cs'.size=cs.size)
  (hin:∀j,j<sz→w'.cell? ⟨g,i*sz+j,none⟩=(mk1 sz mk)[j]?) (hout:∀j,j<i*sz∨i*sz+sz≤j→w'.cell? ⟨g,j,none⟩=w.cell? ⟨g,j,none⟩):KW o sz et B kp wk w0 bw m n lv xs bm mk (i+1) own D w':=by
 have ho:o<7∧4≤o:=by rcases hk with⟨rfl,_⟩ | ⟨rfl,_⟩<;>omega
 have hgo:own g=(o+6,0):=h.row.mine g (by rw[hv];rfl);have f:Stp (o+6,0) own own w w':=Stp.one h.wb.fresh t hgo;have hbg:B≤g:=h.wb.base g (by rw[hgo];exact fA (by omega));have wb:WB B bw own w' D:=h.wb.keep f (fun k hk=>h.wb.fresh k (mO0 t.size hk)) h.wb.base (Or.inl (by show 10≤o+6;omega));have wc:=h.wc.marksIn (n:=0) hk h.wb.fresh hgo t (fun j u hj _=>by omega) (fun x hx q cap hxe=>h.le x hx g q cap (by rw[hv];rfl) hxe);have kb:=f.keep bm (by rw[h.rb];exact fA (by decide)) (by rw[h.rb];exact fA (by omega));refine⟨wb,wc,h.below.trans (t.below h.wb.lo (fun k e=>by rw[e];exact hbg)),kb.2.trans h.box,h.rb,⟨⟨?_,?_⟩,fun g' hg'=>?_⟩,h.le⟩
 ·have h1:=lI sz mk (i+1);have:(i+1)*sz≤n*sz:=aO0 _ hi;simp only[hO0,List.length_drop,h1,hxs];omega
 ·rcases h.row.own.2 with⟨e,_⟩ | ⟨g0,cap0,cur,e,hbb,hg0,h1,h2,h3,htake⟩
  ·rw[hv] at e;cases e
  ·rw[hv] at e;simp only[Value.slice.injEq,Option.some.injEq,Addr.mk.injEq] at e;obtain⟨⟨rfl,_⟩,_,rfl⟩:=e;obtain⟨cs',k1,k2⟩:=hb cur hg0;refine Or.inr ⟨g,cap,cs',hv,hbb,k1,h1,h2,k2.trans h3,?_⟩;have hm1:=lI sz mk i;have hi1:i*sz+sz≤n*sz:=by rw[←Nat.succ_mul];exact aO0 _ hi
   have hnc:n*sz≤cap*sz:=aO0 _ h1;apply List.ext_getElem?
   intro j;rw[uP0];by_cases hj:j<n*sz
   ·rw[if_pos hj,Array.getElem?_toList,←xA k1 j];have hold:w.cell? ⟨g,j,none⟩=(mks sz mk i++xs.drop (i*sz))[j]?:=by rw[xA hg0,←Array.getElem?_toList,←htake,uP0,if_pos hj]
    by_cases c1:j<i*sz
    ·rw[hout j (Or.inl c1),hold,aH,oO0 (by omega),List.append_assoc,oO0 (by omega)]
    ·by_cases c2:i*sz+sz≤j
     ·rw[hout j (Or.inr c2),hold,aH,nO0 (by omega),List.append_assoc,nO0 (by omega),nO0 (by rw[sH];omega),hm1,sH,List.getElem?_drop,List.getElem?_drop,Nat.succ_mul];congr 1
      omega
     ·have:=hin (j-i*sz) (by omega);rw[show i*sz+(j-i*sz)=j from by omega] at this;rw[this,aH,List.append_assoc,nO0 (by omega),oO0 (by rw[sH];omega),hm1]
   ·rw[if_neg hj];symm
    apply List.getElem?_eq_none
    have h1:=lI sz mk (i+1);have:(i+1)*sz≤n*sz:=aO0 _ hi;simp only[hO0,List.length_drop,h1,hxs];omega
 ·rw[hv] at hg';have:g=g':=bO0 hg';subst this;exact hgo
theorem kO {g et:Nat}:∀(vs:List Value) (o:Nat) (w:World) (cs:Array Value),w.heap[g]?=some (.cells cs et)→∃cs':Array Value,(w.setCells g o vs).heap[g]?=some (.cells cs' et)∧cs'.size=cs.size
 | [],_,_,cs,h=>⟨cs,h,rfl⟩
 | v::r,o,w,cs,h=>by
  obtain⟨cs',h1,h2⟩:=kO (et:=et) r (o+1) (w.setCell ⟨g,o,none⟩ v) _ (dP0 w g o cs et v h);exact⟨cs',h1,by rw[h2];simp⟩
theorem KW.stores (h:KW o sz et B kp wk w0 bw m n lv xs bm mk i own D w)(hk:yH o sz)(hxs:xs.length=n*sz)(hi:i<n){g cap:Nat}(hv:lv=.slice (some ⟨g,0,none⟩) n cap):KW o sz et B kp wk w0 bw m n lv xs bm mk (i+1) own D (w.setCells g (i*sz) (mk1 sz mk)):=by
 refine h.store hk hxs hi hv (gC _ _ _ _) (fun cs hcs=>kO _ _ _ _ hcs) (fun j hj=>?_) (fun j hj=>iP0 _ _ _ _ _ (fun _ _=>by rw[sH];exact hj));obtain⟨cs,hcs,hsz⟩:∃cs:Array Value,w.heap[g]?=some (.cells cs et)∧n*sz≤cs.size:=by
  rcases h.row.own.2 with⟨e,_⟩ | ⟨g0,cap0,cur,e,hbb,hg0,h1,h2,h3,htake⟩
  ·rw[hv] at e;cases e
  ·rw[hv] at e;simp only[Value.slice.injEq,Option.some.injEq,Addr.mk.injEq] at e;obtain⟨⟨rfl,_⟩,_,rfl⟩:=e;exact⟨cur,hg0,by rw[h3];exact aO0 _ h1⟩
 have hi1:i*sz+sz≤n*sz:=by rw[←Nat.succ_mul];exact aO0 _ hi
 rw[World.cell?_setCells_in g (mk1 sz mk) (i*sz) w (fun j hj=>by rw[sH] at hj;rw[xA hcs];rw[fO0 (by omega)];rfl) j (by rw[sH];exact hj),pO0 (by rw[sH];exact hj)]
theorem KW.done (h:KW o sz et B kp wk w0 bw m n lv xs bm mk n own D w)(hxs:xs.length=n*sz):KL o sz et B kp wk w0 bw m n lv bm mk own D w:=by
 refine⟨h.wb,h.wc,h.below,h.box,h.rb,?_,fun x hx g q cap hg hxe=>mO0 (h.le x hx g q cap hg hxe) (Nat.zero_le _)⟩;have:=h.row;rw[List.drop_eq_nil_of_le (by omega),List.append_nil] at this;exact this
theorem St.of (h:KL o sz et B kp wk w0 bw m n lv bm mk own D w){p:Nat}(hm:m≤8*p)(hn:∀o,o<8→D.n o≤4*p)(h4:D.n 4=D.n 5)(h6:D.n 6=D.n 7):St B kp wk w0 bw D.nets p w:=
 ⟨own,D,h.wb,h.wc.weak hm,rfl,hn,h4,h6,h.below⟩
end
section
variable {B : Nat} {kp : Nat → Prop} {wk w0 w w' : World} {bw : Nat} {nets : List Tw} {p : Nat} {own : Own} {D : WD} {m : Nat}
theorem WB.withNets (h:WB B bw own w D)(l:List Tw):WB B bw own w {D with nets:=l}:=⟨h.fresh,h.base,h.lo,h.me,h.num,h.cell,h.fr,h.row⟩
theorem St.calm (h:St B kp wk w0 bw nets p w)(t:qA w w'):St B kp wk w0 bw nets p w':=by
 obtain⟨own,D,wb,wc,hD,hn,h4,h6,be⟩:=h;exact⟨own,D,wb.calm t,wc.calm wb.fresh t,hD,hn,h4,h6,be.trans (t.below wb.lo (fun _ f=>f.elim))⟩
theorem St.mono (h:St B kp wk w0 bw nets p w){q:Nat}(hq:p≤q):St B kp wk w0 bw nets q w:=by
 obtain⟨own,D,wb,wc,hD,hn,h4,h6,be⟩:=h;exact⟨own,D,wb,wc.weak (by omega),hD,fun o ho=>by have:=hn o ho;omega,h4,h6,be⟩
theorem St.bel (h:St B kp wk w0 bw nets p w):Below B w0 w:=by
 obtain⟨own,D,wb,wc,hD,hn,h4,h6,be⟩:=h;exact be
theorem St.many (h:St B kp wk w0 bw nets p w):nets.length≤4*p:=by
 obtain⟨own,D,wb,wc,hD,hn,h4,h6,be⟩:=h;have:=hn 0 (by decide);rw[wc.twn,hD] at this;exact this
theorem St.guard (h:St B kp wk w0 bw nets p w)(t:qA w w')(G:Nat→Prop)(hG:∀g,G g→w.heap.size≤g∧g<w'.heap.size):St B (fun k=>kp k∨G k) w' w0 bw nets p w':=by
 classical
 obtain⟨own,D,wb,wc,hD,hn,h4,h6,be⟩:=h;have wb1:=wb.calm t;have wc1:=wc.calm wb.fresh t;have hz:∀k,G k→own k=(0,0):=fun k hk=>wb.fresh k (hG k hk).1;have f:Stp (0,0) own (fun k=>if G k then (15,0) else own k) w' w':=⟨cP0 _ _,fun k h0 _=>⟨if_neg (fun hk=>h0 (hz k hk)),rfl⟩⟩;refine⟨fun k=>if G k then (15,0) else own k,D,wb1.keep f (fun k hk=>?_) (fun k hk=>?_) (Or.inr rfl),?_,hD,hn,h4,h6,be.trans (t.below wb.lo (fun _ f=>f.elim))⟩
 ·have:¬G k:=fun hk2=>by have:=(hG k hk2).2;omega
  simp only[if_neg this];exact wb1.fresh k hk
 ·by_cases e:G k
  ·exact mO0 wb.lo (hG k e).1
  ·simp only[if_neg e] at hk;exact wb1.base k hk
 ·have wc2:=wc1.keep f (by decide);refine⟨wc2.tw,wc2.twn,wc2.net,wc2.ints,wc2.tests,wc2.links,wc2.logs,fun k hk=>⟨?_,rfl⟩⟩;by_cases e:G k
  ·simp only[if_pos e]
  ·rcases hk with hk | hk
   ·exact(wc2.kept k hk).1
   ·exact absurd hk e
theorem St.kept (h:St B kp wk w0 bw nets p w){k:Nat}(hk:kp k):w.heap[k]?=wk.heap[k]?:=by
 obtain⟨own,D,wb,wc,hD,hn,h4,h6,be⟩:=h;exact(wc.kept k hk).2
theorem St.back {kp':Nat→Prop}{wk':World}(h:St B kp' wk' w0 bw nets p w)(hk:∀k,kp k→kp' k)(hw:∀k,kp k→wk'.heap[k]?=wk.heap[k]?):St B kp wk w0 bw nets p w:=by
 obtain⟨own,D,wb,wc,hD,hn,h4,h6,be⟩:=h;exact⟨own,D,wb,⟨wc.tw,wc.twn,wc.net,wc.ints,wc.tests,wc.links,wc.logs,fun k hk2=>⟨(wc.kept k (hk k hk2)).1,(wc.kept k (hk k hk2)).2.trans (hw k hk2)⟩⟩,hD,hn,h4,h6,be⟩
theorem St.x (h:St B kp wk w0 bw nets p w){i:Nat}{t:Tw}(hi:nets[i]?=some t){F:Nat}{args:Array Value}{V:Value}{σ':Net}
  (ho:∀ρ,t.σ.closed=false→Fit t.σ (8*p)→XN w t.bx ρ t.σ→Calls Tryz.prog F args w fun e w'=>e=.returned V∧∃ρ',XN w' t.bx ρ' σ'∧Mv uB ρ ρ' w w')
  (hF:Fit t.σ (8*p)→Fit σ' (8*p+8)) (hc:t.σ.closed=true→XC w t.bx→(Calls Tryz.prog F args w fun e w'=>e=.returned V∧qA w w')∧σ'=t.σ):
  Calls Tryz.prog F args w fun e w'=>e=.returned V∧St B kp wk w0 bw (nets.set i {t with σ:=σ'}) (p+1) w':=by
 obtain⟨own,D,wb,wc,rfl,hn,h4,h6,be⟩:=h;have N:=wc.net i t hi;rcases N.x with⟨hcl,F,ρ,hX,hρ⟩ | ⟨hcl,hX,hown⟩
 ·refine(ho ρ hcl F hX).mono ?_;rintro e w' ⟨rfl,ρ',hX',M⟩
  obtain⟨f,hρ',hfr,hba⟩:=Stp.mv wb.fresh wb.base wb.lo hρ M;refine⟨rfl,mF own ρ' (20,i),{D with nets:=D.nets.set i {t with σ:=σ'}},(wb.keep f hfr hba (Or.inl (by show 10≤20;decide))).withNets _,wc.turn hi (t':={t with σ:=σ'}) rfl rfl (Or.inl rfl) f (m':=8*(p+1)) (by omega) ⟨⟨fun e=>(N.r.1 e).weak (by omega),NetOK.keepR f (fA (by decide)) N.r.2⟩,Or.inl ⟨hX'.open_,hF F,ρ',hX',hρ'⟩⟩,rfl,fun o ho=>by have:=hn o ho;show D.n o≤_;omega,h4,h6,be.trans (M.touch.below wb.lo ?_)⟩;rintro k ⟨r,e,_⟩
  exact wb.base k (by rw[hρ k (by rw[e];simp)];exact fA (by decide))
 ·obtain⟨hcall,rfl⟩:=hc hcl hX;refine hcall.mono ?_;rintro e w' ⟨rfl,c⟩
  have hs:D.nets.set i {t with σ:=t.σ}=D.nets:=by
   apply List.ext_getElem?
   intro j;by_cases e:i=j
   ·subst e;rw[List.getElem?_set_self (rO0.1 hi).1,hi]
   ·rw[List.getElem?_set_ne e]
  rw[hs];exact⟨rfl,own,D,wb.calm c,(wc.calm wb.fresh c).weak (by omega),rfl,fun o ho=>by have:=hn o ho;omega,h4,h6,be.trans (c.below wb.lo (fun _ f=>f.elim))⟩
theorem St.r (h:St B kp wk w0 bw nets p w){i:Nat}{t:Tw}(hi:nets[i]?=some t){F:Nat}{args:Array Value}{V:Value}{τ':Net}
  (ho:∀ρ,(t.τ.closed=false→Fit t.τ (8*p))→RG w t.br ρ t.τ→Calls Tryz.prog F args w fun e w'=>e=.returned V∧∃ρ',RG w' t.br ρ' τ'∧Mv uB ρ ρ' w w')
  (hF:(t.τ.closed=false→Fit t.τ (8*p))→τ'.closed=false→Fit τ' (8*p+8)):
  Calls Tryz.prog F args w fun e w'=>e=.returned V∧St B kp wk w0 bw (nets.set i {t with τ:=τ'}) (p+1) w':=by
 obtain⟨own,D,wb,wc,rfl,hn,h4,h6,be⟩:=h;have N:=wc.net i t hi;obtain⟨hN1,ρ,hR,hρ⟩:=N.r;refine(ho ρ hN1 hR).mono ?_;rintro e w' ⟨rfl,ρ',hR',M⟩
 obtain⟨f,hρ',hfr,hba⟩:=Stp.mv wb.fresh wb.base wb.lo hρ M;refine⟨rfl,mF own ρ' (21,i),{D with nets:=D.nets.set i {t with τ:=τ'}},(wb.keep f hfr hba (Or.inl (by show 10≤21;decide))).withNets _,wc.turn hi (t':={t with τ:=τ'}) rfl rfl (Or.inr rfl) f (m':=8*(p+1)) (by omega) ⟨⟨fun e=>hF hN1 e,ρ',hR',hρ'⟩,(NetOK.keepX f (fA (by decide)) N.x).imp (fun ⟨a,b,c⟩=>⟨a,b.weak (by omega),c⟩) id⟩,rfl,fun o ho=>by have:=hn o ho;show D.n o≤_;omega,h4,h6,be.trans (M.touch.below wb.lo ?_)⟩;rintro k ⟨r,e,_⟩
 exact wb.base k (by rw[hρ k (by rw[e];simp)];exact fA (by decide))
theorem St.xCalm (h:St B kp wk w0 bw nets p w){i:Nat}{t:Tw}(hi:nets[i]?=some t){F:Nat}{args:Array Value}{Q:Ending→World→Prop}
  (ho:∀ρ,t.σ.closed=false→Fit t.σ (8*p)→XN w t.bx ρ t.σ→Calls Tryz.prog F args w fun e w'=>Q e w'∧qA w w')
  (hc:t.σ.closed=true→XC w t.bx→Calls Tryz.prog F args w fun e w'=>Q e w'∧qA w w'):
  Calls Tryz.prog F args w fun e w'=>Q e w'∧St B kp wk w0 bw nets p w'∧qA w w':=by
 obtain⟨own0,N⟩:∃own0,NetOK own0 w (8*p) i t:=by
  have h2:=h;obtain⟨own,D,wb,wc,rfl,hn,h4,h6,be⟩:=h2;exact⟨own,wc.net i t hi⟩
 rcases N.x with⟨hcl,F,ρ,hX,hρ⟩ | ⟨hcl,hX,hown⟩
 ·exact(ho ρ hcl F hX).mono fun e w' ⟨q,c⟩=>⟨q,h.calm c,c⟩
 ·exact(hc hcl hX).mono fun e w' ⟨q,c⟩=>⟨q,h.calm c,c⟩
theorem St.rCalm (h:St B kp wk w0 bw nets p w){i:Nat}{t:Tw}(hi:nets[i]?=some t){F:Nat}{args:Array Value}{Q:Ending→World→Prop}
  (ho:∀ρ,(t.τ.closed=false→Fit t.τ (8*p))→RG w t.br ρ t.τ→Calls Tryz.prog F args w fun e w'=>Q e w'∧qA w w'):
  Calls Tryz.prog F args w fun e w'=>Q e w'∧St B kp wk w0 bw nets p w'∧qA w w':=by
 obtain⟨own0,N⟩:∃own0,NetOK own0 w (8*p) i t:=by
  have h2:=h;obtain⟨own,D,wb,wc,rfl,hn,h4,h6,be⟩:=h2;exact⟨own,wc.net i t hi⟩
 obtain⟨hN1,ρ,hR,hρ⟩:=N.r;exact(ho ρ hN1 hR).mono fun e w' ⟨q,c⟩=>⟨q,h.calm c,c⟩
theorem sX {i:Nat}{t:Tw}(h:nets[i]?=some t):nets.set i t=nets:=by
 apply List.ext_getElem?
 intro j;by_cases e:i=j
 ·subst e;rw[List.getElem?_set_self (rO0.1 h).1,h]
 ·rw[List.getElem?_set_ne e]
theorem pI {i:Nat}{t t':Tw}(h:nets[i]?=some t):(nets.set i t')[i]?=some t':=List.getElem?_set_self (rO0.1 h).1
theorem uG {i:Nat}{t t':Tw}:(nets.set i t).set i t'=nets.set i t':=by simp
def StL (o sz et:Nat)(B:Nat)(kp:Nat→Prop)(wk w0:World)(bw:Nat)(nets:List Tw)(p n:Nat)(lv:Value)(xs:List Value)(w:World):Prop:=
 ∃own D,KO o sz et B kp wk w0 bw (8*p) n lv xs own D w∧D.nets=nets∧(∀o,o<8→D.n o≤4*p)∧D.n 4=D.n 5∧D.n 6=D.n 7
theorem StL.calm {o sz et n:Nat}{lv:Value}{xs:List Value}(h:StL o sz et B kp wk w0 bw nets p n lv xs w)(t:qA w w'):StL o sz et B kp wk w0 bw nets p n lv xs w':=by
 obtain⟨own,D,hK,h1⟩:=h;exact⟨own,D,hK.calm t,h1⟩
theorem StL.kept {o sz et n:Nat}{lv:Value}{xs:List Value}(h:StL o sz et B kp wk w0 bw nets p n lv xs w){k:Nat}(hk:kp k):w.heap[k]?=wk.heap[k]?:=by
 obtain⟨own,D,hK,h1⟩:=h;exact(hK.wc.kept k hk).2
theorem StL.row {o sz et n:Nat}{lv:Value}{xs:List Value}(h:StL o sz et B kp wk w0 bw nets p n lv xs w):w.ownsRow B et sz lv n xs:=by
 obtain⟨own,D,hK,h1⟩:=h;exact hK.row.own
theorem St.takes (h:St B kp wk w0 bw nets p w)(t:qA w w'){o sz et n:Nat}{lv:Value}{xs:List Value}(hk:yH o sz)(hr:w'.ownsRow w.heap.size et sz lv n xs):StL o sz et B kp wk w0 bw nets p n lv xs w':=by
 obtain⟨own,D,wb,wc,hD,hn,h4,h6,be⟩:=h;have wb1:=wb.calm t;have wc1:=wc.calm wb.fresh t;have be1:=be.trans (t.below wb.lo (fun _ f=>f.elim));have ho:o<7∧4≤o:=by rcases hk with⟨rfl,_⟩ | ⟨rfl,_⟩<;>omega
 rcases hr.2 with⟨hv,h0⟩ | ⟨g,cap,cur,hv,hbg,hg,r1⟩
 ·subst hv h0;exact⟨own,D,⟨wb1,wc1,be1,⟨⟨hr.1,Or.inl ⟨rfl,rfl⟩⟩,fun g hg=>by cases hg⟩,fun x hx g q cap hg=>by cases hg⟩,hD,hn,h4,h6⟩
 ·subst hv;have h0:own g=(0,0):=wb.fresh g hbg;have hgl:g<w'.heap.size:=(tO0.1 hg).1;refine⟨nD own g (o+6,0),D,⟨wb1.gives g (o+6,0) (0,0) (Or.inl h0) (Or.inr rfl) (mO0 wb.lo hbg) hgl,wc1.gives wb1.fresh g (o+6,0) h0,be1,⟨⟨hr.1,Or.inr ⟨g,cap,cur,rfl,mO0 wb.lo hbg,hg,r1⟩⟩,fun g' hg'=>?_⟩,fun x hx g' q cap' hg' hxe=>?_⟩,hD,hn,h4,h6⟩
  ·have:g=g':=bO0 hg';subst this;exact fD _ _ _
  ·have:g=g':=bO0 hg';subst this;obtain⟨a,q1,cap1,z,h1,h2,h3⟩:=(wc.marks hk) x hx;have hxe':=hxe;rw[h1] at hxe';simp only[Value.slice.injEq] at hxe';rcases h3 with h3 | ⟨g2,ha,hr2,_⟩
   ·omega
   ·have:g2=g:=by
     have e:=hxe'.1;rw[ha] at e;simp only[Option.some.injEq,Addr.mk.injEq] at e;exact e.1
    subst this;rw[h0] at hr2;exact absurd hr2 (fA (by omega))
theorem St.all (h:St B kp wk w0 bw nets p w){i:Nat}{t:Tw}(hi:nets[i]?=some t):
  ∃g cap,w.cell? ⟨bw,0,none⟩=some (.slice (some ⟨g,0,none⟩) nets.length cap)∧w.cell? ⟨g,i*2,none⟩=some (ptr t.bx)∧w.cell? ⟨g,i*2+1,none⟩=some (ptr t.br):=by
 obtain⟨own,D,wb,wc,rfl,hn,h4,h6,be⟩:=h;have hil:i<D.nets.length:=(rO0.1 hi).1;have htw:∀(nets:List Tw) (i:Nat) (t:Tw),nets[i]?=some t→(jJ nets)[i*2]?=some (ptr t.bx)∧(jJ nets)[i*2+1]?=some (ptr t.br):=by
  intro nets;induction nets with
  | nil=>intro i t h;simp at h
  | cons y ys ih=>
   intro i t h;cases i with
   | zero=>
    have:y=t:=by simpa using h
    subst this;exact⟨rfl,rfl⟩
   | succ j=>
    have:=ih j t (by simpa using h);have e:jJ (y::ys)=[ptr y.bx,ptr y.br]++jJ ys:=rfl;rw[e,show (j+1)*2=j*2+2 from by omega];exact this
 have hr:=(wb.row 0 (by decide) (by decide)).own;have hc0:=wb.cell 0 (by decide) (by decide);rcases hr.2 with⟨_,h0⟩ | ⟨g,cap,cur,hv,_,hg,_,_,_,htake⟩
 ·rw[wc.twn] at h0;omega
 ·rw[hv,wc.twn] at hc0;refine⟨g,cap,hc0,?_⟩;have hc:∀o u,(jJ D.nets)[o]?=some u→w.cell? ⟨g,o,none⟩=some u:=fun o u hu=>by
   rw[xA hg,←Array.getElem?_toList];rw[←wc.tw,←htake] at hu;have hol:o<D.n 0*wsz 0:=by
    have:=(rO0.1 hu).1;rw[List.length_take] at this;omega
   rw[uP0,if_pos hol] at hu;exact hu
  exact⟨hc _ _ (htw D.nets i t hi).1,hc _ _ (htw D.nets i t hi).2⟩
theorem St.top (h:St B kp wk w0 bw nets p w):∃a cap,w.cell? ⟨bw,0,none⟩=some (.slice a nets.length cap):=by
 obtain⟨own,D,wb,wc,rfl,hn,h4,h6,be⟩:=h;have hc0:=wb.cell 0 (by decide) (by decide);rcases(wb.row 0 (by decide) (by decide)).own.2 with⟨hv,h0⟩ | ⟨g,cap,cur,hv,_⟩
 ·rw[wc.twn] at h0;exact⟨none,0,by rw[hc0,hv,h0]⟩
 ·rw[hv,wc.twn] at hc0;exact⟨_,_,hc0⟩
end
end Go.Proofs.YtodfcpblcpogiaaGreat

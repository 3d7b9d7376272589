import Derived.Test.YtodfcpblcpogiaaGreatUh
import Derived.Test.YtodfcpblcpogiaaGreatTr
import Derived.Laws.CopyOwn
namespace Go.Proofs.YtodfcpblcpogiaaGreat
open Go.RowKit
def marks (sz:Nat)(mark:Nat→Value):List Value:=(List.range sz).map mark
theorem oD (sz:Nat)(mark:Nat→Value):(marks sz mark).length=sz:=by simp[marks]
structure OwnAt (w:World)(g n i sz:Nat)(mark:Nat→Value)(xs:List Value):Prop where
 cell:∀j r,j<n+2→r<sz→w.cell? ⟨g,j*sz+r,none⟩=some (if j<i∨n≤j then mark r else xs.getD (j*sz+r) (int 0))
 fr:∀j,w.frozen? ⟨g,j,none⟩=false
section
variable {w w' : World} {g n i sz : Nat} {mark : Nat → Value} {xs : List Value}
theorem OwnAt.lt (h:OwnAt w g n i sz mark xs)(hs:0<sz):g<w.heap.size:=fP0 (h.cell 0 0 (by omega) hs)
theorem OwnAt.calm (h:OwnAt w g n i sz mark xs)(hs:0<sz)(t:qA w w'):OwnAt w' g n i sz mark xs:=
 ⟨fun j r hj hr=>t.cell (p:=⟨g,j*sz+r,none⟩) id (h.cell j r hj hr),fun j=>(nP0 (w:=w) (a:=⟨g,j,none⟩) (t.block g (h.lt hs) id)).trans (h.fr j)⟩
theorem dH {j n sz:Nat}(h:j<n):j*sz+sz≤n*sz:=by rw[←Nat.succ_mul];exact aO0 _ h
theorem OwnAt.set (h:OwnAt w g n i sz mark xs)(hi:i<n):OwnAt (w.setCells g (i*sz) (marks sz mark)) g n (i+1) sz mark xs:=by
 refine⟨fun j r hj hr=>?_,fun j=>by rw[World.frozen?_setCells];exact h.fr j⟩;by_cases e:j=i
 ·subst e;rw[if_pos (by omega),World.cell?_setCells_in g (marks sz mark) (j*sz) w (fun q hq=>by rw[oD] at hq;rw[h.cell j q hj hq];rfl) r (by rw[oD];exact hr)];simp[marks]
 ·rw[iP0 g (marks sz mark) _ w _ (fun _ _=>by
   rw[oD];by_cases c:j<i
   ·left;have:=dH (sz:=sz) c;show j*sz+r<i*sz;omega
   ·right;have:=dH (sz:=sz) (show i<j by omega);show i*sz+sz≤j*sz+r;omega),h.cell j r hj hr]
  by_cases h1:j<i∨n≤j
  ·rw[if_pos h1,if_pos (by omega)]
  ·rw[if_neg h1,if_neg (by omega)]
theorem OwnAt.start {cur:List Value}{et:Nat}(hc:w.heap[g]?=some (.cells (splice cur 0 xs).toArray et (0,0)))(hl:cur.length=(n+2)*sz)(hx:xs.length=n*sz):
  OwnAt ((w.setCells g (n*sz) (marks sz mark)).setCells g ((n+1)*sz) (marks sz mark)) g n 0 sz mark xs:=by
 have hcell:∀j,w.cell? ⟨g,j,none⟩=(splice cur 0 xs)[j]?:=fun j=>by rw[xA hc j];simp
 have h2:(n+2)*sz=n*sz+2*sz:=by rw[Nat.add_mul]
 have h1:(n+1)*sz=n*sz+sz:=by rw[Nat.add_mul,Nat.one_mul]
 have hlen:(splice cur 0 xs).length=(n+2)*sz:=by rw[length_splice _ _ _ (by omega),hl]
 have hsome:∀j,j<(n+2)*sz→(w.cell? ⟨g,j,none⟩).isSome=true:=fun j hj=>by rw[hcell,pO0 (by omega)];rfl
 refine⟨fun j r hj hr=>?_,fun j=>by rw[World.frozen?_setCells,World.frozen?_setCells];exact bA hc j⟩;by_cases e1:j=n+1
 ·subst e1
  rw[if_pos (by omega),World.cell?_setCells_in g (marks sz mark) ((n+1)*sz) _ (fun q hq=>by
   rw[oD] at hq
   exact World.isSome_setCells g _ _ w _ (hsome _ (by omega))) r (by rw[oD];exact hr)]
  simp[marks]
 ·rw[iP0 g (marks sz mark) _ _ _ (fun _ _=>by
   left
   have:=dH (sz:=sz) (show j<n+1 by omega);show j*sz+r<(n+1)*sz
   omega)]
  by_cases e2:j=n
  ·subst e2;rw[if_pos (by omega),World.cell?_setCells_in g (marks sz mark) (j*sz) w (fun q hq=>by rw[oD] at hq;exact hsome _ (by omega)) r (by rw[oD];exact hr)];simp[marks]
  ·have hjn:j<n:=by omega
   have hpj:=dH (sz:=sz) hjn
   rw[if_neg (by omega),iP0 g (marks sz mark) _ w _ (fun _ _=>by
    left
    show j*sz+r<n*sz
    omega),hcell]
   simp only[splice,List.take_zero,List.nil_append];rw[oO0 (by omega),jO0,pO0 (by omega)];rfl
theorem OwnAt.full {own:Own}{r:Nat}(h:OwnAt w g n n sz mark xs)(hr:own g=(r,0))(hn:n≤17592186044416):FullOK r sz mark own w [.slice (some ⟨g,0,none⟩) (n+2) (n+2)]:=by
 intro v hv;have:v=.slice (some ⟨g,0,none⟩) (n+2) (n+2):=by simpa using hv
 subst this;refine⟨g,n+2,n+2,rfl,hr,by unfold maxLen;omega,fun j q hj hq=>?_⟩;rw[h.cell j q hj hq,if_pos (by omega)]
end
section
variable {B : Nat} {kp : Nat → Prop} {wk w0 w w' : World} {bw : Nat} {nets : List Tw} {p : Nat} {own : Own} {D : WD} {m : Nat}
theorem fL0 (hf:∀k,w.heap.size≤k→own k=(0,0))(hb:∀k,own k≠(0,0)→B≤k){ρ:zA}(R:Nat × Nat)(h0:∀k,ρ k≠none→own k=(0,0)∧k<w.heap.size∧B≤k):
  Stp (0,0) own (mF own ρ R) w w∧(∀k,w.heap.size≤k→mF own ρ R k=(0,0))∧∀k,mF own ρ R k≠(0,0)→B≤k:=by
 have hn:∀k,own k≠(0,0)→ρ k=none:=fun k hk=>by
  cases e:ρ k with
  | none=>rfl
  | some r=>exact absurd (h0 k (by rw[e];simp)).1 hk
 refine⟨⟨cP0 _ _,fun k hk _=>⟨bD (hn k hk),rfl⟩⟩,fun k hk=>?_,fun k hk=>?_⟩
 ·have:ρ k=none:=by
   cases e:ρ k with
   | none=>rfl
   | some r=>have:=(h0 k (by rw[e];simp)).2.1;omega
  rw[bD this];exact hf k hk
 ·by_cases e:ρ k=none
  ·rw[bD e] at hk;exact hb k hk
  ·exact(h0 k e).2.2
def StN (B:Nat)(kp:Nat→Prop)(wk w0:World)(bw:Nat)(nets:List Tw)(p:Nat)(v:Value)(o:Option Tw)(w:World):Prop:=
 ∃own D,WB B bw own w D∧WC kp wk own w (8*p) D∧D.nets=nets∧(∀o,o<8→D.n o≤4*p)∧D.n 4=D.n 5∧D.n 6=D.n 7∧Below B w0 w∧FullOK 13 1 mS own w [v]∧∀t,o=some t→NetOK own w (8*p) nets.length t
theorem StN.calm {v:Value}{o:Option Tw}(h:StN B kp wk w0 bw nets p v o w)(t:qA w w'):StN B kp wk w0 bw nets p v o w':=by
 obtain⟨own,D,wb,wc,hD,hn,h4,h6,be,hF,hN⟩:=h;have f:=Stp.calm wb.fresh t (0,0);exact⟨own,D,wb.calm t,wc.calm wb.fresh t,hD,hn,h4,h6,be.trans (t.below wb.lo (fun _ f=>f.elim)),hF.keep f (fA (by decide)) (by decide),fun t ht=>(hN t ht).keep f (fA (by decide)) (fA (by decide))⟩
theorem St.madeNone (h:St B kp wk w0 bw nets p w)(hc:qA w w'){n:Nat}{xs:List Value}(ho:OwnAt w' w.heap.size n n 1 mS xs)(hn:n≤17592186044416):StN B kp wk w0 bw nets p (.slice (some ⟨w.heap.size,0,none⟩) (n+2) (n+2)) none w':=by
 obtain⟨own,D,wb,wc,hD,hn4,h4,h6,be⟩:=h;have wb1:=wb.calm hc;have h0:own w.heap.size=(0,0):=wb.fresh _ (qO0 _);exact⟨nD own w.heap.size (13,0),D,wb1.gives _ (13,0) (0,0) (Or.inl h0) (Or.inr rfl) wb.lo (ho.lt (by decide)),(wc.calm wb.fresh hc).gives wb1.fresh _ (13,0) h0,hD,hn4,h4,h6,be.trans (hc.below wb.lo (fun _ f=>f.elim)),ho.full (fD _ _ _) hn,fun t ht=>by cases ht⟩
theorem St.madeBoth (h:St B kp wk w0 bw nets p w)(hc:qA w w'){n:Nat}{xs:List Value}(ho:OwnAt w' w.heap.size n n 1 mS xs)(hn:n≤17592186044416){par:List Nat}(T:Tree par){gx gr:Nat}{ρ ρr:zA}(hx:XN w' gx ρ (nC par))(hr:RG w' gr ρr (nC par)){c:Nat}(h1:∀k,ρ k≠none→w.heap.size<k∧k<c)(h2:∀k,ρr k≠none→w.heap.size<k∧c≤k):
  StN B kp wk w0 bw nets p (.slice (some ⟨w.heap.size,0,none⟩) (n+2) (n+2)) (some ⟨gx,gr,nC par,nC par⟩) w':=by
 obtain⟨own,D,wb,wc,hD,hn4,h4,h6,be⟩:=h;have wb1:=wb.calm hc;have h0:own w.heap.size=(0,0):=wb.fresh _ (qO0 _);have be1:=be.trans (hc.below wb.lo (fun _ f=>f.elim));have wb2:=wb1.gives _ (13,0) (0,0) (Or.inl h0) (Or.inr rfl) wb.lo (ho.lt (by decide));have wc2:=(wc.calm wb.fresh hc).gives wb1.fresh _ (13,0) h0;have hz:∀k,w.heap.size<k→nD own w.heap.size (13,0) k=(0,0):=fun k hk=>by
  rw[eC _ _ _ _ (by omega)];exact wb.fresh k (by omega)
 obtain⟨f1,fr1,ba1⟩:=fL0 (R:=(20,nets.length)) wb2.fresh wb2.base (ρ:=ρ) (fun k hk=>⟨hz k (h1 k hk).1,hx.lt k hk,by have:=wb.lo;have:=(h1 k hk).1;omega⟩);have wb3:=wb2.keep f1 fr1 ba1 (Or.inr rfl);have wc3:=wc2.keep f1 (by decide);have hxr:∀k,ρr k≠none→ρ k=none:=fun k hk=>by
  cases e:ρ k with
  | none=>rfl
  | some r=>have a:=(h1 k (by rw[e];simp)).2;have b:=(h2 k hk).2;omega
 have hrx:∀k,ρ k≠none→ρr k=none:=fun k hk=>by
  cases e:ρr k with
  | none=>rfl
  | some r=>exact absurd (hxr k (by rw[e];simp)) hk
 obtain⟨f2,fr2,ba2⟩:=fL0 (R:=(21,nets.length)) wb3.fresh wb3.base (ρ:=ρr) (fun k hk=>⟨by rw[bD (hxr k hk)];exact hz k (h2 k hk).1,hr.lt k hk,by have:=wb.lo;have:=(h2 k hk).1;omega⟩);refine⟨_,D,wb3.keep f2 fr2 ba2 (Or.inr rfl),wc3.keep f2 (by decide),hD,hn4,h4,h6,be1,((ho.full (fD _ _ _) hn).keep f1 (fA (by decide)) (by decide)).keep f2 (fA (by decide)) (by decide),fun t ht=>?_⟩;cases ht;refine⟨⟨fun _=>(uF0 T).weak (Nat.zero_le _),ρr,hr,fun k hk=>uJ hk⟩,Or.inl ⟨rfl,(uF0 T).weak (Nat.zero_le _),ρ,hx,fun k hk=>?_⟩⟩;rw[bD (hrx k hk)];exact uJ hk
def StM (B:Nat)(kp:Nat→Prop)(wk w0:World)(bw:Nat)(nets:List Tw)(p:Nat)(o:Option Tw)(w:World):Prop:=
 ∃own D,WB B bw own w D∧WC kp wk own w (8*p) D∧D.nets=nets∧(∀o,o<8→D.n o≤4*p+4)∧D.n 4=D.n 5∧D.n 6=D.n 7∧D.n 0≤4*p∧Below B w0 w∧∀t,o=some t→NetOK own w (8*p) nets.length t
theorem StM.calm {o:Option Tw}(h:StM B kp wk w0 bw nets p o w)(t:qA w w'):StM B kp wk w0 bw nets p o w':=by
 obtain⟨own,D,wb,wc,hD,hn,h4,h6,h0,be,hN⟩:=h;have f:=Stp.calm wb.fresh t (0,0);exact⟨own,D,wb.calm t,wc.calm wb.fresh t,hD,hn,h4,h6,h0,be.trans (t.below wb.lo (fun _ f=>f.elim)),fun t ht=>(hN t ht).keep f (fA (by decide)) (fA (by decide))⟩
theorem StM.done {o:Option Tw}(h:StM B kp wk w0 bw nets p o w):St B kp wk w0 bw nets (p+1) w:=by
 obtain⟨own,D,wb,wc,hD,hn,h4,h6,h0,be,hN⟩:=h;exact⟨own,D,wb,wc.weak (by omega),hD,fun o ho=>by have:=hn o ho;omega,h4,h6,be⟩
theorem StN.ints {v:Value}{o:Option Tw}(h:StN B kp wk w0 bw nets p v o w):∃vI nI LI,w.cell? ⟨bw,2,none⟩=some vI∧(∀o,w.frozen? ⟨bw,o,none⟩=false)∧B≤w.heap.size∧nI≤4*p∧w.ownsRow B 30 1 vI nI LI∧
  ∀g cap w',xF B 30 1 vI (nI+1) (LI++[v]) w g cap w'→w'.cell? ⟨bw,2,none⟩=some vI∧(∀j,w'.frozen? ⟨bw,j,none⟩=false)∧StM B kp wk w0 bw nets p o (w'.setCell ⟨bw,2,none⟩ (.slice (some ⟨g,0,none⟩) (nI+1) cap)):=by
 obtain⟨own,D,wb,wc,hD,hn,h4,h6,be,hF,hN⟩:=h;refine⟨D.v 2,D.n 2,D.L 2,wb.cell 2 (by decide) (by decide),wb.fr,wb.lo,hn 2 (by decide),(wb.row 2 (by decide) (by decide)).own,fun g cap w' hg=>?_⟩;obtain⟨wb1,wc1,be1,hc,f,f2⟩:=wb.add (o:=2) (by decide) (by decide) (k:=1) (xs:=[v]) hg;have hF2:=(hF.keep f (fA (by decide)) (by decide)).keep f2 (fA (by decide)) (by decide);refine⟨hc.1,hc.2,_,_,wb1,(wc1 _ _ _ wc).addI _ v _ hF2,hD,fun o ho=>?_,h4,h6,hn 0 (by decide),be.trans be1,fun t ht=>((hN t ht).keep f (fA (by decide)) (fA (by decide))).keep f2 (fA (by decide)) (fA (by decide))⟩;show put D.n 2 (D.n 2+1) o≤_
 by_cases e:o=2
 ·subst e;rw[eE];have:=hn 2 (by decide);omega
 ·rw[oC _ _ e];have:=hn o ho;omega
theorem StM.all {t:Tw}(h:StM B kp wk w0 bw nets p (some t) w):∃vA nA LA,w.cell? ⟨bw,0,none⟩=some vA∧(∀o,w.frozen? ⟨bw,o,none⟩=false)∧B≤w.heap.size∧nA≤4*p∧w.ownsRow B 45 2 vA nA LA∧
  ∀g cap w',xF B 45 2 vA (nA+1) (LA++[ptr t.bx,ptr t.br]) w g cap w'→w'.cell? ⟨bw,0,none⟩=some vA∧(∀j,w'.frozen? ⟨bw,j,none⟩=false)∧St B kp wk w0 bw (nets++[t]) (p+1) (w'.setCell ⟨bw,0,none⟩ (.slice (some ⟨g,0,none⟩) (nA+1) cap)):=by
 obtain⟨own,D,wb,wc,rfl,hn,h4,h6,h0,be,hN⟩:=h;refine⟨D.v 0,D.n 0,D.L 0,wb.cell 0 (by decide) (by decide),wb.fr,wb.lo,h0,(wb.row 0 (by decide) (by decide)).own,fun g cap w' hg=>?_⟩;obtain⟨wb1,wc1,be1,hc,f,f2⟩:=wb.add (o:=0) (by decide) (by decide) (k:=1) (xs:=[ptr t.bx,ptr t.br]) hg;have hN2:=((hN t rfl).keep f (fA (by decide)) (fA (by decide))).keep f2 (fA (by decide)) (fA (by decide));refine⟨hc.1,hc.2,_,_,wb1.withNets _,((wc1 _ _ _ wc).addA _ t hN2).weak (by omega),rfl,fun o ho=>?_,h4,h6,be.trans be1⟩;show put D.n 0 (D.n 0+1) o≤_
 by_cases e:o=0
 ·subst e;rw[eE];omega
 ·rw[oC _ _ e];have:=hn o ho;omega
def StF (B:Nat)(kp:Nat→Prop)(wk w0:World)(bw:Nat)(nets:List Tw)(p g:Nat)(w:World):Prop:=
 ∃own D,WB B bw own w D∧WC kp wk own w (8*p) D∧D.nets=nets∧(∀o,o<8→D.n o≤4*p)∧D.n 4=D.n 5∧D.n 6=D.n 7∧Below B w0 w∧own g=(0,0)∧B≤g∧g<w.heap.size
theorem StF.touch {g:Nat}(h:StF B kp wk w0 bw nets p g w)(t:Touch (fun k=>k=g) w w'):StF B kp wk w0 bw nets p g w':=by
 obtain⟨own,D,wb,wc,hD,hn,h4,h6,be,h0,hB,hl⟩:=h;have f:Stp (0,0) own own w w':=Stp.one wb.fresh t h0;exact⟨own,D,wb.keep f (fun k hk=>wb.fresh k (mO0 t.size hk)) wb.base (Or.inr rfl),wc.keep f (by decide),hD,hn,h4,h6,be.trans (t.below wb.lo (fun k e=>by rw[e];exact hB)),h0,hB,sO0 hl t.size⟩
theorem StF.calm {g:Nat}(h:StF B kp wk w0 bw nets p g w)(t:qA w w'):StF B kp wk w0 bw nets p g w':=h.touch (t.mono (fun _ _ f=>f.elim))
theorem St.release {kp':Nat→Prop}{wk':World}(h:St B kp' wk' w0 bw nets p w){g:Nat}(hg:kp' g)(hk:∀k,kp k→kp' k∧k≠g)(hw:∀k,kp k→wk'.heap[k]?=wk.heap[k]?):StF B kp wk w0 bw nets p g w:=by
 obtain⟨own,D,wb,wc,hD,hn,h4,h6,be⟩:=h;have h15:=(wc.kept g hg).1;have hgl:g<w.heap.size:=wb.lt (by rw[h15];exact fA (by decide));have hgB:B≤g:=wb.base g (by rw[h15];exact fA (by decide));have f:Stp (15,0) own (nD own g (0,0)) w w:=Stp.gives wb.fresh g (0,0) (15,0) (Or.inr h15);refine⟨nD own g (0,0),D,wb.gives g (0,0) (15,0) (Or.inr h15) (Or.inl (by show 10≤15;decide)) hgB hgl,⟨wc.tw,wc.twn,fun i t hi=>(wc.net i t hi).keep f (fA (by decide)) (fA (by decide)),wc.ints.keep f (fA (by decide)) (by decide),wc.tests.keep f (fA (by decide)) (by decide),wc.links.keep f (fA (by decide)) (by decide),wc.logs.keep f (fA (by decide)) (by decide),fun k hk2=>?_⟩,hD,hn,h4,h6,be,fD _ _ _,hgB,hgl⟩
 rw[eC _ _ _ _ (hk k hk2).2];exact⟨(wc.kept k (hk k hk2).1).1,(wc.kept k (hk k hk2).1).2.trans (hw k hk2)⟩
theorem StF.tests {g:Nat}(h:StF B kp wk w0 bw nets p g w){n:Nat}{xs:List Value}(ho:OwnAt w g n n 3 rL xs)(hn:n≤17592186044416):∃vI nI LI,w.cell? ⟨bw,3,none⟩=some vI∧(∀o,w.frozen? ⟨bw,o,none⟩=false)∧B≤w.heap.size∧nI≤4*p∧(∀w2,qA w w2→w2.ownsRow B 36 1 vI nI LI)∧
  ∀w2 g' cap w3,qA w w2→xF B 36 1 vI (nI+1) (LI++[.slice (some ⟨g,0,none⟩) (n+2) (n+2)]) w2 g' cap w3→w3.cell? ⟨bw,3,none⟩=some vI∧(∀j,w3.frozen? ⟨bw,j,none⟩=false)∧St B kp wk w0 bw nets (p+1) (w3.setCell ⟨bw,3,none⟩ (.slice (some ⟨g',0,none⟩) (nI+1) cap)):=by
 obtain⟨own,D,wb,wc,hD,hn4,h4,h6,be,h0,hgB,hgl⟩:=h;have wb2:=wb.gives g (14,0) (0,0) (Or.inl h0) (Or.inr rfl) hgB hgl;have wc2:=wc.gives wb.fresh g (14,0) h0;have hF:=ho.full (r:=14) (fD own g (14,0)) hn;refine⟨D.v 3,D.n 3,D.L 3,wb2.cell 3 (by decide) (by decide),wb2.fr,wb2.lo,hn4 3 (by decide),fun w2 t=>((wb2.calm t).row 3 (by decide) (by decide)).own,fun w2 g' cap w3 t hg'=>?_⟩;have f0:=Stp.calm wb2.fresh t (0,0);obtain⟨wb3,wc3,be3,hc3,f,f2⟩:=(wb2.calm t).add (o:=3) (by decide) (by decide) (k:=1) hg';have hF2:=((hF.keep f0 (fA (by decide)) (by decide)).keep f (fA (by decide)) (by decide)).keep f2 (fA (by decide)) (by decide);refine⟨hc3.1,hc3.2,_,_,wb3,((wc3 _ _ _ (wc2.calm wb2.fresh t)).addT _ _ _ hF2).weak (by omega),hD,fun o ho=>?_,h4,h6,(be.trans (t.below wb2.lo (fun _ f=>f.elim))).trans be3⟩;show put D.n 3 (D.n 3+1) o≤_
 by_cases e:o=3
 ·subst e;rw[eE];have:=hn4 3 (by decide);omega
 ·rw[oC _ _ e];have:=hn4 o ho;omega
end
theorem bJ0 (w:World)(v:Value)(e:TypeId):∀j u,[v][j]?=some u→(w.alloc (.cells #[v] e)).cell? ((⟨w.heap.size,0,none⟩:Addr).add j)=some u:=
 World.news_of_block (w:=w.alloc (.cells #[v] e)) (cs:=#[v]) (eP0 w _)
theorem news2 (w:World)(v v':Value)(e:TypeId):∀j u,[v,v'][j]?=some u→(w.alloc (.cells #[v,v'] e)).cell? ((⟨w.heap.size,0,none⟩:Addr).add j)=some u:=
 World.news_of_block (w:=w.alloc (.cells #[v,v'] e)) (cs:=#[v,v']) (eP0 w _)
theorem one1 {v:Value}(h:v.oneCell'=true):∀u,u∈[v]→u.oneCell'=true:=by
 intro u hu;have:u=v:=by simpa using hu
 subst this;exact h
theorem one2 {v v':Value}(h:v.oneCell'=true)(h':v'.oneCell'=true):∀u,u∈[v,v']→u.oneCell'=true:=by
 intro u hu;have:u=v∨u=v':=by simpa using hu
 rcases this with rfl | rfl
 ·exact h
 ·exact h'
def ints (f:Nat→Int)(n:Nat):List Value:=(List.range n).map fun j=>Value.int .i64 (f j)
theorem vK (f:Nat→Int)(n:Nat):(ints f n).length=n:=by simp[ints]
theorem bX (f:Nat→Int){n j:Nat}(h:j<n):(ints f n).getD j (int 0)=.int .i64 (f j):=by simp[ints,h]
def addNet (B:Nat)(kp:Nat→Prop)(wk w0:World)(bw:Nat)(nets:List Tw)(p:Nat)(f:Nat→Int)(n:Nat)(w:World):Prop:=
 (nF f n=false∧St B kp wk w0 bw nets (p+1) w)∨(nF f n=true∧∃bx br,St B kp wk w0 bw (nets++[⟨bx,br,nC (vF f n),nC (vF f n)⟩]) (p+1) w)
set_option maxRecDepth 100000 in
set_option maxHeartbeats 2000000 in
theorem xI0 {B:Nat}{kp:Nat→Prop}{wk w0 w:World}{bw:Nat}{nets:List Tw}{p:Nat}(h:St B kp wk w0 bw nets p w)(hp:p≤1000000000)(a:Option Addr)(n cap:Nat)(f:Nat→Int)(hI:IntsAt w a n f)(hn:n≤1073741824):
    Calls Tryz.prog 11 #[.pointer (some ⟨bw,0,none⟩),.slice a n cap] w fun e w'=>e=.returned (.bool true)∧addNet B kp wk w0 bw nets p f n w':=by
  obtain⟨t3,i3,z3,s3,b3⟩:=kW;have hmk:∀w,(Instr.makeSlice 30 (.int .i64 ((n:Int)+2)) (.int .i64 ((n:Int)+2))).run Tryz.prog w=.ok (.slice (some ⟨w.heap.size,0,none⟩) (n+2) (n+2)) (w.alloc (.cells (madeCells #[.int .i64 0] (n+2)) 3)):=fun w=>by
    have:=run_make (P:=Tryz.prog) w 30 3 t3 (.int .i64 0) Tryz.underlying30 i3 z3 .i64 .i64 ((n:Int)+2) ((n:Int)+2) (by omega) (by omega) (by rw[b3];omega) (by omega);rw[this,s3];have e:((n:Int)+2).toNat=n+2:=by omega
    rw[e,Nat.mul_one];rfl
  have hone:(Tryz.prog.info? 3).map (·.size)=some 1:=by kernel_rfl
  have HONE:=uA hone;have H:=uA h;have HI:=uA hI;clear h hI i3 z3 s3 b3 hone;have hpos:0<(ints f n).length→some (⟨w.heap.size,0,none⟩:Addr)=some ⟨w.heap.size,0,none⟩∧∃ad,a=some ad∧∀j v,(ints f n)[j]?=some v→(w.alloc (.cells (madeCells #[.int .i64 0] (n+2)) 3)).cell? (ad.add j)=some v:=by
    intro h0;refine⟨rfl,?_⟩;rcases yA HI with h | ⟨b,o,rfl,hc⟩
    · rw[vK] at h0;omega
    · refine⟨⟨b,o,none⟩,rfl,fun j v hj=>?_⟩
      have hjl:j<n:=by have:=(rO0.1 hj).1;rw[vK] at this;exact this
      have:v=.int .i64 (f j):=by simp[ints,hjl] at hj;exact hj.symm
      subst this;rw[gP0];exact((cP0 (fun _=>False) w).alloc _).cell (p:=⟨b,o+j,none⟩) id (hc j hjl)
  have hrw:(w.alloc (.cells (madeCells #[.int .i64 0] (n+2)) 3)).heap[w.heap.size]?=some (.cells (madeCells #[.int .i64 0] (n+2)).toList.toArray 3 (0,0)):=by simpa using eP0 w (.cells (madeCells #[.int .i64 0] (n+2)) 3)
  have hln:(ints f n).length=Nat.min n (n+2):=by rw[vK];exact(Nat.min_eq_left (by omega)).symm
  have hft:0+(ints f n).length≤(madeCells #[Value.int .i64 0] (n+2)).toList.length:=by rw[vK];simp[size_madeCells]
  have hon:∀v,v∈ints f n→v.oneCell'=true:=by intro u hu;simp[ints] at hu;obtain⟨j,_,rfl⟩:=hu;rfl
  have HPOS:=uA hpos;have HRW:=uA hrw;have HLN:=uA hln;have HFT:=uA hft;have HON:=uA hon;have HBE:=uA ((Below.refl w.heap.size w).alloc (qO0 _) (.cells (madeCells #[.int .i64 0] (n+2)) 3));clear hpos hrw hln hft hon;go_enter Tryz.func11,Tryz.ntmps11
  go_wp2_with (refine wpList_copy_splice rfl _ _ 30 30 rfl 3 Tryz.underlying30 (yA HONE) (some ⟨w.heap.size,0,none⟩) a (n+2) (n+2) n cap rfl rfl w.heap.size 0 (madeCells #[.int .i64 0] (n+2)).toList 3 (yA HRW) (ints f n) (yA HLN) (yA HPOS) (yA HFT) (yA HON) w.heap.size w (yA HBE) (qO0 _) ?_)
  intro w1 hrow hb1;have hrow':=yA hrow;have hlen:(madeCells #[Value.int .i64 0] (n+2)).toList.length=n+2:=by simp[size_madeCells]
  have hst:OwnAt ((w1.setCell ⟨w.heap.size,n,none⟩ (.int .i64 (-77000000))).setCell ⟨w.heap.size,n+1,none⟩ (.int .i64 (-77000000))) w.heap.size n 0 1 mS (ints f n):=by
    have h9:=OwnAt.start (sz:=1) (mark:=mS) (n:=n) hrow' (by rw[hlen,Nat.mul_one]) (by rw[vK,Nat.mul_one]);rw[Nat.mul_one,Nat.mul_one] at h9;exact h9
  have HOWN:=uA hst;have hlsp:(splice (madeCells #[Value.int .i64 0] (n+2)).toList 0 (ints f n)).length=n+2:=by rw[length_splice _ _ _ (yA HFT),hlen]
  obtain⟨u0,hu0⟩:∃u,w1.cell? ⟨w.heap.size,n,none⟩=some u:=⟨_,by rw[xA hrow' n];exact fO0 (by simp[hlsp])⟩;obtain⟨u1,hu1⟩:∃u,w1.cell? ⟨w.heap.size,n+1,none⟩=some u:=⟨_,by rw[xA hrow' (n+1)];exact fO0 (by simp[hlsp])⟩;have hfz:=bA hrow';have HB1:=uA (Touch.of_below hb1);clear hrow hrow' hlen hlsp hb1 hmk HPOS HRW HLN HFT HON HBE HONE hst;go_wp2_with fail
  obtain⟨W,hW⟩:∃W,W=(w1.setCell ⟨w.heap.size,n,none⟩ (.int .i64 (-77000000))).setCell ⟨w.heap.size,n+1,none⟩ (.int .i64 (-77000000)):=⟨_,rfl⟩;rw[←hW] at HOWN ⊢;have HCW:Hid (qA w W):=by
    rw[hW];exact uA (((yA HB1).setCell (p:=⟨w.heap.size,n,none⟩) (fun h=>absurd h (cO0 _)) _).setCell (p:=⟨w.heap.size,n+1,none⟩) (fun h=>absurd h (cO0 _)) _)
  clear hW hu0 hu1 hfz HB1;have hcells:∀j,j<n→W.cell? ⟨w.heap.size,0+j,none⟩=some (.int .i64 (f j)):=fun j hj=>by
    have:=(yA HOWN).cell j 0 (by omega) (by decide);rw[if_neg (by omega),Nat.mul_one,Nat.add_zero,bX f hj] at this;rw[sP0];exact this
  have hgo:w.heap.size<W.heap.size:=(yA HOWN).lt (by decide);cases hgb:nF f n with
  | false=>
    have HBAD:=uA hgb;refine(aJ0 w.heap.size 0 n (n+2) f W (by unfold maxLen;omega) hgb hcells).mono ?_;rintro e w2 ⟨rfl,ht2⟩
    have HO2:=uA ((yA HOWN).calm (by decide) ht2);have HC2:=uA ((yA HCW).calm ht2);clear HOWN HCW hcells ht2 hgb;go_wp2_with fail
    refine(newG a n cap f _ (by unfold maxLen;omega) ((yA HI).calm (yA HC2))).mono ?_;rintro e w3 ⟨he,ht3⟩
    have HO3:=uA ((yA HO2).calm (by decide) ht3);have HC3:=uA ((yA HC2).calm ht3);have q0:w3.cell? ⟨w.heap.size,n,none⟩=some (.int .i64 (-77000000)):=by have:=(yA HO3).cell n 0 (by omega) (by decide);rw[if_pos (by omega),Nat.mul_one,Nat.add_zero] at this;exact this
    have q1:w3.cell? ⟨w.heap.size,n+1,none⟩=some (.int .i64 (-77000000)):=by have:=(yA HO3).cell (n+1) 0 (by omega) (by decide);rw[if_pos (by omega),Nat.mul_one,Nat.add_zero] at this;exact this
    have he2:e=.returned (.tuple #[.pointer none,.int .i64 1]):=by
      rcases he with⟨_,h⟩ | ⟨hgood,_⟩
      · exact h
      · rw[yA HBAD] at hgood;cases hgood
    clear he;subst he2;clear HO2 HC2 ht3;go_wp2_with (go_at_call 14;refine(kE _ _).mono ?_;rintro e w4 ⟨rfl,hw4⟩;have hw5:=hw4.symm;subst hw5);go_loopw [11,12] (fun ok i wr=>∃k:Nat,k≤n∧ok=.bool true∧i=.int .i64 k∧qA w wr∧OwnAt wr w.heap.size n k 1 mS (ints f n)∧Touch (fun b=>b=w.heap.size) w3 wr) (fun _ i _=>n-(intOf i).toNat)
    case atStart=>exact⟨0,by omega,rfl,rfl,yA HC3,yA HO3,cP0 _ _⟩
    case round=>
      obtain⟨k,hk,rfl,rfl,hcw,hown,htw⟩:=hrel;have HCW:=uA hcw;have HOW:=uA hown;have HTW:=uA htw;clear hcw hown htw HC3 HO3;by_cases hlt:k<n
      · rcases(yA HI).calm (yA HCW) with h0 | ⟨b,o,ha,hcells⟩
        · omega
        · subst ha
          have l0:=hcells k hlt;have o0:wr.cell? ⟨w.heap.size,k,none⟩=some (.int .i64 (f k)):=by
            have:=(yA HOW).cell k 0 (by omega) (by decide);rw[if_neg (by omega),Nat.mul_one,Nat.add_zero,bX f hlt] at this;exact this
          have oz:=(yA HOW).fr k;have hk2:(k:Int)<n+2:=by omega
          clear hcells;go_wp2;go_quiet (fail)
          go_wp2;go_roundw
          case rel=>
            have h9:=((yA HOW).calm (by decide) (qC _ nq)).set hlt;rw[Nat.mul_one] at h9;exact⟨k+1,by omega,by simp,by go_num,(((yA HCW).trans (qC _ nq)).setCell (p:=⟨w.heap.size,k,none⟩) (fun h=>absurd h (cO0 _)) _),h9,((yA HTW).calm (qC _ nq)).trans (Touch.set1 _ _ _ _)⟩
          case measure=>simp[intOf];omega
      · have hkn:k=n:=by omega
        subst hkn;have hN:=(yA H).madeNone (yA HCW) (yA HOW) (by omega);have hca:qA wr (wr.alloc (.cells #[.slice (some ⟨w.heap.size,0,none⟩) (k+2) (k+2)] 30)):=(cP0 _ _).alloc _;obtain⟨vI,nI,LI,c2',hfz',hlo,hnI,oI,hgo⟩:=(hN.calm hca).ints;have c2hf:wr.cell? ⟨bw,2,none⟩=some vI∧(∀o,wr.frozen? ⟨bw,o,none⟩=false)∧B≤wr.heap.size:=by
          obtain⟨_,_,_,c20,hfz,hlo0,_⟩:=hN.ints;have h9:=hca.cell (p:=⟨bw,2,none⟩) id c20;rw[c2'] at h9;exact⟨by rw[c20];exact h9.symm,hfz,hlo0⟩
        obtain⟨c2,hfz,hlo0⟩:=c2hf;have hbwl:bw<wr.heap.size:=fP0 c2;have OI:=uA oI;have HGO:=uA hgo;clear hN hca c2' hfz' oI hgo HCW HOW HTW;obtain⟨t30,i30,z30,s30,b30⟩:=pL0;have I30:=uA i30;have Z30:=uA z30;have S30:=uA s30;have B30:=uA b30;clear i30 z30 s30 b30;go_wp2_with (at_builtin;refine pB _ rfl _ _ 27 rfl B 30 t30 (.slice none 0 0) 1 24 Tryz.underlying27 (yA I30) (yA Z30) (yA S30) (yA B30) rfl (by decide) vI nI LI rfl (yA OI) ⟨wr.heap.size,0,none⟩ 1 1 [.slice (some ⟨w.heap.size,0,none⟩) (k+2) (k+2)] rfl rfl (bJ0 wr _ 30) (one1 rfl) (by decide) ?h63 ?bytes ?base ?_)
        case h63=>unfold maxLen;omega
        case bytes=>omega
        case base=>first | omega | (simp;omega)
        intro g5 cp5 w5 hg5;have hw5l:wr.heap.size<w5.heap.size:=by have:=(lM hg5).1.size;simp at this;omega
        obtain⟨d2,dzz,hM⟩:=yA HGO g5 cp5 w5 hg5;have dz:=dzz 2;have HM:=uA hM;clear hg5 HGO OI c2 hfz dzz hM;go_wp2;go_ret;refine⟨rfl,?_⟩;unfold addNet;exact Or.inl ⟨yA HBAD,(yA HM).done⟩
  | true=>
    have HGOOD:=uA hgb;have hpr:ParRow W (.slice (some ⟨w.heap.size,0,none⟩) n (n+2)) (vF f n):=Or.inr ⟨w.heap.size,0,n+2,by rw[pG],fun j hj=>by rw[pG] at hj;rw[hcells j hj,kV hgb hj]⟩;refine(newX W (cR hgb) hpr).mono ?_;rintro e w2 ⟨gx,ρ,rfl,hX,hρ,ht2⟩
    have HO2:=uA ((yA HOWN).calm (by decide) ht2);have HC2:=uA ((yA HCW).calm ht2);have HX2:=uA hX;have HR1:Hid (∀k,ρ k≠none→w.heap.size<k∧k<w2.heap.size):=uA (fun k hk=>⟨sO0 hgo (hρ k hk),hX.lt k hk⟩);clear HOWN HCW hcells hgb hX hρ hpr;have hsz2:=ht2.size;clear ht2;go_wp2_with fail
    refine(newG a n cap f _ (by unfold maxLen;omega) ((yA HI).calm (yA HC2))).mono ?_;rintro e w3 ⟨he,ht3⟩
    have HO3:=uA ((yA HO2).calm (by decide) ht3);have HC3:=uA ((yA HC2).calm ht3);have HX3:=uA ((yA HX2).calm ht3);have q0:w3.cell? ⟨w.heap.size,n,none⟩=some (.int .i64 (-77000000)):=by have:=(yA HO3).cell n 0 (by omega) (by decide);rw[if_pos (by omega),Nat.mul_one,Nat.add_zero] at this;exact this
    have q1:w3.cell? ⟨w.heap.size,n+1,none⟩=some (.int .i64 (-77000000)):=by have:=(yA HO3).cell (n+1) 0 (by omega) (by decide);rw[if_pos (by omega),Nat.mul_one,Nat.add_zero] at this;exact this
    obtain⟨gr,ρr,he2,hR,hρr⟩:∃g ρ,e=.returned (.tuple #[.pointer (some ⟨g,0,none⟩),.int .i64 0])∧RG w3 g ρ (nC (vF f n))∧∀k,ρ k≠none→w2.heap.size≤k:=by
      rcases he with⟨hbad,_⟩ | ⟨_,h⟩
      · rw[yA HGOOD] at hbad;cases hbad
      · exact h
    have HR3:=uA hR;have HR2:Hid (∀k,ρr k≠none→w.heap.size<k∧w2.heap.size≤k):=uA (fun k hk=>⟨by have:=hρr k hk;omega,hρr k hk⟩);clear he hR hρr HX2;subst he2;clear HO2 HC2 ht3;go_wp2_with (go_at_call 14;refine(kE _ _).mono ?_;rintro e w4 ⟨rfl,hw4⟩;have hw5:=hw4.symm;subst hw5);go_loopw [11,12] (fun ok i wr=>∃k:Nat,k≤n∧ok=.bool true∧i=.int .i64 k∧qA w wr∧OwnAt wr w.heap.size n k 1 mS (ints f n)∧Touch (fun b=>b=w.heap.size) w3 wr) (fun _ i _=>n-(intOf i).toNat)
    case atStart=>exact⟨0,by omega,rfl,rfl,yA HC3,yA HO3,cP0 _ _⟩
    case round=>
      obtain⟨k,hk,rfl,rfl,hcw,hown,htw⟩:=hrel;have HCW:=uA hcw;have HOW:=uA hown;have HTW:=uA htw;clear hcw hown htw HC3 HO3;by_cases hlt:k<n
      · rcases(yA HI).calm (yA HCW) with h0 | ⟨b,o,ha,hcells⟩
        · omega
        · subst ha
          have l0:=hcells k hlt;have o0:wr.cell? ⟨w.heap.size,k,none⟩=some (.int .i64 (f k)):=by
            have:=(yA HOW).cell k 0 (by omega) (by decide);rw[if_neg (by omega),Nat.mul_one,Nat.add_zero,bX f hlt] at this;exact this
          have oz:=(yA HOW).fr k;have hk2:(k:Int)<n+2:=by omega
          clear hcells;go_wp2;go_quiet (fail)
          go_wp2;go_roundw
          case rel=>
            have h9:=((yA HOW).calm (by decide) (qC _ nq)).set hlt;rw[Nat.mul_one] at h9;exact⟨k+1,by omega,by simp,by go_num,(((yA HCW).trans (qC _ nq)).setCell (p:=⟨w.heap.size,k,none⟩) (fun h=>absurd h (cO0 _)) _),h9,((yA HTW).calm (qC _ nq)).trans (Touch.set1 _ _ _ _)⟩
          case measure=>simp[intOf];omega
      · have hkn:k=n:=by omega
        subst hkn
        have hN:=(yA H).madeBoth (yA HCW) (yA HOW) (by omega) (cR (yA HGOOD)) ((yA HX3).keep (yA HTW) (fun j hj e=>by have:=(yA HR1 j hj).1;omega)) ((yA HR3).still (yA HTW) (fun j e=>by
            cases e2:ρr j with
            | none=>rfl
            | some r=>have:=(yA HR2 j (by rw[e2];simp)).1;omega)) (yA HR1) (yA HR2)
        have hca:qA wr (wr.alloc (.cells #[.slice (some ⟨w.heap.size,0,none⟩) (k+2) (k+2)] 30)):=(cP0 _ _).alloc _;obtain⟨vI,nI,LI,c2',hfz',hlo,hnI,oI,hgo⟩:=(hN.calm hca).ints;have c2hf:wr.cell? ⟨bw,2,none⟩=some vI∧(∀o,wr.frozen? ⟨bw,o,none⟩=false)∧B≤wr.heap.size:=by
          obtain⟨_,_,_,c20,hfz,hlo0,_⟩:=hN.ints;have h9:=hca.cell (p:=⟨bw,2,none⟩) id c20;rw[c2'] at h9;exact⟨by rw[c20];exact h9.symm,hfz,hlo0⟩
        obtain⟨c2,hfz,hlo0⟩:=c2hf;have hbwl:bw<wr.heap.size:=fP0 c2;have OI:=uA oI;have HGO:=uA hgo;clear hN hca c2' hfz' oI hgo HCW HOW HTW HX3 HR3 HR1 HR2;obtain⟨t30,i30,z30,s30,b30⟩:=pL0;have I30:=uA i30;have Z30:=uA z30;have S30:=uA s30;have B30:=uA b30;clear i30 z30 s30 b30;go_wp2_with (at_builtin;refine pB _ rfl _ _ 27 rfl B 30 t30 (.slice none 0 0) 1 24 Tryz.underlying27 (yA I30) (yA Z30) (yA S30) (yA B30) rfl (by decide) vI nI LI rfl (yA OI) ⟨wr.heap.size,0,none⟩ 1 1 [.slice (some ⟨w.heap.size,0,none⟩) (k+2) (k+2)] rfl rfl (bJ0 wr _ 30) (one1 rfl) (by decide) ?h63 ?bytes ?base ?_)
        case h63=>unfold maxLen;omega
        case bytes=>omega
        case base=>first | omega | (simp;omega)
        intro g5 cp5 w5 hg5;have hw5l:wr.heap.size<w5.heap.size:=by have:=(lM hg5).1.size;simp at this;omega
        obtain⟨d2,dzz,hM⟩:=yA HGO g5 cp5 w5 hg5;have dz:=dzz 2;have HM:=uA hM;clear hg5 HGO OI c2 hfz dzz hM;obtain⟨W5,hW5⟩:∃W5,W5=w5.setCell ⟨bw,2,none⟩ (.slice (some ⟨g5,0,none⟩) (nI+1) cp5):=⟨_,rfl⟩;rw[←hW5] at HM;have hca5:qA W5 (W5.alloc (.cells #[.pointer (some ⟨gx,0,none⟩),.pointer (some ⟨gr,0,none⟩)] 45)):=(cP0 _ _).alloc _;obtain⟨vA,nA,LA,d0',_,hlo5,hnA,oA,hgo⟩:=((yA HM).calm hca5).all;have d0hf:W5.cell? ⟨bw,0,none⟩=some vA∧(∀o,W5.frozen? ⟨bw,o,none⟩=false):=by
          obtain⟨_,_,_,d00,dzz,_⟩:=(yA HM).all;have h9:=hca5.cell (p:=⟨bw,0,none⟩) id d00;rw[d0'] at h9;exact⟨by rw[d00];exact h9.symm,dzz⟩
        obtain⟨d0,dzz⟩:=d0hf;have hbw5:bw<W5.heap.size:=fP0 d0;have OA:=uA oA;have HGO:=uA hgo;clear d0' oA hgo hca5 HM;obtain⟨t45,i45,z45,s45,b45⟩:=elem45;have I45:=uA i45;have Z45:=uA z45;have S45:=uA s45;have B45:=uA b45;have HW5E:=uA hW5;clear i45 z45 s45 b45 hW5;go_upto_region 16 with fail
        rw[←yA HW5E];clear HW5E d2 dz;go_wp2_with (at_builtin;refine pB _ rfl _ _ 26 rfl B 45 t45 (.agg #[.pointer none,.pointer none]) 2 16 Tryz.underlying26 (yA I45) (yA Z45) (yA S45) (yA B45) rfl (by decide) vA nA LA rfl (yA OA) ⟨W5.heap.size,0,none⟩ 1 1 [.pointer (some ⟨gx,0,none⟩),.pointer (some ⟨gr,0,none⟩)] rfl rfl (news2 W5 _ _ 45) (one2 rfl rfl) (by decide) ?h632 ?bytes2 ?base2 ?_)
        case h632=>unfold maxLen;omega
        case bytes2=>omega
        case base2=>first | exact hlo5 | omega | (simp at hlo5 ⊢;omega)
        intro g6 cp6 w6 hg6;obtain⟨d6,d6zz,hS⟩:=yA HGO g6 cp6 w6 hg6;have d6z:=d6zz 0;have HS:=uA hS;clear hg6 HGO OA d0 dzz d6zz hS;go_wp2;go_ret;refine⟨rfl,?_⟩;unfold addNet;exact Or.inr ⟨yA HGOOD,gx,gr,yA HS⟩
end Go.Proofs.YtodfcpblcpogiaaGreat

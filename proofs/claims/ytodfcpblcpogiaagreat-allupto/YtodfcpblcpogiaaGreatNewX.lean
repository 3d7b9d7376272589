import Derived.Test.YtodfcpblcpogiaaGreatLnew
import Derived.Deep.RegionHeld3
import Derived.Deep.DeepCutAuto
import Derived.Laws.Tables
namespace Go.Proofs.YtodfcpblcpogiaaGreat
open Go.RowKit
theorem Touch.fresh {S:Nat→Prop}{a b c:World}(h:qA a b)(t:Touch S b c)(hs:∀k,k<a.heap.size→¬S k):qA a c:=
 ⟨t.os.trans h.os,t.tape.trans h.tape,t.output.trans h.output,mO0 h.size t.size,fun k hk _=>(t.block k (sO0 hk h.size) (hs k hk)).trans (h.block k hk id)⟩
abbrev slot0:List Value:=[.bool false,int (-1),int 0,int 0,int 0,int 0,int 0,int 0,int 0,int 0,int 0,int 0,.map none]
set_option maxHeartbeats 400000 in
theorem tA0 (w:World):Calls Tryz.prog 98 #[] w fun e w'=>e=.returned (.agg slot0.toArray)∧w'=w.alloc (.cells slot0.toArray 83):=by
 go_enter Tryz.func98,Tryz.ntmps98
 go_wp2;exact bodyPost_ret (v:=.agg slot0.toArray) (by simp[results,Tryz.results98,go_sem]) rfl ⟨rfl,rfl⟩
def sD (k:Nat):List Value:=[int (-1),int (-1),int 0,int 0,.bool false,int (if 0<k then -1 else 0),int 0,int 0,int 0,int 0,int 0,int 0,int 0,int 0,int 0,int 0,.map none,.bool false,int (if 1<k then -1 else 0),int 0,int 0,int 0,int 0,int 0,int 0,int 0,int 0,int 0,int 0,.map none,.slice none 0 0]
abbrev cli0:List Value:=[int 0,int 0,int 0,int 0,.bool false,int 0,int 0,int 0,int 0,int 0,int 0,int 0,int 0,int 0,int 0,int 0,.map none,.bool false,int 0,int 0,int 0,int 0,int 0,int 0,int 0,int 0,int 0,int 0,int 0,.map none,.slice none 0 0]
abbrev cli1:List Value:=[int (-1),int (-1),int 0,int 0,.bool false,int 0,int 0,int 0,int 0,int 0,int 0,int 0,int 0,int 0,int 0,int 0,.map none,.bool false,int 0,int 0,int 0,int 0,int 0,int 0,int 0,int 0,int 0,int 0,int 0,.map none,.slice none 0 0]
theorem dL0 (w:World):(Instr.build 86 #[(0,.int .i64 (-1)),(1,.int .i64 (-1))]).run Tryz.prog w=.ok (.agg cli1.toArray) w:=run_build w 86 _ _ (by kernel_rfl)
theorem gL0 {k:Nat}(hk:k<2):∀i,i<13→(sD (k+1))[4+k*13+i]?=slot0[i]?:=fun i hi=>by
 rcases k with _ | _ | k
 ·rcases i with _ | _ | _ | _ | _ | _ | _ | _ | _ | _ | _ | _ | _ | i<;>first | rfl | omega
 ·rcases i with _ | _ | _ | _ | _ | _ | _ | _ | _ | _ | _ | _ | _ | i<;>first | rfl | omega
 ·omega
theorem aH0 {k:Nat}(hk:k<2):∀i,i<4+k*13∨4+k*13+13≤i→(sD (k+1))[i]?=(sD k)[i]?:=fun i hi=>by
 rcases k with _ | _ | k
 ·rcases i with _ | _ | _ | _ | _ | _ | _ | _ | _ | _ | _ | _ | _ | _ | _ | _ | _ | _ | _ | _ | _ | _ | _ | _ | _ | _ | _ | _ | _ | _ | _ | i<;>first | rfl | omega
 ·rcases i with _ | _ | _ | _ | _ | _ | _ | _ | _ | _ | _ | _ | _ | _ | _ | _ | _ | _ | _ | _ | _ | _ | _ | _ | _ | _ | _ | _ | _ | _ | _ | i<;>first | rfl | omega
 ·omega
theorem qE0 {w:World}{b k:Nat}(hk:k<2)(h:w.rangeAt b 0 (sD k))(ht:w.there b (4+k*13) 13):(w.setCells b (4+k*13) slot0).rangeAt b 0 (sD (k+1)):=fun j v hj=>by
 rw[sP0];by_cases hin:4+k*13≤j∧j<4+k*13+13
 ·have h1:=gL0 hk (j-(4+k*13)) (by omega);rw[show 4+k*13+(j-(4+k*13))=j by omega,hj] at h1;have:=World.rangeAt_setCells_same w b (4+k*13) slot0 ht (j-(4+k*13)) v h1.symm;rwa [show 4+k*13+(j-(4+k*13))=j by omega] at this
 ·rw[aH0 hk j (by omega)] at hj;rw[iP0 b slot0 _ w _ (fun _ _=>by show j<4+k*13∨4+k*13+13≤j;omega)];have:=h j v hj;rwa [sP0] at this
theorem kM {w w':World}{b o n:Nat}(h:w.there b o n)(t:qA w w')(hb:b<w.heap.size):w'.there b o n:=fun j hj=>by
 have hk:w'.heap[b]?=w.heap[b]?:=t.block b hb id;exact⟨by rw[lP0 (w:=w) hk];exact(h j hj).1,by rw[nP0 (w:=w) (a:=⟨b,o+j,none⟩) hk];exact(h j hj).2⟩
theorem rX {w w':World}{b o:Nat}{cs:List Value}(h:w.rangeAt b o cs)(t:qA w w')(hb:b<w.heap.size):w'.rangeAt b o cs:=fun j v hj=>by
 have hk:w'.heap[b]?=w.heap[b]?:=t.block b hb id;exact(lP0 (w:=w) hk).trans (h j v hj)
theorem bW {w:World}{b t:Nat}{cs:List Value}(h:w.heap[b]?=some (.cells cs.toArray t)):w.there b 0 cs.length:=fun j hj=>by
 rw[sP0];exact⟨by rw[xA h];simp[hj],bA h _⟩
theorem qG0:slot0.toArray.all (fun v=>v.oneCell') =true:=all_oneCell_toArray (fun v hv=>List.all_eq_true.1 (show slot0.all (fun v=>v.oneCell')=true from rfl) v hv)
theorem dJ0:cli1.toArray.all (fun v=>v.oneCell') =true:=all_oneCell_toArray (fun v hv=>List.all_eq_true.1 (show cli1.all (fun v=>v.oneCell')=true from rfl) v hv)
theorem info86:(Tryz.prog.info? 86).map (·.size)=some cli1.toArray.size:=by kernel_rfl
theorem aX:(Tryz.prog.info? 86).map (·.size)=some (sD 2).length:=by kernel_rfl
theorem info83:(Tryz.prog.info? 83).map (·.size)=some slot0.toArray.size:=by kernel_rfl
set_option maxRecDepth 100000 in
set_option maxHeartbeats 400000 in
theorem oT (w:World):Calls Tryz.prog 68 #[] w fun e w'=>e=.returned (.agg (sD 2).toArray)∧qA w w':=by
 have hB:=dL0;have hT0:=uA (bW (w:=(w.alloc (.cells cli0.toArray 86)).alloc (.cells cli0.toArray 86)) (b:=w.heap.size+1) (t:=86) (cs:=cli0) (heap_alloc2_new _ _ _));have hT1:=uA (bW (w:=(w.alloc (.cells cli0.toArray 86)).alloc (.cells cli0.toArray 86)) (b:=w.heap.size) (t:=86) (cs:=cli0) (by rw[kP0 _ _ _ (by simp)];exact eP0 _ _));go_enter Tryz.func68,Tryz.ntmps68
 go_wp2_with (first
  | refine wpList_store_mid rfl 86 _ _ rfl (w.heap.size+1) 0 cli1.toArray rfl rfl (yA hT0) info86 dJ0 ?_
  | fail)
 go_loopw [4] (fun i wr=>∃k:Nat,k≤2∧i=.int .i64 k∧qA w wr∧w.heap.size+1<wr.heap.size∧wr.there w.heap.size 0 31∧wr.there (w.heap.size+1) 0 31∧wr.rangeAt (w.heap.size+1) 0 (sD k)) (fun i _=>2-(intOf i).toNat)
 case atStart=>
  refine⟨0,by omega,rfl,?_,?_,World.there_setCells (yA hT1) _ _ _,World.there_setCells (yA hT0) _ _ _,?_⟩
  ·exact Touch.fresh (((cP0 _ _).alloc _).alloc _) (Touch.setCells _ _ _ _) (fun k hk e=>by omega)
  ·have:=(Touch.setCells (w.heap.size+1) cli1 0 ((w.alloc (.cells cli0.toArray 86)).alloc (.cells cli0.toArray 86))).size;simp at this
   exact sO0 (by omega) this
  ·exact World.rangeAt_setCells_same _ _ _ cli1 (yA hT0)
 case round=>
  obtain⟨k,hk,rfl,ht,hl1,h0,h1,hr⟩:=hrel;clear hT0 hT1;have H0:=uA h0;have H1:=uA h1;have HT:=uA ht;have HR:=uA hr;clear h0 h1 ht hr;by_cases hlt:k<2
  ·have hth:∀c,(wr.alloc c).there (w.heap.size+1) (4+k*13) slot0.toArray.size:=fun c=>kM (fun j hj=>by
    have hj':j<13:=hj;have:=(yA H1) (4+k*13+j) (by omega)
    rwa [sP0] at this) ((cP0 _ _).alloc c) hl1
   have HH:=uA hth;clear hth;have hk2:(k:Int)<2:=by omega
   go_wp2_with (first
    | (go_at_call 98;refine(tA0 _).mono ?_;rintro e w' ⟨rfl,rfl⟩)
    | (refine wpList_store_mid rfl 83 (.tmp 10) (.tmp 8) rfl (w.heap.size+1) (4+k*13) slot0.toArray ?hx ?hy ?hz info83 qG0 ?_;(case hx=>exact rfl);(case hy=>exact rfl);(case hz=>exact yA HH _)))
   go_roundw
   case rel=>
    refine⟨k+1,by omega,by go_num,?_,?_,World.there_setCells (kM (yA H0) ((cP0 _ _).alloc _) (by omega)) _ _ _,World.there_setCells (kM (yA H1) ((cP0 _ _).alloc _) (by omega)) _ _ _,?_⟩
    ·exact Touch.fresh ((yA HT).alloc _) (Touch.setCells _ _ _ _) (fun k hk e=>by omega)
    ·have:=(Touch.setCells (w.heap.size+1) slot0 (4+k*13) (wr.alloc (.cells slot0.toArray 83))).size;simp at this
     exact sO0 (by omega) this
    ·exact qE0 hlt (rX (yA HR) ((cP0 _ _).alloc _) (by omega)) (yA HH _)
   case measure=>simp[intOf];omega
  ·have hk2:k=2:=by omega
   subst hk2;have hth:wr.there w.heap.size 0 (sD 2).toArray.size:=yA H0;have hone:∀v,v∈sD 2→v.oneCell'=true:=by
    intro v hv;have:(sD 2).all (fun v=>v.oneCell')=true:=rfl;exact List.all_eq_true.1 this v hv
   have hT:Touch (fun k=>k=w.heap.size) wr (wr.setCells w.heap.size 0 (sD 2)):=Touch.setCells _ _ _ _;have hC:qA w (wr.setCells w.heap.size 0 (sD 2)):=Touch.fresh (yA HT) hT (fun k hk e=>by omega);have hR:=World.rangeAt_setCells_same wr w.heap.size 0 (sD 2) (by simpa using hth);have HR2:=uA hR;have HC:=uA hC;clear hR hC hT
   go_wp2_with (first
    | refine wpList_load_mid rfl 86 _ rfl (w.heap.size+1) 0 rfl (sD 2) _ (yA HR) Tryz.underlying86 rfl aX ?_
    | refine wpList_store_mid rfl 86 _ _ rfl w.heap.size 0 (sD 2).toArray rfl rfl hth (by simpa using aX) (all_oneCell_toArray hone) ?_)
   exact bodyPost_ret (v:=.agg (sD 2).toArray) (eH Tryz.results68 _ _ w.heap.size 0 (sD 2) _ rfl (yA HR2) Tryz.underlying86 rfl aX) rfl ⟨rfl,yA HC⟩
abbrev sN:List Value:=[.pointer none,.pointer none,.pointer none,.pointer none,.pointer none,.pointer none,.pointer none,.pointer none,.pointer none,.pointer none,.pointer none,.pointer none,.pointer none,.pointer none,.pointer none,.pointer none,.pointer none,.pointer none,.pointer none,.pointer none,.pointer none,.pointer none,.pointer none,.pointer none,.pointer none,.pointer none,.pointer none,.pointer none,.pointer none,.pointer none,.pointer none,.pointer none,.pointer none,.pointer none,.pointer none,.pointer none,.pointer none,.pointer none,.pointer none,.pointer none,.pointer none,.pointer none,.pointer none,.pointer none,.pointer none,.pointer none,.pointer none,.pointer none,int 0,int 0,int 0,int 0,.bool false,int 0,int 0,int 0,int 0,int 0,int 0,int 0,int 0,int 0,int 0,int 0,.map none,.bool false,int 0,int 0,int 0,int 0,int 0,int 0,int 0,int 0,int 0,int 0,int 0,.map none,.slice none 0 0,int 0,int 0,int 0,int 0,.bool false,int 0,int 0,int 0,int 0,int 0,int 0,int 0,int 0,int 0,int 0,int 0,.map none,.bool false,int 0,int 0,int 0,int 0,int 0,int 0,int 0,int 0,int 0,int 0,int 0,.map none,.slice none 0 0,int 0,int 0,int 0,int 0,.bool false,int 0,int 0,int 0,int 0,int 0,int 0,int 0,int 0,int 0,int 0,int 0,.map none,.bool false,int 0,int 0,int 0,int 0,int 0,int 0,int 0,int 0,int 0,int 0,int 0,.map none,.slice none 0 0,int 0,int 0,int 0,int 0,.bool false,int 0,int 0,int 0,int 0,int 0,int 0,int 0,int 0,int 0,int 0,int 0,.map none,.bool false,int 0,int 0,int 0,int 0,int 0,int 0,int 0,int 0,int 0,int 0,int 0,.map none,.slice none 0 0]
def bH (a:Option Addr)(n c:Nat)(qs:List Value):List Value:=[.bool false,.slice a n c]++qs++sN
theorem sW (pre post:List Value):∀(qs mid:List Value) (done:List Value),mid.length=qs.length→
  List.foldl (fun cs x=>Array.setIfInBounds cs (pre.length+x.snd) x.fst) (pre++done++mid++post).toArray (qs.zipIdx done.length)=(pre++done++qs++post).toArray
 | [],mid,done,h=>by
  have:mid=[]:=zP0 (by simpa using h);subst this;rfl
 | q::qs,[],done,h=>by simp at h
 | q::qs,m::mid,done,h=>by
  have e1:Array.setIfInBounds (pre++done++m::mid++post).toArray (pre.length+done.length) q=(pre++(done++[q])++mid++post).toArray:=by
   rw[List.setIfInBounds_toArray];congr 1
   rw[List.append_assoc (pre++done),List.set_append_right _ _ (by simp)];simp
  rw[List.zipIdx_cons,List.foldl_cons];simp only;rw[e1,show done.length+1=(done++[q]).length from by simp,sW pre post qs mid (done++[q]) (by simpa using h)];simp
theorem pN0 (a:Option Addr)(n c:Nat)(qs:List Value)(h:qs.length=36):
  List.foldl (fun cs x=>Array.setIfInBounds cs (2+x.snd) x.fst) ([Value.bool false,.slice a n c]++List.replicate 36 (Value.chan none)++sN).toArray qs.zipIdx=(bH a n c qs).toArray:=by
 have:=sW [Value.bool false,.slice a n c] sN qs (List.replicate 36 (Value.chan none)) [] (by rw[h];rfl);exact this
theorem dZ {w:World}{b o:Nat}{cs:List Value}(h:w.rangeAt b o cs)(j:Nat)(v:Value):(w.setCell ⟨b,o+j,none⟩ v).rangeAt b o (cs.set j v):=by
 intro i u hi;by_cases e:i=j
 ·subst e;rw[List.getElem?_set_self'] at hi;cases hj:cs[i]? with
  | none=>rw[hj] at hi;cases hi
  | some u'=>
   rw[hj] at hi;cases hi;exact mP0 w _ _ (h i u' hj)
 ·rw[List.getElem?_set_ne (by omega)] at hi;exact(World.cell?_setCell_other w _ _ _ (by intro x;have:=congrArg Addr.off x;simp at this;omega)).trans (h i u hi)
theorem fL {w:World}{b o p:Nat}{cs:List Value}(h:w.rangeAt b o cs)(hp:p<o∨o+cs.length≤p)(v:Value):(w.setCell ⟨b,p,none⟩ v).rangeAt b o cs:=by
 intro i u hi;have hl:i<cs.length:=by
  by_cases hj':i<cs.length
  ·exact hj'
  ·rw[List.getElem?_eq_none (by omega)] at hi;cases hi
 exact(World.cell?_setCell_other w _ _ _ (by intro x;have:=congrArg Addr.off x;simp at this;omega)).trans (h i u hi)
structure XQ (w:World)(b:Nat)(a:Option Addr)(n cap:Nat)(qs:List Value)(cl:Nat→List Value):Prop where
 typ:∃cs,w.heap[b]?=some (.cells cs 102)
 closed:w.cell? ⟨b,0,none⟩=some (.bool false)
 tree:w.cell? ⟨b,1,none⟩=some (.slice a n cap)
 links:w.rangeAt b 2 qs
 known:∀j,j<48→w.cell? ⟨b,38+j,none⟩=some (.pointer none)
 cls:∀c,c<4→w.rangeAt b (86+c*31) (cl c)∧(cl c).length=31
theorem XQ.calm {w w':World}{b:Nat}{a:Option Addr}{n cap:Nat}{qs:List Value}{cl:Nat→List Value}(h:XQ w b a n cap qs cl)(t:qA w w'):XQ w' b a n cap qs cl:=by
 have hc:∀o v,w.cell? ⟨b,o,none⟩=some v→w'.cell? ⟨b,o,none⟩=some v:=fun o v hv=>t.cell (p:=⟨b,o,none⟩) id hv;obtain⟨cs,hcs⟩:=h.typ;exact⟨⟨cs,(t.block b (tO0.1 hcs).1 id).trans hcs⟩,hc _ _ h.closed,hc _ _ h.tree,fun j v hj=>hc _ _ (h.links j v hj),fun j hj=>hc _ _ (h.known j hj),fun c k=>⟨fun j v hj=>hc _ _ ((h.cls c k).1 j v hj),(h.cls c k).2⟩⟩
theorem XQ.fr {w:World}{b:Nat}{a:Option Addr}{n cap:Nat}{qs:List Value}{cl:Nat→List Value}(h:XQ w b a n cap qs cl)(o:Nat):w.frozen? ⟨b,o,none⟩=false:=by
 obtain⟨cs,hcs⟩:=h.typ;exact bA hcs o
theorem XQ.setAll {w:World}{b:Nat}{a:Option Addr}{n cap:Nat}{qs:List Value}{cl:Nat→List Value}(h:XQ w b a n cap qs cl)(hq:qs.length=36)(k:Nat)(hk:k<4)(vs:List Value)(hv:vs.length=31):
  XQ (w.setCells b (86+k*31) vs) b a n cap qs (fun c=>if c=k then vs else cl c):=by
 have hne:∀o' u,w.cell? ⟨b,o',none⟩=some u→(o' < 86+k*31∨86+k*31+31≤o')→(w.setCells b (86+k*31) vs).cell? ⟨b,o',none⟩=some u:=fun o' u hu hn=>
  (iP0 b vs _ w _ (fun _ _=>by show o' < 86+k*31∨86+k*31+vs.length≤o';omega)).trans hu
 have hty:∀(vs:List Value) (o:Nat) (w:World),(∃cs,w.heap[b]?=some (.cells cs 102))→∃cs,(w.setCells b o vs).heap[b]?=some (.cells cs 102):=by
  intro vs;induction vs with
  | nil=>intro o w h;exact h
  | cons v r ih=>intro o w h;exact ih _ _ (nB h _ _)
 refine⟨hty _ _ _ h.typ,hne _ _ h.closed (by omega),hne _ _ h.tree (by omega),fun j v hj=>hne _ _ (h.links j v hj) (by have:=(rO0.1 hj).1;omega),fun i hi=>hne _ _ (h.known i hi) (by omega),fun c hc=>?_⟩;by_cases e:c=k
 ·subst e;simp only[if_true];refine⟨World.rangeAt_setCells_same w b _ vs (fun j hj=>⟨?_,h.fr _⟩),hv⟩;have hj':j<(cl c).length:=by rw[(h.cls c hc).2];omega
  rw[(h.cls c hc).1 j _ (pO0 hj')];rfl
 ·simp only[if_neg e];exact⟨fun j v hj=>hne _ _ ((h.cls c hc).1 j v hj) (by have:=(rO0.1 hj).1;have:=(h.cls c hc).2;omega),(h.cls c hc).2⟩
theorem sA0 (a:Option Addr)(n c:Nat)(qs:List Value)(h:qs.length=36)(w:World)(g:Nat)(hg:w.heap[g]?=some (.cells (bH a n c qs).toArray 102)):
  XQ w g a n c qs (fun _=>cli0):=by
 have hc:∀j,w.cell? ⟨g,j,none⟩=(bH a n c qs)[j]?:=fun j=>by rw[xA hg];simp
 have hz:∀j,38≤j→(bH a n c qs)[j]?=sN[j-38]?:=fun j hj=>by
  rw[bH,nO0 (by simp[h];omega)];simp only[hO0,h,gO0,List.length_nil]
 refine⟨⟨_,hg⟩,hc 0,hc 1,fun j v hj=>?_,fun j hj=>?_,fun k hk=>⟨fun j v hj=>?_,rfl⟩⟩
 ·have hjl:j<qs.length:=(rO0.1 hj).1;rw[hc,bH,List.append_assoc,nO0 (by simp),oO0 (by simp;omega)];simpa using hj
 ·rw[hc,hz _ (by omega),show 38+j-38=j from by omega];have:sN=List.replicate 48 (Value.pointer none)++(cli0++cli0++cli0++cli0):=rfl;rw[this,oO0 (by rw[List.length_replicate];exact hj),List.getElem?_replicate,if_pos hj]
 ·have hjl:j<31:=(rO0.1 hj).1;rw[hc,hz _ (by omega),show 86+k*31+j-38=48+k*31+j from by omega];rw[←hj];rcases k with _ | _ | _ | _ | k
  all_goals first | omega | (rcases j with _ | _ | _ | _ | _ | _ | _ | _ | _ | _ | _ | _ | _ | _ | _ | _ | _ | _ | _ | _ | _ | _ | _ | _ | _ | _ | _ | _ | _ | _ | _ | j<;>first | omega | rfl)
theorem XQ.net {w:World}{b base:Nat}{a:Option Addr}{par:List Nat}{cap:Nat}{qs:List Value}{cl:Nat→List Value}{ρ:zA}(h:XQ w b a par.length cap qs cl)(hcl:∀c,c<4→cl c=sD 2)
  (hP:ParNew w base a par) (hC:Chans w base par (fun _ _=>True) ρ qs) (hb:base≤b) (hab:∀o,a=some o→par≠[]→o.block≠b):∃ρ',XN w b ρ' (nC par)∧∀k,ρ' k≠none→base≤k:=by
 obtain⟨cs,hcs⟩:=h.typ;have hbl:b<w.heap.size:=(tO0.1 hcs).1;have hlink:∀(ρ':zA),(∀k r,ρ k=some r→ρ' k=some r)→∀x y,x<6→y<6→∃v,w.cell? ⟨b,2+x*6+y,none⟩=some v∧LinkAt w ρ' x y (iB par x y) [] v:=by
  intro ρ' hρ' x y hx hy;cases hn:iB par x y with
  | true=>
   obtain⟨r,h1,h2,h3⟩:=hC.yes x y hx hy hn trivial;refine⟨_,by have:=h.links _ _ h1;rwa [←rP0] at this,?_⟩
   simp only[LinkAt,if_true];exact⟨r,#[],0,0,rfl,hρ' r _ h2,h3,rfl,fun i f hf=>by simp at hf⟩
  | false=>
   have h1:=hC.no x y hx hy (by rw[hn];simp)
   refine⟨_,by have:=h.links _ _ h1;rwa [←rP0] at this,?_⟩
   simp[LinkAt]
 have hcl':∀(ρ':zA),∀c,c<4→CliX w b ρ' c gG:=by
  intro ρ' c hc;have hr:=(h.cls c hc).1;rw[hcl c hc] at hr;refine⟨hr 0 _ rfl,hr 1 _ rfl,hr 2 _ rfl,hr 3 _ rfl,fun k hk=>?_,fun k hk=>?_,fun k hk=>?_,fun k hk=>?_,⟨_,hr 30 _ rfl,⟨by simp[gG],Or.inl ⟨rfl,rfl⟩⟩,fun g hg=>by simp[Value.ownBlock] at hg⟩⟩
  ·rcases k with _ | _ | k
   ·exact hr 4 _ rfl
   ·exact hr 17 _ rfl
   ·omega
  ·rcases k with _ | _ | k
   ·exact hr 5 _ rfl
   ·exact hr 18 _ rfl
   ·omega
  ·refine⟨List.replicate 10 (int 0),rfl,fun j v hj=>?_,fun v hv=>⟨0,List.eq_of_mem_replicate hv⟩,fun e=>by simp[gG] at e⟩;have hj':j<10:=(rO0.1 hj).1;rw[List.getElem?_replicate,if_pos hj'] at hj;cases hj;rcases k with _ | _ | k
   ·rw[show 86+c*31+4+0*13+2+j=86+c*31+(6+j) by omega];refine hr (6+j) _ ?_;rcases j with _ | _ | _ | _ | _ | _ | _ | _ | _ | _ | j<;>first | rfl | omega
   ·rw[show 86+c*31+4+(0+1)*13+2+j=86+c*31+(19+j) by omega];refine hr (19+j) _ ?_;rcases j with _ | _ | _ | _ | _ | _ | _ | _ | _ | _ | j<;>first | rfl | omega
   ·omega
  ·refine⟨.map none,?_,by simp[HeardAt,gG]⟩;rcases k with _ | _ | k
   ·exact hr 16 _ rfl
   ·exact hr 29 _ rfl
   ·omega
 have hkn:∀(ρ':zA),∀x c k,x<6→c<4→k<2→∃v,w.cell? ⟨b,38+x*8+c*2+k,none⟩=some v∧KnownAt w ρ' x (2*c+k) none v:=by
  intro ρ' x c k hx hc hk;exact⟨_,by have:=h.known (x*8+c*2+k) (by omega);rwa [show 38+(x*8+c*2+k)=38+x*8+c*2+k from by omega] at this,rfl⟩
 rcases hP with hp | ⟨tb,o,rfl,hP0,hP1,⟨cs',t',f',hP2⟩,hP3⟩
 ·refine⟨fun k=>if k=b then some .net else ρ k,⟨by simp,⟨cs,hcs⟩,h.fr,h.closed,⟨a,cap,h.tree,Or.inl hp⟩,hlink _ (fun k r hr=>?_),hkn _,hcl' _,fun k hk=>?_,rfl⟩,fun k hk=>?_⟩
  ·have:k≠b:=fun e=>by subst e;have:=hC.isc k (by rw[hr];simp);rw[hcs] at this;cases this
   simp only[if_neg this];exact hr
  ·by_cases e:k=b
   ·subst e;exact hbl
   ·simp only[if_neg e] at hk;exact(hC.role k hk).2.1
  ·by_cases e:k=b
   ·subst e;exact hb
   ·simp only[if_neg e] at hk;exact(hC.role k hk).1
 ·by_cases hp:par=[]
  ·refine⟨fun k=>if k=b then some .net else ρ k,⟨by simp,⟨cs,hcs⟩,h.fr,h.closed,⟨_,cap,h.tree,Or.inl hp⟩,hlink _ (fun k r hr=>?_),hkn _,hcl' _,fun k hk=>?_,rfl⟩,fun k hk=>?_⟩
   ·have:k≠b:=fun e=>by subst e;have:=hC.isc k (by rw[hr];simp);rw[hcs] at this;cases this
    simp only[if_neg this];exact hr
   ·by_cases e:k=b
    ·subst e;exact hbl
    ·simp only[if_neg e] at hk;exact(hC.role k hk).2.1
   ·by_cases e:k=b
    ·subst e;exact hb
    ·simp only[if_neg e] at hk;exact(hC.role k hk).1
  ·have hne:=hab _ rfl hp;simp only at hne;refine⟨fun k=>if k=b then some .net else if k=tb then some .tree else ρ k,⟨by simp,⟨cs,hcs⟩,h.fr,h.closed,⟨_,cap,h.tree,Or.inr ⟨tb,o,rfl,by simp[hne],hP3⟩⟩,hlink _ (fun k r hr=>?_),hkn _,hcl' _,fun k hk=>?_,rfl⟩,fun k hk=>?_⟩
   ·have h1:k≠b:=fun e=>by subst e;have:=hC.isc k (by rw[hr];simp);rw[hcs] at this;cases this
    have h2:k≠tb:=fun e=>by subst e;have:=hC.isc k (by rw[hr];simp);rw[hP2] at this;cases this
    simp only[if_neg h1,if_neg h2];exact hr
   ·by_cases e:k=b
    ·subst e;exact hbl
    ·by_cases e2:k=tb
     ·subst e2;exact hP1
     ·simp only[if_neg e,if_neg e2] at hk;exact(hC.role k hk).2.1
   ·by_cases e:k=b
    ·subst e;exact hb
    ·by_cases e2:k=tb
     ·subst e2;exact hP0
     ·simp only[if_neg e,if_neg e2] at hk;exact(hC.role k hk).1
theorem eJ0:∀v,v∈sD 2→v.oneCell'=true:=fun v hv=>List.all_eq_true.1 (show (sD 2).all (fun v=>v.oneCell')=true from rfl) v hv
theorem bF0 {w:World}{g o:Nat}(h:w.there g o (sD 2).toArray.size):(storeCells ⟨g,o,none⟩ (sD 2)).run Tryz.prog w=.ok () (w.setCells g o (sD 2)):=by
 have:=run_storeCells_cells (P:=Tryz.prog) g o (sD 2) 0 w (fun j hj=>by simpa using(h j (by simpa using hj)).1) (fun j hj=>by simpa using(h j (by simpa using hj)).2) eJ0;simpa only[Nat.add_zero] using this
set_option maxRecDepth 100000 in
set_option maxHeartbeats 800000 in
theorem newX {v:Value}{par:List Nat}(w:World)(T:Tree par)(h:ParRow w v par):
  Calls Tryz.prog 29 #[v] w fun e w'=>∃g ρ,e=.returned (.tuple #[ptr g,int 0])∧XN w' g ρ (nC par)∧(∀k,ρ k≠none→w.heap.size≤k)∧qA w w':=by
 have H:=uA h;clear h;go_enter Tryz.func29,Tryz.ntmps29
 go_wp2_with fail
 refine(qZ _ T (yA H)).mono ?_;rintro e w1 ⟨a',c',rfl,hI,ht1⟩
 have HT1:=uA ht1;have HI:=uA (hI.calm ((cP0 _ _).alloc (.cells #[.slice a' par.length c'] 88)));clear hI;go_wp2;go_cut [6] (fun s wx=>∃g,s=.pointer (some ⟨g,0,none⟩)∧w1.heap.size+1≤g∧qA (w1.alloc (.cells #[.slice a' par.length c'] 88)) wx∧∃qs ρ,XQ wx g a' par.length c' qs (fun _=>cli0)∧Chans wx (w1.heap.size+1) par (fun _ _=>True) ρ qs)
 case first=>
  have e0:(w1.alloc (.cells #[.slice a' par.length c'] 88)).cell? ⟨w1.heap.size,0,none⟩=some (.slice a' par.length c'):=xA (eP0 _ _) 0;go_region_held3 (fun w'=>w'.cell? ⟨w1.heap.size,0,none⟩=some (.slice a' par.length c'))
   (first | exact ht2.cell (p:=⟨w1.heap.size,0,none⟩) id e0 | exact(cP0 (fun _=>False) _).alloc _ |>.cell (p:=⟨w1.heap.size,0,none⟩) id (ht2.cell (p:=⟨w1.heap.size,0,none⟩) id e0) | go_keep)
   (first | (go_at_call 67;refine(fX a' c' par _ T ?_).mono ?_;exact((yA HI).par).calm ((cP0 _ _).drew);rintro e w2 ⟨qs,rfl,⟨ρ,hch⟩,ht2⟩;have hl36:qs.length=36:=hch.len))
  all_goals go_wp2_with fail
  all_goals go_meet
  have hE:=pN0 a' par.length c' qs hl36;refine⟨w2.heap.size,rfl,?_,?_,qs,ρ,?_,?_⟩
  ·have h2:=ht2.size;simp at h2
   omega
  ·exact(((cP0 _ _).drew).calm ht2).alloc _
  ·refine sA0 a' par.length c' qs hl36 _ _ ?_;rw[←hE];exact eP0 _ _
  ·have hb:(w1.alloc (.cells #[.slice a' par.length c'] 88)).drew.heap.size=w1.heap.size+1:=by simp[World.drew]
   rw[hb] at hch;exact hch.keep ((cP0 (fun _=>False) _).alloc _) (fun _ _ f=>f)
 case rest=>
  obtain⟨g,rfl,hgw,hc,qs,ρ,hQ,hch⟩:=hcut;have HP:=uA ((yA HI).calm hc);have hl36:=hch.len;have HQ:=uA hQ;have HG:=uA hQ.typ;have HC:=uA hc;have HH:=uA hch;have HIa:=uA ((yA HI));clear hQ hc HI hch;go_wp2_with fail
  go_loopw [20] (fun i wr=>∃k:Nat,k≤4∧i=.int .i64 k∧Touch (fun b=>b=g) wc wr∧∃cl:Nat→List Value,XQ wr g a' par.length c' qs cl∧∀c,c<4→cl c=if c<k then sD 2 else cli0) (fun i _=>4-(intOf i).toNat)
  case atStart=>exact⟨0,by omega,rfl,cP0 _ _,_,yA HQ,fun c hc=>by simp⟩
  case round=>
   obtain⟨k,hk,rfl,ht,cl,hX,hcl⟩:=hrel;have HX:=uA hX;have HCL:=uA hcl;have HT:=uA ht;clear hX hcl ht HQ;by_cases hlt:k<4
   ·have hlen:=((yA HX).cls k hlt).2;have hfz:=(yA HX).fr;have hgl:=fP0 (yA HX).closed;simp only at hgl;have hth:∀w',qA wr w'→w'.there g (86+k*31) (sD 2).toArray.size:=fun w' t j hj=>by
     have hj':j<31:=hj;have h9:=(yA HX).calm t;have hj2:j<(cl k).length:=by rw[hlen];exact hj'
     exact⟨by rw[(h9.cls k hlt).1 j _ (pO0 hj2)];rfl,h9.fr _⟩
    have HTH:=uA hth;clear hth;go_wp2;go_region_with (go_at_call 68;refine(oT _).mono ?_;rintro e w' ⟨rfl,ht9⟩;replace ht9:qA wr w':=((cP0 (fun _=>False) wr).drew).calm ht9;replace hfz:∀o,w'.frozen? ⟨g,o,none⟩=false:=((yA HX).calm ht9).fr;have HX9:=uA ((yA HX).calm ht9);have hst:=bF0 ((yA HTH) w' ht9))
    all_goals go_wp2
    all_goals go_roundw
    case rel=>
     refine⟨k+1,by omega,by go_num,?_,_,(yA HX9).setAll hl36 k hlt (sD 2) rfl,fun c hc=>?_⟩
     ·exact((yA HT).calm ht9).trans (Touch.setCells _ _ _ _)
     ·by_cases e:c=k
      ·subst e;simp only[if_true];rw[if_pos (by omega)]
      ·simp only[if_neg e];rw[yA HCL c hc];by_cases h1:c<k
       ·rw[if_pos h1,if_pos (by omega)]
       ·rw[if_neg h1,if_neg (by omega)]
    case measure=>simp[intOf];omega
   ·go_wp2;go_ret2
    have hs1:=(yA HT1).size;have hP9:ParNew wr w.heap.size a' par∧(∀o,a'=some o→par≠[]→o.block≠g):=by
     rcases yA HIa with h1 | ⟨tb,o,rfl,h3,h4,_⟩
     ·exact⟨Or.inl h1,fun o _ h=>absurd h1 h⟩
     ·have h5:tb<w1.heap.size+1:=by simpa using h4
      exact⟨(yA HP).keep (yA HT) (fun tb' o' e=>by cases e;omega),fun o e _=>by cases e;show tb≠g;omega⟩
    have hC9:Chans wr w.heap.size par (fun _ _=>True) ρ qs:=by
     have:=(yA HH).keep (yA HT) (fun k hk e=>by
      subst e;have h1:=(yA HH).isc k hk;obtain⟨cs,h2⟩:=yA HG
      rw[h2] at h1;cases h1)
     exact⟨this.len,this.yes,this.no,fun k hk=>⟨by have:=(this.role k hk).1;omega,(this.role k hk).2⟩,this.isc,this.all⟩
    obtain⟨ρ',hN,hlow⟩:=(yA HX).net (fun c hc=>by rw[yA HCL c hc,if_pos (by omega)]) hP9.1 hC9 (by omega) hP9.2;exact⟨g,ρ',rfl,hN,hlow,(((yA HT1).alloc _).calm (yA HC)).fresh (yA HT) (fun b hb e=>by omega)⟩
end Go.Proofs.YtodfcpblcpogiaaGreat

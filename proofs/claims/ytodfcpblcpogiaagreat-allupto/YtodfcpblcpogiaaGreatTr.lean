import Derived.Test.YtodfcpblcpogiaaGreatNewX
import Derived.Test.YtodfcpblcpogiaaGreatSp
import Derived.Deep.RegionLaw
namespace Go.Proofs.YtodfcpblcpogiaaGreat
open Go.RowKit
def okB (f:Nat→Int)(i:Nat):Bool:=decide (0≤f i) && decide (f i≤i)
def nF (f:Nat→Int)(n:Nat):Bool:=decide (n≤5) && (List.range n).all (okB f)
theorem qY {f:Nat→Int}{n:Nat}(h:nF f n=true):n≤5∧∀i,i<n→okB f i=true:=by
 simp[nF] at h;exact⟨h.1,fun i hi=>h.2 i hi⟩
theorem zF0 {f:Nat→Int}{n:Nat}(h:n≤5)(g:∀i,i<n→okB f i=true):nF f n=true:=by
 simp[nF];exact⟨h,fun i hi=>g i hi⟩
theorem cL0 {f:Nat→Int}{n k:Nat}(hk:k<n)(h:okB f k=false):nF f n=false:=by
 cases hg:nF f n with
 | false=>rfl
 | true=>have:=(qY hg).2 k hk;rw[this] at h;cases h
theorem bL0 {f:Nat→Int}{n:Nat}(hk:5<n):nF f n=false:=by simp[nF];omega
def vF (f:Nat→Int)(n:Nat):List Nat:=(List.range n).map fun i=>(f i).toNat
theorem pG (f:Nat→Int)(n:Nat):(vF f n).length=n:=by simp[vF]
theorem xA0 (f:Nat→Int){n i:Nat}(h:i<n):(vF f n).getD i 0=(f i).toNat:=by simp[vF,h]
theorem cR {f:Nat→Int}{n:Nat}(h:nF f n=true):Tree (vF f n):=by
 obtain⟨h5,hok⟩:=qY h;refine⟨by rw[pG];exact h5,fun i hi=>?_⟩;rw[pG] at hi;have:=hok i hi;simp only[okB,qP0,oP0] at this;rw[xA0 f hi];omega
theorem kV {f:Nat→Int}{n:Nat}(h:nF f n=true){i:Nat}(hi:i<n):(((vF f n).getD i 0:Nat):Int)=f i:=by
 have:=(qY h).2 i hi;simp only[okB,qP0,oP0] at this;rw[xA0 f hi];omega
set_option maxRecDepth 100000 in
set_option maxHeartbeats 400000 in
theorem rZ (b o n cap:Nat)(f:Nat→Int)(w:World)(hm:n≤maxLen)(hbad:nF f n=false)(h:∀j,j<n→w.cell? ⟨b,o+j,none⟩=some (.int .i64 (f j))):
  Calls Tryz.prog 66 #[.slice (some ⟨b,o,none⟩) n cap] w fun e w'=>e=.returned (.tuple #[.agg #[.slice none 0 0],.bool false])∧qA w w':=by
 unfold maxLen at hm;by_cases hlong:6≤n
 ·clear h hbad;go_enter Tryz.func66,Tryz.ntmps66
  go_wp2;exact bodyPost_ret (v:=.tuple #[.agg #[.slice none 0 0],.bool false]) (by simp[results,Tryz.results66,go_sem]) rfl ⟨rfl,(cP0 _ _).alloc _⟩
 ·have ht:=(cP0 (fun _=>False) w).alloc (.cells #[.slice none 0 0] 88);have h':∀j,j<n→(w.alloc (.cells #[.slice none 0 0] 88)).cell? ⟨b,o+j,none⟩=some (.int .i64 (f j)):=fun j hj=>ht.cell (p:=⟨b,o+j,none⟩) id (h j hj);have H:=uA h';have HT:=uA ht;have HB:=uA hbad;clear h h' ht hbad;go_enter Tryz.func66,Tryz.ntmps66
  go_wp2;go_loop [12] (fun i=>∃k:Nat,k≤n∧i=.int .i64 k∧∀i,i<k→okB f i=true) (fun i=>n-(intOf i).toNat)
  case atStart=>exact⟨0,by omega,rfl,fun i hi=>by omega⟩
  case round=>
   obtain⟨k,hk,rfl,hok⟩:=hrel;have HOK:=uA hok;clear hok;by_cases hlt:k<n
   ·have hc:=yA H k hlt;by_cases h0:0≤f k
    ·by_cases h1:f k≤k
     ·go_wp2;go_round
      case rel=>
       refine⟨k+1,by omega,by go_num,fun i hi=>?_⟩;by_cases e:i=k
       ·subst e;simp[okB,h0,h1]
       ·exact yA HOK i (by omega)
      case measure=>simp[intOf];omega
     ·go_wp2;exact bodyPost_ret (v:=.tuple #[.agg #[.slice none 0 0],.bool false]) (by simp[results,Tryz.results66,go_sem]) rfl ⟨rfl,yA HT⟩
    ·go_wp2;exact bodyPost_ret (v:=.tuple #[.agg #[.slice none 0 0],.bool false]) (by simp[results,Tryz.results66,go_sem]) rfl ⟨rfl,yA HT⟩
   ·exfalso;have:=zF0 (n:=n) (by omega) (fun i hi=>yA HOK i (by omega));rw[yA HB] at this;cases this
set_option maxRecDepth 100000 in
set_option maxHeartbeats 400000 in
theorem aJ0 (b o n cap:Nat)(f:Nat→Int)(w:World)(hm:n≤maxLen)(hbad:nF f n=false)(h:∀j,j<n→w.cell? ⟨b,o+j,none⟩=some (.int .i64 (f j))):
  Calls Tryz.prog 29 #[.slice (some ⟨b,o,none⟩) n cap] w fun e w'=>e=.returned (.tuple #[.pointer none,int 1])∧qA w w':=by
 have H:=uA (rZ b o n cap f w hm hbad h);clear h hbad hm;go_enter Tryz.func29,Tryz.ntmps29
 go_wp2_with (go_at_call 66;refine(yA H).mono ?_;rintro e w1 ⟨rfl,ht1⟩;have HT1:=uA ht1;clear ht1)
 go_ret2;exact⟨rfl,(yA HT1).alloc _⟩
structure RQ (w:World)(b:Nat)(v:Value)(cl:Nat→List Value):Prop where
 typ:∃cs,w.heap[b]?=some (.cells cs 122)
 par:w.cell? ⟨b,0,none⟩=some v
 frames:w.cell? ⟨b,1,none⟩=some (.slice none 0 0)
 facts:w.cell? ⟨b,2,none⟩=some (.slice none 0 0)
 cls:∀c,c<4→w.rangeAt b (3+c*13) (cl c)∧(cl c).length=13
 closed:w.cell? ⟨b,55,none⟩=some (.bool false)
 fr:∀o,w.frozen? ⟨b,o,none⟩=false
theorem RQ.keep {S:Nat→Prop}{w w':World}{b:Nat}{v:Value}{cl:Nat→List Value}(h:RQ w b v cl)(t:Touch S w w')(hb:¬S b):RQ w' b v cl:=by
 have hc:∀o v,w.cell? ⟨b,o,none⟩=some v→w'.cell? ⟨b,o,none⟩=some v:=fun o v hv=>t.cell (p:=⟨b,o,none⟩) hb hv;have hbk:=t.block b (fP0 h.closed) hb
 exact⟨by rw[hbk];exact h.typ,hc _ _ h.par,hc _ _ h.frames,hc _ _ h.facts,fun c k=>⟨fun j v hj=>hc _ _ ((h.cls c k).1 j v hj),(h.cls c k).2⟩,hc _ _ h.closed,
  fun o=>(nP0 (w:=w) (a:=⟨b,o,none⟩) hbk).trans (h.fr o)⟩
theorem RQ.calm {w w':World}{b:Nat}{v:Value}{cl:Nat→List Value}(h:RQ w b v cl)(t:qA w w'):RQ w' b v cl:=h.keep t id
theorem RQ.set {w:World}{b:Nat}{u:Value}{cl:Nat→List Value}(h:RQ w b u cl)(k j:Nat)(hk:k<4)(hj:j<13)(v:Value):
  RQ (w.setCell ⟨b,3+k*13+j,none⟩ v) b u (fun c=>if c=k then (cl k).set j v else cl c):=by
 have hne:∀o' u,w.cell? ⟨b,o',none⟩=some u→o'≠3+k*13+j→(w.setCell ⟨b,3+k*13+j,none⟩ v).cell? ⟨b,o',none⟩=some u:=fun o' u hu hn=>tA w hn hu;refine⟨nB h.typ _ _,hne _ _ h.par (by omega),hne _ _ h.frames (by omega),hne _ _ h.facts (by omega),fun c hc=>?_,hne _ _ h.closed (by omega),fun o'=>by rw[World.frozen?_setCell];exact h.fr o'⟩;by_cases e:c=k
 ·subst e;simp only[if_true];exact⟨dZ (h.cls c hc).1 j v,by rw[List.length_set];exact(h.cls c hc).2⟩
 ·simp only[if_neg e];exact⟨fL (h.cls c hc).1 (by have:=(h.cls c hc).2;omega) v,(h.cls c hc).2⟩
theorem RQ.setPar {w:World}{b:Nat}{u:Value}{cl:Nat→List Value}(h:RQ w b u cl)(v:Value):RQ (w.setCell ⟨b,0,none⟩ v) b v cl:=by
 have hne:∀o' u,w.cell? ⟨b,o',none⟩=some u→o'≠0→(w.setCell ⟨b,0,none⟩ v).cell? ⟨b,o',none⟩=some u:=fun o' u hu hn=>tA w hn hu;exact⟨nB h.typ _ _,mP0 w _ _ h.par,hne _ _ h.frames (by omega),hne _ _ h.facts (by omega),fun c hc=>⟨fL (h.cls c hc).1 (by omega) v,(h.cls c hc).2⟩,hne _ _ h.closed (by omega),fun o'=>by rw[World.frozen?_setCell];exact h.fr o'⟩
def vJ:List Value:=[int 0,int 0,.bool false,.bool false,int 0,int 0,rA,rA,rA,rA,int 0,int 0,rA]
def rE0:List Value:=[int (-1),int (-1),.bool false,.bool false,int (-1),int (-1),rA,rA,rA,rA,int 0,int 0,rA]
def newR (v:Value):List Value:=[v,.slice none 0 0,.slice none 0 0]++vJ++vJ++vJ++vJ++[.bool false]
theorem mM0 (v:Value)(w:World)(g:Nat)(hg:w.heap[g]?=some (.cells (newR v).toArray 122)):RQ w g v (fun _=>vJ):=by
 have hc:∀j,w.cell? ⟨g,j,none⟩=(newR v)[j]?:=fun j=>by rw[xA hg];simp
 refine⟨⟨_,hg⟩,hc 0,hc 1,hc 2,fun k hk=>⟨fun j u hj=>?_,rfl⟩,hc 55,bA hg⟩;have hjl:j<13:=(rO0.1 hj).1;rw[hc];rcases k with _ | _ | _ | _ | k
 all_goals first | omega | (rcases j with _ | _ | _ | _ | _ | _ | _ | _ | _ | _ | _ | _ | _ | j<;>first | omega | exact hj)
theorem oG0 (w wr w2:World)(o:Obj)(gr g2 cp k:Nat)(xs:List Value)(j:Nat)(u:Value)(hc:qA w wr)(ho:wr.ownsRow w.heap.size 3 1 (.slice (some ⟨gr,0,none⟩) (k+1) cp) (k+1) xs)
  (ht:((Value.slice (some ⟨gr,0,none⟩) (k+1) cp).ownBlock=some g2∧Touch (fun k=>k=g2) (wr.alloc o).drew w2)∨(g2=(wr.alloc o).drew.heap.size∧qA (wr.alloc o).drew w2)):
  qA w (w2.setCell ⟨w.heap.size+1,j,none⟩ u):=by
 have h1:qA w (wr.alloc o).drew:=(hc.alloc o).drew;have hge:w.heap.size≤gr:=(ho.lt gr rfl).1;have h2:qA w w2:=by
  rcases ht with⟨hin,t⟩ | ⟨_,t⟩
  ·have:gr=g2:=bO0 hin;exact h1.fresh t (fun k hk e=>by omega)
  ·exact h1.calm t
 exact h2.fresh (Touch.set1 _ _ _ _) (fun k hk e=>by omega)
def mX (f:Nat→Int)(k:Nat):List Value:=int (-1)::(List.range k).map fun i=>int (f i)
theorem rG0 (f:Nat→Int)(k:Nat):mX f (k+1)=mX f k++[int (f k)]:=by simp[mX,List.range_succ]
theorem RQ.net {w:World}{b n gr cap:Nat}{f:Nat→Int}{cl:Nat→List Value}(h:RQ w b (.slice (some ⟨gr,0,none⟩) (n+1) cap) cl)(hcl:∀c,c<4→cl c=rE0)(hg:nF f n=true)(hne:gr≠b)(ho:w.ownsRow 0 3 1 (.slice (some ⟨gr,0,none⟩) (n+1) cap) (n+1) (mX f n)):
  RG w b (fun k=>if k=b then some .net else if k=gr then some .tree else none) (nC (vF f n)):=by
 have hlt:b<w.heap.size:=fP0 h.closed;have hgl:gr<w.heap.size:=dE ho gr rfl;have nilR:∀(r:Role) (t sz:Nat),RowAt w (fun k=>if k=b then some .net else if k=gr then some .tree else none) r t sz 0 [] rA:=fun r t sz=>⟨jP0 _ _ _ _,fun g hg=>by cases hg⟩;refine⟨⟨vF f n,[],[],fun _=>gG,false⟩,⟨by simp,h.typ,h.fr,fun k hk=>?_,⟨gr,0,cap,?_,by simp[hne],fun i hi=>?_⟩,⟨rA,h.frames,[],rfl,nilR _ _ _,fun i a cs hi=>by simp at hi⟩,⟨rA,h.facts,[],rfl,nilR _ _ _,fun i a cs hi=>by simp at hi⟩,fun c hc=>?_,h.closed⟩,?_,⟨List.Pairwise.nil,fun k hk=>(by cases hk),fun k hk=>(by cases hk)⟩⟩
 ·by_cases e:k=b
  ·omega
  ·by_cases e2:k=gr
   ·omega
   ·rw[if_neg e,if_neg e2] at hk;exact absurd rfl hk
 ·show w.cell? ⟨b,0,none⟩=some (.slice (some ⟨gr,0,none⟩) (size (vF f n)) cap)
  rw[size,pG];exact h.par
 ·have hi:i<size (vF f n):=hi;rw[size,pG] at hi
  have hc:=ho.cells (g:=gr) rfl i (int (qQ (vF f n) i)) (by
   show (mX f n)[i]?=some (int (qQ (vF f n) i))
   unfold qQ mX up;rcases i with _ | i
   ·rfl
   ·rw[if_neg (by omega),show i+1-1=i from rfl,kV hg (by omega)];have:i<n:=by omega
    simp[this])
  rw[gP0] at hc;exact hc
 ·have hr:=(h.cls c hc).1;rw[hcl c hc] at hr;have k01:∀k,k<2→k=0∨k=1:=fun k hk=>by omega
  refine⟨hr 0 _ rfl,hr 1 _ rfl,fun k hk=>?_,fun k hk=>?_,fun k hk=>?_,fun k hk=>?_,hr 10 _ rfl,hr 11 _ rfl,rA,hr 12 _ rfl,nilR _ _ _⟩
  ·rcases k01 k hk with rfl | rfl
   ·exact hr 2 _ rfl
   ·exact hr 3 _ rfl
  ·rcases k01 k hk with rfl | rfl
   ·exact hr 4 _ rfl
   ·exact hr 5 _ rfl
  ·refine⟨rA,?_,fun hu=>(by cases hu),none,0,0,rfl⟩;rcases k01 k hk with rfl | rfl
   ·exact hr 6 _ rfl
   ·exact hr 7 _ rfl
  ·refine⟨rA,?_,nilR _ _ _⟩;rcases k01 k hk with rfl | rfl
   ·exact hr 8 _ rfl
   ·exact hr 9 _ rfl
 ·rfl
set_option maxRecDepth 100000 in
set_option maxHeartbeats 800000 in
theorem newG (a:Option Addr)(n cap:Nat)(f:Nat→Int)(w:World)(hm:n≤maxLen)(h:IntsAt w a n f):
    Calls Tryz.prog 30 #[.slice a n cap] w fun e w'=>
      ((nF f n=false∧e=.returned (.tuple #[.pointer none,.int .i64 1]))∨
       (nF f n=true∧∃g ρ,e=.returned (.tuple #[.pointer (some ⟨g,0,none⟩),.int .i64 0])∧RG w' g ρ (nC (vF f n))∧∀k,ρ k≠none→w.heap.size≤k))∧qA w w':=by
  unfold maxLen at hm;by_cases hlong:5<n
  · have hb:=uA (bL0 (f:=f) (n:=n) (by omega))
    clear h;go_enter Tryz.func30,Tryz.ntmps30
    go_wp2;go_ret2
    exact⟨Or.inl ⟨yA hb,rfl⟩,cP0 _ _⟩
  · have H:=uA h
    clear h;go_enter Tryz.func30,Tryz.ntmps30
    go_wp2;go_loopw [5] (fun i wr=>∃k:Nat,k≤n∧i=.int .i64 k∧(∀i,i<k→okB f i=true)∧qA w wr∧∃gr cp,gr≠w.heap.size+1∧RQ wr (w.heap.size+1) (.slice (some ⟨gr,0,none⟩) (k+1) cp) (fun _=>vJ)∧wr.ownsRow w.heap.size 3 1 (.slice (some ⟨gr,0,none⟩) (k+1) cp) (k+1) (mX f k)) (fun i _=>n-(intOf i).toNat)
    case atStart=>
      refine⟨0,by omega,rfl,fun i hi=>by omega,((cP0 _ _).alloc _).alloc _,w.heap.size,1,by omega,mM0 _ _ _ (heap_alloc2_new _ _ _),rfl,Or.inr ⟨w.heap.size,1,#[.int .i64 (-1)],rfl,qO0 _,heap_alloc2_old _ _ _,by omega,by unfold maxLen;omega,rfl,rfl⟩⟩
    case round=>
      obtain⟨k,hk,rfl,hok,hc,gr,cp,hne,hQ,hown⟩:=hrel;have HOK:=uA hok;have HC:=uA hc;have HQ:=uA hQ;have HO:=uA hown;clear hok hc hQ hown;by_cases hlt:k<n
      · rcases(yA H).calm (yA HC) with h0 | ⟨b,o,ha,hcells⟩
        · omega
        · have hx:=hcells k hlt
          clear hcells;subst ha;have hbl:=fP0 hx;simp only at hbl;by_cases h0:0≤f k
          · by_cases h1:f k≤k
            · have q0:=(yA HQ).par
              have qf:=(yA HQ).fr 0;have hgl:=fP0 q0;simp only at hgl;obtain⟨ti,hi,hz,hs,hb⟩:=kW;have HI:=uA hi;have HZ:=uA hz;have HS:=uA hs;have HB:=uA hb;clear hi hz hs hb;have hwl:=(yA HC).size;go_wp2
              go_region_law (first
                | (refine kB _ rfl _ _ 30 rfl w.heap.size 3 ti (.int .i64 0) 1 8 Tryz.underlying30 (yA HI) (yA HZ) (yA HS) (yA HB) rfl (by decide) (.slice (some ⟨gr,0,none⟩) (k+1) cp) (k+1) (mX f k) rfl ?own ⟨wr.heap.size,0,none⟩ 1 1 [.int .i64 (f k)] rfl rfl ?news ?one (by decide) ?h63 ?bytes ?base ?_
                   case own=>exact eA (yA HO) (((cP0 (fun _=>False) _).alloc _).drew) (fun _ _ f=>f)
                   case news=>intro j u hj;match j,hj with | 0,hj=>simp at hj;subst hj;simp[Addr.add]
                   case one=>intro u hu;simp at hu;subst hu;rfl
                   case h63=>unfold maxLen;omega
                   case bytes=>omega
                   case base=>simp;omega
                   intro g2 cp2 w2 hgrew;obtain⟨ho2,ht2,hl2⟩:=hgrew;have r2:RQ w2 (w.heap.size+1) (.slice (some ⟨gr,0,none⟩) (k+1) cp) (fun _=>vJ):=by
                     rcases ht2 with⟨hin,ht2⟩ | ⟨_,ht2⟩
                     · exact((yA HQ).calm (((cP0 (fun _=>False) _).alloc _).drew)).keep ht2 (fun e=>hne (by simp[Value.ownBlock] at hin;omega))
                     · exact((yA HQ).calm (((cP0 (fun _=>False) _).alloc _).drew)).calm ht2
                   have p0:=r2.par;have pf:=r2.fr 0;have HR2:=uA r2;have HO2:=uA ho2;have HT2:=uA ht2
                   clear r2 ho2 ht2))
              all_goals
                go_wp2;go_roundw
                case rel=>
                  have hg2:g2≠w.heap.size+1:=by
                    rcases yA HT2 with⟨hin,_⟩ | ⟨hnew,_⟩
                    · simp[Value.ownBlock] at hin;omega
                    · simp at hnew;omega
                  refine⟨k+1,by omega,by go_num,fun i hi=>?_,?_,g2,cp2,hg2,?_,?_⟩
                  · by_cases e:i=k
                    · subst e;simp[okB,h0,h1]
                    · exact yA HOK i (by omega)
                  · exact oG0 w wr w2 _ gr g2 cp k _ _ _ (yA HC) (yA HO) (yA HT2)
                  · exact(yA HR2).setPar _
                  · rw[rG0];exact eA (yA HO2) (Touch.set1 _ _ _ _) (fun g hg e=>hg2 (by simp[Value.ownBlock] at hg;omega))
                case measure=>simp[intOf];omega
            · go_wp2
              go_ret2;exact⟨Or.inl ⟨cL0 hlt (by simp[okB];omega),rfl⟩,yA HC⟩
          · go_wp2
            go_ret2;exact⟨Or.inl ⟨cL0 hlt (by simp[okB];omega),rfl⟩,yA HC⟩
      · have hkn:k=n:=by omega
        subst hkn;go_wp2;go_loopw [6] (fun i wx=>∃q:Nat,q≤4∧i=.int .i64 q∧Touch (fun b=>b=w.heap.size+1) wr wx∧∃cl:Nat→List Value,RQ wx (w.heap.size+1) (.slice (some ⟨gr,0,none⟩) (k+1) cp) cl∧∀c,c<4→cl c=if c<q then rE0 else vJ) (fun i _=>4-(intOf i).toNat)
        case atStart=>exact⟨0,by omega,rfl,cP0 _ _,_,yA HQ,fun c hc=>by simp⟩
        case round=>
          obtain⟨q,hq,rfl,ht,cl,hX,hcl⟩:=hrel;rename_i wr0 _ _ _ _
          have HX:=uA hX;have HCL:=uA hcl;have HT:=uA ht;clear hX hcl ht HQ;by_cases hqt:q<4
          · have hr:=((yA HX).cls q hqt).1
            rw[yA HCL q hqt,if_neg (by omega)] at hr;have a0:wr.cell? ⟨w.heap.size+1,3+q*13,none⟩=some (.int .i64 0):=hr 0 _ rfl;have a1:=hr 1 _ rfl;have a4:=hr 4 _ rfl;have a5:wr.cell? ⟨w.heap.size+1,3+q*13+4+1,none⟩=some (.int .i64 0):=hr 5 _ rfl;have hfz:=(yA HX).fr;clear hr;go_wp2;go_roundw
            case rel=>
              refine⟨q+1,by omega,by go_num,?_,_,((((yA HX).set q 0 hqt (by omega) _).set q 1 hqt (by omega) _).set q 4 hqt (by omega) _).set q 5 hqt (by omega) _,fun c hc=>?_⟩
              · exact((((yA HT).trans (Touch.set1 _ _ _ _)).trans (Touch.set1 _ _ _ _)).trans (Touch.set1 _ _ _ _)).trans (Touch.set1 _ _ _ _)
              · by_cases e:c=q
                · subst e
                  simp[yA HCL c hc,vJ,rE0]
                · simp only[if_neg e]
                  rw[yA HCL c hc];by_cases h1:c<q
                  · rw[if_pos h1,if_pos (by omega)]
                  · rw[if_neg h1,if_neg (by omega)]
            case measure=>simp[intOf];omega
          · go_wp2
            go_ret2;have hgood:=zF0 (f:=f) (n:=k) (by omega) (yA HOK);have hO9:wr.ownsRow 0 3 1 (.slice (some ⟨gr,0,none⟩) (k+1) cp) (k+1) (mX f k):=by
              have:=eA (yA HO) (yA HT) (fun g hg e=>hne (by simp[Value.ownBlock] at hg;omega));refine⟨this.1,this.2.imp id ?_⟩;rintro⟨g,c,cur,e,_,r⟩
              exact⟨g,c,cur,e,Nat.zero_le _,r⟩
            have hge:w.heap.size≤gr:=((yA HO).lt gr rfl).1;refine⟨Or.inr ⟨hgood,w.heap.size+1,_,rfl,(yA HX).net (fun c hc=>by rw[yA HCL c hc,if_pos (by omega)]) hgood hne hO9,fun j hj=>?_⟩,(yA HC).fresh (yA HT) (fun b hb e=>by omega)⟩;by_cases e:j=w.heap.size+1
            · omega
            · by_cases e2:j=gr
              · omega
              · rw[if_neg e,if_neg e2] at hj;exact absurd rfl hj
end Go.Proofs.YtodfcpblcpogiaaGreat

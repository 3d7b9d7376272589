import Derived.Test.YtodfcpblcpogiaaGreatIter
namespace Go.Proofs.YtodfcpblcpogiaaGreat
open Go.RowKit
def pJ (σ:Net)(j:Nat):Option Lnk:=if σ.q (j/6) (j%6)=[] then none else some ⟨j/6,j%6,(σ.q (j/6) (j%6)).length⟩
def bC (σ:Net)(k:Nat):List Lnk:=(List.range k).filterMap (pJ σ)
theorem dJ (σ:Net)(k:Nat):bC σ (k+1)=bC σ k++(pJ σ k).toList:=by
 unfold bC;rw[List.range_succ,List.filterMap_append];simp only[List.filterMap_cons,List.filterMap_nil];cases pJ σ k<;>rfl
theorem pK {α β:Type}{f g:α→Option β}:∀(l:List α),(∀a,a∈l→f a=g a)→l.filterMap f=l.filterMap g
 | [],_=>rfl
 | a::l,h=>by simp only[List.filterMap_cons,h a (lO0 ..),pK l (fun b hb=>h b (kO0 _ hb))]
theorem tO {α β:Type}{f g:α→List β}:∀(l:List α),(∀a,a∈l→f a=g a)→l.flatMap f=l.flatMap g
 | [],_=>rfl
 | a::l,h=>by simp only[tP0,h a (lO0 ..),tO l (fun b hb=>h b (kO0 _ hb))]
theorem bM (σ:Net)(k:Nat):(bC σ k).length≤k:=mO0 (List.length_filterMap_le _ _) (by simp)
theorem zN (σ:Net)(h:σ.closed=false):bC σ 36=σ.pending:=by
 have h1:List.range 36=(List.range 6).flatMap fun x=>(List.range 6).map fun y=>x*6+y:=by decide
 unfold bC Net.pending;rw[h,h1,List.filterMap_flatMap];simp only[Bool.false_eq_true,if_false];have hx:∀x,x∈List.range 6→((List.range 6).map fun y=>x*6+y).filterMap (pJ σ)=(List.range 6).filterMap fun y=>if σ.q x y=[] then none else some ⟨x,y,(σ.q x y).length⟩:=fun x _=>by
  rw[List.filterMap_map];refine pK _ (fun y hy=>?_);have hy:=yP0.1 hy;simp only[Function.comp,pJ];rw[show (x*6+y)/6=x by omega,show (x*6+y)%6=y by omega]
 exact tO _ hx
theorem info90:(Tryz.prog.info? 90).map (·.size)=some 6:=by kernel_rfl
theorem info89:(Tryz.prog.info? 89).map (·.size)=some 1:=by kernel_rfl
theorem iK0 (qs:Array Value)(k:Nat)(hk:k<6)(w:World):(Instr.index 91 (.agg qs) (.int .i64 k)).run Tryz.prog w=.ok (.agg (qs.extract (k*6) (k*6+6))) w:=by
 have h1:(0:Int)≤k∧(k:Int)<(6:Nat):=by omega
 simp[Instr.index,asIntOf,Sem.run_bind,run_underlying Tryz.underlying91,part,isAgg,run_underlying Tryz.underlying90,nN info90,hk]
theorem hK0 (r:Array Value)(k:Nat)(hk:k<6)(v:Value)(hv:r[k]?=some v)(w:World):(Instr.index 90 (.agg r) (.int .i64 k)).run Tryz.prog w=.ok v w:=by
 simp[Instr.index,asIntOf,Sem.run_bind,run_underlying Tryz.underlying90,part,isAgg,run_underlying Tryz.underlying89,nN info89,hk,hv]
theorem oK0 {w:World}{ρ:zA}{x y:Nat}{nb:Bool}{l:List Fr}{v:Value}(h:LinkAt w ρ x y nb l v):(Builtin.len_ #[89] 3 #[v]).run Tryz.prog w=.ok (goInt l.length) w:=by
 unfold LinkAt at h;split at h
 ·obtain⟨r,buf,s,t,rfl,_,h3,h4⟩:=h;have hsz:buf.size=l.length:=by rw[←h4.1];simp
  have hg:(getObj r).run Tryz.prog w=.ok (.chan 2000 buf false s t false) w:=by simp[getObj,Sem.run,h3]
  simp[Builtin.len_,run_underlying Tryz.underlying89,hg,hsz]
 ·obtain⟨rfl,rfl⟩:=h;simp[Builtin.len_,run_underlying Tryz.underlying89]
theorem LinkAt.chan {w:World}{ρ:zA}{x y:Nat}{nb:Bool}{l:List Fr}{v:Value}(h:LinkAt w ρ x y nb l v):∃r,v=.chan r:=by
 unfold LinkAt at h;split at h
 ·obtain⟨r,_,_,_,h,_⟩:=h;exact⟨_,h⟩
 ·exact⟨_,h.1⟩
theorem XN.queues {w:World}{b:Nat}{ρ:zA}{σ:Net}(h:XN w b ρ σ):∃v:Nat→Value,(∀j,j<36→w.cell? ⟨b,2+j,none⟩=some (v j)∧LinkAt w ρ (j/6) (j%6) (iB σ.par (j/6) (j%6)) (σ.q (j/6) (j%6)) (v j)):=by
 have:∀j,∃v,j<36→w.cell? ⟨b,2+j,none⟩=some v∧LinkAt w ρ (j/6) (j%6) (iB σ.par (j/6) (j%6)) (σ.q (j/6) (j%6)) v:=fun j=>by
  by_cases hj:j<36
  ·obtain⟨v,h1,h2⟩:=h.link (j/6) (j%6) (by omega) (by omega);rw[show 2+j/6*6+j%6=2+j by omega] at h1;exact⟨v,fun _=>⟨h1,h2⟩⟩
  ·exact⟨.bool false,fun h=>absurd h hj⟩
 obtain⟨v,hv⟩:=Classical.axiomOfChoice this;exact⟨v,hv⟩
theorem vJ0 (v:Nat→Value)(x:Nat)(hx:x<6):((List.range 36).map v).toArray.extract (x*6) (x*6+6)=#[v (x*6),v (x*6+1),v (x*6+2),v (x*6+3),v (x*6+4),v (x*6+5)]:=by
 obtain rfl | rfl | rfl | rfl | rfl | rfl:x=0∨x=1∨x=2∨x=3∨x=4∨x=5:=by omega
 all_goals rfl
def LinksAt (w:World)(base:Nat)(v:Value)(l:List Lnk):Prop:=w.ownsRow base 69 3 v l.length (l.flatMap Lnk.enc)
set_option maxRecDepth 100000 in
set_option maxHeartbeats 2000000 in
theorem zI {w:World}{b:Nat}{ρ:zA}{σ:Net}(h:XN w b ρ σ)(hw:∀x y,(σ.q x y).length<2000):
  Calls Tryz.prog 61 #[.pointer (some ⟨b,2,none⟩)] w fun e w'=>∃v,e=.returned v∧LinksAt w' w.heap.size v σ.pending∧qA w w':=by
 obtain⟨v,hv⟩:=h.queues;have hq:w.rangeAt b 2 ((List.range 36).map v):=fun j u hj=>by
  have hj':j<36:=by
   by_cases hj':j<36
   ·exact hj'
   ·rw[List.getElem?_eq_none (by simp;omega)] at hj;cases hj
  simp[hj'] at hj
  rw[←hj];exact(hv j hj').1
 have hl:((List.range 36).map v).length=36:=by simp
 have hsx:=fun (x:Nat) (hx:x<6)=>vJ0 v x hx;generalize (List.range 36).map v=qs at hq hl hsx;have HSX:=uA hsx;clear hsx;have hall:=zN σ h.open_;have HALL:=uA hall;have HV:=uA (fun j hj=>(hv j hj).2);have HX:=uA h;clear h hall hv;obtain⟨ti,i3,z3,s3,b3⟩:=vE0;have I3:=uA i3;have Z3:=uA z3;have S3:=uA s3;have B3:=uA b3;clear i3 z3 s3 b3;go_enter Tryz.func61,Tryz.ntmps61
 go_wp2_with (refine wpList_load_mid rfl 91 _ rfl b 2 rfl qs _ hq Tryz.underlying91 rfl (by rw[hl];kernel_rfl) ?_)
 go_loopw [3,13] (fun p i wr=>∃x:Nat,x≤6∧i=int x∧LinksAt wr w.heap.size p (bC σ (x*6))∧qA w wr) (fun _ i _=>6-(intOf i).toNat)
 case atStart=>exact⟨0,by omega,rfl,jP0 _ _ _ _,cP0 _ _⟩
 case round=>
  obtain⟨x,hx,rfl,hrow,ht⟩:=hrel;have HROW:=uA hrow;have HT:=uA ht;clear hrow ht;by_cases hlt:x<6
  ·have hxi:(x:Int)<6:=by omega
   have hxx:=fun w=>iK0 qs.toArray x hlt w;rw[yA HSX x hlt] at hxx;obtain⟨r0,e0⟩:=(yA HV (x*6) (by omega)).chan;obtain⟨r1,e1⟩:=(yA HV (x*6+1) (by omega)).chan;obtain⟨r2,e2⟩:=(yA HV (x*6+2) (by omega)).chan;obtain⟨r3,e3⟩:=(yA HV (x*6+3) (by omega)).chan;obtain⟨r4,e4⟩:=(yA HV (x*6+4) (by omega)).chan;obtain⟨r5,e5⟩:=(yA HV (x*6+5) (by omega)).chan;have hsix:∀y,y<6→(#[Value.chan r0,.chan r1,.chan r2,.chan r3,.chan r4,.chan r5]:Array Value)[y]?=some (v (x*6+y)):=fun y hy=>by
    obtain rfl | rfl | rfl | rfl | rfl | rfl:y=0∨y=1∨y=2∨y=3∨y=4∨y=5:=by omega
    ·exact congrArg some e0.symm
    ·exact congrArg some e1.symm
    ·exact congrArg some e2.symm
    ·exact congrArg some e3.symm
    ·exact congrArg some e4.symm
    ·exact congrArg some e5.symm
   rw[e0,e1,e2,e3,e4,e5] at hxx;have HSIX:=uA hsix;clear hsix e0 e1 e2 e3 e4 e5;go_wp2;have ht2:qA wr (wr.alloc (.cells #[.chan r0,.chan r1,.chan r2,.chan r3,.chan r4,.chan r5] 90)):=(cP0 _ _).alloc _;have HROW2:Hid (LinksAt (wr.alloc (.cells #[.chan r0,.chan r1,.chan r2,.chan r3,.chan r4,.chan r5] 90)) w.heap.size u3 (bC σ (x*6))):=eA (yA HROW) ht2 (fun _ _ f=>f);have HT2:=uA ((yA HT).trans ht2);clear ht2 hxx HROW HT;go_loopw [3,18] (fun p j wq=>∃y:Nat,y≤6∧j=int y∧LinksAt wq w.heap.size p (bC σ (x*6+y))∧qA w wq) (fun _ j _=>6-(intOf j).toNat)
   case atStart=>exact⟨0,by omega,rfl,yA HROW2,yA HT2⟩
   case round=>
    obtain⟨y,hy,rfl,hrow,ht⟩:=hrel;have HROW:=uA hrow;have HT:=uA ht;clear hrow ht HROW2 HT2;by_cases hyt:y<6
    ·have hyi:(y:Int)<6:=by omega
     have hv:=yA HSIX y hyt;have hyy:=fun w=>hK0 _ y hyt _ hv w;have hlk:=((yA HV) (x*6+y) (by omega)).keep (w':=wr) (ρ':=ρ) (fun k hk=>⟨(yA HT).block k ((yA HX).lt k (by rcases hk with hk | hk | hk<;>rw[hk]<;>simp)) id,rfl⟩)
     have hz:=oK0 hlk;obtain⟨rr,hrr⟩:=hlk.chan;rw[hrr] at hyy hz;have h6a:(x*6+y)/6=x:=by omega
     have h6b:(x*6+y)%6=y:=by omega
     have hsu:=dJ σ (x*6+y);have hl2:=hw x y;rw[h6a,h6b] at hz;have hla:pJ σ (x*6+y)=if σ.q x y=[] then none else some ⟨x,y,(σ.q x y).length⟩:=by simp only[pJ,h6a,h6b]
     have HSU:=uA hsu;have HLA:=uA hla;clear hsu hla hlk hv hrr;generalize hN:(σ.q x y).length=N at*;have HN:=uA hN;clear hN;by_cases hN0:0<N
     ·have hN0i:(0:Int)<N:=by omega
      have hne:σ.q x y≠[]:=fun e=>by have:=yA HN;rw[e] at this;simp at this;omega
      have hsz:=(yA HT).size;have hpl:=bM σ (x*6+y);go_wp2_with (at_builtin;refine pB _ rfl _ _ 67 rfl w.heap.size 69 ti (.agg #[int 0,int 0,int 0]) 3 24 Tryz.underlying67 (yA I3) (yA Z3) (yA S3) (yA B3) rfl (by decide) _ (bC σ (x*6+y)).length _ rfl (eA (yA HROW) ((cP0 (fun _=>False) _).alloc _) (fun _ _ f=>f)) ⟨wr.heap.size,0,none⟩ 1 1 [int x,int y,int N] rfl rfl ?news ?one (by decide) ?h63 ?bytes ?base ?_)
      case news=>exact fun j u hj=>yC wr [int x,int y,int N] 69 j u hj
      case one=>intro u hu;simp at hu;rcases hu with rfl | rfl | rfl<;>rfl
      case h63=>unfold maxLen;omega
      case bytes=>omega
      case base=>simp;omega
      intro g cap w2 hg;have hrow2:LinksAt w2 w.heap.size (.slice (some ⟨g,0,none⟩) ((bC σ (x*6+y)).length+1) cap) (bC σ (x*6+y+1)):=by
       rw[yA HSU,yA HLA,if_neg hne];have:=hg.1;simp only[LinksAt,Option.toList_some,hO0,gO0,List.length_nil,List.flatMap_append,tP0,List.flatMap_nil,List.append_nil,Lnk.enc];exact this
      have ht2:qA w w2:=by
       rcases hg.2.1 with⟨hv,t⟩ | ⟨_,t⟩
       ·have hge:w.heap.size≤g:=by
         rcases(yA HROW).2 with⟨e,_⟩ | ⟨g',cp',cur,e,hb,_⟩
         ·rw[e] at hv;cases hv
         ·rw[e] at hv;cases hv;exact hb
        have t1:Touch (fun i=>i=g) w (wr.alloc (.cells #[int x,int y,int N] 69)):=((yA HT).mono (fun _ _ f=>f.elim)).alloc _;exact(t1.trans t).mono (fun i hi e=>by omega)
       ·exact((yA HT).alloc _).trans t
      have HROW3:=uA hrow2;have HT3:=uA ht2;clear hrow2 ht2 hg;go_wp2;go_roundw
      case rel=>exact⟨y+1,by omega,by go_num,yA HROW3,yA HT3⟩
      case measure=>simp[intOf];omega
     ·have hNe:N=0:=by omega
      subst hNe;have hne:σ.q x y=[]:=zP0 (yA HN);go_wp2;go_roundw
      case rel=>exact⟨y+1,by omega,by go_num,by rw[←rP0,yA HSU,yA HLA,if_pos hne];simpa using yA HROW,yA HT⟩
      case measure=>simp[intOf];omega
    ·have hyi:¬(y:Int)<6:=by omega
     have hy6:y=6:=by omega
     subst hy6;go_wp2;go_roundw
     case rel=>exact⟨x+1,by omega,by go_num,by rw[show (x+1)*6=x*6+6 by omega];exact yA HROW,yA HT⟩
     case measure=>simp[intOf];omega
  ·have hxi:¬(x:Int)<6:=by omega
   have hx6:x=6:=by omega
   subst hx6;go_wp2;go_ret;exact⟨_,rfl,by rw[←yA HALL];exact yA HROW,yA HT⟩
theorem LinksAt.at {w:World}{base:Nat}{a:Option Addr}{n cap:Nat}{l:List Lnk}(h:LinksAt w base (.slice a n cap) l):n=l.length∧∀i k,l[i]?=some k→∃g,a=some ⟨g,0,none⟩∧w.cell? ⟨g,i*3,none⟩=some (int k.a)∧w.cell? ⟨g,i*3+1,none⟩=some (int k.b)∧w.cell? ⟨g,i*3+2,none⟩=some (int k.many):=by
 obtain⟨h1,h2⟩:=h;have hcells:∀(l:List Lnk) (i:Nat) k,l[i]?=some k→(l.flatMap Lnk.enc)[i*3]?=some (int k.a)∧(l.flatMap Lnk.enc)[i*3+1]?=some (int k.b)∧(l.flatMap Lnk.enc)[i*3+2]?=some (int k.many):=by
  intro l;induction l with
  | nil=>intro i k hk;cases hk
  | cons c l ih=>
   intro i k hk;cases i with
   | zero=>cases hk;exact⟨rfl,rfl,rfl⟩
   | succ i=>
    have:=ih i k (by simpa using hk);simp only[tP0,Lnk.enc,List.cons_append,List.nil_append];rw[show (i+1)*3=i*3+1+1+1 by omega];exact this
 rcases h2 with⟨e,h0⟩ | ⟨g,cap',cur,e,_,hg,hn,_,hcs,htake⟩
 ·cases e
  exact⟨h0.symm,fun i k hk=>by rw[zP0 h0] at hk;cases hk⟩
 ·cases e
  refine⟨rfl,fun i k hk=>⟨g,rfl,?_⟩⟩;have hil:i<l.length:=(rO0.1 hk).1;obtain⟨c1,c2,c3⟩:=hcells l i k hk;have hget:∀j u,j<l.length*3→(l.flatMap Lnk.enc)[j]?=some u→w.cell? ⟨g,j,none⟩=some u:=fun j u hj hu=>by
   rw[cell_of_row w g j cur 69 (0,0) hg,←Array.getElem?_toList];rw[←htake,uP0,if_pos hj] at hu;exact hu
  exact⟨hget _ _ (by omega) c1,hget _ _ (by omega) c2,hget _ _ (by omega) c3⟩
def zK (l:List Lnk)(k:Nat):Nat:=((l.take k).map (·.many)).sum
theorem oA0 {l:List Lnk}{k:Nat}{c:Lnk}(h:l[k]?=some c):zK l (k+1)=zK l k+c.many:=by
 unfold zK;rw[List.take_add_one,h];simp
theorem gJ0 (σ:Net)(h:σ.closed=false):(σ.pending.map (·.many)).sum=σ.waiting:=by
 rw[dQ];have hrow:∀x,(((List.range 6).filterMap fun y=>if σ.q x y=[] then none else some (⟨x,y,(σ.q x y).length⟩:Lnk)).map (·.many)).sum=qE fun y=>(σ.q x y).length:=fun x=>by
  rw[←iM];have:∀(l:List Nat),((l.filterMap fun y=>if σ.q x y=[] then none else some (⟨x,y,(σ.q x y).length⟩:Lnk)).map (·.many)).sum=(l.map fun y=>(σ.q x y).length).sum:=by
   intro l;induction l with
   | nil=>rfl
   | cons y l ih=>
    simp only[List.filterMap_cons,List.map_cons,List.sum_cons];by_cases e:σ.q x y=[]
    ·simp only[e,if_true,List.length_nil,ih];omega
    ·simp only[e,if_false,List.map_cons,List.sum_cons,ih]
  exact this _
 unfold Net.pending;rw[h];simp only[Bool.false_eq_true,if_false];rw[←iM];have:∀(l:List Nat),((l.flatMap fun x=>(List.range 6).filterMap fun y=>if σ.q x y=[] then none else some (⟨x,y,(σ.q x y).length⟩:Lnk)).map (·.many)).sum=(l.map fun x=>qE fun y=>(σ.q x y).length).sum:=by
  intro l;induction l with
  | nil=>rfl
  | cons x l ih=>simp only[tP0,List.map_append,List.sum_append,List.map_cons,List.sum_cons,hrow,ih]
 exact this _
theorem cP {σ:Net}(h:σ.closed=false):σ.pending.length≤36:=by rw[←zN σ h];exact bM σ 36
set_option maxRecDepth 100000 in
set_option maxHeartbeats 1000000 in
theorem mI0 {w:World}{b:Nat}{ρ:zA}{σ:Net}(h:XN w b ρ σ)(hw:∀x y,(σ.q x y).length<2000)(hall:σ.waiting<1000000):
    Calls Tryz.prog 70 #[.pointer (some ⟨b,2,none⟩)] w fun e w'=>e=.returned (int σ.waiting)∧qA w w':=by
  have hsum:=gJ0 σ h.open_;have hpl:=cP h.open_;have hle:∀k,zK σ.pending k≤σ.waiting:=fun k=>by
    rw[←hsum];unfold zK;rw[List.map_take];have:∀(l:List Nat) k,(l.take k).sum≤l.sum:=by
      intro l;induction l with
      | nil=>intro k;simp
      | cons a l ih=>
        intro k;cases k with
        | zero=>simp
        | succ k=>have:=ih k;simp;omega
    exact this _ _
  have HX:=uA h;clear h;go_enter Tryz.func70,Tryz.ntmps70
  go_wp2_with (go_at_call 61;refine(zI (yA HX) hw).mono ?_;rintro e w1 ⟨v,rfl,hv,ht⟩
               obtain⟨a,n,cap,rfl⟩:∃a n cap,v=.slice a n cap:=by
                 rcases hv.2 with⟨e,_⟩ | ⟨g,cap,_,e,_⟩
                 · exact⟨_,_,_,e⟩
                 · exact⟨_,_,_,e⟩
               obtain⟨hn,hat⟩:=hv.at;have HAT:=uA hat;have HT:=uA ht
               clear hat ht hv)
  go_loopw [3,9] (fun p i wr=>∃k:Nat,k≤n∧i=int k∧p=int (zK σ.pending k)∧qA w1 wr) (fun _ i _=>n-(intOf i).toNat)
  case atStart=>exact⟨0,by omega,rfl,rfl,cP0 _ _⟩
  case round=>
    obtain⟨k,hk,rfl,rfl,hc⟩:=hrel;by_cases hlt:k<n
    · have hlti:(k:Int)<n:=by omega
      have hget:σ.pending[k]?=some (σ.pending[k]'(by omega)):=pO0 (by omega);generalize σ.pending[k]'(by omega)=c at hget;obtain⟨g,rfl,c1,c2,c3⟩:=yA HAT k c hget;have d1:=hc.cell (p:=⟨g,k*3,none⟩) id c1;have d2:=hc.cell (p:=⟨g,k*3+1,none⟩) id c2;have d3:=hc.cell (p:=⟨g,k*3+2,none⟩) id c3;have hsu:=oA0 hget;have hl1:=hle (k+1);have hgl:=fP0 d1;simp only at hgl;have HC:=uA hc;clear hc c1 c2 c3 hget;go_wp2;go_roundw
      case rel=>exact⟨k+1,by omega,by go_num,by rw[hsu];go_num,(yA HC).alloc _⟩
      case measure=>simp[intOf];omega
    · have hlti:¬(k:Int)<n:=by omega
      have hke:k=σ.pending.length:=by omega
      have hfin:zK σ.pending k=σ.waiting:=by rw[←hsum,hke];unfold zK;rw[List.take_length]
      go_wp2;go_ret
      exact⟨by rw[←hfin,hke];rfl,(yA HT).trans hc⟩
theorem Fit.len {σ:Net}{m:Nat}(F:Fit σ m)(x y:Nat):(σ.q x y).length<2000:=by
 by_cases h:σ.q x y=[]
 ·rw[h];simp
 ·have hn:=dB F.good.tree (F.good.nbr x y h);have:=yK F.good.linked hn.1 hn.2;have:=F.r.alive.wt;omega
theorem Fit.waiting {σ:Net}{m:Nat}(F:Fit σ m):σ.waiting<1000000:=by
 have:=(uH F.good.linked).1;have:=F.r.alive.wt;omega
set_option maxHeartbeats 400000 in
theorem yO {w:World}{b:Nat}{ρ:zA}{σ:Net}(h:XN w b ρ σ){m:Nat}(F:Fit σ m):Calls Tryz.prog 33 #[.pointer (some ⟨b,0,none⟩)] w fun e w'=>e=.returned (.bool σ.full)∧qA w w':=by
 have hw:=F.waiting;have HX:=uA h;have HF:=uA F;clear h F;go_enter Tryz.func33,Tryz.ntmps33
 go_wp2_with (go_at_call 70;refine(mI0 (yA HX) (yA HF).len hw).mono ?_;rintro e w1 ⟨rfl,ht⟩)
 go_ret;refine⟨?_,ht⟩;have:decide ((100:Int)≤(σ.waiting:Int))=decide (100≤σ.waiting):=decide_eq_decide.2 (by omega);simp only[Net.full,←this];rfl
set_option maxHeartbeats 400000 in
theorem iJ0 {w:World}{b:Nat}{ρ:zA}{σ:Net}(h:XN w b ρ σ)(hw:∀x y,(σ.q x y).length<2000):
  Calls Tryz.prog 22 #[.pointer (some ⟨b,0,none⟩)] w fun e w'=>∃v,e=.returned v∧LinksAt w' w.heap.size v σ.pending∧qA w w':=by
 have HX:=uA h;clear h;go_enter Tryz.func22,Tryz.ntmps22
 go_wp2_with (go_at_call 61;refine(zI (yA HX) hw).mono ?_;rintro e w1 ⟨v,rfl,hv,ht⟩)
 go_ret;exact⟨v,rfl,hv,ht⟩
end Go.Proofs.YtodfcpblcpogiaaGreat

import Derived.Test.YtodfcpblcpogiaaGreatSpr
import Derived.Deep.RegionWith
namespace Go.Proofs.YtodfcpblcpogiaaGreat
open Go.RowKit
def ParRow (w:World)(v:Value)(par:List Nat):Prop:=(par=[]∧v=.slice none 0 0)∨∃b o cap,v=.slice (some ⟨b,o,none⟩) par.length cap∧∀j,j<par.length→w.cell? ⟨b,o+j,none⟩=some (int (par.getD j 0:Nat))
theorem ParRow.calm {w w':World}{v:Value}{par:List Nat}(h:ParRow w v par)(t:qA w w'):ParRow w' v par:=by
 rcases h with h | ⟨b,o,cap,rfl,h⟩
 ·exact Or.inl h
 ·exact Or.inr ⟨b,o,cap,rfl,fun j hj=>t.cell (p:=⟨b,o+j,none⟩) id (h j hj)⟩
def ParNew (w:World)(base:Nat)(a:Option Addr)(par:List Nat):Prop:=par=[]∨∃tb o,a=some ⟨tb,o,none⟩∧base≤tb∧tb<w.heap.size∧(∃cs t f,w.heap[tb]?=some (.cells cs t f))∧∀j,j<par.length→w.cell? ⟨tb,o+j,none⟩=some (int (par.getD j 0:Nat))
theorem ParNew.par {w:World}{base:Nat}{a:Option Addr}{par:List Nat}(h:ParNew w base a par):ParAt w a par:=h.imp id (fun ⟨tb,o,e1,_,_,_,e3⟩=>⟨tb,o,e1,e3⟩)
theorem ParNew.keep {S:Nat→Prop}{w w':World}{base:Nat}{a:Option Addr}{par:List Nat}(h:ParNew w base a par)(t:Touch S w w')(hs:∀tb o,a=some ⟨tb,o,none⟩→¬S tb):ParNew w' base a par:=by
 rcases h with h | ⟨tb,o,rfl,h0,h1,h2,h⟩
 ·exact Or.inl h
 ·have hb:=t.block tb h1 (hs tb o rfl);exact Or.inr ⟨tb,o,rfl,h0,sO0 h1 t.size,by rw[hb];exact h2,fun j hj=>t.cell (p:=⟨tb,o+j,none⟩) (hs tb o rfl) (h j hj)⟩
theorem ParNew.calm {w w':World}{base:Nat}{a:Option Addr}{par:List Nat}(h:ParNew w base a par)(t:qA w w'):ParNew w' base a par:=h.keep t (fun _ _ _ f=>f)
theorem vP (w:World):(Instr.buildSlice 30 0 #[]).run Tryz.prog w=.ok (.slice (some ⟨w.heap.size,0,none⟩) 0 0) (w.alloc (.cells #[] 3)):=by kernel_rfl
theorem vU (w:World):(binOp .eql 30 (.slice none 0 0) (.slice none 0 0)).run Tryz.prog w=.ok (.bool true) w:=by kernel_rfl
set_option maxRecDepth 100000 in
set_option maxHeartbeats 400000 in
theorem bH0 {v:Value}{par:List Nat}(w:World)(hn:par.length≤5)(h:ParRow w v par):
  Calls Tryz.prog 97 #[v] w fun e w'=>∃a' c',e=.returned (.slice a' par.length c')∧ParNew w' w.heap.size a' par∧qA w w':=by
 rcases h with⟨rfl,rfl⟩ | ⟨b,o,cap,rfl,h⟩
 ·have hnil:=vU;go_enter Tryz.func97,Tryz.ntmps97
  go_wp2;go_ret
  exact⟨none,0,rfl,Or.inl rfl,cP0 _ _⟩
 ·have hnil:∀w,(binOp .eql 30 (.slice (some ⟨b,o,none⟩) par.length cap) (.slice none 0 0)).run Tryz.prog w=.ok (.bool false) w:=fun w=>Lib.run_eql_slice_nil w 30 3 _ _ _ _ _ Tryz.underlying30;have H:=uA h;clear h;have hbs:=vP;go_enter Tryz.func97,Tryz.ntmps97
  obtain⟨i,hi,hz,hs,hb⟩:=kW;have HI:=uA hi;have HZ:=uA hz;have HS:=uA hs;have HB:=uA hb;clear hi hz hs hb;go_wp2_with (at_builtin;refine wpList_append_own _ rfl _ _ 30 rfl w.heap.size 3 i (.int .i64 0) 1 8 Tryz.underlying30 (yA HI) (yA HZ) (yA HS) (yA HB) rfl (by decide) _ 0 [] rfl ?own ⟨b,o,none⟩ par.length cap ((List.range par.length).map fun j=>int (par.getD j 0:Nat)) rfl ?len ?news ?one ?h63 ?bytes ?base ?_)
  case own=>exact World.ownsRow_made w #[] 0 (qO0 _) (by unfold maxLen;omega) rfl
  case len=>simp
  case news=>
   intro j u hj;have hj':j<par.length:=by
    by_cases h':j<par.length
    ·exact h'
    ·rw[List.getElem?_eq_none (by simp;omega)] at hj;cases hj
   have:u=int (par.getD j 0:Nat):=by
    rw[List.getElem?_map,List.getElem?_range hj'] at hj;simp only[Option.map_some,Option.some.injEq] at hj;exact hj.symm
   subst this;rw[gP0];exact((cP0 (fun _=>False) w).alloc (.cells #[] 3)).cell (p:=⟨b,o+j,none⟩) id (yA H j hj')
  case one=>
   intro u hu;simp at hu
   obtain⟨j,_,rfl⟩:=hu;rfl
  case h63=>unfold maxLen;omega
  case bytes=>omega
  case base=>simp
  ·intro v' w1 hown hgrow _;obtain⟨hlen,hrow⟩:=hown;have ht:qA w w1:=⟨hgrow.os,hgrow.tape,hgrow.output,by have:=hgrow.size;simp at this;omega,fun k hk _=>(hgrow.block k (by simp;omega) (by simp[Value.ownBlock];omega)).trans (kP0 _ _ _ hk)⟩;have hv:∃a' c',v'=.slice a' par.length c'∧ParNew w1 w.heap.size a' par:=by
    rcases hrow with⟨rfl,h0⟩ | ⟨g,c',cur,rfl,hgb,hg,_,_,_,htake⟩
    ·exact⟨none,0,by rw[show par.length=0 from by omega],Or.inl (zP0 (by omega))⟩
    ·refine⟨some ⟨g,0,none⟩,c',rfl,Or.inr ⟨g,0,rfl,hgb,(tO0.1 hg).1,⟨_,_,_,hg⟩,fun j hj=>?_⟩⟩;rw[sP0,cell_of_row w1 g j cur 3 (0,0) hg];have e1:cur.toList[j]?=(cur.toList.take (par.length*1))[j]?:=by rw[uP0,if_pos (by omega)]
     rw[←Array.getElem?_toList,e1,htake];simp[hj]
   obtain⟨a',c',hv,hI⟩:=hv;rw[hv];have HI':=uA hI;clear hI hv hrow hlen hgrow H;go_wp2;go_ret;exact⟨a',c',rfl,yA HI',ht⟩
set_option maxRecDepth 100000 in
set_option maxHeartbeats 400000 in
theorem qZ {v:Value}{par:List Nat}(w:World)(T:Tree par)(h:ParRow w v par):
  Calls Tryz.prog 66 #[v] w fun e w'=>∃a' c',e=.returned (.tuple #[.agg #[.slice a' par.length c'],.bool true])∧ParNew w' w.heap.size a' par∧qA w w':=by
 have hn5:=T.1;have hv:∃a n c,v=.slice a n c∧n=par.length:=by
  rcases h with⟨rfl,rfl⟩ | ⟨b,o,cap,rfl,_⟩
  ·exact⟨none,0,0,rfl,rfl⟩
  ·exact⟨_,_,_,rfl,rfl⟩
 have ht:=(cP0 (fun _=>False) w).alloc (.cells #[.slice none 0 0] 88);have H:=uA (h.calm ht);have HT:=uA ht;clear h ht;obtain⟨a,n,c,rfl,rfl⟩:=hv;go_enter Tryz.func66,Tryz.ntmps66
 go_wp2;go_loop [12] (fun i=>∃k:Nat,k≤par.length∧i=.int .i64 k) (fun i=>par.length-(intOf i).toNat)
 case atStart=>exact⟨0,by omega,rfl⟩
 case round=>
  obtain⟨k,hk,rfl⟩:=hrel;by_cases hlt:k<par.length
  ·rcases yA H with⟨hp,_⟩ | ⟨b,o,cap,hv,hc⟩
   ·rw[hp] at hlt;simp at hlt
   ·cases hv;replace hc:=hc k hlt
    have h1:par.getD k 0≤k:=T.2 k hlt;have h0:((par.getD k 0:Nat):Int)≤k:=by omega
    obtain⟨z,hz⟩:∃z:Nat,z=par.getD k 0:=⟨_,rfl⟩;rw[←hz] at hc h0;clear h1 hz;go_wp2;go_round
    case rel=>exact⟨k+1,by omega,by go_num⟩
    case measure=>simp[intOf];omega
  ·go_wp2_with fail
   refine(bH0 _ hn5 (yA H)).mono ?_;rintro e w1 ⟨a',c',rfl,hI,hc1⟩
   have hbx:=hc1.box id;have e0:w1.cell? ⟨w.heap.size,0,none⟩=some (.slice none 0 0):=xA hbx 0;have fz:=bA hbx;have HI:Hid (ParNew (w1.setCell ⟨w.heap.size,0,none⟩ (.slice a' par.length c')) w.heap.size a' par):=by
    rcases hI with h | ⟨tb,o,rfl,h0,h1,h2,h3⟩
    ·exact Or.inl h
    ·rw[show (w.alloc (.cells #[.slice none 0 0] 88)).heap.size=w.heap.size+1 from by simp] at h0;have hne:tb≠w.heap.size:=by omega
     refine Or.inr ⟨tb,o,rfl,by omega,by simpa[World.setCell] using h1,?_,fun j hj=>(World.cell?_setCell_other w1 _ _ _ (by intro e;have:=congrArg Addr.block e;exact hne this.symm)).trans (h3 j hj)⟩;rw[zB _ _ hne];exact h2
   clear hI hbx;go_wp2;exact bodyPost_ret (v:=.tuple #[.agg #[.slice a' par.length c'],.bool true]) (by simp[results,Tryz.results66,go_sem,e0]) rfl ⟨a',c',rfl,yA HI,((yA HT).calm hc1).setCell (fun h=>absurd h (cO0 _)) _⟩
structure Chans (w:World)(base:Nat)(par:List Nat)(done:Nat→Nat→Prop)(ρ:zA)(qs:List Value):Prop where
 len:qs.length=36
 yes:∀x y,x<6→y<6→iB par x y=true→done x y→∃r,qs[x*6+y]?=some (.chan (some r))∧ρ r=some (.chan x y)∧w.heap[r]?=some (.chan 2000 #[] false 0 0 false)
 no:∀x y,x<6→y<6→¬(iB par x y=true∧done x y)→qs[x*6+y]?=some (.chan none)
 role:∀k,ρ k≠none→base≤k∧k<w.heap.size∧∃x y,ρ k=some (.chan x y)
 isc:∀k,ρ k≠none→w.heap[k]?=some (.chan 2000 #[] false 0 0 false)
 all:∀v,v∈qs→∃r,v=.chan r
theorem Chans.keep {S:Nat→Prop}{w w':World}{base:Nat}{par:List Nat}{done:Nat→Nat→Prop}{ρ:zA}{qs:List Value}(h:Chans w base par done ρ qs)(t:Touch S w w')(hs:∀k,ρ k≠none→¬S k):Chans w' base par done ρ qs:=by
 have hk:∀k,ρ k≠none→w'.heap[k]?=w.heap[k]?:=fun k hk=>t.block k (h.role k hk).2.1 (hs k hk);refine⟨h.len,fun x y hx hy hn hd=>?_,h.no,fun k hk'=>⟨(h.role k hk').1,sO0 (h.role k hk').2.1 t.size,(h.role k hk').2.2⟩,fun k hk'=>(hk k hk').trans (h.isc k hk'),h.all⟩;obtain⟨r,h1,h2,h3⟩:=h.yes x y hx hy hn hd;exact⟨r,h1,h2,(hk r (by rw[h2];simp)).trans h3⟩
theorem Chans.more {w:World}{base:Nat}{par:List Nat}{done done':Nat→Nat→Prop}{ρ:zA}{qs:List Value}(h:Chans w base par done ρ qs)(hd:∀x y,x<6→y<6→iB par x y=true→(done x y↔done' x y)):Chans w base par done' ρ qs:=
 ⟨h.len,fun x y hx hy hn hd'=>h.yes x y hx hy hn ((hd x y hx hy hn).2 hd'),fun x y hx hy hn=>h.no x y hx hy (fun ⟨h1,h2⟩=>hn ⟨h1,(hd x y hx hy h1).1 h2⟩),h.role,h.isc,h.all⟩
theorem Chans.put {w:World}{base:Nat}{par:List Nat}{done:Nat→Nat→Prop}{ρ:zA}{qs:List Value}(h:Chans w base par done ρ qs)(hb:base≤w.heap.size){x y:Nat}(hx:x<6)(hy:y<6)(hn:iB par x y=true)(hd:¬done x y):
  Chans (w.alloc (.chan 2000 #[] false 0 0 false)) base par (fun a b=>done a b∨(a=x∧b=y)) (iA ρ w.heap.size (.chan x y)) (qs.set (x*6+y) (.chan (some w.heap.size))):=by
 have hc:qA w (w.alloc (.chan 2000 #[] false 0 0 false)):=(cP0 _ _).alloc _;have hne:∀k,ρ k≠none→k≠w.heap.size:=fun k hk e=>by have:=(h.role k hk).2.1;omega
 have hro:∀k,k≠w.heap.size→iA ρ w.heap.size (.chan x y) k=ρ k:=fun k hk=>by simp[iA,hk]
 have hrn:iA ρ w.heap.size (.chan x y) w.heap.size=some (.chan x y):=by simp[iA]
 have hnew:(w.alloc (.chan 2000 #[] false 0 0 false)).heap[w.heap.size]?=some (.chan 2000 #[] false 0 0 false):=eP0 _ _;refine⟨by rw[List.length_set];exact h.len,fun a b ha hb' hn' hd'=>?_,fun a b ha hb' hn'=>?_,fun k hk=>?_,fun k hk=>?_,fun v hv=>?_⟩
 ·by_cases e:a=x∧b=y
  ·obtain⟨rfl,rfl⟩:=e;refine⟨w.heap.size,?_,hrn,hnew⟩;rw[List.getElem?_set_self (by rw[h.len];omega)]
  ·obtain⟨r,h1,h2,h3⟩:=h.yes a b ha hb' hn' (hd'.resolve_right e);have hr:ρ r≠none:=by rw[h2];simp
   refine⟨r,?_,(hro r (hne r hr)).trans h2,(hc.block r (h.role r hr).2.1 id).trans h3⟩;rw[List.getElem?_set_ne (by omega)];exact h1
 ·have e:¬(a=x∧b=y):=fun e=>hn' ⟨by obtain⟨rfl,rfl⟩:=e;exact hn,Or.inr e⟩;rw[List.getElem?_set_ne (by omega)];exact h.no a b ha hb' (fun ⟨h1,h2⟩=>hn' ⟨h1,Or.inl h2⟩)
 ·by_cases e:k=w.heap.size
  ·subst e;exact⟨hb,by simp,x,y,hrn⟩
  ·rw[hro k e] at hk ⊢;obtain⟨h1,h2,h3⟩:=h.role k hk;exact⟨h1,by simp;omega,h3⟩
 ·by_cases e:k=w.heap.size
  ·subst e;exact hnew
  ·rw[hro k e] at hk;exact(hc.block k (h.role k hk).2.1 id).trans (h.isc k hk)
 ·rcases List.mem_or_eq_of_mem_set hv with hv | rfl
  ·exact h.all v hv
  ·exact⟨_,rfl⟩
theorem gR (w:World):(Instr.makeChan 89 (.int .i64 2000)).run Tryz.prog w=.ok (.chan (some w.heap.size)) (w.alloc (.chan 2000 #[] false 0 0 false)):=by kernel_rfl
theorem eH {fn:Func}{p:Tmp}{ty:TypeId}(h:fn.results=#[.cell p ty])(tmps:Array Value)(w:World)(b o:Nat)(cs:List Value)(d:TypeDesc)
  (hp:tmps.getD p undef=.pointer (some ⟨b,o,none⟩)) (hr:w.rangeAt b o cs) (hu:Tryz.prog.underlying ty=some d) (hd:d.isRow=true) (hi:(Tryz.prog.info? ty).map (·.size)=some cs.length):
  (results fn tmps).run Tryz.prog w=.ok (.agg cs.toArray) w:=by
 have hp':tmps[p]?.getD undef=.pointer (some ⟨b,o,none⟩):=by simpa using hp
 simp[results,h,hp',asAddr,run_loadVar_mid w b o ty cs d hr hu hd hi]
theorem Touch.set1 (w:World)(b o:Nat)(v:Value):Touch (fun k=>k=b) w (w.setCell ⟨b,o,none⟩ v):=(cP0 (fun k=>k=b) w).setCell (p:=⟨b,o,none⟩) (fun _=>rfl) v
theorem Touch.setCells (b:Nat):∀(vs:List Value) (o:Nat) (w:World),Touch (fun k=>k=b) w (w.setCells b o vs)
 | [],_,w=>cP0 _ w
 | v::r,o,w=>(Touch.set1 w b o v).trans (Touch.setCells b r (o+1) (w.setCell ⟨b,o,none⟩ v))
structure LN (w wr:World)(a:Option Addr)(par:List Nat)(cap:Nat)(done:Nat→Nat→Prop):Prop where
 calm:qA w wr
 box:wr.heap[w.heap.size]?=some (.cells #[.slice a par.length cap] 88)
 res:wr.heap[w.heap.size+1]?=some (.cells (List.replicate 36 (Value.chan none)).toArray 93)
 made:∃ρ qs,wr.heap[w.heap.size+1+1]?=some (.cells (List.toArray qs) 93)∧Chans wr (w.heap.size+1+1+1) par done ρ qs
 big:w.heap.size+1+1+1≤wr.heap.size
theorem LN.go {w wr w2:World}{a:Option Addr}{par:List Nat}{cap:Nat}{done:Nat→Nat→Prop}(h:LN w wr a par cap done)(t:qA wr w2):LN w w2 a par cap done:=by
 obtain⟨ρ,qs,h1,h2⟩:=h.made;exact⟨h.calm.calm t,(t.block _ (tO0.1 h.box).1 id).trans h.box,(t.block _ (tO0.1 h.res).1 id).trans h.res,⟨ρ,qs,(t.block _ (tO0.1 h1).1 id).trans h1,h2.keep t (fun _ _ f=>f)⟩,mO0 h.big t.size⟩
theorem LN.more {w wr:World}{a:Option Addr}{par:List Nat}{cap:Nat}{done done':Nat→Nat→Prop}(h:LN w wr a par cap done)(hd:∀x y,x<6→y<6→iB par x y=true→(done x y↔done' x y)):LN w wr a par cap done':=by
 obtain⟨ρ,qs,h1,h2⟩:=h.made;exact⟨h.calm,h.box,h.res,⟨ρ,qs,h1,h2.more hd⟩,h.big⟩
theorem LN.put {w wr:World}{a:Option Addr}{par:List Nat}{cap:Nat}{done:Nat→Nat→Prop}(h:LN w wr a par cap done){x y:Nat}(hx:x<6)(hy:y<6)(hn:iB par x y=true)(hd:¬done x y):
  LN w ((wr.alloc (.chan 2000 #[] false 0 0 false)).setCell ⟨w.heap.size+1+1,x*6+y,none⟩ (.chan (some wr.heap.size))) a par cap (fun a b=>done a b∨(a=x∧b=y)):=by
 obtain⟨ρ,qs,h1,h2⟩:=h.made;have hbig:=h.big;have t0:qA wr (wr.alloc (.chan 2000 #[] false 0 0 false)):=(cP0 _ _).alloc _;have t:Touch (fun k=>k=w.heap.size+1+1) wr ((wr.alloc (.chan 2000 #[] false 0 0 false)).setCell ⟨w.heap.size+1+1,x*6+y,none⟩ (.chan (some wr.heap.size))):=((cP0 _ _).alloc _).trans (Touch.set1 _ _ _ _);refine⟨?_,(t.block _ (tO0.1 h.box).1 (by omega)).trans h.box,(t.block _ (tO0.1 h.res).1 (by omega)).trans h.res,⟨_,qs.set (x*6+y) (.chan (some wr.heap.size)),?_,(h2.put hbig hx hy hn hd).keep (Touch.set1 _ (w.heap.size+1+1) _ _) (fun k hk=>?_)⟩,mO0 hbig t.size⟩
 ·exact(h.calm.alloc _).setCell (p:=⟨w.heap.size+1+1,x*6+y,none⟩) (fun x=>by simp only at x;omega) _
 ·have h1':=(t0.block _ (tO0.1 h1).1 id).trans h1;rw[dP0 _ _ _ _ _ _ h1'];simp
 ·have:=((h2.put hbig hx hy hn hd).role k hk).1;omega
theorem uU (j:Nat)(h:j<36):(List.replicate 36 (Value.chan none))[j]?=some (.chan none):=by rw[List.getElem?_replicate,if_pos h]
set_option maxRecDepth 100000 in
set_option maxHeartbeats 400000 in
theorem fX (a:Option Addr)(cap:Nat)(par:List Nat)(w:World)(T:Tree par)(h:ParAt w a par):
  Calls Tryz.prog 67 #[.agg #[.slice a par.length cap]] w fun e w'=>∃qs:List Value,e=.returned (.agg qs.toArray)∧(∃ρ,Chans w' w.heap.size par (fun _ _=>True) ρ qs)∧qA w w':=by
 have hn:=T.1;have H:=uA h;clear h;go_enter Tryz.func67,Tryz.ntmps67
 go_wp2_with fail
 obtain⟨W,hW⟩:∃W,W=((w.alloc (.cells #[.slice a par.length cap] 88)).alloc (.cells (List.replicate 36 (Value.chan none)).toArray 93)).alloc (.cells (List.replicate 36 (Value.chan none)).toArray 93):=⟨_,rfl⟩;have hL:LN w W a par cap (fun x _=>x<0):=by
  rw[hW];refine⟨(((cP0 _ _).alloc _).alloc _).alloc _,?_,?_,⟨fun _=>none,List.replicate 36 (Value.chan none),?_,⟨rfl,fun x y hx hy _ hd=>by omega,fun x y hx hy _=>uU _ (by omega),fun k hk=>absurd rfl hk,fun k hk=>absurd rfl hk,fun v hv=>⟨_,List.eq_of_mem_replicate hv⟩⟩⟩,by simp⟩
  ·rw[kP0 _ _ _ (by simp;omega),kP0 _ _ _ (by simp)];exact eP0 _ _
  ·rw[kP0 _ _ _ (by simp)];exact heap_alloc2_new _ _ _
  ·rw[show w.heap.size+1+1=(w.alloc (.cells #[.slice a par.length cap] 88)).heap.size+1 from by simp];exact heap_alloc2_new _ _ _
 refine(jK a par.length cap _ hn).mono ?_;rintro e w1 ⟨rfl,hb1⟩
 have hL1:LN w w1 a par cap (fun x _=>x<0):=LN.go (wr:=W) hL (by rw[hW];exact hb1);have HL:=uA hL1;clear hL1 hL hb1 hW;go_wp2_with fail
 go_loopw [8] (fun i wr=>∃k:Nat,k≤par.length+1∧i=.int .i64 k∧LN w wr a par cap (fun x _=>x<k)) (fun i _=>par.length+1-(intOf i).toNat)
 case atStart=>exact⟨0,by omega,rfl,yA HL⟩
 case round=>
  obtain⟨k,hk,rfl,hL⟩:=hrel;have e0:wr.cell? ⟨w.heap.size,0,none⟩=some (.slice a par.length cap):=xA hL.box 0;have HL1:=uA hL;clear HL hL;by_cases hlt:k<par.length+1
  ·go_wp2_with fail
   refine(jK a par.length cap _ hn).mono ?_;rintro e w2 ⟨rfl,hb2⟩
   have HL2:=uA (((yA HL1).go hb2).more (done':=fun x y=>x<k∨(x=k∧y<0)) (fun x y _ _ _=>by omega));clear e0 HL1 hb2;go_wp2_with fail
   go_loopw [13] (fun i wr=>∃q:Nat,q≤par.length+1∧i=.int .i64 q∧LN w wr a par cap (fun x y=>x<k∨(x=k∧y<q))) (fun i _=>par.length+1-(intOf i).toNat)
   case atStart=>exact⟨0,by omega,rfl,yA HL2⟩
   case round=>
    obtain⟨q,hq,rfl,hL⟩:=hrel;have e0:wr.cell? ⟨w.heap.size,0,none⟩=some (.slice a par.length cap):=xA hL.box 0;have HL3:=uA hL;clear HL2 hL;by_cases hqt:q<par.length+1
    ·have HI:=uA ((yA H).calm (yA HL3).calm);cases hr:iB par k q with
     | false=>
      go_wp2_with fail
      refine(pD a cap par k q _ hn (yA HI)).mono ?_;rintro e w3 ⟨rfl,ht3⟩
      have HL4:=uA ((yA HL3).go ht3);clear HL3 HI ht3 e0;rw[hr];have HR:=uA hr;clear hr;go_wp2;go_roundw
      case rel=>exact⟨q+1,by omega,by go_num,(yA HL4).more (fun x y _ _ hxy=>by
       by_cases e:x=k∧y=q
       ·obtain⟨rfl,rfl⟩:=e;rw[yA HR] at hxy;cases hxy
       ·omega)⟩
      case measure=>simp[intOf];omega
     | true=>
      go_wp2_with fail
      refine(pD a cap par k q _ hn (yA HI)).mono ?_;rintro e w3 ⟨rfl,ht3⟩
      have HL4:=uA ((yA HL3).go ht3);clear HL3 HI ht3 e0;rw[hr];have HR:=uA hr;clear hr;obtain⟨v,hv⟩:∃v,w3.cell? ⟨w.heap.size+1+1,k*6+q,none⟩=some v:=by
       obtain⟨ρ,qs,h1,h2⟩:=(yA HL4).made;rw[xA h1];have:=h2.len;exact⟨_,fO0 (by simp;omega)⟩
      have hfz:∀j,w3.frozen? ⟨w.heap.size+1+1,j,none⟩=false:=fun j=>by
       obtain⟨ρ,qs,h1,_⟩:=(yA HL4).made;exact bA h1 j
      have hmk:=gR;have hlt3:w.heap.size+1+1<w3.heap.size:=fP0 hv;have hk6:(k:Int)<6:=by omega
      have hq6:(q:Int)<6:=by omega
      go_wp2;go_region
      all_goals go_wp2
      all_goals go_roundw
      case rel=>exact⟨q+1,by omega,by go_num,(LN.go (by have:=(yA HL4).put (x:=k) (y:=q) (by omega) (by omega) (yA HR) (by omega);rwa [World.setCell_alloc_past _ _ _ _ hlt3] at this) ((cP0 _ _).drew)).more (fun x y _ _ _=>by omega)⟩
      case measure=>simp[intOf];omega
    ·go_wp2;go_roundw
     case rel=>exact⟨k+1,by omega,by go_num,(yA HL3).more (fun x y _ _ hxy=>by have:=(bB T hxy).2;simp only[size] at this;omega)⟩
     case measure=>simp[intOf];omega
  ·obtain⟨ρ,qs,hqs,hch⟩:=(yA HL1).made;have hl36:=hch.len;have hr:wr.rangeAt (w.heap.size+1+1) 0 qs:=fun j v hj=>by rw[xA hqs,sP0];simpa using hj
   have hone:∀v,v∈qs→v.oneCell'=true:=fun v hv=>by obtain⟨r,rfl⟩:=hch.all v hv;rfl
   have hth:wr.there (w.heap.size+1) 0 qs.toArray.size:=fun j hj=>by
    have hj':j<36:=by simpa[hl36] using hj
    refine⟨?_,bA (yA HL1).res _⟩;rw[xA (yA HL1).res];simp;omega
   have hT:Touch (fun k=>k=w.heap.size+1) wr (wr.setCells (w.heap.size+1) 0 qs):=Touch.setCells _ _ _ _;have hI:Chans (wr.setCells (w.heap.size+1) 0 qs) (w.heap.size+1+1+1) par (fun x _=>x<k) ρ qs:=hch.keep hT (fun k hk e=>by have:=(hch.role k hk).1;omega);have hI2:Chans (wr.setCells (w.heap.size+1) 0 qs) w.heap.size par (fun _ _=>True) ρ qs:=by
    refine⟨hI.len,fun x y hx hy hn _=>hI.yes x y hx hy hn ?_,fun x y hx hy hn=>hI.no x y hx hy (fun ⟨h1,_⟩=>hn ⟨h1,trivial⟩),fun k hk=>⟨?_,(hI.role k hk).2⟩,hI.isc,hI.all⟩
    ·have:=(bB T hn).1;simp only[size] at this;omega
    ·have:=(hI.role k hk).1;omega
   have hC:qA w (wr.setCells (w.heap.size+1) 0 qs):=⟨hT.os.trans (yA HL1).calm.os,hT.tape.trans (yA HL1).calm.tape,hT.output.trans (yA HL1).calm.output,mO0 (yA HL1).calm.size hT.size,
    fun k hk _=>(hT.block k (sO0 hk (yA HL1).calm.size) (by omega)).trans ((yA HL1).calm.block k hk id)⟩
   have hR:=World.rangeAt_setCells_same wr (w.heap.size+1) 0 qs (by simpa using hth);have i86:(Tryz.prog.info? 93).map (·.size)=some qs.length:=by rw[hl36];kernel_rfl
   have HR:=uA hR;have HI:=uA hI2;have HC:=uA hC;have H86:=uA i86;clear hR hI hI2 hC hch hqs hT i86 e0
   go_wp2_with (first
    | refine wpList_load_mid rfl 93 _ rfl (w.heap.size+1+1) 0 rfl qs _ hr Tryz.underlying93 rfl (yA H86) ?_
    | refine wpList_store_mid rfl 93 _ _ rfl (w.heap.size+1) 0 qs.toArray rfl rfl hth (by simpa using yA H86) (all_oneCell_toArray hone) ?_)
   exact bodyPost_ret (v:=.agg qs.toArray) (eH Tryz.results67 _ _ (w.heap.size+1) 0 qs _ rfl (yA HR) Tryz.underlying93 rfl (yA H86)) rfl ⟨qs,rfl,⟨ρ,yA HI⟩,yA HC⟩
end Go.Proofs.YtodfcpblcpogiaaGreat

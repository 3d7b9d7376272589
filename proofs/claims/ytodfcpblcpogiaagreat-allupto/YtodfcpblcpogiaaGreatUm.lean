import Derived.Test.YtodfcpblcpogiaaGreatUl
import Derived.Test.YtodfcpblcpogiaaGreatUgc
namespace Go.Proofs.YtodfcpblcpogiaaGreat
open Go.RowKit
theorem OwnAt.begun {w:World}{g n sz:Nat}{mark:Nat→Value}{xs:List Value}(hs:∀j,j<(n+2)*sz→(w.cell? ⟨g,j,none⟩).isSome=true)(hf:∀j,w.frozen? ⟨g,j,none⟩=false)(hx:xs.length=n*sz):
  OwnAt (((w.setCells g 0 xs).setCells g (n*sz) (marks sz mark)).setCells g ((n+1)*sz) (marks sz mark)) g n 0 sz mark xs:=by
 have h2:(n+2)*sz=n*sz+2*sz:=by rw[Nat.add_mul]
 have h1:(n+1)*sz=n*sz+sz:=by rw[Nat.add_mul,Nat.one_mul]
 have hsome:∀j,j<(n+2)*sz→((w.setCells g 0 xs).cell? ⟨g,j,none⟩).isSome=true:=fun j hj=>World.isSome_setCells g _ _ w _ (hs j hj);refine⟨fun j r hj hr=>?_,fun j=>by rw[World.frozen?_setCells,World.frozen?_setCells,World.frozen?_setCells];exact hf j⟩;by_cases e1:j=n+1
 ·subst e1
  rw[if_pos (by omega),World.cell?_setCells_in g (marks sz mark) ((n+1)*sz) _ (fun q hq=>by
   rw[oD] at hq
   exact World.isSome_setCells g _ _ _ _ (hsome _ (by omega))) r (by rw[oD];exact hr)]
  simp[marks]
 ·rw[iP0 g (marks sz mark) _ _ _ (fun _ _=>by
   left
   have:=dH (sz:=sz) (show j<n+1 by omega);show j*sz+r<(n+1)*sz
   omega)]
  by_cases e2:j=n
  ·subst e2;rw[if_pos (by omega),World.cell?_setCells_in g (marks sz mark) (j*sz) _ (fun q hq=>by rw[oD] at hq;exact hsome _ (by omega)) r (by rw[oD];exact hr)];simp[marks]
  ·have hjn:j<n:=by omega
   have hpj:=dH (sz:=sz) hjn
   rw[if_neg (by omega),iP0 g (marks sz mark) _ _ _ (fun _ _=>by
    left
    show j*sz+r<n*sz
    omega)]
   have:=World.cell?_setCells_in g xs 0 w (fun q hq=>by rw[sP0];exact hs q (by omega)) (j*sz+r) (by omega);rw[sP0] at this;rw[this,jO0,pO0 (by omega)];rfl
theorem OwnAt.tests {w:World}{g:Nat}{l:List Tst}(h:OwnAt w g l.length 0 3 rL (l.flatMap Tst.enc)):TestsAt w (some ⟨g,0,none⟩) l:=by
 refine Or.inr ⟨g,0,rfl,fun j v hj=>?_⟩;have hjl:j<l.length*3:=by have:=(rO0.1 hj).1;rw[pO] at this;exact this
 have:=h.cell (j/3) (j%3) (by omega) (by omega);rw[if_neg (by omega),show j/3*3+j%3=j from by omega,jO0,hj] at this;rw[sP0];exact this
theorem StF.bel {B:Nat}{kp:Nat→Prop}{wk w0 w:World}{bw:Nat}{nets:List Tw}{p g:Nat}(h:StF B kp wk w0 bw nets p g w):Below B w0 w∧∀k,kp k→w.heap[k]?=wk.heap[k]?:=by
 obtain⟨own,D,wb,wc,hD,hn,h4,h6,be,h0,hB,hl⟩:=h;exact⟨be,fun k hk=>(wc.kept k hk).2⟩
set_option maxRecDepth 100000 in
set_option maxHeartbeats 4000000 in
theorem xU {B:Nat}{kp:Nat→Prop}{wk w0 w:World}{bw:Nat}{nets:List Tw}{p:Nat}(h:St B kp wk w0 bw nets p w)(hp:p≤100000000){i:Nat}{t:Tw}(hi:nets[i]?=some t)(hst:t.τ=t.σ)(c:Int){l:List Tst}{a:Option Addr}(cap:Nat)
    (hT:∀w',Below B w0 w'→(∀k,kp k→w'.heap[k]?=wk.heap[k]?)→TestsAt w' a l) (hn:l.length≤1073741824):
    Calls Tryz.prog 53 #[.pointer (some ⟨bw,0,none⟩),.agg #[.pointer (some ⟨t.bx,0,none⟩),.pointer (some ⟨t.br,0,none⟩)],int c,.slice a l.length cap] w fun e w'=>e=.returned (.bool true)∧St B kp wk w0 bw (nets.set i {t with σ:=t.σ.sub c l,τ:=t.σ.sub c l}) (p+3) w':=by
  obtain⟨n,hnl⟩:∃n,n=l.length:=⟨_,rfl⟩;obtain⟨xs,hxs⟩:∃xs,xs=l.flatMap Tst.enc:=⟨_,rfl⟩;have hxl:xs.length=n*3:=by rw[hxs,pO,hnl]
  obtain⟨V1,hV1⟩:∃V,w.alloc (.cells #[.pointer (some ⟨t.bx,0,none⟩),.pointer (some ⟨t.br,0,none⟩)] 45)=V:=⟨_,rfl⟩;obtain⟨V2,hV2⟩:∃V,V1.alloc (.cells #[int 0,int 1,int (-77000000)] 47)=V:=⟨_,rfl⟩;obtain⟨V3,hV3⟩:∃V,V2.alloc (.cells (madeCells #[int 0,int 0,int 0] ((n+2)*3)) 47)=V:=⟨_,rfl⟩;have hs1:V1.heap.size=w.heap.size+1:=by rw[←hV1];simp
  have hs2:V2.heap.size=V1.heap.size+1:=by rw[←hV2];simp
  have hs3:V3.heap.size=V2.heap.size+1:=by rw[←hV3];simp
  have c1:qA w V1:=by rw[←hV1];exact(cP0 _ _).alloc _
  have c2:qA V1 V2:=by rw[←hV2];exact(cP0 _ _).alloc _
  have c3:qA V2 V3:=by rw[←hV3];exact(cP0 _ _).alloc _
  have b1:V3.heap[w.heap.size]?=some (.cells #[.pointer (some ⟨t.bx,0,none⟩),.pointer (some ⟨t.br,0,none⟩)] 45):=((c2.calm c3).block _ (by omega) id).trans (by rw[←hV1];exact eP0 _ _);have b2:V3.heap[V1.heap.size]?=some (.cells #[int 0,int 1,int (-77000000)] 47):=(c3.block _ (by omega) id).trans (by rw[←hV2];exact eP0 _ _);have b3:V3.heap[V2.heap.size]?=some (.cells (madeCells #[int 0,int 0,int 0] ((n+2)*3)) 47):=by rw[←hV3];exact eP0 _ _
  have hsome:∀j,j<(n+2)*3→(V3.cell? ⟨V2.heap.size,j,none⟩).isSome=true:=fun j hj=>by rw[xA b3,fO0 (by rw[size_madeCells];exact hj)];rfl
  have hT3:TestsAt V3 a l:=(hT w h.bel (fun k hk=>h.kept hk)).calm ((c1.calm c2).calm c3);have hrun:∀ty,(Builtin.copy_ #[36,36] ty #[.slice (some ⟨V2.heap.size,0,none⟩) (n+2) (n+2),.slice a n cap]).run Tryz.prog V3=.ok (goInt n) (V3.setCells V2.heap.size 0 xs):=fun ty=>by
    rcases hT3 with hnil | ⟨tb,o,rfl,hc⟩
    · subst hnil
      have h0:n=0:=hnl;subst h0;rw[hxs];exact iL V3 ty _ _ _ _ _ _
    · have:=oV V3 ty V2.heap.size 0 (n+2) (n+2) ⟨tb,o,none⟩ n cap xs (by rw[hxl,show Nat.min n (n+2)=n from Nat.min_eq_left (by omega)]) (fun j v hj=>by rw[gP0];exact hc j v (by rw[←hxs];exact hj)) (fun j hj=>by rw[sP0];exact hsome j (by omega)) (fun j _=>bA b3 _) (by rw[hxs];exact pB0 l)
      rw[show Nat.min n (n+2)=n from Nat.min_eq_left (by omega)] at this;exact this
  obtain⟨t47,i47,z47,s47,y47⟩:=uE0;have hmk:(Instr.makeSlice 36 (.int .i64 ((n:Int)+2)) (.int .i64 ((n:Int)+2))).run Tryz.prog V2=.ok (.slice (some ⟨V2.heap.size,0,none⟩) (n+2) (n+2)) V3:=by
    have:=run_make (P:=Tryz.prog) V2 36 47 t47 _ Tryz.underlying36 i47 z47 .i64 .i64 ((n:Int)+2) ((n:Int)+2) (by omega) (by omega) (by rw[y47];omega) (by omega);rw[this,s47];have e:((n:Int)+2).toNat=n+2:=by omega
    rw[e,←hV3];rfl
  obtain⟨V4,hV4⟩:∃V,V3.setCells V2.heap.size 0 xs=V:=⟨_,rfl⟩;rw[hV4] at hrun;have T4:Touch (fun k=>k=V2.heap.size) V3 V4:=by rw[←hV4];exact gC _ _ _ _
  have hx3:Hid (OwnAt ((V4.setCells V2.heap.size (n*3) (marks 3 rL)).setCells V2.heap.size ((n+1)*3) (marks 3 rL)) V2.heap.size n 0 3 rL xs):=uA (by rw[←hV4];exact OwnAt.begun hsome (bA b3) hxl);have hsome4:∀j,j<(n+2)*3→∃u,V4.cell? ⟨V2.heap.size,j,none⟩=some u:=fun j hj=>Option.isSome_iff_exists.1 (by rw[←hV4];exact World.isSome_setCells _ _ _ _ _ (hsome j hj));have hz4:∀j,V4.frozen? ⟨V2.heap.size,j,none⟩=false:=fun j=>by rw[←hV4,World.frozen?_setCells];exact bA b3 j
  have b24:V4.heap[V1.heap.size]?=some (.cells #[int 0,int 1,int (-77000000)] 47):=(T4.block _ (by omega) (by omega)).trans b2;have b14:V4.heap[w.heap.size]?=some (.cells #[.pointer (some ⟨t.bx,0,none⟩),.pointer (some ⟨t.br,0,none⟩)] 45):=(T4.block _ (by omega) (by omega)).trans b1;have C4:Hid (qA w V4):=uA (((c1.calm c2).calm c3).fresh T4 (fun k hk e=>by omega));have H:=uA h;have HI:=uA hi;have HST:=uA hst;have HTT:=uA hT;have HNL:=uA hnl;have HXS:=uA hxs;have HB2:=uA b24;have HB1:=uA b14;have hni:(n:Int)≤1073741824:=by omega
  have hn0:(0:Int)≤(n:Int):=by omega
  have hn1:(0:Int)≤(n:Int)+1:=by omega
  have hn2:(n:Int)<(n:Int)+2:=by omega
  have hn3:(n:Int)≤(n:Int)+2:=by omega
  have hn4:(n:Int)+1<(n:Int)+2:=by omega
  have hnw:IntKind.i64.wrap ((n:Int)+1)=(n:Int)+1:=by rw[IntKind.wrap_i64];omega
  have hnt:((n:Int)+1).toNat=n+1:=by omega
  rw[←hnl];have m0:V4.cell? ⟨V1.heap.size,0,none⟩=some (int 0):=xA b24 0;have m1:V4.cell? ⟨V1.heap.size,1,none⟩=some (int 1):=xA b24 1;have m2:V4.cell? ⟨V1.heap.size,2,none⟩=some (int (-77000000)):=xA b24 2;obtain⟨u0,q0⟩:=hsome4 (n*3) (by omega);obtain⟨u1,q1⟩:=hsome4 (n*3+1) (by omega);obtain⟨u2,q2⟩:=hsome4 (n*3+2) (by omega);obtain⟨u3,q3⟩:=hsome4 ((n+1)*3) (by omega);obtain⟨u4,q4⟩:=hsome4 ((n+1)*3+1) (by omega);obtain⟨u5,q5⟩:=hsome4 ((n+1)*3+2) (by omega);have hl4:V2.heap.size<V4.heap.size:=by have:=T4.size;omega
  have hl41:V1.heap.size<V4.heap.size:=by omega
  have hne:V1.heap.size≠V2.heap.size:=by omega
  rw[hs1] at hs2;rw[hs2] at hrun hmk hx3 hz4 q0 q1 q2 q3 q4 q5 hl4 hne;rw[hs1] at m0 m1 m2 HB2 hl41 hne;clear h hi hst hT hs3 c1 c2 c3 b1 b2 b3 hsome hT3 T4 hsome4 b24 b14 i47 z47 s47 y47 hV4 hxl hnl hxs hn;go_enter Tryz.func53,Tryz.ntmps53
  go_upto_region 7 with fail
  obtain⟨V6,hV6⟩:∃V,V=(((((V4.setCell ⟨w.heap.size+1+1,n*3,none⟩ (Value.int IntKind.i64 0)).setCell ⟨w.heap.size+1+1,n*3+1,none⟩ (Value.int IntKind.i64 1)).setCell ⟨w.heap.size+1+1,n*3+2,none⟩ (Value.int IntKind.i64 (-77000000))).setCell ⟨w.heap.size+1+1,(n+1)*3,none⟩ (Value.int IntKind.i64 0)).setCell ⟨w.heap.size+1+1,(n+1)*3+1,none⟩ (Value.int IntKind.i64 1)).setCell ⟨w.heap.size+1+1,(n+1)*3+2,none⟩ (Value.int IntKind.i64 (-77000000)):=⟨_,rfl⟩;rw[←hV6];have hV6':V6=(V4.setCells (w.heap.size+1+1) (n*3) (marks 3 rL)).setCells (w.heap.size+1+1) ((n+1)*3) (marks 3 rL):=hV6;have T6:Touch (fun k=>k=w.heap.size+1+1) V4 V6:=by rw[hV6'];exact(gC _ _ _ _).trans (gC _ _ _ _)
  have HOWN:Hid (OwnAt V6 (w.heap.size+1+1) n 0 3 rL xs):=uA (by rw[hV6'];exact yA hx3);have hB1:V6.heap[w.heap.size]?=some (.cells #[.pointer (some ⟨t.bx,0,none⟩),.pointer (some ⟨t.br,0,none⟩)] 45):=(T6.block _ (by omega) (by omega)).trans (yA HB1);have hB2:V6.heap[w.heap.size+1]?=some (.cells #[int 0,int 1,int (-77000000)] 47):=(T6.block _ hl41 (by omega)).trans (yA HB2);have C6:qA w V6:=(yA C4).fresh T6 (fun k hk e=>by omega);have hl6:w.heap.size+1+1<V6.heap.size:=sO0 hl4 T6.size;have H6:=uA ((yA H).guard C6 (fun k=>w.heap.size≤k∧k≤w.heap.size+1+1) (fun g hg=>⟨hg.1,by omega⟩))
  have HKP:Hid (∀k,kp k→V6.heap[k]?=wk.heap[k]?∧k<w.heap.size):=uA (fun k hk=>⟨((yA H).calm C6).kept hk,by
    have h9:=yA H;obtain⟨own,D,wb,wc,_⟩:=h9
    exact wb.lt (by rw[(wc.kept k hk).1];exact fA (by decide))⟩)
  have HTS:=uA ((yA HNL)▸(yA HXS)▸yA HOWN:OwnAt V6 (w.heap.size+1+1) l.length 0 3 rL (l.flatMap Tst.enc)).tests;have e0:V6.cell? ⟨w.heap.size,0,none⟩=some (.pointer (some ⟨t.bx,0,none⟩)):=xA hB1 0;have HBX:=uA hB1;have HMX:=uA hB2;clear hV6 hV6' T6 hB1 hB2 C6 C4 H HB1 HB2 hx3 hz4 q0 q1 q2 q3 q4 q5 m0 m1 m2 hrun hmk hV1 hV2 hV3 hl4 hl41 hs1 hs2;obtain⟨K,hK⟩:∃K:Int,K=(if t.σ.subE c l=0 then ((t.σ.slot c.toNat:Nat):Int) else 0):=⟨_,rfl⟩;obtain⟨E,hE⟩:∃E,E=t.σ.subE c l:=⟨_,rfl⟩
  have HSX:Hid (∀wq,qA V6 wq→Calls Tryz.prog 85 #[.pointer (some ⟨t.bx,0,none⟩),int c,.slice (some ⟨w.heap.size+1+1,0,none⟩) n (n+2)] wq fun e w'=>e=.returned (.tuple #[int K,int E])∧St B (fun k=>kp k∨(w.heap.size≤k∧k≤w.heap.size+1+1)) V6 w0 bw (nets.set i {t with σ:=t.σ.sub c l}) (p+1) w'):=uA (fun wq cq=>by
    have:=kZ ((yA H6).calm cq) (yA HI) (by omega) c ((yA HTS).calm cq) (n+2);rw[←yA HNL,←hK,←hE] at this
    exact this)
  have HSR:Hid (∀w1,St B (fun k=>kp k∨(w.heap.size≤k∧k≤w.heap.size+1+1)) V6 w0 bw (nets.set i {t with σ:=t.σ.sub c l}) (p+1) w1→Calls Tryz.prog 86 #[.pointer (some ⟨t.br,0,none⟩),int c,.slice a n cap] w1 fun e w'=>e=.returned (.tuple #[int K,int E])∧St B (fun k=>kp k∨(w.heap.size≤k∧k≤w.heap.size+1+1)) V6 w0 bw (nets.set i {t with σ:=t.σ.sub c l,τ:=t.σ.sub c l}) (p+2) w'):=uA (fun w1 h1=>by
    have:=jZ h1 (pI (yA HI)) (by omega) c (yA HTT w1 h1.bel (fun k hk=>(h1.kept (Or.inl hk)).trans (yA HKP k hk).1)) cap;simp only[yA HST,uG] at this;rw[←yA HNL,←hK,←hE] at this
    exact this)
  clear hK hE H6 HTS;go_cut [12,13] (fun vk ve wx=>vk=int K∧ve=int E∧St B (fun k=>kp k∨(w.heap.size≤k∧k≤w.heap.size+1+1)) V6 w0 bw (nets.set i {t with σ:=t.σ.sub c l}) (p+1) wx)
  case first=>
    go_region_held3 (fun w'=>w'.cell? ⟨w.heap.size,0,none⟩=some (.pointer (some ⟨t.bx,0,none⟩)))
      (first | exact k0 | go_keep)
      (first | (go_at_call 85;refine(yA HSX _ ((cP0 _ _).drew)).mono ?_;rintro e w1 ⟨rfl,h1⟩
                have k0:w1.cell? ⟨w.heap.size,0,none⟩=some (.pointer (some ⟨t.bx,0,none⟩)):=xA ((h1.kept (Or.inr ⟨qO0 _,by omega⟩)).trans (yA HBX)) 0;have H1:=uA h1
                clear h1))
    all_goals go_wp2
    all_goals go_meet
    all_goals exact⟨rfl,rfl,yA H1⟩
  case rest=>
    obtain⟨rfl,rfl,h1⟩:=hcut;have e1:wc.cell? ⟨w.heap.size,1,none⟩=some (.pointer (some ⟨t.br,0,none⟩)):=xA ((h1.kept (Or.inr ⟨qO0 _,by omega⟩)).trans (yA HBX)) 1;have H1:=uA h1;clear h1 HSX e0;go_wp2_with fail
    refine(yA HSR _ (yA H1)).mono ?_;rintro e w2 ⟨rfl,h2⟩
    have hb2:=(h2.kept (k:=w.heap.size+1) (Or.inr ⟨by omega,by omega⟩)).trans (yA HMX);have hbg:=h2.kept (k:=w.heap.size+1+1) (Or.inr ⟨by omega,by omega⟩);have ho2:OwnAt w2 (w.heap.size+1+1) n 0 3 rL xs:=⟨fun j r hj hr=>(lP0 (w:=V6) (a:=⟨w.heap.size+1+1,j*3+r,none⟩) hbg).trans ((yA HOWN).cell j r hj hr),fun j=>(nP0 (w:=V6) (a:=⟨w.heap.size+1+1,j,none⟩) hbg).trans ((yA HOWN).fr j)⟩
    have hF:StF B (fun k=>kp k∨(w.heap.size≤k∧k≤w.heap.size+1)) V6 w0 bw (nets.set i {t with σ:=t.σ.sub c l,τ:=t.σ.sub c l}) (p+2) (w.heap.size+1+1) w2:=h2.release (Or.inr ⟨by omega,by omega⟩) (fun k hk=>by
      rcases hk with hk | hk
      · exact⟨Or.inl hk,by have:=(yA HKP k hk).2;omega⟩
      · exact⟨Or.inr ⟨hk.1,by omega⟩,by omega⟩) (fun k hk=>rfl)
    have HO2:=uA ho2;have HF2:=uA hF;have m0:w2.cell? ⟨w.heap.size+1,0,none⟩=some (int 0):=xA hb2 0;have m1:w2.cell? ⟨w.heap.size+1,1,none⟩=some (int 1):=xA hb2 1;have m2:w2.cell? ⟨w.heap.size+1,2,none⟩=some (int (-77000000)):=xA hb2 2;have q0:w2.cell? ⟨w.heap.size+1+1,n*3,none⟩=some (int 0):=by have:=ho2.cell n 0 (by omega) (by decide);rw[if_pos (by omega)] at this;exact this
    have q1:w2.cell? ⟨w.heap.size+1+1,n*3+1,none⟩=some (int 1):=by have:=ho2.cell n 1 (by omega) (by decide);rw[if_pos (by omega)] at this;exact this
    have q2:w2.cell? ⟨w.heap.size+1+1,n*3+2,none⟩=some (int (-77000000)):=by have:=ho2.cell n 2 (by omega) (by decide);rw[if_pos (by omega)] at this;exact this
    have q3:w2.cell? ⟨w.heap.size+1+1,(n+1)*3,none⟩=some (int 0):=by have:=ho2.cell (n+1) 0 (by omega) (by decide);rw[if_pos (by omega)] at this;exact this
    have q4:w2.cell? ⟨w.heap.size+1+1,(n+1)*3+1,none⟩=some (int 1):=by have:=ho2.cell (n+1) 1 (by omega) (by decide);rw[if_pos (by omega)] at this;exact this
    have q5:w2.cell? ⟨w.heap.size+1+1,(n+1)*3+2,none⟩=some (int (-77000000)):=by have:=ho2.cell (n+1) 2 (by omega) (by decide);rw[if_pos (by omega)] at this;exact this
    have hl1:w.heap.size+1<w2.heap.size:=fP0 m0;have hl2:w.heap.size+1+1<w2.heap.size:=fP0 q0;clear h2 hb2 hbg ho2 hF H1 e1 HSR HOWN;go_upto_region 9 with fail
    go_cut [16] (fun ok wx=>ok=.bool true∧qA w2 wx)
    case first=>
      go_region_held3 (fun w'=>w'.cell? ⟨w.heap.size+1,0,none⟩=some (int 0)∧w'.cell? ⟨w.heap.size+1,1,none⟩=some (int 1)∧w'.cell? ⟨w.heap.size+1,2,none⟩=some (int (-77000000))∧w'.cell? ⟨w.heap.size+1+1,n*3,none⟩=some (int 0)∧w'.cell? ⟨w.heap.size+1+1,n*3+1,none⟩=some (int 1)∧w'.cell? ⟨w.heap.size+1+1,n*3+2,none⟩=some (int (-77000000))∧w'.cell? ⟨w.heap.size+1+1,(n+1)*3,none⟩=some (int 0)∧w'.cell? ⟨w.heap.size+1+1,(n+1)*3+1,none⟩=some (int 1)∧w'.cell? ⟨w.heap.size+1+1,(n+1)*3+2,none⟩=some (int (-77000000)))
        (go_keep)
        (first | (go_at_call 14;refine(kE _ _).mono ?_;rintro e w' ⟨rfl,rfl⟩))
      all_goals go_wp2
      all_goals go_meet
      all_goals exact⟨rfl,(cP0 _ _).drew⟩
    case rest=>
      obtain⟨rfl,hc2⟩:=hcut;have HFC:=uA ((yA HF2).calm hc2);have HOC:=uA ((yA HO2).calm (by decide) hc2);clear hc2 HF2 HO2 m0 m1 m2 q0 q1 q2 q3 q4 q5 hl1 hl2;go_wp2;go_loopw [16,17] (fun ok q wr=>∃k:Nat,k≤n∧ok=.bool true∧q=.int .i64 k∧StF B (fun k=>kp k∨(w.heap.size≤k∧k≤w.heap.size+1)) V6 w0 bw (nets.set i {t with σ:=t.σ.sub c l,τ:=t.σ.sub c l}) (p+2) (w.heap.size+1+1) wr∧OwnAt wr (w.heap.size+1+1) n k 3 rL xs) (fun _ q _=>n-(intOf q).toNat)
      case atStart=>exact⟨0,by omega,rfl,rfl,yA HFC,yA HOC⟩
      case round=>
        obtain⟨k,hk,rfl,rfl,hF,hO⟩:=hrel;have HF:=uA hF;have HO:=uA hO;clear hF hO HFC HOC;have hb2:=((yA HF).bel.2 (w.heap.size+1) (Or.inr ⟨by omega,by omega⟩)).trans (yA HMX);by_cases hlt:k<n
        · have hki:(k:Int)<n:=by omega
          have hki2:(k:Int)<(n:Int)+2:=by omega
          have hkl:k<l.length:=by have:=yA HNL;omega
          obtain⟨x0,x1,x2⟩:=pF l k hkl;rcases yA HTT wr (yA HF).bel.1 (fun j hj=>((yA HF).bel.2 j (Or.inl hj)).trans (yA HKP j hj).1) with h0 | ⟨tb,o,ha,hcells⟩
          · rw[h0] at hkl;simp at hkl
          · subst ha
            have l0:=hcells _ _ x0;have l1:=hcells _ _ x1;have l2:=hcells _ _ x2;rw[←rP0] at l1 l2;have o0:wr.cell? ⟨w.heap.size+1+1,k*3,none⟩=some (int (sA l k).fld):=by
              have h9:=(yA HO).cell k 0 (by omega) (by decide);rw[if_neg (by omega),yA HXS,jO0,show k*3+0=k*3 from rfl,x0] at h9;exact h9
            have o1:wr.cell? ⟨w.heap.size+1+1,k*3+1,none⟩=some (int (sA l k).op):=by
              have h9:=(yA HO).cell k 1 (by omega) (by decide);rw[if_neg (by omega),yA HXS,jO0,x1] at h9;exact h9
            have o2:wr.cell? ⟨w.heap.size+1+1,k*3+2,none⟩=some (int (sA l k).n):=by
              have h9:=(yA HO).cell k 2 (by omega) (by decide);rw[if_neg (by omega),yA HXS,jO0,x2] at h9;exact h9
            generalize sA l k=tk at*;obtain⟨xf,xo,xn⟩:=tk;simp only at o0 o1 o2 l0 l1 l2;have oz:=(yA HO).fr;have m0:wr.cell? ⟨w.heap.size+1,0,none⟩=some (int 0):=xA hb2 0;have m1:wr.cell? ⟨w.heap.size+1,1,none⟩=some (int 1):=xA hb2 1;have m2:wr.cell? ⟨w.heap.size+1,2,none⟩=some (int (-77000000)):=xA hb2 2;have hlm:w.heap.size+1<wr.heap.size:=fP0 m0;have hlo:w.heap.size+1+1<wr.heap.size:=fP0 o0;clear hcells x0 x1 x2 hkl hb2;go_wp2;go_quiet (fail)
            go_wp2;go_roundw
            case rel=>
              have h9:=((yA HO).calm (by decide) (qC _ nq)).set hlt;exact⟨k+1,by omega,by simp,by go_num,((yA HF).calm (qC _ nq)).touch (gC _ (marks 3 rL) (k*3) _),h9⟩
            case measure=>simp[intOf];omega
        · have hkn:k=n:=by omega
          subst hkn;obtain⟨vI,nI,LI,c3,hfz,hlo,hnI,oI,hgo⟩:=(yA HF).tests (yA HO) (by omega);have hbw:bw<wr.heap.size:=fP0 c3;have hca:qA wr (wr.alloc (.cells #[.slice (some ⟨w.heap.size+1+1,0,none⟩) (k+2) (k+2)] 36)):=(cP0 _ _).alloc _;have OI:=uA (oI _ hca);have HGO:=uA (fun g' cap' w3=>hgo _ g' cap' w3 hca);clear oI hgo hca HF HO hb2;obtain⟨t36,i36,z36,s36,b36⟩:=elem36;have I36:=uA i36;have Z36:=uA z36;have S36:=uA s36;have B36:=uA b36;clear i36 z36 s36 b36;go_wp2_with (at_builtin;refine pB _ rfl _ _ 28 rfl B 36 t36 (.slice none 0 0) 1 24 Tryz.underlying28 (yA I36) (yA Z36) (yA S36) (yA B36) rfl (by decide) vI nI LI rfl (yA OI) ⟨wr.heap.size,0,none⟩ 1 1 [.slice (some ⟨w.heap.size+1+1,0,none⟩) (k+2) (k+2)] rfl rfl (bJ0 wr _ 36) (one1 rfl) (by decide) ?h63 ?bytes ?base ?_)
          case h63=>unfold maxLen;omega
          case bytes=>omega
          case base=>first | omega | (simp;omega)
          intro g5 cp5 w5 hg5;obtain⟨d3,dzz,hS⟩:=yA HGO g5 cp5 w5 hg5;have dz:=dzz 3;have HS:=uA hS;clear hg5 HGO OI c3 hfz dzz hS;go_wp2;go_ret;exact⟨rfl,(yA HS).back (fun j hj=>Or.inl hj) (fun j hj=>(yA HKP j hj).1)⟩
end Go.Proofs.YtodfcpblcpogiaaGreat

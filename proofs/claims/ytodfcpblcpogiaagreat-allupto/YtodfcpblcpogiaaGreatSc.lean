import Derived.Test.YtodfcpblcpogiaaGreatSa
namespace Go.Proofs.YtodfcpblcpogiaaGreat
open Go.RowKit
theorem rF0:bO 133 (.agg #[int 0,int 0,int 0,int 0,int 0,rA,int 0,int 0,int 0,int 0,int 0,int 0,int 0,int 0,rA,int 0]) 16 160:=vE (by kernel_rfl)
set_option maxRecDepth 100000 in
set_option maxHeartbeats 2000000 in
theorem qV (b m:Nat)(x y:Int)(v0 v1 v2 v3 v4 v5 v6 v7 v8 v9 v10 v11 v12 v13 v14 v15 vl:Value)(cells:List Value)(w:World)(hfr:∀o,w.frozen? ⟨b,o,none⟩=false)
    (hone:∀u,u∈[v0,v1,v2,v3,v4,v5,v6,v7,v8,v9,v10,v11,v12,v13,v14,v15]→u.oneCell'=true)
    (hl:w.cell? ⟨b,1,none⟩=some vl) (hrow:w.ownsRow 0 133 16 vl m cells) (hmm:m<2199023255) (hvb:vl.ownBlock≠some b):
    Calls Tryz.prog 43 #[.pointer (some ⟨b,0,none⟩),.agg #[v0,v1,v2,v3,v4,v5,v6,v7,v8,v9,v10,v11,v12,v13,v14,v15],int x,int y] w fun e w'=>e=.returned (.tuple #[])∧
      ∃w1 w2 g cap,qA w w1∧xF 0 133 16 vl (m+1) (cells++[v0,int x,int y,v3,v4,v5,v6,v7,v8,v9,v10,v11,v12,v13,v14,v15]) w1 g cap w2∧w'=w2.setCell ⟨b,1,none⟩ (.slice (some ⟨g,0,none⟩) (m+1) cap):=by
  have hb:=fP0 hl;simp only at hb;have o0:=hone v0 (by simp);have o3:=hone v3 (by simp);have o4:=hone v4 (by simp);have o5:=hone v5 (by simp);have o6:=hone v6 (by simp);have o7:=hone v7 (by simp);have o8:=hone v8 (by simp);have o9:=hone v9 (by simp);have o10:=hone v10 (by simp);have o11:=hone v11 (by simp);have o12:=hone v12 (by simp);have o13:=hone v13 (by simp);have o14:=hone v14 (by simp);have o15:=hone v15 (by simp);have o1:=hone v1 (by simp);have o2:=hone v2 (by simp);clear hone;go_enter Tryz.func43,Tryz.ntmps43
  go_wp2;generalize hW:w.alloc (.cells #[v0,.int .i64 x,.int .i64 y,v3,v4,v5,v6,v7,v8,v9,v10,v11,v12,v13,v14,v15] 133)=W
  have hcal:qA w W:=by rw[←hW];exact(cP0 _ _).alloc _
  have hb0:W.heap[w.heap.size]?=some (.cells #[v0,.int .i64 x,.int .i64 y,v3,v4,v5,v6,v7,v8,v9,v10,v11,v12,v13,v14,v15] 133):=by rw[←hW];exact eP0 w _
  have c0:W.cell? ⟨w.heap.size,0,none⟩=some v0:=xA hb0 0;have c1:W.cell? ⟨w.heap.size,1,none⟩=some (int x):=xA hb0 1;have c2:W.cell? ⟨w.heap.size,2,none⟩=some (int y):=xA hb0 2;have c3:W.cell? ⟨w.heap.size,3,none⟩=some v3:=xA hb0 3;have c4:W.cell? ⟨w.heap.size,4,none⟩=some v4:=xA hb0 4;have c5:W.cell? ⟨w.heap.size,5,none⟩=some v5:=xA hb0 5;have c6:W.cell? ⟨w.heap.size,6,none⟩=some v6:=xA hb0 6;have c7:W.cell? ⟨w.heap.size,7,none⟩=some v7:=xA hb0 7;have c8:W.cell? ⟨w.heap.size,8,none⟩=some v8:=xA hb0 8;have c9:W.cell? ⟨w.heap.size,9,none⟩=some v9:=xA hb0 9;have c10:W.cell? ⟨w.heap.size,10,none⟩=some v10:=xA hb0 10;have c11:W.cell? ⟨w.heap.size,11,none⟩=some v11:=xA hb0 11;have c12:W.cell? ⟨w.heap.size,12,none⟩=some v12:=xA hb0 12;have c13:W.cell? ⟨w.heap.size,13,none⟩=some v13:=xA hb0 13;have c14:W.cell? ⟨w.heap.size,14,none⟩=some v14:=xA hb0 14;have c15:W.cell? ⟨w.heap.size,15,none⟩=some v15:=xA hb0 15;have hwsz:w.heap.size<W.heap.size:=fP0 c0;have hbc:b<W.heap.size:=by omega
  have dl:=hcal.cell (p:=⟨b,1,none⟩) id hl;have HRW:=uA (eA hrow hcal (fun _ _ f=>f));have HFZ:=uA (fun o'=>(nP0 (w:=w) (a:=⟨b,o',none⟩) (hcal.block b hb id)).trans (hfr o'));have HTT:=uA hcal;clear hW hb0 hcal hl hrow hfr;obtain⟨ti,i3,z3,s3,b3⟩:=rF0;have I3:=uA i3;have Z3:=uA z3;have S3:=uA s3;have B3:=uA b3;clear i3 z3 s3 b3;have hone:vl.oneCell'=true:=by
    rcases(yA HRW).2 with⟨rfl,_⟩ | ⟨g,cap,cur,rfl,_⟩<;>rfl
  have HON:=uA (show ∀u,u∈[v0,int x,int y,v3,v4,v5,v6,v7,v8,v9,v10,v11,v12,v13,v14,v15]→u.oneCell'=true by
    intro u hu;simp only[List.mem_cons,List.not_mem_nil,or_false] at hu
    rcases hu with rfl | rfl | rfl | rfl | rfl | rfl | rfl | rfl | rfl | rfl | rfl | rfl | rfl | rfl | rfl | rfl<;>first | assumption | rfl)
  go_region_law (first
    | (refine kB _ rfl _ _ 112 rfl 0 133 ti (.agg #[int 0,int 0,int 0,int 0,int 0,rA,int 0,int 0,int 0,int 0,int 0,int 0,int 0,int 0,rA,int 0]) 16 160 Tryz.underlying112 (yA I3) (yA Z3) (yA S3) (yA B3) rfl (by decide) vl m cells rfl ?own ⟨W.heap.size,0,none⟩ 1 1 [v0,int x,int y,v3,v4,v5,v6,v7,v8,v9,v10,v11,v12,v13,v14,v15] rfl rfl ?news ?one (by decide) ?h63 ?bytes ?base ?_
       case own=>exact eA (yA HRW) (((cP0 (fun _=>False) _).alloc _).drew) (fun _ _ f=>f)
       case news=>intro j u hj;exact yC W [v0,int x,int y,v3,v4,v5,v6,v7,v8,v9,v10,v11,v12,v13,v14,v15] 133 j u hj
       case one=>exact yA HON
       case h63=>unfold maxLen;omega
       case bytes=>omega
       case base=>simp
       intro g2 cp2 w2 hg2;have hne:¬b=g2:=by
         rcases hg2.2.1 with⟨h,_⟩ | ⟨h,_⟩
         · intro e;exact hvb (by rw[h,e])
         · simp at h;omega
       have ht2:Touch (fun i=>i=g2) W w2:=by
         rcases hg2.2.1 with⟨_,h⟩ | ⟨_,h⟩
         · exact bP0 (((cP0 _ _).alloc _).drew) h
         · exact(((cP0 (fun i=>i=g2) W).alloc _).drew).calm h
       have dl2:w2.cell? ⟨b,1,none⟩=some vl:=ht2.cell (p:=⟨b,1,none⟩) hne dl;have fz2:w2.frozen? ⟨b,1,none⟩=false:=(nP0 (w:=W) (a:=⟨b,1,none⟩) (ht2.block b hbc hne)).trans (yA HFZ _);have HG2:=uA hg2
       clear hg2 ht2))
  all_goals go_end0
  all_goals exact⟨rfl,_,w2,g2,cp2,((yA HTT).alloc _).drew,yA HG2,rfl⟩
def FrG (w:World)(ρ:zA)(f:Fr)(v:Value):Prop:=∃v0 v1 v2 v3 v4 v5 v6 v7 v8 v9 v10 v11 v12 v13 v14 v15:Value,v=.agg #[v0,v1,v2,v3,v4,v5,v6,v7,v8,v9,v10,v11,v12,v13,v14,v15]∧v1.oneCell'=true∧v2.oneCell'=true∧∀x y:Nat,FrC w ρ ⟨x,y,f⟩ [v0,int x,int y,v3,v4,v5,v6,v7,v8,v9,v10,v11,v12,v13,v14,v15]
theorem FrG.mv {Z:Role→Prop}{ρ ρ':zA}{w w':World}(m:Mv Z ρ ρ' w w'){f:Fr}{v:Value}(h:FrG w ρ f v)(h1:¬Z .frame)(h2:¬Z .rest):FrG w' ρ' f v:=by
 obtain⟨v0,v1,v2,v3,v4,v5,v6,v7,v8,v9,v10,v11,v12,v13,v14,v15,e,e1,e2,e3⟩:=h;exact⟨v0,v1,v2,v3,v4,v5,v6,v7,v8,v9,v10,v11,v12,v13,v14,v15,e,e1,e2,fun x y=>m.frC (e3 x y) h1 h2⟩
theorem RowAt.oneCell {w:World}{ρ:zA}{r:Role}{t size n:Nat}{cells:List Value}{v:Value}(h:RowAt w ρ r t size n cells v):v.oneCell'=true:=by
 rcases h.1.2 with⟨rfl,_⟩ | ⟨g,cap,cur,rfl,_⟩<;>rfl
theorem FrC.ones {w:World}{ρ:zA}{l:LFr}{cs:List Value}(h:FrC w ρ l cs):∀u,u∈cs→u.oneCell'=true:=by
 intro u hu;unfold FrC at h;split at h
 ·obtain⟨fv,⟨a,cap,rfl,_⟩,rfl⟩:=h;simp only[uA0,List.cons_append,List.nil_append,List.mem_cons,List.not_mem_nil,or_false] at hu;rcases hu with rfl | rfl | rfl | rfl | rfl | rfl | rfl | rfl | rfl | rfl | rfl | rfl | rfl | rfl | rfl | rfl<;>rfl
 ·subst h;simp only[uA0,List.cons_append,List.nil_append,List.mem_cons,List.not_mem_nil,or_false] at hu;rcases hu with rfl | rfl | rfl | rfl | rfl | rfl | rfl | rfl | rfl | rfl | rfl | rfl | rfl | rfl | rfl | rfl<;>rfl
 ·subst h;simp only[News.encR,Ev.enc,List.cons_append,List.nil_append,List.mem_cons,List.not_mem_nil,or_false] at hu;rcases hu with rfl | rfl | rfl | rfl | rfl | rfl | rfl | rfl | rfl | rfl | rfl | rfl | rfl | rfl | rfl | rfl<;>rfl
 ·obtain⟨fv,⟨a,cap,rfl,_⟩,rfl⟩:=h;simp only[uA0,List.cons_append,List.nil_append,List.mem_cons,List.not_mem_nil,or_false] at hu;rcases hu with rfl | rfl | rfl | rfl | rfl | rfl | rfl | rfl | rfl | rfl | rfl | rfl | rfl | rfl | rfl | rfl<;>rfl
 ·obtain⟨fv,hr,rfl⟩:=h;have hone:=hr.oneCell;simp only[uA0,List.cons_append,List.nil_append,List.mem_cons,List.not_mem_nil,or_false] at hu;rcases hu with rfl | rfl | rfl | rfl | rfl | rfl | rfl | rfl | rfl | rfl | rfl | rfl | rfl | rfl | rfl | rfl<;>first | exact hone | rfl
abbrev mN:Role→Prop:=fun z=>z=.net∨z=.chan 0 0
theorem hZ {w:World}{b:Nat}{ρ:zA}{R:RNet}(h:RX w b ρ R){x y:Nat}{f:Fr}{v:Value}(hv:FrG w ρ f v)(hn:R.fr.length<2199023255):
  Calls Tryz.prog 43 #[.pointer (some ⟨b,0,none⟩),v,int x,int y] w fun e w'=>e=.returned (.tuple #[])∧∃ρ',RX w' b ρ' (R.send x y f)∧Mv mN ρ ρ' w w':=by
 obtain⟨v0,v1,v2,v3,v4,v5,v6,v7,v8,v9,v10,v11,v12,v13,v14,v15,rfl,e1,e2,e3⟩:=hv;obtain⟨vl,g1,css,g2,g3,g4⟩:=h.frames;have ho:=(e3 x y).ones;have hvb:vl.ownBlock≠some b:=fun e=>by have:=g3.2 b e;rw[h.net] at this;cases this
 refine(qV b R.fr.length x y v0 v1 v2 v3 v4 v5 v6 v7 v8 v9 v10 v11 v12 v13 v14 v15 vl css.flatten w h.fr (fun u hu=>?_) g1 g3.1 hn hvb).mono ?_
 ·simp only[List.mem_cons,List.not_mem_nil,or_false] at hu;rcases hu with rfl | rfl | rfl | rfl | rfl | rfl | rfl | rfl | rfl | rfl | rfl | rfl | rfl | rfl | rfl | rfl<;>first | assumption | exact ho _ (by simp)
 ·rintro e w' ⟨rfl,w1,w2,g,cap,t1,hg,rfl⟩
  have:=h.sent (e3 x y) g1 g2 g3 g4 t1 hg;exact⟨rfl,_,this.1,this.2⟩
def nbs (par:List Nat)(x:Nat)(bt:Option Nat)(k:Nat):List Nat:=(List.range k).filter fun y=>decide (some y≠bt) && iB par x y
theorem xK0 (par:List Nat)(x:Nat)(bt:Option Nat)(k:Nat):nbs par x bt (k+1)=nbs par x bt k++if decide (some k≠bt) && iB par x k then [k] else []:=by
 unfold nbs;rw[List.range_succ,List.filter_append];cases h:(decide (some k≠bt) && iB par x k)
 ·rw[List.filter_cons_of_neg (by rw[h];simp)];simp
 ·rw[List.filter_cons_of_pos (by exact h)];simp
def RNet.spread (R:RNet)(x:Nat)(bt:Option Nat)(f:Fr):RNet:=R.sends x (nbs R.par x bt (size R.par)) f
theorem uD0 {R:RNet}(x:Nat)(bt:Option Nat)(f:Fr):(R.spread x bt f).net=R.net.spread x bt f:=jV x f _ R
theorem eC0 (R:RNet)(x:Nat)(ys:List Nat)(y:Nat)(f:Fr):R.sends x (ys++[y]) f=(R.sends x ys f).send x y f:=by unfold RNet.sends;rw[List.foldl_append];rfl
theorem iR (x:Nat)(f:Fr):∀(ys:List Nat) (R:RNet),(R.sends x ys f).par=R.par∧(R.sends x ys f).fr.length=R.fr.length+ys.length∧(R.sends x ys f).fa=R.fa∧(R.sends x ys f).cl=R.cl
 | [],_=>⟨rfl,rfl,rfl,rfl⟩
 | y::ys,R=>by
  obtain⟨h1,h2,h3,h4⟩:=iR x f ys (R.send x y f);refine⟨h1,?_,h3,h4⟩;have:(R.sends x (y::ys) f).fr.length=((R.send x y f).sends x ys f).fr.length:=rfl;rw[this,h2];simp only[RNet.send,hO0,gO0,List.length_nil];omega
theorem nbs_le (par:List Nat)(x:Nat)(bt:Option Nat)(k:Nat):(nbs par x bt k).length≤k:=by unfold nbs;exact mO0 (List.length_filter_le _ _) (by rw[List.length_range];exact qO0 _)
theorem oI0 (bt:Option Nat)(k:Nat):((k:Int) == whr bt)=!decide (some k≠bt):=by
 cases bt with
 | none=>
  have:((k:Int) == whr none)=false:=by simp[whr]
  rw[this];simp
 | some j=>
  simp only[whr];rw[vB];by_cases e:k=j
  ·subst e;simp
  ·have:¬((k:Int)=(j:Int)):=by omega
   simp[e,this]
structure SpAt (w wr:World)(b g:Nat)(ρ ρ':zA)(R:RNet)(cs:Array Value):Prop where
 net:RX wr b ρ' R
 mv:Mv mN ρ ρ' w wr
 box:wr.heap[g]?=some (.cells cs 133)
 non:ρ' g=none
set_option maxRecDepth 100000 in
set_option maxHeartbeats 4000000 in
theorem hC0 {w:World}{b:Nat}{ρ:zA}{R:RNet}(h:RX w b ρ R)(hs:size R.par≤6){x:Nat}(hx:x<size R.par)(bt:Option Nat){f:Fr}{v:Value}(hv:FrG w ρ f v)(hn:R.fr.length<2000000000):
    Calls Tryz.prog 89 #[.pointer (some ⟨b,0,none⟩),v,int x,int (whr bt)] w fun e w'=>e=.returned (.tuple #[])∧∃ρ',RX w' b ρ' (R.spread x bt f)∧Mv mN ρ ρ' w w':=by
  have hvk:=hv;obtain⟨v0,v1,v2,v3,v4,v5,v6,v7,v8,v9,v10,v11,v12,v13,v14,v15,rfl,e1,e2,e3⟩:=hv;have ho:∀u,u∈[v0,v1,v2,v3,v4,v5,v6,v7,v8,v9,v10,v11,v12,v13,v14,v15]→u.oneCell'=true:=fun u hu=>by
    have ho:=(e3 0 0).ones;simp only[List.mem_cons,List.not_mem_nil,or_false] at hu;rcases hu with rfl | rfl | rfl | rfl | rfl | rfl | rfl | rfl | rfl | rfl | rfl | rfl | rfl | rfl | rfl | rfl<;>first | assumption | exact ho _ (by simp)
  have o0:=ho v0 (by simp);have o1:=ho v1 (by simp);have o2:=ho v2 (by simp);have o3:=ho v3 (by simp);have o4:=ho v4 (by simp);have o5:=ho v5 (by simp);have o6:=ho v6 (by simp);have o7:=ho v7 (by simp);have o8:=ho v8 (by simp);have o9:=ho v9 (by simp);have o10:=ho v10 (by simp);have o11:=ho v11 (by simp);have o12:=ho v12 (by simp);have o13:=ho v13 (by simp);have o14:=ho v14 (by simp);have o15:=ho v15 (by simp);clear ho e3 e1 e2;have hb:b<w.heap.size:=h.lt b (by rw[h.net];simp)
  have hnon:ρ w.heap.size=none:=by
    cases hq:ρ w.heap.size with
    | none=>rfl
    | some r=>have:=h.lt w.heap.size (by rw[hq];simp);omega
  have HX:=uA h;have HV:=uA hvk;obtain⟨bt',hbt⟩:∃z,z=whr bt:=⟨_,rfl⟩;rw[←hbt];have HBT:=uA hbt;have HW:Hid (SpAt w (w.alloc (.cells #[v0,v1,v2,v3,v4,v5,v6,v7,v8,v9,v10,v11,v12,v13,v14,v15] 133)) b w.heap.size ρ ρ R #[v0,v1,v2,v3,v4,v5,v6,v7,v8,v9,v10,v11,v12,v13,v14,v15]):=uA ⟨h.calm ((cP0 _ _).alloc _),zQ0 h.lt ((cP0 _ _).alloc _),eP0 w _,hnon⟩;have hsI:(size R.par:Int)≤6:=by omega
  clear h hvk hbt hnon;go_enter Tryz.func89,Tryz.ntmps89
  go_wp2;go_loopw [8] (fun p wr=>∃k:Nat,k≤size R.par∧p=int k∧∃ρ',SpAt w wr b w.heap.size ρ ρ' (R.sends x (nbs R.par x bt k) f) #[v0,v1,v2,v3,v4,v5,v6,v7,v8,v9,v10,v11,v12,v13,v14,v15]) (fun p _=>6-(intOf p).toNat)
  case atStart=>exact⟨0,by omega,rfl,ρ,yA HW⟩
  case round=>
    obtain⟨k,hk,rfl,ρ1,hS⟩:=hrel;obtain⟨hp1,hp2,_,_⟩:=iR x f (nbs R.par x bt k) R;have hnl:=nbs_le R.par x bt k;have hnet:=hS.net;have hpars:=hnet.parsAt;rw[hp1] at hpars;obtain⟨pb,po,cap,pc0,_⟩:=id hpars;have HS:=uA hS;have HP:=uA hpars;by_cases hkn:k<size R.par
    · have hkI:(k:Int)<size R.par:=by omega
      have hbx:=hS.box;have hbl:=hnet.lt b (by rw[hnet.net];simp)
      have q0:wr.cell? ⟨w.heap.size,0,none⟩=some v0:=xA hbx 0;have q1:wr.cell? ⟨w.heap.size,1,none⟩=some v1:=xA hbx 1;have q2:wr.cell? ⟨w.heap.size,2,none⟩=some v2:=xA hbx 2;have q3:wr.cell? ⟨w.heap.size,3,none⟩=some v3:=xA hbx 3;have q4:wr.cell? ⟨w.heap.size,4,none⟩=some v4:=xA hbx 4;have q5:wr.cell? ⟨w.heap.size,5,none⟩=some v5:=xA hbx 5;have q6:wr.cell? ⟨w.heap.size,6,none⟩=some v6:=xA hbx 6;have q7:wr.cell? ⟨w.heap.size,7,none⟩=some v7:=xA hbx 7;have q8:wr.cell? ⟨w.heap.size,8,none⟩=some v8:=xA hbx 8;have q9:wr.cell? ⟨w.heap.size,9,none⟩=some v9:=xA hbx 9;have q10:wr.cell? ⟨w.heap.size,10,none⟩=some v10:=xA hbx 10;have q11:wr.cell? ⟨w.heap.size,11,none⟩=some v11:=xA hbx 11;have q12:wr.cell? ⟨w.heap.size,12,none⟩=some v12:=xA hbx 12;have q13:wr.cell? ⟨w.heap.size,13,none⟩=some v13:=xA hbx 13;have q14:wr.cell? ⟨w.heap.size,14,none⟩=some v14:=xA hbx 14;have q15:wr.cell? ⟨w.heap.size,15,none⟩=some v15:=xA hbx 15;have hNB:qF R.par x k=iB R.par x k:=by unfold qF;simp;omega
      have hsu:=xK0 R.par x bt k;have hFG:FrG wr ρ1 f (.agg #[v0,v1,v2,v3,v4,v5,v6,v7,v8,v9,v10,v11,v12,v13,v14,v15]):=(yA HV).mv hS.mv (by simp) (by simp);have hlen:(R.sends x (nbs R.par x bt k) f).fr.length<2199023255:=by rw[hp2];omega
      have HL:=uA hlen;have HF:=uA hFG;have HSU:=uA hsu;have HNB:=uA hNB;have hwe:=oI0 bt k;rw[←yA HBT] at hwe;have HWE:=uA hwe;clear hFG hsu hNB hlen hS hpars hnet hwe hp1 hp2 hnl hbx
      have near1:Hid (∀wq,wq=wr→Calls Tryz.prog 78 #[.pointer (some ⟨b,0,none⟩),int x,int k] wq fun e w'=>e=.returned (.bool (iB R.par x k))∧w'=wq):=uA (fun wq e=>by
        subst e;rw[←yA HNB]
        exact kN b R.par x k _ (yA HP) hs)
      cases hnr:iB R.par x k with
      | false=>
        have hsame:nbs R.par x bt (k+1)=nbs R.par x bt k:=by rw[yA HSU,hnr];simp
        rw[hnr] at near1;have HSA:=uA hsame;clear hsame hnr;go_wp2_with (go_at_call 78;refine(yA near1 _ rfl).mono ?_;rintro e w1 ⟨rfl,hw1⟩;have hw1:=hw1.symm;subst hw1);go_roundw
        case rel=>exact⟨k+1,by omega,by go_num,ρ1,by rw[yA HSA];exact yA HS⟩
        case measure=>simp[intOf];omega
      | true=>
        rw[hnr] at near1;by_cases hkb:some k≠bt
        · have hne:((k:Int) == bt')=false:=by rw[yA HWE];simp[hkb]
          have hmore:nbs R.par x bt (k+1)=nbs R.par x bt k++[k]:=by rw[yA HSU,hnr];simp[hkb]
          have HMO:=uA hmore;clear hmore hnr hkb
          go_wp2_with (first
            | (go_at_call 78;refine(yA near1 _ rfl).mono ?_;rintro e w1 ⟨rfl,hw1⟩;have hw1:=hw1.symm;subst hw1)
            | (go_at_call 43;refine(hZ (yA HS).net (yA HF) (yA HL)).mono ?_;rintro e w2 ⟨rfl,ρ2,h2,m2⟩
               have HN:Hid (SpAt w w2 b w.heap.size ρ ρ2 (R.sends x (nbs R.par x bt (k+1)) f) #[v0,v1,v2,v3,v4,v5,v6,v7,v8,v9,v10,v11,v12,v13,v14,v15]):=uA ⟨by rw[yA HMO,eC0];exact h2,(yA HS).mv.trans m2,(m2.touch.block _ (fP0 q0) (fun ⟨r,e,_⟩=>by rw[(yA HS).non] at e;cases e)).trans (yA HS).box,m2.noRole (fP0 q0) (yA HS).non⟩
               clear h2 m2))
          go_roundw
          case rel=>exact⟨k+1,by omega,by go_num,ρ2,yA HN⟩
          case measure=>simp[intOf];omega
        · have hne:((k:Int) == bt')=true:=by rw[yA HWE];simp only[ne_eq,Decidable.not_not] at hkb;simp[hkb]
          have hsame:nbs R.par x bt (k+1)=nbs R.par x bt k:=by rw[yA HSU];simp only[ne_eq,Decidable.not_not] at hkb;simp[hkb]
          have HSA:=uA hsame;clear hsame hnr hkb;go_wp2_with (go_at_call 78;refine(yA near1 _ rfl).mono ?_;rintro e w1 ⟨rfl,hw1⟩;have hw1:=hw1.symm;subst hw1);go_roundw
          case rel=>exact⟨k+1,by omega,by go_num,ρ1,by rw[yA HSA];exact yA HS⟩
          case measure=>simp[intOf];omega
    · have hke:k=size R.par:=by omega
      subst hke;clear hS hpars hnet hp1 hp2 hnl;go_wp2;go_end0
      exact⟨rfl,ρ1,(yA HS).net,(yA HS).mv⟩
end Go.Proofs.YtodfcpblcpogiaaGreat

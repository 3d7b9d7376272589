import Derived.Test.YtodfcpblcpogiaaGreatSpr
namespace Go.Proofs.YtodfcpblcpogiaaGreat
open Go.RowKit
set_option maxRecDepth 100000 in
set_option maxHeartbeats 1000000 in
theorem aG0 (b o c k:Nat)(age way a0 a1 a2 a3 a4 a5 a6 a7 a8 a9:Int)(w:World)(hc:c<4)(hk:k<2)(h:w.cell? ⟨b,o+c*2+k,none⟩=some (.pointer none))(hfr:w.frozen? ⟨b,o+c*2+k,none⟩=false):
  Calls Tryz.prog 103 #[.pointer (some ⟨b,o,none⟩),.agg #[int c,int k,int age,int a0,int a1,int a2,int a3,int a4,int a5,int a6,int a7,int a8,int a9],int way] w fun e w'=>e=.returned (.tuple #[])∧
   ∃v,w'=(((w.setCell ⟨b,o+c*2+k,none⟩ (ptr (w.heap.size+1))).alloc (.cells v 137)).alloc (.cells #[int c,int k,int age,int a0,int a1,int a2,int a3,int a4,int a5,int a6,int a7,int a8,int a9,int way,.bool false,.slice none 0 0,int 0] 176)).drew.drew:=by
 have hci:(c:Int)<4:=by omega
 have hki:(k:Int)<2:=by omega
 have hb:=fP0 h;simp only at hb;go_enter Tryz.func103,Tryz.ntmps103
 go_wp2;go_region
 all_goals go_wp2
 all_goals go_region
 all_goals go_wp2
 all_goals go_end0
 all_goals exact⟨rfl,_,rfl⟩
set_option maxRecDepth 100000 in
set_option maxHeartbeats 1000000 in
theorem nD0 (b o c k kb:Nat)(age old way a0 a1 a2 a3 a4 a5 a6 a7 a8 a9:Int)(w:World)(hc:c<4)(hk:k<2)(h:w.cell? ⟨b,o+c*2+k,none⟩=some (ptr kb))(hold:w.cell? ⟨kb,2,none⟩=some (int old))(hlt:old<age)(hfr:w.frozen? ⟨b,o+c*2+k,none⟩=false):
  Calls Tryz.prog 103 #[.pointer (some ⟨b,o,none⟩),.agg #[int c,int k,int age,int a0,int a1,int a2,int a3,int a4,int a5,int a6,int a7,int a8,int a9],int way] w fun e w'=>e=.returned (.tuple #[])∧
   ∃v,w'=(((w.setCell ⟨b,o+c*2+k,none⟩ (ptr (w.heap.size+1))).alloc (.cells v 137)).alloc (.cells #[int c,int k,int age,int a0,int a1,int a2,int a3,int a4,int a5,int a6,int a7,int a8,int a9,int way,.bool false,.slice none 0 0,int 0] 176)).drew.drew:=by
 have hci:(c:Int)<4:=by omega
 have hki:(k:Int)<2:=by omega
 have hb:=fP0 h;have hkb:=fP0 hold;simp only at hb hkb;go_enter Tryz.func103,Tryz.ntmps103
 go_wp2;go_region
 all_goals go_wp2
 all_goals go_region
 all_goals go_wp2
 all_goals go_end0
 all_goals exact⟨rfl,_,rfl⟩
set_option maxRecDepth 100000 in
set_option maxHeartbeats 1000000 in
theorem bG0 (b o c k kb:Nat)(age old way a0 a1 a2 a3 a4 a5 a6 a7 a8 a9:Int)(w:World)(hc:c<4)(hk:k<2)(h:w.cell? ⟨b,o+c*2+k,none⟩=some (ptr kb))(hold:w.cell? ⟨kb,2,none⟩=some (int old))(hle:age≤old):
  Calls Tryz.prog 103 #[.pointer (some ⟨b,o,none⟩),.agg #[int c,int k,int age,int a0,int a1,int a2,int a3,int a4,int a5,int a6,int a7,int a8,int a9],int way] w fun e w'=>e=.returned (.tuple #[])∧qA w w':=by
 have hci:(c:Int)<4:=by omega
 have hki:(k:Int)<2:=by omega
 have hb:=fP0 h;have hkb:=fP0 hold;simp only at hb hkb;have hlt:¬old<age:=by omega
 go_enter Tryz.func103,Tryz.ntmps103
 go_wp2;go_region
 all_goals go_wp2
 all_goals go_region
 all_goals go_wp2
 all_goals go_end0
 all_goals exact⟨rfl,(((cP0 _ _).alloc _).drew).drew⟩
theorem XN.know {w W:World}{b:Nat}{ρ:zA}{σ:Net}(h:XN w b ρ σ){x c k kb:Nat}(hx:x<6)(hc:c<4)(hk:k<2){f:Fact}(hkept:f.kept=[])
  (hkb:w.heap.size≤kb) (hblk:W.heap[kb]?=some (.cells (eD (2*c+k) f (.slice none 0 0)).toArray 176)) (hcell:W.cell? ⟨b,38+x*8+c*2+k,none⟩=some (ptr kb))
  (hoth:∀o v,o≠38+x*8+c*2+k→w.cell? ⟨b,o,none⟩=some v→W.cell? ⟨b,o,none⟩=some v) (htyp:∃cs,W.heap[b]?=some (.cells cs 102)) (hfr:∀o,W.frozen? ⟨b,o,none⟩=false) (t:Touch (fun i=>i=b) w W):
  XN W b (iA ρ kb (.known x (2*c+k))) (σ.know x (2*c+k) (some f))∧Mv (fun r=>r=.net) ρ (iA ρ kb (.known x (2*c+k))) w W:=by
 have hrole:∀i,i<w.heap.size→iA ρ kb (.known x (2*c+k)) i=ρ i:=fun i hi=>by unfold iA;rw[if_neg (by omega)]
 have hmv:Mv (fun r=>r=.net) ρ (iA ρ kb (.known x (2*c+k))) w W:=by
  refine⟨t.mono (fun i _ e=>⟨.net,by rw[e];exact h.net,rfl⟩),fun i hi=>Or.inl (hrole i hi),fun i hi=>?_⟩;unfold iA at hi;split at hi
  ·rename_i e;rw[e];exact(tO0.1 hblk).1
  ·exact sO0 (h.lt i hi) t.size
 refine⟨h.step hmv (fun o=>o=38+x*8+c*2+k) htyp hfr (fun o v ho=>hoth o v ho) rfl rfl (by omega) (by omega) (by simp) (by simp) (by simp) (fun u v _ _=>Or.inl ⟨rfl,by omega,by simp⟩) (fun u d j hu hd hj=>?_) (fun d hd=>Or.inl ⟨rfl,fun o _ _=>by omega,fun _=>by simp,by simp⟩),hmv⟩;by_cases e:u=x∧2*d+j=2*c+k
 ·right
  obtain⟨rfl,e⟩:=e;have:d=c:=by omega
  have:j=k:=by omega
  subst_vars;refine⟨_,hcell,?_⟩;simp only[Net.know,put2_same];unfold KnownAt;refine⟨kb,.slice none 0 0,rfl,by simp[iA],hblk,⟨⟨by simp[hkept],Or.inl ⟨rfl,by simp[hkept]⟩⟩,fun g hg=>(by cases hg)⟩⟩
 ·left
  refine⟨by simp only[Net.know,jA _ _ e],by omega,by simp,by simp⟩
theorem sL (c k:Nat)(hk:k<2)(age:Int)(fl:List Tst)(way:Option Nat):(eD (2*c+k) ⟨age,fl,way,[],0,false⟩ (.slice none 0 0)).toArray=#[int c,int k,int age,int (sA fl 0).fld,int (sA fl 0).op,int (sA fl 0).n,int (sA fl 1).fld,int (sA fl 1).op,int (sA fl 1).n,int (sA fl 2).fld,int (sA fl 2).op,int (sA fl 2).n,int fl.length,int (whr way),.bool false,.slice none 0 0,int 0]:=by
 have h1:(2*c+k)/2=c:=by omega
 have h2:(2*c+k)%2=k:=by omega
 simp only[eD,h1,h2];rfl
def qM0 (c k:Nat)(age:Int)(fl:List Tst):Value:=.agg #[int c,int k,int age,int (sA fl 0).fld,int (sA fl 0).op,int (sA fl 0).n,int (sA fl 1).fld,int (sA fl 1).op,int (sA fl 1).n,int (sA fl 2).fld,int (sA fl 2).op,int (sA fl 2).n,int fl.length]
theorem XN.knowNew {w:World}{b:Nat}{ρ:zA}{σ:Net}(h:XN w b ρ σ){x c k:Nat}(hx:x<6)(hc:c<4)(hk:k<2){f:Fact}(hkept:f.kept=[])(u:Array Value):
    ∃ρ',XN ((((w.setCell ⟨b,38+x*8+c*2+k,none⟩ (ptr (w.heap.size+1))).alloc (.cells u 137)).alloc (.cells (eD (2*c+k) f (.slice none 0 0)).toArray 176)).drew.drew) b ρ' (σ.know x (2*c+k) (some f))∧Mv (fun r=>r=.net) ρ ρ' w ((((w.setCell ⟨b,38+x*8+c*2+k,none⟩ (ptr (w.heap.size+1))).alloc (.cells u 137)).alloc (.cells (eD (2*c+k) f (.slice none 0 0)).toArray 176)).drew.drew):=by
  obtain⟨v,hv1,_⟩:=h.known x c k hx hc hk;have hb:=h.lt b (by rw[h.net];simp)
  have ht:Touch (fun i=>i=b) w ((((w.setCell ⟨b,38+x*8+c*2+k,none⟩ (ptr (w.heap.size+1))).alloc (.cells u 137)).alloc (.cells (eD (2*c+k) f (.slice none 0 0)).toArray 176)).drew.drew):=
    (((((cP0 (fun i=>i=b) w).setCell (p:=⟨b,38+x*8+c*2+k,none⟩) (fun _=>rfl) _).alloc _).alloc _).drew).drew
  obtain⟨W,hW⟩:∃W,W=((((w.setCell ⟨b,38+x*8+c*2+k,none⟩ (ptr (w.heap.size+1))).alloc (.cells u 137)).alloc (.cells (eD (2*c+k) f (.slice none 0 0)).toArray 176)).drew.drew):=⟨_,rfl⟩;have hbk:W.heap[b]?=(w.setCell ⟨b,38+x*8+c*2+k,none⟩ (ptr (w.heap.size+1))).heap[b]?:=by
    rw[hW];exact(kP0 _ _ _ (by simp[World.setCell];omega)).trans (kP0 _ _ _ (by simpa[World.setCell] using hb))
  rw[←hW] at ht ⊢
  obtain⟨r1,r2⟩:=h.know (kb:=w.heap.size+1) (W:=W) hx hc hk (f:=f) hkept (by omega) (by
      rw[hW];have:=eP0 ((w.setCell ⟨b,38+x*8+c*2+k,none⟩ (ptr (w.heap.size+1))).alloc (.cells u 137)) (.cells (eD (2*c+k) f (.slice none 0 0)).toArray 176)
      simpa[World.setCell,World.drew] using this)
    (pA hbk (mP0 w _ _ hv1)) (fun o v ho hv=>pA hbk (tA w ho hv)) (by rw[hbk];exact nB h.typ _ _)
    (fun o=>(nP0 (w:=w.setCell ⟨b,38+x*8+c*2+k,none⟩ (ptr (w.heap.size+1))) (a:=⟨b,o,none⟩) hbk).trans (qB _ _ _ _ _ (h.fr o))) ht
  exact⟨_,r1,r2⟩
theorem learnX {w:World}{b:Nat}{ρ:zA}{σ:Net}(h:XN w b ρ σ){x c k:Nat}(hx:x<6)(hc:c<4)(hk:k<2)(age:Int)(fl:List Tst)(way:Option Nat):
  Calls Tryz.prog 103 #[.pointer (some ⟨b,38+x*8,none⟩),qM0 c k age fl,int (whr way)] w fun e w'=>e=.returned (.tuple #[])∧∃ρ',XN w' b ρ' (σ.learn x (2*c+k) age fl way)∧Mv (fun r=>r=.net) ρ ρ' w w':=by
 obtain⟨v,hv1,hv2⟩:=h.known x c k hx hc hk;cases hkn:σ.kn x (2*c+k) with
 | none=>
  rw[hkn] at hv2;have hv2:v=.pointer none:=hv2;subst hv2;refine(aG0 b (38+x*8) c k age (whr way) _ _ _ _ _ _ _ _ _ _ w hc hk hv1 (h.fr _)).mono ?_;rintro e w' ⟨rfl,u,rfl⟩
  have hl:σ.learn x (2*c+k) age fl way=σ.know x (2*c+k) (some ⟨age,fl,way,[],0,false⟩):=by unfold Net.learn;rw[hkn]
  rw[hl];have:=h.knowNew hx hc hk (f:=⟨age,fl,way,[],0,false⟩) rfl u;rw[sL c k hk] at this;exact⟨rfl,this⟩
 | some f=>
  rw[hkn] at hv2;obtain⟨kb,kv,rfl,hr,hblk,_⟩:=hv2;have hcell:w.cell? ⟨kb,2,none⟩=some (int f.age):=by rw[xA hblk];rfl
  by_cases hlt:f.age<age
  ·refine(nD0 b (38+x*8) c k kb age f.age (whr way) _ _ _ _ _ _ _ _ _ _ w hc hk hv1 hcell hlt (h.fr _)).mono ?_;rintro e w' ⟨rfl,u,rfl⟩
   have hl:σ.learn x (2*c+k) age fl way=σ.know x (2*c+k) (some ⟨age,fl,way,[],0,false⟩):=by unfold Net.learn;rw[hkn];simp only;rw[if_pos hlt]
   rw[hl];have:=h.knowNew hx hc hk (f:=⟨age,fl,way,[],0,false⟩) rfl u;rw[sL c k hk] at this;exact⟨rfl,this⟩
  ·refine(bG0 b (38+x*8) c k kb age f.age (whr way) _ _ _ _ _ _ _ _ _ _ w hc hk hv1 hcell (by omega)).mono ?_;rintro e w' ⟨rfl,ht⟩
   have hl:σ.learn x (2*c+k) age fl way=σ:=by unfold Net.learn;rw[hkn];simp only;rw[if_neg hlt]
   rw[hl];exact⟨rfl,ρ,h.calm ht,h.mvCalm ht⟩
theorem XN.unknow {w:World}{b:Nat}{ρ:zA}{σ:Net}(h:XN w b ρ σ){x c k:Nat}(hx:x<6)(hc:c<4)(hk:k<2):
  XN (w.setCell ⟨b,38+x*8+c*2+k,none⟩ (.pointer none)) b ρ (σ.know x (2*c+k) none)∧Mv (fun r=>r=.net) ρ ρ w (w.setCell ⟨b,38+x*8+c*2+k,none⟩ (.pointer none)):=by
 obtain⟨v,hv1,_⟩:=h.known x c k hx hc hk;have hmv:Mv (fun r=>r=.net) ρ ρ w (w.setCell ⟨b,38+x*8+c*2+k,none⟩ (.pointer none)):=yQ0 (S:=fun r=>r=.net) h.lt h.net rfl _ _;refine⟨h.step hmv (fun o=>o=38+x*8+c*2+k) (nB h.typ _ _) (fun o=>qB _ _ _ _ _ (h.fr o)) (fun o v ho hv=>tA w ho hv) rfl rfl (by omega) (by omega) (by simp) (by simp) (by simp) (fun u v _ _=>Or.inl ⟨rfl,by omega,by simp⟩) (fun u d j hu hd hj=>?_) (fun d hd=>Or.inl ⟨rfl,fun o _ _=>by omega,fun _=>by simp,by simp⟩),hmv⟩;by_cases e:u=x∧2*d+j=2*c+k
 ·right
  obtain⟨rfl,e⟩:=e;have:d=c:=by omega
  have:j=k:=by omega
  subst_vars;refine⟨_,mP0 w _ _ hv1,?_⟩;simp only[Net.know,put2_same];rfl
 ·left
  exact⟨by simp only[Net.know,jA _ _ e],by omega,by simp,by simp⟩
set_option maxRecDepth 100000 in
set_option maxHeartbeats 1000000 in
theorem uB0 (b o c k:Nat)(age a0 a1 a2 a3 a4 a5 a6 a7 a8 a9:Int)(w:World)(hc:c<4)(hk:k<2)(h:w.cell? ⟨b,o+c*2+k,none⟩=some (.pointer none)):
  Calls Tryz.prog 105 #[.pointer (some ⟨b,o,none⟩),.agg #[int c,int k,int age,int a0,int a1,int a2,int a3,int a4,int a5,int a6,int a7,int a8,int a9]] w fun e w'=>e=.returned (.tuple #[])∧qA w w':=by
 have hci:(c:Int)<4:=by omega
 have hki:(k:Int)<2:=by omega
 have hb:=fP0 h;simp only at hb;go_enter Tryz.func105,Tryz.ntmps105
 go_wp2;go_region
 all_goals go_wp2
 all_goals go_region
 all_goals go_wp2
 all_goals go_end0
 all_goals exact⟨rfl,(((cP0 _ _).alloc _).drew).drew⟩
set_option maxRecDepth 100000 in
set_option maxHeartbeats 1000000 in
theorem yB0 (b o c k kb:Nat)(age old a0 a1 a2 a3 a4 a5 a6 a7 a8 a9:Int)(w:World)(hc:c<4)(hk:k<2)(h:w.cell? ⟨b,o+c*2+k,none⟩=some (ptr kb))(hold:w.cell? ⟨kb,2,none⟩=some (int old))(hfr:w.frozen? ⟨b,o+c*2+k,none⟩=false):
  Calls Tryz.prog 105 #[.pointer (some ⟨b,o,none⟩),.agg #[int c,int k,int age,int a0,int a1,int a2,int a3,int a4,int a5,int a6,int a7,int a8,int a9]] w fun e w'=>e=.returned (.tuple #[])∧
   ((old≤age∧qA (w.setCell ⟨b,o+c*2+k,none⟩ (.pointer none)) w')∨(age<old∧qA w w')):=by
 have hci:(c:Int)<4:=by omega
 have hki:(k:Int)<2:=by omega
 have hb:=fP0 h;have hkb:=fP0 hold;simp only at hb hkb;by_cases hle:old≤age
 ·go_enter Tryz.func105,Tryz.ntmps105
  go_wp2;go_region
  all_goals go_wp2
  all_goals go_region
  all_goals go_wp2
  all_goals go_end0
  all_goals exact⟨rfl,Or.inl ⟨hle,(((cP0 _ _).alloc _).drew).drew⟩⟩
 ·go_enter Tryz.func105,Tryz.ntmps105
  go_wp2;go_region
  all_goals go_wp2
  all_goals go_region
  all_goals go_wp2
  all_goals go_end0
  all_goals exact⟨rfl,Or.inr ⟨by omega,(((cP0 _ _).alloc _).drew).drew⟩⟩
theorem qN0 {w:World}{b:Nat}{ρ:zA}{σ:Net}(h:XN w b ρ σ){x c k:Nat}(hx:x<6)(hc:c<4)(hk:k<2)(age:Int):
  Calls Tryz.prog 105 #[.pointer (some ⟨b,38+x*8,none⟩),qM0 c k age []] w fun e w'=>e=.returned (.tuple #[])∧XN w' b ρ (σ.forget x (2*c+k) age)∧Mv (fun r=>r=.net) ρ ρ w w':=by
 obtain⟨v,hv1,hv2⟩:=h.known x c k hx hc hk;cases hkn:σ.kn x (2*c+k) with
 | none=>
  rw[hkn] at hv2;have hv2:v=.pointer none:=hv2;subst hv2;refine(uB0 b (38+x*8) c k age _ _ _ _ _ _ _ _ _ _ w hc hk hv1).mono ?_;rintro e w' ⟨rfl,ht⟩
  have hl:σ.forget x (2*c+k) age=σ:=by unfold Net.forget;rw[hkn]
  rw[hl];exact⟨rfl,h.calm ht,h.mvCalm ht⟩
 | some f=>
  rw[hkn] at hv2;obtain⟨kb,kv,rfl,hr,hblk,_⟩:=hv2;have hcell:w.cell? ⟨kb,2,none⟩=some (int f.age):=by rw[xA hblk];rfl
  refine(yB0 b (38+x*8) c k kb age f.age _ _ _ _ _ _ _ _ _ _ w hc hk hv1 hcell (h.fr _)).mono ?_;rintro e w' ⟨rfl,⟨hle,ht⟩ | ⟨hlt,ht⟩⟩
  ·have hl:σ.forget x (2*c+k) age=σ.know x (2*c+k) none:=by unfold Net.forget;rw[hkn];simp only;rw[if_pos hle]
   rw[hl];obtain⟨r1,r2⟩:=h.unknow hx hc hk;exact⟨rfl,r1.calm ht,r2.trans (r1.mvCalm ht)⟩
  ·have hl:σ.forget x (2*c+k) age=σ:=by unfold Net.forget;rw[hkn];simp only;rw[if_neg (by omega)]
   rw[hl];exact⟨rfl,h.calm ht,h.mvCalm ht⟩
theorem oP (c k:Nat)(hk:k<2)(age:Int)(fl:List Tst)(u:List Value)(kv:Value):(uI (.sub (2*c+k) age fl) u kv).toArray=#[int 0,int c,int k,int age,int (sA fl 0).fld,int (sA fl 0).op,int (sA fl 0).n,int (sA fl 1).fld,int (sA fl 1).op,int (sA fl 1).n,int (sA fl 2).fld,int (sA fl 2).op,int (sA fl 2).n,int fl.length,int 0,int 0,int 0,int 0,int 0,int 0,int 0,int 0,rA,int 0]:=by
 have h1:(2*c+k)/2=c:=by omega
 have h2:(2*c+k)%2=k:=by omega
 simp only[uI,h1,h2];rfl
set_option maxRecDepth 100000 in
set_option maxHeartbeats 1000000 in
theorem fD0 {w:World}{b:Nat}{ρ:zA}{σ:Net}(h:XN w b ρ σ)(T:Tree σ.par){x:Nat}{fr:Option Nat}(hx:x<σ.n)(hlen:∀y,(σ.q x y).length<2000){c k:Nat}(hc:c<4)(hk:k<2)(age:Int)(fl:List Tst){fb:Nat}(hf:FrAt w ρ (.sub (2*c+k) age fl) fb):
  Calls Tryz.prog 79 #[.pointer (some ⟨b,0,none⟩),int x,int (whr fr),ptr fb] w fun e w'=>e=.returned (.tuple #[])∧∃ρ',XN w' b ρ' (σ.handle x fr (.sub (2*c+k) age fl))∧Mv (fun r=>r=.net∨∃y,r=.chan x y) ρ ρ' w w':=by
 have hx6:x<6:=sO0 hx (gB T);obtain⟨hr,_,_,_,hf',_⟩:=id hf;rw[oP c k hk] at hf';have c1:w.cell? ⟨fb,1,none⟩=some (int c):=xA hf' 1;have c2:w.cell? ⟨fb,2,none⟩=some (int k):=xA hf' 2;have c3:w.cell? ⟨fb,3,none⟩=some (int age):=xA hf' 3;have c4:w.cell? ⟨fb,4,none⟩=some (int (sA fl 0).fld):=xA hf' 4;have c5:w.cell? ⟨fb,5,none⟩=some (int (sA fl 0).op):=xA hf' 5;have c6:w.cell? ⟨fb,6,none⟩=some (int (sA fl 0).n):=xA hf' 6;have c7:w.cell? ⟨fb,7,none⟩=some (int (sA fl 1).fld):=xA hf' 7;have c8:w.cell? ⟨fb,8,none⟩=some (int (sA fl 1).op):=xA hf' 8;have c9:w.cell? ⟨fb,9,none⟩=some (int (sA fl 1).n):=xA hf' 9;have c10:w.cell? ⟨fb,10,none⟩=some (int (sA fl 2).fld):=xA hf' 10;have c11:w.cell? ⟨fb,11,none⟩=some (int (sA fl 2).op):=xA hf' 11;have c12:w.cell? ⟨fb,12,none⟩=some (int (sA fl 2).n):=xA hf' 12;have c13:w.cell? ⟨fb,13,none⟩=some (int fl.length):=xA hf' 13;have hxi:(x:Int)<6:=by omega
 have HX:=uA h;have HF:=uA hf;have HLEN:=uA hlen;clear h hf hf' hlen;go_enter Tryz.func79,Tryz.ntmps79
 go_wp2;go_cut [] (fun wx=>∃ρ',XN wx b ρ' (σ.learn x (2*c+k) age fl fr)∧Mv (fun r=>r=.net) ρ ρ' w wx)
 case first=>
  go_region_with (go_at_call 103;refine(learnX (w:=w.drew) (σ:=σ) (ρ:=ρ) ((yA HX).calm (cP0 _ _).drew) hx6 hc hk age fl fr).mono ?_;rintro e w1 ⟨rfl,ρ1,h1,m1⟩)
  all_goals (go_wp2_with fail;go_meet;exact⟨ρ1,h1,(zQ0 (yA HX).lt (cP0 _ _).drew).trans m1⟩)
 case rest=>
  obtain⟨ρ1,h1,m1⟩:=hcut;have hk1:=mD σ x (2*c+k) age fl fr;have HF1:=uA ((yA HF).mv (yA HX).lt m1 (by simp) (by simp));have HX1:=uA h1;have HM1:=uA m1;clear h1 m1 c1 c2 c3 c4 c5 c6 c7 c8 c9 c10 c11 c12 c13;go_wp2_with (go_at_call 104;refine(jE0 (f:=.sub (2*c+k) age fl) (fr:=fr) (yA HX1) (by rw[hk1.1];exact T) (by simp only[Net.n,hk1.1];exact hx) (by rw[hk1.2.1];exact yA HLEN) (yA HF1)).mono ?_;rintro e w2 ⟨rfl,h2,m2⟩)
  go_end0
  exact⟨rfl,ρ1,h2,((yA HM1).mono (fun r hr=>Or.inl hr)).trans (m2.mono (fun r hr=>Or.inr hr))⟩
theorem mK (c k:Nat)(hk:k<2)(age:Int)(u:List Value)(kv:Value):(uI (.unsub (2*c+k) age) u kv).toArray=#[int 1,int c,int k,int age,int 0,int 0,int 0,int 0,int 0,int 0,int 0,int 0,int 0,int 0,int 0,int 0,int 0,int 0,int 0,int 0,int 0,int 0,rA,int 0]:=by
 have h1:(2*c+k)/2=c:=by omega
 have h2:(2*c+k)%2=k:=by omega
 simp only[uI,h1,h2];rfl
set_option maxRecDepth 100000 in
set_option maxHeartbeats 1000000 in
theorem sY {w:World}{b:Nat}{ρ:zA}{σ:Net}(h:XN w b ρ σ)(T:Tree σ.par){x:Nat}{fr:Option Nat}(hx:x<σ.n)(hlen:∀y,(σ.q x y).length<2000){c k:Nat}(hc:c<4)(hk:k<2)(age:Int){fb:Nat}(hf:FrAt w ρ (.unsub (2*c+k) age) fb):
  Calls Tryz.prog 80 #[.pointer (some ⟨b,0,none⟩),int x,int (whr fr),ptr fb] w fun e w'=>e=.returned (.tuple #[])∧∃ρ',XN w' b ρ' (σ.handle x fr (.unsub (2*c+k) age))∧Mv (fun r=>r=.net∨∃y,r=.chan x y) ρ ρ' w w':=by
 have hx6:x<6:=sO0 hx (gB T);obtain⟨hr,_,_,_,hf',_⟩:=id hf;rw[mK c k hk] at hf';have c1:w.cell? ⟨fb,1,none⟩=some (int c):=xA hf' 1;have c2:w.cell? ⟨fb,2,none⟩=some (int k):=xA hf' 2;have c3:w.cell? ⟨fb,3,none⟩=some (int age):=xA hf' 3;have c4:w.cell? ⟨fb,4,none⟩=some (int 0):=xA hf' 4;have c5:w.cell? ⟨fb,5,none⟩=some (int 0):=xA hf' 5;have c6:w.cell? ⟨fb,6,none⟩=some (int 0):=xA hf' 6;have c7:w.cell? ⟨fb,7,none⟩=some (int 0):=xA hf' 7;have c8:w.cell? ⟨fb,8,none⟩=some (int 0):=xA hf' 8;have c9:w.cell? ⟨fb,9,none⟩=some (int 0):=xA hf' 9;have c10:w.cell? ⟨fb,10,none⟩=some (int 0):=xA hf' 10;have c11:w.cell? ⟨fb,11,none⟩=some (int 0):=xA hf' 11;have c12:w.cell? ⟨fb,12,none⟩=some (int 0):=xA hf' 12;have c13:w.cell? ⟨fb,13,none⟩=some (int 0):=xA hf' 13;have hxi:(x:Int)<6:=by omega
 have HX:=uA h;have HF:=uA hf;have HLEN:=uA hlen;clear h hf hf' hlen;go_enter Tryz.func80,Tryz.ntmps80
 go_wp2;go_cut [] (fun wx=>XN wx b ρ (σ.forget x (2*c+k) age)∧Mv (fun r=>r=.net) ρ ρ w wx)
 case first=>
  go_region_with (go_at_call 105;refine(qN0 (w:=w.drew) (σ:=σ) (ρ:=ρ) ((yA HX).calm (cP0 _ _).drew) hx6 hc hk age).mono ?_;rintro e w1 ⟨rfl,h1,m1⟩)
  all_goals (go_wp2_with fail;go_meet;exact⟨h1,(zQ0 (yA HX).lt (cP0 _ _).drew).trans m1⟩)
 case rest=>
  obtain⟨h1,m1⟩:=hcut;have hk1:=xD σ x (2*c+k) age;have HF1:=uA ((yA HF).mv (yA HX).lt m1 (by simp) (by simp));have HX1:=uA h1;have HM1:=uA m1;clear h1 m1 c1 c2 c3 c4 c5 c6 c7 c8 c9 c10 c11 c12 c13;go_wp2_with (go_at_call 104;refine(jE0 (f:=.unsub (2*c+k) age) (fr:=fr) (yA HX1) (by rw[hk1.1];exact T) (by simp only[Net.n,hk1.1];exact hx) (by rw[hk1.2.1];exact yA HLEN) (yA HF1)).mono ?_;rintro e w2 ⟨rfl,h2,m2⟩)
  go_end0
  exact⟨rfl,ρ,h2,((yA HM1).mono (fun r hr=>Or.inl hr)).trans (m2.mono (fun r hr=>Or.inr hr))⟩
end Go.Proofs.YtodfcpblcpogiaaGreat

import Derived.Test.YtodfcpblcpogiaaGreatSy
import Derived.Test.YtodfcpblcpogiaaGreatUh
namespace Go.Proofs.YtodfcpblcpogiaaGreat
open Go.RowKit
def lH (p:Nat→Bool):Nat→Nat→Int
 | _,0=>-1
 | k,d+1=>if p k then k else lH p (k+1) d
theorem xF0 {p:Nat→Bool}{j:Nat}(hp:p j=true):∀{d k:Nat},k≤j→j<k+d→(∀i,k≤i→i<j→p i=false)→lH p k d=j
 | 0,k,h1,h2,_=>by omega
 | d+1,k,h1,h2,h3=>by
  unfold lH;by_cases e:k=j
  ·subst e;rw[if_pos hp]
  ·rw[if_neg (by rw[h3 k (qO0 _) (by omega)];simp)]
   exact xF0 hp (by omega) (by omega) (fun i hi1 hi2=>h3 i (by omega) hi2)
theorem vW {p:Nat→Bool}:∀{d k:Nat},(∀i,k≤i→i<k+d→p i=false)→lH p k d=-1
 | 0,_,_=>rfl
 | d+1,k,h=>by
  unfold lH;rw[if_neg (by rw[h k (qO0 _) (by omega)];simp)]
  exact vW (fun i h1 h2=>h i (by omega) (by omega))
set_option maxRecDepth 100000 in
set_option maxHeartbeats 4000000 in
theorem oQ {w:World}{b n:Nat}{X Y:Nat→Int}{x y:Int}(hc:w.cell? ⟨b,55,none⟩=some (.bool false))(hH:cO w b 1 16 1 2 n X Y)(hnn:n<1000000)
  (HN:Hid (Calls Tryz.prog 78 #[.pointer (some ⟨b,0,none⟩),int x,int y] w fun e w'=>e=.returned (.bool true)∧w'=w)) (hno:∀i,i<n→¬(X i=x∧Y i=y)):
  Calls Tryz.prog 57 #[.pointer (some ⟨b,0,none⟩),int x,int y] w fun r w'=>r=.returned (int 7)∧w'=w:=by
 obtain⟨a,cap,h1,hh⟩:=hH;have HH:=uA hh;have HNO:Hid (lH (fun i=>decide (X i=x∧Y i=y)) 0 n=-1):=uA (vW (fun i _ hi=>pP0 (hno i (by omega))));have hnI:(n:Int)<1000000:=by omega
 clear hh hno;go_enter Tryz.func57,Tryz.ntmps57
 go_wp2_with (go_at_call 78;refine(yA HN).mono ?_;rintro e w1 ⟨rfl,hw1⟩;have hw1:=hw1.symm;subst hw1)
 go_loopw [8,9] (fun p i wr=>∃k:Nat,k≤n∧p=int (lH (fun i=>decide (X i=x∧Y i=y)) k (n-k))∧i=int ((k:Int)-1)∧wr=w) (fun _ i _=>(intOf i+1).toNat)
 case atStart=>exact⟨n,qO0 _,by rw[Nat.sub_self];rfl,rfl,rfl⟩
 case round=>
  obtain⟨k,hk,rfl,rfl,hw⟩:=hrel;subst hw;by_cases hk0:0<k
  ·obtain⟨i,rfl⟩:∃i,k=i+1:=⟨k-1,by omega⟩;rw[show ((i+1:Nat):Int)-1=(i:Int) by omega];have hin:i<n:=by omega
   have hiI:(i:Int)<n:=by omega
   obtain⟨g',hg',m0,m1⟩:=yA HH i hin;cases hg'
   have hst:lH (fun i=>decide (X i=x∧Y i=y)) i (n-i)=if decide (X i=x∧Y i=y) then (i:Int) else lH (fun i=>decide (X i=x∧Y i=y)) (i+1) (n-(i+1)):=by
    rw[show n-i=(n-(i+1))+1 by omega];rfl
   obtain⟨F,hF⟩:∃F,F=lH (fun i=>decide (X i=x∧Y i=y)) (i+1) (n-(i+1)):=⟨_,rfl⟩;rw[←hF] at hst ⊢;obtain⟨A,hA⟩:∃A,A=X i:=⟨_,rfl⟩;obtain⟨C,hC⟩:∃C,C=Y i:=⟨_,rfl⟩;rw[←hA] at m0;rw[←hC] at m1;rw[←hA,←hC] at hst;have HST:=uA hst;clear hst hF hA hC;by_cases h1:A=x
   ·have h1b:(A == x)=true:=by rw[vB];exact decide_eq_true h1
    by_cases h2:C=y
    ·have h2b:(C == y)=true:=by rw[vB];exact decide_eq_true h2
     have HE:Hid (lH (fun i=>decide (X i=x∧Y i=y)) i (n-i)=(i:Int)):=uA (by rw[yA HST,if_pos (decide_eq_true ⟨h1,h2⟩)]);clear h1 h2;go_wp2;go_roundw
     case rel=>exact⟨i,by omega,by rw[yA HE],by go_num,trivial⟩
     case measure=>simp[intOf]
    ·have h2b:(C == y)=false:=by rw[vB];exact pP0 h2
     have HE:Hid (lH (fun i=>decide (X i=x∧Y i=y)) i (n-i)=F):=uA (by rw[yA HST,if_neg (by simp[h2])]);clear h1 h2;go_wp2;go_roundw
     case rel=>exact⟨i,by omega,by rw[yA HE],by go_num,trivial⟩
     case measure=>simp[intOf]
   ·have h1b:(A == x)=false:=by rw[vB];exact pP0 h1
    have HE:Hid (lH (fun i=>decide (X i=x∧Y i=y)) i (n-i)=F):=uA (by rw[yA HST,if_neg (by simp[h1])]);clear h1;go_wp2;go_roundw
    case rel=>exact⟨i,by omega,by rw[yA HE],by go_num,trivial⟩
    case measure=>simp[intOf]
  ·have hk1:k=0:=by omega
   subst hk1;rw[show ((0:Nat):Int)-1=-1 by omega,Nat.sub_zero];have hm1:¬(0:Int)≤-1:=by omega
   rw[yA HNO];go_wp2;go_ret;exact⟨rfl,rfl⟩
set_option maxRecDepth 100000 in
set_option maxHeartbeats 8000000 in
theorem kY {w:World}{b n j g cap:Nat}{X Y:Nat→Int}{x y:Int}{css:List Value}{Post:Ending→World→Prop}(hc:w.cell? ⟨b,55,none⟩=some (.bool false))(h1:w.cell? ⟨b,1,none⟩=some (.slice (some ⟨g,0,none⟩) n cap))(hown:w.ownsRow 0 133 16 (.slice (some ⟨g,0,none⟩) n cap) n css)(hone:∀u∈css,u.oneCell'=true)
  (hh:∀i,i<n→∃g',some (⟨g,0,none⟩:Addr)=some ⟨g',0,none⟩∧w.cell? ⟨g',i*16+1,none⟩=some (int (X i))∧w.cell? ⟨g',i*16+2,none⟩=some (int (Y i))) (hnn:n<1000000) (hj:j<n) (hfz:∀o,w.frozen? ⟨b,o,none⟩=false) (_hgb:b≠g)
  (HN:Hid (Calls Tryz.prog 78 #[.pointer (some ⟨b,0,none⟩),int x,int y] w fun e w'=>e=.returned (.bool true)∧w'=w)) (hat:X j=x∧Y j=y) (hno:∀i,i<j→¬(X i=x∧Y i=y))
  {z0 z1 z2 z3 z4 z6 z7 z8 z9 z10 z11 z12 z13 z15:Int} {fa ea:Option Addr} {fn fc en ec:Nat} (k0:w.cell? ⟨g,j*16,none⟩=some (int z0)) (k1:w.cell? ⟨g,j*16+1,none⟩=some (int z1)) (k2:w.cell? ⟨g,j*16+2,none⟩=some (int z2)) (k3:w.cell? ⟨g,j*16+3,none⟩=some (int z3)) (k4:w.cell? ⟨g,j*16+4,none⟩=some (int z4)) (k5:w.cell? ⟨g,j*16+5,none⟩=some (.slice fa fn fc)) (k6:w.cell? ⟨g,j*16+6,none⟩=some (int z6)) (k7:w.cell? ⟨g,j*16+7,none⟩=some (int z7)) (k8:w.cell? ⟨g,j*16+8,none⟩=some (int z8)) (k9:w.cell? ⟨g,j*16+9,none⟩=some (int z9)) (k10:w.cell? ⟨g,j*16+10,none⟩=some (int z10)) (k11:w.cell? ⟨g,j*16+11,none⟩=some (int z11)) (k12:w.cell? ⟨g,j*16+12,none⟩=some (int z12)) (k13:w.cell? ⟨g,j*16+13,none⟩=some (int z13)) (k14:w.cell? ⟨g,j*16+14,none⟩=some (.slice ea en ec)) (k15:w.cell? ⟨g,j*16+15,none⟩=some (int z15))
  (HHAN:∀w2 v2,qA w w2→w2.ownsRow w.heap.size 133 16 v2 (n-1) (css.take (j*16)++css.drop ((j+1)*16))→Calls Tryz.prog 92 #[.pointer (some ⟨b,0,none⟩),int y,.agg #[int z0,int z1,int z2,int z3,int z4,.slice fa fn fc,int z6,int z7,int z8,int z9,int z10,int z11,int z12,int z13,.slice ea en ec,int z15],int x] (w2.setCell ⟨b,1,none⟩ v2) fun r w'=>r=.returned (.tuple #[])∧Post (.returned (int 0)) w'):
  Calls Tryz.prog 57 #[.pointer (some ⟨b,0,none⟩),int x,int y] w fun r w'=>Post r w':=by
 have HH:=uA hh;have hcp:n≤cap:=by
  rcases hown.2 with⟨e,_⟩ | ⟨g',c',cur,e,_,_,e2,_⟩
  ·cases e
  ·cases e;exact e2
 have HNO:Hid (lH (fun i=>decide (X i=x∧Y i=y)) 0 n=(j:Int)):=uA (xF0 (decide_eq_true hat) (by omega) (by omega) (fun i _ hi=>pP0 (hno i hi)));have hnI:(n:Int)<1000000:=by omega
 have hb:=fP0 h1;have hg:=fP0 k0;simp only at hb hg;have HOWN:=uA hown;have HONE:=uA hone;have HFZ:=uA hfz;have HHN:=uA HHAN;have hjI:(j:Int)<n:=by omega
 have hjc:(j:Int)≤cap:=by omega
 have hncI:(n:Int)≤cap:=by omega
 clear hh hno hat hown hone hfz HHAN;obtain⟨ti,i3,z3,s3,b3⟩:=rF0;have I3:=uA i3;have Z3:=uA z3;have S3:=uA s3;have B3:=uA b3;clear i3 z3 s3 b3;go_enter Tryz.func57,Tryz.ntmps57
 go_wp2_with (go_at_call 78;refine(yA HN).mono ?_;rintro e w1 ⟨rfl,hw1⟩;have hw1:=hw1.symm;subst hw1)
 go_loopw [8,9] (fun p i wr=>∃k:Nat,k≤n∧p=int (lH (fun i=>decide (X i=x∧Y i=y)) k (n-k))∧i=int ((k:Int)-1)∧wr=w) (fun _ i _=>(intOf i+1).toNat)
 case atStart=>exact⟨n,qO0 _,by rw[Nat.sub_self];rfl,rfl,rfl⟩
 case round=>
  obtain⟨k,hk,rfl,rfl,hw⟩:=hrel;subst hw;by_cases hk0:0<k
  ·obtain⟨i,rfl⟩:∃i,k=i+1:=⟨k-1,by omega⟩;rw[show ((i+1:Nat):Int)-1=(i:Int) by omega];have hin:i<n:=by omega
   have hiI:(i:Int)<n:=by omega
   obtain⟨g',hg',m0,m1⟩:=yA HH i hin;cases hg'
   have hst:lH (fun i=>decide (X i=x∧Y i=y)) i (n-i)=if decide (X i=x∧Y i=y) then (i:Int) else lH (fun i=>decide (X i=x∧Y i=y)) (i+1) (n-(i+1)):=by
    rw[show n-i=(n-(i+1))+1 by omega];rfl
   obtain⟨F,hF⟩:∃F,F=lH (fun i=>decide (X i=x∧Y i=y)) (i+1) (n-(i+1)):=⟨_,rfl⟩;rw[←hF] at hst ⊢;obtain⟨A,hA⟩:∃A,A=X i:=⟨_,rfl⟩;obtain⟨C,hC⟩:∃C,C=Y i:=⟨_,rfl⟩;rw[←hA] at m0;rw[←hC] at m1;rw[←hA,←hC] at hst;have HST:=uA hst;clear hst hF hA hC;by_cases h1:A=x
   ·have h1b:(A == x)=true:=by rw[vB];exact decide_eq_true h1
    by_cases h2:C=y
    ·have h2b:(C == y)=true:=by rw[vB];exact decide_eq_true h2
     have HE:Hid (lH (fun i=>decide (X i=x∧Y i=y)) i (n-i)=(i:Int)):=uA (by rw[yA HST,if_pos (decide_eq_true ⟨h1,h2⟩)]);clear h1 h2;go_wp2;go_roundw
     case rel=>exact⟨i,by omega,by rw[yA HE],by go_num,trivial⟩
     case measure=>simp[intOf]
    ·have h2b:(C == y)=false:=by rw[vB];exact pP0 h2
     have HE:Hid (lH (fun i=>decide (X i=x∧Y i=y)) i (n-i)=F):=uA (by rw[yA HST,if_neg (by simp[h2])]);clear h1 h2;go_wp2;go_roundw
     case rel=>exact⟨i,by omega,by rw[yA HE],by go_num,trivial⟩
     case measure=>simp[intOf]
   ·have h1b:(A == x)=false:=by rw[vB];exact pP0 h1
    have HE:Hid (lH (fun i=>decide (X i=x∧Y i=y)) i (n-i)=F):=uA (by rw[yA HST,if_neg (by simp[h1])]);clear h1;go_wp2;go_roundw
    case rel=>exact⟨i,by omega,by rw[yA HE],by go_num,trivial⟩
    case measure=>simp[intOf]
  ·have hk1:k=0:=by omega
   subst hk1;rw[show ((0:Nat):Int)-1=-1 by omega,Nat.sub_zero];have hm1:¬(0:Int)≤-1:=by omega
   rw[yA HNO];have hwj:IntKind.i64.wrap ((j:Int)+1)=(j:Int)+1:=by rw[IntKind.wrap_i64];omega
   have hj1:(j:Int)+1≤n:=by omega
   have HNN:=uA hnn;clear HH HN HNO hnI hnn;go_wp2_with (at_builtin;refine wpList_append_own _ rfl _ _ 112 rfl (wr.heap.size+1) 133 ti (.agg #[int 0,int 0,int 0,int 0,int 0,rA,int 0,int 0,int 0,int 0,int 0,int 0,int 0,int 0,rA,int 0]) 16 160 Tryz.underlying112 (yA I3) (yA Z3) (yA S3) (yA B3) rfl (by decide) (.slice none 0 0) 0 [] rfl (jP0 _ _ _ _) ⟨g,0,none⟩ j _ (css.take (j*16)) rfl ?hl ?news ?one ?h63 ?bytes ?base ?_)
   case hl=>have:=(yA HOWN).1;(try rw[List.length_take]);omega
   case news=>
    intro q u hq;rw[uP0] at hq;split at hq
    ·have:=World.ownsRow.cells (yA HOWN) (g:=g) rfl q u hq;rw[gP0,sP0] at this;exact this
    ·cases hq
   case one=>exact fun u hu=>yA HONE u (List.mem_of_mem_take hu)
   case h63=>have:=yA HNN;unfold maxLen;omega
   case bytes=>have:=yA HNN;omega
   intro v1 w1 o1 g1 i1;obtain⟨a1,n1,c1,rfl⟩:∃a k c,v1=.slice a k c:=by
    rcases o1.2 with⟨e,_⟩ | ⟨g',cp',cur,e,_⟩
    ·exact⟨_,_,_,e⟩
    ·exact⟨_,_,_,e⟩
   have t1:qA wr w1:=by
    refine((cP0 (fun _=>False) wr).alloc (.cells #[int z0,int z1,int z2,int z3,int z4,.slice fa fn fc,int z6,int z7,int z8,int z9,int z10,int z11,int z12,int z13,.slice ea en ec,int z15] 133)).trans ⟨g1.os,g1.tape,g1.output,g1.size,fun k hk _=>g1.block k hk (by simp[Value.ownBlock])⟩
   have hbx1:w1.heap[wr.heap.size]?=some (.cells #[int z0,int z1,int z2,int z3,int z4,.slice fa fn fc,int z6,int z7,int z8,int z9,int z10,int z11,int z12,int z13,.slice ea en ec,int z15] 133):=(g1.block _ (by simp) (by simp[Value.ownBlock])).trans (eP0 wr _);have b1:=t1.cell (p:=⟨b,1,none⟩) id h1;have HO1:=uA o1;have HT1:=uA t1;have HBX1:=uA hbx1;clear o1 g1 i1 t1 hbx1;by_cases hcj:cap=j+1
   ·go_wp2_with (at_builtin;refine wpList_append_own _ rfl _ _ 112 rfl (wr.heap.size+1) 133 ti (.agg #[int 0,int 0,int 0,int 0,int 0,rA,int 0,int 0,int 0,int 0,int 0,int 0,int 0,int 0,rA,int 0]) 16 160 Tryz.underlying112 (yA I3) (yA Z3) (yA S3) (yA B3) rfl (by decide) (.slice a1 n1 c1) j (css.take (j*16)) rfl (yA HO1) ⟨g,0,none⟩ (n-(j+1)) _ (css.drop ((j+1)*16)) rfl ?hlZ ?newsZ ?oneZ ?h63Z ?bytesZ ?baseZ ?_)
    case hlZ=>have:=(yA HOWN).1;(try rw[List.length_drop]);omega
    case newsZ=>
     intro q u hq;have hl:=(yA HOWN).1;rw[List.getElem?_eq_none (by rw[List.length_drop];omega)] at hq;cases hq
    case oneZ=>exact fun u hu=>yA HONE u (List.mem_of_mem_drop hu)
    case h63Z=>have:=yA HNN;unfold maxLen;omega
    case bytesZ=>have:=yA HNN;omega
    case baseZ=>exact(tO0.1 (yA HBX1)).1
    intro v2 w2 o2 g2 i2;obtain⟨a2,n2,c2,rfl⟩:∃a k c,v2=.slice a k c:=by
     rcases o2.2 with⟨e,_⟩ | ⟨g',cp',cur,e,_⟩
     ·exact⟨_,_,_,e⟩
     ·exact⟨_,_,_,e⟩
    have hrw:∀k,k≤wr.heap.size→some k≠(Value.slice a1 n1 c1).ownBlock:=fun k hk e=>by
     rcases(yA HO1).2 with⟨e1,_⟩ | ⟨g',cp',cur,e1,hb',_⟩
     ·rw[e1] at e;cases e
     ·rw[e1] at e;simp only[Value.ownBlock,Option.some.injEq] at e;omega
    have t2:qA wr w2:=⟨g2.os.trans (yA HT1).os,g2.tape.trans (yA HT1).tape,g2.output.trans (yA HT1).output,mO0 (yA HT1).size g2.size,fun k hk _=>(g2.block k (sO0 hk (yA HT1).size) (hrw k (by omega))).trans ((yA HT1).block k hk id)⟩;have hbx2:w2.heap[wr.heap.size]?=some (.cells #[int z0,int z1,int z2,int z3,int z4,.slice fa fn fc,int z6,int z7,int z8,int z9,int z10,int z11,int z12,int z13,.slice ea en ec,int z15] 133):=(g2.block _ (tO0.1 (yA HBX1)).1 (hrw _ (qO0 _))).trans (yA HBX1);have b2:=t2.cell (p:=⟨b,1,none⟩) id h1;have f2:w2.frozen? ⟨b,1,none⟩=false:=(nP0 (w:=wr) (a:=⟨b,1,none⟩) (t2.block b hb id)).trans (yA HFZ 1);have hcss:n-1=j+(n-(j+1)):=by omega
    have HCALL:=uA (yA HHN w2 (.slice a2 n2 c2) t2 (by rw[hcss];exact⟨o2.1,o2.2.imp id (fun ⟨g',cp',cur,e,hb',rest⟩=>⟨g',cp',cur,e,by omega,rest⟩)⟩));have hne:¬wr.heap.size=b:=by omega
    have q0:w2.cell? ⟨wr.heap.size,0,none⟩=some (int z0):=xA hbx2 0;have q1:w2.cell? ⟨wr.heap.size,1,none⟩=some (int z1):=xA hbx2 1;have q2:w2.cell? ⟨wr.heap.size,2,none⟩=some (int z2):=xA hbx2 2;have q3:w2.cell? ⟨wr.heap.size,3,none⟩=some (int z3):=xA hbx2 3;have q4:w2.cell? ⟨wr.heap.size,4,none⟩=some (int z4):=xA hbx2 4;have q5:w2.cell? ⟨wr.heap.size,5,none⟩=some (.slice fa fn fc):=xA hbx2 5;have q6:w2.cell? ⟨wr.heap.size,6,none⟩=some (int z6):=xA hbx2 6;have q7:w2.cell? ⟨wr.heap.size,7,none⟩=some (int z7):=xA hbx2 7;have q8:w2.cell? ⟨wr.heap.size,8,none⟩=some (int z8):=xA hbx2 8;have q9:w2.cell? ⟨wr.heap.size,9,none⟩=some (int z9):=xA hbx2 9;have q10:w2.cell? ⟨wr.heap.size,10,none⟩=some (int z10):=xA hbx2 10;have q11:w2.cell? ⟨wr.heap.size,11,none⟩=some (int z11):=xA hbx2 11;have q12:w2.cell? ⟨wr.heap.size,12,none⟩=some (int z12):=xA hbx2 12;have q13:w2.cell? ⟨wr.heap.size,13,none⟩=some (int z13):=xA hbx2 13;have q14:w2.cell? ⟨wr.heap.size,14,none⟩=some (.slice ea en ec):=xA hbx2 14;have q15:w2.cell? ⟨wr.heap.size,15,none⟩=some (int z15):=xA hbx2 15;clear o2 g2 i2 t2 hbx2 hrw hcss;go_wp2_with (go_at_call 92;refine(yA HCALL).mono ?_;rintro r w3 ⟨rfl,h3⟩;have H3:=uA h3;clear h3);exact yA H3
   ·go_wp2_with (at_builtin;refine wpList_append_own _ rfl _ _ 112 rfl (wr.heap.size+1) 133 ti (.agg #[int 0,int 0,int 0,int 0,int 0,rA,int 0,int 0,int 0,int 0,int 0,int 0,int 0,int 0,rA,int 0]) 16 160 Tryz.underlying112 (yA I3) (yA Z3) (yA S3) (yA B3) rfl (by decide) (.slice a1 n1 c1) j (css.take (j*16)) rfl (yA HO1) ⟨g,(j+1)*16,none⟩ (n-(j+1)) _ (css.drop ((j+1)*16)) rfl ?hlZ ?newsZ ?oneZ ?h63Z ?bytesZ ?baseZ ?_)
    case hlZ=>have:=(yA HOWN).1;(try rw[List.length_drop]);omega
    case newsZ=>
     intro q u hq;rw[List.getElem?_drop] at hq;have:=World.ownsRow.cells (yA HOWN) (g:=g) rfl _ u hq;rw[gP0,sP0] at this;have:=(yA HT1).cell (p:=⟨g,(j+1)*16+q,none⟩) id this;first
      | exact this
      | (rw[gP0];exact this)
    case oneZ=>exact fun u hu=>yA HONE u (List.mem_of_mem_drop hu)
    case h63Z=>have:=yA HNN;unfold maxLen;omega
    case bytesZ=>have:=yA HNN;omega
    case baseZ=>exact(tO0.1 (yA HBX1)).1
    intro v2 w2 o2 g2 i2;obtain⟨a2,n2,c2,rfl⟩:∃a k c,v2=.slice a k c:=by
     rcases o2.2 with⟨e,_⟩ | ⟨g',cp',cur,e,_⟩
     ·exact⟨_,_,_,e⟩
     ·exact⟨_,_,_,e⟩
    have hrw:∀k,k≤wr.heap.size→some k≠(Value.slice a1 n1 c1).ownBlock:=fun k hk e=>by
     rcases(yA HO1).2 with⟨e1,_⟩ | ⟨g',cp',cur,e1,hb',_⟩
     ·rw[e1] at e;cases e
     ·rw[e1] at e;simp only[Value.ownBlock,Option.some.injEq] at e;omega
    have t2:qA wr w2:=⟨g2.os.trans (yA HT1).os,g2.tape.trans (yA HT1).tape,g2.output.trans (yA HT1).output,mO0 (yA HT1).size g2.size,fun k hk _=>(g2.block k (sO0 hk (yA HT1).size) (hrw k (by omega))).trans ((yA HT1).block k hk id)⟩;have hbx2:w2.heap[wr.heap.size]?=some (.cells #[int z0,int z1,int z2,int z3,int z4,.slice fa fn fc,int z6,int z7,int z8,int z9,int z10,int z11,int z12,int z13,.slice ea en ec,int z15] 133):=(g2.block _ (tO0.1 (yA HBX1)).1 (hrw _ (qO0 _))).trans (yA HBX1);have b2:=t2.cell (p:=⟨b,1,none⟩) id h1;have f2:w2.frozen? ⟨b,1,none⟩=false:=(nP0 (w:=wr) (a:=⟨b,1,none⟩) (t2.block b hb id)).trans (yA HFZ 1);have hcss:n-1=j+(n-(j+1)):=by omega
    have HCALL:=uA (yA HHN w2 (.slice a2 n2 c2) t2 (by rw[hcss];exact⟨o2.1,o2.2.imp id (fun ⟨g',cp',cur,e,hb',rest⟩=>⟨g',cp',cur,e,by omega,rest⟩)⟩));have hne:¬wr.heap.size=b:=by omega
    have q0:w2.cell? ⟨wr.heap.size,0,none⟩=some (int z0):=xA hbx2 0;have q1:w2.cell? ⟨wr.heap.size,1,none⟩=some (int z1):=xA hbx2 1;have q2:w2.cell? ⟨wr.heap.size,2,none⟩=some (int z2):=xA hbx2 2;have q3:w2.cell? ⟨wr.heap.size,3,none⟩=some (int z3):=xA hbx2 3;have q4:w2.cell? ⟨wr.heap.size,4,none⟩=some (int z4):=xA hbx2 4;have q5:w2.cell? ⟨wr.heap.size,5,none⟩=some (.slice fa fn fc):=xA hbx2 5;have q6:w2.cell? ⟨wr.heap.size,6,none⟩=some (int z6):=xA hbx2 6;have q7:w2.cell? ⟨wr.heap.size,7,none⟩=some (int z7):=xA hbx2 7;have q8:w2.cell? ⟨wr.heap.size,8,none⟩=some (int z8):=xA hbx2 8;have q9:w2.cell? ⟨wr.heap.size,9,none⟩=some (int z9):=xA hbx2 9;have q10:w2.cell? ⟨wr.heap.size,10,none⟩=some (int z10):=xA hbx2 10;have q11:w2.cell? ⟨wr.heap.size,11,none⟩=some (int z11):=xA hbx2 11;have q12:w2.cell? ⟨wr.heap.size,12,none⟩=some (int z12):=xA hbx2 12;have q13:w2.cell? ⟨wr.heap.size,13,none⟩=some (int z13):=xA hbx2 13;have q14:w2.cell? ⟨wr.heap.size,14,none⟩=some (.slice ea en ec):=xA hbx2 14;have q15:w2.cell? ⟨wr.heap.size,15,none⟩=some (int z15):=xA hbx2 15;clear o2 g2 i2 t2 hbx2 hrw hcss;go_wp2_with (go_at_call 92;refine(yA HCALL).mono ?_;rintro r w3 ⟨rfl,h3⟩;have H3:=uA h3;clear h3);exact yA H3
theorem FrC.shape {w:World}{ρ:zA}{l:LFr}{cs:List Value}(h:FrC w ρ l cs):∃(z0 z1 z2 z3 z4 z6 z7 z8 z9 z10 z11 z12 z13 z15:Int) (fa ea:Option Addr) (fn fc en ec:Nat),cs=[int z0,int z1,int z2,int z3,int z4,.slice fa fn fc,int z6,int z7,int z8,int z9,int z10,int z11,int z12,int z13,.slice ea en ec,int z15]:=by
 unfold FrC at h;split at h
 ·obtain⟨fv,⟨a,c,rfl,_⟩,rfl⟩:=h;exact⟨_,_,_,_,_,_,_,_,_,_,_,_,_,_,_,_,_,_,_,_,rfl⟩
 ·exact⟨_,_,_,_,_,_,_,_,_,_,_,_,_,_,_,_,_,_,_,_,h⟩
 ·exact⟨_,_,_,_,_,_,_,_,_,_,_,_,_,_,_,_,_,_,_,_,h⟩
 ·obtain⟨fv,⟨a,c,rfl,_⟩,rfl⟩:=h;exact⟨_,_,_,_,_,_,_,_,_,_,_,_,_,_,_,_,_,_,_,_,rfl⟩
 ·obtain⟨ev,hr,rfl⟩:=h;obtain⟨a,c,rfl,_⟩:=uQ0 hr;exact⟨_,_,_,_,_,_,_,_,_,_,_,_,_,_,_,_,_,_,_,_,rfl⟩
theorem qB0 {x y:Nat}:∀{l:List LFr} {j:Nat} {k:LFr},l[j]?=some k→LFr.on x y k=true→(∀i,i<j→∀a,l[i]?=some a→LFr.on x y a=false)→l.eraseP (LFr.on x y)=l.take j++l.drop (j+1)
 | [],_,_,h,_,_=>by simp at h
 | a::l,0,k,h,hk,_=>by
  simp only[List.getElem?_cons_zero,Option.some.injEq] at h;subst h;rw[List.eraseP_cons_of_pos hk];rfl
 | a::l,j+1,k,h,hk,hno=>by
  have ha:=hno 0 (by omega) a rfl;rw[List.eraseP_cons_of_neg (by rw[ha];simp)]
  simp only[List.getElem?_cons_succ] at h;rw[qB0 h hk (fun i hi b hb=>hno (i+1) (by omega) b (by simpa using hb))];rfl
theorem vO {k:Nat}:∀{css:List (List Value)},(∀cs,cs∈css→cs.length=k)→∀j,css.flatten.take (j*k)=(css.take j).flatten
 | [],_,j=>by simp
 | c::css,hl,0=>by simp
 | c::css,hl,j+1=>by
  have hc:=hl c (lO0 ..);have ih:=vO (fun cs hcs=>hl cs (kO0 _ hcs)) j;rw[List.flatten_cons,List.take_succ_cons,List.flatten_cons,List.take_append,List.take_of_length_le (by rw[hc,Nat.add_mul];omega),hc,show (j+1)*k-k=j*k by rw[Nat.add_mul];omega,ih]
theorem uO {k:Nat}:∀{css:List (List Value)},(∀cs,cs∈css→cs.length=k)→∀j,css.flatten.drop (j*k)=(css.drop j).flatten
 | [],_,j=>by simp
 | c::css,hl,0=>by simp
 | c::css,hl,j+1=>by
  have hc:=hl c (lO0 ..);have ih:=uO (fun cs hcs=>hl cs (kO0 _ hcs)) j;rw[List.flatten_cons,List.drop_succ_cons,List.drop_append,List.drop_of_length_le (by rw[hc,Nat.add_mul];omega),List.nil_append,hc,show (j+1)*k-k=j*k by rw[Nat.add_mul];omega,ih]
theorem sB0 {x y:Nat}:∀{l:List LFr} {f:Fr} {r:List Fr},(l.filter (LFr.on x y)).map LFr.f=f::r→∃j:Nat,l[j]?=some (⟨x,y,f⟩:LFr)∧∀i,i<j→∀a,l[i]?=some a→LFr.on x y a=false
 | [],_,_,h=>by simp at h
 | a::l,f,r,h=>by
  by_cases ha:LFr.on x y a=true
  ·rw[List.filter_cons_of_pos ha,List.map_cons] at h;cases h;refine⟨0,?_,fun i hi=>by omega⟩;simp only[LFr.on,oP0] at ha;cases a
   simp only at ha;rw[←ha.1,←ha.2];rfl
  ·rw[List.filter_cons_of_neg ha] at h;obtain⟨j,h1,h2⟩:=sB0 h;refine⟨j+1,by simpa using h1,fun i hi b hb=>?_⟩;cases i with
   | zero=>
    simp only[List.getElem?_cons_zero,Option.some.injEq] at hb;subst hb;simpa using ha
   | succ i=>exact h2 i (by omega) b (by simpa using hb)
section
variable {w : World} {b : Nat} {ρ : Nat → Option Role} {σ : Net}
theorem Fit.canHan {m:Nat}(F:Fit σ m)(hm:m<2000000000000){x y:Nat}{f:Fr}{r:List Fr}(hq:σ.q x y=f::r):tM0 {σ with q:=xB σ.q x y r} y x f:=by
 have hc:=F.can hm hq;have hok:=F.good.frames x y f (by rw[hq];exact lO0 ..);have hn:=F.good.nbr x y (by rw[hq];simp)
 have h6:=dB F.good.tree hn;cases f with
 | sub s age fl=>exact hc
 | unsub s age=>exact hc
 | event e=>exact hc
 | move s age fl old new=>exact⟨hc.1,hc.2.1⟩
 | rest s evs mo new=>
  refine⟨hc.1,hc.2.1,fun e=>?_⟩;obtain⟨g,hR⟩:=hc.2.2 e;have hs2:2*(s/2)+s%2=s:=by omega
  have hk:=hR.known;rw[hs2] at hk;have hk0:σ.kn y s=some g:=hk;have hS:=F.r.slack.pop h6.1 h6.2 hq s;have hmK:oB (σ.kn y s)≤σ.massK s:=jI (f:=fun b=>oB (σ.kn b s)) h6.2;rw[hk0] at hmK;have hkl:oB (some g)=g.kept.length:=rfl;have hrl:tC s (.rest s evs mo new)=evs.length:=by simp[tC]
  have hmass:g.kept.length≤Net.mass {σ with q:=xB σ.q x y r} s:=by
   show _≤σ.massK s+_
   omega
  have hT1:=hS.told s hc.1;have hT2:=hS.log (s/2) (by have:s<8:=hc.1;omega);rw[if_pos rfl,hrl] at hT1 hT2;have hmass2:g.kept.length≤Net.mass {σ with q:=xB σ.q x y r} (2*(s/2))+Net.mass {σ with q:=xB σ.q x y r} (2*(s/2)+1):=by
   by_cases e:s%2=0
   ·rw[show 2*(s/2)=s by omega];omega
   ·rw[show 2*(s/2)+1=s by omega];omega
  have ht0:Net.toldN {σ with q:=xB σ.q x y r} s=((σ.cl (s/2)).told (s%2)).length:=rfl;have hl0:(Net.cl {σ with q:=xB σ.q x y r} (s/2)).log.length=(σ.cl (s/2)).log.length:=rfl;exact⟨g,hk,by show (σ.cl (s/2)).log.length+1+_+_<_;omega,by show ((σ.cl (s/2)).told (s%2)).length+_+_<_;omega⟩
theorem rD0 (σ:Net)(x y:Int)(T:Tree σ.par):qF σ.par x y=σ.isLink x y:=by
 unfold qF Net.isLink;by_cases h0:0≤x∧0≤y
 ·cases hn:iB σ.par x.toNat y.toNat with
  | false=>simp
  | true=>
   have:=bB T hn;rw[decide_eq_true (show 0≤x∧0≤y∧x<(size σ.par:Int)∧y<(size σ.par:Int) by omega),decide_eq_true h0]
 ·rw[pP0 (show ¬(0≤x∧0≤y∧x<(size σ.par:Int)∧y<(size σ.par:Int)) by omega),pP0 h0]
set_option maxRecDepth 100000 in
set_option maxHeartbeats 1000000 in
theorem nO (hc:w.cell? ⟨b,55,none⟩=some (.bool true))(x y:Int):Calls Tryz.prog 57 #[.pointer (some ⟨b,0,none⟩),int x,int y] w fun e w'=>e=.returned (int 2)∧w'=w:=by
 go_enter Tryz.func57,Tryz.ntmps57
 go_wp2;go_ret
 exact⟨rfl,rfl⟩
set_option maxRecDepth 100000 in
set_option maxHeartbeats 1000000 in
theorem nB0 (hc:w.cell? ⟨b,55,none⟩=some (.bool false))(x y:Int)(HN:Hid (Calls Tryz.prog 78 #[.pointer (some ⟨b,0,none⟩),int x,int y] w fun e w'=>e=.returned (.bool false)∧w'=w)):Calls Tryz.prog 57 #[.pointer (some ⟨b,0,none⟩),int x,int y] w fun e w'=>e=.returned (int 1)∧w'=w:=by
 go_enter Tryz.func57,Tryz.ntmps57
 go_wp2_with (go_at_call 78;refine(yA HN).mono ?_;rintro e w1 ⟨rfl,hw1⟩;have hw1:=hw1.symm;subst hw1)
 go_ret;exact⟨rfl,rfl⟩
theorem jL0 (h:RG w b ρ σ){m:Nat}(F:Fit σ m)(hm:m<2000000000000)(x y:Int):
    Calls Tryz.prog 57 #[.pointer (some ⟨b,0,none⟩),int x,int y] w fun e w'=>e=.returned (int (σ.delE x y))∧∃ρ',RG w' b ρ' (σ.del x y)∧Mv uB ρ ρ' w w':=by
  have no:∀E:Int,σ.delE x y=E→E≠0→Calls Tryz.prog 57 #[.pointer (some ⟨b,0,none⟩),int x,int y] w (fun e w'=>e=.returned (int E)∧w'=w)→Calls Tryz.prog 57 #[.pointer (some ⟨b,0,none⟩),int x,int y] w fun e w'=>e=.returned (int (σ.delE x y))∧∃ρ',RG w' b ρ' (σ.del x y)∧Mv uB ρ ρ' w w':=fun E hE hne hc=>by
    refine hc.mono ?_;rintro e w' ⟨rfl,rfl⟩
    have:σ.del x y=σ:=by unfold Net.del;rw[if_neg (by rw[hE];exact hne)]
    rw[this,hE];exact⟨rfl,ρ,h,aP0 h.lt⟩
  have T:=F.good.tree;have hs6:size σ.par≤6:=gB T;have hcc:w.cell? ⟨b,55,none⟩=some (.bool σ.closed):=by
    obtain⟨R,h1,rfl,_⟩:=h;exact h1.closed
  have hNR:=kN b σ.par x y w h.parsAt hs6;rw[rD0 σ x y T] at hNR;cases hcl:σ.closed with
  | true=>
    rw[hcl] at hcc;have hE:σ.delE x y=2:=by unfold Net.delE Net.asked;rw[hcl];simp
    exact no 2 hE (by omega) (nO hcc x y)
  | false=>
    rw[hcl] at hcc;cases hlk:σ.isLink x y with
    | false=>
      rw[hlk] at hNR;have hE:σ.delE x y=1:=by unfold Net.delE Net.asked;rw[hcl,hlk];simp
      exact no 1 hE (by omega) (nB0 hcc x y (uA hNR))
    | true=>
      rw[hlk] at hNR;have hlk':=hlk;unfold Net.isLink at hlk';simp only[qP0,oP0] at hlk';obtain⟨⟨hx0,hy0⟩,hnr⟩:=hlk';obtain⟨u,rfl⟩:∃u:Nat,x=u:=⟨x.toNat,by omega⟩;obtain⟨v,rfl⟩:∃v:Nat,y=v:=⟨y.toNat,by omega⟩;rw[iO0,iO0] at hnr;have h6:=dB T hnr;have hvn:v<σ.n:=(bB T hnr).2;have hwt:=F.waiting;have hE:σ.delE u v=if σ.q u v=[] then 7 else 0:=by unfold Net.delE Net.asked;rw[hcl,hlk];simp
      cases hq:σ.q u v with
      | nil=>
        rw[hq,if_pos rfl] at hE;obtain⟨R,h1,rfl,h3⟩:=id h;rw[h3.waiting] at hwt;refine no 7 hE (by omega) (oQ hcc h1.frameHeads (by omega) (uA hNR) (fun i hi hh=>?_));obtain⟨k,hk⟩:∃k,R.fr[i]?=some k:=⟨_,pO0 hi⟩;unfold frA frB at hh;rw[hk] at hh;have hm':k∈R.fr.filter (LFr.on u v):=dO0.2 ⟨vP0 hk,by simp only[LFr.on,oP0];simp only at hh;omega⟩;have:(R.fr.filter (LFr.on u v)).map LFr.f=[]:=hq;rw[List.map_eq_nil_iff] at this;rw[this] at hm';cases hm'
      | cons f r=>
        rw[hq,if_neg (by simp)] at hE;have hD:σ.del u v=Net.handle {σ with q:=xB σ.q u v r} v (some u) f:=by
          unfold Net.del;rw[if_pos hE,iO0,iO0,hq]
        rw[hE,hD];have hCH:=F.canHan hm hq;have hlen:∀a z,(xB σ.q u v r a z).length<2000:=fun a z=>by
          by_cases e:a=u∧z=v
          · obtain⟨rfl,rfl⟩:=e
            rw[put2_same];have:=F.len a z;rw[hq,gO0] at this;omega
          · rw[jA _ _ e];exact F.len a z
        obtain⟨R,h1,rfl,h3⟩:=id h;rw[h3.waiting] at hwt;obtain⟨j,hj,hbef⟩:=sB0 hq;have hjl:j<R.fr.length:=(rO0.1 hj).1;obtain⟨vf,g1,css,c1,c2,c3⟩:=h1.frames;have hall:∀cs,cs∈css→cs.length=16:=fun cs hm=>by
          obtain⟨i,hi⟩:=List.getElem?_of_mem hm;have hil:i<css.length:=(rO0.1 hi).1;obtain⟨a',ha'⟩:∃a',R.fr[i]?=some a':=⟨_,pO0 (by omega)⟩;exact FrC.len a' cs (c3 i a' cs ha' hi)
        obtain⟨g,cap,cs,e,hgr,hFC,hcell⟩:=(show PiecesAt w ρ (.chan 0 0) 133 16 (FrC w ρ) R.fr vf from ⟨css,c1,c2,c3⟩).at FrC.len hj;subst e;obtain⟨z0,z1,z2,z3,z4,z6,z7,z8,z9,z10,z11,z12,z13,z15,fa,ea,fn,fc,en,ec,rfl⟩:=hFC.shape;have hHH:=h1.frameHeads;obtain⟨a',cap',e1,hheads⟩:=hHH;rw[g1] at e1;cases e1
        have hones:∀q,q∈css.flatten→q.oneCell'=true:=fun q hq'=>by
          obtain⟨cs,hcs,hqc⟩:=List.mem_flatten.1 hq';obtain⟨i,hi⟩:=List.getElem?_of_mem hcs;have hil:i<css.length:=(rO0.1 hi).1;obtain⟨a',ha'⟩:∃a',R.fr[i]?=some a':=⟨_,pO0 (by omega)⟩;exact(c3 i a' cs ha' hi).ones q hqc
        have hgb:b≠g:=fun e=>by have:=h1.net;rw[e,hgr] at this;cases this
        refine kY (j:=j) hcc g1 c2.1 hones hheads (by omega) hjl h1.fr hgb (uA hNR) ⟨by unfold frA;rw[hj],by unfold frB;rw[hj]⟩ (fun i hi hh=>?_) (hcell 0 _ rfl) (hcell 1 _ rfl) (hcell 2 _ rfl) (hcell 3 _ rfl) (hcell 4 _ rfl) (hcell 5 _ rfl) (hcell 6 _ rfl) (hcell 7 _ rfl) (hcell 8 _ rfl) (hcell 9 _ rfl) (hcell 10 _ rfl) (hcell 11 _ rfl) (hcell 12 _ rfl) (hcell 13 _ rfl) (hcell 14 _ rfl) (hcell 15 _ rfl) (fun w2 v2 t2 o2=>?_)
        · obtain⟨k,hk⟩:∃k,R.fr[i]?=some k:=⟨_,pO0 (by omega)⟩
          have:=hbef i hi k hk;unfold frA frB at hh;rw[hk] at hh;simp only[LFr.on,decide_eq_false_iff_not] at this;simp only at hh;exact this ⟨by omega,by omega⟩
        · obtain⟨ρ',G⟩:=eR h1 (.chan 0 0) g1 t2 o2
          have hpop:(R.pop u v).fr=R.fr.take j++R.fr.drop (j+1):=qB0 hj (by simp[LFr.on]) hbef;have hX:RX (w2.setCell ⟨b,1,none⟩ v2) b ρ' (R.pop u v):=by
            have:=h1.frames' G (fr:=(R.pop u v).fr) (css:=css.take j++css.drop (j+1)) (by rw[hpop,hO0,List.length_take,List.length_drop];omega) (by rw[hpop];simp only[hO0,List.length_take,List.length_drop];omega) (by rw[vO hall,uO hall,List.flatten_append]) (fun i a cs' ha hcs'=>by
              rw[hpop] at ha;by_cases hij:i<j
              · rw[oO0 (by rw[List.length_take];omega),uP0,if_pos hij] at ha
                rw[oO0 (by rw[List.length_take];omega),uP0,if_pos hij] at hcs';exact c3 i a cs' ha hcs'
              · rw[nO0 (by rw[List.length_take];omega),List.getElem?_drop] at ha hcs'
                rw[List.length_take] at ha hcs';rw[show min j css.length=min j R.fr.length by omega] at hcs'
                exact c3 _ a cs' ha hcs')
            exact this
          have hRG:RG (w2.setCell ⟨b,1,none⟩ v2) b ρ' {R.net with q:=xB R.net.q u v r}:=⟨_,hX,lM0 hq,h3.pop u v⟩;have hFC':=G.mv.frC hFC (by simp) (by simp);refine(vN0 hRG T hvn h6.1 hlen hFC' hCH).mono ?_;rintro r' w' ⟨rfl,ρ2,k1,k2⟩
          exact⟨rfl,rfl,ρ2,k1,(G.mv.mono (fun _ _=>trivial)).trans k2⟩
end
section
variable {B : Nat} {kp : Nat → Prop} {wk w0 w : World} {bw : Nat} {nets : List Tw} {p : Nat}
theorem iW (h:St B kp wk w0 bw nets p w){i:Nat}{t:Tw}(hi:nets[i]?=some t)(hp:p≤1000000000)(x y:Int):
  Calls Tryz.prog 56 #[.pointer (some ⟨t.bx,0,none⟩),int x,int y] w fun e w'=>e=.returned (int (t.σ.delE x y))∧St B kp wk w0 bw (nets.set i {t with σ:=t.σ.del x y}) (p+1) w':=
 h.x hi (fun ρ hc F X=>iL0 X F (by omega) x y) (fun F=>F.del x y) (fun hc X=>by
  obtain⟨e1,e2⟩:=sT hc x y;rw[e1,e2]
  exact⟨lL0 X x y,rfl⟩)
theorem RG.shut {b:Nat}{ρ:zA}{σ:Net}(h:RG w b ρ σ)(hc:σ.closed=true):w.cell? ⟨b,55,none⟩=some (.bool true):=by
 obtain⟨R,h1,rfl,_⟩:=h;have:=h1.closed;rw[show R.closed=true from hc] at this;exact this
theorem gW (h:St B kp wk w0 bw nets p w){i:Nat}{t:Tw}(hi:nets[i]?=some t)(hp:p≤1000000000)(x y:Int):
  Calls Tryz.prog 57 #[.pointer (some ⟨t.br,0,none⟩),int x,int y] w fun e w'=>e=.returned (int (t.τ.delE x y))∧St B kp wk w0 bw (nets.set i {t with τ:=t.τ.del x y}) (p+1) w':=by
 refine h.r hi (fun ρ HF R=>?_) (fun HF hc=>?_)
 ·cases hc:t.τ.closed with
  | false=>
   have F:=HF hc;exact jL0 R F (by omega) x y
  | true=>
   obtain⟨e1,e2⟩:=sT hc x y;rw[e1,e2];refine(nO (R.shut hc) x y).mono ?_;rintro e w' ⟨rfl,q⟩
   exact⟨rfl,ρ,by rw[q];exact R,by rw[q];exact aP0 R.lt⟩
 ·cases h2:t.τ.closed with
  | false=>exact(HF h2).del x y
  | true=>
   have hc2:=h2;obtain⟨e1,e2⟩:=sT h2 x y;rw[e2] at hc;rw[hc] at hc2;cases hc2
end
end Go.Proofs.YtodfcpblcpogiaaGreat

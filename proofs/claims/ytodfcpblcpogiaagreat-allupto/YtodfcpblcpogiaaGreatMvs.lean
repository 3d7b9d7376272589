import Derived.Test.YtodfcpblcpogiaaGreatSpr
import Derived.Test.YtodfcpblcpogiaaGreatSub
import Derived.Deep.RegionHeld3
import Derived.Test.YtodfcpblcpogiaaGreatCli
namespace Go.Proofs.YtodfcpblcpogiaaGreat
open Go.RowKit
theorem jI0 {par:List Nat}(T:Tree par){b:Nat}(h0:0<b)(hb:b<size par):up par b<b:=by
 have h1:=T.2 (b-1) (by simp only[size] at hb;omega);have h2:up par b=par.getD (b-1) 0:=rfl;rw[h2];omega
theorem cW {par:List Nat}(T:Tree par){x:Nat}:∀(f b:Nat),b<size par→b≤x→mO par f b x=none
 | 0,_,_,_=>rfl
 | f+1,b,hb,hle=>by
  unfold mO;by_cases h0:b=0
  ·rw[if_pos h0]
  ·rw[if_neg h0];have hu:=jI0 T (by omega) hb;rw[if_neg (by omega)];exact cW T f (up par b) (by omega) (by omega)
structure Climbs (par:List Nat)(x h b:Nat):Prop where
 lt:b<size par
 same:∃f,mO par 6 h x=mO par f b x∧b<f
 pos:x=0→0<b
theorem Climbs.start {par:List Nat}(T:Tree par){x h:Nat}(hh:h<size par)(hne:x≠h):Climbs par x h h:=
 ⟨hh,⟨6,rfl,sO0 hh (gB T)⟩,fun e=>by omega⟩
theorem Climbs.on {par:List Nat}(T:Tree par){x h b:Nat}(c:Climbs par x h b)(hb:x<b)(hu:up par b≠x):Climbs par x h (up par b):=by
 have hl:=jI0 T (by omega:0<b) c.lt;obtain⟨f,h1,h2⟩:=c.same;refine⟨by have:=c.lt;omega,?_,fun e=>by omega⟩;cases f with
 | zero=>omega
 | succ f=>
  refine⟨f,?_,by omega⟩;rw[h1];conv=>lhs;unfold mO;rw[if_neg (by omega),if_neg hu]
theorem Climbs.found {par:List Nat}{x h b:Nat}(c:Climbs par x h b)(hb:x<b)(hu:up par b=x):tB par x h=b:=by
 obtain⟨f,h1,h2⟩:=c.same;unfold tB;rw[h1];cases f with
 | zero=>omega
 | succ f=>
  have:mO par (f+1) b x=some b:=by
   unfold mO;rw[if_neg (by omega),if_pos hu]
  rw[this]
theorem Climbs.away {par:List Nat}(T:Tree par){x h b:Nat}(c:Climbs par x h b)(hb:b≤x):tB par x h=up par x∧0<x:=by
 obtain⟨f,h1,h2⟩:=c.same;unfold tB;rw[h1,cW T f b c.lt hb];exact⟨rfl,by have:=c.pos;omega⟩
set_option maxRecDepth 100000 in
set_option maxHeartbeats 1000000 in
theorem cJ0 (a:Option Addr)(cap:Nat)(par:List Nat)(x h:Nat)(w:World)(T:Tree par)(hx:x<size par)(hh:h<size par)(hne:x≠h)(hp:ParAt w a par):
    Calls Tryz.prog 102 #[.agg #[.slice a par.length cap],int x,int h] w fun e w'=>e=.returned (int (tB par x h:Nat))∧qA w w':=by
  have h5:=T.1;have hst:=Climbs.start T hh hne;have HP:=uA hp;have HS:=uA hst;clear hp hst;go_enter Tryz.func102,Tryz.ntmps102
  go_wp2;obtain⟨W,hW⟩:∃W,w.alloc (.cells #[.slice a par.length cap] 88)=W:=⟨_,rfl⟩
  rw[hW];have hcal:qA w W:=by rw[←hW];exact(cP0 _ _).alloc _
  have hbx:W.heap[w.heap.size]?=some (.cells #[.slice a par.length cap] 88):=by rw[←hW];exact eP0 w _
  have HPW:=uA ((yA HP).calm hcal);have HCAL:=uA hcal;have HBX:=uA hbx;clear hW hcal hbx HP;go_loopw [7] (fun p wr=>∃b:Nat,p=int b∧Climbs par x h b∧qA W wr) (fun p _=>(intOf p).toNat)
  case atStart=>exact⟨h,rfl,yA HS,cP0 _ _⟩
  case round=>
    obtain⟨b,rfl,hC,ht⟩:=hrel;have hpar:=(yA HPW).calm ht;have e0:wr.cell? ⟨w.heap.size,0,none⟩=some (.slice a par.length cap):=xA ((ht.block _ (tO0.1 (yA HBX)).1 id).trans (yA HBX)) 0;have hbl:=hC.lt;have HC:=uA hC;have HT:=uA ht;have HPA:=uA hpar;clear hC ht hpar;have hsz:size par=par.length+1:=rfl;by_cases hgt:x<b
    · have hgi:(x:Int)<b:=by omega
      have hb0:0<b:=by omega
      by_cases hu:up par b=x
      · have hui:((up par b:Nat):Int)=x:=by omega
        go_wp2_with (go_at_call 120;refine(jF a cap par b _ h5 hb0 (by omega) ?_).mono ?_;exact yA HPA;rintro e w1 ⟨rfl,ht1⟩)
        go_ret;exact⟨by rw[(yA HC).found hgt hu];rfl,((yA HCAL).trans (yA HT)).trans ht1⟩
      · have hui:¬((up par b:Nat):Int)=x:=by omega
        have hub:=jI0 T hb0 hbl
        go_wp2_with (first
          | (go_at_call 120;refine(jF a cap par b _ h5 hb0 (by omega) ?_).mono ?_;exact yA HPA;rintro e w1 ⟨rfl,ht1⟩
             replace e0:=ht1.cell (p:=⟨w.heap.size,0,none⟩) id e0;have HPA2:=uA ((yA HPA).calm ht1);have HT2:=uA ((yA HT).trans ht1)
             clear HPA HT)
          | (go_at_call 120;refine(jF a cap par b _ h5 hb0 (by omega) ?_).mono ?_;exact yA HPA2;rintro e w2 ⟨rfl,ht2⟩
             have HT3:=uA ((yA HT2).trans ht2)
             clear HT2))
        go_roundw
        case rel=>exact⟨up par b,rfl,(yA HC).on T hgt hu,yA HT3⟩
        case measure=>simp[intOf];omega
    · have hgi:¬(x:Int)<b:=by omega
      obtain⟨hn,hx0⟩:=(yA HC).away T (by omega);go_wp2_with (go_at_call 120;refine(jF a cap par x _ h5 hx0 (by omega) ?_).mono ?_;exact yA HPA;rintro e w1 ⟨rfl,ht1⟩)
      go_ret;exact⟨by rw[hn];rfl,((yA HCAL).trans (yA HT)).trans ht1⟩
set_option maxRecDepth 100000 in
set_option maxHeartbeats 1000000 in
theorem fE0 {w:World}{b:Nat}{ρ:zA}{σ:Net}(h:XN w b ρ σ)(T:Tree σ.par){x g:Nat}(hx:x<σ.n)(hg:g<σ.n)(hne:x≠g)(hlen:∀y,(σ.q x y).length<2000){f:Fr}{fb:Nat}(hf:FrAt w ρ f fb):
    Calls Tryz.prog 75 #[.pointer (some ⟨b,0,none⟩),int x,int g,ptr fb] w fun e w'=>e=.returned (.tuple #[])∧XN w' b ρ (σ.push x (tB σ.par x g) f)∧Mv (fun o=>∃y,o=.chan x y) ρ ρ w w':=by
  obtain⟨a,cap,ha,hpa⟩:=h.par;have hx6:x<6:=sO0 hx (gB T);obtain⟨hn1,hn2,_⟩:=cB T hx hg hne;have hn6:tB σ.par x g<6:=sO0 hn2 (gB T);have hl:=hlen (tB σ.par x g);have hbl:=h.lt b (by rw[h.net];simp)
  have HX:=uA h;have HPA:=uA hpa;have HF:=uA hf;have HN:=uA hn1;clear h hpa hf hlen hn1 hn2;go_enter Tryz.func75,Tryz.ntmps75
  go_wp2
  go_region_with (first
    | (go_at_call 102;refine(cJ0 a cap σ.par x g _ T hx hg hne ?_).mono ?_;exact(yA HPA).calm (cP0 _ _).drew;rintro e w1 ⟨rfl,ht1⟩
       have ht1:qA w w1:=((cP0 _ _).drew).calm ht1;have HX1:=uA ((yA HX).calm ht1);have HF1:=uA ((yA HF).calm (yA HX).lt ht1);have HM1:Hid (Mv (fun o=>∃y,o=.chan x y) ρ ρ w w1):=zQ0 (yA HX).lt ht1
       clear ht1)
    | (go_at_call 101;refine(sJ0 (x:=x) (y:=tB σ.par x g) (f:=f) (fb:=fb) (yA HX1) hx6 hn6 (yA HN) hl (yA HF1)).mono ?_;rintro e w2 ⟨rfl,hX2,hM2⟩))
  all_goals go_end0
  all_goals exact⟨rfl,hX2,(yA HM1).trans (hM2.mono (fun _ hr=>⟨_,hr⟩))⟩
def qI0 (w W:World)(b o:Nat)(cs:Array Value):Prop:=∃kb,w.heap.size≤kb∧W.heap[kb]?=some (.cells cs 176)∧Touch (fun i=>i=b) w W∧W.heap[b]?=(w.setCell ⟨b,o,none⟩ (ptr kb)).heap[b]?
theorem XN.knew {w W:World}{b:Nat}{ρ:zA}{σ:Net}(h:XN w b ρ σ){x c k:Nat}(hx:x<6)(hc:c<4)(hk:k<2){f:Fact}(hkept:f.kept=[])(hK:qI0 w W b (38+x*8+c*2+k) (eD (2*c+k) f (.slice none 0 0)).toArray):
  ∃ρ',XN W b ρ' (σ.know x (2*c+k) (some f))∧Mv (fun r=>r=.net) ρ ρ' w W:=by
 obtain⟨v,hv1,_⟩:=h.known x c k hx hc hk;obtain⟨kb,h1,h2,h3,hbk⟩:=hK;obtain⟨r1,r2⟩:=h.know (kb:=kb) (W:=W) hx hc hk (f:=f) hkept h1 h2
  (pA hbk (mP0 w _ _ hv1)) (fun o v ho hv=>pA hbk (tA w ho hv)) (by rw[hbk];exact nB h.typ _ _)
  (fun o=>(nP0 (w:=w.setCell ⟨b,38+x*8+c*2+k,none⟩ (ptr kb)) (a:=⟨b,o,none⟩) hbk).trans (qB _ _ _ _ _ (h.fr o))) h3
 exact⟨_,r1,r2⟩
theorem aN {w W:World}{b o:Nat}(v:Value)(hb:W.heap[b]?=w.heap[b]?)(ht:∃cs t,w.heap[b]?=some (.cells cs t)):(W.setCell ⟨b,o,none⟩ v).heap[b]?=(w.setCell ⟨b,o,none⟩ v).heap[b]?:=by
 obtain⟨cs,t,h⟩:=ht;rw[dP0 _ _ _ _ _ _ h,dP0 _ _ _ _ _ _ (hb.trans h)]
theorem cV {w W:World}{b o:Nat}(hcal:qA w W)(hW:W.heap.size=w.heap.size+2)(hb:b<w.heap.size)(ht:∃cs t,w.heap[b]?=some (.cells cs t))(kv mo:Value)(u cs:Array Value):
  qI0 w (((((W.setCell ⟨b,o,none⟩ (ptr (W.heap.size+1))).setCell ⟨w.heap.size+1,0,none⟩ kv).setCell ⟨w.heap.size+1,1,none⟩ mo).alloc (.cells u 140)).alloc (.cells cs 176)).drew b o cs:=by
 have hs:(((W.setCell ⟨b,o,none⟩ (ptr (W.heap.size+1))).setCell ⟨w.heap.size+1,0,none⟩ kv).setCell ⟨w.heap.size+1,1,none⟩ mo).heap.size=W.heap.size:=by simp[World.setCell]
 refine⟨W.heap.size+1,by omega,?_,?_,?_⟩
 ·have:=eP0 ((((W.setCell ⟨b,o,none⟩ (ptr (W.heap.size+1))).setCell ⟨w.heap.size+1,0,none⟩ kv).setCell ⟨w.heap.size+1,1,none⟩ mo).alloc (.cells u 140)) (.cells cs 176);rw[World.size_alloc,hs] at this;exact this
 ·have t0:Touch (fun i=>i=b) w W:=hcal.mono (fun _ _ f=>f.elim);have t1:Touch (fun i=>i=b) w (W.setCell ⟨b,o,none⟩ (ptr (W.heap.size+1))):=t0.setCell (p:=⟨b,o,none⟩) (fun _=>rfl) _;have t2:=t1.setCell (p:=⟨w.heap.size+1,0,none⟩) (fun h=>absurd h (by simp)) kv;have t3:=t2.setCell (p:=⟨w.heap.size+1,1,none⟩) (fun h=>absurd h (by simp)) mo;exact((t3.alloc _).alloc _).drew
 ·have e1:(((((W.setCell ⟨b,o,none⟩ (ptr (W.heap.size+1))).setCell ⟨w.heap.size+1,0,none⟩ kv).setCell ⟨w.heap.size+1,1,none⟩ mo).alloc (.cells u 140)).alloc (.cells cs 176)).drew.heap[b]?=(((W.setCell ⟨b,o,none⟩ (ptr (W.heap.size+1))).setCell ⟨w.heap.size+1,0,none⟩ kv).setCell ⟨w.heap.size+1,1,none⟩ mo).heap[b]?:=
   (kP0 _ _ _ (by rw[World.size_alloc,hs];omega)).trans (kP0 _ _ _ (by rw[hs];omega))
  rw[e1,zB _ _ (by omega),zB _ _ (by omega)];exact aN _ (hcal.block b hb id) ht
theorem tZ {w W:World}{b o:Nat}(hb:b<w.heap.size)(hW:W.heap.size=w.heap.size+2)(hb1:W.heap[w.heap.size+1]?=some (.cells #[.slice none 0 0,int 0] 140))(kv mo:Value)(o1 o2:Obj):
  (((((W.setCell ⟨b,o,none⟩ (ptr (W.heap.size+1))).setCell ⟨w.heap.size+1,0,none⟩ kv).setCell ⟨w.heap.size+1,1,none⟩ mo).alloc o1).alloc o2).cell? ⟨w.heap.size+1,0,none⟩=some kv∧
  (((((W.setCell ⟨b,o,none⟩ (ptr (W.heap.size+1))).setCell ⟨w.heap.size+1,0,none⟩ kv).setCell ⟨w.heap.size+1,1,none⟩ mo).alloc o1).alloc o2).cell? ⟨w.heap.size+1,1,none⟩=some mo:=by
 have hs:(((W.setCell ⟨b,o,none⟩ (ptr (W.heap.size+1))).setCell ⟨w.heap.size+1,0,none⟩ kv).setCell ⟨w.heap.size+1,1,none⟩ mo).heap.size=W.heap.size:=by simp[World.setCell]
 have e0:(W.setCell ⟨b,o,none⟩ (ptr (W.heap.size+1))).heap[w.heap.size+1]?=some (.cells #[.slice none 0 0,int 0] 140):=(zB _ _ (by omega)).trans hb1;have e1:=dP0 _ _ 0 _ _ kv e0;have e2:=dP0 _ _ 1 _ _ mo e1;have e3:(((((W.setCell ⟨b,o,none⟩ (ptr (W.heap.size+1))).setCell ⟨w.heap.size+1,0,none⟩ kv).setCell ⟨w.heap.size+1,1,none⟩ mo).alloc o1).alloc o2).heap[w.heap.size+1]?=_:=
  ((kP0 _ _ _ (by rw[World.size_alloc,hs];omega)).trans (kP0 _ _ _ (by rw[hs];omega))).trans e2
 exact⟨xA e3 0,xA e3 1⟩
set_option maxRecDepth 100000 in
set_option maxHeartbeats 1000000 in
theorem lF0 (b o c k:Nat)(age way a0 a1 a2 a3 a4 a5 a6 a7 a8 a9:Int)(w:World)(hc:c<4)(hk:k<2)(h:w.cell? ⟨b,o+c*2+k,none⟩=some (.pointer none))(hfr:w.frozen? ⟨b,o+c*2+k,none⟩=false)(hty:∃cs t,w.heap[b]?=some (.cells cs t)):
  Calls Tryz.prog 108 #[.pointer (some ⟨b,o,none⟩),.agg #[int c,int k,int age,int a0,int a1,int a2,int a3,int a4,int a5,int a6,int a7,int a8,int a9],int way] w fun e w'=>e=.returned (.agg #[rA,int 0])∧qI0 w w' b (o+c*2+k) #[int c,int k,int age,int a0,int a1,int a2,int a3,int a4,int a5,int a6,int a7,int a8,int a9,int way,.bool false,.slice none 0 0,int 0]:=by
 have hci:(c:Int)<4:=by omega
 have hki:(k:Int)<2:=by omega
 have hb:=fP0 h;simp only at hb;go_enter Tryz.func108,Tryz.ntmps108
 go_wp2;obtain⟨W,hW⟩:∃W,((w.alloc (.cells #[int c,int k,int age,int a0,int a1,int a2,int a3,int a4,int a5,int a6,int a7,int a8,int a9] 137)).alloc (.cells #[.slice none 0 0,int 0] 140))=W:=⟨_,rfl⟩
 rw[hW];have hcal:qA w W:=by rw[←hW];exact((cP0 _ _).alloc _).alloc _
 have h':=hcal.cell (p:=⟨b,o+c*2+k,none⟩) id h;have hWs:W.heap.size=w.heap.size+2:=by rw[←hW];simp
 have hbW:b<W.heap.size:=by omega
 have hwW:w.heap.size<W.heap.size:=by omega
 have hwW1:w.heap.size+1<W.heap.size:=by omega
 have hb1:W.heap[w.heap.size+1]?=some (.cells #[.slice none 0 0,int 0] 140):=by
  rw[←hW];have:=eP0 (w.alloc (.cells #[int c,int k,int age,int a0,int a1,int a2,int a3,int a4,int a5,int a6,int a7,int a8,int a9] 137)) (.cells #[.slice none 0 0,int 0] 140);simpa using this
 have hb0:W.heap[w.heap.size]?=some (.cells #[int c,int k,int age,int a0,int a1,int a2,int a3,int a4,int a5,int a6,int a7,int a8,int a9] 137):=by
  rw[←hW,kP0 _ _ _ (by simp)];exact eP0 w _
 have s0:W.cell? ⟨w.heap.size,0,none⟩=some (int c):=xA hb0 0;have s1:W.cell? ⟨w.heap.size,1,none⟩=some (int k):=xA hb0 1;have s2:W.cell? ⟨w.heap.size,2,none⟩=some (int age):=xA hb0 2;have s3:W.cell? ⟨w.heap.size,3,none⟩=some (int a0):=xA hb0 3;have s4:W.cell? ⟨w.heap.size,4,none⟩=some (int a1):=xA hb0 4;have s5:W.cell? ⟨w.heap.size,5,none⟩=some (int a2):=xA hb0 5;have s6:W.cell? ⟨w.heap.size,6,none⟩=some (int a3):=xA hb0 6;have s7:W.cell? ⟨w.heap.size,7,none⟩=some (int a4):=xA hb0 7;have s8:W.cell? ⟨w.heap.size,8,none⟩=some (int a5):=xA hb0 8;have s9:W.cell? ⟨w.heap.size,9,none⟩=some (int a6):=xA hb0 9;have s10:W.cell? ⟨w.heap.size,10,none⟩=some (int a7):=xA hb0 10;have s11:W.cell? ⟨w.heap.size,11,none⟩=some (int a8):=xA hb0 11;have s12:W.cell? ⟨w.heap.size,12,none⟩=some (int a9):=xA hb0 12;have t0:W.cell? ⟨w.heap.size+1,0,none⟩=some (.slice none 0 0):=xA hb1 0;have t1:W.cell? ⟨w.heap.size+1,1,none⟩=some (int 0):=xA hb1 1;have g1:W.frozen? ⟨w.heap.size+1,0,none⟩=false:=bA hb1 0;have g2:W.frozen? ⟨w.heap.size+1,1,none⟩=false:=bA hb1 1;have hfW:W.frozen? ⟨b,o+c*2+k,none⟩=false:=(nP0 (w:=w) (a:=⟨b,o+c*2+k,none⟩) (hcal.block b hb id)).trans hfr;have HB0:=uA hb0;have HWS:=uA hWs;have HTY:=uA hty;have HB1:=uA hb1;clear hb0 hb1 hW hWs h hty;go_region
 all_goals go_wp2
 all_goals exact bodyPost_ret (v:=.agg #[rA,int 0]) (by simp[results,Tryz.results108,go_sem,tZ hb (yA HWS) (yA HB1)]) rfl ⟨rfl,cV hcal (yA HWS) hb (yA HTY) _ _ _ _⟩
set_option maxRecDepth 100000 in
set_option maxHeartbeats 1000000 in
theorem mF0 (b o c k kb sn sc:Nat)(sa:Option Addr)(mo:Int)(age way a0 a1 a2 a3 a4 a5 a6 a7 a8 a9:Int)(w:World)(hc:c<4)(hk:k<2)(h:w.cell? ⟨b,o+c*2+k,none⟩=some (ptr kb))(k15:w.cell? ⟨kb,15,none⟩=some (.slice sa sn sc))(k16:w.cell? ⟨kb,16,none⟩=some (int mo))(hfr:w.frozen? ⟨b,o+c*2+k,none⟩=false)(hty:∃cs t,w.heap[b]?=some (.cells cs t)):
  Calls Tryz.prog 108 #[.pointer (some ⟨b,o,none⟩),.agg #[int c,int k,int age,int a0,int a1,int a2,int a3,int a4,int a5,int a6,int a7,int a8,int a9],int way] w fun e w'=>e=.returned (.agg #[.slice sa sn sc,int mo])∧qI0 w w' b (o+c*2+k) #[int c,int k,int age,int a0,int a1,int a2,int a3,int a4,int a5,int a6,int a7,int a8,int a9,int way,.bool false,.slice none 0 0,int 0]:=by
 have hci:(c:Int)<4:=by omega
 have hki:(k:Int)<2:=by omega
 have hb:=fP0 h;have hkb:=fP0 k15;simp only at hb hkb;go_enter Tryz.func108,Tryz.ntmps108
 go_wp2;obtain⟨W,hW⟩:∃W,((w.alloc (.cells #[int c,int k,int age,int a0,int a1,int a2,int a3,int a4,int a5,int a6,int a7,int a8,int a9] 137)).alloc (.cells #[.slice none 0 0,int 0] 140))=W:=⟨_,rfl⟩
 rw[hW];have hcal:qA w W:=by rw[←hW];exact((cP0 _ _).alloc _).alloc _
 have h':=hcal.cell (p:=⟨b,o+c*2+k,none⟩) id h;have hWs:W.heap.size=w.heap.size+2:=by rw[←hW];simp
 have k15':=hcal.cell (p:=⟨kb,15,none⟩) id k15;have k16':=hcal.cell (p:=⟨kb,16,none⟩) id k16;have hkW:kb<W.heap.size:=by omega
 have hbW:b<W.heap.size:=by omega
 have hwW:w.heap.size<W.heap.size:=by omega
 have hwW1:w.heap.size+1<W.heap.size:=by omega
 have hb1:W.heap[w.heap.size+1]?=some (.cells #[.slice none 0 0,int 0] 140):=by
  rw[←hW];have:=eP0 (w.alloc (.cells #[int c,int k,int age,int a0,int a1,int a2,int a3,int a4,int a5,int a6,int a7,int a8,int a9] 137)) (.cells #[.slice none 0 0,int 0] 140);simpa using this
 have hb0:W.heap[w.heap.size]?=some (.cells #[int c,int k,int age,int a0,int a1,int a2,int a3,int a4,int a5,int a6,int a7,int a8,int a9] 137):=by
  rw[←hW,kP0 _ _ _ (by simp)];exact eP0 w _
 have s0:W.cell? ⟨w.heap.size,0,none⟩=some (int c):=xA hb0 0;have s1:W.cell? ⟨w.heap.size,1,none⟩=some (int k):=xA hb0 1;have s2:W.cell? ⟨w.heap.size,2,none⟩=some (int age):=xA hb0 2;have s3:W.cell? ⟨w.heap.size,3,none⟩=some (int a0):=xA hb0 3;have s4:W.cell? ⟨w.heap.size,4,none⟩=some (int a1):=xA hb0 4;have s5:W.cell? ⟨w.heap.size,5,none⟩=some (int a2):=xA hb0 5;have s6:W.cell? ⟨w.heap.size,6,none⟩=some (int a3):=xA hb0 6;have s7:W.cell? ⟨w.heap.size,7,none⟩=some (int a4):=xA hb0 7;have s8:W.cell? ⟨w.heap.size,8,none⟩=some (int a5):=xA hb0 8;have s9:W.cell? ⟨w.heap.size,9,none⟩=some (int a6):=xA hb0 9;have s10:W.cell? ⟨w.heap.size,10,none⟩=some (int a7):=xA hb0 10;have s11:W.cell? ⟨w.heap.size,11,none⟩=some (int a8):=xA hb0 11;have s12:W.cell? ⟨w.heap.size,12,none⟩=some (int a9):=xA hb0 12;have t0:W.cell? ⟨w.heap.size+1,0,none⟩=some (.slice none 0 0):=xA hb1 0;have t1:W.cell? ⟨w.heap.size+1,1,none⟩=some (int 0):=xA hb1 1;have g1:W.frozen? ⟨w.heap.size+1,0,none⟩=false:=bA hb1 0;have g2:W.frozen? ⟨w.heap.size+1,1,none⟩=false:=bA hb1 1;have hfW:W.frozen? ⟨b,o+c*2+k,none⟩=false:=(nP0 (w:=w) (a:=⟨b,o+c*2+k,none⟩) (hcal.block b hb id)).trans hfr;have HB0:=uA hb0;have HWS:=uA hWs;have HTY:=uA hty;have HB1:=uA hb1;clear hb0 hb1 hW hWs h hty k15 k16;go_region
 all_goals go_wp2
 all_goals exact bodyPost_ret (v:=.agg #[.slice sa sn sc,int mo]) (by simp[results,Tryz.results108,go_sem,tZ hb (yA HWS) (yA HB1)]) rfl ⟨rfl,cV hcal (yA HWS) hb (yA HTY) _ _ _ _⟩
def jH (x s:Nat)(r:Role):Prop:=r=.net∨r=.kept x s
def sE:Option Fact→List News
 | some f=>f.kept
 | none=>[]
def aJ:Option Fact→Int
 | some f=>f.more
 | none=>0
def rY (ρ:zA)(v:Value):zA:=fun i=>if v.ownBlock=some i then some .rest else ρ i
theorem xO0 {w:World}{b:Nat}{ρ:zA}{σ:Net}(h:XN w b ρ σ){x c k:Nat}(hx:x<6)(hc:c<4)(hk:k<2)(age:Int)(fl:List Tst)(way:Option Nat):
  Calls Tryz.prog 108 #[.pointer (some ⟨b,38+x*8,none⟩),qM0 c k age fl,int (whr way)] w fun e w'=>∃sa sc,∃ρ',e=.returned (.agg #[.slice sa (sE (σ.kn x (2*c+k))).length sc,int (aJ (σ.kn x (2*c+k)))])∧XN w' b ρ' (σ.know x (2*c+k) (some ⟨age,fl,way,[],0,false⟩))∧
   RowAt w' ρ' .rest 181 8 (sE (σ.kn x (2*c+k))).length ((sE (σ.kn x (2*c+k))).flatMap (rC ((2*c+k)%2))) (.slice sa (sE (σ.kn x (2*c+k))).length sc)∧Mv (jH x (2*c+k)) ρ ρ' w w':=by
 obtain⟨v,hv1,hv2⟩:=h.known x c k hx hc hk;have hty:∃cs t,w.heap[b]?=some (.cells cs t):=by obtain⟨cs,h1⟩:=h.typ;exact⟨cs,_,h1⟩
 have hb:=h.lt b (by rw[h.net];simp)
 cases hkn:σ.kn x (2*c+k) with
 | none=>
  rw[hkn] at hv2;have hv2:v=.pointer none:=hv2;subst hv2;refine(lF0 b (38+x*8) c k age (whr way) _ _ _ _ _ _ _ _ _ _ w hc hk hv1 (h.fr _) hty).mono ?_;rintro e w' ⟨rfl,hK⟩
  rw[←sL c k hk] at hK;obtain⟨ρ',r1,r2⟩:=h.knew hx hc hk (f:=⟨age,fl,way,[],0,false⟩) rfl hK;exact⟨none,0,ρ',rfl,r1,⟨⟨rfl,Or.inl ⟨rfl,rfl⟩⟩,fun g hg=>by cases hg⟩,r2.mono (fun _ hr=>Or.inl hr)⟩
 | some f=>
  rw[hkn] at hv2;obtain⟨kb,kv,rfl,hrb,hblk,hrow⟩:=hv2;obtain⟨sa,sc,rfl⟩:∃sa sc,kv=.slice sa f.kept.length sc:=by
   rcases hrow.1.2 with⟨rfl,h0⟩ | ⟨g,cap,cur,rfl,_⟩
   ·exact⟨none,0,by rw[h0]⟩
   ·exact⟨_,_,rfl⟩
  have k15:w.cell? ⟨kb,15,none⟩=some (.slice sa f.kept.length sc):=xA hblk 15;have k16:w.cell? ⟨kb,16,none⟩=some (int f.more):=xA hblk 16;refine(mF0 b (38+x*8) c k kb f.kept.length sc sa f.more age (whr way) _ _ _ _ _ _ _ _ _ _ w hc hk hv1 k15 k16 (h.fr _) hty).mono ?_;rintro e w' ⟨rfl,hK⟩
  rw[←sL c k hk] at hK;obtain⟨nb,n1,n2,n3,n4⟩:=hK;have hgne:∀g,(Value.slice sa f.kept.length sc).ownBlock=some g→g≠b∧g<w.heap.size:=fun g hg=>by
   have h1:=hrow.2 g hg;exact⟨fun e=>(by subst e;rw[h.net] at h1;cases h1),h.lt g (by rw[h1];simp)⟩
  have hrow':w'.ownsRow 0 181 8 (.slice sa f.kept.length sc) f.kept.length (f.kept.flatMap (rC ((2*c+k)%2))):=eA hrow.1 n3 (fun g hg e=>(hgne g hg).1 e);have hmv:Mv (jH x (2*c+k)) ρ (iA (rY ρ (.slice sa f.kept.length sc)) nb (.known x (2*c+k))) w w':=by
   refine⟨n3.mono (fun i _ e=>⟨.net,by rw[e];exact h.net,Or.inl rfl⟩),fun i hi=>?_,fun i hi=>?_⟩
   ·unfold iA rY;rw[if_neg (by omega)];split
    ·rename_i e;exact Or.inr ⟨x,2*c+k,hrow.2 i e,Or.inr rfl,rfl⟩
    ·exact Or.inl rfl
   ·unfold iA rY at hi;split at hi
    ·rename_i e;rw[e];exact(tO0.1 n2).1
    ·split at hi
     ·rename_i e;exact sO0 (hgne i e).2 n3.size
     ·exact sO0 (h.lt i hi) n3.size
  refine⟨sa,sc,_,rfl,?_,⟨hrow',fun g hg=>?_⟩,hmv⟩
  ·refine h.step hmv (fun o=>o=38+x*8+c*2+k) (by rw[n4];exact nB h.typ _ _) (fun o=>(nP0 (w:=w.setCell ⟨b,38+x*8+c*2+k,none⟩ (ptr nb)) (a:=⟨b,o,none⟩) n4).trans (qB _ _ _ _ _ (h.fr o))) (fun o v ho hv=>pA n4 (tA w ho hv)) rfl rfl (by omega) (by omega) (by simp[jH]) (by simp[jH]) (by simp[jH])
    (fun u v _ _=>Or.inl ⟨rfl,by omega,by simp[jH]⟩) (fun u d j hu hd hj=>?_) (fun d hd=>Or.inl ⟨rfl,fun o _ _=>by omega,fun _=>by simp[jH],by simp[jH]⟩)
   by_cases e:u=x∧2*d+j=2*c+k
   ·right
    obtain⟨rfl,e⟩:=e;have:d=c:=by omega
    have:j=k:=by omega
    subst_vars;refine⟨_,pA n4 (mP0 w _ _ hv1),?_⟩;simp only[Net.know,put2_same];exact⟨nb,.slice none 0 0,rfl,by simp[iA],n2,⟨⟨rfl,Or.inl ⟨rfl,rfl⟩⟩,fun g hg=>by cases hg⟩⟩
   ·left
    refine⟨by simp only[Net.know,jA _ _ e],by omega,by simp[jH],?_⟩;simp only[jH,reduceCtorEq,Role.kept.injEq,false_or];exact e
  ·have hg:(Value.slice sa f.kept.length sc).ownBlock=some g:=hg;have:=hgne g hg;unfold iA rY;rw[if_neg (by omega),if_pos hg]
theorem kD0 {w:World}{b o:Nat}(hb:b<w.heap.size)(u cs:Array Value):qI0 w (((w.setCell ⟨b,o,none⟩ (ptr (w.heap.size+1))).alloc (.cells u 137)).alloc (.cells cs 176)).drew b o cs:=by
 have hs:(w.setCell ⟨b,o,none⟩ (ptr (w.heap.size+1))).heap.size=w.heap.size:=by simp[World.setCell]
 refine⟨w.heap.size+1,by omega,?_,?_,?_⟩
 ·have:=eP0 ((w.setCell ⟨b,o,none⟩ (ptr (w.heap.size+1))).alloc (.cells u 137)) (.cells cs 176);rw[World.size_alloc,hs] at this;exact this
 ·exact((((cP0 (fun i=>i=b) w).setCell (p:=⟨b,o,none⟩) (fun _=>rfl) _).alloc _).alloc _).drew
 ·exact(kP0 _ _ _ (by rw[World.size_alloc,hs];omega)).trans (kP0 _ _ _ (by rw[hs];omega))
set_option maxRecDepth 100000 in
set_option maxHeartbeats 1000000 in
theorem vI0 (b o c k:Nat)(age a0 a1 a2 a3 a4 a5 a6 a7 a8 a9:Int)(w:World)(v:Value)(hc:c<4)(hk:k<2)(h:w.cell? ⟨b,o+c*2+k,none⟩=some v)(hfr:w.frozen? ⟨b,o+c*2+k,none⟩=false):
  Calls Tryz.prog 74 #[.pointer (some ⟨b,o,none⟩),.agg #[int c,int k,int age,int a0,int a1,int a2,int a3,int a4,int a5,int a6,int a7,int a8,int a9]] w fun e w'=>e=.returned (.tuple #[])∧qI0 w w' b (o+c*2+k) #[int c,int k,int age,int a0,int a1,int a2,int a3,int a4,int a5,int a6,int a7,int a8,int a9,int (-1),.bool true,.slice none 0 0,int 0]:=by
 have hci:(c:Int)<4:=by omega
 have hki:(k:Int)<2:=by omega
 have hb:=fP0 h;simp only at hb;go_enter Tryz.func74,Tryz.ntmps74
 go_wp2;go_region
 all_goals go_wp2
 all_goals go_end0
 all_goals exact⟨rfl,kD0 hb _ _⟩
theorem zE0 (c k:Nat)(hk:k<2)(age:Int)(fl:List Tst):(eD (2*c+k) ⟨age,fl,none,[],0,true⟩ (.slice none 0 0)).toArray=#[int c,int k,int age,int (sA fl 0).fld,int (sA fl 0).op,int (sA fl 0).n,int (sA fl 1).fld,int (sA fl 1).op,int (sA fl 1).n,int (sA fl 2).fld,int (sA fl 2).op,int (sA fl 2).n,int fl.length,int (-1),.bool true,.slice none 0 0,int 0]:=by
 have h1:(2*c+k)/2=c:=by omega
 have h2:(2*c+k)%2=k:=by omega
 simp only[eD,h1,h2];rfl
theorem awaitX {w:World}{b:Nat}{ρ:zA}{σ:Net}(h:XN w b ρ σ){x c k:Nat}(hx:x<6)(hc:c<4)(hk:k<2)(age:Int)(fl:List Tst):
  Calls Tryz.prog 74 #[.pointer (some ⟨b,38+x*8,none⟩),qM0 c k age fl] w fun e w'=>e=.returned (.tuple #[])∧∃ρ',XN w' b ρ' (σ.know x (2*c+k) (some ⟨age,fl,none,[],0,true⟩))∧Mv (fun r=>r=.net) ρ ρ' w w':=by
 obtain⟨v,hv1,hv2⟩:=h.known x c k hx hc hk;refine(vI0 b (38+x*8) c k age _ _ _ _ _ _ _ _ _ _ w v hc hk hv1 (h.fr _)).mono ?_;rintro e w' ⟨rfl,hK⟩
 rw[←zE0 c k hk] at hK;exact⟨rfl,h.knew hx hc hk (f:=⟨age,fl,none,[],0,true⟩) rfl hK⟩
def uB (_:Role):Prop:=True
theorem XN.addFrame {w w':World}{b:Nat}{ρ:zA}{σ:Net}(h:XN w b ρ σ)(t:qA w w'){fb:Nat}(h1:w.heap.size≤fb)(h2:fb<w'.heap.size):XN w' b (iA ρ fb .frame) σ∧Mv (fun _=>False) ρ (iA ρ fb .frame) w w':=by
 have hrole:∀k,k<w.heap.size→iA ρ fb .frame k=ρ k:=fun k hk=>by unfold iA;rw[if_neg (by omega)]
 have hlt:∀k,iA ρ fb .frame k≠none→k<w'.heap.size:=fun k hk=>by
  unfold iA at hk;split at hk
  ·rename_i e;rw[e];exact h2
  ·exact sO0 (h.lt k hk) t.size
 have hb:=h.lt b (by rw[h.net];simp)
 have hbk:=t.block b hb id;refine⟨?_,⟨t.mono (fun _ _ f=>f.elim),fun k hk=>Or.inl (hrole k hk),hlt⟩⟩;refine h.step' (S:=fun _=>False) (fun {k r} hr _=>?_) (hrole b hb) hlt (fun _=>False) (by rw[hbk];exact h.typ) (fun o=>(nP0 (w:=w) (a:=⟨b,o,none⟩) hbk).trans (h.fr o)) (fun o v _ hc=>pA hbk hc) rfl rfl id id id id id
  (fun x y _ _=>Or.inl ⟨rfl,id,id⟩) (fun x c k _ _ _=>Or.inl ⟨rfl,id,id,id⟩) (fun c _=>Or.inl ⟨rfl,fun _ _ _=>id,fun _=>id,id⟩)
 have hk:=h.lt k (by rw[hr];simp)
 exact⟨t.block k hk id,hrole k hk⟩
theorem xJ (c k:Nat)(hk:k<2)(age:Int)(fl:List Tst)(old new:Nat)(u:List Value)(kv:Value):(uI (.move (2*c+k) age fl old new) u kv).toArray=#[int 3,int c,int k,int age,int (sA fl 0).fld,int (sA fl 0).op,int (sA fl 0).n,int (sA fl 1).fld,int (sA fl 1).op,int (sA fl 1).n,int (sA fl 2).fld,int (sA fl 2).op,int (sA fl 2).n,int fl.length,int 0,int 0,int 0,int 0,int 0,int 0,int old,int new,rA,int 0]:=by
 have h1:(2*c+k)/2=c:=by omega
 have h2:(2*c+k)%2=k:=by omega
 simp only[uI,h1,h2];rfl
theorem yE0 (c k:Nat)(hk:k<2)(age:Int)(fl:List Tst)(K:List News)(mo:Int)(new:Nat)(kv:Value):(uI (.rest (2*c+k) K mo new) (int age::aB fl) kv).toArray=#[int 4,int c,int k,int age,int (sA fl 0).fld,int (sA fl 0).op,int (sA fl 0).n,int (sA fl 1).fld,int (sA fl 1).op,int (sA fl 1).n,int (sA fl 2).fld,int (sA fl 2).op,int (sA fl 2).n,int fl.length,int 0,int 0,int 0,int 0,int 0,int 0,int 0,int new,kv,int mo]:=by
 have h1:(2*c+k)/2=c:=by omega
 have h2:(2*c+k)%2=k:=by omega
 simp only[uI,h1,h2];rfl
set_option maxRecDepth 100000 in
set_option maxHeartbeats 2000000 in
theorem cA0 {w:World}{b:Nat}{ρ:zA}{σ:Net}(h:XN w b ρ σ)(T:Tree σ.par){x y:Nat}(hx:x<σ.n)(hlen:∀y,(σ.q x y).length<2000){c k:Nat}(hc:c<4)(hk:k<2)(age:Int)(fl:List Tst){old new:Nat}(ho:old<σ.n)(hn:new<σ.n)(hon:old≠new)(hway:x=old→tB σ.par x new=y){fb:Nat}(hf:FrAt w ρ (.move (2*c+k) age fl old new) fb):
    Calls Tryz.prog 82 #[.pointer (some ⟨b,0,none⟩),int x,int (y:Nat),ptr fb] w fun e w'=>e=.returned (.tuple #[])∧∃ρ',XN w' b ρ' (σ.handle x (some y) (.move (2*c+k) age fl old new))∧Mv uB ρ ρ' w w':=by
  have hx6:x<6:=sO0 hx (gB T);obtain⟨hr,_,_,_,hf',_⟩:=id hf;rw[xJ c k hk] at hf';have c1:w.cell? ⟨fb,1,none⟩=some (int c):=xA hf' 1;have c2:w.cell? ⟨fb,2,none⟩=some (int k):=xA hf' 2;have c3:w.cell? ⟨fb,3,none⟩=some (int age):=xA hf' 3;have c4:w.cell? ⟨fb,4,none⟩=some (int (sA fl 0).fld):=xA hf' 4;have c5:w.cell? ⟨fb,5,none⟩=some (int (sA fl 0).op):=xA hf' 5;have c6:w.cell? ⟨fb,6,none⟩=some (int (sA fl 0).n):=xA hf' 6;have c7:w.cell? ⟨fb,7,none⟩=some (int (sA fl 1).fld):=xA hf' 7;have c8:w.cell? ⟨fb,8,none⟩=some (int (sA fl 1).op):=xA hf' 8;have c9:w.cell? ⟨fb,9,none⟩=some (int (sA fl 1).n):=xA hf' 9;have c10:w.cell? ⟨fb,10,none⟩=some (int (sA fl 2).fld):=xA hf' 10;have c11:w.cell? ⟨fb,11,none⟩=some (int (sA fl 2).op):=xA hf' 11;have c12:w.cell? ⟨fb,12,none⟩=some (int (sA fl 2).n):=xA hf' 12;have c13:w.cell? ⟨fb,13,none⟩=some (int fl.length):=xA hf' 13;have hxi:(x:Int)<6:=by omega
  have hnr:ρ w.heap.size=none:=by
    cases hq:ρ w.heap.size with
    | none=>rfl
    | some r=>have:=h.lt w.heap.size (by rw[hq];simp);omega
  have HNR:=uA hnr;have hfbl:fb<w.heap.size:=h.lt fb (by rw[hr];simp)
  have hbl:b<w.heap.size:=h.lt b (by rw[h.net];simp)
  have HX:=uA h;have HF:=uA hf;have HLEN:=uA hlen;clear h hf hf' hlen hnr;go_enter Tryz.func82,Tryz.ntmps82
  go_wp2
  go_cut [8] (fun s wx=>∃g sa sc ρ',s=ptr g∧wx.cell? ⟨g,0,none⟩=some (.slice sa (sE (σ.kn x (2*c+k))).length sc)∧wx.cell? ⟨g,1,none⟩=some (int (aJ (σ.kn x (2*c+k))))∧ρ' g=none∧Hid (XN wx b ρ' (σ.know x (2*c+k) (some ⟨age,fl,some y,[],0,false⟩))∧
      RowAt wx ρ' .rest 181 8 (sE (σ.kn x (2*c+k))).length ((sE (σ.kn x (2*c+k))).flatMap (rC ((2*c+k)%2))) (.slice sa (sE (σ.kn x (2*c+k))).length sc)∧Mv (jH x (2*c+k)) ρ ρ' w wx))
  case first=>
    go_region_with (first
      | (go_at_call 108;refine(xO0 (w:=(w.alloc (.cells #[.slice none 0 0,int 0] 140)).drew) (σ:=σ) (ρ:=ρ) ((yA HX).calm (((cP0 _ _).alloc _).drew)) hx6 hc hk age fl (some y)).mono ?_;rintro e w1 ⟨sa,sc,ρ1,rfl,h1,r1,m1⟩
         have hbx:w1.heap[w.heap.size]?=some (.cells #[.slice none 0 0,int 0] 140):=(m1.touch.block w.heap.size (by simp[World.drew]) (fun ⟨r,hq,_⟩=>by rw[yA HNR] at hq;cases hq)).trans (eP0 w _)
         have hrn:ρ1 w.heap.size=none:=m1.noRole (by simp[World.drew]) (yA HNR);have q0:w1.cell? ⟨w.heap.size,0,none⟩=some (.slice none 0 0):=xA hbx 0;have q1:w1.cell? ⟨w.heap.size,1,none⟩=some (int 0):=xA hbx 1;have z0:w1.frozen? ⟨w.heap.size,0,none⟩=false:=bA hbx 0;have z1:w1.frozen? ⟨w.heap.size,1,none⟩=false:=bA hbx 1;have hsz:w.heap.size<w1.heap.size:=fP0 q0;have H1:=uA (And.intro h1 (And.intro r1 (And.intro ((zQ0 (yA HX).lt (((cP0 _ _).alloc _).drew)).trans m1) hrn)))
         clear h1 r1 m1 hbx hrn)
      | (go_at_call 108;refine(xO0 (w:=w.drew) (σ:=σ) (ρ:=ρ) ((yA HX).calm (cP0 _ _).drew) hx6 hc hk age fl (some y)).mono ?_;rintro e w1 ⟨sa,sc,ρ1,rfl,h1,r1,m1⟩
         have H1:=uA (And.intro h1 (And.intro r1 ((zQ0 (yA HX).lt ((cP0 _ _).drew)).trans m1)))
         clear h1 r1 m1))
    all_goals go_wp2_with fail
    all_goals go_meet
    all_goals first
      | (obtain⟨h1,r1,m1,hrn⟩:=yA H1
         have e0:(w1.setCell ⟨w.heap.size,0,none⟩ (.slice sa (sE (σ.kn x (2*c+k))).length sc)).cell? ⟨w.heap.size,1,none⟩=some (int 0):=tA w1 (by omega) q1;have hT:Touch (fun i=>i=w.heap.size) w1 ((w1.setCell ⟨w.heap.size,0,none⟩ (.slice sa (sE (σ.kn x (2*c+k))).length sc)).setCell ⟨w.heap.size,1,none⟩ (int (aJ (σ.kn x (2*c+k))))):=((cP0 (fun i=>i=w.heap.size) w1).setCell (p:=⟨w.heap.size,0,none⟩) (fun _=>rfl) _).setCell (p:=⟨w.heap.size,1,none⟩) (fun _=>rfl) _;have hX:=h1.keep hT (fun i hi e=>hi (by rw[e];exact hrn));refine⟨w.heap.size,sa,sc,ρ1,rfl,tA _ (by omega) (mP0 w1 _ _ q0),mP0 _ _ _ e0,hrn,hX,⟨eA r1.1 hT (fun g hg e=>by have:=r1.2 g hg;rw[e,hrn] at this;cases this),r1.2⟩,?_⟩
         exact⟨⟨hT.os.trans m1.touch.os,hT.tape.trans m1.touch.tape,hT.output.trans m1.touch.output,mO0 m1.touch.size hT.size,fun i hi hs=>(hT.block i (sO0 hi m1.touch.size) (by omega)).trans (m1.touch.block i hi hs)⟩,m1.role,fun i hi=>sO0 (m1.lt i hi) hT.size⟩)
      | (obtain⟨h1,r1,m1⟩:=yA H1
         have hT:qA w1 (w1.alloc (.cells #[.slice sa (sE (σ.kn x (2*c+k))).length sc,int (aJ (σ.kn x (2*c+k)))] 140)):=(cP0 _ _).alloc _
         exact⟨w1.heap.size,sa,sc,ρ1,rfl,xA (eP0 w1 _) 0,xA (eP0 w1 _) 1,(by cases hq:ρ1 w1.heap.size with | none=>rfl | some r=>exact absurd (h1.lt w1.heap.size (by rw[hq];simp)) (by omega)),h1.calm hT,⟨eA r1.1 hT (fun _ _ f=>f),r1.2⟩,m1.trans (h1.mvCalm hT)⟩)
  case rest=>
    obtain⟨g,sa,sc,ρ1,rfl,g0,g1,hgn,hH⟩:=hcut;obtain⟨hX1,hR1,hM1⟩:=yA hH;have hF1:=(yA HF).mv (yA HX).lt hM1 (by simp[jH]) (by simp[jH]);obtain⟨hr1,_,_,_,hf1,_⟩:=id hF1;rw[xJ c k hk] at hf1;have d1:wc.cell? ⟨fb,1,none⟩=some (int c):=xA hf1 1;have d2:wc.cell? ⟨fb,2,none⟩=some (int k):=xA hf1 2;have d3:wc.cell? ⟨fb,3,none⟩=some (int age):=xA hf1 3;have d4:wc.cell? ⟨fb,4,none⟩=some (int (sA fl 0).fld):=xA hf1 4;have d5:wc.cell? ⟨fb,5,none⟩=some (int (sA fl 0).op):=xA hf1 5;have d6:wc.cell? ⟨fb,6,none⟩=some (int (sA fl 0).n):=xA hf1 6;have d7:wc.cell? ⟨fb,7,none⟩=some (int (sA fl 1).fld):=xA hf1 7;have d8:wc.cell? ⟨fb,8,none⟩=some (int (sA fl 1).op):=xA hf1 8;have d9:wc.cell? ⟨fb,9,none⟩=some (int (sA fl 1).n):=xA hf1 9;have d10:wc.cell? ⟨fb,10,none⟩=some (int (sA fl 2).fld):=xA hf1 10;have d11:wc.cell? ⟨fb,11,none⟩=some (int (sA fl 2).op):=xA hf1 11;have d12:wc.cell? ⟨fb,12,none⟩=some (int (sA fl 2).n):=xA hf1 12;have d13:wc.cell? ⟨fb,13,none⟩=some (int fl.length):=xA hf1 13;have d20:wc.cell? ⟨fb,20,none⟩=some (int old):=xA hf1 20;have d21:wc.cell? ⟨fb,21,none⟩=some (int new):=xA hf1 21;have hfl1:=hX1.lt fb (by rw[hr1];simp)
    have hgl:g<wc.heap.size:=fP0 g0;have hbl1:=hX1.lt b (by rw[hX1.net];simp)
    have HX1:=uA hX1;have HM1:=uA hM1;have HF1:=uA hF1;have HR1:=uA hR1;clear hX1 hM1 hF1 hR1 hH hf1 c1 c2 c3 c4 c5 c6 c7 c8 c9 c10 c11 c12 c13;by_cases hxo:x=old
    · subst hxo
      have hxoi:((x:Int) != (x:Int))=false:=by simp
      have hyn:=hway rfl;have hxn:x≠new:=hon;obtain⟨n,hn0⟩:∃n,n=(sE (σ.kn x (2*c+k))).length:=⟨_,rfl⟩;obtain⟨mo,hmo⟩:∃mo,mo=aJ (σ.kn x (2*c+k)):=⟨_,rfl⟩;have hst:σ.handle x (some y) (.move (2*c+k) age fl x new)=(σ.know x (2*c+k) (some ⟨age,fl,some y,[],0,false⟩)).push x (tB σ.par x new) (.rest (2*c+k) (sE (σ.kn x (2*c+k))) (aJ (σ.kn x (2*c+k))) new):=by
        simp only[Net.handle,if_true,hyn];cases σ.kn x (2*c+k)<;>rfl
      have HST:=uA hst;rw[←hn0] at g0;rw[←hmo] at g1;have HN0:=uA hn0;have HMO:=uA hmo;clear hst hn0 hmo hway hyn;obtain⟨hXF,hMF⟩:=(yA HX1).addFrame (w':=(wc.alloc (.cells #[int 4,int c,int k,int age,int (sA fl 0).fld,int (sA fl 0).op,int (sA fl 0).n,int (sA fl 1).fld,int (sA fl 1).op,int (sA fl 1).n,int (sA fl 2).fld,int (sA fl 2).op,int (sA fl 2).n,int fl.length,int 0,int 0,int 0,int 0,int 0,int 0,int 0,int new,.slice sa n sc,int mo] 142)).drew) (((cP0 _ _).alloc _).drew) (qO0 _) (by simp[World.drew]);have hFF:FrAt (wc.alloc (.cells #[int 4,int c,int k,int age,int (sA fl 0).fld,int (sA fl 0).op,int (sA fl 0).n,int (sA fl 1).fld,int (sA fl 1).op,int (sA fl 1).n,int (sA fl 2).fld,int (sA fl 2).op,int (sA fl 2).n,int fl.length,int 0,int 0,int 0,int 0,int 0,int 0,int 0,int new,.slice sa n sc,int mo] 142)).drew (iA ρ1 wc.heap.size .frame) (.rest (2*c+k) (sE (σ.kn x (2*c+k))) (aJ (σ.kn x (2*c+k))) new) wc.heap.size:=by
        refine⟨by simp[iA],age,aB fl,.slice sa n sc,?_,by simp[aB,Tst.enc],by simp[aB,Tst.enc,Value.oneCell'],?_⟩
        · rw[yE0 c k hk,←yA HMO];exact eP0 wc _
        · have hr:=yA HR1
          rw[←yA HN0] at hr;have h2:RowAt (wc.alloc (.cells #[int 4,int c,int k,int age,int (sA fl 0).fld,int (sA fl 0).op,int (sA fl 0).n,int (sA fl 1).fld,int (sA fl 1).op,int (sA fl 1).n,int (sA fl 2).fld,int (sA fl 2).op,int (sA fl 2).n,int fl.length,int 0,int 0,int 0,int 0,int 0,int 0,int 0,int new,.slice sa n sc,int mo] 142)).drew (iA ρ1 wc.heap.size .frame) .rest 181 8 n ((sE (σ.kn x (2*c+k))).flatMap (rC ((2*c+k)%2))) (.slice sa n sc):=
            ⟨eA hr.1 (((cP0 (fun _=>False) _).alloc _).drew) (fun _ _ f=>f),fun q hq=>by
              have h3:=hr.2 q hq;have h4:=(yA HX1).lt q (by rw[h3];simp)
              unfold iA;rw[if_neg (by omega)];exact h3⟩
          have e:n=uO0 (.rest (2*c+k) (sE (σ.kn x (2*c+k))) (aJ (σ.kn x (2*c+k))) new):=yA HN0;rw[←e];exact h2
      have HXF:=uA hXF;have HMF:=uA hMF;have HFF:=uA hFF;clear hXF hMF hFF;go_wp2;have hT2:∀(w2:World),Mv (fun o=>∃y,o=.chan x y) (iA ρ1 wc.heap.size .frame) (iA ρ1 wc.heap.size .frame) (wc.alloc (.cells #[int 4,int c,int k,int age,int (sA fl 0).fld,int (sA fl 0).op,int (sA fl 0).n,int (sA fl 1).fld,int (sA fl 1).op,int (sA fl 1).n,int (sA fl 2).fld,int (sA fl 2).op,int (sA fl 2).n,int fl.length,int 0,int 0,int 0,int 0,int 0,int 0,int 0,int new,.slice sa n sc,int mo] 142)).drew w2→∀(i o:Nat) (v:Value),i<wc.heap.size→(ρ1 i=none∨ρ1 i=some .frame)→wc.cell? ⟨i,o,none⟩=some v→w2.cell? ⟨i,o,none⟩=some v:=fun w2 m2 i o v hi hr hv=>by
        have h1:(wc.alloc (.cells #[int 4,int c,int k,int age,int (sA fl 0).fld,int (sA fl 0).op,int (sA fl 0).n,int (sA fl 1).fld,int (sA fl 1).op,int (sA fl 1).n,int (sA fl 2).fld,int (sA fl 2).op,int (sA fl 2).n,int fl.length,int 0,int 0,int 0,int 0,int 0,int 0,int 0,int new,.slice sa n sc,int mo] 142)).drew.cell? ⟨i,o,none⟩=some v:=(((cP0 (fun _=>False) wc).alloc _).drew).cell (p:=⟨i,o,none⟩) id hv;refine m2.touch.cell (p:=⟨i,o,none⟩) (fun ⟨r,hr1,z,hz⟩=>?_) h1;unfold iA at hr1;rw[if_neg (by show ¬i=wc.heap.size;omega)] at hr1;subst hz;rcases hr with hr | hr<;>(rw[hr] at hr1;cases hr1)
      have HT2:=uA hT2;clear hT2;go_region_held3 (fun w'=>w'.cell? ⟨fb,1,none⟩=some (int c)∧w'.cell? ⟨fb,2,none⟩=some (int k)∧w'.cell? ⟨fb,3,none⟩=some (int age)∧w'.cell? ⟨fb,4,none⟩=some (int (sA fl 0).fld)∧w'.cell? ⟨fb,5,none⟩=some (int (sA fl 0).op)∧w'.cell? ⟨fb,6,none⟩=some (int (sA fl 0).n)∧w'.cell? ⟨fb,7,none⟩=some (int (sA fl 1).fld)∧w'.cell? ⟨fb,8,none⟩=some (int (sA fl 1).op)∧w'.cell? ⟨fb,9,none⟩=some (int (sA fl 1).n)∧w'.cell? ⟨fb,10,none⟩=some (int (sA fl 2).fld)∧w'.cell? ⟨fb,11,none⟩=some (int (sA fl 2).op)∧w'.cell? ⟨fb,12,none⟩=some (int (sA fl 2).n)∧w'.cell? ⟨fb,13,none⟩=some (int fl.length)∧w'.cell? ⟨fb,21,none⟩=some (int new)∧w'.cell? ⟨g,0,none⟩=some (.slice sa n sc)∧w'.cell? ⟨g,1,none⟩=some (int mo))
        (first
          | exact⟨yA HT2 _ m2 _ _ _ hfl1 (Or.inr hr1) d1,yA HT2 _ m2 _ _ _ hfl1 (Or.inr hr1) d2,yA HT2 _ m2 _ _ _ hfl1 (Or.inr hr1) d3,yA HT2 _ m2 _ _ _ hfl1 (Or.inr hr1) d4,yA HT2 _ m2 _ _ _ hfl1 (Or.inr hr1) d5,yA HT2 _ m2 _ _ _ hfl1 (Or.inr hr1) d6,yA HT2 _ m2 _ _ _ hfl1 (Or.inr hr1) d7,yA HT2 _ m2 _ _ _ hfl1 (Or.inr hr1) d8,yA HT2 _ m2 _ _ _ hfl1 (Or.inr hr1) d9,yA HT2 _ m2 _ _ _ hfl1 (Or.inr hr1) d10,yA HT2 _ m2 _ _ _ hfl1 (Or.inr hr1) d11,yA HT2 _ m2 _ _ _ hfl1 (Or.inr hr1) d12,yA HT2 _ m2 _ _ _ hfl1 (Or.inr hr1) d13,yA HT2 _ m2 _ _ _ hfl1 (Or.inr hr1) d21,yA HT2 _ m2 _ _ _ hgl (Or.inl hgn) g0,yA HT2 _ m2 _ _ _ hgl (Or.inl hgn) g1⟩
          | exact⟨d1,d2,d3,d4,d5,d6,d7,d8,d9,d10,d11,d12,d13,d21,g0,g1⟩
          | exact⟨((cP0 (fun _=>False) _).alloc _).cell (p:=⟨fb,1,none⟩) id d1,((cP0 (fun _=>False) _).alloc _).cell (p:=⟨fb,2,none⟩) id d2,((cP0 (fun _=>False) _).alloc _).cell (p:=⟨fb,3,none⟩) id d3,((cP0 (fun _=>False) _).alloc _).cell (p:=⟨fb,4,none⟩) id d4,((cP0 (fun _=>False) _).alloc _).cell (p:=⟨fb,5,none⟩) id d5,((cP0 (fun _=>False) _).alloc _).cell (p:=⟨fb,6,none⟩) id d6,((cP0 (fun _=>False) _).alloc _).cell (p:=⟨fb,7,none⟩) id d7,((cP0 (fun _=>False) _).alloc _).cell (p:=⟨fb,8,none⟩) id d8,((cP0 (fun _=>False) _).alloc _).cell (p:=⟨fb,9,none⟩) id d9,((cP0 (fun _=>False) _).alloc _).cell (p:=⟨fb,10,none⟩) id d10,((cP0 (fun _=>False) _).alloc _).cell (p:=⟨fb,11,none⟩) id d11,((cP0 (fun _=>False) _).alloc _).cell (p:=⟨fb,12,none⟩) id d12,((cP0 (fun _=>False) _).alloc _).cell (p:=⟨fb,13,none⟩) id d13,((cP0 (fun _=>False) _).alloc _).cell (p:=⟨fb,21,none⟩) id d21,((cP0 (fun _=>False) _).alloc _).cell (p:=⟨g,0,none⟩) id g0,((cP0 (fun _=>False) _).alloc _).cell (p:=⟨g,1,none⟩) id g1⟩
          | go_keep)
        (first | (go_at_call 75;refine(fE0 (yA HXF) T hx hn hxn (yA HLEN) (yA HFF)).mono ?_;rintro e w2 ⟨rfl,h2,m2⟩))
      all_goals go_end0
      all_goals exact⟨rfl,_,by rw[yA HST];exact h2,(((yA HM1).mono (fun _ _=>trivial)).trans ((yA HMF).mono (fun _ f=>f.elim))).trans (m2.mono (fun _ _=>trivial))⟩
    · have hxoi:((x:Int) != (old:Int))=true:=by simp<;>omega
      have hst:σ.handle x (some y) (.move (2*c+k) age fl old new)=(σ.know x (2*c+k) (some ⟨age,fl,some y,[],0,false⟩)).push x (tB σ.par x old) (.move (2*c+k) age fl old new):=by
        simp only[Net.handle,if_neg hxo];try rfl
      have HST:=uA hst;clear hst hway;go_wp2_with (go_at_call 75;refine(fE0 (σ:=σ.know x (2*c+k) (some ⟨age,fl,some y,[],0,false⟩)) (ρ:=ρ1) (g:=old) (f:=.move (2*c+k) age fl old new) (fb:=fb) (yA HX1) T hx ho hxo (yA HLEN) (yA HF1)).mono ?_;rintro e w2 ⟨rfl,h2,m2⟩)
      exact bodyPost_ret (v:=.tuple #[]) (by simp[results,Tryz.results82,go_sem]) rfl ⟨rfl,ρ1,by rw[yA HST];exact h2,(((yA HM1).mono (fun _ _=>trivial)).trans (m2.mono (fun _ _=>trivial)))⟩
def rD (σ:Net)(c x old:Nat):Nat→Net
 | 0=>σ
 | j+1=>(rD σ c x old j).comes c x old j
theorem iN0 (σ:Net)(c x old k a y:Nat):((σ.comes c x old k).q a y).length≤(σ.q a y).length+1:=by
 unfold Net.comes;simp only;split
 ·simp only[Net.push];show (xB σ.q x (tB σ.par x old) (σ.q x (tB σ.par x old)++[_]) a y).length≤_
  by_cases e:a=x∧y=tB σ.par x old
  ·obtain⟨rfl,rfl⟩:=e;rw[put2_same];simp
  ·rw[jA _ _ e];omega
 ·omega
theorem eH0 (σ:Net){c x old k j:Nat}(h:j≠k):((σ.comes c x old k).cl c).age j=(σ.cl c).age j:=by
 unfold Net.comes;simp only;split
 ·show ((σ.setCl c {σ.cl c with age:=put (σ.cl c).age k ((σ.cl c).age k+1)}).cl c).age j=_
  simp[Net.setCl,kA _ _ h]
 ·rfl
theorem uM (σ:Net)(c x old:Nat):∀j,(rD σ c x old j).par=σ.par∧((rD σ c x old j).cl c).here=(σ.cl c).here∧((rD σ c x old j).cl c).used=(σ.cl c).used∧((rD σ c x old j).cl c).fl=(σ.cl c).fl∧(∀k,j≤k→((rD σ c x old j).cl c).age k=(σ.cl c).age k)∧∀a y,((rD σ c x old j).q a y).length≤(σ.q a y).length+j
 | 0=>⟨rfl,rfl,rfl,rfl,fun _ _=>rfl,fun _ _=>qO0 _⟩
 | j+1=>by
  obtain⟨h1,h2,h3,h4,h5,h6⟩:=uM σ c x old j;obtain⟨k1,_,k3⟩:=bF (σ:=rD σ c x old j) c x old j;obtain⟨k4,_,k5,k6⟩:=k3 c;refine⟨k1.trans h1,k4.trans h2,k5.trans h3,k6.trans h4,fun k hk=>(eH0 _ (by omega)).trans (h5 k (by omega)),fun a y=>?_⟩;have e1:=iN0 (rD σ c x old j) c x old j a y;have e2:=h6 a y;have e3:rD σ c x old (j+1)=(rD σ c x old j).comes c x old j:=rfl;rw[e3];omega
theorem box13 {w2:World}{g:Nat}{c j A a0 a1 a2 a3 a4 a5 a6 a7 a8 a9:Int}{u:Array Value}(hu:u.size=13)(h:w2.heap[g]?=some (.cells u 137))(h0:u[0]?=some (int c))(h1:u[1]?=some (int j)):
  ((((((((((((w2.setCell ⟨g,2,none⟩ (int A)).setCell ⟨g,3,none⟩ (int a0)).setCell ⟨g,4,none⟩ (int a1)).setCell ⟨g,5,none⟩ (int a2)).setCell ⟨g,6,none⟩ (int a3)).setCell ⟨g,7,none⟩ (int a4)).setCell ⟨g,8,none⟩ (int a5)).setCell ⟨g,9,none⟩ (int a6)).setCell ⟨g,10,none⟩ (int a7)).setCell ⟨g,11,none⟩ (int a8)).setCell ⟨g,12,none⟩ (int a9))).heap[g]?=some (.cells #[int c,int j,int A,int a0,int a1,int a2,int a3,int a4,int a5,int a6,int a7,int a8,int a9] 137):=by
 obtain⟨l⟩:=u;match l,hu with
 | [u0,u1,u2,u3,u4,u5,u6,u7,u8,u9,u10,u11,u12],_=>
  simp at h0 h1
  subst h0;subst h1;have e0:=dP0 _ _ 2 _ _ (int A) h;have e1:=dP0 _ _ 3 _ _ (int a0) e0;have e2:=dP0 _ _ 4 _ _ (int a1) e1;have e3:=dP0 _ _ 5 _ _ (int a2) e2;have e4:=dP0 _ _ 6 _ _ (int a3) e3;have e5:=dP0 _ _ 7 _ _ (int a4) e4;have e6:=dP0 _ _ 8 _ _ (int a5) e5;have e7:=dP0 _ _ 9 _ _ (int a6) e6;have e8:=dP0 _ _ 10 _ _ (int a7) e7;have e9:=dP0 _ _ 11 _ _ (int a8) e8;have e10:=dP0 _ _ 12 _ _ (int a9) e9;simpa using e10
structure MvAt (w wx:World)(b g:Nat)(ρ ρ':zA)(τ:Net)(cs:Array Value):Prop where
 net:XN wx b ρ' τ
 mv:Mv uB ρ ρ' w wx
 box:wx.heap[g]?=some (.cells cs 137)
 non:ρ' g=none
set_option maxRecDepth 100000 in
set_option maxHeartbeats 4000000 in
theorem moveX {w:World}{b:Nat}{ρ:zA}{σ:Net}(h:XN w b ρ σ)(T:Tree σ.par){c x old:Nat}(hc:c<4)(hx:x<σ.n)(ho:old<σ.n)(hne:x≠old)(hh:(σ.cl c).here=some x)(hage:∀k,k<2→-1≤(σ.cl c).age k∧(σ.cl c).age k<2199023255552)(hlen:∀y,(σ.q x y).length<1990):
    Calls Tryz.prog 37 #[.pointer (some ⟨b,0,none⟩),int c,int old] w fun e w'=>e=.returned (.tuple #[])∧∃ρ',XN w' b ρ' (rD σ c x old 2)∧Mv uB ρ ρ' w w':=by
  have hci:(c:Int)<4:=by omega
  have hx6:x<6:=sO0 hx (gB T);have hxi:(x:Int)<6:=by omega
  have HX:=uA h;clear h;go_enter Tryz.func37,Tryz.ntmps37
  go_wp2;go_loopw [14] (fun p wr=>∃j:Nat,j≤2∧p=int j∧∃ρ',XN wr b ρ' (rD σ c x old j)∧Mv uB ρ ρ' w wr) (fun p _=>2-(intOf p).toNat)
  case atStart=>exact⟨0,by omega,rfl,ρ,yA HX,aP0 (yA HX).lt⟩
  case round=>
    obtain⟨j,hj,rfl,ρ1,hX1,hM1⟩:=hrel;by_cases hlt:j<2
    · have hji:(j:Int)<2:=by omega
      obtain⟨kp1,kp2,kp3,kp4,kp5,kp6⟩:=uM σ c x old j;generalize hτ:rD σ c x old j=τ at*;have hcs:rD σ c x old (j+1)=τ.comes c x old j:=by rw[←hτ];rfl
      have hC:=hX1.cli c hc;have hat:wr.cell? ⟨b,86+c*31,none⟩=some (int x):=by have:=hC.here;rw[kp2,hh] at this;exact this
      have husd:=hC.used j hlt;have hagc:=hC.age j hlt;have hbl:=hX1.lt b (by rw[hX1.net];simp)
      have HCS:=uA hcs;have HM1:=uA hM1;have hag:=hage j hlt;have hag5:=kp5 j (qO0 _);cases hu:(τ.cl c).used j with
      | false=>
        rw[hu] at husd;have hst:τ.comes c x old j=τ:=by simp[Net.comes,hu]
        have HX1:=uA hX1;clear hX1 hM1 hC hcs hτ;go_wp2_with (go_at_call 63;refine(cD b (86+c*31) j false _ hlt husd).mono ?_;rintro e w1 ⟨rfl,hw1⟩;have hw1:=hw1.symm;subst hw1);go_roundw
        case rel=>exact⟨j+1,by omega,by go_num,ρ1,by rw[yA HCS,hst];exact yA HX1,yA HM1⟩
        case measure=>simp[intOf];omega
      | true=>
        rw[hu] at husd;have hfil:=hC.fl j hlt;rw[hu] at hfil;obtain⟨A,hA⟩:∃A,A=(τ.cl c).age j+1:=⟨_,rfl⟩;have hwr:wrap64 ((τ.cl c).age j+1)=A:=by rw[hA];simp only[wrap64];rw[hag5];omega
        obtain⟨fl,hfl⟩:∃fl,fl=(τ.cl c).fl j:=⟨_,rfl⟩;rw[←hfl] at hfil;have hnr:ρ1 wr.heap.size=none:=by
          cases hq:ρ1 wr.heap.size with
          | none=>rfl
          | some r=>have:=hX1.lt wr.heap.size (by rw[hq];simp);omega
        have hT:Tree τ.par:=by rw[kp1];exact T
        have hxn:x<τ.n:=by simp only[Net.n,kp1];exact hx
        have hon:old<τ.n:=by simp only[Net.n,kp1];exact ho
        have hlq:∀y,(τ.q x y).length<2000:=fun y=>by have h1:=kp6 x y;have h2:=hlen y;omega
        have hst:τ.comes c x old j=((τ.setCl c {τ.cl c with age:=put (τ.cl c).age j A}).know x (2*c+j) (some ⟨A,fl,none,[],0,true⟩)).push x (tB τ.par x old) (.move (2*c+j) A fl old x):=by
          rw[hA,hfl];simp only[Net.comes,hu,if_true]
        have hcl1:(τ.setCl c {τ.cl c with age:=put (τ.cl c).age j A}).cl c={τ.cl c with age:=put (τ.cl c).age j A}:=by simp[Net.setCl]
        have hhere1:((τ.setCl c {τ.cl c with age:=put (τ.cl c).age j A}).cl c).here=some x:=by rw[hcl1];exact kp2.trans hh
        have HST:=uA hst;have HX1:=uA hX1;have HNR:=uA hnr;have HFI:=uA hfil;have HLQ:=uA hlq;have HH1:=uA hhere1;clear hX1 hM1 hC hcs hτ hst hnr hfil hlq hcl1 hhere1 hlen hage kp6 kp5 hA hfl hag5
        go_wp2_with (first
          | (go_at_call 63;refine(cD b (86+c*31) j true _ hlt husd).mono ?_;rintro e w1 ⟨rfl,hw1⟩;have hw1:=hw1.symm;subst hw1)
          | (go_at_call 73;refine(dH0 b (86+c*31) j ((τ.cl c).age j) fl _ hlt ?a1 ?a2 ?a3).mono ?_
             case a1=>exact((cP0 (fun _=>False) _).alloc _).cell (p:=⟨b,86+c*31+4+j*13+1,none⟩) id hagc
             case a2=>exact(yA HFI).keep (fun i v _ hv=>((cP0 (fun _=>False) _).alloc _).cell (p:=⟨b,_,none⟩) id hv)
             case a3=>intro o';exact((yA HX1).calm ((cP0 _ _).alloc _)).fr o'
             rw[hwr];rintro e w2 ⟨rfl,ht2⟩
             obtain⟨hX2,hM2⟩:=((yA HX1).calm (((cP0 (fun _=>False) wr).alloc (.cells #[int c,int j,int 0,int 0,int 0,int 0,int 0,int 0,int 0,int 0,int 0,int 0,int 0] 137)))).setAge hc hlt A;have hbx2:w2.heap[wr.heap.size]?=some (.cells #[int c,int j,int 0,int 0,int 0,int 0,int 0,int 0,int 0,int 0,int 0,int 0,int 0] 137):=(ht2.block wr.heap.size (by simp[World.setCell]) id).trans ((zB _ _ (by omega)).trans (eP0 wr _));have HX2:=uA (hX2.calm ht2);have HM2:=uA (((yA HM1).trans ((zQ0 (yA HX1).lt ((cP0 _ _).alloc _)).trans (hM2.mono (fun _ _=>trivial)))).trans (zQ0 hX2.lt ht2));have HBX2:=uA hbx2;have q2:w2.cell? ⟨wr.heap.size,2,none⟩=some (int 0):=xA hbx2 2;have z2:w2.frozen? ⟨wr.heap.size,2,none⟩=false:=bA hbx2 2;have q3:w2.cell? ⟨wr.heap.size,3,none⟩=some (int 0):=xA hbx2 3;have z3:w2.frozen? ⟨wr.heap.size,3,none⟩=false:=bA hbx2 3;have q4:w2.cell? ⟨wr.heap.size,4,none⟩=some (int 0):=xA hbx2 4;have z4:w2.frozen? ⟨wr.heap.size,4,none⟩=false:=bA hbx2 4;have q5:w2.cell? ⟨wr.heap.size,5,none⟩=some (int 0):=xA hbx2 5;have z5:w2.frozen? ⟨wr.heap.size,5,none⟩=false:=bA hbx2 5;have q6:w2.cell? ⟨wr.heap.size,6,none⟩=some (int 0):=xA hbx2 6;have z6:w2.frozen? ⟨wr.heap.size,6,none⟩=false:=bA hbx2 6;have q7:w2.cell? ⟨wr.heap.size,7,none⟩=some (int 0):=xA hbx2 7;have z7:w2.frozen? ⟨wr.heap.size,7,none⟩=false:=bA hbx2 7;have q8:w2.cell? ⟨wr.heap.size,8,none⟩=some (int 0):=xA hbx2 8;have z8:w2.frozen? ⟨wr.heap.size,8,none⟩=false:=bA hbx2 8;have q9:w2.cell? ⟨wr.heap.size,9,none⟩=some (int 0):=xA hbx2 9;have z9:w2.frozen? ⟨wr.heap.size,9,none⟩=false:=bA hbx2 9;have q10:w2.cell? ⟨wr.heap.size,10,none⟩=some (int 0):=xA hbx2 10;have z10:w2.frozen? ⟨wr.heap.size,10,none⟩=false:=bA hbx2 10;have q11:w2.cell? ⟨wr.heap.size,11,none⟩=some (int 0):=xA hbx2 11;have z11:w2.frozen? ⟨wr.heap.size,11,none⟩=false:=bA hbx2 11;have q12:w2.cell? ⟨wr.heap.size,12,none⟩=some (int 0):=xA hbx2 12;have z12:w2.frozen? ⟨wr.heap.size,12,none⟩=false:=bA hbx2 12;have hsz2:wr.heap.size<w2.heap.size:=fP0 q2
             clear hX2 hM2 hbx2 ht2))
        obtain⟨W3,hW3⟩:∃W3,W3=(((((((((((w2.setCell ⟨wr.heap.size,2,none⟩ (int A)).setCell ⟨wr.heap.size,3,none⟩ (int (sA fl 0).fld)).setCell ⟨wr.heap.size,4,none⟩ (int (sA fl 0).op)).setCell ⟨wr.heap.size,5,none⟩ (int (sA fl 0).n)).setCell ⟨wr.heap.size,6,none⟩ (int (sA fl 1).fld)).setCell ⟨wr.heap.size,7,none⟩ (int (sA fl 1).op)).setCell ⟨wr.heap.size,8,none⟩ (int (sA fl 1).n)).setCell ⟨wr.heap.size,9,none⟩ (int (sA fl 2).fld)).setCell ⟨wr.heap.size,10,none⟩ (int (sA fl 2).op)).setCell ⟨wr.heap.size,11,none⟩ (int (sA fl 2).n)).setCell ⟨wr.heap.size,12,none⟩ (int fl.length)):=⟨_,rfl⟩;rw[←hW3];have hM3:MvAt w W3 b wr.heap.size ρ ρ1 (τ.setCl c {τ.cl c with age:=put (τ.cl c).age j A}) #[int c,int j,int A,int (sA fl 0).fld,int (sA fl 0).op,int (sA fl 0).n,int (sA fl 1).fld,int (sA fl 1).op,int (sA fl 1).n,int (sA fl 2).fld,int (sA fl 2).op,int (sA fl 2).n,int fl.length]:=by
          have ht3:Touch (fun i=>i=wr.heap.size) w2 W3:=by
            rw[hW3];exact(((((((((((cP0 (fun i=>i=wr.heap.size) w2).setCell (p:=⟨wr.heap.size,2,none⟩) (fun _=>rfl) _).setCell (p:=⟨wr.heap.size,3,none⟩) (fun _=>rfl) _).setCell (p:=⟨wr.heap.size,4,none⟩) (fun _=>rfl) _).setCell (p:=⟨wr.heap.size,5,none⟩) (fun _=>rfl) _).setCell (p:=⟨wr.heap.size,6,none⟩) (fun _=>rfl) _).setCell (p:=⟨wr.heap.size,7,none⟩) (fun _=>rfl) _).setCell (p:=⟨wr.heap.size,8,none⟩) (fun _=>rfl) _).setCell (p:=⟨wr.heap.size,9,none⟩) (fun _=>rfl) _).setCell (p:=⟨wr.heap.size,10,none⟩) (fun _=>rfl) _).setCell (p:=⟨wr.heap.size,11,none⟩) (fun _=>rfl) _).setCell (p:=⟨wr.heap.size,12,none⟩) (fun _=>rfl) _
          have m2:=yA HM2;have hwz:w.heap.size≤wr.heap.size:=(yA HM1).touch.size;refine⟨(yA HX2).keep ht3 (fun i hi e=>hi (by rw[e];exact yA HNR)),⟨⟨ht3.os.trans m2.touch.os,ht3.tape.trans m2.touch.tape,ht3.output.trans m2.touch.output,mO0 m2.touch.size ht3.size,fun i hi hs=>(ht3.block i (sO0 hi m2.touch.size) (by omega)).trans (m2.touch.block i hi hs)⟩,m2.role,fun i hi=>sO0 (m2.lt i hi) ht3.size⟩,?_,yA HNR⟩;rw[hW3];exact box13 (by rfl) (yA HBX2) rfl rfl
        have HM3:=uA hM3;clear hW3 hM3 HX2 HM2 HBX2 q2 q3 q4 q5 q6 q7 q8 q9 q10 q11 q12 z2 z3 z4 z5 z6 z7 z8 z9 z10 z11 z12 hsz2 hat hagc husd;go_cut [] (fun wx=>∃ρ2,MvAt w wx b wr.heap.size ρ ρ2 ((τ.setCl c {τ.cl c with age:=put (τ.cl c).age j A}).know x (2*c+j) (some ⟨A,fl,none,[],0,true⟩)) #[int c,int j,int A,int (sA fl 0).fld,int (sA fl 0).op,int (sA fl 0).n,int (sA fl 1).fld,int (sA fl 1).op,int (sA fl 1).n,int (sA fl 2).fld,int (sA fl 2).op,int (sA fl 2).n,int fl.length])
        case first=>
          have hbx:=(yA HM3).box;have hat3:W3.cell? ⟨b,86+c*31,none⟩=some (int x):=by have:=((yA HM3).net.cli c hc).here;rw[yA HH1] at this;exact this
          go_region_held3 (fun w'=>w'.cell? ⟨wr.heap.size,0,none⟩=some (int c)∧w'.cell? ⟨wr.heap.size,1,none⟩=some (int j)∧w'.cell? ⟨wr.heap.size,2,none⟩=some (int A)∧w'.cell? ⟨wr.heap.size,3,none⟩=some (int (sA fl 0).fld)∧w'.cell? ⟨wr.heap.size,4,none⟩=some (int (sA fl 0).op)∧w'.cell? ⟨wr.heap.size,5,none⟩=some (int (sA fl 0).n)∧w'.cell? ⟨wr.heap.size,6,none⟩=some (int (sA fl 1).fld)∧w'.cell? ⟨wr.heap.size,7,none⟩=some (int (sA fl 1).op)∧w'.cell? ⟨wr.heap.size,8,none⟩=some (int (sA fl 1).n)∧w'.cell? ⟨wr.heap.size,9,none⟩=some (int (sA fl 2).fld)∧w'.cell? ⟨wr.heap.size,10,none⟩=some (int (sA fl 2).op)∧w'.cell? ⟨wr.heap.size,11,none⟩=some (int (sA fl 2).n)∧w'.cell? ⟨wr.heap.size,12,none⟩=some (int fl.length)∧w'.cell? ⟨b,86+c*31,none⟩=some (int x))
            (first
              | exact⟨xA hbx 0,xA hbx 1,xA hbx 2,xA hbx 3,xA hbx 4,xA hbx 5,xA hbx 6,xA hbx 7,xA hbx 8,xA hbx 9,xA hbx 10,xA hbx 11,xA hbx 12,hat3⟩
              | exact⟨xA hbx4 0,xA hbx4 1,xA hbx4 2,xA hbx4 3,xA hbx4 4,xA hbx4 5,xA hbx4 6,xA hbx4 7,xA hbx4 8,xA hbx4 9,xA hbx4 10,xA hbx4 11,xA hbx4 12,hat4⟩
              | go_keep)
            (first
              | (go_at_call 49;refine(iF b (86+c*31) x _ ?_).mono ?_;exact hat3;rintro e w4 ⟨rfl,rfl⟩)
              | (go_at_call 74;refine(awaitX (w:=W3.drew) ((yA HM3).net.calm (cP0 _ _).drew) hx6 hc hlt A fl).mono ?_;rintro e w4 ⟨rfl,ρ4,h4,m4⟩
                 have hbx4:w4.heap[wr.heap.size]?=some (.cells #[int c,int j,int A,int (sA fl 0).fld,int (sA fl 0).op,int (sA fl 0).n,int (sA fl 1).fld,int (sA fl 1).op,int (sA fl 1).n,int (sA fl 2).fld,int (sA fl 2).op,int (sA fl 2).n,int fl.length] 137):=(m4.touch.block wr.heap.size (tO0.1 hbx).1 (fun ⟨r,hr,_⟩=>by rw[yA HNR] at hr;cases hr)).trans hbx
                 have hat4:w4.cell? ⟨b,86+c*31,none⟩=some (int x):=by
                   have h5:=(h4.cli c hc).here;have h6:(((τ.setCl c {τ.cl c with age:=put (τ.cl c).age j A}).know x (2*c+j) (some ⟨A,fl,none,[],0,true⟩)).cl c).here=some x:=yA HH1
                   rw[h6] at h5;exact h5))
          all_goals go_wp2_with fail
          all_goals go_meet
          all_goals exact⟨ρ4,h4,(yA HM3).mv.trans ((zQ0 (yA HM3).net.lt (cP0 _ _).drew).trans (m4.mono (fun _ _=>trivial))),hbx4,m4.noRole (tO0.1 hbx).1 (yA HNR)⟩
        case rest=>
          obtain⟨ρ4,hM4⟩:=hcut;have hbx:=hM4.box;have hgl:wr.heap.size<wc.heap.size:=(tO0.1 hbx).1;have hat4:wc.cell? ⟨b,86+c*31,none⟩=some (int x):=by
            have h5:=(hM4.net.cli c hc).here;have h6:(((τ.setCl c {τ.cl c with age:=put (τ.cl c).age j A}).know x (2*c+j) (some ⟨A,fl,none,[],0,true⟩)).cl c).here=some x:=yA HH1;rw[h6] at h5;exact h5
          have hblc:=hM4.net.lt b (by rw[hM4.net.net];simp)
          obtain⟨hXF,hMF⟩:=hM4.net.addFrame (w':=(wc.alloc (.cells #[int 3,int c,int j,int A,int (sA fl 0).fld,int (sA fl 0).op,int (sA fl 0).n,int (sA fl 1).fld,int (sA fl 1).op,int (sA fl 1).n,int (sA fl 2).fld,int (sA fl 2).op,int (sA fl 2).n,int fl.length,int 0,int 0,int 0,int 0,int 0,int 0,int old,int x,rA,int 0] 142)).drew) (((cP0 _ _).alloc _).drew) (qO0 _) (by simp[World.drew]);have hFF:FrAt (wc.alloc (.cells #[int 3,int c,int j,int A,int (sA fl 0).fld,int (sA fl 0).op,int (sA fl 0).n,int (sA fl 1).fld,int (sA fl 1).op,int (sA fl 1).n,int (sA fl 2).fld,int (sA fl 2).op,int (sA fl 2).n,int fl.length,int 0,int 0,int 0,int 0,int 0,int 0,int old,int x,rA,int 0] 142)).drew (iA ρ4 wc.heap.size .frame) (.move (2*c+j) A fl old x) wc.heap.size:=by
            refine⟨by simp[iA],0,[int 0,int 0,int 0,int 0,int 0,int 0,int 0,int 0,int 0,int 0],rA,?_,rfl,by simp[Value.oneCell'],⟨⟨rfl,Or.inl ⟨rfl,rfl⟩⟩,fun g hg=>by cases hg⟩⟩;rw[xJ c j hlt];exact eP0 wc _
          have HXF:=uA hXF;have HMF:=uA hMF;have HFF:=uA hFF;have HM4:=uA hM4;have HBX:=uA hbx;have HLQ2:Hid (∀y,(((τ.setCl c {τ.cl c with age:=put (τ.cl c).age j A}).know x (2*c+j) (some ⟨A,fl,none,[],0,true⟩)).q x y).length<2000):=yA HLQ;have HBF:Hid ((wc.alloc (.cells #[int 3,int c,int j,int A,int (sA fl 0).fld,int (sA fl 0).op,int (sA fl 0).n,int (sA fl 1).fld,int (sA fl 1).op,int (sA fl 1).n,int (sA fl 2).fld,int (sA fl 2).op,int (sA fl 2).n,int fl.length,int 0,int 0,int 0,int 0,int 0,int 0,int old,int x,rA,int 0] 142)).drew.heap[wr.heap.size]?=some (.cells #[int c,int j,int A,int (sA fl 0).fld,int (sA fl 0).op,int (sA fl 0).n,int (sA fl 1).fld,int (sA fl 1).op,int (sA fl 1).n,int (sA fl 2).fld,int (sA fl 2).op,int (sA fl 2).n,int fl.length] 137)):=(kP0 _ _ _ hgl).trans (yA HBX);have HAF:Hid ((wc.alloc (.cells #[int 3,int c,int j,int A,int (sA fl 0).fld,int (sA fl 0).op,int (sA fl 0).n,int (sA fl 1).fld,int (sA fl 1).op,int (sA fl 1).n,int (sA fl 2).fld,int (sA fl 2).op,int (sA fl 2).n,int fl.length,int 0,int 0,int 0,int 0,int 0,int 0,int old,int x,rA,int 0] 142)).drew.cell? ⟨b,86+c*31,none⟩=some (int x)):=((cP0 (fun _=>False) _).alloc _).cell (p:=⟨b,86+c*31,none⟩) id hat4;have HT2:Hid (∀w5:World,Mv (fun o=>∃y,o=.chan x y) (iA ρ4 wc.heap.size .frame) (iA ρ4 wc.heap.size .frame) (wc.alloc (.cells #[int 3,int c,int j,int A,int (sA fl 0).fld,int (sA fl 0).op,int (sA fl 0).n,int (sA fl 1).fld,int (sA fl 1).op,int (sA fl 1).n,int (sA fl 2).fld,int (sA fl 2).op,int (sA fl 2).n,int fl.length,int 0,int 0,int 0,int 0,int 0,int 0,int old,int x,rA,int 0] 142)).drew w5→w5.heap[wr.heap.size]?=some (.cells #[int c,int j,int A,int (sA fl 0).fld,int (sA fl 0).op,int (sA fl 0).n,int (sA fl 1).fld,int (sA fl 1).op,int (sA fl 1).n,int (sA fl 2).fld,int (sA fl 2).op,int (sA fl 2).n,int fl.length] 137)):=fun w5 m5=>by
            refine(m5.touch.block wr.heap.size (by simp[World.drew];omega) (fun ⟨r,hr,_⟩=>?_)).trans ((kP0 _ _ _ hgl).trans (yA HBX));unfold iA at hr;rw[if_neg (by omega),(yA HM4).non] at hr;cases hr
          clear hXF hMF hFF hM4;go_wp2;go_region_held3 (fun w'=>w'.cell? ⟨wr.heap.size,0,none⟩=some (int c)∧w'.cell? ⟨wr.heap.size,1,none⟩=some (int j)∧w'.cell? ⟨wr.heap.size,2,none⟩=some (int A)∧w'.cell? ⟨wr.heap.size,3,none⟩=some (int (sA fl 0).fld)∧w'.cell? ⟨wr.heap.size,4,none⟩=some (int (sA fl 0).op)∧w'.cell? ⟨wr.heap.size,5,none⟩=some (int (sA fl 0).n)∧w'.cell? ⟨wr.heap.size,6,none⟩=some (int (sA fl 1).fld)∧w'.cell? ⟨wr.heap.size,7,none⟩=some (int (sA fl 1).op)∧w'.cell? ⟨wr.heap.size,8,none⟩=some (int (sA fl 1).n)∧w'.cell? ⟨wr.heap.size,9,none⟩=some (int (sA fl 2).fld)∧w'.cell? ⟨wr.heap.size,10,none⟩=some (int (sA fl 2).op)∧w'.cell? ⟨wr.heap.size,11,none⟩=some (int (sA fl 2).n)∧w'.cell? ⟨wr.heap.size,12,none⟩=some (int fl.length)∧w'.cell? ⟨b,86+c*31,none⟩=some (int x))
            (first
              | exact⟨xA (yA HBX) 0,xA (yA HBX) 1,xA (yA HBX) 2,xA (yA HBX) 3,xA (yA HBX) 4,xA (yA HBX) 5,xA (yA HBX) 6,xA (yA HBX) 7,xA (yA HBX) 8,xA (yA HBX) 9,xA (yA HBX) 10,xA (yA HBX) 11,xA (yA HBX) 12,hat4⟩
              | exact⟨xA (yA HBF) 0,xA (yA HBF) 1,xA (yA HBF) 2,xA (yA HBF) 3,xA (yA HBF) 4,xA (yA HBF) 5,xA (yA HBF) 6,xA (yA HBF) 7,xA (yA HBF) 8,xA (yA HBF) 9,xA (yA HBF) 10,xA (yA HBF) 11,xA (yA HBF) 12,yA HAF⟩
              | exact⟨xA hbx5 0,xA hbx5 1,xA hbx5 2,xA hbx5 3,xA hbx5 4,xA hbx5 5,xA hbx5 6,xA hbx5 7,xA hbx5 8,xA hbx5 9,xA hbx5 10,xA hbx5 11,xA hbx5 12,hat5⟩
              | go_keep)
            (first
              | (go_at_call 49;refine(iF b (86+c*31) x _ ?_).mono ?_;(first | exact hat4 | exact((cP0 (fun _=>False) _).alloc _).cell (p:=⟨b,86+c*31,none⟩) id hat4);rintro e w5 ⟨rfl,rfl⟩)
              | (go_at_call 75;refine(fE0 (yA HXF) hT hxn hon hne (yA HLQ2) (yA HFF)).mono ?_;rintro e w5 ⟨rfl,h5,m5⟩
                 have hbx5:=yA HT2 _ m5;have hat5:w5.cell? ⟨b,86+c*31,none⟩=some (int x):=by
                   have h7:=(h5.cli c hc).here;have h6:((((τ.setCl c {τ.cl c with age:=put (τ.cl c).age j A}).know x (2*c+j) (some ⟨A,fl,none,[],0,true⟩)).push x (tB ((τ.setCl c {τ.cl c with age:=put (τ.cl c).age j A}).know x (2*c+j) (some ⟨A,fl,none,[],0,true⟩)).par x old) (.move (2*c+j) A fl old x)).cl c).here=some x:=yA HH1
                   rw[h6] at h7;exact h7))
          all_goals go_wp2
          all_goals go_roundw
          all_goals first
            | exact⟨j+1,by omega,by go_num,_,by rw[yA HCS,yA HST];exact h5,((yA HM4).mv.trans ((yA HMF).mono (fun _ f=>f.elim))).trans (m5.mono (fun _ _=>trivial))⟩
            | (simp[intOf];omega)
    · have hji:¬(j:Int)<2:=by omega
      have hj2:j=2:=by omega
      subst hj2;have HX1:=uA hX1;have HM1:=uA hM1;clear hX1 hM1;go_wp2;go_end0
      exact⟨rfl,ρ1,yA HX1,yA HM1⟩
end Go.Proofs.YtodfcpblcpogiaaGreat

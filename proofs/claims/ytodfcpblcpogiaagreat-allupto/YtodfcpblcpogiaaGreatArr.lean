import Derived.Test.YtodfcpblcpogiaaGreatKtell
import Derived.Test.YtodfcpblcpogiaaGreatToc
import Derived.Test.YtodfcpblcpogiaaGreatMvs
import Derived.Deep.RegionHeld3
namespace Go.Proofs.YtodfcpblcpogiaaGreat
open Go.RowKit
set_option maxRecDepth 100000 in
set_option maxHeartbeats 400000 in
theorem dX (k:Nat)(mo:Int)(sa:Option Addr)(sc:Nat)(tv:Value)(w:World)(hmo:¬0<mo):Calls Tryz.prog 99 #[.agg #[.slice sa 0 sc,int mo],int k,tv] w fun e w'=>e=.returned (.tuple #[])∧qA w w':=by
 go_enter Tryz.func99,Tryz.ntmps99
 go_wp2;refine wp_loop_rounds 1 ?_;rw[rounds_succ]
 go_wp2;go_end0
 exact⟨rfl,(cP0 _ _).alloc _⟩
def tJ (σ:Net)(c k:Nat)(l:List News)(mo:Int):Prop:=CanTell (σ.lose (2*c+k) mo) c k l∨(l=[]∧¬0<mo)
theorem aV {w:World}{b:Nat}{ρ:zA}{σ:Net}(h:XN w b ρ σ){c k n sc:Nat}{sa:Option Addr}(hc:c<4)(hk:k<2){l:List News}{mo:Int}{r:Role}(hr:r≠.net∧(∀c k,r≠.map c k)∧∀c,r≠.log c)(hrow:RowAt w ρ r 181 8 n (l.flatMap (rC k)) (.slice sa n sc))(hn:n=l.length)(hC:tJ σ c k l mo):
  Calls Tryz.prog 99 #[.agg #[.slice sa n sc,int mo],int k,xR b c] w fun e w'=>e=.returned (.tuple #[])∧∃ρ',XN w' b ρ' ((σ.lose (2*c+k) mo).tells (2*c+k) l)∧Mv (eB c k) ρ ρ' w w'∧Front b w w':=by
 rcases hC with hC | ⟨rfl,hmo⟩
 ·exact xH0 h hc hk hr hrow hn hC
 ·have hn0:n=0:=by simpa using hn
  subst hn0;refine(dX k mo sa sc (xR b c) w hmo).mono ?_;rintro e w' ⟨rfl,ht⟩
  rw[zL σ _ hmo];exact⟨rfl,ρ,h.calm ht,h.mvCalm ht,vQ0 ht⟩
theorem oZ (s:Nat)(l:List News)(σ:Net):(σ.tells s l).kn=σ.kn:=(jB s l σ).2.2.2
set_option maxRecDepth 100000 in
set_option maxHeartbeats 1000000 in
theorem eZ {w:World}{b:Nat}{ρ:zA}{σ:Net}(h:XN w b ρ σ){x c k kb:Nat}(hx:x<6)(hc:c<4)(hk:k<2){f:Fact}(hkn:σ.kn x (2*c+k)=some f)(hptr:w.cell? ⟨b,38+x*8+c*2+k,none⟩=some (ptr kb))(hC:tJ σ c k f.kept f.more):
    Calls Tryz.prog 71 #[ptr kb,xR b c] w fun e w'=>e=.returned (.tuple #[])∧∃ρ',XN w' b ρ' (((σ.lose (2*c+k) f.more).tells (2*c+k) f.kept).know x (2*c+k) (some {f with kept:=[],more:=0}))∧Mv (iS x c k) ρ ρ' w w'∧Front b w w':=by
  obtain⟨v,hv1,hv2⟩:=h.known x c k hx hc hk;rw[hkn] at hv2;obtain⟨kb',kv,rfl,hrb,hblk,hrow⟩:=hv2;have:kb'=kb:=by rw[hptr] at hv1;cases hv1;rfl
  subst this;obtain⟨sa,sc,rfl⟩:∃sa sc,kv=.slice sa f.kept.length sc:=by
    rcases hrow.1.2 with⟨rfl,h0⟩ | ⟨g,cap,cur,rfl,_⟩
    · exact⟨none,0,by rw[h0]⟩
    · exact⟨_,_,rfl⟩
  have h2c:(2*c+k)/2=c:=by omega
  have h2k:(2*c+k)%2=k:=by omega
  have k1:w.cell? ⟨kb',1,none⟩=some (int k):=by
    have:w.cell? ⟨kb',1,none⟩=some (int ((2*c+k)%2:Nat)):=xA hblk 1;rw[h2k] at this;exact this
  have k15:w.cell? ⟨kb',15,none⟩=some (.slice sa f.kept.length sc):=xA hblk 15;have k16:w.cell? ⟨kb',16,none⟩=some (int f.more):=xA hblk 16;rw[h2k] at hrow;have hkbl:=h.lt kb' (by rw[hrb];simp)
  have HX:=uA h;have HROW:=uA hrow;have HB:=uA hblk;have HC:=uA hC;generalize hn:f.kept.length=n at*;have HN:=uA hn;clear h hrow hblk hC hn h2c h2k;go_enter Tryz.func71,Tryz.ntmps71
  go_wp2
  go_region_with (go_at_call 99;refine(aV (w:=w.drew) ((yA HX).calm (cP0 _ _).drew) hc hk (r:=.kept x (2*c+k)) ⟨by simp,by simp,by simp⟩ ((yA HROW).keep (fun _ _=>⟨rfl,rfl⟩)) (yA HN).symm (yA HC)).mono ?_;rintro e w1 ⟨rfl,ρ1,h1,m1',f1'⟩
                  have m1:Mv (eB c k) ρ ρ1 w w1:=(zQ0 (yA HX).lt (cP0 _ _).drew).trans m1';have f1:Front b w w1:=(vQ0 (cP0 _ _).drew).trans f1';have hbk1:=m1.keeps (yA HX).lt hrb (by simp[eB]);have hblk1:=hbk1.1.trans (yA HB);have p15:w1.cell? ⟨kb',15,none⟩=some (.slice sa n sc):=xA hblk1 15;have p16:w1.cell? ⟨kb',16,none⟩=some (int f.more):=xA hblk1 16;have z15:w1.frozen? ⟨kb',15,none⟩=false:=bA hblk1 15;have z16:w1.frozen? ⟨kb',16,none⟩=false:=bA hblk1 16;have HH:=uA (And.intro h1 (And.intro m1 (And.intro f1 (And.intro hblk1 (hbk1.2.trans hrb)))))
                  clear h1 m1 f1 m1' f1' hblk1 hbk1)
  all_goals go_wp2
  all_goals go_end0
  all_goals
    obtain⟨h1,m1,f1,hblk1,hrb1⟩:=yA HH;refine⟨rfl,ρ1,?_⟩;obtain⟨W,hW⟩:∃W,W=(w1.setCell ⟨kb',15,none⟩ (.slice none 0 0)).setCell ⟨kb',16,none⟩ (int 0):=⟨_,rfl⟩;have hWb:W.heap[kb']?=some (.cells (eD (2*c+k) {f with kept:=[],more:=0} (.slice none 0 0)).toArray 176):=by
      rw[hW,dP0 _ _ _ _ _ _ (dP0 _ _ _ _ _ _ hblk1)];rfl
    have m2:Mv (keepR x (2*c+k)) ρ1 ρ1 w1 W:=by
      rw[hW];exact(yQ0 (S:=keepR x (2*c+k)) h1.lt hrb1 (Or.inl rfl) _ _).trans (yQ0 (S:=keepR x (2*c+k)) (by simpa[World.setCell] using h1.lt) hrb1 (Or.inl rfl) _ _)
    have hX:=h1.turnKn (f':={f with kept:=[],more:=0}) hx hc hk (f1 _ _ (by omega) hptr) hrb1 m2 hWb ⟨⟨rfl,Or.inl ⟨rfl,rfl⟩⟩,fun g hg=>by cases hg⟩;have hf2:Front b w1 W:=fun o v _ hv=>pA (Mv.keeps h1.lt m2 h1.net (by simp[keepR])).1 hv;rw[hW] at hX m2 hf2;exact⟨hX,(m1.mono (fun _ hr=>Or.inl hr)).trans (m2.mono (fun _ hr=>Or.inr hr)),f1.trans hf2⟩
set_option maxRecDepth 100000 in
set_option maxHeartbeats 1000000 in
theorem bN0 {w:World}{b:Nat}{ρ:zA}{σ:Net}(h:XN w b ρ σ){x c k kb:Nat}(hx:x<6)(hc:c<4)(hk:k<2){f:Fact}(hkn:σ.kn x (2*c+k)=some f)(hptr:w.cell? ⟨b,38+x*8+c*2+k,none⟩=some (ptr kb)){evs:List News}{mo:Int}{n sc:Nat}{sa:Option Addr}
    (hrow:RowAt w ρ .rest 181 8 n (evs.flatMap (rC k)) (.slice sa n sc)) (hn:n=evs.length) (hC1:tJ σ c k evs mo) (hC2:tJ ((σ.lose (2*c+k) mo).tells (2*c+k) evs) c k f.kept f.more) (hm0:f.more=0):
    Calls Tryz.prog 109 #[ptr kb,.agg #[.slice sa n sc,int mo],xR b c] w fun e w'=>e=.returned (.tuple #[])∧∃ρ',XN w' b ρ' ((((σ.lose (2*c+k) mo).tells (2*c+k) evs).tells (2*c+k) f.kept).know x (2*c+k) (some {f with kept:=[],waits:=false}))∧Mv (iS x c k) ρ ρ' w w'∧Front b w w':=by
  obtain⟨v,hv1,hv2⟩:=h.known x c k hx hc hk;rw[hkn] at hv2;obtain⟨kb',kv,rfl,hrb,hblk,_⟩:=hv2;have:kb'=kb:=by rw[hptr] at hv1;cases hv1;rfl
  subst this;have h2k:(2*c+k)%2=k:=by omega
  have k1:w.cell? ⟨kb',1,none⟩=some (int k):=by
    have:w.cell? ⟨kb',1,none⟩=some (int ((2*c+k)%2:Nat)):=xA hblk 1;rw[h2k] at this;exact this
  have hkbl:=h.lt kb' (by rw[hrb];simp)
  have HX:=uA h;have HROW:=uA hrow;have HN:=uA hn;have HC1:=uA hC1;have HC2:=uA hC2;have HKN:=uA hkn;have HPT:=uA hptr;have HM0:=uA hm0;clear h hrow hblk hC1 hC2 hn h2k hkn hptr hv1 hm0;go_enter Tryz.func109,Tryz.ntmps109
  go_wp2;obtain⟨W,hW⟩:∃W,w.alloc (.cells #[.slice sa n sc,int mo] 140)=W:=⟨_,rfl⟩
  rw[hW];have hcal:qA w W:=by rw[←hW];exact(cP0 _ _).alloc _
  have hbx:W.heap[w.heap.size]?=some (.cells #[.slice sa n sc,int mo] 140):=by rw[←hW];exact eP0 w _
  have q0:W.cell? ⟨w.heap.size,0,none⟩=some (.slice sa n sc):=xA hbx 0;have q1:W.cell? ⟨w.heap.size,1,none⟩=some (int mo):=xA hbx 1;have k1':=hcal.cell (p:=⟨kb',1,none⟩) id k1;have hcald:qA w W.drew:=hcal.drew;have HXW:=uA ((yA HX).calm hcald);have HRW:Hid (RowAt W.drew ρ .rest 181 8 n (evs.flatMap (rC k)) (.slice sa n sc)):=⟨eA (yA HROW).1 hcald (fun _ _ f=>f),(yA HROW).2⟩;have HMW:Hid (Mv (iS x c k) ρ ρ w W.drew):=zQ0 (yA HX).lt hcald;have HFW:Hid (Front b w W.drew):=vQ0 hcald;clear hW hcal hbx hcald k1 HROW
  go_region_with (go_at_call 99;refine(aV (yA HXW) hc hk (r:=.rest) ⟨by simp,by simp,by simp⟩ (yA HRW) (yA HN) (yA HC1)).mono ?_;rintro e w1 ⟨rfl,ρ1,h1,m1,f1⟩
                  have HX1:=uA h1;have HM1:=uA ((yA HMW).trans (m1.mono (fun _ hr=>Or.inl hr)));have HF1:=uA ((yA HFW).trans f1)
                  clear h1 m1 f1)
  all_goals go_wp2_with (go_at_call 71;refine(eZ (yA HX1) hx hc hk (by rw[oZ];exact yA HKN) (yA HF1 _ _ (by omega) (yA HPT)) (yA HC2)).mono ?_;rintro e w2 ⟨rfl,ρ2,h2,m2,f2⟩
                         obtain⟨u,hu1,hu2⟩:=h2.known x c k hx hc hk;have hkn2:(((((σ.lose (2*c+k) mo).tells (2*c+k) evs).lose (2*c+k) f.more).tells (2*c+k) f.kept).know x (2*c+k) (some {f with kept:=[],more:=0})).kn x (2*c+k)=some {f with kept:=[],more:=0}:=by simp[Net.know]
                         rw[hkn2] at hu2;obtain⟨kb2,kv2,rfl,hrb2,hblk2,hrow2⟩:=hu2;have hptr2:=f2 _ _ (by omega) (yA HF1 _ _ (by omega) (yA HPT));have hkk:kb2=kb':=by rw[hptr2] at hu1;cases hu1;rfl
                         subst hkk;have p14:w2.cell? ⟨kb2,14,none⟩=some (.bool f.waits):=xA hblk2 14;have z14:w2.frozen? ⟨kb2,14,none⟩=false:=bA hblk2 14;have HH:=uA (And.intro h2 (And.intro ((yA HM1).trans m2) (And.intro ((yA HF1).trans f2) (And.intro hblk2 (And.intro hrb2 (And.intro hrow2 hptr2))))))
                         clear h2 m2 f2 hblk2 hrow2 hrb2 hptr2 hkn2 hu1)
  all_goals go_end0
  all_goals
    obtain⟨h2,m2,f2,hblk2,hrb2,hrow2,hptr2⟩:=yA HH;obtain⟨W2,hW2⟩:∃W2,W2=w2.setCell ⟨kb2,14,none⟩ (.bool false):=⟨_,rfl⟩;have hWb:W2.heap[kb2]?=some (.cells (eD (2*c+k) {f with kept:=[],more:=0,waits:=false} kv2).toArray 176):=by
      rw[hW2,dP0 _ _ _ _ _ _ hblk2];rfl
    have m3:Mv (keepR x (2*c+k)) ρ2 ρ2 w2 W2:=by rw[hW2];exact yQ0 (S:=keepR x (2*c+k)) h2.lt hrb2 (Or.inl rfl) _ _
    have hX:=h2.turnKn (f':={f with kept:=[],more:=0,waits:=false}) hx hc hk hptr2 hrb2 m3 hWb (hrow2.keep (fun g hg=>⟨by rw[hW2];exact zB _ _ (fun e=>by subst e;rw[hrb2] at hg;cases hg),rfl⟩))
    have hf3:Front b w2 W2:=fun o v _ hv=>pA (Mv.keeps h2.lt m3 h2.net (by simp[keepR])).1 hv;have hst:(((((σ.lose (2*c+k) mo).tells (2*c+k) evs).lose (2*c+k) f.more).tells (2*c+k) f.kept).know x (2*c+k) (some {f with kept:=[],more:=0})).know x (2*c+k) (some {f with kept:=[],more:=0,waits:=false})=((((σ.lose (2*c+k) mo).tells (2*c+k) evs).tells (2*c+k) f.kept).know x (2*c+k) (some {f with kept:=[],waits:=false})):=by
      rw[yA HM0,zL _ _ (by omega)];simp only[Net.know];congr 1
      funext p q
      simp only[xB];split<;>simp_all [yA HM0]
    rw[hst] at hX;rw[hW2] at hX m3 hf3;exact⟨rfl,ρ2,hX,m2.trans (m3.mono (fun _ hr=>Or.inr hr)),f2.trans hf3⟩
theorem yJ (c k:Nat)(hk:k<2)(K:List News)(mo:Int)(new:Nat)(a:Int)(u:List Value)(kv:Value)(w:World)(fb:Nat)(hu:u.length=10)(h:w.heap[fb]?=some (.cells (uI (.rest (2*c+k) K mo new) (int a::u) kv).toArray 142)):
  w.cell? ⟨fb,0,none⟩=some (int 4)∧w.cell? ⟨fb,1,none⟩=some (int c)∧w.cell? ⟨fb,2,none⟩=some (int k)∧w.cell? ⟨fb,21,none⟩=some (int new)∧w.cell? ⟨fb,22,none⟩=some kv∧w.cell? ⟨fb,23,none⟩=some (int mo):=by
 have h1:(2*c+k)/2=c:=by omega
 have h2:(2*c+k)%2=k:=by omega
 obtain⟨u0,u1,u2,u3,u4,u5,u6,u7,u8,u9,rfl⟩:∃u0 u1 u2 u3 u4 u5 u6 u7 u8 u9,u=[u0,u1,u2,u3,u4,u5,u6,u7,u8,u9]:=by
  match u,hu with
  | [u0,u1,u2,u3,u4,u5,u6,u7,u8,u9],_=>exact⟨u0,u1,u2,u3,u4,u5,u6,u7,u8,u9,rfl⟩
 simp only[uI,h1,h2] at h;exact⟨xA h 0,xA h 1,xA h 2,xA h 21,xA h 22,xA h 23⟩
structure RestOk (σ:Net)(x c k:Nat)(evs:List News)(mo:Int)(f:Fact):Prop where
 known:σ.kn x (2*c+k)=some f
 one:tJ σ c k evs mo
 two:tJ ((σ.lose (2*c+k) mo).tells (2*c+k) evs) c k f.kept f.more
 more:f.more=0
set_option maxRecDepth 100000 in
set_option maxHeartbeats 1000000 in
theorem kU {w:World}{b:Nat}{ρ:zA}{σ:Net}(h:XN w b ρ σ)(T:Tree σ.par){x:Nat}(hx:x<σ.n)(hlen:∀y,(σ.q x y).length<2000){c k:Nat}(hk:k<2){evs:List News}{mo:Int}{new:Nat}(hn:new<σ.n)(hne:x≠new){fb:Nat}(y:Int)(hf:FrAt w ρ (.rest (2*c+k) evs mo new) fb):
  Calls Tryz.prog 83 #[.pointer (some ⟨b,0,none⟩),int x,int y,ptr fb] w fun e w'=>e=.returned (.tuple #[])∧∃ρ',XN w' b ρ' (σ.push x (tB σ.par x new) (.rest (2*c+k) evs mo new))∧Mv (fun o=>∃y,o=.chan x y) ρ ρ' w w':=by
 obtain⟨hr,a,u,kv,hf1,hu,_,hrow⟩:=id hf;obtain⟨c0,c1,c2,c21,c22,c23⟩:=yJ c k hk evs mo new a u kv w fb hu hf1;have hxi:((x:Int) != (new:Int))=true:=by simp;omega
 have hfbl:=h.lt fb (by rw[hr];simp)
 have HX:=uA h;have HF:=uA hf;have HLEN:=uA hlen;clear h hf hf1 hlen hrow;go_enter Tryz.func83,Tryz.ntmps83
 go_wp2_with (go_at_call 75;refine(fE0 (yA HX) T hx hn hne (yA HLEN) (yA HF)).mono ?_;rintro e w2 ⟨rfl,h2,m2⟩)
 exact bodyPost_ret (v:=.tuple #[]) (by simp[results,Tryz.results83,go_sem]) rfl ⟨rfl,ρ,h2,m2⟩
set_option maxRecDepth 100000 in
set_option maxHeartbeats 2000000 in
theorem cS {w:World}{b:Nat}{ρ:zA}{σ:Net}(h:XN w b ρ σ){x:Nat}(hx:x<6){c k:Nat}(hc:c<4)(hk:k<2){evs:List News}{mo:Int}{f:Fact}(hR:RestOk σ x c k evs mo f){fb:Nat}(y:Int)(hf:FrAt w ρ (.rest (2*c+k) evs mo x) fb):
  Calls Tryz.prog 83 #[.pointer (some ⟨b,0,none⟩),int x,int y,ptr fb] w fun e w'=>e=.returned (.tuple #[])∧∃ρ',XN w' b ρ' ((((σ.lose (2*c+k) mo).tells (2*c+k) evs).tells (2*c+k) f.kept).know x (2*c+k) (some {f with kept:=[],waits:=false}))∧Mv (iS x c k) ρ ρ' w w':=by
 obtain⟨hr,a,u,kv,hf1,hu,_,hrow⟩:=id hf;obtain⟨c0,c1,c2,c21,c22,c23⟩:=yJ c k hk evs mo x a u kv w fb hu hf1;obtain⟨v,hv1,hv2⟩:=h.known x c k hx hc hk;rw[hR.known] at hv2;obtain⟨kb,kv2,rfl,hrb,hblk,_⟩:=hv2;obtain⟨sa,sc,rfl⟩:∃sa sc,kv=.slice sa evs.length sc:=by
  rcases hrow.1.2 with⟨rfl,h0⟩ | ⟨g,cap,cur,rfl,_⟩
  ·exact⟨none,0,by have h0:evs.length=0:=h0;rw[h0]⟩
  ·exact⟨_,_,rfl⟩
 have h2k:(2*c+k)%2=k:=by omega
 have hrow:RowAt w ρ .rest 181 8 evs.length (evs.flatMap (rC k)) (.slice sa evs.length sc):=by
  have:RowAt w ρ .rest 181 8 evs.length (evs.flatMap (rC ((2*c+k)%2))) (.slice sa evs.length sc):=hrow;rw[h2k] at this;exact this
 have hxi:((x:Int) != (x:Int))=false:=by simp
 have hci:(c:Int)<4:=by omega
 have hki:(k:Int)<2:=by omega
 have hx6:(x:Int)<6:=by omega
 have hfbl:=h.lt fb (by rw[hr];simp)
 have hbl:=h.lt b (by rw[h.net];simp)
 have HX:=uA h;have HROW:=uA hrow;have HR:=uA hR;have HPT:=uA hv1;generalize hn:evs.length=n at*;have HN:=uA hn;clear h hf hf1 hblk hn hR h2k hu;go_enter Tryz.func83,Tryz.ntmps83
 go_wp2;go_region
 all_goals go_wp2
 all_goals go_region_with (first
  | (go_at_call 64;refine(oG b (38+x*8) c k _ (ptr kb) hc hk ⟨_,rfl⟩ ?_).mono ?_;exact yA HPT;rintro e w1 ⟨rfl,rfl⟩)
  | (go_at_call 109;refine(bN0 (w:=w.drew.drew) ((yA HX).calm ((cP0 _ _).drew).drew) hx hc hk (yA HR).known (yA HPT) ((yA HROW).keep (fun _ _=>⟨rfl,rfl⟩)) (yA HN).symm (yA HR).one (yA HR).two (yA HR).more).mono ?_;rintro e w2 ⟨rfl,ρ2,h2,m2,_⟩))
 all_goals go_end0
 all_goals exact⟨rfl,ρ2,h2,(zQ0 (yA HX).lt ((cP0 _ _).drew).drew).trans m2⟩
end Go.Proofs.YtodfcpblcpogiaaGreat

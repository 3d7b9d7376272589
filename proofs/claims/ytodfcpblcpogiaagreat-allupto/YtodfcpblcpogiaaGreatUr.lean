import Derived.Test.YtodfcpblcpogiaaGreatUh
import Derived.Test.YtodfcpblcpogiaaGreatUq
namespace Go.Proofs.YtodfcpblcpogiaaGreat
open Go.RowKit
structure HFull (w:World)(bw o sz:Nat)(mark:Nat→Value)(n:Nat)(a:Option Addr)(c:Nat):Prop where
 top:w.cell? ⟨bw,o,none⟩=some (.slice a n c)
 le:n≤maxLen
 at_:∀i,i<n→∃g b m cap,a=some ⟨g,0,none⟩∧w.cell? ⟨g,i,none⟩=some (.slice (some ⟨b,0,none⟩) m cap)∧m≤maxLen∧∀j r,j<m→r<sz→w.cell? ⟨b,j*sz+r,none⟩=some (mark r)
structure HMark (w:World)(bw o sz:Nat)(n:Nat)(aL:Option Addr)(cL:Nat)(aM:Option Addr)(cM:Nat):Prop where
 topL:w.cell? ⟨bw,o,none⟩=some (.slice aL n cL)
 topM:w.cell? ⟨bw,o+1,none⟩=some (.slice aM n cM)
 le:n≤maxLen
 at_:∀i,i<n→∃gL gM a m cap k,aL=some ⟨gL,0,none⟩∧aM=some ⟨gM,0,none⟩∧w.cell? ⟨gL,i,none⟩=some (.slice a m cap)∧w.cell? ⟨gM,i,none⟩=some (int k)∧m≤maxLen∧(m=0∨∃g,a=some ⟨g,0,none⟩∧lE0 w sz g m k)
theorem Row.read {B:Nat}{own:Own}{w:World}{r e:Nat}{v:Value}{n:Nat}{xs:List Value}(h:Row B own w r e 1 v n xs):
  xs.length=n∧∃a cap,v=.slice a n cap∧n≤maxLen∧∀i u,xs[i]?=some u→∃g,a=some ⟨g,0,none⟩∧w.cell? ⟨g,i,none⟩=some u:=by
 have hlen:xs.length=n:=by have:=h.own.1;omega
 refine⟨hlen,?_⟩;rcases h.own.2 with⟨hv,h0⟩ | ⟨g,cap,cur,hv,_,hg,hnc,hcm,hcs,htake⟩
 ·refine⟨none,0,by rw[hv,h0],by rw[h0];unfold maxLen;omega,fun i u hu=>?_⟩;have:=(rO0.1 hu).1;omega
 ·refine⟨some ⟨g,0,none⟩,cap,hv,mO0 hnc hcm,fun i u hu=>⟨g,rfl,?_⟩⟩;have hil:i<n:=by have:=(rO0.1 hu).1;omega
  rw[xA hg,←Array.getElem?_toList];rw[←htake,uP0,if_pos (by omega)] at hu;exact hu
theorem yT {B bw:Nat}{own:Own}{w:World}{D:WD}(wb:WB B bw own w D){o r sz:Nat}{mark:Nat→Value}(ho:o<8)(h1:o≠1)(h0:wsz o=1)(hF:FullOK r sz mark own w (D.L o)):∃n a c,HFull w bw o sz mark n a c:=by
 have hr:=wb.row o ho h1;rw[h0] at hr;obtain⟨hl,a,c,hv,hle,hat⟩:=hr.read;refine⟨D.n o,a,c,by rw[←hv];exact wb.cell o ho h1,hle,fun i hi=>?_⟩;have hi2:i<(D.L o).length:=by omega
 obtain⟨g,ha,hg⟩:=hat i _ (pO0 hi2);obtain⟨b,m,cap,hb,_,hm,hc⟩:=hF _ (List.getElem_mem hi2);exact⟨g,b,m,cap,ha,by rw[←hb];exact hg,hm,hc⟩
theorem sS {B bw:Nat}{own:Own}{w:World}{D:WD}(wb:WB B bw own w D){o r sz:Nat}(ho:o+1<8)(h1:1<o)(hn:D.n o=D.n (o+1))(hM:MarkOK r sz own w (D.L o) (D.L (o+1))):∃n aL cL aM cM,HMark w bw o sz n aL cL aM cM:=by
 have hz:∀o,1<o→wsz o=1:=fun o ho=>by
  unfold wsz;split
  ·omega
  ·rfl
 have hrL:=wb.row o (by omega) (by omega);have hrM:=wb.row (o+1) (by omega) (by omega);rw[hz o h1] at hrL;rw[hz (o+1) (by omega)] at hrM;obtain⟨hlL,aL,cL,hvL,hleL,hatL⟩:=hrL.read;obtain⟨hlM,aM,cM,hvM,hleM,hatM⟩:=hrM.read;refine⟨D.n o,aL,cL,aM,cM,by rw[←hvL];exact wb.cell o (by omega) (by omega),by rw[hn,←hvM];exact wb.cell (o+1) (by omega) (by omega),hleL,fun i hi=>?_⟩;have hi2:i<(D.L o).length:=by omega
 have him:i<(D.L (o+1)).length:=by omega
 obtain⟨gL,hgL,hcL⟩:=hatL i _ (pO0 hi2);obtain⟨gM,hgM,hcM⟩:=hatM i _ (pO0 him)
 obtain⟨a,m,cap,k,hx,h2,h3⟩:=hM ((D.L o)[i],(D.L (o+1))[i]) (by
  have:((D.L o).zip (D.L (o+1)))[i]?=some ((D.L o)[i],(D.L (o+1))[i]):=by simp[List.getElem?_zip_eq_some,hi2,him]
  exact vP0 this)
 have hx1:=congrArg Prod.fst hx;have hx2:=congrArg Prod.snd hx;simp only at hx1 hx2;rw[hx1] at hcL;rw[hx2] at hcM;exact⟨gL,gM,a,m,cap,k,hgL,hgM,hcL,hcM,h2,h3.imp id (fun ⟨g,ha,_,hm⟩=>⟨g,ha,hm⟩)⟩
theorem St.reads {B:Nat}{kp:Nat→Prop}{wk w0 w:World}{bw:Nat}{nets:List Tw}{p:Nat}(h:St B kp wk w0 bw nets p w):
  (∃n a c,HFull w bw 2 1 mS n a c)∧(∃n a c,HFull w bw 3 3 rL n a c)∧(∃n aL cL aM cM,HMark w bw 4 3 n aL cL aM cM)∧(∃n aL cL aM cM,HMark w bw 6 7 n aL cL aM cM):=by
 obtain⟨own,D,wb,wc,rfl,hn,h4,h6,be⟩:=h;exact⟨yT wb (by decide) (by decide) rfl wc.ints,yT wb (by decide) (by decide) rfl wc.tests,sS wb (by decide) (by decide) h4 wc.links,sS wb (by decide) (by decide) h6 wc.logs⟩
set_option maxRecDepth 100000 in
set_option maxHeartbeats 4000000 in
theorem yW (w:World)(bw nI:Nat)(aI:Option Addr)(cI:Nat)(hI:HFull w bw 2 1 mS nI aI cI)(nT:Nat)(aT:Option Addr)(cT:Nat)(hT:HFull w bw 3 3 rL nT aT cT)
  (nL:Nat) (aL:Option Addr) (cL:Nat) (aM:Option Addr) (cM:Nat) (hL:HMark w bw 4 3 nL aL cL aM cM) (nG:Nat) (aG:Option Addr) (cG:Nat) (aE:Option Addr) (cE:Nat) (hG:HMark w bw 6 7 nG aG cG aE cE):
  Calls Tryz.prog 8 #[.pointer (some ⟨bw,0,none⟩)] w fun e w'=>e=.returned (.bool true)∧qA w w':=by
 have i2:=hI.top;have i3:=hT.top;have hlI:=hI.le;have hlT:=hT.le;have hlL:=hL.le;have hlG:=hG.le;unfold maxLen at hlI hlT hlL hlG;have HI:=uA hI;have HT:=uA hT;have HL:=uA hL;have HG:=uA hG;clear hI hL hT hG;go_enter Tryz.func8,Tryz.ntmps8
 go_wp2;go_loop [3] (fun i=>∃k:Nat,k≤nI∧i=.int .i64 k) (fun i=>nI-(intOf i).toNat)
 case atStart=>exact⟨0,by omega,rfl⟩
 case round=>
  obtain⟨k,hk,rfl⟩:=hrel;by_cases hlt:k<nI
  ·obtain⟨g,b,m,cap,ha,hc,hm,hj⟩:=(yA HI).at_ k hlt;subst ha;unfold maxLen at hm;have HJ:=uA hj;clear hj;go_wp2;go_loop [4] (fun i=>∃q:Nat,q≤m∧i=.int .i64 q) (fun i=>m-(intOf i).toNat)
   case atStart=>exact⟨0,by omega,rfl⟩
   case round=>
    obtain⟨q,hq,rfl⟩:=hrel;by_cases hqt:q<m
    ·have hcell:w.cell? ⟨b,q,none⟩=some (.int .i64 (-77000000)):=by have:=yA HJ q 0 hqt (by decide);rw[Nat.mul_one,Nat.add_zero] at this;exact this
     go_wp2;go_round
     case rel=>exact⟨q+1,by omega,by go_num⟩
     case measure=>simp[intOf];omega
    ·go_wp2;go_round
     case rel=>exact⟨k+1,by omega,by go_num⟩
     case measure=>simp[intOf];omega
  ·go_wp2;go_loop [5] (fun i=>∃k:Nat,k≤nT∧i=.int .i64 k) (fun i=>nT-(intOf i).toNat)
   case atStart=>exact⟨0,by omega,rfl⟩
   case round=>
    obtain⟨k,hk,rfl⟩:=hrel;by_cases hlt:k<nT
    ·obtain⟨g,b,m,cap,ha,hc,hm,hj⟩:=(yA HT).at_ k hlt;subst ha;unfold maxLen at hm;have HJ:=uA hj;clear hj;go_wp2;go_loop [6] (fun i=>∃q:Nat,q≤m∧i=.int .i64 q) (fun i=>m-(intOf i).toNat)
     case atStart=>exact⟨0,by omega,rfl⟩
     case round=>
      obtain⟨q,hq,rfl⟩:=hrel;by_cases hqt:q<m
      ·have s0:w.cell? ⟨b,q*3,none⟩=some (.int .i64 0):=yA HJ q 0 hqt (by decide);have s1:w.cell? ⟨b,q*3+1,none⟩=some (.int .i64 1):=yA HJ q 1 hqt (by decide);have s2:w.cell? ⟨b,q*3+2,none⟩=some (.int .i64 (-77000000)):=yA HJ q 2 hqt (by decide);go_wp2;go_round
       case rel=>exact⟨q+1,by omega,by go_num⟩
       case measure=>simp[intOf];omega
      ·go_wp2;go_round
       case rel=>exact⟨k+1,by omega,by go_num⟩
       case measure=>simp[intOf];omega
    ·go_wp2;go_loopw [7] (fun i wr=>∃k:Nat,k≤nL∧i=.int .i64 k∧qA w wr) (fun i _=>nL-(intOf i).toNat)
     case atStart=>exact⟨0,by omega,rfl,cP0 _ _⟩
     case round=>
      obtain⟨q,hq,rfl,ht⟩:=hrel;have l4:=ht.cell (p:=⟨bw,4,none⟩) id (yA HL).topL;have HT9:=uA ht;by_cases hqt:q<nL
      ·obtain⟨gL,gM,a,m,cap,mk,hgL,hgM,hcL,hcM,hm3,hmk⟩:=(yA HL).at_ q hqt;subst hgL hgM;unfold maxLen at hm3;have e1:=ht.cell (p:=⟨gL,q,none⟩) id hcL;have HCL:=uA hcL;have HCM:=uA hcM;have HMK:=uA hmk;clear hcL hcM hmk ht;go_wp2;go_loopw [8] (fun i wr=>∃r:Nat,r≤m∧i=.int .i64 r∧qA w wr) (fun i _=>m-(intOf i).toNat)
       case atStart=>exact⟨0,by omega,rfl,yA HT9⟩
       case round=>
        obtain⟨r,hr,rfl,ht'⟩:=hrel;have l4':=ht'.cell (p:=⟨bw,4,none⟩) id (yA HL).topL;have l5':=ht'.cell (p:=⟨bw,5,none⟩) id (yA HL).topM;have e1':=ht'.cell (p:=⟨gL,q,none⟩) id (yA HCL);have e2':=ht'.cell (p:=⟨gM,q,none⟩) id (yA HCM);have hqi:(q:Int)<nL:=by omega
        by_cases hrt:r<m
        ·rcases yA HMK with h0 | ⟨g,ha,hat⟩
         ·omega
         ·subst ha;have m0:wr.cell? ⟨g,r*3,none⟩=some (int mk):=ht'.cell (p:=⟨g,r*3,none⟩) id (hat r 0 hrt (by decide));have m1:wr.cell? ⟨g,r*3+1,none⟩=some (int 0):=ht'.cell (p:=⟨g,r*3+1,none⟩) id (hat r 1 hrt (by decide));have m2:wr.cell? ⟨g,r*3+2,none⟩=some (int 0):=ht'.cell (p:=⟨g,r*3+2,none⟩) id (hat r 2 hrt (by decide));have hri:(r:Int)<m:=by omega
          have HT':=uA ht';clear hat ht';go_wp2;go_quiet (fail)
          go_wp2;go_roundw
          case rel=>exact⟨r+1,by omega,by go_num,(yA HT').trans (qC _ nq)⟩
          case measure=>simp[intOf];omega
        ·have HT':=uA ht';clear ht';go_wp2;go_roundw
         case rel=>exact⟨q+1,by omega,by go_num,yA HT'⟩
         case measure=>simp[intOf];omega
      ·clear ht;go_wp2;go_loopw [9] (fun i wr=>∃k:Nat,k≤nG∧i=.int .i64 k∧qA w wr) (fun i _=>nG-(intOf i).toNat)
       case atStart=>exact⟨0,by omega,rfl,yA HT9⟩
       case round=>
        obtain⟨q,hq,rfl,ht⟩:=hrel;have l4:=ht.cell (p:=⟨bw,6,none⟩) id (yA HG).topL;have HT9:=uA ht;by_cases hqt:q<nG
        ·obtain⟨gL,gM,a,m,cap,mk,hgL,hgM,hcL,hcM,hm3,hmk⟩:=(yA HG).at_ q hqt;subst hgL hgM;unfold maxLen at hm3;have e1:=ht.cell (p:=⟨gL,q,none⟩) id hcL;have HCL:=uA hcL;have HCM:=uA hcM;have HMK:=uA hmk;clear hcL hcM hmk ht;go_wp2;go_loopw [10] (fun i wr=>∃r:Nat,r≤m∧i=.int .i64 r∧qA w wr) (fun i _=>m-(intOf i).toNat)
         case atStart=>exact⟨0,by omega,rfl,yA HT9⟩
         case round=>
          obtain⟨r,hr,rfl,ht'⟩:=hrel;have l4':=ht'.cell (p:=⟨bw,6,none⟩) id (yA HG).topL;have l5':=ht'.cell (p:=⟨bw,7,none⟩) id (yA HG).topM;have e1':=ht'.cell (p:=⟨gL,q,none⟩) id (yA HCL);have e2':=ht'.cell (p:=⟨gM,q,none⟩) id (yA HCM);have hqi:(q:Int)<nG:=by omega
          by_cases hrt:r<m
          ·rcases yA HMK with h0 | ⟨g,ha,hat⟩
           ·omega
           ·subst ha;have h35:=eq35 0 0 0;have m0:wr.cell? ⟨g,r*7,none⟩=some (int mk):=ht'.cell (p:=⟨g,r*7,none⟩) id (hat r 0 hrt (by decide));have m1:wr.cell? ⟨g,r*7+1,none⟩=some (int 0):=ht'.cell (p:=⟨g,r*7+1,none⟩) id (hat r 1 hrt (by decide));have m2:wr.cell? ⟨g,r*7+2,none⟩=some (int 0):=ht'.cell (p:=⟨g,r*7+2,none⟩) id (hat r 2 hrt (by decide));have m3:wr.cell? ⟨g,r*7+3,none⟩=some (int 0):=ht'.cell (p:=⟨g,r*7+3,none⟩) id (hat r 3 hrt (by decide));have m4:wr.cell? ⟨g,r*7+4,none⟩=some (int 0):=ht'.cell (p:=⟨g,r*7+4,none⟩) id (hat r 4 hrt (by decide));have m5:wr.cell? ⟨g,r*7+5,none⟩=some (int 0):=ht'.cell (p:=⟨g,r*7+5,none⟩) id (hat r 5 hrt (by decide));have m6:wr.cell? ⟨g,r*7+6,none⟩=some (int 0):=ht'.cell (p:=⟨g,r*7+6,none⟩) id (hat r 6 hrt (by decide));have hri:(r:Int)<m:=by omega
            have HT':=uA ht';clear hat ht';go_wp2;go_quiet (fail)
            go_wp2;go_roundw
            case rel=>exact⟨r+1,by omega,by go_num,(yA HT').trans (qC _ nq)⟩
            case measure=>simp[intOf];omega
          ·have HT':=uA ht';clear ht';go_wp2;go_roundw
           case rel=>exact⟨q+1,by omega,by go_num,yA HT'⟩
           case measure=>simp[intOf];omega
        ·clear ht;go_wp2;go_ret;exact⟨rfl,yA HT9⟩
structure OpAt (w:World)(b o i:Nat)(K On A Bv:Int)(la:Option Addr)(ln lc:Nat)(f:Nat→Int)(x y z:Int)(ta:Option Addr)(tc:Nat)(l:List Tst):Prop where
 c0:w.cell? ⟨b,o+i*9,none⟩=some (.int .i64 K)
 c1:w.cell? ⟨b,o+i*9+1,none⟩=some (.int .i64 On)
 c2:w.cell? ⟨b,o+i*9+2,none⟩=some (.int .i64 A)
 c3:w.cell? ⟨b,o+i*9+3,none⟩=some (.int .i64 Bv)
 c4:w.cell? ⟨b,o+i*9+4,none⟩=some (.slice la ln lc)
 c5:w.cell? ⟨b,o+i*9+5,none⟩=some (.int .i64 x)
 c6:w.cell? ⟨b,o+i*9+6,none⟩=some (.int .i64 y)
 c7:w.cell? ⟨b,o+i*9+7,none⟩=some (.int .i64 z)
 c8:w.cell? ⟨b,o+i*9+8,none⟩=some (.slice ta l.length tc)
 lst:IntsAt w la ln f
 len:ln≤1073741824
 tst:TestsAt w ta l
 tlen:l.length≤1073741824
 on1:-9223372036854775808≤On
 on2:On≤9223372036854775807
 a1:-9223372036854775808≤A
 a2:A≤9223372036854775807
def iT (w:World)(a:Option Addr)(n:Nat):Prop:=∀i,i<n→∃b o K On A Bv la ln lc f x y z ta tc l,a=some ⟨b,o,none⟩∧OpAt w b o i K On A Bv la ln lc f x y z ta tc l
theorem Below.calmCell {B:Nat}{w w':World}(h:Below B w w')(hB:w.heap.size≤B){b o:Nat}{v:Value}(hv:w.cell? ⟨b,o,none⟩=some v):w'.cell? ⟨b,o,none⟩=some v:=
 (h.cell (p:=⟨b,o,none⟩) (sO0 (fP0 hv) hB)).trans hv
theorem IntsAt.below {B:Nat}{w w':World}(h:Below B w w')(hB:w.heap.size≤B){a:Option Addr}{n:Nat}{f:Nat→Int}(hi:IntsAt w a n f):IntsAt w' a n f:=by
 rcases hi with hi | ⟨b,o,ha,hc⟩
 ·exact Or.inl hi
 ·exact Or.inr ⟨b,o,ha,fun j hj=>Below.calmCell h hB (hc j hj)⟩
theorem TestsAt.below {B:Nat}{w w':World}(h:Below B w w')(hB:w.heap.size≤B){a:Option Addr}{l:List Tst}(hi:TestsAt w a l):TestsAt w' a l:=by
 rcases hi with hi | ⟨b,o,ha,hc⟩
 ·exact Or.inl hi
 ·exact Or.inr ⟨b,o,ha,fun j v hj=>Below.calmCell h hB (hc j v hj)⟩
theorem St.start (w:World):St w.heap.size (fun _=>False) w w w.heap.size [] 0 (w.alloc (.cells #[.slice none 0 0,.int .i64 0,.slice none 0 0,.slice none 0 0,.slice none 0 0,.slice none 0 0,.slice none 0 0,.slice none 0 0] 33)):=by
 have hb:=eP0 w (.cells #[.slice none 0 0,.int .i64 0,.slice none 0 0,.slice none 0 0,.slice none 0 0,.slice none 0 0,.slice none 0 0,.slice none 0 0] 33);refine⟨nD (fun _=>(0,0)) w.heap.size (1,0),⟨[],0,fun _=>.slice none 0 0,fun _=>0,fun _=>[]⟩,⟨fun k hk=>?_,fun k hk=>?_,by simp,fD _ _ _,xA hb 1,fun o ho h1=>?_,bA hb,fun o _ _=>⟨jP0 _ _ _ _,fun g hg=>by cases hg⟩⟩,⟨rfl,rfl,fun i t hi=>by simp at hi,fun v hv=>by simp at hv,fun v hv=>by simp at hv,fun x hx=>by simp at hx,fun x hx=>by simp at hx,fun k hk=>hk.elim⟩,rfl,fun o ho=>Nat.zero_le _,rfl,rfl,(Below.refl _ _).alloc (qO0 _) _⟩
 ·simp at hk
  rw[eC _ _ _ _ (by omega)]
 ·by_cases e:k=w.heap.size
  ·omega
  ·rw[eC _ _ _ _ e] at hk;exact absurd rfl hk
 ·rw[xA hb];rcases o with _ | _ | _ | _ | _ | _ | _ | _ | o
  all_goals first | rfl | omega
theorem Played.keep {B:Nat}{kp:Nat→Prop}{wk w0 w:World}{bw:Nat}{nets:List Tw}{p:Nat}{K On A Bv:Int}{f:Nat→Int}{n:Nat}{x y z:Int}{l:List Tst}(h:Played B kp wk w0 bw nets p K On A Bv f n x y z l w)(hs:iU nets):∃nets',St B kp wk w0 bw nets' (p+3) w∧iU nets'∧nets'.length≤nets.length+1∧(K≠1→nets'.length=nets.length):=by
 rcases h with⟨hK,h⟩ | ⟨hK,h⟩
 ·rcases h with⟨_,h⟩ | ⟨_,bx,br,h⟩
  ·exact⟨nets,h.mono (by omega),hs,by omega,fun e=>absurd hK e⟩
  ·refine⟨_,h.mono (by omega),fun i t hi=>?_,by simp,fun e=>absurd hK e⟩;by_cases e:i<nets.length
   ·rw[oO0 e] at hi;exact hs i t hi
   ·rw[nO0 (by omega)] at hi;have h0:i-nets.length=0:=by
     have:=(rO0.1 hi).1;simp at this;omega
    rw[h0] at hi;have:(⟨bx,br,nC (vF f n),nC (vF f n)⟩:Tw)=t:=by simpa using hi
    subst this;rfl
 ·exact⟨_,h,zD0 hs,by rw[mV];omega,fun _=>mV⟩
set_option maxRecDepth 100000 in
set_option maxHeartbeats 4000000 in
theorem nM0 (a:Option Addr)(n cap:Nat)(w:World)(hS:iT w a n)(hn:n≤1048576):
  Calls Tryz.prog 5 #[.slice a n cap,.int .i64 12] w fun e w'=>e=.returned (.bool true)∧Below w.heap.size w w':=by
 have HS:=uA hS;have H0:=uA (St.start w);clear hS;have hni:(n:Int)≤1048576:=by omega
 go_enter Tryz.func5,Tryz.ntmps5
 go_wp2_with fail
 refine(lD0 (yA H0)).mono ?_;rintro e w1 ⟨rfl,t1,ht1,h1⟩
 have H1:=uA h1
 have HT1:Hid (iU [t1]):=uA (fun i t hi=>by
  cases i with
  | zero=>
   have:t1=t:=by simpa using hi
   subst this;exact ht1
  | succ i=>simp at hi)
 clear h1 H0 ht1;go_wp2_with fail
 go_loopw [6,7] (fun ok i wr=>∃(k:Nat) (nets:List Tw),k≤n∧ok=.bool true∧i=.int .i64 k∧St w.heap.size (fun _=>False) w w w.heap.size nets (30+3*k) wr∧iU nets∧nets.length≤k+1) (fun _ i _=>n-(intOf i).toNat)
 case atStart=>exact⟨0,[t1],by omega,rfl,rfl,yA H1,yA HT1,by simp⟩
 case round=>
  obtain⟨k,nets,hk,rfl,rfl,hst,hsy,hnl⟩:=hrel;have HST:=uA hst;have HSY:=uA hsy;clear H1 hst hsy HT1;by_cases hlt:k<n
  ·obtain⟨b,o,K,On,A,Bv,la,ln,lc,f,x,y,z,ta,tc,l,ha,hop⟩:=(yA HS) k hlt;subst ha;have hB:=(yA HST).bel;have c0:=Below.calmCell hB (qO0 _) hop.c0;have c1:=Below.calmCell hB (qO0 _) hop.c1;have c2:=Below.calmCell hB (qO0 _) hop.c2;have c3:=Below.calmCell hB (qO0 _) hop.c3;have c4:=Below.calmCell hB (qO0 _) hop.c4;have c5:=Below.calmCell hB (qO0 _) hop.c5;have c6:=Below.calmCell hB (qO0 _) hop.c6;have c7:=Below.calmCell hB (qO0 _) hop.c7;have c8:=Below.calmCell hB (qO0 _) hop.c8;have HPL:=uA (kC (yA HST) (by omega) (yA HSY) K On A Bv la ln lc f x y z ta tc (l:=l) (IntsAt.below hB (qO0 _) hop.lst) hop.len (fun w' hb _=>TestsAt.below hb (qO0 _) hop.tst) hop.tlen hop.on1 hop.on2 hop.a1 hop.a2);have hki:(k:Int)<n:=by omega
   clear hop hB;by_cases hK:K≤12
   ·go_wp2_with fail
    refine(yA HPL).mono ?_;rintro e w2 ⟨rfl,h2⟩
    obtain⟨nets2,h3,hs3,hl3,_⟩:=h2.keep (yA HSY);have H2:=uA h3;have HS2:=uA hs3;obtain⟨⟨nI,aI,cI,hI⟩,⟨nT,aT,cT,hT⟩,⟨nL,aL,cL,aM,cM,hL⟩,⟨nG,aG,cG,aE,cE,hG⟩⟩:=h3.reads;have HHO:=uA (yW _ w.heap.size nI aI cI hI nT aT cT hT nL aL cL aM cM hL nG aG cG aE cE hG);clear h2 h3 hs3 hI hT hL hG c0 c1 c2 c3 c4 c5 c6 c7 c8;go_wp2_with fail
    refine(yA HHO).mono ?_;rintro e w3 ⟨rfl,ht3⟩
    have H3:=uA ((yA H2).calm ht3);clear ht3 H2 HHO HST HPL;go_wp2;go_roundw
    case rel=>exact⟨k+1,nets2,by omega,rfl,by go_num,(yA H3).mono (by omega),yA HS2,by omega⟩
    case measure=>simp[intOf];omega
   ·obtain⟨⟨nI,aI,cI,hI⟩,⟨nT,aT,cT,hT⟩,⟨nL,aL,cL,aM,cM,hL⟩,⟨nG,aG,cG,aE,cE,hG⟩⟩:=(yA HST).reads;have HHO:=uA (yW _ w.heap.size nI aI cI hI nT aT cT hT nL aL cL aM cM hL nG aG cG aE cE hG);clear hI hT hL hG c1 c2 c3 c4 c5 c6 c7 c8;go_wp2_with fail
    refine(yA HHO).mono ?_;rintro e w3 ⟨rfl,ht3⟩
    have H3:=uA ((yA HST).calm ht3);clear ht3 HHO HST c0 HPL;go_wp2;go_roundw
    case rel=>exact⟨k+1,nets,by omega,rfl,by go_num,(yA H3).mono (by omega),yA HSY,by omega⟩
    case measure=>simp[intOf];omega
  ·have hkn:k=n:=by omega
   subst hkn;go_wp2;go_loopw [6,8] (fun ok i wx=>∃(j:Nat) (nets2:List Tw),j≤nets.length∧ok=.bool true∧i=.int .i64 j∧St w.heap.size (fun _=>False) w w w.heap.size nets2 (30+3*k+25*j) wx∧iU nets2∧nets2.length=nets.length) (fun _ i _=>nets.length-(intOf i).toNat)
   case atStart=>exact⟨0,nets,by omega,rfl,rfl,yA HST,yA HSY,rfl⟩
   case round=>
    obtain⟨j,nets2,hj,rfl,rfl,hst,hsy,hn2⟩:=hrel;have HST2:=uA hst;have HSY2:=uA hsy;clear HST hst hsy HSY;by_cases hjt:j<nets.length
    ·obtain⟨t,htj⟩:∃t,nets2[j]?=some t:=⟨_,pO0 (by omega)⟩;obtain⟨gA,cA,a0,a1,a2⟩:=(yA HST2).all htj;rw[hn2] at a0;have hji:(j:Int)<nets.length:=by omega
     have hji0:(0:Int)≤(j:Int):=by omega
     have hnl2:(nets.length:Int)≤4611686018427387904:=by omega
     have HPE:=uA (bP (yA HST2) (by omega) htj (yA HSY2 _ _ htj));clear htj;go_wp2_with fail
     refine(yA HPE).mono ?_;rintro e w3 ⟨rfl,h3⟩
     have H3:=uA h3;clear h3 a0 a1 a2 HST2 HPE;go_wp2;go_loopw [6,9] (fun ok i wy=>∃(c:Nat) (nets3:List Tw),c≤4∧ok=.bool true∧i=.int .i64 c∧St w.heap.size (fun _=>False) w w w.heap.size nets3 (30+3*k+25*j+1+6*c) wy∧iU nets3∧nets3.length=nets.length) (fun _ i _=>4-(intOf i).toNat)
     case atStart=>exact⟨0,nets2,by omega,rfl,rfl,yA H3,yA HSY2,hn2⟩
     case round=>
      obtain⟨c,nets3,hc,rfl,rfl,hst,hsy,hn3⟩:=hrel;have HST3:=uA hst;have HSY3:=uA hsy;clear H3 hst hsy HSY2;by_cases hct:c<4
      ·have hci:(c:Int)<4:=by omega
       have HPL:=uA (kC (yA HST3) (by omega) (yA HSY3) 5 j c 0 none 0 0 (fun _=>0) 0 0 0 none 0 (l:=[]) (Or.inl rfl) (by omega) (fun _ _ _=>Or.inl rfl) (by decide) (by omega) (by omega) (by omega) (by omega));go_wp2_with fail
       refine(yA HPL).mono ?_;rintro e w4 ⟨rfl,h4⟩
       obtain⟨nets4,h5,hs5,_,hl5⟩:=h4.keep (yA HSY3);have hn5:nets4.length=nets.length:=by rw[hl5 (by decide)];exact hn3
       have HPL2:=uA (kC h5 (by omega) hs5 11 j c 0 none 0 0 (fun _=>0) 0 0 0 none 0 (l:=[]) (Or.inl rfl) (by omega) (fun _ _ _=>Or.inl rfl) (by decide) (by omega) (by omega) (by omega) (by omega));have HS5:=uA hs5;clear h4 h5 hs5 hl5 HST3 HPL;go_wp2_with fail
       refine(yA HPL2).mono ?_;rintro e w5 ⟨rfl,h6⟩
       obtain⟨nets6,h7,hs7,_,hl7⟩:=h6.keep (yA HS5);have hn7:nets6.length=nets.length:=by rw[hl7 (by decide)];exact hn5
       have H7:=uA h7;have HS7:=uA hs7;clear h6 h7 hs7 hl7 HPL2 HS5;go_wp2;go_roundw
       case rel=>exact⟨c+1,nets6,by omega,rfl,by go_num,(yA H7).mono (by omega),yA HS7,hn7⟩
       case measure=>simp[intOf];omega
      ·have hci:¬(c:Int)<4:=by omega
       go_wp2;go_roundw
       case rel=>exact⟨j+1,nets3,by omega,rfl,by go_num,(yA HST3).mono (by omega),yA HSY3,hn3⟩
       case measure=>simp[intOf];omega
    ·obtain⟨aT,cT,hT⟩:=(yA HST2).top;rw[hn2] at hT;have hji:¬(j:Int)<nets.length:=by omega
     go_wp2;go_ret
     exact⟨rfl,(yA HST2).bel⟩
set_option maxHeartbeats 400000 in
theorem aN0 (a:Option Addr)(n cap:Nat)(w:World)(hS:iT w a n)(hn:n≤1048576):
  Calls Tryz.prog 4 #[.slice a n cap] w fun e w'=>e=.returned (.bool true)∧Below w.heap.size w w':=by
 have HS:=uA hS;clear hS;go_enter Tryz.func4,Tryz.ntmps4
 go_wp2_with fail
 refine(nM0 a n cap _ (yA HS) hn).mono ?_;rintro e w1 ⟨rfl,hb⟩
 have HB:=uA hb;clear hb;go_wp2;go_ret;exact⟨rfl,yA HB⟩
end Go.Proofs.YtodfcpblcpogiaaGreat

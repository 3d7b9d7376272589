import Derived.Test.YtodfcpblcpogiaaGreatUo
namespace Go.Proofs.YtodfcpblcpogiaaGreat
open Go.RowKit
def kl:List Tst:=[⟨0,4,5⟩]
def kS1:Net:=nC (vF (fun _=>0) 2)
def kS2:Net:=pE kS1 2 0 1 0 0 0 []
def kS3:Net:=pE kS2 2 1 2 0 0 0 []
def kS4:Net:=pE kS3 7 0 0 0 0 0 kl
def kS5:Net:=pE kS4 9 1 0 0 0 0 []
def kS6:Net:=pE kS5 9 0 2 0 0 0 []
def kS7:Net:=pE kS6 4 1 0 7 0 0 []
def kS8:Net:=pE kS7 4 1 0 4 0 0 []
def kS9:Net:=pE kS8 9 2 0 0 0 0 []
def kS10:Net:=pE kS9 9 0 1 0 0 0 []
def kS:Nat→Net
 | 1=>kS1
 | 2=>kS2
 | 3=>kS3
 | 4=>kS4
 | 5=>kS5
 | 6=>kS6
 | 7=>kS7
 | 8=>kS8
 | 9=>kS9
 | 10=>kS10
 | _=>nC []
theorem lK0:((kS 10).cl 1).here=some 2∧((kS 10).cl 1).home=some 2∧(kS 10).lookE 1=0:=by decide +kernel
theorem zN0:∃wt u0 u1,(kS 10).lookA 1=#[int 2,int 2,.bool wt,.bool u0,.bool u1]:=by
 obtain⟨h1,h2,h3⟩:=lK0;unfold Net.lookA;rw[if_pos h3];exact⟨_,_,_,by rw[show (1:Int).toNat=1 from rfl,h1,h2];rfl⟩
def mC (bx br:Nat):Nat→List Tw
 | 0=>[]
 | k+1=>[⟨bx,br,kS (k+1),kS (k+1)⟩]
theorem uD (bx br k:Nat):iU (mC bx br k):=by
 intro i t h;cases k with
 | zero=>simp[mC] at h
 | succ k=>
  cases i with
  | zero=>
   have:(⟨bx,br,kS (k+1),kS (k+1)⟩:Tw)=t:=by simpa[mC] using h
   subst this;rfl
  | succ i=>simp[mC] at h
theorem iD (bx br k:Nat)(K A Bv x:Int)(l:List Tst)(h:pE (kS (k+1)) K A Bv x 0 0 l=kS (k+1+1)):qJ (mC bx br (k+1)) K 0 A Bv x 0 0 l=mC bx br (k+1+1):=by
 have:qJ (mC bx br (k+1)) K 0 A Bv x 0 0 l=[⟨bx,br,pE (kS (k+1)) K A Bv x 0 0 l,pE (kS (k+1)) K A Bv x 0 0 l⟩]:=rfl;rw[this,h];rfl
abbrev opL (K A Bv:Int)(l:Value)(x:Int)(v:Value):List Value:=[.int .i64 K,.int .i64 0,.int .i64 A,.int .i64 Bv,l,.int .i64 x,.int .i64 0,.int .i64 0,v]
def kA0 (N:Nat):List Value:=
 opL 1 0 0 (.slice (some ⟨N,0,none⟩) 2 2) 0 (.slice none 0 0)++opL 2 0 1 (.slice none 0 0) 0 (.slice none 0 0)++opL 2 1 2 (.slice none 0 0) 0 (.slice none 0 0)++opL 7 0 0 (.slice none 0 0) 0 (.slice (some ⟨N+1,0,none⟩) 1 1)++opL 9 1 0 (.slice none 0 0) 0 (.slice none 0 0)++opL 9 0 2 (.slice none 0 0) 0 (.slice none 0 0)++opL 4 1 0 (.slice none 0 0) 7 (.slice none 0 0)++opL 4 1 0 (.slice none 0 0) 4 (.slice none 0 0)++opL 9 2 0 (.slice none 0 0) 0 (.slice none 0 0)++opL 9 0 1 (.slice none 0 0) 0 (.slice none 0 0)
set_option maxRecDepth 100000 in
set_option maxHeartbeats 8000000 in
theorem lD0 {B:Nat}{kp:Nat→Prop}{wk w0 w:World}{bw:Nat}(h:St B kp wk w0 bw [] 0 w):
  Calls Tryz.prog 6 #[.pointer (some ⟨bw,0,none⟩),.int .i64 12] w fun e w'=>e=.returned (.bool true)∧∃t,t.τ=t.σ∧St B kp wk w0 bw [t] 30 w':=by
 obtain⟨W,hW⟩:∃W,W=((w.alloc (.cells #[.int .i64 0,.int .i64 0] 3)).alloc (.cells #[.int .i64 0,.int .i64 4,.int .i64 5] 47)).alloc (.cells (kA0 w.heap.size).toArray 38):=⟨_,rfl⟩;have hcal:qA w W:=by rw[hW];exact(((cP0 _ _).alloc _).alloc _).alloc _
 have hbox:W.heap[w.heap.size+1+1]?=some (.cells (kA0 w.heap.size).toArray 38):=by
  rw[hW,show w.heap.size+1+1=(w.alloc (.cells #[.int .i64 0,.int .i64 0] 3)).heap.size+1 from by simp];exact heap_alloc2_new _ _ _
 have hb0:W.heap[w.heap.size]?=some (.cells #[.int .i64 0,.int .i64 0] 3):=by
  rw[hW,kP0 _ _ _ (by simp;omega),kP0 _ _ _ (by simp)];exact eP0 _ _
 have hb1:W.heap[w.heap.size+1]?=some (.cells #[.int .i64 0,.int .i64 4,.int .i64 5] 47):=by
  rw[hW,kP0 _ _ _ (by simp)];exact heap_alloc2_new _ _ _
 have hlW:=(tO0.1 hbox).1;have HS:=uA (h.guard hcal (fun k=>w.heap.size≤k∧k≤w.heap.size+1+1) (fun g hg=>⟨hg.1,by omega⟩));have HKP:Hid (∀k,kp k→W.heap[k]?=wk.heap[k]?):=uA (fun k hk=>(h.calm hcal).kept hk);have HBX:=uA hbox;have HB0:=uA hb0;have HB1:=uA hb1
 have HTT:Hid (∀w',(∀k,(kp k∨(w.heap.size≤k∧k≤w.heap.size+1+1))→w'.heap[k]?=W.heap[k]?)→TestsAt w' (some ⟨w.heap.size+1,0,none⟩) kl):=uA (fun w' hk=>by
  have h9:=(hk (w.heap.size+1) (Or.inr ⟨by omega,by omega⟩)).trans hb1;refine Or.inr ⟨w.heap.size+1,0,rfl,fun j v hj=>?_⟩;rw[sP0,xA h9];have:(kl.flatMap Tst.enc)=[int 0,int 4,int 5]:=rfl;rw[this] at hj
  simpa using hj)
 have HIT:Hid (∀w',(∀k,(kp k∨(w.heap.size≤k∧k≤w.heap.size+1+1))→w'.heap[k]?=W.heap[k]?)→IntsAt w' (some ⟨w.heap.size,0,none⟩) 2 (fun _=>0)):=uA (fun w' hk=>by
  have h9:=(hk w.heap.size (Or.inr ⟨by omega,by omega⟩)).trans hb0;refine Or.inr ⟨w.heap.size,0,rfl,fun j hj=>?_⟩;rw[xA h9];rcases j with _ | _ | j
  ·rfl
  ·rfl
  ·omega)
 have HW:=uA hW;clear h hcal hbox hb0 hb1 hW hlW;go_enter Tryz.func6,Tryz.ntmps6
 go_wp2;go_loopw [6,7] (fun i _ wr=>∃(k bx br:Nat),k≤10∧i=.int .i64 k∧St B (fun k=>kp k∨(w.heap.size≤k∧k≤w.heap.size+1+1)) W w0 bw (mC bx br k) (3*k) wr) (fun i _ _=>10-(intOf i).toNat)
 case atStart=>exact⟨0,0,0,by omega,rfl,by have:=yA HS;rw[yA HW] at this ⊢;exact this⟩
 case round=>
  obtain⟨k,bx,br,hk,rfl,hS⟩:=hrel;have hb:=(hS.kept (k:=w.heap.size+1+1) (Or.inr ⟨by omega,by omega⟩)).trans (yA HBX);have HB:=uA hb;have HSR:=uA hS;clear HS hS hb HW;have hk':k=0∨k=1∨k=2∨k=3∨k=4∨k=5∨k=6∨k=7∨k=8∨k=9∨k=10:=by omega
  rcases hk' with rfl | rfl | rfl | rfl | rfl | rfl | rfl | rfl | rfl | rfl | rfl
  ·have c0:wr.cell? ⟨w.heap.size+1+1,0,none⟩=some (.int .i64 1):=xA (yA HB) 0;have c1:wr.cell? ⟨w.heap.size+1+1,1,none⟩=some (.int .i64 0):=xA (yA HB) 1;have c2:wr.cell? ⟨w.heap.size+1+1,2,none⟩=some (.int .i64 0):=xA (yA HB) 2;have c3:wr.cell? ⟨w.heap.size+1+1,3,none⟩=some (.int .i64 0):=xA (yA HB) 3;have c4:wr.cell? ⟨w.heap.size+1+1,4,none⟩=some (.slice (some ⟨w.heap.size,0,none⟩) 2 2):=xA (yA HB) 4;have c5:wr.cell? ⟨w.heap.size+1+1,5,none⟩=some (.int .i64 0):=xA (yA HB) 5;have c6:wr.cell? ⟨w.heap.size+1+1,6,none⟩=some (.int .i64 0):=xA (yA HB) 6;have c7:wr.cell? ⟨w.heap.size+1+1,7,none⟩=some (.int .i64 0):=xA (yA HB) 7;have c8:wr.cell? ⟨w.heap.size+1+1,8,none⟩=some (.slice none 0 0):=xA (yA HB) 8;have HPL:=uA (kC (yA HSR) (by omega) (uD bx br 0) 1 0 0 0 (some ⟨w.heap.size,0,none⟩) 2 2 (fun _=>0) 0 0 0 none 0 (l:=[]) (yA HIT wr (fun k hk=>(yA HSR).kept hk)) (by omega) (fun w' _ _=>Or.inl rfl) (by decide) (by omega) (by omega) (by omega) (by omega));go_wp2_with fail
   refine(yA HPL).mono ?_;rintro e w1 ⟨rfl,h1⟩
   obtain⟨bx1,br1,h2⟩:∃bx1 br1,St B (fun k=>kp k∨(w.heap.size≤k∧k≤w.heap.size+1+1)) W w0 bw (mC bx1 br1 1) 3 w1:=by
    rcases h1 with⟨_,h1⟩ | ⟨h1,_⟩
    ·rcases h1 with⟨h1,_⟩ | ⟨_,bx1,br1,h1⟩
     ·exact absurd h1 (by decide)
     ·exact⟨bx1,br1,(show St B (fun k=>kp k∨(w.heap.size≤k∧k≤w.heap.size+1+1)) W w0 bw (mC bx1 br1 1) (3*0+1) w1 from h1).mono (by omega)⟩
    ·exact absurd rfl h1
   have HS1:=uA h2;clear h1 h2 c0 c1 c2 c3 c4 c5 c6 c7 c8 HSR HB HPL;go_wp2;go_roundw
   case rel=>exact⟨1,bx1,br1,by omega,by go_num,yA HS1⟩
   case measure=>simp[intOf]
  ·have c0:wr.cell? ⟨w.heap.size+1+1,9,none⟩=some (.int .i64 2):=xA (yA HB) 9;have c1:wr.cell? ⟨w.heap.size+1+1,10,none⟩=some (.int .i64 0):=xA (yA HB) 10;have c2:wr.cell? ⟨w.heap.size+1+1,11,none⟩=some (.int .i64 0):=xA (yA HB) 11;have c3:wr.cell? ⟨w.heap.size+1+1,12,none⟩=some (.int .i64 1):=xA (yA HB) 12;have c4:wr.cell? ⟨w.heap.size+1+1,13,none⟩=some (.slice none 0 0):=xA (yA HB) 13;have c5:wr.cell? ⟨w.heap.size+1+1,14,none⟩=some (.int .i64 0):=xA (yA HB) 14;have c6:wr.cell? ⟨w.heap.size+1+1,15,none⟩=some (.int .i64 0):=xA (yA HB) 15;have c7:wr.cell? ⟨w.heap.size+1+1,16,none⟩=some (.int .i64 0):=xA (yA HB) 16;have c8:wr.cell? ⟨w.heap.size+1+1,17,none⟩=some (.slice none 0 0):=xA (yA HB) 17;have HPL:=uA (kC (yA HSR) (by omega) (uD bx br 1) 2 0 0 1 none 0 0 (fun _=>0) 0 0 0 none 0 (l:=[]) (Or.inl rfl) (by omega) (fun w' _ _=>Or.inl rfl) (by decide) (by omega) (by omega) (by omega) (by omega));go_wp2_with fail
   refine(yA HPL).mono ?_;rintro e w1 ⟨rfl,h1⟩
   have h2:St B (fun k=>kp k∨(w.heap.size≤k∧k≤w.heap.size+1+1)) W w0 bw (mC bx br 2) 6 w1:=by
    rcases h1 with⟨h1,_⟩ | ⟨_,h1⟩
    ·exact absurd h1 (by decide)
    ·rw[iD bx br 0 2 0 1 0 [] rfl] at h1;exact h1
   have HS1:=uA h2;clear h1 h2 c0 c1 c2 c3 c4 c5 c6 c7 c8 HSR HB HPL;go_wp2;go_roundw
   case rel=>exact⟨2,bx,br,by omega,by go_num,yA HS1⟩
   case measure=>simp[intOf]
  ·have c0:wr.cell? ⟨w.heap.size+1+1,18,none⟩=some (.int .i64 2):=xA (yA HB) 18;have c1:wr.cell? ⟨w.heap.size+1+1,19,none⟩=some (.int .i64 0):=xA (yA HB) 19;have c2:wr.cell? ⟨w.heap.size+1+1,20,none⟩=some (.int .i64 1):=xA (yA HB) 20;have c3:wr.cell? ⟨w.heap.size+1+1,21,none⟩=some (.int .i64 2):=xA (yA HB) 21;have c4:wr.cell? ⟨w.heap.size+1+1,22,none⟩=some (.slice none 0 0):=xA (yA HB) 22;have c5:wr.cell? ⟨w.heap.size+1+1,23,none⟩=some (.int .i64 0):=xA (yA HB) 23;have c6:wr.cell? ⟨w.heap.size+1+1,24,none⟩=some (.int .i64 0):=xA (yA HB) 24;have c7:wr.cell? ⟨w.heap.size+1+1,25,none⟩=some (.int .i64 0):=xA (yA HB) 25;have c8:wr.cell? ⟨w.heap.size+1+1,26,none⟩=some (.slice none 0 0):=xA (yA HB) 26;have HPL:=uA (kC (yA HSR) (by omega) (uD bx br 2) 2 0 1 2 none 0 0 (fun _=>0) 0 0 0 none 0 (l:=[]) (Or.inl rfl) (by omega) (fun w' _ _=>Or.inl rfl) (by decide) (by omega) (by omega) (by omega) (by omega));go_wp2_with fail
   refine(yA HPL).mono ?_;rintro e w1 ⟨rfl,h1⟩
   have h2:St B (fun k=>kp k∨(w.heap.size≤k∧k≤w.heap.size+1+1)) W w0 bw (mC bx br 3) 9 w1:=by
    rcases h1 with⟨h1,_⟩ | ⟨_,h1⟩
    ·exact absurd h1 (by decide)
    ·rw[iD bx br 1 2 1 2 0 [] rfl] at h1;exact h1
   have HS1:=uA h2;clear h1 h2 c0 c1 c2 c3 c4 c5 c6 c7 c8 HSR HB HPL;go_wp2;go_roundw
   case rel=>exact⟨3,bx,br,by omega,by go_num,yA HS1⟩
   case measure=>simp[intOf]
  ·have c0:wr.cell? ⟨w.heap.size+1+1,27,none⟩=some (.int .i64 7):=xA (yA HB) 27;have c1:wr.cell? ⟨w.heap.size+1+1,28,none⟩=some (.int .i64 0):=xA (yA HB) 28;have c2:wr.cell? ⟨w.heap.size+1+1,29,none⟩=some (.int .i64 0):=xA (yA HB) 29;have c3:wr.cell? ⟨w.heap.size+1+1,30,none⟩=some (.int .i64 0):=xA (yA HB) 30;have c4:wr.cell? ⟨w.heap.size+1+1,31,none⟩=some (.slice none 0 0):=xA (yA HB) 31;have c5:wr.cell? ⟨w.heap.size+1+1,32,none⟩=some (.int .i64 0):=xA (yA HB) 32;have c6:wr.cell? ⟨w.heap.size+1+1,33,none⟩=some (.int .i64 0):=xA (yA HB) 33;have c7:wr.cell? ⟨w.heap.size+1+1,34,none⟩=some (.int .i64 0):=xA (yA HB) 34;have c8:wr.cell? ⟨w.heap.size+1+1,35,none⟩=some (.slice (some ⟨w.heap.size+1,0,none⟩) 1 1):=xA (yA HB) 35;have HPL:=uA (kC (yA HSR) (by omega) (uD bx br 3) 7 0 0 0 none 0 0 (fun _=>0) 0 0 0 (some ⟨w.heap.size+1,0,none⟩) 1 (l:=kl) (Or.inl rfl) (by omega) (fun w' _ hk=>yA HTT w' hk) (by decide) (by omega) (by omega) (by omega) (by omega));go_wp2_with fail
   refine(yA HPL).mono ?_;rintro e w1 ⟨rfl,h1⟩
   have h2:St B (fun k=>kp k∨(w.heap.size≤k∧k≤w.heap.size+1+1)) W w0 bw (mC bx br 4) 12 w1:=by
    rcases h1 with⟨h1,_⟩ | ⟨_,h1⟩
    ·exact absurd h1 (by decide)
    ·rw[iD bx br 2 7 0 0 0 kl rfl] at h1;exact h1
   have HS1:=uA h2;clear h1 h2 c0 c1 c2 c3 c4 c5 c6 c7 c8 HSR HB HPL;go_wp2;go_roundw
   case rel=>exact⟨4,bx,br,by omega,by go_num,yA HS1⟩
   case measure=>simp[intOf]
  ·have c0:wr.cell? ⟨w.heap.size+1+1,36,none⟩=some (.int .i64 9):=xA (yA HB) 36;have c1:wr.cell? ⟨w.heap.size+1+1,37,none⟩=some (.int .i64 0):=xA (yA HB) 37;have c2:wr.cell? ⟨w.heap.size+1+1,38,none⟩=some (.int .i64 1):=xA (yA HB) 38;have c3:wr.cell? ⟨w.heap.size+1+1,39,none⟩=some (.int .i64 0):=xA (yA HB) 39;have c4:wr.cell? ⟨w.heap.size+1+1,40,none⟩=some (.slice none 0 0):=xA (yA HB) 40;have c5:wr.cell? ⟨w.heap.size+1+1,41,none⟩=some (.int .i64 0):=xA (yA HB) 41;have c6:wr.cell? ⟨w.heap.size+1+1,42,none⟩=some (.int .i64 0):=xA (yA HB) 42;have c7:wr.cell? ⟨w.heap.size+1+1,43,none⟩=some (.int .i64 0):=xA (yA HB) 43;have c8:wr.cell? ⟨w.heap.size+1+1,44,none⟩=some (.slice none 0 0):=xA (yA HB) 44;have HPL:=uA (kC (yA HSR) (by omega) (uD bx br 4) 9 0 1 0 none 0 0 (fun _=>0) 0 0 0 none 0 (l:=[]) (Or.inl rfl) (by omega) (fun w' _ _=>Or.inl rfl) (by decide) (by omega) (by omega) (by omega) (by omega));go_wp2_with fail
   refine(yA HPL).mono ?_;rintro e w1 ⟨rfl,h1⟩
   have h2:St B (fun k=>kp k∨(w.heap.size≤k∧k≤w.heap.size+1+1)) W w0 bw (mC bx br 5) 15 w1:=by
    rcases h1 with⟨h1,_⟩ | ⟨_,h1⟩
    ·exact absurd h1 (by decide)
    ·rw[iD bx br 3 9 1 0 0 [] rfl] at h1;exact h1
   have HS1:=uA h2;clear h1 h2 c0 c1 c2 c3 c4 c5 c6 c7 c8 HSR HB HPL;go_wp2;go_roundw
   case rel=>exact⟨5,bx,br,by omega,by go_num,yA HS1⟩
   case measure=>simp[intOf]
  ·have c0:wr.cell? ⟨w.heap.size+1+1,45,none⟩=some (.int .i64 9):=xA (yA HB) 45;have c1:wr.cell? ⟨w.heap.size+1+1,46,none⟩=some (.int .i64 0):=xA (yA HB) 46;have c2:wr.cell? ⟨w.heap.size+1+1,47,none⟩=some (.int .i64 0):=xA (yA HB) 47;have c3:wr.cell? ⟨w.heap.size+1+1,48,none⟩=some (.int .i64 2):=xA (yA HB) 48;have c4:wr.cell? ⟨w.heap.size+1+1,49,none⟩=some (.slice none 0 0):=xA (yA HB) 49;have c5:wr.cell? ⟨w.heap.size+1+1,50,none⟩=some (.int .i64 0):=xA (yA HB) 50;have c6:wr.cell? ⟨w.heap.size+1+1,51,none⟩=some (.int .i64 0):=xA (yA HB) 51;have c7:wr.cell? ⟨w.heap.size+1+1,52,none⟩=some (.int .i64 0):=xA (yA HB) 52;have c8:wr.cell? ⟨w.heap.size+1+1,53,none⟩=some (.slice none 0 0):=xA (yA HB) 53;have HPL:=uA (kC (yA HSR) (by omega) (uD bx br 5) 9 0 0 2 none 0 0 (fun _=>0) 0 0 0 none 0 (l:=[]) (Or.inl rfl) (by omega) (fun w' _ _=>Or.inl rfl) (by decide) (by omega) (by omega) (by omega) (by omega));go_wp2_with fail
   refine(yA HPL).mono ?_;rintro e w1 ⟨rfl,h1⟩
   have h2:St B (fun k=>kp k∨(w.heap.size≤k∧k≤w.heap.size+1+1)) W w0 bw (mC bx br 6) 18 w1:=by
    rcases h1 with⟨h1,_⟩ | ⟨_,h1⟩
    ·exact absurd h1 (by decide)
    ·rw[iD bx br 4 9 0 2 0 [] rfl] at h1;exact h1
   have HS1:=uA h2;clear h1 h2 c0 c1 c2 c3 c4 c5 c6 c7 c8 HSR HB HPL;go_wp2;go_roundw
   case rel=>exact⟨6,bx,br,by omega,by go_num,yA HS1⟩
   case measure=>simp[intOf]
  ·have c0:wr.cell? ⟨w.heap.size+1+1,54,none⟩=some (.int .i64 4):=xA (yA HB) 54;have c1:wr.cell? ⟨w.heap.size+1+1,55,none⟩=some (.int .i64 0):=xA (yA HB) 55;have c2:wr.cell? ⟨w.heap.size+1+1,56,none⟩=some (.int .i64 1):=xA (yA HB) 56;have c3:wr.cell? ⟨w.heap.size+1+1,57,none⟩=some (.int .i64 0):=xA (yA HB) 57;have c4:wr.cell? ⟨w.heap.size+1+1,58,none⟩=some (.slice none 0 0):=xA (yA HB) 58;have c5:wr.cell? ⟨w.heap.size+1+1,59,none⟩=some (.int .i64 7):=xA (yA HB) 59;have c6:wr.cell? ⟨w.heap.size+1+1,60,none⟩=some (.int .i64 0):=xA (yA HB) 60;have c7:wr.cell? ⟨w.heap.size+1+1,61,none⟩=some (.int .i64 0):=xA (yA HB) 61;have c8:wr.cell? ⟨w.heap.size+1+1,62,none⟩=some (.slice none 0 0):=xA (yA HB) 62;have HPL:=uA (kC (yA HSR) (by omega) (uD bx br 6) 4 0 1 0 none 0 0 (fun _=>0) 7 0 0 none 0 (l:=[]) (Or.inl rfl) (by omega) (fun w' _ _=>Or.inl rfl) (by decide) (by omega) (by omega) (by omega) (by omega));go_wp2_with fail
   refine(yA HPL).mono ?_;rintro e w1 ⟨rfl,h1⟩
   have h2:St B (fun k=>kp k∨(w.heap.size≤k∧k≤w.heap.size+1+1)) W w0 bw (mC bx br 7) 21 w1:=by
    rcases h1 with⟨h1,_⟩ | ⟨_,h1⟩
    ·exact absurd h1 (by decide)
    ·rw[iD bx br 5 4 1 0 7 [] rfl] at h1;exact h1
   have HS1:=uA h2;clear h1 h2 c0 c1 c2 c3 c4 c5 c6 c7 c8 HSR HB HPL;go_wp2;go_roundw
   case rel=>exact⟨7,bx,br,by omega,by go_num,yA HS1⟩
   case measure=>simp[intOf]
  ·have c0:wr.cell? ⟨w.heap.size+1+1,63,none⟩=some (.int .i64 4):=xA (yA HB) 63;have c1:wr.cell? ⟨w.heap.size+1+1,64,none⟩=some (.int .i64 0):=xA (yA HB) 64;have c2:wr.cell? ⟨w.heap.size+1+1,65,none⟩=some (.int .i64 1):=xA (yA HB) 65;have c3:wr.cell? ⟨w.heap.size+1+1,66,none⟩=some (.int .i64 0):=xA (yA HB) 66;have c4:wr.cell? ⟨w.heap.size+1+1,67,none⟩=some (.slice none 0 0):=xA (yA HB) 67;have c5:wr.cell? ⟨w.heap.size+1+1,68,none⟩=some (.int .i64 4):=xA (yA HB) 68;have c6:wr.cell? ⟨w.heap.size+1+1,69,none⟩=some (.int .i64 0):=xA (yA HB) 69;have c7:wr.cell? ⟨w.heap.size+1+1,70,none⟩=some (.int .i64 0):=xA (yA HB) 70;have c8:wr.cell? ⟨w.heap.size+1+1,71,none⟩=some (.slice none 0 0):=xA (yA HB) 71;have HPL:=uA (kC (yA HSR) (by omega) (uD bx br 7) 4 0 1 0 none 0 0 (fun _=>0) 4 0 0 none 0 (l:=[]) (Or.inl rfl) (by omega) (fun w' _ _=>Or.inl rfl) (by decide) (by omega) (by omega) (by omega) (by omega));go_wp2_with fail
   refine(yA HPL).mono ?_;rintro e w1 ⟨rfl,h1⟩
   have h2:St B (fun k=>kp k∨(w.heap.size≤k∧k≤w.heap.size+1+1)) W w0 bw (mC bx br 8) 24 w1:=by
    rcases h1 with⟨h1,_⟩ | ⟨_,h1⟩
    ·exact absurd h1 (by decide)
    ·rw[iD bx br 6 4 1 0 4 [] rfl] at h1;exact h1
   have HS1:=uA h2;clear h1 h2 c0 c1 c2 c3 c4 c5 c6 c7 c8 HSR HB HPL;go_wp2;go_roundw
   case rel=>exact⟨8,bx,br,by omega,by go_num,yA HS1⟩
   case measure=>simp[intOf]
  ·have c0:wr.cell? ⟨w.heap.size+1+1,72,none⟩=some (.int .i64 9):=xA (yA HB) 72;have c1:wr.cell? ⟨w.heap.size+1+1,73,none⟩=some (.int .i64 0):=xA (yA HB) 73;have c2:wr.cell? ⟨w.heap.size+1+1,74,none⟩=some (.int .i64 2):=xA (yA HB) 74;have c3:wr.cell? ⟨w.heap.size+1+1,75,none⟩=some (.int .i64 0):=xA (yA HB) 75;have c4:wr.cell? ⟨w.heap.size+1+1,76,none⟩=some (.slice none 0 0):=xA (yA HB) 76;have c5:wr.cell? ⟨w.heap.size+1+1,77,none⟩=some (.int .i64 0):=xA (yA HB) 77;have c6:wr.cell? ⟨w.heap.size+1+1,78,none⟩=some (.int .i64 0):=xA (yA HB) 78;have c7:wr.cell? ⟨w.heap.size+1+1,79,none⟩=some (.int .i64 0):=xA (yA HB) 79;have c8:wr.cell? ⟨w.heap.size+1+1,80,none⟩=some (.slice none 0 0):=xA (yA HB) 80;have HPL:=uA (kC (yA HSR) (by omega) (uD bx br 8) 9 0 2 0 none 0 0 (fun _=>0) 0 0 0 none 0 (l:=[]) (Or.inl rfl) (by omega) (fun w' _ _=>Or.inl rfl) (by decide) (by omega) (by omega) (by omega) (by omega));go_wp2_with fail
   refine(yA HPL).mono ?_;rintro e w1 ⟨rfl,h1⟩
   have h2:St B (fun k=>kp k∨(w.heap.size≤k∧k≤w.heap.size+1+1)) W w0 bw (mC bx br 9) 27 w1:=by
    rcases h1 with⟨h1,_⟩ | ⟨_,h1⟩
    ·exact absurd h1 (by decide)
    ·rw[iD bx br 7 9 2 0 0 [] rfl] at h1;exact h1
   have HS1:=uA h2;clear h1 h2 c0 c1 c2 c3 c4 c5 c6 c7 c8 HSR HB HPL;go_wp2;go_roundw
   case rel=>exact⟨9,bx,br,by omega,by go_num,yA HS1⟩
   case measure=>simp[intOf]
  ·have c0:wr.cell? ⟨w.heap.size+1+1,81,none⟩=some (.int .i64 9):=xA (yA HB) 81;have c1:wr.cell? ⟨w.heap.size+1+1,82,none⟩=some (.int .i64 0):=xA (yA HB) 82;have c2:wr.cell? ⟨w.heap.size+1+1,83,none⟩=some (.int .i64 0):=xA (yA HB) 83;have c3:wr.cell? ⟨w.heap.size+1+1,84,none⟩=some (.int .i64 1):=xA (yA HB) 84;have c4:wr.cell? ⟨w.heap.size+1+1,85,none⟩=some (.slice none 0 0):=xA (yA HB) 85;have c5:wr.cell? ⟨w.heap.size+1+1,86,none⟩=some (.int .i64 0):=xA (yA HB) 86;have c6:wr.cell? ⟨w.heap.size+1+1,87,none⟩=some (.int .i64 0):=xA (yA HB) 87;have c7:wr.cell? ⟨w.heap.size+1+1,88,none⟩=some (.int .i64 0):=xA (yA HB) 88;have c8:wr.cell? ⟨w.heap.size+1+1,89,none⟩=some (.slice none 0 0):=xA (yA HB) 89;have HPL:=uA (kC (yA HSR) (by omega) (uD bx br 9) 9 0 0 1 none 0 0 (fun _=>0) 0 0 0 none 0 (l:=[]) (Or.inl rfl) (by omega) (fun w' _ _=>Or.inl rfl) (by decide) (by omega) (by omega) (by omega) (by omega));go_wp2_with fail
   refine(yA HPL).mono ?_;rintro e w1 ⟨rfl,h1⟩
   have h2:St B (fun k=>kp k∨(w.heap.size≤k∧k≤w.heap.size+1+1)) W w0 bw (mC bx br 10) 30 w1:=by
    rcases h1 with⟨h1,_⟩ | ⟨_,h1⟩
    ·exact absurd h1 (by decide)
    ·rw[iD bx br 8 9 0 1 0 [] rfl] at h1;exact h1
   have HS1:=uA h2;clear h1 h2 c0 c1 c2 c3 c4 c5 c6 c7 c8 HSR HB HPL;go_wp2;go_roundw
   case rel=>exact⟨10,bx,br,by omega,by go_num,yA HS1⟩
   case measure=>simp[intOf]
  ·obtain⟨gA,cA,a0,a1,a2⟩:=(yA HSR).all (i:=0) (t:=⟨bx,br,kS 10,kS 10⟩) rfl;have a0':wr.cell? ⟨bw,0,none⟩=some (.slice (some ⟨gA,0,none⟩) 1 cA):=a0;have a1':wr.cell? ⟨gA,0,none⟩=some (.pointer (some ⟨bx,0,none⟩)):=a1;obtain⟨wt,u0,u1,hlA⟩:=zN0;have hLK:=qK0 (yA HSR) (i:=0) (t:=⟨bx,br,kS 10,kS 10⟩) rfl 1;simp only[hlA,lK0.2.2] at hLK;have HLK:=uA hLK;clear a0 a1 a2 hLK hlA;go_wp2_with fail
   refine(yA HLK).mono ?_;rintro e w1 ⟨rfl,h1,ht1⟩
   have HS1:=uA h1;clear ht1 h1 a0' a1' HSR HB HLK;go_wp2;go_ret;exact⟨rfl,⟨bx,br,kS 10,kS 10⟩,rfl,((yA HS1).calm ((cP0 _ _).alloc _)).back (fun k hk=>Or.inl hk) (yA HKP)⟩
end Go.Proofs.YtodfcpblcpogiaaGreat

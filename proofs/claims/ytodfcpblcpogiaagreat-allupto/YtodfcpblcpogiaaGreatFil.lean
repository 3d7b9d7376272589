import Derived.Test.YtodfcpblcpogiaaGreatXnet
import Derived.Deep.RegionWith
import Derived.Deep.DeepCutAuto
namespace Go.Proofs.YtodfcpblcpogiaaGreat
open Go.RowKit
set_option maxHeartbeats 400000 in
theorem aA (c:Int)(w:World):Calls Tryz.prog 26 #[int c] w fun e w'=>e=.returned (.bool (dA c))∧w'=w:=by
  by_cases h0:0≤c<;>by_cases h1:c<4<;>
  (go_enter Tryz.func26,Tryz.ntmps26
   go_wp2;go_ret
   exact⟨by simp[dA,h0,h1],rfl⟩)
set_option maxHeartbeats 400000 in
theorem zC (b o:Nat)(a:Int)(w:World)(h:w.cell? ⟨b,o,none⟩=some (int a)):Calls Tryz.prog 32 #[.pointer (some ⟨b,o,none⟩)] w fun e w'=>e=.returned (.bool (a == -1))∧w'=w:=by
 go_enter Tryz.func32,Tryz.ntmps32
 go_wp2;go_ret
 exact⟨rfl,rfl⟩
set_option maxHeartbeats 400000 in
theorem iF (b o:Nat)(a:Int)(w:World)(h:w.cell? ⟨b,o,none⟩=some (int a)):Calls Tryz.prog 49 #[.pointer (some ⟨b,o,none⟩)] w fun e w'=>e=.returned (int a)∧w'=w:=by
 go_enter Tryz.func49,Tryz.ntmps49
 go_wp2;go_ret
 exact⟨rfl,rfl⟩
set_option maxHeartbeats 400000 in
theorem yJ0 (b o:Nat)(a:Int)(w:World)(h:w.cell? ⟨b,o+2,none⟩=some (int a)):Calls Tryz.prog 50 #[.pointer (some ⟨b,o,none⟩)] w fun e w'=>e=.returned (int a)∧w'=w:=by
 go_enter Tryz.func50,Tryz.ntmps50
 go_wp2;go_ret
 exact⟨rfl,rfl⟩
def chk (g:Bool):Int:=if g then 0 else 1
set_option maxHeartbeats 400000 in
theorem sB (b:Nat)(g:Bool)(w:World)(h:w.cell? ⟨b,0,none⟩=some (.bool false)):Calls Tryz.prog 25 #[.pointer (some ⟨b,0,none⟩),.bool g] w fun e w'=>e=.returned (int (chk g))∧w'=w:=by
  cases g<;>
  (go_enter Tryz.func25,Tryz.ntmps25
   go_wp2;go_ret
   exact⟨rfl,rfl⟩)
set_option maxHeartbeats 400000 in
theorem jK (a:Option Addr)(n c:Nat)(w:World)(h:n≤5):Calls Tryz.prog 69 #[.agg #[.slice a n c]] w fun e w'=>e=.returned (int (n+1))∧qA w w':=by
 go_enter Tryz.func69,Tryz.ntmps69
 go_wp2;go_ret
 exact⟨rfl,(cP0 _ _).alloc _⟩
def vN (n:Nat)(x:Int):Bool:=decide (0≤x) && decide (x<n+1)
set_option maxHeartbeats 400000 in
theorem eF (a:Option Addr)(n c:Nat)(x:Int)(w:World)(h:n≤5):Calls Tryz.prog 31 #[.agg #[.slice a n c],int x] w fun e w'=>e=.returned (.bool (vN n x))∧qA w w':=by
 by_cases h0:0≤x
 ·by_cases h1:x<n+1
  all_goals
  go_enter Tryz.func31,Tryz.ntmps31
  go_wp2;go_ret
  exact⟨by simp[vN,h0,h1],((cP0 _ _).alloc _).alloc _⟩
 ·go_enter Tryz.func31,Tryz.ntmps31
  go_wp2;go_ret
  exact⟨by simp[vN,Int.not_le.2 h0],(cP0 _ _).alloc _⟩
set_option maxHeartbeats 400000 in
theorem lB0 (b o:Nat)(x p:Int)(w:World)(u v:Value)(h:w.cell? ⟨b,o,none⟩=some u)(h1:w.cell? ⟨b,o+1,none⟩=some v)(h2:w.cell? ⟨b,o+2,none⟩=some (int p))(f:∀o',w.frozen? ⟨b,o',none⟩=false):
  Calls Tryz.prog 35 #[.pointer (some ⟨b,o,none⟩),int x] w fun e w'=>e=.returned (.tuple #[])∧w'=((w.setCell ⟨b,o,none⟩ (int x)).setCell ⟨b,o+1,none⟩ (int x)).setCell ⟨b,o+2,none⟩ (int (wrap64 (p+1))):=by
 go_enter Tryz.func35,Tryz.ntmps35
 go_wp2;go_end0
 exact⟨rfl,rfl⟩
set_option maxHeartbeats 400000 in
theorem nZ (b o:Nat)(w:World)(v:Value)(h:w.cell? ⟨b,o+30,none⟩=some v)(f:∀o',w.frozen? ⟨b,o',none⟩=false):
  Calls Tryz.prog 117 #[.pointer (some ⟨b,o,none⟩)] w fun e w'=>e=.returned v∧w'=w.setCell ⟨b,o+30,none⟩ (.slice none 0 0):=by
 go_enter Tryz.func117,Tryz.ntmps117
 go_wp2;go_ret
 exact⟨rfl,rfl⟩
set_option maxHeartbeats 400000 in
theorem iG (k:Int)(p n f0 f1 f2 st:Int)(w:World):Calls Tryz.prog 124 #[int k,.agg #[int p,int n,int f0,int f1,int f2],int st] w fun e w'=>e=.returned (.agg #[int k,int 0,int p,int n,int f0,int f1,int f2,int st])∧qA w w':=by
 go_enter Tryz.func124,Tryz.ntmps124
 go_wp2;exact bodyPost_ret (v:=.agg #[int k,int 0,int p,int n,int f0,int f1,int f2,int st]) (by simp[results,Tryz.results124,go_sem]) rfl ⟨rfl,((cP0 _ _).alloc _).alloc _⟩
set_option maxHeartbeats 400000 in
theorem mH0 (b o:Nat)(w:World)(h:w.cell? ⟨b,o+4,none⟩=some (.bool false)):Calls Tryz.prog 111 #[.pointer (some ⟨b,o,none⟩)] w fun e w'=>e=.returned (.tuple #[int 0,.bool true])∧w'=w:=by
 go_enter Tryz.func111,Tryz.ntmps111
 go_wp2;refine wp_loop_rounds 1 ?_;rw[rounds_succ]
 go_wp2;go_ret2
 exact⟨rfl,rfl⟩
set_option maxHeartbeats 400000 in
theorem oG (b o c k:Nat)(w:World)(v:Value)(hc:c<4)(hk:k<2)(hv:∃p,v=.pointer p)(h:w.cell? ⟨b,o+c*2+k,none⟩=some v):Calls Tryz.prog 64 #[.pointer (some ⟨b,o,none⟩),int c,int k] w fun e w'=>e=.returned v∧w'=w:=by
 obtain⟨p,rfl⟩:=hv;go_enter Tryz.func64,Tryz.ntmps64
 go_wp2;go_ret
 exact⟨rfl,rfl⟩
theorem iE (a b:Int):(a == b)=decide (a=b):=by
 by_cases h:a=b
 ·simp[h]
 ·simp[h]
theorem qF0 (a b:Int):(a != b)=decide (a≠b):=by
 by_cases h:a=b
 ·simp[h]
 ·simp[h]
def Tst.metBy (t:Tst)(v:Int):Bool:=if t.op=1 then decide (v=t.n) else if t.op=2 then decide (v≠t.n) else if t.op=3 then decide (v<t.n) else decide (t.n≤v)
theorem iV {t:Tst}(h:t.good=true)(e:Ev):t.metBy (e.field t.fld)=t.met e:=by
 simp only[Tst.good,oP0] at h;unfold Tst.metBy Tst.met;obtain h1 | h1 | h1 | h1:t.op=1∨t.op=2∨t.op=3∨t.op=4:=by omega
 all_goals simp[h1]
set_option maxHeartbeats 400000 in
theorem pD0 (f o n v:Int)(w:World):Calls Tryz.prog 127 #[.agg #[int f,int o,int n],int v] w fun e w'=>e=.returned (.bool (Tst.metBy ⟨f,o,n⟩ v))∧qA w w':=by
 by_cases h1:o=1
 ·subst h1;go_enter Tryz.func127,Tryz.ntmps127
  go_wp2;go_ret
  exact⟨by rw[iE];simp[Tst.metBy],(cP0 _ _).alloc _⟩
 ·by_cases h2:o=2
  ·subst h2;go_enter Tryz.func127,Tryz.ntmps127
   go_wp2;go_ret
   exact⟨by rw[qF0];simp[Tst.metBy],(cP0 _ _).alloc _⟩
  ·by_cases h3:o=3
   ·subst h3;go_enter Tryz.func127,Tryz.ntmps127
    go_wp2;go_ret
    exact⟨by simp[Tst.metBy],(cP0 _ _).alloc _⟩
   ·go_enter Tryz.func127,Tryz.ntmps127
    go_wp2;go_ret
    exact⟨by simp[Tst.metBy,h1,h2,h3],(cP0 _ _).alloc _⟩
theorem bA0 {t:Tst}(h:t.good=true):0≤t.fld∧t.fld<3:=by
 simp only[Tst.good,oP0] at h;omega
theorem lW {l:List Tst}(h3:l.length≤3){k:Nat}(hk:k<l.length):(aB l)[k*3]?=some (int (sA l k).fld)∧(aB l)[k*3+1]?=some (int (sA l k).op)∧(aB l)[k*3+2]?=some (int (sA l k).n):=by
 obtain rfl | rfl | rfl:k=0∨k=1∨k=2:=by omega
 all_goals exact⟨rfl,rfl,rfl⟩
theorem xE0 (l:List Tst):(aB l).length=10:=rfl
theorem cU {l:List Tst}{k:Nat}(hk:k<l.length):l[k]?=some (sA l k):=by
 simp[sA,pO0 hk]
theorem uL {l:List Tst}(h:yB l=true){k:Nat}(hk:k<l.length):(sA l k).good=true:=by
 simp only[yB,qP0,List.all_eq_true] at h;exact h.2 _ (vP0 (cU hk))
theorem yI {l:List Tst}(h:yB l=true):l.length≤3:=by
 simp only[yB,qP0,oP0] at h;exact h.1
theorem pA0 {l:List Tst}{e:Ev}(h:∀k,k<l.length→(sA l k).met e=true):lC l e=true:=by
 simp only[lC,List.all_eq_true];intro t ht;obtain⟨k,hk,rfl⟩:=List.getElem_of_mem ht;have:=h k hk;simpa[sA,pO0 hk] using this
theorem gV {l:List Tst}{e:Ev}{k:Nat}(hk:k<l.length)(h:(sA l k).met e=false):lC l e=false:=by
 cases hm:lC l e with
 | false=>rfl
 | true=>
  simp only[lC,List.all_eq_true] at hm;rw[hm _ (vP0 (cU hk))] at h;cases h
theorem rL0 (e:Ev){f:Int}(h0:0≤f)(h3:f<3):(#[int e.f0,int e.f1,int e.f2]:Array Value)[f.toNat]?=some (int (e.field f)):=by
 obtain rfl | rfl | rfl:f=0∨f=1∨f=2:=by omega
 all_goals rfl
set_option maxRecDepth 100000 in
set_option maxHeartbeats 1000000 in
theorem fV (l:List Tst)(e:Ev)(w:World)(hl:yB l=true):Calls Tryz.prog 122 #[.agg (aB l).toArray,.agg #[int e.f0,int e.f1,int e.f2]] w fun r w'=>r=.returned (.bool (lC l e))∧qA w w':=by
 have h3:=yI hl;have henc:(aB l).toArray=#[int (sA l 0).fld,int (sA l 0).op,int (sA l 0).n,int (sA l 1).fld,int (sA l 1).op,int (sA l 1).n,int (sA l 2).fld,int (sA l 2).op,int (sA l 2).n,int l.length]:=rfl;have hat:=fun (k:Nat) (hk:k<l.length)=>lW h3 hk;obtain⟨W,hW⟩:∃W,(w.alloc (.cells (aB l).toArray 80)).alloc (.cells #[int e.f0,int e.f1,int e.f2] 35)=W:=⟨_,rfl⟩;have hs:W.heap.size=w.heap.size+2:=by rw[←hW];simp
 have hb0:W.heap[w.heap.size]?=some (.cells (aB l).toArray 80):=by rw[←hW,kP0 _ _ _ (by simp)];exact eP0 w _
 have hb1:W.heap[w.heap.size+1]?=some (.cells #[int e.f0,int e.f1,int e.f2] 35):=by
  have:=eP0 (w.alloc (.cells (aB l).toArray 80)) (.cells #[int e.f0,int e.f1,int e.f2] 35);rw[←hW];simpa only[World.size_alloc] using this
 have hcal:qA w W:=by rw[←hW];exact((cP0 _ _).alloc _).alloc _
 have hmany:W.cell? ⟨w.heap.size,9,none⟩=some (int l.length):=by rw[xA hb0];rfl
 have HB0:=uA hb0;have HB1:=uA hb1;have HC:=uA hcal;have HA:=uA hat;have HG:=uA hl;clear hb0 hb1 hcal hat hs hl;rw[henc] at hW ⊢;clear henc;generalize (sA l 0).fld=a0 at*;generalize (sA l 0).op=a1 at*;generalize (sA l 0).n=a2 at*;generalize (sA l 1).fld=a3 at*;generalize (sA l 1).op=a4 at*;generalize (sA l 1).n=a5 at*;generalize (sA l 2).fld=a6 at*;generalize (sA l 2).op=a7 at*;generalize (sA l 2).n=a8 at*;have h3i:(l.length:Int)≤3:=by omega
 go_enter Tryz.func122,Tryz.ntmps122
 go_wp2;clear hW hmany
 go_loopw [12] (fun i wr=>∃k:Nat,k≤l.length∧i=int k∧qA W wr∧∀j,j<k→(sA l j).met e=true) (fun i _=>l.length-(intOf i).toNat)
 case atStart=>exact⟨0,by omega,rfl,cP0 _ _,fun j hj=>by omega⟩
 case round=>
  obtain⟨k,hk,rfl,ht,hmet⟩:=hrel;have HM:=uA hmet;have HT:=uA ht;clear hmet;by_cases hlt:k<l.length
  ·have hg:=uL (yA HG) hlt;have hf:=bA0 hg;obtain⟨e0,e1,e2⟩:=yA HA k hlt;have c0:wr.cell? ⟨w.heap.size,k*3,none⟩=some (int (sA l k).fld):=ht.cell (p:=⟨w.heap.size,k*3,none⟩) id ((xA (yA HB0) _).trans (by simpa using e0));have c1:wr.cell? ⟨w.heap.size,k*3+1,none⟩=some (int (sA l k).op):=ht.cell (p:=⟨w.heap.size,k*3+1,none⟩) id ((xA (yA HB0) _).trans (by simpa using e1));have c2:wr.cell? ⟨w.heap.size,k*3+2,none⟩=some (int (sA l k).n):=ht.cell (p:=⟨w.heap.size,k*3+2,none⟩) id ((xA (yA HB0) _).trans (by simpa using e2));have cf:wr.cell? ⟨w.heap.size+1,(sA l k).fld.toNat,none⟩=some (int (e.field (sA l k).fld)):=ht.cell (p:=⟨w.heap.size+1,(sA l k).fld.toNat,none⟩) id ((xA (yA HB1) _).trans (rL0 e hf.1 hf.2));have hmm:=iV hg e;have HMM:=uA hmm;clear e0 e1 e2 ht hmm;generalize hT:sA l k=t at*;have HTT:=uA hT;clear hT;obtain⟨f,o,n⟩:=t;simp only at c0 c1 c2 cf hf HMM;have hsz:w.heap.size+1<wr.heap.size:=fP0 cf;go_wp2;go_cut [22] (fun s wx=>s=.bool (!Tst.metBy ⟨f,o,n⟩ (e.field f))∧qA wr wx)
   case first=>
    go_region_with (go_at_call 127;refine(pD0 _ _ _ _ _).mono ?_;rintro r w3 ⟨rfl,ht3⟩)
    all_goals (go_wp2_with fail;go_meet;exact⟨rfl,(((cP0 _ _).alloc _).drew).calm ht3⟩)
   case rest=>
    obtain⟨rfl,hcc⟩:=hcut;have HCC:=uA hcc;clear hcc c0 c1 c2 cf hsz;cases hmb:Tst.metBy ⟨f,o,n⟩ (e.field f) with
    | true=>
     go_wp2;go_roundw
     case rel=>
      refine⟨k+1,by omega,by go_num,(yA HT).trans (yA HCC),fun j hj=>?_⟩;by_cases ej:j=k
      ·subst ej;rw[yA HTT,←yA HMM,hmb]
      ·exact yA HM j (by omega)
     case measure=>simp[intOf];omega
    | false=>
     go_wp2;go_ret
     refine⟨?_,((yA HC).trans (yA HT)).trans (yA HCC)⟩;rw[gV hlt (e:=e) (by rw[yA HTT,←yA HMM,hmb])];rfl
  ·have he:k=l.length:=by omega
   subst he;go_wp2;go_ret;refine⟨?_,(yA HC).trans (yA HT)⟩;rw[pA0 (yA HM)];rfl
end Go.Proofs.YtodfcpblcpogiaaGreat

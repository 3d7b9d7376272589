import Derived.Test.YtodfcpblcpogiaaGreatXnet
import Derived.Conc.EventLaws
import Derived.Test.YtodfcpblcpogiaaGreatPend
import Derived.Test.YtodfcpblcpogiaaGreatDelX
import Derived.Test.YtodfcpblcpogiaaGreatCli
import Derived.Test.YtodfcpblcpogiaaGreatSubX
namespace Go.Proofs.YtodfcpblcpogiaaGreat
open Go.Conc Go.RowKit
open Go.RowKit
noncomputable def drainParts:Code × Code:=match Tryz.f118.body with
 | some (.seq _ (.seq _ (.seq _ (.seq (.seq _ (.block _ (.loop c))) r))))=>(c,r)
 | _=>(.skip,.skip)
set_option maxRecDepth 100000 in
set_option maxHeartbeats 400000 in
theorem gH0 (r cap s t:Nat)(buf:Array Value)(w:World)(hr:w.heap[r]?=some (.chan cap buf false s t false))(hb:buf.size≤2000):
    Calls Tryz.prog 118 #[.chan (some r)] w fun e w'=>e=.returned (int buf.size)∧Touch (fun k=>k=r) w w':=by
  have hrl:r<w.heap.size:=(tO0.1 hr).1;have hts:∀(u:World) cap buf cl s t tm,Touch (fun k=>k=r) w u→Touch (fun k=>k=r) w (u.setChan r cap buf cl s t tm):=fun u cap buf cl s t tm h=>
    ⟨h.os,h.tape,h.output,by rw[size_setChan];exact h.size,fun i hi hs=>by
      rw[←h.block i hi hs]
      simp[World.setChan,Array.getElem?_setIfInBounds_ne (fun e=>hs e.symm)]⟩
  refine calls_of_loneTo fun cs=>?_;have e:Frame.enter Tryz.prog 118 #[.chan (some r)] .normal=(base 118).at ⟨#[.chan (some r),undef,undef,undef,undef,undef,undef,undef,undef,undef,undef],[]⟩ [.code (Tryz.f118.body.getD .skip)]:=by
    simp[Frame.enter,Frame.at,Tryz.func118,base,Tryz.f118]
  rw[e];have key:∀(n:Nat) (buf':Array Value) (t':Nat) (u:World) (i:Nat) (t6 t7 t8 t9:Value),buf'.size=n→i+n=buf.size→u.heap[r]?=some (.chan cap buf' true s t' false)→Touch (fun k=>k=r) w u→
      LoneTo Tryz.prog (fun g' w'=>∃e fr,g'=G fr cs∧(e=Ending.returned (int buf.size)∧Touch (fun k=>k=r) w w')∧fr.fn=118∧Frame.leaving Tryz.prog fr w' e)
        (G ((base 118).at ⟨#[.chan (some r),undef,.int .i64 0,.int .i64 (i:Int),.chan (some r),.chan (some r),t6,t7,t8,t9,undef],[]⟩ [.code drainParts.1,.inLoop drainParts.1,.inBlock 0,.code drainParts.2]) cs) u:=by
    intro n;induction n with
    | zero=>
      intro buf' t' u i t6 t7 t8 t9 hn hi hu ht;have hb0:buf'=#[]:=Array.eq_empty_of_size_eq_zero hn;subst hb0;have hi:(i:Int)=buf.size:=by omega
      refine LoneTo.goes (n:=3) ?_;simp only[drainParts,Tryz.f118];s_c stepG_seq
      s_reg
      s_stop
      refine LoneTo.step (step_lone_recv_shut true (c:=r) (z:=.pointer none) (cap:=cap) (s:=s) (r:=t') (tm:=false) (stepG_comm (cases:=#[rcase r (.pointer none)]) (blocking:=true) (shape:=.recv true) (w':=u) rfl rfl (by decide) (by simp[go_sem,rcase])) hu) ?_;rw[Frame.finish_at];simp only[got,if_true];walk_nrm
      refine LoneTo.goes (n:=12) ?_;s_op
      s_c stepG_region_end
      s_c stepG_seq
      s_cond false
      s_exit
      s_c stepG_seq
      s_reg
      s_op
      s_op
      s_c stepG_region_end
      s_c stepG_ret'
      s_stop
      exact LoneTo.done ⟨.returned (int buf.size),_,rfl,⟨rfl,ht⟩,rfl,rfl,rfl,rfl,_,Tryz.func118,by simp[results,Tryz.f118,Frame.at]⟩
    | succ n ih=>
      intro buf' t' u i t6 t7 t8 t9 hn hi hu ht;have hsome:0<buf'.size:=by omega
      have hrl':r<u.heap.size:=(tO0.1 hu).1;refine LoneTo.goes (n:=3) ?_;simp only[drainParts,Tryz.f118];s_c stepG_seq
      s_reg
      s_stop
      refine LoneTo.step (step_lone_recv_buf true (c:=r) (z:=.pointer none) (cap:=cap) (buf:=buf') (s:=s) (r:=t') (tm:=false) (closed:=true) (stepG_comm (cases:=#[rcase r (.pointer none)]) (blocking:=true) (shape:=.recv true) (w':=u) rfl rfl (by decide) (by simp[go_sem,rcase])) hu hsome) ?_;rw[Frame.finish_at];simp only[got,if_true];walk_nrm
      have hi1:(i:Int)<2000:=by omega
      refine LoneTo.goes (n:=14) ?_;s_op
      s_c stepG_region_end
      s_c stepG_seq
      s_cond true
      s_c stepG_skip
      s_c stepG_block
      s_reg
      s_op
      s_op
      s_op
      s_c stepG_region_end
      s_c stepG_inBlock
      s_c stepG_inLoop
      s_stop
      have h9:=ih (buf'.extract 1 (n+1)) (t'+1) (u.setChan r cap (buf'.extract 1 (n+1)) true s (t'+1) false) (i+1) (.tuple #[buf'[0],.bool true]) (.bool true) (.int .i64 i) (.int .i64 ((i+1:Nat):Int)) (by simp;omega) (by omega) (heap_setChan u r cap _ true s (t'+1) false hrl') (hts u _ _ _ _ _ _ ht);simp only[drainParts,Tryz.f118] at h9;have hw9:IntKind.i64.wrap ((i:Int)+1)=((i+1:Nat):Int):=by
        simp[IntKind.wrap,IntKind.signed,IntKind.bits]
        omega
      first
        | exact h9
        | (simp only[hw9];exact h9)
  refine LoneTo.goes (n:=30) ?_;simp only[Tryz.f118,Option.getD_some];s_c stepG_seq
  s_reg
  s_op
  s_c stepG_region_end
  s_c stepG_seq
  s_reg
  s_op
  s_in
  refine goes_oper_k rfl rfl (by decide) (fun K hK=>?_);have hcl:=fun ats ty=>run_close_open (P:=Tryz.prog) (w:=w) ats ty hr;go_simp
  refine hK _ _ ⟨trivial,?_⟩;clear hK K hcl;s_c stepG_region_end
  s_c stepG_seq
  s_reg
  s_op
  s_c stepG_region_end
  s_c stepG_seq
  s_c stepG_seq
  s_reg
  s_op
  s_c stepG_region_end
  s_c stepG_block
  s_c stepG_loop
  s_stop
  have h9:=key buf.size buf t (w.setChan r cap buf true s t false) 0 undef undef undef undef rfl (by omega) (heap_setChan w r cap buf true s t false hrl) (hts w _ _ _ _ _ _ (cP0 _ _));simp only[drainParts,Tryz.f118] at h9;exact h9
theorem eqChan (d:Nat)(w:World)(a x:Option Nat):(Op.equalIn (d+1) 89 (.chan a) (.chan x)).run Tryz.prog w=.ok (a == x) w:=by
 rw[Op.equalIn];simp[run_underlying Tryz.underlying89]
theorem qA0 (a x:Option Nat)(w:World):Sem.run Tryz.prog (binOp BinOp.neq 89 (.chan a) (.chan x)) w=.ok (.bool (!(a == x))) w:=by
 have h2:Sem.run Tryz.prog (Op.equal 89 (.chan a) (.chan x)) w=.ok (a == x) w:=eqChan 9999 w a x;simp[go_sem,binOp,h2]
theorem zI0 (r:Nat)(w:World):Sem.run Tryz.prog (binOp BinOp.neq 89 (.chan (some r)) (.chan none)) w=.ok (.bool true) w:=qA0 (some r) none w
theorem yI0 (w:World):Sem.run Tryz.prog (binOp BinOp.neq 89 (.chan none) (.chan none)) w=.ok (.bool false) w:=qA0 none none w
def zG (σ:Net)(k:Nat):Nat:=((List.range k).map fun j=>(σ.q (j/6) (j%6)).length).sum
theorem kP (σ:Net)(k:Nat):zG σ (k+1)=zG σ k+(σ.q (k/6) (k%6)).length:=by
 simp[zG,List.range_succ]
theorem uC0 (σ:Net):zG σ 36=σ.waiting:=by
 unfold zG Net.waiting;simp only[List.range,List.range.loop,List.map_cons,List.map_nil,List.sum_cons,List.sum_nil,Nat.reduceDiv,Nat.reduceMod];omega
theorem fU (σ:Net)(hw:∀x y,(σ.q x y).length<2000):∀k,zG σ k≤k*2000
 | 0=>by simp[zG]
 | k+1=>by
  have:=fU σ hw k;have:=hw (k/6) (k%6);rw[kP];omega
def Shutting (w:World)(ρ:zA)(k:Nat)(w':World):Prop:=Touch (fun i=>∃x y,ρ i=some (.chan x y)∧x*6+y<k) w w'
theorem Shutting.more {w w':World}{ρ:zA}{k k':Nat}(h:Shutting w ρ k w')(hk:k≤k'):Shutting w ρ k' w':=Touch.mono h (fun i _ ⟨x,y,h1,h2⟩=>⟨x,y,h1,by omega⟩)
set_option maxRecDepth 100000 in
set_option maxHeartbeats 2000000 in
theorem qS {w:World}{b:Nat}{ρ:zA}{σ:Net}(h:XN w b ρ σ)(hw:∀x y,(σ.q x y).length<2000):
  Calls Tryz.prog 96 #[.pointer (some ⟨b,2,none⟩)] w fun e w'=>e=.returned (int σ.waiting)∧Shutting w ρ 36 w':=by
 obtain⟨v,hv⟩:=h.queues;have hq:w.rangeAt b 2 ((List.range 36).map v):=fun j u hj=>by
  have hj':j<36:=by
   by_cases hj':j<36
   ·exact hj'
   ·rw[List.getElem?_eq_none (by simp;omega)] at hj;cases hj
  simp[hj'] at hj
  rw[←hj];exact(hv j hj').1
 have hl:((List.range 36).map v).length=36:=by simp
 have hsx:=fun (x:Nat) (hx:x<6)=>vJ0 v x hx;generalize (List.range 36).map v=qs at hq hl hsx;have HSX:=uA hsx;clear hsx;have HALL:=uA (uC0 σ);have HLE:=uA (fU σ hw);have HV:=uA (fun j hj=>(hv j hj).2);have HX:=uA h;clear h hv;go_enter Tryz.func96,Tryz.ntmps96
 go_wp2_with (refine wpList_load_mid rfl 91 _ rfl b 2 rfl qs _ hq Tryz.underlying91 rfl (by rw[hl];kernel_rfl) ?_)
 go_loopw [3,12] (fun p i wr=>∃x:Nat,x≤6∧i=int x∧p=int (zG σ (x*6))∧Shutting w ρ (x*6) wr) (fun _ i _=>6-(intOf i).toNat)
 case atStart=>exact⟨0,by omega,rfl,rfl,cP0 _ _⟩
 case round=>
  obtain⟨x,hx,rfl,rfl,ht⟩:=hrel;have HT:=uA ht;clear ht;by_cases hlt:x<6
  ·have hxi:(x:Int)<6:=by omega
   have hxx:=fun w=>iK0 qs.toArray x hlt w;rw[yA HSX x hlt] at hxx;obtain⟨r0,e0⟩:=(yA HV (x*6) (by omega)).chan;obtain⟨r1,e1⟩:=(yA HV (x*6+1) (by omega)).chan;obtain⟨r2,e2⟩:=(yA HV (x*6+2) (by omega)).chan;obtain⟨r3,e3⟩:=(yA HV (x*6+3) (by omega)).chan;obtain⟨r4,e4⟩:=(yA HV (x*6+4) (by omega)).chan;obtain⟨r5,e5⟩:=(yA HV (x*6+5) (by omega)).chan;have hsix:∀y,y<6→(#[Value.chan r0,.chan r1,.chan r2,.chan r3,.chan r4,.chan r5]:Array Value)[y]?=some (v (x*6+y)):=fun y hy=>by
    obtain rfl | rfl | rfl | rfl | rfl | rfl:y=0∨y=1∨y=2∨y=3∨y=4∨y=5:=by omega
    ·exact congrArg some e0.symm
    ·exact congrArg some e1.symm
    ·exact congrArg some e2.symm
    ·exact congrArg some e3.symm
    ·exact congrArg some e4.symm
    ·exact congrArg some e5.symm
   rw[e0,e1,e2,e3,e4,e5] at hxx;have HSIX:=uA hsix;clear hsix e0 e1 e2 e3 e4 e5;go_wp2;clear hxx;go_loopw [3,16] (fun p j wq=>∃y:Nat,y≤6∧j=int y∧p=int (zG σ (x*6+y))∧Shutting w ρ (x*6+y) wq) (fun _ j _=>6-(intOf j).toNat)
   case atStart=>exact⟨0,by omega,rfl,rfl,by have:=yA HT;first | exact this | exact Touch.alloc this _⟩
   case round=>
    obtain⟨y,hy,rfl,rfl,ht⟩:=hrel;have HT2:=uA ht;clear ht HT;by_cases hyt:y<6
    ·have hyi:(y:Int)<6:=by omega
     have hv:=yA HSIX y hyt;have hyy:=fun w=>hK0 _ y hyt _ hv w;have h6a:(x*6+y)/6=x:=by omega
     have h6b:(x*6+y)%6=y:=by omega
     have hlk:=yA HV (x*6+y) (by omega);rw[h6a,h6b] at hlk;have hsu:=kP σ (x*6+y);rw[h6a,h6b] at hsu;have hle:=yA HLE (x*6+y);have hl2:=hw x y;unfold LinkAt at hlk;split at hlk
     ·obtain⟨r,buf,s,t,hvr,hrho,hheap,hfr⟩:=hlk;rw[hvr] at hyy;have hsz:buf.size=(σ.q x y).length:=by rw[←hfr.1];simp
      have hcur:wr.heap[r]?=some (.chan 2000 buf false s t false):=by
       rw[←hheap];refine(yA HT2).block r ((yA HX).lt r (by rw[hrho];simp)) ?_
       rintro⟨x',y',h1,h2⟩
       rw[hrho] at h1;cases h1;omega
      have hd:=gH0 r 2000 s t buf wr hcur (by omega);rw[hsz] at hd;have HD:=uA hd;have HRHO:=uA hrho;obtain⟨N,hN⟩:∃N,N=(σ.q x y).length:=⟨_,rfl⟩;rw[←hN] at hsu hl2;rw[←hN] at HD;obtain⟨M,hM⟩:∃M,M=zG σ (x*6+y):=⟨_,rfl⟩;rw[←hM] at hsu hle ⊢;have hMi:(M:Int)≤100000:=by omega
      have hNi:(N:Int)<2000:=by omega
      have HSU:=uA hsu;clear hd hcur hheap hfr hvr hrho hsz hv hN hM hsu;have hcs:=fun w=>zI0 r w;go_wp2_with fail
      refine(yA HD).mono ?_;rintro e w2 ⟨rfl,ht2⟩
      have HT3:Hid (Shutting w ρ (x*6+y+1) w2):=by
       refine bP0 ((yA HT2).more (by omega)) (ht2.mono ?_);intro i _ hi;rw[hi];exact⟨x,y,yA HRHO,by omega⟩
      clear ht2;go_wp2;go_roundw
      case rel=>exact⟨y+1,by omega,by go_num,by rw[←rP0,yA HSU];go_num,yA HT3⟩
      case measure=>simp[intOf];omega
     ·obtain⟨hvr,hq0⟩:=hlk;rw[hvr] at hyy;rw[hq0] at hsu;have hM1:zG σ (x*6+(y+1))=zG σ (x*6+y):=by rw[←rP0,hsu];simp
      have HM1:=uA hM1;have hcs:=yI0;clear hM1 hsu hv hvr hq0;go_wp2;go_roundw
      case rel=>exact⟨y+1,by omega,by go_num,by rw[yA HM1],(yA HT2).more (by omega)⟩
      case measure=>simp[intOf];omega
    ·have hyi:¬(y:Int)<6:=by omega
     have hy6:y=6:=by omega
     subst hy6;go_wp2;go_roundw
     case rel=>exact⟨x+1,by omega,by go_num,by rw[show (x+1)*6=x*6+6 by omega],by rw[show (x+1)*6=x*6+6 by omega];exact yA HT2⟩
     case measure=>simp[intOf];omega
  ·have hxi:¬(x:Int)<6:=by omega
   have hx6:x=6:=by omega
   subst hx6;go_wp2;go_ret;exact⟨congrArg (fun n:Nat=>Ending.returned (int n)) (yA HALL),yA HT⟩
structure XC (w:World)(b:Nat):Prop where
 closed:w.cell? ⟨b,0,none⟩=some (.bool true)
 tree:w.cell? ⟨b,1,none⟩=some (.slice none 0 0)
 links:w.rangeAt b 2 (List.replicate 36 (.chan none))
theorem XC.keep {w w':World}{b:Nat}{T:Nat→Prop}(h:XC w b)(t:Touch T w w')(hb:¬T b):XC w' b:=
 ⟨t.cell (p:=⟨b,0,none⟩) hb h.closed,t.cell (p:=⟨b,1,none⟩) hb h.tree,fun j v hj=>t.cell (p:=⟨b,2+j,none⟩) hb (h.links j v hj)⟩
theorem yN0:(Tryz.prog.info? 102).map (·.size)=some 210:=by kernel_rfl
noncomputable def shutCells:Array Value:=Tryz.zeroCells102.setIfInBounds 0 (.bool true)
theorem sV:shutCells.size=210:=by kernel_rfl
theorem uJ0:shutCells.all (·.oneCell') =true:=by kernel_rfl
theorem rV:shutCells.toList.take 2=[.bool true,.slice none 0 0]:=by kernel_rfl
theorem fC0:(shutCells.toList.drop 2).take 36=List.replicate 36 (.chan none):=by kernel_rfl
theorem XN.there {w:World}{b:Nat}{ρ:zA}{σ:Net}(h:XN w b ρ σ):w.there b 0 210:=by
 obtain⟨cs,hcs⟩:=h.typ;obtain⟨v,hv,_⟩:=(h.cli 3 (by omega)).log;have hsz:209<cs.size:=by
  have:=(xA hcs 209).symm.trans hv;exact(tO0.1 this).1
 intro j hj;refine⟨?_,h.fr _⟩;rw[sP0,xA hcs j,fO0 (by omega)];rfl
set_option maxRecDepth 100000 in
set_option maxHeartbeats 2000000 in
theorem closeX {w:World}{b:Nat}{ρ:zA}{σ:Net}(h:XN w b ρ σ)(hw:∀x y,(σ.q x y).length<2000):
  Calls Tryz.prog 59 #[ptr b] w fun e w'=>e=.returned (.tuple #[int σ.waiting,int 0])∧XC w' b∧Touch (fun k=>ρ k≠none) w w':=by
 have hcl:=h.closed;have hbl:=h.lt b (by rw[h.net];simp)
 have HX:=uA h;clear h;go_enter Tryz.func59,Tryz.ntmps59
 go_wp2_with fail
 refine(qS (yA HX) hw).mono ?_;rintro e w1 ⟨rfl,ht1⟩
 have hbb:w1.heap[b]?=w.heap[b]?:=ht1.block b hbl (by
  rintro⟨x,y,h1,_⟩
  rw[(yA HX).net] at h1
  cases h1)
 have hth:w1.there b 0 210:=fun j hj=>by
  have:=(yA HX).there j hj;refine⟨?_,(nP0 (w:=w) (a:=⟨b,0+j,none⟩) hbb).trans this.2⟩;obtain⟨v,hv⟩:=Option.isSome_iff_exists.1 this.1;rw[pA hbb hv];rfl
 have hth':w1.there b 0 shutCells.size:=by rw[sV];exact hth
 have HT1:=uA ht1;have HTH:=uA hth;have HTH':=uA hth';clear ht1 hth hth' hbb;go_wp2_with (refine wpList_store_mid rfl 102 _ _ rfl b 0 shutCells rfl rfl (yA HTH') (by rw[sV];exact yN0) uJ0 ?_);go_ret2;have hin:=World.rangeAt_setCells_same w1 b 0 shutCells.toList (by rw[Array.length_toList];exact yA HTH');refine⟨rfl,⟨?_,?_,?_⟩,?_⟩
 ·have:=hin 0 (.bool true) (by
   have h:=congrArg (fun l:List Value=>l[0]?) rV
   simpa[uP0] using h)
  exact this
 ·have:=hin 1 (.slice none 0 0) (by
   have h:=congrArg (fun l:List Value=>l[1]?) rV
   simpa[uP0] using h)
  exact this
 ·intro j v hj;have hj36:j<36:=by have:=(rO0.1 hj).1;simpa using this
  have h:=congrArg (fun l:List Value=>l[j]?) fC0;simp only[uP0,if_pos hj36,List.getElem?_drop] at h;have h9:=hin (2+j) v (h.trans hj);rw[sP0] at h9;exact h9
 ·refine bP0 (Touch.mono (yA HT1) (fun i _ ⟨x,y,h1,_⟩=>by rw[h1];simp)) ?_
  have hset:∀(vs:List Value) (o:Nat) (u:World),Touch (fun k=>k=b) u (u.setCells b o vs):=by
   intro vs;induction vs with
   | nil=>intro o u;exact cP0 _ _
   | cons v vs ih=>intro o u;exact bP0 ((cP0 (fun k=>k=b) u).setCell (p:=⟨b,o,none⟩) (fun _=>rfl) v) (ih (o+1) _)
  exact(hset _ _ _).mono (fun i _ e=>by rw[e,(yA HX).net];simp)
set_option maxHeartbeats 400000 in
theorem cC (b:Nat)(g:Bool)(w:World)(h:w.cell? ⟨b,0,none⟩=some (.bool true)):Calls Tryz.prog 25 #[.pointer (some ⟨b,0,none⟩),.bool g] w fun e w'=>e=.returned (int 2)∧w'=w:=by
 go_enter Tryz.func25,Tryz.ntmps25
 go_wp2;go_ret
 exact⟨rfl,rfl⟩
section
variable {w : World} {b : Nat}
set_option maxHeartbeats 400000 in
theorem closeZ (h:XC w b):Calls Tryz.prog 59 #[ptr b] w fun e w'=>e=.returned (.tuple #[int 0,int 2])∧qA w w':=by
 have hcl:=h.closed;go_enter Tryz.func59,Tryz.ntmps59
 go_wp2;go_ret2
 exact⟨rfl,cP0 _ _⟩
set_option maxRecDepth 100000 in
set_option maxHeartbeats 1000000 in
theorem eN0 (h:XC w b)(c x:Int):Calls Tryz.prog 13 #[.pointer (some ⟨b,0,none⟩),int c,int x] w fun e w'=>e=.returned (int 2)∧qA w w':=by
  have hcl:=h.closed;have htr:=h.tree;clear h;cases hcc:dA c with
  | false=>
    go_enter Tryz.func13,Tryz.ntmps13
    go_wp2_with (first
      | (go_at_call 26;refine(aA _ _).mono ?_;rw[hcc];rintro e w1 ⟨rfl,hw1⟩;have hw1:=hw1.symm;subst hw1)
      | (go_at_call 25;refine(cC _ _ _ hcl).mono ?_;rintro e w2 ⟨rfl,hw2⟩;have hw2:=hw2.symm;subst hw2))
    go_ret;exact⟨rfl,cP0 _ _⟩
  | true=>
    go_enter Tryz.func13,Tryz.ntmps13
    go_wp2_with (first
      | (go_at_call 26;refine(aA _ _).mono ?_;rw[hcc];rintro e w1 ⟨rfl,hw1⟩;have hw1:=hw1.symm;subst hw1)
      | (go_at_call 31;refine(eF none 0 0 _ _ (by omega)).mono ?_;rintro e w1 ⟨rfl,ht1⟩
         have hcl1:=ht1.cell (p:=⟨b,0,none⟩) id hcl;have HT1:=uA ht1
         clear ht1 hcl)
      | (go_at_call 25;refine(cC _ _ _ hcl1).mono ?_;rintro e w2 ⟨rfl,hw2⟩;have hw2:=hw2.symm;subst hw2))
    go_ret;exact⟨rfl,yA HT1⟩
set_option maxRecDepth 100000 in
set_option maxHeartbeats 1000000 in
theorem lN0 (h:XC w b)(c:Int):Calls Tryz.prog 16 #[.pointer (some ⟨b,0,none⟩),int c] w fun e w'=>e=.returned (int 2)∧qA w w':=by
 have hcl:=h.closed;clear h;go_enter Tryz.func16,Tryz.ntmps16
 go_wp2_with (first
  | (go_at_call 26;refine(aA _ _).mono ?_;rintro r w2 ⟨rfl,hw2⟩;have hw2:=hw2.symm;subst hw2)
  | (go_at_call 25;refine(cC _ _ _ hcl).mono ?_;rintro r w2 ⟨rfl,hw2⟩;have hw2:=hw2.symm;subst hw2))
 go_ret;exact⟨rfl,cP0 _ _⟩
set_option maxRecDepth 100000 in
set_option maxHeartbeats 1000000 in
theorem mC0 (h:XC w b)(c:Int){l:List Tst}(hl:yB l=true){a:Option Addr}(ht:TestsAt w a l)(cap:Nat):
    Calls Tryz.prog 85 #[.pointer (some ⟨b,0,none⟩),int c,.slice a l.length cap] w fun e w'=>e=.returned (.tuple #[int 0,int 2])∧qA w w':=by
  have hcl:=h.closed;have hbl:b<w.heap.size:=fP0 hcl;have HT:=uA ht;have HL:=uA hl;clear h ht hl;go_enter Tryz.func85,Tryz.ntmps85
  go_wp2_with (first
    | (go_at_call 110;refine(dC a cap l _ (yA HL) (yA HT)).mono ?_;rintro r w1 ⟨rfl,ht1⟩
       have hcl1:=(ht1.alloc (.cells #[int (sA l 0).fld,int (sA l 0).op,int (sA l 0).n,int (sA l 1).fld,int (sA l 1).op,int (sA l 1).n,int (sA l 2).fld,int (sA l 2).op,int (sA l 2).n,int l.length] 80)).cell (p:=⟨b,0,none⟩) id hcl;have HT1:=uA ht1
       clear ht1 hcl)
    | (go_at_call 26;refine(aA _ _).mono ?_;rintro r w2 ⟨rfl,hw2⟩;have hw2:=hw2.symm;subst hw2)
    | (go_at_call 25;refine(cC _ _ _ hcl1).mono ?_;rintro r w2 ⟨rfl,hw2⟩;have hw2:=hw2.symm;subst hw2))
  go_ret2;exact⟨rfl,(yA HT1).alloc _⟩
set_option maxRecDepth 100000 in
set_option maxHeartbeats 1000000 in
theorem unsubZ (h:XC w b)(c k:Int):Calls Tryz.prog 54 #[.pointer (some ⟨b,0,none⟩),int c,int k] w fun e w'=>e=.returned (int 2)∧qA w w':=by
 have hcl:=h.closed;clear h;cases hcc:dA c with
 | false=>
  go_enter Tryz.func54,Tryz.ntmps54
  go_wp2_with (first
   | (go_at_call 26;refine(aA _ _).mono ?_;rw[hcc];rintro r w2 ⟨rfl,hw2⟩;have hw2:=hw2.symm;subst hw2)
   | (go_at_call 25;refine(cC _ _ _ hcl).mono ?_;rintro r w2 ⟨rfl,hw2⟩;have hw2:=hw2.symm;subst hw2))
  go_ret;exact⟨rfl,cP0 _ _⟩
 | true=>
  go_enter Tryz.func54,Tryz.ntmps54
  go_wp2_with (first
   | (go_at_call 26;refine(aA _ _).mono ?_;rw[hcc];rintro r w2 ⟨rfl,hw2⟩;have hw2:=hw2.symm;subst hw2)
   | (go_at_call 87;refine(bE _ _).mono ?_;rintro r w2 ⟨rfl,hw2⟩;have hw2:=hw2.symm;subst hw2)
   | (go_at_call 25;refine(cC _ _ _ hcl).mono ?_;rintro r w2 ⟨rfl,hw2⟩;have hw2:=hw2.symm;subst hw2))
  go_ret;exact⟨rfl,cP0 _ _⟩
set_option maxRecDepth 100000 in
set_option maxHeartbeats 1000000 in
theorem nJ0 (h:XC w b)(c f0 f1 f2:Int):Calls Tryz.prog 18 #[.pointer (some ⟨b,0,none⟩),int c,.agg #[int f0,int f1,int f2]] w fun e w'=>e=.returned (.tuple #[int 0,int 2])∧qA w w':=by
 have hcl:=h.closed;have hbl:b<w.heap.size:=fP0 hcl;clear h;go_enter Tryz.func18,Tryz.ntmps18
 go_wp2_with (first
  | (go_at_call 26;refine(aA _ _).mono ?_;rintro e w1 ⟨rfl,hw1⟩;have hw1:=hw1.symm;subst hw1)
  | (go_at_call 25;refine(cC _ _ _ (by go_simp)).mono ?_;rintro e w2 ⟨rfl,hw2⟩;have hw2:=hw2.symm;subst hw2))
 go_ret2;exact⟨rfl,(cP0 _ _).alloc _⟩
set_option maxRecDepth 100000 in
set_option maxHeartbeats 1000000 in
theorem lL0 (h:XC w b)(x y:Int):Calls Tryz.prog 56 #[.pointer (some ⟨b,0,none⟩),int x,int y] w fun e w'=>e=.returned (int 2)∧qA w w':=by
  have hcl:=h.closed;have htr:=h.tree;clear h;go_enter Tryz.func56,Tryz.ntmps56
  go_wp2_with (first
    | (go_at_call 90;refine(bJ none 0 [] x y _ (by simp) (Or.inl rfl)).mono ?_;rintro r w1 ⟨rfl,ht1⟩
       have hcl1:=ht1.cell (p:=⟨b,0,none⟩) id hcl;have HT1:=uA ht1
       clear ht1 hcl)
    | (go_at_call 25;refine(cC _ _ _ hcl1).mono ?_;rintro r w2 ⟨rfl,hw2⟩;have hw2:=hw2.symm;subst hw2))
  go_ret;exact⟨rfl,yA HT1⟩
set_option maxRecDepth 100000 in
set_option maxHeartbeats 1000000 in
theorem logZ (h:XC w b)(c:Int):Calls Tryz.prog 93 #[.pointer (some ⟨b,0,none⟩),int c] w fun e w'=>e=.returned (.tuple #[.slice none 0 0,int 2])∧qA w w':=by
 have hcl:=h.closed;clear h;go_enter Tryz.func93,Tryz.ntmps93
 go_wp2_with (first
  | (go_at_call 26;refine(aA _ _).mono ?_;rintro e w1 ⟨rfl,hw1⟩;have hw1:=hw1.symm;subst hw1)
  | (go_at_call 25;refine(cC _ _ _ hcl).mono ?_;rintro e w2 ⟨rfl,hw2⟩;have hw2:=hw2.symm;subst hw2))
 go_ret2;exact⟨rfl,cP0 _ _⟩
set_option maxRecDepth 100000 in
set_option maxHeartbeats 1000000 in
theorem lookZ (h:XC w b)(c:Int):Calls Tryz.prog 10 #[.pointer (some ⟨b,0,none⟩),int c] w fun e w'=>e=.returned (.tuple #[.agg #[int 0,int 0,.bool false,.bool false,.bool false],int 2])∧qA w w':=by
 have hcl:=h.closed;have hbl:b<w.heap.size:=fP0 hcl;clear h;go_enter Tryz.func10,Tryz.ntmps10
 go_wp2_with (first
  | (go_at_call 26;refine(aA _ _).mono ?_;rintro r w2 ⟨rfl,hw2⟩;have hw2:=hw2.symm;subst hw2)
  | (go_at_call 25;refine(cC _ _ _ (by go_simp)).mono ?_;rintro r w2 ⟨rfl,hw2⟩;have hw2:=hw2.symm;subst hw2))
 exact bodyPost_ret (v:=.tuple #[.agg #[int 0,int 0,.bool false,.bool false,.bool false],int 2]) (by simp[results,Tryz.results10,go_sem]) rfl ⟨rfl,(cP0 _ _).alloc _⟩
set_option maxRecDepth 100000 in
set_option maxHeartbeats 2000000 in
theorem qU (h:XC w b):Calls Tryz.prog 61 #[.pointer (some ⟨b,2,none⟩)] w fun e w'=>e=.returned (.slice none 0 0)∧qA w w':=by
 have hq:=h.links;have hl:(List.replicate 36 (Value.chan none)).length=36:=by simp
 have hsx:∀x:Nat,x<6→(List.replicate 36 (Value.chan none)).toArray.extract (x*6) (x*6+6)=#[.chan none,.chan none,.chan none,.chan none,.chan none,.chan none]:=fun x hx=>by
  obtain rfl | rfl | rfl | rfl | rfl | rfl:x=0∨x=1∨x=2∨x=3∨x=4∨x=5:=by omega
  all_goals rfl
 generalize List.replicate 36 (Value.chan none)=qs at hq hl hsx;have HSX:=uA hsx;clear hsx h;go_enter Tryz.func61,Tryz.ntmps61
 go_wp2_with (refine wpList_load_mid rfl 91 _ rfl b 2 rfl qs _ hq Tryz.underlying91 rfl (by rw[hl];kernel_rfl) ?_)
 go_loopw [3,13] (fun p i wr=>∃x:Nat,x≤6∧i=int x∧p=.slice none 0 0∧qA w wr) (fun _ i _=>6-(intOf i).toNat)
 case atStart=>exact⟨0,by omega,rfl,rfl,cP0 _ _⟩
 case round=>
  obtain⟨x,hx,rfl,rfl,ht⟩:=hrel;have HT:=uA ht;clear ht;by_cases hlt:x<6
  ·have hxi:(x:Int)<6:=by omega
   have hxx:=fun w=>iK0 qs.toArray x hlt w;rw[yA HSX x hlt] at hxx;go_wp2;clear hxx;have HT2:Hid (qA w (wr.alloc (.cells #[.chan none,.chan none,.chan none,.chan none,.chan none,.chan none] 90))):=(yA HT).alloc _;go_loopw [3,18] (fun p j wq=>∃y:Nat,y≤6∧j=int y∧p=.slice none 0 0∧qA w wq) (fun _ j _=>6-(intOf j).toNat)
   case atStart=>exact⟨0,by omega,rfl,rfl,yA HT2⟩
   case round=>
    obtain⟨y,hy,rfl,rfl,ht⟩:=hrel;have HT3:=uA ht;clear ht HT HT2;by_cases hyt:y<6
    ·have hyi:(y:Int)<6:=by omega
     have hyy:=fun w=>hK0 #[.chan none,.chan none,.chan none,.chan none,.chan none,.chan none] y hyt (.chan none) (by
      obtain rfl | rfl | rfl | rfl | rfl | rfl:y=0∨y=1∨y=2∨y=3∨y=4∨y=5:=by omega
      all_goals rfl) w
     have hz:∀w,(Builtin.len_ #[89] 3 #[.chan none]).run Tryz.prog w=.ok (goInt 0) w:=fun w=>by simp[Builtin.len_,run_underlying Tryz.underlying89]
     go_wp2;go_roundw
     case rel=>exact⟨y+1,by omega,by go_num,rfl,yA HT3⟩
     case measure=>simp[intOf];omega
    ·have hyi:¬(y:Int)<6:=by omega
     have hy6:y=6:=by omega
     subst hy6;go_wp2;go_roundw
     case rel=>exact⟨x+1,by omega,by go_num,rfl,yA HT3⟩
     case measure=>simp[intOf];omega
  ·have hxi:¬(x:Int)<6:=by omega
   have hx6:x=6:=by omega
   subst hx6;go_wp2;go_ret;exact⟨rfl,yA HT⟩
set_option maxHeartbeats 400000 in
theorem jJ0 (h:XC w b):Calls Tryz.prog 22 #[ptr b] w fun e w'=>e=.returned (.slice none 0 0)∧qA w w':=by
 have HX:=uA h;clear h;go_enter Tryz.func22,Tryz.ntmps22
 go_wp2_with (go_at_call 61;refine(qU (yA HX)).mono ?_;rintro r w2 ⟨rfl,ht2⟩;have HT2:=uA ht2;clear ht2)
 go_ret;exact⟨rfl,yA HT2⟩
end
end Go.Proofs.YtodfcpblcpogiaaGreat

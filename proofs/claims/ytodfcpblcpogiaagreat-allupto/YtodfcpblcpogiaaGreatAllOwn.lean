/-
  The statement roverlaw.All is proved in its second form: for every script the call returns true, and the script reads behind the call as it read before.
  Its condition: what is read is of bulk at most 1048576.
-/
import Derived.Test.YtodfcpblcpogiaaGreatUr
import Derived.ProofKit
import Derived.SizedLaws
import Derived.OpenShut
import Derived.Deep.Slices
import Derived.JoinedCond
namespace Go.Proofs.YtodfcpblcpogiaaGreat
open Go.ChangeShapes Go.WideShapes Go.ChangeAt Go.RowKit
theorem Tryz.own:ownKnob Tryz.prog.godebug=none:=by kernel_rfl
theorem Tryz.cells30:Tryz.prog.cellsOf 30=1:=by kernel_rfl
theorem Tryz.cells35:Tryz.prog.cellsOf 35=3:=by kernel_rfl
theorem Tryz.cells36:Tryz.prog.cellsOf 36=1:=by kernel_rfl
theorem Tryz.cells38:Tryz.prog.cellsOf 38=9:=by kernel_rfl
theorem Tryz.cells47:Tryz.prog.cellsOf 47=3:=by kernel_rfl
theorem eL0 {H:Type}(d:DataW H):0<Rows.uptoBulk d:=by
 cases d
 case lit l=>cases l<;>exact Nat.succ_pos _
 all_goals (rw[Rows.uptoBulk];omega)
theorem jB0 {H:Type}:∀l:List (DataW H),l.length≤Rows.uptoBulkAll l
 | []=>Nat.zero_le _
 | d::l=>by
  have h1:=eL0 d;have h2:=jB0 l;rw[Rows.uptoBulkAll,gO0];omega
theorem lO {H:Type}{d:DataW H}:∀l:List (DataW H),d∈l→Rows.uptoBulk d≤Rows.uptoBulkAll l
 | [],h=>by cases h
 | x::l,h=>by
  rw[Rows.uptoBulkAll];rcases List.mem_cons.1 h with rfl | h
  ·omega
  ·have:=lO l h;omega
theorem tN {H:Type}{es sp:List (DataW H)}{m:Nat}(h:Rows.uptoBulk (DataW.slice es sp)≤m):es.length≤m∧∀d,d∈es→Rows.uptoBulk d≤m:=by
 rw[Rows.uptoBulk] at h;have h2:=jB0 es;exact⟨by omega,fun d hd=>by have:=lO es hd;omega⟩
theorem pE0 {H:Type}{ps:List (DataW H)}{m:Nat}(h:Rows.uptoBulk (DataW.agg ps)≤m):∀d,d∈ps→Rows.uptoBulk d≤m:=by
 rw[Rows.uptoBulk] at h;exact fun d hd=>by have:=lO ps hd;omega
section
variable {H : Type} {enc : TypeId × Value → H} {W : World}
theorem fG0 {fuel:Nat}{v:Value}{x:DataW H × List MemPlace}(h:DataW.trod enc Tryz.prog W 0 (fun _=>true) true fuel 30 [v]=some x):
  ∃la ln lc f,v=.slice la ln lc∧IntsAt W la ln f∧(ln=0∨∃es sp,x.1=.slice es sp∧ln≤es.length):=by
 rcases open_ints Tryz.underlying30 Tryz.underlying3 Tryz.cells3 h with⟨hcs,_⟩ | ⟨a,len,cap,zs,hcs,_,hl,hm,hz,hx,hcell,_⟩
 ·have:v=.slice none 0 0:=by simpa using hcs
  exact⟨none,0,0,fun _=>0,this,Or.inl rfl,Or.inl rfl⟩
 ·have hv:v=.slice (some a) len cap:=by simpa using hcs
  simp only[if_true] at hz;refine⟨some a,len,cap,fun j=>zs.getD j 0,hv,?_,?_⟩
  ·by_cases h0:len=0
   ·exact Or.inl h0
   ·obtain⟨b,off,spot⟩:=a;have hspot:spot=none:=by simpa[Addr.add] using World.cell?_spot (hcell 0 (by omega))
    subst hspot;exact Or.inr ⟨b,off,rfl,fun j hj=>by rw[←add_plain];exact hcell j (by omega)⟩
  ·refine Or.inr ⟨_,_,by rw[hx],?_⟩;simp[lits];omega
theorem nE {fuel:Nat}{v:Value}{x:DataW H × List MemPlace}(h:DataW.trod enc Tryz.prog W 0 (fun _=>true) true fuel 3 [v]=some x):∃n,v=.int .i64 n∧-9223372036854775808≤n∧n≤9223372036854775807:=by
 obtain⟨n,hn,_,hw⟩:=DataW.trod_int Tryz.underlying3 h;refine⟨n,by simpa using hn,?_⟩;have h1:IntKind.i64.min=-9223372036854775808:=rfl;have h2:IntKind.i64.max=9223372036854775807:=rfl;simp only[Lit.wf,qP0,oP0] at hw;omega
set_option maxRecDepth 100000 in
theorem jF0 {fuel:Nat}{cs:List Value}{x:DataW H × List MemPlace}(h:DataW.trod enc Tryz.prog W 0 (fun _=>true) true fuel 47 cs=some x):∃t:Tst,cs=t.enc:=by
 obtain⟨xs,n,_,hx,hlen,hxl,hf⟩:=DataW.trod_struct Tryz.underlying47 h;rw[Tryz.cells47] at hlen;have hxl:xs.length=3:=hxl;match cs,hlen with
 | [v0,v1,v2],_=>
 match xs,hxl with
 | [x0,x1,x2],_=>
 have f0:DataW.trod enc Tryz.prog W 0 (fun _=>true) true n 3 [v0]=some x0:=by have:=hf 0 _ rfl;simpa[Tryz.cells3] using this
 have f1:DataW.trod enc Tryz.prog W 0 (fun _=>true) true n 3 [v1]=some x1:=by have:=hf 1 _ rfl;simpa[Tryz.cells3] using this
 have f2:DataW.trod enc Tryz.prog W 0 (fun _=>true) true n 3 [v2]=some x2:=by have:=hf 2 _ rfl;simpa[Tryz.cells3] using this
 obtain⟨a,rfl,_⟩:=nE f0;obtain⟨b,rfl,_⟩:=nE f1;obtain⟨c,rfl,_⟩:=nE f2;exact⟨⟨a,b,c⟩,rfl⟩
theorem qC0 {fuel:Nat}{v:Value}{x:DataW H × List MemPlace}(h:DataW.trod enc Tryz.prog W 0 (fun _=>true) true fuel 36 [v]=some x):
  ∃(ta:Option Addr) (l:List Tst) (tc:Nat),v=.slice ta l.length tc∧TestsAt W ta l∧(l.length=0∨∃es sp,x.1=.slice es sp∧l.length≤es.length):=by
 rcases Deep.open_slice Tryz.underlying36 h with⟨hcs,_⟩ | ⟨a,len,cap,m,n,D,Pl,hcs,_,hl,hm,hmm,hx,hel⟩
 ·have:v=.slice none 0 0:=by simpa using hcs
  exact⟨none,[],0,this,Or.inl rfl,Or.inl rfl⟩
 ·have hv:v=.slice (some a) len cap:=by simpa using hcs
  simp only[if_true] at hmm;have hall:∀i,i<len→∃t:Tst,∀j u,t.enc[j]?=some u→W.cell? ((a.add (i*3)).add j)=some u:=fun i hi=>by
   obtain⟨cs',hcells,htr⟩:=hel i (by omega);obtain⟨t,rfl⟩:=jF0 htr;obtain⟨_,_,hcell⟩:=World.cells?_some hcells;rw[Tryz.cells47] at hcell;refine⟨t,fun j u hu=>?_⟩;have hj:j<3:=(rO0.1 hu).1;exact(hcell j hj).trans hu
  classical
  obtain⟨g,hg⟩:∃g:Nat→Tst,∀i,i<len→∀j u,(g i).enc[j]?=some u→W.cell? ((a.add (i*3)).add j)=some u:=
   ⟨fun i=>if h:i<len then Classical.choose (hall i h) else ⟨0,0,0⟩,fun i hi=>by simp only[dif_pos hi];exact Classical.choose_spec (hall i hi)⟩
  refine⟨some a,(List.range len).map g,cap,by rw[hv];simp,?_,?_⟩
  ·by_cases h0:len=0
   ·exact Or.inl (by rw[h0];rfl)
   ·obtain⟨b,off,spot⟩:=a;have hspot:spot=none:=by
     have h9:=World.cell?_spot (hg 0 (by omega) 0 _ rfl);simpa[Addr.add] using h9
    subst hspot;refine Or.inr ⟨b,off,rfl,fun j u hj=>?_⟩;have hjl:j<len*3:=by have:=(rO0.1 hj).1;rw[pO] at this;simpa using this
    have hk:j/3<((List.range len).map g).length:=by simp;omega
    have ht:sA ((List.range len).map g) (j/3)=g (j/3):=by
     have:j/3<len:=by omega
     simp[sA,this]
    obtain⟨e0,e1,e2⟩:=pF _ _ hk;rw[ht] at e0 e1 e2;have hgo:∀r u',(g (j/3)).enc[r]?=some u'→W.cell? ⟨b,off+(j/3*3+r),none⟩=some u':=fun r u' hu'=>by
     have:=hg (j/3) (by omega) r u' hu';rw[Deep.add_add,add_plain] at this;exact this
    obtain e | e | e:j=j/3*3∨j=j/3*3+1∨j=j/3*3+2:=by omega
    ·rw[e] at hj ⊢;rw[e0] at hj;rw[←hj];exact hgo 0 _ rfl
    ·rw[e] at hj ⊢;rw[e1] at hj;rw[←hj];exact hgo 1 _ rfl
    ·rw[e] at hj ⊢;rw[e2] at hj;rw[←hj];exact hgo 2 _ rfl
  ·refine Or.inr ⟨_,_,by rw[hx],?_⟩;simp
   try omega
set_option maxRecDepth 100000 in
theorem eE0 {fuel:Nat}{cs:List Value}{x:DataW H × List MemPlace}(h:DataW.trod enc Tryz.prog W 0 (fun _=>true) true fuel 38 cs=some x):
  ∃K On A Bv la ln lc f y0 y1 y2 ta l tc parts,cs=[.int .i64 K,.int .i64 On,.int .i64 A,.int .i64 Bv,.slice la ln lc,.int .i64 y0,.int .i64 y1,.int .i64 y2,.slice ta (List.length (α:=Tst) l) tc]∧IntsAt W la ln f∧TestsAt W ta l∧
   (-9223372036854775808≤On∧On≤9223372036854775807)∧(-9223372036854775808≤A∧A≤9223372036854775807)∧x.1=.agg parts∧(ln=0∨∃es sp,DataW.slice es sp∈parts∧ln≤es.length)∧(l.length=0∨∃es sp,DataW.slice es sp∈parts∧l.length≤es.length):=by
 obtain⟨xs,n,_,hx,hlen,hxl,hf⟩:=DataW.trod_struct Tryz.underlying38 h;rw[Tryz.cells38] at hlen;have hxl:xs.length=7:=hxl;match cs,hlen with
 | [v0,v1,v2,v3,v4,v5,v6,v7,v8],_=>
 match xs,hxl with
 | [x0,x1,x2,x3,x4,x5,x6],_=>
 have f0:DataW.trod enc Tryz.prog W 0 (fun _=>true) true n 3 [v0]=some x0:=by have:=hf 0 _ rfl;simpa[Tryz.cells3] using this
 have f1:DataW.trod enc Tryz.prog W 0 (fun _=>true) true n 3 [v1]=some x1:=by have:=hf 1 _ rfl;simpa[Tryz.cells3] using this
 have f2:DataW.trod enc Tryz.prog W 0 (fun _=>true) true n 3 [v2]=some x2:=by have:=hf 2 _ rfl;simpa[Tryz.cells3] using this
 have f3:DataW.trod enc Tryz.prog W 0 (fun _=>true) true n 3 [v3]=some x3:=by have:=hf 3 _ rfl;simpa[Tryz.cells3] using this
 have f4:DataW.trod enc Tryz.prog W 0 (fun _=>true) true n 30 [v4]=some x4:=by have:=hf 4 _ rfl;simpa[Tryz.cells30] using this
 have f5:DataW.trod enc Tryz.prog W 0 (fun _=>true) true n 35 [v5,v6,v7]=some x5:=by have:=hf 5 _ rfl;simpa[Tryz.cells35] using this
 have f6:DataW.trod enc Tryz.prog W 0 (fun _=>true) true n 36 [v8]=some x6:=by have:=hf 6 _ rfl;simpa[Tryz.cells36] using this
 obtain⟨K,rfl,_⟩:=nE f0;obtain⟨On,rfl,ho⟩:=nE f1;obtain⟨A,rfl,hA⟩:=nE f2;obtain⟨Bv,rfl,_⟩:=nE f3;obtain⟨la,ln,lc,f,rfl,hI,hp⟩:=fG0 f4;obtain⟨ta,l,tc,rfl,hT,hq⟩:=qC0 f6;obtain⟨ys,m,_,_,hyl,hyn,hy⟩:=DataW.trod_array Tryz.underlying35 f5;match ys,hyn with
 | [z0,z1,z2],_=>
 have g0:DataW.trod enc Tryz.prog W 0 (fun _=>true) true m 3 [v5]=some z0:=by have:=hy 0 (by omega);simpa[Tryz.cells3] using this
 have g1:DataW.trod enc Tryz.prog W 0 (fun _=>true) true m 3 [v6]=some z1:=by have:=hy 1 (by omega);simpa[Tryz.cells3] using this
 have g2:DataW.trod enc Tryz.prog W 0 (fun _=>true) true m 3 [v7]=some z2:=by have:=hy 2 (by omega);simpa[Tryz.cells3] using this
 obtain⟨y0,rfl,_⟩:=nE g0;obtain⟨y1,rfl,_⟩:=nE g1;obtain⟨y2,rfl,_⟩:=nE g2;refine⟨K,On,A,Bv,la,ln,lc,f,y0,y1,y2,ta,l,tc,_,rfl,hI,hT,ho,hA,by rw[hx],?_,?_⟩
 ·rcases hp with hp | ⟨es,sp,he,hl⟩
  ·exact Or.inl hp
  ·exact Or.inr ⟨es,sp,by simp[he],hl⟩
 ·rcases hq with hp | ⟨es,sp,he,hl⟩
  ·exact Or.inl hp
  ·exact Or.inr ⟨es,sp,by simp[he],hl⟩
end
set_option maxRecDepth 100000 in
theorem cY (H:Type)(enc:TypeId × Value→H)(W:World)(base:Nat)(args:Array Value)(ds gs:List (DataW H))(before:List MemPlace)
  (hval0:∀(j:Nat) t v,Tryz.f4.params[j]?=some t→args[j]?=some v→Value.okWide Tryz.prog W .any base t v)
  (hW:DataW.Whole enc Tryz.prog Tryz.f4.params.toList Rows.allSpec.vars false W args.toList ds gs before) (hk:Rows.uptoSmall H (ds++gs)=true):
  Calls Tryz.prog 4 args W fun e W'=>∃v,e=.returned v∧Rows.allSpec.post enc Tryz.prog Tryz.f4 false true false false W args v W':=by
 have hval:=hval0;have hW':=hW;obtain⟨p,q,hA0,hV,rfl,_,_⟩:=hW;have hA:DataW.TrodAll enc Tryz.prog W 0 (fun _=>true) true Tryz.f4.params.toList args.toList ds p:=hA0;rw[Tryz.params4] at hA hval;clear hA0 hval0;obtain⟨v0,d0,rfl,rfl,h0⟩:=trodAll_one hA;obtain⟨rfl,rfl⟩:=trodVars_none hV;obtain⟨a0,len,cap,rfl⟩:=okWide_slice Tryz.underlying22 (hval 0 22 v0 rfl rfl);have h0k:=h0;obtain⟨fuel,hf⟩:=h0;simp only[List.append_nil] at hW' hk;have hb:Rows.uptoBulkAll [d0]≤1048576:=of_decide_eq_true hk;have hd0:Rows.uptoBulk d0≤1048576:=mO0 (lO [d0] (by simp)) hb;have hlt:∀x∈p,x.block<W.heap.size:=fun x hx=>by simpa using hW'.lt x hx
 have hargs:∀(W':World),Below W.heap.size W W'→DataW.Trod enc Tryz.prog W' 0 (fun b=>decide (b<W.heap.size)) true 22 (.slice a0 len cap) d0 p:=
  fun W' hn=>Below.trod Tryz.laidOut (by kernel_rfl) (of_decide_eq_true (by kernel_rfl)) h0k hn hlt
 have hboth:iT W a0 len∧len≤1048576:=by
  rcases Deep.open_slice Tryz.underlying22 hf with⟨hcs,_⟩ | ⟨a,len',cap',m,n,D,Pl,hcs,_,hl,hm,hmm,hx,hel⟩
  ·simp[Value.cells] at hcs
   obtain⟨rfl,rfl,rfl⟩:=hcs;exact⟨fun i hi=>by omega,by omega⟩
  ·simp[Value.cells] at hcs
   obtain⟨rfl,rfl,rfl⟩:=hcs;simp only[Prod.mk.injEq] at hx;obtain⟨rfl,_⟩:=hx;simp only[if_true] at hmm;obtain⟨hlen,hels⟩:=tN hd0;refine⟨fun i hi=>?_,by simp at hlen;omega⟩;obtain⟨cs',hcells,htr⟩:=hel i (by omega);obtain⟨K,On,A,Bv,la,ln,lc,f,y0,y1,y2,ta,l,tc,parts,rfl,hI,hT,ho,hA9,hD,hp,hq⟩:=eE0 htr;obtain⟨_,_,hcell⟩:=World.cells?_some hcells;rw[Tryz.cells38] at hcell;obtain⟨b,off,spot⟩:=a;have hspot:spot=none:=by
    obtain⟨cs0,hcells0,htr0⟩:=hel 0 (by omega);obtain⟨_,_,hcell0⟩:=World.cells?_some hcells0;rw[Tryz.cells38] at hcell0;obtain⟨K0,On0,A0,Bv0,la0,ln0,lc0,f0,y00,y10,y20,ta0,l0,tc0,parts0,rfl,_⟩:=eE0 htr0;have h9:=World.cell?_spot (hcell0 0 (by omega));simpa[Addr.add] using h9
   subst hspot;have hc:∀j u,j<9→[Value.int .i64 K,.int .i64 On,.int .i64 A,.int .i64 Bv,.slice la ln lc,.int .i64 y0,.int .i64 y1,.int .i64 y2,.slice ta l.length tc][j]?=some u→W.cell? ⟨b,off+i*9+j,none⟩=some u:=fun j u hj hu=>by
    have:=hcell j hj;rw[Deep.add_add,add_plain,←rP0] at this;exact this.trans hu
   have hD':D i=.agg parts:=hD;have hbi:Rows.uptoBulk (D i)≤1048576:=hels _ (List.mem_map.2 ⟨i,yP0.2 (by omega),rfl⟩);rw[hD'] at hbi;have hpt:=pE0 hbi;have hl1:ln≤1073741824:=by
    rcases hp with h0 | ⟨es,sp,hm9,hle⟩
    ·omega
    ·have:=(tN (hpt _ hm9)).1;omega
   have hl2:l.length≤1073741824:=by
    rcases hq with h0 | ⟨es,sp,hm9,hle⟩
    ·omega
    ·have:=(tN (hpt _ hm9)).1;omega
   exact⟨b,off,K,On,A,Bv,la,ln,lc,f,y0,y1,y2,ta,tc,l,rfl,⟨hc 0 _ (by omega) rfl,hc 1 _ (by omega) rfl,hc 2 _ (by omega) rfl,hc 3 _ (by omega) rfl,hc 4 _ (by omega) rfl,hc 5 _ (by omega) rfl,hc 6 _ (by omega) rfl,hc 7 _ (by omega) rfl,hc 8 _ (by omega) rfl,hI,hl1,hT,hl2,ho.1,ho.2,hA9.1,hA9.2⟩⟩
 refine(aN0 a0 len cap W hboth.1 hboth.2).mono fun e W' ⟨he,hb⟩=>?_;subst he;refine⟨_,rfl,_,_,_,[],p++[],[],hW',?_,?_,rfl,hb.frame _,fun h=>by cases h⟩
 ·exact trodAll_cons_mk (shut_bool Tryz.underlying4 true) trodAll_mk0
 ·exact trodAll_cons_mk (hargs _ hb) trodAll_mk0
set_option maxRecDepth 100000 in
theorem mE0 (os:Os)(started:os.Started)(H:Type)(enc:TypeId × Value→H)(F:Stop.Interp):
  ReturnsInHanded {} Tryz.checked os 4 .any ((Rows.OpenSpec.upto Rows.allSpec).pre6 enc Tryz.prog Tryz.f4 Rows.allUptoRow.domain false) (((Rows.OpenSpec.upto Rows.allSpec).at F).post enc Tryz.prog Tryz.f4 false true false false):=by
 refine returnsInHanded_of_cond (C:=Tryz.checked) (s:=Rows.OpenSpec.upto Rows.allSpec) (k:=Rows.uptoSmall) rfl Tryz.own started (by kernel_rfl) Tryz.func4
  (OpenSpec.witness (enc:=enc) (C:=Tryz.checked) (s:=Rows.OpenSpec.upto Rows.allSpec) (k:=Rows.uptoSmall) rfl false ⟨#[],#[.slice none 0 0],[]⟩ 8 (by kernel_rfl) (by kernel_rfl) (by kernel_rfl)
   (x:=([.nil],[],[])) (by kernel_rfl) rfl (by kernel_rfl)) ?_
 intro W base args ds gs before hval hW _ hk _;exact cY H enc W base args ds gs before hval hW hk
theorem all_holds:Rows.AllUptoSaid:=
 OpenClaim.holds_of_cond 4 Tryz.f4 rfl rfl rfl rfl rfl rfl rfl ⟨rfl,rfl,rfl,rfl,rfl⟩ rfl rfl rfl rfl rfl (by kernel_rfl) Tryz.func4 (by kernel_rfl)
  (of_decide_eq_true (by kernel_rfl)) (by unfold Func.isWrapper;first | (rw[if_pos (by decide +kernel)];kernel_rfl) | (rw[if_neg (by decide +kernel)];exact⟨rfl,rfl⟩))
  (fun os started H enc _ F=>mE0 os started H enc F)
#print axioms all_holds
end Go.Proofs.YtodfcpblcpogiaaGreat

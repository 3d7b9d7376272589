import Derived.Test.YtodfcpblcpogiaaGreatFil
import Derived.Maps.Views
import Derived.Deep.RegionLaw
import Derived.Deep.RegionHeld3
import Derived.Deep.AppendLies
namespace Go.Proofs.YtodfcpblcpogiaaGreat
open Go.RowKit
theorem Tryz.laidOut:laidOutB Tryz.prog=true:=by kernel_rfl
theorem Tryz.size160:Tryz.prog.types.size=225:=by kernel_rfl
theorem Tryz.cells201:Tryz.prog.cellsOf 201=2:=by kernel_rfl
theorem Tryz.cells3:Tryz.prog.cellsOf 3=1:=by kernel_rfl
theorem stayLaw:Maps.Keyed Tryz.prog 201:=Maps.Keyed.of_law (deep_law_laid Tryz.laidOut (m:=20) (by omega) (show (201:Nat)<Tryz.prog.types.size by rw[Tryz.size160];decide) (by kernel_rfl) (by kernel_rfl))
theorem pM0 {p st:Int}(hp:(Lit.int .i64 p).wf=true)(hs:(Lit.int .i64 st).wf=true):∃kl,keyOf Tryz.prog 201 (.agg #[int p,int st])=some kl:=by
 have h1:Tryz.prog.keyType 201=true:=by kernel_rfl
 have h2:Value.formed Tryz.prog 201 (.agg #[int p,int st])=true:=by simp[Value.formed,Tryz.underlying201,Tryz.cells201]
 have h3:∀d,Tryz.prog.keyLits (d+2) 201 [int p,int st]=some [.int .i64 p,.int .i64 st]:=fun d=>by
  simp[Program.keyLits,Tryz.underlying201,Tryz.cells201,Tryz.cells3,Tryz.underlying3,hp,hs]
 refine⟨.string (keyBytes [.int .i64 p,.int .i64 st]),?_⟩;unfold keyOf;simp only[Tryz.underlying201,h1,h2,Bool.and_self,if_true];have h4:=h3 224;rw[Tryz.size160];simp only[Value.cells];rw[h4];rfl
theorem yO0 (w:World):(zeroValue 3).run Tryz.prog w=.ok (.int .i64 0) w:=by kernel_rfl
theorem eQ {z:Int}(h0:-9223372036854775808≤z)(h1:z≤9223372036854775807):(Lit.int .i64 z).wf=true:=by
 have h1:IntKind.i64.min=-9223372036854775808:=rfl;have h2:IntKind.i64.max=9223372036854775807:=rfl;simp only[Lit.wf,qP0,oP0];omega
theorem bN (l:List News)(e:News)(p st:Int):jE (l++[e]) p st=if e.ev.pub=p∧e.stay=st then e.ev.num else jE l p st:=by
 simp[jE,List.foldl_append]
def Rising (l:List News):Prop:=l.Pairwise (fun o e=>o.ev.pub=e.ev.pub→o.stay=e.stay→o.ev.num<e.ev.num)∧∀e,e∈l→1≤e.ev.num
theorem mU {l:List News}(h:Rising l)(p st:Int):(∀o,o∈l→o.ev.pub=p→o.stay=st→o.ev.num≤jE l p st)∧(jE l p st=0∨∃o,o∈l∧o.ev.pub=p∧o.stay=st∧o.ev.num=jE l p st):=by
 obtain⟨h1,h2⟩:=h;generalize hr:l.reverse=r;have hl:l=r.reverse:=by rw[←hr];simp
 subst hl;clear hr;induction r with
 | nil=>exact⟨fun o ho=>(by simp at ho),Or.inl rfl⟩
 | cons e r ih=>
  simp only[List.reverse_cons] at h1 h2 ⊢;rw[List.pairwise_append] at h1;obtain⟨i1,i2⟩:=ih h1.1 (fun o ho=>h2 o (List.mem_append_left _ ho));rw[bN];by_cases e1:e.ev.pub=p∧e.stay=st
  ·rw[if_pos e1];refine⟨fun o ho hp hs=>?_,Or.inr ⟨e,by simp,e1.1,e1.2,rfl⟩⟩;rw[xP0,eO0] at ho;rcases ho with ho | rfl
   ·exact Int.le_of_lt (h1.2.2 o ho e (by simp) (by omega) (by omega))
   ·exact Int.le_refl _
  ·rw[if_neg e1];refine⟨fun o ho hp hs=>?_,?_⟩
   ·rw[xP0,eO0] at ho;rcases ho with ho | rfl
    ·exact i1 o ho hp hs
    ·exact absurd ⟨hp,hs⟩ e1
   ·rcases i2 with i2 | ⟨o,o1,o2,o3,o4⟩
    ·exact Or.inl i2
    ·exact Or.inr ⟨o,List.mem_append_left _ o1,o2,o3,o4⟩
theorem xD0 {l:List News}(h:Rising l){e:News}(he:1≤e.ev.num):tE l e=decide (e.ev.num≤jE l e.ev.pub e.stay):=by
 obtain⟨h1,h2⟩:=mU h e.ev.pub e.stay;by_cases hx:e.ev.num≤jE l e.ev.pub e.stay
 ·rw[decide_eq_true hx];rcases h2 with h2 | ⟨o,o1,o2,o3,o4⟩
  ·omega
  ·simp only[tE,List.any_eq_true,oP0];exact⟨o,o1,o2,o3,by omega⟩
 ·rw[pP0 hx];cases ho:tE l e with
  | false=>rfl
  | true=>
   simp only[tE,List.any_eq_true,oP0] at ho;obtain⟨o,o1,o2,o3,o4⟩:=ho;have:=h1 o o1 o2 o3;omega
theorem Rising.snoc {l:List News}(h:Rising l){e:News}(he:1≤e.ev.num)(ho:tE l e=false):Rising (l++[e]):=by
 refine⟨?_,fun o h'=>?_⟩
 ·rw[List.pairwise_append];refine⟨h.1,List.pairwise_singleton _ _,fun o h1 x hx=>?_⟩;rw[eO0] at hx;subst hx;intro hp hs;have:¬x.ev.num≤o.ev.num:=fun hle=>by
   have:tE l x=true:=by simp only[tE,List.any_eq_true,oP0];exact⟨o,h1,hp,hs,hle⟩
   rw[this] at ho;cases ho
  omega
 ·rw[xP0,eO0] at h';rcases h' with h' | rfl
  ·exact h.2 o h'
  ·exact he
set_option maxRecDepth 100000 in
set_option maxHeartbeats 1000000 in
theorem bK0 (b o mb n:Nat)(D:DataW Nat)(kl:Lit)(k p num f0 f1 f2 st c:Int)(w:World)(ht:w.cell? ⟨b,o,none⟩=some (.bool true))(hm:w.cell? ⟨b,o+12,none⟩=some (.map (some mb)))
  (hown:w.ownsMap Tryz.prog 201 (plainElem Tryz.prog 3) mb n D) (hn:n<maxLen) (hkey:keyOf Tryz.prog 201 (.agg #[int p,int st])=some kl) (hat:D.atKey kl (.lit (.int .i64 0))=.lit (.int .i64 c)) (hwf:(Lit.int .i64 num).wf=true):
  Calls Tryz.prog 100 #[.pointer (some ⟨b,o,none⟩),.agg #[int k,int 0,int p,int num,int f0,int f1,int f2,int st]] w fun e w'=>
   (num≤c∧e=.returned (.bool false)∧qA w w')∨(c<num∧e=.returned (.bool true)∧Touch (fun i=>i=mb) w w'∧w'.ownsMap Tryz.prog 201 (plainElem Tryz.prog 3) mb (n+1) (D.put kl (.lit (.int .i64 num)))):=by
 have hb:=fP0 ht;simp only at hb;obtain⟨W,hW⟩:∃W,(w.alloc (.cells #[int k,int 0,int p,int num,int f0,int f1,int f2,int st] 181)).alloc (.cells #[int p,int st] 201)=W:=⟨_,rfl⟩;have hcal:qA w W:=by rw[←hW];exact((cP0 _ _).alloc _).alloc _
 have ht1:=hcal.cell (p:=⟨b,o,none⟩) id ht;have hm1:=hcal.cell (p:=⟨b,o+12,none⟩) id hm;have hb0:W.heap[w.heap.size]?=some (.cells #[int k,int 0,int p,int num,int f0,int f1,int f2,int st] 181):=by rw[←hW,kP0 _ _ _ (by simp)];exact eP0 w _
 have hb1:W.heap[w.heap.size+1]?=some (.cells #[int p,int st] 201):=by
  have:=eP0 (w.alloc (.cells #[int k,int 0,int p,int num,int f0,int f1,int f2,int st] 181)) (.cells #[int p,int st] 201);rw[←hW];simpa only[World.size_alloc] using this
 have c3:W.cell? ⟨w.heap.size,3,none⟩=some (int num):=xA hb0 3;have d0:W.cell? ⟨w.heap.size+1,0,none⟩=some (int p):=xA hb1 0;have d1:W.cell? ⟨w.heap.size+1,1,none⟩=some (int st):=xA hb1 1;have hmb:mb<w.heap.size:=by
  obtain⟨es,cl,h1,_⟩:=hown;exact(tO0.1 h1).1
 have hown1:W.ownsMap Tryz.prog 201 (plainElem Tryz.prog 3) mb n D:=by
  obtain⟨es,cl,h1,h2⟩:=hown;exact⟨es,cl,(hcal.block mb hmb id).trans h1,h2⟩
 have hown2:W.drew.ownsMap Tryz.prog 201 (plainElem Tryz.prog 3) mb n D:=hown1;have l1:(Instr.lookup 81 (.map (some mb)) (.agg #[int p,int st]) false).run Tryz.prog W=.ok (int c) W:=by
  obtain⟨c',h1,h2,_⟩:=hown1.lookup_int stayLaw Tryz.underlying81 Tryz.underlying3 (yO0 _) hkey;rw[hat] at h2;cases h2;exact h1
 have l2:(Instr.lookup 81 (.map (some mb)) (.agg #[int p,int st]) false).run Tryz.prog W.drew=.ok (int c) W.drew:=by
  obtain⟨c',h1,h2,_⟩:=hown2.lookup_int stayLaw Tryz.underlying81 Tryz.underlying3 (yO0 _) hkey;rw[hat] at h2;cases h2;exact h1
 have HO:=uA hown1;have HC:=uA hcal;have HK:=uA hkey;have HWF:=uA hwf;have HN:=uA hn;clear hown hown1 hown2 hcal hkey hat hb0 hb1 hwf hn;go_enter Tryz.func100,Tryz.ntmps100
 go_wp2;clear hW ht hm
 go_cut [32] (fun s wx=>s=.bool (decide (num≤c))∧wx=W.drew)
 case first=>
  go_region
  all_goals (go_wp2_with fail;go_meet;exact⟨rfl,rfl⟩)
 case rest=>
  obtain⟨rfl,hwc⟩:=hcut;have ht2:wc.cell? ⟨b,o,none⟩=some (.bool true):=by rw[hwc];exact ht1
  have hm2:wc.cell? ⟨b,o+12,none⟩=some (.map (some mb)):=by rw[hwc];exact hm1
  have c32:wc.cell? ⟨w.heap.size,3,none⟩=some (int num):=by rw[hwc];exact c3
  have d02:wc.cell? ⟨w.heap.size+1,0,none⟩=some (int p):=by rw[hwc];exact d0
  have d12:wc.cell? ⟨w.heap.size+1,1,none⟩=some (int st):=by rw[hwc];exact d1
  have HO2:Hid (wc.ownsMap Tryz.prog 201 (plainElem Tryz.prog 3) mb n D):=by rw[hwc];exact yA HO
  have HC2:Hid (qA w wc):=by rw[hwc];exact(yA HC).drew
  clear hwc ht1 hm1 c3 d0 d1 l1 l2 HO HC;by_cases hle:num≤c
  ·go_wp2;go_ret
   exact Or.inl ⟨hle,rfl,yA HC2⟩
  ·have hown3:wc.drew.ownsMap Tryz.prog 201 (plainElem Tryz.prog 3) mb n D:=yA HO2;obtain⟨w',hrun,hown',hgrow⟩:=hown3.update (t:=81) stayLaw Tryz.underlying81 (yA HN) (yA HK) (plainElem_int Tryz.underlying3 (yA HWF));have HO3:=uA hown';have HG:=uA hgrow;clear hown3 hown' hgrow;go_wp2;go_region
   all_goals go_wp2
   all_goals go_ret
   all_goals refine Or.inr ⟨by omega,rfl,?_,yA HO3⟩
   all_goals
    have hg:=yA HG;have hc:=(yA HC2).drew;exact⟨hg.os.trans hc.os,hg.tape.trans hc.tape,hg.output.trans hc.output,mO0 hc.size hg.size,fun i hi hne=>(hg.block i (sO0 hi hc.size) (by intro x;cases x;exact hne rfl)).trans (hc.block i hi id)⟩
theorem dK0 (b o mb n:Nat)(D:DataW Nat)(kl:Lit)(k p num f0 f1 f2 st c:Int)(w:World)(ht:w.cell? ⟨b,o,none⟩=some (.bool true))(hm:w.cell? ⟨b,o+12,none⟩=some (.map (some mb)))
  (hown:w.ownsMap Tryz.prog 201 (plainElem Tryz.prog 3) mb n D) (hn:n<maxLen) (hkey:keyOf Tryz.prog 201 (.agg #[int p,int st])=some kl) (hat:D.atKey kl (.lit (.int .i64 0))=.lit (.int .i64 c)) (hwf:(Lit.int .i64 num).wf=true):
  Calls Tryz.prog 100 #[.pointer (some ⟨b,o,none⟩),.agg #[int k,int 0,int p,int num,int f0,int f1,int f2,int st]] w fun e w'=>e=.returned (.bool (decide (c<num)))∧
   Hid ((num≤c∧qA w w')∨(c<num∧Touch (fun i=>i=mb) w w'∧w'.ownsMap Tryz.prog 201 (plainElem Tryz.prog 3) mb (n+1) (D.put kl (.lit (.int .i64 num))))):=by
 refine(bK0 b o mb n D kl k p num f0 f1 f2 st c w ht hm hown hn hkey hat hwf).mono ?_;rintro e w' (⟨h1,rfl,h2⟩ | ⟨h1,rfl,h2,h3⟩)
 ·exact⟨by rw[pP0 (by omega)],Or.inl ⟨h1,h2⟩⟩
 ·exact⟨by rw[decide_eq_true h1],Or.inr ⟨h1,h2,h3⟩⟩
section
variable {P : Program} (w : World)
def xF (base:Nat)(e:TypeId)(size:Nat)(v:Value)(k:Nat)(all:List Value)(w:World)(g cap:Nat)(w':World):Prop:=
 w'.ownsRow base e size (.slice (some ⟨g,0,none⟩) k cap) k all∧((v.ownBlock=some g∧Touch (fun k=>k=g) w w')∨(g=w.heap.size∧qA w w'))∧g<w'.heap.size
theorem rQ (t ty:TypeId)(base:Nat)(e:TypeId)(i:TypeInfo)(z:Value)(size bytes:Nat)(ht:P.underlying t=some (.slice e))(hi:P.info? e=some i)(hz:i.zero=some z)
  (hsize:i.size=size) (hby:i.bytes=bytes) (hzs:z.cells.size=size) (hsz:0<size)
  (v:Value) (n:Nat) (xs:List Value) (hown:w.ownsRow base e size v n xs)
  (ad:Addr) (m c:Nat) (news:List Value) (hl:news.length=m*size) (hnews:∀j u,news[j]?=some u→w.cell? (ad.add j)=some u) (h1:∀u∈news,u.oneCell'=true)
  (hm:0<m) (h63:n+m≤maxLen) (hbytes:(n+m)*bytes≤140737488355328) (hbase:base≤w.heap.size):
  ∃g cap w',(Builtin.append_ #[t,t] ty #[v,.slice (some ad) m c]).run P w=.ok (.slice (some ⟨g,0,none⟩) (n+m) cap) w'∧xF base e size v (n+m) (xs++news) w g cap w':=by
 obtain⟨g,cap,w',hr,hown',hgrow,hg,hlt⟩:=run_append_lies (P:=P) w t ty base e i z size bytes ht hi hz hsize hby hzs hsz v n xs hown ad m c news hl hnews h1 hm h63 hbytes hbase _ rfl;refine⟨g,cap,w',hr,hown',?_,hlt⟩;rcases hg with hg | hg
 ·exact Or.inl ⟨hg,⟨hgrow.os,hgrow.tape,hgrow.output,hgrow.size,fun k hk hs=>hgrow.block k hk (by rw[hg];intro x;exact hs (bO0 x))⟩⟩
 ·refine Or.inr ⟨hg,?_⟩;rcases hown.2 with⟨rfl,rfl⟩ | ⟨g0,cap0,cur,rfl,hbg,hg0,hnc,hcm,hcs,htake⟩
  ·exact⟨hgrow.os,hgrow.tape,hgrow.output,hgrow.size,fun k hk _=>hgrow.block k hk (by simp[Value.ownBlock])⟩
  ·have hg0lt:g0<w.heap.size:=(tO0.1 hg0).1;subst hsize;subst hby
   by_cases hroom:n+m≤cap0
   ·have hfit:n*i.size+news.length≤cur.size:=by rw[hl,hcs,←Nat.add_mul];exact aO0 _ hroom
    rw[run_append_room (P:=P) w t ty e i ht hi g0 n cap0 cur hg0 ad m c news hl hnews h1 hroom hfit] at hr;simp only[Result.ok.injEq,Value.slice.injEq,Option.some.injEq,Addr.mk.injEq] at hr;omega
   ·have hsmall:n+m≤9223372036854775807:=by simp only[maxLen] at h63;omega
    have holds:∀j u,xs[j]?=some u→w.cell? ((⟨g0,0,none⟩:Addr).add j)=some u:=hown.cells (g:=g0) rfl;rw[run_append_grow (P:=P) w t ty e i z ht hi hz ⟨g0,0,none⟩ n cap0 xs hown.1 holds ad m c news hl hnews (by omega) (by omega) (growslice_fits (by omega) hbytes)] at hr;simp only[Result.ok.injEq] at hr;rw[←hr.2];exact((cP0 _ _).drew).alloc _
theorem nJ {o:Oper}{a:Act}{K:Act→World→Prop}{Q:Exit→Act→World→Prop}(s x:Operand)(t:TypeId)
  (ho:o.op=.call {callee:=.builtin .append,args:=#[s,x],argTypes:=#[t,t]})
  (base:Nat) (e:TypeId) (i:TypeInfo) (z:Value) (size bytes:Nat) (ht:P.underlying t=some (.slice e)) (hi:P.info? e=some i) (hz:i.zero=some z)
  (hsize:i.size=size) (hby:i.bytes=bytes) (hzs:z.cells.size=size) (hsz:0<size)
  (v:Value) (n:Nat) (xs:List Value) (hs:a.eval s=v) (hown:w.ownsRow base e size v n xs)
  (ad:Addr) (m c:Nat) (news:List Value) (hx:a.eval x=.slice (some ad) m c) (hl:news.length=m*size) (hnews:∀j u,news[j]?=some u→w.cell? (ad.add j)=some u) (h1:∀u∈news,u.oneCell'=true)
  (hm:0<m) (h63:n+m≤maxLen) (hbytes:(n+m)*bytes≤140737488355328) (hbase:base≤w.heap.size)
  (h:∀g cap w',xF base e size v (n+m) (xs++news) w g cap w'→K (a.put o.dst (.slice (some ⟨g,0,none⟩) (n+m) cap)) w'):o.wp P a w K Q:=by
 obtain⟨g,cap,w',hr,hg⟩:=rQ (P:=P) w t o.type base e i z size bytes ht hi hz hsize hby hzs hsz v n xs hown ad m c news hl hnews h1 hm h63 hbytes hbase;unfold Oper.wp execOp;simp only[ho,resolve,invoke,builtin,Sem.run_bind,Sem.run_pure,Result.andThen_ok,List.map_toArray,List.map_cons,List.map_nil,hs,hx,hr];exact h g cap w' hg
theorem pB {ops:Array Oper}{rest:List Oper}{o:Oper}{a:Act}{Q:Exit→Act→World→Prop}(hgd:o.guard=none)(s x:Operand)(t:TypeId)
  (ho:o.op=.call {callee:=.builtin .append,args:=#[s,x],argTypes:=#[t,t]})
  (base:Nat) (e:TypeId) (i:TypeInfo) (z:Value) (size bytes:Nat) (ht:P.underlying t=some (.slice e)) (hi:P.info? e=some i) (hz:i.zero=some z)
  (hsize:i.size=size) (hby:i.bytes=bytes) (hzs:z.cells.size=size) (hsz:0<size)
  (v:Value) (n:Nat) (xs:List Value) (hs:a.eval s=v) (hown:w.ownsRow base e size v n xs)
  (ad:Addr) (m c:Nat) (news:List Value) (hx:a.eval x=.slice (some ad) m c) (hl:news.length=m*size) (hnews:∀j u,news[j]?=some u→w.cell? (ad.add j)=some u) (h1:∀u∈news,u.oneCell'=true)
  (hm:0<m) (h63:n+m≤maxLen) (hbytes:(n+m)*bytes≤140737488355328) (hbase:base≤w.heap.size)
  (h:∀g cap w',xF base e size v (n+m) (xs++news) w g cap w'→wpList P ops Q rest (a.put o.dst (.slice (some ⟨g,0,none⟩) (n+m) cap)) w'):wpList P ops Q (o::rest) a w:=
 wpList_plain hgd fun _ hK=>nJ w s x t ho base e i z size bytes ht hi hz hsize hby hzs hsz v n xs hs hown ad m c news hx hl hnews h1 hm h63 hbytes hbase fun g cap w' hg=>hK _ _ (h g cap w' hg)
theorem kB {ops:Array Oper}{o:Oper}{a:Act}{K:Act→World→Prop}{Q:Exit→Act→World→Prop}{E:Prop}(hgd:o.guard=none)(s x:Operand)(t:TypeId)
  (ho:o.op=.call {callee:=.builtin .append,args:=#[s,x],argTypes:=#[t,t]})
  (base:Nat) (e:TypeId) (i:TypeInfo) (z:Value) (size bytes:Nat) (ht:P.underlying t=some (.slice e)) (hi:P.info? e=some i) (hz:i.zero=some z)
  (hsize:i.size=size) (hby:i.bytes=bytes) (hzs:z.cells.size=size) (hsz:0<size)
  (v:Value) (n:Nat) (xs:List Value) (hs:a.eval s=v) (hown:w.ownsRow base e size v n xs)
  (ad:Addr) (m c:Nat) (news:List Value) (hx:a.eval x=.slice (some ad) m c) (hl:news.length=m*size) (hnews:∀j u,news[j]?=some u→w.cell? (ad.add j)=some u) (h1:∀u∈news,u.oneCell'=true)
  (hm:0<m) (h63:n+m≤maxLen) (hbytes:(n+m)*bytes≤140737488355328) (hbase:base≤w.heap.size)
  (h:∀g cap w',xF base e size v (n+m) (xs++news) w g cap w'→K (a.put o.dst (.slice (some ⟨g,0,none⟩) (n+m) cap)) w'):
  if Region.wanted o (yielded ops a.tmps)=true then Oper.wp P o a w K Q else E:=by
 have hw:Region.wanted o (yielded ops a.tmps)=true:=by simp[Region.wanted,hgd]
 rw[if_pos hw];exact nJ w s x t ho base e i z size bytes ht hi hz hsize hby hzs hsz v n xs hs hown ad m c news hx hl hnews h1 hm h63 hbytes hbase h
def IntsAt (w:World)(a:Option Addr)(n:Nat)(f:Nat→Int):Prop:=n=0∨∃b o,a=some ⟨b,o,none⟩∧∀j,j<n→w.cell? ⟨b,o+j,none⟩=some (.int .i64 (f j))
theorem IntsAt.calm {w w':World}{a:Option Addr}{n:Nat}{f:Nat→Int}(h:IntsAt w a n f)(t:qA w w'):IntsAt w' a n f:=by
 rcases h with h | ⟨b,o,rfl,h⟩
 ·exact Or.inl h
 ·exact Or.inr ⟨b,o,rfl,fun j hj=>t.cell (p:=⟨b,o+j,none⟩) id (h j hj)⟩
def bO (e:TypeId)(z:Value)(size bytes:Nat):Prop:=∃i,Tryz.prog.info? e=some i∧i.zero=some z∧i.size=size∧i.bytes=bytes
theorem vE {e:TypeId}{z:Value}{size bytes:Nat}(h:(Tryz.prog.info? e).map (fun i=>(i.zero,i.size,i.bytes))=some (some z,size,bytes)):bO e z size bytes:=by
 cases hq:Tryz.prog.info? e with
 | none=>simp[hq] at h
 | some i=>
  simp[hq] at h
  exact⟨i,hq,h.1,h.2.1,h.2.2⟩
theorem kW:bO 3 (.int .i64 0) 1 8:=vE (by kernel_rfl)
theorem dE {w:World}{base:Nat}{e:TypeId}{size:Nat}{v:Value}{n:Nat}{xs:List Value}(h:w.ownsRow base e size v n xs):∀g,v.ownBlock=some g→g<w.heap.size:=fun g hg=>by
 rcases h.2 with⟨rfl,_⟩ | ⟨g',cap,cur,rfl,_,h2,_⟩
 ·cases hg
 ·cases hg;exact(tO0.1 h2).1
theorem eA {S:Nat→Prop}{w w':World}{base:Nat}{e:TypeId}{size:Nat}{v:Value}{n:Nat}{xs:List Value}(h:w.ownsRow base e size v n xs)(t:Touch S w w')(hs:∀g,v.ownBlock=some g→¬S g):w'.ownsRow base e size v n xs:=by
 refine⟨h.1,?_⟩;have hl:=dE h;rcases h.2 with h' | ⟨g,cap,cur,rfl,a1,a2,a3⟩
 ·exact Or.inl h'
 ·exact Or.inr ⟨g,cap,cur,rfl,a1,(t.block g (hl g rfl) (hs g rfl)).trans a2,a3⟩
theorem yC (w:World)(cs:List Value)(t:TypeId)(j:Nat)(u:Value)(h:cs[j]?=some u):(w.alloc (.cells cs.toArray t)).cell? ((⟨w.heap.size,0,none⟩:Addr).add j)=some u:=by
 have:=xA (eP0 w (.cells cs.toArray t)) j;have ha:(⟨w.heap.size,0,none⟩:Addr).add j=⟨w.heap.size,j,none⟩:=by
  by_cases e:j=0
  ·subst e;rfl
  ·simp[Addr.add,e]
 rw[ha,this];simpa using h
theorem tT:bO 74 (.agg #[int 0,int 0,int 0,int 0,int 0,int 0,int 0]) 7 56:=vE (by kernel_rfl)
theorem mN0:bO 181 (.agg #[int 0,int 0,int 0,int 0,int 0,int 0,int 0,int 0]) 8 64:=vE (by kernel_rfl)
theorem vE0:bO 69 (.agg #[int 0,int 0,int 0]) 3 24:=vE (by kernel_rfl)
theorem uE0:bO 47 (.agg #[int 0,int 0,int 0]) 3 24:=vE (by kernel_rfl)
end
set_option maxRecDepth 100000 in
set_option maxHeartbeats 1000000 in
theorem iF0 (b o k mb n m:Nat)(D:DataW Nat)(kl:Lit)(p num f0 f1 f2 st c:Int)(vl:Value)(cells:List Value)(w:World)(hk:k<2)
    (ht:w.cell? ⟨b,o+4+k*13,none⟩=some (.bool true)) (hm:w.cell? ⟨b,o+4+k*13+12,none⟩=some (.map (some mb))) (hfr:∀o,w.frozen? ⟨b,o,none⟩=false)
    (hown:w.ownsMap Tryz.prog 201 (plainElem Tryz.prog 3) mb n D) (hn:n<maxLen) (hkey:keyOf Tryz.prog 201 (.agg #[int p,int st])=some kl) (hat:D.atKey kl (.lit (.int .i64 0))=.lit (.int .i64 c)) (hwf:(Lit.int .i64 num).wf=true)
    (hlog:w.cell? ⟨b,o+30,none⟩=some vl) (hrow:w.ownsRow 0 74 7 vl m cells) (hmm:m<2199023255552) (hbm:b≠mb) (hvb:vl.ownBlock≠some b) (hvm:vl.ownBlock≠some mb):
    Calls Tryz.prog 72 #[.pointer (some ⟨b,o,none⟩),.agg #[int k,int 0,int p,int num,int f0,int f1,int f2,int st]] w fun e w'=>e=.returned (.tuple #[])∧
      ((num≤c∧qA w w')∨(c<num∧∃w1 w2 g cap,Touch (fun i=>i=mb) w w1∧w1.ownsMap Tryz.prog 201 (plainElem Tryz.prog 3) mb (n+1) (D.put kl (.lit (.int .i64 num)))∧
        xF 0 74 7 vl (m+1) (cells++[int k,int 0,int p,int num,int f0,int f1,int f2]) w1 g cap w2∧w'=w2.setCell ⟨b,o+30,none⟩ (.slice (some ⟨g,0,none⟩) (m+1) cap))):=by
  have hb:=fP0 ht;simp only at hb;obtain⟨W,hW⟩:∃W,w.alloc (.cells #[int k,int 0,int p,int num,int f0,int f1,int f2,int st] 181)=W:=⟨_,rfl⟩;have hcal:qA w W:=by rw[←hW];exact(cP0 _ _).alloc _
  have hb0:W.heap[w.heap.size]?=some (.cells #[int k,int 0,int p,int num,int f0,int f1,int f2,int st] 181):=by rw[←hW];exact eP0 w _
  have hmb:mb<w.heap.size:=by
    obtain⟨es,cl,h1,_⟩:=hown;exact(tO0.1 h1).1
  have hown1:W.ownsMap Tryz.prog 201 (plainElem Tryz.prog 3) mb n D:=by
    obtain⟨es,cl,h1,h2⟩:=hown;exact⟨es,cl,(hcal.block mb hmb id).trans h1,h2⟩
  have hvlt:∀g,vl.ownBlock=some g→g<w.heap.size:=fun g hg=>by
    rcases hrow.2 with⟨rfl,_⟩ | ⟨g',cap,cur,rfl,_,h2,_⟩
    · cases hg
    · cases hg;exact(tO0.1 h2).1
  have c0:W.cell? ⟨w.heap.size,0,none⟩=some (int k):=xA hb0 0;have c1:W.cell? ⟨w.heap.size,1,none⟩=some (int 0):=xA hb0 1;have c2:W.cell? ⟨w.heap.size,2,none⟩=some (int p):=xA hb0 2;have c3:W.cell? ⟨w.heap.size,3,none⟩=some (int num):=xA hb0 3;have c4:W.cell? ⟨w.heap.size,4,none⟩=some (int f0):=xA hb0 4;have c5:W.cell? ⟨w.heap.size,5,none⟩=some (int f1):=xA hb0 5;have c6:W.cell? ⟨w.heap.size,6,none⟩=some (int f2):=xA hb0 6;have c7:W.cell? ⟨w.heap.size,7,none⟩=some (int st):=xA hb0 7;have hki:(k:Int)<2:=by omega
  have ht1:=hcal.cell (p:=⟨b,o+4+k*13,none⟩) id ht;have hm1:=hcal.cell (p:=⟨b,o+4+k*13+12,none⟩) id hm;have HO:=uA hown1;have HB0:=uA hb0;have HC:=uA hcal;have HF:=uA hfr;have HT:=uA ht1;have HM:=uA hm1;have HL:=uA (hcal.cell (p:=⟨b,o+30,none⟩) id hlog);have HR:=uA hrow;clear hown1 hb0 hcal hfr ht1 hm1 ht hm hlog hrow hown;go_enter Tryz.func72,Tryz.ntmps72
  go_wp2;clear hW
  go_cut [12] (fun s wx=>s=.bool (decide (c<num))∧Hid ((num≤c∧qA W wx)∨(c<num∧Touch (fun i=>i=mb) W wx∧wx.ownsMap Tryz.prog 201 (plainElem Tryz.prog 3) mb (n+1) (D.put kl (.lit (.int .i64 num))))))
  case first=>
    go_region_with (go_at_call 100;refine(dK0 b (o+4+k*13) mb n D kl k p num f0 f1 f2 st c _ ?_ ?_ ?_ hn hkey hat hwf).mono ?_;exact yA HT;exact yA HM;exact yA HO;rintro r w3 ⟨rfl,h2⟩)
    all_goals go_wp2_with fail
    all_goals go_meet
    all_goals
      refine⟨rfl,?_⟩;rcases yA h2 with⟨h1,h2⟩ | ⟨h1,h2,h3⟩
      · exact Or.inl ⟨h1,((cP0 _ _).drew).calm h2⟩
      · exact Or.inr ⟨h1,((cP0 _ _).drew).trans h2,h3⟩
  case rest=>
    obtain⟨rfl,hd⟩:=hcut;rcases yA hd with⟨h1,h2⟩ | ⟨h1,h2,h3⟩
    · have H2:=uA h2
      clear h2 hd c0 c1 c2 c3 c4 c5 c6 c7;have h1':¬c<num:=by omega
      go_wp2;go_end0
      first
        | exact⟨rfl,Or.inl ⟨h1,bP0 (yA HC) (yA H2)⟩⟩
        | exact⟨rfl,Or.inl (bP0 (yA HC) (yA H2))⟩
        | exact⟨rfl,bP0 (yA HC) (yA H2)⟩
    · have hs1:w.heap.size≠mb:=by omega
      have d0:=h2.cell (p:=⟨w.heap.size,0,none⟩) hs1 c0;have d1:=h2.cell (p:=⟨w.heap.size,1,none⟩) hs1 c1;have d2:=h2.cell (p:=⟨w.heap.size,2,none⟩) hs1 c2;have d3:=h2.cell (p:=⟨w.heap.size,3,none⟩) hs1 c3;have d4:=h2.cell (p:=⟨w.heap.size,4,none⟩) hs1 c4;have d5:=h2.cell (p:=⟨w.heap.size,5,none⟩) hs1 c5;have d6:=h2.cell (p:=⟨w.heap.size,6,none⟩) hs1 c6;have dl:=h2.cell (p:=⟨b,o+30,none⟩) hbm (yA HL);have hT:Touch (fun i=>i=mb) w wc:=bP0 ((yA HC).mono (fun _ _ f=>f.elim)) h2;have hrow2:wc.ownsRow 0 74 7 vl m cells:=eA (yA HR) hT (fun g hg e=>hvm (by rw[hg,e]));have hfz:∀o',wc.frozen? ⟨b,o',none⟩=false:=fun o'=>(nP0 (w:=w) (a:=⟨b,o',none⟩) (hT.block b hb hbm)).trans (yA HF o');have hbc:b<wc.heap.size:=sO0 hb hT.size;have hwsz:w.heap.size<wc.heap.size:=fP0 d0;have HRW:=uA hrow2;have HTT:=uA hT;have H3:=uA h3;have HFZ:=uA hfz;clear h2 h3 hd c0 c1 c2 c3 c4 c5 c6 c7 hrow2 hT hfz HR HF HL HM HT HO HB0 hkey hat hn hwf hki;obtain⟨ti,i3,z3,s3,b3⟩:=tT;have I3:=uA i3;have Z3:=uA z3;have S3:=uA s3;have B3:=uA b3;clear i3 z3 s3 b3;have hone:vl.oneCell'=true:=by
        rcases(yA HRW).2 with⟨rfl,_⟩ | ⟨g,cap,cur,rfl,_⟩<;>rfl
      go_wp2
      go_region_law (first
        | (refine kB _ rfl _ _ 70 rfl 0 74 ti (.agg #[int 0,int 0,int 0,int 0,int 0,int 0,int 0]) 7 56 Tryz.underlying70 (yA I3) (yA Z3) (yA S3) (yA B3) rfl (by decide) vl m cells rfl ?own ⟨wc.heap.size,0,none⟩ 1 1 [int k,int 0,int p,int num,int f0,int f1,int f2] rfl rfl ?news ?one (by decide) ?h63 ?bytes ?base ?_
           case own=>exact eA (yA HRW) (((cP0 (fun _=>False) _).alloc _).drew) (fun _ _ f=>f)
           case news=>intro j u hj;exact yC wc [int k,int 0,int p,int num,int f0,int f1,int f2] 74 j u hj
           case one=>intro u hu;simp at hu;rcases hu with rfl | rfl | rfl | rfl | rfl | rfl | rfl<;>rfl
           case h63=>unfold maxLen;omega
           case bytes=>omega
           case base=>simp
           intro g2 cp2 w2 hg2;have hne:¬b=g2:=by
             rcases hg2.2.1 with⟨h,_⟩ | ⟨h,_⟩
             · intro e;exact hvb (by rw[h,e])
             · simp at h;omega
           have ht2:Touch (fun i=>i=g2) wc w2:=by
             rcases hg2.2.1 with⟨_,h⟩ | ⟨_,h⟩
             · exact bP0 (((cP0 _ _).alloc _).drew) h
             · exact(((cP0 (fun i=>i=g2) wc).alloc _).drew).calm h
           have dl2:w2.cell? ⟨b,o+30,none⟩=some vl:=ht2.cell (p:=⟨b,o+30,none⟩) hne dl;have fz2:w2.frozen? ⟨b,o+30,none⟩=false:=(nP0 (w:=wc) (a:=⟨b,o+30,none⟩) (ht2.block b hbc hne)).trans (yA HFZ _);have HG2:=uA hg2
           clear hg2 ht2))
      all_goals go_end0
      all_goals
        refine⟨rfl,Or.inr ⟨h1,_,w2,g2,cp2,((yA HTT).alloc _).drew,?_,yA HG2,rfl⟩⟩;obtain⟨es,cl,e1,e2⟩:=yA H3;exact⟨es,cl,(kP0 _ _ _ (sO0 hmb (yA HTT).size)).trans e1,e2⟩
end Go.Proofs.YtodfcpblcpogiaaGreat

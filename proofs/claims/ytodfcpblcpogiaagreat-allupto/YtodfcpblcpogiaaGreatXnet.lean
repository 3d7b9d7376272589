import Derived.Test.YtodfcpblcpogiaaGreatRows
import Derived.Test.YtodfcpblcpogiaaGreatFlow2
import Derived.Test.YtodfcpblcpogiaaGreatAtp
import Derived.WalkKit
import Derived.WalkSpells
import Derived.WalkLawsBesides
import Derived.Deep.QuietTactic
import Derived.BigQuiet
import Derived.Deep.MidRow
import Derived.Laws.EntriesVeiled
import Derived.Maps.Own
import Derived.Maps.OwnOps
import Derived.DeepKeys5
import Derived.Conc.LoneSelect
namespace Go.Proofs.YtodfcpblcpogiaaGreat
open Go.RowKit
open Go.Conc Go.RowKit
theorem nP0:type_of% @World.frozen?_of_block:=@World.frozen?_of_block
theorem mP0:type_of% @World.cell?_setCell_same:=@World.cell?_setCell_same
theorem lP0:type_of% @World.cell?_of_block:=@World.cell?_of_block
theorem kP0:type_of% @Below.heap_alloc:=@Below.heap_alloc
theorem jP0:type_of% @World.ownsRow_nil:=@World.ownsRow_nil
theorem iP0:type_of% @World.cell?_setCells_out:=@World.cell?_setCells_out
theorem gP0:type_of% @Addr.add_mid:=@Addr.add_mid
theorem fP0:type_of% @block_lt_of_cell:=@block_lt_of_cell
theorem eP0:type_of% @heap_alloc_new:=@heap_alloc_new
theorem dP0:type_of% @heap_setCell_same:=@heap_setCell_same
theorem uA {p:Prop}(h:p):Hid p:=h
theorem yA {p:Prop}(h:Hid p):p:=h
structure Touch (S:Nat→Prop)(w w':World):Prop where
 os:w'.os=w.os
 tape:w'.tape=w.tape
 output:w'.output=w.output
 size:w.heap.size≤w'.heap.size
 block:∀k,k<w.heap.size→¬S k→w'.heap[k]?=w.heap[k]?
abbrev qA (w w':World):Prop:=Touch (fun _=>False) w w'
theorem Touch.refl (S:Nat→Prop)(w:World):Touch S w w:=⟨rfl,rfl,rfl,qO0 _,fun _ _ _=>rfl⟩
theorem Touch.trans {S:Nat→Prop}{a b c:World}(h:Touch S a b)(k:Touch S b c):Touch S a c:=
 ⟨k.os.trans h.os,k.tape.trans h.tape,k.output.trans h.output,mO0 h.size k.size,fun i hi hs=>(k.block i (sO0 hi h.size) hs).trans (h.block i hi hs)⟩
theorem Touch.mono {S T:Nat→Prop}{a b:World}(h:Touch S a b)(hst:∀k,k<a.heap.size→S k→T k):Touch T a b:=
 ⟨h.os,h.tape,h.output,h.size,fun i hi hs=>h.block i hi (fun x=>hs (hst i hi x))⟩
theorem Touch.alloc {S:Nat→Prop}{a w:World}(h:Touch S a w)(o:Obj):Touch S a (w.alloc o):=
 h.trans ⟨rfl,rfl,rfl,by simp,fun k hk _=>kP0 _ _ _ hk⟩
theorem Touch.drew {S:Nat→Prop}{a w:World}(h:Touch S a w):Touch S a w.drew:=⟨h.os,h.tape,h.output,h.size,h.block⟩
theorem Touch.setCell {S:Nat→Prop}{a w:World}(h:Touch S a w){p:Addr}(hp:p.block<a.heap.size→S p.block)(u:Value):Touch S a (w.setCell p u):=
 ⟨h.os,h.tape,h.output,by simpa[World.setCell] using h.size,fun k hk hs=>(Below.heap_setCell _ _ _ _ (fun e=>by subst e;exact hs (hp hk))).trans (h.block k hk hs)⟩
theorem Touch.of_below {w w':World}(h:Below w.heap.size w w'):qA w w':=⟨h.os,h.tape,h.output,h.size,fun k hk _=>h.block k hk⟩
theorem Touch.calm {S:Nat→Prop}{a b c:World}(h:Touch S a b)(k:qA b c):Touch S a c:=h.trans (k.mono (fun _ _ f=>f.elim))
theorem Touch.cell {S:Nat→Prop}{w w':World}(h:Touch S w w'){p:Addr}{v:Value}(hs:¬S p.block)(hc:w.cell? p=some v):w'.cell? p=some v:=
 (lP0 (w:=w) (h.block p.block (fP0 hc) hs)).trans hc
theorem Touch.below {S:Nat→Prop}{w w':World}{B:Nat}(h:Touch S w w')(hB:B≤w.heap.size)(hs:∀k,S k→B≤k):Below B w w':=
 ⟨h.os,h.tape,h.output,h.size,fun k hk=>h.block k (by omega) (fun x=>by have:=hs k x;omega)⟩
theorem Touch.box {S:Nat→Prop}{w w':World}{o:Obj}(h:Touch S (w.alloc o) w')(hs:¬S w.heap.size):w'.heap[w.heap.size]?=some o:=
 (h.block w.heap.size (by simp) hs).trans (eP0 w o)
theorem xA {w:World}{b:Nat}{cs:Array Value}{t:TypeId}(h:w.heap[b]?=some (.cells cs t))(j:Nat):w.cell? ⟨b,j,none⟩=cs[j]?:=by simp[World.cell?,h]
theorem bA {w:World}{b:Nat}{cs:Array Value}{t:TypeId}(h:w.heap[b]?=some (.cells cs t))(j:Nat):w.frozen? ⟨b,j,none⟩=false:=by simp[World.frozen?,h]
theorem Touch.setChan {S:Nat→Prop}{a w:World}(h:Touch S a w){r:Nat}(hp:r<a.heap.size→S r)(cap:Nat)(buf:Array Value)(cl:Bool)(s t:Nat)(tm:Bool):Touch S a (w.setChan r cap buf cl s t tm):=
 ⟨h.os,h.tape,h.output,by simpa[World.setChan] using h.size,fun k hk hs=>by
  have hne:r≠k:=fun e=>by subst e;exact hs (hp hk)
  have h1:=h.block k hk hs;simp only[World.setChan]
  rw[Array.getElem?_setIfInBounds_ne hne];exact h1⟩
inductive Role where
 | net
 | tree
 | frame
 | rest
 | chan (x y:Nat)
 | known (x s:Nat)
 | kept (x s:Nat)
 | map (c k:Nat)
 | log (c:Nat)
abbrev zA:=Nat→Option Role
abbrev int (z:Int):Value:=.int .i64 z
abbrev ptr (b:Nat):Value:=.pointer (some ⟨b,0,none⟩)
def whr:Option Nat→Int
 | none=>-1
 | some b=>b
def Tst.enc (t:Tst):List Value:=[int t.fld,int t.op,int t.n]
def Ev.enc (e:Ev):List Value:=[int e.pub,int e.num,int e.f0,int e.f1,int e.f2]
def Ent.enc (e:Ent):List Value:=[int e.slot,int e.lost]++e.ev.enc
def Lnk.enc (l:Lnk):List Value:=[int l.a,int l.b,int l.many]
def sA (l:List Tst)(i:Nat):Tst:=l.getD i ⟨0,0,0⟩
def aB (l:List Tst):List Value:=(sA l 0).enc++(sA l 1).enc++(sA l 2).enc++[int l.length]
def bR:List Value:=[int 0,int 0,int 0,int 0,int 0,int 0,int 0,int 0,int 0,int 0]
def rC (k:Nat)(e:News):List Value:=[int k,int 0]++e.ev.enc++[int e.stay]
abbrev rA:Value:=.slice none 0 0
def uI (f:Fr)(u:List Value)(kv:Value):List Value:=match f with
 | .sub s age fl=>[int 0,int (s/2:Nat),int (s%2:Nat),int age]++aB fl++Ev.zero.enc++[int 0,int 0,int 0,rA,int 0]
 | .unsub s age=>[int 1,int (s/2:Nat),int (s%2:Nat),int age]++bR++Ev.zero.enc++[int 0,int 0,int 0,rA,int 0]
 | .event e=>[int 2,int 0,int 0,int 0]++bR++e.ev.enc++[int e.stay,int 0,int 0,rA,int 0]
 | .move s age fl old new=>[int 3,int (s/2:Nat),int (s%2:Nat),int age]++aB fl++Ev.zero.enc++[int 0,int (old:Nat),int (new:Nat),rA,int 0]
 | .rest s _ more new=>[int 4,int (s/2:Nat),int (s%2:Nat)]++u++Ev.zero.enc++[int 0,int 0,int (new:Nat),kv,int more]
def eD (s:Nat)(f:Fact)(kv:Value):List Value:=[int (s/2:Nat),int (s%2:Nat),int f.age]++aB f.fl++[int (whr f.way),.bool f.waits,kv,int f.more]
def RowAt (w:World)(ρ:zA)(r:Role)(e:TypeId)(size:Nat)(n:Nat)(cells:List Value)(v:Value):Prop:=
 w.ownsRow 0 e size v n cells∧∀g,v.ownBlock=some g→ρ g=some r
def restOf:Fr→List Value
 | .rest s evs _ _=>evs.flatMap (rC (s%2))
 | _=>[]
def uO0:Fr→Nat
 | .rest _ evs _ _=>evs.length
 | _=>0
def FrAt (w:World)(ρ:zA)(f:Fr)(fb:Nat):Prop:=
 ρ fb=some .frame∧∃a u kv,w.heap[fb]?=some (.cells (uI f (int a::u) kv).toArray 142)∧u.length=10∧(∀v,v∈u→v.oneCell'=true)∧RowAt w ρ .rest 181 8 (uO0 f) (restOf f) kv
def FramesAt (w:World)(ρ:zA)(vs:List Value)(l:List Fr):Prop:=
 vs.length=l.length∧∀(i:Nat) f,l[i]?=some f→∃fb,vs[i]?=some (ptr fb)∧FrAt w ρ f fb
def LinkAt (w:World)(ρ:zA)(x y:Nat)(nb:Bool)(l:List Fr)(v:Value):Prop:=
 if nb then ∃r buf s t,v=.chan (some r)∧ρ r=some (.chan x y)∧w.heap[r]?=some (.chan 2000 buf false s t false)∧FramesAt w ρ buf.toList l else v=.chan none∧l=[]
def KnownAt (w:World)(ρ:zA)(x s:Nat)(o:Option Fact)(v:Value):Prop:=match o with
 | none=>v=.pointer none
 | some f=>∃kb kv,v=ptr kb∧ρ kb=some (.known x s)∧w.heap[kb]?=some (.cells (eD s f kv).toArray 176)∧RowAt w ρ (.kept x s) 181 8 f.kept.length (f.kept.flatMap (rC (s%2))) kv
def jE (l:List News)(p st:Int):Int:=l.foldl (fun m e=>if e.ev.pub=p∧e.stay=st then e.ev.num else m) 0
set_option maxRecDepth 100000 in
set_option maxHeartbeats 400000 in
theorem tJ0 (b r cap s t x y:Nat)(buf:Array Value)(v:Value)(w:World)(hx:x<6)(hy:y<6)(hc:w.cell? ⟨b,2+x*6+y,none⟩=some (.chan (some r)))
  (hr:w.heap[r]?=some (.chan cap buf false s t false)) (hroom:buf.size<cap):
  Calls Tryz.prog 101 #[.pointer (some ⟨b,2,none⟩),int x,int y,v] w fun e w'=>e=.returned (.tuple #[])∧w'=w.setChan r cap (buf.push v) false (s+1) t false:=by
 refine calls_of_loneTo fun cs=>?_;have e:Frame.enter Tryz.prog 101 #[.pointer (some ⟨b,2,none⟩),int x,int y,v] .normal=(base 101).at ⟨#[.pointer (some ⟨b,2,none⟩),int x,int y,v,undef,undef,undef,undef,undef,undef,undef,undef,undef,undef,undef,undef,undef],[]⟩ [.code (Tryz.f101.body.getD .skip)]:=by
  simp[Frame.enter,Frame.at,Tryz.func101,base,Tryz.f101]
 rw[e];have hx':(x:Int)<6:=by omega
 have hy':(y:Int)<6:=by omega
 refine LoneTo.goes (n:=11) ?_;simp only[Tryz.f101,Option.getD_some];s_reg
 s_op
 s_op
 s_op
 s_op
 s_op
 s_op
 s_op
 s_op
 s_op
 s_stop
 refine LoneTo.step (step_lone_send_room (c:=r) (cap:=cap) (buf:=buf) (s:=s) (r:=t) (tm:=false) (stepG_comm (cases:=#[scase r v (.tuple #[])]) (blocking:=true) (shape:=.send) (w':=w) rfl rfl (by decide) (by simp[execOp,scase,Act.eval])) hr hroom) ?_;rw[Frame.finish_at];walk_nrm
 refine LoneTo.goes (n:=3) ?_;s_c stepG_region_end
 s_c stepG_end
 s_stop
 exact LoneTo.done ⟨.returned (.tuple #[]),_,rfl,⟨rfl,rfl⟩,rfl,rfl,rfl,rfl,_,Tryz.func101,by simp[results,Tryz.f101,Frame.at]⟩
set_option maxRecDepth 100000 in
set_option maxHeartbeats 400000 in
theorem dF0 (b r cap s t x y:Nat)(buf:Array Value)(w:World)(hx:x<6)(hy:y<6)(hc:w.cell? ⟨b,2+x*6+y,none⟩=some (.chan (some r)))
  (hr:w.heap[r]?=some (.chan cap buf false s t false)) (hsome:0<buf.size):
  Calls Tryz.prog 91 #[.pointer (some ⟨b,2,none⟩),int x,int y] w fun e w'=>e=.returned (.tuple #[buf.getD 0 undef,.bool true])∧w'=w.setChan r cap (buf.extract 1 buf.size) false s (t+1) false:=by
 refine calls_of_loneTo fun cs=>?_;have e:Frame.enter Tryz.prog 91 #[.pointer (some ⟨b,2,none⟩),int x,int y] .normal=(base 91).at ⟨#[.pointer (some ⟨b,2,none⟩),int x,int y,undef,undef,undef,undef,undef,undef,undef,undef,undef,undef,undef,undef,undef,undef,undef,undef,undef,undef,undef,undef,undef],[]⟩ [.code (Tryz.f91.body.getD .skip)]:=by
  simp[Frame.enter,Frame.at,Tryz.func91,base,Tryz.f91]
 rw[e];have hx':(x:Int)<6:=by omega
 have hy':(y:Int)<6:=by omega
 refine LoneTo.goes (n:=20) ?_;simp only[Tryz.f91,Option.getD_some];s_c stepG_seq
 s_reg
 s_op
 s_op
 s_c stepG_region_end
 s_c stepG_seq
 s_reg
 s_op
 s_op
 s_op
 s_op
 s_op
 s_op
 s_op
 s_op
 s_c stepG_region_end
 s_c stepG_seq
 s_reg
 s_stop
 refine LoneTo.step (step_lone_select_recv_buf (c:=r) (z:=.pointer none) (cap:=cap) (buf:=buf) (s:=s) (r:=t) (tm:=false) (closed:=false) (stepG_comm (cases:=#[rcase r (.pointer none)]) (blocking:=false) (shape:=.select) (w':=w) rfl rfl (by decide) (by simp[go_sem,execOp,rcase,Act.eval])) hr hsome) ?_;rw[Frame.finish_at];walk_nrm
 refine LoneTo.goes (n:=14) ?_;s_op
 s_op
 s_c stepG_region_end
 s_c stepG_block
 s_cond true
 s_c stepG_seq
 s_reg
 s_op
 s_op
 s_c stepG_region_end
 s_c stepG_seq
 s_reg
 s_op
 s_op
 s_stop
 refine LoneTo.goes (n:=4) ?_;s_op
 s_c stepG_region_end
 s_c stepG_ret'
 s_stop
 exact LoneTo.done ⟨.returned (.tuple #[buf.getD 0 undef,.bool true]),_,rfl,⟨by simp,by simp⟩,rfl,rfl,rfl,rfl,_,Tryz.func91,by simp[results,Tryz.f91,Frame.at];rw[fO0 hsome];rfl⟩
set_option maxRecDepth 100000 in
set_option maxHeartbeats 400000 in
theorem cF0 (b r cap s t x y:Nat)(w:World)(hx:x<6)(hy:y<6)(hc:w.cell? ⟨b,2+x*6+y,none⟩=some (.chan (some r)))
  (hr:w.heap[r]?=some (.chan cap #[] false s t false)):
  Calls Tryz.prog 91 #[.pointer (some ⟨b,2,none⟩),int x,int y] w fun e w'=>e=.returned (.tuple #[.pointer none,.bool false])∧w'=w:=by
 refine calls_of_loneTo fun cs=>?_;have e:Frame.enter Tryz.prog 91 #[.pointer (some ⟨b,2,none⟩),int x,int y] .normal=(base 91).at ⟨#[.pointer (some ⟨b,2,none⟩),int x,int y,undef,undef,undef,undef,undef,undef,undef,undef,undef,undef,undef,undef,undef,undef,undef,undef,undef,undef,undef,undef,undef],[]⟩ [.code (Tryz.f91.body.getD .skip)]:=by
  simp[Frame.enter,Frame.at,Tryz.func91,base,Tryz.f91]
 rw[e];have hx':(x:Int)<6:=by omega
 have hy':(y:Int)<6:=by omega
 refine LoneTo.goes (n:=20) ?_;simp only[Tryz.f91,Option.getD_some];s_c stepG_seq
 s_reg
 s_op
 s_op
 s_c stepG_region_end
 s_c stepG_seq
 s_reg
 s_op
 s_op
 s_op
 s_op
 s_op
 s_op
 s_op
 s_op
 s_c stepG_region_end
 s_c stepG_seq
 s_reg
 s_stop
 refine LoneTo.step (step_lone_select_default (c:=r) (z:=.pointer none) (cap:=cap) (s:=s) (r:=t) (tm:=false) (stepG_comm (cases:=#[rcase r (.pointer none)]) (blocking:=false) (shape:=.select) (w':=w) rfl rfl (by decide) (by simp[go_sem,execOp,rcase,Act.eval])) hr) ?_;rw[Frame.finish_at];walk_nrm
 refine LoneTo.goes (n:=14) ?_;s_op
 s_op
 s_c stepG_region_end
 s_c stepG_block
 s_cond false
 s_c stepG_seq
 s_reg
 s_op
 s_c stepG_region_end
 s_c stepG_seq
 s_reg
 s_op
 s_op
 s_op
 s_stop
 refine LoneTo.goes (n:=3) ?_;s_c stepG_region_end
 s_c stepG_ret'
 s_stop
 exact LoneTo.done ⟨.returned (.tuple #[.pointer none,.bool false]),_,rfl,⟨rfl,rfl⟩,rfl,rfl,rfl,rfl,_,Tryz.func91,by simp[results,Tryz.f91,Frame.at]⟩
theorem pA {w w':World}{k o:Nat}{v:Value}(h:w'.heap[k]?=w.heap[k]?)(hc:w.cell? ⟨k,o,none⟩=some v):w'.cell? ⟨k,o,none⟩=some v:=
 (lP0 (w:=w) h).trans hc
def HeardAt (w:World)(ρ:zA)(c k:Nat)(used:Bool)(told:List News)(v:Value):Prop:=
 if used then ∃mb n,∃D:DataW Nat,v=.map (some mb)∧ρ mb=some (.map c k)∧w.ownsMap Tryz.prog 201 (plainElem Tryz.prog 3) mb n D∧n≤told.length∧
  (∀p st kl,keyOf Tryz.prog 201 (.agg #[int p,int st])=some kl→D.atKey kl (.lit (.int .i64 0))=.lit (.int .i64 (jE told p st)))
 else v=.map none
def FilAt (w:World)(b o:Nat)(used:Bool)(l:List Tst):Prop:=∃us:List Value,us.length=10∧w.rangeAt b o us∧(∀v,v∈us→∃z,v=int z)∧(used=true→us=aB l)
theorem FilAt.keep {w w':World}{b o:Nat}{used:Bool}{l:List Tst}(h:FilAt w b o used l)(hc:∀j v,j<10→w.cell? ⟨b,o+j,none⟩=some v→w'.cell? ⟨b,o+j,none⟩=some v):FilAt w' b o used l:=by
 obtain⟨us,g1,g2,g3⟩:=h;exact⟨us,g1,fun j u hj=>hc j u (by rw[←g1];exact(rO0.1 hj).1) (g2 j u hj),g3⟩
structure CliX (w:World)(b:Nat)(ρ:zA)(c:Nat)(x:Cli):Prop where
 here:w.cell? ⟨b,86+c*31,none⟩=some (int (whr x.here))
 home:w.cell? ⟨b,86+c*31+1,none⟩=some (int (whr x.home))
 stays:w.cell? ⟨b,86+c*31+2,none⟩=some (int x.stays)
 many:w.cell? ⟨b,86+c*31+3,none⟩=some (int x.many)
 used:∀k,k<2→w.cell? ⟨b,86+c*31+4+k*13,none⟩=some (.bool (x.used k))
 age:∀k,k<2→w.cell? ⟨b,86+c*31+4+k*13+1,none⟩=some (int (x.age k))
 fl:∀k,k<2→FilAt w b (86+c*31+4+k*13+2) (x.used k) (x.fl k)
 heard:∀k,k<2→∃v,w.cell? ⟨b,86+c*31+4+k*13+12,none⟩=some v∧HeardAt w ρ c k (x.used k) (x.told k) v
 log:∃v,w.cell? ⟨b,86+c*31+30,none⟩=some v∧RowAt w ρ (.log c) 74 7 x.log.length (x.log.flatMap Ent.enc) v
structure XN (w:World)(b:Nat)(ρ:zA)(σ:Net):Prop where
 net:ρ b=some .net
 typ:∃cs,w.heap[b]?=some (.cells cs 102)
 fr:∀o,w.frozen? ⟨b,o,none⟩=false
 closed:w.cell? ⟨b,0,none⟩=some (.bool false)
 tree:∃a cap,w.cell? ⟨b,1,none⟩=some (.slice a σ.par.length cap)∧(σ.par=[]∨∃tb o,a=some ⟨tb,o,none⟩∧ρ tb=some .tree∧∀j,j<σ.par.length→w.cell? ⟨tb,o+j,none⟩=some (int (σ.par.getD j 0:Nat)))
 link:∀x y,x<6→y<6→∃v,w.cell? ⟨b,2+x*6+y,none⟩=some v∧LinkAt w ρ x y (iB σ.par x y) (σ.q x y) v
 known:∀x c k,x<6→c<4→k<2→∃v,w.cell? ⟨b,38+x*8+c*2+k,none⟩=some v∧KnownAt w ρ x (2*c+k) (σ.kn x (2*c+k)) v
 cli:∀c,c<4→CliX w b ρ c (σ.cl c)
 lt:∀k,ρ k≠none→k<w.heap.size
 open_:σ.closed=false
theorem RowAt.keep {w w':World}{ρ ρ':zA}{r:Role}{e:TypeId}{size n:Nat}{cells:List Value}{v:Value}(h:RowAt w ρ r e size n cells v)
  (hk:∀k,ρ k=some r→w'.heap[k]?=w.heap[k]?∧ρ' k=ρ k):RowAt w' ρ' r e size n cells v:=by
 obtain⟨⟨h1,h2⟩,h3⟩:=h;refine⟨⟨h1,?_⟩,fun g hg=>(hk g (h3 g hg)).2.trans (h3 g hg)⟩;rcases h2 with h2 | ⟨g,cap,cur,rfl,a1,a2,a3,a4,a5,a6⟩
 ·exact Or.inl h2
 ·exact Or.inr ⟨g,cap,cur,rfl,a1,(hk g (h3 g rfl)).1.trans a2,a3,a4,a5,a6⟩
theorem FrAt.keep {w w':World}{ρ ρ':zA}{f:Fr}{fb:Nat}(h:FrAt w ρ f fb)
  (hk:∀k,ρ k=some .frame∨ρ k=some .rest→w'.heap[k]?=w.heap[k]?∧ρ' k=ρ k):FrAt w' ρ' f fb:=by
 obtain⟨h1,a,u,kv,h2,h3,h4,h5⟩:=h;exact⟨(hk fb (Or.inl h1)).2.trans h1,a,u,kv,(hk fb (Or.inl h1)).1.trans h2,h3,h4,h5.keep (fun k e=>hk k (Or.inr e))⟩
theorem FrAt.calm {w w':World}{ρ:zA}{f:Fr}{fb:Nat}(h:FrAt w ρ f fb)(hl:∀k,ρ k≠none→k<w.heap.size)(t:qA w w'):FrAt w' ρ f fb:=
 h.keep (fun k hk=>⟨t.block k (hl k (by rcases hk with hk | hk<;>(rw[hk];simp))) id,rfl⟩)
theorem FramesAt.keep {w w':World}{ρ ρ':zA}{vs:List Value}{l:List Fr}(h:FramesAt w ρ vs l)
  (hk:∀k,ρ k=some .frame∨ρ k=some .rest→w'.heap[k]?=w.heap[k]?∧ρ' k=ρ k):FramesAt w' ρ' vs l:=by
 refine⟨h.1,fun i f hf=>?_⟩;obtain⟨fb,h1,h2⟩:=h.2 i f hf;exact⟨fb,h1,h2.keep hk⟩
theorem LinkAt.keep {w w':World}{ρ ρ':zA}{x y:Nat}{nb:Bool}{l:List Fr}{v:Value}(h:LinkAt w ρ x y nb l v)
  (hk:∀k,ρ k=some (.chan x y)∨(ρ k=some .frame∨ρ k=some .rest)→w'.heap[k]?=w.heap[k]?∧ρ' k=ρ k):LinkAt w' ρ' x y nb l v:=by
 unfold LinkAt at h ⊢;split
 ·rename_i hn
  rw[if_pos hn] at h;obtain⟨r,buf,s,t,h1,h2,h3,h4⟩:=h;exact⟨r,buf,s,t,h1,(hk r (Or.inl h2)).2.trans h2,(hk r (Or.inl h2)).1.trans h3,h4.keep (fun k e=>hk k (Or.inr e))⟩
 ·rename_i hn
  rw[if_neg hn] at h;exact h
theorem KnownAt.keep {w w':World}{ρ ρ':zA}{x s:Nat}{o:Option Fact}{v:Value}(h:KnownAt w ρ x s o v)
  (hk:∀k,ρ k=some (.known x s)∨ρ k=some (.kept x s)→w'.heap[k]?=w.heap[k]?∧ρ' k=ρ k):KnownAt w' ρ' x s o v:=by
 unfold KnownAt at h ⊢;split
 ·exact h
 ·obtain⟨kb,kv,h1,h2,h3,h4⟩:=h;exact⟨kb,kv,h1,(hk kb (Or.inl h2)).2.trans h2,(hk kb (Or.inl h2)).1.trans h3,h4.keep (fun k e=>hk k (Or.inr e))⟩
theorem HeardAt.keep {w w':World}{ρ ρ':zA}{c k:Nat}{used:Bool}{told:List News}{v:Value}(h:HeardAt w ρ c k used told v)
  (hk:∀i,ρ i=some (.map c k)→w'.heap[i]?=w.heap[i]?∧ρ' i=ρ i):HeardAt w' ρ' c k used told v:=by
 unfold HeardAt at h ⊢;split
 ·rename_i hu
  rw[if_pos hu] at h;obtain⟨mb,n,D,h1,h2,⟨es,clock,h3,h4,h5,h6⟩,h7,h8⟩:=h;exact⟨mb,n,D,h1,(hk mb h2).2.trans h2,⟨es,clock,(hk mb h2).1.trans h3,h4,h5,h6⟩,h7,h8⟩
 ·rename_i hu
  rw[if_neg hu] at h;exact h
theorem CliX.keep {w w':World}{b:Nat}{ρ ρ':zA}{c:Nat}{x:Cli}(h:CliX w b ρ c x)
  (hcell:∀o v,86+c*31≤o→o<86+c*31+31→w.cell? ⟨b,o,none⟩=some v→w'.cell? ⟨b,o,none⟩=some v)
  (hk:∀i,(∃k,ρ i=some (.map c k))∨ρ i=some (.log c)→w'.heap[i]?=w.heap[i]?∧ρ' i=ρ i):CliX w' b ρ' c x:=by
 obtain⟨v,h1,h2⟩:=h.log
 refine⟨hcell _ _ (by omega) (by omega) h.here,hcell _ _ (by omega) (by omega) h.home,hcell _ _ (by omega) (by omega) h.stays,hcell _ _ (by omega) (by omega) h.many,
  fun k hk2=>hcell _ _ (by omega) (by omega) (h.used k hk2),fun k hk2=>hcell _ _ (by omega) (by omega) (h.age k hk2),fun k hk2=>?_,fun k hk2=>?_,v,hcell _ _ (by omega) (by omega) h1,h2.keep (fun i e=>hk i (Or.inr e))⟩
 ·exact(h.fl k hk2).keep (fun j v hj=>hcell _ _ (by omega) (by omega))
 obtain⟨u,h3,h4⟩:=h.heard k hk2;exact⟨u,hcell _ _ (by omega) (by omega) h3,h4.keep (fun i e=>hk i (Or.inl ⟨k,e⟩))⟩
structure Mv (S:Role→Prop)(ρ ρ':zA)(w w':World):Prop where
 touch:Touch (fun k=>∃r,ρ k=some r∧S r) w w'
 role:∀k,k<w.heap.size→ρ' k=ρ k∨(∃x s,ρ k=some (.kept x s)∧S (.kept x s)∧ρ' k=some .rest)
 lt:∀k,ρ' k≠none→k<w'.heap.size
theorem Mv.refl {S:Role→Prop}{ρ:zA}{w:World}(h:∀k,ρ k≠none→k<w.heap.size):Mv S ρ ρ w w:=⟨Touch.refl _ _,fun _ _=>Or.inl rfl,h⟩
theorem Mv.roleN {S:Role→Prop}{ρ ρ':zA}{w w':World}(h:Mv S ρ ρ' w w'){k:Nat}(hk:k<w.heap.size)(hn:∀x s,ρ k≠some (.kept x s)):ρ' k=ρ k:=
 (h.role k hk).elim id (fun ⟨x,s,e,_⟩=>absurd e (hn x s))
theorem Mv.noRole {S:Role→Prop}{ρ ρ':zA}{w w':World}(h:Mv S ρ ρ' w w'){k:Nat}(hk:k<w.heap.size)(hn:ρ k=none):ρ' k=none:=
 (h.roleN hk (fun x s=>by rw[hn];simp)).trans hn
theorem Mv.trans {S:Role→Prop}{ρ ρ' ρ'':zA}{w w' w'':World}(h:Mv S ρ ρ' w w')(k:Mv S ρ' ρ'' w' w''):Mv S ρ ρ'' w w'':=by
 refine⟨⟨k.touch.os.trans h.touch.os,k.touch.tape.trans h.touch.tape,k.touch.output.trans h.touch.output,mO0 h.touch.size k.touch.size,fun i hi hs=>?_⟩,fun i hi=>?_,k.lt⟩
 ·refine(k.touch.block i (sO0 hi h.touch.size) (fun ⟨r,h1,h2⟩=>?_)).trans (h.touch.block i hi hs);rcases h.role i hi with e | ⟨x,s,e1,e2,_⟩
  ·exact hs ⟨r,e.symm.trans h1,h2⟩
  ·exact hs ⟨_,e1,e2⟩
 ·rcases h.role i hi with e | ⟨x,s,e1,e2,e3⟩
  ·rcases k.role i (sO0 hi h.touch.size) with f | ⟨x,s,f1,f2,f3⟩
   ·exact Or.inl (f.trans e)
   ·exact Or.inr ⟨x,s,e.symm.trans f1,f2,f3⟩
  ·exact Or.inr ⟨x,s,e1,e2,(k.roleN (sO0 hi h.touch.size) (fun x s=>by rw[e3];simp)).trans e3⟩
theorem Mv.mono {S S':Role→Prop}{ρ ρ':zA}{w w':World}(h:Mv S ρ ρ' w w')(hs:∀r,S r→S' r):Mv S' ρ ρ' w w':=
 ⟨h.touch.mono (fun _ _ ⟨r,h1,h2⟩=>⟨r,h1,hs r h2⟩),fun k hk=>(h.role k hk).imp id (fun ⟨x,s,e1,e2,e3⟩=>⟨x,s,e1,hs _ e2,e3⟩),h.lt⟩
theorem Mv.calm {S:Role→Prop}{ρ:zA}{w w':World}(hl:∀k,ρ k≠none→k<w.heap.size)(h:qA w w'):Mv S ρ ρ w w':=
 ⟨h.mono (fun _ _ f=>f.elim),fun _ _=>Or.inl rfl,fun k hk=>sO0 (hl k hk) h.size⟩
theorem Mv.keeps {S:Role→Prop}{ρ ρ':zA}{w w':World}(hl:∀k,ρ k≠none→k<w.heap.size)(h:Mv S ρ ρ' w w'){k:Nat}{r:Role}(hr:ρ k=some r)(hs:¬S r):w'.heap[k]?=w.heap[k]?∧ρ' k=ρ k:=by
 have hk:=hl k (by rw[hr];simp)
 refine⟨h.touch.block k hk (fun ⟨r',h1,h2⟩=>by rw[hr] at h1;cases h1;exact hs h2),?_⟩;rcases h.role k hk with e | ⟨x,s,e1,e2,_⟩
 ·exact e
 ·rw[hr] at e1;cases e1;exact absurd e2 hs
theorem Mv.keeps' {S:Role→Prop}{ρ ρ':zA}{w w':World}(hl:∀k,ρ k≠none→k<w.heap.size)(h:Mv S ρ ρ' w w'){k:Nat}{x s:Nat}(hr:ρ k=some (.known x s)):ρ' k=ρ k:=
 h.roleN (hl k (by rw[hr];simp)) (fun _ _=>by rw[hr];simp)
theorem XN.step' {w w':World}{b:Nat}{ρ ρ':zA}{σ σ':Net}{S:Role→Prop}(h:XN w b ρ σ)(K:∀{k:Nat} {r:Role},ρ k=some r→¬S r→w'.heap[k]?=w.heap[k]?∧ρ' k=ρ k)(hnet:ρ' b=ρ b)(hlt':∀k,ρ' k≠none→k<w'.heap.size)(ch:Nat→Prop)(htyp:∃cs,w'.heap[b]?=some (.cells cs 102))
  (hfr:∀o,w'.frozen? ⟨b,o,none⟩=false)
  (hcell:∀o v,¬ch o→w.cell? ⟨b,o,none⟩=some v→w'.cell? ⟨b,o,none⟩=some v)
  (hpar:σ'.par=σ.par) (hopen:σ'.closed=σ.closed) (h0:¬ch 0) (h1:¬ch 1) (htree:¬S .tree) (hframe:¬S .frame) (hrest:¬S .rest)
  (hl:∀x y,x<6→y<6→(σ'.q x y=σ.q x y∧¬ch (2+x*6+y)∧¬S (.chan x y))∨(∃v,w'.cell? ⟨b,2+x*6+y,none⟩=some v∧LinkAt w' ρ' x y (iB σ.par x y) (σ'.q x y) v))
  (hk:∀x c k,x<6→c<4→k<2→(σ'.kn x (2*c+k)=σ.kn x (2*c+k)∧¬ch (38+x*8+c*2+k)∧¬S (.known x (2*c+k))∧¬S (.kept x (2*c+k)))∨
   (∃v,w'.cell? ⟨b,38+x*8+c*2+k,none⟩=some v∧KnownAt w' ρ' x (2*c+k) (σ'.kn x (2*c+k)) v))
  (hc:∀c,c<4→(σ'.cl c=σ.cl c∧(∀o,86+c*31≤o→o<86+c*31+31→¬ch o)∧(∀k,¬S (.map c k))∧¬S (.log c))∨CliX w' b ρ' c (σ'.cl c)):XN w' b ρ' σ':=by
 refine⟨hnet.trans h.net,htyp,hfr,hcell _ _ h0 h.closed,?_,fun x y hx hy=>?_,fun x c k hx hc' hk'=>?_,fun c hc'=>?_,hlt',hopen.trans h.open_⟩
 ·obtain⟨a,cap,e1,e2⟩:=h.tree;rw[hpar];refine⟨a,cap,hcell _ _ h1 e1,e2.imp id ?_⟩;rintro⟨tb,o,rfl,e3,e4⟩
  exact⟨tb,o,rfl,(K e3 htree).2.trans e3,fun j hj=>pA (K e3 htree).1 (e4 j hj)⟩
 ·rw[hpar];rcases hl x y hx hy with⟨e1,e2,e3⟩ | e
  ·obtain⟨v,e4,e5⟩:=h.link x y hx hy;rw[e1];exact⟨v,hcell _ _ e2 e4,e5.keep (fun k hk=>hk.elim (fun e=>K e e3) (fun e=>e.elim (fun e=>K e hframe) (fun e=>K e hrest)))⟩
  ·exact e
 ·rcases hk x c k hx hc' hk' with⟨e1,e2,e3,e4⟩ | e
  ·obtain⟨v,e5,e6⟩:=h.known x c k hx hc' hk';rw[e1];exact⟨v,hcell _ _ e2 e5,e6.keep (fun k hk=>hk.elim (fun e=>K e e3) (fun e=>K e e4))⟩
  ·exact e
 ·rcases hc c hc' with⟨e1,e2,e3,e4⟩ | e
  ·rw[e1];exact(h.cli c hc').keep (fun o v ho1 ho2=>hcell o v (e2 o ho1 ho2)) (fun i hi=>hi.elim (fun ⟨k,e⟩=>K e (e3 k)) (fun e=>K e e4))
  ·exact e
theorem XN.step {w w':World}{b:Nat}{ρ ρ':zA}{σ σ':Net}{S:Role→Prop}(h:XN w b ρ σ)(m:Mv S ρ ρ' w w')(ch:Nat→Prop)(htyp:∃cs,w'.heap[b]?=some (.cells cs 102))
  (hfr:∀o,w'.frozen? ⟨b,o,none⟩=false)
  (hcell:∀o v,¬ch o→w.cell? ⟨b,o,none⟩=some v→w'.cell? ⟨b,o,none⟩=some v)
  (hpar:σ'.par=σ.par) (hopen:σ'.closed=σ.closed) (h0:¬ch 0) (h1:¬ch 1) (htree:¬S .tree) (hframe:¬S .frame) (hrest:¬S .rest)
  (hl:∀x y,x<6→y<6→(σ'.q x y=σ.q x y∧¬ch (2+x*6+y)∧¬S (.chan x y))∨(∃v,w'.cell? ⟨b,2+x*6+y,none⟩=some v∧LinkAt w' ρ' x y (iB σ.par x y) (σ'.q x y) v))
  (hk:∀x c k,x<6→c<4→k<2→(σ'.kn x (2*c+k)=σ.kn x (2*c+k)∧¬ch (38+x*8+c*2+k)∧¬S (.known x (2*c+k))∧¬S (.kept x (2*c+k)))∨
   (∃v,w'.cell? ⟨b,38+x*8+c*2+k,none⟩=some v∧KnownAt w' ρ' x (2*c+k) (σ'.kn x (2*c+k)) v))
  (hc:∀c,c<4→(σ'.cl c=σ.cl c∧(∀o,86+c*31≤o→o<86+c*31+31→¬ch o)∧(∀k,¬S (.map c k))∧¬S (.log c))∨CliX w' b ρ' c (σ'.cl c)):XN w' b ρ' σ':=
 h.step' (fun hr hs=>m.keeps h.lt hr hs) (m.roleN (h.lt b (by rw[h.net];simp)) (by rw[h.net];simp)) m.lt ch htyp hfr hcell hpar hopen h0 h1 htree hframe hrest hl hk hc
theorem XN.keep {w w':World}{b:Nat}{ρ:zA}{σ:Net}(h:XN w b ρ σ){T:Nat→Prop}(t:Touch T w w')(hT:∀k,ρ k≠none→¬T k):XN w' b ρ σ:=by
 have hk:∀k,ρ k≠none→w'.heap[k]?=w.heap[k]?:=fun k hk=>t.block k (h.lt k hk) (hT k hk);have hb:=hk b (by rw[h.net];simp)
 refine h.step' (S:=fun _=>False) (fun {k r} hr _=>⟨hk k (by rw[hr];simp),rfl⟩) rfl (fun k hk=>sO0 (h.lt k hk) t.size) (fun _=>False) (by rw[hb];exact h.typ) (fun o=>(nP0 (w:=w) (a:=⟨b,o,none⟩) hb).trans (h.fr o)) (fun o v _ hc=>pA hb hc) rfl rfl id id id id id
  (fun x y _ _=>Or.inl ⟨rfl,id,id⟩) (fun x c k _ _ _=>Or.inl ⟨rfl,id,id,id⟩) (fun c _=>Or.inl ⟨rfl,fun _ _ _=>id,fun _=>id,id⟩)
theorem XN.calm {w w':World}{b:Nat}{ρ:zA}{σ:Net}(h:XN w b ρ σ)(t:qA w w'):XN w' b ρ σ:=h.keep t (fun _ _ f=>f)
theorem XN.mvCalm {S:Role→Prop}{w w':World}{b:Nat}{ρ:zA}{σ:Net}(h:XN w b ρ σ)(t:qA w w'):Mv S ρ ρ w w':=Mv.calm h.lt t
theorem zB (w:World){b k o:Nat}(v:Value)(h:k≠b):(w.setCell ⟨b,o,none⟩ v).heap[k]?=w.heap[k]?:=Below.heap_setCell _ _ _ _ (fun e=>h e)
theorem nB {w:World}{b t:Nat}(h:∃cs,w.heap[b]?=some (.cells cs t))(o:Nat)(v:Value):∃cs,(w.setCell ⟨b,o,none⟩ v).heap[b]?=some (.cells cs t):=by
 obtain⟨cs,h⟩:=h;exact⟨_,dP0 _ _ _ _ _ _ h⟩
theorem Mv.setCell {S:Role→Prop}{ρ:zA}{w:World}(hl:∀k,ρ k≠none→k<w.heap.size){b:Nat}{r:Role}(hr:ρ b=some r)(hS:S r)(o:Nat)(v:Value):Mv S ρ ρ w (w.setCell ⟨b,o,none⟩ v):=
 ⟨(Touch.refl _ w).setCell (p:=⟨b,o,none⟩) (fun _=>⟨r,hr,hS⟩) v,fun _ _=>Or.inl rfl,fun k hk=>by simpa[World.setCell] using hl k hk⟩
theorem XN.storeCli {w:World}{b:Nat}{ρ:zA}{σ:Net}(h:XN w b ρ σ){c:Nat}(hc:c<4){x:Cli}(o:Nat)(v:Value)(ho1:86+c*31≤o)(ho2:o<86+c*31+31)
  (hx:CliX (w.setCell ⟨b,o,none⟩ v) b ρ c x):XN (w.setCell ⟨b,o,none⟩ v) b ρ (σ.setCl c x):=by
 refine h.step (Mv.setCell (S:=fun r=>r=.net) h.lt h.net rfl o v) (fun o'=>o'=o) (nB h.typ o v) (fun o'=>by rw[World.frozen?_setCell];exact h.fr o') (fun o' u hne hu=>(World.cell?_setCell_other w _ _ _ (by intro e;cases e;exact hne rfl)).trans hu) rfl rfl (by omega) (by omega) (by simp) (by simp) (by simp)
  (fun x y _ _=>Or.inl ⟨rfl,by omega,by simp⟩) (fun x c k _ _ _=>Or.inl ⟨rfl,by omega,by simp,by simp⟩) (fun d hd=>?_)
 by_cases e:d=c
 ·subst e;right;simp only[Net.setCl,put_same];exact hx
 ·left;exact⟨by simp only[Net.setCl,kA _ _ e],fun o' _ _=>by omega,fun _=>by simp,by simp⟩
theorem cP0:type_of% @Touch.refl:=@Touch.refl
theorem bP0:type_of% @Touch.trans:=@Touch.trans
theorem aP0:type_of% @Mv.refl:=@Mv.refl
theorem zQ0:type_of% @Mv.calm:=@Mv.calm
theorem yQ0:type_of% @Mv.setCell:=@Mv.setCell
end Go.Proofs.YtodfcpblcpogiaaGreat

import Derived.Test.YtodfcpblcpogiaaGreatSx
import Derived.Test.YtodfcpblcpogiaaGreatSw
namespace Go.Proofs.YtodfcpblcpogiaaGreat
open Go.RowKit
theorem RG.anyFact {w:World}{b:Nat}{ρ:zA}{σ:Net}(h:RG w b ρ σ)(x s:Nat):∃z:Int,Calls Tryz.prog 39 #[.pointer (some ⟨b,0,none⟩),int x,int s] w fun e w'=>e=.returned (int z)∧w'=w:=by
 cases hk:σ.kn x s with
 | none=>exact⟨-1,h.noFact hk⟩
 | some f=>
  obtain⟨i,_,_,_,_,hc⟩:=h.factAt hk;exact⟨i,hc⟩
set_option maxRecDepth 100000 in
set_option maxHeartbeats 2000000 in
theorem dS {w:World}{b:Nat}{ρ:zA}{σ τ:Net}(h:RG w b ρ σ){x y:Nat}{e:News}{a1 a2:Int}(HCALL:∀wq,qA w wq→Calls Tryz.prog 51 #[.pointer (some ⟨b,0,none⟩),int x,.agg #[int 3,int a1,int a2,int 0,int 0,rA,int e.ev.pub,int e.ev.num,int e.ev.f0,int e.ev.f1,int e.ev.f2,int e.stay,int 0,int 0,rA,int 0],int y] wq fun r w'=>r=.returned (.tuple #[])∧∃ρ',RG w' b ρ' τ∧Mv uB ρ ρ' wq w'):
  Calls Tryz.prog 92 #[.pointer (some ⟨b,0,none⟩),int x,.agg #[int 3,int a1,int a2,int 0,int 0,rA,int e.ev.pub,int e.ev.num,int e.ev.f0,int e.ev.f1,int e.ev.f2,int e.stay,int 0,int 0,rA,int 0],int y] w fun r w'=>r=.returned (.tuple #[])∧∃ρ',RG w' b ρ' τ∧Mv uB ρ ρ' w w':=by
 have hL0:=HanAt.new h #[int 3,int a1,int a2,int 0,int 0,rA,int e.ev.pub,int e.ev.num,int e.ev.f0,int e.ev.f1,int e.ev.f2,int e.stay,int 0,int 0,rA,int 0];obtain⟨W0,hW0⟩:∃W0,(w.alloc (.cells #[int 3,int a1,int a2,int 0,int 0,rA,int e.ev.pub,int e.ev.num,int e.ev.f0,int e.ev.f1,int e.ev.f2,int e.stay,int 0,int 0,rA,int 0] 133))=W0:=⟨_,rfl⟩;rw[hW0] at hL0;have t0:qA w W0:=by rw[←hW0];exact(cP0 _ _).alloc _
 obtain⟨z,hz⟩:=hL0.net.anyFact x 0;have HC:=uA hz;have HCA:=uA (HCALL W0 t0);have HM0:Hid (Mv uB ρ ρ w W0):=uA hL0.mv;have d0:W0.cell? ⟨w.heap.size,0,none⟩=some (int 3):=xA hL0.box 0;have d1:W0.cell? ⟨w.heap.size,1,none⟩=some (int a1):=xA hL0.box 1;have d2:W0.cell? ⟨w.heap.size,2,none⟩=some (int a2):=xA hL0.box 2;have d3:W0.cell? ⟨w.heap.size,3,none⟩=some (int 0):=xA hL0.box 3;have d4:W0.cell? ⟨w.heap.size,4,none⟩=some (int 0):=xA hL0.box 4;have d5:W0.cell? ⟨w.heap.size,5,none⟩=some (rA):=xA hL0.box 5;have d6:W0.cell? ⟨w.heap.size,6,none⟩=some (int e.ev.pub):=xA hL0.box 6;have d7:W0.cell? ⟨w.heap.size,7,none⟩=some (int e.ev.num):=xA hL0.box 7;have d8:W0.cell? ⟨w.heap.size,8,none⟩=some (int e.ev.f0):=xA hL0.box 8;have d9:W0.cell? ⟨w.heap.size,9,none⟩=some (int e.ev.f1):=xA hL0.box 9;have d10:W0.cell? ⟨w.heap.size,10,none⟩=some (int e.ev.f2):=xA hL0.box 10;have d11:W0.cell? ⟨w.heap.size,11,none⟩=some (int e.stay):=xA hL0.box 11;have d12:W0.cell? ⟨w.heap.size,12,none⟩=some (int 0):=xA hL0.box 12;have d13:W0.cell? ⟨w.heap.size,13,none⟩=some (int 0):=xA hL0.box 13;have d14:W0.cell? ⟨w.heap.size,14,none⟩=some (rA):=xA hL0.box 14;have d15:W0.cell? ⟨w.heap.size,15,none⟩=some (int 0):=xA hL0.box 15;have HW0:=uA hW0;clear h hL0 t0 hW0 hz HCALL;go_enter Tryz.func92,Tryz.ntmps92
 go_wp2_with (first
  | (go_at_call 39;(try rw[yA HW0]);refine(yA HC).mono ?_;rintro e w1 ⟨rfl,hw1⟩;have hw1:=hw1.symm;subst hw1)
  | (go_at_call 51;refine(yA HCA).mono ?_;rintro e w4 ⟨rfl,ρ4,h4,m4⟩;have H4:=uA h4;have M4:=uA m4;clear h4 m4))
 go_end0
 exact⟨rfl,ρ4,yA H4,(yA HM0).trans (yA M4)⟩
set_option maxRecDepth 100000 in
set_option maxHeartbeats 2000000 in
theorem eS {w:World}{b:Nat}{ρ:zA}{σ τ:Net}(h:RG w b ρ σ){x y:Nat}{s old new fn fc:Nat}{age a1 a2:Int}{fa:Option Addr}(HCALL:∀wq,qA w wq→Calls Tryz.prog 115 #[.pointer (some ⟨b,0,none⟩),int x,.agg #[int 4,int a1,int a2,int s,int age,.slice fa fn fc,int 0,int 0,int 0,int 0,int 0,int 0,int old,int new,rA,int 0],int y] wq fun r w'=>r=.returned (.tuple #[])∧∃ρ',RG w' b ρ' τ∧Mv uB ρ ρ' wq w'):
  Calls Tryz.prog 92 #[.pointer (some ⟨b,0,none⟩),int x,.agg #[int 4,int a1,int a2,int s,int age,.slice fa fn fc,int 0,int 0,int 0,int 0,int 0,int 0,int old,int new,rA,int 0],int y] w fun r w'=>r=.returned (.tuple #[])∧∃ρ',RG w' b ρ' τ∧Mv uB ρ ρ' w w':=by
 have hL0:=HanAt.new h #[int 4,int a1,int a2,int s,int age,.slice fa fn fc,int 0,int 0,int 0,int 0,int 0,int 0,int old,int new,rA,int 0];obtain⟨W0,hW0⟩:∃W0,(w.alloc (.cells #[int 4,int a1,int a2,int s,int age,.slice fa fn fc,int 0,int 0,int 0,int 0,int 0,int 0,int old,int new,rA,int 0] 133))=W0:=⟨_,rfl⟩;rw[hW0] at hL0;have t0:qA w W0:=by rw[←hW0];exact(cP0 _ _).alloc _
 obtain⟨z,hz⟩:=hL0.net.anyFact x s;have HC:=uA hz;have HCA:=uA (HCALL W0 t0);have HM0:Hid (Mv uB ρ ρ w W0):=uA hL0.mv;have d0:W0.cell? ⟨w.heap.size,0,none⟩=some (int 4):=xA hL0.box 0;have d1:W0.cell? ⟨w.heap.size,1,none⟩=some (int a1):=xA hL0.box 1;have d2:W0.cell? ⟨w.heap.size,2,none⟩=some (int a2):=xA hL0.box 2;have d3:W0.cell? ⟨w.heap.size,3,none⟩=some (int s):=xA hL0.box 3;have d4:W0.cell? ⟨w.heap.size,4,none⟩=some (int age):=xA hL0.box 4;have d5:W0.cell? ⟨w.heap.size,5,none⟩=some (.slice fa fn fc):=xA hL0.box 5;have d6:W0.cell? ⟨w.heap.size,6,none⟩=some (int 0):=xA hL0.box 6;have d7:W0.cell? ⟨w.heap.size,7,none⟩=some (int 0):=xA hL0.box 7;have d8:W0.cell? ⟨w.heap.size,8,none⟩=some (int 0):=xA hL0.box 8;have d9:W0.cell? ⟨w.heap.size,9,none⟩=some (int 0):=xA hL0.box 9;have d10:W0.cell? ⟨w.heap.size,10,none⟩=some (int 0):=xA hL0.box 10;have d11:W0.cell? ⟨w.heap.size,11,none⟩=some (int 0):=xA hL0.box 11;have d12:W0.cell? ⟨w.heap.size,12,none⟩=some (int old):=xA hL0.box 12;have d13:W0.cell? ⟨w.heap.size,13,none⟩=some (int new):=xA hL0.box 13;have d14:W0.cell? ⟨w.heap.size,14,none⟩=some (rA):=xA hL0.box 14;have d15:W0.cell? ⟨w.heap.size,15,none⟩=some (int 0):=xA hL0.box 15;have HW0:=uA hW0;clear h hL0 t0 hW0 hz HCALL;go_enter Tryz.func92,Tryz.ntmps92
 go_wp2_with (first
  | (go_at_call 39;(try rw[yA HW0]);refine(yA HC).mono ?_;rintro e w1 ⟨rfl,hw1⟩;have hw1:=hw1.symm;subst hw1)
  | (go_at_call 115;refine(yA HCA).mono ?_;rintro e w4 ⟨rfl,ρ4,h4,m4⟩;have H4:=uA h4;have M4:=uA m4;clear h4 m4))
 go_end0
 exact⟨rfl,ρ4,yA H4,(yA HM0).trans (yA M4)⟩
set_option maxRecDepth 100000 in
set_option maxHeartbeats 2000000 in
theorem uK {w:World}{b:Nat}{ρ:zA}{σ τ:Net}(h:RG w b ρ σ){x y:Nat}{s new en ec:Nat}{mo a1 a2:Int}{ea:Option Addr}(HCALL:∀wq,qA w wq→Calls Tryz.prog 116 #[.pointer (some ⟨b,0,none⟩),int x,.agg #[int 5,int a1,int a2,int s,int 0,rA,int 0,int 0,int 0,int 0,int 0,int 0,int 0,int new,.slice ea en ec,int mo]] wq fun r w'=>r=.returned (.tuple #[])∧∃ρ',RG w' b ρ' τ∧Mv uB ρ ρ' wq w'):
  Calls Tryz.prog 92 #[.pointer (some ⟨b,0,none⟩),int x,.agg #[int 5,int a1,int a2,int s,int 0,rA,int 0,int 0,int 0,int 0,int 0,int 0,int 0,int new,.slice ea en ec,int mo],int y] w fun r w'=>r=.returned (.tuple #[])∧∃ρ',RG w' b ρ' τ∧Mv uB ρ ρ' w w':=by
 have hL0:=HanAt.new h #[int 5,int a1,int a2,int s,int 0,rA,int 0,int 0,int 0,int 0,int 0,int 0,int 0,int new,.slice ea en ec,int mo];obtain⟨W0,hW0⟩:∃W0,(w.alloc (.cells #[int 5,int a1,int a2,int s,int 0,rA,int 0,int 0,int 0,int 0,int 0,int 0,int 0,int new,.slice ea en ec,int mo] 133))=W0:=⟨_,rfl⟩;rw[hW0] at hL0;have t0:qA w W0:=by rw[←hW0];exact(cP0 _ _).alloc _
 obtain⟨z,hz⟩:=hL0.net.anyFact x s;have HC:=uA hz;have HCA:=uA (HCALL W0 t0);have HM0:Hid (Mv uB ρ ρ w W0):=uA hL0.mv;have d0:W0.cell? ⟨w.heap.size,0,none⟩=some (int 5):=xA hL0.box 0;have d1:W0.cell? ⟨w.heap.size,1,none⟩=some (int a1):=xA hL0.box 1;have d2:W0.cell? ⟨w.heap.size,2,none⟩=some (int a2):=xA hL0.box 2;have d3:W0.cell? ⟨w.heap.size,3,none⟩=some (int s):=xA hL0.box 3;have d4:W0.cell? ⟨w.heap.size,4,none⟩=some (int 0):=xA hL0.box 4;have d5:W0.cell? ⟨w.heap.size,5,none⟩=some (rA):=xA hL0.box 5;have d6:W0.cell? ⟨w.heap.size,6,none⟩=some (int 0):=xA hL0.box 6;have d7:W0.cell? ⟨w.heap.size,7,none⟩=some (int 0):=xA hL0.box 7;have d8:W0.cell? ⟨w.heap.size,8,none⟩=some (int 0):=xA hL0.box 8;have d9:W0.cell? ⟨w.heap.size,9,none⟩=some (int 0):=xA hL0.box 9;have d10:W0.cell? ⟨w.heap.size,10,none⟩=some (int 0):=xA hL0.box 10;have d11:W0.cell? ⟨w.heap.size,11,none⟩=some (int 0):=xA hL0.box 11;have d12:W0.cell? ⟨w.heap.size,12,none⟩=some (int 0):=xA hL0.box 12;have d13:W0.cell? ⟨w.heap.size,13,none⟩=some (int new):=xA hL0.box 13;have d14:W0.cell? ⟨w.heap.size,14,none⟩=some (.slice ea en ec):=xA hL0.box 14;have d15:W0.cell? ⟨w.heap.size,15,none⟩=some (int mo):=xA hL0.box 15;have HW0:=uA hW0;clear h hL0 t0 hW0 hz HCALL;go_enter Tryz.func92,Tryz.ntmps92
 go_wp2_with (first
  | (go_at_call 39;(try rw[yA HW0]);refine(yA HC).mono ?_;rintro e w1 ⟨rfl,hw1⟩;have hw1:=hw1.symm;subst hw1)
  | (go_at_call 116;refine(yA HCA).mono ?_;rintro e w4 ⟨rfl,ρ4,h4,m4⟩;have H4:=uA h4;have M4:=uA m4;clear h4 m4))
 go_end0
 exact⟨rfl,ρ4,yA H4,(yA HM0).trans (yA M4)⟩
def tM0 (σ:Net)(x _y:Nat):Fr→Prop
 | .sub s _ _=>s<8
 | .unsub s _=>s<8
 | .event e=>∃m,e.lim (m+1)∧Warm σ m∧m<2000000000000
 | .move s _ _ old _=>s<8∧old<σ.n
 | .rest s evs _ new=>s<8∧new<σ.n∧(x=new→∃f,σ.kn x s=some f∧(σ.cl (s/2)).log.length+1+evs.length+f.kept.length<2199023255552∧((σ.cl (s/2)).told (s%2)).length+evs.length+f.kept.length<2199023255552)
theorem vN0 {w:World}{b:Nat}{ρ:zA}{σ:Net}(h:RG w b ρ σ)(T:Tree σ.par){x y:Nat}(hx:x<σ.n)(hy:y<6)(hlen:∀a y,(σ.q a y).length<2000){f:Fr}{v0 v1 v2 v3 v4 v5 v6 v7 v8 v9 v10 v11 v12 v13 v14 v15:Value}(hf:FrC w ρ ⟨y,x,f⟩ [v0,v1,v2,v3,v4,v5,v6,v7,v8,v9,v10,v11,v12,v13,v14,v15])(hC:tM0 σ x y f):
  Calls Tryz.prog 92 #[.pointer (some ⟨b,0,none⟩),int x,.agg #[v0,v1,v2,v3,v4,v5,v6,v7,v8,v9,v10,v11,v12,v13,v14,v15],int y] w fun r w'=>r=.returned (.tuple #[])∧∃ρ',RG w' b ρ' (σ.handle x (some y) f)∧Mv uB ρ ρ' w w':=by
 have hs6:σ.n≤6:=gB T;have hx6:x<6:=sO0 hx hs6;have hwt:σ.waiting<1000000000:=by
  have:=sI (σ:=σ) (B:=2000) (fun a y=>Nat.le_of_lt (hlen a y));omega
 cases f with
 | sub s age fl=>
  obtain⟨fv,hfl,e⟩:=hf;cases e
  have hs:s<8:=hC;cases hk:σ.kn x s with
  | none=>
   have hN:σ.handle x (some y) (.sub s age fl)=(σ.know x s (some ⟨age,fl,some y,[],0,false⟩)).spread x (some y) (.sub s age fl):=by simp[Net.handle,Net.learn,hk]
   rw[hN];exact pQ h hx hs6 hs hfl hwt hk
  | some g=>
   by_cases ha:g.age<age
   ·have hN:σ.handle x (some y) (.sub s age fl)=(σ.know x s (some ⟨age,fl,some y,[],0,false⟩)).spread x (some y) (.sub s age fl):=by simp[Net.handle,Net.learn,hk,ha]
    rw[hN];exact fS h hx hs6 hs hfl hwt hk ha
   ·have hN:σ.handle x (some y) (.sub s age fl)=σ.spread x (some y) (.sub s age fl):=by simp[Net.handle,Net.learn,hk,ha]
    rw[hN];exact gS h hx hs6 hs hfl hwt hk ha
 | unsub s age=>
  cases hf;have hs:s<8:=hC
  cases hk:σ.kn x s with
  | none=>
   have hN:σ.handle x (some y) (.unsub s age)=σ.spread x (some y) (.unsub s age):=by simp[Net.handle,Net.forget,hk]
   rw[hN];exact zO h hx hs6 hs hwt hk
  | some g=>
   by_cases ha:g.age≤age
   ·have hN:σ.handle x (some y) (.unsub s age)=(σ.know x s none).spread x (some y) (.unsub s age):=by simp[Net.handle,Net.forget,hk,ha]
    rw[hN];exact rP h hx hs6 hs hwt hk ha
   ·have hN:σ.handle x (some y) (.unsub s age)=σ.spread x (some y) (.unsub s age):=by simp[Net.handle,Net.forget,hk,ha]
    rw[hN];exact sP h hx hs6 hs hwt hk ha
 | event e=>
  cases hf;obtain⟨m,he,Wm,hm⟩:=hC
  exact dS h (fun wq t=>fA0 (h.calm t) (fr:=some y) hx hlen Wm hm he y x)
 | move s age fl old new=>
  obtain⟨fv,hfl,e⟩:=hf;cases e
  obtain⟨hs,hold⟩:=hC;obtain⟨fa,fc,rfl,_⟩:=id hfl;exact eS h (fun wq t=>movesG (h.calm t) T hx hs hy (hfl.still t (fun _ f=>f.elim)) hwt hold)
 | rest s evs mo new=>
  obtain⟨ev,hr,e⟩:=hf;cases e
  obtain⟨hs,hnew,hat⟩:=hC;obtain⟨ea,ec,rfl,_⟩:=uQ0 hr;by_cases e:x=new
  ·subst e;obtain⟨g,hk,hl,ht⟩:=hat rfl;have hN:σ.handle x (some y) (.rest s evs mo x)=(((σ.lose s mo).tells s evs).tells s g.kept).know x s (some {g with kept:=[],waits:=false}):=by simp[Net.handle,hk]
   rw[hN];obtain⟨c,k,hc,hkk,rfl⟩:∃c k,c<4∧k<2∧s=2*c+k:=⟨s/2,s%2,by omega,by omega,by omega⟩;rw[show (2*c+k)/2=c by omega] at hl;rw[show (2*c+k)/2=c by omega,show (2*c+k)%2=k by omega] at ht;exact uK h (fun wq t=>oJ0 (h.calm t) hx6 hc hkk (RowAt.still hr t (fun _ f=>f.elim)) hk hl ht)
  ·have hN:σ.handle x (some y) (.rest s evs mo new)=σ.push x (tB σ.par x new) (.rest s evs mo new):=by simp[Net.handle,e]
   rw[hN];exact uK h (fun wq t=>pJ0 (h.calm t) hx hs6 (RowAt.still hr t (fun _ f=>f.elim)) hwt hnew e T)
end Go.Proofs.YtodfcpblcpogiaaGreat

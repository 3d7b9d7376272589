import Derived.Test.YtodfcpblcpogiaaGreatSva
import Derived.Test.YtodfcpblcpogiaaGreatSt
import Derived.Test.YtodfcpblcpogiaaGreatSqa
namespace Go.Proofs.YtodfcpblcpogiaaGreat
open Go.RowKit
structure HanAt (w wr:World)(b:Nat)(ρ ρ':zA)(τ:Net)(cs:Array Value):Prop where
 net:RG wr b ρ' τ
 mv:Mv uB ρ ρ' w wr
 box:wr.heap[w.heap.size]?=some (.cells cs 133)
 non:ρ' w.heap.size=none
section
variable {w wr w4 : World} {b : Nat} {ρ ρ3 ρ4 : Nat → Option Role} {τ τ4 : Net} {cs : Array Value}
theorem HanAt.step (h:HanAt w wr b ρ ρ3 τ cs){S:Role→Prop}(m:Mv S ρ3 ρ4 wr w4)(hn:RG w4 b ρ4 τ4):HanAt w w4 b ρ ρ4 τ4 cs:=by
 have l0:=(tO0.1 h.box).1;exact⟨hn,h.mv.trans (m.mono (fun _ _=>trivial)),(m.touch.block _ l0 (fun ⟨r,e,_⟩=>by rw[h.non] at e;cases e)).trans h.box,m.noRole l0 h.non⟩
theorem HanAt.calm (h:HanAt w wr b ρ ρ3 τ cs)(t:qA wr w4):HanAt w w4 b ρ ρ3 τ cs:=h.step (S:=fun _=>False) (zQ0 h.net.lt t) (h.net.calm t)
theorem HanAt.new (h:RG w b ρ τ)(cs:Array Value):HanAt w (w.alloc (.cells cs 133)) b ρ ρ τ cs:=by
 have t:qA w (w.alloc (.cells cs 133)):=(cP0 _ _).alloc _;refine⟨h.calm t,zQ0 h.lt t,eP0 w _,?_⟩;cases hq:ρ w.heap.size with
 | none=>rfl
 | some r=>have:=h.lt w.heap.size (by rw[hq];simp);omega
end
theorem pN {w:World}{ρ:zA}{s:Nat}{age:Int}{fl:List Tst}{v:Value}(h:FlAt w ρ v fl)(a1 a2:Value)(h1:a1.oneCell'=true)(h2:a2.oneCell'=true):FrG w ρ (.sub s age fl) (.agg #[int 1,a1,a2,int s,int age,v,int 0,int 0,int 0,int 0,int 0,int 0,int 0,int 0,rA,int 0]):=
 ⟨_,_,_,_,_,_,_,_,_,_,_,_,_,_,_,_,rfl,h1,h2,fun _ _=>⟨v,h,rfl⟩⟩
theorem mM {w:World}{ρ:zA}(s:Nat)(age:Int)(a1 a2:Value)(h1:a1.oneCell'=true)(h2:a2.oneCell'=true):FrG w ρ (.unsub s age) (.agg #[int 2,a1,a2,int s,int age,rA,int 0,int 0,int 0,int 0,int 0,int 0,int 0,int 0,rA,int 0]):=
 ⟨_,_,_,_,_,_,_,_,_,_,_,_,_,_,_,_,rfl,h1,h2,fun _ _=>rfl⟩
set_option maxRecDepth 100000 in
set_option maxHeartbeats 4000000 in
theorem pQ {w:World}{b:Nat}{ρ:zA}{σ:Net}(h:RG w b ρ σ){x s y:Nat}{age a1 a2:Int}{fl:List Tst}{fv:Value}(hx:x<σ.n)(hs6:σ.n≤6)(hs:s<8)(hfl:FlAt w ρ fv fl)(hwt:σ.waiting<1000000000)(hk:σ.kn x s=none):
    Calls Tryz.prog 92 #[.pointer (some ⟨b,0,none⟩),int x,.agg #[int 1,int a1,int a2,int s,int age,fv,int 0,int 0,int 0,int 0,int 0,int 0,int 0,int 0,rA,int 0],int y] w fun r w'=>r=.returned (.tuple #[])∧∃ρ',RG w' b ρ' ((σ.know x s (some ⟨age,fl,some y,[],0,false⟩)).spread x (some y) (.sub s age fl))∧Mv uB ρ ρ' w w':=by
  have hx6:x<6:=sO0 hx hs6;obtain⟨fa,fc,rfl,_⟩:=id hfl;have hL0:=HanAt.new h #[int 1,int a1,int a2,int s,int age,(.slice fa fl.length fc),int 0,int 0,int 0,int 0,int 0,int 0,int 0,int 0,rA,int 0];obtain⟨W0,hW0⟩:∃W0,(w.alloc (.cells #[int 1,int a1,int a2,int s,int age,(.slice fa fl.length fc),int 0,int 0,int 0,int 0,int 0,int 0,int 0,int 0,rA,int 0] 133))=W0:=⟨_,rfl⟩;rw[hW0] at hL0;have t0:qA w W0:=by rw[←hW0];exact(cP0 _ _).alloc _
  have hfl0:=hfl.still t0 (fun _ f=>f.elim);obtain⟨τ,hτ⟩:∃τ,τ=σ.know x s (some ⟨age,fl,some y,[],0,false⟩):=⟨_,rfl⟩;have hτw:τ.waiting=σ.waiting:=by rw[hτ];rfl
  have hτn:τ.n=σ.n:=by rw[hτ];rfl
  rw[←hτ];have HC:=uA (hL0.net.noFact hk)
  have HL:Hid (∀wq,qA W0 wq→Calls Tryz.prog 42 #[.pointer (some ⟨b,0,none⟩),.agg #[int x,int s,int age,.slice fa fl.length fc,int y,rA,int 0,.bool false]] wq fun e w'=>e=.returned (.tuple #[])∧∃ρ3,HanAt w w' b ρ ρ3 τ #[int 1,int a1,int a2,int s,int age,(.slice fa fl.length fc),int 0,int 0,int 0,int 0,int 0,int 0,int 0,int 0,rA,int 0]∧FlAt w' ρ3 (.slice fa fl.length fc) fl):=uA (fun wq tq=>by
    have hq:=hL0.calm tq;have hf:=hfl0.still tq (fun _ f=>f.elim);refine(nK0 hq.net hx6 hs (f:=⟨age,fl,some y,[],0,false⟩) ⟨_,rA,hf,tQ0,rfl⟩).mono ?_;rintro e w' ⟨rfl,ρ3,k1,k2⟩
    rw[←hτ] at k1
    exact⟨rfl,ρ3,hq.step k2 k1,k2.fl hf (by simp)⟩)
  have HSP:Hid (∀w3 ρ3,HanAt w w3 b ρ ρ3 τ #[int 1,int a1,int a2,int s,int age,(.slice fa fl.length fc),int 0,int 0,int 0,int 0,int 0,int 0,int 0,int 0,rA,int 0]→FlAt w3 ρ3 (.slice fa fl.length fc) fl→Calls Tryz.prog 89 #[.pointer (some ⟨b,0,none⟩),.agg #[int 1,int a1,int a2,int s,int age,(.slice fa fl.length fc),int 0,int 0,int 0,int 0,int 0,int 0,int 0,int 0,rA,int 0],int x,int y] w3 fun e w'=>e=.returned (.tuple #[])∧∃ρ',RG w' b ρ' (τ.spread x (some y) (.sub s age fl))∧Mv uB ρ ρ' w w'):=uA (fun w3 ρ3 hq hf=>by
    refine(vG hq.net (by omega) (x:=x) (by omega) (some y) (pN hf (int a1) (int a2) rfl rfl) (by omega)).mono ?_;rintro e w' ⟨rfl,ρ',k1,k2⟩
    exact⟨rfl,ρ',k1,hq.mv.trans (k2.mono (fun _ _=>trivial))⟩)
  have d0:W0.cell? ⟨w.heap.size,0,none⟩=some (int 1):=xA hL0.box 0;have d1:W0.cell? ⟨w.heap.size,1,none⟩=some (int a1):=xA hL0.box 1;have d2:W0.cell? ⟨w.heap.size,2,none⟩=some (int a2):=xA hL0.box 2;have d3:W0.cell? ⟨w.heap.size,3,none⟩=some (int s):=xA hL0.box 3;have d4:W0.cell? ⟨w.heap.size,4,none⟩=some (int age):=xA hL0.box 4;have d5:W0.cell? ⟨w.heap.size,5,none⟩=some (.slice fa fl.length fc):=xA hL0.box 5;have d6:W0.cell? ⟨w.heap.size,6,none⟩=some (int 0):=xA hL0.box 6;have d7:W0.cell? ⟨w.heap.size,7,none⟩=some (int 0):=xA hL0.box 7;have d8:W0.cell? ⟨w.heap.size,8,none⟩=some (int 0):=xA hL0.box 8;have d9:W0.cell? ⟨w.heap.size,9,none⟩=some (int 0):=xA hL0.box 9;have d10:W0.cell? ⟨w.heap.size,10,none⟩=some (int 0):=xA hL0.box 10;have d11:W0.cell? ⟨w.heap.size,11,none⟩=some (int 0):=xA hL0.box 11;have d12:W0.cell? ⟨w.heap.size,12,none⟩=some (int 0):=xA hL0.box 12;have d13:W0.cell? ⟨w.heap.size,13,none⟩=some (int 0):=xA hL0.box 13;have d14:W0.cell? ⟨w.heap.size,14,none⟩=some (rA):=xA hL0.box 14;have d15:W0.cell? ⟨w.heap.size,15,none⟩=some (int 0):=xA hL0.box 15;have HW0:=uA hW0;have HL0:=uA hL0;have HF0:=uA hfl0;clear h hL0 t0 hW0 hτ hτw hτn hx hs6 hs hwt hk hfl hfl0;go_enter Tryz.func92,Tryz.ntmps92
  go_wp2_with (go_at_call 39;(try rw[yA HW0]);refine(yA HC).mono ?_;rintro e w1 ⟨rfl,hw1⟩;have hw1:=hw1.symm;subst hw1)
  go_region
  all_goals go_wp2_with (first
    | (go_at_call 42;refine(yA HL _ ((cP0 _ _).drew)).mono ?_;rintro e w3 ⟨rfl,ρ3,h3,hf3⟩
       have q0:w3.cell? ⟨w.heap.size,0,none⟩=some (int 1):=xA h3.box 0;have q1:w3.cell? ⟨w.heap.size,1,none⟩=some (int a1):=xA h3.box 1;have q2:w3.cell? ⟨w.heap.size,2,none⟩=some (int a2):=xA h3.box 2;have q3:w3.cell? ⟨w.heap.size,3,none⟩=some (int s):=xA h3.box 3;have q4:w3.cell? ⟨w.heap.size,4,none⟩=some (int age):=xA h3.box 4;have q5:w3.cell? ⟨w.heap.size,5,none⟩=some (.slice fa fl.length fc):=xA h3.box 5;have q6:w3.cell? ⟨w.heap.size,6,none⟩=some (int 0):=xA h3.box 6;have q7:w3.cell? ⟨w.heap.size,7,none⟩=some (int 0):=xA h3.box 7;have q8:w3.cell? ⟨w.heap.size,8,none⟩=some (int 0):=xA h3.box 8;have q9:w3.cell? ⟨w.heap.size,9,none⟩=some (int 0):=xA h3.box 9;have q10:w3.cell? ⟨w.heap.size,10,none⟩=some (int 0):=xA h3.box 10;have q11:w3.cell? ⟨w.heap.size,11,none⟩=some (int 0):=xA h3.box 11;have q12:w3.cell? ⟨w.heap.size,12,none⟩=some (int 0):=xA h3.box 12;have q13:w3.cell? ⟨w.heap.size,13,none⟩=some (int 0):=xA h3.box 13;have q14:w3.cell? ⟨w.heap.size,14,none⟩=some (rA):=xA h3.box 14;have q15:w3.cell? ⟨w.heap.size,15,none⟩=some (int 0):=xA h3.box 15;have H3:=uA h3;have HF3:=uA hf3
       clear h3 hf3)
    | (go_at_call 89;refine(yA HSP w3 ρ3 (yA H3) (yA HF3)).mono ?_;rintro e w4 ⟨rfl,ρ4,h4,m4⟩;have H4:=uA h4;have M4:=uA m4;clear h4 m4))
  all_goals go_end0
  all_goals exact⟨rfl,ρ4,yA H4,yA M4⟩
set_option maxRecDepth 100000 in
set_option maxHeartbeats 4000000 in
theorem fS {w:World}{b:Nat}{ρ:zA}{σ:Net}(h:RG w b ρ σ){x s y:Nat}{age a1 a2:Int}{fl:List Tst}{fv:Value}(hx:x<σ.n)(hs6:σ.n≤6)(hs:s<8)(hfl:FlAt w ρ fv fl)(hwt:σ.waiting<1000000000){f:Fact}(hk:σ.kn x s=some f)(hage:f.age<age):
    Calls Tryz.prog 92 #[.pointer (some ⟨b,0,none⟩),int x,.agg #[int 1,int a1,int a2,int s,int age,fv,int 0,int 0,int 0,int 0,int 0,int 0,int 0,int 0,rA,int 0],int y] w fun r w'=>r=.returned (.tuple #[])∧∃ρ',RG w' b ρ' ((σ.know x s (some ⟨age,fl,some y,[],0,false⟩)).spread x (some y) (.sub s age fl))∧Mv uB ρ ρ' w w':=by
  have hx6:x<6:=sO0 hx hs6;obtain⟨fa,fc,rfl,_⟩:=id hfl;have hL0:=HanAt.new h #[int 1,int a1,int a2,int s,int age,(.slice fa fl.length fc),int 0,int 0,int 0,int 0,int 0,int 0,int 0,int 0,rA,int 0];obtain⟨W0,hW0⟩:∃W0,(w.alloc (.cells #[int 1,int a1,int a2,int s,int age,(.slice fa fl.length fc),int 0,int 0,int 0,int 0,int 0,int 0,int 0,int 0,rA,int 0] 133))=W0:=⟨_,rfl⟩;rw[hW0] at hL0;have t0:qA w W0:=by rw[←hW0];exact(cP0 _ _).alloc _
  have hfl0:=hfl.still t0 (fun _ f=>f.elim);obtain⟨τ,hτ⟩:∃τ,τ=σ.know x s (some ⟨age,fl,some y,[],0,false⟩):=⟨_,rfl⟩;have hτw:τ.waiting=σ.waiting:=by rw[hτ];rfl
  have hτn:τ.n=σ.n:=by rw[hτ];rfl
  rw[←hτ];obtain⟨i,g,nn,cap,hFA0,_⟩:=h.factAt hk;have hFA:=hFA0.calm t0;obtain⟨b2,hin,hn48⟩:=hFA.row;obtain⟨_,_,_,_,_,_,c2,_,_,_,_,_⟩:=hFA.cells;have hiI:(i:Int)<nn:=by omega
  have HC:=uA hFA.call;obtain⟨A,hA⟩:∃A,A=f.age:=⟨_,rfl⟩;rw[←hA] at c2 hage
  have HL:Hid (∀wq,qA W0 wq→Calls Tryz.prog 42 #[.pointer (some ⟨b,0,none⟩),.agg #[int x,int s,int age,.slice fa fl.length fc,int y,rA,int 0,.bool false]] wq fun e w'=>e=.returned (.tuple #[])∧∃ρ3,HanAt w w' b ρ ρ3 τ #[int 1,int a1,int a2,int s,int age,(.slice fa fl.length fc),int 0,int 0,int 0,int 0,int 0,int 0,int 0,int 0,rA,int 0]∧FlAt w' ρ3 (.slice fa fl.length fc) fl):=uA (fun wq tq=>by
    have hq:=hL0.calm tq;have hf:=hfl0.still tq (fun _ f=>f.elim);refine(nK0 hq.net hx6 hs (f:=⟨age,fl,some y,[],0,false⟩) ⟨_,rA,hf,tQ0,rfl⟩).mono ?_;rintro e w' ⟨rfl,ρ3,k1,k2⟩
    rw[←hτ] at k1
    exact⟨rfl,ρ3,hq.step k2 k1,k2.fl hf (by simp)⟩)
  have HSP:Hid (∀w3 ρ3,HanAt w w3 b ρ ρ3 τ #[int 1,int a1,int a2,int s,int age,(.slice fa fl.length fc),int 0,int 0,int 0,int 0,int 0,int 0,int 0,int 0,rA,int 0]→FlAt w3 ρ3 (.slice fa fl.length fc) fl→Calls Tryz.prog 89 #[.pointer (some ⟨b,0,none⟩),.agg #[int 1,int a1,int a2,int s,int age,(.slice fa fl.length fc),int 0,int 0,int 0,int 0,int 0,int 0,int 0,int 0,rA,int 0],int x,int y] w3 fun e w'=>e=.returned (.tuple #[])∧∃ρ',RG w' b ρ' (τ.spread x (some y) (.sub s age fl))∧Mv uB ρ ρ' w w'):=uA (fun w3 ρ3 hq hf=>by
    refine(vG hq.net (by omega) (x:=x) (by omega) (some y) (pN hf (int a1) (int a2) rfl rfl) (by omega)).mono ?_;rintro e w' ⟨rfl,ρ',k1,k2⟩
    exact⟨rfl,ρ',k1,hq.mv.trans (k2.mono (fun _ _=>trivial))⟩)
  have d0:W0.cell? ⟨w.heap.size,0,none⟩=some (int 1):=xA hL0.box 0;have d1:W0.cell? ⟨w.heap.size,1,none⟩=some (int a1):=xA hL0.box 1;have d2:W0.cell? ⟨w.heap.size,2,none⟩=some (int a2):=xA hL0.box 2;have d3:W0.cell? ⟨w.heap.size,3,none⟩=some (int s):=xA hL0.box 3;have d4:W0.cell? ⟨w.heap.size,4,none⟩=some (int age):=xA hL0.box 4;have d5:W0.cell? ⟨w.heap.size,5,none⟩=some (.slice fa fl.length fc):=xA hL0.box 5;have d6:W0.cell? ⟨w.heap.size,6,none⟩=some (int 0):=xA hL0.box 6;have d7:W0.cell? ⟨w.heap.size,7,none⟩=some (int 0):=xA hL0.box 7;have d8:W0.cell? ⟨w.heap.size,8,none⟩=some (int 0):=xA hL0.box 8;have d9:W0.cell? ⟨w.heap.size,9,none⟩=some (int 0):=xA hL0.box 9;have d10:W0.cell? ⟨w.heap.size,10,none⟩=some (int 0):=xA hL0.box 10;have d11:W0.cell? ⟨w.heap.size,11,none⟩=some (int 0):=xA hL0.box 11;have d12:W0.cell? ⟨w.heap.size,12,none⟩=some (int 0):=xA hL0.box 12;have d13:W0.cell? ⟨w.heap.size,13,none⟩=some (int 0):=xA hL0.box 13;have d14:W0.cell? ⟨w.heap.size,14,none⟩=some (rA):=xA hL0.box 14;have d15:W0.cell? ⟨w.heap.size,15,none⟩=some (int 0):=xA hL0.box 15;have HW0:=uA hW0;have HL0:=uA hL0;have HF0:=uA hfl0;clear h hL0 t0 hW0 hτ hτw hτn hx hs6 hs hwt hk hfl hfl0 hFA0 hFA hA;go_enter Tryz.func92,Tryz.ntmps92
  go_wp2_with (go_at_call 39;(try rw[yA HW0]);refine(yA HC).mono ?_;rintro e w1 ⟨rfl,hw1⟩;have hw1:=hw1.symm;subst hw1)
  go_region_held3 (fun w'=>w'.cell? ⟨b,2,none⟩=some (.slice (some ⟨g,0,none⟩) nn cap)∧w'.cell? ⟨g,i*8+2,none⟩=some (int A)∧w'.cell? ⟨w.heap.size,4,none⟩=some (int age))
    (first
      | exact⟨b2,c2,d4⟩
      | go_keep)
    (fail)
  all_goals go_wp2_with (first
    | (go_at_call 42;refine(yA HL _ ((cP0 _ _).drew)).mono ?_;rintro e w3 ⟨rfl,ρ3,h3,hf3⟩
       have q0:w3.cell? ⟨w.heap.size,0,none⟩=some (int 1):=xA h3.box 0;have q1:w3.cell? ⟨w.heap.size,1,none⟩=some (int a1):=xA h3.box 1;have q2:w3.cell? ⟨w.heap.size,2,none⟩=some (int a2):=xA h3.box 2;have q3:w3.cell? ⟨w.heap.size,3,none⟩=some (int s):=xA h3.box 3;have q4:w3.cell? ⟨w.heap.size,4,none⟩=some (int age):=xA h3.box 4;have q5:w3.cell? ⟨w.heap.size,5,none⟩=some (.slice fa fl.length fc):=xA h3.box 5;have q6:w3.cell? ⟨w.heap.size,6,none⟩=some (int 0):=xA h3.box 6;have q7:w3.cell? ⟨w.heap.size,7,none⟩=some (int 0):=xA h3.box 7;have q8:w3.cell? ⟨w.heap.size,8,none⟩=some (int 0):=xA h3.box 8;have q9:w3.cell? ⟨w.heap.size,9,none⟩=some (int 0):=xA h3.box 9;have q10:w3.cell? ⟨w.heap.size,10,none⟩=some (int 0):=xA h3.box 10;have q11:w3.cell? ⟨w.heap.size,11,none⟩=some (int 0):=xA h3.box 11;have q12:w3.cell? ⟨w.heap.size,12,none⟩=some (int 0):=xA h3.box 12;have q13:w3.cell? ⟨w.heap.size,13,none⟩=some (int 0):=xA h3.box 13;have q14:w3.cell? ⟨w.heap.size,14,none⟩=some (rA):=xA h3.box 14;have q15:w3.cell? ⟨w.heap.size,15,none⟩=some (int 0):=xA h3.box 15;have H3:=uA h3;have HF3:=uA hf3
       clear h3 hf3)
    | (go_at_call 89;refine(yA HSP w3 ρ3 (yA H3) (yA HF3)).mono ?_;rintro e w4 ⟨rfl,ρ4,h4,m4⟩;have H4:=uA h4;have M4:=uA m4;clear h4 m4))
  all_goals go_end0
  all_goals exact⟨rfl,ρ4,yA H4,yA M4⟩
set_option maxRecDepth 100000 in
set_option maxHeartbeats 4000000 in
theorem gS {w:World}{b:Nat}{ρ:zA}{σ:Net}(h:RG w b ρ σ){x s y:Nat}{age a1 a2:Int}{fl:List Tst}{fv:Value}(hx:x<σ.n)(hs6:σ.n≤6)(_hs:s<8)(hfl:FlAt w ρ fv fl)(hwt:σ.waiting<1000000000){f:Fact}(hk:σ.kn x s=some f)(hage:¬f.age<age):
  Calls Tryz.prog 92 #[.pointer (some ⟨b,0,none⟩),int x,.agg #[int 1,int a1,int a2,int s,int age,fv,int 0,int 0,int 0,int 0,int 0,int 0,int 0,int 0,rA,int 0],int y] w fun r w'=>r=.returned (.tuple #[])∧∃ρ',RG w' b ρ' ((σ).spread x (some y) (.sub s age fl))∧Mv uB ρ ρ' w w':=by
 have hx6:x<6:=sO0 hx hs6;obtain⟨fa,fc,rfl,_⟩:=id hfl;have hL0:=HanAt.new h #[int 1,int a1,int a2,int s,int age,(.slice fa fl.length fc),int 0,int 0,int 0,int 0,int 0,int 0,int 0,int 0,rA,int 0];obtain⟨W0,hW0⟩:∃W0,(w.alloc (.cells #[int 1,int a1,int a2,int s,int age,(.slice fa fl.length fc),int 0,int 0,int 0,int 0,int 0,int 0,int 0,int 0,rA,int 0] 133))=W0:=⟨_,rfl⟩;rw[hW0] at hL0;have t0:qA w W0:=by rw[←hW0];exact(cP0 _ _).alloc _
 have hfl0:=hfl.still t0 (fun _ f=>f.elim);obtain⟨τ,hτ⟩:∃τ,τ=σ:=⟨_,rfl⟩;have hτw:τ.waiting=σ.waiting:=by rw[hτ]
 have hτn:τ.n=σ.n:=by rw[hτ]
 rw[←hτ];obtain⟨i,g,nn,cap,hFA0,_⟩:=h.factAt hk;have hFA:=hFA0.calm t0;obtain⟨b2,hin,hn48⟩:=hFA.row;obtain⟨_,_,_,_,_,_,c2,_,_,_,_,_⟩:=hFA.cells;have hiI:(i:Int)<nn:=by omega
 have HC:=uA hFA.call;obtain⟨A,hA⟩:∃A,A=f.age:=⟨_,rfl⟩;rw[←hA] at c2 hage
 have HSP:Hid (∀w3 ρ3,HanAt w w3 b ρ ρ3 τ #[int 1,int a1,int a2,int s,int age,(.slice fa fl.length fc),int 0,int 0,int 0,int 0,int 0,int 0,int 0,int 0,rA,int 0]→FlAt w3 ρ3 (.slice fa fl.length fc) fl→Calls Tryz.prog 89 #[.pointer (some ⟨b,0,none⟩),.agg #[int 1,int a1,int a2,int s,int age,(.slice fa fl.length fc),int 0,int 0,int 0,int 0,int 0,int 0,int 0,int 0,rA,int 0],int x,int y] w3 fun e w'=>e=.returned (.tuple #[])∧∃ρ',RG w' b ρ' (τ.spread x (some y) (.sub s age fl))∧Mv uB ρ ρ' w w'):=uA (fun w3 ρ3 hq hf=>by
  refine(vG hq.net (by omega) (x:=x) (by omega) (some y) (pN hf (int a1) (int a2) rfl rfl) (by omega)).mono ?_;rintro e w' ⟨rfl,ρ',k1,k2⟩
  exact⟨rfl,ρ',k1,hq.mv.trans (k2.mono (fun _ _=>trivial))⟩)
 have d0:W0.cell? ⟨w.heap.size,0,none⟩=some (int 1):=xA hL0.box 0;have d1:W0.cell? ⟨w.heap.size,1,none⟩=some (int a1):=xA hL0.box 1;have d2:W0.cell? ⟨w.heap.size,2,none⟩=some (int a2):=xA hL0.box 2;have d3:W0.cell? ⟨w.heap.size,3,none⟩=some (int s):=xA hL0.box 3;have d4:W0.cell? ⟨w.heap.size,4,none⟩=some (int age):=xA hL0.box 4;have d5:W0.cell? ⟨w.heap.size,5,none⟩=some (.slice fa fl.length fc):=xA hL0.box 5;have d6:W0.cell? ⟨w.heap.size,6,none⟩=some (int 0):=xA hL0.box 6;have d7:W0.cell? ⟨w.heap.size,7,none⟩=some (int 0):=xA hL0.box 7;have d8:W0.cell? ⟨w.heap.size,8,none⟩=some (int 0):=xA hL0.box 8;have d9:W0.cell? ⟨w.heap.size,9,none⟩=some (int 0):=xA hL0.box 9;have d10:W0.cell? ⟨w.heap.size,10,none⟩=some (int 0):=xA hL0.box 10;have d11:W0.cell? ⟨w.heap.size,11,none⟩=some (int 0):=xA hL0.box 11;have d12:W0.cell? ⟨w.heap.size,12,none⟩=some (int 0):=xA hL0.box 12;have d13:W0.cell? ⟨w.heap.size,13,none⟩=some (int 0):=xA hL0.box 13;have d14:W0.cell? ⟨w.heap.size,14,none⟩=some (rA):=xA hL0.box 14;have d15:W0.cell? ⟨w.heap.size,15,none⟩=some (int 0):=xA hL0.box 15;have HW0:=uA hW0;have HL0:=uA hL0;have HF0:=uA hfl0;have HTE:=uA hτ;clear h hL0 t0 hW0 hτ hτw hτn hx hs6 _hs hwt hk hfl hfl0 hFA0 hFA hA;go_enter Tryz.func92,Tryz.ntmps92
 go_wp2_with (go_at_call 39;(try rw[yA HW0]);refine(yA HC).mono ?_;rintro e w1 ⟨rfl,hw1⟩;have hw1:=hw1.symm;subst hw1)
 go_region_held3 (fun w'=>w'.cell? ⟨b,2,none⟩=some (.slice (some ⟨g,0,none⟩) nn cap)∧w'.cell? ⟨g,i*8+2,none⟩=some (int A)∧w'.cell? ⟨w.heap.size,4,none⟩=some (int age))
  (first
   | exact⟨b2,c2,d4⟩
   | go_keep)
  (fail)
 all_goals go_wp2_with (go_at_call 89;refine(yA HSP _ ρ (show HanAt w _ b ρ ρ τ _ from by rw[yA HTE];exact(yA HL0).calm ((cP0 (fun _=>False) W0).drew)) ((yA HF0).still ((cP0 (fun _=>False) W0).drew) (fun _ f=>f.elim))).mono ?_;rintro e w4 ⟨rfl,ρ4,h4,m4⟩;have H4:=uA h4;have M4:=uA m4;clear h4 m4)
 all_goals go_end0
 all_goals exact⟨rfl,ρ4,yA H4,yA M4⟩
set_option maxRecDepth 100000 in
set_option maxHeartbeats 4000000 in
theorem zO {w:World}{b:Nat}{ρ:zA}{σ:Net}(h:RG w b ρ σ){x s y:Nat}{age a1 a2:Int}(hx:x<σ.n)(hs6:σ.n≤6)(_hs:s<8)(hwt:σ.waiting<1000000000)(hk:σ.kn x s=none):
  Calls Tryz.prog 92 #[.pointer (some ⟨b,0,none⟩),int x,.agg #[int 2,int a1,int a2,int s,int age,rA,int 0,int 0,int 0,int 0,int 0,int 0,int 0,int 0,rA,int 0],int y] w fun r w'=>r=.returned (.tuple #[])∧∃ρ',RG w' b ρ' ((σ).spread x (some y) (.unsub s age))∧Mv uB ρ ρ' w w':=by
 have hx6:x<6:=sO0 hx hs6;have hL0:=HanAt.new h #[int 2,int a1,int a2,int s,int age,rA,int 0,int 0,int 0,int 0,int 0,int 0,int 0,int 0,rA,int 0];obtain⟨W0,hW0⟩:∃W0,(w.alloc (.cells #[int 2,int a1,int a2,int s,int age,rA,int 0,int 0,int 0,int 0,int 0,int 0,int 0,int 0,rA,int 0] 133))=W0:=⟨_,rfl⟩;rw[hW0] at hL0;have t0:qA w W0:=by rw[←hW0];exact(cP0 _ _).alloc _
 obtain⟨τ,hτ⟩:∃τ,τ=σ:=⟨_,rfl⟩;have hτw:τ.waiting=σ.waiting:=by rw[hτ]
 have hτn:τ.n=σ.n:=by rw[hτ]
 rw[←hτ];have HC:=uA (hL0.net.noFact hk)
 have HSP:Hid (∀w3 ρ3,HanAt w w3 b ρ ρ3 τ #[int 2,int a1,int a2,int s,int age,rA,int 0,int 0,int 0,int 0,int 0,int 0,int 0,int 0,rA,int 0]→Calls Tryz.prog 89 #[.pointer (some ⟨b,0,none⟩),.agg #[int 2,int a1,int a2,int s,int age,rA,int 0,int 0,int 0,int 0,int 0,int 0,int 0,int 0,rA,int 0],int x,int y] w3 fun e w'=>e=.returned (.tuple #[])∧∃ρ',RG w' b ρ' (τ.spread x (some y) (.unsub s age))∧Mv uB ρ ρ' w w'):=uA (fun w3 ρ3 hq=>by
  refine(vG hq.net (by omega) (x:=x) (by omega) (some y) (mM s age (int a1) (int a2) rfl rfl) (by omega)).mono ?_;rintro e w' ⟨rfl,ρ',k1,k2⟩
  exact⟨rfl,ρ',k1,hq.mv.trans (k2.mono (fun _ _=>trivial))⟩)
 have d0:W0.cell? ⟨w.heap.size,0,none⟩=some (int 2):=xA hL0.box 0;have d1:W0.cell? ⟨w.heap.size,1,none⟩=some (int a1):=xA hL0.box 1;have d2:W0.cell? ⟨w.heap.size,2,none⟩=some (int a2):=xA hL0.box 2;have d3:W0.cell? ⟨w.heap.size,3,none⟩=some (int s):=xA hL0.box 3;have d4:W0.cell? ⟨w.heap.size,4,none⟩=some (int age):=xA hL0.box 4;have d5:W0.cell? ⟨w.heap.size,5,none⟩=some (rA):=xA hL0.box 5;have d6:W0.cell? ⟨w.heap.size,6,none⟩=some (int 0):=xA hL0.box 6;have d7:W0.cell? ⟨w.heap.size,7,none⟩=some (int 0):=xA hL0.box 7;have d8:W0.cell? ⟨w.heap.size,8,none⟩=some (int 0):=xA hL0.box 8;have d9:W0.cell? ⟨w.heap.size,9,none⟩=some (int 0):=xA hL0.box 9;have d10:W0.cell? ⟨w.heap.size,10,none⟩=some (int 0):=xA hL0.box 10;have d11:W0.cell? ⟨w.heap.size,11,none⟩=some (int 0):=xA hL0.box 11;have d12:W0.cell? ⟨w.heap.size,12,none⟩=some (int 0):=xA hL0.box 12;have d13:W0.cell? ⟨w.heap.size,13,none⟩=some (int 0):=xA hL0.box 13;have d14:W0.cell? ⟨w.heap.size,14,none⟩=some (rA):=xA hL0.box 14;have d15:W0.cell? ⟨w.heap.size,15,none⟩=some (int 0):=xA hL0.box 15;have HW0:=uA hW0;have HL0:=uA hL0;have HTE:=uA hτ;clear h hL0 t0 hW0 hτ hτw hτn hx hs6 _hs hwt hk;go_enter Tryz.func92,Tryz.ntmps92
 go_wp2_with (go_at_call 39;(try rw[yA HW0]);refine(yA HC).mono ?_;rintro e w1 ⟨rfl,hw1⟩;have hw1:=hw1.symm;subst hw1)
 go_region
 all_goals go_wp2_with (go_at_call 89;refine(yA HSP _ ρ (show HanAt w _ b ρ ρ τ _ from by rw[yA HTE];exact(yA HL0).calm ((cP0 (fun _=>False) W0).drew))).mono ?_;rintro e w4 ⟨rfl,ρ4,h4,m4⟩;have H4:=uA h4;have M4:=uA m4;clear h4 m4)
 all_goals go_end0
 all_goals exact⟨rfl,ρ4,yA H4,yA M4⟩
set_option maxRecDepth 100000 in
set_option maxHeartbeats 4000000 in
theorem rP {w:World}{b:Nat}{ρ:zA}{σ:Net}(h:RG w b ρ σ){x s y:Nat}{age a1 a2:Int}(hx:x<σ.n)(hs6:σ.n≤6)(_hs:s<8)(hwt:σ.waiting<1000000000){f:Fact}(hk:σ.kn x s=some f)(hage:f.age≤age):
    Calls Tryz.prog 92 #[.pointer (some ⟨b,0,none⟩),int x,.agg #[int 2,int a1,int a2,int s,int age,rA,int 0,int 0,int 0,int 0,int 0,int 0,int 0,int 0,rA,int 0],int y] w fun r w'=>r=.returned (.tuple #[])∧∃ρ',RG w' b ρ' ((σ.know x s none).spread x (some y) (.unsub s age))∧Mv uB ρ ρ' w w':=by
  have hx6:x<6:=sO0 hx hs6;have hL0:=HanAt.new h #[int 2,int a1,int a2,int s,int age,rA,int 0,int 0,int 0,int 0,int 0,int 0,int 0,int 0,rA,int 0];obtain⟨W0,hW0⟩:∃W0,(w.alloc (.cells #[int 2,int a1,int a2,int s,int age,rA,int 0,int 0,int 0,int 0,int 0,int 0,int 0,int 0,rA,int 0] 133))=W0:=⟨_,rfl⟩;rw[hW0] at hL0;have t0:qA w W0:=by rw[←hW0];exact(cP0 _ _).alloc _
  obtain⟨τ,hτ⟩:∃τ,τ=σ.know x s none:=⟨_,rfl⟩;have hτw:τ.waiting=σ.waiting:=by rw[hτ];rfl
  have hτn:τ.n=σ.n:=by rw[hτ];rfl
  rw[←hτ];obtain⟨i,g,nn,cap,hFA0,_⟩:=h.factAt hk;have hFA:=hFA0.calm t0;obtain⟨b2,hin,hn48⟩:=hFA.row;obtain⟨_,_,_,_,_,_,c2,_,_,_,_,_⟩:=hFA.cells;have hiI:(i:Int)<nn:=by omega
  have HC:=uA hFA.call;obtain⟨A,hA⟩:∃A,A=f.age:=⟨_,rfl⟩;rw[←hA] at c2 hage
  have HL:Hid (∀wq,qA W0 wq→Calls Tryz.prog 76 #[.pointer (some ⟨b,0,none⟩),int x,int s] wq fun e w'=>e=.returned (.tuple #[])∧∃ρ3,HanAt w w' b ρ ρ3 τ #[int 2,int a1,int a2,int s,int age,rA,int 0,int 0,int 0,int 0,int 0,int 0,int 0,int 0,rA,int 0]):=uA (fun wq tq=>by
    have hq:=hL0.calm tq;refine(vF0 hq.net x s).mono ?_;rintro e w' ⟨rfl,ρ3,k1,k2⟩
    rw[←hτ] at k1
    exact⟨rfl,ρ3,hq.step k2 k1⟩)
  have HSP:Hid (∀w3 ρ3,HanAt w w3 b ρ ρ3 τ #[int 2,int a1,int a2,int s,int age,rA,int 0,int 0,int 0,int 0,int 0,int 0,int 0,int 0,rA,int 0]→Calls Tryz.prog 89 #[.pointer (some ⟨b,0,none⟩),.agg #[int 2,int a1,int a2,int s,int age,rA,int 0,int 0,int 0,int 0,int 0,int 0,int 0,int 0,rA,int 0],int x,int y] w3 fun e w'=>e=.returned (.tuple #[])∧∃ρ',RG w' b ρ' (τ.spread x (some y) (.unsub s age))∧Mv uB ρ ρ' w w'):=uA (fun w3 ρ3 hq=>by
    refine(vG hq.net (by omega) (x:=x) (by omega) (some y) (mM s age (int a1) (int a2) rfl rfl) (by omega)).mono ?_;rintro e w' ⟨rfl,ρ',k1,k2⟩
    exact⟨rfl,ρ',k1,hq.mv.trans (k2.mono (fun _ _=>trivial))⟩)
  have d0:W0.cell? ⟨w.heap.size,0,none⟩=some (int 2):=xA hL0.box 0;have d1:W0.cell? ⟨w.heap.size,1,none⟩=some (int a1):=xA hL0.box 1;have d2:W0.cell? ⟨w.heap.size,2,none⟩=some (int a2):=xA hL0.box 2;have d3:W0.cell? ⟨w.heap.size,3,none⟩=some (int s):=xA hL0.box 3;have d4:W0.cell? ⟨w.heap.size,4,none⟩=some (int age):=xA hL0.box 4;have d5:W0.cell? ⟨w.heap.size,5,none⟩=some (rA):=xA hL0.box 5;have d6:W0.cell? ⟨w.heap.size,6,none⟩=some (int 0):=xA hL0.box 6;have d7:W0.cell? ⟨w.heap.size,7,none⟩=some (int 0):=xA hL0.box 7;have d8:W0.cell? ⟨w.heap.size,8,none⟩=some (int 0):=xA hL0.box 8;have d9:W0.cell? ⟨w.heap.size,9,none⟩=some (int 0):=xA hL0.box 9;have d10:W0.cell? ⟨w.heap.size,10,none⟩=some (int 0):=xA hL0.box 10;have d11:W0.cell? ⟨w.heap.size,11,none⟩=some (int 0):=xA hL0.box 11;have d12:W0.cell? ⟨w.heap.size,12,none⟩=some (int 0):=xA hL0.box 12;have d13:W0.cell? ⟨w.heap.size,13,none⟩=some (int 0):=xA hL0.box 13;have d14:W0.cell? ⟨w.heap.size,14,none⟩=some (rA):=xA hL0.box 14;have d15:W0.cell? ⟨w.heap.size,15,none⟩=some (int 0):=xA hL0.box 15;have HW0:=uA hW0;have HL0:=uA hL0;clear h hL0 t0 hW0 hτ hτw hτn hx hs6 _hs hwt hk hFA0 hFA hA;go_enter Tryz.func92,Tryz.ntmps92
  go_wp2_with (go_at_call 39;(try rw[yA HW0]);refine(yA HC).mono ?_;rintro e w1 ⟨rfl,hw1⟩;have hw1:=hw1.symm;subst hw1)
  go_region_held3 (fun w'=>w'.cell? ⟨b,2,none⟩=some (.slice (some ⟨g,0,none⟩) nn cap)∧w'.cell? ⟨g,i*8+2,none⟩=some (int A)∧w'.cell? ⟨w.heap.size,4,none⟩=some (int age))
    (first
      | exact⟨b2,c2,d4⟩
      | go_keep)
    (fail)
  all_goals go_wp2_with (first
    | (go_at_call 76;refine(yA HL _ ((cP0 _ _).drew)).mono ?_;rintro e w3 ⟨rfl,ρ3,h3⟩
       have q0:w3.cell? ⟨w.heap.size,0,none⟩=some (int 2):=xA h3.box 0;have q1:w3.cell? ⟨w.heap.size,1,none⟩=some (int a1):=xA h3.box 1;have q2:w3.cell? ⟨w.heap.size,2,none⟩=some (int a2):=xA h3.box 2;have q3:w3.cell? ⟨w.heap.size,3,none⟩=some (int s):=xA h3.box 3;have q4:w3.cell? ⟨w.heap.size,4,none⟩=some (int age):=xA h3.box 4;have q5:w3.cell? ⟨w.heap.size,5,none⟩=some (rA):=xA h3.box 5;have q6:w3.cell? ⟨w.heap.size,6,none⟩=some (int 0):=xA h3.box 6;have q7:w3.cell? ⟨w.heap.size,7,none⟩=some (int 0):=xA h3.box 7;have q8:w3.cell? ⟨w.heap.size,8,none⟩=some (int 0):=xA h3.box 8;have q9:w3.cell? ⟨w.heap.size,9,none⟩=some (int 0):=xA h3.box 9;have q10:w3.cell? ⟨w.heap.size,10,none⟩=some (int 0):=xA h3.box 10;have q11:w3.cell? ⟨w.heap.size,11,none⟩=some (int 0):=xA h3.box 11;have q12:w3.cell? ⟨w.heap.size,12,none⟩=some (int 0):=xA h3.box 12;have q13:w3.cell? ⟨w.heap.size,13,none⟩=some (int 0):=xA h3.box 13;have q14:w3.cell? ⟨w.heap.size,14,none⟩=some (rA):=xA h3.box 14;have q15:w3.cell? ⟨w.heap.size,15,none⟩=some (int 0):=xA h3.box 15;have H3:=uA h3
       clear h3)
    | (go_at_call 89;refine(yA HSP w3 ρ3 (yA H3)).mono ?_;rintro e w4 ⟨rfl,ρ4,h4,m4⟩;have H4:=uA h4;have M4:=uA m4;clear h4 m4))
  all_goals go_end0
  all_goals exact⟨rfl,ρ4,yA H4,yA M4⟩
set_option maxRecDepth 100000 in
set_option maxHeartbeats 4000000 in
theorem sP {w:World}{b:Nat}{ρ:zA}{σ:Net}(h:RG w b ρ σ){x s y:Nat}{age a1 a2:Int}(hx:x<σ.n)(hs6:σ.n≤6)(_hs:s<8)(hwt:σ.waiting<1000000000){f:Fact}(hk:σ.kn x s=some f)(hage:¬f.age≤age):
  Calls Tryz.prog 92 #[.pointer (some ⟨b,0,none⟩),int x,.agg #[int 2,int a1,int a2,int s,int age,rA,int 0,int 0,int 0,int 0,int 0,int 0,int 0,int 0,rA,int 0],int y] w fun r w'=>r=.returned (.tuple #[])∧∃ρ',RG w' b ρ' ((σ).spread x (some y) (.unsub s age))∧Mv uB ρ ρ' w w':=by
 have hx6:x<6:=sO0 hx hs6;have hL0:=HanAt.new h #[int 2,int a1,int a2,int s,int age,rA,int 0,int 0,int 0,int 0,int 0,int 0,int 0,int 0,rA,int 0];obtain⟨W0,hW0⟩:∃W0,(w.alloc (.cells #[int 2,int a1,int a2,int s,int age,rA,int 0,int 0,int 0,int 0,int 0,int 0,int 0,int 0,rA,int 0] 133))=W0:=⟨_,rfl⟩;rw[hW0] at hL0;have t0:qA w W0:=by rw[←hW0];exact(cP0 _ _).alloc _
 obtain⟨τ,hτ⟩:∃τ,τ=σ:=⟨_,rfl⟩;have hτw:τ.waiting=σ.waiting:=by rw[hτ]
 have hτn:τ.n=σ.n:=by rw[hτ]
 rw[←hτ];obtain⟨i,g,nn,cap,hFA0,_⟩:=h.factAt hk;have hFA:=hFA0.calm t0;obtain⟨b2,hin,hn48⟩:=hFA.row;obtain⟨_,_,_,_,_,_,c2,_,_,_,_,_⟩:=hFA.cells;have hiI:(i:Int)<nn:=by omega
 have HC:=uA hFA.call;obtain⟨A,hA⟩:∃A,A=f.age:=⟨_,rfl⟩;rw[←hA] at c2 hage
 have HSP:Hid (∀w3 ρ3,HanAt w w3 b ρ ρ3 τ #[int 2,int a1,int a2,int s,int age,rA,int 0,int 0,int 0,int 0,int 0,int 0,int 0,int 0,rA,int 0]→Calls Tryz.prog 89 #[.pointer (some ⟨b,0,none⟩),.agg #[int 2,int a1,int a2,int s,int age,rA,int 0,int 0,int 0,int 0,int 0,int 0,int 0,int 0,rA,int 0],int x,int y] w3 fun e w'=>e=.returned (.tuple #[])∧∃ρ',RG w' b ρ' (τ.spread x (some y) (.unsub s age))∧Mv uB ρ ρ' w w'):=uA (fun w3 ρ3 hq=>by
  refine(vG hq.net (by omega) (x:=x) (by omega) (some y) (mM s age (int a1) (int a2) rfl rfl) (by omega)).mono ?_;rintro e w' ⟨rfl,ρ',k1,k2⟩
  exact⟨rfl,ρ',k1,hq.mv.trans (k2.mono (fun _ _=>trivial))⟩)
 have d0:W0.cell? ⟨w.heap.size,0,none⟩=some (int 2):=xA hL0.box 0;have d1:W0.cell? ⟨w.heap.size,1,none⟩=some (int a1):=xA hL0.box 1;have d2:W0.cell? ⟨w.heap.size,2,none⟩=some (int a2):=xA hL0.box 2;have d3:W0.cell? ⟨w.heap.size,3,none⟩=some (int s):=xA hL0.box 3;have d4:W0.cell? ⟨w.heap.size,4,none⟩=some (int age):=xA hL0.box 4;have d5:W0.cell? ⟨w.heap.size,5,none⟩=some (rA):=xA hL0.box 5;have d6:W0.cell? ⟨w.heap.size,6,none⟩=some (int 0):=xA hL0.box 6;have d7:W0.cell? ⟨w.heap.size,7,none⟩=some (int 0):=xA hL0.box 7;have d8:W0.cell? ⟨w.heap.size,8,none⟩=some (int 0):=xA hL0.box 8;have d9:W0.cell? ⟨w.heap.size,9,none⟩=some (int 0):=xA hL0.box 9;have d10:W0.cell? ⟨w.heap.size,10,none⟩=some (int 0):=xA hL0.box 10;have d11:W0.cell? ⟨w.heap.size,11,none⟩=some (int 0):=xA hL0.box 11;have d12:W0.cell? ⟨w.heap.size,12,none⟩=some (int 0):=xA hL0.box 12;have d13:W0.cell? ⟨w.heap.size,13,none⟩=some (int 0):=xA hL0.box 13;have d14:W0.cell? ⟨w.heap.size,14,none⟩=some (rA):=xA hL0.box 14;have d15:W0.cell? ⟨w.heap.size,15,none⟩=some (int 0):=xA hL0.box 15;have HW0:=uA hW0;have HL0:=uA hL0;have HTE:=uA hτ;clear h hL0 t0 hW0 hτ hτw hτn hx hs6 _hs hwt hk hFA0 hFA hA;go_enter Tryz.func92,Tryz.ntmps92
 go_wp2_with (go_at_call 39;(try rw[yA HW0]);refine(yA HC).mono ?_;rintro e w1 ⟨rfl,hw1⟩;have hw1:=hw1.symm;subst hw1)
 go_region_held3 (fun w'=>w'.cell? ⟨b,2,none⟩=some (.slice (some ⟨g,0,none⟩) nn cap)∧w'.cell? ⟨g,i*8+2,none⟩=some (int A)∧w'.cell? ⟨w.heap.size,4,none⟩=some (int age))
  (first
   | exact⟨b2,c2,d4⟩
   | go_keep)
  (fail)
 all_goals go_wp2_with (go_at_call 89;refine(yA HSP _ ρ (show HanAt w _ b ρ ρ τ _ from by rw[yA HTE];exact(yA HL0).calm ((cP0 (fun _=>False) W0).drew))).mono ?_;rintro e w4 ⟨rfl,ρ4,h4,m4⟩;have H4:=uA h4;have M4:=uA m4;clear h4 m4)
 all_goals go_end0
 all_goals exact⟨rfl,ρ4,yA H4,yA M4⟩
end Go.Proofs.YtodfcpblcpogiaaGreat

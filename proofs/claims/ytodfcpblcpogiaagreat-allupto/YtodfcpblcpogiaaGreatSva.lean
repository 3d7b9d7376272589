import Derived.Test.YtodfcpblcpogiaaGreatSta
namespace Go.Proofs.YtodfcpblcpogiaaGreat
open Go.RowKit
theorem FactAt.call {w:World}{b:Nat}{ρ:zA}{σ:Net}{x s i g n cap:Nat}{f:Fact}(h:FactAt w b ρ σ x s f i g n cap):Calls Tryz.prog 39 #[.pointer (some ⟨b,0,none⟩),int x,int s] w fun e w'=>e=.returned (int i)∧w'=w:=by
 obtain⟨R,css,h1,rfl,h3,h4,rfl,h6,h7,h8,h9⟩:=h;have hk:R.kn x s=some f:=by
  unfold RNet.kn;cases hf:R.fa.find? (KFa.on x s) with
  | none=>rw[List.find?_eq_none] at hf;exact absurd (hf _ (vP0 h4)) (by simp[KFa.on])
  | some k=>
   obtain⟨j,hj⟩:=List.getElem?_of_mem (List.mem_of_find?_eq_some hf);have hon:=List.find?_some hf;simp only[KFa.on,oP0] at hon;have:=Uniq.at h3.uniq h4 hj ⟨hon.1.symm,hon.2.symm⟩;subst this;rw[h4] at hj;cases hj;rfl
 obtain⟨i',k1,k2,k3⟩:=lS hk;have hi:=Uniq.at h3.uniq h4 k3 ⟨rfl,rfl⟩;subst hi;have:=qO b R.fa.length _ _ x s w h1.factHeads (by have:=h3.len;omega);rw[←k2];exact this
theorem yL {w:World}{b:Nat}{ρ:zA}{σ:Net}(h:RG w b ρ σ){x s:Nat}(hx:x<6)(hs:s<8){age:Int}{fl:List Tst}{way:Option Nat}{v3:Value}(hfl:FlAt w ρ v3 fl):
  Calls Tryz.prog 42 #[.pointer (some ⟨b,0,none⟩),.agg #[int x,int s,int age,v3,int (whr way),rA,int 0,.bool false]] w fun e w'=>e=.returned (.tuple #[])∧∃ρ',RG w' b ρ' (σ.know x s (some ⟨age,fl,way,[],0,false⟩))∧Mv (aE0 x s) ρ ρ' w w'∧∀l v,NewsRow w ρ (.kept x s) l v→NewsRow w' ρ' .rest l v:=by
 obtain⟨R,h1,rfl,h3⟩:=h;refine(oD0 h1 hfl (by have:=h3.len;omega)).mono ?_;rintro e w' ⟨rfl,ρ',k1,k2,k3⟩
 exact⟨rfl,ρ',⟨_,k1,uP x s _,h3.learn hx hs _⟩,k2,k3⟩
theorem fR {w:World}{ρ:zA}{s new:Nat}{evs:List News}{more:Int}{v:Value}(h:NewsRow w ρ .rest evs v)(a1 a2:Value)(h1:a1.oneCell'=true)(h2:a2.oneCell'=true):FrG w ρ (.rest s evs more new) (.agg #[int 5,a1,a2,int s,int 0,rA,int 0,int 0,int 0,int 0,int 0,int 0,int 0,int new,v,int more]):=
 ⟨_,_,_,_,_,_,_,_,_,_,_,_,_,_,_,_,rfl,h1,h2,fun _ _=>⟨v,h,rfl⟩⟩
theorem uS {w:World}{ρ:zA}{s old new:Nat}{age:Int}{fl:List Tst}{v:Value}(h:FlAt w ρ v fl)(a1 a2:Value)(h1:a1.oneCell'=true)(h2:a2.oneCell'=true):FrG w ρ (.move s age fl old new) (.agg #[int 4,a1,a2,int s,int age,v,int 0,int 0,int 0,int 0,int 0,int 0,int old,int new,rA,int 0]):=
 ⟨_,_,_,_,_,_,_,_,_,_,_,_,_,_,_,_,rfl,h1,h2,fun _ _=>⟨v,h,rfl⟩⟩
structure LrnAt (w w3:World)(b:Nat)(ρ ρ3:zA)(τ:Net)(cs0 cs1:Array Value):Prop where
 net:RG w3 b ρ3 τ
 mv:Mv uB ρ ρ3 w w3
 box:w3.heap[w.heap.size]?=some (.cells cs0 133)
 box1:w3.heap[w.heap.size+1]?=some (.cells cs1 133)
 non:ρ3 w.heap.size=none
 non1:ρ3 (w.heap.size+1)=none
section
variable {w w3 w4 : World} {b : Nat} {ρ ρ3 ρ4 : Nat → Option Role} {τ τ4 : Net} {cs0 cs1 : Array Value}
theorem LrnAt.step (h:LrnAt w w3 b ρ ρ3 τ cs0 cs1){S:Role→Prop}(m:Mv S ρ3 ρ4 w3 w4)(hn:RG w4 b ρ4 τ4):LrnAt w w4 b ρ ρ4 τ4 cs0 cs1:=by
 have l0:=(tO0.1 h.box).1;have l1:=(tO0.1 h.box1).1;exact⟨hn,h.mv.trans (m.mono (fun _ _=>trivial)),(m.touch.block _ l0 (fun ⟨r,e,_⟩=>by rw[h.non] at e;cases e)).trans h.box,(m.touch.block _ l1 (fun ⟨r,e,_⟩=>by rw[h.non1] at e;cases e)).trans h.box1,m.noRole l0 h.non,m.noRole l1 h.non1⟩
theorem LrnAt.calm (h:LrnAt w w3 b ρ ρ3 τ cs0 cs1)(t:qA w3 w4):LrnAt w w4 b ρ ρ3 τ cs0 cs1:=h.step (S:=uB) (zQ0 h.net.lt t) (h.net.calm t)
theorem LrnAt.new (h:RG w b ρ τ)(cs0 cs1:Array Value):LrnAt w ((w.alloc (.cells cs0 133)).alloc (.cells cs1 133)) b ρ ρ τ cs0 cs1:=by
 have hnon:∀i,w.heap.size≤i→ρ i=none:=fun i hi=>by
  cases hq:ρ i with
  | none=>rfl
  | some r=>have:=h.lt i (by rw[hq];simp);omega
 have t:qA w ((w.alloc (.cells cs0 133)).alloc (.cells cs1 133)):=((cP0 _ _).alloc _).alloc _;refine⟨h.calm t,zQ0 h.lt t,?_,?_,hnon _ (qO0 _),hnon _ (by omega)⟩
 ·rw[kP0 _ _ _ (by simp only[World.size_alloc];omega)];exact eP0 w _
 ·have:=eP0 (w.alloc (.cells cs0 133)) (.cells cs1 133);simpa using this
theorem LrnAt.set (h:LrnAt w w3 b ρ ρ3 τ cs0 cs1)(o:Nat)(v:Value):LrnAt w (w3.setCell ⟨w.heap.size+1,o,none⟩ v) b ρ ρ3 τ cs0 (cs1.setIfInBounds o v):=by
 have t:Touch (fun i=>i=w.heap.size+1) w3 (w3.setCell ⟨w.heap.size+1,o,none⟩ v):=(cP0 (fun i=>i=w.heap.size+1) w3).setCell (p:=⟨w.heap.size+1,o,none⟩) (fun _=>rfl) v;exact⟨h.net.still t (fun k e=>by subst e;exact h.non1),⟨⟨t.os.trans h.mv.touch.os,t.tape.trans h.mv.touch.tape,t.output.trans h.mv.touch.output,mO0 h.mv.touch.size t.size,fun i hi hs=>(t.block i (sO0 hi h.mv.touch.size) (by omega)).trans (h.mv.touch.block i hi hs)⟩,h.mv.role,fun i hi=>sO0 (h.mv.lt i hi) t.size⟩,(t.block _ (tO0.1 h.box).1 (by omega)).trans h.box,dP0 _ _ _ _ _ _ h.box1,h.non,h.non1⟩
end
set_option maxRecDepth 100000 in
set_option maxHeartbeats 4000000 in
theorem xS {w:World}{b:Nat}{ρ:zA}{σ:Net}(h:RG w b ρ σ){x s y new:Nat}{age a1 a2:Int}{fl:List Tst}{fv:Value}(hx:x<σ.n)(hs6:σ.n≤6)(hs:s<8)(hy:y<6)(hfl:FlAt w ρ fv fl)(hwt:σ.waiting<1000000000){f:Fact}(hk:σ.kn x s=some f):
    Calls Tryz.prog 115 #[.pointer (some ⟨b,0,none⟩),int x,.agg #[int 4,int a1,int a2,int s,int age,fv,int 0,int 0,int 0,int 0,int 0,int 0,int x,int new,rA,int 0],int y] w fun r w'=>r=.returned (.tuple #[])∧∃ρ',RG w' b ρ' ((σ.know x s (some ⟨age,fl,some y,[],0,false⟩)).push x y (.rest s f.kept f.more new))∧Mv uB ρ ρ' w w':=by
  have hx6:x<6:=sO0 hx hs6;obtain⟨fa,fc,rfl,_⟩:=id hfl;have hL0:=LrnAt.new h #[int 4,int a1,int a2,int s,int age,(.slice fa fl.length fc),int 0,int 0,int 0,int 0,int 0,int 0,int x,int new,rA,int 0] #[int 5,int 0,int 0,int s,int 0,rA,int 0,int 0,int 0,int 0,int 0,int 0,int 0,int new,rA,int 0];obtain⟨W0,hW0⟩:∃W0,((w.alloc (.cells #[int 4,int a1,int a2,int s,int age,(.slice fa fl.length fc),int 0,int 0,int 0,int 0,int 0,int 0,int x,int new,rA,int 0] 133)).alloc (.cells #[int 5,int 0,int 0,int s,int 0,rA,int 0,int 0,int 0,int 0,int 0,int 0,int 0,int new,rA,int 0] 133))=W0:=⟨_,rfl⟩;rw[hW0] at hL0;have t0:qA w W0:=by rw[←hW0];exact((cP0 _ _).alloc _).alloc _
  have hfl0:=hfl.still t0 (fun _ f=>f.elim);obtain⟨τ,hτ⟩:∃τ,τ=σ.know x s (some ⟨age,fl,some y,[],0,false⟩):=⟨_,rfl⟩;have hτw:τ.waiting=σ.waiting:=by rw[hτ];rfl
  have hτp:τ.par=σ.par:=by rw[hτ];rfl
  rw[←hτ];obtain⟨i,g,nn,cap,hFA0,_⟩:=h.factAt hk;have hFA:=hFA0.calm t0;obtain⟨b2,hin,hn48⟩:=hFA.row;obtain⟨_,kv,_,hkr,_,_,_,_,_,c5,c6,_⟩:=hFA.cells;obtain⟨ak,ck,rfl,_⟩:=uQ0 hkr;obtain⟨mo,hmo⟩:∃mo,mo=f.more:=⟨_,rfl⟩;rw[←hmo] at c6 ⊢;have hiI:(i:Int)<nn:=by omega
  have HC:=uA hFA.call;have hL1:=(hL0.set 14 (.slice ak f.kept.length ck)).set 15 (int mo);have hgn:g≠w.heap.size+1:=fun e=>by have:=hFA.role;rw[e,hL0.non1] at this;cases this
  have hbn:b≠w.heap.size+1:=fun e=>by have:=hL0.net.net;rw[e,hL0.non1] at this;cases this
  have t1:Touch (fun i=>i=w.heap.size+1) W0 ((W0.setCell ⟨w.heap.size+1,14,none⟩ (.slice ak f.kept.length ck)).setCell ⟨w.heap.size+1,15,none⟩ (int mo)):=((cP0 (fun i=>i=w.heap.size+1) W0).setCell (p:=⟨w.heap.size+1,14,none⟩) (fun _=>rfl) _).setCell (p:=⟨w.heap.size+1,15,none⟩) (fun _=>rfl) _;have hns:∀k,(k=w.heap.size+1)→ρ k=none:=fun k e=>by rw[e];exact hL0.non1
  have hfl1:=hfl0.still t1 hns;have hkr1:=RowAt.still hkr t1 hns
  have HL:Hid (Calls Tryz.prog 42 #[.pointer (some ⟨b,0,none⟩),.agg #[int x,int s,int age,.slice fa fl.length fc,int y,rA,int 0,.bool false]] ((W0.setCell ⟨w.heap.size+1,14,none⟩ (.slice ak f.kept.length ck)).setCell ⟨w.heap.size+1,15,none⟩ (int mo)) fun e w'=>e=.returned (.tuple #[])∧∃ρ3,LrnAt w w' b ρ ρ3 τ #[int 4,int a1,int a2,int s,int age,(.slice fa fl.length fc),int 0,int 0,int 0,int 0,int 0,int 0,int x,int new,rA,int 0] #[int 5,int 0,int 0,int s,int 0,rA,int 0,int 0,int 0,int 0,int 0,int 0,int 0,int new,(.slice ak f.kept.length ck),int mo]∧FlAt w' ρ3 (.slice fa fl.length fc) fl∧NewsRow w' ρ3 .rest f.kept (.slice ak f.kept.length ck)):=uA (by
    refine(yL hL1.net hx6 hs (age:=age) (way:=some y) hfl1).mono ?_;rintro e w' ⟨rfl,ρ3,k1,k2,k3⟩
    rw[←hτ] at k1
    refine⟨rfl,ρ3,hL1.step k2 k1,k2.fl hfl1 (by simp),k3 _ _ hkr1⟩)
  have d3:W0.cell? ⟨w.heap.size,3,none⟩=some (int s):=xA hL0.box 3;have d4:W0.cell? ⟨w.heap.size,4,none⟩=some (int age):=xA hL0.box 4;have d5:W0.cell? ⟨w.heap.size,5,none⟩=some (.slice fa fl.length fc):=xA hL0.box 5;have d12:W0.cell? ⟨w.heap.size,12,none⟩=some (int x):=xA hL0.box 12;have d13:W0.cell? ⟨w.heap.size,13,none⟩=some (int new):=xA hL0.box 13;have e14:W0.cell? ⟨w.heap.size+1,14,none⟩=some rA:=xA hL0.box1 14;have e15:W0.cell? ⟨w.heap.size+1,15,none⟩=some (int 0):=xA hL0.box1 15;have z14:W0.frozen? ⟨w.heap.size+1,14,none⟩=false:=bA hL0.box1 14;have z15:W0.frozen? ⟨w.heap.size+1,15,none⟩=false:=bA hL0.box1 15;have hgn':¬g=w.heap.size+1:=hgn;have hbn':¬b=w.heap.size+1:=hbn
  have HSD:Hid (∀w3 ρ3,LrnAt w w3 b ρ ρ3 τ #[int 4,int a1,int a2,int s,int age,(.slice fa fl.length fc),int 0,int 0,int 0,int 0,int 0,int 0,int x,int new,rA,int 0] #[int 5,int 0,int 0,int s,int 0,rA,int 0,int 0,int 0,int 0,int 0,int 0,int 0,int new,(.slice ak f.kept.length ck),int mo]→NewsRow w3 ρ3 .rest f.kept (.slice ak f.kept.length ck)→Calls Tryz.prog 43 #[.pointer (some ⟨b,0,none⟩),.agg #[int 5,int 0,int 0,int s,int 0,rA,int 0,int 0,int 0,int 0,int 0,int 0,int 0,int new,(.slice ak f.kept.length ck),int mo],int x,int y] w3 fun e w'=>e=.returned (.tuple #[])∧∃ρ',RG w' b ρ' (τ.push x y (.rest s f.kept mo new))∧Mv uB ρ ρ' w w'):=uA (fun w3 ρ3 hq hr=>by
    refine(pV hq.net hx6 hy (fR hr (int 0) (int 0) rfl rfl) (by omega)).mono ?_;rintro e w' ⟨rfl,ρ',k1,k2⟩
    exact⟨rfl,ρ',k1,hq.mv.trans (k2.mono (fun _ _=>trivial))⟩)
  have HW0:=uA hW0;clear h hfl hL0 hfl0 t0 hτ hτw hτp hx hs6 hs hwt hk hFA0 hFA hkr hL1 hgn hbn t1 hns hfl1 hkr1 hmo hW0;go_enter Tryz.func115,Tryz.ntmps115
  go_wp2_with (first
    | (go_at_call 39;(try rw[yA HW0]);refine(yA HC).mono ?_;rintro e w1 ⟨rfl,hw1⟩;have hw1:=hw1.symm;subst hw1)
    | (go_at_call 42;refine(yA HL).mono ?_;rintro e w3 ⟨rfl,ρ3,h3,hf3,hr3⟩
       have q0:w3.cell? ⟨w.heap.size+1,0,none⟩=some (int 5):=xA h3.box1 0;have q1:w3.cell? ⟨w.heap.size+1,1,none⟩=some (int 0):=xA h3.box1 1;have q2:w3.cell? ⟨w.heap.size+1,2,none⟩=some (int 0):=xA h3.box1 2;have q3:w3.cell? ⟨w.heap.size+1,3,none⟩=some (int s):=xA h3.box1 3;have q4:w3.cell? ⟨w.heap.size+1,4,none⟩=some (int 0):=xA h3.box1 4;have q5:w3.cell? ⟨w.heap.size+1,5,none⟩=some (rA):=xA h3.box1 5;have q6:w3.cell? ⟨w.heap.size+1,6,none⟩=some (int 0):=xA h3.box1 6;have q7:w3.cell? ⟨w.heap.size+1,7,none⟩=some (int 0):=xA h3.box1 7;have q8:w3.cell? ⟨w.heap.size+1,8,none⟩=some (int 0):=xA h3.box1 8;have q9:w3.cell? ⟨w.heap.size+1,9,none⟩=some (int 0):=xA h3.box1 9;have q10:w3.cell? ⟨w.heap.size+1,10,none⟩=some (int 0):=xA h3.box1 10;have q11:w3.cell? ⟨w.heap.size+1,11,none⟩=some (int 0):=xA h3.box1 11;have q12:w3.cell? ⟨w.heap.size+1,12,none⟩=some (int 0):=xA h3.box1 12;have q13:w3.cell? ⟨w.heap.size+1,13,none⟩=some (int new):=xA h3.box1 13;have q14:w3.cell? ⟨w.heap.size+1,14,none⟩=some ((.slice ak f.kept.length ck)):=xA h3.box1 14;have q15:w3.cell? ⟨w.heap.size+1,15,none⟩=some (int mo):=xA h3.box1 15;have q12':w3.cell? ⟨w.heap.size,12,none⟩=some (int x):=xA h3.box 12;have H3:=uA h3;have HF3:=uA hf3;have HR3:=uA hr3
       clear h3 hf3 hr3)
    | (go_at_call 43;refine(yA HSD w3 ρ3 (yA H3) (yA HR3)).mono ?_;rintro e w4 ⟨rfl,ρ4,h4,m4⟩;have H4:=uA h4;have M4:=uA m4;clear h4 m4))
  go_end0
  exact⟨rfl,ρ4,yA H4,yA M4⟩
set_option maxRecDepth 100000 in
set_option maxHeartbeats 4000000 in
theorem vS {w:World}{b:Nat}{ρ:zA}{σ:Net}(h:RG w b ρ σ){x s y new:Nat}{age a1 a2:Int}{fl:List Tst}{fv:Value}(hx:x<σ.n)(hs6:σ.n≤6)(hs:s<8)(hy:y<6)(hfl:FlAt w ρ fv fl)(hwt:σ.waiting<1000000000)(hk:σ.kn x s=none):
    Calls Tryz.prog 115 #[.pointer (some ⟨b,0,none⟩),int x,.agg #[int 4,int a1,int a2,int s,int age,fv,int 0,int 0,int 0,int 0,int 0,int 0,int x,int new,rA,int 0],int y] w fun r w'=>r=.returned (.tuple #[])∧∃ρ',RG w' b ρ' ((σ.know x s (some ⟨age,fl,some y,[],0,false⟩)).push x y (.rest s [] 0 new))∧Mv uB ρ ρ' w w':=by
  have hx6:x<6:=sO0 hx hs6;obtain⟨fa,fc,rfl,_⟩:=id hfl;have hL0:=LrnAt.new h #[int 4,int a1,int a2,int s,int age,(.slice fa fl.length fc),int 0,int 0,int 0,int 0,int 0,int 0,int x,int new,rA,int 0] #[int 5,int 0,int 0,int s,int 0,rA,int 0,int 0,int 0,int 0,int 0,int 0,int 0,int new,rA,int 0];obtain⟨W0,hW0⟩:∃W0,((w.alloc (.cells #[int 4,int a1,int a2,int s,int age,(.slice fa fl.length fc),int 0,int 0,int 0,int 0,int 0,int 0,int x,int new,rA,int 0] 133)).alloc (.cells #[int 5,int 0,int 0,int s,int 0,rA,int 0,int 0,int 0,int 0,int 0,int 0,int 0,int new,rA,int 0] 133))=W0:=⟨_,rfl⟩;rw[hW0] at hL0;have t0:qA w W0:=by rw[←hW0];exact((cP0 _ _).alloc _).alloc _
  have hfl0:=hfl.still t0 (fun _ f=>f.elim);obtain⟨τ,hτ⟩:∃τ,τ=σ.know x s (some ⟨age,fl,some y,[],0,false⟩):=⟨_,rfl⟩;have hτw:τ.waiting=σ.waiting:=by rw[hτ];rfl
  have hτp:τ.par=σ.par:=by rw[hτ];rfl
  rw[←hτ];have HC:=uA (hL0.net.noFact hk)
  have HL:Hid (Calls Tryz.prog 42 #[.pointer (some ⟨b,0,none⟩),.agg #[int x,int s,int age,.slice fa fl.length fc,int y,rA,int 0,.bool false]] W0 fun e w'=>e=.returned (.tuple #[])∧∃ρ3,LrnAt w w' b ρ ρ3 τ #[int 4,int a1,int a2,int s,int age,(.slice fa fl.length fc),int 0,int 0,int 0,int 0,int 0,int 0,int x,int new,rA,int 0] #[int 5,int 0,int 0,int s,int 0,rA,int 0,int 0,int 0,int 0,int 0,int 0,int 0,int new,rA,int 0]∧FlAt w' ρ3 (.slice fa fl.length fc) fl∧NewsRow w' ρ3 .rest [] (rA)):=uA (by
    refine(yL hL0.net hx6 hs (age:=age) (way:=some y) hfl0).mono ?_;rintro e w' ⟨rfl,ρ3,k1,k2,k3⟩
    rw[←hτ] at k1
    refine⟨rfl,ρ3,hL0.step k2 k1,k2.fl hfl0 (by simp),k3 _ _ (tQ0 (r:=.kept x s))⟩)
  have d3:W0.cell? ⟨w.heap.size,3,none⟩=some (int s):=xA hL0.box 3;have d4:W0.cell? ⟨w.heap.size,4,none⟩=some (int age):=xA hL0.box 4;have d5:W0.cell? ⟨w.heap.size,5,none⟩=some (.slice fa fl.length fc):=xA hL0.box 5;have d12:W0.cell? ⟨w.heap.size,12,none⟩=some (int x):=xA hL0.box 12;have d13:W0.cell? ⟨w.heap.size,13,none⟩=some (int new):=xA hL0.box 13;have e14:W0.cell? ⟨w.heap.size+1,14,none⟩=some rA:=xA hL0.box1 14;have e15:W0.cell? ⟨w.heap.size+1,15,none⟩=some (int 0):=xA hL0.box1 15;have z14:W0.frozen? ⟨w.heap.size+1,14,none⟩=false:=bA hL0.box1 14;have z15:W0.frozen? ⟨w.heap.size+1,15,none⟩=false:=bA hL0.box1 15
  have HSD:Hid (∀w3 ρ3,LrnAt w w3 b ρ ρ3 τ #[int 4,int a1,int a2,int s,int age,(.slice fa fl.length fc),int 0,int 0,int 0,int 0,int 0,int 0,int x,int new,rA,int 0] #[int 5,int 0,int 0,int s,int 0,rA,int 0,int 0,int 0,int 0,int 0,int 0,int 0,int new,rA,int 0]→NewsRow w3 ρ3 .rest [] (rA)→Calls Tryz.prog 43 #[.pointer (some ⟨b,0,none⟩),.agg #[int 5,int 0,int 0,int s,int 0,rA,int 0,int 0,int 0,int 0,int 0,int 0,int 0,int new,rA,int 0],int x,int y] w3 fun e w'=>e=.returned (.tuple #[])∧∃ρ',RG w' b ρ' (τ.push x y (.rest s [] 0 new))∧Mv uB ρ ρ' w w'):=uA (fun w3 ρ3 hq hr=>by
    refine(pV hq.net hx6 hy (fR hr (int 0) (int 0) rfl rfl) (by omega)).mono ?_;rintro e w' ⟨rfl,ρ',k1,k2⟩
    exact⟨rfl,ρ',k1,hq.mv.trans (k2.mono (fun _ _=>trivial))⟩)
  have HW0:=uA hW0;clear h hfl hL0 hfl0 t0 hτ hτw hτp hx hs6 hs hwt hk hW0;go_enter Tryz.func115,Tryz.ntmps115
  go_wp2_with (first
    | (go_at_call 39;(try rw[yA HW0]);refine(yA HC).mono ?_;rintro e w1 ⟨rfl,hw1⟩;have hw1:=hw1.symm;subst hw1)
    | (go_at_call 42;refine(yA HL).mono ?_;rintro e w3 ⟨rfl,ρ3,h3,hf3,hr3⟩
       have q0:w3.cell? ⟨w.heap.size+1,0,none⟩=some (int 5):=xA h3.box1 0;have q1:w3.cell? ⟨w.heap.size+1,1,none⟩=some (int 0):=xA h3.box1 1;have q2:w3.cell? ⟨w.heap.size+1,2,none⟩=some (int 0):=xA h3.box1 2;have q3:w3.cell? ⟨w.heap.size+1,3,none⟩=some (int s):=xA h3.box1 3;have q4:w3.cell? ⟨w.heap.size+1,4,none⟩=some (int 0):=xA h3.box1 4;have q5:w3.cell? ⟨w.heap.size+1,5,none⟩=some (rA):=xA h3.box1 5;have q6:w3.cell? ⟨w.heap.size+1,6,none⟩=some (int 0):=xA h3.box1 6;have q7:w3.cell? ⟨w.heap.size+1,7,none⟩=some (int 0):=xA h3.box1 7;have q8:w3.cell? ⟨w.heap.size+1,8,none⟩=some (int 0):=xA h3.box1 8;have q9:w3.cell? ⟨w.heap.size+1,9,none⟩=some (int 0):=xA h3.box1 9;have q10:w3.cell? ⟨w.heap.size+1,10,none⟩=some (int 0):=xA h3.box1 10;have q11:w3.cell? ⟨w.heap.size+1,11,none⟩=some (int 0):=xA h3.box1 11;have q12:w3.cell? ⟨w.heap.size+1,12,none⟩=some (int 0):=xA h3.box1 12;have q13:w3.cell? ⟨w.heap.size+1,13,none⟩=some (int new):=xA h3.box1 13;have q14:w3.cell? ⟨w.heap.size+1,14,none⟩=some (rA):=xA h3.box1 14;have q15:w3.cell? ⟨w.heap.size+1,15,none⟩=some (int 0):=xA h3.box1 15;have q12':w3.cell? ⟨w.heap.size,12,none⟩=some (int x):=xA h3.box 12;have H3:=uA h3;have HF3:=uA hf3;have HR3:=uA hr3
       clear h3 hf3 hr3)
    | (go_at_call 43;refine(yA HSD w3 ρ3 (yA H3) (yA HR3)).mono ?_;rintro e w4 ⟨rfl,ρ4,h4,m4⟩;have H4:=uA h4;have M4:=uA m4;clear h4 m4))
  go_end0
  exact⟨rfl,ρ4,yA H4,yA M4⟩
set_option maxRecDepth 100000 in
set_option maxHeartbeats 4000000 in
theorem sU {w:World}{b:Nat}{ρ:zA}{σ:Net}(h:RG w b ρ σ){x s y old new:Nat}{age a1 a2:Int}{fl:List Tst}{fv:Value}(hx:x<σ.n)(hs6:σ.n≤6)(hs:s<8)(_hy:y<6)(hfl:FlAt w ρ fv fl)(hwt:σ.waiting<1000000000)(hold:old<σ.n)(hne:x≠old)(T:Tree σ.par){f:Fact}(hk:σ.kn x s=some f):
    Calls Tryz.prog 115 #[.pointer (some ⟨b,0,none⟩),int x,.agg #[int 4,int a1,int a2,int s,int age,fv,int 0,int 0,int 0,int 0,int 0,int 0,int old,int new,rA,int 0],int y] w fun r w'=>r=.returned (.tuple #[])∧∃ρ',RG w' b ρ' ((σ.know x s (some ⟨age,fl,some y,[],0,false⟩)).push x (tB σ.par x old) (.move s age fl old new))∧Mv uB ρ ρ' w w':=by
  have hx6:x<6:=sO0 hx hs6;obtain⟨fa,fc,rfl,_⟩:=id hfl;have hL0:=LrnAt.new h #[int 4,int a1,int a2,int s,int age,(.slice fa fl.length fc),int 0,int 0,int 0,int 0,int 0,int 0,int old,int new,rA,int 0] #[int 5,int 0,int 0,int s,int 0,rA,int 0,int 0,int 0,int 0,int 0,int 0,int 0,int new,rA,int 0];obtain⟨W0,hW0⟩:∃W0,((w.alloc (.cells #[int 4,int a1,int a2,int s,int age,(.slice fa fl.length fc),int 0,int 0,int 0,int 0,int 0,int 0,int old,int new,rA,int 0] 133)).alloc (.cells #[int 5,int 0,int 0,int s,int 0,rA,int 0,int 0,int 0,int 0,int 0,int 0,int 0,int new,rA,int 0] 133))=W0:=⟨_,rfl⟩;rw[hW0] at hL0;have t0:qA w W0:=by rw[←hW0];exact((cP0 _ _).alloc _).alloc _
  have hfl0:=hfl.still t0 (fun _ f=>f.elim);obtain⟨τ,hτ⟩:∃τ,τ=σ.know x s (some ⟨age,fl,some y,[],0,false⟩):=⟨_,rfl⟩;have hτw:τ.waiting=σ.waiting:=by rw[hτ];rfl
  have hτp:τ.par=σ.par:=by rw[hτ];rfl
  rw[←hτ];obtain⟨i,g,nn,cap,hFA0,_⟩:=h.factAt hk;have hFA:=hFA0.calm t0;obtain⟨b2,hin,hn48⟩:=hFA.row;obtain⟨_,kv,_,hkr,_,_,_,_,_,c5,c6,_⟩:=hFA.cells;obtain⟨ak,ck,rfl,_⟩:=uQ0 hkr;obtain⟨mo,hmo⟩:∃mo,mo=f.more:=⟨_,rfl⟩;rw[←hmo] at c6;have hiI:(i:Int)<nn:=by omega
  have HC:=uA hFA.call;have hL1:=(hL0.set 14 (.slice ak f.kept.length ck)).set 15 (int mo);have hgn:g≠w.heap.size+1:=fun e=>by have:=hFA.role;rw[e,hL0.non1] at this;cases this
  have hbn:b≠w.heap.size+1:=fun e=>by have:=hL0.net.net;rw[e,hL0.non1] at this;cases this
  have t1:Touch (fun i=>i=w.heap.size+1) W0 ((W0.setCell ⟨w.heap.size+1,14,none⟩ (.slice ak f.kept.length ck)).setCell ⟨w.heap.size+1,15,none⟩ (int mo)):=((cP0 (fun i=>i=w.heap.size+1) W0).setCell (p:=⟨w.heap.size+1,14,none⟩) (fun _=>rfl) _).setCell (p:=⟨w.heap.size+1,15,none⟩) (fun _=>rfl) _;have hns:∀k,(k=w.heap.size+1)→ρ k=none:=fun k e=>by rw[e];exact hL0.non1
  have hfl1:=hfl0.still t1 hns;have hkr1:=RowAt.still hkr t1 hns
  have HL:Hid (Calls Tryz.prog 42 #[.pointer (some ⟨b,0,none⟩),.agg #[int x,int s,int age,.slice fa fl.length fc,int y,rA,int 0,.bool false]] ((W0.setCell ⟨w.heap.size+1,14,none⟩ (.slice ak f.kept.length ck)).setCell ⟨w.heap.size+1,15,none⟩ (int mo)) fun e w'=>e=.returned (.tuple #[])∧∃ρ3,LrnAt w w' b ρ ρ3 τ #[int 4,int a1,int a2,int s,int age,(.slice fa fl.length fc),int 0,int 0,int 0,int 0,int 0,int 0,int old,int new,rA,int 0] #[int 5,int 0,int 0,int s,int 0,rA,int 0,int 0,int 0,int 0,int 0,int 0,int 0,int new,(.slice ak f.kept.length ck),int mo]∧FlAt w' ρ3 (.slice fa fl.length fc) fl∧NewsRow w' ρ3 .rest f.kept (.slice ak f.kept.length ck)):=uA (by
    refine(yL hL1.net hx6 hs (age:=age) (way:=some y) hfl1).mono ?_;rintro e w' ⟨rfl,ρ3,k1,k2,k3⟩
    rw[←hτ] at k1
    refine⟨rfl,ρ3,hL1.step k2 k1,k2.fl hfl1 (by simp),k3 _ _ hkr1⟩)
  have d3:W0.cell? ⟨w.heap.size,3,none⟩=some (int s):=xA hL0.box 3;have d4:W0.cell? ⟨w.heap.size,4,none⟩=some (int age):=xA hL0.box 4;have d5:W0.cell? ⟨w.heap.size,5,none⟩=some (.slice fa fl.length fc):=xA hL0.box 5;have d12:W0.cell? ⟨w.heap.size,12,none⟩=some (int old):=xA hL0.box 12;have d13:W0.cell? ⟨w.heap.size,13,none⟩=some (int new):=xA hL0.box 13;have e14:W0.cell? ⟨w.heap.size+1,14,none⟩=some rA:=xA hL0.box1 14;have e15:W0.cell? ⟨w.heap.size+1,15,none⟩=some (int 0):=xA hL0.box1 15;have z14:W0.frozen? ⟨w.heap.size+1,14,none⟩=false:=bA hL0.box1 14;have z15:W0.frozen? ⟨w.heap.size+1,15,none⟩=false:=bA hL0.box1 15;have hgn':¬g=w.heap.size+1:=hgn;have hbn':¬b=w.heap.size+1:=hbn;have hneI:((x:Int) == (old:Int))=false:=by rw[vB];exact pP0 (by omega)
  have hnx:=cB T hx hold hne;have hnx6:tB σ.par x old<6:=sO0 hnx.2.1 hs6
  have HSD:Hid (∀w3 ρ3,LrnAt w w3 b ρ ρ3 τ #[int 4,int a1,int a2,int s,int age,(.slice fa fl.length fc),int 0,int 0,int 0,int 0,int 0,int 0,int old,int new,rA,int 0] #[int 5,int 0,int 0,int s,int 0,rA,int 0,int 0,int 0,int 0,int 0,int 0,int 0,int new,(.slice ak f.kept.length ck),int mo]→FlAt w3 ρ3 (.slice fa fl.length fc) fl→Calls Tryz.prog 43 #[.pointer (some ⟨b,0,none⟩),.agg #[int 4,int a1,int a2,int s,int age,(.slice fa fl.length fc),int 0,int 0,int 0,int 0,int 0,int 0,int old,int new,rA,int 0],int x,int (tB σ.par x old)] w3 fun e w'=>e=.returned (.tuple #[])∧∃ρ',LrnAt w w' b ρ ρ' (τ.push x (tB σ.par x old) (.move s age fl old new)) #[int 4,int a1,int a2,int s,int age,(.slice fa fl.length fc),int 0,int 0,int 0,int 0,int 0,int 0,int old,int new,rA,int 0] #[int 5,int 0,int 0,int s,int 0,rA,int 0,int 0,int 0,int 0,int 0,int 0,int 0,int new,(.slice ak f.kept.length ck),int mo]):=uA (fun w3 ρ3 hq hr=>by
    refine(pV hq.net hx6 hnx6 (uS hr (int a1) (int a2) rfl rfl) (by omega)).mono ?_;rintro e w' ⟨rfl,ρ',k1,k2⟩
    exact⟨rfl,ρ',hq.step k2 k1⟩)
  have HTW:Hid (∀w3 ρ3,LrnAt w w3 b ρ ρ3 τ #[int 4,int a1,int a2,int s,int age,(.slice fa fl.length fc),int 0,int 0,int 0,int 0,int 0,int 0,int old,int new,rA,int 0] #[int 5,int 0,int 0,int s,int 0,rA,int 0,int 0,int 0,int 0,int 0,int 0,int 0,int new,(.slice ak f.kept.length ck),int mo]→Calls Tryz.prog 44 #[.pointer (some ⟨b,0,none⟩),int x,int old] w3 fun e w'=>e=.returned (int (tB σ.par x old))∧qA w3 w'):=uA (fun w3 ρ3 hq=>by
    have hp:=hq.net.parsAt;rw[hτp] at hp
    exact rI b σ.par T x old hx hold hne w3 hp)
  obtain⟨N,hN⟩:∃N,N=tB σ.par x old:=⟨_,rfl⟩;rw[←hN] at HSD HTW ⊢;have HW0:=uA hW0;clear h hfl hL0 hfl0 t0 hτ hτw hτp hx hs6 hs hwt hk hFA0 hFA hkr hL1 hgn hbn t1 hns hfl1 hkr1 hmo hnx hN hW0;go_enter Tryz.func115,Tryz.ntmps115
  go_wp2_with (first
    | (go_at_call 39;(try rw[yA HW0]);refine(yA HC).mono ?_;rintro e w1 ⟨rfl,hw1⟩;have hw1:=hw1.symm;subst hw1)
    | (go_at_call 42;refine(yA HL).mono ?_;rintro e w3 ⟨rfl,ρ3,h3,hf3,hr3⟩
       have q0:w3.cell? ⟨w.heap.size,0,none⟩=some (int 4):=xA h3.box 0;have q1:w3.cell? ⟨w.heap.size,1,none⟩=some (int a1):=xA h3.box 1;have q2:w3.cell? ⟨w.heap.size,2,none⟩=some (int a2):=xA h3.box 2;have q3:w3.cell? ⟨w.heap.size,3,none⟩=some (int s):=xA h3.box 3;have q4:w3.cell? ⟨w.heap.size,4,none⟩=some (int age):=xA h3.box 4;have q5:w3.cell? ⟨w.heap.size,5,none⟩=some (.slice fa fl.length fc):=xA h3.box 5;have q6:w3.cell? ⟨w.heap.size,6,none⟩=some (int 0):=xA h3.box 6;have q7:w3.cell? ⟨w.heap.size,7,none⟩=some (int 0):=xA h3.box 7;have q8:w3.cell? ⟨w.heap.size,8,none⟩=some (int 0):=xA h3.box 8;have q9:w3.cell? ⟨w.heap.size,9,none⟩=some (int 0):=xA h3.box 9;have q10:w3.cell? ⟨w.heap.size,10,none⟩=some (int 0):=xA h3.box 10;have q11:w3.cell? ⟨w.heap.size,11,none⟩=some (int 0):=xA h3.box 11;have q12:w3.cell? ⟨w.heap.size,12,none⟩=some (int old):=xA h3.box 12;have q13:w3.cell? ⟨w.heap.size,13,none⟩=some (int new):=xA h3.box 13;have q14:w3.cell? ⟨w.heap.size,14,none⟩=some (rA):=xA h3.box 14;have q15:w3.cell? ⟨w.heap.size,15,none⟩=some (int 0):=xA h3.box 15;have H3:=uA h3;have HF3:=uA hf3;have HR3:=uA hr3
       clear h3 hf3 hr3))
  go_region_held3 (fun w'=>w'.cell? ⟨w.heap.size,0,none⟩=some (int 4)∧w'.cell? ⟨w.heap.size,1,none⟩=some (int a1)∧w'.cell? ⟨w.heap.size,2,none⟩=some (int a2)∧w'.cell? ⟨w.heap.size,3,none⟩=some (int s)∧w'.cell? ⟨w.heap.size,4,none⟩=some (int age)∧w'.cell? ⟨w.heap.size,5,none⟩=some (.slice fa fl.length fc)∧w'.cell? ⟨w.heap.size,6,none⟩=some (int 0)∧w'.cell? ⟨w.heap.size,7,none⟩=some (int 0)∧w'.cell? ⟨w.heap.size,8,none⟩=some (int 0)∧w'.cell? ⟨w.heap.size,9,none⟩=some (int 0)∧w'.cell? ⟨w.heap.size,10,none⟩=some (int 0)∧w'.cell? ⟨w.heap.size,11,none⟩=some (int 0)∧w'.cell? ⟨w.heap.size,12,none⟩=some (int old)∧w'.cell? ⟨w.heap.size,13,none⟩=some (int new)∧w'.cell? ⟨w.heap.size,14,none⟩=some (rA)∧w'.cell? ⟨w.heap.size,15,none⟩=some (int 0))
    (first
      | exact⟨q0,q1,q2,q3,q4,q5,q6,q7,q8,q9,q10,q11,q12,q13,q14,q15⟩
      | exact r4
      | exact r5
      | go_keep)
    (first
      | (go_at_call 44;refine(yA HTW w3.drew ρ3 ((yA H3).calm (cP0 _ _).drew)).mono ?_;rintro e w4 ⟨rfl,t4⟩
         have t5:qA w3 w4:=((cP0 (fun _=>False) w3).drew).calm t4;have hbx4:=((yA H3).calm t5).box;have r4:w4.cell? ⟨w.heap.size,0,none⟩=some (int 4)∧w4.cell? ⟨w.heap.size,1,none⟩=some (int a1)∧w4.cell? ⟨w.heap.size,2,none⟩=some (int a2)∧w4.cell? ⟨w.heap.size,3,none⟩=some (int s)∧w4.cell? ⟨w.heap.size,4,none⟩=some (int age)∧w4.cell? ⟨w.heap.size,5,none⟩=some (.slice fa fl.length fc)∧w4.cell? ⟨w.heap.size,6,none⟩=some (int 0)∧w4.cell? ⟨w.heap.size,7,none⟩=some (int 0)∧w4.cell? ⟨w.heap.size,8,none⟩=some (int 0)∧w4.cell? ⟨w.heap.size,9,none⟩=some (int 0)∧w4.cell? ⟨w.heap.size,10,none⟩=some (int 0)∧w4.cell? ⟨w.heap.size,11,none⟩=some (int 0)∧w4.cell? ⟨w.heap.size,12,none⟩=some (int old)∧w4.cell? ⟨w.heap.size,13,none⟩=some (int new)∧w4.cell? ⟨w.heap.size,14,none⟩=some (rA)∧w4.cell? ⟨w.heap.size,15,none⟩=some (int 0):=⟨xA hbx4 0,xA hbx4 1,xA hbx4 2,xA hbx4 3,xA hbx4 4,xA hbx4 5,xA hbx4 6,xA hbx4 7,xA hbx4 8,xA hbx4 9,xA hbx4 10,xA hbx4 11,xA hbx4 12,xA hbx4 13,xA hbx4 14,xA hbx4 15⟩;have HL4:=uA ((yA H3).calm t5);have HF4:=uA ((yA HF3).still t5 (fun _ f=>f.elim))
         clear t4 t5 hbx4)
      | (go_at_call 43;refine(yA HSD w4 ρ3 (yA HL4) (yA HF4)).mono ?_;rintro e w5 ⟨rfl,ρ5,h5⟩
         have hbx5:=h5.box;have r5:w5.cell? ⟨w.heap.size,0,none⟩=some (int 4)∧w5.cell? ⟨w.heap.size,1,none⟩=some (int a1)∧w5.cell? ⟨w.heap.size,2,none⟩=some (int a2)∧w5.cell? ⟨w.heap.size,3,none⟩=some (int s)∧w5.cell? ⟨w.heap.size,4,none⟩=some (int age)∧w5.cell? ⟨w.heap.size,5,none⟩=some (.slice fa fl.length fc)∧w5.cell? ⟨w.heap.size,6,none⟩=some (int 0)∧w5.cell? ⟨w.heap.size,7,none⟩=some (int 0)∧w5.cell? ⟨w.heap.size,8,none⟩=some (int 0)∧w5.cell? ⟨w.heap.size,9,none⟩=some (int 0)∧w5.cell? ⟨w.heap.size,10,none⟩=some (int 0)∧w5.cell? ⟨w.heap.size,11,none⟩=some (int 0)∧w5.cell? ⟨w.heap.size,12,none⟩=some (int old)∧w5.cell? ⟨w.heap.size,13,none⟩=some (int new)∧w5.cell? ⟨w.heap.size,14,none⟩=some (rA)∧w5.cell? ⟨w.heap.size,15,none⟩=some (int 0):=⟨xA hbx5 0,xA hbx5 1,xA hbx5 2,xA hbx5 3,xA hbx5 4,xA hbx5 5,xA hbx5 6,xA hbx5 7,xA hbx5 8,xA hbx5 9,xA hbx5 10,xA hbx5 11,xA hbx5 12,xA hbx5 13,xA hbx5 14,xA hbx5 15⟩;have H5:=uA h5
         clear h5 hbx5))
  all_goals go_wp2
  all_goals go_end0
  all_goals exact⟨rfl,ρ5,(yA H5).net,(yA H5).mv⟩
set_option maxRecDepth 100000 in
set_option maxHeartbeats 4000000 in
theorem rU {w:World}{b:Nat}{ρ:zA}{σ:Net}(h:RG w b ρ σ){x s y old new:Nat}{age a1 a2:Int}{fl:List Tst}{fv:Value}(hx:x<σ.n)(hs6:σ.n≤6)(hs:s<8)(_hy:y<6)(hfl:FlAt w ρ fv fl)(hwt:σ.waiting<1000000000)(hold:old<σ.n)(hne:x≠old)(T:Tree σ.par)(hk:σ.kn x s=none):
    Calls Tryz.prog 115 #[.pointer (some ⟨b,0,none⟩),int x,.agg #[int 4,int a1,int a2,int s,int age,fv,int 0,int 0,int 0,int 0,int 0,int 0,int old,int new,rA,int 0],int y] w fun r w'=>r=.returned (.tuple #[])∧∃ρ',RG w' b ρ' ((σ.know x s (some ⟨age,fl,some y,[],0,false⟩)).push x (tB σ.par x old) (.move s age fl old new))∧Mv uB ρ ρ' w w':=by
  have hx6:x<6:=sO0 hx hs6;obtain⟨fa,fc,rfl,_⟩:=id hfl;have hL0:=LrnAt.new h #[int 4,int a1,int a2,int s,int age,(.slice fa fl.length fc),int 0,int 0,int 0,int 0,int 0,int 0,int old,int new,rA,int 0] #[int 5,int 0,int 0,int s,int 0,rA,int 0,int 0,int 0,int 0,int 0,int 0,int 0,int new,rA,int 0];obtain⟨W0,hW0⟩:∃W0,((w.alloc (.cells #[int 4,int a1,int a2,int s,int age,(.slice fa fl.length fc),int 0,int 0,int 0,int 0,int 0,int 0,int old,int new,rA,int 0] 133)).alloc (.cells #[int 5,int 0,int 0,int s,int 0,rA,int 0,int 0,int 0,int 0,int 0,int 0,int 0,int new,rA,int 0] 133))=W0:=⟨_,rfl⟩;rw[hW0] at hL0;have t0:qA w W0:=by rw[←hW0];exact((cP0 _ _).alloc _).alloc _
  have hfl0:=hfl.still t0 (fun _ f=>f.elim);obtain⟨τ,hτ⟩:∃τ,τ=σ.know x s (some ⟨age,fl,some y,[],0,false⟩):=⟨_,rfl⟩;have hτw:τ.waiting=σ.waiting:=by rw[hτ];rfl
  have hτp:τ.par=σ.par:=by rw[hτ];rfl
  rw[←hτ];have HC:=uA (hL0.net.noFact hk)
  have HL:Hid (Calls Tryz.prog 42 #[.pointer (some ⟨b,0,none⟩),.agg #[int x,int s,int age,.slice fa fl.length fc,int y,rA,int 0,.bool false]] W0 fun e w'=>e=.returned (.tuple #[])∧∃ρ3,LrnAt w w' b ρ ρ3 τ #[int 4,int a1,int a2,int s,int age,(.slice fa fl.length fc),int 0,int 0,int 0,int 0,int 0,int 0,int old,int new,rA,int 0] #[int 5,int 0,int 0,int s,int 0,rA,int 0,int 0,int 0,int 0,int 0,int 0,int 0,int new,rA,int 0]∧FlAt w' ρ3 (.slice fa fl.length fc) fl∧NewsRow w' ρ3 .rest [] (rA)):=uA (by
    refine(yL hL0.net hx6 hs (age:=age) (way:=some y) hfl0).mono ?_;rintro e w' ⟨rfl,ρ3,k1,k2,k3⟩
    rw[←hτ] at k1
    refine⟨rfl,ρ3,hL0.step k2 k1,k2.fl hfl0 (by simp),k3 _ _ (tQ0 (r:=.kept x s))⟩)
  have d3:W0.cell? ⟨w.heap.size,3,none⟩=some (int s):=xA hL0.box 3;have d4:W0.cell? ⟨w.heap.size,4,none⟩=some (int age):=xA hL0.box 4;have d5:W0.cell? ⟨w.heap.size,5,none⟩=some (.slice fa fl.length fc):=xA hL0.box 5;have d12:W0.cell? ⟨w.heap.size,12,none⟩=some (int old):=xA hL0.box 12;have d13:W0.cell? ⟨w.heap.size,13,none⟩=some (int new):=xA hL0.box 13;have e14:W0.cell? ⟨w.heap.size+1,14,none⟩=some rA:=xA hL0.box1 14;have e15:W0.cell? ⟨w.heap.size+1,15,none⟩=some (int 0):=xA hL0.box1 15;have z14:W0.frozen? ⟨w.heap.size+1,14,none⟩=false:=bA hL0.box1 14;have z15:W0.frozen? ⟨w.heap.size+1,15,none⟩=false:=bA hL0.box1 15;have hneI:((x:Int) == (old:Int))=false:=by rw[vB];exact pP0 (by omega)
  have hnx:=cB T hx hold hne;have hnx6:tB σ.par x old<6:=sO0 hnx.2.1 hs6
  have HSD:Hid (∀w3 ρ3,LrnAt w w3 b ρ ρ3 τ #[int 4,int a1,int a2,int s,int age,(.slice fa fl.length fc),int 0,int 0,int 0,int 0,int 0,int 0,int old,int new,rA,int 0] #[int 5,int 0,int 0,int s,int 0,rA,int 0,int 0,int 0,int 0,int 0,int 0,int 0,int new,rA,int 0]→FlAt w3 ρ3 (.slice fa fl.length fc) fl→Calls Tryz.prog 43 #[.pointer (some ⟨b,0,none⟩),.agg #[int 4,int a1,int a2,int s,int age,(.slice fa fl.length fc),int 0,int 0,int 0,int 0,int 0,int 0,int old,int new,rA,int 0],int x,int (tB σ.par x old)] w3 fun e w'=>e=.returned (.tuple #[])∧∃ρ',LrnAt w w' b ρ ρ' (τ.push x (tB σ.par x old) (.move s age fl old new)) #[int 4,int a1,int a2,int s,int age,(.slice fa fl.length fc),int 0,int 0,int 0,int 0,int 0,int 0,int old,int new,rA,int 0] #[int 5,int 0,int 0,int s,int 0,rA,int 0,int 0,int 0,int 0,int 0,int 0,int 0,int new,rA,int 0]):=uA (fun w3 ρ3 hq hr=>by
    refine(pV hq.net hx6 hnx6 (uS hr (int a1) (int a2) rfl rfl) (by omega)).mono ?_;rintro e w' ⟨rfl,ρ',k1,k2⟩
    exact⟨rfl,ρ',hq.step k2 k1⟩)
  have HTW:Hid (∀w3 ρ3,LrnAt w w3 b ρ ρ3 τ #[int 4,int a1,int a2,int s,int age,(.slice fa fl.length fc),int 0,int 0,int 0,int 0,int 0,int 0,int old,int new,rA,int 0] #[int 5,int 0,int 0,int s,int 0,rA,int 0,int 0,int 0,int 0,int 0,int 0,int 0,int new,rA,int 0]→Calls Tryz.prog 44 #[.pointer (some ⟨b,0,none⟩),int x,int old] w3 fun e w'=>e=.returned (int (tB σ.par x old))∧qA w3 w'):=uA (fun w3 ρ3 hq=>by
    have hp:=hq.net.parsAt;rw[hτp] at hp
    exact rI b σ.par T x old hx hold hne w3 hp)
  obtain⟨N,hN⟩:∃N,N=tB σ.par x old:=⟨_,rfl⟩;rw[←hN] at HSD HTW ⊢;have HW0:=uA hW0;clear h hfl hL0 hfl0 t0 hτ hτw hτp hx hs6 hs hwt hk hnx hN hW0;go_enter Tryz.func115,Tryz.ntmps115
  go_wp2_with (first
    | (go_at_call 39;(try rw[yA HW0]);refine(yA HC).mono ?_;rintro e w1 ⟨rfl,hw1⟩;have hw1:=hw1.symm;subst hw1)
    | (go_at_call 42;refine(yA HL).mono ?_;rintro e w3 ⟨rfl,ρ3,h3,hf3,hr3⟩
       have q0:w3.cell? ⟨w.heap.size,0,none⟩=some (int 4):=xA h3.box 0;have q1:w3.cell? ⟨w.heap.size,1,none⟩=some (int a1):=xA h3.box 1;have q2:w3.cell? ⟨w.heap.size,2,none⟩=some (int a2):=xA h3.box 2;have q3:w3.cell? ⟨w.heap.size,3,none⟩=some (int s):=xA h3.box 3;have q4:w3.cell? ⟨w.heap.size,4,none⟩=some (int age):=xA h3.box 4;have q5:w3.cell? ⟨w.heap.size,5,none⟩=some (.slice fa fl.length fc):=xA h3.box 5;have q6:w3.cell? ⟨w.heap.size,6,none⟩=some (int 0):=xA h3.box 6;have q7:w3.cell? ⟨w.heap.size,7,none⟩=some (int 0):=xA h3.box 7;have q8:w3.cell? ⟨w.heap.size,8,none⟩=some (int 0):=xA h3.box 8;have q9:w3.cell? ⟨w.heap.size,9,none⟩=some (int 0):=xA h3.box 9;have q10:w3.cell? ⟨w.heap.size,10,none⟩=some (int 0):=xA h3.box 10;have q11:w3.cell? ⟨w.heap.size,11,none⟩=some (int 0):=xA h3.box 11;have q12:w3.cell? ⟨w.heap.size,12,none⟩=some (int old):=xA h3.box 12;have q13:w3.cell? ⟨w.heap.size,13,none⟩=some (int new):=xA h3.box 13;have q14:w3.cell? ⟨w.heap.size,14,none⟩=some (rA):=xA h3.box 14;have q15:w3.cell? ⟨w.heap.size,15,none⟩=some (int 0):=xA h3.box 15;have H3:=uA h3;have HF3:=uA hf3;have HR3:=uA hr3
       clear h3 hf3 hr3))
  go_region_held3 (fun w'=>w'.cell? ⟨w.heap.size,0,none⟩=some (int 4)∧w'.cell? ⟨w.heap.size,1,none⟩=some (int a1)∧w'.cell? ⟨w.heap.size,2,none⟩=some (int a2)∧w'.cell? ⟨w.heap.size,3,none⟩=some (int s)∧w'.cell? ⟨w.heap.size,4,none⟩=some (int age)∧w'.cell? ⟨w.heap.size,5,none⟩=some (.slice fa fl.length fc)∧w'.cell? ⟨w.heap.size,6,none⟩=some (int 0)∧w'.cell? ⟨w.heap.size,7,none⟩=some (int 0)∧w'.cell? ⟨w.heap.size,8,none⟩=some (int 0)∧w'.cell? ⟨w.heap.size,9,none⟩=some (int 0)∧w'.cell? ⟨w.heap.size,10,none⟩=some (int 0)∧w'.cell? ⟨w.heap.size,11,none⟩=some (int 0)∧w'.cell? ⟨w.heap.size,12,none⟩=some (int old)∧w'.cell? ⟨w.heap.size,13,none⟩=some (int new)∧w'.cell? ⟨w.heap.size,14,none⟩=some (rA)∧w'.cell? ⟨w.heap.size,15,none⟩=some (int 0))
    (first
      | exact⟨q0,q1,q2,q3,q4,q5,q6,q7,q8,q9,q10,q11,q12,q13,q14,q15⟩
      | exact r4
      | exact r5
      | go_keep)
    (first
      | (go_at_call 44;refine(yA HTW w3.drew ρ3 ((yA H3).calm (cP0 _ _).drew)).mono ?_;rintro e w4 ⟨rfl,t4⟩
         have t5:qA w3 w4:=((cP0 (fun _=>False) w3).drew).calm t4;have hbx4:=((yA H3).calm t5).box;have r4:w4.cell? ⟨w.heap.size,0,none⟩=some (int 4)∧w4.cell? ⟨w.heap.size,1,none⟩=some (int a1)∧w4.cell? ⟨w.heap.size,2,none⟩=some (int a2)∧w4.cell? ⟨w.heap.size,3,none⟩=some (int s)∧w4.cell? ⟨w.heap.size,4,none⟩=some (int age)∧w4.cell? ⟨w.heap.size,5,none⟩=some (.slice fa fl.length fc)∧w4.cell? ⟨w.heap.size,6,none⟩=some (int 0)∧w4.cell? ⟨w.heap.size,7,none⟩=some (int 0)∧w4.cell? ⟨w.heap.size,8,none⟩=some (int 0)∧w4.cell? ⟨w.heap.size,9,none⟩=some (int 0)∧w4.cell? ⟨w.heap.size,10,none⟩=some (int 0)∧w4.cell? ⟨w.heap.size,11,none⟩=some (int 0)∧w4.cell? ⟨w.heap.size,12,none⟩=some (int old)∧w4.cell? ⟨w.heap.size,13,none⟩=some (int new)∧w4.cell? ⟨w.heap.size,14,none⟩=some (rA)∧w4.cell? ⟨w.heap.size,15,none⟩=some (int 0):=⟨xA hbx4 0,xA hbx4 1,xA hbx4 2,xA hbx4 3,xA hbx4 4,xA hbx4 5,xA hbx4 6,xA hbx4 7,xA hbx4 8,xA hbx4 9,xA hbx4 10,xA hbx4 11,xA hbx4 12,xA hbx4 13,xA hbx4 14,xA hbx4 15⟩;have HL4:=uA ((yA H3).calm t5);have HF4:=uA ((yA HF3).still t5 (fun _ f=>f.elim))
         clear t4 t5 hbx4)
      | (go_at_call 43;refine(yA HSD w4 ρ3 (yA HL4) (yA HF4)).mono ?_;rintro e w5 ⟨rfl,ρ5,h5⟩
         have hbx5:=h5.box;have r5:w5.cell? ⟨w.heap.size,0,none⟩=some (int 4)∧w5.cell? ⟨w.heap.size,1,none⟩=some (int a1)∧w5.cell? ⟨w.heap.size,2,none⟩=some (int a2)∧w5.cell? ⟨w.heap.size,3,none⟩=some (int s)∧w5.cell? ⟨w.heap.size,4,none⟩=some (int age)∧w5.cell? ⟨w.heap.size,5,none⟩=some (.slice fa fl.length fc)∧w5.cell? ⟨w.heap.size,6,none⟩=some (int 0)∧w5.cell? ⟨w.heap.size,7,none⟩=some (int 0)∧w5.cell? ⟨w.heap.size,8,none⟩=some (int 0)∧w5.cell? ⟨w.heap.size,9,none⟩=some (int 0)∧w5.cell? ⟨w.heap.size,10,none⟩=some (int 0)∧w5.cell? ⟨w.heap.size,11,none⟩=some (int 0)∧w5.cell? ⟨w.heap.size,12,none⟩=some (int old)∧w5.cell? ⟨w.heap.size,13,none⟩=some (int new)∧w5.cell? ⟨w.heap.size,14,none⟩=some (rA)∧w5.cell? ⟨w.heap.size,15,none⟩=some (int 0):=⟨xA hbx5 0,xA hbx5 1,xA hbx5 2,xA hbx5 3,xA hbx5 4,xA hbx5 5,xA hbx5 6,xA hbx5 7,xA hbx5 8,xA hbx5 9,xA hbx5 10,xA hbx5 11,xA hbx5 12,xA hbx5 13,xA hbx5 14,xA hbx5 15⟩;have H5:=uA h5
         clear h5 hbx5))
  all_goals go_wp2
  all_goals go_end0
  all_goals exact⟨rfl,ρ5,(yA H5).net,(yA H5).mv⟩
theorem movesG {w:World}{b:Nat}{ρ:zA}{σ:Net}(h:RG w b ρ σ)(T:Tree σ.par){x s y old new:Nat}{age a1 a2:Int}{fl:List Tst}{fv:Value}(hx:x<σ.n)(hs:s<8)(hy:y<6)(hfl:FlAt w ρ fv fl)(hwt:σ.waiting<1000000000)(hold:old<σ.n):
  Calls Tryz.prog 115 #[.pointer (some ⟨b,0,none⟩),int x,.agg #[int 4,int a1,int a2,int s,int age,fv,int 0,int 0,int 0,int 0,int 0,int 0,int old,int new,rA,int 0],int y] w fun r w'=>r=.returned (.tuple #[])∧∃ρ',RG w' b ρ' (σ.handle x (some y) (.move s age fl old new))∧Mv uB ρ ρ' w w':=by
 have hs6:σ.n≤6:=gB T;by_cases e:x=old
 ·subst e;cases hk:σ.kn x s with
  | none=>
   have hN:σ.handle x (some y) (.move s age fl x new)=(σ.know x s (some ⟨age,fl,some y,[],0,false⟩)).push x y (.rest s [] 0 new):=by simp[Net.handle,hk]
   rw[hN];exact vS h hx hs6 hs hy hfl hwt hk
  | some f=>
   have hN:σ.handle x (some y) (.move s age fl x new)=(σ.know x s (some ⟨age,fl,some y,[],0,false⟩)).push x y (.rest s f.kept f.more new):=by simp[Net.handle,hk]
   rw[hN];exact xS h hx hs6 hs hy hfl hwt hk
 ·have hN:σ.handle x (some y) (.move s age fl old new)=(σ.know x s (some ⟨age,fl,some y,[],0,false⟩)).push x (tB σ.par x old) (.move s age fl old new):=by simp[Net.handle,e]
  rw[hN];cases hk:σ.kn x s with
  | none=>exact rU h hx hs6 hs hy hfl hwt hold e T hk
  | some f=>exact sU h hx hs6 hs hy hfl hwt hold e T hk
end Go.Proofs.YtodfcpblcpogiaaGreat

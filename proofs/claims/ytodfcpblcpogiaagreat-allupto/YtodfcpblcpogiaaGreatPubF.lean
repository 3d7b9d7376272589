import Derived.Test.YtodfcpblcpogiaaGreatAtg
namespace Go.Proofs.YtodfcpblcpogiaaGreat
open Go.RowKit
theorem XN.setMany {w:World}{b:Nat}{ρ:zA}{σ:Net}(h:XN w b ρ σ){c:Nat}(hc:c<4)(v:Int):XN (w.setCell ⟨b,86+c*31+3,none⟩ (int v)) b ρ (σ.setCl c {σ.cl c with many:=v})∧Mv uB ρ ρ w (w.setCell ⟨b,86+c*31+3,none⟩ (int v)):=by
 have C:=h.cli c hc;have hne:∀o u,o≠86+c*31+3→w.cell? ⟨b,o,none⟩=some u→(w.setCell ⟨b,86+c*31+3,none⟩ (int v)).cell? ⟨b,o,none⟩=some u:=fun o u ho hu=>tA w ho hu;have hk:∀i r,ρ i=some r→r≠.net→(w.setCell ⟨b,86+c*31+3,none⟩ (int v)).heap[i]?=w.heap[i]?∧ρ i=ρ i:=fun i r hi hr=>⟨zB w _ (fun e=>by subst e;rw[h.net] at hi;cases hi;exact hr rfl),rfl⟩;refine⟨h.storeCli hc _ _ (by omega) (by omega) ?_,yQ0 (S:=uB) h.lt h.net trivial _ _⟩;obtain⟨u,g1,g2⟩:=C.log;refine⟨hne _ _ (by omega) C.here,hne _ _ (by omega) C.home,hne _ _ (by omega) C.stays,mP0 w _ _ C.many,fun k h2=>hne _ _ (by omega) (C.used k h2),fun k h2=>hne _ _ (by omega) (C.age k h2),fun k h2=>(C.fl k h2).keep (fun j v hj=>hne _ _ (by omega)),fun k h2=>?_,u,hne _ _ (by omega) g1,g2.keep (fun i hi=>hk i _ hi (by simp))⟩;obtain⟨u',f1,f2⟩:=C.heard k h2;exact⟨u',hne _ _ (by omega) f1,f2.keep (fun i hi=>hk i _ hi (by simp))⟩
set_option maxHeartbeats 400000 in
theorem vD0 (b o:Nat)(w:World)(p M:Int)(hM:wrap64 (p+1)=M)(h:w.cell? ⟨b,o+3,none⟩=some (int p))(f:w.frozen? ⟨b,o+3,none⟩=false):
  Calls Tryz.prog 47 #[.pointer (some ⟨b,o,none⟩)] w fun e w'=>e=.returned (int M)∧w'=w.setCell ⟨b,o+3,none⟩ (int M):=by
 subst hM;go_enter Tryz.func47,Tryz.ntmps47
 go_wp2;go_ret
 exact⟨rfl,rfl⟩
set_option maxRecDepth 100000 in
set_option maxHeartbeats 2000000 in
theorem bC0 {w:World}{b:Nat}{ρ:zA}{σ:Net}(h:XN w b ρ σ){m:Nat}(F:Fit σ m)(hm:m<1999999999999){c x:Nat}(hc:c<4)(hh:(σ.cl c).here=some x)(f0 f1 f2:Int)(hful:σ.full=false):
  Calls Tryz.prog 18 #[.pointer (some ⟨b,0,none⟩),int c,.agg #[int f0,int f1,int f2]] w fun e w'=>e=.returned (.tuple #[int ((σ.cl c).many+1),int 0])∧∃ρ',XN w' b ρ' ((σ.setCl c {σ.cl c with many:=(σ.cl c).many+1}).happens x ⟨⟨c,(σ.cl c).many+1,f0,f1,f2⟩,(σ.cl c).stays⟩ none)∧Mv uB ρ ρ' w w':=by
 have T:=F.good.tree;have hx:x<σ.n:=(F.good.clis c hc).here x hh;have hNu:=F.r.nums.cl c;have hmany:0≤(σ.cl c).many∧(σ.cl c).many<1999999999999:=by have:=hNu.many;omega
 have hst:0≤(σ.cl c).stays∧(σ.cl c).stays≤m:=hNu.stays;have hml:(σ.cl c).many≤m:=hNu.many.2;have hcl:=h.closed;have hcc:dA (c:Int)=true:=jC hc;have hat:=(h.cli c hc).here;rw[hh] at hat;replace hat:w.cell? ⟨b,86+c*31,none⟩=some (int x):=hat;have hci:(c:Int)<4:=by omega
 have hct:chk true=0:=rfl;have hxm:((x:Int) == -1)=false:=by rw[iE];exact pP0 (by omega)
 have hcal:qA w (w.alloc (.cells #[int f0,int f1,int f2] 35)):=(cP0 _ _).alloc _;have HX:=uA (h.calm hcal);have HM:Hid (Mv uB ρ ρ w (w.alloc (.cells #[int f0,int f1,int f2] 35))):=zQ0 h.lt hcal;have hbl:=h.lt b (by rw[h.net];simp)
 have HF:=uA F;have HH:=uA hh;clear h F hcal hh;go_enter Tryz.func18,Tryz.ntmps18
 go_wp2_with (first
  | (go_at_call 26;refine(aA _ _).mono ?_;rw[hcc];rintro e w1 ⟨rfl,hw1⟩;have hw1:=hw1.symm;subst hw1)
  | (go_at_call 25;refine(sB _ _ _ (by go_simp)).mono ?_;rintro e w2 ⟨rfl,hw2⟩;have hw2:=hw2.symm;subst hw2)
  | (go_at_call 32;refine(zC _ _ (x:Int) _ (by go_simp)).mono ?_;rw[hxm];rintro e w2 ⟨rfl,hw2⟩;have hw2:=hw2.symm;subst hw2))
 refine(yO (yA HX) (yA HF)).mono ?_;rw[hful];rintro e w1 ⟨rfl,ht1⟩
 have hbx:=ht1.box id;have c0:w1.cell? ⟨w.heap.size,0,none⟩=some (int f0):=xA hbx 0;have c1:w1.cell? ⟨w.heap.size,1,none⟩=some (int f1):=xA hbx 1;have c2:w1.cell? ⟨w.heap.size,2,none⟩=some (int f2):=xA hbx 2;have hsz:w.heap.size<w1.heap.size:=fP0 c0;have hX1:=(yA HX).calm ht1;have q3:=(hX1.cli c hc).many;have fz:=hX1.fr (86+c*31+3);have hb1:=hX1.lt b (by rw[hX1.net];simp)
 have hnb:¬w.heap.size=b:=by omega
 have hnb':¬b=w.heap.size:=by omega
 have hwr:wrap64 ((σ.cl c).many+1)=(σ.cl c).many+1:=rM (by omega) (by omega);have HX1:=uA hX1;have HM1:=uA ((yA HM).trans (zQ0 (yA HX).lt ht1));have HFR:=uA hX1.fr;have hnr:ρ w1.heap.size=none:=by
  cases hq:ρ w1.heap.size with
  | none=>rfl
  | some r=>have:=hX1.lt w1.heap.size (by rw[hq];simp);omega
 have HNR:=uA hnr;clear hnr;clear hX1 HX hbx hcl hat ht1 HM;obtain⟨e,he⟩:∃e:News,e=⟨⟨c,(σ.cl c).many+1,f0,f1,f2⟩,(σ.cl c).stays⟩:=⟨_,rfl⟩;have HE:=uA he;generalize hM0:(σ.cl c).many+1=M at*;have HWR:wrap64 ((σ.cl c).many+1)=M:=by rw[hM0];exact hwr
 have fin:((w1.setCell ⟨b,86+c*31+3,none⟩ (int M)).alloc (.cells #[int c,int M,int f0,int f1,int f2] 72)).drew.heap[w1.heap.size]?=some (.cells #[int c,int M,int f0,int f1,int f2] 72)∧XN ((w1.setCell ⟨b,86+c*31+3,none⟩ (int M)).alloc (.cells #[int c,int M,int f0,int f1,int f2] 72)).drew b ρ (σ.setCl c {σ.cl c with many:=M})∧Mv uB ρ ρ w ((w1.setCell ⟨b,86+c*31+3,none⟩ (int M)).alloc (.cells #[int c,int M,int f0,int f1,int f2] 72)).drew:=by
  obtain⟨g1,g2⟩:=(yA HX1).setMany hc M;have t:qA (w1.setCell ⟨b,86+c*31+3,none⟩ (int M)) ((w1.setCell ⟨b,86+c*31+3,none⟩ (int M)).alloc (.cells #[int c,int M,int f0,int f1,int f2] 72)).drew:=((cP0 _ _).alloc _).drew;refine⟨?_,g1.calm t,((yA HM1).trans g2).trans (zQ0 g1.lt t)⟩;have:=eP0 (w1.setCell ⟨b,86+c*31+3,none⟩ (int M)) (.cells #[int c,int M,int f0,int f1,int f2] 72);have hs:(w1.setCell ⟨b,86+c*31+3,none⟩ (int M)).heap.size=w1.heap.size:=by simp[World.setCell]
  rw[hs] at this;exact this
 have FIN:=uA fin;clear fin;go_wp2;go_cut [10] (fun s wx=>s=ptr w1.heap.size∧wx.heap[w1.heap.size]?=some (.cells #[int c,int M,int f0,int f1,int f2] 72)∧XN wx b ρ (σ.setCl c {σ.cl c with many:=M})∧Mv uB ρ ρ w wx)
 case first=>
  go_region_with (first
   | (go_at_call 47;refine(vD0 b (86+c*31) _ (σ.cl c).many M HWR (by go_simp) (by go_simp)).mono ?_;rintro e w3 ⟨rfl,rfl⟩))
  all_goals (go_wp2_with fail;go_meet;exact⟨rfl,yA FIN⟩)
 case rest=>
  obtain⟨rfl,hbx,hXC,hMC⟩:=hcut;have hcl':(σ.setCl c {σ.cl c with many:=M}).cl c={σ.cl c with many:=M}:=by simp[Net.setCl]
  have CC:=hXC.cli c hc;rw[hcl'] at CC;have q0:wc.cell? ⟨b,86+c*31,none⟩=some (int x):=by have:=CC.here;rw[yA HH] at this;exact this
  have q2:wc.cell? ⟨b,86+c*31+2,none⟩=some (int (σ.cl c).stays):=CC.stays;have e0:wc.cell? ⟨w1.heap.size,0,none⟩=some (int c):=xA hbx 0;have e1:wc.cell? ⟨w1.heap.size,1,none⟩=some (int M):=xA hbx 1;have e2:wc.cell? ⟨w1.heap.size,2,none⟩=some (int f0):=xA hbx 2;have e3:wc.cell? ⟨w1.heap.size,3,none⟩=some (int f1):=xA hbx 3;have e4:wc.cell? ⟨w1.heap.size,4,none⟩=some (int f2):=xA hbx 4;have hsc:w1.heap.size<wc.heap.size:=fP0 e0;have hbc:=hXC.lt b (by rw[hXC.net];simp)
  have hlimE:e.lim (m+1):=by
   rw[yA HE];exact⟨by show (0:Int)≤c;omega,by show (c:Int)<4;omega,by show 1≤M;omega,by show M≤((m+1:Nat):Int);omega,hst.1,by show (σ.cl c).stays≤((m+1:Nat):Int);omega⟩
  have hWm:Warm (σ.setCl c {σ.cl c with many:=M}) (m+1):=by
   have hW:=(yA HF).r.warm;obtain⟨E,e1,e2⟩:=hW.news;have hN:=hW.nums.cl c;refine⟨hW.live.setCl hc rfl rfl rfl rfl rfl,(hW.slack.clSame (c:=c) (x:={σ.cl c with many:=M}) (fun _=>qO0 _) (qO0 _)).weak (qO0 _) (by omega),(hW.nums.weak (by omega)).setCl ⟨⟨hN.stays.1,by have:=hN.stays.2;show (σ.cl c).stays≤_;omega⟩,⟨by show 0≤M;omega,by show M≤((m+1:Nat):Int);omega⟩,fun k=>⟨(hN.age k).1,by have:=(hN.age k).2;show (σ.cl c).age k≤_;omega⟩,hN.ris⟩,E,e1.setCl (c:=c) (x:={σ.cl c with many:=M}) (fun k e he=>e1.told c k e he),fun o ho=>(e2 o ho).weak (by omega)⟩
  have hcan:tI (σ.setCl c {σ.cl c with many:=M}) x none (.event e):=⟨m+1,hlimE.weak (by omega),hWm,by omega⟩;have henc:∀u kv,(uI (.event e) u kv).toArray=#[int 2,int 0,int 0,int 0,int 0,int 0,int 0,int 0,int 0,int 0,int 0,int 0,int 0,int 0,int c,int M,int f0,int f1,int f2,int (σ.cl c).stays,int 0,int 0,rA,int 0]:=fun u kv=>by rw[pH,yA HE]
  have hFF:FrAt (wc.alloc (.cells #[int 2,int 0,int 0,int 0,int 0,int 0,int 0,int 0,int 0,int 0,int 0,int 0,int 0,int 0,int c,int M,int f0,int f1,int f2,int (σ.cl c).stays,int 0,int 0,rA,int 0] 142)).drew (iA ρ wc.heap.size .frame) (.event e) wc.heap.size:=by
   refine⟨by simp[iA],0,[int 0,int 0,int 0,int 0,int 0,int 0,int 0,int 0,int 0,int 0],rA,?_,rfl,by simp[Value.oneCell'],⟨⟨rfl,Or.inl ⟨rfl,rfl⟩⟩,fun g hg=>by cases hg⟩⟩;rw[henc];exact eP0 wc _
  obtain⟨hXF,hMF⟩:=hXC.addFrame (w':=(wc.alloc (.cells #[int 2,int 0,int 0,int 0,int 0,int 0,int 0,int 0,int 0,int 0,int 0,int 0,int 0,int 0,int c,int M,int f0,int f1,int f2,int (σ.cl c).stays,int 0,int 0,rA,int 0] 142)).drew) (((cP0 _ _).alloc _).drew) (qO0 _) (by simp[World.drew]);have HXF:=uA hXF;have HMF:=uA hMF;have HFF:=uA hFF;have HXC:=uA hXC;have HMC:=uA hMC;have HCAN:=uA hcan;have HLEN:Hid (∀z,((σ.setCl c {σ.cl c with many:=M}).q x z).length<2000):=fun z=>(yA HF).len x z;have HBX:=uA hbx;clear hXC hMC CC hcan henc hWm hlimE hFF hXF hMF hbx c0 c1 c2 hsz q3 fz hb1 hnb hnb' FIN HX1 HM1 HFR hbl;go_wp2_with fail
  go_cut [] (fun wx=>∃ρ',XN wx b ρ' ((σ.setCl c {σ.cl c with many:=M}).happens x e none)∧Mv uB ρ ρ' w wx∧wx.cell? ⟨w1.heap.size,1,none⟩=some (int M))
  case first=>
   go_region_with (first
    | (go_at_call 49;refine(iF b (86+c*31) x _ (by go_simp)).mono ?_;rintro r w3 ⟨rfl,rfl⟩)
    | (go_at_call 50;refine(yJ0 b (86+c*31) (σ.cl c).stays _ (by go_simp)).mono ?_;rintro r w3 ⟨rfl,rfl⟩)
    | (go_at_call 48;refine(iI (fr:=none) (yA HXF) T hx (yA HLEN) (yA HCAN) (yA HFF)).mono ?_;rintro r w4 ⟨rfl,ρ4,h4,m4⟩))
   all_goals go_wp2_with fail
   all_goals go_meet
   all_goals
    refine⟨ρ4,h4,((yA HMC).trans ((yA HMF).mono (fun _ f=>f.elim))).trans m4,?_⟩;have hnr4:iA ρ wc.heap.size .frame w1.heap.size=none:=by unfold iA;rw[if_neg (by omega)];exact yA HNR
    have hbk:(wc.alloc (.cells #[int 2,int 0,int 0,int 0,int 0,int 0,int 0,int 0,int 0,int 0,int 0,int 0,int 0,int 0,int c,int M,int f0,int f1,int f2,int (σ.cl c).stays,int 0,int 0,rA,int 0] 142)).drew.heap[w1.heap.size]?=some (.cells #[int c,int M,int f0,int f1,int f2] 72):=(kP0 _ _ _ hsc).trans (yA HBX);have:=(m4.touch.block w1.heap.size (by simp[World.drew];omega) (fun ⟨r,h1,_⟩=>by rw[hnr4] at h1;cases h1)).trans hbk
    exact xA this 1
  case rest=>
   obtain⟨ρ',h4,m4,q1⟩:=hcut;have H4:=uA h4;have M4:=uA m4;clear h4 m4 e0 e1 e2 e3 e4 q0 q2;go_wp2;go_ret2;exact⟨rfl,ρ',by rw[←yA HE];exact yA H4,yA M4⟩
set_option maxRecDepth 100000 in
set_option maxHeartbeats 1000000 in
theorem kJ0 {w:World}{b:Nat}{ρ:zA}{σ:Net}(h:XN w b ρ σ){m:Nat}(F:Fit σ m){c x:Nat}(hc:c<4)(hh:(σ.cl c).here=some x)(f0 f1 f2:Int)(hful:σ.full=true):
  Calls Tryz.prog 18 #[.pointer (some ⟨b,0,none⟩),int c,.agg #[int f0,int f1,int f2]] w fun e w'=>e=.returned (.tuple #[int 0,int 6])∧qA w w':=by
 have hcl:=h.closed;have hcc:dA (c:Int)=true:=jC hc;have hat:=(h.cli c hc).here;rw[hh] at hat;replace hat:w.cell? ⟨b,86+c*31,none⟩=some (int x):=hat;have hci:(c:Int)<4:=by omega
 have hct:chk true=0:=rfl;have hxm:((x:Int) == -1)=false:=by rw[iE];exact pP0 (by omega)
 have hcal:qA w (w.alloc (.cells #[int f0,int f1,int f2] 35)):=(cP0 _ _).alloc _;have HX:=uA (h.calm hcal);have HCAL:=uA hcal;have hbl:=h.lt b (by rw[h.net];simp)
 have HF:=uA F;clear h F hcal hh;go_enter Tryz.func18,Tryz.ntmps18
 go_wp2_with (first
  | (go_at_call 26;refine(aA _ _).mono ?_;rw[hcc];rintro e w1 ⟨rfl,hw1⟩;have hw1:=hw1.symm;subst hw1)
  | (go_at_call 25;refine(sB _ _ _ (by go_simp)).mono ?_;rintro e w2 ⟨rfl,hw2⟩;have hw2:=hw2.symm;subst hw2)
  | (go_at_call 32;refine(zC _ _ (x:Int) _ (by go_simp)).mono ?_;rw[hxm];rintro e w2 ⟨rfl,hw2⟩;have hw2:=hw2.symm;subst hw2))
 refine(yO (yA HX) (yA HF)).mono ?_;rw[hful];rintro e w1 ⟨rfl,ht1⟩
 have HT:=uA ((yA HCAL).calm ht1);clear ht1 hat hcl HX;go_wp2;go_ret2;exact⟨rfl,yA HT⟩
set_option maxRecDepth 100000 in
set_option maxHeartbeats 1000000 in
theorem bZ {w:World}{b:Nat}{ρ:zA}{σ:Net}(h:XN w b ρ σ)(c f0 f1 f2:Int)(hcc:dA c=false):
  Calls Tryz.prog 18 #[.pointer (some ⟨b,0,none⟩),int c,.agg #[int f0,int f1,int f2]] w fun e w'=>e=.returned (.tuple #[int 0,int 1])∧qA w w':=by
 have hcl:=h.closed;have hct:chk false=1:=rfl;have hbl:=h.lt b (by rw[h.net];simp)
 clear h;go_enter Tryz.func18,Tryz.ntmps18
 go_wp2_with (first
  | (go_at_call 26;refine(aA _ _).mono ?_;rw[hcc];rintro e w1 ⟨rfl,hw1⟩;have hw1:=hw1.symm;subst hw1)
  | (go_at_call 25;refine(sB _ _ _ (by go_simp)).mono ?_;rintro e w2 ⟨rfl,hw2⟩;have hw2:=hw2.symm;subst hw2))
 go_ret2;exact⟨rfl,(cP0 _ _).alloc _⟩
set_option maxRecDepth 100000 in
set_option maxHeartbeats 1000000 in
theorem oX {w:World}{b:Nat}{ρ:zA}{σ:Net}(h:XN w b ρ σ){c:Nat}(hc:c<4)(hh:(σ.cl c).here=none)(f0 f1 f2:Int):
  Calls Tryz.prog 18 #[.pointer (some ⟨b,0,none⟩),int c,.agg #[int f0,int f1,int f2]] w fun e w'=>e=.returned (.tuple #[int 0,int 3])∧qA w w':=by
 have hcl:=h.closed;have hcc:dA (c:Int)=true:=jC hc;have hat:=(h.cli c hc).here;rw[hh] at hat;replace hat:w.cell? ⟨b,86+c*31,none⟩=some (int (-1)):=hat;have hci:(c:Int)<4:=by omega
 have hct:chk true=0:=rfl;have hbl:=h.lt b (by rw[h.net];simp)
 clear h hh;go_enter Tryz.func18,Tryz.ntmps18
 go_wp2_with (first
  | (go_at_call 26;refine(aA _ _).mono ?_;rw[hcc];rintro e w1 ⟨rfl,hw1⟩;have hw1:=hw1.symm;subst hw1)
  | (go_at_call 25;refine(sB _ _ _ (by go_simp)).mono ?_;rintro e w2 ⟨rfl,hw2⟩;have hw2:=hw2.symm;subst hw2)
  | (go_at_call 32;refine(zC _ _ (-1) _ (by go_simp)).mono ?_;rintro e w2 ⟨rfl,hw2⟩;have hw2:=hw2.symm;subst hw2))
 go_ret2;exact⟨rfl,(cP0 _ _).alloc _⟩
theorem mJ0 {w:World}{b:Nat}{ρ:zA}{σ:Net}(h:XN w b ρ σ){m:Nat}(F:Fit σ m)(hm:m<1999999999999)(c f0 f1 f2:Int):
  Calls Tryz.prog 18 #[.pointer (some ⟨b,0,none⟩),int c,.agg #[int f0,int f1,int f2]] w fun e w'=>e=.returned (.tuple #[int (σ.pubA c),int (σ.pubE c)])∧∃ρ',XN w' b ρ' (σ.pub c f0 f1 f2)∧Mv uB ρ ρ' w w':=by
 cases hcc:dA c with
 | false=>
  have hE:σ.pubE c=1:=by simp[Net.pubE,Net.asked,h.open_,hcc]
  have hA:σ.pubA c=0:=by simp[Net.pubA,hE]
  have hP:σ.pub c f0 f1 f2=σ:=by simp[Net.pub,hE]
  rw[hE,hA,hP];exact(bZ h c f0 f1 f2 hcc).mono fun e w' ⟨h1,h2⟩=>⟨h1,ρ,h.calm h2,h.mvCalm h2⟩
 | true=>
  have hcc':=hcc;simp only[dA,oP0] at hcc';obtain⟨c',rfl⟩:∃c':Nat,c=c':=⟨c.toNat,by omega⟩;have hc:c' < 4:=by omega
  have hask:σ.asked (dA (c':Int))=0:=zH h.open_ hcc;cases hh:(σ.cl c').here with
  | none=>
   have hE:σ.pubE c'=3:=by simp[Net.pubE,hask,hh]
   have hA:σ.pubA c'=0:=by simp[Net.pubA,hE]
   have hP:σ.pub c' f0 f1 f2=σ:=by simp[Net.pub,hE]
   rw[hE,hA,hP];exact(oX h hc hh f0 f1 f2).mono fun e w' ⟨h1,h2⟩=>⟨h1,ρ,h.calm h2,h.mvCalm h2⟩
  | some x=>
   cases hful:σ.full with
   | true=>
    have hE:σ.pubE c'=6:=by simp[Net.pubE,hask,hh,hful]
    have hA:σ.pubA c'=0:=by simp[Net.pubA,hE]
    have hP:σ.pub c' f0 f1 f2=σ:=by simp[Net.pub,hE]
    rw[hE,hA,hP];exact(kJ0 h F hc hh f0 f1 f2 hful).mono fun e w' ⟨h1,h2⟩=>⟨h1,ρ,h.calm h2,h.mvCalm h2⟩
   | false=>
    have hE:σ.pubE c'=0:=by simp[Net.pubE,hask,hh,hful]
    have hA:σ.pubA c'=(σ.cl c').many+1:=by simp[Net.pubA,hE]
    have hP:σ.pub c' f0 f1 f2=((σ.setCl c' {σ.cl c' with many:=(σ.cl c').many+1}).happens x ⟨⟨c',(σ.cl c').many+1,f0,f1,f2⟩,(σ.cl c').stays⟩ none):=by
     simp only[Net.pub,hE,if_true,lF,hh,Net.pubEv]
    rw[hE,hA,hP];exact bC0 h F hm hc hh f0 f1 f2 hful
end Go.Proofs.YtodfcpblcpogiaaGreat

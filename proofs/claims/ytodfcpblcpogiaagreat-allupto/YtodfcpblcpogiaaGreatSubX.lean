import Derived.Test.YtodfcpblcpogiaaGreatSlot
namespace Go.Proofs.YtodfcpblcpogiaaGreat
open Go.RowKit
set_option maxRecDepth 100000 in
set_option maxHeartbeats 1000000 in
theorem zJ0 (b o:Nat)(age A:Int)(l:List Tst)(w:World)(hA:wrap64 (age+1)=A)(hex:∀j,j<13→∃u,w.cell? ⟨b,o+0+j,none⟩=some u)(h1:w.cell? ⟨b,o+1,none⟩=some (int age))(hfr:∀o,w.frozen? ⟨b,o,none⟩=false):
  Calls Tryz.prog 126 #[.pointer (some ⟨b,o,none⟩),tL0 l] w fun e w'=>e=.returned (.tuple #[])∧∃W,qA w W∧w'=((kD W b o 0 (zD true A (aB l) (.map (some W.heap.size)))).alloc (.map #[] 0)).drew:=by
 subst hA;have hmm:=@run_makeMap Tryz.prog;have hb:=fP0 h1;simp only at hb;obtain⟨u0,g0⟩:=hex 0 (by omega);obtain⟨u2,g2⟩:=hex 2 (by omega);obtain⟨u3,g3⟩:=hex 3 (by omega);obtain⟨u4,g4⟩:=hex 4 (by omega);obtain⟨u5,g5⟩:=hex 5 (by omega);obtain⟨u6,g6⟩:=hex 6 (by omega);obtain⟨u7,g7⟩:=hex 7 (by omega);obtain⟨u8,g8⟩:=hex 8 (by omega);obtain⟨u9,g9⟩:=hex 9 (by omega);obtain⟨u10,g10⟩:=hex 10 (by omega);obtain⟨u11,g11⟩:=hex 11 (by omega);obtain⟨u12,g12⟩:=hex 12 (by omega);simp only[Nat.add_zero] at g0 g2 g3 g4 g5 g6 g7 g8 g9 g10 g11 g12;clear hex;go_enter Tryz.func126,Tryz.ntmps126
 go_wp2;obtain⟨W,hW⟩:∃W,w.alloc (.cells #[int (sA l 0).fld,int (sA l 0).op,int (sA l 0).n,int (sA l 1).fld,int (sA l 1).op,int (sA l 1).n,int (sA l 2).fld,int (sA l 2).op,int (sA l 2).n,int l.length] 80)=W:=⟨_,rfl⟩
 rw[hW];have hcal:qA w W:=by rw[←hW];exact(cP0 _ _).alloc _
 have hbx:W.heap[w.heap.size]?=some (.cells #[int (sA l 0).fld,int (sA l 0).op,int (sA l 0).n,int (sA l 1).fld,int (sA l 1).op,int (sA l 1).n,int (sA l 2).fld,int (sA l 2).op,int (sA l 2).n,int l.length] 80):=by rw[←hW];exact eP0 w _
 have hWs:w.heap.size<W.heap.size:=(tO0.1 hbx).1;have hbW:b<W.heap.size:=by omega
 have hfz:∀o',W.frozen? ⟨b,o',none⟩=false:=fun o'=>(nP0 (w:=w) (a:=⟨b,o',none⟩) (hcal.block b hb id)).trans (hfr o');have s0:W.cell? ⟨w.heap.size,0,none⟩=some (int (sA l 0).fld):=xA hbx 0;have s1:W.cell? ⟨w.heap.size,1,none⟩=some (int (sA l 0).op):=xA hbx 1;have s2:W.cell? ⟨w.heap.size,2,none⟩=some (int (sA l 0).n):=xA hbx 2;have s3:W.cell? ⟨w.heap.size,3,none⟩=some (int (sA l 1).fld):=xA hbx 3;have s4:W.cell? ⟨w.heap.size,4,none⟩=some (int (sA l 1).op):=xA hbx 4;have s5:W.cell? ⟨w.heap.size,5,none⟩=some (int (sA l 1).n):=xA hbx 5;have s6:W.cell? ⟨w.heap.size,6,none⟩=some (int (sA l 2).fld):=xA hbx 6;have s7:W.cell? ⟨w.heap.size,7,none⟩=some (int (sA l 2).op):=xA hbx 7;have s8:W.cell? ⟨w.heap.size,8,none⟩=some (int (sA l 2).n):=xA hbx 8;have s9:W.cell? ⟨w.heap.size,9,none⟩=some (int l.length):=xA hbx 9;have e0:=hcal.cell (p:=⟨b,o,none⟩) id g0;have e2:=hcal.cell (p:=⟨b,o+2,none⟩) id g2;have e3:=hcal.cell (p:=⟨b,o+3,none⟩) id g3;have e4:=hcal.cell (p:=⟨b,o+4,none⟩) id g4;have e5:=hcal.cell (p:=⟨b,o+5,none⟩) id g5;have e6:=hcal.cell (p:=⟨b,o+6,none⟩) id g6;have e7:=hcal.cell (p:=⟨b,o+7,none⟩) id g7;have e8:=hcal.cell (p:=⟨b,o+8,none⟩) id g8;have e9:=hcal.cell (p:=⟨b,o+9,none⟩) id g9;have e10:=hcal.cell (p:=⟨b,o+10,none⟩) id g10;have e11:=hcal.cell (p:=⟨b,o+11,none⟩) id g11;have e12:=hcal.cell (p:=⟨b,o+12,none⟩) id g12;have e1:=hcal.cell (p:=⟨b,o+1,none⟩) id h1;have HC:=uA hcal;clear hW hcal hbx g0 g2 g3 g4 g5 g6 g7 g8 g9 g10 g11 g12 h1 hfr;go_region
 all_goals go_end0
 all_goals exact⟨rfl,W,yA HC,rfl⟩
set_option maxRecDepth 100000 in
set_option maxHeartbeats 1000000 in
theorem zL0 (b o:Nat)(age:Int)(w:World)(hex:∀j,j<13→∃u,w.cell? ⟨b,o+0+j,none⟩=some u)(h1:w.cell? ⟨b,o+1,none⟩=some (int age))(hfr:∀o,w.frozen? ⟨b,o,none⟩=false):
    Calls Tryz.prog 113 #[.pointer (some ⟨b,o,none⟩)] w fun e w'=>e=.returned (.tuple #[])∧qA (kD w b o 0 (zD false age bR (.map none))) w':=by
  obtain⟨u0,g0⟩:=hex 0 (by omega);obtain⟨u2,g2⟩:=hex 2 (by omega);obtain⟨u3,g3⟩:=hex 3 (by omega);obtain⟨u4,g4⟩:=hex 4 (by omega);obtain⟨u5,g5⟩:=hex 5 (by omega);obtain⟨u6,g6⟩:=hex 6 (by omega);obtain⟨u7,g7⟩:=hex 7 (by omega);obtain⟨u8,g8⟩:=hex 8 (by omega);obtain⟨u9,g9⟩:=hex 9 (by omega);obtain⟨u10,g10⟩:=hex 10 (by omega);obtain⟨u11,g11⟩:=hex 11 (by omega);obtain⟨u12,g12⟩:=hex 12 (by omega);simp only[Nat.add_zero] at g0 g2 g3 g4 g5 g6 g7 g8 g9 g10 g11 g12;clear hex;go_enter Tryz.func113,Tryz.ntmps113
  go_wp2;first
    | (go_end0;exact⟨rfl,cP0 _ _⟩)
    | (go_region
       all_goals go_end0
       all_goals exact⟨rfl,(cP0 _ _).drew⟩)
def Cli.subs (x:Cli)(k:Nat)(l:List Tst):Cli:={x with used:=put x.used k true,age:=put x.age k (x.age k+1),fl:=put x.fl k l,told:=put x.told k []}
def Cli.ends (x:Cli)(k:Nat):Cli:={x with used:=put x.used k false}
theorem nU (l:List Tst):∀v,v∈aB l→∃z,v=int z:=by
 intro v hv;simp only[aB,Tst.enc,List.cons_append,List.nil_append,List.mem_cons,List.not_mem_nil,or_false] at hv;rcases hv with rfl | rfl | rfl | rfl | rfl | rfl | rfl | rfl | rfl | rfl<;>exact⟨_,rfl⟩
theorem XN.subs {w W w':World}{b:Nat}{ρ:zA}{σ:Net}(h:XN w b ρ σ){c k:Nat}(hc:c<4)(hk:k<2)(l:List Tst)(t:qA w W)(hw:w'=((kD W b (86+c*31+4+k*13) 0 (zD true ((σ.cl c).age k+1) (aB l) (.map (some W.heap.size)))).alloc (.map #[] 0)).drew):
    XN w' b (iA ρ W.heap.size (.map c k)) (σ.setCl c ((σ.cl c).subs k l))∧Mv (fun r=>r=.net) ρ (iA ρ W.heap.size (.map c k)) w w':=by
  have hX:=h.calm t;obtain⟨V,hV⟩:∃V,V=kD W b (86+c*31+4+k*13) 0 (zD true ((σ.cl c).age k+1) (aB l) (.map (some W.heap.size))):=⟨_,rfl⟩;have hs:V.heap.size=W.heap.size:=by rw[hV];exact tG _ _ _ _ _
  rw[←hV] at hw;have hcV:qA V w':=by rw[hw];exact((cP0 _ _).alloc _).drew
  have hws:w'.heap.size=W.heap.size+1:=by rw[hw];show (V.alloc _).heap.size=_;rw[World.size_alloc,hs]
  have hmap:w'.ownsMap (H:=Nat) Tryz.prog 201 (plainElem Tryz.prog 3) W.heap.size 0 (.map []):=by
    have:=World.ownsMap_made (H:=Nat) V Tryz.prog 201 (plainElem Tryz.prog 3);rw[hs] at this;rw[hw];exact this
  have hu:((σ.cl c).subs k l).used k=true:=by simp[Cli.subs]
  have ha:((σ.cl c).subs k l).age k=(σ.cl c).age k+1:=by simp[Cli.subs]
  have hf:((σ.cl c).subs k l).fl k=l:=by simp[Cli.subs]
  have ht:((σ.cl c).subs k l).told k=[]:=by simp[Cli.subs]
  obtain⟨r1,r2⟩:=hX.slotSet (W:=w') (ρ':=iA ρ W.heap.size (.map c k)) hc hk (x:=(σ.cl c).subs k l) (fil:=aB l) (hd:=.map (some W.heap.size)) (by simp[aB,Tst.enc]) (by rw[hu,ha,←hV];exact hcV)
    (fun i hi=>by unfold iA;rw[if_neg (by omega)]) (fun i hi=>by
      unfold iA at hi;split at hi
      · omega
      · have:=hX.lt i hi;omega) rfl rfl rfl rfl rfl (fun j hj=>by simp[Cli.subs,kA _ _ hj]) (nU l) (fun _=>by rw[hf]) (by
      rw[hu,ht];unfold HeardAt;rw[if_pos rfl]
      exact⟨W.heap.size,0,_,rfl,by simp[iA],hmap,qO0 _,fun p st kl _=>rfl⟩)
  exact⟨r1,(zQ0 h.lt t).trans r2⟩
theorem XN.ends {w w':World}{b:Nat}{ρ:zA}{σ:Net}(h:XN w b ρ σ){c k:Nat}(hc:c<4)(hk:k<2)(t:qA (kD w b (86+c*31+4+k*13) 0 (zD false ((σ.cl c).age k) bR (.map none))) w'):
    XN w' b ρ (σ.setCl c ((σ.cl c).ends k))∧Mv (fun r=>r=.net) ρ ρ w w':=by
  have hu:((σ.cl c).ends k).used k=false:=by simp[Cli.ends]
  have ha:((σ.cl c).ends k).age k=(σ.cl c).age k:=rfl;have hs:=tG b (86+c*31+4+k*13) (zD false ((σ.cl c).age k) bR (.map none)) 0 w
  exact h.slotSet (W:=w') (ρ':=ρ) hc hk (x:=(σ.cl c).ends k) (fil:=bR) (hd:=.map none) rfl (by rw[hu,ha];exact t) (fun _ _=>rfl) (fun i hi=>by have:=h.lt i hi;have:=t.size;omega) rfl rfl rfl rfl rfl (fun j hj=>by simp[Cli.ends,kA _ _ hj]) (fun v hv=>by simp[bR] at hv;exact⟨0,hv⟩) (fun e=>by rw[hu] at e;cases e) (by
    rw[hu];unfold HeardAt;simp)
set_option maxRecDepth 100000 in
set_option maxHeartbeats 1000000 in
theorem tM {w:World}{b:Nat}{ρ:zA}{σ:Net}(h:XN w b ρ σ){c k:Nat}(hc:c<4)(hk:k<2)(l:List Tst)(hage:-1≤(σ.cl c).age k∧(σ.cl c).age k<2199023255552):
    Calls Tryz.prog 112 #[.pointer (some ⟨b,86+c*31,none⟩),int k,tL0 l] w fun e w'=>e=.returned (int ((σ.cl c).age k+1))∧∃ρ',XN w' b ρ' (σ.setCl c ((σ.cl c).subs k l))∧Mv (fun r=>r=.net) ρ ρ' w w':=by
  have C:=h.cli c hc;have u1:=C.age k hk;have hki:(k:Int)<2:=by omega
  have hwr:wrap64 ((σ.cl c).age k+1)=(σ.cl c).age k+1:=rM (by omega) (by omega);have hbl:=h.lt b (by rw[h.net];simp)
  have HX:=uA h;clear C h;go_enter Tryz.func112,Tryz.ntmps112
  go_wp2;obtain⟨W0,hW0⟩:∃W0,w.alloc (.cells #[int (sA l 0).fld,int (sA l 0).op,int (sA l 0).n,int (sA l 1).fld,int (sA l 1).op,int (sA l 1).n,int (sA l 2).fld,int (sA l 2).op,int (sA l 2).n,int l.length] 80)=W0:=⟨_,rfl⟩
  rw[hW0];have hcal:qA w W0.drew:=by rw[←hW0];exact((cP0 _ _).alloc _).drew
  have hbx:W0.heap[w.heap.size]?=some (.cells #[int (sA l 0).fld,int (sA l 0).op,int (sA l 0).n,int (sA l 1).fld,int (sA l 1).op,int (sA l 1).n,int (sA l 2).fld,int (sA l 2).op,int (sA l 2).n,int l.length] 80):=by rw[←hW0];exact eP0 w _
  have s0:W0.cell? ⟨w.heap.size,0,none⟩=some (int (sA l 0).fld):=xA hbx 0;have s1:W0.cell? ⟨w.heap.size,1,none⟩=some (int (sA l 0).op):=xA hbx 1;have s2:W0.cell? ⟨w.heap.size,2,none⟩=some (int (sA l 0).n):=xA hbx 2;have s3:W0.cell? ⟨w.heap.size,3,none⟩=some (int (sA l 1).fld):=xA hbx 3;have s4:W0.cell? ⟨w.heap.size,4,none⟩=some (int (sA l 1).op):=xA hbx 4;have s5:W0.cell? ⟨w.heap.size,5,none⟩=some (int (sA l 1).n):=xA hbx 5;have s6:W0.cell? ⟨w.heap.size,6,none⟩=some (int (sA l 2).fld):=xA hbx 6;have s7:W0.cell? ⟨w.heap.size,7,none⟩=some (int (sA l 2).op):=xA hbx 7;have s8:W0.cell? ⟨w.heap.size,8,none⟩=some (int (sA l 2).n):=xA hbx 8;have s9:W0.cell? ⟨w.heap.size,9,none⟩=some (int l.length):=xA hbx 9;have HX0:=uA ((yA HX).calm hcal);have HM0:Hid (Mv (fun r=>r=.net) ρ ρ w W0.drew):=zQ0 (yA HX).lt hcal;clear hW0 hbx hcal u1
  go_region_with (go_at_call 126;refine(zJ0 b (86+c*31+4+k*13) ((σ.cl c).age k) ((σ.cl c).age k+1) l W0.drew hwr (((yA HX0).cli c hc).slotEx hk) (((yA HX0).cli c hc).age k hk) (yA HX0).fr).mono ?_;rintro e w1 ⟨rfl,W1,ht1,hw1⟩
                  obtain⟨r1,r2⟩:=(yA HX0).subs hc hk l ht1 hw1;have q1:=(r1.cli c hc).age k hk;rw[show (σ.setCl c ((σ.cl c).subs k l)).cl c=(σ.cl c).subs k l by simp[Net.setCl],show ((σ.cl c).subs k l).age k=(σ.cl c).age k+1 by simp[Cli.subs]] at q1;have R1:=uA r1;have R2:=uA ((yA HM0).trans r2)
                  clear r1 r2 hw1 ht1)
  all_goals go_wp2
  all_goals go_ret
  all_goals exact⟨rfl,_,yA R1,yA R2⟩
set_option maxRecDepth 100000 in
set_option maxHeartbeats 1000000 in
theorem nQ {w:World}{b:Nat}{ρ:zA}{σ:Net}(h:XN w b ρ σ){c k:Nat}(hc:c<4)(hk:k<2):
    Calls Tryz.prog 88 #[.pointer (some ⟨b,86+c*31,none⟩),int k] w fun e w'=>e=.returned (int ((σ.cl c).age k))∧XN w' b ρ (σ.setCl c ((σ.cl c).ends k))∧Mv (fun r=>r=.net) ρ ρ w w':=by
  have hki:(k:Int)<2:=by omega
  have hbl:=h.lt b (by rw[h.net];simp)
  have HX:=uA h;clear h;go_enter Tryz.func88,Tryz.ntmps88
  go_wp2_with (go_at_call 113;refine(zL0 b (86+c*31+4+k*13) ((σ.cl c).age k) _ (((yA HX).cli c hc).slotEx hk) (((yA HX).cli c hc).age k hk) (yA HX).fr).mono ?_;rintro e w1 ⟨rfl,ht1⟩
               obtain⟨r1,r2⟩:=(yA HX).ends hc hk ht1;have q1:=(r1.cli c hc).age k hk;rw[show (σ.setCl c ((σ.cl c).ends k)).cl c=(σ.cl c).ends k by simp[Net.setCl],show ((σ.cl c).ends k).age k=(σ.cl c).age k by rfl] at q1;have R1:=uA r1;have R2:=uA r2
               clear r1 r2 ht1)
  go_ret;exact⟨rfl,yA R1,yA R2⟩
theorem Mv.after {S:Role→Prop}{ρ ρ':zA}{w w' w'':World}{g:Nat}(m:Mv S ρ ρ' w w')(t:Touch (fun i=>i=g) w' w'')(hg:w.heap.size≤g):Mv S ρ ρ' w w'':=
 ⟨⟨t.os.trans m.touch.os,t.tape.trans m.touch.tape,t.output.trans m.touch.output,mO0 m.touch.size t.size,fun i hi hs=>(t.block i (sO0 hi m.touch.size) (by omega)).trans (m.touch.block i hi hs)⟩,m.role,fun i hi=>sO0 (m.lt i hi) t.size⟩
theorem set13 (w:World)(g:Nat)(v0 v1 v2 v3 v4 v5 v6 v7 v8 v9 v10 v11 v12:Value)(h:w.heap[g]?=some (.cells #[int 0,int 0,int 0,int 0,int 0,int 0,int 0,int 0,int 0,int 0,int 0,int 0,int 0] 137)):(((((((((((((w.setCell ⟨g,0,none⟩ v0).setCell ⟨g,1,none⟩ v1).setCell ⟨g,2,none⟩ v2).setCell ⟨g,3,none⟩ v3).setCell ⟨g,4,none⟩ v4).setCell ⟨g,5,none⟩ v5).setCell ⟨g,6,none⟩ v6).setCell ⟨g,7,none⟩ v7).setCell ⟨g,8,none⟩ v8).setCell ⟨g,9,none⟩ v9).setCell ⟨g,10,none⟩ v10).setCell ⟨g,11,none⟩ v11).setCell ⟨g,12,none⟩ v12).heap[g]?=some (.cells #[v0,v1,v2,v3,v4,v5,v6,v7,v8,v9,v10,v11,v12] 137)∧Touch (fun i=>i=g) w (((((((((((((w.setCell ⟨g,0,none⟩ v0).setCell ⟨g,1,none⟩ v1).setCell ⟨g,2,none⟩ v2).setCell ⟨g,3,none⟩ v3).setCell ⟨g,4,none⟩ v4).setCell ⟨g,5,none⟩ v5).setCell ⟨g,6,none⟩ v6).setCell ⟨g,7,none⟩ v7).setCell ⟨g,8,none⟩ v8).setCell ⟨g,9,none⟩ v9).setCell ⟨g,10,none⟩ v10).setCell ⟨g,11,none⟩ v11).setCell ⟨g,12,none⟩ v12):=by
 refine⟨?_,((((((((((((((cP0 (fun i=>i=g) w).setCell (p:=⟨g,0,none⟩) (fun _=>rfl) v0).setCell (p:=⟨g,1,none⟩) (fun _=>rfl) v1).setCell (p:=⟨g,2,none⟩) (fun _=>rfl) v2).setCell (p:=⟨g,3,none⟩) (fun _=>rfl) v3).setCell (p:=⟨g,4,none⟩) (fun _=>rfl) v4).setCell (p:=⟨g,5,none⟩) (fun _=>rfl) v5).setCell (p:=⟨g,6,none⟩) (fun _=>rfl) v6).setCell (p:=⟨g,7,none⟩) (fun _=>rfl) v7).setCell (p:=⟨g,8,none⟩) (fun _=>rfl) v8).setCell (p:=⟨g,9,none⟩) (fun _=>rfl) v9).setCell (p:=⟨g,10,none⟩) (fun _=>rfl) v10).setCell (p:=⟨g,11,none⟩) (fun _=>rfl) v11).setCell (p:=⟨g,12,none⟩) (fun _=>rfl) v12)⟩;have h1:(w.setCell ⟨g,0,none⟩ v0).heap[g]?=some (.cells #[v0,int 0,int 0,int 0,int 0,int 0,int 0,int 0,int 0,int 0,int 0,int 0,int 0] 137):=by rw[dP0 _ g 0 _ 137 v0 h];rfl
 have h2:((w.setCell ⟨g,0,none⟩ v0).setCell ⟨g,1,none⟩ v1).heap[g]?=some (.cells #[v0,v1,int 0,int 0,int 0,int 0,int 0,int 0,int 0,int 0,int 0,int 0,int 0] 137):=by rw[dP0 _ g 1 _ 137 v1 h1];rfl
 have h3:(((w.setCell ⟨g,0,none⟩ v0).setCell ⟨g,1,none⟩ v1).setCell ⟨g,2,none⟩ v2).heap[g]?=some (.cells #[v0,v1,v2,int 0,int 0,int 0,int 0,int 0,int 0,int 0,int 0,int 0,int 0] 137):=by rw[dP0 _ g 2 _ 137 v2 h2];rfl
 have h4:((((w.setCell ⟨g,0,none⟩ v0).setCell ⟨g,1,none⟩ v1).setCell ⟨g,2,none⟩ v2).setCell ⟨g,3,none⟩ v3).heap[g]?=some (.cells #[v0,v1,v2,v3,int 0,int 0,int 0,int 0,int 0,int 0,int 0,int 0,int 0] 137):=by rw[dP0 _ g 3 _ 137 v3 h3];rfl
 have h5:(((((w.setCell ⟨g,0,none⟩ v0).setCell ⟨g,1,none⟩ v1).setCell ⟨g,2,none⟩ v2).setCell ⟨g,3,none⟩ v3).setCell ⟨g,4,none⟩ v4).heap[g]?=some (.cells #[v0,v1,v2,v3,v4,int 0,int 0,int 0,int 0,int 0,int 0,int 0,int 0] 137):=by rw[dP0 _ g 4 _ 137 v4 h4];rfl
 have h6:((((((w.setCell ⟨g,0,none⟩ v0).setCell ⟨g,1,none⟩ v1).setCell ⟨g,2,none⟩ v2).setCell ⟨g,3,none⟩ v3).setCell ⟨g,4,none⟩ v4).setCell ⟨g,5,none⟩ v5).heap[g]?=some (.cells #[v0,v1,v2,v3,v4,v5,int 0,int 0,int 0,int 0,int 0,int 0,int 0] 137):=by rw[dP0 _ g 5 _ 137 v5 h5];rfl
 have h7:(((((((w.setCell ⟨g,0,none⟩ v0).setCell ⟨g,1,none⟩ v1).setCell ⟨g,2,none⟩ v2).setCell ⟨g,3,none⟩ v3).setCell ⟨g,4,none⟩ v4).setCell ⟨g,5,none⟩ v5).setCell ⟨g,6,none⟩ v6).heap[g]?=some (.cells #[v0,v1,v2,v3,v4,v5,v6,int 0,int 0,int 0,int 0,int 0,int 0] 137):=by rw[dP0 _ g 6 _ 137 v6 h6];rfl
 have h8:((((((((w.setCell ⟨g,0,none⟩ v0).setCell ⟨g,1,none⟩ v1).setCell ⟨g,2,none⟩ v2).setCell ⟨g,3,none⟩ v3).setCell ⟨g,4,none⟩ v4).setCell ⟨g,5,none⟩ v5).setCell ⟨g,6,none⟩ v6).setCell ⟨g,7,none⟩ v7).heap[g]?=some (.cells #[v0,v1,v2,v3,v4,v5,v6,v7,int 0,int 0,int 0,int 0,int 0] 137):=by rw[dP0 _ g 7 _ 137 v7 h7];rfl
 have h9:(((((((((w.setCell ⟨g,0,none⟩ v0).setCell ⟨g,1,none⟩ v1).setCell ⟨g,2,none⟩ v2).setCell ⟨g,3,none⟩ v3).setCell ⟨g,4,none⟩ v4).setCell ⟨g,5,none⟩ v5).setCell ⟨g,6,none⟩ v6).setCell ⟨g,7,none⟩ v7).setCell ⟨g,8,none⟩ v8).heap[g]?=some (.cells #[v0,v1,v2,v3,v4,v5,v6,v7,v8,int 0,int 0,int 0,int 0] 137):=by rw[dP0 _ g 8 _ 137 v8 h8];rfl
 have h10:((((((((((w.setCell ⟨g,0,none⟩ v0).setCell ⟨g,1,none⟩ v1).setCell ⟨g,2,none⟩ v2).setCell ⟨g,3,none⟩ v3).setCell ⟨g,4,none⟩ v4).setCell ⟨g,5,none⟩ v5).setCell ⟨g,6,none⟩ v6).setCell ⟨g,7,none⟩ v7).setCell ⟨g,8,none⟩ v8).setCell ⟨g,9,none⟩ v9).heap[g]?=some (.cells #[v0,v1,v2,v3,v4,v5,v6,v7,v8,v9,int 0,int 0,int 0] 137):=by rw[dP0 _ g 9 _ 137 v9 h9];rfl
 have h11:(((((((((((w.setCell ⟨g,0,none⟩ v0).setCell ⟨g,1,none⟩ v1).setCell ⟨g,2,none⟩ v2).setCell ⟨g,3,none⟩ v3).setCell ⟨g,4,none⟩ v4).setCell ⟨g,5,none⟩ v5).setCell ⟨g,6,none⟩ v6).setCell ⟨g,7,none⟩ v7).setCell ⟨g,8,none⟩ v8).setCell ⟨g,9,none⟩ v9).setCell ⟨g,10,none⟩ v10).heap[g]?=some (.cells #[v0,v1,v2,v3,v4,v5,v6,v7,v8,v9,v10,int 0,int 0] 137):=by rw[dP0 _ g 10 _ 137 v10 h10];rfl
 have h12:((((((((((((w.setCell ⟨g,0,none⟩ v0).setCell ⟨g,1,none⟩ v1).setCell ⟨g,2,none⟩ v2).setCell ⟨g,3,none⟩ v3).setCell ⟨g,4,none⟩ v4).setCell ⟨g,5,none⟩ v5).setCell ⟨g,6,none⟩ v6).setCell ⟨g,7,none⟩ v7).setCell ⟨g,8,none⟩ v8).setCell ⟨g,9,none⟩ v9).setCell ⟨g,10,none⟩ v10).setCell ⟨g,11,none⟩ v11).heap[g]?=some (.cells #[v0,v1,v2,v3,v4,v5,v6,v7,v8,v9,v10,v11,int 0] 137):=by rw[dP0 _ g 11 _ 137 v11 h11];rfl
 have h13:(((((((((((((w.setCell ⟨g,0,none⟩ v0).setCell ⟨g,1,none⟩ v1).setCell ⟨g,2,none⟩ v2).setCell ⟨g,3,none⟩ v3).setCell ⟨g,4,none⟩ v4).setCell ⟨g,5,none⟩ v5).setCell ⟨g,6,none⟩ v6).setCell ⟨g,7,none⟩ v7).setCell ⟨g,8,none⟩ v8).setCell ⟨g,9,none⟩ v9).setCell ⟨g,10,none⟩ v10).setCell ⟨g,11,none⟩ v11).setCell ⟨g,12,none⟩ v12).heap[g]?=some (.cells #[v0,v1,v2,v3,v4,v5,v6,v7,v8,v9,v10,v11,v12] 137):=by rw[dP0 _ g 12 _ 137 v12 h12];rfl
 exact h13
theorem dC (a:Option Addr)(cap:Nat)(l:List Tst)(w:World)(hl:yB l=true)(ht:TestsAt w a l):
  Calls Tryz.prog 110 #[.slice a l.length cap] w fun e w'=>e=.returned (.tuple #[.agg #[int (sA l 0).fld,int (sA l 0).op,int (sA l 0).n,int (sA l 1).fld,int (sA l 1).op,int (sA l 1).n,int (sA l 2).fld,int (sA l 2).op,int (sA l 2).n,int l.length],.bool true])∧qA w w':=vT a cap l w hl ht
set_option maxHeartbeats 400000 in
theorem aK0 (b o:Nat)(w:World)(h:w.cell? ⟨b,o+4,none⟩=some (.bool true))(h1:w.cell? ⟨b,o+4+13,none⟩=some (.bool false)):Calls Tryz.prog 111 #[.pointer (some ⟨b,o,none⟩)] w fun e w'=>e=.returned (.tuple #[int 1,.bool true])∧w'=w:=by
 go_enter Tryz.func111,Tryz.ntmps111
 go_wp2;refine wp_loop_rounds 2 ?_;rw[rounds_succ]
 go_wp2;rw[rounds_succ]
 go_wp2;go_ret2
 exact⟨rfl,rfl⟩
set_option maxHeartbeats 400000 in
theorem lH0 (b o:Nat)(w:World)(h:w.cell? ⟨b,o+4,none⟩=some (.bool true))(h1:w.cell? ⟨b,o+4+13,none⟩=some (.bool true)):Calls Tryz.prog 111 #[.pointer (some ⟨b,o,none⟩)] w fun e w'=>e=.returned (.tuple #[int 0,.bool false])∧w'=w:=by
 go_enter Tryz.func111,Tryz.ntmps111
 go_wp2;refine wp_loop_rounds 3 ?_;rw[rounds_succ]
 go_wp2;rw[rounds_succ]
 go_wp2;rw[rounds_succ]
 go_wp2;go_ret2
 exact⟨rfl,rfl⟩
theorem uW {w:World}{b:Nat}{ρ:zA}{σ:Net}(h:XN w b ρ σ){c:Nat}(hc:c<4)(hu:(σ.cl c).used (σ.slot c)=false):Calls Tryz.prog 111 #[.pointer (some ⟨b,86+c*31,none⟩)] w fun e w'=>e=.returned (.tuple #[int (σ.slot c:Nat),.bool true])∧w'=w:=by
 have C:=h.cli c hc;have u0:=C.used 0 (by omega);have u1:=C.used 1 (by omega);unfold Net.slot at hu ⊢;cases h0:(σ.cl c).used 0 with
 | false=>
  rw[h0] at u0;simp only[Bool.false_eq_true,if_false];exact mH0 b (86+c*31) w u0
 | true=>
  rw[h0] at u0;simp only[h0,if_true] at hu ⊢;rw[hu] at u1;exact aK0 b (86+c*31) w u0 u1
set_option maxRecDepth 100000 in
set_option maxHeartbeats 2000000 in
theorem uX {w:World}{b:Nat}{ρ:zA}{σ:Net}(h:XN w b ρ σ){m:Nat}(F:Fit σ m)(hm:m<2000000000000){c x k:Nat}(hc:c<4)(hh:(σ.cl c).here=some x)(hk0:σ.slot c=k)(hu:(σ.cl c).used k=false)(hwt:σ.waits c=false)
    (hful:σ.full=false) {l:List Tst} (hl:yB l=true) {a:Option Addr} (ht:TestsAt w a l) (cap:Nat):
    Calls Tryz.prog 85 #[.pointer (some ⟨b,0,none⟩),int c,.slice a l.length cap] w fun e w'=>e=.returned (.tuple #[int k,int 0])∧∃ρ',XN w' b ρ' ((σ.setCl c ((σ.cl c).subs k l)).handle x none (.sub (2*c+k) ((σ.cl c).age k+1) l))∧Mv uB ρ ρ' w w':=by
  have T:=F.good.tree;have hx:x<σ.n:=(F.good.clis c hc).here x hh;have hx6:x<6:=sO0 hx (gB T);have hk:k<2:=by rw[←hk0];unfold Net.slot;split<;>omega
  have hki:(k:Int)<2:=by omega
  have hage:-1≤(σ.cl c).age k∧(σ.cl c).age k<2199023255552:=by have:=(F.r.nums.cl c).age k;omega
  have hwt2:lD σ c=false:=by rw[F.live.waits_eq hc];exact hwt
  have hcc:dA (c:Int)=true:=jC hc;have hci:(c:Int)<4:=by omega
  have hct:chk true=0:=rfl;have hxm:((x:Int) == -1)=false:=by rw[iE];exact pP0 (by omega)
  have HX:=uA h;have HF:=uA F;have HH:=uA hh;have HU:=uA hu;have HT:=uA ht;have HL:=uA hl;clear h F hh hu ht hl hwt;go_enter Tryz.func85,Tryz.ntmps85
  go_wp2_with (first
    | (go_at_call 110;refine(dC a cap l _ (yA HL) (yA HT)).mono ?_;rintro r w1 ⟨rfl,ht1⟩
       obtain⟨W,hW⟩:∃W,w1.alloc (.cells #[int (sA l 0).fld,int (sA l 0).op,int (sA l 0).n,int (sA l 1).fld,int (sA l 1).op,int (sA l 1).n,int (sA l 2).fld,int (sA l 2).op,int (sA l 2).n,int l.length] 80)=W:=⟨_,rfl⟩;have hcW:qA w W:=by rw[←hW];exact ht1.alloc _
       have hbx:W.heap[w1.heap.size]?=some (.cells #[int (sA l 0).fld,int (sA l 0).op,int (sA l 0).n,int (sA l 1).fld,int (sA l 1).op,int (sA l 1).n,int (sA l 2).fld,int (sA l 2).op,int (sA l 2).n,int l.length] 80):=by rw[←hW];exact eP0 w1 _
       have HXW:=uA ((yA HX).calm hcW);have HMW:Hid (Mv uB ρ ρ w W):=zQ0 (yA HX).lt hcW;have HBX:=uA hbx;have hw1s:Hid (w.heap.size≤w1.heap.size):=ht1.size;have hcl:=(yA HXW).closed;have hat:W.cell? ⟨b,86+c*31,none⟩=some (int x):=by have:=((yA HXW).cli c hc).here;rw[yA HH] at this;exact this
       clear ht1 hcW hbx)
    | (go_at_call 26;refine(aA _ _).mono ?_;rw[hcc];rintro r w2 ⟨rfl,hw2⟩;have hw2:=hw2.symm;subst hw2)
    | (go_at_call 25;refine(sB _ _ _ hcl).mono ?_;rintro r w2 ⟨rfl,hw2⟩;have hw2:=hw2.symm;subst hw2)
    | (go_at_call 111;refine(uW (yA HXW) hc (by rw[hk0];exact yA HU)).mono ?_;rw[hk0];rintro r w2 ⟨rfl,hw2⟩;have hw2:=hw2.symm;subst hw2)
    | (go_at_call 32;refine(zC b (86+c*31) x _ hat).mono ?_;rw[hxm];rintro r w2 ⟨rfl,hw2⟩;have hw2:=hw2.symm;subst hw2)
    | (go_at_call 28;refine(mG (yA HXW) hc (fun y hy=>by rw[yA HH] at hy;cases hy;exact hx6)).mono ?_;rw[hwt2];rintro r w2 ⟨rfl,htw⟩
       have HTW:=uA htw;have HXV:=uA ((yA HXW).calm htw)
       clear htw)
    | (go_at_call 33;refine(yO (yA HXV) (yA HF)).mono ?_;rw[hful];rintro r w3 ⟨rfl,ht3'⟩
       have ht3:=(yA HTW).trans ht3'
       clear ht3'))
  have hb3:=(ht3.block _ (tO0.1 (yA HBX)).1 id).trans (yA HBX);have hb3l:w1.heap.size<w3.heap.size:=(tO0.1 hb3).1;have p0:w3.cell? ⟨w1.heap.size,0,none⟩=some (int (sA l 0).fld):=xA hb3 0;have p1:w3.cell? ⟨w1.heap.size,1,none⟩=some (int (sA l 0).op):=xA hb3 1;have p2:w3.cell? ⟨w1.heap.size,2,none⟩=some (int (sA l 0).n):=xA hb3 2;have p3:w3.cell? ⟨w1.heap.size,3,none⟩=some (int (sA l 1).fld):=xA hb3 3;have p4:w3.cell? ⟨w1.heap.size,4,none⟩=some (int (sA l 1).op):=xA hb3 4;have p5:w3.cell? ⟨w1.heap.size,5,none⟩=some (int (sA l 1).n):=xA hb3 5;have p6:w3.cell? ⟨w1.heap.size,6,none⟩=some (int (sA l 2).fld):=xA hb3 6;have p7:w3.cell? ⟨w1.heap.size,7,none⟩=some (int (sA l 2).op):=xA hb3 7;have p8:w3.cell? ⟨w1.heap.size,8,none⟩=some (int (sA l 2).n):=xA hb3 8;have p9:w3.cell? ⟨w1.heap.size,9,none⟩=some (int l.length):=xA hb3 9;have HX3:=uA ((yA HXW).calm ht3);have HM3:=uA ((yA HMW).trans (zQ0 (yA HXW).lt ht3));have hn1:ρ w1.heap.size=none:=by
    cases hq:ρ w1.heap.size with
    | none=>rfl
    | some r=>have h1:=(yA HX).lt w1.heap.size (by rw[hq];simp);have h2:=yA hw1s;omega
  have hn3:ρ w3.heap.size=none:=by
    cases hq:ρ w3.heap.size with
    | none=>rfl
    | some r=>have h1:=(yA HX).lt w3.heap.size (by rw[hq];simp);have h2:=yA hw1s;omega
  have HB3:=uA hb3;have HN1:=uA hn1;have HN3:=uA hn3;generalize hA:(σ.cl c).age k+1=A at*;clear ht3 hb3 hn1 hn3 HXW HMW hcl hat hW HBX HTW HXV;go_cut [14] (fun s wx=>∃g ρ4,s=ptr g∧wx.heap[g]?=some (.cells #[int c,int k,int A,int (sA l 0).fld,int (sA l 0).op,int (sA l 0).n,int (sA l 1).fld,int (sA l 1).op,int (sA l 1).n,int (sA l 2).fld,int (sA l 2).op,int (sA l 2).n,int l.length] 137)∧XN wx b ρ4 (σ.setCl c ((σ.cl c).subs k l))∧Mv uB ρ ρ4 w wx∧ρ4 g=none)
  case first=>
    go_region_with (first
      | (go_at_call 112;refine(tM (w:=w3.drew) (σ:=σ) (ρ:=ρ) (k:=k) ((yA HX3).calm (cP0 _ _).drew) hc hk l hage).mono ?_;rw[hA];rintro r w4 ⟨rfl,ρ4,h4,m4⟩
         have hb4:=(m4.touch.block w1.heap.size hb3l (fun ⟨r,h1,_⟩=>by rw[yA HN1] at h1;cases h1)).trans (yA HB3)
         have hb4l:w1.heap.size<w4.heap.size:=(tO0.1 hb4).1;have q0:w4.cell? ⟨w1.heap.size,0,none⟩=some (int (sA l 0).fld):=xA hb4 0;have q1:w4.cell? ⟨w1.heap.size,1,none⟩=some (int (sA l 0).op):=xA hb4 1;have q2:w4.cell? ⟨w1.heap.size,2,none⟩=some (int (sA l 0).n):=xA hb4 2;have q3:w4.cell? ⟨w1.heap.size,3,none⟩=some (int (sA l 1).fld):=xA hb4 3;have q4:w4.cell? ⟨w1.heap.size,4,none⟩=some (int (sA l 1).op):=xA hb4 4;have q5:w4.cell? ⟨w1.heap.size,5,none⟩=some (int (sA l 1).n):=xA hb4 5;have q6:w4.cell? ⟨w1.heap.size,6,none⟩=some (int (sA l 2).fld):=xA hb4 6;have q7:w4.cell? ⟨w1.heap.size,7,none⟩=some (int (sA l 2).op):=xA hb4 7;have q8:w4.cell? ⟨w1.heap.size,8,none⟩=some (int (sA l 2).n):=xA hb4 8;have q9:w4.cell? ⟨w1.heap.size,9,none⟩=some (int l.length):=xA hb4 9;have H4:=uA h4;have M4:=uA ((yA HM3).trans ((zQ0 (yA HX3).lt (cP0 _ _).drew).trans (m4.mono (fun _ _=>trivial))));have L4:=uA h4.lt
         clear h4 m4 hb4)
      | (go_at_call 112;refine(tM (w:=(w3.alloc (.cells #[int 0,int 0,int 0,int 0,int 0,int 0,int 0,int 0,int 0,int 0,int 0,int 0,int 0] 137)).drew) (σ:=σ) (ρ:=ρ) (k:=k) ((yA HX3).calm ((cP0 _ _).alloc _).drew) hc hk l hage).mono ?_;rw[hA];rintro r w4 ⟨rfl,ρ4,h4,m4⟩
         have hb4:=(m4.touch.block w1.heap.size (by simp[World.drew];omega) (fun ⟨r,h1,_⟩=>by rw[yA HN1] at h1;cases h1)).trans ((kP0 _ _ _ hb3l).trans (yA HB3))
         have hb4l:w1.heap.size<w4.heap.size:=(tO0.1 hb4).1;have hz4:=(m4.touch.block w3.heap.size (by simp[World.drew]) (fun ⟨r,h1,_⟩=>by rw[yA HN3] at h1;cases h1)).trans (eP0 w3 (.cells #[int 0,int 0,int 0,int 0,int 0,int 0,int 0,int 0,int 0,int 0,int 0,int 0,int 0] 137))
         have hz4l:w3.heap.size<w4.heap.size:=(tO0.1 hz4).1;have q0:w4.cell? ⟨w1.heap.size,0,none⟩=some (int (sA l 0).fld):=xA hb4 0;have q1:w4.cell? ⟨w1.heap.size,1,none⟩=some (int (sA l 0).op):=xA hb4 1;have q2:w4.cell? ⟨w1.heap.size,2,none⟩=some (int (sA l 0).n):=xA hb4 2;have q3:w4.cell? ⟨w1.heap.size,3,none⟩=some (int (sA l 1).fld):=xA hb4 3;have q4:w4.cell? ⟨w1.heap.size,4,none⟩=some (int (sA l 1).op):=xA hb4 4;have q5:w4.cell? ⟨w1.heap.size,5,none⟩=some (int (sA l 1).n):=xA hb4 5;have q6:w4.cell? ⟨w1.heap.size,6,none⟩=some (int (sA l 2).fld):=xA hb4 6;have q7:w4.cell? ⟨w1.heap.size,7,none⟩=some (int (sA l 2).op):=xA hb4 7;have q8:w4.cell? ⟨w1.heap.size,8,none⟩=some (int (sA l 2).n):=xA hb4 8;have q9:w4.cell? ⟨w1.heap.size,9,none⟩=some (int l.length):=xA hb4 9;have z0:w4.cell? ⟨w3.heap.size,0,none⟩=some (int 0):=xA hz4 0;have z1:w4.cell? ⟨w3.heap.size,1,none⟩=some (int 0):=xA hz4 1;have z2:w4.cell? ⟨w3.heap.size,2,none⟩=some (int 0):=xA hz4 2;have z3:w4.cell? ⟨w3.heap.size,3,none⟩=some (int 0):=xA hz4 3;have z4:w4.cell? ⟨w3.heap.size,4,none⟩=some (int 0):=xA hz4 4;have z5:w4.cell? ⟨w3.heap.size,5,none⟩=some (int 0):=xA hz4 5;have z6:w4.cell? ⟨w3.heap.size,6,none⟩=some (int 0):=xA hz4 6;have z7:w4.cell? ⟨w3.heap.size,7,none⟩=some (int 0):=xA hz4 7;have z8:w4.cell? ⟨w3.heap.size,8,none⟩=some (int 0):=xA hz4 8;have z9:w4.cell? ⟨w3.heap.size,9,none⟩=some (int 0):=xA hz4 9;have z10:w4.cell? ⟨w3.heap.size,10,none⟩=some (int 0):=xA hz4 10;have z11:w4.cell? ⟨w3.heap.size,11,none⟩=some (int 0):=xA hz4 11;have z12:w4.cell? ⟨w3.heap.size,12,none⟩=some (int 0):=xA hz4 12;have zf:=bA hz4;have H4:=uA h4;have M4:=uA ((yA HM3).trans ((zQ0 (yA HX3).lt ((cP0 _ _).alloc _).drew).trans (m4.mono (fun _ _=>trivial))));have L4:=uA h4.lt;have HZ:=uA hz4;have HR:=uA (m4.noRole (k:=w3.heap.size) (by simp[World.drew]) (yA HN3))
         clear h4 m4 hb4 hz4))
    all_goals go_wp2_with fail
    all_goals go_meet
    all_goals first
      | (obtain⟨s1,s2⟩:=set13 w4 w3.heap.size (int c) (int k) (int A) (int (sA l 0).fld) (int (sA l 0).op) (int (sA l 0).n) (int (sA l 1).fld) (int (sA l 1).op) (int (sA l 1).n) (int (sA l 2).fld) (int (sA l 2).op) (int (sA l 2).n) (int l.length) (yA HZ)
         have hn4:ρ4 w3.heap.size=none:=yA HR
         exact⟨w3.heap.size,ρ4,rfl,s1,(yA H4).keep s2 (fun i hi e=>by subst e;exact hi hn4),(yA M4).after s2 (by have:=yA hw1s;omega),hn4⟩)
      | (have hn4:ρ4 w4.heap.size=none:=by
           cases hq:ρ4 w4.heap.size with
           | none=>rfl
           | some r=>have h1:=yA L4 w4.heap.size (by rw[hq];simp);omega
         exact⟨w4.heap.size,ρ4,rfl,eP0 w4 _,(yA H4).calm ((cP0 _ _).alloc _),(yA M4).trans (zQ0 (yA L4) ((cP0 _ _).alloc _)),hn4⟩)
  case rest=>
    obtain⟨g,ρ4,rfl,hbx,hXC,hMC,hgn⟩:=hcut;have hcl':(σ.setCl c ((σ.cl c).subs k l)).cl c=(σ.cl c).subs k l:=by simp[Net.setCl]
    have CC:=hXC.cli c hc;rw[hcl'] at CC;have q0:wc.cell? ⟨b,86+c*31,none⟩=some (int x):=by have:=CC.here;rw[show ((σ.cl c).subs k l).here=(σ.cl c).here from rfl,yA HH] at this;exact this
    have e0:wc.cell? ⟨g,0,none⟩=some (int c):=xA hbx 0;have e1:wc.cell? ⟨g,1,none⟩=some (int k):=xA hbx 1;have e2:wc.cell? ⟨g,2,none⟩=some (int A):=xA hbx 2;have e3:wc.cell? ⟨g,3,none⟩=some (int (sA l 0).fld):=xA hbx 3;have e4:wc.cell? ⟨g,4,none⟩=some (int (sA l 0).op):=xA hbx 4;have e5:wc.cell? ⟨g,5,none⟩=some (int (sA l 0).n):=xA hbx 5;have e6:wc.cell? ⟨g,6,none⟩=some (int (sA l 1).fld):=xA hbx 6;have e7:wc.cell? ⟨g,7,none⟩=some (int (sA l 1).op):=xA hbx 7;have e8:wc.cell? ⟨g,8,none⟩=some (int (sA l 1).n):=xA hbx 8;have e9:wc.cell? ⟨g,9,none⟩=some (int (sA l 2).fld):=xA hbx 9;have e10:wc.cell? ⟨g,10,none⟩=some (int (sA l 2).op):=xA hbx 10;have e11:wc.cell? ⟨g,11,none⟩=some (int (sA l 2).n):=xA hbx 11;have e12:wc.cell? ⟨g,12,none⟩=some (int l.length):=xA hbx 12;have hgl:g<wc.heap.size:=fP0 e0;have hbc:=hXC.lt b (by rw[hXC.net];simp)
    have hcan:tI (σ.setCl c ((σ.cl c).subs k l)) x none (.sub (2*c+k) A l):=by show 2*c+k<8;omega
    have hFF:FrAt (wc.alloc (.cells #[int 0,int c,int k,int A,int (sA l 0).fld,int (sA l 0).op,int (sA l 0).n,int (sA l 1).fld,int (sA l 1).op,int (sA l 1).n,int (sA l 2).fld,int (sA l 2).op,int (sA l 2).n,int l.length,int 0,int 0,int 0,int 0,int 0,int 0,int 0,int 0,rA,int 0] 142)).drew (iA ρ4 wc.heap.size .frame) (.sub (2*c+k) A l) wc.heap.size:=by
      refine⟨by simp[iA],0,[int 0,int 0,int 0,int 0,int 0,int 0,int 0,int 0,int 0,int 0],rA,?_,rfl,by simp[Value.oneCell'],⟨⟨rfl,Or.inl ⟨rfl,rfl⟩⟩,fun g hg=>by cases hg⟩⟩;rw[oP c k hk];exact eP0 wc _
    obtain⟨hXF,hMF⟩:=hXC.addFrame (w':=(wc.alloc (.cells #[int 0,int c,int k,int A,int (sA l 0).fld,int (sA l 0).op,int (sA l 0).n,int (sA l 1).fld,int (sA l 1).op,int (sA l 1).n,int (sA l 2).fld,int (sA l 2).op,int (sA l 2).n,int l.length,int 0,int 0,int 0,int 0,int 0,int 0,int 0,int 0,rA,int 0] 142)).drew) (((cP0 _ _).alloc _).drew) (qO0 _) (by simp[World.drew]);have HXF:=uA hXF;have HMF:=uA hMF;have HFF:=uA hFF;have HLEN:Hid (∀z,((σ.setCl c ((σ.cl c).subs k l)).q x z).length<2000):=fun z=>(yA HF).len x z;have HXC:=uA hXC;have HMC:=uA hMC;have HCAN:=uA hcan;clear hXC hMC CC hcan hXF hMF hFF hbx hcl' p0 p1 p2 p3 p4 p5 p6 p7 p8 p9;go_wp2_with fail
    go_cut [] (fun wx=>∃ρ',XN wx b ρ' ((σ.setCl c ((σ.cl c).subs k l)).handle x none (.sub (2*c+k) A l))∧Mv uB ρ ρ' w wx)
    case first=>
      go_region_with (first
        | (go_at_call 49;refine(iF b (86+c*31) x _ (by go_simp)).mono ?_;rintro r w5 ⟨rfl,rfl⟩)
        | (go_at_call 48;refine(iI (fr:=none) (yA HXF) T hx (yA HLEN) (yA HCAN) (yA HFF)).mono ?_;rintro r w6 ⟨rfl,ρ6,h6,m6⟩))
      all_goals go_wp2_with fail
      all_goals go_meet
      all_goals exact⟨ρ6,h6,((yA HMC).trans ((yA HMF).mono (fun _ f=>f.elim))).trans m6⟩
    case rest=>
      obtain⟨ρ',h7,m7⟩:=hcut;have H7:=uA h7;have M7:=uA m7;clear h7 m7 q0 e0 e1 e2 e3 e4 e5 e6 e7 e8 e9 e10 e11 e12;go_wp2;go_ret2;exact⟨rfl,ρ',by rw[hA];exact yA H7,yA M7⟩
end Go.Proofs.YtodfcpblcpogiaaGreat

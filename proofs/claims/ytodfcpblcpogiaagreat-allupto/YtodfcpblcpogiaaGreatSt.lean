import Derived.Test.YtodfcpblcpogiaaGreatSta
namespace Go.Proofs.YtodfcpblcpogiaaGreat
open Go.RowKit
theorem Mv.later {S:Role→Prop}{ρ ρ':zA}{w w' w'':World}{g:Nat}(m:Mv S ρ ρ' w w')(t:Touch (fun i=>i=g) w' w'')(hg:w.heap.size≤g):Mv S ρ ρ' w w'':=
 ⟨⟨t.os.trans m.touch.os,t.tape.trans m.touch.tape,t.output.trans m.touch.output,mO0 m.touch.size t.size,fun i hi hs=>(t.block i (sO0 hi m.touch.size) (by omega)).trans (m.touch.block i hi hs)⟩,m.role,fun i hi=>sO0 (m.lt i hi) t.size⟩
structure HapAt (w wr:World)(b:Nat)(ρ ρ':zA)(τ:Net)(cs ts:Array Value):Prop where
 net:RG wr b ρ' τ
 mv:Mv uB ρ ρ' w wr
 box:wr.heap[w.heap.size]?=some (.cells cs 133)
 tob:wr.heap[w.heap.size+1]?=some (.cells ts 162)
 non:ρ' w.heap.size=none
 non1:ρ' (w.heap.size+1)=none
section
variable {w wr w2 : World} {b : Nat} {ρ ρ1 ρ2 : Nat → Option Role} {τ τ2 : Net} {cs ts : Array Value}
theorem HapAt.step (h:HapAt w wr b ρ ρ1 τ cs ts){S:Role→Prop}(m:Mv S ρ1 ρ2 wr w2)(hn:RG w2 b ρ2 τ2):HapAt w w2 b ρ ρ2 τ2 cs ts:=by
 have l0:=(tO0.1 h.box).1;have l1:=(tO0.1 h.tob).1;exact⟨hn,h.mv.trans (m.mono (fun _ _=>trivial)),(m.touch.block _ l0 (fun ⟨r,e,_⟩=>by rw[h.non] at e;cases e)).trans h.box,(m.touch.block _ l1 (fun ⟨r,e,_⟩=>by rw[h.non1] at e;cases e)).trans h.tob,m.noRole l0 h.non,m.noRole l1 h.non1⟩
theorem HapAt.calm (h:HapAt w wr b ρ ρ1 τ cs ts)(t:qA wr w2):HapAt w w2 b ρ ρ1 τ cs ts:=h.step (S:=uB) (zQ0 h.net.lt t) (h.net.calm t)
theorem HapAt.flag (h:HapAt w wr b ρ ρ1 τ cs ts)(y:Nat)(v:Value):HapAt w (wr.setCell ⟨w.heap.size+1,y,none⟩ v) b ρ ρ1 τ cs (ts.setIfInBounds y v):=by
 have t:Touch (fun i=>i=w.heap.size+1) wr (wr.setCell ⟨w.heap.size+1,y,none⟩ v):=(cP0 (fun i=>i=w.heap.size+1) wr).setCell (p:=⟨w.heap.size+1,y,none⟩) (fun _=>rfl) v;exact⟨h.net.still t (fun k e=>by subst e;exact h.non1),h.mv.later t (by omega),(t.block _ (tO0.1 h.box).1 (by omega)).trans h.box,dP0 _ _ _ _ _ _ h.tob,h.non,h.non1⟩
end
theorem hH0 {w:World}{ρ:zA}(e:News)(a1 a2:Int):FrG w ρ (.event e) (.agg #[int 3,int a1,int a2,int 0,int 0,rA,int e.ev.pub,int e.ev.num,int e.ev.f0,int e.ev.f1,int e.ev.f2,int e.stay,int 0,int 0,rA,int 0]):=
 ⟨_,_,_,_,_,_,_,_,_,_,_,_,_,_,_,_,rfl,rfl,rfl,fun _ _=>rfl⟩
set_option maxRecDepth 100000 in
set_option maxHeartbeats 16000000 in
theorem fA0 {w:World}{b:Nat}{ρ:zA}{σ:Net}(h:RG w b ρ σ){x:Nat}{fr:Option Nat}(hx:x<σ.n)(hlen:∀a y,(σ.q a y).length<2000){m:Nat}(Wm:Warm σ m)(hm:m<2000000000000)
    {e:News} (he:e.lim (m+1)) (a1 a2:Int):
    Calls Tryz.prog 51 #[.pointer (some ⟨b,0,none⟩),int x,.agg #[int 3,int a1,int a2,int 0,int 0,rA,int e.ev.pub,int e.ev.num,int e.ev.f0,int e.ev.f1,int e.ev.f2,int e.stay,int 0,int 0,rA,int 0],int (whr fr)] w fun r w'=>r=.returned (.tuple #[])∧∃ρ',RG w' b ρ' (σ.happens x e fr)∧Mv uB ρ ρ' w w':=by
  have G:=Wm.live.good;have T:=G.tree;have hs6:σ.n≤6:=gB T;have hx6:x<6:=sO0 hx hs6;have hnon:∀i,w.heap.size≤i→ρ i=none:=fun i hi=>by
    cases hq:ρ i with
    | none=>rfl
    | some r=>have:=h.lt i (by rw[hq];simp);omega
  have HW:Hid (HapAt w ((w.alloc (.cells #[int 3,int a1,int a2,int 0,int 0,rA,int e.ev.pub,int e.ev.num,int e.ev.f0,int e.ev.f1,int e.ev.f2,int e.stay,int 0,int 0,rA,int 0] 133)).alloc (.cells #[.bool false,.bool false,.bool false,.bool false,.bool false,.bool false] 162)) b ρ ρ σ #[int 3,int a1,int a2,int 0,int 0,rA,int e.ev.pub,int e.ev.num,int e.ev.f0,int e.ev.f1,int e.ev.f2,int e.stay,int 0,int 0,rA,int 0] (vD (yE σ x e fr 0))):=uA (by
    have t:qA w ((w.alloc (.cells #[int 3,int a1,int a2,int 0,int 0,rA,int e.ev.pub,int e.ev.num,int e.ev.f0,int e.ev.f1,int e.ev.f2,int e.stay,int 0,int 0,rA,int 0] 133)).alloc (.cells #[.bool false,.bool false,.bool false,.bool false,.bool false,.bool false] 162)):=((cP0 _ _).alloc _).alloc _;refine⟨h.calm t,zQ0 h.lt t,?_,?_,hnon _ (qO0 _),hnon _ (by omega)⟩
    · rw[kP0 _ _ _ (by simp only[World.size_alloc];omega)];exact eP0 w _
    · rw[kF0];have:=eP0 (w.alloc (.cells #[int 3,int a1,int a2,int 0,int 0,rA,int e.ev.pub,int e.ev.num,int e.ev.f0,int e.ev.f1,int e.ev.f2,int e.stay,int 0,int 0,rA,int 0] 133)) (.cells #[.bool false,.bool false,.bool false,.bool false,.bool false,.bool false] 162);simpa using this)
  have HG:=uA G;have HWM:=uA Wm;have HE:=uA he;have HLEN:=uA hlen;have HF8:Hid (σ.happens x e fr=(σ.hears x e (List.range 8)).pushAll x (yF σ x e fr σ.n) (.event e)):=uA (by rw[eD0 G];rfl);obtain⟨z,hz⟩:∃z,z=whr fr:=⟨_,rfl⟩;rw[←hz];have HZ:=uA hz;have hxI:(x:Int)<6:=by omega
  clear h hnon hz G Wm he hlen;go_enter Tryz.func51,Tryz.ntmps51
  go_wp2;go_loopw [9] (fun p wr=>∃s:Nat,s≤8∧p=int s∧∃ρ',HapAt w wr b ρ ρ' (σ.hears x e (List.range s)) #[int 3,int a1,int a2,int 0,int 0,rA,int e.ev.pub,int e.ev.num,int e.ev.f0,int e.ev.f1,int e.ev.f2,int e.stay,int 0,int 0,rA,int 0] (vD (yE σ x e fr s))) (fun p _=>8-(intOf p).toNat)
  case atStart=>exact⟨0,by omega,rfl,ρ,yA HW⟩
  case round=>
    obtain⟨s,hs,rfl,ρ1,hS⟩:=hrel;by_cases hs8:s<8
    · have hsI:(s:Int)<8:=by omega
      have hkn:(σ.hears x e (List.range s)).kn x s=σ.kn x s:=dG x e x (List.range s) σ (by simp);have hsu:σ.hears x e (List.range (s+1))=(σ.hears x e (List.range s)).hear x e s:=by rw[List.range_succ,eG]
      have hWs:=Warm.hears hx6 (List.range s) (yA HWM) (yA HE) (fun t ht=>by have:=yP0.1 ht;omega);rw[List.length_range] at hWs;cases hf:σ.kn x s with
      | none=>
        have HC:=uA (hS.net.noFact (hkn.trans hf));have HN:Hid (HapAt w wr b ρ ρ1 (σ.hears x e (List.range (s+1))) #[int 3,int a1,int a2,int 0,int 0,rA,int e.ev.pub,int e.ev.num,int e.ev.f0,int e.ev.f1,int e.ev.f2,int e.stay,int 0,int 0,rA,int 0] (vD (yE σ x e fr (s+1)))):=uA (by rw[hsu,rH0 (hkn.trans hf),zP (zC0 hf)];exact hS);clear hS hkn hsu hf hWs;go_wp2_with (go_at_call 39;refine(yA HC).mono ?_;rintro r w1 ⟨rfl,hw1⟩;have hw1:=hw1.symm;subst hw1);go_roundw
        case rel=>exact⟨s+1,by omega,by go_num,ρ1,yA HN⟩
        case measure=>simp[intOf];omega
      | some f=>
        have hkf:=hkn.trans hf;have hgood:=((yA HG).facts x s f hf).fil;have hmo0:=((yA HG).facts x s f hf).more;have hway6:∀y,f.way=some y→y<6:=fun y hy=>(dB T (((yA HG).facts x s f hf).way y hy)).2;have hkl:=hWs.keptLe hx6 hs8 hkf;have hmol:=(hWs.nums.kn x s f hkf).more;obtain⟨i,g,nn,cap,hFA,hC39⟩:=hS.net.factAt hkf;obtain⟨b2,hin,hn48⟩:=hFA.row;have hgr:=hFA.role;have HGFZ:=uA hFA.fz;obtain⟨fv,kv,hfl,hkr,c0,c1,c2,c3,c4,c5,c6,c7⟩:=hFA.cells;obtain⟨af,capf,rfl,hta⟩:=hfl.tests;have hiI:(i:Int)<nn:=by omega
        have hgl:g<wr.heap.size:=hS.net.lt g (by rw[hgr];simp)
        have hath:((σ.hears x e (List.range s)).cl (s/2)).here=(σ.cl (s/2)).here:=(kT x e (s/2) (List.range s) σ).1;have hcl:s/2<4:=by omega
        have hat:=(hS.net.cl hcl).here;rw[hath] at hat;obtain⟨c,hce⟩:∃c,c=s/2:=⟨_,rfl⟩;rw[←hce] at hat hcl;have hq2:(s:Int).tdiv 2=(c:Int):=by rw[Int.tdiv_eq_ediv_of_nonneg (by omega)];omega
        have hc4:(c:Int)<4:=by omega
        have HCE:=uA hce;clear hce;have e6:wr.cell? ⟨w.heap.size,6,none⟩=some (int e.ev.pub):=xA hS.box 6;have e7:wr.cell? ⟨w.heap.size,7,none⟩=some (int e.ev.num):=xA hS.box 7;have e8:wr.cell? ⟨w.heap.size,8,none⟩=some (int e.ev.f0):=xA hS.box 8;have e9:wr.cell? ⟨w.heap.size,9,none⟩=some (int e.ev.f1):=xA hS.box 9;have e10:wr.cell? ⟨w.heap.size,10,none⟩=some (int e.ev.f2):=xA hS.box 10;have e11:wr.cell? ⟨w.heap.size,11,none⟩=some (int e.stay):=xA hS.box 11;have hC:=uA hC39;have HMT:Hid (∀wq,qA wr wq→Calls Tryz.prog 84 #[.slice af f.fl.length capf,.agg #[int e.ev.pub,int e.ev.num,int e.ev.f0,int e.ev.f1,int e.ev.f2]] wq fun r w'=>r=.returned (.bool (lC f.fl e.ev))∧qA wq w'):=uA (fun wq t=>mG0 f.fl e.ev af capf wq hgood (hta.calm t));have HS:=uA hS;have HFA:=uA hFA;have HTO:=uA hS.tob;have HWS:=uA hWs;have HKF:=uA hkf;have HSU:=uA hsu;have HKR:=uA hkr;have HATH:=uA hath;clear hS hFA hWs hkf hC39 hta hfl hkr hsu hath hkn hgood c0 c1 c2;cases hmt:lC f.fl e.ev with
        | false=>
          rw[hmt] at HMT;have HN:Hid (∀w2,qA wr w2→HapAt w w2 b ρ ρ1 (σ.hears x e (List.range (s+1))) #[int 3,int a1,int a2,int 0,int 0,rA,int e.ev.pub,int e.ev.num,int e.ev.f0,int e.ev.f1,int e.ev.f2,int e.stay,int 0,int 0,rA,int 0] (vD (yE σ x e fr (s+1)))):=uA (fun w2 t=>by rw[yA HSU,xN0 (yA HKF) hmt,zP (nI0 hf hmt)];exact(yA HS).calm t);clear hat c4 c5 c6 c7 e11 hf hmt hkl hmol hmo0 hway6;go_wp2_with (go_at_call 39;refine(yA hC).mono ?_;rintro r w1 ⟨rfl,hw1⟩;have hw1:=hw1.symm;subst hw1);go_region_held3 (fun w'=>w'.cell? ⟨g,i*8+3,none⟩=some (.slice af f.fl.length capf)∧w'.cell? ⟨w.heap.size,6,none⟩=some (int e.ev.pub)∧w'.cell? ⟨w.heap.size,7,none⟩=some (int e.ev.num)∧w'.cell? ⟨w.heap.size,8,none⟩=some (int e.ev.f0)∧w'.cell? ⟨w.heap.size,9,none⟩=some (int e.ev.f1)∧w'.cell? ⟨w.heap.size,10,none⟩=some (int e.ev.f2))
            (first
              | exact⟨c3,e6,e7,e8,e9,e10⟩
              | exact q3
              | go_keep)
            (first
              | (go_at_call 84;refine(yA HMT wr.drew (cP0 _ _).drew).mono ?_;rintro r w3 ⟨rfl,t3⟩
                 have t4:qA wr w3:=((cP0 (fun _=>False) wr).drew).calm t3;have q3:=And.intro (t4.cell (p:=⟨g,i*8+3,none⟩) id c3) (And.intro (t4.cell (p:=⟨w.heap.size,6,none⟩) id e6) (And.intro (t4.cell (p:=⟨w.heap.size,7,none⟩) id e7) (And.intro (t4.cell (p:=⟨w.heap.size,8,none⟩) id e8) (And.intro (t4.cell (p:=⟨w.heap.size,9,none⟩) id e9) (t4.cell (p:=⟨w.heap.size,10,none⟩) id e10)))));have HT4:=uA t4
                 clear t3 t4))
          all_goals go_wp2
          all_goals go_roundw
          all_goals first
            | exact⟨s+1,by omega,by go_num,ρ1,yA HN _ (yA HT4)⟩
            | (simp[intOf];omega)
        | true=>
          rw[hmt] at HMT;cases hw:f.way with
          | some y=>
            have hy6:=hway6 y hw;have hyI:(y:Int)<6:=by omega
            rw[hw] at c4;have c4:wr.cell? ⟨g,i*8+4,none⟩=some (int y):=c4;have f0:wr.cell? ⟨w.heap.size+1,y,none⟩=some (.bool (yE σ x e fr s y)):=(xA (yA HTO) y).trans (mT _ hy6);have f1:wr.frozen? ⟨w.heap.size+1,y,none⟩=false:=bA (yA HTO) y
            have HN:Hid (∀w2,qA wr w2→HapAt w (w2.setCell ⟨w.heap.size+1,y,none⟩ (.bool (yE σ x e fr s y || decide (some y≠fr)))) b ρ ρ1 (σ.hears x e (List.range (s+1))) #[int 3,int a1,int a2,int 0,int 0,rA,int e.ev.pub,int e.ev.num,int e.ev.f0,int e.ev.f1,int e.ev.f2,int e.stay,int 0,int 0,rA,int 0] (vD (yE σ x e fr (s+1)))):=uA (fun w2 t=>by
              rw[yA HSU,eK0 (yA HKF) hw,dI0 hf hmt hw,←iB0 _ hy6]
              exact((yA HS).calm t).flag y _)
            have HW2:=uA (oI0 fr y);have HTL:=uA (tO0.1 (yA HTO)).1;clear hat c5 c6 c7 e11 hf hmt hkl hmol hmo0 hway6 hw;cases hgy:yE σ x e fr s y with
            | true=>
              rw[hgy] at f0 HN;go_wp2_with (go_at_call 39;refine(yA hC).mono ?_;rintro r w1 ⟨rfl,hw1⟩;have hw1:=hw1.symm;subst hw1);go_region_held3 (fun w'=>w'.cell? ⟨g,i*8+3,none⟩=some (.slice af f.fl.length capf)∧w'.cell? ⟨w.heap.size,6,none⟩=some (int e.ev.pub)∧w'.cell? ⟨w.heap.size,7,none⟩=some (int e.ev.num)∧w'.cell? ⟨w.heap.size,8,none⟩=some (int e.ev.f0)∧w'.cell? ⟨w.heap.size,9,none⟩=some (int e.ev.f1)∧w'.cell? ⟨w.heap.size,10,none⟩=some (int e.ev.f2))
                (first
                  | exact⟨c3,e6,e7,e8,e9,e10⟩
                  | exact q3
                  | go_keep)
                (first
                  | (go_at_call 84;refine(yA HMT wr.drew (cP0 _ _).drew).mono ?_;rintro r w3 ⟨rfl,t3⟩
                     have t4:qA wr w3:=((cP0 (fun _=>False) wr).drew).calm t3;have q3:=And.intro (t4.cell (p:=⟨g,i*8+3,none⟩) id c3) (And.intro (t4.cell (p:=⟨w.heap.size,6,none⟩) id e6) (And.intro (t4.cell (p:=⟨w.heap.size,7,none⟩) id e7) (And.intro (t4.cell (p:=⟨w.heap.size,8,none⟩) id e8) (And.intro (t4.cell (p:=⟨w.heap.size,9,none⟩) id e9) (t4.cell (p:=⟨w.heap.size,10,none⟩) id e10)))));have k4:=t4.cell (p:=⟨g,i*8+4,none⟩) id c4;have k0:=t4.cell (p:=⟨w.heap.size+1,y,none⟩) id f0;have kz:w3.frozen? ⟨w.heap.size+1,y,none⟩=false:=(nP0 (w:=wr) (a:=⟨w.heap.size+1,y,none⟩) (t4.block _ (yA HTL) id)).trans f1;have HT4:=uA t4
                     clear t3 t4))
              all_goals go_wp2
              all_goals go_region
              all_goals go_wp2
              all_goals go_roundw
              all_goals first
                | exact⟨s+1,by omega,by go_num,ρ1,yA HN _ ((yA HT4).drew)⟩
                | (simp[intOf];omega)
            | false=>
              rw[hgy] at f0 HN;have hnz:decide (some y≠fr)=((y:Int) != z):=by
                have h1:=yA HW2;rw[←yA HZ] at h1;show _=!((y:Int) == z)
                rw[h1,Bool.not_not]
              rw[hnz,Bool.false_or] at HN;clear hnz hgy;go_wp2_with (go_at_call 39;refine(yA hC).mono ?_;rintro r w1 ⟨rfl,hw1⟩;have hw1:=hw1.symm;subst hw1);go_region_held3 (fun w'=>w'.cell? ⟨g,i*8+3,none⟩=some (.slice af f.fl.length capf)∧w'.cell? ⟨w.heap.size,6,none⟩=some (int e.ev.pub)∧w'.cell? ⟨w.heap.size,7,none⟩=some (int e.ev.num)∧w'.cell? ⟨w.heap.size,8,none⟩=some (int e.ev.f0)∧w'.cell? ⟨w.heap.size,9,none⟩=some (int e.ev.f1)∧w'.cell? ⟨w.heap.size,10,none⟩=some (int e.ev.f2))
                (first
                  | exact⟨c3,e6,e7,e8,e9,e10⟩
                  | exact q3
                  | go_keep)
                (first
                  | (go_at_call 84;refine(yA HMT wr.drew (cP0 _ _).drew).mono ?_;rintro r w3 ⟨rfl,t3⟩
                     have t4:qA wr w3:=((cP0 (fun _=>False) wr).drew).calm t3;have q3:=And.intro (t4.cell (p:=⟨g,i*8+3,none⟩) id c3) (And.intro (t4.cell (p:=⟨w.heap.size,6,none⟩) id e6) (And.intro (t4.cell (p:=⟨w.heap.size,7,none⟩) id e7) (And.intro (t4.cell (p:=⟨w.heap.size,8,none⟩) id e8) (And.intro (t4.cell (p:=⟨w.heap.size,9,none⟩) id e9) (t4.cell (p:=⟨w.heap.size,10,none⟩) id e10)))));have k4:=t4.cell (p:=⟨g,i*8+4,none⟩) id c4;have k0:=t4.cell (p:=⟨w.heap.size+1,y,none⟩) id f0;have kz:w3.frozen? ⟨w.heap.size+1,y,none⟩=false:=(nP0 (w:=wr) (a:=⟨w.heap.size+1,y,none⟩) (t4.block _ (yA HTL) id)).trans f1;have HT4:=uA t4
                     clear t3 t4))
              all_goals go_wp2
              all_goals go_region
              all_goals go_wp2
              all_goals go_roundw
              all_goals first
                | exact⟨s+1,by omega,by go_num,ρ1,yA HN _ ((yA HT4).drew)⟩
                | (simp[intOf];omega)
          | none=>
            rw[hw] at c4;have c4:wr.cell? ⟨g,i*8+4,none⟩=some (int (-1)):=c4;obtain⟨ak,ck,rfl,_⟩:=uQ0 (yA HKR);obtain⟨A,hA⟩:∃A,A=whr (σ.cl c).here:=⟨_,rfl⟩;rw[←hA] at hat;have HKN:Hid (f.kept.length<2199023255552):=uA (by omega);clear hkl;have hAx:(A == (x:Int))=decide ((σ.cl c).here=some x):=by
              rw[vB,hA];cases hh:(σ.cl c).here with
              | none=>simp[whr]
              | some u=>rw[Bool.eq_iff_iff,oP0,oP0];exact⟨fun h1=>by have h1:(u:Int)=x:=h1;congr 1;omega,fun h1=>by cases h1;rfl⟩
            have hto:yE σ x e fr (s+1)=yE σ x e fr s:=zP (yC0 hf hw);have HTO1:=uA hto
            have HKEEP:(f.waits || (decide ((σ.cl c).here≠some x) && decide (f.kept.length<6)))=true→Hid (∀w1 w2 gk cp,qA wr w1→xF 0 129 6 (.slice ak f.kept.length ck) (f.kept.length+1) (f.kept.flatMap News.encR++e.encR) w1 gk cp w2→∃ρ2,HapAt w (w2.setCell ⟨g,i*8+5,none⟩ (.slice (some ⟨gk,0,none⟩) (f.kept.length+1) cp)) b ρ ρ2 (σ.hears x e (List.range (s+1))) #[int 3,int a1,int a2,int 0,int 0,rA,int e.ev.pub,int e.ev.num,int e.ev.f0,int e.ev.f1,int e.ev.f2,int e.stay,int 0,int 0,rA,int 0] (vD (yE σ x e fr (s+1)))):=fun hcond=>uA (fun w1 w2 gk cp t hgw=>by
              rw[yA HSU,oH0 (yA HKF) hmt hw (by rw[yA HATH,←yA HCE];exact hcond),yA HTO1];obtain⟨q1,q2⟩:=(yA HFA).grow c5 t hgw
              exact⟨_,(yA HS).step q2 q1⟩)
            clear hto;cases hwt:f.waits with
            | true=>
              rw[hwt] at c7;have HKP:=HKEEP (by rw[hwt];rfl);clear HKEEP hf hmt hw hwt hmol hmo0 hway6 hAx hA;go_wp2_with (go_at_call 39;refine(yA hC).mono ?_;rintro r w1 ⟨rfl,hw1⟩;have hw1:=hw1.symm;subst hw1);go_region_held3 (fun w'=>w'.cell? ⟨g,i*8+3,none⟩=some (.slice af f.fl.length capf)∧w'.cell? ⟨w.heap.size,6,none⟩=some (int e.ev.pub)∧w'.cell? ⟨w.heap.size,7,none⟩=some (int e.ev.num)∧w'.cell? ⟨w.heap.size,8,none⟩=some (int e.ev.f0)∧w'.cell? ⟨w.heap.size,9,none⟩=some (int e.ev.f1)∧w'.cell? ⟨w.heap.size,10,none⟩=some (int e.ev.f2))
                (first
                  | exact⟨c3,e6,e7,e8,e9,e10⟩
                  | exact q3
                  | go_keep)
                (first
                  | (go_at_call 84;refine(yA HMT wr.drew (cP0 _ _).drew).mono ?_;rintro r w3 ⟨rfl,t3⟩
                     have t4:qA wr w3:=((cP0 (fun _=>False) wr).drew).calm t3;have q3:=And.intro (t4.cell (p:=⟨g,i*8+3,none⟩) id c3) (And.intro (t4.cell (p:=⟨w.heap.size,6,none⟩) id e6) (And.intro (t4.cell (p:=⟨w.heap.size,7,none⟩) id e7) (And.intro (t4.cell (p:=⟨w.heap.size,8,none⟩) id e8) (And.intro (t4.cell (p:=⟨w.heap.size,9,none⟩) id e9) (t4.cell (p:=⟨w.heap.size,10,none⟩) id e10)))));have k4:=t4.cell (p:=⟨g,i*8+4,none⟩) id c4;have k5:=t4.cell (p:=⟨g,i*8+5,none⟩) id c5;have k7:=t4.cell (p:=⟨g,i*8+7,none⟩) id c7;have ka:=t4.cell (p:=⟨b,3+c*13,none⟩) id hat;have k6:=t4.cell (p:=⟨w.heap.size,6,none⟩) id e6;have j7:=t4.cell (p:=⟨w.heap.size,7,none⟩) id e7;have j8:=t4.cell (p:=⟨w.heap.size,8,none⟩) id e8;have j9:=t4.cell (p:=⟨w.heap.size,9,none⟩) id e9;have j10:=t4.cell (p:=⟨w.heap.size,10,none⟩) id e10;have j11:=t4.cell (p:=⟨w.heap.size,11,none⟩) id e11;have HFZ3:Hid (w3.frozen? ⟨g,i*8+5,none⟩=false):=uA ((nP0 (w:=wr) (a:=⟨g,i*8+5,none⟩) (t4.block _ hgl id)).trans (yA HGFZ _));have HRW3:=uA (eA (yA HKR).1 t4 (fun _ _ f=>f));have hg3:g<w3.heap.size:=sO0 hgl t4.size;have HL3:Hid (∀gq,(Value.slice ak f.kept.length ck).ownBlock=some gq→gq<w3.heap.size∧g≠gq):=uA (fun gq hgq=>⟨dE (yA HRW3) gq hgq,fun e1=>by have:=(yA HKR).2 gq hgq;rw[←e1,hgr] at this;cases this⟩)
                     have HT4:=uA t4
                     clear t3 t4))
              all_goals go_wp2
              all_goals obtain⟨ti,i3,z3,s3,b3⟩:=mY
              all_goals have I3:=uA i3
              all_goals have Z3:=uA z3
              all_goals have S3:=uA s3
              all_goals have B3:=uA b3
              all_goals clear i3 z3 s3 b3
              all_goals go_region_law (first
                | (refine kB _ rfl _ _ 116 rfl 0 129 ti (.agg #[int 0,int 0,int 0,int 0,int 0,int 0]) 6 48 Tryz.underlying116 (yA I3) (yA Z3) (yA S3) (yA B3) rfl (by decide) (.slice ak f.kept.length ck) f.kept.length (f.kept.flatMap News.encR) rfl ?own ⟨w3.heap.size,0,none⟩ 1 1 [int e.ev.pub,int e.ev.num,int e.ev.f0,int e.ev.f1,int e.ev.f2,int e.stay] rfl rfl ?news ?one (by decide) ?h63 ?bytes ?base ?_
                   case own=>exact eA (yA HRW3) (((cP0 (fun _=>False) _).alloc _).drew) (fun _ _ f=>f)
                   case news=>intro j u hj;exact yC w3 [int e.ev.pub,int e.ev.num,int e.ev.f0,int e.ev.f1,int e.ev.f2,int e.stay] 129 j u hj
                   case one=>intro u hu;simp at hu;rcases hu with rfl | rfl | rfl | rfl | rfl | rfl<;>rfl
                   case h63=>have:=yA HKN;unfold maxLen;omega
                   case bytes=>have:=yA HKN;omega
                   case base=>simp
                   intro g2 cp2 w5 hg2;have hne:¬g=g2:=by
                     rcases hg2.2.1 with⟨h,_⟩ | ⟨h,_⟩
                     · exact(yA HL3 g2 h).2
                     · simp at h;omega
                   have ht2:Touch (fun i=>i=g2) w3 w5:=by
                     rcases hg2.2.1 with⟨_,h⟩ | ⟨_,h⟩
                     · exact bP0 (((cP0 _ _).alloc _).drew) h
                     · exact(((cP0 (fun i=>i=g2) w3).alloc _).drew).calm h
                   have dl2:w5.cell? ⟨g,i*8+5,none⟩=some (.slice ak f.kept.length ck):=ht2.cell (p:=⟨g,i*8+5,none⟩) hne k5;have fz2:w5.frozen? ⟨g,i*8+5,none⟩=false:=(nP0 (w:=w3) (a:=⟨g,i*8+5,none⟩) (ht2.block g hg3 hne)).trans (yA HFZ3);have HG2:=uA hg2
                   clear hg2 ht2))
              all_goals go_wp2
              all_goals obtain⟨ρ5,h5⟩:=yA HKP _ w5 g2 cp2 ((((yA HT4).alloc _).drew)) (yA HG2)
              all_goals have H5:=uA h5
              all_goals clear h5
              all_goals go_roundw
              all_goals first
                | exact⟨s+1,by omega,by go_num,ρ5,yA H5⟩
                | (simp[intOf];omega)
            | false=>
              rw[hwt] at c7;by_cases hh:(σ.cl c).here=some x
              · have hAx1:(A == (x:Int))=true:=by rw[hAx];exact decide_eq_true hh
                have hAx2:(A != (x:Int))=false:=by show (!(A == (x:Int)))=false;rw[hAx1];rfl
                have HTELL:Hid (∀w2,qA wr w2→Calls Tryz.prog 41 #[.pointer (some ⟨b,0,none⟩),int s,.agg #[int e.ev.pub,int e.ev.num,int e.ev.f0,int e.ev.f1,int e.ev.f2,int e.stay]] w2 fun r w'=>r=.returned (.tuple #[])∧∃ρ2,HapAt w w' b ρ ρ2 (σ.hears x e (List.range (s+1))) #[int 3,int a1,int a2,int 0,int 0,rA,int e.ev.pub,int e.ev.num,int e.ev.f0,int e.ev.f1,int e.ev.f2,int e.stay,int 0,int 0,rA,int 0] (vD (yE σ x e fr (s+1)))):=uA (fun w2 t=>by
                  have hX:=(yA HS).calm t;have h2:2*(s/2)+s%2=s:=by omega
                  have hsl:=(yA HWS).slack.log (s/2) (by omega);have hst:=(yA HWS).slack.told s hs8;unfold Net.toldN at hst;have:=vO0 hX.net (c:=s/2) (k:=s%2) (by omega) (by omega) e (by omega) (by omega);rw[h2] at this;refine this.mono ?_;rintro r w' ⟨rfl,ρ2,k1,k2⟩
                  refine⟨rfl,ρ2,?_⟩;rw[yA HSU,tH0 (yA HKF) hmt hw hwt (by rw[yA HATH,←yA HCE];exact hh),yA HTO1]
                  exact hX.step k2 k1)
                clear HKEEP hf hmt hw hwt hmol hmo0 hway6 hAx hA hh;go_wp2_with (go_at_call 39;refine(yA hC).mono ?_;rintro r w1 ⟨rfl,hw1⟩;have hw1:=hw1.symm;subst hw1);go_region_held3 (fun w'=>w'.cell? ⟨g,i*8+3,none⟩=some (.slice af f.fl.length capf)∧w'.cell? ⟨w.heap.size,6,none⟩=some (int e.ev.pub)∧w'.cell? ⟨w.heap.size,7,none⟩=some (int e.ev.num)∧w'.cell? ⟨w.heap.size,8,none⟩=some (int e.ev.f0)∧w'.cell? ⟨w.heap.size,9,none⟩=some (int e.ev.f1)∧w'.cell? ⟨w.heap.size,10,none⟩=some (int e.ev.f2))
                  (first
                    | exact⟨c3,e6,e7,e8,e9,e10⟩
                    | exact q3
                    | go_keep)
                  (first
                    | (go_at_call 84;refine(yA HMT wr.drew (cP0 _ _).drew).mono ?_;rintro r w3 ⟨rfl,t3⟩
                       have t4:qA wr w3:=((cP0 (fun _=>False) wr).drew).calm t3;have q3:=And.intro (t4.cell (p:=⟨g,i*8+3,none⟩) id c3) (And.intro (t4.cell (p:=⟨w.heap.size,6,none⟩) id e6) (And.intro (t4.cell (p:=⟨w.heap.size,7,none⟩) id e7) (And.intro (t4.cell (p:=⟨w.heap.size,8,none⟩) id e8) (And.intro (t4.cell (p:=⟨w.heap.size,9,none⟩) id e9) (t4.cell (p:=⟨w.heap.size,10,none⟩) id e10)))));have k4:=t4.cell (p:=⟨g,i*8+4,none⟩) id c4;have k5:=t4.cell (p:=⟨g,i*8+5,none⟩) id c5;have k7:=t4.cell (p:=⟨g,i*8+7,none⟩) id c7;have ka:=t4.cell (p:=⟨b,3+c*13,none⟩) id hat;have k6:=t4.cell (p:=⟨w.heap.size,6,none⟩) id e6;have j7:=t4.cell (p:=⟨w.heap.size,7,none⟩) id e7;have j8:=t4.cell (p:=⟨w.heap.size,8,none⟩) id e8;have j9:=t4.cell (p:=⟨w.heap.size,9,none⟩) id e9;have j10:=t4.cell (p:=⟨w.heap.size,10,none⟩) id e10;have j11:=t4.cell (p:=⟨w.heap.size,11,none⟩) id e11;have HT4:=uA t4
                       clear t3 t4))
                all_goals go_wp2_with (go_at_call 41;refine(yA HTELL _ (yA HT4)).mono ?_;rintro r w5 ⟨rfl,ρ5,h5⟩;have H5:=uA h5;clear h5)
                all_goals go_roundw
                all_goals first
                  | exact⟨s+1,by omega,by go_num,ρ5,yA H5⟩
                  | (simp[intOf];omega)
              · have hAx1:(A == (x:Int))=false:=by rw[hAx];exact pP0 hh
                have hAx2:(A != (x:Int))=true:=by show (!(A == (x:Int)))=true;rw[hAx1];rfl
                by_cases h6:f.kept.length<6
                · have h6I:(f.kept.length:Int)<6:=by omega
                  have HKP:=HKEEP (by rw[decide_eq_true hh,decide_eq_true h6];simp)
                  clear HKEEP hf hmt hw hwt hmol hmo0 hway6 hAx hA hh h6;go_wp2_with (go_at_call 39;refine(yA hC).mono ?_;rintro r w1 ⟨rfl,hw1⟩;have hw1:=hw1.symm;subst hw1);go_region_held3 (fun w'=>w'.cell? ⟨g,i*8+3,none⟩=some (.slice af f.fl.length capf)∧w'.cell? ⟨w.heap.size,6,none⟩=some (int e.ev.pub)∧w'.cell? ⟨w.heap.size,7,none⟩=some (int e.ev.num)∧w'.cell? ⟨w.heap.size,8,none⟩=some (int e.ev.f0)∧w'.cell? ⟨w.heap.size,9,none⟩=some (int e.ev.f1)∧w'.cell? ⟨w.heap.size,10,none⟩=some (int e.ev.f2))
                    (first
                      | exact⟨c3,e6,e7,e8,e9,e10⟩
                      | exact q3
                      | go_keep)
                    (first
                      | (go_at_call 84;refine(yA HMT wr.drew (cP0 _ _).drew).mono ?_;rintro r w3 ⟨rfl,t3⟩
                         have t4:qA wr w3:=((cP0 (fun _=>False) wr).drew).calm t3;have q3:=And.intro (t4.cell (p:=⟨g,i*8+3,none⟩) id c3) (And.intro (t4.cell (p:=⟨w.heap.size,6,none⟩) id e6) (And.intro (t4.cell (p:=⟨w.heap.size,7,none⟩) id e7) (And.intro (t4.cell (p:=⟨w.heap.size,8,none⟩) id e8) (And.intro (t4.cell (p:=⟨w.heap.size,9,none⟩) id e9) (t4.cell (p:=⟨w.heap.size,10,none⟩) id e10)))));have k4:=t4.cell (p:=⟨g,i*8+4,none⟩) id c4;have k5:=t4.cell (p:=⟨g,i*8+5,none⟩) id c5;have k7:=t4.cell (p:=⟨g,i*8+7,none⟩) id c7;have ka:=t4.cell (p:=⟨b,3+c*13,none⟩) id hat;have k6:=t4.cell (p:=⟨w.heap.size,6,none⟩) id e6;have j7:=t4.cell (p:=⟨w.heap.size,7,none⟩) id e7;have j8:=t4.cell (p:=⟨w.heap.size,8,none⟩) id e8;have j9:=t4.cell (p:=⟨w.heap.size,9,none⟩) id e9;have j10:=t4.cell (p:=⟨w.heap.size,10,none⟩) id e10;have j11:=t4.cell (p:=⟨w.heap.size,11,none⟩) id e11;have HFZ3:Hid (w3.frozen? ⟨g,i*8+5,none⟩=false):=uA ((nP0 (w:=wr) (a:=⟨g,i*8+5,none⟩) (t4.block _ hgl id)).trans (yA HGFZ _));have HRW3:=uA (eA (yA HKR).1 t4 (fun _ _ f=>f));have hg3:g<w3.heap.size:=sO0 hgl t4.size;have HL3:Hid (∀gq,(Value.slice ak f.kept.length ck).ownBlock=some gq→gq<w3.heap.size∧g≠gq):=uA (fun gq hgq=>⟨dE (yA HRW3) gq hgq,fun e1=>by have:=(yA HKR).2 gq hgq;rw[←e1,hgr] at this;cases this⟩)
                         have HT4:=uA t4
                         clear t3 t4))
                  all_goals go_wp2
                  all_goals obtain⟨ti,i3,z3,s3,b3⟩:=mY
                  all_goals have I3:=uA i3
                  all_goals have Z3:=uA z3
                  all_goals have S3:=uA s3
                  all_goals have B3:=uA b3
                  all_goals clear i3 z3 s3 b3
                  all_goals go_region_law (first
                    | (refine kB _ rfl _ _ 116 rfl 0 129 ti (.agg #[int 0,int 0,int 0,int 0,int 0,int 0]) 6 48 Tryz.underlying116 (yA I3) (yA Z3) (yA S3) (yA B3) rfl (by decide) (.slice ak f.kept.length ck) f.kept.length (f.kept.flatMap News.encR) rfl ?own ⟨w3.heap.size,0,none⟩ 1 1 [int e.ev.pub,int e.ev.num,int e.ev.f0,int e.ev.f1,int e.ev.f2,int e.stay] rfl rfl ?news ?one (by decide) ?h63 ?bytes ?base ?_
                       case own=>exact eA (yA HRW3) (((cP0 (fun _=>False) _).alloc _).drew) (fun _ _ f=>f)
                       case news=>intro j u hj;exact yC w3 [int e.ev.pub,int e.ev.num,int e.ev.f0,int e.ev.f1,int e.ev.f2,int e.stay] 129 j u hj
                       case one=>intro u hu;simp at hu;rcases hu with rfl | rfl | rfl | rfl | rfl | rfl<;>rfl
                       case h63=>have:=yA HKN;unfold maxLen;omega
                       case bytes=>have:=yA HKN;omega
                       case base=>simp
                       intro g2 cp2 w5 hg2;have hne:¬g=g2:=by
                         rcases hg2.2.1 with⟨h,_⟩ | ⟨h,_⟩
                         · exact(yA HL3 g2 h).2
                         · simp at h;omega
                       have ht2:Touch (fun i=>i=g2) w3 w5:=by
                         rcases hg2.2.1 with⟨_,h⟩ | ⟨_,h⟩
                         · exact bP0 (((cP0 _ _).alloc _).drew) h
                         · exact(((cP0 (fun i=>i=g2) w3).alloc _).drew).calm h
                       have dl2:w5.cell? ⟨g,i*8+5,none⟩=some (.slice ak f.kept.length ck):=ht2.cell (p:=⟨g,i*8+5,none⟩) hne k5;have fz2:w5.frozen? ⟨g,i*8+5,none⟩=false:=(nP0 (w:=w3) (a:=⟨g,i*8+5,none⟩) (ht2.block g hg3 hne)).trans (yA HFZ3);have HG2:=uA hg2
                       clear hg2 ht2))
                  all_goals go_wp2
                  all_goals obtain⟨ρ5,h5⟩:=yA HKP _ w5 g2 cp2 ((((yA HT4).alloc _).drew)) (yA HG2)
                  all_goals have H5:=uA h5
                  all_goals clear h5
                  all_goals go_roundw
                  all_goals first
                    | exact⟨s+1,by omega,by go_num,ρ5,yA H5⟩
                    | (simp[intOf];omega)
                · have h6I:¬(f.kept.length:Int)<6:=by omega
                  obtain⟨mo,hmoe⟩:∃mo,mo=f.more:=⟨_,rfl⟩;rw[←hmoe] at c6 hmol hmo0;have hmo1:mo<2199023255552:=by omega
                  have hmw:IntKind.i64.wrap (mo+1)=mo+1:=by rw[IntKind.wrap_i64];omega
                  have HN:Hid (∀w2,qA wr w2→HapAt w (w2.setCell ⟨g,i*8+6,none⟩ (int (mo+1))) b ρ ρ1 (σ.hears x e (List.range (s+1))) #[int 3,int a1,int a2,int 0,int 0,rA,int e.ev.pub,int e.ev.num,int e.ev.f0,int e.ev.f1,int e.ev.f2,int e.stay,int 0,int 0,rA,int 0] (vD (yE σ x e fr (s+1)))):=uA (fun w2 t=>by
                    rw[yA HSU,qH0 (yA HKF) hmt hw (by rw[hwt,pP0 h6];simp) (by rw[yA HATH,←yA HCE];exact hh),yA HTO1,hmoe];have:=((yA HFA).calm t).pokeMore (f.more+1)
                    exact((yA HS).calm t).step this.2 this.1.rg)
                  have fz6:=yA HGFZ (i*8+6);clear HKEEP hf hmt hw hwt hmol hway6 hAx hA hh h6 hmoe;go_wp2_with (go_at_call 39;refine(yA hC).mono ?_;rintro r w1 ⟨rfl,hw1⟩;have hw1:=hw1.symm;subst hw1);go_region_held3 (fun w'=>w'.cell? ⟨g,i*8+3,none⟩=some (.slice af f.fl.length capf)∧w'.cell? ⟨w.heap.size,6,none⟩=some (int e.ev.pub)∧w'.cell? ⟨w.heap.size,7,none⟩=some (int e.ev.num)∧w'.cell? ⟨w.heap.size,8,none⟩=some (int e.ev.f0)∧w'.cell? ⟨w.heap.size,9,none⟩=some (int e.ev.f1)∧w'.cell? ⟨w.heap.size,10,none⟩=some (int e.ev.f2))
                    (first
                      | exact⟨c3,e6,e7,e8,e9,e10⟩
                      | exact q3
                      | go_keep)
                    (first
                      | (go_at_call 84;refine(yA HMT wr.drew (cP0 _ _).drew).mono ?_;rintro r w3 ⟨rfl,t3⟩
                         have t4:qA wr w3:=((cP0 (fun _=>False) wr).drew).calm t3;have q3:=And.intro (t4.cell (p:=⟨g,i*8+3,none⟩) id c3) (And.intro (t4.cell (p:=⟨w.heap.size,6,none⟩) id e6) (And.intro (t4.cell (p:=⟨w.heap.size,7,none⟩) id e7) (And.intro (t4.cell (p:=⟨w.heap.size,8,none⟩) id e8) (And.intro (t4.cell (p:=⟨w.heap.size,9,none⟩) id e9) (t4.cell (p:=⟨w.heap.size,10,none⟩) id e10)))));have k4:=t4.cell (p:=⟨g,i*8+4,none⟩) id c4;have k5:=t4.cell (p:=⟨g,i*8+5,none⟩) id c5;have k7:=t4.cell (p:=⟨g,i*8+7,none⟩) id c7;have ka:=t4.cell (p:=⟨b,3+c*13,none⟩) id hat;have k6:=t4.cell (p:=⟨g,i*8+6,none⟩) id c6;have kz:w3.frozen? ⟨g,i*8+6,none⟩=false:=(nP0 (w:=wr) (a:=⟨g,i*8+6,none⟩) (t4.block _ hgl id)).trans fz6;have HT4:=uA t4
                         clear t3 t4))
                  all_goals go_wp2
                  all_goals go_roundw
                  all_goals first
                    | exact⟨s+1,by omega,by go_num,ρ1,yA HN _ (yA HT4)⟩
                    | (simp[intOf];omega)
    · have hse:s=8:=by omega
      subst hse;have HS:=uA hS;clear hS HWM HE HW
      have HPQ:Hid (∀ys,ys.Nodup→((σ.hears x e (List.range 8)).pushAll x ys (.event e)).par=σ.par∧((σ.hears x e (List.range 8)).pushAll x ys (.event e)).waiting<1000000000):=uA (fun ys hys=>by
        have h1:=zQ (σ:=σ) x e (List.range 8);refine⟨(pushAll_par _ _ _ _).trans h1.1,?_⟩
        have:=sI (σ:=(σ.hears x e (List.range 8)).pushAll x ys (.event e)) (B:=2001) (fun a y=>by
          rw[cK _ _ _ _ hys,h1.2];have:=yA HLEN a y;split
          · rw[hO0];simp;omega
          · omega)
        omega)
      have HS0:Hid (HapAt w wr b ρ ρ1 ((σ.hears x e (List.range 8)).pushAll x (yF σ x e fr 0) (.event e)) #[int 3,int a1,int a2,int 0,int 0,rA,int e.ev.pub,int e.ev.num,int e.ev.f0,int e.ev.f1,int e.ev.f2,int e.stay,int 0,int 0,rA,int 0] (vD (yE σ x e fr 8))):=HS;clear HS HLEN;go_wp2;go_loopw [13] (fun p wr=>∃k:Nat,k≤σ.n∧p=int k∧∃ρ',HapAt w wr b ρ ρ' ((σ.hears x e (List.range 8)).pushAll x (yF σ x e fr k) (.event e)) #[int 3,int a1,int a2,int 0,int 0,rA,int e.ev.pub,int e.ev.num,int e.ev.f0,int e.ev.f1,int e.ev.f2,int e.stay,int 0,int 0,rA,int 0] (vD (yE σ x e fr 8))) (fun p _=>6-(intOf p).toNat)
      case atStart=>exact⟨0,by omega,rfl,ρ1,yA HS0⟩
      case round=>
        clear HS0 ρ1;obtain⟨k,hk,rfl,ρ1,hS⟩:=hrel;have hnd:(yF σ x e fr k).Nodup:=List.Pairwise.filter _ List.nodup_range;obtain⟨hpar,hwt⟩:=yA HPQ _ hnd;have hpars:=hS.net.parsAt;rw[hpar] at hpars;obtain⟨pb,po,cap,pc0,_⟩:=hpars;have pc0:wr.cell? ⟨b,0,none⟩=some (.slice (some ⟨pb,po,none⟩) σ.n cap):=pc0;by_cases hkn:k<σ.n
        · have hkI:(k:Int)<σ.n:=by omega
          have hk6:k<6:=by omega
          have hk6I:(k:Int)<6:=by omega
          have f0:=(xA hS.tob k).trans (mT (yE σ x e fr 8) hk6);have hgs:=vQ σ x e fr k;have HS:=uA hS;cases hgo:yE σ x e fr 8 k with
          | false=>
            rw[hgo] at f0 hgs;have HN:Hid (yF σ x e fr (k+1)=yF σ x e fr k):=uA (by rw[hgs];simp)
            clear hgs hS hpar hwt hnd hgo;go_wp2;go_roundw
            case rel=>exact⟨k+1,by omega,by go_num,ρ1,by rw[yA HN];exact yA HS⟩
            case measure=>simp[intOf];omega
          | true=>
            rw[hgo] at f0 hgs;have hbx:=hS.box;have q0:wr.cell? ⟨w.heap.size,0,none⟩=some (int 3):=xA hbx 0;have q1:wr.cell? ⟨w.heap.size,1,none⟩=some (int a1):=xA hbx 1;have q2:wr.cell? ⟨w.heap.size,2,none⟩=some (int a2):=xA hbx 2;have q3:wr.cell? ⟨w.heap.size,3,none⟩=some (int 0):=xA hbx 3;have q4:wr.cell? ⟨w.heap.size,4,none⟩=some (int 0):=xA hbx 4;have q5:wr.cell? ⟨w.heap.size,5,none⟩=some rA:=xA hbx 5;have q6:wr.cell? ⟨w.heap.size,6,none⟩=some (int e.ev.pub):=xA hbx 6;have q7:wr.cell? ⟨w.heap.size,7,none⟩=some (int e.ev.num):=xA hbx 7;have q8:wr.cell? ⟨w.heap.size,8,none⟩=some (int e.ev.f0):=xA hbx 8;have q9:wr.cell? ⟨w.heap.size,9,none⟩=some (int e.ev.f1):=xA hbx 9;have q10:wr.cell? ⟨w.heap.size,10,none⟩=some (int e.ev.f2):=xA hbx 10;have q11:wr.cell? ⟨w.heap.size,11,none⟩=some (int e.stay):=xA hbx 11;have q12:wr.cell? ⟨w.heap.size,12,none⟩=some (int 0):=xA hbx 12;have q13:wr.cell? ⟨w.heap.size,13,none⟩=some (int 0):=xA hbx 13;have q14:wr.cell? ⟨w.heap.size,14,none⟩=some rA:=xA hbx 14;have q15:wr.cell? ⟨w.heap.size,15,none⟩=some (int 0):=xA hbx 15
            have HSD:Hid (Calls Tryz.prog 43 #[.pointer (some ⟨b,0,none⟩),.agg #[int 3,int a1,int a2,int 0,int 0,rA,int e.ev.pub,int e.ev.num,int e.ev.f0,int e.ev.f1,int e.ev.f2,int e.stay,int 0,int 0,rA,int 0],int x,int k] wr fun r w'=>r=.returned (.tuple #[])∧∃ρ2,HapAt w w' b ρ ρ2 ((σ.hears x e (List.range 8)).pushAll x (yF σ x e fr (k+1)) (.event e)) #[int 3,int a1,int a2,int 0,int 0,rA,int e.ev.pub,int e.ev.num,int e.ev.f0,int e.ev.f1,int e.ev.f2,int e.stay,int 0,int 0,rA,int 0] (vD (yE σ x e fr 8))):=uA (by
              refine(pV hS.net hx6 hk6 (hH0 e a1 a2) hwt).mono ?_;rintro r w' ⟨rfl,ρ2,k1,k2⟩
              refine⟨rfl,ρ2,?_⟩;have hpa:(σ.hears x e (List.range 8)).pushAll x (yF σ x e fr (k+1)) (.event e)=((σ.hears x e (List.range 8)).pushAll x (yF σ x e fr k) (.event e)).push x k (.event e):=by
                rw[hgs];unfold Net.pushAll;rw[if_pos rfl,List.foldl_append];rfl
              rw[hpa]
              exact hS.step k2 k1)
            clear hgs hS hpar hwt hnd hgo hbx;go_wp2_with (go_at_call 43;refine(yA HSD).mono ?_;rintro r w5 ⟨rfl,ρ5,h5⟩;have H5:=uA h5;clear h5);go_roundw
            case rel=>refine⟨_,_,_,_,_,_,_,_,_,_,_,_,_,_,_,_,_,_,?_,rfl⟩;exact⟨k+1,by omega,by go_num,ρ5,yA H5⟩
            case measure=>simp[intOf];omega
        · have hke:k=σ.n:=by omega
          subst hke;have HS:=uA hS;clear hS hpar hwt hnd;go_wp2;go_end0
          exact⟨rfl,ρ1,by rw[yA HF8];exact(yA HS).net,(yA HS).mv⟩
end Go.Proofs.YtodfcpblcpogiaaGreat

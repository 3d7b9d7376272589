import Derived.Test.YtodfcpblcpogiaaGreatUf
import Derived.Test.YtodfcpblcpogiaaGreatUh
namespace Go.Proofs.YtodfcpblcpogiaaGreat
open Go.RowKit
theorem jX (k:Int):(mk1 3 k).toArray=#[int k,int 0,int 0]:=rfl
theorem fM0 (k:Int):mk1 3 k=[int k,int 0,int 0]:=rfl
set_option maxRecDepth 100000 in
set_option maxHeartbeats 4000000 in
theorem oU {B:Nat}{kp:Nat→Prop}{wk w0 w:World}{bw n p:Nat}{lv:Value}{xs:List Value}{own:Own}{D:WD}(h:KO 4 3 69 B kp wk w0 bw (8*p) n lv xs own D w)(h4:D.n 4=D.n 5)(h6:D.n 6=D.n 7)(hn:∀o,o<8→D.n o≤4*p)(hp:p≤1000000000)(hnn:n≤100000000000):
    Calls Tryz.prog 24 #[.pointer (some ⟨bw,0,none⟩),lv] w fun e w'=>e=.returned (.tuple #[])∧St B kp wk w0 bw D.nets (p+1) w':=by
  obtain⟨a,cap,rfl⟩:∃a cap,lv=.slice a n cap:=by
    rcases h.row.own.2 with⟨hv,h0⟩ | ⟨g,cap,cur,hv,_⟩
    · exact⟨none,0,by rw[hv,h0]⟩
    · exact⟨_,_,hv⟩
  have hxs:xs.length=n*3:=h.row.own.1;obtain⟨N,hN⟩:∃N,N=D.N:=⟨_,rfl⟩;have c1:=h.wb.num;rw[←hN] at c1;have f1:=h.wb.fr 1;have hbw:bw<w.heap.size:=fP0 c1;have HK:=uA (h.start (cF (wrap64 (N+1))) rfl (wrap64 (N+1)));rw[jX] at HK;have HXS:=uA hxs;have HD:=uA (⟨h4,h6,hn⟩:D.n 4=D.n 5∧D.n 6=D.n 7∧∀o,o<8→D.n o≤4*p);have hkd:yH 4 3:=by unfold yH;omega
  have HKD:=uA hkd;clear h h4 h6 hn hxs hN hkd;go_enter Tryz.func24,Tryz.ntmps24
  go_wp2;go_loopw [5] (fun q wr=>∃(i:Nat),i≤n∧q=int i∧KW 4 3 69 B kp wk w0 bw (8*p) n (.slice a n cap) xs w.heap.size (cF (wrap64 (N+1))) i (nD own w.heap.size (15,0)) {D with N:=wrap64 (N+1)} wr) (fun q _=>n-(intOf q).toNat)
  case atStart=>exact⟨0,by omega,rfl,yA HK⟩
  case round=>
    obtain⟨i,hi,rfl,hK⟩:=hrel;have HK1:=uA hK;clear HK c1 f1;by_cases hlt:i<n
    · have hiI:(i:Int)<n:=by omega
      obtain⟨g,rfl⟩:∃g,a=some ⟨g,0,none⟩:=by
        rcases hK.row.own.2 with⟨hv,h0⟩ | ⟨g,cap',cur,hv,_⟩
        · omega
        · simp only[Value.slice.injEq] at hv;exact⟨g,hv.1⟩
      have hbx:=hK.box;rw[jX] at hbx;have b0:wr.cell? ⟨w.heap.size,0,none⟩=some (int (cF (wrap64 (N+1)))):=xA hbx 0;have b1:wr.cell? ⟨w.heap.size,1,none⟩=some (int 0):=xA hbx 1;have b2:wr.cell? ⟨w.heap.size,2,none⟩=some (int 0):=xA hbx 2
      have HCE:Hid (∃cs:Array Value,wr.heap[g]?=some (.cells cs 69)∧n*3≤cs.size):=uA (by
        rcases hK.row.own.2 with⟨hv,h0⟩ | ⟨g',cap',cur,hv,_,h2,h3,h4,h5,_⟩
        · cases hv
        · simp only[Value.slice.injEq,Option.some.injEq,Addr.mk.injEq] at hv
          obtain⟨⟨rfl,_⟩,_,rfl⟩:=hv
          exact⟨cur,h2,by rw[h5];exact aO0 _ h3⟩)
      obtain⟨cs,hcs,hsz⟩:=yA HCE;have hsz2:i*3+3≤cs.size:=by have:(i+1)*3≤n*3:=aO0 _ hlt;omega
      obtain⟨u0,q0⟩:∃u,wr.cell? ⟨g,i*3,none⟩=some u:=⟨_,(xA hcs _).trans (fO0 (by omega))⟩;obtain⟨u1,q1⟩:∃u,wr.cell? ⟨g,i*3+1,none⟩=some u:=⟨_,(xA hcs _).trans (fO0 (by omega))⟩;obtain⟨u2,q2⟩:∃u,wr.cell? ⟨g,i*3+2,none⟩=some u:=⟨_,(xA hcs _).trans (fO0 (by omega))⟩;have hbl:w.heap.size<wr.heap.size:=fP0 b0;have hgl:g<wr.heap.size:=fP0 q0;have HCS:=uA hcs;have hgz:=bA hcs;clear hK hbx hcs hsz hsz2 HCE;go_wp2;go_roundw
      case rel=>
        have h9:=(yA HK1).stores (yA HKD) (yA HXS) hlt rfl;rw[fM0] at h9;exact⟨i+1,by omega,by go_num,h9⟩
      case measure=>simp[intOf];omega
    · have hin:i=n:=by omega
      subst hin;have HKL:=uA (hK.done (yA HXS));clear HK1 hK;go_wp2;go_loopw [1,6] (fun l q wr=>∃(k:Nat) (a:Option Addr) (cap:Nat),k≤4∧q=int k∧l=.slice a (i+k) cap∧∃own D',KL 4 3 69 B kp wk w0 bw (8*p) (i+k) (.slice a (i+k) cap) w.heap.size (cF (wrap64 (N+1))) own D' wr∧D'.N=wrap64 (N+1)∧D'.nets=D.nets∧D'.n 4=D'.n 5∧D'.n 6=D'.n 7∧∀o,o<8→D'.n o≤4*p+k) (fun _ q _=>4-(intOf q).toNat)
      case atStart=>
        obtain⟨q1,q2,q3⟩:=yA HD;exact⟨0,a,cap,by omega,rfl,rfl,_,_,yA HKL,rfl,rfl,q1,q2,fun o ho=>by have:=q3 o ho;exact this⟩
      case round=>
        obtain⟨k,a1,cap1,hk,rfl,rfl,own1,D1,hK1,hN1,hnets,e4,e6,hn1⟩:=hrel;have HK1:=uA hK1;have HE:=uA (⟨hN1,hnets,e4,e6,hn1⟩:D1.N=wrap64 (N+1)∧D1.nets=D.nets∧D1.n 4=D1.n 5∧D1.n 6=D1.n 7∧∀o,o<8→D1.n o≤4*p+k);clear HKL hK1 hN1 hnets e4 e6;by_cases hlt:k<4
        · have hnb:=hn1 4 (by omega)
          obtain⟨vL,hvL⟩:∃v,v=D1.v 4:=⟨_,rfl⟩;obtain⟨nL,hnL⟩:∃v,v=D1.n 4:=⟨_,rfl⟩;obtain⟨LL,hLL⟩:∃v,v=D1.L 4:=⟨_,rfl⟩;have c4:wr.cell? ⟨bw,4,none⟩=some vL:=by rw[hvL];exact(yA HK1).wb.cell 4 (by decide) (by decide)
          have hfz:=(yA HK1).wb.fr;have hbw:bw<wr.heap.size:=fP0 c4;have hlo:=(yA HK1).wb.lo;rw[←hnL] at hnb;obtain⟨t67,i67,z67,s67,b67⟩:=elem67;have I67:=uA i67;have Z67:=uA z67;have S67:=uA s67;have B67:=uA b67;have HV:=uA (⟨hvL,hnL,hLL⟩:vL=D1.v 4∧nL=D1.n 4∧LL=D1.L 4);have ca:qA wr (wr.alloc (.cells #[.slice a1 (i+k) cap1] 67)):=(cP0 _ _).alloc _;have HKC:=uA ((yA HK1).calm (yA HKD) ca);have oL:Hid ((wr.alloc (.cells #[.slice a1 (i+k) cap1] 67)).ownsRow B 67 1 vL nL LL):=uA (by rw[hvL,hnL,hLL];exact((yA HKC).wb.row 4 (by decide) (by decide)).own);clear i67 z67 s67 b67 hvL hnL hLL ca HK1 hn1;go_wp2_with (at_builtin;refine pB _ rfl _ _ 29 rfl B 67 t67 (.slice none 0 0) 1 24 Tryz.underlying29 (yA I67) (yA Z67) (yA S67) (yA B67) rfl (by decide) vL nL LL rfl (yA oL) ⟨wr.heap.size,0,none⟩ 1 1 [.slice a1 (i+k) cap1] rfl rfl ?news ?one (by decide) ?h63 ?bytes ?base ?_)
          case news=>intro j u hj;match j,hj with | 0,hj=>simp at hj;subst hj;simp[Addr.add]
          case one=>intro u hu;simp at hu;subst hu;rfl
          case h63=>unfold maxLen;omega
          case bytes=>omega
          case base=>simp;omega
          intro g1 cp1 w1 hg1;obtain⟨hvL,hnL,hLL⟩:=yA HV;obtain⟨_,_,e4,e6,hn1⟩:=yA HE;obtain⟨hk1,d4,hz1⟩:=(yA HKC).one (yA HKD) e4 (g:=g1) (cap:=cp1) (w':=w1) (by rw[hvL,hnL,hLL] at hg1;exact hg1);rw[←hvL] at d4;have dz:=hz1 4;have HK2:Hid (KL 4 3 69 B kp wk w0 bw (8*p) (i+k) (.slice a1 (i+k) cap1) w.heap.size (cF (wrap64 (N+1))) (nD own1 g1 (4+2,0)) (D1.put 4 (.slice (some ⟨g1,0,none⟩) (nL+1) cp1) (nL+1) (LL++[.slice a1 (i+k) cap1])) (w1.setCell ⟨bw,4,none⟩ (.slice (some ⟨g1,0,none⟩) (nL+1) cp1))):=uA (by rw[hnL,hLL];exact hk1);clear hk1 hg1 oL c4 hfz hbw hlo HKC hvL hnL hLL e4 e6 hn1 hz1;go_wp2;obtain⟨W2,hW2⟩:∃W2,W2=w1.setCell ⟨bw,4,none⟩ (.slice (some ⟨g1,0,none⟩) (nL+1) cp1):=⟨_,rfl⟩;rw[←hW2] at HK2 ⊢;clear hW2 d4 dz;go_cut [] (fun wx=>∃own D',KL 4 3 69 B kp wk w0 bw (8*p) (i+k) (.slice a1 (i+k) cap1) w.heap.size (cF (wrap64 (N+1))) own D' wx∧D'.N=wrap64 (N+1)∧D'.nets=D.nets∧D'.n 4=D'.n 5∧D'.n 6=D'.n 7∧∀o,o<8→D'.n o≤4*p+k+1)
          case first=>
            obtain⟨D2,hD2⟩:∃D2,D2=D1.put 4 (.slice (some ⟨g1,0,none⟩) (nL+1) cp1) (nL+1) (LL++[.slice a1 (i+k) cap1]):=⟨_,rfl⟩;rw[←hD2] at HK2;obtain⟨vM,hvM⟩:∃v,v=D2.v (4+1):=⟨_,rfl⟩;obtain⟨nM,hnM⟩:∃v,v=D2.n (4+1):=⟨_,rfl⟩;obtain⟨LM,hLM⟩:∃v,v=D2.L (4+1):=⟨_,rfl⟩
            have HD2:Hid (D2.N=wrap64 (N+1)∧D2.nets=D.nets∧D2.L 4=LL++[.slice a1 (i+k) cap1]∧D2.n 4=D2.n (4+1)+1∧(∀o,o≠4→D2.n o=D1.n o)):=uA (by
              obtain⟨q1,q2,q3,q4,q5⟩:=yA HE;obtain⟨_,r2,_⟩:=yA HV;rw[hD2];refine⟨q1,q2,(show put D1.L 4 _ 4=_ from eE _ _ _),?_,fun o ho=>(show put D1.n 4 (nL+1) o=D1.n o from oC _ _ ho)⟩;show put D1.n 4 (nL+1) 4=put D1.n 4 (nL+1) (4+1)+1
              rw[eE,oC _ _ (by decide),r2]
              first | rw[q3] | rw[q4])
            have hMb:nM≤4*p+k:=by
              obtain⟨_,_,_,_,q5⟩:=yA HE;obtain⟨_,_,_,_,r5⟩:=yA HD2;rw[hnM,r5 (4+1) (by decide)];exact q5 _ (by decide)
            have c5:W2.cell? ⟨bw,5,none⟩=some vM:=by rw[hvM];exact(yA HK2).wb.cell 5 (by decide) (by decide)
            have c1:W2.cell? ⟨bw,1,none⟩=some (int (wrap64 (N+1))):=by have:=(yA HK2).wb.num;rw[(yA HD2).1] at this;exact this
            have hfz:=(yA HK2).wb.fr;have hbw:bw<W2.heap.size:=fP0 c5;have hlo:=(yA HK2).wb.lo;have HV2:=uA (⟨hvM,hnM,hLM⟩:vM=D2.v (4+1)∧nM=D2.n (4+1)∧LM=D2.L (4+1));obtain⟨t3,i3,z3,s3,b3⟩:=kW;have I3:=uA i3;have Z3:=uA z3;have S3:=uA s3;have B3:=uA b3;clear i3 z3 s3 b3 hvM hnM hLM hD2
            go_region_law (first
              | (refine kB _ rfl _ _ 30 rfl B 3 t3 (.int .i64 0) 1 8 Tryz.underlying30 (yA I3) (yA Z3) (yA S3) (yA B3) rfl (by decide) vM nM LM rfl ?own ⟨W2.heap.size,0,none⟩ 1 1 [.int .i64 (cF (wrap64 (N+1)))] rfl rfl ?news ?one (by decide) ?h63 ?bytes ?base ?_
                 case own=>obtain⟨q1,q2,q3⟩:=yA HV2;rw[q1,q2,q3];exact(((yA HK2).calm (yA HKD) (((cP0 (fun _=>False) _).alloc _).drew)).wb.row 5 (by decide) (by decide)).own
                 case news=>intro j u hj;match j,hj with | 0,hj=>simp at hj;subst hj;simp[Addr.add];exact kE0 _
                 case one=>intro u hu;simp at hu;subst hu;rfl
                 case h63=>unfold maxLen;omega
                 case bytes=>omega
                 case base=>simp;omega
                 intro g2 cp2 w2 hg2;obtain⟨r1,r2,r3⟩:=yA HV2;obtain⟨s1,s2,s3,s4,s5⟩:=yA HD2;obtain⟨hk2,d5,hz2⟩:=((yA HK2).calm (yA HKD) (((cP0 (fun _=>False) _).alloc _).drew)).two (yA HKD) s3 s4 (by unfold maxLen;omega) (g:=g2) (cap:=cp2) (w':=w2) (by rw[r1,r2,r3] at hg2;exact hg2);rw[←r1] at d5;have dz:=hz2 5;have HK3:=uA hk2;rw[←r2] at HK3
                 clear hk2 hg2 hz2 r1 r2 r3 s1 s2 s3 s4 s5))
            all_goals go_wp2_with fail
            all_goals go_meet
            all_goals (
              obtain⟨s1,s2,s3,s4,s5⟩:=yA HD2;obtain⟨q1,q2,q3,q4,q5⟩:=yA HE;obtain⟨_,x2,_⟩:=yA HV;obtain⟨_,r2,_⟩:=yA HV2;refine⟨_,_,yA HK3,?_,?_,?_,?_,fun o ho=>?_⟩
              · exact s1
              · exact s2
              · have z4:=s5 4
                have z5:=s5 5;show put D2.n (4+1) (nM+1) 4=put D2.n (4+1) (nM+1) 5
                simp[put]
                omega
              · have z4:=s5 6
                have z5:=s5 7;show put D2.n (4+1) (nM+1) 6=put D2.n (4+1) (nM+1) 7
                simp[put]
                omega
              · show put D2.n (4+1) (nM+1) o≤_
                by_cases e:o=4+1
                · subst e;rw[eE];omega
                · rw[oC _ _ e]
                  by_cases e2:o=4
                  · subst e2;rw[s4,←r2];omega
                  · rw[s5 o e2];have:=q5 o ho;omega)
          case rest=>
            obtain⟨own3,D3,hK3,x1,x2,x3,x4,x5⟩:=hcut;have hbx:=hK3.box;rw[jX] at hbx;have b0:wc.cell? ⟨w.heap.size,0,none⟩=some (int (cF (wrap64 (N+1)))):=xA hbx 0;have b1:wc.cell? ⟨w.heap.size,1,none⟩=some (int 0):=xA hbx 1;have b2:wc.cell? ⟨w.heap.size,2,none⟩=some (int 0):=xA hbx 2;have hlo:=hK3.wb.lo;have ca:qA wc (wc.alloc (.cells #[int (cF (wrap64 (N+1))),int 0,int 0] 69)):=(cP0 _ _).alloc _;have HKC:=uA (hK3.calm (yA HKD) ca);have oR:=uA (yA HKC).row.own;have HE3:=uA (⟨x1,x2,x3,x4,x5⟩:D3.N=wrap64 (N+1)∧D3.nets=D.nets∧D3.n 4=D3.n 5∧D3.n 6=D3.n 7∧∀o,o<8→D3.n o≤4*p+k+1);clear hK3 hbx x1 x2 x3 x4 x5 HK2 ca;obtain⟨t69,i69,z69,s69,b69⟩:=vE0;have I69:=uA i69;have Z69:=uA z69;have S69:=uA s69;have B69:=uA b69;clear i69 z69 s69 b69;go_wp2_with (at_builtin;refine pB _ rfl _ _ 67 rfl B 69 t69 (.agg #[int 0,int 0,int 0]) 3 24 Tryz.underlying67 (yA I69) (yA Z69) (yA S69) (yA B69) rfl (by decide) (.slice a1 (i+k) cap1) (i+k) (mks 3 (cF (wrap64 (N+1))) (i+k)) rfl (yA oR) ⟨wc.heap.size,0,none⟩ 1 1 [int (cF (wrap64 (N+1))),int 0,int 0] rfl rfl ?news3 ?one3 (by decide) ?h633 ?bytes3 ?base3 ?_)
            case news3=>exact yC wc _ 69
            case one3=>exact dE0 3 (cF (wrap64 (N+1)))
            case h633=>unfold maxLen;omega
            case bytes3=>omega
            case base3=>simp;omega
            intro g4 cp4 w4 hg4;have HK4:=uA ((yA HKC).three (yA HKD) hg4);clear hg4 HKC oR;go_wp2;go_roundw
            case rel=>exact⟨k+1,some ⟨g4,0,none⟩,cp4,by omega,by go_num,rfl,_,_,yA HK4,(yA HE3).1,(yA HE3).2.1,(yA HE3).2.2.1,(yA HE3).2.2.2.1,(yA HE3).2.2.2.2⟩
            case measure=>simp[intOf];omega
        · have hk4:k=4:=by omega
          subst hk4;go_wp2;go_end0
          obtain⟨q1,q2,q3,q4,q5⟩:=yA HE;refine⟨rfl,?_⟩;rw[←q2];exact St.of (yA HK1) (by omega) (fun o ho=>by have:=q5 o ho;omega) q3 q4
theorem kX (k:Int):(mk1 7 k).toArray=#[int k,int 0,int 0,int 0,int 0,int 0,int 0]:=rfl
theorem gM0 (k:Int):mk1 7 k=[int k,int 0,int 0,int 0,int 0,int 0,int 0]:=rfl
set_option maxRecDepth 100000 in
set_option maxHeartbeats 4000000 in
theorem jA0 {B:Nat}{kp:Nat→Prop}{wk w0 w:World}{bw n p:Nat}{lv:Value}{xs:List Value}{own:Own}{D:WD}(h:KO 6 7 74 B kp wk w0 bw (8*p) n lv xs own D w)(h4:D.n 4=D.n 5)(h6:D.n 6=D.n 7)(hn:∀o,o<8→D.n o≤4*p)(hp:p≤1000000000)(hnn:n≤100000000000):
    Calls Tryz.prog 95 #[.pointer (some ⟨bw,0,none⟩),lv] w fun e w'=>e=.returned (.tuple #[])∧St B kp wk w0 bw D.nets (p+1) w':=by
  obtain⟨a,cap,rfl⟩:∃a cap,lv=.slice a n cap:=by
    rcases h.row.own.2 with⟨hv,h0⟩ | ⟨g,cap,cur,hv,_⟩
    · exact⟨none,0,by rw[hv,h0]⟩
    · exact⟨_,_,hv⟩
  have hxs:xs.length=n*7:=h.row.own.1;obtain⟨N,hN⟩:∃N,N=D.N:=⟨_,rfl⟩;have c1:=h.wb.num;rw[←hN] at c1;have f1:=h.wb.fr 1;have hbw:bw<w.heap.size:=fP0 c1;have HK:=uA (h.start (cF (wrap64 (N+1))) rfl (wrap64 (N+1)));rw[kX] at HK;have HXS:=uA hxs;have HD:=uA (⟨h4,h6,hn⟩:D.n 4=D.n 5∧D.n 6=D.n 7∧∀o,o<8→D.n o≤4*p);have hkd:yH 6 7:=by unfold yH;omega
  have HKD:=uA hkd;clear h h4 h6 hn hxs hN hkd;go_enter Tryz.func95,Tryz.ntmps95
  go_wp2;go_loopw [5] (fun q wr=>∃(i:Nat),i≤n∧q=int i∧KW 6 7 74 B kp wk w0 bw (8*p) n (.slice a n cap) xs w.heap.size (cF (wrap64 (N+1))) i (nD own w.heap.size (15,0)) {D with N:=wrap64 (N+1)} wr) (fun q _=>n-(intOf q).toNat)
  case atStart=>exact⟨0,by omega,rfl,yA HK⟩
  case round=>
    obtain⟨i,hi,rfl,hK⟩:=hrel;have HK1:=uA hK;clear HK c1 f1;by_cases hlt:i<n
    · have hiI:(i:Int)<n:=by omega
      obtain⟨g,rfl⟩:∃g,a=some ⟨g,0,none⟩:=by
        rcases hK.row.own.2 with⟨hv,h0⟩ | ⟨g,cap',cur,hv,_⟩
        · omega
        · simp only[Value.slice.injEq] at hv;exact⟨g,hv.1⟩
      have hbx:=hK.box;rw[kX] at hbx;have b0:wr.cell? ⟨w.heap.size,0,none⟩=some (int (cF (wrap64 (N+1)))):=xA hbx 0;have b1:wr.cell? ⟨w.heap.size,1,none⟩=some (int 0):=xA hbx 1;have b2:wr.cell? ⟨w.heap.size,2,none⟩=some (int 0):=xA hbx 2;have b3:wr.cell? ⟨w.heap.size,3,none⟩=some (int 0):=xA hbx 3;have b4:wr.cell? ⟨w.heap.size,4,none⟩=some (int 0):=xA hbx 4;have b5:wr.cell? ⟨w.heap.size,5,none⟩=some (int 0):=xA hbx 5;have b6:wr.cell? ⟨w.heap.size,6,none⟩=some (int 0):=xA hbx 6
      have HCE:Hid (∃cs:Array Value,wr.heap[g]?=some (.cells cs 74)∧n*7≤cs.size):=uA (by
        rcases hK.row.own.2 with⟨hv,h0⟩ | ⟨g',cap',cur,hv,_,h2,h3,h4,h5,_⟩
        · cases hv
        · simp only[Value.slice.injEq,Option.some.injEq,Addr.mk.injEq] at hv
          obtain⟨⟨rfl,_⟩,_,rfl⟩:=hv
          exact⟨cur,h2,by rw[h5];exact aO0 _ h3⟩)
      obtain⟨cs,hcs,hsz⟩:=yA HCE;have hsz2:i*7+7≤cs.size:=by have:(i+1)*7≤n*7:=aO0 _ hlt;omega
      obtain⟨u0,q0⟩:∃u,wr.cell? ⟨g,i*7,none⟩=some u:=⟨_,(xA hcs _).trans (fO0 (by omega))⟩;obtain⟨u1,q1⟩:∃u,wr.cell? ⟨g,i*7+1,none⟩=some u:=⟨_,(xA hcs _).trans (fO0 (by omega))⟩;obtain⟨u2,q2⟩:∃u,wr.cell? ⟨g,i*7+2,none⟩=some u:=⟨_,(xA hcs _).trans (fO0 (by omega))⟩;obtain⟨u3,q3⟩:∃u,wr.cell? ⟨g,i*7+3,none⟩=some u:=⟨_,(xA hcs _).trans (fO0 (by omega))⟩;obtain⟨u4,q4⟩:∃u,wr.cell? ⟨g,i*7+4,none⟩=some u:=⟨_,(xA hcs _).trans (fO0 (by omega))⟩;obtain⟨u5,q5⟩:∃u,wr.cell? ⟨g,i*7+5,none⟩=some u:=⟨_,(xA hcs _).trans (fO0 (by omega))⟩;obtain⟨u6,q6⟩:∃u,wr.cell? ⟨g,i*7+6,none⟩=some u:=⟨_,(xA hcs _).trans (fO0 (by omega))⟩;have hbl:w.heap.size<wr.heap.size:=fP0 b0;have hgl:g<wr.heap.size:=fP0 q0;have HCS:=uA hcs;have hgz:=bA hcs;clear hK hbx hcs hsz hsz2 HCE;go_wp2;go_roundw
      case rel=>
        have h9:=(yA HK1).stores (yA HKD) (yA HXS) hlt rfl;rw[gM0] at h9;exact⟨i+1,by omega,by go_num,h9⟩
      case measure=>simp[intOf];omega
    · have hin:i=n:=by omega
      subst hin;have HKL:=uA (hK.done (yA HXS));clear HK1 hK;go_wp2;go_loopw [1,6] (fun l q wr=>∃(k:Nat) (a:Option Addr) (cap:Nat),k≤4∧q=int k∧l=.slice a (i+k) cap∧∃own D',KL 6 7 74 B kp wk w0 bw (8*p) (i+k) (.slice a (i+k) cap) w.heap.size (cF (wrap64 (N+1))) own D' wr∧D'.N=wrap64 (N+1)∧D'.nets=D.nets∧D'.n 4=D'.n 5∧D'.n 6=D'.n 7∧∀o,o<8→D'.n o≤4*p+k) (fun _ q _=>4-(intOf q).toNat)
      case atStart=>
        obtain⟨q1,q2,q3⟩:=yA HD;exact⟨0,a,cap,by omega,rfl,rfl,_,_,yA HKL,rfl,rfl,q1,q2,fun o ho=>by have:=q3 o ho;exact this⟩
      case round=>
        obtain⟨k,a1,cap1,hk,rfl,rfl,own1,D1,hK1,hN1,hnets,e4,e6,hn1⟩:=hrel;have HK1:=uA hK1;have HE:=uA (⟨hN1,hnets,e4,e6,hn1⟩:D1.N=wrap64 (N+1)∧D1.nets=D.nets∧D1.n 4=D1.n 5∧D1.n 6=D1.n 7∧∀o,o<8→D1.n o≤4*p+k);clear HKL hK1 hN1 hnets e4 e6;by_cases hlt:k<4
        · have hnb:=hn1 6 (by omega)
          obtain⟨vL,hvL⟩:∃v,v=D1.v 6:=⟨_,rfl⟩;obtain⟨nL,hnL⟩:∃v,v=D1.n 6:=⟨_,rfl⟩;obtain⟨LL,hLL⟩:∃v,v=D1.L 6:=⟨_,rfl⟩;have c4:wr.cell? ⟨bw,6,none⟩=some vL:=by rw[hvL];exact(yA HK1).wb.cell 6 (by decide) (by decide)
          have hfz:=(yA HK1).wb.fr;have hbw:bw<wr.heap.size:=fP0 c4;have hlo:=(yA HK1).wb.lo;rw[←hnL] at hnb;obtain⟨t67,i67,z67,s67,b67⟩:=elem70;have I67:=uA i67;have Z67:=uA z67;have S67:=uA s67;have B67:=uA b67;have HV:=uA (⟨hvL,hnL,hLL⟩:vL=D1.v 6∧nL=D1.n 6∧LL=D1.L 6);have ca:qA wr (wr.alloc (.cells #[.slice a1 (i+k) cap1] 70)):=(cP0 _ _).alloc _;have HKC:=uA ((yA HK1).calm (yA HKD) ca);have oL:Hid ((wr.alloc (.cells #[.slice a1 (i+k) cap1] 70)).ownsRow B 70 1 vL nL LL):=uA (by rw[hvL,hnL,hLL];exact((yA HKC).wb.row 6 (by decide) (by decide)).own);clear i67 z67 s67 b67 hvL hnL hLL ca HK1 hn1;go_wp2_with (at_builtin;refine pB _ rfl _ _ 31 rfl B 70 t67 (.slice none 0 0) 1 24 Tryz.underlying31 (yA I67) (yA Z67) (yA S67) (yA B67) rfl (by decide) vL nL LL rfl (yA oL) ⟨wr.heap.size,0,none⟩ 1 1 [.slice a1 (i+k) cap1] rfl rfl ?news ?one (by decide) ?h63 ?bytes ?base ?_)
          case news=>intro j u hj;match j,hj with | 0,hj=>simp at hj;subst hj;simp[Addr.add]
          case one=>intro u hu;simp at hu;subst hu;rfl
          case h63=>unfold maxLen;omega
          case bytes=>omega
          case base=>simp;omega
          intro g1 cp1 w1 hg1;obtain⟨hvL,hnL,hLL⟩:=yA HV;obtain⟨_,_,e4,e6,hn1⟩:=yA HE;obtain⟨hk1,d4,hz1⟩:=(yA HKC).one (yA HKD) e6 (g:=g1) (cap:=cp1) (w':=w1) (by rw[hvL,hnL,hLL] at hg1;exact hg1);rw[←hvL] at d4;have dz:=hz1 6;have HK2:Hid (KL 6 7 74 B kp wk w0 bw (8*p) (i+k) (.slice a1 (i+k) cap1) w.heap.size (cF (wrap64 (N+1))) (nD own1 g1 (6+2,0)) (D1.put 6 (.slice (some ⟨g1,0,none⟩) (nL+1) cp1) (nL+1) (LL++[.slice a1 (i+k) cap1])) (w1.setCell ⟨bw,6,none⟩ (.slice (some ⟨g1,0,none⟩) (nL+1) cp1))):=uA (by rw[hnL,hLL];exact hk1);clear hk1 hg1 oL c4 hfz hbw hlo HKC hvL hnL hLL e4 e6 hn1 hz1;go_wp2;obtain⟨W2,hW2⟩:∃W2,W2=w1.setCell ⟨bw,6,none⟩ (.slice (some ⟨g1,0,none⟩) (nL+1) cp1):=⟨_,rfl⟩;rw[←hW2] at HK2 ⊢;clear hW2 d4 dz;go_cut [] (fun wx=>∃own D',KL 6 7 74 B kp wk w0 bw (8*p) (i+k) (.slice a1 (i+k) cap1) w.heap.size (cF (wrap64 (N+1))) own D' wx∧D'.N=wrap64 (N+1)∧D'.nets=D.nets∧D'.n 4=D'.n 5∧D'.n 6=D'.n 7∧∀o,o<8→D'.n o≤4*p+k+1)
          case first=>
            obtain⟨D2,hD2⟩:∃D2,D2=D1.put 6 (.slice (some ⟨g1,0,none⟩) (nL+1) cp1) (nL+1) (LL++[.slice a1 (i+k) cap1]):=⟨_,rfl⟩;rw[←hD2] at HK2;obtain⟨vM,hvM⟩:∃v,v=D2.v (6+1):=⟨_,rfl⟩;obtain⟨nM,hnM⟩:∃v,v=D2.n (6+1):=⟨_,rfl⟩;obtain⟨LM,hLM⟩:∃v,v=D2.L (6+1):=⟨_,rfl⟩
            have HD2:Hid (D2.N=wrap64 (N+1)∧D2.nets=D.nets∧D2.L 6=LL++[.slice a1 (i+k) cap1]∧D2.n 6=D2.n (6+1)+1∧(∀o,o≠6→D2.n o=D1.n o)):=uA (by
              obtain⟨q1,q2,q3,q4,q5⟩:=yA HE;obtain⟨_,r2,_⟩:=yA HV;rw[hD2];refine⟨q1,q2,(show put D1.L 6 _ 6=_ from eE _ _ _),?_,fun o ho=>(show put D1.n 6 (nL+1) o=D1.n o from oC _ _ ho)⟩;show put D1.n 6 (nL+1) 6=put D1.n 6 (nL+1) (6+1)+1
              rw[eE,oC _ _ (by decide),r2]
              first | rw[q3] | rw[q4])
            have hMb:nM≤4*p+k:=by
              obtain⟨_,_,_,_,q5⟩:=yA HE;obtain⟨_,_,_,_,r5⟩:=yA HD2;rw[hnM,r5 (6+1) (by decide)];exact q5 _ (by decide)
            have c5:W2.cell? ⟨bw,7,none⟩=some vM:=by rw[hvM];exact(yA HK2).wb.cell 7 (by decide) (by decide)
            have c1:W2.cell? ⟨bw,1,none⟩=some (int (wrap64 (N+1))):=by have:=(yA HK2).wb.num;rw[(yA HD2).1] at this;exact this
            have hfz:=(yA HK2).wb.fr;have hbw:bw<W2.heap.size:=fP0 c5;have hlo:=(yA HK2).wb.lo;have HV2:=uA (⟨hvM,hnM,hLM⟩:vM=D2.v (6+1)∧nM=D2.n (6+1)∧LM=D2.L (6+1));obtain⟨t3,i3,z3,s3,b3⟩:=kW;have I3:=uA i3;have Z3:=uA z3;have S3:=uA s3;have B3:=uA b3;clear i3 z3 s3 b3 hvM hnM hLM hD2
            go_region_law (first
              | (refine kB _ rfl _ _ 30 rfl B 3 t3 (.int .i64 0) 1 8 Tryz.underlying30 (yA I3) (yA Z3) (yA S3) (yA B3) rfl (by decide) vM nM LM rfl ?own ⟨W2.heap.size,0,none⟩ 1 1 [.int .i64 (cF (wrap64 (N+1)))] rfl rfl ?news ?one (by decide) ?h63 ?bytes ?base ?_
                 case own=>obtain⟨q1,q2,q3⟩:=yA HV2;rw[q1,q2,q3];exact(((yA HK2).calm (yA HKD) (((cP0 (fun _=>False) _).alloc _).drew)).wb.row 7 (by decide) (by decide)).own
                 case news=>intro j u hj;match j,hj with | 0,hj=>simp at hj;subst hj;simp[Addr.add];exact kE0 _
                 case one=>intro u hu;simp at hu;subst hu;rfl
                 case h63=>unfold maxLen;omega
                 case bytes=>omega
                 case base=>simp;omega
                 intro g2 cp2 w2 hg2;obtain⟨r1,r2,r3⟩:=yA HV2;obtain⟨s1,s2,s3,s4,s5⟩:=yA HD2;obtain⟨hk2,d5,hz2⟩:=((yA HK2).calm (yA HKD) (((cP0 (fun _=>False) _).alloc _).drew)).two (yA HKD) s3 s4 (by unfold maxLen;omega) (g:=g2) (cap:=cp2) (w':=w2) (by rw[r1,r2,r3] at hg2;exact hg2);rw[←r1] at d5;have dz:=hz2 7;have HK3:=uA hk2;rw[←r2] at HK3
                 clear hk2 hg2 hz2 r1 r2 r3 s1 s2 s3 s4 s5))
            all_goals go_wp2_with fail
            all_goals go_meet
            all_goals (
              obtain⟨s1,s2,s3,s4,s5⟩:=yA HD2;obtain⟨q1,q2,q3,q4,q5⟩:=yA HE;obtain⟨_,x2,_⟩:=yA HV;obtain⟨_,r2,_⟩:=yA HV2;refine⟨_,_,yA HK3,?_,?_,?_,?_,fun o ho=>?_⟩
              · exact s1
              · exact s2
              · have z4:=s5 4
                have z5:=s5 5;show put D2.n (6+1) (nM+1) 4=put D2.n (6+1) (nM+1) 5
                simp[put]
                omega
              · have z4:=s5 6
                have z5:=s5 7;show put D2.n (6+1) (nM+1) 6=put D2.n (6+1) (nM+1) 7
                simp[put]
                omega
              · show put D2.n (6+1) (nM+1) o≤_
                by_cases e:o=6+1
                · subst e;rw[eE];omega
                · rw[oC _ _ e]
                  by_cases e2:o=6
                  · subst e2;rw[s4,←r2];omega
                  · rw[s5 o e2];have:=q5 o ho;omega)
          case rest=>
            obtain⟨own3,D3,hK3,x1,x2,x3,x4,x5⟩:=hcut;have hbx:=hK3.box;rw[kX] at hbx;have b0:wc.cell? ⟨w.heap.size,0,none⟩=some (int (cF (wrap64 (N+1)))):=xA hbx 0;have b1:wc.cell? ⟨w.heap.size,1,none⟩=some (int 0):=xA hbx 1;have b2:wc.cell? ⟨w.heap.size,2,none⟩=some (int 0):=xA hbx 2;have b3:wc.cell? ⟨w.heap.size,3,none⟩=some (int 0):=xA hbx 3;have b4:wc.cell? ⟨w.heap.size,4,none⟩=some (int 0):=xA hbx 4;have b5:wc.cell? ⟨w.heap.size,5,none⟩=some (int 0):=xA hbx 5;have b6:wc.cell? ⟨w.heap.size,6,none⟩=some (int 0):=xA hbx 6;have hlo:=hK3.wb.lo;have ca:qA wc (wc.alloc (.cells #[int (cF (wrap64 (N+1))),int 0,int 0,int 0,int 0,int 0,int 0] 74)):=(cP0 _ _).alloc _;have HKC:=uA (hK3.calm (yA HKD) ca);have oR:=uA (yA HKC).row.own;have HE3:=uA (⟨x1,x2,x3,x4,x5⟩:D3.N=wrap64 (N+1)∧D3.nets=D.nets∧D3.n 4=D3.n 5∧D3.n 6=D3.n 7∧∀o,o<8→D3.n o≤4*p+k+1);clear hK3 hbx x1 x2 x3 x4 x5 HK2 ca;obtain⟨t69,i69,z69,s69,b69⟩:=tT;have I69:=uA i69;have Z69:=uA z69;have S69:=uA s69;have B69:=uA b69;clear i69 z69 s69 b69;go_wp2_with (at_builtin;refine pB _ rfl _ _ 70 rfl B 74 t69 (.agg #[int 0,int 0,int 0,int 0,int 0,int 0,int 0]) 7 56 Tryz.underlying70 (yA I69) (yA Z69) (yA S69) (yA B69) rfl (by decide) (.slice a1 (i+k) cap1) (i+k) (mks 7 (cF (wrap64 (N+1))) (i+k)) rfl (yA oR) ⟨wc.heap.size,0,none⟩ 1 1 [int (cF (wrap64 (N+1))),int 0,int 0,int 0,int 0,int 0,int 0] rfl rfl ?news3 ?one3 (by decide) ?h633 ?bytes3 ?base3 ?_)
            case news3=>exact yC wc _ 74
            case one3=>exact dE0 7 (cF (wrap64 (N+1)))
            case h633=>unfold maxLen;omega
            case bytes3=>omega
            case base3=>simp;omega
            intro g4 cp4 w4 hg4;have HK4:=uA ((yA HKC).three (yA HKD) hg4);clear hg4 HKC oR;go_wp2;go_roundw
            case rel=>exact⟨k+1,some ⟨g4,0,none⟩,cp4,by omega,by go_num,rfl,_,_,yA HK4,(yA HE3).1,(yA HE3).2.1,(yA HE3).2.2.1,(yA HE3).2.2.2.1,(yA HE3).2.2.2.2⟩
            case measure=>simp[intOf];omega
        · have hk4:k=4:=by omega
          subst hk4;go_wp2;go_end0
          obtain⟨q1,q2,q3,q4,q5⟩:=yA HE;refine⟨rfl,?_⟩;rw[←q2];exact St.of (yA HK1) (by omega) (fun o ho=>by have:=q5 o ho;omega) q3 q4
set_option maxRecDepth 100000 in
set_option maxHeartbeats 2000000 in
theorem bP {B:Nat}{kp:Nat→Prop}{wk w0 w:World}{bw:Nat}{nets:List Tw}{p:Nat}(h:St B kp wk w0 bw nets p w)(hp:p≤1000000000){i:Nat}{t:Tw}(hi:nets[i]?=some t)(hst:t.τ=t.σ):
  Calls Tryz.prog 9 #[.pointer (some ⟨bw,0,none⟩),.agg #[.pointer (some ⟨t.bx,0,none⟩),.pointer (some ⟨t.br,0,none⟩)]] w fun e w'=>e=.returned (.bool true)∧St B kp wk w0 bw nets (p+1) w':=by
 have hca:qA w (w.alloc (.cells #[.pointer (some ⟨t.bx,0,none⟩),.pointer (some ⟨t.br,0,none⟩)] 45)):=(cP0 _ _).alloc _;have H:=uA (h.calm hca);have HI:=uA hi;have HST:=uA hst;have HLEN:=uA (dL t.σ);clear h hca hi hst;go_enter Tryz.func9,Tryz.ntmps9
 go_wp2_with fail
 refine(sG0 (yA H) (yA HI)).mono ?_;rintro e w1 ⟨⟨v1,rfl,hl1⟩,h1,c1⟩
 obtain⟨a1,cap1,rfl⟩:=fH hl1;have hbx:=c1.box id;have e1:w1.cell? ⟨w.heap.size,1,none⟩=some (.pointer (some ⟨t.br,0,none⟩)):=xA hbx 1;have HC1:=uA c1;have H1:=uA h1;have HL1:=uA hl1;clear hbx c1 h1 hl1;go_wp2_with fail
 refine(lV (yA H1) (yA HI)).mono ?_;rw[yA HST];rintro e w2 ⟨⟨v2,rfl,hl2⟩,h2,c2⟩
 obtain⟨a2,cap2,rfl⟩:=fH hl2;have HL1':=uA (eA (yA HL1) c2 (fun _ _ f=>f));have HL2:=uA hl2;have HC2:=uA ((yA HC1).calm c2);obtain⟨l,hll⟩:∃l,l=t.σ.pending:=⟨_,rfl⟩;rw[←hll] at HL1' HL2 HLEN ⊢;obtain⟨n,hn⟩:∃n,n=l.length:=⟨_,rfl⟩;have HR1:Hid (w2.ownsRow (w.alloc (.cells #[.pointer (some ⟨t.bx,0,none⟩),.pointer (some ⟨t.br,0,none⟩)] 45)).heap.size 69 3 (.slice a1 n cap1) n (l.flatMap Lnk.enc)):=by rw[hn];exact HL1'
 have HR2:Hid (w2.ownsRow w1.heap.size 69 3 (.slice a2 n cap2) n (l.flatMap Lnk.enc)):=by rw[hn];exact HL2
 rw[←hn] at HLEN ⊢;have HN:=uA hn;clear hl2 h2 c2 HL1 HL1' HL2 hll hn H1 HC1 e1;go_wp2_with fail
 have hn36:(n:Int)≤36:=by have:=yA HLEN;omega
 go_loopw [7,8] (fun ok q wr=>∃k:Nat,k≤n∧ok=.bool true∧q=int k∧qA w2 wr) (fun _ q _=>n-(intOf q).toNat)
 case atStart=>exact⟨0,by omega,by simp,rfl,cP0 _ _⟩
 case round=>
  obtain⟨k,hk,rfl,rfl,hc⟩:=hrel;have HC:=uA hc;clear hc;by_cases hlt:k<n
  ·have hki:(k:Int)<n:=by omega
   obtain⟨g1,rfl,r1⟩:=eJ (yA HR1) (by omega);obtain⟨g2,rfl,r2⟩:=eJ (yA HR2) (by omega);have hkl:k<l.length:=by have:=yA HN;omega
   obtain⟨x,hx⟩:∃x,l[k]?=some x:=⟨_,pO0 hkl⟩;obtain⟨x0,x1,x2⟩:=gX l k x hx;have q0:=(yA HC).cell (p:=⟨g1,k*3,none⟩) id (r1 _ _ x0);have q1:=(yA HC).cell (p:=⟨g1,k*3+1,none⟩) id (r1 _ _ x1);have q2:=(yA HC).cell (p:=⟨g1,k*3+2,none⟩) id (r1 _ _ x2);have s0:=(yA HC).cell (p:=⟨g2,k*3,none⟩) id (r2 _ _ x0);have s1:=(yA HC).cell (p:=⟨g2,k*3+1,none⟩) id (r2 _ _ x1);have s2:=(yA HC).cell (p:=⟨g2,k*3+2,none⟩) id (r2 _ _ x2);obtain⟨xa,xb,xm⟩:=x;clear r1 r2 x0 x1 x2 hx hkl;go_wp2;go_quiet (fail)
   go_wp2;go_roundw
   case rel=>exact⟨k+1,by omega,by simp,by go_num,(yA HC).trans (qC _ nq)⟩
   case measure=>simp[intOf];omega
  ·have hki:¬(k:Int)<n:=by omega
   obtain⟨own,D,hK,hD,hn4,h4,h6⟩:=(yA H).takes ((yA HC2).calm (yA HC)) (o:=4) (sz:=3) (Or.inl ⟨rfl,rfl⟩) (eA (yA HR1) (yA HC) (fun _ _ f=>f));have HKL:=uA (oU hK h4 h6 hn4 hp (by have:=yA HLEN;omega));rw[hD] at HKL;clear hK hD hn4 h4 h6;go_wp2_with (go_at_call 24;refine(yA HKL).mono ?_;rintro e w3 ⟨rfl,h3⟩;have H3:=uA h3;clear h3);go_ret;exact⟨rfl,yA H3⟩
set_option maxRecDepth 100000 in
set_option maxHeartbeats 2000000 in
theorem bM0 {B:Nat}{kp:Nat→Prop}{wk w0 w:World}{bw:Nat}{nets:List Tw}{p:Nat}(h:St B kp wk w0 bw nets p w)(hp:p≤100000000){i:Nat}{t:Tw}(hi:nets[i]?=some t)(hst:t.τ=t.σ)(c:Int):
  Calls Tryz.prog 58 #[.pointer (some ⟨bw,0,none⟩),.agg #[.pointer (some ⟨t.bx,0,none⟩),.pointer (some ⟨t.br,0,none⟩)],int c] w fun e w'=>e=.returned (.bool true)∧St B kp wk w0 bw (nets.set i {t with σ:=t.σ.log c,τ:=t.σ.log c}) (p+3) w':=by
 obtain⟨W,hW⟩:∃W,w.alloc (.cells #[.pointer (some ⟨t.bx,0,none⟩),.pointer (some ⟨t.br,0,none⟩)] 45)=W:=⟨_,rfl⟩;have hca:qA w W:=by rw[←hW];exact(cP0 _ _).alloc _
 have hbox:W.heap[w.heap.size]?=some (.cells #[.pointer (some ⟨t.bx,0,none⟩),.pointer (some ⟨t.br,0,none⟩)] 45):=by rw[←hW];exact eP0 _ _
 have H:=uA (h.guard hca (fun k=>k=w.heap.size) (fun g e=>⟨by omega,by rw[e];exact(tO0.1 hbox).1⟩));have HKP:Hid (∀k,kp k→W.heap[k]?=wk.heap[k]?):=uA (fun k hk=>(h.calm hca).kept hk);have HLN:=uA (h.logLen hi c);have HBOX:=uA hbox;have HI:=uA hi;have HST:=uA hst;have e0:W.cell? ⟨w.heap.size,0,none⟩=some (.pointer (some ⟨t.bx,0,none⟩)):=xA hbox 0;have HW:=uA hW;clear h hca hi hst hbox hW;go_enter Tryz.func58,Tryz.ntmps58
 go_upto_region 1 with fail
 rw[yA HW];go_wp2_with fail
 refine(logSX (yA H) (yA HI) c).mono ?_;rintro e w1 ⟨v1,rfl,h1⟩
 obtain⟨a1,cap1,rfl⟩:=fH h1.row;have hb1:=(h1.kept (k:=w.heap.size) (Or.inr rfl)).trans (yA HBOX);have e1:w1.cell? ⟨w.heap.size,1,none⟩=some (.pointer (some ⟨t.br,0,none⟩)):=xA hb1 1;have H1:=uA h1;clear hb1 h1 e0 H;go_wp2_with fail
 refine(logSR (yA H1) (pI (yA HI)) c).mono ?_;simp only;rw[yA HST,uG];rintro e w2 ⟨v2,rfl,hl2,h2⟩
 obtain⟨a2,cap2,rfl⟩:=fH hl2;obtain⟨E,hE⟩:∃E,E=t.σ.logE c:=⟨_,rfl⟩;obtain⟨l,hll⟩:∃l,l=t.σ.logA c:=⟨_,rfl⟩;rw[←hll] at hl2 h2 HLN ⊢;rw[←hE];obtain⟨n,hn⟩:∃n,n=l.length:=⟨_,rfl⟩;rw[←hn] at hl2 h2 HLN ⊢;have HR1:=uA h2.row;have HR2:=uA hl2;have H2:=uA h2;have HN:=uA hn;clear hl2 h2 hll hn H1 e1 hE;go_wp2_with (go_at_call 14;refine(kE _ _).mono ?_;rintro e w' ⟨rfl,hw'⟩;have hw':=hw'.symm;subst hw');have hn36:(n:Int)≤1000000000:=by have:=yA HLN;omega
 go_loopw [11,12] (fun ok q wr=>∃k:Nat,k≤n∧ok=.bool true∧q=int k∧qA w2 wr) (fun _ q _=>n-(intOf q).toNat)
 case atStart=>exact⟨0,by omega,by simp,rfl,cP0 _ _⟩
 case round=>
  obtain⟨k,hk,rfl,rfl,hc⟩:=hrel;have HC:=uA hc;clear hc;by_cases hlt:k<n
  ·have hki:(k:Int)<n:=by omega
   obtain⟨g1,rfl,r1⟩:=eJ (yA HR1) (by omega);obtain⟨g2,rfl,r2⟩:=eJ (yA HR2) (by omega);have hkl:k<l.length:=by have:=yA HN;omega
   obtain⟨x,hx⟩:∃x,l[k]?=some x:=⟨_,pO0 hkl⟩;obtain⟨x0,x1,x2,x3,x4,x5,x6⟩:=tF0 l k x hx;have q0:=(yA HC).cell (p:=⟨g1,k*7,none⟩) id (r1 _ _ x0);have q1:=(yA HC).cell (p:=⟨g1,k*7+1,none⟩) id (r1 _ _ x1);have q2:=(yA HC).cell (p:=⟨g1,k*7+2,none⟩) id (r1 _ _ x2);have q3:=(yA HC).cell (p:=⟨g1,k*7+3,none⟩) id (r1 _ _ x3);have q4:=(yA HC).cell (p:=⟨g1,k*7+4,none⟩) id (r1 _ _ x4);have q5:=(yA HC).cell (p:=⟨g1,k*7+5,none⟩) id (r1 _ _ x5);have q6:=(yA HC).cell (p:=⟨g1,k*7+6,none⟩) id (r1 _ _ x6);have s0:=(yA HC).cell (p:=⟨g2,k*7,none⟩) id (r2 _ _ x0);have s1:=(yA HC).cell (p:=⟨g2,k*7+1,none⟩) id (r2 _ _ x1);have s2:=(yA HC).cell (p:=⟨g2,k*7+2,none⟩) id (r2 _ _ x2);have s3:=(yA HC).cell (p:=⟨g2,k*7+3,none⟩) id (r2 _ _ x3);have s4:=(yA HC).cell (p:=⟨g2,k*7+4,none⟩) id (r2 _ _ x4);have s5:=(yA HC).cell (p:=⟨g2,k*7+5,none⟩) id (r2 _ _ x5);have s6:=(yA HC).cell (p:=⟨g2,k*7+6,none⟩) id (r2 _ _ x6);obtain⟨xa,xb,⟨xp,xq,y0,y1,y2⟩⟩:=x;have h35:=eq35 y0 y1 y2;clear r1 r2 x0 x1 x2 x3 x4 x5 x6 hx hkl;go_wp2;go_quiet (fail)
   go_wp2;go_roundw
   case rel=>exact⟨k+1,by omega,by simp,by go_num,(yA HC).trans (qC _ nq)⟩
   case measure=>simp[intOf];omega
  ·have hki:¬(k:Int)<n:=by omega
   obtain⟨own,D,hK,hD,hn4,h4,h6⟩:=(yA H2).calm (yA HC);have HKL:=uA (jA0 hK h4 h6 hn4 (by omega) (by have:=yA HLN;omega));rw[hD] at HKL;clear hK hD hn4 h4 h6;go_wp2_with (go_at_call 95;refine(yA HKL).mono ?_;rintro e w3 ⟨rfl,h3⟩;have H3:=uA h3;clear h3);go_ret;exact⟨rfl,(yA H3).back (fun k hk=>Or.inl hk) (yA HKP)⟩
end Go.Proofs.YtodfcpblcpogiaaGreat

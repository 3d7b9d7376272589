import Derived.Test.YtodfcpblcpogiaaGreatUnb
import Derived.Test.YtodfcpblcpogiaaGreatUj
namespace Go.Proofs.YtodfcpblcpogiaaGreat
open Go.RowKit
def pE (σ:Net)(K A Bv x y z:Int)(l:List Tst):Net:=
 if K=2 then σ.attach A Bv else if K=3 then σ.detach A else if K=4 then σ.pub A x y z else if K=7 then σ.sub A l else if K=8 then σ.unsub A Bv else if K=9 then σ.del A Bv else if K=10 then σ.anyN A else if K=11 then σ.log A else if K=12 then σ.close else σ
theorem xP {σ:Net}{K A Bv x y z:Int}{l:List Tst}(h2:K≠2)(h3:K≠3)(h4:K≠4)(h:K≤6∨13≤K):pE σ K A Bv x y z l=σ:=by
 unfold pE;rw[if_neg h2,if_neg h3,if_neg h4,if_neg (by omega),if_neg (by omega),if_neg (by omega),if_neg (by omega),if_neg (by omega),if_neg (by omega)]
def iU (nets:List Tw):Prop:=∀(i:Nat) t,nets[i]?=some t→t.τ=t.σ
def qJ (nets:List Tw)(K On A Bv x y z:Int)(l:List Tst):List Tw:=match nets[oE On nets.length]? with
 | none=>nets
 | some t=>nets.set (oE On nets.length) {t with σ:=pE t.σ K A Bv x y z l,τ:=pE t.σ K A Bv x y z l}
theorem vG0 {K On A Bv x y z:Int}{l:List Tst}:qJ [] K On A Bv x y z l=[]:=rfl
theorem aZ {nets:List Tw}{K On A Bv x y z:Int}{l:List Tst}{t:Tw}(ht:nets[oE On nets.length]?=some t):qJ nets K On A Bv x y z l=nets.set (oE On nets.length) {t with σ:=pE t.σ K A Bv x y z l,τ:=pE t.σ K A Bv x y z l}:=by simp[qJ,ht]
theorem yD0 {nets:List Tw}{K On A Bv x y z:Int}{l:List Tst}{t:Tw}(ht:nets[oE On nets.length]?=some t)(hst:t.τ=t.σ)(h:pE t.σ K A Bv x y z l=t.σ):qJ nets K On A Bv x y z l=nets:=by
 rw[aZ ht,h];have:({t with σ:=t.σ,τ:=t.σ}:Tw)=t:=by
  cases t
  simp only at hst;subst hst;rfl
 rw[this];exact sX ht
theorem mV {nets:List Tw}{K On A Bv x y z:Int}{l:List Tst}:(qJ nets K On A Bv x y z l).length=nets.length:=by
 unfold qJ;split
 ·rfl
 ·simp
theorem zD0 {nets:List Tw}(h:iU nets){K On A Bv x y z:Int}{l:List Tst}:iU (qJ nets K On A Bv x y z l):=by
 unfold qJ;split
 ·exact h
 ·rename_i t ht
  intro i u hu;by_cases e:oE On nets.length=i
  ·subst e;rw[List.getElem?_set_self (rO0.1 ht).1] at hu;have:({t with σ:=pE t.σ K A Bv x y z l,τ:=pE t.σ K A Bv x y z l}:Tw)=u:=by simpa using hu
   subst this;rfl
  ·rw[List.getElem?_set_ne e] at hu;exact h i u hu
def Played (B:Nat)(kp:Nat→Prop)(wk w0:World)(bw:Nat)(nets:List Tw)(p:Nat)(K On A Bv:Int)(f:Nat→Int)(n:Nat)(x y z:Int)(l:List Tst)(w:World):Prop:=
 (K=1∧addNet B kp wk w0 bw nets p f n w)∨(K≠1∧St B kp wk w0 bw (qJ nets K On A Bv x y z l) (p+3) w)
theorem addNet.back {B:Nat}{kp kp':Nat→Prop}{wk wk' w0 w:World}{bw:Nat}{nets:List Tw}{p:Nat}{f:Nat→Int}{n:Nat}(h:addNet B kp' wk' w0 bw nets p f n w)(hk:∀k,kp k→kp' k)(hw:∀k,kp k→wk'.heap[k]?=wk.heap[k]?):addNet B kp wk w0 bw nets p f n w:=
 h.imp (fun ⟨a,b⟩=>⟨a,b.back hk hw⟩) (fun ⟨a,bx,br,b⟩=>⟨a,bx,br,b.back hk hw⟩)
theorem eq48 (a b:Bool)(w:World):(Op.equalIn 9999 48 (.agg #[.bool a,.bool b]) (.agg #[.bool a,.bool b])).run Tryz.prog w=.ok true w:=by
 cases a<;>cases b<;>kernel_rfl
theorem pK0 (σ:Net)(c:Int):∃(h m:Int) (wt u0 u1:Bool),σ.lookA c=#[int h,int m,.bool wt,.bool u0,.bool u1]:=by
 unfold Net.lookA;split
 ·exact⟨_,_,_,_,_,rfl⟩
 ·exact⟨_,_,_,_,_,rfl⟩
set_option maxRecDepth 100000 in
set_option maxHeartbeats 4000000 in
theorem kC {B:Nat}{kp:Nat→Prop}{wk w0 w:World}{bw:Nat}{nets:List Tw}{p:Nat}(h:St B kp wk w0 bw nets p w)(hp:p≤100000000)(hsy:iU nets)(K On A Bv:Int)(la:Option Addr)(ln lc:Nat)(f:Nat→Int)(x y z:Int)(ta:Option Addr)(tc:Nat){l:List Tst}
    (hI:IntsAt w la ln f) (hln:ln≤1073741824) (hT:∀w',Below B w0 w'→(∀k,kp k→w'.heap[k]?=wk.heap[k]?)→TestsAt w' ta l) (hn:l.length≤1073741824) (ho1:-9223372036854775808≤On) (ho2:On≤9223372036854775807) (hA1:-9223372036854775808≤A) (hA2:A≤9223372036854775807):
    Calls Tryz.prog 7 #[.pointer (some ⟨bw,0,none⟩),.agg (opA K On A Bv (.slice la ln lc) x y z (.slice ta l.length tc))] w fun e w'=>e=.returned (.bool true)∧Played B kp wk w0 bw nets p K On A Bv f ln x y z l w':=by
  obtain⟨V,hV⟩:∃V,w.alloc (.cells (opA K On A Bv (.slice la ln lc) x y z (.slice ta l.length tc)) 38)=V:=⟨_,rfl⟩;have hcV:qA w V:=by rw[←hV];exact(cP0 _ _).alloc _
  have bV:V.heap[w.heap.size]?=some (.cells (opA K On A Bv (.slice la ln lc) x y z (.slice ta l.length tc)) 38):=by rw[←hV];exact eP0 _ _
  have hlV:=(tO0.1 bV).1;have H:=uA (h.guard hcV (fun k=>k=w.heap.size) (fun g e=>⟨by omega,by omega⟩));have HKP:Hid (∀k,kp k→V.heap[k]?=wk.heap[k]?):=uA (fun k hk=>(h.calm hcV).kept hk);have HI:=uA (hI.calm hcV);have HTT:=uA hT;have HBV:=uA bV;have HV:=uA hV;have HSY:=uA hsy;have hmany:=h.many;have o0:V.cell? ⟨w.heap.size,0,none⟩=some (.int .i64 K):=xA bV 0;have o1:V.cell? ⟨w.heap.size,1,none⟩=some (.int .i64 On):=xA bV 1;have o4:V.cell? ⟨w.heap.size,4,none⟩=some (.slice la ln lc):=xA bV 4;clear h hI hT hcV bV hV hsy;by_cases hK1:K=1
  · subst hK1
    go_enter Tryz.func7,Tryz.ntmps7
    go_upto_region 1 with fail
    rw[yA HV];go_wp2_with fail
    refine(xI0 (yA H) (by omega) la ln lc f (yA HI) hln).mono ?_;rintro e w1 ⟨rfl,h1⟩
    have H1:=uA h1;clear h1;go_wp2;go_ret;exact⟨rfl,Or.inl ⟨rfl,(yA H1).back (fun k hk=>Or.inl hk) (yA HKP)⟩⟩
  · have k1:(K == 1)=false:=by simp[hK1]
    have HK1:=uA hK1;clear hK1 HI o4;rcases Nat.eq_zero_or_pos nets.length with hz | hpos
    · have hnil:nets=[]:=zP0 hz
      subst hnil;obtain⟨a0,c0,h0⟩:=(yA H).top;replace h0:V.cell? ⟨bw,0,none⟩=some (.slice a0 0 c0):=h0;go_enter Tryz.func7,Tryz.ntmps7
      go_upto_region 1 with fail
      rw[yA HV];go_wp2;go_ret;refine⟨rfl,Or.inr ⟨yA HK1,?_⟩⟩;rw[vG0];exact((yA H).mono (by omega)).back (fun k hk=>Or.inl hk) (yA HKP)
    · have hil:=yA0 On nets.length hpos
      obtain⟨t,hti⟩:∃t,nets[oE On nets.length]?=some t:=⟨_,pO0 hil⟩;have HPL:=uA (aZ (K:=K) (A:=A) (Bv:=Bv) (x:=x) (y:=y) (z:=z) (l:=l) hti);have HPS:=uA (yD0 (K:=K) (A:=A) (Bv:=Bv) (x:=x) (y:=y) (z:=z) (l:=l) hti (yA HSY _ _ hti));have hpk:=zA0 On nets.length;have HST:=uA (yA HSY _ _ hti);obtain⟨i,hie⟩:∃i,i=oE On nets.length:=⟨_,rfl⟩;rw[←hie] at hil hti HPL hpk;clear hie;have HPK:=uA hpk;obtain⟨gA,cA,a0,a1,a2⟩:=(yA H).all hti;have HTI:=uA hti;have hlenb:(nets.length:Int)≤4611686018427387904:=by omega
      have hposi:(0:Int)<nets.length:=by omega
      have hnz:((nets.length:Int) == 0)=false:=beq_eq_false_iff_ne.2 (by omega);have hili:(i:Int)<nets.length:=by omega
      have hi0:(0:Int)≤(i:Int):=by omega
      have b1:bw<V.heap.size:=fP0 a0;have b2:gA<V.heap.size:=fP0 a1;clear hpk hti hpos;go_enter Tryz.func7,Tryz.ntmps7
      go_upto_region 1 with fail
      rw[yA HV];go_upto_region 5 with fail
      go_cut [5] (fun s wx=>s=.pointer (some ⟨V.heap.size,0,none⟩)∧wx.heap[V.heap.size]?=some (.cells (twA t) 45)∧qA V wx)
      case first=>
        go_region_held3 (fun w'=>w'.cell? ⟨bw,0,none⟩=some (.slice (some ⟨gA,0,none⟩) nets.length cA)∧w'.cell? ⟨gA,i*2,none⟩=some (.pointer (some ⟨t.bx,0,none⟩))∧w'.cell? ⟨gA,i*2+1,none⟩=some (.pointer (some ⟨t.br,0,none⟩))∧w'.cell? ⟨w.heap.size,1,none⟩=some (.int .i64 On))
          (go_keep)
          (first | (go_at_call 12;refine(yA HPK _ ho1 ho2 (by omega) (by omega)).mono ?_;rintro e w' ⟨rfl,rfl⟩))
        all_goals go_wp2_with fail
        all_goals go_meet
        all_goals exact⟨rfl,eP0 _ _,((cP0 _ _).alloc _).drew⟩
      case rest=>
        obtain⟨rfl,hg,hcw⟩:=hcut;have H1:=uA ((yA H).guard hcw (fun k=>k=V.heap.size) (fun k e=>⟨by omega,by rw[e];exact(tO0.1 hg).1⟩));have hb:=(hcw.block w.heap.size hlV id).trans (yA HBV);have HB:=uA hb;have HG:=uA hg;have HKW:Hid (∀k,kp k→wc.heap[k]?=wk.heap[k]?):=uA (fun k hk=>(((yA H).calm hcw).kept (Or.inl hk)).trans (yA HKP k hk));have c0:wc.cell? ⟨w.heap.size,0,none⟩=some (.int .i64 K):=xA hb 0;have c1:wc.cell? ⟨w.heap.size,1,none⟩=some (.int .i64 On):=xA hb 1;have c2:wc.cell? ⟨w.heap.size,2,none⟩=some (.int .i64 A):=xA hb 2;have c3:wc.cell? ⟨w.heap.size,3,none⟩=some (.int .i64 Bv):=xA hb 3;have c4:wc.cell? ⟨w.heap.size,4,none⟩=some (.slice la ln lc):=xA hb 4;have c5:wc.cell? ⟨w.heap.size,5,none⟩=some (.int .i64 x):=xA hb 5;have c6:wc.cell? ⟨w.heap.size,6,none⟩=some (.int .i64 y):=xA hb 6;have c7:wc.cell? ⟨w.heap.size,7,none⟩=some (.int .i64 z):=xA hb 7;have c8:wc.cell? ⟨w.heap.size,8,none⟩=some (.slice ta l.length tc):=xA hb 8;have d0:wc.cell? ⟨V.heap.size,0,none⟩=some (.pointer (some ⟨t.bx,0,none⟩)):=xA hg 0;have d1:wc.cell? ⟨V.heap.size,1,none⟩=some (.pointer (some ⟨t.br,0,none⟩)):=xA hg 1;have hlc1:w.heap.size<wc.heap.size:=fP0 c0;have hlc2:V.heap.size<wc.heap.size:=fP0 d0;clear H hb hg hcw a0 a1 a2 o0 o1 b1 b2 HPK hnz hposi hlenb hili hi0 HV HBV HKP;by_cases e2:K=2
        · subst e2
          go_wp2_with fail
          refine(zM0 (yA H1) (yA HTI) (by omega) A Bv).mono ?_;rintro e w1 ⟨rfl,h1⟩
          have f1:w1.cell? ⟨V.heap.size,1,none⟩=some (.pointer (some ⟨t.br,0,none⟩)):=xA ((h1.kept (Or.inr rfl)).trans (yA HG)) 1;have fo2:w1.cell? ⟨w.heap.size,2,none⟩=some (.int .i64 A):=xA ((h1.kept (Or.inl (Or.inr rfl))).trans (yA HB)) 2;have fo3:w1.cell? ⟨w.heap.size,3,none⟩=some (.int .i64 Bv):=xA ((h1.kept (Or.inl (Or.inr rfl))).trans (yA HB)) 3;obtain⟨E,hE⟩:∃E,E=t.σ.attachE A Bv:=⟨_,rfl⟩
          have HSR:Hid (∀wq,qA w1 wq→Calls Tryz.prog 15 #[.pointer (some ⟨t.br,0,none⟩),int A,int Bv] wq fun e w'=>e=.returned (int E)∧St B (fun k=>(kp k∨k=w.heap.size)∨k=V.heap.size) wc w0 bw (nets.set i {t with σ:=t.σ.attach A Bv,τ:=t.σ.attach A Bv}) (p+2) w'):=uA (fun wq cq=>by
            have:=yM0 (h1.calm cq) (pI (yA HTI)) (by omega) A Bv;simp only[yA HST,uG,←hE] at this
            exact this)
          rw[←hE];clear h1 H1 c0 c1 c2 c3 c4 c5 c6 c7 c8 d0 d1 hE;go_wp2;go_cut [4] (fun s wx=>s=.bool true∧St B (fun k=>(kp k∨k=w.heap.size)∨k=V.heap.size) wc w0 bw (nets.set i {t with σ:=t.σ.attach A Bv,τ:=t.σ.attach A Bv}) (p+2) wx)
          case first=>
            go_region_held3 (fun w'=>w'.cell? ⟨V.heap.size,1,none⟩=some (.pointer (some ⟨t.br,0,none⟩))∧w'.cell? ⟨w.heap.size,2,none⟩=some (.int .i64 A)∧w'.cell? ⟨w.heap.size,3,none⟩=some (.int .i64 Bv))
              (first | exact k0 | go_keep)
              (first
                | (go_at_call 14;refine(kE _ _).mono ?_;rintro e w' ⟨rfl,rfl⟩)
                | (go_at_call 15;refine(yA HSR _ (by first | exact(cP0 _ _).drew | exact cP0 _ _)).mono ?_;rintro e w2 ⟨rfl,h2⟩
                   have k0:w2.cell? ⟨V.heap.size,1,none⟩=some (.pointer (some ⟨t.br,0,none⟩))∧w2.cell? ⟨w.heap.size,2,none⟩=some (.int .i64 A)∧w2.cell? ⟨w.heap.size,3,none⟩=some (.int .i64 Bv):=⟨xA ((h2.kept (Or.inr rfl)).trans (yA HG)) 1,xA ((h2.kept (Or.inl (Or.inr rfl))).trans (yA HB)) 2,xA ((h2.kept (Or.inl (Or.inr rfl))).trans (yA HB)) 3⟩;have H2:=uA h2
                   clear h2))
            all_goals go_wp2
            all_goals go_meet
            all_goals exact⟨by simp,yA H2⟩
          case rest=>
            obtain⟨rfl,h2⟩:=hcut;have H2:=uA h2;clear h2;go_wp2;go_ret;refine⟨rfl,Or.inr ⟨by decide,?_⟩⟩;rw[yA HPL];exact((yA H2).mono (by omega)).back (fun k hk=>Or.inl (Or.inl hk)) (yA HKW)
        · have k2:(K == 2)=false:=beq_eq_false_iff_ne.2 e2
          by_cases e3:K=3
          · subst e3
            go_wp2_with fail
            refine(nL0 (yA H1) (yA HTI) (by omega) A).mono ?_;rintro e w1 ⟨rfl,h1⟩
            have f1:w1.cell? ⟨V.heap.size,1,none⟩=some (.pointer (some ⟨t.br,0,none⟩)):=xA ((h1.kept (Or.inr rfl)).trans (yA HG)) 1;have fo2:w1.cell? ⟨w.heap.size,2,none⟩=some (.int .i64 A):=xA ((h1.kept (Or.inl (Or.inr rfl))).trans (yA HB)) 2;obtain⟨E,hE⟩:∃E,E=t.σ.detachE A:=⟨_,rfl⟩
            have HSR:Hid (∀wq,qA w1 wq→Calls Tryz.prog 17 #[.pointer (some ⟨t.br,0,none⟩),int A] wq fun e w'=>e=.returned (int E)∧St B (fun k=>(kp k∨k=w.heap.size)∨k=V.heap.size) wc w0 bw (nets.set i {t with σ:=t.σ.detach A,τ:=t.σ.detach A}) (p+2) w'):=uA (fun wq cq=>by
              have:=mL0 (h1.calm cq) (pI (yA HTI)) A;simp only[yA HST,uG,←hE] at this
              exact this)
            rw[←hE];clear h1 H1 c0 c1 c2 c3 c4 c5 c6 c7 c8 d0 d1 hE;go_wp2;go_cut [4] (fun s wx=>s=.bool true∧St B (fun k=>(kp k∨k=w.heap.size)∨k=V.heap.size) wc w0 bw (nets.set i {t with σ:=t.σ.detach A,τ:=t.σ.detach A}) (p+2) wx)
            case first=>
              go_region_held3 (fun w'=>w'.cell? ⟨V.heap.size,1,none⟩=some (.pointer (some ⟨t.br,0,none⟩))∧w'.cell? ⟨w.heap.size,2,none⟩=some (.int .i64 A))
                (first | exact k0 | go_keep)
                (first
                  | (go_at_call 14;refine(kE _ _).mono ?_;rintro e w' ⟨rfl,rfl⟩)
                  | (go_at_call 17;refine(yA HSR _ (by first | exact(cP0 _ _).drew | exact cP0 _ _)).mono ?_;rintro e w2 ⟨rfl,h2⟩
                     have k0:w2.cell? ⟨V.heap.size,1,none⟩=some (.pointer (some ⟨t.br,0,none⟩))∧w2.cell? ⟨w.heap.size,2,none⟩=some (.int .i64 A):=⟨xA ((h2.kept (Or.inr rfl)).trans (yA HG)) 1,xA ((h2.kept (Or.inl (Or.inr rfl))).trans (yA HB)) 2⟩;have H2:=uA h2
                     clear h2))
              all_goals go_wp2
              all_goals go_meet
              all_goals exact⟨by simp,yA H2⟩
            case rest=>
              obtain⟨rfl,h2⟩:=hcut;have H2:=uA h2;clear h2;go_wp2;go_ret;refine⟨rfl,Or.inr ⟨by decide,?_⟩⟩;rw[yA HPL];exact((yA H2).mono (by omega)).back (fun k hk=>Or.inl (Or.inl hk)) (yA HKW)
          · have k3:(K == 3)=false:=beq_eq_false_iff_ne.2 e3
            by_cases e4:K=4
            · subst e4
              go_wp2_with fail
              refine(yG0 (yA H1) (yA HTI) (by omega) A x y z).mono ?_;rintro e w1 ⟨rfl,h1⟩
              have f1:w1.cell? ⟨V.heap.size,1,none⟩=some (.pointer (some ⟨t.br,0,none⟩)):=xA ((h1.kept (Or.inr rfl)).trans (yA HG)) 1;have f2:w1.cell? ⟨w.heap.size,2,none⟩=some (.int .i64 A):=xA ((h1.kept (Or.inl (Or.inr rfl))).trans (yA HB)) 2;have f5:w1.cell? ⟨w.heap.size,5,none⟩=some (.int .i64 x):=xA ((h1.kept (Or.inl (Or.inr rfl))).trans (yA HB)) 5;have f6:w1.cell? ⟨w.heap.size,6,none⟩=some (.int .i64 y):=xA ((h1.kept (Or.inl (Or.inr rfl))).trans (yA HB)) 6;have f7:w1.cell? ⟨w.heap.size,7,none⟩=some (.int .i64 z):=xA ((h1.kept (Or.inl (Or.inr rfl))).trans (yA HB)) 7;have hSR:=xG0 h1 (pI (yA HTI)) (by omega) A x y z;simp only[yA HST,uG] at hSR;generalize t.σ.pubE A=E at*;generalize t.σ.pubA A=N at*;have HSR:=uA hSR;clear h1 hSR H1 c0 c1 c2 c3 c4 c5 c6 c7 c8 d0 d1;go_wp2_with fail
              refine(yA HSR).mono ?_;rintro e w2 ⟨rfl,h2⟩
              have H2:=uA h2;clear h2 f1 f2 f5 f6 f7;go_wp2_with (go_at_call 14;refine(kE _ _).mono ?_;rintro e w' ⟨rfl,hw'⟩;have hw':=hw'.symm;subst hw');go_ret;refine⟨by simp,Or.inr ⟨by decide,?_⟩⟩;rw[yA HPL];exact((yA H2).mono (by omega)).back (fun k hk=>Or.inl (Or.inl hk)) (yA HKW)
            · have k4:(K == 4)=false:=beq_eq_false_iff_ne.2 e4
              by_cases e5:K=5
              · subst e5
                obtain⟨lh,lm,lw,lu0,lu1,hlA⟩:=pK0 t.σ A;go_wp2_with fail
                refine(qK0 (yA H1) (yA HTI) A).mono ?_;rw[hlA];rintro e w1 ⟨rfl,h1,ht1⟩
                have f2:=ht1.cell (p:=⟨w.heap.size,2,none⟩) id c2;have g1:=ht1.cell (p:=⟨V.heap.size,1,none⟩) id d1;have hl1:=fP0 f2;have hl2:=fP0 g1;simp only at hl1 hl2;have hSR:=fun wq (cq:qA w1 wq)=>lookSR (h1.calm cq) (yA HTI) A;simp only[yA HST,hlA] at hSR;generalize t.σ.lookE A=E at*;have HSR:=uA hSR;clear ht1 hSR c0 c1 c2 c3 c4 c5 c6 c7 c8 d0 d1 H1 hlA;go_wp2_with fail
                refine(yA HSR _ ((cP0 _ _).alloc _)).mono ?_;rintro e w2 ⟨rfl,h2,ht2⟩
                have hbx:=ht2.box id;have p0:w2.cell? ⟨w1.heap.size,0,none⟩=some (int lh):=xA hbx 0;have p1:w2.cell? ⟨w1.heap.size,1,none⟩=some (int lm):=xA hbx 1;have p2:w2.cell? ⟨w1.heap.size,2,none⟩=some (.bool lw):=xA hbx 2;have p3:w2.cell? ⟨w1.heap.size,3,none⟩=some (.bool lu0):=xA hbx 3;have p4:w2.cell? ⟨w1.heap.size,4,none⟩=some (.bool lu1):=xA hbx 4;have hl3:w1.heap.size<w2.heap.size:=fP0 p0;have HS2:=uA h2;have h48:=eq48 lu0 lu1;clear hbx ht2 h2 h1 f2 g1 HSR;go_wp2_with (go_at_call 14;refine(kE _ _).mono ?_;rintro e w' ⟨rfl,hw'⟩;have hw':=hw'.symm;subst hw');go_ret;refine⟨by simp,Or.inr ⟨by decide,?_⟩⟩;rw[yA HPS (xP (by decide) (by decide) (by decide) (Or.inl (by decide)))];exact(((yA HS2).calm ((cP0 _ _).alloc _)).mono (by omega)).back (fun k hk=>Or.inl (Or.inl hk)) (yA HKW)
              · have k5:(K == 5)=false:=beq_eq_false_iff_ne.2 e5
                by_cases e6:K=6
                · subst e6
                  go_wp2_with (go_at_call 9;refine(bP (yA H1) (by omega) (yA HTI) (yA HST)).mono ?_;rintro e w1 ⟨rfl,h2⟩;have HS2:=uA h2;clear h2)
                  go_ret;refine⟨rfl,Or.inr ⟨by decide,?_⟩⟩;rw[yA HPS (xP (by decide) (by decide) (by decide) (Or.inl (by decide)))];exact((yA HS2).mono (by omega)).back (fun k hk=>Or.inl (Or.inl hk)) (yA HKW)
                · have k6:(K == 6)=false:=beq_eq_false_iff_ne.2 e6
                  have HFR:Hid (Calls Tryz.prog 21 #[.pointer (some ⟨bw,0,none⟩),.agg (twA t),.agg (opA K On A Bv (.slice la ln lc) x y z (.slice ta l.length tc))] wc fun e w'=>e=.returned (.bool true)∧St B (fun k=>(kp k∨k=w.heap.size)∨k=V.heap.size) wc w0 bw (qJ nets K On A Bv x y z l) (p+3) w'):=uA (by
                    rw[yA HPL];by_cases e7:K=7
                    · subst e7
                      exact sN0 (yA H1) hp (yA HTI) (yA HST) On A Bv _ x y z tc (fun w' hb hk=>yA HTT w' hb (fun k hk2=>(hk k (Or.inl (Or.inl hk2))).trans (yA HKW k hk2))) hn _ rfl
                    · by_cases e8:K=8
                      · subst e8
                        exact(tN0 (yA H1) hp (yA HTI) (yA HST) On A Bv _ x y z _).mono fun e w' ⟨a,b⟩=>⟨a,b.mono (by omega)⟩
                      · by_cases e9:K=9
                        · subst e9
                          exact(uN0 (yA H1) hp (yA HTI) (yA HST) On A Bv _ x y z _).mono fun e w' ⟨a,b⟩=>⟨a,b.mono (by omega)⟩
                        · by_cases e10:K=10
                          · subst e10
                            exact(vL0 (yA H1) hp (yA HTI) (yA HST) On A Bv _ x y z hA1 hA2 _).mono fun e w' ⟨a,b⟩=>⟨a,b.mono (by omega)⟩
                          · by_cases e11:K=11
                            · subst e11
                              exact xL0 (yA H1) hp (yA HTI) (yA HST) On A Bv _ x y z _
                            · by_cases e12:K=12
                              · subst e12
                                exact(yL0 (yA H1) hp (yA HTI) (yA HST) On A Bv _ x y z _).mono fun e w' ⟨a,b⟩=>⟨a,b.mono (by omega)⟩
                              · have hK:=yA HK1
                                rw[←yA HPL,yA HPS (xP e2 e3 e4 (by omega))];refine(rN0 bw _ _ K _ _ _ _ _ _ _ _ _ (by omega)).mono ?_;rintro e w' ⟨rfl,c⟩
                                exact⟨rfl,((yA H1).calm c).mono (by omega)⟩)
                  have HK1':=HK1;clear e2 e3 e4 e5 e6 H1;go_wp2_with (go_at_call 21;refine(yA HFR).mono ?_;rintro e w1 ⟨rfl,h2⟩;have HS2:=uA h2;clear h2);go_ret;exact⟨rfl,Or.inr ⟨yA HK1,(yA HS2).back (fun k hk=>Or.inl (Or.inl hk)) (yA HKW)⟩⟩
end Go.Proofs.YtodfcpblcpogiaaGreat

import Derived.Test.YtodfcpblcpogiaaGreatToc
import Derived.RangeFuncNested
import Derived.RangeFuncBound
import Derived.RangeFuncCalls
import Derived.RangeFuncLeaves
import Derived.RangeFuncWrites
import Derived.Shelf.Abstract
import Derived.Shelf.RegionOpen
import Derived.OwnWalkIn
import Derived.TacticsInMore
import Derived.LoopNIn
import Derived.LoopIn
namespace Go.Proofs.YtodfcpblcpogiaaGreat
open Go.RowKit Go.Shelf
attribute [local go_sem] Oper.semAt_some
abbrev oJ:=Nat→Option (Fact × Nat × Value)
def dM (ft:oJ)(s:Nat):Option Addr:=match ft s with
 | none=>none
 | some (_,kb,_)=>some ⟨kb,0,none⟩
abbrev dD (ft:oJ)(s:Nat):Value:=.pointer (dM ft s)
def gE (ft:oJ)(e:Ev)(m:Nat):List (Nat × Nat):=(List.range m).filterMap fun s=>match ft s with
 | none=>none
 | some (f,kb,_)=>if lC f.fl e then some (s,kb) else none
theorem kJ (ft:oJ)(e:Ev)(m:Nat):gE ft e (m+1)=gE ft e m++(match ft m with | none=>[] | some (f,kb,_)=>if lC f.fl e then [(m,kb)] else []):=by
 unfold gE;rw[List.range_succ,List.filterMap_append];congr 1
 simp only[List.filterMap_cons,List.filterMap_nil];cases ft m with
 | none=>rfl
 | some a=>obtain⟨f,kb,kv⟩:=a;simp only;split<;>simp_all
theorem xC0 (ft:oJ)(e:Ev)(m:Nat):(gE ft e m).length≤m:=by
 unfold gE;exact mO0 (List.length_filterMap_le _ _) (by simp)
theorem info95:(Tryz.prog.info? 95).map (·.size)=some 2:=by kernel_rfl
theorem info94:(Tryz.prog.info? 94).map (·.size)=some 1:=by kernel_rfl
theorem nN {t:TypeId}{n:Nat}(h:(Tryz.prog.info? t).map (·.size)=some n)(w:World):(sizeOf t).run Tryz.prog w=.ok n w:=by
 cases hq:Tryz.prog.info? t with
 | none=>simp[hq] at h
 | some i=>simp[hq] at h;simp[sizeOf,typeInfo,hq,h]
def oL0 (f:Nat→Value):Value:=.agg #[f 0,f 1,f 2,f 3,f 4,f 5,f 6,f 7]
theorem idx96 (f:Nat→Value)(c:Nat)(hc:c<4)(w:World):(Instr.index 96 (oL0 f) (.int .i64 c)).run Tryz.prog w=.ok (.agg #[f (c*2),f (c*2+1)]) w:=by
 have h1:(0:Int)≤c∧(c:Int)<(4:Nat):=by omega
 obtain rfl | rfl | rfl | rfl:c=0∨c=1∨c=2∨c=3:=by omega
 all_goals simp[oL0,Instr.index,asIntOf,Sem.run_bind,run_underlying Tryz.underlying96,part,isAgg,run_underlying Tryz.underlying95,nN info95]
theorem idx95 (u v:Value)(k:Nat)(hk:k<2)(w:World):(Instr.index 95 (.agg #[u,v]) (.int .i64 k)).run Tryz.prog w=.ok (if k=0 then u else v) w:=by
 obtain rfl | rfl:k=0∨k=1:=by omega
 all_goals simp[Instr.index,asIntOf,Sem.run_bind,run_underlying Tryz.underlying95,part,isAgg,run_underlying Tryz.underlying94,nN info94]
theorem gI {w w':World}(h:qA w w'):w.grownBy w' none:=⟨h.os,h.tape,h.output,h.size,fun k hk _=>h.block k hk id⟩
def Kp (W W':World):Prop:=OnlyT W W'∧W.heap.size≤W'.heap.size
theorem Kp.trans {A B C:World}(h:Kp A B)(k:Kp B C):Kp A C:=⟨h.1.trans k.1,mO0 h.2 k.2⟩
theorem Kp.calm {W W':World}(h:qA W W'):Kp W W':=⟨xQ0 h,h.size⟩
theorem Kp.putObj {W:World}{l:Nat}{o o':Obj}(hl:W.heap[l]?=some o)(ho:o.isCells=false):Kp W (W.putObj l o'):=by
 refine⟨OnlyT.of_keep fun k cs t _ _ _ _ hk=>?_,by simp[World.putObj]⟩;have hne:l≠k:=fun e=>by subst e;rw[hl] at hk;cases hk;simp[Obj.isCells] at ho
 simp only[World.putObj];rw[Array.getElem?_setIfInBounds_ne hne];exact hk
structure StandAt (W:World)(b o:Nat)(ft:oJ):Prop where
 cell:∀s,s<8→W.cell? ⟨b,o+s,none⟩=some (dD ft s)
 fact:∀s f kb kv,ft s=some (f,kb,kv)→W.heap[kb]?=some (.cells (eD s f kv).toArray 176)∧yB f.fl=true
theorem sL0 {W W':World}{s kb:Nat}{f:Fact}{kv:Value}(h0:W.heap[kb]?=some (.cells (eD s f kv).toArray 176))(hot:OnlyT W W'):
  W'.cell? ⟨kb,3,none⟩=some (int (sA f.fl 0).fld)∧W'.cell? ⟨kb,4,none⟩=some (int (sA f.fl 0).op)∧W'.cell? ⟨kb,5,none⟩=some (int (sA f.fl 0).n)∧W'.cell? ⟨kb,6,none⟩=some (int (sA f.fl 1).fld)∧W'.cell? ⟨kb,7,none⟩=some (int (sA f.fl 1).op)∧W'.cell? ⟨kb,8,none⟩=some (int (sA f.fl 1).n)∧W'.cell? ⟨kb,9,none⟩=some (int (sA f.fl 2).fld)∧W'.cell? ⟨kb,10,none⟩=some (int (sA f.fl 2).op)∧W'.cell? ⟨kb,11,none⟩=some (int (sA f.fl 2).n)∧W'.cell? ⟨kb,12,none⟩=some (int f.fl.length):=by
 obtain⟨cs',h,hj⟩:=hot.known kb _ h0;refine⟨?_,?_,?_,?_,?_,?_,?_,?_,?_,?_⟩
 all_goals (rw[xA h,hj _ (by omega)];rfl)
abbrev A8 (P:Nat × Nat→Prop):={a:Nat × Nat // P a}
set_option maxRecDepth 100000 in
set_option maxHeartbeats 2000000 in
theorem xZ (P:Nat × Nat→Prop)(n:Nat)(hn:1≤n)(l b o B1 B2:Nat)(ft:oJ)(e:Ev)(hP:∀s f kb kv,s<8→ft s=some (f,kb,kv)→lC f.fl e=true→P (s,kb))(J Jx:List (A8 P)→World→Prop)
    (hY:∀pre x W,J pre W→pre.length<9→YieldAt Fence.wide (n-1) Tryz.prog l #[ptr x.1.2] W fun r W'=>(r=.returned (.bool true)∧J (pre++[x]) W'∧Kp W W')∨(r=.returned (.bool false)∧Jx (pre++[x]) W'))
    (W:World) (hA:AbidesFrom W.heap.size J) (h1:W.cell? ⟨B1,0,none⟩=some (.pointer (some ⟨b,o,none⟩))) (h2:W.heap[B2]?=some (.cells #[int e.f0,int e.f1,int e.f2] 35)) (hS:StandAt W b o ft) (h0:J [] W):
    CallsIn Fence.wide n Tryz.prog 121 #[.func (.yield l) #[] #[],ptr B1,ptr B2] W fun r W'=>(∃v,r=.returned v)∧((∃xs:List (A8 P),xs.map (·.1)=gE ft e 8∧J xs W')∨(∃pre:List (A8 P),True∧Jx pre W')):=by
  refine callsIn_of_wp Tryz.func121 rfl trivial ?_ rfl;simp only[Tryz.ntmps121,List.size_toArray,gO0,List.length_nil,Nat.reduceAdd,Nat.reduceSub,Array.replicate_succ,Array.replicate_zero,List.push_toArray,List.append_toArray,List.nil_append,List.cons_append];have q0:W.cell? ⟨b,o,none⟩=some (dD ft 0):=hS.cell 0 (by omega);have q1:=hS.cell 1 (by omega);have q2:=hS.cell 2 (by omega);have q3:=hS.cell 3 (by omega);have q4:=hS.cell 4 (by omega);have q5:=hS.cell 5 (by omega);have q6:=hS.cell 6 (by omega);have q7:=hS.cell 7 (by omega);gi_wp2
  have HS:=uA hS;have HY:=uA hY;have HA:=uA hA;have HP:=uA hP;clear q0 q1 q2 q3 q4 q5 q6 q7 hS hY hA hP h1;have HB2:=uA h2;have HJ0:=uA h0;clear h2 h0;gi_loopw [12] (fun p wr=>∃(c:Nat) (pre:List (A8 P)),c≤4∧p=int c∧J pre wr∧Kp W wr∧pre.map (·.1)=gE ft e (c*2)) (fun p _=>4-(intOf p).toNat)
  case atStart=>exact⟨0,[],by omega,rfl,yA HJ0,⟨OnlyT.refl _,qO0 _⟩,rfl⟩
  case round=>
    obtain⟨c,pre,hc,rfl,hJ,hK,hm⟩:=hrel;have HJ:=uA hJ;have HK:=uA hK;have HM:=uA hm;clear hJ hK hm;by_cases hlt:c<4
    · have hlt':(c:Int)<4:=by omega
      have hx:=fun w=>idx96 (dD ft) c hlt w;simp only[oL0] at hx;gi_wp2
      have hcal:qA wr (wr.alloc (.cells #[dD ft (c*2),dD ft (c*2+1)] 95)):=(cP0 _ _).alloc _;have HJ1:Hid (J pre (wr.alloc (.cells #[dD ft (c*2),dD ft (c*2+1)] 95))):=yA HA _ _ _ none (yA HJ) (gI hcal) (fun r e=>by cases e);have HK1:=uA ((yA HK).trans (Kp.calm hcal));clear hcal hx;gi_loopw [16] (fun p wq=>∃(k:Nat) (pre:List (A8 P)),k≤2∧p=int k∧J pre wq∧Kp W wq∧pre.map (·.1)=gE ft e (c*2+k)) (fun p _=>2-(intOf p).toNat)
      case atStart=>exact⟨0,pre,by omega,rfl,yA HJ1,yA HK1,yA HM⟩
      case round=>
        obtain⟨k,pre2,hk,rfl,hJ,hK,hm⟩:=hrel;have HJ2:=uA hJ;have HK2:=uA hK;have HM2:=uA hm;clear hJ hK hm HJ1 HK1 HJ HK HM;by_cases hkt:k<2
        · have hkt':(k:Int)<2:=by omega
          have hy:=fun w=>idx95 (dD ft (c*2)) (dD ft (c*2+1)) k hkt w;have hyy:(if k=0 then dD ft (c*2) else dD ft (c*2+1))=dD ft (c*2+k):=by
            obtain rfl | rfl:k=0∨k=1:=by omega
            all_goals rfl
          rw[hyy] at hy;have hws:=kJ ft e (c*2+k);have HWS:=uA hws;clear hyy hws;cases hft:ft (c*2+k) with
          | none=>
            have hst:dM ft (c*2+k)=none:=by simp[dM,hft]
            simp only[dD,hst] at hy;gi_wp2
            refine wpIn_wide.2 ?_;go_region
            all_goals gi_wp2
            all_goals
              have hcd:qA wr wr.drew:=(cP0 _ _).drew;refine⟨⟨k+1,pre2,by omega,by go_num,yA HA _ _ _ none (yA HJ2) (gI hcd) (fun r e=>by cases e),(yA HK2).trans (Kp.calm hcd),?_⟩,by simp[intOf];omega⟩;rw[yA HM2,←rP0,yA HWS,hft];simp
          | some a=>
            obtain⟨f,kb,kv⟩:=a;have hst:dM ft (c*2+k)=some ⟨kb,0,none⟩:=by simp[dM,hft]
            simp only[dD,hst] at hy;obtain⟨hb1,hg⟩:=(yA HS).fact _ _ _ _ hft;have hb3:=(yA HK2).1.cells B2 _ 35 (by decide) (yA HB2);obtain⟨a3,a4,a5,a6,a7,a8,a9,a10,a11,a12⟩:=sL0 hb1 (yA HK2).1;have f0:wr.cell? ⟨B2,0,none⟩=some (int e.f0):=xA hb3 0;have f1:wr.cell? ⟨B2,1,none⟩=some (int e.f1):=xA hb3 1;have f2:wr.cell? ⟨B2,2,none⟩=some (int e.f2):=xA hb3 2;have HG:=uA hg;clear hb1 hb3 hg;cases hmt:lC f.fl e with
            | false=>
              gi_wp2
              refine wpIn_wide.2 ?_;first
                | go_region_with (go_at_call 122;refine(fV f.fl e _ (yA HG)).mono ?_;rw[hmt];rintro r w3 ⟨rfl,ht3⟩)
                | fail
              all_goals gi_wp2
              all_goals
                have hcd:qA wr w3:=((cP0 _ _).drew).calm ht3;refine⟨⟨k+1,pre2,by omega,by go_num,yA HA _ _ _ none (yA HJ2) (gI hcd) (fun r e=>by cases e),(yA HK2).trans (Kp.calm hcd),?_⟩,by simp[intOf];omega⟩;rw[yA HM2,←rP0,yA HWS,hft];simp[hmt]
            | true=>
              have hPx:P (c*2+k,kb):=yA HP _ _ _ _ (by omega) hft hmt;gi_wp2
              gi_region_with (first
                    | (refine⟨trivial,?_⟩;gi_at_call 122;refine(callsIn_wide.2 (fV f.fl e _ (yA HG))).mono ?_;rw[hmt];rintro r w3 ⟨rfl,ht3⟩
                       have hcd3:qA wr w3:=((cP0 _ _).drew).calm ht3;have HJ3:=uA (yA HA _ _ _ none (yA HJ2) (gI hcd3) (fun r e=>by cases e));have HK3:=uA ((yA HK2).trans (Kp.calm hcd3));obtain⟨fn,tmps,assign,body,hyy,hR⟩:=yA HY pre2 ⟨(c*2+k,kb),hPx⟩ w3 (yA HJ3) (by have h1:=congrArg List.length (yA HM2);have h2:=xC0 ft e (c*2+k);simp at h1;omega)
                       have hR2:=RoundIn.mono hR (R':=fun r W'=>∃t,r=.returned (.bool t)∧Hid ((t=true∧J (pre2++[⟨(c*2+k,kb),hPx⟩]) W'∧Kp w3 W')∨(t=false∧Jx (pre2++[⟨(c*2+k,kb),hPx⟩]) W'))) (by
                         rintro r W' (⟨h1,h2,h3⟩ | ⟨h1,h2⟩)
                         · exact⟨true,h1,Or.inl ⟨rfl,h2,h3⟩⟩
                         · exact⟨false,h1,Or.inr ⟨rfl,h2⟩⟩)
                       clear ht3 hcd3 hR)
                    | (refine(RoundIn.mono hR2 ?_);rintro r w4 ⟨t,rfl,hr4⟩))
              all_goals cases t
              all_goals gi_wp2
              all_goals first
                | (refine bodyPost_ret (v:=.tuple #[]) (by simp[results,Tryz.results121,go_sem]) rfl ?_
                   rcases yA hr4 with⟨h1,_⟩ | ⟨_,h2⟩
                   · cases h1
                   · first | exact⟨⟨_,rfl⟩,Or.inr ⟨_,h2⟩⟩ | exact⟨⟨_,rfl⟩,Or.inr ⟨_,trivial,h2⟩⟩)
                | (rcases yA hr4 with⟨_,h2,h3⟩ | ⟨h1,_⟩
                   · refine⟨⟨k+1,pre2++[⟨(c*2+k,kb),hPx⟩],by omega,by go_num,h2,(yA HK3).trans h3,?_⟩,by simp[intOf];omega⟩
                     rw[List.map_append,yA HM2,←rP0,yA HWS,hft];simp[hmt]
                   · cases h1)
        · have hkt':¬(k:Int)<2:=by omega
          have hk2:k=2:=by omega
          subst hk2;gi_wp2
          go_roundw
          case rel=>exact⟨c+1,pre2,by omega,by go_num,yA HJ2,yA HK2,by rw[yA HM2];congr 1;omega⟩
          case measure=>simp[intOf];omega
    · have hlt':¬(c:Int)<4:=by omega
      have hc4:c=4:=by omega
      subst hc4;gi_wp2
      go_end0
      exact⟨⟨_,rfl⟩,Or.inl ⟨pre,yA HM,yA HJ⟩⟩
end Go.Proofs.YtodfcpblcpogiaaGreat

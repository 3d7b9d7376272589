import Derived.Test.YtodfcpblcpogiaaGreatUm
import Derived.Test.YtodfcpblcpogiaaGreatUj
import Derived.Test.YtodfcpblcpogiaaGreatUgb
namespace Go.Proofs.YtodfcpblcpogiaaGreat
open Go.RowKit
abbrev twA (t:Tw):Array Value:=#[.pointer (some ⟨t.bx,0,none⟩),.pointer (some ⟨t.br,0,none⟩)]
abbrev opA (K On A Bv:Int)(vl:Value)(x y z:Int)(vt:Value):Array Value:=#[.int .i64 K,.int .i64 On,.int .i64 A,.int .i64 Bv,vl,.int .i64 x,.int .i64 y,.int .i64 z,vt]
theorem St.box2 {B:Nat}{kp:Nat→Prop}{wk w0 w:World}{bw:Nat}{nets:List Tw}{p:Nat}(h:St B kp wk w0 bw nets p w)(cs ds:Array Value)(t1 t2:TypeId){V:World}(hV:(w.alloc (.cells cs t1)).alloc (.cells ds t2)=V):
  St B (fun k=>kp k∨(w.heap.size≤k∧k≤w.heap.size+1)) V w0 bw nets p V∧V.heap[w.heap.size]?=some (.cells cs t1)∧V.heap[w.heap.size+1]?=some (.cells ds t2)∧(∀k,kp k→V.heap[k]?=wk.heap[k]?)∧qA w V:=by
 have c:qA w V:=by rw[←hV];exact((cP0 _ _).alloc _).alloc _
 have b2:V.heap[w.heap.size+1]?=some (.cells ds t2):=by rw[←hV];exact heap_alloc2_new _ _ _
 have b1:V.heap[w.heap.size]?=some (.cells cs t1):=by rw[←hV];exact heap_alloc2_old _ _ _
 have hl:=(tO0.1 b2).1;exact⟨h.guard c _ (fun g hg=>⟨hg.1,by omega⟩),b1,b2,fun k hk=>(h.calm c).kept hk,c⟩
section
variable {B : Nat} {kp : Nat → Prop} {wk w0 w : World} {bw : Nat} {nets : List Tw} {p : Nat}
set_option maxRecDepth 100000 in
set_option maxHeartbeats 2000000 in
theorem sN0 (h:St B kp wk w0 bw nets p w)(hp:p≤100000000){i:Nat}{t:Tw}(hi:nets[i]?=some t)(hst:t.τ=t.σ)(On A Bv:Int)(vl:Value)(x y z:Int)(cap:Nat){l:List Tst}{a:Option Addr}(hT:∀w',Below B w0 w'→(∀k,kp k→w'.heap[k]?=wk.heap[k]?)→TestsAt w' a l)(hn:l.length≤1073741824)(vt:Value)(hvt:vt=.slice a l.length cap):
  Calls Tryz.prog 21 #[.pointer (some ⟨bw,0,none⟩),.agg (twA t),.agg (opA 7 On A Bv vl x y z vt)] w fun e w'=>e=.returned (.bool true)∧St B kp wk w0 bw (nets.set i {t with σ:=t.σ.sub A l,τ:=t.σ.sub A l}) (p+3) w':=by
 obtain⟨V,hV⟩:∃V,(w.alloc (.cells (twA t) 45)).alloc (.cells (opA 7 On A Bv vl x y z vt) 38)=V:=⟨_,rfl⟩;obtain⟨hS,b1,b2,hkp,hcV⟩:=h.box2 _ _ 45 38 hV;have HV:=uA hV;have H:=uA hS;have HB1:=uA b1;have HB2:=uA b2;have HKP:=uA hkp;have HI:=uA hi;have HST:=uA hst;have e0:V.cell? ⟨w.heap.size,0,none⟩=some (.pointer (some ⟨t.bx,0,none⟩)):=xA b1 0;have e1:V.cell? ⟨w.heap.size,1,none⟩=some (.pointer (some ⟨t.br,0,none⟩)):=xA b1 1;have o0:V.cell? ⟨w.heap.size+1,0,none⟩=some (.int .i64 7):=xA b2 0;have o2:V.cell? ⟨w.heap.size+1,2,none⟩=some (.int .i64 A):=xA b2 2;have o3:V.cell? ⟨w.heap.size+1,3,none⟩=some (.int .i64 Bv):=xA b2 3;have o8:V.cell? ⟨w.heap.size+1,8,none⟩=some vt:=xA b2 8;have hl1:w.heap.size<V.heap.size:=fP0 e0;have hl2:w.heap.size+1<V.heap.size:=fP0 o0;have HTT:Hid (∀w',Below B w0 w'→(∀k,(kp k∨(w.heap.size≤k∧k≤w.heap.size+1))→w'.heap[k]?=V.heap[k]?)→TestsAt w' a l):=uA (fun w' hb hk=>hT w' hb (fun k hk2=>(hk k (Or.inl hk2)).trans (hkp k hk2)));have HVT:=uA hvt;clear h hi hst hS hkp hV b1 b2 hcV hT hvt;go_enter Tryz.func21,Tryz.ntmps21
 go_upto_region 1 with fail
 rw[yA HV];rw[yA HVT] at o8;go_wp2_with (go_at_call 53;refine(xU (yA H) hp (yA HI) (yA HST) A cap (yA HTT) hn).mono ?_;rintro e w1 ⟨rfl,h1⟩;have H1:=uA h1;clear h1);go_ret;exact⟨rfl,(yA H1).back (fun k hk=>Or.inl hk) (yA HKP)⟩
set_option maxRecDepth 100000 in
set_option maxHeartbeats 2000000 in
theorem tN0 (h:St B kp wk w0 bw nets p w)(hp:p≤100000000){i:Nat}{t:Tw}(hi:nets[i]?=some t)(hst:t.τ=t.σ)(On A Bv:Int)(vl:Value)(x y z:Int)(vt:Value):
    Calls Tryz.prog 21 #[.pointer (some ⟨bw,0,none⟩),.agg (twA t),.agg (opA 8 On A Bv vl x y z vt)] w fun e w'=>e=.returned (.bool true)∧St B kp wk w0 bw (nets.set i {t with σ:=t.σ.unsub A Bv,τ:=t.σ.unsub A Bv}) (p+2) w':=by
  obtain⟨V,hV⟩:∃V,(w.alloc (.cells (twA t) 45)).alloc (.cells (opA 8 On A Bv vl x y z vt) 38)=V:=⟨_,rfl⟩;obtain⟨hS,b1,b2,hkp,hcV⟩:=h.box2 _ _ 45 38 hV;have HV:=uA hV;have H:=uA hS;have HB1:=uA b1;have HB2:=uA b2;have HKP:=uA hkp;have HI:=uA hi;have HST:=uA hst;have e0:V.cell? ⟨w.heap.size,0,none⟩=some (.pointer (some ⟨t.bx,0,none⟩)):=xA b1 0;have e1:V.cell? ⟨w.heap.size,1,none⟩=some (.pointer (some ⟨t.br,0,none⟩)):=xA b1 1;have o0:V.cell? ⟨w.heap.size+1,0,none⟩=some (.int .i64 8):=xA b2 0;have o2:V.cell? ⟨w.heap.size+1,2,none⟩=some (.int .i64 A):=xA b2 2;have o3:V.cell? ⟨w.heap.size+1,3,none⟩=some (.int .i64 Bv):=xA b2 3;have o8:V.cell? ⟨w.heap.size+1,8,none⟩=some vt:=xA b2 8;have hl1:w.heap.size<V.heap.size:=fP0 e0;have hl2:w.heap.size+1<V.heap.size:=fP0 o0;clear h hi hst hS hkp hV b1 b2 hcV;go_enter Tryz.func21,Tryz.ntmps21
  go_upto_region 1 with fail
  rw[yA HV];go_wp2_with fail
  refine(sM0 (yA H) (yA HI) (by omega) A Bv).mono ?_;rintro e w1 ⟨rfl,h1⟩
  have e1:w1.cell? ⟨w.heap.size,1,none⟩=some (.pointer (some ⟨t.br,0,none⟩)):=xA ((h1.kept (Or.inr ⟨qO0 _,by omega⟩)).trans (yA HB1)) 1;have o2:w1.cell? ⟨w.heap.size+1,2,none⟩=some (.int .i64 A):=xA ((h1.kept (Or.inr ⟨by omega,qO0 _⟩)).trans (yA HB2)) 2;have o3:w1.cell? ⟨w.heap.size+1,3,none⟩=some (.int .i64 Bv):=xA ((h1.kept (Or.inr ⟨by omega,qO0 _⟩)).trans (yA HB2)) 3;obtain⟨E,hE⟩:∃E,E=t.σ.unsubE A Bv:=⟨_,rfl⟩
  have HSR:Hid (∀wq,qA w1 wq→Calls Tryz.prog 55 #[.pointer (some ⟨t.br,0,none⟩),int A,int Bv] wq fun e w'=>e=.returned (int E)∧St B (fun k=>kp k∨(w.heap.size≤k∧k≤w.heap.size+1)) V w0 bw (nets.set i {t with σ:=t.σ.unsub A Bv,τ:=t.σ.unsub A Bv}) (p+2) w'):=uA (fun wq cq=>by
    have:=rM0 (h1.calm cq) (pI (yA HI)) (by omega) A Bv;simp only[yA HST,uG,←hE] at this
    exact this)
  rw[←hE];clear h1 H e0 o0 o8 hE;go_wp2_with fail
  go_cut [6] (fun s wx=>s=.bool true∧St B (fun k=>kp k∨(w.heap.size≤k∧k≤w.heap.size+1)) V w0 bw (nets.set i {t with σ:=t.σ.unsub A Bv,τ:=t.σ.unsub A Bv}) (p+2) wx)
  case first=>
    go_region_held3 (fun w'=>w'.cell? ⟨w.heap.size,1,none⟩=some (.pointer (some ⟨t.br,0,none⟩))∧w'.cell? ⟨w.heap.size+1,2,none⟩=some (.int .i64 A)∧w'.cell? ⟨w.heap.size+1,3,none⟩=some (.int .i64 Bv))
      (first | exact k0 | go_keep)
      (first
        | (go_at_call 14;refine(kE _ _).mono ?_;rintro e w' ⟨rfl,rfl⟩)
        | (go_at_call 55;refine(yA HSR _ (by first | exact(cP0 _ _).drew | exact cP0 _ _)).mono ?_;rintro e w2 ⟨rfl,h2⟩
           have k0:w2.cell? ⟨w.heap.size,1,none⟩=some (.pointer (some ⟨t.br,0,none⟩))∧w2.cell? ⟨w.heap.size+1,2,none⟩=some (.int .i64 A)∧w2.cell? ⟨w.heap.size+1,3,none⟩=some (.int .i64 Bv):=⟨xA ((h2.kept (Or.inr ⟨qO0 _,by omega⟩)).trans (yA HB1)) 1,xA ((h2.kept (Or.inr ⟨by omega,qO0 _⟩)).trans (yA HB2)) 2,xA ((h2.kept (Or.inr ⟨by omega,qO0 _⟩)).trans (yA HB2)) 3⟩;have H2:=uA h2
           clear h2))
    all_goals go_wp2
    all_goals go_meet
    all_goals exact⟨by simp,yA H2⟩
  case rest=>
    obtain⟨rfl,h2⟩:=hcut;have H2:=uA h2;clear h2;go_wp2;go_ret;exact⟨rfl,(yA H2).back (fun k hk=>Or.inl hk) (yA HKP)⟩
set_option maxRecDepth 100000 in
set_option maxHeartbeats 2000000 in
theorem uN0 (h:St B kp wk w0 bw nets p w)(hp:p≤100000000){i:Nat}{t:Tw}(hi:nets[i]?=some t)(hst:t.τ=t.σ)(On A Bv:Int)(vl:Value)(x y z:Int)(vt:Value):
    Calls Tryz.prog 21 #[.pointer (some ⟨bw,0,none⟩),.agg (twA t),.agg (opA 9 On A Bv vl x y z vt)] w fun e w'=>e=.returned (.bool true)∧St B kp wk w0 bw (nets.set i {t with σ:=t.σ.del A Bv,τ:=t.σ.del A Bv}) (p+2) w':=by
  obtain⟨V,hV⟩:∃V,(w.alloc (.cells (twA t) 45)).alloc (.cells (opA 9 On A Bv vl x y z vt) 38)=V:=⟨_,rfl⟩;obtain⟨hS,b1,b2,hkp,hcV⟩:=h.box2 _ _ 45 38 hV;have HV:=uA hV;have H:=uA hS;have HB1:=uA b1;have HB2:=uA b2;have HKP:=uA hkp;have HI:=uA hi;have HST:=uA hst;have e0:V.cell? ⟨w.heap.size,0,none⟩=some (.pointer (some ⟨t.bx,0,none⟩)):=xA b1 0;have e1:V.cell? ⟨w.heap.size,1,none⟩=some (.pointer (some ⟨t.br,0,none⟩)):=xA b1 1;have o0:V.cell? ⟨w.heap.size+1,0,none⟩=some (.int .i64 9):=xA b2 0;have o2:V.cell? ⟨w.heap.size+1,2,none⟩=some (.int .i64 A):=xA b2 2;have o3:V.cell? ⟨w.heap.size+1,3,none⟩=some (.int .i64 Bv):=xA b2 3;have o8:V.cell? ⟨w.heap.size+1,8,none⟩=some vt:=xA b2 8;have hl1:w.heap.size<V.heap.size:=fP0 e0;have hl2:w.heap.size+1<V.heap.size:=fP0 o0;clear h hi hst hS hkp hV b1 b2 hcV;go_enter Tryz.func21,Tryz.ntmps21
  go_upto_region 1 with fail
  rw[yA HV];go_wp2_with fail
  refine(iW (yA H) (yA HI) (by omega) A Bv).mono ?_;rintro e w1 ⟨rfl,h1⟩
  have e1:w1.cell? ⟨w.heap.size,1,none⟩=some (.pointer (some ⟨t.br,0,none⟩)):=xA ((h1.kept (Or.inr ⟨qO0 _,by omega⟩)).trans (yA HB1)) 1;have o2:w1.cell? ⟨w.heap.size+1,2,none⟩=some (.int .i64 A):=xA ((h1.kept (Or.inr ⟨by omega,qO0 _⟩)).trans (yA HB2)) 2;have o3:w1.cell? ⟨w.heap.size+1,3,none⟩=some (.int .i64 Bv):=xA ((h1.kept (Or.inr ⟨by omega,qO0 _⟩)).trans (yA HB2)) 3;obtain⟨E,hE⟩:∃E,E=t.σ.delE A Bv:=⟨_,rfl⟩
  have HSR:Hid (∀wq,qA w1 wq→Calls Tryz.prog 57 #[.pointer (some ⟨t.br,0,none⟩),int A,int Bv] wq fun e w'=>e=.returned (int E)∧St B (fun k=>kp k∨(w.heap.size≤k∧k≤w.heap.size+1)) V w0 bw (nets.set i {t with σ:=t.σ.del A Bv,τ:=t.σ.del A Bv}) (p+2) w'):=uA (fun wq cq=>by
    have:=gW (h1.calm cq) (pI (yA HI)) (by omega) A Bv;simp only[yA HST,uG,←hE] at this
    exact this)
  rw[←hE];clear h1 H e0 o0 o8 hE;go_wp2_with fail
  go_cut [6] (fun s wx=>s=.bool true∧St B (fun k=>kp k∨(w.heap.size≤k∧k≤w.heap.size+1)) V w0 bw (nets.set i {t with σ:=t.σ.del A Bv,τ:=t.σ.del A Bv}) (p+2) wx)
  case first=>
    go_region_held3 (fun w'=>w'.cell? ⟨w.heap.size,1,none⟩=some (.pointer (some ⟨t.br,0,none⟩))∧w'.cell? ⟨w.heap.size+1,2,none⟩=some (.int .i64 A)∧w'.cell? ⟨w.heap.size+1,3,none⟩=some (.int .i64 Bv))
      (first | exact k0 | go_keep)
      (first
        | (go_at_call 14;refine(kE _ _).mono ?_;rintro e w' ⟨rfl,rfl⟩)
        | (go_at_call 57;refine(yA HSR _ (by first | exact(cP0 _ _).drew | exact cP0 _ _)).mono ?_;rintro e w2 ⟨rfl,h2⟩
           have k0:w2.cell? ⟨w.heap.size,1,none⟩=some (.pointer (some ⟨t.br,0,none⟩))∧w2.cell? ⟨w.heap.size+1,2,none⟩=some (.int .i64 A)∧w2.cell? ⟨w.heap.size+1,3,none⟩=some (.int .i64 Bv):=⟨xA ((h2.kept (Or.inr ⟨qO0 _,by omega⟩)).trans (yA HB1)) 1,xA ((h2.kept (Or.inr ⟨by omega,qO0 _⟩)).trans (yA HB2)) 2,xA ((h2.kept (Or.inr ⟨by omega,qO0 _⟩)).trans (yA HB2)) 3⟩;have H2:=uA h2
           clear h2))
    all_goals go_wp2
    all_goals go_meet
    all_goals exact⟨by simp,yA H2⟩
  case rest=>
    obtain⟨rfl,h2⟩:=hcut;have H2:=uA h2;clear h2;go_wp2;go_ret;exact⟨rfl,(yA H2).back (fun k hk=>Or.inl hk) (yA HKP)⟩
set_option maxRecDepth 100000 in
set_option maxHeartbeats 2000000 in
theorem xL0 (h:St B kp wk w0 bw nets p w)(hp:p≤100000000){i:Nat}{t:Tw}(hi:nets[i]?=some t)(hst:t.τ=t.σ)(On A Bv:Int)(vl:Value)(x y z:Int)(vt:Value):
  Calls Tryz.prog 21 #[.pointer (some ⟨bw,0,none⟩),.agg (twA t),.agg (opA 11 On A Bv vl x y z vt)] w fun e w'=>e=.returned (.bool true)∧St B kp wk w0 bw (nets.set i {t with σ:=t.σ.log A,τ:=t.σ.log A}) (p+3) w':=by
 obtain⟨V,hV⟩:∃V,(w.alloc (.cells (twA t) 45)).alloc (.cells (opA 11 On A Bv vl x y z vt) 38)=V:=⟨_,rfl⟩;obtain⟨hS,b1,b2,hkp,hcV⟩:=h.box2 _ _ 45 38 hV;have HV:=uA hV;have H:=uA hS;have HB1:=uA b1;have HB2:=uA b2;have HKP:=uA hkp;have HI:=uA hi;have HST:=uA hst;have e0:V.cell? ⟨w.heap.size,0,none⟩=some (.pointer (some ⟨t.bx,0,none⟩)):=xA b1 0;have e1:V.cell? ⟨w.heap.size,1,none⟩=some (.pointer (some ⟨t.br,0,none⟩)):=xA b1 1;have o0:V.cell? ⟨w.heap.size+1,0,none⟩=some (.int .i64 11):=xA b2 0;have o2:V.cell? ⟨w.heap.size+1,2,none⟩=some (.int .i64 A):=xA b2 2;have o3:V.cell? ⟨w.heap.size+1,3,none⟩=some (.int .i64 Bv):=xA b2 3;have o8:V.cell? ⟨w.heap.size+1,8,none⟩=some vt:=xA b2 8;have hl1:w.heap.size<V.heap.size:=fP0 e0;have hl2:w.heap.size+1<V.heap.size:=fP0 o0;clear h hi hst hS hkp hV b1 b2 hcV;go_enter Tryz.func21,Tryz.ntmps21
 go_upto_region 1 with fail
 rw[yA HV];go_wp2_with (go_at_call 58;refine(bM0 (yA H) hp (yA HI) (yA HST) A).mono ?_;rintro e w1 ⟨rfl,h1⟩;have H1:=uA h1;clear h1);go_ret;exact⟨rfl,(yA H1).back (fun k hk=>Or.inl hk) (yA HKP)⟩
set_option maxRecDepth 100000 in
set_option maxHeartbeats 2000000 in
theorem yL0 (h:St B kp wk w0 bw nets p w)(_hp:p≤100000000){i:Nat}{t:Tw}(hi:nets[i]?=some t)(hst:t.τ=t.σ)(On A Bv:Int)(vl:Value)(x y z:Int)(vt:Value):
  Calls Tryz.prog 21 #[.pointer (some ⟨bw,0,none⟩),.agg (twA t),.agg (opA 12 On A Bv vl x y z vt)] w fun e w'=>e=.returned (.bool true)∧St B kp wk w0 bw (nets.set i {t with σ:=t.σ.close,τ:=t.σ.close}) (p+2) w':=by
 obtain⟨V,hV⟩:∃V,(w.alloc (.cells (twA t) 45)).alloc (.cells (opA 12 On A Bv vl x y z vt) 38)=V:=⟨_,rfl⟩;obtain⟨hS,b1,b2,hkp,hcV⟩:=h.box2 _ _ 45 38 hV;have HV:=uA hV;have H:=uA hS;have HB1:=uA b1;have HB2:=uA b2;have HKP:=uA hkp;have HI:=uA hi;have HST:=uA hst;have e0:V.cell? ⟨w.heap.size,0,none⟩=some (.pointer (some ⟨t.bx,0,none⟩)):=xA b1 0;have e1:V.cell? ⟨w.heap.size,1,none⟩=some (.pointer (some ⟨t.br,0,none⟩)):=xA b1 1;have o0:V.cell? ⟨w.heap.size+1,0,none⟩=some (.int .i64 12):=xA b2 0;have o2:V.cell? ⟨w.heap.size+1,2,none⟩=some (.int .i64 A):=xA b2 2;have o3:V.cell? ⟨w.heap.size+1,3,none⟩=some (.int .i64 Bv):=xA b2 3;have o8:V.cell? ⟨w.heap.size+1,8,none⟩=some vt:=xA b2 8;have hl1:w.heap.size<V.heap.size:=fP0 e0;have hl2:w.heap.size+1<V.heap.size:=fP0 o0;clear h hi hst hS hkp hV b1 b2 hcV;go_enter Tryz.func21,Tryz.ntmps21
 go_upto_region 1 with fail
 rw[yA HV];go_wp2_with fail
 refine(gN0 (yA H) (yA HI)).mono ?_;rintro e w1 ⟨rfl,h1⟩
 have e1:w1.cell? ⟨w.heap.size,1,none⟩=some (.pointer (some ⟨t.br,0,none⟩)):=xA ((h1.kept (Or.inr ⟨qO0 _,by omega⟩)).trans (yA HB1)) 1;have HSR:=fN0 h1 (pI (yA HI));simp only[yA HST,uG] at HSR;generalize (if t.σ.closed then 0 else (t.σ.waiting:Int))=M at*;generalize (if t.σ.closed then (2:Int) else 0)=E at*;have HSR:=uA HSR;clear h1 H e0 o0 o8 o2 o3;go_wp2_with fail
 refine(yA HSR).mono ?_;rintro e w2 ⟨rfl,h2⟩
 have H2:=uA h2;clear h2;go_wp2_with (go_at_call 14;refine(kE _ _).mono ?_;rintro e w' ⟨rfl,hw'⟩;have hw':=hw'.symm;subst hw');go_ret;exact⟨by simp,(yA H2).back (fun k hk=>Or.inl hk) (yA HKP)⟩
set_option maxRecDepth 100000 in
set_option maxHeartbeats 400000 in
theorem rN0 (bw:Nat)(v0 v1:Value)(K:Int)(o1 o2 o3 o4 o5 o6 o7 o8:Value)(w:World)(hK:K≤6∨13≤K):
  Calls Tryz.prog 21 #[.pointer (some ⟨bw,0,none⟩),.agg #[v0,v1],.agg #[.int .i64 K,o1,o2,o3,o4,o5,o6,o7,o8]] w fun e w'=>e=.returned (.bool true)∧qA w w':=by
 have k7:(K == 7)=false:=by simp;omega
 have k8:(K == 8)=false:=by simp;omega
 have k9:(K == 9)=false:=by simp;omega
 have k10:(K == 10)=false:=by simp;omega
 have k11:(K == 11)=false:=by simp;omega
 have k12:(K == 12)=false:=by simp;omega
 clear hK;go_enter Tryz.func21,Tryz.ntmps21
 go_wp2;go_ret
 exact⟨rfl,((cP0 _ _).alloc _).alloc _⟩
end
section
variable {B : Nat} {kp : Nat → Prop} {wk w0 w : World} {bw : Nat} {nets : List Tw} {p : Nat}
def Net.anyN (σ:Net)(A:Int):Net:=match σ.pending[oE A σ.pending.length]? with
 | some k=>σ.del k.a k.b
 | none=>σ
theorem rI0 {σ:Net}{A:Int}(h:σ.pending.length=0):σ.anyN A=σ:=by
 unfold Net.anyN;rw[zP0 h];rfl
theorem sI0 {σ:Net}{A:Int}{k:Lnk}(h:σ.pending[oE A σ.pending.length]?=some k):σ.anyN A=σ.del k.a k.b:=by
 unfold Net.anyN;rw[h]
set_option maxRecDepth 100000 in
set_option maxHeartbeats 2000000 in
theorem vL0 (h:St B kp wk w0 bw nets p w)(hp:p≤100000000){i:Nat}{t:Tw}(hi:nets[i]?=some t)(hst:t.τ=t.σ)(On A Bv:Int)(vl:Value)(x y z:Int)(hA1:-9223372036854775808≤A)(hA2:A≤9223372036854775807)(vt:Value):
    Calls Tryz.prog 21 #[.pointer (some ⟨bw,0,none⟩),.agg (twA t),.agg (opA 10 On A Bv vl x y z vt)] w fun e w'=>e=.returned (.bool true)∧St B kp wk w0 bw (nets.set i {t with σ:=t.σ.anyN A,τ:=t.σ.anyN A}) (p+2) w':=by
  obtain⟨V,hV⟩:∃V,(w.alloc (.cells (twA t) 45)).alloc (.cells (opA 10 On A Bv vl x y z vt) 38)=V:=⟨_,rfl⟩;obtain⟨hS,b1,b2,hkp,hcV⟩:=h.box2 _ _ 45 38 hV;have HV:=uA hV;have H:=uA hS;have HB1:=uA b1;have HB2:=uA b2;have HKP:=uA hkp;have HI:=uA hi;have HST:=uA hst;have e0:V.cell? ⟨w.heap.size,0,none⟩=some (.pointer (some ⟨t.bx,0,none⟩)):=xA b1 0;have e1:V.cell? ⟨w.heap.size,1,none⟩=some (.pointer (some ⟨t.br,0,none⟩)):=xA b1 1;have o0:V.cell? ⟨w.heap.size+1,0,none⟩=some (.int .i64 10):=xA b2 0;have o2:V.cell? ⟨w.heap.size+1,2,none⟩=some (.int .i64 A):=xA b2 2;have o3:V.cell? ⟨w.heap.size+1,3,none⟩=some (.int .i64 Bv):=xA b2 3;have o8:V.cell? ⟨w.heap.size+1,8,none⟩=some vt:=xA b2 8;have hl1:w.heap.size<V.heap.size:=fP0 e0;have hl2:w.heap.size+1<V.heap.size:=fP0 o0;clear h hi hst hS hkp hV b1 b2 hcV;go_enter Tryz.func21,Tryz.ntmps21
  go_upto_region 1 with fail
  rw[yA HV];go_wp2_with fail
  refine(lV (yA H) (yA HI)).mono ?_;rw[yA HST];rintro e w1 ⟨⟨v1,rfl,hr⟩,h1,c1⟩
  obtain⟨a1,cap1,rfl⟩:=fH hr;have hn36:=dL t.σ;by_cases hn0:t.σ.pending.length=0
  · have hset:nets.set i {t with σ:=t.σ.anyN A,τ:=t.σ.anyN A}=nets:=by
      rw[rI0 (A:=A) hn0];have h9:=sX (yA HI);have:({t with σ:=t.σ,τ:=t.σ}:Tw)=t:=by
        have:=yA HST;cases t
        simp only at this;subst this;rfl
      rw[this];exact h9
    have HSET:=uA hset;have H1:=uA h1;rw[hn0];clear hr h1 c1 hset hn36 hn0;go_wp2;go_ret;refine⟨rfl,?_⟩;rw[yA HSET];exact(((yA H1).mono (by omega)).back (fun k hk=>Or.inl hk) (yA HKP))
  · obtain⟨n,hn⟩:∃n,n=t.σ.pending.length:=⟨_,rfl⟩
    have hr2:w1.ownsRow V.heap.size 69 3 (.slice a1 n cap1) n (t.σ.pending.flatMap Lnk.enc):=by rw[hn];exact hr
    have hpos:0<n:=by omega
    obtain⟨g,rfl,hrd⟩:=eJ hr2 hpos;have hgV:V.heap.size≤g:=(hr2.lt g rfl).1;have hgl:g<w1.heap.size:=(hr2.lt g rfl).2;have hil:=yA0 A n hpos;obtain⟨x0,hx⟩:∃x,t.σ.pending[oE A n]?=some x:=⟨_,pO0 (by omega)⟩;obtain⟨y0,y1,y2⟩:=gX _ _ _ hx;have q0:=hrd _ _ y0;have q1:=hrd _ _ y1;have hany:t.σ.anyN A=t.σ.del x0.a x0.b:=sI0 (by rw[←hn];exact hx);have HPK:=uA (zA0 A n w1 hA1 hA2 hpos (by omega));have HANY:=uA hany;rw[←hn];obtain⟨idx,hidx⟩:∃idx,idx=oE A n:=⟨_,rfl⟩;rw[←hidx] at hil q0 q1 HPK;obtain⟨xa,xb,xm⟩:=x0;simp only at q0 q1 HANY;have hS1:=(yA H).guard c1 (fun k=>k=g) (fun k hk=>⟨by omega,by omega⟩);have HG0:=uA (hS1.kept (k:=g) (Or.inr rfl));have HQ0:=uA q0;have HQ1:=uA q1;have e0:w1.cell? ⟨w.heap.size,0,none⟩=some (.pointer (some ⟨t.bx,0,none⟩)):=c1.cell (p:=⟨w.heap.size,0,none⟩) id e0;have o2:w1.cell? ⟨w.heap.size+1,2,none⟩=some (.int .i64 A):=c1.cell (p:=⟨w.heap.size+1,2,none⟩) id o2;have HB1w:Hid (w1.heap[w.heap.size]?=some (.cells (twA t) 45)):=uA ((c1.block _ hl1 id).trans (yA HB1));have HKW:Hid (∀k,kp k→w1.heap[k]?=wk.heap[k]?):=uA (fun k hk=>(h1.kept (Or.inl hk)).trans (yA HKP k hk));obtain⟨E,hE⟩:∃E,E=t.σ.delE (xa:Int) (xb:Int):=⟨_,rfl⟩
    have HSX:Hid (∀wq,qA w1 wq→Calls Tryz.prog 56 #[.pointer (some ⟨t.bx,0,none⟩),int xa,int xb] wq fun e w'=>e=.returned (int E)∧St B (fun k=>(kp k∨(w.heap.size≤k∧k≤w.heap.size+1))∨k=g) w1 w0 bw (nets.set i {t with σ:=t.σ.del (xa:Int) (xb:Int)}) (p+1) w'):=uA (fun wq cq=>by
      have:=iW (hS1.calm cq) (yA HI) (by omega) xa xb;rw[←hE] at this
      exact this)
    have HSR:Hid (∀w2 wq,St B (fun k=>(kp k∨(w.heap.size≤k∧k≤w.heap.size+1))∨k=g) w1 w0 bw (nets.set i {t with σ:=t.σ.del (xa:Int) (xb:Int)}) (p+1) w2→qA w2 wq→Calls Tryz.prog 57 #[.pointer (some ⟨t.br,0,none⟩),int xa,int xb] wq fun e w'=>e=.returned (int E)∧St B (fun k=>(kp k∨(w.heap.size≤k∧k≤w.heap.size+1))∨k=g) w1 w0 bw (nets.set i {t with σ:=t.σ.del (xa:Int) (xb:Int),τ:=t.σ.del (xa:Int) (xb:Int)}) (p+2) w'):=uA (fun w2 wq h2 cq=>by
      have:=gW (h2.calm cq) (pI (yA HI)) (by omega) xa xb;simp only[yA HST,uG,←hE] at this
      exact this)
    have hii:(idx:Int)<n:=by omega
    have hi0:(0:Int)≤(idx:Int):=by omega
    have hni:(n:Int)≤36:=by omega
    have hnp:(0:Int)<n:=by omega
    have hnz:((n:Int) == 0)=false:=beq_eq_false_iff_ne.2 (by omega);clear hr hr2 h1 c1 hn0 hn36 hrd hx y0 y1 y2 hany hn hidx hS1 hE o0 o3 o8 e1 H hil;go_wp2_with (go_at_call 12;refine(yA HPK).mono ?_;rintro e w' ⟨rfl,hw'⟩;have hw':=hw'.symm;subst hw');go_cut [11] (fun ve wx=>ve=int E∧St B (fun k=>(kp k∨(w.heap.size≤k∧k≤w.heap.size+1))∨k=g) w1 w0 bw (nets.set i {t with σ:=t.σ.del (xa:Int) (xb:Int)}) (p+1) wx)
    case first=>
      go_region_held3 (fun w'=>w'.cell? ⟨w.heap.size,0,none⟩=some (.pointer (some ⟨t.bx,0,none⟩))∧w'.cell? ⟨g,idx*3,none⟩=some (int xa)∧w'.cell? ⟨g,idx*3+1,none⟩=some (int xb))
        (first | exact k0 | go_keep)
        (first
          | (go_at_call 56;refine(yA HSX _ (by first | exact(cP0 _ _).drew | exact cP0 _ _)).mono ?_;rintro e w2 ⟨rfl,h2⟩
             have kg:=h2.kept (k:=g) (Or.inr rfl);have k0:w2.cell? ⟨w.heap.size,0,none⟩=some (.pointer (some ⟨t.bx,0,none⟩))∧w2.cell? ⟨g,idx*3,none⟩=some (int xa)∧w2.cell? ⟨g,idx*3+1,none⟩=some (int xb):=⟨xA ((h2.kept (Or.inl (Or.inr ⟨qO0 _,by omega⟩))).trans (yA HB1w)) 0,(lP0 (w:=w1) (a:=⟨g,idx*3,none⟩) kg).trans (yA HQ0),(lP0 (w:=w1) (a:=⟨g,idx*3+1,none⟩) kg).trans (yA HQ1)⟩;have H2:=uA h2
             clear h2 kg))
      all_goals go_wp2
      all_goals go_meet
      all_goals exact⟨rfl,yA H2⟩
    case rest=>
      obtain⟨rfl,h2⟩:=hcut;have kg:=h2.kept (k:=g) (Or.inr rfl);have e1:wc.cell? ⟨w.heap.size,1,none⟩=some (.pointer (some ⟨t.br,0,none⟩)):=xA ((h2.kept (Or.inl (Or.inr ⟨qO0 _,by omega⟩))).trans (yA HB1w)) 1;have r0:wc.cell? ⟨g,idx*3,none⟩=some (int xa):=(lP0 (w:=w1) (a:=⟨g,idx*3,none⟩) kg).trans (yA HQ0);have r1:wc.cell? ⟨g,idx*3+1,none⟩=some (int xb):=(lP0 (w:=w1) (a:=⟨g,idx*3+1,none⟩) kg).trans (yA HQ1);have H2:=uA h2;clear h2 kg HSX HPK e0 o2 q0 q1;go_wp2_with fail
      go_cut [6] (fun s wx=>s=.bool true∧St B (fun k=>(kp k∨(w.heap.size≤k∧k≤w.heap.size+1))∨k=g) w1 w0 bw (nets.set i {t with σ:=t.σ.del (xa:Int) (xb:Int),τ:=t.σ.del (xa:Int) (xb:Int)}) (p+2) wx)
      case first=>
        go_region_held3 (fun w'=>w'.cell? ⟨w.heap.size,1,none⟩=some (.pointer (some ⟨t.br,0,none⟩))∧w'.cell? ⟨g,idx*3,none⟩=some (int xa)∧w'.cell? ⟨g,idx*3+1,none⟩=some (int xb))
          (first | exact k0 | go_keep)
          (first
            | (go_at_call 14;refine(kE _ _).mono ?_;rintro e w' ⟨rfl,rfl⟩)
            | (go_at_call 57;refine(yA HSR _ _ (yA H2) (by first | exact(cP0 _ _).drew | exact cP0 _ _)).mono ?_;rintro e w3 ⟨rfl,h3⟩
               have kg:=h3.kept (k:=g) (Or.inr rfl);have k0:w3.cell? ⟨w.heap.size,1,none⟩=some (.pointer (some ⟨t.br,0,none⟩))∧w3.cell? ⟨g,idx*3,none⟩=some (int xa)∧w3.cell? ⟨g,idx*3+1,none⟩=some (int xb):=⟨xA ((h3.kept (Or.inl (Or.inr ⟨qO0 _,by omega⟩))).trans (yA HB1w)) 1,(lP0 (w:=w1) (a:=⟨g,idx*3,none⟩) kg).trans (yA HQ0),(lP0 (w:=w1) (a:=⟨g,idx*3+1,none⟩) kg).trans (yA HQ1)⟩;have H3:=uA h3
               clear h3 kg))
        all_goals go_wp2
        all_goals go_meet
        all_goals exact⟨by simp,yA H3⟩
      case rest=>
        obtain⟨rfl,h3⟩:=hcut;have H3:=uA h3;clear h3;go_wp2;go_ret;refine⟨rfl,?_⟩;rw[yA HANY];exact(yA H3).back (fun k hk=>Or.inl (Or.inl hk)) (yA HKW)
end
end Go.Proofs.YtodfcpblcpogiaaGreat

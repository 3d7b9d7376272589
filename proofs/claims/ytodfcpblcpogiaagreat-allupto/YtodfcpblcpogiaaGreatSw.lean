import Derived.Test.YtodfcpblcpogiaaGreatSva
import Derived.Test.YtodfcpblcpogiaaGreatDel
namespace Go.Proofs.YtodfcpblcpogiaaGreat
open Go.RowKit
structure RstAt (w wr:World)(b:Nat)(ρ ρ':zA)(τ:Net)(cs:Array Value)(evs:List News)(v:Value):Prop where
 net:RG wr b ρ' τ
 mv:Mv uB ρ ρ' w wr
 box:wr.heap[w.heap.size]?=some (.cells cs 133)
 non:ρ' w.heap.size=none
 row:NewsRow wr ρ' .rest evs v
section
variable {w wr w4 : World} {b : Nat} {ρ ρ3 ρ4 : Nat → Option Role} {τ τ4 : Net} {cs : Array Value} {evs : List News} {v : Value}
theorem RstAt.step (h:RstAt w wr b ρ ρ3 τ cs evs v){S:Role→Prop}(hS:¬S .rest)(m:Mv S ρ3 ρ4 wr w4)(hn:RG w4 b ρ4 τ4):RstAt w w4 b ρ ρ4 τ4 cs evs v:=by
 have l0:=(tO0.1 h.box).1;exact⟨hn,h.mv.trans (m.mono (fun _ _=>trivial)),(m.touch.block _ l0 (fun ⟨r,e,_⟩=>by rw[h.non] at e;cases e)).trans h.box,m.noRole l0 h.non,m.rowZ h.row hS⟩
theorem RstAt.calm (h:RstAt w wr b ρ ρ3 τ cs evs v)(t:qA wr w4):RstAt w w4 b ρ ρ3 τ cs evs v:=h.step (S:=fun _=>False) id (zQ0 h.net.lt t) (h.net.calm t)
theorem RstAt.new (h:RG w b ρ τ)(cs:Array Value)(hr:NewsRow w ρ .rest evs v):RstAt w (w.alloc (.cells cs 133)) b ρ ρ τ cs evs v:=by
 have t:qA w (w.alloc (.cells cs 133)):=(cP0 _ _).alloc _;refine⟨h.calm t,zQ0 h.lt t,eP0 w _,?_,RowAt.still hr t (fun _ f=>f.elim)⟩;cases hq:ρ w.heap.size with
 | none=>rfl
 | some r=>have:=h.lt w.heap.size (by rw[hq];simp);omega
theorem RstAt.news (h:RstAt w wr b ρ ρ3 τ cs evs v):NewsAt wr v evs:=uQ0 h.row
end
theorem dV (σ:Net)(x s:Nat)(a c:Option Fact):(σ.know x s a).know x s c=σ.know x s c:=by
 have:xB (xB σ.kn x s a) x s c=xB σ.kn x s c:=by
  funext u v
  by_cases e:u=x∧v=s
  ·simp[xB,e]
  ·simp[xB,e]
 unfold Net.know;rw[this]
theorem qI {l:List News}{j:Nat}{o:News}(h:l[j]?=some o):l.take (j+1)=l.take j++[o]:=by rw[List.take_add_one,h];rfl
theorem iJ {σ:Net}{c k:Nat}(hk:k<2)(mo:Int)(l:List News):(((((σ.lose (2*c+k) mo).tells (2*c+k) l)).cl c).told k).length≤((σ.cl c).told k).length+l.length∧((((σ.lose (2*c+k) mo).tells (2*c+k) l)).cl c).log.length≤(σ.cl c).log.length+1+l.length:=by
 have h2c:(2*c+k)/2=c:=by omega
 have h2k:(2*c+k)%2=k:=by omega
 have h1:=fF (c:=c) hk l (σ.lose (2*c+k) mo);have h3:(((σ.lose (2*c+k) mo).cl c).told k)=(σ.cl c).told k∧((σ.lose (2*c+k) mo).cl c).log.length≤(σ.cl c).log.length+1:=by
  unfold Net.lose;rw[h2c,h2k];show ((put σ.cl c ((σ.cl c).lose k mo) c).told k)=_∧(put σ.cl c ((σ.cl c).lose k mo) c).log.length≤_
  rw[put_same];unfold Cli.lose;split
  ·exact⟨rfl,by simp⟩
  ·exact⟨rfl,by omega⟩
 have h4:=h1.2.1;have h5:=h1.2.2;rw[h3.1] at h4;exact⟨h4,by omega⟩
set_option maxRecDepth 100000 in
set_option maxHeartbeats 4000000 in
theorem pJ0 {w:World}{b:Nat}{ρ:zA}{σ:Net}(h:RG w b ρ σ){x s new:Nat}{mo a1 a2:Int}{evs:List News}{ev:Value}(hx:x<σ.n)(hs6:σ.n≤6)(hr:NewsRow w ρ .rest evs ev)(hwt:σ.waiting<1000000000)(hnew:new<σ.n)(hne:x≠new)(T:Tree σ.par):
    Calls Tryz.prog 116 #[.pointer (some ⟨b,0,none⟩),int x,.agg #[int 5,int a1,int a2,int s,int 0,rA,int 0,int 0,int 0,int 0,int 0,int 0,int 0,int new,ev,int mo]] w fun r w'=>r=.returned (.tuple #[])∧∃ρ',RG w' b ρ' (σ.push x (tB σ.par x new) (.rest s evs mo new))∧Mv uB ρ ρ' w w':=by
  have hx6:x<6:=sO0 hx hs6;obtain⟨ae,ce,rfl,_⟩:=uQ0 hr;have hL0:=RstAt.new h #[int 5,int a1,int a2,int s,int 0,rA,int 0,int 0,int 0,int 0,int 0,int 0,int 0,int new,.slice ae evs.length ce,int mo] hr;obtain⟨W0,hW0⟩:∃W0,(w.alloc (.cells #[int 5,int a1,int a2,int s,int 0,rA,int 0,int 0,int 0,int 0,int 0,int 0,int 0,int new,.slice ae evs.length ce,int mo] 133))=W0:=⟨_,rfl⟩;rw[hW0] at hL0;have hneI:((x:Int) == (new:Int))=false:=by rw[vB];exact pP0 (by omega)
  have hneJ:((x:Int) != (new:Int))=true:=by show (!((x:Int) == (new:Int)))=true;rw[hneI];rfl
  have hnx:=cB T hx hnew hne;have hnx6:tB σ.par x new<6:=sO0 hnx.2.1 hs6
  have HSD:Hid (∀w3 ρ3,RstAt w w3 b ρ ρ3 σ #[int 5,int a1,int a2,int s,int 0,rA,int 0,int 0,int 0,int 0,int 0,int 0,int 0,int new,.slice ae evs.length ce,int mo] evs (.slice ae evs.length ce)→Calls Tryz.prog 43 #[.pointer (some ⟨b,0,none⟩),.agg #[int 5,int a1,int a2,int s,int 0,rA,int 0,int 0,int 0,int 0,int 0,int 0,int 0,int new,.slice ae evs.length ce,int mo],int x,int (tB σ.par x new)] w3 fun e w'=>e=.returned (.tuple #[])∧∃ρ',RstAt w w' b ρ ρ' (σ.push x (tB σ.par x new) (.rest s evs mo new)) #[int 5,int a1,int a2,int s,int 0,rA,int 0,int 0,int 0,int 0,int 0,int 0,int 0,int new,.slice ae evs.length ce,int mo] evs (.slice ae evs.length ce)):=uA (fun w3 ρ3 hq=>by
    refine(pV hq.net hx6 hnx6 (fR hq.row (int a1) (int a2) rfl rfl) hwt).mono ?_;rintro e w' ⟨rfl,ρ',k1,k2⟩
    exact⟨rfl,ρ',hq.step (by simp) k2 k1⟩)
  have HTW:Hid (∀w3 ρ3,RstAt w w3 b ρ ρ3 σ #[int 5,int a1,int a2,int s,int 0,rA,int 0,int 0,int 0,int 0,int 0,int 0,int 0,int new,.slice ae evs.length ce,int mo] evs (.slice ae evs.length ce)→Calls Tryz.prog 44 #[.pointer (some ⟨b,0,none⟩),int x,int new] w3 fun e w'=>e=.returned (int (tB σ.par x new))∧qA w3 w'):=uA (fun w3 ρ3 hq=>rI b σ.par T x new hx hnew hne w3 hq.net.parsAt);obtain⟨N,hN⟩:∃N,N=tB σ.par x new:=⟨_,rfl⟩;rw[←hN] at HSD HTW ⊢;have HL0:=uA hL0;have q13':W0.cell? ⟨w.heap.size,13,none⟩=some (int new):=xA hL0.box 13;have HS0:Hid (W0.cell? ⟨w.heap.size,0,none⟩=some (int 5)∧W0.cell? ⟨w.heap.size,1,none⟩=some (int a1)∧W0.cell? ⟨w.heap.size,2,none⟩=some (int a2)∧W0.cell? ⟨w.heap.size,3,none⟩=some (int s)∧W0.cell? ⟨w.heap.size,4,none⟩=some (int 0)∧W0.cell? ⟨w.heap.size,5,none⟩=some (rA)∧W0.cell? ⟨w.heap.size,6,none⟩=some (int 0)∧W0.cell? ⟨w.heap.size,7,none⟩=some (int 0)∧W0.cell? ⟨w.heap.size,8,none⟩=some (int 0)∧W0.cell? ⟨w.heap.size,9,none⟩=some (int 0)∧W0.cell? ⟨w.heap.size,10,none⟩=some (int 0)∧W0.cell? ⟨w.heap.size,11,none⟩=some (int 0)∧W0.cell? ⟨w.heap.size,12,none⟩=some (int 0)∧W0.cell? ⟨w.heap.size,13,none⟩=some (int new)∧W0.cell? ⟨w.heap.size,14,none⟩=some (.slice ae evs.length ce)∧W0.cell? ⟨w.heap.size,15,none⟩=some (int mo)):=uA ⟨xA hL0.box 0,xA hL0.box 1,xA hL0.box 2,xA hL0.box 3,xA hL0.box 4,xA hL0.box 5,xA hL0.box 6,xA hL0.box 7,xA hL0.box 8,xA hL0.box 9,xA hL0.box 10,xA hL0.box 11,xA hL0.box 12,xA hL0.box 13,xA hL0.box 14,xA hL0.box 15⟩;clear h hr hL0 hx hs6 hwt hnx hN;go_enter Tryz.func116,Tryz.ntmps116
  go_wp2;try rw[hW0]
  go_region_held3 (fun w'=>w'.cell? ⟨w.heap.size,0,none⟩=some (int 5)∧w'.cell? ⟨w.heap.size,1,none⟩=some (int a1)∧w'.cell? ⟨w.heap.size,2,none⟩=some (int a2)∧w'.cell? ⟨w.heap.size,3,none⟩=some (int s)∧w'.cell? ⟨w.heap.size,4,none⟩=some (int 0)∧w'.cell? ⟨w.heap.size,5,none⟩=some (rA)∧w'.cell? ⟨w.heap.size,6,none⟩=some (int 0)∧w'.cell? ⟨w.heap.size,7,none⟩=some (int 0)∧w'.cell? ⟨w.heap.size,8,none⟩=some (int 0)∧w'.cell? ⟨w.heap.size,9,none⟩=some (int 0)∧w'.cell? ⟨w.heap.size,10,none⟩=some (int 0)∧w'.cell? ⟨w.heap.size,11,none⟩=some (int 0)∧w'.cell? ⟨w.heap.size,12,none⟩=some (int 0)∧w'.cell? ⟨w.heap.size,13,none⟩=some (int new)∧w'.cell? ⟨w.heap.size,14,none⟩=some (.slice ae evs.length ce)∧w'.cell? ⟨w.heap.size,15,none⟩=some (int mo))
    (first
      | exact yA HS0
      | exact r4
      | exact r5
      | go_keep)
    (first
      | (go_at_call 44;refine(yA HTW W0.drew ρ ((yA HL0).calm (cP0 _ _).drew)).mono ?_;rintro e w4 ⟨rfl,t4⟩
         have t5:qA W0 w4:=((cP0 (fun _=>False) W0).drew).calm t4;have hbx4:=((yA HL0).calm t5).box;have r4:w4.cell? ⟨w.heap.size,0,none⟩=some (int 5)∧w4.cell? ⟨w.heap.size,1,none⟩=some (int a1)∧w4.cell? ⟨w.heap.size,2,none⟩=some (int a2)∧w4.cell? ⟨w.heap.size,3,none⟩=some (int s)∧w4.cell? ⟨w.heap.size,4,none⟩=some (int 0)∧w4.cell? ⟨w.heap.size,5,none⟩=some (rA)∧w4.cell? ⟨w.heap.size,6,none⟩=some (int 0)∧w4.cell? ⟨w.heap.size,7,none⟩=some (int 0)∧w4.cell? ⟨w.heap.size,8,none⟩=some (int 0)∧w4.cell? ⟨w.heap.size,9,none⟩=some (int 0)∧w4.cell? ⟨w.heap.size,10,none⟩=some (int 0)∧w4.cell? ⟨w.heap.size,11,none⟩=some (int 0)∧w4.cell? ⟨w.heap.size,12,none⟩=some (int 0)∧w4.cell? ⟨w.heap.size,13,none⟩=some (int new)∧w4.cell? ⟨w.heap.size,14,none⟩=some (.slice ae evs.length ce)∧w4.cell? ⟨w.heap.size,15,none⟩=some (int mo):=⟨xA hbx4 0,xA hbx4 1,xA hbx4 2,xA hbx4 3,xA hbx4 4,xA hbx4 5,xA hbx4 6,xA hbx4 7,xA hbx4 8,xA hbx4 9,xA hbx4 10,xA hbx4 11,xA hbx4 12,xA hbx4 13,xA hbx4 14,xA hbx4 15⟩;have HL4:=uA ((yA HL0).calm t5)
         clear t4 t5 hbx4)
      | (go_at_call 43;refine(yA HSD w4 ρ (yA HL4)).mono ?_;rintro e w5 ⟨rfl,ρ5,h5⟩
         have hbx5:=h5.box;have r5:w5.cell? ⟨w.heap.size,0,none⟩=some (int 5)∧w5.cell? ⟨w.heap.size,1,none⟩=some (int a1)∧w5.cell? ⟨w.heap.size,2,none⟩=some (int a2)∧w5.cell? ⟨w.heap.size,3,none⟩=some (int s)∧w5.cell? ⟨w.heap.size,4,none⟩=some (int 0)∧w5.cell? ⟨w.heap.size,5,none⟩=some (rA)∧w5.cell? ⟨w.heap.size,6,none⟩=some (int 0)∧w5.cell? ⟨w.heap.size,7,none⟩=some (int 0)∧w5.cell? ⟨w.heap.size,8,none⟩=some (int 0)∧w5.cell? ⟨w.heap.size,9,none⟩=some (int 0)∧w5.cell? ⟨w.heap.size,10,none⟩=some (int 0)∧w5.cell? ⟨w.heap.size,11,none⟩=some (int 0)∧w5.cell? ⟨w.heap.size,12,none⟩=some (int 0)∧w5.cell? ⟨w.heap.size,13,none⟩=some (int new)∧w5.cell? ⟨w.heap.size,14,none⟩=some (.slice ae evs.length ce)∧w5.cell? ⟨w.heap.size,15,none⟩=some (int mo):=⟨xA hbx5 0,xA hbx5 1,xA hbx5 2,xA hbx5 3,xA hbx5 4,xA hbx5 5,xA hbx5 6,xA hbx5 7,xA hbx5 8,xA hbx5 9,xA hbx5 10,xA hbx5 11,xA hbx5 12,xA hbx5 13,xA hbx5 14,xA hbx5 15⟩;have H5:=uA h5
         clear h5 hbx5))
  all_goals go_wp2
  all_goals (try simp only[Exit.inBlock,Exit.then])
  all_goals refine bodyPost_ret (results_none rfl _ _ _) rfl ?_
  all_goals exact⟨rfl,ρ5,(yA H5).net,(yA H5).mv⟩
structure RsfAt (w wr:World)(b:Nat)(ρ ρ':zA)(τ:Net)(cs:Array Value)(x s:Nat)(f:Fact)(i g nn cap:Nat):Prop where
 fact:FactAt wr b ρ' τ x s f i g nn cap
 mv:Mv uB ρ ρ' w wr
 box:wr.heap[w.heap.size]?=some (.cells cs 133)
 non:ρ' w.heap.size=none
set_option maxRecDepth 100000 in
set_option maxHeartbeats 8000000 in
theorem oJ0 {w:World}{b:Nat}{ρ:zA}{σ:Net}(h:RG w b ρ σ){x c k:Nat}{mo a1 a2:Int}{evs:List News}{ev:Value}(hx6:x<6)(hc:c<4)(hk:k<2)(hr:NewsRow w ρ .rest evs ev){f:Fact}(hkn:σ.kn x (2*c+k)=some f)
    (hlog:(σ.cl c).log.length+1+evs.length+f.kept.length<2199023255552) (htold:((σ.cl c).told k).length+evs.length+f.kept.length<2199023255552):
    Calls Tryz.prog 116 #[.pointer (some ⟨b,0,none⟩),int x,.agg #[int 5,int a1,int a2,int (2*c+k:Nat),int 0,rA,int 0,int 0,int 0,int 0,int 0,int 0,int 0,int x,ev,int mo]] w fun r w'=>r=.returned (.tuple #[])∧∃ρ',RG w' b ρ' ((((σ.lose (2*c+k) mo).tells (2*c+k) evs).tells (2*c+k) f.kept).know x (2*c+k) (some {f with kept:=[],waits:=false}))∧Mv uB ρ ρ' w w':=by
  obtain⟨ae,ce,rfl,_⟩:=uQ0 hr
  have HKN:Hid (∀l l':List News,∀σ',σ'=(σ.lose (2*c+k) mo)→((σ'.tells (2*c+k) l).tells (2*c+k) l').kn x (2*c+k)=some f):=uA (fun l l' σ' e=>by
    rw[(jB _ l' _).2.2.2,(jB _ l _).2.2.2,e];exact hkn)
  have HLB:Hid (∀j,j<evs.length→((((σ.lose (2*c+k) mo).tells (2*c+k) (evs.take j)).cl c).log.length<2199023255552)∧((((σ.lose (2*c+k) mo).tells (2*c+k) (evs.take j)).cl c).told k).length<2199023255552):=uA (fun j hj=>by
    have:=iJ (σ:=σ) (c:=c) hk mo (evs.take j);have h2:(evs.take j).length≤evs.length:=by rw[List.length_take];omega
    omega)
  have HLB2:Hid (∀j,j<f.kept.length→(((((σ.lose (2*c+k) mo).tells (2*c+k) evs).tells (2*c+k) (f.kept.take j)).cl c).log.length<2199023255552)∧(((((σ.lose (2*c+k) mo).tells (2*c+k) evs).tells (2*c+k) (f.kept.take j)).cl c).told k).length<2199023255552):=uA (fun j hj=>by
    have h0:=iJ (σ:=σ) (c:=c) hk mo evs;have h1:=fF (c:=c) hk (f.kept.take j) ((σ.lose (2*c+k) mo).tells (2*c+k) evs);have h2:(f.kept.take j).length≤f.kept.length:=by rw[List.length_take];omega
    omega)
  have HEB:Hid (evs.length<2199023255552∧f.kept.length<2199023255552):=uA (by omega);have hL0:=RstAt.new h #[int 5,int a1,int a2,int (2*c+k:Nat),int 0,rA,int 0,int 0,int 0,int 0,int 0,int 0,int 0,int x,.slice ae evs.length ce,int mo] hr;obtain⟨W0,hW0⟩:∃W0,(w.alloc (.cells #[int 5,int a1,int a2,int (2*c+k:Nat),int 0,rA,int 0,int 0,int 0,int 0,int 0,int 0,int 0,int x,.slice ae evs.length ce,int mo] 133))=W0:=⟨_,rfl⟩;rw[hW0] at hL0;have HLOSE:=loseG hL0.net hc hk mo (by omega);obtain⟨s,hse⟩:∃s,s=2*c+k:=⟨_,rfl⟩;rw[←hse] at HLOSE HKN HLB HLB2 hL0 hW0 hkn ⊢;obtain⟨σ1,hσ1⟩:∃σ1,σ1=σ.lose s mo:=⟨_,rfl⟩;rw[←hσ1] at HLOSE HKN HLB HLB2 ⊢
  have HLO:Hid (Calls Tryz.prog 40 #[.pointer (some ⟨b,0,none⟩),int s,int mo] W0 fun r w'=>r=.returned (.tuple #[])∧∃ρ1,RstAt w w' b ρ ρ1 σ1 #[int 5,int a1,int a2,int s,int 0,rA,int 0,int 0,int 0,int 0,int 0,int 0,int 0,int x,.slice ae evs.length ce,int mo] evs (.slice ae evs.length ce)):=uA (by
    refine HLOSE.mono ?_;rintro r w' ⟨rfl,ρ1,k1,k2⟩
    exact⟨rfl,ρ1,hL0.step (by simp[eB]) k2 k1⟩)
  have hxI:(x:Int)<6:=by omega
  have c3:W0.cell? ⟨w.heap.size,3,none⟩=some (int s):=xA hL0.box 3;have c13:W0.cell? ⟨w.heap.size,13,none⟩=some (int x):=xA hL0.box 13;have c15:W0.cell? ⟨w.heap.size,15,none⟩=some (int mo):=xA hL0.box 15;have HSE:=uA hse;have HW0:=uA hW0;obtain⟨B,hB⟩:∃B:Nat,evs.length+f.kept.length<B:=⟨evs.length+f.kept.length+1,by omega⟩;have HB:=uA hB
  have HTELL:Hid (∀w3 ρ3 j e,j<evs.length→evs[j]?=some e→RstAt w w3 b ρ ρ3 (σ1.tells s (evs.take j)) #[int 5,int a1,int a2,int s,int 0,rA,int 0,int 0,int 0,int 0,int 0,int 0,int 0,int x,.slice ae evs.length ce,int mo] evs (.slice ae evs.length ce)→Calls Tryz.prog 41 #[.pointer (some ⟨b,0,none⟩),int s,.agg #[int e.ev.pub,int e.ev.num,int e.ev.f0,int e.ev.f1,int e.ev.f2,int e.stay]] w3 fun r w'=>r=.returned (.tuple #[])∧∃ρ',RstAt w w' b ρ ρ' (σ1.tells s (evs.take (j+1))) #[int 5,int a1,int a2,int s,int 0,rA,int 0,int 0,int 0,int 0,int 0,int 0,int 0,int x,.slice ae evs.length ce,int mo] evs (.slice ae evs.length ce)):=uA (fun w3 ρ3 j e hj he hq=>by
    obtain⟨q1,q2⟩:=yA HLB j hj;have:=vO0 hq.net hc hk e q1 q2;rw[←hse] at this;refine this.mono ?_;rintro r w' ⟨rfl,ρ',k1,k2⟩
    rw[qI he,kG]
    exact⟨rfl,ρ',hq.step (by simp[eB]) k2 k1⟩)
  have HTELL2:Hid (∀w3 ρ3 j e i g nn cap,j<f.kept.length→f.kept[j]?=some e→RsfAt w w3 b ρ ρ3 ((σ1.tells s evs).tells s (f.kept.take j)) #[int 5,int a1,int a2,int s,int 0,rA,int 0,int 0,int 0,int 0,int 0,int 0,int 0,int x,.slice ae evs.length ce,int mo] x s f i g nn cap→Calls Tryz.prog 41 #[.pointer (some ⟨b,0,none⟩),int s,.agg #[int e.ev.pub,int e.ev.num,int e.ev.f0,int e.ev.f1,int e.ev.f2,int e.stay]] w3 fun r w'=>r=.returned (.tuple #[])∧∃ρ',RsfAt w w' b ρ ρ' ((σ1.tells s evs).tells s (f.kept.take (j+1))) #[int 5,int a1,int a2,int s,int 0,rA,int 0,int 0,int 0,int 0,int 0,int 0,int 0,int x,.slice ae evs.length ce,int mo] x s f i g nn cap∧Mv (eB c k) ρ3 ρ' w3 w'):=uA (fun w3 ρ3 j e i g nn cap hj he hq=>by
    obtain⟨q1,q2⟩:=yA HLB2 j hj;have:=hq.fact.tell hc hk e q1 q2;rw[←hse] at this;refine this.mono ?_;rintro r w' ⟨rfl,ρ',k1,k2⟩
    rw[qI he,kG];have l0:=(tO0.1 hq.box).1
    exact⟨rfl,ρ',⟨k1,hq.mv.trans (k2.mono (fun _ _=>trivial)),(k2.touch.block _ l0 (fun ⟨r,e,_⟩=>by rw[hq.non] at e;cases e)).trans hq.box,k2.noRole l0 hq.non⟩,k2⟩)
  clear h hr hL0 HLOSE hσ1 hlog htold hse hW0 hB HLB HLB2 hkn;go_enter Tryz.func116,Tryz.ntmps116
  go_wp2_with (go_at_call 40;(try rw[yA HW0]);refine(yA HLO).mono ?_;rintro e w1 ⟨rfl,ρ1,h1⟩;have H1:=uA h1;clear h1)
  go_loopw [6] (fun p wr=>∃j:Nat,j≤evs.length∧p=int j∧∃ρ',RstAt w wr b ρ ρ' (σ1.tells s (evs.take j)) #[int 5,int a1,int a2,int s,int 0,rA,int 0,int 0,int 0,int 0,int 0,int 0,int 0,int x,.slice ae evs.length ce,int mo] evs (.slice ae evs.length ce)) (fun p _=>B-(intOf p).toNat)
  case atStart=>exact⟨0,by omega,rfl,ρ1,yA H1⟩
  case round=>
    clear H1 ρ1;obtain⟨j,hj,rfl,ρ1,hS⟩:=hrel;have d3:wr.cell? ⟨w.heap.size,3,none⟩=some (int s):=xA hS.box 3;have d14:wr.cell? ⟨w.heap.size,14,none⟩=some (.slice ae evs.length ce):=xA hS.box 14;by_cases hjn:j<evs.length
    · have hjI:(j:Int)<evs.length:=by omega
      obtain⟨e,he⟩:∃e,evs[j]?=some e:=⟨_,pO0 hjn⟩;obtain⟨a',c',ha,hnw⟩:=hS.news;cases ha;obtain⟨g,rfl,n0,n1,n2,n3,n4,n5⟩:=hnw j e he
      have HAFT:Hid (∀w5 ρ5,RstAt w w5 b ρ ρ5 (σ1.tells s (evs.take (j+1))) #[int 5,int a1,int a2,int s,int 0,rA,int 0,int 0,int 0,int 0,int 0,int 0,int 0,int x,.slice (some ⟨g,0,none⟩) evs.length ce,int mo] evs (.slice (some ⟨g,0,none⟩) evs.length ce)→w5.cell? ⟨w.heap.size,3,none⟩=some (int s)∧w5.cell? ⟨w.heap.size,14,none⟩=some (.slice (some ⟨g,0,none⟩) evs.length ce)∧w5.cell? ⟨g,j*6,none⟩=some (int e.ev.pub)∧w5.cell? ⟨g,j*6+1,none⟩=some (int e.ev.num)∧w5.cell? ⟨g,j*6+2,none⟩=some (int e.ev.f0)∧w5.cell? ⟨g,j*6+3,none⟩=some (int e.ev.f1)∧w5.cell? ⟨g,j*6+4,none⟩=some (int e.ev.f2)∧w5.cell? ⟨g,j*6+5,none⟩=some (int e.stay)):=uA (fun w5 ρ5 h5=>by
        obtain⟨a',c',ha,hnw⟩:=h5.news;cases ha;obtain⟨g',hg',m0,m1,m2,m3,m4,m5⟩:=hnw j e he;cases hg'
        exact⟨xA h5.box 3,xA h5.box 14,m0,m1,m2,m3,m4,m5⟩)
      have HCT:=uA (fun w3 (t:qA wr w3)=>yA HTELL w3 ρ1 j e hjn he (hS.calm t));clear hS hnw he;go_wp2;go_region_held3 (fun w'=>w'.cell? ⟨w.heap.size,3,none⟩=some (int s)∧w'.cell? ⟨w.heap.size,14,none⟩=some (.slice (some ⟨g,0,none⟩) evs.length ce)∧w'.cell? ⟨g,j*6,none⟩=some (int e.ev.pub)∧w'.cell? ⟨g,j*6+1,none⟩=some (int e.ev.num)∧w'.cell? ⟨g,j*6+2,none⟩=some (int e.ev.f0)∧w'.cell? ⟨g,j*6+3,none⟩=some (int e.ev.f1)∧w'.cell? ⟨g,j*6+4,none⟩=some (int e.ev.f2)∧w'.cell? ⟨g,j*6+5,none⟩=some (int e.stay))
        (first
          | exact⟨d3,d14,n0,n1,n2,n3,n4,n5⟩
          | exact r5
          | go_keep)
        (first
          | (go_at_call 41;refine(yA HCT wr.drew (cP0 _ _).drew).mono ?_;rintro r w5 ⟨rfl,ρ5,h5⟩
             have r5:=yA HAFT w5 ρ5 h5;have H5:=uA h5
             clear h5))
      all_goals go_wp2
      all_goals go_roundw
      all_goals rw[show wrap64 ((j:Int)+1)=(j:Int)+1 by have:=yA HEB;simp only[wrap64];omega]
      all_goals first
        | exact⟨j+1,by omega,by go_num,ρ5,yA H5⟩
        | (have:=yA HB;simp[intOf];omega)
    · have hje:j=evs.length:=by omega
      subst hje;rw[List.take_of_length_le (qO0 _)] at hS;have hkf:=yA HKN evs [] σ1 rfl;obtain⟨i,g,nn,cap,hFA,hC⟩:=hS.net.factAt hkf;obtain⟨b2,hin,hn48⟩:=hFA.row;have hiI:(i:Int)<nn:=by omega
      have HC:=uA hFA.call;have HC2:=uA (fun w3 (t:qA wr w3)=>(hFA.calm t).call)
      have HF0:Hid (∀w3,qA wr w3→RsfAt w w3 b ρ ρ1 ((σ1.tells s evs).tells s (f.kept.take 0)) #[int 5,int a1,int a2,int s,int 0,rA,int 0,int 0,int 0,int 0,int 0,int 0,int 0,int x,.slice ae evs.length ce,int mo] x s f i g nn cap):=uA (fun w3 t=>by
        have h3:=hS.calm t
        exact⟨hFA.calm t,h3.mv,h3.box,h3.non⟩)
      clear hS hkf hFA hC HTELL HKN HLO;go_wp2;go_region_held3 (fun w'=>w'.cell? ⟨w.heap.size,3,none⟩=some (int s)∧w'.cell? ⟨b,2,none⟩=some (.slice (some ⟨g,0,none⟩) nn cap))
        (first
          | exact⟨d3,b2⟩
          | go_keep)
        (first
          | (go_at_call 39;refine(yA HC2 wr.drew (cP0 _ _).drew).mono ?_;rintro r w5 ⟨rfl,hw5⟩;have hw5:=hw5.symm;subst hw5))
      all_goals go_wp2
      all_goals go_loopw [8] (fun p wr2=>∃j:Nat,j≤f.kept.length∧p=int j∧∃ρ',RsfAt w wr2 b ρ ρ' ((σ1.tells s evs).tells s (f.kept.take j)) #[int 5,int a1,int a2,int s,int 0,rA,int 0,int 0,int 0,int 0,int 0,int 0,int 0,int x,.slice ae evs.length ce,int mo] x s f i g nn cap) (fun p _=>B-(intOf p).toNat)
      case atStart=>exact⟨0,by omega,rfl,ρ1,yA HF0 _ ((cP0 _ _).drew)⟩
      case round=>
        clear HF0 HC HC2 d3 d14 b2 ρ1;obtain⟨j,hj,rfl,ρ1,hS⟩:=hrel;have d3:wr.cell? ⟨w.heap.size,3,none⟩=some (int s):=xA hS.box 3;obtain⟨fv,kv,_,hkr,_,_,_,_,_,c5,_,c7⟩:=hS.fact.cells;have hgr:=hS.fact.role;obtain⟨ak,ck,rfl,hnw⟩:=uQ0 hkr;by_cases hjn:j<f.kept.length
        · have hjI:(j:Int)<f.kept.length:=by omega
          obtain⟨e,he⟩:∃e,f.kept[j]?=some e:=⟨_,pO0 hjn⟩;obtain⟨gk,rfl,n0,n1,n2,n3,n4,n5⟩:=hnw j e he;have hgk:=hkr.2 gk rfl;have HAFT:Hid (∀w5 ρ5,RsfAt w w5 b ρ ρ5 ((σ1.tells s evs).tells s (f.kept.take (j+1))) #[int 5,int a1,int a2,int s,int 0,rA,int 0,int 0,int 0,int 0,int 0,int 0,int 0,int x,.slice ae evs.length ce,int mo] x s f i g nn cap→Mv (eB c k) ρ1 ρ5 wr.drew w5→w5.cell? ⟨w.heap.size,3,none⟩=some (int s)∧w5.cell? ⟨g,i*8+5,none⟩=some (.slice (some ⟨gk,0,none⟩) f.kept.length ck)∧w5.cell? ⟨gk,j*6,none⟩=some (int e.ev.pub)∧w5.cell? ⟨gk,j*6+1,none⟩=some (int e.ev.num)∧w5.cell? ⟨gk,j*6+2,none⟩=some (int e.ev.f0)∧w5.cell? ⟨gk,j*6+3,none⟩=some (int e.ev.f1)∧w5.cell? ⟨gk,j*6+4,none⟩=some (int e.ev.f2)∧w5.cell? ⟨gk,j*6+5,none⟩=some (int e.stay)):=uA (fun w5 ρ5 h5 m5=>⟨xA h5.box 3,m5.cellZ hgr (by simp[eB]) c5,m5.cellZ hgk (by simp[eB]) n0,m5.cellZ hgk (by simp[eB]) n1,m5.cellZ hgk (by simp[eB]) n2,m5.cellZ hgk (by simp[eB]) n3,m5.cellZ hgk (by simp[eB]) n4,m5.cellZ hgk (by simp[eB]) n5⟩);have HCT:=uA (yA HTELL2 wr.drew ρ1 j e i g nn cap hjn he ⟨hS.fact.calm (cP0 _ _).drew,hS.mv.trans (zQ0 hS.fact.rg.lt (cP0 _ _).drew),hS.box,hS.non⟩);clear hS hnw hkr he hgk hgr c7;go_wp2;go_region_held3 (fun w'=>w'.cell? ⟨w.heap.size,3,none⟩=some (int s)∧w'.cell? ⟨g,i*8+5,none⟩=some (.slice (some ⟨gk,0,none⟩) f.kept.length ck)∧w'.cell? ⟨gk,j*6,none⟩=some (int e.ev.pub)∧w'.cell? ⟨gk,j*6+1,none⟩=some (int e.ev.num)∧w'.cell? ⟨gk,j*6+2,none⟩=some (int e.ev.f0)∧w'.cell? ⟨gk,j*6+3,none⟩=some (int e.ev.f1)∧w'.cell? ⟨gk,j*6+4,none⟩=some (int e.ev.f2)∧w'.cell? ⟨gk,j*6+5,none⟩=some (int e.stay))
            (first
              | exact⟨d3,c5,n0,n1,n2,n3,n4,n5⟩
              | exact r5
              | go_keep)
            (first
              | (go_at_call 41;refine(yA HCT).mono ?_;rintro r w5 ⟨rfl,ρ5,h5,m5⟩
                 have r5:=yA HAFT w5 ρ5 h5 m5;have H5:=uA h5
                 clear h5 m5))
          all_goals go_wp2
          all_goals go_roundw
          all_goals rw[show wrap64 ((j:Int)+1)=(j:Int)+1 by have:=yA HEB;simp only[wrap64];omega]
          all_goals first
            | exact⟨j+1,by omega,by go_num,ρ5,yA H5⟩
            | (have:=yA HB;simp[intOf];omega)
        · have hje:j=f.kept.length:=by omega
          subst hje;rw[List.take_of_length_le (qO0 _)] at hS;obtain⟨p1,p2⟩:=hS.fact.pokeNil;obtain⟨p3,p4⟩:=p1.pokeWaits false;have z5:=hS.fact.fz (i*8+5);have z7:=hS.fact.fz (i*8+7);have HP:=uA p3.rg;have HM:=uA ((hS.mv.trans (p2.mono (fun _ _=>trivial))).trans (p4.mono (fun _ _=>trivial)));clear hS p1 p2 p3 p4 hnw hkr hgr HTELL2;go_wp2;go_end0
          have:=yA HP;rw[dV] at this;exact⟨rfl,ρ1,this,yA HM⟩
end Go.Proofs.YtodfcpblcpogiaaGreat

import Derived.Test.YtodfcpblcpogiaaGreatIter
import Derived.Test.YtodfcpblcpogiaaGreatAtp
namespace Go.Proofs.YtodfcpblcpogiaaGreat
open Go.RowKit Go.Shelf
structure Warm (σ:Net)(m:Nat):Prop where
 live:Live σ
 slack:Slack 0 0 σ m
 nums:Nums σ m
 news:∃E,Pubs E σ∧∀e,e∈E→e.lim m
theorem Ready.warm {σ:Net}{m:Nat}(R:Ready σ m):Warm σ m:=⟨R.alive.live,R.slack,R.nums,R.news⟩
theorem Warm.hear {σ:Net}{m:Nat}(W:Warm σ m){b:Nat}(hb:b<6){e:News}(he:e.lim (m+1)){s:Nat}(hs:s<8):Warm (σ.hear b e s) (m+1):=by
 obtain⟨E,h1,h2⟩:=W.news;refine⟨W.live.hear b e hs,(W.slack.hear hb e hs).of_none 0,W.nums.hear b e s,E++[e],(h1.mono (fun o ho=>List.mem_append_left _ ho)).hear b (List.mem_append_right _ (eO0.2 rfl)) s,fun o ho=>?_⟩;rcases xP0.1 ho with ho | ho
 ·exact(h2 o ho).weak (by omega)
 ·rw[eO0.1 ho];exact he
theorem Warm.hears {b:Nat}(hb:b<6){e:News}:∀(l:List Nat) {σ:Net} {m:Nat},Warm σ m→e.lim (m+1)→(∀s,s∈l→s<8)→Warm (σ.hears b e l) (m+l.length)
 | [],_,_,W,_,_=>W
 | s::l,σ,m,W,he,hl=>by
  have:=Warm.hears hb l (W.hear hb he (hl s (lO0 ..))) (he.weak (by omega)) (fun t ht=>hl t (kO0 _ ht));have e1:m+1+l.length=m+(s::l).length:=by simp;omega
  rw[←e1];exact this
theorem Warm.rising {σ:Net}{m:Nat}(W:Warm σ m)(c k:Nat):Rising ((σ.cl c).told k):=by
 obtain⟨E,h1,h2⟩:=W.news;refine⟨((W.nums.cl c).ris k).imp (fun {o e} h hp hs=>?_),fun e he=>(h2 e (h1.told c k e he)).2.2.1⟩;unfold uM0 at h;by_cases hx:e.ev.num≤o.ev.num
 ·exact absurd ⟨hp,hs,hx⟩ h
 ·omega
theorem Warm.lens {σ:Net}{m:Nat}(W:Warm σ m){c:Nat}(hc:c<4):(σ.cl c).log.length≤m∧∀k,k<2→((σ.cl c).told k).length≤m:=by
 refine⟨by have:=W.slack.log c hc;omega,fun k hk=>?_⟩;have:=W.slack.told (2*c+k) (by omega);have h1:(2*c+k)/2=c:=by omega
 have h2:(2*c+k)%2=k:=by omega
 simp only[Net.toldN,h1,h2] at this;omega
theorem Warm.keptLe {σ:Net}{m:Nat}(W:Warm σ m){b s:Nat}(hb:b<6)(hs:s<8){f:Fact}(hf:σ.kn b s=some f):f.kept.length≤m:=by
 have h1:=W.slack.told s hs;have h2:oB (σ.kn b s)≤σ.massK s:=jI (f:=fun b=>oB (σ.kn b s)) hb;rw[hf] at h2;simp only[Net.mass] at h1;have h3:oB (some f)=f.kept.length:=rfl;omega
theorem Warm.told {σ:Net}{m:Nat}(W:Warm σ m)(hm:m<2199023255552){b s:Nat}(hs:s<8){f:Fact}(hf:σ.kn b s=some f)(hw:f.way=none)(hh:(σ.cl (s/2)).here=some b)(hwt:f.waits=false):Hears (σ.cl (s/2)) (s%2):=by
 have h1:=W.lens (c:=s/2) (by omega);have h2:=h1.2 (s%2) (by omega);exact⟨(W.live.here_fl hs hf hw hh hwt).1,W.rising _ _,by omega,by omega⟩
theorem lU (σ:Net)(x:Nat)(e:News){s t:Nat}(h:t≠s)(b:Nat):(σ.hear x e s).kn b t=σ.kn b t:=by
 unfold Net.hear;split
 ·rfl
 ·split
  ·split
   ·simp only[Net.know,jA _ _ (fun e=>h e.2)]
   ·split
    ·simp only[Net.know,jA _ _ (fun e=>h e.2)]
    ·rfl
  ·rfl
theorem dG (x:Nat)(e:News){t:Nat}(b:Nat):∀(l:List Nat) (σ:Net),t ∉ l→(σ.hears x e l).kn b t=σ.kn b t
 | [],_,_=>rfl
 | s::l,σ,h=>by
  have h1:=dG x e b l (σ.hear x e s) (fun hh=>h (kO0 _ hh));exact h1.trans (lU σ x e (fun hh=>h (by rw[hh];exact lO0 ..)) b)
theorem fK0 (x:Nat)(e:News)(l:List Nat)(σ:Net)(b s:Nat):((σ.hears x e l).kn b s).map Fact.co=(σ.kn b s).map Fact.co:=by
 have:=congrArg (fun v=>v.co b) (qM x e s l σ);exact this
theorem eG (σ:Net)(x:Nat)(e:News)(l:List Nat)(s:Nat):σ.hears x e (l++[s])=(σ.hears x e l).hear x e s:=by simp[Net.hears,List.foldl_append]
def bY (σ:Net)(x:Nat)(ft:oJ):Prop:=∀s,s<8→σ.kn x s=(ft s).map (·.1)
theorem cN {σ:Net}{x:Nat}{ft:oJ}{e:News}(hs:bY σ x ft):∀n,n≤8→σ.hears x e (List.range n)=σ.hears x e ((gE ft e.ev n).map (·.1))
 | 0,_=>rfl
 | n+1,hn=>by
  have ih:=cN hs (e:=e) n (by omega);rw[List.range_succ,eG,kJ,List.map_append];have hkn:(σ.hears x e (List.range n)).kn x n=(ft n).map (·.1):=by rw[dG x e x (List.range n) σ (by simp)];exact hs n (by omega)
  cases hf:ft n with
  | none=>
   rw[hf] at hkn;simp only[Net.hear,hkn,Option.map_none];simp[ih]
  | some a=>
   obtain⟨f,kb,kv⟩:=a;rw[hf] at hkn;simp only;by_cases hm:lC f.fl e.ev=true
   ·rw[if_pos hm];simp only[List.map_cons,List.map_nil];rw[eG,ih]
   ·rw[if_neg hm];simp only[Net.hear,hkn,Option.map_some];simp[hm,ih]
def zZ (o:Option Fact)(y:Nat):Bool:=match o with
 | some f=>decide (f.way=some y)
 | none=>false
def flag (σ:Net)(x:Nat)(l:List Nat)(y:Nat):Bool:=l.any fun s=>zZ (σ.kn x s) y
theorem tB0 {σ:Net}{x:Nat}{ft:oJ}{e:News}(hs:bY σ x ft)(y:Nat):flag σ x ((gE ft e.ev 8).map (·.1)) y=(List.range 8).any (σ.wants x e y):=by
 have key:∀n,n≤8→flag σ x ((gE ft e.ev n).map (·.1)) y=(List.range n).any (σ.wants x e y):=by
  intro n;induction n with
  | zero=>intro _;rfl
  | succ n ih=>
   intro hn;rw[List.range_succ,kJ,List.map_append,List.any_append,flag,List.any_append];have ih:=ih (by omega);unfold flag at ih;rw[ih];congr 1
   have hk:=hs n (by omega);simp only[List.any_cons,List.any_nil,Bool.or_false,Net.wants];cases hf:ft n with
   | none=>rw[hf] at hk;simp[hk]
   | some a=>
    obtain⟨f,kb,kv⟩:=a;rw[hf] at hk;simp only[Option.map_some] at hk;rw[hk];simp only;by_cases hm:lC f.fl e.ev=true
    ·simp[hm,hk,zZ]
    ·simp[hm]
 exact key 8 (qO0 _)
theorem qN {σ:Net}{x:Nat}{ft:oJ}{e:News}(hs:bY σ x ft)(fr:Option Nat):σ.targets x e fr=(List.range 6).filter fun y=>decide (some y≠fr) && flag σ x ((gE ft e.ev 8).map (·.1)) y:=by
 unfold Net.targets;congr 1
 funext y
 rw[tB0 hs]
def kF (σ:Net)(x:Nat)(fr:Option Nat)(g:Nat→Bool)(f:Fr)(k:Nat):Net:=σ.pushAll x ((List.range k).filter fun y=>decide (some y≠fr) && g y) f
theorem gZ (σ:Net)(x:Nat)(fr:Option Nat)(g:Nat→Bool)(f:Fr)(k:Nat):kF σ x fr g f (k+1)=if (decide (some k≠fr) && g k)=true then (kF σ x fr g f k).push x k f else kF σ x fr g f k:=by
 unfold kF;rw[List.range_succ,List.filter_append];by_cases h:(decide (some k≠fr) && g k)=true
 ·rw[if_pos h];simp only[List.filter_cons,h,if_true,List.filter_nil,Net.pushAll,List.foldl_append,List.foldl_cons,List.foldl_nil]
 ·rw[if_neg h];simp only[List.filter_cons,h,List.filter_nil,Net.pushAll];simp
theorem dC0 (σ:Net)(x:Nat)(fr:Option Nat)(g:Nat→Bool)(f:Fr)(k:Nat):(kF σ x fr g f k).par=σ.par:=pushAll_par _ _ _ _
theorem rJ0 (σ:Net)(x:Nat)(fr:Option Nat)(g:Nat→Bool)(f:Fr)(k a y:Nat)(hy:k≤y):(kF σ x fr g f k).q a y=σ.q a y:=by
 unfold kF;rw[cK _ _ _ _ (List.Pairwise.filter _ List.nodup_range),if_neg (by simp;omega)]
attribute [local go_sem] Oper.semAt_some
set_option maxHeartbeats 400000 in
theorem yZ (b o:Nat)(f0 f1 f2:Int)(w:World):Calls Tryz.prog 106 #[.pointer (some ⟨b,o,none⟩),.agg #[int f0,int f1,int f2]] w fun e w'=>
  e=.returned (.func (.func 121) #[] #[ptr w.heap.size,ptr (w.heap.size+1)])∧w'=(w.alloc (.cells #[.pointer (some ⟨b,o,none⟩)] 174)).alloc (.cells #[int f0,int f1,int f2] 35):=by
 go_enter Tryz.func106,Tryz.ntmps106
 go_wp2;go_ret
 exact⟨rfl,rfl⟩
def pI0 (B:Nat)(W:World)(ρ:zA):Prop:=∀k,B≤k→ρ k≠none→∃cs t f,W.heap[k]?=some (.cells cs t f)
def rG (x:Nat)(r:Role):Prop:=r=.net∨(∃c k,r=.map c k)∨(∃c,r=.log c)∨∃s,r=.known x s∨r=.kept x s
theorem nH0 {x c k:Nat}{r:Role}(h:iS x c k r):rG x r:=by
 rcases h with(h | h | h) | (h | h)
 ·exact Or.inl h
 ·exact Or.inr (Or.inl ⟨c,k,h⟩)
 ·exact Or.inr (Or.inr (Or.inl ⟨c,h⟩))
 ·exact Or.inr (Or.inr (Or.inr ⟨_,Or.inl h⟩))
 ·exact Or.inr (Or.inr (Or.inr ⟨_,Or.inr h⟩))
theorem xJ0 {W:World}{b:Nat}{ρ:zA}{σ:Net}(h:XN W b ρ σ)(G:Good σ){x:Nat}(hx:x<6):∃ft:oJ,bY σ x ft∧StandAt W b (38+x*8) ft:=by
  have key:∀s,s<8→∃o:Option (Fact × Nat × Value),σ.kn x s=o.map (·.1)∧W.cell? ⟨b,38+x*8+s,none⟩=some (.pointer (match o with | none=>none | some (_,kb,_)=>some ⟨kb,0,none⟩))∧
      (∀f kb kv,o=some (f,kb,kv)→W.heap[kb]?=some (.cells (eD s f kv).toArray 176)):=by
    intro s hs;have hsk:s=2*(s/2)+s%2:=by omega
    obtain⟨v,h1,h2⟩:=h.known x (s/2) (s%2) hx (by omega) (by omega);rw[←hsk] at h2;have ho:38+x*8+s/2*2+s%2=38+x*8+s:=by omega
    rw[ho] at h1;cases hk:σ.kn x s with
    | none=>
      rw[hk] at h2;have h2:v=.pointer none:=h2;subst h2;exact⟨none,rfl,h1,fun _ _ _ e=>by cases e⟩
    | some f=>
      rw[hk] at h2;obtain⟨kb,kv,rfl,_,h4,_⟩:=h2;exact⟨some (f,kb,kv),rfl,h1,fun _ _ _ e=>by cases e;exact h4⟩
  have hch:∀s,∃o:Option (Fact × Nat × Value),s<8→σ.kn x s=o.map (·.1)∧W.cell? ⟨b,38+x*8+s,none⟩=some (.pointer (match o with | none=>none | some (_,kb,_)=>some ⟨kb,0,none⟩))∧
      (∀f kb kv,o=some (f,kb,kv)→W.heap[kb]?=some (.cells (eD s f kv).toArray 176)):=fun s=>by
    by_cases hs:s<8
    · obtain⟨o,ho⟩:=key s hs;exact⟨o,fun _=>ho⟩
    · exact⟨none,fun h=>absurd h hs⟩
  obtain⟨g,hg⟩:=Classical.axiomOfChoice hch;have e8:∀s,s<8→(fun s=>if s<8 then g s else none) s=g s:=fun s hs=>by simp[hs]
  have e9:∀s,¬s<8→(fun s=>if s<8 then g s else none) s=none:=fun s hs=>by simp[hs]
  generalize (fun s=>if s<8 then g s else none)=ft at e8 e9;refine⟨ft,fun s hs=>?_,⟨fun s hs=>?_,fun s f kb kv hft=>?_⟩⟩
  · rw[e8 s hs];exact(hg s hs).1
  · unfold dD dM
    rw[e8 s hs];exact(hg s hs).2.1
  · by_cases hs:s<8
    · rw[e8 s hs] at hft
      refine⟨(hg s hs).2.2 f kb kv hft,?_⟩;have h2:=(hg s hs).1;rw[hft] at h2;exact(G.facts x s f h2).fil
    · rw[e9 s hs] at hft;cases hft
def six (g:Nat→Bool):Value:=.agg #[.bool (g 0),.bool (g 1),.bool (g 2),.bool (g 3),.bool (g 4),.bool (g 5)]
theorem info4:(Tryz.prog.info? 4).map (·.size)=some 1:=by kernel_rfl
theorem idx162 (g:Nat→Bool)(k:Nat)(hk:k<6)(w:World):(Instr.index 162 (six g) (.int .i64 k)).run Tryz.prog w=.ok (.bool (g k)) w:=by
 obtain rfl | rfl | rfl | rfl | rfl | rfl:k=0∨k=1∨k=2∨k=3∨k=4∨k=5:=by omega
 all_goals simp[six,Instr.index,asIntOf,Sem.run_bind,run_underlying Tryz.underlying162,part,isAgg,run_underlying Tryz.underlying4,nN info4]
def sO (σ:Net)(x:Nat)(l:List Nat):Array Value:=#[.bool (flag σ x l 0),.bool (flag σ x l 1),.bool (flag σ x l 2),.bool (flag σ x l 3),.bool (flag σ x l 4),.bool (flag σ x l 5)]
theorem rW (σ:Net)(x:Nat)(l:List Nat)(s y:Nat):flag σ x (l++[s]) y=(flag σ x l y || zZ (σ.kn x s) y):=by
 simp[flag]
theorem bD0 {σ:Net}{x:Nat}{l:List Nat}{s:Nat}{f:Fact}(hk:σ.kn x s=some f)(hw:f.way=none):sO σ x (l++[s])=sO σ x l:=by
 simp[sO,rW,hk,hw,zZ]
theorem kH0 {σ:Net}{x:Nat}{l:List Nat}{s y:Nat}{f:Fact}(hk:σ.kn x s=some f)(hw:f.way=some y)(hy:y<6):(sO σ x l).setIfInBounds y (.bool true)=sO σ x (l++[s]):=by
 simp only[sO,rW,hk,hw,zZ,Option.some.injEq];obtain rfl | rfl | rfl | rfl | rfl | rfl:y=0∨y=1∨y=2∨y=3∨y=4∨y=5:=by omega
 all_goals simp
theorem uL0 (σ:Net)(x:Nat)(l:List Nat){y:Nat}(hy:y<6):(sO σ x l)[y]?=some (.bool (flag σ x l y)):=by
 obtain rfl | rfl | rfl | rfl | rfl | rfl:y=0∨y=1∨y=2∨y=3∨y=4∨y=5:=by omega
 all_goals rfl
structure EvI (w W1:World)(b:Nat)(ρ:zA)(σ:Net)(x:Nat)(e:News)(l:List Nat)(ρ':zA)(V:World):Prop where
 net:XN V b ρ' (σ.hears x e l)
 mv:Mv (rG x) ρ ρ' w V
 cells:pI0 W1.heap.size V ρ'
 only:OnlyT W1 V
 size:W1.heap.size≤V.heap.size
 low:∀k,w.heap.size≤k→k<W1.heap.size→ρ' k=none
 flg:V.heap[w.heap.size+3]?=some (.cells (sO σ x l) 162)
 front:Front b W1 V
theorem EvI.own {w W1:World}{b:Nat}{ρ:zA}{σ:Net}{x:Nat}{e:News}{l:List Nat}{ρ':zA}{V V':World}{row:Option Nat}(hw:w.heap.size≤W1.heap.size)(h:EvI w W1 b ρ σ x e l ρ' V)(hg:V.grownBy V' row)
  (hr:∀r,row=some r→W1.heap.size≤r∧∃o:Obj,V.heap[r]?=some o∧o.isCells=false):EvI w W1 b ρ σ x e l ρ' V':=by
 have hne:∀k cs t f,V.heap[k]?=some (.cells cs t f)→row≠some k:=fun k cs t f hk e=>by
  obtain⟨_,o,ho,hc⟩:=hr k e;rw[hk] at ho;cases ho;simp[Obj.isCells] at hc
 have hrole:∀k,ρ' k≠none→row≠some k:=fun k hk e=>by
  obtain⟨hB,_⟩:=hr k e;obtain⟨cs,t,f,hc⟩:=h.cells k hB hk;exact hne k cs t f hc e
 have hlow:∀k,k<W1.heap.size→row≠some k:=fun k hk e=>by
  have:=(hr k e).1;omega
 have hT:Touch (fun k=>row=some k) V V':=⟨hg.os,hg.tape,hg.output,hg.size,fun k hk hs=>hg.block k hk (fun e=>hs e.symm)⟩
 refine⟨h.net.keep hT (fun k hk e=>hrole k hk e),⟨⟨hT.os.trans h.mv.touch.os,hT.tape.trans h.mv.touch.tape,hT.output.trans h.mv.touch.output,mO0 h.mv.touch.size hT.size,fun k hk hs=>(hT.block k (sO0 hk h.mv.touch.size) (fun e=>hlow k (by omega) e)).trans (h.mv.touch.block k hk hs)⟩,h.mv.role,fun k hk=>sO0 (h.mv.lt k hk) hT.size⟩,
  fun k hB hk=>?_,h.only.trans (OnlyT.of_keep fun k cs t _ _ _ _ hk=>(hT.block k (tO0.1 hk).1 (fun e=>hne k cs t _ hk e)).trans hk),mO0 h.size hT.size,h.low,?_,h.front.trans (fun o v _ hv=>pA (hT.block b (h.net.lt b (by rw[h.net.net];simp)) (fun e=>hrole b (by rw[h.net.net];simp) e)) hv)⟩
 ·obtain⟨cs,t,f,hc⟩:=h.cells k hB hk;exact⟨cs,t,f,(hT.block k (tO0.1 hc).1 (fun e=>hne k cs t f hc e)).trans hc⟩
 ·exact(hT.block _ (tO0.1 h.flg).1 (fun e=>hne _ _ _ _ h.flg e)).trans h.flg
theorem EvI.heard {w W1:World}{b:Nat}{ρ:zA}{σ:Net}{x:Nat}{e:News}{l:List Nat}{ρ' ρ4:zA}{V V4:World}{c k s:Nat}{f:Fact}(hw3:w.heap.size+3<W1.heap.size)(h:EvI w W1 b ρ σ x e l ρ' V)(hk:σ.kn x s=some f)(hw:f.way=none)
  (h4:XN V4 b ρ4 ((σ.hears x e l).hear x e s)) (m4:Mv (iS x c k) ρ' ρ4 V V4) (n4:∀i,V.heap.size≤i→ρ4 i≠none→∃cs t f,V4.heap[i]?=some (.cells cs t f)) (o4:OnlyT V V4) (s4:StayC V V4) (f4:Front b V V4):
  EvI w W1 b ρ σ x e (l++[s]) ρ4 V4∧KeepsFrom W1.heap.size V V4∧Kp V V4:=by
 refine⟨⟨by rw[eG];exact h4,h.mv.trans (m4.mono (fun _ hr=>nH0 hr)),fun i hB hi=>?_,h.only.trans o4,mO0 h.size m4.touch.size,?_,?_,h.front.trans f4⟩,⟨m4.touch.size,fun i o hB hi ho=>?_⟩,o4,m4.touch.size⟩
 ·by_cases hi2:i<V.heap.size
  ·exact s4 i (h.cells i hB (fun hn=>hi (m4.noRole hi2 hn)))
  ·exact n4 i (by omega) hi
 ·intro i h1 h2;exact m4.noRole (by have:=h.size;omega) (h.low i h1 h2)
 ·rw[bD0 hk hw];exact(m4.touch.block _ (by have:=h.size;omega) (fun ⟨r,h1,_⟩=>by rw[h.low _ (by omega) hw3] at h1;cases h1)).trans h.flg
 ·have hil:=(tO0.1 hi).1;refine(m4.touch.block i hil (fun ⟨r,h1,_⟩=>?_)).trans hi;obtain⟨cs,t,f',hc⟩:=h.cells i hB (by rw[h1];simp)
  rw[hi] at hc;cases hc;simp[Obj.isCells] at ho
theorem EvI.flagged {w W1:World}{b:Nat}{ρ:zA}{σ:Net}{x:Nat}{e:News}{l:List Nat}{ρ':zA}{V:World}{s y:Nat}{f f':Fact}(hw3:w.heap.size+3<W1.heap.size)(h:EvI w W1 b ρ σ x e l ρ' V)(hk':(σ.hears x e l).kn x s=some f')(hw':f'.way=some y)(hk:σ.kn x s=some f)(hw:f.way=some y)(hy:y<6):
  EvI w W1 b ρ σ x e (l++[s]) ρ' (V.setCell ⟨w.heap.size+3,y,none⟩ (.bool true))∧KeepsFrom W1.heap.size V (V.setCell ⟨w.heap.size+3,y,none⟩ (.bool true))∧Kp V (V.setCell ⟨w.heap.size+3,y,none⟩ (.bool true)):=by
 have hT:Touch (fun i=>i=w.heap.size+3) V (V.setCell ⟨w.heap.size+3,y,none⟩ (.bool true)):=(cP0 (fun i=>i=w.heap.size+3) V).setCell (p:=⟨w.heap.size+3,y,none⟩) (fun _=>rfl) _;have hst:(σ.hears x e (l++[s]))=σ.hears x e l:=by
  rw[eG];simp[Net.hear,hk',hw']
 have hnr:∀i,ρ' i≠none→i≠w.heap.size+3:=fun i hi e=>by subst e;exact hi (h.low _ (by omega) hw3)
 have hsz:(V.setCell ⟨w.heap.size+3,y,none⟩ (.bool true)).heap.size=V.heap.size:=by simp[World.setCell]
 have hfl:(V.setCell ⟨w.heap.size+3,y,none⟩ (.bool true)).heap[w.heap.size+3]?=some (.cells (sO σ x (l++[s])) 162):=by
  rw[dP0 _ _ _ _ _ _ h.flg,kH0 hk hw hy]
 have hot:OnlyT V (V.setCell ⟨w.heap.size+3,y,none⟩ (.bool true)):=OnlyT.of_keep fun i cs t h1 h2 h3 _ hi=>by
  refine(hT.block i (tO0.1 hi).1 (fun e=>?_)).trans hi;subst e;rw[h.flg] at hi;cases hi;exact h3 rfl
 refine⟨⟨by rw[hst];exact h.net.keep hT (fun i hi e=>hnr i hi e),⟨⟨hT.os.trans h.mv.touch.os,hT.tape.trans h.mv.touch.tape,hT.output.trans h.mv.touch.output,by rw[hsz];exact h.mv.touch.size,fun i hi hs=>(hT.block i (sO0 hi h.mv.touch.size) (by omega)).trans (h.mv.touch.block i hi hs)⟩,h.mv.role,fun i hi=>by rw[hsz];exact h.mv.lt i hi⟩,
  fun i hB hi=>?_,h.only.trans hot,by rw[hsz];exact h.size,h.low,hfl,h.front.trans (fun o v _ hv=>pA (hT.block b (h.net.lt b (by rw[h.net.net];simp)) (hnr b (by rw[h.net.net];simp))) hv)⟩,⟨by rw[hsz];exact qO0 _,fun i o hB hi ho=>?_⟩,hot,by rw[hsz];exact qO0 _⟩
 ·obtain⟨cs,t,f',hc⟩:=h.cells i hB hi;exact⟨cs,t,f',(hT.block i (tO0.1 hc).1 (hnr i hi)).trans hc⟩
 ·refine(hT.block i (tO0.1 hi).1 (by omega)).trans hi
abbrev qL0 (b x fb n:Nat)(fr:Option Nat)(e:News):Array Value:=#[.pointer (some ⟨b,0,none⟩),int x,int (whr fr),ptr fb,ptr n,ptr (n+1),undef,ptr (n+1+1),ptr (n+1+1+1),undef,undef,undef,.pointer (some ⟨b,0,none⟩),int x,.pointer (some ⟨b,0,none⟩),.pointer (some ⟨b,38,none⟩),.pointer (some ⟨b,38+x*8,none⟩),ptr fb,ptr fb,.pointer (some ⟨fb,14,none⟩),.pointer (some ⟨fb,16,none⟩),.agg #[int e.ev.f0,int e.ev.f1,int e.ev.f2],.func (.func 121) #[] #[ptr (n+4),ptr (n+5)],undef,undef,undef,undef,undef,undef,undef,undef,undef,undef,undef,undef,undef,undef,undef,undef,undef,undef,undef,undef,undef,undef,undef,undef,undef,undef,undef,undef,undef,undef,undef,undef,undef,undef,undef]
abbrev nN0 (b x fb n:Nat)(fr:Option Nat)(e:News)(kb:Nat):Array Value:=#[.pointer (some ⟨b,0,none⟩),int x,int (whr fr),ptr fb,ptr n,ptr (n+1),undef,ptr (n+1+1),ptr (n+1+1+1),ptr kb,undef,undef,.pointer (some ⟨b,0,none⟩),int x,.pointer (some ⟨b,0,none⟩),.pointer (some ⟨b,38,none⟩),.pointer (some ⟨b,38+x*8,none⟩),ptr fb,ptr fb,.pointer (some ⟨fb,14,none⟩),.pointer (some ⟨fb,16,none⟩),.agg #[int e.ev.f0,int e.ev.f1,int e.ev.f2],.func (.func 121) #[] #[ptr (n+4),ptr (n+5)],ptr kb,undef,undef,undef,undef,undef,undef,undef,undef,undef,undef,undef,undef,undef,undef,undef,undef,undef,undef,undef,undef,undef,undef,undef,undef,undef,undef,undef,undef,undef,undef,undef,undef,undef,undef]
abbrev oN0 (b x fb n:Nat)(fr:Option Nat)(e:News)(g:Nat→Bool)(k:Nat)(u:Value):Array Value:=#[.pointer (some ⟨b,0,none⟩),int x,int (whr fr),ptr fb,ptr n,ptr (n+1),undef,ptr (n+1+1),ptr (n+1+1+1),undef,int k,.bool true,.pointer (some ⟨b,0,none⟩),int x,.pointer (some ⟨b,0,none⟩),.pointer (some ⟨b,38,none⟩),.pointer (some ⟨b,38+x*8,none⟩),ptr fb,ptr fb,.pointer (some ⟨fb,14,none⟩),.pointer (some ⟨fb,16,none⟩),.agg #[int e.ev.f0,int e.ev.f1,int e.ev.f2],.func (.func 121) #[] #[ptr (n+4),ptr (n+5)],undef,undef,undef,undef,undef,undef,undef,undef,undef,undef,undef,undef,undef,undef,undef,undef,.agg #[.bool (g 0),.bool (g 1),.bool (g 2),.bool (g 3),.bool (g 4),.bool (g 5)],int k,.bool true,int k,.bool true,.bool true,.bool true,int k,int (whr fr),.bool true,.bool true,.pointer (some ⟨b,0,none⟩),.pointer (some ⟨b,0,none⟩),.pointer (some ⟨b,2,none⟩),int x,int k,ptr fb,.tuple #[],u]
set_option maxRecDepth 100000 in
set_option maxHeartbeats 4000000 in
theorem qP {w:World}{b:Nat}{ρ:zA}{σ:Net}(h:XN w b ρ σ){x:Nat}{fr:Option Nat}(hx:x<σ.n)(hlen:∀y,(σ.q x y).length<2000){m:Nat}(Wm:Warm σ m)(hm:m<2000000000000)
  {e:News} (he:e.lim (m+1)) {fb:Nat} (hf:FrAt w ρ (.event e) fb):
  Calls Tryz.prog 81 #[.pointer (some ⟨b,0,none⟩),int x,int (whr fr),ptr fb] w fun r w'=>r=.returned (.tuple #[])∧∃ρ',XN w' b ρ' (σ.handle x fr (.event e))∧Mv (fun r=>rG x r∨∃y,r=.chan x y) ρ ρ' w w':=by
 have G:=Wm.live.good;have heok:e.ok:=by unfold News.ok;unfold News.lim at he;omega
 have T:=G.tree;have hx6:x<6:=sO0 hx (gB T);have hxi:(x:Int)<6:=by omega
 obtain⟨hr,_,_,_,hf',_⟩:=id hf;rw[pH] at hf';have c16:w.cell? ⟨fb,16,none⟩=some (int e.ev.f0):=xA hf' 16;have c17:w.cell? ⟨fb,17,none⟩=some (int e.ev.f1):=xA hf' 17;have c18:w.cell? ⟨fb,18,none⟩=some (int e.ev.f2):=xA hf' 18;have hfl:=h.lt fb (by rw[hr];simp)
 have HX:=uA h;have HF:=uA hf;have HLEN:=uA hlen;have HC:=uA Wm;have HE:=uA he;clear h hf hf' hlen Wm he;refine(callsIn_wide (n:=4)).1 ?_;refine callsIn_of_wp_marks Tryz.func81 rfl trivial ?_ rfl;simp only[Tryz.ntmps81,List.size_toArray,gO0,List.length_nil,Nat.reduceAdd,Nat.reduceSub,Array.replicate_succ,Array.replicate_zero,List.push_toArray,List.append_toArray,List.nil_append,List.cons_append];gi_wp2
 obtain⟨W0,hW0⟩:∃W0,W0=((((w.alloc (.cells #[.pointer (some ⟨b,0,none⟩)] 42)).alloc (.cells #[int x] 3)).alloc (.cells #[ptr fb] 135)).alloc (.cells #[.bool false,.bool false,.bool false,.bool false,.bool false,.bool false] 162)):=⟨_,rfl⟩;rw[←hW0];have hW0s:W0.heap.size=w.heap.size+4:=by rw[hW0];simp
 have hb3:W0.heap[w.heap.size+3]?=some (.cells #[.bool false,.bool false,.bool false,.bool false,.bool false,.bool false] 162):=by
  rw[hW0];have:=eP0 (((w.alloc (.cells #[.pointer (some ⟨b,0,none⟩)] 42)).alloc (.cells #[int x] 3)).alloc (.cells #[ptr fb] 135)) (.cells #[.bool false,.bool false,.bool false,.bool false,.bool false,.bool false] 162);simpa using this
 have hb2:W0.heap[w.heap.size+2]?=some (.cells #[ptr fb] 135):=by
  rw[hW0,kP0 _ _ _ (by simp only[World.size_alloc];omega)];have:=eP0 ((w.alloc (.cells #[.pointer (some ⟨b,0,none⟩)] 42)).alloc (.cells #[int x] 3)) (.cells #[ptr fb] 135);simpa using this
 have hb1:W0.heap[w.heap.size+1]?=some (.cells #[int x] 3):=by
  rw[hW0,kP0 _ _ _ (by simp only[World.size_alloc];omega),kP0 _ _ _ (by simp only[World.size_alloc];omega)];have:=eP0 (w.alloc (.cells #[.pointer (some ⟨b,0,none⟩)] 42)) (.cells #[int x] 3);simpa using this
 have hb0:W0.heap[w.heap.size]?=some (.cells #[.pointer (some ⟨b,0,none⟩)] 42):=by
  rw[hW0,kP0 _ _ _ (by simp only[World.size_alloc];omega),kP0 _ _ _ (by simp only[World.size_alloc];omega),kP0 _ _ _ (by simp only[World.size_alloc];omega)];exact eP0 w _
 have hcal:qA w W0:=by rw[hW0];exact((((cP0 _ _).alloc _).alloc _).alloc _).alloc _
 have d0:W0.cell? ⟨w.heap.size,0,none⟩=some (.pointer (some ⟨b,0,none⟩)):=xA hb0 0;have d1:W0.cell? ⟨w.heap.size+1,0,none⟩=some (int x):=xA hb1 0;have d2:W0.cell? ⟨w.heap.size+1+1,0,none⟩=some (ptr fb):=xA hb2 0;have e16:=hcal.cell (p:=⟨fb,16,none⟩) id c16;have e17:=hcal.cell (p:=⟨fb,17,none⟩) id c17;have e18:=hcal.cell (p:=⟨fb,18,none⟩) id c18;have HCAL:=uA hcal;have HB0:=uA hb0;have HB1:=uA hb1;have HB2:=uA hb2;have HB3:=uA hb3;clear hW0 hb0 hb1 hb2 hb3 hcal c16 c17 c18;refine wpIn_mono (Q:=Exit.then (fun a' w'=>a'={tmps:=qL0 b x fb w.heap.size fr e,defers:=[]}∧w'=(W0.drew.alloc (.cells #[.pointer (some ⟨b,38+x*8,none⟩)] 174)).alloc (.cells #[int e.ev.f0,int e.ev.f1,int e.ev.f2] 35)) (fun _ _ _=>False)) (wpIn_wide.2 ?reg) ?rest
 case reg=>
  go_region_with (go_at_call 106;refine(yZ b (38+x*8) e.ev.f0 e.ev.f1 e.ev.f2 _).mono ?_;rintro r w1 ⟨rfl,rfl⟩)
  all_goals exact⟨by simp[qL0],rfl⟩
 case rest=>
  rintro ex a' w' hq
  cases ex with
  | ret=>exact hq.elim
  | exit _=>exact hq.elim
  | goto _=>exact hq.elim
  | panic _=>exact hq.elim
  | outgrown=>exact hq.elim
  | normal=>
  obtain⟨rfl,rfl⟩:=hq;obtain⟨W1,hW1⟩:∃W1,W1=(W0.drew.alloc (.cells #[.pointer (some ⟨b,38+x*8,none⟩)] 174)).alloc (.cells #[int e.ev.f0,int e.ev.f1,int e.ev.f2] 35):=⟨_,rfl⟩;rw[←hW1];gi_wp2
  have hW1s:W1.heap.size=w.heap.size+6:=by
   rw[hW1];simp only[World.size_alloc];show W0.heap.size+1+1=_;omega
  have hcal1:qA W0 W1:=by rw[hW1];exact(((cP0 _ _).drew).alloc _).alloc _
  have hb5:W1.heap[w.heap.size+5]?=some (.cells #[int e.ev.f0,int e.ev.f1,int e.ev.f2] 35):=by
   rw[hW1];have:=eP0 (W0.drew.alloc (.cells #[.pointer (some ⟨b,38+x*8,none⟩)] 174)) (.cells #[int e.ev.f0,int e.ev.f1,int e.ev.f2] 35);rw[World.size_alloc,show W0.drew.heap.size=w.heap.size+4 from hW0s] at this;exact this
  have hb4:W1.heap[w.heap.size+4]?=some (.cells #[.pointer (some ⟨b,38+x*8,none⟩)] 174):=by
   rw[hW1,kP0 _ _ _ (by rw[World.size_alloc,show W0.drew.heap.size=w.heap.size+4 from hW0s];omega)];have:=eP0 W0.drew (.cells #[.pointer (some ⟨b,38+x*8,none⟩)] 174);rw[show W0.drew.heap.size=w.heap.size+4 from hW0s] at this;exact this
  clear hW1;have hcw:qA w W1:=bP0 (yA HCAL) hcal1;have hX1:=(yA HX).calm hcw;obtain⟨ft,hst,hsa⟩:=xJ0 hX1 G hx6;have hb0:=(xQ0 hcal1).cells _ _ _ (by decide) (yA HB0);have hb1:=(xQ0 hcal1).cells _ _ _ (by decide) (yA HB1);have hb2:=(xQ0 hcal1).cells _ _ _ (by decide) (yA HB2);have hb3:W1.heap[w.heap.size+3]?=some (.cells #[.bool false,.bool false,.bool false,.bool false,.bool false,.bool false] 162):=(hcal1.block _ (by omega) id).trans (yA HB3);have hseq:SeqStopsK (α:=A8 (fun a=>a.1<8∧∃f kv,ft a.1=some (f,a.2,kv)∧lC f.fl e.ev=true)) Fence.wide 3 Tryz.prog 121 #[ptr (w.heap.size+4),ptr (w.heap.size+5)] (fun a=>#[ptr a.1.2]) Kp (fun xs=>xs.map (·.1)=gE ft e.ev 8) (fun _=>True) 9 W1:=by
   intro l J Jx V hbl hJ _ hY h0;refine(xZ (fun a=>a.1<8∧∃f kv,ft a.1=some (f,a.2,kv)∧lC f.fl e.ev=true) 3 (by omega) l b (38+x*8) (w.heap.size+4) (w.heap.size+5) ft e.ev (fun s f kb kv hs hft hmt=>⟨hs,f,kv,hft,hmt⟩) J Jx hY V hJ ?_ ?_ ?_ h0)
   ·have:W1.cell? ⟨w.heap.size+4,0,none⟩=some (.pointer (some ⟨b,38+x*8,none⟩)):=xA hb4 0;exact pA (hbl.block _ (by omega)) this
   ·exact(hbl.block _ (by omega)).trans hb5
   ·exact⟨fun s hs=>pA (hbl.block _ (hX1.lt b (by rw[hX1.net];simp))) (hsa.cell s hs),fun s f kb kv hft=>⟨(hbl.block _ (tO0.1 (hsa.fact s f kb kv hft).1).1).trans (hsa.fact s f kb kv hft).1,(hsa.fact s f kb kv hft).2⟩⟩
  have HX1:=uA hX1;have HSA:=uA hsa;have HST:=uA hst;have hCW:=uA hcw;have H0:=uA hb0;have H1:=uA hb1;have H2:=uA hb2;have H3:=uA hb3;clear hX1 hsa hst hcw hb0 hb1 hb2 hb3 hb4 hb5 hcal1 HB0 HB1 HB2 HB3 HCAL d0 d1 d2 e16 e17 e18;refine wpIn_rangeFunc_ownG (n:=4) rfl (by omega) (gf:=121) (lb:=#[ptr (w.heap.size+4),ptr (w.heap.size+5)]) rfl trivial (enters_of Tryz.func121 (by kernel_rfl) rfl) hseq (fun h k=>h.trans k) (fun V l o o' _ hl ho _=>Kp.putObj hl ho) (Below.refl _ _) (fun _=>rfl)
   (fun pre V=>∃ρ',EvI w W1 b ρ σ x e (pre.map (·.1.1)) ρ' V) (fun _ _ _=>False) ?hI (fun _ _ _ _ _ hs _ _=>hs) ?h0 (fun a=>{tmps:=nN0 b x fb w.heap.size fr e a.1.2,defers:=[]}) ?assign ?body ?done ?stop
  case hI=>
   rintro pre V V' row ⟨ρ',hh⟩ hg hrow
   exact⟨ρ',hh.own (by omega) hg hrow⟩
  case h0=>
   refine⟨ρ,yA HX1,zQ0 (yA HX).lt (yA hCW),fun k hB hk=>?_,OnlyT.refl _,qO0 _,?_,yA H3,Front.refl _ _⟩
   ·have:=(yA HX).lt k hk;omega
   ·intro k h1 h2;cases hh:ρ k with
    | none=>rfl
    | some r=>have:=(yA HX).lt k (by rw[hh];simp);omega
  case assign=>
   intro l a V K hK;gi_wp2
   exact hK
  case body=>
   rintro l pre ⟨⟨s,kb⟩,hs8,f,kv,hft,hmt⟩ V ⟨ρ',hI⟩ hlt
   simp only at hs8 hft;have hkn0:σ.kn x s=some f:=by have:=yA HST s hs8;rw[hft] at this;exact this
   have hsk:2*(s/2)+s%2=s:=by omega
   have hpl:(pre.map (·.1.1)).length<9:=by simpa using hlt
   have hW':Warm (σ.hears x e (pre.map (·.1.1))) (m+9):=by
    have h1:=Warm.hears hx6 (pre.map (·.1.1)) (yA HC) (yA HE) (fun t ht=>by
     obtain⟨a,_,rfl⟩:=List.mem_map.1 ht
     exact a.2.1)
    obtain⟨E,e1,e2⟩:=h1.news;exact⟨h1.live,h1.slack.weak (qO0 _) (by omega),h1.nums.weak (by omega),E,e1,fun o ho=>(e2 o ho).weak (by omega)⟩
   obtain⟨f',hkn',hco⟩:∃f',(σ.hears x e (pre.map (·.1.1))).kn x s=some f'∧f'.co=f.co:=by
    have h1:=fK0 x e (pre.map (·.1.1)) σ x s;rw[hkn0] at h1;cases hq:(σ.hears x e (pre.map (·.1.1))).kn x s with
    | none=>rw[hq] at h1;cases h1
    | some g=>rw[hq] at h1;exact⟨g,rfl,bO0 h1⟩
   have hfl':f'.fl=f.fl:=congrArg Co.fl hco;have hwy':f'.way=f.way:=congrArg Co.way hco;obtain⟨cs',hkb,hkj⟩:=hI.only.known kb _ ((yA HSA).fact s f kb kv hft).1;have k13:V.cell? ⟨kb,13,none⟩=some (int (whr f.way)):=by rw[xA hkb,hkj 13 (by omega)];rfl
   have b0:V.cell? ⟨w.heap.size,0,none⟩=some (.pointer (some ⟨b,0,none⟩)):=xA (hI.only.cells _ _ 42 (by decide) (yA H0)) 0;have b1:V.cell? ⟨w.heap.size+1,0,none⟩=some (int x):=xA (hI.only.cells _ _ 3 (by decide) (yA H1)) 0;have b2:V.cell? ⟨w.heap.size+1+1,0,none⟩=some (ptr fb):=xA (hI.only.cells _ _ 135 (by decide) (yA H2)) 0;have hptr:V.cell? ⟨b,38+x*8+s/2*2+s%2,none⟩=some (ptr kb):=by
    have h1:=(yA HSA).cell s hs8;rw[show dD ft s=ptr kb by simp[dD,dM,hft]] at h1;rw[show 38+x*8+s/2*2+s%2=38+x*8+s by omega];exact hI.front _ _ (by omega) h1
   have hfb:FrAt V ρ' (.event e) fb:=(yA HF).mv (yA HX).lt hI.mv (by simp[rG]) (by simp[rG]);have HI':=uA hI;have HFB:=uA hfb;have HW':=uA hW';have HPT:=uA hptr;have HKN':=uA hkn';have HKN0:=uA hkn0;clear hI hfb hW' hptr hkb hkj hkn' hkn0;cases hway:f.way with
   | none=>
    rw[hway] at k13 hwy';replace k13:V.cell? ⟨kb,13,none⟩=some (int (-1)):=k13;have hkL:=(yA HW').keptLe hx6 hs8 (yA HKN');have hkF:=(yA HW').nums.kn _ _ _ (yA HKN');have hkM:=((yA HW').live.good.facts _ _ _ (yA HKN')).more;have hkMo:=hkF.more;have hkS:=hkF.six;gi_wp2_with (refine⟨trivial,?_⟩;gi_at_call 107;refine(CallsIn.inRound l (callsIn_wide.2 (tocX (ρ:=ρ') (σ:=σ.hears x e (pre.map (·.1.1))) (x:=x) (c:=s/2) (k:=s%2) (e:=e) (f:=f') (yA HI').net hx6 (by omega) (by omega) heok (by rw[hsk];exact yA HKN') (yA HPT) (by rw[hfl'];exact hmt) hwy' (fun hh hwt=>(yA HW').told (by omega) hs8 (yA HKN') hwy' hh hwt) (by omega) hkS (by omega) (yA HFB)))).mono ?_;rintro r V4 ⟨rfl,ρ4,h4,m4,n4,o4,s4,f4⟩)
    rw[hsk] at h4;obtain⟨r1,r2,r3⟩:=(yA HI').heard (by omega) (yA HKN0) hway h4 m4 n4 o4 s4 f4;exact⟨by rw[←hW1s];exact r2,r3,ρ4,by simpa using r1⟩
   | some y=>
    rw[hway] at k13 hwy';replace k13:V.cell? ⟨kb,13,none⟩=some (int y):=k13;have hyn:=(G.facts x s f (yA HKN0)).way y hway;have hy6:=(dB T hyn).2;have hyi:(y:Int)<6:=by omega
    have hym:¬((y:Int)=-1):=by omega
    have fcell:V.cell? ⟨w.heap.size+1+1+1,y,none⟩=some (.bool (flag σ x (pre.map (·.1.1)) y)):=(xA (yA HI').flg y).trans (uL0 _ _ _ hy6);have ffr:V.frozen? ⟨w.heap.size+1+1+1,y,none⟩=false:=bA (yA HI').flg y;obtain⟨r1,r2,r3⟩:=(yA HI').flagged (by omega) (yA HKN') hwy' (yA HKN0) hway hy6;have R1:=uA r1;have R2:=uA r2;have R3:=uA r3;clear r1 r2 r3;gi_wp2
    exact⟨by rw[←hW1s];exact yA R2,yA R3,ρ',by simpa using yA R1⟩
  case done=>
   rintro D xs V hD hS ⟨ρ',hI⟩ hK
   have hmap:xs.map (·.1.1)=(gE ft e.ev 8).map (·.1):=by rw[←hS,List.map_map];rfl
   have hst:=cN (e:=e) (yA HST) 8 (qO0 _);have hnet:=hI.net;have hfl:=hI.flg;rw[hmap] at hnet hfl;rw[←hst] at hnet;obtain⟨kp1,kp2,_⟩:=uF x e (List.range 8) σ;obtain⟨g,hgd⟩:∃g:Nat→Bool,g=flag σ x ((gE ft e.ev 8).map (·.1)):=⟨_,rfl⟩;have hgnear:∀y,(decide (some y≠fr) && g y)=true→y<6→iB σ.par x y=true:=fun y hy hy6=>by
    refine(rF G (e:=e) (fr:=fr) (y:=y) ?_).1;rw[qN (yA HST),dO0,←hgd];exact⟨yP0.2 hy6,hy⟩
   have f0:V.cell? ⟨w.heap.size+1+1+1,0,none⟩=some (.bool (g 0)):=by rw[hgd];exact xA hfl 0
   have f1:V.cell? ⟨w.heap.size+1+1+1,1,none⟩=some (.bool (g 1)):=by rw[hgd];exact xA hfl 1
   have f2:V.cell? ⟨w.heap.size+1+1+1,2,none⟩=some (.bool (g 2)):=by rw[hgd];exact xA hfl 2
   have f3:V.cell? ⟨w.heap.size+1+1+1,3,none⟩=some (.bool (g 3)):=by rw[hgd];exact xA hfl 3
   have f4:V.cell? ⟨w.heap.size+1+1+1,4,none⟩=some (.bool (g 4)):=by rw[hgd];exact xA hfl 4
   have f5:V.cell? ⟨w.heap.size+1+1+1,5,none⟩=some (.bool (g 5)):=by rw[hgd];exact xA hfl 5
   have b0:V.heap[w.heap.size]?=some (.cells #[.pointer (some ⟨b,0,none⟩)] 42):=hI.only.cells _ _ 42 (by decide) (yA H0);have b1:V.heap[w.heap.size+1]?=some (.cells #[int x] 3):=hI.only.cells _ _ 3 (by decide) (yA H1);have b2:V.heap[w.heap.size+2]?=some (.cells #[ptr fb] 135):=hI.only.cells _ _ 135 (by decide) (yA H2);have hfb:FrAt V ρ' (.event e) fb:=(yA HF).mv (yA HX).lt hI.mv (by simp[rG]) (by simp[rG]);have hDn:ρ' D=none:=by
    cases hh:ρ' D with
    | none=>rfl
    | some r=>
     obtain⟨cs,t,f',hc⟩:=hI.cells D hD (by rw[hh];simp)
     rw[hK] at hc;cases hc
   have hfin:kF (σ.hears x e (List.range 8)) x fr g (.event e) 6=σ.handle x fr (.event e):=by
    simp only[Net.handle,Net.happens,kF,qN (yA HST),←hgd];rfl
   have HFIN:=uA hfin;have HNET:=uA hnet;have HI':=uA hI;have HK:=uA hK;have HB0:=uA b0;have HB1:=uA b1;have HB2:=uA b2;have HFB:=uA hfb;have HDN:=uA hDn;clear hfin hnet hI hK b0 b1 b2 hfb hDn hst hfl hmap hS hgd;gi_wp2
   clear f0 f1 f2 f3 f4 f5;gi_loopw [40] (fun p wr=>∃k:Nat,k≤6∧p=int k∧XN wr b ρ' (kF (σ.hears x e (List.range 8)) x fr g (.event e) k)∧Mv (fun o=>∃y,o=.chan x y) ρ' ρ' V wr) (fun p _=>6-(intOf p).toNat)
   case atStart=>exact⟨0,by omega,rfl,yA HNET,aP0 (yA HNET).lt⟩
   case round=>
    obtain⟨k,hk,rfl,hXk,hMk⟩:=hrel;have hsu:=gZ (σ.hears x e (List.range 8)) x fr g (.event e) k;have hkeepN:∀i,i<V.heap.size→ρ' i=none→wr.heap[i]?=V.heap[i]?:=fun i hi hn=>hMk.touch.block i hi (fun ⟨r,h1,_⟩=>by rw[hn] at h1;cases h1)
    have HXK:=uA hXk;have HMK:=uA hMk;have HSU:=uA hsu;have HKN:=uA hkeepN;clear hXk hMk hsu hkeepN;by_cases hlt6:k<6
    ·have hki:(k:Int)<6:=by omega
     have hix:=fun w=>idx162 g k hlt6 w;simp only[six] at hix;cases hgk:g k with
     | false=>
      rw[hgk] at hix;gi_wp2
      refine⟨⟨k+1,by omega,by go_num,?_,yA HMK⟩,by simp[intOf];omega⟩;rw[yA HSU,hgk,Bool.and_false];exact yA HXK
     | true=>
      rw[hgk] at hix;cases hd:decide (some k≠fr) with
      | false=>
       have hneq:((k:Int) != whr fr)=false:=by rw[zX,hd]
       gi_wp2
       refine⟨⟨k+1,by omega,by go_num,?_,yA HMK⟩,by simp[intOf];omega⟩;rw[yA HSU,hd,Bool.false_and];exact yA HXK
      | true=>
       have hneq:((k:Int) != whr fr)=true:=by rw[zX,hd]
       gi_wp2
       have hok:(decide (some k≠fr) && g k)=true:=by rw[hd,hgk];rfl
       have hnb:=hgnear k hok hlt6;have hV0:w.heap.size+6≤V.heap.size:=by have:=(yA HI').size;omega
       have hV:=fun i (h1:w.heap.size≤i) (h2:i<W1.heap.size)=>yA HKN i (by omega) ((yA HI').low i h1 h2);have d0:wr.cell? ⟨w.heap.size,0,none⟩=some (.pointer (some ⟨b,0,none⟩)):=xA ((hV _ (by omega) (by omega)).trans (yA HB0)) 0;have d1:wr.cell? ⟨w.heap.size+1,0,none⟩=some (int x):=xA ((hV _ (by omega) (by omega)).trans (yA HB1)) 0;have d2:wr.cell? ⟨w.heap.size+1+1,0,none⟩=some (ptr fb):=xA ((hV _ (by omega) (by omega)).trans (yA HB2)) 0;have hfbk:=(yA HFB).mv (yA HNET).lt (yA HMK) (by simp) (by simp);have hql:((kF (σ.hears x e (List.range 8)) x fr g (.event e) k).q x k).length<2000:=by rw[rJ0 _ _ _ _ _ _ _ _ (qO0 _),kp2];exact yA HLEN k
       have hpar:(kF (σ.hears x e (List.range 8)) x fr g (.event e) k).par=σ.par:=by rw[dC0];exact kp1
       have HFBK:=uA hfbk;clear hV hfbk;refine wpIn_mono (Q:=Exit.then (fun a' w'=>a'={tmps:=oN0 b x fb w.heap.size fr e g k u57,defers:=[{target:=Target.collected D,args:=#[]}]}∧XN w' b ρ' ((kF (σ.hears x e (List.range 8)) x fr g (.event e) k).push x k (.event e))∧Mv (fun o=>∃y,o=.chan x y) ρ' ρ' V w') (fun _ _ _=>False)) (wpIn_wide.2 ?reg2) ?rest2
       case reg2=>
        go_region_with (go_at_call 101;refine(sJ0 (x:=x) (y:=k) (f:=.event e) (fb:=fb) ((yA HXK).calm (cP0 _ _).drew) hx6 hlt6 (by rw[hpar];exact hnb) hql ((yA HFBK).calm (yA HXK).lt (cP0 _ _).drew)).mono ?_;rintro r w3 ⟨rfl,hX3,hM3⟩)
        all_goals exact⟨rfl,hX3,(yA HMK).trans ((zQ0 (yA HXK).lt (cP0 _ _).drew).trans (hM3.mono (fun r hr=>⟨k,hr⟩)))⟩
       case rest2=>
        rintro ex a' w' hq
        cases ex with
        | ret=>exact hq.elim
        | exit _=>exact hq.elim
        | goto _=>exact hq.elim
        | panic _=>exact hq.elim
        | outgrown=>exact hq.elim
        | normal=>
        obtain⟨rfl,hX3,hM3⟩:=hq;have HX3:=uA hX3;have HM3:=uA hM3;clear hX3 hM3 d0 d1 d2;gi_wp2
        refine⟨⟨k+1,by omega,by go_num,?_,yA HM3⟩,by simp[intOf];omega⟩;rw[yA HSU,hok];exact yA HX3
    ·have hki:¬(k:Int)<6:=by omega
     have hk6:k=6:=by omega
     subst hk6;gi_wp2
     have hKD:wr.heap[D]?=some (.deferred (some [])):=(yA HKN D (tO0.1 (yA HK)).1 (yA HDN)).trans (yA HK);refine⟨by simp,.inl ⟨_,_,rfl,run_takeDeferred hKD,?_⟩⟩;have hT:Touch (fun i=>i=D) wr (wr.putObj D (.deferred none)):=⟨rfl,rfl,rfl,by simp[World.putObj],fun i hi hs=>by simp only[World.putObj];rw[Array.getElem?_setIfInBounds_ne (Ne.symm hs)]⟩;have hXF:=(yA HXK).keep hT (fun i hi e=>by subst e;exact hi (yA HDN));rw[yA HFIN] at hXF;have hMF:Mv (fun r=>rG x r∨∃y,r=.chan x y) ρ ρ' w (wr.putObj D (.deferred none)):=by
      have m1:=((yA HI').mv.mono (fun r hr=>Or.inl hr)).trans ((yA HMK).mono (S':=fun r=>rG x r∨∃y,r=.chan x y) (fun r hr=>Or.inr hr));have hDw:w.heap.size≤D:=by omega
      exact⟨⟨hT.os.trans m1.touch.os,hT.tape.trans m1.touch.tape,hT.output.trans m1.touch.output,mO0 m1.touch.size hT.size,fun i hi hs=>(hT.block i (sO0 hi m1.touch.size) (by omega)).trans (m1.touch.block i hi hs)⟩,m1.role,fun i hi=>sO0 (m1.lt i hi) hT.size⟩
     exact⟨_,results_none rfl _ _ _,rfl,ρ',hXF,hMF⟩
  case stop=>
   rintro D c pre V _ _ hh _
   exact hh.elim
end Go.Proofs.YtodfcpblcpogiaaGreat

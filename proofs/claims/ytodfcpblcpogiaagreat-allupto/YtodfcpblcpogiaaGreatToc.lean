import Derived.Test.YtodfcpblcpogiaaGreatSub
namespace Go.Proofs.YtodfcpblcpogiaaGreat
open Go.RowKit
set_option maxRecDepth 100000 in
set_option maxHeartbeats 1000000 in
theorem uH0 (kb cap:Nat)(a:Option Addr)(mo n0 n1 n2 n3 n4 n5 n6 n7:Int)(w:World)(h14:w.cell? ⟨kb,14,none⟩=some (.bool false))(h15:w.cell? ⟨kb,15,none⟩=some (.slice a 6 cap))(h16:w.cell? ⟨kb,16,none⟩=some (int mo))(hfr:∀o,w.frozen? ⟨kb,o,none⟩=false):
  Calls Tryz.prog 123 #[ptr kb,.agg #[int n0,int n1,int n2,int n3,int n4,int n5,int n6,int n7]] w fun e w'=>e=.returned (.tuple #[])∧qA (w.setCell ⟨kb,16,none⟩ (int (wrap64 (mo+1)))) w':=by
 have hb:=fP0 h14;simp only at hb;go_enter Tryz.func123,Tryz.ntmps123
 go_wp2;refine bodyPost_ret (v:=.tuple #[]) (by simp[results,Tryz.results123,go_sem]) rfl ⟨rfl,(cP0 _ _).alloc _⟩
theorem aA0 {m:Nat}(_h:m<2199023255552):goInt (m:Int)=int m:=by
 simp only[goInt]
theorem aM0 {w:World}{base:Nat}{e:TypeId}{size m:Nat}{kv:Value}{cells:List Value}(h:w.ownsRow base e size kv m cells)(hm:m<2199023255552)(W:World):(Builtin.len_ #[138] 3 #[kv]).run Tryz.prog W=.ok (int m) W:=by
 rcases h.2 with⟨rfl,rfl⟩ | ⟨g,cap,cur,rfl,_⟩
 ·simp[Builtin.len_,run_underlying Tryz.underlying138];rfl
 ·simp[Builtin.len_,run_underlying Tryz.underlying138,aA0 hm]
set_option maxRecDepth 100000 in
set_option maxHeartbeats 1000000 in
theorem vH0 (kb m:Nat)(kv:Value)(cells:List Value)(wt:Bool)(n0 n1 n2 n3 n4 n5 n6 n7:Int)(w:World)(h14:w.cell? ⟨kb,14,none⟩=some (.bool wt))(h15:w.cell? ⟨kb,15,none⟩=some kv)(hfr:∀o,w.frozen? ⟨kb,o,none⟩=false)
    (hroom:wt=true∨m≠6) (hrow:w.ownsRow 0 181 8 kv m cells) (hmm:m<2199023255552) (hvb:kv.ownBlock≠some kb):
    Calls Tryz.prog 123 #[ptr kb,.agg #[int n0,int n1,int n2,int n3,int n4,int n5,int n6,int n7]] w fun e w'=>e=.returned (.tuple #[])∧
      ∃w1 w2 g cap,qA w w1∧xF 0 181 8 kv (m+1) (cells++[int n0,int n1,int n2,int n3,int n4,int n5,int n6,int n7]) w1 g cap w2∧w'=w2.setCell ⟨kb,15,none⟩ (.slice (some ⟨g,0,none⟩) (m+1) cap):=by
  have hb:=fP0 h14;simp only at hb;obtain⟨W,hW⟩:∃W,w.alloc (.cells #[int n0,int n1,int n2,int n3,int n4,int n5,int n6,int n7] 181)=W:=⟨_,rfl⟩;have hcal:qA w W:=by rw[←hW];exact(cP0 _ _).alloc _
  have hb0:W.heap[w.heap.size]?=some (.cells #[int n0,int n1,int n2,int n3,int n4,int n5,int n6,int n7] 181):=by rw[←hW];exact eP0 w _
  have c0:W.cell? ⟨w.heap.size,0,none⟩=some (int n0):=xA hb0 0;have c1:W.cell? ⟨w.heap.size,1,none⟩=some (int n1):=xA hb0 1;have c2:W.cell? ⟨w.heap.size,2,none⟩=some (int n2):=xA hb0 2;have c3:W.cell? ⟨w.heap.size,3,none⟩=some (int n3):=xA hb0 3;have c4:W.cell? ⟨w.heap.size,4,none⟩=some (int n4):=xA hb0 4;have c5:W.cell? ⟨w.heap.size,5,none⟩=some (int n5):=xA hb0 5;have c6:W.cell? ⟨w.heap.size,6,none⟩=some (int n6):=xA hb0 6;have c7:W.cell? ⟨w.heap.size,7,none⟩=some (int n7):=xA hb0 7;have d14:=hcal.cell (p:=⟨kb,14,none⟩) id h14;have d15:=hcal.cell (p:=⟨kb,15,none⟩) id h15;have hWs:W.heap.size=w.heap.size+1:=by rw[←hW];simp
  have hfz:∀o',W.frozen? ⟨kb,o',none⟩=false:=fun o'=>(nP0 (w:=w) (a:=⟨kb,o',none⟩) (hcal.block kb hb id)).trans (hfr o');have hone:kv.oneCell'=true:=by
    rcases hrow.2 with⟨rfl,_⟩ | ⟨g,cap,cur,rfl,_⟩<;>rfl
  have hz:(Builtin.len_ #[138] 3 #[kv]).run Tryz.prog W=.ok (int m) W:=aM0 hrow hmm W;have hbW:kb<W.heap.size:=by omega
  have hwW:w.heap.size<W.heap.size:=by omega
  have HWS:=uA hWs;have HR:=uA hrow;have HC:=uA hcal;have HFZ:=uA hfz;clear hWs hrow hb0 hcal hfz h14 h15 hfr;obtain⟨ti,i3,z3,s3,b3⟩:=mN0;have I3:=uA i3;have Z3:=uA z3;have S3:=uA s3;have B3:=uA b3;clear i3 z3 s3 b3;have hcase:(wt=true)∨(wt=false∧((m:Int) == 6)=false):=by
    rcases hroom with h | h
    · exact Or.inl h
    · cases wt
      · exact Or.inr ⟨rfl,by simp;omega⟩
      · exact Or.inl rfl
  rcases hcase with rfl | ⟨rfl,h6⟩
  all_goals
    go_enter Tryz.func123,Tryz.ntmps123
    go_wp2;clear hW
    go_region_law (first
        | (refine kB _ rfl _ _ 138 rfl 0 181 ti (.agg #[int 0,int 0,int 0,int 0,int 0,int 0,int 0,int 0]) 8 64 Tryz.underlying138 (yA I3) (yA Z3) (yA S3) (yA B3) rfl (by decide) kv m cells rfl ?own ⟨W.heap.size,0,none⟩ 1 1 [int n0,int n1,int n2,int n3,int n4,int n5,int n6,int n7] rfl rfl ?news ?one (by decide) ?h63 ?bytes ?base ?_
           case own=>exact eA (yA HR) ((((yA HC)).alloc _).drew) (fun _ _ f=>f)
           case news=>intro j u hj;exact yC W [int n0,int n1,int n2,int n3,int n4,int n5,int n6,int n7] 181 j u hj
           case one=>intro u hu;simp at hu;rcases hu with rfl | rfl | rfl | rfl | rfl | rfl | rfl | rfl<;>rfl
           case h63=>unfold maxLen;omega
           case bytes=>omega
           case base=>simp
           intro g2 cp2 w2 hg2;have hne:¬kb=g2:=by
             rcases hg2.2.1 with⟨h,_⟩ | ⟨h,_⟩
             · intro e;exact hvb (by rw[h,e])
             · have:=yA HWS;simp at h;omega
           have ht2:Touch (fun i=>i=g2) W w2:=by
             rcases hg2.2.1 with⟨_,h⟩ | ⟨_,h⟩
             · exact bP0 (((cP0 _ _).alloc _).drew) h
             · exact(((cP0 (fun i=>i=g2) W).alloc _).drew).calm h
           have dl2:w2.cell? ⟨kb,15,none⟩=some kv:=ht2.cell (p:=⟨kb,15,none⟩) hne d15;have fz2:w2.frozen? ⟨kb,15,none⟩=false:=(nP0 (w:=W) (a:=⟨kb,15,none⟩) (ht2.block kb (by have:=yA HWS;omega) hne)).trans (yA HFZ _);have HG2:=uA hg2
           clear hg2 ht2))
    all_goals first | go_end0 | go_ret2 | go_ret
    all_goals
      exact⟨rfl,_,w2,g2,cp2,(((yA HC).alloc _).drew),yA HG2,rfl⟩
def keepR (x s:Nat)(r:Role):Prop:=r=.known x s∨r=.kept x s
def iS (x c k:Nat)(r:Role):Prop:=eB c k r∨keepR x (2*c+k) r
theorem XN.turnKn {w W:World}{b:Nat}{ρ ρ':zA}{σ:Net}(h:XN w b ρ σ){x c k kb:Nat}(hx:x<6)(hc:c<4)(hk:k<2){f':Fact}{kv':Value}(hptr:w.cell? ⟨b,38+x*8+c*2+k,none⟩=some (ptr kb))(hrb:ρ kb=some (.known x (2*c+k)))
  (m:Mv (keepR x (2*c+k)) ρ ρ' w W) (hblk:W.heap[kb]?=some (.cells (eD (2*c+k) f' kv').toArray 176)) (hrow:RowAt W ρ' (.kept x (2*c+k)) 181 8 f'.kept.length (f'.kept.flatMap (rC ((2*c+k)%2))) kv'):XN W b ρ' (σ.know x (2*c+k) (some f')):=by
 have hb:=Mv.keeps h.lt m h.net (by simp[keepR]);refine h.step m (fun _=>False) (by rw[hb.1];exact h.typ) (fun o=>(nP0 (w:=w) (a:=⟨b,o,none⟩) hb.1).trans (h.fr o)) (fun o v _ hv=>pA hb.1 hv) rfl rfl id id (by simp[keepR]) (by simp[keepR]) (by simp[keepR])
  (fun u v _ _=>Or.inl ⟨rfl,id,by simp[keepR]⟩) (fun u d j hu hd hj=>?_) (fun d hd=>Or.inl ⟨rfl,fun o _ _=>id,fun _=>by simp[keepR],by simp[keepR]⟩)
 by_cases e:u=x∧2*d+j=2*c+k
 ·right
  obtain⟨rfl,e⟩:=e;have:d=c:=by omega
  have:j=k:=by omega
  subst_vars;refine⟨_,pA hb.1 hptr,?_⟩;simp only[Net.know,put2_same];exact⟨kb,kv',rfl,(Mv.keeps' h.lt m hrb).trans hrb,hblk,hrow⟩
 ·left
  refine⟨by simp only[Net.know,jA _ _ e],id,?_,?_⟩
  ·simp only[keepR,Role.known.injEq,reduceCtorEq,or_false];exact e
  ·simp only[keepR,Role.kept.injEq,reduceCtorEq,false_or];exact e
def iN (f:Fact)(e:News):Fact:=if (f.waits || decide (f.kept.length<6))=true then {f with kept:=f.kept++[e]} else {f with more:=f.more+1}
theorem RowAt.lt {w:World}{ρ:zA}{r:Role}{e:TypeId}{size n:Nat}{cells:List Value}{v:Value}(h:RowAt w ρ r e size n cells v){g:Nat}(hg:v.ownBlock=some g):g<w.heap.size∧∃cur,w.heap[g]?=some (.cells cur e):=by
 rcases h.1.2 with⟨rfl,_⟩ | ⟨g',cap,cur,rfl,_,h2,_⟩
 ·cases hg
 ·cases hg;exact⟨(tO0.1 h2).1,cur,h2⟩
set_option maxHeartbeats 400000 in
theorem keepX {w:World}{b:Nat}{ρ:zA}{σ:Net}(h:XN w b ρ σ){x c k kb:Nat}(hx:x<6)(hc:c<4)(hk:k<2){f:Fact}(hkn:σ.kn x (2*c+k)=some f)(hptr:w.cell? ⟨b,38+x*8+c*2+k,none⟩=some (ptr kb))
  {e:News} (hlen:f.kept.length<2199023255552) (hsix:f.waits=false→f.kept.length≤6) (hmo:0≤f.more∧f.more<2199023255552):
  Calls Tryz.prog 123 #[ptr kb,.agg #[int k,int 0,int e.ev.pub,int e.ev.num,int e.ev.f0,int e.ev.f1,int e.ev.f2,int e.stay]] w fun r w'=>r=.returned (.tuple #[])∧
   ∃ρ',XN w' b ρ' (σ.know x (2*c+k) (some (iN f e)))∧Mv (keepR x (2*c+k)) ρ ρ' w w'∧(∀i,w.heap.size≤i→ρ' i≠none→∃cs t f,w'.heap[i]?=some (.cells cs t f))∧OnlyT w w'∧StayC w w'∧Front b w w':=by
 obtain⟨v,hv1,hv2⟩:=h.known x c k hx hc hk;rw[hkn] at hv2;obtain⟨kb',kv,rfl,hrb,hblk,hrow⟩:=hv2;have:kb'=kb:=by rw[hptr] at hv1;cases hv1;rfl
 subst this;have hkbl:=h.lt kb' (by rw[hrb];simp)
 have c14:w.cell? ⟨kb',14,none⟩=some (.bool f.waits):=xA hblk 14;have c15:w.cell? ⟨kb',15,none⟩=some kv:=xA hblk 15;have c16:w.cell? ⟨kb',16,none⟩=some (int f.more):=xA hblk 16;have hfr:∀o,w.frozen? ⟨kb',o,none⟩=false:=fun o=>bA hblk o;by_cases hroom:(f.waits || decide (f.kept.length<6))=true
 ·have hF:iN f e={f with kept:=f.kept++[e]}:=by simp only[iN,hroom,if_true]
  rw[hF];have hvb:kv.ownBlock≠some kb':=fun he=>by have:=hrow.2 kb' he;rw[hrb] at this;cases this
  refine(vH0 kb' f.kept.length kv _ f.waits _ _ _ _ _ _ _ _ w c14 c15 hfr ?_ hrow.1 hlen hvb).mono ?_
  ·simp only[Bool.or_eq_true,oP0] at hroom;exact hroom.imp id (fun h=>by omega)
  ·rintro r w' ⟨rfl,w1,w2,g,cap,t1,hg,rfl⟩
   refine⟨rfl,iA ρ g (.kept x (2*c+k)),?_⟩;obtain⟨gown,gt,glt⟩:=hg;have hgr:(ρ g=some (.kept x (2*c+k))∧kv.ownBlock=some g)∨w.heap.size≤g:=by
    rcases gt with⟨hv,_⟩ | ⟨hv,_⟩
    ·exact Or.inl ⟨hrow.2 g hv,hv⟩
    ·right;rw[hv];exact t1.size
   have hgk:g≠kb':=by
    rcases hgr with⟨h1,_⟩ | h1
    ·intro e1;subst e1;rw[hrb] at h1;cases h1
    ·omega
   have t2:Touch (fun i=>i=g) w1 w2:=by
    rcases gt with⟨_,t⟩ | ⟨_,t⟩
    ·exact t
    ·exact t.mono (fun _ _ f=>f.elim)
   have hkeep:∀i,i<w.heap.size→i≠g→w2.heap[i]?=w.heap[i]?:=fun i hi h2=>(t2.block i (sO0 hi t1.size) h2).trans (t1.block i hi id);obtain⟨W,hW⟩:∃W,W=w2.setCell ⟨kb',15,none⟩ (.slice (some ⟨g,0,none⟩) (f.kept.length+1) cap):=⟨_,rfl⟩;rw[←hW];have hWk:∀i,i≠kb'→W.heap[i]?=w2.heap[i]?:=fun i hi=>by rw[hW];exact zB w2 _ hi
   have hWs:W.heap.size=w2.heap.size:=by rw[hW];simp[World.setCell]
   have hblk2:w2.heap[kb']?=some (.cells (eD (2*c+k) f kv).toArray 176):=(hkeep kb' hkbl (Ne.symm hgk)).trans hblk;have hblkW:W.heap[kb']?=some (.cells (eD (2*c+k) {f with kept:=f.kept++[e]} (.slice (some ⟨g,0,none⟩) (f.kept.length+1) cap)).toArray 176):=by
    rw[hW,dP0 _ _ _ _ _ _ hblk2];rfl
   have hrole:∀i,i<w.heap.size→iA ρ g (.kept x (2*c+k)) i=ρ i:=fun i hi=>by
    unfold iA;split
    ·rename_i e1;subst e1
     rcases hgr with⟨h1,_⟩ | h1
     ·exact h1.symm
     ·omega
    ·rfl
   have hmv:Mv (keepR x (2*c+k)) ρ (iA ρ g (.kept x (2*c+k))) w W:=by
    refine⟨⟨?_,?_,?_,?_,fun i hi hs=>?_⟩,fun i hi=>Or.inl (hrole i hi),fun i hi=>?_⟩
    ·rw[hW];exact t2.os.trans t1.os
    ·rw[hW];exact t2.tape.trans t1.tape
    ·rw[hW];exact t2.output.trans t1.output
    ·rw[hWs];exact mO0 t1.size t2.size
    ·have h1:i≠kb':=fun e1=>hs ⟨_,by rw[e1];exact hrb,Or.inl rfl⟩;have h3:i≠g:=fun e1=>by
      subst e1;rcases hgr with⟨h3,_⟩ | h3
      ·exact hs ⟨_,h3,Or.inr rfl⟩
      ·omega
     exact(hWk i h1).trans (hkeep i hi h3)
    ·rw[hWs];unfold iA at hi;split at hi
     ·rename_i e1;rw[e1];exact glt
     ·exact sO0 (h.lt i hi) (mO0 t1.size t2.size)
   have hgc:∃cur,W.heap[g]?=some (.cells cur 181):=by
    rcases gown.2 with⟨a2,_⟩ | ⟨g',cap',cur,a3,a4,a5,a6⟩
    ·cases a2
    ·cases a3;exact⟨cur,(hWk g hgk).trans a5⟩
   have hrowW:RowAt W (iA ρ g (.kept x (2*c+k))) (.kept x (2*c+k)) 181 8 (f.kept++[e]).length ((f.kept++[e]).flatMap (rC ((2*c+k)%2))) (.slice (some ⟨g,0,none⟩) (f.kept.length+1) cap):=by
    have hkk:(2*c+k)%2=k:=by omega
    rw[hkk];rw[hkk] at gown;refine⟨?_,fun g' hg'=>by cases hg';simp[iA]⟩
    have:(f.kept++[e]).length=f.kept.length+1:=by simp
    rw[this,List.flatMap_append];simp only[tP0,List.flatMap_nil,List.append_nil];obtain⟨a1,a2⟩:=gown;refine⟨a1,?_⟩;rcases a2 with⟨a2,_⟩ | ⟨g',cap',cur,a3,a4,a5,a6⟩
    ·cases a2
    ·cases a3
     exact Or.inr ⟨g,cap,cur,rfl,a4,(hWk g hgk).trans a5,a6⟩
   refine⟨h.turnKn hx hc hk hptr hrb hmv hblkW hrowW,hmv,fun i hi hne=>?_,⟨fun i cs t hf hi=>?_,fun i cs hi=>?_⟩,fun i hi=>?_,fun o v _ hv=>pA (Mv.keeps h.lt hmv h.net (by simp[keepR])).1 hv⟩
   ·unfold iA at hne;split at hne
    ·rename_i hig;rw[hig];obtain⟨cur,hc'⟩:=hgc;exact⟨cur,181,_,hc'⟩
    ·exact absurd (h.lt i hne) (by omega)
   ·have hil:=(tO0.1 hi).1;have e1:i≠kb':=fun e=>by subst e;rw[hblk] at hi;cases hi;exact hf.2.2.2.1 rfl
    have e2:i≠g:=fun e=>by
     subst e;rcases hgr with⟨_,h3⟩ | h3
     ·obtain⟨_,cur,h4⟩:=hrow.lt h3;rw[h4] at hi;cases hi;exact hf.2.2.2.2 rfl
     ·omega
    exact((hWk i e1).trans (hkeep i hil e2)).trans hi
   ·have hil:=(tO0.1 hi).1;have e2:i≠g:=fun e=>by
     subst e;rcases hgr with⟨_,h3⟩ | h3
     ·obtain⟨_,cur,h4⟩:=hrow.lt h3;rw[h4] at hi;cases hi
     ·omega
    by_cases e1:i=kb'
    ·subst e1;rw[hblk] at hi;cases hi;refine⟨_,hblkW,fun j hj=>?_⟩;simp only[eD,List.getElem?_toArray];have:∀(l a b:List Value),l.length=15→(l++a)[j]?=(l++b)[j]?:=fun l a b hl=>by rw[oO0 (by omega),oO0 (by omega)]
     have h15:∀(kv:Value) (mo:Value),([int ((2*c+k)/2:Nat),int ((2*c+k)%2:Nat),int f.age]++aB f.fl++[int (whr f.way),Value.bool f.waits,kv,mo])=([int ((2*c+k)/2:Nat),int ((2*c+k)%2:Nat),int f.age]++aB f.fl++[int (whr f.way),Value.bool f.waits])++[kv,mo]:=fun kv mo=>by simp
     rw[h15,h15];exact this _ _ _ (by simp[aB,Tst.enc])
    ·exact⟨cs,((hWk i e1).trans (hkeep i hil e2)).trans hi,fun _ _=>rfl⟩
   ·obtain⟨cs,t,fz,hi'⟩:=hi;have hil:=(tO0.1 hi').1;by_cases e1:i=kb'
    ·subst e1;exact⟨_,_,_,hblkW⟩
    ·by_cases e2:i=g
     ·subst e2;obtain⟨cur,hc'⟩:=hgc;exact⟨cur,181,_,hc'⟩
     ·exact⟨cs,t,fz,((hWk i e1).trans (hkeep i hil e2)).trans hi'⟩
 ·have hF:iN f e={f with more:=f.more+1}:=by simp only[iN,if_neg hroom]
  rw[hF];simp only[Bool.or_eq_true,oP0,not_or,Bool.not_eq_true] at hroom;have h6:f.kept.length=6:=by have:=hsix hroom.1;omega
  obtain⟨a,cap,hkv⟩:∃a cap,kv=.slice a 6 cap:=by
   rcases hrow.1.2 with⟨rfl,h0⟩ | ⟨g,cap,cur,rfl,_⟩
   ·omega
   ·exact⟨_,_,by rw[h6]⟩
  rw[hroom.1] at c14;rw[hkv] at c15;refine(uH0 kb' cap a f.more _ _ _ _ _ _ _ _ w c14 c15 c16 hfr).mono ?_;rintro r w' ⟨rfl,t1⟩
  rw[show wrap64 (f.more+1)=f.more+1 by simp only[wrap64];omega] at t1;obtain⟨W,hW⟩:∃W,W=w.setCell ⟨kb',16,none⟩ (int (f.more+1)):=⟨_,rfl⟩;rw[←hW] at t1;have hblkW:W.heap[kb']?=some (.cells (eD (2*c+k) {f with more:=f.more+1} kv).toArray 176):=by
   rw[hW,dP0 _ _ _ _ _ _ hblk];rfl
  have hWk:∀i,i≠kb'→W.heap[i]?=w.heap[i]?:=fun i hi=>by rw[hW];exact zB w _ hi
  have hmv:Mv (keepR x (2*c+k)) ρ ρ w W:=by rw[hW];exact yQ0 (S:=keepR x (2*c+k)) h.lt hrb (Or.inl rfl) _ _
  have hX:=h.turnKn (f':={f with more:=f.more+1}) hx hc hk hptr hrb hmv hblkW (hrow.keep (fun g hg=>⟨hWk g (fun e=>by subst e;rw[hrb] at hg;cases hg),rfl⟩))
  have hWs:W.heap.size=w.heap.size:=by rw[hW];simp[World.setCell]
  have hot:OnlyT w W:=⟨fun i cs t hf hi=>(hWk i (fun e=>by subst e;rw[hblk] at hi;cases hi;exact hf.2.2.2.1 rfl)).trans hi,fun i cs hi=>by
   by_cases e1:i=kb'
   ·subst e1;rw[hblk] at hi;cases hi;refine⟨_,hblkW,fun j hj=>?_⟩;simp only[eD,List.getElem?_toArray];have:∀(l a b:List Value),l.length=15→(l++a)[j]?=(l++b)[j]?:=fun l a b hl=>by rw[oO0 (by omega),oO0 (by omega)]
    have h15:∀(kv:Value) (mo:Value),([int ((2*c+k)/2:Nat),int ((2*c+k)%2:Nat),int f.age]++aB f.fl++[int (whr f.way),Value.bool f.waits,kv,mo])=([int ((2*c+k)/2:Nat),int ((2*c+k)%2:Nat),int f.age]++aB f.fl++[int (whr f.way),Value.bool f.waits])++[kv,mo]:=fun kv mo=>by simp
    rw[h15,h15];exact this _ _ _ (by simp[aB,Tst.enc])
   ·exact⟨cs,(hWk i e1).trans hi,fun _ _=>rfl⟩⟩
  have hst:StayC w W:=fun i ⟨cs,t,fz,hi'⟩=>by
   by_cases e1:i=kb'
   ·subst e1;exact⟨_,_,_,hblkW⟩
   ·exact⟨cs,t,fz,(hWk i e1).trans hi'⟩
  exact⟨rfl,ρ,hX.calm t1,hmv.trans (hX.mvCalm t1),fun i hi hne=>absurd (h.lt i hne) (by omega),hot.trans (xQ0 t1),hst.trans (StayC.of_calm t1),Front.trans (fun o v _ hv=>pA (Mv.keeps h.lt hmv h.net (by simp[keepR])).1 hv) (vQ0 t1)⟩
theorem pH (e:News)(u:List Value)(kv:Value):(uI (.event e) u kv).toArray=#[int 2,int 0,int 0,int 0,int 0,int 0,int 0,int 0,int 0,int 0,int 0,int 0,int 0,int 0,int e.ev.pub,int e.ev.num,int e.ev.f0,int e.ev.f1,int e.ev.f2,int e.stay,int 0,int 0,rA,int 0]:=rfl
set_option maxHeartbeats 400000 in
theorem lP (kb:Nat)(g:Bool)(w:World)(h:w.cell? ⟨kb,14,none⟩=some (.bool g)):Calls Tryz.prog 65 #[ptr kb] w fun e w'=>e=.returned (.bool g)∧w'=w:=by
 go_enter Tryz.func65,Tryz.ntmps65
 go_wp2;go_ret
 exact⟨rfl,rfl⟩
structure Hears (x:Cli)(k:Nat):Prop where
 used:x.used k=true
 ris:Rising (x.told k)
 log:x.log.length<2199023255552
 told:(x.told k).length<2199023255552
set_option maxRecDepth 100000 in
set_option maxHeartbeats 1000000 in
theorem fI0 {w:World}{b:Nat}{ρ:zA}{σ:Net}(h:XN w b ρ σ){x c k kb fb:Nat}(hc:c<4)(hk:k<2){e:News}(he:e.ok)(hH:Hears (σ.cl c) k)
  (hat:w.cell? ⟨b,86+c*31,none⟩=some (int x)) (k14:w.cell? ⟨kb,14,none⟩=some (.bool false)) (k0:w.cell? ⟨kb,0,none⟩=some (int c)) (k1:w.cell? ⟨kb,1,none⟩=some (int k))
  (c14:w.cell? ⟨fb,14,none⟩=some (int e.ev.pub)) (c15:w.cell? ⟨fb,15,none⟩=some (int e.ev.num)) (c16:w.cell? ⟨fb,16,none⟩=some (int e.ev.f0)) (c17:w.cell? ⟨fb,17,none⟩=some (int e.ev.f1)) (c18:w.cell? ⟨fb,18,none⟩=some (int e.ev.f2)) (c19:w.cell? ⟨fb,19,none⟩=some (int e.stay)):
  Calls Tryz.prog 107 #[.pointer (some ⟨b,0,none⟩),int x,ptr kb,ptr fb] w fun r w'=>r=.returned (.tuple #[])∧
   ∃ρ',XN w' b ρ' (σ.tell (2*c+k) e)∧Mv (eB c k) ρ ρ' w w'∧(∀i,w.heap.size≤i→ρ' i≠none→∃cs t f,w'.heap[i]?=some (.cells cs t f))∧OnlyT w w'∧StayC w w'∧Front b w w':=by
 obtain⟨hu,hris,hlog,htl⟩:=hH;have hci:(c:Int)<4:=by omega
 have HX:=uA h;have HRIS:=uA hris;have HEK:=uA he;clear h hris he;go_enter Tryz.func107,Tryz.ntmps107
 go_wp2;go_region
 go_wp2_with (first
  | (go_at_call 49;refine(iF b (86+c*31) x _ ?_).mono ?_;exact hat;rintro r w1 ⟨rfl,rfl⟩)
  | (go_at_call 65;refine(lP kb false _ ?_).mono ?_;exact k14;rintro r w1 ⟨rfl,rfl⟩))
 go_region_with (first
  | (go_at_call 124;refine(iG _ _ _ _ _ _ _ _).mono ?_;rintro r w2 ⟨rfl,ht2⟩)
  | (go_at_call 72;refine(aI0 (σ:=σ) (ρ:=ρ) (c:=c) (k:=k) (e:=e) ((yA HX).calm ((((cP0 _ _).drew).drew).calm ht2)) hc hk (yA HEK) hu (yA HRIS) hlog htl).mono ?_;rintro r w3 ⟨rfl,ρ3,h3,m3,n3,o3,s3,f3⟩))
 all_goals go_end0
 all_goals
  have hcal:qA w w2:=(((cP0 _ _).drew).drew).calm ht2;refine⟨rfl,ρ3,h3,(zQ0 (yA HX).lt hcal).trans m3,fun i hi hne=>?_,(xQ0 hcal).trans o3,(StayC.of_calm hcal).trans s3,(vQ0 hcal).trans f3⟩;by_cases hi2:w2.heap.size≤i
  ·exact n3 i hi2 hne
  ·have hn:ρ i=none:=by
    cases hq:ρ i with
    | none=>rfl
    | some r=>exact absurd ((yA HX).lt i (by rw[hq];simp)) (by omega)
   exact absurd (m3.noRole (by omega) hn) hne
set_option maxRecDepth 100000 in
set_option maxHeartbeats 1000000 in
theorem gI0 {w:World}{b:Nat}{ρ:zA}{σ:Net}(h:XN w b ρ σ){x c k kb fb:Nat}(hx:x<6)(hc:c<4)(hk:k<2){e:News}{f:Fact}(hkn:σ.kn x (2*c+k)=some f)(hptr:w.cell? ⟨b,38+x*8+c*2+k,none⟩=some (ptr kb))(hlen:f.kept.length<2199023255552)(hsix:f.waits=false→f.kept.length≤6)(hmo:0≤f.more∧f.more<2199023255552)
  (hat:w.cell? ⟨b,86+c*31,none⟩=some (int x)) (k14:w.cell? ⟨kb,14,none⟩=some (.bool true)) (k0:w.cell? ⟨kb,0,none⟩=some (int c)) (k1:w.cell? ⟨kb,1,none⟩=some (int k))
  (c14:w.cell? ⟨fb,14,none⟩=some (int e.ev.pub)) (c15:w.cell? ⟨fb,15,none⟩=some (int e.ev.num)) (c16:w.cell? ⟨fb,16,none⟩=some (int e.ev.f0)) (c17:w.cell? ⟨fb,17,none⟩=some (int e.ev.f1)) (c18:w.cell? ⟨fb,18,none⟩=some (int e.ev.f2)) (c19:w.cell? ⟨fb,19,none⟩=some (int e.stay)):
  Calls Tryz.prog 107 #[.pointer (some ⟨b,0,none⟩),int x,ptr kb,ptr fb] w fun r w'=>r=.returned (.tuple #[])∧
   ∃ρ',XN w' b ρ' (σ.know x (2*c+k) (some (iN f e)))∧Mv (keepR x (2*c+k)) ρ ρ' w w'∧(∀i,w.heap.size≤i→ρ' i≠none→∃cs t f,w'.heap[i]?=some (.cells cs t f))∧OnlyT w w'∧StayC w w'∧Front b w w':=by
 have hci:(c:Int)<4:=by omega
 have HX:=uA h;have HKN:=uA hkn;have HPT:=uA hptr;have HSIX:=uA hsix;have HMO:=uA hmo;have HLN:=uA hlen;clear h hkn hptr hsix hmo hlen;go_enter Tryz.func107,Tryz.ntmps107
 go_wp2;go_region
 go_wp2_with (first
  | (go_at_call 49;refine(iF b (86+c*31) x _ ?_).mono ?_;exact hat;rintro r w1 ⟨rfl,rfl⟩)
  | (go_at_call 65;refine(lP kb true _ ?_).mono ?_;exact k14;rintro r w1 ⟨rfl,rfl⟩))
 go_region_with (first
  | (go_at_call 124;refine(iG _ _ _ _ _ _ _ _).mono ?_;rintro r w2 ⟨rfl,ht2⟩)
  | (go_at_call 123;refine(keepX (σ:=σ) (ρ:=ρ) (x:=x) (c:=c) (k:=k) (f:=f) (e:=e) ((yA HX).calm ((((cP0 _ _).drew).drew).calm ht2)) hx hc hk (yA HKN) (((((cP0 (fun _=>False) _).drew).drew).calm ht2).cell (p:=⟨b,38+x*8+c*2+k,none⟩) id (yA HPT)) (yA HLN) (yA HSIX) (yA HMO)).mono ?_;rintro r w3 ⟨rfl,ρ3,h3,m3,n3,o3,s3,f3⟩))
 all_goals go_end0
 all_goals
  have hcal:qA w w2:=(((cP0 _ _).drew).drew).calm ht2;refine⟨rfl,ρ3,h3,(zQ0 (yA HX).lt hcal).trans m3,fun i hi hne=>?_,(xQ0 hcal).trans o3,(StayC.of_calm hcal).trans s3,(vQ0 hcal).trans f3⟩;by_cases hi2:w2.heap.size≤i
  ·exact n3 i hi2 hne
  ·have hn:ρ i=none:=by
    cases hq:ρ i with
    | none=>rfl
    | some r=>exact absurd ((yA HX).lt i (by rw[hq];simp)) (by omega)
   exact absurd (m3.noRole (by omega) hn) hne
set_option maxRecDepth 100000 in
set_option maxHeartbeats 1000000 in
theorem eI0 {w:World}{b:Nat}{ρ:zA}{σ:Net}(h:XN w b ρ σ){x c k kb fb:Nat}(hx:x<6)(hc:c<4)(hk:k<2){e:News}{f:Fact}(hkn:σ.kn x (2*c+k)=some f)(hptr:w.cell? ⟨b,38+x*8+c*2+k,none⟩=some (ptr kb))(hlen:f.kept.length<2199023255552)(hsix:f.waits=false→f.kept.length≤6)(hmo:0≤f.more∧f.more<2199023255552)
  {z:Int} (hat:w.cell? ⟨b,86+c*31,none⟩=some (int z)) (hz:(z == (x:Int))=false) (k0:w.cell? ⟨kb,0,none⟩=some (int c)) (k1:w.cell? ⟨kb,1,none⟩=some (int k))
  (c14:w.cell? ⟨fb,14,none⟩=some (int e.ev.pub)) (c15:w.cell? ⟨fb,15,none⟩=some (int e.ev.num)) (c16:w.cell? ⟨fb,16,none⟩=some (int e.ev.f0)) (c17:w.cell? ⟨fb,17,none⟩=some (int e.ev.f1)) (c18:w.cell? ⟨fb,18,none⟩=some (int e.ev.f2)) (c19:w.cell? ⟨fb,19,none⟩=some (int e.stay)):
  Calls Tryz.prog 107 #[.pointer (some ⟨b,0,none⟩),int x,ptr kb,ptr fb] w fun r w'=>r=.returned (.tuple #[])∧
   ∃ρ',XN w' b ρ' (σ.know x (2*c+k) (some (iN f e)))∧Mv (keepR x (2*c+k)) ρ ρ' w w'∧(∀i,w.heap.size≤i→ρ' i≠none→∃cs t f,w'.heap[i]?=some (.cells cs t f))∧OnlyT w w'∧StayC w w'∧Front b w w':=by
 have hci:(c:Int)<4:=by omega
 have HX:=uA h;have HKN:=uA hkn;have HPT:=uA hptr;have HSIX:=uA hsix;have HMO:=uA hmo;have HLN:=uA hlen;clear h hkn hptr hsix hmo hlen;go_enter Tryz.func107,Tryz.ntmps107
 go_wp2;go_region
 go_wp2_with (go_at_call 49;refine(iF b (86+c*31) z _ ?_).mono ?_;exact hat;rintro r w1 ⟨rfl,rfl⟩)
 go_region_with (first
  | (go_at_call 124;refine(iG _ _ _ _ _ _ _ _).mono ?_;rintro r w2 ⟨rfl,ht2⟩)
  | (go_at_call 123;refine(keepX (σ:=σ) (ρ:=ρ) (x:=x) (c:=c) (k:=k) (f:=f) (e:=e) ((yA HX).calm ((((cP0 _ _).drew).drew).calm ht2)) hx hc hk (yA HKN) (((((cP0 (fun _=>False) _).drew).drew).calm ht2).cell (p:=⟨b,38+x*8+c*2+k,none⟩) id (yA HPT)) (yA HLN) (yA HSIX) (yA HMO)).mono ?_;rintro r w3 ⟨rfl,ρ3,h3,m3,n3,o3,s3,f3⟩))
 all_goals go_end0
 all_goals
  have hcal:qA w w2:=(((cP0 _ _).drew).drew).calm ht2;refine⟨rfl,ρ3,h3,(zQ0 (yA HX).lt hcal).trans m3,fun i hi hne=>?_,(xQ0 hcal).trans o3,(StayC.of_calm hcal).trans s3,(vQ0 hcal).trans f3⟩;by_cases hi2:w2.heap.size≤i
  ·exact n3 i hi2 hne
  ·have hn:ρ i=none:=by
    cases hq:ρ i with
    | none=>rfl
    | some r=>exact absurd ((yA HX).lt i (by rw[hq];simp)) (by omega)
   exact absurd (m3.noRole (by omega) hn) hne
theorem tocX {w:World}{b:Nat}{ρ:zA}{σ:Net}(h:XN w b ρ σ){x c k kb fb:Nat}(hx:x<6)(hc:c<4)(hk:k<2){e:News}(he:e.ok){f:Fact}(hkn:σ.kn x (2*c+k)=some f)(hptr:w.cell? ⟨b,38+x*8+c*2+k,none⟩=some (ptr kb))
  (hmt:lC f.fl e.ev=true) (hway:f.way=none) (hH:(σ.cl c).here=some x→f.waits=false→Hears (σ.cl c) k)
  (hlen:f.kept.length<2199023255552) (hsix:f.waits=false→f.kept.length≤6) (hmo:0≤f.more∧f.more<2199023255552) (hf:FrAt w ρ (.event e) fb):
  Calls Tryz.prog 107 #[.pointer (some ⟨b,0,none⟩),int x,ptr kb,ptr fb] w fun r w'=>r=.returned (.tuple #[])∧
   ∃ρ',XN w' b ρ' (σ.hear x e (2*c+k))∧Mv (iS x c k) ρ ρ' w w'∧(∀i,w.heap.size≤i→ρ' i≠none→∃cs t f,w'.heap[i]?=some (.cells cs t f))∧OnlyT w w'∧StayC w w'∧Front b w w':=by
 obtain⟨v,hv1,hv2⟩:=h.known x c k hx hc hk;rw[hkn] at hv2;obtain⟨kb',kv,rfl,hrb,hblk,hrow⟩:=hv2;have:kb'=kb:=by rw[hptr] at hv1;cases hv1;rfl
 subst this;have h2c:(2*c+k)/2=c:=by omega
 have h2k:(2*c+k)%2=k:=by omega
 have k0:w.cell? ⟨kb',0,none⟩=some (int c):=by
  have:w.cell? ⟨kb',0,none⟩=some (int ((2*c+k)/2:Nat)):=xA hblk 0;rw[h2c] at this;exact this
 have k1:w.cell? ⟨kb',1,none⟩=some (int k):=by
  have:w.cell? ⟨kb',1,none⟩=some (int ((2*c+k)%2:Nat)):=xA hblk 1;rw[h2k] at this;exact this
 have k14:w.cell? ⟨kb',14,none⟩=some (.bool f.waits):=xA hblk 14;have hat:=(h.cli c hc).here;obtain⟨hr,_,_,_,hf',_⟩:=id hf;rw[pH] at hf';have c14:w.cell? ⟨fb,14,none⟩=some (int e.ev.pub):=xA hf' 14;have c15:w.cell? ⟨fb,15,none⟩=some (int e.ev.num):=xA hf' 15;have c16:w.cell? ⟨fb,16,none⟩=some (int e.ev.f0):=xA hf' 16;have c17:w.cell? ⟨fb,17,none⟩=some (int e.ev.f1):=xA hf' 17;have c18:w.cell? ⟨fb,18,none⟩=some (int e.ev.f2):=xA hf' 18;have c19:w.cell? ⟨fb,19,none⟩=some (int e.stay):=xA hf' 19;have hwd:(lC f.fl e.ev && decide (f.way=none))=true:=by simp[hmt,hway]
 by_cases hhere:(σ.cl c).here=some x∧f.waits=false
 ·obtain⟨hh,hw⟩:=hhere;rw[hh] at hat;rw[hw] at k14;have hst:σ.hear x e (2*c+k)=σ.tell (2*c+k) e:=by
   unfold Net.hear;rw[hkn];simp[hmt,hway,hw,h2c,hh]
  rw[hst];refine(fI0 h hc hk he (hH hh hw) hat k14 k0 k1 c14 c15 c16 c17 c18 c19).mono ?_;rintro r w' ⟨rfl,ρ',h1,m1,r1⟩
  exact⟨rfl,ρ',h1,m1.mono (fun _ hr=>Or.inl hr),r1⟩
 ·have hst:σ.hear x e (2*c+k)=σ.know x (2*c+k) (some (iN f e)):=by
   unfold Net.hear iN;rw[hkn];simp only[hwd,if_true,h2c];by_cases hw:f.waits=true
   ·simp[hw]
   ·have hw:f.waits=false:=by simpa using hw
    have hh:(σ.cl c).here≠some x:=fun h=>hhere ⟨h,hw⟩;simp only[hw,Bool.false_or,ne_eq,hh,not_false_eq_true,decide_true,Bool.true_and,oP0];by_cases h6:f.kept.length<6
    ·simp[h6]
    ·simp[h6]
  rw[hst];by_cases hh:(σ.cl c).here=some x
  ·have hw:f.waits=true:=by
    cases hq:f.waits with
    | true=>rfl
    | false=>exact absurd ⟨hh,hq⟩ hhere
   rw[hh] at hat;rw[hw] at k14;refine(gI0 h hx hc hk hkn hptr hlen hsix hmo hat k14 k0 k1 c14 c15 c16 c17 c18 c19).mono ?_;rintro r w' ⟨rfl,ρ',h1,m1,r1⟩
   exact⟨rfl,ρ',h1,m1.mono (fun _ hr=>Or.inr hr),r1⟩
  ·have hz:(whr (σ.cl c).here == (x:Int))=false:=by
    cases hq:(σ.cl c).here with
    | none=>simp[whr]<;>omega
    | some y=>
     have:y≠x:=fun e=>hh (by rw[hq,e]);simp[whr]<;>omega
   refine(eI0 h hx hc hk hkn hptr hlen hsix hmo hat hz k0 k1 c14 c15 c16 c17 c18 c19).mono ?_;rintro r w' ⟨rfl,ρ',h1,m1,r1⟩
   exact⟨rfl,ρ',h1,m1.mono (fun _ hr=>Or.inr hr),r1⟩
end Go.Proofs.YtodfcpblcpogiaaGreat

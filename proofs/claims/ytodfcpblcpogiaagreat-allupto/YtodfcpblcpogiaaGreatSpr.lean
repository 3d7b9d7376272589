import Derived.Test.YtodfcpblcpogiaaGreatTell
namespace Go.Proofs.YtodfcpblcpogiaaGreat
open Go.RowKit
def News.ok (e:News):Prop:=0≤e.ev.pub∧e.ev.pub<4∧1≤e.ev.num∧e.ev.num≤2199023255552∧0≤e.stay∧e.stay≤2199023255552
def iA (ρ:zA)(g:Nat)(r:Role):zA:=fun i=>if i=g then some r else ρ i
theorem zO0 {a b c d:Int}(h:(Value.agg #[int a,int b])=.agg #[int c,int d]):a=c∧b=d:=by
 cases h;exact⟨rfl,rfl⟩
theorem HeardAt.told {w w':World}{ρ':zA}{c k mb n:Nat}{D:DataW Nat}{told:List News}{e:News}{kl:Lit}(hr:ρ' mb=some (.map c k))(hown:w.ownsMap Tryz.prog 201 (plainElem Tryz.prog 3) mb n D)
  (hown':w'.ownsMap Tryz.prog 201 (plainElem Tryz.prog 3) mb (n+1) (D.put kl (.lit (.int .i64 e.ev.num)))) (hn:n≤told.length) (hkey:keyOf Tryz.prog 201 (.agg #[int e.ev.pub,int e.stay])=some kl)
  (hD:∀p st kl,keyOf Tryz.prog 201 (.agg #[int p,int st])=some kl→D.atKey kl (.lit (.int .i64 0))=.lit (.int .i64 (jE told p st))):HeardAt w' ρ' c k true (told++[e]) (.map (some mb)):=by
 unfold HeardAt;rw[if_pos rfl];refine⟨mb,n+1,_,rfl,hr,hown',by simp;omega,fun p st kl' hk'=>?_⟩;rw[bN];have hmap:Maps.IsMap D:=by obtain⟨es,cl,_,_,_,rfl⟩:=hown;exact⟨_,rfl⟩
 by_cases e1:kl'=kl
 ·subst e1;obtain⟨e2,e3⟩:=zO0 (stayLaw.inj hkey hk');rw[if_pos ⟨e2,e3⟩,Maps.atKey_put_same hmap (stayLaw.key hkey)]
 ·rw[if_neg (fun h=>e1 (by rw[h.1,h.2,hk'] at hkey;cases hkey;rfl)),Maps.atKey_put_other e1];exact hD p st kl' hk'
def eB (c k:Nat)(r:Role):Prop:=r=.net∨r=.map c k∨r=.log c
theorem qB (w:World)(b o o':Nat)(v:Value)(h:w.frozen? ⟨b,o',none⟩=false):(w.setCell ⟨b,o,none⟩ v).frozen? ⟨b,o',none⟩=false:=by rw[World.frozen?_setCell];exact h
theorem tA (w:World){b o o':Nat}{v u:Value}(hne:o'≠o)(h:w.cell? ⟨b,o',none⟩=some u):(w.setCell ⟨b,o,none⟩ v).cell? ⟨b,o',none⟩=some u:=
 (World.cell?_setCell_other w _ _ _ (by intro e;cases e;exact hne rfl)).trans h
abbrev Fix (t:TypeId):Prop:=t≠102∧t≠74∧t≠162∧t≠176∧t≠181
structure OnlyT (w w':World):Prop where
 cells:∀(k:Nat) (cs:Array Value) (t:TypeId),Fix t→w.heap[k]?=some (.cells cs t)→w'.heap[k]?=some (.cells cs t)
 known:∀(k:Nat) (cs:Array Value),w.heap[k]?=some (.cells cs 176)→∃cs',w'.heap[k]?=some (.cells cs' 176)∧∀j,j<15→cs'[j]?=cs[j]?
theorem OnlyT.refl (w:World):OnlyT w w:=⟨fun _ _ _ _ h=>h,fun _ cs h=>⟨cs,h,fun _ _=>rfl⟩⟩
theorem OnlyT.trans {a b c:World}(h:OnlyT a b)(k:OnlyT b c):OnlyT a c:=⟨fun i cs t hf hi=>k.cells i cs t hf (h.cells i cs t hf hi),fun i cs hi=>by
 obtain⟨cs1,h1,h2⟩:=h.known i cs hi;obtain⟨cs2,k1,k2⟩:=k.known i cs1 h1
 exact⟨cs2,k1,fun j hj=>(k2 j hj).trans (h2 j hj)⟩⟩
theorem OnlyT.of_keep {w w':World}(h:∀(k:Nat) (cs:Array Value) (t:TypeId),t≠102→t≠74→t≠162→t≠181→w.heap[k]?=some (.cells cs t)→w'.heap[k]?=some (.cells cs t)):OnlyT w w':=
 ⟨fun k cs t hf hk=>h k cs t hf.1 hf.2.1 hf.2.2.1 hf.2.2.2.2 hk,fun k cs hk=>⟨cs,h k cs 176 (by decide) (by decide) (by decide) (by decide) hk,fun _ _=>rfl⟩⟩
theorem OnlyT.of_calm {w w':World}(h:qA w w'):OnlyT w w':=OnlyT.of_keep fun k _ _ _ _ _ _ hk=>(h.block k (tO0.1 hk).1 id).trans hk
def StayC (w w':World):Prop:=∀(k:Nat),(∃cs t f,w.heap[k]?=some (.cells cs t f))→∃cs t f,w'.heap[k]?=some (.cells cs t f)
theorem StayC.trans {a b c:World}(h:StayC a b)(k:StayC b c):StayC a c:=fun i hi=>k i (h i hi)
theorem StayC.of_calm {w w':World}(h:qA w w'):StayC w w':=fun k ⟨cs,t,f,hk⟩=>⟨cs,t,f,(h.block k (tO0.1 hk).1 id).trans hk⟩
def Front (b:Nat)(w w':World):Prop:=∀o v,o<86→w.cell? ⟨b,o,none⟩=some v→w'.cell? ⟨b,o,none⟩=some v
theorem Front.refl (b:Nat)(w:World):Front b w w:=fun _ _ _ h=>h
theorem Front.trans {b:Nat}{u v w:World}(h:Front b u v)(k:Front b v w):Front b u w:=fun o x ho hx=>k o x ho (h o x ho hx)
theorem Front.of_calm {b:Nat}{w w':World}(h:qA w w'):Front b w w':=fun o _ _ hx=>h.cell (p:=⟨b,o,none⟩) id hx
def sF0 (k:Nat)(e:News):Ent:=⟨k,0,e.ev⟩
theorem XN.told {w w1 w2:World}{b:Nat}{ρ:zA}{σ:Net}(h:XN w b ρ σ){c k:Nat}(hc:c<4)(hk:k<2){e:News}(hu:(σ.cl c).used k=true)(hout:tE ((σ.cl c).told k) e=false)
  {mb n m g cap:Nat} {D:DataW Nat} {kl:Lit} {vl:Value} (hm:w.cell? ⟨b,86+c*31+4+k*13+12,none⟩=some (.map (some mb))) (hrm:ρ mb=some (.map c k)) (hown:w.ownsMap Tryz.prog 201 (plainElem Tryz.prog 3) mb n D) (hn:n≤((σ.cl c).told k).length)
  (hD:∀p st kl,keyOf Tryz.prog 201 (.agg #[int p,int st])=some kl→D.atKey kl (.lit (.int .i64 0))=.lit (.int .i64 (jE ((σ.cl c).told k) p st))) (hkey:keyOf Tryz.prog 201 (.agg #[int e.ev.pub,int e.stay])=some kl)
  (hl:w.cell? ⟨b,86+c*31+30,none⟩=some vl) (hrow:RowAt w ρ (.log c) 74 7 m ((σ.cl c).log.flatMap Ent.enc) vl) (hmlen:m=(σ.cl c).log.length)
  (t1:Touch (fun i=>i=mb) w w1) (hown1:w1.ownsMap Tryz.prog 201 (plainElem Tryz.prog 3) mb (n+1) (D.put kl (.lit (.int .i64 e.ev.num))))
  (hg:xF 0 74 7 vl (m+1) ((σ.cl c).log.flatMap Ent.enc++(sF0 k e).enc) w1 g cap w2):
  XN (w2.setCell ⟨b,86+c*31+30,none⟩ (.slice (some ⟨g,0,none⟩) (m+1) cap)) b (iA ρ g (.log c)) (σ.tell (2*c+k) e)∧
   Mv (eB c k) ρ (iA ρ g (.log c)) w (w2.setCell ⟨b,86+c*31+30,none⟩ (.slice (some ⟨g,0,none⟩) (m+1) cap))∧(w.heap.size≤g∨ρ g=some (.log c))∧OnlyT w (w2.setCell ⟨b,86+c*31+30,none⟩ (.slice (some ⟨g,0,none⟩) (m+1) cap))∧StayC w (w2.setCell ⟨b,86+c*31+30,none⟩ (.slice (some ⟨g,0,none⟩) (m+1) cap))∧
   (∃cs t f,(w2.setCell ⟨b,86+c*31+30,none⟩ (.slice (some ⟨g,0,none⟩) (m+1) cap)).heap[g]?=some (.cells cs t f))∧Front b w (w2.setCell ⟨b,86+c*31+30,none⟩ (.slice (some ⟨g,0,none⟩) (m+1) cap)):=by
 have hb:b<w.heap.size:=h.lt b (by rw[h.net];simp)
 have hmb:mb<w.heap.size:=h.lt mb (by rw[hrm];simp)
 obtain⟨gown,gt,glt⟩:=hg;have hgr:(ρ g=some (.log c)∧vl.ownBlock=some g)∨w.heap.size≤g:=by
  rcases gt with⟨hv,_⟩ | ⟨hv,_⟩
  ·exact Or.inl ⟨hrow.2 g hv,hv⟩
  ·right;rw[hv];exact t1.size
 have hgb:b≠g:=by
  rcases hgr with⟨h1,_⟩ | h1
  ·intro e1;subst e1;rw[h.net] at h1;cases h1
  ·omega
 have hgm:mb≠g:=by
  rcases hgr with⟨h1,_⟩ | h1
  ·intro e1;subst e1;rw[hrm] at h1;cases h1
  ·omega
 have hbm:b≠mb:=by intro e1;subst e1;rw[h.net] at hrm;cases hrm
 have t2:Touch (fun i=>i=g) w1 w2:=by
  rcases gt with⟨_,t⟩ | ⟨_,t⟩
  ·exact t
  ·exact t.mono (fun _ _ f=>f.elim)
 have hkeep:∀i,i<w.heap.size→i≠mb→i≠g→w2.heap[i]?=w.heap[i]?:=fun i hi h1 h2=>(t2.block i (sO0 hi t1.size) h2).trans (t1.block i hi h1);obtain⟨W,hW⟩:∃W,W=w2.setCell ⟨b,86+c*31+30,none⟩ (.slice (some ⟨g,0,none⟩) (m+1) cap):=⟨_,rfl⟩;rw[←hW];have hWk:∀i,i≠b→W.heap[i]?=w2.heap[i]?:=fun i hi=>by rw[hW];exact zB w2 _ hi
 have hWs:W.heap.size=w2.heap.size:=by rw[hW];simp[World.setCell]
 have hb2:w2.heap[b]?=w.heap[b]?:=hkeep b hb hbm hgb;have hcell:∀o v,o≠86+c*31+30→w.cell? ⟨b,o,none⟩=some v→W.cell? ⟨b,o,none⟩=some v:=fun o v ho hv=>by
  rw[hW];exact tA w2 ho (pA hb2 hv)
 have hfr:∀o,W.frozen? ⟨b,o,none⟩=false:=fun o=>by
  rw[hW];exact qB _ _ _ _ _ ((nP0 (w:=w) (a:=⟨b,o,none⟩) hb2).trans (h.fr o))
 have hrole:∀i,i<w.heap.size→iA ρ g (.log c) i=ρ i:=fun i hi=>by
  unfold iA;split
  ·rename_i e1;subst e1
   rcases hgr with⟨h1,_⟩ | h1
   ·exact h1.symm
   ·omega
  ·rfl
 have hmv:Mv (eB c k) ρ (iA ρ g (.log c)) w W:=by
  refine⟨⟨?_,?_,?_,?_,fun i hi hs=>?_⟩,fun i hi=>Or.inl (hrole i hi),fun i hi=>?_⟩
  ·rw[hW];exact t2.os.trans t1.os
  ·rw[hW];exact t2.tape.trans t1.tape
  ·rw[hW];exact t2.output.trans t1.output
  ·rw[hWs];exact mO0 t1.size t2.size
  ·have h1:i≠b:=fun e1=>hs ⟨.net,by rw[e1];exact h.net,Or.inl rfl⟩;have h2:i≠mb:=fun e1=>hs ⟨.map c k,by rw[e1];exact hrm,Or.inr (Or.inl rfl)⟩;have h3:i≠g:=fun e1=>by
    subst e1;rcases hgr with⟨h3,_⟩ | h3
    ·exact hs ⟨.log c,h3,Or.inr (Or.inr rfl)⟩
    ·omega
   exact(hWk i h1).trans (hkeep i hi h2 h3)
  ·rw[hWs];unfold iA at hi;split at hi
   ·rename_i e1;rw[e1];exact glt
   ·exact sO0 (h.lt i hi) (mO0 t1.size t2.size)
 have hot:OnlyT w W:=OnlyT.of_keep fun i cs t h1 h2 _ _ hi=>by
  have hil:=(tO0.1 hi).1;have e1:i≠b:=fun e=>by
   subst e;obtain⟨cs',e1⟩:=h.typ;rw[e1] at hi;cases hi;exact h1 rfl
  have e2:i≠mb:=fun e=>by
   subst e;obtain⟨es,cl,e1,_⟩:=hown;rw[e1] at hi;cases hi
  have e3:i≠g:=fun e=>by
   subst e;rcases hgr with⟨_,h3⟩ | h3
   ·rcases hrow.1.2 with⟨rfl,_⟩ | ⟨g',cp',cur,rfl,_,e4,_⟩
    ·cases h3
    ·cases h3;rw[e4] at hi;cases hi;exact h2 rfl
   ·omega
  exact((hWk i e1).trans (hkeep i hil e2 e3)).trans hi
 have hgc:∃cs t f,W.heap[g]?=some (.cells cs t f):=by
  rcases gown.2 with⟨a2,_⟩ | ⟨g',cap',cur,a3,a4,a5,a6⟩
  ·cases a2
  ·cases a3;exact⟨cur,74,_,(hWk g (Ne.symm hgb)).trans a5⟩
 have hst:StayC w W:=fun i hi=>by
  by_cases e1:i=b
  ·subst e1;obtain⟨cs,e2⟩:∃cs,W.heap[i]?=some (.cells cs 102):=by rw[hW];exact nB (by rw[hb2];exact h.typ) _ _
   exact⟨cs,102,_,e2⟩
  ·by_cases e2:i=g
   ·rw[e2];exact hgc
   ·obtain⟨cs,t,f,hi'⟩:=hi;have hil:=(tO0.1 hi').1;have e3:i≠mb:=fun e=>by
     subst e;obtain⟨es,cl,e1,_⟩:=hown;rw[e1] at hi';cases hi'
    exact⟨cs,t,f,((hWk i e1).trans (hkeep i hil e3 e2)).trans hi'⟩
 refine⟨?_,hmv,hgr.elim (fun h1=>Or.inr h1.1) Or.inl,hot,hst,hgc,fun o v ho hv=>hcell o v (by omega) hv⟩;have h2c:(2*c+k)/2=c:=by omega
 have h2k:(2*c+k)%2=k:=by omega
 obtain⟨x,hx⟩:∃x,x=(σ.cl c).tell k e:=⟨_,rfl⟩;have hσ:σ.tell (2*c+k) e=σ.setCl c x:=by simp only[Net.tell,h2c,h2k,hx]
 have hxe:x={σ.cl c with told:=put (σ.cl c).told k ((σ.cl c).told k++[e]),log:=(σ.cl c).log++[sF0 k e]}:=by rw[hx];simp[Cli.tell,hout,sF0]
 rw[hσ];refine h.step hmv (fun o=>o=86+c*31+30) (by rw[hW];exact nB (by rw[hb2];exact h.typ) _ _) hfr (fun o v ho=>hcell o v ho) rfl rfl (by omega) (by omega) (by simp[eB]) (by simp[eB]) (by simp[eB])
  (fun x y _ _=>Or.inl ⟨rfl,by omega,by simp[eB]⟩) (fun x c k _ _ _=>Or.inl ⟨rfl,by omega,by simp[eB],by simp[eB]⟩) (fun d hd=>?_)
 by_cases ed:d=c
 ·right
  subst ed;simp only[Net.setCl,put_same];have C:=h.cli d hd;rw[hxe];refine⟨hcell _ _ (by omega) C.here,hcell _ _ (by omega) C.home,hcell _ _ (by omega) C.stays,hcell _ _ (by omega) C.many,fun k' h'=>hcell _ _ (by omega) (C.used k' h'),fun k' h'=>hcell _ _ (by omega) (C.age k' h'),fun k' h'=>(C.fl k' h').keep (fun j v hj=>hcell _ _ (by omega)),fun k' h'=>?_,?_⟩
  ·obtain⟨v,e1,e2⟩:=C.heard k' h';refine⟨v,hcell _ _ (by omega) e1,?_⟩;by_cases ek:k'=k
   ·subst ek;rw[hm] at e1;cases e1
    simp only[put_same];rw[hu];have hownW:W.ownsMap Tryz.prog 201 (plainElem Tryz.prog 3) mb (n+1) (D.put kl (.lit (.int .i64 e.ev.num))):=by
     obtain⟨es,cl,f1,f2⟩:=hown1;exact⟨es,cl,((hWk mb (Ne.symm hbm)).trans (t2.block mb (sO0 hmb t1.size) hgm)).trans f1,f2⟩
    exact HeardAt.told ((hrole mb hmb).trans hrm) hown hownW hn hkey hD
   ·simp only[kA _ _ ek];refine e2.keep (fun i hi=>?_);have hi':=h.lt i (by rw[hi];simp)
    have h1:i≠b:=fun e1=>by subst e1;rw[h.net] at hi;cases hi
    have h2:i≠mb:=fun e1=>by subst e1;rw[hrm] at hi;cases hi;exact ek rfl
    have h3:i≠g:=fun e1=>by
     subst e1;rcases hgr with⟨h3,_⟩ | h3
     ·rw[h3] at hi;cases hi
     ·omega
    exact⟨(hWk i h1).trans (hkeep i hi' h2 h3),hrole i hi'⟩
  ·refine⟨.slice (some ⟨g,0,none⟩) (m+1) cap,?_,?_,fun g' hg'=>?_⟩
   ·rw[hW];exact mP0 w2 _ _ (pA hb2 hl)
   ·have:((σ.cl d).log++[sF0 k e]).length=m+1:=by simp[hmlen]
    rw[this,List.flatMap_append];simp only[tP0,List.flatMap_nil,List.append_nil];obtain⟨a1,a2⟩:=gown;refine⟨a1,?_⟩;rcases a2 with⟨a2,_⟩ | ⟨g',cap',cur,a3,a4,a5,a6⟩
    ·cases a2
    ·cases a3
     exact Or.inr ⟨g,cap,cur,rfl,a4,(hWk g (Ne.symm hgb)).trans a5,a6⟩
   ·cases hg'
    simp[iA]
 ·left
  exact⟨by simp only[Net.setCl,kA _ _ ed],fun o _ _=>by omega,fun k'=>by simp only[eB,reduceCtorEq,Role.map.injEq,false_or,or_false,not_and];intro h1;exact absurd h1 ed,by simp only[eB,reduceCtorEq,Role.log.injEq,false_or];exact ed⟩
theorem aI0 {w:World}{b:Nat}{ρ:zA}{σ:Net}(h:XN w b ρ σ){c k:Nat}(hc:c<4)(hk:k<2){e:News}(he:e.ok)(hu:(σ.cl c).used k=true)(hris:Rising ((σ.cl c).told k))
  (hlen:(σ.cl c).log.length<2199023255552) (htl:((σ.cl c).told k).length<2199023255552):
  Calls Tryz.prog 72 #[.pointer (some ⟨b,86+c*31,none⟩),.agg #[int k,int 0,int e.ev.pub,int e.ev.num,int e.ev.f0,int e.ev.f1,int e.ev.f2,int e.stay]] w fun r w'=>r=.returned (.tuple #[])∧
   ∃ρ',XN w' b ρ' (σ.tell (2*c+k) e)∧Mv (eB c k) ρ ρ' w w'∧(∀i,w.heap.size≤i→ρ' i≠none→∃cs t f,w'.heap[i]?=some (.cells cs t f))∧OnlyT w w'∧StayC w w'∧Front b w w':=by
 have C:=h.cli c hc;obtain⟨v,hv1,hv2⟩:=C.heard k hk;unfold HeardAt at hv2;rw[hu,if_pos rfl] at hv2;obtain⟨mb,n,D,rfl,hrm,hown,hn,hD⟩:=hv2;obtain⟨vl,hl1,hl2⟩:=C.log;obtain⟨e1,e2,e3,e4,e5,e6⟩:=he;obtain⟨kl,hkl⟩:=pM0 (p:=e.ev.pub) (st:=e.stay) (eQ (by omega) (by omega)) (eQ (by omega) (by omega));have hat:=hD _ _ _ hkl;have hbm:b≠mb:=by intro e1;subst e1;rw[h.net] at hrm;cases hrm
 have hused:=C.used k hk;rw[hu] at hused;have hout:=xD0 hris (e:=e) e3;have h2c:(2*c+k)/2=c:=by omega
 have h2k:(2*c+k)%2=k:=by omega
 refine(iF0 b (86+c*31) k mb n (σ.cl c).log.length D kl e.ev.pub e.ev.num e.ev.f0 e.ev.f1 e.ev.f2 e.stay (jE ((σ.cl c).told k) e.ev.pub e.stay) vl _ w hk hused hv1 h.fr hown (by unfold maxLen;omega) hkl hat (eQ (by omega) (by omega)) hl1 hl2.1 hlen hbm ?_ ?_).mono ?_
 ·intro hx;have:=hl2.2 b hx;rw[h.net] at this;cases this
 ·intro hx;have:=hl2.2 mb hx;rw[hrm] at this;cases this
 ·rintro r w' ⟨rfl,hcase⟩
  refine⟨rfl,?_⟩;rcases hcase with⟨hle,hcal⟩ | ⟨hlt,w1,w2,g,cap,t1,hown1,hg,rfl⟩
  ·refine⟨ρ,?_,h.mvCalm hcal,fun i hi hne=>absurd (h.lt i hne) (by omega),OnlyT.of_calm hcal,StayC.of_calm hcal,Front.of_calm hcal⟩;have:σ.tell (2*c+k) e=σ:=by
    simp only[Net.tell,h2c,h2k,Cli.tell,hout,decide_eq_true hle,if_true,Net.setCl];have:put σ.cl c (σ.cl c)=σ.cl:=by funext j;simp only[put];split<;>simp_all
    rw[this]
   rw[this];exact h.calm hcal
  ·have hno:tE ((σ.cl c).told k) e=false:=by rw[hout];exact pP0 (by omega)
   obtain⟨r1,r2,r3,r4,r5,r6,r7⟩:=h.told hc hk hu hno hv1 hrm hown hn hD hkl hl1 hl2 rfl t1 hown1 hg;refine⟨_,r1,r2,fun i hi hne=>?_,r4,r5,r7⟩;unfold iA at hne;split at hne
   ·rename_i hig;rw[hig];exact r6
   ·exact absurd (h.lt i hne) (by omega)
def ParAt (w:World)(a:Option Addr)(par:List Nat):Prop:=par=[]∨∃tb o,a=some ⟨tb,o,none⟩∧∀j,j<par.length→w.cell? ⟨tb,o+j,none⟩=some (int (par.getD j 0:Nat))
theorem ParAt.calm {w w':World}{a:Option Addr}{par:List Nat}(h:ParAt w a par)(t:qA w w'):ParAt w' a par:=by
 rcases h with h | ⟨tb,o,rfl,h⟩
 ·exact Or.inl h
 ·exact Or.inr ⟨tb,o,rfl,fun j hj=>t.cell (p:=⟨tb,o+j,none⟩) id (h j hj)⟩
theorem XN.par {w:World}{b:Nat}{ρ:zA}{σ:Net}(h:XN w b ρ σ):∃a cap,w.cell? ⟨b,1,none⟩=some (.slice a σ.par.length cap)∧ParAt w a σ.par:=by
 obtain⟨a,cap,h1,h2⟩:=h.tree;exact⟨a,cap,h1,h2.imp id (fun ⟨tb,o,e1,_,e3⟩=>⟨tb,o,e1,e3⟩)⟩
set_option maxRecDepth 100000 in
set_option maxHeartbeats 400000 in
theorem jF (a:Option Addr)(cap:Nat)(par:List Nat)(c:Nat)(w:World)(hn:par.length≤5)(h0:0<c)(hc:c≤par.length)(h:ParAt w a par):
  Calls Tryz.prog 120 #[.agg #[.slice a par.length cap],int c] w fun e w'=>e=.returned (int (up par c:Nat))∧qA w w':=by
 rcases h with h | ⟨b,o,rfl,h⟩
 ·simp[h] at hc;omega
 ·have hcell:=h (c-1) (by omega);have hc1:((c:Int)-1).toNat=c-1:=by omega
  have hlt:=fP0 hcell;simp only at hlt;clear h;go_enter Tryz.func120,Tryz.ntmps120
  go_wp2;go_ret
  exact⟨rfl,(cP0 _ _).alloc _⟩
set_option maxRecDepth 100000 in
set_option maxHeartbeats 400000 in
theorem fN (a:Option Addr)(cap:Nat)(par:List Nat)(p c:Nat)(w:World)(hn:par.length≤5)(h:ParAt w a par):
  Calls Tryz.prog 114 #[.agg #[.slice a par.length cap],int p,int c] w fun e w'=>e=.returned (.bool (xK par p c))∧qA w w':=by
 by_cases hc0:0<c
 ·by_cases hcn:c≤par.length
  ·have hh:vN par.length c=true:=by simp[vN];omega
   have HC:=uA h;clear h;go_enter Tryz.func114,Tryz.ntmps114
   go_wp2_with fail
   refine(eF _ _ _ _ _ hn).mono ?_;rintro e w1 ⟨rfl,ht1⟩
   have hbx:=ht1.box id;have e0:w1.cell? ⟨w.heap.size,0,none⟩=some (.slice a par.length cap):=xA hbx 0;have HC1:=uA ((yA HC).calm (((cP0 (fun _=>False) w).alloc _).calm ht1));clear hbx HC;go_wp2_with (go_at_call 120;refine(jF a cap par c _ hn hc0 hcn ?_).mono ?_;exact yA HC1;rintro e w2 ⟨rfl,ht2⟩)
   go_ret;refine⟨?_,(((cP0 _ _).alloc _).calm ht1).calm ht2⟩;have:((up par c:Nat):Int)=p↔up par c=p:=by omega
   have hs:c<size par:=by simp only[size];omega
   simp only[xK,hc0,hs,true_and];rw[iE];exact congrArg _ (congrArg _ (decide_eq_decide.2 this))
  ·have hh:vN par.length c=false:=by simp[vN];omega
   clear h;go_enter Tryz.func114,Tryz.ntmps114
   go_wp2_with (go_at_call 31;refine(eF _ _ _ _ _ hn).mono ?_;rintro e w1 ⟨rfl,hb1⟩)
   go_ret;exact⟨by rw[show xK par p c=false from pP0 (by simp only[size];omega)];rfl,((cP0 _ _).alloc _).calm hb1⟩
 ·clear h;go_enter Tryz.func114,Tryz.ntmps114
  go_wp2;go_ret
  exact⟨by rw[show xK par p c=false from pP0 (by omega)];rfl,(cP0 _ _).alloc _⟩
set_option maxRecDepth 100000 in
set_option maxHeartbeats 400000 in
theorem pD (a:Option Addr)(cap:Nat)(par:List Nat)(x y:Nat)(w:World)(hn:par.length≤5)(h:ParAt w a par):
  Calls Tryz.prog 90 #[.agg #[.slice a par.length cap],int x,int y] w fun e w'=>e=.returned (.bool (iB par x y))∧qA w w':=by
 have H:=uA h;clear h;go_enter Tryz.func90,Tryz.ntmps90
 go_wp2_with fail
 refine(fN a cap par x y _ hn ((yA H).calm ((cP0 _ _).alloc _))).mono ?_;rintro e w1 ⟨rfl,ht1⟩
 have hbx:=ht1.box id;have e0:w1.cell? ⟨w.heap.size,0,none⟩=some (.slice a par.length cap):=xA hbx 0;have H1:=uA ((yA H).calm (((cP0 _ _).alloc _).calm ht1));clear hbx;cases hr:xK par x y with
 | true=>
  go_wp2;go_ret
  exact⟨by simp[iB,hr],((cP0 _ _).alloc _).calm ht1⟩
 | false=>
  go_wp2_with fail
  refine(fN a cap par y x _ hn (yA H1)).mono ?_;rintro e w2 ⟨rfl,ht2⟩
  go_wp2;go_ret
  exact⟨by simp[iB,hr],(((cP0 _ _).alloc _).calm ht1).calm ht2⟩
theorem FrAt.mv {S:Role→Prop}{w w':World}{ρ ρ':zA}{f:Fr}{fb:Nat}(h:FrAt w ρ f fb)(hl:∀k,ρ k≠none→k<w.heap.size)(m:Mv S ρ ρ' w w')(h1:¬S .frame)(h2:¬S .rest):FrAt w' ρ' f fb:=
 h.keep (fun _ hk=>hk.elim (fun e=>m.keeps hl e h1) (fun e=>m.keeps hl e h2))
theorem zF (w:World){r k:Nat}(cap:Nat)(buf:Array Value)(cl:Bool)(s t:Nat)(tm:Bool)(h:k≠r):(w.setChan r cap buf cl s t tm).heap[k]?=w.heap[k]?:=by
 simp only[World.setChan];rw[Array.getElem?_setIfInBounds_ne (Ne.symm h)]
theorem Mv.setChan {S:Role→Prop}{ρ:zA}{w:World}(hl:∀k,ρ k≠none→k<w.heap.size){r:Nat}{o:Role}(hr:ρ r=some o)(hS:S o)(cap:Nat)(buf:Array Value)(cl:Bool)(s t:Nat)(tm:Bool):Mv S ρ ρ w (w.setChan r cap buf cl s t tm):=
 ⟨(cP0 _ w).setChan (fun _=>⟨o,hr,hS⟩) cap buf cl s t tm,fun _ _=>Or.inl rfl,fun k hk=>by simpa[World.setChan] using hl k hk⟩
theorem FramesAt.push {w:World}{ρ:zA}{vs:List Value}{l:List Fr}{f:Fr}{fb:Nat}(h:FramesAt w ρ vs l)(hf:FrAt w ρ f fb):FramesAt w ρ (vs++[ptr fb]) (l++[f]):=by
 refine⟨by simp[h.1],fun i g hg=>?_⟩;by_cases hi:i<l.length
 ·rw[oO0 hi] at hg;rw[oO0 (by rw[h.1];exact hi)];exact h.2 i g hg
 ·rw[nO0 (by omega)] at hg;rw[nO0 (by rw[h.1];omega),h.1];by_cases e:i-l.length=0
  ·rw[e] at hg ⊢;simp only[List.getElem?_cons_zero,Option.some.injEq] at hg;subst hg;exact⟨fb,rfl,hf⟩
  ·rw[List.getElem?_eq_none (by simp;omega)] at hg;cases hg
theorem XN.setLink {w:World}{b:Nat}{ρ:zA}{σ:Net}(h:XN w b ρ σ){x y r:Nat}(hx:x<6)(hy:y<6)(hr:ρ r=some (.chan x y))(hv:w.cell? ⟨b,2+x*6+y,none⟩=some (.chan (some r)))(hn:iB σ.par x y=true)
  {buf:Array Value} {s t:Nat} {l:List Fr} (hf:FramesAt w ρ buf.toList l):
  XN (w.setChan r 2000 buf false s t false) b ρ {σ with q:=xB σ.q x y l}:=by
 have hrl:=h.lt r (by rw[hr];simp)
 have hrb:b≠r:=fun e=>by subst e;rw[h.net] at hr;cases hr
 have hbk:(w.setChan r 2000 buf false s t false).heap[b]?=w.heap[b]?:=zF w _ _ _ _ _ _ hrb;refine h.step (Mv.setChan (S:=fun o=>o=.chan x y) h.lt hr rfl _ _ _ _ _ _) (fun _=>False) (by rw[hbk];exact h.typ) (fun o=>(nP0 (w:=w) (a:=⟨b,o,none⟩) hbk).trans (h.fr o)) (fun o v _ hc=>pA hbk hc) rfl rfl id id (by simp) (by simp) (by simp)
  (fun u v hu hv'=>?_) (fun u c k _ _ _=>Or.inl ⟨rfl,id,by simp,by simp⟩) (fun c _=>Or.inl ⟨rfl,fun _ _ _=>id,fun _=>by simp,by simp⟩)
 by_cases e:u=x∧v=y
 ·right
  obtain⟨rfl,rfl⟩:=e;refine⟨_,pA hbk hv,?_⟩;simp only[put2_same];unfold LinkAt;rw[if_pos hn];exact⟨r,buf,s,t,rfl,hr,Go.Conc.heap_setChan w r _ _ _ _ _ _ hrl,hf.keep (fun k hk=>⟨zF w _ _ _ _ _ _ (fun e=>by subst e;rcases hk with hk | hk<;>(rw[hk] at hr;cases hr)),rfl⟩)⟩
 ·left
  refine⟨by simp only[jA _ _ e],id,?_⟩;intro e2;simp only[Role.chan.injEq] at e2;exact e e2
theorem sJ0 {w:World}{b:Nat}{ρ:zA}{σ:Net}(h:XN w b ρ σ){x y:Nat}(hx:x<6)(hy:y<6)(hn:iB σ.par x y=true)(hlen:(σ.q x y).length<2000)
  {f:Fr} {fb:Nat} (hf:FrAt w ρ f fb):
  Calls Tryz.prog 101 #[.pointer (some ⟨b,2,none⟩),int x,int y,ptr fb] w fun e w'=>e=.returned (.tuple #[])∧XN w' b ρ (σ.push x y f)∧Mv (fun o=>o=.chan x y) ρ ρ w w':=by
 obtain⟨v,h1,h2⟩:=h.link x y hx hy;unfold LinkAt at h2;rw[if_pos hn] at h2;obtain⟨r,buf,s,t,rfl,hrr,hch,hfr⟩:=h2;have hsz:buf.size=(σ.q x y).length:=by rw[←hfr.1];simp
 refine(tJ0 b r 2000 s t x y buf (ptr fb) w hx hy h1 hch (by omega)).mono ?_;rintro e w' ⟨rfl,rfl⟩
 refine⟨rfl,?_,Mv.setChan (S:=fun o=>o=.chan x y) h.lt hrr rfl _ _ _ _ _ _⟩
 exact h.setLink hx hy hrr h1 hn (by
  have:=hfr.push hf
  simpa using this)
theorem takeX {w:World}{b:Nat}{ρ:zA}{σ:Net}(h:XN w b ρ σ){x y:Nat}(hx:x<6)(hy:y<6)(hn:iB σ.par x y=true){f:Fr}{l:List Fr}(hq:σ.q x y=f::l):
  Calls Tryz.prog 91 #[.pointer (some ⟨b,2,none⟩),int x,int y] w fun e w'=>∃fb,e=.returned (.tuple #[ptr fb,.bool true])∧XN w' b ρ {σ with q:=xB σ.q x y l}∧Mv (fun o=>o=.chan x y) ρ ρ w w'∧FrAt w' ρ f fb:=by
 obtain⟨v,h1,h2⟩:=h.link x y hx hy;unfold LinkAt at h2;rw[if_pos hn] at h2;obtain⟨r,buf,s,t,rfl,hrr,hch,hfr⟩:=h2;have hsz:buf.size=l.length+1:=by have:=hfr.1;rw[hq] at this;simpa using this
 obtain⟨fb,e1,e2⟩:=hfr.2 0 f (by rw[hq];rfl);have hget:buf.getD 0 undef=ptr fb:=by
  have:buf[0]?=some (ptr fb):=by simpa using e1
  simp[this]
 refine(dF0 b r 2000 s t x y buf w hx hy h1 hch (by omega)).mono ?_;rintro e w' ⟨rfl,rfl⟩
 refine⟨fb,by rw[hget],?_,Mv.setChan (S:=fun o=>o=.chan x y) h.lt hrr rfl _ _ _ _ _ _,e2.keep (fun k hk=>⟨zF w _ _ _ _ _ _ (fun e=>by subst e;rcases hk with hk | hk<;>(rw[hk] at hrr;cases hrr)),rfl⟩)⟩
 refine h.setLink hx hy hrr h1 hn ⟨by simp;omega,fun i g hg=>?_⟩;obtain⟨fb',g1,g2⟩:=hfr.2 (i+1) g (by rw[hq];simpa using hg)
 refine⟨fb',?_,g2⟩;have g1':buf[i+1]?=some (ptr fb'):=by simpa using g1
 have:(buf.extract 1 buf.size).toList[i]?=buf[i+1]?:=by
  rw[Array.getElem?_toList,Array.getElem?_extract];have hi:i+1<buf.size:=(tO0.1 g1').1;rw[if_pos (by omega),Nat.add_comm]
 rw[this];exact g1'
def lX (par:List Nat)(x:Nat)(but:Option Nat)(y:Nat):Bool:=decide (some y≠but) && iB par x y
def oN (σ:Net)(x:Nat)(but:Option Nat)(f:Fr)(k:Nat):Net:=σ.pushAll x ((List.range k).filter (lX σ.par x but)) f
theorem gC0 (σ:Net)(x:Nat)(but:Option Nat)(f:Fr)(k:Nat):oN σ x but f (k+1)=if lX σ.par x but k then (oN σ x but f k).push x k f else oN σ x but f k:=by
 unfold oN;rw[List.range_succ,List.filter_append];by_cases h:lX σ.par x but k=true
 ·simp[h,Net.pushAll,List.foldl_append]
 ·simp[h,Net.pushAll]
theorem vV (σ:Net)(x:Nat)(but:Option Nat)(f:Fr)(k:Nat):(oN σ x but f k).par=σ.par:=pushAll_par _ _ _ _
theorem oM0 (σ:Net)(x:Nat)(but:Option Nat)(f:Fr)(k a y:Nat)(hy:k≤y):(oN σ x but f k).q a y=σ.q a y:=by
 unfold oN;rw[cK _ _ _ _ (List.Pairwise.filter _ List.nodup_range),if_neg (by simp;omega)]
theorem zX {fr:Option Nat}{k:Nat}:((k:Int) != whr fr)=decide (some k≠fr):=by
 rw[qF0];apply decide_eq_decide.2
 cases fr with
 | none=>simp[whr]
 | some z=>simp[whr];omega
set_option maxRecDepth 100000 in
set_option maxHeartbeats 1000000 in
theorem jE0 {w:World}{b:Nat}{ρ:zA}{σ:Net}(h:XN w b ρ σ)(T:Tree σ.par){x:Nat}{fr:Option Nat}(hx:x<σ.n)(hlen:∀y,(σ.q x y).length<2000)
    {f:Fr} {fb:Nat} (hf:FrAt w ρ f fb):
    Calls Tryz.prog 104 #[.pointer (some ⟨b,0,none⟩),int x,int (whr fr),ptr fb] w fun e w'=>e=.returned (.tuple #[])∧XN w' b ρ (σ.spread x fr f)∧Mv (fun o=>∃y,o=.chan x y) ρ ρ w w':=by
  obtain⟨a,cap,ha,hpa⟩:=h.par;have h5:=T.1;have hbl:=h.lt b (by rw[h.net];simp)
  have hx6:x<6:=sO0 hx (gB T);have HX:=uA h;have HLT:=uA h.lt;clear h hpa;go_enter Tryz.func104,Tryz.ntmps104
  go_wp2_with (go_at_call 69;refine(jK _ _ _ _ h5).mono ?_;rintro e w1 ⟨rfl,ht1⟩)
  have hX1:=uA ((yA HX).calm ht1);have hM1:Hid (Mv (fun o=>∃y,o=.chan x y) ρ ρ w w1):=zQ0 (yA HLT) ht1;clear ht1 ha;go_loopw [14] (fun i wr=>∃k:Nat,k≤σ.n∧i=int k∧XN wr b ρ (oN σ x fr f k)∧Mv (fun o=>∃y,o=.chan x y) ρ ρ w wr) (fun i _=>σ.n-(intOf i).toNat)
  case atStart=>exact⟨0,by omega,rfl,yA hX1,yA hM1⟩
  case round=>
    obtain⟨k,hk,rfl,hXk,hMk⟩:=hrel;have hn:(σ.n:Int)=σ.par.length+1:=by simp[Net.n,size]
    by_cases hlt:k<σ.n
    · have hlt':(k:Int)<σ.par.length+1:=by omega
      have hk6:k<6:=sO0 hlt (gB T);obtain⟨a',cap',ha',hpa'⟩:=hXk.par;rw[vV] at ha' hpa';have hsu:=gC0 σ x fr f k;have hfb:FrAt wr ρ f fb:=hf.keep (fun k hk=>hk.elim (fun e=>hMk.keeps (yA HLT) e (by simp)) (fun e=>hMk.keeps (yA HLT) e (by simp)));have hlq:((oN σ x fr f k).q x k).length<2000:=by rw[oM0 _ _ _ _ _ _ _ (qO0 _)];exact hlen k
      have HXK:=uA hXk;have HMK:=uA hMk;have HPA:=uA hpa';have HSU:=uA hsu;have HFB:=uA hfb;clear hXk hMk hpa' hsu hfb;cases hd:decide (some k≠fr) with
      | false=>
        have hneq:((k:Int) != whr fr)=false:=by rw[zX,hd]
        go_wp2;go_roundw
        case rel=>
          have hok:lX σ.par x fr k=false:=by simp only[lX,hd,Bool.false_and]
          exact⟨k+1,by omega,by go_num,by rw[yA HSU,hok];exact yA HXK,yA HMK⟩
        case measure=>simp[intOf];omega
      | true=>
        have hneq:((k:Int) != whr fr)=true:=by rw[zX,hd]
        cases hnear:iB σ.par x k with
        | false=>
          go_wp2_with (go_at_call 90;refine(pD a' cap' σ.par x k _ h5 ?_).mono ?_;exact yA HPA;rw[hnear];rintro e w2 ⟨rfl,ht2⟩)
          have HX2:=uA ((yA HXK).calm ht2);have HM2:=uA ((yA HMK).trans (zQ0 (yA HXK).lt ht2));clear ht2 ha';go_roundw
          case rel=>
            have hok:lX σ.par x fr k=false:=by simp only[lX,hnear,Bool.and_false]
            exact⟨k+1,by omega,by go_num,by rw[yA HSU,hok];exact yA HX2,yA HM2⟩
          case measure=>simp[intOf];omega
        | true=>
          go_wp2_with (first
            | (go_at_call 90;refine(pD a' cap' σ.par x k _ h5 ?_).mono ?_;exact yA HPA;rw[hnear];rintro e w2 ⟨rfl,ht2⟩
               have HX2:=uA ((yA HXK).calm ht2);have HM2:=uA ((yA HMK).trans (zQ0 (yA HXK).lt ht2));have HFB2:=uA ((yA HFB).calm (yA HXK).lt ht2)
               clear ht2 ha')
            | (go_at_call 101;refine(sJ0 (x:=x) (y:=k) (f:=f) (fb:=fb) (yA HX2) hx6 hk6 (by rw[vV];exact hnear) hlq (yA HFB2)).mono ?_;rintro e w3 ⟨rfl,hX3,hM3⟩))
          have HX3:=uA hX3;have HM3:=uA ((yA HM2).trans (hM3.mono (fun r hr=>⟨k,hr⟩)));clear hX3 hM3;go_roundw
          case rel=>
            have hok:lX σ.par x fr k=true:=by simp only[lX,hd,hnear,Bool.and_self]
            exact⟨k+1,by omega,by go_num,by rw[yA HSU,hok];exact yA HX3,yA HM3⟩
          case measure=>simp[intOf];omega
    · have hke:k=σ.n:=by omega
      subst hke;have hlt':¬(σ.n:Int)<σ.par.length+1:=by omega
      have HXK:=uA hXk;have HMK:=uA hMk;clear hXk hMk;go_wp2;go_end0
      exact⟨rfl,yA HXK,yA HMK⟩
theorem xQ0:type_of% @OnlyT.of_calm:=@OnlyT.of_calm
theorem vQ0:type_of% @Front.of_calm:=@Front.of_calm
end Go.Proofs.YtodfcpblcpogiaaGreat

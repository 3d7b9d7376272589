import Derived.Test.YtodfcpblcpogiaaGreatSp
import Derived.Test.YtodfcpblcpogiaaGreatEv
namespace Go.Proofs.YtodfcpblcpogiaaGreat
open Go.RowKit
theorem tK {k:Nat}:∀{css:List (List Value)},(∀cs,cs∈css→cs.length=k)→∀{i:Nat} {cs:List Value},css[i]?=some cs→∀{o:Nat} (u:Value),o<k→css.flatten.set (i*k+o) u=(css.set i (cs.set o u)).flatten
 | [],_,i,cs,h,_,_,_=>by simp at h
 | c::css,hl,i,cs,h,o,u,ho=>by
  have hc:=hl c (lO0 ..);cases i with
  | zero=>
   simp only[List.getElem?_cons_zero,Option.some.injEq] at h;subst h;rw[List.flatten_cons,Nat.zero_mul,sP0,List.set_append_left _ _ (by omega)];rfl
  | succ i=>
   simp only[List.getElem?_cons_succ] at h;have ih:=tK (fun cs hcs=>hl cs (kO0 _ hcs)) h u ho;rw[List.flatten_cons,List.set_append_right _ _ (by rw[hc,Nat.add_mul];omega),hc,show (i+1)*k+o-k=i*k+o by rw[Nat.add_mul];omega,ih];rfl
theorem jN {R:RNet}(U:R.Uniq){i x s:Nat}{f:Fact}(hi:R.fa[i]?=some ⟨x,s,f⟩)(f':Fact):(R.mend x s f').fa=R.fa.set i ⟨x,s,f'⟩:=by
 refine List.ext_getElem? (fun j=>?_);unfold RNet.mend;rw[List.getElem?_map,List.getElem?_set];by_cases e:i=j
 ·subst e;rw[if_pos rfl,if_pos (rO0.1 hi).1,hi];simp[KFa.on]
 ·rw[if_neg e];cases hj:R.fa[j]? with
  | none=>rfl
  | some k=>
   have hk:KFa.on x s k=false:=by
    simp only[KFa.on,decide_eq_false_iff_not];intro hh;exact e (Uniq.at U hi hj ⟨hh.1.symm,hh.2.symm⟩)
   simp[hk]
abbrev cE0 (x s:Nat):Role→Prop:=fun z=>z=.known 0 0∨z=.kept x s
theorem RX.mended {w w':World}{b:Nat}{ρ ρ':zA}{R:RNet}(h:RX w b ρ R)(U:R.Uniq){i x s:Nat}{f:Fact}(f':Fact)(hi:R.fa[i]?=some ⟨x,s,f⟩){v:Value}{css:List (List Value)}(hv:w.cell? ⟨b,2,none⟩=some v)(hcss:css.length=R.fa.length)
  (hp:∀(j:Nat) a cs,R.fa[j]?=some a→css[j]?=some cs→FaC w ρ a cs) {cs':List Value} (m:Mv (cE0 x s) ρ ρ' w w') (hrow:RowAt w' ρ' (.known 0 0) 126 8 R.fa.length (css.set i cs').flatten v) (hF:FaC w' ρ' ⟨x,s,f'⟩ cs'):RX w' b ρ' (R.mend x s f'):=by
 have hb:b<w.heap.size:=h.lt b (by rw[h.net];simp)
 have hblk:w'.heap[b]?=w.heap[b]?:=m.touch.block b hb (fun ⟨r,h1,h2⟩=>by rw[h.net] at h1;cases h1;rcases h2 with h2 | h2<;>cases h2)
 have hc:∀o u,w.cell? ⟨b,o,none⟩=some u→w'.cell? ⟨b,o,none⟩=some u:=fun o u hu=>pA hblk hu;have hfa:=jN U hi f';have hlen:(R.mend x s f').fa.length=R.fa.length:=by rw[hfa];simp
 obtain⟨pb,po,cap,p0,p1,p2⟩:=h.pars;obtain⟨v1,g1,g2⟩:=h.frames;obtain⟨tcs,htyp⟩:=h.typ;refine⟨m.stay h.net (by simp) hb,⟨tcs,hblk.trans htyp⟩,fun o=>(nP0 (w:=w) (a:=⟨b,o,none⟩) hblk).trans (h.fr o),m.lt,⟨pb,po,cap,hc _ _ p0,m.stay p1 (by simp) (h.lt pb (by rw[p1];simp)),fun j hj=>m.cellZ p1 (by simp) (p2 j hj)⟩,⟨v1,hc _ _ g1,m.pieces g2 (by simp) (fun a cs _ hC=>m.frC hC (by simp) (by simp))⟩,⟨v,hc _ _ hv,css.set i cs',by rw[List.length_set,hlen,hcss],by rw[hlen];exact hrow,fun j a cs ha hcs=>?_⟩,fun c hcc=>m.clC (h.cl c hcc) h.net (by simp) (by simp) (fun k=>by simp) (by simp),hc _ _ h.closed⟩;rw[hfa,List.getElem?_set] at ha;rw[List.getElem?_set] at hcs;by_cases e:i=j
 ·subst e;have hil:=(rO0.1 hi).1;rw[if_pos rfl,if_pos hil] at ha;rw[if_pos rfl,if_pos (by omega)] at hcs;cases ha;cases hcs;exact hF
 ·rw[if_neg e] at ha hcs;refine m.faC (hp j a cs ha hcs) (by simp) ?_;rintro(hh | hh)
  ·cases hh
  ·simp only[Role.kept.injEq] at hh;exact e (Uniq.at U hi ha ⟨hh.1.symm,hh.2.symm⟩)
def FactAt (w:World)(b:Nat)(ρ:zA)(σ:Net)(x s:Nat)(f:Fact)(i g n cap:Nat):Prop:=∃(R:RNet) (css:List (List Value)),RX w b ρ R∧R.net=σ∧R.Okay∧R.fa[i]?=some ⟨x,s,f⟩∧n=R.fa.length∧w.cell? ⟨b,2,none⟩=some (.slice (some ⟨g,0,none⟩) n cap)∧css.length=n∧RowAt w ρ (.known 0 0) 126 8 n css.flatten (.slice (some ⟨g,0,none⟩) n cap)∧∀(j:Nat) a cs,R.fa[j]?=some a→css[j]?=some cs→FaC w ρ a cs
section
variable {w w' : World} {b : Nat} {ρ ρ' : Nat → Option Role} {σ : Net} {x s i g n cap : Nat} {f : Fact}
theorem FactAt.rg (h:FactAt w b ρ σ x s f i g n cap):RG w b ρ σ:=by
 obtain⟨R,css,h1,h2,h3,_⟩:=h;exact⟨R,h1,h2,h3⟩
theorem FactAt.row (h:FactAt w b ρ σ x s f i g n cap):w.cell? ⟨b,2,none⟩=some (.slice (some ⟨g,0,none⟩) n cap)∧i<n∧n≤48:=by
 obtain⟨R,css,h1,h2,h3,h4,rfl,h6,_⟩:=h;exact⟨h6,(rO0.1 h4).1,h3.len⟩
theorem FactAt.role (h:FactAt w b ρ σ x s f i g n cap):ρ g=some (.known 0 0):=by
 obtain⟨R,css,h1,h2,h3,h4,rfl,h6,h7,h8,_⟩:=h;exact h8.2 g rfl
theorem FactAt.fz (h:FactAt w b ρ σ x s f i g n cap)(o:Nat):w.frozen? ⟨g,o,none⟩=false:=by
 obtain⟨R,css,h1,h2,h3,h4,rfl,h6,h7,h8,_⟩:=h;exact h8.1.frozenAt o
theorem FactAt.cells (h:FactAt w b ρ σ x s f i g n cap):∃fv kv,FlAt w ρ fv f.fl∧NewsRow w ρ (.kept x s) f.kept kv∧w.cell? ⟨g,i*8,none⟩=some (int x)∧w.cell? ⟨g,i*8+1,none⟩=some (int s)∧w.cell? ⟨g,i*8+2,none⟩=some (int f.age)∧w.cell? ⟨g,i*8+3,none⟩=some fv∧w.cell? ⟨g,i*8+4,none⟩=some (int (whr f.way))∧w.cell? ⟨g,i*8+5,none⟩=some kv∧w.cell? ⟨g,i*8+6,none⟩=some (int f.more)∧w.cell? ⟨g,i*8+7,none⟩=some (.bool f.waits):=by
 obtain⟨R,css,h1,h2,h3,h4,rfl,h6,h7,h8,h9⟩:=h;obtain⟨g',cap',cs,e,_,⟨fv,kv,k1,k2,rfl⟩,hcell⟩:=(show PiecesAt w ρ (.known 0 0) 126 8 (FaC w ρ) R.fa (.slice (some ⟨g,0,none⟩) R.fa.length cap) from ⟨css,h7,h8,h9⟩).at FaC.len h4;cases e
 exact⟨fv,kv,k1,k2,hcell 0 _ rfl,hcell 1 _ rfl,hcell 2 _ rfl,hcell 3 _ rfl,hcell 4 _ rfl,hcell 5 _ rfl,hcell 6 _ rfl,hcell 7 _ rfl⟩
theorem RG.factAt (h:RG w b ρ σ)(hk:σ.kn x s=some f):∃i g n cap,FactAt w b ρ σ x s f i g n cap∧Calls Tryz.prog 39 #[.pointer (some ⟨b,0,none⟩),int x,int s] w fun e w'=>e=.returned (int i)∧w'=w:=by
 obtain⟨R,h1,rfl,h3⟩:=h;obtain⟨i,k1,k2,k3⟩:=lS hk;obtain⟨v,g1,g2⟩:=h1.facts;obtain⟨g,cap,cs,e,_⟩:=g2.at FaC.len k3;subst e;obtain⟨css,c1,c2,c3⟩:=g2;refine⟨i,g,_,cap,⟨R,css,h1,rfl,h3,k3,rfl,g1,c1,c2,c3⟩,?_⟩;have:=qO b R.fa.length _ _ x s w h1.factHeads (by have:=h3.len;omega);rw[←k2];exact this
theorem RG.noFact (h:RG w b ρ σ)(hk:σ.kn x s=none):Calls Tryz.prog 39 #[.pointer (some ⟨b,0,none⟩),int x,int s] w fun e w'=>e=.returned (int (-1))∧w'=w:=by
 obtain⟨R,h1,rfl,h3⟩:=h;have:=qO b R.fa.length _ _ x s w h1.factHeads (by have:=h3.len;omega);have e:=iA0 hk;unfold RNet.idx at e;rw[e] at this;exact this
theorem FactAt.poke (h:FactAt w b ρ σ x s f i g n cap){o:Nat}(ho:o<8){u:Value}{f':Fact}(hF:∀fv kv,FlAt w ρ fv f.fl→NewsRow w ρ (.kept x s) f.kept kv→FaC w ρ ⟨x,s,f'⟩ ([int x,int s,int f.age,fv,int (whr f.way),kv,int f.more,.bool f.waits].set o u)):FactAt (w.setCell ⟨g,i*8+o,none⟩ u) b ρ (σ.know x s (some f')) x s f' i g n cap∧Mv (fun z=>z=.known 0 0) ρ ρ w (w.setCell ⟨g,i*8+o,none⟩ u):=by
 obtain⟨R,css,h1,rfl,h3,h4,rfl,h6,h7,h8,h9⟩:=h;have hg:ρ g=some (.known 0 0):=h8.2 g rfl;have m0:Mv (fun z=>z=.known 0 0) ρ ρ w (w.setCell ⟨g,i*8+o,none⟩ u):=yQ0 (S:=fun z=>z=.known 0 0) h1.lt hg rfl _ _;have m:Mv (cE0 x s) ρ ρ w (w.setCell ⟨g,i*8+o,none⟩ u):=m0.mono (fun r hr=>Or.inl hr);obtain⟨cs,hcs⟩:∃cs,css[i]?=some cs:=⟨_,pO0 (by have:=(rO0.1 h4).1;omega)⟩;have hC:=h9 i _ cs h4 hcs;have hall:∀cs,cs∈css→cs.length=8:=fun cs hm=>by
  obtain⟨j,hj⟩:=List.getElem?_of_mem hm;have hjl:j<css.length:=(rO0.1 hj).1;obtain⟨a',ha'⟩:∃a',R.fa[j]?=some a':=⟨_,pO0 (by omega)⟩;exact FaC.len a' cs (h9 j a' cs ha' hj)
 have hrow:RowAt (w.setCell ⟨g,i*8+o,none⟩ u) ρ (.known 0 0) 126 8 R.fa.length (css.set i (cs.set o u)).flatten (.slice (some ⟨g,0,none⟩) R.fa.length cap):=by
  refine⟨?_,h8.2⟩;rw[←tK hall hcs u ho];exact(h8.1.stored _ _).1
 obtain⟨fv,kv,k1,k2,rfl⟩:=hC;have hF':=m0.faC (hF fv kv k1 k2) (by simp) (by simp);have hX:=h1.mended h3.uniq f' h4 h6 h7 h9 m hrow hF';refine⟨⟨_,_,hX,rA0 f' (by unfold RNet.kn;intro e;rw[Option.map_eq_none_iff,List.find?_eq_none] at e;exact absurd (e _ (vP0 h4)) (by simp[KFa.on])),h3.mend _ _ _,?_,?_,pA (zB w _ (fun e=>by have:=h1.net;rw[e,hg] at this;cases this)) h6,?_,hrow,?_⟩,m0⟩
 ·rw[jN h3.uniq h4,List.getElem?_set,if_pos rfl,if_pos (rO0.1 h4).1]
 ·rw[jN h3.uniq h4,List.length_set]
 ·rw[List.length_set,h7]
 ·intro j a cs' ha hcs';rw[jN h3.uniq h4,List.getElem?_set] at ha;rw[List.getElem?_set] at hcs';by_cases e:i=j
  ·subst e;have hil:=(rO0.1 h4).1;rw[if_pos rfl,if_pos hil] at ha;rw[if_pos rfl,if_pos (by omega)] at hcs';cases ha;cases hcs'
   exact hF'
  ·rw[if_neg e] at ha hcs';exact m0.faC (h9 j a cs' ha hcs') (by simp) (by simp)
theorem FactAt.pokeMore (h:FactAt w b ρ σ x s f i g n cap)(z:Int):FactAt (w.setCell ⟨g,i*8+6,none⟩ (int z)) b ρ (σ.know x s (some {f with more:=z})) x s {f with more:=z} i g n cap∧Mv (fun z=>z=.known 0 0) ρ ρ w (w.setCell ⟨g,i*8+6,none⟩ (int z)):=
 h.poke (by omega) (fun fv kv h1 h2=>⟨fv,kv,h1,h2,rfl⟩)
theorem FactAt.pokeWaits (h:FactAt w b ρ σ x s f i g n cap)(z:Bool):FactAt (w.setCell ⟨g,i*8+7,none⟩ (.bool z)) b ρ (σ.know x s (some {f with waits:=z})) x s {f with waits:=z} i g n cap∧Mv (fun z=>z=.known 0 0) ρ ρ w (w.setCell ⟨g,i*8+7,none⟩ (.bool z)):=
 h.poke (by omega) (fun fv kv h1 h2=>⟨fv,kv,h1,h2,rfl⟩)
theorem FactAt.pokeNil (h:FactAt w b ρ σ x s f i g n cap):FactAt (w.setCell ⟨g,i*8+5,none⟩ rA) b ρ (σ.know x s (some {f with kept:=[]})) x s {f with kept:=[]} i g n cap∧Mv (fun z=>z=.known 0 0) ρ ρ w (w.setCell ⟨g,i*8+5,none⟩ rA):=
 h.poke (by omega) (fun fv kv h1 h2=>⟨fv,rA,h1,⟨⟨rfl,Or.inl ⟨rfl,rfl⟩⟩,fun g hg=>by cases hg⟩,rfl⟩)
end
section
variable {w w' : World} {b : Nat} {ρ ρ' : Nat → Option Role} {σ : Net} {x s i g n cap : Nat} {f : Fact}
theorem FactAt.grow (h:FactAt w b ρ σ x s f i g n cap){kv:Value}(hkc:w.cell? ⟨g,i*8+5,none⟩=some kv){e:News}{w1 w2:World}{gk cp:Nat}(t1:qA w w1)(hg:xF 0 129 6 kv (f.kept.length+1) (f.kept.flatMap News.encR++e.encR) w1 gk cp w2):
  RG (w2.setCell ⟨g,i*8+5,none⟩ (.slice (some ⟨gk,0,none⟩) (f.kept.length+1) cp)) b (iA ρ gk (.kept x s)) (σ.know x s (some {f with kept:=f.kept++[e]}))∧Mv (cE0 x s) ρ (iA ρ gk (.kept x s)) w (w2.setCell ⟨g,i*8+5,none⟩ (.slice (some ⟨gk,0,none⟩) (f.kept.length+1) cp)):=by
 have hrole:=h.role;obtain⟨fv,kv',k1,k2,_,_,_,_,_,k5,_⟩:=h.cells;rw[hkc] at k5;cases k5
 obtain⟨R,css,h1,rfl,h3,h4,rfl,h6,h7,h8,h9⟩:=h;obtain⟨gown,gt,glt⟩:=hg;have hgr:ρ gk=some (.kept x s)∨w.heap.size≤gk:=by
  rcases gt with⟨hv,_⟩ | ⟨hv,_⟩
  ·exact Or.inl (k2.2 gk hv)
  ·right;rw[hv];exact t1.size
 have hgl:g<w.heap.size:=h1.lt g (by rw[hrole];simp)
 have hgg:g≠gk:=by
  rcases hgr with e1 | e1
  ·intro e2;rw[←e2,hrole] at e1;cases e1
  ·omega
 have t2:Touch (fun j=>j=gk) w1 w2:=by
  rcases gt with⟨_,t⟩ | ⟨_,t⟩
  ·exact t
  ·exact t.mono (fun _ _ f=>f.elim)
 have hrl:∀j,j<w.heap.size→iA ρ gk (.kept x s) j=ρ j:=fun j hj=>by
  unfold iA;split
  ·rename_i e1;subst e1
   rcases hgr with e2 | e2
   ·exact e2.symm
   ·omega
  ·rfl
 have mA:Mv (fun z=>z=.kept x s) ρ (iA ρ gk (.kept x s)) w w2:=by
  refine⟨⟨t2.os.trans t1.os,t2.tape.trans t1.tape,t2.output.trans t1.output,mO0 t1.size t2.size,fun j hj hs=>?_⟩,fun j hj=>Or.inl (hrl j hj),fun j hj=>?_⟩
  ·have hne:j≠gk:=fun e1=>by
    subst e1;rcases hgr with e2 | e2
    ·exact hs ⟨_,e2,rfl⟩
    ·omega
   exact(t2.block j (sO0 hj t1.size) hne).trans (t1.block j hj id)
  ·unfold iA at hj;split at hj
   ·rename_i e1;rw[e1];exact glt
   ·exact sO0 (h1.lt j hj) (mO0 t1.size t2.size)
 obtain⟨u,hu⟩:∃u,u=Value.slice (some ⟨gk,0,none⟩) (f.kept.length+1) cp:=⟨_,rfl⟩;rw[←hu];have hg2:iA ρ gk (.kept x s) g=some (.known 0 0):=(hrl g hgl).trans hrole;have mB:Mv (fun z=>z=.known 0 0) (iA ρ gk (.kept x s)) (iA ρ gk (.kept x s)) w2 (w2.setCell ⟨g,i*8+5,none⟩ u):=yQ0 (S:=fun z=>z=.known 0 0) mA.lt hg2 rfl _ _;have m:Mv (cE0 x s) ρ (iA ρ gk (.kept x s)) w (w2.setCell ⟨g,i*8+5,none⟩ u):=(mA.mono (fun r hr=>Or.inr hr)).trans (mB.mono (fun r hr=>Or.inl hr));obtain⟨cs,hcs⟩:∃cs,css[i]?=some cs:=⟨_,pO0 (by have:=(rO0.1 h4).1;omega)⟩;have hC:=h9 i _ cs h4 hcs;have hall:∀cs,cs∈css→cs.length=8:=fun cs hm=>by
  obtain⟨j,hj⟩:=List.getElem?_of_mem hm;have hjl:j<css.length:=(rO0.1 hj).1;obtain⟨a',ha'⟩:∃a',R.fa[j]?=some a':=⟨_,pO0 (by omega)⟩;exact FaC.len a' cs (h9 j a' cs ha' hj)
 have hrow:RowAt (w2.setCell ⟨g,i*8+5,none⟩ u) (iA ρ gk (.kept x s)) (.known 0 0) 126 8 R.fa.length (css.set i (cs.set 5 u)).flatten (.slice (some ⟨g,0,none⟩) R.fa.length cap):=by
  have h8':=mA.rowZ h8 (by simp);refine⟨?_,h8'.2⟩;rw[←tK hall hcs u (by omega)];exact(h8'.1.stored _ _).1
 obtain⟨fv',kv',q1,q2,rfl⟩:=hC;have hF:FaC (w2.setCell ⟨g,i*8+5,none⟩ u) (iA ρ gk (.kept x s)) ⟨x,s,{f with kept:=f.kept++[e]}⟩ ([int x,int s,int f.age,fv',int (whr f.way),kv',int f.more,.bool f.waits].set 5 u):=by
  refine⟨fv',u,m.fl q1 (by simp),?_,rfl⟩;refine mB.rowZ ?_ (by simp);refine⟨?_,fun g' hg'=>?_⟩
  ·rw[hu];have:(f.kept++[e]).flatMap News.encR=f.kept.flatMap News.encR++e.encR:=by simp
   simp only[this,hO0,gO0,List.length_nil];exact gown
  ·rw[hu] at hg';cases hg'
   simp[iA]
 have hX:=h1.mended h3.uniq {f with kept:=f.kept++[e]} h4 h6 h7 h9 m hrow hF;exact⟨⟨_,hX,rA0 _ (by unfold RNet.kn;intro e;rw[Option.map_eq_none_iff,List.find?_eq_none] at e;exact absurd (e _ (vP0 h4)) (by simp[KFa.on])),h3.mend _ _ _⟩,m⟩
end
theorem gF0 {w:World}{b:Nat}{ρ:zA}{R:RNet}(h:RX w b ρ R){c k:Nat}(hc:c<4)(hk:k<2)(e:News)(hn:(R.cl c).log.length<2199023255552)(ht:((R.cl c).told k).length<2199023255552):
  Calls Tryz.prog 41 #[.pointer (some ⟨b,0,none⟩),int (2*c+k:Nat),e.val] w fun r w'=>r=.returned (.tuple #[])∧∃ρ',RX w' b ρ' (R.tell (2*c+k) e)∧Mv (eB c k) ρ ρ' w w'∧∀v,w.cell? ⟨b,2,none⟩=some v→w'.cell? ⟨b,2,none⟩=some v:=by
 have h2c:(2*c+k)/2=c:=by omega
 have h2k:(2*c+k)%2=k:=by omega
 unfold RNet.tell Cli.tell;rw[h2c,h2k];obtain⟨vt,a1,a2⟩:=(h.cl c hc).told k hk;obtain⟨vl,g1,g2⟩:=(h.cl c hc).log;have hvt:vt.ownBlock≠some b:=fun e=>by have:=a2.2 b e;rw[h.net] at this;cases this
 have hvl:vl.ownBlock≠some b:=fun e=>by have:=g2.2 b e;rw[h.net] at this;cases this
 refine(lL b c k e ((R.cl c).told k) (R.cl c).log.length vt vl _ _ w hc hk h.fr a1 (uQ0 a2) a2.1 hvt g1 g2.1 hvl (fun g hg e=>?_) hn ht).mono ?_
 ·have:=a2.2 g hg;rw[g2.2 g e] at this;cases this
 ·rintro r w' ⟨rfl,⟨ho,t⟩ | ⟨ho,w1,w2,g,cap,w4,w5,g',cap',t1,hg,t4,hg',rfl⟩⟩
  ·rw[if_pos ho,mI];exact⟨rfl,ρ,h.calm t,zQ0 h.lt t,fun v hv=>t.cell (p:=⟨b,2,none⟩) id hv⟩
  ·rw[if_neg (by rw[ho];simp)]
   obtain⟨h1,G1⟩:=h.toldRow hc hk a1 a2 t1 hg;have c1:=G1.cell _ _ (by omega) g1;obtain⟨vl',d1,d2⟩:=(h1.cl c hc).log;rw[c1] at d1;cases d1
   have hcl:(R.setCl c {R.cl c with told:=put (R.cl c).told k ((R.cl c).told k++[e])}).cl c={R.cl c with told:=put (R.cl c).told k ((R.cl c).told k++[e])}:=put_same _ _ _;have hlg:((R.setCl c {R.cl c with told:=put (R.cl c).told k ((R.cl c).told k++[e])}).cl c).log=(R.cl c).log:=by rw[hcl]
   have h2:=h1.logged hc (en:=⟨k,0,e.ev⟩) (w1:=w4) (w2:=w5) (g:=g') (cap:=cap') c1 d2 t4 (by rw[hlg];exact hg');have G2:=yQ h1 (by simp) c1 d2 t4 (g:=g') (cap:=cap') (k:=(R.cl c).log.length+1) (all:=_) hg';rw[hlg,hcl] at h2;refine⟨rfl,_,?_,(G1.mv.mono (fun r hr=>by rcases hr with e | e<;>simp[eB,e])).trans (h2.2.mono (fun r hr=>by rcases hr with e | e<;>simp[eB,e])),fun v hv=>G2.cell _ _ (by omega) (G1.cell _ _ (by omega) hv)⟩
   have:=h2.1;unfold RNet.setCl at this ⊢;rw[jQ] at this;exact this
theorem jG0 {w:World}{b:Nat}{ρ:zA}{R:RNet}(h:RX w b ρ R){c k:Nat}(hc:c<4)(hk:k<2)(mo:Int)(hn:(R.cl c).log.length<2199023255552):
  Calls Tryz.prog 40 #[.pointer (some ⟨b,0,none⟩),int (2*c+k:Nat),int mo] w fun e w'=>e=.returned (.tuple #[])∧∃ρ',RX w' b ρ' (R.lose (2*c+k) mo)∧Mv (eB c k) ρ ρ' w w'∧∀v,w.cell? ⟨b,2,none⟩=some v→w'.cell? ⟨b,2,none⟩=some v:=by
 have h2c:(2*c+k)/2=c:=by omega
 have h2k:(2*c+k)%2=k:=by omega
 unfold RNet.lose Cli.lose;rw[h2c,h2k];by_cases hmo:0<mo
 ·rw[if_pos hmo];obtain⟨vl,g1,g2⟩:=(h.cl c hc).log;have hvb:vl.ownBlock≠some b:=fun e=>by have:=g2.2 b e;rw[h.net] at this;cases this
  refine(bL b c k (R.cl c).log.length mo vl _ w hc hk h.fr hmo g1 g2.1 hn hvb).mono ?_;rintro e w' ⟨rfl,w1,w2,g,cap,t1,hg,rfl⟩
  have:=h.logged hc (en:=⟨k,mo,Ev.zero⟩) g1 g2 t1 hg;have G2:=yQ h (by simp) g1 g2 t1 hg;exact⟨rfl,_,this.1,this.2.mono (fun r hr=>by rcases hr with e | e<;>simp[eB,e]),fun v hv=>G2.cell _ _ (by omega) hv⟩
 ·rw[if_neg hmo,mI];refine(zM b _ mo w (by omega)).mono ?_;rintro e w' ⟨rfl,rfl⟩
  exact⟨rfl,ρ,h,aP0 h.lt,fun _ hv=>hv⟩
section
variable {w w' : World} {b : Nat} {ρ ρ' : Nat → Option Role} {σ : Net} {x s i g n cap : Nat} {f : Fact}
theorem FactAt.of {R:RNet}(h1:RX w b ρ R)(h3:R.Okay)(h4:R.fa[i]?=some ⟨x,s,f⟩)(hn:n=R.fa.length)(h6:w.cell? ⟨b,2,none⟩=some (.slice (some ⟨g,0,none⟩) n cap)):FactAt w b ρ R.net x s f i g n cap:=by
 subst hn;obtain⟨v,g1,css,c1,c2,c3⟩:=h1.facts;rw[h6] at g1;cases g1
 exact⟨R,css,h1,rfl,h3,h4,rfl,h6,c1,c2,c3⟩
theorem FactAt.tell (h:FactAt w b ρ σ x s f i g n cap){c k:Nat}(hc:c<4)(hk:k<2)(e:News)(hn:(σ.cl c).log.length<2199023255552)(ht:((σ.cl c).told k).length<2199023255552):Calls Tryz.prog 41 #[.pointer (some ⟨b,0,none⟩),int (2*c+k:Nat),e.val] w fun r w'=>r=.returned (.tuple #[])∧∃ρ',FactAt w' b ρ' (σ.tell (2*c+k) e) x s f i g n cap∧Mv (eB c k) ρ ρ' w w':=by
 obtain⟨R,css,h1,rfl,h3,h4,h5,h6,h7,h8,h9⟩:=h;refine(gF0 h1 hc hk e hn ht).mono ?_;rintro r w' ⟨rfl,ρ',k1,k2,k3⟩
 exact⟨rfl,ρ',FactAt.of k1 (h3.setCl _ _) h4 h5 (k3 _ h6),k2⟩
theorem FactAt.lose (h:FactAt w b ρ σ x s f i g n cap){c k:Nat}(hc:c<4)(hk:k<2)(mo:Int)(hn:(σ.cl c).log.length<2199023255552):Calls Tryz.prog 40 #[.pointer (some ⟨b,0,none⟩),int (2*c+k:Nat),int mo] w fun r w'=>r=.returned (.tuple #[])∧∃ρ',FactAt w' b ρ' (σ.lose (2*c+k) mo) x s f i g n cap∧Mv (eB c k) ρ ρ' w w':=by
 obtain⟨R,css,h1,rfl,h3,h4,h5,h6,h7,h8,h9⟩:=h;refine(jG0 h1 hc hk mo hn).mono ?_;rintro r w' ⟨rfl,ρ',k1,k2,k3⟩
 exact⟨rfl,ρ',FactAt.of k1 (h3.setCl _ _) h4 h5 (k3 _ h6),k2⟩
theorem FactAt.calm (h:FactAt w b ρ σ x s f i g n cap)(t:qA w w'):FactAt w' b ρ σ x s f i g n cap:=by
 obtain⟨R,css,h1,rfl,h3,h4,h5,h6,h7,h8,h9⟩:=h;exact FactAt.of (h1.calm t) h3 h4 h5 (t.cell (p:=⟨b,2,none⟩) id h6)
end
def cX (x s:Nat):Option Role→Bool
 | some (.kept a c)=>decide (a=x∧c=s)
 | _=>false
theorem zW {x s:Nat}{r:Option Role}(h:cX x s r=true):r=some (.kept x s):=by
 unfold cX at h;split at h
 ·simp only[oP0] at h;rw[h.1,h.2]
 ·cases h
def retag (x s:Nat)(ρ:zA):zA:=fun i=>if cX x s (ρ i) then some .rest else ρ i
theorem fZ {w:World}{ρ:zA}(hl:∀k,ρ k≠none→k<w.heap.size)(x s:Nat):Mv (fun z=>z=.kept x s) ρ (retag x s ρ) w w:=by
 refine⟨cP0 _ _,fun k _=>?_,fun k hk=>?_⟩
 ·unfold retag;split
  ·rename_i e;exact Or.inr ⟨x,s,zW e,rfl,rfl⟩
  ·exact Or.inl rfl
 ·unfold retag at hk;split at hk
  ·rename_i e;exact hl k (by rw[zW e];simp)
  ·exact hl k hk
theorem RX.retag {w:World}{b:Nat}{ρ:zA}{R:RNet}(h:RX w b ρ R){x s:Nat}(hno:∀k∈R.fa,¬(k.b=x∧k.s=s)):RX w b (Go.Proofs.YtodfcpblcpogiaaGreat.retag x s ρ) R:=by
 have m:=fZ h.lt x s;have hb:b<w.heap.size:=h.lt b (by rw[h.net];simp)
 obtain⟨pb,po,cap,p0,p1,p2⟩:=h.pars;obtain⟨v1,g1,g2⟩:=h.frames;obtain⟨v2,f1,f2⟩:=h.facts;refine⟨m.stay h.net (by simp) hb,h.typ,h.fr,m.lt,⟨pb,po,cap,p0,m.stay p1 (by simp) (h.lt pb (by rw[p1];simp)),p2⟩,⟨v1,g1,m.pieces g2 (by simp) (fun a cs _ hF=>m.frC hF (by simp) (by simp))⟩,⟨v2,f1,m.pieces f2 (by simp) (fun a cs ha hF=>m.faC hF (by simp) (fun e=>by simp only[Role.kept.injEq] at e;exact hno a ha e))⟩,fun c hc=>m.clC (h.cl c hc) h.net (by simp) (by simp) (fun k=>by simp) (by simp),h.closed⟩
theorem NewsRow.retag {w:World}{ρ:zA}{x s:Nat}{l:List News}{v:Value}(h:NewsRow w ρ (.kept x s) l v):NewsRow w (Go.Proofs.YtodfcpblcpogiaaGreat.retag x s ρ) .rest l v:=
 ⟨h.1,fun g hg=>by unfold Go.Proofs.YtodfcpblcpogiaaGreat.retag;rw[if_pos (by rw[h.2 g hg];simp[cX])]⟩
theorem NewsRow.nil {w:World}{ρ:zA}{r:Role}:NewsRow w ρ r [] rA:=⟨⟨rfl,Or.inl ⟨rfl,rfl⟩⟩,fun g hg=>by cases hg⟩
abbrev aE0 (x s:Nat):Role→Prop:=fun z=>z=.net∨z=.known 0 0∨z=.kept x s
theorem xB0 {w:World}{b:Nat}{ρ:zA}{R:RNet}(h:RX w b ρ R)(x s:Nat)(hn:R.fa.length≤1000):
  Calls Tryz.prog 76 #[.pointer (some ⟨b,0,none⟩),int x,int s] w fun e w'=>e=.returned (.tuple #[])∧∃ρ',RX w' b ρ' (R.forget x s)∧Mv (aE0 x s) ρ ρ' w w'∧∀l v,NewsRow w ρ (.kept x s) l v→NewsRow w' ρ' .rest l v:=by
 refine(uN h x s hn).mono ?_;rintro e w' ⟨rfl,ρ1,h1,m1⟩
 refine⟨rfl,_,h1.retag (x:=x) (s:=s) (fun k hk e=>?_),(m1.mono (fun r hr=>hr.elim Or.inl (fun e=>Or.inr (Or.inl e)))).trans ((fZ h1.lt x s).mono (fun r hr=>Or.inr (Or.inr hr))),fun l v hv=>(NewsRow.retag (m1.rowZ hv (by simp)))⟩;have:=(dO0.1 hk).2;simp only[KFa.on,Bool.not_eq_true',decide_eq_false_iff_not] at this;exact this e
set_option maxRecDepth 100000 in
set_option maxHeartbeats 4000000 in
theorem oD0 {w:World}{b:Nat}{ρ:zA}{R:RNet}(h:RX w b ρ R){x s:Nat}{age:Int}{fl:List Tst}{way:Option Nat}{v3:Value}(hfl:FlAt w ρ v3 fl)(hn:R.fa.length≤1000):
    Calls Tryz.prog 42 #[.pointer (some ⟨b,0,none⟩),.agg #[int x,int s,int age,v3,int (whr way),rA,int 0,.bool false]] w fun e w'=>e=.returned (.tuple #[])∧∃ρ',RX w' b ρ' (R.learn x s ⟨age,fl,way,[],0,false⟩)∧Mv (aE0 x s) ρ ρ' w w'∧∀l v,NewsRow w ρ (.kept x s) l v→NewsRow w' ρ' .rest l v:=by
  have hv:FaC w ρ ⟨x,s,⟨age,fl,way,[],0,false⟩⟩ [int x,int s,int age,v3,int (whr way),rA,int 0,.bool false]:=⟨v3,rA,hfl,NewsRow.nil,rfl⟩;have ho:=hv.ones;obtain⟨v2,hv2⟩:∃v2,v2=int age:=⟨_,rfl⟩;obtain⟨v4,hv4⟩:∃v4,v4=int (whr way):=⟨_,rfl⟩;obtain⟨v5,hv5⟩:∃v5,v5=rA:=⟨_,rfl⟩;obtain⟨v6,hv6⟩:∃v6,v6=int 0:=⟨_,rfl⟩;obtain⟨v7,hv7⟩:∃v7,v7=Value.bool false:=⟨_,rfl⟩;rw[←hv2,←hv4,←hv5,←hv6,←hv7] at ho ⊢;have HVV:=uA (And.intro hv2 (And.intro hv4 (And.intro hv5 (And.intro hv6 hv7))));have HFL:=uA hfl;clear hv2 hv4 hv5 hv6 hv7 hv hfl;have o2:=ho v2 (by simp);have o3:=ho v3 (by simp);have o4:=ho v4 (by simp);have o5:=ho v5 (by simp);have o6:=ho v6 (by simp);have o7:=ho v7 (by simp);have HON:=uA ho;have hnon:ρ w.heap.size=none:=by
    cases hq:ρ w.heap.size with
    | none=>rfl
    | some r=>have:=h.lt w.heap.size (by rw[hq];simp);omega
  obtain⟨W,hW⟩:∃W,w.alloc (.cells #[int x,int s,v2,v3,v4,v5,v6,v7] 126)=W:=⟨_,rfl⟩;have hcal:qA w W:=by rw[←hW];exact(cP0 _ _).alloc _
  have hb0:W.heap[w.heap.size]?=some (.cells #[int x,int s,v2,v3,v4,v5,v6,v7] 126):=by rw[←hW];exact eP0 w _
  have c0:W.cell? ⟨w.heap.size,0,none⟩=some (int x):=xA hb0 0;have c1:W.cell? ⟨w.heap.size,1,none⟩=some (int s):=xA hb0 1;have HB0:=uA hb0;have HM0:Hid (Mv (aE0 x s) ρ ρ w W):=uA (zQ0 h.lt hcal);have HCAL:=uA hcal;have HXW:=uA (h.calm hcal);have HNN:=uA hnon;have HLN:=uA hn;clear ho h hnon hcal hb0 hn;go_enter Tryz.func42,Tryz.ntmps42
  go_wp2_with (go_at_call 76;(try rw[hW]);refine(xB0 (yA HXW) x s (yA HLN)).mono ?_;rintro e wx ⟨rfl,ρ2,h2,m2,n2⟩
               have HN2:=uA n2;have HX2:=uA h2;have HM2:=uA m2
               clear h2 m2 n2)
  have hbx:wx.heap[w.heap.size]?=some (.cells #[int x,int s,v2,v3,v4,v5,v6,v7] 126):=((yA HM2).touch.block _ (fP0 c0) (fun ⟨r,e,_⟩=>by rw[yA HNN] at e;cases e)).trans (yA HB0)
  obtain⟨vl,g1,css,k1,k2,k3⟩:=(yA HX2).facts;have hvb:vl.ownBlock≠some b:=fun e=>by have:=k2.2 b e;rw[(yA HX2).net] at this;cases this
  have hbl:b<wx.heap.size:=(yA HX2).lt b (by rw[(yA HX2).net];simp)
  have hfl:(R.forget x s).fa.length≤1000:=mO0 (R.forget_le x s) (yA HLN);have q0:wx.cell? ⟨w.heap.size,0,none⟩=some (int x):=xA hbx 0;have q1:wx.cell? ⟨w.heap.size,1,none⟩=some (int s):=xA hbx 1;have q2:wx.cell? ⟨w.heap.size,2,none⟩=some v2:=xA hbx 2;have q3:wx.cell? ⟨w.heap.size,3,none⟩=some v3:=xA hbx 3;have q4:wx.cell? ⟨w.heap.size,4,none⟩=some v4:=xA hbx 4;have q5:wx.cell? ⟨w.heap.size,5,none⟩=some v5:=xA hbx 5;have q6:wx.cell? ⟨w.heap.size,6,none⟩=some v6:=xA hbx 6;have q7:wx.cell? ⟨w.heap.size,7,none⟩=some v7:=xA hbx 7;have hone:vl.oneCell'=true:=k2.oneCell;have HRW:=uA k2;have HK3:=uA k3;have hFA:FaC wx ρ2 ⟨x,s,⟨age,fl,way,[],0,false⟩⟩ [int x,int s,v2,v3,v4,v5,v6,v7]:=by
    obtain⟨e2,e4,e5,e6,e7⟩:=yA HVV;rw[e2,e4,e5,e6,e7];exact⟨v3,rA,(yA HM2).fl ((yA HM0).fl (yA HFL) (by simp)) (by simp),NewsRow.nil,rfl⟩
  have HFA:=uA hFA;have HFZ:=uA (yA HX2).fr;obtain⟨ti,i3,z3,s3,b3⟩:=gQ;have I3:=uA i3;have Z3:=uA z3;have S3:=uA s3;have B3:=uA b3;clear i3 z3 s3 b3 k2 k3 hFA hbx c0 c1 hW;go_wp2
  go_region_law (first
    | (refine kB _ rfl _ _ 113 rfl 0 126 ti (.agg #[int 0,int 0,int 0,rA,int 0,rA,int 0,.bool false]) 8 96 Tryz.underlying113 (yA I3) (yA Z3) (yA S3) (yA B3) rfl (by decide) vl (R.forget x s).fa.length css.flatten rfl ?own ⟨wx.heap.size,0,none⟩ 1 1 [int x,int s,v2,v3,v4,v5,v6,v7] rfl rfl ?news ?one (by decide) ?h63 ?bytes ?base ?_
       case own=>exact eA (yA HRW).1 (((cP0 (fun _=>False) _).alloc _).drew) (fun _ _ f=>f)
       case news=>intro j u hj;exact yC wx [int x,int s,v2,v3,v4,v5,v6,v7] 126 j u hj
       case one=>exact yA HON
       case h63=>unfold maxLen;omega
       case bytes=>omega
       case base=>simp
       intro g2 cp2 w2 hg2;have hne:¬b=g2:=by
         rcases hg2.2.1 with⟨h,_⟩ | ⟨h,_⟩
         · intro e;exact hvb (by rw[h,e])
         · simp at h;omega
       have ht2:Touch (fun i=>i=g2) wx w2:=by
         rcases hg2.2.1 with⟨_,h⟩ | ⟨_,h⟩
         · exact bP0 (((cP0 _ _).alloc _).drew) h
         · exact(((cP0 (fun i=>i=g2) wx).alloc _).drew).calm h
       have dl2:w2.cell? ⟨b,2,none⟩=some vl:=ht2.cell (p:=⟨b,2,none⟩) hne g1;have fz2:w2.frozen? ⟨b,2,none⟩=false:=(nP0 (w:=wx) (a:=⟨b,2,none⟩) (ht2.block b hbl hne)).trans (yA HFZ _);have HG2:=uA hg2
       clear hg2 ht2))
  all_goals go_end0
  all_goals
    have hk:=(yA HX2).knows (yA HFA) g1 k1 (yA HRW) (yA HK3) (((cP0 (fun _=>False) wx).alloc _).drew) (yA HG2);exact⟨rfl,_,hk.1,((yA HM0).trans (yA HM2)).trans (hk.2.mono (fun r hr=>hr.elim Or.inl (fun e=>Or.inr (Or.inl e)))),fun l v hv=>hk.2.rowZ (yA HN2 l v (RowAt.still hv (yA HCAL) (fun _ f=>f.elim))) (by simp)⟩
section
variable {σ : Net} {x s : Nat} {e : News} {f : Fact}
theorem rH0 (h:σ.kn x s=none):σ.hear x e s=σ:=by unfold Net.hear;rw[h]
theorem xN0 (h:σ.kn x s=some f)(hm:lC f.fl e.ev=false):σ.hear x e s=σ:=by unfold Net.hear;rw[h];simp[hm]
theorem eK0 (h:σ.kn x s=some f){y:Nat}(hw:f.way=some y):σ.hear x e s=σ:=by unfold Net.hear;rw[h];simp[hw]
theorem oH0 (h:σ.kn x s=some f)(hm:lC f.fl e.ev=true)(hw:f.way=none)(hc:(f.waits || (decide ((σ.cl (s/2)).here≠some x) && decide (f.kept.length<6)))=true):σ.hear x e s=σ.know x s (some {f with kept:=f.kept++[e]}):=by
 unfold Net.hear;rw[h];simp only[hm,hw,decide_true,Bool.and_self,if_true];rw[if_pos hc]
theorem qH0 (h:σ.kn x s=some f)(hm:lC f.fl e.ev=true)(hw:f.way=none)(hc:(f.waits || (decide ((σ.cl (s/2)).here≠some x) && decide (f.kept.length<6)))=false)(hh:(σ.cl (s/2)).here≠some x):σ.hear x e s=σ.know x s (some {f with more:=f.more+1}):=by
 unfold Net.hear;rw[h];simp only[hm,hw,decide_true,Bool.and_self,if_true];rw[if_neg (by rw[hc];simp),if_pos hh]
theorem tH0 (h:σ.kn x s=some f)(hm:lC f.fl e.ev=true)(hw:f.way=none)(hwt:f.waits=false)(hh:(σ.cl (s/2)).here=some x):σ.hear x e s=σ.tell s e:=by
 unfold Net.hear;rw[h];simp only[hm,hw,decide_true,Bool.and_self,if_true];rw[if_neg (by rw[hwt,hh];simp),if_neg (by rw[hh];simp)]
end
def yE (σ:Net)(x:Nat)(e:News)(fr:Option Nat)(s y:Nat):Bool:=decide (some y≠fr) && (List.range s).any (σ.wants x e y)
section
variable {σ : Net} {x s : Nat} {e : News} {fr : Option Nat} {f : Fact}
theorem zV (y:Nat):yE σ x e fr (s+1) y=(yE σ x e fr s y || (decide (some y≠fr) && σ.wants x e y s)):=by
 unfold yE;rw[List.range_succ,List.any_append,List.any_cons,List.any_nil,Bool.or_false,Bool.and_or_distrib_left]
theorem zP (h:∀y,σ.wants x e y s=false):yE σ x e fr (s+1)=yE σ x e fr s:=by
 funext y
 rw[zV,h y,Bool.and_false,Bool.or_false]
theorem zC0 (h:σ.kn x s=none)(y:Nat):σ.wants x e y s=false:=by unfold Net.wants;rw[h]
theorem nI0 (h:σ.kn x s=some f)(hm:lC f.fl e.ev=false)(y:Nat):σ.wants x e y s=false:=by unfold Net.wants;rw[h];simp[hm]
theorem yC0 (h:σ.kn x s=some f)(hw:f.way=none)(y:Nat):σ.wants x e y s=false:=by unfold Net.wants;rw[h];simp[hw]
theorem dI0 (h:σ.kn x s=some f)(hm:lC f.fl e.ev=true){y:Nat}(hw:f.way=some y):yE σ x e fr (s+1)=put (yE σ x e fr s) y (yE σ x e fr s y || decide (some y≠fr)):=by
 funext z
 rw[zV];have hz:σ.wants x e z s=decide (y=z):=by
  unfold Net.wants;rw[h];simp[hm,hw]
 rw[hz];by_cases e1:z=y
 ·subst e1;rw[put_same];simp
 ·rw[kA _ _ e1,pP0 (show ¬y=z by omega),Bool.and_false,Bool.or_false]
end
def vD (g:Nat→Bool):Array Value:=#[.bool (g 0),.bool (g 1),.bool (g 2),.bool (g 3),.bool (g 4),.bool (g 5)]
theorem iB0 (g:Nat→Bool){y:Nat}(hy:y<6)(v:Bool):(vD g).setIfInBounds y (.bool v)=vD (put g y v):=by
 rcases(by omega:y=0∨y=1∨y=2∨y=3∨y=4∨y=5) with rfl | rfl | rfl | rfl | rfl | rfl<;>simp[vD,put]
theorem mT (g:Nat→Bool){y:Nat}(hy:y<6):(vD g)[y]?=some (.bool (g y)):=by
 rcases(by omega:y=0∨y=1∨y=2∨y=3∨y=4∨y=5) with rfl | rfl | rfl | rfl | rfl | rfl<;>rfl
theorem kF0 (σ:Net)(x:Nat)(e:News)(fr:Option Nat):vD (yE σ x e fr 0)=#[.bool false,.bool false,.bool false,.bool false,.bool false,.bool false]:=by
 have:∀y,yE σ x e fr 0 y=false:=fun y=>by unfold yE;simp
 simp[vD,this]
def yF (σ:Net)(x:Nat)(e:News)(fr:Option Nat)(k:Nat):List Nat:=(List.range k).filter (yE σ x e fr 8)
theorem vQ (σ:Net)(x:Nat)(e:News)(fr:Option Nat)(k:Nat):yF σ x e fr (k+1)=yF σ x e fr k++if yE σ x e fr 8 k then [k] else []:=by
 unfold yF;rw[List.range_succ,List.filter_append];cases h:yE σ x e fr 8 k
 ·rw[List.filter_cons_of_neg (by rw[h];simp)];simp
 ·rw[List.filter_cons_of_pos (by exact h)];simp
theorem eD0 {σ:Net}(G:Good σ)(x:Nat)(e:News)(fr:Option Nat):yF σ x e fr σ.n=σ.targets x e fr:=by
 have hs:σ.n≤6:=gB G.tree;have key:∀k,σ.n+k≤6→yF σ x e fr (σ.n+k)=yF σ x e fr σ.n:=by
  intro k;induction k with
  | zero=>intro _;rfl
  | succ k ih=>
   intro h;rw[show σ.n+(k+1)=(σ.n+k)+1 by omega,vQ,ih (by omega)];have:yE σ x e fr 8 (σ.n+k)=false:=by
    unfold yE;rw[Bool.and_eq_false_iff];right
    rw[List.any_eq_false];intro t _;unfold Net.wants;cases hk:σ.kn x t with
    | none=>simp
    | some f=>
     simp only[qP0,oP0,not_and];intro _ hw;have h1:=(G.facts x t f hk).way _ hw;have h2:=bB G.tree h1;have:σ.n=size σ.par:=rfl;omega
   rw[this];simp
 have h6:=key (6-σ.n) (by omega);rw[show σ.n+(6-σ.n)=6 by omega] at h6;rw[←h6];rfl
theorem nC0 {B:Nat}(g:Nat→Nat):∀l:List Nat,(∀y,g y≤B)→(l.map g).sum≤l.length*B
 | [],_=>by simp
 | y::l,h=>by
  have:=nC0 g l h;have:=h y;rw[List.map_cons,List.sum_cons,gO0,Nat.add_mul];omega
theorem sI {σ:Net}{B:Nat}(h:∀x y,(σ.q x y).length≤B):σ.waiting≤36*B:=by
 unfold Net.waiting
 have h1:=nC0 (B:=6*B) (fun x=>((List.range 6).map fun y=>(σ.q x y).length).sum) (List.range 6) (fun x=>by
  have:=nC0 (B:=B) (fun y=>(σ.q x y).length) (List.range 6) (fun y=>h x y);rw[List.length_range] at this
  exact this)
 rw[List.length_range] at h1;omega
theorem tQ0:type_of% @NewsRow.nil:=@NewsRow.nil
end Go.Proofs.YtodfcpblcpogiaaGreat

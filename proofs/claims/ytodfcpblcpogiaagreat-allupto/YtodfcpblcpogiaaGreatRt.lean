import Derived.Test.YtodfcpblcpogiaaGreatAtp
import Derived.Test.YtodfcpblcpogiaaGreatXnet
import Derived.Test.YtodfcpblcpogiaaGreatSlot
import Derived.Deep.DeepCutAuto
namespace Go.Proofs.YtodfcpblcpogiaaGreat
open Go.RowKit
structure LFr where
 a:Nat
 b:Nat
 f:Fr
structure KFa where
 b:Nat
 s:Nat
 f:Fact
structure RNet where
 par:List Nat
 fr:List LFr
 fa:List KFa
 cl:Nat→Cli
 closed:Bool
def LFr.on (x y:Nat)(l:LFr):Bool:=decide (l.a=x∧l.b=y)
def KFa.on (b s:Nat)(k:KFa):Bool:=decide (k.b=b∧k.s=s)
def RNet.q (R:RNet)(x y:Nat):List Fr:=(R.fr.filter (LFr.on x y)).map LFr.f
def RNet.kn (R:RNet)(b s:Nat):Option Fact:=(R.fa.find? (KFa.on b s)).map KFa.f
def RNet.net (R:RNet):Net:=⟨R.par,R.q,R.kn,R.cl,R.closed⟩
def RNet.Uniq (R:RNet):Prop:=R.fa.Pairwise fun k l=>¬(k.b=l.b∧k.s=l.s)
def RNet.send (R:RNet)(x y:Nat)(f:Fr):RNet:={R with fr:=R.fr++[⟨x,y,f⟩]}
def RNet.sends (R:RNet)(x:Nat)(ys:List Nat)(f:Fr):RNet:=ys.foldl (fun R y=>R.send x y f) R
def RNet.forget (R:RNet)(b s:Nat):RNet:={R with fa:=R.fa.filter fun k=>!KFa.on b s k}
def RNet.learn (R:RNet)(b s:Nat)(f:Fact):RNet:={R.forget b s with fa:=(R.forget b s).fa++[⟨b,s,f⟩]}
def RNet.mend (R:RNet)(b s:Nat)(f:Fact):RNet:={R with fa:=R.fa.map fun k=>if KFa.on b s k then {k with f:=f} else k}
def RNet.setCl (R:RNet)(c:Nat)(x:Cli):RNet:={R with cl:=put R.cl c x}
def RNet.pop (R:RNet)(x y:Nat):RNet:={R with fr:=R.fr.eraseP (LFr.on x y)}
section
variable {R : RNet}
theorem zS (x y:Nat)(f:Fr):(R.send x y f).net=R.net.push x y f:=by
 have hq:(R.send x y f).q=xB R.q x y (R.q x y++[f]):=by
  funext u v
  unfold RNet.q RNet.send;rw[List.filter_append,List.map_append];by_cases e:u=x∧v=y
  ·obtain⟨rfl,rfl⟩:=e;rw[put2_same];simp[LFr.on]
  ·rw[jA _ _ e];have:LFr.on u v ⟨x,y,f⟩=false:=by simp[LFr.on];intro h1 h2;exact e ⟨h1.symm,h2.symm⟩
   rw[List.filter_cons_of_neg (by rw[this];simp)]
   simp
 show Net.mk R.par (R.send x y f).q R.kn R.cl R.closed=_
 rw[hq];rfl
theorem jV (x:Nat)(f:Fr):∀(ys:List Nat) (R:RNet),(R.sends x ys f).net=R.net.pushAll x ys f
 | [],_=>rfl
 | y::ys,R=>by
  have:=jV x f ys (R.send x y f);rw[zS] at this;exact this
theorem qH {b s b' s':Nat}(h:¬(b'=b∧s'=s)):∀l:List KFa,(l.filter fun k=>!KFa.on b s k).find? (KFa.on b' s')=l.find? (KFa.on b' s')
 | []=>rfl
 | k::l=>by
  by_cases hk:KFa.on b s k=true
  ·rw[List.filter_cons_of_neg (by simp[hk]),qH h l];have:KFa.on b' s' k=false:=by
    simp only[KFa.on,oP0,decide_eq_false_iff_not] at hk ⊢;intro g;exact h ⟨g.1.symm.trans hk.1,g.2.symm.trans hk.2⟩
   rw[List.find?_cons_of_neg (by simp[this])]
  ·rw[List.filter_cons_of_pos (by simp[hk])];by_cases hk':KFa.on b' s' k=true
   ·rw[List.find?_cons_of_pos hk',List.find?_cons_of_pos hk']
   ·rw[List.find?_cons_of_neg hk',List.find?_cons_of_neg hk',qH h l]
theorem oW {b s:Nat}(l:List KFa):(l.filter fun k=>!KFa.on b s k).find? (KFa.on b s)=none:=by
 rw[List.find?_eq_none];intro k hk;have:=(dO0.1 hk).2;simpa using this
theorem tD0 (b s:Nat):(R.forget b s).net=R.net.know b s none:=by
 have hk:(R.forget b s).kn=xB R.kn b s none:=by
  funext b' s'
  unfold RNet.kn RNet.forget;by_cases e:b'=b∧s'=s
  ·obtain⟨rfl,rfl⟩:=e;rw[put2_same,oW];rfl
  ·rw[jA _ _ e,qH e]
 show Net.mk R.par R.q (R.forget b s).kn R.cl R.closed=_
 rw[hk];rfl
theorem uP (b s:Nat)(f:Fact):(R.learn b s f).net=R.net.know b s (some f):=by
 have hk:(R.learn b s f).kn=xB R.kn b s (some f):=by
  funext b' s'
  unfold RNet.kn RNet.learn RNet.forget;simp only[List.find?_append];by_cases e:b'=b∧s'=s
  ·obtain⟨rfl,rfl⟩:=e;rw[put2_same,oW];simp[KFa.on]
  ·rw[jA _ _ e,qH e];have:KFa.on b' s' ⟨b,s,f⟩=false:=by simp[KFa.on];intro h1 h2;exact e ⟨h1.symm,h2.symm⟩
   rw[List.find?_cons_of_neg (by rw[this];simp)]
   simp
 show Net.mk R.par R.q (R.learn b s f).kn R.cl R.closed=_
 rw[hk];rfl
theorem pW {b s:Nat}(f:Fact):∀l:List KFa,(l.find? (KFa.on b s)).isSome=true→((l.map fun k=>if KFa.on b s k then {k with f:=f} else k).find? (KFa.on b s)).map KFa.f=some f
 | [],h=>by cases h
 | k::l,h=>by
  rw[List.map_cons];by_cases hk:KFa.on b s k=true
  ·rw[if_pos hk,List.find?_cons_of_pos (by exact hk)];rfl
  ·rw[if_neg hk,List.find?_cons_of_neg hk];rw[List.find?_cons_of_neg hk] at h;exact pW f l h
theorem yG {b s b' s':Nat}(f:Fact)(h:¬(b'=b∧s'=s)):∀l:List KFa,(l.map fun k=>if KFa.on b s k then {k with f:=f} else k).find? (KFa.on b' s')=l.find? (KFa.on b' s')
 | []=>rfl
 | k::l=>by
  rw[List.map_cons];by_cases hk:KFa.on b s k=true
  ·have h1:KFa.on b' s' k=false:=by
    simp only[KFa.on,oP0,decide_eq_false_iff_not] at hk ⊢;intro g;exact h ⟨g.1.symm.trans hk.1,g.2.symm.trans hk.2⟩
   have h2:KFa.on b' s' {k with f:=f}=false:=h1;rw[if_pos hk,List.find?_cons_of_neg (by rw[h2];simp),List.find?_cons_of_neg (by rw[h1];simp),yG f h l]
  ·rw[if_neg hk];by_cases hk':KFa.on b' s' k=true
   ·rw[List.find?_cons_of_pos hk',List.find?_cons_of_pos hk']
   ·rw[List.find?_cons_of_neg hk',List.find?_cons_of_neg hk',yG f h l]
theorem rA0 {b s:Nat}(f:Fact)(h:R.kn b s≠none):(R.mend b s f).net=R.net.know b s (some f):=by
 have hk:(R.mend b s f).kn=xB R.kn b s (some f):=by
  funext b' s'
  unfold RNet.kn RNet.mend;by_cases e:b'=b∧s'=s
  ·obtain⟨rfl,rfl⟩:=e;rw[put2_same];refine pW f _ ?_;unfold RNet.kn at h;cases hf:R.fa.find? (KFa.on b' s') with
   | none=>rw[hf] at h;exact absurd rfl h
   | some k=>rfl
  ·rw[jA _ _ e,yG f e]
 show Net.mk R.par R.q (R.mend b s f).kn R.cl R.closed=_
 rw[hk];rfl
theorem rO {x y u v:Nat}:∀l:List LFr,(l.eraseP (LFr.on x y)).filter (LFr.on u v)=if u=x∧v=y then (l.filter (LFr.on x y)).drop 1 else l.filter (LFr.on u v)
 | []=>by simp
 | k::l=>by
  by_cases hk:LFr.on x y k=true
  ·rw[List.eraseP_cons_of_pos hk];split
   ·rename_i e
    rw[e.1,e.2,List.filter_cons_of_pos hk];rfl
   ·rename_i e
    have:LFr.on u v k=false:=by
     simp only[LFr.on,oP0,decide_eq_false_iff_not] at hk ⊢;intro g;exact e ⟨g.1.symm.trans hk.1,g.2.symm.trans hk.2⟩
    rw[List.filter_cons_of_neg (by rw[this];simp)]
  ·rw[List.eraseP_cons_of_neg hk];have ih:=rO (x:=x) (y:=y) (u:=u) (v:=v) l;by_cases hk':LFr.on u v k=true
   ·rw[List.filter_cons_of_pos hk',ih];split
    ·rename_i e;rw[e.1,e.2] at hk';exact absurd hk' hk
    ·rw[List.filter_cons_of_pos hk']
   ·rw[List.filter_cons_of_neg hk',ih];split
    ·rw[List.filter_cons_of_neg hk]
    ·rw[List.filter_cons_of_neg hk']
theorem lM0 {x y:Nat}{f:Fr}{r:List Fr}(h:R.q x y=f::r):(R.pop x y).net={R.net with q:=xB R.net.q x y r}:=by
 have hq:(R.pop x y).q=xB R.q x y r:=by
  funext u v
  unfold RNet.q RNet.pop;simp only;rw[rO];by_cases e:u=x∧v=y
  ·obtain⟨rfl,rfl⟩:=e;rw[put2_same,if_pos ⟨rfl,rfl⟩];have h:((R.fr.filter (LFr.on u v)).map LFr.f)=f::r:=h;rw[List.map_drop,h];rfl
  ·rw[jA _ _ e,if_neg e]
 show Net.mk R.par (R.pop x y).q R.kn R.cl R.closed=_
 rw[hq];rfl
theorem Uniq.forget (U:R.Uniq)(b s:Nat):(R.forget b s).Uniq:=List.Pairwise.filter _ U
theorem Uniq.learn (U:R.Uniq)(b s:Nat)(f:Fact):(R.learn b s f).Uniq:=by
 refine List.pairwise_append.2 ⟨List.Pairwise.filter _ U,List.pairwise_singleton _ _,fun k hk l hl=>?_⟩;rw[eO0.1 hl];have:=(dO0.1 hk).2;simp only[KFa.on,Bool.not_eq_true',decide_eq_false_iff_not] at this;exact this
theorem Uniq.mend (U:R.Uniq)(b s:Nat)(f:Fact):(R.mend b s f).Uniq:=by
 refine List.pairwise_map.2 (U.imp (fun {k l} h=>?_));have key:∀k:KFa,(if KFa.on b s k then {k with f:=f} else k).b=k.b∧(if KFa.on b s k then {k with f:=f} else k).s=k.s:=fun k=>by split<;>exact⟨rfl,rfl⟩
 rw[(key k).1,(key k).2,(key l).1,(key l).2];exact h
theorem Uniq.at {i j:Nat}{k l:KFa}(U:R.Uniq)(hi:R.fa[i]?=some k)(hj:R.fa[j]?=some l)(h:k.b=l.b∧k.s=l.s):i=j:=by
 have hU:=List.pairwise_iff_getElem.1 U;obtain⟨h1,rfl⟩:=rO0.1 hi;obtain⟨h2,rfl⟩:=rO0.1 hj;rcases Nat.lt_trichotomy i j with g | g | g
 ·exact absurd h (hU i j h1 h2 g)
 ·exact g
 ·exact absurd ⟨h.1.symm,h.2.symm⟩ (hU j i h2 h1 g)
end
def nK (par:List Nat):Nat→Nat→Nat→Option Nat→Nat
 | 0,_,_,_=>100
 | F+1,a,b,but=>if a=b then 0 else (List.range (size par)).foldl (fun best x=>if iB par a x && decide (some x≠but) then (if 1+nK par F x b (some a)<best then 1+nK par F x b (some a) else best) else best) 100
def lQ (par:List Nat)(a b:Nat):Option Nat:=(List.range (size par)).find? fun x=>iB par a x && decide (nK par 6 x b (some a)+1=nK par 6 a b none)
def pZ (par:List Nat):Bool:=(List.range (size par)).all fun a=>(List.range (size par)).all fun b=>a == b || lQ par a b == some (tB par a b)
set_option maxRecDepth 100000 in
theorem jU:(forest.all fun par=>pZ par)=true:=by decide +kernel
theorem fP {par:List Nat}(T:Tree par){a b:Nat}(ha:a<size par)(hb:b<size par)(hne:a≠b):lQ par a b=some (tB par a b):=by
 have h1:=List.all_eq_true.1 jU par T.mem;have:=iC (iC h1 ha) hb;simp only[Bool.or_eq_true,beq_iff_eq] at this;exact this.resolve_left hne
theorem vB (a b:Int):(a == b)=decide (a=b):=by rw[Bool.eq_iff_iff];simp
def qQ (par:List Nat)(i:Nat):Int:=if i=0 then -1 else (up par i:Int)
def ParsAt (w:World)(b:Nat)(par:List Nat):Prop:=∃pb po cap,w.cell? ⟨b,0,none⟩=some (.slice (some ⟨pb,po,none⟩) (size par) cap)∧∀i,i<size par→w.cell? ⟨pb,po+i,none⟩=some (int (qQ par i))
theorem nG0 {par:List Nat}{x y:Nat}(hx:x<size par)(hy:y<size par):iB par x y=decide (qQ par x=(y:Int)∨qQ par y=(x:Int)):=by
 unfold iB xK qQ;by_cases h1:x=0
 ·by_cases h2:y=0
  ·subst h1;subst h2;simp
  ·subst h1;simp[h2,hy,Nat.pos_of_ne_zero h2]
 ·by_cases h2:y=0
  ·subst h2;simp[h1,hx,Nat.pos_of_ne_zero h1]
  ·simp[h1,h2,hx,hy,Nat.pos_of_ne_zero h1,Nat.pos_of_ne_zero h2]
   rw[Bool.eq_iff_iff];simp
   omega
def qF (par:List Nat)(x y:Int):Bool:=decide (0≤x∧0≤y∧x<size par∧y<size par) && iB par x.toNat y.toNat
set_option maxRecDepth 100000 in
set_option maxHeartbeats 1000000 in
theorem kN (b:Nat)(par:List Nat)(x y:Int)(w:World)(h:ParsAt w b par)(hl:size par≤6):
  Calls Tryz.prog 78 #[.pointer (some ⟨b,0,none⟩),int x,int y] w fun e w'=>e=.returned (.bool (qF par x y))∧w'=w:=by
 obtain⟨pb,po,cap,h0,hp⟩:=h;have HP:=uA hp;obtain⟨n,hn⟩:∃n,n=size par:=⟨_,rfl⟩;rw[←hn] at h0 hl;have hnI:(n:Int)≤6:=by omega
 have HN:=uA hn;clear hp hn;by_cases hx0:x<0
 ·have e:qF par x y=false:=by unfold qF;simp;omega
  rw[e];go_enter Tryz.func78,Tryz.ntmps78
  go_wp2;go_ret
  exact⟨rfl,rfl⟩
 ·by_cases hy0:y<0
  ·have e:qF par x y=false:=by unfold qF;simp;omega
   rw[e];go_enter Tryz.func78,Tryz.ntmps78
   go_wp2;go_ret
   exact⟨rfl,rfl⟩
  ·by_cases hx1:(n:Int)≤x
   ·have e:qF par x y=false:=by unfold qF;rw[←yA HN];simp;omega
    rw[e];go_enter Tryz.func78,Tryz.ntmps78
    go_wp2;go_ret
    exact⟨rfl,rfl⟩
   ·by_cases hy1:(n:Int)≤y
    ·have e:qF par x y=false:=by unfold qF;rw[←yA HN];simp;omega
     rw[e];go_enter Tryz.func78,Tryz.ntmps78
     go_wp2;go_ret
     exact⟨rfl,rfl⟩
    ·obtain⟨X,rfl⟩:∃X:Nat,x=X:=⟨x.toNat,by omega⟩;obtain⟨Y,rfl⟩:∃Y:Nat,y=Y:=⟨y.toNat,by omega⟩;have cx:=yA HP X (by rw[←yA HN];omega);have cy:=yA HP Y (by rw[←yA HN];omega);have e:qF par X Y=decide (qQ par X=(Y:Int)∨qQ par Y=(X:Int)):=by
      unfold qF;rw[←yA HN];simp only[iO0];rw[nG0 (by rw[←yA HN];omega) (by rw[←yA HN];omega)];simp;omega
     rw[e];clear e;obtain⟨PX,hPX⟩:∃z,z=qQ par X:=⟨_,rfl⟩;obtain⟨PY,hPY⟩:∃z,z=qQ par Y:=⟨_,rfl⟩;rw[←hPX] at cx ⊢;rw[←hPY] at cy ⊢;clear hPX hPY;by_cases h1:PX=(Y:Int)
     ·have e1:decide (PX=(Y:Int)∨PY=(X:Int))=true:=by simp[h1]
      rw[e1];subst h1;go_enter Tryz.func78,Tryz.ntmps78
      go_wp2;go_ret
      exact⟨rfl,rfl⟩
     ·have e1:decide (PX=(Y:Int)∨PY=(X:Int))=(PY == (X:Int)):=by simp[h1,vB]
      have h1b:(PX == (Y:Int))=false:=by rw[vB];exact pP0 h1
      rw[e1];go_enter Tryz.func78,Tryz.ntmps78
      go_wp2;go_ret
      exact⟨rfl,rfl⟩
theorem ParsAt.calm {w w':World}{b:Nat}{par:List Nat}(h:ParsAt w b par)(t:qA w w'):ParsAt w' b par:=by
 obtain⟨pb,po,cap,h0,hp⟩:=h;exact⟨pb,po,cap,t.cell (p:=⟨b,0,none⟩) id h0,fun i hi=>t.cell (p:=⟨pb,po+i,none⟩) id (hp i hi)⟩
def iH0 (par:List Nat)(F a b:Nat)(but:Option Nat)(best x:Nat):Nat:=if iB par a x && decide (some x≠but) then (if 1+nK par F x b (some a)<best then 1+nK par F x b (some a) else best) else best
def oK (par:List Nat)(F a b:Nat)(but:Option Nat)(k:Nat):Nat:=(List.range k).foldl (iH0 par F a b but) 100
theorem dI (par:List Nat)(F a b:Nat)(but:Option Nat)(k:Nat):oK par F a b but (k+1)=iH0 par F a b but (oK par F a b but k) k:=by
 unfold oK;rw[List.range_succ,List.foldl_append];rfl
theorem nW (par:List Nat)(F a b:Nat)(but:Option Nat):nK par (F+1) a b but=if a=b then 0 else oK par F a b but (size par):=rfl
theorem uT (par:List Nat)(F a b:Nat)(but:Option Nat):∀k,oK par F a b but k≤100
 | 0=>qO0 _
 | k+1=>by
  rw[dI];have:=uT par F a b but k;unfold iH0;split
  ·split<;>omega
  ·exact this
theorem nY (par:List Nat)(F a b:Nat)(but:Option Nat):nK par F a b but≤100:=by
 cases F with
 | zero=>exact qO0 _
 | succ F=>
  rw[nW];split
  ·omega
  ·exact uT par F a b but _
def butZ:Option Nat→Int
 | none=>-1
 | some p=>p
def iE0 (par:List Nat)(a:Nat):Option Nat→Nat
 | none=>6
 | some p=>xC par p a
theorem mK0 {g:Nat→Nat}:∀{l:List Nat} {x:Nat},x∈l→g x≤(l.map g).sum
 | _::_,_,h=>by
  rw[List.map_cons,List.sum_cons];rcases List.mem_cons.1 h with rfl | h
  ·omega
  ·have:=mK0 (g:=g) h;omega
theorem uV {par:List Nat}(T:Tree par){a x:Nat}{but:Option Nat}(hb:∀p,but=some p→iB par p a=true)(hn:iB par a x=true)(hx:some x≠but):iE0 par x (some a)+1≤iE0 par a but:=by
 cases but with
 | none=>have:=(aD T hn).2;show xC par a x+1≤6;omega
 | some p=>
  have h1:=(aD T (hb p rfl)).1;have h2:xC par a x≤(((List.range (size par)).filter fun z=>iB par a z && decide (z≠p)).map fun z=>xC par a z).sum:=mK0 (g:=fun z=>xC par a z) (dO0.2 ⟨yP0.2 (bB T hn).2,by rw[hn];simp;exact fun e=>hx (congrArg some e)⟩);show xC par a x+1≤xC par p a
  omega
set_option maxRecDepth 100000 in
set_option maxHeartbeats 2000000 in
theorem oY (b:Nat)(par:List Nat)(T:Tree par)(y:Nat):∀(F a:Nat) (but:Option Nat),a<size par→iE0 par a but≤F→0<F→(∀p,but=some p→iB par p a=true)→∀w,ParsAt w b par→
    Calls Tryz.prog 77 #[.pointer (some ⟨b,0,none⟩),int a,int y,int (butZ but)] w fun e w'=>e=.returned (int (nK par F a y but))∧qA w w'
  | 0,_,_,_,_,h,_=>by omega
  | F+1,a,but,ha,hs,_,hb=>by
    intro w hP;have hl:=gB T;rw[nW];by_cases hay:a=y
    · subst hay
      rw[if_pos rfl];go_enter Tryz.func77,Tryz.ntmps77
      go_wp2;go_ret
      exact⟨rfl,cP0 _ _⟩
    · rw[if_neg hay]
      have hayI:¬(a:Int)=y:=by omega
      have hayb:((a:Int) == (y:Int))=false:=by rw[vB];exact pP0 hayI
      have HP:=uA hP;have TT:=uA T
      have HIH:=uA (fun (x:Nat) (hn:iB par a x=true) (hx:some x≠but)=>oY b par T y F x (some a) (bB T hn).2 (by have:=uV T hb hn hx;omega) (by
        have h1:=uV T hb hn hx;have h2:1≤xC par a x:=by have:=(aD T hn).1;omega
        have h3:iE0 par x (some a)=xC par a x:=rfl
        omega) (fun p hp=>by cases hp;exact hn))
      clear hP T;obtain⟨n,hn⟩:∃n,n=size par:=⟨_,rfl⟩;have HN:=uA hn;have hnI:(n:Int)≤6:=by omega
      rw[←hn];clear hn hs;obtain⟨B,hB⟩:∃B:Int,B=butZ but:=⟨_,rfl⟩;rw[←hB];have HB:=uA hB;clear hB;go_enter Tryz.func77,Tryz.ntmps77
      obtain⟨pb,po,cap,h0,_⟩:=yA HP;rw[←yA HN] at h0;have H0:=uA h0;clear h0;go_wp2;go_loopw [9,10] (fun bv xv wr=>∃k:Nat,k≤n∧xv=int k∧bv=int (oK par F a y but k)∧qA w wr) (fun _ xv _=>6-(intOf xv).toNat)
      case atStart=>exact⟨0,by omega,rfl,rfl,cP0 _ _⟩
      case round=>
        obtain⟨k,hk,rfl,rfl,ht⟩:=hrel;have h0:=ht.cell (p:=⟨b,0,none⟩) id (yA H0);have HT:=uA ht;have hF:=uT par F a y but k;obtain⟨G,hG⟩:∃G,G=oK par F a y but k:=⟨_,rfl⟩;rw[←hG] at hF ⊢;have HG:=uA hG;clear ht hG;by_cases hkn:k<n
        · have hkI:(k:Int)<n:=by omega
          have HNE:=uA (kN b par a k _ ((yA HP).calm (yA HT)) hl);have hnz:qF par a k=iB par a k:=by
            unfold qF;have h1:((a:Int)<size par):=by omega
            have h2:((k:Int)<size par):=by have:=yA HN;omega
            simp[h1,h2]
          rw[hnz] at HNE;clear hnz;go_wp2_with fail
          refine(yA HNE).mono ?_;rintro e w2 ⟨rfl,hw2⟩
          have hw2:=hw2.symm;subst hw2;cases hnn:iB par a k with
          | false=>
            have hst:oK par F a y but (k+1)=G:=by rw[dI,←yA HG];unfold iH0;rw[hnn];rfl
            go_wp2;go_roundw
            case rel=>exact⟨k+1,by omega,by go_num,by rw[hst],yA HT⟩
            case measure=>simp[intOf];omega
          | true=>
            by_cases hkb:some k=but
            · have hBk:B=(k:Int):=by rw[yA HB,←hkb];rfl
              have hst:oK par F a y but (k+1)=G:=by rw[dI,←yA HG];unfold iH0;rw[hnn];simp[hkb]
              subst hBk;go_wp2;go_roundw
              case rel=>exact⟨k+1,by omega,by go_num,by rw[hst],yA HT⟩
              case measure=>simp[intOf];omega
            · have hBk:¬(k:Int)=B:=by
                rw[yA HB];cases but with
                | none=>show ¬(k:Int)=-1;omega
                | some q=>show ¬(k:Int)=q;intro e;exact hkb (by congr 1;omega)
              have hBb:((k:Int) == B)=false:=by rw[vB];exact pP0 hBk
              have HCA:=uA (yA HIH k hnn hkb _ ((yA HP).calm (yA HT)));have hst:oK par F a y but (k+1)=if 1+nK par F k y (some a)<G then 1+nK par F k y (some a) else G:=by rw[dI,←yA HG];unfold iH0;rw[hnn];simp[hkb]
              have hD:=nY par F k y (some a);obtain⟨D,hDD⟩:∃D,D=nK par F k y (some a):=⟨_,rfl⟩;rw[←hDD] at hst HCA hD;have HST:=uA hst;clear hst hDD;go_wp2_with fail
              refine(yA HCA).mono ?_;rintro e w3 ⟨rfl,t3⟩
              have HT3:=uA ((yA HT).calm t3);clear t3;by_cases hlt:1+D<G
              · have hltI:(1:Int)+D<G:=by omega
                go_wp2;go_roundw
                case rel=>exact⟨k+1,by omega,by go_num,by rw[yA HST,if_pos hlt];go_num,yA HT3⟩
                case measure=>simp[intOf];omega
              · have hltI:¬(1:Int)+D<G:=by omega
                go_wp2;go_roundw
                case rel=>exact⟨k+1,by omega,by go_num,by rw[yA HST,if_neg hlt],yA HT3⟩
                case measure=>simp[intOf];omega
        · have hke:k=n:=by omega
          subst hke;go_wp2;go_ret;exact⟨by rw[show oK par F a y but k=G from (yA HG).symm];rfl,yA HT⟩
def mL (par:List Nat)(a y:Nat)(x:Nat):Bool:=iB par a x && decide (nK par 6 x y (some a)+1=nK par 6 a y none)
theorem hI0 {par:List Nat}(T:Tree par){a y k:Nat}(ha:a<size par)(hy:y<size par)(hne:a≠y)(hall:∀x,x<k→mL par a y x=false)(hk:mL par a y k=true)(hkn:k<size par):k=tB par a y:=by
 have h:=fP T ha hy hne;unfold lQ at h;obtain⟨h1,lA,lB,h2,h3⟩:=List.find?_eq_some_iff_append.1 h;have hlt:tB par a y<size par:=(bB T (cB T ha hy hne).1).2;rcases Nat.lt_trichotomy k (tB par a y) with g | g | g
 ·exfalso;have hmem:k∈lA:=by
   have hi:(List.range (size par))[k]?=some k:=by rw[List.getElem?_range hkn]
   have hj:(List.range (size par))[tB par a y]?=some (tB par a y):=by rw[List.getElem?_range hlt]
   have hlen:lA.length=tB par a y:=by
    have:(List.range (size par))[lA.length]?=some (tB par a y):=by rw[h2];simp
    have h4:=(rO0.1 this);obtain⟨h5,h6⟩:=h4;rw[List.getElem_range] at h6;exact h6
   rw[h2,oO0 (by omega)] at hi;exact vP0 hi
  have:=h3 k hmem;unfold mL at hk;rw[hk] at this;simp at this
 ·exact g
 ·have:=hall _ g;unfold mL at this;rw[this] at h1;cases h1
set_option maxRecDepth 100000 in
set_option maxHeartbeats 2000000 in
theorem rI (b:Nat)(par:List Nat)(T:Tree par)(a y:Nat)(ha:a<size par)(hy:y<size par)(hne:a≠y)(w:World)(hP:ParsAt w b par):
  Calls Tryz.prog 44 #[.pointer (some ⟨b,0,none⟩),int a,int y] w fun e w'=>e=.returned (int (tB par a y))∧qA w w':=by
 have hl:=gB T;have HP:=uA hP;have HT0:=uA T;have HF1:=uA (oY b par T y 6 a none ha (qO0 _) (by omega) (fun p hp=>by cases hp) w hP);have HFX:=uA (fun (x:Nat) (hn:iB par a x=true)=>oY b par T y 6 x (some a) (bB T hn).2 (by have:=(aD T hn).2;show xC par a x≤6;omega) (by omega) (fun p hp=>by cases hp;exact hn));have HNX:=uA (cB T ha hy hne);have HTN:=uA (fun k hall hk hkn=>hI0 (k:=k) T ha hy hne hall hk hkn);have HTW:=uA (fP T ha hy hne);have hD:=nY par 6 a y none;obtain⟨D,hDD⟩:∃D,D=nK par 6 a y none:=⟨_,rfl⟩;rw[←hDD] at HF1 hD;have HDD:=uA hDD;obtain⟨n,hn⟩:∃n,n=size par:=⟨_,rfl⟩;have HN:=uA hn;have hnI:(n:Int)≤6:=by omega
 have HA:=uA ha;clear hP T hDD hn;obtain⟨pb,po,cap,h0,_⟩:=yA HP;rw[←yA HN] at h0;have H0:=uA h0;clear h0;go_enter Tryz.func44,Tryz.ntmps44
 go_wp2_with fail
 refine(yA HF1).mono ?_;rintro e w1 ⟨rfl,t1⟩
 have HT1:=uA t1;clear t1;go_wp2_with fail
 go_loopw [8] (fun xv wr=>∃k:Nat,k≤n∧xv=int k∧(∀x,x<k→mL par a y x=false)∧qA w wr) (fun xv _=>6-(intOf xv).toNat)
 case atStart=>exact⟨0,by omega,rfl,fun x hx=>by omega,yA HT1⟩
 case round=>
  obtain⟨k,hk,rfl,hall,ht⟩:=hrel;have h0:=ht.cell (p:=⟨b,0,none⟩) id (yA H0);have HT:=uA ht;have HALL:=uA hall;clear ht hall;by_cases hkn:k<n
  ·have hkI:(k:Int)<n:=by omega
   have HNE:=uA (kN b par a k _ ((yA HP).calm (yA HT)) hl);have hnz:qF par a k=iB par a k:=by
    unfold qF;have h1:((a:Int)<size par):=by have:=yA HA;omega
    have h2:((k:Int)<size par):=by have:=yA HN;omega
    simp[h1,h2]
   rw[hnz] at HNE;clear hnz;go_wp2_with fail
   refine(yA HNE).mono ?_;rintro e w2 ⟨rfl,hw2⟩
   have hw2:=hw2.symm;subst hw2;cases hnn:iB par a k with
   | false=>
    have hst:mL par a y k=false:=by unfold mL;rw[hnn];rfl
    go_wp2;go_roundw
    case rel=>exact⟨k+1,by omega,by go_num,fun x hx=>(by
     by_cases e:x=k
     ·subst e;exact hst
     ·exact yA HALL x (by omega)),yA HT⟩
    case measure=>simp[intOf];omega
   | true=>
    have HCA:=uA (yA HFX k hnn _ ((yA HP).calm (yA HT)));have hst:mL par a y k=decide (nK par 6 k y (some a)+1=D):=by unfold mL;rw[hnn,yA HDD];rfl
    have hE:=nY par 6 k y (some a);obtain⟨E,hEE⟩:∃E,E=nK par 6 k y (some a):=⟨_,rfl⟩;rw[←hEE] at hst HCA hE;have HST:=uA hst;clear hst hEE;go_wp2_with fail
    refine(yA HCA).mono ?_;rintro e w3 ⟨rfl,t3⟩
    have HT3:=uA ((yA HT).calm t3);clear t3;by_cases heq:E+1=D
    ·have heqI:((E:Int) == (D:Int)-1)=true:=by rw[vB];exact decide_eq_true (by omega)
     have hkx:k=tB par a y:=yA HTN k (yA HALL) (by rw[yA HST];exact decide_eq_true heq) (by have:=yA HN;omega);go_wp2;go_ret;exact⟨by rw[←hkx];rfl,yA HT3⟩
    ·have heqI:((E:Int) == (D:Int)-1)=false:=by rw[vB];exact pP0 (by omega)
     go_wp2;go_roundw
     case rel=>exact⟨k+1,by omega,by go_num,fun x hx=>(by
      by_cases e:x=k
      ·subst e;rw[yA HST];exact pP0 heq
      ·exact yA HALL x (by omega)),yA HT3⟩
     case measure=>simp[intOf];omega
  ·exfalso;have hke:k=n:=by omega
   have h1:=yA HTW;unfold lQ at h1;obtain⟨h2,lA,lB,h3,_⟩:=List.find?_eq_some_iff_append.1 h1;have hlt:tB par a y<k:=by rw[hke,yA HN];exact(bB (yA HT0) (yA HNX).1).2
   have h4:=yA HALL _ hlt;unfold mL at h4;rw[h4] at h2;cases h2
def rK (p:Nat→Bool)(n:Nat):Int:=match (List.range n).find? p with
 | some i=>i
 | none=>-1
theorem qW {p:Nat→Bool}{n k:Nat}(hk:k<n)(h:∀i,i<k→p i=false)(hp:p k=true):rK p n=k:=by
 unfold rK;have:(List.range n).find? p=some k:=by
  rw[List.find?_eq_some_iff_append];refine⟨hp,List.range k,(List.range (n-k-1)).map (·+(k+1)),?_,fun x hx=>by rw[h x (yP0.1 hx)];rfl⟩;have h1:n=k+(1+(n-k-1)):=by omega
  have h2:List.range n=List.range k++(List.range (1+(n-k-1))).map (k+·):=by conv=>lhs;rw[h1,List.range_add]
  rw[h2];congr 1
  rw[Nat.add_comm 1,List.range_succ_eq_map,List.map_cons,List.map_map];congr 1
  apply List.map_congr_left
  intro x _;simp;omega
 rw[this]
theorem sK {p:Nat→Bool}{n:Nat}(h:∀i,i<n→p i=false):rK p n=-1:=by
 unfold rK;have:(List.range n).find? p=none:=by
  rw[List.find?_eq_none];intro x hx;rw[h x (yP0.1 hx)];simp
 rw[this]
def cO (w:World)(b off size p q:Nat)(n:Nat)(X Y:Nat→Int):Prop:=∃a cap,w.cell? ⟨b,off,none⟩=some (.slice a n cap)∧∀i,i<n→∃g,a=some ⟨g,0,none⟩∧w.cell? ⟨g,i*size+p,none⟩=some (int (X i))∧w.cell? ⟨g,i*size+q,none⟩=some (int (Y i))
set_option maxRecDepth 100000 in
set_option maxHeartbeats 1000000 in
theorem qO (b n:Nat)(X Y:Nat→Int)(x y:Int)(w:World)(h:cO w b 2 8 0 1 n X Y)(hn:n≤1000):
  Calls Tryz.prog 39 #[.pointer (some ⟨b,0,none⟩),int x,int y] w fun e w'=>e=.returned (int (rK (fun i=>decide (X i=x∧Y i=y)) n))∧w'=w:=by
 obtain⟨a,cap,h0,hc⟩:=h;have HC:=uA hc;have hnI:(n:Int)≤1000:=by omega
 obtain⟨B,hB⟩:∃B:Nat,1000<B:=⟨1001,by omega⟩;have HB:=uA hB;clear hc hB;go_enter Tryz.func39,Tryz.ntmps39
 go_wp2;go_loopw [7] (fun iv wr=>∃k:Nat,k≤n∧iv=int k∧(∀i,i<k→decide (X i=x∧Y i=y)=false)∧wr=w) (fun iv _=>B-(intOf iv).toNat)
 case atStart=>exact⟨0,by omega,rfl,fun i hi=>by omega,rfl⟩
 case round=>
  obtain⟨k,hk,rfl,hall,hw⟩:=hrel;subst hw;have HALL:=uA hall;clear hall;by_cases hkn:k<n
  ·obtain⟨g,rfl,c0,c1⟩:=yA HC k hkn;rw[Nat.add_zero] at c0;have hkI:(k:Int)<n:=by omega
   obtain⟨P,hP⟩:∃P,P=X k:=⟨_,rfl⟩;obtain⟨Q,hQ⟩:∃Q,Q=Y k:=⟨_,rfl⟩;rw[←hP] at c0;rw[←hQ] at c1;have HP:=uA hP;have HQ:=uA hQ;clear hP hQ;by_cases h1:P=x
   ·subst h1;by_cases h2:Q=y
    ·subst h2;have hfin:rK (fun i=>decide (X i=P∧Y i=Q)) n=k:=qW hkn (yA HALL) (by rw[←yA HP,←yA HQ];simp)
     have HFIN:=uA hfin;clear hfin;go_wp2;go_ret;exact⟨by rw[yA HFIN];rfl,rfl⟩
    ·have h2b:(Q == y)=false:=by rw[vB];exact pP0 h2
     have hst:decide (X k=P∧Y k=y)=false:=pP0 (fun h=>h2 ((yA HQ).trans h.2));have HST:=uA hst;clear hst;go_wp2;go_roundw
     case rel=>exact⟨k+1,by omega,by go_num,fun i hi=>(by
      by_cases e:i=k
      ·subst e;exact yA HST
      ·exact yA HALL i (by omega)),trivial⟩
     case measure=>have:=yA HB;simp[intOf];omega
   ·have h1b:(P == x)=false:=by rw[vB];exact pP0 h1
    have hst:decide (X k=x∧Y k=y)=false:=pP0 (fun h=>h1 ((yA HP).trans h.1));have HST:=uA hst;clear hst;go_wp2;go_roundw
    case rel=>exact⟨k+1,by omega,by go_num,fun i hi=>(by
     by_cases e:i=k
     ·subst e;exact yA HST
     ·exact yA HALL i (by omega)),trivial⟩
    case measure=>have:=yA HB;simp[intOf];omega
  ·have hke:k=n:=by omega
   subst hke;go_wp2;go_ret;exact⟨by rw[sK (yA HALL)];rfl,rfl⟩
def xE (p:Nat→Bool)(k:Nat):Nat:=((List.range k).filter p).length
theorem iD0 (p:Nat→Bool)(k:Nat):xE p k≤k:=by unfold xE;exact mO0 (List.length_filter_le _ _) (by rw[List.length_range];exact qO0 _)
theorem yY (p:Nat→Bool)(k:Nat):xE p (k+1)=xE p k+if p k then 1 else 0:=by
 unfold xE;rw[List.range_succ,List.filter_append,hO0];cases h:p k<;>simp[h]
set_option maxRecDepth 100000 in
set_option maxHeartbeats 1000000 in
theorem vZ (b n:Nat)(X Y:Nat→Int)(x y:Int)(w:World)(h:cO w b 1 16 1 2 n X Y)(hn:n≤100000):
  Calls Tryz.prog 62 #[.pointer (some ⟨b,0,none⟩),int x,int y] w fun e w'=>e=.returned (int (xE (fun i=>decide (X i=x∧Y i=y)) n))∧w'=w:=by
 obtain⟨a,cap,h0,hc⟩:=h;have HC:=uA hc;have hnI:(n:Int)≤100000:=by omega
 obtain⟨B,hB⟩:∃B:Nat,100000<B:=⟨100001,by omega⟩;have HB:=uA hB;have HNL:=uA hn;clear hc hB hn;go_enter Tryz.func62,Tryz.ntmps62
 go_wp2;go_loopw [7,8] (fun mv iv wr=>∃k:Nat,k≤n∧iv=int k∧mv=int (xE (fun i=>decide (X i=x∧Y i=y)) k)∧wr=w) (fun _ iv _=>B-(intOf iv).toNat)
 case atStart=>exact⟨0,by omega,rfl,rfl,rfl⟩
 case round=>
  obtain⟨k,hk,rfl,rfl,hw⟩:=hrel;subst hw;have hle:=iD0 (fun i=>decide (X i=x∧Y i=y)) k;have hsu:=yY (fun i=>decide (X i=x∧Y i=y)) k;obtain⟨M,hM⟩:∃M,M=xE (fun i=>decide (X i=x∧Y i=y)) k:=⟨_,rfl⟩;rw[←hM] at hle hsu ⊢;have HM:=uA hM;have HSU:=uA hsu;clear hM hsu;by_cases hkn:k<n
  ·obtain⟨g,rfl,c0,c1⟩:=yA HC k hkn;have hkI:(k:Int)<n:=by omega
   have hMI:(M:Int)≤100000:=by have:=yA HNL;omega
   obtain⟨P,hP⟩:∃P,P=X k:=⟨_,rfl⟩;obtain⟨Q,hQ⟩:∃Q,Q=Y k:=⟨_,rfl⟩;rw[←hP] at c0;rw[←hQ] at c1;have HP:=uA hP;have HQ:=uA hQ;clear hP hQ;by_cases h1:P=x
   ·subst h1;by_cases h2:Q=y
    ·subst h2;have hst:xE (fun i=>decide (X i=P∧Y i=Q)) (k+1)=M+1:=by rw[yA HSU,if_pos (by rw[←yA HP,←yA HQ];simp)]
     have HST:=uA hst;clear hst;go_wp2;go_roundw
     case rel=>exact⟨k+1,by omega,by go_num,by rw[yA HST];go_num,trivial⟩
     case measure=>have:=yA HB;simp[intOf];omega
    ·have h2b:(Q == y)=false:=by rw[vB];exact pP0 h2
     have hst:xE (fun i=>decide (X i=P∧Y i=y)) (k+1)=M:=by rw[yA HSU,if_neg (by rw[←yA HQ];simp[h2])];rfl
     have HST:=uA hst;clear hst;go_wp2;go_roundw
     case rel=>exact⟨k+1,by omega,by go_num,by rw[yA HST],trivial⟩
     case measure=>have:=yA HB;simp[intOf];omega
   ·have h1b:(P == x)=false:=by rw[vB];exact pP0 h1
    have hst:xE (fun i=>decide (X i=x∧Y i=y)) (k+1)=M:=by rw[yA HSU,if_neg (by rw[←yA HP];simp[h1])];rfl
    have HST:=uA hst;clear hst;go_wp2;go_roundw
    case rel=>exact⟨k+1,by omega,by go_num,by rw[yA HST],trivial⟩
    case measure=>have:=yA HB;simp[intOf];omega
  ·have hke:k=n:=by omega
   subst hke;go_wp2;go_ret;exact⟨by rw[←yA HM];rfl,rfl⟩
theorem tI0 (b:Nat)(cl:Bool)(c:Int)(w:World)(h:w.cell? ⟨b,55,none⟩=some (.bool cl)):
  Calls Tryz.prog 38 #[.pointer (some ⟨b,0,none⟩),int c] w fun e w'=>e=.returned (int (if cl then 2 else if dA c then 0 else 1))∧w'=w:=by
 cases cl with
 | true=>
  go_enter Tryz.func38,Tryz.ntmps38
  go_wp2;go_ret
  exact⟨rfl,rfl⟩
 | false=>
  by_cases h0:c<0
  ·have e:dA c=false:=by simp[dA];omega
   rw[e];go_enter Tryz.func38,Tryz.ntmps38
   go_wp2;go_ret
   exact⟨rfl,rfl⟩
  ·by_cases h1:3<c
   ·have e:dA c=false:=by simp[dA];omega
    rw[e];go_enter Tryz.func38,Tryz.ntmps38
    go_wp2;go_ret
    exact⟨rfl,rfl⟩
   ·have e:dA c=true:=by simp[dA];omega
    rw[e];go_enter Tryz.func38,Tryz.ntmps38
    go_wp2;go_ret
    exact⟨rfl,rfl⟩
theorem jH0 (e:Ev){f:Int}(h0:0≤f)(h3:f<3):(#[int e.pub,int e.num,int e.f0,int e.f1,int e.f2]:Array Value)[2+f.toNat]?=some (int (e.field f)):=by
 have:f=0∨f=1∨f=2:=by omega
 rcases this with rfl | rfl | rfl<;>rfl
set_option maxRecDepth 100000 in
set_option maxHeartbeats 1000000 in
theorem mG0 (l:List Tst)(e:Ev)(a:Option Addr)(cap:Nat)(w:World)(hl:yB l=true)(ht:TestsAt w a l):
  Calls Tryz.prog 84 #[.slice a l.length cap,.agg #[int e.pub,int e.num,int e.f0,int e.f1,int e.f2]] w fun r w'=>r=.returned (.bool (lC l e))∧qA w w':=by
 have h3:=yI hl;obtain⟨W,hW⟩:∃W,w.alloc (.cells #[int e.pub,int e.num,int e.f0,int e.f1,int e.f2] 72)=W:=⟨_,rfl⟩;have hb1:W.heap[w.heap.size]?=some (.cells #[int e.pub,int e.num,int e.f0,int e.f1,int e.f2] 72):=by rw[←hW];exact eP0 w _
 have hcal:qA w W:=by rw[←hW];exact(cP0 _ _).alloc _
 have HT:=uA (ht.calm hcal);have HB1:=uA hb1;have HC:=uA hcal;have HG:=uA hl;clear hb1 hcal hl ht;have h3i:(l.length:Int)≤3:=by omega
 go_enter Tryz.func84,Tryz.ntmps84
 go_wp2;clear hW
 go_loop [5] (fun i=>∃k:Nat,k≤l.length∧i=int k∧∀j,j<k→(sA l j).met e=true) (fun i=>l.length-(intOf i).toNat)
 case atStart=>exact⟨0,by omega,rfl,fun j hj=>by omega⟩
 case round=>
  obtain⟨k,hk,rfl,hmet⟩:=hrel;have HM:=uA hmet;clear hmet;by_cases hlt:k<l.length
  ·have hg:=uL (yA HG) hlt;have hf:=bA0 hg;obtain⟨e0,e1,e2⟩:=pF l k hlt;rcases yA HT with h0 | ⟨b,o,rfl,hc⟩
   ·rw[h0] at hlt;simp at hlt
   ·have c0:=hc _ _ e0;have c1:=hc _ _ e1;have c2:=hc _ _ e2;rw[←rP0] at c1 c2;have cf:W.cell? ⟨w.heap.size,2+(sA l k).fld.toNat,none⟩=some (int (e.field (sA l k).fld)):=(xA (yA HB1) _).trans (jH0 e hf.1 hf.2);have HMM:=uA (iV hg e);have hop:(sA l k).op=1∨(sA l k).op=2∨(sA l k).op=3∨(sA l k).op=4:=by
     simp only[Tst.good,oP0] at hg;omega
    have hnot:=fun h=>gV hlt (e:=e) h;have HN:=uA hnot;clear e0 e1 e2 hc hnot hg;generalize hT:sA l k=t at*;have HTT:=uA hT;clear hT;obtain⟨f,op,n⟩:=t;simp only at c0 c1 c2 cf hf HMM hop HN;obtain⟨v,hv⟩:∃v,v=e.field f:=⟨_,rfl⟩;rw[←hv] at cf;have HV:=uA hv;clear hv;rcases hop with rfl | rfl | rfl | rfl
    ·by_cases hq:v=n
     ·subst hq;go_wp2;go_round
      case rel=>
       refine⟨k+1,by omega,by go_num,fun j hj=>?_⟩;by_cases ej:j=k
       ·subst ej;rw[yA HTT,←yA HMM,←yA HV];simp[Tst.metBy]
       ·exact yA HM j (by omega)
      case measure=>simp[intOf];omega
     ·have hqb:(v == n)=false:=by rw[vB];exact pP0 hq
      go_wp2;go_ret
      refine⟨?_,yA HC⟩;rw[yA HN (by rw[←yA HMM,←yA HV];simp[Tst.metBy,hq])]
      rfl
    ·by_cases hq:v=n
     ·subst hq;go_wp2;go_ret;refine⟨?_,yA HC⟩;rw[yA HN (by rw[←yA HMM,←yA HV];simp[Tst.metBy])]
      rfl
     ·have hqb:(v == n)=false:=by rw[vB];exact pP0 hq
      have hqn:(v != n)=true:=by simp[hq]
      go_wp2
      all_goals try go_round
      case rel=>
       refine⟨k+1,by omega,by go_num,fun j hj=>?_⟩;by_cases ej:j=k
       ·subst ej;rw[yA HTT,←yA HMM,←yA HV];simp[Tst.metBy,hq]
       ·exact yA HM j (by omega)
      case measure=>simp[intOf];omega
    ·by_cases hq:v<n
     ·have hvb:(v == n)=false:=by rw[vB];exact pP0 (by omega)
      go_wp2;go_round
      case rel=>
       refine⟨k+1,by omega,by go_num,fun j hj=>?_⟩;by_cases ej:j=k
       ·subst ej;rw[yA HTT,←yA HMM,←yA HV];simp[Tst.metBy];try omega
       ·exact yA HM j (by omega)
      case measure=>simp[intOf];omega
     ·by_cases hvn:v=n
      ·subst hvn;go_wp2;go_ret;refine⟨?_,yA HC⟩;rw[yA HN (by rw[←yA HMM,←yA HV];simp[Tst.metBy];try omega)]
       rfl
      ·have hvb:(v == n)=false:=by rw[vB];exact pP0 hvn
       go_wp2;go_ret
       refine⟨?_,yA HC⟩;rw[yA HN (by rw[←yA HMM,←yA HV];simp[Tst.metBy];try omega)]
       rfl
    ·by_cases hq:n≤v
     ·by_cases hvn:v=n
      ·subst hvn;go_wp2;go_round
       case rel=>
        refine⟨k+1,by omega,by go_num,fun j hj=>?_⟩;by_cases ej:j=k
        ·subst ej;rw[yA HTT,←yA HMM,←yA HV];simp[Tst.metBy];try omega
        ·exact yA HM j (by omega)
       case measure=>simp[intOf];omega
      ·have hvb:(v == n)=false:=by rw[vB];exact pP0 hvn
       go_wp2;go_round
       case rel=>
        refine⟨k+1,by omega,by go_num,fun j hj=>?_⟩;by_cases ej:j=k
        ·subst ej;rw[yA HTT,←yA HMM,←yA HV];simp[Tst.metBy];try omega
        ·exact yA HM j (by omega)
       case measure=>simp[intOf];omega
     ·have hvb:(v == n)=false:=by rw[vB];exact pP0 (by omega)
      go_wp2;go_ret
      refine⟨?_,yA HC⟩;rw[yA HN (by rw[←yA HMM,←yA HV];simp[Tst.metBy];try omega)]
      rfl
  ·have he:k=l.length:=by omega
   subst he;go_wp2;go_ret;refine⟨?_,yA HC⟩;rw[pA0 (yA HM)];rfl
end Go.Proofs.YtodfcpblcpogiaaGreat

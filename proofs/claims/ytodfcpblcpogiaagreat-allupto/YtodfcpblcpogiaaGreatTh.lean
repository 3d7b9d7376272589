import Derived.Test.YtodfcpblcpogiaaGreatSw
import Derived.Test.YtodfcpblcpogiaaGreatSqa
import Derived.Test.YtodfcpblcpogiaaGreatAtp
import Derived.Test.YtodfcpblcpogiaaGreatAtg
namespace Go.Proofs.YtodfcpblcpogiaaGreat
open Go.RowKit
theorem RG.setHere {w:World}{b c:Nat}{ρ:zA}{σ:Net}(h:RG w b ρ σ)(hc:c<4)(y:Option Nat):RG (w.setCell ⟨b,3+c*13,none⟩ (int (whr y))) b ρ (σ.setCl c {σ.cl c with here:=y}):=by
 obtain⟨R,h1,rfl,h3⟩:=h;exact⟨_,h1.setHere hc y,rfl,h3.setCl _ _⟩
theorem RG.setHome {w:World}{b c:Nat}{ρ:zA}{σ:Net}(h:RG w b ρ σ)(hc:c<4)(y:Option Nat):RG (w.setCell ⟨b,3+c*13+1,none⟩ (int (whr y))) b ρ (σ.setCl c {σ.cl c with home:=y}):=by
 obtain⟨R,h1,rfl,h3⟩:=h;exact⟨_,h1.setHome hc y,rfl,h3.setCl _ _⟩
theorem RG.setStays {w:World}{b c:Nat}{ρ:zA}{σ:Net}(h:RG w b ρ σ)(hc:c<4)(y:Int):RG (w.setCell ⟨b,3+c*13+10,none⟩ (int y)) b ρ (σ.setCl c {σ.cl c with stays:=y}):=by
 obtain⟨R,h1,rfl,h3⟩:=h;exact⟨_,h1.setStays hc y,rfl,h3.setCl _ _⟩
theorem RG.setAge {w:World}{b c:Nat}{ρ:zA}{σ:Net}(h:RG w b ρ σ)(hc:c<4){j:Nat}(hj:j<2)(y:Int):RG (w.setCell ⟨b,3+c*13+4+j,none⟩ (int y)) b ρ (σ.setCl c {σ.cl c with age:=put (σ.cl c).age j y}):=by
 obtain⟨R,h1,rfl,h3⟩:=h;exact⟨_,h1.setAge hc hj y,rfl,h3.setCl _ _⟩
theorem RG.arrive {w:World}{b d:Nat}{ρ:zA}{σ:Net}(h:RG w b ρ σ)(hd:d<4)(x:Nat)(S:Int)(hS:S=(σ.cl d).stays+1):RG (((w.setCell ⟨b,3+d*13,none⟩ (int x)).setCell ⟨b,3+d*13+1,none⟩ (int x)).setCell ⟨b,3+d*13+10,none⟩ (int S)) b ρ (σ.arrive d x)∧Mv qL ρ ρ w (((w.setCell ⟨b,3+d*13,none⟩ (int x)).setCell ⟨b,3+d*13+1,none⟩ (int x)).setCell ⟨b,3+d*13+10,none⟩ (int S)):=by
 have h1:=h.setHere hd (some x);have h2:=h1.setHome hd (some x);have h3:=h2.setStays hd S;refine⟨?_,((h.poke_mv _).trans (h1.poke_mv _)).trans (h2.poke_mv _)⟩;have e:((σ.setCl d {σ.cl d with here:=some x}).setCl d {(σ.setCl d {σ.cl d with here:=some x}).cl d with home:=some x})=σ.setCl d {σ.cl d with here:=some x,home:=some x}:=by
  rw[tH,show (σ.setCl d {σ.cl d with here:=some x}).cl d={σ.cl d with here:=some x} from put_same _ _ _]
 rw[e] at h3;rw[show (σ.setCl d {σ.cl d with here:=some x,home:=some x}).cl d={σ.cl d with here:=some x,home:=some x} from put_same _ _ _,tH] at h3;unfold Net.arrive;rw[←hS];exact h3
def fB (σ:Net)(c x:Nat):Nat→Net
 | 0=>σ
 | k+1=>(fB σ c x k).backs c x k
structure SameC (x y:Cli):Prop where
 here:y.here=x.here
 home:y.home=x.home
 stays:y.stays=x.stays
 used:y.used=x.used
 age:y.age=x.age
 fl:y.fl=x.fl
theorem SameC.refl (x:Cli):SameC x x:=⟨rfl,rfl,rfl,rfl,rfl,rfl⟩
theorem SameC.trans {x y z:Cli}(h:SameC x y)(k:SameC y z):SameC x z:=⟨k.here.trans h.here,k.home.trans h.home,k.stays.trans h.stays,k.used.trans h.used,k.age.trans h.age,k.fl.trans h.fl⟩
theorem hF0 (σ:Net)(s:Nat)(e:News)(d:Nat):SameC (σ.cl d) ((σ.tell s e).cl d):=by
 show SameC _ (put σ.cl (s/2) ((σ.cl (s/2)).tell (s%2) e) d)
 by_cases h:d=s/2
 ·subst h;rw[put_same];unfold Cli.tell;split<;>exact⟨rfl,rfl,rfl,rfl,rfl,rfl⟩
 ·rw[kA _ _ h];exact SameC.refl _
theorem iG0 (σ:Net)(s:Nat)(m:Int)(d:Nat):SameC (σ.cl d) ((σ.lose s m).cl d):=by
 show SameC _ (put σ.cl (s/2) ((σ.cl (s/2)).lose (s%2) m) d)
 by_cases h:d=s/2
 ·subst h;rw[put_same];unfold Cli.lose;split<;>exact⟨rfl,rfl,rfl,rfl,rfl,rfl⟩
 ·rw[kA _ _ h];exact SameC.refl _
theorem yR (s d:Nat):∀(l:List News) (σ:Net),SameC (σ.cl d) ((σ.tells s l).cl d)
 | [],_=>SameC.refl _
 | e::l,σ=>(hF0 σ s e d).trans (yR s d l (σ.tell s e))
theorem oE0 (σ:Net)(c x k d:Nat):SameC (σ.cl d) ((σ.backs c x k).cl d):=by
 unfold Net.backs;split
 ·split
  ·exact SameC.refl _
  ·exact(iG0 σ _ _ d).trans (yR _ d _ _)
 ·exact SameC.refl _
theorem jO (σ:Net)(c x d:Nat):∀k,SameC (σ.cl d) ((fB σ c x k).cl d)
 | 0=>SameC.refl _
 | k+1=>(jO σ c x d k).trans (oE0 _ c x k d)
theorem aL0 (σ:Net)(c x k:Nat){s:Nat}(h:s≠2*c+k)(y:Nat):(σ.backs c x k).kn y s=σ.kn y s:=by
 unfold Net.backs;split
 ·split
  ·rfl
  ·rename_i f _
   show xB ((σ.lose (2*c+k) f.more).tells (2*c+k) f.kept).kn x (2*c+k) _ y s=_
   rw[jA _ _ (by intro e;exact h e.2),(jB _ _ _).2.2.2];rfl
 ·rfl
theorem Live.atHome {σ:Net}(L:Live σ){c x k:Nat}(hc:c<4)(hk:k<2)(hu:(σ.cl c).used k=true)(hh:(σ.cl c).here=none)(hm:(σ.cl c).home=some x):∃f,σ.kn x (2*c+k)=some f:=by
 have hs:(2*c+k)/2=c:=by omega
 have hk2:(2*c+k)%2=k:=by omega
 have V:=(L.view (2*c+k) (by omega)).ph;have huv:(σ.view (2*c+k)).used=true:=by simp only[Net.view,hs,hk2,hu]
 have hev:(σ.view (2*c+k)).here=none:=by simp only[Net.view,hs,hh]
 have hmv:(σ.view (2*c+k)).home=some x:=by simp only[Net.view,hs,hm]
 rcases V with⟨hu',_,_⟩ | ⟨h,_,hh',hc',_,_⟩ | ⟨_,_,_,_,_,_,he,_⟩ | ⟨_,_,_,_,_,_,_,he,_⟩
 ·rw[huv] at hu';cases hu'
 ·rw[hmv] at hh';cases hh'
  have hc':(σ.kn x (2*c+k)).map Fact.co=some _:=hc';cases hf:σ.kn x (2*c+k) with
  | none=>rw[hf] at hc';cases hc'
  | some f=>exact⟨f,rfl⟩
 ·rw[hev] at he;cases he
 ·rw[hev] at he;cases he
theorem Live.noHome {σ:Net}(L:Live σ){c k:Nat}(hc:c<4)(hk:k<2)(hm:(σ.cl c).home=none):(σ.cl c).used k=false:=by
 have hs:(2*c+k)/2=c:=by omega
 have hk2:(2*c+k)%2=k:=by omega
 have V:=(L.view (2*c+k) (by omega)).ph;have hmv:(σ.view (2*c+k)).home=none:=by simp only[Net.view,hs,hm]
 have huv:(σ.view (2*c+k)).used=(σ.cl c).used k:=by simp only[Net.view,hs,hk2]
 rcases V with⟨hu',_,_⟩ | ⟨h,_,hh',_⟩ | ⟨_,_,_,_,_,hh',_⟩ | ⟨_,_,_,_,_,_,hh',_⟩
 ·rw[huv] at hu';exact hu'
 ·rw[hmv] at hh';cases hh'
 ·rw[hmv] at hh';cases hh'
 ·rw[hmv] at hh';cases hh'
structure BakAt (w wr:World)(b:Nat)(ρ ρ':zA)(τ:Net)(x s:Nat)(f:Fact)(i g nn cap:Nat):Prop where
 fact:FactAt wr b ρ' τ x s f i g nn cap
 mv:Mv uB ρ ρ' w wr
set_option maxRecDepth 100000 in
set_option maxHeartbeats 8000000 in
theorem fB0 {w:World}{b:Nat}{ρ:zA}{σ:Net}(h:RG w b ρ σ){d x:Nat}(hd:d<4)(hx6:x<6)(hxn:x<σ.n)(_hs6:σ.n≤6)(hA:σ.asked (dA d)=0)(hh:(σ.cl d).here=none)(hm:∀k,k<2→(σ.cl d).used k=true→(σ.cl d).home=some x)(hfull:σ.waiting<100){m:Nat}(hSl:Slack 0 0 σ m)(hmm:m<2000000000000)
  (hst:0≤(σ.cl d).stays∧(σ.cl d).stays<2199023255552) (hkn:∀k,k<2→(σ.cl d).used k=true→∃f,σ.kn x (2*d+k)=some f):
  Calls Tryz.prog 15 #[.pointer (some ⟨b,0,none⟩),int d,int x] w fun e w'=>e=.returned (int 0)∧∃ρ',RG w' b ρ' ((fB σ d x 2).arrive d x)∧Mv uB ρ ρ' w w':=by
 have hdI:(d:Int)<4:=by omega
 have HA:=aC h d;rw[hA] at HA;have HA:=uA HA;obtain⟨pb,po,pcap,p0,_⟩:=h.parsAt;obtain⟨n,hn⟩:∃n,n=size σ.par:=⟨_,rfl⟩;rw[←hn] at p0;have hxI:(x:Int)<n:=by have:σ.n=size σ.par:=rfl;omega
 have hnx:¬n≤x:=by omega
 have C:=h.cl hd;have d0:=C.here;rw[hh] at d0;replace d0:w.cell? ⟨b,3+d*13,none⟩=some (int (-1)):=d0;obtain⟨a,cap,g1⟩:=h.frames;obtain⟨N,hN⟩:∃N,N=σ.waiting:=⟨_,rfl⟩;rw[←hN] at g1 hfull;have hfI:(N:Int)<100:=by omega
 have HSAME:=uA (fun k=>jO σ d x d k)
 have HSL:Hid (∀k,k≤2→Slack 0 0 (fB σ d x k) (m+k)):=uA (fun k hk=>by
  rcases(by omega:k=0∨k=1∨k=2) with rfl | rfl | rfl
  ·exact hSl
  ·exact hSl.backs (k:=0) hd (by omega) hx6
  ·exact(hSl.backs (k:=0) hd (by omega) hx6).backs (k:=1) hd (by omega) hx6)
 have HKN:Hid (∀k,k<2→(σ.cl d).used k=true→∃f,(fB σ d x k).kn x (2*d+k)=some f):=uA (fun k hk hu=>by
  obtain⟨f,hf⟩:=hkn k hk hu;rcases(by omega:k=0∨k=1) with rfl | rfl
  ·exact⟨f,hf⟩
  ·refine⟨f,?_⟩;show (σ.backs d x 0).kn x (2*d+1)=some f
   rw[aL0 σ d x 0 (by omega)];exact hf)
 have H0:Hid (RG w b ρ (fB σ d x 0)∧Mv uB ρ ρ w w):=uA ⟨h,aP0 h.lt⟩;obtain⟨S,hS⟩:∃S,S=(σ.cl d).stays:=⟨_,rfl⟩;have HS:=uA hS;have HCD:=uA hm;obtain⟨US,hUS⟩:∃US,US=(σ.cl d).used:=⟨_,rfl⟩;rw[←hUS] at HKN;have HUS:=uA hUS;rw[←hS] at hst;obtain⟨hst0,hst1⟩:=hst;obtain⟨B,hB⟩:∃B:Nat,2000000000000<B:=⟨2000000000001,by omega⟩;clear h C hA hN hn hSl hh hm hkn hS hUS hxn _hs6 hB B;go_enter Tryz.func15,Tryz.ntmps15
 go_wp2_with (go_at_call 38;refine(yA HA).mono ?_;rintro e w1 ⟨rfl,hw1⟩;have hw1:=hw1.symm;subst hw1)
 go_loopw [9] (fun p wr=>∃k:Nat,k≤2∧p=int k∧∃ρ',RG wr b ρ' (fB σ d x k)∧Mv uB ρ ρ' w wr) (fun p _=>2-(intOf p).toNat)
 case atStart=>exact⟨0,by omega,rfl,ρ,(yA H0).1,(yA H0).2⟩
 case round=>
  clear p0 d0 g1 H0;obtain⟨k,hk,rfl,ρ1,hR,hM⟩:=hrel;have SM:=yA HSAME k;have C:=hR.cl hd;by_cases hk2:k<2
  ·have hkI:(k:Int)<2:=by omega
   have hw1:IntKind.i64.wrap (2*(d:Int))=2*(d:Int):=by rw[IntKind.wrap_i64];omega
   have hw2:IntKind.i64.wrap (2*(d:Int)+k)=2*(d:Int)+k:=by rw[IntKind.wrap_i64];omega
   have hus:=C.used k hk2;rw[SM.used,←yA HUS] at hus;cases hu:US k with
   | false=>
    rw[hu] at hus
    have HN:Hid (RG wr b ρ1 (fB σ d x (k+1))∧Mv uB ρ ρ1 w wr):=uA ⟨by
     show RG wr b ρ1 ((fB σ d x k).backs d x k)
     unfold Net.backs;rw[if_neg (by rw[SM.used,←yA HUS,hu];simp)]
     exact hR,hM⟩
    clear hR hM SM C hu;go_wp2;go_roundw
    case rel=>exact⟨k+1,by omega,by go_num,ρ1,(yA HN).1,(yA HN).2⟩
    case measure=>simp[intOf];omega
   | true=>
    rw[hu] at hus;have hho:=C.home;rw[SM.home,yA HCD k hk2 (by rw[←yA HUS];exact hu)] at hho;replace hho:wr.cell? ⟨b,3+d*13+1,none⟩=some (int x):=hho;obtain⟨f,hf⟩:=yA HKN k hk2 hu;obtain⟨i,g,nn,fcap,hFA,_⟩:=hR.factAt hf;obtain⟨b2,hin,hn48⟩:=hFA.row;have hiI:(i:Int)<nn:=by omega
    have hsc:((2*d+k:Nat):Int)=2*(d:Int)+k:=by omega
    have HC2:Hid (∀w3,qA wr w3→Calls Tryz.prog 39 #[.pointer (some ⟨b,0,none⟩),int x,int (2*(d:Int)+k)] w3 fun e w'=>e=.returned (int i)∧w'=w3):=uA (fun w3 t=>by
     have:=(hFA.calm t).call;rw[hsc] at this
     exact this)
    obtain⟨_,kv,_,hkr,_,_,_,_,_,c5,c6,_⟩:=hFA.cells;have hgr:=hFA.role;have hslk:=yA HSL k (by omega);have hkl:f.kept.length≤(fB σ d x k).mass (2*d+k):=by
     have hmK:oB ((fB σ d x k).kn x (2*d+k))≤(fB σ d x k).massK (2*d+k):=jI (f:=fun b=>oB ((fB σ d x k).kn b (2*d+k))) hx6;rw[hf] at hmK;have:oB (some f)=f.kept.length:=rfl;show _≤(fB σ d x k).massK (2*d+k)+_
     omega
    have hl1:=hslk.log d hd;have ht1:=hslk.told (2*d+k) (by omega);have htn:(fB σ d x k).toldN (2*d+k)=(((fB σ d x k).cl d).told k).length:=by unfold Net.toldN;rw[show (2*d+k)/2=d by omega,show (2*d+k)%2=k by omega]
    have hlb:((fB σ d x k).cl d).log.length+1+f.kept.length<2199023255552:=by
     rcases(by omega:k=0∨k=1) with rfl | rfl
     ·rw[Nat.add_zero] at hkl;split at hl1<;>omega
     ·split at hl1<;>omega
    have htb:(((fB σ d x k).cl d).told k).length+f.kept.length<2199023255552:=by
     split at ht1<;>omega
    have HLOSE:Hid (∀w3,qA wr w3→Calls Tryz.prog 40 #[.pointer (some ⟨b,0,none⟩),int (2*(d:Int)+k),int f.more] w3 fun e w'=>e=.returned (.tuple #[])∧∃ρ2,BakAt w w' b ρ ρ2 (((fB σ d x k).lose (2*d+k) f.more).tells (2*d+k) (f.kept.take 0)) x (2*d+k) f i g nn fcap):=uA (fun w3 t=>by
     have:=(hFA.calm t).lose hd hk2 f.more (by omega);rw[hsc] at this;refine this.mono ?_;rintro r w' ⟨rfl,ρ2,k1,k2⟩
     exact⟨rfl,ρ2,k1,(hM.trans (zQ0 hR.lt t)).trans (k2.mono (fun _ _=>trivial))⟩)
    have HTELL:Hid (∀w3 ρ3 j e,j<f.kept.length→f.kept[j]?=some e→BakAt w w3 b ρ ρ3 (((fB σ d x k).lose (2*d+k) f.more).tells (2*d+k) (f.kept.take j)) x (2*d+k) f i g nn fcap→Calls Tryz.prog 41 #[.pointer (some ⟨b,0,none⟩),int (2*(d:Int)+k),.agg #[int e.ev.pub,int e.ev.num,int e.ev.f0,int e.ev.f1,int e.ev.f2,int e.stay]] w3 fun r w'=>r=.returned (.tuple #[])∧∃ρ',BakAt w w' b ρ ρ' (((fB σ d x k).lose (2*d+k) f.more).tells (2*d+k) (f.kept.take (j+1))) x (2*d+k) f i g nn fcap):=uA (fun w3 ρ3 j e hj he hq=>by
     have q:=iJ (σ:=fB σ d x k) (c:=d) hk2 f.more (f.kept.take j);have q2:(f.kept.take j).length≤f.kept.length:=by rw[List.length_take];omega
     have:=hq.fact.tell hd hk2 e (by omega) (by omega);rw[hsc] at this;refine this.mono ?_;rintro r w' ⟨rfl,ρ',k1,k2⟩
     rw[qI he,kG]
     exact⟨rfl,ρ',k1,hq.mv.trans (k2.mono (fun _ _=>trivial))⟩)
    have HEB:Hid (f.kept.length<2199023255552):=uA (by omega)
    have HFIN:Hid (∀w3 ρ3,BakAt w w3 b ρ ρ3 (((fB σ d x k).lose (2*d+k) f.more).tells (2*d+k) f.kept) x (2*d+k) f i g nn fcap→RG ((w3.setCell ⟨g,i*8+5,none⟩ rA).setCell ⟨g,i*8+6,none⟩ (int 0)) b ρ3 (fB σ d x (k+1))∧Mv uB ρ ρ3 w ((w3.setCell ⟨g,i*8+5,none⟩ rA).setCell ⟨g,i*8+6,none⟩ (int 0))):=uA (fun w3 ρ3 hq=>by
     obtain⟨q1,q2⟩:=hq.fact.pokeNil;obtain⟨q3,q4⟩:=q1.pokeMore 0;refine⟨?_,(hq.mv.trans (q2.mono (fun _ _=>trivial))).trans (q4.mono (fun _ _=>trivial))⟩;have:=q3.rg;rw[dV] at this;show RG _ b ρ3 ((fB σ d x k).backs d x k)
     unfold Net.backs;rw[if_pos (by rw[SM.used,←yA HUS,hu]),hf]
     exact this)
    obtain⟨mo,hmo⟩:∃mo,mo=f.more:=⟨_,rfl⟩;rw[←hmo] at c6 HLOSE HTELL HFIN;clear hR hM SM C hu hFA hkr hslk hkl hl1 ht1 htn hlb htb hf hmo hgr c5;obtain⟨B,hB⟩:∃B:Nat,f.kept.length<B:=⟨f.kept.length+1,by omega⟩;have HB:=uA hB;clear hB;go_wp2;go_region_held3 (fun w'=>w'.cell? ⟨b,2,none⟩=some (.slice (some ⟨g,0,none⟩) nn fcap))
     (first
      | exact b2
      | go_keep)
     (first
      | (go_at_call 39;refine(yA HC2 wr.drew (cP0 _ _).drew).mono ?_;rintro r w5 ⟨rfl,hw5⟩;have hw5:=hw5.symm;subst hw5))
    all_goals go_wp2_with (go_at_call 40;refine(yA HLOSE _ (cP0 _ _).drew).mono ?_;rintro r w6 ⟨rfl,ρ6,h6⟩;have H6:=uA h6;clear h6)
    all_goals go_loopw [12] (fun p wr2=>∃j:Nat,j≤f.kept.length∧p=int j∧∃ρ',BakAt w wr2 b ρ ρ' (((fB σ d x k).lose (2*d+k) mo).tells (2*d+k) (f.kept.take j)) x (2*d+k) f i g nn fcap) (fun p _=>B-(intOf p).toNat)
    case atStart=>exact⟨0,by omega,rfl,ρ6,yA H6⟩
    case round=>
     clear H6 ρ6 HC2 HLOSE b2 c6 hus hho;obtain⟨j,hj,rfl,ρ3,hS3⟩:=hrel;obtain⟨_,kv,_,hkr,_,_,_,_,_,c5,c6,_⟩:=hS3.fact.cells;obtain⟨ak,ck,rfl,hnw⟩:=uQ0 hkr;by_cases hjn:j<f.kept.length
     ·have hjI:(j:Int)<f.kept.length:=by omega
      obtain⟨e,he⟩:∃e,f.kept[j]?=some e:=⟨_,pO0 hjn⟩;obtain⟨gk,rfl,n0,n1,n2,n3,n4,n5⟩:=hnw j e he;have HCT:=uA (yA HTELL _ ρ3 j e hjn he hS3);clear hS3 hnw hkr he c6;go_wp2_with (go_at_call 41;refine(yA HCT).mono ?_;rintro r w7 ⟨rfl,ρ7,h7⟩;have H7:=uA h7;clear h7);go_roundw
      all_goals rw[show wrap64 ((j:Int)+1)=(j:Int)+1 by have:=yA HEB;simp only[wrap64];omega]
      all_goals first
       | exact⟨j+1,by omega,by go_num,ρ7,yA H7⟩
       | (have:=yA HB;simp[intOf];omega)
     ·have hje:j=f.kept.length:=by omega
      subst hje;rw[List.take_of_length_le (qO0 _)] at hS3;have z5:=hS3.fact.fz (i*8+5);have z6:=hS3.fact.fz (i*8+6);have HF:=uA (yA HFIN _ ρ3 hS3);clear hS3 hnw hkr HTELL HFIN;go_wp2;go_roundw
      case rel=>first | exact⟨k+1,by omega,by go_num,ρ3,(yA HF).1,(yA HF).2⟩ | (refine⟨_,_,_,_,_,_,_,_,_,_,_,_,_,_,_,_,_,_,_,_,_,_,_,_,_,_,_,_,_,_,_,_,_,_,_,_,_,_,_,_,_,_,_,_,_,_,_,_,_,_,_,_,_,_,_,_,_,_,_,_,_,_,_,_,_,_,_,_,_,_,_,_,_,_,_,_,_,_,_,_,_,_,_,_,_,_,_,_,_,_,_,_,_,_,_,_,_,_,_,_,_,_,_,_,_,_,_,_,_,_,_,_,_,_,_,_,_,_,_,_,_,_,?_,rfl⟩;exact⟨k+1,by omega,by go_num,ρ3,(yA HF).1,(yA HF).2⟩)
      case measure=>simp[intOf];omega
  ·have hke:k=2:=by omega
   subst hke;have q0:=C.here;have q1:=C.home;have q2:=C.stays;rw[SM.stays,←yA HS] at q2;have f0:=hR.fr (3+d*13);have f1:=hR.fr (3+d*13+1);have f2:=hR.fr (3+d*13+10);have hwS:IntKind.i64.wrap (S+1)=S+1:=by rw[IntKind.wrap_i64];omega
   have hfin:=hR.arrive hd x (S+1) (by rw[SM.stays,←yA HS]);have HF:=uA (And.intro hfin.1 (hM.trans (hfin.2.mono (fun _ _=>trivial))));obtain⟨A0,hA0⟩:∃A0,A0=whr ((fB σ d x 2).cl d).here:=⟨_,rfl⟩;obtain⟨A1,hA1⟩:∃A1,A1=whr ((fB σ d x 2).cl d).home:=⟨_,rfl⟩;rw[←hA0] at q0;rw[←hA1] at q1;clear hR hM SM C hfin hA0 hA1;go_wp2;go_ret;exact⟨rfl,ρ1,(yA HF).1,(yA HF).2⟩
theorem vB0 {w:World}{b:Nat}{ρ:zA}{R:RNet}(h:RX w b ρ R)(x s:Nat)(hn:R.fa.length≤1000):
  Calls Tryz.prog 76 #[.pointer (some ⟨b,0,none⟩),int x,int s] w fun e w'=>e=.returned (.tuple #[])∧∃ρ',RX w' b ρ' (R.forget x s)∧Mv yM ρ ρ' w w'∧∀o v,o≠2→w.cell? ⟨b,o,none⟩=some v→w'.cell? ⟨b,o,none⟩=some v:=by
 obtain⟨v,g1,hP⟩:=h.facts;obtain⟨a,cap,rfl⟩:=hP.slice;obtain⟨css,k1,k2,k3⟩:=id hP;have hat:∀i,i<R.fa.length→∃k cs,R.fa[i]?=some k∧css[i]?=some cs∧FaC w ρ k cs:=fun i hi=>by
  obtain⟨k,hk⟩:∃k,R.fa[i]?=some k:=⟨_,pO0 hi⟩;obtain⟨cs,hcs⟩:∃cs,css[i]?=some cs:=⟨_,pO0 (by omega)⟩;exact⟨k,cs,hk,hcs,k3 i k cs hk hcs⟩
 have hall:∀cs,cs∈css→cs.length=8:=fun cs hm=>by
  obtain⟨j,hj⟩:=List.getElem?_of_mem hm;have hjl:j<css.length:=(rO0.1 hj).1;obtain⟨k,cs',e1,e2,e3⟩:=hat j (by omega);rw[hj] at e2;cases e2
  exact e3.len
 refine(uQ b R.fa.length (faB R.fa) (faS R.fa) x s css a cap w hn h.fr g1 (fun i hi=>?_)).mono ?_
 ·obtain⟨k,cs,e1,e2,e3⟩:=hat i hi;have ho:=e3.ones;have hcell:∀g,a=some ⟨g,0,none⟩→∀(j:Nat) u,cs[j]?=some u→w.cell? ⟨g,i*8+j,none⟩=some u:=fun g hg j u hj=>by
   subst hg;have:=World.ownsRow.cells k2.1 (g:=g) rfl _ _ (fI hall e2 hj);rw[gP0,sP0] at this;exact this
  have hag:∃g,a=some ⟨g,0,none⟩:=by
   rcases k2.1.2 with⟨_,h0⟩ | ⟨g,c',cur,e,_⟩
   ·omega
   ·cases e;exact⟨g,rfl⟩
  obtain⟨g,hg⟩:=hag;have hc:=hcell g hg;obtain⟨fv,kv,_,_,rfl⟩:=e3;refine⟨g,_,_,_,_,_,_,hg,?_,fun u hu=>ho u (kO0 _ (kO0 _ hu)),?_,?_,hc 2 _ rfl,hc 3 _ rfl,hc 4 _ rfl,hc 5 _ rfl,hc 6 _ rfl,hc 7 _ rfl⟩
  ·rw[jO0,e2,zJ e1,bI e1];rfl
  ·rw[zJ e1];exact hc 0 _ rfl
  ·rw[bI e1];exact hc 1 _ rfl
 ·rintro e w' ⟨rfl,w1,lv,t1,hown,rfl⟩
  obtain⟨ρ',G⟩:=eR h (.known 0 0) g1 t1 hown;have hfil:∀i,i<R.fa.length→(!decide (faB R.fa i=(x:Int)∧faS R.fa i=(s:Int)))=!KFa.on x s (R.fa.getD i ⟨0,0,⟨0,[],none,[],0,false⟩⟩):=fun i hi=>by
   obtain⟨k,cs,e1,_,_⟩:=hat i hi;rw[zJ e1,bI e1,jO0,e1];simp only[Option.getD_some,KFa.on];congr 1
   rw[decide_eq_decide];omega
  have hidx:(List.range R.fa.length).filter (fun i=>!decide (faB R.fa i=(x:Int)∧faS R.fa i=(s:Int)))=(List.range R.fa.length).filter fun i=>!KFa.on x s (R.fa.getD i ⟨0,0,⟨0,[],none,[],0,false⟩⟩):=List.filter_congr (fun i hi=>hfil i (yP0.1 hi));have hfa:(R.forget x s).fa=((List.range R.fa.length).filter fun i=>!decide (faB R.fa i=(x:Int)∧faS R.fa i=(s:Int))).map fun i=>R.fa.getD i ⟨0,0,⟨0,[],none,[],0,false⟩⟩:=by
   rw[hidx];exact eI _ _ _
  have hlen:(fC (fun i=>!decide (faB R.fa i=(x:Int)∧faS R.fa i=(s:Int))) css R.fa.length).length=(R.forget x s).fa.length:=by
   rw[hfa];unfold fC;rw[List.length_map,List.length_map]
  refine⟨rfl,ρ',h.facts' G (fa:=(R.forget x s).fa) hlen hlen rfl (fun i k cs hk hcs=>?_),G.mv,fun o v ho hv=>G.cell o v ho hv⟩;rw[hfa] at hk;unfold fC at hcs;rw[List.getElem?_map] at hk hcs;cases hj:((List.range R.fa.length).filter fun i=>!decide (faB R.fa i=(x:Int)∧faS R.fa i=(s:Int)))[i]? with
  | none=>rw[hj] at hk;cases hk
  | some j=>
   rw[hj] at hk hcs;have hjm:=(dO0.1 (vP0 hj)).1;obtain⟨k',cs',e1,e2,e3⟩:=hat j (yP0.1 hjm);simp only[Option.map_some,Option.some.injEq,jO0,e1,e2,Option.getD_some] at hk hcs;subst hk hcs;exact e3
set_option maxRecDepth 100000 in
set_option maxHeartbeats 4000000 in
theorem mD0 {w:World}{b:Nat}{ρ:zA}{R:RNet}(h:RX w b ρ R){x s:Nat}{f:Fact}{v2 v3 v4 v5 v6 v7:Value}(hv:FaC w ρ ⟨x,s,f⟩ [int x,int s,v2,v3,v4,v5,v6,v7])(hn:R.fa.length≤1000):
    Calls Tryz.prog 42 #[.pointer (some ⟨b,0,none⟩),.agg #[int x,int s,v2,v3,v4,v5,v6,v7]] w fun e w'=>e=.returned (.tuple #[])∧∃ρ',RX w' b ρ' (R.learn x s f)∧Mv yM ρ ρ' w w'∧∀o v,o≠2→w.cell? ⟨b,o,none⟩=some v→w'.cell? ⟨b,o,none⟩=some v:=by
  have ho:=hv.ones;have o2:=ho v2 (by simp);have o3:=ho v3 (by simp);have o4:=ho v4 (by simp);have o5:=ho v5 (by simp);have o6:=ho v6 (by simp);have o7:=ho v7 (by simp);have HON:=uA ho;have hnon:ρ w.heap.size=none:=by
    cases hq:ρ w.heap.size with
    | none=>rfl
    | some r=>have:=h.lt w.heap.size (by rw[hq];simp);omega
  obtain⟨W,hW⟩:∃W,w.alloc (.cells #[int x,int s,v2,v3,v4,v5,v6,v7] 126)=W:=⟨_,rfl⟩;have hcal:qA w W:=by rw[←hW];exact(cP0 _ _).alloc _
  have hb0:W.heap[w.heap.size]?=some (.cells #[int x,int s,v2,v3,v4,v5,v6,v7] 126):=by rw[←hW];exact eP0 w _
  have c0:W.cell? ⟨w.heap.size,0,none⟩=some (int x):=xA hb0 0;have c1:W.cell? ⟨w.heap.size,1,none⟩=some (int s):=xA hb0 1;have HB0:=uA hb0;have HM0:Hid (Mv yM ρ ρ w W):=uA (zQ0 h.lt hcal);have HXW:=uA (h.calm hcal);have HCAL:=uA hcal;have HV:=uA hv;have HNN:=uA hnon;have HLN:=uA hn;clear ho h hv hnon hcal hb0 hn;go_enter Tryz.func42,Tryz.ntmps42
  go_wp2_with (go_at_call 76;(try rw[hW]);refine(vB0 (yA HXW) x s (yA HLN)).mono ?_;rintro e wx ⟨rfl,ρ2,h2,m2,n2⟩
               have HN2:=uA n2;have HX2:=uA h2;have HM2:=uA m2
               clear h2 m2 n2)
  have hbx:wx.heap[w.heap.size]?=some (.cells #[int x,int s,v2,v3,v4,v5,v6,v7] 126):=((yA HM2).touch.block _ (fP0 c0) (fun ⟨r,e,_⟩=>by rw[yA HNN] at e;cases e)).trans (yA HB0)
  obtain⟨vl,g1,css,k1,k2,k3⟩:=(yA HX2).facts;have hvb:vl.ownBlock≠some b:=fun e=>by have:=k2.2 b e;rw[(yA HX2).net] at this;cases this
  have hbl:b<wx.heap.size:=(yA HX2).lt b (by rw[(yA HX2).net];simp)
  have hfl:(R.forget x s).fa.length≤1000:=mO0 (R.forget_le x s) (yA HLN);have q0:wx.cell? ⟨w.heap.size,0,none⟩=some (int x):=xA hbx 0;have q1:wx.cell? ⟨w.heap.size,1,none⟩=some (int s):=xA hbx 1;have q2:wx.cell? ⟨w.heap.size,2,none⟩=some v2:=xA hbx 2;have q3:wx.cell? ⟨w.heap.size,3,none⟩=some v3:=xA hbx 3;have q4:wx.cell? ⟨w.heap.size,4,none⟩=some v4:=xA hbx 4;have q5:wx.cell? ⟨w.heap.size,5,none⟩=some v5:=xA hbx 5;have q6:wx.cell? ⟨w.heap.size,6,none⟩=some v6:=xA hbx 6;have q7:wx.cell? ⟨w.heap.size,7,none⟩=some v7:=xA hbx 7;have hone:vl.oneCell'=true:=k2.oneCell;have HRW:=uA k2;have HK3:=uA k3;have hFA:FaC wx ρ2 ⟨x,s,f⟩ [int x,int s,v2,v3,v4,v5,v6,v7]:=(yA HM2).faC ((yA HM0).faC (yA HV) (by simp) (by simp)) (by simp) (by simp);have HFA:=uA hFA;have HFZ:=uA (yA HX2).fr;obtain⟨ti,i3,z3,s3,b3⟩:=gQ;have I3:=uA i3;have Z3:=uA z3;have S3:=uA s3;have B3:=uA b3;clear i3 z3 s3 b3 k2 k3 hFA hbx c0 c1 hW;go_wp2
  go_region_law (first
    | (refine kB _ rfl _ _ 113 rfl 0 126 ti (.agg #[int 0,int 0,int 0,rA,int 0,rA,int 0,.bool false]) 8 96 Tryz.underlying113 (yA I3) (yA Z3) (yA S3) (yA B3) rfl (by decide) vl (R.forget x s).fa.length css.flatten rfl ?own ⟨wx.heap.size,0,none⟩ 1 1 [int x,int s,v2,v3,v4,v5,v6,v7] rfl rfl ?news ?one (by decide) ?h63 ?bytes ?base ?_
       case own=>exact eA (yA HRW).1 (((cP0 (fun _=>False) _).alloc _).drew) (fun _ _ f=>f)
       case news=>intro j u hj;exact yC wx [int x,int s,v2,v3,v4,v5,v6,v7] 126 j u hj
       case one=>exact yA HON
       case h63=>unfold maxLen;omega
       case bytes=>omega
       case base=>simp
       intro g2 cp2 w2 hg2;have hne:¬b=g2:=by
         rcases hg2.2.1 with⟨h,_⟩ | ⟨h,_⟩
         · intro e;exact hvb (by rw[h,e])
         · simp at h;omega
       have ht2:Touch (fun i=>i=g2) wx w2:=by
         rcases hg2.2.1 with⟨_,h⟩ | ⟨_,h⟩
         · exact bP0 (((cP0 _ _).alloc _).drew) h
         · exact(((cP0 (fun i=>i=g2) wx).alloc _).drew).calm h
       have dl2:w2.cell? ⟨b,2,none⟩=some vl:=ht2.cell (p:=⟨b,2,none⟩) hne g1;have fz2:w2.frozen? ⟨b,2,none⟩=false:=(nP0 (w:=wx) (a:=⟨b,2,none⟩) (ht2.block b hbl hne)).trans (yA HFZ _);have HG2:=uA hg2
       clear hg2 ht2))
  all_goals go_end0
  all_goals
    have hk:=(yA HX2).knows (yA HFA) g1 k1 (yA HRW) (yA HK3) (((cP0 (fun _=>False) wx).alloc _).drew) (yA HG2);have G:=yQ (yA HX2) (by simp) g1 (yA HRW) (((cP0 (fun _=>False) wx).alloc _).drew) (yA HG2);exact⟨rfl,_,hk.1,((yA HM0).trans (yA HM2)).trans hk.2,fun o v ho hv=>G.cell o v ho (yA HN2 o v ho ((yA HCAL).cell (p:=⟨b,o,none⟩) id hv))⟩
theorem aF0 {w:World}{b:Nat}{ρ:zA}{R:RNet}(h:RX w b ρ R){x y:Nat}{f:Fr}{v:Value}(hv:FrG w ρ f v)(hn:R.fr.length<2199023255):
  Calls Tryz.prog 43 #[.pointer (some ⟨b,0,none⟩),v,int x,int y] w fun e w'=>e=.returned (.tuple #[])∧∃ρ',RX w' b ρ' (R.send x y f)∧Mv mN ρ ρ' w w'∧∀o v,o≠1→w.cell? ⟨b,o,none⟩=some v→w'.cell? ⟨b,o,none⟩=some v:=by
 obtain⟨v0,v1,v2,v3,v4,v5,v6,v7,v8,v9,v10,v11,v12,v13,v14,v15,rfl,e1,e2,e3⟩:=hv;obtain⟨vl,g1,css,g2,g3,g4⟩:=h.frames;have ho:=(e3 x y).ones;have hvb:vl.ownBlock≠some b:=fun e=>by have:=g3.2 b e;rw[h.net] at this;cases this
 refine(qV b R.fr.length x y v0 v1 v2 v3 v4 v5 v6 v7 v8 v9 v10 v11 v12 v13 v14 v15 vl css.flatten w h.fr (fun u hu=>?_) g1 g3.1 hn hvb).mono ?_
 ·simp only[List.mem_cons,List.not_mem_nil,or_false] at hu;rcases hu with rfl | rfl | rfl | rfl | rfl | rfl | rfl | rfl | rfl | rfl | rfl | rfl | rfl | rfl | rfl | rfl<;>first | assumption | exact ho _ (by simp)
 ·rintro e w' ⟨rfl,w1,w2,g,cap,t1,hg,rfl⟩
  have:=h.sent (e3 x y) g1 g2 g3 g4 t1 hg;have G:=yQ h (by simp) g1 g3 t1 hg;exact⟨rfl,_,this.1,this.2,fun o v ho hv=>G.cell o v ho hv⟩
section
variable {w w' : World} {b : Nat} {ρ ρ' : Nat → Option Role} {σ : Net}
theorem eX (h:RG w b ρ σ){x s:Nat}(hx:x<6)(hs:s<8){f:Fact}{v2 v3 v4 v5 v6 v7:Value}(hv:FaC w ρ ⟨x,s,f⟩ [int x,int s,v2,v3,v4,v5,v6,v7]):Calls Tryz.prog 42 #[.pointer (some ⟨b,0,none⟩),.agg #[int x,int s,v2,v3,v4,v5,v6,v7]] w fun e w'=>e=.returned (.tuple #[])∧∃ρ',RG w' b ρ' (σ.know x s (some f))∧Mv yM ρ ρ' w w'∧∀o v,o≠2→w.cell? ⟨b,o,none⟩=some v→w'.cell? ⟨b,o,none⟩=some v:=by
 obtain⟨R,h1,rfl,h3⟩:=h;refine(mD0 h1 hv (by have:=h3.len;omega)).mono ?_;rintro e w' ⟨rfl,ρ',k1,k2,k3⟩
 exact⟨rfl,ρ',⟨_,k1,uP x s f,h3.learn hx hs f⟩,k2,k3⟩
theorem sendG2 (h:RG w b ρ σ){x y:Nat}(hx:x<6)(hy:y<6){f:Fr}{v:Value}(hv:FrG w ρ f v)(hn:σ.waiting<1000000000):Calls Tryz.prog 43 #[.pointer (some ⟨b,0,none⟩),v,int x,int y] w fun e w'=>e=.returned (.tuple #[])∧∃ρ',RG w' b ρ' (σ.push x y f)∧Mv mN ρ ρ' w w'∧∀o v,o≠1→w.cell? ⟨b,o,none⟩=some v→w'.cell? ⟨b,o,none⟩=some v:=by
 obtain⟨R,h1,rfl,h3⟩:=h;rw[h3.waiting] at hn;refine(aF0 h1 hv (by omega)).mono ?_;rintro e w' ⟨rfl,ρ',k1,k2,k3⟩
 exact⟨rfl,ρ',⟨_,k1,zS x y f,h3.send hx hy f⟩,k2,k3⟩
end
def sC (σ:Net)(c x old:Nat):Nat→Net
 | 0=>σ
 | k+1=>(sC σ c x old k).comes c x old k
theorem fH0 (σ:Net)(c x old k:Nat):(σ.comes c x old k).cl c=if (σ.cl c).used k then {σ.cl c with age:=put (σ.cl c).age k ((σ.cl c).age k+1)} else σ.cl c:=by
 unfold Net.comes;simp only;split
 ·exact put_same _ _ _
 ·rfl
theorem rT (σ:Net)(c x old k:Nat):(σ.comes c x old k).par=σ.par:=by
 unfold Net.comes;simp only;split<;>rfl
theorem sE0 (σ:Net)(c x old k a y:Nat):((σ.comes c x old k).q a y).length≤(σ.q a y).length+1:=by
 unfold Net.comes;simp only;split
 ·show (xB σ.q x (tB σ.par x old) (σ.q x (tB σ.par x old)++[_]) a y).length≤_
  by_cases e:a=x∧y=tB σ.par x old
  ·rw[e.1,e.2,put2_same,hO0];simp
  ·rw[jA _ _ e];omega
 ·omega
structure ComesOk (σ τ:Net)(c k:Nat):Prop where
 here:(τ.cl c).here=(σ.cl c).here
 home:(τ.cl c).home=(σ.cl c).home
 stays:(τ.cl c).stays=(σ.cl c).stays
 used:(τ.cl c).used=(σ.cl c).used
 fl:(τ.cl c).fl=(σ.cl c).fl
 age:∀j,k≤j→(τ.cl c).age j=(σ.cl c).age j
 par:τ.par=σ.par
 q:∀a y,(τ.q a y).length≤(σ.q a y).length+k
theorem pT (σ:Net)(c x old:Nat):∀k,ComesOk σ (sC σ c x old k) c k
 | 0=>⟨rfl,rfl,rfl,rfl,rfl,fun _ _=>rfl,rfl,fun _ _=>qO0 _⟩
 | k+1=>by
  have h:=pT σ c x old k;have hc:=fH0 (sC σ c x old k) c x old k;have e:sC σ c x old (k+1)=(sC σ c x old k).comes c x old k:=rfl;rw[e];have hq:∀a y,(((sC σ c x old k).comes c x old k).q a y).length≤(σ.q a y).length+(k+1):=fun a y=>by
   have h1:=sE0 (sC σ c x old k) c x old k a y;have h2:=h.q a y;omega
  by_cases hu:((sC σ c x old k).cl c).used k=true
  ·rw[if_pos hu] at hc;exact⟨by rw[hc];exact h.here,by rw[hc];exact h.home,by rw[hc];exact h.stays,by rw[hc];exact h.used,by rw[hc];exact h.fl,fun j hj=>by rw[hc];show put _ k _ j=_;rw[kA _ _ (by omega)];exact h.age j (by omega),(rT _ _ _ _ _).trans h.par,hq⟩
  ·rw[if_neg hu] at hc;exact⟨by rw[hc];exact h.here,by rw[hc];exact h.home,by rw[hc];exact h.stays,by rw[hc];exact h.used,by rw[hc];exact h.fl,fun j hj=>by rw[hc];exact h.age j (by omega),(rT _ _ _ _ _).trans h.par,hq⟩
end Go.Proofs.YtodfcpblcpogiaaGreat

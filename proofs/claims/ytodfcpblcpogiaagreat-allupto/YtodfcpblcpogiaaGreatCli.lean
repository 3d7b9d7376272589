import Derived.Test.YtodfcpblcpogiaaGreatToc
import Derived.Test.YtodfcpblcpogiaaGreatAtp
namespace Go.Proofs.YtodfcpblcpogiaaGreat
open Go.RowKit
set_option maxHeartbeats 400000 in
theorem gA0 (b o:Nat)(a:Int)(w:World)(h:w.cell? ⟨b,o+1,none⟩=some (int a)):Calls Tryz.prog 34 #[.pointer (some ⟨b,o,none⟩)] w fun e w'=>e=.returned (int a)∧w'=w:=by
 go_enter Tryz.func34,Tryz.ntmps34
 go_wp2;go_ret
 exact⟨rfl,rfl⟩
set_option maxHeartbeats 400000 in
theorem cD (b o k:Nat)(g:Bool)(w:World)(hk:k<2)(h:w.cell? ⟨b,o+4+k*13,none⟩=some (.bool g)):Calls Tryz.prog 63 #[.pointer (some ⟨b,o,none⟩),int k] w fun e w'=>e=.returned (.bool g)∧w'=w:=by
 have hki:(k:Int)<2:=by omega
 go_enter Tryz.func63,Tryz.ntmps63
 go_wp2;go_ret
 exact⟨rfl,rfl⟩
set_option maxHeartbeats 400000 in
theorem bE (k:Int)(w:World):Calls Tryz.prog 87 #[int k] w fun e w'=>e=.returned (.bool (decide (0≤k∧k<2)))∧w'=w:=by
  by_cases h0:0≤k<;>by_cases h1:k<2<;>
  (go_enter Tryz.func87,Tryz.ntmps87
   go_wp2;go_ret
   exact⟨by simp[h0,h1],rfl⟩)
set_option maxHeartbeats 400000 in
theorem dG0 (b o:Nat)(w:World)(u:Value)(h:w.cell? ⟨b,o,none⟩=some u)(f:∀o',w.frozen? ⟨b,o',none⟩=false):
  Calls Tryz.prog 45 #[.pointer (some ⟨b,o,none⟩)] w fun e w'=>e=.returned (.tuple #[])∧w'=w.setCell ⟨b,o,none⟩ (int (-1)):=by
 go_enter Tryz.func45,Tryz.ntmps45
 go_wp2;go_end0
 exact⟨rfl,rfl⟩
set_option maxHeartbeats 400000 in
theorem rN (kb:Nat)(g:Bool)(w:World)(h:w.cell? ⟨kb,14,none⟩=some (.bool g)):Calls Tryz.prog 65 #[ptr kb] w fun e w'=>e=.returned (.bool g)∧w'=w:=by
 go_enter Tryz.func65,Tryz.ntmps65
 go_wp2;go_ret
 exact⟨rfl,rfl⟩
def sJ (σ:Net)(x s:Nat):Bool:=match σ.kn x s with
 | some f=>f.waits
 | none=>false
def lD (σ:Net)(c:Nat):Bool:=match (σ.cl c).here with
 | none=>false
 | some x=>sJ σ x (2*c) || sJ σ x (2*c+1)
theorem Live.waits_eq {σ:Net}(L:Live σ){c:Nat}(hc:c<4):lD σ c=σ.waits c:=by
 unfold lD Net.waits;cases hh:(σ.cl c).here with
 | none=>rfl
 | some x=>
  have key:∀k,k<2→sJ σ x (2*c+k)=((σ.cl c).used k && (match σ.kn x (2*c+k) with | some f=>f.waits | none=>false)):=fun k hk=>by
   unfold sJ;cases hf:σ.kn x (2*c+k) with
   | none=>simp
   | some f=>
    simp only;cases hu:(σ.cl c).used k with
    | true=>simp
    | false=>
     have hs:(2*c+k)/2=c:=by omega
     have hk2:(2*c+k)%2=k:=by omega
     have V:=L.view (2*c+k) (by omega);have huv:(σ.view (2*c+k)).used=false:=by simp only[Net.view,hs,hk2,hu]
     have hco:(σ.view (2*c+k)).co x=some f.co:=by show (σ.kn x (2*c+k)).map Fact.co=_;rw[hf];rfl
     have hw:f.way≠none:=by
      cases V.ph with
      | off _ ho _=>exact ho x f.co hco (fun h=>h)
      | on h h1=>rw[huv] at h1;cases h1
      | moving h old x y h1=>rw[huv] at h1;cases h1
      | resting h x y evs more h1=>rw[huv] at h1;cases h1
     simp[((L.kept x _ f hf).2 hw).2.2]
  have h0:=key 0 (by omega);have h1:=key 1 (by omega);simp only[Nat.add_zero] at h0;simp only[h0,h1,List.range,List.range.loop,List.any_cons,List.any_nil,Bool.or_false,Nat.add_zero];rfl
set_option maxRecDepth 100000 in
set_option maxHeartbeats 1000000 in
theorem mG {w:World}{b:Nat}{ρ:zA}{σ:Net}(h:XN w b ρ σ){c:Nat}(hc:c<4)(hx:∀x,(σ.cl c).here=some x→x<6):
    Calls Tryz.prog 28 #[.pointer (some ⟨b,0,none⟩),int c] w fun e w'=>e=.returned (.bool (lD σ c))∧qA w w':=by
  have hat:=(h.cli c hc).here;have hci:(c:Int)<4:=by omega
  have hbl:=h.lt b (by rw[h.net];simp)
  cases hh:(σ.cl c).here with
  | none=>
    rw[hh] at hat;replace hat:w.cell? ⟨b,86+c*31,none⟩=some (int (-1)):=hat;have hr:lD σ c=false:=by simp[lD,hh]
    rw[hr];clear h;go_enter Tryz.func28,Tryz.ntmps28
    go_wp2_with (go_at_call 32;refine(zC b (86+c*31) (-1) _ hat).mono ?_;rintro e w1 ⟨rfl,hw1⟩;have hw1:=hw1.symm;subst hw1)
    go_ret;exact⟨rfl,cP0 _ _⟩
  | some x=>
    rw[hh] at hat;replace hat:w.cell? ⟨b,86+c*31,none⟩=some (int x):=hat;have hx6:=hx x hh;have hxi:(x:Int)<6:=by omega
    have hxm:((x:Int) == -1)=false:=by rw[iE];exact pP0 (by omega)
    have hr:lD σ c=(sJ σ x (2*c+0) || sJ σ x (2*c+1)):=by simp[lD,hh]
    rw[hr];have hkn:∀k,k<2→∃v,w.cell? ⟨b,38+x*8+c*2+k,none⟩=some v∧((v=.pointer none∧sJ σ x (2*c+k)=false)∨∃kb,v=ptr kb∧w.cell? ⟨kb,14,none⟩=some (.bool (sJ σ x (2*c+k)))):=fun k hk=>by
      obtain⟨v,e,f⟩:=h.known x c k hx6 hc hk;refine⟨v,e,?_⟩;unfold sJ;cases hf:σ.kn x (2*c+k) with
      | none=>rw[hf] at f;exact Or.inl ⟨f,rfl⟩
      | some g=>
        rw[hf] at f;obtain⟨kb,kv,rfl,_,hblk,_⟩:=f;exact Or.inr ⟨kb,rfl,xA hblk 14⟩
    have HKN:=uA hkn;have HAT:=uA hat;clear h hkn;go_enter Tryz.func28,Tryz.ntmps28
    go_wp2_with (go_at_call 32;refine(zC b (86+c*31) x _ hat).mono ?_;rw[hxm];rintro e w1 ⟨rfl,hw1⟩;have hw1:=hw1.symm;subst hw1)
    clear hat;go_loopw [15] (fun p wr=>∃k:Nat,k≤2∧p=int k∧qA w wr∧∀j,j<k→sJ σ x (2*c+j)=false) (fun p _=>2-(intOf p).toNat)
    case atStart=>exact⟨0,by omega,rfl,cP0 _ _,fun j hj=>by omega⟩
    case round=>
      obtain⟨k,hk,rfl,ht,hno⟩:=hrel;by_cases hlt:k<2
      · have hki:(k:Int)<2:=by omega
        have hat1:=ht.cell (p:=⟨b,86+c*31,none⟩) id (yA HAT);obtain⟨v,hv,hvv⟩:=yA HKN k hlt;have e0:=ht.cell (p:=⟨b,38+x*8+c*2+k,none⟩) id hv;have HNO:=uA hno;rcases hvv with⟨rfl,hwk⟩ | ⟨kb,rfl,hwk⟩
        · have HT:=uA ht
          clear ht hno;go_wp2
          go_region_with (first
            | (go_at_call 49;refine(iF b (86+c*31) x _ ?_).mono ?_;exact hat1;rintro e w1 ⟨rfl,rfl⟩)
            | (go_at_call 64;refine(oG b (38+x*8) c k _ (.pointer none) hc hlt ⟨_,rfl⟩ ?_).mono ?_;exact e0;rintro e w1 ⟨rfl,rfl⟩))
          all_goals go_wp2
          all_goals go_roundw
          all_goals first
            | exact⟨k+1,by omega,by go_num,(yA HT).drew,fun j hj=>by
                by_cases e:j=k
                · rw[e];exact hwk
                · exact yA HNO j (by omega)⟩
            | (simp[intOf];omega)
        · have e14:=ht.cell (p:=⟨kb,14,none⟩) id hwk
          have HT:=uA ht;clear ht hno;cases hb:sJ σ x (2*c+k) with
          | true=>
            rw[hb] at e14;go_wp2
            go_region_with (first
              | (go_at_call 49;refine(iF b (86+c*31) x _ ?_).mono ?_;exact hat1;rintro e w1 ⟨rfl,rfl⟩)
              | (go_at_call 64;refine(oG b (38+x*8) c k _ (ptr kb) hc hlt ⟨_,rfl⟩ ?_).mono ?_;exact e0;rintro e w1 ⟨rfl,rfl⟩))
            all_goals go_wp2_with (go_at_call 65;refine(rN kb true _ ?_).mono ?_;exact e14;rintro e w1 ⟨rfl,hw1⟩;have hw1:=hw1.symm;subst hw1)
            all_goals go_ret
            all_goals
              refine⟨?_,(yA HT).drew⟩;obtain rfl | rfl:k=0∨k=1:=by omega
              · rw[hb];rfl
              · rw[hb];simp
          | false=>
            rw[hb] at e14;go_wp2
            go_region_with (first
              | (go_at_call 49;refine(iF b (86+c*31) x _ ?_).mono ?_;exact hat1;rintro e w1 ⟨rfl,rfl⟩)
              | (go_at_call 64;refine(oG b (38+x*8) c k _ (ptr kb) hc hlt ⟨_,rfl⟩ ?_).mono ?_;exact e0;rintro e w1 ⟨rfl,rfl⟩))
            all_goals go_wp2_with (go_at_call 65;refine(rN kb false _ ?_).mono ?_;exact e14;rintro e w1 ⟨rfl,hw1⟩;have hw1:=hw1.symm;subst hw1)
            all_goals go_roundw
            all_goals first
              | exact⟨k+1,by omega,by go_num,(yA HT).drew,fun j hj=>by
                  by_cases e:j=k
                  · rw[e];exact hb
                  · exact yA HNO j (by omega)⟩
              | (simp[intOf];omega)
      · have hki:¬(k:Int)<2:=by omega
        have hk2:k=2:=by omega
        subst hk2;have H0:=uA (hno 0 (by omega));have H1:=uA (hno 1 (by omega));have HT:=uA ht;clear ht hno;go_wp2;go_ret
        exact⟨by
          have e0:sJ σ x (2*c)=false:=yA H0
          rw[e0,yA H1];rfl,yA HT⟩
theorem aD0 {w:World}{b o:Nat}{l:List Tst}(h:FilAt w b o true l):w.cell? ⟨b,o,none⟩=some (int (sA l 0).fld)∧w.cell? ⟨b,o+1,none⟩=some (int (sA l 0).op)∧w.cell? ⟨b,o+2,none⟩=some (int (sA l 0).n)∧w.cell? ⟨b,o+3,none⟩=some (int (sA l 1).fld)∧w.cell? ⟨b,o+4,none⟩=some (int (sA l 1).op)∧w.cell? ⟨b,o+5,none⟩=some (int (sA l 1).n)∧w.cell? ⟨b,o+6,none⟩=some (int (sA l 2).fld)∧w.cell? ⟨b,o+7,none⟩=some (int (sA l 2).op)∧w.cell? ⟨b,o+8,none⟩=some (int (sA l 2).n)∧w.cell? ⟨b,o+9,none⟩=some (int l.length):=by
 obtain⟨us,_,h2,_,h4⟩:=h;have h4:=h4 rfl;subst h4;exact⟨h2 0 _ rfl,h2 1 _ rfl,h2 2 _ rfl,h2 3 _ rfl,h2 4 _ rfl,h2 5 _ rfl,h2 6 _ rfl,h2 7 _ rfl,h2 8 _ rfl,h2 9 _ rfl⟩
abbrev tL0 (l:List Tst):Value:=.agg #[int (sA l 0).fld,int (sA l 0).op,int (sA l 0).n,int (sA l 1).fld,int (sA l 1).op,int (sA l 1).n,int (sA l 2).fld,int (sA l 2).op,int (sA l 2).n,int l.length]
set_option maxRecDepth 100000 in
set_option maxHeartbeats 400000 in
theorem dH0 (b o k:Nat)(p:Int)(l:List Tst)(w:World)(hk:k<2)(hp:w.cell? ⟨b,o+4+k*13+1,none⟩=some (int p))(hf:FilAt w b (o+4+k*13+2) true l)(hfr:∀o',w.frozen? ⟨b,o',none⟩=false):
  Calls Tryz.prog 73 #[.pointer (some ⟨b,o,none⟩),int k] w fun e w'=>e=.returned (.tuple #[int (wrap64 (p+1)),tL0 l])∧qA (w.setCell ⟨b,o+4+k*13+1,none⟩ (int (wrap64 (p+1)))) w':=by
 obtain⟨f0,f1,f2,f3,f4,f5,f6,f7,f8,f9⟩:=aD0 hf;have hki:(k:Int)<2:=by omega
 have hb:=fP0 hp;simp only at hb;clear hf;go_enter Tryz.func73,Tryz.ntmps73
 go_wp2;go_region
 all_goals go_wp2
 all_goals go_region
 all_goals go_wp2
 all_goals exact bodyPost_ret (v:=.tuple #[int (wrap64 (p+1)),tL0 l]) (by simp[results,Tryz.results73,go_sem,tL0]) rfl ⟨rfl,(((cP0 _ _).alloc _).drew).drew⟩
theorem XN.setAge {w:World}{b:Nat}{ρ:zA}{σ:Net}(h:XN w b ρ σ){c k:Nat}(hc:c<4)(hk:k<2)(v:Int):XN (w.setCell ⟨b,86+c*31+4+k*13+1,none⟩ (int v)) b ρ (σ.setCl c {σ.cl c with age:=put (σ.cl c).age k v})∧Mv (fun r=>r=.net) ρ ρ w (w.setCell ⟨b,86+c*31+4+k*13+1,none⟩ (int v)):=by
 have C:=h.cli c hc;have hne:∀o u,o≠86+c*31+4+k*13+1→w.cell? ⟨b,o,none⟩=some u→(w.setCell ⟨b,86+c*31+4+k*13+1,none⟩ (int v)).cell? ⟨b,o,none⟩=some u:=fun o u ho hu=>tA w ho hu;have hkr:∀i r,ρ i=some r→r≠.net→(w.setCell ⟨b,86+c*31+4+k*13+1,none⟩ (int v)).heap[i]?=w.heap[i]?∧ρ i=ρ i:=fun i r hi hr=>⟨zB w _ (fun e=>by subst e;rw[h.net] at hi;cases hi;exact hr rfl),rfl⟩;refine⟨h.storeCli hc _ _ (by omega) (by omega) ?_,yQ0 (S:=fun r=>r=.net) h.lt h.net rfl _ _⟩;obtain⟨u,g1,g2⟩:=C.log;refine⟨hne _ _ (by omega) C.here,hne _ _ (by omega) C.home,hne _ _ (by omega) C.stays,hne _ _ (by omega) C.many,fun k' h2=>hne _ _ (by omega) (C.used k' h2),fun k' h2=>?_,fun k' h2=>(C.fl k' h2).keep (fun j v hj=>hne _ _ (by omega)),fun k' h2=>?_,u,hne _ _ (by omega) g1,g2.keep (fun i hi=>hkr i _ hi (by simp))⟩
 ·by_cases e:k'=k
  ·subst e;simp only[put_same];exact mP0 w _ _ (C.age k' h2)
  ·simp only[kA _ _ e];exact hne _ _ (by omega) (C.age k' h2)
 ·obtain⟨u',f1,f2⟩:=C.heard k' h2;exact⟨u',hne _ _ (by omega) f1,f2.keep (fun i hi=>hkr i _ hi (by simp))⟩
end Go.Proofs.YtodfcpblcpogiaaGreat

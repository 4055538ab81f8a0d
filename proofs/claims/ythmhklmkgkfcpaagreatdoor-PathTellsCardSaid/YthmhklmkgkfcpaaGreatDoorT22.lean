import Derived.Test.YthmhklmkgkfcpaaGreatDoorT4
import Derived.Test.YthmhklmkgkfcpaaGreatDoorT10
import Derived.Test.YthmhklmkgkfcpaaGreatDoorT19
import Derived.Test.YthmhklmkgkfcpaaGreatDoorT21
set_option linter.unusedVariables false
set_option linter.unusedSimpArgs false
set_option maxHeartbeats 8000000
set_option maxRecDepth 100000
namespace Go.Proofs.YthmhklmkgkfcpaaGreatDoor
open Go.RowKit
theorem aaa.tidy {t:List Nod}{K:Nat}(h:aaa t K)(hs:adT t 40):abo t K:=by
 have hk:∀ x,(ats t x).kind=2→x % 2=1:=fun x hx=>by
  rcases h.okA x with h1 | ⟨h1,_⟩
  ·rw[h1] at hx;cases hx
  ·omega
 refine ⟨h.le,h.len,fun x=>?_,hk⟩;by_cases hx:x<t.length
 ·rcases h.okA x with h1 | ⟨h1,⟨h2,h3,h4⟩,h5,h6,h7⟩
  ·rw[h1];exact adN.blank
  ·have hm:ats t x∈t:=by rw[aey hx];exact List.getElem_mem hx
   obtain ⟨s1,s2,s3⟩:=hs.2 _ hm;refine ⟨by omega,⟨h2,h3⟩,s1,s2,by omega,fun i hi=>?_⟩;obtain ⟨j,q,rfl,hj,hq⟩:=ahm K x (by rw[← h.len];exact hx);obtain ⟨_,y1,y2⟩:=aa1 h.le hj hq;obtain ⟨k,rfl,hkq,hk1⟩:=h.unAt y1 y2 i hi;have hk2:2*k<t.length:=by
    refine Nat.lt_of_not_le fun hle=>?_
    rw[acM hle] at hk1;cases hk1
   have hl:=h.len2;have hp:=abH h.le;omega
 ·rw[acM (by omega)];exact adN.blank
theorem adN.hashed {n:Nod}(h:adN n){b:List UInt8}(hb:b.length≤40):adN (adO n b):=⟨h.kind,h.name,h.pub,hb,h.unl,h.un⟩
theorem abo.hashed {t:List Nod}{K:Nat}(h:abo t K)(x:Nat){b:List UInt8}(hb:b.length≤40)(hx:x<t.length):abo (t.set x (adO (ats t x) b)) K:=by
 refine ⟨h.le,by rw[List.length_set];exact h.len,fun y=>?_,fun y hy=>?_⟩
 ·rw[abu _ _ _ _ hx]
  split
  ·exact (h.node x).hashed hb
  ·exact h.node y
 ·rw[abu _ _ _ _ hx] at hy
  split at hy
  ·next e=>subst e;exact h.par _ hy
  ·exact h.par y hy
theorem alF {t ar1:List Nod}(hk:∀ i,(ats ar1 i).kind=(ats t i).kind){a b:Int}{l:List Int}(h:unP t a b l):unP ar1 a b l:=
 ⟨h.1,fun i hi=>by rw[hk];exact h.2 i hi⟩
theorem aaa.hashed {t:List Nod}{K:Nat}(h:aaa t K)(x:Nat){b:List UInt8}(hb:b.length=0∨b.length=32)(hx:x<t.length)(hne:(ats t x).kind≠0):aaa (t.set x (adO (ats t x) b)) K:=by
 have hA:=abu t x (adO (ats t x) b);have hk:∀ y,(ats (t.set x (adO (ats t x) b)) y).kind=(ats t y).kind:=fun y=>by
  rw[hA y hx];split
  ·next e=>subst e;rfl
  ·rfl
 have hn:∀ y,(ats (t.set x (adO (ats t x) b)) y).name=(ats t y).name:=fun y=>by
  rw[hA y hx];split
  ·next e=>subst e;rfl
  ·rfl
 refine ⟨h.le,by rw[List.length_set];exact h.len,fun y hy=>?_,fun y z hyz hz h1 h2=>?_,?_⟩
 ·rw[List.length_set] at hy
  by_cases e:y=x
  ·subst e
   rcases h.okA y with h1 | ⟨h1,h2,h3,h4,h5⟩
   ·rw[h1] at hne;exact absurd rfl hne
   ·refine .inr ?_
    rw[hA y hx,if_pos rfl];exact ⟨h1,h2,hb,h4,fun e2=>⟨(h5 e2).1,alF hk (h5 e2).2⟩⟩
  ·have e2:ats (t.set x (adO (ats t x) b)) y=ats t y:=by rw[hA y hx,if_neg e]
   rcases h.okA y with h1 | ⟨h1,h2,h3,h4,h5⟩
   ·exact .inl (e2.trans h1)
   ·refine .inr ?_
    rw[e2];exact ⟨h1,h2,h3,h4,fun e3=>⟨(h5 e3).1,alF hk (h5 e3).2⟩⟩
 ·rw[hk] at h1 h2
  rw[hn,hn];rw[List.length_set] at hz;exact h.one y z hyz hz h1 h2
 ·obtain ⟨y,hy,h1⟩:=h.used
  exact ⟨y,by rw[List.length_set];exact hy,by rw[hk];exact h1⟩
theorem aqR (t:List Nod)(x side:Int):(aboV t x side).length=0∨(aboV t x side).length=32:=by
 unfold aboV;split
 ·exact .inr (ahZ _)
 ·exact .inl rfl
theorem amj {t:List Nod}{K i:Nat}{s:List Nod × List UInt8}{x:Nat}(hx:x<t.length)(h1:abo s.1 K)(h2:s.1.length=t.length)(h3:s.2.length=0∨s.2.length=32):
  abo (layS i s x).1 K∧(layS i s x).1.length=t.length∧((layS i s x).2.length=0∨(layS i s x).2.length=32)∧(aaa s.1 K→aaa (layS i s x).1 K):=by
 unfold layS;split
 ·next hk=>
  refine ⟨h1.hashed x (by omega) (by omega),by rw[List.length_set];exact h2,aqR _ _ _,fun hr=>hr.hashed x h3 (by omega) (by rw[hk];decide)⟩
 ·exact ⟨h1,h2,h3,fun h=>h⟩
theorem aib {t:List Nod}{K i:Nat}:∀ (l:List Nat) (s:List Nod × List UInt8),(∀ x∈l,x<t.length)→abo s.1 K→s.1.length=t.length→(s.2.length=0∨s.2.length=32) →
  abo (l.foldl (layS i) s).1 K∧(l.foldl (layS i) s).1.length=t.length∧((l.foldl (layS i) s).2.length=0∨(l.foldl (layS i) s).2.length=32)∧(aaa s.1 K→aaa (l.foldl (layS i) s).1 K)
 | [],s,_,h1,h2,h3=>⟨h1,h2,h3,fun h=>h⟩
 | x :: l,s,hl,h1,h2,h3=>by
  obtain ⟨g1,g2,g3,g4⟩:=amj (i:=i) (hl x (by simp)) h1 h2 h3
  obtain ⟨f1,f2,f3,f4⟩:=aib (i:=i) l (layS i s x) (fun y hy=>hl y (by simp[hy])) g1 g2 g3
  exact ⟨f1,f2,f3,fun h=>f4 (g4 h)⟩
theorem aaa.there_iff {t:List Nod}{K:Nat}(h:aaa t K)(k:Nat):aas t (k:Int)↔(ats t (2*k)).kind=1:=by
 constructor
 ·intro hi
  have:=hi.2.2;rwa [Int.toNat_natCast] at this
 ·intro hk
  have:=aaa.lt_of (t:=t) (x:=2*k) (by rw[hk];decide);exact ⟨by omega,by unfold lvs;omega,by rw[Int.toNat_natCast];exact hk⟩
theorem aaa.new {name:Int}{pub:List UInt8}(h:mayP name pub):aaa [aah name pub] 0:=by
 have e0:ats [aah name pub] 0=aah name pub:=rfl;refine ⟨by omega,rfl,fun x hx=>?_,fun x y hxy hy=>by simp at hy;omega,⟨0,by simp,rfl⟩⟩;have:x=0:=by simpa using hx
 subst this;rw[show okP [aah name pub] 0↔_ from Iff.rfl];exact .inr ⟨rfl,h,.inl rfl,fun _=>rfl,fun h2=>absurd h2 (show ¬(1:Int)=2 by decide)⟩
def Fit (t:List Nod)(i:Nat):Prop:=okP t i∧∀ j,j<i→¬((ats t i).kind=1∧(ats t j).kind=1∧(ats t i).name=(ats t j).name)
theorem aob {t:List Nod}{K:Nat}(hK:K≤10)(hl:t.length=2 ^ (K+1) - 1):ac5 t↔(∀ i,i<t.length→Fit t i)∧∃ i,i<t.length∧(ats t i).kind=1:=by
 constructor
 ·rintro ⟨K',h⟩
  refine ⟨fun i hi=>⟨h.ok i hi,fun j hj hc=>h.one j i hj hi hc.2.1 hc.1 hc.2.2.symm⟩,h.used⟩
 ·rintro ⟨h1,h2⟩
  exact ⟨K,hK,hl,fun x hx=>(h1 x hx).1,fun x y hxy hy a b e=>(h1 y hy).2 x hxy ⟨b,a,e.symm⟩,h2⟩
theorem aai.no {p:Prop}(h:¬p):aai (.returned (.bool false)) p:=⟨false,rfl,fun h=>(by cases h),fun e=>absurd e h⟩
theorem aai.yes {p:Prop}(h:p):aai (.returned (.bool true)) p:=⟨true,rfl,fun _=>h,fun _=>rfl⟩
theorem ajU (u:Value)(t:List Nod)(x K:Nat)(w:World)(hu:NL w u t)(hK:K≤10)(hl:t.length=2 ^ (K+1) - 1)(hx:x<t.length):
  Calls Tryz.prog 76 #[u,.int .i64 (x:Int)] w fun e w'=>aai e (okP t x)∧Kp w w':=by
 by_cases hk:(ats t x).kind=0
 ·exact ajT u t x w hu hx hk
 ·exact aiJ u t x K w hu hK hl hx hk
theorem aiK (u:Value)(t:List Nod)(w:World)(hu:NL w u t)(hl:t.length≤100000):
  Calls Tryz.prog 27 #[u] w fun e w'=>aai e (ac5 t)∧Kp w w':=by
 have HL:=Lib.hid (abZ u t w hu hl);have HU:=Lib.hid hu;have hlm:=aeE (t:=t) hl;have HW:=Lib.hid (ajn ((lvs t:Nat):Int) w);obtain ⟨a,c,rfl,p1,s1⟩:=hu.shape;by_cases hT:isTB ((lvs t:Nat):Int)=true
 ·have e1:widE ((lvs t:Nat):Int)=0:=if_pos hT
  have e2:widV ((lvs t:Nat):Int)=2*((lvs t:Nat):Int) - 1:=if_pos hT;rw[e1,e2] at HW;obtain ⟨K,hK,eK⟩:=(aeP _).1 hT;by_cases hlen:t.length=2*lvs t - 1
  ·have hlen2:t.length=2 ^ (K+1) - 1:=by rw[aal];omega
   have hpos:1≤lvs t:=by have:=aaz K;omega
   have eW:2*((lvs t:Nat):Int) - 1=((t.length:Nat):Int):=by omega
   have HN:Hid (∀ x W,x<t.length→Kp w W→Calls Tryz.prog 76 #[.slice a t.length c,.int .i64 (x:Int)] W fun e w'=>aai e (okP t x)∧Kp W w'):=fun x W hx hW=>ajU _ t x K W (hu.kp hW) hK hlen2 hx
   have HI:=aob hK hlen2;have HALL:Hid ((∀ i,i<t.length→Fit t i)→(ac5 t↔∃ i,i<t.length∧(ats t i).kind=1)):=fun h=>⟨fun e=>(HI.1 e).2,fun e=>HI.2 ⟨h,e⟩⟩
   have HNO:Hid (∀ i,i<t.length→¬Fit t i→¬ac5 t):=fun i hi h e=>h ((HI.1 e).1 i hi)
   rw[eW] at HW;generalize ac5 t=RP at *;obtain ⟨N,hN⟩:∃ N,t.length=N:=⟨_,rfl⟩;rw[hN] at HU p1 HL HN HALL HNO HW hl ⊢;generalize lvs t=L at *;clear hu hN HI eW e1 e2 hT eK hlen hlen2 s1;go_enter Tryz.func27,Tryz.ntmps27;go_wp2_with fail;refine HL.out.mono ?_;rintro _ _ ⟨rfl,rfl⟩;go_wp2_with fail;refine HW.out.mono ?_;rintro _ _ ⟨rfl,rfl⟩;clear HL HW;go_wp2_with fail;go_loopw[6,7] (fun m x wr=>∃ k n:Nat,k≤N∧x=.int .i64 (k:Int)∧m=.int .i64 (n:Int)∧n≤k∧(0<n↔∃ i,i<k∧(ats t i).kind=1)∧(∀ i,i<k→Fit t i)∧Kp w wr) (fun _ x _=>(N - (intOf x).toNat))
   case atStart=>exact ⟨0,0,Nat.zero_le _,rfl,rfl,Nat.le_refl _,⟨fun h=>by omega,fun ⟨i,h,_⟩=>by omega⟩,fun i h=>by omega,Kp.refl _⟩
   case round=>
    obtain ⟨k,n,hk,rfl,rfl,hn,hused,hpre,hkp⟩:=hrel;by_cases hlt:k<N
    ·have HC:=Lib.hid (HN.out k wr hlt hkp)
     have HNO2:=HNO.out k hlt;obtain ⟨b,off,rfl,hb,hc⟩:=HU.out.at k hlt;have i1:IntKind.i64.wrap ((k:Int)+1)=(k:Int)+1:=IntWalk.i64_in _ (by omega);have i2:(k:Int)<(N:Int):=by omega
     have i2b:IntKind.i64.wrap ((n:Int)+1)=((n+1:Nat):Int):=by rw[IntWalk.i64_in _ (by omega)];omega
     have HUS:=Lib.hid hused;have HPR:=Lib.hid hpre;have hkw:=hkp;clear hused hpre hkp HN HALL HNO;go_wp2_with fail;refine HC.out.mono ?_;rintro _ w1 ⟨⟨q,rfl,hq⟩,k1⟩;have KK:=hkw.trans k1;obtain ⟨p,q2,h,hn1⟩:=hc k hlt;have c0:=KK.cell hn1.kind;have c1:=KK.cell hn1.name;have HCJ:Hid (∀ j,j<N→∃ X Y,X=(ats t j).kind∧Y=(ats t j).name∧w.cell? ⟨b,off+j*5,none⟩=some (.int .i64 X)∧w.cell? ⟨b,off+j*5+1,none⟩=some (.int .i64 Y)):=fun j hj=>by
      obtain ⟨p',q',h',hn'⟩:=hc j hj;exact ⟨_,_,rfl,rfl,hn'.kind,hn'.name⟩
     clear hn1 hc HC k1 hkw;cases q
     ·have HB:=Lib.hid (HNO2 fun h=>by cases hq.2 h.1)
      clear hq HNO2;go_wp2_with fail;go_ret;exact ⟨aai.no HB.out,KK⟩
     ·have hok:=Lib.hid (hq.1 rfl)
      clear hq;have D1:=Lib.hid (show w.cell? ⟨b,off+k*5+1,none⟩=some (.int .i64 (ats t k).name) by
       obtain ⟨X,Y,eX,eY,d0,d1⟩:=HCJ.out k hlt;rw[d1,eY])
      have D0:=Lib.hid (show w.cell? ⟨b,off+k*5,none⟩=some (.int .i64 (ats t k).kind) by
       obtain ⟨X,Y,eX,eY,d0,d1⟩:=HCJ.out k hlt;rw[d0,eX])
      by_cases hkind:(ats t k).kind=1
      ·rw[hkind] at D0
       have HK:=Lib.hid hkind;rw[hkind] at c0;have KD:=Lib.hid KK;clear hkind;go_wp2_with fail;go_loopw[9] (fun y wr=>∃ j:Nat,j≤k∧y=.int .i64 (j:Int)∧(∀ i,i<j→¬((ats t k).kind=1∧(ats t i).kind=1∧(ats t k).name=(ats t i).name))∧Kp w wr) (fun y _=>(k - (intOf y).toNat))
       case atStart=>exact ⟨0,Nat.zero_le _,rfl,fun i h=>by omega,KD.out⟩
       case round=>
        obtain ⟨j,hj,rfl,hpj,hkj⟩:=hrel;by_cases hjl:j<k
        ·have i3:IntKind.i64.wrap ((j:Int)+1)=(j:Int)+1:=IntWalk.i64_in _ (by omega)
         have i4:(j:Int)<(N:Int):=by omega
         have i5:(j:Int)<(k:Int):=by omega
         obtain ⟨X',Y',eX,eY,d0,d1⟩:=HCJ.out j (by omega);have d0:=hkj.cell d0;have d1:=hkj.cell d1;have HPRE:Hid (¬((ats t k).kind=1∧(ats t j).kind=1∧(ats t k).name=(ats t j).name)→∀ i,i<j+1→¬((ats t k).kind=1∧(ats t i).kind=1∧(ats t k).name=(ats t i).name)):=fun he i hi=>by
          rcases Nat.lt_or_eq_of_le (Nat.lt_succ_iff.1 hi) with h3 | h3
          ·exact hpj i h3
          ·rw[h3];exact he
         have KJ:=Lib.hid hkj;clear hkj hpj;have d2:=KJ.out.cell D0.out;have d3:=KJ.out.cell D1.out;have HE:=Lib.hid (And.intro eX eY);clear eX eY;by_cases hx1:X'=1
         ·subst hx1
          by_cases hy1:(ats t k).name=Y'
          ·have HB:=Lib.hid (HNO2 fun h=>h.2 j hjl ⟨HK.out,HE.out.1.symm,hy1.trans HE.out.2⟩)
           generalize (ats t k).name=Y at *;subst hy1;clear HPRE HNO2 HE;go_wp2_with fail;go_region
           go_wp2_with fail;go_ret;exact ⟨aai.no HB.out,KJ.out.drew⟩
          ·have HP:=Lib.hid (HPRE.out fun h=>hy1 (h.2.2.trans HE.out.2.symm))
           have hyb:((ats t k).name==Y')=false:=beq_eq_false_iff_ne.2 hy1;clear HPRE HNO2 HE;go_wp2_with fail;go_region
           go_wp2_with fail;go_roundw
           case rel=>exact ⟨j+1,by omega,by go_num,HP.out,KJ.out.drew⟩
           case measure=>simp[intOf];omega
         ·have HP:=Lib.hid (HPRE.out fun h=>hx1 (HE.out.1.trans h.2.1))
          have hxb:(X'==1)=false:=beq_eq_false_iff_ne.2 hx1;clear HPRE HNO2 HE;go_wp2_with fail;go_region
          go_wp2_with fail;go_roundw
          case rel=>exact ⟨j+1,by omega,by go_num,HP.out,KJ.out.drew⟩
          case measure=>simp[intOf];omega
        ·obtain rfl:j=k:=by omega
         have HF:Hid (∀ i,i<j+1→Fit t i):=fun i hi=>by
          rcases Nat.lt_or_eq_of_le (Nat.lt_succ_iff.1 hi) with h3 | h3
          ·exact HPR.out i h3
          ·subst h3;exact ⟨hok.out,hpj⟩
         have KJ:=Lib.hid hkj;have HU2:Hid (0<n+1↔∃ i,i<j+1∧(ats t i).kind=1):=⟨fun _=>⟨j,by omega,HK.out⟩,fun _=>by omega⟩;clear hkj hpj HNO2 HCJ;go_wp2_with fail;go_roundw
         case rel=>exact ⟨j+1,n+1,by omega,by go_num,rfl,by omega,HU2.out,HF.out,KJ.out⟩
         case measure=>simp[intOf];omega
      ·have HK:=Lib.hid hkind
       have HKK:=Lib.hid hkind;obtain ⟨X,hX⟩:∃ X,(ats t k).kind=X:=⟨_,rfl⟩;rw[hX] at D0 c0 HK hkind;clear hX;have hkb:(X==1)=false:=beq_eq_false_iff_ne.2 hkind;have KD:=Lib.hid KK;clear hkind;go_wp2_with fail;go_loopw[9] (fun y wr=>∃ j:Nat,j≤k∧y=.int .i64 (j:Int)∧(∀ i,i<j→¬(X=1∧(ats t i).kind=1∧(ats t k).name=(ats t i).name))∧Kp w wr) (fun y _=>(k - (intOf y).toNat))
       case atStart=>exact ⟨0,Nat.zero_le _,rfl,fun i h=>by omega,KD.out⟩
       case round=>
        obtain ⟨j,hj,rfl,hpj,hkj⟩:=hrel;by_cases hjl:j<k
        ·have i3:IntKind.i64.wrap ((j:Int)+1)=(j:Int)+1:=IntWalk.i64_in _ (by omega)
         have i4:(j:Int)<(N:Int):=by omega
         have i5:(j:Int)<(k:Int):=by omega
         obtain ⟨X',Y',eX,eY,d0,d1⟩:=HCJ.out j (by omega);have d0:=hkj.cell d0;have d1:=hkj.cell d1;have HPRE:Hid (¬(X=1∧(ats t j).kind=1∧(ats t k).name=(ats t j).name)→∀ i,i<j+1→¬(X=1∧(ats t i).kind=1∧(ats t k).name=(ats t i).name)):=fun he i hi=>by
          rcases Nat.lt_or_eq_of_le (Nat.lt_succ_iff.1 hi) with h3 | h3
          ·exact hpj i h3
          ·rw[h3];exact he
         have KJ:=Lib.hid hkj;clear hkj hpj;have d2:=KJ.out.cell D0.out;have HP:=Lib.hid (HPRE.out fun h=>HK.out h.1);clear HPRE HNO2 eX eY d0 d1;go_wp2_with fail;go_region
         go_wp2_with fail;go_roundw
         case rel=>exact ⟨j+1,by omega,by go_num,HP.out,KJ.out.drew⟩
         case measure=>simp[intOf];omega
        ·obtain rfl:j=k:=by omega
         have HF:Hid (∀ i,i<j+1→Fit t i):=fun i hi=>by
          rcases Nat.lt_or_eq_of_le (Nat.lt_succ_iff.1 hi) with h3 | h3
          ·exact HPR.out i h3
          ·subst h3;exact ⟨hok.out,fun z hz hc=>HKK.out hc.1⟩
         have KJ:=Lib.hid hkj;have HU2:Hid (0<n↔∃ i,i<j+1∧(ats t i).kind=1):=⟨fun h=>by
          obtain ⟨i,a1,a2⟩:=HUS.out.1 h;exact ⟨i,by omega,a2⟩,fun ⟨i,a1,a2⟩=>HUS.out.2 ⟨i,by
          rcases Nat.lt_or_eq_of_le (Nat.lt_succ_iff.1 a1) with h3 | h3
          ·exact h3
          ·subst h3;exact absurd a2 HKK.out,a2⟩⟩
         clear hkj hpj HNO2 HCJ;go_wp2_with fail;go_roundw
         case rel=>exact ⟨j+1,n,by omega,by go_num,rfl,by omega,HU2.out,HF.out,KJ.out⟩
         case measure=>simp[intOf];omega
    ·obtain rfl:k=N:=by omega
     have HB:=Lib.hid (HALL.out hpre);have HUS:=Lib.hid hused;have KK:=Lib.hid hkp;clear HALL HNO hpre hused hkp HN;go_wp2_with fail;go_ret;refine ⟨⟨_,rfl,fun h=>HB.out.2 (HUS.out.1 ?_),fun h=>?_⟩,KK.out⟩
     ·have:=of_decide_eq_true h;omega
     ·have:=HUS.out.2 (HB.out.1 h)
      exact decide_eq_true (by omega)
  ·have HB:Hid (¬ac5 t):=fun h=>by
    obtain ⟨K',h⟩:=h;have h1:=h.lv;have h2:=h.len2;omega
   have hne:¬2*((lvs t:Nat):Int) - 1=(t.length:Int):=by
    have:1≤lvs t:=by have:=aaz K;omega
    omega
   have hneb:(2*((lvs t:Nat):Int) - 1==(t.length:Int))=false:=beq_eq_false_iff_ne.2 hne;generalize ac5 t=RP at *;generalize lvs t=L at *;generalize 2*(L:Int) - 1=V at *;clear hu HU e1 e2 hT eK hlen;go_enter Tryz.func27,Tryz.ntmps27;go_wp2_with fail;refine HL.out.mono ?_;rintro _ _ ⟨rfl,rfl⟩;go_wp2_with fail;refine HW.out.mono ?_;rintro _ _ ⟨rfl,rfl⟩;go_wp2_with fail;go_ret;exact ⟨aai.no HB.out,Kp.refl _⟩
 ·have e1:widE ((lvs t:Nat):Int)=1:=if_neg hT
  have e2:widV ((lvs t:Nat):Int)=0:=if_neg hT;rw[e1,e2] at HW;have HB:Hid (¬ac5 t):=fun h=>by
   obtain ⟨K',h⟩:=h;exact hT ((aeP _).2 ⟨K',h.le,by rw[h.lv]⟩)
  generalize ac5 t=RP at *;generalize lvs t=L at *;clear hu HU e1 e2 hT;go_enter Tryz.func27,Tryz.ntmps27;go_wp2_with fail;refine HL.out.mono ?_;rintro _ _ ⟨rfl,rfl⟩;go_wp2_with fail;refine HW.out.mono ?_;rintro _ _ ⟨rfl,rfl⟩;go_wp2_with fail;go_ret;exact ⟨aai.no HB.out,Kp.refl _⟩
theorem OI.own_ge {e:TypeId}{w:World}{B:Nat}{v:Value}{l:List Int}(h:OI e w B v l):∀ k,v.ownBlock=some k→B≤k:=fun k hk=>(h.lt k hk).1
theorem NO.own_ge {e:TypeId}{w:World}{B:Nat}{v:Value}{t:List Nod}(h:NO e w B v t):∀ k,v.ownBlock=some k→B≤k:=fun k hk=>(h.lt k hk).1
theorem OI.lit1 (w:World)(e:TypeId)(n:Int):RI (w.alloc (.cells #[.int .i64 n] e)) (.slice (some ⟨w.heap.size,0,none⟩) 1 1) [n]:=(RI.lit w e #[.int .i64 n] [n] 1 rfl (by omega) rfl).ri
structure Puts (l:List Int)(n:Int)(k:Nat)(d:Bool)(o:List Int):Prop where
 mk ::
 no:d=false→k≤cutI l n∧o=l.take k
 yes:d=true→cutI l n<k∧o=l.take (cutI l n)++n :: (l.take k).drop (cutI l n)
theorem agO {l:List Int}{k:Nat}(h:k<l.length):l.getD k 0=l[k]:=by
 rw[List.getD_eq_getElem?_getD,List.getElem?_eq_getElem h];rfl
theorem Puts.start (l:List Int)(n:Int):Puts l n 0 false []:=⟨fun _=>⟨Nat.zero_le _,by simp⟩,fun h=>(by cases h)⟩
theorem Puts.low {l:List Int}{n:Int}{k:Nat}{o:List Int}(h:Puts l n k false o)(hk:k<l.length)(hn:¬n<l.getD k 0):Puts l n (k+1) false (o++[l.getD k 0]):=by
 obtain ⟨h1,h2⟩:=h.no rfl;refine ⟨fun _=>⟨?_,?_⟩,fun h=>(by cases h)⟩
 ·rcases Nat.lt_or_eq_of_le h1 with h3 | h3
  ·exact h3
  ·exfalso
   subst h3;have:=ars (l:=l) (n:=n) hk;rw[agO hk] at hn;exact hn this
 ·rw[h2,agO hk,List.take_succ_eq_append_getElem hk]
theorem Puts.in {l:List Int}{n:Int}{k:Nat}{o:List Int}(h:Puts l n k false o)(hk:k<l.length)(hn:n<l.getD k 0):Puts l n (k+1) true ((o++[n])++[l.getD k 0]):=by
 obtain ⟨h1,h2⟩:=h.no rfl;have e:k=cutI l n:=by
  rcases Nat.lt_or_eq_of_le h1 with h3 | h3
  ·exfalso
   have:=arq h3 hk;rw[agO hk] at hn;omega
  ·exact h3
 refine ⟨fun h=>(by cases h),fun _=>⟨by omega,?_⟩⟩;rw[h2,← e,agO hk,List.take_succ_eq_append_getElem hk,List.drop_append_of_le_length (by rw[List.length_take];omega),List.drop_of_length_le (by rw[List.length_take];omega)];simp
theorem Puts.high {l:List Int}{n:Int}{k:Nat}{o:List Int}(h:Puts l n k true o)(hk:k<l.length):Puts l n (k+1) true (o++[l.getD k 0]):=by
 obtain ⟨h1,h2⟩:=h.yes rfl;refine ⟨fun h=>(by cases h),fun _=>⟨by omega,?_⟩⟩;rw[h2,agO hk,List.take_succ_eq_append_getElem hk,List.drop_append_of_le_length (by rw[List.length_take];omega)];simp
theorem Puts.endNo {l:List Int}{n:Int}{o:List Int}(h:Puts l n l.length false o):o++[n]=putN l n:=by
 obtain ⟨h1,h2⟩:=h.no rfl;have:=aqs l n;have e:cutI l n=l.length:=by omega
 unfold putN;rw[h2,e,List.drop_length]
theorem Puts.endYes {l:List Int}{n:Int}{o:List Int}(h:Puts l n l.length true o):o=putN l n:=by
 obtain ⟨h1,h2⟩:=h.yes rfl;rw[h2,List.take_length];rfl
theorem Puts.len {l:List Int}{n:Int}{k:Nat}{d:Bool}{o:List Int}(h:Puts l n k d o)(hk:k≤l.length):o.length≤k+1:=by
 cases d
 ·rw[(h.no rfl).2,List.length_take];omega
 ·obtain ⟨h1,h2⟩:=h.yes rfl
  rw[h2,List.length_append,List.length_cons,List.length_take,List.length_drop,List.length_take];omega
theorem aic (u:Value)(l:List Int)(n:Int)(w:World)(hu:RI w u l)(hl:l.length≤100000):
  Calls Tryz.prog 87 #[u,.int .i64 n] w fun e w'=>(∃ r,e=.returned r∧OI 3 w' w.heap.size r (putN l n))∧Kp w w':=by
 have S:=adM;have HU:=Lib.hid hu;obtain ⟨a,c,rfl,p1,s1⟩:=hu.shape;unfold maxLen at s1;obtain ⟨N,hN⟩:∃ N,l.length=N:=⟨_,rfl⟩;have HLOW:=Lib.hid (fun k o h hk hn=>Puts.low (l:=l) (n:=n) (k:=k) (o:=o) h hk hn);have HIN:=Lib.hid (fun k o h hk hn=>Puts.in (l:=l) (n:=n) (k:=k) (o:=o) h hk hn);have HHIGH:=Lib.hid (fun k o h hk=>Puts.high (l:=l) (n:=n) (k:=k) (o:=o) h hk);have HLEN:=Lib.hid (fun k d o h hk=>Puts.len (l:=l) (n:=n) (k:=k) (d:=d) (o:=o) h hk);have HE1:=Lib.hid (fun o h=>Puts.endNo (l:=l) (n:=n) (o:=o) h);have HE2:=Lib.hid (fun o h=>Puts.endYes (l:=l) (n:=n) (o:=o) h);have HST:=Lib.hid (Puts.start l n);rw[hN] at HU p1 HLOW HIN HHIGH HLEN HE1 HE2 hl ⊢;generalize putN l n=OUT at *;clear hu hN;go_enter Tryz.func87,Tryz.ntmps87;go_wp2_with fail;go_loopw[5,6,7] (fun v d i wr=>∃ (k:Nat) (b:Bool) (o:List Int),k≤N∧i=.int .i64 (k:Int)∧d=.bool b∧OI 3 wr w.heap.size v o∧Puts l n k b o∧Kp w wr) (fun _ _ i _=>(N - (intOf i).toNat))
 case atStart=>exact ⟨0,false,[],Nat.zero_le _,rfl,rfl,OI.nil _ _ _,HST.out,Kp.refl _⟩
 case round=>
  obtain ⟨k,b,o,hk,rfl,rfl,ho,hp,hkp⟩:=hrel;have hol:=HLEN.out k b o hp hk;by_cases hlt:k<N
  ·obtain ⟨g1,o1,rfl,_,hc1⟩:=HU.out.at k hlt
   have h1:=hkp.cell (hc1 k hlt);have HC:Hid (∀ W,Kp w W→W.cell? ⟨g1,o1+k,none⟩=some (.int .i64 (l.getD k 0))):=fun W hW=>hW.cell (hc1 k hlt)
   have i1:IntKind.i64.wrap ((k:Int)+1)=(k:Int)+1:=IntWalk.i64_in _ (by omega);have HLO:=HLOW.out k o;have HI:=HIN.out k o;have HHI:=HHIGH.out k o;have hsz:=hkp.size;clear hc1 HLOW HIN HHIGH HLEN HE1 HE2 HST;generalize l.getD k 0=X at *;cases b
   ·by_cases hx:n<X
    ·have HP:=Lib.hid (HI hp hlt hx)
     clear HLO HI HHI hp;go_wp2_with (first
      | (at_builtin;refine aav (o:=⟨some 27,_,_,_,_,_⟩) S rfl _ _ rfl w.heap.size _ o rfl (ho.kp ((Kp.refl wr).alloc _)) _ [n] rfl (OI.lit1 wr 3 n) (by simp;omega) (by simp;omega) ?_;intro v4 w4 o4 g4;have k4:Kp w w4:=Kp.grown (hkp.alloc _) g4 ho.own_ge;have h4:=HC.out w4 k4;have hsz4:=k4.size)
      | (at_builtin;refine aav (o:=⟨some 34,_,_,_,_,_⟩) S rfl _ _ rfl w.heap.size _ (o++[n]) rfl (o4.kp ((Kp.refl w4).alloc _)) _ [X] rfl (OI.lit1 w4 3 X) (by simp;omega) (by simp;omega) ?_;intro v5 w5 o5 g5;have k5:Kp w w5:=Kp.grown (k4.alloc _) g5 o4.own_ge))
     go_roundw
     case rel=>exact ⟨k+1,true,_,by omega,by go_num,rfl,o5,HP.out,k5⟩
     case measure=>simp[intOf];omega
    ·have HP:=Lib.hid (HLO hp hlt (by omega))
     clear HLO HI HHI hp;go_wp2_with (at_builtin;refine aav (o:=⟨some 34,_,_,_,_,_⟩) S rfl _ _ rfl w.heap.size _ o rfl (ho.kp ((Kp.refl wr).alloc _)) _ [X] rfl (OI.lit1 wr 3 X) (by simp;omega) (by simp;omega) ?_;intro v5 w5 o5 g5;have k5:Kp w w5:=Kp.grown (hkp.alloc _) g5 ho.own_ge)
     go_roundw
     case rel=>exact ⟨k+1,false,_,by omega,by go_num,rfl,o5,HP.out,k5⟩
     case measure=>simp[intOf];omega
   ·have HP:=Lib.hid (HHI hp hlt)
    clear HLO HI HHI hp;go_wp2_with (at_builtin;refine aav (o:=⟨some 34,_,_,_,_,_⟩) S rfl _ _ rfl w.heap.size _ o rfl (ho.kp ((Kp.refl wr).alloc _)) _ [X] rfl (OI.lit1 wr 3 X) (by simp;omega) (by simp;omega) ?_;intro v5 w5 o5 g5;have k5:Kp w w5:=Kp.grown (hkp.alloc _) g5 ho.own_ge)
    go_roundw
    case rel=>exact ⟨k+1,true,_,by omega,by go_num,rfl,o5,HP.out,k5⟩
    case measure=>simp[intOf];omega
  ·obtain rfl:k=N:=by omega
   have hsz:=hkp.size;clear HLOW HIN HHIGH HLEN HST HU;cases b
   ·have HP:=Lib.hid (HE1.out o hp)
    clear hp HE1 HE2;go_wp2_with (at_builtin;refine aav (o:=⟨some 40,_,_,_,_,_⟩) S rfl _ _ rfl w.heap.size _ o rfl (ho.kp ((Kp.refl wr).alloc _)) _ [n] rfl (OI.lit1 wr 3 n) (by simp;omega) (by simp;omega) ?_;intro v5 w5 o5 g5;have k5:Kp w w5:=Kp.grown (hkp.alloc _) g5 ho.own_ge)
    rw[HP.out] at o5;have KK:=Lib.hid k5;go_ret;exact ⟨⟨_,rfl,o5⟩,KK.out⟩
   ·have HP:=Lib.hid (HE2.out o hp)
    clear hp HE1 HE2;rw[HP.out] at ho;have HO:=Lib.hid ho;have KK:=Lib.hid hkp;obtain ⟨a5,n5,c5,rfl⟩:=ho.ri.sl;clear ho hkp;go_wp2_with fail;go_ret;exact ⟨⟨_,rfl,HO.out⟩,KK.out⟩
theorem aqU {t:List Nod}{K i:Nat}(hK:K≤10)(hl:t.length=2 ^ (K+1) - 1)(hi:i<2 ^ K):
  arE (2*(i:Int)) ((lvs t:Nat):Int)=0∧am9 (2*(i:Int)) ((lvs t:Nat):Int)=pathT t i:=by
 have e1:lvs t=2 ^ K:=by
  have:=aal K;have:=aaz K;unfold lvs;omega
 have e2:(2*(i:Int))=((nd 0 i:Nat):Int):=by rw[abt];omega
 obtain ⟨h1,h2,_⟩:=ap1 (K:=K) (j:=0) (q:=i) hK (by omega) (by simpa using hi);unfold pathT lgT;rw[e1,e2,h1,h2,anl hK];exact ⟨rfl,rfl⟩
theorem afM (u:Value)(t:List Nod)(K i:Nat)(w:World)(hu:NL w u t)(hK:K≤10)(hl:t.length=2 ^ (K+1) - 1)(hi:i<2 ^ K):
  Calls Tryz.prog 86 #[u,.int .i64 (i:Int)] w fun e w'=>(∃ r,e=.returned r∧OI 3 w' w.heap.size r ((pathT t i).map fun (n:Nat)=>(n:Int)))∧Kp w w':=by
 have hp:=abH hK;have hp2:=aal K;have hl2:t.length≤100000:=by omega
 have HL:=Lib.hid (abZ u t w hu hl2);obtain ⟨e1,e2⟩:=aqU hK hl hi;have HP:Hid (∀ W,Calls Tryz.prog 48 #[.int .i64 (2*(i:Int)),.int .i64 ((lvs t:Nat):Int)] W fun e w'=>(∃ v,e=.returned (.tuple #[v,.int .i64 0])∧ON 3 w' W.heap.size v (pathT t i))∧Kp W w'):=fun W=>by
  have:=akL (2*(i:Int)) ((lvs t:Nat):Int) W (by have:=aeE hl2;omega);rwa [e1,e2] at this
 have i2:IntKind.i64.wrap (2*(i:Int))=2*(i:Int):=IntWalk.i64_in _ (by omega);obtain ⟨a,c,rfl,_,_⟩:=hu.shape;generalize t.length=N at *;generalize lvs t=L at *;generalize pathT t i=PT at *;clear hu e1 e2 hK hl hp hp2 hi hl2;go_enter Tryz.func86,Tryz.ntmps86;go_wp2_with fail;refine HL.out.mono ?_;rintro _ _ ⟨rfl,rfl⟩;clear HL;go_wp2_with fail;refine (HP.out _).mono ?_;rintro _ w1 ⟨⟨v,rfl,r1⟩,k1⟩;have R1:=Lib.hid r1.oi;obtain ⟨a5,n5,c5,rfl⟩:=r1.rn.sl;clear HP r1;go_wp2_with fail;go_ret;exact ⟨⟨_,rfl,R1.out⟩,k1⟩
theorem akP {t:List Nod}{K i:Nat}(hK:K≤10)(hl:t.length=2 ^ (K+1) - 1)(hi:i<2 ^ K):pathT t i=aag K 0 i∧(∀ k,k<(pathT t i).length→(pathT t i).getD k 0<t.length)∧(pathT t i).length=K:=by
 have e1:lvs t=2 ^ K:=by
  have:=aal K;have:=aaz K;unfold lvs;omega
 have e2:pathT t i=aag K 0 i:=by
  unfold pathT lgT;rw[e1,anl hK]
 refine ⟨e2,fun k hk=>?_,by rw[e2,aca];rfl⟩;rw[List.getD_eq_getElem?_getD,List.getElem?_eq_getElem hk,hl];refine abh hi ?_;rw[← e2];exact List.getElem_mem hk
theorem afN (l:List Nat)(k:Nat)(h:k<l.length):(l.map fun (n:Nat)=>(n:Int)).getD k 0=((l.getD k 0:Nat):Int):=by
 rw[List.getD_eq_getElem?_getD,List.getElem?_map,List.getElem?_eq_getElem h,List.getD_eq_getElem?_getD,List.getElem?_eq_getElem h];rfl
theorem afz {α β:Type}(f:β→α→β)(b:β)(l:List α)(k:Nat)(d:α)(h:k<l.length):(l.take (k+1)).foldl f b=f ((l.take k).foldl f b) (l.getD k d):=by
 rw[List.take_succ_eq_append_getElem h,List.foldl_append,List.getD_eq_getElem?_getD,List.getElem?_eq_getElem h];rfl
theorem acH:(Tryz.prog.info? 81).map (·.size)=some 5:=by kernel_rfl
theorem aaa.small {t:List Nod}{K:Nat}(h:aaa t K):t.length≤2047∧t.length=2*2 ^ K - 1∧0<t.length:=by
 have h1:=h.len2;have h2:=abH h.le;have h3:=aaz K;omega
theorem acI {t:List Nod}{K:Nat}{i:Int}(h:aaa t K)(hi:aas t i):∃ k:Nat,i=(k:Int)∧k<2 ^ K∧(ats t (2*k)).kind=1∧2*k<t.length:=by
 obtain ⟨h1,h2,h3⟩:=hi;obtain ⟨k,rfl⟩:=Int.eq_ofNat_of_zero_le h1;rw[Int.toNat_natCast] at h3;have:=h.lv;exact ⟨k,rfl,by omega,h3,aiI (by omega)⟩
end Go.Proofs.YthmhklmkgkfcpaaGreatDoor

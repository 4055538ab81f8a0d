import Derived.Test.YthmhklmkgkfcpaaGreatDoorU8
import Derived.Test.YthmhklmkgkfcpaaGreatDoorU9
import Derived.Test.YthmhklmkgkfcpaaGreatDoorU18
set_option linter.unusedVariables false
set_option linter.unusedSimpArgs false
set_option maxHeartbeats 8000000
set_option maxRecDepth 100000
namespace Go.Proofs.YthmhklmkgkfcpaaGreatDoor
open Go.RowKit
def Fit (t:List Nod)(i:Nat):Prop:=okP t i∧∀ j,j<i→¬((ats t i).kind=1∧(ats t j).kind=1∧(ats t i).name=(ats t j).name)
theorem anY {t:List Nod}{K:Nat}(hK:K≤10)(hl:t.length=2 ^ (K+1) - 1):ac2 t↔(∀ i,i<t.length→Fit t i)∧∃ i,i<t.length∧(ats t i).kind=1:=by
 constructor
 ·rintro ⟨K',h⟩
  refine ⟨fun i hi=>⟨h.ok i hi,fun j hj hc=>h.one j i hj hi hc.2.1 hc.1 hc.2.2.symm⟩,h.used⟩
 ·rintro ⟨h1,h2⟩
  exact ⟨K,hK,hl,fun x hx=>(h1 x hx).1,fun x y hxy hy a b e=>(h1 y hy).2 x hxy ⟨b,a,e.symm⟩,h2⟩
theorem aav.no {p:Prop}(h:¬p):aav (.returned (.bool false)) p:=⟨false,rfl,fun h=>(by cases h),fun e=>absurd e h⟩
theorem aav.yes {p:Prop}(h:p):aav (.returned (.bool true)) p:=⟨true,rfl,fun _=>h,fun _=>rfl⟩
theorem ajI (u:Value)(t:List Nod)(x K:Nat)(w:World)(hu:NL w u t)(hK:K≤10)(hl:t.length=2 ^ (K+1) - 1)(hx:x<t.length):
  Calls Tryz.prog 76 #[u,.int .i64 (x:Int)] w fun e w'=>aav e (okP t x)∧Kp w w':=by
 by_cases hk:(ats t x).kind=0
 ·exact ajH u t x w hu hx hk
 ·exact aiy u t x K w hu hK hl hx hk
theorem aiz (u:Value)(t:List Nod)(w:World)(hu:NL w u t)(hl:t.length≤100000):
  Calls Tryz.prog 27 #[u] w fun e w'=>aav e (ac2 t)∧Kp w w':=by
 have HL:=Lib.hid (ac7 u t w hu hl);have HU:=Lib.hid hu;have hlm:=aev (t:=t) hl;have HW:=Lib.hid (ajb ((lvs t:Nat):Int) w);obtain ⟨a,c,rfl,p1,s1⟩:=hu.shape;by_cases hT:isTB ((lvs t:Nat):Int)=true
 ·have e1:widE ((lvs t:Nat):Int)=0:=if_pos hT
  have e2:widV ((lvs t:Nat):Int)=2*((lvs t:Nat):Int) - 1:=if_pos hT;rw[e1,e2] at HW;obtain ⟨K,hK,eK⟩:=(aeE _).1 hT;by_cases hlen:t.length=2*lvs t - 1
  ·have hlen2:t.length=2 ^ (K+1) - 1:=by rw[aaj];omega
   have hpos:1≤lvs t:=by have:=aaC K;omega
   have eW:2*((lvs t:Nat):Int) - 1=((t.length:Nat):Int):=by omega
   have HN:Hid (∀ x W,x<t.length→Kp w W→Calls Tryz.prog 76 #[.slice a t.length c,.int .i64 (x:Int)] W fun e w'=>aav e (okP t x)∧Kp W w'):=fun x W hx hW=>ajI _ t x K W (hu.kp hW) hK hlen2 hx
   have HI:=anY hK hlen2;have HALL:Hid ((∀ i,i<t.length→Fit t i)→(ac2 t↔∃ i,i<t.length∧(ats t i).kind=1)):=fun h=>⟨fun e=>(HI.1 e).2,fun e=>HI.2 ⟨h,e⟩⟩
   have HNO:Hid (∀ i,i<t.length→¬Fit t i→¬ac2 t):=fun i hi h e=>h ((HI.1 e).1 i hi)
   rw[eW] at HW;generalize ac2 t=RP at *;obtain ⟨N,hN⟩:∃ N,t.length=N:=⟨_,rfl⟩;rw[hN] at HU p1 HL HN HALL HNO HW hl ⊢;generalize lvs t=L at *;clear hu hN HI eW e1 e2 hT eK hlen hlen2 s1;go_enter Tryz.func27,Tryz.ntmps27;go_wp2_with fail;refine HL.out.mono ?_;rintro _ _ ⟨rfl,rfl⟩;go_wp2_with fail;refine HW.out.mono ?_;rintro _ _ ⟨rfl,rfl⟩;clear HL HW;go_wp2_with fail;go_loopw[6,7] (fun m x wr=>∃ k n:Nat,k≤N∧x=.int .i64 (k:Int)∧m=.int .i64 (n:Int)∧n≤k∧(0<n↔∃ i,i<k∧(ats t i).kind=1)∧(∀ i,i<k→Fit t i)∧Kp w wr) (fun _ x _=>(N - (intOf x).toNat))
   case atStart=>exact ⟨0,0,Nat.zero_le _,rfl,rfl,Nat.le_refl _,⟨fun h=>by omega,fun ⟨i,h,_⟩=>by omega⟩,fun i h=>by omega,Kp.refl _⟩
   case round=>
    obtain ⟨k,n,hk,rfl,rfl,hn,hused,hpre,hkp⟩:=hrel;by_cases hlt:k<N
    ·have HC:=Lib.hid (HN.out k wr hlt hkp)
     have HNO2:=HNO.out k hlt;obtain ⟨b,off,rfl,hb,hc⟩:=HU.out.at k hlt;have i1:IntKind.i64.wrap ((k:Int)+1)=(k:Int)+1:=IntWalk.i64_in _ (by omega);have i2:(k:Int)<(N:Int):=by omega
     have i2b:IntKind.i64.wrap ((n:Int)+1)=((n+1:Nat):Int):=by rw[IntWalk.i64_in _ (by omega)];omega
     have HUS:=Lib.hid hused;have HPR:=Lib.hid hpre;have hkw:=hkp;clear hused hpre hkp HN HALL HNO;go_wp2_with fail;refine HC.out.mono ?_;rintro _ w1 ⟨⟨q,rfl,hq⟩,k1⟩;have KK:=hkw.trans k1;obtain ⟨p,q2,h,hn1⟩:=hc k hlt;have c0:=KK.cell hn1.kind;have c1:=KK.cell hn1.name;have HCJ:Hid (∀ j,j<N→∃ X Y,X=(ats t j).kind∧Y=(ats t j).name∧w.cell? ⟨b,off+j*5,none⟩=some (.int .i64 X)∧w.cell? ⟨b,off+j*5+1,none⟩=some (.int .i64 Y)):=fun j hj=>by
      obtain ⟨p',q',h',hn'⟩:=hc j hj;exact ⟨_,_,rfl,rfl,hn'.kind,hn'.name⟩
     clear hn1 hc HC k1 hkw;cases q
     ·have HB:=Lib.hid (HNO2 fun h=>by cases hq.2 h.1)
      clear hq HNO2;go_wp2_with fail;go_ret;exact ⟨aav.no HB.out,KK⟩
     ·have hok:=Lib.hid (hq.1 rfl)
      clear hq;have D1:=Lib.hid (show w.cell? ⟨b,off+k*5+1,none⟩=some (.int .i64 (ats t k).name) by
       obtain ⟨X,Y,eX,eY,d0,d1⟩:=HCJ.out k hlt;rw[d1,eY])
      have D0:=Lib.hid (show w.cell? ⟨b,off+k*5,none⟩=some (.int .i64 (ats t k).kind) by
       obtain ⟨X,Y,eX,eY,d0,d1⟩:=HCJ.out k hlt;rw[d0,eX])
      by_cases hkind:(ats t k).kind=1
      ·rw[hkind] at D0
       have HK:=Lib.hid hkind;rw[hkind] at c0;have KD:=Lib.hid KK;clear hkind;go_wp2_with fail;go_loopw[9] (fun y wr=>∃ j:Nat,j≤k∧y=.int .i64 (j:Int)∧(∀ i,i<j→¬((ats t k).kind=1∧(ats t i).kind=1∧(ats t k).name=(ats t i).name))∧Kp w wr) (fun y _=>(k - (intOf y).toNat))
       case atStart=>exact ⟨0,Nat.zero_le _,rfl,fun i h=>by omega,KD.out⟩
       case round=>
        obtain ⟨j,hj,rfl,hpj,hkj⟩:=hrel;by_cases hjl:j<k
        ·have i3:IntKind.i64.wrap ((j:Int)+1)=(j:Int)+1:=IntWalk.i64_in _ (by omega)
         have i4:(j:Int)<(N:Int):=by omega
         have i5:(j:Int)<(k:Int):=by omega
         obtain ⟨X',Y',eX,eY,d0,d1⟩:=HCJ.out j (by omega);have d0:=hkj.cell d0;have d1:=hkj.cell d1;have HPRE:Hid (¬((ats t k).kind=1∧(ats t j).kind=1∧(ats t k).name=(ats t j).name)→∀ i,i<j+1→¬((ats t k).kind=1∧(ats t i).kind=1∧(ats t k).name=(ats t i).name)):=fun he i hi=>by
          rcases Nat.lt_or_eq_of_le (Nat.lt_succ_iff.1 hi) with h3 | h3
          ·exact hpj i h3
          ·rw[h3];exact he
         have KJ:=Lib.hid hkj;clear hkj hpj;have d2:=KJ.out.cell D0.out;have d3:=KJ.out.cell D1.out;have HE:=Lib.hid (And.intro eX eY);clear eX eY;by_cases hx1:X'=1
         ·subst hx1
          by_cases hy1:(ats t k).name=Y'
          ·have HB:=Lib.hid (HNO2 fun h=>h.2 j hjl ⟨HK.out,HE.out.1.symm,hy1.trans HE.out.2⟩)
           generalize (ats t k).name=Y at *;subst hy1;clear HPRE HNO2 HE;go_wp2_with fail;go_region
           go_wp2_with fail;go_ret;exact ⟨aav.no HB.out,KJ.out.drew⟩
          ·have HP:=Lib.hid (HPRE.out fun h=>hy1 (h.2.2.trans HE.out.2.symm))
           have hyb:((ats t k).name==Y')=false:=beq_eq_false_iff_ne.2 hy1;clear HPRE HNO2 HE;go_wp2_with fail;go_region
           go_wp2_with fail;go_roundw
           case rel=>exact ⟨j+1,by omega,by go_num,HP.out,KJ.out.drew⟩
           case measure=>simp[intOf];omega
         ·have HP:=Lib.hid (HPRE.out fun h=>hx1 (HE.out.1.trans h.2.1))
          have hxb:(X'==1)=false:=beq_eq_false_iff_ne.2 hx1;clear HPRE HNO2 HE;go_wp2_with fail;go_region
          go_wp2_with fail;go_roundw
          case rel=>exact ⟨j+1,by omega,by go_num,HP.out,KJ.out.drew⟩
          case measure=>simp[intOf];omega
        ·obtain rfl:j=k:=by omega
         have HF:Hid (∀ i,i<j+1→Fit t i):=fun i hi=>by
          rcases Nat.lt_or_eq_of_le (Nat.lt_succ_iff.1 hi) with h3 | h3
          ·exact HPR.out i h3
          ·subst h3;exact ⟨hok.out,hpj⟩
         have KJ:=Lib.hid hkj;have HU2:Hid (0<n+1↔∃ i,i<j+1∧(ats t i).kind=1):=⟨fun _=>⟨j,by omega,HK.out⟩,fun _=>by omega⟩;clear hkj hpj HNO2 HCJ;go_wp2_with fail;go_roundw
         case rel=>exact ⟨j+1,n+1,by omega,by go_num,rfl,by omega,HU2.out,HF.out,KJ.out⟩
         case measure=>simp[intOf];omega
      ·have HK:=Lib.hid hkind
       have HKK:=Lib.hid hkind;obtain ⟨X,hX⟩:∃ X,(ats t k).kind=X:=⟨_,rfl⟩;rw[hX] at D0 c0 HK hkind;clear hX;have hkb:(X==1)=false:=beq_eq_false_iff_ne.2 hkind;have KD:=Lib.hid KK;clear hkind;go_wp2_with fail;go_loopw[9] (fun y wr=>∃ j:Nat,j≤k∧y=.int .i64 (j:Int)∧(∀ i,i<j→¬(X=1∧(ats t i).kind=1∧(ats t k).name=(ats t i).name))∧Kp w wr) (fun y _=>(k - (intOf y).toNat))
       case atStart=>exact ⟨0,Nat.zero_le _,rfl,fun i h=>by omega,KD.out⟩
       case round=>
        obtain ⟨j,hj,rfl,hpj,hkj⟩:=hrel;by_cases hjl:j<k
        ·have i3:IntKind.i64.wrap ((j:Int)+1)=(j:Int)+1:=IntWalk.i64_in _ (by omega)
         have i4:(j:Int)<(N:Int):=by omega
         have i5:(j:Int)<(k:Int):=by omega
         obtain ⟨X',Y',eX,eY,d0,d1⟩:=HCJ.out j (by omega);have d0:=hkj.cell d0;have d1:=hkj.cell d1;have HPRE:Hid (¬(X=1∧(ats t j).kind=1∧(ats t k).name=(ats t j).name)→∀ i,i<j+1→¬(X=1∧(ats t i).kind=1∧(ats t k).name=(ats t i).name)):=fun he i hi=>by
          rcases Nat.lt_or_eq_of_le (Nat.lt_succ_iff.1 hi) with h3 | h3
          ·exact hpj i h3
          ·rw[h3];exact he
         have KJ:=Lib.hid hkj;clear hkj hpj;have d2:=KJ.out.cell D0.out;have HP:=Lib.hid (HPRE.out fun h=>HK.out h.1);clear HPRE HNO2 eX eY d0 d1;go_wp2_with fail;go_region
         go_wp2_with fail;go_roundw
         case rel=>exact ⟨j+1,by omega,by go_num,HP.out,KJ.out.drew⟩
         case measure=>simp[intOf];omega
        ·obtain rfl:j=k:=by omega
         have HF:Hid (∀ i,i<j+1→Fit t i):=fun i hi=>by
          rcases Nat.lt_or_eq_of_le (Nat.lt_succ_iff.1 hi) with h3 | h3
          ·exact HPR.out i h3
          ·subst h3;exact ⟨hok.out,fun z hz hc=>HKK.out hc.1⟩
         have KJ:=Lib.hid hkj;have HU2:Hid (0<n↔∃ i,i<j+1∧(ats t i).kind=1):=⟨fun h=>by
          obtain ⟨i,a1,a2⟩:=HUS.out.1 h;exact ⟨i,by omega,a2⟩,fun ⟨i,a1,a2⟩=>HUS.out.2 ⟨i,by
          rcases Nat.lt_or_eq_of_le (Nat.lt_succ_iff.1 a1) with h3 | h3
          ·exact h3
          ·subst h3;exact absurd a2 HKK.out,a2⟩⟩
         clear hkj hpj HNO2 HCJ;go_wp2_with fail;go_roundw
         case rel=>exact ⟨j+1,n,by omega,by go_num,rfl,by omega,HU2.out,HF.out,KJ.out⟩
         case measure=>simp[intOf];omega
    ·obtain rfl:k=N:=by omega
     have HB:=Lib.hid (HALL.out hpre);have HUS:=Lib.hid hused;have KK:=Lib.hid hkp;clear HALL HNO hpre hused hkp HN;go_wp2_with fail;go_ret;refine ⟨⟨_,rfl,fun h=>HB.out.2 (HUS.out.1 ?_),fun h=>?_⟩,KK.out⟩
     ·have:=of_decide_eq_true h;omega
     ·have:=HUS.out.2 (HB.out.1 h)
      exact decide_eq_true (by omega)
  ·have HB:Hid (¬ac2 t):=fun h=>by
    obtain ⟨K',h⟩:=h;have h1:=h.lv;have h2:=h.len2;omega
   have hne:¬2*((lvs t:Nat):Int) - 1=(t.length:Int):=by
    have:1≤lvs t:=by have:=aaC K;omega
    omega
   have hneb:(2*((lvs t:Nat):Int) - 1==(t.length:Int))=false:=beq_eq_false_iff_ne.2 hne;generalize ac2 t=RP at *;generalize lvs t=L at *;generalize 2*(L:Int) - 1=V at *;clear hu HU e1 e2 hT eK hlen;go_enter Tryz.func27,Tryz.ntmps27;go_wp2_with fail;refine HL.out.mono ?_;rintro _ _ ⟨rfl,rfl⟩;go_wp2_with fail;refine HW.out.mono ?_;rintro _ _ ⟨rfl,rfl⟩;go_wp2_with fail;go_ret;exact ⟨aav.no HB.out,Kp.refl _⟩
 ·have e1:widE ((lvs t:Nat):Int)=1:=if_neg hT
  have e2:widV ((lvs t:Nat):Int)=0:=if_neg hT;rw[e1,e2] at HW;have HB:Hid (¬ac2 t):=fun h=>by
   obtain ⟨K',h⟩:=h;exact hT ((aeE _).2 ⟨K',h.le,by rw[h.lv]⟩)
  generalize ac2 t=RP at *;generalize lvs t=L at *;clear hu HU e1 e2 hT;go_enter Tryz.func27,Tryz.ntmps27;go_wp2_with fail;refine HL.out.mono ?_;rintro _ _ ⟨rfl,rfl⟩;go_wp2_with fail;refine HW.out.mono ?_;rintro _ _ ⟨rfl,rfl⟩;go_wp2_with fail;go_ret;exact ⟨aav.no HB.out,Kp.refl _⟩
theorem OI.own_ge {e:TypeId}{w:World}{B:Nat}{v:Value}{l:List Int}(h:OI e w B v l):∀ k,v.ownBlock=some k→B≤k:=fun k hk=>(h.lt k hk).1
theorem NO.own_ge {e:TypeId}{w:World}{B:Nat}{v:Value}{t:List Nod}(h:NO e w B v t):∀ k,v.ownBlock=some k→B≤k:=fun k hk=>(h.lt k hk).1
theorem OI.lit1 (w:World)(e:TypeId)(n:Int):RI (w.alloc (.cells #[.int .i64 n] e)) (.slice (some ⟨w.heap.size,0,none⟩) 1 1) [n]:=(RI.lit w e #[.int .i64 n] [n] 1 rfl (by omega) rfl).ri
structure Puts (l:List Int)(n:Int)(k:Nat)(d:Bool)(o:List Int):Prop where
 mk ::
 no:d=false→k≤cutI l n∧o=l.take k
 yes:d=true→cutI l n<k∧o=l.take (cutI l n)++n :: (l.take k).drop (cutI l n)
theorem agK {l:List Int}{k:Nat}(h:k<l.length):l.getD k 0=l[k]:=by
 rw[List.getD_eq_getElem?_getD,List.getElem?_eq_getElem h];rfl
theorem Puts.start (l:List Int)(n:Int):Puts l n 0 false []:=⟨fun _=>⟨Nat.zero_le _,by simp⟩,fun h=>(by cases h)⟩
theorem Puts.low {l:List Int}{n:Int}{k:Nat}{o:List Int}(h:Puts l n k false o)(hk:k<l.length)(hn:¬n<l.getD k 0):Puts l n (k+1) false (o++[l.getD k 0]):=by
 obtain ⟨h1,h2⟩:=h.no rfl;refine ⟨fun _=>⟨?_,?_⟩,fun h=>(by cases h)⟩
 ·rcases Nat.lt_or_eq_of_le h1 with h3 | h3
  ·exact h3
  ·exfalso
   subst h3;have:=arc (l:=l) (n:=n) hk;rw[agK hk] at hn;exact hn this
 ·rw[h2,agK hk,List.take_succ_eq_append_getElem hk]
theorem Puts.in {l:List Int}{n:Int}{k:Nat}{o:List Int}(h:Puts l n k false o)(hk:k<l.length)(hn:n<l.getD k 0):Puts l n (k+1) true ((o++[n])++[l.getD k 0]):=by
 obtain ⟨h1,h2⟩:=h.no rfl;have e:k=cutI l n:=by
  rcases Nat.lt_or_eq_of_le h1 with h3 | h3
  ·exfalso
   have:=arb h3 hk;rw[agK hk] at hn;omega
  ·exact h3
 refine ⟨fun h=>(by cases h),fun _=>⟨by omega,?_⟩⟩;rw[h2,← e,agK hk,List.take_succ_eq_append_getElem hk,List.drop_append_of_le_length (by rw[List.length_take];omega),List.drop_of_length_le (by rw[List.length_take];omega)];simp
theorem Puts.high {l:List Int}{n:Int}{k:Nat}{o:List Int}(h:Puts l n k true o)(hk:k<l.length):Puts l n (k+1) true (o++[l.getD k 0]):=by
 obtain ⟨h1,h2⟩:=h.yes rfl;refine ⟨fun h=>(by cases h),fun _=>⟨by omega,?_⟩⟩;rw[h2,agK hk,List.take_succ_eq_append_getElem hk,List.drop_append_of_le_length (by rw[List.length_take];omega)];simp
theorem Puts.endNo {l:List Int}{n:Int}{o:List Int}(h:Puts l n l.length false o):o++[n]=putN l n:=by
 obtain ⟨h1,h2⟩:=h.no rfl;have:=aqc l n;have e:cutI l n=l.length:=by omega
 unfold putN;rw[h2,e,List.drop_length]
theorem Puts.endYes {l:List Int}{n:Int}{o:List Int}(h:Puts l n l.length true o):o=putN l n:=by
 obtain ⟨h1,h2⟩:=h.yes rfl;rw[h2,List.take_length];rfl
theorem Puts.len {l:List Int}{n:Int}{k:Nat}{d:Bool}{o:List Int}(h:Puts l n k d o)(hk:k≤l.length):o.length≤k+1:=by
 cases d
 ·rw[(h.no rfl).2,List.length_take];omega
 ·obtain ⟨h1,h2⟩:=h.yes rfl
  rw[h2,List.length_append,List.length_cons,List.length_take,List.length_drop,List.length_take];omega
theorem ah1 (u:Value)(l:List Int)(n:Int)(w:World)(hu:RI w u l)(hl:l.length≤100000):
  Calls Tryz.prog 87 #[u,.int .i64 n] w fun e w'=>(∃ r,e=.returned r∧OI 3 w' w.heap.size r (putN l n))∧Kp w w':=by
 have S:=ad0;have HU:=Lib.hid hu;obtain ⟨a,c,rfl,p1,s1⟩:=hu.shape;unfold maxLen at s1;obtain ⟨N,hN⟩:∃ N,l.length=N:=⟨_,rfl⟩;have HLOW:=Lib.hid (fun k o h hk hn=>Puts.low (l:=l) (n:=n) (k:=k) (o:=o) h hk hn);have HIN:=Lib.hid (fun k o h hk hn=>Puts.in (l:=l) (n:=n) (k:=k) (o:=o) h hk hn);have HHIGH:=Lib.hid (fun k o h hk=>Puts.high (l:=l) (n:=n) (k:=k) (o:=o) h hk);have HLEN:=Lib.hid (fun k d o h hk=>Puts.len (l:=l) (n:=n) (k:=k) (d:=d) (o:=o) h hk);have HE1:=Lib.hid (fun o h=>Puts.endNo (l:=l) (n:=n) (o:=o) h);have HE2:=Lib.hid (fun o h=>Puts.endYes (l:=l) (n:=n) (o:=o) h);have HST:=Lib.hid (Puts.start l n);rw[hN] at HU p1 HLOW HIN HHIGH HLEN HE1 HE2 hl ⊢;generalize putN l n=OUT at *;clear hu hN;go_enter Tryz.func87,Tryz.ntmps87;go_wp2_with fail;go_loopw[5,6,7] (fun v d i wr=>∃ (k:Nat) (b:Bool) (o:List Int),k≤N∧i=.int .i64 (k:Int)∧d=.bool b∧OI 3 wr w.heap.size v o∧Puts l n k b o∧Kp w wr) (fun _ _ i _=>(N - (intOf i).toNat))
 case atStart=>exact ⟨0,false,[],Nat.zero_le _,rfl,rfl,OI.nil _ _ _,HST.out,Kp.refl _⟩
 case round=>
  obtain ⟨k,b,o,hk,rfl,rfl,ho,hp,hkp⟩:=hrel;have hol:=HLEN.out k b o hp hk;by_cases hlt:k<N
  ·obtain ⟨g1,o1,rfl,_,hc1⟩:=HU.out.at k hlt
   have h1:=hkp.cell (hc1 k hlt);have HC:Hid (∀ W,Kp w W→W.cell? ⟨g1,o1+k,none⟩=some (.int .i64 (l.getD k 0))):=fun W hW=>hW.cell (hc1 k hlt)
   have i1:IntKind.i64.wrap ((k:Int)+1)=(k:Int)+1:=IntWalk.i64_in _ (by omega);have HLO:=HLOW.out k o;have HI:=HIN.out k o;have HHI:=HHIGH.out k o;have hsz:=hkp.size;clear hc1 HLOW HIN HHIGH HLEN HE1 HE2 HST;generalize l.getD k 0=X at *;cases b
   ·by_cases hx:n<X
    ·have HP:=Lib.hid (HI hp hlt hx)
     clear HLO HI HHI hp;go_wp2_with (first
      | (at_builtin;refine aaw (o:=⟨some 27,_,_,_,_,_⟩) S rfl _ _ rfl w.heap.size _ o rfl (ho.kp ((Kp.refl wr).alloc _)) _ [n] rfl (OI.lit1 wr 3 n) (by simp;omega) (by simp;omega) ?_;intro v4 w4 o4 g4;have k4:Kp w w4:=Kp.grown (hkp.alloc _) g4 ho.own_ge;have h4:=HC.out w4 k4;have hsz4:=k4.size)
      | (at_builtin;refine aaw (o:=⟨some 34,_,_,_,_,_⟩) S rfl _ _ rfl w.heap.size _ (o++[n]) rfl (o4.kp ((Kp.refl w4).alloc _)) _ [X] rfl (OI.lit1 w4 3 X) (by simp;omega) (by simp;omega) ?_;intro v5 w5 o5 g5;have k5:Kp w w5:=Kp.grown (k4.alloc _) g5 o4.own_ge))
     go_roundw
     case rel=>exact ⟨k+1,true,_,by omega,by go_num,rfl,o5,HP.out,k5⟩
     case measure=>simp[intOf];omega
    ·have HP:=Lib.hid (HLO hp hlt (by omega))
     clear HLO HI HHI hp;go_wp2_with (at_builtin;refine aaw (o:=⟨some 34,_,_,_,_,_⟩) S rfl _ _ rfl w.heap.size _ o rfl (ho.kp ((Kp.refl wr).alloc _)) _ [X] rfl (OI.lit1 wr 3 X) (by simp;omega) (by simp;omega) ?_;intro v5 w5 o5 g5;have k5:Kp w w5:=Kp.grown (hkp.alloc _) g5 ho.own_ge)
     go_roundw
     case rel=>exact ⟨k+1,false,_,by omega,by go_num,rfl,o5,HP.out,k5⟩
     case measure=>simp[intOf];omega
   ·have HP:=Lib.hid (HHI hp hlt)
    clear HLO HI HHI hp;go_wp2_with (at_builtin;refine aaw (o:=⟨some 34,_,_,_,_,_⟩) S rfl _ _ rfl w.heap.size _ o rfl (ho.kp ((Kp.refl wr).alloc _)) _ [X] rfl (OI.lit1 wr 3 X) (by simp;omega) (by simp;omega) ?_;intro v5 w5 o5 g5;have k5:Kp w w5:=Kp.grown (hkp.alloc _) g5 ho.own_ge)
    go_roundw
    case rel=>exact ⟨k+1,true,_,by omega,by go_num,rfl,o5,HP.out,k5⟩
    case measure=>simp[intOf];omega
  ·obtain rfl:k=N:=by omega
   have hsz:=hkp.size;clear HLOW HIN HHIGH HLEN HST HU;cases b
   ·have HP:=Lib.hid (HE1.out o hp)
    clear hp HE1 HE2;go_wp2_with (at_builtin;refine aaw (o:=⟨some 40,_,_,_,_,_⟩) S rfl _ _ rfl w.heap.size _ o rfl (ho.kp ((Kp.refl wr).alloc _)) _ [n] rfl (OI.lit1 wr 3 n) (by simp;omega) (by simp;omega) ?_;intro v5 w5 o5 g5;have k5:Kp w w5:=Kp.grown (hkp.alloc _) g5 ho.own_ge)
    rw[HP.out] at o5;have KK:=Lib.hid k5;go_ret;exact ⟨⟨_,rfl,o5⟩,KK.out⟩
   ·have HP:=Lib.hid (HE2.out o hp)
    clear hp HE1 HE2;rw[HP.out] at ho;have HO:=Lib.hid ho;have KK:=Lib.hid hkp;obtain ⟨a5,n5,c5,rfl⟩:=ho.ri.sl;clear ho hkp;go_wp2_with fail;go_ret;exact ⟨⟨_,rfl,HO.out⟩,KK.out⟩
theorem aqF {t:List Nod}{K i:Nat}(hK:K≤10)(hl:t.length=2 ^ (K+1) - 1)(hi:i<2 ^ K):
  arE (2*(i:Int)) ((lvs t:Nat):Int)=0∧amZ (2*(i:Int)) ((lvs t:Nat):Int)=aau t i:=by
 have e1:lvs t=2 ^ K:=by
  have:=aaj K;have:=aaC K;unfold lvs;omega
 have e2:(2*(i:Int))=((nd 0 i:Nat):Int):=by rw[abK];omega
 obtain ⟨h1,h2,_⟩:=apM (K:=K) (j:=0) (q:=i) hK (by omega) (by simpa using hi);unfold aau lgT;rw[e1,e2,h1,h2,am8 hK];exact ⟨rfl,rfl⟩
theorem afG (u:Value)(t:List Nod)(K i:Nat)(w:World)(hu:NL w u t)(hK:K≤10)(hl:t.length=2 ^ (K+1) - 1)(hi:i<2 ^ K):
  Calls Tryz.prog 86 #[u,.int .i64 (i:Int)] w fun e w'=>(∃ r,e=.returned r∧OI 3 w' w.heap.size r ((aau t i).map fun (n:Nat)=>(n:Int)))∧Kp w w':=by
 have hp:=acc hK;have hp2:=aaj K;have hl2:t.length≤100000:=by omega
 have HL:=Lib.hid (ac7 u t w hu hl2);obtain ⟨e1,e2⟩:=aqF hK hl hi;have HP:Hid (∀ W,Calls Tryz.prog 48 #[.int .i64 (2*(i:Int)),.int .i64 ((lvs t:Nat):Int)] W fun e w'=>(∃ v,e=.returned (.tuple #[v,.int .i64 0])∧ON 3 w' W.heap.size v (aau t i))∧Kp W w'):=fun W=>by
  have:=akz (2*(i:Int)) ((lvs t:Nat):Int) W (by have:=aev hl2;omega);rwa [e1,e2] at this
 have i2:IntKind.i64.wrap (2*(i:Int))=2*(i:Int):=IntWalk.i64_in _ (by omega);obtain ⟨a,c,rfl,_,_⟩:=hu.shape;generalize t.length=N at *;generalize lvs t=L at *;generalize aau t i=PT at *;clear hu e1 e2 hK hl hp hp2 hi hl2;go_enter Tryz.func86,Tryz.ntmps86;go_wp2_with fail;refine HL.out.mono ?_;rintro _ _ ⟨rfl,rfl⟩;clear HL;go_wp2_with fail;refine (HP.out _).mono ?_;rintro _ w1 ⟨⟨v,rfl,r1⟩,k1⟩;have R1:=Lib.hid r1.oi;obtain ⟨a5,n5,c5,rfl⟩:=r1.rn.sl;clear HP r1;go_wp2_with fail;go_ret;exact ⟨⟨_,rfl,R1.out⟩,k1⟩
theorem agL {t:List Nod}{K i:Nat}(hK:K≤10)(hl:t.length=2 ^ (K+1) - 1)(hi:i<2 ^ K):aau t i=aah K 0 i∧(∀ k,k<(aau t i).length→(aau t i).getD k 0<t.length)∧(aau t i).length=K:=by
 have e1:lvs t=2 ^ K:=by
  have:=aaj K;have:=aaC K;unfold lvs;omega
 have e2:aau t i=aah K 0 i:=by
  unfold aau lgT;rw[e1,am8 hK]
 refine ⟨e2,fun k hk=>?_,by rw[e2,acb];rfl⟩;rw[List.getD_eq_getElem?_getD,List.getElem?_eq_getElem hk,hl];refine aby hi ?_;rw[← e2];exact List.getElem_mem hk
theorem afH (l:List Nat)(k:Nat)(h:k<l.length):(l.map fun (n:Nat)=>(n:Int)).getD k 0=((l.getD k 0:Nat):Int):=by
 rw[List.getD_eq_getElem?_getD,List.getElem?_map,List.getElem?_eq_getElem h,List.getD_eq_getElem?_getD,List.getElem?_eq_getElem h];rfl
theorem afr {α β:Type}(f:β→α→β)(b:β)(l:List α)(k:Nat)(d:α)(h:k<l.length):(l.take (k+1)).foldl f b=f ((l.take k).foldl f b) (l.getD k d):=by
 rw[List.take_succ_eq_append_getElem h,List.foldl_append,List.getD_eq_getElem?_getD,List.getElem?_eq_getElem h];rfl
theorem acF:(Tryz.prog.info? 81).map (·.size)=some 5:=by kernel_rfl
theorem anZ {i:Nat}{s:List Nod × List UInt8}{x:Nat}(hx:x<s.1.length)(y:Nat):(ats (layS i s x).1 y).kind=(ats s.1 y).kind:=by
 unfold layS;split
 ·show (ats (s.1.set x _) y).kind=_
  rw[abk _ _ _ _ hx];split
  ·next e=>subst e;rfl
  ·rfl
 ·rfl
theorem alu {i:Nat}{s:List Nod × List UInt8}{x:Nat}:(layS i s x).1.length=s.1.length:=by
 unfold layS;split
 ·exact List.length_set ..
 ·rfl
theorem ajJ {i:Nat}:∀ (l:List Nat) (s:List Nod × List UInt8),(∀ x∈l,x<s.1.length)→∀ y,(ats (l.foldl (layS i) s).1 y).kind=(ats s.1 y).kind
 | [],s,_,y=>rfl
 | x :: l,s,h,y=>by
  show (ats (l.foldl (layS i) (layS i s x)).1 y).kind=_
  rw[ajJ l (layS i s x) (fun z hz=>by rw[alu];exact h z (by simp[hz])) y,anZ (h x (by simp)) y]
theorem ah2 {t:List Nod}{K i:Nat}(hr:aab t K)(hT:aaZ t K)(hi:i<2 ^ K):
  aaZ (layD t i).1 K∧(layD t i).1.length=t.length∧((layD t i).2.length=0∨(layD t i).2.length=32)∧aab (layD t i).1 K∧∀ y,(ats (layD t i).1 y).kind=(ats t y).kind:=by
 obtain ⟨_,q2,_⟩:=agL hr.le hr.len hi;have hm:∀ x∈(aau t i).reverse,x<t.length:=fun x hx=>by
  obtain ⟨k,hk,rfl⟩:=List.getElem_of_mem (List.mem_reverse.1 hx);have:=q2 k hk;rwa [List.getD_eq_getElem?_getD,List.getElem?_eq_getElem hk] at this
 obtain ⟨f1,f2,f3,f4⟩:=afq (t:=t) (K:=K) (i:=i) (aau t i).reverse (t,[]) hm hT rfl (.inl rfl);exact ⟨f1,f2,f3,f4 hr,ajJ _ _ hm⟩
theorem amc {t:List Nod}{K:Nat}(hr:aab t K)(hT:aaZ t K)(i:Int):aab (layV t i) K∧aaZ (layV t i) K∧(layV t i).length=t.length:=by
 by_cases h:aar t i
 ·obtain ⟨k,rfl⟩:=Int.eq_ofNat_of_zero_le h.1
  have h2:=h.2.1;rw[hr.lv] at h2;have hl:=hr.len2;obtain ⟨d1,d2,d3,d4,d5⟩:=ah2 hr hT (show k<2 ^ K by omega);have hk:=(hr.there_iff k).1 h;have e:layV t (k:Int)=(layD t k).1.set (2*k) (acX (ats (layD t k).1 (2*k)) (layD t k).2):=by
   unfold layV;rw[if_pos h,Int.toNat_natCast]
  rw[e];refine ⟨d4.hashed (2*k) d3 (by omega) (by rw[d5,hk];decide),d1.hashed (2*k) (by omega) (by omega),by rw[List.length_set];exact d2⟩
 ·have e:layV t i=t:=if_neg h
  rw[e];exact ⟨hr,hT,rfl⟩
theorem aab.over {t arO:List Nod}{K:Nat}(h:aab t K)(hl:arO.length=t.length)(hy:∀ y,ats arO y=ats t y∨(y % 2=1∧(ats arO y=aan∨∃ p:List UInt8,p.length=32∧ats arO y=⟨2,0,p,[],[]⟩))):aab arO K:=by
 have hev:∀ i,ats arO (2*i)=ats t (2*i):=fun i=>by
  rcases hy (2*i) with e | ⟨e,_⟩
  ·exact e
  ·omega
 have h1:∀ y,(ats arO y).kind=1→ats arO y=ats t y:=fun y hk=>by
  rcases hy y with e | ⟨_,e | ⟨p,_,e⟩⟩
  ·exact e
  ·rw[e] at hk;cases hk
  ·rw[e] at hk;cases hk
 refine ⟨h.le,hl.trans h.len,fun y hyl=>?_,fun x y hxy hyl k1 k2=>?_,?_⟩
 ·rcases hy y with e | ⟨ho,e | ⟨p,hp,e⟩⟩
  ·rcases h.okA y with h2 | ⟨a1,a2,a3,a4,a5⟩
   ·exact .inl (e.trans h2)
   ·refine .inr ?_
    rw[e];exact ⟨a1,a2,a3,a4,fun e2=>⟨(a5 e2).1,(a5 e2).2.1,fun i hi=>by
     have:=(a5 e2).2.2 i hi;rw[hev];exact this⟩⟩
  ·exact .inl e
  ·refine .inr ?_
   rw[e];refine ⟨?_,⟨Int.le_refl 0,show (0:Int)≤65535 by decide,hp⟩,.inl rfl,fun e2=>rfl,fun _=>⟨rfl,List.Pairwise.nil,fun i hi=>by cases hi⟩⟩;show (2:Int)=1+(y:Int) % 2
   omega
 ·have e1:=h1 x k1
  have e2:=h1 y k2;rw[e1] at k1 ⊢;rw[e2] at k2 ⊢;exact h.one x y hxy (hl▸hyl) k1 k2
 ·obtain ⟨x,hx,k⟩:=h.used
  refine ⟨x,hl▸hx,?_⟩;have he:x % 2=0:=by
   rcases h.okA x with e | ⟨e,_⟩
   ·rw[e] at k;cases k
   ·omega
  rcases hy x with e | ⟨ho,_⟩
  ·rw[e];exact k
  ·omega
theorem aaZ.over {t arO:List Nod}{K:Nat}(h:aaZ t K)(hl:arO.length=t.length)(hy:∀ y,ats arO y=ats t y∨(y % 2=1∧(ats arO y=aan∨∃ p:List UInt8,p.length=32∧ats arO y=⟨2,0,p,[],[]⟩))):aaZ arO K:=by
 refine ⟨h.le,hl.trans h.len,fun y=>?_,fun y hk=>?_⟩
 ·rcases hy y with e | ⟨_,e | ⟨p,hp,e⟩⟩
  ·rw[e];exact h.node y
  ·rw[e];exact adj.blank
  ·rw[e]
   exact ⟨.inr (.inr rfl),⟨Int.le_refl 0,show (0:Int)≤65535 by decide⟩,by simp only[hp];decide,Nat.zero_le _,Nat.zero_le _,fun i hi=>by cases hi⟩
 ·rcases hy y with e | ⟨ho,_⟩
  ·rw[e] at hk;exact h.par y hk
  ·exact ho
theorem aab.small {t:List Nod}{K:Nat}(h:aab t K):t.length≤2047∧t.length=2*2 ^ K - 1∧0<t.length:=by
 have h1:=h.len2;have h2:=acc h.le;have h3:=aaC K;omega
theorem ada {t:List Nod}{K:Nat}{i:Int}(h:aab t K)(hi:aar t i):∃ k:Nat,i=(k:Int)∧k<2 ^ K∧(ats t (2*k)).kind=1∧2*k<t.length:=by
 obtain ⟨h1,h2,h3⟩:=hi;obtain ⟨k,rfl⟩:=Int.eq_ofNat_of_zero_le h1;rw[Int.toNat_natCast] at h3;have:=h.lv;exact ⟨k,rfl,by omega,h3,aix (by omega)⟩
end Go.Proofs.YthmhklmkgkfcpaaGreatDoor

import Derived.Test.YthmhklmkgkfcpaaGreatDoorR13
import Derived.Test.YthmhklmkgkfcpaaGreatDoorR14
set_option linter.unusedVariables false
set_option linter.unusedSimpArgs false
set_option maxHeartbeats 8000000
set_option maxRecDepth 100000
namespace Go.Proofs.YthmhklmkgkfcpaaGreatDoor
open Go.RowKit
def aaj (e:Ending)(p:Prop):Prop:=∃ b,e=.returned (.bool b)∧(b=true↔p)
theorem ajV {a b:Nat}(h:a≠b):((a:Int)==(b:Int))=false:=beq_eq_false_iff_ne.2 (by omega)
theorem ajW (u:Value)(t:List Nod)(x:Nat)(w:World)(hu:NL w u t)(hx:x<t.length)(hk:(ats t x).kind=0):
  Calls Tryz.prog 76 #[u,.int .i64 (x:Int)] w fun e w'=>aaj e (okP t x)∧Kp w w':=by
 obtain ⟨a,c,rfl,p1,s1⟩:=hu.shape;unfold maxLen at s1;obtain ⟨b,off,rfl,hb,hc⟩:=hu.at x hx;obtain ⟨p,q,h,hn⟩:=hc x hx;have c0:=hn.kind;have c1:=hn.name;have c2:=hn.pubC;have c3:=hn.unC;have c4:=hn.hashC;have HO:=aqZ hk;obtain ⟨ap,cp,rfl,_,_⟩:=hn.2.pub.shape;obtain ⟨aq,cq,rfl,_,_⟩:=hn.2.un.shape;obtain ⟨ah,ch,rfl,_,_⟩:=hn.2.hash.shape;have i3:(x:Int)<(t.length:Int):=by omega
 obtain ⟨N,hN⟩:∃ N,t.length=N:=⟨_,rfl⟩;rw[hN] at i3 p1 ⊢;generalize (ats t x)=n at *;obtain ⟨kind,name,pub,un,hash⟩:=n;simp only at hk HO c0 c1 c2 c3 c4 ⊢;subst hk;generalize pub.length=P at *;generalize un.length=U at *;generalize hash.length=H at *;clear hn hc hu hN hb hx;by_cases h1:name=0
 ·subst h1
  by_cases h2:P=0
  ·subst h2
   by_cases h3:U=0
   ·subst h3
    by_cases h4:H=0
    ·subst h4
     have HB:=Lib.hid (HO.2 ⟨rfl,rfl,rfl,rfl⟩);clear HO;go_enter Tryz.func76,Tryz.ntmps76;go_wp2_with fail;go_ret;exact ⟨⟨true,rfl,fun _=>HB.out,fun _=>rfl⟩,(Kp.refl _).alloc _⟩
    ·have HB:=Lib.hid (fun e=>h4 (HO.1 e).2.2.2)
     have e4:=ajV h4;have e5:¬(H:Int)=0:=by omega
     clear HO;go_enter Tryz.func76,Tryz.ntmps76;go_wp2_with fail;go_ret;exact ⟨⟨_,rfl,fun h=>absurd (beq_iff_eq.1 h) e5,fun h=>absurd h HB.out⟩,(Kp.refl _).alloc _⟩
   ·have HB:=Lib.hid (fun e=>h3 (HO.1 e).2.2.1)
    have e4:=ajV h3;have e5:¬(U:Int)=0:=by omega
    clear HO;go_enter Tryz.func76,Tryz.ntmps76;go_wp2_with fail;go_ret;exact ⟨⟨false,rfl,fun h=>(by cases h),fun h=>absurd h HB.out⟩,(Kp.refl _).alloc _⟩
  ·have HB:=Lib.hid (fun e=>h2 (HO.1 e).2.1)
   have e4:=ajV h2;have e5:¬(P:Int)=0:=by omega
   clear HO;go_enter Tryz.func76,Tryz.ntmps76;go_wp2_with fail;go_ret;exact ⟨⟨false,rfl,fun h=>(by cases h),fun h=>absurd h HB.out⟩,(Kp.refl _).alloc _⟩
 ·have HB:=Lib.hid (fun e=>h1 (HO.1 e).1)
  have e4:(name==0)=false:=beq_eq_false_iff_ne.2 h1;clear HO;go_enter Tryz.func76,Tryz.ntmps76;go_wp2_with fail;go_ret;exact ⟨⟨false,rfl,fun h=>(by cases h),fun h=>absurd h HB.out⟩,(Kp.refl _).alloc _⟩
def ahead (lo:Int)(l:List Int)(k:Nat):Int:=if k=0 then lo - 1 else l.getD (k - 1) 0
theorem arM (t:List Nod)(lo hi:Int)(l:List Int):unP t lo hi l↔∀ k,k<l.length→ahead lo l k<l.getD k 0∧l.getD k 0≤hi∧(ats t (2*(l.getD k 0).toNat)).kind=1:=by
 have hg:∀ k (h:k<l.length),l.getD k 0=l[k]:=fun k h=>by rw[List.getD_eq_getElem?_getD,List.getElem?_eq_getElem h];rfl
 constructor
 ·rintro ⟨h1,h2⟩ k hk
  rw[hg k hk];obtain ⟨a1,a2,a3⟩:=h2 l[k] (List.getElem_mem hk);refine ⟨?_,a2,a3⟩;unfold ahead;by_cases h0:k=0
  ·rw[if_pos h0];omega
  ·rw[if_neg h0,hg _ (by omega)]
   exact (List.pairwise_iff_getElem.1 h1) (k - 1) k (by omega) hk (by omega)
 ·intro h
  have hlt:∀ d i j (hi:i<l.length) (hj:j<l.length),j=i+d+1→l[i]<l[j]:=by
   intro d;induction d with
   | zero=>
    intro i j hi hj e;obtain ⟨a1,_⟩:=h j hj;unfold ahead at a1;rw[if_neg (by omega),hg _ (by omega),hg _ hj] at a1;have:j - 1=i:=by omega
    subst this;exact a1
   | succ d ih=>
    intro i j hi hj e;obtain ⟨a1,_⟩:=h j hj;unfold ahead at a1;rw[if_neg (by omega),hg _ (by omega),hg _ hj] at a1;have:=ih i (j - 1) hi (by omega) (by omega);omega
  refine ⟨List.pairwise_iff_getElem.2 fun i j hi hj hij=>hlt (j - i - 1) i j hi hj (by omega),fun v hv=>?_⟩;obtain ⟨k,hk,rfl⟩:=List.getElem_of_mem hv;obtain ⟨a1,a2,a3⟩:=h k hk;rw[hg k hk] at a1 a2 a3;refine ⟨?_,a2,a3⟩;obtain ⟨b1,_⟩:=h 0 (by omega);unfold ahead at b1;rw[if_pos rfl,hg 0 (by omega)] at b1;by_cases h0:k=0
  ·subst h0;omega
  ·have:=hlt (k - 1) 0 k (by omega) hk (by omega)
   omega
theorem aog {K x n:Nat}(hK:K≤10)(hn:n=2 ^ (K+1) - 1)(hx:x<n):0≤loV x∧loV x≤hiV x∧2*hiV x<(n:Int)∧hiV x<1024:=by
 subst hn;obtain ⟨j,q,rfl,hj,hq⟩:=ait K x hx;obtain ⟨_,s2,s3⟩:=abn hK hj hq;obtain ⟨l1,l2⟩:=anh s2 s3;rw[l1,l2];have e1:2 ^ K=2 ^ j*2 ^ (K - j):=by rw[← Nat.pow_add];congr 1;omega
 have e2:2 ^ j*(q+1)≤2 ^ K:=by rw[e1];exact Nat.mul_le_mul_left _ hq
 rw[Nat.mul_add,Nat.mul_one] at e2;have:=aaC j;have:=aam K;have:=acd hK;omega
theorem tmod2 (x:Nat):((x:Int)).tmod 2=(x:Int) % 2:=Int.tmod_eq_emod_of_nonneg (by omega)
theorem aiM (u:Value)(t:List Nod)(x K:Nat)(w:World)(hu:NL w u t)(hK:K≤10)(hl:t.length=2 ^ (K+1) - 1)(hx:x<t.length)(hk:(ats t x).kind≠0):
  Calls Tryz.prog 76 #[u,.int .i64 (x:Int)] w fun e w'=>aaj e (okP t x)∧Kp w w':=by
 obtain ⟨a,c,rfl,p1,s1⟩:=hu.shape;unfold maxLen at s1;have HU:=Lib.hid hu;obtain ⟨b,off,rfl,hb,hc⟩:=hu.at x hx;obtain ⟨p,q,h,hn⟩:=hc x hx;have c0:=hn.kind;have c1:=hn.name;have c2:=hn.pubC;have c3:=hn.unC;have c4:=hn.hashC;have HO:=apw hk;obtain ⟨l1,l2,l3,l4⟩:=aog hK hl hx;have HLV:=Lib.hid (fun W=>aiK (x:Int) W);have HUN:=Lib.hid (arM t (loV x) (hiV x) (ats t x).un);have HM:Hid (∀ W,Kp w W→Calls Tryz.prog 84 #[.int .i64 (ats t x).name,p] W fun e w'=>e=.returned (.bool (decide (mayP (ats t x).name (ats t x).pub)))∧W=w'):=fun W hW=>aeA _ _ _ W (hn.2.pub.kp hW)
 have HQ:=Lib.hid hn.2.un;obtain ⟨ap,cp,rfl,_,_⟩:=hn.2.pub.shape;obtain ⟨aq,cq,rfl,u1,u2⟩:=hn.2.un.shape;obtain ⟨ah,ch,rfl,_,_⟩:=hn.2.hash.shape;unfold maxLen at u2;have i3:(x:Int)<(t.length:Int):=by omega
 have tm:=tmod2 x;have tw:IntKind.i64.wrap (1+(x:Int) % 2)=1+(x:Int) % 2:=IntWalk.i64_in _ (by omega);have tw2:IntKind.i64.wrap ((x:Int) % 2)=(x:Int) % 2:=IntWalk.i64_in _ (by omega);obtain ⟨N,hN⟩:∃ N,t.length=N:=⟨_,rfl⟩;rw[hN] at i3 p1 l3 HU ⊢;generalize loV (x:Int)=LO at *;generalize hiV (x:Int)=HI at *;have lw:IntKind.i64.wrap (LO - 1)=LO - 1:=IntWalk.i64_in _ (by omega);generalize unP t LO HI (ats t x).un=UP at *;generalize okP t x=OKP at *;generalize (ats t x)=n at *;obtain ⟨kind,name,pub,un,hash⟩:=n;simp only at hk HO c0 c1 c2 c3 c4 HUN HM HQ ⊢;generalize pub.length=P at *;generalize hash.length=H at *;clear hn hc hu hN hb hx hl hK;have hk0:(kind==0)=false:=beq_eq_false_iff_ne.2 hk;have HX:(x:Int) % 2=0∨(x:Int) % 2=1:=by omega
 generalize (x:Int) % 2=X2 at *;by_cases m:mayP name pub
 ·rw[decide_eq_true m] at HM
  have HH:H=0∨H=32∨(H≠0∧H≠32):=by omega
  rcases HH with rfl | rfl | ⟨hh1,hh2⟩
  ·rcases HX with rfl | rfl
   ·by_cases hk1:kind=1
    ·subst hk1
     have u1':un.length≤cq:=u1;have HB:Hid (OKP↔un.length=0):=⟨fun e=>(HO.1 e).2.2.2.1 rfl,fun e=>HO.2 ⟨m,.inl rfl,by omega,fun _=>e,fun h=>absurd rfl h⟩⟩;obtain ⟨U,hU⟩:∃ U,un.length=U:=⟨_,rfl⟩;rw[hU] at c3 HB u1';clear HO HUN m HLV hU HQ u1;go_enter Tryz.func76,Tryz.ntmps76;go_wp2_with fail;refine (HM.out _ ((Kp.refl _).alloc _)).mono ?_;rintro _ _ ⟨rfl,rfl⟩;go_wp2_with fail;go_ret;exact ⟨⟨_,rfl,fun h=>HB.out.2 (by have:=beq_iff_eq.1 h;omega),fun h=>beq_iff_eq.2 (by have:=HB.out.1 h;omega)⟩,(Kp.refl _).alloc _⟩
    ·have hkb:(kind==1)=false:=beq_eq_false_iff_ne.2 hk1
     have HB:=Lib.hid (fun e=>hk1 (by have:=(HO.1 e).2.2.1;omega));clear HO HUN m HLV;go_enter Tryz.func76,Tryz.ntmps76;go_wp2_with fail;refine (HM.out _ ((Kp.refl _).alloc _)).mono ?_;rintro _ _ ⟨rfl,rfl⟩;go_wp2_with fail;go_ret;exact ⟨⟨false,rfl,fun h=>(by cases h),fun h=>absurd h HB.out⟩,(Kp.refl _).alloc _⟩
   ·by_cases hk1:kind=2
    ·subst hk1
     have HY:Hid ((∀ k,k<un.length→ahead LO un k<un.getD k 0∧un.getD k 0≤HI∧(ats t (2*(un.getD k 0).toNat)).kind=1)→(OKP↔name=0)):=fun h=>⟨fun e=>((HO.1 e).2.2.2.2 (by decide)).2,fun e=>HO.2 ⟨m,.inl rfl,by omega,fun h=>absurd h (by decide),fun _=>⟨HUN.out.2 h,e⟩⟩⟩
     have HNO:Hid ((¬∀ k,k<un.length→ahead LO un k<un.getD k 0∧un.getD k 0≤HI∧(ats t (2*(un.getD k 0).toNat)).kind=1)→¬OKP):=fun h e=>h (HUN.out.1 ((HO.1 e).2.2.2.2 (by decide)).1)
     have H0:Hid (ahead LO un 0=LO - 1):=if_pos rfl;have HS:Hid (∀ k,ahead LO un (k+1)=un.getD k 0):=fun k=>by
      unfold ahead;rw[if_neg (by omega),Nat.add_sub_cancel]
     obtain ⟨U,hU⟩:∃ U,un.length=U:=⟨_,rfl⟩;rw[hU] at c3 HQ HY HNO u1;have hU2:U≤cq:=u1;clear HO HUN m hU u1;go_enter Tryz.func76,Tryz.ntmps76;go_wp2_with fail;refine (HM.out _ ((Kp.refl _).alloc _)).mono ?_;rintro _ _ ⟨rfl,rfl⟩;go_wp2_with fail;refine (HLV.out _).mono ?_;rintro _ _ ⟨rfl,rfl⟩;clear HLV HM;have KK:=Lib.hid ((Kp.refl w).alloc (.cells #[.int .i64 2,.int .i64 name,.slice ap P cp,.slice aq U cq,.slice ah 0 ch] 81));have HQ2:=Lib.hid (HQ.out.kp KK.out);have HU2:=Lib.hid (HU.out.kp KK.out);clear HQ HU;go_wp2_with fail;go_loop [9,10] (fun l i=>∃ k:Nat,k≤U∧i=.int .i64 (k:Int)∧l=.int .i64 (ahead LO un k)∧-1≤ahead LO un k∧(∀ j,j<k→ahead LO un j<un.getD j 0∧un.getD j 0≤HI∧(ats t (2*(un.getD j 0).toNat)).kind=1)) (fun _ i=>(U - (intOf i).toNat))
     case atStart=>exact ⟨0,Nat.zero_le _,rfl,by rw[H0.out],by rw[H0.out];omega,fun j h=>by omega⟩
     case round=>
      obtain ⟨k,hk,rfl,rfl,hge,hpre⟩:=hrel;by_cases hlt:k<U
      ·obtain ⟨g1,o1,rfl,_,hc1⟩:=HQ2.out.at k hlt
       have d1:=hc1 k hlt;have HS2:=HS.out k;have i1:IntKind.i64.wrap ((k:Int)+1)=(k:Int)+1:=IntWalk.i64_in _ (by omega);have HPRE:Hid ((ahead LO un k<un.getD k 0∧un.getD k 0≤HI∧(ats t (2*(un.getD k 0).toNat)).kind=1)→∀ j,j<k+1→ahead LO un j<un.getD j 0∧un.getD j 0≤HI∧(ats t (2*(un.getD j 0).toNat)).kind=1):=fun he j hj=>by
        rcases Nat.lt_or_eq_of_le (Nat.lt_succ_iff.1 hj) with h3 | h3
        ·exact hpre j h3
        ·rw[h3];exact he
       have HNO2:Hid (¬(ahead LO un k<un.getD k 0∧un.getD k 0≤HI∧(ats t (2*(un.getD k 0).toNat)).kind=1)→¬OKP):=fun h=>HNO.out fun h2=>h (h2 k hlt)
       clear hc1 hpre HNO HY H0 HS;generalize ahead LO un k=A at *;generalize un.getD k 0=V at *;by_cases g1:A<V
       ·by_cases g2:V≤HI
        ·obtain ⟨v,rfl⟩:=Int.eq_ofNat_of_zero_le (show 0≤V by omega)
         rw[Int.toNat_natCast] at HPRE HNO2;obtain ⟨b2,off2,e2,_,hc2⟩:=HU2.out.at (2*v) (by omega);cases e2;obtain ⟨p2,q2,h2,hn2⟩:=hc2 (2*v) (by omega);have d2:=hn2.kind;have i4:IntKind.i64.wrap (2*(v:Int))=((2*v:Nat):Int):=by rw[IntWalk.i64_in _ (by omega)];omega
         have i5:((2*v:Nat):Int)<(N:Int):=by omega
         have g1b:¬(v:Int)≤A:=by omega
         have g2b:¬HI<(v:Int):=by omega
         clear hc2 hn2;generalize (ats t (2*v)).kind=Z at *;generalize 2*v=V2 at *;by_cases g3:Z=1
         ·have HP:=Lib.hid (HPRE.out ⟨g1,g2,g3⟩)
          subst g3;have H22:=Lib.hid HS2;clear HPRE HNO2 HS2;go_wp2_with fail;go_round
          case rel=>exact ⟨k+1,by omega,by go_num,by rw[H22.out],by rw[H22.out];omega,HP.out⟩
          case measure=>simp[intOf];omega
         ·have HB:=Lib.hid (HNO2.out fun h=>g3 h.2.2)
          have hne2:(Z==1)=false:=beq_eq_false_iff_ne.2 g3;clear HPRE HNO2 HS2;go_wp2_with fail;go_ret;exact ⟨⟨false,rfl,fun h=>(by cases h),fun h=>absurd h HB.out⟩,KK.out⟩
        ·have HB:=Lib.hid (HNO2.out fun h=>g2 h.2.1)
         have g1b:¬V≤A:=by omega
         have g2b:HI<V:=by omega
         clear HPRE HNO2 HS2;go_wp2_with fail;go_ret;exact ⟨⟨false,rfl,fun h=>(by cases h),fun h=>absurd h HB.out⟩,KK.out⟩
       ·have HB:=Lib.hid (HNO2.out fun h=>g1 h.1)
        have g1b:V≤A:=by omega
        clear HPRE HNO2 HS2;go_wp2_with fail;go_ret;exact ⟨⟨false,rfl,fun h=>(by cases h),fun h=>absurd h HB.out⟩,KK.out⟩
      ·obtain rfl:k=U:=by omega
       have HB:=Lib.hid (HY.out hpre);clear HY HNO hpre HS H0;go_wp2_with fail;go_ret;exact ⟨⟨_,rfl,fun h=>HB.out.2 (beq_iff_eq.1 h),fun h=>beq_iff_eq.2 (HB.out.1 h)⟩,KK.out⟩
    ·have hkb:(kind==2)=false:=beq_eq_false_iff_ne.2 hk1
     have HB:=Lib.hid (fun e=>hk1 (by have:=(HO.1 e).2.2.1;omega));clear HO HUN m HLV;go_enter Tryz.func76,Tryz.ntmps76;go_wp2_with fail;refine (HM.out _ ((Kp.refl _).alloc _)).mono ?_;rintro _ _ ⟨rfl,rfl⟩;go_wp2_with fail;go_ret;exact ⟨⟨false,rfl,fun h=>(by cases h),fun h=>absurd h HB.out⟩,(Kp.refl _).alloc _⟩
  ·rcases HX with rfl | rfl
   ·by_cases hk1:kind=1
    ·subst hk1
     have u1':un.length≤cq:=u1;have HB:Hid (OKP↔un.length=0):=⟨fun e=>(HO.1 e).2.2.2.1 rfl,fun e=>HO.2 ⟨m,.inr rfl,by omega,fun _=>e,fun h=>absurd rfl h⟩⟩;obtain ⟨U,hU⟩:∃ U,un.length=U:=⟨_,rfl⟩;rw[hU] at c3 HB u1';clear HO HUN m HLV hU HQ u1;go_enter Tryz.func76,Tryz.ntmps76;go_wp2_with fail;refine (HM.out _ ((Kp.refl _).alloc _)).mono ?_;rintro _ _ ⟨rfl,rfl⟩;go_wp2_with fail;go_ret;exact ⟨⟨_,rfl,fun h=>HB.out.2 (by have:=beq_iff_eq.1 h;omega),fun h=>beq_iff_eq.2 (by have:=HB.out.1 h;omega)⟩,(Kp.refl _).alloc _⟩
    ·have hkb:(kind==1)=false:=beq_eq_false_iff_ne.2 hk1
     have HB:=Lib.hid (fun e=>hk1 (by have:=(HO.1 e).2.2.1;omega));clear HO HUN m HLV;go_enter Tryz.func76,Tryz.ntmps76;go_wp2_with fail;refine (HM.out _ ((Kp.refl _).alloc _)).mono ?_;rintro _ _ ⟨rfl,rfl⟩;go_wp2_with fail;go_ret;exact ⟨⟨false,rfl,fun h=>(by cases h),fun h=>absurd h HB.out⟩,(Kp.refl _).alloc _⟩
   ·by_cases hk1:kind=2
    ·subst hk1
     have HY:Hid ((∀ k,k<un.length→ahead LO un k<un.getD k 0∧un.getD k 0≤HI∧(ats t (2*(un.getD k 0).toNat)).kind=1)→(OKP↔name=0)):=fun h=>⟨fun e=>((HO.1 e).2.2.2.2 (by decide)).2,fun e=>HO.2 ⟨m,.inr rfl,by omega,fun h=>absurd h (by decide),fun _=>⟨HUN.out.2 h,e⟩⟩⟩
     have HNO:Hid ((¬∀ k,k<un.length→ahead LO un k<un.getD k 0∧un.getD k 0≤HI∧(ats t (2*(un.getD k 0).toNat)).kind=1)→¬OKP):=fun h e=>h (HUN.out.1 ((HO.1 e).2.2.2.2 (by decide)).1)
     have H0:Hid (ahead LO un 0=LO - 1):=if_pos rfl;have HS:Hid (∀ k,ahead LO un (k+1)=un.getD k 0):=fun k=>by
      unfold ahead;rw[if_neg (by omega),Nat.add_sub_cancel]
     obtain ⟨U,hU⟩:∃ U,un.length=U:=⟨_,rfl⟩;rw[hU] at c3 HQ HY HNO u1;have hU2:U≤cq:=u1;clear HO HUN m hU u1;go_enter Tryz.func76,Tryz.ntmps76;go_wp2_with fail;refine (HM.out _ ((Kp.refl _).alloc _)).mono ?_;rintro _ _ ⟨rfl,rfl⟩;go_wp2_with fail;refine (HLV.out _).mono ?_;rintro _ _ ⟨rfl,rfl⟩;clear HLV HM;have KK:=Lib.hid ((Kp.refl w).alloc (.cells #[.int .i64 2,.int .i64 name,.slice ap P cp,.slice aq U cq,.slice ah 32 ch] 81));have HQ2:=Lib.hid (HQ.out.kp KK.out);have HU2:=Lib.hid (HU.out.kp KK.out);clear HQ HU;go_wp2_with fail;go_loop [9,10] (fun l i=>∃ k:Nat,k≤U∧i=.int .i64 (k:Int)∧l=.int .i64 (ahead LO un k)∧-1≤ahead LO un k∧(∀ j,j<k→ahead LO un j<un.getD j 0∧un.getD j 0≤HI∧(ats t (2*(un.getD j 0).toNat)).kind=1)) (fun _ i=>(U - (intOf i).toNat))
     case atStart=>exact ⟨0,Nat.zero_le _,rfl,by rw[H0.out],by rw[H0.out];omega,fun j h=>by omega⟩
     case round=>
      obtain ⟨k,hk,rfl,rfl,hge,hpre⟩:=hrel;by_cases hlt:k<U
      ·obtain ⟨g1,o1,rfl,_,hc1⟩:=HQ2.out.at k hlt
       have d1:=hc1 k hlt;have HS2:=HS.out k;have i1:IntKind.i64.wrap ((k:Int)+1)=(k:Int)+1:=IntWalk.i64_in _ (by omega);have HPRE:Hid ((ahead LO un k<un.getD k 0∧un.getD k 0≤HI∧(ats t (2*(un.getD k 0).toNat)).kind=1)→∀ j,j<k+1→ahead LO un j<un.getD j 0∧un.getD j 0≤HI∧(ats t (2*(un.getD j 0).toNat)).kind=1):=fun he j hj=>by
        rcases Nat.lt_or_eq_of_le (Nat.lt_succ_iff.1 hj) with h3 | h3
        ·exact hpre j h3
        ·rw[h3];exact he
       have HNO2:Hid (¬(ahead LO un k<un.getD k 0∧un.getD k 0≤HI∧(ats t (2*(un.getD k 0).toNat)).kind=1)→¬OKP):=fun h=>HNO.out fun h2=>h (h2 k hlt)
       clear hc1 hpre HNO HY H0 HS;generalize ahead LO un k=A at *;generalize un.getD k 0=V at *;by_cases g1:A<V
       ·by_cases g2:V≤HI
        ·obtain ⟨v,rfl⟩:=Int.eq_ofNat_of_zero_le (show 0≤V by omega)
         rw[Int.toNat_natCast] at HPRE HNO2;obtain ⟨b2,off2,e2,_,hc2⟩:=HU2.out.at (2*v) (by omega);cases e2;obtain ⟨p2,q2,h2,hn2⟩:=hc2 (2*v) (by omega);have d2:=hn2.kind;have i4:IntKind.i64.wrap (2*(v:Int))=((2*v:Nat):Int):=by rw[IntWalk.i64_in _ (by omega)];omega
         have i5:((2*v:Nat):Int)<(N:Int):=by omega
         have g1b:¬(v:Int)≤A:=by omega
         have g2b:¬HI<(v:Int):=by omega
         clear hc2 hn2;generalize (ats t (2*v)).kind=Z at *;generalize 2*v=V2 at *;by_cases g3:Z=1
         ·have HP:=Lib.hid (HPRE.out ⟨g1,g2,g3⟩)
          subst g3;have H22:=Lib.hid HS2;clear HPRE HNO2 HS2;go_wp2_with fail;go_round
          case rel=>exact ⟨k+1,by omega,by go_num,by rw[H22.out],by rw[H22.out];omega,HP.out⟩
          case measure=>simp[intOf];omega
         ·have HB:=Lib.hid (HNO2.out fun h=>g3 h.2.2)
          have hne2:(Z==1)=false:=beq_eq_false_iff_ne.2 g3;clear HPRE HNO2 HS2;go_wp2_with fail;go_ret;exact ⟨⟨false,rfl,fun h=>(by cases h),fun h=>absurd h HB.out⟩,KK.out⟩
        ·have HB:=Lib.hid (HNO2.out fun h=>g2 h.2.1)
         have g1b:¬V≤A:=by omega
         have g2b:HI<V:=by omega
         clear HPRE HNO2 HS2;go_wp2_with fail;go_ret;exact ⟨⟨false,rfl,fun h=>(by cases h),fun h=>absurd h HB.out⟩,KK.out⟩
       ·have HB:=Lib.hid (HNO2.out fun h=>g1 h.1)
        have g1b:V≤A:=by omega
        clear HPRE HNO2 HS2;go_wp2_with fail;go_ret;exact ⟨⟨false,rfl,fun h=>(by cases h),fun h=>absurd h HB.out⟩,KK.out⟩
      ·obtain rfl:k=U:=by omega
       have HB:=Lib.hid (HY.out hpre);clear HY HNO hpre HS H0;go_wp2_with fail;go_ret;exact ⟨⟨_,rfl,fun h=>HB.out.2 (beq_iff_eq.1 h),fun h=>beq_iff_eq.2 (HB.out.1 h)⟩,KK.out⟩
    ·have hkb:(kind==2)=false:=beq_eq_false_iff_ne.2 hk1
     have HB:=Lib.hid (fun e=>hk1 (by have:=(HO.1 e).2.2.1;omega));clear HO HUN m HLV;go_enter Tryz.func76,Tryz.ntmps76;go_wp2_with fail;refine (HM.out _ ((Kp.refl _).alloc _)).mono ?_;rintro _ _ ⟨rfl,rfl⟩;go_wp2_with fail;go_ret;exact ⟨⟨false,rfl,fun h=>(by cases h),fun h=>absurd h HB.out⟩,(Kp.refl _).alloc _⟩
  ·have hhb:=ajV hh1
   have hhc:=ajV hh2;have hhd:¬(H:Int)=0:=by omega
   have hhe:¬(H:Int)=32:=by omega
   have HB:=Lib.hid (show ¬OKP from fun e=>by have:=(HO.1 e).2.1;omega);clear HO HUN m HLV;go_enter Tryz.func76,Tryz.ntmps76;go_wp2_with fail;refine (HM.out _ ((Kp.refl _).alloc _)).mono ?_;rintro _ _ ⟨rfl,rfl⟩;go_wp2_with fail;go_ret;exact ⟨⟨false,rfl,fun h=>(by cases h),fun h=>absurd h HB.out⟩,(Kp.refl _).alloc _⟩
 ·rw[decide_eq_false m] at HM
  have HB:=Lib.hid (fun e=>m (HO.1 e).1);clear HO HUN m HLV;go_enter Tryz.func76,Tryz.ntmps76;go_wp2_with fail;refine (HM.out _ ((Kp.refl _).alloc _)).mono ?_;rintro _ _ ⟨rfl,rfl⟩;go_wp2_with fail;go_ret;exact ⟨⟨false,rfl,fun h=>(by cases h),fun h=>absurd h HB.out⟩,(Kp.refl _).alloc _⟩
def Fit (t:List Nod)(i:Nat):Prop:=okP t i∧∀ j,j<i→¬((ats t i).kind=1∧(ats t j).kind=1∧(ats t i).name=(ats t j).name)
theorem aoh {t:List Nod}{K:Nat}(hK:K≤10)(hl:t.length=2 ^ (K+1) - 1):adb t↔(∀ i,i<t.length→Fit t i)∧∃ i,i<t.length∧(ats t i).kind=1:=by
 constructor
 ·rintro ⟨K',h⟩
  refine ⟨fun i hi=>⟨h.ok i hi,fun j hj hc=>h.one j i hj hi hc.2.1 hc.1 hc.2.2.symm⟩,h.used⟩
 ·rintro ⟨h1,h2⟩
  exact ⟨K,hK,hl,fun x hx=>(h1 x hx).1,fun x y hxy hy a b e=>(h1 y hy).2 x hxy ⟨b,a,e.symm⟩,h2⟩
theorem aaj.no {p:Prop}(h:¬p):aaj (.returned (.bool false)) p:=⟨false,rfl,fun h=>(by cases h),fun e=>absurd e h⟩
theorem aaj.yes {p:Prop}(h:p):aaj (.returned (.bool true)) p:=⟨true,rfl,fun _=>h,fun _=>rfl⟩
theorem ajX (u:Value)(t:List Nod)(x K:Nat)(w:World)(hu:NL w u t)(hK:K≤10)(hl:t.length=2 ^ (K+1) - 1)(hx:x<t.length):
  Calls Tryz.prog 76 #[u,.int .i64 (x:Int)] w fun e w'=>aaj e (okP t x)∧Kp w w':=by
 by_cases hk:(ats t x).kind=0
 ·exact ajW u t x w hu hx hk
 ·exact aiM u t x K w hu hK hl hx hk
theorem ae1 (u:Value)(t:List Nod)(w:World)(hu:NL w u t)(hl:t.length≤100000):
  Calls Tryz.prog 27 #[u] w fun e w'=>aaj e (adb t)∧Kp w w':=by
 have HL:=Lib.hid (acz u t w hu hl);have HU:=Lib.hid hu;have hlm:=aez (t:=t) hl;have HW:=Lib.hid (ajq ((lvs t:Nat):Int) w);obtain ⟨a,c,rfl,p1,s1⟩:=hu.shape;by_cases hT:isTB ((lvs t:Nat):Int)=true
 ·have e1:widE ((lvs t:Nat):Int)=0:=if_pos hT
  have e2:widV ((lvs t:Nat):Int)=2*((lvs t:Nat):Int) - 1:=if_pos hT;rw[e1,e2] at HW;obtain ⟨K,hK,eK⟩:=(aeK _).1 hT;by_cases hlen:t.length=2*lvs t - 1
  ·have hlen2:t.length=2 ^ (K+1) - 1:=by rw[aam];omega
   have hpos:1≤lvs t:=by have:=aaC K;omega
   have eW:2*((lvs t:Nat):Int) - 1=((t.length:Nat):Int):=by omega
   have HN:Hid (∀ x W,x<t.length→Kp w W→Calls Tryz.prog 76 #[.slice a t.length c,.int .i64 (x:Int)] W fun e w'=>aaj e (okP t x)∧Kp W w'):=fun x W hx hW=>ajX _ t x K W (hu.kp hW) hK hlen2 hx
   have HI:=aoh hK hlen2;have HALL:Hid ((∀ i,i<t.length→Fit t i)→(adb t↔∃ i,i<t.length∧(ats t i).kind=1)):=fun h=>⟨fun e=>(HI.1 e).2,fun e=>HI.2 ⟨h,e⟩⟩
   have HNO:Hid (∀ i,i<t.length→¬Fit t i→¬adb t):=fun i hi h e=>h ((HI.1 e).1 i hi)
   rw[eW] at HW;generalize adb t=RP at *;obtain ⟨N,hN⟩:∃ N,t.length=N:=⟨_,rfl⟩;rw[hN] at HU p1 HL HN HALL HNO HW hl ⊢;generalize lvs t=L at *;clear hu hN HI eW e1 e2 hT eK hlen hlen2 s1;go_enter Tryz.func27,Tryz.ntmps27;go_wp2_with fail;refine HL.out.mono ?_;rintro _ _ ⟨rfl,rfl⟩;go_wp2_with fail;refine HW.out.mono ?_;rintro _ _ ⟨rfl,rfl⟩;clear HL HW;go_wp2_with fail;go_loopw[6,7] (fun m x wr=>∃ k n:Nat,k≤N∧x=.int .i64 (k:Int)∧m=.int .i64 (n:Int)∧n≤k∧(0<n↔∃ i,i<k∧(ats t i).kind=1)∧(∀ i,i<k→Fit t i)∧Kp w wr) (fun _ x _=>(N - (intOf x).toNat))
   case atStart=>exact ⟨0,0,Nat.zero_le _,rfl,rfl,Nat.le_refl _,⟨fun h=>by omega,fun ⟨i,h,_⟩=>by omega⟩,fun i h=>by omega,Kp.refl _⟩
   case round=>
    obtain ⟨k,n,hk,rfl,rfl,hn,hused,hpre,hkp⟩:=hrel;by_cases hlt:k<N
    ·have HC:=Lib.hid (HN.out k wr hlt hkp)
     have HNO2:=HNO.out k hlt;obtain ⟨b,off,rfl,hb,hc⟩:=HU.out.at k hlt;have i1:IntKind.i64.wrap ((k:Int)+1)=(k:Int)+1:=IntWalk.i64_in _ (by omega);have i2:(k:Int)<(N:Int):=by omega
     have i2b:IntKind.i64.wrap ((n:Int)+1)=((n+1:Nat):Int):=by rw[IntWalk.i64_in _ (by omega)];omega
     have HUS:=Lib.hid hused;have HPR:=Lib.hid hpre;have hkw:=hkp;clear hused hpre hkp HN HALL HNO;go_wp2_with fail;refine HC.out.mono ?_;rintro _ w1 ⟨⟨q,rfl,hq⟩,k1⟩;have KK:=hkw.trans k1;obtain ⟨p,q2,h,hn1⟩:=hc k hlt;have c0:=KK.cell hn1.kind;have c1:=KK.cell hn1.name;have HCJ:Hid (∀ j,j<N→∃ X Y,X=(ats t j).kind∧Y=(ats t j).name∧w.cell? ⟨b,off+j*5,none⟩=some (.int .i64 X)∧w.cell? ⟨b,off+j*5+1,none⟩=some (.int .i64 Y)):=fun j hj=>by
      obtain ⟨p',q',h',hn'⟩:=hc j hj;exact ⟨_,_,rfl,rfl,hn'.kind,hn'.name⟩
     clear hn1 hc HC k1 hkw;cases q
     ·have HB:=Lib.hid (HNO2 fun h=>by cases hq.2 h.1)
      clear hq HNO2;go_wp2_with fail;go_ret;exact ⟨aaj.no HB.out,KK⟩
     ·have hok:=Lib.hid (hq.1 rfl)
      clear hq;have D1:=Lib.hid (show w.cell? ⟨b,off+k*5+1,none⟩=some (.int .i64 (ats t k).name) by
       obtain ⟨X,Y,eX,eY,d0,d1⟩:=HCJ.out k hlt;rw[d1,eY])
      have D0:=Lib.hid (show w.cell? ⟨b,off+k*5,none⟩=some (.int .i64 (ats t k).kind) by
       obtain ⟨X,Y,eX,eY,d0,d1⟩:=HCJ.out k hlt;rw[d0,eX])
      by_cases hkind:(ats t k).kind=1
      ·rw[hkind] at D0
       have HK:=Lib.hid hkind;rw[hkind] at c0;have KD:=Lib.hid KK;clear hkind;go_wp2_with fail;go_loopw[9] (fun y wr=>∃ j:Nat,j≤k∧y=.int .i64 (j:Int)∧(∀ i,i<j→¬((ats t k).kind=1∧(ats t i).kind=1∧(ats t k).name=(ats t i).name))∧Kp w wr) (fun y _=>(k - (intOf y).toNat))
       case atStart=>exact ⟨0,Nat.zero_le _,rfl,fun i h=>by omega,KD.out⟩
       case round=>
        obtain ⟨j,hj,rfl,hpj,hkj⟩:=hrel;by_cases hjl:j<k
        ·have i3:IntKind.i64.wrap ((j:Int)+1)=(j:Int)+1:=IntWalk.i64_in _ (by omega)
         have i4:(j:Int)<(N:Int):=by omega
         have i5:(j:Int)<(k:Int):=by omega
         obtain ⟨X',Y',eX,eY,d0,d1⟩:=HCJ.out j (by omega);have d0:=hkj.cell d0;have d1:=hkj.cell d1;have HPRE:Hid (¬((ats t k).kind=1∧(ats t j).kind=1∧(ats t k).name=(ats t j).name)→∀ i,i<j+1→¬((ats t k).kind=1∧(ats t i).kind=1∧(ats t k).name=(ats t i).name)):=fun he i hi=>by
          rcases Nat.lt_or_eq_of_le (Nat.lt_succ_iff.1 hi) with h3 | h3
          ·exact hpj i h3
          ·rw[h3];exact he
         have KJ:=Lib.hid hkj;clear hkj hpj;have d2:=KJ.out.cell D0.out;have d3:=KJ.out.cell D1.out;have HE:=Lib.hid (And.intro eX eY);clear eX eY;by_cases hx1:X'=1
         ·subst hx1
          by_cases hy1:(ats t k).name=Y'
          ·have HB:=Lib.hid (HNO2 fun h=>h.2 j hjl ⟨HK.out,HE.out.1.symm,hy1.trans HE.out.2⟩)
           generalize (ats t k).name=Y at *;subst hy1;clear HPRE HNO2 HE;go_wp2_with fail;go_region
           go_wp2_with fail;go_ret;exact ⟨aaj.no HB.out,KJ.out.drew⟩
          ·have HP:=Lib.hid (HPRE.out fun h=>hy1 (h.2.2.trans HE.out.2.symm))
           have hyb:((ats t k).name==Y')=false:=beq_eq_false_iff_ne.2 hy1;clear HPRE HNO2 HE;go_wp2_with fail;go_region
           go_wp2_with fail;go_roundw
           case rel=>exact ⟨j+1,by omega,by go_num,HP.out,KJ.out.drew⟩
           case measure=>simp[intOf];omega
         ·have HP:=Lib.hid (HPRE.out fun h=>hx1 (HE.out.1.trans h.2.1))
          have hxb:(X'==1)=false:=beq_eq_false_iff_ne.2 hx1;clear HPRE HNO2 HE;go_wp2_with fail;go_region
          go_wp2_with fail;go_roundw
          case rel=>exact ⟨j+1,by omega,by go_num,HP.out,KJ.out.drew⟩
          case measure=>simp[intOf];omega
        ·obtain rfl:j=k:=by omega
         have HF:Hid (∀ i,i<j+1→Fit t i):=fun i hi=>by
          rcases Nat.lt_or_eq_of_le (Nat.lt_succ_iff.1 hi) with h3 | h3
          ·exact HPR.out i h3
          ·subst h3;exact ⟨hok.out,hpj⟩
         have KJ:=Lib.hid hkj;have HU2:Hid (0<n+1↔∃ i,i<j+1∧(ats t i).kind=1):=⟨fun _=>⟨j,by omega,HK.out⟩,fun _=>by omega⟩;clear hkj hpj HNO2 HCJ;go_wp2_with fail;go_roundw
         case rel=>exact ⟨j+1,n+1,by omega,by go_num,rfl,by omega,HU2.out,HF.out,KJ.out⟩
         case measure=>simp[intOf];omega
      ·have HK:=Lib.hid hkind
       have HKK:=Lib.hid hkind;obtain ⟨X,hX⟩:∃ X,(ats t k).kind=X:=⟨_,rfl⟩;rw[hX] at D0 c0 HK hkind;clear hX;have hkb:(X==1)=false:=beq_eq_false_iff_ne.2 hkind;have KD:=Lib.hid KK;clear hkind;go_wp2_with fail;go_loopw[9] (fun y wr=>∃ j:Nat,j≤k∧y=.int .i64 (j:Int)∧(∀ i,i<j→¬(X=1∧(ats t i).kind=1∧(ats t k).name=(ats t i).name))∧Kp w wr) (fun y _=>(k - (intOf y).toNat))
       case atStart=>exact ⟨0,Nat.zero_le _,rfl,fun i h=>by omega,KD.out⟩
       case round=>
        obtain ⟨j,hj,rfl,hpj,hkj⟩:=hrel;by_cases hjl:j<k
        ·have i3:IntKind.i64.wrap ((j:Int)+1)=(j:Int)+1:=IntWalk.i64_in _ (by omega)
         have i4:(j:Int)<(N:Int):=by omega
         have i5:(j:Int)<(k:Int):=by omega
         obtain ⟨X',Y',eX,eY,d0,d1⟩:=HCJ.out j (by omega);have d0:=hkj.cell d0;have d1:=hkj.cell d1;have HPRE:Hid (¬(X=1∧(ats t j).kind=1∧(ats t k).name=(ats t j).name)→∀ i,i<j+1→¬(X=1∧(ats t i).kind=1∧(ats t k).name=(ats t i).name)):=fun he i hi=>by
          rcases Nat.lt_or_eq_of_le (Nat.lt_succ_iff.1 hi) with h3 | h3
          ·exact hpj i h3
          ·rw[h3];exact he
         have KJ:=Lib.hid hkj;clear hkj hpj;have d2:=KJ.out.cell D0.out;have HP:=Lib.hid (HPRE.out fun h=>HK.out h.1);clear HPRE HNO2 eX eY d0 d1;go_wp2_with fail;go_region
         go_wp2_with fail;go_roundw
         case rel=>exact ⟨j+1,by omega,by go_num,HP.out,KJ.out.drew⟩
         case measure=>simp[intOf];omega
        ·obtain rfl:j=k:=by omega
         have HF:Hid (∀ i,i<j+1→Fit t i):=fun i hi=>by
          rcases Nat.lt_or_eq_of_le (Nat.lt_succ_iff.1 hi) with h3 | h3
          ·exact HPR.out i h3
          ·subst h3;exact ⟨hok.out,fun z hz hc=>HKK.out hc.1⟩
         have KJ:=Lib.hid hkj;have HU2:Hid (0<n↔∃ i,i<j+1∧(ats t i).kind=1):=⟨fun h=>by
          obtain ⟨i,a1,a2⟩:=HUS.out.1 h;exact ⟨i,by omega,a2⟩,fun ⟨i,a1,a2⟩=>HUS.out.2 ⟨i,by
          rcases Nat.lt_or_eq_of_le (Nat.lt_succ_iff.1 a1) with h3 | h3
          ·exact h3
          ·subst h3;exact absurd a2 HKK.out,a2⟩⟩
         clear hkj hpj HNO2 HCJ;go_wp2_with fail;go_roundw
         case rel=>exact ⟨j+1,n,by omega,by go_num,rfl,by omega,HU2.out,HF.out,KJ.out⟩
         case measure=>simp[intOf];omega
    ·obtain rfl:k=N:=by omega
     have HB:=Lib.hid (HALL.out hpre);have HUS:=Lib.hid hused;have KK:=Lib.hid hkp;clear HALL HNO hpre hused hkp HN;go_wp2_with fail;go_ret;refine ⟨⟨_,rfl,fun h=>HB.out.2 (HUS.out.1 ?_),fun h=>?_⟩,KK.out⟩
     ·have:=of_decide_eq_true h;omega
     ·have:=HUS.out.2 (HB.out.1 h)
      exact decide_eq_true (by omega)
  ·have HB:Hid (¬adb t):=fun h=>by
    obtain ⟨K',h⟩:=h;have h1:=h.lv;have h2:=h.len2;omega
   have hne:¬2*((lvs t:Nat):Int) - 1=(t.length:Int):=by
    have:1≤lvs t:=by have:=aaC K;omega
    omega
   have hneb:(2*((lvs t:Nat):Int) - 1==(t.length:Int))=false:=beq_eq_false_iff_ne.2 hne;generalize adb t=RP at *;generalize lvs t=L at *;generalize 2*(L:Int) - 1=V at *;clear hu HU e1 e2 hT eK hlen;go_enter Tryz.func27,Tryz.ntmps27;go_wp2_with fail;refine HL.out.mono ?_;rintro _ _ ⟨rfl,rfl⟩;go_wp2_with fail;refine HW.out.mono ?_;rintro _ _ ⟨rfl,rfl⟩;go_wp2_with fail;go_ret;exact ⟨aaj.no HB.out,Kp.refl _⟩
 ·have e1:widE ((lvs t:Nat):Int)=1:=if_neg hT
  have e2:widV ((lvs t:Nat):Int)=0:=if_neg hT;rw[e1,e2] at HW;have HB:Hid (¬adb t):=fun h=>by
   obtain ⟨K',h⟩:=h;exact hT ((aeK _).2 ⟨K',h.le,by rw[h.lv]⟩)
  generalize adb t=RP at *;generalize lvs t=L at *;clear hu HU e1 e2 hT;go_enter Tryz.func27,Tryz.ntmps27;go_wp2_with fail;refine HL.out.mono ?_;rintro _ _ ⟨rfl,rfl⟩;go_wp2_with fail;refine HW.out.mono ?_;rintro _ _ ⟨rfl,rfl⟩;go_wp2_with fail;go_ret;exact ⟨aaj.no HB.out,Kp.refl _⟩
theorem OI.own_ge {e:TypeId}{w:World}{B:Nat}{v:Value}{l:List Int}(h:OI e w B v l):∀ k,v.ownBlock=some k→B≤k:=fun k hk=>(h.lt k hk).1
theorem NO.own_ge {e:TypeId}{w:World}{B:Nat}{v:Value}{t:List Nod}(h:NO e w B v t):∀ k,v.ownBlock=some k→B≤k:=fun k hk=>(h.lt k hk).1
theorem OI.lit1 (w:World)(e:TypeId)(n:Int):RI (w.alloc (.cells #[.int .i64 n] e)) (.slice (some ⟨w.heap.size,0,none⟩) 1 1) [n]:=(RI.lit w e #[.int .i64 n] [n] 1 rfl (by omega) rfl).ri
structure Puts (l:List Int)(n:Int)(k:Nat)(d:Bool)(o:List Int):Prop where
 mk ::
 no:d=false→k≤cutI l n∧o=l.take k
 yes:d=true→cutI l n<k∧o=l.take (cutI l n)++n :: (l.take k).drop (cutI l n)
theorem agW {l:List Int}{k:Nat}(h:k<l.length):l.getD k 0=l[k]:=by
 rw[List.getD_eq_getElem?_getD,List.getElem?_eq_getElem h];rfl
theorem Puts.start (l:List Int)(n:Int):Puts l n 0 false []:=⟨fun _=>⟨Nat.zero_le _,by simp⟩,fun h=>(by cases h)⟩
theorem Puts.low {l:List Int}{n:Int}{k:Nat}{o:List Int}(h:Puts l n k false o)(hk:k<l.length)(hn:¬n<l.getD k 0):Puts l n (k+1) false (o++[l.getD k 0]):=by
 obtain ⟨h1,h2⟩:=h.no rfl;refine ⟨fun _=>⟨?_,?_⟩,fun h=>(by cases h)⟩
 ·rcases Nat.lt_or_eq_of_le h1 with h3 | h3
  ·exact h3
  ·exfalso
   subst h3;have:=arw (l:=l) (n:=n) hk;rw[agW hk] at hn;exact hn this
 ·rw[h2,agW hk,List.take_succ_eq_append_getElem hk]
theorem Puts.in {l:List Int}{n:Int}{k:Nat}{o:List Int}(h:Puts l n k false o)(hk:k<l.length)(hn:n<l.getD k 0):Puts l n (k+1) true ((o++[n])++[l.getD k 0]):=by
 obtain ⟨h1,h2⟩:=h.no rfl;have e:k=cutI l n:=by
  rcases Nat.lt_or_eq_of_le h1 with h3 | h3
  ·exfalso
   have:=arv h3 hk;rw[agW hk] at hn;omega
  ·exact h3
 refine ⟨fun h=>(by cases h),fun _=>⟨by omega,?_⟩⟩;rw[h2,← e,agW hk,List.take_succ_eq_append_getElem hk,List.drop_append_of_le_length (by rw[List.length_take];omega),List.drop_of_length_le (by rw[List.length_take];omega)];simp
theorem Puts.high {l:List Int}{n:Int}{k:Nat}{o:List Int}(h:Puts l n k true o)(hk:k<l.length):Puts l n (k+1) true (o++[l.getD k 0]):=by
 obtain ⟨h1,h2⟩:=h.yes rfl;refine ⟨fun h=>(by cases h),fun _=>⟨by omega,?_⟩⟩;rw[h2,agW hk,List.take_succ_eq_append_getElem hk,List.drop_append_of_le_length (by rw[List.length_take];omega)];simp
theorem Puts.endNo {l:List Int}{n:Int}{o:List Int}(h:Puts l n l.length false o):o++[n]=putN l n:=by
 obtain ⟨h1,h2⟩:=h.no rfl;have:=aqA l n;have e:cutI l n=l.length:=by omega
 unfold putN;rw[h2,e,List.drop_length]
theorem Puts.endYes {l:List Int}{n:Int}{o:List Int}(h:Puts l n l.length true o):o=putN l n:=by
 obtain ⟨h1,h2⟩:=h.yes rfl;rw[h2,List.take_length];rfl
theorem Puts.len {l:List Int}{n:Int}{k:Nat}{d:Bool}{o:List Int}(h:Puts l n k d o)(hk:k≤l.length):o.length≤k+1:=by
 cases d
 ·rw[(h.no rfl).2,List.length_take];omega
 ·obtain ⟨h1,h2⟩:=h.yes rfl
  rw[h2,List.length_append,List.length_cons,List.length_take,List.length_drop,List.length_take];omega
theorem aic (u:Value)(l:List Int)(n:Int)(w:World)(hu:RI w u l)(hl:l.length≤100000):
  Calls Tryz.prog 87 #[u,.int .i64 n] w fun e w'=>(∃ r,e=.returned r∧OI 3 w' w.heap.size r (putN l n))∧Kp w w':=by
 have S:=ae0;have HU:=Lib.hid hu;obtain ⟨a,c,rfl,p1,s1⟩:=hu.shape;unfold maxLen at s1;obtain ⟨N,hN⟩:∃ N,l.length=N:=⟨_,rfl⟩;have HLOW:=Lib.hid (fun k o h hk hn=>Puts.low (l:=l) (n:=n) (k:=k) (o:=o) h hk hn);have HIN:=Lib.hid (fun k o h hk hn=>Puts.in (l:=l) (n:=n) (k:=k) (o:=o) h hk hn);have HHIGH:=Lib.hid (fun k o h hk=>Puts.high (l:=l) (n:=n) (k:=k) (o:=o) h hk);have HLEN:=Lib.hid (fun k d o h hk=>Puts.len (l:=l) (n:=n) (k:=k) (d:=d) (o:=o) h hk);have HE1:=Lib.hid (fun o h=>Puts.endNo (l:=l) (n:=n) (o:=o) h);have HE2:=Lib.hid (fun o h=>Puts.endYes (l:=l) (n:=n) (o:=o) h);have HST:=Lib.hid (Puts.start l n);rw[hN] at HU p1 HLOW HIN HHIGH HLEN HE1 HE2 hl ⊢;generalize putN l n=OUT at *;clear hu hN;go_enter Tryz.func87,Tryz.ntmps87;go_wp2_with fail;go_loopw[5,6,7] (fun v d i wr=>∃ (k:Nat) (b:Bool) (o:List Int),k≤N∧i=.int .i64 (k:Int)∧d=.bool b∧OI 3 wr w.heap.size v o∧Puts l n k b o∧Kp w wr) (fun _ _ i _=>(N - (intOf i).toNat))
 case atStart=>exact ⟨0,false,[],Nat.zero_le _,rfl,rfl,OI.nil _ _ _,HST.out,Kp.refl _⟩
 case round=>
  obtain ⟨k,b,o,hk,rfl,rfl,ho,hp,hkp⟩:=hrel;have hol:=HLEN.out k b o hp hk;by_cases hlt:k<N
  ·obtain ⟨g1,o1,rfl,_,hc1⟩:=HU.out.at k hlt
   have h1:=hkp.cell (hc1 k hlt);have HC:Hid (∀ W,Kp w W→W.cell? ⟨g1,o1+k,none⟩=some (.int .i64 (l.getD k 0))):=fun W hW=>hW.cell (hc1 k hlt)
   have i1:IntKind.i64.wrap ((k:Int)+1)=(k:Int)+1:=IntWalk.i64_in _ (by omega);have HLO:=HLOW.out k o;have HI:=HIN.out k o;have HHI:=HHIGH.out k o;have hsz:=hkp.size;clear hc1 HLOW HIN HHIGH HLEN HE1 HE2 HST;generalize l.getD k 0=X at *;cases b
   ·by_cases hx:n<X
    ·have HP:=Lib.hid (HI hp hlt hx)
     clear HLO HI HHI hp;go_wp2_with (first
      | (at_builtin;refine aaD (o:=⟨some 27,_,_,_,_,_⟩) S rfl _ _ rfl w.heap.size _ o rfl (ho.kp ((Kp.refl wr).alloc _)) _ [n] rfl (OI.lit1 wr 3 n) (by simp;omega) (by simp;omega) ?_;intro v4 w4 o4 g4;have k4:Kp w w4:=Kp.grown (hkp.alloc _) g4 ho.own_ge;have h4:=HC.out w4 k4;have hsz4:=k4.size)
      | (at_builtin;refine aaD (o:=⟨some 34,_,_,_,_,_⟩) S rfl _ _ rfl w.heap.size _ (o++[n]) rfl (o4.kp ((Kp.refl w4).alloc _)) _ [X] rfl (OI.lit1 w4 3 X) (by simp;omega) (by simp;omega) ?_;intro v5 w5 o5 g5;have k5:Kp w w5:=Kp.grown (k4.alloc _) g5 o4.own_ge))
     go_roundw
     case rel=>exact ⟨k+1,true,_,by omega,by go_num,rfl,o5,HP.out,k5⟩
     case measure=>simp[intOf];omega
    ·have HP:=Lib.hid (HLO hp hlt (by omega))
     clear HLO HI HHI hp;go_wp2_with (at_builtin;refine aaD (o:=⟨some 34,_,_,_,_,_⟩) S rfl _ _ rfl w.heap.size _ o rfl (ho.kp ((Kp.refl wr).alloc _)) _ [X] rfl (OI.lit1 wr 3 X) (by simp;omega) (by simp;omega) ?_;intro v5 w5 o5 g5;have k5:Kp w w5:=Kp.grown (hkp.alloc _) g5 ho.own_ge)
     go_roundw
     case rel=>exact ⟨k+1,false,_,by omega,by go_num,rfl,o5,HP.out,k5⟩
     case measure=>simp[intOf];omega
   ·have HP:=Lib.hid (HHI hp hlt)
    clear HLO HI HHI hp;go_wp2_with (at_builtin;refine aaD (o:=⟨some 34,_,_,_,_,_⟩) S rfl _ _ rfl w.heap.size _ o rfl (ho.kp ((Kp.refl wr).alloc _)) _ [X] rfl (OI.lit1 wr 3 X) (by simp;omega) (by simp;omega) ?_;intro v5 w5 o5 g5;have k5:Kp w w5:=Kp.grown (hkp.alloc _) g5 ho.own_ge)
    go_roundw
    case rel=>exact ⟨k+1,true,_,by omega,by go_num,rfl,o5,HP.out,k5⟩
    case measure=>simp[intOf];omega
  ·obtain rfl:k=N:=by omega
   have hsz:=hkp.size;clear HLOW HIN HHIGH HLEN HST HU;cases b
   ·have HP:=Lib.hid (HE1.out o hp)
    clear hp HE1 HE2;go_wp2_with (at_builtin;refine aaD (o:=⟨some 40,_,_,_,_,_⟩) S rfl _ _ rfl w.heap.size _ o rfl (ho.kp ((Kp.refl wr).alloc _)) _ [n] rfl (OI.lit1 wr 3 n) (by simp;omega) (by simp;omega) ?_;intro v5 w5 o5 g5;have k5:Kp w w5:=Kp.grown (hkp.alloc _) g5 ho.own_ge)
    rw[HP.out] at o5;have KK:=Lib.hid k5;go_ret;exact ⟨⟨_,rfl,o5⟩,KK.out⟩
   ·have HP:=Lib.hid (HE2.out o hp)
    clear hp HE1 HE2;rw[HP.out] at ho;have HO:=Lib.hid ho;have KK:=Lib.hid hkp;obtain ⟨a5,n5,c5,rfl⟩:=ho.ri.sl;clear ho hkp;go_wp2_with fail;go_ret;exact ⟨⟨_,rfl,HO.out⟩,KK.out⟩
theorem aq0 {t:List Nod}{K i:Nat}(hK:K≤10)(hl:t.length=2 ^ (K+1) - 1)(hi:i<2 ^ K):
  arE (2*(i:Int)) ((lvs t:Nat):Int)=0∧ang (2*(i:Int)) ((lvs t:Nat):Int)=aav t i:=by
 have e1:lvs t=2 ^ K:=by
  have:=aam K;have:=aaC K;unfold lvs;omega
 have e2:(2*(i:Int))=((nd 0 i:Nat):Int):=by rw[abE];omega
 obtain ⟨h1,h2,_⟩:=ap9 (K:=K) (j:=0) (q:=i) hK (by omega) (by simpa using hi);unfold aav lgT;rw[e1,e2,h1,h2,anq hK];exact ⟨rfl,rfl⟩
theorem afN (u:Value)(t:List Nod)(K i:Nat)(w:World)(hu:NL w u t)(hK:K≤10)(hl:t.length=2 ^ (K+1) - 1)(hi:i<2 ^ K):
  Calls Tryz.prog 86 #[u,.int .i64 (i:Int)] w fun e w'=>(∃ r,e=.returned r∧OI 3 w' w.heap.size r ((aav t i).map fun (n:Nat)=>(n:Int)))∧Kp w w':=by
 have hp:=acd hK;have hp2:=aam K;have hl2:t.length≤100000:=by omega
 have HL:=Lib.hid (acz u t w hu hl2);obtain ⟨e1,e2⟩:=aq0 hK hl hi;have HP:Hid (∀ W,Calls Tryz.prog 48 #[.int .i64 (2*(i:Int)),.int .i64 ((lvs t:Nat):Int)] W fun e w'=>(∃ v,e=.returned (.tuple #[v,.int .i64 0])∧ON 3 w' W.heap.size v (aav t i))∧Kp W w'):=fun W=>by
  have:=akN (2*(i:Int)) ((lvs t:Nat):Int) W (by have:=aez hl2;omega);rwa [e1,e2] at this
 have i2:IntKind.i64.wrap (2*(i:Int))=2*(i:Int):=IntWalk.i64_in _ (by omega);obtain ⟨a,c,rfl,_,_⟩:=hu.shape;generalize t.length=N at *;generalize lvs t=L at *;generalize aav t i=PT at *;clear hu e1 e2 hK hl hp hp2 hi hl2;go_enter Tryz.func86,Tryz.ntmps86;go_wp2_with fail;refine HL.out.mono ?_;rintro _ _ ⟨rfl,rfl⟩;clear HL;go_wp2_with fail;refine (HP.out _).mono ?_;rintro _ w1 ⟨⟨v,rfl,r1⟩,k1⟩;have R1:=Lib.hid r1.oi;obtain ⟨a5,n5,c5,rfl⟩:=r1.rn.sl;clear HP r1;go_wp2_with fail;go_ret;exact ⟨⟨_,rfl,R1.out⟩,k1⟩
end Go.Proofs.YthmhklmkgkfcpaaGreatDoor

import Derived.Test.YthmhklmkgkfcpaaGreatDoorT25
import Derived.Test.YthmhklmkgkfcpaaGreatDoorT31
set_option linter.unusedVariables false
set_option linter.unusedSimpArgs false
set_option maxHeartbeats 8000000
set_option maxRecDepth 100000
namespace Go.Proofs.YthmhklmkgkfcpaaGreatDoor
open Go.RowKit
def aip (t:List Nod)(K:Nat)(me:Int)(own:List Sd)(k:Nat):Prop:=
 ((sdAt own k).node=2*me∨∃ x∈aag K 0 me.toNat,(x:Int)=(sdAt own k).node∧(ats t x).kind=2)∧(sdAt own k).seed.length=32∧pubB (sdAt own k).seed=(ats t (sdAt own k).node.toNat).pub∧(0<k→(sdAt own (k - 1)).node<(sdAt own k).node)
def akn (t:List Nod)(me:Int)(own:List Sd)(x:Nat):Prop:=(ats t x).kind=2→me∉(ats t x).un→(aaJ own (x:Int)).length≠0
theorem adE {t:List Nod}{K me:Nat}{own:List Sd}:aaY t K (me:Int) own↔aas t (me:Int)∧(∀ k,k<own.length→aip t K (me:Int) own k)∧(∀ k,k<K→akn t (me:Int) own (nd (k+1) (me / 2 ^ (k+1))))∧(aaJ own (2*(me:Int))).length≠0:=by
 unfold aaY;rw[Int.toNat_natCast];constructor
 ·rintro ⟨h1,h2,h3,h4⟩
  exact ⟨h1,h2,fun k hk=>h3 _ (adh.2 ⟨k+1,by omega,by omega,rfl⟩),h4⟩
 ·rintro ⟨h1,h2,h3,h4⟩
  refine ⟨h1,h2,fun x hx=>?_,h4⟩;obtain ⟨j,j1,j2,rfl⟩:=adh.1 hx;have:=h3 (j - 1) (by omega);rwa [show j - 1+1=j by omega] at this
theorem alm {l:List Nat}{n:Int}:inL l n=true↔∃ x∈l,(x:Int)=n:=by
 unfold inL;rw[List.any_eq_true];constructor
 ·rintro ⟨x,hx,h⟩
  exact ⟨x,hx,of_decide_eq_true h⟩
 ·rintro ⟨x,hx,h⟩
  exact ⟨x,hx,decide_eq_true h⟩
theorem ajg (ar1 v:Value)(t:List Nod)(K me:Nat)(own:List Sd)(w:World)(hu:NL w ar1 t)(hr:aaa t K)(hv:SL w v own)(hkind:(ats t (2*me)).kind=1)(hol:own.length≤100000):
  Calls Tryz.prog 17 #[ar1,.int .i64 (me:Int),v] w fun e w'=>aai e (aaY t K (me:Int) own)∧Kp w w':=by
 obtain ⟨z1,z2,z3⟩:=hr.small;have hp2:=abH hr.le;have hK10:=hr.le;have hth:=(hr.there_iff me).2 hkind;have hm2:=aaa.lt_of (t:=t) (x:=2*me) (by rw[hkind];decide);have hme:me<2 ^ K:=by omega
 have HLF:=Lib.hid (aeH ar1 t (me:Int) w hu (by omega));rw[decide_eq_true hth] at HLF;have HL:=Lib.hid (abZ ar1 t w hu (by omega));rw[hr.lv] at HL;have HP:=Lib.hid (fun W=>aeD K 0 me W hr.le (Nat.zero_le _) (by simpa using hme));rw[abt] at HP;have HIN:=Lib.hid (fun W (p:Value) (hp:RN W p (aag K 0 me)) (n:Int)=>an8 p (aag K 0 me) n W hp);have HPU:=Lib.hid (fun W (q:Value) (sd:List UInt8) (hq:Rd W q sd)=>ajc q sd W hq);have HFI:=Lib.hid (fun W (hW:Kp w W) n=>ai6 v own n W (arZ.kp hv hW) hol);have HUN:=Lib.hid (fun W (q:Value) (l:List Int) (hq:RI W q l)=>amt q l (me:Int) W hq);have HPA:=Lib.hid (fun m (h:m<K)=>ag6 (i:=me) h);have HPL:=Lib.hid (ade K me);have HNO1:Hid (∀ k,k<own.length→¬aip t K (me:Int) own k→¬aaY t K (me:Int) own):=fun k hk h e=>h ((adE.1 e).2.1 k hk)
 have HNO2:Hid (∀ k,k<K→¬akn t (me:Int) own (nd (k+1) (me / 2 ^ (k+1)))→¬aaY t K (me:Int) own):=fun k hk h e=>h ((adE.1 e).2.2.1 k hk)
 have HNO3:Hid ((aaJ own (2*(me:Int))).length=0→¬aaY t K (me:Int) own):=fun h e=>(adE.1 e).2.2.2 h
 have HYES:Hid ((∀ k,k<own.length→aip t K (me:Int) own k)→(∀ k,k<K→akn t (me:Int) own (nd (k+1) (me / 2 ^ (k+1))))→(aaJ own (2*(me:Int))).length≠0→aaY t K (me:Int) own):=fun h1 h2 h3=>adE.2 ⟨hth,h1,h2,h3⟩
 have HNX:Hid (∀ k,k<K→nd (k+1) (me / 2 ^ (k+1))<t.length):=fun k hk=>by rw[hr.len];exact abh hme (adh.2 ⟨k+1,by omega,by omega,rfl⟩)
 have HPX:Hid (∀ x∈aag K 0 me,x<t.length):=fun x hx=>by rw[hr.len];exact abh hme hx
 have HSO:Hid (∀ k,aip t K (me:Int) own k↔((sdAt own k).node=2*(me:Int)∨∃ x∈aag K 0 me,(x:Int)=(sdAt own k).node∧(ats t x).kind=2)∧(sdAt own k).seed.length=32∧pubB (sdAt own k).seed=(ats t (sdAt own k).node.toNat).pub∧(0<k→(sdAt own (k - 1)).node<(sdAt own k).node)):=fun k=>by unfold aip;rw[Int.toNat_natCast]
 have i2:IntKind.i64.wrap (2*(me:Int))=((2*me:Nat):Int):=by rw[IntWalk.i64_in _ (by omega)];omega
 have e2:(2*(me:Int))=((2*me:Nat):Int):=by omega
 have HU:=Lib.hid hu;have HV:=Lib.hid hv;obtain ⟨a,c,rfl,p1,s1⟩:=hu.shape;obtain ⟨av,cv,rfl,p2,s2⟩:=hv.shape;unfold maxLen at s2;rw[e2] at HNO3 HYES HSO;generalize aaY t K (me:Int) own=P at *;generalize aip t K (me:Int) own=SO at *;generalize hPT:aag K 0 me=PT at *;generalize hLV:2 ^ K=L at *;obtain ⟨N,hN⟩:∃ N,t.length=N:=⟨_,rfl⟩;obtain ⟨M,hM⟩:∃ N,own.length=N:=⟨_,rfl⟩;have HN:=Lib.hid hN;have HM:=Lib.hid hM;rw[hN] at HLF HL p1 z1 hm2 HNX HPX HU ⊢;rw[hM] at HNO1 HYES p2 HV hol HFI ⊢;have hm2':=Lib.hid hm2;generalize hM2:2*me=M2 at *;have HM2:=Lib.hid hM2;clear hu hr hv hkind hp2 hth hm2 hme hPT hLV hN hM z2 z3 e2 hM2;go_enter Tryz.func17,Tryz.ntmps17;go_wp2_with fail;refine HLF.out.mono ?_;rintro _ _ ⟨rfl,rfl⟩;go_wp2_with fail;refine HL.out.mono ?_;rintro _ _ ⟨rfl,rfl⟩;go_wp2_with fail;refine (HP.out w).mono ?_;rintro _ w1 ⟨⟨pv,rfl,o1⟩,k1⟩;have r1:=o1.rn;obtain ⟨ap,cp,e1,arY,s3⟩:=r1.shape;subst e1;rw[HPL.out] at r1 arY ⊢;have R1:=Lib.hid (And.intro r1 k1);clear o1 r1 k1 HP HL HLF;go_wp2_with fail;go_loopw[10] (fun i wr=>∃ k:Nat,k≤M∧i=.int .i64 (k:Int)∧(∀ j,j<k→SO j)∧Kp w1 wr) (fun i _=>(M - (intOf i).toNat))
 case atStart=>exact ⟨0,Nat.zero_le _,rfl,fun t h=>by omega,Kp.refl _⟩
 case round=>
  obtain ⟨k,hk,rfl,hpre,hkp⟩:=hrel;have HPR:=Lib.hid hpre;have KK:=Lib.hid hkp;clear hpre hkp;by_cases hlt:k<M
  ·obtain ⟨gs,os,cs,q,e1,_,hnd⟩:=SL.nodeK (i:=k) HV.out (by rw[HM.out];exact hlt)
   rw[HM.out] at e1;simp only[Value.slice.injEq] at e1;obtain ⟨rfl,_,rfl⟩:=e1;have KW:=Lib.hid (R1.out.2.trans KK.out);obtain ⟨c0,c1,hq⟩:=hnd wr KW.out;have i1:IntKind.i64.wrap ((k:Int)+1)=(k:Int)+1:=IntWalk.i64_in _ (by omega);have i3:(k:Int)<(M:Int):=by omega
   have HQ:=Lib.hid hq;obtain ⟨aq,nq,cq,rfl⟩:=aab hq;have HCK:Hid (∀ W,Kp w W→0<k→W.cell? ⟨gs,os+(k - 1)*2,none⟩=some (.int .i64 (sdAt own (k - 1)).node)):=fun W hW h0=>by
    obtain ⟨g2,o2,c2,q2,e2,_,h2⟩:=SL.nodeK (i:=k - 1) HV.out (by rw[HM.out];omega);simp only[Value.slice.injEq,Option.some.injEq,Addr.mk.injEq,and_true] at e2;obtain ⟨⟨rfl,rfl⟩,_⟩:=e2;exact (h2 W hW).1
   have HN1:=Lib.hid (HNO1.out k hlt);have HS:=Lib.hid (HSO.out k);have HPK:Hid (SO k→∀ j,j<k+1→SO j):=fun h j hj=>by
    rcases Nat.lt_or_eq_of_le (Nat.lt_succ_iff.1 hj) with h3 | h3
    ·exact HPR.out j h3
    ·rw[h3];exact h
   have HI:=Lib.hid (HIN.out wr _ (R1.out.1.kp KK.out));clear hnd hq HNO1 HSO HPR;generalize (sdAt own k).node=X at *;generalize (sdAt own k).seed=SD at *;generalize (sdAt own (k - 1)).node=XP at *;go_wp2_with fail;refine (HI.out X).mono ?_;rintro _ _ ⟨rfl,rfl⟩;by_cases hok:X=(M2:Int)∨∃ x∈PT,(x:Int)=X∧(ats t x).kind=2
   ·have hx:∃ x:Nat,X=(x:Int)∧x<N:=by
     rcases hok with h | ⟨x,h1,h2,_⟩
     ·exact ⟨M2,h,hm2'.out⟩
     ·exact ⟨x,h2.symm,HPX.out x h1⟩
    obtain ⟨x,rfl,hxN⟩:=hx;have hxi:(x:Int)<(N:Int):=by omega
    obtain ⟨b,off,rfl,_,hc⟩:=HU.out.at x hxN;obtain ⟨pp,uu,hh,hn⟩:=hc x hxN;have HN2:Hid (∀ W,Kp w W→W.cell? ⟨b,off+x*5+2,none⟩=some pp∧Rd W pp (ats t x).pub):=fun W hW=>⟨(hn.kp hW).pubC,hn.2.pub.kp hW⟩
    have ckd:=(hn.kp KW.out).kind;have HSX:Hid (SO k↔SD.length=32∧pubB SD=(ats t x).pub∧(0<k→XP<(x:Int))):=by
     unfold Hid;rw[HS.out,Int.toNat_natCast];exact ⟨fun h=>h.2,fun h=>⟨hok,h⟩⟩
    have HPB:=Lib.hid (HPU.out wr _ SD HQ.out);have HWAY:Hid ((x:Int)≠(M2:Int)→inL PT (x:Int)=true∧(ats t x).kind=2):=fun h=>by
     rcases hok with h1 | ⟨y,h1,h2,h3⟩
     ·exact absurd h1 h
     ·have:y=x:=by omega
      subst this;exact ⟨alm.2 ⟨y,h1,rfl⟩,h3⟩
    have HPT:=Lib.hid hn.2.pub;obtain ⟨app,npp,cpp,rfl⟩:=aab hn.2.pub;clear hok HS hn hc HPU HPX HI HIN HQ;generalize (ats t x).pub=TP at *;generalize (ats t x).kind=KD at *;generalize inL PT (x:Int)=IL at *;by_cases h2:(x:Int)=(M2:Int)
    ·have hx2:x=M2:=by omega
     subst hx2;clear HWAY h2;go_wp2_with fail;refine HPB.out.mono ?_;rintro _ w3 ⟨⟨r3,rfl,q3⟩,k3⟩;have K3:=Lib.hid (KW.out.trans k3);have K13:=Lib.hid (KK.out.trans k3);obtain ⟨f2,rd2⟩:=HN2.out w3 K3.out;by_cases h32:SD.length=32
     ·obtain ⟨u1,u2⟩:=abE h32
      rw[u1];rw[u2] at q3;have HSM:=Lib.hid (acn r3 _ _ _ w3 q3 rd2);obtain ⟨ar3,nr3,cr3,rfl⟩:=aab q3;clear HPB k3 rd2 q3 u1 u2;by_cases hpb:pubB SD=TP
      ·rw[decide_eq_true hpb] at HSM
       by_cases hk0:0<k
       ·have hki:(0:Int)<(k:Int):=by omega
        have i5:IntKind.i64.wrap ((k:Int) - 1)=((k - 1:Nat):Int):=by rw[IntWalk.i64_in _ (by omega)];omega
        have i6:((k - 1:Nat):Int)<(M:Int):=by omega
        have c7:=HCK.out w3 K3.out hk0;generalize k - 1=KP at *;by_cases hxp:XP<(x:Int)
        ·have HX:=Lib.hid (HPK.out (HSX.out.2 ⟨h32,hpb,fun _=>hxp⟩))
         clear HSX HPK HN1 hpb h32;have hxp2:¬(x:Int)≤XP:=by omega
         go_wp2_with fail;refine HSM.out.mono ?_;rintro _ _ ⟨rfl,rfl⟩;go_wp2_with fail;go_roundw
         case rel=>exact ⟨k+1,by omega,by go_num,HX.out,K13.out⟩
         case measure=>simp[intOf];omega
        ·have HX:=Lib.hid (HN1.out fun h=>hxp ((HSX.out.1 h).2.2 hk0))
         clear HSX HPK HN1 hpb h32;have hxp2:(x:Int)≤XP:=by omega
         go_wp2_with fail;refine HSM.out.mono ?_;rintro _ _ ⟨rfl,rfl⟩;go_wp2_with fail;go_ret;exact ⟨aai.no HX.out,K3.out⟩
       ·have HX:=Lib.hid (HPK.out (HSX.out.2 ⟨h32,hpb,fun h=>absurd h hk0⟩))
        have hki:¬(0:Int)<(k:Int):=by omega
        clear HSX HPK HN1 hpb h32;go_wp2_with fail;refine HSM.out.mono ?_;rintro _ _ ⟨rfl,rfl⟩;go_wp2_with fail;go_roundw
        case rel=>exact ⟨k+1,by omega,by go_num,HX.out,K13.out⟩
        case measure=>simp[intOf];omega
      ·rw[decide_eq_false hpb] at HSM
       have HX:=Lib.hid (HN1.out fun h=>hpb (HSX.out.1 h).2.1);clear HSX HPK HN1 hpb h32;go_wp2_with fail;refine HSM.out.mono ?_;rintro _ _ ⟨rfl,rfl⟩;go_wp2_with fail;go_ret;exact ⟨aai.no HX.out,K3.out⟩
     ·have hpe:pubE SD=1:=by unfold pubE;rw[if_neg h32]
      rw[hpe];have HX:=Lib.hid (HN1.out fun h=>h32 (HSX.out.1 h).1);obtain ⟨ar3,nr3,cr3,rfl⟩:=aab q3;clear HPB k3 rd2 q3 hpe HSX HPK HN1 h32;go_wp2_with fail;go_ret;exact ⟨aai.no HX.out,K3.out⟩
    ·have hne:((x:Int)==(M2:Int))=false:=beq_eq_false_iff_ne.2 h2
     have hne2:((x:Int) != (M2:Int))=true:=bne_iff_ne.2 h2;obtain ⟨rfl,rfl⟩:=HWAY.out h2;clear HWAY;go_wp2_with fail;refine HPB.out.mono ?_;rintro _ w3 ⟨⟨r3,rfl,q3⟩,k3⟩;have K3:=Lib.hid (KW.out.trans k3);have K13:=Lib.hid (KK.out.trans k3);obtain ⟨f2,rd2⟩:=HN2.out w3 K3.out;by_cases h32:SD.length=32
     ·obtain ⟨u1,u2⟩:=abE h32
      rw[u1];rw[u2] at q3;have HSM:=Lib.hid (acn r3 _ _ _ w3 q3 rd2);obtain ⟨ar3,nr3,cr3,rfl⟩:=aab q3;clear HPB k3 rd2 q3 u1 u2;by_cases hpb:pubB SD=TP
      ·rw[decide_eq_true hpb] at HSM
       by_cases hk0:0<k
       ·have hki:(0:Int)<(k:Int):=by omega
        have i5:IntKind.i64.wrap ((k:Int) - 1)=((k - 1:Nat):Int):=by rw[IntWalk.i64_in _ (by omega)];omega
        have i6:((k - 1:Nat):Int)<(M:Int):=by omega
        have c7:=HCK.out w3 K3.out hk0;generalize k - 1=KP at *;by_cases hxp:XP<(x:Int)
        ·have HX:=Lib.hid (HPK.out (HSX.out.2 ⟨h32,hpb,fun _=>hxp⟩))
         clear HSX HPK HN1 hpb h32;have hxp2:¬(x:Int)≤XP:=by omega
         go_wp2_with fail;refine HSM.out.mono ?_;rintro _ _ ⟨rfl,rfl⟩;go_wp2_with fail;go_roundw
         case rel=>exact ⟨k+1,by omega,by go_num,HX.out,K13.out⟩
         case measure=>simp[intOf];omega
        ·have HX:=Lib.hid (HN1.out fun h=>hxp ((HSX.out.1 h).2.2 hk0))
         clear HSX HPK HN1 hpb h32;have hxp2:(x:Int)≤XP:=by omega
         go_wp2_with fail;refine HSM.out.mono ?_;rintro _ _ ⟨rfl,rfl⟩;go_wp2_with fail;go_ret;exact ⟨aai.no HX.out,K3.out⟩
       ·have HX:=Lib.hid (HPK.out (HSX.out.2 ⟨h32,hpb,fun h=>absurd h hk0⟩))
        have hki:¬(0:Int)<(k:Int):=by omega
        clear HSX HPK HN1 hpb h32;go_wp2_with fail;refine HSM.out.mono ?_;rintro _ _ ⟨rfl,rfl⟩;go_wp2_with fail;go_roundw
        case rel=>exact ⟨k+1,by omega,by go_num,HX.out,K13.out⟩
        case measure=>simp[intOf];omega
      ·rw[decide_eq_false hpb] at HSM
       have HX:=Lib.hid (HN1.out fun h=>hpb (HSX.out.1 h).2.1);clear HSX HPK HN1 hpb h32;go_wp2_with fail;refine HSM.out.mono ?_;rintro _ _ ⟨rfl,rfl⟩;go_wp2_with fail;go_ret;exact ⟨aai.no HX.out,K3.out⟩
     ·have hpe:pubE SD=1:=by unfold pubE;rw[if_neg h32]
      rw[hpe];have HX:=Lib.hid (HN1.out fun h=>h32 (HSX.out.1 h).1);obtain ⟨ar3,nr3,cr3,rfl⟩:=aab q3;clear HPB k3 rd2 q3 hpe HSX HPK HN1 h32;go_wp2_with fail;go_ret;exact ⟨aai.no HX.out,K3.out⟩
   ·have HX:=Lib.hid (HN1.out fun h=>hok ((HS.out.1 h).1))
    have h2:¬X=(M2:Int):=fun h=>hok (.inl h)
    have hne:(X==(M2:Int))=false:=beq_eq_false_iff_ne.2 h2;have hne2:(X != (M2:Int))=true:=bne_iff_ne.2 h2;by_cases hin:∃ x∈PT,(x:Int)=X
    ·have hIL:inL PT X=true:=alm.2 hin
     obtain ⟨x,hx,rfl⟩:=hin;have hkd:¬(ats t x).kind=2:=fun h=>hok (.inr ⟨x,hx,rfl,h⟩)
     have hxN:=HPX.out x hx;have hxi:(x:Int)<(N:Int):=by omega
     obtain ⟨b,off,rfl,_,hc⟩:=HU.out.at x hxN;obtain ⟨pp,uu,hh,hn⟩:=hc x hxN;have ckd:=(hn.kp KW.out).kind;rw[hIL];generalize (ats t x).kind=KD at *;have hne4:(KD==2)=false:=beq_eq_false_iff_ne.2 hkd;have hne5:(KD != 2)=true:=bne_iff_ne.2 hkd;clear hok hc hn HPX hIL HS HN1 HPK HI HIN;go_wp2_with fail;go_ret;exact ⟨aai.no HX.out,KW.out⟩
    ·have hIL:inL PT X=false:=by
      cases h:inL PT X
      ·rfl
      ·exact absurd (alm.1 h) hin
     rw[hIL];clear hok hin hIL HPX HS HN1 HPK HI HIN;go_wp2_with fail;go_ret;exact ⟨aai.no HX.out,KW.out⟩
  ·obtain rfl:k=M:=by omega
   obtain ⟨wk,hwk⟩:∃ x:World,x=wr:=⟨_,rfl⟩;subst hwk;have HY2:=Lib.hid (HYES.out HPR.out);have K1:=Lib.hid (R1.out.2.trans KK.out);have R2:=Lib.hid (R1.out.1.kp KK.out);clear HNO1 HYES HPX HSO HPU HIN HPR R1;go_wp2_with fail;go_loopw[15] (fun i wr=>∃ m:Nat,m≤K∧i=.int .i64 (m:Int)∧(∀ j,j<m→akn t (me:Int) own (nd (j+1) (me / 2 ^ (j+1))))∧Kp wk wr) (fun i _=>(K - (intOf i).toNat))
   case atStart=>exact ⟨0,Nat.zero_le _,rfl,fun t h=>by omega,Kp.refl _⟩
   case round=>
    obtain ⟨m,hm,rfl,hpre,hkp⟩:=hrel;have HPR:=Lib.hid hpre;have KM:=Lib.hid hkp;clear hpre hkp;by_cases hlm:m<K
    ·obtain ⟨gp,op,rfl,_,hcp⟩:=(R2.out.kp KM.out).at m hlm
     have c0:=hcp m hlm;rw[HPA.out m hlm] at c0;have HXN:=Lib.hid (HNX.out m hlm);have HN2:=Lib.hid (HNO2.out m hlm);have i1:IntKind.i64.wrap ((m:Int)+1)=(m:Int)+1:=IntWalk.i64_in _ (by omega);have i3:(m:Int)<(K:Int):=by omega
     have HPK:Hid (akn t (me:Int) own (nd (m+1) (me / 2 ^ (m+1)))→∀ j,j<m+1→akn t (me:Int) own (nd (j+1) (me / 2 ^ (j+1)))):=fun h j hj=>by
      rcases Nat.lt_or_eq_of_le (Nat.lt_succ_iff.1 hj) with h3 | h3
      ·exact HPR.out j h3
      ·rw[h3];exact h
     clear hcp HPA HNX HNO2 HPR;generalize nd (m+1) (me / 2 ^ (m+1))=X at *;have hxi:(X:Int)<(N:Int):=by have:=HXN.out;omega
     obtain ⟨b,off,rfl,_,hc⟩:=HU.out.at X HXN.out;obtain ⟨pp,uu,hh,hn⟩:=hc X HXN.out;have HW:Hid (akn t (me:Int) own X↔((ats t X).kind=2→(me:Int)∉(ats t X).un→(aaJ own (X:Int)).length≠0)):=Iff.rfl;have hn2:=hn.kp (K1.out.trans KM.out);obtain ⟨e0,e1,e2,e3,e4⟩:_∧_∧_∧_∧_:=⟨hn2.kind,hn2.name,hn2.pubC,hn2.unC,hn2.hashC⟩;have HUN2:=Lib.hid hn2.2.un;obtain ⟨a1,n1,b1,rfl⟩:=aab hn2.2.pub;obtain ⟨a2,n2',b2,rfl⟩:=hn2.2.un.sl;obtain ⟨a3,n3,b3,rfl⟩:=aab hn2.2.hash;have HC0:Hid (∀ W,Kp wr W→W.cell? ⟨gp,op+m,none⟩=some (.int .i64 (X:Int))):=fun W hW=>hW.cell c0
     clear hn hn2 hc;generalize (ats t X).kind=KD at *;generalize (ats t X).name=NM at *;generalize (ats t X).un=UN at *;obtain ⟨w5,hw5⟩:∃ w5,wr.alloc (.cells #[.int .i64 KD,.int .i64 NM,.slice a1 n1 b1,.slice a2 n2' b2,.slice a3 n3 b3] 81)=w5:=⟨_,rfl⟩;have hb:Bx w5 wr.heap.size 81 #[.int .i64 KD,.int .i64 NM,.slice a1 n1 b1,.slice a2 n2' b2,.slice a3 n3 b3]:=by rw[← hw5];exact Bx.new wr _ _
     have K5:Hid (Kp wr w5):=by unfold Hid;rw[← hw5];exact (Kp.refl _).alloc _
     have d0:=hb.cell 0;have d3:=hb.cell 3;simp only[List.getElem?_toArray,List.getElem?_cons_zero,List.getElem?_cons_succ] at d0 d3;have c5:=HC0.out w5 K5.out;have HW5:=Lib.hid hw5;have HUC:=Lib.hid (HUN.out w5 _ UN (HUN2.out.kp K5.out));have HFC:=Lib.hid (HFI.out w5 ((K1.out.trans KM.out).trans K5.out) (X:Int));have KF:=Lib.hid ((K1.out.trans KM.out).trans K5.out);have KG:=Lib.hid (KM.out.trans K5.out);clear hb hw5 HUN HUN2 HC0 HFI;by_cases hkd:KD=2
     ·subst hkd
      by_cases hun:(me:Int)∈UN
      ·rw[decide_eq_true hun] at HUC
       have HX:=Lib.hid (HPK.out (HW.out.2 fun _ h=>absurd hun h));clear HPK HW HFC hun;go_wp2_with fail;rw[HW5.out];refine HUC.out.mono ?_;rintro _ _ ⟨rfl,rfl⟩;go_wp2_with fail;go_roundw
       case rel=>exact ⟨m+1,by omega,by go_num,HX.out,KG.out⟩
       case measure=>simp[intOf];omega
      ·rw[decide_eq_false hun] at HUC
       have HW2:Hid (akn t (me:Int) own X↔(aaJ own (X:Int)).length≠0):=⟨fun h=>HW.out.1 h rfl hun,fun h=>HW.out.2 fun _ _=>h⟩;clear HW hun;go_wp2_with fail;rw[HW5.out];refine HUC.out.mono ?_;rintro _ _ ⟨rfl,rfl⟩;go_wp2_with fail;refine HFC.out.mono ?_;rintro _ _ ⟨⟨r,rfl,hr⟩,rfl⟩;generalize aaJ own (X:Int)=FS at *;obtain ⟨ar,cr,rfl,_,_⟩:=hr.shape;clear hr;by_cases h0:FS.length=0
       ·have HX:=Lib.hid (HN2.out fun h=>(HW2.out.1 h) h0)
        have h0i:(FS.length:Int)=0:=by omega
        have hne:((FS.length:Int)==0)=true:=by rw[h0i];rfl
        clear HW2 HPK HN2 h0;go_wp2_with fail;go_ret;exact ⟨aai.no HX.out,KF.out⟩
       ·have HX:=Lib.hid (HPK.out (HW2.out.2 h0))
        have hne:((FS.length:Int)==0)=false:=beq_eq_false_iff_ne.2 (by omega);have hne3:¬(FS.length:Int)=0:=by omega
        clear HW2 HPK HN2;go_wp2_with fail;go_roundw
        case rel=>exact ⟨m+1,by omega,by go_num,HX.out,KG.out⟩
        case measure=>simp[intOf];omega
     ·have HX:=Lib.hid (HPK.out (HW.out.2 fun h=>absurd h hkd))
      have hne:(KD==2)=false:=beq_eq_false_iff_ne.2 hkd;clear HPK HW HFC HUC;go_wp2_with fail;rw[HW5.out] at *;go_roundw
      case rel=>exact ⟨m+1,by omega,by go_num,HX.out,KG.out⟩
      case measure=>simp[intOf];omega
    ·obtain rfl:m=K:=by omega
     have HY3:=Lib.hid (HY2.out HPR.out);have HFC:=Lib.hid (HFI.out wr (K1.out.trans KM.out) ((M2:Nat):Int));have KF:=Lib.hid (K1.out.trans KM.out);clear HNX HNO2 HY2 HPR HFI;go_wp2_with fail;refine HFC.out.mono ?_;rintro _ _ ⟨⟨r,rfl,hr⟩,rfl⟩;generalize aaJ own (M2:Int)=FS at *;obtain ⟨ar,cr,rfl,_,_⟩:=hr.shape;clear hr;by_cases h0:FS.length=0
     ·have HX:=Lib.hid (HNO3.out h0)
      have h4:¬(0:Int)<(FS.length:Int):=by omega
      have h5:decide ((0:Int)<(FS.length:Int))=false:=decide_eq_false h4;clear HNO3 HY3;go_wp2_with fail;go_ret;exact ⟨aai.no HX.out,KF.out⟩
     ·have HX:=Lib.hid (HY3.out h0)
      have h4:(0:Int)<(FS.length:Int):=by omega
      have h5:decide ((0:Int)<(FS.length:Int))=true:=decide_eq_true h4;clear HNO3 HY3;have HT:Hid (aai (Ending.returned (.bool (decide (0<FS.length)))) P):=by unfold Hid;rw[decide_eq_true (by omega:0<FS.length)];exact aai.yes HX.out
      clear h4 h5;go_wp2_with fail;go_ret;exact ⟨HT.out,KF.out⟩
theorem ajh (ar1 v:Value)(t:List Nod)(K:Nat)(me:Int)(own:List Sd)(w:World)(hu:NL w ar1 t)(hr:aaa t K)(hv:SL w v own)(hol:own.length≤100000):
  Calls Tryz.prog 17 #[ar1,.int .i64 me,v] w fun e w'=>aai e (aaY t K me own)∧Kp w w':=by
 obtain ⟨z1,z2,z3⟩:=hr.small;by_cases hth:aas t me
 ·obtain ⟨k,rfl,hk,hkind,hk2⟩:=acI hr hth
  exact ajg ar1 v t K k own w hu hr hv hkind hol
 ·have HLF:=Lib.hid (aeH ar1 t me w hu (by omega))
  rw[decide_eq_false hth] at HLF;have HX:Hid (¬aaY t K me own):=fun e=>hth e.1
  generalize aaY t K me own=P at *;obtain ⟨a,c,rfl,_,_⟩:=hu.shape;obtain ⟨av,cv,rfl,_,_⟩:=hv.shape;generalize t.length=N at *;clear hu hr hv hth z1 z2 z3;go_enter Tryz.func17,Tryz.ntmps17;go_wp2_with fail;refine HLF.out.mono ?_;rintro _ _ ⟨rfl,rfl⟩;go_wp2_with fail;go_ret;exact ⟨aai.no HX.out,Kp.refl _⟩
end Go.Proofs.YthmhklmkgkfcpaaGreatDoor

import Derived.Test.YthmhklmkgkfcpaaGreatDoorT6
import Derived.Test.YthmhklmkgkfcpaaGreatDoorT20
import Derived.Test.YthmhklmkgkfcpaaGreatDoorT21
import Derived.Test.YthmhklmkgkfcpaaGreatDoorT24
import Derived.Test.YthmhklmkgkfcpaaGreatDoorT29
import Derived.Test.YthmhklmkgkfcpaaGreatDoorT30
import Derived.Test.YthmhklmkgkfcpaaGreatDoorT34
import Derived.Test.YthmhklmkgkfcpaaGreatDoorT35
import Derived.Maps.OwnIn
set_option linter.unusedVariables false
set_option linter.unusedSimpArgs false
set_option maxHeartbeats 8000000
set_option maxRecDepth 100000
namespace Go.Proofs.YthmhklmkgkfcpaaGreatDoor
open Go.RowKit
theorem aeb (ar1:Value)(t:List Nod)(w:World)(hu:NL w ar1 t)(hl:t.length≤100000):
  Calls Tryz.prog 89 #[ar1] w fun e w'=>e=.returned (.int .i64 ((ahz t:Nat):Int))∧w=w':=by
 obtain ⟨a,c,rfl,h1,h2⟩:=hu.shape;obtain ⟨i1,i2⟩:=akM (t:=t) hl;have i3:IntKind.i64.wrap ((lvs t:Nat):Int)=((lvs t:Nat):Int):=IntWalk.i64_in _ (by have:=aeE (t:=t) hl;omega);have HW:=Lib.hid (aen ((lvs t:Nat):Int) w);by_cases hb:isTB ((lvs t:Nat):Int)=true
 ·rw[show widV ((lvs t:Nat):Int)=2*((lvs t:Nat):Int) - 1 from if_pos hb,show widE ((lvs t:Nat):Int)=0 from if_pos hb] at HW
  by_cases he:2*lvs t=t.length+1
  ·rw[show ahz t=lvs t from if_pos ⟨hb,he⟩]
   have hne:¬(2*((lvs t:Nat):Int) - 1≠(t.length:Int)):=by omega
   have hn2:(2*((lvs t:Nat):Int) - 1 != (t.length:Int))=false:=bne_eq_false_iff_eq.2 (by omega);have hn3:2*((lvs t:Nat):Int) - 1=(t.length:Int):=by omega
   rw[hn3] at HW;clear hb he hu hne hn2 hn3;generalize ((lvs t:Nat):Int)=L at *;go_enter Tryz.func89,Tryz.ntmps89;go_wp2_with fail;refine HW.out.mono ?_;rintro _ _ ⟨rfl,rfl⟩;go_wp2_with fail;go_ret;exact ⟨rfl,rfl⟩
  ·rw[show ahz t=0 from if_neg fun h=>he h.2]
   have hn2:(2*((lvs t:Nat):Int) - 1 != (t.length:Int))=true:=bne_iff_ne.2 (by omega);have hn3:¬2*((lvs t:Nat):Int) - 1=(t.length:Int):=by omega
   clear hb he hu;generalize 2*((lvs t:Nat):Int) - 1=M at *;generalize ((lvs t:Nat):Int)=L at *;go_enter Tryz.func89,Tryz.ntmps89;go_wp2_with fail;refine HW.out.mono ?_;rintro _ _ ⟨rfl,rfl⟩;go_wp2_with fail;go_ret;exact ⟨rfl,rfl⟩
 ·rw[show ahz t=0 from if_neg fun h=>hb h.1]
  rw[show widV ((lvs t:Nat):Int)=0 from if_neg hb,show widE ((lvs t:Nat):Int)=1 from if_neg hb] at HW;clear hb hu;generalize ((lvs t:Nat):Int)=L at *;go_enter Tryz.func89,Tryz.ntmps89;go_wp2_with fail;refine HW.out.mono ?_;rintro _ _ ⟨rfl,rfl⟩;go_wp2_with fail;go_ret;exact ⟨rfl,rfl⟩
theorem abl (ar1:Value)(t:List Nod)(K:Nat)(i:Int)(w:World)(hu:NL w ar1 t)(hr:aaa t K):
  Calls Tryz.prog 42 #[ar1,.int .i64 i] w fun e w'=>e=.returned (.bool (decide (aas t i)))∧w=w':=by
 obtain ⟨z1,z2,z3⟩:=hr.small;have HS:=Lib.hid (aeb ar1 t w hu (by omega));rw[(ad9 hr.le hr.len).1] at HS;have hlv:=hr.lv;have hp2:=abH hr.le;obtain ⟨a,c,rfl,p1,s1⟩:=hu.shape;by_cases h0:0≤i
 ·obtain ⟨k,rfl⟩:=Int.eq_ofNat_of_zero_le h0
  by_cases h1:k<2 ^ K
  ·have hk2:2*k<t.length:=by omega
   obtain ⟨b,off,rfl,_,hc⟩:=hu.at (2*k) hk2;obtain ⟨p,q,h,hn⟩:=hc (2*k) hk2;have d0:=hn.kind;have hb:((ats t (2*k)).kind != 0)=decide (aas t (k:Int)):=by
    by_cases hk:(ats t (2*k)).kind=0
    ·rw[hk,decide_eq_false (fun h=>by have:=(hr.there_iff k).1 h;rw[hk] at this;cases this)];rfl
    ·have h1:(ats t (2*k)).kind=1:=by
      rcases hr.even k with e | e
      ·rw[e] at hk;exact absurd rfl hk
      ·exact e.1
     rw[decide_eq_true ((hr.there_iff k).2 h1),h1];rfl
   have i1:IntKind.i64.wrap (2*(k:Int))=((2*k:Nat):Int):=by rw[IntWalk.i64_in _ (by omega)];omega
   have i2:((2*k:Nat):Int)<(t.length:Int):=by omega
   have i3:(k:Int)<((2 ^ K:Nat):Int):=by omega
   generalize decide (aas t (k:Int))=BO at *;generalize t.length=N at *;generalize ((2 ^ K:Nat):Int)=NN at *;generalize (ats t (2*k)).kind=KD at *;generalize 2*k=K2 at *;clear hu hr hc hn h1 h0 z1 z2 z3 hlv hp2 hk2;go_enter Tryz.func42,Tryz.ntmps42;go_wp2_with fail;refine HS.out.mono ?_;rintro _ _ ⟨rfl,rfl⟩;go_wp2_with fail;go_ret;exact ⟨by rw[← hb] <;> rfl,rfl⟩
  ·rw[decide_eq_false (show ¬aas t (k:Int) from fun h=>by have:=h.2.1;omega)]
   have i3:¬(k:Int)<((2 ^ K:Nat):Int):=by omega
   generalize ((2 ^ K:Nat):Int)=NN at *;clear hu hr h1 z1 z2 z3 hlv hp2;go_enter Tryz.func42,Tryz.ntmps42;go_wp2_with fail;refine HS.out.mono ?_;rintro _ _ ⟨rfl,rfl⟩;go_wp2_with fail;go_ret;exact ⟨rfl,rfl⟩
 ·rw[decide_eq_false (show ¬aas t i from fun h=>h0 h.1)]
  clear hu hr z1 z2 z3 hlv hp2;generalize ((2 ^ K:Nat):Int)=NN at *;go_enter Tryz.func42,Tryz.ntmps42;go_wp2_with fail;go_ret;exact ⟨rfl,rfl⟩
theorem aov (w:World){t:List Nod}{K:Nat}(hr:aaa t K){i:Nat}(hi:i<2 ^ K)(hT:Tab w):
  Calls Tryz.prog 92 #[.int .i64 (2*(i:Int)),.int .i64 ((2 ^ K:Nat):Int)] w fun e w'=>(∃ v,e=.returned (.tuple #[v,.int .i64 0])∧ON 3 w' w.heap.size v (aag K 0 i))∧Kp w w':=by
 have:=afQ K 0 i w hr.le (Nat.zero_le _) (by simpa using hi) hT;rw[abt] at this;rwa [show ((2*i:Nat):Int)=2*(i:Int) by omega] at this
theorem ail (ar1:Value)(t:List Nod)(K i:Nat)(w:World)(hu:NL w ar1 t)(hr:aaa t K)(hi:i<2 ^ K)(hT:Tab w):
  Calls Tryz.prog 45 #[ar1,.int .i64 (i:Int)] w fun e w'=>(∃ v,e=.returned v∧ON 3 w' w.heap.size v (aag K 0 i))∧Kp w w':=by
 obtain ⟨z1,z2,z3⟩:=hr.small;have hp2:=abH hr.le;have HS:=Lib.hid (aeb ar1 t w hu (by omega));rw[(ad9 hr.le hr.len).1] at HS;have HP:=Lib.hid (aov w hr hi hT);have i2:IntKind.i64.wrap (2*(i:Int))=2*(i:Int):=IntWalk.i64_in _ (by omega);obtain ⟨a,c,rfl,_,_⟩:=hu.shape;generalize aag K 0 i=PT at *;generalize ((2 ^ K:Nat):Int)=NN at *;generalize t.length=N at *;clear hu hr hi z1 z2 z3 hp2 hT;go_enter Tryz.func45,Tryz.ntmps45;go_wp2_with fail;refine HS.out.mono ?_;rintro _ _ ⟨rfl,rfl⟩;go_wp2_with fail;refine HP.out.mono ?_;rintro _ w1 ⟨⟨v,rfl,o1⟩,k1⟩;have R1:=Lib.hid (And.intro o1 k1);obtain ⟨a1,n1,c1,rfl⟩:=o1.rn.sl;clear o1 k1 HP HS;go_wp2_with fail;go_ret;exact ⟨⟨_,rfl,R1.out.1⟩,R1.out.2⟩
theorem aer (ar1:Value)(seed:List UInt8)(w:World)(hu:Rd w ar1 seed):
  Calls Tryz.prog 55 #[ar1] w fun e w'=>(∃ r,e=.returned r∧Rd w' r (pubR seed)∧aaN w.heap.size r)∧Kp w w':=by
 have HP:=Lib.hid (acq ar1 seed w hu);obtain ⟨a,n,c,rfl⟩:=aab hu;clear hu;go_enter Tryz.func55,Tryz.ntmps55;go_wp2_with fail;refine HP.out.mono ?_;rintro _ w1 ⟨⟨v,rfl,r1,nw⟩,k1⟩;have R1:=Lib.hid (And.intro r1 (And.intro nw k1));obtain ⟨a1,n1,c1,rfl⟩:=aab r1;clear r1 k1 nw HP;go_wp2_with fail;go_ret;exact ⟨⟨_,rfl,R1.out.1,R1.out.2.1⟩,R1.out.2.2⟩
theorem aec (vk:Value)(s:ByteArray)(k:List UInt8)(w:World)(hk:Rd w vk k)(hs:s.size≤300)(hkl:k.length≤2000):
  Calls Tryz.prog 104 #[vk,.string s] w fun e w'=>(∃ v,e=.returned v∧Ow 5 w' w.heap.size v (derB k s.data.toList))∧Kp w w':=by
 have HL:=Lib.hid (amb vk s k w hk hs hkl);rw[aol] at HL;generalize derB k s.data.toList=D at *;obtain ⟨a,n,c,rfl⟩:=aab hk;clear hk hkl;go_enter Tryz.func104,Tryz.ntmps104;go_wp2_with fail;refine HL.out.mono ?_;rintro _ w1 ⟨⟨v,rfl,o1⟩,k1⟩;have R1:=Lib.hid (And.intro o1 k1);obtain ⟨a1,n1,c1,rfl⟩:=aab o1.rd;clear o1 k1 HL;go_wp2_with fail;go_ret;exact ⟨⟨_,rfl,R1.out.1⟩,R1.out.2⟩
def amM (own:List Sd):Prop:=∀ k,0<k→k<own.length→(sdAt own (k - 1)).node<(sdAt own k).node
theorem alO {own:List Sd}:amM own↔srt own:=by
 constructor
 ·intro h
  have hadj:∀ d a,a+d+1<own.length→(sdAt own a).node<(sdAt own (a+d+1)).node:=fun d=>by
   induction d with
   | zero=>exact fun a ha=>by have:=h (a+0+1) (by omega) ha;rwa [show a+0+1 - 1=a by omega] at this
   | succ d ih=>
    intro a ha;have g1:=ih a (by omega);have g2:=h (a+(d+1)+1) (by omega) ha;rw[show a+(d+1)+1 - 1=a+d+1 by omega] at g2;exact Int.lt_trans g1 g2
  refine List.pairwise_iff_getElem.2 fun a b ha hb hab=>?_
  have:=hadj (b - a - 1) a (by omega);rwa [show a+(b - a - 1)+1=b by omega,abr ha,abr hb] at this
 ·intro h k h0 hk
  rw[abr hk,abr (show k - 1<own.length by omega)];exact List.pairwise_iff_getElem.1 h (k - 1) k (by omega) hk (by omega)
theorem afT (ar1:Value)(own:List Sd)(w:World)(hu:SL w ar1 own):Calls Tryz.prog 43 #[ar1] w fun e w'=>aai e (amM own)∧Kp w w':=by
 obtain ⟨a,c,rfl,p1,s1⟩:=SE.shape hu;unfold maxLen at s1;have HU:=Lib.hid hu;have HNO:Hid (∀ k,0<k→k<own.length→¬(sdAt own (k - 1)).node<(sdAt own k).node→¬amM own):=fun k h0 hk h e=>h (e k h0 hk)
 have HYES:Hid ((∀ k,0<k→k<own.length→(sdAt own (k - 1)).node<(sdAt own k).node)→amM own):=fun h=>h
 generalize amM own=P at *;obtain ⟨N,hN⟩:∃ N,own.length=N:=⟨_,rfl⟩;have HN:=Lib.hid hN;rw[hN] at p1 HU HNO HYES ⊢;clear hu hN;go_enter Tryz.func43,Tryz.ntmps43;go_wp2_with fail;go_loopw[3] (fun i wr=>∃ m:Nat,i=.int .i64 ((m:Int)+1)∧(∀ j,0<j→j<m+1→j<N→(sdAt own (j - 1)).node<(sdAt own j).node)∧Kp w wr) (fun i _=>(N+1 - (intOf i).toNat))
 case atStart=>exact ⟨0,rfl,fun j h0 h1=>by omega,Kp.refl _⟩
 case round=>
  obtain ⟨m,rfl,hpre,hkp⟩:=hrel;have HPR:=Lib.hid hpre;have KK:=Lib.hid hkp;clear hpre hkp;by_cases hlt:m+1<N
  ·obtain ⟨g1,o1,x1,q1,e1,_,c1,_,_⟩:=SL.node (i:=m+1) (arZ.kp HU.out KK.out) (by rw[HN.out];exact hlt)
   obtain ⟨g2,o2,x2,q2,e2,_,d1,_,_⟩:=SL.node (i:=m) (arZ.kp HU.out KK.out) (by rw[HN.out];omega);rw[HN.out] at e1 e2;simp only[Value.slice.injEq] at e1;obtain ⟨rfl,_,rfl⟩:=e1;simp only[Value.slice.injEq,Option.some.injEq,Addr.mk.injEq,and_true] at e2;obtain ⟨⟨rfl,rfl⟩,hcc⟩:=e2;clear hcc;have i1:IntKind.i64.wrap ((m:Int)+1+1)=(m:Int)+1+1:=IntWalk.i64_in _ (by omega);have i2:IntKind.i64.wrap ((m:Int)+1 - 1)=(m:Int):=by rw[IntWalk.i64_in _ (by omega)];omega
   have i3:(m:Int)+1<(N:Int):=by omega
   have i4:(m:Int)<(N:Int):=by omega
   have i5:(0:Int)≤(m:Int)+1:=by omega
   have i6:((m:Int)+1).toNat=m+1:=by omega
   have HNK:Hid (¬(sdAt own m).node<(sdAt own (m+1)).node→¬P):=fun h=>HNO.out (m+1) (by omega) hlt (by simpa using h)
   have HPK:Hid ((sdAt own m).node<(sdAt own (m+1)).node→∀ j,0<j→j<m+1+1→j<N→(sdAt own (j - 1)).node<(sdAt own j).node):=fun h j h0 hj hjN=>by
    rcases Nat.lt_or_eq_of_le (Nat.lt_succ_iff.1 hj) with h3 | h3
    ·exact HPR.out j h0 h3 hjN
    ·rw[h3];simpa using h
   clear HNO HYES HPR;generalize (sdAt own (m+1)).node=X at *;generalize (sdAt own m).node=Y at *;by_cases hxy:Y<X
   ·have HX:=Lib.hid (HPK.out hxy)
    have h2:¬X≤Y:=by omega
    clear HPK HNK;go_wp2_with fail;go_region
    go_wp2_with fail;go_roundw
    case rel=>exact ⟨m+1,by go_num,HX.out,KK.out.drew⟩
    case measure=>simp[intOf];omega
   ·have HX:=Lib.hid (HNK.out (by omega))
    have h2:X≤Y:=by omega
    clear HPK HNK;go_wp2_with fail;go_region
    go_wp2_with fail;go_ret;exact ⟨aai.no HX.out,KK.out.drew⟩
  ·have HX:=Lib.hid (HYES.out fun j h0 hj=>HPR.out j h0 (by omega) hj)
   have i3:¬(m:Int)+1<(N:Int):=by omega
   clear HNO HYES;go_wp2_with fail;go_ret;exact ⟨aai.yes HX.out,KK.out⟩
def amO (seed info half b:List UInt8):List UInt8 × Int:=
 if half.length≠32 then ([],5) else if unE seed half info b≠0 then ([],unE seed half info b) else if (unR seed half info b).length≠32 then ([],2) else (unR seed half info b,0)
theorem ahC (ar1 v x y:Value)(seed info half b:List UInt8)(w:World)(hu:Rd w ar1 seed)(hv:Rd w v info)(hx:Rd w x half)(hy:Rd w y b)(hil:info.length≤1400)(hbl:b.length≤1600):
  Calls Tryz.prog 120 #[ar1,v,.agg #[x,y]] w fun e w'=>(∃ r,e=.returned (.tuple #[r,.int .i64 (amO seed info half b).2])∧Rd w' r (amO seed info half b).1)∧Kp w w':=by
 have HUW:=Lib.hid (fun W (hW:Kp w W)=>ai5 ar1 x v y seed half info b W (hu.kp hW) (hx.kp hW) (hv.kp hW) (hy.kp hW) hil hbl);have HX:Hid (amO seed info half b=if half.length≠32 then ([],5) else if unE seed half info b≠0 then ([],unE seed half info b) else if (unR seed half info b).length≠32 then ([],2) else (unR seed half info b,0)):=rfl;generalize amO seed info half b=OUT at *;generalize unE seed half info b=UE at *;generalize unR seed half info b=UR at *;obtain ⟨au,nu,cu,rfl⟩:=aab hu;obtain ⟨av,nv,cv,rfl⟩:=aab hv;obtain ⟨ax,cx,rfl,_,_⟩:=hx.shape;obtain ⟨ay,ny,cy,rfl⟩:=aab hy;clear hu hv hx hy;by_cases h32:half.length=32
 ·have HX1:Hid (OUT=if UE≠0 then ([],UE) else if UR.length≠32 then ([],2) else (UR,0)):=by have:=HX.out;rwa [if_neg (by simpa using h32)] at this
  rw[h32] at HUW ⊢;clear HX h32;go_enter Tryz.func120,Tryz.ntmps120;go_wp2_with fail;obtain ⟨w1,hw1⟩:∃ w1,w.alloc (.cells #[.slice ax 32 cx,.slice ay ny cy] 92)=w1:=⟨_,rfl⟩;have K1:Hid (Kp w w1):=by unfold Hid;rw[← hw1];exact (Kp.refl _).alloc _
  rw[hw1];clear hw1;refine (HUW.out w1 K1.out).mono ?_;rintro _ w2 ⟨⟨q,rfl,rq⟩,k2⟩;obtain ⟨a9,c9,rfl,l1,l2⟩:=rq.shape;have R9:=Lib.hid rq;have K2:=Lib.hid (K1.out.trans k2);clear rq k2 HUW;by_cases hu0:UE=0
  ·subst hu0
   have HX2:Hid (OUT=if UR.length≠32 then ([],2) else (UR,0)):=by have:=HX1.out;rwa [if_neg (by simp)] at this
   clear HX1;by_cases hr32:UR.length=32
   ·have HX3:Hid (OUT=(UR,0)):=by have:=HX2.out;rwa [if_neg (by simpa using hr32)] at this
    have hri:(UR.length:Int)=32:=by omega
    have HFIN:Hid ((∃ r,Ending.returned (.tuple #[Value.slice a9 UR.length c9,.int .i64 0])=.returned (.tuple #[r,.int .i64 OUT.2])∧Rd w2 r OUT.1)∧Kp w w2):=by rw[HX3.out];exact ⟨⟨_,rfl,R9.out⟩,K2.out⟩
    have hne:((UR.length:Int)==32)=true:=by rw[hri];rfl
    have hne2:((UR.length:Int) != 32)=false:=by rw[hri];rfl
    clear HX2 HX3 hr32;go_wp2_with fail;go_ret2;exact HFIN.out
   ·have HX3:Hid (OUT=([],2)):=by have:=HX2.out;rwa [if_pos hr32] at this
    have HFIN:Hid ((∃ r,Ending.returned (.tuple #[Value.slice none 0 0,.int .i64 2])=.returned (.tuple #[r,.int .i64 OUT.2])∧Rd w2 r OUT.1)∧Kp w w2):=by rw[HX3.out];exact ⟨⟨_,rfl,aaM _⟩,K2.out⟩
    have hne:((UR.length:Int)==32)=false:=beq_eq_false_iff_ne.2 (by omega);have hne3:¬(UR.length:Int)=32:=by omega
    clear HX2 HX3;go_wp2_with fail;go_ret2;exact HFIN.out
  ·have HX3:Hid (OUT=([],UE)):=by have:=HX1.out;rwa [if_pos hu0] at this
   have HFIN:Hid ((∃ r,Ending.returned (.tuple #[Value.slice none 0 0,.int .i64 UE])=.returned (.tuple #[r,.int .i64 OUT.2])∧Rd w2 r OUT.1)∧Kp w w2):=by rw[HX3.out];exact ⟨⟨_,rfl,aaM _⟩,K2.out⟩
   have hne:(UE==0)=false:=beq_eq_false_iff_ne.2 hu0;clear HX1 HX3;go_wp2_with fail;go_ret2;exact HFIN.out
 ·have HX1:Hid (OUT=([],5)):=by have:=HX.out;rwa [if_pos h32] at this
  have hne:((half.length:Int)==32)=false:=beq_eq_false_iff_ne.2 (by omega);have hne3:¬(half.length:Int)=32:=by omega
  have HFIN:Hid (∀ W,Kp w W→(∃ r,Ending.returned (.tuple #[Value.slice none 0 0,.int .i64 5])=.returned (.tuple #[r,.int .i64 OUT.2])∧Rd W r OUT.1)∧Kp w W):=fun W hW=>by rw[HX1.out];exact ⟨⟨_,rfl,aaM _⟩,hW⟩
  clear HX HUW HX1;go_enter Tryz.func120,Tryz.ntmps120;go_wp2_with fail;go_ret2;exact HFIN.out _ ((Kp.refl _).alloc _)
def alP (l:List Int)(x:Int)(r:Int):Prop:=(∃ k:Nat,r=(k:Int)∧k<l.length∧l.getD k 0=x)∨(r = -1∧x∉l)
theorem ak9 (ar1:Value)(l:List Int)(x:Int)(w:World)(hu:RI w ar1 l):
  Calls Tryz.prog 132 #[ar1,.int .i64 x] w fun e w'=>(∃ r,e=.returned (.int .i64 r)∧alP l x r)∧w=w':=by
 obtain ⟨a,c,rfl,p1,s1⟩:=hu.shape;unfold maxLen at s1;have HU:=Lib.hid hu;have HY:Hid (∀ k:Nat,k<l.length→l.getD k 0=x→alP l x (k:Int)):=fun k hk e=>.inl ⟨k,rfl,hk,e⟩
 have HN:Hid ((∀ k,k<l.length→l.getD k 0≠x)→alP l x (-1)):=fun h=>.inr ⟨rfl,fun hm=>by
  obtain ⟨k,hk,e⟩:=List.getElem_of_mem hm;exact h k hk (by rw[List.getD_eq_getElem?_getD,List.getElem?_eq_getElem hk];exact e)⟩
 generalize alP l x=FI at *;obtain ⟨N,hN⟩:∃ N,l.length=N:=⟨_,rfl⟩;rw[hN] at HU HY HN p1 ⊢;clear hu hN;go_enter Tryz.func132,Tryz.ntmps132;go_wp2_with fail;go_loop [8] (fun i=>∃ k:Nat,k≤N∧i=.int .i64 (k:Int)∧(∀ j,j<k→l.getD j 0≠x)) (fun i=>(N - (intOf i).toNat))
 case atStart=>exact ⟨0,Nat.zero_le _,rfl,fun t h=>by omega⟩
 case round=>
  obtain ⟨k,hk,rfl,hpre⟩:=hrel;by_cases hlt:k<N
  ·obtain ⟨b,off,rfl,_,hc⟩:=HU.out.at k hlt
   have c0:=hc k hlt;have HYK:=Lib.hid (HY.out k hlt);have HPR:=Lib.hid hpre;have i1:IntKind.i64.wrap ((k:Int)+1)=(k:Int)+1:=IntWalk.i64_in _ (by omega);have i3:(k:Int)<(N:Int):=by omega
   by_cases h1:l.getD k 0=x
   ·have HF:=Lib.hid (HYK.out h1)
    have hbe:(x==l.getD k 0)=true:=by rw[h1];exact beq_self_eq_true _
    rw[h1] at c0;clear hc HYK HPR HY HN hpre h1 hbe;go_wp2_with fail;go_ret;exact ⟨⟨_,rfl,HF.out⟩,rfl⟩
   ·have HP:Hid (∀ j,j<k+1→l.getD j 0≠x):=fun j hj=>by
     rcases Nat.lt_or_eq_of_le (Nat.lt_succ_iff.1 hj) with h3 | h3
     ·exact HPR.out j h3
     ·rw[h3];exact h1
    obtain ⟨X,hX⟩:∃ X,l.getD k 0=X:=⟨_,rfl⟩;rw[hX] at c0 h1;have hbe:(x==X)=false:=beq_eq_false_iff_ne.2 fun e=>h1 e.symm
    clear hc HYK HPR HY HN hpre hX;go_wp2_with fail;go_round
    case rel=>exact ⟨k+1,by omega,by first | rfl | (rw[i1];rfl),HP.out⟩
    case measure=>simp[intOf];omega
  ·obtain rfl:k=N:=by omega
   have HF:=Lib.hid (HN.out hpre);have i3:¬(k:Int)<(k:Int):=by omega
   clear HN hpre HY;go_wp2_with fail;go_ret;exact ⟨⟨_,rfl,HF.out⟩,rfl⟩
theorem ahD (ar1:Value)(l:List Int)(x:Int)(w:World)(hu:RI w ar1 l):
  Calls Tryz.prog 94 #[ar1,.int .i64 x] w fun e w'=>e=.returned (.bool (decide (x∈l)))∧w=w':=by
 have HI:=Lib.hid (ak9 ar1 l x w hu);obtain ⟨a,n,c,rfl⟩:=hu.sl;clear hu;go_enter Tryz.func94,Tryz.ntmps94;go_wp2_with fail;refine HI.out.mono ?_;rintro _ _ ⟨⟨r,rfl,hr⟩,rfl⟩;have HF:Hid (decide (0≤r)=decide (x∈l)):=by
  rcases hr with ⟨k,rfl,hk,e⟩ | ⟨rfl,hn⟩
  ·have:x∈l:=by
    rw[List.getD_eq_getElem?_getD,List.getElem?_eq_getElem hk] at e;exact (show l[k]=x from e)▸List.getElem_mem hk
   exact (decide_eq_true (show 0≤(k:Int) by omega)).trans (decide_eq_true this).symm
  ·exact (show decide (0≤(-1:Int))=false from rfl).trans (decide_eq_false hn).symm
 clear hr HI;go_wp2_with fail;go_ret;exact ⟨by rw[← HF.out] <;> first | rfl | simp,rfl⟩
theorem af3 (ar1:Value)(seed:List UInt8)(n:Nod)(p q h:Value)(w:World)(hu:Rd w ar1 seed)(hn:NIn w n p q h):
  Calls Tryz.prog 46 #[ar1,.agg #[.int .i64 n.kind,.int .i64 n.name,p,q,h]] w fun e w'=>aai e (pubE seed=0∧pubR seed=n.pub)∧Kp w w':=by
 have HP:=Lib.hid (fun W (hW:Kp w W)=>acq ar1 seed W (hu.kp hW));have HBE:=Lib.hid (fun W (hW:Kp w W) (v:Value) (l:List UInt8) (hv:Rd W v l)=>abf v p l n.pub W hv (hn.pub.kp hW));generalize pubE seed=PE at *;generalize pubR seed=PR at *;obtain ⟨au,nu,cu,rfl⟩:=aab hu;obtain ⟨a1,n1,c1,rfl⟩:=aab hn.pub;obtain ⟨a2,n2,c2,rfl⟩:=hn.un.sl;obtain ⟨a3,n3,c3,rfl⟩:=aab hn.hash;obtain ⟨KD,hKD⟩:∃ k,n.kind=k:=⟨_,rfl⟩;obtain ⟨NM,hNM⟩:∃ k,n.name=k:=⟨_,rfl⟩;rw[hKD,hNM];generalize n.pub=NP at *;clear hu hn hKD hNM;go_enter Tryz.func46,Tryz.ntmps46;go_wp2_with fail;obtain ⟨w1,hw1⟩:∃ w1,w.alloc (.cells #[.int .i64 KD,.int .i64 NM,.slice a1 n1 c1,.slice a2 n2 c2,.slice a3 n3 c3] 81)=w1:=⟨_,rfl⟩;have HB:Hid (Bx w1 w.heap.size 81 #[.int .i64 KD,.int .i64 NM,.slice a1 n1 c1,.slice a2 n2 c2,.slice a3 n3 c3]):=by unfold Hid;rw[← hw1];exact Bx.new w _ _
 have K1:Hid (Kp w w1):=by unfold Hid;rw[← hw1];exact (Kp.refl _).alloc _
 rw[hw1];clear hw1;refine (HP.out w1 K1.out).mono ?_;rintro _ w2 ⟨⟨r,rfl,rr,nr⟩,k2⟩;obtain ⟨a9,n9,c9,rfl⟩:=aab rr;have RR:=Lib.hid rr;have K2:=Lib.hid (K1.out.trans k2);have e2:=(HB.out.kp k2).cell 2;simp only[List.getElem?_toArray,List.getElem?_cons_zero,List.getElem?_cons_succ] at e2;clear rr nr k2 HP HB;by_cases h0:PE=0
 ·subst h0
  go_wp2_with fail;refine (HBE.out w2 K2.out _ _ RR.out).mono ?_;rintro _ w3 ⟨rfl,k3⟩;have K3:=Lib.hid (K2.out.trans k3);clear k3 e2 HBE;go_wp2_with fail;go_ret;exact ⟨⟨_,rfl,by simp⟩,K3.out⟩
 ·have hne:(PE==0)=false:=beq_eq_false_iff_ne.2 h0
  have HX:Hid (¬(PE=0∧PR=NP)):=fun h=>h0 h.1
  clear HBE;go_wp2_with fail;go_ret;exact ⟨aai.no HX.out,K2.out⟩
theorem af4 (n:Nod)(x:Int)(p q h:Value)(w:World)(hn:NIn w n p q h):
  Calls Tryz.prog 47 #[.agg #[.int .i64 n.kind,.int .i64 n.name,p,q,h],.int .i64 x] w fun e w'=>aai e (n.kind≠0∧x∉n.un)∧Kp w w':=by
 have HC:=Lib.hid (fun W (hW:Kp w W)=>ahD q n.un x W (hn.un.kp hW));obtain ⟨a1,n1,c1,rfl⟩:=aab hn.pub;obtain ⟨a2,n2,c2,rfl⟩:=hn.un.sl;obtain ⟨a3,n3,c3,rfl⟩:=aab hn.hash;obtain ⟨NM,hNM⟩:∃ k,n.name=k:=⟨_,rfl⟩;obtain ⟨b,hb⟩:∃ b,decide (x∈n.un)=b:=⟨_,rfl⟩;have HM:Hid (b=true↔x∈n.un):=by unfold Hid;rw[← hb,decide_eq_true_iff]
 rw[hb] at HC;rw[hNM];generalize n.kind=KD at *;generalize n.un=UN at *;clear hn hNM hb;go_enter Tryz.func47,Tryz.ntmps47;have HB:Hid (Bx (w.alloc (.cells #[.int .i64 KD,.int .i64 NM,.slice a1 n1 c1,.slice a2 n2 c2,.slice a3 n3 c3] 81)) w.heap.size 81 #[.int .i64 KD,.int .i64 NM,.slice a1 n1 c1,.slice a2 n2 c2,.slice a3 n3 c3]):=Bx.new w _ _;by_cases h0:KD=0
 ·subst h0
  have HX:Hid (¬((0:Int)≠0∧x∉UN)):=fun h=>h.1 rfl
  go_wp2_with fail;go_ret;exact ⟨aai.no HX.out,(Kp.refl _).alloc _⟩
 ·have hne:(KD==0)=false:=beq_eq_false_iff_ne.2 h0
  have hne2:(KD != 0)=true:=bne_iff_ne.2 h0;have K1:Hid (Kp w (w.alloc (.cells #[.int .i64 KD,.int .i64 NM,.slice a1 n1 c1,.slice a2 n2 c2,.slice a3 n3 c3] 81))):=(Kp.refl _).alloc _;go_wp2_with fail;refine (HC.out _ K1.out).mono ?_;rintro _ _ ⟨rfl,rfl⟩;have HX:Hid ((!b)=true↔KD≠0∧x∉UN):=by
   unfold Hid;rw[← not_congr HM.out];cases b <;> simp[h0]
  go_wp2_with fail;go_ret;exact ⟨⟨_,rfl,HX.out⟩,K1.out⟩
end Go.Proofs.YthmhklmkgkfcpaaGreatDoor
namespace Go.Proofs.YthmhklmkgkfcpaaGreatDoor
open Go.RowKit Go.Shelf
attribute [local go_sem] Oper.semAt_some
theorem Rd.heldL {R:Nat→Prop}{A B:World}{v:Value}{l:List UInt8}(h:Rd A v l)(hs:Held R A B)(hx:∀ k,leads v k→R k):Rd B v l:=by
 obtain ⟨a,c,e,h1,h2,h3,h4⟩:=h;subst e;refine ⟨a,c,rfl,h1,h2,h3,fun x hx' i hi=>?_⟩;have hc:=h4 x hx' i hi;subst hx';exact hs.cell hc (by rw[aaI];exact hx _ ⟨x,_,c,rfl,by omega,rfl⟩)
theorem Rd.leads_lt {A:World}{v:Value}{l:List UInt8}(h:Rd A v l):∀ k,leads v k→k<A.heap.size:=by
 rintro k ⟨x,n,c,e,h0,rfl⟩;exact h.inside x n c e h0
theorem Ow.leads_lt {e:TypeId}{A:World}{B:Nat}{v:Value}{l:List UInt8}(h:Ow e A B v l):∀ k,leads v k→B≤k∧k<A.heap.size:=by
 rintro k ⟨x,n,c,rfl,h0,rfl⟩;exact World.ownsRow.lt h _ rfl
theorem alR (Q:Nat→Prop):(∃ n,Q n)→∃ n,Q n∧∀ m,Q m→n≤m:=by
 rintro ⟨n,hn⟩
 induction n using Nat.strongRecOn with
 | ind n ih=>
  by_cases h:∃ m,m<n∧Q m
  ·obtain ⟨m,h1,h2⟩:=h
   exact ih m h1 h2
  ·exact ⟨n,hn,fun m hm=>Nat.le_of_not_lt fun hlt=>h ⟨m,hlt,hm⟩⟩
open Classical in
noncomputable def akh (Q:Nat→Prop):Nat:=if h:∃ n,Q n then Classical.choose (alR Q h) else 0
theorem aki {Q:Nat→Prop}(h:∃ n,Q n):Q (akh Q)∧∀ m,Q m→akh Q≤m:=by
 unfold akh;rw[dif_pos h];exact Classical.choose_spec (alR Q h)
theorem ahf (v:Value)(l:List UInt8)(w:World)(hv:Rd w v l):
  Calls Tryz.prog 98 #[v] w fun e w'=>e=.returned (.func (.func 133) #[] #[.pointer (some ⟨w.heap.size,0,none⟩)])∧w.alloc (.cells #[v] 24)=w':=by
 obtain ⟨a,n,c,rfl⟩:=aab hv;clear hv;go_enter Tryz.func98,Tryz.ntmps98;go_wp2_with fail;go_ret;exact ⟨rfl,rfl⟩
theorem aja (v:Value)(s:List UInt8)(N b:Nat)(w:World)(hv:Rd w v s)(hs:s.length=32)(hb:w.cell? ⟨b,0,none⟩=some v):
  aqb Tryz.prog 133 #[.pointer (some ⟨b,0,none⟩)] (fun i ar1 Y A=>Rd A ar1 (secS s i)∧∀ k,leads ar1 k→Y k∨leads v k) N (fun k=>k=b∨leads v k) w:=by
 intro l J Jx W hh hl1 hl2 hJ hJx hJN hY h0;have hN0:0<N:=Nat.pos_of_ne_zero (fun e=>by subst e;exact hJN _ _ h0);have hbw:=hh.cell hb (.inl rfl);have hvW:Rd W v s:=hv.heldL hh (fun k h=>.inr h);have HJ:=Lib.hid hJ;have HY:=Lib.hid hY;have HJN:=Lib.hid hJN;have HHeld:=Lib.hid hh;have HV:=Lib.hid hv;have HD:=Lib.hid (fun W (ar1:Value) i (hu:Rd W ar1 (secS s i))=>aec ar1 ⟨#[112,97,116,104]⟩ (secS s i) W hu (by decide) (by rw[acS hs i];omega));have HS:Hid (∀ i,derB (secS s i) (⟨#[112,97,116,104]⟩:ByteArray).data.toList=secS s (i+1)):=fun i=>rfl
 obtain ⟨a0,n0,c0,rfl⟩:=aab hv;generalize hV0:Value.slice a0 n0 c0=v at *;obtain ⟨RL,hRL⟩:∃ RL:Nat→Value→World→Prop,(fun (i:Nat) (p:Value) (wr:World)=>∃ Y:Nat→Prop,Rd wr p (secS s i)∧(∀ k,leads p k→Y k∨leads v k)∧wr.cell? ⟨b,0,none⟩=some v∧Held (fun k=>k=b∨leads v k) w wr∧J i Y wr∧(∀ j,Y j→W.heap.size≤j∧j<wr.heap.size)∧W.heap.size≤wr.heap.size)=RL:=⟨_,rfl⟩;have HRL:Hid (∀ i p wr,RL i p wr↔∃ Y:Nat→Prop,Rd wr p (secS s i)∧(∀ k,leads p k→Y k∨leads v k)∧wr.cell? ⟨b,0,none⟩=some v∧Held (fun k=>k=b∨leads v k) w wr∧J i Y wr∧(∀ j,Y j→W.heap.size≤j∧j<wr.heap.size)∧W.heap.size≤wr.heap.size):=fun i p wr=>by rw[← hRL]
 have HSTART:Hid (RL 0 v W):=(HRL.out _ _ _).2 ⟨_,hvW,fun k hk=>.inr hk,hbw,hh,h0,fun _ h=>h.elim,Nat.le_refl _⟩;clear hRL hJ hY hJN hb hv hh h0 hvW hs;subst hV0;refine (callsIn_wide (n:=5)).1 ?_;refine callsIn_of_wp Tryz.func133 rfl trivial ?_ rfl;simp only[Tryz.ntmps133,List.append_toArray,List.append_nil,List.size_toArray,List.length_cons,List.length_nil,Nat.reduceAdd,Nat.reduceSub,Array.replicate_succ,Array.replicate_zero,List.push_toArray,List.nil_append,List.cons_append];gi_wp2
 gi_loopw [3] (fun p wr=>∃ i:Nat,i<N∧RL i p wr) (fun p wr=>akh fun d=>∃ i:Nat,i<N∧d=N - i∧RL i p wr)
 case atStart=>exact ⟨0,hN0,HSTART.out⟩
 case round=>
  clear hbw;obtain ⟨i,hi,hm,hr⟩:∃ i,i<N∧(akh fun d=>∃ i:Nat,i<N∧d=N - i∧RL i u3 wr)=N - i∧RL i u3 wr:=by
   obtain ⟨i0,h1,h2⟩:=hrel;obtain ⟨⟨i,h3,h4,h5⟩,_⟩:=aki (Q:=fun d=>∃ i:Nat,i<N∧d=N - i∧RL i u3 wr) ⟨_,i0,h1,rfl,h2⟩;exact ⟨i,h3,h4,h5⟩
  have HM:=Lib.hid hm;obtain ⟨Y,rd,hl,hb,hh,hj,hyb,hsz⟩:=(HRL.out _ _ _).1 hr;obtain ⟨a3,n3,c3,rfl⟩:=aab rd;obtain ⟨fn,tmps,assign,body,hy,hR⟩:=HY.out i Y wr _ 4 hi hj hyb hh ⟨rd,hl⟩;have hmx:Tryz.prog.follows .mixedOrders=true:=by kernel_rfl
  have hls:Tryz.prog.follows .lateStores=true:=by kernel_rfl
  clear hrel hm hr;gi_wp2
  have RD:=Lib.hid rd;have HH:=Lib.hid (And.intro hb (And.intro hh (And.intro hyb (And.intro hsz hl))));have HJI:=Lib.hid hj;clear hb hh hyb hsz hl hj rd;refine hR.mono ?_;rintro e w2 ⟨hh2,(⟨rfl,hj2⟩ | ⟨rfl,hx2⟩)⟩
  ·have hb2:=hh2.cell HH.out.1 (.inr (.inl rfl))
   have rd2:Rd w2 (.slice a3 n3 c3) (secS s i):=RD.out.heldL hh2 fun k hk=>(HH.out.2.2.2.2 k hk).imp id .inr
   have hw2:Held (fun k=>k=b∨leads (.slice a0 n0 c0) k) w w2:=HH.out.2.1.trans (hh2.mono fun _ h=>.inr h);have HX:=Lib.hid (And.intro hb2 (And.intro hw2 (And.intro hj2 hh2.size)));have RD2:=Lib.hid rd2;clear hy hR hb2 hw2 hj2 hh2 rd2;gi_wp2_with (refine ⟨trivial,?_⟩;gi_at_call 104;refine (callsIn_wide.2 (HD.out w2 _ i RD2.out)).mono ?_;rintro e w3 ⟨⟨v3,rfl,o3⟩,k3⟩;rw[HS.out] at o3;obtain ⟨a9,n9,c9,rfl⟩:=aab o3.rd)
   obtain ⟨q1,q2,q3,q4⟩:=HX.out;obtain ⟨_,_,arY,p4,p5⟩:=HH.out;have hiN:i+1<N:=by
    rcases Nat.lt_or_eq_of_le (Nat.succ_le_of_lt hi) with h | h
    ·exact h
    ·rw[show i+1=N from h] at q3
     exact absurd q3 (HJN.out _ _)
   have hrl:RL (i+1) (.slice a9 n9 c9) w3:=(HRL.out _ _ _).2 ⟨fun k=>(Y k∧¬leads (.slice a3 n3 c3) k)∨leads (.slice a9 n9 c9) k,o3.rd,fun k hk=>.inl (.inr hk),k3.cell q1,q2.trans (Held.of_kp k3),
    HJ.out (i+1) _ _ w2 w3 q3 (fun k hk=>⟨(arY k hk.1).1,Nat.lt_of_lt_of_le (arY k hk.1).2 q4⟩) (Step.of_kp k3) (fun k hk=>hk.imp id fun h=>o3.leads_lt k h),
    fun k hk=>hk.elim (fun h=>⟨(arY k h.1).1,Nat.lt_of_lt_of_le (arY k h.1).2 (Nat.le_trans q4 k3.size)⟩) (fun h=>⟨Nat.le_trans (Nat.le_trans p4 q4) (o3.leads_lt k h).1,(o3.leads_lt k h).2⟩),Nat.le_trans p4 (Nat.le_trans q4 k3.size)⟩
   refine ⟨⟨i+1,hiN,hrl⟩,?_⟩;rw[HM.out];have:=(aki (Q:=fun d=>∃ i:Nat,i<N∧d=N - i∧RL i (.slice a9 n9 c9) w3) ⟨_,i+1,hiN,rfl,hrl⟩).2 _ ⟨i+1,hiN,rfl,hrl⟩;omega
  ·clear hy hR
   gi_wp2
   refine bodyPost_end (results_none rfl _ _ _) rfl ?_;exact ⟨⟨_,rfl⟩,_,fun j h=>⟨(HH.out.2.2.1 j h.1).1,Nat.lt_of_lt_of_le (HH.out.2.2.1 j h.1).2 hh2.size⟩,.inr ⟨i,hi,hx2⟩⟩
end Go.Proofs.YthmhklmkgkfcpaaGreatDoor

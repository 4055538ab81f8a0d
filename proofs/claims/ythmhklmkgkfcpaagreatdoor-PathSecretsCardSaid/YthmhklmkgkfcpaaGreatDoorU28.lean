import Derived.Test.YthmhklmkgkfcpaaGreatDoorU2
import Derived.Test.YthmhklmkgkfcpaaGreatDoorU27
import Derived.Deep.RegionWith
set_option linter.unusedVariables false
set_option linter.unusedSimpArgs false
set_option maxHeartbeats 8000000
set_option maxRecDepth 100000
namespace Go.Proofs.YthmhklmkgkfcpaaGreatDoor
open Go.RowKit
theorem afI (u v:Value)(l m:List Int)(w:World)(hu:RI w u l)(hv:RI w v m):
  Calls Tryz.prog 15 #[u,v] w fun e w'=>e=.returned (.bool (decide (l=m)))∧Kp w w':=by
 obtain ⟨a1,c1,rfl,p1,s1⟩:=hu.shape;obtain ⟨a2,c2,rfl,p2,s2⟩:=hv.shape;unfold maxLen at s1 s2;by_cases hlen:l.length=m.length
 ·have HEQ:Hid (∀ k,k<l.length→l.getD k 0≠m.getD k 0→decide (l=m)=false):=fun k hk hne=>decide_eq_false (fun h=>hne (by rw[h]))
  have HALL:Hid ((∀ k,k<l.length→l.getD k 0=m.getD k 0)→decide (l=m)=true):=fun h=>by
   refine decide_eq_true (List.ext_getElem hlen fun k h1 h2=>?_);have:=h k h1;rwa [List.getD_eq_getElem?_getD,List.getElem?_eq_getElem h1,List.getD_eq_getElem?_getD,List.getElem?_eq_getElem h2] at this
  generalize decide (l=m)=b at *;have HU:=Lib.hid hu;have HV:=Lib.hid hv;rw[← hlen] at HV p2 ⊢;obtain ⟨N,hN⟩:∃ N,l.length=N:=⟨_,rfl⟩;rw[hN] at HU HV p1 p2 HEQ HALL ⊢;clear hu hv hlen hN;go_enter Tryz.func15,Tryz.ntmps15;go_wp2_with fail;go_loopw[5] (fun i wr=>∃ k:Nat,k≤N∧i=.int .i64 (k:Int)∧(∀ t,t<k→l.getD t 0=m.getD t 0)∧Kp w wr) (fun i _=>(N - (intOf i).toNat))
  case atStart=>exact ⟨0,Nat.zero_le _,rfl,fun t h=>by omega,Kp.refl _⟩
  case round=>
   obtain ⟨k,hk,rfl,hpre,hkp⟩:=hrel;by_cases hlt:k<N
   ·obtain ⟨g1,o1,rfl,_,hc1⟩:=HU.out.at k hlt
    obtain ⟨g2,o2,rfl,_,hc2⟩:=HV.out.at k hlt;have h1:=hkp.cell (hc1 k hlt);have h2:=hkp.cell (hc2 k hlt);have HEQ2:=HEQ.out k hlt;have HPRE:Hid (l.getD k 0=m.getD k 0→∀ t,t<k+1→l.getD t 0=m.getD t 0):=fun he t ht=>by
     rcases Nat.lt_or_eq_of_le (Nat.lt_succ_iff.1 ht) with h3 | h3
     ·exact hpre t h3
     ·rw[h3];exact he
    have i1:IntKind.i64.wrap ((k:Int)+1)=(k:Int)+1:=IntWalk.i64_in _ (by omega);have KK:=Lib.hid hkp;clear hc1 hc2 HALL HEQ hpre hkp;generalize l.getD k 0=X at *;generalize m.getD k 0=Y at *;by_cases hxy:X=Y
    ·have HP:=Lib.hid (HPRE.out hxy)
     subst hxy;clear HEQ2 HPRE;go_wp2_with fail;go_region
     go_wp2_with fail;go_roundw
     case rel=>exact ⟨k+1,by omega,by go_num,HP.out,KK.out.drew⟩
     case measure=>simp[intOf];omega
    ·have HB:=Lib.hid (HEQ2 hxy)
     have hne2:(X==Y)=false:=beq_eq_false_iff_ne.2 hxy;clear HEQ2 HPRE;go_wp2_with fail;go_region
     go_wp2_with fail;go_ret;exact ⟨by rw[HB.out] <;> rfl,KK.out.drew⟩
   ·obtain rfl:k=N:=by omega
    have HB:=Lib.hid (HALL.out hpre);have KK:=Lib.hid hkp;clear HALL HEQ hpre hkp;go_wp2_with fail;go_ret;exact ⟨by rw[HB.out] <;> rfl,KK.out⟩
 ·have e:decide (l=m)=false:=decide_eq_false (fun h=>hlen (by rw[h]))
  have hne:¬(l.length:Int)=(m.length:Int):=by omega
  have hne2:((l.length:Int)==(m.length:Int))=false:=beq_eq_false_iff_ne.2 hne;rw[e];clear hu hv e hlen;go_enter Tryz.func15,Tryz.ntmps15;go_wp2_with fail;go_ret;exact ⟨rfl,Kp.refl _⟩
theorem agP (u v:Value)(a b:Nod)(w:World)(hu:NV w u a)(hv:NV w v b):
  Calls Tryz.prog 77 #[u,v] w fun e w'=>aav e (a=b)∧Kp w w':=by
 obtain ⟨p1,u1,h1,rfl,i1⟩:=hu;obtain ⟨p2,u2,h2,rfl,i2⟩:=hv;have HI:=Lib.hid (fun W (hW:Kp w W)=>afI u1 u2 a.un b.un W (i1.un.kp hW) (i2.un.kp hW));have HP:=Lib.hid (fun W (hW:Kp w W)=>af6 p1 p2 a.pub b.pub W (i1.pub.kp hW) (i2.pub.kp hW));have HH:=Lib.hid (fun W (hW:Kp w W)=>af6 h1 h2 a.hash b.hash W (i1.hash.kp hW) (i2.hash.kp hW));have HB:=Lib.hid (Nod.eq_iff a b);obtain ⟨xp1,np1,cp1,rfl⟩:=aac i1.pub;obtain ⟨xu1,nu1,cu1,rfl⟩:=i1.un.sl;obtain ⟨xh1,nh1,ch1,rfl⟩:=aac i1.hash;obtain ⟨xp2,np2,cp2,rfl⟩:=aac i2.pub;obtain ⟨xu2,nu2,cu2,rfl⟩:=i2.un.sl;obtain ⟨xh2,nh2,ch2,rfl⟩:=aac i2.hash;obtain ⟨k1,n1,pu1,un1,ha1⟩:=a;obtain ⟨k2,n2,pu2,un2,ha2⟩:=b;simp only[nodC] at HI HP HH HB ⊢;generalize ((⟨k1,n1,pu1,un1,ha1⟩:Nod)=⟨k2,n2,pu2,un2,ha2⟩)=EQ at *;have hpl:∀ (b:Bool) (p:Prop) [Decidable p],decide p=b→(p↔b=true):=fun b p _ h=>by rw[← h];simp
 obtain ⟨bu,hbu⟩:∃ bu,decide (un1=un2)=bu:=⟨_,rfl⟩;obtain ⟨bp,hbp⟩:∃ bp,decide (pu1=pu2)=bp:=⟨_,rfl⟩;obtain ⟨bh,hbh⟩:∃ bh,decide (ha1=ha2)=bh:=⟨_,rfl⟩;rw[hbu] at HI;rw[hbp] at HP;rw[hbh] at HH;have HB2:Hid (EQ↔k1=k2∧n1=n2∧bp=true∧bu=true∧bh=true):=by
  rw[← hpl bp _ hbp,← hpl bu _ hbu,← hpl bh _ hbh];exact HB.out
 clear i1 i2 HB hpl hbu hbp hbh;have KK:Hid (Kp w ((w.alloc (.cells #[.int .i64 k1,.int .i64 n1,.slice xp1 np1 cp1,.slice xu1 nu1 cu1,.slice xh1 nh1 ch1] 81)).alloc (.cells #[.int .i64 k2,.int .i64 n2,.slice xp2 np2 cp2,.slice xu2 nu2 cu2,.slice xh2 nh2 ch2] 81))):=((Kp.refl w).alloc _).alloc _;cases bu
 ·have HN:Hid (¬EQ):=fun e=>by have:=(HB2.out.1 e).2.2.2.1;cases this
  clear HB2;go_enter Tryz.func77,Tryz.ntmps77;go_wp2_with fail;refine (HI.out _ KK.out).mono ?_;rintro _ w1 ⟨rfl,k1'⟩;have K1:=Lib.hid (KK.out.trans k1');clear k1';go_wp2_with fail;go_ret;exact ⟨aav.no HN.out,K1.out⟩
 ·have HC:∀ W,Bx W w.heap.size 81 #[.int .i64 k1,.int .i64 n1,.slice xp1 np1 cp1,.slice xu1 nu1 cu1,.slice xh1 nh1 ch1]→Bx W (w.heap.size+1) 81 #[.int .i64 k2,.int .i64 n2,.slice xp2 np2 cp2,.slice xu2 nu2 cu2,.slice xh2 nh2 ch2] →
    (W.cell? ⟨w.heap.size,0,none⟩=some (.int .i64 k1)∧W.cell? ⟨w.heap.size,1,none⟩=some (.int .i64 n1)∧W.cell? ⟨w.heap.size,2,none⟩=some (.slice xp1 np1 cp1)∧W.cell? ⟨w.heap.size,4,none⟩=some (.slice xh1 nh1 ch1)) ∧
    (W.cell? ⟨w.heap.size+1,0,none⟩=some (.int .i64 k2)∧W.cell? ⟨w.heap.size+1,1,none⟩=some (.int .i64 n2)∧W.cell? ⟨w.heap.size+1,2,none⟩=some (.slice xp2 np2 cp2)∧W.cell? ⟨w.heap.size+1,4,none⟩=some (.slice xh2 nh2 ch2)):=
   fun W b1 b2=>⟨⟨b1.cell 0,b1.cell 1,b1.cell 2,b1.cell 4⟩,⟨b2.cell 0,b2.cell 1,b2.cell 2,b2.cell 4⟩⟩
  have HBX:Hid (∀ W,Kp ((w.alloc (.cells #[.int .i64 k1,.int .i64 n1,.slice xp1 np1 cp1,.slice xu1 nu1 cu1,.slice xh1 nh1 ch1] 81)).alloc (.cells #[.int .i64 k2,.int .i64 n2,.slice xp2 np2 cp2,.slice xu2 nu2 cu2,.slice xh2 nh2 ch2] 81)) W →
    (W.cell? ⟨w.heap.size,0,none⟩=some (.int .i64 k1)∧W.cell? ⟨w.heap.size,1,none⟩=some (.int .i64 n1)∧W.cell? ⟨w.heap.size,2,none⟩=some (.slice xp1 np1 cp1)∧W.cell? ⟨w.heap.size,4,none⟩=some (.slice xh1 nh1 ch1)) ∧
    (W.cell? ⟨w.heap.size+1,0,none⟩=some (.int .i64 k2)∧W.cell? ⟨w.heap.size+1,1,none⟩=some (.int .i64 n2)∧W.cell? ⟨w.heap.size+1,2,none⟩=some (.slice xp2 np2 cp2)∧W.cell? ⟨w.heap.size+1,4,none⟩=some (.slice xh2 nh2 ch2))):=fun W hW=>by
   have b1:=(Bx.new w 81 #[.int .i64 k1,.int .i64 n1,.slice xp1 np1 cp1,.slice xu1 nu1 cu1,.slice xh1 nh1 ch1]).kp (((Kp.refl _).alloc _).trans hW);have b2:=Bx.new (w.alloc (.cells #[.int .i64 k1,.int .i64 n1,.slice xp1 np1 cp1,.slice xu1 nu1 cu1,.slice xh1 nh1 ch1] 81)) 81 #[.int .i64 k2,.int .i64 n2,.slice xp2 np2 cp2,.slice xu2 nu2 cu2,.slice xh2 nh2 ch2];have e:(w.alloc (.cells #[.int .i64 k1,.int .i64 n1,.slice xp1 np1 cp1,.slice xu1 nu1 cu1,.slice xh1 nh1 ch1] 81)).heap.size=w.heap.size+1:=by simp
   rw[e] at b2;exact HC W b1 (b2.kp hW)
  clear HC;by_cases hk:k1=k2
  ·by_cases hn:n1=n2
   ·subst hk
    subst hn;cases bp
    ·have HN:Hid (¬EQ):=fun e=>by have:=(HB2.out.1 e).2.2.1;cases this
     clear HB2;go_enter Tryz.func77,Tryz.ntmps77;go_wp2_with fail;refine (HI.out _ KK.out).mono ?_;rintro _ w1 ⟨rfl,k1'⟩;obtain ⟨⟨d1,d2,d3,d4⟩,⟨f1,f2,f3,f4⟩⟩:=HBX.out w1 k1';have K1:=Lib.hid (KK.out.trans k1');clear k1' HBX;go_wp2_with fail;refine (HP.out _ K1.out).mono ?_;rintro _ _ ⟨rfl,rfl⟩;go_wp2_with fail;go_ret;exact ⟨aav.no HN.out,K1.out⟩
    ·have HBB:Hid (EQ↔bh=true):=⟨fun e=>(HB2.out.1 e).2.2.2.2,fun e=>HB2.out.2 ⟨rfl,rfl,rfl,rfl,e⟩⟩
     clear HB2;go_enter Tryz.func77,Tryz.ntmps77;go_wp2_with fail;refine (HI.out _ KK.out).mono ?_;rintro _ w1 ⟨rfl,k1'⟩;obtain ⟨⟨d1,d2,d3,d4⟩,⟨f1,f2,f3,f4⟩⟩:=HBX.out w1 k1';have K1:=Lib.hid (KK.out.trans k1');clear k1' HBX;go_wp2_with fail;refine (HP.out _ K1.out).mono ?_;rintro _ _ ⟨rfl,rfl⟩;go_wp2_with fail;refine (HH.out _ K1.out).mono ?_;rintro _ _ ⟨rfl,rfl⟩;go_wp2_with fail;go_ret;exact ⟨⟨bh,rfl,HBB.out.symm⟩,K1.out⟩
   ·have HN:Hid (¬EQ):=fun e=>hn (HB2.out.1 e).2.1
    have hnb:(n1==n2)=false:=beq_eq_false_iff_ne.2 hn;subst hk;clear HB2;go_enter Tryz.func77,Tryz.ntmps77;go_wp2_with fail;refine (HI.out _ KK.out).mono ?_;rintro _ w1 ⟨rfl,k1'⟩;obtain ⟨⟨d1,d2,d3,d4⟩,⟨f1,f2,f3,f4⟩⟩:=HBX.out w1 k1';have K1:=Lib.hid (KK.out.trans k1');clear k1' HBX;go_wp2_with fail;go_ret;exact ⟨aav.no HN.out,K1.out⟩
  ·have HN:Hid (¬EQ):=fun e=>hk (HB2.out.1 e).1
   have hkb:(k1==k2)=false:=beq_eq_false_iff_ne.2 hk;clear HB2;go_enter Tryz.func77,Tryz.ntmps77;go_wp2_with fail;refine (HI.out _ KK.out).mono ?_;rintro _ w1 ⟨rfl,k1'⟩;obtain ⟨⟨d1,d2,d3,d4⟩,⟨f1,f2,f3,f4⟩⟩:=HBX.out w1 k1';have K1:=Lib.hid (KK.out.trans k1');clear k1' HBX;go_wp2_with fail;go_ret;exact ⟨aav.no HN.out,K1.out⟩
theorem ajL (u v:Value)(t s:List Nod)(w:World)(hu:NL w u t)(hv:NL w v s):
  Calls Tryz.prog 28 #[u,v] w fun e w'=>aav e (t=s)∧Kp w w':=by
 obtain ⟨a1,c1,rfl,p1,s1⟩:=hu.shape;obtain ⟨a2,c2,rfl,p2,s2⟩:=hv.shape;unfold maxLen at s1 s2;by_cases hlen:t.length=s.length
 ·have HEQ:Hid (∀ k,k<t.length→¬ats t k=ats s k→¬t=s):=fun k hk hne h=>hne (by rw[h])
  have HALL:Hid ((∀ k,k<t.length→ats t k=ats s k)→t=s):=fun h=>am7 hlen fun x=>by
   by_cases hx:x<t.length
   ·exact h x hx
   ·rw[acJ (by omega),acJ (by omega)]
  have HSN:=Lib.hid (fun (a b:Nod) u v W (h1:NV W u a) (h2:NV W v b)=>agP u v a b W h1 h2);have HU:=Lib.hid hu;have HV:=Lib.hid hv;rw[← hlen] at HV p2 ⊢;obtain ⟨N,hN⟩:∃ N,t.length=N:=⟨_,rfl⟩;rw[hN] at HU HV p1 p2 HEQ HALL ⊢;generalize (t=s)=EQ at *;clear hu hv hlen hN;go_enter Tryz.func28,Tryz.ntmps28;go_wp2_with fail;go_loopw[5] (fun i wr=>∃ k:Nat,k≤N∧i=.int .i64 (k:Int)∧(∀ j,j<k→ats t j=ats s j)∧Kp w wr) (fun i _=>(N - (intOf i).toNat))
  case atStart=>exact ⟨0,Nat.zero_le _,rfl,fun t h=>by omega,Kp.refl _⟩
  case round=>
   obtain ⟨k,hk,rfl,hpre,hkp⟩:=hrel;by_cases hlt:k<N
   ·obtain ⟨g1,o1,rfl,_,hc1⟩:=HU.out.at k hlt
    obtain ⟨g2,o2,rfl,_,hc2⟩:=HV.out.at k hlt;obtain ⟨x1,y1,z1,n1⟩:=hc1 k hlt;obtain ⟨x2,y2,z2,n2⟩:=hc2 k hlt;have m1:=n1.kp hkp;have m2:=n2.kp hkp;obtain ⟨c10,c11,c12,c13,c14⟩:=And.intro m1.kind (And.intro m1.name (And.intro m1.pubC (And.intro m1.unC m1.hashC)));obtain ⟨c20,c21,c22,c23,c24⟩:=And.intro m2.kind (And.intro m2.name (And.intro m2.pubC (And.intro m2.unC m2.hashC)));have HC:=Lib.hid (fun W (hW:Kp wr W)=>HSN.out (ats t k) (ats s k) _ _ W ⟨x1,y1,z1,rfl,m1.2.kp hW⟩ ⟨x2,y2,z2,rfl,m2.2.kp hW⟩);simp only[nodC] at HC;have HEQ2:=HEQ.out k hlt;have HPRE:Hid (ats t k=ats s k→∀ j,j<k+1→ats t j=ats s j):=fun he j hj=>by
     rcases Nat.lt_or_eq_of_le (Nat.lt_succ_iff.1 hj) with h3 | h3
     ·exact hpre j h3
     ·rw[h3];exact he
    have i1:IntKind.i64.wrap ((k:Int)+1)=(k:Int)+1:=IntWalk.i64_in _ (by omega);have i2:(k:Int)<(N:Int):=by omega
    have KK:=Lib.hid hkp;have M1:=Lib.hid m1;have M2:=Lib.hid m2;obtain ⟨xa,na,ca,rfl⟩:=aac m1.2.pub;obtain ⟨xb,nb,cb,rfl⟩:=m1.2.un.sl;obtain ⟨xc,nc,cc,rfl⟩:=aac m1.2.hash;obtain ⟨xd,nd',cd,rfl⟩:=aac m2.2.pub;obtain ⟨xe,ne,ce,rfl⟩:=m2.2.un.sl;obtain ⟨xf,nf,cf,rfl⟩:=aac m2.2.hash;clear hc1 hc2 HALL HEQ hpre hkp n1 n2 m1 m2 HSN M1 M2;generalize (ats t k=ats s k)=E1 at *;generalize (ats t k)=A1 at *;generalize (ats s k)=A2 at *;go_wp2_with fail;go_region_with (go_at_call 77;refine (HC.out _ (by first | exact Kp.refl _ | exact (Kp.refl _).drew)).mono ?_;rintro e9 w9 ⟨t9,k9⟩;obtain ⟨b9,rfl,h9⟩:=t9)
    all_goals
     have K9:=Lib.hid (KK.out.trans (((Kp.refl wr).drew).trans k9));cases b9
     ·have HB:=Lib.hid (HEQ2 fun e=>by have:=h9.2 e;cases this)
      clear h9 HEQ2 HPRE HC k9;go_wp2_with fail;go_ret;first | exact ⟨aav.no HB.out,K9.out⟩ | exact ⟨aav.no HB.out,K9.out.drew⟩
     ·have HP:=Lib.hid (HPRE.out (h9.1 rfl))
      clear h9 HEQ2 HPRE HC k9;go_wp2_with fail;go_roundw
      case rel=>first | exact ⟨k+1,by omega,by go_num,HP.out,K9.out⟩ | exact ⟨k+1,by omega,by go_num,HP.out,K9.out.drew⟩
      case measure=>simp[intOf];omega
   ·obtain rfl:k=N:=by omega
    have HB:=Lib.hid (HALL.out hpre);have KK:=Lib.hid hkp;clear HALL HEQ hpre hkp;go_wp2_with fail;go_ret;exact ⟨aav.yes HB.out,KK.out⟩
 ·have hne:¬(t.length:Int)=(s.length:Int):=by omega
  have hne2:((t.length:Int)==(s.length:Int))=false:=beq_eq_false_iff_ne.2 hne;have HN:Hid (¬t=s):=fun h=>hlen (by rw[h])
  clear hu hv hlen;go_enter Tryz.func28,Tryz.ntmps28;go_wp2_with fail;go_ret;exact ⟨aav.no HN.out,Kp.refl _⟩
theorem ajM (u:Value)(t:List Nod)(m:Nat)(w:World)(hu:NL w u t)(hm:m≤100000):
  Calls Tryz.prog 39 #[u,.int .i64 (m:Int)] w fun e w'=>aav e (adN t m)∧w=w':=by
 obtain ⟨a1,c1,rfl,p1,s1⟩:=hu.shape;by_cases hlen:t.length≤m
 ·have HEQ:Hid (∀ k,k<t.length→¬((ats t k).pub.length≤40∧(ats t k).hash.length≤40∧(ats t k).un.length≤m)→¬adN t m):=fun k hk hne h=>hne (by
   rw[aep hk];exact h.2 _ (List.getElem_mem hk))
  have HALL:Hid ((∀ k,k<t.length→((ats t k).pub.length≤40∧(ats t k).hash.length≤40∧(ats t k).un.length≤m))→adN t m):=fun h=>⟨hlen,fun n hn=>by
   obtain ⟨k,hk,rfl⟩:=List.getElem_of_mem hn;have:=h k hk;rwa [aep hk] at this⟩
  have HU:=Lib.hid hu;obtain ⟨N,hN⟩:∃ N,t.length=N:=⟨_,rfl⟩;rw[hN] at HU p1 HEQ HALL hlen ⊢;generalize adN t m=SP at *;clear hu hN;go_enter Tryz.func39,Tryz.ntmps39;go_wp2_with fail;go_loop [5] (fun i=>∃ k:Nat,k≤N∧i=.int .i64 (k:Int)∧(∀ j,j<k→((ats t j).pub.length≤40∧(ats t j).hash.length≤40∧(ats t j).un.length≤m))) (fun i=>(N - (intOf i).toNat))
  case atStart=>exact ⟨0,Nat.zero_le _,rfl,fun t h=>by omega⟩
  case round=>
   obtain ⟨k,hk,rfl,hpre⟩:=hrel;by_cases hlt:k<N
   ·obtain ⟨g1,o1,rfl,_,hc1⟩:=HU.out.at k hlt
    obtain ⟨x1,y1,z1,n1⟩:=hc1 k hlt;have c2:=n1.pubC;have c3:=n1.unC;have c4:=n1.hashC;obtain ⟨xa,ca,rfl,_,_⟩:=n1.2.pub.shape;obtain ⟨xb,cb,rfl,_,_⟩:=n1.2.un.shape;obtain ⟨xc,cc,rfl,_,_⟩:=n1.2.hash.shape;have HEQ2:=HEQ.out k hlt;have HPRE:Hid (((ats t k).pub.length≤40∧(ats t k).hash.length≤40∧(ats t k).un.length≤m)→∀ j,j<k+1→((ats t j).pub.length≤40∧(ats t j).hash.length≤40∧(ats t j).un.length≤m)):=fun he j hj=>by
     rcases Nat.lt_or_eq_of_le (Nat.lt_succ_iff.1 hj) with h3 | h3
     ·exact hpre j h3
     ·rw[h3];exact he
    have i1:IntKind.i64.wrap ((k:Int)+1)=(k:Int)+1:=IntWalk.i64_in _ (by omega);have i2:(k:Int)<(N:Int):=by omega
    clear hc1 HALL HEQ hpre n1;generalize (ats t k).pub.length=P at *;generalize (ats t k).hash.length=H at *;generalize (ats t k).un.length=U at *;by_cases h1:P≤40
    ·have h1b:¬(40:Int)<(P:Int):=by omega
     by_cases h2:H≤40
     ·have h2b:¬(40:Int)<(H:Int):=by omega
      by_cases h3:U≤m
      ·have h3b:¬(m:Int)<(U:Int):=by omega
       have HP:=Lib.hid (HPRE.out ⟨h1,h2,h3⟩);clear HEQ2 HPRE;go_wp2_with fail;go_round
       case rel=>exact ⟨k+1,by omega,by go_num,HP.out⟩
       case measure=>simp[intOf];omega
      ·have h3b:(m:Int)<(U:Int):=by omega
       have HB:=Lib.hid (HEQ2 fun h=>h3 h.2.2);clear HEQ2 HPRE;go_wp2_with fail;go_ret;exact ⟨aav.no HB.out,rfl⟩
     ·have h2b:(40:Int)<(H:Int):=by omega
      have HB:=Lib.hid (HEQ2 fun h=>h2 h.2.1);clear HEQ2 HPRE;go_wp2_with fail;go_ret;exact ⟨aav.no HB.out,rfl⟩
    ·have h1b:(40:Int)<(P:Int):=by omega
     have HB:=Lib.hid (HEQ2 fun h=>h1 h.1);clear HEQ2 HPRE;go_wp2_with fail;go_ret;exact ⟨aav.no HB.out,rfl⟩
   ·obtain rfl:k=N:=by omega
    have HB:=Lib.hid (HALL.out hpre);clear HALL HEQ hpre;go_wp2_with fail;go_ret;exact ⟨aav.yes HB.out,rfl⟩
 ·have hne:(m:Int)<(t.length:Int):=by omega
  have HN:Hid (¬adN t m):=fun h=>hlen h.1
  clear hu hlen;go_enter Tryz.func39,Tryz.ntmps39;go_wp2_with fail;go_ret;exact ⟨aav.no HN.out,rfl⟩
theorem akL (u:Value)(t:List Nod)(m:Nat)(w:World)(hu:NL w u t)(hm:m≤100000):
  Calls Tryz.prog 10 #[u,.int .i64 (m:Int)] w fun e w'=>aav e (adN t m∧ac2 t)∧Kp w w':=by
 have HS:=Lib.hid (ajM u t m w hu hm);have HR:Hid (adN t m→Calls Tryz.prog 27 #[u] w fun e w'=>aav e (ac2 t)∧Kp w w'):=fun h=>aiz u t w hu (by have:=h.1;omega)
 obtain ⟨a1,c1,rfl,p1,s1⟩:=hu.shape;clear hu;generalize adN t m=SP at *;generalize ac2 t=RP at *;go_enter Tryz.func10,Tryz.ntmps10;go_wp2_with fail;refine HS.out.mono ?_;rintro _ _ ⟨⟨b,rfl,hb⟩,rfl⟩;cases b
 ·have HN:Hid (¬(SP∧RP)):=fun h=>by have:=hb.2 h.1;cases this
  clear hb HR;go_wp2_with fail;go_ret;exact ⟨aav.no HN.out,Kp.refl _⟩
 ·have hsp:=hb.1 rfl
  have HR2:=Lib.hid (HR.out hsp);have HB:=Lib.hid hsp;clear hb HR hsp;go_wp2_with fail;refine HR2.out.mono ?_;rintro _ w2 ⟨⟨b,rfl,hb⟩,k2⟩;have HBB:Hid (b=true↔SP∧RP):=⟨fun h=>⟨HB.out,hb.1 h⟩,fun h=>hb.2 h.2⟩;clear hb;go_wp2_with fail;go_ret;exact ⟨⟨b,rfl,HBB.out⟩,k2⟩
theorem ad2 (u:Value)(t:List Nod)(K j q:Nat)(w:World)(hu:NL w u t)(hr:aab t K)(hj:j≤K)(hq:q<2 ^ (K - j))(hk:(ats t (nd j q)).kind≠0):
  Calls Tryz.prog 36 #[u,.int .i64 ((nd j q:Nat):Int)] w fun e w'=>(∃ r,e=.returned r∧OI 3 w' w.heap.size r (((nd j q:Nat):Int) :: (ats t (nd j q)).un.map (2*·)))∧Kp w w':=by
 have S:=ad0;obtain ⟨_,s2,s3⟩:=aa4 hr.le hj hq;have hun:=fun i hi=>hr.unAt s2 s3 i hi
 have hul:=hr.un_len (nd j q);have hx:nd j q<t.length:=by rw[hr.len];exact ae8 hj hq
 obtain ⟨a,c,rfl,p1,s1⟩:=hu.shape;obtain ⟨b,off,rfl,hb,hc⟩:=hu.at (nd j q) hx;obtain ⟨p,uu,h,hn⟩:=hc (nd j q) hx;have c0:=hn.kind;have HC:=Lib.hid (fun W (hW:Kp w W)=>(hn.kp hW).unC);have HR:=Lib.hid hn.2.un;obtain ⟨aq,cq,rfl,u1,u2⟩:=hn.2.un.shape;unfold maxLen at u2;have hz1:=hr.small.1;generalize nd j q=X at *;have HV:Hid (∀ k,k<(ats t X).un.length→0≤(ats t X).un.getD k 0∧(ats t X).un.getD k 0≤2047):=fun k hk=>by
  have hg:(ats t X).un.getD k 0=(ats t X).un[k]:=by rw[List.getD_eq_getElem?_getD,List.getElem?_eq_getElem hk];rfl
  obtain ⟨v,e,_,h3⟩:=hun _ (List.getElem_mem hk);rw[hg,e];have:=aab.lt_of (t:=t) (x:=2*v) (by rw[h3];decide);omega
 have HT:Hid (∀ k,k<(ats t X).un.length→((X:Int) :: ((ats t X).un.take (k+1)).map (2*·))=((X:Int) :: ((ats t X).un.take k).map (2*·))++[2*(ats t X).un.getD k 0]):=fun k hk=>by
  rw[List.take_succ_eq_append_getElem hk,List.map_append,List.getD_eq_getElem?_getD,List.getElem?_eq_getElem hk];rfl
 have HTE:Hid (((X:Int) :: ((ats t X).un.take (ats t X).un.length).map (2*·))=((X:Int) :: (ats t X).un.map (2*·))):=by unfold Hid;rw[List.take_length]
 have HTL:Hid (∀ k,((X:Int) :: ((ats t X).un.take k).map (2*·)).length≤1025):=fun k=>by
  rw[List.length_cons,List.length_map,List.length_take];omega
 have hxb:((ats t X).kind==0)=false:=beq_eq_false_iff_ne.2 hk;obtain ⟨N,hN⟩:∃ N,t.length=N:=⟨_,rfl⟩;rw[hN] at p1 hx hz1 ⊢;have i2:(X:Int)<(N:Int):=by omega
 have i2b:decide ((N:Int)≤(X:Int))=false:=decide_eq_false (by omega);have i2c:¬(N:Int)≤(X:Int):=by omega
 generalize (ats t X).kind=KD at *;generalize (ats t X).un=UN at *;obtain ⟨U,hU⟩:∃ U,UN.length=U:=⟨_,rfl⟩;rw[hU] at HC HR HV HT HTE u1 hul;clear hu hr hj hq hc hn hN hun hU s2 s3 hb hz1;obtain ⟨F,hF⟩:∃ F:Nat→List Int,F=fun k=>((X:Int) :: (UN.take k).map (2*·)):=⟨_,rfl⟩
 have hFk:∀ k,((X:Int) :: (UN.take k).map (2*·))=F k:=fun k=>by rw[hF]
 have HF0:Hid ([(X:Int)]=F 0):=by unfold Hid;rw[hF];rfl
 simp only[hFk] at HT HTE HTL;generalize ((X:Int) :: UN.map (2*·))=OUT at *;clear hF hFk;go_enter Tryz.func36,Tryz.ntmps36;go_wp2_with fail;have HST:Hid (OI 3 (w.alloc (.cells #[.int .i64 (X:Int)] 3)) w.heap.size (.slice (some ⟨w.heap.size,0,none⟩) 1 1) (F 0)):=by
  rw[← HF0.out];exact RI.lit w 3 #[.int .i64 (X:Int)] [(X:Int)] 1 rfl (by omega) rfl
 go_loopw[5,6] (fun v i wr=>∃ k:Nat,k≤U∧i=.int .i64 (k:Int)∧OI 3 wr w.heap.size v (F k)∧Kp w wr) (fun _ i _=>(U - (intOf i).toNat))
 case atStart=>exact ⟨0,Nat.zero_le _,rfl,HST.out,(Kp.refl _).alloc _⟩
 case round=>
  obtain ⟨k,hk,rfl,ho,hkp⟩:=hrel;have c3:=HC.out wr hkp;have i1:IntKind.i64.wrap ((k:Int)+1)=(k:Int)+1:=IntWalk.i64_in _ (by omega);by_cases hlt:k<U
  ·obtain ⟨g1,o1,rfl,_,hc1⟩:=(HR.out.kp hkp).at k hlt
   have d1:=hc1 k hlt;obtain ⟨v0,v1⟩:=HV.out k hlt;have HT1:=Lib.hid (HT.out k hlt);have hfl:=HTL.out k;have hsz:=hkp.size;have i4:IntKind.i64.wrap (2*UN.getD k 0)=2*UN.getD k 0:=IntWalk.i64_in _ (by omega);clear HC HR HV HT HTE HTL hc1 HF0 HST;generalize UN.getD k 0=V at *;generalize F k=FK at *;go_wp2_with (at_builtin;refine aaw (o:=⟨some 48,_,_,_,_,_⟩) S rfl _ _ rfl w.heap.size _ FK rfl (ho.kp ((Kp.refl wr).alloc _)) _ [2*V] rfl (OI.lit1 wr 3 (2*V)) (by simp;omega) (by simp;omega) ?_;intro v5 w5 o5 g5;have k5:Kp w w5:=Kp.grown (hkp.alloc _) g5 ho.own_ge)
   go_roundw
   case rel=>exact ⟨k+1,by omega,by go_num,by rw[HT1.out];exact o5,k5⟩
   case measure=>simp[intOf];omega
  ·obtain rfl:k=U:=by omega
   rw[HTE.out] at ho;have HO:=Lib.hid (And.intro ho hkp);obtain ⟨a5,n5,c5,rfl⟩:=ho.ri.sl;clear ho hkp HTE HT HTL HV HF0 HST HC HR;go_wp2_with fail;go_ret;exact ⟨⟨_,rfl,HO.out.1⟩,HO.out.2⟩
theorem akM {l:List Int}(lo:Int)(n:Nat)(h:l.Pairwise (·<·))(hl:∀ i∈l,lo≤i∧i<lo+n):l.length≤n:=by
 have key:∀ k (hk:k<l.length),lo+(k:Int)≤l[k]:=by
  intro k;induction k with
  | zero=>intro hk;have:=(hl _ (List.getElem_mem hk)).1;omega
  | succ k ih=>
   intro hk;have h1:=ih (by omega);have h2:=(List.pairwise_iff_getElem.1 h) k (k+1) (by omega) hk (by omega);omega
 by_cases h0:l.length=0
 ·omega
 ·have h1:=key (l.length - 1) (by omega)
  have h2:=(hl _ (List.getElem_mem (show l.length - 1<l.length by omega))).2;omega
theorem agQ {t:List Nod}{K:Nat}(h:aab t K):∀ (j q:Nat),j≤K→q<2 ^ (K - j)→(resF t j q).length≤2 ^ (j+1):=by
 have hfull:∀ (j q:Nat),j≤K→q<2 ^ (K - j)→(((nd j q:Nat):Int) :: (ats t (nd j q)).un.map (2*·)).length≤2 ^ (j+1):=by
  intro j q hj hq
  obtain ⟨_,s2,s3⟩:=aa4 h.le hj hq
  have hp:=aaj j
  have hp1:=aaC j
  rw[List.length_cons,List.length_map]
  have:(ats t (nd j q)).un.length≤2 ^ j:=by
   rcases h.okA (nd j q) with h1 | ⟨h1,h2,h3,h4,h5⟩
   ·rw[h1];exact Nat.zero_le _
   ·by_cases e:(ats t (nd j q)).kind=1
    ·rw[h4 e];exact Nat.zero_le _
    ·have h6:=(h5 (by omega)).2
     obtain ⟨l1,l2⟩:=am0 s2 s3
     rw[l1,l2] at h6
     refine akM ((2 ^ j*q:Nat):Int) _ h6.1 fun i hi=>?_
     have:=h6.2 i hi
     omega
  omega
 intro j
 induction j with
 | zero=>
  intro q hj hq
  unfold resF
  split
  ·exact Nat.zero_le _
  ·exact hfull 0 q hj hq
 | succ j ih=>
  intro q hj hq
  have e9:K - j=(K - (j+1))+1:=by omega
  have hp:=aaj (K - (j+1))
  rw[← e9] at hp
  show (if (ats t (nd (j+1) q)).kind=0 then _ else _:List Int).length≤_
  split
  ·rw[List.length_append]
   have h1:=ih (2*q) (by omega) (by omega)
   have h2:=ih (2*q+1) (by omega) (by omega)
   have h3:=aaj (j+1)
   omega
  ·exact hfull (j+1) q hj hq
theorem aiI (u:Value)(t:List Nod)(K:Nat)(hr:aab t K):∀ (j q:Nat) (w:World),NL w u t→j≤K→q<2 ^ (K - j) →
  Calls Tryz.prog 36 #[u,.int .i64 ((nd j q:Nat):Int)] w fun e w'=>(∃ r,e=.returned r∧OI 3 w' w.heap.size r (resF t j q))∧Kp w w':=by
 intro j
 induction j with
 | zero=>
  intro q w hu hj hq
  by_cases hk:(ats t (nd 0 q)).kind=0
  ·have e:resF t 0 q=[]:=by unfold resF;rw[if_pos hk]
   rw[e]
   have hx:nd 0 q<t.length:=by rw[hr.len];exact ae8 hj hq
   obtain ⟨a,c,rfl,p1,s1⟩:=hu.shape
   obtain ⟨b,off,rfl,hb,hc⟩:=hu.at (nd 0 q) hx
   obtain ⟨p,uu,h,hn⟩:=hc (nd 0 q) hx
   have c0:=hn.kind
   rw[hk] at c0
   have i2:((nd 0 q:Nat):Int)<(t.length:Int):=by omega
   have i3:=aqE (nd 0 q)
   have i4:((nd 0 q:Nat):Int) % 2=0:=by have:=agh q;omega
   rw[i4] at i3
   generalize nd 0 q=X at *
   generalize t.length=N at *
   clear hc hn hu hr e hb hq hj i4
   go_enter Tryz.func36,Tryz.ntmps36
   go_wp2_with fail
   go_ret
   exact ⟨⟨_,rfl,OI.nil _ _ _⟩,Kp.refl _⟩
  ·have e:resF t 0 q=(((nd 0 q:Nat):Int) :: (ats t (nd 0 q)).un.map (2*·)):=by unfold resF;rw[if_neg hk]
   rw[e]
   exact ad2 u t K 0 q w hu hr hj hq hk
 | succ j ih=>
  intro q w hu hj hq
  by_cases hk:(ats t (nd (j+1) q)).kind=0
  ·have S:=ad0
   have e:resF t (j+1) q=resF t j (2*q)++resF t j (2*q+1):=by
    show (if (ats t (nd (j+1) q)).kind=0 then _ else _)=_
    rw[if_pos hk]
   rw[e]
   have e9:K - j=(K - (j+1))+1:=by omega
   have hp:=aaj (K - (j+1))
   rw[← e9] at hp
   have H1:=Lib.hid (fun W (hW:Kp w W)=>ih (2*q) W (hu.kp hW) (by omega) (by omega))
   have H2:=Lib.hid (fun W (hW:Kp w W)=>ih (2*q+1) W (hu.kp hW) (by omega) (by omega))
   obtain ⟨_,s2,s3⟩:=aa4 hr.le hj hq
   obtain ⟨f1,f2,f3⟩:=adC (j:=j) (q:=q) s2 s3
   have HLF:=Lib.hid (ads ((nd (j+1) q:Nat):Int) w)
   have HRT:=Lib.hid (acR ((nd (j+1) q:Nat):Int) w)
   rw[f1,f2] at HLF
   rw[f1,f3] at HRT
   have hlen:(resF t j (2*q)).length+(resF t j (2*q+1)).length≤1000000:=by
    have h1:=agQ hr j (2*q) (by omega) (by omega)
    have h2:=agQ hr j (2*q+1) (by omega) (by omega)
    have h3:2 ^ (j+1)≤1024:=acc (by have:=hr.le;omega)
    omega
   have hx:nd (j+1) q<t.length:=by rw[hr.len];exact ae8 hj hq
   obtain ⟨a,c,rfl,p1,s1⟩:=hu.shape
   obtain ⟨b,off,rfl,hb,hc⟩:=hu.at (nd (j+1) q) hx
   obtain ⟨p,uu,h,hn⟩:=hc (nd (j+1) q) hx
   have c0:=hn.kind
   rw[hk] at c0
   have i2:((nd (j+1) q:Nat):Int)<(t.length:Int):=by omega
   have i3:=aqE (nd (j+1) q)
   have i4:((nd (j+1) q:Nat):Int) % 2=1:=by have:=afx j q;omega
   rw[i4] at i3
   generalize nd (j+1) q=X at *
   generalize nd j (2*q)=XL at *
   generalize nd j (2*q+1)=XR at *
   generalize resF t j (2*q)=RL9 at *
   generalize resF t j (2*q+1)=RR9 at *
   generalize t.length=N at *
   clear hc hn hu hr e hb hq hj i4 e9 hp s2 s3 f1 f2 f3 ih hx
   go_enter Tryz.func36,Tryz.ntmps36
   go_wp2_with fail
   refine HLF.out.mono ?_;rintro _ _ ⟨rfl,rfl⟩
   go_wp2_with fail
   refine HRT.out.mono ?_;rintro _ _ ⟨rfl,rfl⟩
   clear HLF HRT
   go_wp2_with fail
   refine (H1.out w (Kp.refl _)).mono ?_;rintro _ w1 ⟨⟨r1,rfl,o1⟩,k1⟩
   have K1:=Lib.hid k1
   have O1:=Lib.hid o1
   obtain ⟨x5,n5,c5,rfl⟩:=o1.ri.sl
   clear H1 o1
   go_wp2_with fail
   refine (H2.out w1 K1.out).mono ?_;rintro _ w2 ⟨⟨r2,rfl,o2⟩,k2⟩
   have hsz:=(K1.out.trans k2).size
   go_wp2_with (at_builtin;refine aaw (o:=⟨some 69,_,_,_,_,_⟩) S rfl _ _ rfl w.heap.size _ RL9 rfl (O1.out.kp k2) _ RR9 rfl o2.ri hlen (by omega) ?_;intro v5 w5 o5 g5;have k5:Kp w w5:=Kp.grown (K1.out.trans k2) g5 O1.out.own_ge)
   have O5:=Lib.hid (And.intro o5 k5)
   obtain ⟨x6,n6,c6,rfl⟩:=o5.ri.sl
   clear H2 o2 k2 o5 g5 k5 O1
   go_wp2_with fail
   go_ret
   exact ⟨⟨_,rfl,O5.out.1⟩,O5.out.2⟩
  ·have e:resF t (j+1) q=(((nd (j+1) q:Nat):Int) :: (ats t (nd (j+1) q)).un.map (2*·)):=by
    show (if (ats t (nd (j+1) q)).kind=0 then _ else _)=_
    rw[if_neg hk]
   rw[e]
   exact ad2 u t K (j+1) q w hu hr hj hq hk
theorem ahp (u:Value)(t:List Nod)(K:Nat)(x:Int)(w:World)(hu:NL w u t)(hr:aab t K):
  Calls Tryz.prog 36 #[u,.int .i64 x] w fun e w'=>(∃ r,e=.returned r∧OI 3 w' w.heap.size r (resV t x))∧Kp w w':=by
 by_cases h0:0≤x
 ·obtain ⟨y,rfl⟩:=Int.eq_ofNat_of_zero_le h0
  by_cases h1:y<t.length
  ·obtain ⟨j,q,rfl,hj,hq⟩:=ahh K y (by rw[← hr.len];exact h1)
   rw[alf hr hj hq];exact aiI u t K hr j q w hu hj hq
  ·have e:resV t (y:Int)=[]:=if_neg (by omega)
   have i1:¬(y:Int)<0:=by omega
   have i2:(t.length:Int)≤(y:Int):=by omega
   rw[e];obtain ⟨a,c,rfl,p1,s1⟩:=hu.shape;clear hu hr e h1;go_enter Tryz.func36,Tryz.ntmps36;go_wp2_with fail;go_ret;exact ⟨⟨_,rfl,OI.nil _ _ _⟩,Kp.refl _⟩
 ·have e:resV t x=[]:=if_neg (fun h=>h0 h.1)
  have i1:x<0:=by omega
  rw[e];obtain ⟨a,c,rfl,p1,s1⟩:=hu.shape;clear hu hr e;go_enter Tryz.func36,Tryz.ntmps36;go_wp2_with fail;go_ret;exact ⟨⟨_,rfl,OI.nil _ _ _⟩,Kp.refl _⟩
end Go.Proofs.YthmhklmkgkfcpaaGreatDoor

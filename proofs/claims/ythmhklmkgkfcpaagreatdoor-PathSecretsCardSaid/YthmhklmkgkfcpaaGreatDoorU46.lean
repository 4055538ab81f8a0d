import Derived.Test.YthmhklmkgkfcpaaGreatDoorU18
import Derived.Test.YthmhklmkgkfcpaaGreatDoorU19
import Derived.Test.YthmhklmkgkfcpaaGreatDoorU26
import Derived.Test.YthmhklmkgkfcpaaGreatDoorU27
import Derived.Test.YthmhklmkgkfcpaaGreatDoorU28
import Derived.Test.YthmhklmkgkfcpaaGreatDoorU30
import Derived.Test.YthmhklmkgkfcpaaGreatDoorU32
import Derived.Test.YthmhklmkgkfcpaaGreatDoorU35
import Derived.Test.YthmhklmkgkfcpaaGreatDoorU36
import Derived.Test.YthmhklmkgkfcpaaGreatDoorU39
import Derived.Test.YthmhklmkgkfcpaaGreatDoorU42
import Derived.Test.YthmhklmkgkfcpaaGreatDoorU44
import Derived.Test.YthmhklmkgkfcpaaGreatDoorU45
set_option linter.unusedVariables false
set_option linter.unusedSimpArgs false
set_option maxHeartbeats 8000000
set_option maxRecDepth 100000
namespace Go.Proofs.YthmhklmkgkfcpaaGreatDoor
open Go.RowKit Go.Maps
theorem ak5 (arO v1 v2 v3:Value)(t:List Nod)(K:Nat)(i:Int)(seed secret info:List UInt8)(w:World)(hu:NL w arO t)(hr:aab t K)(h1:Rd w v1 seed)(h2:Rd w v2 secret)(h3:Rd w v3 info)(hno:aet t i seed secret≠0):
  Calls Tryz.prog 20 #[arO,.int .i64 i,v1,v2,v3] w fun e w'=>(∃ v,e=.returned (.tuple #[v,.int .i64 (aet t i seed secret)])∧MV w' v noMd)∧Kp w w':=by
 obtain ⟨z1,z2,z3⟩:=hr.small;have HWO:=Lib.hid (fun (hn:¬aar t i) W (hW:Kp w W)=>ad7 arO t K i W (hu.kp hW) hr hn);obtain ⟨a,c,rfl,_,_⟩:=hu.shape;obtain ⟨a1,c1,rfl,_,_⟩:=h1.shape;obtain ⟨a2,c2,rfl,_,_⟩:=h2.shape;obtain ⟨a3,n3,c3,rfl⟩:=aac h3;obtain ⟨w1,hw1⟩:∃ w1,w.alloc (.cells #[.slice none 0 0,.slice none 0 0,.slice none 0 0,.slice none 0 0,.slice none 0 0] 47)=w1:=⟨_,rfl⟩;have hb:Bx w1 w.heap.size 47 #[.slice none 0 0,.slice none 0 0,.slice none 0 0,.slice none 0 0,.slice none 0 0]:=by rw[← hw1];exact Bx.new w _ _
 have HK1:Hid (Kp w w1):=by unfold Hid;rw[← hw1];exact (Kp.refl _).alloc _
 have HB:=Lib.hid hb;have HW1:=Lib.hid hw1;have hE:aet t i seed secret=if seed.length=32∧secret.length=32 then acE t i else 1:=rfl
 generalize t.length=N at *;clear hu hr hb hw1 z1 z2 z3 h3;by_cases q1:seed.length=32
 ·by_cases q2:secret.length=32
  ·rw[if_pos ⟨q1,q2⟩] at hE
   have hth:¬aar t i:=fun h=>hno (by rw[hE];unfold acE;rw[if_pos h])
   have hE2:aet t i seed secret=11:=by rw[hE];unfold acE;rw[if_neg hth]
   have HWOJ:=Lib.hid (HWO.out hth w1 HK1.out);rw[hE2,q1,q2];clear hE hno hth hE2 h1 h2 q1 q2 HWO;go_enter Tryz.func20,Tryz.ntmps20;go_wp2_with fail;rw[HW1.out];refine HWOJ.out.mono ?_;rintro _ w2 ⟨rfl,k2⟩;have HB2:=Lib.hid (HB.out.kp k2);have K2:=Lib.hid (HK1.out.trans k2);clear k2;have HB3:=Lib.hid (HB2.out.kp ((Kp.refl w2).alloc (.cells #[.slice none 0 0,.int .i64 0,.slice none 0 0,.slice none 0 0] 95)));have K3:Hid (Kp w (w2.alloc (.cells #[.slice none 0 0,.int .i64 0,.slice none 0 0,.slice none 0 0] 95))):=K2.out.alloc _;go_wp2_with (refine aam rfl rfl 47 (.tmp 10) (.tmp 40) rfl w.heap.size 47 _ #[.slice none 0 0,.slice none 0 0,.slice none 0 0,.slice none 0 0,.slice none 0 0] rfl rfl HB3.out rfl one5 aaY ?_;intro w3 hb3 g3 hk3)
   have hk:=hk3 w K3.out (Nat.le_refl _);refine bodyPost_ret (aao rfl _ _ w.heap.size _ _ (0,0) _ _ rfl hb3 Tryz.underlying47 rfl aaY rfl) rfl ?_;exact ⟨⟨_,rfl,_,_,_,_,_,rfl,MIn.none _⟩,hk⟩
  ·rw[if_neg fun h=>q2 h.2] at hE
   have hne:((secret.length:Int)==32)=false:=beq_eq_false_iff_ne.2 (by omega);have hne2:((secret.length:Int) != 32)=true:=bne_iff_ne.2 (by omega);have hne3:¬(secret.length:Int)=32:=by omega
   rw[hE,q1];clear hno hE h1 h2 q1 HWO;go_enter Tryz.func20,Tryz.ntmps20;rw[← HW1.out] at HB HK1;go_wp2_with (refine aam rfl rfl 47 (.tmp 10) (.tmp 31) rfl w.heap.size 47 _ #[.slice none 0 0,.slice none 0 0,.slice none 0 0,.slice none 0 0,.slice none 0 0] rfl rfl HB.out rfl one5 aaY ?_;intro w3 hb3 g3 hk3)
   have hk:=hk3 w HK1.out (Nat.le_refl _);refine bodyPost_ret (aao rfl _ _ w.heap.size _ _ (0,0) _ _ rfl hb3 Tryz.underlying47 rfl aaY rfl) rfl ?_;exact ⟨⟨_,rfl,_,_,_,_,_,rfl,MIn.none _⟩,hk⟩
 ·rw[if_neg fun h=>q1 h.1] at hE
  have hne:((seed.length:Int)==32)=false:=beq_eq_false_iff_ne.2 (by omega);have hne2:((seed.length:Int) != 32)=true:=bne_iff_ne.2 (by omega);have hne3:¬(seed.length:Int)=32:=by omega
  rw[hE];clear hno hE h1 h2 HWO;go_enter Tryz.func20,Tryz.ntmps20;rw[← HW1.out] at HB HK1;go_wp2_with (refine aam rfl rfl 47 (.tmp 10) (.tmp 31) rfl w.heap.size 47 _ #[.slice none 0 0,.slice none 0 0,.slice none 0 0,.slice none 0 0,.slice none 0 0] rfl rfl HB.out rfl one5 aaY ?_;intro w3 hb3 g3 hk3)
  have hk:=hk3 w HK1.out (Nat.le_refl _);refine bodyPost_ret (aao rfl _ _ w.heap.size _ _ (0,0) _ _ rfl hb3 Tryz.underlying47 rfl aaY rfl) rfl ?_;exact ⟨⟨_,rfl,_,_,_,_,_,rfl,MIn.none _⟩,hk⟩
end Go.Proofs.YthmhklmkgkfcpaaGreatDoor
namespace Go.Proofs.YthmhklmkgkfcpaaGreatDoor
open Go.RowKit
theorem afT (arO v1 v2 v3:Value)(t:List Nod)(K:Nat)(i:Int)(seed secret info:List UInt8)(w:World)(hu:NL w arO t)(hr:aab t K)(hT:aaZ t K)(h1:Rd w v1 seed)(h2:Rd w v2 secret)(h3:Rd w v3 info)(hil:info.length≤1400)(hTab:Tab w):
  Calls Tryz.prog 20 #[arO,.int .i64 i,v1,v2,v3] w fun e w'=>(∃ v,e=.returned (.tuple #[v,.int .i64 (aet t i seed secret)])∧MV w' v (abC t K i seed secret info))∧Kp w w':=by
 by_cases h:aet t i seed secret=0
 ·have h':=h
  unfold aet at h';by_cases hq:seed.length=32∧secret.length=32
  ·rw[if_pos hq] at h'
   unfold acE at h';have hth:aar t i:=by
    by_cases hth:aar t i
    ·exact hth
    ·rw[if_neg hth] at h';cases h'
   obtain ⟨k,rfl,hk,hkind,hk2⟩:=ada hr hth;unfold abC;rw[if_pos h,h,Int.toNat_natCast];exact aj7 arO v1 v2 v3 t K k seed secret info w hu hr hT h1 h2 h3 hkind hq.1 hq.2 hil hTab
  ·rw[if_neg hq] at h'
   cases h'
 ·unfold abC
  rw[if_neg h];exact ak5 arO v1 v2 v3 t K i seed secret info w hu hr h1 h2 h3 h
def secL:ByteArray:=⟨#[115,101,99,114,101,116]⟩
def secN (n:UInt8):List UInt8:=derB [n] secL.data.toList
theorem abh (n:UInt8):(secN n).length=32:=acP _ _
theorem afV (n:UInt8)(w:World):Calls Tryz.prog 26 #[.int .u8 (n.toNat:Int)] w fun e w'=>(∃ r,e=.returned r∧Rd w' r (secN n)∧aaN w.heap.size r)∧Kp w w':=by
 have HO:=Lib.hid (fun W v (hv:Rd W v [n])=>ah6 v secL [n] W hv (by decide) (by simp));have HL:Hid (Rd (w.alloc (.cells #[.int .u8 (n.toNat:Int)] 5)) (.slice (some ⟨w.heap.size,0,none⟩) 1 1) [n]):=(Ow.lit w 5 w.heap.size 1 #[.int .u8 (n.toNat:Int)] [n] (Nat.le_refl _) rfl (by decide) rfl).rd;go_enter Tryz.func26,Tryz.ntmps26;go_wp2_with fail;refine (HO.out _ _ HL.out).mono ?_;rintro _ w2 ⟨⟨v,rfl,r2,n2⟩,k2⟩;have R2:=Lib.hid r2;have N2:Hid (aaN w.heap.size v):=fun g hg=>by have:=n2 g hg;simp at this;omega
 have K2:Hid (Kp w w2):=((Kp.refl w).alloc _).trans k2;clear r2 n2 k2;go_wp2_with fail;go_ret;exact ⟨⟨_,rfl,R2.out,N2.out⟩,K2.out⟩
theorem ai6 (w:World)(hTAB:Tab w):Calls Tryz.prog 9 #[] w fun e w'=>e=.returned (.bool true)∧Kp w w':=by
 have HTAB:=Lib.hid hTAB;clear hTAB;have l1:(pubB (secN 1)).length=32:=aaM _;have l2:(pubB (secN 2)).length=32:=aaM _;obtain ⟨f1,f2,f3,f4,f5,f6,f7,f8⟩:=ah4 (p1:=pubB (secN 1)) (p2:=pubB (secN 2));have hr:=ame l1 l2;have hT:aaZ (TS11 (pubB (secN 1)) (pubB (secN 2))) 1:=hr.tidy (amf l1 l2);obtain ⟨hs1,hs0⟩:=amg (p1:=pubB (secN 1)) (p2:=pubB (secN 2)) (abh 2) rfl;have hbk:=an2 (i:=0) (me:=1) (seed:=secN 3) (secret:=secN 4) [] hr f1 (by decide) hs1 (abh 3) (abh 4);have hsm:=amp (t:=TS11 (pubB (secN 1)) (pubB (secN 2))) (K:=1) (i:=0) (secret:=secN 4) (secN 3) [] hr (by decide) (abh 4);have hmf:=abS (TS11 (pubB (secN 1)) (pubB (secN 2))) 1 0 (secN 3) (secN 4) [];rw[f5] at hmf;have hmE:aet (TS11 (pubB (secN 1)) (pubB (secN 2))) 0 (secN 3) (secN 4)=0:=by
  unfold aet;rw[if_pos ⟨abh 3,abh 4⟩];unfold acE;rw[if_pos f7]
 have hmP:(abC (TS11 (pubB (secN 1)) (pubB (secN 2))) 1 0 (secN 3) (secN 4) []).path=aaR (TS11 (pubB (secN 1)) (pubB (secN 2))) 1 0 (secN 3) (secN 4) []:=by unfold abC;rw[if_pos hmE];rfl
 have hmL:(abC (TS11 (pubB (secN 1)) (pubB (secN 2))) 1 0 (secN 3) (secN 4) []).last.length=32:=by unfold abC;rw[if_pos hmE];exact ab8 (abh 4) _
 have HSEC:Hid (∀ (n:UInt8) W,Calls Tryz.prog 26 #[.int .u8 (n.toNat:Int)] W fun e w'=>(∃ r,e=.returned r∧Rd w' r (secN n))∧Kp W w'):=fun n W=>(afV n W).mono fun e w' ⟨⟨r,h1,h2,_⟩,k⟩=>⟨⟨r,h1,h2⟩,k⟩
 have HHA:Hid (∀ (n:UInt8) W v,Rd W v (secN n)→Calls Tryz.prog 33 #[v] W fun e w'=>(∃ r,e=.returned r∧Rd w' r (pubB (secN n)))∧Kp W w'):=fun n W v hv=>by
  have:=ahb v (secN n) W hv;rwa [(abQ (abh n)).2] at this
 have HNEW:Hid (∀ W v,Rd W v (pubB (secN 1))→Calls Tryz.prog 37 #[.int .i64 1,v] W fun e w'=>(∃ r,e=.returned (.tuple #[r,.int .i64 0])∧NL w' r [aag 1 (pubB (secN 1))])∧Kp W w'):=fun W v hv=>by
  have:=akC 1 v (pubB (secN 1)) W hv;rwa [(aiF l1).1,(aiF l1).2] at this
 have HADD:Hid (∀ W arO v,NL W arO [aag 1 (pubB (secN 1))]→Rd W v (pubB (secN 2))→Calls Tryz.prog 38 #[arO,.int .i64 2,v] W fun e w'=>(∃ r,e=.returned (.tuple #[r,.int .i64 1,.int .i64 0])∧NL w' r (TS11 (pubB (secN 1)) (pubB (secN 2))))∧Kp W w'):=fun W arO v hu hv=>by
  have:=akK arO v [aag 1 (pubB (secN 1))] 0 2 (pubB (secN 2)) W hu hv (akF l1);rwa [(aiG l1 l2).1,(aiG l1 l2).2.1,(aiG l1 l2).2.2] at this
 generalize hTT:TS11 (pubB (secN 1)) (pubB (secN 2))=T at *;generalize hMM:abC T 1 0 (secN 3) (secN 4) []=MD at *;generalize hPP:aaR T 1 0 (secN 3) (secN 4) []=MP at *;have hbk1:adt T 1 0 1 [⟨2,secN 2⟩] [] MP=0∧(adu T 1 0 1 [⟨2,secN 2⟩] [] MP).tree=MD.tree∧(adu T 1 0 1 [⟨2,secN 2⟩] [] MP).last=MD.last∧(adu T 1 0 1 [⟨2,secN 2⟩] [] MP).path=MP:=⟨hbk.1,hbk.2.2.1,hbk.2.2.2.1,hbk.2.2.2.2.trans hmP⟩;have HMK:Hid (∀ W arO v1 v2,NL W arO T→Rd W v1 (secN 3)→Rd W v2 (secN 4)→Tab W→Calls Tryz.prog 20 #[arO,.int .i64 0,v1,v2,.slice none 0 0] W fun e w'=>(∃ v,e=.returned (.tuple #[v,.int .i64 0])∧MV w' v MD)∧Kp W w'):=fun W arO v1 v2 hu h1 h2 hTb=>by
  have:=afT arO v1 v2 (.slice none 0 0) T 1 0 (secN 3) (secN 4) [] W hu hr hT h1 h2 (aaP W) (by simp) hTb;rwa [hmE,hMM] at this
 obtain ⟨TD,hTD⟩:∃ TD,adu T 1 0 1 [⟨2,secN 2⟩] [] MP=TD:=⟨_,rfl⟩;rw[hTD] at hbk1;have HTK:Hid (∀ W arO v x y,NL W arO T→SL W v [⟨2,secN 2⟩]→PIn W x y MP→Tab W→Calls Tryz.prog 23 #[arO,.int .i64 0,.int .i64 1,v,.slice none 0 0,.agg #[x,y]] W fun e w'=>(∃ v,e=.returned (.tuple #[v,.int .i64 0])∧MV w' v TD)∧Kp W w'):=fun W arO v x y hu hv hp hTb=>by
  have:=akb arO v (.slice none 0 0) x y T 1 0 1 [⟨2,secN 2⟩] [] MP W hu hr hT hv (aaP W) hp hs1 (by simp) (by simp) hsm.1 hsm.2 hTb;rwa [hbk1.1,hTD] at this
 have HND:Hid (∀ W arO,NL W arO T→Tab W→Calls Tryz.prog 13 #[arO,.int .i64 1] W fun e w'=>(∃ v,e=.returned (.tuple #[v,.int .i64 0])∧RN w' v [1])∧Kp W w'):=fun W arO hu hTb=>by
  have:=ae2 arO T 1 1 W hu hr hTb;have e2:afF T 1 1=[1]:=by unfold afF;rw[if_pos f8];exact f4
  rwa [f6,e2] at this
 have HSA:Hid (∀ W arO v,NL W arO MD.tree→NL W v MD.tree→Calls Tryz.prog 28 #[arO,v] W fun e w'=>e=.returned (.bool true)∧Kp W w'):=fun W arO v hu hv=>by
  refine (ajL arO v _ _ W hu hv).mono ?_;rintro _ w' ⟨⟨b,rfl,hb⟩,hk⟩;rw[hb.2 rfl];exact ⟨rfl,hk⟩
 have HSM:Hid (∀ W arO v l,Rd W arO l→Rd W v l→Calls Tryz.prog 29 #[arO,v] W fun e w'=>e=.returned (.bool true)∧W=w'):=fun W arO v l hu hv=>by
  have:=af6 arO v l l W hu hv;rwa [decide_eq_true rfl] at this
 have HIN:Hid (∀ W arO v,RI W arO [1]→RI W v [1]→Calls Tryz.prog 15 #[arO,v] W fun e w'=>e=.returned (.bool true)∧Kp W w'):=fun W arO v hu hv=>by
  have:=afI arO v [1] [1] W hu hv;rwa [decide_eq_true rfl] at this
 have hw:∀ k,k<[(⟨2,secN 2⟩:Sd)].length→-9223372036854775808≤(sdAt [(⟨2,secN 2⟩:Sd)] k).node∧(sdAt [(⟨2,secN 2⟩:Sd)] k).node≤9223372036854775807:=fun k hk=>by
  have:k=0:=by simp at hk;omega
  subst this;exact ⟨(show (-9223372036854775808:Int)≤2 by decide),(show (2:Int)≤9223372036854775807 by decide)⟩
 have HR1:Hid (∀ W arO v,NL W arO T→SL W v [⟨2,secN 2⟩]→Tab W→Calls Tryz.prog 16 #[arO,.int .i64 1,v] W fun e w'=>e=.returned (.bool true)∧Kp W w'):=fun W arO v hu hv hTb=>by
  refine (ae3 arO v T [⟨2,secN 2⟩] 1 1 W hu hv hr (by simp) hw hTb).mono ?_;rintro _ w' ⟨⟨b,rfl,hb⟩,hk⟩;rw[hb.2 hs1];exact ⟨rfl,hk⟩
 have HR0:Hid (∀ W arO v,NL W arO T→SL W v [⟨2,secN 2⟩]→Tab W→Calls Tryz.prog 16 #[arO,.int .i64 0,v] W fun e w'=>e=.returned (.bool false)∧Kp W w'):=fun W arO v hu hv hTb=>by
  refine (ae3 arO v T [⟨2,secN 2⟩] 1 0 W hu hv hr (by simp) hw hTb).mono ?_;rintro _ w' ⟨⟨b,rfl,hb⟩,hk⟩;cases b
  ·exact ⟨rfl,hk⟩
  ·exact absurd (hb.1 rfl) hs0
 have HPS:Hid (∀ W x y x' y',PIn W x y MP→PIn W x' y' MP→Calls Tryz.prog 18 #[.agg #[x,y],.agg #[x',y']] W fun e w'=>e=.returned (.bool true)∧Kp W w'):=fun W x y x' y' h1 h2=>by
  refine (afU x y x' y' MP MP W h1 h2).mono ?_;rintro _ w' ⟨⟨b,rfl,hb⟩,hk⟩;rw[hb.2 rfl];exact ⟨rfl,hk⟩
 have hlen1:MP.step.length=1:=hmf.1;have HPN:Hid (∀ W x y,PIn W x y MP→Calls Tryz.prog 18 #[.agg #[x,y],.agg #[.slice none 0 0,.slice none 0 0]] W fun e w'=>e=.returned (.bool false)∧Kp W w'):=fun W x y h1=>by
  refine (afU x y _ _ MP ⟨[],[]⟩ W h1 ⟨aaP W,arM.nil W⟩).mono ?_;rintro _ w' ⟨⟨b,rfl,hb⟩,hk⟩;cases b
  ·exact ⟨rfl,hk⟩
  ·have:=hb.1 rfl
   rw[this] at hlen1;cases hlen1
 have hfor1:(stAt MP.step 0).fors.length=1:=(hmf.2.2 0 (by decide)).1;have HL:=Lib.hid (And.intro hlen1 (And.intro hfor1 (And.intro hmL (And.intro hmP hbk1))));clear f1 f2 f3 f4 f5 f6 f7 f8 hr hT hs1 hs0 hbk hsm hmf hmE hmP hmL l1 l2 hbk1 hw hlen1 hfor1 hTT hMM hPP hTD;have n1:=HSEC.out 1;have n2:=HSEC.out 2;have n3:=HSEC.out 3;have n4:=HSEC.out 4;rw[show (((1:UInt8).toNat:Nat):Int)=1 from rfl] at n1;rw[show (((2:UInt8).toNat:Nat):Int)=2 from rfl] at n2;rw[show (((3:UInt8).toNat:Nat):Int)=3 from rfl] at n3;rw[show (((4:UInt8).toNat:Nat):Int)=4 from rfl] at n4;have N1:=Lib.hid n1;have N2:=Lib.hid n2;have N3:=Lib.hid n3;have N4:=Lib.hid n4;clear n1 n2 n3 n4 HSEC;go_enter Tryz.func9,Tryz.ntmps9;go_wp2_with fail;refine (N1.out w).mono ?_;rintro _ w1 ⟨⟨r1,rfl,s1⟩,k1⟩;have R1:=Lib.hid s1;have K1:=Lib.hid k1;clear s1 k1 N1;go_wp2_with fail;refine (HHA.out 1 w1 _ R1.out).mono ?_;rintro _ w2 ⟨⟨r2,rfl,s2⟩,k2⟩;have R2:=Lib.hid s2;have K2:=Lib.hid (K1.out.trans k2);clear s2 k2 R1 K1;go_wp2_with fail;refine (HNEW.out w2 _ R2.out).mono ?_;rintro _ w3 ⟨⟨r3,rfl,s3⟩,k3⟩;have U3:=Lib.hid s3;have K3:=Lib.hid (K2.out.trans k3);clear s3 k3 R2 K2 HNEW;go_wp2_with fail;refine (N2.out w3).mono ?_;rintro _ w4 ⟨⟨r4,rfl,s4⟩,k4⟩;have R4:=Lib.hid s4;have U4:=Lib.hid (U3.out.kp k4);have K4:=Lib.hid (K3.out.trans k4);clear s4 k4 U3 K3;go_wp2_with fail;refine (HHA.out 2 w4 _ R4.out).mono ?_;rintro _ w5 ⟨⟨r5,rfl,s5⟩,k5⟩;have R5:=Lib.hid s5;have U5:=Lib.hid (U4.out.kp k5);have K5:=Lib.hid (K4.out.trans k5);clear s5 k5 U4 K4 R4 HHA;go_wp2_with fail;refine (HADD.out w5 _ _ U5.out R5.out).mono ?_;rintro _ w6 ⟨⟨r6,rfl,s6⟩,k6⟩;have T6:=Lib.hid s6;have K6:=Lib.hid (K5.out.trans k6);clear s6 k6 U5 R5 K5 HADD;go_wp2_with fail;refine (N3.out w6).mono ?_;rintro _ w7 ⟨⟨r7,rfl,s7⟩,k7⟩;have R7:=Lib.hid s7;have T7:=Lib.hid (T6.out.kp k7);have K7:=Lib.hid (K6.out.trans k7);clear s7 k7 T6 K6 N3;go_wp2_with fail;refine (N4.out w7).mono ?_;rintro _ w8 ⟨⟨r8,rfl,s8⟩,k8⟩;have R8:=Lib.hid s8;have R78:=Lib.hid (R7.out.kp k8);have T8:=Lib.hid (T7.out.kp k8);have K8:=Lib.hid (K7.out.trans k8);clear s8 k8 T7 K7 R7 N4;go_wp2_with fail;refine (HMK.out w8 _ _ _ T8.out R78.out R8.out (HTAB.out.kp K8.out)).mono ?_;rintro _ w9 ⟨⟨v9,rfl,hmv⟩,k9⟩;obtain ⟨mt,mo,mx,my,ml,rfl,hmi⟩:=hmv;obtain ⟨at',nt,ct,rfl⟩:=hmi.tree.sl;obtain ⟨ao,no,co,rfl⟩:=SE.sl hmi.own;obtain ⟨ax,nx,cx,rfl⟩:=aac hmi.path.pub;obtain ⟨ay,cy,rfl,_,_⟩:=SE.shape hmi.path.step;obtain ⟨al,cl,rfl,_,_⟩:=hmi.last.shape;have hpp:=hmi.path;rw[HL.out.2.2.2.1] at hpp hmi;rw[HL.out.2.2.2.1];rw[HL.out.2.2.1] at hmi;rw[HL.out.2.2.1];obtain ⟨gs,os,cs,pv,qv,es,_,hnd⟩:=TL11.nodeK (i:=0) hpp.step (by rw[HL.out.1];decide);rw[HL.out.1] at hpp hmi es;rw[HL.out.1];simp only[Value.slice.injEq] at es;obtain ⟨rfl,_,rfl⟩:=es;have MI:=Lib.hid hmi;have PP:=Lib.hid hpp;have T9:=Lib.hid (T8.out.kp k9);have K9:=Lib.hid (K8.out.trans k9);have HNDD:=Lib.hid hnd;obtain ⟨_,_,_,hq0⟩:=hnd w9 (Kp.refl _);obtain ⟨af,cf,rfl,_,_⟩:=SE.shape hq0;rw[HL.out.2.1] at HNDD;clear hpp hmi k9 T8 K8 R78 R8 HMK hnd hq0;obtain ⟨wA,hwA⟩:∃ x,w9.alloc (.cells #[.slice at' nt ct,.slice ao no co,.slice ax nx cx,.slice (some ⟨gs,os,none⟩) 1 cy,.slice al 32 cl] 47)=x:=⟨_,rfl⟩;have HBA:Hid (Bx wA w9.heap.size 47 #[.slice at' nt ct,.slice ao no co,.slice ax nx cx,.slice (some ⟨gs,os,none⟩) 1 cy,.slice al 32 cl]):=by unfold Hid;rw[← hwA];exact Bx.new w9 _ _
 have KA:Hid (Kp w9 wA):=by unfold Hid;rw[← hwA];exact (Kp.refl _).alloc _
 have HSC:Hid (∀ W,Kp wA W→W.cell? ⟨w9.heap.size,0,none⟩=some (.slice at' nt ct)∧W.cell? ⟨w9.heap.size,2,none⟩=some (.slice ax nx cx)∧W.cell? ⟨w9.heap.size,3,none⟩=some (.slice (some ⟨gs,os,none⟩) 1 cy)∧W.cell? ⟨w9.heap.size,4,none⟩=some (.slice al 32 cl)):=fun W hW=>⟨(HBA.out.kp hW).cell 0,(HBA.out.kp hW).cell 2,(HBA.out.kp hW).cell 3,(HBA.out.kp hW).cell 4⟩
 obtain ⟨c0,c2,c3,c4⟩:=HSC.out wA (Kp.refl _);obtain ⟨_,d1,_,_⟩:=HNDD.out wA KA.out;simp only[Nat.zero_mul,Nat.add_zero] at d1;go_wp2_with fail;try rw[hwA]
 clear hwA;refine (N2.out wA).mono ?_;rintro _ wB ⟨⟨rB,rfl,sB⟩,kB⟩;obtain ⟨aB,nB,cB,rfl⟩:=aac sB;have RB:=Lib.hid sB;have KB:=Lib.hid kB;clear sB kB c0 c2 c3 c4 d1 N2 HNDD;have HLIT:Hid (SL (wB.alloc (.cells #[.int .i64 2,.slice aB nB cB] 90)) (.slice (some ⟨wB.heap.size,0,none⟩) 1 1) [⟨2,secN 2⟩]):=
  SE.lit1 (S:=shSd) (w:=wB) (vs:=[.int .i64 2,.slice aB nB cB]) (x:=⟨2,secN 2⟩) (cs:=#[.int .i64 2,.slice aB nB cB]) 90 ⟨_,rfl,RB.out,Free.none _⟩ rfl
 obtain ⟨wC,hwC⟩:∃ x,wB.alloc (.cells #[.int .i64 2,.slice aB nB cB] 90)=x:=⟨_,rfl⟩;rw[hwC] at HLIT;have KC:Hid (Kp wA wC):=by unfold Hid;rw[← hwC];exact KB.out.alloc _
 have KWC:Hid (Kp w9 wC):=KA.out.trans KC.out;obtain ⟨c0,c2,c3,c4⟩:=HSC.out wC KC.out;go_wp2_with fail;try rw[hwC]
 clear hwC;refine (HTK.out wC _ _ _ _ (T9.out.kp KWC.out) HLIT.out (PP.out.kp KWC.out) (HTAB.out.kp (K9.out.trans KWC.out))).mono ?_;rintro _ wD ⟨⟨vD,rfl,hmv⟩,kD⟩;obtain ⟨mt,mo,mx,my,ml,rfl,hmi⟩:=hmv;obtain ⟨at2,nt2,ct2,rfl⟩:=hmi.tree.sl;obtain ⟨ao2,no2,co2,rfl⟩:=SE.sl hmi.own;obtain ⟨ax2,nx2,cx2,rfl⟩:=aac hmi.path.pub;obtain ⟨ay2,ny2,cy2,rfl⟩:=SE.sl hmi.path.step;obtain ⟨al2,cl2,rfl,_,_⟩:=hmi.last.shape;obtain ⟨g1,g2,g3,g4⟩:=HL.out.2.2.2.2;have hlt2:TD.last.length=32:=by rw[g3];exact HL.out.2.2.1
 have q1:=hmi.tree;have q2:=hmi.last;have q3:=hmi.path;rw[g2] at q1;rw[hlt2] at q2;rw[g3] at q2;rw[g4] at q3;rw[hlt2];have Q1:=Lib.hid q1;have Q2:=Lib.hid q2;have Q3:=Lib.hid q3;have KD:=Lib.hid (KC.out.trans kD);have LD:=Lib.hid (HLIT.out.kp kD);clear q1 q2 q3 g1 g2 g3 g4 hmi kD c0 c2 c3 c4 hlt2 HLIT KB RB HTK KWC KC;obtain ⟨wE,hwE⟩:∃ x,wD.alloc (.cells #[.slice at2 nt2 ct2,.slice ao2 no2 co2,.slice ax2 nx2 cx2,.slice ay2 ny2 cy2,.slice al2 32 cl2] 47)=x:=⟨_,rfl⟩;have HBE:Hid (Bx wE wD.heap.size 47 #[.slice at2 nt2 ct2,.slice ao2 no2 co2,.slice ax2 nx2 cx2,.slice ay2 ny2 cy2,.slice al2 32 cl2]):=by unfold Hid;rw[← hwE];exact Bx.new wD _ _
 have KE:Hid (Kp wD wE):=by unfold Hid;rw[← hwE];exact (Kp.refl _).alloc _
 have HSE:Hid (∀ W,Kp wE W→(W.cell? ⟨w9.heap.size,0,none⟩=some (.slice at' nt ct)∧W.cell? ⟨w9.heap.size,2,none⟩=some (.slice ax nx cx)∧W.cell? ⟨w9.heap.size,3,none⟩=some (.slice (some ⟨gs,os,none⟩) 1 cy)∧W.cell? ⟨w9.heap.size,4,none⟩=some (.slice al 32 cl))∧W.cell? ⟨wD.heap.size,0,none⟩=some (.slice at2 nt2 ct2)∧W.cell? ⟨wD.heap.size,2,none⟩=some (.slice ax2 nx2 cx2)∧W.cell? ⟨wD.heap.size,3,none⟩=some (.slice ay2 ny2 cy2)∧W.cell? ⟨wD.heap.size,4,none⟩=some (.slice al2 32 cl2)):=fun W hW=>⟨HSC.out W (KD.out.trans (KE.out.trans hW)),(HBE.out.kp hW).cell 0,(HBE.out.kp hW).cell 2,(HBE.out.kp hW).cell 3,(HBE.out.kp hW).cell 4⟩
 have KAE:=Lib.hid (KA.out.trans (KD.out.trans KE.out));have TE:=Lib.hid (T9.out.kp KAE.out);have KWE:=Lib.hid (K9.out.trans KAE.out);have LE:=Lib.hid (LD.out.kp KE.out);have M1:=Lib.hid (MI.out.tree.kp KAE.out);have M2:=Lib.hid (MI.out.last.kp KAE.out);have M3:=Lib.hid (PP.out.kp KAE.out);have P1:=Lib.hid (Q1.out.kp KE.out);have P2:=Lib.hid (Q2.out.kp KE.out);have P3:=Lib.hid (Q3.out.kp KE.out);clear MI PP T9 LD HBA HBE KD Q1 Q2 Q3 HSC;go_wp2_with fail;try rw[hwE]
 clear hwE;refine (HND.out wE _ TE.out (HTAB.out.kp KWE.out)).mono ?_;rintro _ wF ⟨⟨vF,rfl,sF⟩,kF⟩;obtain ⟨aF,nF,cF,rfl⟩:=sF.sl;have RF:=Lib.hid sF.ri;have KF:=Lib.hid kF;obtain ⟨⟨c0,c2,c3,c4⟩,e0,e2,e3,e4⟩:=HSE.out wF kF;clear sF kF HND;go_wp2_with fail;refine (HSA.out wF _ _ (M1.out.kp KF.out) (P1.out.kp KF.out)).mono ?_;rintro _ wG ⟨rfl,kG⟩;have KG:=Lib.hid (KF.out.trans kG);have RG:=Lib.hid (RI.kp RF.out kG);clear c0 c2 c3 c4 e0 e2 e3 e4 kG RF KF HSA;obtain ⟨⟨c0,c2,c3,c4⟩,e0,e2,e3,e4⟩:=HSE.out wG KG.out;go_wp2_with fail;refine (HSM.out wG _ _ _ (M2.out.kp KG.out) (P2.out.kp KG.out)).mono ?_;rintro _ _ ⟨rfl,rfl⟩;have HLI:Hid (RI (wG.alloc (.cells #[.int .i64 1] 3)) (.slice (some ⟨wG.heap.size,0,none⟩) 1 1) [1]):=(ON.lit1 wG 3 1).ri;obtain ⟨wH,hwH⟩:∃ x,wG.alloc (.cells #[.int .i64 1] 3)=x:=⟨_,rfl⟩;rw[hwH] at HLI;have KH0:Hid (Kp wG wH):=by unfold Hid;rw[← hwH];exact (Kp.refl _).alloc _
 have KH:=Lib.hid (KG.out.trans KH0.out);go_wp2_with fail;try rw[hwH]
 clear hwH;refine (HIN.out wH _ _ (RI.kp RG.out KH0.out) HLI.out).mono ?_;rintro _ wI ⟨rfl,kI⟩;have KI:=Lib.hid (KH.out.trans kI);clear kI c0 c2 c3 c4 e0 e2 e3 e4 KG KH KH0 RG HLI HIN HSM;go_wp2_with fail;refine (HR1.out wI _ _ (TE.out.kp KI.out) (arM.kp LE.out KI.out) (HTAB.out.kp (KWE.out.trans KI.out))).mono ?_;rintro _ wJ ⟨rfl,kJ⟩;have KJ:=Lib.hid (KI.out.trans kJ);clear kJ KI HR1;go_wp2_with fail;refine (HR0.out wJ _ _ (TE.out.kp KJ.out) (arM.kp LE.out KJ.out) (HTAB.out.kp (KWE.out.trans KJ.out))).mono ?_;rintro _ wK ⟨rfl,kK⟩;have KK:=Lib.hid (KJ.out.trans kK);clear kK KJ HR0;obtain ⟨⟨c0,c2,c3,c4⟩,e0,e2,e3,e4⟩:=HSE.out wK KK.out;go_wp2_with fail;refine (HPS.out wK _ _ _ _ (M3.out.kp KK.out) (P3.out.kp KK.out)).mono ?_;rintro _ wL ⟨rfl,kL⟩;have KL:=Lib.hid (KK.out.trans kL);clear kL KK HPS c0 c2 c3 c4 e0 e2 e3 e4;obtain ⟨⟨c0,c2,c3,c4⟩,e0,e2,e3,e4⟩:=HSE.out wL KL.out;go_wp2_with fail;refine (HPN.out wL _ _ (M3.out.kp KL.out)).mono ?_;rintro _ wM ⟨rfl,kM⟩;have KM':=Lib.hid (KWE.out.trans (KL.out.trans kM));clear kM KL HPN c0 c2 c3 c4 e0 e2 e3 e4;go_wp2_with fail;go_ret;exact ⟨rfl,KM'.out⟩
theorem may11 {t:List Nod}(h:adN t 40∧ac2 t):∃ K,aab t K∧aaZ t K:=by
 obtain ⟨h1,K,h2⟩:=h;exact ⟨K,h2,h2.tidy h1⟩
theorem arI {t:List Nod}{K i:Nat}{seed secret:List UInt8}(info:List UInt8)(hr:aab t K)(hT:aaZ t K)(hk:(ats t (2*i)).kind=1)(h1:seed.length=32)(h2:secret.length=32):
  aet t (i:Int) seed secret=0∧aab (abC t K (i:Int) seed secret info).tree K∧abB (abC t K (i:Int) seed secret info).tree K (i:Int) (abC t K (i:Int) seed secret info).own ∧
  (abC t K (i:Int) seed secret info).own.length≤2000∧(abC t K (i:Int) seed secret info).last.length=32∧(abC t K (i:Int) seed secret info).path=aaR t K i seed secret info:=by
 have hE:aet t (i:Int) seed secret=0:=by
  unfold aet;rw[if_pos ⟨h1,h2⟩];unfold acE;rw[if_pos ((hr.there_iff i).2 hk)]
 have hV:abC t K (i:Int) seed secret info=⟨layP t (i:Int) (aaa t i K) (aaR t K i seed secret info),ownS [⟨2*(i:Int),seed⟩] secret (aaa t i K),aaR t K i seed secret info,adY secret (ixS t i K).length⟩:=by
  unfold abC;rw[if_pos hE,Int.toNat_natCast]
 have hf:=abS t K i seed secret info;obtain ⟨hsl,hwl⟩:=aax t i K;have hL:=afs hr hT hk (aaR t K i seed secret info) hf.2.1 (fun a ha=>(hf.2.2 a (by omega)).2);have hM10:(ixS t i K).length≤10:=Nat.le_trans (ab3 t i K) hr.le;rw[hV];refine ⟨hE,hL.1,amd info hr hT hk h1 h2,?_,ab8 h2 _,rfl⟩;show (ownS [⟨2*(i:Int),seed⟩] secret (aaa t i K)).length≤2000
 rw[akE,hsl];show 1+(ixS t i K).length≤2000
 omega
theorem akd {t:List Nod}{K i:Nat}(seed secret info:List UInt8)(hr:aab t K)(hT:aaZ t K)(hk:(ats t (2*i)).kind=1)(h1:seed.length=32)(h2:secret.length=32){a:Nat}(ha:a<(aaa t i K).length):
  ∃ x:Nat,(aaa t i K).getD a 0=x∧x<t.length∧(stAt (aaR t K i seed secret info).step a).pub=pubB (aaL secret a)∧(ats (abC t K (i:Int) seed secret info).tree x).pub=pubB (aaL secret a) ∧
   (stAt (aaR t K i seed secret info).step a).fors.length=(resV t (if 2*(i:Int)<(x:Int) then rigV (x:Int) else lefV (x:Int))).length:=by
 have hlt:=aab.lt_of (t:=t) (x:=2*i) (by rw[hk];decide);have hl2:=hr.len2;have hi:i<2 ^ K:=by omega
 have hE:=(arI info hr hT hk h1 h2).1;have hV:(abC t K (i:Int) seed secret info).tree=layP t (i:Int) (aaa t i K) (aaR t K i seed secret info):=by
  unfold abC;rw[if_pos hE,Int.toNat_natCast]
 have hf:=abS t K i seed secret info;obtain ⟨hsl,hwl⟩:=aax t i K;have hL:=afs hr hT hk (aaR t K i seed secret info) hf.2.1 (fun a ha=>(hf.2.2 a (by omega)).2);obtain ⟨k,hkK,hpos,hix,hst,hwho,hlen⟩:=aly seed secret info (show a<(ixS t i K).length by omega);have hp:=aiE seed secret info (t:=t) (K:=K) (i:=i) ha;have hA:=hL.2.2.2.2.2.1 a ha;rw[hst] at hA;have hK:=hr.le;have hq:i / 2 ^ (k+1)<2 ^ (10 - (k+1)):=by
  rw[Nat.div_lt_iff_lt_mul (Nat.pow_pos (by decide)),← Nat.pow_add];exact Nat.lt_of_lt_of_le hi (Nat.pow_le_pow_right (by decide) (by omega))
 obtain ⟨_,e2,e3⟩:=adC (j:=k) (by omega) hq;have hs:=an3 hK hkK hi;refine ⟨nd (k+1) (i / 2 ^ (k+1)),hst,?_,hp,?_,?_⟩
 ·have h3:=aab.lt_of (t:=layP t (i:Int) (aaa t i K) (aaR t K i seed secret info)) (x:=nd (k+1) (i / 2 ^ (k+1))) (by rw[hA.1];exact (by decide:(2:Int)≠0))
  rw[hL.2.2.1] at h3;exact h3
 ·rw[hV,hA.2.2.1]
  exact hp
 ·rw[hlen]
  unfold whoF;rw[hs,e2,e3];have e:(2*(i:Int)<((nd (k+1) (i / 2 ^ (k+1)):Nat):Int))↔2*i<nd (k+1) (i / 2 ^ (k+1)):=by omega
  by_cases h:2*i<nd (k+1) (i / 2 ^ (k+1))
  ·rw[if_pos h,if_pos (e.2 h)]
  ·rw[if_neg h,if_neg (fun x=>h (e.1 x))]
end Go.Proofs.YthmhklmkgkfcpaaGreatDoor

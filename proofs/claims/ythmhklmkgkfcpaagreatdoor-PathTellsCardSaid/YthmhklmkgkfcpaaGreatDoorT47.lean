import Derived.Test.YthmhklmkgkfcpaaGreatDoorT19
import Derived.Test.YthmhklmkgkfcpaaGreatDoorT26
import Derived.Test.YthmhklmkgkfcpaaGreatDoorT27
import Derived.Test.YthmhklmkgkfcpaaGreatDoorT28
import Derived.Test.YthmhklmkgkfcpaaGreatDoorT30
import Derived.Test.YthmhklmkgkfcpaaGreatDoorT31
import Derived.Test.YthmhklmkgkfcpaaGreatDoorT32
import Derived.Test.YthmhklmkgkfcpaaGreatDoorT33
import Derived.Test.YthmhklmkgkfcpaaGreatDoorT34
import Derived.Test.YthmhklmkgkfcpaaGreatDoorT35
import Derived.Test.YthmhklmkgkfcpaaGreatDoorT37
import Derived.Test.YthmhklmkgkfcpaaGreatDoorT40
import Derived.Test.YthmhklmkgkfcpaaGreatDoorT44
import Derived.Test.YthmhklmkgkfcpaaGreatDoorT45
import Derived.Test.YthmhklmkgkfcpaaGreatDoorT46
import Derived.Deep.RegionHeld3
set_option linter.unusedVariables false
set_option linter.unusedSimpArgs false
set_option maxHeartbeats 8000000
set_option maxRecDepth 100000
namespace Go.Proofs.YthmhklmkgkfcpaaGreatDoor
open Go.RowKit Go.Maps
theorem alg (ar1 v1 v2 v3:Value)(t:List Nod)(K:Nat)(i:Int)(seed secret info:List UInt8)(w:World)(hu:NL w ar1 t)(hr:aaa t K)(h1:Rd w v1 seed)(h2:Rd w v2 secret)(h3:Rd w v3 info)(hno:afZ t i seed secret≠0):
  Calls Tryz.prog 20 #[ar1,.int .i64 i,v1,v2,v3] w fun e w'=>(∃ v,e=.returned (.tuple #[v,.int .i64 (afZ t i seed secret)])∧MV w' v noMd)∧Kp w w':=by
 obtain ⟨z1,z2,z3⟩:=hr.small;have HWO:=Lib.hid (fun (hn:¬aas t i) W (hW:Kp w W)=>aed ar1 t K i W (hu.kp hW) hr hn);obtain ⟨a,c,rfl,_,_⟩:=hu.shape;obtain ⟨a1,c1,rfl,_,_⟩:=h1.shape;obtain ⟨a2,c2,rfl,_,_⟩:=h2.shape;obtain ⟨a3,n3,c3,rfl⟩:=aab h3;obtain ⟨w1,hw1⟩:∃ w1,w.alloc (.cells #[.slice none 0 0,.slice none 0 0,.slice none 0 0,.slice none 0 0,.slice none 0 0] 47)=w1:=⟨_,rfl⟩;have hb:Bx w1 w.heap.size 47 #[.slice none 0 0,.slice none 0 0,.slice none 0 0,.slice none 0 0,.slice none 0 0]:=by rw[← hw1];exact Bx.new w _ _
 have HK1:Hid (Kp w w1):=by unfold Hid;rw[← hw1];exact (Kp.refl _).alloc _
 have HB:=Lib.hid hb;have HW1:=Lib.hid hw1;have hE:afZ t i seed secret=if seed.length=32∧secret.length=32 then abO t i else 1:=rfl
 generalize t.length=N at *;clear hu hr hb hw1 z1 z2 z3 h3;by_cases q1:seed.length=32
 ·by_cases q2:secret.length=32
  ·rw[if_pos ⟨q1,q2⟩] at hE
   have hth:¬aas t i:=fun h=>hno (by rw[hE];unfold abO;rw[if_pos h])
   have hE2:afZ t i seed secret=11:=by rw[hE];unfold abO;rw[if_neg hth]
   have HWOJ:=Lib.hid (HWO.out hth w1 HK1.out);rw[hE2,q1,q2];clear hE hno hth hE2 h1 h2 q1 q2 HWO;go_enter Tryz.func20,Tryz.ntmps20;go_wp2_with fail;rw[HW1.out];refine HWOJ.out.mono ?_;rintro _ w2 ⟨rfl,k2⟩;have HB2:=Lib.hid (HB.out.kp k2);have K2:=Lib.hid (HK1.out.trans k2);clear k2;have HB3:=Lib.hid (HB2.out.kp ((Kp.refl w2).alloc (.cells #[.slice none 0 0,.int .i64 0,.slice none 0 0,.slice none 0 0] 95)));have K3:Hid (Kp w (w2.alloc (.cells #[.slice none 0 0,.int .i64 0,.slice none 0 0,.slice none 0 0] 95))):=K2.out.alloc _;go_wp2_with (refine aan rfl rfl 47 (.tmp 10) (.tmp 40) rfl w.heap.size 47 _ #[.slice none 0 0,.slice none 0 0,.slice none 0 0,.slice none 0 0,.slice none 0 0] rfl rfl HB3.out rfl one5 aaX ?_;intro w3 hb3 g3 hk3)
   have hk:=hk3 w K3.out (Nat.le_refl _);refine bodyPost_ret (aap rfl _ _ w.heap.size _ _ (0,0) _ _ rfl hb3 Tryz.underlying47 rfl aaX rfl) rfl ?_;exact ⟨⟨_,rfl,_,_,_,_,_,rfl,MIn.none _⟩,hk⟩
  ·rw[if_neg fun h=>q2 h.2] at hE
   have hne:((secret.length:Int)==32)=false:=beq_eq_false_iff_ne.2 (by omega);have hne2:((secret.length:Int) != 32)=true:=bne_iff_ne.2 (by omega);have hne3:¬(secret.length:Int)=32:=by omega
   rw[hE,q1];clear hno hE h1 h2 q1 HWO;go_enter Tryz.func20,Tryz.ntmps20;rw[← HW1.out] at HB HK1;go_wp2_with (refine aan rfl rfl 47 (.tmp 10) (.tmp 31) rfl w.heap.size 47 _ #[.slice none 0 0,.slice none 0 0,.slice none 0 0,.slice none 0 0,.slice none 0 0] rfl rfl HB.out rfl one5 aaX ?_;intro w3 hb3 g3 hk3)
   have hk:=hk3 w HK1.out (Nat.le_refl _);refine bodyPost_ret (aap rfl _ _ w.heap.size _ _ (0,0) _ _ rfl hb3 Tryz.underlying47 rfl aaX rfl) rfl ?_;exact ⟨⟨_,rfl,_,_,_,_,_,rfl,MIn.none _⟩,hk⟩
 ·rw[if_neg fun h=>q1 h.1] at hE
  have hne:((seed.length:Int)==32)=false:=beq_eq_false_iff_ne.2 (by omega);have hne2:((seed.length:Int) != 32)=true:=bne_iff_ne.2 (by omega);have hne3:¬(seed.length:Int)=32:=by omega
  rw[hE];clear hno hE h1 h2 HWO;go_enter Tryz.func20,Tryz.ntmps20;rw[← HW1.out] at HB HK1;go_wp2_with (refine aan rfl rfl 47 (.tmp 10) (.tmp 31) rfl w.heap.size 47 _ #[.slice none 0 0,.slice none 0 0,.slice none 0 0,.slice none 0 0,.slice none 0 0] rfl rfl HB.out rfl one5 aaX ?_;intro w3 hb3 g3 hk3)
  have hk:=hk3 w HK1.out (Nat.le_refl _);refine bodyPost_ret (aap rfl _ _ w.heap.size _ _ (0,0) _ _ rfl hb3 Tryz.underlying47 rfl aaX rfl) rfl ?_;exact ⟨⟨_,rfl,_,_,_,_,_,rfl,MIn.none _⟩,hk⟩
end Go.Proofs.YthmhklmkgkfcpaaGreatDoor
namespace Go.Proofs.YthmhklmkgkfcpaaGreatDoor
open Go.RowKit
theorem akk (ar1 v1 v2 v3:Value)(t:List Nod)(K:Nat)(i:Int)(seed secret info:List UInt8)(w:World)(hu:NL w ar1 t)(hr:aaa t K)(hT:abo t K)(h1:Rd w v1 seed)(h2:Rd w v2 secret)(h3:Rd w v3 info)(hil:info.length≤1400)(hTab:Tab w):
  Calls Tryz.prog 20 #[ar1,.int .i64 i,v1,v2,v3] w fun e w'=>(∃ v,e=.returned (.tuple #[v,.int .i64 (afZ t i seed secret)])∧MV w' v (afy t K i seed secret info))∧Kp w w':=by
 by_cases h:afZ t i seed secret=0
 ·have h':=h
  unfold afZ at h';by_cases hq:seed.length=32∧secret.length=32
  ·rw[if_pos hq] at h'
   unfold abO at h';have hth:aas t i:=by
    by_cases hth:aas t i
    ·exact hth
    ·rw[if_neg hth] at h';cases h'
   obtain ⟨k,rfl,hk,hkind,hk2⟩:=acI hr hth;unfold afy;rw[if_pos h,h,Int.toNat_natCast];exact akj ar1 v1 v2 v3 t K k seed secret info w hu hr hT h1 h2 h3 hkind hq.1 hq.2 hil hTab
  ·rw[if_neg hq] at h'
   cases h'
 ·unfold afy
  rw[if_neg h];exact alg ar1 v1 v2 v3 t K i seed secret info w hu hr h1 h2 h3 h
end Go.Proofs.YthmhklmkgkfcpaaGreatDoor
namespace Go.Proofs.YthmhklmkgkfcpaaGreatDoor
open Go.RowKit Go.Maps
theorem aln (ar1 v vi x y:Value)(t:List Nod)(K:Nat)(i me:Int)(own:List Sd)(info:List UInt8)(p:Pa)(w:World)(hu:NL w ar1 t)(hr:aaa t K)(hv:SL w v own)(hi:Rd w vi info)(hp:PIn w x y p)(hTab:Tab w)(hno:¬aas t i∨i=me):
  Calls Tryz.prog 23 #[ar1,.int .i64 i,.int .i64 me,v,vi,.agg #[x,y]] w fun e w'=>(∃ v,e=.returned (.tuple #[v,.int .i64 (adv t K i me own info p)])∧MV w' v (adw t K i me own info p))∧Kp w w':=by
 obtain ⟨z1,z2,z3⟩:=hr.small;have HWO:=Lib.hid (fun (hn:¬aas t i) W (hW:Kp w W)=>aed ar1 t K i W (hu.kp hW) hr hn);have HWY:=Lib.hid (fun (k:Nat) (hk:(ats t (2*k)).kind=1) W (hW:Kp w W)=>acr ar1 t K k W (hu.kp hW) hr hk (hTab.kp hW));have HQ0:Hid (¬aas t i→adv t K i me own info p=11∧adw t K i me own info p=noMd):=fun h=>by
  have hE:adv t K i me own info p=11:=by unfold adv;rw[if_pos h]
  exact ⟨hE,by unfold adw;rw[if_neg (by rw[hE];decide)]⟩
 have HQ1:Hid (aas t i→i=me→adv t K i me own info p=1∧adw t K i me own info p=noMd):=fun h h2=>by
  have hE:adv t K i me own info p=1:=by unfold adv;rw[if_neg (by rw[Classical.not_not];exact h),if_pos h2]
  exact ⟨hE,by unfold adw;rw[if_neg (by rw[hE];decide)]⟩
 have HTH:=Lib.hid (fun (h:aas t i)=>acI hr h);obtain ⟨a,c,rfl,_,_⟩:=hu.shape;obtain ⟨av,nv,cv,rfl⟩:=SE.sl hv;obtain ⟨ai,ni,ci,rfl⟩:=aab hi;obtain ⟨ax,nx,cx,rfl⟩:=aab hp.pub;obtain ⟨ay,ny,cy,rfl⟩:=SE.sl hp.step;generalize adv t K i me own info p=TE at *;generalize adw t K i me own info p=TV at *;obtain ⟨w1,hw1⟩:∃ w1,(w.alloc (.cells #[.slice ax nx cx,.slice ay ny cy] 27)).alloc (.cells #[.slice none 0 0,.slice none 0 0,.slice none 0 0,.slice none 0 0,.slice none 0 0] 47)=w1:=⟨_,rfl⟩;have HRB:Hid (∀ W,Kp w1 W→Bx W (w.heap.size+1) 47 #[.slice none 0 0,.slice none 0 0,.slice none 0 0,.slice none 0 0,.slice none 0 0]):=fun W hW=>by
  refine Bx.kp ?_ hW;have:=Bx.new (w.alloc (.cells #[.slice ax nx cx,.slice ay ny cy] 27)) 47 #[.slice none 0 0,.slice none 0 0,.slice none 0 0,.slice none 0 0,.slice none 0 0];rw[World.size_alloc] at this;rw[← hw1];exact this
 have K1:Hid (Kp w w1):=by unfold Hid;rw[← hw1];exact ((Kp.refl _).alloc _).alloc _
 have HW1:=Lib.hid hw1;generalize hNN:t.length=N at *;clear hu hr hv hi hp z1 z2 z3 hTab hw1 hNN;by_cases hth:aas t i
 ·obtain rfl:i=me:=hno.resolve_left fun h=>h hth
  obtain ⟨k,rfl,_,hkind,_⟩:=HTH.out hth;obtain ⟨hq1,hq2⟩:=HQ1.out hth rfl;have HQ:=Lib.hid (And.intro hq1 hq2);clear HWO HQ0 HQ1 HTH hth hno hq1 hq2;have HWOJ:=Lib.hid (HWY.out k hkind w1 K1.out);clear HWY hkind;go_enter Tryz.func23,Tryz.ntmps23;go_wp2_with fail;rw[HW1.out];refine HWOJ.out.mono ?_;rintro _ w2 ⟨⟨nv',sv,rfl,hwi⟩,k2⟩;obtain ⟨an,nn,cn,rfl⟩:=hwi.nodes.sl;obtain ⟨as',ns',cs',rfl⟩:=SE.sl hwi.steps;have K3:Hid (Kp w1 (w2.alloc (.cells #[.slice a N c,.int .i64 (k:Int),.slice an nn cn,.slice as' ns' cs'] 95))):=k2.alloc _;have HB3:=Lib.hid (HRB.out _ K3.out);have HK3:=Lib.hid (K1.out.trans K3.out);clear hwi k2;go_wp2_with (refine aan rfl rfl 47 (.tmp 12) (.tmp 37) rfl (w.heap.size+1) 47 _ #[.slice none 0 0,.slice none 0 0,.slice none 0 0,.slice none 0 0,.slice none 0 0] rfl rfl HB3.out rfl one5 aaX ?_;intro wq hbq gq hkq)
  have hkz:=hkq w HK3.out (Nat.le_succ _);refine bodyPost_ret (aap rfl _ _ (w.heap.size+1) _ _ (0,0) _ _ rfl hbq Tryz.underlying47 rfl aaX rfl) rfl ?_;rw[HQ.out.1,HQ.out.2];exact ⟨⟨_,rfl,_,_,_,_,_,rfl,MIn.none _⟩,hkz⟩
 ·have HQ:=Lib.hid (HQ0.out hth)
  have HWOJ:=Lib.hid (HWO.out hth w1 K1.out);clear HWO HQ0 HQ1 HTH HWY hth hno;go_enter Tryz.func23,Tryz.ntmps23;go_wp2_with fail;rw[HW1.out];refine HWOJ.out.mono ?_;rintro _ w2 ⟨rfl,k2⟩;have K3:Hid (Kp w1 (w2.alloc (.cells #[.slice none 0 0,.int .i64 0,.slice none 0 0,.slice none 0 0] 95))):=k2.alloc _;have HB3:=Lib.hid (HRB.out _ K3.out);have HK3:=Lib.hid (K1.out.trans K3.out);clear k2;go_wp2_with (refine aan rfl rfl 47 (.tmp 12) (.tmp 31) rfl (w.heap.size+1) 47 _ #[.slice none 0 0,.slice none 0 0,.slice none 0 0,.slice none 0 0,.slice none 0 0] rfl rfl HB3.out rfl one5 aaX ?_;intro wq hbq gq hkq)
  have hkz:=hkq w HK3.out (Nat.le_succ _);refine bodyPost_ret (aap rfl _ _ (w.heap.size+1) _ _ (0,0) _ _ rfl hbq Tryz.underlying47 rfl aaX rfl) rfl ?_;rw[HQ.out.1,HQ.out.2];exact ⟨⟨_,rfl,_,_,_,_,_,rfl,MIn.none _⟩,hkz⟩
end Go.Proofs.YthmhklmkgkfcpaaGreatDoor
namespace Go.Proofs.YthmhklmkgkfcpaaGreatDoor
open Go.RowKit
theorem akp (ar1 v vi x y:Value)(t:List Nod)(K:Nat)(i me:Int)(own:List Sd)(info:List UInt8)(p:Pa)(w:World)(hu:NL w ar1 t)(hr:aaa t K)(hT:abo t K)(hv:SL w v own)(hi0:Rd w vi info)(hp:PIn w x y p)
  (hs:aaY t K me own) (hil:info.length≤1400) (hol:own.length≤99000) (hbl:∀ k j,(seAt (stAt p.step k).fors j).b.length≤1600)
  (hsz:∀ j,j<p.step.length→(stAt p.step j).pub.length≤10000∧(stAt p.step j).fors.length≤10000∧∀ k,k<(stAt p.step j).fors.length→(seAt (stAt p.step j).fors k).half.length≤10000∧(seAt (stAt p.step j).fors k).b.length≤10000) (hTab:Tab w):
  Calls Tryz.prog 23 #[ar1,.int .i64 i,.int .i64 me,v,vi,.agg #[x,y]] w fun e w'=>(∃ v,e=.returned (.tuple #[v,.int .i64 (adv t K i me own info p)])∧MV w' v (adw t K i me own info p))∧Kp w w':=by
 by_cases h:¬aas t i∨i=me
 ·exact aln ar1 v vi x y t K i me own info p w hu hr hv hi0 hp hTab h
 ·rw[not_or,Classical.not_not] at h
  obtain ⟨k,rfl,hk,hkind,_⟩:=acI hr h.1;obtain ⟨m,rfl,_,_,_⟩:=acI hr hs.1;exact ako ar1 v vi x y t K k m own info p w hu hr hT hv hi0 hp hkind (fun e=>h.2 (by rw[e])) hs hil hol hbl hsz hTab
def secL:ByteArray:=⟨#[115,101,99,114,101,116]⟩
def secN (n:UInt8):List UInt8:=derB [n] secL.data.toList
theorem acX (n:UInt8):(secN n).length=32:=aej _ _
theorem akr (n:UInt8)(w:World):Calls Tryz.prog 26 #[.int .u8 (n.toNat:Int)] w fun e w'=>(∃ r,e=.returned r∧Rd w' r (secN n)∧aaN w.heap.size r)∧Kp w w':=by
 have HO:=Lib.hid (fun W v (hv:Rd W v [n])=>amA v secL [n] W hv (by decide) (by simp));have HL:Hid (Rd (w.alloc (.cells #[.int .u8 (n.toNat:Int)] 5)) (.slice (some ⟨w.heap.size,0,none⟩) 1 1) [n]):=(Ow.lit w 5 w.heap.size 1 #[.int .u8 (n.toNat:Int)] [n] (Nat.le_refl _) rfl (by decide) rfl).rd;go_enter Tryz.func26,Tryz.ntmps26;go_wp2_with fail;refine (HO.out _ _ HL.out).mono ?_;rintro _ w2 ⟨⟨v,rfl,r2,n2⟩,k2⟩;have R2:=Lib.hid r2;have N2:Hid (aaN w.heap.size v):=fun g hg=>by have:=n2 g hg;simp at this;omega
 have K2:Hid (Kp w w2):=((Kp.refl w).alloc _).trans k2;clear r2 n2 k2;go_wp2_with fail;go_ret;exact ⟨⟨_,rfl,R2.out,N2.out⟩,K2.out⟩
theorem ajj (w:World)(hTAB:Tab w):Calls Tryz.prog 9 #[] w fun e w'=>e=.returned (.bool true)∧Kp w w':=by
 have HTAB:=Lib.hid hTAB;clear hTAB;have l1:(pubB (secN 1)).length=32:=aa4 _;have l2:(pubB (secN 2)).length=32:=aa4 _;obtain ⟨f1,f2,f3,f4,f5,f6,f7,f8⟩:=aie (p1:=pubB (secN 1)) (p2:=pubB (secN 2));have hr:=aml l1 l2;have hT:abo (TS11 (pubB (secN 1)) (pubB (secN 2))) 1:=hr.tidy (amm l1 l2);obtain ⟨hs1,hs0⟩:=amn (p1:=pubB (secN 1)) (p2:=pubB (secN 2)) (acX 2) rfl;have hbk:=aod (i:=0) (me:=1) (seed:=secN 3) (secret:=secN 4) [] hr f1 (by decide) hs1 (acX 3) (acX 4);have hsm:=amx (t:=TS11 (pubB (secN 1)) (pubB (secN 2))) (K:=1) (i:=0) (secret:=secN 4) (secN 3) [] hr (by decide) (acX 4);have hmf:=adb (TS11 (pubB (secN 1)) (pubB (secN 2))) 1 0 (secN 3) (secN 4) [];rw[f5] at hmf;have hmE:afZ (TS11 (pubB (secN 1)) (pubB (secN 2))) 0 (secN 3) (secN 4)=0:=by
  unfold afZ;rw[if_pos ⟨acX 3,acX 4⟩];unfold abO;rw[if_pos f7]
 have hmP:(afy (TS11 (pubB (secN 1)) (pubB (secN 2))) 1 0 (secN 3) (secN 4) []).path=abk (TS11 (pubB (secN 1)) (pubB (secN 2))) 1 0 (secN 3) (secN 4) []:=by unfold afy;rw[if_pos hmE];rfl
 have hmL:(afy (TS11 (pubB (secN 1)) (pubB (secN 2))) 1 0 (secN 3) (secN 4) []).last.length=32:=by unfold afy;rw[if_pos hmE];exact acS (acX 4) _
 have HSEC:Hid (∀ (n:UInt8) W,Calls Tryz.prog 26 #[.int .u8 (n.toNat:Int)] W fun e w'=>(∃ r,e=.returned r∧Rd w' r (secN n))∧Kp W w'):=fun n W=>(akr n W).mono fun e w' ⟨⟨r,h1,h2,_⟩,k⟩=>⟨⟨r,h1,h2⟩,k⟩
 have HHA:Hid (∀ (n:UInt8) W v,Rd W v (secN n)→Calls Tryz.prog 33 #[v] W fun e w'=>(∃ r,e=.returned r∧Rd w' r (pubB (secN n)))∧Kp W w'):=fun n W v hv=>by
  have:=ale v (secN n) W hv;rwa [(abE (acX n)).2] at this
 have HNEW:Hid (∀ W v,Rd W v (pubB (secN 1))→Calls Tryz.prog 37 #[.int .i64 1,v] W fun e w'=>(∃ r,e=.returned (.tuple #[r,.int .i64 0])∧NL w' r [aah 1 (pubB (secN 1))])∧Kp W w'):=fun W v hv=>by
  have:=akO 1 v (pubB (secN 1)) W hv;rwa [(aiO l1).1,(aiO l1).2] at this
 have HADD:Hid (∀ W ar1 v,NL W ar1 [aah 1 (pubB (secN 1))]→Rd W v (pubB (secN 2))→Calls Tryz.prog 38 #[ar1,.int .i64 2,v] W fun e w'=>(∃ r,e=.returned (.tuple #[r,.int .i64 1,.int .i64 0])∧NL w' r (TS11 (pubB (secN 1)) (pubB (secN 2))))∧Kp W w'):=fun W ar1 v hu hv=>by
  have:=akW ar1 v [aah 1 (pubB (secN 1))] 0 2 (pubB (secN 2)) W hu hv (akR l1);rwa [(aiP l1 l2).1,(aiP l1 l2).2.1,(aiP l1 l2).2.2] at this
 generalize hTT:TS11 (pubB (secN 1)) (pubB (secN 2))=T at *;generalize hMM:afy T 1 0 (secN 3) (secN 4) []=MD at *;generalize hPP:abk T 1 0 (secN 3) (secN 4) []=MP at *;have hbk1:adv T 1 0 1 [⟨2,secN 2⟩] [] MP=0∧(adw T 1 0 1 [⟨2,secN 2⟩] [] MP).tree=MD.tree∧(adw T 1 0 1 [⟨2,secN 2⟩] [] MP).last=MD.last∧(adw T 1 0 1 [⟨2,secN 2⟩] [] MP).path=MP:=⟨hbk.1,hbk.2.2.1,hbk.2.2.2.1,hbk.2.2.2.2.trans hmP⟩;have HMK:Hid (∀ W ar1 v1 v2,NL W ar1 T→Rd W v1 (secN 3)→Rd W v2 (secN 4)→Tab W→Calls Tryz.prog 20 #[ar1,.int .i64 0,v1,v2,.slice none 0 0] W fun e w'=>(∃ v,e=.returned (.tuple #[v,.int .i64 0])∧MV w' v MD)∧Kp W w'):=fun W ar1 v1 v2 hu h1 h2 hTb=>by
  have:=akk ar1 v1 v2 (.slice none 0 0) T 1 0 (secN 3) (secN 4) [] W hu hr hT h1 h2 (aaM W) (by simp) hTb;rwa [hmE,hMM] at this
 obtain ⟨TD,hTD⟩:∃ TD,adw T 1 0 1 [⟨2,secN 2⟩] [] MP=TD:=⟨_,rfl⟩;rw[hTD] at hbk1;have HTK:Hid (∀ W ar1 v x y,NL W ar1 T→SL W v [⟨2,secN 2⟩]→PIn W x y MP→Tab W→Calls Tryz.prog 23 #[ar1,.int .i64 0,.int .i64 1,v,.slice none 0 0,.agg #[x,y]] W fun e w'=>(∃ v,e=.returned (.tuple #[v,.int .i64 0])∧MV w' v TD)∧Kp W w'):=fun W ar1 v x y hu hv hp hTb=>by
  have:=akp ar1 v (.slice none 0 0) x y T 1 0 1 [⟨2,secN 2⟩] [] MP W hu hr hT hv (aaM W) hp hs1 (by simp) (by simp) hsm.1 hsm.2 hTb;rwa [hbk1.1,hTD] at this
 have HND:Hid (∀ W ar1,NL W ar1 T→Tab W→Calls Tryz.prog 13 #[ar1,.int .i64 1] W fun e w'=>(∃ v,e=.returned (.tuple #[v,.int .i64 0])∧RN w' v [1])∧Kp W w'):=fun W ar1 hu hTb=>by
  have:=ae9 ar1 T 1 1 W hu hr hTb;have e2:adL T 1 1=[1]:=by unfold adL;rw[if_pos f8];exact f4
  rwa [f6,e2] at this
 have HSA:Hid (∀ W ar1 v,NL W ar1 MD.tree→NL W v MD.tree→Calls Tryz.prog 28 #[ar1,v] W fun e w'=>e=.returned (.bool true)∧Kp W w'):=fun W ar1 v hu hv=>by
  refine (ajW ar1 v _ _ W hu hv).mono ?_;rintro _ w' ⟨⟨b,rfl,hb⟩,hk⟩;rw[hb.2 rfl];exact ⟨rfl,hk⟩
 have HSM:Hid (∀ W ar1 v l,Rd W ar1 l→Rd W v l→Calls Tryz.prog 29 #[ar1,v] W fun e w'=>e=.returned (.bool true)∧W=w'):=fun W ar1 v l hu hv=>by
  have:=acn ar1 v l l W hu hv;rwa [decide_eq_true rfl] at this
 have HIN:Hid (∀ W ar1 v,RI W ar1 [1]→RI W v [1]→Calls Tryz.prog 15 #[ar1,v] W fun e w'=>e=.returned (.bool true)∧Kp W w'):=fun W ar1 v hu hv=>by
  have:=ad7 ar1 v [1] [1] W hu hv;rwa [decide_eq_true rfl] at this
 have hw:∀ k,k<[(⟨2,secN 2⟩:Sd)].length→-9223372036854775808≤(sdAt [(⟨2,secN 2⟩:Sd)] k).node∧(sdAt [(⟨2,secN 2⟩:Sd)] k).node≤9223372036854775807:=fun k hk=>by
  have:k=0:=by simp at hk;omega
  subst this;exact ⟨(show (-9223372036854775808:Int)≤2 by decide),(show (2:Int)≤9223372036854775807 by decide)⟩
 have HR1:Hid (∀ W ar1 v,NL W ar1 T→SL W v [⟨2,secN 2⟩]→Tab W→Calls Tryz.prog 16 #[ar1,.int .i64 1,v] W fun e w'=>e=.returned (.bool true)∧Kp W w'):=fun W ar1 v hu hv hTb=>by
  refine (adF ar1 v T [⟨2,secN 2⟩] 1 1 W hu hv hr (by simp) hw hTb).mono ?_;rintro _ w' ⟨⟨b,rfl,hb⟩,hk⟩;rw[hb.2 hs1];exact ⟨rfl,hk⟩
 have HR0:Hid (∀ W ar1 v,NL W ar1 T→SL W v [⟨2,secN 2⟩]→Tab W→Calls Tryz.prog 16 #[ar1,.int .i64 0,v] W fun e w'=>e=.returned (.bool false)∧Kp W w'):=fun W ar1 v hu hv hTb=>by
  refine (adF ar1 v T [⟨2,secN 2⟩] 1 0 W hu hv hr (by simp) hw hTb).mono ?_;rintro _ w' ⟨⟨b,rfl,hb⟩,hk⟩;cases b
  ·exact ⟨rfl,hk⟩
  ·exact absurd (hb.1 rfl) hs0
 have HPS:Hid (∀ W x y x' y',PIn W x y MP→PIn W x' y' MP→Calls Tryz.prog 18 #[.agg #[x,y],.agg #[x',y']] W fun e w'=>e=.returned (.bool true)∧Kp W w'):=fun W x y x' y' h1 h2=>by
  refine (aeg x y x' y' MP MP W h1 h2).mono ?_;rintro _ w' ⟨⟨b,rfl,hb⟩,hk⟩;rw[hb.2 rfl];exact ⟨rfl,hk⟩
 have hlen1:MP.step.length=1:=hmf.1;have HPN:Hid (∀ W x y,PIn W x y MP→Calls Tryz.prog 18 #[.agg #[x,y],.agg #[.slice none 0 0,.slice none 0 0]] W fun e w'=>e=.returned (.bool false)∧Kp W w'):=fun W x y h1=>by
  refine (aeg x y _ _ MP ⟨[],[]⟩ W h1 ⟨aaM W,arZ.nil W⟩).mono ?_;rintro _ w' ⟨⟨b,rfl,hb⟩,hk⟩;cases b
  ·exact ⟨rfl,hk⟩
  ·have:=hb.1 rfl
   rw[this] at hlen1;cases hlen1
 have hfor1:(stAt MP.step 0).fors.length=1:=(hmf.2.2 0 (by decide)).1;have HL:=Lib.hid (And.intro hlen1 (And.intro hfor1 (And.intro hmL (And.intro hmP hbk1))));clear f1 f2 f3 f4 f5 f6 f7 f8 hr hT hs1 hs0 hbk hsm hmf hmE hmP hmL l1 l2 hbk1 hw hlen1 hfor1 hTT hMM hPP hTD;have n1:=HSEC.out 1;have n2:=HSEC.out 2;have n3:=HSEC.out 3;have n4:=HSEC.out 4;rw[show (((1:UInt8).toNat:Nat):Int)=1 from rfl] at n1;rw[show (((2:UInt8).toNat:Nat):Int)=2 from rfl] at n2;rw[show (((3:UInt8).toNat:Nat):Int)=3 from rfl] at n3;rw[show (((4:UInt8).toNat:Nat):Int)=4 from rfl] at n4;have N1:=Lib.hid n1;have N2:=Lib.hid n2;have N3:=Lib.hid n3;have N4:=Lib.hid n4;clear n1 n2 n3 n4 HSEC;go_enter Tryz.func9,Tryz.ntmps9;go_wp2_with fail;refine (N1.out w).mono ?_;rintro _ w1 ⟨⟨r1,rfl,s1⟩,k1⟩;have R1:=Lib.hid s1;have K1:=Lib.hid k1;clear s1 k1 N1;go_wp2_with fail;refine (HHA.out 1 w1 _ R1.out).mono ?_;rintro _ w2 ⟨⟨r2,rfl,s2⟩,k2⟩;have R2:=Lib.hid s2;have K2:=Lib.hid (K1.out.trans k2);clear s2 k2 R1 K1;go_wp2_with fail;refine (HNEW.out w2 _ R2.out).mono ?_;rintro _ w3 ⟨⟨r3,rfl,s3⟩,k3⟩;have U3:=Lib.hid s3;have K3:=Lib.hid (K2.out.trans k3);clear s3 k3 R2 K2 HNEW;go_wp2_with fail;refine (N2.out w3).mono ?_;rintro _ w4 ⟨⟨r4,rfl,s4⟩,k4⟩;have R4:=Lib.hid s4;have U4:=Lib.hid (U3.out.kp k4);have K4:=Lib.hid (K3.out.trans k4);clear s4 k4 U3 K3;go_wp2_with fail;refine (HHA.out 2 w4 _ R4.out).mono ?_;rintro _ w5 ⟨⟨r5,rfl,s5⟩,k5⟩;have R5:=Lib.hid s5;have U5:=Lib.hid (U4.out.kp k5);have K5:=Lib.hid (K4.out.trans k5);clear s5 k5 U4 K4 R4 HHA;go_wp2_with fail;refine (HADD.out w5 _ _ U5.out R5.out).mono ?_;rintro _ w6 ⟨⟨r6,rfl,s6⟩,k6⟩;have T6:=Lib.hid s6;have K6:=Lib.hid (K5.out.trans k6);clear s6 k6 U5 R5 K5 HADD;go_wp2_with fail;refine (N3.out w6).mono ?_;rintro _ w7 ⟨⟨r7,rfl,s7⟩,k7⟩;have R7:=Lib.hid s7;have T7:=Lib.hid (T6.out.kp k7);have K7:=Lib.hid (K6.out.trans k7);clear s7 k7 T6 K6 N3;go_wp2_with fail;refine (N4.out w7).mono ?_;rintro _ w8 ⟨⟨r8,rfl,s8⟩,k8⟩;have R8:=Lib.hid s8;have R78:=Lib.hid (R7.out.kp k8);have T8:=Lib.hid (T7.out.kp k8);have K8:=Lib.hid (K7.out.trans k8);clear s8 k8 T7 K7 R7 N4;go_wp2_with fail;refine (HMK.out w8 _ _ _ T8.out R78.out R8.out (HTAB.out.kp K8.out)).mono ?_;rintro _ w9 ⟨⟨v9,rfl,hmv⟩,k9⟩;obtain ⟨mt,mo,mx,my,ml,rfl,hmi⟩:=hmv;obtain ⟨at',nt,ct,rfl⟩:=hmi.tree.sl;obtain ⟨ao,no,co,rfl⟩:=SE.sl hmi.own;obtain ⟨ax,nx,cx,rfl⟩:=aab hmi.path.pub;obtain ⟨ay,cy,rfl,_,_⟩:=SE.shape hmi.path.step;obtain ⟨al,cl,rfl,_,_⟩:=hmi.last.shape;have hpp:=hmi.path;rw[HL.out.2.2.2.1] at hpp hmi;rw[HL.out.2.2.2.1];rw[HL.out.2.2.1] at hmi;rw[HL.out.2.2.1];obtain ⟨gs,os,cs,pv,qv,es,_,hnd⟩:=TL11.nodeK (i:=0) hpp.step (by rw[HL.out.1];decide);rw[HL.out.1] at hpp hmi es;rw[HL.out.1];simp only[Value.slice.injEq] at es;obtain ⟨rfl,_,rfl⟩:=es;have MI:=Lib.hid hmi;have PP:=Lib.hid hpp;have T9:=Lib.hid (T8.out.kp k9);have K9:=Lib.hid (K8.out.trans k9);have HNDD:=Lib.hid hnd;obtain ⟨_,_,_,hq0⟩:=hnd w9 (Kp.refl _);obtain ⟨af,cf,rfl,_,_⟩:=SE.shape hq0;rw[HL.out.2.1] at HNDD;clear hpp hmi k9 T8 K8 R78 R8 HMK hnd hq0;obtain ⟨wA,hwA⟩:∃ x,w9.alloc (.cells #[.slice at' nt ct,.slice ao no co,.slice ax nx cx,.slice (some ⟨gs,os,none⟩) 1 cy,.slice al 32 cl] 47)=x:=⟨_,rfl⟩;have HBA:Hid (Bx wA w9.heap.size 47 #[.slice at' nt ct,.slice ao no co,.slice ax nx cx,.slice (some ⟨gs,os,none⟩) 1 cy,.slice al 32 cl]):=by unfold Hid;rw[← hwA];exact Bx.new w9 _ _
 have KA:Hid (Kp w9 wA):=by unfold Hid;rw[← hwA];exact (Kp.refl _).alloc _
 have HSC:Hid (∀ W,Kp wA W→W.cell? ⟨w9.heap.size,0,none⟩=some (.slice at' nt ct)∧W.cell? ⟨w9.heap.size,2,none⟩=some (.slice ax nx cx)∧W.cell? ⟨w9.heap.size,3,none⟩=some (.slice (some ⟨gs,os,none⟩) 1 cy)∧W.cell? ⟨w9.heap.size,4,none⟩=some (.slice al 32 cl)):=fun W hW=>⟨(HBA.out.kp hW).cell 0,(HBA.out.kp hW).cell 2,(HBA.out.kp hW).cell 3,(HBA.out.kp hW).cell 4⟩
 obtain ⟨c0,c2,c3,c4⟩:=HSC.out wA (Kp.refl _);obtain ⟨_,d1,_,_⟩:=HNDD.out wA KA.out;simp only[Nat.zero_mul,Nat.add_zero] at d1;go_wp2_with fail;try rw[hwA]
 clear hwA;refine (N2.out wA).mono ?_;rintro _ wB ⟨⟨rB,rfl,sB⟩,kB⟩;obtain ⟨aB,nB,cB,rfl⟩:=aab sB;have RB:=Lib.hid sB;have KB:=Lib.hid kB;clear sB kB c0 c2 c3 c4 d1 N2 HNDD;have HLIT:Hid (SL (wB.alloc (.cells #[.int .i64 2,.slice aB nB cB] 90)) (.slice (some ⟨wB.heap.size,0,none⟩) 1 1) [⟨2,secN 2⟩]):=
  SE.lit1 (S:=shSd) (w:=wB) (vs:=[.int .i64 2,.slice aB nB cB]) (x:=⟨2,secN 2⟩) (cs:=#[.int .i64 2,.slice aB nB cB]) 90 ⟨_,rfl,RB.out,Free.none _⟩ rfl
 obtain ⟨wC,hwC⟩:∃ x,wB.alloc (.cells #[.int .i64 2,.slice aB nB cB] 90)=x:=⟨_,rfl⟩;rw[hwC] at HLIT;have KC:Hid (Kp wA wC):=by unfold Hid;rw[← hwC];exact KB.out.alloc _
 have KWC:Hid (Kp w9 wC):=KA.out.trans KC.out;obtain ⟨c0,c2,c3,c4⟩:=HSC.out wC KC.out;go_wp2_with fail;try rw[hwC]
 clear hwC;refine (HTK.out wC _ _ _ _ (T9.out.kp KWC.out) HLIT.out (PP.out.kp KWC.out) (HTAB.out.kp (K9.out.trans KWC.out))).mono ?_;rintro _ wD ⟨⟨vD,rfl,hmv⟩,kD⟩;obtain ⟨mt,mo,mx,my,ml,rfl,hmi⟩:=hmv;obtain ⟨at2,nt2,ct2,rfl⟩:=hmi.tree.sl;obtain ⟨ao2,no2,co2,rfl⟩:=SE.sl hmi.own;obtain ⟨ax2,nx2,cx2,rfl⟩:=aab hmi.path.pub;obtain ⟨ay2,ny2,cy2,rfl⟩:=SE.sl hmi.path.step;obtain ⟨al2,cl2,rfl,_,_⟩:=hmi.last.shape;obtain ⟨g1,g2,g3,g4⟩:=HL.out.2.2.2.2;have hlt2:TD.last.length=32:=by rw[g3];exact HL.out.2.2.1
 have q1:=hmi.tree;have q2:=hmi.last;have q3:=hmi.path;rw[g2] at q1;rw[hlt2] at q2;rw[g3] at q2;rw[g4] at q3;rw[hlt2];have Q1:=Lib.hid q1;have Q2:=Lib.hid q2;have Q3:=Lib.hid q3;have KD:=Lib.hid (KC.out.trans kD);have LD:=Lib.hid (HLIT.out.kp kD);clear q1 q2 q3 g1 g2 g3 g4 hmi kD c0 c2 c3 c4 hlt2 HLIT KB RB HTK KWC KC;obtain ⟨wE,hwE⟩:∃ x,wD.alloc (.cells #[.slice at2 nt2 ct2,.slice ao2 no2 co2,.slice ax2 nx2 cx2,.slice ay2 ny2 cy2,.slice al2 32 cl2] 47)=x:=⟨_,rfl⟩;have HBE:Hid (Bx wE wD.heap.size 47 #[.slice at2 nt2 ct2,.slice ao2 no2 co2,.slice ax2 nx2 cx2,.slice ay2 ny2 cy2,.slice al2 32 cl2]):=by unfold Hid;rw[← hwE];exact Bx.new wD _ _
 have KE:Hid (Kp wD wE):=by unfold Hid;rw[← hwE];exact (Kp.refl _).alloc _
 have HSE:Hid (∀ W,Kp wE W→(W.cell? ⟨w9.heap.size,0,none⟩=some (.slice at' nt ct)∧W.cell? ⟨w9.heap.size,2,none⟩=some (.slice ax nx cx)∧W.cell? ⟨w9.heap.size,3,none⟩=some (.slice (some ⟨gs,os,none⟩) 1 cy)∧W.cell? ⟨w9.heap.size,4,none⟩=some (.slice al 32 cl))∧W.cell? ⟨wD.heap.size,0,none⟩=some (.slice at2 nt2 ct2)∧W.cell? ⟨wD.heap.size,2,none⟩=some (.slice ax2 nx2 cx2)∧W.cell? ⟨wD.heap.size,3,none⟩=some (.slice ay2 ny2 cy2)∧W.cell? ⟨wD.heap.size,4,none⟩=some (.slice al2 32 cl2)):=fun W hW=>⟨HSC.out W (KD.out.trans (KE.out.trans hW)),(HBE.out.kp hW).cell 0,(HBE.out.kp hW).cell 2,(HBE.out.kp hW).cell 3,(HBE.out.kp hW).cell 4⟩
 have KAE:=Lib.hid (KA.out.trans (KD.out.trans KE.out));have TE:=Lib.hid (T9.out.kp KAE.out);have KWE:=Lib.hid (K9.out.trans KAE.out);have LE:=Lib.hid (LD.out.kp KE.out);have M1:=Lib.hid (MI.out.tree.kp KAE.out);have M2:=Lib.hid (MI.out.last.kp KAE.out);have M3:=Lib.hid (PP.out.kp KAE.out);have P1:=Lib.hid (Q1.out.kp KE.out);have P2:=Lib.hid (Q2.out.kp KE.out);have P3:=Lib.hid (Q3.out.kp KE.out);clear MI PP T9 LD HBA HBE KD Q1 Q2 Q3 HSC;go_wp2_with fail;try rw[hwE]
 clear hwE;refine (HND.out wE _ TE.out (HTAB.out.kp KWE.out)).mono ?_;rintro _ wF ⟨⟨vF,rfl,sF⟩,kF⟩;obtain ⟨aF,nF,cF,rfl⟩:=sF.sl;have RF:=Lib.hid sF.ri;have KF:=Lib.hid kF;obtain ⟨⟨c0,c2,c3,c4⟩,e0,e2,e3,e4⟩:=HSE.out wF kF;clear sF kF HND;go_wp2_with fail;refine (HSA.out wF _ _ (M1.out.kp KF.out) (P1.out.kp KF.out)).mono ?_;rintro _ wG ⟨rfl,kG⟩;have KG:=Lib.hid (KF.out.trans kG);have RG:=Lib.hid (RI.kp RF.out kG);clear c0 c2 c3 c4 e0 e2 e3 e4 kG RF KF HSA;obtain ⟨⟨c0,c2,c3,c4⟩,e0,e2,e3,e4⟩:=HSE.out wG KG.out;go_wp2_with fail;refine (HSM.out wG _ _ _ (M2.out.kp KG.out) (P2.out.kp KG.out)).mono ?_;rintro _ _ ⟨rfl,rfl⟩;have HLI:Hid (RI (wG.alloc (.cells #[.int .i64 1] 3)) (.slice (some ⟨wG.heap.size,0,none⟩) 1 1) [1]):=(ON.lit1 wG 3 1).ri;obtain ⟨wH,hwH⟩:∃ x,wG.alloc (.cells #[.int .i64 1] 3)=x:=⟨_,rfl⟩;rw[hwH] at HLI;have KH0:Hid (Kp wG wH):=by unfold Hid;rw[← hwH];exact (Kp.refl _).alloc _
 have KH:=Lib.hid (KG.out.trans KH0.out);go_wp2_with fail;try rw[hwH]
 clear hwH;refine (HIN.out wH _ _ (RI.kp RG.out KH0.out) HLI.out).mono ?_;rintro _ wI ⟨rfl,kI⟩;have KI:=Lib.hid (KH.out.trans kI);clear kI c0 c2 c3 c4 e0 e2 e3 e4 KG KH KH0 RG HLI HIN HSM;go_wp2_with fail;refine (HR1.out wI _ _ (TE.out.kp KI.out) (arZ.kp LE.out KI.out) (HTAB.out.kp (KWE.out.trans KI.out))).mono ?_;rintro _ wJ ⟨rfl,kJ⟩;have KJ:=Lib.hid (KI.out.trans kJ);clear kJ KI HR1;go_wp2_with fail;refine (HR0.out wJ _ _ (TE.out.kp KJ.out) (arZ.kp LE.out KJ.out) (HTAB.out.kp (KWE.out.trans KJ.out))).mono ?_;rintro _ wK ⟨rfl,kK⟩;have KK:=Lib.hid (KJ.out.trans kK);clear kK KJ HR0;obtain ⟨⟨c0,c2,c3,c4⟩,e0,e2,e3,e4⟩:=HSE.out wK KK.out;go_wp2_with fail;refine (HPS.out wK _ _ _ _ (M3.out.kp KK.out) (P3.out.kp KK.out)).mono ?_;rintro _ wL ⟨rfl,kL⟩;have KL:=Lib.hid (KK.out.trans kL);clear kL KK HPS c0 c2 c3 c4 e0 e2 e3 e4;obtain ⟨⟨c0,c2,c3,c4⟩,e0,e2,e3,e4⟩:=HSE.out wL KL.out;go_wp2_with fail;refine (HPN.out wL _ _ (M3.out.kp KL.out)).mono ?_;rintro _ wM ⟨rfl,kM⟩;have KM':=Lib.hid (KWE.out.trans (KL.out.trans kM));clear kM KL HPN c0 c2 c3 c4 e0 e2 e3 e4;go_wp2_with fail;go_ret;exact ⟨rfl,KM'.out⟩
theorem may11 {t:List Nod}(h:adT t 40∧ac5 t):∃ K,aaa t K∧abo t K:=by
 obtain ⟨h1,K,h2⟩:=h;exact ⟨K,h2,h2.tidy h1⟩
theorem ahl {p:Prop}{b c:Bool}(h1:b=true↔p)(h2:c=true↔p):b=c:=by
 cases b <;> cases c <;> simp_all
theorem ahM (vt vo x y x' y':Value)(t:List Nod)(i:Int)(own:List Sd)(p q:Pa)(w:World)(ht:NL w vt t)(ho:SL w vo own)(hp:PIn w x y p)(hq:PIn w x' y' q)
  (hw:∀ k,k<own.length→-9223372036854775808≤(sdAt own k).node∧(sdAt own k).node≤9223372036854775807) (hTAB:Tab w):
  Calls Tryz.prog 3 #[.agg #[vt,.int .i64 i,vo,x,y,x',y']] w (Yes w):=by
 have HTAB:=Lib.hid hTAB;clear hTAB;have HSH:=Lib.hid (fun W (hW:Kp w W)=>ajj W (HTAB.out.kp hW));have HMAY:=Lib.hid (fun W (hW:Kp w W)=>akX vt t 40 W (ht.kp hW) (by omega));have HFS:=Lib.hid (fun W (hW:Kp w W)=>ahh vo own W (arZ.kp ho hW));have HFW:=Lib.hid (fun W (hW:Kp w W)=>aiq x y p W (hp.kp hW));have HFX:=Lib.hid (fun W (hW:Kp w W)=>aiq x' y' q W (hq.kp hW));have HN1:=Lib.hid (fun W (hW:Kp w W) K (hr:aaa t K)=>ae9 vt t K i W (ht.kp hW) hr (HTAB.out.kp hW));have HN2:=Lib.hid (fun W (hW:Kp w W) K (hr:aaa t K)=>ahF vt t K i W (ht.kp hW) hr);have HR1:=Lib.hid (fun W (hW:Kp w W) K (hr:aaa t K) (hl:alf own)=>adF vt vo t own K i W (ht.kp hW) (arZ.kp ho hW) hr (by have:=hl.1;omega) hw (HTAB.out.kp hW));have HR2:=Lib.hid (fun W (hW:Kp w W) K (hr:aaa t K) (hl:alf own)=>ajh vt vo t K i own W (ht.kp hW) hr (arZ.kp ho hW) (by have:=hl.1;omega));have HS1:=Lib.hid (fun W (hW:Kp w W)=>aeg x y x' y' p q W (hp.kp hW) (hq.kp hW));have HS2:=Lib.hid (fun W (hW:Kp w W)=>ajd x y x' y' p q W (hp.kp hW) (hq.kp hW));have HIN:Hid (∀ W ar1 v (l:List Nat),RN W ar1 l→RN W v l→Calls Tryz.prog 15 #[ar1,v] W fun e w'=>e=.returned (.bool true)∧Kp W w'):=fun W ar1 v l hu hv=>by
  have:=ad7 ar1 v _ _ W hu.ri hv.ri;rwa [decide_eq_true rfl] at this
 obtain ⟨a,c,rfl,p1,s1⟩:=ht.shape;obtain ⟨ao,no,co,rfl⟩:=SE.sl ho;obtain ⟨ax,nx,cx,rfl⟩:=aab hp.pub;obtain ⟨ay,ny,cy,rfl⟩:=SE.sl hp.step;obtain ⟨ax',nx',cx',rfl⟩:=aab hq.pub;obtain ⟨ay',ny',cy',rfl⟩:=SE.sl hq.step;generalize t.length=N at *;generalize abO t i=E1 at *;clear ht ho hp hq p1 s1 hw;obtain ⟨w1,hw1⟩:∃ x,((w.alloc (.cells #[.slice a N c,.int .i64 i,.slice ao no co,.slice ax nx cx,.slice ay ny cy,.slice ax' nx' cx',.slice ay' ny' cy'] 29)).alloc (.cells #[.slice ax nx cx,.slice ay ny cy] 27)).alloc (.cells #[.slice ax' nx' cx',.slice ay' ny' cy'] 27)=x:=⟨_,rfl⟩;have HBP:Hid (Bx w1 (w.heap.size+1) 27 #[.slice ax nx cx,.slice ay ny cy]):=by
  unfold Hid;have:=Bx.new (w.alloc (.cells #[.slice a N c,.int .i64 i,.slice ao no co,.slice ax nx cx,.slice ay ny cy,.slice ax' nx' cx',.slice ay' ny' cy'] 29)) 27 #[.slice ax nx cx,.slice ay ny cy];rw[World.size_alloc] at this;rw[← hw1];exact this.kp ((Kp.refl _).alloc _)
 have HBQ:Hid (Bx w1 (w.heap.size+2) 27 #[.slice ax' nx' cx',.slice ay' ny' cy']):=by
  unfold Hid;have:=Bx.new ((w.alloc (.cells #[.slice a N c,.int .i64 i,.slice ao no co,.slice ax nx cx,.slice ay ny cy,.slice ax' nx' cx',.slice ay' ny' cy'] 29)).alloc (.cells #[.slice ax nx cx,.slice ay ny cy] 27)) 27 #[.slice ax' nx' cx',.slice ay' ny' cy'];rw[World.size_alloc,World.size_alloc] at this;rw[← hw1];exact this
 have K1:Hid (Kp w w1):=by unfold Hid;rw[← hw1];exact (((Kp.refl w).alloc _).alloc _).alloc _
 have HCL:Hid (∀ W,Kp w1 W→W.cell? ⟨w.heap.size+1,0,none⟩=some (.slice ax nx cx)∧W.cell? ⟨w.heap.size+1,1,none⟩=some (.slice ay ny cy)∧W.cell? ⟨w.heap.size+2,0,none⟩=some (.slice ax' nx' cx')∧W.cell? ⟨w.heap.size+2,1,none⟩=some (.slice ay' ny' cy')):=fun W hW=>⟨(HBP.out.kp hW).cell 0,(HBP.out.kp hW).cell 1,(HBQ.out.kp hW).cell 0,(HBQ.out.kp hW).cell 1⟩
 go_enter Tryz.func3,Tryz.ntmps3;go_wp2_with fail;try rw[hw1]
 clear hw1;refine (HSH.out w1 K1.out).mono ?_;rintro _ w2 ⟨rfl,k2⟩;have KK:=Lib.hid k2;clear k2 HSH;go_wp2_with fail;refine (HMAY.out w2 (K1.out.trans KK.out)).mono ?_;rintro _ w3 ⟨⟨bA,rfl,hA⟩,k3⟩;have KK:=Lib.hid (KK.out.trans k3);clear k3 HMAY;cases bA
 ·clear hA
  have KE:=Lib.hid (K1.out.trans KK.out);go_wp2_with fail;go_ret;exact ⟨rfl,KE.out⟩
 obtain ⟨K,hr,hd⟩:=may11 (hA.1 rfl);have HRD:=Lib.hid hr;clear hA hr hd;go_wp2_with fail;refine (HFS.out w3 (K1.out.trans KK.out)).mono ?_;rintro _ _ ⟨⟨bB,rfl,hB⟩,rfl⟩;clear HFS;cases bB
 ·clear hB
  have KE:=Lib.hid (K1.out.trans KK.out);go_wp2_with fail;go_ret;exact ⟨rfl,KE.out⟩
 have HSS:=Lib.hid (hB.1 rfl);obtain ⟨c0,c1,d0,d1⟩:=HCL.out w3 KK.out;clear hB;go_wp2_with fail;refine (HFW.out w3 (K1.out.trans KK.out)).mono ?_;rintro _ w4 ⟨⟨bC,rfl,hC⟩,k4⟩;have KK:=Lib.hid (KK.out.trans k4);clear k4 HFW c0 c1 d0 d1 hC;cases bC
 ·have KE:=Lib.hid (K1.out.trans KK.out)
  go_wp2_with fail;go_ret;exact ⟨rfl,KE.out⟩
 obtain ⟨c0,c1,d0,d1⟩:=HCL.out w4 KK.out;go_wp2_with fail;refine (HFX.out w4 (K1.out.trans KK.out)).mono ?_;rintro _ w5 ⟨⟨bD,rfl,hD⟩,k5⟩;have KK:=Lib.hid (KK.out.trans k5);clear k5 HFX c0 c1 d0 d1 hD;cases bD
 ·have KE:=Lib.hid (K1.out.trans KK.out)
  go_wp2_with fail;go_ret;exact ⟨rfl,KE.out⟩
 go_wp2_with fail;refine (HN1.out w5 (K1.out.trans KK.out) K HRD.out).mono ?_;rintro _ w6 ⟨⟨v6,rfl,r6⟩,k6⟩;obtain ⟨a6,n6,c6,rfl⟩:=r6.sl;have KK:=Lib.hid (KK.out.trans k6);have R6:=Lib.hid r6;clear k6 r6 HN1;go_wp2_with fail;refine (HN2.out w6 (K1.out.trans KK.out) K HRD.out).mono ?_;rintro _ w7 ⟨⟨v7,rfl,r7⟩,k7⟩;obtain ⟨a7,n7,c7,rfl⟩:=r7.sl;have KK:=Lib.hid (KK.out.trans k7);have R6:=Lib.hid (R6.out.kp k7);have R7:=Lib.hid r7;have HRA:=Lib.hid (fun W hW=>HR1.out W hW K HRD.out HSS.out);have HRB:=Lib.hid (fun W hW=>HR2.out W hW K HRD.out HSS.out);have heq:(E1==E1)=true:=beq_self_eq_true _;clear k7 r7 HN2 HR1 HR2;have KD:Hid (Kp w7 w7.drew):=(Kp.refl w7).drew;have S0:=Lib.hid (HCL.out w7 KK.out);have arW:=Lib.hid (HCL.out w7.drew (KK.out.trans KD.out));obtain ⟨c0,c1,d0,d1⟩:=S0.out;go_wp2_with fail;go_region_held3 (fun W=>W.cell? ⟨w.heap.size+1,0,none⟩=some (.slice ax nx cx)∧W.cell? ⟨w.heap.size+1,1,none⟩=some (.slice ay ny cy)∧W.cell? ⟨w.heap.size+2,0,none⟩=some (.slice ax' nx' cx')∧W.cell? ⟨w.heap.size+2,1,none⟩=some (.slice ay' ny' cy'))
  (first | with_reducible exact S0.out | with_reducible exact arW.out | with_reducible exact S2.out | with_reducible exact S3.out | with_reducible exact S4.out | with_reducible exact S5.out | with_reducible exact S6.out | fail)
  (first
   | (go_at_call 19;refine (HS2.out _ (K1.out.trans (KK.out.trans G5.out))).mono ?_;rintro _ wf ⟨⟨bs2,rfl,h9⟩,k9⟩;have e9:=ahl Q8.out h9;subst e9;have hb9:(bs1==bs1)=true:=beq_self_eq_true _;have G6:Hid (Kp w7 wf):=G5.out.trans k9;have S6:=Lib.hid (HCL.out wf (KK.out.trans G6.out));clear h9 k9)
   | (go_at_call 18;refine (HS1.out _ (K1.out.trans (KK.out.trans G4.out))).mono ?_;rintro _ we ⟨⟨bs1,rfl,h8⟩,k8⟩;have Q8:=Lib.hid h8;have G5:Hid (Kp w7 we):=G4.out.trans k8;have S5:=Lib.hid (HCL.out we (KK.out.trans G5.out));clear h8 k8)
   | (go_at_call 17;refine (HRB.out _ (K1.out.trans (KK.out.trans G3.out))).mono ?_;rintro _ wd ⟨⟨br2,rfl,h7⟩,k7⟩;have e7:=ahl Q6.out h7;subst e7;have hb7:(br1==br1)=true:=beq_self_eq_true _;have G4:Hid (Kp w7 wd):=G3.out.trans k7;have S4:=Lib.hid (HCL.out wd (KK.out.trans G4.out));clear h7 k7)
   | (go_at_call 16;refine (HRA.out _ (K1.out.trans (KK.out.trans G2.out))).mono ?_;rintro _ wc ⟨⟨br1,rfl,h6⟩,k6⟩;have Q6:=Lib.hid h6;have G3:Hid (Kp w7 wc):=G2.out.trans k6;have S3:=Lib.hid (HCL.out wc (KK.out.trans G3.out));clear h6 k6)
   | (go_at_call 15;refine (HIN.out _ _ _ _ (R6.out.kp KD.out) (R7.out.kp KD.out)).mono ?_;rintro _ wb ⟨rfl,k5⟩;have G2:Hid (Kp w7 wb):=KD.out.trans k5;have S2:=Lib.hid (HCL.out wb (KK.out.trans G2.out));clear k5))
 all_goals (
  have KE:=Lib.hid (K1.out.trans (KK.out.trans G6.out));clear S0 arW S2 S3 S4 S5 S6 c0 c1 d0 d1;go_wp2_with fail;go_ret;exact ⟨by simp,KE.out⟩)
end Go.Proofs.YthmhklmkgkfcpaaGreatDoor

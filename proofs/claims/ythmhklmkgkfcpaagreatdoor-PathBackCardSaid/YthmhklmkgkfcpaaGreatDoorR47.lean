import Derived.Test.YthmhklmkgkfcpaaGreatDoorR15
import Derived.Test.YthmhklmkgkfcpaaGreatDoorR31
import Derived.Test.YthmhklmkgkfcpaaGreatDoorR32
import Derived.Test.YthmhklmkgkfcpaaGreatDoorR33
import Derived.Test.YthmhklmkgkfcpaaGreatDoorR34
import Derived.Test.YthmhklmkgkfcpaaGreatDoorR46
set_option linter.unusedVariables false
set_option linter.unusedSimpArgs false
set_option maxHeartbeats 8000000
set_option maxRecDepth 100000
namespace Go.Proofs.YthmhklmkgkfcpaaGreatDoor
open Go.RowKit
theorem may11 {t:List Nod}(h:adQ t 40∧adb t):∃ K,aab t K∧aa3 t K:=by
 obtain ⟨h1,K,h2⟩:=h;exact ⟨K,h2,h2.tidy h1⟩
theorem ap6 {t:List Nod}{K i:Nat}{seed secret:List UInt8}(info:List UInt8)(hr:aab t K)(hT:aa3 t K)(hk:(ats t (2*i)).kind=1)(h1:seed.length=32)(h2:secret.length=32):
  aex t (i:Int) seed secret=0∧aab (abQ t K (i:Int) seed secret info).tree K∧aaI (abQ t K (i:Int) seed secret info).tree K (i:Int) (abQ t K (i:Int) seed secret info).own ∧
  (abQ t K (i:Int) seed secret info).own.length≤2000∧(abQ t K (i:Int) seed secret info).last.length=32∧(abQ t K (i:Int) seed secret info).path=aaO t K i seed secret info:=by
 have hE:aex t (i:Int) seed secret=0:=by
  unfold aex;rw[if_pos ⟨h1,h2⟩];unfold acY;rw[if_pos ((hr.there_iff i).2 hk)]
 have hV:abQ t K (i:Int) seed secret info=⟨layP t (i:Int) (aaa t i K) (aaO t K i seed secret info),ownS [⟨2*(i:Int),seed⟩] secret (aaa t i K),aaO t K i seed secret info,afy secret (ixS t i K).length⟩:=by
  unfold abQ;rw[if_pos hE,Int.toNat_natCast]
 have hf:=acM t K i seed secret info;obtain ⟨hsl,hwl⟩:=aax t i K;have hL:=afB hr hT hk (aaO t K i seed secret info) hf.2.1 (fun a ha=>(hf.2.2 a (by omega)).2);have hM10:(ixS t i K).length≤10:=Nat.le_trans (ab3 t i K) hr.le;rw[hV];refine ⟨hE,hL.1,amp info hr hT hk h1 h2,?_,acu h2 _,rfl⟩;show (ownS [⟨2*(i:Int),seed⟩] secret (aaa t i K)).length≤2000
 rw[akR,hsl];show 1+(ixS t i K).length≤2000
 omega
theorem tookB {t:List Nod}{K i me:Nat}{own:List Sd}{seed secret:List UInt8}(info:List UInt8)(hr:aab t K)(hT:aa3 t K)(hk:(ats t (2*i)).kind=1)(hne:i≠me)(hs:aaI t K (me:Int) own)(ho:own.length≤1000)(h1:seed.length=32)(h2:secret.length=32):
  aaI (abQ t K (i:Int) seed secret info).tree K (me:Int) (acN t K (i:Int) (me:Int) own info (aaO t K i seed secret info)).own∧(acN t K (i:Int) (me:Int) own info (aaO t K i seed secret info)).own.length≤2000:=by
 obtain ⟨b1,b2,b3,b4,b5⟩:=agY info hr hk hne hs h1 h2;have hE:=(ap6 info hr hT hk h1 h2).1;have hV:(abQ t K (i:Int) seed secret info).tree=layP t (i:Int) (aaa t i K) (aaO t K i seed secret info):=by
  unfold abQ;rw[if_pos hE,Int.toNat_natCast]
 have hO:(acN t K (i:Int) (me:Int) own info (aaO t K i seed secret info)).own=ownS (ad3 K i own) (secS secret (kM t i me)) ((aaa t i K).drop (kM t i me)):=by
  unfold acN;rw[if_pos b1,Int.toNat_natCast,Int.toNat_natCast,b2]
 obtain ⟨hsl,hwl⟩:=aax t i K;have hM10:(ixS t i K).length≤10:=Nat.le_trans (ab3 t i K) hr.le;rw[hV,hO];refine ⟨amq info hr hT hk hne hs h1 h2,?_⟩;rw[akR,List.length_drop,hsl];have:(ad3 K i own).length≤own.length:=List.length_filter_le _ _;omega
theorem ajm (vt vo:Value)(t:List Nod)(i me:Int)(own:List Sd)(b:UInt8)(w:World)(ht:NL w vt t)(ho:SL w vo own)(hTAB:Tab w):
  Calls Tryz.prog 6 #[.agg #[vt,.int .i64 i,.int .i64 me,vo,.int .u8 (b.toNat:Int)]] w (Yes w):=by
 have HTAB:=Lib.hid hTAB;clear hTAB;have HSH:=Lib.hid (fun W (hW:Kp w W)=>ajl W (HTAB.out.kp hW));have HMAY:=Lib.hid (fun W (hW:Kp w W)=>akY vt t 40 W (ht.kp hW) (by omega));have HFS:=Lib.hid (fun W (hW:Kp w W)=>ahm vo own W (ar4.kp ho hW));have HRT:=Lib.hid (fun W (hW:Kp w W) K (hr:aab t K) (hl:am6 own)=>afc vt vo t K me own W (ht.kp hW) hr (ar4.kp ho hW) (by have:=hl.1;omega));have HLF:=Lib.hid (fun W (hW:Kp w W) (hl:t.length≤100000)=>aeC vt t i W (ht.kp hW) hl);have HSEC:Hid (∀ (n:UInt8) W,Calls Tryz.prog 26 #[.int .u8 (n.toNat:Int)] W fun e w'=>(∃ r,e=.returned r∧Rd w' r (secN n))∧Kp W w'):=fun n W=>(af4 n W).mono fun e w' ⟨⟨r,h1,h2,_⟩,k⟩=>⟨⟨r,h1,h2⟩,k⟩
 have hwr:IntKind.u8.wrap ((b.toNat:Int)+1)=((b+1).toNat:Int):=by
  rw[show (b.toNat:Int)+1=((b.toNat+1:Nat):Int) by omega,IntKind.wrap_u8];simp
 have HU:=Lib.hid ht;have HO:=Lib.hid ho;obtain ⟨a,c,rfl,p1,s1⟩:=ht.shape;obtain ⟨ao,no,co,rfl⟩:=SE.sl ho;obtain ⟨N,hN⟩:∃ N,t.length=N:=⟨_,rfl⟩;have HN:=Lib.hid hN;rw[hN] at HMAY HRT HLF HU ⊢;clear ht ho p1 s1 hN;have K1:Hid (Kp w (w.alloc (.cells #[.slice a N c,.int .i64 i,.int .i64 me,.slice ao no co,.int .u8 (b.toNat:Int)] 60))):=(Kp.refl w).alloc _;go_enter Tryz.func6,Tryz.ntmps6;go_wp2_with fail;refine (HSH.out _ K1.out).mono ?_;rintro _ w2 ⟨rfl,k2⟩;have KK:=Lib.hid (K1.out.trans k2);clear k2 HSH;go_wp2_with fail;refine (HMAY.out w2 KK.out).mono ?_;rintro _ w3 ⟨⟨bA,rfl,hA⟩,k3⟩;have KK:=Lib.hid (KK.out.trans k3);clear k3 HMAY;cases bA
 ·clear hA
  go_wp2_with fail;go_ret;exact ⟨rfl,KK.out⟩
 obtain ⟨K,hr,hd⟩:=may11 (hA.1 rfl);have HRD:=Lib.hid (And.intro hr hd);clear hA hr hd;go_wp2_with fail;refine (HFS.out w3 KK.out).mono ?_;rintro _ _ ⟨⟨bB,rfl,hB⟩,rfl⟩;clear HFS;cases bB
 ·clear hB
  go_wp2_with fail;go_ret;exact ⟨rfl,KK.out⟩
 have HS1:=Lib.hid (hB.1 rfl);clear hB;go_wp2_with fail;refine (HRT.out w3 KK.out K HRD.out.1 HS1.out).mono ?_;rintro _ w5 ⟨⟨bD,rfl,hD⟩,k5⟩;have KK:=Lib.hid (KK.out.trans k5);clear k5 HRT;cases bD
 ·clear hD
  go_wp2_with fail;go_ret;exact ⟨rfl,KK.out⟩
 have HS3:=Lib.hid (hD.1 rfl);clear hD;go_wp2_with fail;refine (HLF.out w5 KK.out (by rw[← HN.out];exact Nat.le_trans HRD.out.1.small.1 (by omega))).mono ?_;rintro _ _ ⟨rfl,rfl⟩;clear HLF;by_cases hth:aar t i
 ·rw[decide_eq_true hth]
  obtain ⟨k,rfl,_,hkind,_⟩:=acl HRD.out.1 hth;obtain ⟨m,rfl,_,_,_⟩:=acl HRD.out.1 HS3.out.1;clear hth;have HMK:Hid (∀ W v1 v2 v3,Kp w W→Rd W v1 (secN b)→Rd W v2 (secN (b+1))→Rd W v3 [b]→Calls Tryz.prog 20 #[.slice a N c,.int .i64 (k:Int),v1,v2,v3] W fun e w'=>(∃ v,e=.returned (.tuple #[v,.int .i64 0])∧MV w' v (abQ t K (k:Int) (secN b) (secN (b+1)) [b]))∧Kp W w'):=fun W v1 v2 v3 hW h1 h2 h3=>by
   have:=af1 (.slice a N c) v1 v2 v3 t K (k:Int) (secN b) (secN (b+1)) [b] W (HU.out.kp hW) HRD.out.1 HRD.out.2 h1 h2 h3 (by simp) (HTAB.out.kp hW);rwa [(ap6 [b] HRD.out.1 HRD.out.2 hkind (aaV b) (aaV (b+1))).1] at this
  have HTKE:Hid (k≠m→∀ W vi x y,Kp w W→Rd W vi [b]→PIn W x y (aaO t K k (secN b) (secN (b+1)) [b])→Calls Tryz.prog 23 #[.slice a N c,.int .i64 (k:Int),.int .i64 (m:Int),.slice ao no co,vi,.agg #[x,y]] W fun e w'=>(∃ v,e=.returned (.tuple #[v,.int .i64 0])∧∃ TD:Md,MV w' v TD∧TD.tree=(abQ t K (k:Int) (secN b) (secN (b+1)) [b]).tree∧TD.last=(abQ t K (k:Int) (secN b) (secN (b+1)) [b]).last∧TD.path=aaO t K k (secN b) (secN (b+1)) [b]∧aaI (abQ t K (k:Int) (secN b) (secN (b+1)) [b]).tree K (m:Int) TD.own∧TD.own.length≤2000)∧Kp W w'):=fun hne W vi x y hW hi hp=>by
   have hsm:=aig (t:=t) (K:=K) (i:=k) (secret:=secN (b+1)) (secN b) [b] HRD.out.1 (by have:=aab.lt_of (t:=t) (x:=2*k) (by rw[hkind];decide);have:=HRD.out.1.len2;omega) (aaV (b+1));have hbk:=agY [b] HRD.out.1 hkind hne HS3.out (aaV b) (aaV (b+1));have htb:=tookB [b] HRD.out.1 HRD.out.2 hkind hne HS3.out (by have:=HS1.out.1;omega) (aaV b) (aaV (b+1));have hpm:=(ap6 [b] HRD.out.1 HRD.out.2 hkind (aaV b) (aaV (b+1))).2.2.2.2.2;refine (af2 (.slice a N c) (.slice ao no co) vi x y t K (k:Int) (m:Int) own [b] _ W (HU.out.kp hW) HRD.out.1 HRD.out.2 (ar4.kp HO.out hW) hi hp HS3.out (by simp) (by have:=HS1.out.1;omega) hsm.1 hsm.2 (HTAB.out.kp hW)).mono ?_;rintro e w' ⟨⟨v,he,hv⟩,hk⟩;rw[hbk.1] at he;exact ⟨⟨v,he,_,hv,hbk.2.2.1,hbk.2.2.2.1,hbk.2.2.2.2.trans hpm,htb⟩,hk⟩
  obtain ⟨_,f1,f2,f3,f4,f5⟩:=ap6 [b] HRD.out.1 HRD.out.2 hkind (aaV b) (aaV (b+1));generalize abQ t K (k:Int) (secN b) (secN (b+1)) [b]=MD at *;generalize aaO t K k (secN b) (secN (b+1)) [b]=MP at *;have HRT2:Hid (∀ W ar6 v (me:Int) (o:List Sd),NL W ar6 MD.tree→SL W v o→o.length≤2000→aaI MD.tree K me o→Calls Tryz.prog 17 #[ar6,.int .i64 me,v] W fun e w'=>e=.returned (.bool true)∧Kp W w'):=fun W ar6 v me o hu hv hl hs=>by
   refine (afc ar6 v MD.tree K me o W hu f1 hv (by omega)).mono ?_;rintro _ w' ⟨⟨b,rfl,hb⟩,hk⟩;rw[hb.2 hs];exact ⟨rfl,hk⟩
  have HRT9:Hid (∀ W ar6,NL W ar6 MD.tree→Calls Tryz.prog 27 #[ar6] W fun e w'=>e=.returned (.bool true)∧Kp W w'):=fun W ar6 hu=>by
   refine (ae1 ar6 MD.tree W hu (Nat.le_trans f1.small.1 (by omega))).mono ?_;rintro _ w' ⟨⟨b,rfl,hb⟩,hk⟩;rw[hb.2 ⟨K,f1⟩];exact ⟨rfl,hk⟩
  have HSA:Hid (∀ W ar6 v,NL W ar6 MD.tree→NL W v MD.tree→Calls Tryz.prog 28 #[ar6,v] W fun e w'=>e=.returned (.bool true)∧Kp W w'):=fun W ar6 v hu hv=>by
   refine (afQ ar6 v _ _ W hu hv).mono ?_;rintro _ w' ⟨⟨b,rfl,hb⟩,hk⟩;rw[hb.2 rfl];exact ⟨rfl,hk⟩
  have HSM:Hid (∀ W ar6 v l,Rd W ar6 l→Rd W v l→Calls Tryz.prog 29 #[ar6,v] W fun e w'=>e=.returned (.bool true)∧W=w'):=fun W ar6 v l hu hv=>by
   have:=ab8 ar6 v l l W hu hv;rwa [decide_eq_true rfl] at this
  have HPS:Hid (∀ W x y x' y',PIn W x y MP→PIn W x' y' MP→Calls Tryz.prog 19 #[.agg #[x,y],.agg #[x',y']] W fun e w'=>e=.returned (.bool true)∧Kp W w'):=fun W x y x' y' h1 h2=>by
   refine (ajg x y x' y' MP MP W h1 h2).mono ?_;rintro _ w' ⟨⟨b,rfl,hb⟩,hk⟩;rw[hb.2 rfl];exact ⟨rfl,hk⟩
  have HF:=Lib.hid (And.intro f2 (And.intro f3 (And.intro f4 f5)));clear f1 f2 f3 f4 f5 hkind HRD HS1 HS3 HN;go_wp2_with fail;refine (HSEC.out b w5).mono ?_;rintro _ w6 ⟨⟨r6,rfl,s6⟩,k6⟩;have R6:=Lib.hid s6;have KK:=Lib.hid (KK.out.trans k6);clear s6 k6;go_wp2_with fail;refine (HSEC.out (b+1) w6).mono ?_;rintro _ w7 ⟨⟨r7,rfl,s7⟩,k7⟩;have R7:=Lib.hid s7;have R6:=Lib.hid (R6.out.kp k7);have KK:=Lib.hid (KK.out.trans k7);clear s7 k7 HSEC;have HL:Hid (Rd (w7.alloc (.cells #[.int .u8 (b.toNat:Int)] 5)) (.slice (some ⟨w7.heap.size,0,none⟩) 1 1) [b]):=(Ow.lit w7 5 w7.heap.size 1 #[.int .u8 (b.toNat:Int)] [b] (Nat.le_refl _) rfl (by decide) rfl).rd;have K78:Hid (Kp w7 (w7.alloc (.cells #[.int .u8 (b.toNat:Int)] 5))):=(Kp.refl _).alloc _;obtain ⟨w8,hw8⟩:∃ x,w7.alloc (.cells #[.int .u8 (b.toNat:Int)] 5)=x:=⟨_,rfl⟩;rw[hw8] at HL K78;have KK:=Lib.hid (KK.out.trans K78.out);go_wp2_with fail;try rw[hw8]
  clear hw8;refine (HMK.out w8 _ _ _ KK.out (R6.out.kp K78.out) (R7.out.kp K78.out) HL.out).mono ?_;rintro _ w9 ⟨⟨v,rfl,t1,o1,x1,y1,l1,rfl,m1⟩,k9⟩;have KK:=Lib.hid (KK.out.trans k9);have hpp:=m1.path;rw[HF.out.2.2.2] at hpp;obtain ⟨b1,e1,g1,rfl⟩:=m1.tree.sl;obtain ⟨b2,e2,g2,rfl⟩:=SE.sl m1.own;obtain ⟨b3,e3,g3,rfl⟩:=aac m1.path.pub;obtain ⟨b4,e4,g4,rfl⟩:=SE.sl m1.path.step;obtain ⟨b5,g5,rfl,_,_⟩:=m1.last.shape;rw[HF.out.2.2.1] at m1 ⊢;have M1:=Lib.hid m1;have PP:=Lib.hid hpp;clear k9 m1 hpp HMK R6 R7 HL K78;obtain ⟨wA,hwA⟩:∃ x,w9.alloc (.cells #[.slice b1 e1 g1,.slice b2 e2 g2,.slice b3 e3 g3,.slice b4 e4 g4,.slice b5 32 g5] 47)=x:=⟨_,rfl⟩;have HBA:Hid (Bx wA w9.heap.size 47 #[.slice b1 e1 g1,.slice b2 e2 g2,.slice b3 e3 g3,.slice b4 e4 g4,.slice b5 32 g5]):=by unfold Hid;rw[← hwA];exact Bx.new w9 _ _
  have KA:Hid (Kp w9 wA):=by unfold Hid;rw[← hwA];exact (Kp.refl _).alloc _
  have HSC:Hid (∀ W,Kp wA W→W.cell? ⟨w9.heap.size,0,none⟩=some (.slice b1 e1 g1)∧W.cell? ⟨w9.heap.size,1,none⟩=some (.slice b2 e2 g2)∧W.cell? ⟨w9.heap.size,2,none⟩=some (.slice b3 e3 g3)∧W.cell? ⟨w9.heap.size,3,none⟩=some (.slice b4 e4 g4)∧W.cell? ⟨w9.heap.size,4,none⟩=some (.slice b5 32 g5)):=fun W hW=>⟨(HBA.out.kp hW).cell 0,(HBA.out.kp hW).cell 1,(HBA.out.kp hW).cell 2,(HBA.out.kp hW).cell 3,(HBA.out.kp hW).cell 4⟩
  have KK:=Lib.hid (KK.out.trans KA.out);have M1:=Lib.hid (M1.out.kp KA.out);have PP:=Lib.hid (PP.out.kp KA.out);obtain ⟨c0,c1,c2,c3,c4⟩:=HSC.out wA (Kp.refl _);go_wp2_with fail;try rw[hwA]
  clear hwA;refine (HRT9.out wA _ M1.out.tree).mono ?_;rintro _ wB ⟨rfl,kB⟩;have KAB:=Lib.hid kB;clear c0 c1 c2 c3 c4 kB HRT9;obtain ⟨c0,c1,c2,c3,c4⟩:=HSC.out wB KAB.out;go_wp2_with fail;refine (HRT2.out wB _ _ (k:Int) MD.own (M1.out.tree.kp KAB.out) (ar4.kp M1.out.own KAB.out) HF.out.2.1 HF.out.1).mono ?_;rintro _ wC ⟨rfl,kC⟩;have KAC:=Lib.hid (KAB.out.trans kC);clear c0 c1 c2 c3 c4 kC KAB;obtain ⟨c0,c1,c2,c3,c4⟩:=HSC.out wC KAC.out;by_cases hkm:k=m
  ·subst hkm
   have KE:=Lib.hid (KK.out.trans KAC.out);go_wp2_with fail;go_ret;exact ⟨rfl,KE.out⟩
  ·have hneb:((k:Int)==(m:Int))=false:=beq_eq_false_iff_ne.2 (by omega)
   have hneb2:¬(k:Int)=(m:Int):=by omega
   have HTJ:=Lib.hid (HTKE.out hkm);have HL2:Hid (Rd (wC.alloc (.cells #[.int .u8 (b.toNat:Int)] 5)) (.slice (some ⟨wC.heap.size,0,none⟩) 1 1) [b]):=(Ow.lit wC 5 wC.heap.size 1 #[.int .u8 (b.toNat:Int)] [b] (Nat.le_refl _) rfl (by decide) rfl).rd;have KCD:Hid (Kp wC (wC.alloc (.cells #[.int .u8 (b.toNat:Int)] 5))):=(Kp.refl _).alloc _;obtain ⟨wD,hwD⟩:∃ x,wC.alloc (.cells #[.int .u8 (b.toNat:Int)] 5)=x:=⟨_,rfl⟩;rw[hwD] at HL2 KCD;have KAD:=Lib.hid (KAC.out.trans KCD.out);clear HTKE hkm;obtain ⟨d0,d1,d2,d3,d4⟩:=HSC.out wD KAD.out;go_wp2_with fail;try rw[hwD]
   clear hwD;refine (HTJ.out wD _ _ _ (KK.out.trans KAD.out) HL2.out (PP.out.kp KAD.out)).mono ?_;rintro _ wE ⟨⟨v2,rfl,TD,⟨t2,o2,x2,y2,l2,rfl,m2⟩,u1,u2,u3,u4,u5⟩,kE⟩;have q1:=m2.tree;have q2:=m2.last;have q3:=m2.path;have q4:=m2.own;obtain ⟨b1',e1',g1',rfl⟩:=q1.sl;obtain ⟨b2',e2',g2',rfl⟩:=SE.sl q4;obtain ⟨b3',e3',g3',rfl⟩:=aac q3.pub;obtain ⟨b4',e4',g4',rfl⟩:=SE.sl q3.step;obtain ⟨b5',e5',g5',rfl⟩:=aac q2;rw[u1] at q1;rw[u2] at q2;rw[u3] at q3;have U:=Lib.hid (And.intro u4 u5);have KAE:=Lib.hid (KAD.out.trans kE);obtain ⟨wF,hwF⟩:∃ x,wE.alloc (.cells #[.slice b1' e1' g1',.slice b2' e2' g2',.slice b3' e3' g3',.slice b4' e4' g4',.slice b5' e5' g5'] 47)=x:=⟨_,rfl⟩;have HBF:Hid (Bx wF wE.heap.size 47 #[.slice b1' e1' g1',.slice b2' e2' g2',.slice b3' e3' g3',.slice b4' e4' g4',.slice b5' e5' g5']):=by unfold Hid;rw[← hwF];exact Bx.new wE _ _
   have KEF:Hid (Kp wE wF):=by unfold Hid;rw[← hwF];exact (Kp.refl _).alloc _
   have KAF:=Lib.hid (KAE.out.trans KEF.out);have Q1:=Lib.hid (q1.kp KEF.out);have Q2:=Lib.hid (q2.kp KEF.out);have Q3:=Lib.hid (q3.kp KEF.out);have Q4:=Lib.hid (ar4.kp q4 KEF.out);have M1:=Lib.hid (M1.out.kp KAF.out);have PP:=Lib.hid (PP.out.kp KAF.out);have KK:=Lib.hid (KK.out.trans KAF.out);have HSE:Hid (∀ W,Kp wF W→(W.cell? ⟨w9.heap.size,0,none⟩=some (.slice b1 e1 g1)∧W.cell? ⟨w9.heap.size,1,none⟩=some (.slice b2 e2 g2)∧W.cell? ⟨w9.heap.size,2,none⟩=some (.slice b3 e3 g3)∧W.cell? ⟨w9.heap.size,3,none⟩=some (.slice b4 e4 g4)∧W.cell? ⟨w9.heap.size,4,none⟩=some (.slice b5 32 g5))∧W.cell? ⟨wE.heap.size,0,none⟩=some (.slice b1' e1' g1')∧W.cell? ⟨wE.heap.size,1,none⟩=some (.slice b2' e2' g2')∧W.cell? ⟨wE.heap.size,2,none⟩=some (.slice b3' e3' g3')∧W.cell? ⟨wE.heap.size,3,none⟩=some (.slice b4' e4' g4')∧W.cell? ⟨wE.heap.size,4,none⟩=some (.slice b5' e5' g5')):=fun W hW=>⟨HSC.out W (KAF.out.trans hW),(HBF.out.kp hW).cell 0,(HBF.out.kp hW).cell 1,(HBF.out.kp hW).cell 2,(HBF.out.kp hW).cell 3,(HBF.out.kp hW).cell 4⟩
   clear q1 q2 q3 q4 u1 u2 u3 u4 u5 kE m2 c0 c1 c2 c3 c4 d0 d1 d2 d3 d4 HTJ HL2 KCD KAD KAE;obtain ⟨⟨c0,c1,c2,c3,c4⟩,d0,d1,d2,d3,d4⟩:=HSE.out wF (Kp.refl _);go_wp2_with fail;try rw[hwF]
   clear hwF;refine (HSA.out wF _ _ Q1.out M1.out.tree).mono ?_;rintro _ wG ⟨rfl,kG⟩;have KG:=Lib.hid kG;clear kG c0 c1 c2 c3 c4 d0 d1 d2 d3 d4;obtain ⟨⟨c0,c1,c2,c3,c4⟩,d0,d1,d2,d3,d4⟩:=HSE.out wG KG.out;go_wp2_with fail;refine (HSM.out wG _ _ _ (Q2.out.kp KG.out) (M1.out.last.kp KG.out)).mono ?_;rintro _ _ ⟨rfl,rfl⟩;go_wp2_with fail;refine (HRT2.out wG _ _ (m:Int) _ (Q1.out.kp KG.out) (ar4.kp Q4.out KG.out) U.out.2 U.out.1).mono ?_;rintro _ wH ⟨rfl,kH⟩;have KH:=Lib.hid (KG.out.trans kH);clear kH c0 c1 c2 c3 c4 d0 d1 d2 d3 d4;obtain ⟨⟨c0,c1,c2,c3,c4⟩,d0,d1,d2,d3,d4⟩:=HSE.out wH KH.out;go_wp2_with fail;refine (HPS.out wH _ _ _ _ (Q3.out.kp KH.out) (PP.out.kp KH.out)).mono ?_;rintro _ wI ⟨rfl,kI⟩;have KE:=Lib.hid (KK.out.trans (KH.out.trans kI));clear kI c0 c1 c2 c3 c4 d0 d1 d2 d3 d4;go_wp2_with fail;go_ret;exact ⟨by simp,KE.out⟩
 ·rw[decide_eq_false hth]
  clear hth;go_wp2_with fail;go_ret;exact ⟨rfl,KK.out⟩
theorem akt (vt vo:Value)(t:List Nod)(i me:Int)(own:List Sd)(n:Int)(w:World)(ht:NL w vt t)(ho:SL w vo own)(hn:0≤n∧n≤255)(hTAB:Tab w):
  Calls Tryz.prog 6 #[.agg #[vt,.int .i64 i,.int .i64 me,vo,.int .u8 n]] w (Yes w):=by
 obtain ⟨k,rfl⟩:=Int.eq_ofNat_of_zero_le hn.1;have e:((UInt8.ofNat k).toNat:Int)=(k:Int):=by
  have:(UInt8.ofNat k).toNat=k:=by simp;omega
  rw[this]
 have:=ajm vt vo t i me own (UInt8.ofNat k) w ht ho hTAB;rwa [e] at this
end Go.Proofs.YthmhklmkgkfcpaaGreatDoor

import Derived.Test.YthmhklmkgkfcpaaGreatDoorU8
import Derived.Test.YthmhklmkgkfcpaaGreatDoorU14
import Derived.Test.YthmhklmkgkfcpaaGreatDoorU15
import Derived.Test.YthmhklmkgkfcpaaGreatDoorU25
import Derived.RegionTactic
set_option linter.unusedVariables false
set_option linter.unusedSimpArgs false
set_option maxHeartbeats 8000000
set_option maxRecDepth 100000
namespace Go.Proofs.YthmhklmkgkfcpaaGreatDoor
open Go.RowKit
theorem ajO (p:Nat)(T:TypeId)(vk:Value)(s:ByteArray)(key:List UInt8)(n:Int)(w:World)(hp:One T w p vk)(hk:Rd w vk key)(hkl:key.length≤2000)(hs:s.size≤300)(hn2:-9223372036854775808≤n∧n≤9223372036854775807):
  Calls Tryz.prog 237 #[.string s,.int .i64 n,.pointer (some ⟨p,0,none⟩)] w fun e w'=>(∃ v,e=.returned (.tuple #[v,.int .i64 (expE n)])∧Rd w' v (labR key s.data.toList [] n))∧Kp w w':=by
 have hL:=Lib.hid (aeO vk s (.slice none 0 0) key [] n w hk (abn w) hs (by simp) hkl hn2);obtain ⟨ak,nk,ck,rfl⟩:=hk.sl;have hc:=hp.cell;clear hp hk hkl hs hn2;go_enter Tryz.func237,Tryz.ntmps237;go_wp2_with fail;refine hL.out.mono ?_;rintro _ w1 ⟨⟨v,rfl,o1⟩,k1⟩;have r1:=o1.rd;clear o1;go_wp2_with fail;go_ret2;exact ⟨⟨_,rfl,r1⟩,k1⟩
theorem aeh (arO:Value)(key:List UInt8)(w:World)(hu:Rd w arO key):
  Calls Tryz.prog 202 #[arO] w fun e w'=>(∃ a b,e=.returned (.tuple #[a,b,.int .i64 (halE key)])∧Rd w' a (halA key)∧Rd w' b (halB key))∧Kp w w':=by
 obtain ⟨a1,c1,rfl,h1,h2⟩:=hu.shape;by_cases hk:key.length=32
 ·have e0:halE key=0:=if_pos hk
  have e1:halA key=labR key ao8 [] 16:=if_pos hk;have e2:halB key=labR key tagS [] 32:=if_pos hk;rw[e0,e1,e2];have HP:=Lib.hid (One.new 24 w (.slice a1 key.length c1));have HL1:Hid (∀ W,Kp (w.alloc (.cells #[.slice a1 key.length c1] 24)) W→Calls Tryz.prog 237 #[.string ⟨#[108,111,99,107]⟩,.int .i64 16,.pointer (some ⟨w.heap.size,0,none⟩)] W fun e w'=>(∃ v,e=.returned (.tuple #[v,.int .i64 0])∧Rd w' v (labR key ao8 [] 16))∧Kp W w'):=fun W hW=>ajO _ _ _ ⟨#[108,111,99,107]⟩ key 16 W (HP.out.kp hW) (hu.kp (((Kp.refl w).alloc _).trans hW)) (by omega) (by decide) (by omega)
  have HL2:Hid (∀ W,Kp (w.alloc (.cells #[.slice a1 key.length c1] 24)) W→Calls Tryz.prog 237 #[.string ⟨#[116,97,103]⟩,.int .i64 32,.pointer (some ⟨w.heap.size,0,none⟩)] W fun e w'=>(∃ v,e=.returned (.tuple #[v,.int .i64 0])∧Rd w' v (labR key tagS [] 32))∧Kp W w'):=fun W hW=>ajO _ _ _ ⟨#[116,97,103]⟩ key 32 W (HP.out.kp hW) (hu.kp (((Kp.refl w).alloc _).trans hW)) (by omega) (by decide) (by omega)
  clear HP;rw[hk] at HL1 HL2 h1 ⊢;clear hu hk e0 e1 e2;go_enter Tryz.func202,Tryz.ntmps202;go_wp2_with fail;refine (HL1.out _ (Kp.refl _)).mono ?_;rintro _ w1 ⟨⟨v1,rfl,r1⟩,k1⟩;go_wp2_with fail;refine (HL2.out w1 k1).mono ?_;rintro _ w2 ⟨⟨v2,rfl,r2⟩,k2⟩;have r1':=r1.kp k2;have kk:=(((Kp.refl w).alloc (.cells #[.slice a1 32 c1] 24)).trans k1).trans k2;clear k1 k2;go_wp2_with fail;go_ret3
  exact ⟨⟨_,_,rfl,r1',r2⟩,kk⟩
 ·have e0:halE key=1:=if_neg hk
  have e1:halA key=[]:=if_neg hk;have e2:halB key=[]:=if_neg hk;rw[e0,e1,e2];have hb2:((key.length:Int)==32)=false:=beq_eq_false_iff_ne.2 (by omega);have hb3:¬(key.length:Int)=32:=by omega
  go_enter Tryz.func202,Tryz.ntmps202;go_wp2_with fail;go_ret3
  exact ⟨⟨_,_,rfl,abn _,abn _⟩,(Kp.refl _).alloc _⟩
theorem apq (vk v:Value)(k:List UInt8)(ls:List (List UInt8))(w:World)(hk:Rd w vk k)(h:RL w v ls)(hkl:k.length≤2000)(hl:ls.flatten.length≤1900)(hn:ls.length<1000000):
  Calls Tryz.prog 204 #[vk,v] w fun e w'=>(∃ a c,e=.returned (.slice a 32 c)∧Ow 5 w' w.heap.size (.slice a 32 c) (macB k ls.flatten))∧Kp w w':=by
 go_enter Tryz.func204,Tryz.ntmps204;go_wp2_with fail;refine (anD _ _ k ls _ hk h hkl hl hn).mono ?_;rintro e w5 ⟨⟨a5,c5,rfl,r5⟩,k5⟩;go_wp2_with fail;go_ret;exact ⟨⟨_,_,rfl,r5⟩,k5⟩
structure Tags (w:World)(p q r:Nat)(own row nonce:List UInt8):Prop where
 mk ::
 one:∃ T v,One T w p v∧Rd w v own
 two:∃ T v,One T w q v∧Rd w v row
 three:∃ T v,One T w r v∧Rd w v nonce
theorem Tags.kp {w w':World}{p q r:Nat}{own row nonce:List UInt8}(h:Tags w p q r own row nonce)(k:Kp w w'):Tags w' p q r own row nonce:=by
 obtain ⟨⟨T1,v1,a1,b1⟩,⟨T2,v2,a2,b2⟩,⟨T3,v3,a3,b3⟩⟩:=h;exact ⟨⟨T1,v1,a1.kp k,b1.kp k⟩,⟨T2,v2,a2.kp k,b2.kp k⟩,⟨T3,v3,a3.kp k,b3.kp k⟩⟩
def tagV (p q r:Nat):Value:=.func (.func 203) #[] #[.pointer (some ⟨p,0,none⟩),.pointer (some ⟨q,0,none⟩),.pointer (some ⟨r,0,none⟩)]
theorem agV (p q r:Nat)(vs:Value)(own row nonce s:List UInt8)(w:World)(h:Tags w p q r own row nonce)(hs:Rd w vs s)(hol:own.length≤2000)(hl:row.length+nonce.length+s.length≤1900):
  Calls Tryz.prog 203 #[vs,.pointer (some ⟨p,0,none⟩),.pointer (some ⟨q,0,none⟩),.pointer (some ⟨r,0,none⟩)] w fun e w'=>(∃ a c,e=.returned (.slice a 32 c)∧Rd w' (.slice a 32 c) (macB own (row++(nonce++s))))∧Kp w w':=by
 obtain ⟨⟨T1,v1,a1,b1⟩,⟨T2,v2,a2,b2⟩,⟨T3,v3,a3,b3⟩⟩:=h;have q1:=a1.cell;have q2:=a2.cell;have q3:=a3.cell;have HF:Hid (([row,nonce,s]:List (List UInt8)).flatten=row++(nonce++s)):=by simp[Hid]
 have HT:=Lib.hid (apq v1 (.slice (some ⟨w.heap.size,0,none⟩) 3 3) own [row,nonce,s] _ (b1.kp ((Kp.refl _).alloc _)) (RL.lit3 (T:=24) b2 b3 hs) hol (by rw[HF.out];simp;omega) (by simp));rw[HF.out] at HT;obtain ⟨x1,n1,c1,rfl⟩:=b1.sl;obtain ⟨x2,n2,c2,rfl⟩:=b2.sl;obtain ⟨x3,n3,c3,rfl⟩:=b3.sl;obtain ⟨x4,n4,c4,rfl⟩:=hs.sl;clear a1 a2 a3 b1 b2 b3 hs hol hl;go_enter Tryz.func203,Tryz.ntmps203;go_wp2_with fail;refine HT.out.mono ?_;rintro e w5 ⟨⟨a5,c5,rfl,r5⟩,k5⟩;have k6:=((Kp.refl w).alloc (.cells #[.slice x2 n2 c2,.slice x3 n3 c3,.slice x4 n4 c4] 24)).trans k5;have r6:=r5.rd;clear r5 k5;go_wp2_with fail;go_ret;exact ⟨⟨_,_,rfl,r6⟩,k6⟩
theorem aeY (u1 u2 u3:Value)(key nonce aad:List UInt8)(w:World)(h1:Rd w u1 key)(h2:Rd w u2 nonce)(h3:Rd w u3 aad)(hk:key.length=32)(hn:nonce.length=12)(hl:aad.length≤1700):
  Calls Tryz.prog 172 #[u1,u2,u3] w fun e w'=>(∃ v p q r,e=.returned (.tuple #[v,tagV p q r,.int .i64 0])∧Rd w' v (ahl key)∧Tags w' p q r (ahm key) (rowB aad) nonce)∧Kp w w':=by
 unfold tagV;obtain ⟨a2,c2,rfl,p2,s2⟩:=h2.shape;have HH:Hid (∀ W,Kp w W→Calls Tryz.prog 202 #[u1] W fun e w'=>(∃ a b,e=.returned (.tuple #[a,b,.int .i64 0])∧Rd w' a (ahl key)∧Rd w' b (ahm key))∧Kp W w'):=fun W hW=>by
  have:=aeh u1 key W (h1.kp hW);rwa [show halE key=0 from if_pos hk,show halA key=ahl key from if_pos hk,show halB key=ahm key from if_pos hk] at this
 have hrow:=(ahM (x:=aad) (by omega)).1;have HR:Hid (∀ W,Kp w W→Calls Tryz.prog 166 #[u3] W fun e w'=>∃ arO,e=.returned (.tuple #[arO,.int .i64 0])∧Ow 5 w' W.heap.size arO (rowB aad)∧Kp W w'):=fun W hW=>by
  have:=akr u3 aad W (h3.kp hW);rwa [hrow] at this
 have H2:=Lib.hid h2;have HN:=Lib.hid (One.new 24 w (.slice a2 nonce.length c2));rw[hn] at H2 HN p2 ⊢;clear h1 h2 h3 hrow hk hn;go_enter Tryz.func172,Tryz.ntmps172;go_wp2_with fail;refine (HH.out _ ((Kp.refl w).alloc _)).mono ?_;rintro _ w1 ⟨⟨a,b,rfl,r1,r2⟩,k1⟩;have K1:=Lib.hid (((Kp.refl w).alloc (.cells #[.slice a2 12 c2] 24)).trans k1);have N1:=Lib.hid (HN.out.kp k1);have R1:=Lib.hid r1;have R2:=Lib.hid r2;have O1:=Lib.hid (fun T=>One.new T w1 b);obtain ⟨xb,nb,cb,rfl⟩:=r2.sl;obtain ⟨xa,na,ca,rfl⟩:=r1.sl;clear HN k1 r1 r2;go_wp2_with fail;refine (HR.out _ (K1.out.alloc _)).mono ?_;rintro _ w2 ⟨v2,rfl,o2,k2⟩;have k3:Kp w1 w2:=((Kp.refl w1).alloc _).trans k2;have O2:=Lib.hid ((O1.out _).kp k2);have N2:=Lib.hid (N1.out.kp k3);have K2:=Lib.hid (K1.out.trans k3);have A2:=Lib.hid (R1.out.kp k3);have B2:=Lib.hid (R2.out.kp k3);have C2:=Lib.hid o2.rd;have D2:=Lib.hid (H2.out.kp (K1.out.trans k3));obtain ⟨x2,n2,d2,rfl⟩:=o2.rd.sl;have E2:=Lib.hid (One.new 24 w2 (.slice x2 n2 d2));clear o2 k2 k3 O1 N1 K1 R1 R2 HR HH;go_wp2_with fail;go_ret3
 exact ⟨⟨_,_,_,_,rfl,A2.out.kp ((Kp.refl _).alloc _),⟨_,_,O2.out.kp ((Kp.refl _).alloc _),B2.out.kp ((Kp.refl _).alloc _)⟩,⟨_,_,E2.out,C2.out.kp ((Kp.refl _).alloc _)⟩,⟨_,_,N2.out.kp ((Kp.refl _).alloc _),D2.out.kp ((Kp.refl _).alloc _)⟩⟩,K2.out.alloc _⟩
theorem afN (u1 u2 u3:Value)(key nonce aad:List UInt8)(w:World)(h1:Rd w u1 key)(h2:Rd w u2 nonce)(h3:Rd w u3 aad)(hok:¬okK key nonce):
  Calls Tryz.prog 172 #[u1,u2,u3] w fun e w'=>e=.returned (.tuple #[.slice none 0 0,.nilFunc,.int .i64 1])∧Kp w w':=by
 obtain ⟨a2,c2,rfl,p2,s2⟩:=h2.shape;by_cases hn:nonce.length=12
 ·have hk:¬key.length=32:=fun h=>hok ⟨h,hn⟩
  have HH:Hid (∀ W,Kp w W→Calls Tryz.prog 202 #[u1] W fun e w'=>(∃ a b,e=.returned (.tuple #[a,b,.int .i64 1])∧Rd w' a []∧Rd w' b [])∧Kp W w'):=fun W hW=>by
   have:=aeh u1 key W (h1.kp hW);rwa [show halE key=1 from if_neg hk,show halA key=[] from if_neg hk,show halB key=[] from if_neg hk] at this
  rw[hn] at p2 ⊢;clear h1 h2 h3 hk hok hn;go_enter Tryz.func172,Tryz.ntmps172;go_wp2_with fail;refine (HH.out _ ((Kp.refl w).alloc _)).mono ?_;rintro _ w1 ⟨⟨a,b,rfl,r1,r2⟩,k1⟩;have K1:=Lib.hid (((Kp.refl w).alloc (.cells #[.slice a2 12 c2] 24)).trans k1);obtain ⟨xb,nb,cb,rfl⟩:=r2.sl;obtain ⟨xa,na,ca,rfl⟩:=r1.sl;clear k1 r1 r2 HH;go_wp2_with fail;go_ret3
  exact ⟨rfl,K1.out.alloc _⟩
 ·have hb2:((nonce.length:Int)==12)=false:=beq_eq_false_iff_ne.2 (by omega)
  have hb3:¬(nonce.length:Int)=12:=by omega
  go_enter Tryz.func172,Tryz.ntmps172;go_wp2_with fail;go_ret3
  exact ⟨rfl,(Kp.refl _).alloc _⟩
theorem ajU (u1 u2 u3 u4:Value)(key nonce aad b:List UInt8)(w:World)(h1:Rd w u1 key)(h2:Rd w u2 nonce)(h3:Rd w u3 aad)(h4:Rd w u4 b)(hl:aad.length+b.length≤1700):
  Calls Tryz.prog 139 #[u1,u2,u3,u4] w fun e w'=>(∃ r,e=.returned (.tuple #[r,.int .i64 (ao9 key nonce)])∧Rd w' r (apa key nonce aad b)∧aaN w.heap.size r)∧Kp w w':=by
 by_cases hok:okK key nonce
 ·obtain ⟨hk,hn⟩:=hok
  have e4:ao9 key nonce=0:=if_pos ⟨hk,hn⟩;have e5:apa key nonce aad b=aeQ key nonce aad b:=if_pos ⟨hk,hn⟩;rw[e4,e5];obtain ⟨e6,e7⟩:=alF (key:=key) b hn;have HP:=Lib.hid (aeY u1 u2 u3 key nonce aad w h1 h2 h3 hk hn (by omega));have HS:Hid (∀ W v,Kp w W→Rd W v (ahl key)→Calls Tryz.prog 173 #[v,u2,u4] W fun e w'=>(∃ r,e=.returned (.tuple #[r,.int .i64 0])∧Rd w' r (abd key nonce b))∧Kp W w'):=fun W v hW hv=>by
   rw[← e6,← e7];exact ae0 _ _ _ _ nonce b W hv (h2.kp hW) (h4.kp hW) (by omega)
  have HLL:=acY key nonce b;have hrl:=agq (x:=aad) (by omega);have hle:=ab1 aad.length;have HT:Hid (∀ W v p q r,Tags W p q r (ahm key) (rowB aad) nonce→Rd W v (abd key nonce b)→Calls Tryz.prog 203 #[v,.pointer (some ⟨p,0,none⟩),.pointer (some ⟨q,0,none⟩),.pointer (some ⟨r,0,none⟩)] W fun e w'=>(∃ a c,e=.returned (.slice a 32 c)∧Rd w' (.slice a 32 c) (tagB key nonce aad (abd key nonce b)))∧Kp W w'):=fun W v p q r ht hv=>
   agV p q r v (ahm key) (rowB aad) nonce _ W ht hv (by rw[afE];omega) (by omega)
  have HF:Hid (([abd key nonce b,tagB key nonce aad (abd key nonce b)]:List (List UInt8)).flatten=aeQ key nonce aad b):=by simp[Hid,aeQ]
  have HL:=Lib.hid (adX key nonce aad b);have HBL:Hid (b.length≤1700):=by unfold Hid;omega
  generalize tagB key nonce aad (abd key nonce b)=T at *;generalize abd key nonce b=L at *;generalize aeQ key nonce aad b=R at *;clear h1 h2 h3 h4 e4 e5 e6 e7 hk hn HLL hrl hle hl;go_enter Tryz.func139,Tryz.ntmps139;go_wp2_with fail;refine HP.out.mono ?_;rintro _ w1 ⟨⟨x,p,q,r,rfl,r1,t1⟩,k1⟩;unfold tagV;have K1:=Lib.hid k1;have R1:=Lib.hid r1;have T1:=Lib.hid t1;clear HP k1 r1 t1;go_wp2_with fail;refine (HS.out w1 x K1.out R1.out).mono ?_;rintro _ w2 ⟨⟨s,rfl,r3⟩,k2⟩;obtain ⟨a3,n3,c3,rfl⟩:=r3.sl;have T2:=Lib.hid (T1.out.kp k2);have K2:=Lib.hid (K1.out.trans k2);have R3:=Lib.hid r3;clear HS k2 r3 T1 R1 K1;go_wp2_with fail;refine (HT.out w2 _ p q r T2.out R3.out).mono ?_;rintro _ w3 ⟨⟨at3,ct3,rfl,r4⟩,k3⟩;have K3:=Lib.hid (K2.out.trans k3);have HRL:=Lib.hid (RL.lit2 (w:=w3) (T:=24) (R3.out.kp k3) r4);clear HT k3 r4 T2 R3 K2;go_wp2_with fail;refine (ab0 _ _ _ HRL.out (by rw[HF.out,HL.out];omega) (by rw[HF.out,HL.out];have:=HBL.out;omega) (by simp)).mono ?_;rw[HF.out];rintro _ w4 ⟨⟨v,rfl,o4⟩,k4⟩;have r5:=o4.rd;have n5:aaN w.heap.size v:=aaN.kp (w':=w3.alloc _) (fun g hg=>o4.own_ge g hg) (K3.out.alloc _);have k5:=(K3.out.alloc _).trans k4;clear o4 k4;go_wp2_with fail;go_ret2;exact ⟨⟨_,rfl,r5,n5⟩,k5⟩
 ·have e4:ao9 key nonce=1:=if_neg hok
  have e5:apa key nonce aad b=[]:=if_neg hok;rw[e4,e5];have HP:=Lib.hid (afN u1 u2 u3 key nonce aad w h1 h2 h3 hok);clear h1 h2 h3 h4 e4 e5 hok;go_enter Tryz.func139,Tryz.ntmps139;go_wp2_with fail;refine HP.out.mono ?_;rintro _ w1 ⟨rfl,k1⟩;go_wp2_with fail;go_ret2;exact ⟨⟨_,rfl,Rd.nil _,aaN.nil _ _ _⟩,k1⟩
theorem ajV (u1 u2 u3 u4:Value)(key nonce aad b:List UInt8)(w:World)(h1:Rd w u1 key)(h2:Rd w u2 nonce)(h3:Rd w u3 aad)(h4:Rd w u4 b)(hl:aad.length+b.length≤1700):
  Calls Tryz.prog 194 #[u1,u2,u3,u4] w fun e w'=>(∃ r,e=.returned (.tuple #[r,.int .i64 (aeR key nonce aad b)])∧Rd w' r (afo key nonce aad b))∧Kp w w':=by
 by_cases hok:okK key nonce
 ·obtain ⟨hk,hn⟩:=id hok
  have HP:=Lib.hid (aeY u1 u2 u3 key nonce aad w h1 h2 h3 hk hn (by omega));obtain ⟨a4,c4,rfl,p4,s4⟩:=h4.shape;by_cases hs:b.length<32
  ·have e4:aeR key nonce aad b=3:=by unfold aeR;rw[if_pos hok,if_pos hs]
   have e5:afo key nonce aad b=[]:=by unfold afo;rw[e4];rfl
   rw[e4,e5];have q0:IntKind.i64.wrap ((b.length:Int) - 32)=(b.length:Int) - 32:=IntWalk.i64_in _ (by omega);have q1:(b.length:Int) - 32<0:=by omega
   clear h1 h2 h3 h4 e4 e5 hok hk hn hl;go_enter Tryz.func194,Tryz.ntmps194;go_wp2_with fail;refine HP.out.mono ?_;rintro _ w1 ⟨⟨x,p,q,r,rfl,r1,t1⟩,k1⟩;unfold tagV;clear r1 t1;go_wp2_with fail;go_ret2;exact ⟨⟨_,rfl,Rd.nil _⟩,k1⟩
  ·obtain ⟨n,hnn⟩:∃ n,b.length - 32=n:=⟨_,rfl⟩
   have hbl:b.length=n+32:=by omega
   obtain ⟨g4,o4,rfl,_,_⟩:=h4.at 0 (by omega);have e4:aeR key nonce aad b=if tagB key nonce aad (b.take n)=b.drop n then 0 else 5:=by unfold aeR;rw[if_pos hok,if_neg hs,hnn]
   have e5:afo key nonce aad b=if tagB key nonce aad (b.take n)=b.drop n then abd key nonce (b.take n) else []:=by
    unfold afo;rw[e4,hnn];by_cases ht:tagB key nonce aad (b.take n)=b.drop n
    ·rw[if_pos ht,if_pos rfl,if_pos ht]
    ·rw[if_neg ht,if_neg (by decide),if_neg ht]
   have hln:(b.take n).length=n:=by rw[List.length_take];omega
   have HA:=Lib.hid (h4.pre6 n (by omega));have HZ:=Lib.hid (h4.post6 n 32 (by omega) (by omega));obtain ⟨e6,e7⟩:=alF (key:=key) (b.take n) hn;have hrl:=agq (x:=aad) (by omega);have hle:=ab1 aad.length;have HS:Hid (∀ W v,Kp w W→Rd W v (ahl key)→Calls Tryz.prog 173 #[v,u2,.slice (some ⟨g4,o4,none⟩) n c4] W fun e w'=>(∃ r,e=.returned (.tuple #[r,.int .i64 0])∧Rd w' r (abd key nonce (b.take n)))∧Kp W w'):=fun W v hW hv=>by
    rw[← e6,← e7];exact ae0 _ _ _ _ nonce (b.take n) W hv (h2.kp hW) (HA.out.kp hW) (by omega)
   have HT:Hid (∀ W p q r,Kp w W→Tags W p q r (ahm key) (rowB aad) nonce→Calls Tryz.prog 203 #[.slice (some ⟨g4,o4,none⟩) n c4,.pointer (some ⟨p,0,none⟩),.pointer (some ⟨q,0,none⟩),.pointer (some ⟨r,0,none⟩)] W fun e w'=>(∃ a c,e=.returned (.slice a 32 c)∧Rd w' (.slice a 32 c) (tagB key nonce aad (b.take n)))∧Kp W w'):=fun W p q r hW ht=>
    agV p q r _ (ahm key) (rowB aad) nonce _ W ht (HA.out.kp hW) (by rw[afE];omega) (by omega)
   rw[e4,e5];have hdec:∀ (bb:Bool),decide (tagB key nonce aad (b.take n)=b.drop n)=bb→(if tagB key nonce aad (b.take n)=b.drop n then (0:Int) else 5)=(if bb then 0 else 5)∧(if tagB key nonce aad (b.take n)=b.drop n then abd key nonce (b.take n) else [])=(if bb then abd key nonce (b.take n) else []):=by
    rintro _ rfl;by_cases ht:tagB key nonce aad (b.take n)=b.drop n
    ·simp[ht]
    ·simp[ht]
   obtain ⟨bb,hbb⟩:∃ bb,decide (tagB key nonce aad (b.take n)=b.drop n)=bb:=⟨_,rfl⟩;rw[(hdec bb hbb).1,(hdec bb hbb).2];have HSM:Hid (∀ W v,Kp w W→Rd W v (tagB key nonce aad (b.take n))→Calls Tryz.prog 233 #[v,.slice (some ⟨g4,o4+n,none⟩) 32 (c4 - n)] W fun e w'=>e=.returned (.bool bb)∧Kp W w'):=fun W v hW hv=>by
    have:=apD v _ _ _ W hv (HZ.out.kp hW);rwa [hbb] at this
   clear HA HZ;obtain ⟨m,hm⟩:∃ m,b.length=m:=⟨_,rfl⟩;rw[hm] at p4 ⊢;rw[hm] at hbl;have i0:IntKind.i64.wrap ((m:Int) - 32)=(n:Int):=by rw[IntWalk.i64_in _ (by omega)];omega
   have i2:(n:Int)≤(c4:Int):=by omega
   have i3:(n:Int)≤(m:Int):=by omega
   have i4:¬(m:Int)<32:=by omega
   have i5:(0:Int)≤(n:Int):=by omega
   have i6:(m:Int)≤(c4:Int):=by omega
   have i7:(0:Int)≤(m:Int):=by omega
   have i8:m - n=32:=by omega
   have i9:((m:Int) - (n:Int)).toNat=32:=by omega
   have i10:(m:Int) - (n:Int)=32:=by omega
   have i11:¬(n:Int)<0:=by omega
   clear hm;generalize tagB key nonce aad (b.take n)=T at *;generalize abd key nonce (b.take n)=L at *;clear h1 h2 h3 h4 e4 e5 e6 e7 hk hn hdec hbb hok hs hnn hln hbl hrl hle hl;go_enter Tryz.func194,Tryz.ntmps194;go_wp2_with fail;refine HP.out.mono ?_;rintro _ w1 ⟨⟨x,p,q,r,rfl,r1,t1⟩,k1⟩;unfold tagV;have K1:=Lib.hid k1;have R1:=Lib.hid r1;have T1:=Lib.hid t1;clear HP k1 r1 t1;go_wp2_with fail;go_region
   go_wp2_with fail;refine (HT.out _ p q r (K1.out.drew) (T1.out.kp (Kp.refl _).drew)).mono ?_;rintro _ w2 ⟨⟨at2,ct2,rfl,r3⟩,k2⟩;have k2:Kp w1 w2:=((Kp.refl w1).drew).trans k2;have K2:=Lib.hid (K1.out.trans k2);have R2:=Lib.hid (R1.out.kp k2);have R3:=Lib.hid r3;clear r3 k2 K1 R1 T1 HT;go_wp2_with fail;refine (HSM.out _ _ K2.out R3.out).mono ?_;rintro _ w3 ⟨rfl,k3⟩;have K3:=Lib.hid (K2.out.trans k3);have R4:=Lib.hid (R2.out.kp k3);clear k3 K2 R2 R3 HSM;cases bb
   ·go_wp2_with fail
    go_ret2;exact ⟨⟨_,rfl,Rd.nil _⟩,K3.out⟩
   ·go_wp2_with fail
    refine (HS.out _ x K3.out R4.out).mono ?_;rintro _ w4 ⟨⟨z,rfl,r4⟩,k4⟩;have R5:=Lib.hid r4;have K4:=Lib.hid (K3.out.trans k4);clear r4 k4;go_wp2_with fail;go_ret2;exact ⟨⟨_,rfl,R5.out⟩,K4.out⟩
 ·have e4:aeR key nonce aad b=1:=if_neg hok
  have e5:afo key nonce aad b=[]:=by unfold afo;rw[e4];rfl
  rw[e4,e5];have HP:=Lib.hid (afN u1 u2 u3 key nonce aad w h1 h2 h3 hok);clear h1 h2 h3 h4 e4 e5 hok;go_enter Tryz.func194,Tryz.ntmps194;go_wp2_with fail;refine HP.out.mono ?_;rintro _ w1 ⟨rfl,k1⟩;go_wp2_with fail;go_ret2;exact ⟨⟨_,rfl,Rd.nil _⟩,k1⟩
end Go.Proofs.YthmhklmkgkfcpaaGreatDoor

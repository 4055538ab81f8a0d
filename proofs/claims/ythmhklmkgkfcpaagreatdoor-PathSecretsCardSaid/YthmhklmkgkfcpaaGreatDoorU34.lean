import Derived.Test.YthmhklmkgkfcpaaGreatDoorU4
import Derived.Test.YthmhklmkgkfcpaaGreatDoorU14
import Derived.Test.YthmhklmkgkfcpaaGreatDoorU18
import Derived.Test.YthmhklmkgkfcpaaGreatDoorU20
import Derived.Test.YthmhklmkgkfcpaaGreatDoorU22
import Derived.Test.YthmhklmkgkfcpaaGreatDoorU23
import Derived.Test.YthmhklmkgkfcpaaGreatDoorU25
import Derived.Test.YthmhklmkgkfcpaaGreatDoorU29
import Derived.Test.YthmhklmkgkfcpaaGreatDoorU30
import Derived.Test.YthmhklmkgkfcpaaGreatDoorU32
import Derived.Test.YthmhklmkgkfcpaaGreatDoorU33
import Derived.Maps.OwnIn
set_option linter.unusedVariables false
set_option linter.unusedSimpArgs false
set_option maxHeartbeats 8000000
set_option maxRecDepth 100000
namespace Go.Proofs.YthmhklmkgkfcpaaGreatDoor
open Go.RowKit
theorem ag2 (v1 v2:Value)(s:ByteArray)(k ctx:List UInt8)(n:Int)(w:World)(h1:Rd w v1 k)(h2:Rd w v2 ctx)(hs:s.size≤300)(hcl:ctx.length≤1400)(hkl:k.length≤2000)(hn2:-9223372036854775808≤n∧n≤9223372036854775807):
  Calls Tryz.prog 131 #[.agg #[v1,v2],.string s,.int .i64 n] w fun e w'=>(∃ v,e=.returned (.tuple #[v,.int .i64 (expE n)])∧Rd w' v (labR k s.data.toList ctx n)∧aaN w.heap.size v)∧Kp w w':=by
 have HL:Hid (∀ W,Kp w W→Calls Tryz.prog 101 #[v1,.string s,v2,.int .i64 n] W fun e w'=>(∃ v,e=.returned (.tuple #[v,.int .i64 (expE n)])∧Ow 5 w' W.heap.size v (labR k s.data.toList ctx n))∧Kp W w'):=fun W hW=>aeO v1 s v2 k ctx n W (h1.kp hW) (h2.kp hW) hs hcl hkl hn2
 obtain ⟨a1,n1,c1,rfl⟩:=h1.sl;obtain ⟨a2,n2,c2,rfl⟩:=h2.sl;clear h1 h2 hs hcl hkl hn2;go_enter Tryz.func131,Tryz.ntmps131;go_wp2_with fail;refine (HL.out _ ((Kp.refl _).alloc _)).mono ?_;rintro _ w1 ⟨⟨v,rfl,o1⟩,k1⟩;have r1:=o1.rd;have nw1:aaN w.heap.size v:=aaN.kp (w':=w.alloc (.cells #[.slice a1 n1 c1,.slice a2 n2 c2] 184)) (fun g hg=>o1.own_ge g hg) ((Kp.refl _).alloc _);have K1:=((Kp.refl w).alloc (.cells #[.slice a1 n1 c1,.slice a2 n2 c2] 184)).trans k1;clear o1 k1;go_wp2_with fail;go_ret2;exact ⟨⟨_,rfl,r1,nw1⟩,K1⟩
theorem aoi (v1 v2:Value)(s:ByteArray)(k ctx:List UInt8)(n:Int)(w:World)(h1:Rd w v1 k)(h2:Rd w v2 ctx)(hs:s.size≤300)(hcl:ctx.length≤1400)(hkl:k.length≤2000)(hn2:-9223372036854775808≤n∧n≤9223372036854775807):
  Calls Tryz.prog 131 #[.agg #[v1,v2],.string s,.int .i64 n] w fun e w'=>(∃ v,e=.returned (.tuple #[v,.int .i64 (expE n)])∧Rd w' v (labR k s.data.toList ctx n))∧Kp w w':=
 (ag2 v1 v2 s k ctx n w h1 h2 hs hcl hkl hn2).mono fun e w' ⟨⟨v,h1,h2,_⟩,h3⟩=>⟨⟨v,h1,h2⟩,h3⟩
theorem acq (arO:Value)(seed:List UInt8)(w:World)(hu:Rd w arO seed):
  Calls Tryz.prog 93 #[arO] w fun e w'=>(∃ r,e=.returned (.tuple #[r,.int .i64 (pubE seed)])∧Rd w' r (pubR seed)∧aaN w.heap.size r)∧Kp w w':=by
 obtain ⟨a1,c1,rfl,h1,h2⟩:=hu.shape;by_cases hk:seed.length=32
 ·rw[(abQ hk).1,(abQ hk).2]
  have HL:Hid (Calls Tryz.prog 131 #[.agg #[.slice a1 seed.length c1,.slice none 0 0],.string ⟨#[112,117,98,108,105,99]⟩,.int .i64 32] w fun e w'=>(∃ v,e=.returned (.tuple #[v,.int .i64 0])∧Rd w' v (pubB seed)∧aaN w.heap.size v)∧Kp w w'):=
   ag2 _ _ ⟨#[112,117,98,108,105,99]⟩ seed [] 32 w hu (abn w) (by decide) (by simp) (by omega) (by omega)
  rw[hk] at HL h1 ⊢;clear hu hk;go_enter Tryz.func93,Tryz.ntmps93;go_wp2_with fail;refine HL.out.mono ?_;rintro _ w1 ⟨⟨v,rfl,r1,nw1⟩,k1⟩;clear HL;go_wp2_with fail;go_ret2;exact ⟨⟨_,rfl,r1,nw1⟩,k1⟩
 ·rw[(agJ hk).1,(agJ hk).2]
  have hb2:((seed.length:Int)==32)=false:=beq_eq_false_iff_ne.2 (by omega);have hb3:¬(seed.length:Int)=32:=by omega
  go_enter Tryz.func93,Tryz.ntmps93;go_wp2_with fail;go_ret2;exact ⟨⟨_,rfl,abn _,aaN.nil _ _ _⟩,Kp.refl _⟩
theorem aiV (arO:Value)(seed:List UInt8)(w:World)(hu:Rd w arO seed):
  Calls Tryz.prog 93 #[arO] w fun e w'=>(∃ r,e=.returned (.tuple #[r,.int .i64 (pubE seed)])∧Rd w' r (pubR seed))∧Kp w w':=
 (acq arO seed w hu).mono fun e w' ⟨⟨v,h1,h2,_⟩,h3⟩=>⟨⟨v,h1,h2⟩,h3⟩
theorem aib (arO v i:Value)(pub half info:List UInt8)(w:World)(hu:Rd w arO pub)(hv:Rd w v half)(hi:Rd w i info)(hp:pub.length=32)(hh:half.length=32)(hil:info.length≤1400):
  Calls Tryz.prog 138 #[arO,v,i] w fun e w'=>(∃ a b,e=.returned (.tuple #[a,b,.int .i64 0])∧Rd w' a (wkB pub half info)∧Rd w' b (wnB pub half info))∧Kp w w':=by
 obtain ⟨a1,c1,rfl,p1,s1⟩:=hu.shape;obtain ⟨a2,c2,rfl,p2,s2⟩:=hv.shape;obtain ⟨a3,n3,c3,rfl⟩:=hi.sl;have HM:Hid (Calls Tryz.prog 171 #[.slice a1 pub.length c1,.slice a2 half.length c2] w fun e w'=>(∃ a c,e=.returned (.slice a 32 c)∧Ow 5 w' w.heap.size (.slice a 32 c) (secB pub half))∧Kp w w'):=aqr _ _ pub half w hu hv (by omega) (by omega);have hsl:(secB pub half).length=32:=adl _ _;have H1:Hid (∀ W s,Kp w W→Rd W s (secB pub half)→Calls Tryz.prog 131 #[.agg #[s,.slice a3 n3 c3],.string ⟨#[107,101,121]⟩,.int .i64 32] W fun e w'=>(∃ r,e=.returned (.tuple #[r,.int .i64 0])∧Rd w' r (wkB pub half info))∧Kp W w'):=fun W s hW hs=>
  aoi s _ ⟨#[107,101,121]⟩ _ info 32 W hs (hi.kp hW) (by decide) hil (by omega) (by omega)
 have H2:Hid (∀ W s,Kp w W→Rd W s (secB pub half)→Calls Tryz.prog 131 #[.agg #[s,.slice a3 n3 c3],.string ⟨#[110,111,110,99,101]⟩,.int .i64 12] W fun e w'=>(∃ r,e=.returned (.tuple #[r,.int .i64 0])∧Rd w' r (wnB pub half info))∧Kp W w'):=fun W s hW hs=>
  aoi s _ ⟨#[110,111,110,99,101]⟩ _ info 12 W hs (hi.kp hW) (by decide) hil (by omega) (by omega)
 rw[hp,hh] at HM;rw[hp] at p1 ⊢;rw[hh] at p2 ⊢;clear hu hv hi hp hh hil hsl;have hmf:∀ (fn:Fn) (first cap:Array Value) (w:World),(Instr.makeFunc fn first cap).run Tryz.prog w=.ok (.func fn first cap) w:=fun _ _ _ _=>rfl
 go_enter Tryz.func138,Tryz.ntmps138;go_wp2_with fail;refine HM.out.mono ?_;rintro _ w1 ⟨⟨x,y,rfl,o1⟩,k1⟩;have K1:=Lib.hid k1;have R1:=Lib.hid o1.rd;clear HM o1 k1;go_wp2_with fail;refine (H1.out _ _ K1.out R1.out).mono ?_;rintro _ w2 ⟨⟨a,rfl,r2⟩,k2⟩;have K2:=Lib.hid (K1.out.trans k2);have R2:=Lib.hid r2;have R1:=Lib.hid (R1.out.kp k2);clear H1 r2 k2 K1;go_wp2_with fail;refine (H2.out _ _ K2.out R1.out).mono ?_;rintro _ w3 ⟨⟨b,rfl,r3⟩,k3⟩;have K3:=Lib.hid (K2.out.trans k3);have R3:=Lib.hid r3;have R2:=Lib.hid (R2.out.kp k3);clear H2 r3 k3 K2;go_wp2_with fail;go_ret3
 exact ⟨⟨_,_,rfl,R2.out,R3.out⟩,K3.out⟩
theorem ajW (arO v i:Value)(pub half:List UInt8)(w:World)(hu:Rd w arO pub)(hv:Rd w v half)(hno:¬(pub.length=32∧half.length=32)):
  Calls Tryz.prog 138 #[arO,v,i] w fun e w'=>e=.returned (.tuple #[.slice none 0 0,.slice none 0 0,.int .i64 1])∧Kp w w':=by
 obtain ⟨a1,c1,rfl,p1,s1⟩:=hu.shape;obtain ⟨a2,c2,rfl,p2,s2⟩:=hv.shape;by_cases hp:pub.length=32
 ·have hh:¬half.length=32:=fun h=>hno ⟨hp,h⟩
  have hb2:((half.length:Int)==32)=false:=beq_eq_false_iff_ne.2 (by omega);have hb3:¬(half.length:Int)=32:=by omega
  rw[hp] at p1 ⊢;clear hu hv hp hno;go_enter Tryz.func138,Tryz.ntmps138;go_wp2_with fail;go_ret3
  exact ⟨rfl,Kp.refl _⟩
 ·have hb2:((pub.length:Int)==32)=false:=beq_eq_false_iff_ne.2 (by omega)
  have hb3:¬(pub.length:Int)=32:=by omega
  clear hu hv hno;go_enter Tryz.func138,Tryz.ntmps138;go_wp2_with fail;go_ret3
  exact ⟨rfl,Kp.refl _⟩
theorem akW (u1 u2 u3 u4:Value)(pub once info b:List UInt8)(w:World)(h1:Rd w u1 pub)(h2:Rd w u2 once)(h3:Rd w u3 info)(h4:Rd w u4 b)(hil:info.length≤1400)(hbl:b.length≤1600):
  Calls Tryz.prog 102 #[u1,u2,u3,u4] w fun e w'=>(∃ x y,e=.returned (.tuple #[x,y,.int .i64 (aqA pub once)])∧Rd w' x (ahn pub once)∧Rd w' y (aho pub once info b)∧aaN w.heap.size x∧aaN w.heap.size y)∧Kp w w':=by
 have HP:=Lib.hid (acq u2 once w h2);by_cases ho:once.length=32
 ·rw[(abQ ho).1,(abQ ho).2] at HP
  by_cases hp:pub.length=32
  ·obtain ⟨e1,e2,e3⟩:=ais (pub:=pub) (once:=once) info b ⟨ho,hp⟩
   rw[e1,e2,e3];have HK:Hid (∀ W v,Kp w W→Rd W v (pubB once)→Calls Tryz.prog 138 #[u1,v,u3] W fun e w'=>(∃ a b,e=.returned (.tuple #[a,b,.int .i64 0])∧Rd w' a (wkB pub (pubB once) info)∧Rd w' b (wnB pub (pubB once) info))∧Kp W w'):=fun W v hW hv=>
    aib u1 v u3 pub _ info W (h1.kp hW) hv (h3.kp hW) hp (aaM _) hil
   have HS:Hid (∀ W k n,Kp w W→Rd W k (wkB pub (pubB once) info)→Rd W n (wnB pub (pubB once) info)→Calls Tryz.prog 139 #[k,n,.slice none 0 0,u4] W fun e w'=>(∃ r,e=.returned (.tuple #[r,.int .i64 0])∧Rd w' r (adq pub (pubB once) info b)∧aaN W.heap.size r)∧Kp W w'):=fun W k n hW hk hn=>by
    have:=ajU k n (.slice none 0 0) u4 _ _ [] b W hk hn (abn W) (h4.kp hW) (by simp;omega);rwa [show ao9 (wkB pub (pubB once) info) (wnB pub (pubB once) info)=0 from if_pos (aqz _ _ _),show apa (wkB pub (pubB once) info) (wnB pub (pubB once) info) [] b=adq pub (pubB once) info b from if_pos (aqz _ _ _)] at this
   clear h1 h2 h3 h4 hil hbl ho hp e1 e2 e3;go_enter Tryz.func102,Tryz.ntmps102;go_wp2_with fail;refine HP.out.mono ?_;rintro _ w1 ⟨⟨p,rfl,r1,nw1⟩,k1⟩;have K1:=Lib.hid k1;have R1:=Lib.hid r1;clear HP r1 k1;go_wp2_with fail;refine (HK.out _ _ K1.out R1.out).mono ?_;rintro _ w2 ⟨⟨k,n,rfl,r2,r3⟩,k2⟩;have K2:=Lib.hid (K1.out.trans k2);have R1:=Lib.hid (R1.out.kp k2);have R2:=Lib.hid r2;have R3:=Lib.hid r3;clear HK r2 r3 k2 K1;go_wp2_with fail;refine (HS.out _ _ _ K2.out R2.out R3.out).mono ?_;rintro _ w3 ⟨⟨o,rfl,r4,nw4⟩,k3⟩;have NW4:=Lib.hid (nw4.kp K2.out);have K3:=Lib.hid (K2.out.trans k3);have R1:=Lib.hid (R1.out.kp k3);have R4:=Lib.hid r4;clear HS r4 k3 K2 R2 R3 nw4;go_wp2_with fail;go_ret3
   exact ⟨⟨_,_,rfl,R1.out,R4.out,nw1,NW4.out⟩,K3.out⟩
  ·obtain ⟨e1,e2,e3⟩:=anT (pub:=pub) (once:=once) info b (fun h=>hp h.2)
   rw[e1,e2,e3];have HK:Hid (∀ W v,Kp w W→Rd W v (pubB once)→Calls Tryz.prog 138 #[u1,v,u3] W fun e w'=>e=.returned (.tuple #[.slice none 0 0,.slice none 0 0,.int .i64 1])∧Kp W w'):=fun W v hW hv=>
    ajW u1 v u3 pub _ W (h1.kp hW) hv (fun h=>hp h.1)
   clear h1 h2 h3 h4 hil hbl ho hp e1 e2 e3;go_enter Tryz.func102,Tryz.ntmps102;go_wp2_with fail;refine HP.out.mono ?_;rintro _ w1 ⟨⟨p,rfl,r1,nw1⟩,k1⟩;have K1:=Lib.hid k1;have R1:=Lib.hid r1;clear HP r1 k1;go_wp2_with fail;refine (HK.out _ _ K1.out R1.out).mono ?_;rintro _ w2 ⟨rfl,k2⟩;have K2:=Lib.hid (K1.out.trans k2);clear HK k2 K1 R1;go_wp2_with fail;go_ret3
   exact ⟨⟨_,_,rfl,abn _,abn _,aaN.nil _ _ _,aaN.nil _ _ _⟩,K2.out⟩
 ·obtain ⟨e1,e2,e3⟩:=anT (pub:=pub) (once:=once) info b (fun h=>ho h.1)
  rw[e1,e2,e3];rw[(agJ ho).1,(agJ ho).2] at HP;clear h1 h2 h3 h4 hil hbl ho e1 e2 e3;go_enter Tryz.func102,Tryz.ntmps102;go_wp2_with fail;refine HP.out.mono ?_;rintro _ w1 ⟨⟨p,rfl,r1,nw1⟩,k1⟩;clear HP r1;go_wp2_with fail;go_ret3
  exact ⟨⟨_,_,rfl,abn _,abn _,aaN.nil _ _ _,aaN.nil _ _ _⟩,k1⟩
theorem aiW (u1 u2 u3 u4:Value)(seed half info b:List UInt8)(w:World)(h1:Rd w u1 seed)(h2:Rd w u2 half)(h3:Rd w u3 info)(h4:Rd w u4 b)(hil:info.length≤1400)(hbl:b.length≤1600):
  Calls Tryz.prog 159 #[u1,u2,u3,u4] w fun e w'=>(∃ x,e=.returned (.tuple #[x,.int .i64 (unE seed half info b)])∧Rd w' x (unR seed half info b))∧Kp w w':=by
 have HP:=Lib.hid (aiV u1 seed w h1);by_cases ho:seed.length=32
 ·rw[(abQ ho).1,(abQ ho).2] at HP
  by_cases hp:half.length=32
  ·obtain ⟨e1,e2⟩:=apQ (seed:=seed) (half:=half) info b ⟨ho,hp⟩
   rw[e1,e2];have HK:Hid (∀ W v,Kp w W→Rd W v (pubB seed)→Calls Tryz.prog 138 #[v,u2,u3] W fun e w'=>(∃ a b,e=.returned (.tuple #[a,b,.int .i64 0])∧Rd w' a (wkB (pubB seed) half info)∧Rd w' b (wnB (pubB seed) half info))∧Kp W w'):=fun W v hW hv=>
    aib v u2 u3 _ half info W hv (h2.kp hW) (h3.kp hW) (aaM _) hp hil
   have HS:Hid (∀ W k n,Kp w W→Rd W k (wkB (pubB seed) half info)→Rd W n (wnB (pubB seed) half info)→Calls Tryz.prog 194 #[k,n,.slice none 0 0,u4] W fun e w'=>(∃ r,e=.returned (.tuple #[r,.int .i64 (aeR (wkB (pubB seed) half info) (wnB (pubB seed) half info) [] b)])∧Rd w' r (afo (wkB (pubB seed) half info) (wnB (pubB seed) half info) [] b))∧Kp W w'):=fun W k n hW hk hn=>
    ajV k n (.slice none 0 0) u4 _ _ [] b W hk hn (abn W) (h4.kp hW) (by simp;omega)
   generalize aeR (wkB (pubB seed) half info) (wnB (pubB seed) half info) [] b=E at *;generalize afo (wkB (pubB seed) half info) (wnB (pubB seed) half info) [] b=R at *;clear h1 h2 h3 h4 hil hbl ho hp e1 e2;go_enter Tryz.func159,Tryz.ntmps159;go_wp2_with fail;refine HP.out.mono ?_;rintro _ w1 ⟨⟨p,rfl,r1⟩,k1⟩;have K1:=Lib.hid k1;have R1:=Lib.hid r1;clear HP r1 k1;go_wp2_with fail;refine (HK.out _ _ K1.out R1.out).mono ?_;rintro _ w2 ⟨⟨k,n,rfl,r2,r3⟩,k2⟩;have K2:=Lib.hid (K1.out.trans k2);have R2:=Lib.hid r2;have R3:=Lib.hid r3;clear HK r2 r3 k2 K1 R1;go_wp2_with fail;refine (HS.out _ _ _ K2.out R2.out R3.out).mono ?_;rintro _ w3 ⟨⟨o,rfl,r4⟩,k3⟩;have K3:=Lib.hid (K2.out.trans k3);have R4:=Lib.hid r4;clear HS r4 k3 K2 R2 R3;go_wp2_with fail;go_ret2;exact ⟨⟨_,rfl,R4.out⟩,K3.out⟩
  ·obtain ⟨e1,e2⟩:=arq (seed:=seed) (half:=half) info b (fun h=>hp h.2)
   rw[e1,e2];have HK:Hid (∀ W v,Kp w W→Rd W v (pubB seed)→Calls Tryz.prog 138 #[v,u2,u3] W fun e w'=>e=.returned (.tuple #[.slice none 0 0,.slice none 0 0,.int .i64 1])∧Kp W w'):=fun W v hW hv=>
    ajW v u2 u3 _ half W hv (h2.kp hW) (fun h=>hp h.2)
   clear h1 h2 h3 h4 hil hbl ho hp e1 e2;go_enter Tryz.func159,Tryz.ntmps159;go_wp2_with fail;refine HP.out.mono ?_;rintro _ w1 ⟨⟨p,rfl,r1⟩,k1⟩;have K1:=Lib.hid k1;have R1:=Lib.hid r1;clear HP r1 k1;go_wp2_with fail;refine (HK.out _ _ K1.out R1.out).mono ?_;rintro _ w2 ⟨rfl,k2⟩;have K2:=Lib.hid (K1.out.trans k2);clear HK k2 K1 R1;go_wp2_with fail;go_ret2;exact ⟨⟨_,rfl,abn _⟩,K2.out⟩
 ·obtain ⟨e1,e2⟩:=arq (seed:=seed) (half:=half) info b (fun h=>ho h.1)
  rw[e1,e2];rw[(agJ ho).1,(agJ ho).2] at HP;clear h1 h2 h3 h4 hil hbl ho e1 e2;go_enter Tryz.func159,Tryz.ntmps159;go_wp2_with fail;refine HP.out.mono ?_;rintro _ w1 ⟨⟨p,rfl,r1⟩,k1⟩;clear HP r1;go_wp2_with fail;go_ret2;exact ⟨⟨_,rfl,abn _⟩,k1⟩
theorem ad5 (arO:Value)(t:List Nod)(w:World)(hu:NL w arO t)(hl:t.length≤100000):
  Calls Tryz.prog 89 #[arO] w fun e w'=>e=.returned (.int .i64 ((ahs t:Nat):Int))∧w=w':=by
 obtain ⟨a,c,rfl,h1,h2⟩:=hu.shape;obtain ⟨i1,i2⟩:=akA (t:=t) hl;have i3:IntKind.i64.wrap ((lvs t:Nat):Int)=((lvs t:Nat):Int):=IntWalk.i64_in _ (by have:=aev (t:=t) hl;omega);have HW:=Lib.hid (aef ((lvs t:Nat):Int) w);by_cases hb:isTB ((lvs t:Nat):Int)=true
 ·rw[show widV ((lvs t:Nat):Int)=2*((lvs t:Nat):Int) - 1 from if_pos hb,show widE ((lvs t:Nat):Int)=0 from if_pos hb] at HW
  by_cases he:2*lvs t=t.length+1
  ·rw[show ahs t=lvs t from if_pos ⟨hb,he⟩]
   have hne:¬(2*((lvs t:Nat):Int) - 1≠(t.length:Int)):=by omega
   have hn2:(2*((lvs t:Nat):Int) - 1 != (t.length:Int))=false:=bne_eq_false_iff_eq.2 (by omega);have hn3:2*((lvs t:Nat):Int) - 1=(t.length:Int):=by omega
   rw[hn3] at HW;clear hb he hu hne hn2 hn3;generalize ((lvs t:Nat):Int)=L at *;go_enter Tryz.func89,Tryz.ntmps89;go_wp2_with fail;refine HW.out.mono ?_;rintro _ _ ⟨rfl,rfl⟩;go_wp2_with fail;go_ret;exact ⟨rfl,rfl⟩
  ·rw[show ahs t=0 from if_neg fun h=>he h.2]
   have hn2:(2*((lvs t:Nat):Int) - 1 != (t.length:Int))=true:=bne_iff_ne.2 (by omega);have hn3:¬2*((lvs t:Nat):Int) - 1=(t.length:Int):=by omega
   clear hb he hu;generalize 2*((lvs t:Nat):Int) - 1=M at *;generalize ((lvs t:Nat):Int)=L at *;go_enter Tryz.func89,Tryz.ntmps89;go_wp2_with fail;refine HW.out.mono ?_;rintro _ _ ⟨rfl,rfl⟩;go_wp2_with fail;go_ret;exact ⟨rfl,rfl⟩
 ·rw[show ahs t=0 from if_neg fun h=>hb h.1]
  rw[show widV ((lvs t:Nat):Int)=0 from if_neg hb,show widE ((lvs t:Nat):Int)=1 from if_neg hb] at HW;clear hb hu;generalize ((lvs t:Nat):Int)=L at *;go_enter Tryz.func89,Tryz.ntmps89;go_wp2_with fail;refine HW.out.mono ?_;rintro _ _ ⟨rfl,rfl⟩;go_wp2_with fail;go_ret;exact ⟨rfl,rfl⟩
theorem abp (arO:Value)(t:List Nod)(K:Nat)(i:Int)(w:World)(hu:NL w arO t)(hr:aab t K):
  Calls Tryz.prog 42 #[arO,.int .i64 i] w fun e w'=>e=.returned (.bool (decide (aar t i)))∧w=w':=by
 obtain ⟨z1,z2,z3⟩:=hr.small;have HS:=Lib.hid (ad5 arO t w hu (by omega));rw[(ad3 hr.le hr.len).1] at HS;have hlv:=hr.lv;have hp2:=acc hr.le;obtain ⟨a,c,rfl,p1,s1⟩:=hu.shape;by_cases h0:0≤i
 ·obtain ⟨k,rfl⟩:=Int.eq_ofNat_of_zero_le h0
  by_cases h1:k<2 ^ K
  ·have hk2:2*k<t.length:=by omega
   obtain ⟨b,off,rfl,_,hc⟩:=hu.at (2*k) hk2;obtain ⟨p,q,h,hn⟩:=hc (2*k) hk2;have d0:=hn.kind;have hb:((ats t (2*k)).kind != 0)=decide (aar t (k:Int)):=by
    by_cases hk:(ats t (2*k)).kind=0
    ·rw[hk,decide_eq_false (fun h=>by have:=(hr.there_iff k).1 h;rw[hk] at this;cases this)];rfl
    ·have h1:(ats t (2*k)).kind=1:=by
      rcases hr.even k with e | e
      ·rw[e] at hk;exact absurd rfl hk
      ·exact e.1
     rw[decide_eq_true ((hr.there_iff k).2 h1),h1];rfl
   have i1:IntKind.i64.wrap (2*(k:Int))=((2*k:Nat):Int):=by rw[IntWalk.i64_in _ (by omega)];omega
   have i2:((2*k:Nat):Int)<(t.length:Int):=by omega
   have i3:(k:Int)<((2 ^ K:Nat):Int):=by omega
   generalize decide (aar t (k:Int))=BO at *;generalize t.length=N at *;generalize ((2 ^ K:Nat):Int)=NN at *;generalize (ats t (2*k)).kind=KD at *;generalize 2*k=K2 at *;clear hu hr hc hn h1 h0 z1 z2 z3 hlv hp2 hk2;go_enter Tryz.func42,Tryz.ntmps42;go_wp2_with fail;refine HS.out.mono ?_;rintro _ _ ⟨rfl,rfl⟩;go_wp2_with fail;go_ret;exact ⟨by rw[← hb] <;> rfl,rfl⟩
  ·rw[decide_eq_false (show ¬aar t (k:Int) from fun h=>by have:=h.2.1;omega)]
   have i3:¬(k:Int)<((2 ^ K:Nat):Int):=by omega
   generalize ((2 ^ K:Nat):Int)=NN at *;clear hu hr h1 z1 z2 z3 hlv hp2;go_enter Tryz.func42,Tryz.ntmps42;go_wp2_with fail;refine HS.out.mono ?_;rintro _ _ ⟨rfl,rfl⟩;go_wp2_with fail;go_ret;exact ⟨rfl,rfl⟩
 ·rw[decide_eq_false (show ¬aar t i from fun h=>h0 h.1)]
  clear hu hr z1 z2 z3 hlv hp2;generalize ((2 ^ K:Nat):Int)=NN at *;go_enter Tryz.func42,Tryz.ntmps42;go_wp2_with fail;go_ret;exact ⟨rfl,rfl⟩
theorem aoj (w:World){t:List Nod}{K:Nat}(hr:aab t K){i:Nat}(hi:i<2 ^ K)(hT:Tab w):
  Calls Tryz.prog 92 #[.int .i64 (2*(i:Int)),.int .i64 ((2 ^ K:Nat):Int)] w fun e w'=>(∃ v,e=.returned (.tuple #[v,.int .i64 0])∧ON 3 w' w.heap.size v (aah K 0 i))∧Kp w w':=by
 have:=afL K 0 i w hr.le (Nat.zero_le _) (by simpa using hi) hT;rw[abK] at this;rwa [show ((2*i:Nat):Int)=2*(i:Int) by omega] at this
theorem aic (arO:Value)(t:List Nod)(K i:Nat)(w:World)(hu:NL w arO t)(hr:aab t K)(hi:i<2 ^ K)(hT:Tab w):
  Calls Tryz.prog 45 #[arO,.int .i64 (i:Int)] w fun e w'=>(∃ v,e=.returned v∧ON 3 w' w.heap.size v (aah K 0 i))∧Kp w w':=by
 obtain ⟨z1,z2,z3⟩:=hr.small;have hp2:=acc hr.le;have HS:=Lib.hid (ad5 arO t w hu (by omega));rw[(ad3 hr.le hr.len).1] at HS;have HP:=Lib.hid (aoj w hr hi hT);have i2:IntKind.i64.wrap (2*(i:Int))=2*(i:Int):=IntWalk.i64_in _ (by omega);obtain ⟨a,c,rfl,_,_⟩:=hu.shape;generalize aah K 0 i=PT at *;generalize ((2 ^ K:Nat):Int)=NN at *;generalize t.length=N at *;clear hu hr hi z1 z2 z3 hp2 hT;go_enter Tryz.func45,Tryz.ntmps45;go_wp2_with fail;refine HS.out.mono ?_;rintro _ _ ⟨rfl,rfl⟩;go_wp2_with fail;refine HP.out.mono ?_;rintro _ w1 ⟨⟨v,rfl,o1⟩,k1⟩;have R1:=Lib.hid (And.intro o1 k1);obtain ⟨a1,n1,c1,rfl⟩:=o1.rn.sl;clear o1 k1 HP HS;go_wp2_with fail;go_ret;exact ⟨⟨_,rfl,R1.out.1⟩,R1.out.2⟩
theorem aej (arO:Value)(seed:List UInt8)(w:World)(hu:Rd w arO seed):
  Calls Tryz.prog 55 #[arO] w fun e w'=>(∃ r,e=.returned r∧Rd w' r (pubR seed)∧aaN w.heap.size r)∧Kp w w':=by
 have HP:=Lib.hid (acq arO seed w hu);obtain ⟨a,n,c,rfl⟩:=aac hu;clear hu;go_enter Tryz.func55,Tryz.ntmps55;go_wp2_with fail;refine HP.out.mono ?_;rintro _ w1 ⟨⟨v,rfl,r1,nw⟩,k1⟩;have R1:=Lib.hid (And.intro r1 (And.intro nw k1));obtain ⟨a1,n1,c1,rfl⟩:=aac r1;clear r1 k1 nw HP;go_wp2_with fail;go_ret;exact ⟨⟨_,rfl,R1.out.1,R1.out.2.1⟩,R1.out.2.2⟩
theorem ad6 (vk:Value)(s:ByteArray)(k:List UInt8)(w:World)(hk:Rd w vk k)(hs:s.size≤300)(hkl:k.length≤2000):
  Calls Tryz.prog 104 #[vk,.string s] w fun e w'=>(∃ v,e=.returned v∧Ow 5 w' w.heap.size v (derB k s.data.toList))∧Kp w w':=by
 have HL:=Lib.hid (al1 vk s k w hk hs hkl);rw[an9] at HL;generalize derB k s.data.toList=D at *;obtain ⟨a,n,c,rfl⟩:=aac hk;clear hk hkl;go_enter Tryz.func104,Tryz.ntmps104;go_wp2_with fail;refine HL.out.mono ?_;rintro _ w1 ⟨⟨v,rfl,o1⟩,k1⟩;have R1:=Lib.hid (And.intro o1 k1);obtain ⟨a1,n1,c1,rfl⟩:=aac o1.rd;clear o1 k1 HL;go_wp2_with fail;go_ret;exact ⟨⟨_,rfl,R1.out.1⟩,R1.out.2⟩
def amD (own:List Sd):Prop:=∀ k,0<k→k<own.length→(sdAt own (k - 1)).node<(sdAt own k).node
theorem alG {own:List Sd}:amD own↔srt own:=by
 constructor
 ·intro h
  have hadj:∀ d a,a+d+1<own.length→(sdAt own a).node<(sdAt own (a+d+1)).node:=fun d=>by
   induction d with
   | zero=>exact fun a ha=>by have:=h (a+0+1) (by omega) ha;rwa [show a+0+1 - 1=a by omega] at this
   | succ d ih=>
    intro a ha;have g1:=ih a (by omega);have g2:=h (a+(d+1)+1) (by omega) ha;rw[show a+(d+1)+1 - 1=a+d+1 by omega] at g2;exact Int.lt_trans g1 g2
  refine List.pairwise_iff_getElem.2 fun a b ha hb hab=>?_
  have:=hadj (b - a - 1) a (by omega);rwa [show a+(b - a - 1)+1=b by omega,abu ha,abu hb] at this
 ·intro h k h0 hk
  rw[abu hk,abu (show k - 1<own.length by omega)];exact List.pairwise_iff_getElem.1 h (k - 1) k (by omega) hk (by omega)
theorem afO (arO:Value)(own:List Sd)(w:World)(hu:SL w arO own):Calls Tryz.prog 43 #[arO] w fun e w'=>aav e (amD own)∧Kp w w':=by
 obtain ⟨a,c,rfl,p1,s1⟩:=SE.shape hu;unfold maxLen at s1;have HU:=Lib.hid hu;have HNO:Hid (∀ k,0<k→k<own.length→¬(sdAt own (k - 1)).node<(sdAt own k).node→¬amD own):=fun k h0 hk h e=>h (e k h0 hk)
 have HYES:Hid ((∀ k,0<k→k<own.length→(sdAt own (k - 1)).node<(sdAt own k).node)→amD own):=fun h=>h
 generalize amD own=P at *;obtain ⟨N,hN⟩:∃ N,own.length=N:=⟨_,rfl⟩;have HN:=Lib.hid hN;rw[hN] at p1 HU HNO HYES ⊢;clear hu hN;go_enter Tryz.func43,Tryz.ntmps43;go_wp2_with fail;go_loopw[3] (fun i wr=>∃ m:Nat,i=.int .i64 ((m:Int)+1)∧(∀ j,0<j→j<m+1→j<N→(sdAt own (j - 1)).node<(sdAt own j).node)∧Kp w wr) (fun i _=>(N+1 - (intOf i).toNat))
 case atStart=>exact ⟨0,rfl,fun j h0 h1=>by omega,Kp.refl _⟩
 case round=>
  obtain ⟨m,rfl,hpre,hkp⟩:=hrel;have HPR:=Lib.hid hpre;have KK:=Lib.hid hkp;clear hpre hkp;by_cases hlt:m+1<N
  ·obtain ⟨g1,o1,x1,q1,e1,_,c1,_,_⟩:=SL.node (i:=m+1) (arM.kp HU.out KK.out) (by rw[HN.out];exact hlt)
   obtain ⟨g2,o2,x2,q2,e2,_,d1,_,_⟩:=SL.node (i:=m) (arM.kp HU.out KK.out) (by rw[HN.out];omega);rw[HN.out] at e1 e2;simp only[Value.slice.injEq] at e1;obtain ⟨rfl,_,rfl⟩:=e1;simp only[Value.slice.injEq,Option.some.injEq,Addr.mk.injEq,and_true] at e2;obtain ⟨⟨rfl,rfl⟩,hcc⟩:=e2;clear hcc;have i1:IntKind.i64.wrap ((m:Int)+1+1)=(m:Int)+1+1:=IntWalk.i64_in _ (by omega);have i2:IntKind.i64.wrap ((m:Int)+1 - 1)=(m:Int):=by rw[IntWalk.i64_in _ (by omega)];omega
   have i3:(m:Int)+1<(N:Int):=by omega
   have i4:(m:Int)<(N:Int):=by omega
   have i5:(0:Int)≤(m:Int)+1:=by omega
   have i6:((m:Int)+1).toNat=m+1:=by omega
   have HNK:Hid (¬(sdAt own m).node<(sdAt own (m+1)).node→¬P):=fun h=>HNO.out (m+1) (by omega) hlt (by simpa using h)
   have HPK:Hid ((sdAt own m).node<(sdAt own (m+1)).node→∀ j,0<j→j<m+1+1→j<N→(sdAt own (j - 1)).node<(sdAt own j).node):=fun h j h0 hj hjN=>by
    rcases Nat.lt_or_eq_of_le (Nat.lt_succ_iff.1 hj) with h3 | h3
    ·exact HPR.out j h0 h3 hjN
    ·rw[h3];simpa using h
   clear HNO HYES HPR;generalize (sdAt own (m+1)).node=X at *;generalize (sdAt own m).node=Y at *;by_cases hxy:Y<X
   ·have HX:=Lib.hid (HPK.out hxy)
    have h2:¬X≤Y:=by omega
    clear HPK HNK;go_wp2_with fail;go_region
    go_wp2_with fail;go_roundw
    case rel=>exact ⟨m+1,by go_num,HX.out,KK.out.drew⟩
    case measure=>simp[intOf];omega
   ·have HX:=Lib.hid (HNK.out (by omega))
    have h2:X≤Y:=by omega
    clear HPK HNK;go_wp2_with fail;go_region
    go_wp2_with fail;go_ret;exact ⟨aav.no HX.out,KK.out.drew⟩
  ·have HX:=Lib.hid (HYES.out fun j h0 hj=>HPR.out j h0 (by omega) hj)
   have i3:¬(m:Int)+1<(N:Int):=by omega
   clear HNO HYES;go_wp2_with fail;go_ret;exact ⟨aav.yes HX.out,KK.out⟩
end Go.Proofs.YthmhklmkgkfcpaaGreatDoor
namespace Go.Proofs.YthmhklmkgkfcpaaGreatDoor
open Go.RowKit Go.Shelf
attribute [local go_sem] Oper.semAt_some
theorem Rd.heldL {R:Nat→Prop}{A B:World}{v:Value}{l:List UInt8}(h:Rd A v l)(hs:Held R A B)(hx:∀ k,leads v k→R k):Rd B v l:=by
 obtain ⟨a,c,e,h1,h2,h3,h4⟩:=h;subst e;refine ⟨a,c,rfl,h1,h2,h3,fun x hx' i hi=>?_⟩;have hc:=h4 x hx' i hi;subst hx';exact hs.cell hc (by rw[aaJ];exact hx _ ⟨x,_,c,rfl,by omega,rfl⟩)
theorem Rd.leads_lt {A:World}{v:Value}{l:List UInt8}(h:Rd A v l):∀ k,leads v k→k<A.heap.size:=by
 rintro k ⟨x,n,c,e,h0,rfl⟩;exact h.inside x n c e h0
theorem Ow.leads_lt {e:TypeId}{A:World}{B:Nat}{v:Value}{l:List UInt8}(h:Ow e A B v l):∀ k,leads v k→B≤k∧k<A.heap.size:=by
 rintro k ⟨x,n,c,rfl,h0,rfl⟩;exact World.ownsRow.lt h _ rfl
theorem alJ (Q:Nat→Prop):(∃ n,Q n)→∃ n,Q n∧∀ m,Q m→n≤m:=by
 rintro ⟨n,hn⟩
 induction n using Nat.strongRecOn with
 | ind n ih=>
  by_cases h:∃ m,m<n∧Q m
  ·obtain ⟨m,h1,h2⟩:=h
   exact ih m h1 h2
  ·exact ⟨n,hn,fun m hm=>Nat.le_of_not_lt fun hlt=>h ⟨m,hlt,hm⟩⟩
open Classical in
noncomputable def aj5 (Q:Nat→Prop):Nat:=if h:∃ n,Q n then Classical.choose (alJ Q h) else 0
theorem aj6 {Q:Nat→Prop}(h:∃ n,Q n):Q (aj5 Q)∧∀ m,Q m→aj5 Q≤m:=by
 unfold aj5;rw[dif_pos h];exact Classical.choose_spec (alJ Q h)
theorem aha (v:Value)(l:List UInt8)(w:World)(hv:Rd w v l):
  Calls Tryz.prog 98 #[v] w fun e w'=>e=.returned (.func (.func 133) #[] #[.pointer (some ⟨w.heap.size,0,none⟩)])∧w.alloc (.cells #[v] 24)=w':=by
 obtain ⟨a,n,c,rfl⟩:=aac hv;clear hv;go_enter Tryz.func98,Tryz.ntmps98;go_wp2_with fail;go_ret;exact ⟨rfl,rfl⟩
theorem ai0 (v:Value)(s:List UInt8)(N b:Nat)(w:World)(hv:Rd w v s)(hs:s.length=32)(hb:w.cell? ⟨b,0,none⟩=some v):
  apU Tryz.prog 133 #[.pointer (some ⟨b,0,none⟩)] (fun i arO Y A=>Rd A arO (secS s i)∧∀ k,leads arO k→Y k∨leads v k) N (fun k=>k=b∨leads v k) w:=by
 intro l J Jx W hh hl1 hl2 hJ hJx hJN hY h0;have hN0:0<N:=Nat.pos_of_ne_zero (fun e=>by subst e;exact hJN _ _ h0);have hbw:=hh.cell hb (.inl rfl);have hvW:Rd W v s:=hv.heldL hh (fun k h=>.inr h);have HJ:=Lib.hid hJ;have HY:=Lib.hid hY;have HJN:=Lib.hid hJN;have HHeld:=Lib.hid hh;have HV:=Lib.hid hv;have HD:=Lib.hid (fun W (arO:Value) i (hu:Rd W arO (secS s i))=>ad6 arO ⟨#[112,97,116,104]⟩ (secS s i) W hu (by decide) (by rw[ab8 hs i];omega));have HS:Hid (∀ i,derB (secS s i) (⟨#[112,97,116,104]⟩:ByteArray).data.toList=secS s (i+1)):=fun i=>rfl
 obtain ⟨a0,n0,c0,rfl⟩:=aac hv;generalize hV0:Value.slice a0 n0 c0=v at *;obtain ⟨RL,hRL⟩:∃ RL:Nat→Value→World→Prop,(fun (i:Nat) (p:Value) (wr:World)=>∃ Y:Nat→Prop,Rd wr p (secS s i)∧(∀ k,leads p k→Y k∨leads v k)∧wr.cell? ⟨b,0,none⟩=some v∧Held (fun k=>k=b∨leads v k) w wr∧J i Y wr∧(∀ j,Y j→W.heap.size≤j∧j<wr.heap.size)∧W.heap.size≤wr.heap.size)=RL:=⟨_,rfl⟩;have HRL:Hid (∀ i p wr,RL i p wr↔∃ Y:Nat→Prop,Rd wr p (secS s i)∧(∀ k,leads p k→Y k∨leads v k)∧wr.cell? ⟨b,0,none⟩=some v∧Held (fun k=>k=b∨leads v k) w wr∧J i Y wr∧(∀ j,Y j→W.heap.size≤j∧j<wr.heap.size)∧W.heap.size≤wr.heap.size):=fun i p wr=>by rw[← hRL]
 have HSTART:Hid (RL 0 v W):=(HRL.out _ _ _).2 ⟨_,hvW,fun k hk=>.inr hk,hbw,hh,h0,fun _ h=>h.elim,Nat.le_refl _⟩;clear hRL hJ hY hJN hb hv hh h0 hvW hs;subst hV0;refine (callsIn_wide (n:=5)).1 ?_;refine callsIn_of_wp Tryz.func133 rfl trivial ?_ rfl;simp only[Tryz.ntmps133,List.append_toArray,List.append_nil,List.size_toArray,List.length_cons,List.length_nil,Nat.reduceAdd,Nat.reduceSub,Array.replicate_succ,Array.replicate_zero,List.push_toArray,List.nil_append,List.cons_append];gi_wp2
 gi_loopw [3] (fun p wr=>∃ i:Nat,i<N∧RL i p wr) (fun p wr=>aj5 fun d=>∃ i:Nat,i<N∧d=N - i∧RL i p wr)
 case atStart=>exact ⟨0,hN0,HSTART.out⟩
 case round=>
  clear hbw;obtain ⟨i,hi,hm,hr⟩:∃ i,i<N∧(aj5 fun d=>∃ i:Nat,i<N∧d=N - i∧RL i u3 wr)=N - i∧RL i u3 wr:=by
   obtain ⟨i0,h1,h2⟩:=hrel;obtain ⟨⟨i,h3,h4,h5⟩,_⟩:=aj6 (Q:=fun d=>∃ i:Nat,i<N∧d=N - i∧RL i u3 wr) ⟨_,i0,h1,rfl,h2⟩;exact ⟨i,h3,h4,h5⟩
  have HM:=Lib.hid hm;obtain ⟨Y,rd,hl,hb,hh,hj,hyb,hsz⟩:=(HRL.out _ _ _).1 hr;obtain ⟨a3,n3,c3,rfl⟩:=aac rd;obtain ⟨fn,tmps,assign,body,hy,hR⟩:=HY.out i Y wr _ 4 hi hj hyb hh ⟨rd,hl⟩;have hmx:Tryz.prog.follows .mixedOrders=true:=by kernel_rfl
  have hls:Tryz.prog.follows .lateStores=true:=by kernel_rfl
  clear hrel hm hr;gi_wp2
  have RD:=Lib.hid rd;have HH:=Lib.hid (And.intro hb (And.intro hh (And.intro hyb (And.intro hsz hl))));have HJI:=Lib.hid hj;clear hb hh hyb hsz hl hj rd;refine hR.mono ?_;rintro e w2 ⟨hh2,(⟨rfl,hj2⟩ | ⟨rfl,hx2⟩)⟩
  ·have hb2:=hh2.cell HH.out.1 (.inr (.inl rfl))
   have rd2:Rd w2 (.slice a3 n3 c3) (secS s i):=RD.out.heldL hh2 fun k hk=>(HH.out.2.2.2.2 k hk).imp id .inr
   have hw2:Held (fun k=>k=b∨leads (.slice a0 n0 c0) k) w w2:=HH.out.2.1.trans (hh2.mono fun _ h=>.inr h);have HX:=Lib.hid (And.intro hb2 (And.intro hw2 (And.intro hj2 hh2.size)));have RD2:=Lib.hid rd2;clear hy hR hb2 hw2 hj2 hh2 rd2;gi_wp2_with (refine ⟨trivial,?_⟩;gi_at_call 104;refine (callsIn_wide.2 (HD.out w2 _ i RD2.out)).mono ?_;rintro e w3 ⟨⟨v3,rfl,o3⟩,k3⟩;rw[HS.out] at o3;obtain ⟨a9,n9,c9,rfl⟩:=aac o3.rd)
   obtain ⟨q1,q2,q3,q4⟩:=HX.out;obtain ⟨_,_,arL,p4,p5⟩:=HH.out;have hiN:i+1<N:=by
    rcases Nat.lt_or_eq_of_le (Nat.succ_le_of_lt hi) with h | h
    ·exact h
    ·rw[show i+1=N from h] at q3
     exact absurd q3 (HJN.out _ _)
   have hrl:RL (i+1) (.slice a9 n9 c9) w3:=(HRL.out _ _ _).2 ⟨fun k=>(Y k∧¬leads (.slice a3 n3 c3) k)∨leads (.slice a9 n9 c9) k,o3.rd,fun k hk=>.inl (.inr hk),k3.cell q1,q2.trans (Held.of_kp k3),
    HJ.out (i+1) _ _ w2 w3 q3 (fun k hk=>⟨(arL k hk.1).1,Nat.lt_of_lt_of_le (arL k hk.1).2 q4⟩) (Step.of_kp k3) (fun k hk=>hk.imp id fun h=>o3.leads_lt k h),
    fun k hk=>hk.elim (fun h=>⟨(arL k h.1).1,Nat.lt_of_lt_of_le (arL k h.1).2 (Nat.le_trans q4 k3.size)⟩) (fun h=>⟨Nat.le_trans (Nat.le_trans p4 q4) (o3.leads_lt k h).1,(o3.leads_lt k h).2⟩),Nat.le_trans p4 (Nat.le_trans q4 k3.size)⟩
   refine ⟨⟨i+1,hiN,hrl⟩,?_⟩;rw[HM.out];have:=(aj6 (Q:=fun d=>∃ i:Nat,i<N∧d=N - i∧RL i (.slice a9 n9 c9) w3) ⟨_,i+1,hiN,rfl,hrl⟩).2 _ ⟨i+1,hiN,rfl,hrl⟩;omega
  ·clear hy hR
   gi_wp2
   refine bodyPost_end (results_none rfl _ _ _) rfl ?_;exact ⟨⟨_,rfl⟩,_,fun j h=>⟨(HH.out.2.2.1 j h.1).1,Nat.lt_of_lt_of_le (HH.out.2.2.1 j h.1).2 hh2.size⟩,.inr ⟨i,hi,hx2⟩⟩
end Go.Proofs.YthmhklmkgkfcpaaGreatDoor

import Derived.Test.YthmhklmkgkfcpaaGreatDoorU8
import Derived.Test.YthmhklmkgkfcpaaGreatDoorU10
import Derived.Test.YthmhklmkgkfcpaaGreatDoorU11
import Derived.Test.YthmhklmkgkfcpaaGreatDoorU14
import Derived.Test.YthmhklmkgkfcpaaGreatDoorU20
import Derived.Test.YthmhklmkgkfcpaaGreatDoorU21
import Derived.Deep.RegionHeld3
import Derived.Maps.OwnSet
set_option linter.unusedVariables false
set_option linter.unusedSimpArgs false
set_option maxHeartbeats 8000000
set_option maxRecDepth 100000
namespace Go.Proofs.YthmhklmkgkfcpaaGreatDoor
open Go.RowKit
theorem aqT {n:Int}(h:0≤n∧n≤65535):numB n 2=be 2 n.toNat:=by
 unfold numB;rw[if_pos]
 ·rfl
 ·unfold aed
  refine ⟨by omega,by omega,by omega,?_⟩;show n<65536
  omega
theorem RL.row2 (w:World)(e:TypeId){a b:Value}{la lb:List UInt8}(ha:Rd w a la)(hb:Rd w b lb):RL (w.alloc (.cells #[a,b] e)) (.slice (some ⟨w.heap.size,0,none⟩) 2 2) [la,lb]:=
 RL.cons (us:=[b]) (ls:=[lb]) (World.ownsRow_lit w #[a,b] 2 (Nat.le_refl _) (by unfold maxLen;omega) rfl) (ha.kp ((Kp.refl _).alloc _)) rfl (fun i hi=>by
  match i,hi with
  | 0,_=>exact hb.kp ((Kp.refl _).alloc _))
theorem RL.row3 (w:World)(e:TypeId){a b c:Value}{la lb lc:List UInt8}(ha:Rd w a la)(hb:Rd w b lb)(hc:Rd w c lc):RL (w.alloc (.cells #[a,b,c] e)) (.slice (some ⟨w.heap.size,0,none⟩) 3 3) [la,lb,lc]:=
 RL.cons (us:=[b,c]) (ls:=[lb,lc]) (World.ownsRow_lit w #[a,b,c] 3 (Nat.le_refl _) (by unfold maxLen;omega) rfl) (ha.kp ((Kp.refl _).alloc _)) rfl (fun i hi=>by
  match i,hi with
  | 0,_=>exact hb.kp ((Kp.refl _).alloc _)
  | 1,_=>exact hc.kp ((Kp.refl _).alloc _))
theorem RL.row4 (w:World)(e:TypeId){a b c d:Value}{la lb lc ld:List UInt8}(ha:Rd w a la)(hb:Rd w b lb)(hc:Rd w c lc)(hd:Rd w d ld):RL (w.alloc (.cells #[a,b,c,d] e)) (.slice (some ⟨w.heap.size,0,none⟩) 4 4) [la,lb,lc,ld]:=
 RL.cons (us:=[b,c,d]) (ls:=[lb,lc,ld]) (World.ownsRow_lit w #[a,b,c,d] 4 (Nat.le_refl _) (by unfold maxLen;omega) rfl) (ha.kp ((Kp.refl _).alloc _)) rfl (fun i hi=>by
  match i,hi with
  | 0,_=>exact hb.kp ((Kp.refl _).alloc _)
  | 1,_=>exact hc.kp ((Kp.refl _).alloc _)
  | 2,_=>exact hd.kp ((Kp.refl _).alloc _))
theorem aaz {w:World}{v:Value}{l:List UInt8}(h:Rd w v l):∃ a n c,v=.slice a n c:=by
 obtain ⟨a,c,e,_⟩:=h.shape;exact ⟨_,_,_,e⟩
theorem aca (n k:Int)(w:World)(hn:-9223372036854775808≤n∧n≤9223372036854775807):
  Calls Tryz.prog 209 #[.int .i64 n,.int .i64 k] w fun e w'=>(∃ r,e=.returned r∧Ow 5 w' w.heap.size r (numB n k))∧Kp w w':=by
 have HN:=Lib.hid (aeq n k w hn);clear hn;go_enter Tryz.func209,Tryz.ntmps209;go_wp2_with fail;refine HN.out.mono ?_;rintro _ w1 ⟨r,rfl,o1,k1⟩;obtain ⟨a1,n1,c1,rfl⟩:=aaz o1.rd;clear HN;go_wp2_with fail;go_ret;exact ⟨⟨_,rfl,o1⟩,k1⟩
theorem abq (v:Value)(l:List UInt8)(w:World)(h:Rd w v l):
  Calls Tryz.prog 180 #[v] w fun e w'=>(∃ r,e=.returned r∧Ow 5 w' w.heap.size r (rowB l))∧Kp w w':=by
 have HR:=Lib.hid (akr v l w h);obtain ⟨a,c,rfl,_,_⟩:=h.shape;clear h;go_enter Tryz.func180,Tryz.ntmps180;go_wp2_with fail;refine HR.out.mono ?_;rintro _ w1 ⟨r,rfl,o1,k1⟩;obtain ⟨a1,n1,c1,rfl⟩:=aaz o1.rd;clear HR;go_wp2_with fail;go_ret;exact ⟨⟨_,rfl,o1⟩,k1⟩
theorem ahz (v:Value)(un:List Int)(w:World)(hv:RI w v un)(hun:∀ i∈un,0≤i∧i≤65535)(hul:un.length≤100):
  Calls Tryz.prog 244 #[v] w fun e w'=>(∃ r,e=.returned r∧Ow 5 w' w.heap.size r (unB un))∧Kp w w':=by
 have U:=arN;have HV:=Lib.hid hv;obtain ⟨a,c,rfl,_,_⟩:=hv.shape;obtain ⟨UL,hUL⟩:∃ UL,un.length=UL:=⟨_,rfl⟩;rw[hUL] at HV hul ⊢;have HT:Hid (∀ (i:Nat) W,i<UL→Calls Tryz.prog 209 #[.int .i64 (un.getD i 0),.int .i64 2] W fun e w'=>(∃ r,e=.returned r∧Ow 5 w' W.heap.size r (be 2 (un.getD i 0).toNat))∧Kp W w'):=fun i W hi=>by
  have hm:un.getD i 0∈un:=by rw[List.getD_eq_getElem?_getD,List.getElem?_eq_getElem (by omega)];exact List.getElem_mem _
  obtain ⟨h0,h1⟩:=hun _ hm;rw[← aqT ⟨h0,h1⟩];exact aca _ _ W (by omega)
 have HTK:Hid (∀ i,i<UL→unB (un.take (i+1))=unB (un.take i)++be 2 (un.getD i 0).toNat):=fun i hi=>by
  rw[← aoV];congr 1
  rw[List.take_add_one,List.getD_eq_getElem?_getD,List.getElem?_eq_getElem (by omega)];rfl
 have HTE:Hid (un.take UL=un):=by unfold Hid;rw[← hUL];exact List.take_length
 have HUL:Hid (∀ i,(unB (un.take i)).length≤200):=fun i=>by rw[aff,List.length_take];omega
 clear hUL hun hv;go_enter Tryz.func244,Tryz.ntmps244;go_wp2_with fail;go_loopw[3,8] (fun v x wr=>∃ i:Nat,i≤UL∧x=.int .i64 (i:Int)∧Ow 5 wr w.heap.size v (unB (un.take i))∧Kp w wr) (fun _ x _=>(UL - (intOf x).toNat))
 case atStart=>exact ⟨0,Nat.zero_le _,rfl,by rw[List.take_zero];exact Ow.nil _ _ _,Kp.refl _⟩
 case round=>
  obtain ⟨i,hi,rfl,ho,hkp⟩:=hrel;by_cases hlt:i<UL
  ·obtain ⟨gu,ou,rfl,_,hcu⟩:=(HV.out.kp hkp).at i hlt
   have cu2:=hcu i hlt;have i1:IntKind.i64.wrap ((i:Int)+1)=(i:Int)+1:=IntWalk.i64_in _ (by omega);have i3:(i:Int)<(UL:Int):=by omega
   have HTi:=Lib.hid (HT.out i wr hlt);have HTK1:=Lib.hid (HTK.out i hlt);have KR:=Lib.hid hkp;have HO:=Lib.hid ho;have hle:=HUL.out i;generalize un.getD i 0=X at *;obtain ⟨UB,hUB⟩:∃ UB,unB (un.take i)=UB:=⟨_,rfl⟩;rw[hUB] at HO HTK1 hle;clear hcu hkp ho HT HTK hUB HUL HTE HV;go_wp2_with fail;refine HTi.out.mono ?_;rintro _ w8 ⟨⟨r8,rfl,o8⟩,k8⟩;go_wp2_with (at_builtin;refine aae U rfl _ _ rfl w.heap.size _ UB rfl (HO.out.kp k8) _ _ rfl o8.rd (by rw[aak];omega) (KR.out.trans k8).size ?_;intro v9 w9 o9 g9 _;have K9:=Lib.hid (Kp.grown (KR.out.trans k8) g9 HO.out.own_ge))
   go_roundw
   case rel=>exact ⟨i+1,by omega,by go_num,by rw[HTK1.out];exact o9,K9.out⟩
   case measure=>simp[intOf];omega
  ·obtain rfl:i=UL:=by omega
   rw[HTE.out] at ho;have hle:¬(i:Int)<(i:Int):=by omega
   obtain ⟨av,nv,cv,rfl⟩:=aaz ho.rd;have HO:=Lib.hid (And.intro ho hkp);clear hkp ho HT HTK HUL HTE HV;go_wp2_with fail;go_ret;exact ⟨⟨_,rfl,HO.out.1⟩,HO.out.2⟩
theorem aez (x:UInt8)(v:Value)(ls:List (List UInt8))(w:World)(h:RL w v ls)(hp:0<ls.flatten.length)(hb:ls.flatten.length≤1900)(hn:ls.length≤1000):
  Calls Tryz.prog 179 #[.int .u8 (x.toNat:Int),v] w fun e w'=>(∃ r,e=.returned r∧Ow 5 w' w.heap.size r (aaI ([x]++ls.flatten)))∧Kp w w':=by
 have U:=arN;have HC:=Lib.hid (fun W (hW:Kp w W)=>ab0 v ls W (h.kp hW) hp (by omega) (by omega));obtain ⟨a,c,rfl,_,_⟩:=h.shape;have HL:=Lib.hid (Ow.lit w 5 w.heap.size 1 #[.int .u8 (x.toNat:Int)] [x] (Nat.le_refl _) rfl (by omega) rfl);have HB:=Lib.hid (And.intro hp hb);clear h hp hb hn;go_enter Tryz.func179,Tryz.ntmps179;go_wp2_with fail;refine (HC.out _ ((Kp.refl _).alloc _)).mono ?_;rintro _ w1 ⟨⟨r1,rfl,o1⟩,k1⟩;have K1:=Lib.hid (((Kp.refl w).alloc (.cells #[.int .u8 (x.toNat:Int)] 5)).trans k1);have HL1:=Lib.hid (HL.out.kp k1);clear k1 HL HC;go_wp2_with (at_builtin;refine aae U rfl _ _ rfl w.heap.size _ [x] rfl HL1.out _ _ rfl o1.rd (by have:=HB.out;simp only[List.length_cons,List.length_nil];omega) K1.out.size ?_;intro v2 w2 o2 g2 _;have K2:=Lib.hid (Kp.grown K1.out g2 HL1.out.own_ge))
 refine (anx v2 ([x]++ls.flatten) w2 o2.rd (by have:=HB.out;simp only[List.length_append,List.length_cons,List.length_nil];omega)).mono ?_;rintro _ w3 ⟨⟨a3,c3,rfl,o3⟩,k3⟩;have KE:=Lib.hid (And.intro o3 (K2.out.trans k3));clear o3 k3 o2 g2 HL1 o1;go_wp2_with fail;go_ret;exact ⟨⟨_,rfl,KE.out.1.mono K2.out.size⟩,KE.out.2⟩
theorem afR (v:Value)(n:Nod)(w:World)(hv:NV w v n)(hn:adj n):
  Calls Tryz.prog 207 #[v] w fun e w'=>(∃ r,e=.returned r∧Ow 5 w' w.heap.size r (adi n))∧Kp w w':=by
 obtain ⟨p,arO,h,rfl,ip,iu,ih⟩:=hv;have hnl:=(aeG hn).1;obtain ⟨kk,nm,pub,un,hash⟩:=n;obtain ⟨hk,hnm,hpub,hhash,hunl,hun⟩:=hn;simp only at hk hnm hpub hhash hunl hun ip iu ih;obtain ⟨ap,np,cp,rfl⟩:=aaz ip;obtain ⟨ah,nh,ch,rfl⟩:=aaz ih;obtain ⟨au,nu,cu,rfl⟩:=iu.sl;simp only[nodC];obtain ⟨W0,hW0⟩:∃ W0:Int→World,W0=fun kk=>w.alloc (.cells #[.int .i64 kk,.int .i64 nm,.slice ap np cp,.slice au nu cu,.slice ah nh ch] 81):=⟨_,rfl⟩
 have HK0:Hid (∀ kk,Kp w (W0 kk)):=fun kk=>by rw[hW0];exact (Kp.refl _).alloc _
 have HC0:Hid (∀ kk,(W0 kk).rangeAt w.heap.size 0 [.int .i64 kk,.int .i64 nm,.slice ap np cp,.slice au nu cu,.slice ah nh ch]):=fun kk=>by
  rw[hW0];intro j v hv;rw[cell_of_row _ _ (0+j) _ _ _ (heap_alloc_new w _)];simpa using hv
 have HU:Hid (∀ kk W,Kp (W0 kk) W→W.cell? ⟨w.heap.size,0,none⟩=some (.int .i64 kk)∧W.cell? ⟨w.heap.size,1,none⟩=some (.int .i64 nm)∧W.cell? ⟨w.heap.size,2,none⟩=some (.slice ap np cp)∧W.cell? ⟨w.heap.size,3,none⟩=some (.slice au nu cu)∧W.cell? ⟨w.heap.size,4,none⟩=some (.slice ah nh ch)):=fun kk W hW=>
  ⟨hW.cell (HC0.out kk 0 _ rfl),hW.cell (HC0.out kk 1 _ rfl),hW.cell (HC0.out kk 2 _ rfl),hW.cell (HC0.out kk 3 _ rfl),hW.cell (HC0.out kk 4 _ rfl)⟩
 have HP:Hid (∀ kk W,Kp (W0 kk) W→Calls Tryz.prog 180 #[.slice ap np cp] W fun e w'=>(∃ r,e=.returned r∧Ow 5 w' W.heap.size r (rowB pub))∧Kp W w'):=fun kk W hW=>abq _ pub W (ip.kp ((HK0.out kk).trans hW))
 have HH:Hid (∀ kk W,Kp (W0 kk) W→Calls Tryz.prog 180 #[.slice ah nh ch] W fun e w'=>(∃ r,e=.returned r∧Ow 5 w' W.heap.size r (rowB hash))∧Kp W w'):=fun kk W hW=>abq _ hash W (ih.kp ((HK0.out kk).trans hW))
 have HPL:Hid (∀ kk W,Kp (W0 kk) W→Calls Tryz.prog 244 #[.slice au nu cu] W fun e w'=>(∃ r,e=.returned r∧Ow 5 w' W.heap.size r (unB un))∧Kp W w'):=fun kk W hW=>ahz _ un W (iu.kp ((HK0.out kk).trans hW)) (fun i hi=>by have:=hun i hi;omega) hunl
 have HNM:Hid (∀ W,Calls Tryz.prog 209 #[.int .i64 nm,.int .i64 2] W fun e w'=>(∃ r,e=.returned r∧Ow 5 w' W.heap.size r (be 2 nm.toNat))∧Kp W w'):=fun W=>by rw[← aqT hnm];exact aca _ _ W (by omega)
 have HKD:Hid (∀ (kk:Int) (b:UInt8) W,numB kk 1=[b]→-9223372036854775808≤kk∧kk≤9223372036854775807→Calls Tryz.prog 209 #[.int .i64 kk,.int .i64 1] W fun e w'=>(∃ r,e=.returned r∧Ow 5 w' W.heap.size r [b])∧Kp W w'):=fun kk b W e hb=>by rw[← e];exact aca _ _ W hb
 have HW0:Hid (∀ kk,w.alloc (.cells #[.int .i64 kk,.int .i64 nm,.slice ap np cp,.slice au nu cu,.slice ah nh ch] 81)=W0 kk):=fun kk=>by rw[hW0]
 clear hW0 HC0 ip iu ih hpub hhash hunl hun;rcases hk with rfl | rfl | rfl
 ·have HU:=Lib.hid (HU.out 0);have HW:=Lib.hid (HW0.out 0);have hkw:=Lib.hid (HK0.out 0)
  have HKD:=Lib.hid (fun W=>HKD.out 0 0 W (by decide) (by omega));generalize W0 0=WN at *;clear HK0 HP HH HPL HNM HW0;go_enter Tryz.func207,Tryz.ntmps207;go_wp2_with fail;rw[HW.out];have c0:=(HU.out _ (Kp.refl _)).1;go_wp2_with fail;refine (HKD.out _).mono ?_;rintro _ w2 ⟨⟨r2,rfl,o2⟩,k2⟩;have K2:=Lib.hid (And.intro o2 k2);have c0:=(HU.out _ k2).1;obtain ⟨a2,n2,b2,rfl⟩:=aaz o2.rd;clear o2 k2;go_wp2_with fail;go_ret;exact ⟨⟨_,rfl,K2.out.1.mono hkw.out.size⟩,hkw.out.trans K2.out.2⟩
 ·have HU:=Lib.hid (HU.out 1);have HW:=Lib.hid (HW0.out 1);have hkw:=Lib.hid (HK0.out 1)
  have HP:=Lib.hid (HP.out 1);have HH:=Lib.hid (HH.out 1);have HKD:=Lib.hid (fun W=>HKD.out 1 1 W (by decide) (by omega));have HE:Hid (adi ⟨1,nm,pub,un,hash⟩=[[1],be 2 nm.toNat,rowB pub,rowB hash].flatten):=by unfold Hid;simp[adi]
  rw[HE.out] at hnl ⊢;have HNL:=Lib.hid hnl;generalize W0 1=WN at *;clear HK0 HPL HW0 hnl;go_enter Tryz.func207,Tryz.ntmps207;go_wp2_with fail;rw[HW.out];have c0:=(HU.out _ (Kp.refl _)).1;go_wp2_with fail;refine (HKD.out _).mono ?_;rintro _ w2 ⟨⟨r2,rfl,o2⟩,k2⟩;have K2:=Lib.hid k2;have O2:=Lib.hid o2.rd;have c0:=(HU.out _ k2).1;obtain ⟨a2,n2,b2,rfl⟩:=aaz o2.rd;clear o2 k2;go_wp2_with fail;have HSS:Hid (∀ W,Kp WN W→W.cell? ⟨w.heap.size,1,none⟩=some (.int .i64 nm)∧W.cell? ⟨w.heap.size,2,none⟩=some (.slice ap np cp)∧W.cell? ⟨w.heap.size,4,none⟩=some (.slice ah nh ch)):=fun W hW=>⟨(HU.out W hW).2.1,(HU.out W hW).2.2.1,(HU.out W hW).2.2.2.2⟩
  have S2:=Lib.hid (HSS.out _ K2.out.drew);clear HU HW HKD HE c0;go_region_held3 (fun W=>W.cell? ⟨w.heap.size,1,none⟩=some (.int .i64 nm)∧W.cell? ⟨w.heap.size,2,none⟩=some (.slice ap np cp)∧W.cell? ⟨w.heap.size,4,none⟩=some (.slice ah nh ch))
   (first | with_reducible exact S2.out | with_reducible exact S3.out | with_reducible exact S4.out | with_reducible exact S5.out | with_reducible exact S6.out | with_reducible exact HSS.out _ (K5.out.alloc _))
   (first
    | (go_at_call 168;refine (ab0 _ [[1],be 2 nm.toNat,rowB pub,rowB hash] _ (RL.row4 w5 24 (O2.out.kp D5.out.1) (o3.rd.kp D5.out.2.1) (o4.rd.kp D5.out.2.2) o5.rd) (by simp) (by have:=HNL.out;omega) (by simp)).mono ?_;rintro _ w6 ⟨⟨r6,rfl,o6⟩,k6⟩;obtain ⟨a6,n6,b6,rfl⟩:=aaz o6.rd;have K6:=Lib.hid ((K5.out.alloc _).trans k6);have S6:=Lib.hid (HSS.out _ K6.out))
    | (go_at_call 180;refine (HH.out _ K4.out).mono ?_;rintro _ w5 ⟨⟨r5,rfl,o5⟩,k5⟩;obtain ⟨a5,n5,b5,rfl⟩:=aaz o5.rd;have K5:=Lib.hid (K4.out.trans k5);have S5:=Lib.hid (HSS.out _ K5.out);have D5:=Lib.hid (And.intro (D4.out.1.trans k5) (And.intro (D4.out.2.trans k5) k5)))
    | (go_at_call 180;refine (HP.out _ K3.out).mono ?_;rintro _ w4 ⟨⟨r4,rfl,o4⟩,k4⟩;obtain ⟨a4,n4,b4,rfl⟩:=aaz o4.rd;have K4:=Lib.hid (K3.out.trans k4);have S4:=Lib.hid (HSS.out _ K4.out);have D4:=Lib.hid (And.intro (D3.out.trans k4) k4))
    | (go_at_call 209;refine (HNM.out _).mono ?_;rintro _ w3 ⟨⟨r3,rfl,o3⟩,k3⟩;obtain ⟨a3,n3,b3,rfl⟩:=aaz o3.rd;have K3:=Lib.hid (K2.out.drew.trans k3);have S3:=Lib.hid (HSS.out _ K3.out);have D3:=Lib.hid ((Kp.drew (Kp.refl w2)).trans k3)))
  have KE:=Lib.hid (And.intro o6 (And.intro K5.out K6.out));clear S2 S3 S4 S5 S6 o6 o5 o4 o3 k6 HSS;go_wp2_with fail;go_ret;exact ⟨⟨_,rfl,KE.out.1.mono (Nat.le_trans (hkw.out.trans KE.out.2.1).size (by simp))⟩,hkw.out.trans KE.out.2.2⟩
 ·have HU:=Lib.hid (HU.out 2);have HW:=Lib.hid (HW0.out 2);have hkw:=Lib.hid (HK0.out 2)
  have HP:=Lib.hid (HP.out 2);have HH:=Lib.hid (HH.out 2);have HPL:=Lib.hid (HPL.out 2);have HKD:=Lib.hid (fun W=>HKD.out 2 2 W (by decide) (by omega));have HE:Hid (adi ⟨2,nm,pub,un,hash⟩=[[2],rowB pub,rowB hash,rowB (unB un)].flatten):=by unfold Hid;simp[adi]
  rw[HE.out] at hnl ⊢;have HNL:=Lib.hid hnl;generalize W0 2=WN at *;clear HK0 HW0 hnl HNM;go_enter Tryz.func207,Tryz.ntmps207;go_wp2_with fail;rw[HW.out];have c0:=(HU.out _ (Kp.refl _)).1;go_wp2_with fail;refine (HKD.out _).mono ?_;rintro _ w2 ⟨⟨r2,rfl,o2⟩,k2⟩;have K2:=Lib.hid k2;have O2:=Lib.hid o2.rd;have c0:=(HU.out _ k2).1;obtain ⟨a2,n2,b2,rfl⟩:=aaz o2.rd;clear o2 k2;go_wp2_with fail;have HSS:Hid (∀ W,Kp WN W→W.cell? ⟨w.heap.size,2,none⟩=some (.slice ap np cp)∧W.cell? ⟨w.heap.size,3,none⟩=some (.slice au nu cu)∧W.cell? ⟨w.heap.size,4,none⟩=some (.slice ah nh ch)):=fun W hW=>⟨(HU.out W hW).2.2.1,(HU.out W hW).2.2.2.1,(HU.out W hW).2.2.2.2⟩
  have S2:=Lib.hid (HSS.out _ K2.out.drew);clear HU HW HKD HE c0;go_region_held3 (fun W=>W.cell? ⟨w.heap.size,2,none⟩=some (.slice ap np cp)∧W.cell? ⟨w.heap.size,3,none⟩=some (.slice au nu cu)∧W.cell? ⟨w.heap.size,4,none⟩=some (.slice ah nh ch))
   (first | with_reducible exact S2.out | with_reducible exact S3.out | with_reducible exact S4.out | with_reducible exact S5.out | with_reducible exact S6.out | with_reducible exact S7.out | with_reducible exact HSS.out _ (K6.out.alloc _))
   (first
    | (go_at_call 168;refine (ab0 _ [[2],rowB pub,rowB hash,rowB (unB un)] _ (RL.row4 w6 24 (O2.out.kp D6.out.1) (o3.rd.kp D6.out.2.1) (o4.rd.kp D6.out.2.2) o6.rd) (by simp) (by have:=HNL.out;omega) (by simp)).mono ?_;rintro _ w7 ⟨⟨r7,rfl,o7⟩,k7⟩;obtain ⟨a7,n7,b7,rfl⟩:=aaz o7.rd;have K7:=Lib.hid ((K6.out.alloc _).trans k7);have S7:=Lib.hid (HSS.out _ K7.out))
    | (go_at_call 180;refine (abq _ (unB un) w5 o5.rd).mono ?_;rintro _ w6 ⟨⟨r6,rfl,o6⟩,k6⟩;obtain ⟨a6,n6,b6,rfl⟩:=aaz o6.rd;have K6:=Lib.hid (K5.out.trans k6);have S6:=Lib.hid (HSS.out _ K6.out);have D6:=Lib.hid (And.intro (D5.out.1.trans k6) (And.intro (D5.out.2.1.trans k6) (D5.out.2.2.trans k6))))
    | (go_at_call 244;refine (HPL.out _ K4.out).mono ?_;rintro _ w5 ⟨⟨r5,rfl,o5⟩,k5⟩;obtain ⟨a5,n5,b5,rfl⟩:=aaz o5.rd;have K5:=Lib.hid (K4.out.trans k5);have S5:=Lib.hid (HSS.out _ K5.out);have D5:=Lib.hid (And.intro (D4.out.1.trans k5) (And.intro (D4.out.2.trans k5) k5)))
    | (go_at_call 180;refine (HH.out _ K3.out).mono ?_;rintro _ w4 ⟨⟨r4,rfl,o4⟩,k4⟩;obtain ⟨a4,n4,b4,rfl⟩:=aaz o4.rd;have K4:=Lib.hid (K3.out.trans k4);have S4:=Lib.hid (HSS.out _ K4.out);have D4:=Lib.hid (And.intro (D3.out.trans k4) k4))
    | (go_at_call 180;refine (HP.out _ K2.out.drew).mono ?_;rintro _ w3 ⟨⟨r3,rfl,o3⟩,k3⟩;obtain ⟨a3,n3,b3,rfl⟩:=aaz o3.rd;have K3:=Lib.hid (K2.out.drew.trans k3);have S3:=Lib.hid (HSS.out _ K3.out);have D3:=Lib.hid ((Kp.drew (Kp.refl w2)).trans k3)))
  have KE:=Lib.hid (And.intro o7 (And.intro K6.out K7.out));clear S2 S3 S4 S5 S6 S7 o7 o6 o5 o4 o3 k7 HSS;go_wp2_with fail;go_ret;exact ⟨⟨_,rfl,KE.out.1.mono (Nat.le_trans (hkw.out.trans KE.out.2.1).size (by simp))⟩,hkw.out.trans KE.out.2.2⟩
end Go.Proofs.YthmhklmkgkfcpaaGreatDoor
namespace Go.Proofs.YthmhklmkgkfcpaaGreatDoor
open Go.RowKit Go.Maps
theorem aor:Keyed Tryz.prog 3:=int_keyed Tryz.underlying3
theorem aos (w:World):(zeroValue 237).run Tryz.prog w=.ok (.agg #[]) w:=by kernel_rfl
theorem aj0 (n:Int)(w:World):(Instr.makeMap 236 (some (.int .i64 n))).run Tryz.prog w=.ok (.map (some w.heap.size)) (w.alloc (.map #[] 0)):=by
 simp[Instr.makeMap,run_underlying Tryz.underlying236,asInt,Result.andThen,newObj];rfl
def setH (g:List Int):DataW Unit:=setOf (.agg []) (g.map fun i=>Lit.int .i64 (2*i))
theorem aot (g:List Int)(x:Int):setH (g++[x])=(setH g).put (.int .i64 (2*x)) (.agg []):=by
 unfold setH;rw[List.map_append,List.map_cons,List.map_nil,setOf_snoc]
theorem apG (g:List Int)(x:Int):Maps.has (setH g) (.int .i64 x)=decide (x∈g.map (2*·)):=by
 unfold setH;rw[has_setOf]
 ·by_cases h:x∈g.map (2*·)
  ·rw[decide_eq_true h,List.any_eq_true]
   obtain ⟨i,hi,rfl⟩:=List.mem_map.1 h;exact ⟨_,List.mem_map.2 ⟨i,hi,rfl⟩,by simp[Lit.sameKey]⟩
  ·rw[decide_eq_false h,List.any_eq_false]
   intro k hk;obtain ⟨i,hi,rfl⟩:=List.mem_map.1 hk;intro e;refine h (List.mem_map.2 ⟨i,hi,?_⟩);simpa [Lit.sameKey] using e
 ·intro k hk
  obtain ⟨i,hi,rfl⟩:=List.mem_map.1 hk;trivial
def Cnt (w:World)(v:Value)(g:List Int):Prop:=
 ∃ b m n,v=.func (.func 210) #[] #[.pointer (some ⟨b,0,none⟩)]∧Bx w b 236 #[.map (some m)]∧w.ownsMap Tryz.prog 3 (unitElem (H:=Unit)) m n (setH g)
theorem Cnt.kp {w w':World}{v:Value}{g:List Int}(h:Cnt w v g)(k:Kp w w'):Cnt w' v g:=by
 obtain ⟨b,m,n,e,h1,h2⟩:=h;exact ⟨b,m,n,e,h1.kp k,h2.kept ⟨k.os,k.tape,k.output,k.size,fun i hi _=>k.block i hi⟩ (row:=none) (by simp)⟩
theorem amJ (b m n:Nat)(g:List Int)(x:Int)(w:World)(h1:Bx w b 236 #[.map (some m)])(h2:w.ownsMap Tryz.prog 3 (unitElem (H:=Unit)) m n (setH g))(hx:-9223372036854775808≤x∧x≤9223372036854775807):
  Calls Tryz.prog 210 #[.int .i64 x,.pointer (some ⟨b,0,none⟩)] w fun e w'=>e=.returned (.bool (!decide (x∈g.map (2*·))))∧Kp w w':=by
 have c0:=h1.cell 0;simp only[List.getElem?_toArray,List.getElem?_cons_zero] at c0;have hkey:Go.keyOf Tryz.prog 3 (.int .i64 x)=some (.int .i64 x):=keyOf_int_mk Tryz.underlying3 (WalkArith.wf_i64 (by omega));have HS:=Lib.hid (apG g x);have HM:=Lib.hid h2;clear h1 h2;go_enter Tryz.func210,Tryz.ntmps210;go_wp2_with (first
  | (at_lookup;refine wpList_lookup_own_unit _ rfl _ _ 236 rfl 3 237 aor Tryz.underlying236 (aos _) m n _ rfl HM.out _ _ rfl hkey ?_)
  | go_in)
 have KA:Hid (Kp w (w.alloc (.cells #[] 237))):=(Kp.refl _).alloc _;rw[HS.out];go_ret;exact ⟨rfl,KA.out⟩
theorem Cnt.call {w:World}{v:Value}{g:List Int}(h:Cnt w v g):
  ∃ b,v=.func (.func 210) #[] #[.pointer (some ⟨b,0,none⟩)]∧∀ (y:Int) (W:World),Kp w W→-9223372036854775808≤y∧y≤9223372036854775807 →
   Calls Tryz.prog 210 #[.int .i64 y,.pointer (some ⟨b,0,none⟩)] W fun e w'=>e=.returned (.bool (!decide (y∈g.map (2*·))))∧Kp W w':=by
 obtain ⟨b,m,n,e,h1,h2⟩:=h;exact ⟨b,e,fun y W k hy=>amJ b m n g y W (h1.kp k) (h2.kept ⟨k.os,k.tape,k.output,k.size,fun i hi _=>k.block i hi⟩ (row:=none) (by simp)) hy⟩
theorem amK (v:Value)(g:List Int)(w:World)(hv:RI w v g)(hl:g.length≤100000)(hg:∀ i∈g,-1000000≤i∧i≤1000000):
  Calls Tryz.prog 178 #[v] w fun e w'=>(∃ r,e=.returned r∧Cnt w' r g)∧Kp w w':=by
 have hmm:=aj0;have HV:=Lib.hid hv;obtain ⟨a,c,rfl,_,_⟩:=hv.shape;obtain ⟨GL,hGL⟩:∃ GL,g.length=GL:=⟨_,rfl⟩;rw[hGL] at HV hl ⊢;clear hv;go_enter Tryz.func178,Tryz.ntmps178;go_wp2_with fail;obtain ⟨WB,hWB⟩:∃ WB,(w.alloc (.map #[] 0)).alloc (.cells #[.map (some w.heap.size)] 236)=WB:=⟨_,rfl⟩;have hb0:Bx WB (w.heap.size+1) 236 #[.map (some w.heap.size)]:=by
  rw[← hWB];have:=Bx.new (w.alloc (.map #[] 0)) 236 #[.map (some w.heap.size)];rwa [World.size_alloc] at this
 have hm0:WB.ownsMap Tryz.prog 3 (unitElem (H:=Unit)) w.heap.size 0 (setH (g.take 0)):=by
  rw[← hWB];exact (World.ownsMap_made w Tryz.prog 3 (unitElem (H:=Unit))).alloc _
 have hk0:Kp w WB:=by rw[← hWB];exact ((Kp.refl _).alloc _).alloc _
 rw[hWB];clear hWB hmm;have HG:Hid (∀ i,i<GL→g.take (i+1)=g.take i++[g.getD i 0]∧-1000000≤g.getD i 0∧g.getD i 0≤1000000):=fun i hi=>by
  have hm:g.getD i 0∈g:=by rw[List.getD_eq_getElem?_getD,List.getElem?_eq_getElem (by omega)];exact List.getElem_mem _
  refine ⟨?_,hg _ hm⟩;rw[List.take_add_one,List.getD_eq_getElem?_getD,List.getElem?_eq_getElem (by omega)];rfl
 have HTE:Hid (g.take GL=g):=by unfold Hid;rw[← hGL];exact List.take_length
 clear hg hGL;have H0:=Lib.hid (And.intro hb0 (And.intro hm0 hk0));clear hb0 hm0 hk0;go_loopw[11] (fun x wr=>∃ i:Nat,i≤GL∧x=.int .i64 (i:Int)∧Bx wr (w.heap.size+1) 236 #[.map (some w.heap.size)]∧wr.ownsMap Tryz.prog 3 (unitElem (H:=Unit)) w.heap.size i (setH (g.take i))∧Kp w wr) (fun x _=>(GL - (intOf x).toNat))
 case atStart=>exact ⟨0,Nat.zero_le _,rfl,H0.out⟩
 case round=>
  obtain ⟨i,hi,rfl,hb,hm,hkp⟩:=hrel;have HR:=Lib.hid (And.intro hb (And.intro hm hkp));by_cases hlt:i<GL
  ·obtain ⟨gu,ou,rfl,_,hcu⟩:=(HV.out.kp hkp).at i hlt
   have cu2:=hcu i hlt;have cb:=hb.cell 0;simp only[List.getElem?_toArray,List.getElem?_cons_zero] at cb;obtain ⟨g1,g2,g3⟩:=HG.out i hlt;have i1:IntKind.i64.wrap ((i:Int)+1)=(i:Int)+1:=IntWalk.i64_in _ (by omega);have i3:(i:Int)<(GL:Int):=by omega
   have HG1:=Lib.hid g1;generalize g.getD i 0=X at *;have i2:IntKind.i64.wrap (2*X)=2*X:=IntWalk.i64_in _ (by omega);have hkey:Go.keyOf Tryz.prog 3 (.int .i64 (2*X))=some (.int .i64 (2*X)):=keyOf_int_mk Tryz.underlying3 (WalkArith.wf_i64 (by omega));have hn:i<maxLen:=by unfold maxLen;omega
   clear hcu hkp hb hm HG HV HTE g1 g2 g3;go_wp2_with (at_mapUpdate;refine wpList_mapUpdate_own _ rfl _ _ _ 236 rfl 3 237 aor Tryz.underlying236 (unitElem (H:=Unit)) w.heap.size i _ rfl HR.out.2.1 hn _ _ _ rfl rfl hkey _ [] unitElem_mk ?_;intro w1 hown1 hgrow1)
   go_roundw
   case rel=>exact ⟨i+1,by omega,by go_num,HR.out.1.grown hgrow1 (by simp),by rw[HG1.out,aot];exact hown1,Below.grown HR.out.2.2 hgrow1 HR.out.2.2.size (fun k hk=>by cases hk;exact Nat.le_refl _)⟩
   case measure=>simp[intOf];omega
  ·obtain rfl:i=GL:=by omega
   have hle:¬(i:Int)<(i:Int):=by omega
   clear hb hm hkp HG HV;go_wp2_with fail;go_ret;obtain ⟨r1,r2,r3⟩:=HR.out;rw[HTE.out] at r2;exact ⟨⟨_,rfl,_,_,_,rfl,r1,r2⟩,r3⟩
end Go.Proofs.YthmhklmkgkfcpaaGreatDoor

import Derived.Test.YthmhklmkgkfcpaaGreatDoorT16
import Derived.Test.YthmhklmkgkfcpaaGreatDoorT31
import Derived.Test.YthmhklmkgkfcpaaGreatDoorT34
import Derived.Test.YthmhklmkgkfcpaaGreatDoorT35
import Derived.Deep.RegionHeld3
set_option linter.unusedVariables false
set_option linter.unusedSimpArgs false
set_option maxHeartbeats 8000000
set_option maxRecDepth 100000
namespace Go.Proofs.YthmhklmkgkfcpaaGreatDoor
open Go.RowKit
theorem afW (v:Value)(n:Nod)(w:World)(hv:NV w v n)(hn:adN n):
  Calls Tryz.prog 207 #[v] w fun e w'=>(∃ r,e=.returned r∧Ow 5 w' w.heap.size r (adk n))∧Kp w w':=by
 obtain ⟨p,ar1,h,rfl,ip,iu,ih⟩:=hv;have hnl:=(aeR hn).1;obtain ⟨kk,nm,pub,un,hash⟩:=n;obtain ⟨hk,hnm,hpub,hhash,hunl,hun⟩:=hn;simp only at hk hnm hpub hhash hunl hun ip iu ih;obtain ⟨ap,np,cp,rfl⟩:=aaw ip;obtain ⟨ah,nh,ch,rfl⟩:=aaw ih;obtain ⟨au,nu,cu,rfl⟩:=iu.sl;simp only[nodC];obtain ⟨W0,hW0⟩:∃ W0:Int→World,W0=fun kk=>w.alloc (.cells #[.int .i64 kk,.int .i64 nm,.slice ap np cp,.slice au nu cu,.slice ah nh ch] 81):=⟨_,rfl⟩
 have HK0:Hid (∀ kk,Kp w (W0 kk)):=fun kk=>by rw[hW0];exact (Kp.refl _).alloc _
 have HC0:Hid (∀ kk,(W0 kk).rangeAt w.heap.size 0 [.int .i64 kk,.int .i64 nm,.slice ap np cp,.slice au nu cu,.slice ah nh ch]):=fun kk=>by
  rw[hW0];intro j v hv;rw[cell_of_row _ _ (0+j) _ _ _ (heap_alloc_new w _)];simpa using hv
 have HU:Hid (∀ kk W,Kp (W0 kk) W→W.cell? ⟨w.heap.size,0,none⟩=some (.int .i64 kk)∧W.cell? ⟨w.heap.size,1,none⟩=some (.int .i64 nm)∧W.cell? ⟨w.heap.size,2,none⟩=some (.slice ap np cp)∧W.cell? ⟨w.heap.size,3,none⟩=some (.slice au nu cu)∧W.cell? ⟨w.heap.size,4,none⟩=some (.slice ah nh ch)):=fun kk W hW=>
  ⟨hW.cell (HC0.out kk 0 _ rfl),hW.cell (HC0.out kk 1 _ rfl),hW.cell (HC0.out kk 2 _ rfl),hW.cell (HC0.out kk 3 _ rfl),hW.cell (HC0.out kk 4 _ rfl)⟩
 have HP:Hid (∀ kk W,Kp (W0 kk) W→Calls Tryz.prog 180 #[.slice ap np cp] W fun e w'=>(∃ r,e=.returned r∧Ow 5 w' W.heap.size r (rowB pub))∧Kp W w'):=fun kk W hW=>abm _ pub W (ip.kp ((HK0.out kk).trans hW))
 have HH:Hid (∀ kk W,Kp (W0 kk) W→Calls Tryz.prog 180 #[.slice ah nh ch] W fun e w'=>(∃ r,e=.returned r∧Ow 5 w' W.heap.size r (rowB hash))∧Kp W w'):=fun kk W hW=>abm _ hash W (ih.kp ((HK0.out kk).trans hW))
 have HPL:Hid (∀ kk W,Kp (W0 kk) W→Calls Tryz.prog 244 #[.slice au nu cu] W fun e w'=>(∃ r,e=.returned r∧Ow 5 w' W.heap.size r (unB un))∧Kp W w'):=fun kk W hW=>ahG _ un W (iu.kp ((HK0.out kk).trans hW)) (fun i hi=>by have:=hun i hi;omega) hunl
 have HNM:Hid (∀ W,Calls Tryz.prog 209 #[.int .i64 nm,.int .i64 2] W fun e w'=>(∃ r,e=.returned r∧Ow 5 w' W.heap.size r (be 2 nm.toNat))∧Kp W w'):=fun W=>by rw[← aq9 hnm];exact ab9 _ _ W (by omega)
 have HKD:Hid (∀ (kk:Int) (b:UInt8) W,numB kk 1=[b]→-9223372036854775808≤kk∧kk≤9223372036854775807→Calls Tryz.prog 209 #[.int .i64 kk,.int .i64 1] W fun e w'=>(∃ r,e=.returned r∧Ow 5 w' W.heap.size r [b])∧Kp W w'):=fun kk b W e hb=>by rw[← e];exact ab9 _ _ W hb
 have HW0:Hid (∀ kk,w.alloc (.cells #[.int .i64 kk,.int .i64 nm,.slice ap np cp,.slice au nu cu,.slice ah nh ch] 81)=W0 kk):=fun kk=>by rw[hW0]
 clear hW0 HC0 ip iu ih hpub hhash hunl hun;rcases hk with rfl | rfl | rfl
 ·have HU:=Lib.hid (HU.out 0);have HW:=Lib.hid (HW0.out 0);have hkw:=Lib.hid (HK0.out 0)
  have HKD:=Lib.hid (fun W=>HKD.out 0 0 W (by decide) (by omega));generalize W0 0=WN at *;clear HK0 HP HH HPL HNM HW0;go_enter Tryz.func207,Tryz.ntmps207;go_wp2_with fail;rw[HW.out];have c0:=(HU.out _ (Kp.refl _)).1;go_wp2_with fail;refine (HKD.out _).mono ?_;rintro _ w2 ⟨⟨r2,rfl,o2⟩,k2⟩;have K2:=Lib.hid (And.intro o2 k2);have c0:=(HU.out _ k2).1;obtain ⟨a2,n2,b2,rfl⟩:=aaw o2.rd;clear o2 k2;go_wp2_with fail;go_ret;exact ⟨⟨_,rfl,K2.out.1.mono hkw.out.size⟩,hkw.out.trans K2.out.2⟩
 ·have HU:=Lib.hid (HU.out 1);have HW:=Lib.hid (HW0.out 1);have hkw:=Lib.hid (HK0.out 1)
  have HP:=Lib.hid (HP.out 1);have HH:=Lib.hid (HH.out 1);have HKD:=Lib.hid (fun W=>HKD.out 1 1 W (by decide) (by omega));have HE:Hid (adk ⟨1,nm,pub,un,hash⟩=[[1],be 2 nm.toNat,rowB pub,rowB hash].flatten):=by unfold Hid;simp[adk]
  rw[HE.out] at hnl ⊢;have HNL:=Lib.hid hnl;generalize W0 1=WN at *;clear HK0 HPL HW0 hnl;go_enter Tryz.func207,Tryz.ntmps207;go_wp2_with fail;rw[HW.out];have c0:=(HU.out _ (Kp.refl _)).1;go_wp2_with fail;refine (HKD.out _).mono ?_;rintro _ w2 ⟨⟨r2,rfl,o2⟩,k2⟩;have K2:=Lib.hid k2;have O2:=Lib.hid o2.rd;have c0:=(HU.out _ k2).1;obtain ⟨a2,n2,b2,rfl⟩:=aaw o2.rd;clear o2 k2;go_wp2_with fail;have HSS:Hid (∀ W,Kp WN W→W.cell? ⟨w.heap.size,1,none⟩=some (.int .i64 nm)∧W.cell? ⟨w.heap.size,2,none⟩=some (.slice ap np cp)∧W.cell? ⟨w.heap.size,4,none⟩=some (.slice ah nh ch)):=fun W hW=>⟨(HU.out W hW).2.1,(HU.out W hW).2.2.1,(HU.out W hW).2.2.2.2⟩
  have S2:=Lib.hid (HSS.out _ K2.out.drew);clear HU HW HKD HE c0;go_region_held3 (fun W=>W.cell? ⟨w.heap.size,1,none⟩=some (.int .i64 nm)∧W.cell? ⟨w.heap.size,2,none⟩=some (.slice ap np cp)∧W.cell? ⟨w.heap.size,4,none⟩=some (.slice ah nh ch))
   (first | with_reducible exact S2.out | with_reducible exact S3.out | with_reducible exact S4.out | with_reducible exact S5.out | with_reducible exact S6.out | with_reducible exact HSS.out _ (K5.out.alloc _))
   (first
    | (go_at_call 168;refine (abW _ [[1],be 2 nm.toNat,rowB pub,rowB hash] _ (RL.row4 w5 24 (O2.out.kp D5.out.1) (o3.rd.kp D5.out.2.1) (o4.rd.kp D5.out.2.2) o5.rd) (by simp) (by have:=HNL.out;omega) (by simp)).mono ?_;rintro _ w6 ⟨⟨r6,rfl,o6⟩,k6⟩;obtain ⟨a6,n6,b6,rfl⟩:=aaw o6.rd;have K6:=Lib.hid ((K5.out.alloc _).trans k6);have S6:=Lib.hid (HSS.out _ K6.out))
    | (go_at_call 180;refine (HH.out _ K4.out).mono ?_;rintro _ w5 ⟨⟨r5,rfl,o5⟩,k5⟩;obtain ⟨a5,n5,b5,rfl⟩:=aaw o5.rd;have K5:=Lib.hid (K4.out.trans k5);have S5:=Lib.hid (HSS.out _ K5.out);have D5:=Lib.hid (And.intro (D4.out.1.trans k5) (And.intro (D4.out.2.trans k5) k5)))
    | (go_at_call 180;refine (HP.out _ K3.out).mono ?_;rintro _ w4 ⟨⟨r4,rfl,o4⟩,k4⟩;obtain ⟨a4,n4,b4,rfl⟩:=aaw o4.rd;have K4:=Lib.hid (K3.out.trans k4);have S4:=Lib.hid (HSS.out _ K4.out);have D4:=Lib.hid (And.intro (D3.out.trans k4) k4))
    | (go_at_call 209;refine (HNM.out _).mono ?_;rintro _ w3 ⟨⟨r3,rfl,o3⟩,k3⟩;obtain ⟨a3,n3,b3,rfl⟩:=aaw o3.rd;have K3:=Lib.hid (K2.out.drew.trans k3);have S3:=Lib.hid (HSS.out _ K3.out);have D3:=Lib.hid ((Kp.drew (Kp.refl w2)).trans k3)))
  have KE:=Lib.hid (And.intro o6 (And.intro K5.out K6.out));clear S2 S3 S4 S5 S6 o6 o5 o4 o3 k6 HSS;go_wp2_with fail;go_ret;exact ⟨⟨_,rfl,KE.out.1.mono (Nat.le_trans (hkw.out.trans KE.out.2.1).size (by simp))⟩,hkw.out.trans KE.out.2.2⟩
 ·have HU:=Lib.hid (HU.out 2);have HW:=Lib.hid (HW0.out 2);have hkw:=Lib.hid (HK0.out 2)
  have HP:=Lib.hid (HP.out 2);have HH:=Lib.hid (HH.out 2);have HPL:=Lib.hid (HPL.out 2);have HKD:=Lib.hid (fun W=>HKD.out 2 2 W (by decide) (by omega));have HE:Hid (adk ⟨2,nm,pub,un,hash⟩=[[2],rowB pub,rowB hash,rowB (unB un)].flatten):=by unfold Hid;simp[adk]
  rw[HE.out] at hnl ⊢;have HNL:=Lib.hid hnl;generalize W0 2=WN at *;clear HK0 HW0 hnl HNM;go_enter Tryz.func207,Tryz.ntmps207;go_wp2_with fail;rw[HW.out];have c0:=(HU.out _ (Kp.refl _)).1;go_wp2_with fail;refine (HKD.out _).mono ?_;rintro _ w2 ⟨⟨r2,rfl,o2⟩,k2⟩;have K2:=Lib.hid k2;have O2:=Lib.hid o2.rd;have c0:=(HU.out _ k2).1;obtain ⟨a2,n2,b2,rfl⟩:=aaw o2.rd;clear o2 k2;go_wp2_with fail;have HSS:Hid (∀ W,Kp WN W→W.cell? ⟨w.heap.size,2,none⟩=some (.slice ap np cp)∧W.cell? ⟨w.heap.size,3,none⟩=some (.slice au nu cu)∧W.cell? ⟨w.heap.size,4,none⟩=some (.slice ah nh ch)):=fun W hW=>⟨(HU.out W hW).2.2.1,(HU.out W hW).2.2.2.1,(HU.out W hW).2.2.2.2⟩
  have S2:=Lib.hid (HSS.out _ K2.out.drew);clear HU HW HKD HE c0;go_region_held3 (fun W=>W.cell? ⟨w.heap.size,2,none⟩=some (.slice ap np cp)∧W.cell? ⟨w.heap.size,3,none⟩=some (.slice au nu cu)∧W.cell? ⟨w.heap.size,4,none⟩=some (.slice ah nh ch))
   (first | with_reducible exact S2.out | with_reducible exact S3.out | with_reducible exact S4.out | with_reducible exact S5.out | with_reducible exact S6.out | with_reducible exact S7.out | with_reducible exact HSS.out _ (K6.out.alloc _))
   (first
    | (go_at_call 168;refine (abW _ [[2],rowB pub,rowB hash,rowB (unB un)] _ (RL.row4 w6 24 (O2.out.kp D6.out.1) (o3.rd.kp D6.out.2.1) (o4.rd.kp D6.out.2.2) o6.rd) (by simp) (by have:=HNL.out;omega) (by simp)).mono ?_;rintro _ w7 ⟨⟨r7,rfl,o7⟩,k7⟩;obtain ⟨a7,n7,b7,rfl⟩:=aaw o7.rd;have K7:=Lib.hid ((K6.out.alloc _).trans k7);have S7:=Lib.hid (HSS.out _ K7.out))
    | (go_at_call 180;refine (abm _ (unB un) w5 o5.rd).mono ?_;rintro _ w6 ⟨⟨r6,rfl,o6⟩,k6⟩;obtain ⟨a6,n6,b6,rfl⟩:=aaw o6.rd;have K6:=Lib.hid (K5.out.trans k6);have S6:=Lib.hid (HSS.out _ K6.out);have D6:=Lib.hid (And.intro (D5.out.1.trans k6) (And.intro (D5.out.2.1.trans k6) (D5.out.2.2.trans k6))))
    | (go_at_call 244;refine (HPL.out _ K4.out).mono ?_;rintro _ w5 ⟨⟨r5,rfl,o5⟩,k5⟩;obtain ⟨a5,n5,b5,rfl⟩:=aaw o5.rd;have K5:=Lib.hid (K4.out.trans k5);have S5:=Lib.hid (HSS.out _ K5.out);have D5:=Lib.hid (And.intro (D4.out.1.trans k5) (And.intro (D4.out.2.trans k5) k5)))
    | (go_at_call 180;refine (HH.out _ K3.out).mono ?_;rintro _ w4 ⟨⟨r4,rfl,o4⟩,k4⟩;obtain ⟨a4,n4,b4,rfl⟩:=aaw o4.rd;have K4:=Lib.hid (K3.out.trans k4);have S4:=Lib.hid (HSS.out _ K4.out);have D4:=Lib.hid (And.intro (D3.out.trans k4) k4))
    | (go_at_call 180;refine (HP.out _ K2.out.drew).mono ?_;rintro _ w3 ⟨⟨r3,rfl,o3⟩,k3⟩;obtain ⟨a3,n3,b3,rfl⟩:=aaw o3.rd;have K3:=Lib.hid (K2.out.drew.trans k3);have S3:=Lib.hid (HSS.out _ K3.out);have D3:=Lib.hid ((Kp.drew (Kp.refl w2)).trans k3)))
  have KE:=Lib.hid (And.intro o7 (And.intro K6.out K7.out));clear S2 S3 S4 S5 S6 S7 o7 o6 o5 o4 o3 k7 HSS;go_wp2_with fail;go_ret;exact ⟨⟨_,rfl,KE.out.1.mono (Nat.le_trans (hkw.out.trans KE.out.2.1).size (by simp))⟩,hkw.out.trans KE.out.2.2⟩
theorem amV {n:Nod}(g:List Int)(h:n.kind≠2):adk (afo n g)=adk n:=by
 unfold adk afo;simp only[h,if_false]
theorem ahc (vt vc:Value)(t:List Nod)(g:List Int)(K q:Nat)(w:World)(hT:abo t K)(ht:NL w vt t)(hc:Cnt w vc g)(hTab:Tab w)(hq:q<2 ^ K):
  Calls Tryz.prog 176 #[vt,.int .i64 ((nd 0 q:Nat):Int),vc] w fun e w'=>(∃ r,e=.returned r∧Ow 5 w' w.heap.size r (digF t g 0 q))∧Kp w w':=by
 obtain ⟨x1,x2⟩:=hT.lt (j:=0) (Nat.zero_le _) (by simpa using hq);have hk:=abH hT.le;obtain ⟨b,off,c,p,ar1,h,rfl,hn⟩:=ht.node x1;obtain ⟨c0,c1,c2,c3,c4⟩:=And.intro hn.kind (And.intro hn.name (And.intro hn.pubC (And.intro hn.unC hn.hashC)));have hx0:nd 0 q=2*q:=abt q;have hne:(ats t (nd 0 q)).kind≠2:=fun e=>by have:=hT.par _ e;omega
 have hB:adk (if ((nd 0 q:Nat):Int)∈g.map (2*·) then aao else afo (ats t (nd 0 q)) g)=adk (if (q:Int)∈g then aao else ats t (nd 0 q)):=by
  have e:((nd 0 q:Nat):Int)=2*(q:Int):=by omega
  rw[e];by_cases hm:(q:Int)∈g
  ·rw[if_pos ((aha g _).2 hm),if_pos hm]
  ·rw[if_neg (fun h=>hm ((aha g _).1 h)),if_neg hm,amV g hne]
 have hTD:adN (if ((nd 0 q:Nat):Int)∈g.map (2*·) then aao else afo (ats t (nd 0 q)) g):=by
  split
  ·exact adN.blank
  ·exact (hT.node _).less g
 have HCT:=Lib.hid (ahb (.agg (nodC (ats t (nd 0 q)) p ar1 h).toArray) vc (ats t (nd 0 q)) ((nd 0 q:Nat):Int) g w ⟨p,ar1,h,rfl,hn.2⟩ (hT.node _) hc (by omega));have HD:Hid (digF t g 0 q=aaH ([1]++[be 2 q,adk (if ((nd 0 q:Nat):Int)∈g.map (2*·) then aao else afo (ats t (nd 0 q)) g)].flatten)):=by unfold Hid;rw[hB];simp[digF]
 rw[HD.out];have hnl:=(aeR hTD).1;generalize (if ((nd 0 q:Nat):Int)∈g.map (2*·) then aao else afo (ats t (nd 0 q)) g)=m9 at *;have HTD:=Lib.hid hTD;have HNL:=Lib.hid hnl;obtain ⟨_,y1,y2⟩:=aa1 hT.le (Nat.zero_le K) (show q<2 ^ (K - 0) by simpa using hq);have hlv:=abB y1 y2;have HLV:=Lib.hid (fun W (hW:Kp w W)=>abe ((nd 0 q:Nat):Int) W (hTab.kp hW));rw[hlv] at HLV;have HNUM:Hid (∀ W,Calls Tryz.prog 209 #[.int .i64 (q:Int),.int .i64 2] W fun e w'=>(∃ r,e=.returned r∧Ow 5 w' W.heap.size r (be 2 q))∧Kp W w'):=fun W=>by
  have:=ab9 (q:Int) 2 W (by omega);rwa [aq9 (by omega),Int.toNat_natCast] at this
 have e2:((nd 0 q:Nat):Int).tdiv 2=(q:Int):=by rw[hx0,Int.tdiv_eq_ediv_of_nonneg (by omega)];omega
 have e3:IntKind.i64.wrap (q:Int)=(q:Int):=IntWalk.i64_in _ (by omega);have e4:((nd 0 q:Nat):Int)<(t.length:Int):=by omega
 have HIN:=Lib.hid hn.2;obtain ⟨ap,np,cp,rfl⟩:=aaw hn.2.pub;obtain ⟨au,nu,cu,rfl⟩:=hn.2.un.sl;obtain ⟨ah,nh,ch,rfl⟩:=aaw hn.2.hash;obtain ⟨cb,rfl,_⟩:=hc.call;clear hT ht hc hn hx0 hq hB hTD hne hnl y1 y2 hlv hTab HIN;simp only[nodC] at HCT;generalize nd 0 q=X at *;generalize t.length=TL at *;generalize ats t X=m at *;go_enter Tryz.func176,Tryz.ntmps176;go_wp2_with fail;refine HCT.out.mono ?_;rintro _ w1 ⟨⟨r1,rfl,o1⟩,k1⟩;clear HCT c0 c1 c2 c3 c4;go_wp2_with fail;refine (afW r1 m9 w1 o1 HTD.out).mono ?_;rintro _ w2 ⟨⟨r2,rfl,o2⟩,k2⟩;have K2:=Lib.hid (k1.trans k2);have O2:=Lib.hid o2.rd;obtain ⟨a2,n2,b2,rfl⟩:=aaw o2.rd;clear o1 k1 k2 o2;go_wp2_with fail;refine (HLV.out _ K2.out).mono ?_;rintro _ _ ⟨rfl,rfl⟩;go_wp2_with fail;refine (HNUM.out _).mono ?_;rintro _ w3 ⟨⟨r3,rfl,o3⟩,k3⟩;have HR:=Lib.hid (RL.row2 w3 24 o3.rd (O2.out.kp k3));have K3:=Lib.hid (K2.out.trans (k3.alloc (.cells #[r3,.slice a2 n2 b2] 24)));obtain ⟨a3,n3,b3,rfl⟩:=aaw o3.rd;clear o3 k3 O2 HNUM HLV;go_wp2_with fail;refine (aeJ 1 _ _ _ HR.out (by rw[List.flatten_cons,List.length_append,aak];omega) (by have:=HNL.out;simp only[List.flatten_cons,List.flatten_nil,List.length_append,aak,List.length_nil];omega) (by simp)).mono ?_;rintro _ w4 ⟨⟨r4,rfl,o4⟩,k4⟩;have KE:=Lib.hid (And.intro o4 (K3.out.trans k4));obtain ⟨a4,n4,b4,rfl⟩:=aaw o4.rd;clear o4 k4 HR;go_wp2_with fail;go_ret;exact ⟨⟨_,rfl,KE.out.1.mono K3.out.size⟩,KE.out.2⟩
theorem ahd (t:List Nod)(K j:Nat)(hT:abo t K)(hj:j+1≤K)
  (IH:∀ (q:Nat) (w:World) (vt vc:Value) (g:List Int),NL w vt t→Cnt w vc g→Tab w→q<2 ^ (K - j)→Calls Tryz.prog 176 #[vt,.int .i64 ((nd j q:Nat):Int),vc] w fun e w'=>(∃ r,e=.returned r∧Ow 5 w' w.heap.size r (digF t g j q))∧Kp w w')
  (q:Nat) (w:World) (vt vc:Value) (g:List Int) (ht:NL w vt t) (hc:Cnt w vc g) (hTab:Tab w) (hq:q<2 ^ (K - (j+1))):
  Calls Tryz.prog 176 #[vt,.int .i64 ((nd (j+1) q:Nat):Int),vc] w fun e w'=>(∃ r,e=.returned r∧Ow 5 w' w.heap.size r (digF t g (j+1) q))∧Kp w w':=by
 obtain ⟨x1,x2⟩:=hT.lt hj hq;obtain ⟨b,off,c,p,ar1,h,rfl,hn⟩:=ht.node x1;obtain ⟨c0,c1,c2,c3,c4⟩:=And.intro hn.kind (And.intro hn.name (And.intro hn.pubC (And.intro hn.unC hn.hashC)));have hodd:=afE j q;have hnin:¬((nd (j+1) q:Nat):Int)∈g.map (2*·):=fun h=>by
  obtain ⟨i,_,e⟩:=List.mem_map.1 h;omega
 have hct:=ahb (.agg (nodC (ats t (nd (j+1) q)) p ar1 h).toArray) vc (ats t (nd (j+1) q)) ((nd (j+1) q:Nat):Int) g w ⟨p,ar1,h,rfl,hn.2⟩ (hT.node _) hc (by omega);rw[if_neg hnin] at hct;have HCT:=Lib.hid hct;have HTD:=Lib.hid ((hT.node (nd (j+1) q)).less g);have HNL:=Lib.hid (aeR HTD.out).1;obtain ⟨k1,k2⟩:=arP hj hq;obtain ⟨_,y1,y2⟩:=aa1 hT.le hj hq;obtain ⟨f1,f2,f3⟩:=adG (j:=j) (q:=q) y1 y2;have hlv:=abB y1 y2;have HLV:=Lib.hid (fun W (hW:Kp w W)=>abe ((nd (j+1) q:Nat):Int) W (hTab.kp hW));rw[hlv] at HLV;have hl0:(((j+1:Nat):Int)==0)=false:=beq_eq_false_iff_ne.2 (by omega);have hl1:¬(((j+1:Nat):Int)=0):=by omega
 have HCL:Hid (∀ W,Kp w W→Calls Tryz.prog 177 #[.int .i64 ((nd (j+1) q:Nat):Int),.int .i64 0] W fun e w'=>e=.returned (.int .i64 ((nd j (2*q):Nat):Int))∧W=w'):=fun W hW=>by
  have:=adA ((nd (j+1) q:Nat):Int) 0 W (hTab.kp hW);rwa [if_neg (by decide),f2] at this
 have HCR:Hid (∀ W,Kp w W→Calls Tryz.prog 177 #[.int .i64 ((nd (j+1) q:Nat):Int),.int .i64 1] W fun e w'=>e=.returned (.int .i64 ((nd j (2*q+1):Nat):Int))∧W=w'):=fun W hW=>by
  have:=adA ((nd (j+1) q:Nat):Int) 1 W (hTab.kp hW);rwa [if_pos rfl,f3] at this
 have HDL:=Lib.hid (fun W (hW:Kp w W)=>IH (2*q) W _ vc g (ht.kp hW) (hc.kp hW) (hTab.kp hW) k1);have HDR:=Lib.hid (fun W (hW:Kp w W)=>IH (2*q+1) W _ vc g (ht.kp hW) (hc.kp hW) (hTab.kp hW) k2);have HLL:=Lib.hid (aix t g j (2*q));have HLR:=Lib.hid (aix t g j (2*q+1));have HD:Hid (digF t g (j+1) q=aaH ([2]++[adk (afo (ats t (nd (j+1) q)) g),rowB (digF t g j (2*q)),rowB (digF t g j (2*q+1))].flatten)):=by unfold Hid;simp[digF]
 rw[HD.out];have e4:((nd (j+1) q:Nat):Int)<(t.length:Int):=by omega
 obtain ⟨ap,np,cp,rfl⟩:=aaw hn.2.pub;obtain ⟨au,nu,cu,rfl⟩:=hn.2.un.sl;obtain ⟨ah,nh,ch,rfl⟩:=aaw hn.2.hash;obtain ⟨cb,rfl,_⟩:=hc.call;generalize digF t g j (2*q)=DL at *;generalize digF t g j (2*q+1)=DR at *;clear hT ht hc hn hq hnin hct hodd IH k1 k2 y1 y2 f1 f2 f3 hlv hTab;simp only[nodC] at HCT;generalize afo (ats t (nd (j+1) q)) g=m9 at *;generalize nd j (2*q)=XL at *;generalize nd j (2*q+1)=XR at *;generalize nd (j+1) q=X at *;generalize t.length=TL at *;generalize ats t X=m at *;generalize ((j+1:Nat):Int)=JJ at *;go_enter Tryz.func176,Tryz.ntmps176;go_wp2_with fail;refine HCT.out.mono ?_;rintro _ w1 ⟨⟨r1,rfl,o1⟩,k1⟩;clear HCT c0 c1 c2 c3 c4;go_wp2_with fail;refine (afW r1 m9 w1 o1 HTD.out).mono ?_;rintro _ w2 ⟨⟨r2,rfl,o2⟩,k2⟩;have K2:=Lib.hid (k1.trans k2);have O2:=Lib.hid o2.rd;obtain ⟨a2,n2,b2,rfl⟩:=aaw o2.rd;clear o1 k1 k2 o2;go_wp2_with fail;refine (HLV.out _ K2.out).mono ?_;rintro _ _ ⟨rfl,rfl⟩;go_wp2_with fail;refine (HCL.out _ K2.out).mono ?_;rintro _ _ ⟨rfl,rfl⟩;go_wp2_with fail;refine (HDL.out _ K2.out).mono ?_;rintro _ w3 ⟨⟨r3,rfl,o3⟩,k3⟩;have K3:=Lib.hid (K2.out.trans k3);have O23:=Lib.hid (And.intro (O2.out.kp k3) o3.rd);obtain ⟨a3,n3,b3,rfl⟩:=aaw o3.rd;clear o3 k3 O2 HDL HCL HLV;go_wp2_with fail;refine (HCR.out _ K3.out).mono ?_;rintro _ _ ⟨rfl,rfl⟩;go_wp2_with fail;refine (HDR.out _ K3.out).mono ?_;rintro _ w4 ⟨⟨r4,rfl,o4⟩,k4⟩;have K4:=Lib.hid (K3.out.trans k4);have O4:=Lib.hid (And.intro (O23.out.1.kp k4) (And.intro (O23.out.2.kp k4) o4.rd));obtain ⟨a4,n4,b4,rfl⟩:=aaw o4.rd;clear o4 k4 O23 HDR HCR;go_wp2_with fail;refine (abm _ DL w4 O4.out.2.1).mono ?_;rintro _ w5 ⟨⟨r5,rfl,o5⟩,k5⟩;have K5:=Lib.hid (K4.out.trans k5);have O5:=Lib.hid (And.intro (O4.out.1.kp k5) (And.intro o5.rd (O4.out.2.2.kp k5)));obtain ⟨a5,n5,b5,rfl⟩:=aaw o5.rd;clear o5 k5 O4;go_wp2_with fail;refine (abm _ DR w5 O5.out.2.2).mono ?_;rintro _ w6 ⟨⟨r6,rfl,o6⟩,k6⟩;have HR:=Lib.hid (RL.row3 w6 24 (O5.out.1.kp k6) (O5.out.2.1.kp k6) o6.rd);obtain ⟨a6,n6,b6,rfl⟩:=aaw o6.rd;have K6:=Lib.hid (K5.out.trans (k6.alloc (.cells #[.slice a2 n2 b2,.slice a5 n5 b5,.slice a6 n6 b6] 24)));have hl3:=adZ (x:=DL) (by have:=HLL.out;omega);have hl5:=adZ (x:=DR) (by have:=HLR.out;omega);have HBD:Hid ([adk m9,rowB DL,rowB DR].flatten.length≤1900∧0<[adk m9,rowB DL,rowB DR].flatten.length):=by
  have h1:=HNL.out;have h2:=(aeR HTD.out).2;have h3:=HLL.out;have h4:=HLR.out;unfold Hid;simp only[List.flatten_cons,List.flatten_nil,List.length_append,List.length_nil];omega
 clear o6 k6 O5 hl3 hl5;go_wp2_with fail;refine (aeJ 2 _ _ _ HR.out HBD.out.2 HBD.out.1 (by simp)).mono ?_;rintro _ w7 ⟨⟨r7,rfl,o7⟩,k7⟩;have KE:=Lib.hid (And.intro o7 (K6.out.trans k7));obtain ⟨a7,n7,b7,rfl⟩:=aaw o7.rd;clear o7 k7 HR;go_wp2_with fail;go_ret;exact ⟨⟨_,rfl,KE.out.1.mono K6.out.size⟩,KE.out.2⟩
theorem aes (t:List Nod)(K:Nat)(hT:abo t K):∀ (j q:Nat) (w:World) (vt vc:Value) (g:List Int),j≤K→NL w vt t→Cnt w vc g→Tab w→q<2 ^ (K - j) →
  Calls Tryz.prog 176 #[vt,.int .i64 ((nd j q:Nat):Int),vc] w fun e w'=>(∃ r,e=.returned r∧Ow 5 w' w.heap.size r (digF t g j q))∧Kp w w'
 | 0,q,w,vt,vc,g,_,ht,hc,hTab,hq=>ahc vt vc t g K q w hT ht hc hTab (by simpa using hq)
 | j+1,q,w,vt,vc,g,hj,ht,hc,hTab,hq=>ahd t K j hT hj (fun q w vt vc g ht hc hTab hq=>aes t K hT j q w vt vc g (by omega) ht hc hTab hq) q w vt vc g ht hc hTab hq
theorem apW (vt:Value)(t:List Nod)(K j q:Nat)(side:Int)(w:World)(hT:abo t K)(ht:NL w vt t)(hTab:Tab w)(hj:j+1≤K)(hq:q<2 ^ (K - (j+1)))(hs:side=0∨side=1):
  Calls Tryz.prog 145 #[vt,.int .i64 ((nd (j+1) q:Nat):Int),.int .i64 side] w fun e w'=>(∃ r,e=.returned r∧Ow 5 w' w.heap.size r (aaH ([3]++rowB (ats t (nd (j+1) q)).pub++rowB (ats t (nd (j+1) q)).hash++rowB (digF t (ats t (nd (j+1) q)).un j (othQ side q)))))∧Kp w w':=by
 obtain ⟨x1,x2⟩:=hT.lt hj hq;have HNL:=Lib.hid ht;obtain ⟨b,off,c,p,ar1,h,rfl,hn⟩:=ht.node x1;obtain ⟨c0,c1,c2,c3,c4⟩:=And.intro hn.kind (And.intro hn.name (And.intro hn.pubC (And.intro hn.unC hn.hashC)));have htd:=hT.node (nd (j+1) q);obtain ⟨k1,k2⟩:=arP hj hq;obtain ⟨_,y1,y2⟩:=aa1 hT.le hj hq;obtain ⟨f1,f2,f3⟩:=adG (j:=j) (q:=q) y1 y2;have hoq:othQ side q<2 ^ (K - j):=by unfold othQ;split <;> assumption
 have HCH:Hid (∀ W,Kp w W→Calls Tryz.prog 177 #[.int .i64 ((nd (j+1) q:Nat):Int),.int .i64 (1 - side)] W fun e w'=>e=.returned (.int .i64 ((nd j (othQ side q):Nat):Int))∧W=w'):=fun W hW=>by
  have:=adA ((nd (j+1) q:Nat):Int) (1 - side) W (hTab.kp hW);rcases hs with rfl | rfl
  ·rwa [if_pos (by decide),f3] at this
  ·rwa [if_neg (by decide),f2] at this
 have HDG:=Lib.hid (fun W vc (hW:Kp w W) (hc:Cnt W vc (ats t (nd (j+1) q)).un)=>aes t K hT j (othQ side q) W _ vc _ (by omega) (ht.kp hW) hc (hTab.kp hW) hoq);have HAB:=Lib.hid (fun W v (hv:RI W v (ats t (nd (j+1) q)).un)=>amU v _ W hv (by have:=htd.unl;omega) (fun i hi=>by have:=htd.un i hi;omega));have HDL:=Lib.hid (aix t (ats t (nd (j+1) q)).un j (othQ side q));have lp:=adZ (x:=(ats t (nd (j+1) q)).pub) (by have:=htd.pub;omega);have lh:=adZ (x:=(ats t (nd (j+1) q)).hash) (by have:=htd.hash;omega);have lp2:=htd.pub;have lh2:=htd.hash;have i1:IntKind.i64.wrap (1 - side)=1 - side:=IntWalk.i64_in _ (by omega);have e4:((nd (j+1) q:Nat):Int)<(t.length:Int):=by omega
 have HNI:=Lib.hid hn.2;obtain ⟨ap,np,cp,rfl⟩:=aaw hn.2.pub;obtain ⟨au,nu,cu,rfl⟩:=hn.2.un.sl;obtain ⟨ah,nh,ch,rfl⟩:=aaw hn.2.hash;have HRE:Hid ((aaH ([3]++rowB (ats t (nd (j+1) q)).pub++rowB (ats t (nd (j+1) q)).hash++rowB (digF t (ats t (nd (j+1) q)).un j (othQ side q))))=aaH ([3]++[rowB (ats t (nd (j+1) q)).pub,rowB (ats t (nd (j+1) q)).hash,rowB (digF t (ats t (nd (j+1) q)).un j (othQ side q))].flatten)):=by unfold Hid;simp
 rw[HRE.out];generalize digF t (ats t (nd (j+1) q)).un j (othQ side q)=DG at *;have lr:=adZ (x:=DG) (by have:=HDL.out;omega);have HLN:Hid ((rowB (ats t (nd (j+1) q)).pub).length≤42∧(rowB (ats t (nd (j+1) q)).hash).length≤42∧(rowB DG).length≤40):=⟨by omega,by omega,by have:=HDL.out;omega⟩;have hpos:0<(rowB DG).length:=by
  unfold rowB;rw[if_pos (by unfold rowE lenE;rw[HDL.out];decide)];rw[List.length_append,HDL.out];omega
 have HPO:=Lib.hid hpos;clear hT ht hTab hn hq k1 k2 y1 y2 f1 f2 f3 hj hoq htd lp lh lp2 lh2 lr hpos HDL;generalize nd j (othQ side q)=XO at *;generalize nd (j+1) q=X at *;generalize t.length=TL at *;generalize ats t X=m at *;clear hs;obtain ⟨WA,hWA⟩:∃ WA,w.alloc (.cells #[.int .i64 m.kind,.int .i64 m.name,.slice ap np cp,.slice au nu cu,.slice ah nh ch] 81)=WA:=⟨_,rfl⟩;have HBX:Hid (Bx WA w.heap.size 81 #[.int .i64 m.kind,.int .i64 m.name,.slice ap np cp,.slice au nu cu,.slice ah nh ch]):=by rw[← hWA];exact Bx.new _ _ _
 have HZA:Hid (Kp w WA):=by rw[← hWA];exact (Kp.refl _).alloc _
 have HWA:=Lib.hid hWA;clear hWA;go_enter Tryz.func145,Tryz.ntmps145;go_wp2_with fail;rw[HWA.out];have HS:Hid (∀ W,Kp WA W→W.cell? ⟨w.heap.size,2,none⟩=some (.slice ap np cp)∧W.cell? ⟨w.heap.size,3,none⟩=some (.slice au nu cu)∧W.cell? ⟨w.heap.size,4,none⟩=some (.slice ah nh ch)):=fun W hW=>⟨(HBX.out.kp hW).cell 2,(HBX.out.kp hW).cell 3,(HBX.out.kp hW).cell 4⟩
 have KD:Hid (Kp WA WA.drew):=Kp.drew (Kp.refl WA);have arW:=Lib.hid (HS.out _ KD.out);clear HBX HWA c0 c1 c2 c3 c4;go_region_held3 (fun W=>W.cell? ⟨w.heap.size,2,none⟩=some (.slice ap np cp)∧W.cell? ⟨w.heap.size,3,none⟩=some (.slice au nu cu)∧W.cell? ⟨w.heap.size,4,none⟩=some (.slice ah nh ch))
  (first | with_reducible exact arW.out | with_reducible exact S3.out | with_reducible exact S4.out)
  (first
   | (go_at_call 176;refine (HDG.out _ _ (HZA.out.trans K3.out) o3).mono ?_;rintro _ w4 ⟨⟨r4,rfl,o4⟩,k4⟩;obtain ⟨a4,n4,b4,rfl⟩:=aaw o4.rd;have K4:=Lib.hid (K3.out.trans k4);have S4:=Lib.hid (HS.out _ K4.out))
   | (go_at_call 178;refine (HAB.out _ _ (HNI.out.un.kp (HZA.out.trans KD.out))).mono ?_;rintro _ w3 ⟨⟨r3,rfl,o3⟩,k3⟩;obtain ⟨cb,rfl,_⟩:=o3.call;have K3:=Lib.hid (KD.out.trans k3);have S3:=Lib.hid (HS.out _ K3.out))
   | (go_at_call 177;refine (HCH.out _ (HZA.out.trans KD.out)).mono ?_;rintro _ _ ⟨rfl,rfl⟩))
 have HP:Hid (∀ W,Kp WA W→Calls Tryz.prog 180 #[.slice ap np cp] W fun e w'=>(∃ r,e=.returned r∧Ow 5 w' W.heap.size r (rowB m.pub))∧Kp W w'):=fun W hW=>abm _ m.pub W (HNI.out.pub.kp (HZA.out.trans hW))
 have HH:Hid (∀ W,Kp WA W→Calls Tryz.prog 180 #[.slice ah nh ch] W fun e w'=>(∃ r,e=.returned r∧Ow 5 w' W.heap.size r (rowB m.hash))∧Kp W w'):=fun W hW=>abm _ m.hash W (HNI.out.hash.kp (HZA.out.trans hW))
 have O4:=Lib.hid o4.rd;have D4:Hid (Kp w4 w4.drew):=Kp.drew (Kp.refl w4);have S5:=Lib.hid (HS.out _ (K4.out.trans D4.out));clear arW S3 S4 HDG HAB HCH o3 o4 k3 k4 K3;go_wp2_with fail;go_region_held3 (fun W=>W.cell? ⟨w.heap.size,2,none⟩=some (.slice ap np cp)∧W.cell? ⟨w.heap.size,3,none⟩=some (.slice au nu cu)∧W.cell? ⟨w.heap.size,4,none⟩=some (.slice ah nh ch))
  (first | with_reducible exact S5.out | with_reducible exact S6.out | with_reducible exact S7.out | with_reducible exact S8.out | with_reducible exact S9.out | with_reducible exact HS.out _ (K8.out.alloc _))
  (first
   | (go_at_call 179;refine (aeJ 3 _ [rowB m.pub,rowB m.hash,rowB DG] _ (RL.row3 w8 24 (o6.rd.kp D8.out.1) (o7.rd.kp D8.out.2) o8.rd) (by have:=HPO.out;simp only[List.flatten_cons,List.flatten_nil,List.length_append,List.length_nil];omega) (by have:=HLN.out;simp only[List.flatten_cons,List.flatten_nil,List.length_append,List.length_nil];omega) (by simp)).mono ?_;rintro _ w9 ⟨⟨r9,rfl,o9⟩,k9⟩;obtain ⟨a9,n9,b9,rfl⟩:=aaw o9.rd;have K9:=Lib.hid ((K8.out.alloc _).trans k9);have S9:=Lib.hid (HS.out _ K9.out))
   | (go_at_call 180;refine (abm _ DG _ (O4.out.kp D7.out)).mono ?_;rintro _ w8 ⟨⟨r8,rfl,o8⟩,k8⟩;obtain ⟨a8,n8,b8,rfl⟩:=aaw o8.rd;have K8:=Lib.hid (K7.out.trans k8);have S8:=Lib.hid (HS.out _ K8.out);have D8:=Lib.hid (And.intro (D67.out.trans k8) k8))
   | (go_at_call 180;refine (HH.out _ K6.out).mono ?_;rintro _ w7 ⟨⟨r7,rfl,o7⟩,k7⟩;obtain ⟨a7,n7,b7,rfl⟩:=aaw o7.rd;have K7:=Lib.hid (K6.out.trans k7);have S7:=Lib.hid (HS.out _ K7.out);have D7:=Lib.hid (D6.out.trans k7);have D67:=Lib.hid k7)
   | (go_at_call 180;refine (HP.out _ (K4.out.trans D4.out)).mono ?_;rintro _ w6 ⟨⟨r6,rfl,o6⟩,k6⟩;obtain ⟨a6,n6,b6,rfl⟩:=aaw o6.rd;have K6:=Lib.hid ((K4.out.trans D4.out).trans k6);have S6:=Lib.hid (HS.out _ K6.out);have D6:=Lib.hid (D4.out.trans k6)))
 have KE:=Lib.hid (And.intro o9 (And.intro K8.out K9.out));clear S5 S6 S7 S8 S9 HP HH o6 o7 o8 o9 k9;go_wp2_with fail;go_ret;exact ⟨⟨_,rfl,KE.out.1.mono (Nat.le_trans (HZA.out.trans KE.out.2.1).size (by simp))⟩,HZA.out.trans KE.out.2.2⟩
theorem aoH (vt:Value)(t:List Nod)(K X:Nat)(side:Int)(w:World)(hT:abo t K)(ht:NL w vt t)(hTab:Tab w)(hX:X<t.length)(hk:(ats t X).kind=2)(hs:side=0∨side=1):
  Calls Tryz.prog 145 #[vt,.int .i64 (X:Int),.int .i64 side] w fun e w'=>(∃ r,e=.returned r∧Ow 5 w' w.heap.size r (aboV t (X:Int) side))∧Kp w w':=by
 have hE:aboE t (X:Int) side=0:=by
  unfold aboE
  rw[if_pos ⟨by omega,by omega,by omega,by omega⟩,Int.toNat_natCast,if_pos hk]
 have hp:=hT.par X hk
 obtain ⟨j,q,rfl,hj,hq⟩:=hT.at hX
 cases j with
 | zero=>rw[abt] at hp;omega
 | succ j=>
  have e:aboV t ((nd (j+1) q:Nat):Int) side=aaH ([3]++rowB (ats t (nd (j+1) q)).pub++rowB (ats t (nd (j+1) q)).hash++rowB (digF t (ats t (nd (j+1) q)).un j (othQ side q))):=by
   have hsm:=aa1 hT.le hj hq
   unfold aboV
   rw[if_pos hE,Int.toNat_natCast]
   unfold aboT
   rw[adR (j+1) q (by omega),ahQ (j+1) q (by omega),Nat.add_sub_cancel]
  rw[e]
  exact apW vt t K j q side w hT ht hTab hj hq hs
end Go.Proofs.YthmhklmkgkfcpaaGreatDoor

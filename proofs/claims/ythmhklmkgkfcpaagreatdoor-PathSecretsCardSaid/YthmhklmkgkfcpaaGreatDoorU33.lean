import Derived.Test.YthmhklmkgkfcpaaGreatDoorU8
import Derived.Test.YthmhklmkgkfcpaaGreatDoorU19
import Derived.Test.YthmhklmkgkfcpaaGreatDoorU20
import Derived.Test.YthmhklmkgkfcpaaGreatDoorU31
import Derived.Test.YthmhklmkgkfcpaaGreatDoorU32
import Derived.Deep.RegionHeld3
set_option linter.unusedVariables false
set_option linter.unusedSimpArgs false
set_option maxHeartbeats 8000000
set_option maxRecDepth 100000
namespace Go.Proofs.YthmhklmkgkfcpaaGreatDoor
open Go.RowKit
theorem afM (u:Value)(t:List Nod)(w:World)(hu:NL w u t)(hl:t.length≤100000):
  Calls Tryz.prog 143 #[u] w fun e w'=>e=.returned (.int .i64 ((ahs t:Nat):Int))∧w=w':=by
 obtain ⟨a,c,rfl,h1,h2⟩:=hu.shape;obtain ⟨i1,i2⟩:=akA (t:=t) hl;have i3:IntKind.i64.wrap ((lvs t:Nat):Int)=((lvs t:Nat):Int):=IntWalk.i64_in _ (by have:=aev (t:=t) hl;omega);have HW:=Lib.hid (aef ((lvs t:Nat):Int) w);by_cases hb:isTB ((lvs t:Nat):Int)=true
 ·rw[show widV ((lvs t:Nat):Int)=2*((lvs t:Nat):Int) - 1 from if_pos hb,show widE ((lvs t:Nat):Int)=0 from if_pos hb] at HW
  by_cases he:2*lvs t=t.length+1
  ·rw[show ahs t=lvs t from if_pos ⟨hb,he⟩]
   have hne:¬(2*((lvs t:Nat):Int) - 1≠(t.length:Int)):=by omega
   have hn2:(2*((lvs t:Nat):Int) - 1 != (t.length:Int))=false:=bne_eq_false_iff_eq.2 (by omega);have hn3:2*((lvs t:Nat):Int) - 1=(t.length:Int):=by omega
   rw[hn3] at HW;clear hb he hu hne hn2 hn3;generalize ((lvs t:Nat):Int)=L at *;go_enter Tryz.func143,Tryz.ntmps143;go_wp2_with fail;refine HW.out.mono ?_;rintro _ _ ⟨rfl,rfl⟩;go_wp2_with fail;go_ret;exact ⟨rfl,rfl⟩
  ·rw[show ahs t=0 from if_neg fun h=>he h.2]
   have hn2:(2*((lvs t:Nat):Int) - 1 != (t.length:Int))=true:=bne_iff_ne.2 (by omega);have hn3:¬2*((lvs t:Nat):Int) - 1=(t.length:Int):=by omega
   clear hb he hu;generalize 2*((lvs t:Nat):Int) - 1=M at *;generalize ((lvs t:Nat):Int)=L at *;go_enter Tryz.func143,Tryz.ntmps143;go_wp2_with fail;refine HW.out.mono ?_;rintro _ _ ⟨rfl,rfl⟩;go_wp2_with fail;go_ret;exact ⟨rfl,rfl⟩
 ·rw[show ahs t=0 from if_neg fun h=>hb h.1]
  rw[show widV ((lvs t:Nat):Int)=0 from if_neg hb,show widE ((lvs t:Nat):Int)=1 from if_neg hb] at HW;clear hb hu;generalize ((lvs t:Nat):Int)=L at *;go_enter Tryz.func143,Tryz.ntmps143;go_wp2_with fail;refine HW.out.mono ?_;rintro _ _ ⟨rfl,rfl⟩;go_wp2_with fail;go_ret;exact ⟨rfl,rfl⟩
theorem ad4 (u:Value)(t:List Nod)(K:Nat)(i:Int)(w:World)(hu:NL w u t)(hr:aab t K):
  Calls Tryz.prog 142 #[u,.int .i64 i] w fun e w'=>e=.returned (.bool (decide (aar t i)))∧w=w':=by
 obtain ⟨z1,z2,z3⟩:=hr.small;have HS:=Lib.hid (afM u t w hu (by omega));rw[(ad3 hr.le hr.len).1] at HS;have hlv:=hr.lv;have hp2:=acc hr.le;obtain ⟨a,c,rfl,p1,s1⟩:=hu.shape;by_cases h0:0≤i
 ·obtain ⟨k,rfl⟩:=Int.eq_ofNat_of_zero_le h0
  by_cases h1:k<2 ^ K
  ·have hk2:2*k<t.length:=by omega
   obtain ⟨b,off,rfl,_,hc⟩:=hu.at (2*k) hk2;obtain ⟨p,q,h,hn⟩:=hc (2*k) hk2;have d0:=hn.kind;have hb:((ats t (2*k)).kind != 0)=decide (aar t (k:Int)):=by
    by_cases hk:(ats t (2*k)).kind=0
    ·rw[hk,decide_eq_false (fun h=>by have:=(hr.there_iff k).1 h;rw[hk] at this;cases this)];rfl
    ·have h1:(ats t (2*k)).kind=1:=by
      rcases hr.even k with e | e
      ·rw[e] at hk;exact absurd rfl hk
      ·exact e.1
     rw[decide_eq_true ((hr.there_iff k).2 h1),h1];rfl
   have i1:IntKind.i64.wrap (2*(k:Int))=((2*k:Nat):Int):=by rw[IntWalk.i64_in _ (by omega)];omega
   have i2:((2*k:Nat):Int)<(t.length:Int):=by omega
   have i3:(k:Int)<((2 ^ K:Nat):Int):=by omega
   generalize decide (aar t (k:Int))=BO at *;generalize t.length=N at *;generalize ((2 ^ K:Nat):Int)=NN at *;generalize (ats t (2*k)).kind=KD at *;generalize 2*k=K2 at *;clear hu hr hc hn h1 h0 z1 z2 z3 hlv hp2 hk2;go_enter Tryz.func142,Tryz.ntmps142;go_wp2_with fail;refine HS.out.mono ?_;rintro _ _ ⟨rfl,rfl⟩;go_wp2_with fail;go_ret;exact ⟨by rw[← hb] <;> rfl,rfl⟩
  ·rw[decide_eq_false (show ¬aar t (k:Int) from fun h=>by have:=h.2.1;omega)]
   have i3:¬(k:Int)<((2 ^ K:Nat):Int):=by omega
   generalize ((2 ^ K:Nat):Int)=NN at *;clear hu hr h1 z1 z2 z3 hlv hp2;go_enter Tryz.func142,Tryz.ntmps142;go_wp2_with fail;refine HS.out.mono ?_;rintro _ _ ⟨rfl,rfl⟩;go_wp2_with fail;go_ret;exact ⟨rfl,rfl⟩
 ·rw[decide_eq_false (show ¬aar t i from fun h=>h0 h.1)]
  clear hu hr z1 z2 z3 hlv hp2;generalize ((2 ^ K:Nat):Int)=NN at *;go_enter Tryz.func142,Tryz.ntmps142;go_wp2_with fail;go_ret;exact ⟨rfl,rfl⟩
theorem aht (x leaf:Int)(w:World):
  Calls Tryz.prog 146 #[.int .i64 x,.int .i64 leaf] w fun e w'=>e=.returned (.int .i64 (if x<leaf then 1 else if leaf<x then 0 else 1))∧w=w':=by
 by_cases h:leaf<x
 ·have h2:¬x<leaf:=by omega
  rw[if_neg h2,if_pos h];clear h2;go_enter Tryz.func146,Tryz.ntmps146;go_wp2_with fail;go_ret;exact ⟨rfl,rfl⟩
 ·have e:(if x<leaf then (1:Int) else if leaf<x then 0 else 1)=1:=by split <;> simp[h]
  rw[e];clear e;go_enter Tryz.func146,Tryz.ntmps146;go_wp2_with fail;go_ret;exact ⟨rfl,rfl⟩
theorem ady (x side:Int)(w:World)(hT:Tab w):
  Calls Tryz.prog 177 #[.int .i64 x,.int .i64 side] w fun e w'=>e=.returned (.int .i64 (if side=1 then rigV x else lefV x))∧w=w':=by
 by_cases h:side=1
 ·subst h
  rw[if_pos rfl];have HR:=Lib.hid (aeg x w hT);generalize rigV x=V at *;generalize chE x=E at *;clear hT;go_enter Tryz.func177,Tryz.ntmps177;go_wp2_with fail;refine HR.out.mono ?_;rintro _ _ ⟨rfl,rfl⟩;go_wp2_with fail;go_ret;exact ⟨rfl,rfl⟩
 ·rw[if_neg h]
  have HL:=Lib.hid (adw x w hT);have hb:(side==1)=false:=beq_eq_false_iff_ne.2 h;generalize lefV x=V at *;generalize chE x=E at *;clear hT;go_enter Tryz.func177,Tryz.ntmps177;go_wp2_with fail;refine HL.out.mono ?_;rintro _ _ ⟨rfl,rfl⟩;go_wp2_with fail;go_ret;exact ⟨rfl,rfl⟩
theorem amL {n:Nod}(g:List Int)(h:n.kind≠2):adi (afg n g)=adi n:=by
 unfold adi afg;simp only[h,if_false]
theorem ag7 (vt vc:Value)(t:List Nod)(g:List Int)(K q:Nat)(w:World)(hT:aaZ t K)(ht:NL w vt t)(hc:Cnt w vc g)(hTab:Tab w)(hq:q<2 ^ K):
  Calls Tryz.prog 176 #[vt,.int .i64 ((nd 0 q:Nat):Int),vc] w fun e w'=>(∃ r,e=.returned r∧Ow 5 w' w.heap.size r (digF t g 0 q))∧Kp w w':=by
 obtain ⟨x1,x2⟩:=hT.lt (j:=0) (Nat.zero_le _) (by simpa using hq);have hk:=acc hT.le;obtain ⟨b,off,c,p,arO,h,rfl,hn⟩:=ht.node x1;obtain ⟨c0,c1,c2,c3,c4⟩:=And.intro hn.kind (And.intro hn.name (And.intro hn.pubC (And.intro hn.unC hn.hashC)));have hx0:nd 0 q=2*q:=abK q;have hne:(ats t (nd 0 q)).kind≠2:=fun e=>by have:=hT.par _ e;omega
 have hB:adi (if ((nd 0 q:Nat):Int)∈g.map (2*·) then aan else afg (ats t (nd 0 q)) g)=adi (if (q:Int)∈g then aan else ats t (nd 0 q)):=by
  have e:((nd 0 q:Nat):Int)=2*(q:Int):=by omega
  rw[e];by_cases hm:(q:Int)∈g
  ·rw[if_pos ((ag5 g _).2 hm),if_pos hm]
  ·rw[if_neg (fun h=>hm ((ag5 g _).1 h)),if_neg hm,amL g hne]
 have hTD:adj (if ((nd 0 q:Nat):Int)∈g.map (2*·) then aan else afg (ats t (nd 0 q)) g):=by
  split
  ·exact adj.blank
  ·exact (hT.node _).less g
 have HCT:=Lib.hid (ag6 (.agg (nodC (ats t (nd 0 q)) p arO h).toArray) vc (ats t (nd 0 q)) ((nd 0 q:Nat):Int) g w ⟨p,arO,h,rfl,hn.2⟩ (hT.node _) hc (by omega));have HD:Hid (digF t g 0 q=aaI ([1]++[be 2 q,adi (if ((nd 0 q:Nat):Int)∈g.map (2*·) then aan else afg (ats t (nd 0 q)) g)].flatten)):=by unfold Hid;rw[hB];simp[digF]
 rw[HD.out];have hnl:=(aeG hTD).1;generalize (if ((nd 0 q:Nat):Int)∈g.map (2*·) then aan else afg (ats t (nd 0 q)) g)=m9 at *;have HTD:=Lib.hid hTD;have HNL:=Lib.hid hnl;obtain ⟨_,y1,y2⟩:=aa4 hT.le (Nat.zero_le K) (show q<2 ^ (K - 0) by simpa using hq);have hlv:=abF y1 y2;have HLV:=Lib.hid (fun W (hW:Kp w W)=>abi ((nd 0 q:Nat):Int) W (hTab.kp hW));rw[hlv] at HLV;have HNUM:Hid (∀ W,Calls Tryz.prog 209 #[.int .i64 (q:Int),.int .i64 2] W fun e w'=>(∃ r,e=.returned r∧Ow 5 w' W.heap.size r (be 2 q))∧Kp W w'):=fun W=>by
  have:=aca (q:Int) 2 W (by omega);rwa [aqT (by omega),Int.toNat_natCast] at this
 have e2:((nd 0 q:Nat):Int).tdiv 2=(q:Int):=by rw[hx0,Int.tdiv_eq_ediv_of_nonneg (by omega)];omega
 have e3:IntKind.i64.wrap (q:Int)=(q:Int):=IntWalk.i64_in _ (by omega);have e4:((nd 0 q:Nat):Int)<(t.length:Int):=by omega
 have HIN:=Lib.hid hn.2;obtain ⟨ap,np,cp,rfl⟩:=aaz hn.2.pub;obtain ⟨au,nu,cu,rfl⟩:=hn.2.un.sl;obtain ⟨ah,nh,ch,rfl⟩:=aaz hn.2.hash;obtain ⟨cb,rfl,_⟩:=hc.call;clear hT ht hc hn hx0 hq hB hTD hne hnl y1 y2 hlv hTab HIN;simp only[nodC] at HCT;generalize nd 0 q=X at *;generalize t.length=TL at *;generalize ats t X=m at *;go_enter Tryz.func176,Tryz.ntmps176;go_wp2_with fail;refine HCT.out.mono ?_;rintro _ w1 ⟨⟨r1,rfl,o1⟩,k1⟩;clear HCT c0 c1 c2 c3 c4;go_wp2_with fail;refine (afR r1 m9 w1 o1 HTD.out).mono ?_;rintro _ w2 ⟨⟨r2,rfl,o2⟩,k2⟩;have K2:=Lib.hid (k1.trans k2);have O2:=Lib.hid o2.rd;obtain ⟨a2,n2,b2,rfl⟩:=aaz o2.rd;clear o1 k1 k2 o2;go_wp2_with fail;refine (HLV.out _ K2.out).mono ?_;rintro _ _ ⟨rfl,rfl⟩;go_wp2_with fail;refine (HNUM.out _).mono ?_;rintro _ w3 ⟨⟨r3,rfl,o3⟩,k3⟩;have HR:=Lib.hid (RL.row2 w3 24 o3.rd (O2.out.kp k3));have K3:=Lib.hid (K2.out.trans (k3.alloc (.cells #[r3,.slice a2 n2 b2] 24)));obtain ⟨a3,n3,b3,rfl⟩:=aaz o3.rd;clear o3 k3 O2 HNUM HLV;go_wp2_with fail;refine (aez 1 _ _ _ HR.out (by rw[List.flatten_cons,List.length_append,aak];omega) (by have:=HNL.out;simp only[List.flatten_cons,List.flatten_nil,List.length_append,aak,List.length_nil];omega) (by simp)).mono ?_;rintro _ w4 ⟨⟨r4,rfl,o4⟩,k4⟩;have KE:=Lib.hid (And.intro o4 (K3.out.trans k4));obtain ⟨a4,n4,b4,rfl⟩:=aaz o4.rd;clear o4 k4 HR;go_wp2_with fail;go_ret;exact ⟨⟨_,rfl,KE.out.1.mono K3.out.size⟩,KE.out.2⟩
theorem ag8 (t:List Nod)(K j:Nat)(hT:aaZ t K)(hj:j+1≤K)
  (IH:∀ (q:Nat) (w:World) (vt vc:Value) (g:List Int),NL w vt t→Cnt w vc g→Tab w→q<2 ^ (K - j)→Calls Tryz.prog 176 #[vt,.int .i64 ((nd j q:Nat):Int),vc] w fun e w'=>(∃ r,e=.returned r∧Ow 5 w' w.heap.size r (digF t g j q))∧Kp w w')
  (q:Nat) (w:World) (vt vc:Value) (g:List Int) (ht:NL w vt t) (hc:Cnt w vc g) (hTab:Tab w) (hq:q<2 ^ (K - (j+1))):
  Calls Tryz.prog 176 #[vt,.int .i64 ((nd (j+1) q:Nat):Int),vc] w fun e w'=>(∃ r,e=.returned r∧Ow 5 w' w.heap.size r (digF t g (j+1) q))∧Kp w w':=by
 obtain ⟨x1,x2⟩:=hT.lt hj hq;obtain ⟨b,off,c,p,arO,h,rfl,hn⟩:=ht.node x1;obtain ⟨c0,c1,c2,c3,c4⟩:=And.intro hn.kind (And.intro hn.name (And.intro hn.pubC (And.intro hn.unC hn.hashC)));have hodd:=afx j q;have hnin:¬((nd (j+1) q:Nat):Int)∈g.map (2*·):=fun h=>by
  obtain ⟨i,_,e⟩:=List.mem_map.1 h;omega
 have hct:=ag6 (.agg (nodC (ats t (nd (j+1) q)) p arO h).toArray) vc (ats t (nd (j+1) q)) ((nd (j+1) q:Nat):Int) g w ⟨p,arO,h,rfl,hn.2⟩ (hT.node _) hc (by omega);rw[if_neg hnin] at hct;have HCT:=Lib.hid hct;have HTD:=Lib.hid ((hT.node (nd (j+1) q)).less g);have HNL:=Lib.hid (aeG HTD.out).1;obtain ⟨k1,k2⟩:=arz hj hq;obtain ⟨_,y1,y2⟩:=aa4 hT.le hj hq;obtain ⟨f1,f2,f3⟩:=adC (j:=j) (q:=q) y1 y2;have hlv:=abF y1 y2;have HLV:=Lib.hid (fun W (hW:Kp w W)=>abi ((nd (j+1) q:Nat):Int) W (hTab.kp hW));rw[hlv] at HLV;have hl0:(((j+1:Nat):Int)==0)=false:=beq_eq_false_iff_ne.2 (by omega);have hl1:¬(((j+1:Nat):Int)=0):=by omega
 have HCL:Hid (∀ W,Kp w W→Calls Tryz.prog 177 #[.int .i64 ((nd (j+1) q:Nat):Int),.int .i64 0] W fun e w'=>e=.returned (.int .i64 ((nd j (2*q):Nat):Int))∧W=w'):=fun W hW=>by
  have:=ady ((nd (j+1) q:Nat):Int) 0 W (hTab.kp hW);rwa [if_neg (by decide),f2] at this
 have HCR:Hid (∀ W,Kp w W→Calls Tryz.prog 177 #[.int .i64 ((nd (j+1) q:Nat):Int),.int .i64 1] W fun e w'=>e=.returned (.int .i64 ((nd j (2*q+1):Nat):Int))∧W=w'):=fun W hW=>by
  have:=ady ((nd (j+1) q:Nat):Int) 1 W (hTab.kp hW);rwa [if_pos rfl,f3] at this
 have HDL:=Lib.hid (fun W (hW:Kp w W)=>IH (2*q) W _ vc g (ht.kp hW) (hc.kp hW) (hTab.kp hW) k1);have HDR:=Lib.hid (fun W (hW:Kp w W)=>IH (2*q+1) W _ vc g (ht.kp hW) (hc.kp hW) (hTab.kp hW) k2);have HLL:=Lib.hid (aim t g j (2*q));have HLR:=Lib.hid (aim t g j (2*q+1));have HD:Hid (digF t g (j+1) q=aaI ([2]++[adi (afg (ats t (nd (j+1) q)) g),rowB (digF t g j (2*q)),rowB (digF t g j (2*q+1))].flatten)):=by unfold Hid;simp[digF]
 rw[HD.out];have e4:((nd (j+1) q:Nat):Int)<(t.length:Int):=by omega
 obtain ⟨ap,np,cp,rfl⟩:=aaz hn.2.pub;obtain ⟨au,nu,cu,rfl⟩:=hn.2.un.sl;obtain ⟨ah,nh,ch,rfl⟩:=aaz hn.2.hash;obtain ⟨cb,rfl,_⟩:=hc.call;generalize digF t g j (2*q)=DL at *;generalize digF t g j (2*q+1)=DR at *;clear hT ht hc hn hq hnin hct hodd IH k1 k2 y1 y2 f1 f2 f3 hlv hTab;simp only[nodC] at HCT;generalize afg (ats t (nd (j+1) q)) g=m9 at *;generalize nd j (2*q)=XL at *;generalize nd j (2*q+1)=XR at *;generalize nd (j+1) q=X at *;generalize t.length=TL at *;generalize ats t X=m at *;generalize ((j+1:Nat):Int)=JJ at *;go_enter Tryz.func176,Tryz.ntmps176;go_wp2_with fail;refine HCT.out.mono ?_;rintro _ w1 ⟨⟨r1,rfl,o1⟩,k1⟩;clear HCT c0 c1 c2 c3 c4;go_wp2_with fail;refine (afR r1 m9 w1 o1 HTD.out).mono ?_;rintro _ w2 ⟨⟨r2,rfl,o2⟩,k2⟩;have K2:=Lib.hid (k1.trans k2);have O2:=Lib.hid o2.rd;obtain ⟨a2,n2,b2,rfl⟩:=aaz o2.rd;clear o1 k1 k2 o2;go_wp2_with fail;refine (HLV.out _ K2.out).mono ?_;rintro _ _ ⟨rfl,rfl⟩;go_wp2_with fail;refine (HCL.out _ K2.out).mono ?_;rintro _ _ ⟨rfl,rfl⟩;go_wp2_with fail;refine (HDL.out _ K2.out).mono ?_;rintro _ w3 ⟨⟨r3,rfl,o3⟩,k3⟩;have K3:=Lib.hid (K2.out.trans k3);have O23:=Lib.hid (And.intro (O2.out.kp k3) o3.rd);obtain ⟨a3,n3,b3,rfl⟩:=aaz o3.rd;clear o3 k3 O2 HDL HCL HLV;go_wp2_with fail;refine (HCR.out _ K3.out).mono ?_;rintro _ _ ⟨rfl,rfl⟩;go_wp2_with fail;refine (HDR.out _ K3.out).mono ?_;rintro _ w4 ⟨⟨r4,rfl,o4⟩,k4⟩;have K4:=Lib.hid (K3.out.trans k4);have O4:=Lib.hid (And.intro (O23.out.1.kp k4) (And.intro (O23.out.2.kp k4) o4.rd));obtain ⟨a4,n4,b4,rfl⟩:=aaz o4.rd;clear o4 k4 O23 HDR HCR;go_wp2_with fail;refine (abq _ DL w4 O4.out.2.1).mono ?_;rintro _ w5 ⟨⟨r5,rfl,o5⟩,k5⟩;have K5:=Lib.hid (K4.out.trans k5);have O5:=Lib.hid (And.intro (O4.out.1.kp k5) (And.intro o5.rd (O4.out.2.2.kp k5)));obtain ⟨a5,n5,b5,rfl⟩:=aaz o5.rd;clear o5 k5 O4;go_wp2_with fail;refine (abq _ DR w5 O5.out.2.2).mono ?_;rintro _ w6 ⟨⟨r6,rfl,o6⟩,k6⟩;have HR:=Lib.hid (RL.row3 w6 24 (O5.out.1.kp k6) (O5.out.2.1.kp k6) o6.rd);obtain ⟨a6,n6,b6,rfl⟩:=aaz o6.rd;have K6:=Lib.hid (K5.out.trans (k6.alloc (.cells #[.slice a2 n2 b2,.slice a5 n5 b5,.slice a6 n6 b6] 24)));have hl3:=adT (x:=DL) (by have:=HLL.out;omega);have hl5:=adT (x:=DR) (by have:=HLR.out;omega);have HBD:Hid ([adi m9,rowB DL,rowB DR].flatten.length≤1900∧0<[adi m9,rowB DL,rowB DR].flatten.length):=by
  have h1:=HNL.out;have h2:=(aeG HTD.out).2;have h3:=HLL.out;have h4:=HLR.out;unfold Hid;simp only[List.flatten_cons,List.flatten_nil,List.length_append,List.length_nil];omega
 clear o6 k6 O5 hl3 hl5;go_wp2_with fail;refine (aez 2 _ _ _ HR.out HBD.out.2 HBD.out.1 (by simp)).mono ?_;rintro _ w7 ⟨⟨r7,rfl,o7⟩,k7⟩;have KE:=Lib.hid (And.intro o7 (K6.out.trans k7));obtain ⟨a7,n7,b7,rfl⟩:=aaz o7.rd;clear o7 k7 HR;go_wp2_with fail;go_ret;exact ⟨⟨_,rfl,KE.out.1.mono K6.out.size⟩,KE.out.2⟩
theorem aek (t:List Nod)(K:Nat)(hT:aaZ t K):∀ (j q:Nat) (w:World) (vt vc:Value) (g:List Int),j≤K→NL w vt t→Cnt w vc g→Tab w→q<2 ^ (K - j) →
  Calls Tryz.prog 176 #[vt,.int .i64 ((nd j q:Nat):Int),vc] w fun e w'=>(∃ r,e=.returned r∧Ow 5 w' w.heap.size r (digF t g j q))∧Kp w w'
 | 0,q,w,vt,vc,g,_,ht,hc,hTab,hq=>ag7 vt vc t g K q w hT ht hc hTab (by simpa using hq)
 | j+1,q,w,vt,vc,g,hj,ht,hc,hTab,hq=>ag8 t K j hT hj (fun q w vt vc g ht hc hTab hq=>aek t K hT j q w vt vc g (by omega) ht hc hTab hq) q w vt vc g ht hc hTab hq
theorem apH (vt:Value)(t:List Nod)(K j q:Nat)(side:Int)(w:World)(hT:aaZ t K)(ht:NL w vt t)(hTab:Tab w)(hj:j+1≤K)(hq:q<2 ^ (K - (j+1)))(hs:side=0∨side=1):
  Calls Tryz.prog 145 #[vt,.int .i64 ((nd (j+1) q:Nat):Int),.int .i64 side] w fun e w'=>(∃ r,e=.returned r∧Ow 5 w' w.heap.size r (aaI ([3]++rowB (ats t (nd (j+1) q)).pub++rowB (ats t (nd (j+1) q)).hash++rowB (digF t (ats t (nd (j+1) q)).un j (othQ side q)))))∧Kp w w':=by
 obtain ⟨x1,x2⟩:=hT.lt hj hq;have HNL:=Lib.hid ht;obtain ⟨b,off,c,p,arO,h,rfl,hn⟩:=ht.node x1;obtain ⟨c0,c1,c2,c3,c4⟩:=And.intro hn.kind (And.intro hn.name (And.intro hn.pubC (And.intro hn.unC hn.hashC)));have htd:=hT.node (nd (j+1) q);obtain ⟨k1,k2⟩:=arz hj hq;obtain ⟨_,y1,y2⟩:=aa4 hT.le hj hq;obtain ⟨f1,f2,f3⟩:=adC (j:=j) (q:=q) y1 y2;have hoq:othQ side q<2 ^ (K - j):=by unfold othQ;split <;> assumption
 have HCH:Hid (∀ W,Kp w W→Calls Tryz.prog 177 #[.int .i64 ((nd (j+1) q:Nat):Int),.int .i64 (1 - side)] W fun e w'=>e=.returned (.int .i64 ((nd j (othQ side q):Nat):Int))∧W=w'):=fun W hW=>by
  have:=ady ((nd (j+1) q:Nat):Int) (1 - side) W (hTab.kp hW);rcases hs with rfl | rfl
  ·rwa [if_pos (by decide),f3] at this
  ·rwa [if_neg (by decide),f2] at this
 have HDG:=Lib.hid (fun W vc (hW:Kp w W) (hc:Cnt W vc (ats t (nd (j+1) q)).un)=>aek t K hT j (othQ side q) W _ vc _ (by omega) (ht.kp hW) hc (hTab.kp hW) hoq);have HAB:=Lib.hid (fun W v (hv:RI W v (ats t (nd (j+1) q)).un)=>amK v _ W hv (by have:=htd.unl;omega) (fun i hi=>by have:=htd.un i hi;omega));have HDL:=Lib.hid (aim t (ats t (nd (j+1) q)).un j (othQ side q));have lp:=adT (x:=(ats t (nd (j+1) q)).pub) (by have:=htd.pub;omega);have lh:=adT (x:=(ats t (nd (j+1) q)).hash) (by have:=htd.hash;omega);have lp2:=htd.pub;have lh2:=htd.hash;have i1:IntKind.i64.wrap (1 - side)=1 - side:=IntWalk.i64_in _ (by omega);have e4:((nd (j+1) q:Nat):Int)<(t.length:Int):=by omega
 have HNI:=Lib.hid hn.2;obtain ⟨ap,np,cp,rfl⟩:=aaz hn.2.pub;obtain ⟨au,nu,cu,rfl⟩:=hn.2.un.sl;obtain ⟨ah,nh,ch,rfl⟩:=aaz hn.2.hash;have HRE:Hid ((aaI ([3]++rowB (ats t (nd (j+1) q)).pub++rowB (ats t (nd (j+1) q)).hash++rowB (digF t (ats t (nd (j+1) q)).un j (othQ side q))))=aaI ([3]++[rowB (ats t (nd (j+1) q)).pub,rowB (ats t (nd (j+1) q)).hash,rowB (digF t (ats t (nd (j+1) q)).un j (othQ side q))].flatten)):=by unfold Hid;simp
 rw[HRE.out];generalize digF t (ats t (nd (j+1) q)).un j (othQ side q)=DG at *;have lr:=adT (x:=DG) (by have:=HDL.out;omega);have HLN:Hid ((rowB (ats t (nd (j+1) q)).pub).length≤42∧(rowB (ats t (nd (j+1) q)).hash).length≤42∧(rowB DG).length≤40):=⟨by omega,by omega,by have:=HDL.out;omega⟩;have hpos:0<(rowB DG).length:=by
  unfold rowB;rw[if_pos (by unfold rowE lenE;rw[HDL.out];decide)];rw[List.length_append,HDL.out];omega
 have HPO:=Lib.hid hpos;clear hT ht hTab hn hq k1 k2 y1 y2 f1 f2 f3 hj hoq htd lp lh lp2 lh2 lr hpos HDL;generalize nd j (othQ side q)=XO at *;generalize nd (j+1) q=X at *;generalize t.length=TL at *;generalize ats t X=m at *;clear hs;obtain ⟨WA,hWA⟩:∃ WA,w.alloc (.cells #[.int .i64 m.kind,.int .i64 m.name,.slice ap np cp,.slice au nu cu,.slice ah nh ch] 81)=WA:=⟨_,rfl⟩;have HBX:Hid (Bx WA w.heap.size 81 #[.int .i64 m.kind,.int .i64 m.name,.slice ap np cp,.slice au nu cu,.slice ah nh ch]):=by rw[← hWA];exact Bx.new _ _ _
 have HZA:Hid (Kp w WA):=by rw[← hWA];exact (Kp.refl _).alloc _
 have HWA:=Lib.hid hWA;clear hWA;go_enter Tryz.func145,Tryz.ntmps145;go_wp2_with fail;rw[HWA.out];have HS:Hid (∀ W,Kp WA W→W.cell? ⟨w.heap.size,2,none⟩=some (.slice ap np cp)∧W.cell? ⟨w.heap.size,3,none⟩=some (.slice au nu cu)∧W.cell? ⟨w.heap.size,4,none⟩=some (.slice ah nh ch)):=fun W hW=>⟨(HBX.out.kp hW).cell 2,(HBX.out.kp hW).cell 3,(HBX.out.kp hW).cell 4⟩
 have KD:Hid (Kp WA WA.drew):=Kp.drew (Kp.refl WA);have arJ:=Lib.hid (HS.out _ KD.out);clear HBX HWA c0 c1 c2 c3 c4;go_region_held3 (fun W=>W.cell? ⟨w.heap.size,2,none⟩=some (.slice ap np cp)∧W.cell? ⟨w.heap.size,3,none⟩=some (.slice au nu cu)∧W.cell? ⟨w.heap.size,4,none⟩=some (.slice ah nh ch))
  (first | with_reducible exact arJ.out | with_reducible exact S3.out | with_reducible exact S4.out)
  (first
   | (go_at_call 176;refine (HDG.out _ _ (HZA.out.trans K3.out) o3).mono ?_;rintro _ w4 ⟨⟨r4,rfl,o4⟩,k4⟩;obtain ⟨a4,n4,b4,rfl⟩:=aaz o4.rd;have K4:=Lib.hid (K3.out.trans k4);have S4:=Lib.hid (HS.out _ K4.out))
   | (go_at_call 178;refine (HAB.out _ _ (HNI.out.un.kp (HZA.out.trans KD.out))).mono ?_;rintro _ w3 ⟨⟨r3,rfl,o3⟩,k3⟩;obtain ⟨cb,rfl,_⟩:=o3.call;have K3:=Lib.hid (KD.out.trans k3);have S3:=Lib.hid (HS.out _ K3.out))
   | (go_at_call 177;refine (HCH.out _ (HZA.out.trans KD.out)).mono ?_;rintro _ _ ⟨rfl,rfl⟩))
 have HP:Hid (∀ W,Kp WA W→Calls Tryz.prog 180 #[.slice ap np cp] W fun e w'=>(∃ r,e=.returned r∧Ow 5 w' W.heap.size r (rowB m.pub))∧Kp W w'):=fun W hW=>abq _ m.pub W (HNI.out.pub.kp (HZA.out.trans hW))
 have HH:Hid (∀ W,Kp WA W→Calls Tryz.prog 180 #[.slice ah nh ch] W fun e w'=>(∃ r,e=.returned r∧Ow 5 w' W.heap.size r (rowB m.hash))∧Kp W w'):=fun W hW=>abq _ m.hash W (HNI.out.hash.kp (HZA.out.trans hW))
 have O4:=Lib.hid o4.rd;have D4:Hid (Kp w4 w4.drew):=Kp.drew (Kp.refl w4);have S5:=Lib.hid (HS.out _ (K4.out.trans D4.out));clear arJ S3 S4 HDG HAB HCH o3 o4 k3 k4 K3;go_wp2_with fail;go_region_held3 (fun W=>W.cell? ⟨w.heap.size,2,none⟩=some (.slice ap np cp)∧W.cell? ⟨w.heap.size,3,none⟩=some (.slice au nu cu)∧W.cell? ⟨w.heap.size,4,none⟩=some (.slice ah nh ch))
  (first | with_reducible exact S5.out | with_reducible exact S6.out | with_reducible exact S7.out | with_reducible exact S8.out | with_reducible exact S9.out | with_reducible exact HS.out _ (K8.out.alloc _))
  (first
   | (go_at_call 179;refine (aez 3 _ [rowB m.pub,rowB m.hash,rowB DG] _ (RL.row3 w8 24 (o6.rd.kp D8.out.1) (o7.rd.kp D8.out.2) o8.rd) (by have:=HPO.out;simp only[List.flatten_cons,List.flatten_nil,List.length_append,List.length_nil];omega) (by have:=HLN.out;simp only[List.flatten_cons,List.flatten_nil,List.length_append,List.length_nil];omega) (by simp)).mono ?_;rintro _ w9 ⟨⟨r9,rfl,o9⟩,k9⟩;obtain ⟨a9,n9,b9,rfl⟩:=aaz o9.rd;have K9:=Lib.hid ((K8.out.alloc _).trans k9);have S9:=Lib.hid (HS.out _ K9.out))
   | (go_at_call 180;refine (abq _ DG _ (O4.out.kp D7.out)).mono ?_;rintro _ w8 ⟨⟨r8,rfl,o8⟩,k8⟩;obtain ⟨a8,n8,b8,rfl⟩:=aaz o8.rd;have K8:=Lib.hid (K7.out.trans k8);have S8:=Lib.hid (HS.out _ K8.out);have D8:=Lib.hid (And.intro (D67.out.trans k8) k8))
   | (go_at_call 180;refine (HH.out _ K6.out).mono ?_;rintro _ w7 ⟨⟨r7,rfl,o7⟩,k7⟩;obtain ⟨a7,n7,b7,rfl⟩:=aaz o7.rd;have K7:=Lib.hid (K6.out.trans k7);have S7:=Lib.hid (HS.out _ K7.out);have D7:=Lib.hid (D6.out.trans k7);have D67:=Lib.hid k7)
   | (go_at_call 180;refine (HP.out _ (K4.out.trans D4.out)).mono ?_;rintro _ w6 ⟨⟨r6,rfl,o6⟩,k6⟩;obtain ⟨a6,n6,b6,rfl⟩:=aaz o6.rd;have K6:=Lib.hid ((K4.out.trans D4.out).trans k6);have S6:=Lib.hid (HS.out _ K6.out);have D6:=Lib.hid (D4.out.trans k6)))
 have KE:=Lib.hid (And.intro o9 (And.intro K8.out K9.out));clear S5 S6 S7 S8 S9 HP HH o6 o7 o8 o9 k9;go_wp2_with fail;go_ret;exact ⟨⟨_,rfl,KE.out.1.mono (Nat.le_trans (HZA.out.trans KE.out.2.1).size (by simp))⟩,HZA.out.trans KE.out.2.2⟩
theorem aou (vt:Value)(t:List Nod)(K X:Nat)(side:Int)(w:World)(hT:aaZ t K)(ht:NL w vt t)(hTab:Tab w)(hX:X<t.length)(hk:(ats t X).kind=2)(hs:side=0∨side=1):
  Calls Tryz.prog 145 #[vt,.int .i64 (X:Int),.int .i64 side] w fun e w'=>(∃ r,e=.returned r∧Ow 5 w' w.heap.size r (aboV t (X:Int) side))∧Kp w w':=by
 have hE:aboE t (X:Int) side=0:=by
  unfold aboE
  rw[if_pos ⟨by omega,by omega,by omega,by omega⟩,Int.toNat_natCast,if_pos hk]
 have hp:=hT.par X hk
 obtain ⟨j,q,rfl,hj,hq⟩:=hT.at hX
 cases j with
 | zero=>rw[abK] at hp;omega
 | succ j=>
  have e:aboV t ((nd (j+1) q:Nat):Int) side=aaI ([3]++rowB (ats t (nd (j+1) q)).pub++rowB (ats t (nd (j+1) q)).hash++rowB (digF t (ats t (nd (j+1) q)).un j (othQ side q))):=by
   have hsm:=aa4 hT.le hj hq
   unfold aboV
   rw[if_pos hE,Int.toNat_natCast]
   unfold aboT
   rw[adJ (j+1) q (by omega),ahI (j+1) q (by omega),Nat.add_sub_cancel]
  rw[e]
  exact apH vt t K j q side w hT ht hTab hj hq hs
end Go.Proofs.YthmhklmkgkfcpaaGreatDoor

import Derived.Test.YthmhklmkgkfcpaaGreatDoorR13
import Derived.Test.YthmhklmkgkfcpaaGreatDoorR26
import Derived.Test.YthmhklmkgkfcpaaGreatDoorR27
import Derived.Test.YthmhklmkgkfcpaaGreatDoorR29
import Derived.Test.YthmhklmkgkfcpaaGreatDoorR30
import Derived.Test.YthmhklmkgkfcpaaGreatDoorR31
import Derived.Test.YthmhklmkgkfcpaaGreatDoorR32
import Derived.Test.YthmhklmkgkfcpaaGreatDoorR34
import Derived.Test.YthmhklmkgkfcpaaGreatDoorR37
import Derived.Test.YthmhklmkgkfcpaaGreatDoorR39
import Derived.Test.YthmhklmkgkfcpaaGreatDoorR43
import Derived.Test.YthmhklmkgkfcpaaGreatDoorR44
import Derived.Test.YthmhklmkgkfcpaaGreatDoorR45
set_option linter.unusedVariables false
set_option linter.unusedSimpArgs false
set_option maxHeartbeats 8000000
set_option maxRecDepth 100000
namespace Go.Proofs.YthmhklmkgkfcpaaGreatDoor
open Go.RowKit Go.Maps
theorem alj (ar6 v1 v2 v3:Value)(t:List Nod)(K:Nat)(i:Int)(seed secret info:List UInt8)(w:World)(hu:NL w ar6 t)(hr:aab t K)(h1:Rd w v1 seed)(h2:Rd w v2 secret)(h3:Rd w v3 info)(hno:aex t i seed secret≠0):
  Calls Tryz.prog 20 #[ar6,.int .i64 i,v1,v2,v3] w fun e w'=>(∃ v,e=.returned (.tuple #[v,.int .i64 (aex t i seed secret)])∧MV w' v noMd)∧Kp w w':=by
 obtain ⟨z1,z2,z3⟩:=hr.small;have HWO:=Lib.hid (fun (hn:¬aar t i) W (hW:Kp w W)=>ad9 ar6 t K i W (hu.kp hW) hr hn);obtain ⟨a,c,rfl,_,_⟩:=hu.shape;obtain ⟨a1,c1,rfl,_,_⟩:=h1.shape;obtain ⟨a2,c2,rfl,_,_⟩:=h2.shape;obtain ⟨a3,n3,c3,rfl⟩:=aac h3;obtain ⟨w1,hw1⟩:∃ w1,w.alloc (.cells #[.slice none 0 0,.slice none 0 0,.slice none 0 0,.slice none 0 0,.slice none 0 0] 47)=w1:=⟨_,rfl⟩;have hb:Bx w1 w.heap.size 47 #[.slice none 0 0,.slice none 0 0,.slice none 0 0,.slice none 0 0,.slice none 0 0]:=by rw[← hw1];exact Bx.new w _ _
 have HK1:Hid (Kp w w1):=by unfold Hid;rw[← hw1];exact (Kp.refl _).alloc _
 have HB:=Lib.hid hb;have HW1:=Lib.hid hw1;have hE:aex t i seed secret=if seed.length=32∧secret.length=32 then acY t i else 1:=rfl
 generalize t.length=N at *;clear hu hr hb hw1 z1 z2 z3 h3;by_cases q1:seed.length=32
 ·by_cases q2:secret.length=32
  ·rw[if_pos ⟨q1,q2⟩] at hE
   have hth:¬aar t i:=fun h=>hno (by rw[hE];unfold acY;rw[if_pos h])
   have hE2:aex t i seed secret=11:=by rw[hE];unfold acY;rw[if_neg hth]
   have HWOJ:=Lib.hid (HWO.out hth w1 HK1.out);rw[hE2,q1,q2];clear hE hno hth hE2 h1 h2 q1 q2 HWO;go_enter Tryz.func20,Tryz.ntmps20;go_wp2_with fail;rw[HW1.out];refine HWOJ.out.mono ?_;rintro _ w2 ⟨rfl,k2⟩;have HB2:=Lib.hid (HB.out.kp k2);have K2:=Lib.hid (HK1.out.trans k2);clear k2;have HB3:=Lib.hid (HB2.out.kp ((Kp.refl w2).alloc (.cells #[.slice none 0 0,.int .i64 0,.slice none 0 0,.slice none 0 0] 95)));have K3:Hid (Kp w (w2.alloc (.cells #[.slice none 0 0,.int .i64 0,.slice none 0 0,.slice none 0 0] 95))):=K2.out.alloc _;go_wp2_with (refine aan rfl rfl 47 (.tmp 10) (.tmp 40) rfl w.heap.size 47 _ #[.slice none 0 0,.slice none 0 0,.slice none 0 0,.slice none 0 0,.slice none 0 0] rfl rfl HB3.out rfl one5 aa2 ?_;intro w3 hb3 g3 hk3)
   have hk:=hk3 w K3.out (Nat.le_refl _);refine bodyPost_ret (aap rfl _ _ w.heap.size _ _ (0,0) _ _ rfl hb3 Tryz.underlying47 rfl aa2 rfl) rfl ?_;exact ⟨⟨_,rfl,_,_,_,_,_,rfl,MIn.none _⟩,hk⟩
  ·rw[if_neg fun h=>q2 h.2] at hE
   have hne:((secret.length:Int)==32)=false:=beq_eq_false_iff_ne.2 (by omega);have hne2:((secret.length:Int) != 32)=true:=bne_iff_ne.2 (by omega);have hne3:¬(secret.length:Int)=32:=by omega
   rw[hE,q1];clear hno hE h1 h2 q1 HWO;go_enter Tryz.func20,Tryz.ntmps20;rw[← HW1.out] at HB HK1;go_wp2_with (refine aan rfl rfl 47 (.tmp 10) (.tmp 31) rfl w.heap.size 47 _ #[.slice none 0 0,.slice none 0 0,.slice none 0 0,.slice none 0 0,.slice none 0 0] rfl rfl HB.out rfl one5 aa2 ?_;intro w3 hb3 g3 hk3)
   have hk:=hk3 w HK1.out (Nat.le_refl _);refine bodyPost_ret (aap rfl _ _ w.heap.size _ _ (0,0) _ _ rfl hb3 Tryz.underlying47 rfl aa2 rfl) rfl ?_;exact ⟨⟨_,rfl,_,_,_,_,_,rfl,MIn.none _⟩,hk⟩
 ·rw[if_neg fun h=>q1 h.1] at hE
  have hne:((seed.length:Int)==32)=false:=beq_eq_false_iff_ne.2 (by omega);have hne2:((seed.length:Int) != 32)=true:=bne_iff_ne.2 (by omega);have hne3:¬(seed.length:Int)=32:=by omega
  rw[hE];clear hno hE h1 h2 HWO;go_enter Tryz.func20,Tryz.ntmps20;rw[← HW1.out] at HB HK1;go_wp2_with (refine aan rfl rfl 47 (.tmp 10) (.tmp 31) rfl w.heap.size 47 _ #[.slice none 0 0,.slice none 0 0,.slice none 0 0,.slice none 0 0,.slice none 0 0] rfl rfl HB.out rfl one5 aa2 ?_;intro w3 hb3 g3 hk3)
  have hk:=hk3 w HK1.out (Nat.le_refl _);refine bodyPost_ret (aap rfl _ _ w.heap.size _ _ (0,0) _ _ rfl hb3 Tryz.underlying47 rfl aa2 rfl) rfl ?_;exact ⟨⟨_,rfl,_,_,_,_,_,rfl,MIn.none _⟩,hk⟩
end Go.Proofs.YthmhklmkgkfcpaaGreatDoor
namespace Go.Proofs.YthmhklmkgkfcpaaGreatDoor
open Go.RowKit
theorem af1 (ar6 v1 v2 v3:Value)(t:List Nod)(K:Nat)(i:Int)(seed secret info:List UInt8)(w:World)(hu:NL w ar6 t)(hr:aab t K)(hT:aa3 t K)(h1:Rd w v1 seed)(h2:Rd w v2 secret)(h3:Rd w v3 info)(hil:info.length≤1400)(hTab:Tab w):
  Calls Tryz.prog 20 #[ar6,.int .i64 i,v1,v2,v3] w fun e w'=>(∃ v,e=.returned (.tuple #[v,.int .i64 (aex t i seed secret)])∧MV w' v (abQ t K i seed secret info))∧Kp w w':=by
 by_cases h:aex t i seed secret=0
 ·have h':=h
  unfold aex at h';by_cases hq:seed.length=32∧secret.length=32
  ·rw[if_pos hq] at h'
   unfold acY at h';have hth:aar t i:=by
    by_cases hth:aar t i
    ·exact hth
    ·rw[if_neg hth] at h';cases h'
   obtain ⟨k,rfl,hk,hkind,hk2⟩:=acl hr hth;unfold abQ;rw[if_pos h,h,Int.toNat_natCast];exact akn ar6 v1 v2 v3 t K k seed secret info w hu hr hT h1 h2 h3 hkind hq.1 hq.2 hil hTab
  ·rw[if_neg hq] at h'
   cases h'
 ·unfold abQ
  rw[if_neg h];exact alj ar6 v1 v2 v3 t K i seed secret info w hu hr h1 h2 h3 h
end Go.Proofs.YthmhklmkgkfcpaaGreatDoor
namespace Go.Proofs.YthmhklmkgkfcpaaGreatDoor
open Go.RowKit Go.Maps
theorem alq (ar6 v vi x y:Value)(t:List Nod)(K:Nat)(i me:Int)(own:List Sd)(info:List UInt8)(p:Pa)(w:World)(hu:NL w ar6 t)(hr:aab t K)(hv:SL w v own)(hi:Rd w vi info)(hp:PIn w x y p)(hTab:Tab w)(hno:¬aar t i∨i=me):
  Calls Tryz.prog 23 #[ar6,.int .i64 i,.int .i64 me,v,vi,.agg #[x,y]] w fun e w'=>(∃ v,e=.returned (.tuple #[v,.int .i64 (adw t K i me own info p)])∧MV w' v (acN t K i me own info p))∧Kp w w':=by
 obtain ⟨z1,z2,z3⟩:=hr.small;have HWO:=Lib.hid (fun (hn:¬aar t i) W (hW:Kp w W)=>ad9 ar6 t K i W (hu.kp hW) hr hn);have HWY:=Lib.hid (fun (k:Nat) (hk:(ats t (2*k)).kind=1) W (hW:Kp w W)=>acx ar6 t K k W (hu.kp hW) hr hk (hTab.kp hW));have HQ0:Hid (¬aar t i→adw t K i me own info p=11∧acN t K i me own info p=noMd):=fun h=>by
  have hE:adw t K i me own info p=11:=by unfold adw;rw[if_pos h]
  exact ⟨hE,by unfold acN;rw[if_neg (by rw[hE];decide)]⟩
 have HQ1:Hid (aar t i→i=me→adw t K i me own info p=1∧acN t K i me own info p=noMd):=fun h h2=>by
  have hE:adw t K i me own info p=1:=by unfold adw;rw[if_neg (by rw[Classical.not_not];exact h),if_pos h2]
  exact ⟨hE,by unfold acN;rw[if_neg (by rw[hE];decide)]⟩
 have HTH:=Lib.hid (fun (h:aar t i)=>acl hr h);obtain ⟨a,c,rfl,_,_⟩:=hu.shape;obtain ⟨av,nv,cv,rfl⟩:=SE.sl hv;obtain ⟨ai,ni,ci,rfl⟩:=aac hi;obtain ⟨ax,nx,cx,rfl⟩:=aac hp.pub;obtain ⟨ay,ny,cy,rfl⟩:=SE.sl hp.step;generalize adw t K i me own info p=TE at *;generalize acN t K i me own info p=TV at *;obtain ⟨w1,hw1⟩:∃ w1,(w.alloc (.cells #[.slice ax nx cx,.slice ay ny cy] 27)).alloc (.cells #[.slice none 0 0,.slice none 0 0,.slice none 0 0,.slice none 0 0,.slice none 0 0] 47)=w1:=⟨_,rfl⟩;have HRB:Hid (∀ W,Kp w1 W→Bx W (w.heap.size+1) 47 #[.slice none 0 0,.slice none 0 0,.slice none 0 0,.slice none 0 0,.slice none 0 0]):=fun W hW=>by
  refine Bx.kp ?_ hW;have:=Bx.new (w.alloc (.cells #[.slice ax nx cx,.slice ay ny cy] 27)) 47 #[.slice none 0 0,.slice none 0 0,.slice none 0 0,.slice none 0 0,.slice none 0 0];rw[World.size_alloc] at this;rw[← hw1];exact this
 have K1:Hid (Kp w w1):=by unfold Hid;rw[← hw1];exact ((Kp.refl _).alloc _).alloc _
 have HW1:=Lib.hid hw1;generalize hNN:t.length=N at *;clear hu hr hv hi hp z1 z2 z3 hTab hw1 hNN;by_cases hth:aar t i
 ·obtain rfl:i=me:=hno.resolve_left fun h=>h hth
  obtain ⟨k,rfl,_,hkind,_⟩:=HTH.out hth;obtain ⟨hq1,hq2⟩:=HQ1.out hth rfl;have HQ:=Lib.hid (And.intro hq1 hq2);clear HWO HQ0 HQ1 HTH hth hno hq1 hq2;have HWOJ:=Lib.hid (HWY.out k hkind w1 K1.out);clear HWY hkind;go_enter Tryz.func23,Tryz.ntmps23;go_wp2_with fail;rw[HW1.out];refine HWOJ.out.mono ?_;rintro _ w2 ⟨⟨nv',sv,rfl,hwi⟩,k2⟩;obtain ⟨an,nn,cn,rfl⟩:=hwi.nodes.sl;obtain ⟨as',ns',cs',rfl⟩:=SE.sl hwi.steps;have K3:Hid (Kp w1 (w2.alloc (.cells #[.slice a N c,.int .i64 (k:Int),.slice an nn cn,.slice as' ns' cs'] 95))):=k2.alloc _;have HB3:=Lib.hid (HRB.out _ K3.out);have HK3:=Lib.hid (K1.out.trans K3.out);clear hwi k2;go_wp2_with (refine aan rfl rfl 47 (.tmp 12) (.tmp 37) rfl (w.heap.size+1) 47 _ #[.slice none 0 0,.slice none 0 0,.slice none 0 0,.slice none 0 0,.slice none 0 0] rfl rfl HB3.out rfl one5 aa2 ?_;intro wq hbq gq hkq)
  have hkz:=hkq w HK3.out (Nat.le_succ _);refine bodyPost_ret (aap rfl _ _ (w.heap.size+1) _ _ (0,0) _ _ rfl hbq Tryz.underlying47 rfl aa2 rfl) rfl ?_;rw[HQ.out.1,HQ.out.2];exact ⟨⟨_,rfl,_,_,_,_,_,rfl,MIn.none _⟩,hkz⟩
 ·have HQ:=Lib.hid (HQ0.out hth)
  have HWOJ:=Lib.hid (HWO.out hth w1 K1.out);clear HWO HQ0 HQ1 HTH HWY hth hno;go_enter Tryz.func23,Tryz.ntmps23;go_wp2_with fail;rw[HW1.out];refine HWOJ.out.mono ?_;rintro _ w2 ⟨rfl,k2⟩;have K3:Hid (Kp w1 (w2.alloc (.cells #[.slice none 0 0,.int .i64 0,.slice none 0 0,.slice none 0 0] 95))):=k2.alloc _;have HB3:=Lib.hid (HRB.out _ K3.out);have HK3:=Lib.hid (K1.out.trans K3.out);clear k2;go_wp2_with (refine aan rfl rfl 47 (.tmp 12) (.tmp 31) rfl (w.heap.size+1) 47 _ #[.slice none 0 0,.slice none 0 0,.slice none 0 0,.slice none 0 0,.slice none 0 0] rfl rfl HB3.out rfl one5 aa2 ?_;intro wq hbq gq hkq)
  have hkz:=hkq w HK3.out (Nat.le_succ _);refine bodyPost_ret (aap rfl _ _ (w.heap.size+1) _ _ (0,0) _ _ rfl hbq Tryz.underlying47 rfl aa2 rfl) rfl ?_;rw[HQ.out.1,HQ.out.2];exact ⟨⟨_,rfl,_,_,_,_,_,rfl,MIn.none _⟩,hkz⟩
end Go.Proofs.YthmhklmkgkfcpaaGreatDoor
namespace Go.Proofs.YthmhklmkgkfcpaaGreatDoor
open Go.RowKit
theorem af2 (ar6 v vi x y:Value)(t:List Nod)(K:Nat)(i me:Int)(own:List Sd)(info:List UInt8)(p:Pa)(w:World)(hu:NL w ar6 t)(hr:aab t K)(hT:aa3 t K)(hv:SL w v own)(hi0:Rd w vi info)(hp:PIn w x y p)
  (hs:aaI t K me own) (hil:info.length≤1400) (hol:own.length≤99000) (hbl:∀ k j,(seAt (stAt p.step k).fors j).b.length≤1600)
  (hsz:∀ j,j<p.step.length→(stAt p.step j).pub.length≤10000∧(stAt p.step j).fors.length≤10000∧∀ k,k<(stAt p.step j).fors.length→(seAt (stAt p.step j).fors k).half.length≤10000∧(seAt (stAt p.step j).fors k).b.length≤10000) (hTab:Tab w):
  Calls Tryz.prog 23 #[ar6,.int .i64 i,.int .i64 me,v,vi,.agg #[x,y]] w fun e w'=>(∃ v,e=.returned (.tuple #[v,.int .i64 (adw t K i me own info p)])∧MV w' v (acN t K i me own info p))∧Kp w w':=by
 by_cases h:¬aar t i∨i=me
 ·exact alq ar6 v vi x y t K i me own info p w hu hr hv hi0 hp hTab h
 ·rw[not_or,Classical.not_not] at h
  obtain ⟨k,rfl,hk,hkind,_⟩:=acl hr h.1;obtain ⟨m,rfl,_,_,_⟩:=acl hr hs.1;exact akr ar6 v vi x y t K k m own info p w hu hr hT hv hi0 hp hkind (fun e=>h.2 (by rw[e])) hs hil hol hbl hsz hTab
theorem ahp (x y x' y':Value)(a b:Se)(w:World)(h1:Rd w x a.half)(h2:Rd w y a.b)(h3:Rd w x' b.half)(h4:Rd w y' b.b):
  Calls Tryz.prog 97 #[.agg #[x,y],.agg #[x',y']] w fun e w'=>aaj e (a=b)∧Kp w w':=by
 have H1:=Lib.hid (fun W (hW:Kp w W)=>abk x x' a.half b.half W (h1.kp hW) (h3.kp hW));have H2:Hid (∀ W,Kp w W→Calls Tryz.prog 52 #[y,y'] W fun e w'=>aaj e (a.b=b.b)∧Kp W w'):=fun W hW=>(abk y y' a.b b.b W (h2.kp hW) (h4.kp hW)).mono fun e w' h=>⟨⟨_,h.1,decide_eq_true_iff⟩,h.2⟩
 have HN1:Hid (a.half≠b.half→¬a=b):=fun h e=>h (by rw[e])
 have HN2:Hid (¬a.b=b.b→¬a=b):=fun h e=>h (by rw[e])
 have HY:Hid (a.half=b.half→a.b=b.b→a=b):=Se.ext';obtain ⟨a1,n1,c1,rfl⟩:=aac h1;obtain ⟨a3,n3,c3,rfl⟩:=aac h3;obtain ⟨a2,n2,c2,rfl⟩:=aac h2;obtain ⟨a4,n4,c4,rfl⟩:=aac h4;generalize (a=b)=P at *;generalize (a.b=b.b)=P2 at *;generalize a.half=L1 at *;generalize b.half=L2 at *;clear h1 h2 h3 h4;by_cases q:L1=L2
 ·rw[decide_eq_true q] at H1
  have HY1:=Lib.hid (HY.out q);clear HN1 HY q;go_enter Tryz.func97,Tryz.ntmps97;go_wp2_with fail;obtain ⟨w1,hw1⟩:∃ w1,(w.alloc (.cells #[.slice a1 n1 c1,.slice a2 n2 c2] 92)).alloc (.cells #[.slice a3 n3 c3,.slice a4 n4 c4] 92)=w1:=⟨_,rfl⟩;have hb:Bx w1 w.heap.size 92 #[.slice a1 n1 c1,.slice a2 n2 c2]:=by rw[← hw1];exact (Bx.new w _ _).kp ((Kp.refl _).alloc _)
  have hb2:Bx w1 (w.heap.size+1) 92 #[.slice a3 n3 c3,.slice a4 n4 c4]:=by
   rw[← hw1];have:=Bx.new (w.alloc (.cells #[.slice a1 n1 c1,.slice a2 n2 c2] 92)) 92 #[.slice a3 n3 c3,.slice a4 n4 c4];rwa [World.size_alloc] at this
  have K1:Hid (Kp w w1):=by unfold Hid;rw[← hw1];exact ((Kp.refl _).alloc _).alloc _
  have HBB:=Lib.hid (And.intro hb hb2);rw[hw1];clear hb hb2 hw1;refine (H1.out w1 K1.out).mono ?_;rintro _ w2 ⟨rfl,k2⟩;have K2:=Lib.hid (K1.out.trans k2);have e1:=(HBB.out.1.kp k2).cell 1;have e2:=(HBB.out.2.kp k2).cell 1;simp only[List.getElem?_toArray,List.getElem?_cons_zero,List.getElem?_cons_succ] at e1 e2;clear k2 H1 HBB;go_wp2_with fail;refine (H2.out w2 K2.out).mono ?_;rintro _ w3 ⟨⟨bb,rfl,hb⟩,k3⟩;have HB:Hid (bb=true↔P):=⟨fun h=>HY1.out (hb.1 h),fun h=>hb.2 (Classical.not_not.1 fun hn=>HN2.out hn h)⟩;have K3:=Lib.hid (K2.out.trans k3);clear hb k3 HY1 HN2 e1 e2 H2;go_wp2_with fail;go_ret;exact ⟨⟨bb,rfl,HB.out⟩,K3.out⟩
 ·rw[decide_eq_false q] at H1
  have HX:=Lib.hid (HN1.out q);clear HN1 HN2 HY H2 q;go_enter Tryz.func97,Tryz.ntmps97;go_wp2_with fail;obtain ⟨w1,hw1⟩:∃ w1,(w.alloc (.cells #[.slice a1 n1 c1,.slice a2 n2 c2] 92)).alloc (.cells #[.slice a3 n3 c3,.slice a4 n4 c4] 92)=w1:=⟨_,rfl⟩;have K1:Hid (Kp w w1):=by unfold Hid;rw[← hw1];exact ((Kp.refl _).alloc _).alloc _
  rw[hw1];clear hw1;refine (H1.out w1 K1.out).mono ?_;rintro _ w2 ⟨rfl,k2⟩;have K2:=Lib.hid (K1.out.trans k2);clear k2 H1;go_wp2_with fail;go_ret;exact ⟨aaj.no HX.out,K2.out⟩
theorem afe (ar6 v:Value)(t s:List Se)(w:World)(hu:EL w ar6 t)(hv:EL w v s):
  Calls Tryz.prog 96 #[ar6,v,.func (.func 97) #[] #[]] w fun e w'=>aaj e (t=s)∧Kp w w':=by
 obtain ⟨a1,c1,rfl,p1,s1⟩:=SE.shape hu;obtain ⟨a2,c2,rfl,p2,s2⟩:=SE.shape hv;unfold maxLen at s1 s2;by_cases hlen:t.length=s.length
 ·have HEQ:Hid (∀ k,k<t.length→¬seAt t k=seAt s k→¬t=s):=fun k hk hne h=>hne (by rw[h])
  have HALL:Hid ((∀ k,k<t.length→seAt t k=seAt s k)→t=s):=fun h=>aqk hlen h
  have HU:=Lib.hid hu;have HV:=Lib.hid hv;rw[← hlen] at HV p2 ⊢;obtain ⟨N,hN⟩:∃ N,t.length=N:=⟨_,rfl⟩;have HN:=Lib.hid hN;have HN2:Hid (s.length=N):=hlen.symm.trans hN;rw[hN] at HU HV p1 p2 HEQ HALL ⊢;generalize (t=s)=EQ at *;have HS:=Lib.hid (And.intro s1 s2);clear hu hv hlen hN s1 s2;go_enter Tryz.func96,Tryz.ntmps96;go_wp2_with fail;go_loopw[17] (fun i wr=>∃ k:Nat,k≤N∧i=.int .i64 (k:Int)∧(∀ j,j<k→seAt t j=seAt s j)∧Kp w wr) (fun i _=>(N - (intOf i).toNat))
  case atStart=>exact ⟨0,Nat.zero_le _,rfl,fun t h=>by omega,Kp.refl _⟩
  case round=>
   obtain ⟨k,hk,rfl,hpre,hkp⟩:=hrel;by_cases hlt:k<N
   ·obtain ⟨g1,o1,d1,x1,y1,q1,_,hc1⟩:=EL.nodeK (i:=k) HU.out (by rw[HN.out];exact hlt)
    obtain ⟨g2,o2,d2,x2,y2,q2,_,hc2⟩:=EL.nodeK (i:=k) HV.out (by rw[HN2.out];exact hlt);rw[HN.out] at q1;rw[HN2.out] at q2;simp only[Value.slice.injEq] at q1 q2;obtain ⟨rfl,_,rfl⟩:=q1;obtain ⟨rfl,_,rfl⟩:=q2;obtain ⟨c10,c11,m3,m4⟩:=hc1 wr hkp;obtain ⟨xa,na,ca,rfl⟩:=aac m3;obtain ⟨xb,nb,cb,rfl⟩:=aac m4;obtain ⟨_,_,p3,p4⟩:=hc2 wr hkp;obtain ⟨xc,nc,cc,rfl⟩:=aac p3;obtain ⟨xd,nd',cd,rfl⟩:=aac p4;obtain ⟨c20,c21,_,_⟩:=hc2 (wr.alloc (.cells #[.slice xa na ca,.slice xb nb cb] 92)) (hkp.alloc _);have HC:=Lib.hid (fun W (hW:Kp wr W)=>ahp _ _ _ _ (seAt t k) (seAt s k) W (m3.kp hW) (m4.kp hW) (p3.kp hW) (p4.kp hW));have HEQ2:=HEQ.out k hlt;have HPRE:Hid (seAt t k=seAt s k→∀ j,j<k+1→seAt t j=seAt s j):=fun he j hj=>by
     rcases Nat.lt_or_eq_of_le (Nat.lt_succ_iff.1 hj) with h3 | h3
     ·exact hpre j h3
     ·rw[h3];exact he
    have i1:IntKind.i64.wrap ((k:Int)+1)=(k:Int)+1:=IntWalk.i64_in _ (by have:=HS.out;omega);have i2:(k:Int)<(N:Int):=by omega
    have KK:=Lib.hid hkp;clear hc1 hc2 HALL HEQ hpre hkp m3 m4 p3 p4;generalize (seAt t k=seAt s k)=PE at *;go_wp2_with fail;refine (HC.out _ (((Kp.refl _).alloc _).alloc _)).mono ?_;rintro _ w9 ⟨⟨bb,rfl,hb⟩,k9⟩;have K9:=Lib.hid (KK.out.trans ((((Kp.refl _).alloc _).alloc _).trans k9));cases bb
    ·have HP2:=Lib.hid (HEQ2 fun h=>by cases hb.2 h)
     clear HPRE HEQ2 hb k9 HC c10 c11 c20 c21;go_wp2_with fail;go_ret;exact ⟨aaj.no HP2.out,K9.out⟩
    ·have HP2:=Lib.hid (HPRE.out (hb.1 rfl))
     clear HPRE HEQ2 hb k9 HC c10 c11 c20 c21;go_wp2_with fail;go_roundw
     case rel=>exact ⟨k+1,by omega,by first | rfl | (rw[i1];rfl),HP2.out,K9.out⟩
     case measure=>simp[intOf];omega
   ·obtain rfl:k=N:=by omega
    have HB:=Lib.hid (HALL.out hpre);have KK:=Lib.hid hkp;have i2:¬(k:Int)<(k:Int):=by omega
    clear HALL HEQ hpre hkp;go_wp2_with fail;go_ret;exact ⟨aaj.yes HB.out,KK.out⟩
 ·have hne:¬(t.length:Int)=(s.length:Int):=by omega
  have hne2:((t.length:Int) != (s.length:Int))=true:=bne_iff_ne.2 hne;have HN:Hid (¬t=s):=fun h=>hlen (by rw[h])
  clear hu hv hlen s1 s2;go_enter Tryz.func96,Tryz.ntmps96;go_wp2_with fail;go_ret;exact ⟨aaj.no HN.out,Kp.refl _⟩
theorem af9 (x y x' y':Value)(a b:St)(w:World)(h1:Rd w x a.pub)(h2:EL w y a.fors)(h3:Rd w x' b.pub)(h4:EL w y' b.fors):
  Calls Tryz.prog 54 #[.agg #[x,y],.agg #[x',y']] w fun e w'=>aaj e (a=b)∧Kp w w':=by
 have H1:=Lib.hid (fun W (hW:Kp w W)=>abk x x' a.pub b.pub W (h1.kp hW) (h3.kp hW));have H2:Hid (∀ W,Kp w W→Calls Tryz.prog 96 #[y,y',.func (.func 97) #[] #[]] W fun e w'=>aaj e (a.fors=b.fors)∧Kp W w'):=fun W hW=>afe y y' a.fors b.fors W (ar4.kp h2 hW) (ar4.kp h4 hW)
 have HN1:Hid (a.pub≠b.pub→¬a=b):=fun h e=>h (by rw[e])
 have HN2:Hid (¬a.fors=b.fors→¬a=b):=fun h e=>h (by rw[e])
 have HY:Hid (a.pub=b.pub→a.fors=b.fors→a=b):=St.ext';obtain ⟨a1,n1,c1,rfl⟩:=aac h1;obtain ⟨a3,n3,c3,rfl⟩:=aac h3;obtain ⟨a2,n2,c2,rfl⟩:=SE.sl h2;obtain ⟨a4,n4,c4,rfl⟩:=SE.sl h4;generalize (a=b)=P at *;generalize (a.fors=b.fors)=P2 at *;generalize a.pub=L1 at *;generalize b.pub=L2 at *;clear h1 h2 h3 h4;by_cases q:L1=L2
 ·rw[decide_eq_true q] at H1
  have HY1:=Lib.hid (HY.out q);clear HN1 HY q;go_enter Tryz.func54,Tryz.ntmps54;go_wp2_with fail;obtain ⟨w1,hw1⟩:∃ w1,(w.alloc (.cells #[.slice a1 n1 c1,.slice a2 n2 c2] 74)).alloc (.cells #[.slice a3 n3 c3,.slice a4 n4 c4] 74)=w1:=⟨_,rfl⟩;have hb:Bx w1 w.heap.size 74 #[.slice a1 n1 c1,.slice a2 n2 c2]:=by rw[← hw1];exact (Bx.new w _ _).kp ((Kp.refl _).alloc _)
  have hb2:Bx w1 (w.heap.size+1) 74 #[.slice a3 n3 c3,.slice a4 n4 c4]:=by
   rw[← hw1];have:=Bx.new (w.alloc (.cells #[.slice a1 n1 c1,.slice a2 n2 c2] 74)) 74 #[.slice a3 n3 c3,.slice a4 n4 c4];rwa [World.size_alloc] at this
  have K1:Hid (Kp w w1):=by unfold Hid;rw[← hw1];exact ((Kp.refl _).alloc _).alloc _
  have HBB:=Lib.hid (And.intro hb hb2);rw[hw1];clear hb hb2 hw1;refine (H1.out w1 K1.out).mono ?_;rintro _ w2 ⟨rfl,k2⟩;have K2:=Lib.hid (K1.out.trans k2);have e1:=(HBB.out.1.kp k2).cell 1;have e2:=(HBB.out.2.kp k2).cell 1;simp only[List.getElem?_toArray,List.getElem?_cons_zero,List.getElem?_cons_succ] at e1 e2;clear k2 H1 HBB;go_wp2_with fail;refine (H2.out w2 K2.out).mono ?_;rintro _ w3 ⟨⟨bb,rfl,hb⟩,k3⟩;have HB:Hid (bb=true↔P):=⟨fun h=>HY1.out (hb.1 h),fun h=>hb.2 (Classical.not_not.1 fun hn=>HN2.out hn h)⟩;have K3:=Lib.hid (K2.out.trans k3);clear hb k3 HY1 HN2 e1 e2 H2;go_wp2_with fail;go_ret;exact ⟨⟨bb,rfl,HB.out⟩,K3.out⟩
 ·rw[decide_eq_false q] at H1
  have HX:=Lib.hid (HN1.out q);clear HN1 HN2 HY H2 q;go_enter Tryz.func54,Tryz.ntmps54;go_wp2_with fail;obtain ⟨w1,hw1⟩:∃ w1,(w.alloc (.cells #[.slice a1 n1 c1,.slice a2 n2 c2] 74)).alloc (.cells #[.slice a3 n3 c3,.slice a4 n4 c4] 74)=w1:=⟨_,rfl⟩;have K1:Hid (Kp w w1):=by unfold Hid;rw[← hw1];exact ((Kp.refl _).alloc _).alloc _
  rw[hw1];clear hw1;refine (H1.out w1 K1.out).mono ?_;rintro _ w2 ⟨rfl,k2⟩;have K2:=Lib.hid (K1.out.trans k2);clear k2 H1;go_wp2_with fail;go_ret;exact ⟨aaj.no HX.out,K2.out⟩
theorem aff (ar6 v:Value)(t s:List St)(w:World)(hu:TL11 w ar6 t)(hv:TL11 w v s):
  Calls Tryz.prog 53 #[ar6,v,.func (.func 54) #[] #[]] w fun e w'=>aaj e (t=s)∧Kp w w':=by
 obtain ⟨a1,c1,rfl,p1,s1⟩:=SE.shape hu;obtain ⟨a2,c2,rfl,p2,s2⟩:=SE.shape hv;unfold maxLen at s1 s2;by_cases hlen:t.length=s.length
 ·have HEQ:Hid (∀ k,k<t.length→¬stAt t k=stAt s k→¬t=s):=fun k hk hne h=>hne (by rw[h])
  have HALL:Hid ((∀ k,k<t.length→stAt t k=stAt s k)→t=s):=fun h=>aqj hlen h
  have HU:=Lib.hid hu;have HV:=Lib.hid hv;rw[← hlen] at HV p2 ⊢;obtain ⟨N,hN⟩:∃ N,t.length=N:=⟨_,rfl⟩;have HN:=Lib.hid hN;have HN2:Hid (s.length=N):=hlen.symm.trans hN;rw[hN] at HU HV p1 p2 HEQ HALL ⊢;generalize (t=s)=EQ at *;have HS:=Lib.hid (And.intro s1 s2);clear hu hv hlen hN s1 s2;go_enter Tryz.func53,Tryz.ntmps53;go_wp2_with fail;go_loopw[17] (fun i wr=>∃ k:Nat,k≤N∧i=.int .i64 (k:Int)∧(∀ j,j<k→stAt t j=stAt s j)∧Kp w wr) (fun i _=>(N - (intOf i).toNat))
  case atStart=>exact ⟨0,Nat.zero_le _,rfl,fun t h=>by omega,Kp.refl _⟩
  case round=>
   obtain ⟨k,hk,rfl,hpre,hkp⟩:=hrel;by_cases hlt:k<N
   ·obtain ⟨g1,o1,d1,x1,y1,q1,_,hc1⟩:=TL11.nodeK (i:=k) HU.out (by rw[HN.out];exact hlt)
    obtain ⟨g2,o2,d2,x2,y2,q2,_,hc2⟩:=TL11.nodeK (i:=k) HV.out (by rw[HN2.out];exact hlt);rw[HN.out] at q1;rw[HN2.out] at q2;simp only[Value.slice.injEq] at q1 q2;obtain ⟨rfl,_,rfl⟩:=q1;obtain ⟨rfl,_,rfl⟩:=q2;obtain ⟨c10,c11,m3,m4⟩:=hc1 wr hkp;obtain ⟨xa,na,ca,rfl⟩:=aac m3;obtain ⟨xb,nb,cb,rfl⟩:=SE.sl m4;obtain ⟨_,_,p3,p4⟩:=hc2 wr hkp;obtain ⟨xc,nc,cc,rfl⟩:=aac p3;obtain ⟨xd,nd',cd,rfl⟩:=SE.sl p4;obtain ⟨c20,c21,_,_⟩:=hc2 (wr.alloc (.cells #[.slice xa na ca,.slice xb nb cb] 74)) (hkp.alloc _);have HC:=Lib.hid (fun W (hW:Kp wr W)=>af9 _ _ _ _ (stAt t k) (stAt s k) W (m3.kp hW) (ar4.kp m4 hW) (p3.kp hW) (ar4.kp p4 hW));have HEQ2:=HEQ.out k hlt;have HPRE:Hid (stAt t k=stAt s k→∀ j,j<k+1→stAt t j=stAt s j):=fun he j hj=>by
     rcases Nat.lt_or_eq_of_le (Nat.lt_succ_iff.1 hj) with h3 | h3
     ·exact hpre j h3
     ·rw[h3];exact he
    have i1:IntKind.i64.wrap ((k:Int)+1)=(k:Int)+1:=IntWalk.i64_in _ (by have:=HS.out;omega);have i2:(k:Int)<(N:Int):=by omega
    have KK:=Lib.hid hkp;clear hc1 hc2 HALL HEQ hpre hkp m3 m4 p3 p4;generalize (stAt t k=stAt s k)=PE at *;go_wp2_with fail;refine (HC.out _ (((Kp.refl _).alloc _).alloc _)).mono ?_;rintro _ w9 ⟨⟨bb,rfl,hb⟩,k9⟩;have K9:=Lib.hid (KK.out.trans ((((Kp.refl _).alloc _).alloc _).trans k9));cases bb
    ·have HP2:=Lib.hid (HEQ2 fun h=>by cases hb.2 h)
     clear HPRE HEQ2 hb k9 HC c10 c11 c20 c21;go_wp2_with fail;go_ret;exact ⟨aaj.no HP2.out,K9.out⟩
    ·have HP2:=Lib.hid (HPRE.out (hb.1 rfl))
     clear HPRE HEQ2 hb k9 HC c10 c11 c20 c21;go_wp2_with fail;go_roundw
     case rel=>exact ⟨k+1,by omega,by first | rfl | (rw[i1];rfl),HP2.out,K9.out⟩
     case measure=>simp[intOf];omega
   ·obtain rfl:k=N:=by omega
    have HB:=Lib.hid (HALL.out hpre);have KK:=Lib.hid hkp;have i2:¬(k:Int)<(k:Int):=by omega
    clear HALL HEQ hpre hkp;go_wp2_with fail;go_ret;exact ⟨aaj.yes HB.out,KK.out⟩
 ·have hne:¬(t.length:Int)=(s.length:Int):=by omega
  have hne2:((t.length:Int) != (s.length:Int))=true:=bne_iff_ne.2 hne;have HN:Hid (¬t=s):=fun h=>hlen (by rw[h])
  clear hu hv hlen s1 s2;go_enter Tryz.func53,Tryz.ntmps53;go_wp2_with fail;go_ret;exact ⟨aaj.no HN.out,Kp.refl _⟩
theorem aks (x y x' y':Value)(a b:Pa)(w:World)(h1:Rd w x a.pub)(h2:TL11 w y a.step)(h3:Rd w x' b.pub)(h4:TL11 w y' b.step):
  Calls Tryz.prog 18 #[.agg #[x,y],.agg #[x',y']] w fun e w'=>aaj e (a=b)∧Kp w w':=by
 have H1:=Lib.hid (fun W (hW:Kp w W)=>abk x x' a.pub b.pub W (h1.kp hW) (h3.kp hW));have H2:Hid (∀ W,Kp w W→Calls Tryz.prog 53 #[y,y',.func (.func 54) #[] #[]] W fun e w'=>aaj e (a.step=b.step)∧Kp W w'):=fun W hW=>aff y y' a.step b.step W (ar4.kp h2 hW) (ar4.kp h4 hW)
 have HN1:Hid (a.pub≠b.pub→¬a=b):=fun h e=>h (by rw[e])
 have HN2:Hid (¬a.step=b.step→¬a=b):=fun h e=>h (by rw[e])
 have HY:Hid (a.pub=b.pub→a.step=b.step→a=b):=Pa.ext';obtain ⟨a1,n1,c1,rfl⟩:=aac h1;obtain ⟨a3,n3,c3,rfl⟩:=aac h3;obtain ⟨a2,n2,c2,rfl⟩:=SE.sl h2;obtain ⟨a4,n4,c4,rfl⟩:=SE.sl h4;generalize (a=b)=P at *;generalize (a.step=b.step)=P2 at *;generalize a.pub=L1 at *;generalize b.pub=L2 at *;clear h1 h2 h3 h4;by_cases q:L1=L2
 ·rw[decide_eq_true q] at H1
  have HY1:=Lib.hid (HY.out q);clear HN1 HY q;go_enter Tryz.func18,Tryz.ntmps18;go_wp2_with fail;obtain ⟨w1,hw1⟩:∃ w1,(w.alloc (.cells #[.slice a1 n1 c1,.slice a2 n2 c2] 27)).alloc (.cells #[.slice a3 n3 c3,.slice a4 n4 c4] 27)=w1:=⟨_,rfl⟩;have hb:Bx w1 w.heap.size 27 #[.slice a1 n1 c1,.slice a2 n2 c2]:=by rw[← hw1];exact (Bx.new w _ _).kp ((Kp.refl _).alloc _)
  have hb2:Bx w1 (w.heap.size+1) 27 #[.slice a3 n3 c3,.slice a4 n4 c4]:=by
   rw[← hw1];have:=Bx.new (w.alloc (.cells #[.slice a1 n1 c1,.slice a2 n2 c2] 27)) 27 #[.slice a3 n3 c3,.slice a4 n4 c4];rwa [World.size_alloc] at this
  have K1:Hid (Kp w w1):=by unfold Hid;rw[← hw1];exact ((Kp.refl _).alloc _).alloc _
  have HBB:=Lib.hid (And.intro hb hb2);rw[hw1];clear hb hb2 hw1;refine (H1.out w1 K1.out).mono ?_;rintro _ w2 ⟨rfl,k2⟩;have K2:=Lib.hid (K1.out.trans k2);have e1:=(HBB.out.1.kp k2).cell 1;have e2:=(HBB.out.2.kp k2).cell 1;simp only[List.getElem?_toArray,List.getElem?_cons_zero,List.getElem?_cons_succ] at e1 e2;clear k2 H1 HBB;go_wp2_with fail;refine (H2.out w2 K2.out).mono ?_;rintro _ w3 ⟨⟨bb,rfl,hb⟩,k3⟩;have HB:Hid (bb=true↔P):=⟨fun h=>HY1.out (hb.1 h),fun h=>hb.2 (Classical.not_not.1 fun hn=>HN2.out hn h)⟩;have K3:=Lib.hid (K2.out.trans k3);clear hb k3 HY1 HN2 e1 e2 H2;go_wp2_with fail;go_ret;exact ⟨⟨bb,rfl,HB.out⟩,K3.out⟩
 ·rw[decide_eq_false q] at H1
  have HX:=Lib.hid (HN1.out q);clear HN1 HN2 HY H2 q;go_enter Tryz.func18,Tryz.ntmps18;go_wp2_with fail;obtain ⟨w1,hw1⟩:∃ w1,(w.alloc (.cells #[.slice a1 n1 c1,.slice a2 n2 c2] 27)).alloc (.cells #[.slice a3 n3 c3,.slice a4 n4 c4] 27)=w1:=⟨_,rfl⟩;have K1:Hid (Kp w w1):=by unfold Hid;rw[← hw1];exact ((Kp.refl _).alloc _).alloc _
  rw[hw1];clear hw1;refine (H1.out w1 K1.out).mono ?_;rintro _ w2 ⟨rfl,k2⟩;have K2:=Lib.hid (K1.out.trans k2);clear k2 H1;go_wp2_with fail;go_ret;exact ⟨aaj.no HX.out,K2.out⟩
theorem af3 (x y x' y':Value)(p q:Pa)(w:World)(hp:PIn w x y p)(hq:PIn w x' y' q):
 Calls Tryz.prog 18 #[.agg #[x,y],.agg #[x',y']] w fun e w'=>aaj e (p=q)∧Kp w w':=aks x y x' y' p q w hp.pub hp.step hq.pub hq.step
def secL:ByteArray:=⟨#[115,101,99,114,101,116]⟩
def secN (n:UInt8):List UInt8:=derB [n] secL.data.toList
theorem aaV (n:UInt8):(secN n).length=32:=acX _ _
theorem af4 (n:UInt8)(w:World):Calls Tryz.prog 26 #[.int .u8 (n.toNat:Int)] w fun e w'=>(∃ r,e=.returned r∧Rd w' r (secN n)∧aaR w.heap.size r)∧Kp w w':=by
 have HO:=Lib.hid (fun W v (hv:Rd W v [n])=>amF v secL [n] W hv (by decide) (by simp));have HL:Hid (Rd (w.alloc (.cells #[.int .u8 (n.toNat:Int)] 5)) (.slice (some ⟨w.heap.size,0,none⟩) 1 1) [n]):=(Ow.lit w 5 w.heap.size 1 #[.int .u8 (n.toNat:Int)] [n] (Nat.le_refl _) rfl (by decide) rfl).rd;go_enter Tryz.func26,Tryz.ntmps26;go_wp2_with fail;refine (HO.out _ _ HL.out).mono ?_;rintro _ w2 ⟨⟨v,rfl,r2,n2⟩,k2⟩;have R2:=Lib.hid r2;have N2:Hid (aaR w.heap.size v):=fun g hg=>by have:=n2 g hg;simp at this;omega
 have K2:Hid (Kp w w2):=((Kp.refl w).alloc _).trans k2;clear r2 n2 k2;go_wp2_with fail;go_ret;exact ⟨⟨_,rfl,R2.out,N2.out⟩,K2.out⟩
theorem ajl (w:World)(hTAB:Tab w):Calls Tryz.prog 9 #[] w fun e w'=>e=.returned (.bool true)∧Kp w w':=by
 have HTAB:=Lib.hid hTAB;clear hTAB;have l1:(pubB (secN 1)).length=32:=aaG _;have l2:(pubB (secN 2)).length=32:=aaG _;obtain ⟨f1,f2,f3,f4,f5,f6,f7,f8⟩:=aif (p1:=pubB (secN 1)) (p2:=pubB (secN 2));have hr:=amr l1 l2;have hT:aa3 (TS11 (pubB (secN 1)) (pubB (secN 2))) 1:=hr.tidy (ams l1 l2);obtain ⟨hs1,hs0⟩:=amt (p1:=pubB (secN 1)) (p2:=pubB (secN 2)) (aaV 2) rfl;have hbk:=agY (i:=0) (me:=1) (seed:=secN 3) (secret:=secN 4) [] hr f1 (by decide) hs1 (aaV 3) (aaV 4);have hsm:=aig (t:=TS11 (pubB (secN 1)) (pubB (secN 2))) (K:=1) (i:=0) (secret:=secN 4) (secN 3) [] hr (by decide) (aaV 4);have hmf:=acM (TS11 (pubB (secN 1)) (pubB (secN 2))) 1 0 (secN 3) (secN 4) [];rw[f5] at hmf;have hmE:aex (TS11 (pubB (secN 1)) (pubB (secN 2))) 0 (secN 3) (secN 4)=0:=by
  unfold aex;rw[if_pos ⟨aaV 3,aaV 4⟩];unfold acY;rw[if_pos f7]
 have hmP:(abQ (TS11 (pubB (secN 1)) (pubB (secN 2))) 1 0 (secN 3) (secN 4) []).path=aaO (TS11 (pubB (secN 1)) (pubB (secN 2))) 1 0 (secN 3) (secN 4) []:=by unfold abQ;rw[if_pos hmE];rfl
 have hmL:(abQ (TS11 (pubB (secN 1)) (pubB (secN 2))) 1 0 (secN 3) (secN 4) []).last.length=32:=by unfold abQ;rw[if_pos hmE];exact acu (aaV 4) _
 have HSEC:Hid (∀ (n:UInt8) W,Calls Tryz.prog 26 #[.int .u8 (n.toNat:Int)] W fun e w'=>(∃ r,e=.returned r∧Rd w' r (secN n))∧Kp W w'):=fun n W=>(af4 n W).mono fun e w' ⟨⟨r,h1,h2,_⟩,k⟩=>⟨⟨r,h1,h2⟩,k⟩
 have HHA:Hid (∀ (n:UInt8) W v,Rd W v (secN n)→Calls Tryz.prog 33 #[v] W fun e w'=>(∃ r,e=.returned r∧Rd w' r (pubB (secN n)))∧Kp W w'):=fun n W v hv=>by
  have:=ali v (secN n) W hv;rwa [(abI (aaV n)).2] at this
 have HNEW:Hid (∀ W v,Rd W v (pubB (secN 1))→Calls Tryz.prog 37 #[.int .i64 1,v] W fun e w'=>(∃ r,e=.returned (.tuple #[r,.int .i64 0])∧NL w' r [aah 1 (pubB (secN 1))])∧Kp W w'):=fun W v hv=>by
  have:=akQ 1 v (pubB (secN 1)) W hv;rwa [(aiR l1).1,(aiR l1).2] at this
 have HADD:Hid (∀ W ar6 v,NL W ar6 [aah 1 (pubB (secN 1))]→Rd W v (pubB (secN 2))→Calls Tryz.prog 38 #[ar6,.int .i64 2,v] W fun e w'=>(∃ r,e=.returned (.tuple #[r,.int .i64 1,.int .i64 0])∧NL w' r (TS11 (pubB (secN 1)) (pubB (secN 2))))∧Kp W w'):=fun W ar6 v hu hv=>by
  have:=akX ar6 v [aah 1 (pubB (secN 1))] 0 2 (pubB (secN 2)) W hu hv (akS l1);rwa [(aiS l1 l2).1,(aiS l1 l2).2.1,(aiS l1 l2).2.2] at this
 generalize hTT:TS11 (pubB (secN 1)) (pubB (secN 2))=T at *;generalize hMM:abQ T 1 0 (secN 3) (secN 4) []=MD at *;generalize hPP:aaO T 1 0 (secN 3) (secN 4) []=MP at *;have hbk1:adw T 1 0 1 [⟨2,secN 2⟩] [] MP=0∧(acN T 1 0 1 [⟨2,secN 2⟩] [] MP).tree=MD.tree∧(acN T 1 0 1 [⟨2,secN 2⟩] [] MP).last=MD.last∧(acN T 1 0 1 [⟨2,secN 2⟩] [] MP).path=MP:=⟨hbk.1,hbk.2.2.1,hbk.2.2.2.1,hbk.2.2.2.2.trans hmP⟩;have HMK:Hid (∀ W ar6 v1 v2,NL W ar6 T→Rd W v1 (secN 3)→Rd W v2 (secN 4)→Tab W→Calls Tryz.prog 20 #[ar6,.int .i64 0,v1,v2,.slice none 0 0] W fun e w'=>(∃ v,e=.returned (.tuple #[v,.int .i64 0])∧MV w' v MD)∧Kp W w'):=fun W ar6 v1 v2 hu h1 h2 hTb=>by
  have:=af1 ar6 v1 v2 (.slice none 0 0) T 1 0 (secN 3) (secN 4) [] W hu hr hT h1 h2 (aaQ W) (by simp) hTb;rwa [hmE,hMM] at this
 obtain ⟨TD,hTD⟩:∃ TD,acN T 1 0 1 [⟨2,secN 2⟩] [] MP=TD:=⟨_,rfl⟩;rw[hTD] at hbk1;have HTK:Hid (∀ W ar6 v x y,NL W ar6 T→SL W v [⟨2,secN 2⟩]→PIn W x y MP→Tab W→Calls Tryz.prog 23 #[ar6,.int .i64 0,.int .i64 1,v,.slice none 0 0,.agg #[x,y]] W fun e w'=>(∃ v,e=.returned (.tuple #[v,.int .i64 0])∧MV w' v TD)∧Kp W w'):=fun W ar6 v x y hu hv hp hTb=>by
  have:=af2 ar6 v (.slice none 0 0) x y T 1 0 1 [⟨2,secN 2⟩] [] MP W hu hr hT hv (aaQ W) hp hs1 (by simp) (by simp) hsm.1 hsm.2 hTb;rwa [hbk1.1,hTD] at this
 have HND:Hid (∀ W ar6,NL W ar6 T→Tab W→Calls Tryz.prog 13 #[ar6,.int .i64 1] W fun e w'=>(∃ v,e=.returned (.tuple #[v,.int .i64 0])∧RN w' v [1])∧Kp W w'):=fun W ar6 hu hTb=>by
  have:=aja ar6 T 1 1 W hu hr hTb;have e2:agT T 1 1=[1]:=by unfold agT;rw[if_pos f8];exact f4
  rwa [f6,e2] at this
 have HSA:Hid (∀ W ar6 v,NL W ar6 MD.tree→NL W v MD.tree→Calls Tryz.prog 28 #[ar6,v] W fun e w'=>e=.returned (.bool true)∧Kp W w'):=fun W ar6 v hu hv=>by
  refine (afQ ar6 v _ _ W hu hv).mono ?_;rintro _ w' ⟨⟨b,rfl,hb⟩,hk⟩;rw[hb.2 rfl];exact ⟨rfl,hk⟩
 have HSM:Hid (∀ W ar6 v l,Rd W ar6 l→Rd W v l→Calls Tryz.prog 29 #[ar6,v] W fun e w'=>e=.returned (.bool true)∧W=w'):=fun W ar6 v l hu hv=>by
  have:=ab8 ar6 v l l W hu hv;rwa [decide_eq_true rfl] at this
 have HIN:Hid (∀ W ar6 v,RI W ar6 [1]→RI W v [1]→Calls Tryz.prog 15 #[ar6,v] W fun e w'=>e=.returned (.bool true)∧Kp W w'):=fun W ar6 v hu hv=>by
  have:=afP ar6 v [1] [1] W hu hv;rwa [decide_eq_true rfl] at this
 have hw:∀ k,k<[(⟨2,secN 2⟩:Sd)].length→-9223372036854775808≤(sdAt [(⟨2,secN 2⟩:Sd)] k).node∧(sdAt [(⟨2,secN 2⟩:Sd)] k).node≤9223372036854775807:=fun k hk=>by
  have:k=0:=by simp at hk;omega
  subst this;exact ⟨(show (-9223372036854775808:Int)≤2 by decide),(show (2:Int)≤9223372036854775807 by decide)⟩
 have HR1:Hid (∀ W ar6 v,NL W ar6 T→SL W v [⟨2,secN 2⟩]→Tab W→Calls Tryz.prog 16 #[ar6,.int .i64 1,v] W fun e w'=>e=.returned (.bool true)∧Kp W w'):=fun W ar6 v hu hv hTb=>by
  refine (afd ar6 v T [⟨2,secN 2⟩] 1 1 W hu hv hr (by simp) hw hTb).mono ?_;rintro _ w' ⟨⟨b,rfl,hb⟩,hk⟩;rw[hb.2 hs1];exact ⟨rfl,hk⟩
 have HR0:Hid (∀ W ar6 v,NL W ar6 T→SL W v [⟨2,secN 2⟩]→Tab W→Calls Tryz.prog 16 #[ar6,.int .i64 0,v] W fun e w'=>e=.returned (.bool false)∧Kp W w'):=fun W ar6 v hu hv hTb=>by
  refine (afd ar6 v T [⟨2,secN 2⟩] 1 0 W hu hv hr (by simp) hw hTb).mono ?_;rintro _ w' ⟨⟨b,rfl,hb⟩,hk⟩;cases b
  ·exact ⟨rfl,hk⟩
  ·exact absurd (hb.1 rfl) hs0
 have HPS:Hid (∀ W x y x' y',PIn W x y MP→PIn W x' y' MP→Calls Tryz.prog 18 #[.agg #[x,y],.agg #[x',y']] W fun e w'=>e=.returned (.bool true)∧Kp W w'):=fun W x y x' y' h1 h2=>by
  refine (af3 x y x' y' MP MP W h1 h2).mono ?_;rintro _ w' ⟨⟨b,rfl,hb⟩,hk⟩;rw[hb.2 rfl];exact ⟨rfl,hk⟩
 have hlen1:MP.step.length=1:=hmf.1;have HPN:Hid (∀ W x y,PIn W x y MP→Calls Tryz.prog 18 #[.agg #[x,y],.agg #[.slice none 0 0,.slice none 0 0]] W fun e w'=>e=.returned (.bool false)∧Kp W w'):=fun W x y h1=>by
  refine (af3 x y _ _ MP ⟨[],[]⟩ W h1 ⟨aaQ W,ar4.nil W⟩).mono ?_;rintro _ w' ⟨⟨b,rfl,hb⟩,hk⟩;cases b
  ·exact ⟨rfl,hk⟩
  ·have:=hb.1 rfl
   rw[this] at hlen1;cases hlen1
 have hfor1:(stAt MP.step 0).fors.length=1:=(hmf.2.2 0 (by decide)).1;have HL:=Lib.hid (And.intro hlen1 (And.intro hfor1 (And.intro hmL (And.intro hmP hbk1))));clear f1 f2 f3 f4 f5 f6 f7 f8 hr hT hs1 hs0 hbk hsm hmf hmE hmP hmL l1 l2 hbk1 hw hlen1 hfor1 hTT hMM hPP hTD;have n1:=HSEC.out 1;have n2:=HSEC.out 2;have n3:=HSEC.out 3;have n4:=HSEC.out 4;rw[show (((1:UInt8).toNat:Nat):Int)=1 from rfl] at n1;rw[show (((2:UInt8).toNat:Nat):Int)=2 from rfl] at n2;rw[show (((3:UInt8).toNat:Nat):Int)=3 from rfl] at n3;rw[show (((4:UInt8).toNat:Nat):Int)=4 from rfl] at n4;have N1:=Lib.hid n1;have N2:=Lib.hid n2;have N3:=Lib.hid n3;have N4:=Lib.hid n4;clear n1 n2 n3 n4 HSEC;go_enter Tryz.func9,Tryz.ntmps9;go_wp2_with fail;refine (N1.out w).mono ?_;rintro _ w1 ⟨⟨r1,rfl,s1⟩,k1⟩;have R1:=Lib.hid s1;have K1:=Lib.hid k1;clear s1 k1 N1;go_wp2_with fail;refine (HHA.out 1 w1 _ R1.out).mono ?_;rintro _ w2 ⟨⟨r2,rfl,s2⟩,k2⟩;have R2:=Lib.hid s2;have K2:=Lib.hid (K1.out.trans k2);clear s2 k2 R1 K1;go_wp2_with fail;refine (HNEW.out w2 _ R2.out).mono ?_;rintro _ w3 ⟨⟨r3,rfl,s3⟩,k3⟩;have U3:=Lib.hid s3;have K3:=Lib.hid (K2.out.trans k3);clear s3 k3 R2 K2 HNEW;go_wp2_with fail;refine (N2.out w3).mono ?_;rintro _ w4 ⟨⟨r4,rfl,s4⟩,k4⟩;have R4:=Lib.hid s4;have U4:=Lib.hid (U3.out.kp k4);have K4:=Lib.hid (K3.out.trans k4);clear s4 k4 U3 K3;go_wp2_with fail;refine (HHA.out 2 w4 _ R4.out).mono ?_;rintro _ w5 ⟨⟨r5,rfl,s5⟩,k5⟩;have R5:=Lib.hid s5;have U5:=Lib.hid (U4.out.kp k5);have K5:=Lib.hid (K4.out.trans k5);clear s5 k5 U4 K4 R4 HHA;go_wp2_with fail;refine (HADD.out w5 _ _ U5.out R5.out).mono ?_;rintro _ w6 ⟨⟨r6,rfl,s6⟩,k6⟩;have T6:=Lib.hid s6;have K6:=Lib.hid (K5.out.trans k6);clear s6 k6 U5 R5 K5 HADD;go_wp2_with fail;refine (N3.out w6).mono ?_;rintro _ w7 ⟨⟨r7,rfl,s7⟩,k7⟩;have R7:=Lib.hid s7;have T7:=Lib.hid (T6.out.kp k7);have K7:=Lib.hid (K6.out.trans k7);clear s7 k7 T6 K6 N3;go_wp2_with fail;refine (N4.out w7).mono ?_;rintro _ w8 ⟨⟨r8,rfl,s8⟩,k8⟩;have R8:=Lib.hid s8;have R78:=Lib.hid (R7.out.kp k8);have T8:=Lib.hid (T7.out.kp k8);have K8:=Lib.hid (K7.out.trans k8);clear s8 k8 T7 K7 R7 N4;go_wp2_with fail;refine (HMK.out w8 _ _ _ T8.out R78.out R8.out (HTAB.out.kp K8.out)).mono ?_;rintro _ w9 ⟨⟨v9,rfl,hmv⟩,k9⟩;obtain ⟨mt,mo,mx,my,ml,rfl,hmi⟩:=hmv;obtain ⟨at',nt,ct,rfl⟩:=hmi.tree.sl;obtain ⟨ao,no,co,rfl⟩:=SE.sl hmi.own;obtain ⟨ax,nx,cx,rfl⟩:=aac hmi.path.pub;obtain ⟨ay,cy,rfl,_,_⟩:=SE.shape hmi.path.step;obtain ⟨al,cl,rfl,_,_⟩:=hmi.last.shape;have hpp:=hmi.path;rw[HL.out.2.2.2.1] at hpp hmi;rw[HL.out.2.2.2.1];rw[HL.out.2.2.1] at hmi;rw[HL.out.2.2.1];obtain ⟨gs,os,cs,pv,qv,es,_,hnd⟩:=TL11.nodeK (i:=0) hpp.step (by rw[HL.out.1];decide);rw[HL.out.1] at hpp hmi es;rw[HL.out.1];simp only[Value.slice.injEq] at es;obtain ⟨rfl,_,rfl⟩:=es;have MI:=Lib.hid hmi;have PP:=Lib.hid hpp;have T9:=Lib.hid (T8.out.kp k9);have K9:=Lib.hid (K8.out.trans k9);have HNDD:=Lib.hid hnd;obtain ⟨_,_,_,hq0⟩:=hnd w9 (Kp.refl _);obtain ⟨af,cf,rfl,_,_⟩:=SE.shape hq0;rw[HL.out.2.1] at HNDD;clear hpp hmi k9 T8 K8 R78 R8 HMK hnd hq0;obtain ⟨wA,hwA⟩:∃ x,w9.alloc (.cells #[.slice at' nt ct,.slice ao no co,.slice ax nx cx,.slice (some ⟨gs,os,none⟩) 1 cy,.slice al 32 cl] 47)=x:=⟨_,rfl⟩;have HBA:Hid (Bx wA w9.heap.size 47 #[.slice at' nt ct,.slice ao no co,.slice ax nx cx,.slice (some ⟨gs,os,none⟩) 1 cy,.slice al 32 cl]):=by unfold Hid;rw[← hwA];exact Bx.new w9 _ _
 have KA:Hid (Kp w9 wA):=by unfold Hid;rw[← hwA];exact (Kp.refl _).alloc _
 have HSC:Hid (∀ W,Kp wA W→W.cell? ⟨w9.heap.size,0,none⟩=some (.slice at' nt ct)∧W.cell? ⟨w9.heap.size,2,none⟩=some (.slice ax nx cx)∧W.cell? ⟨w9.heap.size,3,none⟩=some (.slice (some ⟨gs,os,none⟩) 1 cy)∧W.cell? ⟨w9.heap.size,4,none⟩=some (.slice al 32 cl)):=fun W hW=>⟨(HBA.out.kp hW).cell 0,(HBA.out.kp hW).cell 2,(HBA.out.kp hW).cell 3,(HBA.out.kp hW).cell 4⟩
 obtain ⟨c0,c2,c3,c4⟩:=HSC.out wA (Kp.refl _);obtain ⟨_,d1,_,_⟩:=HNDD.out wA KA.out;simp only[Nat.zero_mul,Nat.add_zero] at d1;go_wp2_with fail;try rw[hwA]
 clear hwA;refine (N2.out wA).mono ?_;rintro _ wB ⟨⟨rB,rfl,sB⟩,kB⟩;obtain ⟨aB,nB,cB,rfl⟩:=aac sB;have RB:=Lib.hid sB;have KB:=Lib.hid kB;clear sB kB c0 c2 c3 c4 d1 N2 HNDD;have HLIT:Hid (SL (wB.alloc (.cells #[.int .i64 2,.slice aB nB cB] 90)) (.slice (some ⟨wB.heap.size,0,none⟩) 1 1) [⟨2,secN 2⟩]):=
  SE.lit1 (S:=shSd) (w:=wB) (vs:=[.int .i64 2,.slice aB nB cB]) (x:=⟨2,secN 2⟩) (cs:=#[.int .i64 2,.slice aB nB cB]) 90 ⟨_,rfl,RB.out,Free.none _⟩ rfl
 obtain ⟨wC,hwC⟩:∃ x,wB.alloc (.cells #[.int .i64 2,.slice aB nB cB] 90)=x:=⟨_,rfl⟩;rw[hwC] at HLIT;have KC:Hid (Kp wA wC):=by unfold Hid;rw[← hwC];exact KB.out.alloc _
 have KWC:Hid (Kp w9 wC):=KA.out.trans KC.out;obtain ⟨c0,c2,c3,c4⟩:=HSC.out wC KC.out;go_wp2_with fail;try rw[hwC]
 clear hwC;refine (HTK.out wC _ _ _ _ (T9.out.kp KWC.out) HLIT.out (PP.out.kp KWC.out) (HTAB.out.kp (K9.out.trans KWC.out))).mono ?_;rintro _ wD ⟨⟨vD,rfl,hmv⟩,kD⟩;obtain ⟨mt,mo,mx,my,ml,rfl,hmi⟩:=hmv;obtain ⟨at2,nt2,ct2,rfl⟩:=hmi.tree.sl;obtain ⟨ao2,no2,co2,rfl⟩:=SE.sl hmi.own;obtain ⟨ax2,nx2,cx2,rfl⟩:=aac hmi.path.pub;obtain ⟨ay2,ny2,cy2,rfl⟩:=SE.sl hmi.path.step;obtain ⟨al2,cl2,rfl,_,_⟩:=hmi.last.shape;obtain ⟨g1,g2,g3,g4⟩:=HL.out.2.2.2.2;have hlt2:TD.last.length=32:=by rw[g3];exact HL.out.2.2.1
 have q1:=hmi.tree;have q2:=hmi.last;have q3:=hmi.path;rw[g2] at q1;rw[hlt2] at q2;rw[g3] at q2;rw[g4] at q3;rw[hlt2];have Q1:=Lib.hid q1;have Q2:=Lib.hid q2;have Q3:=Lib.hid q3;have KD:=Lib.hid (KC.out.trans kD);have LD:=Lib.hid (HLIT.out.kp kD);clear q1 q2 q3 g1 g2 g3 g4 hmi kD c0 c2 c3 c4 hlt2 HLIT KB RB HTK KWC KC;obtain ⟨wE,hwE⟩:∃ x,wD.alloc (.cells #[.slice at2 nt2 ct2,.slice ao2 no2 co2,.slice ax2 nx2 cx2,.slice ay2 ny2 cy2,.slice al2 32 cl2] 47)=x:=⟨_,rfl⟩;have HBE:Hid (Bx wE wD.heap.size 47 #[.slice at2 nt2 ct2,.slice ao2 no2 co2,.slice ax2 nx2 cx2,.slice ay2 ny2 cy2,.slice al2 32 cl2]):=by unfold Hid;rw[← hwE];exact Bx.new wD _ _
 have KE:Hid (Kp wD wE):=by unfold Hid;rw[← hwE];exact (Kp.refl _).alloc _
 have HSE:Hid (∀ W,Kp wE W→(W.cell? ⟨w9.heap.size,0,none⟩=some (.slice at' nt ct)∧W.cell? ⟨w9.heap.size,2,none⟩=some (.slice ax nx cx)∧W.cell? ⟨w9.heap.size,3,none⟩=some (.slice (some ⟨gs,os,none⟩) 1 cy)∧W.cell? ⟨w9.heap.size,4,none⟩=some (.slice al 32 cl))∧W.cell? ⟨wD.heap.size,0,none⟩=some (.slice at2 nt2 ct2)∧W.cell? ⟨wD.heap.size,2,none⟩=some (.slice ax2 nx2 cx2)∧W.cell? ⟨wD.heap.size,3,none⟩=some (.slice ay2 ny2 cy2)∧W.cell? ⟨wD.heap.size,4,none⟩=some (.slice al2 32 cl2)):=fun W hW=>⟨HSC.out W (KD.out.trans (KE.out.trans hW)),(HBE.out.kp hW).cell 0,(HBE.out.kp hW).cell 2,(HBE.out.kp hW).cell 3,(HBE.out.kp hW).cell 4⟩
 have KAE:=Lib.hid (KA.out.trans (KD.out.trans KE.out));have TE:=Lib.hid (T9.out.kp KAE.out);have KWE:=Lib.hid (K9.out.trans KAE.out);have LE:=Lib.hid (LD.out.kp KE.out);have M1:=Lib.hid (MI.out.tree.kp KAE.out);have M2:=Lib.hid (MI.out.last.kp KAE.out);have M3:=Lib.hid (PP.out.kp KAE.out);have P1:=Lib.hid (Q1.out.kp KE.out);have P2:=Lib.hid (Q2.out.kp KE.out);have P3:=Lib.hid (Q3.out.kp KE.out);clear MI PP T9 LD HBA HBE KD Q1 Q2 Q3 HSC;go_wp2_with fail;try rw[hwE]
 clear hwE;refine (HND.out wE _ TE.out (HTAB.out.kp KWE.out)).mono ?_;rintro _ wF ⟨⟨vF,rfl,sF⟩,kF⟩;obtain ⟨aF,nF,cF,rfl⟩:=sF.sl;have RF:=Lib.hid sF.ri;have KF:=Lib.hid kF;obtain ⟨⟨c0,c2,c3,c4⟩,e0,e2,e3,e4⟩:=HSE.out wF kF;clear sF kF HND;go_wp2_with fail;refine (HSA.out wF _ _ (M1.out.kp KF.out) (P1.out.kp KF.out)).mono ?_;rintro _ wG ⟨rfl,kG⟩;have KG:=Lib.hid (KF.out.trans kG);have RG:=Lib.hid (RI.kp RF.out kG);clear c0 c2 c3 c4 e0 e2 e3 e4 kG RF KF HSA;obtain ⟨⟨c0,c2,c3,c4⟩,e0,e2,e3,e4⟩:=HSE.out wG KG.out;go_wp2_with fail;refine (HSM.out wG _ _ _ (M2.out.kp KG.out) (P2.out.kp KG.out)).mono ?_;rintro _ _ ⟨rfl,rfl⟩;have HLI:Hid (RI (wG.alloc (.cells #[.int .i64 1] 3)) (.slice (some ⟨wG.heap.size,0,none⟩) 1 1) [1]):=(ON.lit1 wG 3 1).ri;obtain ⟨wH,hwH⟩:∃ x,wG.alloc (.cells #[.int .i64 1] 3)=x:=⟨_,rfl⟩;rw[hwH] at HLI;have KH0:Hid (Kp wG wH):=by unfold Hid;rw[← hwH];exact (Kp.refl _).alloc _
 have KH:=Lib.hid (KG.out.trans KH0.out);go_wp2_with fail;try rw[hwH]
 clear hwH;refine (HIN.out wH _ _ (RI.kp RG.out KH0.out) HLI.out).mono ?_;rintro _ wI ⟨rfl,kI⟩;have KI:=Lib.hid (KH.out.trans kI);clear kI c0 c2 c3 c4 e0 e2 e3 e4 KG KH KH0 RG HLI HIN HSM;go_wp2_with fail;refine (HR1.out wI _ _ (TE.out.kp KI.out) (ar4.kp LE.out KI.out) (HTAB.out.kp (KWE.out.trans KI.out))).mono ?_;rintro _ wJ ⟨rfl,kJ⟩;have KJ:=Lib.hid (KI.out.trans kJ);clear kJ KI HR1;go_wp2_with fail;refine (HR0.out wJ _ _ (TE.out.kp KJ.out) (ar4.kp LE.out KJ.out) (HTAB.out.kp (KWE.out.trans KJ.out))).mono ?_;rintro _ wK ⟨rfl,kK⟩;have KK:=Lib.hid (KJ.out.trans kK);clear kK KJ HR0;obtain ⟨⟨c0,c2,c3,c4⟩,e0,e2,e3,e4⟩:=HSE.out wK KK.out;go_wp2_with fail;refine (HPS.out wK _ _ _ _ (M3.out.kp KK.out) (P3.out.kp KK.out)).mono ?_;rintro _ wL ⟨rfl,kL⟩;have KL:=Lib.hid (KK.out.trans kL);clear kL KK HPS c0 c2 c3 c4 e0 e2 e3 e4;obtain ⟨⟨c0,c2,c3,c4⟩,e0,e2,e3,e4⟩:=HSE.out wL KL.out;go_wp2_with fail;refine (HPN.out wL _ _ (M3.out.kp KL.out)).mono ?_;rintro _ wM ⟨rfl,kM⟩;have KM':=Lib.hid (KWE.out.trans (KL.out.trans kM));clear kM KL HPN c0 c2 c3 c4 e0 e2 e3 e4;go_wp2_with fail;go_ret;exact ⟨rfl,KM'.out⟩
end Go.Proofs.YthmhklmkgkfcpaaGreatDoor

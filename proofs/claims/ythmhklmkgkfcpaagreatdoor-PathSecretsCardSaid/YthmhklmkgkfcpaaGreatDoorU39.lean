import Derived.Test.YthmhklmkgkfcpaaGreatDoorU20
import Derived.Test.YthmhklmkgkfcpaaGreatDoorU30
import Derived.Test.YthmhklmkgkfcpaaGreatDoorU32
import Derived.Test.YthmhklmkgkfcpaaGreatDoorU36
import Derived.Test.YthmhklmkgkfcpaaGreatDoorU37
import Derived.Deep.RegionHeld3
set_option linter.unusedVariables false
set_option linter.unusedSimpArgs false
set_option maxHeartbeats 8000000
set_option maxRecDepth 100000
namespace Go.Proofs.YthmhklmkgkfcpaaGreatDoor
open Go.RowKit
theorem aol {l:List Nat}{k:Nat}(h:k<l.length):l.take (k+1)=l.take k++[l.getD k 0]:=by
 rw[List.take_succ_eq_append_getElem h,List.getD_eq_getElem?_getD,List.getElem?_eq_getElem h];rfl
theorem ae2 (arO:Value)(t:List Nod)(K:Nat)(i:Int)(w:World)(hu:NL w arO t)(hr:aab t K)(hTab:Tab w):
  Calls Tryz.prog 13 #[arO,.int .i64 i] w fun e w'=>(∃ v,e=.returned (.tuple #[v,.int .i64 (acE t i)])∧RN w' v (afF t K i))∧Kp w w':=by
 by_cases hth:aar t i
 ·obtain ⟨k,rfl,hk,hkind,hk2⟩:=ada hr hth
  have e1:acE t (k:Int)=0:=by unfold acE;rw[if_pos hth]
  have e2:afF t K (k:Int)=aaa t k K:=by unfold afF;rw[if_pos hth,Int.toNat_natCast]
  rw[e1,e2];have HWO:=Lib.hid (acr arO t K k w hu hr hkind hTab);have HSA:=Lib.hid (fun a (h:a<(ixS t k K).length)=>aey (t:=t) (i:=k) (m:=K) h);obtain ⟨hl1,hl2⟩:=aax t k K;have hl3:=abU t k K;have hle:=Nat.le_trans (ab3 t k K) hr.le;have HTA:=Lib.hid (fun a (h:a<(aaa t k K).length)=>aol h);have HTE:Hid ((aaa t k K).take (aaa t k K).length=aaa t k K):=List.take_length;obtain ⟨a,c,rfl,_,_⟩:=hu.shape;have HWS:Hid (∀ W arO n s,WIn W arO n s t K k→arM ahq W s (abX t k K)):=fun W arO n s h=>h.steps
  have HWN:Hid (∀ W arO n s,WIn W arO n s t K k→RN W n (aah K 0 k)):=fun W arO n s h=>h.nodes
  generalize (ixS t k K).length=M at *;rw[hl1] at HTA HTE;have HSL:=Lib.hid hl3;generalize aaa t k K=ST at *;generalize t.length=N at *;clear hu hr hth e1 e2 hkind hk2 hl2 hl3 hTab;go_enter Tryz.func13,Tryz.ntmps13;go_wp2_with fail;refine HWO.out.mono ?_;rintro _ w1 ⟨⟨nv,sv,rfl,hwi⟩,k1⟩;have rs:=HWS.out _ _ _ _ hwi;obtain ⟨as',cs',rfl,p1,s1⟩:=SE.shape rs;obtain ⟨an,nn,cn,rfl⟩:=(HWN.out _ _ _ _ hwi).sl;rw[HSL.out] at p1 rs ⊢;have RS:=Lib.hid rs;have K1:=Lib.hid k1;obtain ⟨w2,hw2⟩:∃ w2,w1.alloc (.cells #[.slice a N c,.int .i64 (k:Int),.slice an nn cn,.slice as' M cs'] 95)=w2:=⟨_,rfl⟩;have HB:Hid (Bx w2 w1.heap.size 95 #[.slice a N c,.int .i64 (k:Int),.slice an nn cn,.slice as' M cs']):=by unfold Hid;rw[← hw2];exact Bx.new w1 _ _
  have K2:Hid (Kp w1 w2):=by unfold Hid;rw[← hw2];exact (Kp.refl _).alloc _
  have HW2:=Lib.hid hw2;clear rs k1 hwi HWO HWS HWN hw2;go_wp2_with fail;rw[HW2.out];clear HW2;have e3:=HB.out.cell 3;simp only[List.getElem?_toArray,List.getElem?_cons_zero,List.getElem?_cons_succ] at e3;go_wp2_with fail;go_loopw[8,23] (fun x y wr=>∃ m:Nat,m≤M∧y=.int .i64 (m:Int)∧GZ shN 3 noB wr w2.heap.size x (ST.take m)∧Kp w2 wr) (fun _ y _=>(M - (intOf y).toNat))
  case atStart=>exact ⟨0,Nat.zero_le _,rfl,by rw[List.take_zero];exact GZ.nil _ _ _,Kp.refl _⟩
  case round=>
   obtain ⟨m,hm,rfl,hgz,hkp⟩:=hrel;have HI:=Lib.hid (And.intro hgz hkp);obtain ⟨ax,nx,cx,rfl⟩:=SE.sl hgz.gl;clear hgz hkp;by_cases hlt:m<M
   ·obtain ⟨gs,os,cs,q,e1,_,c0,c1,rq⟩:=arM.sp (i:=m) (arM.kp RS.out (K2.out.trans HI.out.2)) (by rw[HSL.out];exact hlt)
    rw[HSL.out] at e1;simp only[Value.slice.injEq] at e1;obtain ⟨rfl,_,rfl⟩:=e1;obtain ⟨aq,nq,cq,rfl⟩:=rq.sl;rw[HSA.out m hlt] at c0;dsimp only at c0
    have HTM:=Lib.hid (HTA.out m hlt);have i1:IntKind.i64.wrap ((m:Int)+1)=(m:Int)+1:=IntWalk.i64_in _ (by omega);have i3:(m:Int)<(M:Int):=by omega
    have hle2:(ST.take m).length+1≤1000000:=by rw[List.length_take];omega
    obtain ⟨X,hX⟩:∃ x,ST.getD m 0=x:=⟨_,rfl⟩;rw[hX] at c0 HTM;have HLIT:Hid (SE shN (fun g=>some g=(Value.slice ax nx cx).ownBlock∨noB g) ((wr.alloc (.cells #[.int .i64 (X:Int),.slice aq nq cq] 99)).alloc (.cells #[.int .i64 (X:Int)] 3)) (.slice (some ⟨wr.heap.size+1,0,none⟩) 1 1) [X]):=by
     have h9:SE shN (fun g=>some g=(Value.slice ax nx cx).ownBlock∨noB g) ((wr.alloc (.cells #[.int .i64 (X:Int),.slice aq nq cq] 99)).alloc (.cells #[.int .i64 (X:Int)] 3)) _ [X]:=SE.litZ (S:=shN) (w:=wr.alloc (.cells #[.int .i64 (X:Int),.slice aq nq cq] 99)) 3 rfl rfl;rwa [World.size_alloc] at h9
    clear rq hX HSA HTA;go_wp2_with (at_builtin;go_loud (refine aa5 (S:=shN) (Z:=noB) (o:=⟨some 31,_,_,_,_,_⟩) nK rfl _ _ rfl w2.heap.size _ (ST.take m) rfl (HI.out.1.kp (((Kp.refl _).alloc _).alloc _)) _ [X] rfl HLIT.out (by exact hle2) (Nat.le_trans HI.out.2.size (by simp;omega)) ?_;intro v5 w5 o5 g5 _;have k5:Hid (Kp w2 w5):=Kp.grown ((HI.out.2.alloc _).alloc _) g5 (fun k hk=>(HI.out.1.lt k hk).1)))
    rw[← HTM.out] at o5;go_roundw
    case rel=>exact ⟨m+1,by omega,by first | rfl | (rw[i1];rfl),o5,k5.out⟩
    case measure=>simp[intOf];omega
   ·obtain rfl:m=M:=by omega
    have h1:¬(m:Int)<(m:Int):=by omega
    have hgz:=HI.out.1;rw[HTE.out] at hgz;have HE:=Lib.hid (And.intro hgz.gl.rn (K1.out.trans (K2.out.trans HI.out.2)));clear hgz HSA HTA;go_wp2_with fail;go_ret2;exact ⟨⟨_,rfl,HE.out.1⟩,HE.out.2⟩
 ·have e1:acE t i=11:=by unfold acE;rw[if_neg hth]
  have e2:afF t K i=[]:=by unfold afF;rw[if_neg hth]
  rw[e1,e2];have HWO:=Lib.hid (ad7 arO t K i w hu hr hth);obtain ⟨a,c,rfl,_,_⟩:=hu.shape;generalize t.length=N at *;clear hu hr hth e1 e2 hTab;go_enter Tryz.func13,Tryz.ntmps13;go_wp2_with fail;refine HWO.out.mono ?_;rintro _ w1 ⟨rfl,k1⟩;have K1:=Lib.hid k1;clear k1 HWO;go_wp2_with fail;go_ret2;exact ⟨⟨_,rfl,RN.nil _⟩,K1.out.alloc _⟩
theorem ak3 (v:Value)(t:List Nod)(w:World)(hv:NL w v t)(h0:0<t.length)(hl:t.length≤1000000):
  Calls Tryz.prog 105 #[v] w fun e w'=>(∃ v',e=.returned v'∧NO 81 w' w.heap.size v' t)∧Kp w w':=by
 refine (aid v t w hv h0 hl).mono ?_;rintro e w' ⟨⟨v',us,rfl,r1,r2,r3⟩,k1⟩;have hge:∀ g,v'.ownBlock=some g→w.heap.size≤g:=fun g hg=>(World.ownsRow.lt r1 g hg).1
 refine ⟨⟨v',rfl,us,r1,r2,fun i hi=>?_⟩,k1⟩;obtain ⟨p,arO,h,a1,a2⟩:=r3 i hi;exact ⟨p,arO,h,a1,a2.kp k1,a2.pub.apart hge,a2.un.apart hge,a2.hash.apart hge⟩
theorem afS (arO n s x y:Value)(t:List Nod)(K i:Nat)(p:Pa)(w:World)(hu:WIn w arO n s t K i)(hr:aab t K)(hT:aaZ t K)(hkind:(ats t (2*i)).kind=1)(hp:PIn w x y p)(h32:p.pub.length=32)
  (hs:p.step.length=(ixS t i K).length) (hs32:∀ a,a<(aaa t i K).length→(stAt p.step a).pub.length=32) (hTab:Tab w):
  Calls Tryz.prog 60 #[.agg #[arO,.int .i64 (i:Int),n,s],.agg #[x,y]] w fun e w'=>(∃ r,e=.returned r∧NL w' r (layP t (i:Int) (aaa t i K) p))∧Kp w w':=by
 obtain ⟨z1,z2,z3⟩:=hr.small;have hp2:=acc hr.le;have hth:=(hr.there_iff i).2 hkind;have hlt2:=aab.lt_of (t:=t) (x:=2*i) (by rw[hkind];decide);have hi:i<2 ^ K:=by omega
 have hE:updE t (i:Int) p.pub=0:=by unfold updE;rw[if_pos h32,if_pos hth]
 have hV:updV t (i:Int) p.pub=updT t i p.pub:=by unfold updV;rw[if_pos hE,Int.toNat_natCast]
 have HCN:=Lib.hid (fun W (hW:Kp w W)=>ak3 arO t W (hu.tree.kp hW) (by omega) (by omega));have HLD:=Lib.hid (fun W (hW:Kp w W) (v:Value) (hv:NL W v (setS p.step 0 (aaa t i K) (updT t i p.pub)))=>aj3 v _ K (i:Int) W (aom hr hT hkind h32 hs32) (amI hr hkind h32 hs32) hv (by omega) (hTab.kp hW));have HF:Hid (layV (setS p.step 0 (aaa t i K) (updT t i p.pub)) (i:Int)=layP t (i:Int) (aaa t i K) p):=by unfold Hid layP;rw[hV]
 have hUL:(updT t i p.pub).length=t.length:=aab.updLen i p.pub;have HSA:Hid (∀ j,j<(aaa t i K).length→setS p.step 0 ((aaa t i K).take (j+1)) (updT t i p.pub)=(setS p.step 0 ((aaa t i K).take j) (updT t i p.pub)).set ((aaa t i K).getD j 0) ⟨2,0,(stAt p.step j).pub,[],[]⟩):=fun j hj=>aqS _ _ _ hj
 have HSL:Hid (∀ j,(setS p.step 0 ((aaa t i K).take j) (updT t i p.pub)).length=t.length):=fun j=>(aeT _ _ _ _).trans hUL
 have HXL:Hid (∀ j,j<(aaa t i K).length→(aaa t i K).getD j 0<t.length):=fun j hj=>by
  have hm:(aaa t i K).getD j 0∈aaa t i K:=by rw[List.getD_eq_getElem?_getD,List.getElem?_eq_getElem hj];exact List.getElem_mem hj
  rw[hr.len];exact aby hi (aay hm)
 have HS0:Hid (setS p.step 0 ((aaa t i K).take 0) (updT t i p.pub)=updT t i p.pub):=rfl;have HSE:Hid (setS p.step 0 ((aaa t i K).take (aaa t i K).length) (updT t i p.pub)=setS p.step 0 (aaa t i K) (updT t i p.pub)):=by unfold Hid;rw[List.take_length]
 have HCA:Hid (∀ j,j<(aah K 0 i).length→clrS ((aah K 0 i).take (j+1)) (t.set (2*i) (aag (ats t (2*i)).name p.pub))=(clrS ((aah K 0 i).take j) (t.set (2*i) (aag (ats t (2*i)).name p.pub))).set ((aah K 0 i).getD j 0) aan):=fun j hj=>aop hj _
 have HCLn:Hid (∀ j,(clrS ((aah K 0 i).take j) (t.set (2*i) (aag (ats t (2*i)).name p.pub))).length=t.length):=fun j=>by rw[aiY,List.length_set]
 have HPX:Hid (∀ j,j<(aah K 0 i).length→(aah K 0 i).getD j 0<t.length):=fun j hj=>by
  have hm:(aah K 0 i).getD j 0∈aah K 0 i:=by rw[List.getD_eq_getElem?_getD,List.getElem?_eq_getElem hj];exact List.getElem_mem hj
  rw[hr.len];exact aby hi hm
 have HCE:Hid (clrS ((aah K 0 i).take (aah K 0 i).length) (t.set (2*i) (aag (ats t (2*i)).name p.pub))=updT t i p.pub):=by unfold Hid;rw[List.take_length];exact apF hr hi _
 have HC0:Hid (clrS ((aah K 0 i).take 0) (t.set (2*i) (aag (ats t (2*i)).name p.pub))=t.set (2*i) (aag (ats t (2*i)).name p.pub)):=rfl;have HSAT:=Lib.hid (fun a (h:a<(ixS t i K).length)=>aey (t:=t) (i:=i) (m:=K) h);have hpn:=ae1 K i;have hsl:=(aax t i K).1;have hst:=abU t i K;have i2:IntKind.i64.wrap (2*(i:Int))=((2*i:Nat):Int):=by rw[IntWalk.i64_in _ (by omega)];omega
 generalize layP t (i:Int) (aaa t i K) p=OUT at *;generalize setS p.step 0 (aaa t i K) (updT t i p.pub)=TE at *;generalize hTS:(fun j=>setS p.step 0 ((aaa t i K).take j) (updT t i p.pub))=TS at *;have hTS':∀ j,setS p.step 0 ((aaa t i K).take j) (updT t i p.pub)=TS j:=fun j=>by rw[← hTS]
 simp only[hTS'] at HSA HSL HS0 HSE;generalize hTC:(fun j=>clrS ((aah K 0 i).take j) (t.set (2*i) (aag (ats t (2*i)).name p.pub)))=TC at *;have hTC':∀ j,clrS ((aah K 0 i).take j) (t.set (2*i) (aag (ats t (2*i)).name p.pub))=TC j:=fun j=>by rw[← hTC]
 simp only[hTC'] at HCA HCLn HCE HC0;generalize layE TE (i:Int)=LE at *;have HP:=Lib.hid hp.pub;have HST:=Lib.hid hp.step;have HWS:=Lib.hid hu.steps;have HWN:=Lib.hid hu.nodes;have HU:=Lib.hid hu.tree;obtain ⟨au,cu,rfl,q1,q2⟩:=hu.tree.shape;obtain ⟨an,cn,rfl,q3,q4⟩:=hu.nodes.shape;obtain ⟨as',cs',rfl,q5,q6⟩:=SE.shape hu.steps;obtain ⟨ap,cp,rfl,q7,q8⟩:=hp.pub.shape;obtain ⟨a6,c6,rfl,q9,q10⟩:=SE.shape hp.step;rw[hst] at q5 HWS ⊢;rw[hs] at q9 HST ⊢;rw[hsl] at HSA HXL HSE;rw[hpn] at HCA HPX HCE HWN q3 ⊢;rw[h32] at HP ⊢;have hMK:(ixS t i K).length≤10:=Nat.le_trans (ab3 t i K) hr.le;have hK10:=hr.le;obtain ⟨NM,hNM⟩:∃ x,(ats t (2*i)).name=x:=⟨_,rfl⟩;rw[hNM] at HC0;generalize updT t i p.pub=UT at *;generalize aaa t i K=ST at *;generalize aah K 0 i=PT at *;generalize (ixS t i K).length=M at *;generalize hN:t.length=N at *;generalize hI2:2*i=I2 at *;have HNM:=Lib.hid hNM;have HNT:=Lib.hid hN;have HLS:=Lib.hid hst;have HLP:=Lib.hid hs;unfold maxLen at q2 q4 q6 q10;clear hu hr hT hkind hp hs hs32 hth hi hE hV hTS hTS' hTC hTC' hN hNM hI2 z2 z3 hp2 h32 hTab hpn hsl hst q5 q7;go_enter Tryz.func60,Tryz.ntmps60;go_wp2_with fail;obtain ⟨w1,hw1⟩:∃ w1,(w.alloc (.cells #[.slice au N cu,.int .i64 (i:Int),.slice an K cn,.slice as' M cs'] 95)).alloc (.cells #[.slice ap 32 cp,.slice a6 M c6] 27)=w1:=⟨_,rfl⟩;have HB:Hid (Bx w1 w.heap.size 95 #[.slice au N cu,.int .i64 (i:Int),.slice an K cn,.slice as' M cs']):=by unfold Hid;rw[← hw1];exact (Bx.new w _ _).kp ((Kp.refl _).alloc _)
 have HBP:Hid (Bx w1 (w.heap.size+1) 27 #[.slice ap 32 cp,.slice a6 M c6]):=by
  unfold Hid;have:=Bx.new (w.alloc (.cells #[.slice au N cu,.int .i64 (i:Int),.slice an K cn,.slice as' M cs'] 95)) 27 #[.slice ap 32 cp,.slice a6 M c6];rw[World.size_alloc] at this;rw[← hw1];exact this
 have K1:Hid (Kp w w1):=by unfold Hid;rw[← hw1];exact ((Kp.refl _).alloc _).alloc _
 rw[hw1];clear hw1;refine (HCN.out w1 K1.out).mono ?_;rintro _ w2 ⟨⟨v2,rfl,o2⟩,k2⟩;obtain ⟨gb,cb,rfl,b1,b2,b3,b4,hcn⟩:=o2.form (by rw[HNT.out];omega);rw[HNT.out] at o2 b3 ⊢;have hI2:I2<t.length:=by rw[HNT.out];exact hlt2
 obtain ⟨p9,u9,h9,hn9,_⟩:=hcn I2 hI2;obtain ⟨j0,j1,j2,j3,j4⟩:_∧_∧_∧_∧_:=⟨hn9.kind,hn9.name,hn9.pubC,hn9.unC,hn9.hashC⟩;rw[HNM.out] at j1;have hth:=o2.there I2 hI2;have f0:=(hth 0 (by omega)).2;have f1:=(hth 1 (by omega)).2;have f2:=(hth 2 (by omega)).2;have f3:=(hth 3 (by omega)).2;have f4:=(hth 4 (by omega)).2;rw[Nat.add_zero] at f0;have HPW:=Lib.hid (HP.out.kp (K1.out.trans k2));have HGE:Hid (w1.heap.size≤gb∧gb<w2.heap.size):=⟨b1,b2⟩;have HAP:=Lib.hid (fun (v:Value) (l:List UInt8) (hv:Rd w v l)=>hv.apart (v:=.slice (some ⟨gb,0,none⟩) N cb) (fun g hg=>by cases hg;exact Nat.le_trans K1.out.size HGE.out.1));have hst:=o2.stored I2 hI2 (aag NM p.pub) (.slice ap 32 cp) (.slice none 0 0) (.slice none 0 0) ⟨HPW.out,RI.nil _,aaP _⟩ (HAP.out _ _ HP.out) (aap.nil _ _ _) (aap.nil _ _ _);rw[← HC0.out] at hst;have HST1:=Lib.hid hst;have d1:=(HB.out.kp k2).cell 1;have d2:=(HBP.out.kp k2).cell 0;simp only[List.getElem?_toArray,List.getElem?_cons_zero,List.getElem?_cons_succ] at d1 d2;have K2:=Lib.hid k2;have i4:(I2:Int)<(N:Int):=by omega
 clear hst o2 hth hn9 hcn k2 b1 b2 b4 HCN;go_wp2_with fail;go_region
 obtain ⟨w3,hw3⟩:∃ x,(((((w2.setCell ⟨gb,I2*5,none⟩ (.int .i64 1)).setCell ⟨gb,I2*5+1,none⟩ (.int .i64 NM)).setCell ⟨gb,I2*5+2,none⟩ (.slice ap 32 cp)).setCell ⟨gb,I2*5+3,none⟩ (.slice none 0 0)).setCell ⟨gb,I2*5+4,none⟩ (.slice none 0 0)).drew=x:=⟨_,rfl⟩;have HO3:Hid (NO 81 w3 w1.heap.size (.slice (some ⟨gb,0,none⟩) N cb) (TC 0)):=by
  have:=HST1.out.1.kp (Kp.refl _).drew;unfold Hid;rw[← hw3];exact this
 have K3:Hid (Kp w1 w3):=by
  have:=(Kp.grown (v:=.slice (some ⟨gb,0,none⟩) N cb) K2.out HST1.out.2 (fun k hk=>by cases hk;exact HGE.out.1)).drew;unfold Hid;rw[← hw3];exact this
 rw[hw3];clear hw3 d1 d2 j0 j1 j2 j3 j4 f0 f1 f2 f3 f4 HST1 HC0;have d3:=(HB.out.kp K3.out).cell 2;simp only[List.getElem?_toArray,List.getElem?_cons_zero,List.getElem?_cons_succ] at d3;go_wp2_with fail;go_loopw[31] (fun z wr=>∃ j:Nat,j≤K∧z=.int .i64 (j:Int)∧NO 81 wr w1.heap.size (.slice (some ⟨gb,0,none⟩) N cb) (TC j)∧Kp w1 wr) (fun z _=>(K - (intOf z).toNat))
 case atStart=>exact ⟨0,Nat.zero_le _,rfl,HO3.out,K3.out⟩
 case round=>
  obtain ⟨j,hj,rfl,ho,hkp⟩:=hrel;have HO:=Lib.hid (And.intro ho hkp);clear ho hkp d3;by_cases hlt:j<K
  ·obtain ⟨gl,ol,rfl,_,hcl⟩:=(HWN.out.kp (K1.out.trans HO.out.2)).at j hlt
   have d0:=hcl j hlt;have HX:=Lib.hid (HPX.out j hlt);have HTJ:=Lib.hid (HCA.out j hlt);have HLJ:=Lib.hid (HCLn.out j);have i1:IntKind.i64.wrap ((j:Int)+1)=(j:Int)+1:=IntWalk.i64_in _ (by omega);have i3:(j:Int)<(K:Int):=by omega
   generalize PT.getD j 0=X at *;have i5:(X:Int)<(N:Int):=by have:=HX.out;omega
   have HXT:Hid (X<(TC j).length):=by unfold Hid;rw[HLJ.out];exact HX.out
   clear hcl HLD HSA HSL HXL HSE HS0 HCA HCLn HPX HCE HSAT HWS HST HBP HU;go_wp2_with (refine abY acF rfl rfl (.tmp 38) (.tmp 37) rfl w1.heap.size gb cb N (TC j) HO.out.1 X HXT.out aan (.slice none 0 0) (.slice none 0 0) (.slice none 0 0) rfl rfl ⟨aaP _,RI.nil _,aaP _⟩ (aap.nil _ _ _) (aap.nil _ _ _) (aap.nil _ _ _) ?_;intro w5 o5 g5;have k5:Hid (Kp w1 w5):=Kp.grown (v:=.slice (some ⟨gb,0,none⟩) N cb) HO.out.2 g5 (fun k hk=>by cases hk;exact HGE.out.1))
   rw[← HTJ.out] at o5;go_roundw
   case rel=>exact ⟨j+1,by omega,by first | rfl | (rw[i1];rfl),o5,k5.out⟩
   case measure=>simp[intOf];omega
  ·obtain rfl:j=K:=by omega
   have h1:¬(j:Int)<(j:Int):=by omega
   have HOE:Hid (NO 81 wr w1.heap.size (.slice (some ⟨gb,0,none⟩) N cb) (TS 0)∧Kp w1 wr):=by
    have:=HO.out;rw[HCE.out,← HS0.out] at this;exact this
   obtain ⟨w6,hw6⟩:∃ x:World,x=wr:=⟨_,rfl⟩;rw[← hw6] at HOE;have d3:=(HB.out.kp HOE.out.2).cell 3;simp only[List.getElem?_toArray,List.getElem?_cons_zero,List.getElem?_cons_succ] at d3;rw[← hw6];clear HO hw6 HCA HCLn HPX HCE;go_wp2_with fail;go_loopw[43] (fun z wr=>∃ j:Nat,j≤M∧z=.int .i64 (j:Int)∧NO 81 wr w1.heap.size (.slice (some ⟨gb,0,none⟩) N cb) (TS j)∧Kp w1 wr) (fun z _=>(M - (intOf z).toNat))
   case atStart=>exact ⟨0,Nat.zero_le _,rfl,HOE.out.1,HOE.out.2⟩
   case round=>
    obtain ⟨m,hm,rfl,ho,hkp⟩:=hrel;have HO:=Lib.hid (And.intro ho hkp);clear ho hkp d3;by_cases hlt:m<M
    ·obtain ⟨gs,os,cs9,q,e1,_,c0,c1,rq⟩:=arM.sp (i:=m) (arM.kp HWS.out (K1.out.trans HO.out.2)) (by rw[HLS.out];exact hlt)
     rw[HLS.out] at e1;simp only[Value.slice.injEq] at e1;obtain ⟨rfl,_,rfl⟩:=e1;obtain ⟨aq,nq,cq,rfl⟩:=rq.sl;rw[HSAT.out m hlt] at c0;dsimp only at c0
     have HX:=Lib.hid (HXL.out m hlt);have HTJ:=Lib.hid (HSA.out m hlt);have HLJ:=Lib.hid (HSL.out m);have i1:IntKind.i64.wrap ((m:Int)+1)=(m:Int)+1:=IntWalk.i64_in _ (by omega);have i3:(m:Int)<(M:Int):=by omega
     obtain ⟨gp,op,cp9,pv,qv,e2,_,hnd⟩:=TL11.nodeK (i:=m) HST.out (by rw[HLP.out];exact hlt);rw[HLP.out] at e2;simp only[Value.slice.injEq] at e2;obtain ⟨rfl,_,rfl⟩:=e2;generalize ST.getD m 0=X at *;obtain ⟨WQ,hWQ⟩:∃ x,wr.alloc (.cells #[.int .i64 (X:Int),.slice aq nq cq] 99)=x:=⟨_,rfl⟩;have KQ:Hid (Kp wr WQ):=by unfold Hid;rw[← hWQ];exact (Kp.refl _).alloc _
     have dq0:WQ.cell? ⟨wr.heap.size,0,none⟩=some (.int .i64 (X:Int)):=by
      have:=(Bx.new wr 99 #[.int .i64 (X:Int),.slice aq nq cq]).cell 0;rw[← hWQ];simp
     have dp:=(HBP.out.kp (HO.out.2.trans KQ.out)).cell 1;simp only[List.getElem?_toArray,List.getElem?_cons_zero,List.getElem?_cons_succ] at dp;have HPV:=Lib.hid (hnd w (Kp.refl _)).2.2.1;have dv:=(hnd WQ ((K1.out.trans HO.out.2).trans KQ.out)).1;obtain ⟨a7,n7,c7,rfl⟩:=aac HPV.out;have HOQ:=Lib.hid (HO.out.1.kp KQ.out);obtain ⟨g9,c9,e9,_,_,_,_,hc9⟩:=HOQ.out.form (by rw[HLJ.out];omega);simp only[Value.slice.injEq,Option.some.injEq,Addr.mk.injEq,and_true] at e9;obtain ⟨rfl,_,rfl⟩:=e9;have i4:(X:Int)<(N:Int):=by have:=HX.out;omega
     have hXL:X<(TS m).length:=by rw[HLJ.out];exact HX.out
     obtain ⟨p9,u9,h9,hn9,_⟩:=hc9 X hXL;obtain ⟨j0,j1,j2,j3,j4⟩:_∧_∧_∧_∧_:=⟨hn9.kind,hn9.name,hn9.pubC,hn9.unC,hn9.hashC⟩;have hth:=HOQ.out.there X hXL;have f0:=(hth 0 (by omega)).2;have f1:=(hth 1 (by omega)).2;have f2:=(hth 2 (by omega)).2;have f3:=(hth 3 (by omega)).2;have f4:=(hth 4 (by omega)).2;rw[Nat.add_zero] at f0;have hst:=HOQ.out.stored X hXL ⟨2,0,(stAt p.step m).pub,[],[]⟩ (.slice a7 n7 c7) (.slice none 0 0) (.slice none 0 0) ⟨HPV.out.kp ((K1.out.trans HO.out.2).trans KQ.out),RI.nil _,aaP _⟩ (HAP.out _ _ HPV.out) (aap.nil _ _ _) (aap.nil _ _ _);rw[← HTJ.out] at hst;have HSTD:=Lib.hid hst;have KR:=Lib.hid (HO.out.2.trans KQ.out);clear hst hnd hc9 hn9 hth rq HLD HSA HSL HXL HSE HSAT HWS HST HAP;go_wp2_with fail;try rw[hWQ]
     go_region
     clear j0 j1 j2 j3 j4 f0 f1 f2 f3 f4 dq0 dp dv c0 c1;go_wp2_with fail;have hfin:=HSTD.out;go_roundw
     case rel=>exact ⟨m+1,by omega,by go_num,hfin.1.kp (Kp.refl _).drew,(Kp.grown (v:=.slice (some ⟨gb,0,none⟩) N cb) KR.out hfin.2 (fun k hk=>by cases hk;exact HGE.out.1)).drew⟩
     case measure=>simp[intOf];omega
    ·obtain rfl:m=M:=by omega
     have h1:¬(m:Int)<(m:Int):=by omega
     have HE:=Lib.hid (And.intro (HSE.out▸HO.out.1) HO.out.2);have d4:=(HB.out.kp HO.out.2).cell 1;simp only[List.getElem?_toArray,List.getElem?_cons_zero,List.getElem?_cons_succ] at d4;clear HXL HSA HSL;go_wp2_with fail;refine (HLD.out wr (K1.out.trans HE.out.2) _ HE.out.1.nl).mono ?_;rintro _ w8 ⟨⟨r3,rfl,r4⟩,k3⟩;rw[HF.out] at r4;have R4:=Lib.hid (And.intro r4 ((K1.out.trans HE.out.2).trans k3));obtain ⟨a8,n8,c8,rfl⟩:=r4.sl;clear r4 k3;go_wp2_with fail;go_ret;exact ⟨⟨_,rfl,R4.out.1⟩,R4.out.2⟩
theorem aj9 (arO n s x y:Value)(t:List Nod)(K i:Nat)(p:Pa)(w:World)(hu:WIn w arO n s t K i)(hp:PIn w x y p):
  Calls Tryz.prog 68 #[.agg #[arO,.int .i64 (i:Int),n,s],.agg #[x,y]] w fun e w'=>aav e (aeu (whoN t i K) p)∧Kp w w':=by
 have HSS:=Lib.hid hu.steps;have HS:=Lib.hid hp.step;obtain ⟨hl1,hl2⟩:=aax t i K;have hl3:=abU t i K;have HSA:=Lib.hid (fun a (h:a<(ixS t i K).length)=>aey (t:=t) (i:=i) (m:=K) h);obtain ⟨au,nu,cu,rfl⟩:=hu.tree.sl;obtain ⟨an,nn,cn,rfl⟩:=hu.nodes.sl;obtain ⟨as',cs',rfl,q5,q6⟩:=SE.shape hu.steps;obtain ⟨ap,cp,rfl,q1,q2⟩:=hp.pub.shape;obtain ⟨a6,c6,rfl,q3,q4⟩:=SE.shape hp.step;unfold maxLen at q6;generalize whoN t i K=who at *;have HN1:Hid (p.step.length≠who.length→¬aeu who p):=fun h e=>h e.1
 have HN2:Hid (p.pub.length≠32→¬aeu who p):=fun h e=>h e.2.1
 have HN3:Hid (∀ k,k<who.length→(stAt p.step k).fors.length≠(nsAt who k).length→¬aeu who p):=fun k hk h e=>h (e.2.2 k hk).1
 have HN4:Hid (∀ k,k<who.length→(stAt p.step k).pub.length≠32→¬aeu who p):=fun k hk h e=>h (e.2.2 k hk).2
 have HY:Hid (p.step.length=who.length→p.pub.length=32→(∀ k,k<who.length→(stAt p.step k).fors.length=(nsAt who k).length∧(stAt p.step k).pub.length=32)→aeu who p):=fun h1 h2 h3=>⟨h1,h2,h3⟩
 generalize aeu who p=P at *;generalize p.pub.length=L at *;generalize p.step=A at *;obtain ⟨M,hM⟩:∃ N,A.length=N:=⟨_,rfl⟩;generalize (ixS t i K).length=N at *;have HM:=Lib.hid hM;have HSL:=Lib.hid hl3;rw[hl3] at q5 HSS ⊢;rw[hl2] at HN1 HN3 HN4 HY;rw[hM] at q3 HN1 HY HS ⊢;generalize abX t i K=SP at *;generalize aaa t i K=ST at *;clear hu hp hM hl1 hl2 hl3;by_cases h32:L=32
 ·subst h32
  by_cases hNM:M=N
  ·subst hNM
   have HY1:=Lib.hid (HY.out rfl rfl);clear HN1 HN2 HY;go_enter Tryz.func68,Tryz.ntmps68;go_wp2_with fail;obtain ⟨w1,hw1⟩:∃ w1,(w.alloc (.cells #[.slice au nu cu,.int .i64 (i:Int),.slice an nn cn,.slice as' M cs'] 95)).alloc (.cells #[.slice ap 32 cp,.slice a6 M c6] 27)=w1:=⟨_,rfl⟩;have HB:Hid (Bx w1 w.heap.size 95 #[.slice au nu cu,.int .i64 (i:Int),.slice an nn cn,.slice as' M cs']):=by unfold Hid;rw[← hw1];exact (Bx.new w _ _).kp ((Kp.refl _).alloc _)
   have K1:Hid (Kp w w1):=by unfold Hid;rw[← hw1];exact ((Kp.refl _).alloc _).alloc _
   rw[hw1];clear hw1;go_loopw[23] (fun i wr=>∃ k:Nat,k≤M∧i=.int .i64 (k:Int)∧(∀ k',k'<k→(stAt A k').fors.length=(nsAt who k').length∧(stAt A k').pub.length=32)∧Kp w1 wr) (fun i _=>(M - (intOf i).toNat))
   case atStart=>exact ⟨0,Nat.zero_le _,rfl,fun t h=>by omega,Kp.refl _⟩
   case round=>
    obtain ⟨k,hk,rfl,hpre,hkp⟩:=hrel;have HPR:=Lib.hid hpre;have KK:=Lib.hid hkp;clear hpre hkp;by_cases hlt:k<M
    ·obtain ⟨gs,os,cs,pv,qv,e1,_,hnd⟩:=TL11.nodeK (i:=k) HS.out (by rw[HM.out];exact hlt)
     obtain ⟨c0,c1,rp,rf⟩:=hnd wr (K1.out.trans KK.out);obtain ⟨gu,ou,cu',qu,e2,_,c3,c2,rw⟩:=arM.sp (i:=k) (arM.kp HSS.out (K1.out.trans KK.out)) (by rw[HSL.out];exact hlt);rw[HM.out] at e1;rw[HSL.out] at e2;simp only[Value.slice.injEq] at e1 e2;obtain ⟨rfl,_,rfl⟩:=e1;obtain ⟨rfl,_,rfl⟩:=e2;rw[HSA.out k hlt] at rw;have rw':RI wr qu (nsAt who k):=rw;have i1:IntKind.i64.wrap ((k:Int)+1)=(k:Int)+1:=IntWalk.i64_in _ (by omega);have i3:(k:Int)<(M:Int):=by omega
     obtain ⟨a7,b7,rfl,r1,r2⟩:=rp.shape;obtain ⟨a8,b8,rfl,r3,r4⟩:=SE.shape rf;obtain ⟨a9,b9,rfl,r5,r6⟩:=rw'.shape;have H3:=Lib.hid (HN3.out k hlt);have H4:=Lib.hid (HN4.out k hlt);have HPR2:Hid ((stAt A k).fors.length=(nsAt who k).length→(stAt A k).pub.length=32→∀ k',k'<k+1→(stAt A k').fors.length=(nsAt who k').length∧(stAt A k').pub.length=32):=fun h1 h2 k' hk'=>by
      rcases Nat.lt_or_eq_of_le (Nat.lt_succ_iff.1 hk') with h6 | h6
      ·exact HPR.out k' h6
      ·rw[h6];exact ⟨h1,h2⟩
     generalize (stAt A k).fors.length=FN at *;generalize (nsAt who k).length=WN at *;generalize (stAt A k).pub.length=PL at *;clear rf rp rw rw' HN3 HN4 HPR r1 r3 r5 hnd HSA;go_wp2_with fail;obtain ⟨wb,hwb⟩:∃ x,wr.alloc (.cells #[.slice a7 PL b7,.slice a8 FN b8] 74)=x:=⟨_,rfl⟩;have hbb:Bx wb wr.heap.size 74 #[.slice a7 PL b7,.slice a8 FN b8]:=by rw[← hwb];exact Bx.new wr _ _
     have KB:Hid (Kp wr wb):=by unfold Hid;rw[← hwb];exact (Kp.refl _).alloc _
     rw[hwb];have e4:=hbb.cell 0;have e5:=hbb.cell 1;have e6:=(HB.out.kp (KK.out.trans KB.out)).cell 3;have e7:=KB.out.cell c2;simp only[List.getElem?_toArray,List.getElem?_cons_zero,List.getElem?_cons_succ] at e4 e5 e6;clear hbb hwb c0 c1 c2 c3;by_cases hPL:PL=32
     ·subst hPL
      by_cases hF:FN=WN
      ·subst hF
       have HX:=Lib.hid (HPR2.out rfl rfl);clear HPR2 H3 H4;go_region
       go_wp2_with fail;go_roundw
       case rel=>exact ⟨k+1,by omega,by first | rfl | (rw[i1];rfl),HX.out,(KK.out.trans KB.out).drew⟩
       case measure=>simp[intOf];omega
      ·have HX:=Lib.hid (H3.out hF)
       have hne:((FN:Int)==(WN:Int))=false:=beq_eq_false_iff_ne.2 (by omega);have hne2:((FN:Int) != (WN:Int))=true:=bne_iff_ne.2 (by omega);have hne3:¬(FN:Int)=(WN:Int):=by omega
       clear HPR2 H3 H4;go_region
       go_wp2_with fail;go_ret;exact ⟨aav.no HX.out,((K1.out.trans KK.out).trans KB.out).drew⟩
     ·have HX:=Lib.hid (H4.out hPL)
      have hne:((PL:Int)==32)=false:=beq_eq_false_iff_ne.2 (by omega);have hne2:((PL:Int) != 32)=true:=bne_iff_ne.2 (by omega);have hne3:¬(PL:Int)=32:=by omega
      clear HPR2 H3 H4 e5 e6 e7;refine wp_region_held_drew (S:=fun W=>W.cell? ⟨wr.heap.size,0,none⟩=some (.slice a7 PL b7)) (by kernel_rfl) (e4) (fun hHeld=>?_);refine wpAnyH_take (i:=0) (oi:=⟨some 28,_,_,_,_,_⟩) (v:=?_) rfl (by kernel_rfl) (by kernel_rfl) (by kernel_rfl) (fun _ _ _ h=>h) (Or.inl ⟨by kernel_rfl,?_⟩) (by assumption) ?_;rotate_left;focus ((intro w hSw;(try dsimp only at hSw);go_simp);(try with_reducible rfl);done)
      simp only[Act.put,List.setIfInBounds_toArray,List.set_cons_zero,List.set_cons_succ];refine wpAnyH_take (i:=1) (oi:=⟨some 29,_,_,_,_,_⟩) (v:=?_) rfl (by kernel_rfl) (by kernel_rfl) (by kernel_rfl) (fun _ _ _ h=>h) (Or.inl ⟨by kernel_rfl,?_⟩) (by assumption) ?_;rotate_left;focus ((intro w hSw;(try dsimp only at hSw);go_simp);(try with_reducible rfl);done)
      simp only[Act.put,List.setIfInBounds_toArray,List.set_cons_zero,List.set_cons_succ];refine wpAnyH_take (i:=2) (oi:=⟨some 30,_,_,_,_,_⟩) (v:=?_) rfl (by kernel_rfl) (by kernel_rfl) (by kernel_rfl) (fun _ _ _ h=>h) (Or.inl ⟨by kernel_rfl,?_⟩) (by assumption) ?_;rotate_left;focus ((intro w hSw;(try dsimp only at hSw);go_simp);(try with_reducible rfl);done)
      simp only[Act.put,List.setIfInBounds_toArray,List.set_cons_zero,List.set_cons_succ];refine wpAnyH_take (i:=3) (oi:=⟨some 31,_,_,_,_,_⟩) (v:=?_) rfl (by kernel_rfl) (by kernel_rfl) (by kernel_rfl) (fun _ _ _ h=>h) (Or.inl ⟨by kernel_rfl,?_⟩) (by assumption) ?_;rotate_left;focus ((intro w hSw;(try dsimp only at hSw);go_simp);(try with_reducible rfl);done)
      simp only[Act.put,List.setIfInBounds_toArray,List.set_cons_zero,List.set_cons_succ];refine wpAnyH_take (i:=4) (oi:=⟨some 32,_,_,_,_,_⟩) (v:=?_) rfl (by kernel_rfl) (by kernel_rfl) (by kernel_rfl) (fun _ _ _ h=>h) (Or.inl ⟨by kernel_rfl,?_⟩) (by assumption) ?_;rotate_left;focus ((intro w hSw;(try dsimp only at hSw);go_simp);(try with_reducible rfl);done)
      simp only[Act.put,List.setIfInBounds_toArray,List.set_cons_zero,List.set_cons_succ];refine wpAnyH_take (i:=5) (oi:=⟨some 33,_,_,_,_,_⟩) (v:=undef) rfl (by kernel_rfl) (by kernel_rfl) (by kernel_rfl) (fun _ _ _ h=>h) (Or.inr ⟨by kernel_rfl,rfl⟩) (by assumption) ?_;simp only[Act.put,List.setIfInBounds_toArray,List.set_cons_zero,List.set_cons_succ];refine wpAnyH_take (i:=6) (oi:=⟨some 34,_,_,_,_,_⟩) (v:=undef) rfl (by kernel_rfl) (by kernel_rfl) (by kernel_rfl) (fun _ _ _ h=>h) (Or.inr ⟨by kernel_rfl,rfl⟩) (by assumption) ?_;simp only[Act.put,List.setIfInBounds_toArray,List.set_cons_zero,List.set_cons_succ];refine wpAnyH_take (i:=7) (oi:=⟨some 35,_,_,_,_,_⟩) (v:=undef) rfl (by kernel_rfl) (by kernel_rfl) (by kernel_rfl) (fun _ _ _ h=>h) (Or.inr ⟨by kernel_rfl,rfl⟩) (by assumption) ?_;simp only[Act.put,List.setIfInBounds_toArray,List.set_cons_zero,List.set_cons_succ];refine wpAnyH_take (i:=8) (oi:=⟨some 36,_,_,_,_,_⟩) (v:=undef) rfl (by kernel_rfl) (by kernel_rfl) (by kernel_rfl) (fun _ _ _ h=>h) (Or.inr ⟨by kernel_rfl,rfl⟩) (by assumption) ?_;simp only[Act.put,List.setIfInBounds_toArray,List.set_cons_zero,List.set_cons_succ];refine wpAnyH_take (i:=9) (oi:=⟨some 37,_,_,_,_,_⟩) (v:=undef) rfl (by kernel_rfl) (by kernel_rfl) (by kernel_rfl) (fun _ _ _ h=>h) (Or.inr ⟨by kernel_rfl,rfl⟩) (by assumption) ?_;simp only[Act.put,List.setIfInBounds_toArray,List.set_cons_zero,List.set_cons_succ];refine wpAnyH_take (i:=10) (oi:=⟨some 38,_,_,_,_,_⟩) (v:=undef) rfl (by kernel_rfl) (by kernel_rfl) (by kernel_rfl) (fun _ _ _ h=>h) (Or.inr ⟨by kernel_rfl,rfl⟩) (by assumption) ?_;simp only[Act.put,List.setIfInBounds_toArray,List.set_cons_zero,List.set_cons_succ];refine wpAnyH_take (i:=11) (oi:=⟨some 39,_,_,_,_,_⟩) (v:=undef) rfl (by kernel_rfl) (by kernel_rfl) (by kernel_rfl) (fun _ _ _ h=>h) (Or.inr ⟨by kernel_rfl,rfl⟩) (by assumption) ?_;simp only[Act.put,List.setIfInBounds_toArray,List.set_cons_zero,List.set_cons_succ];refine wpAnyH_take (i:=12) (oi:=⟨some 40,_,_,_,_,_⟩) (v:=undef) rfl (by kernel_rfl) (by kernel_rfl) (by kernel_rfl) (fun _ _ _ h=>h) (Or.inr ⟨by kernel_rfl,rfl⟩) (by assumption) ?_;simp only[Act.put,List.setIfInBounds_toArray,List.set_cons_zero,List.set_cons_succ];refine wpAnyH_take (i:=13) (oi:=⟨some 41,_,_,_,_,_⟩) (v:=undef) rfl (by kernel_rfl) (by kernel_rfl) (by kernel_rfl) (fun _ _ _ h=>h) (Or.inr ⟨by kernel_rfl,rfl⟩) (by assumption) ?_;simp only[Act.put,List.setIfInBounds_toArray,List.set_cons_zero,List.set_cons_succ];refine wpAnyH_take (i:=14) (oi:=⟨some 42,_,_,_,_,_⟩) (v:=undef) rfl (by kernel_rfl) (by kernel_rfl) (by kernel_rfl) (fun _ _ _ h=>h) (Or.inr ⟨by kernel_rfl,rfl⟩) (by assumption) ?_;simp only[Act.put,List.setIfInBounds_toArray,List.set_cons_zero,List.set_cons_succ];refine wpAnyH_take (i:=15) (oi:=⟨some 43,_,_,_,_,_⟩) (v:=undef) rfl (by kernel_rfl) (by kernel_rfl) (by kernel_rfl) (fun _ _ _ h=>h) (Or.inr ⟨by kernel_rfl,rfl⟩) (by assumption) ?_;simp only[Act.put,List.setIfInBounds_toArray,List.set_cons_zero,List.set_cons_succ];refine wpAnyH_take (i:=16) (oi:=⟨some 44,_,_,_,_,_⟩) (v:=?_) rfl (by kernel_rfl) (by kernel_rfl) (by kernel_rfl) (fun _ _ _ h=>h) (Or.inl ⟨by kernel_rfl,?_⟩) (by assumption) ?_;rotate_left;focus ((intro w hSw;(try dsimp only at hSw);go_simp);(try with_reducible rfl);done)
      simp only[Act.put,List.setIfInBounds_toArray,List.set_cons_zero,List.set_cons_succ];refine wpAnyH_done (by kernel_rfl) ?_ _;go_wp2_with fail;go_ret;exact ⟨aav.no HX.out,((K1.out.trans KK.out).trans KB.out).drew⟩
    ·obtain rfl:k=M:=by omega
     have h1:¬(k:Int)<(k:Int):=by omega
     have HX:=Lib.hid (HY1.out HPR.out);clear HY1 HPR HN3 HN4 HSA;go_wp2_with fail;go_ret;exact ⟨aav.yes HX.out,K1.out.trans KK.out⟩
  ·have HX:=Lib.hid (HN1.out hNM)
   have hne:((M:Int)==(N:Int))=false:=beq_eq_false_iff_ne.2 (by omega);have hne2:((M:Int) != (N:Int))=true:=bne_iff_ne.2 (by omega);have hne3:¬(M:Int)=(N:Int):=by omega
   clear HN1 HN2 HN3 HN4 HY HSA;go_enter Tryz.func68,Tryz.ntmps68;go_wp2_with fail;go_ret;exact ⟨aav.no HX.out,((Kp.refl _).alloc _).alloc _⟩
 ·have HX:=Lib.hid (HN2.out h32)
  have hne:((L:Int)==32)=false:=beq_eq_false_iff_ne.2 (by omega);have hne2:((L:Int) != 32)=true:=bne_iff_ne.2 (by omega);have hne3:¬(L:Int)=32:=by omega
  clear HN1 HN2 HN3 HN4 HY HSA;go_enter Tryz.func68,Tryz.ntmps68;go_wp2_with fail;go_ret;exact ⟨aav.no HX.out,((Kp.refl _).alloc _).alloc _⟩
theorem ahD (x me:Int)(q:Value)(c:List Int)(g:Nat)(w:World)(hq:RI w q c)(hc:w.cell? ⟨g,0,none⟩=some (.int .i64 me))(hx:-9223372036854775808≤x∧x≤9223372036854775807)(hT:Tab w):
  Calls Tryz.prog 118 #[.agg #[.int .i64 x,q],.pointer (some ⟨g,0,none⟩)] w fun e w'=>aav e (loV x≤me∧me≤hiV x)∧Kp w w':=by
 have HL:=Lib.hid (fun W (hW:Kp w W)=>ahr x W hx (hT.kp hW));obtain ⟨a,n,cc,rfl⟩:=hq.sl;have HC:Hid (∀ W,Kp w W→W.cell? ⟨g,0,none⟩=some (.int .i64 me)):=fun W hW=>hW.cell hc
 generalize loV x=LO at *;generalize hiV x=HI at *;clear hq hc hx hT;go_enter Tryz.func118,Tryz.ntmps118;go_wp2_with fail;refine (HL.out _ ((Kp.refl _).alloc _)).mono ?_;rintro _ w2 ⟨rfl,k2⟩;have K2:Hid (Kp w w2):=((Kp.refl _).alloc _).trans k2;have e1:=HC.out w2 K2.out;clear k2 HL HC;by_cases h1:LO≤me
 ·by_cases h2:me≤HI
  ·go_wp2_with fail
   go_ret;exact ⟨aav.yes ⟨h1,h2⟩,K2.out⟩
  ·have HX:Hid (¬me≤HI):=h2
   go_wp2_with fail;go_ret;exact ⟨by first | exact aav.no (fun h=>HX.out h.2) | exact ⟨_,rfl,fun h=>absurd (of_decide_eq_true h) (by have h5:=HX.out;omega),fun h=>decide_eq_true h.2⟩,K2.out⟩
 ·have HX:Hid (¬(LO≤me∧me≤HI)):=fun h=>h1 h.1
  go_wp2_with fail;go_ret;exact ⟨aav.no HX.out,K2.out⟩
def aif (l:List Stp)(P:Stp→Prop)(r:Int):Prop:=(∃ k:Nat,r=(k:Int)∧k<l.length∧P (spAt l k)∧∀ j,j<k→¬P (spAt l j))∨(r = -1∧∀ k,k<l.length→¬P (spAt l k))
theorem ahe (arO:Value)(l:List Stp)(me:Int)(g:Nat)(w:World)(hu:arM ahq w arO l)(hc:w.cell? ⟨g,0,none⟩=some (.int .i64 me))(hx:∀ k,k<l.length→-9223372036854775808≤(spAt l k).node∧(spAt l k).node≤9223372036854775807)(hT:Tab w):
  Calls Tryz.prog 117 #[arO,.func (.func 118) #[] #[.pointer (some ⟨g,0,none⟩)]] w fun e w'=>(∃ r,e=.returned (.int .i64 r)∧aif l (fun s=>loV s.node≤me∧me≤hiV s.node) r)∧Kp w w':=by
 obtain ⟨a,c,rfl,p1,s1⟩:=SE.shape hu;unfold maxLen at s1;have HU:=Lib.hid hu;have HF:=Lib.hid (fun W (hW:Kp w W) k (hk:k<l.length) (q:Value) (hq:RI W q (spAt l k).cover)=>ahD (spAt l k).node me q (spAt l k).cover g W hq (hW.cell hc) (hx k hk) (hT.kp hW));obtain ⟨PP,hPP⟩:∃ P:Nat→Prop,P=fun k=>loV (spAt l k).node≤me∧me≤hiV (spAt l k).node:=⟨_,rfl⟩
 have hpp:∀ k,(loV (spAt l k).node≤me∧me≤hiV (spAt l k).node)=PP k:=fun k=>by rw[hPP]
 have HY:Hid (∀ k:Nat,k<l.length→PP k→(∀ j,j<k→¬PP j)→aif l (fun s=>loV s.node≤me∧me≤hiV s.node) (k:Int)):=fun k hk h hp=>.inl ⟨k,rfl,hk,(hpp k).mpr h,fun j hj h=>hp j hj ((hpp j).mp h)⟩
 have HN:Hid ((∀ k,k<l.length→¬PP k)→aif l (fun s=>loV s.node≤me∧me≤hiV s.node) (-1)):=fun h=>.inr ⟨rfl,fun k hk hp=>h k hk ((hpp k).mp hp)⟩
 simp only[hpp] at HF;generalize aif l (fun s=>loV s.node≤me∧me≤hiV s.node)=FI at *;obtain ⟨N,hN⟩:∃ N,l.length=N:=⟨_,rfl⟩;have HN2:=Lib.hid hN;rw[hN] at HU HF HY HN p1 ⊢;clear hu hN hc hx hT hPP hpp;go_enter Tryz.func117,Tryz.ntmps117;go_wp2_with fail;go_loopw[8] (fun i wr=>∃ k:Nat,k≤N∧i=.int .i64 (k:Int)∧(∀ j,j<k→¬PP j)∧Kp w wr) (fun i _=>(N - (intOf i).toNat))
 case atStart=>exact ⟨0,Nat.zero_le _,rfl,fun t h=>by omega,Kp.refl _⟩
 case round=>
  obtain ⟨k,hk,rfl,hpre,hkp⟩:=hrel;have HPR:=Lib.hid hpre;have KK:=Lib.hid hkp;clear hpre hkp;by_cases hlt:k<N
  ·obtain ⟨gs,os,cs,q,e1,_,c0,c1,rq⟩:=arM.sp (i:=k) (arM.kp HU.out KK.out) (by rw[HN2.out];exact hlt)
   rw[HN2.out] at e1;simp only[Value.slice.injEq] at e1;obtain ⟨rfl,_,rfl⟩:=e1;have HFK:=Lib.hid (HF.out wr KK.out k hlt q rq);obtain ⟨aq,nq,cq,rfl⟩:=rq.sl;have HYK:=Lib.hid (HY.out k hlt);have i1:IntKind.i64.wrap ((k:Int)+1)=(k:Int)+1:=IntWalk.i64_in _ (by omega);have i3:(k:Int)<(N:Int):=by omega
   generalize (spAt l k).node=X at *;clear rq HF HY;go_wp2_with (go_at_call 118;refine HFK.out.mono ?_;rintro _ w4 ⟨⟨b,rfl,hb⟩,k4⟩;have K4:=Lib.hid (KK.out.trans k4);have HB:=Lib.hid hb;cases b)
   ·have HP:Hid (∀ j,j<k+1→¬PP j):=fun j hj=>by
     rcases Nat.lt_or_eq_of_le (Nat.lt_succ_iff.1 hj) with h3 | h3
     ·exact HPR.out j h3
     ·rw[h3]
      intro h;have h5:=HB.out.2 h;simp at h5
    go_roundw
    case rel=>exact ⟨k+1,by omega,by first | rfl | (rw[i1];rfl),HP.out,K4.out⟩
    case measure=>simp[intOf];omega
   ·go_ret
    exact ⟨⟨_,rfl,HYK.out (by first | exact HB.out.1 rfl | exact HB.out.1 trivial) HPR.out⟩,K4.out⟩
  ·obtain rfl:k=N:=by omega
   have HF:=Lib.hid (HN.out HPR.out);have i3:¬(k:Int)<(k:Int):=by omega
   clear HN HY;go_wp2_with fail;go_ret;exact ⟨⟨_,rfl,HF.out⟩,KK.out⟩
theorem ak7 {t:List Nod}{K i me:Nat}{own:List Sd}(hr:aab t K)(hki:(ats t (2*i)).kind=1)(hne:i≠me)(hs:abB t K (me:Int) own){r:Int}
  (h:aif (abX t i K) (fun s=>loV s.node≤(me:Int)∧(me:Int)≤hiV s.node) r):r=(kM t i me:Int):=by
 have hkm:=(hr.there_iff me).1 hs.1;have hlen:=hr.len2;have hi:i<2 ^ K:=by have:=aab.lt_of (t:=t) (x:=2*i) (by rw[hki];decide);omega
 have hm:me<2 ^ K:=by have:=aab.lt_of (t:=t) (x:=2*me) (by rw[hkm];decide);omega
 obtain ⟨m1,m2,_,_⟩:=ac8 hr.le hi hm hne;obtain ⟨y,hy,hyk⟩:=aiC hr hi hkm hm hne hs;have hw:=List.length_pos_of_mem hy;obtain ⟨k1,_,_,_⟩:=aqG (K:=K) ⟨m1,m2⟩ hw;have hat:∀ a,a<(ixS t i K).length→((loV (spAt (abX t i K) a).node≤(me:Int)∧(me:Int)≤hiV (spAt (abX t i K) a).node)↔kM t i me≤a):=fun a ha=>by
  have hk:=List.getElem?_eq_getElem ha;obtain ⟨k,hk'⟩:∃ k,(ixS t i K)[a]=k:=⟨_,rfl⟩;rw[hk'] at hk;rw[← api hr.le hi hm hne hw hk];have hkK:k<K:=((afp t i K k).1 (List.mem_of_getElem? hk)).1;have e:(spAt (abX t i K) a).node=((nd (k+1) (i / 2 ^ (k+1)):Nat):Int):=by
   unfold spAt abX;rw[List.getD_eq_getElem?_getD,List.getElem?_map,hk];rfl
  rw[e];have hK10:=hr.le;have hlt:nd (k+1) (i / 2 ^ (k+1))≤2046:=by
   have hlt2:=aby hi (aay (t:=t) (x:=nd (k+1) (i / 2 ^ (k+1))) (by
    unfold aaa;exact List.mem_map.2 ⟨k,List.mem_of_getElem? hk,rfl⟩))
   have hp2:=acc hr.le;have hl:=hr.len;omega
  have hok:okN ((nd (k+1) (i / 2 ^ (k+1)):Nat):Int):=⟨by omega,by omega⟩;unfold loV hiV;rw[if_pos hok,if_pos hok,Int.toNat_natCast,adJ _ _ (by omega),ahI _ _ (by omega),← ai7];have:=aaC (k+1);omega
 rcases h with ⟨k,rfl,hk,hp,hpre⟩ | ⟨rfl,hn⟩
 ·rw[abU] at hk
  have h1:=(hat k hk).1 hp;have h2:¬kM t i me<k:=fun hlt=>hpre _ hlt ((hat _ k1).2 (Nat.le_refl _))
  omega
 ·exact absurd ((hat _ k1).2 (Nat.le_refl _)) (hn _ (by rw[abU];exact k1))
theorem ai4 (arO n s:Value)(t:List Nod)(K i me:Nat)(own:List Sd)(w:World)(hu:WIn w arO n s t K i)(hr:aab t K)(hki:(ats t (2*i)).kind=1)(hne:i≠me)(hs:abB t K (me:Int) own)(hT:Tab w):
  Calls Tryz.prog 69 #[.agg #[arO,.int .i64 (i:Int),n,s],.int .i64 (me:Int)] w fun e w'=>e=.returned (.int .i64 (kM t i me:Int))∧Kp w w':=by
 have hnode:∀ k,k<(abX t i K).length→-9223372036854775808≤(spAt (abX t i K) k).node∧(spAt (abX t i K) k).node≤9223372036854775807:=fun k hk=>by
  rw[abU] at hk;rw[aey hk];have hlen:=hr.len2;have hp2:=acc hr.le;have hi:i<2 ^ K:=by have:=aab.lt_of (t:=t) (x:=2*i) (by rw[hki];decide);omega
  have hl:=(aax t i K).1;have hm:(aaa t i K).getD k 0∈aaa t i K:=by rw[List.getD_eq_getElem?_getD,List.getElem?_eq_getElem (by omega)];exact List.getElem_mem _
  have h2:=aby hi (aay hm);dsimp only
  omega
 have HI:=Lib.hid (fun W (hW:Kp w W) g (hc:W.cell? ⟨g,0,none⟩=some (.int .i64 (me:Int)))=>ahe s (abX t i K) (me:Int) g W (arM.kp hu.steps hW) hc hnode (hT.kp hW));have HR:=Lib.hid (fun r h=>ak7 (r:=r) hr hki hne hs h);obtain ⟨au,nu,cu,rfl⟩:=hu.tree.sl;obtain ⟨an,nn,cn,rfl⟩:=hu.nodes.sl;obtain ⟨as',ns',cs',rfl⟩:=SE.sl hu.steps;generalize aif (abX t i K) (fun s=>loV s.node≤(me:Int)∧(me:Int)≤hiV s.node)=FP at *;generalize kM t i me=KMM at *;clear hu hr hki hne hs hT hnode;go_enter Tryz.func69,Tryz.ntmps69;go_wp2_with fail;refine (HI.out _ (((Kp.refl _).alloc _).alloc _) (w.heap.size+1) (by
  have:=(Bx.new (w.alloc (.cells #[.slice au nu cu,.int .i64 (i:Int),.slice an nn cn,.slice as' ns' cs'] 95)) 3 #[.int .i64 (me:Int)]).cell 0;rw[World.size_alloc] at this;exact this)).mono ?_;rintro _ w2 ⟨⟨r,rfl,hf⟩,k2⟩
 obtain rfl:=HR.out r hf;have K2:Hid (Kp w w2):=(((Kp.refl _).alloc _).alloc _).trans k2;clear hf k2 HI HR;go_wp2_with fail;go_ret;exact ⟨rfl,K2.out⟩
end Go.Proofs.YthmhklmkgkfcpaaGreatDoor

import Derived.Test.YthmhklmkgkfcpaaGreatDoorT24
import Derived.Test.YthmhklmkgkfcpaaGreatDoorT30
import Derived.Test.YthmhklmkgkfcpaaGreatDoorT34
import Derived.Test.YthmhklmkgkfcpaaGreatDoorT37
import Derived.Deep.RegionHeld3
set_option linter.unusedVariables false
set_option linter.unusedSimpArgs false
set_option maxHeartbeats 8000000
set_option maxRecDepth 100000
namespace Go.Proofs.YthmhklmkgkfcpaaGreatDoor
open Go.RowKit
theorem aoy {l:List Nat}{k:Nat}(h:k<l.length):l.take (k+1)=l.take k++[l.getD k 0]:=by
 rw[List.take_succ_eq_append_getElem h,List.getD_eq_getElem?_getD,List.getElem?_eq_getElem h];rfl
theorem ae9 (ar1:Value)(t:List Nod)(K:Nat)(i:Int)(w:World)(hu:NL w ar1 t)(hr:aaa t K)(hTab:Tab w):
  Calls Tryz.prog 13 #[ar1,.int .i64 i] w fun e w'=>(∃ v,e=.returned (.tuple #[v,.int .i64 (abO t i)])∧RN w' v (adL t K i))∧Kp w w':=by
 by_cases hth:aas t i
 ·obtain ⟨k,rfl,hk,hkind,hk2⟩:=acI hr hth
  have e1:abO t (k:Int)=0:=by unfold abO;rw[if_pos hth]
  have e2:adL t K (k:Int)=aac t k K:=by unfold adL;rw[if_pos hth,Int.toNat_natCast]
  rw[e1,e2];have HWO:=Lib.hid (acr ar1 t K k w hu hr hkind hTab);have HSA:=Lib.hid (fun a (h:a<(ixS t k K).length)=>aeI (t:=t) (i:=k) (m:=K) h);obtain ⟨hl1,hl2⟩:=aaE t k K;have hl3:=abQ t k K;have hle:=Nat.le_trans (act t k K) hr.le;have HTA:=Lib.hid (fun a (h:a<(aac t k K).length)=>aoy h);have HTE:Hid ((aac t k K).take (aac t k K).length=aac t k K):=List.take_length;obtain ⟨a,c,rfl,_,_⟩:=hu.shape;have HWS:Hid (∀ W ar1 n s,WIn W ar1 n s t K k→arZ ahw W s (abT t k K)):=fun W ar1 n s h=>h.steps
  have HWN:Hid (∀ W ar1 n s,WIn W ar1 n s t K k→RN W n (aag K 0 k)):=fun W ar1 n s h=>h.nodes
  generalize (ixS t k K).length=M at *;rw[hl1] at HTA HTE;have HSL:=Lib.hid hl3;generalize aac t k K=ST at *;generalize t.length=N at *;clear hu hr hth e1 e2 hkind hk2 hl2 hl3 hTab;go_enter Tryz.func13,Tryz.ntmps13;go_wp2_with fail;refine HWO.out.mono ?_;rintro _ w1 ⟨⟨nv,sv,rfl,hwi⟩,k1⟩;have rs:=HWS.out _ _ _ _ hwi;obtain ⟨as',cs',rfl,p1,s1⟩:=SE.shape rs;obtain ⟨an,nn,cn,rfl⟩:=(HWN.out _ _ _ _ hwi).sl;rw[HSL.out] at p1 rs ⊢;have RS:=Lib.hid rs;have K1:=Lib.hid k1;obtain ⟨w2,hw2⟩:∃ w2,w1.alloc (.cells #[.slice a N c,.int .i64 (k:Int),.slice an nn cn,.slice as' M cs'] 95)=w2:=⟨_,rfl⟩;have HB:Hid (Bx w2 w1.heap.size 95 #[.slice a N c,.int .i64 (k:Int),.slice an nn cn,.slice as' M cs']):=by unfold Hid;rw[← hw2];exact Bx.new w1 _ _
  have K2:Hid (Kp w1 w2):=by unfold Hid;rw[← hw2];exact (Kp.refl _).alloc _
  have HW2:=Lib.hid hw2;clear rs k1 hwi HWO HWS HWN hw2;go_wp2_with fail;rw[HW2.out];clear HW2;have e3:=HB.out.cell 3;simp only[List.getElem?_toArray,List.getElem?_cons_zero,List.getElem?_cons_succ] at e3;go_wp2_with fail;go_loopw[8,23] (fun x y wr=>∃ m:Nat,m≤M∧y=.int .i64 (m:Int)∧GZ shN 3 noB wr w2.heap.size x (ST.take m)∧Kp w2 wr) (fun _ y _=>(M - (intOf y).toNat))
  case atStart=>exact ⟨0,Nat.zero_le _,rfl,by rw[List.take_zero];exact GZ.nil _ _ _,Kp.refl _⟩
  case round=>
   obtain ⟨m,hm,rfl,hgz,hkp⟩:=hrel;have HI:=Lib.hid (And.intro hgz hkp);obtain ⟨ax,nx,cx,rfl⟩:=SE.sl hgz.gl;clear hgz hkp;by_cases hlt:m<M
   ·obtain ⟨gs,os,cs,q,e1,_,c0,c1,rq⟩:=arZ.sp (i:=m) (arZ.kp RS.out (K2.out.trans HI.out.2)) (by rw[HSL.out];exact hlt)
    rw[HSL.out] at e1;simp only[Value.slice.injEq] at e1;obtain ⟨rfl,_,rfl⟩:=e1;obtain ⟨aq,nq,cq,rfl⟩:=rq.sl;rw[HSA.out m hlt] at c0;dsimp only at c0
    have HTM:=Lib.hid (HTA.out m hlt);have i1:IntKind.i64.wrap ((m:Int)+1)=(m:Int)+1:=IntWalk.i64_in _ (by omega);have i3:(m:Int)<(M:Int):=by omega
    have hle2:(ST.take m).length+1≤1000000:=by rw[List.length_take];omega
    obtain ⟨X,hX⟩:∃ x,ST.getD m 0=x:=⟨_,rfl⟩;rw[hX] at c0 HTM;have HLIT:Hid (SE shN (fun g=>some g=(Value.slice ax nx cx).ownBlock∨noB g) ((wr.alloc (.cells #[.int .i64 (X:Int),.slice aq nq cq] 99)).alloc (.cells #[.int .i64 (X:Int)] 3)) (.slice (some ⟨wr.heap.size+1,0,none⟩) 1 1) [X]):=by
     have h9:SE shN (fun g=>some g=(Value.slice ax nx cx).ownBlock∨noB g) ((wr.alloc (.cells #[.int .i64 (X:Int),.slice aq nq cq] 99)).alloc (.cells #[.int .i64 (X:Int)] 3)) _ [X]:=SE.litZ (S:=shN) (w:=wr.alloc (.cells #[.int .i64 (X:Int),.slice aq nq cq] 99)) 3 rfl rfl;rwa [World.size_alloc] at h9
    clear rq hX HSA HTA;go_wp2_with (at_builtin;go_loud (refine aaK (S:=shN) (Z:=noB) (o:=⟨some 31,_,_,_,_,_⟩) nK rfl _ _ rfl w2.heap.size _ (ST.take m) rfl (HI.out.1.kp (((Kp.refl _).alloc _).alloc _)) _ [X] rfl HLIT.out (by exact hle2) (Nat.le_trans HI.out.2.size (by simp;omega)) ?_;intro v5 w5 o5 g5 _;have k5:Hid (Kp w2 w5):=Kp.grown ((HI.out.2.alloc _).alloc _) g5 (fun k hk=>(HI.out.1.lt k hk).1)))
    rw[← HTM.out] at o5;go_roundw
    case rel=>exact ⟨m+1,by omega,by first | rfl | (rw[i1];rfl),o5,k5.out⟩
    case measure=>simp[intOf];omega
   ·obtain rfl:m=M:=by omega
    have h1:¬(m:Int)<(m:Int):=by omega
    have hgz:=HI.out.1;rw[HTE.out] at hgz;have HE:=Lib.hid (And.intro hgz.gl.rn (K1.out.trans (K2.out.trans HI.out.2)));clear hgz HSA HTA;go_wp2_with fail;go_ret2;exact ⟨⟨_,rfl,HE.out.1⟩,HE.out.2⟩
 ·have e1:abO t i=11:=by unfold abO;rw[if_neg hth]
  have e2:adL t K i=[]:=by unfold adL;rw[if_neg hth]
  rw[e1,e2];have HWO:=Lib.hid (aed ar1 t K i w hu hr hth);obtain ⟨a,c,rfl,_,_⟩:=hu.shape;generalize t.length=N at *;clear hu hr hth e1 e2 hTab;go_enter Tryz.func13,Tryz.ntmps13;go_wp2_with fail;refine HWO.out.mono ?_;rintro _ w1 ⟨rfl,k1⟩;have K1:=Lib.hid k1;clear k1 HWO;go_wp2_with fail;go_ret2;exact ⟨⟨_,rfl,RN.nil _⟩,K1.out.alloc _⟩
theorem akm (ar1 n s x y:Value)(t:List Nod)(K i:Nat)(p:Pa)(w:World)(hu:WIn w ar1 n s t K i)(hp:PIn w x y p):
  Calls Tryz.prog 68 #[.agg #[ar1,.int .i64 (i:Int),n,s],.agg #[x,y]] w fun e w'=>aai e (aeC (whoN t i K) p)∧Kp w w':=by
 have HSS:=Lib.hid hu.steps;have HS:=Lib.hid hp.step;obtain ⟨hl1,hl2⟩:=aaE t i K;have hl3:=abQ t i K;have HSA:=Lib.hid (fun a (h:a<(ixS t i K).length)=>aeI (t:=t) (i:=i) (m:=K) h);obtain ⟨au,nu,cu,rfl⟩:=hu.tree.sl;obtain ⟨an,nn,cn,rfl⟩:=hu.nodes.sl;obtain ⟨as',cs',rfl,q5,q6⟩:=SE.shape hu.steps;obtain ⟨ap,cp,rfl,q1,q2⟩:=hp.pub.shape;obtain ⟨a6,c6,rfl,q3,q4⟩:=SE.shape hp.step;unfold maxLen at q6;generalize whoN t i K=who at *;have HN1:Hid (p.step.length≠who.length→¬aeC who p):=fun h e=>h e.1
 have HN2:Hid (p.pub.length≠32→¬aeC who p):=fun h e=>h e.2.1
 have HN3:Hid (∀ k,k<who.length→(stAt p.step k).fors.length≠(nsAt who k).length→¬aeC who p):=fun k hk h e=>h (e.2.2 k hk).1
 have HN4:Hid (∀ k,k<who.length→(stAt p.step k).pub.length≠32→¬aeC who p):=fun k hk h e=>h (e.2.2 k hk).2
 have HY:Hid (p.step.length=who.length→p.pub.length=32→(∀ k,k<who.length→(stAt p.step k).fors.length=(nsAt who k).length∧(stAt p.step k).pub.length=32)→aeC who p):=fun h1 h2 h3=>⟨h1,h2,h3⟩
 generalize aeC who p=P at *;generalize p.pub.length=L at *;generalize p.step=A at *;obtain ⟨M,hM⟩:∃ N,A.length=N:=⟨_,rfl⟩;generalize (ixS t i K).length=N at *;have HM:=Lib.hid hM;have HSL:=Lib.hid hl3;rw[hl3] at q5 HSS ⊢;rw[hl2] at HN1 HN3 HN4 HY;rw[hM] at q3 HN1 HY HS ⊢;generalize abT t i K=SP at *;generalize aac t i K=ST at *;clear hu hp hM hl1 hl2 hl3;by_cases h32:L=32
 ·subst h32
  by_cases hNM:M=N
  ·subst hNM
   have HY1:=Lib.hid (HY.out rfl rfl);clear HN1 HN2 HY;go_enter Tryz.func68,Tryz.ntmps68;go_wp2_with fail;obtain ⟨w1,hw1⟩:∃ w1,(w.alloc (.cells #[.slice au nu cu,.int .i64 (i:Int),.slice an nn cn,.slice as' M cs'] 95)).alloc (.cells #[.slice ap 32 cp,.slice a6 M c6] 27)=w1:=⟨_,rfl⟩;have HB:Hid (Bx w1 w.heap.size 95 #[.slice au nu cu,.int .i64 (i:Int),.slice an nn cn,.slice as' M cs']):=by unfold Hid;rw[← hw1];exact (Bx.new w _ _).kp ((Kp.refl _).alloc _)
   have K1:Hid (Kp w w1):=by unfold Hid;rw[← hw1];exact ((Kp.refl _).alloc _).alloc _
   rw[hw1];clear hw1;go_loopw[23] (fun i wr=>∃ k:Nat,k≤M∧i=.int .i64 (k:Int)∧(∀ k',k'<k→(stAt A k').fors.length=(nsAt who k').length∧(stAt A k').pub.length=32)∧Kp w1 wr) (fun i _=>(M - (intOf i).toNat))
   case atStart=>exact ⟨0,Nat.zero_le _,rfl,fun t h=>by omega,Kp.refl _⟩
   case round=>
    obtain ⟨k,hk,rfl,hpre,hkp⟩:=hrel;have HPR:=Lib.hid hpre;have KK:=Lib.hid hkp;clear hpre hkp;by_cases hlt:k<M
    ·obtain ⟨gs,os,cs,pv,qv,e1,_,hnd⟩:=TL11.nodeK (i:=k) HS.out (by rw[HM.out];exact hlt)
     obtain ⟨c0,c1,rp,rf⟩:=hnd wr (K1.out.trans KK.out);obtain ⟨gu,ou,cu',qu,e2,_,c3,c2,rw⟩:=arZ.sp (i:=k) (arZ.kp HSS.out (K1.out.trans KK.out)) (by rw[HSL.out];exact hlt);rw[HM.out] at e1;rw[HSL.out] at e2;simp only[Value.slice.injEq] at e1 e2;obtain ⟨rfl,_,rfl⟩:=e1;obtain ⟨rfl,_,rfl⟩:=e2;rw[HSA.out k hlt] at rw;have rw':RI wr qu (nsAt who k):=rw;have i1:IntKind.i64.wrap ((k:Int)+1)=(k:Int)+1:=IntWalk.i64_in _ (by omega);have i3:(k:Int)<(M:Int):=by omega
     obtain ⟨a7,b7,rfl,r1,r2⟩:=rp.shape;obtain ⟨a8,b8,rfl,r3,r4⟩:=SE.shape rf;obtain ⟨a9,b9,rfl,r5,r6⟩:=rw'.shape;have H3:=Lib.hid (HN3.out k hlt);have H4:=Lib.hid (HN4.out k hlt);have HPR2:Hid ((stAt A k).fors.length=(nsAt who k).length→(stAt A k).pub.length=32→∀ k',k'<k+1→(stAt A k').fors.length=(nsAt who k').length∧(stAt A k').pub.length=32):=fun h1 h2 k' hk'=>by
      rcases Nat.lt_or_eq_of_le (Nat.lt_succ_iff.1 hk') with h6 | h6
      ·exact HPR.out k' h6
      ·rw[h6];exact ⟨h1,h2⟩
     generalize (stAt A k).fors.length=FN at *;generalize (nsAt who k).length=WN at *;generalize (stAt A k).pub.length=PL at *;clear rf rp rw rw' HN3 HN4 HPR r1 r3 r5 hnd HSA;go_wp2_with fail;obtain ⟨wb,hwb⟩:∃ x,wr.alloc (.cells #[.slice a7 PL b7,.slice a8 FN b8] 74)=x:=⟨_,rfl⟩;have hbb:Bx wb wr.heap.size 74 #[.slice a7 PL b7,.slice a8 FN b8]:=by rw[← hwb];exact Bx.new wr _ _
     have KB:Hid (Kp wr wb):=by unfold Hid;rw[← hwb];exact (Kp.refl _).alloc _
     rw[hwb];have e4:=hbb.cell 0;have e5:=hbb.cell 1;have e6:=(HB.out.kp (KK.out.trans KB.out)).cell 3;have e7:=KB.out.cell c2;simp only[List.getElem?_toArray,List.getElem?_cons_zero,List.getElem?_cons_succ] at e4 e5 e6;clear hbb hwb c0 c1 c2 c3;by_cases hPL:PL=32
     ·subst hPL
      by_cases hF:FN=WN
      ·subst hF
       have HX:=Lib.hid (HPR2.out rfl rfl);clear HPR2 H3 H4;go_region
       go_wp2_with fail;go_roundw
       case rel=>exact ⟨k+1,by omega,by first | rfl | (rw[i1];rfl),HX.out,(KK.out.trans KB.out).drew⟩
       case measure=>simp[intOf];omega
      ·have HX:=Lib.hid (H3.out hF)
       have hne:((FN:Int)==(WN:Int))=false:=beq_eq_false_iff_ne.2 (by omega);have hne2:((FN:Int) != (WN:Int))=true:=bne_iff_ne.2 (by omega);have hne3:¬(FN:Int)=(WN:Int):=by omega
       clear HPR2 H3 H4;go_region
       go_wp2_with fail;go_ret;exact ⟨aai.no HX.out,((K1.out.trans KK.out).trans KB.out).drew⟩
     ·have HX:=Lib.hid (H4.out hPL)
      have hne:((PL:Int)==32)=false:=beq_eq_false_iff_ne.2 (by omega);have hne2:((PL:Int) != 32)=true:=bne_iff_ne.2 (by omega);have hne3:¬(PL:Int)=32:=by omega
      clear HPR2 H3 H4 e5 e6 e7;refine wp_region_held_drew (S:=fun W=>W.cell? ⟨wr.heap.size,0,none⟩=some (.slice a7 PL b7)) (by kernel_rfl) (e4) (fun hHeld=>?_);refine wpAnyH_take (i:=0) (oi:=⟨some 28,_,_,_,_,_⟩) (v:=?_) rfl (by kernel_rfl) (by kernel_rfl) (by kernel_rfl) (fun _ _ _ h=>h) (Or.inl ⟨by kernel_rfl,?_⟩) (by assumption) ?_;rotate_left;focus ((intro w hSw;(try dsimp only at hSw);go_simp);(try with_reducible rfl);done)
      simp only[Act.put,List.setIfInBounds_toArray,List.set_cons_zero,List.set_cons_succ];refine wpAnyH_take (i:=1) (oi:=⟨some 29,_,_,_,_,_⟩) (v:=?_) rfl (by kernel_rfl) (by kernel_rfl) (by kernel_rfl) (fun _ _ _ h=>h) (Or.inl ⟨by kernel_rfl,?_⟩) (by assumption) ?_;rotate_left;focus ((intro w hSw;(try dsimp only at hSw);go_simp);(try with_reducible rfl);done)
      simp only[Act.put,List.setIfInBounds_toArray,List.set_cons_zero,List.set_cons_succ];refine wpAnyH_take (i:=2) (oi:=⟨some 30,_,_,_,_,_⟩) (v:=?_) rfl (by kernel_rfl) (by kernel_rfl) (by kernel_rfl) (fun _ _ _ h=>h) (Or.inl ⟨by kernel_rfl,?_⟩) (by assumption) ?_;rotate_left;focus ((intro w hSw;(try dsimp only at hSw);go_simp);(try with_reducible rfl);done)
      simp only[Act.put,List.setIfInBounds_toArray,List.set_cons_zero,List.set_cons_succ];refine wpAnyH_take (i:=3) (oi:=⟨some 31,_,_,_,_,_⟩) (v:=?_) rfl (by kernel_rfl) (by kernel_rfl) (by kernel_rfl) (fun _ _ _ h=>h) (Or.inl ⟨by kernel_rfl,?_⟩) (by assumption) ?_;rotate_left;focus ((intro w hSw;(try dsimp only at hSw);go_simp);(try with_reducible rfl);done)
      simp only[Act.put,List.setIfInBounds_toArray,List.set_cons_zero,List.set_cons_succ];refine wpAnyH_take (i:=4) (oi:=⟨some 32,_,_,_,_,_⟩) (v:=?_) rfl (by kernel_rfl) (by kernel_rfl) (by kernel_rfl) (fun _ _ _ h=>h) (Or.inl ⟨by kernel_rfl,?_⟩) (by assumption) ?_;rotate_left;focus ((intro w hSw;(try dsimp only at hSw);go_simp);(try with_reducible rfl);done)
      simp only[Act.put,List.setIfInBounds_toArray,List.set_cons_zero,List.set_cons_succ];refine wpAnyH_take (i:=5) (oi:=⟨some 33,_,_,_,_,_⟩) (v:=undef) rfl (by kernel_rfl) (by kernel_rfl) (by kernel_rfl) (fun _ _ _ h=>h) (Or.inr ⟨by kernel_rfl,rfl⟩) (by assumption) ?_;simp only[Act.put,List.setIfInBounds_toArray,List.set_cons_zero,List.set_cons_succ];refine wpAnyH_take (i:=6) (oi:=⟨some 34,_,_,_,_,_⟩) (v:=undef) rfl (by kernel_rfl) (by kernel_rfl) (by kernel_rfl) (fun _ _ _ h=>h) (Or.inr ⟨by kernel_rfl,rfl⟩) (by assumption) ?_;simp only[Act.put,List.setIfInBounds_toArray,List.set_cons_zero,List.set_cons_succ];refine wpAnyH_take (i:=7) (oi:=⟨some 35,_,_,_,_,_⟩) (v:=undef) rfl (by kernel_rfl) (by kernel_rfl) (by kernel_rfl) (fun _ _ _ h=>h) (Or.inr ⟨by kernel_rfl,rfl⟩) (by assumption) ?_;simp only[Act.put,List.setIfInBounds_toArray,List.set_cons_zero,List.set_cons_succ];refine wpAnyH_take (i:=8) (oi:=⟨some 36,_,_,_,_,_⟩) (v:=undef) rfl (by kernel_rfl) (by kernel_rfl) (by kernel_rfl) (fun _ _ _ h=>h) (Or.inr ⟨by kernel_rfl,rfl⟩) (by assumption) ?_;simp only[Act.put,List.setIfInBounds_toArray,List.set_cons_zero,List.set_cons_succ];refine wpAnyH_take (i:=9) (oi:=⟨some 37,_,_,_,_,_⟩) (v:=undef) rfl (by kernel_rfl) (by kernel_rfl) (by kernel_rfl) (fun _ _ _ h=>h) (Or.inr ⟨by kernel_rfl,rfl⟩) (by assumption) ?_;simp only[Act.put,List.setIfInBounds_toArray,List.set_cons_zero,List.set_cons_succ];refine wpAnyH_take (i:=10) (oi:=⟨some 38,_,_,_,_,_⟩) (v:=undef) rfl (by kernel_rfl) (by kernel_rfl) (by kernel_rfl) (fun _ _ _ h=>h) (Or.inr ⟨by kernel_rfl,rfl⟩) (by assumption) ?_;simp only[Act.put,List.setIfInBounds_toArray,List.set_cons_zero,List.set_cons_succ];refine wpAnyH_take (i:=11) (oi:=⟨some 39,_,_,_,_,_⟩) (v:=undef) rfl (by kernel_rfl) (by kernel_rfl) (by kernel_rfl) (fun _ _ _ h=>h) (Or.inr ⟨by kernel_rfl,rfl⟩) (by assumption) ?_;simp only[Act.put,List.setIfInBounds_toArray,List.set_cons_zero,List.set_cons_succ];refine wpAnyH_take (i:=12) (oi:=⟨some 40,_,_,_,_,_⟩) (v:=undef) rfl (by kernel_rfl) (by kernel_rfl) (by kernel_rfl) (fun _ _ _ h=>h) (Or.inr ⟨by kernel_rfl,rfl⟩) (by assumption) ?_;simp only[Act.put,List.setIfInBounds_toArray,List.set_cons_zero,List.set_cons_succ];refine wpAnyH_take (i:=13) (oi:=⟨some 41,_,_,_,_,_⟩) (v:=undef) rfl (by kernel_rfl) (by kernel_rfl) (by kernel_rfl) (fun _ _ _ h=>h) (Or.inr ⟨by kernel_rfl,rfl⟩) (by assumption) ?_;simp only[Act.put,List.setIfInBounds_toArray,List.set_cons_zero,List.set_cons_succ];refine wpAnyH_take (i:=14) (oi:=⟨some 42,_,_,_,_,_⟩) (v:=undef) rfl (by kernel_rfl) (by kernel_rfl) (by kernel_rfl) (fun _ _ _ h=>h) (Or.inr ⟨by kernel_rfl,rfl⟩) (by assumption) ?_;simp only[Act.put,List.setIfInBounds_toArray,List.set_cons_zero,List.set_cons_succ];refine wpAnyH_take (i:=15) (oi:=⟨some 43,_,_,_,_,_⟩) (v:=undef) rfl (by kernel_rfl) (by kernel_rfl) (by kernel_rfl) (fun _ _ _ h=>h) (Or.inr ⟨by kernel_rfl,rfl⟩) (by assumption) ?_;simp only[Act.put,List.setIfInBounds_toArray,List.set_cons_zero,List.set_cons_succ];refine wpAnyH_take (i:=16) (oi:=⟨some 44,_,_,_,_,_⟩) (v:=?_) rfl (by kernel_rfl) (by kernel_rfl) (by kernel_rfl) (fun _ _ _ h=>h) (Or.inl ⟨by kernel_rfl,?_⟩) (by assumption) ?_;rotate_left;focus ((intro w hSw;(try dsimp only at hSw);go_simp);(try with_reducible rfl);done)
      simp only[Act.put,List.setIfInBounds_toArray,List.set_cons_zero,List.set_cons_succ];refine wpAnyH_done (by kernel_rfl) ?_ _;go_wp2_with fail;go_ret;exact ⟨aai.no HX.out,((K1.out.trans KK.out).trans KB.out).drew⟩
    ·obtain rfl:k=M:=by omega
     have h1:¬(k:Int)<(k:Int):=by omega
     have HX:=Lib.hid (HY1.out HPR.out);clear HY1 HPR HN3 HN4 HSA;go_wp2_with fail;go_ret;exact ⟨aai.yes HX.out,K1.out.trans KK.out⟩
  ·have HX:=Lib.hid (HN1.out hNM)
   have hne:((M:Int)==(N:Int))=false:=beq_eq_false_iff_ne.2 (by omega);have hne2:((M:Int) != (N:Int))=true:=bne_iff_ne.2 (by omega);have hne3:¬(M:Int)=(N:Int):=by omega
   clear HN1 HN2 HN3 HN4 HY HSA;go_enter Tryz.func68,Tryz.ntmps68;go_wp2_with fail;go_ret;exact ⟨aai.no HX.out,((Kp.refl _).alloc _).alloc _⟩
 ·have HX:=Lib.hid (HN2.out h32)
  have hne:((L:Int)==32)=false:=beq_eq_false_iff_ne.2 (by omega);have hne2:((L:Int) != 32)=true:=bne_iff_ne.2 (by omega);have hne3:¬(L:Int)=32:=by omega
  clear HN1 HN2 HN3 HN4 HY HSA;go_enter Tryz.func68,Tryz.ntmps68;go_wp2_with fail;go_ret;exact ⟨aai.no HX.out,((Kp.refl _).alloc _).alloc _⟩
theorem ahK (x me:Int)(q:Value)(c:List Int)(g:Nat)(w:World)(hq:RI w q c)(hc:w.cell? ⟨g,0,none⟩=some (.int .i64 me))(hx:-9223372036854775808≤x∧x≤9223372036854775807)(hT:Tab w):
  Calls Tryz.prog 118 #[.agg #[.int .i64 x,q],.pointer (some ⟨g,0,none⟩)] w fun e w'=>aai e (loV x≤me∧me≤hiV x)∧Kp w w':=by
 have HL:=Lib.hid (fun W (hW:Kp w W)=>ahy x W hx (hT.kp hW));obtain ⟨a,n,cc,rfl⟩:=hq.sl;have HC:Hid (∀ W,Kp w W→W.cell? ⟨g,0,none⟩=some (.int .i64 me)):=fun W hW=>hW.cell hc
 generalize loV x=LO at *;generalize hiV x=HI at *;clear hq hc hx hT;go_enter Tryz.func118,Tryz.ntmps118;go_wp2_with fail;refine (HL.out _ ((Kp.refl _).alloc _)).mono ?_;rintro _ w2 ⟨rfl,k2⟩;have K2:Hid (Kp w w2):=((Kp.refl _).alloc _).trans k2;have e1:=HC.out w2 K2.out;clear k2 HL HC;by_cases h1:LO≤me
 ·by_cases h2:me≤HI
  ·go_wp2_with fail
   go_ret;exact ⟨aai.yes ⟨h1,h2⟩,K2.out⟩
  ·have HX:Hid (¬me≤HI):=h2
   go_wp2_with fail;go_ret;exact ⟨by first | exact aai.no (fun h=>HX.out h.2) | exact ⟨_,rfl,fun h=>absurd (of_decide_eq_true h) (by have h5:=HX.out;omega),fun h=>decide_eq_true h.2⟩,K2.out⟩
 ·have HX:Hid (¬(LO≤me∧me≤HI)):=fun h=>h1 h.1
  go_wp2_with fail;go_ret;exact ⟨aai.no HX.out,K2.out⟩
def aio (l:List Stp)(P:Stp→Prop)(r:Int):Prop:=(∃ k:Nat,r=(k:Int)∧k<l.length∧P (spAt l k)∧∀ j,j<k→¬P (spAt l j))∨(r = -1∧∀ k,k<l.length→¬P (spAt l k))
theorem ahj (ar1:Value)(l:List Stp)(me:Int)(g:Nat)(w:World)(hu:arZ ahw w ar1 l)(hc:w.cell? ⟨g,0,none⟩=some (.int .i64 me))(hx:∀ k,k<l.length→-9223372036854775808≤(spAt l k).node∧(spAt l k).node≤9223372036854775807)(hT:Tab w):
  Calls Tryz.prog 117 #[ar1,.func (.func 118) #[] #[.pointer (some ⟨g,0,none⟩)]] w fun e w'=>(∃ r,e=.returned (.int .i64 r)∧aio l (fun s=>loV s.node≤me∧me≤hiV s.node) r)∧Kp w w':=by
 obtain ⟨a,c,rfl,p1,s1⟩:=SE.shape hu;unfold maxLen at s1;have HU:=Lib.hid hu;have HF:=Lib.hid (fun W (hW:Kp w W) k (hk:k<l.length) (q:Value) (hq:RI W q (spAt l k).cover)=>ahK (spAt l k).node me q (spAt l k).cover g W hq (hW.cell hc) (hx k hk) (hT.kp hW));obtain ⟨PP,hPP⟩:∃ P:Nat→Prop,P=fun k=>loV (spAt l k).node≤me∧me≤hiV (spAt l k).node:=⟨_,rfl⟩
 have hpp:∀ k,(loV (spAt l k).node≤me∧me≤hiV (spAt l k).node)=PP k:=fun k=>by rw[hPP]
 have HY:Hid (∀ k:Nat,k<l.length→PP k→(∀ j,j<k→¬PP j)→aio l (fun s=>loV s.node≤me∧me≤hiV s.node) (k:Int)):=fun k hk h hp=>.inl ⟨k,rfl,hk,(hpp k).mpr h,fun j hj h=>hp j hj ((hpp j).mp h)⟩
 have HN:Hid ((∀ k,k<l.length→¬PP k)→aio l (fun s=>loV s.node≤me∧me≤hiV s.node) (-1)):=fun h=>.inr ⟨rfl,fun k hk hp=>h k hk ((hpp k).mp hp)⟩
 simp only[hpp] at HF;generalize aio l (fun s=>loV s.node≤me∧me≤hiV s.node)=FI at *;obtain ⟨N,hN⟩:∃ N,l.length=N:=⟨_,rfl⟩;have HN2:=Lib.hid hN;rw[hN] at HU HF HY HN p1 ⊢;clear hu hN hc hx hT hPP hpp;go_enter Tryz.func117,Tryz.ntmps117;go_wp2_with fail;go_loopw[8] (fun i wr=>∃ k:Nat,k≤N∧i=.int .i64 (k:Int)∧(∀ j,j<k→¬PP j)∧Kp w wr) (fun i _=>(N - (intOf i).toNat))
 case atStart=>exact ⟨0,Nat.zero_le _,rfl,fun t h=>by omega,Kp.refl _⟩
 case round=>
  obtain ⟨k,hk,rfl,hpre,hkp⟩:=hrel;have HPR:=Lib.hid hpre;have KK:=Lib.hid hkp;clear hpre hkp;by_cases hlt:k<N
  ·obtain ⟨gs,os,cs,q,e1,_,c0,c1,rq⟩:=arZ.sp (i:=k) (arZ.kp HU.out KK.out) (by rw[HN2.out];exact hlt)
   rw[HN2.out] at e1;simp only[Value.slice.injEq] at e1;obtain ⟨rfl,_,rfl⟩:=e1;have HFK:=Lib.hid (HF.out wr KK.out k hlt q rq);obtain ⟨aq,nq,cq,rfl⟩:=rq.sl;have HYK:=Lib.hid (HY.out k hlt);have i1:IntKind.i64.wrap ((k:Int)+1)=(k:Int)+1:=IntWalk.i64_in _ (by omega);have i3:(k:Int)<(N:Int):=by omega
   generalize (spAt l k).node=X at *;clear rq HF HY;go_wp2_with (go_at_call 118;refine HFK.out.mono ?_;rintro _ w4 ⟨⟨b,rfl,hb⟩,k4⟩;have K4:=Lib.hid (KK.out.trans k4);have HB:=Lib.hid hb;cases b)
   ·have HP:Hid (∀ j,j<k+1→¬PP j):=fun j hj=>by
     rcases Nat.lt_or_eq_of_le (Nat.lt_succ_iff.1 hj) with h3 | h3
     ·exact HPR.out j h3
     ·rw[h3]
      intro h;have h5:=HB.out.2 h;simp at h5
    go_roundw
    case rel=>exact ⟨k+1,by omega,by first | rfl | (rw[i1];rfl),HP.out,K4.out⟩
    case measure=>simp[intOf];omega
   ·go_ret
    exact ⟨⟨_,rfl,HYK.out (by first | exact HB.out.1 rfl | exact HB.out.1 trivial) HPR.out⟩,K4.out⟩
  ·obtain rfl:k=N:=by omega
   have HF:=Lib.hid (HN.out HPR.out);have i3:¬(k:Int)<(k:Int):=by omega
   clear HN HY;go_wp2_with fail;go_ret;exact ⟨⟨_,rfl,HF.out⟩,KK.out⟩
theorem ali {t:List Nod}{K i me:Nat}{own:List Sd}(hr:aaa t K)(hki:(ats t (2*i)).kind=1)(hne:i≠me)(hs:aaY t K (me:Int) own){r:Int}
  (h:aio (abT t i K) (fun s=>loV s.node≤(me:Int)∧(me:Int)≤hiV s.node) r):r=(kM t i me:Int):=by
 have hkm:=(hr.there_iff me).1 hs.1;have hlen:=hr.len2;have hi:i<2 ^ K:=by have:=aaa.lt_of (t:=t) (x:=2*i) (by rw[hki];decide);omega
 have hm:me<2 ^ K:=by have:=aaa.lt_of (t:=t) (x:=2*me) (by rw[hkm];decide);omega
 obtain ⟨m1,m2,_,_⟩:=ada hr.le hi hm hne;obtain ⟨y,hy,hyk⟩:=aiM hr hi hkm hm hne hs;have hw:=List.length_pos_of_mem hy;obtain ⟨k1,_,_,_⟩:=aqV (K:=K) ⟨m1,m2⟩ hw;have hat:∀ a,a<(ixS t i K).length→((loV (spAt (abT t i K) a).node≤(me:Int)∧(me:Int)≤hiV (spAt (abT t i K) a).node)↔kM t i me≤a):=fun a ha=>by
  have hk:=List.getElem?_eq_getElem ha;obtain ⟨k,hk'⟩:∃ k,(ixS t i K)[a]=k:=⟨_,rfl⟩;rw[hk'] at hk;rw[← apw hr.le hi hm hne hw hk];have hkK:k<K:=((afx t i K k).1 (List.mem_of_getElem? hk)).1;have e:(spAt (abT t i K) a).node=((nd (k+1) (i / 2 ^ (k+1)):Nat):Int):=by
   unfold spAt abT;rw[List.getD_eq_getElem?_getD,List.getElem?_map,hk];rfl
  rw[e];have hK10:=hr.le;have hlt:nd (k+1) (i / 2 ^ (k+1))≤2046:=by
   have hlt2:=abh hi (aaU (t:=t) (x:=nd (k+1) (i / 2 ^ (k+1))) (by
    unfold aac;exact List.mem_map.2 ⟨k,List.mem_of_getElem? hk,rfl⟩))
   have hp2:=abH hr.le;have hl:=hr.len;omega
  have hok:okN ((nd (k+1) (i / 2 ^ (k+1)):Nat):Int):=⟨by omega,by omega⟩;unfold loV hiV;rw[if_pos hok,if_pos hok,Int.toNat_natCast,adR _ _ (by omega),ahQ _ _ (by omega),← ajk];have:=aaz (k+1);omega
 rcases h with ⟨k,rfl,hk,hp,hpre⟩ | ⟨rfl,hn⟩
 ·rw[abQ] at hk
  have h1:=(hat k hk).1 hp;have h2:¬kM t i me<k:=fun hlt=>hpre _ hlt ((hat _ k1).2 (Nat.le_refl _))
  omega
 ·exact absurd ((hat _ k1).2 (Nat.le_refl _)) (hn _ (by rw[abQ];exact k1))
theorem ajf (ar1 n s:Value)(t:List Nod)(K i me:Nat)(own:List Sd)(w:World)(hu:WIn w ar1 n s t K i)(hr:aaa t K)(hki:(ats t (2*i)).kind=1)(hne:i≠me)(hs:aaY t K (me:Int) own)(hT:Tab w):
  Calls Tryz.prog 69 #[.agg #[ar1,.int .i64 (i:Int),n,s],.int .i64 (me:Int)] w fun e w'=>e=.returned (.int .i64 (kM t i me:Int))∧Kp w w':=by
 have hnode:∀ k,k<(abT t i K).length→-9223372036854775808≤(spAt (abT t i K) k).node∧(spAt (abT t i K) k).node≤9223372036854775807:=fun k hk=>by
  rw[abQ] at hk;rw[aeI hk];have hlen:=hr.len2;have hp2:=abH hr.le;have hi:i<2 ^ K:=by have:=aaa.lt_of (t:=t) (x:=2*i) (by rw[hki];decide);omega
  have hl:=(aaE t i K).1;have hm:(aac t i K).getD k 0∈aac t i K:=by rw[List.getD_eq_getElem?_getD,List.getElem?_eq_getElem (by omega)];exact List.getElem_mem _
  have h2:=abh hi (aaU hm);dsimp only
  omega
 have HI:=Lib.hid (fun W (hW:Kp w W) g (hc:W.cell? ⟨g,0,none⟩=some (.int .i64 (me:Int)))=>ahj s (abT t i K) (me:Int) g W (arZ.kp hu.steps hW) hc hnode (hT.kp hW));have HR:=Lib.hid (fun r h=>ali (r:=r) hr hki hne hs h);obtain ⟨au,nu,cu,rfl⟩:=hu.tree.sl;obtain ⟨an,nn,cn,rfl⟩:=hu.nodes.sl;obtain ⟨as',ns',cs',rfl⟩:=SE.sl hu.steps;generalize aio (abT t i K) (fun s=>loV s.node≤(me:Int)∧(me:Int)≤hiV s.node)=FP at *;generalize kM t i me=KMM at *;clear hu hr hki hne hs hT hnode;go_enter Tryz.func69,Tryz.ntmps69;go_wp2_with fail;refine (HI.out _ (((Kp.refl _).alloc _).alloc _) (w.heap.size+1) (by
  have:=(Bx.new (w.alloc (.cells #[.slice au nu cu,.int .i64 (i:Int),.slice an nn cn,.slice as' ns' cs'] 95)) 3 #[.int .i64 (me:Int)]).cell 0;rw[World.size_alloc] at this;exact this)).mono ?_;rintro _ w2 ⟨⟨r,rfl,hf⟩,k2⟩
 obtain rfl:=HR.out r hf;have K2:Hid (Kp w w2):=(((Kp.refl _).alloc _).alloc _).trans k2;clear hf k2 HI HR;go_wp2_with fail;go_ret;exact ⟨rfl,K2.out⟩
end Go.Proofs.YthmhklmkgkfcpaaGreatDoor

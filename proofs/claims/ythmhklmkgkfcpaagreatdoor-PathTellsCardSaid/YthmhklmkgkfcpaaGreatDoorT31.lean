import Derived.Test.YthmhklmkgkfcpaaGreatDoorT10
import Derived.Test.YthmhklmkgkfcpaaGreatDoorT14
import Derived.Test.YthmhklmkgkfcpaaGreatDoorT16
import Derived.Test.YthmhklmkgkfcpaaGreatDoorT22
import Derived.Test.YthmhklmkgkfcpaaGreatDoorT28
import Derived.Test.YthmhklmkgkfcpaaGreatDoorT30
import Derived.Deep.RegionHeld3
set_option linter.unusedVariables false
set_option linter.unusedSimpArgs false
set_option maxHeartbeats 8000000
set_option maxRecDepth 100000
namespace Go.Proofs.YthmhklmkgkfcpaaGreatDoor
open Go.RowKit
theorem aeH (ar1:Value)(t:List Nod)(i:Int)(w:World)(hu:NL w ar1 t)(hl:t.length≤100000):
  Calls Tryz.prog 25 #[ar1,.int .i64 i] w fun e w'=>e=.returned (.bool (decide (aas t i)))∧w=w':=by
 have HL:=Lib.hid (abZ ar1 t w hu hl);have hlm:=aeE (t:=t) hl;obtain ⟨a,c,rfl,p1,s1⟩:=hu.shape;by_cases h0:0≤i
 ·obtain ⟨k,rfl⟩:=Int.eq_ofNat_of_zero_le h0
  by_cases h1:k<lvs t
  ·have hk2:=aiI h1
   obtain ⟨b,off,rfl,hb,hc⟩:=hu.at (2*k) hk2;obtain ⟨p,q,h,hn⟩:=hc (2*k) hk2;have c1:=hn.kind;have i2:IntKind.i64.wrap (2*(k:Int))=((2*k:Nat):Int):=by rw[IntWalk.i64_in _ (by omega)];omega
   have i3:((2*k:Nat):Int)<(t.length:Int):=by omega
   have i4:(k:Int)<((lvs t:Nat):Int):=by omega
   have e:decide (aas t (k:Int))=decide ((ats t (2*k)).kind=1):=decide_eq_decide.2 ⟨fun h=>by have:=h.2.2;rwa [Int.toNat_natCast] at this,fun h=>⟨by omega,by omega,by rw[Int.toNat_natCast];exact h⟩⟩;rw[e];generalize (ats t (2*k)).kind=X at *;generalize lvs t=L at *;generalize t.length=N at *;generalize 2*k=K2 at *;clear hc hn hu e hb hk2;go_enter Tryz.func25,Tryz.ntmps25;go_wp2_with fail;refine HL.out.mono ?_;rintro _ _ ⟨rfl,rfl⟩;by_cases hx:X=1
   ·subst hx
    go_wp2_with fail;go_ret;exact ⟨rfl,rfl⟩
   ·have hxb:(X==1)=false:=beq_eq_false_iff_ne.2 hx
    have HD:=Lib.hid (decide_eq_false hx);go_wp2_with fail;go_ret;exact ⟨by rw[HD.out] <;> first | rfl | simp[hxb],rfl⟩
  ·have e:decide (aas t (k:Int))=false:=decide_eq_false fun h=>by have:=h.2.1;omega
   have i4:¬(k:Int)<((lvs t:Nat):Int):=by omega
   rw[e];generalize lvs t=L at *;generalize t.length=N at *;clear hu e;go_enter Tryz.func25,Tryz.ntmps25;go_wp2_with fail;refine HL.out.mono ?_;rintro _ _ ⟨rfl,rfl⟩;go_wp2_with fail;go_ret;exact ⟨rfl,rfl⟩
 ·have e:decide (aas t i)=false:=decide_eq_false fun h=>h0 h.1
  rw[e];generalize t.length=N at *;clear hu e HL hlm hl;go_enter Tryz.func25,Tryz.ntmps25;go_wp2_with fail;go_ret;exact ⟨rfl,rfl⟩
theorem aow {own:List Sd}{x:Int}{k:Nat}(hk:k<own.length)(h:(sdAt own k).node=x)(hp:∀ j,j<k→(sdAt own j).node≠x):aaJ own x=(sdAt own k).seed:=by
 induction own generalizing k with
 | nil=>exact absurd hk (Nat.not_lt_zero _)
 | cons s l ih=>
  unfold aaJ
  cases k with
  | zero=>rw[if_pos (show s.node=x from h)];rfl
  | succ k=>
   rw[if_neg (show ¬s.node=x from hp 0 (Nat.succ_pos _))]
   exact ih (by simpa using hk) h fun j hj=>hp (j+1) (Nat.succ_lt_succ hj)
theorem amP {own:List Sd}{x:Int}(hp:∀ j,j<own.length→(sdAt own j).node≠x):aaJ own x=[]:=by
 induction own with
 | nil=>rfl
 | cons s l ih=>
  unfold aaJ
  rw[if_neg (show ¬s.node=x from hp 0 (by simp))]
  exact ih fun j hj=>hp (j+1) (by simpa using hj)
theorem SL.shape {w:World}{v:Value}{l:List Sd}(h:SL w v l):∃ a c,v=.slice a l.length c∧l.length≤c∧c≤maxLen:=SE.shape h
theorem ai6 (ar1:Value)(own:List Sd)(x:Int)(w:World)(hu:SL w ar1 own)(hl:own.length≤100000):
  Calls Tryz.prog 51 #[ar1,.int .i64 x] w fun e w'=>(∃ r,e=.returned r∧Rd w r (aaJ own x))∧w=w':=by
 obtain ⟨a,c,rfl,p1,s1⟩:=hu.shape;have HU:=Lib.hid hu;have HY:Hid (∀ k,k<own.length→(sdAt own k).node=x→(∀ j,j<k→(sdAt own j).node≠x)→aaJ own x=(sdAt own k).seed):=fun k hk h hp=>aow hk h hp
 have HN:Hid ((∀ j,j<own.length→(sdAt own j).node≠x)→aaJ own x=[]):=fun h=>amP h
 generalize aaJ own x=FV at *;obtain ⟨N,hN⟩:∃ N,own.length=N:=⟨_,rfl⟩;rw[hN] at p1 HU HY HN hl ⊢;have HN2:=Lib.hid hN;clear hu hN;go_enter Tryz.func51,Tryz.ntmps51;go_wp2_with fail;go_loop [5] (fun i=>∃ k:Nat,k≤N∧i=.int .i64 (k:Int)∧(∀ j,j<k→(sdAt own j).node≠x)) (fun i=>(N - (intOf i).toNat))
 case atStart=>exact ⟨0,Nat.zero_le _,rfl,fun t h=>by omega⟩
 case round=>
  obtain ⟨k,hk,rfl,hpre⟩:=hrel;by_cases hlt:k<N
  ·obtain ⟨b,off,cc,q,e,hb,c1,c2,hq⟩:=SL.node (i:=k) HU.out (by rw[HN2.out];exact hlt)
   rw[HN2.out] at e;simp only[Value.slice.injEq] at e;obtain ⟨rfl,_,rfl⟩:=e;have i1:IntKind.i64.wrap ((k:Int)+1)=(k:Int)+1:=IntWalk.i64_in _ (by omega);have i3:(k:Int)<(N:Int):=by omega
   have HYK:=Lib.hid (HY.out k hlt);have HPR:=Lib.hid hpre;have HQ:=Lib.hid hq;clear HY hpre hq hb;obtain ⟨aq,nq,cq,rfl⟩:=aab HQ.out;by_cases h1:(sdAt own k).node=x
   ·have e2:=HYK.out h1 HPR.out
    have HF:=Lib.hid e2;have hbe:((sdAt own k).node==x)=true:=by rw[h1];exact beq_self_eq_true _
    generalize (sdAt own k).node=X at *;clear HYK HPR e2;subst h1;go_wp2_with fail;go_ret;exact ⟨⟨_,rfl,by rw[HF.out];exact HQ.out⟩,rfl⟩
   ·have HP:Hid (∀ j,j<k+1→(sdAt own j).node≠x):=fun j hj=>by
     rcases Nat.lt_or_eq_of_le (Nat.lt_succ_iff.1 hj) with h3 | h3
     ·exact HPR.out j h3
     ·rw[h3];exact h1
    have hbe:((sdAt own k).node==x)=false:=beq_eq_false_iff_ne.2 h1;generalize (sdAt own k).node=X at *;clear HYK HPR;go_wp2_with fail;go_round
    case rel=>exact ⟨k+1,by omega,by go_num,HP.out⟩
    case measure=>simp[intOf];omega
  ·obtain rfl:k=N:=by omega
   have HF:=Lib.hid (HN.out hpre);clear HN hpre HY;go_wp2_with fail;go_ret;exact ⟨⟨_,rfl,by rw[HF.out];exact aaM _⟩,rfl⟩
theorem ag5 {K i m:Nat}(h:m<K):(aaF K 0 i).getD m 0=nd m (sq (i / 2 ^ m)):=by
 unfold aaF;rw[List.getD_eq_getElem?_getD,List.getElem?_map,List.getElem?_range (by omega)];simp
theorem ag6 {K i m:Nat}(h:m<K):(aag K 0 i).getD m 0=nd (m+1) (i / 2 ^ (m+1)):=by
 unfold aag;rw[List.getD_eq_getElem?_getD,List.getElem?_map,List.getElem?_range (by omega)];simp[Nat.add_comm]
theorem ade (K i:Nat):(aag K 0 i).length=K:=by unfold aag;simp
theorem ag7 (K i:Nat):(aaF K 0 i).length=K:=by unfold aaF;simp
theorem apQ {t:List Nod}{i m:Nat}(h:(whoF t i m).length=0):aac t i (m+1)=aac t i m∧whoN t i (m+1)=whoN t i m:=by
 unfold aac whoN;rw[show ixS t i (m+1)=ixS t i m by rw[ixS];rw[if_pos h]];exact ⟨rfl,rfl⟩
theorem aox {t:List Nod}{i m:Nat}(h:(whoF t i m).length≠0):aac t i (m+1)=aac t i m++[nd (m+1) (i / 2 ^ (m+1))]∧whoN t i (m+1)=whoN t i m++[whoF t i m]:=by
 unfold aac whoN;rw[show ixS t i (m+1)=ixS t i m++[m] by rw[ixS];rw[if_neg h],List.map_append,List.map_append];exact ⟨rfl,rfl⟩
theorem apR (t:List Nod)(i m:Nat):(aac t i m).length≤m∧(whoN t i m).length≤m:=by
 have:=aaE t i m;have:=act t i m;omega
structure Two (e1 e2:TypeId)(w:World)(B:Nat)(v1 v2:Value)(l1:List Nat)(l2:List (List Int)):Prop where
 mk ::
 a:GZ shN e1 noB w B v1 l1
 b:GZ shRI e2 (fun g=>some g=v1.ownBlock) w B v2 l2
 ne:∀ g,v1.ownBlock=some g→v2.ownBlock≠some g
theorem Two.kp {e1 e2:TypeId}{w w':World}{B:Nat}{v1 v2:Value}{l1:List Nat}{l2:List (List Int)}(h:Two e1 e2 w B v1 v2 l1 l2)(k:Kp w w'):Two e1 e2 w' B v1 v2 l1 l2:=⟨h.a.kp k,h.b.kp k,h.ne⟩
theorem Two.nil (e1 e2:TypeId)(w:World)(B:Nat):Two e1 e2 w B (.slice none 0 0) (.slice none 0 0) [] []:=⟨GZ.nil _ _ _,GZ.nil _ _ _,fun g h=>by cases h⟩
theorem Two.one {e1 e2:TypeId}{w w':World}{B:Nat}{v1 v2 v1':Value}{l1 l1':List Nat}{l2:List (List Int)}(h:Two e1 e2 w B v1 v2 l1 l2)(ha:GZ shN e1 noB w' B v1' l1')(hg:w.grownBy w' v1.ownBlock)(hv:v1'.ownBlock=v1.ownBlock∨v1'.ownBlock=some w.heap.size):Two e1 e2 w' B v1' v2 l1' l2:=by
 have hb:GZ shRI e2 (fun g=>some g=v1.ownBlock) w' B v2 l2:=h.b.step (Y:=fun g=>some g=v1.ownBlock) ⟨hg.os,hg.tape,hg.output,hg.size,fun k hk hn=>hg.block k hk hn⟩ (fun g hg=>.inl hg) (fun g hg he=>h.ne g he.symm hg);have hb0:GZ shRI e2 (fun g=>some g=v1.ownBlock∨w.heap.size≤g) w B v2 l2:=h.b.solidly fun g hg=>hg.elim (fun h=>.inr (.inl h)) fun h=>.inr (.inr fun hs=>by have:=hs.lt;omega)
 have hb1:GZ shRI e2 (fun g=>some g=v1.ownBlock∨w.heap.size≤g) w' B v2 l2:=hb0.step (Y:=fun g=>some g=v1.ownBlock) ⟨hg.os,hg.tape,hg.output,hg.size,fun k hk hn=>hg.block k hk hn⟩ (fun g hg=>.inl (.inl hg)) (fun g hg he=>h.ne g he.symm hg);refine ⟨ha,?_,fun g hg' e=>?_⟩
 ·rcases hv with hv | hv
  ·rw[hv];exact hb
  ·refine hb1.solidly fun g hg'=>.inr (.inl (.inr ?_))
   rw[hv] at hg';cases hg';exact Nat.le_refl _
 ·rcases hv with hv | hv
  ·exact h.ne g (hv▸hg') e
  ·rw[hv] at hg'
   cases hg';have:=(h.b.lt _ e).2;omega
theorem Two.two {e1 e2:TypeId}{w w':World}{B:Nat}{v1 v2 v2':Value}{l1:List Nat}{l2 l2':List (List Int)}(h:Two e1 e2 w B v1 v2 l1 l2)(hb:GZ shRI e2 (fun g=>some g=v1.ownBlock) w' B v2' l2')(hg:w.grownBy w' v2.ownBlock)(hv:v2'.ownBlock=v2.ownBlock∨v2'.ownBlock=some w.heap.size):Two e1 e2 w' B v1 v2' l1 l2':=by
 refine ⟨?_,hb,fun g hg' e=>?_⟩
 ·have h0:GZ shN e1 (fun g=>some g=v2.ownBlock) w B v1 l1:=h.a.anyN
  exact (h0.step (Y:=fun g=>some g=v2.ownBlock) ⟨hg.os,hg.tape,hg.output,hg.size,fun k hk hn=>hg.block k hk hn⟩ (fun g hg=>.inl hg) (fun g hg he=>h.ne g hg he.symm)).anyN
 ·rcases hv with hv | hv
  ·exact h.ne g hg' (hv▸e)
  ·rw[hv] at e
   cases e;have:=(h.a.lt _ hg').2;omega
theorem apS {e e1 e2:TypeId}{wr w3 w4:World}{B:Nat}{v1 v2 v4 r:Value}{l1:List Nat}{l2:List (List Int)}{WM:List Int}{o:Obj}(ht:Two e1 e2 wr B v1 v2 l1 l2)(ho:OI e w3 wr.heap.size r WM)(hg:(w3.alloc o).grownBy w4 v1.ownBlock)
  (hv:v4.ownBlock=v1.ownBlock∨v4.ownBlock=some (w3.alloc o).heap.size):RI w4 r WM∧Free (fun g=>some g=v2.ownBlock∨some g=v4.ownBlock) r:=by
 have h1:RI (w3.alloc o) r WM:=ho.ri.kp ((Kp.refl _).alloc _);refine ⟨h1.stepF (Y:=fun g=>some g=v1.ownBlock) ⟨hg.os,hg.tape,hg.output,hg.size,fun k hk hn=>hg.block k hk hn⟩ (aaQ (C:=wr.heap.size) (fun g hg=>(ho.lt g hg).1) fun g hg=>(ht.a.lt g hg.symm).2),fun x n c e h0 hk=>?_⟩;have hr:=ho.lt x.block (by rw[e];rfl);rcases hk with hk | hk
 ·have:=(ht.b.lt _ hk.symm).2
  omega
 ·rcases hv with hv | hv
  ·have:=(ht.a.lt _ (hv▸hk.symm)).2
   omega
  ·rw[hv] at hk
   simp only[Option.some.injEq,World.size_alloc] at hk;omega
theorem aj8 (ar1:Value)(t:List Nod)(K i:Nat)(w:World)(hu:NL w ar1 t)(hr:aaa t K)(hi:i<2 ^ K):
  Calls Tryz.prog 41 #[ar1,.int .i64 (i:Int)] w fun e w'=>(∃ a b,e=.returned (.tuple #[a,b])∧RN w' a (aac t i K)∧arZ shRI w' b (whoN t i K))∧Kp w w':=by
 obtain ⟨z1,z2,z3⟩:=hr.small;have hp:=abH hr.le;have hK10:=hr.le;have HL:=Lib.hid (abZ ar1 t w hu (by omega));rw[hr.lv] at HL;have HP:=Lib.hid (fun W=>aeD K 0 i W hr.le (Nat.zero_le _) (by simpa using hi));have HC:=Lib.hid (fun W=>aiF K 0 i W hr.le (Nat.zero_le _) (by simpa using hi));have HRS:=Lib.hid (fun (m:Nat) W (hW:Kp w W)=>ahv ar1 t K ((nd m (sq (i / 2 ^ m)):Nat):Int) W (hu.kp hW) hr);rw[abt] at HP HC;have HCA:=Lib.hid (fun m (h:m<K)=>ag5 (i:=i) h);have HPA:=Lib.hid (fun m (h:m<K)=>ag6 (i:=i) h);have HPL:=Lib.hid (ade K i);have HCL:=Lib.hid (ag7 K i);have HSN:=Lib.hid (fun m=>apQ (t:=t) (i:=i) (m:=m));have HSY:=Lib.hid (fun m=>aox (t:=t) (i:=i) (m:=m));have HSL:=Lib.hid (fun m=>apR t i m);have HW:Hid (∀ m,resV t ((nd m (sq (i / 2 ^ m)):Nat):Int)=whoF t i m):=fun m=>rfl
 have i2:IntKind.i64.wrap (2*(i:Int))=((2*i:Nat):Int):=by rw[IntWalk.i64_in _ (by omega)];omega
 generalize aag K 0 i=PT at *;generalize aaF K 0 i=CT at *;have Hs0:Hid (aac t i 0=[]∧whoN t i 0=[]):=⟨rfl,rfl⟩;generalize hST:aac t i=ST at *;generalize hWH:whoN t i=WH at *;generalize hWF:whoF t i=WF at *;generalize hLV:2 ^ K=L at *;obtain ⟨a,c,rfl,p1,s1⟩:=hu.shape;obtain ⟨N,hN⟩:∃ N,t.length=N:=⟨_,rfl⟩;rw[hN] at HL HRS p1 z1 ⊢;generalize hI2:2*i=I2 at *;clear hu hr hi hLV hST hWH hWF z2 z3 hN hI2;go_enter Tryz.func41,Tryz.ntmps41;go_wp2_with fail;refine HL.out.mono ?_;rintro _ _ ⟨rfl,rfl⟩;go_wp2_with fail;refine (HP.out w).mono ?_;rintro _ w1 ⟨⟨pv,rfl,o1⟩,k1⟩;have r1:=o1.rn;obtain ⟨ap,cp,e1,p2,s2⟩:=r1.shape;subst e1;rw[HPL.out] at r1 p2 ⊢;have R1:=Lib.hid r1;have K1:=Lib.hid k1;clear o1 r1 k1 HP;go_wp2_with fail;refine (HC.out w1).mono ?_;rintro _ w2 ⟨⟨cv,rfl,r2⟩,k2⟩;obtain ⟨ac,cc,e2,p3,s3⟩:=r2.shape;subst e2;rw[HCL.out] at r2 p3 ⊢;have R2:=Lib.hid (And.intro (R1.out.kp k2) (And.intro r2 (K1.out.trans k2)));clear r2 k2 HC R1 K1 HL;go_wp2_with fail;go_loopw[11,12,13] (fun x y z wr=>∃ m:Nat,m≤K∧z=.int .i64 (m:Int)∧Two 3 34 wr w2.heap.size x y (ST m) (WH m)∧Kp w2 wr) (fun x y z _=>(K - (intOf z).toNat))
 case atStart=>exact ⟨0,Nat.zero_le _,rfl,by rw[Hs0.out.1,Hs0.out.2];exact Two.nil _ _ _ _,Kp.refl _⟩
 case round=>
  obtain ⟨m,hm,rfl,ht,hkp⟩:=hrel;have HT:=Lib.hid (And.intro ht hkp);clear ht hkp;by_cases hlt:m<K
  ·obtain ⟨gp,op,rfl,_,hcp⟩:=(R2.out.1.kp HT.out.2).at m hlt
   obtain ⟨gc,oc,rfl,_,hcc⟩:=(R2.out.2.1.kp HT.out.2).at m hlt;have c1:=hcp m hlt;have c2:=hcc m hlt;rw[HPA.out m hlt] at c1;rw[HCA.out m hlt] at c2;have i1:IntKind.i64.wrap ((m:Int)+1)=(m:Int)+1:=IntWalk.i64_in _ (by omega);have i3:(m:Int)<(K:Int):=by omega
   have HR:=Lib.hid (HRS.out m wr (R2.out.2.2.trans HT.out.2));rw[HW.out m] at HR;have HLE:=Lib.hid (HSL.out m);have HN1:=Lib.hid (HSN.out m);have HY1:=Lib.hid (HSY.out m);have HC1:Hid (∀ W,Kp wr W→W.cell? ⟨gp,op+m,none⟩=some (.int .i64 ((nd (m+1) (i / 2 ^ (m+1)):Nat):Int))):=fun W hW=>hW.cell c1
   generalize nd (m+1) (i / 2 ^ (m+1))=X at *;generalize nd m (sq (i / 2 ^ m))=Y at *;clear hcp hcc HRS HCA HPA HSN HSY HSL HW;go_wp2_with fail;refine HR.out.mono ?_;rintro _ w3 ⟨⟨r,rfl,o3⟩,k3⟩;have O3:=Lib.hid o3;have K3:=Lib.hid k3;have T3:=Lib.hid (HT.out.1.kp k3);have KW:=Lib.hid (HT.out.2.trans k3);have c3:=HC1.out w3 k3;have hri:=o3.ri;obtain ⟨ar,cr,e3,p4,s4⟩:=hri.shape;subst e3;generalize WF m=WM at *;by_cases h0:WM.length=0
   ·have h0i:¬(0:Int)<(WM.length:Int):=by omega
    have HE:=Lib.hid (HN1.out h0);clear o3 k3 hri HR c1 c2 HC1 HY1;go_wp2_with fail;go_roundw
    case rel=>exact ⟨m+1,by omega,by go_num,by rw[HE.out.1,HE.out.2];exact T3.out,KW.out⟩
    case measure=>simp[intOf];omega
   ·have h0i:(0:Int)<(WM.length:Int):=by omega
    have HE:=Lib.hid (HY1.out h0);clear o3 k3 hri HR c1 c2 HC1 HN1 h0;have hle:(ST m).length+1≤1000000∧(WH m).length+1≤1000000:=by have:=HLE.out;omega
    have HB:Hid (w2.heap.size≤w3.heap.size):=KW.out.size;go_wp2_with (first
     | (at_builtin;refine aaK (S:=shN) (Z:=noB) (o:=⟨some 52,_,_,_,_,_⟩) nK rfl _ _ rfl w2.heap.size _ (ST m) rfl (T3.out.a.kp ((Kp.refl _).alloc _)) _ [X] rfl (SE.litZ (S:=shN) 3 rfl rfl) (by exact hle.1) (Nat.le_trans HB.out (by simp)) ?_;intro v4 w4 o4 g4 q4;have t4:Two 3 34 w4 w2.heap.size v4 _ (ST m++[X]) (WH m):=Two.one (T3.out.kp ((Kp.refl _).alloc _)) o4 g4 q4;have k4:Kp w2 w4:=Kp.grown (KW.out.alloc _) g4 (fun k hk=>(T3.out.a.lt k hk).1);have R4:=Lib.hid (apS HT.out.1 O3.out g4 q4);have T4:=Lib.hid t4;have K4:=Lib.hid k4)
     | (at_builtin;refine aaK (S:=shRI) (Z:=fun g=>some g=v4.ownBlock) (o:=⟨some 56,_,_,_,_,_⟩) riK rfl _ _ rfl w2.heap.size _ (WH m) rfl (T4.out.b.kp ((Kp.refl _).alloc _)) _ [WM] rfl (SE.litZ (S:=shRI) 34 ⟨_,rfl,R4.out.1,R4.out.2⟩ rfl) (by exact hle.2) (Nat.le_trans K4.out.size (by simp)) ?_;intro v5 w5 o5 g5 q5;have T5:=Lib.hid (Two.two (T4.out.kp ((Kp.refl _).alloc _)) o5 g5 q5);have K5:Hid (Kp w2 w5):=Kp.grown (K4.out.alloc _) g5 (fun k hk=>(T4.out.b.lt k hk).1)))
    go_roundw
    case rel=>exact ⟨m+1,by omega,by go_num,by rw[HE.out.1,HE.out.2];exact T5.out,K5.out⟩
    case measure=>simp[intOf];omega
  ·obtain rfl:m=K:=by omega
   have h1:¬(m:Int)<(m:Int):=by omega
   have HE:=Lib.hid (And.intro HT.out.1.a.gl.rn (And.intro HT.out.1.b.gl (R2.out.2.2.trans HT.out.2)));clear HRS HCA HPA HSN HSY HSL HW;go_wp2_with fail;go_ret2;exact ⟨⟨_,_,rfl,HE.out.1,HE.out.2.1⟩,HE.out.2.2⟩
theorem ahF (ar1:Value)(t:List Nod)(K:Nat)(i:Int)(w:World)(hu:NL w ar1 t)(hr:aaa t K):
  Calls Tryz.prog 14 #[ar1,.int .i64 i] w fun e w'=>(∃ v,e=.returned (.tuple #[v,.int .i64 (abO t i)])∧RN w' v (adL t K i))∧Kp w w':=by
 obtain ⟨z1,z2,z3⟩:=hr.small;have HF:=Lib.hid (aeH ar1 t i w hu (by omega));by_cases hth:aas t i
 ·obtain ⟨k,rfl,hk,hkind,hk2⟩:=acI hr hth
  have e1:abO t (k:Int)=0:=by unfold abO;rw[if_pos hth]
  have e2:adL t K (k:Int)=aac t k K:=by unfold adL;rw[if_pos hth,Int.toNat_natCast]
  rw[decide_eq_true hth] at HF;rw[e1,e2];have HS:=Lib.hid (aj8 ar1 t K k w hu hr hk);obtain ⟨a,c,rfl,_,_⟩:=hu.shape;generalize aac t k K=ST at *;generalize whoN t k K=WH at *;generalize t.length=N at *;clear hu hr hth e1 e2 hkind hk2 z1 z2 z3;go_enter Tryz.func14,Tryz.ntmps14;go_wp2_with fail;refine HF.out.mono ?_;rintro _ _ ⟨rfl,rfl⟩;go_wp2_with fail;refine HS.out.mono ?_;rintro _ w1 ⟨⟨x,y,rfl,r1,r2⟩,k1⟩;have R1:=Lib.hid (And.intro r1 k1);obtain ⟨a1,n1,c1,rfl⟩:=r1.sl;obtain ⟨a2,n2,c2,rfl⟩:=SE.sl r2;clear r1 r2 k1;go_wp2_with fail;go_ret2;exact ⟨⟨_,rfl,R1.out.1⟩,R1.out.2⟩
 ·have e1:abO t i=11:=by unfold abO;rw[if_neg hth]
  have e2:adL t K i=[]:=by unfold adL;rw[if_neg hth]
  rw[decide_eq_false hth] at HF;rw[e1,e2];obtain ⟨a,c,rfl,_,_⟩:=hu.shape;generalize t.length=N at *;clear hu hr hth e1 e2 z1 z2 z3;go_enter Tryz.func14,Tryz.ntmps14;go_wp2_with fail;refine HF.out.mono ?_;rintro _ _ ⟨rfl,rfl⟩;go_wp2_with fail;go_ret2;exact ⟨⟨_,rfl,RN.nil _⟩,Kp.refl _⟩
theorem NL.node {w:World}{v:Value}{t:List Nod}(h:NL w v t){x:Nat}(hx:x<t.length):
  ∃ b off c p ar1 q,v=.slice (some ⟨b,off,none⟩) t.length c∧NAt w b (off+x*5) (ats t x) p ar1 q:=by
 obtain ⟨a,c,rfl,h1,h2⟩:=h.shape;obtain ⟨b,off,rfl,_,hi⟩:=h.at x hx;obtain ⟨p,ar1,q,hn⟩:=hi x hx;exact ⟨b,off,c,p,ar1,q,rfl,hn⟩
theorem abo.lt {t:List Nod}{K:Nat}(h:abo t K){j q:Nat}(hj:j≤K)(hq:q<2 ^ (K - j)):nd j q<t.length∧nd j q≤2046:=by
 have h1:=afg hj hq;have h2:=aa1 h.le hj hq;rw[h.len];exact ⟨h1,h2.1⟩
theorem arP {K j q:Nat}(hj:j+1≤K)(hq:q<2 ^ (K - (j+1))):2*q<2 ^ (K - j)∧2*q+1<2 ^ (K - j):=by
 have e:K - j=(K - (j+1))+1:=by omega
 rw[e,aal];omega
theorem abo.at {t:List Nod}{K:Nat}(h:abo t K){x:Nat}(hx:x<t.length):∃ j q,x=nd j q∧j≤K∧q<2 ^ (K - j):=ahm K x (by rw[← h.len];exact hx)
theorem alQ (p:List St):∀ (l:List Nat) (k x:Nat) (t:List Nod),setS p k (l++[x]) t=(setS p k l t).set x ⟨2,0,(stAt p (k+l.length)).pub,[],[]⟩
 | [],k,x,t=>rfl
 | y :: l,k,x,t=>by
  show setS p (k+1) (l++[x]) _=(setS p (k+1) l _).set x _
  rw[alQ p l (k+1) x,show k+1+l.length=k+(y :: l).length by simp;omega]
theorem aq8 (p:List St)(l:List Nat)(t:List Nod){j:Nat}(h:j<l.length):setS p 0 (l.take (j+1)) t=(setS p 0 (l.take j) t).set (l.getD j 0) ⟨2,0,(stAt p j).pub,[],[]⟩:=by
 rw[List.take_succ_eq_append_getElem h,alQ,List.length_take,Nat.min_eq_left (by omega),Nat.zero_add,List.getD_eq_getElem?_getD,List.getElem?_eq_getElem h];rfl
theorem aoz {p:List St}{t:List Nod}{K i:Nat}(hr:aaa t K)(hT:abo t K)(hk:(ats t (2*i)).kind=1){pub:List UInt8}(hp:pub.length=32)(hs:∀ a,a<(aac t i K).length→(stAt p a).pub.length=32):
  abo (setS p 0 (aac t i K) (updT t i pub)) K:=by
 have hlt:=aaa.lt_of (t:=t) (x:=2*i) (by rw[hk];decide);have hl2:=hr.len2;have hi:i<2 ^ K:=by omega
 have hA:=hr.updAt hi pub;have hL:=aaa.updLen (t:=t) i pub;have hm:∀ x∈aac t i K,x<(updT t i pub).length:=fun x hx=>by rw[hL,hr.len];exact abh hi (aaU hx)
 have hTU:abo (updT t i pub) K:=by
  refine ⟨hr.le,by rw[hL,hr.len],fun y=>?_,fun y hy=>?_⟩
  ·rw[hA]
   split
   ·have hn:=(hT.node (2*i)).name
    exact ⟨.inr (.inl rfl),hn,by show pub.length≤40;omega,Nat.zero_le _,Nat.zero_le _,fun i hi=>by cases hi⟩
   ·split
    ·exact adN.blank
    ·exact hT.node y
  ·rw[hA] at hy
   split at hy
   ·cases hy
   ·split at hy
    ·cases hy
    ·exact hT.par y hy
 refine hTU.over (agb _ _ _ _) fun y=>?_
 by_cases hy:y∈aac t i K
 ·obtain ⟨a,ha,rfl⟩:=List.getElem_of_mem hy
  have e:=akQ p (aac t i K) 0 (updT t i pub) (ab0 t i K) hm a ha;rw[Nat.zero_add,List.getD_eq_getElem?_getD,List.getElem?_eq_getElem ha] at e;exact .inr ⟨abK (aaU hy),.inr ⟨_,hs a ha,e⟩⟩
 ·exact .inl (agc _ _ _ _ _ hm hy)
def alf (own:List Sd):Prop:=own.length≤20∧∀ k,k<own.length→(sdAt own k).seed.length≤40
def fewP (p:Pa):Prop:=p.pub.length≤40∧p.step.length≤10∧∀ k,k<p.step.length→(stAt p.step k).pub.length≤40∧(stAt p.step k).fors.length≤20∧∀ j,j<(stAt p.step k).fors.length→(seAt (stAt p.step k).fors j).half.length≤40∧(seAt (stAt p.step k).fors j).b.length≤100
theorem ahh (ar1:Value)(own:List Sd)(w:World)(hu:SL w ar1 own):Calls Tryz.prog 11 #[ar1] w fun e w'=>aai e (alf own)∧w=w':=by
 obtain ⟨a,c,rfl,p1,s1⟩:=hu.shape;have HU:=Lib.hid hu;have HNO:Hid (20<own.length→¬alf own):=fun h h2=>by have:=h2.1;omega
 have HN2:Hid (∀ k,k<own.length→40<(sdAt own k).seed.length→¬alf own):=fun k hk h h2=>by have:=h2.2 k hk;omega
 have HYES:Hid (own.length≤20→(∀ k,k<own.length→(sdAt own k).seed.length≤40)→alf own):=fun h1 h2=>⟨h1,h2⟩
 generalize alf own=P at *;obtain ⟨N,hN⟩:∃ N,own.length=N:=⟨_,rfl⟩;have HN:=Lib.hid hN;rw[hN] at p1 HU HNO HN2 HYES ⊢;clear hu hN;by_cases h20:20<N
 ·have HB:=Lib.hid (HNO.out h20)
  have h3:(20:Int)<(N:Int):=by omega
  clear HNO HN2 HYES;go_enter Tryz.func11,Tryz.ntmps11;go_wp2_with fail;go_ret;exact ⟨aai.no HB.out,rfl⟩
 ·have h3:¬(20:Int)<(N:Int):=by omega
  go_enter Tryz.func11,Tryz.ntmps11;go_wp2_with fail;go_loop [3] (fun i=>∃ k:Nat,k≤N∧i=.int .i64 (k:Int)∧(∀ j,j<k→(sdAt own j).seed.length≤40)) (fun i=>(N - (intOf i).toNat))
  case atStart=>exact ⟨0,Nat.zero_le _,rfl,fun t h=>by omega⟩
  case round=>
   obtain ⟨k,hk,rfl,hpre⟩:=hrel;have HPR:=Lib.hid hpre;clear hpre;by_cases hlt:k<N
   ·obtain ⟨b,off,cc,q,e,hb,c1,c2,hq⟩:=SL.node (i:=k) HU.out (by rw[HN.out];exact hlt)
    rw[HN.out] at e;simp only[Value.slice.injEq] at e;obtain ⟨rfl,_,rfl⟩:=e;have i1:IntKind.i64.wrap ((k:Int)+1)=(k:Int)+1:=IntWalk.i64_in _ (by omega);have i3:(k:Int)<(N:Int):=by omega
    have HNK:=Lib.hid (HN2.out k hlt);obtain ⟨aq,cq,rfl,_,_⟩:=hq.shape;generalize hL:(sdAt own k).seed.length=L at *;have HLL:=Lib.hid hL;clear hL hq;by_cases h40:40<L
    ·have HB:=Lib.hid (HNK.out h40)
     have h5:(40:Int)<(L:Int):=by omega
     clear HNO HN2 HYES HNK;go_wp2_with fail;go_ret;exact ⟨aai.no HB.out,rfl⟩
    ·have h5:¬(40:Int)<(L:Int):=by omega
     have HP:Hid (∀ j,j<k+1→(sdAt own j).seed.length≤40):=fun j hj=>by
      rcases Nat.lt_or_eq_of_le (Nat.lt_succ_iff.1 hj) with h3 | h3
      ·exact HPR.out j h3
      ·rw[h3,HLL.out];omega
     clear HNO HN2 HYES HNK;go_wp2_with fail;go_round
     case rel=>exact ⟨k+1,by omega,by go_num,HP.out⟩
     case measure=>simp[intOf];omega
   ·obtain rfl:k=N:=by omega
    have HB:=Lib.hid (HYES.out (by omega) HPR.out);clear HNO HN2 HYES;go_wp2_with fail;go_ret;exact ⟨aai.yes HB.out,rfl⟩
theorem aiq (x y:Value)(p:Pa)(w:World)(hp:PIn w x y p):Calls Tryz.prog 12 #[.agg #[x,y]] w fun e w'=>aai e (fewP p)∧Kp w w':=by
 have HP:=Lib.hid hp.pub;have HS:=Lib.hid hp.step;obtain ⟨ap,cp,rfl,q1,q2⟩:=hp.pub.shape;obtain ⟨a6,c6,rfl,q3,q4⟩:=SE.shape hp.step;have HN1:Hid (40<p.pub.length→¬fewP p):=fun h e=>by have:=e.1;omega
 have HN2:Hid (10<p.step.length→¬fewP p):=fun h e=>by have:=e.2.1;omega
 have HN3:Hid (∀ k,k<p.step.length→40<(stAt p.step k).pub.length→¬fewP p):=fun k hk h e=>by have:=(e.2.2 k hk).1;omega
 have HN4:Hid (∀ k,k<p.step.length→20<(stAt p.step k).fors.length→¬fewP p):=fun k hk h e=>by have:=(e.2.2 k hk).2.1;omega
 have HN5:Hid (∀ k j,k<p.step.length→j<(stAt p.step k).fors.length→40<(seAt (stAt p.step k).fors j).half.length→¬fewP p):=fun k j hk hj h e=>by have:=((e.2.2 k hk).2.2 j hj).1;omega
 have HN6:Hid (∀ k j,k<p.step.length→j<(stAt p.step k).fors.length→100<(seAt (stAt p.step k).fors j).b.length→¬fewP p):=fun k j hk hj h e=>by have:=((e.2.2 k hk).2.2 j hj).2;omega
 have HY:Hid (p.pub.length≤40→p.step.length≤10→(∀ k,k<p.step.length→(stAt p.step k).pub.length≤40∧(stAt p.step k).fors.length≤20∧∀ j,j<(stAt p.step k).fors.length→(seAt (stAt p.step k).fors j).half.length≤40∧(seAt (stAt p.step k).fors j).b.length≤100)→fewP p):=fun h1 h2 h3=>⟨h1,h2,h3⟩
 generalize fewP p=P at *;obtain ⟨L,hL⟩:∃ L,p.pub.length=L:=⟨_,rfl⟩;obtain ⟨N,hN⟩:∃ N,p.step.length=N:=⟨_,rfl⟩;have HN:=Lib.hid hN;rw[hL] at q1 HN1 HY HP ⊢;rw[hN] at q3 HN2 HN3 HN4 HN5 HN6 HY HS ⊢;clear hp hL hN;by_cases h40:40<L
 ·have HB:=Lib.hid (HN1.out h40)
  have h4:(40:Int)<(L:Int):=by omega
  clear HN1 HN2 HN3 HN4 HN5 HN6 HY;go_enter Tryz.func12,Tryz.ntmps12;go_wp2_with fail;go_ret;exact ⟨aai.no HB.out,(Kp.refl _).alloc _⟩
 ·have h4:¬(40:Int)<(L:Int):=by omega
  by_cases h10:10<N
  ·have HB:=Lib.hid (HN2.out h10)
   have h5:(10:Int)<(N:Int):=by omega
   clear HN1 HN2 HN3 HN4 HN5 HN6 HY;go_enter Tryz.func12,Tryz.ntmps12;go_wp2_with fail;go_ret;exact ⟨aai.no HB.out,(Kp.refl _).alloc _⟩
  ·have h5:¬(10:Int)<(N:Int):=by omega
   have HY2:=Lib.hid (HY.out (by omega) (by omega));clear HN1 HN2 HY;go_enter Tryz.func12,Tryz.ntmps12;go_wp2_with fail;obtain ⟨w1,hw1⟩:∃ w1,w.alloc (.cells #[.slice ap L cp,.slice a6 N c6] 27)=w1:=⟨_,rfl⟩;have hb:Bx w1 w.heap.size 27 #[.slice ap L cp,.slice a6 N c6]:=by rw[← hw1];exact Bx.new w _ _
   have hk1:Kp w w1:=by rw[← hw1];exact (Kp.refl _).alloc _
   have HB:=Lib.hid (And.intro hb hk1);have d0:=hb.cell 0;have d1:=hb.cell 1;simp only[List.getElem?_toArray,List.getElem?_cons_zero,List.getElem?_cons_succ] at d0 d1;rw[hw1];clear hb hk1 hw1;have HS1:=Lib.hid (arZ.kp HS.out HB.out.2);go_loop [3] (fun i=>∃ k:Nat,k≤N∧i=.int .i64 (k:Int)∧(∀ k',k'<k→(stAt p.step k').pub.length≤40∧(stAt p.step k').fors.length≤20∧∀ j,j<(stAt p.step k').fors.length→(seAt (stAt p.step k').fors j).half.length≤40∧(seAt (stAt p.step k').fors j).b.length≤100)) (fun i=>(N - (intOf i).toNat))
   case atStart=>exact ⟨0,Nat.zero_le _,rfl,fun t h=>by omega⟩
   case round=>
    obtain ⟨k,hk,rfl,hpre⟩:=hrel;have HPR:=Lib.hid hpre;clear hpre;by_cases hlt:k<N
    ·obtain ⟨gs,os,cs,pv,qv,e1,_,c0,c1,rp,rf⟩:=TL11.node (i:=k) HS1.out (by rw[HN.out];exact hlt)
     rw[HN.out] at e1;simp only[Value.slice.injEq] at e1;obtain ⟨rfl,_,rfl⟩:=e1;have i1:IntKind.i64.wrap ((k:Int)+1)=(k:Int)+1:=IntWalk.i64_in _ (by omega);have i3:(k:Int)<(N:Int):=by omega
     obtain ⟨a7,b7,rfl,r1,r2⟩:=rp.shape;obtain ⟨a8,b8,rfl,r3,r4⟩:=SE.shape rf;have RF:=Lib.hid rf;have H3:=Lib.hid (HN3.out k hlt);have H4:=Lib.hid (HN4.out k hlt);have H5:=Lib.hid (fun j=>HN5.out k j hlt);have H6:=Lib.hid (fun j=>HN6.out k j hlt);have HPR2:Hid ((stAt p.step k).pub.length≤40→(stAt p.step k).fors.length≤20→(∀ j,j<(stAt p.step k).fors.length→(seAt (stAt p.step k).fors j).half.length≤40∧(seAt (stAt p.step k).fors j).b.length≤100)→∀ k',k'<k+1→(stAt p.step k').pub.length≤40∧(stAt p.step k').fors.length≤20∧∀ j,j<(stAt p.step k').fors.length→(seAt (stAt p.step k').fors j).half.length≤40∧(seAt (stAt p.step k').fors j).b.length≤100):=fun h1 h2 h3 k' hk'=>by
      rcases Nat.lt_or_eq_of_le (Nat.lt_succ_iff.1 hk') with h6 | h6
      ·exact HPR.out k' h6
      ·rw[h6];exact ⟨h1,h2,h3⟩
     generalize (stAt p.step k).fors=FS at *;generalize (stAt p.step k).pub.length=PL at *;obtain ⟨FN,hFN⟩:∃ n,FS.length=n:=⟨_,rfl⟩;have HFN:=Lib.hid hFN;rw[hFN] at r3 RF H4 H5 H6 HPR2;rw[hFN] at c1;clear rf rp HN3 HN4 HN5 HN6 hFN;by_cases k40:40<PL
     ·have HX:=Lib.hid (H3.out k40)
      have k4:(40:Int)<(PL:Int):=by omega
      go_wp2_with fail;go_ret;exact ⟨aai.no HX.out,HB.out.2⟩
     ·have k4:¬(40:Int)<(PL:Int):=by omega
      by_cases k20:20<FN
      ·have HX:=Lib.hid (H4.out k20)
       have k5:(20:Int)<(FN:Int):=by omega
       go_wp2_with fail;go_ret;exact ⟨aai.no HX.out,HB.out.2⟩
      ·have k5:¬(20:Int)<(FN:Int):=by omega
       have HPR3:=Lib.hid (HPR2.out (by omega) (by omega));clear HPR2 H3 H4 HPR;go_wp2_with fail;go_loop [4] (fun i=>∃ j:Nat,j≤FN∧i=.int .i64 (j:Int)∧(∀ t,t<j→(seAt FS t).half.length≤40∧(seAt FS t).b.length≤100)) (fun i=>(FN - (intOf i).toNat))
       case atStart=>exact ⟨0,Nat.zero_le _,rfl,fun t h=>by omega⟩
       case round=>
        obtain ⟨j,hj,rfl,hpre⟩:=hrel;have HPS:=Lib.hid hpre;clear hpre;by_cases hltj:j<FN
        ·obtain ⟨ge,oe,ce,hv,bv,e2,_,f0,f1,rh,rb⟩:=EL.node (i:=j) RF.out (by rw[HFN.out];exact hltj)
         rw[HFN.out] at e2;simp only[Value.slice.injEq] at e2;obtain ⟨rfl,_,rfl⟩:=e2;have i4:IntKind.i64.wrap ((j:Int)+1)=(j:Int)+1:=IntWalk.i64_in _ (by omega);have i5:(j:Int)<(FN:Int):=by omega
         obtain ⟨a9,b9,rfl,_,_⟩:=rh.shape;obtain ⟨a10,b10,rfl,_,_⟩:=rb.shape;have H5J:=Lib.hid (H5.out j hltj);have H6J:=Lib.hid (H6.out j hltj);have HP2:Hid ((seAt FS j).half.length≤40→(seAt FS j).b.length≤100→∀ t,t<j+1→(seAt FS t).half.length≤40∧(seAt FS t).b.length≤100):=fun h1 h2 t ht=>by
          rcases Nat.lt_or_eq_of_le (Nat.lt_succ_iff.1 ht) with h6 | h6
          ·exact HPS.out t h6
          ·rw[h6];exact ⟨h1,h2⟩
         generalize (seAt FS j).half.length=HL at *;generalize (seAt FS j).b.length=BL at *;clear rh rb H5 H6;by_cases m40:40<HL
         ·have HX:=Lib.hid (H5J.out m40)
          have m4:(40:Int)<(HL:Int):=by omega
          go_wp2_with fail;go_ret;exact ⟨aai.no HX.out,HB.out.2⟩
         ·have m4:¬(40:Int)<(HL:Int):=by omega
          by_cases m100:100<BL
          ·have HX:=Lib.hid (H6J.out m100)
           have m5:(100:Int)<(BL:Int):=by omega
           go_wp2_with fail;go_ret;exact ⟨aai.no HX.out,HB.out.2⟩
          ·have m5:¬(100:Int)<(BL:Int):=by omega
           have HP3:=Lib.hid (HP2.out (by omega) (by omega));go_wp2_with fail;go_round
           case rel=>exact ⟨j+1,by omega,by go_num,HP3.out⟩
           case measure=>simp[intOf];omega
        ·obtain rfl:j=FN:=by omega
         have HX:=Lib.hid (HPR3.out HPS.out);clear HPR3 H5 H6;go_wp2_with fail;go_round
         case rel=>exact ⟨k+1,by omega,by go_num,HX.out⟩
         case measure=>simp[intOf];omega
    ·obtain rfl:k=N:=by omega
     have HX:=Lib.hid (HY2.out HPR.out);clear HN3 HN4 HN5 HN6 HY2;go_wp2_with fail;go_ret;exact ⟨aai.yes HX.out,HB.out.2⟩
end Go.Proofs.YthmhklmkgkfcpaaGreatDoor

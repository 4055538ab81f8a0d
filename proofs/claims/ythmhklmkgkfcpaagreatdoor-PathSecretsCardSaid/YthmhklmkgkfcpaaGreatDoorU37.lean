import Derived.Test.YthmhklmkgkfcpaaGreatDoorU9
import Derived.Test.YthmhklmkgkfcpaaGreatDoorU10
import Derived.Test.YthmhklmkgkfcpaaGreatDoorU16
import Derived.Test.YthmhklmkgkfcpaaGreatDoorU18
import Derived.Test.YthmhklmkgkfcpaaGreatDoorU21
import Derived.Test.YthmhklmkgkfcpaaGreatDoorU33
import Derived.Test.YthmhklmkgkfcpaaGreatDoorU35
import Derived.WalkMore
set_option linter.unusedVariables false
set_option linter.unusedSimpArgs false
set_option maxHeartbeats 8000000
set_option maxRecDepth 100000
namespace Go.Proofs.YthmhklmkgkfcpaaGreatDoor
open Go.RowKit
attribute [local go_sem] Oper.semAt_some
structure LayI (w0:World)(B6 B7 B10 g N c:Nat)(lf:Int)(s:List Nod × List UInt8)(Y:Nat→Prop)(A:World)(rt:Value)(P U H:Nat→Value):Prop where
 mk ::
 out:Boxed A B6 22 (.slice (some ⟨g,0,none⟩) N c)
 leaf:Boxed A B7 3 (.int .i64 lf)
 box:Boxed A B10 24 rt
 told:Rd A rt s.2
 tfree:Free (fun k=>Y k∨k=g∨k=B10) rt
 row:NX 81 3 A w0.heap.size (.slice (some ⟨g,0,none⟩) N c) s.1 P U H (fun _=>False)
 free:aih (fun k=>Y k∨k=B10) s.1.length P U H
 kp:Kp w0 A
 ord:w0.heap.size≤g∧g<B6∧B6<B7∧B7<B10
def arA (J:World→Prop)(A:World)(Z:Nat→Prop)(e:Exit)(B:World):Prop:=e=.normal∧J B∧Held Z A B
theorem LayI.minds {w0:World}{B6 B7 B10 g N c:Nat}{lf:Int}{s:List Nod × List UInt8}{B0:Nat}(hB:B10<B0):acV B0 (fun Y A=>∃ rt P U H,LayI w0 B6 B7 B10 g N c lf s Y A rt P U H):=by
 rintro Y Y' A B ⟨rt,P,U,H,h⟩ hY hs hg;obtain ⟨o1,o2,o3,o4⟩:=h.ord;have no:∀ k,k≤B10→¬Y k:=fun k hk hy=>by have:=hY k hy;omega
 have hg':Grew (fun k=>Y k∨k=g∨k=B10) (fun k=>Y' k∨k=g∨k=B10) A B:=fun k hk=>by
  rcases hk with hk | hk
  ·exact (hg k hk).imp .inl id
  ·exact .inl (.inr hk)
 have hg2:Grew (fun k=>Y k∨k=B10) (fun k=>Y' k∨k=B10) A B:=fun k hk=>by
  rcases hk with hk | hk
  ·exact (hg k hk).imp .inl id
  ·exact .inl (.inr hk)
 exact ⟨rt,P,U,H,⟨(hs.block _ h.out.lt (no _ (by omega))).trans h.out,(hs.block _ h.leaf.lt (no _ (by omega))).trans h.leaf,(hs.block _ h.box.lt (no _ (by omega))).trans h.box,
  h.told.stepF hs (h.tfree.mono fun k=>.inl),h.tfree.grew h.told.inside hg',h.row.stepF hs (no _ (by omega)) (fun j hj=>⟨(h.free j hj).1.mono fun k=>.inl,(h.free j hj).2.1.mono fun k=>.inl,(h.free j hj).2.2.mono fun k=>.inl⟩),
  aih.grew h.row h.free hg2,Below.trans h.kp (hs.below h.kp.size (fun k hk=>by have:=hY k hk;omega)),h.ord⟩⟩
theorem LayI.rehash {w0:World}{B6 B7 B10 g N c k:Nat}{lf:Int}{s:List Nod × List UInt8}{Y:Nat→Prop}{A:World}{rt:Value}{P U H:Nat→Value}(h:LayI w0 B6 B7 B10 g N c lf s Y A rt P U H)(hk:k<s.1.length):
  LayI w0 B6 B7 B10 g N c lf (s.1.set k (acX (ats s.1 k) s.2),s.2) Y (A.setCell ⟨g,k*5+4,none⟩ rt) rt (upd P k (P k)) (upd U k (U k)) (upd H k rt):=by
 obtain ⟨o1,o2,o3,o4⟩:=h.ord;have hb:∀ b,b≠g→(A.setCell ⟨g,k*5+4,none⟩ rt).heap[b]?=A.heap[b]?:=fun b hb=>Below.heap_setCell A _ _ b hb
 refine ⟨(hb _ (by omega)).trans h.out,(hb _ (by omega)).trans h.leaf,(hb _ (by omega)).trans h.box,h.told.stepF (Y:=fun k=>k=g) ((Step.refl _ A).setCell _ _ (.inr rfl)) (h.tfree.mono fun k e=>.inr (.inl e)),h.tfree,
  h.row.rehash hk h.told (h.tfree.mono fun k e=>.inr (.inl e)),?_,h.kp.setNew o1 _,h.ord⟩
 rw[List.length_set];exact h.free.upd (h.tfree.mono fun k e=>e.imp id .inr) hk
theorem LayI.kpI {w0:World}{B6 B7 B10 g N c:Nat}{lf:Int}{s:List Nod × List UInt8}{Y:Nat→Prop}{A B:World}{rt:Value}{P U H:Nat→Value}(h:LayI w0 B6 B7 B10 g N c lf s Y A rt P U H)(k:Kp A B):LayI w0 B6 B7 B10 g N c lf s Y B rt P U H:=
 ⟨(k.block _ h.out.lt).trans h.out,(k.block _ h.leaf.lt).trans h.leaf,(k.block _ h.box.lt).trans h.box,h.told.kp k,h.tfree,h.row.kp k,h.free,h.kp.trans k,h.ord⟩
theorem LayI.tell {w0:World}{B6 B7 B10 g N c C:Nat}{lf:Int}{s:List Nod × List UInt8}{Y:Nat→Prop}{A B:World}{rt r:Value}{P U H:Nat→Value}{l:List UInt8}(h:LayI w0 B6 B7 B10 g N c lf s Y A rt P U H)(k:Kp A B)(ho:Ow 5 B C r l)(hC:A.heap.size≤C)(hY:∀ k,Y k→k<A.heap.size):
  LayI w0 B6 B7 B10 g N c lf (s.1,l) Y (B.setCell ⟨B10,0,none⟩ r) r P U H:=by
 obtain ⟨o1,o2,o3,o4⟩:=h.ord;have hbl:=h.box.lt;have hkB:=h.kpI k;have hb:∀ b,b≠B10→(B.setCell ⟨B10,0,none⟩ r).heap[b]?=B.heap[b]?:=fun b hb=>Below.heap_setCell B _ _ b hb
 have hst:Step (fun k=>k=B10) B (B.setCell ⟨B10,0,none⟩ r):=(Step.refl _ B).setCell _ _ (.inr rfl);have hr:∀ x n c,r=.slice (some x) n c→A.heap.size≤x.block:=fun x n c e=>by have:=ho.own_ge x.block (by rw[e];rfl);omega
 refine ⟨(hb _ (by omega)).trans hkB.out,(hb _ (by omega)).trans hkB.leaf,hkB.box.set r,ho.rd.stepF hst (fun x n c e _ hk=>by have:=hr x n c e;omega),fun x n c e _ hk=>?_,hkB.row.stepF hst (by omega) (fun j hj=>?_),h.free,hkB.kp.setNew (by omega) _,h.ord⟩
 ·have h1:=hr x n c e
  rcases hk with hk | hk | hk
  ·have:=hY _ hk;omega
  ·omega
  ·omega
 ·obtain ⟨f1,f2,f3⟩:=h.free j hj
  exact ⟨f1.mono fun k e=>.inr e,f2.mono fun k e=>.inr e,f3.mono fun k e=>.inr e⟩
theorem ak2 (vt:Value)(t:List Nod)(K:Nat)(i:Int)(w:World)(hT:aaZ t K)(hr:aab t K)(ht:NL w vt t)(h:¬aar t i):
  Calls Tryz.prog 106 #[vt,.int .i64 i] w fun e w'=>(∃ r,e=.returned (.tuple #[r,.int .i64 11])∧NL w' r t)∧Kp w w':=by
 obtain ⟨z1,z2,z3⟩:=hr.small;have HCP:=Lib.hid (ael vt t w ht z3 (by omega) (fun x hx=>⟨by have:=(hT.node x).pub;omega,by have:=(hT.node x).unl;omega,by have:=(hT.node x).hash;omega⟩));have HTH:=Lib.hid (fun W (hW:Kp w W)=>ad4 vt t K i W (ht.kp hW) hr);rw[decide_eq_false h] at HTH;obtain ⟨a,c,rfl,_,_⟩:=ht.shape;generalize hN:t.length=N at HCP HTH ⊢;clear hT hr ht h z1 z2 z3 hN;go_enter Tryz.func106,Tryz.ntmps106;go_wp2_with fail;refine HCP.out.mono ?_;rintro _ w1 ⟨⟨v1,P,U,H,rfl,hx⟩,k1⟩;have HX:=Lib.hid (And.intro hx.no.nl k1);obtain ⟨a1,n1,c1,rfl⟩:=hx.no.nl.sl;clear hx k1;go_wp2_with fail;have HW2:Hid (Kp w1 (w1.alloc (.cells #[.slice a1 n1 c1] 22))):=(Kp.refl _).alloc _;refine (HTH.out _ (HX.out.2.trans HW2.out)).mono ?_;rintro _ _ ⟨rfl,rfl⟩;go_wp2_with fail;go_ret2;exact ⟨⟨_,rfl,HX.out.1.kp HW2.out⟩,HX.out.2.trans HW2.out⟩
theorem aj2 (vt:Value)(t:List Nod)(K i:Nat)(w:World)(hT:aaZ t K)(hr:aab t K)(ht:NL w vt t)(hTab:Tab w)(hi:i<2 ^ K)(h:aar t (i:Int)):
  Calls Tryz.prog 106 #[vt,.int .i64 (i:Int)] w fun e w'=>(∃ r,e=.returned (.tuple #[r,.int .i64 0])∧NL w' r (layV t (i:Int)))∧Kp w w':=by
 obtain ⟨z1,z2,z3⟩:=hr.small;have hK:=hr.le;have HCP:=Lib.hid (ael vt t w ht z3 (by omega) (fun x hx=>⟨by have:=(hT.node x).pub;omega,by have:=(hT.node x).unl;omega,by have:=(hT.node x).hash;omega⟩));have HTH:=Lib.hid (fun W (hW:Kp w W)=>ad4 vt t K (i:Int) W (ht.kp hW) hr);rw[decide_eq_true h] at HTH;have HSZ:=Lib.hid (fun W (hW:Kp w W)=>afM vt t W (ht.kp hW) (by omega));rw[(ad3 hr.le hr.len).1] at HSZ;have HPA:Hid (∀ W,Kp w W→Calls Tryz.prog 92 #[.int .i64 ((2*i:Nat):Int),.int .i64 ((2 ^ K:Nat):Int)] W fun e w'=>(∃ v,e=.returned (.tuple #[v,.int .i64 0])∧ON 3 w' W.heap.size v (aah K 0 i))∧Kp W w'):=fun W hW=>by
  have:=afL K 0 i W hr.le (Nat.zero_le _) (by simpa using hi) (hTab.kp hW);rwa [abK] at this
 have hp2:=acc hr.le;have i1:IntKind.i64.wrap (2*(i:Int))=((2*i:Nat):Int):=by rw[IntWalk.i64_in _ (by omega)];omega
 obtain ⟨q1,q2,q3⟩:=agL hr.le hr.len hi;obtain ⟨LF,hLF⟩:∃ LF:Int,((2*i:Nat):Int)=LF:=⟨_,rfl⟩;rw[hLF] at HPA i1;have HLF:=Lib.hid hLF;clear hLF;obtain ⟨NN,hNN⟩:∃ NN:Int,((2 ^ K:Nat):Int)=NN:=⟨_,rfl⟩;rw[hNN] at HPA HSZ;clear hNN;obtain ⟨a,c,rfl,_,_⟩:=ht.shape;have HTL:=Lib.hid (And.intro hTab ht);generalize hN:t.length=N at HCP HTH HSZ HTL ⊢;refine (callsIn_wide (n:=4)).1 ?_;refine callsIn_of_wp_marks Tryz.func106 rfl trivial ?_ rfl;refine wpIn_wide.2 ?_;simp only[Tryz.ntmps106,List.append_toArray,List.size_toArray,List.length_nil,List.length_cons,Nat.reduceAdd,Nat.reduceSub,Array.replicate_succ,Array.replicate_zero,List.push_toArray,List.nil_append,List.cons_append];go_wp2_with fail;refine HCP.out.mono ?_;rintro _ w1 ⟨⟨v1,P,U,H,rfl,hx⟩,k1⟩;obtain ⟨g,c1,rfl,g1,g2,_⟩:=hx.no.form z3;rw[hN] at hx ⊢;have HX:=Lib.hid (hx.weak (S':=fun _=>False) (fun _ _ h=>h.elim));have HG:=Lib.hid (And.intro g1 g2);have K1:=Lib.hid k1;clear hx k1 g1 g2;go_wp2_with fail;obtain ⟨w2,hw2⟩:∃ w2,w1.alloc (.cells #[.slice (some ⟨g,0,none⟩) N c1] 22)=w2:=⟨_,rfl⟩;have hb6:Boxed w2 w1.heap.size 22 (.slice (some ⟨g,0,none⟩) N c1):=by rw[← hw2];exact Boxed.new _ _ _
 have k2:Kp w1 w2:=by rw[← hw2];exact (Kp.refl _).alloc _
 have s2:w2.heap.size=w1.heap.size+1:=by rw[← hw2];simp
 rw[hw2];clear hw2;refine (HTH.out _ (K1.out.trans k2)).mono ?_;rintro _ _ ⟨rfl,rfl⟩;go_wp2_with fail;obtain ⟨w3,hw3⟩:∃ w3,w2.alloc (.cells #[.int .i64 LF] 3)=w3:=⟨_,rfl⟩;have hb7:Boxed w3 w2.heap.size 3 (.int .i64 LF):=by rw[← hw3];exact Boxed.new _ _ _
 have k3:Kp w2 w3:=by rw[← hw3];exact (Kp.refl _).alloc _
 have s3:w3.heap.size=w2.heap.size+1:=by rw[← hw3];simp
 rw[hw3];rw[s2] at hb7 s3;clear hw3;have HB3:=Lib.hid (And.intro (hb6.alloc (.cells #[.int .i64 LF] 3)) hb7);have h6:Boxed w3 w1.heap.size 22 (.slice (some ⟨g,0,none⟩) N c1):=(k3.block _ hb6.lt).trans hb6;have HB3:=Lib.hid (And.intro h6 hb7);have K3:=Lib.hid (And.intro (k2.trans k3) s3);have K3D:Hid (Kp w w3.drew):=(K1.out.trans K3.out.1).drew;have HSC:Hid (∀ W,Kp w3 W→W.cell? ⟨w1.heap.size+1,0,none⟩=some (.int .i64 LF)):=fun W hW=>hW.cell HB3.out.2.cell
 have arJ:=Lib.hid (HSC.out _ (Kp.drew (Kp.refl w3)));clear h6 hb6 hb7 k2 k3 s2 s3 HTH HCP;go_region_held3 (fun W=>W.cell? ⟨w1.heap.size+1,0,none⟩=some (.int .i64 LF))
  (first | with_reducible exact arJ.out | with_reducible exact S4.out)
  (first
   | (go_at_call 92;refine (HPA.out _ K3D.out).mono ?_;rintro _ w4 ⟨⟨r4,rfl,o4⟩,k4⟩;obtain ⟨a4,n4,b4,rfl⟩:=(ON.rn o4).sl;have S4:=Lib.hid (HSC.out _ ((Kp.drew (Kp.refl w3)).trans k4)))
   | (go_at_call 143;refine (HSZ.out _ K3D.out).mono ?_;rintro _ _ ⟨rfl,rfl⟩))
 have K4:Hid (Kp w3 w4):=(Kp.drew (Kp.refl w3)).trans k4;have O4:=Lib.hid o4;clear arJ S4 HSC HSZ HPA o4 k4;go_wp2_with fail;obtain ⟨w5,hw5⟩:∃ w5,w4.alloc (.cells #[.slice none 0 0] 24)=w5:=⟨_,rfl⟩;have hb10:Boxed w5 w4.heap.size 24 (.slice none 0 0):=by rw[← hw5];exact Boxed.new _ _ _
 have k5:Kp w4 w5:=by rw[← hw5];exact (Kp.refl _).alloc _
 have s5:w5.heap.size=w4.heap.size+1:=by rw[← hw5];simp
 rw[hw5];clear hw5;refine (aj1 _ _ _ _).mono ?_;rintro _ w6 ⟨rfl,hw6⟩;have hbB:Boxed w6 w5.heap.size 34 (.slice a4 n4 b4):=by rw[← hw6];exact Boxed.new _ _ _
 have k6:Kp w5 w6:=by rw[← hw6];exact (Kp.refl _).alloc _
 have s6:w6.heap.size=w5.heap.size+1:=by rw[← hw6];simp
 clear hw6;obtain ⟨hp4,hp4s⟩:n4=K∧∀ k,k<K→(aah K 0 i).getD k 0<N∧(aah K 0 i).getD k 0 % 2=1:=by
  have hl:(aah K 0 i).length=K:=by rw[← q1];exact q3
  obtain ⟨_,_,e,_⟩:=(ON.rn O4.out).shape;simp only[Value.slice.injEq] at e;refine ⟨by omega,fun k hk=>⟨?_,?_⟩⟩
  ·have:=q2 k (by omega)
   rw[q1] at this;omega
  ·rw[List.getD_eq_getElem?_getD,List.getElem?_eq_getElem (by omega)]
   exact aba (List.getElem_mem _)
 subst hp4;have hPL:(aah n4 0 i).length=n4:=by rw[← q1];exact q3
 obtain ⟨gP,off,hP1,hP2⟩:∃ gP off,(0<n4→a4=some ⟨gP,off,none⟩∧∀ k,k<n4→w6.cell? ⟨gP,off+k,none⟩=some (.int .i64 (((aah n4 0 i).getD k 0:Nat):Int)))∧(gP=w4.heap.size+1∨(w1.heap.size+2≤gP∧gP<w4.heap.size)):=by
  by_cases h0:0<n4
  ·obtain ⟨gP,off,rfl,hb,hc⟩:=(ON.rn O4.out).at 0 h0
   refine ⟨gP,off,fun _=>⟨rfl,fun k hk=>k6.cell (k5.cell (hc k hk))⟩,.inr ⟨?_,hb⟩⟩;have h1:=ON.own_ge O4.out gP rfl;have h2:w3.drew.heap.size=w3.heap.size:=rfl;have h3:=K3.out.2;omega
  ·exact ⟨w4.heap.size+1,0,fun h=>absurd h h0,.inl rfl⟩
 obtain ⟨SM,hSM⟩:∃ SM:Nat→List Nod × List UInt8,SM=fun m=>((aah n4 0 i).reverse.take m).foldl (layS i) (t,[]):=⟨_,rfl⟩
 have HS0:Hid (SM 0=(t,[])):=by unfold Hid;rw[hSM];rfl
 have HSN:Hid (∀ m,m<n4→SM (m+1)=layS i (SM m) ((aah n4 0 i).getD (n4 - 1 - m) 0)):=fun m hm=>by
  rw[hSM];show ((aah n4 0 i).reverse.take (m+1)).foldl (layS i) (t,[])=_
  rw[afr _ _ _ m 0 (by rw[List.length_reverse,hPL];exact hm)];congr 1
  rw[List.getD_eq_getElem?_getD,List.getD_eq_getElem?_getD,List.getElem?_reverse (by omega),hPL]
 have HSD:Hid (SM n4=layD t i):=by
  unfold Hid layD;rw[hSM,q1];show ((aah n4 0 i).reverse.take n4).foldl (layS i) (t,[])=_
  rw[List.take_of_length_le (by rw[List.length_reverse,hPL];exact Nat.le_refl _)]
 have HSK:Hid (∀ m,aaZ (SM m).1 n4∧(SM m).1.length=N∧((SM m).2.length=0∨(SM m).2.length=32)):=fun m=>by
  rw[hSM];have hk:=afq (t:=t) (K:=n4) (i:=i) ((aah n4 0 i).reverse.take m) (t,[]) (fun x hx=>by
   have hx2:=List.mem_reverse.1 (List.mem_of_mem_take hx);obtain ⟨k,hk,rfl⟩:=List.getElem_of_mem hx2;have:=(hp4s k (by omega)).1;rw[List.getD_eq_getElem?_getD,List.getElem?_eq_getElem hk] at this;exact hN▸this) hT rfl (.inl rfl)
  exact ⟨hk.1,hk.2.1.trans hN,hk.2.2.1⟩
 have HPX:Hid (∀ m,m<n4→(aah n4 0 i).getD (n4 - 1 - m) 0<N∧(aah n4 0 i).getD (n4 - 1 - m) 0 % 2=1):=fun m hm=>hp4s _ (by omega)
 have HTT:Hid (∀ W,Kp w W→Tab W):=fun W hW=>hTab.kp hW
 have HFIN:Hid (layV t (i:Int)=(layD t i).1.set (2*i) (acX (ats (layD t i).1 (2*i)) (layD t i).2)∧2*i<N):=⟨by unfold layV;rw[if_pos h,Int.toNat_natCast],by omega⟩;have hK100:n4≤100000:=by omega
 have K46:Hid (Kp w4 w6):=k5.trans k6;have HBH:=Lib.hid (ahA (aah n4 0 i) n4 a4 b4 (w4.heap.size+1) gP off w6 hK100 (by have:=hbB.cell;rwa [s5] at this) hP1);have HZ:Hid (Kp w w6∧w6.heap.size=w4.heap.size+2∧w1.heap.size+2≤w4.heap.size∧w.heap.size≤g∧g<w1.heap.size):=⟨K1.out.trans (K3.out.1.trans (K4.out.trans K46.out)),by omega,by have:=K4.out.size;have:=K3.out.2;omega,HG.out⟩;have HI0:Hid (LayI w w1.heap.size (w1.heap.size+1) w4.heap.size g N c1 LF (t,[]) (fun _=>False) w6 (.slice none 0 0) P U H):=by
  have k36:Kp w3 w6:=K4.out.trans K46.out;have k16:Kp w1 w6:=K3.out.1.trans k36;refine ⟨(k36.block _ HB3.out.1.lt).trans HB3.out.1,(k36.block _ HB3.out.2.lt).trans HB3.out.2,(k6.block _ hb10.lt).trans hb10,aaP _,Free.nil _ _ _,HX.out.kp k16,fun j hj=>?_,HZ.out.1,⟨HG.out.1,HG.out.2,by omega,by have:=HZ.out;omega⟩⟩;have hin:=HX.out.ins j hj;have hz:=HZ.out;exact ⟨fun x n c e h0 hk=>by have:=hin.pub.inside x n c e h0;rcases hk with hk | hk;exact hk;omega,fun x n c e h0 hk=>by have:=hin.un.inside x n c e h0;rcases hk with hk | hk;exact hk;omega,fun x n c e h0 hk=>by have:=hin.hash.inside x n c e h0;rcases hk with hk | hk;exact hk;omega⟩
 have HP2:=Lib.hid hP2;clear hSM hp4s hP1 hP2 hPL hb10 hbB k5 k6 s6 K3 K3D K4 O4 K46 HB3 HX HG q1 q2 q3 hN hT hr ht hTab hi h z1 z2 z3 hK hp2 K1 HTL;rw[s5];go_wp2_with fail;have hE:∀ args w,(callFunc 175 args).run Tryz.prog w=.ok (.enter 175 args) w:=enters_of Tryz.func175 (by kernel_rfl) rfl;obtain ⟨R,hR⟩:∃ R:Nat→Prop,(fun k=>k=w4.heap.size+1∨k=gP)=R:=⟨_,rfl⟩;have HRB:Hid (∀ k,R k→k<w6.heap.size∧k≠g∧k≠w4.heap.size):=fun k hk=>by
  have:=HZ.out;have:=HP2.out;rw[← hR] at hk;rcases hk with rfl | rfl <;> omega
 rw[hR] at HBH;clear hR HP2;have HIP:Hid (∀ m Y A,(∃ rt P U H,LayI w w1.heap.size (w1.heap.size+1) w4.heap.size g N c1 LF (SM m) Y A rt P U H)↔(∃ rt P U H,LayI w w1.heap.size (w1.heap.size+1) w4.heap.size g N c1 LF (SM m) Y A rt P U H)):=fun _ _ _=>Iff.rfl
 refine acG (gf:=175) (lb:=#[.pointer (some ⟨w4.heap.size+1,0,none⟩)]) rfl hE (Kp.refl w6) (fun k hk=>(HRB.out k hk).1) HBH.out ?sz
   (fun m Y A=>∃ rt P U H,LayI w w1.heap.size (w1.heap.size+1) w4.heap.size g N c1 LF (SM m) Y A rt P U H) (fun c m Y A=>False) ?mI ?mIx ?TT ?h0
   (fun v a' _=>∃ x y:Int,v=#[.int .i64 x,.int .i64 y]∧a'={ tmps:=#[.slice a N c,.int .i64 (i:Int),undef,undef,.slice none 0 0,.int .i64 0,.pointer (some ⟨w1.heap.size,0,none⟩),.pointer (some ⟨w1.heap.size+1,0,none⟩),.slice a4 n4 b4,.int .i64 0,.pointer (some ⟨w4.heap.size,0,none⟩),undef,.int .i64 y,.slice a N c,.slice (some ⟨g,0,none⟩) N c1,.slice a N c,.int .i64 (i:Int),.bool true,.bool false,undef,.int .i64 (i:Int),.int .i64 LF,.tuple #[.slice a4 n4 b4,.int .i64 0],.int .i64 LF,.slice a N c,.int .i64 NN,.tuple #[.slice a4 n4 b4,.int .i64 0],.slice a4 n4 b4,.int .i64 0,.slice a4 n4 b4,.func (.func 175) #[] #[.pointer (some ⟨w4.heap.size+1,0,none⟩)],.int .i64 x,.int .i64 y,undef,undef,undef,undef,undef,undef,undef,undef,undef,undef,undef,undef,undef,undef,undef,undef,undef,undef,undef,undef,undef,undef,undef],defers:=[] })
   (fun _ _ _ _ _ _ h _ _=>h) ?assign ?body ?done ?stop
 case h0=>rw[HS0.out];exact ⟨_,_,_,_,HI0.out⟩
 case sz=>intro m v Y A h;rw[h];rfl
 case mI=>intro m;exact LayI.minds (by have:=HZ.out;omega)
 case mIx=>intro c m Y Y' A A' h;exact h.elim
 case TT=>intro m v Yi Y A A' l o h _ _ _ _ _;exact h
 case assign=>
  intro l m Y Yi v A Kk hI hTv hK;subst hTv;gi_wp2
  exact hK _ _ (Kp.refl _) ⟨_,_,rfl,rfl⟩
 case body=>
  rintro l m Y v a' A hm ⟨rt,P9,U9,H9,hI⟩ hyb hRA hTv ⟨x,y,hxy,rfl⟩;subst hTv;simp only[Array.mk.injEq,List.cons.injEq,Value.int.injEq,true_and,and_true] at hxy;obtain ⟨rfl,rfl⟩:=hxy;obtain ⟨J9,hJ9⟩:∃ J9:World→Prop,∀ B,J9 B↔∃ rt P U H,LayI w w1.heap.size (w1.heap.size+1) w4.heap.size g N c1 LF (SM (m+1)) Y B rt P U H:=⟨_,fun _=>Iff.rfl⟩;have HJ9:=Lib.hid hJ9;obtain ⟨Z9,hZ9⟩:∃ Z9:Nat→Prop,(fun k=>Y k∨R k)=Z9:=⟨_,rfl⟩;rw[hZ9];have HZ9:Hid (∀ k,Z9 k→k≠g∧k≠w4.heap.size∧k<A.heap.size):=fun k hk=>by
   have hz:=HZ.out;rw[← hZ9] at hk;rcases hk with hk | hk
   ·have:=hyb k hk;omega
   ·have h1:=HRB.out k hk
    have h2:=hRA.size;exact ⟨h1.2.1,h1.2.2,by omega⟩
  refine wpIn_mono (Q:=fun e _ B=>arA J9 A Z9 e B) ?_ (fun e a B h=>⟨h.2.2,.inl ⟨h.1,(hJ9 B).1 h.2.1⟩⟩);have HYA:Hid (∀ k,Y k→k<A.heap.size):=fun k hk=>(hyb k hk).2
  obtain ⟨x1,x2⟩:=HPX.out m hm;obtain ⟨tk1,tk2,tk3⟩:=HSK.out m;have hnx:=HSN.out m hm;generalize (aah n4 0 i).getD (n4 - 1 - m) 0=X at *;generalize (n4 - 1 - m:Nat)=MM at *;have HNX:=Lib.hid hnx;have hX:X<(SM m).1.length:=by omega
  have HXL:=Lib.hid (And.intro hX (And.intro x2 (And.intro tk1 (And.intro tk2 tk3))));have hat:=hI.row.at X hX;have ck:=hat.kind;have ch:=hat.hashC;have cf:=((hI.row.there X hX 4 (by omega)) 0 (by omega)).2;rw[Nat.add_zero] at cf;have c6:=hI.out.cell;have c7:=hI.leaf.cell;have c10:=hI.box.cell;have i2:(X:Int)<(N:Int):=by omega
  have HI:=Lib.hid hI;obtain ⟨ar,nr,cr,rfl⟩:=aaz hI.told;have hch:∃ ah nh chh,H9 X=.slice ah nh chh:=aaz (hI.row.ins X hX).hash;obtain ⟨ah,nh,chh,hH9⟩:=hch;rw[hH9] at ch;clear hI hat hyb hRA hZ9 hJ9 hm x1 x2 tk1 tk2 tk3 hnx hX hH9 HBH HSK HPX HSN HIP HS0 HI0;by_cases hk:(ats (SM m).1 X).kind=2
  ·rw[hk] at ck
   have HKD:=Lib.hid hk;have hmx:Tryz.prog.follows .mixedOrders=true:=by kernel_rfl
   have hls:Tryz.prog.follows .lateStores=true:=by kernel_rfl
   clear hk;gi_wp2
   obtain ⟨A1,hA1⟩:∃ A1,A.setCell ⟨g,X*5+4,none⟩ (.slice ar nr cr)=A1:=⟨_,rfl⟩;rw[hA1];have hh:=HXL.out;have hi1:=HI.out.rehash hh.1;rw[hA1] at hi1;have HHA:Hid (Held Z9 A A1∧A1.heap.size=A.heap.size):=by
    rw[← hA1];exact ⟨⟨by simp,fun k hk hz=>Below.heap_setCell A _ _ k (fun e=>(HZ9.out k hz).1 (by rw[e]))⟩,by simp⟩
   have hls2:layS i (SM m) X=((SM m).1.set X (acX (ats (SM m).1 X) (SM m).2),aboV ((SM m).1.set X (acX (ats (SM m).1 X) (SM m).2)) (X:Int) (if X<2*i then 1 else 0)):=by
    unfold layS;rw[if_pos HKD.out]
   have HTI:=hh.2.2.1.hashed X (b:=(SM m).2) (by omega) hh.1;have HAK:(ats ((SM m).1.set X (acX (ats (SM m).1 X) (SM m).2)) X).kind=2:=by rw[abk _ _ _ _ hh.1,if_pos rfl];exact HKD.out
   have hnl:NL A1 (.slice (some ⟨g,0,none⟩) N c1) ((SM m).1.set X (acX (ats (SM m).1 X) (SM m).2)):=hi1.row.no.nl;rw[hls2] at HNX;have HX2:Hid (X<((SM m).1.set X (acX (ats (SM m).1 X) (SM m).2)).length):=by unfold Hid;rw[List.length_set];exact hh.1
   generalize (SM m).1.set X (acX (ats (SM m).1 X) (SM m).2)=T1 at *;have hside:(if (X:Int)<LF then (1:Int) else if LF<(X:Int) then 0 else 1)=(if X<2*i then 1 else 0):=by
    have h1:=HLF.out;have h2:=hh.2.1;by_cases hlt:X<2*i
    ·rw[if_pos (by omega),if_pos hlt]
    ·rw[if_neg (by omega),if_neg hlt,if_pos (by omega)]
   have HSO:Hid (∀ W,Calls Tryz.prog 146 #[.int .i64 (X:Int),.int .i64 LF] W fun e w'=>e=.returned (.int .i64 (if X<2*i then 1 else 0))∧W=w'):=fun W=>by
    have:=aht (X:Int) LF W;rwa [hside] at this
   have hsd:((if X<2*i then 1 else 0:Int)=0)∨((if X<2*i then 1 else 0:Int)=1):=by split;exact .inr rfl;exact .inl rfl
   have HAB:Hid (∀ W,Kp A1 W→Calls Tryz.prog 145 #[.slice (some ⟨g,0,none⟩) N c1,.int .i64 (X:Int),.int .i64 (if X<2*i then 1 else 0)] W fun e w'=>(∃ r,e=.returned r∧Ow 5 w' W.heap.size r (aboV T1 (X:Int) (if X<2*i then 1 else 0)))∧Kp W w'):=fun W hW=>
    aou _ T1 n4 X _ W HTI (hnl.kp hW) (HTT.out W (hi1.kp.trans hW)) HX2.out HAK hsd
   generalize (if X<2*i then 1 else 0:Int)=SD at *;generalize aboV T1 (X:Int) SD=V9 at *;have HI1:=Lib.hid hi1;have HSC:Hid (∀ W,Kp A1 W→W.cell? ⟨w1.heap.size,0,none⟩=some (.slice (some ⟨g,0,none⟩) N c1)∧W.cell? ⟨w1.heap.size+1,0,none⟩=some (.int .i64 LF)):=fun W hW=>⟨hW.cell HI1.out.out.cell,hW.cell HI1.out.leaf.cell⟩
   have HD1:Hid (Kp A1 A1.drew):=Kp.drew (Kp.refl A1);clear hA1 hi1 hls2 HTI HAK hnl hside hsd ck ch cf c6 c7 c10 HKD hh HXL HI HX2;refine ajy (S:=fun W=>W.cell? ⟨w1.heap.size,0,none⟩=some (.slice (some ⟨g,0,none⟩) N c1)∧W.cell? ⟨w1.heap.size+1,0,none⟩=some (.int .i64 LF)) hmx ?_;refine aaU.take 0 (.slice (some ⟨g,0,none⟩) N c1) rfl (by kernel_rfl) (by kernel_rfl) (by kernel_rfl) (by kernel_rfl) (fun _ _ _ h=>h) (HSC.out _ HD1.out) ⟨fun c e=>(by cases e),fun _=>rfl,.inl ⟨rfl,fun W' hW'=>?_⟩⟩ ?_
   ·have:=hW'.1
    go_simp
   refine aaU.take 1 (.int .i64 (X:Int)) rfl (by kernel_rfl) (by kernel_rfl) (by kernel_rfl) (by kernel_rfl) (fun _ _ _ h=>h) (HSC.out _ HD1.out) ⟨fun c e=>(by cases e),fun _=>rfl,.inl ⟨rfl,fun W' hW'=>?_⟩⟩ ?_
   ·go_simp
   refine aaU.take 2 (.int .i64 (X:Int)) rfl (by kernel_rfl) (by kernel_rfl) (by kernel_rfl) (by kernel_rfl) (fun _ _ _ h=>h) (HSC.out _ HD1.out) ⟨fun c e=>(by cases e),fun _=>rfl,.inl ⟨rfl,fun W' hW'=>?_⟩⟩ ?_
   ·go_simp
   refine aaU.take 3 (.int .i64 LF) rfl (by kernel_rfl) (by kernel_rfl) (by kernel_rfl) (by kernel_rfl) (fun _ _ _ h=>h) (HSC.out _ HD1.out) ⟨fun c e=>(by cases e),fun _=>rfl,.inl ⟨rfl,fun W' hW'=>?_⟩⟩ ?_
   ·have:=hW'.2
    go_simp
   go_simp;refine aaU.one 4 rfl (by kernel_rfl) (fun K2 hK=>?_);go_simp;gi_wp2_with (refine ⟨trivial,?_⟩;gi_at_call 146;refine (CallsIn.inRound l (callsIn_wide.2 (HSO.out _))).mono ?_;rintro _ _ ⟨rfl,rfl⟩)
   refine hK _ _ (HSC.out _ HD1.out) ?_;clear hK K2;refine aaU.one 5 rfl (by kernel_rfl) (fun K2 hK=>?_);go_simp;gi_wp2_with (refine ⟨trivial,?_⟩;gi_at_call 145;refine (CallsIn.inRound l (callsIn_wide.2 (HAB.out _ HD1.out))).mono ?_;rintro _ A2 ⟨⟨r2,rfl,o2⟩,k2⟩)
   have hk2:Kp A1 A2:=HD1.out.trans k2;have HI2:=Lib.hid (HI1.out.tell hk2 o2 (Nat.le_refl _) (fun k hk=>by have:=HYA.out k hk;have:=HHA.out.2;omega));obtain ⟨a2,n2,b2,rfl⟩:=aaz o2.rd;have d10:=(HI1.out.kpI hk2).box.cell;have f10:=(HI1.out.kpI hk2).box.frozen;have HH2:Hid (Held Z9 A (A2.setCell ⟨w4.heap.size,0,none⟩ (.slice a2 n2 b2))):=HHA.out.1.trans ⟨by have:=hk2.size;simpa using this,fun k hk hz=>(Below.heap_setCell A2 _ _ k (fun e=>(HZ9.out k hz).2.1 (by rw[e]))).trans (hk2.block k hk)⟩;have HJF:Hid (J9 (A2.setCell ⟨w4.heap.size,0,none⟩ (.slice a2 n2 b2))):=(HJ9.out _).2 ⟨_,_,_,_,by rw[HNX.out];exact HI2.out⟩;have HSF:Hid ((A2.setCell ⟨w4.heap.size,0,none⟩ (.slice a2 n2 b2)).cell? ⟨w1.heap.size,0,none⟩=some (.slice (some ⟨g,0,none⟩) N c1)∧(A2.setCell ⟨w4.heap.size,0,none⟩ (.slice a2 n2 b2)).cell? ⟨w1.heap.size+1,0,none⟩=some (.int .i64 LF)):=⟨HI2.out.out.cell,HI2.out.leaf.cell⟩;refine hK _ _ (HSC.out _ hk2) ?_;clear hK K2 hk2 k2 o2;refine aaU.one 6 rfl (by kernel_rfl) (fun K2 hK=>?_);go_simp;refine hK _ _ HSF.out ?_;clear hK K2;refine aaU.done (by kernel_rfl) ?_;exact ⟨rfl,HJF.out,HH2.out⟩
  ·have hkb:((ats (SM m).1 X).kind==2)=false:=beq_eq_false_iff_ne.2 hk
   have HD:Hid (J9 A):=(HJ9.out A).2 ⟨_,_,_,_,by rw[HNX.out];unfold layS;rw[if_neg hk];exact HI.out⟩;generalize (ats (SM m).1 X).kind=KD at *;clear hk;gi_wp2
   exact ⟨rfl,HD.out,Held.refl _ _⟩
 case done=>
  rintro D' Y W hD hYD hYb ⟨rt,P9,U9,H9,hI⟩ hd;rename_i Qp Kk hKk
  have hlen:=(HSK.out n4).2.1;rw[HSD.out] at hI hlen;obtain ⟨hF1,hF2⟩:=HFIN.out;obtain ⟨X9,hX9⟩:∃ X9,2*i=X9:=⟨_,rfl⟩;have hlf:=HLF.out;rw[hX9] at hlf hF1 hF2;subst hlf;have hX:X9<(layD t i).1.length:=by omega
  have hat:=hI.row.at X9 hX;have ch:=hat.hashC;have cf:=((hI.row.there X9 hX 4 (by omega)) 0 (by omega)).2;rw[Nat.add_zero] at cf;have c6:=hI.out.cell;have c7:=hI.leaf.cell;have c10:=hI.box.cell;have i2:(X9:Int)<(N:Int):=by omega
  obtain ⟨ar,nr,cr,rfl⟩:=aaz hI.told;have hch:∃ ah nh chh,H9 X9=.slice ah nh chh:=aaz (hI.row.ins X9 hX).hash;obtain ⟨ah,nh,chh,hH9⟩:=hch;rw[hH9] at ch;have hI1:=hI.rehash hX;rw[← hF1] at hI1;have hz:=HZ.out;have hne:D'≠g:=by omega
  have hd2:(W.setCell ⟨g,X9*5+4,none⟩ (.slice ar nr cr)).heap[D']?=some (.deferred (some [])):=(Below.heap_setCell W _ _ D' hne).trans hd;have hst:Step (fun k=>k=D') (W.setCell ⟨g,X9*5+4,none⟩ (.slice ar nr cr)) ((W.setCell ⟨g,X9*5+4,none⟩ (.slice ar nr cr)).putObj D' (.deferred none)):=(Step.refl _ _).putObj _ _ (.inr rfl);have hc6:(W.setCell ⟨g,X9*5+4,none⟩ (.slice ar nr cr)).cell? ⟨w1.heap.size,0,none⟩=some (.slice (some ⟨g,0,none⟩) N c1):=hI1.out.cell;have HNL:Hid (NL ((W.setCell ⟨g,X9*5+4,none⟩ (.slice ar nr cr)).putObj D' (.deferred none)) (.slice (some ⟨g,0,none⟩) N c1) (layV t (i:Int))):=
   (hI1.row.stepF hst (fun e=>hne e.symm) (fun j hj=>⟨(hI1.free j hj).1.mono fun k e=>.inl (e▸hYD),(hI1.free j hj).2.1.mono fun k e=>.inl (e▸hYD),(hI1.free j hj).2.2.mono fun k e=>.inl (e▸hYD)⟩)).no.nl
  have HKP:Hid (Kp w ((W.setCell ⟨g,X9*5+4,none⟩ (.slice ar nr cr)).putObj D' (.deferred none))):=Below.trans hI1.kp (hst.below hI1.kp.size (fun k hk=>by have:=hz.1.size;omega));have HDD:=Lib.hid hd2;clear hI hI1 hat hH9 hlen hF1 hF2 hX hst hd2 hYb hYD HBH HSK HPX HSN HIP HS0 HI0 HSD HFIN;simp only[Exit.inBlock,Exit.then];refine hKk _ _ ?_;go_wp2;refine ⟨by simp,.inl ⟨_,_,rfl,run_takeDeferred HDD.out,?_⟩⟩;exact ⟨_,results_tmp2 rfl _ _ _,⟨_,rfl,HNL.out⟩,HKP.out⟩
 case stop=>intro D' c m Y W hD hYD hYb hm h;exact h.elim
theorem aj3 (vt:Value)(t:List Nod)(K:Nat)(i:Int)(w:World)(hT:aaZ t K)(hr:aab t K)(ht:NL w vt t)(hi:-9223372036854775808≤i∧i≤9223372036854775807)(hTab:Tab w):
  Calls Tryz.prog 106 #[vt,.int .i64 i] w fun e w'=>(∃ r,e=.returned (.tuple #[r,.int .i64 (layE t i)])∧NL w' r (layV t i))∧Kp w w':=by
 by_cases h:aar t i
 ·rw[show layE t i=0 from if_pos h]
  obtain ⟨k,rfl⟩:=Int.eq_ofNat_of_zero_le h.1;have h2:=h.2.1;rw[hr.lv] at h2;exact aj2 vt t K k w hT hr ht hTab (by omega) h
 ·rw[show layE t i=11 from if_neg h,show layV t i=t from if_neg h]
  exact ak2 vt t K i w hT hr ht h
end Go.Proofs.YthmhklmkgkfcpaaGreatDoor

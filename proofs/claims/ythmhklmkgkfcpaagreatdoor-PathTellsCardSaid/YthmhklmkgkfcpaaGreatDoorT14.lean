import Derived.Test.YthmhklmkgkfcpaaGreatDoorT10
import Derived.Test.YthmhklmkgkfcpaaGreatDoorT11
import Derived.Test.YthmhklmkgkfcpaaGreatDoorT13
import Derived.OpenShut
import Derived.SizedLaws
set_option linter.unusedVariables false
set_option linter.unusedSimpArgs false
set_option maxHeartbeats 8000000
set_option maxRecDepth 100000
namespace Go.Proofs.YthmhklmkgkfcpaaGreatDoor
open Go.RowKit
structure arW (P:Program)(t e:TypeId):Prop where
 ht:P.underlying t=some (.slice e)
 hi:∃ i z,P.info? e=some i∧i.zero=some z∧i.size=1∧i.bytes≤64∧z.cells.size=1
theorem arW.mk' {P:Program}{t e:TypeId}{z:Value}{b:Nat}(ht:P.underlying t=some (.slice e))(h:(P.info? e).map (fun i=>(i.zero,i.size,i.bytes))=some (some z,1,b))(hb:b≤64)(hz:z.cells.size=1):arW P t e:=by
 obtain ⟨i,hi,hz0,hz1,hz2⟩:=info_parts h;exact ⟨ht,i,z,hi,hz0,hz1,by omega,hz⟩
theorem abJ {P:Program}{w:World}{t e:TypeId}(S:arW P t e){ops:Array Oper}{rest:List Oper}{o:Oper}{a:Act}{Q:Exit→Act→World→Prop}(hgd:o.guard=none)(s x:Operand)
  (ho:o.op=.call { callee:=.builtin .append,args:=#[s,x],argTypes:=#[t,t] })
  (B:Nat) (v:Value) (us:List Value) (hs:a.eval s=v) (hown:w.ownsRow B e 1 v us.length us) (u:Value) (ms:List Value) (hx:a.eval x=u) (hu:Vals w u ms) (h1:∀ z∈ms,z.oneCell'=true)
  (hlen:us.length+ms.length≤1000000000000) (hbase:B≤w.heap.size)
  (h:∀ v' w',w'.ownsRow B e 1 v' (us++ms).length (us++ms)→w.grownBy w' v.ownBlock→wpList P ops Q rest (a.put o.dst v') w'):wpList P ops Q (o :: rest) a w:=by
 obtain ⟨i,z,hi,hz,hsize,hby,hzc⟩:=S.hi
 obtain ⟨ad,c,rfl,hc,hm,hnil,hcell⟩:=hu
 cases ad with
 | none=>
  have hc0:=hnil rfl
  have hm0:ms=[]:=List.eq_nil_of_length_eq_zero (by omega)
  subst hm0
  subst hc0
  refine wpList_append_own_none hgd s x t ho B e i 1 S.ht hi v us.length us hs hown hx ?_
  exact h v w (by simpa using hown) ⟨rfl,rfl,rfl,Nat.le_refl _,fun _ _ _=>rfl⟩
 | some ad=>
  refine wpList_append_own w hgd s x t ho B e i z 1 i.bytes S.ht hi hz hsize rfl hzc (by decide) v us.length us hs hown ad ms.length c ms hx (by omega) (fun j y hj=>?_) h1 (by unfold maxLen;omega) ?_ hbase
   (fun v' w' h1 h2 h3=>h v' w' (by rw[List.length_append];exact h1) h2)
  ·have hjl:j<ms.length:=(List.getElem?_eq_some_iff.1 hj).1
   rw[List.getElem?_eq_getElem hjl] at hj
   cases hj
   exact hcell ad rfl j hjl
  ·have:=Nat.mul_le_mul hlen hby
   omega
theorem Rd.one {w:World}{v:Value}{l:List UInt8}(h:Rd w v l):v.oneCell'=true:=by
 obtain ⟨a,c,rfl,_⟩:=h.shape;rfl
theorem af6 (w:World)(e:TypeId)(u:Value):(w.alloc (.cells #[u] e)).ownsRow w.heap.size e 1 (.slice (some ⟨w.heap.size,0,none⟩) 1 1) [u].length [u]:=
 World.ownsRow_lit w #[u] 1 (Nat.le_refl _) (by unfold maxLen;omega) rfl
theorem Tryz.info24:(Tryz.prog.info? 24).map (fun i=>(i.zero,i.size,i.bytes))=some (some (.slice none 0 0),1,24):=by kernel_rfl
theorem ap4:arW Tryz.prog 115 24:=arW.mk' Tryz.underlying115 Tryz.info24 (by decide) rfl
theorem ah6 (vb v:Value)(lb:List UInt8)(ls:List (List UInt8))(w:World)(hb:Rd w vb lb)(h:RL w v ls)(hp:0<lb.length)(hl:lb.length+ls.flatten.length≤2000)(hn:ls.length<1000000):
  Calls Tryz.prog 235 #[vb,v] w fun e w'=>(∃ a c,e=.returned (.slice a 32 c)∧Ow 5 w' w.heap.size (.slice a 32 c) (aaH (lb++ls.flatten)))∧Kp w w':=by
 have S:=ap4;obtain ⟨us,hv,hul,hr⟩:=h;have h1:∀ z∈us,z.oneCell'=true:=fun z hz=>by
  obtain ⟨i,hi,rfl⟩:=List.getElem_of_mem hz;have:=hr i (by omega);rw[List.getD_eq_getElem?_getD,List.getElem?_eq_getElem hi] at this;exact this.one
 have HU:=Lib.hid (And.intro hul h1);have hlen:us.length<1000000:=by omega
 have HR:=Lib.hid hr;clear hul h1 hr;obtain ⟨ab,cb,rfl,pb,qb⟩:=hb.shape;obtain ⟨av,cv,rfl,pv,qv⟩:=hv.shape;unfold maxLen at qb qv;have HO:=Lib.hid (af6 w 24 (.slice ab lb.length cb));go_enter Tryz.func235,Tryz.ntmps235;go_wp2_with (at_builtin;refine abJ S rfl _ _ rfl w.heap.size _ [.slice ab lb.length cb] rfl HO.out _ us rfl (hv.kp ((Kp.refl _).alloc _)) HU.out.2 (by simp;omega) (by simp) ?_;intro v2 w2 ho2 hg2;have k2:Kp w w2:=Kp.grown ((Kp.refl _).alloc _) hg2 (by intro k e;cases e;exact Nat.le_refl _))
 have hRL:RL w2 v2 (lb :: ls):=RL.cons ho2 (hb.kp k2) HU.out.1 (fun i hi=>(HR.out i hi).kp k2);refine (abW v2 (lb :: ls) w2 hRL (by rw[List.flatten_cons,List.length_append];omega) (by rw[List.flatten_cons,List.length_append];omega) (by simp;omega)).mono ?_;rintro e w3 ⟨⟨v3,rfl,o3⟩,k3⟩;go_wp2_with fail;refine (anK v3 (lb :: ls).flatten _ o3.rd (by rw[List.flatten_cons,List.length_append];omega)).mono ?_;rintro e w4 ⟨⟨a4,c4,rfl,r4⟩,k4⟩;go_wp2_with fail;go_ret;exact ⟨⟨_,_,rfl,by simpa using r4.mono (k2.trans k3).size⟩,(k2.trans k3).trans k4⟩
theorem anO (vk v:Value)(k:List UInt8)(ls:List (List UInt8))(w:World)(hk:Rd w vk k)(h:RL w v ls)(hkl:k.length≤2000)(hl:ls.flatten.length≤1900)(hn:ls.length<1000000):
  Calls Tryz.prog 201 #[vk,v] w fun e w'=>(∃ a c,e=.returned (.slice a 32 c)∧Ow 5 w' w.heap.size (.slice a 32 c) (macB k ls.flatten))∧Kp w w':=by
 have S:=ap4;have HK:=Lib.hid (adl k);have HM:Hid (macB k ls.flatten=aaH (xorB (keyB k) 92++aaH (xorB (keyB k) 54++ls.flatten))):=rfl;have HX:=Lib.hid (fun y:UInt8=>abD (keyB k) y);obtain ⟨K,hK⟩:∃ K,keyB k=K:=⟨_,rfl⟩;rw[hK] at HK HM HX;have HD:=Lib.hid aaP;have MK:=Lib.hid (anL vk k w hk hkl);rw[hK] at MK;clear hK;go_enter Tryz.func201,Tryz.ntmps201;go_wp2_with fail;refine MK.out.mono ?_;rintro e w1 ⟨⟨g1,rfl,b1,_⟩,k1⟩;have r1:Rd w1 (.slice (some ⟨g1,0,none⟩) 64 64) K:=b1.rdAll (by rw[HK.out]) (Nat.le_refl _) (by unfold maxLen;omega);go_wp2_with fail;refine (ah4 _ K 92 _ r1 (by rw[HK.out];omega)).mono ?_;rintro e w2 ⟨⟨g2,rfl,b2,_⟩,k2⟩;have r2:Rd w2 (.slice (some ⟨g2,0,none⟩) 64 64) (xorB K 92):=b2.rdAll (by rw[HX.out,HK.out]) (Nat.le_refl _) (by unfold maxLen;omega);have hlk:K.length=64:=HK.out;rw[hlk];clear hlk;go_wp2_with fail;refine (ah4 _ K 54 _ (r1.kp k2) (by rw[HK.out];omega)).mono ?_;rintro e w3 ⟨⟨g3,rfl,b3,_⟩,k3⟩;have r3:Rd w3 (.slice (some ⟨g3,0,none⟩) 64 64) (xorB K 54):=b3.rdAll (by rw[HX.out,HK.out]) (Nat.le_refl _) (by unfold maxLen;omega);have hlk:K.length=64:=HK.out;rw[hlk];clear hlk;go_wp2_with fail;refine (ah6 _ _ (xorB K 54) ls _ r3 (((h.kp k1).kp k2).kp k3) (by rw[HX.out,HK.out];omega) (by rw[HX.out,HK.out];omega) hn).mono ?_;rintro e w4 ⟨⟨a4,c4,rfl,r4⟩,k4⟩;have hRL:∀ W,Kp w4 W→W.ownsRow w4.heap.size 24 1 (.slice (some ⟨w4.heap.size,0,none⟩) 1 1) [Value.slice a4 32 c4].length [Value.slice a4 32 c4]→RL W (.slice (some ⟨w4.heap.size,0,none⟩) 1 1) [aaH (xorB K 54++ls.flatten)]:=fun W hW ho=>
  RL.cons (us:=[]) (ls:=[]) ho (r4.rd.kp hW) rfl (fun i hi=>by simp at hi)
 go_wp2_with fail;refine (ah6 _ _ (xorB K 92) [aaH (xorB K 54++ls.flatten)] _ (((r2.kp k3).kp k4).kp ((Kp.refl _).alloc _)) (hRL _ ((Kp.refl _).alloc _) (af6 _ _ _)) (by rw[HX.out,HK.out];omega) (by rw[HX.out,HK.out];simp[HD.out]) (by simp)).mono ?_;rintro e w5 ⟨⟨a5,c5,rfl,r5⟩,k5⟩;go_wp2_with fail;go_ret;exact ⟨⟨_,_,rfl,by rw[HM.out];simpa using r5.mono ((((k1.trans k2).trans k3).trans k4).alloc _).size⟩,(((k1.trans k2).trans k3).trans k4).trans (((Kp.refl _).alloc _).trans k5)⟩
theorem aqH (vk v:Value)(k b:List UInt8)(w:World)(hk:Rd w vk k)(h:Rd w v b)(hkl:k.length≤2000)(hl:b.length≤1900):
  Calls Tryz.prog 171 #[vk,v] w fun e w'=>(∃ a c,e=.returned (.slice a 32 c)∧Ow 5 w' w.heap.size (.slice a 32 c) (macB k b))∧Kp w w':=by
 have hRL:∀ W,Kp w W→W.ownsRow w.heap.size 24 1 (.slice (some ⟨w.heap.size,0,none⟩) 1 1) [v].length [v]→RL W (.slice (some ⟨w.heap.size,0,none⟩) 1 1) [b]:=fun W hW ho=>
  RL.cons (us:=[]) (ls:=[]) ho (h.kp hW) rfl (fun i hi=>by simp at hi)
 obtain ⟨av,cv,rfl,pv,qv⟩:=h.shape;go_enter Tryz.func171,Tryz.ntmps171;go_wp2_with fail;refine (anO _ _ k [b] _ (hk.kp ((Kp.refl _).alloc _)) (hRL _ ((Kp.refl _).alloc _) (af6 _ _ _)) hkl (by simpa using hl) (by simp)).mono ?_;rintro e w5 ⟨⟨a5,c5,rfl,r5⟩,k5⟩;go_wp2_with fail;go_ret;exact ⟨⟨_,_,rfl,by simpa using r5.mono ((Kp.refl _).alloc _).size⟩,((Kp.refl _).alloc _).trans k5⟩
theorem anP (vk v:Value)(k:List UInt8)(ls:List (List UInt8))(w:World)(hk:Rd w vk k)(h:RL w v ls)(hkl:k.length≤2000)(hl:ls.flatten.length≤1900)(hn:ls.length<1000000):
  Calls Tryz.prog 200 #[vk,v] w fun e w'=>(∃ a c,e=.returned (.slice a 32 c)∧Ow 5 w' w.heap.size (.slice a 32 c) (macB k ls.flatten))∧Kp w w':=by
 go_enter Tryz.func200,Tryz.ntmps200;go_wp2_with fail;refine (anO _ _ k ls _ hk h hkl hl hn).mono ?_;rintro e w5 ⟨⟨a5,c5,rfl,r5⟩,k5⟩;go_wp2_with fail;go_ret;exact ⟨⟨_,_,rfl,r5⟩,k5⟩
theorem apB (l:List UInt8)(k:Nat):l++List.replicate k 0++[0]=l++List.replicate (k+1) 0:=by
 rw[List.append_assoc,List.replicate_succ']
theorem amy (v:Value)(l:List UInt8)(w:World)(h:Rd w v l)(hl:l.length≤2000):
  Calls Tryz.prog 184 #[v] w fun e w'=>(∃ v',e=.returned v'∧Ow 5 w' w.heap.size v' (keyB l))∧Kp w w':=by
 have U:=ar0;obtain ⟨a,c,rfl,h1,h2⟩:=h.shape;unfold maxLen at h2;have HS:=Lib.hid apB;by_cases hlt:64<l.length
 ·have hK:keyB l=aaH l++List.replicate 32 0:=by unfold keyB blkB;rw[if_pos hlt,aaP]
  rw[hK];have hR:=aaP l;have hlt':64<(l.length:Int):=by omega
  obtain ⟨D,hD⟩:∃ D,aaH l=D:=⟨_,rfl⟩;obtain ⟨R,hRR⟩:∃ R:Nat,R=32:=⟨_,rfl⟩;have HO:=Lib.hid (afp (.slice a l.length c) l);rw[hD] at hR HO ⊢;rw[show List.replicate 32 (0:UInt8)=List.replicate R 0 from by rw[hRR]];have HR:Hid (D.length+R=64):=by show _=_;omega
  clear hK hD hR hRR;go_enter Tryz.func184,Tryz.ntmps184;go_wp2_with (at_builtin;refine aae U rfl _ _ rfl w.heap.size _ _ rfl (Ow.lit w 5 w.heap.size 0 #[] [] (Nat.le_refl _) rfl (by decide) rfl) _ l rfl (h.kp ((Kp.refl w).alloc _)) ?d1 ?d2 ?_;rotate_right;intro v2 w2 o2 g2 _;have k2:Kp w w2:=Kp.grown ((Kp.refl w).alloc _) g2 (by intro k e;cases e;exact Nat.le_refl _);clear g2)
  case d1=>simp;omega
  case d2=>simp
  refine (HO.out _ (h.kp k2) hl).mono ?_;rintro e wA ⟨⟨vA,rfl,oA0⟩,k3⟩;have oA:=oA0.mono k2.size;have kA:=k2.trans k3;clear oA0 o2 k2 k3;go_wp2_with fail;have o3':Ow 5 wA w.heap.size vA (D++List.replicate 0 0):=by simpa using oA
  clear oA;go_loopw[3] (fun v wr=>∃ k:Nat,k≤R∧Ow 5 wr w.heap.size v (D++List.replicate k 0)∧Kp w wr) (fun v _=>match v with | .slice _ n _=>64 - n | _=>0)
  case atStart=>exact ⟨0,by omega,o3',kA⟩
  case round=>
   clear o3' kA;obtain ⟨k,hk,ho,hkp⟩:=hrel;have hsz:=hkp.size;obtain ⟨av,cv,rfl,p1,p2⟩:=ho.rd.shape;have hlen:(D++List.replicate k 0).length=D.length+k:=by rw[List.length_append];simp
   rw[hlen] at p1 ⊢;rw[hlen] at ho;unfold maxLen at p2;by_cases hk2:k<R
   ·have HSk:=Lib.hid (HS.out D k)
    generalize D++List.replicate k 0=X at *;have HLN:=Lib.hid hlen;clear hlen;have hDR:=HR.out;have q:(D.length:Int)+(k:Int)<64:=by omega
    have q':D.length+k<64:=by omega
    clear hDR;go_wp2_with (at_builtin;refine aae U rfl _ _ rfl w.heap.size _ _ rfl (ho.kp ((Kp.refl _).alloc _)) _ [0] rfl (Ow.lit _ 5 0 1 _ _ (Nat.zero_le _) rfl (by decide) rfl).rd ?c1 ?c2 ?_;rotate_right;intro v' w2 ho2 hg _)
    case c1=>rw[HLN.out];simp;omega
    case c2=>simp;omega
    go_roundw
    case rel=>exact ⟨k+1,by omega,by rw[← HSk.out];exact ho2,Kp.grown (hkp.alloc _) hg ho.own_ge⟩
    case measure=>
     obtain ⟨a5,c5,rfl,_⟩:=ho2.rd.shape;rw[List.length_append,HLN.out];simp;omega
   ·obtain rfl:k=R:=by omega
    have hDR:=HR.out;have q:¬(D.length:Int)+(k:Int)<64:=by omega
    have q':¬D.length+k<64:=by omega
    clear hDR hlen;go_wp2_with fail;go_ret;exact ⟨⟨_,rfl,ho⟩,hkp⟩
 ·have hK:keyB l=l++List.replicate (64 - l.length) 0:=by unfold keyB blkB;rw[if_neg hlt]
  rw[hK];have hlt':¬64<(l.length:Int):=by omega
  obtain ⟨R,hRR⟩:∃ R:Nat,R=64 - l.length:=⟨_,rfl⟩;rw[← hRR];have HR:Hid (l.length+R=64):=by show _=_;omega
  clear hK hRR;go_enter Tryz.func184,Tryz.ntmps184;go_wp2_with (at_builtin;refine aae U rfl _ _ rfl w.heap.size _ _ rfl (Ow.lit w 5 w.heap.size 0 #[] [] (Nat.le_refl _) rfl (by decide) rfl) _ l rfl (h.kp ((Kp.refl w).alloc _)) ?d3 ?d4 ?_;rotate_right;intro v2 w2 o2 g2 _;have k2:Kp w w2:=Kp.grown ((Kp.refl w).alloc _) g2 (by intro k e;cases e;exact Nat.le_refl _);clear g2)
  case d3=>omega
  have oA:Ow 5 w2 w.heap.size v2 l:=by simpa using o2
  have kA:=k2;clear o2 k2;have o3':Ow 5 w2 w.heap.size v2 (l++List.replicate 0 0):=by simpa using oA
  clear oA;go_loopw[3] (fun v wr=>∃ k:Nat,k≤R∧Ow 5 wr w.heap.size v (l++List.replicate k 0)∧Kp w wr) (fun v _=>match v with | .slice _ n _=>64 - n | _=>0)
  case atStart=>exact ⟨0,by omega,o3',kA⟩
  case round=>
   clear o3' kA;obtain ⟨k,hk,ho,hkp⟩:=hrel;have hsz:=hkp.size;obtain ⟨av,cv,rfl,p1,p2⟩:=ho.rd.shape;have hlen:(l++List.replicate k 0).length=l.length+k:=by rw[List.length_append];simp
   rw[hlen] at p1 ⊢;rw[hlen] at ho;unfold maxLen at p2;by_cases hk2:k<R
   ·have HSk:=Lib.hid (HS.out l k)
    generalize l++List.replicate k 0=X at *;have HLN:=Lib.hid hlen;clear hlen;have hDR:=HR.out;have q:(l.length:Int)+(k:Int)<64:=by omega
    have q':l.length+k<64:=by omega
    clear hDR;go_wp2_with (at_builtin;refine aae U rfl _ _ rfl w.heap.size _ _ rfl (ho.kp ((Kp.refl _).alloc _)) _ [0] rfl (Ow.lit _ 5 0 1 _ _ (Nat.zero_le _) rfl (by decide) rfl).rd ?c3 ?c4 ?_;rotate_right;intro v' w2 ho2 hg _)
    case c3=>rw[HLN.out];simp;omega
    case c4=>simp;omega
    go_roundw
    case rel=>exact ⟨k+1,by omega,by rw[← HSk.out];exact ho2,Kp.grown (hkp.alloc _) hg ho.own_ge⟩
    case measure=>
     obtain ⟨a5,c5,rfl,_⟩:=ho2.rd.shape;rw[List.length_append,HLN.out];simp;omega
   ·obtain rfl:k=R:=by omega
    have hDR:=HR.out;have q:¬(l.length:Int)+(k:Int)<64:=by omega
    have q':¬l.length+k<64:=by omega
    clear hDR hlen;go_wp2_with fail;go_ret;exact ⟨⟨_,rfl,ho⟩,hkp⟩
theorem alI (v:Value)(l:List UInt8)(y:UInt8)(w:World)(h:Rd w v l)(hl:l.length≤1000000):
  Calls Tryz.prog 186 #[v,.int .u8 (y.toNat:Int)] w fun e w'=>(∃ v',e=.returned v'∧Ow 5 w' w.heap.size v' (xorB l y))∧Kp w w':=by
 have U:=ar0;obtain ⟨a,c,rfl,h1,h2⟩:=h.shape;unfold maxLen at h2;have hx:∀ k,k<l.length→xorB (l.take (k+1)) y=xorB (l.take k) y++[l.getD k 0 ^^^ y]:=fun k hk=>by rw[aeL l k hk,akx];rfl
 have HX:=Lib.hid hx;clear hx;go_enter Tryz.func186,Tryz.ntmps186;go_wp2_with fail;go_loopw[5,6] (fun v i wr=>∃ k:Nat,k≤l.length∧i=.int .i64 k∧Ow 5 wr w.heap.size v (xorB (l.take k) y)∧Kp w wr) (fun _ i _=>l.length - (intOf i).toNat)
 case atStart=>exact ⟨0,by omega,rfl,Ow.nil _ _ _,Kp.refl _⟩
 case round=>
  obtain ⟨k,hk,rfl,ho,hkp⟩:=hrel;have hsz:=hkp.size;by_cases hlt:k<l.length
  ·obtain ⟨b,off,rfl,_,hcell⟩:=h.at k hlt
   have hc0:=hkp.cell (hcell k hlt);have hxo:=aky (l.getD k 0) y;have hlen:(xorB (l.take k) y).length=k:=by rw[abD];simp;omega
   have HXk:=Lib.hid (HX.out k hlt);generalize l.getD k 0=x at *;generalize hz:x ^^^ y=z at *;generalize xorB (l.take k) y=L at *;have HLN:=Lib.hid hlen;clear hlen hcell hz;go_wp2_with (at_builtin;refine aae U rfl _ _ rfl w.heap.size _ _ rfl (ho.kp ((Kp.refl _).alloc _)) _ [z] rfl (Ow.lit _ 5 0 1 _ _ (Nat.zero_le _) rfl (by decide) rfl).rd ?c1 ?c2 ?_;rotate_right;intro v' w2 ho2 hg _)
   case c1=>rw[HLN.out];simp;omega
   case c2=>simp;omega
   go_roundw
   case rel=>exact ⟨k+1,by omega,by go_num,by rw[HXk.out];exact ho2,Kp.grown (hkp.alloc _) hg ho.own_ge⟩
   case measure=>simp[intOf];omega
  ·obtain rfl:k=l.length:=by omega
   rw[List.take_length] at ho;go_wp2_with fail;go_ret;exact ⟨⟨_,rfl,ho⟩,hkp⟩
theorem amz (vk v:Value)(k b:List UInt8)(w:World)(hk:Rd w vk k)(h:Rd w v b)(hkl:k.length≤2000)(hl:b.length≤1900):
  Calls Tryz.prog 151 #[vk,v] w fun e w'=>(∃ v',e=.returned v'∧Ow 5 w' w.heap.size v' (macB k b))∧Kp w w':=by
 have U:=ar0;obtain ⟨av,cv,rfl,pv,qv⟩:=h.shape;have HM:Hid (macB k b=aaH (xorB (keyB k) 92++aaH (xorB (keyB k) 54++b))):=rfl;have HK:=Lib.hid (adl k);have HX:=Lib.hid (fun y:UInt8=>abD (keyB k) y);obtain ⟨K,hK⟩:∃ K,keyB k=K:=⟨_,rfl⟩;have MK:=Lib.hid (amy vk k w hk hkl);rw[hK] at HK HM HX MK;have HD:=Lib.hid aaP;clear hK;go_enter Tryz.func151,Tryz.ntmps151;go_wp2_with fail;refine MK.out.mono ?_;rintro e w1 ⟨⟨v1,rfl,o1⟩,k1⟩;go_wp2_with fail;refine (alI _ K 54 _ o1.rd (by rw[HK.out];omega)).mono ?_;rintro e w2 ⟨⟨v2,rfl,o2⟩,k2⟩;go_wp2_with (at_builtin;refine aae U rfl _ _ rfl w1.heap.size _ _ rfl o2 _ b rfl ((h.kp k1).kp k2) ?c1 k2.size ?_;rotate_right;intro v3 w3 o3 g3 _;have k3:Kp w1 w3:=Kp.grown k2 g3 o2.own_ge;clear g3)
 case c1=>rw[HX.out,HK.out];omega
 refine (afp _ _ _ o3.rd (by rw[List.length_append,HX.out,HK.out];omega)).mono ?_;rintro e w4 ⟨⟨v4,rfl,o4⟩,k4⟩;go_wp2_with fail;refine (alI _ K 92 _ (o1.rd.kp (k3.trans k4)) (by rw[HK.out];omega)).mono ?_;rintro e w5 ⟨⟨v5,rfl,o5⟩,k5⟩;go_wp2_with (at_builtin;refine aae U rfl _ _ rfl w4.heap.size _ _ rfl o5 _ (aaH (xorB K 54++b)) rfl (o4.rd.kp k5) ?c2 k5.size ?_;rotate_right;intro v6 w6 o6 g6 _;have k6:Kp w4 w6:=Kp.grown k5 g6 o5.own_ge;clear g6)
 case c2=>rw[HX.out,HK.out,HD.out];omega
 refine (afp _ _ _ o6.rd (by rw[List.length_append,HX.out,HK.out,HD.out];omega)).mono ?_;rintro e w7 ⟨⟨v7,rfl,o7⟩,k7⟩;go_wp2_with fail;go_ret;exact ⟨⟨_,rfl,by rw[HM.out];exact o7.mono (((k1.trans k3).trans k4).trans k6).size⟩,(((k1.trans k3).trans k4).trans k6).trans k7⟩
end Go.Proofs.YthmhklmkgkfcpaaGreatDoor
namespace Go.Proofs.YthmhklmkgkfcpaaGreatDoor
open Go.RowKit Go.ChangeShapes Go.WideShapes Go.Deep
section
variable {H : Type} {enc : TypeId × Value → H} {P : Program} {w : World} {base : Nat} {spare : Nat → Bool} {held : Bool}
theorem ap0 {t:TypeId}{fs:Array Field}{N:Nat}{v:Value}{d:DataW H}{p:List MemPlace}{r:Reach}{b0:Nat}(hs:P.underlying t=some (.struct fs))(hC:P.cellsOf t=N)
  (hv:Value.okWide P w r b0 t v) (h:DataW.Trod enc P w base spare held t v d p):
  ∃ (cs:List Value) (xs:List (DataW H × List MemPlace)) (n:Nat),v=.agg cs.toArray∧cs.length=N∧d=.agg (xs.map (·.1))∧xs.length=fs.size ∧
   ∀ (i:Nat) (f:Field),fs[i]?=some f→DataW.trod enc P w base spare held n f.type ((cs.drop f.offset).take (P.cellsOf f.type))=xs[i]?:=by
 obtain ⟨cs,rfl,hsz⟩:=okWide_struct hs hv;obtain ⟨l⟩:=cs;obtain ⟨fuel,hf⟩:=h;obtain ⟨xs,n,_,hx,_,hlen,hg⟩:=DataW.trod_struct hs hf;simp only[Prod.mk.injEq] at hx;exact ⟨l,xs,n,rfl,hsz.trans hC,hx.1,hlen,hg⟩
theorem afd {t:TypeId}{f0 f1 f2 f3 f4:Field}{v:Value}{d:DataW H}{p:List MemPlace}{r:Reach}{b0:Nat}(hs:P.underlying t=some (.struct #[f0,f1,f2,f3,f4]))(hC:P.cellsOf t=7)
  (hl:[(f0.offset,P.cellsOf f0.type),(f1.offset,P.cellsOf f1.type),(f2.offset,P.cellsOf f2.type),(f3.offset,P.cellsOf f3.type),(f4.offset,P.cellsOf f4.type)]=([(0,1),(1,1),(2,1),(3,2),(5,2)]:List (Nat × Nat)))
  (hv:Value.okWide P w r b0 t v) (h:DataW.Trod enc P w base spare held t v d p):
  ∃ (c0 c1 c2 c3 c4 c5 c6:Value) (y0 y1 y2 y3 y4:DataW H × List MemPlace) (n:Nat),v=.agg #[c0,c1,c2,c3,c4,c5,c6]∧d=.agg [y0.1,y1.1,y2.1,y3.1,y4.1]∧DataW.trod enc P w base spare held n f0.type [c0]=some y0∧DataW.trod enc P w base spare held n f1.type [c1]=some y1∧DataW.trod enc P w base spare held n f2.type [c2]=some y2∧DataW.trod enc P w base spare held n f3.type [c3,c4]=some y3∧DataW.trod enc P w base spare held n f4.type [c5,c6]=some y4:=by
 obtain ⟨cs,xs,n,rfl,hcl,rfl,hxl,hg⟩:=ap0 hs hC hv h
 simp only[List.cons.injEq,Prod.mk.injEq,and_true] at hl
 obtain ⟨⟨o0,k0⟩,⟨o1,k1⟩,⟨o2,k2⟩,⟨o3,k3⟩,⟨o4,k4⟩⟩:=hl
 match cs,hcl,xs,(show xs.length=5 from hxl) with
 | [c0,c1,c2,c3,c4,c5,c6],_,[y0,y1,y2,y3,y4],_=>
  exact ⟨c0,c1,c2,c3,c4,c5,c6,y0,y1,y2,y3,y4,n,rfl,rfl,by simpa [o0,k0] using hg 0 f0 rfl,by simpa [o1,k1] using hg 1 f1 rfl,by simpa [o2,k2] using hg 2 f2 rfl,by simpa [o3,k3] using hg 3 f3 rfl,by simpa [o4,k4] using hg 4 f4 rfl⟩
end
end Go.Proofs.YthmhklmkgkfcpaaGreatDoor

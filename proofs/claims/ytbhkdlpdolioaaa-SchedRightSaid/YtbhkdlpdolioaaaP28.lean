import Derived.Test.YtbhkdlpdolioaaaP3
import Derived.Test.YtbhkdlpdolioaaaP21
import Derived.Test.YtbhkdlpdolioaaaP24
import Derived.Test.YtbhkdlpdolioaaaP26
set_option linter.unusedVariables false
set_option linter.unusedSimpArgs false
set_option maxHeartbeats 8000000
set_option maxRecDepth 100000
namespace Go.Proofs.Ytbhkdlpdolioaaa
open Go.RowKit
theorem Try.info22:(Try.prog.info? 22).map (fun i=>(i.zero,i.size,i.bytes))=some (some (.slice none 0 0),1,24):=by kernel_rfl
theorem aeI:af6 Try.prog 23 22:=af6.mk' Try.underlying23 Try.info22 (by decide) rfl
theorem acE (vb v:Value)(lb:List UInt8)(ls:List (List UInt8))(w:World)(hb:Rd w vb lb)(h:RL w v ls)(hp:0<lb.length)(hl:lb.length+ls.flatten.length≤2000)(hn:ls.length<1000000):
  Calls Try.prog 91 #[vb,v] w fun e w'=>(∃ a c,e=.returned (.slice a 32 c)∧Ow 5 w' w.heap.size (.slice a 32 c) (aam (lb++ls.flatten)))∧Kp w w':=by
 have S:=aeI;obtain ⟨us,hv,hul,hr⟩:=h;have h1:∀ z∈us,z.oneCell'=true:=fun z hz=>by
  obtain ⟨i,hi,rfl⟩:=List.getElem_of_mem hz;have:=hr i (by omega);rw[List.getD_eq_getElem?_getD,List.getElem?_eq_getElem hi] at this;exact this.one
 have HU:=Lib.hid (And.intro hul h1);have hlen:us.length<1000000:=by omega
 have HR:=Lib.hid hr;clear hul h1 hr;obtain ⟨ab,cb,rfl,pb,qb⟩:=hb.shape;obtain ⟨av,cv,rfl,pv,qv⟩:=hv.shape;unfold maxLen at qb qv;have HO:=Lib.hid (abr w 22 (.slice ab lb.length cb));go_enter Try.func91,Try.ntmps91;go_wp2_with (at_builtin;refine abJ S rfl _ _ rfl w.heap.size _ [.slice ab lb.length cb] rfl HO.out _ us rfl (hv.kp ((Kp.refl _).alloc _)) HU.out.2 (by simp;omega) (by simp) ?_;intro v2 w2 ho2 hg2;have k2:Kp w w2:=Kp.grown ((Kp.refl _).alloc _) hg2 (by intro k e;cases e;exact Nat.le_refl _))
 have hRL:RL w2 v2 (lb :: ls):=RL.cons ho2 (hb.kp k2) HU.out.1 (fun i hi=>(HR.out i hi).kp k2);refine (abc v2 (lb :: ls) w2 hRL (by rw[List.flatten_cons,List.length_append];omega) (by rw[List.flatten_cons,List.length_append];omega) (by simp;omega)).mono ?_;rintro e w3 ⟨⟨v3,rfl,o3⟩,k3⟩;go_wp2_with fail;refine (afJ v3 (lb :: ls).flatten _ o3.rd (by rw[List.flatten_cons,List.length_append];omega)).mono ?_;rintro e w4 ⟨⟨a4,c4,rfl,r4⟩,k4⟩;go_wp2_with fail;go_ret;exact ⟨⟨_,_,rfl,by simpa using r4.mono (k2.trans k3).size⟩,(k2.trans k3).trans k4⟩
theorem aeJ (vk v:Value)(k:List UInt8)(ls:List (List UInt8))(w:World)(hk:Rd w vk k)(h:RL w v ls)(hkl:k.length≤2000)(hl:ls.flatten.length≤1900)(hn:ls.length<1000000):
  Calls Try.prog 74 #[vk,v] w fun e w'=>(∃ a c,e=.returned (.slice a 32 c)∧Ow 5 w' w.heap.size (.slice a 32 c) (macB k ls.flatten))∧Kp w w':=by
 have S:=aeI;have HK:=Lib.hid (aa8 k);have HM:Hid (macB k ls.flatten=aam (xorB (keyB k) 92++aam (xorB (keyB k) 54++ls.flatten))):=rfl;have HX:=Lib.hid (fun y:UInt8=>aaA (keyB k) y);obtain ⟨K,hK⟩:∃ K,keyB k=K:=⟨_,rfl⟩;rw[hK] at HK HM HX;have HD:=Lib.hid aah;have MK:=Lib.hid (aeF vk k w hk hkl);rw[hK] at MK;clear hK;go_enter Try.func74,Try.ntmps74;go_wp2_with fail;refine MK.out.mono ?_;rintro e w1 ⟨⟨g1,rfl,b1,_⟩,k1⟩;have r1:Rd w1 (.slice (some ⟨g1,0,none⟩) 64 64) K:=b1.rdAll (by rw[HK.out]) (Nat.le_refl _) (by unfold maxLen;omega);go_wp2_with fail;refine (acC _ K 92 _ r1 (by rw[HK.out];omega)).mono ?_;rintro e w2 ⟨⟨g2,rfl,b2,_⟩,k2⟩;have r2:Rd w2 (.slice (some ⟨g2,0,none⟩) 64 64) (xorB K 92):=b2.rdAll (by rw[HX.out,HK.out]) (Nat.le_refl _) (by unfold maxLen;omega);have hlk:K.length=64:=HK.out;rw[hlk];clear hlk;go_wp2_with fail;refine (acC _ K 54 _ (r1.kp k2) (by rw[HK.out];omega)).mono ?_;rintro e w3 ⟨⟨g3,rfl,b3,_⟩,k3⟩;have r3:Rd w3 (.slice (some ⟨g3,0,none⟩) 64 64) (xorB K 54):=b3.rdAll (by rw[HX.out,HK.out]) (Nat.le_refl _) (by unfold maxLen;omega);have hlk:K.length=64:=HK.out;rw[hlk];clear hlk;go_wp2_with fail;refine (acE _ _ (xorB K 54) ls _ r3 (((h.kp k1).kp k2).kp k3) (by rw[HX.out,HK.out];omega) (by rw[HX.out,HK.out];omega) hn).mono ?_;rintro e w4 ⟨⟨a4,c4,rfl,r4⟩,k4⟩;have hRL:∀ W,Kp w4 W→W.ownsRow w4.heap.size 22 1 (.slice (some ⟨w4.heap.size,0,none⟩) 1 1) [Value.slice a4 32 c4].length [Value.slice a4 32 c4]→RL W (.slice (some ⟨w4.heap.size,0,none⟩) 1 1) [aam (xorB K 54++ls.flatten)]:=fun W hW ho=>
  RL.cons (us:=[]) (ls:=[]) ho (r4.rd.kp hW) rfl (fun i hi=>by simp at hi)
 go_wp2_with fail;refine (acE _ _ (xorB K 92) [aam (xorB K 54++ls.flatten)] _ (((r2.kp k3).kp k4).kp ((Kp.refl _).alloc _)) (hRL _ ((Kp.refl _).alloc _) (abr _ _ _)) (by rw[HX.out,HK.out];omega) (by rw[HX.out,HK.out];simp[HD.out]) (by simp)).mono ?_;rintro e w5 ⟨⟨a5,c5,rfl,r5⟩,k5⟩;go_wp2_with fail;go_ret;exact ⟨⟨_,_,rfl,by rw[HM.out];simpa using r5.mono ((((k1.trans k2).trans k3).trans k4).alloc _).size⟩,(((k1.trans k2).trans k3).trans k4).trans (((Kp.refl _).alloc _).trans k5)⟩
theorem aeK (vk v:Value)(k b:List UInt8)(w:World)(hk:Rd w vk k)(h:Rd w v b)(hkl:k.length≤2000)(hl:b.length≤1900):
  Calls Try.prog 50 #[vk,v] w fun e w'=>(∃ a c,e=.returned (.slice a 32 c)∧Ow 5 w' w.heap.size (.slice a 32 c) (macB k b))∧Kp w w':=by
 have hRL:∀ W,Kp w W→W.ownsRow w.heap.size 22 1 (.slice (some ⟨w.heap.size,0,none⟩) 1 1) [v].length [v]→RL W (.slice (some ⟨w.heap.size,0,none⟩) 1 1) [b]:=fun W hW ho=>
  RL.cons (us:=[]) (ls:=[]) ho (h.kp hW) rfl (fun i hi=>by simp at hi)
 obtain ⟨av,cv,rfl,pv,qv⟩:=h.shape;go_enter Try.func50,Try.ntmps50;go_wp2_with fail;refine (aeJ _ _ k [b] _ (hk.kp ((Kp.refl _).alloc _)) (hRL _ ((Kp.refl _).alloc _) (abr _ _ _)) hkl (by simpa using hl) (by simp)).mono ?_;rintro e w5 ⟨⟨a5,c5,rfl,r5⟩,k5⟩;go_wp2_with fail;go_ret;exact ⟨⟨_,_,rfl,by simpa using r5.mono ((Kp.refl _).alloc _).size⟩,((Kp.refl _).alloc _).trans k5⟩
theorem afN (vk v:Value)(k:List UInt8)(ls:List (List UInt8))(w:World)(hk:Rd w vk k)(h:RL w v ls)(hkl:k.length≤2000)(hl:ls.flatten.length≤1900)(hn:ls.length<1000000):
  Calls Try.prog 95 #[vk,v] w fun e w'=>(∃ a c,e=.returned (.slice a 32 c)∧Ow 5 w' w.heap.size (.slice a 32 c) (macB k ls.flatten))∧Kp w w':=by
 go_enter Try.func95,Try.ntmps95;go_wp2_with fail;refine (aeJ _ _ k ls _ hk h hkl hl hn).mono ?_;rintro e w5 ⟨⟨a5,c5,rfl,r5⟩,k5⟩;go_wp2_with fail;go_ret;exact ⟨⟨_,_,rfl,r5⟩,k5⟩
end Go.Proofs.Ytbhkdlpdolioaaa

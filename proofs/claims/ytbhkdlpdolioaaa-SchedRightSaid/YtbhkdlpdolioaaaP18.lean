import Derived.Test.YtbhkdlpdolioaaaP11
import Derived.Test.YtbhkdlpdolioaaaP16
import Derived.Test.YtbhkdlpdolioaaaP17
import Derived.Deep.RegionHeld3
set_option linter.unusedVariables false
set_option linter.unusedSimpArgs false
set_option maxHeartbeats 8000000
set_option maxRecDepth 100000
namespace Go.Proofs.Ytbhkdlpdolioaaa
open Go.RowKit
theorem aeD (w:World):Calls Try.prog 69 #[] w fun e w'=>e=.returned (.agg (aab aav.list))∧Kp w w':=by
 go_enter Try.func69,Try.ntmps69;have hA:Arr 91 (w.alloc (.cells (aab (aai 8)) 91)) w.heap.size (aai 8):=Arr.new _ w _ _ rfl;go_wp2_with ((refine aad (by kernel_rfl) rfl rfl (.tmp 0) (.tmp 1) rfl w.heap.size (aai 8) aav.list rfl rfl hA rfl rfl ?_;intro w5 hR5 hbut))
 refine bodyPost_ret (aaH Try.underlying91 (by kernel_rfl) rfl _ _ w.heap.size aav.list rfl hR5 rfl) rfl ?_;exact ⟨rfl,hbut.below ((Kp.refl w).alloc _) (Nat.le_refl _)⟩
theorem adb (w:World):Calls Try.prog 58 #[] w fun e w'=>e=.returned (.agg (aab aav.list))∧Kp w w':=by
 go_enter Try.func58,Try.ntmps58;have hA:Arr 91 (w.alloc (.cells (aab (aai 8)) 91)) w.heap.size (aai 8):=Arr.new _ w _ _ rfl;go_wp2_with ((refine aad (by kernel_rfl) rfl rfl (.tmp 0) (.tmp 1) rfl w.heap.size (aai 8) aav.list rfl rfl hA rfl rfl ?_;intro w5 hR5 hbut))
 refine bodyPost_ret (aaH Try.underlying91 (by kernel_rfl) rfl _ _ w.heap.size aav.list rfl hR5 rfl) rfl ?_;exact ⟨rfl,hbut.below ((Kp.refl w).alloc _) (Nat.le_refl _)⟩
theorem adw (w:World):Calls Try.prog 57 #[] w fun e w'=>(∃ g,e=.returned (.slice (some ⟨g,0,none⟩) 64 64)∧Arr 59 w' g keyL∧w.heap.size≤g)∧Kp w w':=by
 go_enter Try.func57,Try.ntmps57;go_wp2;go_ret;exact ⟨⟨w.heap.size,rfl,Arr.new _ w _ _ rfl,Nat.le_refl _⟩,(Kp.refl w).alloc _⟩
section
variable {P : Program}
end
theorem Arr.cells8 {T:TypeId}{w:World}{g:Nat}{s:S8}(h:Arr T w g s.list):
  w.cell? ⟨g,0,none⟩=some (.int .u32 (af9 s.a))∧w.cell? ⟨g,1,none⟩=some (.int .u32 (af9 s.b))∧w.cell? ⟨g,2,none⟩=some (.int .u32 (af9 s.c))∧w.cell? ⟨g,3,none⟩=some (.int .u32 (af9 s.d)) ∧
  w.cell? ⟨g,4,none⟩=some (.int .u32 (af9 s.e))∧w.cell? ⟨g,5,none⟩=some (.int .u32 (af9 s.f))∧w.cell? ⟨g,6,none⟩=some (.int .u32 (af9 s.g))∧w.cell? ⟨g,7,none⟩=some (.int .u32 (af9 s.h)):=
 ⟨h.cell 0 (Nat.lt_of_sub_eq_succ rfl),h.cell 1 (Nat.lt_of_sub_eq_succ rfl),h.cell 2 (Nat.lt_of_sub_eq_succ rfl),h.cell 3 (Nat.lt_of_sub_eq_succ rfl),h.cell 4 (Nat.lt_of_sub_eq_succ rfl),h.cell 5 (Nat.lt_of_sub_eq_succ rfl),h.cell 6 (Nat.lt_of_sub_eq_succ rfl),h.cell 7 (Nat.lt_of_sub_eq_succ rfl)⟩
theorem Arr.frozen8 {T:TypeId}{w:World}{g:Nat}{s:S8}(h:Arr T w g s.list):
  w.frozen? ⟨g,0,none⟩=false∧w.frozen? ⟨g,1,none⟩=false∧w.frozen? ⟨g,2,none⟩=false∧w.frozen? ⟨g,3,none⟩=false∧w.frozen? ⟨g,4,none⟩=false∧w.frozen? ⟨g,5,none⟩=false∧w.frozen? ⟨g,6,none⟩=false∧w.frozen? ⟨g,7,none⟩=false:=
 ⟨h.frozen 0 (Nat.lt_of_sub_eq_succ rfl),h.frozen 1 (Nat.lt_of_sub_eq_succ rfl),h.frozen 2 (Nat.lt_of_sub_eq_succ rfl),h.frozen 3 (Nat.lt_of_sub_eq_succ rfl),h.frozen 4 (Nat.lt_of_sub_eq_succ rfl),h.frozen 5 (Nat.lt_of_sub_eq_succ rfl),h.frozen 6 (Nat.lt_of_sub_eq_succ rfl),h.frozen 7 (Nat.lt_of_sub_eq_succ rfl)⟩
theorem Arr.set8 {T:TypeId}{w:World}{g:Nat}{s:S8}(h:Arr T w g s.list)(r:S8):
  Arr T ((((((((w.setCell ⟨g,0,none⟩ (.int .u32 (af9 r.a))).setCell ⟨g,1,none⟩ (.int .u32 (af9 r.b))).setCell ⟨g,2,none⟩ (.int .u32 (af9 r.c))).setCell ⟨g,3,none⟩ (.int .u32 (af9 r.d))).setCell ⟨g,4,none⟩ (.int .u32 (af9 r.e))).setCell ⟨g,5,none⟩ (.int .u32 (af9 r.f))).setCell ⟨g,6,none⟩ (.int .u32 (af9 r.g))).setCell ⟨g,7,none⟩ (.int .u32 (af9 r.h))) g r.list:=
 (((((((h.set 0 r.a _ rfl).set 1 r.b _ rfl).set 2 r.c _ rfl).set 3 r.d _ rfl).set 4 r.e _ rfl).set 5 r.f _ rfl).set 6 r.g _ rfl).set 7 r.h _ rfl
theorem aa5 {B:Nat}{a w:World}(h:Below B a w){g:Nat}(hg:B≤g)(v0 v1 v2 v3 v4 v5 v6 v7:Value):
  Below B a ((((((((w.setCell ⟨g,0,none⟩ v0).setCell ⟨g,1,none⟩ v1).setCell ⟨g,2,none⟩ v2).setCell ⟨g,3,none⟩ v3).setCell ⟨g,4,none⟩ v4).setCell ⟨g,5,none⟩ v5).setCell ⟨g,6,none⟩ v6).setCell ⟨g,7,none⟩ v7):=
 (((((((h.setCell (p:=⟨g,0,none⟩) hg _).setCell (p:=⟨g,1,none⟩) hg _).setCell (p:=⟨g,2,none⟩) hg _).setCell (p:=⟨g,3,none⟩) hg _).setCell (p:=⟨g,4,none⟩) hg _).setCell (p:=⟨g,5,none⟩) hg _).setCell (p:=⟨g,6,none⟩) hg _).setCell (p:=⟨g,7,none⟩) hg _
theorem agg8 (r:S8):Value.agg (aab r.list)=.agg #[.int .u32 (af9 r.a),.int .u32 (af9 r.b),.int .u32 (af9 r.c),.int .u32 (af9 r.d),.int .u32 (af9 r.e),.int .u32 (af9 r.f),.int .u32 (af9 r.g),.int .u32 (af9 r.h)]:=rfl
def abm (s:S8)(i:Nat):List UInt8:=(s.list.take i).flatMap acw
theorem abn (s:S8)(i:Nat)(h:i<8):abm s (i+1)=abm s i++acw (s.list.getD i 0):=by
 unfold abm;have h':i<s.list.length:=h;rw[List.take_succ_eq_append_getElem h',List.flatMap_append,List.getD_eq_getElem?_getD,List.getElem?_eq_getElem h'];simp
theorem aaK (s:S8):∀ i,i≤8→(abm s i).length=4*i
 | 0,_=>rfl
 | i+1,h=>by rw[abn s i h,List.length_append,aaK s i (by omega)];simp[acw];omega
theorem adc (s:S8):s.bytes.length=32:=aaK s 8 (by omega)
theorem ade (x:UInt32):∃ b0 b1 b2 b3:UInt8,acw x=[b0,b1,b2,b3]∧IntKind.u8.wrap (af9 x / 16777216)=(b0.toNat:Int)∧IntKind.u8.wrap (af9 x / 65536)=(b1.toNat:Int)∧IntKind.u8.wrap (af9 x / 256)=(b2.toNat:Int)∧IntKind.u8.wrap (af9 x)=(b3.toNat:Int):=by
 refine ⟨_,_,_,_,rfl,?_,?_,?_,?_⟩ <;> rw[IntKind.wrap_u8] <;> unfold af9 <;> simp
theorem aaT (s:S8)(w:World):
  Calls Try.prog 73 #[.agg (aab s.list)] w fun e w'=>(∃ v,e=.returned v∧Ow 5 w' w.heap.size v s.bytes)∧Kp w w':=by
 have U:=af8;obtain ⟨i0,hi,hz0,hz1,hz2⟩:=info_parts Try.info5;have HBB:i0.bytes=1:=hz2;have HB3:=Lib.hid HBB;clear HBB hz2;have hB0:Arr 91 (w.alloc (.cells (aab s.list) 91)) w.heap.size s.list:=Arr.new _ w _ s.list rfl;go_enter Try.func73,Try.ntmps73;go_wp2_with (first
  | (at_make;refine wpList_make_own _ rfl _ _ 22 rfl w.heap.size 5 i0 (.int .u8 0) 1 Try.underlying22 hi hz0 hz1 _ _ _ 32 rfl rfl rfl ?b1 ?b2 ?b3 ?_;rotate_right;intro w1 hown hgr;have hkw:Kp (w.alloc (.cells (aab s.list) 91)) w1:=Below.grown (Below.refl _ _) hgr (Nat.le_refl _) (fun k e=>by cases e);have hB1:=hB0.kp hkw;clear hgr)
  | (refine aag Try.underlying91 (by kernel_rfl) rfl (.tmp 1) rfl w.heap.size s.list rfl hB1 rfl ?_))
 case b1=>rw[HB3.out];omega
 case b2=>unfold maxLen;omega
 case b3=>simp
 have ho1:Ow 5 w1 w.heap.size (.slice (some ⟨w.heap.size+1,0,none⟩) 0 32) []:=by
  rw[World.size_alloc] at hown;exact hown
 have hk1:Kp w w1:=((Kp.refl w).alloc _).trans hkw;clear hown hkw hB0 hB1 hz0 hz1 hi HB3;go_loopw[3,8] (fun v i wr=>∃ k:Nat,k≤8∧i=.int .i64 k∧Ow 5 wr w.heap.size v (abm s k)∧Kp w wr) (fun _ i _=>8 - (intOf i).toNat)
 case atStart=>exact ⟨0,by omega,rfl,ho1,hk1⟩
 case round=>
  clear ho1 hk1;obtain ⟨k,hk,rfl,hown,hkp⟩:=hrel;by_cases hlt:k<8
  ·have hidx:∀ W,(Instr.index 91 (.agg (aab s.list)) (.int .i64 k)).run Try.prog W=.ok (.int .u32 (af9 (s.list.getD k 0))) W:=fun W=>by
    obtain ⟨ie,hie,hsz⟩:=adU;exact abD W 91 59 8 ie _ Try.underlying91 hie hsz Try.underlying59 rfl _ rfl k hlt _ (abQ s.list k hlt)
   have hs:=abn s k hlt;have hlen:=aaK s k (by omega);generalize s.list.getD k 0=x at *;obtain ⟨b0,b1,b2,b3,h4,v0,v1,v2,v3⟩:=ade x;rw[h4] at hs;generalize abm s k=L at *;have HS:=Lib.hid hs;have HL:=Lib.hid hlen;clear hs hlen h4;generalize aab s.list=cs at *;go_wp2_with (at_builtin;refine aaa U rfl _ _ rfl w.heap.size _ _ rfl (hown.kp ((Kp.refl _).alloc _)) _ [b0,b1,b2,b3] rfl (Ow.lit _ 5 0 4 _ _ (Nat.zero_le _) rfl (by decide) rfl).rd ?c1 ?c2 ?_;rotate_right;intro v' w2 ho2 hg _)
   case c1=>rw[HL.out];simp;omega
   case c2=>have:=hkp.size;simp;omega
   go_roundw
   case rel=>exact ⟨k+1,by omega,by go_num,by rw[HS.out];exact ho2,Kp.grown (hkp.alloc _) hg hown.own_ge⟩
   case measure=>simp[intOf];omega
  ·obtain rfl:k=8:=by omega
   go_wp2_with fail;go_ret;exact ⟨⟨_,rfl,hown⟩,hkp⟩
end Go.Proofs.Ytbhkdlpdolioaaa

import Derived.Test.YthmhklmkgkfcpaaGreatDoorU3
import Derived.Test.YthmhklmkgkfcpaaGreatDoorU5
import Derived.Test.YthmhklmkgkfcpaaGreatDoorU6
import Derived.Laws.Rows
import Derived.Deep.RegionHeld3
set_option linter.unusedVariables false
set_option linter.unusedSimpArgs false
set_option maxHeartbeats 8000000
set_option maxRecDepth 100000
namespace Go.Proofs.YthmhklmkgkfcpaaGreatDoor
open Go.RowKit Go.Shelf
attribute [local go_sem] Oper.semAt_some
def Br (T:TypeId)(w:World)(g:Nat)(l:List Bool):Prop:=w.heap[g]?=some (.cells (l.map Value.bool).toArray T (0,0))
theorem Br.lt {T:TypeId}{w:World}{g:Nat}{l:List Bool}(h:Br T w g l):g<w.heap.size:=(Array.getElem?_eq_some_iff.1 h).1
theorem Br.cell {T:TypeId}{w:World}{g:Nat}{l:List Bool}(h:Br T w g l)(i:Nat)(hi:i<l.length):w.cell? ⟨g,i,none⟩=some (.bool (l.getD i false)):=by
 rw[cell_of_row w g i _ T _ h];simp[hi]
theorem Br.frozen {T:TypeId}{w:World}{g:Nat}{l:List Bool}(h:Br T w g l)(i:Nat):w.frozen? ⟨g,i,none⟩=false:=by
 have h':=h;unfold Br at h';simp[World.frozen?,h']
theorem Br.set {T:TypeId}{w:World}{g:Nat}{l:List Bool}(h:Br T w g l)(i:Nat)(x:Bool):Br T (w.setCell ⟨g,i,none⟩ (.bool x)) g (l.set i x):=by
 have h':=h;unfold Br at h' ⊢;obtain ⟨hlt,heq⟩:=Array.getElem?_eq_some_iff.1 h';simp[World.setCell,hlt,Array.getElem_modify,heq,List.map_set]
theorem Br.new (T:TypeId)(w:World)(cs:Array Value)(l:List Bool)(h:cs=(l.map Value.bool).toArray):Br T (w.alloc (.cells cs T)) w.heap.size l:=by
 subst h;exact heap_alloc_new w _
theorem ans (m:Nat)(hm:1≤m)(X:Nat→Prop)(w:World)(hX:∀ k,X k→k<w.heap.size):
  aig Fence.wide m Tryz.prog 264 #[] (fun i=>#[.int .u64 (acW i)]) 64 X w:=by
 intro l J W hb hl1 hl2 hJ hY h0;have HJ:=Lib.hid hJ;have HY:=Lib.hid hY;have HX:=Lib.hid hX;clear hJ hY hX;refine callsIn_of_wp Tryz.func264 rfl trivial ?_ rfl;simp only[Tryz.ntmps264,List.append_toArray,List.append_nil,List.size_toArray,List.length_cons,List.length_nil,Nat.reduceAdd,Nat.reduceSub,Array.replicate_succ,Array.replicate_zero,List.push_toArray,List.nil_append,List.cons_append];gi_wp2
 have hD0:Br 292 (W.alloc (.cells (List.replicate 312 (Value.bool false)).toArray 292)) W.heap.size (abN 2).D:=Br.new _ _ _ _ rfl;gi_loopw [3] (fun p wr=>∃ q:Nat,2≤q∧q≤312∧p=.int .u64 q∧Br 292 wr W.heap.size (abN q).D∧J (abN q).ps.length wr) (fun p _=>312 - (intOf p).toNat)
 case atStart=>exact ⟨2,by omega,by omega,rfl,hD0,HJ.out _ _ _ h0 ((Below.refl _ W).alloc (Nat.le_refl _) _)⟩
 case round=>
  clear hD0;obtain ⟨q,hq1,hq2,rfl,hD,hj⟩:=hrel;by_cases hlt:q<312
  ·have hlen:=acK q
   have hc:=hD.cell q (by omega);have hqi:(q:Int)<312:=by omega
   rcases hdv:(abN q).D.getD q false with _ | _
   ·have hnext:=(alV ⟨q,hlt⟩).resolve_left (by rw[hdv];decide)
    have hn2:=hnext.resolve_left (by simp;omega);obtain ⟨hp,h64⟩:=hn2;simp only at hp h64;obtain ⟨fn,tmps,assign,body,hy,hR⟩:=HY.out (abN q).ps.length wr h64 hj;rw[hp] at hy;have HT:=Lib.hid (alX q hdv hq1);have HP:=Lib.hid hp;rw[hdv] at hc;have HD:=Lib.hid hdv;have HL:=Lib.hid hlen;clear hdv hp hnext h64 hlen;gi_wp2
    refine hR.mono ?_;rintro e W3 ⟨rfl,hj3,hs3⟩;have hD3:Br 292 W3 W.heap.size (abN q).D:=
     (hs3.block _ hD.lt (fun h=>h.elim (fun e=>by omega) (fun hx=>by have:=HX.out _ hx;have:=hb.size;omega))).trans hD
    clear hR hs3 hD hj hc;have hqq0:0≤(q:Int)*(q:Int):=Int.mul_nonneg (by omega) (by omega);have hqq:(q:Int)*(q:Int)≤97344:=by
     have h2:=Int.mul_le_mul (show (q:Int)≤312 by omega) (show (q:Int)≤312 by omega) (by omega) (by omega);exact h2
    have hmul:IntKind.u64.wrap ((q:Int)*(q:Int))=((q*q:Nat):Int):=by rw[ace _ (by omega) (by omega)];simp
    obtain ⟨M,hM⟩:∃ M,mark 312 q (q*q) (abN q).D=M:=⟨_,rfl⟩;have hqn:((q*q:Nat):Int)≤97344:=by rw[Int.natCast_mul];exact hqq
    obtain ⟨k0,hk0⟩:∃ k,q*q=k:=⟨_,rfl⟩;have HT2:Hid (abN (q+1)=⟨M,(abN q).ps++[q]⟩):=Lib.hid (by rw[HT.out,hM]);rw[hk0] at hmul hM hqn;have HM:=Lib.hid hM;clear hk0 hM hqq hqq0 HT;gi_wp2
    gi_loopw [4] (fun x wq=>∃ k:Nat,(k:Int)≤100000∧x=.int .u64 k∧(∃ f D',Br 292 wq W.heap.size D'∧D'.length=312∧mark f q k D'=M∧312≤f+k)∧J ((abN q).ps.length+1) wq) (fun x _=>312 - (intOf x).toNat)
    case atStart=>exact ⟨k0,by omega,rfl,⟨312,(abN q).D,hD3,HL.out,HM.out,by omega⟩,hj3⟩
    case round=>
     clear hD3 hj3 HM hmul hqn;obtain ⟨k,hkb,rfl,⟨f,D',hB,hl,hm,hf⟩,hj⟩:=hrel;by_cases hlt2:k<312
     ·have hc:=hB.cell k (by omega)
      have hfz:=hB.frozen k;have hki:(k:Int)<312:=by omega
      have hadd:IntKind.u64.wrap ((k:Int)+(q:Int))=(k:Int)+(q:Int):=ace _ (by omega) (by omega);have HM:=Lib.hid hm;have HL2:=Lib.hid hl;clear hm hl;gi_wp2
      go_roundw
      case rel=>
       obtain ⟨g,hg1,hg2⟩:=aqh f q k D' hlt2 (by omega) hf;exact ⟨k+q,by omega,by simp,⟨g,D'.set k true,hB.set k true,by rw[List.length_set];exact HL2.out,hg2.trans HM.out,hg1⟩,HJ.out _ _ _ hj ((Below.refl _ _).setCell (by simp) _)⟩
      case measure=>simp[intOf];omega
     ·have HE:=Lib.hid ((aoR f q k D' hlt2).symm.trans hm)
      have hge:¬(k:Int)<312:=by omega
      clear hm hl;gi_wp2
      go_roundw
      case rel=>
       refine ⟨q+1,by omega,by omega,by simp,?_,?_⟩
       ·rw[HT2.out,← HE.out];exact hB
       ·rw[HT2.out];simpa using hj
      case measure=>simp[intOf];omega
   ·have HS:=Lib.hid (alW q hdv hq1)
    rw[hdv] at hc;clear hdv hlen;gi_wp2
    go_roundw
    case rel=>exact ⟨q+1,by omega,by omega,by simp,by rw[HS.out];exact hD,by rw[HS.out];exact hj⟩
    case measure=>simp[intOf];omega
  ·have h312:q=312:=by omega
   have hj':J 64 wr:=by rw[h312,anr] at hj;exact hj
   have hge:¬(q:Int)<312:=by omega
   clear h312 hj hq2;gi_wp2
   go_end0
   exact ⟨⟨_,rfl⟩,hj'⟩
attribute [local go_sem] Oper.semAt_some
theorem aoT (w:World):Calls Tryz.prog 245 #[] w fun e w'=>e=.returned (.agg (aal keyL))∧Kp w w':=by
 refine (callsIn_wide (n:=4)).1 ?_;refine callsIn_of_wp_marks Tryz.func245 rfl trivial ?_ rfl;refine wpIn_wide.2 ?_;simp only[Tryz.ntmps245,List.append_toArray,List.size_toArray,List.length_nil,Nat.reduceSub,Array.replicate_succ,Array.replicate_zero,List.push_toArray,List.nil_append,List.cons_append];go_wp2;obtain ⟨W0,hW0⟩:∃ W0,((w.alloc (.cells (aal (aaG 64)) 264)).alloc (.cells (aal (aaG 64)) 264)).alloc (.cells #[.int .i64 0] 3)=W0:=⟨_,rfl⟩;change Code.wp Tryz.prog _ _ _ (((w.alloc (.cells (aal (aaG 64)) 264)).alloc (.cells (aal (aaG 64)) 264)).alloc (.cells #[.int .i64 0] 3));rw[hW0];have hs0:W0.heap.size=w.heap.size+3:=by rw[← hW0];simp
 have hR:Arr 264 W0 w.heap.size (aaG 64):=by rw[← hW0];exact ((Arr.new _ w _ _ rfl).alloc _).alloc _
 have hA:Arr 264 W0 (w.heap.size+1) (aaG 64):=by
  have:=(Arr.new 264 (w.alloc (.cells (aal (aaG 64)) 264)) (aal (aaG 64)) (aaG 64) rfl).alloc (.cells #[.int .i64 0] 3);rw[World.size_alloc,hW0] at this;exact this
 have hI:W0.cell? ⟨w.heap.size+1+1,0,none⟩=some (.int .i64 0)∧W0.frozen? ⟨w.heap.size+1+1,0,none⟩=false:=by
  have:=heap_alloc_new ((w.alloc (.cells (aal (aaG 64)) 264)).alloc (.cells (aal (aaG 64)) 264)) (.cells #[.int .i64 0] 3);rw[World.size_alloc,World.size_alloc,hW0] at this;exact ⟨by rw[cell_of_row W0 _ 0 _ _ _ this];rfl,by simp[World.frozen?,this]⟩
 have hK:Kp w W0:=by rw[← hW0];exact (((Kp.refl w).alloc _).alloc _).alloc _
 clear hW0;refine wpIn_wide.1 (abr (F:=Fence.wide) (n:=4) rfl (by omega) (gf:=264) (lb:=#[]) rfl trivial (enters_of Tryz.func264 (by kernel_rfl) rfl) (encs:=fun i=>#[.int .u64 (acW i)]) (N:=64) (X:=fun k=>k=w.heap.size+1∨k=w.heap.size+1+1) (by omega)
  (ans (4 - 1) (by omega) _ W0 (by omega)) (fun _=>rfl)
  (fun i A=>Arr 264 A w.heap.size (aaG 64)∧Arr 264 A (w.heap.size+1) (mix (aaG 64) keyL i)∧A.cell? ⟨w.heap.size+1+1,0,none⟩=some (.int .i64 i)∧A.frozen? ⟨w.heap.size+1+1,0,none⟩=false∧Kp w A)
  (fun i A B h hb=>⟨h.1.below hb (by omega),h.2.1.below hb (by omega),(hb.cell (p:=⟨w.heap.size+1+1,0,none⟩) (by simp;omega)).trans h.2.2.1,(hb.frozen (p:=⟨w.heap.size+1+1,0,none⟩) (by simp;omega)).trans h.2.2.2.1,Below.trans h.2.2.2.2 (hb.mono (by omega))⟩)
  ⟨hR,hA,hI.1,hI.2,hK⟩
  (fun i=>{ tmps:=#[.pointer (some ⟨w.heap.size,0,none⟩),.pointer (some ⟨w.heap.size+1,0,none⟩),.pointer (some ⟨w.heap.size+1+1,0,none⟩),.int .u64 (acW i),.int .u64 (acW i),undef,undef,undef,undef,undef,undef,undef],defers:=[] }) ?assign ?body ?done)
 case assign=>
  intro l i W K hK;gi_wp2
  exact hK
 case body=>
  rintro l i W ⟨hR,hA,hc,hf,hK⟩ hi;obtain ⟨hp1,hp2⟩:=ail ⟨i,hi⟩;simp only at hp1 hp2;have hkey:keyL.getD i 0=anq (acW i):=by
   rw[← aqj,List.getD_eq_getElem?_getD,List.getElem?_map,List.getElem?_range hi];rfl
  have hlen:(mix (aaG 64) keyL i).length=64:=by rw[afe (aaG 64) keyL i (by simp[aaS];rfl) (by rw[aaS];omega),aaS]
  have hset:=ant (aaG 64) keyL i (by simp[aaS];rfl) (by rw[aaS];omega) _ hkey;have ca:=hA.cell i (by omega);have cf:=hA.frozen i (by omega);generalize acW i=p at *;have hii:(i:Int)<64:=by omega
  have HS:=Lib.hid hset;clear hset hkey hlen;have hmx:Tryz.prog.follows .mixedOrders=true:=by kernel_rfl
  gi_wp2
  gi_region_with_o (refine ⟨trivial,?_⟩;gi_at_call 265;refine (CallsIn.inRound l (callsIn_wide.2 (aji p _ hp1 hp2))).mono ?_;rintro e w' ⟨rfl,rfl⟩)
  all_goals gi_wp2
  all_goals exact ⟨(((Same.refl _ W).setCell ⟨w.heap.size+1,i,none⟩ _ (.inl rfl)).setCell ⟨w.heap.size+1+1,0,none⟩ _ (.inr rfl)).drew,((hR.other _ _ (by simp)).other _ _ (by simp;omega)).drew,((hA.setTo i _ HS.out).other _ _ (by simp)).drew,(Below.setCell (Below.setCell hK (by simp) _) (by simp;omega) _).drew⟩
 case done=>
  rintro D W hD ⟨hR,hA,hc,hf,hK⟩ hd;have hm:mix (aaG 64) keyL 64=keyL:=rfl;rw[hm] at hA;clear hm;go_wp2_with (first
   | (refine aaF Tryz.underlying264 (by kernel_rfl) rfl (.tmp 1) rfl (w.heap.size+1) keyL rfl hA rfl ?_)
   | (refine aaq (by kernel_rfl) rfl rfl (.tmp 0) (.tmp 11) rfl w.heap.size (aaG 64) keyL rfl rfl hR (aaS 64) rfl ?_;intro w5 hR5 hbut))
  have hd5:=(hbut.other D (by omega)).trans hd;refine ⟨by simp,.inl ⟨_,_,rfl,run_takeDeferred hd5,?_⟩⟩;exact ⟨_,abZ Tryz.underlying264 (by kernel_rfl) rfl _ _ w.heap.size keyL rfl ((World.putObj_heap_other (by omega)).trans hR5) rfl,rfl,abL (hbut.below hK (Nat.le_refl _)) (by omega) (by rw[hbut.size];exact hK.size) _⟩
end Go.Proofs.YthmhklmkgkfcpaaGreatDoor
namespace Go.Proofs.YthmhklmkgkfcpaaGreatDoor
open Go.RowKit
theorem anu (w:World):Calls Tryz.prog 246 #[] w fun e w'=>e=.returned (.agg (aal abm.list))∧Kp w w':=by
 go_enter Tryz.func246,Tryz.ntmps246;have hA:Arr 252 (w.alloc (.cells (aal (aaG 8)) 252)) w.heap.size (aaG 8):=Arr.new _ w _ _ rfl;go_wp2_with ((refine aaq (by kernel_rfl) rfl rfl (.tmp 0) (.tmp 1) rfl w.heap.size (aaG 8) abm.list rfl rfl hA rfl rfl ?_;intro w5 hR5 hbut))
 refine bodyPost_ret (abZ Tryz.underlying252 (by kernel_rfl) rfl _ _ w.heap.size abm.list rfl hR5 rfl) rfl ?_;exact ⟨rfl,hbut.below ((Kp.refl w).alloc _) (Nat.le_refl _)⟩
theorem ajl (w:World):Calls Tryz.prog 225 #[] w fun e w'=>e=.returned (.agg (aal abm.list))∧Kp w w':=by
 go_enter Tryz.func225,Tryz.ntmps225;have hA:Arr 252 (w.alloc (.cells (aal (aaG 8)) 252)) w.heap.size (aaG 8):=Arr.new _ w _ _ rfl;go_wp2_with ((refine aaq (by kernel_rfl) rfl rfl (.tmp 0) (.tmp 1) rfl w.heap.size (aaG 8) abm.list rfl rfl hA rfl rfl ?_;intro w5 hR5 hbut))
 refine bodyPost_ret (abZ Tryz.underlying252 (by kernel_rfl) rfl _ _ w.heap.size abm.list rfl hR5 rfl) rfl ?_;exact ⟨rfl,hbut.below ((Kp.refl w).alloc _) (Nat.le_refl _)⟩
theorem akj (w:World):Calls Tryz.prog 224 #[] w fun e w'=>(∃ g,e=.returned (.slice (some ⟨g,0,none⟩) 64 64)∧Arr 247 w' g keyL∧w.heap.size≤g)∧Kp w w':=by
 go_enter Tryz.func224,Tryz.ntmps224;go_wp2;go_ret;exact ⟨⟨w.heap.size,rfl,Arr.new _ w _ _ rfl,Nat.le_refl _⟩,(Kp.refl w).alloc _⟩
def ajm (i:Int):UInt32:=if 0≤i∧i<64 then keyL.getD i.toNat 0 else 0
section
variable {P : Program}
end
theorem Arr.cells8 {T:TypeId}{w:World}{g:Nat}{s:S8}(h:Arr T w g s.list):
  w.cell? ⟨g,0,none⟩=some (.int .u32 (arO s.a))∧w.cell? ⟨g,1,none⟩=some (.int .u32 (arO s.b))∧w.cell? ⟨g,2,none⟩=some (.int .u32 (arO s.c))∧w.cell? ⟨g,3,none⟩=some (.int .u32 (arO s.d)) ∧
  w.cell? ⟨g,4,none⟩=some (.int .u32 (arO s.e))∧w.cell? ⟨g,5,none⟩=some (.int .u32 (arO s.f))∧w.cell? ⟨g,6,none⟩=some (.int .u32 (arO s.g))∧w.cell? ⟨g,7,none⟩=some (.int .u32 (arO s.h)):=
 ⟨h.cell 0 (Nat.lt_of_sub_eq_succ rfl),h.cell 1 (Nat.lt_of_sub_eq_succ rfl),h.cell 2 (Nat.lt_of_sub_eq_succ rfl),h.cell 3 (Nat.lt_of_sub_eq_succ rfl),h.cell 4 (Nat.lt_of_sub_eq_succ rfl),h.cell 5 (Nat.lt_of_sub_eq_succ rfl),h.cell 6 (Nat.lt_of_sub_eq_succ rfl),h.cell 7 (Nat.lt_of_sub_eq_succ rfl)⟩
theorem Arr.frozen8 {T:TypeId}{w:World}{g:Nat}{s:S8}(h:Arr T w g s.list):
  w.frozen? ⟨g,0,none⟩=false∧w.frozen? ⟨g,1,none⟩=false∧w.frozen? ⟨g,2,none⟩=false∧w.frozen? ⟨g,3,none⟩=false∧w.frozen? ⟨g,4,none⟩=false∧w.frozen? ⟨g,5,none⟩=false∧w.frozen? ⟨g,6,none⟩=false∧w.frozen? ⟨g,7,none⟩=false:=
 ⟨h.frozen 0 (Nat.lt_of_sub_eq_succ rfl),h.frozen 1 (Nat.lt_of_sub_eq_succ rfl),h.frozen 2 (Nat.lt_of_sub_eq_succ rfl),h.frozen 3 (Nat.lt_of_sub_eq_succ rfl),h.frozen 4 (Nat.lt_of_sub_eq_succ rfl),h.frozen 5 (Nat.lt_of_sub_eq_succ rfl),h.frozen 6 (Nat.lt_of_sub_eq_succ rfl),h.frozen 7 (Nat.lt_of_sub_eq_succ rfl)⟩
theorem Arr.set8 {T:TypeId}{w:World}{g:Nat}{s:S8}(h:Arr T w g s.list)(r:S8):
  Arr T ((((((((w.setCell ⟨g,0,none⟩ (.int .u32 (arO r.a))).setCell ⟨g,1,none⟩ (.int .u32 (arO r.b))).setCell ⟨g,2,none⟩ (.int .u32 (arO r.c))).setCell ⟨g,3,none⟩ (.int .u32 (arO r.d))).setCell ⟨g,4,none⟩ (.int .u32 (arO r.e))).setCell ⟨g,5,none⟩ (.int .u32 (arO r.f))).setCell ⟨g,6,none⟩ (.int .u32 (arO r.g))).setCell ⟨g,7,none⟩ (.int .u32 (arO r.h))) g r.list:=
 (((((((h.set 0 r.a _ rfl).set 1 r.b _ rfl).set 2 r.c _ rfl).set 3 r.d _ rfl).set 4 r.e _ rfl).set 5 r.f _ rfl).set 6 r.g _ rfl).set 7 r.h _ rfl
theorem ac4 {B:Nat}{a w:World}(h:Below B a w){g:Nat}(hg:B≤g)(v0 v1 v2 v3 v4 v5 v6 v7:Value):
  Below B a ((((((((w.setCell ⟨g,0,none⟩ v0).setCell ⟨g,1,none⟩ v1).setCell ⟨g,2,none⟩ v2).setCell ⟨g,3,none⟩ v3).setCell ⟨g,4,none⟩ v4).setCell ⟨g,5,none⟩ v5).setCell ⟨g,6,none⟩ v6).setCell ⟨g,7,none⟩ v7):=
 (((((((h.setCell (p:=⟨g,0,none⟩) hg _).setCell (p:=⟨g,1,none⟩) hg _).setCell (p:=⟨g,2,none⟩) hg _).setCell (p:=⟨g,3,none⟩) hg _).setCell (p:=⟨g,4,none⟩) hg _).setCell (p:=⟨g,5,none⟩) hg _).setCell (p:=⟨g,6,none⟩) hg _).setCell (p:=⟨g,7,none⟩) hg _
theorem agg8 (r:S8):Value.agg (aal r.list)=.agg #[.int .u32 (arO r.a),.int .u32 (arO r.b),.int .u32 (arO r.c),.int .u32 (arO r.d),.int .u32 (arO r.e),.int .u32 (arO r.f),.int .u32 (arO r.g),.int .u32 (arO r.h)]:=rfl
end Go.Proofs.YthmhklmkgkfcpaaGreatDoor
namespace Go.Proofs.YthmhklmkgkfcpaaGreatDoor
open Go.RowKit Go.Shelf
attribute [local go_sem] Oper.semAt_some
theorem agx (a:Option Addr)(n c:Nat)(w:World):
  Calls Tryz.prog 247 #[.slice a n c,.int .i64 64] w fun e w'=>e=.returned (.func (.func 266) #[] #[.pointer (some ⟨w.heap.size,0,none⟩),.pointer (some ⟨w.heap.size+1,0,none⟩)]) ∧
   (w.alloc (.cells #[.slice a n c] 24)).alloc (.cells #[.int .i64 64] 3)=w':=by
 go_enter Tryz.func247,Tryz.ntmps247;go_wp2;go_ret;exact ⟨rfl,rfl⟩
def aa9 (a:Option Addr)(i:Nat):Value:=
 match a with
 | some ⟨b,o,_⟩=>.slice (some ⟨b,o+64*i,none⟩) 64 64
 | none=>undef
theorem ajr {X:Nat→Prop}{A B:World}(h:Same X A B){p:Addr}{v:Value}(hv:A.cell? p=some v)(hx:¬X p.block):B.cell? p=some v:=
 (World.cell?_of_block (w:=A) (h.block p.block (World.block_lt_of_cell? A p hv) hx)).trans hv
theorem aeI (m:Nat)(hm:1≤m)(X:Nat→Prop)(w:World)(a:Option Addr)(N c B2 B3:Nat)(hv:w.cell? ⟨B2,0,none⟩=some (.slice a (64*N) c))(hn:w.cell? ⟨B3,0,none⟩=some (.int .i64 64))
  (hX2:¬X B2) (hX3:¬X B3) (hc:64*N≤c) (hcm:c≤maxLen) (ha:0<N→∃ b o,a=some ⟨b,o,none⟩):
  aig Fence.wide m Tryz.prog 266 #[.pointer (some ⟨B2,0,none⟩),.pointer (some ⟨B3,0,none⟩)] (fun i=>#[aa9 a i]) N X w:=by
 intro l J W hb hl1 hl2 hJ hY h0;have HJ:=Lib.hid hJ;have HY:=Lib.hid hY;have hv1:=(hb.cell (p:=⟨B2,0,none⟩) (World.block_lt_of_cell? w _ hv)).trans hv;have hn1:=(hb.cell (p:=⟨B3,0,none⟩) (World.block_lt_of_cell? w _ hn)).trans hn;have hB2:B2≠l:=by have:=World.block_lt_of_cell? w _ hv;simp at this;omega
 have hB3:B3≠l:=by have:=World.block_lt_of_cell? w _ hn;simp at this;omega
 have HB:=Lib.hid (And.intro hB2 hB3);have HA:=Lib.hid ha;unfold maxLen at hcm;clear hJ hY hv hn hB2 hB3 ha;refine callsIn_of_wp Tryz.func266 rfl trivial ?_ rfl;simp only[Tryz.ntmps266,List.append_toArray,List.size_toArray,List.length_cons,List.length_nil,Nat.reduceAdd,Nat.reduceSub,Array.replicate_succ,Array.replicate_zero,List.push_toArray,List.nil_append,List.cons_append];gi_wp2
 gi_loopw [4] (fun p wr=>∃ k:Nat,k≤N∧p=.int .i64 (64*(k:Int))∧wr.cell? ⟨B2,0,none⟩=some (.slice a (64*N) c)∧wr.cell? ⟨B3,0,none⟩=some (.int .i64 64)∧J k wr) (fun p _=>64*N - (intOf p).toNat)
 case atStart=>exact ⟨0,by omega,rfl,hv1,hn1,h0⟩
 case round=>
  clear hv1 hn1 h0;obtain ⟨k,hk,rfl,hv,hn,hj⟩:=hrel;by_cases hlt:k<N
  ·obtain ⟨b,o,rfl⟩:=HA.out (by omega)
   have hlt':64*(k:Int)<64*(N:Int):=by omega
   have hnc:¬c=64*k:=by omega
   have e1:64*N - 64*k=64*(N - k):=by omega
   have hle:64*(k:Int)+64≤64*(N:Int):=by omega
   have hlec:64*k+64≤c:=by omega
   have hkk:64*k+64 - 64*k=64:=by omega
   gi_wp2
   gi_region
   obtain ⟨fn,tmps,assign,body,hy,hR⟩:=HY.out k wr.drew hlt (HJ.out _ _ _ hj ((Below.refl _ _).drew));simp only[aa9] at hy;gi_wp2
   refine hR.mono ?_;rintro e W3 ⟨rfl,hj3,hs3⟩;have hv3:W3.cell? ⟨B2,0,none⟩=some (.slice (some ⟨b,o,none⟩) (64*N) c):=ajr hs3 hv (fun h=>h.elim (fun e=>HB.out.1 e) hX2);have hn3:W3.cell? ⟨B3,0,none⟩=some (.int .i64 64):=ajr hs3 hn (fun h=>h.elim (fun e=>HB.out.2 e) hX3);clear hv hn hj hs3 hR hy;gi_wp2
   go_roundw
   case rel=>exact ⟨k+1,by omega,by congr 1,hv3,hn3,hj3⟩
   case measure=>simp[intOf];omega
  ·gi_wp2
   go_end0
   obtain rfl:k=N:=by omega
   exact ⟨⟨_,rfl⟩,hj⟩
end Go.Proofs.YthmhklmkgkfcpaaGreatDoor

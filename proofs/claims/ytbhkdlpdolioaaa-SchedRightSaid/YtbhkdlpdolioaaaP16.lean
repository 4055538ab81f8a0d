import Derived.Test.YtbhkdlpdolioaaaP14
import Derived.Test.YtbhkdlpdolioaaaP15
set_option linter.unusedVariables false
set_option linter.unusedSimpArgs false
set_option maxHeartbeats 8000000
set_option maxRecDepth 100000
namespace Go.Proofs.Ytbhkdlpdolioaaa
open Go.RowKit Go.Shelf
attribute [local go_sem] Oper.semAt_some
theorem afb (w:World):Calls Try.prog 68 #[] w fun e w'=>e=.returned (.agg (aab keyL))∧Kp w w':=by
 refine (callsIn_wide (n:=4)).1 ?_;refine callsIn_of_wp_marks Try.func68 rfl trivial ?_ rfl;refine wpIn_wide.2 ?_;simp only[Try.ntmps68,List.append_toArray,List.size_toArray,List.length_nil,Nat.reduceSub,Array.replicate_succ,Array.replicate_zero,List.push_toArray,List.nil_append,List.cons_append];go_wp2;obtain ⟨W0,hW0⟩:∃ W0,((w.alloc (.cells (aab (aai 64)) 103)).alloc (.cells (aab (aai 64)) 103)).alloc (.cells #[.int .i64 0] 3)=W0:=⟨_,rfl⟩;change Code.wp Try.prog _ _ _ (((w.alloc (.cells (aab (aai 64)) 103)).alloc (.cells (aab (aai 64)) 103)).alloc (.cells #[.int .i64 0] 3));rw[hW0];have hs0:W0.heap.size=w.heap.size+3:=by rw[← hW0];simp
 have hR:Arr 103 W0 w.heap.size (aai 64):=by rw[← hW0];exact ((Arr.new _ w _ _ rfl).alloc _).alloc _
 have hA:Arr 103 W0 (w.heap.size+1) (aai 64):=by
  have:=(Arr.new 103 (w.alloc (.cells (aab (aai 64)) 103)) (aab (aai 64)) (aai 64) rfl).alloc (.cells #[.int .i64 0] 3);rw[World.size_alloc,hW0] at this;exact this
 have hI:W0.cell? ⟨w.heap.size+1+1,0,none⟩=some (.int .i64 0)∧W0.frozen? ⟨w.heap.size+1+1,0,none⟩=false:=by
  have:=heap_alloc_new ((w.alloc (.cells (aab (aai 64)) 103)).alloc (.cells (aab (aai 64)) 103)) (.cells #[.int .i64 0] 3);rw[World.size_alloc,World.size_alloc,hW0] at this;exact ⟨by rw[cell_of_row W0 _ 0 _ _ _ this];rfl,by simp[World.frozen?,this]⟩
 have hK:Kp w W0:=by rw[← hW0];exact (((Kp.refl w).alloc _).alloc _).alloc _
 clear hW0;refine wpIn_wide.1 (aaw (F:=Fence.wide) (n:=4) rfl (by omega) (gf:=85) (lb:=#[]) rfl trivial (enters_of Try.func85 (by kernel_rfl) rfl) (encs:=fun i=>#[.int .u64 (aa3 i)]) (N:=64) (X:=fun k=>k=w.heap.size+1∨k=w.heap.size+1+1) (by omega)
  (aeB (4 - 1) (by omega) _ W0 (by omega)) (fun _=>rfl)
  (fun i A=>Arr 103 A w.heap.size (aai 64)∧Arr 103 A (w.heap.size+1) (mix (aai 64) keyL i)∧A.cell? ⟨w.heap.size+1+1,0,none⟩=some (.int .i64 i)∧A.frozen? ⟨w.heap.size+1+1,0,none⟩=false∧Kp w A)
  (fun i A B h hb=>⟨h.1.below hb (by omega),h.2.1.below hb (by omega),(hb.cell (p:=⟨w.heap.size+1+1,0,none⟩) (by simp;omega)).trans h.2.2.1,(hb.frozen (p:=⟨w.heap.size+1+1,0,none⟩) (by simp;omega)).trans h.2.2.2.1,Below.trans h.2.2.2.2 (hb.mono (by omega))⟩)
  ⟨hR,hA,hI.1,hI.2,hK⟩
  (fun i=>{ tmps:=#[.pointer (some ⟨w.heap.size,0,none⟩),.pointer (some ⟨w.heap.size+1,0,none⟩),.pointer (some ⟨w.heap.size+1+1,0,none⟩),.int .u64 (aa3 i),.int .u64 (aa3 i),undef,undef,undef,undef,undef,undef,undef],defers:=[] }) ?assign ?body ?done)
 case assign=>
  intro l i W K hK;gi_wp2
  exact hK
 case body=>
  rintro l i W ⟨hR,hA,hc,hf,hK⟩ hi;obtain ⟨hp1,hp2⟩:=acQ ⟨i,hi⟩;simp only at hp1 hp2;have hkey:keyL.getD i 0=aez (aa3 i):=by
   rw[← afF,List.getD_eq_getElem?_getD,List.getElem?_map,List.getElem?_range hi];rfl
  have hlen:(mix (aai 64) keyL i).length=64:=by rw[abS (aai 64) keyL i (by simp[aan];rfl) (by rw[aan];omega),aan]
  have hset:=aeC (aai 64) keyL i (by simp[aan];rfl) (by rw[aan];omega) _ hkey;have ca:=hA.cell i (by omega);have cf:=hA.frozen i (by omega);generalize aa3 i=p at *;have hii:(i:Int)<64:=by omega
  have HS:=Lib.hid hset;clear hset hkey hlen;have hmx:Try.prog.follows .mixedOrders=true:=by kernel_rfl
  gi_wp2
  gi_region_with_o (refine ⟨trivial,?_⟩;gi_at_call 86;refine (CallsIn.inRound l (callsIn_wide.2 (ac8 p _ hp1 hp2))).mono ?_;rintro e w' ⟨rfl,rfl⟩)
  all_goals gi_wp2
  all_goals exact ⟨(((Same.refl _ W).setCell ⟨w.heap.size+1,i,none⟩ _ (.inl rfl)).setCell ⟨w.heap.size+1+1,0,none⟩ _ (.inr rfl)).drew,((hR.other _ _ (by simp)).other _ _ (by simp;omega)).drew,((hA.setTo i _ HS.out).other _ _ (by simp)).drew,(Below.setCell (Below.setCell hK (by simp) _) (by simp;omega) _).drew⟩
 case done=>
  rintro D W hD ⟨hR,hA,hc,hf,hK⟩ hd;have hm:mix (aai 64) keyL 64=keyL:=rfl;rw[hm] at hA;clear hm;go_wp2_with (first
   | (refine aag Try.underlying103 (by kernel_rfl) rfl (.tmp 1) rfl (w.heap.size+1) keyL rfl hA rfl ?_)
   | (refine aad (by kernel_rfl) rfl rfl (.tmp 0) (.tmp 11) rfl w.heap.size (aai 64) keyL rfl rfl hR (aan 64) rfl ?_;intro w5 hR5 hbut))
  have hd5:=(hbut.other D (by omega)).trans hd;refine ⟨by simp,.inl ⟨_,_,rfl,run_takeDeferred hd5,?_⟩⟩;exact ⟨_,aaH Try.underlying103 (by kernel_rfl) rfl _ _ w.heap.size keyL rfl ((World.putObj_heap_other (by omega)).trans hR5) rfl,rfl,aaE (hbut.below hK (Nat.le_refl _)) (by omega) (by rw[hbut.size];exact hK.size) _⟩
end Go.Proofs.Ytbhkdlpdolioaaa

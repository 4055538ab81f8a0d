/- sha.Start, sha.Key, sha.Block; the document's own. -/
import Derived.Test.YtakaebedibgimaaKeys
import Derived.Test.YtakaebedibgimaaStep
set_option linter.unusedVariables false
set_option linter.unusedSimpArgs false
namespace Go.Proofs.Ytakaebedibgimaa
open Go.RowKit

set_option maxHeartbeats 1000000 in
theorem start_any (w : World) : Calls Try.prog 86 #[] w fun e w' => e = .returned (.agg (wcells startS.list)) ∧ Kp w w' := by
  go_enter Try.func86, Try.ntmps86
  have hA : Arr 90 (w.alloc (.cells (wcells (zeros 8)) 90)) w.heap.size (zeros 8) := Arr.new _ w _ _ rfl
  go_wp2_with ((refine wpList_store_arr' (by kernel_rfl) rfl rfl (.tmp 0) (.tmp 1) rfl w.heap.size (zeros 8) startS.list rfl rfl hA rfl rfl ?_; intro w5 hR5 hbut))
  refine bodyPost_ret (results_arr Try.underlying90 (by kernel_rfl) rfl _ _ w.heap.size startS.list rfl hR5 rfl) rfl ?_
  exact ⟨rfl, hbut.below ((Kp.refl w).alloc _) (Nat.le_refl _)⟩

set_option maxHeartbeats 1000000 in
theorem refStart_any (w : World) : Calls Try.prog 56 #[] w fun e w' => e = .returned (.agg (wcells startS.list)) ∧ Kp w w' := by
  go_enter Try.func56, Try.ntmps56
  have hA : Arr 90 (w.alloc (.cells (wcells (zeros 8)) 90)) w.heap.size (zeros 8) := Arr.new _ w _ _ rfl
  go_wp2_with ((refine wpList_store_arr' (by kernel_rfl) rfl rfl (.tmp 0) (.tmp 1) rfl w.heap.size (zeros 8) startS.list rfl rfl hA rfl rfl ?_; intro w5 hR5 hbut))
  refine bodyPost_ret (results_arr Try.underlying90 (by kernel_rfl) rfl _ _ w.heap.size startS.list rfl hR5 rfl) rfl ?_
  exact ⟨rfl, hbut.below ((Kp.refl w).alloc _) (Nat.le_refl _)⟩

set_option maxRecDepth 100000 in
set_option maxHeartbeats 1000000 in
/-- A row of 64 words, new. -/
theorem refKeys_any (w : World) : Calls Try.prog 55 #[] w fun e w' => (∃ g, e = .returned (.slice (some ⟨g, 0, none⟩) 64 64) ∧ Arr 48 w' g keyL ∧ w.heap.size ≤ g) ∧ Kp w w' := by
  go_enter Try.func55, Try.ntmps55
  go_wp2
  go_ret
  exact ⟨⟨w.heap.size, rfl, Arr.new _ w _ _ rfl, Nat.le_refl _⟩, (Kp.refl w).alloc _⟩

def keyOf (i : Int) : UInt32 := if 0 ≤ i ∧ i < 64 then keyL.getD i.toNat 0 else 0

end Go.Proofs.Ytakaebedibgimaa

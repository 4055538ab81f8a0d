/- sha.Start, sha.Key, sha.Block; the document's own. -/
import Derived.Test.YtgialijhnghdgaaKeys
import Derived.Test.YtgialijhnghdgaaStep
set_option linter.unusedVariables false
set_option linter.unusedSimpArgs false
namespace Go.Proofs.Ytgialijhnghdgaa
open Go.RowKit

set_option maxHeartbeats 1000000 in
theorem start_any (w : World) : Calls Try.prog 16 #[] w fun e w' => e = .returned (.agg (wcells startS.list)) ∧ Kp w w' := by
  go_enter Try.func16, Try.ntmps16
  have hA : Arr 28 (w.alloc (.cells (wcells (zeros 8)) 28)) w.heap.size (zeros 8) := Arr.new _ w _ _ rfl
  go_wp2_with ((refine wpList_store_arr' (by kernel_rfl) rfl rfl (.tmp 0) (.tmp 1) rfl w.heap.size (zeros 8) startS.list rfl rfl hA rfl rfl ?_; intro w5 hR5 hbut))
  refine bodyPost_ret (results_arr Try.underlying28 (by kernel_rfl) rfl _ _ w.heap.size startS.list rfl hR5 rfl) rfl ?_
  exact ⟨rfl, hbut.below ((Kp.refl w).alloc _) (Nat.le_refl _)⟩

set_option maxHeartbeats 1000000 in
theorem refStart_any (w : World) : Calls Try.prog 17 #[] w fun e w' => e = .returned (.agg (wcells startS.list)) ∧ Kp w w' := by
  go_enter Try.func17, Try.ntmps17
  have hA : Arr 28 (w.alloc (.cells (wcells (zeros 8)) 28)) w.heap.size (zeros 8) := Arr.new _ w _ _ rfl
  go_wp2_with ((refine wpList_store_arr' (by kernel_rfl) rfl rfl (.tmp 0) (.tmp 1) rfl w.heap.size (zeros 8) startS.list rfl rfl hA rfl rfl ?_; intro w5 hR5 hbut))
  refine bodyPost_ret (results_arr Try.underlying28 (by kernel_rfl) rfl _ _ w.heap.size startS.list rfl hR5 rfl) rfl ?_
  exact ⟨rfl, hbut.below ((Kp.refl w).alloc _) (Nat.le_refl _)⟩

set_option maxRecDepth 100000 in
set_option maxHeartbeats 1000000 in
/-- A row of 64 words, new. -/
theorem refKeys_any (w : World) : Calls Try.prog 31 #[] w fun e w' => (∃ g, e = .returned (.slice (some ⟨g, 0, none⟩) 64 64) ∧ Arr 27 w' g keyL ∧ w.heap.size ≤ g) ∧ Kp w w' := by
  go_enter Try.func31, Try.ntmps31
  go_wp2
  go_ret
  exact ⟨⟨w.heap.size, rfl, Arr.new _ w _ _ rfl, Nat.le_refl _⟩, (Kp.refl w).alloc _⟩

def keyOf (i : Int) : UInt32 := if 0 ≤ i ∧ i < 64 then keyL.getD i.toNat 0 else 0

set_option maxHeartbeats 1000000 in
theorem key_any (i : Int) (w : World) : Calls Try.prog 18 #[.int .i64 i] w fun e w' => e = .returned (.int .u32 (u (keyOf i))) ∧ Kp w w' := by
  by_cases h0 : 0 ≤ i
  · by_cases h1 : i < 64
    · have hk : keyOf i = keyL.getD i.toNat 0 := if_pos ⟨h0, h1⟩
      obtain ⟨k, rfl⟩ := Int.eq_ofNat_of_zero_le h0
      rw [Int.toNat_natCast] at hk
      have hidx : ∀ W, (Instr.index 46 (.agg (wcells keyL)) (.int .i64 k)).run Try.prog W = .ok (.int .u32 (u (keyL.getD k 0))) W := fun W => by
        obtain ⟨ie, hie, hsz⟩ := u32_info
        exact run_index_arr W 46 27 64 ie _ Try.underlying46 hie hsz Try.underlying27 rfl _ rfl k (by omega) _ (wcells_get keyL k (by have : keyL.length = 64 := rfl; omega))
      generalize keyL.getD k 0 = x at *
      generalize hc : wcells keyL = cs at hidx
      have HK := Lib.hid hk
      have HC := Lib.hid hc
      clear hk hc
      go_enter Try.func18, Try.ntmps18
      go_wp2_with (go_at_call 26; refine (keys_any _).mono ?_; rintro e w' ⟨rfl, hkp⟩; rw [HC.out])
      go_ret
      exact ⟨by rw [HK.out]; rfl, hkp⟩
    · have hk : keyOf i = 0 := if_neg (by omega)
      rw [hk]
      go_enter Try.func18, Try.ntmps18
      go_wp2
      go_ret
      exact ⟨rfl, Kp.refl _⟩
  · have hk : keyOf i = 0 := if_neg (by omega)
    rw [hk]
    go_enter Try.func18, Try.ntmps18
    go_wp2
    go_ret
    exact ⟨rfl, Kp.refl _⟩
end Go.Proofs.Ytgialijhnghdgaa

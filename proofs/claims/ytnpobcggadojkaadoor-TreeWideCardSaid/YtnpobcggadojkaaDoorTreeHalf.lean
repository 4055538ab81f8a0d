/- pyxlaw09: half, others. -/
import Derived.Test.YtnpobcggadojkaaDoorRefTree9
import Derived.Test.YtnpobcggadojkaaDoorByteRow
import Derived.Test.YtnpobcggadojkaaDoorTreePl9
set_option linter.unusedVariables false
set_option linter.unusedSimpArgs false
namespace Go.Proofs.YtnpobcggadojkaaDoor
open Go.RowKit

def halfB (b : UInt8) : List UInt8 := List.replicate 32 b
theorem halfB_length (b : UInt8) : (halfB b).length = 32 := by unfold halfB; simp
theorem fill9 (b : UInt8) (k : Nat) (h : k < 32) : (List.replicate k b ++ List.replicate (32 - k) 0).set k b = List.replicate (k + 1) b ++ List.replicate (32 - (k + 1)) 0 := by
  rw [List.set_append_right _ _ (by simp), List.length_replicate, Nat.sub_self, show 32 - k = (32 - (k + 1)) + 1 by omega, List.replicate_succ, List.set_cons_zero, List.replicate_succ', List.append_assoc]
  rfl
set_option maxHeartbeats 2000000 in
theorem half9_any (b : UInt8) (w : World) : Calls Tryd.prog 14 #[.int .u8 (b.toNat : Int)] w fun e w' => (∃ r, e = .returned r ∧ Rd w' r (halfB b)) ∧ Kp w w' := by
  have HF : Hid (By 5 (w.alloc (.cells (Array.replicate 32 (.int .u8 0)) 5)) w.heap.size (List.replicate 0 b ++ List.replicate (32 - 0) 0)) := By.fresh _ _ _
  have H11 := Lib.hid (fill9 b)
  go_enter Tryd.func14, Tryd.ntmps14
  go_wp2_with (at_make; refine wpList_make_fresh (z := .int .u8 0) (b := 1) Tryd.underlying30 Tryd.info5 rfl (by decide) rfl _ _ rfl 32 rfl rfl (by omega) ?_; intro w1 hw1; have hg1 : By 5 w1 w.heap.size (List.replicate 0 b ++ List.replicate (32 - 0) 0) := (by rw [hw1]; exact HF.out); have hk1 : Kp w w1 := (by rw [hw1]; exact (Kp.refl w).alloc _); clear hw1)
  go_loopw [4] (fun i wr => ∃ k : Nat, k ≤ 32 ∧ i = .int .i64 k ∧ By 5 wr w.heap.size (List.replicate k b ++ List.replicate (32 - k) 0) ∧ Kp w wr) (fun i _ => 32 - (intOf i).toNat)
  case atStart => exact ⟨0, by omega, rfl, hg1, hk1⟩
  case round =>
    clear hg1 hk1
    obtain ⟨k, hk, rfl, hB, hkp⟩ := hrel
    by_cases hlt : k < 32
    · have hl : (List.replicate k b ++ List.replicate (32 - k) 0).length = 32 := by simp; omega
      have c0 := hB.cell k (by rw [hl]; exact hlt)
      have f0 := hB.frozen k
      have HS := Lib.hid (H11.out k hlt)
      have q : (k : Int) < 32 := by omega
      generalize (List.replicate k b ++ List.replicate (32 - k) 0) = L at *
      clear hl
      go_wp2_with fail
      go_roundw
      case rel => exact ⟨k + 1, by omega, by go_num, hB.set k b HS.out, Below.setCell hkp (Nat.le_refl _) _⟩
      case measure => simp [intOf]; omega
    · obtain rfl : k = 32 := by omega
      have hB20 : By 5 wr w.heap.size (halfB b) := by unfold halfB; simpa using hB
      have HR := Lib.hid (hB20.rdAll (n := 32) (c := 32) (halfB_length b).symm (Nat.le_refl _) (by unfold maxLen; omega))
      have KK := Lib.hid hkp
      clear hB hB20 hkp
      go_wp2_with fail
      go_ret
      exact ⟨⟨_, rfl, HR.out⟩, KK.out⟩

theorem others_stop {a b : List Nod} {but : Int} {k : Nat} (ha : lvs a ≤ k) (hb : lvs b ≤ k) (h : ∀ i : Nat, i < k → (i : Int) ≠ but → ats a (2 * i) = ats b (2 * i)) : othersP a b but := fun i hi => by
  by_cases hk : i < k
  · exact h i hk hi
  · rw [ats_over (by unfold lvs at ha; omega), ats_over (by unfold lvs at hb; omega)]
theorem lvs_blank {t : List Nod} {k : Nat} (h : ¬ k < lvs t) : ats t (2 * k) = blankN := ats_over (by unfold lvs at h; omega)

end Go.Proofs.YtnpobcggadojkaaDoor

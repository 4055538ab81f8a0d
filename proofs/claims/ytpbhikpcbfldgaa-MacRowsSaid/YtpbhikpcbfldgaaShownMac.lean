/- The document's examples, at the head of all statements of layer 3: shown. -/
import Derived.Test.YtpbhikpcbfldgaaRefMac
import Derived.Test.YtpbhikpcbfldgaaMacSame
import Derived.Lib.SlBytesConst
set_option linter.unusedVariables false
set_option linter.unusedSimpArgs false
namespace Go.Proofs.Ytpbhikpcbfldgaa
open Go.RowKit

theorem rd_const (w : World) (T : TypeId) (l : List UInt8) (hl : l.length ≤ 1000000) : Rd (w.alloc (.cells (Lib.byteCells l).toArray T (l.length, l.length + 1))) (.slice (some ⟨w.heap.size, 0, none⟩) l.length l.length) l := by
  refine ⟨_, l.length, rfl, Nat.le_refl _, by unfold maxLen; omega, fun h => (by cases h), fun x hx i hi => ?_⟩
  cases hx
  have hg := heap_alloc_new w (.cells (Lib.byteCells l).toArray T (l.length, l.length + 1))
  have e : (⟨w.heap.size, 0, none⟩ : Addr).add i = ⟨w.heap.size, i, none⟩ := by unfold Addr.add; split <;> simp_all
  rw [e, cell_of_row _ _ i _ _ _ hg]
  simp [Lib.byteCells, hi]
theorem mac_shown : macB (List.replicate 20 11) [72, 105, 32, 84, 104, 101, 114, 101] = [176, 52, 76, 97, 216, 219, 56, 83, 92, 168, 175, 206, 175, 11, 241, 43, 136, 29, 194, 0, 201, 131, 61, 167, 38, 233, 55, 108, 46, 50, 207, 247] := by decide +kernel
theorem key_shown : keyB [1, 2] = [1, 2] ++ List.replicate 62 0 := by decide +kernel
theorem fill11 (k : Nat) (h : k < 20) : (List.replicate k (11 : UInt8) ++ List.replicate (20 - k) 0).set k 11 = List.replicate (k + 1) 11 ++ List.replicate (20 - (k + 1)) 0 := by
  rw [List.set_append_right _ _ (by simp), List.length_replicate, Nat.sub_self, show 20 - k = (20 - (k + 1)) + 1 by omega, List.replicate_succ, List.set_cons_zero, List.replicate_succ', List.append_assoc]
  rfl

set_option maxRecDepth 100000 in
set_option maxHeartbeats 4000000 in
theorem shownMac_any (w : World) : Calls Try.prog 8 #[] w fun e w' => e = .returned (.bool true) ∧ Kp w w' := by
  have HF : Hid (By 5 (w.alloc (.cells (Array.replicate 20 (.int .u8 0)) 5)) w.heap.size (List.replicate 0 11 ++ List.replicate (20 - 0) 0)) := By.fresh _ _ _
  have H11 := Lib.hid fill11
  go_enter Try.func8, Try.ntmps8
  go_wp2_with (at_make; refine wpList_make_fresh (z := .int .u8 0) (b := 1) Try.underlying22 Try.info5 rfl (by decide) rfl _ _ rfl 20 rfl rfl (by omega) ?_; intro w1 hw1; have hg1 : By 5 w1 w.heap.size (List.replicate 0 11 ++ List.replicate (20 - 0) 0) := (by rw [hw1]; exact HF.out); have hk1 : Kp w w1 := (by rw [hw1]; exact (Kp.refl w).alloc _); clear hw1)
  go_loopw [2] (fun i wr => ∃ k : Nat, k ≤ 20 ∧ i = .int .i64 k ∧ By 5 wr w.heap.size (List.replicate k 11 ++ List.replicate (20 - k) 0) ∧ Kp w wr) (fun i _ => 20 - (intOf i).toNat)
  case atStart => exact ⟨0, by omega, rfl, hg1, hk1⟩
  case round =>
    clear hg1 hk1
    obtain ⟨k, hk, rfl, hB, hkp⟩ := hrel
    by_cases hlt : k < 20
    · have hl : (List.replicate k (11 : UInt8) ++ List.replicate (20 - k) 0).length = 20 := by simp; omega
      have c0 := hB.cell k (by rw [hl]; exact hlt)
      have f0 := hB.frozen k
      have HS := Lib.hid (H11.out k hlt)
      have q : (k : Int) < 20 := by omega
      generalize (List.replicate k (11 : UInt8) ++ List.replicate (20 - k) 0) = L at *
      clear hl
      go_wp2_with fail
      go_roundw
      case rel => exact ⟨k + 1, by omega, by go_num, hB.set k 11 HS.out, Below.setCell hkp (Nat.le_refl _) _⟩
      case measure => simp [intOf]; omega
    · obtain rfl : k = 20 := by omega
      have hB20 : By 5 wr w.heap.size (List.replicate 20 11) := by simpa using hB
      have r20 : Rd wr (.slice (some ⟨w.heap.size, 0, none⟩) 20 20) (List.replicate 20 11) := hB20.rdAll (by simp) (Nat.le_refl _) (by unfold maxLen; omega)
      have HR := Lib.hid r20
      clear hB hB20 r20
      go_wp2_with fail
      refine (mac_key _ [1, 2] _ (Ow.lit _ 5 0 2 _ _ (Nat.zero_le _) rfl (by decide) rfl).rd (by decide)).mono ?_
      rintro e w2 ⟨⟨g2, rfl, b2, _⟩, k2⟩
      have k2' : Kp wr w2 := ((Kp.refl wr).alloc _).trans k2
      rw [key_shown] at b2
      have r2 : Rd w2 (.slice (some ⟨g2, 0, none⟩) 64 64) ([1, 2] ++ List.replicate 62 0) := b2.rdAll (by simp) (Nat.le_refl _) (by unfold maxLen; omega)
      have HB := Lib.hid b2
      have HR2 := Lib.hid r2
      clear b2 r2
      have hcv := Lib.run_convert_bytes_const (P := Try.prog) w2 22 5 #[.int .u8 72, .int .u8 105, .int .u8 32, .int .u8 84, .int .u8 104, .int .u8 101, .int .u8 114, .int .u8 101] 8 8 Try.underlying22 Try.underlying5
      simp only [List.size_toArray, List.length_cons, List.length_nil, Nat.reduceAdd] at hcv
      go_wp2_with fail
      clear hcv
      refine (mac_sum _ _ (List.replicate 20 11) [72, 105, 32, 84, 104, 101, 114, 101] _ ((HR.out.kp k2').kp ((Kp.refl _).alloc _)) (rd_const w2 _ [72, 105, 32, 84, 104, 101, 114, 101] (by decide)) (by simp) (by decide)).mono ?_
      rintro e w3 ⟨⟨a3, c3, rfl, r3⟩, k3⟩
      rw [mac_shown] at r3
      have k3' : Kp w2 w3 := ((Kp.refl w2).alloc _).trans k3
      go_wp2_with fail
      refine (refText_at _ _ _ r3.rd (by decide) ⟨#[98, 48, 51, 52, 52, 99, 54, 49, 100, 56, 100, 98, 51, 56, 53, 51, 53, 99, 97, 56, 97, 102, 99, 101, 97, 102, 48, 98, 102, 49, 50, 98, 56, 56, 49, 100, 99, 50, 48, 48, 99, 57, 56, 51, 51, 100, 97, 55, 50, 54, 101, 57, 51, 55, 54, 99, 50, 101, 51, 50, 99, 102, 102, 55]⟩ (by decide)).mono ?_
      rintro e w4 ⟨rfl, k4⟩
      have k4' : Kp w2 w4 := k3'.trans k4
      have c0 : w4.cell? ⟨g2, 0, none⟩ = some (.int .u8 1) := (HB.out.kp k4').cell 0 (by simp)
      have c1 : w4.cell? ⟨g2, 1, none⟩ = some (.int .u8 2) := (HB.out.kp k4').cell 1 (by simp)
      have c63 : w4.cell? ⟨g2, 63, none⟩ = some (.int .u8 0) := (HB.out.kp k4').cell 63 (by simp)
      go_wp2_with fail
      refine (mac_same _ _ _ _ _ (HR2.out.kp k4') (HR2.out.kp k4')).mono ?_
      rintro e w5 ⟨rfl, k5⟩
      rw [decide_eq_true rfl]
      go_wp2_with fail
      refine (mac_same _ _ _ _ _ (HR2.out.kp (k4'.trans k5)) (HR.out.kp (k2'.trans (k4'.trans k5)))).mono ?_
      rintro e w6 ⟨rfl, k6⟩
      rw [show decide (([1, 2] ++ List.replicate 62 0 : List UInt8) = List.replicate 20 11) = false by decide]
      go_wp2_with fail
      go_ret
      exact ⟨rfl, (((hkp.trans k2').trans k4').trans k5).trans k6⟩
end Go.Proofs.Ytpbhikpcbfldgaa

/- The document's examples, at the head of all statements: shown. -/
import Derived.Test.YtgialijhnghdgaaSum
import Derived.Test.YtgialijhnghdgaaText
import Derived.Lib.SlBytesConst
set_option linter.unusedVariables false
set_option linter.unusedSimpArgs false
namespace Go.Proofs.Ytgialijhnghdgaa
open Go.RowKit

theorem sum_at (v : Value) (l m : List UInt8) (w : World) (h : Rd w v l) (hl : l.length ≤ 2000) (hm : digest l = m) :
    Calls Try.prog 12 #[v] w fun e w' => (∃ v', e = .returned v' ∧ Rd w' v' m) ∧ Kp w w' := by
  have := sum_any v l w h hl
  rw [hm] at this
  exact this
theorem refText_at (v : Value) (l : List UInt8) (w : World) (h : Rd w v l) (hl : l.length ≤ 1000000) (s : ByteArray) (hs : ⟨(textB l).toArray⟩ = s) :
    Calls Try.prog 25 #[v] w fun e w' => e = .returned (.string s) ∧ Kp w w' := by
  have := refText_any v l w h hl
  rw [hs] at this
  exact this
theorem pad_len (n : Int) (k : Nat) (w : World) (hk : (padOf n).length = k) :
    Calls Try.prog 20 #[.int .i64 n] w fun e w' => (∃ a c, e = .returned (.slice a k c) ∧ k ≤ c ∧ c ≤ maxLen) ∧ Kp w w' := by
  refine (pad_any n w).mono ?_
  rintro e w' ⟨⟨v, rfl, hr⟩, hk'⟩
  obtain ⟨a, c, rfl, h1, h2⟩ := hr.shape
  rw [hk] at h1 ⊢
  exact ⟨⟨a, c, rfl, h1, h2⟩, hk'⟩
theorem key_63 (w : World) : Calls Try.prog 18 #[.int .i64 63] w fun e w' => e = .returned (.int .u32 3329325298) ∧ Kp w w' := by
  have h := key_any 63 w
  have e : u (keyOf 63) = 3329325298 := by decide
  rw [e] at h
  exact h
theorem rd_nil (w : World) : Rd w (.slice none 0 0) [] := ⟨none, 0, rfl, Nat.le_refl _, Nat.zero_le _, fun _ => rfl, fun x hx => by cases hx⟩

theorem rd_marked (w : World) (T : TypeId) : Rd (w.alloc (.cells #[.int .u8 97, .int .u8 98, .int .u8 99] T (3, 4))) (.slice (some ⟨w.heap.size, 0, none⟩) 3 3) [97, 98, 99] := by
  refine ⟨_, 3, rfl, Nat.le_refl _, by unfold maxLen; omega, fun h => (by cases h), fun x hx i hi => ?_⟩
  cases hx
  have hg := heap_alloc_new w (.cells #[.int .u8 97, .int .u8 98, .int .u8 99] T (3, 4))
  have e : (⟨w.heap.size, 0, none⟩ : Addr).add i = ⟨w.heap.size, i, none⟩ := by unfold Addr.add; split <;> simp_all
  rw [e, cell_of_row _ _ i _ _ _ hg]
  match i, hi with
  | 0, _ => rfl
  | 1, _ => rfl
  | 2, _ => rfl

set_option maxRecDepth 100000 in
set_option maxHeartbeats 4000000 in
theorem shown_any (w : World) : Calls Try.prog 10 #[] w fun e w' => e = .returned (.bool true) ∧ Kp w w' := by
  go_enter Try.func10, Try.ntmps10
  go_wp2_with fail
  refine (start_any _).mono ?_
  rintro e w1 ⟨rfl, hk1⟩
  go_wp2_with (refine wpList_store_arr' (by kernel_rfl) rfl rfl (.tmp 1) (.tmp 2) rfl w1.heap.size (zeros 8) startS.list rfl rfl (Arr.new _ _ _ _ rfl) rfl rfl ?_; intro w2 hR2 hbut)
  have hk2 : Kp w w2 := hbut.below (hk1.alloc _) hk1.size
  clear hbut hk1
  refine (sum_at _ [] [227, 176, 196, 66, 152, 252, 28, 20, 154, 251, 244, 200, 153, 111, 185, 36, 39, 174, 65, 228, 100, 155, 147, 76, 164, 149, 153, 27, 120, 82, 184, 85] _ (rd_nil _) (by decide) digest_empty).mono ?_
  rintro e w3 ⟨⟨v3, rfl, r3⟩, k3⟩
  go_wp2_with fail
  refine (refText_at _ [227, 176, 196, 66, 152, 252, 28, 20, 154, 251, 244, 200, 153, 111, 185, 36, 39, 174, 65, 228, 100, 155, 147, 76, 164, 149, 153, 27, 120, 82, 184, 85] _ r3 (by decide) ⟨#[101, 51, 98, 48, 99, 52, 52, 50, 57, 56, 102, 99, 49, 99, 49, 52, 57, 97, 102, 98, 102, 52, 99, 56, 57, 57, 54, 102, 98, 57, 50, 52, 50, 55, 97, 101, 52, 49, 101, 52, 54, 52, 57, 98, 57, 51, 52, 99, 97, 52, 57, 53, 57, 57, 49, 98, 55, 56, 53, 50, 98, 56, 53, 53]⟩ (by decide)).mono ?_
  rintro e w4 ⟨rfl, k4⟩
  have hcv := Lib.run_convert_bytes_const (P := Try.prog) w4 22 5 #[.int .u8 97, .int .u8 98, .int .u8 99] 3 3 Try.underlying22 Try.underlying5
  simp only [List.size_toArray, List.length_cons, List.length_nil, Nat.reduceAdd] at hcv
  go_wp2_with fail
  clear hcv
  refine (sum_at _ [97, 98, 99] [186, 120, 22, 191, 143, 1, 207, 234, 65, 65, 64, 222, 93, 174, 34, 35, 176, 3, 97, 163, 150, 23, 122, 156, 180, 16, 255, 97, 242, 0, 21, 173] _ ?_ (by decide) digest_abc).mono ?_
  · exact rd_marked _ _
  rintro e w5 ⟨⟨v5, rfl, r5⟩, k5⟩
  go_wp2_with fail
  refine (refText_at _ [186, 120, 22, 191, 143, 1, 207, 234, 65, 65, 64, 222, 93, 174, 34, 35, 176, 3, 97, 163, 150, 23, 122, 156, 180, 16, 255, 97, 242, 0, 21, 173] _ r5 (by decide) ⟨#[98, 97, 55, 56, 49, 54, 98, 102, 56, 102, 48, 49, 99, 102, 101, 97, 52, 49, 52, 49, 52, 48, 100, 101, 53, 100, 97, 101, 50, 50, 50, 51, 98, 48, 48, 51, 54, 49, 97, 51, 57, 54, 49, 55, 55, 97, 57, 99, 98, 52, 49, 48, 102, 102, 54, 49, 102, 50, 48, 48, 49, 53, 97, 100]⟩ (by decide)).mono ?_
  rintro e w6 ⟨rfl, k6⟩
  have k26 : Kp w2 w6 := ((k3.trans k4).trans (((Kp.refl _).alloc _).trans k5)).trans k6
  go_wp2_with fail
  refine (pad_len 0 64 _ (by decide)).mono ?_
  rintro e w7 ⟨⟨a7, c7, rfl, _, _⟩, k7⟩
  go_wp2_with fail
  refine (pad_len 55 9 _ (by decide)).mono ?_
  rintro e w8 ⟨⟨a8, c8, rfl, _, _⟩, k8⟩
  go_wp2_with fail
  refine (pad_len 56 72 _ (by decide)).mono ?_
  rintro e w9 ⟨⟨a9, c9, rfl, _, _⟩, k9⟩
  have k29 : Kp w2 w9 := ((k26.trans k7).trans k8).trans k9
  have c0 : w9.cell? ⟨w1.heap.size, 0, none⟩ = some (.int .u32 1779033703) := (hR2.kp k29).cells8.1
  go_wp2_with fail
  refine (key_63 _).mono ?_
  rintro e w10 ⟨rfl, k10⟩
  go_wp2_with fail
  go_ret
  exact ⟨rfl, (hk2.trans k29).trans k10⟩
end Go.Proofs.Ytgialijhnghdgaa

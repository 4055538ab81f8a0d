import Derived.Test.YtigpgcjbpoaclaaDoorC4
import Derived.Test.YtigpgcjbpoaclaaDoorC5
import Derived.Test.YtigpgcjbpoaclaaDoorC7
import Derived.WalkSpells
import Derived.Lib.Hide
import Derived.Lib.LaidTab
import Derived.Stop.LaidErr
import Derived.Deep.DeepHandedRow
set_option linter.unusedVariables false
set_option linter.unusedSimpArgs false
namespace Go.Proofs.YtigpgcjbpoaclaaDoor
open Go.RowKit
def Tab (w : World) : Prop := ∀ i, i < 64 → w.cell? ⟨1, i, none⟩ = some (.int .u8 ((Lib.deBruijn64tab.getD i 0 : Nat) : Int))
theorem Tab.kp {w w' : World} (h : Tab w) (k : Kp w w') : Tab w' := fun i hi => k.cell (h i hi)
theorem tz_key8 (x a : Nat) (hx : x < 18446744073709551616) (hx0 : x ≠ 0) (hlow : x &&& (18446744073709551616 - x) = a) :
    IntKind.u64.wrap (bits BinOp.and IntKind.u64 (x : Int) (IntKind.u64.wrap (-(x : Int))) * 285870213051353865) / 288230376151711744 = ((a * 285870213051353865 % 18446744073709551616 / 288230376151711744 : Nat) : Int) := by
  have e1 : IntKind.u64.wrap (-(x : Int)) = ((18446744073709551616 - x : Nat) : Int) := by rw [IntKind.wrap_u64]; omega
  rw [e1, bits_and_u64_nat x _ hx (by omega), hlow, IntKind.wrap_u64]
  omega
set_option maxHeartbeats 1000000 in
theorem tz64_core8 (x k idx : Nat) (w : World) (hx0 : ((x : Int) == 0) = false)
    (key : IntKind.u64.wrap (bits BinOp.and IntKind.u64 (x : Int) (IntKind.u64.wrap (-(x : Int))) * 285870213051353865) / 288230376151711744 = (idx : Int))
    (hi : idx < 64) (hk : k < 64) (hcell : w.cell? ⟨1, idx, none⟩ = some (.int .u8 k)) :
    Calls Tryd.prog 74 #[.int .u64 x] w fun e w' => e = .returned (.int .i64 k) ∧ w = w' := by
  go_enter Tryd.func74, Tryd.ntmps74
  go_wp2_with (simp only [key])
  go_ret
  exact ⟨rfl, rfl⟩
theorem tz64_any (x : Nat) (w : World) (hx : x < 18446744073709551616) (hx0 : x ≠ 0) (hT : Tab w) :
    Calls Tryd.prog 74 #[.int .u64 x] w fun e w' => e = .returned (.int .i64 (Lib.ctz 64 x)) ∧ w = w' := by
  obtain ⟨hlow, hk⟩ := Lib.lowest_bit 64 x hx0 hx
  obtain ⟨hi, htab⟩ := Lib.deBruijn64_at _ hk
  have hcell := hT _ hi
  rw [htab] at hcell
  exact tz64_core8 x _ _ w (by simp; omega) (tz_key8 x _ hx hx0 hlow) hi hk hcell
set_option maxHeartbeats 1000000 in
theorem tz_any (x : Nat) (w : World) (hx : x < 18446744073709551616) (hx0 : x ≠ 0) (hT : Tab w) :
    Calls Tryd.prog 68 #[.int .u64 x] w fun e w' => e = .returned (.int .i64 (Lib.ctz 64 x)) ∧ w = w' := by
  have H := Lib.hid (tz64_any x w hx hx0 hT)
  clear hx hx0 hT
  go_enter Tryd.func68, Tryd.ntmps68
  go_wp2_with fail
  refine H.out.mono ?_; rintro _ _ ⟨rfl, rfl⟩
  go_wp2_with fail
  go_ret
  exact ⟨rfl, rfl⟩
set_option maxHeartbeats 1000000 in
theorem isSize_any (n : Int) (w : World) : Calls Tryd.prog 39 #[.int .i64 n] w fun e w' => e = .returned (.bool (isTB n)) ∧ w = w' := by
  by_cases h : 1 ≤ n ∧ n ≤ 1024
  · obtain ⟨N, rfl⟩ := Int.eq_ofNat_of_zero_le (by omega : 0 ≤ n)
    rw [isTB_bits N (by omega) (by omega)]
    have h1 : (1 : Int) ≤ (N : Int) := h.1
    have h2 : (N : Int) ≤ 1024 := h.2
    have e1 : IntKind.i64.wrap ((N : Int) - 1) = ((N - 1 : Nat) : Int) := by rw [IntWalk.i64_in _ (by omega)]; omega
    have e2 : bits .and .i64 (N : Int) ((N - 1 : Nat) : Int) = ((N &&& (N - 1) : Nat) : Int) := bits_and_i64_nat8 N (N - 1) (by omega) (by omega)
    have e3 : (((N &&& (N - 1) : Nat) : Int) == 0) = decide (N &&& (N - 1) = 0) := by
      by_cases h0 : N &&& (N - 1) = 0
      · rw [h0]; rfl
      · rw [decide_eq_false h0, beq_eq_false_iff_ne]; omega
    generalize decide (N &&& (N - 1) = 0) = b at *
    generalize N &&& (N - 1) = M at *
    generalize ((N - 1 : Nat) : Int) = N1 at *
    clear h
    go_enter Tryd.func39, Tryd.ntmps39
    go_wp2_with fail
    go_ret
    exact ⟨rfl, rfl⟩
  · rw [isTB_out n h]
    by_cases h1 : 1 ≤ n
    · have h2 : ¬ n ≤ 1024 := fun e => h ⟨h1, e⟩
      clear h
      go_enter Tryd.func39, Tryd.ntmps39
      go_wp2_with fail
      go_ret
      exact ⟨rfl, rfl⟩
    · clear h
      go_enter Tryd.func39, Tryd.ntmps39
      go_wp2_with fail
      go_ret
      exact ⟨rfl, rfl⟩
set_option maxHeartbeats 1000000 in
theorem isNode_any (x n : Int) (w : World) : Calls Tryd.prog 61 #[.int .i64 x, .int .i64 n] w fun e w' => e = .returned (.bool (inB x n)) ∧ w = w' := by
  have HT := Lib.hid (isSize_any n w)
  by_cases ht : isTB n = true
  · have h1 := isTB_bounds ht
    have h2 : IntKind.i64.wrap (2 * n) = 2 * n := IntWalk.i64_in _ (by omega)
    have h3 : IntKind.i64.wrap (2 * n - 2) = 2 * n - 2 := IntWalk.i64_in _ (by omega)
    have HI : inB x n = (decide (0 ≤ x) && decide (x < 2 * n - 1)) := by unfold inB; rw [ht]; rfl
    have HJ : decide (x < 2 * n - 1) = decide (x ≤ 2 * n - 2) := by congr 1; exact propext ⟨fun h => by omega, fun h => by omega⟩
    rw [ht] at HT
    rw [HI, HJ]
    clear ht h1 HI HJ
    by_cases h4 : 0 ≤ x
    · have d1 : (decide (0 ≤ x) && decide (x ≤ 2 * n - 2)) = decide (x ≤ 2 * n - 2) := by simp [h4]
      rw [d1]
      clear d1
      go_enter Tryd.func61, Tryd.ntmps61
      go_wp2_with fail
      refine HT.out.mono ?_; rintro _ _ ⟨rfl, rfl⟩
      go_wp2_with fail
      go_ret
      exact ⟨rfl, rfl⟩
    · have d1 : (decide (0 ≤ x) && decide (x ≤ 2 * n - 2)) = false := by simp; intro h; omega
      rw [d1]
      clear d1
      go_enter Tryd.func61, Tryd.ntmps61
      go_wp2_with fail
      refine HT.out.mono ?_; rintro _ _ ⟨rfl, rfl⟩
      go_wp2_with fail
      go_ret
      exact ⟨rfl, rfl⟩
  · have ht2 : isTB n = false := by rw [Bool.eq_false_iff]; exact ht
    have HI : inB x n = false := by unfold inB; rw [ht2]; rfl
    rw [ht2] at HT
    rw [HI]
    clear ht ht2 HI
    go_enter Tryd.func61, Tryd.ntmps61
    go_wp2_with fail
    refine HT.out.mono ?_; rintro _ _ ⟨rfl, rfl⟩
    go_wp2_with fail
    go_ret
    exact ⟨rfl, rfl⟩
theorem inB_1024 (x : Int) : inB x 1024 = decide (okN x) := by
  have h : isTB 1024 = true := isTB_yes 10 (by omega)
  unfold inB okN
  rw [h, Bool.true_and]
  by_cases h1 : 0 ≤ x
  · by_cases h2 : x ≤ 2046
    · rw [decide_eq_true h1, decide_eq_true (show x < 2 * 1024 - 1 by omega), decide_eq_true (show 0 ≤ x ∧ x ≤ 2046 from ⟨h1, h2⟩)]; rfl
    · rw [decide_eq_true h1, decide_eq_false (show ¬ x < 2 * 1024 - 1 by omega), decide_eq_false (show ¬ (0 ≤ x ∧ x ≤ 2046) from fun h => h2 h.2)]; rfl
  · rw [decide_eq_false h1, decide_eq_false (show ¬ (0 ≤ x ∧ x ≤ 2046) from fun h => h1 h.1)]; rfl
set_option maxHeartbeats 1000000 in
theorem mathLevel_same (x : Int) (w : World) (hT : Tab w) : Calls Tryd.prog 63 #[.int .i64 x] w fun e w' => e = .returned (.int .i64 (levV x)) ∧ w = w' := by
  have HN := Lib.hid (isNode_any x 1024 w)
  rw [inB_1024] at HN
  by_cases h : okN x
  · obtain ⟨j, q, rfl, hj, hq⟩ := (small_iff x).1 h
    have hb : 0 ≤ ((nd j q : Nat) : Int) ∧ ((nd j q : Nat) : Int) ≤ 2046 := h
    rw [decide_eq_true h] at HN
    have HZ := Lib.hid (tz_any (nd j q + 1) w (by omega) (by omega) hT)
    rw [ctz_nd j q hj] at HZ
    rw [levV_nd hj hq]
    have e1 : IntKind.u64.wrap ((nd j q : Nat) : Int) = ((nd j q : Nat) : Int) := by rw [IntKind.wrap_u64]; omega
    have e2 : IntKind.u64.wrap (((nd j q : Nat) : Int) + 1) = ((nd j q + 1 : Nat) : Int) := by rw [IntKind.wrap_u64]; omega
    generalize ((nd j q + 1 : Nat) : Int) = Y at *
    generalize ((nd j q : Nat) : Int) = X at *
    clear h hb hq hT
    go_enter Tryd.func63, Tryd.ntmps63
    go_wp2_with fail
    refine HN.out.mono ?_; rintro _ _ ⟨rfl, rfl⟩
    go_wp2_with fail
    refine HZ.out.mono ?_; rintro _ _ ⟨rfl, rfl⟩
    go_wp2_with fail
    go_ret
    exact ⟨rfl, rfl⟩
  · rw [decide_eq_false h] at HN
    rw [levV_no h]
    clear h hT
    go_enter Tryd.func63, Tryd.ntmps63
    go_wp2_with fail
    refine HN.out.mono ?_; rintro _ _ ⟨rfl, rfl⟩
    go_wp2_with fail
    go_ret
    exact ⟨rfl, rfl⟩
theorem gTab8 : Tryd.prog.globalNamed "math/bits.deBruijn64tab" = some 1 := by kernel_rfl
theorem gTabType8 : (Tryd.prog.globals[1]?).map (·.type) = some 111 := by kernel_rfl
theorem cellsTab8 : Tryd.prog.cellsOf 111 = 64 := by kernel_rfl
theorem cellsByte8 : Tryd.prog.cellsOf 5 = 1 := by kernel_rfl
theorem tab_laid {W : World} (h : laidMetH Tryd.prog [("math/bits.deBruijn32tab", Rows.laid_math_bits_deBruijn32tab), ("math/bits.deBruijn64tab", Rows.laid_math_bits_deBruijn64tab)] W) : Tab W := by
  have h1 : laidMet Tryd.prog [("math/bits.deBruijn32tab", Rows.laid_math_bits_deBruijn32tab), ("math/bits.deBruijn64tab", Rows.laid_math_bits_deBruijn64tab)] W := h
  have h2 := laidMet.tail h1
  have t : Lib.TabIs Tryd.prog W "math/bits.deBruijn64tab" .u8 (Lib.deBruijn64tab.map fun (n : Nat) => (n : Int)) :=
    Lib.tabIs_of_head (rest := []) gTab8 gTabType8 Tryd.underlying111 Tryd.underlying5 cellsByte8 cellsTab8 h2
  intro i hi
  have h3 := t.cell gTab8 i (by simpa using (show i < Lib.deBruijn64tab.length from hi))
  rw [h3]
  have hi2 : i < Lib.deBruijn64tab.length := hi
  simp [List.getD_eq_getElem?_getD, hi2]
def relaid (l : List Nat) : Obj → Obj
  | .cells _ t frozen => .cells (l.map fun (n : Nat) => (.int .u8 (n : Int) : Value)).toArray t frozen
  | o => o
noncomputable def laidWorld (os : Os) : World :=
  { World.holding Tryd.prog os ⟨#[], #[], []⟩ with heap := ((World.holding Tryd.prog os ⟨#[], #[], []⟩).heap.modify 0 (relaid Lib.deBruijn32tab)).modify 1 (relaid Lib.deBruijn64tab) }
end Go.Proofs.YtigpgcjbpoaclaaDoor

/- math/bits.TrailingZeros, over the table that its package lays; Level. -/
import Derived.Test.YtobldbodafaajaaGreatDoorMathRef9
import Derived.Test.YtobldbodafaajaaGreatDoorIter9
import Derived.WalkSpells
import Derived.Lib.Hide
import Derived.Lib.LaidTab
import Derived.Stop.LaidErr
import Derived.Deep.DeepHandedRow
import Derived.WalkMore
set_option linter.unusedVariables false
set_option linter.unusedSimpArgs false
namespace Go.Proofs.YtobldbodafaajaaGreatDoor
open Go.RowKit

/-- The table lies in its variable. -/
def Tab (w : World) : Prop := ∀ i, i < 64 → w.cell? ⟨1, i, none⟩ = some (.int .u8 ((Lib.deBruijn64tab.getD i 0 : Nat) : Int))
theorem Tab.kp {w w' : World} (h : Tab w) (k : Kp w w') : Tab w' := fun i hi => k.cell (h i hi)
theorem Tab.lt {w : World} (h : Tab w) : 1 < w.heap.size := World.block_lt_of_cell? w _ (h 0 (by omega))
theorem Tab.held {R : Nat → Prop} {A B : World} (h : Tab A) (k : Held R A B) (hr : R 1) : Tab B := fun i hi => k.cell (h i hi) hr

theorem tz_key8 (x a : Nat) (hx : x < 18446744073709551616) (hx0 : x ≠ 0) (hlow : x &&& (18446744073709551616 - x) = a) :
    IntKind.u64.wrap (bits BinOp.and IntKind.u64 (x : Int) (IntKind.u64.wrap (-(x : Int))) * 285870213051353865) / 288230376151711744 = ((a * 285870213051353865 % 18446744073709551616 / 288230376151711744 : Nat) : Int) := by
  have e1 : IntKind.u64.wrap (-(x : Int)) = ((18446744073709551616 - x : Nat) : Int) := by rw [IntKind.wrap_u64]; omega
  rw [e1, bits_and_u64_nat x _ hx (by omega), hlow, IntKind.wrap_u64]
  omega
set_option maxHeartbeats 1000000 in
theorem tz64_core8 (x k idx : Nat) (w : World) (hx0 : ((x : Int) == 0) = false)
    (key : IntKind.u64.wrap (bits BinOp.and IntKind.u64 (x : Int) (IntKind.u64.wrap (-(x : Int))) * 285870213051353865) / 288230376151711744 = (idx : Int))
    (hi : idx < 64) (hk : k < 64) (hcell : w.cell? ⟨1, idx, none⟩ = some (.int .u8 k)) :
    Calls Tryz.prog 103 #[.int .u64 x] w fun e w' => e = .returned (.int .i64 k) ∧ w = w' := by
  go_enter Tryz.func103, Tryz.ntmps103
  go_wp2_with (simp only [key])
  go_ret
  exact ⟨rfl, rfl⟩
theorem tz64_any (x : Nat) (w : World) (hx : x < 18446744073709551616) (hx0 : x ≠ 0) (hT : Tab w) :
    Calls Tryz.prog 103 #[.int .u64 x] w fun e w' => e = .returned (.int .i64 (Lib.ctz 64 x)) ∧ w = w' := by
  obtain ⟨hlow, hk⟩ := Lib.lowest_bit 64 x hx0 hx
  obtain ⟨hi, htab⟩ := Lib.deBruijn64_at _ hk
  have hcell := hT _ hi
  rw [htab] at hcell
  exact tz64_core8 x _ _ w (by simp; omega) (tz_key8 x _ hx hx0 hlow) hi hk hcell
set_option maxHeartbeats 1000000 in
theorem tz_any (x : Nat) (w : World) (hx : x < 18446744073709551616) (hx0 : x ≠ 0) (hT : Tab w) :
    Calls Tryz.prog 90 #[.int .u64 x] w fun e w' => e = .returned (.int .i64 (Lib.ctz 64 x)) ∧ w = w' := by
  have H := Lib.hid (tz64_any x w hx hx0 hT)
  clear hx hx0 hT
  go_enter Tryz.func90, Tryz.ntmps90
  go_wp2_with fail
  refine H.out.mono ?_; rintro _ _ ⟨rfl, rfl⟩
  go_wp2_with fail
  go_ret
  exact ⟨rfl, rfl⟩

set_option maxHeartbeats 1000000 in
theorem isSize_any (n : Int) (w : World) : Calls Tryz.prog 97 #[.int .i64 n] w fun e w' => e = .returned (.bool (isTB n)) ∧ w = w' := by
  by_cases h : 1 ≤ n ∧ n ≤ 1024
  · obtain ⟨N, rfl⟩ := Int.eq_ofNat_of_zero_le (by omega : 0 ≤ n)
    rw [isTB_bits N (by omega) (by omega)]
    have h1 : (1 : Int) ≤ (N : Int) := h.1
    have h2 : (N : Int) ≤ 1024 := h.2
    have e1 : IntKind.i64.wrap ((N : Int) - 1) = ((N - 1 : Nat) : Int) := by rw [IntWalk.i64_in _ (by omega)]; omega
    have e2 : bits .and .i64 (N : Int) ((N - 1 : Nat) : Int) = ((N &&& (N - 1) : Nat) : Int) := bits_and_i64_nat8 N (N - 1) (by omega) (by omega)
    have e3 : (((N &&& (N - 1) : Nat) : Int) == 0) = decide (N &&& (N - 1) = 0) := by
      by_cases h0 : N &&& (N - 1) = 0
      · rw [h0]; rfl
      · rw [decide_eq_false h0, beq_eq_false_iff_ne]; omega
    generalize decide (N &&& (N - 1) = 0) = b at *
    generalize N &&& (N - 1) = M at *
    generalize ((N - 1 : Nat) : Int) = N1 at *
    clear h
    go_enter Tryz.func97, Tryz.ntmps97
    go_wp2_with fail
    go_ret
    exact ⟨rfl, rfl⟩
  · rw [isTB_out n h]
    by_cases h1 : 1 ≤ n
    · have h2 : ¬ n ≤ 1024 := fun e => h ⟨h1, e⟩
      clear h
      go_enter Tryz.func97, Tryz.ntmps97
      go_wp2_with fail
      go_ret
      exact ⟨rfl, rfl⟩
    · clear h
      go_enter Tryz.func97, Tryz.ntmps97
      go_wp2_with fail
      go_ret
      exact ⟨rfl, rfl⟩
set_option maxHeartbeats 1000000 in
theorem isNode_any (x n : Int) (w : World) : Calls Tryz.prog 78 #[.int .i64 x, .int .i64 n] w fun e w' => e = .returned (.bool (inB x n)) ∧ w = w' := by
  have HT := Lib.hid (isSize_any n w)
  by_cases ht : isTB n = true
  · have h1 := isTB_bounds ht
    have h2 : IntKind.i64.wrap (2 * n) = 2 * n := IntWalk.i64_in _ (by omega)
    have h3 : IntKind.i64.wrap (2 * n - 2) = 2 * n - 2 := IntWalk.i64_in _ (by omega)
    have HI : inB x n = (decide (0 ≤ x) && decide (x < 2 * n - 1)) := by unfold inB; rw [ht]; rfl
    have HJ : decide (x < 2 * n - 1) = decide (x ≤ 2 * n - 2) := by congr 1; exact propext ⟨fun h => by omega, fun h => by omega⟩
    rw [ht] at HT
    rw [HI, HJ]
    clear ht h1 HI HJ
    by_cases h4 : 0 ≤ x
    · have d1 : (decide (0 ≤ x) && decide (x ≤ 2 * n - 2)) = decide (x ≤ 2 * n - 2) := by simp [h4]
      rw [d1]
      clear d1
      go_enter Tryz.func78, Tryz.ntmps78
      go_wp2_with fail
      refine HT.out.mono ?_; rintro _ _ ⟨rfl, rfl⟩
      go_wp2_with fail
      go_ret
      exact ⟨rfl, rfl⟩
    · have d1 : (decide (0 ≤ x) && decide (x ≤ 2 * n - 2)) = false := by simp; intro h; omega
      rw [d1]
      clear d1
      go_enter Tryz.func78, Tryz.ntmps78
      go_wp2_with fail
      refine HT.out.mono ?_; rintro _ _ ⟨rfl, rfl⟩
      go_wp2_with fail
      go_ret
      exact ⟨rfl, rfl⟩
  · have ht2 : isTB n = false := by rw [Bool.eq_false_iff]; exact ht
    have HI : inB x n = false := by unfold inB; rw [ht2]; rfl
    rw [ht2] at HT
    rw [HI]
    clear ht ht2 HI
    go_enter Tryz.func78, Tryz.ntmps78
    go_wp2_with fail
    refine HT.out.mono ?_; rintro _ _ ⟨rfl, rfl⟩
    go_wp2_with fail
    go_ret
    exact ⟨rfl, rfl⟩
theorem inB_1024 (x : Int) : inB x 1024 = decide (okN x) := by
  have h : isTB 1024 = true := isTB_yes 10 (by omega)
  unfold inB okN
  rw [h, Bool.true_and]
  by_cases h1 : 0 ≤ x
  · by_cases h2 : x ≤ 2046
    · rw [decide_eq_true h1, decide_eq_true (show x < 2 * 1024 - 1 by omega), decide_eq_true (show 0 ≤ x ∧ x ≤ 2046 from ⟨h1, h2⟩)]; rfl
    · rw [decide_eq_true h1, decide_eq_false (show ¬ x < 2 * 1024 - 1 by omega), decide_eq_false (show ¬ (0 ≤ x ∧ x ≤ 2046) from fun h => h2 h.2)]; rfl
  · rw [decide_eq_false h1, decide_eq_false (show ¬ (0 ≤ x ∧ x ≤ 2046) from fun h => h1 h.1)]; rfl
set_option maxHeartbeats 1000000 in
theorem mathLevel_same (x : Int) (w : World) (hT : Tab w) : Calls Tryz.prog 65 #[.int .i64 x] w fun e w' => e = .returned (.int .i64 (levV x)) ∧ w = w' := by
  have HN := Lib.hid (isNode_any x 1024 w)
  rw [inB_1024] at HN
  by_cases h : okN x
  · obtain ⟨j, q, rfl, hj, hq⟩ := (small_iff x).1 h
    have hb : 0 ≤ ((nd j q : Nat) : Int) ∧ ((nd j q : Nat) : Int) ≤ 2046 := h
    rw [decide_eq_true h] at HN
    have HZ := Lib.hid (tz_any (nd j q + 1) w (by omega) (by omega) hT)
    rw [ctz_nd j q hj] at HZ
    rw [levV_nd hj hq]
    have e1 : IntKind.u64.wrap ((nd j q : Nat) : Int) = ((nd j q : Nat) : Int) := by rw [IntKind.wrap_u64]; omega
    have e2 : IntKind.u64.wrap (((nd j q : Nat) : Int) + 1) = ((nd j q + 1 : Nat) : Int) := by rw [IntKind.wrap_u64]; omega
    generalize ((nd j q + 1 : Nat) : Int) = Y at *
    generalize ((nd j q : Nat) : Int) = X at *
    clear h hb hq hT
    go_enter Tryz.func65, Tryz.ntmps65
    go_wp2_with fail
    refine HN.out.mono ?_; rintro _ _ ⟨rfl, rfl⟩
    go_wp2_with fail
    refine HZ.out.mono ?_; rintro _ _ ⟨rfl, rfl⟩
    go_wp2_with fail
    go_ret
    exact ⟨rfl, rfl⟩
  · rw [decide_eq_false h] at HN
    rw [levV_no h]
    clear h hT
    go_enter Tryz.func65, Tryz.ntmps65
    go_wp2_with fail
    refine HN.out.mono ?_; rintro _ _ ⟨rfl, rfl⟩
    go_wp2_with fail
    go_ret
    exact ⟨rfl, rfl⟩
end Go.Proofs.YtobldbodafaajaaGreatDoor

/- What a row's list of the library's tables gives: the table lies in its variable (Tab); and a world in which both tables lie, for the witness. -/
set_option linter.unusedVariables false
set_option linter.unusedSimpArgs false
namespace Go.Proofs.YtobldbodafaajaaGreatDoor
open Go.RowKit

theorem gTab8 : Tryz.prog.globalNamed "math/bits.deBruijn64tab" = some 1 := by kernel_rfl
theorem gTabType8 : (Tryz.prog.globals[1]?).map (·.type) = some 123 := by kernel_rfl
theorem cellsTab8 : Tryz.prog.cellsOf 123 = 64 := by kernel_rfl
theorem cellsByte8 : Tryz.prog.cellsOf 5 = 1 := by kernel_rfl
theorem tab_laid {W : World} (h : laidMetH Tryz.prog [("math/bits.deBruijn32tab", Rows.laid_math_bits_deBruijn32tab), ("math/bits.deBruijn64tab", Rows.laid_math_bits_deBruijn64tab)] W) : Tab W := by
  have h1 : laidMet Tryz.prog [("math/bits.deBruijn32tab", Rows.laid_math_bits_deBruijn32tab), ("math/bits.deBruijn64tab", Rows.laid_math_bits_deBruijn64tab)] W := h
  have h2 := laidMet.tail h1
  have t : Lib.TabIs Tryz.prog W "math/bits.deBruijn64tab" .u8 (Lib.deBruijn64tab.map fun (n : Nat) => (n : Int)) :=
    Lib.tabIs_of_head (rest := []) gTab8 gTabType8 Tryz.underlying123 Tryz.underlying5 cellsByte8 cellsTab8 h2
  intro i hi
  have h3 := t.cell gTab8 i (by simpa using (show i < Lib.deBruijn64tab.length from hi))
  rw [h3]
  have hi2 : i < Lib.deBruijn64tab.length := hi
  simp [List.getD_eq_getElem?_getD, hi2]
/-- A block's cells, laid anew. -/
def relaid (l : List Nat) : Obj → Obj
  | .cells _ t frozen => .cells (l.map fun (n : Nat) => (.int .u8 (n : Int) : Value)).toArray t frozen
  | o => o
/-- The settled world, both tables as their initialisers lay them. -/
noncomputable def laidWorld (os : Os) : World :=
  { World.holding Tryz.prog os ⟨#[], #[], []⟩ with heap := ((World.holding Tryz.prog os ⟨#[], #[], []⟩).heap.modify 0 (relaid Lib.deBruijn32tab)).modify 1 (relaid Lib.deBruijn64tab) }
end Go.Proofs.YtobldbodafaajaaGreatDoor

/- math's calls without a way: Width, Left, Right, Parent, Sibling, Leaves; what they stand on. -/
set_option linter.unusedVariables false
set_option linter.unusedSimpArgs false
namespace Go.Proofs.YtobldbodafaajaaGreatDoor
open Go.RowKit

set_option maxHeartbeats 1000000 in
theorem mathWidth_same (n : Int) (w : World) : Calls Tryz.prog 80 #[.int .i64 n] w fun e w' => e = .returned (.tuple #[.int .i64 (widV n), .int .i64 (widE n)]) ∧ w = w' := by
  have HT := Lib.hid (isSize_any n w)
  by_cases ht : isTB n = true
  · have h1 := isTB_bounds ht
    have h2 : IntKind.i64.wrap (2 * n) = 2 * n := IntWalk.i64_in _ (by omega)
    have h3 : IntKind.i64.wrap (2 * n - 1) = 2 * n - 1 := IntWalk.i64_in _ (by omega)
    rw [show widV n = 2 * n - 1 from if_pos ht, show widE n = 0 from if_pos ht]
    rw [ht] at HT
    clear ht h1
    go_enter Tryz.func80, Tryz.ntmps80
    go_wp2_with fail
    refine HT.out.mono ?_; rintro _ _ ⟨rfl, rfl⟩
    go_wp2_with fail
    go_ret2
    exact ⟨rfl, rfl⟩
  · have ht2 : isTB n = false := by rw [Bool.eq_false_iff]; exact ht
    rw [show widV n = 0 from if_neg ht, show widE n = 1 from if_neg ht]
    rw [ht2] at HT
    clear ht ht2
    go_enter Tryz.func80, Tryz.ntmps80
    go_wp2_with fail
    refine HT.out.mono ?_; rintro _ _ ⟨rfl, rfl⟩
    go_wp2_with fail
    go_ret2
    exact ⟨rfl, rfl⟩
theorem p2_big {k : Nat} (h : k ≤ 10) : ((2 ^ k : Nat) : Int) ≤ 1024 ∧ 1 ≤ ((2 ^ k : Nat) : Int) := by have := p2_le h; have := p2_pos k; omega
theorem shl_one (k : Nat) (h : k ≤ 10) : IntKind.i64.wrap (1 * 2 ^ k) = ((2 ^ k : Nat) : Int) := by
  have h1 := p2_big h
  have e : (1 : Int) * 2 ^ k = ((2 ^ k : Nat) : Int) := by push_cast; omega
  rw [e]
  exact IntWalk.i64_in _ (by omega)
theorem shl_pow (k : Nat) (h : k ≤ 10) : IntKind.i64.wrap (2 ^ k) = ((2 ^ k : Nat) : Int) := by
  have := shl_one k h
  rwa [Int.one_mul] at this
theorem shl_neg (k : Nat) (h : k ≤ 10) : IntKind.i64.wrap (-1 * 2 ^ k) = -((2 ^ k : Nat) : Int) := by
  have h1 := p2_big h
  have e : (-1 : Int) * 2 ^ k = -((2 ^ k : Nat) : Int) := by push_cast; omega
  rw [e]
  exact IntWalk.i64_in _ (by omega)

set_option maxHeartbeats 1000000 in
/-- child, at a node above the leaves. -/
theorem child_yes (j q : Nat) (s : Int) (w : World) (hj : j + 1 ≤ 10) (hq : q < 2 ^ (10 - (j + 1))) (hs : s = 1 ∨ s = -1) (hT : Tab w) :
    Calls Tryz.prog 110 #[.int .i64 ((nd (j + 1) q : Nat) : Int), .int .i64 s] w fun e w' => e = .returned (.tuple #[.int .i64 (((nd (j + 1) q : Nat) : Int) + s * ((2 ^ j : Nat) : Int)), .int .i64 0]) ∧ w = w' := by
  have HL := Lib.hid (mathLevel_same ((nd (j + 1) q : Nat) : Int) w hT)
  rw [levV_nd hj hq] at HL
  have hx := (small_iff ((nd (j + 1) q : Nat) : Int)).2 ⟨j + 1, q, rfl, hj, hq⟩
  obtain ⟨b1, b2⟩ := p2_big (k := j) (by omega)
  have e1 : IntKind.i64.wrap (((j + 1 : Nat) : Int) - 1) = (j : Int) := by rw [IntWalk.i64_in _ (by omega)]; omega
  have e0 : ¬ ((j + 1 : Nat) : Int) = 0 := by omega
  have e0' : (((j + 1 : Nat) : Int) == 0) = false := beq_eq_false_iff_ne.2 e0
  have e3 : IntKind.i64.wrap (s * 2 ^ j) = s * ((2 ^ j : Nat) : Int) := by
    rcases hs with rfl | rfl
    · rw [shl_one j (by omega)]; omega
    · rw [shl_neg j (by omega)]; omega
  have e4 : IntKind.i64.wrap (((nd (j + 1) q : Nat) : Int) + s * ((2 ^ j : Nat) : Int)) = ((nd (j + 1) q : Nat) : Int) + s * ((2 ^ j : Nat) : Int) := IntWalk.i64_in _ (by rcases hs with rfl | rfl <;> omega)
  have e5 : ((j : Int)).toNat = j := Int.toNat_natCast j
  have e6 : (j : Int) ≤ 64 := by omega
  generalize s * ((2 ^ j : Nat) : Int) = M at *
  generalize ((j + 1 : Nat) : Int) = J1 at *
  generalize ((nd (j + 1) q : Nat) : Int) = X at *
  clear hx hq hj hT b1 b2 hs
  go_enter Tryz.func110, Tryz.ntmps110
  go_wp2_with fail
  refine HL.out.mono ?_; rintro _ _ ⟨rfl, rfl⟩
  go_wp2_with fail
  go_ret2
  exact ⟨rfl, rfl⟩
set_option maxHeartbeats 1000000 in
theorem child_no (x s : Int) (w : World) (h : levV x = 0) (hT : Tab w) :
    Calls Tryz.prog 110 #[.int .i64 x, .int .i64 s] w fun e w' => e = .returned (.tuple #[.int .i64 0, .int .i64 1]) ∧ w = w' := by
  have HL := Lib.hid (mathLevel_same x w hT)
  rw [h] at HL
  clear h hT
  go_enter Tryz.func110, Tryz.ntmps110
  go_wp2_with fail
  refine HL.out.mono ?_; rintro _ _ ⟨rfl, rfl⟩
  go_wp2_with fail
  go_ret2
  exact ⟨rfl, rfl⟩
theorem level_cases (x : Int) : levV x = 0 ∨ ∃ j q, x = ((nd (j + 1) q : Nat) : Int) ∧ j + 1 ≤ 10 ∧ q < 2 ^ (10 - (j + 1)) := by
  by_cases h : okN x
  · obtain ⟨j, q, rfl, hj, hq⟩ := (small_iff x).1 h
    cases j with
    | zero => exact .inl (levV_nd hj hq)
    | succ j => exact .inr ⟨j, q, rfl, hj, hq⟩
  · exact .inl (levV_no h)
set_option maxHeartbeats 1000000 in
theorem mathLeft_same (x : Int) (w : World) (hT : Tab w) : Calls Tryz.prog 92 #[.int .i64 x] w fun e w' => e = .returned (.tuple #[.int .i64 (lefV x), .int .i64 (chE x)]) ∧ w = w' := by
  have H : Hid (Calls Tryz.prog 110 #[.int .i64 x, .int .i64 (-1)] w fun e w' => e = .returned (.tuple #[.int .i64 (lefV x), .int .i64 (chE x)]) ∧ w = w') := by
    rcases level_cases x with h | ⟨j, q, rfl, hj, hq⟩
    · have h1 : lefV x = 0 := if_pos h
      have h2 : chE x = 1 := if_pos h
      rw [h1, h2]
      exact child_no x (-1) w h hT
    · obtain ⟨h1, h2, _⟩ := ch_yes hj hq
      obtain ⟨h3, h4⟩ := nd_left j q
      have := child_yes j q (-1) w hj hq (.inr rfl) hT
      rw [h1, h2]
      rwa [show ((nd (j + 1) q : Nat) : Int) + -1 * ((2 ^ j : Nat) : Int) = ((nd j (2 * q) : Nat) : Int) by omega] at this
  clear hT
  go_enter Tryz.func92, Tryz.ntmps92
  go_wp2_with fail
  refine H.out.mono ?_; rintro _ _ ⟨rfl, rfl⟩
  go_wp2_with fail
  go_ret2
  exact ⟨rfl, rfl⟩
set_option maxHeartbeats 1000000 in
theorem mathRight_same (x : Int) (w : World) (hT : Tab w) : Calls Tryz.prog 93 #[.int .i64 x] w fun e w' => e = .returned (.tuple #[.int .i64 (rigV x), .int .i64 (chE x)]) ∧ w = w' := by
  have H : Hid (Calls Tryz.prog 110 #[.int .i64 x, .int .i64 1] w fun e w' => e = .returned (.tuple #[.int .i64 (rigV x), .int .i64 (chE x)]) ∧ w = w') := by
    rcases level_cases x with h | ⟨j, q, rfl, hj, hq⟩
    · have h1 : rigV x = 0 := if_pos h
      have h2 : chE x = 1 := if_pos h
      rw [h1, h2]
      exact child_no x 1 w h hT
    · obtain ⟨h1, _, h2⟩ := ch_yes hj hq
      have h3 := nd_right j q
      have := child_yes j q 1 w hj hq (.inl rfl) hT
      rw [h1, h2]
      rwa [show ((nd (j + 1) q : Nat) : Int) + 1 * ((2 ^ j : Nat) : Int) = ((nd j (2 * q + 1) : Nat) : Int) by omega] at this
  clear hT
  go_enter Tryz.func93, Tryz.ntmps93
  go_wp2_with fail
  refine H.out.mono ?_; rintro _ _ ⟨rfl, rfl⟩
  go_wp2_with fail
  go_ret2
  exact ⟨rfl, rfl⟩

set_option maxHeartbeats 1000000 in
/-- parent, of a node of the greatest tree but its root. -/
theorem parent_any (j q : Nat) (w : World) (hj : j < 10) (hq : q < 2 ^ (10 - j)) (hT : Tab w) :
    Calls Tryz.prog 100 #[.int .i64 ((nd j q : Nat) : Int)] w fun e w' => e = .returned (.int .i64 ((nd (j + 1) (q / 2) : Nat) : Int)) ∧ w = w' := by
  have HL := Lib.hid (mathLevel_same ((nd j q : Nat) : Int) w hT)
  rw [levV_nd (by omega) hq] at HL
  have hx := (small_iff ((nd j q : Nat) : Int)).2 ⟨j, q, rfl, by omega, hq⟩
  obtain ⟨b1, b2⟩ := p2_big (k := j) (by omega)
  have e1 := shl_pow j (by omega)
  have e2 : IntKind.i64.wrap (2 * ((2 ^ j : Nat) : Int)) = ((2 ^ (j + 1) : Nat) : Int) := by rw [p2_succ, IntWalk.i64_in _ (by omega)]; omega
  have e3 := bits_and_i64_nat8 (nd j q) (2 ^ (j + 1)) (by omega) (by rw [p2_succ]; omega)
  rw [side_bit] at e3
  have e5 : ((j : Int)).toNat = j := Int.toNat_natCast j
  have e6 : (j : Int) ≤ 64 := by omega
  by_cases h : q % 2 = 0
  · have h1 := up_left j q h
    have e4 : IntKind.i64.wrap (((nd j q : Nat) : Int) + ((2 ^ j : Nat) : Int)) = ((nd (j + 1) (q / 2) : Nat) : Int) := by rw [IntWalk.i64_in _ (by omega)]; omega
    rw [if_pos h] at e3
    generalize ((nd (j + 1) (q / 2) : Nat) : Int) = Y at *
    generalize ((2 ^ (j + 1) : Nat) : Int) = B at *
    generalize ((nd j q : Nat) : Int) = X at *
    generalize ((2 ^ j : Nat) : Int) = A at *
    clear hx hq hj hT b1 b2 h h1
    go_enter Tryz.func100, Tryz.ntmps100
    go_wp2_with fail
    refine HL.out.mono ?_; rintro _ _ ⟨rfl, rfl⟩
    go_wp2_with fail
    go_ret
    exact ⟨rfl, rfl⟩
  · obtain ⟨h1, h2⟩ := up_right j q h
    have e4 : IntKind.i64.wrap (((nd j q : Nat) : Int) - ((2 ^ j : Nat) : Int)) = ((nd (j + 1) (q / 2) : Nat) : Int) := by rw [IntWalk.i64_in _ (by omega)]; omega
    rw [if_neg h] at e3
    have e7 : (((2 ^ (j + 1) : Nat) : Int) == 0) = false := beq_eq_false_iff_ne.2 (by have := p2_pos (j + 1); omega)
    generalize ((nd (j + 1) (q / 2) : Nat) : Int) = Y at *
    generalize ((2 ^ (j + 1) : Nat) : Int) = B at *
    generalize ((nd j q : Nat) : Int) = X at *
    generalize ((2 ^ j : Nat) : Int) = A at *
    clear hx hq hj hT b1 b2 h h1 h2
    go_enter Tryz.func100, Tryz.ntmps100
    go_wp2_with fail
    refine HL.out.mono ?_; rintro _ _ ⟨rfl, rfl⟩
    go_wp2_with fail
    go_ret
    exact ⟨rfl, rfl⟩
set_option maxHeartbeats 1000000 in
theorem root_any (n : Int) (w : World) (hn : -9223372036854775807 ≤ n ∧ n ≤ 9223372036854775807) : Calls Tryz.prog 99 #[.int .i64 n] w fun e w' => e = .returned (.int .i64 (n - 1)) ∧ w = w' := by
  have e1 : IntKind.i64.wrap (n - 1) = n - 1 := IntWalk.i64_in _ (by omega)
  go_enter Tryz.func99, Tryz.ntmps99
  go_wp2_with fail
  go_ret
  exact ⟨rfl, rfl⟩
/-- A node with a parent. -/
theorem pa_cases (x n : Int) : (paE x n ≠ 0 ∧ paV x n = 0 ∧ siV x n = 0) ∨ ∃ K j q, K ≤ 10 ∧ j < K ∧ q < 2 ^ (K - j) ∧ x = ((nd j q : Nat) : Int) ∧ n = ((2 ^ K : Nat) : Int) := by
  by_cases h : inB x n = true
  · obtain ⟨K, j, q, hK, rfl, rfl, hj, hq⟩ := (inB_iff x n).1 h
    by_cases hjK : j < K
    · exact .inr ⟨K, j, q, hK, hjK, hq, rfl, rfl⟩
    · obtain rfl : j = K := by omega
      obtain rfl : q = 0 := by simpa using hq
      obtain ⟨e1, e2, e3⟩ := pa_root hK
      exact .inl ⟨by rw [e1]; decide, e2, e3⟩
  · obtain ⟨e1, e2, e3⟩ := pa_no h
    exact .inl ⟨by rw [e1]; decide, e2, e3⟩
theorem q_big {K j q : Nat} (hK : K ≤ 10) (hq : q < 2 ^ (K - j)) : q < 2 ^ (10 - j) := Nat.lt_of_lt_of_le hq (Nat.pow_le_pow_right (by omega) (by omega))
end Go.Proofs.YtobldbodafaajaaGreatDoor

/- math.up: a node's path, gone up by a range over a function. -/
set_option linter.unusedVariables false
set_option linter.unusedSimpArgs false
namespace Go.Proofs.YtobldbodafaajaaGreatDoor
open Go.RowKit

attribute [local go_sem] Oper.semAt_some

set_option maxHeartbeats 1000000 in
theorem up_any (x n : Int) (w : World) :
    Calls Tryz.prog 79 #[.int .i64 x, .int .i64 n] w fun e w' => e = .returned (.func (.func 98) #[] #[.pointer (some ⟨w.heap.size, 0, none⟩), .pointer (some ⟨w.heap.size + 1, 0, none⟩)]) ∧ (w.alloc (.cells #[.int .i64 x] 3)).alloc (.cells #[.int .i64 n] 3) = w' := by
  go_enter Tryz.func79, Tryz.ntmps79
  go_wp2
  go_ret
  exact ⟨rfl, rfl⟩

set_option maxRecDepth 100000 in
set_option maxHeartbeats 4000000 in
theorem up_hands (K j q b1 b2 : Nat) (w : World) (hK : K ≤ 10) (hj : j ≤ K) (hq : q < 2 ^ (K - j)) (h1 : w.cell? ⟨b1, 0, none⟩ = some (.int .i64 ((nd j q : Nat) : Int))) (h2 : w.cell? ⟨b2, 0, none⟩ = some (.int .i64 ((2 ^ K : Nat) : Int))) (hTab : Tab w) (f : Nat → Nat) (hf : f = fun i => nd (j + i) (q / 2 ^ i)) :
    HandsA Tryz.prog 98 #[.pointer (some ⟨b1, 0, none⟩), .pointer (some ⟨b2, 0, none⟩)] (fun i v _ _ => v = #[.int .i64 ((f i : Nat) : Int), .int .i64 ((f (i + 1) : Nat) : Int)]) (K - j) (fun k => k = b1 ∨ k = b2 ∨ k = 1) w := by
  intro l J Jx W hh hl1 hl2 hJ hJx hY h0
  have c1 := hh.cell h1 (.inl rfl)
  have c2 := hh.cell h2 (.inr (.inl rfl))
  have hT := hTab.held hh (.inr (.inr rfl))
  have HJ := Lib.hid hJ
  have HY := Lib.hid hY
  obtain ⟨w1, w2, w3⟩ := way hK hj hq
  have HP : Hid (∀ i W, i < K - j → Tab W → Calls Tryz.prog 100 #[.int .i64 ((f i : Nat) : Int)] W fun e w' => e = .returned (.int .i64 ((f (i + 1) : Nat) : Int)) ∧ W = w') := fun i W hi hT => by
    have h1 := parent_any (j + i) (q / 2 ^ i) W (by omega) (q_big hK (quot_lt hq (by omega))) hT
    rw [← quot_succ] at h1
    rw [hf]
    exact h1
  have HR : Hid (∀ W, Calls Tryz.prog 99 #[.int .i64 ((2 ^ K : Nat) : Int)] W fun e w' => e = .returned (.int .i64 (((2 ^ K : Nat) : Int) - 1)) ∧ W = w') := fun W => root_any _ W (by have := p2_big hK; omega)
  have hf0 : nd j q = f 0 := by rw [hf]; simp
  have hfi : ∀ i, nd (j + i) (q / 2 ^ i) = f i := fun i => by rw [hf]
  simp only [hfi] at w1 w2
  have W1 := Lib.hid (fun i hi => (w1 i hi).2.2)
  have W2 := Lib.hid w2
  have hdk : K - j ≤ 10 := by omega
  rw [hf0] at c1
  have HH := Lib.hid hh
  generalize ((2 ^ K : Nat) : Int) = N at *
  clear hJ hY w1 w2 w3 hf hf0 hfi h1 h2 hTab hh hq
  refine (callsIn_wide (n := 5)).1 ?_
  refine callsIn_of_wp Tryz.func98 rfl trivial ?_ rfl
  simp only [Tryz.ntmps98, List.append_toArray, List.append_nil, List.size_toArray, List.length_cons, List.length_nil, Nat.reduceAdd, Nat.reduceSub, Array.replicate_succ, Array.replicate_zero, List.push_toArray, List.nil_append, List.cons_append]
  gi_wp2
  gi_loopw [4] (fun p wr => ∃ (i : Nat) (Y : Nat → Prop), i ≤ K - j ∧ p = .int .i64 ((f i : Nat) : Int) ∧ wr.cell? ⟨b2, 0, none⟩ = some (.int .i64 N) ∧ Tab wr ∧ Held (fun k => k = b1 ∨ k = b2 ∨ k = 1) w wr ∧ J i Y wr ∧ (∀ k, Y k → W.heap.size ≤ k ∧ k < wr.heap.size) ∧ W.heap.size ≤ wr.heap.size) (fun p _ => 30 - lev (intOf p).toNat)
  case atStart => exact ⟨0, _, by omega, rfl, c2, hT, HH.out, h0, fun _ h => h.elim, Nat.le_refl _⟩
  case round =>
    clear c1 c2 hT h0
    obtain ⟨i, Y, hi, rfl, hc2, hT, hhw, hjy, hyb, hsz⟩ := hrel
    have hmx : Tryz.prog.follows .mixedOrders = true := by kernel_rfl
    have hls : Tryz.prog.follows .lateStores = true := by kernel_rfl
    have hroot := W2.out i hi
    by_cases hlt : i < K - j
    · have hne : ¬ ((f i : Nat) : Int) = N - 1 := fun h => by have := hroot.1 h; omega
      have hbf : (((f i : Nat) : Int) != N - 1) = true := bne_iff_ne.2 hne
      obtain ⟨fn, tmps, assign, body, hy, hR⟩ := HY.out i Y wr #[.int .i64 ((f i : Nat) : Int), .int .i64 ((f (i + 1) : Nat) : Int)] 4 hlt hjy hyb hhw rfl
      have HLV := Lib.hid (And.intro (W1.out i hi) (W1.out (i + 1) (by omega)))
      have HTT := Lib.hid hT
      clear hroot hne
      gi_wp2_with (first | (refine ⟨trivial, ?_⟩; gi_at_call 99; refine (callsIn_wide.2 (HR.out _)).mono ?_; rintro _ _ ⟨rfl, rfl⟩) | (refine ⟨trivial, ?_⟩; gi_at_call 100; refine (callsIn_wide.2 (HP.out i _ hlt HTT.out)).mono ?_; rintro _ _ ⟨rfl, rfl⟩))
      refine hR.mono ?_
      rintro e w2 ⟨hh2, (⟨rfl, hj2⟩ | ⟨rfl, hx2⟩)⟩
      · have hc3 := hh2.cell hc2 (.inr (.inr (.inl rfl)))
        have hT3 := HTT.out.held hh2 (.inr (.inr (.inr rfl)))
        have HT3 := Lib.hid hT3
        have HH3 := Lib.hid (hhw.trans (hh2.mono (fun _ h => .inr h)))
        clear hy hR hT3
        gi_wp2_with (refine ⟨trivial, ?_⟩; gi_at_call 100; refine (callsIn_wide.2 (HP.out i _ hlt HT3.out)).mono ?_; rintro _ _ ⟨rfl, rfl⟩)
        go_roundw
        case rel => exact ⟨i + 1, Y, by omega, rfl, hc3, HT3.out, HH3.out, hj2, fun k h => ⟨(hyb k h).1, Nat.lt_of_lt_of_le (hyb k h).2 hh2.size⟩, by have := hh2.size; omega⟩
        case measure => have := HLV.out; simp [intOf]; omega
      · clear hy hR
        gi_wp2
        refine bodyPost_ret (results_none rfl _ _ _) rfl ?_
        exact ⟨⟨_, rfl⟩, Y, fun k h => ⟨(hyb k h).1, Nat.lt_of_lt_of_le (hyb k h).2 hh2.size⟩, .inr ⟨i, hlt, hx2⟩⟩
    · obtain rfl : i = K - j := by omega
      have heq : ((f (K - j) : Nat) : Int) = N - 1 := hroot.2 rfl
      have hbf : (((f (K - j) : Nat) : Int) != N - 1) = false := by rw [heq]; simp
      clear heq hroot
      gi_wp2_with (refine ⟨trivial, ?_⟩; gi_at_call 99; refine (callsIn_wide.2 (HR.out _)).mono ?_; rintro _ _ ⟨rfl, rfl⟩)
      go_end0
      exact ⟨⟨_, rfl⟩, Y, hyb, .inl hjy⟩
end Go.Proofs.YtobldbodafaajaaGreatDoor

/- math.Path. -/
set_option linter.unusedVariables false
set_option linter.unusedSimpArgs false
namespace Go.Proofs.YtobldbodafaajaaGreatDoor
open Go.RowKit

attribute [local go_sem] Oper.semAt_some

theorem ints_box : 35 ≠ 3 := by decide
/-- The iterator, laid. -/
theorem up_laid (K j q : Nat) (x n : Int) (W : World) (hx : x = ((nd j q : Nat) : Int)) (hn : n = ((2 ^ K : Nat) : Int)) (hK : K ≤ 10) (hj : j ≤ K) (hq : q < 2 ^ (K - j)) (hT : Tab W) :
    HandsA Tryz.prog 98 #[.pointer (some ⟨W.heap.size, 0, none⟩), .pointer (some ⟨W.heap.size + 1, 0, none⟩)] (fun i v _ _ => v = #[.int .i64 ((nd (j + i) (q / 2 ^ i) : Nat) : Int), .int .i64 ((nd (j + (i + 1)) (q / 2 ^ (i + 1)) : Nat) : Int)]) (K - j) (fun k => k = W.heap.size ∨ k = W.heap.size + 1 ∨ k = 1) ((W.alloc (.cells #[.int .i64 x] 3)).alloc (.cells #[.int .i64 n] 3)) := by
  subst hx hn
  refine up_hands K j q W.heap.size (W.heap.size + 1) _ hK hj hq ?_ ?_ ((hT.kp ((Kp.refl _).alloc _)).kp ((Kp.refl _).alloc _)) _ rfl
  · exact ((Boxed.new W 3 (.int .i64 ((nd j q : Nat) : Int))).alloc _).cell
  · have := (Boxed.new (W.alloc (.cells #[.int .i64 ((nd j q : Nat) : Int)] 3)) 3 (.int .i64 ((2 ^ K : Nat) : Int))).cell
    rwa [World.size_alloc] at this

set_option maxRecDepth 100000 in
set_option maxHeartbeats 4000000 in
theorem mathPath_own (K j q : Nat) (w : World) (hK : K ≤ 10) (hj : j ≤ K) (hq : q < 2 ^ (K - j)) (hT : Tab w) :
    Calls Tryz.prog 44 #[.int .i64 ((nd j q : Nat) : Int), .int .i64 ((2 ^ K : Nat) : Int)] w fun e w' => (∃ v, e = .returned (.tuple #[v, .int .i64 0]) ∧ ON 3 w' w.heap.size v (pathN K j q)) ∧ Kp w w' := by
  have S := s1ints
  obtain ⟨i0, z0, hi0, hz0, hz1, hz2, hz3⟩ := S.hi
  have hin := (inB_iff ((nd j q : Nat) : Int) ((2 ^ K : Nat) : Int)).2 ⟨K, j, q, hK, rfl, rfl, hj, hq⟩
  have HN := Lib.hid (isNode_any ((nd j q : Nat) : Int) ((2 ^ K : Nat) : Int))
  rw [hin] at HN
  obtain ⟨X, hX⟩ : ∃ X : Int, X = ((nd j q : Nat) : Int) := ⟨_, rfl⟩
  obtain ⟨N, hN⟩ : ∃ N : Int, N = ((2 ^ K : Nat) : Int) := ⟨_, rfl⟩
  rw [← hX, ← hN] at HN ⊢
  have HU := Lib.hid (fun W hTW => up_laid K j q X N W hX hN hK hj hq hTW)
  have HTK : Hid (∀ i, i < K - j → (pathN K j q).take (i + 1) = (pathN K j q).take i ++ [nd (j + (i + 1)) (q / 2 ^ (i + 1))]) := fun i hi => by
    rw [show j + (i + 1) = j + 1 + i by omega]
    exact pathN_take K j q i hi
  have HE : Hid ((pathN K j q).take (K - j) = pathN K j q) := List.take_of_length_le (by rw [pathN_length]; omega)
  have HLN : Hid (∀ i, ((pathN K j q).take i).length ≤ 1000) := fun i => by rw [List.length_take, pathN_length]; omega
  obtain ⟨f, hf⟩ : ∃ f : Nat → Nat, f = fun i => nd (j + i) (q / 2 ^ i) := ⟨_, rfl⟩
  have hfi : ∀ i, nd (j + i) (q / 2 ^ i) = f i := fun i => by rw [hf]
  simp only [hfi] at HU HTK
  generalize pathN K j q = PL at *
  generalize K - j = D at *
  clear hX hN hin hq hj hK hf hfi
  refine (callsIn_wide (n := 4)).1 ?_
  refine callsIn_of_wp_marks Tryz.func44 rfl trivial ?_ rfl
  refine wpIn_wide.2 ?_
  simp only [Tryz.ntmps44, List.append_toArray, List.size_toArray, List.length_nil, List.length_cons, Nat.reduceAdd, Nat.reduceSub, Array.replicate_succ, Array.replicate_zero, List.push_toArray, List.nil_append, List.cons_append]
  go_wp2_with fail
  refine (HN.out _).mono ?_; rintro _ _ ⟨rfl, rfl⟩
  go_wp2_with fail
  obtain ⟨W1, hW1⟩ : ∃ W1, w.alloc (.cells #[.slice none 0 0] 35) = W1 := ⟨_, rfl⟩
  rw [hW1]
  have hb1 : Boxed W1 w.heap.size 35 (.slice none 0 0) := by rw [← hW1]; exact Boxed.new _ _ _
  have k1 : Kp w W1 := by rw [← hW1]; exact (Kp.refl _).alloc _
  have hs1 : W1.heap.size = w.heap.size + 1 := by rw [← hW1]; simp
  refine (up_any _ _ _).mono ?_; rintro _ W2 ⟨rfl, hW2⟩
  have k2 : Kp W1 W2 := by rw [← hW2]; exact ((Kp.refl _).alloc _).alloc _
  have hs2 : W2.heap.size = W1.heap.size + 2 := by rw [← hW2]; simp
  have hb2 : Boxed W2 w.heap.size 35 (.slice none 0 0) := (k2.block _ hb1.lt).trans hb1
  have HUH := HU.out W1 (hT.kp k1)
  rw [hW2] at HUH
  have kw2 := Below.trans k1 (k2.mono (by omega))
  have htl := hT.lt
  have HUH2 := Lib.hid HUH
  have HS := Lib.hid (And.intro hs1 hs2)
  clear hW1 hW2 hb1 HU k1 k2 HUH HN hs1 hs2
  go_wp2_with fail
  have hE : ∀ args w, (callFunc 98 args).run Tryz.prog w = .ok (.enter 98 args) w := enters_of Tryz.func98 (by kernel_rfl) rfl
  obtain ⟨R, hR⟩ : ∃ R : Nat → Prop, (fun k => k = W1.heap.size ∨ k = W1.heap.size + 1 ∨ k = 1) = R := ⟨_, rfl⟩
  have hRb : ∀ k, R k → w.heap.size < k ∧ k < W2.heap.size ∨ k < w.heap.size := fun k hk => by have := HS.out; rw [← hR] at hk; rcases hk with rfl | rfl | rfl <;> omega
  rw [hR] at HUH2
  clear hR
  refine wp_range_handsA (gf := 98) (lb := #[.pointer (some ⟨W1.heap.size, 0, none⟩), .pointer (some ⟨W1.heap.size + 1, 0, none⟩)]) rfl hE (Kp.refl W2) (fun k hk => by have := hRb k hk; have := HS.out; omega) HUH2.out ?sz
      (fun i Y A => ∃ v, Coll 35 3 w R (PL.take i) Y A v) (fun c i Y A => False) ?mI ?mIx ?TT ?h0
      (fun v a' _ => ∃ x y : Int, v = #[.int .i64 x, .int .i64 y] ∧ a' = { tmps := #[.int .i64 X, .int .i64 N, undef, undef, .slice none 0 0, .int .i64 0, .pointer (some ⟨w.heap.size, 0, none⟩), undef, .int .i64 y, .int .i64 X, .int .i64 N, .bool true, .bool false, .int .i64 X, .int .i64 N, .func (.func 98) #[] #[.pointer (some ⟨W1.heap.size, 0, none⟩), .pointer (some ⟨W1.heap.size + 1, 0, none⟩)], .int .i64 x, .int .i64 y, undef, undef, undef, undef, undef], defers := [] })
      (fun _ _ _ _ _ _ h _ _ => h) ?assign ?body ?done ?stop
  case h0 => exact ⟨_, hb2, by rw [List.take_zero]; exact ON.nil _ _ _, (fun g hg => by cases hg), kw2⟩
  case sz => intro i v Y A h; rw [h]; rfl
  case mI => intro i; exact Coll.minds (by have := HS.out; omega)
  case mIx => intro c i Y Y' A A' h; exact h.elim
  case TT => intro i v Yi Y A A' l o h _ _ _ _ _; exact h
  case assign =>
    intro l i Y Yi v A Kk hI hTv hK
    subst hTv
    gi_wp2
    exact hK _ _ (Kp.refl _) ⟨_, _, rfl, rfl⟩
  case body =>
    rintro l i Y v a' A hi ⟨u, hc⟩ hyb hRA hTv ⟨x, y, hxy, rfl⟩
    subst hTv
    simp only [Array.mk.injEq, List.cons.injEq, Value.int.injEq, true_and, and_true] at hxy
    obtain ⟨rfl, rfl⟩ := hxy
    have hcell := hc.box.cell
    have hne0 : ((PL.take i).map iv).length ≤ 1000 := by rw [List.length_map]; exact HLN.out i
    have hAB : w.heap.size < A.heap.size := hc.box.lt
    have hYR : ∀ k, Y k ∨ R k → k ≠ w.heap.size ∧ k < A.heap.size := fun k hk => by
      have := HS.out
      have h3 := hRA.size
      rcases hk with h | h
      · have := hyb k h; omega
      · have := hRb k h; omega
    have HTI := Lib.hid (HTK.out i hi)
    have HY := Lib.hid hYR
    have HC := Lib.hid hc
    clear hYR hyb hRA hc
    gi_wp2_with (gi_at_builtin; refine wpListIn_append_own_at _ rfl _ _ 35 rfl w.heap.size 3 i0 z0 1 i0.bytes S.ht hi0 hz0 hz1 rfl hz3 (by decide) u _ ((PL.take i).map iv) rfl (ON.kp HC.out.own ((Kp.refl _).alloc _)) ⟨A.heap.size, 0, none⟩ 1 1 [iv (f (i + 1))] rfl rfl (cell_one_new A _ _) (by intro u hu; simp at hu; subst hu; rfl) (by unfold maxLen; omega) (by have := Nat.mul_le_mul (show ((PL.take i).map iv).length + 1 ≤ 1001 by omega) hz2; omega) (by simp; omega) ?_; intro v' w1 ho1 hg1 _ hat; obtain ⟨gv, cv, rfl⟩ := ownsRow_succ ho1; obtain ⟨cx, fz, cl, hd⟩ := Coll.next ints_box HC.out hAB HY.out (x := f (i + 1)) (by unfold ON; rw [List.map_append, List.length_append]; exact ho1) hg1 hat)
    simp only [List.length_map, List.length_take] at cl hd
    rw [HTI.out]
    exact ⟨hd, _, cl⟩
  case done =>
    rintro D' Y W hD hYD hYb ⟨u, hc⟩ hd
    rename_i Qp Kk hKk
    rw [HE.out] at hc
    obtain ⟨au, nu, cu, rfl⟩ := (ON.rn hc.own).sl
    have c1 := hc.box.cell
    simp only [Exit.inBlock, Exit.then]
    refine hKk _ _ ?_
    go_wp2
    have hst : Step (fun k => k = D') W (W.putObj D' (.deferred none)) := (Step.refl _ W).putObj _ _ (.inr rfl)
    refine ⟨by simp, .inl ⟨_, _, rfl, run_takeDeferred hd, ?_⟩⟩
    refine ⟨_, results_tmp2 rfl _ _ _, ⟨_, rfl, ?_⟩, Below.trans hc.kp (hst.below hc.kp.size (fun k hk => by have := HS.out; omega))⟩
    exact (ownsRow_step8 hc.own hst (fun g hg e => by subst e; exact hc.apt g hg (.inl hYD)))
  case stop => intro D' c i Y W hD hYD hYb hi h; exact h.elim
theorem mathPath_yes (K j q : Nat) (w : World) (hK : K ≤ 10) (hj : j ≤ K) (hq : q < 2 ^ (K - j)) (hT : Tab w) :
    Calls Tryz.prog 44 #[.int .i64 ((nd j q : Nat) : Int), .int .i64 ((2 ^ K : Nat) : Int)] w fun e w' => (∃ v, e = .returned (.tuple #[v, .int .i64 0]) ∧ RN w' v (pathN K j q)) ∧ Kp w w' :=
  (mathPath_own K j q w hK hj hq hT).mono fun e w' ⟨⟨v, h1, h2⟩, h3⟩ => ⟨⟨v, h1, ON.rn h2⟩, h3⟩
end Go.Proofs.YtobldbodafaajaaGreatDoor

/- math.Copath. -/
set_option linter.unusedVariables false
set_option linter.unusedSimpArgs false
namespace Go.Proofs.YtobldbodafaajaaGreatDoor
open Go.RowKit

attribute [local go_sem] Oper.semAt_some

end Go.Proofs.YtobldbodafaajaaGreatDoor

/- math.Common. -/
set_option linter.unusedVariables false
set_option linter.unusedSimpArgs false
namespace Go.Proofs.YtobldbodafaajaaGreatDoor
open Go.RowKit

attribute [local go_sem] Oper.semAt_some

/-- The box that holds what two leaves have in common so far, and the other leaf's box. -/
structure Meets (T : TypeId) (w0 : World) (x b : Int) (A : World) : Prop where
  bb : Boxed A w0.heap.size T (.int .i64 b)
  bx : Boxed A (w0.heap.size + 1) T (.int .i64 x)
  tab : Tab A
  kp : Kp w0 A
theorem Meets.step {T : TypeId} {w0 : World} {x b : Int} {Y : Nat → Prop} {A A' : World} (h : Meets T w0 x b A) (hT : 1 < w0.heap.size) (hs : Step Y A A') (hY : ∀ k, Y k → w0.heap.size + 2 ≤ k) : Meets T w0 x b A' :=
  ⟨(hs.block _ h.bb.lt (fun e => by have := hY _ e; omega)).trans h.bb, (hs.block _ h.bx.lt (fun e => by have := hY _ e; omega)).trans h.bx, fun i hi => hs.cell (h.tab i hi) (fun e => by have := hY _ e; have : 1 = ((⟨1, i, none⟩ : Addr)).block := rfl; omega), Below.trans h.kp (hs.below h.kp.size (fun k hk => by have := hY k hk; omega))⟩

end Go.Proofs.YtobldbodafaajaaGreatDoor

/- math's calls, each with the document's answer, at any integers; they read the library's table (Tab). -/
set_option linter.unusedVariables false
set_option linter.unusedSimpArgs false
namespace Go.Proofs.YtobldbodafaajaaGreatDoor
open Go.RowKit
theorem mathWidth_any (n : Int) (w : World) (hn : -9223372036854775808 ≤ n ∧ n ≤ 9223372036854775807) (hT : Tab w) :
    Calls Tryz.prog 80 #[.int .i64 n] w fun e w' => e = .returned (.tuple #[.int .i64 (widV n), .int .i64 (widE n)]) ∧ Kp w w' :=
  (mathWidth_same n w).mono (by rintro _ _ ⟨rfl, rfl⟩; exact ⟨rfl, Kp.refl _⟩)
theorem mathLeft_any (x : Int) (w : World) (hx : -9223372036854775808 ≤ x ∧ x ≤ 9223372036854775807) (hT : Tab w) :
    Calls Tryz.prog 92 #[.int .i64 x] w fun e w' => e = .returned (.tuple #[.int .i64 (lefV x), .int .i64 (chE x)]) ∧ Kp w w' :=
  (mathLeft_same x w hT).mono (by rintro _ _ ⟨rfl, rfl⟩; exact ⟨rfl, Kp.refl _⟩)
theorem mathRight_any (x : Int) (w : World) (hx : -9223372036854775808 ≤ x ∧ x ≤ 9223372036854775807) (hT : Tab w) :
    Calls Tryz.prog 93 #[.int .i64 x] w fun e w' => e = .returned (.tuple #[.int .i64 (rigV x), .int .i64 (chE x)]) ∧ Kp w w' :=
  (mathRight_same x w hT).mono (by rintro _ _ ⟨rfl, rfl⟩; exact ⟨rfl, Kp.refl _⟩)
theorem mathLevel_any (x : Int) (w : World) (hx : -9223372036854775808 ≤ x ∧ x ≤ 9223372036854775807) (hT : Tab w) :
    Calls Tryz.prog 65 #[.int .i64 x] w fun e w' => e = .returned (.int .i64 (levV x)) ∧ Kp w w' :=
  (mathLevel_same x w hT).mono (by rintro _ _ ⟨rfl, rfl⟩; exact ⟨rfl, Kp.refl _⟩)
set_option maxHeartbeats 1000000 in
theorem mathPath_any (x n : Int) (w : World) (hx : -9223372036854775808 ≤ x ∧ x ≤ 9223372036854775807) (hn : -9223372036854775808 ≤ n ∧ n ≤ 9223372036854775807) (hT : Tab w) :
    Calls Tryz.prog 44 #[.int .i64 x, .int .i64 n] w fun e w' => (∃ v, e = .returned (.tuple #[v, .int .i64 (arE x n)]) ∧ RN w' v (pathV x n)) ∧ Kp w w' := by
  by_cases h : inB x n = true
  · obtain ⟨K, j, q, hK, rfl, rfl, hj, hq⟩ := (inB_iff x n).1 h
    obtain ⟨e1, e2, e3⟩ := ar_yes hK hj hq
    rw [e1, e2]
    exact mathPath_yes K j q w hK hj hq hT
  · obtain ⟨e1, e2, e3⟩ := ar_no h
    have h2 : inB x n = false := by rw [Bool.eq_false_iff]; exact h
    have HN := Lib.hid (isNode_any x n w)
    rw [h2] at HN
    rw [e1, e2]
    clear h h2 e1 e2 e3 hn hx hT
    go_enter Tryz.func44, Tryz.ntmps44
    go_wp2_with fail
    refine HN.out.mono ?_; rintro _ _ ⟨rfl, rfl⟩
    go_wp2_with fail
    go_ret2
    exact ⟨⟨_, rfl, RN.nil _⟩, Kp.refl _⟩
end Go.Proofs.YtobldbodafaajaaGreatDoor

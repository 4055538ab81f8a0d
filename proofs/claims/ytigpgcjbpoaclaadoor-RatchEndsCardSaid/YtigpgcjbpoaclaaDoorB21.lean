import Derived.Test.YtigpgcjbpoaclaaDoorB6
import Derived.Test.YtigpgcjbpoaclaaDoorB20
import Derived.WalkSpells
import Derived.Lib.Hide
import Derived.Lib.LaidTab
import Derived.Stop.LaidErr
import Derived.Deep.DeepHandedRow
set_option linter.unusedVariables false
set_option linter.unusedSimpArgs false
namespace Go.Proofs.YtigpgcjbpoaclaaDoor
open Go.RowKit
def Tab (w : World) : Prop := ∀ i, i < 64 → w.cell? ⟨1, i, none⟩ = some (.int .u8 ((Lib.deBruijn64tab.getD i 0 : Nat) : Int))
theorem Tab.kp {w w' : World} (h : Tab w) (k : Kp w w') : Tab w' := fun i hi => k.cell (h i hi)
theorem tz_key8 (x a : Nat) (hx : x < 18446744073709551616) (hx0 : x ≠ 0) (hlow : x &&& (18446744073709551616 - x) = a) :
    IntKind.u64.wrap (bits BinOp.and IntKind.u64 (x : Int) (IntKind.u64.wrap (-(x : Int))) * 285870213051353865) / 288230376151711744 = ((a * 285870213051353865 % 18446744073709551616 / 288230376151711744 : Nat) : Int) := by
  have e1 : IntKind.u64.wrap (-(x : Int)) = ((18446744073709551616 - x : Nat) : Int) := by rw [IntKind.wrap_u64]; omega
  rw [e1, bits_and_u64_nat x _ hx (by omega), hlow, IntKind.wrap_u64]
  omega
set_option maxHeartbeats 1000000 in
theorem tz64_core8 (x k idx : Nat) (w : World) (hx0 : ((x : Int) == 0) = false)
    (key : IntKind.u64.wrap (bits BinOp.and IntKind.u64 (x : Int) (IntKind.u64.wrap (-(x : Int))) * 285870213051353865) / 288230376151711744 = (idx : Int))
    (hi : idx < 64) (hk : k < 64) (hcell : w.cell? ⟨1, idx, none⟩ = some (.int .u8 k)) :
    Calls Tryd.prog 74 #[.int .u64 x] w fun e w' => e = .returned (.int .i64 k) ∧ w = w' := by
  go_enter Tryd.func74, Tryd.ntmps74
  go_wp2_with (simp only [key])
  go_ret
  exact ⟨rfl, rfl⟩
theorem tz64_any (x : Nat) (w : World) (hx : x < 18446744073709551616) (hx0 : x ≠ 0) (hT : Tab w) :
    Calls Tryd.prog 74 #[.int .u64 x] w fun e w' => e = .returned (.int .i64 (Lib.ctz 64 x)) ∧ w = w' := by
  obtain ⟨hlow, hk⟩ := Lib.lowest_bit 64 x hx0 hx
  obtain ⟨hi, htab⟩ := Lib.deBruijn64_at _ hk
  have hcell := hT _ hi
  rw [htab] at hcell
  exact tz64_core8 x _ _ w (by simp; omega) (tz_key8 x _ hx hx0 hlow) hi hk hcell
set_option maxHeartbeats 1000000 in
theorem tz_any (x : Nat) (w : World) (hx : x < 18446744073709551616) (hx0 : x ≠ 0) (hT : Tab w) :
    Calls Tryd.prog 68 #[.int .u64 x] w fun e w' => e = .returned (.int .i64 (Lib.ctz 64 x)) ∧ w = w' := by
  have H := Lib.hid (tz64_any x w hx hx0 hT)
  clear hx hx0 hT
  go_enter Tryd.func68, Tryd.ntmps68
  go_wp2_with fail
  refine H.out.mono ?_; rintro _ _ ⟨rfl, rfl⟩
  go_wp2_with fail
  go_ret
  exact ⟨rfl, rfl⟩
set_option maxHeartbeats 1000000 in
theorem isSize_any (n : Int) (w : World) : Calls Tryd.prog 39 #[.int .i64 n] w fun e w' => e = .returned (.bool (isTB n)) ∧ w = w' := by
  by_cases h : 1 ≤ n ∧ n ≤ 1024
  · obtain ⟨N, rfl⟩ := Int.eq_ofNat_of_zero_le (by omega : 0 ≤ n)
    rw [isTB_bits N (by omega) (by omega)]
    have h1 : (1 : Int) ≤ (N : Int) := h.1
    have h2 : (N : Int) ≤ 1024 := h.2
    have e1 : IntKind.i64.wrap ((N : Int) - 1) = ((N - 1 : Nat) : Int) := by rw [IntWalk.i64_in _ (by omega)]; omega
    have e2 : bits .and .i64 (N : Int) ((N - 1 : Nat) : Int) = ((N &&& (N - 1) : Nat) : Int) := bits_and_i64_nat8 N (N - 1) (by omega) (by omega)
    have e3 : (((N &&& (N - 1) : Nat) : Int) == 0) = decide (N &&& (N - 1) = 0) := by
      by_cases h0 : N &&& (N - 1) = 0
      · rw [h0]; rfl
      · rw [decide_eq_false h0, beq_eq_false_iff_ne]; omega
    generalize decide (N &&& (N - 1) = 0) = b at *
    generalize N &&& (N - 1) = M at *
    generalize ((N - 1 : Nat) : Int) = N1 at *
    clear h
    go_enter Tryd.func39, Tryd.ntmps39
    go_wp2_with fail
    go_ret
    exact ⟨rfl, rfl⟩
  · rw [isTB_out n h]
    by_cases h1 : 1 ≤ n
    · have h2 : ¬ n ≤ 1024 := fun e => h ⟨h1, e⟩
      clear h
      go_enter Tryd.func39, Tryd.ntmps39
      go_wp2_with fail
      go_ret
      exact ⟨rfl, rfl⟩
    · clear h
      go_enter Tryd.func39, Tryd.ntmps39
      go_wp2_with fail
      go_ret
      exact ⟨rfl, rfl⟩
set_option maxHeartbeats 1000000 in
theorem isNode_any (x n : Int) (w : World) : Calls Tryd.prog 61 #[.int .i64 x, .int .i64 n] w fun e w' => e = .returned (.bool (inB x n)) ∧ w = w' := by
  have HT := Lib.hid (isSize_any n w)
  by_cases ht : isTB n = true
  · have h1 := isTB_bounds ht
    have h2 : IntKind.i64.wrap (2 * n) = 2 * n := IntWalk.i64_in _ (by omega)
    have h3 : IntKind.i64.wrap (2 * n - 2) = 2 * n - 2 := IntWalk.i64_in _ (by omega)
    have HI : inB x n = (decide (0 ≤ x) && decide (x < 2 * n - 1)) := by unfold inB; rw [ht]; rfl
    have HJ : decide (x < 2 * n - 1) = decide (x ≤ 2 * n - 2) := by congr 1; exact propext ⟨fun h => by omega, fun h => by omega⟩
    rw [ht] at HT
    rw [HI, HJ]
    clear ht h1 HI HJ
    by_cases h4 : 0 ≤ x
    · have d1 : (decide (0 ≤ x) && decide (x ≤ 2 * n - 2)) = decide (x ≤ 2 * n - 2) := by simp [h4]
      rw [d1]
      clear d1
      go_enter Tryd.func61, Tryd.ntmps61
      go_wp2_with fail
      refine HT.out.mono ?_; rintro _ _ ⟨rfl, rfl⟩
      go_wp2_with fail
      go_ret
      exact ⟨rfl, rfl⟩
    · have d1 : (decide (0 ≤ x) && decide (x ≤ 2 * n - 2)) = false := by simp; intro h; omega
      rw [d1]
      clear d1
      go_enter Tryd.func61, Tryd.ntmps61
      go_wp2_with fail
      refine HT.out.mono ?_; rintro _ _ ⟨rfl, rfl⟩
      go_wp2_with fail
      go_ret
      exact ⟨rfl, rfl⟩
  · have ht2 : isTB n = false := by rw [Bool.eq_false_iff]; exact ht
    have HI : inB x n = false := by unfold inB; rw [ht2]; rfl
    rw [ht2] at HT
    rw [HI]
    clear ht ht2 HI
    go_enter Tryd.func61, Tryd.ntmps61
    go_wp2_with fail
    refine HT.out.mono ?_; rintro _ _ ⟨rfl, rfl⟩
    go_wp2_with fail
    go_ret
    exact ⟨rfl, rfl⟩
theorem inB_1024 (x : Int) : inB x 1024 = decide (okN x) := by
  have h : isTB 1024 = true := isTB_yes 10 (by omega)
  unfold inB okN
  rw [h, Bool.true_and]
  by_cases h1 : 0 ≤ x
  · by_cases h2 : x ≤ 2046
    · rw [decide_eq_true h1, decide_eq_true (show x < 2 * 1024 - 1 by omega), decide_eq_true (show 0 ≤ x ∧ x ≤ 2046 from ⟨h1, h2⟩)]; rfl
    · rw [decide_eq_true h1, decide_eq_false (show ¬ x < 2 * 1024 - 1 by omega), decide_eq_false (show ¬ (0 ≤ x ∧ x ≤ 2046) from fun h => h2 h.2)]; rfl
  · rw [decide_eq_false h1, decide_eq_false (show ¬ (0 ≤ x ∧ x ≤ 2046) from fun h => h1 h.1)]; rfl
set_option maxHeartbeats 1000000 in
theorem mathLevel_same (x : Int) (w : World) (hT : Tab w) : Calls Tryd.prog 63 #[.int .i64 x] w fun e w' => e = .returned (.int .i64 (levV x)) ∧ w = w' := by
  have HN := Lib.hid (isNode_any x 1024 w)
  rw [inB_1024] at HN
  by_cases h : okN x
  · obtain ⟨j, q, rfl, hj, hq⟩ := (small_iff x).1 h
    have hb : 0 ≤ ((nd j q : Nat) : Int) ∧ ((nd j q : Nat) : Int) ≤ 2046 := h
    rw [decide_eq_true h] at HN
    have HZ := Lib.hid (tz_any (nd j q + 1) w (by omega) (by omega) hT)
    rw [ctz_nd j q hj] at HZ
    rw [levV_nd hj hq]
    have e1 : IntKind.u64.wrap ((nd j q : Nat) : Int) = ((nd j q : Nat) : Int) := by rw [IntKind.wrap_u64]; omega
    have e2 : IntKind.u64.wrap (((nd j q : Nat) : Int) + 1) = ((nd j q + 1 : Nat) : Int) := by rw [IntKind.wrap_u64]; omega
    generalize ((nd j q + 1 : Nat) : Int) = Y at *
    generalize ((nd j q : Nat) : Int) = X at *
    clear h hb hq hT
    go_enter Tryd.func63, Tryd.ntmps63
    go_wp2_with fail
    refine HN.out.mono ?_; rintro _ _ ⟨rfl, rfl⟩
    go_wp2_with fail
    refine HZ.out.mono ?_; rintro _ _ ⟨rfl, rfl⟩
    go_wp2_with fail
    go_ret
    exact ⟨rfl, rfl⟩
  · rw [decide_eq_false h] at HN
    rw [levV_no h]
    clear h hT
    go_enter Tryd.func63, Tryd.ntmps63
    go_wp2_with fail
    refine HN.out.mono ?_; rintro _ _ ⟨rfl, rfl⟩
    go_wp2_with fail
    go_ret
    exact ⟨rfl, rfl⟩
theorem gTab8 : Tryd.prog.globalNamed "math/bits.deBruijn64tab" = some 1 := by kernel_rfl
theorem gTabType8 : (Tryd.prog.globals[1]?).map (·.type) = some 111 := by kernel_rfl
theorem cellsTab8 : Tryd.prog.cellsOf 111 = 64 := by kernel_rfl
theorem cellsByte8 : Tryd.prog.cellsOf 5 = 1 := by kernel_rfl
theorem tab_laid {W : World} (h : laidMetH Tryd.prog [("math/bits.deBruijn32tab", Rows.laid_math_bits_deBruijn32tab), ("math/bits.deBruijn64tab", Rows.laid_math_bits_deBruijn64tab)] W) : Tab W := by
  have h1 : laidMet Tryd.prog [("math/bits.deBruijn32tab", Rows.laid_math_bits_deBruijn32tab), ("math/bits.deBruijn64tab", Rows.laid_math_bits_deBruijn64tab)] W := h
  have h2 := laidMet.tail h1
  have t : Lib.TabIs Tryd.prog W "math/bits.deBruijn64tab" .u8 (Lib.deBruijn64tab.map fun (n : Nat) => (n : Int)) :=
    Lib.tabIs_of_head (rest := []) gTab8 gTabType8 Tryd.underlying111 Tryd.underlying5 cellsByte8 cellsTab8 h2
  intro i hi
  have h3 := t.cell gTab8 i (by simpa using (show i < Lib.deBruijn64tab.length from hi))
  rw [h3]
  have hi2 : i < Lib.deBruijn64tab.length := hi
  simp [List.getD_eq_getElem?_getD, hi2]
def relaid (l : List Nat) : Obj → Obj
  | .cells _ t frozen => .cells (l.map fun (n : Nat) => (.int .u8 (n : Int) : Value)).toArray t frozen
  | o => o
noncomputable def laidWorld (os : Os) : World :=
  { World.holding Tryd.prog os ⟨#[], #[], []⟩ with heap := ((World.holding Tryd.prog os ⟨#[], #[], []⟩).heap.modify 0 (relaid Lib.deBruijn32tab)).modify 1 (relaid Lib.deBruijn64tab) }
set_option maxHeartbeats 1000000 in
theorem mathWidth_same (n : Int) (w : World) : Calls Tryd.prog 24 #[.int .i64 n] w fun e w' => e = .returned (.tuple #[.int .i64 (widV n), .int .i64 (widE n)]) ∧ w = w' := by
  have HT := Lib.hid (isSize_any n w)
  by_cases ht : isTB n = true
  · have h1 := isTB_bounds ht
    have h2 : IntKind.i64.wrap (2 * n) = 2 * n := IntWalk.i64_in _ (by omega)
    have h3 : IntKind.i64.wrap (2 * n - 1) = 2 * n - 1 := IntWalk.i64_in _ (by omega)
    rw [show widV n = 2 * n - 1 from if_pos ht, show widE n = 0 from if_pos ht]
    rw [ht] at HT
    clear ht h1
    go_enter Tryd.func24, Tryd.ntmps24
    go_wp2_with fail
    refine HT.out.mono ?_; rintro _ _ ⟨rfl, rfl⟩
    go_wp2_with fail
    go_ret2
    exact ⟨rfl, rfl⟩
  · have ht2 : isTB n = false := by rw [Bool.eq_false_iff]; exact ht
    rw [show widV n = 0 from if_neg ht, show widE n = 1 from if_neg ht]
    rw [ht2] at HT
    clear ht ht2
    go_enter Tryd.func24, Tryd.ntmps24
    go_wp2_with fail
    refine HT.out.mono ?_; rintro _ _ ⟨rfl, rfl⟩
    go_wp2_with fail
    go_ret2
    exact ⟨rfl, rfl⟩
theorem p2_big {k : Nat} (h : k ≤ 10) : ((2 ^ k : Nat) : Int) ≤ 1024 ∧ 1 ≤ ((2 ^ k : Nat) : Int) := by have := p2_le h; have := p2_pos k; omega
theorem shl_one (k : Nat) (h : k ≤ 10) : IntKind.i64.wrap (1 * 2 ^ k) = ((2 ^ k : Nat) : Int) := by
  have h1 := p2_big h
  have e : (1 : Int) * 2 ^ k = ((2 ^ k : Nat) : Int) := by push_cast; omega
  rw [e]
  exact IntWalk.i64_in _ (by omega)
theorem shl_pow (k : Nat) (h : k ≤ 10) : IntKind.i64.wrap (2 ^ k) = ((2 ^ k : Nat) : Int) := by
  have := shl_one k h
  rwa [Int.one_mul] at this
theorem shl_neg (k : Nat) (h : k ≤ 10) : IntKind.i64.wrap (-1 * 2 ^ k) = -((2 ^ k : Nat) : Int) := by
  have h1 := p2_big h
  have e : (-1 : Int) * 2 ^ k = -((2 ^ k : Nat) : Int) := by push_cast; omega
  rw [e]
  exact IntWalk.i64_in _ (by omega)
set_option maxHeartbeats 1000000 in
theorem child_yes (j q : Nat) (s : Int) (w : World) (hj : j + 1 ≤ 10) (hq : q < 2 ^ (10 - (j + 1))) (hs : s = 1 ∨ s = -1) (hT : Tab w) :
    Calls Tryd.prog 54 #[.int .i64 ((nd (j + 1) q : Nat) : Int), .int .i64 s] w fun e w' => e = .returned (.tuple #[.int .i64 (((nd (j + 1) q : Nat) : Int) + s * ((2 ^ j : Nat) : Int)), .int .i64 0]) ∧ w = w' := by
  have HL := Lib.hid (mathLevel_same ((nd (j + 1) q : Nat) : Int) w hT)
  rw [levV_nd hj hq] at HL
  have hx := (small_iff ((nd (j + 1) q : Nat) : Int)).2 ⟨j + 1, q, rfl, hj, hq⟩
  obtain ⟨b1, b2⟩ := p2_big (k := j) (by omega)
  have e1 : IntKind.i64.wrap (((j + 1 : Nat) : Int) - 1) = (j : Int) := by rw [IntWalk.i64_in _ (by omega)]; omega
  have e0 : ¬ ((j + 1 : Nat) : Int) = 0 := by omega
  have e0' : (((j + 1 : Nat) : Int) == 0) = false := beq_eq_false_iff_ne.2 e0
  have e3 : IntKind.i64.wrap (s * 2 ^ j) = s * ((2 ^ j : Nat) : Int) := by
    rcases hs with rfl | rfl
    · rw [shl_one j (by omega)]; omega
    · rw [shl_neg j (by omega)]; omega
  have e4 : IntKind.i64.wrap (((nd (j + 1) q : Nat) : Int) + s * ((2 ^ j : Nat) : Int)) = ((nd (j + 1) q : Nat) : Int) + s * ((2 ^ j : Nat) : Int) := IntWalk.i64_in _ (by rcases hs with rfl | rfl <;> omega)
  have e5 : ((j : Int)).toNat = j := Int.toNat_natCast j
  have e6 : (j : Int) ≤ 64 := by omega
  generalize s * ((2 ^ j : Nat) : Int) = M at *
  generalize ((j + 1 : Nat) : Int) = J1 at *
  generalize ((nd (j + 1) q : Nat) : Int) = X at *
  clear hx hq hj hT b1 b2 hs
  go_enter Tryd.func54, Tryd.ntmps54
  go_wp2_with fail
  refine HL.out.mono ?_; rintro _ _ ⟨rfl, rfl⟩
  go_wp2_with fail
  go_ret2
  exact ⟨rfl, rfl⟩
set_option maxHeartbeats 1000000 in
theorem child_no (x s : Int) (w : World) (h : levV x = 0) (hT : Tab w) :
    Calls Tryd.prog 54 #[.int .i64 x, .int .i64 s] w fun e w' => e = .returned (.tuple #[.int .i64 0, .int .i64 1]) ∧ w = w' := by
  have HL := Lib.hid (mathLevel_same x w hT)
  rw [h] at HL
  clear h hT
  go_enter Tryd.func54, Tryd.ntmps54
  go_wp2_with fail
  refine HL.out.mono ?_; rintro _ _ ⟨rfl, rfl⟩
  go_wp2_with fail
  go_ret2
  exact ⟨rfl, rfl⟩
theorem level_cases (x : Int) : levV x = 0 ∨ ∃ j q, x = ((nd (j + 1) q : Nat) : Int) ∧ j + 1 ≤ 10 ∧ q < 2 ^ (10 - (j + 1)) := by
  by_cases h : okN x
  · obtain ⟨j, q, rfl, hj, hq⟩ := (small_iff x).1 h
    cases j with
    | zero => exact .inl (levV_nd hj hq)
    | succ j => exact .inr ⟨j, q, rfl, hj, hq⟩
  · exact .inl (levV_no h)
set_option maxHeartbeats 1000000 in
theorem mathLeft_same (x : Int) (w : World) (hT : Tab w) : Calls Tryd.prog 42 #[.int .i64 x] w fun e w' => e = .returned (.tuple #[.int .i64 (lefV x), .int .i64 (chE x)]) ∧ w = w' := by
  have H : Hid (Calls Tryd.prog 54 #[.int .i64 x, .int .i64 (-1)] w fun e w' => e = .returned (.tuple #[.int .i64 (lefV x), .int .i64 (chE x)]) ∧ w = w') := by
    rcases level_cases x with h | ⟨j, q, rfl, hj, hq⟩
    · have h1 : lefV x = 0 := if_pos h
      have h2 : chE x = 1 := if_pos h
      rw [h1, h2]
      exact child_no x (-1) w h hT
    · obtain ⟨h1, h2, _⟩ := ch_yes hj hq
      obtain ⟨h3, h4⟩ := nd_left j q
      have := child_yes j q (-1) w hj hq (.inr rfl) hT
      rw [h1, h2]
      rwa [show ((nd (j + 1) q : Nat) : Int) + -1 * ((2 ^ j : Nat) : Int) = ((nd j (2 * q) : Nat) : Int) by omega] at this
  clear hT
  go_enter Tryd.func42, Tryd.ntmps42
  go_wp2_with fail
  refine H.out.mono ?_; rintro _ _ ⟨rfl, rfl⟩
  go_wp2_with fail
  go_ret2
  exact ⟨rfl, rfl⟩
set_option maxHeartbeats 1000000 in
theorem parent_any (j q : Nat) (w : World) (hj : j < 10) (hq : q < 2 ^ (10 - j)) (hT : Tab w) :
    Calls Tryd.prog 52 #[.int .i64 ((nd j q : Nat) : Int)] w fun e w' => e = .returned (.int .i64 ((nd (j + 1) (q / 2) : Nat) : Int)) ∧ w = w' := by
  have HL := Lib.hid (mathLevel_same ((nd j q : Nat) : Int) w hT)
  rw [levV_nd (by omega) hq] at HL
  have hx := (small_iff ((nd j q : Nat) : Int)).2 ⟨j, q, rfl, by omega, hq⟩
  obtain ⟨b1, b2⟩ := p2_big (k := j) (by omega)
  have e1 := shl_pow j (by omega)
  have e2 : IntKind.i64.wrap (2 * ((2 ^ j : Nat) : Int)) = ((2 ^ (j + 1) : Nat) : Int) := by rw [p2_succ, IntWalk.i64_in _ (by omega)]; omega
  have e3 := bits_and_i64_nat8 (nd j q) (2 ^ (j + 1)) (by omega) (by rw [p2_succ]; omega)
  rw [side_bit] at e3
  have e5 : ((j : Int)).toNat = j := Int.toNat_natCast j
  have e6 : (j : Int) ≤ 64 := by omega
  by_cases h : q % 2 = 0
  · have h1 := up_left j q h
    have e4 : IntKind.i64.wrap (((nd j q : Nat) : Int) + ((2 ^ j : Nat) : Int)) = ((nd (j + 1) (q / 2) : Nat) : Int) := by rw [IntWalk.i64_in _ (by omega)]; omega
    rw [if_pos h] at e3
    generalize ((nd (j + 1) (q / 2) : Nat) : Int) = Y at *
    generalize ((2 ^ (j + 1) : Nat) : Int) = B at *
    generalize ((nd j q : Nat) : Int) = X at *
    generalize ((2 ^ j : Nat) : Int) = A at *
    clear hx hq hj hT b1 b2 h h1
    go_enter Tryd.func52, Tryd.ntmps52
    go_wp2_with fail
    refine HL.out.mono ?_; rintro _ _ ⟨rfl, rfl⟩
    go_wp2_with fail
    go_ret
    exact ⟨rfl, rfl⟩
  · obtain ⟨h1, h2⟩ := up_right j q h
    have e4 : IntKind.i64.wrap (((nd j q : Nat) : Int) - ((2 ^ j : Nat) : Int)) = ((nd (j + 1) (q / 2) : Nat) : Int) := by rw [IntWalk.i64_in _ (by omega)]; omega
    rw [if_neg h] at e3
    have e7 : (((2 ^ (j + 1) : Nat) : Int) == 0) = false := beq_eq_false_iff_ne.2 (by have := p2_pos (j + 1); omega)
    generalize ((nd (j + 1) (q / 2) : Nat) : Int) = Y at *
    generalize ((2 ^ (j + 1) : Nat) : Int) = B at *
    generalize ((nd j q : Nat) : Int) = X at *
    generalize ((2 ^ j : Nat) : Int) = A at *
    clear hx hq hj hT b1 b2 h h1 h2
    go_enter Tryd.func52, Tryd.ntmps52
    go_wp2_with fail
    refine HL.out.mono ?_; rintro _ _ ⟨rfl, rfl⟩
    go_wp2_with fail
    go_ret
    exact ⟨rfl, rfl⟩
set_option maxHeartbeats 1000000 in
theorem root_any (n : Int) (w : World) (hn : -9223372036854775807 ≤ n ∧ n ≤ 9223372036854775807) : Calls Tryd.prog 62 #[.int .i64 n] w fun e w' => e = .returned (.int .i64 (n - 1)) ∧ w = w' := by
  have e1 : IntKind.i64.wrap (n - 1) = n - 1 := IntWalk.i64_in _ (by omega)
  go_enter Tryd.func62, Tryd.ntmps62
  go_wp2_with fail
  go_ret
  exact ⟨rfl, rfl⟩
set_option maxHeartbeats 1000000 in
theorem hasParent_any (x n : Int) (w : World) : Calls Tryd.prog 51 #[.int .i64 x, .int .i64 n] w fun e w' => e = .returned (.int .i64 (paE x n)) ∧ w = w' := by
  have HN := Lib.hid (isNode_any x n w)
  by_cases h : inB x n = true
  · rw [h] at HN
    have hb : 1 ≤ n ∧ n ≤ 1024 := isTB_bounds (by unfold inB at h; simp at h; exact h.1)
    have HR := Lib.hid (root_any n w (by omega))
    by_cases hr : x = n - 1
    · rw [show paE x n = 11 by unfold paE; rw [if_pos h, if_pos hr]]
      have hr2 : (x == n - 1) = true := by rw [hr]; exact beq_self_eq_true _
      clear h hb hr
      go_enter Tryd.func51, Tryd.ntmps51
      go_wp2_with fail
      refine HN.out.mono ?_; rintro _ _ ⟨rfl, rfl⟩
      go_wp2_with fail
      refine HR.out.mono ?_; rintro _ _ ⟨rfl, rfl⟩
      go_wp2_with fail
      go_ret
      exact ⟨rfl, rfl⟩
    · rw [show paE x n = 0 by unfold paE; rw [if_pos h, if_neg hr]]
      have hr2 : (x == n - 1) = false := beq_eq_false_iff_ne.2 hr
      clear h hb hr
      go_enter Tryd.func51, Tryd.ntmps51
      go_wp2_with fail
      refine HN.out.mono ?_; rintro _ _ ⟨rfl, rfl⟩
      go_wp2_with fail
      refine HR.out.mono ?_; rintro _ _ ⟨rfl, rfl⟩
      go_wp2_with fail
      go_ret
      exact ⟨rfl, rfl⟩
  · rw [show paE x n = 1 from if_neg h]
    have h2 : inB x n = false := by rw [Bool.eq_false_iff]; exact h
    rw [h2] at HN
    clear h h2
    go_enter Tryd.func51, Tryd.ntmps51
    go_wp2_with fail
    refine HN.out.mono ?_; rintro _ _ ⟨rfl, rfl⟩
    go_wp2_with fail
    go_ret
    exact ⟨rfl, rfl⟩
theorem pa_cases (x n : Int) : (paE x n ≠ 0 ∧ paV x n = 0 ∧ siV x n = 0) ∨ ∃ K j q, K ≤ 10 ∧ j < K ∧ q < 2 ^ (K - j) ∧ x = ((nd j q : Nat) : Int) ∧ n = ((2 ^ K : Nat) : Int) := by
  by_cases h : inB x n = true
  · obtain ⟨K, j, q, hK, rfl, rfl, hj, hq⟩ := (inB_iff x n).1 h
    by_cases hjK : j < K
    · exact .inr ⟨K, j, q, hK, hjK, hq, rfl, rfl⟩
    · obtain rfl : j = K := by omega
      obtain rfl : q = 0 := by simpa using hq
      obtain ⟨e1, e2, e3⟩ := pa_root hK
      exact .inl ⟨by rw [e1]; decide, e2, e3⟩
  · obtain ⟨e1, e2, e3⟩ := pa_no h
    exact .inl ⟨by rw [e1]; decide, e2, e3⟩
theorem q_big {K j q : Nat} (hK : K ≤ 10) (hq : q < 2 ^ (K - j)) : q < 2 ^ (10 - j) := Nat.lt_of_lt_of_le hq (Nat.pow_le_pow_right (by omega) (by omega))
set_option maxHeartbeats 1000000 in
theorem mathParent_same (x n : Int) (w : World) (hT : Tab w) : Calls Tryd.prog 40 #[.int .i64 x, .int .i64 n] w fun e w' => e = .returned (.tuple #[.int .i64 (paV x n), .int .i64 (paE x n)]) ∧ w = w' := by
  have HP := Lib.hid (hasParent_any x n w)
  rcases pa_cases x n with ⟨h1, h2, _⟩ | ⟨K, j, q, hK, hj, hq, rfl, rfl⟩
  · rw [h2]
    have h3 : (paE x n == 0) = false := beq_eq_false_iff_ne.2 h1
    generalize paE x n = E at *
    clear h2 hT
    go_enter Tryd.func40, Tryd.ntmps40
    go_wp2_with fail
    refine HP.out.mono ?_; rintro _ _ ⟨rfl, rfl⟩
    go_wp2_with fail
    go_ret2
    exact ⟨rfl, rfl⟩
  · obtain ⟨e1, e2, _⟩ := pa_yes hK hj hq
    rw [e1] at HP
    rw [e1, e2]
    have HQ := Lib.hid (parent_any j q w (by omega) (q_big hK hq) hT)
    generalize ((2 ^ K : Nat) : Int) = N at *
    generalize ((nd j q : Nat) : Int) = X at *
    clear e1 e2 hT hq hj
    go_enter Tryd.func40, Tryd.ntmps40
    go_wp2_with fail
    refine HP.out.mono ?_; rintro _ _ ⟨rfl, rfl⟩
    go_wp2_with fail
    refine HQ.out.mono ?_; rintro _ _ ⟨rfl, rfl⟩
    go_wp2_with fail
    go_ret2
    exact ⟨rfl, rfl⟩
end Go.Proofs.YtigpgcjbpoaclaaDoor

/- MathTells, MathPaths (written by gen/math1.py). -/
import Derived.Test.YtcomgbneacbncaaDoorMathOwn
import Derived.Test.YtcomgbneacbncaaDoorShownMath
set_option linter.unusedVariables false
set_option linter.unusedSimpArgs false
namespace Go.Proofs.YtcomgbneacbncaaDoor
open Go.RowKit

theorem w_widE (n : Int) : IntKind.i64.wrap (widE n) = widE n := by unfold widE; split <;> rfl
theorem w_chE (x : Int) : IntKind.i64.wrap (chE x) = chE x := by rcases ch_nd_or x with h | h <;> rw [h] <;> rfl
theorem w_paE (x n : Int) : IntKind.i64.wrap (paE x n) = paE x n := by
  unfold paE
  split
  · split <;> rfl
  · rfl
theorem w_arE (x n : Int) : IntKind.i64.wrap (arE x n) = arE x n := by unfold arE; split <;> rfl
theorem w_coE (a b n : Int) : IntKind.i64.wrap (coE a b n) = coE a b n := by unfold coE; split <;> rfl

set_option maxRecDepth 100000 in
set_option maxHeartbeats 8000000 in
theorem mathTells_walk (x n : Int) (w : World) (hx : -9223372036854775808 ≤ x ∧ x ≤ 9223372036854775807) (hn : -9223372036854775808 ≤ n ∧ n ≤ 9223372036854775807) (hT : Tab w) :
    Calls Tryd.prog 3 #[.int .i64 x, .int .i64 n] w (Yes w) := by
  have HT := Lib.hid hT
  clear hT
  have O0 : Hid (∀ W, Tab W → Calls Tryd.prog 11 #[.int .i64 n] W fun e w' => e = .returned (.tuple #[.int .i64 (widV n), .int .i64 (widE n)]) ∧ Kp W w') := fun W hTW => mathWidth_any n W hn hTW
  have R0 : Hid (∀ W, Calls Tryd.prog 12 #[.int .i64 n] W fun e w' => e = .returned (.tuple #[.int .i64 (widV n), .int .i64 (widE n)]) ∧ W = w') := fun W => refWidth_any n W
  have O1 : Hid (∀ W, Tab W → Calls Tryd.prog 13 #[.int .i64 x] W fun e w' => e = .returned (.tuple #[.int .i64 (lefV x), .int .i64 (chE x)]) ∧ Kp W w') := fun W hTW => mathLeft_any x W hx hTW
  have R1 : Hid (∀ W, Calls Tryd.prog 14 #[.int .i64 x] W fun e w' => e = .returned (.tuple #[.int .i64 (lefV x), .int .i64 (chE x)]) ∧ W = w') := fun W => refLeft_any x W
  have O2 : Hid (∀ W, Tab W → Calls Tryd.prog 15 #[.int .i64 x] W fun e w' => e = .returned (.tuple #[.int .i64 (rigV x), .int .i64 (chE x)]) ∧ Kp W w') := fun W hTW => mathRight_any x W hx hTW
  have R2 : Hid (∀ W, Calls Tryd.prog 16 #[.int .i64 x] W fun e w' => e = .returned (.tuple #[.int .i64 (rigV x), .int .i64 (chE x)]) ∧ W = w') := fun W => refRight_any x W
  have O3 : Hid (∀ W, Tab W → Calls Tryd.prog 17 #[.int .i64 x] W fun e w' => e = .returned (.int .i64 (levV x)) ∧ Kp W w') := fun W hTW => mathLevel_any x W hx hTW
  have R3 : Hid (∀ W, Calls Tryd.prog 18 #[.int .i64 x] W fun e w' => e = .returned (.int .i64 (levV x)) ∧ W = w') := fun W => refLevel_any x W
  have O4 : Hid (∀ W, Tab W → Calls Tryd.prog 19 #[.int .i64 x, .int .i64 n] W fun e w' => e = .returned (.tuple #[.int .i64 (paV x n), .int .i64 (paE x n)]) ∧ Kp W w') := fun W hTW => mathParent_any x n W hx hn hTW
  have R4 : Hid (∀ W, Calls Tryd.prog 20 #[.int .i64 x, .int .i64 n] W fun e w' => e = .returned (.tuple #[.int .i64 (paV x n), .int .i64 (paE x n)]) ∧ W = w') := fun W => refParent_any x n W hn
  have O5 : Hid (∀ W, Tab W → Calls Tryd.prog 21 #[.int .i64 x, .int .i64 n] W fun e w' => e = .returned (.tuple #[.int .i64 (siV x n), .int .i64 (paE x n)]) ∧ Kp W w') := fun W hTW => mathSibling_any x n W hx hn hTW
  have R5 : Hid (∀ W, Calls Tryd.prog 22 #[.int .i64 x, .int .i64 n] W fun e w' => e = .returned (.tuple #[.int .i64 (siV x n), .int .i64 (paE x n)]) ∧ W = w') := fun W => refSibling_any x n W hn
  have i1 := w_widE n
  have i2 := w_chE x
  have i3 := w_paE x n
  generalize widV n = V0 at *
  generalize widE n = E0 at *
  generalize lefV x = V1 at *
  generalize rigV x = V2 at *
  generalize chE x = E1 at *
  generalize levV x = V3 at *
  generalize paV x n = V4 at *
  generalize siV x n = V5 at *
  generalize paE x n = E2 at *
  clear hx hn
  go_enter Tryd.func3, Tryd.ntmps3
  go_wp2_with fail
  refine (shownMath_any _ HT.out).mono ?_
  rintro e w1 ⟨rfl, k1⟩
  have K1 := Lib.hid k1
  clear k1
  go_wp2_with fail
  refine (O0.out _ (HT.out.kp (by first | exact KK.out | exact KL.out | exact KK.out.trans KL.out | exact K1.out | exact K2.out | exact K3.out | exact K4.out | exact K5.out | exact K6.out | exact K7.out | exact K8.out | exact K9.out | exact K10.out | exact K11.out | exact K12.out | exact K13.out | exact K14.out | exact K15.out | exact K16.out | exact K17.out | exact K18.out | exact K19.out | exact K20.out | exact K21.out | exact K22.out | exact K23.out | exact K24.out | exact (Kp.refl _)))).mono ?_
  rintro _ w2 ⟨rfl, k2⟩
  have K2 := Lib.hid (K1.out.trans k2)
  clear k2
  go_wp2_with fail
  refine (R0.out _).mono ?_
  rintro _ _ ⟨rfl, rfl⟩
  go_wp2_with fail
  refine (O1.out _ (HT.out.kp (by first | exact KK.out | exact KL.out | exact KK.out.trans KL.out | exact K1.out | exact K2.out | exact K3.out | exact K4.out | exact K5.out | exact K6.out | exact K7.out | exact K8.out | exact K9.out | exact K10.out | exact K11.out | exact K12.out | exact K13.out | exact K14.out | exact K15.out | exact K16.out | exact K17.out | exact K18.out | exact K19.out | exact K20.out | exact K21.out | exact K22.out | exact K23.out | exact K24.out | exact (Kp.refl _)))).mono ?_
  rintro _ w3 ⟨rfl, k3⟩
  have K3 := Lib.hid (K2.out.trans k3)
  clear k3
  go_wp2_with fail
  refine (R1.out _).mono ?_
  rintro _ _ ⟨rfl, rfl⟩
  go_wp2_with fail
  refine (O2.out _ (HT.out.kp (by first | exact KK.out | exact KL.out | exact KK.out.trans KL.out | exact K1.out | exact K2.out | exact K3.out | exact K4.out | exact K5.out | exact K6.out | exact K7.out | exact K8.out | exact K9.out | exact K10.out | exact K11.out | exact K12.out | exact K13.out | exact K14.out | exact K15.out | exact K16.out | exact K17.out | exact K18.out | exact K19.out | exact K20.out | exact K21.out | exact K22.out | exact K23.out | exact K24.out | exact (Kp.refl _)))).mono ?_
  rintro _ w4 ⟨rfl, k4⟩
  have K4 := Lib.hid (K3.out.trans k4)
  clear k4
  go_wp2_with fail
  refine (R2.out _).mono ?_
  rintro _ _ ⟨rfl, rfl⟩
  go_wp2_with fail
  refine (O3.out _ (HT.out.kp (by first | exact KK.out | exact KL.out | exact KK.out.trans KL.out | exact K1.out | exact K2.out | exact K3.out | exact K4.out | exact K5.out | exact K6.out | exact K7.out | exact K8.out | exact K9.out | exact K10.out | exact K11.out | exact K12.out | exact K13.out | exact K14.out | exact K15.out | exact K16.out | exact K17.out | exact K18.out | exact K19.out | exact K20.out | exact K21.out | exact K22.out | exact K23.out | exact K24.out | exact (Kp.refl _)))).mono ?_
  rintro _ w5 ⟨rfl, k5⟩
  have K5 := Lib.hid (K4.out.trans k5)
  clear k5
  go_wp2_with fail
  refine (R3.out _).mono ?_
  rintro _ _ ⟨rfl, rfl⟩
  go_wp2_with fail
  refine (O4.out _ (HT.out.kp (by first | exact KK.out | exact KL.out | exact KK.out.trans KL.out | exact K1.out | exact K2.out | exact K3.out | exact K4.out | exact K5.out | exact K6.out | exact K7.out | exact K8.out | exact K9.out | exact K10.out | exact K11.out | exact K12.out | exact K13.out | exact K14.out | exact K15.out | exact K16.out | exact K17.out | exact K18.out | exact K19.out | exact K20.out | exact K21.out | exact K22.out | exact K23.out | exact K24.out | exact (Kp.refl _)))).mono ?_
  rintro _ w6 ⟨rfl, k6⟩
  have K6 := Lib.hid (K5.out.trans k6)
  clear k6
  go_wp2_with fail
  refine (R4.out _).mono ?_
  rintro _ _ ⟨rfl, rfl⟩
  go_wp2_with fail
  refine (O5.out _ (HT.out.kp (by first | exact KK.out | exact KL.out | exact KK.out.trans KL.out | exact K1.out | exact K2.out | exact K3.out | exact K4.out | exact K5.out | exact K6.out | exact K7.out | exact K8.out | exact K9.out | exact K10.out | exact K11.out | exact K12.out | exact K13.out | exact K14.out | exact K15.out | exact K16.out | exact K17.out | exact K18.out | exact K19.out | exact K20.out | exact K21.out | exact K22.out | exact K23.out | exact K24.out | exact (Kp.refl _)))).mono ?_
  rintro _ w7 ⟨rfl, k7⟩
  have K7 := Lib.hid (K6.out.trans k7)
  clear k7
  go_wp2_with fail
  refine (R5.out _).mono ?_
  rintro _ _ ⟨rfl, rfl⟩
  go_wp2_with fail
  go_ret
  exact ⟨rfl, K7.out⟩

set_option maxRecDepth 100000 in
set_option maxHeartbeats 8000000 in
theorem mathPaths_walk (x y n : Int) (w : World) (hx : -9223372036854775808 ≤ x ∧ x ≤ 9223372036854775807) (hy : -9223372036854775808 ≤ y ∧ y ≤ 9223372036854775807) (hn : -9223372036854775808 ≤ n ∧ n ≤ 9223372036854775807) (hT : Tab w) :
    Calls Tryd.prog 4 #[.int .i64 x, .int .i64 y, .int .i64 n] w (Yes w) := by
  have HT := Lib.hid hT
  clear hT
  have O0 : Hid (∀ W, Tab W → Calls Tryd.prog 23 #[.int .i64 x, .int .i64 n] W fun e w' => (∃ v, e = .returned (.tuple #[v, .int .i64 (arE x n)]) ∧ RN w' v (pathV x n)) ∧ Kp W w') := fun W hTW => mathPath_any x n W hx hn hTW
  have R0 : Hid (∀ W, Calls Tryd.prog 24 #[.int .i64 x, .int .i64 n] W fun e w' => (∃ v, e = .returned (.tuple #[v, .int .i64 (arE x n)]) ∧ RN w' v (pathV x n)) ∧ Kp W w') := fun W => refPath_any x n W hn
  have O1 : Hid (∀ W, Tab W → Calls Tryd.prog 25 #[.int .i64 x, .int .i64 n] W fun e w' => (∃ v, e = .returned (.tuple #[v, .int .i64 (arE x n)]) ∧ RN w' v (copaV x n)) ∧ Kp W w') := fun W hTW => mathCopath_any x n W hx hn hTW
  have R1 : Hid (∀ W, Calls Tryd.prog 26 #[.int .i64 x, .int .i64 n] W fun e w' => (∃ v, e = .returned (.tuple #[v, .int .i64 (arE x n)]) ∧ RN w' v (copaV x n)) ∧ Kp W w') := fun W => refCopath_any x n W hn
  have O2 : Hid (∀ W, Tab W → Calls Tryd.prog 27 #[.int .i64 x, .int .i64 y, .int .i64 n] W fun e w' => e = .returned (.tuple #[.int .i64 (coV x y n), .int .i64 (coE x y n)]) ∧ Kp W w') := fun W hTW => mathCommon_any x y n W hx hy hn hTW
  have R2 : Hid (∀ W, Calls Tryd.prog 28 #[.int .i64 x, .int .i64 y, .int .i64 n] W fun e w' => e = .returned (.tuple #[.int .i64 (coV x y n), .int .i64 (coE x y n)]) ∧ W = w') := fun W => refCommon_any x y n W
  have O3 : Hid (∀ W, Tab W → Calls Tryd.prog 29 #[.int .i64 x] W fun e w' => e = .returned (.tuple #[.int .i64 (loV x), .int .i64 (hiV x)]) ∧ Kp W w') := fun W hTW => mathLeaves_any x W hx hTW
  have R3 : Hid (∀ W, Calls Tryd.prog 30 #[.int .i64 x] W fun e w' => e = .returned (.tuple #[.int .i64 (loV x), .int .i64 (hiV x)]) ∧ W = w') := fun W => refLeaves_any x W
  have i1 := w_arE x n
  have i2 := w_coE x y n
  generalize pathV x n = L0 at *
  generalize copaV x n = L1 at *
  generalize arE x n = E0 at *
  generalize coV x y n = V2 at *
  generalize coE x y n = E2 at *
  generalize loV x = V3 at *
  generalize hiV x = V4 at *
  clear hx hy hn
  go_enter Tryd.func4, Tryd.ntmps4
  go_wp2_with fail
  refine (shownMath_any _ HT.out).mono ?_
  rintro e w1 ⟨rfl, k1⟩
  have K1 := Lib.hid k1
  clear k1
  go_wp2_with fail
  refine (O0.out _ (HT.out.kp (by first | exact KK.out | exact KL.out | exact KK.out.trans KL.out | exact K1.out | exact K2.out | exact K3.out | exact K4.out | exact K5.out | exact K6.out | exact K7.out | exact K8.out | exact K9.out | exact K10.out | exact K11.out | exact K12.out | exact K13.out | exact K14.out | exact K15.out | exact K16.out | exact K17.out | exact K18.out | exact K19.out | exact K20.out | exact K21.out | exact K22.out | exact K23.out | exact K24.out | exact (Kp.refl _)))).mono ?_
  rintro _ w2 ⟨⟨va, rfl, s1⟩, k2⟩
  obtain ⟨aa, na, ca, rfl⟩ := s1.sl
  have Qa := Lib.hid s1
  have K2 := Lib.hid (K1.out.trans k2)
  clear k2 s1
  go_wp2_with fail
  refine (R0.out _).mono ?_
  rintro _ w3 ⟨⟨vb, rfl, s1⟩, k3⟩
  obtain ⟨ab, nb, cb, rfl⟩ := s1.sl
  have Qa := Lib.hid (Qa.out.kp k3)
  have Qb := Lib.hid s1
  have K3 := Lib.hid (K2.out.trans k3)
  clear k3 s1
  go_wp2_with fail
  refine (O1.out _ (HT.out.kp (by first | exact KK.out | exact KL.out | exact KK.out.trans KL.out | exact K1.out | exact K2.out | exact K3.out | exact K4.out | exact K5.out | exact K6.out | exact K7.out | exact K8.out | exact K9.out | exact K10.out | exact K11.out | exact K12.out | exact K13.out | exact K14.out | exact K15.out | exact K16.out | exact K17.out | exact K18.out | exact K19.out | exact K20.out | exact K21.out | exact K22.out | exact K23.out | exact K24.out | exact (Kp.refl _)))).mono ?_
  rintro _ w4 ⟨⟨vc, rfl, s1⟩, k4⟩
  obtain ⟨ac, nc, cc, rfl⟩ := s1.sl
  have Qa := Lib.hid (Qa.out.kp k4)
  have Qb := Lib.hid (Qb.out.kp k4)
  have Qc := Lib.hid s1
  have K4 := Lib.hid (K3.out.trans k4)
  clear k4 s1
  go_wp2_with fail
  refine (R1.out _).mono ?_
  rintro _ w5 ⟨⟨vd, rfl, s1⟩, k5⟩
  obtain ⟨ad, nd, cd, rfl⟩ := s1.sl
  have Qa := Lib.hid (Qa.out.kp k5)
  have Qb := Lib.hid (Qb.out.kp k5)
  have Qc := Lib.hid (Qc.out.kp k5)
  have Qd := Lib.hid s1
  have K5 := Lib.hid (K4.out.trans k5)
  clear k5 s1
  go_wp2_with fail
  refine (O2.out _ (HT.out.kp (by first | exact KK.out | exact KL.out | exact KK.out.trans KL.out | exact K1.out | exact K2.out | exact K3.out | exact K4.out | exact K5.out | exact K6.out | exact K7.out | exact K8.out | exact K9.out | exact K10.out | exact K11.out | exact K12.out | exact K13.out | exact K14.out | exact K15.out | exact K16.out | exact K17.out | exact K18.out | exact K19.out | exact K20.out | exact K21.out | exact K22.out | exact K23.out | exact K24.out | exact (Kp.refl _)))).mono ?_
  rintro _ w6 ⟨rfl, k6⟩
  have Qa := Lib.hid (Qa.out.kp k6)
  have Qb := Lib.hid (Qb.out.kp k6)
  have Qc := Lib.hid (Qc.out.kp k6)
  have Qd := Lib.hid (Qd.out.kp k6)
  have K6 := Lib.hid (K5.out.trans k6)
  clear k6
  go_wp2_with fail
  refine (R2.out _).mono ?_
  rintro _ _ ⟨rfl, rfl⟩
  go_wp2_with fail
  refine (O3.out _ (HT.out.kp (by first | exact KK.out | exact KL.out | exact KK.out.trans KL.out | exact K1.out | exact K2.out | exact K3.out | exact K4.out | exact K5.out | exact K6.out | exact K7.out | exact K8.out | exact K9.out | exact K10.out | exact K11.out | exact K12.out | exact K13.out | exact K14.out | exact K15.out | exact K16.out | exact K17.out | exact K18.out | exact K19.out | exact K20.out | exact K21.out | exact K22.out | exact K23.out | exact K24.out | exact (Kp.refl _)))).mono ?_
  rintro _ w7 ⟨rfl, k7⟩
  have Qa := Lib.hid (Qa.out.kp k7)
  have Qb := Lib.hid (Qb.out.kp k7)
  have Qc := Lib.hid (Qc.out.kp k7)
  have Qd := Lib.hid (Qd.out.kp k7)
  have K7 := Lib.hid (K6.out.trans k7)
  clear k7
  go_wp2_with fail
  refine (R3.out _).mono ?_
  rintro _ _ ⟨rfl, rfl⟩
  go_wp2_with fail
  refine (ints_yes _ _ _ _ Qa.out Qb.out).mono ?_
  rintro _ w8 ⟨rfl, k8⟩
  have Qa := Lib.hid (Qa.out.kp k8)
  have Qb := Lib.hid (Qb.out.kp k8)
  have Qc := Lib.hid (Qc.out.kp k8)
  have Qd := Lib.hid (Qd.out.kp k8)
  have K8 := Lib.hid (K7.out.trans k8)
  clear k8
  go_wp2_with fail
  refine (ints_yes _ _ _ _ Qc.out Qd.out).mono ?_
  rintro _ w9 ⟨rfl, k9⟩
  have Qa := Lib.hid (Qa.out.kp k9)
  have Qb := Lib.hid (Qb.out.kp k9)
  have Qc := Lib.hid (Qc.out.kp k9)
  have Qd := Lib.hid (Qd.out.kp k9)
  have K9 := Lib.hid (K8.out.trans k9)
  clear k9
  go_wp2_with fail
  go_ret
  exact ⟨rfl, K9.out⟩
end Go.Proofs.YtcomgbneacbncaaDoor

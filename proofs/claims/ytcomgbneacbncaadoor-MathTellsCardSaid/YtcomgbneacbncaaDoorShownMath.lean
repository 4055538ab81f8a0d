/- The document's examples, at the head of all statements of layer 8: shown. -/
import Derived.Test.YtcomgbneacbncaaDoorMathOwn
set_option linter.unusedVariables false
set_option linter.unusedSimpArgs false
namespace Go.Proofs.YtcomgbneacbncaaDoor
open Go.RowKit

theorem path48 : arE 4 8 = 0 ∧ pathV 4 8 = [5, 3, 7] ∧ copaV 4 8 = [6, 1, 11] := by decide +kernel
theorem shown8 : coE 0 3 8 = 0 ∧ coV 0 3 8 = 3 ∧ widE 8 = 0 ∧ widV 8 = 15 ∧ loV 5 = 2 ∧ hiV 5 = 3 ∧ paE 7 8 = 11 ∧ levV 7 = 3 := by decide +kernel
theorem ints_yes (u v : Value) (l : List Nat) (w : World) (hu : RN w u l) (hv : RN w v l) : Calls Tryd.prog 31 #[u, v] w fun e w' => e = .returned (.bool true) ∧ Kp w w' := by
  have := refInts_any u v l l w hu hv
  rwa [decide_eq_true rfl] at this

set_option maxRecDepth 100000 in
set_option maxHeartbeats 4000000 in
theorem shownMath_any (w : World) (hT : Tab w) : Calls Tryd.prog 10 #[] w fun e w' => e = .returned (.bool true) ∧ Kp w w' := by
  have HT := Lib.hid hT
  clear hT
  have H1 := Lib.hid (fun W hTW => mathPath_any 4 8 W (by omega) (by omega) hTW)
  have H2 := Lib.hid (fun W hTW => mathCopath_any 4 8 W (by omega) (by omega) hTW)
  rw [path48.1, path48.2.1] at H1
  rw [path48.1, path48.2.2] at H2
  obtain ⟨e1, e2, e3, e4, e5, e6, e7, e8⟩ := shown8
  have H3 := Lib.hid (fun W hTW => mathCommon_any 0 3 8 W (by omega) (by omega) (by omega) hTW)
  rw [e1, e2] at H3
  have H4 := Lib.hid (fun W hTW => mathWidth_any 8 W (by omega) hTW)
  rw [e3, e4] at H4
  have H5 := Lib.hid (fun W hTW => mathLeaves_any 5 W (by omega) hTW)
  rw [e5, e6] at H5
  have H6 := Lib.hid (fun W hTW => mathParent_any 7 8 W (by omega) (by omega) hTW)
  rw [e7] at H6
  have H7 := Lib.hid (fun W hTW => mathLevel_any 7 W (by omega) hTW)
  rw [e8] at H7
  clear e1 e2 e3 e4 e5 e6 e7 e8
  go_enter Tryd.func10, Tryd.ntmps10
  go_wp2_with fail
  refine (H1.out w (HT.out.kp (by first | exact KK.out | exact KL.out | exact KK.out.trans KL.out | exact K1.out | exact K2.out | exact K3.out | exact K4.out | exact K5.out | exact K6.out | exact K7.out | exact K8.out | exact K9.out | exact K10.out | exact K11.out | exact K12.out | exact K13.out | exact K14.out | exact K15.out | exact K16.out | exact K17.out | exact K18.out | exact K19.out | exact K20.out | exact K21.out | exact K22.out | exact K23.out | exact K24.out | exact (Kp.refl _)))).mono ?_
  rintro _ w1 ⟨⟨p, rfl, s1⟩, k1⟩
  obtain ⟨ap, np, cp, rfl⟩ := s1.sl
  have RP := Lib.hid s1
  have K1 := Lib.hid k1
  clear s1 k1
  go_wp2_with fail
  refine (H2.out w1 (HT.out.kp (by first | exact KK.out | exact KL.out | exact KK.out.trans KL.out | exact K1.out | exact K2.out | exact K3.out | exact K4.out | exact K5.out | exact K6.out | exact K7.out | exact K8.out | exact K9.out | exact K10.out | exact K11.out | exact K12.out | exact K13.out | exact K14.out | exact K15.out | exact K16.out | exact K17.out | exact K18.out | exact K19.out | exact K20.out | exact K21.out | exact K22.out | exact K23.out | exact K24.out | exact (Kp.refl _)))).mono ?_
  rintro _ w2 ⟨⟨c, rfl, s1⟩, k2⟩
  obtain ⟨ac, nc, cc, rfl⟩ := s1.sl
  have RC := Lib.hid s1
  have RP := Lib.hid (RP.out.kp k2)
  have K2 := Lib.hid (K1.out.trans k2)
  clear s1 k2
  go_wp2_with fail
  refine (H3.out w2 (HT.out.kp (by first | exact KK.out | exact KL.out | exact KK.out.trans KL.out | exact K1.out | exact K2.out | exact K3.out | exact K4.out | exact K5.out | exact K6.out | exact K7.out | exact K8.out | exact K9.out | exact K10.out | exact K11.out | exact K12.out | exact K13.out | exact K14.out | exact K15.out | exact K16.out | exact K17.out | exact K18.out | exact K19.out | exact K20.out | exact K21.out | exact K22.out | exact K23.out | exact K24.out | exact (Kp.refl _)))).mono ?_
  rintro _ w3 ⟨rfl, k3⟩
  have RC := Lib.hid (RC.out.kp k3)
  have RP := Lib.hid (RP.out.kp k3)
  have K3 := Lib.hid (K2.out.trans k3)
  clear k3
  go_wp2_with fail
  refine (H4.out w3 (HT.out.kp (by first | exact KK.out | exact KL.out | exact KK.out.trans KL.out | exact K1.out | exact K2.out | exact K3.out | exact K4.out | exact K5.out | exact K6.out | exact K7.out | exact K8.out | exact K9.out | exact K10.out | exact K11.out | exact K12.out | exact K13.out | exact K14.out | exact K15.out | exact K16.out | exact K17.out | exact K18.out | exact K19.out | exact K20.out | exact K21.out | exact K22.out | exact K23.out | exact K24.out | exact (Kp.refl _)))).mono ?_
  rintro _ w4 ⟨rfl, k4⟩
  have RC := Lib.hid (RC.out.kp k4)
  have RP := Lib.hid (RP.out.kp k4)
  have K4 := Lib.hid (K3.out.trans k4)
  clear k4
  go_wp2_with fail
  refine (H5.out w4 (HT.out.kp (by first | exact KK.out | exact KL.out | exact KK.out.trans KL.out | exact K1.out | exact K2.out | exact K3.out | exact K4.out | exact K5.out | exact K6.out | exact K7.out | exact K8.out | exact K9.out | exact K10.out | exact K11.out | exact K12.out | exact K13.out | exact K14.out | exact K15.out | exact K16.out | exact K17.out | exact K18.out | exact K19.out | exact K20.out | exact K21.out | exact K22.out | exact K23.out | exact K24.out | exact (Kp.refl _)))).mono ?_
  rintro _ w5 ⟨rfl, k5⟩
  have RC := Lib.hid (RC.out.kp k5)
  have RP := Lib.hid (RP.out.kp k5)
  have K5 := Lib.hid (K4.out.trans k5)
  clear k5
  go_wp2_with fail
  refine (H6.out w5 (HT.out.kp (by first | exact KK.out | exact KL.out | exact KK.out.trans KL.out | exact K1.out | exact K2.out | exact K3.out | exact K4.out | exact K5.out | exact K6.out | exact K7.out | exact K8.out | exact K9.out | exact K10.out | exact K11.out | exact K12.out | exact K13.out | exact K14.out | exact K15.out | exact K16.out | exact K17.out | exact K18.out | exact K19.out | exact K20.out | exact K21.out | exact K22.out | exact K23.out | exact K24.out | exact (Kp.refl _)))).mono ?_
  rintro _ w6 ⟨rfl, k6⟩
  have RC := Lib.hid (RC.out.kp k6)
  have RP := Lib.hid (RP.out.kp k6)
  have K6 := Lib.hid (K5.out.trans k6)
  clear k6
  go_wp2_with fail
  refine (ints_yes _ _ [5, 3, 7] _ (RP.out.kp ((Kp.refl _).alloc _)) (RN.lit w6 3 #[.int .i64 5, .int .i64 3, .int .i64 7] [5, 3, 7] 3 rfl (by decide) rfl)).mono ?_
  rintro _ w7 ⟨rfl, k7⟩
  have k7 : Kp w6 w7 := ((Kp.refl _).alloc _).trans k7
  have RC := Lib.hid (RC.out.kp k7)
  have K7 := Lib.hid (K6.out.trans k7)
  clear k7
  go_wp2_with fail
  refine (ints_yes _ _ [6, 1, 11] _ (RC.out.kp ((Kp.refl _).alloc _)) (RN.lit w7 3 #[.int .i64 6, .int .i64 1, .int .i64 11] [6, 1, 11] 3 rfl (by decide) rfl)).mono ?_
  rintro _ w8 ⟨rfl, k8⟩
  have k8 : Kp w7 w8 := ((Kp.refl _).alloc _).trans k8
  have K8 := Lib.hid (K7.out.trans k8)
  clear k8
  go_wp2_with fail
  refine (H7.out w8 (HT.out.kp (by first | exact KK.out | exact KL.out | exact KK.out.trans KL.out | exact K1.out | exact K2.out | exact K3.out | exact K4.out | exact K5.out | exact K6.out | exact K7.out | exact K8.out | exact K9.out | exact K10.out | exact K11.out | exact K12.out | exact K13.out | exact K14.out | exact K15.out | exact K16.out | exact K17.out | exact K18.out | exact K19.out | exact K20.out | exact K21.out | exact K22.out | exact K23.out | exact K24.out | exact (Kp.refl _)))).mono ?_
  rintro _ w9 ⟨rfl, k9⟩
  have K9 := Lib.hid (K8.out.trans k9)
  clear k9
  go_wp2_with fail
  go_ret
  exact ⟨rfl, K9.out⟩
end Go.Proofs.YtcomgbneacbncaaDoor

/- MathUp (written by gen/math2.py). -/
import Derived.Test.YtcomgbneacbncaaDoorMathOwn
import Derived.Test.YtcomgbneacbncaaDoorShownMath
set_option linter.unusedVariables false
set_option linter.unusedSimpArgs false
namespace Go.Proofs.YtcomgbneacbncaaDoor
open Go.RowKit

/-- A node below a root: what its calls answer. -/
theorem nd_bounds {K j q : Nat} (hK : K ≤ 10) (hj : j ≤ K) (hq : q < 2 ^ (K - j)) : 0 ≤ ((nd j q : Nat) : Int) ∧ ((nd j q : Nat) : Int) ≤ 2046 := by
  have := (nd_small hK hj hq).1
  omega
theorem kid_lt {K j q : Nat} (hj : j + 1 ≤ K) (hq : q < 2 ^ (K - (j + 1))) : 2 * q < 2 ^ (K - j) ∧ 2 * q + 1 < 2 ^ (K - j) := by
  have e : K - j = (K - (j + 1)) + 1 := by omega
  rw [e, p2_succ]
  omega

set_option maxRecDepth 100000 in
set_option maxHeartbeats 3000000 in
theorem mathUp_walk (x k : Nat) (w : World) (hx : (x : Int) ≤ 65535) (hk : (k : Int) ≤ 255) (hT : Tab w) :
    Calls Tryd.prog 5 #[.int .u16 (x : Int), .int .u8 (k : Int)] w (Yes w) := by
  have HT := Lib.hid hT
  clear hT
  obtain ⟨K, hKe⟩ : ∃ K, k % 11 = K := ⟨_, rfl⟩
  have hK : K ≤ 10 := by omega
  have c1 : IntKind.i64.wrap (k : Int) = (k : Int) := IntWalk.i64_in _ (by omega)
  have c2 : (k : Int).tmod 11 = (K : Int) := by rw [Int.tmod_eq_emod_of_nonneg (by omega)]; omega
  have c3 : IntKind.i64.wrap (K : Int) = (K : Int) := IntWalk.i64_in _ (by omega)
  have HP : Hid (∀ i, i ≤ 10 → 1 ≤ ((2 ^ i : Nat) : Int) ∧ ((2 ^ i : Nat) : Int) ≤ 1024 ∧ 2 * ((2 ^ i : Nat) : Int) = ((2 ^ (i + 1) : Nat) : Int)) := fun i hi => by
    have h1 : (2 : Nat) ^ i ≤ 2 ^ 10 := Nat.pow_le_pow_right (by omega) (by omega)
    have h2 := p2_pos i
    have h3 := p2_succ i
    generalize 2 ^ (i + 1) = B at *
    generalize 2 ^ i = A at *
    omega
  have hb := p2_le hK
  have hb2 := p2_pos K
  have hb3 := p2_succ K
  obtain ⟨p, hp⟩ : ∃ p, x % (2 ^ (K + 1) - 1) = p := ⟨_, rfl⟩
  have hpl : p < 2 ^ (K + 1) - 1 := by rw [← hp]; exact Nat.mod_lt _ (by omega)
  obtain ⟨j, q, rfl, hj, hq⟩ := nd_of K p hpl
  obtain ⟨z0, z1⟩ := nd_bounds hK hj hq
  have d0 : IntKind.i64.wrap (x : Int) = (x : Int) := IntWalk.i64_in _ (by omega)
  have d1 : IntKind.i64.wrap (2 * ((2 ^ K : Nat) : Int)) = 2 * ((2 ^ K : Nat) : Int) := IntWalk.i64_in _ (by omega)
  have d2 : IntKind.i64.wrap (2 * ((2 ^ K : Nat) : Int) - 1) = 2 * ((2 ^ K : Nat) : Int) - 1 := IntWalk.i64_in _ (by omega)
  have d3 : (x : Int).tmod (2 * ((2 ^ K : Nat) : Int) - 1) = ((nd j q : Nat) : Int) := by
    rw [Int.tmod_eq_emod_of_nonneg (by omega), ← hp]
    have e : 2 * ((2 ^ K : Nat) : Int) - 1 = ((2 ^ (K + 1) - 1 : Nat) : Int) := by omega
    rw [e]
    exact (Int.natCast_emod _ _).symm
  have d4 : IntKind.i64.wrap ((nd j q : Nat) : Int) = ((nd j q : Nat) : Int) := IntWalk.i64_in _ (by omega)
  have d5 : IntKind.i64.wrap (((2 ^ K : Nat) : Int) - 1) = ((2 ^ K : Nat) : Int) - 1 := IntWalk.i64_in _ (by omega)
  have d6 : ¬ (2 * ((2 ^ K : Nat) : Int) - 1) = 0 := by omega
  have hroot := nd_is_root hq hj
  have HR : Hid (((nd j q : Nat) : Int) = ((2 ^ K : Nat) : Int) - 1 ↔ j = K) := ⟨fun h => hroot.1 (by omega), fun h => by have := hroot.2 h; omega⟩
  have OL : Hid (∀ W, Tab W → Calls Tryd.prog 13 #[.int .i64 ((nd j q : Nat) : Int)] W fun e w' => e = .returned (.tuple #[.int .i64 (lefV ((nd j q : Nat) : Int)), .int .i64 (chE ((nd j q : Nat) : Int))]) ∧ Kp W w') := fun W hTW => mathLeft_any _ W (by omega) hTW
  have OR : Hid (∀ W, Tab W → Calls Tryd.prog 15 #[.int .i64 ((nd j q : Nat) : Int)] W fun e w' => e = .returned (.tuple #[.int .i64 (rigV ((nd j q : Nat) : Int)), .int .i64 (chE ((nd j q : Nat) : Int))]) ∧ Kp W w') := fun W hTW => mathRight_any _ W (by omega) hTW
  have OP : Hid (∀ W (z : Int) (_ : 0 ≤ z ∧ z ≤ 2046), Tab W → Calls Tryd.prog 19 #[.int .i64 z, .int .i64 ((2 ^ K : Nat) : Int)] W fun e w' => e = .returned (.tuple #[.int .i64 (paV z ((2 ^ K : Nat) : Int)), .int .i64 (paE z ((2 ^ K : Nat) : Int))]) ∧ Kp W w') := fun W z hz hTW => mathParent_any z _ W (by omega) (by omega) hTW
  have OS : Hid (∀ W (z : Int) (_ : 0 ≤ z ∧ z ≤ 2046), Tab W → Calls Tryd.prog 21 #[.int .i64 z, .int .i64 ((2 ^ K : Nat) : Int)] W fun e w' => e = .returned (.tuple #[.int .i64 (siV z ((2 ^ K : Nat) : Int)), .int .i64 (paE z ((2 ^ K : Nat) : Int))]) ∧ Kp W w') := fun W z hz hTW => mathSibling_any z _ W (by omega) (by omega) hTW
  have OV : Hid (∀ W (z : Int) (_ : 0 ≤ z ∧ z ≤ 2046), Tab W → Calls Tryd.prog 17 #[.int .i64 z] W fun e w' => e = .returned (.int .i64 (levV z)) ∧ Kp W w') := fun W z hz hTW => mathLevel_any z W (by omega) hTW
  have HQ := Lib.hid (And.intro hj hq)
  have HB := Lib.hid (And.intro hK (And.intro z0 z1))
  clear hp hpl hroot hb hb2 hb3 hq hx hKe
  go_enter Tryd.func5, Tryd.ntmps5
  go_wp2_with fail
  refine (shownMath_any _ HT.out).mono ?_
  rintro e w1 ⟨rfl, k1⟩
  have K1 := Lib.hid k1
  clear k1
  go_wp2_with fail
  go_loopw [6, 7] (fun n y wr => ∃ i : Nat, i ≤ K ∧ n = .int .i64 ((2 ^ i : Nat) : Int) ∧ y = .int .i64 (i : Int) ∧ Kp w wr) (fun _ y _ => (K - (intOf y).toNat))
  case atStart => exact ⟨0, Nat.zero_le _, rfl, rfl, K1.out⟩
  case round =>
    obtain ⟨i, hi, rfl, rfl, hkp⟩ := hrel
    by_cases hlt : i < K
    · obtain ⟨n1, n2, n3⟩ := HP.out i (by omega)
      have N3 := Lib.hid n3
      have KK := Lib.hid hkp
      generalize ((2 ^ i : Nat) : Int) = A at *
      have hw : IntKind.i64.wrap (2 * A) = 2 * A := IntWalk.i64_in _ (by omega)
      have hw2 : IntKind.i64.wrap ((i : Int) + 1) = (i : Int) + 1 := IntWalk.i64_in _ (by omega)
      have hlI : (i : Int) < (K : Int) := by omega
      clear HP n3 hkp OL OR OP OS OV HQ HR d0 d1 d2 d3 d4 d5 d6 z0 z1
      go_wp2_with fail
      go_roundw
      case rel => exact ⟨i + 1, by omega, by rw [← N3.out], by go_num, KK.out⟩
      case measure => simp [intOf]; omega
    · obtain rfl : i = K := by omega
      have KK := Lib.hid hkp
      clear hkp K1
      clear HP
      obtain ⟨hj, hq⟩ := HQ.out
      have OPP := Lib.hid (fun W hTW => OP.out W _ ⟨z0, z1⟩ hTW)
      have OVV := Lib.hid (fun W hTW => OV.out W _ ⟨z0, z1⟩ hTW)
      have hj10 := (nd_small hK hj hq).2
      rw [levV_nd hj10.1 hj10.2] at OVV
      by_cases hr : j = i
      · subst hr
        have hq0 : q = 0 := by simpa using hq
        subst hq0
        obtain ⟨e1, e2, e3⟩ := pa_root hK
        have hR : (((nd j 0 : Nat) : Int) == ((2 ^ j : Nat) : Int) - 1) = true := beq_iff_eq.2 (HR.out.2 rfl)
        rw [e1, e2] at OPP
        clear e1 e2 e3 HR
        cases j with
        | zero =>
          obtain ⟨f1, f2, f3⟩ := ch_leaf (q := 0) (show _ < 2 ^ 10 from hj10.2)
          have h2 := tmod2_even 0
          rw [f1, f2] at OL
          rw [f1, f3] at OR
          clear f1 f2 f3 OP OS OV
          generalize ((nd 0 0 : Nat) : Int) = P at *
          generalize ((2 ^ 0 : Nat) : Int) = N at *
          go_wp2_with fail
          refine (OL.out _ (HT.out.kp (by first | exact KK.out | exact KL.out | exact KK.out.trans KL.out | exact K1.out | exact K2.out | exact K3.out | exact K4.out | exact K5.out | exact K6.out | exact K7.out | exact K8.out | exact K9.out | exact K10.out | exact K11.out | exact K12.out | exact K13.out | exact K14.out | exact K15.out | exact K16.out | exact K17.out | exact K18.out | exact K19.out | exact K20.out | exact K21.out | exact K22.out | exact K23.out | exact K24.out | exact (Kp.refl _)))).mono ?_
          rintro _ w2 ⟨rfl, k2⟩
          have KK := Lib.hid (KK.out.trans k2)
          clear k2
          go_wp2_with fail
          refine (OR.out _ (HT.out.kp (by first | exact KK.out | exact KL.out | exact KK.out.trans KL.out | exact K1.out | exact K2.out | exact K3.out | exact K4.out | exact K5.out | exact K6.out | exact K7.out | exact K8.out | exact K9.out | exact K10.out | exact K11.out | exact K12.out | exact K13.out | exact K14.out | exact K15.out | exact K16.out | exact K17.out | exact K18.out | exact K19.out | exact K20.out | exact K21.out | exact K22.out | exact K23.out | exact K24.out | exact (Kp.refl _)))).mono ?_
          rintro _ w3 ⟨rfl, k3⟩
          have KK := Lib.hid (KK.out.trans k3)
          clear k3
          go_wp2_with fail
          refine (OPP.out _ (HT.out.kp (by first | exact KK.out | exact KL.out | exact KK.out.trans KL.out | exact K1.out | exact K2.out | exact K3.out | exact K4.out | exact K5.out | exact K6.out | exact K7.out | exact K8.out | exact K9.out | exact K10.out | exact K11.out | exact K12.out | exact K13.out | exact K14.out | exact K15.out | exact K16.out | exact K17.out | exact K18.out | exact K19.out | exact K20.out | exact K21.out | exact K22.out | exact K23.out | exact K24.out | exact (Kp.refl _)))).mono ?_
          rintro _ w4 ⟨rfl, k4⟩
          have KK := Lib.hid (KK.out.trans k4)
          clear k4
          go_wp2_with fail
          refine (OVV.out _ (HT.out.kp (by first | exact KK.out | exact KL.out | exact KK.out.trans KL.out | exact K1.out | exact K2.out | exact K3.out | exact K4.out | exact K5.out | exact K6.out | exact K7.out | exact K8.out | exact K9.out | exact K10.out | exact K11.out | exact K12.out | exact K13.out | exact K14.out | exact K15.out | exact K16.out | exact K17.out | exact K18.out | exact K19.out | exact K20.out | exact K21.out | exact K22.out | exact K23.out | exact K24.out | exact (Kp.refl _)))).mono ?_
          rintro _ w5 ⟨rfl, k5⟩
          have KK := Lib.hid (KK.out.trans k5)
          clear k5
          go_wp2_with fail
          go_ret
          exact ⟨rfl, KK.out⟩
        | succ j =>
          obtain ⟨f1, f2, f3⟩ := ch_yes (j := j) (q := 0) hj10.1 hj10.2
          have h2 := tmod2_odd j 0
          rw [f1, f2] at OL
          rw [f1, f3] at OR
          obtain ⟨g1, g2⟩ := kid_lt (K := j + 1) (j := j) (q := 0) hj hq
          have a1 := nd_bounds hK (j := j) (by omega) g1
          have a2 := nd_bounds hK (j := j) (by omega) g2
          have OPA := Lib.hid (fun W hTW => OP.out W _ a1 hTW)
          have OPB := Lib.hid (fun W hTW => OP.out W _ a2 hTW)
          have OSA := Lib.hid (fun W hTW => OS.out W _ a1 hTW)
          have OSB := Lib.hid (fun W hTW => OS.out W _ a2 hTW)
          have OVA := Lib.hid (fun W hTW => OV.out W _ a1 hTW)
          have OVB := Lib.hid (fun W hTW => OV.out W _ a2 hTW)
          obtain ⟨m1, m2, m3⟩ := pa_yes (K := j + 1) (j := j) (q := 2 * 0) hK (by omega) g1
          obtain ⟨l1, l2, l3⟩ := pa_yes (K := j + 1) (j := j) (q := 2 * 0 + 1) hK (by omega) g2
          rw [show 2 * 0 / 2 = 0 by omega] at m2
          rw [show (2 * 0 + 1) / 2 = 0 by omega] at l2
          rw [sq_even] at m3
          rw [sq_odd] at l3
          rw [m1, m2] at OPA
          rw [l1, l2] at OPB
          rw [m1, m3] at OSA
          rw [l1, l3] at OSB
          obtain ⟨_, y1, y2⟩ := nd_small hK (j := j) (by omega) g1
          obtain ⟨_, y3, y4⟩ := nd_small hK (j := j) (by omega) g2
          rw [levV_nd y1 y2] at OVA
          rw [levV_nd y3 y4] at OVB
          have lt1 : ((nd j (2 * 0) : Nat) : Int) < ((nd (j + 1) 0 : Nat) : Int) := by have := (nd_left j 0); have := p2_pos j; omega
          have lt2 : ((nd (j + 1) 0 : Nat) : Int) < ((nd j (2 * 0 + 1) : Nat) : Int) := by have := (nd_right j 0); have := p2_pos j; omega
          have lv : IntKind.i64.wrap (((j + 1 : Nat) : Int) - 1) = (j : Int) := by rw [IntWalk.i64_in _ (by omega)]; omega
          clear f1 f2 f3 OP OS OV a1 a2 g1 g2 m1 m2 m3 l1 l2 l3 y1 y2 y3 y4 HQ HB hj hq hj10
          generalize ((nd (j + 1) 0 : Nat) : Int) = P at *
          generalize ((nd j (2 * 0) : Nat) : Int) = A at *
          generalize ((nd j (2 * 0 + 1) : Nat) : Int) = B at *
          generalize ((2 ^ (j + 1) : Nat) : Int) = N at *
          generalize ((j + 1 : Nat) : Int) = J at *
          go_wp2_with fail
          refine (OL.out _ (HT.out.kp (by first | exact KK.out | exact KL.out | exact KK.out.trans KL.out | exact K1.out | exact K2.out | exact K3.out | exact K4.out | exact K5.out | exact K6.out | exact K7.out | exact K8.out | exact K9.out | exact K10.out | exact K11.out | exact K12.out | exact K13.out | exact K14.out | exact K15.out | exact K16.out | exact K17.out | exact K18.out | exact K19.out | exact K20.out | exact K21.out | exact K22.out | exact K23.out | exact K24.out | exact (Kp.refl _)))).mono ?_
          rintro _ w2 ⟨rfl, k2⟩
          have KK := Lib.hid (KK.out.trans k2)
          clear k2
          go_wp2_with fail
          refine (OR.out _ (HT.out.kp (by first | exact KK.out | exact KL.out | exact KK.out.trans KL.out | exact K1.out | exact K2.out | exact K3.out | exact K4.out | exact K5.out | exact K6.out | exact K7.out | exact K8.out | exact K9.out | exact K10.out | exact K11.out | exact K12.out | exact K13.out | exact K14.out | exact K15.out | exact K16.out | exact K17.out | exact K18.out | exact K19.out | exact K20.out | exact K21.out | exact K22.out | exact K23.out | exact K24.out | exact (Kp.refl _)))).mono ?_
          rintro _ w3 ⟨rfl, k3⟩
          have KK := Lib.hid (KK.out.trans k3)
          clear k3
          go_wp2_with fail
          refine (OPP.out _ (HT.out.kp (by first | exact KK.out | exact KL.out | exact KK.out.trans KL.out | exact K1.out | exact K2.out | exact K3.out | exact K4.out | exact K5.out | exact K6.out | exact K7.out | exact K8.out | exact K9.out | exact K10.out | exact K11.out | exact K12.out | exact K13.out | exact K14.out | exact K15.out | exact K16.out | exact K17.out | exact K18.out | exact K19.out | exact K20.out | exact K21.out | exact K22.out | exact K23.out | exact K24.out | exact (Kp.refl _)))).mono ?_
          rintro _ w4 ⟨rfl, k4⟩
          have KK := Lib.hid (KK.out.trans k4)
          clear k4
          go_wp2_with fail
          refine (OPA.out _ (HT.out.kp (by first | exact KK.out | exact KL.out | exact KK.out.trans KL.out | exact K1.out | exact K2.out | exact K3.out | exact K4.out | exact K5.out | exact K6.out | exact K7.out | exact K8.out | exact K9.out | exact K10.out | exact K11.out | exact K12.out | exact K13.out | exact K14.out | exact K15.out | exact K16.out | exact K17.out | exact K18.out | exact K19.out | exact K20.out | exact K21.out | exact K22.out | exact K23.out | exact K24.out | exact (Kp.refl _)))).mono ?_
          rintro _ w5 ⟨rfl, k5⟩
          have KK := Lib.hid (KK.out.trans k5)
          clear k5
          go_wp2_with fail
          refine (OPB.out _ (HT.out.kp (by first | exact KK.out | exact KL.out | exact KK.out.trans KL.out | exact K1.out | exact K2.out | exact K3.out | exact K4.out | exact K5.out | exact K6.out | exact K7.out | exact K8.out | exact K9.out | exact K10.out | exact K11.out | exact K12.out | exact K13.out | exact K14.out | exact K15.out | exact K16.out | exact K17.out | exact K18.out | exact K19.out | exact K20.out | exact K21.out | exact K22.out | exact K23.out | exact K24.out | exact (Kp.refl _)))).mono ?_
          rintro _ w6 ⟨rfl, k6⟩
          have KK := Lib.hid (KK.out.trans k6)
          clear k6
          go_wp2_with fail
          refine (OSA.out _ (HT.out.kp (by first | exact KK.out | exact KL.out | exact KK.out.trans KL.out | exact K1.out | exact K2.out | exact K3.out | exact K4.out | exact K5.out | exact K6.out | exact K7.out | exact K8.out | exact K9.out | exact K10.out | exact K11.out | exact K12.out | exact K13.out | exact K14.out | exact K15.out | exact K16.out | exact K17.out | exact K18.out | exact K19.out | exact K20.out | exact K21.out | exact K22.out | exact K23.out | exact K24.out | exact (Kp.refl _)))).mono ?_
          rintro _ w7 ⟨rfl, k7⟩
          have KK := Lib.hid (KK.out.trans k7)
          clear k7
          go_wp2_with fail
          refine (OSB.out _ (HT.out.kp (by first | exact KK.out | exact KL.out | exact KK.out.trans KL.out | exact K1.out | exact K2.out | exact K3.out | exact K4.out | exact K5.out | exact K6.out | exact K7.out | exact K8.out | exact K9.out | exact K10.out | exact K11.out | exact K12.out | exact K13.out | exact K14.out | exact K15.out | exact K16.out | exact K17.out | exact K18.out | exact K19.out | exact K20.out | exact K21.out | exact K22.out | exact K23.out | exact K24.out | exact (Kp.refl _)))).mono ?_
          rintro _ w8 ⟨rfl, k8⟩
          have KK := Lib.hid (KK.out.trans k8)
          clear k8
          go_wp2_with fail
          refine (OVA.out _ (HT.out.kp (by first | exact KK.out | exact KL.out | exact KK.out.trans KL.out | exact K1.out | exact K2.out | exact K3.out | exact K4.out | exact K5.out | exact K6.out | exact K7.out | exact K8.out | exact K9.out | exact K10.out | exact K11.out | exact K12.out | exact K13.out | exact K14.out | exact K15.out | exact K16.out | exact K17.out | exact K18.out | exact K19.out | exact K20.out | exact K21.out | exact K22.out | exact K23.out | exact K24.out | exact (Kp.refl _)))).mono ?_
          rintro _ w9 ⟨rfl, k9⟩
          have KK := Lib.hid (KK.out.trans k9)
          clear k9
          go_wp2_with fail
          refine (OVV.out _ (HT.out.kp (by first | exact KK.out | exact KL.out | exact KK.out.trans KL.out | exact K1.out | exact K2.out | exact K3.out | exact K4.out | exact K5.out | exact K6.out | exact K7.out | exact K8.out | exact K9.out | exact K10.out | exact K11.out | exact K12.out | exact K13.out | exact K14.out | exact K15.out | exact K16.out | exact K17.out | exact K18.out | exact K19.out | exact K20.out | exact K21.out | exact K22.out | exact K23.out | exact K24.out | exact (Kp.refl _)))).mono ?_
          rintro _ w10 ⟨rfl, k10⟩
          have KK := Lib.hid (KK.out.trans k10)
          clear k10
          go_wp2_with fail
          refine (OVB.out _ (HT.out.kp (by first | exact KK.out | exact KL.out | exact KK.out.trans KL.out | exact K1.out | exact K2.out | exact K3.out | exact K4.out | exact K5.out | exact K6.out | exact K7.out | exact K8.out | exact K9.out | exact K10.out | exact K11.out | exact K12.out | exact K13.out | exact K14.out | exact K15.out | exact K16.out | exact K17.out | exact K18.out | exact K19.out | exact K20.out | exact K21.out | exact K22.out | exact K23.out | exact K24.out | exact (Kp.refl _)))).mono ?_
          rintro _ w11 ⟨rfl, k11⟩
          have KK := Lib.hid (KK.out.trans k11)
          clear k11
          go_wp2_with fail
          refine (OVV.out _ (HT.out.kp (by first | exact KK.out | exact KL.out | exact KK.out.trans KL.out | exact K1.out | exact K2.out | exact K3.out | exact K4.out | exact K5.out | exact K6.out | exact K7.out | exact K8.out | exact K9.out | exact K10.out | exact K11.out | exact K12.out | exact K13.out | exact K14.out | exact K15.out | exact K16.out | exact K17.out | exact K18.out | exact K19.out | exact K20.out | exact K21.out | exact K22.out | exact K23.out | exact K24.out | exact (Kp.refl _)))).mono ?_
          rintro _ w12 ⟨rfl, k12⟩
          have KK := Lib.hid (KK.out.trans k12)
          clear k12
          go_wp2_with fail
          go_ret
          exact ⟨rfl, KK.out⟩
      · obtain ⟨e1, e2, e3⟩ := pa_yes (K := i) (j := j) (q := q) hK (by omega) hq
        have hR : ¬ ((nd j q : Nat) : Int) = ((2 ^ i : Nat) : Int) - 1 := fun h => hr (HR.out.1 h)
        have hR2 : (((nd j q : Nat) : Int) == ((2 ^ i : Nat) : Int) - 1) = false := beq_eq_false_iff_ne.2 hR
        rw [e1, e2] at OPP
        clear e1 e2 e3 HR
        cases j with
        | zero =>
          obtain ⟨f1, f2, f3⟩ := ch_leaf (q := q) (show _ < 2 ^ 10 from hj10.2)
          have h2 := tmod2_even q
          rw [f1, f2] at OL
          rw [f1, f3] at OR
          clear f1 f2 f3 OP OS OV
          generalize ((nd 0 q : Nat) : Int) = P at *
          generalize ((2 ^ i : Nat) : Int) = N at *
          go_wp2_with fail
          refine (OL.out _ (HT.out.kp (by first | exact KK.out | exact KL.out | exact KK.out.trans KL.out | exact K1.out | exact K2.out | exact K3.out | exact K4.out | exact K5.out | exact K6.out | exact K7.out | exact K8.out | exact K9.out | exact K10.out | exact K11.out | exact K12.out | exact K13.out | exact K14.out | exact K15.out | exact K16.out | exact K17.out | exact K18.out | exact K19.out | exact K20.out | exact K21.out | exact K22.out | exact K23.out | exact K24.out | exact (Kp.refl _)))).mono ?_
          rintro _ w2 ⟨rfl, k2⟩
          have KK := Lib.hid (KK.out.trans k2)
          clear k2
          go_wp2_with fail
          refine (OR.out _ (HT.out.kp (by first | exact KK.out | exact KL.out | exact KK.out.trans KL.out | exact K1.out | exact K2.out | exact K3.out | exact K4.out | exact K5.out | exact K6.out | exact K7.out | exact K8.out | exact K9.out | exact K10.out | exact K11.out | exact K12.out | exact K13.out | exact K14.out | exact K15.out | exact K16.out | exact K17.out | exact K18.out | exact K19.out | exact K20.out | exact K21.out | exact K22.out | exact K23.out | exact K24.out | exact (Kp.refl _)))).mono ?_
          rintro _ w3 ⟨rfl, k3⟩
          have KK := Lib.hid (KK.out.trans k3)
          clear k3
          go_wp2_with fail
          refine (OPP.out _ (HT.out.kp (by first | exact KK.out | exact KL.out | exact KK.out.trans KL.out | exact K1.out | exact K2.out | exact K3.out | exact K4.out | exact K5.out | exact K6.out | exact K7.out | exact K8.out | exact K9.out | exact K10.out | exact K11.out | exact K12.out | exact K13.out | exact K14.out | exact K15.out | exact K16.out | exact K17.out | exact K18.out | exact K19.out | exact K20.out | exact K21.out | exact K22.out | exact K23.out | exact K24.out | exact (Kp.refl _)))).mono ?_
          rintro _ w4 ⟨rfl, k4⟩
          have KK := Lib.hid (KK.out.trans k4)
          clear k4
          go_wp2_with fail
          refine (OVV.out _ (HT.out.kp (by first | exact KK.out | exact KL.out | exact KK.out.trans KL.out | exact K1.out | exact K2.out | exact K3.out | exact K4.out | exact K5.out | exact K6.out | exact K7.out | exact K8.out | exact K9.out | exact K10.out | exact K11.out | exact K12.out | exact K13.out | exact K14.out | exact K15.out | exact K16.out | exact K17.out | exact K18.out | exact K19.out | exact K20.out | exact K21.out | exact K22.out | exact K23.out | exact K24.out | exact (Kp.refl _)))).mono ?_
          rintro _ w5 ⟨rfl, k5⟩
          have KK := Lib.hid (KK.out.trans k5)
          clear k5
          go_wp2_with fail
          go_ret
          exact ⟨rfl, KK.out⟩
        | succ j =>
          obtain ⟨f1, f2, f3⟩ := ch_yes (j := j) (q := q) hj10.1 hj10.2
          have h2 := tmod2_odd j q
          rw [f1, f2] at OL
          rw [f1, f3] at OR
          obtain ⟨g1, g2⟩ := kid_lt (K := i) (j := j) (q := q) hj hq
          have a1 := nd_bounds hK (j := j) (by omega) g1
          have a2 := nd_bounds hK (j := j) (by omega) g2
          have OPA := Lib.hid (fun W hTW => OP.out W _ a1 hTW)
          have OPB := Lib.hid (fun W hTW => OP.out W _ a2 hTW)
          have OSA := Lib.hid (fun W hTW => OS.out W _ a1 hTW)
          have OSB := Lib.hid (fun W hTW => OS.out W _ a2 hTW)
          have OVA := Lib.hid (fun W hTW => OV.out W _ a1 hTW)
          have OVB := Lib.hid (fun W hTW => OV.out W _ a2 hTW)
          obtain ⟨m1, m2, m3⟩ := pa_yes (K := i) (j := j) (q := 2 * q) hK (by omega) g1
          obtain ⟨l1, l2, l3⟩ := pa_yes (K := i) (j := j) (q := 2 * q + 1) hK (by omega) g2
          rw [show 2 * q / 2 = q by omega] at m2
          rw [show (2 * q + 1) / 2 = q by omega] at l2
          rw [sq_even] at m3
          rw [sq_odd] at l3
          rw [m1, m2] at OPA
          rw [l1, l2] at OPB
          rw [m1, m3] at OSA
          rw [l1, l3] at OSB
          obtain ⟨_, y1, y2⟩ := nd_small hK (j := j) (by omega) g1
          obtain ⟨_, y3, y4⟩ := nd_small hK (j := j) (by omega) g2
          rw [levV_nd y1 y2] at OVA
          rw [levV_nd y3 y4] at OVB
          have lt1 : ((nd j (2 * q) : Nat) : Int) < ((nd (j + 1) q : Nat) : Int) := by have := (nd_left j q); have := p2_pos j; omega
          have lt2 : ((nd (j + 1) q : Nat) : Int) < ((nd j (2 * q + 1) : Nat) : Int) := by have := (nd_right j q); have := p2_pos j; omega
          have lv : IntKind.i64.wrap (((j + 1 : Nat) : Int) - 1) = (j : Int) := by rw [IntWalk.i64_in _ (by omega)]; omega
          clear f1 f2 f3 OP OS OV a1 a2 g1 g2 m1 m2 m3 l1 l2 l3 y1 y2 y3 y4 HQ HB hj hq hj10
          generalize ((nd (j + 1) q : Nat) : Int) = P at *
          generalize ((nd j (2 * q) : Nat) : Int) = A at *
          generalize ((nd j (2 * q + 1) : Nat) : Int) = B at *
          generalize ((2 ^ i : Nat) : Int) = N at *
          generalize ((j + 1 : Nat) : Int) = J at *
          go_wp2_with fail
          refine (OL.out _ (HT.out.kp (by first | exact KK.out | exact KL.out | exact KK.out.trans KL.out | exact K1.out | exact K2.out | exact K3.out | exact K4.out | exact K5.out | exact K6.out | exact K7.out | exact K8.out | exact K9.out | exact K10.out | exact K11.out | exact K12.out | exact K13.out | exact K14.out | exact K15.out | exact K16.out | exact K17.out | exact K18.out | exact K19.out | exact K20.out | exact K21.out | exact K22.out | exact K23.out | exact K24.out | exact (Kp.refl _)))).mono ?_
          rintro _ w2 ⟨rfl, k2⟩
          have KK := Lib.hid (KK.out.trans k2)
          clear k2
          go_wp2_with fail
          refine (OR.out _ (HT.out.kp (by first | exact KK.out | exact KL.out | exact KK.out.trans KL.out | exact K1.out | exact K2.out | exact K3.out | exact K4.out | exact K5.out | exact K6.out | exact K7.out | exact K8.out | exact K9.out | exact K10.out | exact K11.out | exact K12.out | exact K13.out | exact K14.out | exact K15.out | exact K16.out | exact K17.out | exact K18.out | exact K19.out | exact K20.out | exact K21.out | exact K22.out | exact K23.out | exact K24.out | exact (Kp.refl _)))).mono ?_
          rintro _ w3 ⟨rfl, k3⟩
          have KK := Lib.hid (KK.out.trans k3)
          clear k3
          go_wp2_with fail
          refine (OPP.out _ (HT.out.kp (by first | exact KK.out | exact KL.out | exact KK.out.trans KL.out | exact K1.out | exact K2.out | exact K3.out | exact K4.out | exact K5.out | exact K6.out | exact K7.out | exact K8.out | exact K9.out | exact K10.out | exact K11.out | exact K12.out | exact K13.out | exact K14.out | exact K15.out | exact K16.out | exact K17.out | exact K18.out | exact K19.out | exact K20.out | exact K21.out | exact K22.out | exact K23.out | exact K24.out | exact (Kp.refl _)))).mono ?_
          rintro _ w4 ⟨rfl, k4⟩
          have KK := Lib.hid (KK.out.trans k4)
          clear k4
          go_wp2_with fail
          refine (OPA.out _ (HT.out.kp (by first | exact KK.out | exact KL.out | exact KK.out.trans KL.out | exact K1.out | exact K2.out | exact K3.out | exact K4.out | exact K5.out | exact K6.out | exact K7.out | exact K8.out | exact K9.out | exact K10.out | exact K11.out | exact K12.out | exact K13.out | exact K14.out | exact K15.out | exact K16.out | exact K17.out | exact K18.out | exact K19.out | exact K20.out | exact K21.out | exact K22.out | exact K23.out | exact K24.out | exact (Kp.refl _)))).mono ?_
          rintro _ w5 ⟨rfl, k5⟩
          have KK := Lib.hid (KK.out.trans k5)
          clear k5
          go_wp2_with fail
          refine (OPB.out _ (HT.out.kp (by first | exact KK.out | exact KL.out | exact KK.out.trans KL.out | exact K1.out | exact K2.out | exact K3.out | exact K4.out | exact K5.out | exact K6.out | exact K7.out | exact K8.out | exact K9.out | exact K10.out | exact K11.out | exact K12.out | exact K13.out | exact K14.out | exact K15.out | exact K16.out | exact K17.out | exact K18.out | exact K19.out | exact K20.out | exact K21.out | exact K22.out | exact K23.out | exact K24.out | exact (Kp.refl _)))).mono ?_
          rintro _ w6 ⟨rfl, k6⟩
          have KK := Lib.hid (KK.out.trans k6)
          clear k6
          go_wp2_with fail
          refine (OSA.out _ (HT.out.kp (by first | exact KK.out | exact KL.out | exact KK.out.trans KL.out | exact K1.out | exact K2.out | exact K3.out | exact K4.out | exact K5.out | exact K6.out | exact K7.out | exact K8.out | exact K9.out | exact K10.out | exact K11.out | exact K12.out | exact K13.out | exact K14.out | exact K15.out | exact K16.out | exact K17.out | exact K18.out | exact K19.out | exact K20.out | exact K21.out | exact K22.out | exact K23.out | exact K24.out | exact (Kp.refl _)))).mono ?_
          rintro _ w7 ⟨rfl, k7⟩
          have KK := Lib.hid (KK.out.trans k7)
          clear k7
          go_wp2_with fail
          refine (OSB.out _ (HT.out.kp (by first | exact KK.out | exact KL.out | exact KK.out.trans KL.out | exact K1.out | exact K2.out | exact K3.out | exact K4.out | exact K5.out | exact K6.out | exact K7.out | exact K8.out | exact K9.out | exact K10.out | exact K11.out | exact K12.out | exact K13.out | exact K14.out | exact K15.out | exact K16.out | exact K17.out | exact K18.out | exact K19.out | exact K20.out | exact K21.out | exact K22.out | exact K23.out | exact K24.out | exact (Kp.refl _)))).mono ?_
          rintro _ w8 ⟨rfl, k8⟩
          have KK := Lib.hid (KK.out.trans k8)
          clear k8
          go_wp2_with fail
          refine (OVA.out _ (HT.out.kp (by first | exact KK.out | exact KL.out | exact KK.out.trans KL.out | exact K1.out | exact K2.out | exact K3.out | exact K4.out | exact K5.out | exact K6.out | exact K7.out | exact K8.out | exact K9.out | exact K10.out | exact K11.out | exact K12.out | exact K13.out | exact K14.out | exact K15.out | exact K16.out | exact K17.out | exact K18.out | exact K19.out | exact K20.out | exact K21.out | exact K22.out | exact K23.out | exact K24.out | exact (Kp.refl _)))).mono ?_
          rintro _ w9 ⟨rfl, k9⟩
          have KK := Lib.hid (KK.out.trans k9)
          clear k9
          go_wp2_with fail
          refine (OVV.out _ (HT.out.kp (by first | exact KK.out | exact KL.out | exact KK.out.trans KL.out | exact K1.out | exact K2.out | exact K3.out | exact K4.out | exact K5.out | exact K6.out | exact K7.out | exact K8.out | exact K9.out | exact K10.out | exact K11.out | exact K12.out | exact K13.out | exact K14.out | exact K15.out | exact K16.out | exact K17.out | exact K18.out | exact K19.out | exact K20.out | exact K21.out | exact K22.out | exact K23.out | exact K24.out | exact (Kp.refl _)))).mono ?_
          rintro _ w10 ⟨rfl, k10⟩
          have KK := Lib.hid (KK.out.trans k10)
          clear k10
          go_wp2_with fail
          refine (OVB.out _ (HT.out.kp (by first | exact KK.out | exact KL.out | exact KK.out.trans KL.out | exact K1.out | exact K2.out | exact K3.out | exact K4.out | exact K5.out | exact K6.out | exact K7.out | exact K8.out | exact K9.out | exact K10.out | exact K11.out | exact K12.out | exact K13.out | exact K14.out | exact K15.out | exact K16.out | exact K17.out | exact K18.out | exact K19.out | exact K20.out | exact K21.out | exact K22.out | exact K23.out | exact K24.out | exact (Kp.refl _)))).mono ?_
          rintro _ w11 ⟨rfl, k11⟩
          have KK := Lib.hid (KK.out.trans k11)
          clear k11
          go_wp2_with fail
          refine (OVV.out _ (HT.out.kp (by first | exact KK.out | exact KL.out | exact KK.out.trans KL.out | exact K1.out | exact K2.out | exact K3.out | exact K4.out | exact K5.out | exact K6.out | exact K7.out | exact K8.out | exact K9.out | exact K10.out | exact K11.out | exact K12.out | exact K13.out | exact K14.out | exact K15.out | exact K16.out | exact K17.out | exact K18.out | exact K19.out | exact K20.out | exact K21.out | exact K22.out | exact K23.out | exact K24.out | exact (Kp.refl _)))).mono ?_
          rintro _ w12 ⟨rfl, k12⟩
          have KK := Lib.hid (KK.out.trans k12)
          clear k12
          go_wp2_with fail
          go_ret
          exact ⟨rfl, KK.out⟩
end Go.Proofs.YtcomgbneacbncaaDoor

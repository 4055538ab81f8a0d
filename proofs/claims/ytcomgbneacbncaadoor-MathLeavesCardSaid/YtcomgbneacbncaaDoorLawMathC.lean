/- MathTwice (written by gen/math2.py). -/
import Derived.Test.YtcomgbneacbncaaDoorMathOwn
import Derived.Test.YtcomgbneacbncaaDoorShownMath
set_option linter.unusedVariables false
set_option linter.unusedSimpArgs false
namespace Go.Proofs.YtcomgbneacbncaaDoor
open Go.RowKit

set_option maxRecDepth 100000 in
set_option maxHeartbeats 3000000 in
theorem mathTwice_walk (x k : Nat) (w : World) (hx : (x : Int) ≤ 65535) (hk : (k : Int) ≤ 255) (hT : Tab w) :
    Calls Tryd.prog 9 #[.int .u16 (x : Int), .int .u8 (k : Int)] w (Yes w) := by
  have HT := Lib.hid hT
  clear hT
  obtain ⟨K, hKe⟩ : ∃ K, k % 10 = K := ⟨_, rfl⟩
  have hK : K ≤ 9 := by omega
  have c1 : IntKind.i64.wrap (k : Int) = (k : Int) := IntWalk.i64_in _ (by omega)
  have c2 : (k : Int).tmod 10 = (K : Int) := by rw [Int.tmod_eq_emod_of_nonneg (by omega)]; omega
  have c3 : IntKind.i64.wrap (K : Int) = (K : Int) := IntWalk.i64_in _ (by omega)
  have HP : Hid (∀ i, i ≤ 9 → 1 ≤ ((2 ^ i : Nat) : Int) ∧ ((2 ^ i : Nat) : Int) ≤ 1024 ∧ 2 * ((2 ^ i : Nat) : Int) = ((2 ^ (i + 1) : Nat) : Int)) := fun i hi => by
    have h1 : (2 : Nat) ^ i ≤ 2 ^ 10 := Nat.pow_le_pow_right (by omega) (by omega)
    have h2 := p2_pos i
    have h3 := p2_succ i
    generalize 2 ^ (i + 1) = B at *
    generalize 2 ^ i = A at *
    omega
  have hK10 : K ≤ 10 := by omega
  have hb := p2_le hK10
  have hb2 := p2_pos K
  have hb3 := p2_succ K
  obtain ⟨p, hp⟩ : ∃ p, x % (2 ^ (K + 1) - 1) = p := ⟨_, rfl⟩
  have hpl : p < 2 ^ (K + 1) - 1 := by rw [← hp]; exact Nat.mod_lt _ (by omega)
  obtain ⟨j, q, rfl, hj, hq⟩ := nd_of K p hpl
  have hz := (nd_small hK10 hj hq).1
  have d0 : IntKind.i64.wrap (x : Int) = (x : Int) := IntWalk.i64_in _ (by omega)
  have d1 : IntKind.i64.wrap (2 * ((2 ^ K : Nat) : Int)) = 2 * ((2 ^ K : Nat) : Int) := IntWalk.i64_in _ (by omega)
  have d2 : IntKind.i64.wrap (2 * ((2 ^ K : Nat) : Int) - 1) = 2 * ((2 ^ K : Nat) : Int) - 1 := IntWalk.i64_in _ (by omega)
  have d3 : (x : Int).tmod (2 * ((2 ^ K : Nat) : Int) - 1) = ((nd j q : Nat) : Int) := by
    rw [Int.tmod_eq_emod_of_nonneg (by omega), ← hp]
    have e : 2 * ((2 ^ K : Nat) : Int) - 1 = ((2 ^ (K + 1) - 1 : Nat) : Int) := by omega
    rw [e]
    exact (Int.natCast_emod _ _).symm
  have d4 : IntKind.i64.wrap ((nd j q : Nat) : Int) = ((nd j q : Nat) : Int) := IntWalk.i64_in _ (by omega)
  have d6 : ¬ (2 * ((2 ^ K : Nat) : Int) - 1) = 0 := by omega
  have d7 : IntKind.i64.wrap (3 * ((2 ^ K : Nat) : Int)) = 3 * ((2 ^ K : Nat) : Int) := IntWalk.i64_in _ (by omega)
  have d8 : IntKind.i64.wrap (3 * ((2 ^ K : Nat) : Int) - 1) = 3 * ((2 ^ K : Nat) : Int) - 1 := IntWalk.i64_in _ (by omega)
  have hq2 : q < 2 ^ (K + 1 - j) := Nat.lt_of_lt_of_le hq (Nat.pow_le_pow_right (by omega) (by omega))
  have hN2 : 2 * ((2 ^ K : Nat) : Int) = ((2 ^ (K + 1) : Nat) : Int) := by omega
  have t1 := pathN_twice K j q hj hq
  have t2 := copathN_twice K j q hj hq
  obtain ⟨r1, r2, r3⟩ := ar_yes (K := K) hK10 hj hq
  obtain ⟨r4, r5, r6⟩ := ar_yes (K := K + 1) (by omega) (show j ≤ K + 1 by omega) hq2
  rw [t1] at r5
  rw [t2] at r6
  rw [← hN2] at r4 r5 r6
  have OP : Hid (∀ W, Tab W → Calls Tryd.prog 23 #[.int .i64 ((nd j q : Nat) : Int), .int .i64 ((2 ^ K : Nat) : Int)] W fun e w' => (∃ v, e = .returned (.tuple #[v, .int .i64 0]) ∧ RN w' v (pathN K j q)) ∧ Kp W w') := fun W hTW => by
    have := mathPath_any ((nd j q : Nat) : Int) ((2 ^ K : Nat) : Int) W (by omega) (by omega) hTW
    rwa [r1, r2] at this
  have OQ : Hid (∀ W, Tab W → Calls Tryd.prog 23 #[.int .i64 ((nd j q : Nat) : Int), .int .i64 (2 * ((2 ^ K : Nat) : Int))] W fun e w' => (∃ v, e = .returned (.tuple #[v, .int .i64 0]) ∧ RN w' v (pathN K j q ++ [2 ^ (K + 1) - 1])) ∧ Kp W w') := fun W hTW => by
    have := mathPath_any ((nd j q : Nat) : Int) (2 * ((2 ^ K : Nat) : Int)) W (by omega) (by omega) hTW
    rwa [r4, r5] at this
  have OC : Hid (∀ W, Tab W → Calls Tryd.prog 25 #[.int .i64 ((nd j q : Nat) : Int), .int .i64 ((2 ^ K : Nat) : Int)] W fun e w' => (∃ v, e = .returned (.tuple #[v, .int .i64 0]) ∧ RN w' v (copathN K j q)) ∧ Kp W w') := fun W hTW => by
    have := mathCopath_any ((nd j q : Nat) : Int) ((2 ^ K : Nat) : Int) W (by omega) (by omega) hTW
    rwa [r1, r3] at this
  have OD : Hid (∀ W, Tab W → Calls Tryd.prog 25 #[.int .i64 ((nd j q : Nat) : Int), .int .i64 (2 * ((2 ^ K : Nat) : Int))] W fun e w' => (∃ v, e = .returned (.tuple #[v, .int .i64 0]) ∧ RN w' v (copathN K j q ++ [3 * 2 ^ K - 1])) ∧ Kp W w') := fun W hTW => by
    have := mathCopath_any ((nd j q : Nat) : Int) (2 * ((2 ^ K : Nat) : Int)) W (by omega) (by omega) hTW
    rwa [r4, r6] at this
  have L1 := pathN_length K j q
  have L2 := copathN_length K j q
  generalize pathN K j q = LP at *
  generalize copathN K j q = LC at *
  obtain ⟨m, hm⟩ : ∃ m, K - j = m := ⟨_, rfl⟩
  rw [hm] at L1 L2
  have E1 : ((2 ^ (K + 1) - 1 : Nat) : Int) = 2 * ((2 ^ K : Nat) : Int) - 1 := by omega
  have E2 : ((3 * 2 ^ K - 1 : Nat) : Int) = 3 * ((2 ^ K : Nat) : Int) - 1 := by omega
  generalize 2 ^ (K + 1) - 1 = Z1 at *
  generalize 3 * 2 ^ K - 1 = Z2 at *
  have HL := Lib.hid (And.intro L1 (And.intro L2 (And.intro E1 E2)))
  have hm10 : (m : Int) ≤ 10 := by omega
  have x1 : IntKind.i64.wrap ((m : Int) + 1) = (m : Int) + 1 := IntWalk.i64_in _ (by omega)
  have x2 : ((m + 1 : Nat) : Int) = (m : Int) + 1 := by omega
  clear hp hpl hb hb2 hb3 hq hx hKe hz hj hq2 hN2 t1 t2 r1 r2 r3 r4 r5 r6 L1 L2 hm E1 E2 hK10
  go_enter Tryd.func9, Tryd.ntmps9
  go_wp2_with fail
  refine (shownMath_any _ HT.out).mono ?_
  rintro e w1 ⟨rfl, k1⟩
  have K1 := Lib.hid k1
  clear k1
  go_wp2_with fail
  go_loopw [6, 7] (fun n y wr => ∃ i : Nat, i ≤ K ∧ n = .int .i64 ((2 ^ i : Nat) : Int) ∧ y = .int .i64 (i : Int) ∧ Kp w wr) (fun _ y _ => (K - (intOf y).toNat))
  case atStart => exact ⟨0, Nat.zero_le _, rfl, rfl, K1.out⟩
  case round =>
    obtain ⟨i, hi, rfl, rfl, hkp⟩ := hrel
    by_cases hlt : i < K
    · obtain ⟨n1, n2, n3⟩ := HP.out i (by omega)
      have N3 := Lib.hid n3
      have KK := Lib.hid hkp
      generalize ((2 ^ i : Nat) : Int) = A at *
      have hw : IntKind.i64.wrap (2 * A) = 2 * A := IntWalk.i64_in _ (by omega)
      have hw2 : IntKind.i64.wrap ((i : Int) + 1) = (i : Int) + 1 := IntWalk.i64_in _ (by omega)
      have hlI : (i : Int) < (K : Int) := by omega
      clear HP n3 hkp OP OQ OC OD HL d0 d1 d2 d3 d4 d6 d7 d8 x1 x2
      go_wp2_with fail
      go_roundw
      case rel => exact ⟨i + 1, by omega, by rw [← N3.out], by go_num, KK.out⟩
      case measure => simp [intOf]; omega
    · obtain rfl : i = K := by omega
      have KK := Lib.hid hkp
      clear hkp K1
      clear HP
      obtain ⟨l1, l2, l3, l4⟩ := HL.out
      have l5 : (LP ++ [Z1]).length = m + 1 := by rw [List.length_append, l1]; rfl
      have l6 : (LC ++ [Z2]).length = m + 1 := by rw [List.length_append, l2]; rfl
      have g1 : (LP ++ [Z1]).take m = LP := by rw [List.take_append_of_le_length (by omega), List.take_of_length_le (by omega)]
      have g2 : (LC ++ [Z2]).take m = LC := by rw [List.take_append_of_le_length (by omega), List.take_of_length_le (by omega)]
      have g3 : (LP ++ [Z1]).getD m 0 = Z1 := by rw [List.getD_eq_getElem?_getD, List.getElem?_append_right (by omega), l1]; simp
      have g4 : (LC ++ [Z2]).getD m 0 = Z2 := by rw [List.getD_eq_getElem?_getD, List.getElem?_append_right (by omega), l2]; simp
      generalize ((2 ^ i : Nat) : Int) = N at *
      generalize ((nd j q : Nat) : Int) = P at *
      have G := Lib.hid (And.intro g1 (And.intro g2 (And.intro g3 (And.intro g4 (And.intro l3 l4)))))
      have G2 := Lib.hid (And.intro l1 (And.intro l2 (And.intro l5 l6)))
      clear g1 g2 g3 g4 l1 l2 l3 l4 l5 l6 HL
      go_wp2_with fail
      refine (OP.out _ (HT.out.kp (by first | exact KK.out | exact KL.out | exact KK.out.trans KL.out | exact K1.out | exact K2.out | exact K3.out | exact K4.out | exact K5.out | exact K6.out | exact K7.out | exact K8.out | exact K9.out | exact K10.out | exact K11.out | exact K12.out | exact K13.out | exact K14.out | exact K15.out | exact K16.out | exact K17.out | exact K18.out | exact K19.out | exact K20.out | exact K21.out | exact K22.out | exact K23.out | exact K24.out | exact (Kp.refl _)))).mono ?_
      rintro _ w2 ⟨⟨v, rfl, s1⟩, k2⟩
      obtain ⟨ap, cp, rfl, pp, _⟩ := s1.shape
      rw [G2.out.1] at s1 pp ⊢
      have Qp := Lib.hid s1
      have KK := Lib.hid (KK.out.trans k2)
      clear k2 s1
      go_wp2_with fail
      refine (OQ.out _ (HT.out.kp (by first | exact KK.out | exact KL.out | exact KK.out.trans KL.out | exact K1.out | exact K2.out | exact K3.out | exact K4.out | exact K5.out | exact K6.out | exact K7.out | exact K8.out | exact K9.out | exact K10.out | exact K11.out | exact K12.out | exact K13.out | exact K14.out | exact K15.out | exact K16.out | exact K17.out | exact K18.out | exact K19.out | exact K20.out | exact K21.out | exact K22.out | exact K23.out | exact K24.out | exact (Kp.refl _)))).mono ?_
      rintro _ w3 ⟨⟨v, rfl, s1⟩, k3⟩
      obtain ⟨aq, cq, rfl, pq, _⟩ := s1.shape
      rw [G2.out.2.2.1] at s1 pq ⊢
      have Qp := Lib.hid (Qp.out.kp k3)
      have Qq := Lib.hid s1
      have KK := Lib.hid (KK.out.trans k3)
      clear k3 s1
      go_wp2_with fail
      refine (OC.out _ (HT.out.kp (by first | exact KK.out | exact KL.out | exact KK.out.trans KL.out | exact K1.out | exact K2.out | exact K3.out | exact K4.out | exact K5.out | exact K6.out | exact K7.out | exact K8.out | exact K9.out | exact K10.out | exact K11.out | exact K12.out | exact K13.out | exact K14.out | exact K15.out | exact K16.out | exact K17.out | exact K18.out | exact K19.out | exact K20.out | exact K21.out | exact K22.out | exact K23.out | exact K24.out | exact (Kp.refl _)))).mono ?_
      rintro _ w4 ⟨⟨v, rfl, s1⟩, k4⟩
      obtain ⟨ac, cc, rfl, pc, _⟩ := s1.shape
      rw [G2.out.2.1] at s1 pc ⊢
      have Qp := Lib.hid (Qp.out.kp k4)
      have Qq := Lib.hid (Qq.out.kp k4)
      have Qc := Lib.hid s1
      have KK := Lib.hid (KK.out.trans k4)
      clear k4 s1
      go_wp2_with fail
      refine (OD.out _ (HT.out.kp (by first | exact KK.out | exact KL.out | exact KK.out.trans KL.out | exact K1.out | exact K2.out | exact K3.out | exact K4.out | exact K5.out | exact K6.out | exact K7.out | exact K8.out | exact K9.out | exact K10.out | exact K11.out | exact K12.out | exact K13.out | exact K14.out | exact K15.out | exact K16.out | exact K17.out | exact K18.out | exact K19.out | exact K20.out | exact K21.out | exact K22.out | exact K23.out | exact K24.out | exact (Kp.refl _)))).mono ?_
      rintro _ w5 ⟨⟨v, rfl, s1⟩, k5⟩
      obtain ⟨ad, cd, rfl, pd, _⟩ := s1.shape
      rw [G2.out.2.2.2] at s1 pd ⊢
      have Qp := Lib.hid (Qp.out.kp k5)
      have Qq := Lib.hid (Qq.out.kp k5)
      have Qc := Lib.hid (Qc.out.kp k5)
      have Qd := Lib.hid s1
      have KK := Lib.hid (KK.out.trans k5)
      clear k5 s1
      have y1 : (m : Int) ≤ (cq : Int) := by omega
      have y2 : (m : Int) ≤ (cd : Int) := by omega
      have y3 : (m : Int) < (m : Int) + 1 := by omega
      have y4 : m < m + 1 := by omega
      have X1 := Lib.hid (Qq.out.pre m (by omega))
      have X2 := Lib.hid (Qd.out.pre m (by omega))
      rw [G.out.1] at X1
      rw [G.out.2.1] at X2
      obtain ⟨gq, oq, rfl, _, hcq⟩ := Qq.out.at m (by omega)
      obtain ⟨gd, od, rfl, _, hcd⟩ := Qd.out.at m (by omega)
      have u1 := hcq m (by omega)
      have u2 := hcd m (by omega)
      rw [G.out.2.2.1, G.out.2.2.2.2.1] at u1
      rw [G.out.2.2.2.1, G.out.2.2.2.2.2] at u2
      have U := Lib.hid (And.intro u1 u2)
      clear hcq hcd u1 u2 OP OQ OC OD
      go_wp2_with fail
      refine (ints_yes _ _ _ _ X1.out Qp.out).mono ?_
      rintro _ w6 ⟨rfl, k6⟩
      have u1 := k6.cell U.out.1
      have X2 := Lib.hid (X2.out.kp k6)
      have Qc := Lib.hid (Qc.out.kp k6)
      have U2 := Lib.hid (k6.cell U.out.2)
      have KK := Lib.hid (KK.out.trans k6)
      clear k6 U
      go_wp2_with fail
      refine (ints_yes _ _ _ _ X2.out Qc.out).mono ?_
      rintro _ w7 ⟨rfl, k7⟩
      have u2 := k7.cell U2.out
      have KK := Lib.hid (KK.out.trans k7)
      clear k7 u1
      go_wp2_with fail
      go_ret
      exact ⟨rfl, KK.out⟩
end Go.Proofs.YtcomgbneacbncaaDoor

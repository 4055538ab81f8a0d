/- MathWays (written by gen/math2.py). -/
import Derived.Test.YtcomgbneacbncaaDoorMathOwn
import Derived.Test.YtcomgbneacbncaaDoorShownMath
set_option linter.unusedVariables false
set_option linter.unusedSimpArgs false
namespace Go.Proofs.YtcomgbneacbncaaDoor
open Go.RowKit

/-- One step up: as many leaves more, around those below. -/
theorem ways_step (P Q : Nat) (hP : 1 ≤ P) : 2 * P * (Q / 2) ≤ P * Q ∧ P * Q + P - 1 ≤ 2 * P * (Q / 2) + 2 * P - 1 := by
  have e : 2 * P * (Q / 2) = P * (2 * (Q / 2)) := by rw [Nat.mul_comm 2 P, Nat.mul_assoc]
  rw [e]
  have h1 : P * (2 * (Q / 2)) ≤ P * Q := Nat.mul_le_mul_left _ (by omega)
  have h2 : P * Q ≤ P * (2 * (Q / 2) + 1) := Nat.mul_le_mul_left _ (by omega)
  rw [Nat.mul_add, Nat.mul_one] at h2
  omega
structure Ways (K j q : Nat) (f g : Nat → Nat) : Prop where
  node : ∀ i, i ≤ K - j → 0 ≤ ((f i : Nat) : Int) ∧ ((f i : Nat) : Int) ≤ 2046
  up : ∀ i, i < K - j → paE ((f i : Nat) : Int) ((2 ^ K : Nat) : Int) = 0 ∧ paV ((f i : Nat) : Int) ((2 ^ K : Nat) : Int) = ((f (i + 1) : Nat) : Int) ∧ siV ((f i : Nat) : Int) ((2 ^ K : Nat) : Int) = ((g i : Nat) : Int)
  path : ∀ i, i < K - j → (pathN K j q).getD i 0 = f (i + 1) ∧ (copathN K j q).getD i 0 = g i
  wide : ∀ i, i ≤ K - j → 0 ≤ loV ((f i : Nat) : Int) ∧ loV ((f i : Nat) : Int) ≤ 1024 ∧ 0 ≤ hiV ((f i : Nat) : Int) ∧ hiV ((f i : Nat) : Int) ≤ 1024
  leaves : ∀ i, i < K - j → hiV ((f (i + 1) : Nat) : Int) - loV ((f (i + 1) : Nat) : Int) + 1 = 2 * (hiV ((f i : Nat) : Int) - loV ((f i : Nat) : Int) + 1) ∧ loV ((f (i + 1) : Nat) : Int) ≤ loV ((f i : Nat) : Int) ∧ hiV ((f i : Nat) : Int) ≤ hiV ((f (i + 1) : Nat) : Int)
  first : f 0 = nd j q
  last : ((f (K - j) : Nat) : Int) = ((2 ^ K : Nat) : Int) - 1 ∧ loV ((f (K - j) : Nat) : Int) = 0 ∧ hiV ((f (K - j) : Nat) : Int) = ((2 ^ K : Nat) : Int) - 1
theorem ways {K j q : Nat} (hK : K ≤ 10) (hj : j ≤ K) (hq : q < 2 ^ (K - j)) (f g : Nat → Nat) (hf : f = fun i => nd (j + i) (q / 2 ^ i)) (hg : g = fun i => nd (j + i) (sq (q / 2 ^ i))) : Ways K j q f g := by
  subst hf hg
  obtain ⟨w1, w2, w3⟩ := way hK hj hq
  have hlv : ∀ i, i ≤ K - j → loV ((nd (j + i) (q / 2 ^ i) : Nat) : Int) = ((2 ^ (j + i) * (q / 2 ^ i) : Nat) : Int) ∧ hiV ((nd (j + i) (q / 2 ^ i) : Nat) : Int) = ((2 ^ (j + i) * (q / 2 ^ i) + 2 ^ (j + i) - 1 : Nat) : Int) := fun i hi => by
    obtain ⟨_, h2, h3⟩ := nd_small hK (j := j + i) (by omega) (quot_lt hq hi)
    exact lv_nd h2 h3
  have hbd : ∀ i, i ≤ K - j → 2 ^ (j + i) * (q / 2 ^ i) + 2 ^ (j + i) ≤ 1024 := fun i hi => by
    have h1 := quot_lt hq hi
    have h2 : 2 ^ (j + i) * (q / 2 ^ i + 1) ≤ 2 ^ (j + i) * 2 ^ (K - (j + i)) := Nat.mul_le_mul_left _ h1
    rw [← Nat.pow_add, show j + i + (K - (j + i)) = K by omega, Nat.mul_add, Nat.mul_one] at h2
    have := p2_le hK
    omega
  refine ⟨fun i hi => ⟨(w1 i hi).1, (w1 i hi).2.1⟩, fun i hi => w3 i hi, fun i hi => ⟨?_, ?_⟩, fun i hi => ?_, fun i hi => ?_, by simp, ?_⟩
  · rw [List.getD_eq_getElem?_getD, pathN_get K j q i hi, show j + 1 + i = j + (i + 1) by omega]; rfl
  · rw [List.getD_eq_getElem?_getD, copathN_get K j q i hi]; rfl
  · obtain ⟨e1, e2⟩ := hlv i hi
    have h1 := hbd i hi
    have h2 := p2_pos (j + i)
    rw [e1, e2]
    omega
  · obtain ⟨e1, e2⟩ := hlv i (by omega)
    obtain ⟨e3, e4⟩ := hlv (i + 1) (by omega)
    rw [e1, e2, e3, e4, quot_succ, show j + (i + 1) = (j + i) + 1 by omega, p2_succ]
    have h2 := p2_pos (j + i)
    have h3 := ways_step (2 ^ (j + i)) (q / 2 ^ i) h2
    generalize 2 ^ (j + i) * (q / 2 ^ i) = X at *
    generalize 2 * 2 ^ (j + i) * (q / 2 ^ i / 2) = Y at *
    generalize 2 ^ (j + i) = W at *
    omega
  · have h0 : q / 2 ^ (K - j) = 0 := Nat.div_eq_of_lt hq
    obtain ⟨e1, e2⟩ := hlv (K - j) (Nat.le_refl _)
    refine ⟨(w2 (K - j) (Nat.le_refl _)).2 rfl, ?_, ?_⟩
    · rw [e1, h0]
      simp
    · rw [e2, h0, show j + (K - j) = K by omega, Nat.mul_zero, Nat.zero_add]
      have := p2_pos K
      omega

set_option maxRecDepth 100000 in
set_option maxHeartbeats 3000000 in
theorem mathWays_walk (x k : Nat) (w : World) (hx : (x : Int) ≤ 65535) (hk : (k : Int) ≤ 255) (hT : Tab w) :
    Calls Tryd.prog 6 #[.int .u16 (x : Int), .int .u8 (k : Int)] w (Yes w) := by
  have HT := Lib.hid hT
  clear hT
  obtain ⟨K, hKe⟩ : ∃ K, k % 11 = K := ⟨_, rfl⟩
  have hK : K ≤ 10 := by omega
  have c1 : IntKind.i64.wrap (k : Int) = (k : Int) := IntWalk.i64_in _ (by omega)
  have c2 : (k : Int).tmod 11 = (K : Int) := by rw [Int.tmod_eq_emod_of_nonneg (by omega)]; omega
  have c3 : IntKind.i64.wrap (K : Int) = (K : Int) := IntWalk.i64_in _ (by omega)
  have HP : Hid (∀ i, i ≤ 10 → 1 ≤ ((2 ^ i : Nat) : Int) ∧ ((2 ^ i : Nat) : Int) ≤ 1024 ∧ 2 * ((2 ^ i : Nat) : Int) = ((2 ^ (i + 1) : Nat) : Int)) := fun i hi => by
    have h1 : (2 : Nat) ^ i ≤ 2 ^ 10 := Nat.pow_le_pow_right (by omega) (by omega)
    have h2 := p2_pos i
    have h3 := p2_succ i
    generalize 2 ^ (i + 1) = B at *
    generalize 2 ^ i = A at *
    omega
  have hb := p2_le hK
  have hb2 := p2_pos K
  have hb3 := p2_succ K
  obtain ⟨p, hp⟩ : ∃ p, x % (2 ^ (K + 1) - 1) = p := ⟨_, rfl⟩
  have hpl : p < 2 ^ (K + 1) - 1 := by rw [← hp]; exact Nat.mod_lt _ (by omega)
  obtain ⟨j, q, rfl, hj, hq⟩ := nd_of K p hpl
  obtain ⟨hz, hj10, hq10⟩ := nd_small hK hj hq
  have d0 : IntKind.i64.wrap (x : Int) = (x : Int) := IntWalk.i64_in _ (by omega)
  have d1 : IntKind.i64.wrap (2 * ((2 ^ K : Nat) : Int)) = 2 * ((2 ^ K : Nat) : Int) := IntWalk.i64_in _ (by omega)
  have d2 : IntKind.i64.wrap (2 * ((2 ^ K : Nat) : Int) - 1) = 2 * ((2 ^ K : Nat) : Int) - 1 := IntWalk.i64_in _ (by omega)
  have d3 : (x : Int).tmod (2 * ((2 ^ K : Nat) : Int) - 1) = ((nd j q : Nat) : Int) := by
    rw [Int.tmod_eq_emod_of_nonneg (by omega), ← hp]
    have e : 2 * ((2 ^ K : Nat) : Int) - 1 = ((2 ^ (K + 1) - 1 : Nat) : Int) := by omega
    rw [e]
    exact (Int.natCast_emod _ _).symm
  have d4 : IntKind.i64.wrap ((nd j q : Nat) : Int) = ((nd j q : Nat) : Int) := IntWalk.i64_in _ (by omega)
  have d5 : IntKind.i64.wrap (((2 ^ K : Nat) : Int) - 1) = ((2 ^ K : Nat) : Int) - 1 := IntWalk.i64_in _ (by omega)
  have d6 : ¬ (2 * ((2 ^ K : Nat) : Int) - 1) = 0 := by omega
  obtain ⟨r1, r2, r3⟩ := ar_yes hK hj hq
  have OP : Hid (∀ W, Tab W → Calls Tryd.prog 23 #[.int .i64 ((nd j q : Nat) : Int), .int .i64 ((2 ^ K : Nat) : Int)] W fun e w' => (∃ v, e = .returned (.tuple #[v, .int .i64 0]) ∧ RN w' v (pathN K j q)) ∧ Kp W w') := fun W hTW => by
    have := mathPath_any ((nd j q : Nat) : Int) ((2 ^ K : Nat) : Int) W (by omega) (by omega) hTW
    rwa [r1, r2] at this
  have OC : Hid (∀ W, Tab W → Calls Tryd.prog 25 #[.int .i64 ((nd j q : Nat) : Int), .int .i64 ((2 ^ K : Nat) : Int)] W fun e w' => (∃ v, e = .returned (.tuple #[v, .int .i64 0]) ∧ RN w' v (copathN K j q)) ∧ Kp W w') := fun W hTW => by
    have := mathCopath_any ((nd j q : Nat) : Int) ((2 ^ K : Nat) : Int) W (by omega) (by omega) hTW
    rwa [r1, r3] at this
  have OLY : Hid (∀ W, Tab W → Calls Tryd.prog 17 #[.int .i64 ((nd j q : Nat) : Int)] W fun e w' => e = .returned (.int .i64 (j : Int)) ∧ Kp W w') := fun W hTW => by
    have := mathLevel_any ((nd j q : Nat) : Int) W (by omega) hTW
    rwa [levV_nd hj10 hq10] at this
  have hrt : ((2 ^ K : Nat) : Int) - 1 = ((nd K 0 : Nat) : Int) := by have := nd_root K; omega
  have OLR : Hid (∀ W, Tab W → Calls Tryd.prog 17 #[.int .i64 (((2 ^ K : Nat) : Int) - 1)] W fun e w' => e = .returned (.int .i64 (K : Int)) ∧ Kp W w') := fun W hTW => by
    have := mathLevel_any (((2 ^ K : Nat) : Int) - 1) W (by omega) hTW
    rwa [hrt, levV_nd hK (p2_pos _), ← hrt] at this
  obtain ⟨f, hf⟩ : ∃ f : Nat → Nat, f = fun i => nd (j + i) (q / 2 ^ i) := ⟨_, rfl⟩
  obtain ⟨g, hg⟩ : ∃ g : Nat → Nat, g = fun i => nd (j + i) (sq (q / 2 ^ i)) := ⟨_, rfl⟩
  have WW := ways hK hj hq f g hf hg
  have OA : Hid (∀ W i, i < K - j → Tab W → Calls Tryd.prog 19 #[.int .i64 ((f i : Nat) : Int), .int .i64 ((2 ^ K : Nat) : Int)] W fun e w' => e = .returned (.tuple #[.int .i64 ((f (i + 1) : Nat) : Int), .int .i64 0]) ∧ Kp W w') := fun W i hi hTW => by
    have := mathParent_any ((f i : Nat) : Int) ((2 ^ K : Nat) : Int) W (by have := WW.node i (by omega); omega) (by omega) hTW
    rwa [(WW.up i hi).1, (WW.up i hi).2.1] at this
  have OB : Hid (∀ W i, i < K - j → Tab W → Calls Tryd.prog 21 #[.int .i64 ((f i : Nat) : Int), .int .i64 ((2 ^ K : Nat) : Int)] W fun e w' => e = .returned (.tuple #[.int .i64 ((g i : Nat) : Int), .int .i64 0]) ∧ Kp W w') := fun W i hi hTW => by
    have := mathSibling_any ((f i : Nat) : Int) ((2 ^ K : Nat) : Int) W (by have := WW.node i (by omega); omega) (by omega) hTW
    rwa [(WW.up i hi).1, (WW.up i hi).2.2] at this
  have OV : Hid (∀ W i, i ≤ K - j → Tab W → Calls Tryd.prog 29 #[.int .i64 ((f i : Nat) : Int)] W fun e w' => e = .returned (.tuple #[.int .i64 (loV ((f i : Nat) : Int)), .int .i64 (hiV ((f i : Nat) : Int))]) ∧ Kp W w') := fun W i hi hTW => mathLeaves_any _ W (by have := WW.node i hi; omega) hTW
  have F0 := WW.first
  rw [← F0] at OP OC OLY d3 d4
  have LP1 := pathN_length K j q
  have LC1 := copathN_length K j q
  have HPT := Lib.hid WW.path
  have HWD := Lib.hid WW.wide
  have HLV := Lib.hid WW.leaves
  have HLA := Lib.hid WW.last
  generalize pathN K j q = LP at *
  generalize copathN K j q = LC at *
  obtain ⟨m, hm⟩ : ∃ m, K - j = m := ⟨_, rfl⟩
  have hkj : IntKind.i64.wrap ((K : Int) - (j : Int)) = (m : Int) := by rw [IntWalk.i64_in _ (by omega)]; omega
  rw [hm] at LP1 LC1 OA OB OV HPT HWD HLV HLA
  have hm10 : m ≤ 10 := by omega
  have HLN := Lib.hid (And.intro LP1 LC1)
  clear hp hpl hb hb2 hb3 hq hx hKe hz hj hj10 hq10 r1 r2 r3 hrt hf hg WW F0 LP1 LC1 hm
  go_enter Tryd.func6, Tryd.ntmps6
  go_wp2_with fail
  refine (shownMath_any _ HT.out).mono ?_
  rintro e w1 ⟨rfl, k1⟩
  have K1 := Lib.hid k1
  clear k1
  go_wp2_with fail
  go_loopw [6, 7] (fun n y wr => ∃ i : Nat, i ≤ K ∧ n = .int .i64 ((2 ^ i : Nat) : Int) ∧ y = .int .i64 (i : Int) ∧ Kp w wr) (fun _ y _ => (K - (intOf y).toNat))
  case atStart => exact ⟨0, Nat.zero_le _, rfl, rfl, K1.out⟩
  case round =>
    obtain ⟨i, hi, rfl, rfl, hkp⟩ := hrel
    by_cases hlt : i < K
    · obtain ⟨n1, n2, n3⟩ := HP.out i (by omega)
      have N3 := Lib.hid n3
      have KK := Lib.hid hkp
      generalize ((2 ^ i : Nat) : Int) = A at *
      have hw : IntKind.i64.wrap (2 * A) = 2 * A := IntWalk.i64_in _ (by omega)
      have hw2 : IntKind.i64.wrap ((i : Int) + 1) = (i : Int) + 1 := IntWalk.i64_in _ (by omega)
      have hlI : (i : Int) < (K : Int) := by omega
      clear HP n3 hkp OP OC OLY OLR OA OB OV HPT HWD HLV HLA HLN d0 d1 d2 d3 d4 d5 d6 hkj
      go_wp2_with fail
      go_roundw
      case rel => exact ⟨i + 1, by omega, by rw [← N3.out], by go_num, KK.out⟩
      case measure => simp [intOf]; omega
    · obtain rfl : i = K := by omega
      have KK := Lib.hid hkp
      clear hkp K1
      clear HP
      generalize ((2 ^ i : Nat) : Int) = N at *
      go_wp2_with fail
      refine (OP.out _ (HT.out.kp (by first | exact KK.out | exact KL.out | exact KK.out.trans KL.out | exact K1.out | exact K2.out | exact K3.out | exact K4.out | exact K5.out | exact K6.out | exact K7.out | exact K8.out | exact K9.out | exact K10.out | exact K11.out | exact K12.out | exact K13.out | exact K14.out | exact K15.out | exact K16.out | exact K17.out | exact K18.out | exact K19.out | exact K20.out | exact K21.out | exact K22.out | exact K23.out | exact K24.out | exact (Kp.refl _)))).mono ?_
      rintro _ w2 ⟨⟨v, rfl, s1⟩, k2⟩
      obtain ⟨ap, cp, rfl, pp, _⟩ := s1.shape
      rw [HLN.out.1] at s1 pp ⊢
      have Qp := Lib.hid s1
      have KK := Lib.hid (KK.out.trans k2)
      clear k2 s1
      go_wp2_with fail
      refine (OC.out _ (HT.out.kp (by first | exact KK.out | exact KL.out | exact KK.out.trans KL.out | exact K1.out | exact K2.out | exact K3.out | exact K4.out | exact K5.out | exact K6.out | exact K7.out | exact K8.out | exact K9.out | exact K10.out | exact K11.out | exact K12.out | exact K13.out | exact K14.out | exact K15.out | exact K16.out | exact K17.out | exact K18.out | exact K19.out | exact K20.out | exact K21.out | exact K22.out | exact K23.out | exact K24.out | exact (Kp.refl _)))).mono ?_
      rintro _ w3 ⟨⟨v, rfl, s1⟩, k3⟩
      obtain ⟨ac, cc, rfl, pc, _⟩ := s1.shape
      rw [HLN.out.2] at s1 pc ⊢
      have Qp := Lib.hid (Qp.out.kp k3)
      have Qc := Lib.hid s1
      have KK := Lib.hid (KK.out.trans k3)
      clear k3 s1
      go_wp2_with fail
      refine (OLR.out _ (HT.out.kp (by first | exact KK.out | exact KL.out | exact KK.out.trans KL.out | exact K1.out | exact K2.out | exact K3.out | exact K4.out | exact K5.out | exact K6.out | exact K7.out | exact K8.out | exact K9.out | exact K10.out | exact K11.out | exact K12.out | exact K13.out | exact K14.out | exact K15.out | exact K16.out | exact K17.out | exact K18.out | exact K19.out | exact K20.out | exact K21.out | exact K22.out | exact K23.out | exact K24.out | exact (Kp.refl _)))).mono ?_
      rintro _ w4 ⟨rfl, k4⟩
      have Qp := Lib.hid (Qp.out.kp k4)
      have Qc := Lib.hid (Qc.out.kp k4)
      have KK := Lib.hid (KK.out.trans k4)
      clear k4
      go_wp2_with fail
      refine (OLY.out _ (HT.out.kp (by first | exact KK.out | exact KL.out | exact KK.out.trans KL.out | exact K1.out | exact K2.out | exact K3.out | exact K4.out | exact K5.out | exact K6.out | exact K7.out | exact K8.out | exact K9.out | exact K10.out | exact K11.out | exact K12.out | exact K13.out | exact K14.out | exact K15.out | exact K16.out | exact K17.out | exact K18.out | exact K19.out | exact K20.out | exact K21.out | exact K22.out | exact K23.out | exact K24.out | exact (Kp.refl _)))).mono ?_
      rintro _ w5 ⟨rfl, k5⟩
      have Qp := Lib.hid (Qp.out.kp k5)
      have Qc := Lib.hid (Qc.out.kp k5)
      have KK := Lib.hid (KK.out.trans k5)
      clear k5
      clear OP OC OLR OLY HLN
      go_wp2_with fail
      go_loopw [8, 13] (fun y t wr => ∃ s : Nat, s ≤ m ∧ y = .int .i64 ((f s : Nat) : Int) ∧ t = .int .i64 (s : Int) ∧ Kp w5 wr) (fun _ t _ => (m - (intOf t).toNat))
      case atStart => exact ⟨0, Nat.zero_le _, rfl, rfl, Kp.refl _⟩
      case round =>
        obtain ⟨s, hs, rfl, rfl, hkp⟩ := hrel
        by_cases hlt : s < m
        · have OA1 := Lib.hid (fun W hTW => OA.out W s hlt hTW)
          have OB1 := Lib.hid (fun W hTW => OB.out W s hlt hTW)
          have OV1 := Lib.hid (fun W hTW => OV.out W s hs hTW)
          have OV2 := Lib.hid (fun W hTW => OV.out W (s + 1) hlt hTW)
          obtain ⟨h1, h2⟩ := HPT.out s hlt
          obtain ⟨y1, y2, y3, y4⟩ := HWD.out s hs
          obtain ⟨y5, y6, y7, y8⟩ := HWD.out (s + 1) hlt
          obtain ⟨v1, v2, v3⟩ := HLV.out s hlt
          obtain ⟨gp, op, rfl, _, hcp⟩ := (Qp.out.kp hkp).at s hlt
          obtain ⟨gc, oc, rfl, _, hcc⟩ := (Qc.out.kp hkp).at s hlt
          have u1 := hcp s hlt
          have u2 := hcc s hlt
          rw [h1] at u1
          rw [h2] at u2
          have U1 := Lib.hid u1
          have U2 := Lib.hid u2
          have KL := Lib.hid hkp
          have i1 : IntKind.i64.wrap ((s : Int) + 1) = (s : Int) + 1 := IntWalk.i64_in _ (by omega)
          have i2 : (s : Int) < (m : Int) := by omega
          generalize loV ((f (s + 1) : Nat) : Int) = U at *
          generalize hiV ((f (s + 1) : Nat) : Int) = V at *
          generalize loV ((f s : Nat) : Int) = A at *
          generalize hiV ((f s : Nat) : Int) = B at *
          have e1 : IntKind.i64.wrap (V - U) = V - U := IntWalk.i64_in _ (by omega)
          have e2 : IntKind.i64.wrap (V - U + 1) = 2 * (B - A + 1) := by rw [IntWalk.i64_in _ (by omega)]; exact v1
          have e3 : IntKind.i64.wrap (B - A) = B - A := IntWalk.i64_in _ (by omega)
          have e4 : IntKind.i64.wrap (B - A + 1) = B - A + 1 := IntWalk.i64_in _ (by omega)
          have e5 : IntKind.i64.wrap (2 * (B - A + 1)) = 2 * (B - A + 1) := IntWalk.i64_in _ (by omega)
          have e6 : ¬ A < U := by omega
          have e7 : ¬ V < B := by omega
          clear h1 h2 u1 u2 hcp hcc hkp v1 v2 v3 y1 y2 y3 y4 y5 y6 y7 y8 OA OB OV HPT HWD HLV HLA Qp Qc
          go_wp2_with fail
          refine (OA1.out _ (HT.out.kp (by first | exact KK.out | exact KL.out | exact KK.out.trans KL.out | exact K1.out | exact K2.out | exact K3.out | exact K4.out | exact K5.out | exact K6.out | exact K7.out | exact K8.out | exact K9.out | exact K10.out | exact K11.out | exact K12.out | exact K13.out | exact K14.out | exact K15.out | exact K16.out | exact K17.out | exact K18.out | exact K19.out | exact K20.out | exact K21.out | exact K22.out | exact K23.out | exact K24.out | exact (Kp.refl _)))).mono ?_
          rintro _ x1 ⟨rfl, k1⟩
          have U1 := Lib.hid (k1.cell U1.out)
          have U2 := Lib.hid (k1.cell U2.out)
          have KL := Lib.hid (KL.out.trans k1)
          clear k1
          go_wp2_with fail
          refine (OB1.out _ (HT.out.kp (by first | exact KK.out | exact KL.out | exact KK.out.trans KL.out | exact K1.out | exact K2.out | exact K3.out | exact K4.out | exact K5.out | exact K6.out | exact K7.out | exact K8.out | exact K9.out | exact K10.out | exact K11.out | exact K12.out | exact K13.out | exact K14.out | exact K15.out | exact K16.out | exact K17.out | exact K18.out | exact K19.out | exact K20.out | exact K21.out | exact K22.out | exact K23.out | exact K24.out | exact (Kp.refl _)))).mono ?_
          rintro _ x2 ⟨rfl, k2⟩
          have U1 := Lib.hid (k2.cell U1.out)
          have U2 := Lib.hid (k2.cell U2.out)
          have KL := Lib.hid (KL.out.trans k2)
          clear k2
          go_wp2_with fail
          refine (OV1.out _ (HT.out.kp (by first | exact KK.out | exact KL.out | exact KK.out.trans KL.out | exact K1.out | exact K2.out | exact K3.out | exact K4.out | exact K5.out | exact K6.out | exact K7.out | exact K8.out | exact K9.out | exact K10.out | exact K11.out | exact K12.out | exact K13.out | exact K14.out | exact K15.out | exact K16.out | exact K17.out | exact K18.out | exact K19.out | exact K20.out | exact K21.out | exact K22.out | exact K23.out | exact K24.out | exact (Kp.refl _)))).mono ?_
          rintro _ x3 ⟨rfl, k3⟩
          have U1 := Lib.hid (k3.cell U1.out)
          have U2 := Lib.hid (k3.cell U2.out)
          have KL := Lib.hid (KL.out.trans k3)
          clear k3
          have u1 := U1.out
          go_wp2_with fail
          refine (OV2.out _ (HT.out.kp (by first | exact KK.out | exact KL.out | exact KK.out.trans KL.out | exact K1.out | exact K2.out | exact K3.out | exact K4.out | exact K5.out | exact K6.out | exact K7.out | exact K8.out | exact K9.out | exact K10.out | exact K11.out | exact K12.out | exact K13.out | exact K14.out | exact K15.out | exact K16.out | exact K17.out | exact K18.out | exact K19.out | exact K20.out | exact K21.out | exact K22.out | exact K23.out | exact K24.out | exact (Kp.refl _)))).mono ?_
          rintro _ x4 ⟨rfl, k4⟩
          have U1 := Lib.hid (k4.cell U1.out)
          have U2 := Lib.hid (k4.cell U2.out)
          have KL := Lib.hid (KL.out.trans k4)
          clear k4
          clear u1
          have u1 := U1.out
          have u2 := U2.out
          go_wp2_with fail
          go_roundw
          case rel => exact ⟨s + 1, by omega, rfl, by go_num, KL.out⟩
          case measure => simp [intOf]; omega
        · obtain rfl : s = m := by omega
          have OV1 := Lib.hid (fun W hTW => OV.out W s (Nat.le_refl _) hTW)
          obtain ⟨l1, l2, l3⟩ := HLA.out
          rw [l2, l3] at OV1
          have b1 : (((f s : Nat) : Int) == N - 1) = true := beq_iff_eq.2 l1
          have KL := Lib.hid (KK.out.trans hkp)
          clear l1 l2 l3 hkp OA OB OV HPT HWD HLV HLA Qp Qc
          go_wp2_with fail
          refine (OV1.out _ (HT.out.kp (by first | exact KK.out | exact KL.out | exact KK.out.trans KL.out | exact K1.out | exact K2.out | exact K3.out | exact K4.out | exact K5.out | exact K6.out | exact K7.out | exact K8.out | exact K9.out | exact K10.out | exact K11.out | exact K12.out | exact K13.out | exact K14.out | exact K15.out | exact K16.out | exact K17.out | exact K18.out | exact K19.out | exact K20.out | exact K21.out | exact K22.out | exact K23.out | exact K24.out | exact (Kp.refl _)))).mono ?_
          rintro _ x1 ⟨rfl, k1⟩
          have KL := Lib.hid (KL.out.trans k1)
          clear k1
          go_wp2_with fail
          go_ret
          exact ⟨rfl, KL.out⟩
end Go.Proofs.YtcomgbneacbncaaDoor

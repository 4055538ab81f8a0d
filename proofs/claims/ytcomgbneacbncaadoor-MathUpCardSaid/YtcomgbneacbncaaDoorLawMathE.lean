/- MathMeets (written by gen/math2.py). -/
import Derived.Test.YtcomgbneacbncaaDoorMathOwn
import Derived.Test.YtcomgbneacbncaaDoorShownMath
set_option linter.unusedVariables false
set_option linter.unusedSimpArgs false
namespace Go.Proofs.YtcomgbneacbncaaDoor
open Go.RowKit

theorem coN_comm {K x y : Nat} (hK : K ≤ 10) (hx : x < 2 ^ K) (hy : y < 2 ^ K) : coN x y = coN y x := by
  unfold coN
  rw [meet_comm hK hy hx, (meet_spec hK hx hy).2.1]
theorem coN_in {K x y : Nat} (hK : K ≤ 10) (hx : x < 2 ^ K) (hy : y < 2 ^ K) : coN x y < 2 ^ (K + 1) - 1 ∧
    loV ((coN x y : Nat) : Int) ≤ (x : Int) ∧ (x : Int) ≤ hiV ((coN x y : Nat) : Int) ∧ loV ((coN x y : Nat) : Int) ≤ (y : Int) ∧ (y : Int) ≤ hiV ((coN x y : Nat) : Int) := by
  obtain ⟨m1, m2, m3⟩ := meet_spec hK hx hy
  have hq : x / 2 ^ meet x y < 2 ^ (K - meet x y) := by
    have := quot_lt (K := K) (j := 0) (q := x) (i := meet x y) (by simpa using hx) (by omega)
    simpa using this
  unfold coN
  obtain ⟨_, h2, h3⟩ := nd_small hK m1 hq
  obtain ⟨e1, e2⟩ := lv_nd h2 h3
  rw [e1, e2]
  obtain ⟨u1, u2⟩ := (under_iff (meet x y) (x / 2 ^ meet x y) x).2 rfl
  obtain ⟨u3, u4⟩ := (under_iff (meet x y) (x / 2 ^ meet x y) y).2 m2.symm
  exact ⟨nd_lt m1 hq, by exact_mod_cast u1, by exact_mod_cast u2, by exact_mod_cast u3, by exact_mod_cast u4⟩
/-- Two leaves that aren't one: the lesser is below the left child, the greater not. -/
theorem coN_left {K x y : Nat} (hK : K ≤ 10) (hx : x < 2 ^ K) (hy : y < 2 ^ K) (hlt : x < y) : chE ((coN x y : Nat) : Int) = 0 ∧ (x : Int) ≤ hiV (lefV ((coN x y : Nat) : Int)) ∧ hiV (lefV ((coN x y : Nat) : Int)) < (y : Int) ∧ 0 ≤ lefV ((coN x y : Nat) : Int) ∧ lefV ((coN x y : Nat) : Int) ≤ 2046 := by
  obtain ⟨m1, m2, m3⟩ := meet_spec hK hx hy
  have hq : x / 2 ^ meet x y < 2 ^ (K - meet x y) := by
    have := quot_lt (K := K) (j := 0) (q := x) (i := meet x y) (by simpa using hx) (by omega)
    simpa using this
  unfold coN
  generalize meet x y = M at *
  cases M with
  | zero => simp at m2; omega
  | succ m =>
    obtain ⟨_, h2, h3⟩ := nd_small hK m1 hq
    obtain ⟨c1, c2, _⟩ := ch_yes h2 h3
    have hne := m3 m (by omega)
    have hx2 := quot_succ x m
    have hy2 := quot_succ y m
    have hmono : x / 2 ^ m ≤ y / 2 ^ m := Nat.div_le_div_right (by omega)
    rw [hx2] at m2 h3 hq c1 c2 ⊢
    rw [hy2] at m2
    have e1 : x / 2 ^ m = 2 * (x / 2 ^ m / 2) := by omega
    have e2 : y / 2 ^ m = 2 * (x / 2 ^ m / 2) + 1 := by omega
    rw [c1, c2]
    obtain ⟨g1, _⟩ := (show 2 * (x / 2 ^ m / 2) < 2 ^ (10 - m) ∧ True from ⟨by
      have e : 10 - m = (10 - (m + 1)) + 1 := by omega
      rw [e, p2_succ]; omega, trivial⟩)
    obtain ⟨_, l2⟩ := lv_nd (j := m) (q := 2 * (x / 2 ^ m / 2)) (by omega) g1
    have hb := (small_iff ((nd m (2 * (x / 2 ^ m / 2)) : Nat) : Int)).2 ⟨m, _, rfl, by omega, g1⟩
    rw [l2]
    obtain ⟨_, u2⟩ := (under_iff m (2 * (x / 2 ^ m / 2)) x).2 e1
    obtain ⟨u3, _⟩ := (under_iff m (2 * (x / 2 ^ m / 2) + 1) y).2 e2
    rw [Nat.mul_add, Nat.mul_one] at u3
    have hp := p2_pos m
    generalize 2 ^ m * (2 * (x / 2 ^ m / 2)) = Z at *
    generalize 2 ^ m = W at *
    exact ⟨rfl, by omega, by omega, hb⟩
theorem coN_same {K x : Nat} (hK : K ≤ 10) (hx : x < 2 ^ K) : coN x x = 2 * x := by
  have : meet x x = 0 := by unfold meet meetF; rw [if_pos rfl]
  unfold coN
  rw [this]
  simp [nd_leaf]

set_option maxRecDepth 100000 in
set_option maxHeartbeats 3000000 in
theorem mathMeets_walk (a b k : Nat) (w : World) (ha : (a : Int) ≤ 65535) (hb : (b : Int) ≤ 65535) (hk : (k : Int) ≤ 255) (hT : Tab w) :
    Calls Tryd.prog 7 #[.int .u16 (a : Int), .int .u16 (b : Int), .int .u8 (k : Int)] w (Yes w) := by
  have HT := Lib.hid hT
  clear hT
  obtain ⟨K, hKe⟩ : ∃ K, k % 11 = K := ⟨_, rfl⟩
  have hK : K ≤ 10 := by omega
  have c1 : IntKind.i64.wrap (k : Int) = (k : Int) := IntWalk.i64_in _ (by omega)
  have c2 : (k : Int).tmod 11 = (K : Int) := by rw [Int.tmod_eq_emod_of_nonneg (by omega)]; omega
  have c3 : IntKind.i64.wrap (K : Int) = (K : Int) := IntWalk.i64_in _ (by omega)
  have HP : Hid (∀ i, i ≤ 10 → 1 ≤ ((2 ^ i : Nat) : Int) ∧ ((2 ^ i : Nat) : Int) ≤ 1024 ∧ 2 * ((2 ^ i : Nat) : Int) = ((2 ^ (i + 1) : Nat) : Int)) := fun i hi => by
    have h1 : (2 : Nat) ^ i ≤ 2 ^ 10 := Nat.pow_le_pow_right (by omega) (by omega)
    have h2 := p2_pos i
    have h3 := p2_succ i
    generalize 2 ^ (i + 1) = B at *
    generalize 2 ^ i = A at *
    omega
  have hp1 := p2_le hK
  have hp2 := p2_pos K
  have hp3 := p2_succ K
  obtain ⟨x, hxe⟩ : ∃ x, a % 2 ^ K = x := ⟨_, rfl⟩
  obtain ⟨y, hye⟩ : ∃ y, b % 2 ^ K = y := ⟨_, rfl⟩
  have hx : x < 2 ^ K := by rw [← hxe]; exact Nat.mod_lt _ (by omega)
  have hy : y < 2 ^ K := by rw [← hye]; exact Nat.mod_lt _ (by omega)
  have da : IntKind.i64.wrap (a : Int) = (a : Int) := IntWalk.i64_in _ (by omega)
  have db : IntKind.i64.wrap (b : Int) = (b : Int) := IntWalk.i64_in _ (by omega)
  have d1 : IntKind.i64.wrap (2 * ((2 ^ K : Nat) : Int)) = 2 * ((2 ^ K : Nat) : Int) := IntWalk.i64_in _ (by omega)
  have d2 : IntKind.i64.wrap (2 * ((2 ^ K : Nat) : Int) - 2) = 2 * ((2 ^ K : Nat) : Int) - 2 := IntWalk.i64_in _ (by omega)
  have dx : (a : Int).tmod ((2 ^ K : Nat) : Int) = (x : Int) := by
    rw [Int.tmod_eq_emod_of_nonneg (by omega), ← hxe]
    exact (Int.natCast_emod _ _).symm
  have dy : (b : Int).tmod ((2 ^ K : Nat) : Int) = (y : Int) := by
    rw [Int.tmod_eq_emod_of_nonneg (by omega), ← hye]
    exact (Int.natCast_emod _ _).symm
  have dx2 : IntKind.i64.wrap (x : Int) = (x : Int) := IntWalk.i64_in _ (by omega)
  have dy2 : IntKind.i64.wrap (y : Int) = (y : Int) := IntWalk.i64_in _ (by omega)
  have d7 : ¬ ((2 ^ K : Nat) : Int) = 0 := by omega
  have d8 : IntKind.i64.wrap (2 * (x : Int)) = 2 * (x : Int) := IntWalk.i64_in _ (by omega)
  have hcc := coN_comm hK hx hy
  obtain ⟨i1, i2, i3, i4, i5⟩ := coN_in hK hx hy
  have o1 : okC (x : Int) (y : Int) ((2 ^ K : Nat) : Int) := ⟨isTB_yes K hK, by omega, by omega, by omega, by omega⟩
  have o2 : okC (y : Int) (x : Int) ((2 ^ K : Nat) : Int) := ⟨isTB_yes K hK, by omega, by omega, by omega, by omega⟩
  have OC : Hid (∀ W, Tab W → Calls Tryd.prog 27 #[.int .i64 (x : Int), .int .i64 (y : Int), .int .i64 ((2 ^ K : Nat) : Int)] W fun e w' => e = .returned (.tuple #[.int .i64 ((coN x y : Nat) : Int), .int .i64 0]) ∧ Kp W w') := fun W hTW => by
    have := mathCommon_any (x : Int) (y : Int) ((2 ^ K : Nat) : Int) W (by omega) (by omega) (by omega) hTW
    rw [show coE (x : Int) (y : Int) ((2 ^ K : Nat) : Int) = 0 from if_pos o1, show coV (x : Int) (y : Int) ((2 ^ K : Nat) : Int) = ((coN x y : Nat) : Int) from if_pos o1] at this
    exact this
  have OD : Hid (∀ W, Tab W → Calls Tryd.prog 27 #[.int .i64 (y : Int), .int .i64 (x : Int), .int .i64 ((2 ^ K : Nat) : Int)] W fun e w' => e = .returned (.tuple #[.int .i64 ((coN x y : Nat) : Int), .int .i64 0]) ∧ Kp W w') := fun W hTW => by
    have := mathCommon_any (y : Int) (x : Int) ((2 ^ K : Nat) : Int) W (by omega) (by omega) (by omega) hTW
    rw [show coE (y : Int) (x : Int) ((2 ^ K : Nat) : Int) = 0 from if_pos o2, show coV (y : Int) (x : Int) ((2 ^ K : Nat) : Int) = ((coN y x : Nat) : Int) from if_pos o2] at this
    rwa [← hcc] at this
  have OV : Hid (∀ W (z : Int) (_ : 0 ≤ z ∧ z ≤ 2046), Tab W → Calls Tryd.prog 29 #[.int .i64 z] W fun e w' => e = .returned (.tuple #[.int .i64 (loV z), .int .i64 (hiV z)]) ∧ Kp W w') := fun W z hz hTW => mathLeaves_any z W (by omega) hTW
  have OL : Hid (∀ W, Tab W → Calls Tryd.prog 13 #[.int .i64 ((coN x y : Nat) : Int)] W fun e w' => e = .returned (.tuple #[.int .i64 (lefV ((coN x y : Nat) : Int)), .int .i64 (chE ((coN x y : Nat) : Int))]) ∧ Kp W w') := fun W hTW => mathLeft_any _ W (by omega) hTW
  have cb : 0 ≤ ((coN x y : Nat) : Int) ∧ ((coN x y : Nat) : Int) ≤ 2046 := by omega
  have n1 : ¬ ((coN x y : Nat) : Int) < 0 := by omega
  have n2 : ¬ 2 * ((2 ^ K : Nat) : Int) - 2 < ((coN x y : Nat) : Int) := by omega
  have HLT : Hid (x < y → chE ((coN x y : Nat) : Int) = 0 ∧ (x : Int) ≤ hiV (lefV ((coN x y : Nat) : Int)) ∧ hiV (lefV ((coN x y : Nat) : Int)) < (y : Int) ∧ 0 ≤ lefV ((coN x y : Nat) : Int) ∧ lefV ((coN x y : Nat) : Int) ≤ 2046) := fun h => coN_left hK hx hy h
  have HGT : Hid (y < x → chE ((coN x y : Nat) : Int) = 0 ∧ (y : Int) ≤ hiV (lefV ((coN x y : Nat) : Int)) ∧ hiV (lefV ((coN x y : Nat) : Int)) < (x : Int) ∧ 0 ≤ lefV ((coN x y : Nat) : Int) ∧ lefV ((coN x y : Nat) : Int) ≤ 2046) := fun h => by rw [hcc]; exact coN_left hK hy hx h
  have HEQ : Hid (x = y → ((coN x y : Nat) : Int) = 2 * (x : Int)) := fun h => by subst h; rw [coN_same hK hx]; omega
  have HI := Lib.hid (And.intro i2 (And.intro i3 (And.intro i4 i5)))
  have HCB := Lib.hid cb
  clear hp1 hp2 hp3 hxe hye hx hy ha hb hKe hcc i1 i2 i3 i4 i5 o1 o2 cb
  go_enter Tryd.func7, Tryd.ntmps7
  go_wp2_with fail
  refine (shownMath_any _ HT.out).mono ?_
  rintro e w1 ⟨rfl, k1⟩
  have K1 := Lib.hid k1
  clear k1
  go_wp2_with fail
  go_loopw [8, 9] (fun n y wr => ∃ i : Nat, i ≤ K ∧ n = .int .i64 ((2 ^ i : Nat) : Int) ∧ y = .int .i64 (i : Int) ∧ Kp w wr) (fun _ y _ => (K - (intOf y).toNat))
  case atStart => exact ⟨0, Nat.zero_le _, rfl, rfl, K1.out⟩
  case round =>
    obtain ⟨i, hi, rfl, rfl, hkp⟩ := hrel
    by_cases hlt : i < K
    · obtain ⟨n1, n2, n3⟩ := HP.out i (by omega)
      have N3 := Lib.hid n3
      have KK := Lib.hid hkp
      generalize ((2 ^ i : Nat) : Int) = A at *
      have hw : IntKind.i64.wrap (2 * A) = 2 * A := IntWalk.i64_in _ (by omega)
      have hw2 : IntKind.i64.wrap ((i : Int) + 1) = (i : Int) + 1 := IntWalk.i64_in _ (by omega)
      have hlI : (i : Int) < (K : Int) := by omega
      clear HP n3 hkp OC OD OV OL HLT HGT HEQ HI HCB da db d1 d2 dx dy dx2 dy2 d7 d8 n1 n2
      go_wp2_with fail
      go_roundw
      case rel => exact ⟨i + 1, by omega, by rw [← N3.out], by go_num, KK.out⟩
      case measure => simp [intOf]; omega
    · obtain rfl : i = K := by omega
      have KK := Lib.hid hkp
      clear hkp K1
      clear HP
      have OVC := Lib.hid (fun W hTW => OV.out W _ HCB.out hTW)
      obtain ⟨i2, i3, i4, i5⟩ := HI.out
      clear HI
      generalize ((2 ^ i : Nat) : Int) = N at *
      rcases Nat.lt_trichotomy x y with hlt | heq | hgt
      · obtain ⟨l1, l2, l3, l4⟩ := HLT.out hlt
        have OVL := Lib.hid (fun W hTW => OV.out W _ l4 hTW)
        rw [l1] at OL
        clear l1 l4 HLT HGT HEQ OV HCB
        generalize ((coN x y : Nat) : Int) = C at *
        generalize loV C = S at *
        generalize hiV C = T at *
        generalize lefV C = L at *
        generalize hiV L = M at *
        generalize loV L = S2 at *
        have x1 : (x : Int) ≤ (y : Int) := by omega
        have x2 : ¬ (y : Int) ≤ (x : Int) := by omega
        have x3 : (x : Int) < (y : Int) := by omega
        have x4 : ¬ (x : Int) = (y : Int) := by omega
        have x5 : ((x : Int) == (y : Int)) = false := beq_eq_false_iff_ne.2 x4
        have x6 : ¬ (x : Int) < S := by omega
        have x7 : ¬ T < (y : Int) := by omega
        clear i2 i3 i4 i5 hlt
        go_wp2_with fail
        refine (OC.out _ (HT.out.kp (by first | exact KK.out | exact KL.out | exact KK.out.trans KL.out | exact K1.out | exact K2.out | exact K3.out | exact K4.out | exact K5.out | exact K6.out | exact K7.out | exact K8.out | exact K9.out | exact K10.out | exact K11.out | exact K12.out | exact K13.out | exact K14.out | exact K15.out | exact K16.out | exact K17.out | exact K18.out | exact K19.out | exact K20.out | exact K21.out | exact K22.out | exact K23.out | exact K24.out | exact (Kp.refl _)))).mono ?_
        rintro _ w2 ⟨rfl, k2⟩
        have KK := Lib.hid (KK.out.trans k2)
        clear k2
        go_wp2_with fail
        refine (OD.out _ (HT.out.kp (by first | exact KK.out | exact KL.out | exact KK.out.trans KL.out | exact K1.out | exact K2.out | exact K3.out | exact K4.out | exact K5.out | exact K6.out | exact K7.out | exact K8.out | exact K9.out | exact K10.out | exact K11.out | exact K12.out | exact K13.out | exact K14.out | exact K15.out | exact K16.out | exact K17.out | exact K18.out | exact K19.out | exact K20.out | exact K21.out | exact K22.out | exact K23.out | exact K24.out | exact (Kp.refl _)))).mono ?_
        rintro _ w3 ⟨rfl, k3⟩
        have KK := Lib.hid (KK.out.trans k3)
        clear k3
        go_wp2_with fail
        refine (OVC.out _ (HT.out.kp (by first | exact KK.out | exact KL.out | exact KK.out.trans KL.out | exact K1.out | exact K2.out | exact K3.out | exact K4.out | exact K5.out | exact K6.out | exact K7.out | exact K8.out | exact K9.out | exact K10.out | exact K11.out | exact K12.out | exact K13.out | exact K14.out | exact K15.out | exact K16.out | exact K17.out | exact K18.out | exact K19.out | exact K20.out | exact K21.out | exact K22.out | exact K23.out | exact K24.out | exact (Kp.refl _)))).mono ?_
        rintro _ w4 ⟨rfl, k4⟩
        have KK := Lib.hid (KK.out.trans k4)
        clear k4
        go_wp2_with fail
        refine (OL.out _ (HT.out.kp (by first | exact KK.out | exact KL.out | exact KK.out.trans KL.out | exact K1.out | exact K2.out | exact K3.out | exact K4.out | exact K5.out | exact K6.out | exact K7.out | exact K8.out | exact K9.out | exact K10.out | exact K11.out | exact K12.out | exact K13.out | exact K14.out | exact K15.out | exact K16.out | exact K17.out | exact K18.out | exact K19.out | exact K20.out | exact K21.out | exact K22.out | exact K23.out | exact K24.out | exact (Kp.refl _)))).mono ?_
        rintro _ w5 ⟨rfl, k5⟩
        have KK := Lib.hid (KK.out.trans k5)
        clear k5
        go_wp2_with fail
        refine (OVL.out _ (HT.out.kp (by first | exact KK.out | exact KL.out | exact KK.out.trans KL.out | exact K1.out | exact K2.out | exact K3.out | exact K4.out | exact K5.out | exact K6.out | exact K7.out | exact K8.out | exact K9.out | exact K10.out | exact K11.out | exact K12.out | exact K13.out | exact K14.out | exact K15.out | exact K16.out | exact K17.out | exact K18.out | exact K19.out | exact K20.out | exact K21.out | exact K22.out | exact K23.out | exact K24.out | exact (Kp.refl _)))).mono ?_
        rintro _ w6 ⟨rfl, k6⟩
        have KK := Lib.hid (KK.out.trans k6)
        clear k6
        go_wp2_with fail
        go_ret
        exact ⟨rfl, KK.out⟩
      · have hE := HEQ.out heq
        subst heq
        clear HLT HGT HEQ OV HCB OL
        generalize ((coN x x : Nat) : Int) = C at *
        generalize loV C = S at *
        generalize hiV C = T at *
        have x6 : ¬ (x : Int) < S := by omega
        have x7 : ¬ T < (x : Int) := by omega
        have x8 : (C == 2 * (x : Int)) = true := beq_iff_eq.2 hE
        clear i2 i3 i4 i5 hE
        go_wp2_with fail
        refine (OC.out _ (HT.out.kp (by first | exact KK.out | exact KL.out | exact KK.out.trans KL.out | exact K1.out | exact K2.out | exact K3.out | exact K4.out | exact K5.out | exact K6.out | exact K7.out | exact K8.out | exact K9.out | exact K10.out | exact K11.out | exact K12.out | exact K13.out | exact K14.out | exact K15.out | exact K16.out | exact K17.out | exact K18.out | exact K19.out | exact K20.out | exact K21.out | exact K22.out | exact K23.out | exact K24.out | exact (Kp.refl _)))).mono ?_
        rintro _ w2 ⟨rfl, k2⟩
        have KK := Lib.hid (KK.out.trans k2)
        clear k2
        go_wp2_with fail
        refine (OD.out _ (HT.out.kp (by first | exact KK.out | exact KL.out | exact KK.out.trans KL.out | exact K1.out | exact K2.out | exact K3.out | exact K4.out | exact K5.out | exact K6.out | exact K7.out | exact K8.out | exact K9.out | exact K10.out | exact K11.out | exact K12.out | exact K13.out | exact K14.out | exact K15.out | exact K16.out | exact K17.out | exact K18.out | exact K19.out | exact K20.out | exact K21.out | exact K22.out | exact K23.out | exact K24.out | exact (Kp.refl _)))).mono ?_
        rintro _ w3 ⟨rfl, k3⟩
        have KK := Lib.hid (KK.out.trans k3)
        clear k3
        go_wp2_with fail
        refine (OVC.out _ (HT.out.kp (by first | exact KK.out | exact KL.out | exact KK.out.trans KL.out | exact K1.out | exact K2.out | exact K3.out | exact K4.out | exact K5.out | exact K6.out | exact K7.out | exact K8.out | exact K9.out | exact K10.out | exact K11.out | exact K12.out | exact K13.out | exact K14.out | exact K15.out | exact K16.out | exact K17.out | exact K18.out | exact K19.out | exact K20.out | exact K21.out | exact K22.out | exact K23.out | exact K24.out | exact (Kp.refl _)))).mono ?_
        rintro _ w4 ⟨rfl, k4⟩
        have KK := Lib.hid (KK.out.trans k4)
        clear k4
        go_wp2_with fail
        go_ret
        exact ⟨rfl, KK.out⟩
      · obtain ⟨l1, l2, l3, l4⟩ := HGT.out hgt
        have OVL := Lib.hid (fun W hTW => OV.out W _ l4 hTW)
        rw [l1] at OL
        clear l1 l4 HLT HGT HEQ OV HCB
        generalize ((coN x y : Nat) : Int) = C at *
        generalize loV C = S at *
        generalize hiV C = T at *
        generalize lefV C = L at *
        generalize hiV L = M at *
        generalize loV L = S2 at *
        have x1 : (y : Int) ≤ (x : Int) := by omega
        have x2 : ¬ (x : Int) ≤ (y : Int) := by omega
        have x3 : (y : Int) < (x : Int) := by omega
        have x4 : ¬ (x : Int) = (y : Int) := by omega
        have x5 : ((x : Int) == (y : Int)) = false := beq_eq_false_iff_ne.2 x4
        have x6 : ¬ (y : Int) < S := by omega
        have x7 : ¬ T < (x : Int) := by omega
        clear i2 i3 i4 i5 hgt
        go_wp2_with fail
        refine (OC.out _ (HT.out.kp (by first | exact KK.out | exact KL.out | exact KK.out.trans KL.out | exact K1.out | exact K2.out | exact K3.out | exact K4.out | exact K5.out | exact K6.out | exact K7.out | exact K8.out | exact K9.out | exact K10.out | exact K11.out | exact K12.out | exact K13.out | exact K14.out | exact K15.out | exact K16.out | exact K17.out | exact K18.out | exact K19.out | exact K20.out | exact K21.out | exact K22.out | exact K23.out | exact K24.out | exact (Kp.refl _)))).mono ?_
        rintro _ w2 ⟨rfl, k2⟩
        have KK := Lib.hid (KK.out.trans k2)
        clear k2
        go_wp2_with fail
        refine (OD.out _ (HT.out.kp (by first | exact KK.out | exact KL.out | exact KK.out.trans KL.out | exact K1.out | exact K2.out | exact K3.out | exact K4.out | exact K5.out | exact K6.out | exact K7.out | exact K8.out | exact K9.out | exact K10.out | exact K11.out | exact K12.out | exact K13.out | exact K14.out | exact K15.out | exact K16.out | exact K17.out | exact K18.out | exact K19.out | exact K20.out | exact K21.out | exact K22.out | exact K23.out | exact K24.out | exact (Kp.refl _)))).mono ?_
        rintro _ w3 ⟨rfl, k3⟩
        have KK := Lib.hid (KK.out.trans k3)
        clear k3
        go_wp2_with fail
        refine (OVC.out _ (HT.out.kp (by first | exact KK.out | exact KL.out | exact KK.out.trans KL.out | exact K1.out | exact K2.out | exact K3.out | exact K4.out | exact K5.out | exact K6.out | exact K7.out | exact K8.out | exact K9.out | exact K10.out | exact K11.out | exact K12.out | exact K13.out | exact K14.out | exact K15.out | exact K16.out | exact K17.out | exact K18.out | exact K19.out | exact K20.out | exact K21.out | exact K22.out | exact K23.out | exact K24.out | exact (Kp.refl _)))).mono ?_
        rintro _ w4 ⟨rfl, k4⟩
        have KK := Lib.hid (KK.out.trans k4)
        clear k4
        go_wp2_with fail
        refine (OL.out _ (HT.out.kp (by first | exact KK.out | exact KL.out | exact KK.out.trans KL.out | exact K1.out | exact K2.out | exact K3.out | exact K4.out | exact K5.out | exact K6.out | exact K7.out | exact K8.out | exact K9.out | exact K10.out | exact K11.out | exact K12.out | exact K13.out | exact K14.out | exact K15.out | exact K16.out | exact K17.out | exact K18.out | exact K19.out | exact K20.out | exact K21.out | exact K22.out | exact K23.out | exact K24.out | exact (Kp.refl _)))).mono ?_
        rintro _ w5 ⟨rfl, k5⟩
        have KK := Lib.hid (KK.out.trans k5)
        clear k5
        go_wp2_with fail
        refine (OVL.out _ (HT.out.kp (by first | exact KK.out | exact KL.out | exact KK.out.trans KL.out | exact K1.out | exact K2.out | exact K3.out | exact K4.out | exact K5.out | exact K6.out | exact K7.out | exact K8.out | exact K9.out | exact K10.out | exact K11.out | exact K12.out | exact K13.out | exact K14.out | exact K15.out | exact K16.out | exact K17.out | exact K18.out | exact K19.out | exact K20.out | exact K21.out | exact K22.out | exact K23.out | exact K24.out | exact (Kp.refl _)))).mono ?_
        rintro _ w6 ⟨rfl, k6⟩
        have KK := Lib.hid (KK.out.trans k6)
        clear k6
        go_wp2_with fail
        go_ret
        exact ⟨rfl, KK.out⟩
end Go.Proofs.YtcomgbneacbncaaDoor

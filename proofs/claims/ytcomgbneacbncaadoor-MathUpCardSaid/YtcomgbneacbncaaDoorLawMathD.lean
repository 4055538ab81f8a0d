/- MathLeaves (written by gen/math2.py). -/
import Derived.Test.YtcomgbneacbncaaDoorMathOwn
import Derived.Test.YtcomgbneacbncaaDoorShownMath
set_option linter.unusedVariables false
set_option linter.unusedSimpArgs false
namespace Go.Proofs.YtcomgbneacbncaaDoor
open Go.RowKit

/-- A leaf is below just the nodes of its path, and itself. -/
theorem below_path {K j q a : Nat} (hj : j ≤ K) : (a / 2 ^ j = q ↔ nd j q = 2 * a ∨ inL (pathN K 0 a) ((nd j q : Nat) : Int) = true) := by
  have hin : inL (pathN K 0 a) ((nd j q : Nat) : Int) = true ↔ 1 ≤ j ∧ a / 2 ^ j = q := by
    unfold inL
    rw [List.any_eq_true]
    constructor
    · rintro ⟨x, hx, he⟩
      unfold pathN at hx
      obtain ⟨i, hi, rfl⟩ := List.mem_map.1 hx
      have h1 := of_decide_eq_true he
      obtain ⟨h2, h3⟩ := nd_inj (Int.ofNat.inj h1)
      refine ⟨by omega, ?_⟩
      rw [← h3, ← h2]
      congr 2
      omega
    · rintro ⟨h1, h2⟩
      refine ⟨nd j q, ?_, decide_eq_true rfl⟩
      unfold pathN
      refine List.mem_map.2 ⟨j - 1, List.mem_range.2 (by omega), ?_⟩
      rw [show 0 + 1 + (j - 1) = j by omega, show j - 1 + 1 = j by omega, h2]
  rw [hin]
  cases j with
  | zero =>
    rw [nd_leaf]
    simp
    omega
  | succ j =>
    have h1 := nd_odd j q
    constructor
    · intro h; exact .inr ⟨by omega, h⟩
    · rintro (h | h)
      · omega
      · exact h.2

set_option maxRecDepth 100000 in
set_option maxHeartbeats 3000000 in
theorem mathLeaves_walk (x a k : Nat) (w : World) (hx : (x : Int) ≤ 65535) (ha : (a : Int) ≤ 65535) (hk : (k : Int) ≤ 255) (hT : Tab w) :
    Calls Tryd.prog 8 #[.int .u16 (x : Int), .int .u16 (a : Int), .int .u8 (k : Int)] w (Yes w) := by
  have HT := Lib.hid hT
  clear hT
  obtain ⟨K, hKe⟩ : ∃ K, k % 11 = K := ⟨_, rfl⟩
  have hK : K ≤ 10 := by omega
  have c1 : IntKind.i64.wrap (k : Int) = (k : Int) := IntWalk.i64_in _ (by omega)
  have c2 : (k : Int).tmod 11 = (K : Int) := by rw [Int.tmod_eq_emod_of_nonneg (by omega)]; omega
  have c3 : IntKind.i64.wrap (K : Int) = (K : Int) := IntWalk.i64_in _ (by omega)
  have HP : Hid (∀ i, i ≤ 10 → 1 ≤ ((2 ^ i : Nat) : Int) ∧ ((2 ^ i : Nat) : Int) ≤ 1024 ∧ 2 * ((2 ^ i : Nat) : Int) = ((2 ^ (i + 1) : Nat) : Int)) := fun i hi => by
    have h1 : (2 : Nat) ^ i ≤ 2 ^ 10 := Nat.pow_le_pow_right (by omega) (by omega)
    have h2 := p2_pos i
    have h3 := p2_succ i
    generalize 2 ^ (i + 1) = B at *
    generalize 2 ^ i = A at *
    omega
  have hb := p2_le hK
  have hb2 := p2_pos K
  have hb3 := p2_succ K
  obtain ⟨p, hp⟩ : ∃ p, x % (2 ^ (K + 1) - 1) = p := ⟨_, rfl⟩
  have hpl : p < 2 ^ (K + 1) - 1 := by rw [← hp]; exact Nat.mod_lt _ (by omega)
  obtain ⟨j, q, rfl, hj, hq⟩ := nd_of K p hpl
  obtain ⟨hz, hj10, hq10⟩ := nd_small hK hj hq
  obtain ⟨b, hbe⟩ : ∃ b, a % 2 ^ K = b := ⟨_, rfl⟩
  have hbl : b < 2 ^ K := by rw [← hbe]; exact Nat.mod_lt _ (by omega)
  have d0 : IntKind.i64.wrap (x : Int) = (x : Int) := IntWalk.i64_in _ (by omega)
  have da : IntKind.i64.wrap (a : Int) = (a : Int) := IntWalk.i64_in _ (by omega)
  have d1 : IntKind.i64.wrap (2 * ((2 ^ K : Nat) : Int)) = 2 * ((2 ^ K : Nat) : Int) := IntWalk.i64_in _ (by omega)
  have d2 : IntKind.i64.wrap (2 * ((2 ^ K : Nat) : Int) - 1) = 2 * ((2 ^ K : Nat) : Int) - 1 := IntWalk.i64_in _ (by omega)
  have d3 : (x : Int).tmod (2 * ((2 ^ K : Nat) : Int) - 1) = ((nd j q : Nat) : Int) := by
    rw [Int.tmod_eq_emod_of_nonneg (by omega), ← hp]
    have e : 2 * ((2 ^ K : Nat) : Int) - 1 = ((2 ^ (K + 1) - 1 : Nat) : Int) := by omega
    rw [e]
    exact (Int.natCast_emod _ _).symm
  have db : (a : Int).tmod ((2 ^ K : Nat) : Int) = (b : Int) := by
    rw [Int.tmod_eq_emod_of_nonneg (by omega), ← hbe]
    exact (Int.natCast_emod _ _).symm
  have d4 : IntKind.i64.wrap ((nd j q : Nat) : Int) = ((nd j q : Nat) : Int) := IntWalk.i64_in _ (by omega)
  have d5 : IntKind.i64.wrap (b : Int) = (b : Int) := IntWalk.i64_in _ (by omega)
  have d6 : ¬ (2 * ((2 ^ K : Nat) : Int) - 1) = 0 := by omega
  have d7 : ¬ ((2 ^ K : Nat) : Int) = 0 := by omega
  have d8 : IntKind.i64.wrap (2 * (b : Int)) = 2 * (b : Int) := IntWalk.i64_in _ (by omega)
  obtain ⟨r1, r2, _⟩ := ar_yes (K := K) hK (Nat.zero_le K) (show b < 2 ^ (K - 0) by simpa using hbl)
  have hnl : ((nd 0 b : Nat) : Int) = 2 * (b : Int) := by rw [nd_leaf]; omega
  rw [hnl] at r1 r2
  have OP : Hid (∀ W, Tab W → Calls Tryd.prog 23 #[.int .i64 (2 * (b : Int)), .int .i64 ((2 ^ K : Nat) : Int)] W fun e w' => (∃ v, e = .returned (.tuple #[v, .int .i64 0]) ∧ RN w' v (pathN K 0 b)) ∧ Kp W w') := fun W hTW => by
    have := mathPath_any (2 * (b : Int)) ((2 ^ K : Nat) : Int) W (by omega) (by omega) hTW
    rwa [r1, r2] at this
  obtain ⟨v1, v2⟩ := lv_nd hj10 hq10
  have OL : Hid (∀ W, Tab W → Calls Tryd.prog 29 #[.int .i64 ((nd j q : Nat) : Int)] W fun e w' => e = .returned (.tuple #[.int .i64 ((2 ^ j * q : Nat) : Int), .int .i64 ((2 ^ j * q + 2 ^ j - 1 : Nat) : Int)]) ∧ Kp W w') := fun W hTW => by
    have := mathLeaves_any ((nd j q : Nat) : Int) W (by omega) hTW
    rwa [v1, v2] at this
  have OI : Hid (∀ W v, RN W v (pathN K 0 b) → Calls Tryd.prog 32 #[v, .int .i64 ((nd j q : Nat) : Int)] W fun e w' => e = .returned (.bool (inL (pathN K 0 b) ((nd j q : Nat) : Int))) ∧ W = w') := fun W v hv => refIn_any v _ _ W hv
  have hbel := below_path (K := K) (j := j) (q := q) (a := b) hj
  have hund := under_iff j q b
  have hsum : ((2 ^ j * q : Nat) : Int) + ((2 ^ j * q + 2 ^ j - 1 : Nat) : Int) = ((nd j q : Nat) : Int) := by
    have h1 := p2_pos j
    have h2 := p2_succ j
    have e : 2 ^ (j + 1) * q = 2 * (2 ^ j * q) := by rw [h2, Nat.mul_assoc]
    unfold nd
    rw [e]
    omega
  have hhi : ((2 ^ j * q + 2 ^ j - 1 : Nat) : Int) < ((2 ^ K : Nat) : Int) := by
    have e : 2 ^ K = 2 ^ j * 2 ^ (K - j) := by rw [← Nat.pow_add]; congr 1; omega
    have h1 : 2 ^ j * (q + 1) ≤ 2 ^ K := by rw [e]; exact Nat.mul_le_mul_left _ hq
    rw [Nat.mul_add, Nat.mul_one] at h1
    have h2 := p2_pos j
    omega
  have hlo : ¬ ((2 ^ j * q : Nat) : Int) < 0 := by omega
  have hlo2 : (0 : Int) ≤ ((2 ^ j * q : Nat) : Int) := by omega
  have HBL : Hid ((((2 ^ j * q : Nat) : Int) ≤ (b : Int) ∧ (b : Int) ≤ ((2 ^ j * q + 2 ^ j - 1 : Nat) : Int)) ↔ (((nd j q : Nat) : Int) = 2 * (b : Int) ∨ inL (pathN K 0 b) ((nd j q : Nat) : Int) = true)) := by
    constructor
    · rintro ⟨h1, h2⟩
      rcases hbel.1 (hund.1 ⟨by exact_mod_cast h1, by exact_mod_cast h2⟩) with h3 | h3
      · left; omega
      · right; exact h3
    · intro h
      obtain ⟨h1, h2⟩ := hund.2 (hbel.2 (by
        rcases h with h3 | h3
        · left; omega
        · right; exact h3))
      exact ⟨by exact_mod_cast h1, by exact_mod_cast h2⟩
  generalize ((2 ^ j * q + 2 ^ j - 1 : Nat) : Int) = HI at *
  generalize ((2 ^ j * q : Nat) : Int) = LO at *
  generalize inL (pathN K 0 b) ((nd j q : Nat) : Int) = bi at *
  generalize pathN K 0 b = LP at *
  have wsum : IntKind.i64.wrap (LO + HI) = ((nd j q : Nat) : Int) := by rw [hsum]; exact d4
  generalize ((nd j q : Nat) : Int) = P at *
  have HH := Lib.hid (And.intro hsum hhi)
  clear hp hpl hb hb2 hb3 hq hx ha hKe hz hj hj10 hq10 hbe hbl r1 r2 hnl v1 v2 hbel hund hsum hhi
  go_enter Tryd.func8, Tryd.ntmps8
  go_wp2_with fail
  refine (shownMath_any _ HT.out).mono ?_
  rintro e w1 ⟨rfl, k1⟩
  have K1 := Lib.hid k1
  clear k1
  go_wp2_with fail
  go_loopw [8, 9] (fun n y wr => ∃ i : Nat, i ≤ K ∧ n = .int .i64 ((2 ^ i : Nat) : Int) ∧ y = .int .i64 (i : Int) ∧ Kp w wr) (fun _ y _ => (K - (intOf y).toNat))
  case atStart => exact ⟨0, Nat.zero_le _, rfl, rfl, K1.out⟩
  case round =>
    obtain ⟨i, hi, rfl, rfl, hkp⟩ := hrel
    by_cases hlt : i < K
    · obtain ⟨n1, n2, n3⟩ := HP.out i (by omega)
      have N3 := Lib.hid n3
      have KK := Lib.hid hkp
      generalize ((2 ^ i : Nat) : Int) = A at *
      have hw : IntKind.i64.wrap (2 * A) = 2 * A := IntWalk.i64_in _ (by omega)
      have hw2 : IntKind.i64.wrap ((i : Int) + 1) = (i : Int) + 1 := IntWalk.i64_in _ (by omega)
      have hlI : (i : Int) < (K : Int) := by omega
      clear HP n3 hkp OP OL OI HBL HH d0 da db d1 d2 d3 d4 d5 d6 d7 d8 wsum hlo hlo2
      go_wp2_with fail
      go_roundw
      case rel => exact ⟨i + 1, by omega, by rw [← N3.out], by go_num, KK.out⟩
      case measure => simp [intOf]; omega
    · obtain rfl : i = K := by omega
      have KK := Lib.hid hkp
      clear hkp K1
      clear HP
      have hhi := HH.out.2
      clear HH
      generalize ((2 ^ i : Nat) : Int) = N at *
      have bl := HBL.out
      clear HBL
      by_cases h1 : P = 2 * (b : Int)
      · obtain ⟨q1, q2⟩ := bl.2 (.inl h1)
        have h1b : (P == 2 * (b : Int)) = true := beq_iff_eq.2 h1
        clear bl h1
        go_wp2_with fail
        refine (OP.out _ (HT.out.kp (by first | exact KK.out | exact KL.out | exact KK.out.trans KL.out | exact K1.out | exact K2.out | exact K3.out | exact K4.out | exact K5.out | exact K6.out | exact K7.out | exact K8.out | exact K9.out | exact K10.out | exact K11.out | exact K12.out | exact K13.out | exact K14.out | exact K15.out | exact K16.out | exact K17.out | exact K18.out | exact K19.out | exact K20.out | exact K21.out | exact K22.out | exact K23.out | exact K24.out | exact (Kp.refl _)))).mono ?_
        rintro _ w2 ⟨⟨v, rfl, s1⟩, k2⟩
        obtain ⟨ap, np, cp, rfl⟩ := s1.sl
        have KK := Lib.hid (KK.out.trans k2)
        clear k2 s1
        go_wp2_with fail
        refine (OL.out _ (HT.out.kp (by first | exact KK.out | exact KL.out | exact KK.out.trans KL.out | exact K1.out | exact K2.out | exact K3.out | exact K4.out | exact K5.out | exact K6.out | exact K7.out | exact K8.out | exact K9.out | exact K10.out | exact K11.out | exact K12.out | exact K13.out | exact K14.out | exact K15.out | exact K16.out | exact K17.out | exact K18.out | exact K19.out | exact K20.out | exact K21.out | exact K22.out | exact K23.out | exact K24.out | exact (Kp.refl _)))).mono ?_
        rintro _ w3 ⟨rfl, k3⟩
        have KK := Lib.hid (KK.out.trans k3)
        clear k3
        go_wp2_with fail
        go_ret
        exact ⟨rfl, KK.out⟩
      · have h1b : (P == 2 * (b : Int)) = false := beq_eq_false_iff_ne.2 h1
        have bl2 : (LO ≤ (b : Int) ∧ (b : Int) ≤ HI) ↔ bi = true := ⟨fun h => (bl.1 h).resolve_left h1, fun h => bl.2 (.inr h)⟩
        clear bl
        cases bi with
        | true =>
          obtain ⟨q1, q2⟩ := bl2.2 rfl
          clear bl2
          go_wp2_with fail
          refine (OP.out _ (HT.out.kp (by first | exact KK.out | exact KL.out | exact KK.out.trans KL.out | exact K1.out | exact K2.out | exact K3.out | exact K4.out | exact K5.out | exact K6.out | exact K7.out | exact K8.out | exact K9.out | exact K10.out | exact K11.out | exact K12.out | exact K13.out | exact K14.out | exact K15.out | exact K16.out | exact K17.out | exact K18.out | exact K19.out | exact K20.out | exact K21.out | exact K22.out | exact K23.out | exact K24.out | exact (Kp.refl _)))).mono ?_
          rintro _ w2 ⟨⟨v, rfl, s1⟩, k2⟩
          obtain ⟨ap, np, cp, rfl⟩ := s1.sl
          have KK := Lib.hid (KK.out.trans k2)
          have Q := Lib.hid s1
          clear k2 s1
          go_wp2_with fail
          refine (OL.out _ (HT.out.kp (by first | exact KK.out | exact KL.out | exact KK.out.trans KL.out | exact K1.out | exact K2.out | exact K3.out | exact K4.out | exact K5.out | exact K6.out | exact K7.out | exact K8.out | exact K9.out | exact K10.out | exact K11.out | exact K12.out | exact K13.out | exact K14.out | exact K15.out | exact K16.out | exact K17.out | exact K18.out | exact K19.out | exact K20.out | exact K21.out | exact K22.out | exact K23.out | exact K24.out | exact (Kp.refl _)))).mono ?_
          rintro _ w3 ⟨rfl, k3⟩
          have Q := Lib.hid (Q.out.kp k3)
          have KK := Lib.hid (KK.out.trans k3)
          clear k3
          go_wp2_with fail
          refine (OI.out _ _ Q.out).mono ?_
          rintro _ _ ⟨rfl, rfl⟩
          go_wp2_with fail
          go_ret
          exact ⟨rfl, KK.out⟩
        | false =>
          have hno : ¬ (LO ≤ (b : Int) ∧ (b : Int) ≤ HI) := fun h => by have := bl2.1 h; cases this
          clear bl2
          by_cases q1 : LO ≤ (b : Int)
          · have q2 : ¬ (b : Int) ≤ HI := fun h => hno ⟨q1, h⟩
            have q3 : decide ((b : Int) ≤ HI) = false := decide_eq_false q2
            clear hno
            go_wp2_with fail
            refine (OP.out _ (HT.out.kp (by first | exact KK.out | exact KL.out | exact KK.out.trans KL.out | exact K1.out | exact K2.out | exact K3.out | exact K4.out | exact K5.out | exact K6.out | exact K7.out | exact K8.out | exact K9.out | exact K10.out | exact K11.out | exact K12.out | exact K13.out | exact K14.out | exact K15.out | exact K16.out | exact K17.out | exact K18.out | exact K19.out | exact K20.out | exact K21.out | exact K22.out | exact K23.out | exact K24.out | exact (Kp.refl _)))).mono ?_
            rintro _ w2 ⟨⟨v, rfl, s1⟩, k2⟩
            obtain ⟨ap, np, cp, rfl⟩ := s1.sl
            have KK := Lib.hid (KK.out.trans k2)
            have Q := Lib.hid s1
            clear k2 s1
            go_wp2_with fail
            refine (OL.out _ (HT.out.kp (by first | exact KK.out | exact KL.out | exact KK.out.trans KL.out | exact K1.out | exact K2.out | exact K3.out | exact K4.out | exact K5.out | exact K6.out | exact K7.out | exact K8.out | exact K9.out | exact K10.out | exact K11.out | exact K12.out | exact K13.out | exact K14.out | exact K15.out | exact K16.out | exact K17.out | exact K18.out | exact K19.out | exact K20.out | exact K21.out | exact K22.out | exact K23.out | exact K24.out | exact (Kp.refl _)))).mono ?_
            rintro _ w3 ⟨rfl, k3⟩
            have Q := Lib.hid (Q.out.kp k3)
            have KK := Lib.hid (KK.out.trans k3)
            clear k3
            go_wp2_with fail
            refine (OI.out _ _ Q.out).mono ?_
            rintro _ _ ⟨rfl, rfl⟩
            go_wp2_with fail
            go_ret
            exact ⟨rfl, KK.out⟩
          · clear hno
            go_wp2_with fail
            refine (OP.out _ (HT.out.kp (by first | exact KK.out | exact KL.out | exact KK.out.trans KL.out | exact K1.out | exact K2.out | exact K3.out | exact K4.out | exact K5.out | exact K6.out | exact K7.out | exact K8.out | exact K9.out | exact K10.out | exact K11.out | exact K12.out | exact K13.out | exact K14.out | exact K15.out | exact K16.out | exact K17.out | exact K18.out | exact K19.out | exact K20.out | exact K21.out | exact K22.out | exact K23.out | exact K24.out | exact (Kp.refl _)))).mono ?_
            rintro _ w2 ⟨⟨v, rfl, s1⟩, k2⟩
            obtain ⟨ap, np, cp, rfl⟩ := s1.sl
            have KK := Lib.hid (KK.out.trans k2)
            have Q := Lib.hid s1
            clear k2 s1
            go_wp2_with fail
            refine (OL.out _ (HT.out.kp (by first | exact KK.out | exact KL.out | exact KK.out.trans KL.out | exact K1.out | exact K2.out | exact K3.out | exact K4.out | exact K5.out | exact K6.out | exact K7.out | exact K8.out | exact K9.out | exact K10.out | exact K11.out | exact K12.out | exact K13.out | exact K14.out | exact K15.out | exact K16.out | exact K17.out | exact K18.out | exact K19.out | exact K20.out | exact K21.out | exact K22.out | exact K23.out | exact K24.out | exact (Kp.refl _)))).mono ?_
            rintro _ w3 ⟨rfl, k3⟩
            have Q := Lib.hid (Q.out.kp k3)
            have KK := Lib.hid (KK.out.trans k3)
            clear k3
            go_wp2_with fail
            refine (OI.out _ _ Q.out).mono ?_
            rintro _ _ ⟨rfl, rfl⟩
            go_wp2_with fail
            go_ret
            exact ⟨rfl, KK.out⟩
end Go.Proofs.YtcomgbneacbncaaDoor

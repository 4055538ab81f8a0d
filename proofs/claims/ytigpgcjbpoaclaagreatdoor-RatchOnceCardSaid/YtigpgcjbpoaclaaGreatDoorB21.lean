import Derived.Test.YtigpgcjbpoaclaaGreatDoorB6
set_option linter.unusedVariables false
set_option linter.unusedSimpArgs false
namespace Go.Proofs.YtigpgcjbpoaclaaGreatDoor
open Go.RowKit
set_option maxHeartbeats 1000000 in
theorem refLeft_any (x : Int) (w : World) : Calls Tryz.prog 54 #[.int .i64 x] w fun e w' => e = .returned (.tuple #[.int .i64 (lefV x), .int .i64 (chE x)]) ∧ w = w' := by
  have HLV := Lib.hid (refLevel_any x w)
  by_cases h : levV x = 0
  · rw [show lefV x = 0 from if_pos h, show chE x = 1 from if_pos h]
    rw [h] at HLV
    clear h
    go_enter Tryz.func54, Tryz.ntmps54
    go_wp2_with fail
    refine HLV.out.mono ?_; rintro _ _ ⟨rfl, rfl⟩
    go_wp2_with fail
    go_ret2
    exact ⟨rfl, rfl⟩
  · have hok : okN x := by
      by_cases h2 : okN x
      · exact h2
      · exact absurd (levV_no h2) h
    obtain ⟨j, q, rfl, hj, hq⟩ := (small_iff x).1 hok
    have hb := (small_iff ((nd j q : Nat) : Int)).2 ⟨j, q, rfl, hj, hq⟩
    rw [levV_nd hj hq] at h HLV
    cases j with
    | zero => exact absurd rfl h
    | succ j =>
      obtain ⟨e1, e2, e3⟩ := ch_yes (j := j) hj hq
      rw [e1, e2]
      have HH := Lib.hid (refHalf8_any j w (by omega))
      have hp : (2 : Nat) ^ j ≤ 2 ^ 10 := Nat.pow_le_pow_right (by omega) (by omega)
      have hl := nd_left j q
      have hr := nd_right j q
      have i1 : IntKind.i64.wrap (((j + 1 : Nat) : Int) - 1) = (j : Int) := by rw [IntWalk.i64_in _ (by omega)]; omega
      obtain ⟨M, hM⟩ : ∃ M, 2 ^ j = M := ⟨_, rfl⟩
      rw [hM] at HH hp hl hr
      have i2 : IntKind.i64.wrap (((nd (j + 1) q : Nat) : Int) - (M : Int)) = ((nd j (2 * q) : Nat) : Int) := by rw [IntWalk.i64_in _ (by omega)]; omega
      have i3 : (((j + 1 : Nat) : Int) == 0) = false := beq_eq_false_iff_ne.2 (by omega)
      have i4 : ¬ ((j + 1 : Nat) : Int) = 0 := by omega
      generalize ((nd (j + 1) q : Nat) : Int) = X at *
      generalize ((nd j (2 * q) : Nat) : Int) = Y at *
      generalize ((j + 1 : Nat) : Int) = J at *
      clear h hok hb e1 e2 e3 hp hl hr hM hj hq
      go_enter Tryz.func54, Tryz.ntmps54
      go_wp2_with fail
      refine HLV.out.mono ?_; rintro _ _ ⟨rfl, rfl⟩
      go_wp2_with fail
      refine HH.out.mono ?_; rintro _ _ ⟨rfl, rfl⟩
      go_wp2_with fail
      go_ret2
      exact ⟨rfl, rfl⟩
set_option maxHeartbeats 1000000 in
theorem refRight_any (x : Int) (w : World) : Calls Tryz.prog 55 #[.int .i64 x] w fun e w' => e = .returned (.tuple #[.int .i64 (rigV x), .int .i64 (chE x)]) ∧ w = w' := by
  have HLV := Lib.hid (refLevel_any x w)
  by_cases h : levV x = 0
  · rw [show rigV x = 0 from if_pos h, show chE x = 1 from if_pos h]
    rw [h] at HLV
    clear h
    go_enter Tryz.func55, Tryz.ntmps55
    go_wp2_with fail
    refine HLV.out.mono ?_; rintro _ _ ⟨rfl, rfl⟩
    go_wp2_with fail
    go_ret2
    exact ⟨rfl, rfl⟩
  · have hok : okN x := by
      by_cases h2 : okN x
      · exact h2
      · exact absurd (levV_no h2) h
    obtain ⟨j, q, rfl, hj, hq⟩ := (small_iff x).1 hok
    have hb := (small_iff ((nd j q : Nat) : Int)).2 ⟨j, q, rfl, hj, hq⟩
    rw [levV_nd hj hq] at h HLV
    cases j with
    | zero => exact absurd rfl h
    | succ j =>
      obtain ⟨e1, e2, e3⟩ := ch_yes (j := j) hj hq
      rw [e1, e3]
      have HH := Lib.hid (refHalf8_any j w (by omega))
      have hp : (2 : Nat) ^ j ≤ 2 ^ 10 := Nat.pow_le_pow_right (by omega) (by omega)
      have hl := nd_left j q
      have hr := nd_right j q
      have i1 : IntKind.i64.wrap (((j + 1 : Nat) : Int) - 1) = (j : Int) := by rw [IntWalk.i64_in _ (by omega)]; omega
      obtain ⟨M, hM⟩ : ∃ M, 2 ^ j = M := ⟨_, rfl⟩
      rw [hM] at HH hp hl hr
      have i2 : IntKind.i64.wrap (((nd (j + 1) q : Nat) : Int) + (M : Int)) = ((nd j (2 * q + 1) : Nat) : Int) := by rw [IntWalk.i64_in _ (by omega)]; omega
      have i3 : (((j + 1 : Nat) : Int) == 0) = false := beq_eq_false_iff_ne.2 (by omega)
      have i4 : ¬ ((j + 1 : Nat) : Int) = 0 := by omega
      generalize ((nd (j + 1) q : Nat) : Int) = X at *
      generalize ((nd j (2 * q + 1) : Nat) : Int) = Y at *
      generalize ((j + 1 : Nat) : Int) = J at *
      clear h hok hb e1 e2 e3 hp hl hr hM hj hq
      go_enter Tryz.func55, Tryz.ntmps55
      go_wp2_with fail
      refine HLV.out.mono ?_; rintro _ _ ⟨rfl, rfl⟩
      go_wp2_with fail
      refine HH.out.mono ?_; rintro _ _ ⟨rfl, rfl⟩
      go_wp2_with fail
      go_ret2
      exact ⟨rfl, rfl⟩
theorem ch_nd_or (p : Int) : chE p = 1 ∨ chE p = 0 := by unfold chE; split <;> simp
theorem child_iff {j q : Nat} (p : Nat) (hp : p ≤ 2046) (hj : j ≤ 10) :
    (chE (p : Int) = 0 ∧ (lefV (p : Int) = ((nd j q : Nat) : Int) ∨ rigV (p : Int) = ((nd j q : Nat) : Int))) ↔ p = nd (j + 1) (q / 2) := by
  obtain ⟨i, r, e, hi, hr⟩ := nd_of 10 p (by omega)
  subst e
  cases i with
  | zero =>
    obtain ⟨e1, e2, e3⟩ := ch_leaf (q := r) (by simpa using hr)
    rw [e1]
    constructor
    · rintro ⟨h, _⟩; omega
    · intro h; exact absurd (nd_inj h).1 (by omega)
  | succ i =>
    obtain ⟨e1, e2, e3⟩ := ch_yes (j := i) hi hr
    rw [e1, e2, e3]
    constructor
    · rintro ⟨_, h | h⟩
      · obtain ⟨rfl, rfl⟩ := nd_inj (Int.ofNat.inj h)
        congr 1; omega
      · obtain ⟨rfl, rfl⟩ := nd_inj (Int.ofNat.inj h)
        congr 1; omega
    · intro h
      obtain ⟨h1, h2⟩ := nd_inj h
      obtain rfl : i = j := by omega
      refine ⟨rfl, ?_⟩
      by_cases h3 : q % 2 = 0
      · left; congr 2; omega
      · right; congr 2; omega
set_option maxHeartbeats 2000000 in
theorem refParent_yes (X n : Int) (W T : Nat) (w : World) (hn : IntKind.i64.wrap (2 * n) = 2 * n) (hW : 2 * n - 1 = (W : Int)) (hWb : W ≤ 2047) (hin : inB X n = true) (hn2 : -9223372036854775808 ≤ n ∧ n ≤ 9223372036854775807)
    (hm : ∀ p : Nat, p ≤ 2046 → ((chE (p : Int) = 0 ∧ (lefV (p : Int) = X ∨ rigV (p : Int) = X)) ↔ p = T)) :
    Calls Tryz.prog 41 #[.int .i64 X, .int .i64 n] w fun e w' => e = .returned (if T < W then .tuple #[.int .i64 (T : Int), .int .i64 0] else .tuple #[.int .i64 0, .int .i64 11]) ∧ w = w' := by
  have HN := Lib.hid (refNode_any X n w hn2)
  rw [hin] at HN
  have HM := Lib.hid hm
  have HL := Lib.hid (fun (p : Nat) => refLeft_any (p : Int) w)
  have HR := Lib.hid (fun (p : Nat) => refRight_any (p : Int) w)
  have i1 : IntKind.i64.wrap (2 * n - 1) = (W : Int) := by rw [hW]; exact IntWalk.i64_in _ (by omega)
  have i0 : IntKind.i64.wrap (W : Int) = (W : Int) := IntWalk.i64_in _ (by omega)
  obtain ⟨V, hV⟩ : ∃ V, (if T < W then (.tuple #[.int .i64 (T : Int), .int .i64 0] : Value) else .tuple #[.int .i64 0, .int .i64 11]) = V := ⟨_, rfl⟩
  rw [hV]
  have HV := Lib.hid hV
  have HT := Lib.hid (Nat.lt_or_ge T W)
  clear hm hin hn2 hV
  go_enter Tryz.func41, Tryz.ntmps41
  go_wp2_with fail
  refine HN.out.mono ?_; rintro _ _ ⟨rfl, rfl⟩
  clear HN
  go_wp2_with fail
  go_loop [7] (fun y => ∃ p : Nat, p ≤ W ∧ p ≤ T ∧ y = .int .i64 (p : Int)) (fun y => (W - (intOf y).toNat))
  case atStart => exact ⟨0, Nat.zero_le _, Nat.zero_le _, rfl⟩
  case round =>
    obtain ⟨p, hp, hpT, rfl⟩ := hrel
    by_cases hlt : p < W
    · have hltI : (p : Int) < (W : Int) := by omega
      have hmp := HM.out p (by omega)
      have HLp := Lib.hid (HL.out p)
      have HRp := Lib.hid (HR.out p)
      have i2 : IntKind.i64.wrap ((p : Int) + 1) = (p : Int) + 1 := IntWalk.i64_in _ (by omega)
      have hE := ch_nd_or (p : Int)
      clear HM HL HR hW
      generalize chE (p : Int) = E at *
      generalize lefV (p : Int) = L at *
      generalize rigV (p : Int) = R at *
      by_cases he : p = T
      · obtain ⟨h1, h2⟩ := hmp.2 he
        have HV2 : Hid (V = .tuple #[.int .i64 (p : Int), .int .i64 0]) := by have := HV.out; rw [if_pos (by omega)] at this; rw [he]; exact this.symm
        subst h1
        clear hmp hE HV HT he hpT
        by_cases h3 : L = X
        · subst h3
          clear h2
          go_wp2_with fail
          refine HLp.out.mono ?_; rintro _ _ ⟨rfl, rfl⟩
          go_wp2_with fail
          refine HRp.out.mono ?_; rintro _ _ ⟨rfl, rfl⟩
          go_wp2
          go_ret2
          exact ⟨by rw [HV2.out] <;> rfl, rfl⟩
        · have h4 : R = X := h2.resolve_left h3
          subst h4
          have b1 : (L == R) = false := beq_eq_false_iff_ne.2 h3
          clear h2
          go_wp2_with fail
          refine HLp.out.mono ?_; rintro _ _ ⟨rfl, rfl⟩
          go_wp2_with fail
          refine HRp.out.mono ?_; rintro _ _ ⟨rfl, rfl⟩
          go_wp2
          go_ret2
          exact ⟨by rw [HV2.out] <;> rfl, rfl⟩
      · have hno : ¬ (E = 0 ∧ (L = X ∨ R = X)) := fun h => he (hmp.1 h)
        have hpT2 : p + 1 ≤ T := by omega
        clear hmp HV HT he hpT
        rcases hE with h1 | h1
        · subst h1
          clear hno
          go_wp2_with fail
          refine HLp.out.mono ?_; rintro _ _ ⟨rfl, rfl⟩
          go_wp2_with fail
          refine HRp.out.mono ?_; rintro _ _ ⟨rfl, rfl⟩
          go_wp2
          go_round
          case rel => exact ⟨p + 1, by omega, hpT2, by go_num⟩
          case measure => simp [intOf]; omega
        · subst h1
          have h3 : ¬ L = X := fun h => hno ⟨rfl, .inl h⟩
          have h4 : ¬ R = X := fun h => hno ⟨rfl, .inr h⟩
          have b1 : (L == X) = false := beq_eq_false_iff_ne.2 h3
          have b2 : (R == X) = false := beq_eq_false_iff_ne.2 h4
          clear hno
          go_wp2_with fail
          refine HLp.out.mono ?_; rintro _ _ ⟨rfl, rfl⟩
          go_wp2_with fail
          refine HRp.out.mono ?_; rintro _ _ ⟨rfl, rfl⟩
          go_wp2
          go_round
          case rel => exact ⟨p + 1, by omega, hpT2, by go_num⟩
          case measure => simp [intOf]; omega
    · obtain rfl : p = W := by omega
      have HV2 : Hid (V = .tuple #[.int .i64 0, .int .i64 11]) := by have := HV.out; rw [if_neg (by omega)] at this; exact this.symm
      clear HM HL HR HV HT hW hpT
      go_wp2
      go_ret2
      exact ⟨by rw [HV2.out] <;> rfl, rfl⟩
set_option maxHeartbeats 1000000 in
theorem refParent_any (x n : Int) (w : World) (hn2 : -9223372036854775808 ≤ n ∧ n ≤ 9223372036854775807) : Calls Tryz.prog 41 #[.int .i64 x, .int .i64 n] w fun e w' => e = .returned (.tuple #[.int .i64 (paV x n), .int .i64 (paE x n)]) ∧ w = w' := by
  by_cases h : inB x n = true
  · obtain ⟨K, j, q, hK, rfl, rfl, hj, hq⟩ := (inB_iff x n).1 h
    obtain ⟨_, hj10, hq10⟩ := nd_small hK hj hq
    have h1 := p2_le hK
    have h2 := p2_pos K
    have h3 := p2_succ K
    obtain ⟨W, hW⟩ : ∃ W, 2 ^ (K + 1) - 1 = W := ⟨_, rfl⟩
    have := refParent_yes ((nd j q : Nat) : Int) ((2 ^ K : Nat) : Int) W (nd (j + 1) (q / 2)) w (IntWalk.i64_in _ (by omega)) (by omega) (by omega) h hn2 (fun p hp => child_iff p hp hj10)
    refine this.mono ?_
    rintro _ _ ⟨rfl, rfl⟩
    by_cases hr : j = K
    · subst hr
      have hq0 : q = 0 := by simp at hq; exact hq
      subst hq0
      obtain ⟨e1, e2, _⟩ := pa_root hK
      rw [e1, e2, if_neg]
      · exact ⟨rfl, rfl⟩
      · intro hlt
        rw [← hW] at hlt
        have := (nd_in hlt).1
        omega
    · obtain ⟨e1, e2, _⟩ := pa_yes (K := K) (j := j) (q := q) hK (by omega) hq
      rw [e1, e2, if_pos]
      · exact ⟨rfl, rfl⟩
      · rw [← hW]
        refine nd_lt (by omega) ?_
        have e : K - j = (K - (j + 1)) + 1 := by omega
        rw [e, p2_succ] at hq
        omega
  · obtain ⟨e1, e2, _⟩ := pa_no h
    have h2 : inB x n = false := by rw [Bool.eq_false_iff]; exact h
    have HN := Lib.hid (refNode_any x n w hn2)
    rw [h2] at HN
    rw [e1, e2]
    clear h h2 e1 e2 hn2
    go_enter Tryz.func41, Tryz.ntmps41
    go_wp2_with fail
    refine HN.out.mono ?_; rintro _ _ ⟨rfl, rfl⟩
    go_wp2_with fail
    go_ret2
    exact ⟨rfl, rfl⟩
end Go.Proofs.YtigpgcjbpoaclaaGreatDoor

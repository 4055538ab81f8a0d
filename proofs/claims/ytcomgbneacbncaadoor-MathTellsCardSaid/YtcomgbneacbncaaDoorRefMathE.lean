/- pyxref08: Leaves, Ints, In. -/
import Derived.Test.YtcomgbneacbncaaDoorRefMathD
set_option linter.unusedVariables false
set_option linter.unusedSimpArgs false
namespace Go.Proofs.YtcomgbneacbncaaDoor
open Go.RowKit

theorem down_lt {j q i : Nat} (hj : j ≤ 10) (hi : i ≤ j) (hq : q < 2 ^ (10 - j)) : 2 ^ (j - i) * q + 2 ^ (j - i) - 1 < 2 ^ (10 - i) := by
  have e : 2 ^ (10 - i) = 2 ^ (j - i) * 2 ^ (10 - j) := by rw [← Nat.pow_add]; congr 1; omega
  have h1 : 2 ^ (j - i) * (q + 1) ≤ 2 ^ (10 - i) := by rw [e]; exact Nat.mul_le_mul_left _ hq
  rw [Nat.mul_add, Nat.mul_one] at h1
  have := p2_pos (j - i)
  omega
/-- The way down to a first and to a last leaf. -/
theorem down {j q : Nat} (hj : j ≤ 10) (hq : q < 2 ^ (10 - j)) (f g : Nat → Nat) (hf : f = fun i => nd i (2 ^ (j - i) * q)) (hg : g = fun i => nd i (2 ^ (j - i) * q + 2 ^ (j - i) - 1)) :
    (∀ i, i ≤ j → levV ((f i : Nat) : Int) = (i : Int) ∧ lev (f i) = i ∧ levV ((g i : Nat) : Int) = (i : Int) ∧ lev (g i) = i) ∧
    (∀ i, i + 1 ≤ j → chE ((f (i + 1) : Nat) : Int) = 0 ∧ lefV ((f (i + 1) : Nat) : Int) = ((f i : Nat) : Int) ∧ chE ((g (i + 1) : Nat) : Int) = 0 ∧ rigV ((g (i + 1) : Nat) : Int) = ((g i : Nat) : Int)) ∧
    f j = nd j q ∧ g j = nd j q ∧ ((f 0 : Nat) : Int).tdiv 2 = ((2 ^ j * q : Nat) : Int) ∧ ((g 0 : Nat) : Int).tdiv 2 = ((2 ^ j * q + 2 ^ j - 1 : Nat) : Int) := by
  subst hf hg
  have hb : ∀ i, i ≤ j → 2 ^ (j - i) * q < 2 ^ (10 - i) ∧ 2 ^ (j - i) * q + 2 ^ (j - i) - 1 < 2 ^ (10 - i) := fun i hi => by
    have h1 := down_lt hj hi hq
    have h2 := p2_pos (j - i)
    omega
  refine ⟨fun i hi => ?_, fun i hi => ?_, ?_, ?_, ?_, ?_⟩
  · obtain ⟨h1, h2⟩ := hb i hi
    exact ⟨levV_nd (by omega) h1, lev_nd _ _ (by omega), levV_nd (by omega) h2, lev_nd _ _ (by omega)⟩
  · obtain ⟨h1, h2⟩ := hb (i + 1) hi
    obtain ⟨e1, e2, _⟩ := ch_yes (j := i) (q := 2 ^ (j - (i + 1)) * q) (by omega) h1
    obtain ⟨d1, _, d3⟩ := ch_yes (j := i) (q := 2 ^ (j - (i + 1)) * q + 2 ^ (j - (i + 1)) - 1) (by omega) h2
    have e : j - i = (j - (i + 1)) + 1 := by omega
    have hp := p2_pos (j - (i + 1))
    refine ⟨e1, ?_, d1, ?_⟩
    · rw [e2]
      simp only []
      rw [e, p2_succ, Nat.mul_assoc]
    · rw [d3]
      simp only []
      rw [e, p2_succ, Nat.mul_assoc]
      congr 2
      omega
  · simp
  · simp
  · simp only [Nat.sub_zero]
    rw [nd_leaf, Int.tdiv_eq_ediv_of_nonneg (by omega)]
    omega
  · simp only [Nat.sub_zero]
    rw [nd_leaf, Int.tdiv_eq_ediv_of_nonneg (by omega)]
    omega

set_option maxHeartbeats 2000000 in
theorem refLeaves_yes (j q : Nat) (w : World) (hj : j ≤ 10) (hq : q < 2 ^ (10 - j)) :
    Calls Tryd.prog 30 #[.int .i64 ((nd j q : Nat) : Int)] w fun e w' => e = .returned (.tuple #[.int .i64 ((2 ^ j * q : Nat) : Int), .int .i64 ((2 ^ j * q + 2 ^ j - 1 : Nat) : Int)]) ∧ w = w' := by
  obtain ⟨b0, b1⟩ := (small_iff ((nd j q : Nat) : Int)).2 ⟨j, q, rfl, hj, hq⟩
  obtain ⟨f, hf⟩ : ∃ f : Nat → Nat, f = fun i => nd i (2 ^ (j - i) * q) := ⟨_, rfl⟩
  obtain ⟨g, hg⟩ : ∃ g : Nat → Nat, g = fun i => nd i (2 ^ (j - i) * q + 2 ^ (j - i) - 1) := ⟨_, rfl⟩
  obtain ⟨d1, d2, d3, d4, d5, d6⟩ := down hj hq f g hf hg
  have hl : 2 ^ j * q + 2 ^ j - 1 < 2 ^ (10 - 0) := by have := down_lt hj (Nat.zero_le j) hq; simpa using this
  have D1 := Lib.hid d1
  have D2 := Lib.hid d2
  have HLV : Hid (∀ x, Calls Tryd.prog 18 #[.int .i64 x] w fun e w' => e = .returned (.int .i64 (levV x)) ∧ w = w') := fun x => refLevel_any x w
  have HLF : Hid (∀ x, Calls Tryd.prog 14 #[.int .i64 x] w fun e w' => e = .returned (.tuple #[.int .i64 (lefV x), .int .i64 (chE x)]) ∧ w = w') := fun x => refLeft_any x w
  have HRT : Hid (∀ x, Calls Tryd.prog 16 #[.int .i64 x] w fun e w' => e = .returned (.tuple #[.int .i64 (rigV x), .int .i64 (chE x)]) ∧ w = w') := fun x => refRight_any x w
  have hlo : IntKind.i64.wrap ((2 ^ j * q : Nat) : Int) = ((2 ^ j * q : Nat) : Int) := IntWalk.i64_in _ (by have := p2_pos j; omega)
  have hhi : IntKind.i64.wrap ((2 ^ j * q + 2 ^ j - 1 : Nat) : Int) = ((2 ^ j * q + 2 ^ j - 1 : Nat) : Int) := IntWalk.i64_in _ (by omega)
  have D5 := Lib.hid (And.intro d5 d6)
  have D3 := Lib.hid (And.intro d3 d4)
  generalize ((2 ^ j * q : Nat) : Int) = LO at *
  generalize ((2 ^ j * q + 2 ^ j - 1 : Nat) : Int) = HI at *
  generalize nd j q = X at *
  clear d1 d2 d3 d4 d5 d6 hf hg hl hq
  go_enter Tryd.func30, Tryd.ntmps30
  go_wp2_with fail
  go_loop [4] (fun a => ∃ i : Nat, i ≤ j ∧ a = .int .i64 ((f i : Nat) : Int)) (fun a => lev (intOf a).toNat)
  case atStart => exact ⟨j, Nat.le_refl _, by rw [D3.out.1]⟩
  case round =>
    obtain ⟨i, hi, rfl⟩ := hrel
    have HL1 := HLV.out ((f i : Nat) : Int)
    rw [(D1.out i hi).1] at HL1
    have HL2 := Lib.hid HL1
    clear HL1
    cases i with
    | succ i =>
      obtain ⟨c1, c2, _, _⟩ := D2.out i hi
      have HF1 := HLF.out ((f (i + 1) : Nat) : Int)
      rw [c1, c2] at HF1
      have HF2 := Lib.hid HF1
      have hlv := Lib.hid (And.intro (D1.out (i + 1) hi).2.1 (D1.out i (by omega)).2.1)
      have hp : 0 < ((i + 1 : Nat) : Int) := by omega
      generalize ((i + 1 : Nat) : Int) = I at *
      clear HF1 c1 c2 D1 D2 HLV HLF HRT D5 D3
      go_wp2_with fail
      refine HL2.out.mono ?_; rintro _ _ ⟨rfl, rfl⟩
      go_wp2_with fail
      refine HF2.out.mono ?_; rintro _ _ ⟨rfl, rfl⟩
      go_wp2_with fail
      go_round
      case rel => exact ⟨i, by omega, rfl⟩
      case measure => have := hlv.out; simp [intOf]; omega
    | zero =>
      have i1 := D5.out.1
      go_wp2_with fail
      refine HL2.out.mono ?_; rintro _ _ ⟨rfl, rfl⟩
      clear HL2 hi HLF
      go_wp2_with fail
      go_loop [5] (fun b => ∃ i : Nat, i ≤ j ∧ b = .int .i64 ((g i : Nat) : Int)) (fun b => lev (intOf b).toNat)
      case atStart => exact ⟨j, Nat.le_refl _, by rw [D3.out.2]⟩
      case round =>
        obtain ⟨i, hi, rfl⟩ := hrel
        have HL1 := HLV.out ((g i : Nat) : Int)
        rw [(D1.out i hi).2.2.1] at HL1
        have HL2 := Lib.hid HL1
        clear HL1
        cases i with
        | succ i =>
          obtain ⟨_, _, c1, c2⟩ := D2.out i hi
          have HF1 := HRT.out ((g (i + 1) : Nat) : Int)
          rw [c1, c2] at HF1
          have HF2 := Lib.hid HF1
          have hlv := Lib.hid (And.intro (D1.out (i + 1) hi).2.2.2 (D1.out i (by omega)).2.2.2)
          have hp : 0 < ((i + 1 : Nat) : Int) := by omega
          generalize ((i + 1 : Nat) : Int) = I at *
          clear HF1 c1 c2 D1 D2 HLV HRT D5 D3
          go_wp2_with fail
          refine HL2.out.mono ?_; rintro _ _ ⟨rfl, rfl⟩
          go_wp2_with fail
          refine HF2.out.mono ?_; rintro _ _ ⟨rfl, rfl⟩
          go_wp2_with fail
          go_round
          case rel => exact ⟨i, by omega, rfl⟩
          case measure => have := hlv.out; simp [intOf]; omega
        | zero =>
          have i2 := D5.out.2
          clear D2 D1 HLV HRT D3 D5
          go_wp2_with fail
          refine HL2.out.mono ?_; rintro _ _ ⟨rfl, rfl⟩
          go_wp2_with fail
          go_ret2
          exact ⟨rfl, rfl⟩

set_option maxHeartbeats 1000000 in
theorem refLeaves_any (x : Int) (w : World) :
    Calls Tryd.prog 30 #[.int .i64 x] w fun e w' => e = .returned (.tuple #[.int .i64 (loV x), .int .i64 (hiV x)]) ∧ w = w' := by
  by_cases h : okN x
  · obtain ⟨j, q, rfl, hj, hq⟩ := (small_iff x).1 h
    obtain ⟨e1, e2⟩ := lv_nd hj hq
    rw [e1, e2]
    exact refLeaves_yes j q w hj hq
  · obtain ⟨e1, e2⟩ := lv_no h
    rw [e1, e2]
    unfold okN at h
    by_cases h0 : x < 0
    · clear h e1 e2
      go_enter Tryd.func30, Tryd.ntmps30
      go_wp2_with fail
      go_ret2
      exact ⟨rfl, rfl⟩
    · have h1 : 2046 < x := by omega
      clear h e1 e2
      go_enter Tryd.func30, Tryd.ntmps30
      go_wp2_with fail
      go_ret2
      exact ⟨rfl, rfl⟩

set_option maxHeartbeats 1000000 in
theorem refInts_any (u v : Value) (l m : List Nat) (w : World) (hu : RN w u l) (hv : RN w v m) :
    Calls Tryd.prog 31 #[u, v] w fun e w' => e = .returned (.bool (decide (l = m))) ∧ Kp w w' := by
  obtain ⟨a1, c1, rfl, p1, s1⟩ := hu.shape
  obtain ⟨a2, c2, rfl, p2, s2⟩ := hv.shape
  unfold maxLen at s1 s2
  by_cases hlen : l.length = m.length
  · have HEQ : Hid (∀ k, k < l.length → l.getD k 0 ≠ m.getD k 0 → decide (l = m) = false) := fun k hk hne => decide_eq_false (fun h => hne (by rw [h]))
    have HALL : Hid ((∀ k, k < l.length → l.getD k 0 = m.getD k 0) → decide (l = m) = true) := fun h => by
      refine decide_eq_true (List.ext_getElem hlen fun k h1 h2 => ?_)
      have := h k h1
      rwa [List.getD_eq_getElem?_getD, List.getElem?_eq_getElem h1, List.getD_eq_getElem?_getD, List.getElem?_eq_getElem h2] at this
    generalize decide (l = m) = b at *
    have HU := Lib.hid hu
    have HV := Lib.hid hv
    rw [← hlen] at HV p2 ⊢
    obtain ⟨N, hN⟩ : ∃ N, l.length = N := ⟨_, rfl⟩
    rw [hN] at HU HV p1 p2 HEQ HALL ⊢
    clear hu hv hlen hN
    go_enter Tryd.func31, Tryd.ntmps31
    go_wp2_with fail
    go_loopw [5] (fun i wr => ∃ k : Nat, k ≤ N ∧ i = .int .i64 (k : Int) ∧ (∀ t, t < k → l.getD t 0 = m.getD t 0) ∧ Kp w wr) (fun i _ => (N - (intOf i).toNat))
    case atStart => exact ⟨0, Nat.zero_le _, rfl, fun t h => by omega, Kp.refl _⟩
    case round =>
      obtain ⟨k, hk, rfl, hpre, hkp⟩ := hrel
      by_cases hlt : k < N
      · obtain ⟨g1, o1, rfl, _, hc1⟩ := HU.out.at k hlt
        obtain ⟨g2, o2, rfl, _, hc2⟩ := HV.out.at k hlt
        have h1 := hkp.cell (hc1 k hlt)
        have h2 := hkp.cell (hc2 k hlt)
        have HEQ2 := HEQ.out k hlt
        have HPRE : Hid (l.getD k 0 = m.getD k 0 → ∀ t, t < k + 1 → l.getD t 0 = m.getD t 0) := fun he t ht => by
          rcases Nat.lt_or_eq_of_le (Nat.lt_succ_iff.1 ht) with h3 | h3
          · exact hpre t h3
          · rw [h3]; exact he
        have i1 : IntKind.i64.wrap ((k : Int) + 1) = (k : Int) + 1 := IntWalk.i64_in _ (by omega)
        have KK := Lib.hid hkp
        clear hc1 hc2 HALL HEQ hpre hkp
        generalize l.getD k 0 = X at *
        generalize m.getD k 0 = Y at *
        by_cases hxy : X = Y
        · have HP := Lib.hid (HPRE.out hxy)
          subst hxy
          clear HEQ2 HPRE
          go_wp2_with fail
          go_region
          go_wp2_with fail
          go_roundw
          case rel => exact ⟨k + 1, by omega, by go_num, HP.out, KK.out.drew⟩
          case measure => simp [intOf]; omega
        · have HB := Lib.hid (HEQ2 hxy)
          have hne : ¬ ((X : Nat) : Int) = ((Y : Nat) : Int) := by omega
          have hne2 : (((X : Nat) : Int) == ((Y : Nat) : Int)) = false := beq_eq_false_iff_ne.2 hne
          clear HEQ2 HPRE hxy
          go_wp2_with fail
          go_region
          go_wp2_with fail
          go_ret
          exact ⟨by rw [HB.out] <;> rfl, KK.out.drew⟩
      · obtain rfl : k = N := by omega
        have HB := Lib.hid (HALL.out hpre)
        have KK := Lib.hid hkp
        clear HALL HEQ hpre hkp
        go_wp2_with fail
        go_ret
        exact ⟨by rw [HB.out] <;> rfl, KK.out⟩
  · have e : decide (l = m) = false := decide_eq_false (fun h => hlen (by rw [h]))
    have hne : ¬ (l.length : Int) = (m.length : Int) := by omega
    have hne2 : ((l.length : Int) == (m.length : Int)) = false := beq_eq_false_iff_ne.2 hne
    rw [e]
    clear hu hv e hlen
    go_enter Tryd.func31, Tryd.ntmps31
    go_wp2_with fail
    go_ret
    exact ⟨rfl, Kp.refl _⟩

/-- Is a number in a row? -/
def inL (l : List Nat) (n : Int) : Bool := l.any fun x => decide ((x : Int) = n)
set_option maxHeartbeats 1000000 in
theorem refIn_any (u : Value) (l : List Nat) (n : Int) (w : World) (hu : RN w u l) :
    Calls Tryd.prog 32 #[u, .int .i64 n] w fun e w' => e = .returned (.bool (inL l n)) ∧ w = w' := by
  obtain ⟨a1, c1, rfl, p1, s1⟩ := hu.shape
  unfold maxLen at s1
  have HYES : Hid (∀ k, k < l.length → ((l.getD k 0 : Nat) : Int) = n → inL l n = true) := fun k hk he => by
    unfold inL
    rw [List.any_eq_true]
    rw [List.getD_eq_getElem?_getD, List.getElem?_eq_getElem hk] at he
    exact ⟨l[k], List.getElem_mem hk, decide_eq_true he⟩
  have HNO : Hid ((∀ k, k < l.length → ((l.getD k 0 : Nat) : Int) ≠ n) → inL l n = false) := fun h => by
    rw [Bool.eq_false_iff]
    intro h2
    unfold inL at h2
    rw [List.any_eq_true] at h2
    obtain ⟨x, hx, he⟩ := h2
    obtain ⟨k, hk, rfl⟩ := List.getElem_of_mem hx
    refine h k hk ?_
    rw [List.getD_eq_getElem?_getD, List.getElem?_eq_getElem hk]
    exact of_decide_eq_true he
  generalize inL l n = b at *
  have HU := Lib.hid hu
  obtain ⟨N, hN⟩ : ∃ N, l.length = N := ⟨_, rfl⟩
  rw [hN] at HU p1 HYES HNO ⊢
  clear hu hN
  go_enter Tryd.func32, Tryd.ntmps32
  go_wp2_with fail
  go_loop [5] (fun i => ∃ k : Nat, k ≤ N ∧ i = .int .i64 (k : Int) ∧ (∀ t, t < k → ((l.getD t 0 : Nat) : Int) ≠ n)) (fun i => (N - (intOf i).toNat))
  case atStart => exact ⟨0, Nat.zero_le _, rfl, fun t h => by omega⟩
  case round =>
    obtain ⟨k, hk, rfl, hpre⟩ := hrel
    by_cases hlt : k < N
    · obtain ⟨g1, o1, rfl, _, hc1⟩ := HU.out.at k hlt
      have h1 := hc1 k hlt
      have HY2 := HYES.out k hlt
      have HPRE : Hid (((l.getD k 0 : Nat) : Int) ≠ n → ∀ t, t < k + 1 → ((l.getD t 0 : Nat) : Int) ≠ n) := fun he t ht => by
        rcases Nat.lt_or_eq_of_le (Nat.lt_succ_iff.1 ht) with h3 | h3
        · exact hpre t h3
        · rw [h3]; exact he
      have i1 : IntKind.i64.wrap ((k : Int) + 1) = (k : Int) + 1 := IntWalk.i64_in _ (by omega)
      clear hc1 HYES HNO hpre
      generalize ((l.getD k 0 : Nat) : Int) = X at *
      by_cases hxy : X = n
      · have HB := Lib.hid (HY2 hxy)
        subst hxy
        clear HY2 HPRE
        go_wp2_with fail
        go_ret
        exact ⟨by rw [HB.out] <;> rfl, rfl⟩
      · have HP := Lib.hid (HPRE.out hxy)
        have hne2 : (X == n) = false := beq_eq_false_iff_ne.2 hxy
        clear HY2 HPRE
        go_wp2_with fail
        go_round
        case rel => exact ⟨k + 1, by omega, by go_num, HP.out⟩
        case measure => simp [intOf]; omega
    · obtain rfl : k = N := by omega
      have HB := Lib.hid (HNO.out hpre)
      clear HYES HNO hpre
      go_wp2_with fail
      go_ret
      exact ⟨by rw [HB.out] <;> rfl, rfl⟩
end Go.Proofs.YtcomgbneacbncaaDoor

/- pyxref08: Common. -/
import Derived.Test.YtcomgbneacbncaaDoorRefMathE
set_option linter.unusedVariables false
set_option linter.unusedSimpArgs false
namespace Go.Proofs.YtcomgbneacbncaaDoor
open Go.RowKit

/-- The way up to what stands over two leaves. -/
theorem upto {K a b : Nat} (hK : K ≤ 10) (ha : a < 2 ^ K) (hb : b < 2 ^ K) (f : Nat → Nat) (hf : f = fun i => nd i (a / 2 ^ i)) :
    f 0 = 2 * a ∧ f (meet a b) = coN a b ∧
    (∀ i, i ≤ meet a b → lev (f i) = i) ∧
    (∀ i, i < meet a b → ¬ (loV ((f i : Nat) : Int) ≤ (b : Int) ∧ (b : Int) ≤ hiV ((f i : Nat) : Int)) ∧ paE ((f i : Nat) : Int) ((2 ^ K : Nat) : Int) = 0 ∧ paV ((f i : Nat) : Int) ((2 ^ K : Nat) : Int) = ((f (i + 1) : Nat) : Int)) ∧
    loV ((f (meet a b) : Nat) : Int) ≤ (b : Int) ∧ (b : Int) ≤ hiV ((f (meet a b) : Nat) : Int) := by
  subst hf
  obtain ⟨m1, m2, m3⟩ := meet_spec hK ha hb
  generalize hM : meet a b = M at *
  have hq : ∀ i, i ≤ K → a / 2 ^ i < 2 ^ (K - i) := fun i hi => by
    have := quot_lt (K := K) (j := 0) (q := a) (i := i) (by simpa using ha) (by omega)
    simpa using this
  have hlv : ∀ i, i ≤ K → (loV ((nd i (a / 2 ^ i) : Nat) : Int) ≤ (b : Int) ∧ (b : Int) ≤ hiV ((nd i (a / 2 ^ i) : Nat) : Int) ↔ b / 2 ^ i = a / 2 ^ i) := fun i hi => by
    obtain ⟨_, h2, h3⟩ := nd_small hK hi (hq i hi)
    obtain ⟨e1, e2⟩ := lv_nd h2 h3
    rw [e1, e2, ← under_iff]
    constructor
    · rintro ⟨h4, h5⟩; exact ⟨by exact_mod_cast h4, by exact_mod_cast h5⟩
    · rintro ⟨h4, h5⟩; exact ⟨by exact_mod_cast h4, by exact_mod_cast h5⟩
  refine ⟨?_, ?_, fun i hi => lev_nd _ _ (by omega), fun i hi => ⟨fun h => ?_, ?_⟩, ?_⟩
  · simp [nd_leaf]
  · unfold coN; rw [hM]
  · exact m3 i hi ((hlv i (by omega)).1 h).symm
  · obtain ⟨e1, e2, _⟩ := pa_yes (K := K) (j := i) (q := a / 2 ^ i) hK (by omega) (hq i (by omega))
    refine ⟨e1, ?_⟩
    show _ = ((nd (i + 1) (a / 2 ^ (i + 1)) : Nat) : Int)
    rw [e2, quot_succ]
  · exact (hlv M m1).2 m2.symm

set_option maxHeartbeats 2000000 in
theorem refCommon_yes (K a b : Nat) (w : World) (hK : K ≤ 10) (ha : a < 2 ^ K) (hb : b < 2 ^ K) :
    Calls Tryd.prog 28 #[.int .i64 (a : Int), .int .i64 (b : Int), .int .i64 ((2 ^ K : Nat) : Int)] w fun e w' => e = .returned (.tuple #[.int .i64 ((coN a b : Nat) : Int), .int .i64 0]) ∧ w = w' := by
  obtain ⟨f, hf⟩ : ∃ f : Nat → Nat, f = fun i => nd i (a / 2 ^ i) := ⟨_, rfl⟩
  obtain ⟨u1, u2, u3, u4, u5, u6⟩ := upto hK ha hb f hf
  have hp := p2_le hK
  have hmk := (meet_spec hK ha hb).1
  have hn2 : -9223372036854775808 ≤ ((2 ^ K : Nat) : Int) ∧ ((2 ^ K : Nat) : Int) ≤ 9223372036854775807 := by omega
  have HT := Lib.hid (refTree_any ((2 ^ K : Nat) : Int) w)
  rw [isTB_yes K hK] at HT
  have HLV : Hid (∀ x, Calls Tryd.prog 30 #[.int .i64 x] w fun e w' => e = .returned (.tuple #[.int .i64 (loV x), .int .i64 (hiV x)]) ∧ w = w') := fun x => refLeaves_any x w
  have HPA : Hid (∀ i, i < meet a b → Calls Tryd.prog 20 #[.int .i64 ((f i : Nat) : Int), .int .i64 ((2 ^ K : Nat) : Int)] w fun e w' => e = .returned (.tuple #[.int .i64 ((f (i + 1) : Nat) : Int), .int .i64 0]) ∧ w = w') := fun i hi => by
    have := refParent_any ((f i : Nat) : Int) ((2 ^ K : Nat) : Int) w hn2
    rwa [(u4 i hi).2.1, (u4 i hi).2.2] at this
  have U4 : Hid (∀ i, i < meet a b → ¬ (loV ((f i : Nat) : Int) ≤ (b : Int) ∧ (b : Int) ≤ hiV ((f i : Nat) : Int))) := fun i hi => (u4 i hi).1
  have U3 := Lib.hid u3
  have U1 : Hid (2 * (a : Int) = ((f 0 : Nat) : Int)) := by unfold Hid; omega
  have i0 : IntKind.i64.wrap (2 * (a : Int)) = 2 * (a : Int) := IntWalk.i64_in _ (by omega)
  have U5 := Lib.hid (And.intro u5 u6)
  have U2 := Lib.hid u2
  have g1 : (a : Int) < ((2 ^ K : Nat) : Int) := by omega
  have g2 : (b : Int) < ((2 ^ K : Nat) : Int) := by omega
  have g3 : ¬ (a : Int) < 0 := by omega
  have g4 : ¬ (b : Int) < 0 := by omega
  generalize meet a b = M at *
  generalize coN a b = C at *
  generalize ((2 ^ K : Nat) : Int) = N at *
  clear u1 u2 u3 u4 u5 u6 hf ha hb hp hn2
  go_enter Tryd.func28, Tryd.ntmps28
  go_wp2_with fail
  refine HT.out.mono ?_; rintro _ _ ⟨rfl, rfl⟩
  clear HT
  go_wp2_with fail
  go_loop [9] (fun x => ∃ i : Nat, i ≤ M ∧ x = .int .i64 ((f i : Nat) : Int)) (fun x => (30 - lev (intOf x).toNat))
  case atStart => exact ⟨0, Nat.zero_le _, by rw [← U1.out]⟩
  case round =>
    obtain ⟨i, hi, rfl⟩ := hrel
    have HL1 := Lib.hid (HLV.out ((f i : Nat) : Int))
    by_cases hlt : i < M
    · have hno := U4.out i hlt
      have HP1 := Lib.hid (HPA.out i hlt)
      have hm := Lib.hid (And.intro (U3.out i hi) (U3.out (i + 1) hlt))
      have hb := Lib.hid hK
      generalize loV ((f i : Nat) : Int) = LO at *
      generalize hiV ((f i : Nat) : Int) = HI at *
      clear HLV HPA U4 U3 U1 U5 U2 i0
      by_cases h1 : LO ≤ (b : Int)
      · have h2 : ¬ (b : Int) ≤ HI := fun h => hno ⟨h1, h⟩
        clear hno
        go_wp2_with fail
        refine HL1.out.mono ?_; rintro _ _ ⟨rfl, rfl⟩
        go_wp2_with fail
        refine HP1.out.mono ?_; rintro _ _ ⟨rfl, rfl⟩
        go_wp2_with fail
        go_round
        case rel => exact ⟨i + 1, by omega, rfl⟩
        case measure => have := hm.out; simp [intOf]; omega
      · clear hno
        go_wp2_with fail
        refine HL1.out.mono ?_; rintro _ _ ⟨rfl, rfl⟩
        go_wp2_with fail
        refine HP1.out.mono ?_; rintro _ _ ⟨rfl, rfl⟩
        go_wp2_with fail
        go_round
        case rel => exact ⟨i + 1, by omega, rfl⟩
        case measure => have := hm.out; simp [intOf]; omega
    · obtain rfl : i = M := by omega
      obtain ⟨h1, h2⟩ := U5.out
      have HC := Lib.hid U2.out
      generalize loV ((f i : Nat) : Int) = LO at *
      generalize hiV ((f i : Nat) : Int) = HI at *
      clear HLV HPA U4 U3 U1 U5 U2 i0
      go_wp2_with fail
      refine HL1.out.mono ?_; rintro _ _ ⟨rfl, rfl⟩
      go_wp2_with fail
      go_ret2
      exact ⟨by rw [HC.out] <;> rfl, rfl⟩

set_option maxHeartbeats 1000000 in
theorem refCommon_any (a b n : Int) (w : World) :
    Calls Tryd.prog 28 #[.int .i64 a, .int .i64 b, .int .i64 n] w fun e w' => e = .returned (.tuple #[.int .i64 (coV a b n), .int .i64 (coE a b n)]) ∧ w = w' := by
  by_cases h : okC a b n
  · have e1 : coE a b n = 0 := if_pos h
    have e2 : coV a b n = (coN a.toNat b.toNat : Int) := if_pos h
    rw [e1, e2]
    obtain ⟨h1, h2, h3, h4, h5⟩ := h
    obtain ⟨K, hK, rfl⟩ := (isTB_iff n).1 h1
    obtain ⟨a, rfl⟩ := Int.eq_ofNat_of_zero_le h2
    obtain ⟨b, rfl⟩ := Int.eq_ofNat_of_zero_le h3
    rw [Int.toNat_natCast, Int.toNat_natCast]
    exact refCommon_yes K a b w hK (by omega) (by omega)
  · have e1 : coE a b n = 1 := if_neg h
    have e2 : coV a b n = 0 := if_neg h
    rw [e1, e2]
    have HT := Lib.hid (refTree_any n w)
    by_cases h1 : isTB n = true
    · rw [h1] at HT
      have hno : ¬ (0 ≤ a ∧ 0 ≤ b ∧ a < n ∧ b < n) := fun h2 => h ⟨h1, h2⟩
      clear h h1 e1 e2
      by_cases h2 : a < 0
      · clear hno
        go_enter Tryd.func28, Tryd.ntmps28
        go_wp2_with fail
        refine HT.out.mono ?_; rintro _ _ ⟨rfl, rfl⟩
        go_wp2_with fail
        go_ret2
        exact ⟨rfl, rfl⟩
      · by_cases h3 : b < 0
        · clear hno
          go_enter Tryd.func28, Tryd.ntmps28
          go_wp2_with fail
          refine HT.out.mono ?_; rintro _ _ ⟨rfl, rfl⟩
          go_wp2_with fail
          go_ret2
          exact ⟨rfl, rfl⟩
        · by_cases h4 : n ≤ a
          · clear hno
            go_enter Tryd.func28, Tryd.ntmps28
            go_wp2_with fail
            refine HT.out.mono ?_; rintro _ _ ⟨rfl, rfl⟩
            go_wp2_with fail
            go_ret2
            exact ⟨rfl, rfl⟩
          · have h5 : n ≤ b := by omega
            clear hno
            go_enter Tryd.func28, Tryd.ntmps28
            go_wp2_with fail
            refine HT.out.mono ?_; rintro _ _ ⟨rfl, rfl⟩
            go_wp2_with fail
            go_ret2
            exact ⟨rfl, rfl⟩
    · have h2 : isTB n = false := by rw [Bool.eq_false_iff]; exact h1
      rw [h2] at HT
      clear h h1 h2 e1 e2
      go_enter Tryd.func28, Tryd.ntmps28
      go_wp2_with fail
      refine HT.out.mono ?_; rintro _ _ ⟨rfl, rfl⟩
      go_wp2_with fail
      go_ret2
      exact ⟨rfl, rfl⟩
end Go.Proofs.YtcomgbneacbncaaDoor

/- AesMuls. -/
import Derived.Test.YtfnkcdcbjcoefaaLawAesA
set_option linter.unusedVariables false
set_option linter.unusedSimpArgs false
namespace Go.Proofs.Ytfnkcdcbjcoefaa
open Go.RowKit

/-- How many of the bytes below i make 1 with a. -/
def ones (a : UInt8) (i : Nat) : Nat := if a ≠ 0 ∧ invN a.toNat < i then 1 else 0
theorem ones_next (a : UInt8) (i : Nat) (hi : i < 256) : ones a (i + 1) = if mulB a (UInt8.ofNat i) = 1 then ones a i + 1 else ones a i := by
  have hv := inv_lt (u8_lt a)
  have h := mulB_inv a (UInt8.ofNat i)
  have he : UInt8.ofNat i = UInt8.ofNat (invN a.toNat) ↔ i = invN a.toNat := by
    constructor
    · intro h
      have := congrArg UInt8.toNat h
      rw [UInt8.toNat_ofNat', UInt8.toNat_ofNat'] at this
      omega
    · intro h; rw [h]
  rw [he] at h
  unfold ones
  by_cases h0 : a = 0
  · have hm : ¬ mulB a (UInt8.ofNat i) = 1 := fun e => (h.1 e).1 h0
    rw [if_neg hm, if_neg (fun x => x.1 h0), if_neg (fun x => x.1 h0)]
  · by_cases h1 : i = invN a.toNat
    · rw [if_pos (h.2 ⟨h0, h1⟩), if_pos ⟨h0, by omega⟩, if_neg (fun x => by have := x.2; omega)]
    · have hm : ¬ mulB a (UInt8.ofNat i) = 1 := fun e => h1 (h.1 e).2
      rw [if_neg hm]
      by_cases h2 : invN a.toNat < i
      · rw [if_pos ⟨h0, by omega⟩, if_pos ⟨h0, h2⟩]
      · rw [if_neg (fun x => by have := x.2; omega), if_neg (fun x => h2 x.2)]
theorem ones_all (a : UInt8) : ones a 256 = if a = 0 then 0 else 1 := by
  have hv := inv_lt (u8_lt a)
  unfold ones
  by_cases h0 : a = 0
  · rw [if_neg (fun x => x.1 h0), if_pos h0]
  · rw [if_pos ⟨h0, hv⟩, if_neg h0]
theorem u8_beq (x y : UInt8) : ((x.toNat : Int) == (y.toNat : Int)) = decide (x = y) := by
  by_cases h : x = y
  · rw [decide_eq_true h, h]; simp
  · rw [decide_eq_false h, beq_eq_false_iff_ne]
    intro e
    exact h (u8_ext (by omega))

set_option maxRecDepth 100000 in
set_option maxHeartbeats 4000000 in
theorem aesMuls_walk (a b c : UInt8) (w : World) :
    Calls Try.prog 6 #[.int .u8 (a.toNat : Int), .int .u8 (b.toNat : Int), .int .u8 (c.toNat : Int)] w (Yes w) := by
  have M1 : Hid (∀ W, Calls Try.prog 13 #[.int .u8 (a.toNat : Int), .int .u8 (b.toNat : Int)] W fun e w' => e = .returned (.int .u8 ((mulB a b).toNat : Int)) ∧ W = w') := fun W => aesMul_any a b W
  have M2 : Hid (∀ W, Calls Try.prog 13 #[.int .u8 (b.toNat : Int), .int .u8 (a.toNat : Int)] W fun e w' => e = .returned (.int .u8 ((mulB a b).toNat : Int)) ∧ W = w') := fun W => by rw [mulB_comm a b]; exact aesMul_any b a W
  have M3 : Hid (∀ W, Calls Try.prog 13 #[.int .u8 (a.toNat : Int), .int .u8 1] W fun e w' => e = .returned (.int .u8 (a.toNat : Int)) ∧ W = w') := fun W => by have := aesMul_any a 1 W; rwa [mulB_one] at this
  have M4 : Hid (∀ W, Calls Try.prog 13 #[.int .u8 (a.toNat : Int), .int .u8 ((b ^^^ c).toNat : Int)] W fun e w' => e = .returned (.int .u8 ((mulB a b ^^^ mulB a c).toNat : Int)) ∧ W = w') := fun W => by rw [← mulB_add]; exact aesMul_any a (b ^^^ c) W
  have M5 : Hid (∀ W, Calls Try.prog 13 #[.int .u8 (a.toNat : Int), .int .u8 (c.toNat : Int)] W fun e w' => e = .returned (.int .u8 ((mulB a c).toNat : Int)) ∧ W = w') := fun W => aesMul_any a c W
  have M6 : Hid (∀ W, Calls Try.prog 13 #[.int .u8 ((mulB a b).toNat : Int), .int .u8 (c.toNat : Int)] W fun e w' => e = .returned (.int .u8 ((mulB a (mulB b c)).toNat : Int)) ∧ W = w') := fun W => by rw [← mulB_assoc]; exact aesMul_any _ c W
  have M7 : Hid (∀ W, Calls Try.prog 13 #[.int .u8 (b.toNat : Int), .int .u8 (c.toNat : Int)] W fun e w' => e = .returned (.int .u8 ((mulB b c).toNat : Int)) ∧ W = w') := fun W => aesMul_any b c W
  have M8 : Hid (∀ W, Calls Try.prog 13 #[.int .u8 (a.toNat : Int), .int .u8 ((mulB b c).toNat : Int)] W fun e w' => e = .returned (.int .u8 ((mulB a (mulB b c)).toNat : Int)) ∧ W = w') := fun W => aesMul_any a _ W
  have B1 := Lib.hid (fun W => aesBox_any a W)
  have B2 := Lib.hid (fun W => aesBox_any b W)
  have x1 := b8_xor b c
  have x2 := b8_xor (mulB a b) (mulB a c)
  obtain ⟨bb, hbb⟩ : ∃ bb, decide (a = b) = bb := ⟨_, rfl⟩
  have y1 : ((a.toNat : Int) == (b.toNat : Int)) = bb := by rw [u8_beq, hbb]
  have y2 : (((boxB a).toNat : Int) == ((boxB b).toNat : Int)) = bb := by
    rw [u8_beq, ← hbb]
    simp only [boxB_inj a b]
  have HMI : Hid (∀ i : Nat, i < 256 → ∀ W, Calls Try.prog 13 #[.int .u8 (a.toNat : Int), .int .u8 (i : Int)] W fun e w' => e = .returned (.int .u8 ((mulB a (UInt8.ofNat i)).toNat : Int)) ∧ W = w') := fun i hi W => by
    have := aesMul_any a (UInt8.ofNat i) W
    rwa [UInt8.toNat_ofNat', Nat.mod_eq_of_lt hi] at this
  have HON := Lib.hid (ones_next a)
  have HOA := Lib.hid (ones_all a)
  have HO0 : Hid (ones a 0 = 0) := by unfold Hid ones; rw [if_neg (fun x => by have := x.2; omega)]
  have Y := Lib.hid (And.intro y1 (And.intro y2 (And.intro x1 x2)))
  clear hbb y1 y2 x1 x2
  go_enter Try.func6, Try.ntmps6
  go_wp2_with fail
  refine (shownAes_any _).mono ?_
  rintro e w1 ⟨rfl, k1⟩
  go_wp2_with fail
  go_loopw [8, 9] (fun n p wr => (∃ i : Nat, i ≤ 256 ∧ p = .int .i64 i ∧ n = .int .i64 (ones a i)) ∧ w1 = wr) (fun _ p _ => 256 - (intOf p).toNat)
  case atStart => exact ⟨⟨0, by omega, rfl, by rw [HO0.out]; rfl⟩, rfl⟩
  case round =>
    obtain ⟨⟨i, hi, rfl, rfl⟩, rfl⟩ := hrel
    by_cases hlt : i < 256
    · have q1 : (i : Int) < 256 := by omega
      have w1' : IntKind.u8.wrap (i : Int) = i := u8_wraps i hlt
      have hon := HON.out i hlt
      have hm := HMI.out i hlt
      have hb : ones a i ≤ 1 := by unfold ones; split <;> omega
      by_cases h1 : mulB a (UInt8.ofNat i) = 1
      · rw [if_pos h1] at hon
        rw [h1] at hm
        have HOX := Lib.hid hon
        have HM := Lib.hid hm
        have i1 : IntKind.i64.wrap ((ones a i : Int) + 1) = (ones a i : Int) + 1 := IntWalk.i64_in _ (by omega)
        generalize ones a i = N at *
        clear hon hm h1
        go_wp2_with fail
        refine (HM.out w1).mono ?_; rintro _ _ ⟨rfl, rfl⟩
        go_wp2_with fail
        go_roundw
        case rel => exact ⟨⟨i + 1, by omega, by go_num, by rw [HOX.out]; rfl⟩, trivial⟩
        case measure => simp [intOf]; omega
      · rw [if_neg h1] at hon
        have HOX := Lib.hid hon
        have HM := Lib.hid hm
        generalize hMM : mulB a (UInt8.ofNat i) = M at *
        have d1 : ((M.toNat : Int) == 1) = false := beq_eq_false_iff_ne.2 (fun e => h1 (u8_ext (by show M.toNat = 1; omega)))
        generalize ones a i = N at *
        clear hon hm h1 hMM
        go_wp2_with fail
        refine (HM.out w1).mono ?_; rintro _ _ ⟨rfl, rfl⟩
        go_wp2_with fail
        go_roundw
        case rel => exact ⟨⟨i + 1, by omega, by go_num, by rw [HOX.out]⟩, trivial⟩
        case measure => simp [intOf]; omega
    · obtain rfl : i = 256 := by omega
      rw [HOA.out]
      obtain ⟨y1, y2, x1, x2⟩ := Y.out
      generalize mulB a b = P at *
      generalize mulB a c = Q at *
      generalize mulB b c = R at *
      generalize mulB a R = T at *
      generalize P ^^^ Q = S at *
      generalize b ^^^ c = D at *
      generalize boxB a = X at *
      generalize boxB b = Z at *
      by_cases h0 : a = 0
      · rw [if_pos h0, show ((0 : Nat) : Int) = (0 : Int) from rfl]
        clear HOA HON HMI HO0 Y hlt hi
        subst h0
        have y0 : ((0 : Int) == (b.toNat : Int)) = bb := y1
        clear y1
        go_wp2_with fail
        refine (M1.out _).mono ?_; rintro _ _ ⟨rfl, rfl⟩
        go_wp2_with fail
        refine (M2.out _).mono ?_; rintro _ _ ⟨rfl, rfl⟩
        go_wp2_with fail
        refine (M3.out _).mono ?_; rintro _ _ ⟨rfl, rfl⟩
        go_wp2_with fail
        refine (M4.out _).mono ?_; rintro _ _ ⟨rfl, rfl⟩
        go_wp2_with fail
        refine (M1.out _).mono ?_; rintro _ _ ⟨rfl, rfl⟩
        go_wp2_with fail
        refine (M5.out _).mono ?_; rintro _ _ ⟨rfl, rfl⟩
        go_wp2_with fail
        refine (M1.out _).mono ?_; rintro _ _ ⟨rfl, rfl⟩
        go_wp2_with fail
        refine (M6.out _).mono ?_; rintro _ _ ⟨rfl, rfl⟩
        go_wp2_with fail
        refine (M7.out _).mono ?_; rintro _ _ ⟨rfl, rfl⟩
        go_wp2_with fail
        refine (M8.out _).mono ?_; rintro _ _ ⟨rfl, rfl⟩
        go_wp2_with fail
        refine (B1.out _).mono ?_; rintro _ w2 ⟨rfl, k2⟩
        go_wp2_with fail
        refine (B2.out _).mono ?_; rintro _ w3 ⟨rfl, k3⟩
        go_wp2_with fail
        go_ret
        refine ⟨?_, (k1.trans k2).trans k3⟩
        cases bb <;> rfl
      · rw [if_neg h0, show ((1 : Nat) : Int) = (1 : Int) from rfl]
        have d0 : ((a.toNat : Int) == 0) = false := beq_eq_false_iff_ne.2 (fun e => h0 (u8_ext (by show a.toNat = 0; omega)))
        have d1 : ((a.toNat : Int) != 0) = true := by rw [bne, d0]; rfl
        have d2 : ¬ (a.toNat : Int) = 0 := fun e => h0 (u8_ext (by show a.toNat = 0; omega))
        clear h0 HOA HON HMI HO0 Y hlt hi
        go_wp2_with fail
        refine (M1.out _).mono ?_; rintro _ _ ⟨rfl, rfl⟩
        go_wp2_with fail
        refine (M2.out _).mono ?_; rintro _ _ ⟨rfl, rfl⟩
        go_wp2_with fail
        refine (M3.out _).mono ?_; rintro _ _ ⟨rfl, rfl⟩
        go_wp2_with fail
        refine (M4.out _).mono ?_; rintro _ _ ⟨rfl, rfl⟩
        go_wp2_with fail
        refine (M1.out _).mono ?_; rintro _ _ ⟨rfl, rfl⟩
        go_wp2_with fail
        refine (M5.out _).mono ?_; rintro _ _ ⟨rfl, rfl⟩
        go_wp2_with fail
        refine (M1.out _).mono ?_; rintro _ _ ⟨rfl, rfl⟩
        go_wp2_with fail
        refine (M6.out _).mono ?_; rintro _ _ ⟨rfl, rfl⟩
        go_wp2_with fail
        refine (M7.out _).mono ?_; rintro _ _ ⟨rfl, rfl⟩
        go_wp2_with fail
        refine (M8.out _).mono ?_; rintro _ _ ⟨rfl, rfl⟩
        go_wp2_with fail
        refine (B1.out _).mono ?_; rintro _ w2 ⟨rfl, k2⟩
        go_wp2_with fail
        refine (B2.out _).mono ?_; rintro _ w3 ⟨rfl, k3⟩
        go_wp2_with fail
        go_ret
        refine ⟨?_, (k1.trans k2).trans k3⟩
        cases bb <;> rfl
end Go.Proofs.Ytfnkcdcbjcoefaa

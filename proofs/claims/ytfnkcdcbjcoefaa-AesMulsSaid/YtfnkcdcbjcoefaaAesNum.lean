/- aes.double, Mul; math/bits.RotateLeft8, aes.spread. -/
import Derived.Test.YtfnkcdcbjcoefaaRefBox
import Derived.Test.YtfnkcdcbjcoefaaAesPow
set_option linter.unusedVariables false
set_option linter.unusedSimpArgs false
namespace Go.Proofs.Ytfnkcdcbjcoefaa
open Go.RowKit

/-- Bytes' exclusive or, as the model says it. -/
theorem b8_xor (x y : UInt8) : bits .xor .u8 (x.toNat : Int) (y.toNat : Int) = ((x ^^^ y).toNat : Int) := by
  rw [u8_xor _ _ (u8_lt x) (u8_lt y), UInt8.toNat_xor]
theorem double_all : allB 256 (fun x => Nat.beq ((x * 2) % 256 ^^^ (x / 128) * 27) (gm x 2)) = true := by decide +kernel
theorem double_any (x : UInt8) (w : World) : Calls Try.prog 28 #[.int .u8 (x.toNat : Int)] w fun e w' => e = .returned (.int .u8 ((mulB x 2).toNat : Int)) ∧ w = w' := by
  have hx := u8_lt x
  have h := Nat.eq_of_beq_eq_true (allB_spec double_all x.toNat hx)
  have e1 : IntKind.u8.wrap ((x.toNat : Int) * 2) = ((x.toNat * 2 % 256 : Nat) : Int) := by rw [IntKind.wrap_u8]; omega
  have e2 : (x.toNat : Int) / 128 = ((x.toNat / 128 : Nat) : Int) := by omega
  have e3 : IntKind.u8.wrap (((x.toNat / 128 : Nat) : Int) * 27) = ((x.toNat / 128 * 27 : Nat) : Int) := by rw [IntKind.wrap_u8]; omega
  have e4 := u8_xor (x.toNat * 2 % 256) (x.toNat / 128 * 27) (by omega) (by omega)
  rw [h] at e4
  have hm := mulB_nat x 2
  rw [show (2 : UInt8).toNat = 2 from rfl] at hm
  rw [← hm] at e4
  generalize (mulB x 2).toNat = M at *
  generalize x.toNat * 2 % 256 = A at *
  generalize hB : x.toNat / 128 = B at *
  generalize B * 27 = C at *
  generalize x.toNat = X at *
  clear h hm hx hB
  go_enter Try.func28, Try.ntmps28
  go_wp2
  go_ret
  exact ⟨rfl, rfl⟩
theorem xt_two_all : allB 256 (fun x => Nat.beq (xtN x) (gm x 2)) = true := by decide +kernel
theorem xt_two (x : UInt8) : xtN x.toNat = (mulB x 2).toNat := by
  rw [mulB_nat]
  exact Nat.eq_of_beq_eq_true (allB_spec xt_two_all x.toNat (u8_lt x))
theorem u8_and1 (x : Int) (h0 : 0 ≤ x) (h1 : x < 256) : bits .and .u8 x 1 = x % 2 :=
  bits_mask .u8 8 (by decide) wraps_u8 1 (by decide) x h0 h1
theorem mulN_step (k : Nat) (O X : UInt8) (y : Nat) : mulN (k + 1) O.toNat X.toNat y = mulN k (bif Nat.beq (y % 2) 1 then (O ^^^ X).toNat else O.toNat) (mulB X 2).toNat (y / 2) := by
  rw [mulN, xt_two, UInt8.toNat_xor]

set_option maxHeartbeats 1000000 in
theorem aesMul_any (a b : UInt8) (w : World) : Calls Try.prog 13 #[.int .u8 (a.toNat : Int), .int .u8 (b.toNat : Int)] w fun e w' => e = .returned (.int .u8 ((mulB a b).toNat : Int)) ∧ w = w' := by
  have hb := u8_lt b
  have hm := mulB_nat a b
  have HG : Hid (mulN 8 (0 : UInt8).toNat a.toNat b.toNat = gm a.toNat b.toNat) := rfl
  rw [← hm] at HG
  generalize (mulB a b).toNat = M at *
  obtain ⟨B, hB⟩ : ∃ B, b.toNat = B := ⟨_, rfl⟩
  rw [hB] at hb HG ⊢
  clear hB hm
  go_enter Try.func13, Try.ntmps13
  go_wp2_with fail
  go_loopw [0, 5, 7] (fun x o p wr => (∃ (i : Nat) (O X : UInt8), i ≤ 8 ∧ p = .int .i64 i ∧ o = .int .u8 (O.toNat : Int) ∧ x = .int .u8 (X.toNat : Int) ∧ mulN (8 - i) O.toNat X.toNat (B / 2 ^ i) = M) ∧ w = wr) (fun _ _ p _ => 8 - (intOf p).toNat)
  case atStart => exact ⟨⟨0, 0, a, by omega, rfl, rfl, rfl, by simpa using HG.out⟩, rfl⟩
  case round =>
    obtain ⟨⟨i, O, X, hi, rfl, rfl, rfl, hmul⟩, rfl⟩ := hrel
    by_cases hlt : i < 8
    · have hq : (i : Int) < 8 := by omega
      have hst : mulN (8 - (i + 1)) (bif Nat.beq (B / 2 ^ i % 2) 1 then (O ^^^ X).toNat else O.toNat) (mulB X 2).toNat (B / 2 ^ (i + 1)) = M := by
        rw [← hmul, show 8 - i = (8 - (i + 1)) + 1 by omega, mulN_step, Nat.div_div_eq_div_mul, Nat.pow_succ]
      have hsh : (B : Int) / 2 ^ i = ((B / 2 ^ i : Nat) : Int) := by rw [Int.natCast_ediv, Int.natCast_pow]; rfl
      have hYl : B / 2 ^ i < 256 := Nat.lt_of_le_of_lt (Nat.div_le_self _ _) hb
      obtain ⟨Y, hY⟩ : ∃ Y, B / 2 ^ i = Y := ⟨_, rfl⟩
      rw [hY] at hst hsh hYl
      have hand := u8_and1 (Y : Int) (by omega) (by omega)
      have hx := b8_xor O X
      have hd := double_any X w
      clear hmul hY
      generalize O ^^^ X = Z at *
      generalize mulB X 2 = D at *
      by_cases ho : Y % 2 = 1
      · have hy1 : (Y : Int) % 2 = 1 := by omega
        rw [show Nat.beq (Y % 2) 1 = true by rw [ho]; rfl, cond_true] at hst
        have HS := Lib.hid hst
        clear hst ho
        go_wp2_with (go_at_call 28; refine hd.mono ?_; rintro _ _ ⟨rfl, rfl⟩)
        go_roundw
        case rel => exact ⟨⟨i + 1, Z, D, by omega, by go_num, rfl, rfl, HS.out⟩, trivial⟩
        case measure => simp [intOf]; omega
      · have hy1 : (Y : Int) % 2 = 0 := by omega
        rw [show Nat.beq (Y % 2) 1 = false by rw [show Y % 2 = 0 by omega]; rfl, cond_false] at hst
        have HS := Lib.hid hst
        clear hst ho
        go_wp2_with (go_at_call 28; refine hd.mono ?_; rintro _ _ ⟨rfl, rfl⟩)
        go_roundw
        case rel => exact ⟨⟨i + 1, O, D, by omega, by go_num, rfl, rfl, HS.out⟩, trivial⟩
        case measure => simp [intOf]; omega
    · obtain rfl : i = 8 := by omega
      have HO : Hid (O.toNat = M) := hmul
      clear hmul
      go_wp2_with fail
      go_ret
      exact ⟨by rw [HO.out]; rfl, rfl⟩

theorem rot_all : allB 5 (fun n => allB 256 fun x => Nat.beq ((x * 2 ^ n) % 256 ||| x / 2 ^ (8 - n)) ((x * 2 ^ n) % 256 ^^^ x / 2 ^ (8 - n))) = true := by decide +kernel
/-- A byte, turned left. -/
def leftB (x : UInt8) (n : Nat) : UInt8 := UInt8.ofNat (leftN x.toNat n)
theorem leftN_lt (x : UInt8) (n : Nat) : leftN x.toNat n < 256 := xor_lt (Nat.mod_lt _ (by omega)) (Nat.lt_of_le_of_lt (Nat.div_le_self _ _) (u8_lt x))
theorem leftB_nat (x : UInt8) (n : Nat) : (leftB x n).toNat = leftN x.toNat n := by
  unfold leftB
  rw [UInt8.toNat_ofNat', Nat.mod_eq_of_lt (leftN_lt x n)]
theorem u64_and7 (x : Int) (h0 : 0 ≤ x) (h1 : x < 2 ^ 64) : bits .and .u64 x 7 = x % 8 :=
  bits_mask .u64 64 (by decide) (fun n h0 h1 => by simp [IntKind.wrap, IntKind.bits, IntKind.signed]; omega) 3 (by decide) x h0 h1

set_option maxHeartbeats 400000 in
theorem rotl8_any (x : UInt8) (i : Nat) (w : World) (h1 : i < 5) :
    Calls Try.prog 45 #[.int .u8 (x.toNat : Int), .int .i64 i] w fun e w' => e = .returned (.int .u8 ((leftB x i).toNat : Int)) ∧ w = w' := by
  have hx := u8_lt x
  have hL := leftB_nat x i
  have hor := Nat.eq_of_beq_eq_true (allB_spec (allB_spec rot_all i h1) x.toNat hx)
  rw [show (x.toNat * 2 ^ i) % 256 ^^^ x.toNat / 2 ^ (8 - i) = leftN x.toNat i from rfl, ← hL] at hor
  generalize (leftB x i).toNat = L at *
  generalize x.toNat = X at *
  have w1 : IntKind.u64.wrap (i : Int) = i := by simp [IntKind.wrap, IntKind.bits, IntKind.signed]; omega
  have w2 := u64_and7 (i : Int) (by omega) (by omega)
  rw [show (i : Int) % 8 = i by omega] at w2
  have w3 : IntKind.u64.wrap (8 - (i : Int)) = 8 - i := by simp [IntKind.wrap, IntKind.bits, IntKind.signed]; omega
  have e1 : (8 - (i : Int)).toNat = 8 - i := by omega
  have hp : (X : Int) * 2 ^ i = ((X * 2 ^ i : Nat) : Int) := by rw [Int.natCast_mul, Int.natCast_pow]; rfl
  have hs : (X : Int) / 2 ^ (8 - i) = ((X / 2 ^ (8 - i) : Nat) : Int) := by rw [Int.natCast_ediv, Int.natCast_pow]; rfl
  have hl : IntKind.u8.wrap ((X : Int) * 2 ^ i) = ((X * 2 ^ i % 256 : Nat) : Int) := by rw [hp, IntKind.wrap_u8]; omega
  have hq : X / 2 ^ (8 - i) < 256 := Nat.lt_of_le_of_lt (Nat.div_le_self _ _) hx
  have hb := u8_or (X * 2 ^ i % 256) (X / 2 ^ (8 - i)) (by omega) hq
  rw [hor] at hb
  obtain ⟨P, hP⟩ : ∃ P, X * 2 ^ i % 256 = P := ⟨_, rfl⟩
  obtain ⟨Q, hQ⟩ : ∃ Q, X / 2 ^ (8 - i) = Q := ⟨_, rfl⟩
  rw [hP] at hl hb
  rw [hQ] at hs hb
  clear hor hp hP hQ hL hq
  go_enter Try.func45, Try.ntmps45
  go_wp2
  go_ret
  exact ⟨rfl, rfl⟩

/-- What the box's sum is behind i turns. -/
def spreadTo (y : UInt8) : Nat → UInt8
  | 0 => 99
  | n + 1 => spreadTo y n ^^^ leftB y n
theorem spread_all : allB 256 (fun x => Nat.beq (99 ^^^ leftN x 0 ^^^ leftN x 1 ^^^ leftN x 2 ^^^ leftN x 3 ^^^ leftN x 4) (turnN x)) = true := by decide +kernel
theorem spreadTo_five (y : UInt8) : spreadTo y 5 = turnB y := by
  apply u8_ext
  rw [turnB_nat]
  simp only [spreadTo, UInt8.toNat_xor, leftB_nat]
  exact Nat.eq_of_beq_eq_true (allB_spec spread_all y.toNat (u8_lt y))
set_option maxHeartbeats 400000 in
theorem spread_any (y : UInt8) (w : World) : Calls Try.prog 38 #[.int .u8 (y.toNat : Int)] w fun e w' => e = .returned (.int .u8 ((turnB y).toNat : Int)) ∧ w = w' := by
  have H5 := Lib.hid (spreadTo_five y)
  go_enter Try.func38, Try.ntmps38
  go_wp2_with fail
  go_loopw [3, 5] (fun o p wr => (∃ (i : Nat), i ≤ 5 ∧ p = .int .i64 i ∧ o = .int .u8 ((spreadTo y i).toNat : Int)) ∧ w = wr) (fun _ p _ => 5 - (intOf p).toNat)
  case atStart => exact ⟨⟨0, by omega, rfl, rfl⟩, rfl⟩
  case round =>
    obtain ⟨⟨i, hi, rfl, rfl⟩, rfl⟩ := hrel
    by_cases hlt : i < 5
    · have hq : (i : Int) < 5 := by omega
      have hx := b8_xor (spreadTo y i) (leftB y i)
      have hr := rotl8_any y i w hlt
      have HX : Hid (spreadTo y i ^^^ leftB y i = spreadTo y (i + 1)) := rfl
      generalize spreadTo y i ^^^ leftB y i = Z at *
      generalize spreadTo y i = U at *
      generalize leftB y i = V at *
      go_wp2_with (go_at_call 45; refine hr.mono ?_; rintro _ _ ⟨rfl, rfl⟩)
      go_roundw
      case rel => exact ⟨⟨i + 1, by omega, by go_num, by rw [HX.out]⟩, trivial⟩
      case measure => simp [intOf]; omega
    · obtain rfl : i = 5 := by omega
      rw [H5.out]
      go_wp2_with fail
      go_ret
      exact ⟨rfl, rfl⟩
end Go.Proofs.Ytfnkcdcbjcoefaa

/- pyxref05: Mul, left, turned, inverse, Box. -/
import Derived.Test.YtfnkcdcbjcoefaaAesPlain
import Derived.Test.YtfnkcdcbjcoefaaSame
set_option linter.unusedVariables false
set_option linter.unusedSimpArgs false
namespace Go.Proofs.Ytfnkcdcbjcoefaa
open Go.RowKit

theorem i64_xor (x y : Nat) (hx : x < 1024) (hy : y < 1024) : bits .xor .i64 (x : Int) (y : Int) = ((x ^^^ y : Nat) : Int) := by
  have hlt : x ^^^ y < 1024 := Nat.xor_lt_two_pow (n := 10) hx hy
  change IntKind.i64.wrap (((BitVec.ofInt 64 (x : Int) ^^^ BitVec.ofInt 64 (y : Int)).toNat : Nat) : Int) = _
  rw [BitVec.ofInt_natCast, BitVec.ofInt_natCast, BitVec.toNat_xor, BitVec.toNat_ofNat, BitVec.toNat_ofNat, Nat.mod_eq_of_lt (by omega), Nat.mod_eq_of_lt (by omega), i64_wraps _ (by omega) (by omega)]

set_option maxHeartbeats 1000000 in
theorem refMul_any (a b : UInt8) (w : World) : Calls Try.prog 14 #[.int .u8 (a.toNat : Int), .int .u8 (b.toNat : Int)] w fun e w' => e = .returned (.int .u8 ((mulB a b).toNat : Int)) ∧ w = w' := by
  have ha := u8_lt a
  have hb := u8_lt b
  have hm := mulB_nat a b
  obtain ⟨A, hA⟩ : ∃ A, a.toNat = A := ⟨_, rfl⟩
  obtain ⟨B, hB⟩ : ∃ B, b.toNat = B := ⟨_, rfl⟩
  rw [hA] at ha hm ⊢
  rw [hB] at hb hm ⊢
  have HG : Hid (mulN 8 0 A B = gm A B) := rfl
  have HM := Lib.hid hm
  clear hA hB hm
  go_enter Try.func14, Try.ntmps14
  go_wp2_with fail
  go_loopw [5, 6, 7, 8] (fun o x y p wr => (∃ (i O X Y : Nat), i ≤ 8 ∧ p = .int .i64 i ∧ o = .int .i64 O ∧ x = .int .i64 X ∧ y = .int .i64 Y ∧ O < 256 ∧ X < 256 ∧ Y < 256 ∧ mulN (8 - i) O X Y = gm A B) ∧ w = wr) (fun _ _ _ p _ => 8 - (intOf p).toNat)
  case atStart => exact ⟨⟨0, 0, A, B, by omega, rfl, rfl, rfl, rfl, by omega, ha, hb, HG.out⟩, rfl⟩
  case round =>
    obtain ⟨⟨i, O, X, Y, hi, rfl, rfl, rfl, rfl, hO, hX, hY, hmul⟩, rfl⟩ := hrel
    by_cases hlt : i < 8
    · have hq : (i : Int) < 8 := by omega
      have hst : mulN (8 - (i + 1)) (bif Nat.beq (Y % 2) 1 then O ^^^ X else O) (xtN X) (Y / 2) = gm A B := by
        rw [show 8 - i = (8 - (i + 1)) + 1 by omega] at hmul
        exact hmul
      have hxt := xt_lt hX
      have hx1 := i64_xor O X (by omega) (by omega)
      have hx2 := i64_xor (2 * X) 283 (by omega) (by omega)
      have hOX := xor_lt hO hX
      have hdef : xtN X = (bif Nat.ble 256 (2 * X) then (2 * X) ^^^ 283 else 2 * X) := rfl
      obtain ⟨Z, hZ⟩ : ∃ Z, O ^^^ X = Z := ⟨_, rfl⟩
      obtain ⟨V, hV⟩ : ∃ V, (2 * X) ^^^ 283 = V := ⟨_, rfl⟩
      obtain ⟨T, hT⟩ : ∃ T, xtN X = T := ⟨_, rfl⟩
      rw [hZ] at hst hx1 hOX
      rw [hV] at hx2 hdef
      rw [hT] at hst hxt hdef
      rw [Int.natCast_mul] at hx2
      have hx2' : bits .xor .i64 (2 * (X : Int)) 283 = (V : Int) := hx2
      clear hx2 hZ hV hT hmul
      have hdiv : ((Y / 2 : Nat) : Int) = (Y : Int) / 2 := by omega
      by_cases hb : 256 ≤ 2 * X
      · have hbl : Nat.ble 256 (2 * X) = true := Nat.ble_eq_true_of_le hb
        rw [hbl] at hdef
        have hTV : T = V := hdef
        subst hTV
        have hgt : 255 < 2 * (X : Int) := by omega
        have HS := Lib.hid hst
        clear hst hdef hbl
        by_cases ho : Y % 2 = 1
        · have hy1 : (Y : Int) % 2 = 1 := by omega
          have hbq : Nat.beq (Y % 2) 1 = true := by rw [ho]; rfl
          have HB := Lib.hid hbq
          clear hbq ho
          go_wp2_with fail
          go_roundw
          case rel => exact ⟨⟨i + 1, Z, T, Y / 2, by omega, by go_num, rfl, rfl, by rw [hdiv], hOX, hxt, by omega, by have := HS.out; rw [HB.out] at this; exact this⟩, trivial⟩
          case measure => simp [intOf]; omega
        · have hy1 : (Y : Int) % 2 = 0 := by omega
          have hbq : Nat.beq (Y % 2) 1 = false := by rw [show Y % 2 = 0 by omega]; rfl
          have HB := Lib.hid hbq
          clear hbq ho
          go_wp2_with fail
          go_roundw
          case rel => exact ⟨⟨i + 1, O, T, Y / 2, by omega, by go_num, rfl, rfl, by rw [hdiv], hO, hxt, by omega, by have := HS.out; rw [HB.out] at this; exact this⟩, trivial⟩
          case measure => simp [intOf]; omega
      · have hbl : Nat.ble 256 (2 * X) = false := by
          cases h : Nat.ble 256 (2 * X)
          · rfl
          · exact absurd (Nat.le_of_ble_eq_true h) hb
        rw [hbl] at hdef
        have hTV : T = 2 * X := hdef
        subst hTV
        have hgt : ¬ 255 < 2 * (X : Int) := by omega
        have HS := Lib.hid hst
        clear hst hdef hbl
        by_cases ho : Y % 2 = 1
        · have hy1 : (Y : Int) % 2 = 1 := by omega
          have hbq : Nat.beq (Y % 2) 1 = true := by rw [ho]; rfl
          have HB := Lib.hid hbq
          clear hbq ho
          go_wp2_with fail
          go_roundw
          case rel => exact ⟨⟨i + 1, Z, 2 * X, Y / 2, by omega, by go_num, rfl, by rw [Int.natCast_mul]; rfl, by rw [hdiv], hOX, hxt, by omega, by have := HS.out; rw [HB.out] at this; exact this⟩, trivial⟩
          case measure => simp [intOf]; omega
        · have hy1 : (Y : Int) % 2 = 0 := by omega
          have hbq : Nat.beq (Y % 2) 1 = false := by rw [show Y % 2 = 0 by omega]; rfl
          have HB := Lib.hid hbq
          clear hbq ho
          go_wp2_with fail
          go_roundw
          case rel => exact ⟨⟨i + 1, O, 2 * X, Y / 2, by omega, by go_num, rfl, by rw [Int.natCast_mul]; rfl, by rw [hdiv], hO, hxt, by omega, by have := HS.out; rw [HB.out] at this; exact this⟩, trivial⟩
          case measure => simp [intOf]; omega
    · obtain rfl : i = 8 := by omega
      have hO2 : O = gm A B := hmul
      have hwr : IntKind.u8.wrap (O : Int) = (O : Int) := by rw [IntKind.wrap_u8]; omega
      rw [hO2] at hwr
      go_wp2_with fail
      go_ret
      refine ⟨?_, rfl⟩
      simp [HM.out, hwr]
end Go.Proofs.Ytfnkcdcbjcoefaa

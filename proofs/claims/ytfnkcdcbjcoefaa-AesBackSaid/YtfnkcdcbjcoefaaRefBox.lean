/- pyxref05: left, turned, inverse, Box. -/
import Derived.Test.YtfnkcdcbjcoefaaRefAes
set_option linter.unusedVariables false
set_option linter.unusedSimpArgs false
namespace Go.Proofs.Ytfnkcdcbjcoefaa
open Go.RowKit

theorem left_all : allB 9 (fun n => allB 256 fun x => Nat.beq n 0 || (Nat.beq ((x * 2 ^ n) % 256 ||| x / 2 ^ (8 - n)) (leftN x n) && Nat.ble (leftN x n) 255)) = true := by decide +kernel
theorem left_or {n x : Nat} (hn : 0 < n) (h9 : n < 9) (hx : x < 256) : (x * 2 ^ n) % 256 ||| x / 2 ^ (8 - n) = leftN x n ∧ leftN x n < 256 := by
  have h := allB_spec (allB_spec left_all n h9) x hx
  have n0 : Nat.beq n 0 = false := by cases n with | zero => omega | succ n => rfl
  rw [n0, Bool.false_or, Bool.and_eq_true] at h
  have := Nat.le_of_ble_eq_true h.2
  exact ⟨Nat.eq_of_beq_eq_true h.1, by omega⟩
theorem u8_wraps (x : Nat) (h : x < 256) : IntKind.u8.wrap (x : Int) = x := by rw [IntKind.wrap_u8]; omega
theorem u8_or (x y : Nat) (hx : x < 256) (hy : y < 256) : bits .or .u8 (x : Int) (y : Int) = ((x ||| y : Nat) : Int) := by
  have hlt : x ||| y < 256 := Nat.or_lt_two_pow (n := 8) hx hy
  change IntKind.u8.wrap (((BitVec.ofInt 8 (x : Int) ||| BitVec.ofInt 8 (y : Int)).toNat : Nat) : Int) = _
  rw [BitVec.ofInt_natCast, BitVec.ofInt_natCast, BitVec.toNat_or, BitVec.toNat_ofNat, BitVec.toNat_ofNat, Nat.mod_eq_of_lt hx, Nat.mod_eq_of_lt hy, u8_wraps _ hlt]
theorem u8_xor (x y : Nat) (hx : x < 256) (hy : y < 256) : bits .xor .u8 (x : Int) (y : Int) = ((x ^^^ y : Nat) : Int) := by
  have hlt : x ^^^ y < 256 := xor_lt hx hy
  change IntKind.u8.wrap (((BitVec.ofInt 8 (x : Int) ^^^ BitVec.ofInt 8 (y : Int)).toNat : Nat) : Int) = _
  rw [BitVec.ofInt_natCast, BitVec.ofInt_natCast, BitVec.toNat_xor, BitVec.toNat_ofNat, BitVec.toNat_ofNat, Nat.mod_eq_of_lt hx, Nat.mod_eq_of_lt hy, u8_wraps _ hlt]

set_option maxHeartbeats 400000 in
theorem left_nat (i x : Nat) (w : World) (h0 : 0 < i) (h1 : i < 8) (hx : x < 256) :
    Calls Try.prog 39 #[.int .u8 (x : Int), .int .u8 i] w fun e w' => e = .returned (.int .u8 ((leftN x i : Nat) : Int)) ∧ w = w' := by
  have e2 : IntKind.u8.wrap (8 - (i : Int)) = 8 - i := by rw [IntKind.wrap_u8]; omega
  have e1 : (8 - (i : Int)).toNat = 8 - i := by omega
  obtain ⟨hor, hlt⟩ := left_or h0 (by omega) hx
  obtain ⟨L, hL⟩ : ∃ L, leftN x i = L := ⟨_, rfl⟩
  rw [hL] at hor hlt ⊢
  have hp : (x : Int) * 2 ^ i = ((x * 2 ^ i : Nat) : Int) := by rw [Int.natCast_mul, Int.natCast_pow]; rfl
  have hs : (x : Int) / 2 ^ (8 - i) = ((x / 2 ^ (8 - i) : Nat) : Int) := by rw [Int.natCast_ediv, Int.natCast_pow]; rfl
  have hl : IntKind.u8.wrap ((x : Int) * 2 ^ i) = ((x * 2 ^ i % 256 : Nat) : Int) := by rw [hp, IntKind.wrap_u8]; omega
  have hq : x / 2 ^ (8 - i) < 256 := Nat.lt_of_le_of_lt (Nat.div_le_self _ _) hx
  have hb := u8_or (x * 2 ^ i % 256) (x / 2 ^ (8 - i)) (by omega) hq
  rw [hor] at hb
  obtain ⟨P, hP⟩ : ∃ P, x * 2 ^ i % 256 = P := ⟨_, rfl⟩
  obtain ⟨Q, hQ⟩ : ∃ Q, x / 2 ^ (8 - i) = Q := ⟨_, rfl⟩
  rw [hP] at hl hb
  rw [hQ] at hs hb
  clear hor hp hP hQ hL hq
  go_enter Try.func39, Try.ntmps39
  go_wp2
  go_ret
  exact ⟨rfl, rfl⟩

set_option maxHeartbeats 400000 in
theorem refTurned_nat (x : Nat) (w : World) (hx : x < 256) :
    Calls Try.prog 30 #[.int .u8 (x : Int)] w fun e w' => e = .returned (.int .u8 ((turnN x : Nat) : Int)) ∧ w = w' := by
  have l1 := (left_or (n := 1) (by omega) (by omega) hx).2
  have l2 := (left_or (n := 2) (by omega) (by omega) hx).2
  have l3 := (left_or (n := 3) (by omega) (by omega) hx).2
  have l4 := (left_or (n := 4) (by omega) (by omega) hx).2
  have c1 := left_nat 1 x w (by omega) (by omega) hx
  have c2 := left_nat 2 x w (by omega) (by omega) hx
  have c3 := left_nat 3 x w (by omega) (by omega) hx
  have c4 := left_nat 4 x w (by omega) (by omega) hx
  have ht : x ^^^ leftN x 1 ^^^ leftN x 2 ^^^ leftN x 3 ^^^ leftN x 4 ^^^ 99 = turnN x := rfl
  obtain ⟨A, hA⟩ : ∃ A, leftN x 1 = A := ⟨_, rfl⟩
  obtain ⟨B, hB⟩ : ∃ B, leftN x 2 = B := ⟨_, rfl⟩
  obtain ⟨C, hC⟩ : ∃ C, leftN x 3 = C := ⟨_, rfl⟩
  obtain ⟨D, hD⟩ : ∃ D, leftN x 4 = D := ⟨_, rfl⟩
  obtain ⟨T, hT⟩ : ∃ T, turnN x = T := ⟨_, rfl⟩
  rw [hA] at l1 c1 ht
  rw [hB] at l2 c2 ht
  rw [hC] at l3 c3 ht
  rw [hD] at l4 c4 ht
  rw [hT] at ht ⊢
  clear hA hB hC hD hT
  have x1 := u8_xor x A hx l1
  have y1 := xor_lt hx l1
  have x2 := u8_xor (x ^^^ A) B y1 l2
  have y2 := xor_lt y1 l2
  have x3 := u8_xor (x ^^^ A ^^^ B) C y2 l3
  have y3 := xor_lt y2 l3
  have x4 := u8_xor (x ^^^ A ^^^ B ^^^ C) D y3 l4
  have y4 := xor_lt y3 l4
  have x5 := u8_xor (x ^^^ A ^^^ B ^^^ C ^^^ D) 99 y4 (by omega)
  rw [ht] at x5
  clear y1 y2 y3 y4 l1 l2 l3 l4 ht
  obtain ⟨U, hU⟩ : ∃ U, x ^^^ A = U := ⟨_, rfl⟩
  rw [hU] at x1 x2 x3 x4 x5
  obtain ⟨V, hV⟩ : ∃ V, U ^^^ B = V := ⟨_, rfl⟩
  rw [hV] at x2 x3 x4 x5
  obtain ⟨W, hW⟩ : ∃ W, V ^^^ C = W := ⟨_, rfl⟩
  rw [hW] at x3 x4 x5
  obtain ⟨X, hX⟩ : ∃ X, W ^^^ D = X := ⟨_, rfl⟩
  rw [hX] at x4 x5
  have x5' : bits .xor .u8 (X : Int) 99 = (T : Int) := x5
  clear x5 hU hV hW hX
  go_enter Try.func30, Try.ntmps30
  go_wp2_with fail
  refine c1.mono ?_; rintro _ _ ⟨rfl, rfl⟩
  go_wp2_with fail
  refine c2.mono ?_; rintro _ _ ⟨rfl, rfl⟩
  go_wp2_with fail
  refine c3.mono ?_; rintro _ _ ⟨rfl, rfl⟩
  go_wp2_with fail
  refine c4.mono ?_; rintro _ _ ⟨rfl, rfl⟩
  go_wp2_with fail
  go_ret
  exact ⟨rfl, rfl⟩

theorem refMul_nat (a b : Nat) (w : World) (ha : a < 256) (hb : b < 256) : Calls Try.prog 14 #[.int .u8 (a : Int), .int .u8 (b : Int)] w fun e w' => e = .returned (.int .u8 ((gm a b : Nat) : Int)) ∧ w = w' := by
  have h := refMul_any (UInt8.ofNat a) (UInt8.ofNat b) w
  have e1 : (UInt8.ofNat a).toNat = a := by rw [UInt8.toNat_ofNat']; omega
  have e2 : (UInt8.ofNat b).toNat = b := by rw [UInt8.toNat_ofNat']; omega
  rw [mulB_nat, e1, e2] at h
  exact h

/-- The search finds what makes 1, or there is none. -/
theorem inv_none {x : Nat} (hx : x < 256) (h : ∀ j, 0 < j → j < 256 → gm x j ≠ 1) : invN x = 0 := by
  by_cases h0 : x = 0
  · subst h0; exact inv_zero
  · obtain ⟨h1, h2⟩ := inv_one hx h0
    exact absurd h1 (h _ (by omega) (inv_lt hx))

/-- None below i makes 1. -/
def NoInv (x i : Nat) : Prop := ∀ j, 0 < j → j < i → gm x j ≠ 1
theorem NoInv.next {x i : Nat} (h : NoInv x i) (hg : gm x i ≠ 1) : NoInv x (i + 1) := fun j h1 h2 => by
  by_cases e : j = i
  · subst e; exact hg
  · exact h j h1 (by omega)

set_option maxHeartbeats 1000000 in
theorem inverse_nat (x : Nat) (w : World) (hx : x < 256) : Calls Try.prog 31 #[.int .u8 (x : Int)] w fun e w' => e = .returned (.int .u8 ((invN x : Nat) : Int)) ∧ w = w' := by
  go_enter Try.func31, Try.ntmps31
  go_wp2_with fail
  go_loopw [3] (fun p wr => (∃ i : Nat, 1 ≤ i ∧ i ≤ 256 ∧ p = .int .i64 i ∧ NoInv x i) ∧ w = wr) (fun p _ => 256 - (intOf p).toNat)
  case atStart => exact ⟨⟨1, by omega, by omega, rfl, fun j h1 h2 => by omega⟩, rfl⟩
  case round =>
    obtain ⟨⟨i, h1, hi, rfl, hno⟩, rfl⟩ := hrel
    by_cases hlt : i < 256
    · have hq : (i : Int) < 256 := by omega
      have hwr : IntKind.u8.wrap (i : Int) = (i : Int) := u8_wraps i hlt
      go_wp2_with fail
      refine (refMul_nat x i w hx hlt).mono ?_; rintro _ _ ⟨rfl, rfl⟩
      by_cases hg : gm x i = 1
      · have HY := Lib.hid (inv_unique hx hlt hg)
        have HG := Lib.hid hg
        obtain ⟨G, hG⟩ : ∃ G, gm x i = G := ⟨_, rfl⟩
        obtain rfl : G = 1 := by rw [← hG]; exact hg
        rw [hG]
        clear hg hG hno
        go_wp2_with fail
        go_ret
        refine ⟨?_, rfl⟩
        rw [← HY.out]
        rfl
      · have hnx := hno.next hg
        obtain ⟨G, hG⟩ : ∃ G, gm x i = G := ⟨_, rfl⟩
        have hgn : G ≠ 1 := by rw [← hG]; exact hg
        have hd1 : ((G : Int) == 1) = false := beq_eq_false_iff_ne.2 (by omega)
        rw [hG]
        clear hG hg hno hgn
        go_wp2_with fail
        go_roundw
        case rel => exact ⟨⟨i + 1, by omega, by omega, by go_num, hnx⟩, trivial⟩
        case measure => simp [intOf]; omega
    · have hq : ¬ (i : Int) < 256 := by omega
      have h0 : invN x = 0 := inv_none hx (fun j h1 h2 => hno j h1 (by omega))
      have H0 := Lib.hid h0
      clear hno h0
      go_wp2_with fail
      go_ret
      exact ⟨by rw [H0.out]; rfl, rfl⟩

theorem refBox_nat (x : Nat) (w : World) (hx : x < 256) : Calls Try.prog 16 #[.int .u8 (x : Int)] w fun e w' => e = .returned (.int .u8 ((boxN x : Nat) : Int)) ∧ w = w' := by
  have c1 := inverse_nat x w hx
  have c2 := refTurned_nat (invN x) w (inv_lt hx)
  have hb : turnN (invN x) = boxN x := rfl
  rw [hb] at c2
  obtain ⟨I, hI⟩ : ∃ I, invN x = I := ⟨_, rfl⟩
  obtain ⟨B, hB⟩ : ∃ B, boxN x = B := ⟨_, rfl⟩
  rw [hI] at c1 c2
  rw [hB] at c2 ⊢
  clear hb hI hB
  go_enter Try.func16, Try.ntmps16
  go_wp2_with fail
  refine c1.mono ?_; rintro _ _ ⟨rfl, rfl⟩
  go_wp2_with fail
  refine c2.mono ?_; rintro _ _ ⟨rfl, rfl⟩
  go_wp2_with fail
  go_ret
  exact ⟨rfl, rfl⟩
theorem refBox_any (x : UInt8) (w : World) : Calls Try.prog 16 #[.int .u8 (x.toNat : Int)] w fun e w' => e = .returned (.int .u8 ((boxB x).toNat : Int)) ∧ w = w' := by
  rw [boxB_nat]
  exact refBox_nat x.toNat w (u8_lt x)
end Go.Proofs.Ytfnkcdcbjcoefaa

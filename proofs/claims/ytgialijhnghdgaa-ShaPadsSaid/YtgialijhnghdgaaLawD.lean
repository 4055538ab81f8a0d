/- ShaPads. -/
import Derived.Test.YtgialijhnghdgaaShownSha
namespace Go.Proofs.Ytgialijhnghdgaa
open Go.RowKit

theorem pad_first (n : Nat) : (pad n).getD 0 0 = 128 := rfl
theorem pad_mid (n k : Nat) (h : k < fill n) : (pad n).getD (1 + k) 0 = 0 := by
  unfold pad
  rw [Nat.add_comm, List.cons_append, List.getD_cons_succ, List.getD_eq_getElem?_getD, List.getElem?_append_left (by simp; exact h), List.getElem?_replicate]
  simp [h]
theorem pad_end (n k : Nat) (h : k < 8) : (((pad n).getD (1 + fill n + k) 0).toNat : Int) = ((8 * n / 256 ^ (7 - k) : Nat) : Int) % 256 := by
  rw [List.getD_eq_getElem?_getD, pad_get n k h]
  simp

set_option maxRecDepth 100000 in
set_option maxHeartbeats 4000000 in
theorem shaPads_walk (n : Int) (w : World) (hn : -9223372036854775808 ≤ n ∧ n ≤ 9223372036854775807) :
    Calls Try.prog 7 #[.int .i64 n] w (Yes w) := by
  by_cases h0 : 0 ≤ n ∧ n ≤ 1125899906842624
  · have hp : padOf n = pad n.toNat := if_pos h0
    obtain ⟨h0, h1⟩ := h0
    obtain ⟨n, rfl⟩ := Int.eq_ofNat_of_zero_le h0
    rw [Int.toNat_natCast] at hp
    obtain ⟨f, hf⟩ : ∃ f, fill n = f := ⟨_, rfl⟩
    have hfl := fill_lt n
    have hl := pad_length n
    have hwh := pad_whole n
    have hmid := pad_mid n
    have hend := pad_end n
    rw [hf] at hfl hl hmid hend
    have hwh2 : ((n : Int) + (9 + (f : Int))) % 64 = 0 := by rw [hl] at hwh; omega
    have HP := Lib.hid hp
    have HL := Lib.hid hl
    have HM := Lib.hid hmid
    have HE := Lib.hid hend
    have HN := Lib.hid h1
    have hw8 : IntKind.i64.wrap (8 * (n : Int)) = 8 * (n : Int) := by rw [IntKind.wrap_i64]; omega
    clear hp hl hmid hend hwh hf
    go_enter Try.func7, Try.ntmps7
    go_wp2_with fail
    refine (shown_any _).mono ?_
    rintro e w1 ⟨rfl, k1⟩
    go_wp2_with fail
    refine (pad_any _ _).mono ?_
    rintro e w2 ⟨⟨v, rfl, hr⟩, k2⟩
    rw [HP.out] at hr
    obtain ⟨a, c, rfl, hc1, hc2⟩ := hr.shape
    rw [HL.out] at hr hc1 ⊢
    unfold maxLen at hc2
    obtain ⟨b, off, rfl, hbB, hcell⟩ := hr.at 0 (by omega)
    have c0 := hcell 0 (by omega)
    rw [pad_first] at c0
    have c0' : w2.cell? ⟨b, off, none⟩ = some (.int .u8 128) := c0
    have HC := Lib.hid hcell
    clear hcell c0
    go_wp2_with fail
    rw [show (9 + (f : Int) - 8) = 1 + (f : Int) by omega]
    go_loopw [5, 6] (fun x i wr => (∃ k : Nat, k ≤ 8 ∧ i = .int .i64 (1 + (f : Int) + (k : Int)) ∧ x = .int .i64 ((8 * n / 256 ^ (8 - k) : Nat) : Int)) ∧ w2 = wr) (fun _ i _ => (80 - intOf i).toNat)
    case atStart => exact ⟨⟨0, by omega, by simp, by
      have : 8 * n / 256 ^ 8 = 0 := Nat.div_eq_of_lt (by have h3 : (256 : Nat) ^ 8 = 18446744073709551616 := by decide
                                                         have := HN.out
                                                         omega)
      rw [Nat.sub_zero, this]; rfl⟩, rfl⟩
    case round =>
      obtain ⟨⟨k, hk, rfl, rfl⟩, rfl⟩ := hrel
      by_cases hlt : k < 8
      · have ck := HC.out (1 + f + k) (by omega)
        rw [HE.out k hlt] at ck
        have hdiv : 8 * n / 256 ^ (8 - k) = (8 * n / 256 ^ (7 - k)) / 256 := by
          rw [Nat.div_div_eq_div_mul, ← Nat.pow_succ, show (7 - k).succ = 8 - k by omega]
        obtain ⟨X, hX⟩ : ∃ X, 8 * n / 256 ^ (7 - k) = X := ⟨_, rfl⟩
        rw [hX] at ck hdiv
        have hXb : (X : Int) ≤ 9007199254740992 := by
          have h1 : X ≤ 8 * n := by rw [← hX]; exact Nat.div_le_self _ _
          have := HN.out
          omega
        rw [hdiv]
        have hmod : 256 * ((X / 256 : Nat) : Int) + (X : Int) % 256 = (X : Int) := by omega
        have hw1 : IntKind.i64.wrap (256 * ((X / 256 : Nat) : Int)) = 256 * ((X / 256 : Nat) : Int) := by rw [IntKind.wrap_i64]; omega
        have hw2 : IntKind.i64.wrap (X : Int) = (X : Int) := by rw [IntKind.wrap_i64]; omega
        have HX := Lib.hid hX
        have hi2 : 1 + (f : Int) + (k : Int) < 9 + (f : Int) := by omega
        have hi3 : (1 + (f : Int) + (k : Int)).toNat = 1 + f + k := by omega
        obtain ⟨Y, hY⟩ : ∃ Y : Int, ((X / 256 : Nat) : Int) = Y := ⟨_, rfl⟩
        rw [hY] at hmod hw1 ⊢
        obtain ⟨Z, hZ⟩ : ∃ Z : Int, (X : Int) % 256 = Z := ⟨_, rfl⟩
        rw [hZ] at hmod ck
        have hz0 : 0 ≤ Z := by omega
        have hz1 : Z < 256 := by omega
        have hy0 : 0 ≤ Y := by omega
        have HYZ := Lib.hid (And.intro hY hZ)
        clear hX hdiv hXb hY hZ
        go_wp2_with fail
        go_roundw
        case rel =>
          refine ⟨⟨k + 1, by omega, by congr 1, ?_⟩, trivial⟩
          rw [show 8 - (k + 1) = 7 - k by omega, HX.out]
        case measure => simp [intOf]; omega
      · obtain rfl : k = 8 := by omega
        have h8 : 8 * n / 256 ^ (8 - 8) = 8 * n := by simp
        rw [h8]
        have hge : ¬ (1 + (f : Int) + 8 < 9 + (f : Int)) := by omega
        clear h8
        go_wp2_with fail
        go_loopw [7] (fun i wr => (∃ k : Nat, k ≤ f ∧ i = .int .i64 (1 + (k : Int))) ∧ w2 = wr) (fun i _ => (80 - intOf i).toNat)
        case atStart => exact ⟨⟨0, by omega, rfl⟩, rfl⟩
        case round =>
          obtain ⟨⟨k, hk, rfl⟩, rfl⟩ := hrel
          by_cases hlt2 : k < f
          · have ck := HC.out (1 + k) (by omega)
            rw [HM.out k hlt2] at ck
            have ck' : w2.cell? ⟨b, off + (1 + k), none⟩ = some (.int .u8 0) := ck
            have hlt3 : 1 + (k : Int) < 9 + (f : Int) - 8 := by omega
            have hlt4 : 1 + (k : Int) < 9 + (f : Int) := by omega
            have hi3 : (1 + (k : Int)).toNat = 1 + k := by omega
            clear ck
            go_wp2_with fail
            go_roundw
            case rel => exact ⟨⟨k + 1, by omega, by congr 1⟩, trivial⟩
            case measure => simp [intOf]; omega
          · have hge2 : ¬ (1 + (k : Int) < 9 + (f : Int) - 8) := by omega
            go_wp2_with fail
            go_ret
            exact ⟨by simp, k1.trans k2⟩
  · have hp : padOf n = [] := if_neg h0
    have HP := Lib.hid hp
    clear hp
    by_cases h : n < 0
    · clear h0
      go_enter Try.func7, Try.ntmps7
      go_wp2_with fail
      refine (shown_any _).mono ?_
      rintro e w1 ⟨rfl, k1⟩
      go_wp2_with fail
      refine (pad_any _ _).mono ?_
      rintro e w2 ⟨⟨v, rfl, hr⟩, k2⟩
      rw [HP.out] at hr
      obtain ⟨a, c, rfl, hc1, hc2⟩ := hr.shape
      rw [List.length_nil]
      go_wp2_with fail
      go_ret
      exact ⟨rfl, k1.trans k2⟩
    · have h2 : 1125899906842624 < n := by omega
      clear h0
      go_enter Try.func7, Try.ntmps7
      go_wp2_with fail
      refine (shown_any _).mono ?_
      rintro e w1 ⟨rfl, k1⟩
      go_wp2_with fail
      refine (pad_any _ _).mono ?_
      rintro e w2 ⟨⟨v, rfl, hr⟩, k2⟩
      rw [HP.out] at hr
      obtain ⟨a, c, rfl, hc1, hc2⟩ := hr.shape
      rw [List.length_nil]
      go_wp2_with fail
      go_ret
      exact ⟨rfl, k1.trans k2⟩
end Go.Proofs.Ytgialijhnghdgaa

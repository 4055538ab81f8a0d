/- (*aes.cipher).lock: a block through all rounds. -/
import Derived.Test.YtfnkcdcbjcoefaaAesMix
import Derived.Test.YtfnkcdcbjcoefaaAesCipher
set_option linter.unusedVariables false
set_option linter.unusedSimpArgs false
namespace Go.Proofs.Ytfnkcdcbjcoefaa
open Go.RowKit

theorem addR_row (s K : List UInt8) (n : Nat) : addR s (rowK K n) = addS s K n := by
  unfold addR addS tab
  apply List.map_congr_left
  intro i hi
  rw [rowK_get (by simpa using hi)]
theorem lockTo_step (K s : List UInt8) (n : Nat) (h : n + 1 < 10) : addS (mixS (subS (lockTo K s n))) K (n + 1) = lockTo K s (n + 1) := by
  rw [lockTo, roundS, if_pos h]
theorem lockTo_last (K s : List UInt8) (n : Nat) (h : ¬ n + 1 < 10) : addS (subS (lockTo K s n)) K (n + 1) = lockTo K s (n + 1) := by
  rw [lockTo, roundS, if_neg h]

set_option maxHeartbeats 1000000 in
theorem lock_any (gc gs bx : Nat) (s K : List UInt8) (w : World) (hs : s.length = 16) (hK : K.length = 176) (hcs : gc ≠ gs) (hbs : bx ≠ gs) (hC : Cph w gc bx K) (hB : By 51 w gs s) :
    Calls Try.prog 32 #[.pointer (some ⟨gc, 0, none⟩), .pointer (some ⟨gs, 0, none⟩)] w fun e w' => e = .returned (.tuple #[]) ∧ By 51 w' gs (lockL K s) ∧ Wr gs w w' := by
  have HR : Hid (∀ n, n ≤ 10 → (rowK K n).length = 16) := fun n hn => rowK_length (by omega)
  have HROW : Hid (∀ W n, n ≤ 10 → Cph W gc bx K → Lies W gc (1 + n * 16) (rowK K n)) := fun W n hn h => by
    rw [Nat.mul_comm]
    exact h.rows.row (by omega)
  have h0 := HROW.out w 0 (by omega) hC
  have hlen : Hid (∀ n, (lockTo K s n).length = 16) := lockTo_length K s
  have hl0 := add_any gs gc 1 s (rowK K 0) w hs (HR.out 0 (by omega)) hcs hB h0
  rw [addR_row] at hl0
  have hl0' : Calls Try.prog 40 #[.pointer (some ⟨gs, 0, none⟩), .pointer (some ⟨gc, 1, none⟩)] w fun e w' => e = .returned (.tuple #[]) ∧ By 51 w' gs (lockTo K s 0) ∧ Wr gs w w' := hl0
  clear hl0 h0
  go_enter Try.func32, Try.ntmps32
  go_wp2_with fail
  refine hl0'.mono ?_; rintro _ w1 ⟨rfl, hB1, hw1⟩
  clear hl0' hB
  go_wp2_with fail
  go_loopw [11] (fun p wr => ∃ n : Nat, n ≤ 10 ∧ p = .int .i64 n ∧ By 51 wr gs (lockTo K s n) ∧ Wr gs w wr) (fun p _ => 10 - (intOf p).toNat)
  case atStart => exact ⟨0, by omega, rfl, hB1, hw1⟩
  case round =>
    clear hB1 hw1
    obtain ⟨n, hn, rfl, hB, hw⟩ := hrel
    by_cases hlt : n < 10
    · have q1 : (n : Int) < 10 := by omega
      have q3 : (n : Int) + 1 < 11 := by omega
      have q4 : (0 : Int) ≤ (n : Int) + 1 := by omega
      have i1 : IntKind.i64.wrap ((n : Int) + 1) = (n : Int) + 1 := IntWalk.i64_in _ (by omega)
      have i2 : ((n : Int) + 1).toNat = n + 1 := by omega
      have hC1 := hC.wr hw hcs hbs
      have ht := turn_any gc gs bx (lockTo K s n) wr (hlen.out n) hcs hbs hC1.ptr hC1.box hB
      by_cases h9 : n + 1 < 10
      · have hst := Lib.hid (lockTo_step K s n h9)
        have q5 : (n : Int) + 1 < 10 := by omega
        generalize hL : lockTo K s n = L at *
        clear hL
        go_wp2_with fail
        refine ht.mono ?_; rintro _ w2 ⟨rfl, hB2, hw2⟩
        have hm := mixState_any gs (subS L) w2 (subS_length L) hB2
        go_wp2_with fail
        refine hm.mono ?_; rintro _ w3 ⟨rfl, hB3, hw3⟩
        have hC3 := hC1.wr (hw2.trans hw3) hcs hbs
        have ha := add_any gs gc (1 + (n + 1) * 16) (mixS (subS L)) (rowK K (n + 1)) w3 (mixS_length _) (HR.out (n + 1) (by omega)) hcs hB3 (HROW.out w3 (n + 1) (by omega) hC3)
        rw [addR_row, hst.out] at ha
        have HA := Lib.hid ha
        clear ha ht hm hB2 hB3
        go_wp2_with fail
        refine HA.out.mono ?_; rintro _ w4 ⟨rfl, hB4, hw4⟩
        have hw5 := ((hw.trans hw2).trans hw3).trans hw4
        clear HA
        go_wp2_with fail
        go_roundw
        case rel => exact ⟨n + 1, by omega, by go_num, hB4, hw5⟩
        case measure => simp [intOf]; omega
      · have hst := Lib.hid (lockTo_last K s n h9)
        have q5 : ¬ (n : Int) + 1 < 10 := by omega
        generalize hL : lockTo K s n = L at *
        clear hL
        go_wp2_with fail
        refine ht.mono ?_; rintro _ w2 ⟨rfl, hB2, hw2⟩
        have hC3 := hC1.wr hw2 hcs hbs
        have ha := add_any gs gc (1 + (n + 1) * 16) (subS L) (rowK K (n + 1)) w2 (subS_length _) (HR.out (n + 1) (by omega)) hcs hB2 (HROW.out w2 (n + 1) (by omega) hC3)
        rw [addR_row, hst.out] at ha
        have HA := Lib.hid ha
        clear ha ht hB2
        go_wp2_with fail
        refine HA.out.mono ?_; rintro _ w4 ⟨rfl, hB4, hw4⟩
        have hw5 := (hw.trans hw2).trans hw4
        clear HA
        go_wp2_with fail
        go_roundw
        case rel => exact ⟨n + 1, by omega, by go_num, hB4, hw5⟩
        case measure => simp [intOf]; omega
    · obtain rfl : n = 10 := by omega
      go_wp2_with fail
      go_end0
      exact ⟨rfl, hB, hw⟩
end Go.Proofs.Ytfnkcdcbjcoefaa

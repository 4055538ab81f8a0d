/- AesParts. -/
import Derived.Test.YtfnkcdcbjcoefaaLawAesA
import Derived.Test.YtfnkcdcbjcoefaaRefKeysAll
import Derived.Deep.RegionHeld3
set_option linter.unusedVariables false
set_option linter.unusedSimpArgs false
namespace Go.Proofs.Ytfnkcdcbjcoefaa
open Go.RowKit

set_option maxRecDepth 100000 in
set_option maxHeartbeats 4000000 in
theorem aesParts_walk (a b : UInt8) (va : Value) (la : List UInt8) (w : World) (ha : Rd w va la) :
    Calls Try.prog 3 #[.int .u8 (a.toNat : Int), .int .u8 (b.toNat : Int), va] w (Yes w) := by
  obtain ⟨a1, c1, rfl, p1, s1⟩ := ha.shape
  by_cases h0 : 40 < la.length
  · have q0 : 40 < (la.length : Int) := by omega
    go_enter Try.func3, Try.ntmps3
    go_wp2_with fail
    refine (shownAes_any _).mono ?_
    rintro e w1 ⟨rfl, k1⟩
    go_wp2_with fail
    go_ret
    exact ⟨rfl, k1⟩
  · have q0 : ¬ 40 < (la.length : Int) := by omega
    have hE := keyE_01 la
    have HA : Hid (∀ W, Kp w W → Calls Try.prog 10 #[.slice a1 la.length c1] W fun e w' => (∃ r, e = .returned (.tuple #[r, .int .i64 (keyE la)]) ∧ RL w' r (keyR la)) ∧ Kp W w') := fun W hW => aesKeys_any _ la W (ha.kp hW)
    have HR : Hid (∀ W, Kp w W → Calls Try.prog 11 #[.slice a1 la.length c1] W fun e w' => (∃ r, e = .returned (.tuple #[r, .int .i64 (keyE la)]) ∧ RL w' r (keyR la)) ∧ Kp W w') := fun W hW => refKeys_any5 _ la W (ha.kp hW)
    have hn : (keyR la).length ≤ 11 := by
      unfold keyR
      split
      · rw [rowsK_length]; exact Nat.le_refl _
      · exact Nat.zero_le _
    generalize keyE la = E at *
    generalize keyR la = R at *
    have hw : IntKind.i64.wrap E = E := by rcases hE with rfl | rfl <;> rfl
    have HM := Lib.hid (fun W => aesMul_any a b W)
    have HM2 := Lib.hid (fun W => refMul_any a b W)
    have HB := Lib.hid (fun W => aesBox_any a W)
    have HB2 := Lib.hid (fun W => refBox_any a W)
    obtain ⟨n, hnn⟩ : ∃ n, R.length = n := ⟨_, rfl⟩
    rw [hnn] at hn
    clear ha hE
    go_enter Try.func3, Try.ntmps3
    go_wp2_with fail
    refine (shownAes_any _).mono ?_
    rintro e w1 ⟨rfl, k1⟩
    go_wp2_with fail
    refine (HA.out w1 k1).mono ?_
    rintro e w2 ⟨⟨x, rfl, r2⟩, k2⟩
    obtain ⟨ax, cx, rfl, _, _⟩ := r2.shape
    go_wp2_with fail
    refine (HR.out w2 (k1.trans k2)).mono ?_
    rintro e w3 ⟨⟨y, rfl, r3⟩, k3⟩
    obtain ⟨ay, cy, rfl, _, _⟩ := r3.shape
    rw [hnn] at r2 r3 ⊢
    have R2 := Lib.hid (r2.kp k3)
    have R3 := Lib.hid r3
    have k13 := (k1.trans k2).trans k3
    have HRL := Lib.hid hnn
    clear r2 r3 hnn HA HR k1 k2 k3
    go_wp2_with fail
    go_loopw [12] (fun p wr => ∃ i : Nat, i ≤ n ∧ p = .int .i64 i ∧ Kp w3 wr) (fun p _ => n - (intOf p).toNat)
    case atStart => exact ⟨0, by omega, rfl, Kp.refl _⟩
    case round =>
      obtain ⟨i, hi, rfl, hk⟩ := hrel
      by_cases hlt : i < n
      · have q1 : (i : Int) < (n : Int) := by omega
        obtain ⟨b1, o1, rfl, l1, c1⟩ := RL.at (R2.out.kp hk) i hlt
        obtain ⟨b2, o2, rfl, l2, c2⟩ := RL.at (R3.out.kp hk) i hlt
        obtain ⟨u1, d1, e1⟩ := c1 i hlt
        obtain ⟨u2, d2, e2⟩ := c2 i hlt
        obtain ⟨a3, c3, rfl, _, _⟩ := e1.shape
        obtain ⟨a4, c4, rfl, _, _⟩ := e2.shape
        have HSM : Hid (∀ W, Kp wr W → Calls Try.prog 12 #[.slice a3 (R.getD i []).length c3, .slice a4 (R.getD i []).length c4] W fun e w' => e = .returned (.bool true) ∧ W = w') := fun W hW => same_yes5 _ _ _ W (e1.kp hW) (e2.kp hW)
        generalize (R.getD i []).length = m at *
        have KD : Hid (wr.drew.cell? ⟨b1, o1 + i, none⟩ = some (.slice a3 m c3) ∧ wr.drew.cell? ⟨b2, o2 + i, none⟩ = some (.slice a4 m c4)) := ⟨d1, d2⟩
        clear c1 c2 e1 e2
        go_wp2_with fail
        go_region_held3 (fun W => W.cell? ⟨b1, o1 + i, none⟩ = some (.slice a3 m c3) ∧ W.cell? ⟨b2, o2 + i, none⟩ = some (.slice a4 m c4))
          (first
            | (with_reducible exact KD.out))
          (first
            | (go_at_call 12; refine (HSM.out _ (Kp.refl _).drew).mono ?_; rintro _ _ ⟨rfl, rfl⟩))
        all_goals
          go_wp2_with fail
          go_roundw
          case rel => exact ⟨i + 1, by omega, by go_num, hk.drew⟩
          case measure => simp [intOf]; omega
      · obtain rfl : i = n := by omega
        have k14 := k13.trans hk
        generalize (mulB a b).toNat = M at *
        generalize (boxB a).toNat = X at *
        clear R2 R3 hlt hi hn
        go_wp2_with fail
        refine (HM.out wr).mono ?_; rintro _ _ ⟨rfl, rfl⟩
        go_wp2_with fail
        refine (HM2.out wr).mono ?_; rintro _ _ ⟨rfl, rfl⟩
        go_wp2_with fail
        refine (HB.out wr).mono ?_; rintro _ w5 ⟨rfl, k5⟩
        go_wp2_with fail
        refine (HB2.out w5).mono ?_; rintro _ _ ⟨rfl, rfl⟩
        go_wp2_with fail
        go_ret
        exact ⟨rfl, k14.trans k5⟩
end Go.Proofs.Ytfnkcdcbjcoefaa

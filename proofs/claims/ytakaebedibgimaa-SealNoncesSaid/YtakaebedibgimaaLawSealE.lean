/- SealNonces. -/
import Derived.Test.YtakaebedibgimaaSealOwnAll
import Derived.Test.YtakaebedibgimaaShownSeal
import Derived.Deep.RegionHeld3
set_option linter.unusedVariables false
set_option linter.unusedSimpArgs false
namespace Go.Proofs.Ytakaebedibgimaa
open Go.RowKit

theorem atL_first (base : List UInt8) (n : Nat) (hb : base.length = 12) : (atL base n).take 8 = base.take 8 := by
  refine get_ext 8 _ _ (by rw [List.length_take, atL_length]; rfl) (by rw [List.length_take]; omega) fun j hj => ?_
  rw [List.getD_eq_getElem?_getD, List.getElem?_take_of_lt hj, ← List.getD_eq_getElem?_getD, atL_get _ _ _ (by omega), List.getD_eq_getElem?_getD, List.getElem?_take_of_lt hj, ← List.getD_eq_getElem?_getD]
  unfold atF
  rw [if_pos hj]
theorem atL_told (base : List UInt8) (n j : Nat) (h8 : 8 ≤ j) (h : j < 12) : (atL base n).getD j 0 ^^^ base.getD j 0 = (be 4 n).getD (j - 8) 0 := by
  rw [atL_get _ _ _ h]
  unfold atF
  rw [if_neg (by omega), UInt8.xor_comm, ← UInt8.xor_assoc, UInt8.xor_self, UInt8.zero_xor]
theorem val_told (n j : Nat) (h8 : 8 ≤ j) (h : j < 12) : val ((be 4 n).take (j + 1 - 8)) = 256 * val ((be 4 n).take (j - 8)) + ((be 4 n).getD (j - 8) 0).toNat := by
  rw [show j + 1 - 8 = (j - 8) + 1 by omega]
  exact val_take _ _ (by rw [be_length]; omega)
theorem val_small (n j : Nat) (h : j < 12) : val ((be 4 n).take (j - 8)) ≤ 16777216 := by
  have h1 := val_lt ((be 4 n).take (j - 8))
  have h2 : ((be 4 n).take (j - 8)).length ≤ 3 := by rw [List.length_take]; omega
  have h3 : 256 ^ ((be 4 n).take (j - 8)).length ≤ 256 ^ 3 := Nat.pow_le_pow_right (by omega) h2
  have h4 : (256 : Nat) ^ 3 = 16777216 := by decide
  omega
theorem val_end (n : Nat) (h : (n : Int) ≤ 4294967295) : val ((be 4 n).take (12 - 8)) = n := by
  have := be_length 4 n
  rw [List.take_of_length_le (by omega)]
  exact val_be 4 n (by have : (256 : Nat) ^ 4 = 4294967296 := by decide
                       omega)
theorem same_dec6 (u v : Value) (l m : List UInt8) (b : Bool) (w : World) (hb : decide (l = m) = b) (h : Rd w u l) (h' : Rd w v m) : Calls Try.prog 13 #[u, v] w fun e w' => e = .returned (.bool b) ∧ w = w' := by
  have := same_any u v l m w h h'
  rwa [hb] at this

set_option maxRecDepth 100000 in
set_option maxHeartbeats 8000000 in
theorem sealNonces_walk (va : Value) (la : List UInt8) (na nb : Nat) (w : World) (ha : Rd w va la) (hna : (na : Int) ≤ 4294967295) (hnb : (nb : Int) ≤ 4294967295) :
    Calls Try.prog 6 #[va, .int .u32 (na : Int), .int .u32 (nb : Int)] w (Yes w) := by
  obtain ⟨a1, c1, rfl, p1, s1⟩ := ha.shape
  by_cases h0 : la.length = 12
  · obtain ⟨g1, o1, rfl, _, _⟩ := ha.at 0 (by omega)
    have HAT : Hid (∀ W v l (n : Nat), Rd W v l → l.length = 12 → (n : Int) ≤ 4294967295 → Calls Try.prog 16 #[v, .int .i64 (n : Int)] W fun e w' => (∃ r, e = .returned (.tuple #[r, .int .i64 0]) ∧ Rd w' r (atL l n)) ∧ Kp W w') := fun W v l n hv hl hn => by
      have := sealAt_any v l n W hv (by omega)
      rwa [show atE l (n : Int) = 0 from if_pos ⟨hl, by omega, hn⟩, show atR l (n : Int) = atL l n from if_pos ⟨hl, by omega, hn⟩] at this
    have HI : Hid (decide (atL la na = atL la nb) = decide ((na : Int) = (nb : Int))) := by
      have := atL_inj la na nb (by omega) (by omega)
      have h2 : (atL la na = atL la nb) ↔ ((na : Int) = (nb : Int)) := this.trans (by omega)
      exact decide_eq_decide.2 h2
    have HB := Lib.hid (atL_back la na h0)
    have HF := Lib.hid (atL_first la na h0)
    have HT := Lib.hid (fun j h8 h => atL_told la na j h8 h)
    have HV := Lib.hid (fun j h8 h => val_told na j h8 h)
    have HVS := Lib.hid (fun j h => val_small na j h)
    have HVE := Lib.hid (val_end na hna)
    have HL := Lib.hid (atL_length la na)
    have HL2 := Lib.hid (atL_length la nb)
    have HD := Lib.hid ha
    have HN := Lib.hid (And.intro h0 (And.intro hna hnb))
    have i1 : IntKind.i64.wrap (na : Int) = (na : Int) := IntWalk.i64_in _ (by omega)
    have i2 : IntKind.i64.wrap (nb : Int) = (nb : Int) := IntWalk.i64_in _ (by omega)
    have i3 : (8 : Int) ≤ (c1 : Int) := by omega
    rw [h0] at HD p1 ⊢
    clear ha h0 hna hnb
    go_enter Try.func6, Try.ntmps6
    go_wp2_with fail
    refine (shownSeal_any _).mono ?_
    rintro e w1 ⟨rfl, k1⟩
    have K1 := Lib.hid k1
    clear k1
    go_wp2_with fail
    refine (HAT.out _ _ la na (HD.out.kp K1.out) HN.out.1 HN.out.2.1).mono ?_
    rintro _ w2 ⟨⟨x, rfl, q2⟩, k2⟩
    obtain ⟨ax, cx, rfl, p2, s2⟩ := q2.shape
    rw [HL.out] at q2 p2 ⊢
    obtain ⟨g2, o2, rfl, _, _⟩ := q2.at 0 (by omega)
    have X2 := Lib.hid q2
    have K2 := Lib.hid (K1.out.trans k2)
    clear q2 k2 K1
    go_wp2_with fail
    refine (HAT.out _ _ la nb (HD.out.kp K2.out) HN.out.1 HN.out.2.2).mono ?_
    rintro _ w3 ⟨⟨y, rfl, q3⟩, k3⟩
    obtain ⟨ay, cy, rfl, p3, s3⟩ := q3.shape
    rw [HL2.out] at q3 p3 ⊢
    have Y3 := Lib.hid q3
    have X3 := Lib.hid (X2.out.kp k3)
    have K3 := Lib.hid (K2.out.trans k3)
    clear q3 k3 K2 X2
    have i4 : (8 : Int) ≤ (cx : Int) := by omega
    have HSM : Hid (∀ W, Kp w3 W → Calls Try.prog 13 #[.slice (some ⟨g2, o2, none⟩) 8 cx, .slice (some ⟨g1, o1, none⟩) 8 c1] W fun e w' => e = .returned (.bool true) ∧ W = w') := fun W hW =>
      same_dec6 _ _ (List.take 8 (atL la na)) (List.take 8 la) true W (decide_eq_true HF.out) ((X3.out.kp hW).pre6 8 (by omega)) ((HD.out.kp (K3.out.trans hW)).pre6 8 (by omega))
    go_wp2_with fail
    go_region_held3 (fun _ => True) (exact trivial)
      (first | (go_at_call 13; refine (HSM.out _ (Kp.refl _).drew).mono ?_; rintro _ _ ⟨rfl, rfl⟩))
    have K4 := Lib.hid (K3.out.drew)
    have X4 := Lib.hid (X3.out.kp (Kp.refl _).drew)
    have Y4 := Lib.hid (Y3.out.kp (Kp.refl _).drew)
    clear K3 X3 Y3 HSM i4
    obtain ⟨w4, hw4⟩ : ∃ w4, w3.drew = w4 := ⟨_, rfl⟩
    rw [hw4] at K4 X4 Y4 ⊢
    clear hw4
    go_wp2_with fail
    go_loopw [12, 13] (fun n i wr => ∃ j : Nat, 8 ≤ j ∧ j ≤ 12 ∧ i = .int .i64 j ∧ n = .int .i64 (val ((be 4 na).take (j - 8)) : Nat) ∧ Kp w4 wr) (fun _ i _ => (12 - (intOf i).toNat))
    case atStart => exact ⟨8, by omega, by omega, rfl, by simp [val], Kp.refl _⟩
    case round =>
      obtain ⟨j, h8, h12, rfl, rfl, hK⟩ := hrel
      by_cases hlt : j < 12
      · obtain ⟨b, off, e1, _, hcx⟩ := X4.out.at j (by omega)
        cases e1
        obtain ⟨b, off, e1, _, hcb⟩ := HD.out.at j (by omega)
        cases e1
        have hc1 := hK.cell (hcx j (by omega))
        have hc2 := (K4.out.trans hK).cell (hcb j (by omega))
        have hx := b8_xor ((atL la na).getD j 0) (la.getD j 0)
        rw [HT.out j h8 hlt] at hx
        have hv := HV.out j h8 hlt
        have hs := HVS.out j hlt
        generalize (atL la na).getD j 0 = A at *
        generalize la.getD j 0 = B at *
        generalize (be 4 na).getD (j - 8) 0 = Z at *
        have hzl := u8_lt Z
        have KK := Lib.hid hK
        have J := Lib.hid (And.intro h8 (And.intro h12 hv))
        generalize val ((be 4 na).take (j - 8)) = V at *
        have m1 : IntKind.i64.wrap (256 * (V : Int)) = 256 * (V : Int) := IntWalk.i64_in _ (by omega)
        have m2 : IntKind.i64.wrap (Z.toNat : Int) = (Z.toNat : Int) := IntWalk.i64_in _ (by omega)
        have m3 : IntKind.i64.wrap (256 * (V : Int) + (Z.toNat : Int)) = 256 * (V : Int) + (Z.toNat : Int) := IntWalk.i64_in _ (by omega)
        have m4 : IntKind.i64.wrap ((j : Int) + 1) = (j : Int) + 1 := IntWalk.i64_in _ (by omega)
        clear hcx hcb hK hv hs hzl h8 h12
        go_wp2_with fail
        go_region
        go_wp2_with fail
        go_roundw
        case rel => exact ⟨j + 1, by have := J.out.1; omega, by omega, by go_num, by rw [J.out.2.2] <;> first | rfl | (congr 1 <;> omega), KK.out.drew⟩
        case measure => simp [intOf]; omega
      · obtain rfl : j = 12 := by omega
        rw [HVE.out]
        have K5 := Lib.hid (K4.out.trans hK)
        have X5 := Lib.hid (X4.out.kp hK)
        have Y5 := Lib.hid (Y4.out.kp hK)
        clear K4 X4 Y4 hK
        go_wp2_with fail
        refine (HAT.out _ _ _ na X5.out HL.out HN.out.2.1).mono ?_
        rw [HB.out]
        rintro _ w6 ⟨⟨z, rfl, q6⟩, k6⟩
        obtain ⟨az, nz, cz, rfl⟩ := q6.sl
        have Z6 := Lib.hid q6
        have K6 := Lib.hid (K5.out.trans k6)
        have X6 := Lib.hid (X5.out.kp k6)
        have Y6 := Lib.hid (Y5.out.kp k6)
        clear K5 X5 Y5 k6 q6
        obtain ⟨bb, hbb⟩ : ∃ bb, decide ((na : Int) = (nb : Int)) = bb := ⟨_, rfl⟩
        have HI2 := Lib.hid (HI.out.trans hbb)
        have hb2 : ((na : Int) == (nb : Int)) = bb := by rw [← hbb]; rfl
        go_wp2_with fail
        refine (same_dec6 _ _ _ _ bb w6 HI2.out X6.out Y6.out).mono ?_
        rintro _ _ ⟨rfl, rfl⟩
        go_wp2_with fail
        refine (same_dec6 _ _ _ _ true w6 (decide_eq_true rfl) Z6.out (HD.out.kp K6.out)).mono ?_
        rintro _ _ ⟨rfl, rfl⟩
        go_wp2_with fail
        go_ret
        exact ⟨rfl, K6.out⟩
  · have q1 : ((la.length : Int) == 12) = false := beq_eq_false_iff_ne.2 (by omega)
    have q2 : ¬ (la.length : Int) = 12 := by omega
    go_enter Try.func6, Try.ntmps6
    go_wp2_with fail
    refine (shownSeal_any _).mono ?_
    rintro e w1 ⟨rfl, k1⟩
    go_wp2_with fail
    go_ret
    exact ⟨rfl, k1⟩
end Go.Proofs.Ytakaebedibgimaa

/- MacKeys (written by gen/mac1.py). -/
import Derived.Test.YtpbhikpcbfldgaaLawMacB
set_option linter.unusedVariables false
set_option linter.unusedSimpArgs false
namespace Go.Proofs.Ytpbhikpcbfldgaa
open Go.RowKit

theorem keyB_block (K : List UInt8) (h : K.length = 64) : keyB K = K := by
  unfold keyB blkB
  rw [if_neg (by omega), h]
  simp
theorem macB_block (k b : List UInt8) : macB (keyB k) b = macB k b := by unfold macB; rw [keyB_block _ (keyB_length k)]
theorem keyB_nought (k : List UInt8) (h : k.length ≤ 63) : keyB (k ++ [0]) = keyB k := by
  unfold keyB blkB
  rw [if_neg (by simp; omega), if_neg (by omega), List.append_assoc]
  congr 1
  rw [List.length_append, List.length_singleton, show 64 - k.length = (64 - (k.length + 1)) + 1 by omega, List.replicate_succ]
  rfl
theorem getD_rest (O : List UInt8) (n k : Nat) (h : O.length ≤ k) : (O ++ List.replicate n (0 : UInt8)).getD k 0 = 0 := by
  rw [List.getD_eq_getElem?_getD, List.getElem?_append_right h, List.getElem?_replicate]
  split <;> rfl

set_option maxRecDepth 100000 in
set_option maxHeartbeats 4000000 in
theorem macKeys_walk (va vb : Value) (la lb : List UInt8) (w : World) (ha : Rd w va la) (hb : Rd w vb lb) :
    Calls Try.prog 4 #[va, vb] w (Yes w) := by
  have U := u8
  obtain ⟨a1, c1, rfl, p1, q1⟩ := ha.shape
  obtain ⟨a2, c2, rfl, p2, q2⟩ := hb.shape
  unfold maxLen at q1 q2
  by_cases h1 : la.length ≤ 300
  · have h1' : ¬ (300 < (la.length : Int)) := by omega
    by_cases h2 : lb.length ≤ 300
    · have h2' : ¬ (300 < (lb.length : Int)) := by omega
      have HK0 := Lib.hid (fun W (hW : Rd W (.slice a1 la.length c1) la) => mac_key64 _ la W hW (by omega))
      have hkl := keyB_length la
      have hmk := macB_block la lb
      have hm0 : la.length ≤ 63 → macB (la ++ [0]) lb = macB la lb := fun h => by unfold macB; rw [keyB_nought la h]
      have hko : keyB la = (if 64 < la.length then digest la else la) ++ List.replicate (64 - (if 64 < la.length then digest la else la).length) 0 := rfl
      obtain ⟨K, hK⟩ : ∃ K, keyB la = K := ⟨_, rfl⟩
      rw [hK] at HK0 hkl hmk hko
      have HKL := Lib.hid hkl
      have HMK := Lib.hid hmk
      have HKK := Lib.hid (keyB_block K hkl)
      clear hK hmk hkl
      by_cases h64 : 64 < la.length
      · have h64' : 64 < (la.length : Int) := by omega
        have h63' : 63 < (la.length : Int) := by omega
        rw [if_pos h64] at hko
        obtain ⟨O, hO⟩ : ∃ O, digest la = O := ⟨_, rfl⟩
        rw [hO] at hko
        have hol : O.length = 32 := by rw [← hO]; exact digest_length la
        have HKZ := Lib.hid (fun k (h0 : O.length ≤ k) (h1 : k < 64) => (congrArg (fun l => l.getD k 0) hko).trans (getD_rest O _ k h0))
        have HKO := Lib.hid hko
        have HOD := Lib.hid hO
        have HODL := Lib.hid (congrArg List.length hO)
        have HOL := Lib.hid (show O.length ≤ 64 by omega)
        have ho32 : (O.length : Int) = 32 := by omega
        have ho1 : O.length ≤ 64 := by omega
        clear hko hO hol hm0 ho32
        go_enter Try.func4, Try.ntmps4
        go_wp2_with fail
        refine (shownMac_any _).mono ?_
        rintro e w1 ⟨rfl, k1⟩
        go_wp2_with fail
        refine (HK0.out _ (ha.kp k1)).mono ?_
        rintro e w2 ⟨⟨gk, rfl, bk, rk⟩, k2⟩
        go_wp2_with fail
        refine (refSum_any _ la _ (ha.kp (k1.trans k2)) (by omega)).mono ?_
        rintro e w3 ⟨⟨v3, rfl, ro⟩, k3⟩
        obtain ⟨a3, c3, rfl, p3, q3⟩ := ro.shape
        unfold maxLen at q3
        rw [HOD.out] at ro
        rw [HODL.out] at p3 ⊢
        have k13 := (k1.trans k2).trans k3
        have hcut : Rd w3 (.slice (some ⟨gk, 0, none⟩) O.length 64) O := by
          have := (rk.kp k3).cut 0 O.length (by omega) (by have := HOL.out; omega) (some ⟨gk, 0, none⟩) O.length 64 (by simp [Addr.add]) (by omega) (by omega)
          rw [List.drop_zero, Nat.sub_zero, HKO.out, List.take_left] at this
          exact this
        have HCUT := Lib.hid hcut
        clear hcut
        go_wp2_with fail
        refine (same_at _ _ _ _ true _ HCUT.out ro (decide_eq_true rfl)).mono ?_
        rintro e w4 ⟨rfl, rfl⟩
        go_wp2_with fail
        refine (mac_key64 _ K _ (rk.kp k3) (by rw [HKL.out]; omega)).mono ?_
        rintro e w4 ⟨⟨g4, rfl, _, r4⟩, k4⟩
        rw [HKK.out] at r4
        go_wp2_with fail
        refine (same_at _ _ _ _ true _ r4 ((rk.kp k3).kp k4) (decide_eq_true rfl)).mono ?_
        rintro e w5 ⟨rfl, rfl⟩
        go_wp2_with fail
        have b4 := (bk.kp k3).kp k4
        have k14 := k13.trans k4
        go_loopw [8] (fun i wr => (∃ k : Nat, O.length ≤ k ∧ k ≤ 64 ∧ i = .int .i64 k) ∧ w4 = wr) (fun i _ => 64 - (intOf i).toNat)
        case atStart => exact ⟨⟨_, Nat.le_refl _, HOL.out, rfl⟩, rfl⟩
        case round =>
          obtain ⟨⟨k, hk0, hk, rfl⟩, rfl⟩ := hrel
          by_cases hlt : k < 64
          · have ck := b4.cell k (by rw [HKL.out]; exact hlt)
            rw [HKZ.out k hk0 hlt] at ck
            have ck' : w4.cell? ⟨gk, k, none⟩ = some (.int .u8 0) := ck
            have q : (k : Int) < 64 := by omega
            clear ck
            go_wp2_with fail
            go_roundw
            case rel => exact ⟨⟨k + 1, by omega, by omega, by go_num⟩, trivial⟩
            case measure => simp [intOf]; omega
          · obtain rfl : k = 64 := by omega
            go_wp2_with fail
            refine (mac_sum _ _ la lb _ (ha.kp k14) (hb.kp k14) (by omega) (by omega)).mono ?_
            rintro e w5 ⟨⟨a5, c5, rfl, o5⟩, k5⟩
            have k15 := k14.trans k5
            go_wp2_with (first
              | (at_builtin; refine wpList_append_ow U rfl (.tmp 62) (.tmp 63) rfl w5.heap.size (.slice (some ⟨w5.heap.size, 0, none⟩) 0 0) [] rfl (Ow.lit w5 5 w5.heap.size 0 #[] [] (Nat.le_refl _) rfl (by decide) rfl) _ la rfl ((ha.kp k15).kp ((Kp.refl _).alloc _)) (by simp; omega) (by simp) ?_; intro v6 w6 o6 g6 _; have k6 : Kp w5 w6 := Kp.grown ((Kp.refl w5).alloc _) g6 (by intro k e; cases e; exact Nat.le_refl _); rw [List.nil_append] at o6)
              | (at_builtin; refine wpList_append_ow U rfl (.tmp 64) (.tmp 65) rfl w5.heap.size v6 la rfl (o6.kp ((Kp.refl _).alloc _)) _ [0] rfl (Ow.lit w6 5 0 1 _ _ (Nat.zero_le _) rfl (by decide) rfl).rd (by simp; omega) (by have := k6.size; simp; omega) ?_; intro v7 w7 o7 g7 _; have k7 : Kp w5 w7 := Kp.grown (k6.alloc _) g7 o6.own_ge))
            have k17 := k15.trans k7
            refine (mac_sum _ _ K lb _ ((((rk.kp k3).kp k4).kp k5).kp k7) (hb.kp k17) (by rw [HKL.out]; omega) (by omega)).mono ?_
            rintro e w8 ⟨⟨a8, c8, rfl, o8⟩, k8⟩
            have r8 := o8.rd
            rw [HMK.out] at r8
            go_wp2_with fail
            refine (same_at _ _ _ _ true _ r8 ((o5.rd.kp k7).kp k8) (decide_eq_true rfl)).mono ?_
            rintro e w9 ⟨rfl, rfl⟩
            go_wp2_with fail
            go_ret
            exact ⟨rfl, k17.trans k8⟩
      · have h64' : ¬ 64 < (la.length : Int) := by omega
        rw [if_neg h64] at hko
        obtain ⟨O, hO⟩ : ∃ O, la = O := ⟨_, rfl⟩
        subst hO
        have HKZ := Lib.hid (fun k (h0 : la.length ≤ k) (h1 : k < 64) => (congrArg (fun l => l.getD k 0) hko).trans (getD_rest la _ k h0))
        have HKO := Lib.hid hko
        have HOL := Lib.hid (show la.length ≤ 64 by omega)
        by_cases h63 : la.length ≤ 63
        · have h63' : ¬ 63 < (la.length : Int) := by omega
          have HM0 := Lib.hid (hm0 h63)
          clear hko hm0
          go_enter Try.func4, Try.ntmps4
          go_wp2_with fail
          refine (shownMac_any _).mono ?_
          rintro e w1 ⟨rfl, k1⟩
          go_wp2_with fail
          refine (HK0.out _ (ha.kp k1)).mono ?_
          rintro e w2 ⟨⟨gk, rfl, bk, rk⟩, k2⟩
          have ro := ha.kp (k1.trans k2)
          have k3 := Kp.refl w2
          have k13 := (k1.trans k2).trans k3
          have hcut : Rd w2 (.slice (some ⟨gk, 0, none⟩) la.length 64) la := by
            have := (rk.kp k3).cut 0 la.length (by omega) (by have := HOL.out; omega) (some ⟨gk, 0, none⟩) la.length 64 (by simp [Addr.add]) (by omega) (by omega)
            rw [List.drop_zero, Nat.sub_zero, HKO.out, List.take_left] at this
            exact this
          have HCUT := Lib.hid hcut
          clear hcut
          go_wp2_with fail
          refine (same_at _ _ _ _ true _ HCUT.out ro (decide_eq_true rfl)).mono ?_
          rintro e w4 ⟨rfl, rfl⟩
          go_wp2_with fail
          refine (mac_key64 _ K _ (rk.kp k3) (by rw [HKL.out]; omega)).mono ?_
          rintro e w4 ⟨⟨g4, rfl, _, r4⟩, k4⟩
          rw [HKK.out] at r4
          go_wp2_with fail
          refine (same_at _ _ _ _ true _ r4 ((rk.kp k3).kp k4) (decide_eq_true rfl)).mono ?_
          rintro e w5 ⟨rfl, rfl⟩
          go_wp2_with fail
          have b4 := (bk.kp k3).kp k4
          have k14 := k13.trans k4
          go_loopw [8] (fun i wr => (∃ k : Nat, la.length ≤ k ∧ k ≤ 64 ∧ i = .int .i64 k) ∧ w4 = wr) (fun i _ => 64 - (intOf i).toNat)
          case atStart => exact ⟨⟨_, Nat.le_refl _, HOL.out, rfl⟩, rfl⟩
          case round =>
            obtain ⟨⟨k, hk0, hk, rfl⟩, rfl⟩ := hrel
            by_cases hlt : k < 64
            · have ck := b4.cell k (by rw [HKL.out]; exact hlt)
              rw [HKZ.out k hk0 hlt] at ck
              have ck' : w4.cell? ⟨gk, k, none⟩ = some (.int .u8 0) := ck
              have q : (k : Int) < 64 := by omega
              clear ck
              go_wp2_with fail
              go_roundw
              case rel => exact ⟨⟨k + 1, by omega, by omega, by go_num⟩, trivial⟩
              case measure => simp [intOf]; omega
            · obtain rfl : k = 64 := by omega
              go_wp2_with fail
              refine (mac_sum _ _ la lb _ (ha.kp k14) (hb.kp k14) (by omega) (by omega)).mono ?_
              rintro e w5 ⟨⟨a5, c5, rfl, o5⟩, k5⟩
              have k15 := k14.trans k5
              go_wp2_with (first
                | (at_builtin; refine wpList_append_ow U rfl (.tmp 62) (.tmp 63) rfl w5.heap.size (.slice (some ⟨w5.heap.size, 0, none⟩) 0 0) [] rfl (Ow.lit w5 5 w5.heap.size 0 #[] [] (Nat.le_refl _) rfl (by decide) rfl) _ la rfl ((ha.kp k15).kp ((Kp.refl _).alloc _)) (by simp; omega) (by simp) ?_; intro v6 w6 o6 g6 _; have k6 : Kp w5 w6 := Kp.grown ((Kp.refl w5).alloc _) g6 (by intro k e; cases e; exact Nat.le_refl _); rw [List.nil_append] at o6)
                | (at_builtin; refine wpList_append_ow U rfl (.tmp 64) (.tmp 65) rfl w5.heap.size v6 la rfl (o6.kp ((Kp.refl _).alloc _)) _ [0] rfl (Ow.lit w6 5 0 1 _ _ (Nat.zero_le _) rfl (by decide) rfl).rd (by simp; omega) (by have := k6.size; simp; omega) ?_; intro v7 w7 o7 g7 _; have k7 : Kp w5 w7 := Kp.grown (k6.alloc _) g7 o6.own_ge))
              have k17 := k15.trans k7
              refine (mac_sum _ _ K lb _ ((((rk.kp k3).kp k4).kp k5).kp k7) (hb.kp k17) (by rw [HKL.out]; omega) (by omega)).mono ?_
              rintro e w8 ⟨⟨a8, c8, rfl, o8⟩, k8⟩
              have r8 := o8.rd
              rw [HMK.out] at r8
              go_wp2_with fail
              refine (same_at _ _ _ _ true _ r8 ((o5.rd.kp k7).kp k8) (decide_eq_true rfl)).mono ?_
              rintro e w9 ⟨rfl, rfl⟩
              go_wp2_with fail
              refine (mac_sum _ _ (la ++ [0]) lb _ (o7.rd.kp k8) (hb.kp (k17.trans k8)) (by simp; omega) (by omega)).mono ?_
              rintro e w10 ⟨⟨a10, c10, rfl, o10⟩, k10⟩
              have r10 := o10.rd
              rw [HM0.out] at r10
              go_wp2_with fail
              refine (same_at _ _ _ _ true _ r10 (((o5.rd.kp k7).kp k8).kp k10) (decide_eq_true rfl)).mono ?_
              rintro e w11 ⟨rfl, rfl⟩
              go_wp2_with fail
              go_ret
              exact ⟨rfl, (k17.trans k8).trans k10⟩
        · have h63' : 63 < (la.length : Int) := by omega
          clear hko hm0
          go_enter Try.func4, Try.ntmps4
          go_wp2_with fail
          refine (shownMac_any _).mono ?_
          rintro e w1 ⟨rfl, k1⟩
          go_wp2_with fail
          refine (HK0.out _ (ha.kp k1)).mono ?_
          rintro e w2 ⟨⟨gk, rfl, bk, rk⟩, k2⟩
          have ro := ha.kp (k1.trans k2)
          have k3 := Kp.refl w2
          have k13 := (k1.trans k2).trans k3
          have hcut : Rd w2 (.slice (some ⟨gk, 0, none⟩) la.length 64) la := by
            have := (rk.kp k3).cut 0 la.length (by omega) (by have := HOL.out; omega) (some ⟨gk, 0, none⟩) la.length 64 (by simp [Addr.add]) (by omega) (by omega)
            rw [List.drop_zero, Nat.sub_zero, HKO.out, List.take_left] at this
            exact this
          have HCUT := Lib.hid hcut
          clear hcut
          go_wp2_with fail
          refine (same_at _ _ _ _ true _ HCUT.out ro (decide_eq_true rfl)).mono ?_
          rintro e w4 ⟨rfl, rfl⟩
          go_wp2_with fail
          refine (mac_key64 _ K _ (rk.kp k3) (by rw [HKL.out]; omega)).mono ?_
          rintro e w4 ⟨⟨g4, rfl, _, r4⟩, k4⟩
          rw [HKK.out] at r4
          go_wp2_with fail
          refine (same_at _ _ _ _ true _ r4 ((rk.kp k3).kp k4) (decide_eq_true rfl)).mono ?_
          rintro e w5 ⟨rfl, rfl⟩
          go_wp2_with fail
          have b4 := (bk.kp k3).kp k4
          have k14 := k13.trans k4
          go_loopw [8] (fun i wr => (∃ k : Nat, la.length ≤ k ∧ k ≤ 64 ∧ i = .int .i64 k) ∧ w4 = wr) (fun i _ => 64 - (intOf i).toNat)
          case atStart => exact ⟨⟨_, Nat.le_refl _, HOL.out, rfl⟩, rfl⟩
          case round =>
            obtain ⟨⟨k, hk0, hk, rfl⟩, rfl⟩ := hrel
            by_cases hlt : k < 64
            · have ck := b4.cell k (by rw [HKL.out]; exact hlt)
              rw [HKZ.out k hk0 hlt] at ck
              have ck' : w4.cell? ⟨gk, k, none⟩ = some (.int .u8 0) := ck
              have q : (k : Int) < 64 := by omega
              clear ck
              go_wp2_with fail
              go_roundw
              case rel => exact ⟨⟨k + 1, by omega, by omega, by go_num⟩, trivial⟩
              case measure => simp [intOf]; omega
            · obtain rfl : k = 64 := by omega
              go_wp2_with fail
              refine (mac_sum _ _ la lb _ (ha.kp k14) (hb.kp k14) (by omega) (by omega)).mono ?_
              rintro e w5 ⟨⟨a5, c5, rfl, o5⟩, k5⟩
              have k15 := k14.trans k5
              go_wp2_with (first
                | (at_builtin; refine wpList_append_ow U rfl (.tmp 62) (.tmp 63) rfl w5.heap.size (.slice (some ⟨w5.heap.size, 0, none⟩) 0 0) [] rfl (Ow.lit w5 5 w5.heap.size 0 #[] [] (Nat.le_refl _) rfl (by decide) rfl) _ la rfl ((ha.kp k15).kp ((Kp.refl _).alloc _)) (by simp; omega) (by simp) ?_; intro v6 w6 o6 g6 _; have k6 : Kp w5 w6 := Kp.grown ((Kp.refl w5).alloc _) g6 (by intro k e; cases e; exact Nat.le_refl _); rw [List.nil_append] at o6)
                | (at_builtin; refine wpList_append_ow U rfl (.tmp 64) (.tmp 65) rfl w5.heap.size v6 la rfl (o6.kp ((Kp.refl _).alloc _)) _ [0] rfl (Ow.lit w6 5 0 1 _ _ (Nat.zero_le _) rfl (by decide) rfl).rd (by simp; omega) (by have := k6.size; simp; omega) ?_; intro v7 w7 o7 g7 _; have k7 : Kp w5 w7 := Kp.grown (k6.alloc _) g7 o6.own_ge))
              have k17 := k15.trans k7
              refine (mac_sum _ _ K lb _ ((((rk.kp k3).kp k4).kp k5).kp k7) (hb.kp k17) (by rw [HKL.out]; omega) (by omega)).mono ?_
              rintro e w8 ⟨⟨a8, c8, rfl, o8⟩, k8⟩
              have r8 := o8.rd
              rw [HMK.out] at r8
              go_wp2_with fail
              refine (same_at _ _ _ _ true _ r8 ((o5.rd.kp k7).kp k8) (decide_eq_true rfl)).mono ?_
              rintro e w9 ⟨rfl, rfl⟩
              go_wp2_with fail
              go_ret
              exact ⟨rfl, k17.trans k8⟩
    · have h2' : (300 < (lb.length : Int)) := by omega
      clear h2
      go_enter Try.func4, Try.ntmps4
      go_wp2_with fail
      refine (shownMac_any _).mono ?_
      rintro e w1 ⟨rfl, k1⟩
      go_wp2_with fail
      go_ret
      exact ⟨rfl, k1⟩
  · have h1' : (300 < (la.length : Int)) := by omega
    clear h1
    go_enter Try.func4, Try.ntmps4
    go_wp2_with fail
    refine (shownMac_any _).mono ?_
    rintro e w1 ⟨rfl, k1⟩
    go_wp2_with fail
    go_ret
    exact ⟨rfl, k1⟩
end Go.Proofs.Ytpbhikpcbfldgaa

import Derived.Test.YtigpgcjbpoaclaaDoorB42
set_option linter.unusedVariables false
set_option linter.unusedSimpArgs false
namespace Go.Proofs.YtigpgcjbpoaclaaDoor
open Go.RowKit
theorem half_pow (e : Nat) : 2 ^ (e + 1) / 2 = 2 ^ e := by rw [Nat.pow_succ]; omega
theorem sec_step (send : List UInt8) (d q e : Nat) : secD send (d + 1) (q / 2 ^ e) = partB (secD send d (q / 2 ^ (e + 1))) (if q / 2 ^ e % 2 = 1 then rightS13 else leftS) [] 32 := by
  rw [Nat.pow_succ, ← Nat.div_div_eq_div_mul]
  rfl
set_option maxRecDepth 100000 in
set_option maxHeartbeats 3000000 in
theorem ratchTree_walk (v : Value) (send : List UInt8) (k i : Nat) (w : World) (h : Rd w v send) (hk : k ≤ 255) (hi : i ≤ 65535) (hT : Tab w) :
    Calls Tryd.prog 3 #[v, .int .u8 k, .int .u16 i] w fun e w' => e = .returned (.bool true) ∧ Kp w w' := by
  have HV := Lib.hid h
  obtain ⟨a1, c1, rfl, _, _⟩ := h.shape
  have HTB := Lib.hid hT
  clear hT
  have HSH := Lib.hid (fun W (k : Kp w W) => shownRatch_any W (HTB.out.kp k))
  obtain ⟨J, hJ⟩ : ∃ J, k % 6 = J := ⟨_, rfl⟩
  have hJ5 : J ≤ 5 := by omega
  have hJi : (k : Int) % 6 = (J : Int) := by omega
  have hJt : (k : Int).tmod 6 = (J : Int) := by rw [Int.tmod_eq_emod_of_nonneg (by omega)]; exact hJi
  by_cases hs : send.length = 32
  · obtain ⟨M, hM⟩ : ∃ M, 2 ^ J = M := ⟨_, rfl⟩
    have hM32 : M ≤ 32 := by rw [← hM]; exact Nat.pow_le_pow_right (n := 2) (by omega) hJ5
    have hM1 : 1 ≤ M := by rw [← hM]; exact p2_pos J
    obtain ⟨Q, hQ⟩ : ∃ Q, i % M = Q := ⟨_, rfl⟩
    have hQM : Q < M := by rw [← hQ]; exact Nat.mod_lt _ hM1
    have hQi : (i : Int) % (M : Int) = (Q : Int) := by rw [← hQ]; exact (Int.natCast_emod i M).symm
    have hQt : (i : Int).tmod (M : Int) = (Q : Int) := by rw [Int.tmod_eq_emod_of_nonneg (by omega)]; exact hQi
    have hleaf := leaf_yes (send := send) (K := J) (q := Q) hs (by omega) (by rw [hM]; exact hQM)
    rw [hM] at hleaf
    have HLF := Lib.hid (fun W (kp : Kp w W) => ratchLeaf_any _ send (M : Int) (Q : Int) W (HV.out.kp kp) (by omega) (by omega) (HTB.out.kp kp))
    rw [hleaf.1, hleaf.2] at HLF
    have HLB := Lib.hid (fun W u (S : List UInt8) (s : ByteArray) (hS : S.length = 32) (hs : s.size ≤ 300) (hr : Rd W u S) => refLabel_new u s (.slice none 0 0) S [] 32 W hr (rd_nil W) hs (by simp) (by omega))
    have HPB : Hid (∀ S s, labR S (s : ByteArray).data.toList [] 32 = partB S s [] 32) := fun S s => (partB_lab S s [] 32 (by decide)).2
    have e32 : expE 32 = 0 := rfl
    rw [e32] at HLB
    have HS0 : Hid (partB send treeS [] 32 = secD send 0 (Q / 2 ^ J)) := rfl
    have HSL := Lib.hid (secD_length send)
    have HST := Lib.hid (fun d e => sec_step send d Q e)
    have HSA := Lib.hid (fun W u v (S : List UInt8) (h : Rd W u S) (h' : Rd W v S) => same_at u v S S true W h h' (decide_eq_true rfl))
    have HP : Hid (∀ j, j ≤ J → 2 ^ j ≤ 32) := fun j hj => Nat.le_trans (Nat.pow_le_pow_right (n := 2) (by omega) (show j ≤ 5 by omega)) (by decide)
    rw [hs] at HLF ⊢
    clear h hleaf hJ hQ
    have HJ := Lib.hid hJ5
    go_enter Tryd.func3, Tryd.ntmps3
    go_wp2_with fail
    refine (HSH.out _ (by first | exact K1.out | exact K2.out | exact K3.out | exact K4.out | exact K5.out | exact K6.out | exact K7.out | exact K8.out | exact K9.out | exact KK.out | exact Kp.refl _)).mono ?_
    rintro _ w2 ⟨rfl, k2⟩
    have K2 := Lib.hid k2
    clear k2
    go_wp2_with fail
    go_loop [8, 9] (fun m j => ∃ d : Nat, d ≤ J ∧ m = .int .i64 ((2 ^ d : Nat) : Int) ∧ j = .int .i64 (d : Int)) (fun _ j => (J - (intOf j).toNat))
    case atStart => exact ⟨0, Nat.zero_le _, rfl, rfl⟩
    case round =>
      obtain ⟨d, hd, rfl, rfl⟩ := hrel
      have hp := HP.out d hd
      by_cases hlt : d < J
      · have i1 : (d : Int) < (J : Int) := by omega
        have i2 : IntKind.i64.wrap (2 * ((2 ^ d : Nat) : Int)) = ((2 ^ (d + 1) : Nat) : Int) := by
          rw [p2_succ]
          generalize 2 ^ d = P at *
          rw [IntWalk.i64_in _ (by omega)]
          omega
        have i3 : IntKind.i64.wrap ((d : Int) + 1) = (d : Int) + 1 := IntWalk.i64_in _ (by omega)
        obtain ⟨P, hP⟩ : ∃ P, 2 ^ d = P := ⟨_, rfl⟩
        obtain ⟨P2, hP2⟩ : ∃ P, 2 ^ (d + 1) = P := ⟨_, rfl⟩
        have HP2 := Lib.hid hP2
        rw [hP] at i2 ⊢
        rw [hP2] at i2
        clear hP hP2 hp
        go_wp2_with fail
        go_round
        case rel => exact ⟨d + 1, by omega, by rw [HP2.out], by go_num⟩
        case measure => simp [intOf]; omega
      · obtain rfl : d = J := by omega
        rw [hM]
        clear hp
        go_wp2_with fail
        have hlab := HLB.out w2 (.slice a1 32 c1) send treeS hs (by decide) (by have := HV.out.kp K2.out; rwa [hs] at this)
        rw [HPB.out, HS0.out] at hlab
        refine hlab.mono ?_
        rintro _ w3 ⟨⟨u3, rfl, r3, _⟩, k3⟩
        obtain ⟨p3, q3, s3, rfl⟩ := r3.sl
        have K3 := Lib.hid (K2.out.trans k3)
        have R3 := Lib.hid r3
        clear r3 k3 hlab
        have HM := Lib.hid hM
        obtain ⟨Mh, hMh⟩ : ∃ m, M / 2 = m := ⟨_, rfl⟩
        have m1 : (M : Int) / 2 = (Mh : Int) := by omega
        have m2 : (M : Int).tdiv 2 = (Mh : Int) := by rw [Int.tdiv_eq_ediv_of_nonneg (by omega)]; exact m1
        have m3 : IntKind.i64.wrap (Mh : Int) = (Mh : Int) := IntWalk.i64_in _ (by omega)
        have HMh := Lib.hid hMh
        clear hMh hM
        go_wp2_with fail
        go_loopw [11, 13] (fun s m wr => ∃ d' e : Nat, d' + e = d ∧ m = .int .i64 ((2 ^ e / 2 : Nat) : Int) ∧ Rd wr s (secD send d' (Q / 2 ^ e)) ∧ Kp w wr) (fun _ m _ => (intOf m).toNat)
        case atStart => exact ⟨0, d, by omega, by rw [HM.out, HMh.out], R3.out, K3.out⟩
        case round =>
          obtain ⟨d1, e, hde, rfl, hr, hkp⟩ := hrel
          have KR := Lib.hid hkp
          have RR := Lib.hid hr
          obtain ⟨p4, q4, s4, rfl⟩ := hr.sl
          cases e with
          | zero =>
            obtain rfl : d1 = d := by omega
            clear hr hkp m1 m2 m3
            rw [show (2 : Nat) ^ 0 / 2 = 0 from rfl]
            rw [Nat.pow_zero, Nat.div_one] at RR
            go_wp2_with fail
            refine (HLF.out _ KR.out).mono ?_
            rintro _ w5 ⟨⟨u5, rfl, r5⟩, k5⟩
            obtain ⟨p5, q5, s5, rfl⟩ := r5.sl
            go_wp2_with fail
            refine (HSA.out _ _ _ _ r5 (RR.out.kp k5)).mono ?_
            rintro _ _ ⟨rfl, rfl⟩
            have K5 := Lib.hid (KR.out.trans k5)
            go_wp2_with fail
            go_ret
            exact ⟨rfl, K5.out⟩
          | succ e =>
            have hPe := HP.out e (by omega)
            have hP1 := p2_pos e
            rw [half_pow]
            have HSE := Lib.hid (HST.out d1 e)
            have HSLE := Lib.hid (HSL.out d1 (Q / 2 ^ (e + 1)))
            have HSX := Lib.hid (fun s hs => HLB.out wr (.slice p4 q4 s4) (secD send d1 (Q / 2 ^ (e + 1))) s HSLE.out hs RR.out)
            obtain ⟨P, hP⟩ : ∃ P, 2 ^ e = P := ⟨_, rfl⟩
            have HPP := Lib.hid hP
            rw [hP] at hPe hP1 HSE ⊢
            have n1 : (0 : Int) < (P : Int) := by omega
            have n2 : (Q : Int) / (P : Int) = ((Q / P : Nat) : Int) := (Int.natCast_ediv Q P).symm
            have n3 : (Q : Int).tdiv (P : Int) = ((Q / P : Nat) : Int) := by rw [Int.tdiv_eq_ediv_of_nonneg (by omega)]; exact n2
            have n4 : Q / P ≤ 32 := by have := Nat.div_le_self Q P; omega
            obtain ⟨D, hD⟩ : ∃ D, Q / P = D := ⟨_, rfl⟩
            rw [hD] at n2 n3 n4 HSE
            have n5 : IntKind.i64.wrap (D : Int) = (D : Int) := IntWalk.i64_in _ (by omega)
            obtain ⟨Ph, hPh⟩ : ∃ m, P / 2 = m := ⟨_, rfl⟩
            have o1 : (P : Int) / 2 = (Ph : Int) := by omega
            have o2 : (P : Int).tdiv 2 = (Ph : Int) := by rw [Int.tdiv_eq_ediv_of_nonneg (by omega)]; exact o1
            have o3 : IntKind.i64.wrap (Ph : Int) = (Ph : Int) := IntWalk.i64_in _ (by omega)
            have HPh := Lib.hid hPh
            have HDQ := Lib.hid hD
            have hlt : Ph < P := by omega
            have HLT := Lib.hid hlt
            clear hr hkp m1 m2 m3 hP hPh hD hlt
            by_cases h1 : D % 2 = 1
            · have l1 : (D : Int) % 2 = 1 := by omega
              have l2 : (D : Int).tmod 2 = 1 := by rw [Int.tmod_eq_emod_of_nonneg (by omega)]; exact l1
              have hl := HSX.out rightS13 (by decide)
              rw [HPB.out] at hl
              have HSE2 : Hid (secD send (d1 + 1) D = partB (secD send d1 (Q / 2 ^ (e + 1))) rightS13 [] 32) := by have := HSE.out; rwa [if_pos h1] at this
              rw [← HSE2.out] at hl
              have HL := Lib.hid hl
              unfold rightS13 at HL
              clear hl
              go_wp2_with fail
              refine HL.out.mono ?_
              rintro _ w6 ⟨⟨u6, rfl, r6, _⟩, k6⟩
              obtain ⟨p6, q6, s6, rfl⟩ := r6.sl
              have K6 := Lib.hid (KR.out.trans k6)
              have R6 := Lib.hid r6
              clear r6 k6
              go_wp2_with fail
              go_roundw
              case rel => exact ⟨d1 + 1, e, by omega, by rw [HPP.out, HPh.out], by rw [HPP.out, HDQ.out]; exact R6.out, K6.out⟩
              case measure => have := HLT.out; simp [intOf]; omega
            · have l1 : (D : Int) % 2 = 0 := by omega
              have l2 : (D : Int).tmod 2 = 0 := by rw [Int.tmod_eq_emod_of_nonneg (by omega)]; exact l1
              have hl := HSX.out leftS (by decide)
              rw [HPB.out] at hl
              have HSE2 : Hid (secD send (d1 + 1) D = partB (secD send d1 (Q / 2 ^ (e + 1))) leftS [] 32) := by have := HSE.out; rwa [if_neg h1] at this
              rw [← HSE2.out] at hl
              have HL := Lib.hid hl
              unfold leftS at HL
              clear hl
              go_wp2_with fail
              refine HL.out.mono ?_
              rintro _ w6 ⟨⟨u6, rfl, r6, _⟩, k6⟩
              obtain ⟨p6, q6, s6, rfl⟩ := r6.sl
              have K6 := Lib.hid (KR.out.trans k6)
              have R6 := Lib.hid r6
              clear r6 k6
              go_wp2_with fail
              go_roundw
              case rel => exact ⟨d1 + 1, e, by omega, by rw [HPP.out, HPh.out], by rw [HPP.out, HDQ.out]; exact R6.out, K6.out⟩
              case measure => have := HLT.out; simp [intOf]; omega
  · have q1 : ¬ (send.length : Int) = 32 := by omega
    clear hs h
    go_enter Tryd.func3, Tryd.ntmps3
    go_wp2_with fail
    refine (HSH.out _ (by first | exact K1.out | exact K2.out | exact K3.out | exact K4.out | exact K5.out | exact K6.out | exact K7.out | exact K8.out | exact K9.out | exact KK.out | exact Kp.refl _)).mono ?_
    rintro _ w2 ⟨rfl, k2⟩
    go_wp2_with fail
    go_ret
    exact ⟨rfl, k2⟩
theorem ratchTree_int (v : Value) (send : List UInt8) (k i : Int) (w : World) (h : Rd w v send) (hk : 0 ≤ k ∧ k ≤ 255) (hi : 0 ≤ i ∧ i ≤ 65535) (hT : Tab w) :
    Calls Tryd.prog 3 #[v, .int .u8 k, .int .u16 i] w fun e w' => e = .returned (.bool true) ∧ Kp w w' := by
  obtain ⟨k, rfl⟩ := Int.eq_ofNat_of_zero_le hk.1
  obtain ⟨i, rfl⟩ := Int.eq_ofNat_of_zero_le hi.1
  exact ratchTree_walk v send k i w h (by omega) (by omega) hT
end Go.Proofs.YtigpgcjbpoaclaaDoor

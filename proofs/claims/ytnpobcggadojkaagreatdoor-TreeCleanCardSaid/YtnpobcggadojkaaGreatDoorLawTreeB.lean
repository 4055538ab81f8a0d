/- TreeStays, TreeBack (written by gen/tree5.py). -/
import Derived.Test.YtnpobcggadojkaaGreatDoorLawTreeA
set_option linter.unusedVariables false
set_option linter.unusedSimpArgs false
namespace Go.Proofs.YtnpobcggadojkaaGreatDoor
open Go.RowKit

set_option maxRecDepth 100000 in
set_option maxHeartbeats 8000000 in
theorem treeStays_walk (vt : Value) (t : List Nod) (name i : Int) (b : UInt8) (w : World) (ht : NL w vt t) (hname : -9223372036854775808 ≤ name ∧ name ≤ 9223372036854775807) (hi : -9223372036854775808 ≤ i ∧ i ≤ 9223372036854775807) (hTAB : Tab w) :
    Calls Tryz.prog 5 #[.agg #[vt, .int .i64 name, .int .i64 i, .int .u8 (b.toNat : Int)]] w (Yes w) := by
  have HTAB := Lib.hid hTAB
  clear hTAB
  have HSM : Hid (∀ W u v T, NL W u T → NL W v T → Calls Tryz.prog 13 #[u, v] W fun e w' => e = .returned (.bool true) ∧ Kp W w') := fun W u v T hu hv => same9_yes u v T W hu hv
  have HMAY := Lib.hid (fun W (hW : Kp w W) => may9_any vt t W (ht.kp hW))
  have HH := Lib.hid (fun W => half9_any b W)
  have HA1 := Lib.hid (fun W (hW : Kp w W) v (hv : Rd W v (halfB b)) K (hr : RightK t K) => treeAdd_any vt v t K name (halfB b) W (ht.kp hW) hv hr hname (HTAB.out.kp hW))
  have HR1 := Lib.hid (fun W (hW : Kp w W) K (hr : RightK t K) => treeRemove_any vt t K i W (ht.kp hW) hr hi (HTAB.out.kp hW))
  have HU1 := Lib.hid (fun W (hW : Kp w W) v (hv : Rd W v (halfB b)) K (hr : RightK t K) => treeUpdate_any vt v t K i (halfB b) W (ht.kp hW) hv hr hi (HTAB.out.kp hW))
  have HRT : Hid (∀ W u s K, NL W u s → RightK s K → Calls Tryz.prog 12 #[u] W fun e w' => e = .returned (.bool true) ∧ Kp W w') := fun W u s K hu hr => right9_yes u s K W hu hr
  have HOT : Hid (∀ W u v s K K' z, NL W u t → NL W v s → RightK t K → RightK s K' → othersP t s z → Calls Tryz.prog 29 #[u, v, .int .i64 z] W fun e w' => e = .returned (.bool true) ∧ Kp W w') := fun W u v s K K' z hu hv h1 h2 h3 => others9_yes u v t s K K' z W hu hv h1 h2 h3
  have HFI := Lib.hid (fun W u s nm (hu : NL W u s) (hl : s.length ≤ 100000) => refFind_any u s nm W hu hl)
  have HT0 := Lib.hid ht
  obtain ⟨aa, ca, rfl, _, _⟩ := ht.shape
  obtain ⟨N, hN⟩ : ∃ N, t.length = N := ⟨_, rfl⟩
  rw [hN] at HMAY HA1 HR1 HU1 HT0 ⊢
  have HNN := Lib.hid hN
  have HNA := Lib.hid hname
  have HII := Lib.hid hi
  clear ht hname hi hN
  go_enter Tryz.func5, Tryz.ntmps5
  go_wp2_with fail
  refine (shownTree_any _ (HTAB.out.kp (by first | exact Kp.refl _ | exact (Kp.refl _).alloc _))).mono ?_
  rintro _ w0 ⟨rfl, k0⟩
  have KK : Hid (Kp w w0) := ((Kp.refl w).alloc _).trans k0
  clear k0
  go_wp2_with fail
  refine (HMAY.out _ KK.out).mono ?_
  rintro _ w1 ⟨⟨bM, rfl, hM⟩, k1⟩
  have KK := Lib.hid (KK.out.trans k1)
  clear k1
  cases bM
  · clear hM
    go_wp2_with fail
    go_ret
    exact ⟨rfl, KK.out⟩
  · obtain ⟨K, hr⟩ := hM rfl
    clear hM
    obtain ⟨KA, hra⟩ := hr.addR name (halfB b)
    obtain ⟨KR, hrr⟩ := hr.remR i
    obtain ⟨KU, hru⟩ := hr.updR i (halfB b)
    have oA := Lib.hid (hr.add_others name (halfB b))
    have oR := Lib.hid (hr.rem_others i)
    have oU := Lib.hid (hr.upd_others i (halfB b))
    have fA := Lib.hid (fun (e : addE t name (halfB b) = 0) => hr.add_find e)
    have nA := Lib.hid (fun (e : addE t name (halfB b) ≠ 0) => (add_none e).1)
    have nR := Lib.hid (fun (e : remE t i ≠ 0) => rem_none e)
    have nU := Lib.hid (fun (e : updE t i (halfB b) ≠ 0) => upd_none e)
    have lA : Hid ((addV t name (halfB b)).length ≤ 100000) := by have := hra.small.1; unfold Hid; omega
    have lR : Hid ((remV t i).length ≤ 100000) := by have := hrr.small.1; unfold Hid; omega
    have HA1 := Lib.hid (fun W (hW : Kp w W) v hv => HA1.out W hW v hv K hr)
    have HR1 := Lib.hid (fun W (hW : Kp w W) => HR1.out W hW K hr)
    have HU1 := Lib.hid (fun W (hW : Kp w W) v hv => HU1.out W hW v hv K hr)
    clear HMAY
    have HTX : Hid (remE t i = 0 → ∃ j : Nat, i = (j : Int) ∧ 2 * j < N ∧ findB (remV t i) (ats t (2 * j)).name = false) := fun e => by
      obtain ⟨j, e2, _, _, hj⟩ := hr.thereN (rem_yes e).1
      have := hr.rem_find e
      refine ⟨j, e2, by rw [← HNN.out]; exact hj, ?_⟩
      rw [e2, Int.toNat_natCast] at this
      rw [e2]; exact this
    have hK := Lib.hid hr
    have hKA := Lib.hid hra
    have hKR := Lib.hid hrr
    have hKU := Lib.hid hru
    clear hr hra hrr hru
    generalize addV t name (halfB b) = AV at *
    generalize addI t name (halfB b) = AI at *
    generalize addE t name (halfB b) = AE at *
    generalize remE t i = RE at *
    generalize updV t i (halfB b) = UV at *
    generalize updE t i (halfB b) = UE at *
    by_cases hR : RE = 0
    · obtain ⟨j, rfl, hj, hfb⟩ := HTX.out hR
      have HFB := Lib.hid hfb
      subst hR
      obtain ⟨b9, off9, e9, _, hc9⟩ := HT0.out.at (2 * j) hj
      obtain ⟨p9, q9, h9, hn9⟩ := hc9 (2 * j) hj
      subst e9
      have HCC := Lib.hid hn9.name
      have i2 : IntKind.i64.wrap (2 * (j : Int)) = ((2 * j : Nat) : Int) := by have := HNN.out; have := hK.out.small.1; rw [IntWalk.i64_in _ (by omega)]; omega
      have i3 : ((2 * j : Nat) : Int) < (N : Int) := by omega
      generalize (ats t (2 * j)).name = NM at *
      generalize remV t (j : Int) = RV at *
      generalize 2 * j = J2 at *
      clear hn9 hc9 HTX hfb nR
      go_wp2_with fail
      refine (HH.out _).mono ?_
      rintro _ w2 ⟨⟨r0, rfl, s0⟩, k2⟩
      have KK := Lib.hid (KK.out.trans k2)
      have B0 := Lib.hid s0
      clear k2
      go_wp2_with fail
      refine (HA1.out _ KK.out _ B0.out).mono ?_
      rintro _ w3 ⟨⟨r1, rfl, s1⟩, k3⟩
      have B0 := Lib.hid (B0.out.kp k3)
      have KK := Lib.hid (KK.out.trans k3)
      have A1 := Lib.hid s1
      clear k3
      go_wp2_with fail
      refine (HR1.out _ KK.out).mono ?_
      rintro _ w4 ⟨⟨r2, rfl, s2⟩, k4⟩
      have B0 := Lib.hid (B0.out.kp k4)
      have A1 := Lib.hid (A1.out.kp k4)
      have KK := Lib.hid (KK.out.trans k4)
      have A2 := Lib.hid s2
      clear k4
      go_wp2_with fail
      refine (HH.out _).mono ?_
      rintro _ w5 ⟨⟨r3, rfl, s3⟩, k5⟩
      have B0 := Lib.hid (B0.out.kp k5)
      have A1 := Lib.hid (A1.out.kp k5)
      have A2 := Lib.hid (A2.out.kp k5)
      have KK := Lib.hid (KK.out.trans k5)
      have B1 := Lib.hid s3
      clear k5
      go_wp2_with fail
      refine (HU1.out _ KK.out _ B1.out).mono ?_
      rintro _ w6 ⟨⟨r4, rfl, s4⟩, k6⟩
      have B0 := Lib.hid (B0.out.kp k6)
      have A1 := Lib.hid (A1.out.kp k6)
      have A2 := Lib.hid (A2.out.kp k6)
      have B1 := Lib.hid (B1.out.kp k6)
      have KK := Lib.hid (KK.out.trans k6)
      have A3 := Lib.hid s4
      clear k6
      clear HH HA1 HR1 HU1 B0 B1
      go_wp2_with fail
      refine (HRT.out _ _ _ _ A1.out hKA.out).mono ?_
      rintro _ w7 ⟨rfl, k7⟩
      have A1 := Lib.hid (A1.out.kp k7)
      have A2 := Lib.hid (A2.out.kp k7)
      have A3 := Lib.hid (A3.out.kp k7)
      have KK := Lib.hid (KK.out.trans k7)
      clear k7
      go_wp2_with fail
      refine (HRT.out _ _ _ _ A2.out hKR.out).mono ?_
      rintro _ w8 ⟨rfl, k8⟩
      have A1 := Lib.hid (A1.out.kp k8)
      have A2 := Lib.hid (A2.out.kp k8)
      have A3 := Lib.hid (A3.out.kp k8)
      have KK := Lib.hid (KK.out.trans k8)
      clear k8
      go_wp2_with fail
      refine (HRT.out _ _ _ _ A3.out hKU.out).mono ?_
      rintro _ w9 ⟨rfl, k9⟩
      have A1 := Lib.hid (A1.out.kp k9)
      have A2 := Lib.hid (A2.out.kp k9)
      have A3 := Lib.hid (A3.out.kp k9)
      have KK := Lib.hid (KK.out.trans k9)
      clear k9
      go_wp2_with fail
      refine (HOT.out _ _ _ _ _ _ _ (HT0.out.kp KK.out) A1.out hK.out hKA.out oA.out).mono ?_
      rintro _ w10 ⟨rfl, k10⟩
      have A1 := Lib.hid (A1.out.kp k10)
      have A2 := Lib.hid (A2.out.kp k10)
      have A3 := Lib.hid (A3.out.kp k10)
      have KK := Lib.hid (KK.out.trans k10)
      clear k10
      go_wp2_with fail
      refine (HOT.out _ _ _ _ _ _ _ (HT0.out.kp KK.out) A2.out hK.out hKR.out oR.out).mono ?_
      rintro _ w11 ⟨rfl, k11⟩
      have A1 := Lib.hid (A1.out.kp k11)
      have A2 := Lib.hid (A2.out.kp k11)
      have A3 := Lib.hid (A3.out.kp k11)
      have KK := Lib.hid (KK.out.trans k11)
      clear k11
      go_wp2_with fail
      refine (HOT.out _ _ _ _ _ _ _ (HT0.out.kp KK.out) A3.out hK.out hKU.out oU.out).mono ?_
      rintro _ w12 ⟨rfl, k12⟩
      have A1 := Lib.hid (A1.out.kp k12)
      have A2 := Lib.hid (A2.out.kp k12)
      have A3 := Lib.hid (A3.out.kp k12)
      have KK := Lib.hid (KK.out.trans k12)
      clear k12
      go_wp2_with fail
      refine (HFI.out _ _ _ _ A1.out lA.out).mono ?_
      rintro _ _ ⟨rfl, rfl⟩
      clear HRT HOT oA oR oU
      by_cases hE : AE = 0
      · obtain ⟨f1, f2⟩ := fA.out hE
        rw [f1, f2]
        subst hE
        have haa : (AI == AI) = true := beq_self_eq_true _
        clear fA f1 f2
        by_cases hU : UE = 0
        · subst hU
          have c9 := KK.out.cell HCC.out
          go_wp2_with fail
          refine (HFI.out _ _ _ _ A2.out lR.out).mono ?_
          rintro _ _ ⟨rfl, rfl⟩
          rw [HFB.out]
          go_wp2_with fail
          go_ret
          exact ⟨rfl, KK.out⟩
        · have hUb : (UE == 0) = false := beq_eq_false_iff_ne.2 hU
          rw [nU.out hU] at A3
          go_wp2_with fail
          refine (HSM.out _ _ _ _ A3.out (HT0.out.kp KK.out)).mono ?_
          rintro _ w13 ⟨rfl, k13⟩
          have A1 := Lib.hid (A1.out.kp k13)
          have A2 := Lib.hid (A2.out.kp k13)
          have A3 := Lib.hid (A3.out.kp k13)
          have KK := Lib.hid (KK.out.trans k13)
          clear k13
          have c9 := KK.out.cell HCC.out
          go_wp2_with fail
          refine (HFI.out _ _ _ _ A2.out lR.out).mono ?_
          rintro _ _ ⟨rfl, rfl⟩
          rw [HFB.out]
          go_wp2_with fail
          go_ret
          exact ⟨rfl, KK.out⟩
      · have hEb : (AE == 0) = false := beq_eq_false_iff_ne.2 hE
        rw [nA.out hE] at A1
        clear fA
        by_cases hU : UE = 0
        · subst hU
          go_wp2_with fail
          refine (HSM.out _ _ _ _ A1.out (HT0.out.kp KK.out)).mono ?_
          rintro _ w14 ⟨rfl, k14⟩
          have A1 := Lib.hid (A1.out.kp k14)
          have A2 := Lib.hid (A2.out.kp k14)
          have A3 := Lib.hid (A3.out.kp k14)
          have KK := Lib.hid (KK.out.trans k14)
          clear k14
          have c9 := KK.out.cell HCC.out
          go_wp2_with fail
          refine (HFI.out _ _ _ _ A2.out lR.out).mono ?_
          rintro _ _ ⟨rfl, rfl⟩
          rw [HFB.out]
          go_wp2_with fail
          go_ret
          exact ⟨rfl, KK.out⟩
        · have hUb : (UE == 0) = false := beq_eq_false_iff_ne.2 hU
          rw [nU.out hU] at A3
          go_wp2_with fail
          refine (HSM.out _ _ _ _ A1.out (HT0.out.kp KK.out)).mono ?_
          rintro _ w15 ⟨rfl, k15⟩
          have A1 := Lib.hid (A1.out.kp k15)
          have A2 := Lib.hid (A2.out.kp k15)
          have A3 := Lib.hid (A3.out.kp k15)
          have KK := Lib.hid (KK.out.trans k15)
          clear k15
          go_wp2_with fail
          refine (HSM.out _ _ _ _ A3.out (HT0.out.kp KK.out)).mono ?_
          rintro _ w16 ⟨rfl, k16⟩
          have A1 := Lib.hid (A1.out.kp k16)
          have A2 := Lib.hid (A2.out.kp k16)
          have A3 := Lib.hid (A3.out.kp k16)
          have KK := Lib.hid (KK.out.trans k16)
          clear k16
          have c9 := KK.out.cell HCC.out
          go_wp2_with fail
          refine (HFI.out _ _ _ _ A2.out lR.out).mono ?_
          rintro _ _ ⟨rfl, rfl⟩
          rw [HFB.out]
          go_wp2_with fail
          go_ret
          exact ⟨rfl, KK.out⟩
    · have hRb : (RE == 0) = false := beq_eq_false_iff_ne.2 hR
      rw [nR.out hR] at hKR HR1 oR lR
      clear HTX nR
      go_wp2_with fail
      refine (HH.out _).mono ?_
      rintro _ w17 ⟨⟨r0, rfl, s0⟩, k17⟩
      have KK := Lib.hid (KK.out.trans k17)
      have B0 := Lib.hid s0
      clear k17
      go_wp2_with fail
      refine (HA1.out _ KK.out _ B0.out).mono ?_
      rintro _ w18 ⟨⟨r1, rfl, s1⟩, k18⟩
      have B0 := Lib.hid (B0.out.kp k18)
      have KK := Lib.hid (KK.out.trans k18)
      have A1 := Lib.hid s1
      clear k18
      go_wp2_with fail
      refine (HR1.out _ KK.out).mono ?_
      rintro _ w19 ⟨⟨r2, rfl, s2⟩, k19⟩
      have B0 := Lib.hid (B0.out.kp k19)
      have A1 := Lib.hid (A1.out.kp k19)
      have KK := Lib.hid (KK.out.trans k19)
      have A2 := Lib.hid s2
      clear k19
      go_wp2_with fail
      refine (HH.out _).mono ?_
      rintro _ w20 ⟨⟨r3, rfl, s3⟩, k20⟩
      have B0 := Lib.hid (B0.out.kp k20)
      have A1 := Lib.hid (A1.out.kp k20)
      have A2 := Lib.hid (A2.out.kp k20)
      have KK := Lib.hid (KK.out.trans k20)
      have B1 := Lib.hid s3
      clear k20
      go_wp2_with fail
      refine (HU1.out _ KK.out _ B1.out).mono ?_
      rintro _ w21 ⟨⟨r4, rfl, s4⟩, k21⟩
      have B0 := Lib.hid (B0.out.kp k21)
      have A1 := Lib.hid (A1.out.kp k21)
      have A2 := Lib.hid (A2.out.kp k21)
      have B1 := Lib.hid (B1.out.kp k21)
      have KK := Lib.hid (KK.out.trans k21)
      have A3 := Lib.hid s4
      clear k21
      clear HH HA1 HR1 HU1 B0 B1
      go_wp2_with fail
      refine (HRT.out _ _ _ _ A1.out hKA.out).mono ?_
      rintro _ w22 ⟨rfl, k22⟩
      have A1 := Lib.hid (A1.out.kp k22)
      have A2 := Lib.hid (A2.out.kp k22)
      have A3 := Lib.hid (A3.out.kp k22)
      have KK := Lib.hid (KK.out.trans k22)
      clear k22
      go_wp2_with fail
      refine (HRT.out _ _ _ _ A2.out hKR.out).mono ?_
      rintro _ w23 ⟨rfl, k23⟩
      have A1 := Lib.hid (A1.out.kp k23)
      have A2 := Lib.hid (A2.out.kp k23)
      have A3 := Lib.hid (A3.out.kp k23)
      have KK := Lib.hid (KK.out.trans k23)
      clear k23
      go_wp2_with fail
      refine (HRT.out _ _ _ _ A3.out hKU.out).mono ?_
      rintro _ w24 ⟨rfl, k24⟩
      have A1 := Lib.hid (A1.out.kp k24)
      have A2 := Lib.hid (A2.out.kp k24)
      have A3 := Lib.hid (A3.out.kp k24)
      have KK := Lib.hid (KK.out.trans k24)
      clear k24
      go_wp2_with fail
      refine (HOT.out _ _ _ _ _ _ _ (HT0.out.kp KK.out) A1.out hK.out hKA.out oA.out).mono ?_
      rintro _ w25 ⟨rfl, k25⟩
      have A1 := Lib.hid (A1.out.kp k25)
      have A2 := Lib.hid (A2.out.kp k25)
      have A3 := Lib.hid (A3.out.kp k25)
      have KK := Lib.hid (KK.out.trans k25)
      clear k25
      go_wp2_with fail
      refine (HOT.out _ _ _ _ _ _ _ (HT0.out.kp KK.out) A2.out hK.out hKR.out oR.out).mono ?_
      rintro _ w26 ⟨rfl, k26⟩
      have A1 := Lib.hid (A1.out.kp k26)
      have A2 := Lib.hid (A2.out.kp k26)
      have A3 := Lib.hid (A3.out.kp k26)
      have KK := Lib.hid (KK.out.trans k26)
      clear k26
      go_wp2_with fail
      refine (HOT.out _ _ _ _ _ _ _ (HT0.out.kp KK.out) A3.out hK.out hKU.out oU.out).mono ?_
      rintro _ w27 ⟨rfl, k27⟩
      have A1 := Lib.hid (A1.out.kp k27)
      have A2 := Lib.hid (A2.out.kp k27)
      have A3 := Lib.hid (A3.out.kp k27)
      have KK := Lib.hid (KK.out.trans k27)
      clear k27
      go_wp2_with fail
      refine (HFI.out _ _ _ _ A1.out lA.out).mono ?_
      rintro _ _ ⟨rfl, rfl⟩
      clear HRT HOT oA oR oU
      by_cases hE : AE = 0
      · obtain ⟨f1, f2⟩ := fA.out hE
        rw [f1, f2]
        subst hE
        have haa : (AI == AI) = true := beq_self_eq_true _
        clear fA f1 f2
        by_cases hU : UE = 0
        · subst hU
          go_wp2_with fail
          refine (HSM.out _ _ _ _ A2.out (HT0.out.kp KK.out)).mono ?_
          rintro _ w28 ⟨rfl, k28⟩
          have A1 := Lib.hid (A1.out.kp k28)
          have A2 := Lib.hid (A2.out.kp k28)
          have A3 := Lib.hid (A3.out.kp k28)
          have KK := Lib.hid (KK.out.trans k28)
          clear k28
          go_wp2_with fail
          go_ret
          exact ⟨rfl, KK.out⟩
        · have hUb : (UE == 0) = false := beq_eq_false_iff_ne.2 hU
          rw [nU.out hU] at A3
          go_wp2_with fail
          refine (HSM.out _ _ _ _ A2.out (HT0.out.kp KK.out)).mono ?_
          rintro _ w29 ⟨rfl, k29⟩
          have A1 := Lib.hid (A1.out.kp k29)
          have A2 := Lib.hid (A2.out.kp k29)
          have A3 := Lib.hid (A3.out.kp k29)
          have KK := Lib.hid (KK.out.trans k29)
          clear k29
          go_wp2_with fail
          refine (HSM.out _ _ _ _ A3.out (HT0.out.kp KK.out)).mono ?_
          rintro _ w30 ⟨rfl, k30⟩
          have A1 := Lib.hid (A1.out.kp k30)
          have A2 := Lib.hid (A2.out.kp k30)
          have A3 := Lib.hid (A3.out.kp k30)
          have KK := Lib.hid (KK.out.trans k30)
          clear k30
          go_wp2_with fail
          go_ret
          exact ⟨rfl, KK.out⟩
      · have hEb : (AE == 0) = false := beq_eq_false_iff_ne.2 hE
        rw [nA.out hE] at A1
        clear fA
        by_cases hU : UE = 0
        · subst hU
          go_wp2_with fail
          refine (HSM.out _ _ _ _ A1.out (HT0.out.kp KK.out)).mono ?_
          rintro _ w31 ⟨rfl, k31⟩
          have A1 := Lib.hid (A1.out.kp k31)
          have A2 := Lib.hid (A2.out.kp k31)
          have A3 := Lib.hid (A3.out.kp k31)
          have KK := Lib.hid (KK.out.trans k31)
          clear k31
          go_wp2_with fail
          refine (HSM.out _ _ _ _ A2.out (HT0.out.kp KK.out)).mono ?_
          rintro _ w32 ⟨rfl, k32⟩
          have A1 := Lib.hid (A1.out.kp k32)
          have A2 := Lib.hid (A2.out.kp k32)
          have A3 := Lib.hid (A3.out.kp k32)
          have KK := Lib.hid (KK.out.trans k32)
          clear k32
          go_wp2_with fail
          go_ret
          exact ⟨rfl, KK.out⟩
        · have hUb : (UE == 0) = false := beq_eq_false_iff_ne.2 hU
          rw [nU.out hU] at A3
          go_wp2_with fail
          refine (HSM.out _ _ _ _ A1.out (HT0.out.kp KK.out)).mono ?_
          rintro _ w33 ⟨rfl, k33⟩
          have A1 := Lib.hid (A1.out.kp k33)
          have A2 := Lib.hid (A2.out.kp k33)
          have A3 := Lib.hid (A3.out.kp k33)
          have KK := Lib.hid (KK.out.trans k33)
          clear k33
          go_wp2_with fail
          refine (HSM.out _ _ _ _ A2.out (HT0.out.kp KK.out)).mono ?_
          rintro _ w34 ⟨rfl, k34⟩
          have A1 := Lib.hid (A1.out.kp k34)
          have A2 := Lib.hid (A2.out.kp k34)
          have A3 := Lib.hid (A3.out.kp k34)
          have KK := Lib.hid (KK.out.trans k34)
          clear k34
          go_wp2_with fail
          refine (HSM.out _ _ _ _ A3.out (HT0.out.kp KK.out)).mono ?_
          rintro _ w35 ⟨rfl, k35⟩
          have A1 := Lib.hid (A1.out.kp k35)
          have A2 := Lib.hid (A2.out.kp k35)
          have A3 := Lib.hid (A3.out.kp k35)
          have KK := Lib.hid (KK.out.trans k35)
          clear k35
          go_wp2_with fail
          go_ret
          exact ⟨rfl, KK.out⟩

set_option maxRecDepth 100000 in
set_option maxHeartbeats 8000000 in
theorem treeBack_walk (vt : Value) (t : List Nod) (name : Int) (a b : UInt8) (w : World) (ht : NL w vt t) (hname : -9223372036854775808 ≤ name ∧ name ≤ 9223372036854775807) (hTAB : Tab w) :
    Calls Tryz.prog 6 #[.agg #[vt, .int .i64 name, .int .u8 (a.toNat : Int), .int .u8 (b.toNat : Int)]] w (Yes w) := by
  have HTAB := Lib.hid hTAB
  clear hTAB
  have HSM : Hid (∀ W u v T, NL W u T → NL W v T → Calls Tryz.prog 13 #[u, v] W fun e w' => e = .returned (.bool true) ∧ Kp W w') := fun W u v T hu hv => same9_yes u v T W hu hv
  have HMAY := Lib.hid (fun W (hW : Kp w W) => may9_any vt t W (ht.kp hW))
  have HHA := Lib.hid (fun W => half9_any a W)
  have HHB := Lib.hid (fun W => half9_any b W)
  have HA1 := Lib.hid (fun W (hW : Kp w W) v (hv : Rd W v (halfB a)) K (hr : RightK t K) => treeAdd_any vt v t K name (halfB a) W (ht.kp hW) hv hr hname (HTAB.out.kp hW))
  have HR1 := Lib.hid (fun W u s K i (hu : NL W u s) (hr : RightK s K) (hi : -9223372036854775808 ≤ i ∧ i ≤ 9223372036854775807) (hTW : Tab W) => treeRemove_any u s K i W hu hr hi hTW)
  have HU1 := Lib.hid (fun W u v s K i p (hu : NL W u s) (hv : Rd W v p) (hr : RightK s K) (hi : -9223372036854775808 ≤ i ∧ i ≤ 9223372036854775807) (hTW : Tab W) => treeUpdate_any u v s K i p W hu hv hr hi hTW)
  have HRT : Hid (∀ W u s K, NL W u s → RightK s K → Calls Tryz.prog 12 #[u] W fun e w' => e = .returned (.bool true) ∧ Kp W w') := fun W u s K hu hr => right9_yes u s K W hu hr
  have HOT : Hid (∀ W u v s K K' z, NL W u t → NL W v s → RightK t K → RightK s K' → othersP t s z → Calls Tryz.prog 29 #[u, v, .int .i64 z] W fun e w' => e = .returned (.bool true) ∧ Kp W w') := fun W u v s K K' z hu hv h1 h2 h3 => others9_yes u v t s K K' z W hu hv h1 h2 h3
  have HT0 := Lib.hid ht
  obtain ⟨aa, na, ca, rfl⟩ := ht.sl
  clear ht hname
  go_enter Tryz.func6, Tryz.ntmps6
  go_wp2_with fail
  refine (shownTree_any _ (HTAB.out.kp (by first | exact Kp.refl _ | exact (Kp.refl _).alloc _))).mono ?_
  rintro _ w0 ⟨rfl, k0⟩
  have KK : Hid (Kp w w0) := ((Kp.refl w).alloc _).trans k0
  clear k0
  go_wp2_with fail
  refine (HMAY.out _ KK.out).mono ?_
  rintro _ w1 ⟨⟨bM, rfl, hM⟩, k1⟩
  have KK := Lib.hid (KK.out.trans k1)
  clear k1
  cases bM
  · clear hM
    go_wp2_with fail
    go_ret
    exact ⟨rfl, KK.out⟩
  · obtain ⟨K, hr⟩ := hM rfl
    clear hM
    go_wp2_with fail
    refine (HHA.out _).mono ?_
    rintro _ w2 ⟨⟨r0, rfl, s0⟩, k2⟩
    have KK := Lib.hid (KK.out.trans k2)
    have B0 := Lib.hid s0
    clear k2
    go_wp2_with fail
    refine (HA1.out _ KK.out _ B0.out K hr).mono ?_
    rintro _ w3 ⟨⟨r1, rfl, s1⟩, k3⟩
    have B0 := Lib.hid (B0.out.kp k3)
    have KK := Lib.hid (KK.out.trans k3)
    have A1 := Lib.hid s1
    clear k3
    by_cases hE : addE t name (halfB a) = 0
    · obtain ⟨KA, hra⟩ := hr.addR name (halfB a)
      obtain ⟨c1, c2⟩ := hr.back_rem hE
      obtain ⟨c3, c4, c5⟩ := hr.back_upd hE (halfB_length a) (halfB_length b)
      have c6 : updE (addV t name (halfB a)) (addI t name (halfB a)) (halfB b) = 0 := by
        obtain ⟨_, x2, _⟩ := upd_yes c3
        unfold updE
        rw [if_pos (halfB_length b), if_pos x2]
      have hgi : -9223372036854775808 ≤ addI t name (halfB a) ∧ addI t name (halfB a) ≤ 9223372036854775807 := by
        rw [(add_yes hE).2.2.2.2]
        have := gap_le t
        have := hr.lv
        have := p2_le hr.le
        omega
      rw [hE] at *
      generalize addV t name (halfB a) = AV at *
      generalize addI t name (halfB a) = AI at *
      obtain ⟨KR, hrr⟩ := hra.remR AI
      obtain ⟨KU, hru⟩ := hra.updR AI (halfB a)
      have HREM := Lib.hid (fun W u (hu : NL W u AV) (hTW : Tab W) => HR1.out W u AV KA AI hu hra hgi hTW)
      have HUA := Lib.hid (fun W u v (hu : NL W u AV) (hv : Rd W v (halfB a)) (hTW : Tab W) => HU1.out W u v AV KA AI _ hu hv hra hgi hTW)
      have HUB := Lib.hid (fun W u v (hu : NL W u (updV AV AI (halfB a))) (hv : Rd W v (halfB b)) (hTW : Tab W) => HU1.out W u v _ KU AI _ hu hv hru hgi hTW)
      have HUC := Lib.hid (fun W u v (hu : NL W u AV) (hv : Rd W v (halfB b)) (hTW : Tab W) => HU1.out W u v AV KA AI _ hu hv hra hgi hTW)
      rw [c1] at HREM
      rw [c3] at HUA
      rw [c4, c5] at HUB
      rw [c6] at HUC
      have HK := Lib.hid hr
      have HKR := Lib.hid hrr
      have HC2 := Lib.hid c2
      generalize updV AV AI (halfB a) = UV at *
      generalize updV AV AI (halfB b) = WV at *
      generalize remV AV AI = RV at *
      clear c1 c2 c3 c4 c5 c6 hra hrr hru hgi hE HR1 HU1 HMAY hr B0
      go_wp2_with fail
      refine (HREM.out _ _ A1.out (HTAB.out.kp (by first | exact KK.out | exact KL.out | exact KR.out | exact K9.out | exact K1.out | exact K2.out | exact K3.out | exact K4.out | exact K5.out | exact K6.out | exact K7.out | exact K8.out | exact K9.out | exact K10.out | exact K11.out | exact K12.out | exact K13.out | exact K14.out | exact K15.out | exact K16.out | exact K17.out | exact K18.out | exact K19.out | exact K20.out | exact K21.out | exact K22.out | exact K23.out | exact K24.out | exact HO.out.2 | exact S2.out.2 | exact HT3.out.2 | exact KK.out.trans KR.out | exact KK.out.trans KL.out))).mono ?_
      rintro _ w4 ⟨⟨r2, rfl, s2⟩, k4⟩
      have A1 := Lib.hid (A1.out.kp k4)
      have KK := Lib.hid (KK.out.trans k4)
      have A2 := Lib.hid s2
      clear k4
      go_wp2_with fail
      refine (HHA.out _).mono ?_
      rintro _ w5 ⟨⟨r3, rfl, s3⟩, k5⟩
      have A1 := Lib.hid (A1.out.kp k5)
      have A2 := Lib.hid (A2.out.kp k5)
      have KK := Lib.hid (KK.out.trans k5)
      have B1 := Lib.hid s3
      clear k5
      go_wp2_with fail
      refine (HUA.out _ _ _ A1.out B1.out (HTAB.out.kp (by first | exact KK.out | exact KL.out | exact KR.out | exact K9.out | exact K1.out | exact K2.out | exact K3.out | exact K4.out | exact K5.out | exact K6.out | exact K7.out | exact K8.out | exact K9.out | exact K10.out | exact K11.out | exact K12.out | exact K13.out | exact K14.out | exact K15.out | exact K16.out | exact K17.out | exact K18.out | exact K19.out | exact K20.out | exact K21.out | exact K22.out | exact K23.out | exact K24.out | exact HO.out.2 | exact S2.out.2 | exact HT3.out.2 | exact KK.out.trans KR.out | exact KK.out.trans KL.out))).mono ?_
      rintro _ w6 ⟨⟨r4, rfl, s4⟩, k6⟩
      have A1 := Lib.hid (A1.out.kp k6)
      have A2 := Lib.hid (A2.out.kp k6)
      have B1 := Lib.hid (B1.out.kp k6)
      have KK := Lib.hid (KK.out.trans k6)
      have A3 := Lib.hid s4
      clear k6
      go_wp2_with fail
      refine (HHB.out _).mono ?_
      rintro _ w7 ⟨⟨r5, rfl, s5⟩, k7⟩
      have A1 := Lib.hid (A1.out.kp k7)
      have A2 := Lib.hid (A2.out.kp k7)
      have B1 := Lib.hid (B1.out.kp k7)
      have A3 := Lib.hid (A3.out.kp k7)
      have KK := Lib.hid (KK.out.trans k7)
      have B2 := Lib.hid s5
      clear k7
      go_wp2_with fail
      refine (HUB.out _ _ _ A3.out B2.out (HTAB.out.kp (by first | exact KK.out | exact KL.out | exact KR.out | exact K9.out | exact K1.out | exact K2.out | exact K3.out | exact K4.out | exact K5.out | exact K6.out | exact K7.out | exact K8.out | exact K9.out | exact K10.out | exact K11.out | exact K12.out | exact K13.out | exact K14.out | exact K15.out | exact K16.out | exact K17.out | exact K18.out | exact K19.out | exact K20.out | exact K21.out | exact K22.out | exact K23.out | exact K24.out | exact HO.out.2 | exact S2.out.2 | exact HT3.out.2 | exact KK.out.trans KR.out | exact KK.out.trans KL.out))).mono ?_
      rintro _ w8 ⟨⟨r6, rfl, s6⟩, k8⟩
      have A1 := Lib.hid (A1.out.kp k8)
      have A2 := Lib.hid (A2.out.kp k8)
      have B1 := Lib.hid (B1.out.kp k8)
      have A3 := Lib.hid (A3.out.kp k8)
      have B2 := Lib.hid (B2.out.kp k8)
      have KK := Lib.hid (KK.out.trans k8)
      have A4 := Lib.hid s6
      clear k8
      go_wp2_with fail
      refine (HHB.out _).mono ?_
      rintro _ w9 ⟨⟨r7, rfl, s7⟩, k9⟩
      have A1 := Lib.hid (A1.out.kp k9)
      have A2 := Lib.hid (A2.out.kp k9)
      have B1 := Lib.hid (B1.out.kp k9)
      have A3 := Lib.hid (A3.out.kp k9)
      have B2 := Lib.hid (B2.out.kp k9)
      have A4 := Lib.hid (A4.out.kp k9)
      have KK := Lib.hid (KK.out.trans k9)
      have B3 := Lib.hid s7
      clear k9
      go_wp2_with fail
      refine (HUC.out _ _ _ A1.out B3.out (HTAB.out.kp (by first | exact KK.out | exact KL.out | exact KR.out | exact K9.out | exact K1.out | exact K2.out | exact K3.out | exact K4.out | exact K5.out | exact K6.out | exact K7.out | exact K8.out | exact K9.out | exact K10.out | exact K11.out | exact K12.out | exact K13.out | exact K14.out | exact K15.out | exact K16.out | exact K17.out | exact K18.out | exact K19.out | exact K20.out | exact K21.out | exact K22.out | exact K23.out | exact K24.out | exact HO.out.2 | exact S2.out.2 | exact HT3.out.2 | exact KK.out.trans KR.out | exact KK.out.trans KL.out))).mono ?_
      rintro _ w10 ⟨⟨r8, rfl, s8⟩, k10⟩
      have A1 := Lib.hid (A1.out.kp k10)
      have A2 := Lib.hid (A2.out.kp k10)
      have B1 := Lib.hid (B1.out.kp k10)
      have A3 := Lib.hid (A3.out.kp k10)
      have B2 := Lib.hid (B2.out.kp k10)
      have A4 := Lib.hid (A4.out.kp k10)
      have B3 := Lib.hid (B3.out.kp k10)
      have KK := Lib.hid (KK.out.trans k10)
      have A5 := Lib.hid s8
      clear k10
      clear HREM HUA HUB HUC HHA HHB B1 B2 B3 A1 A3 HA1
      go_wp2_with fail
      refine (HOT.out _ _ _ _ _ _ _ (HT0.out.kp KK.out) A2.out HK.out HKR.out HC2.out).mono ?_
      rintro _ w11 ⟨rfl, k11⟩
      have A2 := Lib.hid (A2.out.kp k11)
      have A4 := Lib.hid (A4.out.kp k11)
      have A5 := Lib.hid (A5.out.kp k11)
      have KK := Lib.hid (KK.out.trans k11)
      clear k11
      go_wp2_with fail
      refine (HRT.out _ _ _ _ A2.out HKR.out).mono ?_
      rintro _ w12 ⟨rfl, k12⟩
      have A2 := Lib.hid (A2.out.kp k12)
      have A4 := Lib.hid (A4.out.kp k12)
      have A5 := Lib.hid (A5.out.kp k12)
      have KK := Lib.hid (KK.out.trans k12)
      clear k12
      go_wp2_with fail
      refine (HSM.out _ _ _ _ A4.out A5.out).mono ?_
      rintro _ w13 ⟨rfl, k13⟩
      have A2 := Lib.hid (A2.out.kp k13)
      have A4 := Lib.hid (A4.out.kp k13)
      have A5 := Lib.hid (A5.out.kp k13)
      have KK := Lib.hid (KK.out.trans k13)
      clear k13
      go_wp2_with fail
      go_ret
      exact ⟨rfl, KK.out⟩
    · have hEb : (addE t name (halfB a) == 0) = false := beq_eq_false_iff_ne.2 hE
      generalize addE t name (halfB a) = AE at *
      go_wp2_with fail
      go_ret
      exact ⟨rfl, KK.out⟩

end Go.Proofs.YtnpobcggadojkaaGreatDoor

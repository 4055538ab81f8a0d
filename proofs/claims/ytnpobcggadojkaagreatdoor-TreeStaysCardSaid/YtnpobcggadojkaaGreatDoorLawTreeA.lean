/- TreeTells, TreeDoes (written by gen/tree5.py). -/
import Derived.Test.YtnpobcggadojkaaGreatDoorShownTree
set_option linter.unusedVariables false
set_option linter.unusedSimpArgs false
namespace Go.Proofs.YtnpobcggadojkaaGreatDoor
open Go.RowKit

theorem same9_yes (u v : Value) (t : List Nod) (w : World) (hu : NL w u t) (hv : NL w v t) : Calls Tryz.prog 13 #[u, v] w fun e w' => e = .returned (.bool true) ∧ Kp w w' := by
  refine (refSameT_any u v t t w hu hv).mono ?_
  rintro _ w' ⟨⟨b, rfl, hb⟩, k⟩
  rw [hb.2 rfl]
  exact ⟨rfl, k⟩
theorem right9_yes (u : Value) (t : List Nod) (K : Nat) (w : World) (hu : NL w u t) (hr : RightK t K) : Calls Tryz.prog 12 #[u] w fun e w' => e = .returned (.bool true) ∧ Kp w w' := by
  refine (refRightT_any u t w hu (by have := hr.small.1; omega)).mono ?_
  rintro _ w' ⟨⟨b, rfl, hb⟩, k⟩
  rw [hb.2 ⟨K, hr⟩]
  exact ⟨rfl, k⟩
theorem others9_yes (u v : Value) (a b : List Nod) (K K' : Nat) (but : Int) (w : World) (hu : NL w u a) (hv : NL w v b) (ha : RightK a K) (hb : RightK b K') (h : othersP a b but) : Calls Tryz.prog 29 #[u, v, .int .i64 but] w fun e w' => e = .returned (.bool true) ∧ Kp w w' := by
  refine (others9_any u v a b but w hu hv (by have := ha.small.1; omega) (by have := hb.small.1; omega)).mono ?_
  rintro _ w' ⟨⟨b, rfl, hb⟩, k⟩
  rw [hb.2 h]
  exact ⟨rfl, k⟩
/-- May: few nodes, and right; the answer's two ways. -/
theorem may9_any (u : Value) (t : List Nod) (w : World) (hu : NL w u t) : Calls Tryz.prog 21 #[u, .int .i64 80] w fun e w' => (∃ b, e = .returned (.bool b) ∧ (b = true → ∃ K, RightK t K)) ∧ Kp w w' := by
  refine (refMayT_any u t 80 w hu (by omega)).mono ?_
  rintro _ w' ⟨⟨b, rfl, hb⟩, k⟩
  exact ⟨⟨b, rfl, fun h => (hb.1 h).2⟩, k⟩

set_option maxRecDepth 100000 in
set_option maxHeartbeats 8000000 in
theorem treeTells_walk (va vb vp : Value) (a b : List Nod) (name x : Int) (pub : List UInt8) (w : World) (ha : NL w va a) (hb : NL w vb b) (hp : Rd w vp pub) (hname : -9223372036854775808 ≤ name ∧ name ≤ 9223372036854775807) (hx : -9223372036854775808 ≤ x ∧ x ≤ 9223372036854775807) (hTAB : Tab w) :
    Calls Tryz.prog 3 #[.agg #[va, vb, .int .i64 name, vp, .int .i64 x]] w (Yes w) := by
  have HTAB := Lib.hid hTAB
  clear hTAB
  have HSM : Hid (∀ W u v T, NL W u T → NL W v T → Calls Tryz.prog 13 #[u, v] W fun e w' => e = .returned (.bool true) ∧ Kp W w') := fun W u v T hu hv => same9_yes u v T W hu hv
  have HSA := Lib.hid (fun W (hW : Kp w W) => refSmall_any va a 80 W (ha.kp hW) (by omega))
  have HSB := Lib.hid (fun W (hW : Kp w W) => refSmall_any vb b 80 W (hb.kp hW) (by omega))
  have HN1 := Lib.hid (fun W (hW : Kp w W) => treeNew_any name vp pub W (hp.kp hW) hname (HTAB.out.kp hW))
  have HN2 := Lib.hid (fun W (hW : Kp w W) => refNewN_any name vp pub W (hp.kp hW))
  have HR1 := Lib.hid (fun W (hW : Kp w W) (h : a.length ≤ 100000) => refRightT_any va a W (ha.kp hW) h)
  have HR2 := Lib.hid (fun W (hW : Kp w W) (h : a.length ≤ 100000) => treeRight_any va a W (ha.kp hW) h (HTAB.out.kp hW))
  have HS1 := Lib.hid (fun W (hW : Kp w W) (h1 : a.length ≤ 100000) (h2 : b.length ≤ 100000) => treeSame_any va vb a b W (ha.kp hW) (hb.kp hW) h1 h2 (HTAB.out.kp hW))
  have HS2 := Lib.hid (fun W (hW : Kp w W) => refSameT_any va vb a b W (ha.kp hW) (hb.kp hW))
  have HF1 := Lib.hid (fun W (hW : Kp w W) (h : RightP a) => h.elim fun K hr => treeFind_any va a K name W (ha.kp hW) hr hname (HTAB.out.kp hW))
  have HF2 := Lib.hid (fun W (hW : Kp w W) (h : a.length ≤ 100000) => refFind_any va a name W (ha.kp hW) h)
  have HE1 := Lib.hid (fun W (hW : Kp w W) (h : RightP a) => h.elim fun K hr => treeResolve_any va a K x W (ha.kp hW) hr hx (HTAB.out.kp hW))
  have HE2 := Lib.hid (fun W (hW : Kp w W) (h : RightP a) => h.elim fun K hr => refResolve_any va a K x W (ha.kp hW) hr)
  have HI : Hid (∀ W u v l, RI W u l → RI W v l → Calls Tryz.prog 18 #[u, v] W fun e w' => e = .returned (.bool true) ∧ Kp W w') := fun W u v l hu hv => by
    have := refIntsI_any u v l l W hu hv
    rwa [decide_eq_true rfl] at this
  have HLA : Hid (smallP a 80 → a.length ≤ 100000) := fun h => by have := h.1; omega
  have HLB : Hid (smallP b 80 → b.length ≤ 100000) := fun h => by have := h.1; omega
  obtain ⟨aa, na, ca, rfl⟩ := ha.sl
  obtain ⟨ab, nb, cb, rfl⟩ := hb.sl
  obtain ⟨ap, cp, rfl, _, _⟩ := hp.shape
  generalize newE name pub = NE at *
  generalize newV name pub = NV9 at *
  generalize findV a name = FV at *
  generalize findB a name = FB at *
  generalize resV a x = RV at *
  generalize pub.length = PL at *
  clear ha hb hp hname hx
  go_enter Tryz.func3, Tryz.ntmps3
  go_wp2_with fail
  refine (shownTree_any _ (HTAB.out.kp (by first | exact Kp.refl _ | exact (Kp.refl _).alloc _))).mono ?_
  rintro _ w0 ⟨rfl, k0⟩
  have KK : Hid (Kp w w0) := ((Kp.refl w).alloc _).trans k0
  clear k0
  go_wp2_with fail
  refine (HSA.out _ KK.out).mono ?_
  rintro _ _ ⟨⟨bA, rfl, hA⟩, rfl⟩
  cases bA
  · clear hA
    go_wp2_with fail
    go_ret
    exact ⟨rfl, KK.out⟩
  · have hLA := HLA.out (hA.1 rfl)
    clear hA
    go_wp2_with fail
    refine (HSB.out _ KK.out).mono ?_
    rintro _ _ ⟨⟨bB, rfl, hB⟩, rfl⟩
    cases bB
    · clear hB
      go_wp2_with fail
      go_ret
      exact ⟨rfl, KK.out⟩
    · have hLB := HLB.out (hB.1 rfl)
      clear hB
      by_cases h40 : (40 : Int) < (PL : Int)
      · go_wp2_with fail
        go_ret
        exact ⟨rfl, KK.out⟩
      · clear HSA HSB HLA HLB
        go_wp2_with fail
        refine (HN1.out _ KK.out).mono ?_
        rintro _ w1 ⟨⟨r1, rfl, s1⟩, k1⟩
        have KK := Lib.hid (KK.out.trans k1)
        have A1 := Lib.hid s1
        clear k1
        go_wp2_with fail
        refine (HN2.out _ KK.out).mono ?_
        rintro _ w2 ⟨⟨r2, rfl, s2⟩, k2⟩
        have A1 := Lib.hid (A1.out.kp k2)
        have KK := Lib.hid (KK.out.trans k2)
        have A2 := Lib.hid s2
        clear k2
        go_wp2_with fail
        refine (HR1.out _ KK.out hLA).mono ?_
        rintro _ w3 ⟨⟨bR, rfl, hR⟩, k3⟩
        have A1 := Lib.hid (A1.out.kp k3)
        have A2 := Lib.hid (A2.out.kp k3)
        have KK := Lib.hid (KK.out.trans k3)
        clear k3
        go_wp2_with fail
        refine (HSM.out _ _ _ _ A1.out A2.out).mono ?_
        rintro _ w4 ⟨rfl, k4⟩
        have A1 := Lib.hid (A1.out.kp k4)
        have A2 := Lib.hid (A2.out.kp k4)
        have KK := Lib.hid (KK.out.trans k4)
        clear k4
        go_wp2_with fail
        refine (HR2.out _ KK.out hLA).mono ?_
        rintro _ w5 ⟨⟨bR2, rfl, hR2⟩, k5⟩
        have A1 := Lib.hid (A1.out.kp k5)
        have A2 := Lib.hid (A2.out.kp k5)
        have KK := Lib.hid (KK.out.trans k5)
        clear k5
        obtain rfl : bR2 = bR := Bool.eq_iff_iff.2 (hR2.trans hR.symm)
        clear hR2
        go_wp2_with fail
        refine (HS1.out _ KK.out hLA hLB).mono ?_
        rintro _ w6 ⟨⟨bS, rfl, hS⟩, k6⟩
        have A1 := Lib.hid (A1.out.kp k6)
        have A2 := Lib.hid (A2.out.kp k6)
        have KK := Lib.hid (KK.out.trans k6)
        clear k6
        go_wp2_with fail
        refine (HS2.out _ KK.out).mono ?_
        rintro _ w7 ⟨⟨bS2, rfl, hS2⟩, k7⟩
        have A1 := Lib.hid (A1.out.kp k7)
        have A2 := Lib.hid (A2.out.kp k7)
        have KK := Lib.hid (KK.out.trans k7)
        clear k7
        obtain rfl : bS2 = bS := Bool.eq_iff_iff.2 (hS2.trans hS.symm)
        clear hS2 hS HS1 HS2 HR1 HR2 HN1 HN2 HSM A1 A2
        have hbb : (bS2 == bS2) = true := beq_self_eq_true _
        cases bR2
        · clear hR
          go_wp2_with fail
          go_ret
          exact ⟨rfl, KK.out⟩
        · have hRP := Lib.hid (hR.1 rfl)
          clear hR
          go_wp2_with fail
          refine (HF1.out _ KK.out hRP.out).mono ?_
          rintro _ w8 ⟨rfl, k8⟩
          have KK := Lib.hid (KK.out.trans k8)
          clear k8
          go_wp2_with fail
          refine (HF2.out _ KK.out hLA).mono ?_
          rintro _ _ ⟨rfl, rfl⟩
          have hbf : (FB == FB) = true := beq_self_eq_true _
          go_wp2_with fail
          refine (HE1.out _ KK.out hRP.out).mono ?_
          rintro _ w9 ⟨⟨r3, rfl, s3⟩, k9⟩
          have KK := Lib.hid (KK.out.trans k9)
          have A3 := Lib.hid s3
          clear k9
          go_wp2_with fail
          refine (HE2.out _ KK.out hRP.out).mono ?_
          rintro _ w10 ⟨⟨r4, rfl, s4⟩, k10⟩
          have A3 := Lib.hid (A3.out.kp k10)
          have KK := Lib.hid (KK.out.trans k10)
          have A4 := Lib.hid s4.ri
          clear k10
          go_wp2_with fail
          refine (HI.out _ _ _ _ A3.out A4.out).mono ?_
          rintro _ w11 ⟨rfl, k11⟩
          have A3 := Lib.hid (A3.out.kp k11)
          have A4 := Lib.hid (A4.out.kp k11)
          have KK := Lib.hid (KK.out.trans k11)
          clear k11
          go_wp2_with fail
          go_ret
          exact ⟨rfl, KK.out⟩

set_option maxRecDepth 100000 in
set_option maxHeartbeats 8000000 in
theorem treeDoes_walk (vt vp : Value) (t : List Nod) (name i : Int) (pub : List UInt8) (w : World) (ht : NL w vt t) (hp : Rd w vp pub) (hname : -9223372036854775808 ≤ name ∧ name ≤ 9223372036854775807) (hi : -9223372036854775808 ≤ i ∧ i ≤ 9223372036854775807) (hTAB : Tab w) :
    Calls Tryz.prog 4 #[.agg #[vt, .int .i64 name, vp, .int .i64 i]] w (Yes w) := by
  have HTAB := Lib.hid hTAB
  clear hTAB
  have HSM : Hid (∀ W u v T, NL W u T → NL W v T → Calls Tryz.prog 13 #[u, v] W fun e w' => e = .returned (.bool true) ∧ Kp W w') := fun W u v T hu hv => same9_yes u v T W hu hv
  have HMAY := Lib.hid (fun W (hW : Kp w W) => may9_any vt t W (ht.kp hW))
  have HA1 := Lib.hid (fun W (hW : Kp w W) K (hr : RightK t K) => treeAdd_any vt vp t K name pub W (ht.kp hW) (hp.kp hW) hr hname (HTAB.out.kp hW))
  have HA2 := Lib.hid (fun W (hW : Kp w W) K (hr : RightK t K) => refAddN_any vt vp t K name pub W (ht.kp hW) (hp.kp hW) hr)
  have HR1 := Lib.hid (fun W (hW : Kp w W) K (hr : RightK t K) => treeRemove_any vt t K i W (ht.kp hW) hr hi (HTAB.out.kp hW))
  have HR2 := Lib.hid (fun W (hW : Kp w W) K (hr : RightK t K) => refRemoveN_any vt t K i W (ht.kp hW) hr)
  have HU1 := Lib.hid (fun W (hW : Kp w W) K (hr : RightK t K) => treeUpdate_any vt vp t K i pub W (ht.kp hW) (hp.kp hW) hr hi (HTAB.out.kp hW))
  have HU2 := Lib.hid (fun W (hW : Kp w W) K (hr : RightK t K) => refUpdateN_any vt vp t K i pub W (ht.kp hW) (hp.kp hW) hr)
  generalize addV t name pub = AV at *
  generalize addI t name pub = AI at *
  generalize addE t name pub = AE at *
  generalize remV t i = RV at *
  generalize remE t i = RE at *
  generalize updV t i pub = UV at *
  generalize updE t i pub = UE at *
  obtain ⟨aa, na, ca, rfl⟩ := ht.sl
  obtain ⟨ap, cp, rfl, _, _⟩ := hp.shape
  generalize pub.length = PL at *
  clear ht hp hname hi
  go_enter Tryz.func4, Tryz.ntmps4
  go_wp2_with fail
  refine (shownTree_any _ (HTAB.out.kp (by first | exact Kp.refl _ | exact (Kp.refl _).alloc _))).mono ?_
  rintro _ w0 ⟨rfl, k0⟩
  have KK : Hid (Kp w w0) := ((Kp.refl w).alloc _).trans k0
  clear k0
  go_wp2_with fail
  refine (HMAY.out _ KK.out).mono ?_
  rintro _ w1 ⟨⟨bM, rfl, hM⟩, k1⟩
  have KK := Lib.hid (KK.out.trans k1)
  clear k1
  cases bM
  · clear hM
    go_wp2_with fail
    go_ret
    exact ⟨rfl, KK.out⟩
  · obtain ⟨K, hr⟩ := hM rfl
    clear hM
    by_cases h40 : (40 : Int) < (PL : Int)
    · go_wp2_with fail
      go_ret
      exact ⟨rfl, KK.out⟩
    · clear HMAY
      go_wp2_with fail
      refine (HA1.out _ KK.out K hr).mono ?_
      rintro _ w2 ⟨⟨r1, rfl, s1⟩, k2⟩
      have KK := Lib.hid (KK.out.trans k2)
      have A1 := Lib.hid s1
      clear k2
      go_wp2_with fail
      refine (HA2.out _ KK.out K hr).mono ?_
      rintro _ w3 ⟨⟨r2, rfl, s2⟩, k3⟩
      have A1 := Lib.hid (A1.out.kp k3)
      have KK := Lib.hid (KK.out.trans k3)
      have A2 := Lib.hid s2
      clear k3
      go_wp2_with fail
      refine (HR1.out _ KK.out K hr).mono ?_
      rintro _ w4 ⟨⟨r3, rfl, s3⟩, k4⟩
      have A1 := Lib.hid (A1.out.kp k4)
      have A2 := Lib.hid (A2.out.kp k4)
      have KK := Lib.hid (KK.out.trans k4)
      have A3 := Lib.hid s3
      clear k4
      go_wp2_with fail
      refine (HR2.out _ KK.out K hr).mono ?_
      rintro _ w5 ⟨⟨r4, rfl, s4⟩, k5⟩
      have A1 := Lib.hid (A1.out.kp k5)
      have A2 := Lib.hid (A2.out.kp k5)
      have A3 := Lib.hid (A3.out.kp k5)
      have KK := Lib.hid (KK.out.trans k5)
      have A4 := Lib.hid s4
      clear k5
      go_wp2_with fail
      refine (HU1.out _ KK.out K hr).mono ?_
      rintro _ w6 ⟨⟨r5, rfl, s5⟩, k6⟩
      have A1 := Lib.hid (A1.out.kp k6)
      have A2 := Lib.hid (A2.out.kp k6)
      have A3 := Lib.hid (A3.out.kp k6)
      have A4 := Lib.hid (A4.out.kp k6)
      have KK := Lib.hid (KK.out.trans k6)
      have A5 := Lib.hid s5
      clear k6
      go_wp2_with fail
      refine (HU2.out _ KK.out K hr).mono ?_
      rintro _ w7 ⟨⟨r6, rfl, s6⟩, k7⟩
      have A1 := Lib.hid (A1.out.kp k7)
      have A2 := Lib.hid (A2.out.kp k7)
      have A3 := Lib.hid (A3.out.kp k7)
      have A4 := Lib.hid (A4.out.kp k7)
      have A5 := Lib.hid (A5.out.kp k7)
      have KK := Lib.hid (KK.out.trans k7)
      have A6 := Lib.hid s6
      clear k7
      clear HA1 HA2 HR1 HR2 HU1 HU2
      go_wp2_with fail
      refine (HSM.out _ _ _ _ A1.out A2.out).mono ?_
      rintro _ w8 ⟨rfl, k8⟩
      have A1 := Lib.hid (A1.out.kp k8)
      have A2 := Lib.hid (A2.out.kp k8)
      have A3 := Lib.hid (A3.out.kp k8)
      have A4 := Lib.hid (A4.out.kp k8)
      have A5 := Lib.hid (A5.out.kp k8)
      have A6 := Lib.hid (A6.out.kp k8)
      have KK := Lib.hid (KK.out.trans k8)
      clear k8
      go_wp2_with fail
      refine (HSM.out _ _ _ _ A3.out A4.out).mono ?_
      rintro _ w9 ⟨rfl, k9⟩
      have A1 := Lib.hid (A1.out.kp k9)
      have A2 := Lib.hid (A2.out.kp k9)
      have A3 := Lib.hid (A3.out.kp k9)
      have A4 := Lib.hid (A4.out.kp k9)
      have A5 := Lib.hid (A5.out.kp k9)
      have A6 := Lib.hid (A6.out.kp k9)
      have KK := Lib.hid (KK.out.trans k9)
      clear k9
      go_wp2_with fail
      refine (HSM.out _ _ _ _ A5.out A6.out).mono ?_
      rintro _ w10 ⟨rfl, k10⟩
      have A1 := Lib.hid (A1.out.kp k10)
      have A2 := Lib.hid (A2.out.kp k10)
      have A3 := Lib.hid (A3.out.kp k10)
      have A4 := Lib.hid (A4.out.kp k10)
      have A5 := Lib.hid (A5.out.kp k10)
      have A6 := Lib.hid (A6.out.kp k10)
      have KK := Lib.hid (KK.out.trans k10)
      clear k10
      go_wp2_with fail
      go_ret
      exact ⟨rfl, KK.out⟩

end Go.Proofs.YtnpobcggadojkaaGreatDoor

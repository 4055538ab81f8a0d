/- HashLays. -/
import Derived.Test.YtobldbodafaajaaGreatDoorShownHash
import Derived.Test.YtobldbodafaajaaGreatDoorRefHashF
import Derived.Test.YtobldbodafaajaaGreatDoorRefHashE
import Derived.Test.YtobldbodafaajaaGreatDoorRefTree9
import Derived.Test.YtobldbodafaajaaGreatDoorHashPl10
set_option linter.unusedVariables false
set_option linter.unusedSimpArgs false
namespace Go.Proofs.YtobldbodafaajaaGreatDoor
open Go.RowKit

theorem tells_one {p : Prop} {b c : Bool} (h1 : b = true ↔ p) (h2 : c = true ↔ p) : b = c := by
  cases b <;> cases c <;> simp_all
theorem may10b {t : List Nod} (h : smallP t 40 ∧ RightP t) : ∃ K, RightK t K ∧ TidyT t K := by
  obtain ⟨h1, K, h2⟩ := h
  exact ⟨K, h2, h2.tidy h1⟩
set_option maxRecDepth 100000 in
set_option maxHeartbeats 4000000 in
theorem hashLays_walk (vt : Value) (t : List Nod) (i : Int) (w : World) (ht : NL w vt t) (hi : -9223372036854775808 ≤ i ∧ i ≤ 9223372036854775807) (hTAB : Tab w) :
    Calls Tryz.prog 4 #[vt, .int .i64 i] w (Yes w) := by
  have HTAB := Lib.hid hTAB
  clear hTAB
  have HSH := Lib.hid (shownHash_any w HTAB.out)
  have HMAY := Lib.hid (fun W (hW : Kp w W) => refMayT_any vt t 40 W (ht.kp hW) (by omega))
  have HL1 := Lib.hid (fun W (hW : Kp w W) K (hr : RightK t K) (hd : TidyT t K) => hashLaid_any vt t K i W hd hr (ht.kp hW) hi (HTAB.out.kp hW))
  have HL2 := Lib.hid (fun W (hW : Kp w W) K (hd : TidyT t K) => refLaid_any vt t K i W hd (ht.kp hW))
  have HH1 := Lib.hid (fun W (hW : Kp w W) K (hr : RightK t K) (hd : TidyT t K) => hashHeld_any vt t K W hd hr (ht.kp hW) (HTAB.out.kp hW))
  have HH2 := Lib.hid (fun W (hW : Kp w W) K (hr : RightK t K) (hd : TidyT t K) => refHeld10_any vt t K W hd hr (ht.kp hW))
  have HH3 := Lib.hid (fun W (hW : Kp w W) u K (hr : RightK (layV t i) K) (hd : TidyT (layV t i) K) (hu : NL W u (layV t i)) => hashHeld_any u _ K W hd hr hu (HTAB.out.kp hW))
  have HH4 := Lib.hid (fun W (hW : Kp w W) u K (hr : RightK (layV t i) K) (hd : TidyT (layV t i) K) (hu : NL W u (layV t i)) => refHeld10_any u _ K W hd hr hu)
  have HVK : Hid (∀ K, RightK t K → TidyT t K → RightK (layV t i) K ∧ TidyT (layV t i) K) := fun K h1 h2 => ⟨(layV_keeps h1 h2 i).1, (layV_keeps h1 h2 i).2.1⟩
  have HSM : Hid (∀ W u v, NL W u (layV t i) → NL W v (layV t i) → Calls Tryz.prog 17 #[u, v] W fun e w' => e = .returned (.bool true) ∧ Kp W w') := fun W u v hu hv => by
    refine (refSameT_any u v _ _ W hu hv).mono ?_
    rintro _ w' ⟨⟨b, rfl, hb⟩, hk⟩
    rw [hb.2 rfl]
    exact ⟨rfl, hk⟩
  obtain ⟨a, c, rfl, p1, s1⟩ := ht.shape
  obtain ⟨N, hN⟩ : ∃ N, t.length = N := ⟨_, rfl⟩
  rw [hN] at HMAY HL1 HL2 HH1 HH2 ⊢
  generalize layE t i = E1 at *
  generalize layV t i = V1 at *
  clear ht hi hN p1 s1
  go_enter Tryz.func4, Tryz.ntmps4
  go_wp2_with fail
  refine HSH.out.mono ?_
  rintro _ w0 ⟨rfl, k0⟩
  have KK := Lib.hid k0
  clear k0
  go_wp2_with fail
  refine (HMAY.out _ KK.out).mono ?_
  rintro _ w1 ⟨⟨bA, rfl, hA⟩, k1⟩
  have KK := Lib.hid (KK.out.trans k1)
  clear k1
  cases bA
  · clear hA
    go_wp2_with fail
    go_ret
    exact ⟨rfl, KK.out⟩
  · obtain ⟨K, hr, hd⟩ := may10b (hA.1 rfl)
    have HRD := Lib.hid (And.intro hr hd)
    have HVV := Lib.hid (HVK.out K hr hd)
    clear hA hr hd HVK HMAY HSH
    go_wp2_with fail
    refine (HL1.out _ KK.out K HRD.out.1 HRD.out.2).mono ?_
    rintro _ w2 ⟨⟨r1, rfl, q1⟩, k2⟩
    have KK := Lib.hid (KK.out.trans k2)
    have A1 := Lib.hid q1
    clear k2 q1
    go_wp2_with fail
    refine (HL2.out _ KK.out K HRD.out.2).mono ?_
    rintro _ w3 ⟨⟨r2, rfl, q2⟩, k3⟩
    have KK := Lib.hid (KK.out.trans k3)
    have A1 := Lib.hid (A1.out.kp k3)
    have A2 := Lib.hid q2
    clear k3 q2 HL1 HL2
    go_wp2_with fail
    refine (HSM.out _ _ _ A1.out A2.out).mono ?_
    rintro _ w4 ⟨rfl, k4⟩
    have KK := Lib.hid (KK.out.trans k4)
    have A2 := Lib.hid (A2.out.kp k4)
    have hbe : (E1 == E1) = true := beq_self_eq_true _
    clear k4 A1 HSM
    go_wp2_with fail
    refine (HH1.out _ KK.out K HRD.out.1 HRD.out.2).mono ?_
    rintro _ w5 ⟨⟨b5, rfl, q5⟩, k5⟩
    have KK := Lib.hid (KK.out.trans k5)
    have A2 := Lib.hid (A2.out.kp k5)
    have Q5 := Lib.hid q5
    clear k5 q5 HH1
    go_wp2_with fail
    refine (HH2.out _ KK.out K HRD.out.1 HRD.out.2).mono ?_
    rintro _ w6 ⟨⟨b6, rfl, q6⟩, k6⟩
    have KK := Lib.hid (KK.out.trans k6)
    have A2 := Lib.hid (A2.out.kp k6)
    have e56 := tells_one Q5.out q6
    subst e56
    have hb5 : (b5 == b5) = true := beq_self_eq_true _
    clear k6 q6 HH2 Q5
    go_wp2_with fail
    refine (HH3.out _ KK.out r2 K HVV.out.1 HVV.out.2 A2.out).mono ?_
    rintro _ w7 ⟨⟨b7, rfl, q7⟩, k7⟩
    have KK := Lib.hid (KK.out.trans k7)
    have A2 := Lib.hid (A2.out.kp k7)
    have Q7 := Lib.hid q7
    clear k7 q7 HH3
    go_wp2_with fail
    refine (HH4.out _ KK.out r2 K HVV.out.1 HVV.out.2 A2.out).mono ?_
    rintro _ w8 ⟨⟨b8, rfl, q8⟩, k8⟩
    have KE := Lib.hid (KK.out.trans k8)
    have e78 := tells_one Q7.out q8
    subst e78
    have hb7 : (b7 == b7) = true := beq_self_eq_true _
    clear k8 q8 HH4 Q7
    go_wp2_with fail
    go_ret
    exact ⟨by simp, KE.out⟩
end Go.Proofs.YtobldbodafaajaaGreatDoor

/- KdfBegins. -/
import Derived.Test.YtacgafefefhmeaaLawKdfA
set_option linter.unusedVariables false
set_option linter.unusedSimpArgs false
namespace Go.Proofs.Ytacgafefefhmeaa
open Go.RowKit

set_option maxRecDepth 100000 in
set_option maxHeartbeats 4000000 in
theorem kdfBegins_walk (va vb : Value) (la lb : List UInt8) (n m r : Nat) (w : World) (ha : Rd w va la) (hb : Rd w vb lb) (hn : n ≤ 255) (hm : m ≤ 255) (hr : r ≤ 255) :
    Calls Try.prog 5 #[.agg #[va, vb, .int .u8 n, .int .u8 m, .int .u8 r]] w (Yes w) := by
  obtain ⟨a1, c1, rfl, p1, q1⟩ := ha.shape
  obtain ⟨a2, c2, rfl, p2, q2⟩ := hb.shape
  unfold maxLen at q1 q2
  by_cases h0 : 200 < la.length
  · have q1 : 200 < (la.length : Int) := by omega
    go_enter Try.func5, Try.ntmps5
    go_wp2_with fail
    refine (shownKdf_any _).mono ?_
    rintro e w1 ⟨rfl, k1⟩
    go_wp2_with fail
    go_ret
    exact ⟨rfl, ((Kp.refl w).alloc _).trans k1⟩
  · have q1 : ¬ (200 < (la.length : Int)) := by omega
    by_cases h1 : 200 < lb.length
    · have q2 : 200 < (lb.length : Int) := by omega
      go_enter Try.func5, Try.ntmps5
      go_wp2_with fail
      refine (shownKdf_any _).mono ?_
      rintro e w1 ⟨rfl, k1⟩
      go_wp2_with fail
      go_ret
      exact ⟨rfl, ((Kp.refl w).alloc _).trans k1⟩
    · have q2 : ¬ (200 < (lb.length : Int)) := by omega
      go_enter Try.func5, Try.ntmps5
      go_wp2_with fail
      refine (shownKdf_any _).mono ?_
      rintro e w1 ⟨rfl, k1⟩
      have k1' := ((Kp.refl w).alloc _).trans k1
      go_wp2_with fail
      obtain ⟨I, hI⟩ : ∃ I : Nat, (I : Int) = (n : Int) % 100 := ⟨n % 100, by omega⟩
      obtain ⟨K, hK⟩ : ∃ K : Nat, (K : Int) = (I : Int) + (m : Int) % 100 := ⟨I + m % 100, by omega⟩
      obtain ⟨T, hT⟩ : ∃ T : Nat, (T : Int) = 1 + (r : Int) % 4 := ⟨1 + r % 4, by omega⟩
      simp only [← hI, ← hK, ← hT]
      have bI : (I : Int) ≤ 100 := by omega
      have bK : (K : Int) ≤ 200 := by omega
      have bIK : (I : Int) ≤ (K : Int) := by omega
      have bT1 : 1 ≤ (T : Int) := by omega
      have bT2 : (T : Int) ≤ 4 := by omega
      clear hI hK hT hn hm hr
      have XI := exp_yes la lb (n := I) (by omega)
      have XK := exp_yes la lb (n := K) (by omega)
      have PI := pass_yes la lb (r := T) (n := I) (by omega) (by omega) (by omega)
      have PK := pass_yes la lb (r := T) (n := K) (by omega) (by omega) (by omega)
      have EI := Lib.hid (fun W hA hB => expand_any (.slice a1 la.length c1) (.slice a2 lb.length c2) la lb I W hA hB (by omega) (by omega))
      have EK := Lib.hid (fun W hA hB => expand_any (.slice a1 la.length c1) (.slice a2 lb.length c2) la lb K W hA hB (by omega) (by omega))
      have QI := Lib.hid (fun W hA hB => pass_any (.slice a1 la.length c1) (.slice a2 lb.length c2) la lb T I W hA hB (by omega) (by omega))
      have QK := Lib.hid (fun W hA hB => pass_any (.slice a1 la.length c1) (.slice a2 lb.length c2) la lb T K W hA hB (by omega) (by omega))
      rw [XI.1, XI.2] at EI
      rw [XK.1, XK.2] at EK
      rw [PI.1, PI.2] at QI
      rw [PK.1, PK.2] at QK
      have lI : (expL la lb I).length = I := firstB_length _ (expT_length la lb) I
      have lK : (expL la lb K).length = K := firstB_length _ (expT_length la lb) K
      have mI : (passL la lb T I).length = I := firstB_length _ (passU_length la lb T) I
      have mK : (passL la lb T K).length = K := firstB_length _ (passU_length la lb T) K
      have tE : expL la lb I = (expL la lb K).take I := firstB_take _ (expT_length la lb) I K (by omega)
      have tP : passL la lb T I = (passL la lb T K).take I := firstB_take _ (passU_length la lb T) I K (by omega)
      generalize expL la lb I = eI at *
      generalize expL la lb K = eK at *
      generalize passL la lb T I = pI at *
      generalize passL la lb T K = pK at *
      clear XI XK PI PK
      refine (EI.out _ (ha.kp k1') (hb.kp k1')).mono ?_
      rintro e w2 ⟨⟨v2, rfl, o2⟩, k2⟩
      have K2 := k1'.trans k2
      obtain ⟨a3, c3, rfl, _, _⟩ := o2.rd.shape
      rw [lI]
      go_wp2_with fail
      refine (EK.out _ (ha.kp K2) (hb.kp K2)).mono ?_
      rintro e w3 ⟨⟨v3, rfl, o3⟩, k3⟩
      have K3 := K2.trans k3
      obtain ⟨a4, c4, rfl, q4, q4'⟩ := o3.rd.shape
      unfold maxLen at q4'
      rw [lK] at q4 ⊢
      go_wp2_with fail
      refine (QI.out _ (ha.kp K3) (hb.kp K3)).mono ?_
      rintro e w4 ⟨⟨v4, rfl, o4⟩, k4⟩
      have K4 := K3.trans k4
      obtain ⟨a5, c5, rfl, _, _⟩ := o4.rd.shape
      rw [mI]
      go_wp2_with fail
      refine (QK.out _ (ha.kp K4) (hb.kp K4)).mono ?_
      rintro e w5 ⟨⟨v5, rfl, o5⟩, k5⟩
      have K5 := K4.trans k5
      obtain ⟨a6, c6, rfl, q6, q6'⟩ := o5.rd.shape
      unfold maxLen at q6'
      rw [mK] at q6 ⊢
      have bI4 : (I : Int) ≤ (c4 : Int) := by omega
      have bI6 : (I : Int) ≤ (c6 : Int) := by omega
      have r2 := o2.rd.kp ((k3.trans k4).trans k5)
      have r3 := o3.rd.kp (k4.trans k5)
      have r4 := o4.rd.kp k5
      have r5 := o5.rd
      rw [lI] at r2
      rw [lK] at r3
      rw [mI] at r4
      rw [mK] at r5
      have r3t := r3.takes I (by omega)
      have r5t := r5.takes I (by omega)
      rw [← tE] at r3t
      rw [← tP] at r5t
      clear tE tP lI lK mI mK o2 o3 o4 o5 r3 r5
      go_wp2_with fail
      refine (same_at _ _ _ _ true _ r2 r3t (decide_eq_true rfl)).mono ?_
      rintro e w6 ⟨rfl, rfl⟩
      go_wp2_with fail
      refine (same_at _ _ _ _ true _ r4 r5t (decide_eq_true rfl)).mono ?_
      rintro e w6 ⟨rfl, rfl⟩
      go_wp2_with fail
      go_ret
      exact ⟨rfl, K5⟩
end Go.Proofs.Ytacgafefefhmeaa

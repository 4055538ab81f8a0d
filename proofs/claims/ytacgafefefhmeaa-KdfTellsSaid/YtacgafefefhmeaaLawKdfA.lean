/- KdfTells, KdfPass (written by gen/kdf1.py). -/
import Derived.Test.YtacgafefefhmeaaKdfRef
set_option linter.unusedVariables false
set_option linter.unusedSimpArgs false
namespace Go.Proofs.Ytacgafefefhmeaa
open Go.RowKit

set_option maxRecDepth 100000 in
set_option maxHeartbeats 4000000 in
theorem kdfTells_walk (va vb : Value) (la lb : List UInt8) (s : ByteArray) (n : Int) (w : World) (ha : Rd w va la) (hb : Rd w vb lb) (hn : -9223372036854775808 ≤ n ∧ n ≤ 9223372036854775807) :
    Calls Try.prog 3 #[.agg #[va, vb, .string s, .int .i64 n]] w (Yes w) := by
  obtain ⟨a1, c1, rfl, p1, q1⟩ := ha.shape
  obtain ⟨a2, c2, rfl, p2, q2⟩ := hb.shape
  unfold maxLen at q1 q2
  by_cases h0 : 200 < la.length
  · have q1 : 200 < (la.length : Int) := by omega
    go_enter Try.func3, Try.ntmps3
    go_wp2_with fail
    refine (shownKdf_any _).mono ?_
    rintro e w1 ⟨rfl, k1⟩
    have k1' := ((Kp.refl w).alloc _).trans k1
    go_wp2_with fail
    go_ret
    exact ⟨rfl, k1'⟩
  · by_cases h1 : 200 < lb.length
    · have q1 : ¬ (200 < (la.length : Int)) := by omega
      have q2 : 200 < (lb.length : Int) := by omega
      go_enter Try.func3, Try.ntmps3
      go_wp2_with fail
      refine (shownKdf_any _).mono ?_
      rintro e w1 ⟨rfl, k1⟩
      have k1' := ((Kp.refl w).alloc _).trans k1
      go_wp2_with fail
      go_ret
      exact ⟨rfl, k1'⟩
    · by_cases h2 : 100 < s.size
      · have q1 : ¬ (200 < (la.length : Int)) := by omega
        have q2 : ¬ (200 < (lb.length : Int)) := by omega
        have q3 : 100 < (s.size : Int) := by omega
        go_enter Try.func3, Try.ntmps3
        go_wp2_with fail
        refine (shownKdf_any _).mono ?_
        rintro e w1 ⟨rfl, k1⟩
        have k1' := ((Kp.refl w).alloc _).trans k1
        go_wp2_with fail
        go_ret
        exact ⟨rfl, k1'⟩
      · by_cases h3 : 400 < n ∧ n ≤ 8160
        · have q1 : ¬ (200 < (la.length : Int)) := by omega
          have q2 : ¬ (200 < (lb.length : Int)) := by omega
          have q3 : ¬ (100 < (s.size : Int)) := by omega
          have q4 : 400 < n := h3.1
          have q5 : n ≤ 8160 := h3.2
          go_enter Try.func3, Try.ntmps3
          go_wp2_with fail
          refine (shownKdf_any _).mono ?_
          rintro e w1 ⟨rfl, k1⟩
          have k1' := ((Kp.refl w).alloc _).trans k1
          go_wp2_with fail
          go_ret
          exact ⟨rfl, k1'⟩
        · by_cases h4 : 400 < n
          · have q1 : ¬ (200 < (la.length : Int)) := by omega
            have q2 : ¬ (200 < (lb.length : Int)) := by omega
            have q3 : ¬ (100 < (s.size : Int)) := by omega
            have q4 : ¬ n ≤ 8160 := by omega
            go_enter Try.func3, Try.ntmps3
            go_wp2_with fail
            refine (shownKdf_any _).mono ?_
            rintro e w1 ⟨rfl, k1⟩
            have k1' := ((Kp.refl w).alloc _).trans k1
            go_wp2_with fail
            have HX := Lib.hid (exp_no la lb (n := n))
            refine (expand_any _ _ la lb n _ (ha.kp k1') (hb.kp k1') (by omega) (by omega)).mono ?_
            rintro e w2 ⟨⟨v2, rfl, o2⟩, k2⟩
            have K2 := k1'.trans k2
            go_wp2_with fail
            refine (refExpand_any _ _ la lb n _ (ha.kp K2) (hb.kp K2) (by omega) (by omega)).mono ?_
            rintro e w3 ⟨⟨v3, rfl, o3⟩, k3⟩
            have K3 := K2.trans k3
            go_wp2_with fail
            refine (label_any _ s _ la lb n _ (ha.kp K3) (hb.kp K3) (by omega) (by omega) (by omega) hn).mono ?_
            rintro e w4 ⟨⟨v4, rfl, o4⟩, k4⟩
            have K4 := K3.trans k4
            go_wp2_with fail
            refine (refLabel_any _ s _ la lb n _ (ha.kp K4) (hb.kp K4) (by omega) (by omega) (by omega)).mono ?_
            rintro e w5 ⟨⟨v5, rfl, o5⟩, k5⟩
            have K5 := K4.trans k5
            go_wp2_with fail
            refine (derive_any _ s la _ (ha.kp K5) (by omega) (by omega)).mono ?_
            rintro e w6 ⟨⟨v6, rfl, o6⟩, k6⟩
            have K6 := K5.trans k6
            go_wp2_with fail
            refine (refDerive_any _ s la _ (ha.kp K6) (by omega) (by omega)).mono ?_
            rintro e w7 ⟨⟨v7, rfl, o7⟩, k7⟩
            have K7 := K6.trans k7
            go_wp2_with fail
            refine (extract_any _ _ lb la _ (hb.kp K7) (ha.kp K7) (by omega) (by omega)).mono ?_
            rintro e w8 ⟨⟨v8, rfl, o8⟩, k8⟩
            have K8 := K7.trans k8
            go_wp2_with fail
            refine (refExtract_any _ _ lb la _ (hb.kp K8) (ha.kp K8) (by omega) (by omega)).mono ?_
            rintro e w9 ⟨⟨v9, rfl, o9⟩, k9⟩
            have K9 := K8.trans k9
            have K39 := ((((k4.trans k5).trans k6).trans k7).trans k8).trans k9
            have K59 := (((k6.trans k7).trans k8).trans k9)
            have K79 := k8.trans k9
            go_wp2_with fail
            refine (same_at _ _ _ _ true _ (o8.rd.kp k9) o9.rd (decide_eq_true rfl)).mono ?_
            rintro e w10 ⟨rfl, rfl⟩
            go_wp2_with fail
            refine (same_at _ _ _ _ true _ (o2.rd.kp (k3.trans K39)) (o3.kp K39) (decide_eq_true rfl)).mono ?_
            rintro e w10 ⟨rfl, rfl⟩
            go_wp2_with fail
            refine (same_at _ _ _ _ true _ (o4.rd.kp (k5.trans K59)) (o5.kp K59) (decide_eq_true rfl)).mono ?_
            rintro e w10 ⟨rfl, rfl⟩
            go_wp2_with fail
            refine (same_at _ _ _ _ true _ (o6.rd.kp (k7.trans K79)) (o7.kp K79) (decide_eq_true rfl)).mono ?_
            rintro e w10 ⟨rfl, rfl⟩
            go_wp2_with fail
            go_ret
            exact ⟨rfl, K9⟩
          · have q1 : ¬ (200 < (la.length : Int)) := by omega
            have q2 : ¬ (200 < (lb.length : Int)) := by omega
            have q3 : ¬ (100 < (s.size : Int)) := by omega
            go_enter Try.func3, Try.ntmps3
            go_wp2_with fail
            refine (shownKdf_any _).mono ?_
            rintro e w1 ⟨rfl, k1⟩
            have k1' := ((Kp.refl w).alloc _).trans k1
            go_wp2_with fail
            have HX := Lib.hid (exp_no la lb (n := n))
            refine (expand_any _ _ la lb n _ (ha.kp k1') (hb.kp k1') (by omega) (by omega)).mono ?_
            rintro e w2 ⟨⟨v2, rfl, o2⟩, k2⟩
            have K2 := k1'.trans k2
            go_wp2_with fail
            refine (refExpand_any _ _ la lb n _ (ha.kp K2) (hb.kp K2) (by omega) (by omega)).mono ?_
            rintro e w3 ⟨⟨v3, rfl, o3⟩, k3⟩
            have K3 := K2.trans k3
            go_wp2_with fail
            refine (label_any _ s _ la lb n _ (ha.kp K3) (hb.kp K3) (by omega) (by omega) (by omega) hn).mono ?_
            rintro e w4 ⟨⟨v4, rfl, o4⟩, k4⟩
            have K4 := K3.trans k4
            go_wp2_with fail
            refine (refLabel_any _ s _ la lb n _ (ha.kp K4) (hb.kp K4) (by omega) (by omega) (by omega)).mono ?_
            rintro e w5 ⟨⟨v5, rfl, o5⟩, k5⟩
            have K5 := K4.trans k5
            go_wp2_with fail
            refine (derive_any _ s la _ (ha.kp K5) (by omega) (by omega)).mono ?_
            rintro e w6 ⟨⟨v6, rfl, o6⟩, k6⟩
            have K6 := K5.trans k6
            go_wp2_with fail
            refine (refDerive_any _ s la _ (ha.kp K6) (by omega) (by omega)).mono ?_
            rintro e w7 ⟨⟨v7, rfl, o7⟩, k7⟩
            have K7 := K6.trans k7
            go_wp2_with fail
            refine (extract_any _ _ lb la _ (hb.kp K7) (ha.kp K7) (by omega) (by omega)).mono ?_
            rintro e w8 ⟨⟨v8, rfl, o8⟩, k8⟩
            have K8 := K7.trans k8
            go_wp2_with fail
            refine (refExtract_any _ _ lb la _ (hb.kp K8) (ha.kp K8) (by omega) (by omega)).mono ?_
            rintro e w9 ⟨⟨v9, rfl, o9⟩, k9⟩
            have K9 := K8.trans k9
            have K39 := ((((k4.trans k5).trans k6).trans k7).trans k8).trans k9
            have K59 := (((k6.trans k7).trans k8).trans k9)
            have K79 := k8.trans k9
            go_wp2_with fail
            refine (same_at _ _ _ _ true _ (o8.rd.kp k9) o9.rd (decide_eq_true rfl)).mono ?_
            rintro e w10 ⟨rfl, rfl⟩
            go_wp2_with fail
            refine (same_at _ _ _ _ true _ (o2.rd.kp (k3.trans K39)) (o3.kp K39) (decide_eq_true rfl)).mono ?_
            rintro e w10 ⟨rfl, rfl⟩
            go_wp2_with fail
            refine (same_at _ _ _ _ true _ (o4.rd.kp (k5.trans K59)) (o5.kp K59) (decide_eq_true rfl)).mono ?_
            rintro e w10 ⟨rfl, rfl⟩
            go_wp2_with fail
            refine (same_at _ _ _ _ true _ (o6.rd.kp (k7.trans K79)) (o7.kp K79) (decide_eq_true rfl)).mono ?_
            rintro e w10 ⟨rfl, rfl⟩
            go_wp2_with fail
            go_ret
            exact ⟨rfl, K9⟩

set_option maxRecDepth 100000 in
set_option maxHeartbeats 4000000 in
theorem kdfPass_walk (va vb : Value) (la lb : List UInt8) (r n : Int) (w : World) (ha : Rd w va la) (hb : Rd w vb lb) :
    Calls Try.prog 4 #[.agg #[va, vb, .int .i64 r, .int .i64 n]] w (Yes w) := by
  obtain ⟨a1, c1, rfl, p1, q1⟩ := ha.shape
  obtain ⟨a2, c2, rfl, p2, q2⟩ := hb.shape
  unfold maxLen at q1 q2
  by_cases h0 : 200 < la.length
  · have q1 : 200 < (la.length : Int) := by omega
    go_enter Try.func4, Try.ntmps4
    go_wp2_with fail
    refine (shownKdf_any _).mono ?_
    rintro e w1 ⟨rfl, k1⟩
    have k1' := ((Kp.refl w).alloc _).trans k1
    go_wp2_with fail
    go_ret
    exact ⟨rfl, k1'⟩
  · by_cases h1 : 200 < lb.length
    · have q1 : ¬ (200 < (la.length : Int)) := by omega
      have q2 : 200 < (lb.length : Int) := by omega
      go_enter Try.func4, Try.ntmps4
      go_wp2_with fail
      refine (shownKdf_any _).mono ?_
      rintro e w1 ⟨rfl, k1⟩
      have k1' := ((Kp.refl w).alloc _).trans k1
      go_wp2_with fail
      go_ret
      exact ⟨rfl, k1'⟩
    · by_cases h2 : 6 < r ∧ r ≤ 1048576
      · have q1 : ¬ (200 < (la.length : Int)) := by omega
        have q2 : ¬ (200 < (lb.length : Int)) := by omega
        have q3 : 6 < r := h2.1
        have q4 : r ≤ 1048576 := h2.2
        go_enter Try.func4, Try.ntmps4
        go_wp2_with fail
        refine (shownKdf_any _).mono ?_
        rintro e w1 ⟨rfl, k1⟩
        have k1' := ((Kp.refl w).alloc _).trans k1
        go_wp2_with fail
        go_ret
        exact ⟨rfl, k1'⟩
      · by_cases h3 : 6 < r
        · by_cases h4 : 100 < n ∧ n ≤ 1024
          · have q1 : ¬ (200 < (la.length : Int)) := by omega
            have q2 : ¬ (200 < (lb.length : Int)) := by omega
            have q4 : ¬ r ≤ 1048576 := by omega
            have q5 : 100 < n := h4.1
            have q6 : n ≤ 1024 := h4.2
            go_enter Try.func4, Try.ntmps4
            go_wp2_with fail
            refine (shownKdf_any _).mono ?_
            rintro e w1 ⟨rfl, k1⟩
            have k1' := ((Kp.refl w).alloc _).trans k1
            go_wp2_with fail
            go_ret
            exact ⟨rfl, k1'⟩
          · by_cases h5 : 100 < n
            · have q1 : ¬ (200 < (la.length : Int)) := by omega
              have q2 : ¬ (200 < (lb.length : Int)) := by omega
              have q4 : ¬ r ≤ 1048576 := by omega
              have q6 : ¬ n ≤ 1024 := by omega
              go_enter Try.func4, Try.ntmps4
              go_wp2_with fail
              refine (shownKdf_any _).mono ?_
              rintro e w1 ⟨rfl, k1⟩
              have k1' := ((Kp.refl w).alloc _).trans k1
              go_wp2_with fail
              refine (pass_any _ _ la lb r n _ (ha.kp k1') (hb.kp k1') (by omega) (by omega)).mono ?_
              rintro e w2 ⟨⟨v2, rfl, o2⟩, k2⟩
              have K2 := k1'.trans k2
              go_wp2_with fail
              refine (refPass_any _ _ la lb r n _ (ha.kp K2) (hb.kp K2) (by omega) (by omega)).mono ?_
              rintro e w3 ⟨⟨v3, rfl, o3⟩, k3⟩
              have K3 := K2.trans k3
              go_wp2_with fail
              refine (same_at _ _ _ _ true _ (o2.rd.kp k3) o3 (decide_eq_true rfl)).mono ?_
              rintro e w4 ⟨rfl, rfl⟩
              go_wp2_with fail
              go_ret
              exact ⟨rfl, K3⟩
            · have q1 : ¬ (200 < (la.length : Int)) := by omega
              have q2 : ¬ (200 < (lb.length : Int)) := by omega
              have q4 : ¬ r ≤ 1048576 := by omega
              go_enter Try.func4, Try.ntmps4
              go_wp2_with fail
              refine (shownKdf_any _).mono ?_
              rintro e w1 ⟨rfl, k1⟩
              have k1' := ((Kp.refl w).alloc _).trans k1
              go_wp2_with fail
              refine (pass_any _ _ la lb r n _ (ha.kp k1') (hb.kp k1') (by omega) (by omega)).mono ?_
              rintro e w2 ⟨⟨v2, rfl, o2⟩, k2⟩
              have K2 := k1'.trans k2
              go_wp2_with fail
              refine (refPass_any _ _ la lb r n _ (ha.kp K2) (hb.kp K2) (by omega) (by omega)).mono ?_
              rintro e w3 ⟨⟨v3, rfl, o3⟩, k3⟩
              have K3 := K2.trans k3
              go_wp2_with fail
              refine (same_at _ _ _ _ true _ (o2.rd.kp k3) o3 (decide_eq_true rfl)).mono ?_
              rintro e w4 ⟨rfl, rfl⟩
              go_wp2_with fail
              go_ret
              exact ⟨rfl, K3⟩
        · by_cases h4 : 100 < n ∧ n ≤ 1024
          · have q1 : ¬ (200 < (la.length : Int)) := by omega
            have q2 : ¬ (200 < (lb.length : Int)) := by omega
            have q5 : 100 < n := h4.1
            have q6 : n ≤ 1024 := h4.2
            go_enter Try.func4, Try.ntmps4
            go_wp2_with fail
            refine (shownKdf_any _).mono ?_
            rintro e w1 ⟨rfl, k1⟩
            have k1' := ((Kp.refl w).alloc _).trans k1
            go_wp2_with fail
            go_ret
            exact ⟨rfl, k1'⟩
          · by_cases h5 : 100 < n
            · have q1 : ¬ (200 < (la.length : Int)) := by omega
              have q2 : ¬ (200 < (lb.length : Int)) := by omega
              have q6 : ¬ n ≤ 1024 := by omega
              go_enter Try.func4, Try.ntmps4
              go_wp2_with fail
              refine (shownKdf_any _).mono ?_
              rintro e w1 ⟨rfl, k1⟩
              have k1' := ((Kp.refl w).alloc _).trans k1
              go_wp2_with fail
              refine (pass_any _ _ la lb r n _ (ha.kp k1') (hb.kp k1') (by omega) (by omega)).mono ?_
              rintro e w2 ⟨⟨v2, rfl, o2⟩, k2⟩
              have K2 := k1'.trans k2
              go_wp2_with fail
              refine (refPass_any _ _ la lb r n _ (ha.kp K2) (hb.kp K2) (by omega) (by omega)).mono ?_
              rintro e w3 ⟨⟨v3, rfl, o3⟩, k3⟩
              have K3 := K2.trans k3
              go_wp2_with fail
              refine (same_at _ _ _ _ true _ (o2.rd.kp k3) o3 (decide_eq_true rfl)).mono ?_
              rintro e w4 ⟨rfl, rfl⟩
              go_wp2_with fail
              go_ret
              exact ⟨rfl, K3⟩
            · have q1 : ¬ (200 < (la.length : Int)) := by omega
              have q2 : ¬ (200 < (lb.length : Int)) := by omega
              go_enter Try.func4, Try.ntmps4
              go_wp2_with fail
              refine (shownKdf_any _).mono ?_
              rintro e w1 ⟨rfl, k1⟩
              have k1' := ((Kp.refl w).alloc _).trans k1
              go_wp2_with fail
              refine (pass_any _ _ la lb r n _ (ha.kp k1') (hb.kp k1') (by omega) (by omega)).mono ?_
              rintro e w2 ⟨⟨v2, rfl, o2⟩, k2⟩
              have K2 := k1'.trans k2
              go_wp2_with fail
              refine (refPass_any _ _ la lb r n _ (ha.kp K2) (hb.kp K2) (by omega) (by omega)).mono ?_
              rintro e w3 ⟨⟨v3, rfl, o3⟩, k3⟩
              have K3 := K2.trans k3
              go_wp2_with fail
              refine (same_at _ _ _ _ true _ (o2.rd.kp k3) o3 (decide_eq_true rfl)).mono ?_
              rintro e w4 ⟨rfl, rfl⟩
              go_wp2_with fail
              go_ret
              exact ⟨rfl, K3⟩
end Go.Proofs.Ytacgafefefhmeaa

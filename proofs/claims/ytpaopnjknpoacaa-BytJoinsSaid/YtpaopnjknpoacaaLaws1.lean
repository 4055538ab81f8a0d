/- The walks of the laws BytNums, BytRows. -/
import Derived.Test.YtpaopnjknpoacaaShown
namespace Go.Proofs.Ytpaopnjknpoacaa
open Go.RowKit

/-- What a law's walk ends in. -/
def Yes (w : World) (e : Ending) (w' : World) : Prop := e = .returned (.bool true) ∧ Kp w w'

set_option maxRecDepth 100000 in
set_option maxHeartbeats 1600000 in
theorem bytNums_walk (n k at' : Int) (v : Value) (l : List UInt8) (w : World) (hn : -9223372036854775808 ≤ n ∧ n ≤ 9223372036854775807) (h : Rd w v l) :
    Calls Try.prog 3 #[.agg #[.int .i64 n, .int .i64 k, v, .int .i64 at']] w (Yes w) := by
  obtain ⟨a, c, rfl, hc, hm⟩ := h.shape
  unfold maxLen at hm
  by_cases h500 : l.length ≤ 500
  · go_enter Try.func3, Try.ntmps3
    go_wp2_with fail
    refine (shown_any _).mono ?_
    rintro e w1 ⟨rfl, k1⟩
    have k1' := ((Kp.refl w).alloc _).trans k1
    go_wp2_with fail
    refine (num_any n k _ hn).mono ?_
    rintro e w2 ⟨p, rfl, o2, k2⟩
    go_wp2_with fail
    refine (refNum_any n k _ hn).mono ?_
    rintro e w3 ⟨q, rfl, o3, k3⟩
    have a3 := (k1'.trans k2).trans k3
    go_wp2_with fail
    refine (takeNum_any _ l at' k _ (h.kp a3)).mono ?_
    rintro e w4 ⟨rfl, rfl⟩
    go_wp2_with fail
    refine (refTakeNum_any _ l at' k _ (h.kp a3)).mono ?_
    rintro e w5 ⟨rfl, rfl⟩
    go_wp2_with fail
    refine (same_at _ _ (numB n k) (numB n k) true _ (o2.rd.kp k3) o3.rd (by simp)).mono ?_
    rintro e w6 ⟨rfl, rfl⟩
    go_wp2_with fail
    refine (len_any n _).mono ?_
    rintro e w7 ⟨c', rfl, o7, k7⟩
    go_wp2_with fail
    refine (refLen_any n _).mono ?_
    rintro e w8 ⟨d, rfl, o8, k8⟩
    have a8 := (a3.trans k7).trans k8
    go_wp2_with fail
    refine (takeLen_any _ l at' _ (h.kp a8)).mono ?_
    rintro e w9 ⟨rfl, k9⟩
    go_wp2_with fail
    refine (refTakeLen_any _ l at' _ (h.kp (a8.trans k9))).mono ?_
    rintro e w10 ⟨rfl, k10⟩
    go_wp2_with fail
    refine (same_at _ _ (lenB n) (lenB n) true _ (o7.rd.kp ((k8.trans k9).trans k10)) (o8.rd.kp (k9.trans k10)) (by simp)).mono ?_
    rintro e w11 ⟨rfl, rfl⟩
    go_wp2_with fail
    go_ret
    exact ⟨rfl, (a8.trans k9).trans k10⟩
  · go_enter Try.func3, Try.ntmps3
    go_wp2_with fail
    refine (shown_any _).mono ?_
    rintro e w1 ⟨rfl, k1⟩
    have k1' := ((Kp.refl w).alloc _).trans k1
    go_wp2_with fail
    go_ret
    exact ⟨rfl, k1'⟩

set_option maxRecDepth 100000 in
set_option maxHeartbeats 1600000 in
theorem bytRows_walk (at' most : Int) (is : Bool) (v : Value) (l : List UInt8) (s : ByteArray) (w : World) (h : Rd w v l) :
    Calls Try.prog 4 #[.agg #[v, .int .i64 at', .int .i64 most, .bool is, .string s]] w (Yes w) := by
  obtain ⟨a, c, rfl, hc, hm⟩ := h.shape
  unfold maxLen at hm
  by_cases h500 : l.length ≤ 500 ∧ s.size ≤ 300
  · obtain ⟨h5, h3⟩ := h500
    have d1 : decide ((500 : Int) < l.length) = false := by simp; omega
    have d2 : decide ((300 : Int) < s.size) = false := by simp; omega
    go_enter Try.func4, Try.ntmps4
    go_wp2_with fail
    refine (shown_any _).mono ?_
    rintro e w1 ⟨rfl, k1⟩
    have a1 := ((Kp.refl w).alloc _).trans k1
    go_wp2_with fail
    refine (row_any _ l _ (h.kp a1)).mono ?_
    rintro e w2 ⟨p, rfl, o2, k2⟩
    have a2 := a1.trans k2
    go_wp2_with fail
    refine (refRow_any _ l _ (h.kp a2)).mono ?_
    rintro e w3 ⟨q, rfl, o3, k3⟩
    have a3 := a2.trans k3
    go_wp2_with fail
    refine (takeRow_any _ l at' most _ (h.kp a3)).mono ?_
    rintro e w4 ⟨x, rfl, o4, k4⟩
    have a4 := a3.trans k4
    go_wp2_with fail
    refine (refTakeRow_any _ l at' most _ (h.kp a4)).mono ?_
    rintro e w5 ⟨y, rfl, o5, k5⟩
    have a5 := a4.trans k5
    go_wp2_with fail
    refine (same_at _ _ (rowB l) (rowB l) true _ (o2.rd.kp ((k3.trans k4).trans k5)) (o3.rd.kp (k4.trans k5)) (by simp)).mono ?_
    rintro e w6 ⟨rfl, rfl⟩
    go_wp2_with fail
    refine (same_at _ _ (trB l at' most) (trB l at' most) true _ (o4.rd.kp k5) o5.rd (by simp)).mono ?_
    rintro e w6 ⟨rfl, rfl⟩
    go_wp2_with fail
    refine (takeOpt_any _ l at' _ (h.kp a5)).mono ?_
    rintro e w6 ⟨rfl, rfl⟩
    go_wp2_with fail
    refine (refTakeOpt_any _ l at' _ (h.kp a5)).mono ?_
    rintro e w6 ⟨rfl, rfl⟩
    go_wp2_with fail
    refine (bytes_any _ _ (by omega)).mono ?_
    rintro e w6 ⟨c', rfl, o6, k6⟩
    go_wp2_with fail
    refine (refBytes_any _ _ (by omega)).mono ?_
    rintro e w7 ⟨d, rfl, o7, k7⟩
    have a7 := (a5.trans k6).trans k7
    go_wp2_with fail
    refine (opt_any is _ l _ (h.kp a7) (by omega)).mono ?_
    rintro e w8 ⟨o, rfl, o8, k8⟩
    have a8 := a7.trans k8
    go_wp2_with fail
    refine (refOpt_any is _ l _ (h.kp a8) (by omega)).mono ?_
    rintro e w9 ⟨o', rfl, o9, k9⟩
    have a9 := a8.trans k9
    go_wp2_with fail
    refine (same_at _ _ (optB is l) (optB is l) true _ (o8.rd.kp k9) o9.rd (by simp)).mono ?_
    rintro e w10 ⟨rfl, rfl⟩
    go_wp2_with fail
    refine (text_any _ l _ (h.kp a9) (by omega)).mono ?_
    rintro e w11 ⟨rfl, k11⟩
    have a11 := a9.trans k11
    go_wp2_with fail
    refine (refText_any _ l _ (h.kp a11) (by omega)).mono ?_
    rintro e w12 ⟨rfl, k12⟩
    have a12 := a11.trans k12
    go_wp2_with fail
    refine (same_at _ _ (byB s.data.toList) (byB s.data.toList) true _ (o6.rd.kp ((((k7.trans k8).trans k9).trans k11).trans k12)) (o7.rd.kp (((k8.trans k9).trans k11).trans k12)) (by simp)).mono ?_
    rintro e w13 ⟨rfl, rfl⟩
    go_wp2_with fail
    go_ret
    exact ⟨rfl, a12⟩
  · by_cases h5 : l.length ≤ 500
    · have d1 : decide ((500 : Int) < l.length) = false := by simp; omega
      have d2 : decide ((300 : Int) < s.size) = true := by simp; omega
      clear h500
      go_enter Try.func4, Try.ntmps4
      go_wp2_with fail
      refine (shown_any _).mono ?_
      rintro e w1 ⟨rfl, k1⟩
      have k1' := ((Kp.refl w).alloc _).trans k1
      go_wp2_with fail
      go_ret
      exact ⟨rfl, k1'⟩
    · have d1 : decide ((500 : Int) < l.length) = true := by simp; omega
      clear h500
      go_enter Try.func4, Try.ntmps4
      go_wp2_with fail
      refine (shown_any _).mono ?_
      rintro e w1 ⟨rfl, k1⟩
      have k1' := ((Kp.refl w).alloc _).trans k1
      go_wp2_with fail
      go_ret
      exact ⟨rfl, k1'⟩
end Go.Proofs.Ytpaopnjknpoacaa

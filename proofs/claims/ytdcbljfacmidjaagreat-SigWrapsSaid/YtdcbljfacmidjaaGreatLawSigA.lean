/- SigTells, SigWraps (written by gen/sig1.py). -/
import Derived.Test.YtdcbljfacmidjaaGreatSigOwn
import Derived.Test.YtdcbljfacmidjaaGreatShownSig
import Derived.Test.YtdcbljfacmidjaaGreatRefSig2
set_option linter.unusedVariables false
set_option linter.unusedSimpArgs false
namespace Go.Proofs.YtdcbljfacmidjaaGreat
open Go.RowKit

theorem pubE_01 (s : List UInt8) : pubE s = 0 ∨ pubE s = 1 := by unfold pubE; split <;> simp
theorem verE_in (p l b s : List UInt8) : verE p l b s = 0 ∨ verE p l b s = 5 ∨ verE p l b s = 1 := by
  unfold verE
  split
  · split <;> simp
  · simp
theorem wrapE_01 (p o : List UInt8) : wrapE p o = 0 ∨ wrapE p o = 1 := by unfold wrapE; split <;> simp
theorem openE_in7 (key nonce aad b : List UInt8) : openE key nonce aad b = 0 ∨ openE key nonce aad b = 1 ∨ openE key nonce aad b = 3 ∨ openE key nonce aad b = 5 := by
  unfold openE
  split
  · split
    · simp
    · split <;> simp
  · simp
theorem unE_in (s h i b : List UInt8) : unE s h i b = 0 ∨ unE s h i b = 1 ∨ unE s h i b = 3 ∨ unE s h i b = 5 := by
  unfold unE
  split
  · exact openE_in7 _ _ _ _
  · simp
theorem same_yes7 (u v : Value) (l : List UInt8) (w : World) (h : Rd w u l) (h' : Rd w v l) : Calls Tryz.prog 9 #[u, v] w fun e w' => e = .returned (.bool true) ∧ w = w' := by
  have := same_any u v l l w h h'
  rwa [decide_eq_true rfl] at this

set_option maxRecDepth 100000 in
set_option maxHeartbeats 8000000 in
theorem sigWraps_walk (va vb vc vd : Value) (la lb lc ld : List UInt8) (w : World) (ha : Rd w va la) (hb : Rd w vb lb) (hc : Rd w vc lc) (hd : Rd w vd ld) :
    Calls Tryz.prog 3 #[.agg #[va, vb, vc, vd]] w (Yes w) := by
  obtain ⟨a1, c1, rfl, p1, s1⟩ := ha.shape
  obtain ⟨a2, c2, rfl, p2, s2⟩ := hb.shape
  obtain ⟨a3, c3, rfl, p3, s3⟩ := hc.shape
  obtain ⟨a4, c4, rfl, p4, s4⟩ := hd.shape
  by_cases h0 : la.length ≤ 40
  rotate_left
  · have q1 : 40 < (la.length : Int) := by omega
    go_enter Tryz.func3, Tryz.ntmps3
    go_wp2_with fail
    refine (shownSig_any _).mono ?_
    rintro e w1 ⟨rfl, k1⟩
    have k1 := ((Kp.refl w).alloc _).trans k1
    go_wp2_with fail
    go_ret
    exact ⟨rfl, k1⟩
  by_cases h1 : lb.length ≤ 40
  rotate_left
  · have q1 : 40 < (lb.length : Int) := by omega
    have r0 : ¬ 40 < (la.length : Int) := by omega
    go_enter Tryz.func3, Tryz.ntmps3
    go_wp2_with fail
    refine (shownSig_any _).mono ?_
    rintro e w1 ⟨rfl, k1⟩
    have k1 := ((Kp.refl w).alloc _).trans k1
    go_wp2_with fail
    go_ret
    exact ⟨rfl, k1⟩
  by_cases h2 : lc.length ≤ 100
  rotate_left
  · have q1 : 100 < (lc.length : Int) := by omega
    have r0 : ¬ 40 < (la.length : Int) := by omega
    have r1 : ¬ 40 < (lb.length : Int) := by omega
    go_enter Tryz.func3, Tryz.ntmps3
    go_wp2_with fail
    refine (shownSig_any _).mono ?_
    rintro e w1 ⟨rfl, k1⟩
    have k1 := ((Kp.refl w).alloc _).trans k1
    go_wp2_with fail
    go_ret
    exact ⟨rfl, k1⟩
  by_cases h3 : ld.length ≤ 200
  rotate_left
  · have q1 : 200 < (ld.length : Int) := by omega
    have r0 : ¬ 40 < (la.length : Int) := by omega
    have r1 : ¬ 40 < (lb.length : Int) := by omega
    have r2 : ¬ 100 < (lc.length : Int) := by omega
    go_enter Tryz.func3, Tryz.ntmps3
    go_wp2_with fail
    refine (shownSig_any _).mono ?_
    rintro e w1 ⟨rfl, k1⟩
    have k1 := ((Kp.refl w).alloc _).trans k1
    go_wp2_with fail
    go_ret
    exact ⟨rfl, k1⟩
  have r0 : ¬ 40 < (la.length : Int) := by omega
  have r1 : ¬ 40 < (lb.length : Int) := by omega
  have r2 : ¬ 100 < (lc.length : Int) := by omega
  have r3 : ¬ 200 < (ld.length : Int) := by omega
  have H1 : Hid (∀ W, Kp w W → Calls Tryz.prog 5 #[.slice a1 la.length c1, .slice a2 lb.length c2, .slice a3 lc.length c3, .slice a4 ld.length c4] W fun e w' => (∃ x y, e = .returned (.tuple #[x, y, .int .i64 (wrapE la lb)]) ∧ Rd w' x (wrapH la lb) ∧ Rd w' y (wrapR la lb lc ld)) ∧ Kp W w') := fun W hW => sigWrap_any _ _ _ _ la lb lc ld W (ha.kp hW) (hb.kp hW) (hc.kp hW) (hd.kp hW) (by omega) (by omega)
  have H2 : Hid (∀ W, Kp w W → Calls Tryz.prog 6 #[.slice a1 la.length c1, .slice a2 lb.length c2, .slice a3 lc.length c3, .slice a4 ld.length c4] W fun e w' => (∃ x y, e = .returned (.tuple #[x, y, .int .i64 (wrapE la lb)]) ∧ Rd w' x (wrapH la lb) ∧ Rd w' y (wrapR la lb lc ld)) ∧ Kp W w') := fun W hW => refWrap_any _ _ _ _ la lb lc ld W (ha.kp hW) (hb.kp hW) (hc.kp hW) (hd.kp hW) (by omega) (by omega)
  have H3 : Hid (∀ W, Kp w W → Calls Tryz.prog 7 #[.slice a1 la.length c1, .slice a2 lb.length c2, .slice a3 lc.length c3, .slice a4 ld.length c4] W fun e w' => (∃ x, e = .returned (.tuple #[x, .int .i64 (unE la lb lc ld)]) ∧ Rd w' x (unR la lb lc ld)) ∧ Kp W w') := fun W hW => sigUnwrap_any _ _ _ _ la lb lc ld W (ha.kp hW) (hb.kp hW) (hc.kp hW) (hd.kp hW) (by omega) (by omega)
  have H4 : Hid (∀ W, Kp w W → Calls Tryz.prog 8 #[.slice a1 la.length c1, .slice a2 lb.length c2, .slice a3 lc.length c3, .slice a4 ld.length c4] W fun e w' => (∃ x, e = .returned (.tuple #[x, .int .i64 (unE la lb lc ld)]) ∧ Rd w' x (unR la lb lc ld)) ∧ Kp W w') := fun W hW => refUnwrap_any _ _ _ _ la lb lc ld W (ha.kp hW) (hb.kp hW) (hc.kp hW) (hd.kp hW) (by omega) (by omega)
  have i1 : IntKind.i64.wrap (wrapE la lb) = wrapE la lb := by rcases wrapE_01 la lb with h | h <;> rw [h] <;> rfl
  have i2 : IntKind.i64.wrap (unE la lb lc ld) = unE la lb lc ld := by rcases unE_in la lb lc ld with h | h | h | h <;> rw [h] <;> rfl
  generalize wrapE la lb = E1 at *
  generalize unE la lb lc ld = E2 at *
  generalize wrapH la lb = R1 at *
  generalize wrapR la lb lc ld = R2 at *
  generalize unR la lb lc ld = R3 at *
  clear ha hb hc hd h0 h1 h2 h3
  go_enter Tryz.func3, Tryz.ntmps3
  go_wp2_with fail
  refine (shownSig_any _).mono ?_
  rintro e w1 ⟨rfl, k1⟩
  have k1 := ((Kp.refl w).alloc _).trans k1
  have K1 := Lib.hid k1
  clear k1
  go_wp2_with fail
  refine (H1.out _ K1.out).mono ?_
  rintro _ w2 ⟨⟨x1, x2, rfl, s1, s2⟩, k2⟩
  have X1 := Lib.hid s1
  have X2 := Lib.hid s2
  have K2 := Lib.hid (K1.out.trans k2)
  clear k2 s1 s2
  go_wp2_with fail
  refine (H2.out _ K2.out).mono ?_
  rintro _ w3 ⟨⟨y1, y2, rfl, s1, s2⟩, k3⟩
  have X1 := Lib.hid (X1.out.kp k3)
  have X2 := Lib.hid (X2.out.kp k3)
  have Y1 := Lib.hid s1
  have Y2 := Lib.hid s2
  have K3 := Lib.hid (K2.out.trans k3)
  clear k3 s1 s2
  go_wp2_with fail
  refine (H3.out _ K3.out).mono ?_
  rintro _ w4 ⟨⟨x3, rfl, s1⟩, k4⟩
  have X1 := Lib.hid (X1.out.kp k4)
  have X2 := Lib.hid (X2.out.kp k4)
  have Y1 := Lib.hid (Y1.out.kp k4)
  have Y2 := Lib.hid (Y2.out.kp k4)
  have X3 := Lib.hid s1
  have K4 := Lib.hid (K3.out.trans k4)
  clear k4 s1
  go_wp2_with fail
  refine (H4.out _ K4.out).mono ?_
  rintro _ w5 ⟨⟨y3, rfl, s1⟩, k5⟩
  have X1 := Lib.hid (X1.out.kp k5)
  have X2 := Lib.hid (X2.out.kp k5)
  have Y1 := Lib.hid (Y1.out.kp k5)
  have Y2 := Lib.hid (Y2.out.kp k5)
  have X3 := Lib.hid (X3.out.kp k5)
  have Y3 := Lib.hid s1
  have K5 := Lib.hid (K4.out.trans k5)
  clear k5 s1
  go_wp2_with fail
  refine (same_yes7 _ _ _ w5 X1.out Y1.out).mono ?_
  rintro _ _ ⟨rfl, rfl⟩
  go_wp2_with fail
  refine (same_yes7 _ _ _ w5 X2.out Y2.out).mono ?_
  rintro _ _ ⟨rfl, rfl⟩
  go_wp2_with fail
  refine (same_yes7 _ _ _ w5 X3.out Y3.out).mono ?_
  rintro _ _ ⟨rfl, rfl⟩
  go_wp2_with fail
  go_ret
  exact ⟨rfl, K5.out⟩
end Go.Proofs.YtdcbljfacmidjaaGreat

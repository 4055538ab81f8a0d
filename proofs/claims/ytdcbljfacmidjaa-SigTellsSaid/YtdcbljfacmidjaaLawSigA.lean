/- SigTells, SigWraps (written by gen/sig1.py). -/
import Derived.Test.YtdcbljfacmidjaaSigOwn
import Derived.Test.YtdcbljfacmidjaaShownSig
import Derived.Test.YtdcbljfacmidjaaRefSig2
set_option linter.unusedVariables false
set_option linter.unusedSimpArgs false
namespace Go.Proofs.Ytdcbljfacmidjaa
open Go.RowKit

theorem pubE_01 (s : List UInt8) : pubE s = 0 ∨ pubE s = 1 := by unfold pubE; split <;> simp
theorem verE_in (p l b s : List UInt8) : verE p l b s = 0 ∨ verE p l b s = 5 ∨ verE p l b s = 1 := by
  unfold verE
  split
  · split <;> simp
  · simp
theorem wrapE_01 (p o : List UInt8) : wrapE p o = 0 ∨ wrapE p o = 1 := by unfold wrapE; split <;> simp
theorem openE_in7 (key nonce aad b : List UInt8) : openE key nonce aad b = 0 ∨ openE key nonce aad b = 1 ∨ openE key nonce aad b = 3 ∨ openE key nonce aad b = 5 := by
  unfold openE
  split
  · split
    · simp
    · split <;> simp
  · simp
theorem unE_in (s h i b : List UInt8) : unE s h i b = 0 ∨ unE s h i b = 1 ∨ unE s h i b = 3 ∨ unE s h i b = 5 := by
  unfold unE
  split
  · exact openE_in7 _ _ _ _
  · simp
theorem same_yes7 (u v : Value) (l : List UInt8) (w : World) (h : Rd w u l) (h' : Rd w v l) : Calls Try.prog 12 #[u, v] w fun e w' => e = .returned (.bool true) ∧ w = w' := by
  have := same_any u v l l w h h'
  rwa [decide_eq_true rfl] at this

set_option maxRecDepth 100000 in
set_option maxHeartbeats 8000000 in
theorem sigTells_walk (va vc vd : Value) (s : ByteArray) (la lc ld : List UInt8) (w : World) (ha : Rd w va la) (hc : Rd w vc lc) (hd : Rd w vd ld) :
    Calls Try.prog 3 #[.agg #[va, .string s, vc, vd]] w (Yes w) := by
  obtain ⟨a1, c1, rfl, p1, s1⟩ := ha.shape
  obtain ⟨a3, c3, rfl, p3, s3⟩ := hc.shape
  obtain ⟨a4, c4, rfl, p4, s4⟩ := hd.shape
  by_cases h0 : la.length ≤ 40
  rotate_left
  · have q1 : 40 < (la.length : Int) := by omega
    go_enter Try.func3, Try.ntmps3
    go_wp2_with fail
    refine (shownSig_any _).mono ?_
    rintro e w1 ⟨rfl, k1⟩
    have k1 := ((Kp.refl w).alloc _).trans k1
    go_wp2_with fail
    go_ret
    exact ⟨rfl, k1⟩
  by_cases h1 : s.size ≤ 100
  rotate_left
  · have q1 : 100 < (s.size : Int) := by omega
    have r0 : ¬ 40 < (la.length : Int) := by omega
    go_enter Try.func3, Try.ntmps3
    go_wp2_with fail
    refine (shownSig_any _).mono ?_
    rintro e w1 ⟨rfl, k1⟩
    have k1 := ((Kp.refl w).alloc _).trans k1
    go_wp2_with fail
    go_ret
    exact ⟨rfl, k1⟩
  by_cases h2 : lc.length ≤ 200
  rotate_left
  · have q1 : 200 < (lc.length : Int) := by omega
    have r0 : ¬ 40 < (la.length : Int) := by omega
    have r1 : ¬ 100 < (s.size : Int) := by omega
    go_enter Try.func3, Try.ntmps3
    go_wp2_with fail
    refine (shownSig_any _).mono ?_
    rintro e w1 ⟨rfl, k1⟩
    have k1 := ((Kp.refl w).alloc _).trans k1
    go_wp2_with fail
    go_ret
    exact ⟨rfl, k1⟩
  by_cases h3 : ld.length ≤ 50
  rotate_left
  · have q1 : 50 < (ld.length : Int) := by omega
    have r0 : ¬ 40 < (la.length : Int) := by omega
    have r1 : ¬ 100 < (s.size : Int) := by omega
    have r2 : ¬ 200 < (lc.length : Int) := by omega
    go_enter Try.func3, Try.ntmps3
    go_wp2_with fail
    refine (shownSig_any _).mono ?_
    rintro e w1 ⟨rfl, k1⟩
    have k1 := ((Kp.refl w).alloc _).trans k1
    go_wp2_with fail
    go_ret
    exact ⟨rfl, k1⟩
  have r0 : ¬ 40 < (la.length : Int) := by omega
  have r1 : ¬ 100 < (s.size : Int) := by omega
  have r2 : ¬ 200 < (lc.length : Int) := by omega
  have r3 : ¬ 50 < (ld.length : Int) := by omega
  have H1 : Hid (∀ W, Kp w W → Calls Try.prog 8 #[.slice a1 la.length c1] W fun e w' => (∃ r, e = .returned (.tuple #[r, .int .i64 (pubE la)]) ∧ Rd w' r (pubR la)) ∧ Kp W w') := fun W hW => sigPublic_any _ la W (ha.kp hW)
  have H2 : Hid (∀ W, Kp w W → Calls Try.prog 9 #[.slice a1 la.length c1] W fun e w' => (∃ r, e = .returned (.tuple #[r, .int .i64 (pubE la)]) ∧ Rd w' r (pubR la)) ∧ Kp W w') := fun W hW => refPublic_any _ la W (ha.kp hW)
  have H3 : Hid (∀ W, Kp w W → Calls Try.prog 10 #[.slice a1 la.length c1, .string s, .slice a3 lc.length c3] W fun e w' => (∃ r, e = .returned (.tuple #[r, .int .i64 (pubE la)]) ∧ Rd w' r (signR la s.data.toList lc)) ∧ Kp W w') := fun W hW => sigSign_any _ s _ la lc W (ha.kp hW) (hc.kp hW) (by omega) (by omega)
  have H4 : Hid (∀ W, Kp w W → Calls Try.prog 11 #[.slice a1 la.length c1, .string s, .slice a3 lc.length c3] W fun e w' => (∃ r, e = .returned (.tuple #[r, .int .i64 (pubE la)]) ∧ Rd w' r (signR la s.data.toList lc)) ∧ Kp W w') := fun W hW => refSign_any _ s _ la lc W (ha.kp hW) (hc.kp hW) (by omega) (by omega)
  have H5 : Hid (∀ W, Kp w W → Calls Try.prog 13 #[.slice a1 la.length c1, .string s, .slice a3 lc.length c3, .slice a4 ld.length c4] W fun e w' => e = .returned (.int .i64 (verE la s.data.toList lc ld)) ∧ Kp W w') := fun W hW => sigVerify_any _ s _ _ la lc ld W (ha.kp hW) (hc.kp hW) (hd.kp hW) (by omega) (by omega)
  have H6 : Hid (∀ W, Kp w W → Calls Try.prog 14 #[.slice a1 la.length c1, .string s, .slice a3 lc.length c3, .slice a4 ld.length c4] W fun e w' => e = .returned (.int .i64 (verE la s.data.toList lc ld)) ∧ Kp W w') := fun W hW => refVerify_any _ s _ _ la lc ld W (ha.kp hW) (hc.kp hW) (hd.kp hW) (by omega) (by omega)
  have i1 : IntKind.i64.wrap (pubE la) = pubE la := by rcases pubE_01 la with h | h <;> rw [h] <;> rfl
  have i2 : IntKind.i64.wrap (verE la s.data.toList lc ld) = verE la s.data.toList lc ld := by rcases verE_in la s.data.toList lc ld with h | h | h <;> rw [h] <;> rfl
  generalize pubE la = E1 at *
  generalize verE la s.data.toList lc ld = E2 at *
  generalize pubR la = R1 at *
  generalize signR la s.data.toList lc = R2 at *
  clear ha hc hd h0 h1 h2 h3
  go_enter Try.func3, Try.ntmps3
  go_wp2_with fail
  refine (shownSig_any _).mono ?_
  rintro e w1 ⟨rfl, k1⟩
  have k1 := ((Kp.refl w).alloc _).trans k1
  have K1 := Lib.hid k1
  clear k1
  go_wp2_with fail
  refine (H1.out _ K1.out).mono ?_
  rintro _ w2 ⟨⟨x1, rfl, s1⟩, k2⟩
  have X1 := Lib.hid s1
  have K2 := Lib.hid (K1.out.trans k2)
  clear k2 s1
  go_wp2_with fail
  refine (H2.out _ K2.out).mono ?_
  rintro _ w3 ⟨⟨y1, rfl, s1⟩, k3⟩
  have X1 := Lib.hid (X1.out.kp k3)
  have Y1 := Lib.hid s1
  have K3 := Lib.hid (K2.out.trans k3)
  clear k3 s1
  go_wp2_with fail
  refine (H3.out _ K3.out).mono ?_
  rintro _ w4 ⟨⟨x2, rfl, s1⟩, k4⟩
  have X1 := Lib.hid (X1.out.kp k4)
  have Y1 := Lib.hid (Y1.out.kp k4)
  have X2 := Lib.hid s1
  have K4 := Lib.hid (K3.out.trans k4)
  clear k4 s1
  go_wp2_with fail
  refine (H4.out _ K4.out).mono ?_
  rintro _ w5 ⟨⟨y2, rfl, s1⟩, k5⟩
  have X1 := Lib.hid (X1.out.kp k5)
  have Y1 := Lib.hid (Y1.out.kp k5)
  have X2 := Lib.hid (X2.out.kp k5)
  have Y2 := Lib.hid s1
  have K5 := Lib.hid (K4.out.trans k5)
  clear k5 s1
  go_wp2_with fail
  refine (same_yes7 _ _ _ w5 X1.out Y1.out).mono ?_
  rintro _ _ ⟨rfl, rfl⟩
  go_wp2_with fail
  refine (same_yes7 _ _ _ w5 X2.out Y2.out).mono ?_
  rintro _ _ ⟨rfl, rfl⟩
  go_wp2_with fail
  refine (H5.out _ K5.out).mono ?_
  rintro _ w6 ⟨rfl, k6⟩
  have K6 := Lib.hid (K5.out.trans k6)
  clear k6
  go_wp2_with fail
  refine (H6.out _ K6.out).mono ?_
  rintro _ w7 ⟨rfl, k7⟩
  have K7 := Lib.hid (K6.out.trans k7)
  clear k7
  go_wp2_with fail
  go_ret
  exact ⟨rfl, K7.out⟩

end Go.Proofs.Ytdcbljfacmidjaa

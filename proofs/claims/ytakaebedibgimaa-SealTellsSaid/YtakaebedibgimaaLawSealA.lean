/- SealTells (written by gen/seal1.py). -/
import Derived.Test.YtakaebedibgimaaSealOwnAll
import Derived.Test.YtakaebedibgimaaShownSeal
import Derived.Test.YtakaebedibgimaaSealRef
set_option linter.unusedVariables false
set_option linter.unusedSimpArgs false
namespace Go.Proofs.Ytakaebedibgimaa
open Go.RowKit

theorem halE_01 (key : List UInt8) : halE key = 0 ∨ halE key = 1 := by unfold halE; split <;> simp
theorem sealE_01 (key nonce : List UInt8) : sealE key nonce = 0 ∨ sealE key nonce = 1 := by unfold sealE; split <;> simp
theorem atE_01 (base : List UInt8) (n : Int) : atE base n = 0 ∨ atE base n = 1 := by unfold atE; split <;> simp
theorem openE_in (key nonce aad b : List UInt8) : openE key nonce aad b = 0 ∨ openE key nonce aad b = 1 ∨ openE key nonce aad b = 3 ∨ openE key nonce aad b = 5 := by
  unfold openE
  split
  · split
    · simp
    · split <;> simp
  · simp
/-- Two rows that read the same are the same. -/
theorem same_yes6 (u v : Value) (l : List UInt8) (w : World) (h : Rd w u l) (h' : Rd w v l) : Calls Try.prog 13 #[u, v] w fun e w' => e = .returned (.bool true) ∧ w = w' := by
  have := same_any u v l l w h h'
  rwa [decide_eq_true rfl] at this

set_option maxRecDepth 100000 in
set_option maxHeartbeats 8000000 in
theorem sealTells_walk (va vb vc vd : Value) (la lb lc ld : List UInt8) (n : Int) (w : World) (ha : Rd w va la) (hb : Rd w vb lb) (hc : Rd w vc lc) (hd : Rd w vd ld) (hn2 : -9223372036854775808 ≤ n ∧ n ≤ 9223372036854775807) :
    Calls Try.prog 3 #[.agg #[va, vb, vc, vd, .int .i64 n]] w (Yes w) := by
  obtain ⟨a1, c1, rfl, p1, s1⟩ := ha.shape
  obtain ⟨a2, c2, rfl, p2, s2⟩ := hb.shape
  obtain ⟨a3, c3, rfl, p3, s3⟩ := hc.shape
  obtain ⟨a4, c4, rfl, p4, s4⟩ := hd.shape
  by_cases h0 : 50 < la.length
  · have q0 : 50 < (la.length : Int) := by omega
    go_enter Try.func3, Try.ntmps3
    go_wp2_with fail
    refine (shownSeal_any _).mono ?_
    rintro e w1 ⟨rfl, k1⟩
    have k1 := ((Kp.refl w).alloc _).trans k1
    go_wp2_with fail
    go_ret
    exact ⟨rfl, k1⟩
  by_cases h1 : 50 < lb.length
  · have q1 : 50 < (lb.length : Int) := by omega
    have r0 : ¬ 50 < (la.length : Int) := by omega
    go_enter Try.func3, Try.ntmps3
    go_wp2_with fail
    refine (shownSeal_any _).mono ?_
    rintro e w1 ⟨rfl, k1⟩
    have k1 := ((Kp.refl w).alloc _).trans k1
    go_wp2_with fail
    go_ret
    exact ⟨rfl, k1⟩
  by_cases h2 : 200 < lc.length
  · have q2 : 200 < (lc.length : Int) := by omega
    have r0 : ¬ 50 < (la.length : Int) := by omega
    have r1 : ¬ 50 < (lb.length : Int) := by omega
    go_enter Try.func3, Try.ntmps3
    go_wp2_with fail
    refine (shownSeal_any _).mono ?_
    rintro e w1 ⟨rfl, k1⟩
    have k1 := ((Kp.refl w).alloc _).trans k1
    go_wp2_with fail
    go_ret
    exact ⟨rfl, k1⟩
  by_cases h3 : 200 < ld.length
  · have q3 : 200 < (ld.length : Int) := by omega
    have r0 : ¬ 50 < (la.length : Int) := by omega
    have r1 : ¬ 50 < (lb.length : Int) := by omega
    have r2 : ¬ 200 < (lc.length : Int) := by omega
    go_enter Try.func3, Try.ntmps3
    go_wp2_with fail
    refine (shownSeal_any _).mono ?_
    rintro e w1 ⟨rfl, k1⟩
    have k1 := ((Kp.refl w).alloc _).trans k1
    go_wp2_with fail
    go_ret
    exact ⟨rfl, k1⟩
  have r0 : ¬ 50 < (la.length : Int) := by omega
  have r1 : ¬ 50 < (lb.length : Int) := by omega
  have r2 : ¬ 200 < (lc.length : Int) := by omega
  have r3 : ¬ 200 < (ld.length : Int) := by omega
  have H1 : Hid (∀ W, Kp w W → Calls Try.prog 9 #[.slice a1 la.length c1] W fun e w' => (∃ a b, e = .returned (.tuple #[a, b, .int .i64 (halE la)]) ∧ Rd w' a (halA la) ∧ Rd w' b (halB la)) ∧ Kp W w') := fun W hW => sealHalves_any _ la W (ha.kp hW)
  have H2 : Hid (∀ W, Kp w W → Calls Try.prog 10 #[.slice a1 la.length c1] W fun e w' => (∃ a b, e = .returned (.tuple #[a, b, .int .i64 (halE la)]) ∧ Rd w' a (halA la) ∧ Rd w' b (halB la)) ∧ Kp W w') := fun W hW => refHalves_any _ la W (ha.kp hW)
  have H3 : Hid (∀ W, Kp w W → Calls Try.prog 11 #[.slice a1 la.length c1, .slice a2 lb.length c2, .slice a3 lc.length c3, .slice a4 ld.length c4] W fun e w' => (∃ r, e = .returned (.tuple #[r, .int .i64 (sealE la lb)]) ∧ Rd w' r (sealR la lb lc ld)) ∧ Kp W w') := fun W hW => sealSeal_any _ _ _ _ la lb lc ld W (ha.kp hW) (hb.kp hW) (hc.kp hW) (hd.kp hW) (by omega)
  have H4 : Hid (∀ W, Kp w W → Calls Try.prog 12 #[.slice a1 la.length c1, .slice a2 lb.length c2, .slice a3 lc.length c3, .slice a4 ld.length c4] W fun e w' => (∃ r, e = .returned (.tuple #[r, .int .i64 (sealE la lb)]) ∧ Rd w' r (sealR la lb lc ld)) ∧ Kp W w') := fun W hW => refSeal_any _ _ _ _ la lb lc ld W (ha.kp hW) (hb.kp hW) (hc.kp hW) (hd.kp hW) (by omega)
  have H5 : Hid (∀ W, Kp w W → Calls Try.prog 14 #[.slice a1 la.length c1, .slice a2 lb.length c2, .slice a3 lc.length c3, .slice a4 ld.length c4] W fun e w' => (∃ r, e = .returned (.tuple #[r, .int .i64 (openE la lb lc ld)]) ∧ Rd w' r (openR la lb lc ld)) ∧ Kp W w') := fun W hW => sealOpen_any _ _ _ _ la lb lc ld W (ha.kp hW) (hb.kp hW) (hc.kp hW) (hd.kp hW) (by omega)
  have H6 : Hid (∀ W, Kp w W → Calls Try.prog 15 #[.slice a1 la.length c1, .slice a2 lb.length c2, .slice a3 lc.length c3, .slice a4 ld.length c4] W fun e w' => (∃ r, e = .returned (.tuple #[r, .int .i64 (openE la lb lc ld)]) ∧ Rd w' r (openR la lb lc ld)) ∧ Kp W w') := fun W hW => refOpen_any _ _ _ _ la lb lc ld W (ha.kp hW) (hb.kp hW) (hc.kp hW) (hd.kp hW) (by omega)
  have H7 : Hid (∀ W, Kp w W → Calls Try.prog 16 #[.slice a2 lb.length c2, .int .i64 n] W fun e w' => (∃ r, e = .returned (.tuple #[r, .int .i64 (atE lb n)]) ∧ Rd w' r (atR lb n)) ∧ Kp W w') := fun W hW => sealAt_any _ lb n W (hb.kp hW) hn2
  have H8 : Hid (∀ W, Kp w W → Calls Try.prog 17 #[.slice a2 lb.length c2, .int .i64 n] W fun e w' => (∃ r, e = .returned (.tuple #[r, .int .i64 (atE lb n)]) ∧ Rd w' r (atR lb n)) ∧ Kp W w') := fun W hW => refAt_any _ lb n W (hb.kp hW)
  have i1 : IntKind.i64.wrap (halE la) = halE la := by rcases halE_01 la with h | h <;> rw [h] <;> rfl
  have i2 : IntKind.i64.wrap (sealE la lb) = sealE la lb := by rcases sealE_01 la lb with h | h <;> rw [h] <;> rfl
  have i3 : IntKind.i64.wrap (openE la lb lc ld) = openE la lb lc ld := by rcases openE_in la lb lc ld with h | h | h | h <;> rw [h] <;> rfl
  have i4 : IntKind.i64.wrap (atE lb n) = atE lb n := by rcases atE_01 lb n with h | h <;> rw [h] <;> rfl
  generalize halE la = E1 at *
  generalize sealE la lb = E2 at *
  generalize openE la lb lc ld = E3 at *
  generalize atE lb n = E4 at *
  generalize halA la = R1 at *
  generalize halB la = R2 at *
  generalize sealR la lb lc ld = R3 at *
  generalize openR la lb lc ld = R4 at *
  generalize atR lb n = R5 at *
  clear ha hb hc hd h0 h1 h2 h3 hn2
  go_enter Try.func3, Try.ntmps3
  go_wp2_with fail
  refine (shownSeal_any _).mono ?_
  rintro e w1 ⟨rfl, k1⟩
  have k1 := ((Kp.refl w).alloc _).trans k1
  have K1 := Lib.hid k1
  clear k1
  go_wp2_with fail
  refine (H1.out _ K1.out).mono ?_
  rintro _ w2 ⟨⟨x1, x2, rfl, s1, s2⟩, k2⟩
  have A1 := Lib.hid s1
  have A2 := Lib.hid s2
  have K2 := Lib.hid (K1.out.trans k2)
  clear k2 s1 s2
  go_wp2_with fail
  refine (H2.out _ K2.out).mono ?_
  rintro _ w3 ⟨⟨y1, y2, rfl, s1, s2⟩, k3⟩
  have A1 := Lib.hid (A1.out.kp k3)
  have A2 := Lib.hid (A2.out.kp k3)
  have B1 := Lib.hid s1
  have B2 := Lib.hid s2
  have K3 := Lib.hid (K2.out.trans k3)
  clear k3 s1 s2
  go_wp2_with fail
  refine (H3.out _ K3.out).mono ?_
  rintro _ w4 ⟨⟨x3, rfl, s1⟩, k4⟩
  have A1 := Lib.hid (A1.out.kp k4)
  have A2 := Lib.hid (A2.out.kp k4)
  have B1 := Lib.hid (B1.out.kp k4)
  have B2 := Lib.hid (B2.out.kp k4)
  have A3 := Lib.hid s1
  have K4 := Lib.hid (K3.out.trans k4)
  clear k4 s1
  go_wp2_with fail
  refine (H4.out _ K4.out).mono ?_
  rintro _ w5 ⟨⟨y3, rfl, s1⟩, k5⟩
  have A1 := Lib.hid (A1.out.kp k5)
  have A2 := Lib.hid (A2.out.kp k5)
  have B1 := Lib.hid (B1.out.kp k5)
  have B2 := Lib.hid (B2.out.kp k5)
  have A3 := Lib.hid (A3.out.kp k5)
  have B3 := Lib.hid s1
  have K5 := Lib.hid (K4.out.trans k5)
  clear k5 s1
  go_wp2_with fail
  refine (same_yes6 _ _ _ w5 A1.out B1.out).mono ?_
  rintro _ _ ⟨rfl, rfl⟩
  go_wp2_with fail
  refine (same_yes6 _ _ _ w5 A2.out B2.out).mono ?_
  rintro _ _ ⟨rfl, rfl⟩
  go_wp2_with fail
  refine (same_yes6 _ _ _ w5 A3.out B3.out).mono ?_
  rintro _ _ ⟨rfl, rfl⟩
  go_wp2_with fail
  refine (H5.out _ K5.out).mono ?_
  rintro _ w6 ⟨⟨x4, rfl, s1⟩, k6⟩
  have A4 := Lib.hid s1
  have K6 := Lib.hid (K5.out.trans k6)
  clear k6 s1
  go_wp2_with fail
  refine (H6.out _ K6.out).mono ?_
  rintro _ w7 ⟨⟨y4, rfl, s1⟩, k7⟩
  have A4 := Lib.hid (A4.out.kp k7)
  have B4 := Lib.hid s1
  have K7 := Lib.hid (K6.out.trans k7)
  clear k7 s1
  go_wp2_with fail
  refine (H7.out _ K7.out).mono ?_
  rintro _ w8 ⟨⟨x5, rfl, s1⟩, k8⟩
  have A4 := Lib.hid (A4.out.kp k8)
  have B4 := Lib.hid (B4.out.kp k8)
  have A5 := Lib.hid s1
  have K8 := Lib.hid (K7.out.trans k8)
  clear k8 s1
  go_wp2_with fail
  refine (H8.out _ K8.out).mono ?_
  rintro _ w9 ⟨⟨y5, rfl, s1⟩, k9⟩
  have A4 := Lib.hid (A4.out.kp k9)
  have B4 := Lib.hid (B4.out.kp k9)
  have A5 := Lib.hid (A5.out.kp k9)
  have B5 := Lib.hid s1
  have K9 := Lib.hid (K8.out.trans k9)
  clear k9 s1
  go_wp2_with fail
  refine (same_yes6 _ _ _ w9 A4.out B4.out).mono ?_
  rintro _ _ ⟨rfl, rfl⟩
  go_wp2_with fail
  refine (same_yes6 _ _ _ w9 A5.out B5.out).mono ?_
  rintro _ _ ⟨rfl, rfl⟩
  go_wp2_with fail
  go_ret
  exact ⟨rfl, K9.out⟩
end Go.Proofs.Ytakaebedibgimaa

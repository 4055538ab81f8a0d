/- SealBack (written by gen/seal2.py). -/
import Derived.Test.YtakaebedibgimaaSealOwnAll
import Derived.Test.YtakaebedibgimaaShownSeal
import Derived.Test.YtakaebedibgimaaSealTold
set_option linter.unusedVariables false
set_option linter.unusedSimpArgs false
namespace Go.Proofs.Ytakaebedibgimaa
open Go.RowKit

theorem openR_le (key nonce aad b : List UInt8) : (openR key nonce aad b).length ≤ b.length := by
  unfold openR
  split
  · rw [lockedB_length, List.length_take]; omega
  · exact Nat.zero_le _
theorem openE_short {key nonce aad b : List UInt8} (h : okK key nonce) (hb : b.length < 32) : openE key nonce aad b = 3 ∧ openR key nonce aad b = [] := by
  have e : openE key nonce aad b = 3 := by
    unfold openE
    rw [if_pos h, if_pos hb]
  refine ⟨e, ?_⟩
  unfold openR
  rw [e, if_neg (by decide)]
theorem same_yes6b (u v : Value) (l : List UInt8) (w : World) (h : Rd w u l) (h' : Rd w v l) : Calls Try.prog 13 #[u, v] w fun e w' => e = .returned (.bool true) ∧ w = w' := by
  have := same_any u v l l w h h'
  rwa [decide_eq_true rfl] at this

set_option maxRecDepth 100000 in
set_option maxHeartbeats 8000000 in
theorem sealBack_walk (va vb vc vd : Value) (la lb lc ld : List UInt8) (w : World) (ha : Rd w va la) (hb : Rd w vb lb) (hc : Rd w vc lc) (hd : Rd w vd ld) :
    Calls Try.prog 4 #[.agg #[va, vb, vc, vd]] w (Yes w) := by
  obtain ⟨a1, c1, rfl, p1, s1⟩ := ha.shape
  obtain ⟨a2, c2, rfl, p2, s2⟩ := hb.shape
  obtain ⟨a3, c3, rfl, p3, s3⟩ := hc.shape
  obtain ⟨a4, c4, rfl, p4, s4⟩ := hd.shape
  by_cases h0 : la.length = 32
  · skip
    by_cases h1 : lb.length = 12
    · skip
      by_cases h2 : lc.length ≤ 200
      · skip
        by_cases h3 : ld.length ≤ 300
        · skip
          have hok : okK la lb := ⟨h0, h1⟩
          have HS : Hid (∀ W v x, Kp w W → Rd W v x → x.length ≤ 400 → Calls Try.prog 11 #[.slice a1 la.length c1, .slice a2 lb.length c2, .slice a3 lc.length c3, v] W fun e w' => (∃ r, e = .returned (.tuple #[r, .int .i64 0]) ∧ Rd w' r (sealB la lb lc x)) ∧ Kp W w') := fun W v x hW hv hx => by
            have := sealSeal_any _ _ _ v la lb lc x W (ha.kp hW) (hb.kp hW) (hc.kp hW) hv (by omega)
            rwa [show sealE la lb = 0 from if_pos hok, show sealR la lb lc x = sealB la lb lc x from if_pos hok] at this
          have HO : Hid (∀ W v x, Kp w W → Rd W v x → x.length ≤ 400 → Calls Try.prog 14 #[.slice a1 la.length c1, .slice a2 lb.length c2, .slice a3 lc.length c3, v] W fun e w' => (∃ r, e = .returned (.tuple #[r, .int .i64 (openE la lb lc x)]) ∧ Rd w' r (openR la lb lc x)) ∧ Kp W w') := fun W v x hW hv hx =>
            sealOpen_any _ _ _ v la lb lc x W (ha.kp hW) (hb.kp hW) (hc.kp hW) hv (by omega)
          have HOS := Lib.hid (open_seal lc ld hok)
          have HSL := Lib.hid (sealB_length la lb lc ld)
          have HSO : Hid (openE la lb lc ld = 0 → sealB la lb lc (openR la lb lc ld) = ld) := fun h => (seal_open h).2
          have HRL := Lib.hid (openR_le la lb lc ld)
          have HCS : Hid ((openE la lb lc ld = 3 ∧ openR la lb lc ld = [] ∧ ld.length < 32) ∨ (32 ≤ ld.length ∧ (openE la lb lc ld = 0 ∨ openE la lb lc ld = 5 ∧ openR la lb lc ld = []))) := by
            by_cases h : ld.length < 32
            · exact Or.inl ⟨(openE_short hok h).1, (openE_short hok h).2, h⟩
            · exact Or.inr ⟨by omega, openE_two hok (by omega)⟩
          have HD := Lib.hid hd
          have HN4 := Lib.hid h3
          rw [h0, h1] at HS HO ⊢
          have i1 : IntKind.i64.wrap ((ld.length : Int) + 32) = (ld.length : Int) + 32 := IntWalk.i64_in _ (by omega)
          have i2 : ((ld.length + 32 : Nat) : Int) = (ld.length : Int) + 32 := by omega
          have r2 : ¬ 200 < (lc.length : Int) := by omega
          have r3 : ¬ 300 < (ld.length : Int) := by omega
          clear ha hb hc hd h0 h1 h2 h3 hok
          go_enter Try.func4, Try.ntmps4
          go_wp2_with fail
          refine (shownSeal_any _).mono ?_
          rintro e w1 ⟨rfl, k1⟩
          have k1 := ((Kp.refl w).alloc _).trans k1
          have K1 := Lib.hid k1
          clear k1
          go_wp2_with fail
          refine (HS.out _ _ ld K1.out (HD.out.kp K1.out) (by have := HN4.out; omega)).mono ?_
          rintro _ w2 ⟨⟨x, rfl, q2⟩, k2⟩
          obtain ⟨ax, cx, rfl, _, _⟩ := q2.shape
          have R2 := Lib.hid q2
          rw [HSL.out] at R2 ⊢
          have K2 := Lib.hid (K1.out.trans k2)
          clear q2 k2
          go_wp2_with fail
          refine (HO.out _ _ _ K2.out R2.out (by rw [HSL.out]; have := HN4.out; omega)).mono ?_
          rw [HOS.out.1, HOS.out.2]
          rintro _ w3 ⟨⟨y, rfl, q3⟩, k3⟩
          have R3 := Lib.hid q3
          have K3 := Lib.hid (K2.out.trans k3)
          clear q3 k3 R2
          go_wp2_with fail
          refine (same_yes6b _ _ _ w3 R3.out (HD.out.kp K3.out)).mono ?_
          rintro _ _ ⟨rfl, rfl⟩
          clear i1 i2
          go_wp2_with fail
          refine (HO.out _ _ _ K3.out (HD.out.kp K3.out) (by have := HN4.out; omega)).mono ?_
          rcases HCS.out with ⟨e1, e2, e3⟩ | ⟨e3, e1 | ⟨e1, e2⟩⟩
          · rw [e1, e2]
            have d1 : (ld.length : Int) < 32 := by omega
            rintro _ w4 ⟨⟨z, rfl, q4⟩, k4⟩
            obtain ⟨az, cz, rfl, _, _⟩ := q4.shape
            have K4 := Lib.hid (K3.out.trans k4)
            clear q4 k4 e1 e2 e3
            go_wp2_with fail
            go_ret
            exact ⟨rfl, K4.out⟩
          · have HR := Lib.hid (HSO.out e1)
            rw [e1]
            clear e1 e3
            rintro _ w4 ⟨⟨z, rfl, q4⟩, k4⟩
            have R4 := Lib.hid q4
            have K4 := Lib.hid (K3.out.trans k4)
            obtain ⟨az, nz, cz, rfl⟩ := q4.sl
            clear q4 k4
            go_wp2_with fail
            refine (HS.out _ _ _ K4.out R4.out (by have := HN4.out; have := HRL.out; omega)).mono ?_
            rw [HR.out]
            rintro _ w5 ⟨⟨u, rfl, q5⟩, k5⟩
            have R5 := Lib.hid q5
            have K5 := Lib.hid (K4.out.trans k5)
            clear q5 k5
            go_wp2_with fail
            refine (same_yes6b _ _ _ w5 R5.out (HD.out.kp K5.out)).mono ?_
            rintro _ _ ⟨rfl, rfl⟩
            go_wp2_with fail
            go_ret
            exact ⟨rfl, K5.out⟩
          · rw [e1, e2]
            have d1 : ¬ (ld.length : Int) < 32 := by omega
            have d3 : decide ((ld.length : Int) < 32) = false := decide_eq_false d1
            rintro _ w4 ⟨⟨z, rfl, q4⟩, k4⟩
            obtain ⟨az, cz, rfl, _, _⟩ := q4.shape
            have K4 := Lib.hid (K3.out.trans k4)
            clear q4 k4 e1 e2 e3
            go_wp2_with fail
            go_ret
            exact ⟨by simp [d3], K4.out⟩
        · have q1 : 300 < (ld.length : Int) := by omega
          have r2 : ¬ 200 < (lc.length : Int) := by omega
          rw [h0, h1]
          go_enter Try.func4, Try.ntmps4
          go_wp2_with fail
          refine (shownSeal_any _).mono ?_
          rintro e w1 ⟨rfl, k1⟩
          have k1 := ((Kp.refl w).alloc _).trans k1
          go_wp2_with fail
          go_ret
          exact ⟨rfl, k1⟩
      · have q1 : 200 < (lc.length : Int) := by omega
        rw [h0, h1]
        go_enter Try.func4, Try.ntmps4
        go_wp2_with fail
        refine (shownSeal_any _).mono ?_
        rintro e w1 ⟨rfl, k1⟩
        have k1 := ((Kp.refl w).alloc _).trans k1
        go_wp2_with fail
        go_ret
        exact ⟨rfl, k1⟩
    · have q1 : ((lb.length : Int) == 12) = false := beq_eq_false_iff_ne.2 (by omega)
      have q2 : ¬ (lb.length : Int) = 12 := by omega
      rw [h0]
      go_enter Try.func4, Try.ntmps4
      go_wp2_with fail
      refine (shownSeal_any _).mono ?_
      rintro e w1 ⟨rfl, k1⟩
      have k1 := ((Kp.refl w).alloc _).trans k1
      go_wp2_with fail
      go_ret
      exact ⟨rfl, k1⟩
  · have q1 : ((la.length : Int) == 32) = false := beq_eq_false_iff_ne.2 (by omega)
    have q2 : ¬ (la.length : Int) = 32 := by omega
    go_enter Try.func4, Try.ntmps4
    go_wp2_with fail
    refine (shownSeal_any _).mono ?_
    rintro e w1 ⟨rfl, k1⟩
    have k1 := ((Kp.refl w).alloc _).trans k1
    go_wp2_with fail
    go_ret
    exact ⟨rfl, k1⟩
end Go.Proofs.Ytakaebedibgimaa

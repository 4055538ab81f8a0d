/- SealLocked (written by gen/seal3.py). -/
import Derived.Test.YtakaebedibgimaaSealOwnAll
import Derived.Test.YtakaebedibgimaaShownSeal
import Derived.Test.YtakaebedibgimaaSealRef
set_option linter.unusedVariables false
set_option linter.unusedSimpArgs false
namespace Go.Proofs.Ytakaebedibgimaa
open Go.RowKit

theorem same_yes6c (u v : Value) (l : List UInt8) (w : World) (h : Rd w u l) (h' : Rd w v l) : Calls Try.prog 13 #[u, v] w fun e w' => e = .returned (.bool true) ∧ w = w' := by
  have := same_any u v l l w h h'
  rwa [decide_eq_true rfl] at this

set_option maxRecDepth 100000 in
set_option maxHeartbeats 8000000 in
theorem sealLocked_walk (va vb vc vd ve : Value) (la lb lc ld le : List UInt8) (w : World) (ha : Rd w va la) (hb : Rd w vb lb) (hc : Rd w vc lc) (hd : Rd w vd ld) (he : Rd w ve le) :
    Calls Try.prog 7 #[.agg #[va, vb, vc, vd, ve]] w (Yes w) := by
  obtain ⟨a1, c1, rfl, p1, s1⟩ := ha.shape
  obtain ⟨a2, c2, rfl, p2, s2⟩ := hb.shape
  obtain ⟨a3, c3, rfl, p3, s3⟩ := hc.shape
  obtain ⟨a4, c4, rfl, p4, s4⟩ := hd.shape
  obtain ⟨a5, c5, rfl, p5, s5⟩ := he.shape
  by_cases h0 : la.length = 32
  · skip
    by_cases h1 : lb.length = 12
    · skip
      by_cases h2 : lc.length ≤ 100
      · skip
        by_cases h3 : ld.length ≤ 100
        · skip
          by_cases h4 : le.length ≤ 200
          · skip
            have hok : okK la lb := ⟨h0, h1⟩
            have HX : Hid (∀ W, Kp w W → Calls Try.prog 11 #[.slice a1 la.length c1, .slice a2 lb.length c2, .slice a3 lc.length c3, .slice a5 le.length c5] W fun e w' => (∃ r, e = .returned (.tuple #[r, .int .i64 0]) ∧ Rd w' r (sealB la lb lc le)) ∧ Kp W w') := fun W hW => by
              have := sealSeal_any _ _ _ _ la lb lc le W (ha.kp hW) (hb.kp hW) (hc.kp hW) (he.kp hW) (by omega)
              rwa [show sealE la lb = 0 from if_pos hok, show sealR la lb lc le = sealB la lb lc le from if_pos hok] at this
            have HY : Hid (∀ W, Kp w W → Calls Try.prog 11 #[.slice a1 la.length c1, .slice a2 lb.length c2, .slice a4 ld.length c4, .slice a5 le.length c5] W fun e w' => (∃ r, e = .returned (.tuple #[r, .int .i64 0]) ∧ Rd w' r (sealB la lb ld le)) ∧ Kp W w') := fun W hW => by
              have := sealSeal_any _ _ _ _ la lb ld le W (ha.kp hW) (hb.kp hW) (hd.kp hW) (he.kp hW) (by omega)
              rwa [show sealE la lb = 0 from if_pos hok, show sealR la lb ld le = sealB la lb ld le from if_pos hok] at this
            have HH : Hid (∀ W, Kp w W → Calls Try.prog 9 #[.slice a1 la.length c1] W fun e w' => (∃ a b, e = .returned (.tuple #[a, b, .int .i64 0]) ∧ Rd w' a (halfL la) ∧ Rd w' b (halfT la)) ∧ Kp W w') := fun W hW => by
              have := sealHalves_any _ la W (ha.kp hW)
              rwa [(hal_yes h0).1, (hal_yes h0).2.1, (hal_yes h0).2.2] at this
            have HR : Hid (∀ W, Kp w W → Calls Try.prog 10 #[.slice a1 la.length c1] W fun e w' => (∃ a b, e = .returned (.tuple #[a, b, .int .i64 0]) ∧ Rd w' a (halfL la) ∧ Rd w' b (halfT la)) ∧ Kp W w') := fun W hW => by
              have := refHalves_any _ la W (ha.kp hW)
              rwa [(hal_yes h0).1, (hal_yes h0).2.1, (hal_yes h0).2.2] at this
            have HT : Hid (∀ W v, Kp w W → Rd W v (halfL la) → Calls Try.prog 20 #[v, .slice a2 lb.length c2, .slice a5 le.length c5] W fun e w' => (∃ r, e = .returned (.tuple #[r, .int .i64 0]) ∧ Rd w' r (lockedB la lb le)) ∧ Kp W w') := fun W v hW hv => by
              have := refStream_any5 _ _ _ _ lb le W hv (hb.kp hW) (he.kp hW) (by omega)
              rwa [(str_half le h1).1, (str_half le h1).2] at this
            have HC := Lib.hid hc
            have HD := Lib.hid hd
            have HPX := Lib.hid (sealB_parts la lb lc le).1
            have HPY := Lib.hid (sealB_parts la lb ld le).1
            have HLX := Lib.hid (sealB_length la lb lc le)
            have HLY := Lib.hid (sealB_length la lb ld le)
            have HL := Lib.hid (halfL_length la)
            have HLT := Lib.hid (halfT_length la)
            have HEQ : Hid (lc = ld → sealB la lb lc le = sealB la lb ld le) := fun h => by rw [h]
            rw [h0, h1] at HX HY ⊢
            rw [h0] at HH HR
            rw [h1] at HT
            generalize sealB la lb lc le = X at *
            generalize sealB la lb ld le = Y at *
            obtain ⟨m, hm⟩ : ∃ m, le.length = m := ⟨_, rfl⟩
            rw [hm] at HX HY HT HPX HPY HLX HLY p5 h4 ⊢
            have i1 : IntKind.i64.wrap ((m : Int) + 32) = (m : Int) + 32 := IntWalk.i64_in _ (by omega)
            have i2 : ((m + 32 : Nat) : Int) = (m : Int) + 32 := by omega
            have i3 : (m : Int) ≤ (m : Int) + 32 := by omega
            have i4 : (0 : Int) ≤ (m : Int) := by omega
            have r2 : ¬ 100 < (lc.length : Int) := by omega
            have r3 : ¬ 100 < (ld.length : Int) := by omega
            have r4 : ¬ 200 < (m : Int) := by omega
            clear ha hb hc hd he h0 h1 h2 h3 h4 hok hm
            go_enter Try.func7, Try.ntmps7
            go_wp2_with fail
            refine (shownSeal_any _).mono ?_
            rintro e w1 ⟨rfl, k1⟩
            have k1 := ((Kp.refl w).alloc _).trans k1
            have K1 := Lib.hid k1
            clear k1
            go_wp2_with fail
            refine (HX.out _ K1.out).mono ?_
            rintro _ w2 ⟨⟨x, rfl, q⟩, k2⟩
            obtain ⟨ax, cx, rfl, px, _⟩ := q.shape
            have RX := Lib.hid q
            rw [HLX.out] at RX px ⊢
            have K2 := Lib.hid (K1.out.trans k2)
            clear q k2
            go_wp2_with fail
            refine (HY.out _ K2.out).mono ?_
            rintro _ w3 ⟨⟨y, rfl, q⟩, k3⟩
            obtain ⟨ay, cy, rfl, py, _⟩ := q.shape
            have RX := Lib.hid (RX.out.kp k3)
            have RY := Lib.hid q
            rw [HLY.out] at RY py ⊢
            have K3 := Lib.hid (K2.out.trans k3)
            clear q k3
            go_wp2_with fail
            refine (HH.out _ K3.out).mono ?_
            rintro _ w4 ⟨⟨f, g, rfl, qf, qg⟩, k4⟩
            obtain ⟨af, cf, rfl, _, _⟩ := qf.shape
            obtain ⟨ag, cg, rfl, _, _⟩ := qg.shape
            have RX := Lib.hid (RX.out.kp k4)
            have RY := Lib.hid (RY.out.kp k4)
            have RF := Lib.hid qf
            rw [HL.out] at RF ⊢
            rw [HLT.out]
            have K4 := Lib.hid (K3.out.trans k4)
            clear qf qg k4
            go_wp2_with fail
            refine (HR.out _ K4.out).mono ?_
            rintro _ w5 ⟨⟨p, g2, rfl, qp, _⟩, k5⟩
            have RX := Lib.hid (RX.out.kp k5)
            have RY := Lib.hid (RY.out.kp k5)
            have RF := Lib.hid (RF.out.kp k5)
            have RP := Lib.hid qp
            have K5 := Lib.hid (K4.out.trans k5)
            clear qp k5
            go_wp2_with fail
            refine (HT.out _ _ K5.out RP.out).mono ?_
            rintro _ w6 ⟨⟨s, rfl, q⟩, k6⟩
            have RX := Lib.hid (RX.out.kp k6)
            have RY := Lib.hid (RY.out.kp k6)
            have RF := Lib.hid (RF.out.kp k6)
            have RP := Lib.hid (RP.out.kp k6)
            have RS := Lib.hid q
            have K6 := Lib.hid (K5.out.trans k6)
            clear q k6
            have i5 : (m : Int) ≤ (cx : Int) := by omega
            have i6 : (m : Int) ≤ (cy : Int) := by omega
            go_wp2_with fail
            refine (same_yes6c _ _ _ w6 RF.out RP.out).mono ?_
            rintro _ _ ⟨rfl, rfl⟩
            have TX := Lib.hid (RX.out.pre6 m (by omega))
            have TY := Lib.hid (RY.out.pre6 m (by omega))
            rw [HPX.out] at TX
            rw [HPY.out] at TY
            go_wp2_with fail
            refine (same_yes6c _ _ _ w6 TX.out RS.out).mono ?_
            rintro _ _ ⟨rfl, rfl⟩
            go_wp2_with fail
            refine (same_yes6c _ _ _ w6 TY.out RS.out).mono ?_
            rintro _ _ ⟨rfl, rfl⟩
            have HAB := Lib.hid (same_any _ _ lc ld w6 (HC.out.kp K6.out) (HD.out.kp K6.out))
            by_cases hab : lc = ld
            · rw [decide_eq_true hab] at HAB
              have HE := Lib.hid (HEQ.out hab)
              clear hab
              go_wp2_with fail
              refine HAB.out.mono ?_
              rintro _ _ ⟨rfl, rfl⟩
              go_wp2_with fail
              refine (same_yes6c _ _ Y w6 (by have := RX.out; rwa [HE.out] at this) RY.out).mono ?_
              rintro _ _ ⟨rfl, rfl⟩
              go_wp2_with fail
              go_ret
              exact ⟨rfl, K6.out⟩
            · rw [decide_eq_false hab] at HAB
              clear hab
              go_wp2_with fail
              refine HAB.out.mono ?_
              rintro _ _ ⟨rfl, rfl⟩
              go_wp2_with fail
              go_ret
              exact ⟨rfl, K6.out⟩
          · have q1 : 200 < (le.length : Int) := by omega
            have r2 : ¬ 100 < (lc.length : Int) := by omega
            have r3 : ¬ 100 < (ld.length : Int) := by omega
            rw [h0, h1]
            go_enter Try.func7, Try.ntmps7
            go_wp2_with fail
            refine (shownSeal_any _).mono ?_
            rintro e w1 ⟨rfl, k1⟩
            have k1 := ((Kp.refl w).alloc _).trans k1
            go_wp2_with fail
            go_ret
            exact ⟨rfl, k1⟩
        · have q1 : 100 < (ld.length : Int) := by omega
          have r2 : ¬ 100 < (lc.length : Int) := by omega
          rw [h0, h1]
          go_enter Try.func7, Try.ntmps7
          go_wp2_with fail
          refine (shownSeal_any _).mono ?_
          rintro e w1 ⟨rfl, k1⟩
          have k1 := ((Kp.refl w).alloc _).trans k1
          go_wp2_with fail
          go_ret
          exact ⟨rfl, k1⟩
      · have q1 : 100 < (lc.length : Int) := by omega
        rw [h0, h1]
        go_enter Try.func7, Try.ntmps7
        go_wp2_with fail
        refine (shownSeal_any _).mono ?_
        rintro e w1 ⟨rfl, k1⟩
        have k1 := ((Kp.refl w).alloc _).trans k1
        go_wp2_with fail
        go_ret
        exact ⟨rfl, k1⟩
    · have q1 : ((lb.length : Int) == 12) = false := beq_eq_false_iff_ne.2 (by omega)
      have q2 : ¬ (lb.length : Int) = 12 := by omega
      rw [h0]
      go_enter Try.func7, Try.ntmps7
      go_wp2_with fail
      refine (shownSeal_any _).mono ?_
      rintro e w1 ⟨rfl, k1⟩
      have k1 := ((Kp.refl w).alloc _).trans k1
      go_wp2_with fail
      go_ret
      exact ⟨rfl, k1⟩
  · have q1 : ((la.length : Int) == 32) = false := beq_eq_false_iff_ne.2 (by omega)
    have q2 : ¬ (la.length : Int) = 32 := by omega
    go_enter Try.func7, Try.ntmps7
    go_wp2_with fail
    refine (shownSeal_any _).mono ?_
    rintro e w1 ⟨rfl, k1⟩
    have k1 := ((Kp.refl w).alloc _).trans k1
    go_wp2_with fail
    go_ret
    exact ⟨rfl, k1⟩
end Go.Proofs.Ytakaebedibgimaa

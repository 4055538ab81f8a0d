/- MacTells, MacInner. -/
import Derived.Test.YtpbhikpcbfldgaaShownMac
set_option linter.unusedVariables false
set_option linter.unusedSimpArgs false
namespace Go.Proofs.Ytpbhikpcbfldgaa
open Go.RowKit

theorem mac_key64 (v : Value) (l : List UInt8) (w : World) (h : Rd w v l) (hl : l.length ≤ 2000) :
    Calls Try.prog 11 #[v] w fun e w' => (∃ g, e = .returned (.slice (some ⟨g, 0, none⟩) 64 64) ∧ By 5 w' g (keyB l) ∧ Rd w' (.slice (some ⟨g, 0, none⟩) 64 64) (keyB l)) ∧ Kp w w' :=
  (mac_key v l w h hl).mono fun e w' ⟨⟨g, he, hb, _⟩, hk⟩ => ⟨⟨g, he, hb, hb.rdAll (by rw [keyB_length]) (Nat.le_refl _) (by unfold maxLen; omega)⟩, hk⟩

set_option maxRecDepth 100000 in
set_option maxHeartbeats 4000000 in
theorem macTells_walk (va vb vl : Value) (la lb : List UInt8) (ls : List (List UInt8)) (w : World) (ha : Rd w va la) (hb : Rd w vb lb) (hl : RL w vl ls) (hz : ∀ i, i < ls.length → (ls.getD i []).length ≤ 140737488351232) :
    Calls Try.prog 3 #[va, vb, vl] w (Yes w) := by
  obtain ⟨a1, c1, rfl, p1, q1⟩ := ha.shape
  obtain ⟨a2, c2, rfl, p2, q2⟩ := hb.shape
  obtain ⟨a3, c3, rfl, p3, q3⟩ := hl.shape
  unfold maxLen at q1 q2 q3
  have HZ := Lib.hid hz
  clear hz
  by_cases h1 : la.length ≤ 300
  · have h1' : ¬ (300 < (la.length : Int)) := by omega
    by_cases h2 : lb.length ≤ 300
    · have h2' : ¬ (300 < (lb.length : Int)) := by omega
      by_cases h3 : ls.length ≤ 20
      · have h3' : ¬ (20 < (ls.length : Int)) := by omega
        have HLg := Lib.hid (fun W (hW : RL W (.slice a3 ls.length c3) ls) => long_any _ ls W hW h3 HZ.out)
        have hge : ls.flatten.length ≤ longB ls := by unfold longB; omega
        by_cases h4 : longB ls ≤ 300
        · have h4' : ¬ (300 < (longB ls : Int)) := by omega
          have hfl : ls.flatten.length ≤ 300 := by omega
          have HFL := Lib.hid hfl
          generalize longB ls = G at *
          clear hge hfl
          go_enter Try.func3, Try.ntmps3
          go_wp2_with fail
          refine (shownMac_any _).mono ?_
          rintro e w1 ⟨rfl, k1⟩
          go_wp2_with fail
          refine (HLg.out _ (hl.kp k1)).mono ?_
          rintro e w2 ⟨rfl, rfl⟩
          go_wp2_with fail
          refine (mac_key64 _ la _ (ha.kp k1) (by omega)).mono ?_
          rintro e w2 ⟨⟨g2, rfl, _, r2⟩, k2⟩
          go_wp2_with fail
          refine (refKey_mac _ la _ (ha.kp (k1.trans k2)) (by omega)).mono ?_
          rintro e w3 ⟨⟨v3, rfl, o3⟩, k3⟩
          go_wp2_with fail
          refine (same_at _ _ _ _ true _ (r2.kp k3) o3.rd (decide_eq_true rfl)).mono ?_
          rintro e w4 ⟨rfl, rfl⟩
          go_wp2_with fail
          have k13 := (k1.trans k2).trans k3
          refine (mac_sum _ _ la lb _ (ha.kp k13) (hb.kp k13) (by omega) (by omega)).mono ?_
          rintro e w4 ⟨⟨a4, c4, rfl, r4⟩, k4⟩
          have k14 := k13.trans k4
          go_wp2_with fail
          refine (refMac_sum _ _ la lb _ (ha.kp k14) (hb.kp k14) (by omega) (by omega)).mono ?_
          rintro e w5 ⟨⟨v5, rfl, o5⟩, k5⟩
          have k15 := k14.trans k5
          go_wp2_with fail
          refine (same_at _ _ _ _ true _ (r4.rd.kp k5) o5.rd (decide_eq_true rfl)).mono ?_
          rintro e w6 ⟨rfl, rfl⟩
          go_wp2_with fail
          refine (mac_all _ _ la ls _ (ha.kp k15) (hl.kp k15) (by omega) (by have := HFL.out; omega) (by omega)).mono ?_
          rintro e w6 ⟨⟨a6, c6, rfl, r6⟩, k6⟩
          have k16 := k15.trans k6
          go_wp2_with fail
          refine (refMac_all _ _ la ls _ (ha.kp k16) (hl.kp k16) (by omega) (by have := HFL.out; omega) (by omega)).mono ?_
          rintro e w7 ⟨⟨v7, rfl, o7⟩, k7⟩
          have k17 := k16.trans k7
          go_wp2_with fail
          refine (same_at _ _ _ _ true _ (r6.rd.kp k7) o7.rd (decide_eq_true rfl)).mono ?_
          rintro e w8 ⟨rfl, rfl⟩
          go_wp2_with fail
          refine (mac_same _ _ la lb _ (ha.kp k17) (hb.kp k17)).mono ?_
          rintro e w8 ⟨rfl, k8⟩
          generalize hB : decide (la = lb) = B
          have HB := Lib.hid hB
          clear hB
          go_wp2_with fail
          refine (same_at _ _ la lb B _ (ha.kp (k17.trans k8)) (hb.kp (k17.trans k8)) HB.out).mono ?_
          rintro e w9 ⟨rfl, rfl⟩
          cases B
          all_goals
            go_wp2_with fail
            go_ret
            exact ⟨rfl, k17.trans k8⟩
        · have h4' : (300 < (longB ls : Int)) := by omega
          generalize longB ls = G at *
          clear hge h4
          go_enter Try.func3, Try.ntmps3
          go_wp2_with fail
          refine (shownMac_any _).mono ?_
          rintro e w1 ⟨rfl, k1⟩
          go_wp2_with fail
          refine (HLg.out _ (hl.kp k1)).mono ?_
          rintro e w2 ⟨rfl, rfl⟩
          go_wp2_with fail
          go_ret
          exact ⟨rfl, k1⟩
      · have h3' : (20 < (ls.length : Int)) := by omega
        clear h3
        go_enter Try.func3, Try.ntmps3
        go_wp2_with fail
        refine (shownMac_any _).mono ?_
        rintro e w1 ⟨rfl, k1⟩
        go_wp2_with fail
        go_ret
        exact ⟨rfl, k1⟩
    · have h2' : (300 < (lb.length : Int)) := by omega
      clear h2
      go_enter Try.func3, Try.ntmps3
      go_wp2_with fail
      refine (shownMac_any _).mono ?_
      rintro e w1 ⟨rfl, k1⟩
      go_wp2_with fail
      go_ret
      exact ⟨rfl, k1⟩
  · have h1' : (300 < (la.length : Int)) := by omega
    clear h1
    go_enter Try.func3, Try.ntmps3
    go_wp2_with fail
    refine (shownMac_any _).mono ?_
    rintro e w1 ⟨rfl, k1⟩
    go_wp2_with fail
    go_ret
    exact ⟨rfl, k1⟩
end Go.Proofs.Ytpbhikpcbfldgaa

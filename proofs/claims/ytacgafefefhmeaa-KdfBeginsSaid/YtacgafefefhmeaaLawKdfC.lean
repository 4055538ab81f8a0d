/- KdfRounds. -/
import Derived.Test.YtacgafefefhmeaaLawKdfB
set_option linter.unusedVariables false
set_option linter.unusedSimpArgs false
namespace Go.Proofs.Ytacgafefefhmeaa
open Go.RowKit

theorem passL_32 (k s : List UInt8) (q : Nat) : passL k s (q + 1) 32 = mixT k (macB k (s ++ be 4 1)) q := firstB_one _ (passU_length k s (q + 1))

set_option maxRecDepth 100000 in
set_option maxHeartbeats 4000000 in
theorem kdfRounds_walk (va vb : Value) (la lb : List UInt8) (n : Nat) (w : World) (ha : Rd w va la) (hb : Rd w vb lb) (hn : n ≤ 255) :
    Calls Try.prog 7 #[va, vb, .int .u8 n] w (Yes w) := by
  have U := u8
  obtain ⟨a1, c1, rfl, p1, q1⟩ := ha.shape
  obtain ⟨a2, c2, rfl, p2, q2⟩ := hb.shape
  unfold maxLen at q1 q2
  by_cases h0 : 100 < la.length
  · have q1 : 100 < (la.length : Int) := by omega
    go_enter Try.func7, Try.ntmps7
    go_wp2_with fail
    refine (shownKdf_any _).mono ?_
    rintro e w1 ⟨rfl, k1⟩
    go_wp2_with fail
    go_ret
    exact ⟨rfl, k1⟩
  · have q1 : ¬ (100 < (la.length : Int)) := by omega
    by_cases h1 : 100 < lb.length
    · have q2 : 100 < (lb.length : Int) := by omega
      go_enter Try.func7, Try.ntmps7
      go_wp2_with fail
      refine (shownKdf_any _).mono ?_
      rintro e w1 ⟨rfl, k1⟩
      go_wp2_with fail
      go_ret
      exact ⟨rfl, k1⟩
    · have q2 : ¬ (100 < (lb.length : Int)) := by omega
      have hB := macB_length la (lb ++ be 4 1)
      have HT := Lib.hid (tagN_length la _ hB)
      have HM := Lib.hid (mixT_length la _ hB)
      have HP := Lib.hid (passL_32 la lb)
      have hbe : be 4 1 = [0, 0, 0, 1] := by decide
      rw [hbe] at hB HT HM HP
      obtain ⟨t, ht⟩ : ∃ t, macB la (lb ++ [0, 0, 0, 1]) = t := ⟨_, rfl⟩
      rw [ht] at hB HT HM HP
      have HN : Hid (∀ j, mixT la t (j + 1) = xorL (mixT la t j) (tagN la t (j + 1))) := fun _ => rfl
      have HG : Hid (∀ j, tagN la t (j + 1) = macB la (tagN la t j)) := fun _ => rfl
      have HTT := Lib.hid ht
      clear ht hbe
      go_enter Try.func7, Try.ntmps7
      go_wp2_with fail
      refine (shownKdf_any _).mono ?_
      rintro e w1 ⟨rfl, k1⟩
      have ha1 := ha.kp k1
      have hb1 := hb.kp k1
      have hs1 := k1.size
      go_wp2_with (at_builtin; first
        | (refine wpList_append_ow (o := ⟨some 32, _, _, _, _, _⟩) U rfl _ _ rfl w1.heap.size _ _ rfl (Ow.lit w1 5 w1.heap.size 0 #[] [] (Nat.le_refl _) rfl (by decide) rfl) _ lb rfl (hb1.kp ((Kp.refl _).alloc _)) (by simp; omega) (by simp) ?_; intro v2 w2 o2 g2 _; have k2 : Kp w1 w2 := Kp.grown ((Kp.refl w1).alloc _) g2 (by intro k e; cases e; exact Nat.le_refl _); rw [List.nil_append] at o2)
        | (refine wpList_append_ow (o := ⟨some 34, _, _, _, _, _⟩) U rfl _ _ rfl w1.heap.size _ _ rfl (o2.kp ((Kp.refl _).alloc _)) _ [0, 0, 0, 1] rfl (Ow.lit w2 5 0 4 _ _ (Nat.zero_le _) rfl (by decide) rfl).rd (by simp; omega) (k2.alloc _).size ?_; intro v3 w3 o3 g3 _; have k3 : Kp w1 w3 := Kp.grown (k2.alloc _) g3 o2.own_ge))
      refine (refMac_sum _ v3 la (lb ++ [0, 0, 0, 1]) _ (ha1.kp k3) o3.rd (by omega) (by rw [List.length_append]; simp; omega)).mono ?_
      rw [HTT.out]
      rintro e w4 ⟨⟨v4, rfl, o4⟩, k4⟩
      have k14 := k3.trans k4
      go_wp2_with (at_builtin; refine wpList_append_ow (o := ⟨some 38, _, _, _, _, _⟩) U rfl _ _ rfl w4.heap.size _ _ rfl (Ow.lit w4 5 w4.heap.size 0 #[] [] (Nat.le_refl _) rfl (by decide) rfl) _ t rfl (o4.rd.kp ((Kp.refl _).alloc _)) (by simp; omega) (by simp) ?_; intro v5 w5 o5 g5 _; have k5 : Kp w4 w5 := Kp.grown ((Kp.refl w4).alloc _) g5 (by intro k e; cases e; exact Nat.le_refl _); rw [List.nil_append] at o5)
      obtain ⟨g, c, rfl, hg1, hg2, hg3, hg4⟩ := ow_some o5 (by omega)
      unfold maxLen at hg4
      rw [hB] at hg3 o5 ⊢
      have o5' : Ow 5 w5 w4.heap.size (.slice (some ⟨g, 0, none⟩) 32 c) (mixT la t 0) := o5
      have r4 : Rd w5 v4 (tagN la t 0) := o4.rd.kp k5
      have k15 := k14.trans k5
      have hgw : w1.heap.size ≤ g := by have := k14.size; omega
      obtain ⟨T, hT⟩ : ∃ T : Nat, (T : Int) = 1 + (n : Int) % 5 := ⟨1 + n % 5, by omega⟩
      simp only [← hT]
      have bT2 : (T : Int) ≤ 5 := by omega
      clear o5 hT hn
      go_loopw [9, 11] (fun v p W => ∃ q : Nat, q ≤ T ∧ p = .int .i64 ((q : Int) + 1) ∧ Rd W v (tagN la t q) ∧ Ow 5 W w4.heap.size (.slice (some ⟨g, 0, none⟩) 32 c) (mixT la t q) ∧ Kp w1 W ∧ w5.heap.size ≤ W.heap.size) (fun _ p _ => T + 1 - (intOf p).toNat)
      case atStart => exact ⟨0, by omega, rfl, r4, o5', k15, Nat.le_refl _⟩
      case round =>
        clear r4 o5' k15
        obtain ⟨q, hqr, rfl, hr, hso, hkq, hzq⟩ := hrel
        obtain ⟨wq, rfl⟩ : ∃ wq, wq = wr := ⟨_, rfl⟩
        by_cases hlt3 : q < T
        · have hji : (q : Int) + 1 ≤ (T : Int) := by omega
          have hT1 := HT.out (q + 1)
          have hMj := HM.out q
          have hMn := HM.out (q + 1)
          have hNj := HN.out q
          have hGj := HG.out q
          have hTj := HT.out q
          have hPq := HP.out q
          have PY := pass_yes la lb (r := q + 1) (n := 32) (by omega) (by omega) (by decide)
          have hpass := Lib.hid (fun W hA hB => pass_any (.slice a1 la.length c1) (.slice a2 lb.length c2) la lb ((q + 1 : Nat) : Int) ((32 : Nat) : Int) W hA hB (by omega) (by omega))
          rw [PY.1, PY.2, hPq] at hpass
          have hpass' : Hid (∀ W, Rd W (.slice a1 la.length c1) la → Rd W (.slice a2 lb.length c2) lb → Calls Try.prog 18 #[.slice a1 la.length c1, .slice a2 lb.length c2, .int .i64 ((q : Int) + 1), .int .i64 32] W fun e w' => (∃ v, e = .returned (.tuple #[v, .int .i64 0]) ∧ Ow 5 w' W.heap.size v (mixT la t q)) ∧ Kp W w') := hpass.out
          clear hpass PY hPq
          go_wp2_with fail
          refine (hpass'.out _ (ha1.kp hkq) (hb1.kp hkq)).mono ?_
          rintro e w6 ⟨⟨v6, rfl, o6⟩, k6⟩
          go_wp2_with fail
          refine (same_at _ _ _ _ true _ o6.rd (hso.kp k6).rd (decide_eq_true rfl)).mono ?_
          rintro e w7 ⟨rfl, rfl⟩
          go_wp2_with fail
          refine (refMac_sum _ _ la (tagN la t q) _ (ha1.kp (hkq.trans k6)) (hr.kp k6) (by omega) (by omega)).mono ?_
          rintro e x5 ⟨⟨v5, rfl, o5⟩, k5⟩
          rw [← hGj] at o5
          have kq5 := k6.trans k5
          obtain ⟨M, hM⟩ : ∃ M, mixT la t q = M := ⟨_, rfl⟩
          obtain ⟨X, hX⟩ : ∃ X, mixT la t (q + 1) = X := ⟨_, rfl⟩
          obtain ⟨V, hV⟩ : ∃ V, tagN la t (q + 1) = V := ⟨_, rfl⟩
          rw [hV] at o5 hT1 hNj
          rw [hM] at hso hMj hNj
          rw [hX] at hMn hNj
          have HX := Lib.hid hX
          have HV := Lib.hid hV
          have HZ := Lib.hid (fun k hk => mixB_set M X k (by omega) hk)
          have HA := Lib.hid (fun k hk => mixB_at M X k (by omega) hk)
          have HXG := Lib.hid (fun k hk => xorL_get M V k hk (by omega))
          rw [← hNj] at HXG
          have ho2 := hso.kp kq5
          have hm00 := mixB_zero M X
          have hmall : mixB M X 32 = X := by rw [← hMn]; exact mixB_all M X (by omega)
          have HMA := Lib.hid hmall
          have HML := Lib.hid (fun k hk => mixB_length M X k (by omega) hk)
          rw [← hm00] at ho2
          obtain ⟨g2, c2', e2, hb2, hg22, hq1, hq2⟩ := ow_some o5 (by omega)
          rw [hT1] at e2
          subst e2
          rw [hT1] at hq1
          unfold maxLen at hq2
          have hsz2 := kq5.size
          have hsz6 := k6.size
          have kk2 := hkq.trans kq5
          clear hM hX hV hNj hGj hmall hm00 hso hr o6 hpass'
          go_wp2_with fail
          go_loopw [14] (fun p W => ∃ i : Nat, i ≤ 32 ∧ p = .int .i64 i ∧ Ow 5 W w4.heap.size (.slice (some ⟨g, 0, none⟩) 32 c) (mixB M X i) ∧ Rd W (.slice (some ⟨g2, 0, none⟩) 32 c2') V ∧ Kp w1 W ∧ w5.heap.size ≤ W.heap.size) (fun p _ => 32 - (intOf p).toNat)
          case atStart => exact ⟨0, by omega, rfl, ho2, o5.rd, kk2, by omega⟩
          case round =>
            clear ho2 o5 kk2
            obtain ⟨i, hi32, rfl, ho3, hr, hkq2, hzq2⟩ := hrel
            by_cases hlt2 : i < 32
            · have hki : (i : Int) < 32 := by omega
              have hml := HML.out i (by omega)
              have hml32 : (mixB M X i).length = 32 := by omega
              rw [← hml32] at ho3
              obtain ⟨c1', f1, o6, _, hgl⟩ := ow_set ho3 i (by omega) (M.getD i 0 ^^^ V.getD i 0) (M.getD i 0) (HA.out i (by omega))
              rw [HZ.out i (by omega) _ (HXG.out i (by omega)), hml32] at o6
              obtain ⟨_, _, e5, _, hcell⟩ := hr.at i (by omega)
              cases e5
              have hc2 := hcell i (by omega)
              simp only [Nat.zero_add] at hc2
              have hne : g2 ≠ g := by omega
              have hxo := ub8_xor (M.getD i 0) (V.getD i 0)
              generalize hmx : M.getD i 0 = mx at *
              generalize hux : V.getD i 0 = ux at *
              clear hml hml32 ho3 hcell hmx hux
              generalize hz : mx ^^^ ux = z at *
              clear hz
              have hrs : Rd (wr.setCell ⟨g, i, none⟩ (.int .u8 (z.toNat : Int))) (.slice (some ⟨g2, 0, none⟩) 32 c2') V := rd_same hr ((Same.refl (fun b => b = g) wr).setCell _ _ rfl) (fun b o c e => by simp only [Value.slice.injEq, Option.some.injEq, Addr.mk.injEq] at e; omega)
              go_wp2_with fail
              go_region
              go_wp2_with fail
              go_roundw
              case rel => exact ⟨i + 1, by omega, by go_num, o6.kp (Kp.refl _).drew, hrs.kp (Kp.refl _).drew, (Below.setCell (p := ⟨g, i, none⟩) hkq2 hgw _).drew, by simpa using hzq2⟩
              case measure => simp [intOf]; omega
            · obtain rfl : i = 32 := by omega
              go_wp2_with fail
              go_roundw
              case rel => exact ⟨q + 1, by omega, by go_num, by rw [HV.out]; exact hr, by rw [HX.out, ← HMA.out]; exact ho3, hkq2, hzq2⟩
              case measure => simp [intOf]; omega
        · have hnr : ¬ (q : Int) + 1 ≤ (T : Int) := by omega
          have kfin := k1.trans hkq
          clear hso hr
          go_wp2_with fail
          go_ret
          exact ⟨rfl, kfin⟩
end Go.Proofs.Ytacgafefefhmeaa

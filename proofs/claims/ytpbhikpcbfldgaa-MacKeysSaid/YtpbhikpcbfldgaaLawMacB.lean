/- MacInner, MacKeys. -/
import Derived.Test.YtpbhikpcbfldgaaLawMacA
set_option linter.unusedVariables false
set_option linter.unusedSimpArgs false
namespace Go.Proofs.Ytpbhikpcbfldgaa
open Go.RowKit

theorem By.ow {T : TypeId} {w : World} {B g n : Nat} {l : List UInt8} (h : By T w g l) (hn : l.length = n) (hB : B ≤ g) (hm : n ≤ 1000000) : Ow T w B (.slice (some ⟨g, 0, none⟩) n n) l := by
  subst hn
  exact ⟨by rw [byteCells_length]; simp, .inr ⟨g, l.length, _, rfl, hB, h, Nat.le_refl _, by unfold maxLen; omega, by simp [Lib.byteCells], by rw [Nat.mul_one, List.toList_toArray]; exact List.take_of_length_le (by rw [byteCells_length]; exact Nat.le_refl _)⟩⟩

theorem By.other {T : TypeId} {w : World} {g : Nat} {l : List UInt8} (h : By T w g l) (a : Addr) (v : Value) (hne : g ≠ a.block) : By T (w.setCell a v) g l :=
  (Below.heap_setCell w a v g hne).trans h

set_option maxRecDepth 100000 in
set_option maxHeartbeats 4000000 in
theorem macInner_walk (va vb : Value) (la lb : List UInt8) (w : World) (ha : Rd w va la) (hb : Rd w vb lb) :
    Calls Try.prog 7 #[va, vb] w (Yes w) := by
  have U := u8
  obtain ⟨a1, c1, rfl, p1, q1⟩ := ha.shape
  obtain ⟨a2, c2, rfl, p2, q2⟩ := hb.shape
  unfold maxLen at q1 q2
  by_cases h1 : la.length ≤ 200
  · have h1' : ¬ (200 < (la.length : Int)) := by omega
    by_cases h2 : lb.length ≤ 300
    · have h2' : ¬ (300 < (lb.length : Int)) := by omega
      have HK0 := Lib.hid (fun W (hW : Rd W (.slice a1 la.length c1) la) => mac_key64 _ la W hW (by omega))
      have HM : Hid (macB la lb = digest (xorB (keyB la) 92 ++ digest (xorB (keyB la) 54 ++ lb))) := rfl
      have hkl := keyB_length la
      obtain ⟨K, hK⟩ : ∃ K, keyB la = K := ⟨_, rfl⟩
      rw [hK] at HK0 HM hkl
      have HKL := Lib.hid hkl
      have HX := Lib.hid (fun y k (h : k < 64) => xorB_set K y k (by rw [HKL.out]; exact h))
      have HXL := Lib.hid (fun y : UInt8 => (xorB_length K y).trans HKL.out)
      have HML := Lib.hid (fun (y : UInt8) k (h : k ≤ 64) => mixB_length (List.replicate K.length 0) (xorB K y) k (by simp [xorB_length]) (by simp [HKL.out, h]))
      have HD := Lib.hid digest_length
      clear hK hkl
      go_enter Try.func7, Try.ntmps7
      go_wp2_with fail
      refine (shownMac_any _).mono ?_
      rintro e w1 ⟨rfl, k1⟩
      go_wp2_with fail
      refine (HK0.out _ (ha.kp k1)).mono ?_
      rintro e w2 ⟨⟨gk, rfl, bk, rk⟩, k2⟩
      go_wp2_with (first
        | (at_make; refine wpList_make_fresh (o := ⟨some 26, _, _, _, _, _⟩) (z := .int .u8 0) (b := 1) Try.underlying22 Try.info5 rfl (by decide) rfl _ _ rfl 64 rfl rfl (by omega) ?_; intro w5 hw5; have hg5 : By 5 w5 w2.heap.size (List.replicate 64 0) := (by rw [hw5]; exact By.fresh _ _ _); have k5 : Kp w2 w5 := (by rw [hw5]; exact (Kp.refl _).alloc _); have s5 : w5.heap.size = w2.heap.size + 1 := (by rw [hw5]; simp); have S5 := Lib.hid s5; clear hw5 s5)
        | (at_make; refine wpList_make_fresh (o := ⟨some 27, _, _, _, _, _⟩) (z := .int .u8 0) (b := 1) Try.underlying22 Try.info5 rfl (by decide) rfl _ _ rfl 64 rfl rfl (by omega) ?_; intro w3 hw3; have hg4' : By 5 w3 w5.heap.size (List.replicate 64 0) := (by rw [hw3]; exact By.fresh _ _ _); have k35 : Kp w5 w3 := (by rw [hw3]; exact (Kp.refl _).alloc _); clear hw3))
      have hg3 : By 5 w3 w2.heap.size (mixB (List.replicate K.length 0) (xorB K 54) 0) := by rw [HKL.out]; exact hg5.kp k35
      have hg4 : By 5 w3 w5.heap.size (mixB (List.replicate K.length 0) (xorB K 92) 0) := by rw [HKL.out]; exact hg4'
      have k3 : Kp w2 w3 := k5.trans k35
      have hne : w2.heap.size ≠ w5.heap.size := by rw [S5.out]; omega
      have hle := k5.size
      clear hg5 k5 k35 hg4'
      go_loopw [9] (fun i wr => ∃ k : Nat, k ≤ 64 ∧ i = .int .i64 k ∧ By 5 wr w2.heap.size (mixB (List.replicate K.length 0) (xorB K 54) k) ∧ By 5 wr w5.heap.size (mixB (List.replicate K.length 0) (xorB K 92) k) ∧ Kp w2 wr) (fun i _ => 64 - (intOf i).toNat)
      case atStart => exact ⟨0, by omega, rfl, hg3, hg4, k3⟩
      case round =>
        clear hg3 hg4 k3
        obtain ⟨k, hk, rfl, hB3, hB4, hkp⟩ := hrel
        by_cases hlt : k < 64
        · have ck := (bk.kp hkp).cell k (by rw [HKL.out]; exact hlt)
          have CK := Lib.hid (bk.cell k (by rw [HKL.out]; exact hlt))
          have e3 := HML.out 54 k hk
          have e4 := HML.out 92 k hk
          rw [List.length_replicate] at e3 e4
          have e3 := e3.trans HKL.out
          have e4 := e4.trans HKL.out
          have c3 := hB3.cell k (by rw [e3]; exact hlt)
          have f3 := hB3.frozen k
          have c4 := hB4.cell k (by rw [e4]; exact hlt)
          have f4 := hB4.frozen k
          have x3 := ub8_xor (K.getD k 0) 54
          have x4 := ub8_xor (K.getD k 0) 92
          have H3 := Lib.hid (HX.out 54 k hlt)
          have H4 := Lib.hid (HX.out 92 k hlt)
          have q : (k : Int) < 64 := by omega
          change bits .xor .u8 _ 54 = _ at x3
          change bits .xor .u8 _ 92 = _ at x4
          generalize K.getD k 0 = x at *
          generalize x ^^^ 54 = y3 at *
          generalize x ^^^ 92 = y4 at *
          generalize mixB (List.replicate K.length 0) (xorB K 54) k = L3 at *
          generalize mixB (List.replicate K.length 0) (xorB K 92) k = L4 at *
          have hk4 : Kp w2 (wr.setCell ⟨w2.heap.size, k, none⟩ (.int .u8 (y3.toNat : Int))) := Below.setCell hkp (Nat.le_refl _) _
          have hB4' : By 5 (wr.setCell ⟨w2.heap.size, k, none⟩ (.int .u8 (y3.toNat : Int))) w5.heap.size L4 := hB4.other _ _ (Ne.symm hne)
          have ck' := hk4.cell CK.out
          have c4' := hB4'.cell k (by rw [e4]; exact hlt)
          have f4' := hB4'.frozen k
          clear e3 e4 c4 f4
          go_wp2_with fail
          go_roundw
          case rel => exact ⟨k + 1, by omega, by go_num, (hB3.set k y3 H3.out).other _ _ hne, (hB4.other _ _ (Ne.symm hne)).set k y4 H4.out, Below.setCell (Below.setCell hkp (Nat.le_refl _) _) hle _⟩
          case measure => simp [intOf]; omega
        · obtain rfl : k = 64 := by omega
          have hall : ∀ y : UInt8, mixB (List.replicate K.length 0) (xorB K y) 64 = xorB K y := fun y => by
            have := mixB_all (List.replicate K.length 0) (xorB K y) (by simp [xorB_length])
            rwa [HXL.out y] at this
          rw [hall 54] at hB3
          rw [hall 92] at hB4
          have o3 := hB3.ow (n := 64) (HXL.out 54) (Nat.le_refl _) (by omega)
          have o4 := hB4.ow (n := 64) (HXL.out 92) (Nat.le_refl _) (by omega)
          have k1r := (k1.trans k2).trans hkp
          have hsr := hkp.size
          have hs5 := hB4.lt
          clear hall hB3 hB4
          go_wp2_with (at_builtin; refine wpList_append_ow U rfl _ _ rfl w2.heap.size (.slice (some ⟨w2.heap.size, 0, none⟩) 64 64) _ rfl o3 _ lb rfl (hb.kp k1r) ?c1 hsr ?_; rotate_right; intro v6 w6 o6 g6 _; have k6 : Kp w2 w6 := Kp.grown hkp g6 o3.own_ge)
          case c1 => rw [HXL.out]; omega
          have o46 : Ow 5 w6 w5.heap.size (.slice (some ⟨w5.heap.size, 0, none⟩) 64 64) (xorB K 92) := o4.kept g6 (.inr (fun e => hne (Option.some.inj e).symm))
          have hlt6 := (World.ownsRow.lt o46 w5.heap.size rfl).2
          clear g6
          refine (refSum_own _ _ _ o6.rd (by rw [List.length_append, HXL.out]; omega)).mono ?_
          rintro e w7 ⟨⟨v7, rfl, o7⟩, k7⟩
          have k17 := ((k1.trans k2).trans k6).trans k7
          go_wp2_with fail
          refine (mac_sum _ _ la lb _ (ha.kp k17) (hb.kp k17) (by omega) (by omega)).mono ?_
          rintro e w8 ⟨⟨a8, c8, rfl, o8⟩, k8⟩
          have o48 := (o46.kp k7).kp k8
          have k28 := (k6.trans k7).trans k8
          go_wp2_with (at_builtin; go_guarded; go_must (refine wp_append_ow U (.tmp 57) (.tmp 58) rfl w5.heap.size (.slice (some ⟨w5.heap.size, 0, none⟩) 64 64) _ rfl o48 _ (digest (xorB K 54 ++ lb)) rfl (o7.rd.kp k8) ?c2 ?c3 ?_; rotate_right; intro v9 w9 o9 g9 _; have k9 : Kp w2 w9 := Kp.grown k28 g9 (fun k hk => Nat.le_trans hle (o48.own_ge k hk))))
          case c2 => rw [HXL.out, HD.out]; omega
          case c3 => exact Nat.le_of_lt (Nat.lt_of_lt_of_le hlt6 (k7.trans k8).size)
          refine (refSum_own _ _ _ o9.rd (by rw [List.length_append, HXL.out, HD.out]; omega)).mono ?_
          rintro e w10 ⟨⟨v10, rfl, o10⟩, k10⟩
          have r10 : Rd w10 (.slice a8 32 c8) (macB la lb) := by
            have r9 : Ow 5 w9 w7.heap.size (.slice a8 32 c8) (macB la lb) := o8.kept g9 (.inr (fun e => by
              have h8 := World.ownsRow.lt o8 w5.heap.size e
              have := k7.size
              omega))
            exact r9.rd.kp k10
          go_wp2_with fail
          refine (same_at _ _ _ _ true _ r10 o10.rd (decide_eq_true HM.out)).mono ?_
          rintro e w11 ⟨rfl, rfl⟩
          go_wp2_with fail
          go_ret
          exact ⟨rfl, ((k1.trans k2).trans k9).trans k10⟩
    · have h2' : (300 < (lb.length : Int)) := by omega
      clear h2
      go_enter Try.func7, Try.ntmps7
      go_wp2_with fail
      refine (shownMac_any _).mono ?_
      rintro e w1 ⟨rfl, k1⟩
      go_wp2_with fail
      go_ret
      exact ⟨rfl, k1⟩
  · have h1' : (200 < (la.length : Int)) := by omega
    clear h1
    go_enter Try.func7, Try.ntmps7
    go_wp2_with fail
    refine (shownMac_any _).mono ?_
    rintro e w1 ⟨rfl, k1⟩
    go_wp2_with fail
    go_ret
    exact ⟨rfl, k1⟩
end Go.Proofs.Ytpbhikpcbfldgaa

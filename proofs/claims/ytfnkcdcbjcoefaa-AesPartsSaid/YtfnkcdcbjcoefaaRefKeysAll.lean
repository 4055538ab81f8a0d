/- pyxref05: Keys. -/
import Derived.Test.YtfnkcdcbjcoefaaRefKeys
import Derived.Test.YtfnkcdcbjcoefaaAesKeys
set_option linter.unusedVariables false
set_option linter.unusedSimpArgs false
namespace Go.Proofs.Ytfnkcdcbjcoefaa
open Go.RowKit

set_option maxRecDepth 100000 in
set_option maxHeartbeats 2000000 in
theorem refKeys_any5 (u : Value) (key : List UInt8) (w : World) (hu : Rd w u key) :
    Calls Try.prog 11 #[u] w fun e w' => (∃ r, e = .returned (.tuple #[r, .int .i64 (keyE key)]) ∧ RL w' r (keyR key)) ∧ Kp w w' := by
  have U := u8
  obtain ⟨a1, c1, rfl, h1, h2⟩ := hu.shape
  by_cases hk : key.length = 16
  · have e0 : keyE key = 0 := if_pos hk
    have r0 : keyR key = rowsK (keysL key) 11 := if_pos hk
    rw [e0, r0]
    have HKL := Lib.hid (keysL_length hk)
    have HK := Lib.hid hk
    have HU := Lib.hid hu
    have HN := Lib.hid (rowsK_next (keysL key))
    have HRL : Hid (∀ n, n < 11 → (rowK (keysL key) n).length = 16) := fun n hn => rowK_length (by rw [HKL.out]; omega)
    have HL0 : Hid (rowsK (keysL key) 0 = []) := rfl
    have HLL : Hid (∀ n, (rowsK (keysL key) n).length = n) := rowsK_length _
    have SR := rows1
    have HKR : Hid (∀ bx W, Rd W (.slice a1 key.length c1) key → By 5 W bx boxRow → Calls Try.prog 26 #[.slice a1 key.length c1, .slice (some ⟨bx, 0, none⟩) 256 256] W fun e w' => (∃ r, e = .returned r ∧ Ow 5 w' W.heap.size r (keysL key)) ∧ Kp W w') := fun bx W h1 h2 => refKeysRow_any _ key bx W h1 hk h2
    rw [hk] at HKR HU h1 ⊢
    generalize rowsK (keysL key) = F at *
    generalize keysL key = K at *
    clear e0 r0 hk hu
    go_enter Try.func11, Try.ntmps11
    go_wp2_with fail
    refine (boxes_any w).mono ?_; rintro _ w1 ⟨⟨rfl, hX⟩, k1⟩
    go_wp2_with fail
    refine (HKR.out w.heap.size w1 (HU.out.kp k1) hX).mono ?_; rintro _ w2 ⟨⟨r, rfl, ho⟩, k2⟩
    have hk2 := k1.trans k2
    obtain ⟨gk, ck, rfl, z1, z2, z3, z4⟩ := ow_some5 ho (by rw [HKL.out]; omega)
    have hrd := ho.rd
    rw [HKL.out] at hrd z3 ⊢
    unfold maxLen at z4
    have HRD := Lib.hid hrd
    clear ho hrd hX k1 k2 HU HKR
    go_wp2_with fail
    go_loopw [5, 6] (fun v p wr => ∃ (n : Nat) (x : Value), n ≤ 11 ∧ p = .int .i64 n ∧ x = v ∧ RO 22 wr w2.heap.size v (F n) ∧ Kp w2 wr) (fun _ p _ => 11 - (intOf p).toNat)
    case atStart => exact ⟨0, _, by omega, rfl, rfl, by rw [HL0.out]; exact RO.nil _ _ _, Kp.refl _⟩
    case round =>
      obtain ⟨n, v, hn, rfl, rfl, hR, hkp⟩ := hrel
      by_cases hlt : n < 11
      · have q1 : (n : Int) < 11 := by omega
        have hrl := HRL.out n hlt
        have hnx := Lib.hid (HN.out n)
        have hrow := (HRD.out.kp hkp).cutAt (16 * n) 16 (by omega) (by omega)
        have hX0 : (K.drop (16 * n)).take 16 = rowK K n := rfl
        rw [hX0, Nat.zero_add] at hrow
        generalize hX : rowK K n = X at *
        have hle := hkp.size
        have hle2 := hk2.size
        have HRO := Lib.hid hR
        have hll := HLL.out n
        obtain ⟨s, hs⟩ : ∃ s, 16 * n = s := ⟨_, rfl⟩
        rw [hs] at hrow
        have e1 : IntKind.i64.wrap (16 * (n : Int)) = 16 * (n : Int) := IntWalk.i64_in _ (by omega)
        have e2 : 16 * (n : Int) = (s : Int) := by omega
        have e3 : IntKind.i64.wrap ((s : Int) + 16) = (s : Int) + 16 := IntWalk.i64_in _ (by omega)
        have e4 : (s : Int) + 16 ≤ (ck : Int) := by omega
        have e5 : (s : Int) ≤ (s : Int) + 16 := by omega
        have e6 : ((s : Int) + 16 - (s : Int)).toNat = 16 := by omega
        have e7 : ((s : Int) + 16).toNat = s + 16 := by omega
        have e8 : IntKind.i64.wrap (s : Int) = s := IntWalk.i64_in _ (by omega)
        have HRLX := Lib.hid hrl
        have hlt' : ∀ k, v.ownBlock = some k → w2.heap.size ≤ k := fun k hk => (HRO.out.lt k hk).1
        clear hX hR hX0 hs hrl
        go_wp2_with (at_builtin; first
          | (refine wpList_append_ow (o := ⟨some 26, _, _, _, _, _⟩) U rfl _ _ rfl wr.heap.size _ [] rfl (Ow.lit wr _ _ 0 #[] [] (Nat.le_refl _) rfl (by omega) rfl) _ X rfl (hrow.kp ((Kp.refl _).alloc _)) (by rw [HRLX.out]; simp) (by simp) ?_; intro v2 w3 ho2 hg2 _; have k3 : Kp wr w3 := Kp.grown ((Kp.refl wr).alloc _) hg2 (fun k e => by cases e; exact Nat.le_refl _); have ho3 : Ow 5 w3 wr.heap.size v2 X := (by simpa using ho2); obtain ⟨g, c, rfl, y1, y2, y3, y4⟩ := ow_some5 ho3 (by rw [HRLX.out]; omega); have hne : v.ownBlock ≠ some g := fun e => (by have := (HRO.out.lt g e).2; omega); have k4 := k3.alloc (.cells #[.slice (some ⟨g, 0, none⟩) X.length c] 22); have hro := HRO.out.kp k4; have hr3 := ho3.rd.kp ((Kp.refl w3).alloc (.cells #[.slice (some ⟨g, 0, none⟩) X.length c] 22)); have hone := (One.new 22 w3 (.slice (some ⟨g, 0, none⟩) X.length c)).cell; have hkw : Kp w2 (w3.alloc (.cells #[.slice (some ⟨g, 0, none⟩) X.length c] 22)) := hkp.trans k4; clear ho2 hg2 ho3)
          | (refine wpList_append_row (o := ⟨some 28, _, _, _, _, _⟩) SR rfl _ _ rfl w2.heap.size v (F n) rfl hro g c w3.heap.size X rfl hone hr3 (by simp; omega) hne (by rw [hll]; omega) hkw.size ?_; intro v' w4 hro4 hgr))
        rw [← hnx.out] at hro4
        have hk4 : Kp w2 w4 := Kp.grown hkw hgr hlt'
        clear hgr hkw hro
        go_roundw
        case rel => exact ⟨n + 1, _, by omega, by go_num, rfl, hro4, hk4⟩
        case measure => simp [intOf]; omega
      · obtain rfl : n = 11 := by omega
        go_wp2_with fail
        go_ret2
        exact ⟨⟨_, rfl, hR.rl⟩, hk2.trans hkp⟩
  · have e0 : keyE key = 1 := if_neg hk
    have r0 : keyR key = [] := if_neg hk
    rw [e0, r0]
    have hb2 : ((key.length : Int) == 16) = false := beq_eq_false_iff_ne.2 (by omega)
    have hb3 : ¬ (key.length : Int) = 16 := by omega
    go_enter Try.func11, Try.ntmps11
    go_wp2_with fail
    go_ret2
    exact ⟨⟨_, rfl, RL.nil _⟩, Kp.refl _⟩
end Go.Proofs.Ytfnkcdcbjcoefaa

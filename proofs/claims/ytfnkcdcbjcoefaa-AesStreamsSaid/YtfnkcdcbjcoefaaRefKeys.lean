/- pyxref05.keys: the words, byte by byte. -/
import Derived.Test.YtfnkcdcbjcoefaaRefBoxes
import Derived.Test.YtfnkcdcbjcoefaaAesNum
set_option linter.unusedVariables false
set_option linter.unusedSimpArgs false
namespace Go.Proofs.Ytfnkcdcbjcoefaa
open Go.RowKit

theorem keyNext_at (W : List UInt8) (i k : Nat) (hl : W.length = 4 * i + k) (hk : k < 4) :
    (i % 4 ≠ 0 → W.getD (4 * i - 16 + k) 0 ^^^ W.getD (4 * i - 4 + k) 0 = keyNext W) ∧
    (i % 4 = 0 → k ≠ 0 → W.getD (4 * i - 16 + k) 0 ^^^ boxB (W.getD (4 * i - 4 + (k + 1) % 4) 0) = keyNext W) ∧
    (i % 4 = 0 → k = 0 → W.getD (4 * i - 16 + k) 0 ^^^ (boxB (W.getD (4 * i - 4 + (k + 1) % 4) 0) ^^^ rcon (i / 4 - 1)) = keyNext W) := by
  have e1 : (4 * i + k) / 4 = i := by omega
  have e2 : (4 * i + k) % 4 = k := by omega
  refine ⟨fun h => ?_, fun h h2 => ?_, fun h h2 => ?_⟩
  · unfold keyNext
    simp only [hl, e1, e2, h, if_false, false_and]
  · unfold keyNext
    simp only [hl, e1, e2, h, h2, if_true, if_false, and_false]
  · unfold keyNext
    simp only [hl, e1, e2]
    rw [if_pos ⟨h, h2⟩, if_pos h]

set_option maxRecDepth 100000 in
set_option maxHeartbeats 4000000 in
theorem refKeysRow_any (v : Value) (key : List UInt8) (bx : Nat) (w : World) (hv : Rd w v key) (hk : key.length = 16) (hX : By 5 w bx boxRow) :
    Calls Try.prog 26 #[v, .slice (some ⟨bx, 0, none⟩) 256 256] w fun e w' => (∃ r, e = .returned r ∧ Ow 5 w' w.heap.size r (keysL key)) ∧ Kp w w' := by
  have U := u8
  obtain ⟨av, cv, rfl, h1, h2⟩ := hv.shape
  rw [hk] at hv h1 ⊢
  have HK := Lib.hid hk
  have HL : Hid (∀ n, (keysTo key n).length = 16 + n) := fun n => by rw [keysTo_length, hk]
  have HT : Hid (∀ n, keysTo key n ++ [keyNext (keysTo key n)] = keysTo key (n + 1)) := fun n => rfl
  have HKL : Hid (keysTo key 160 = keysL key) := rfl
  have HK0 : Hid (keysTo key 0 = key) := rfl
  generalize hF : keysTo key = F at *
  generalize keysL key = K at *
  clear hF
  go_enter Try.func26, Try.ntmps26
  go_wp2_with (at_builtin; refine wpList_append_ow U rfl _ _ rfl w.heap.size _ [] rfl (Ow.lit w _ _ 0 #[] [] (Nat.le_refl _) rfl (by omega) rfl) _ key rfl (hv.kp ((Kp.refl _).alloc _)) (by rw [HK.out]; simp) (by simp) ?_; intro v1 w1 ho1 hg1 _)
  have hk1 : Kp w w1 := Kp.grown ((Kp.refl w).alloc _) hg1 (fun k e => by cases e; exact Nat.le_refl _)
  have ho1' : Ow 5 w1 w.heap.size v1 (F 0) := by rw [HK0.out]; simpa using ho1
  have hbx := hX.lt
  clear hg1 ho1 hv h1 h2
  go_loopw [5, 6, 7] (fun v r p wr => ∃ (i : Nat) (x : Value), 4 ≤ i ∧ i ≤ 44 ∧ p = .int .i64 i ∧ x = v ∧ r = .int .u8 ((rcon ((i - 1) / 4)).toNat : Int) ∧ Ow 5 wr w.heap.size v (F (4 * i - 16)) ∧ Kp w wr) (fun _ _ p _ => 44 - (intOf p).toNat)
  case atStart => exact ⟨4, _, by omega, by omega, rfl, rfl, rfl, ho1', hk1⟩
  case round =>
    clear ho1' hk1
    obtain ⟨i, x, h4, hi, rfl, rfl, rfl, ho, hk⟩ := hrel
    by_cases hlt : i < 44
    · have q1 : (i : Int) < 44 := by omega
      have w1 : IntKind.i64.wrap (4 * (i : Int)) = 4 * (i : Int) := IntWalk.i64_in _ (by omega)
      have w2 : IntKind.i64.wrap (4 * (i : Int) - 4) = 4 * (i : Int) - 4 := IntWalk.i64_in _ (by omega)
      have w3 : IntKind.i64.wrap (4 * (i : Int) - 16) = 4 * (i : Int) - 16 := IntWalk.i64_in _ (by omega)
      have hmod : (i : Int).tmod 4 = ((i % 4 : Nat) : Int) := by rw [Int.tmod_eq_emod_of_nonneg (by omega)]; omega
      have hmod2 : (i : Int) % 4 = ((i % 4 : Nat) : Int) := by omega
      go_wp2_with fail
      go_loopw [5, 8] (fun v p wr => ∃ (k : Nat) (x : Value), k ≤ 4 ∧ p = .int .i64 k ∧ x = v ∧ Ow 5 wr w.heap.size v (F (4 * i - 16 + k)) ∧ Kp w wr) (fun _ p _ => 4 - (intOf p).toNat)
      case atStart => exact ⟨0, _, by omega, rfl, rfl, ho, hk⟩
      case round =>
        clear ho hk
        obtain ⟨k, x, hk4, rfl, rfl, ho, hk⟩ := hrel
        by_cases hltk : k < 4
        · have qk : (k : Int) < 4 := by omega
          obtain ⟨n, hn⟩ : ∃ n, 4 * i - 16 + k = n := ⟨_, rfl⟩
          have hl := HL.out n
          rw [hn] at ho
          have hnx : 4 * i - 16 + (k + 1) = n + 1 := by omega
          have HNX := Lib.hid hnx
          have HT1 := HT.out n
          obtain ⟨ka, kb, kc⟩ := keyNext_at (F n) i k (by rw [hl]; omega) hltk
          rw [hn] at ka kb kc
          obtain ⟨N, hN⟩ : ∃ N, 16 + n = N := ⟨_, rfl⟩
          rw [hN] at hl
          obtain ⟨p1, hp1⟩ : ∃ p, 4 * i - 4 + k = p := ⟨_, rfl⟩
          obtain ⟨m, hm⟩ : ∃ m, (k + 1) % 4 = m := ⟨_, rfl⟩
          obtain ⟨p3, hp3⟩ : ∃ p, 4 * i - 4 + m = p := ⟨_, rfl⟩
          rw [hp1] at ka
          rw [hm, hp3] at kb kc
          have HOW := Lib.hid ho.own_ge
          obtain ⟨g, c, rfl, g1, g2, g3, g4⟩ := ow_some5 ho (by omega)
          obtain ⟨b, off, hbo, hblt, hcell⟩ := ho.rd.at 0 (by omega)
          cases hbo
          have c1 := hcell p1 (by omega)
          have c2 := hcell n (by omega)
          have c3 := hcell p3 (by omega)
          rw [Nat.zero_add] at c1 c2 c3
          have c4 := (hX.kp hk).cell ((F n).getD p3 0).toNat (by rw [boxRow_length]; exact u8_lt _)
          rw [boxRow_get] at c4
          have hul := u8_lt ((F n).getD p3 0)
          have i6 : (((F n).getD p3 0).toNat : Int) < 256 := by omega
          have i7 : IntKind.i64.wrap (((F n).getD p3 0).toNat : Int) = (((F n).getD p3 0).toNat : Int) := IntWalk.i64_in _ (by omega)
          have x1 := b8_xor ((F n).getD n 0) ((F n).getD p1 0)
          have x2 := b8_xor ((F n).getD n 0) (boxB ((F n).getD p3 0))
          have x3 := b8_xor (boxB ((F n).getD p3 0)) (rcon ((i - 1) / 4))
          have x4 := b8_xor ((F n).getD n 0) (boxB ((F n).getD p3 0) ^^^ rcon ((i - 1) / 4))
          rw [hl] at ho g3 ⊢
          have HN := Lib.hid hl
          unfold maxLen at g4
          have e1 : 4 * (i : Int) - 4 + (k : Int) = (p1 : Int) := by omega
          have e2 : 4 * (i : Int) - 16 + (k : Int) = (n : Int) := by omega
          have e3 : 4 * (i : Int) - 4 + (m : Int) = (p3 : Int) := by omega
          have v1 : IntKind.i64.wrap (p1 : Int) = p1 := IntWalk.i64_in _ (by omega)
          have v2 : IntKind.i64.wrap (n : Int) = n := IntWalk.i64_in _ (by omega)
          have v3 : IntKind.i64.wrap (p3 : Int) = p3 := IntWalk.i64_in _ (by omega)
          have v4 : IntKind.i64.wrap ((k : Int) + 1) = (k : Int) + 1 := IntWalk.i64_in _ (by omega)
          have v5 : ((k : Int) + 1).tmod 4 = (m : Int) := by rw [Int.tmod_eq_emod_of_nonneg (by omega)]; omega
          have v6 : ((k : Int) + 1) % 4 = (m : Int) := by omega
          have u1 : (p1 : Int) < (N : Int) := by omega
          have u2 : (n : Int) < (N : Int) := by omega
          have u3 : (p3 : Int) < (N : Int) := by omega
          have hNl : N ≤ 176 := by omega
          clear hcell hl hN hp1 hp3 hm hn
          by_cases hi4 : i % 4 = 0
          · rw [hi4] at hmod hmod2
            by_cases hk0 : k = 0
            · have hky := kc hi4 hk0
              rw [show i / 4 - 1 = (i - 1) / 4 by omega] at hky
              rw [hky] at x4
              have hk00 : ((k : Int) == 0) = true := by rw [hk0]; rfl
              clear hk0
              generalize (F n).getD p3 0 = X3 at *
              generalize (F n).getD p1 0 = X1 at *
              generalize (F n).getD n 0 = X2 at *
              generalize boxB X3 ^^^ rcon ((i - 1) / 4) = Z at *
              generalize boxB X3 = X4 at *
              generalize hYY : keyNext (F n) = Y at *
              have HY := Lib.hid HT1
              clear ka kb kc x1 x2 hYY hky HT1
              go_wp2_with (at_builtin; refine wpList_append_ow U rfl _ _ rfl w.heap.size _ _ rfl (ho.kp ((Kp.refl _).alloc _)) _ [Y] rfl (Rd.box _ _ _ Y rfl) (by rw [HN.out]; simp; omega) (hk.alloc _).size ?_; intro v' w2 ho2 hg _)
              rw [HY.out] at ho2
              have hk2 : Kp w w2 := Kp.grown (hk.alloc _) hg HOW.out
              clear hg ho hk
              go_roundw
              case rel => exact ⟨k + 1, _, by omega, by go_num, rfl, by rw [HNX.out]; exact ho2, hk2⟩
              case measure => simp [intOf]; omega
            · have hky := kb hi4 hk0
              rw [hky] at x2
              have hk00 : ¬ (k : Int) = 0 := by omega
              have hk01 : ((k : Int) == 0) = false := beq_eq_false_iff_ne.2 hk00
              generalize (F n).getD p3 0 = X3 at *
              generalize (F n).getD p1 0 = X1 at *
              generalize (F n).getD n 0 = X2 at *
              generalize boxB X3 = X4 at *
              generalize hYY : keyNext (F n) = Y at *
              have HY := Lib.hid HT1
              clear ka kb kc x1 x3 x4 hYY hky HT1
              go_wp2_with (at_builtin; refine wpList_append_ow U rfl _ _ rfl w.heap.size _ _ rfl (ho.kp ((Kp.refl _).alloc _)) _ [Y] rfl (Rd.box _ _ _ Y rfl) (by rw [HN.out]; simp; omega) (hk.alloc _).size ?_; intro v' w2 ho2 hg _)
              rw [HY.out] at ho2
              have hk2 : Kp w w2 := Kp.grown (hk.alloc _) hg HOW.out
              clear hg ho hk
              go_roundw
              case rel => exact ⟨k + 1, _, by omega, by go_num, rfl, by rw [HNX.out]; exact ho2, hk2⟩
              case measure => simp [intOf]; omega
          · have hky := ka hi4
            rw [hky] at x1
            have hm0 : ¬ ((i % 4 : Nat) : Int) = 0 := by omega
            have hm1 : (((i % 4 : Nat) : Int) == 0) = false := beq_eq_false_iff_ne.2 hm0
            obtain ⟨im, him⟩ : ∃ m, i % 4 = m := ⟨_, rfl⟩
            rw [him] at hmod hmod2 hm0 hm1
            generalize (F n).getD p1 0 = X1 at *
            generalize (F n).getD n 0 = X2 at *
            generalize hYY : keyNext (F n) = Y at *
            have HY := Lib.hid HT1
            clear ka kb kc x2 x3 x4 c3 c4 hul i6 i7 hYY hky HT1 him
            go_wp2_with (at_builtin; refine wpList_append_ow U rfl _ _ rfl w.heap.size _ _ rfl (ho.kp ((Kp.refl _).alloc _)) _ [Y] rfl (Rd.box _ _ _ Y rfl) (by rw [HN.out]; simp; omega) (hk.alloc _).size ?_; intro v' w2 ho2 hg _)
            rw [HY.out] at ho2
            have hk2 : Kp w w2 := Kp.grown (hk.alloc _) hg HOW.out
            clear hg ho hk
            go_roundw
            case rel => exact ⟨k + 1, _, by omega, by go_num, rfl, by rw [HNX.out]; exact ho2, hk2⟩
            case measure => simp [intOf]; omega
        · obtain rfl : k = 4 := by omega
          have hnx : 4 * (i + 1) - 16 = 4 * i - 16 + 4 := by omega
          have HNX := Lib.hid hnx
          have HMU := Lib.hid (refMul_any (rcon ((i - 1) / 4)) 2 wr)
          by_cases hi4 : i % 4 = 0
          · have hrc : mulB (rcon ((i - 1) / 4)) 2 = rcon ((i + 1 - 1) / 4) := by
              rw [show (i + 1 - 1) / 4 = (i - 1) / 4 + 1 by omega]
              rfl
            have HRC := Lib.hid hrc
            generalize mulB (rcon ((i - 1) / 4)) 2 = R2 at *
            generalize rcon ((i - 1) / 4) = R1 at *
            have hm0 : (((i % 4 : Nat) : Int) == 0) = true := by rw [hi4]; rfl
            obtain ⟨im, him⟩ : ∃ m, i % 4 = m := ⟨_, rfl⟩
            rw [him] at hmod hmod2 hm0
            clear hi4 him hrc hnx
            go_wp2_with (go_at_call 14; refine HMU.out.mono ?_; rintro _ _ ⟨rfl, rfl⟩)
            go_roundw
            case rel => exact ⟨i + 1, _, by omega, by omega, by go_num, rfl, by rw [HRC.out], by rw [HNX.out]; exact ho, hk⟩
            case measure => simp [intOf]; omega
          · have hrc : rcon ((i - 1) / 4) = rcon ((i + 1 - 1) / 4) := by rw [show (i + 1 - 1) / 4 = (i - 1) / 4 by omega]
            have HRC := Lib.hid hrc
            generalize rcon ((i - 1) / 4) = R1 at *
            have hm0 : ¬ ((i % 4 : Nat) : Int) = 0 := by omega
            have hm1 : (((i % 4 : Nat) : Int) == 0) = false := beq_eq_false_iff_ne.2 hm0
            obtain ⟨im, him⟩ : ∃ m, i % 4 = m := ⟨_, rfl⟩
            rw [him] at hmod hmod2 hm0 hm1
            clear hi4 him hrc hnx
            go_wp2_with fail
            go_roundw
            case rel => exact ⟨i + 1, _, by omega, by omega, by go_num, rfl, by rw [HRC.out], by rw [HNX.out]; exact ho, hk⟩
            case measure => simp [intOf]; omega
    · obtain rfl : i = 44 := by omega
      have ho' : Ow 5 wr w.heap.size x K := by rw [← HKL.out]; exact ho
      clear ho
      go_wp2_with fail
      go_ret
      exact ⟨⟨_, rfl, ho'⟩, hk⟩
end Go.Proofs.Ytfnkcdcbjcoefaa

/- ShaKeys. -/
import Derived.Test.YtgialijhnghdgaaSquare
import Derived.Test.YtgialijhnghdgaaLawE
set_option linter.unusedVariables false
set_option linter.unusedSimpArgs false
namespace Go.Proofs.Ytgialijhnghdgaa
open Go.RowKit

theorem prime_at (n : Nat) (b : Bool) (w : World) (hn : n < 400) (h : primeB n = b) :
    Calls Try.prog 22 #[.int .i64 n] w fun e w' => e = .returned (.bool b) ∧ w = w' := by
  subst h
  exact prime_any n w hn
theorem cube_at (x p : Nat) (b : Bool) (w : World) (hx : x < 281474976710656) (h : cubeB x p = b) :
    Calls Try.prog 23 #[.int .i64 x, .int .i64 p] w fun e w' => e = .returned (.bool b) ∧ Kp w w' := by
  subst h
  exact cube_any x p w hx
theorem square_at (v t p : Nat) (b : Bool) (w : World) (hv : v ≤ 8) (ht : t ≤ 4294967296) (h : squareB v t p = b) :
    Calls Try.prog 24 #[.int .i64 v, .int .i64 t, .int .i64 p] w fun e w' => e = .returned (.bool b) ∧ w = w' := by
  subst h
  exact square_any v t p w hv ht
theorem cube_small (k : Nat) (h : k * k * k ≤ 311) : k ≤ 6 := Nat.le_of_not_lt fun h7 => by
  have := Nat.mul_le_mul (Nat.mul_le_mul h7 h7) h7
  omega
theorem square_small (k : Nat) (h : k * k ≤ 19) : k ≤ 4 := Nat.le_of_not_lt fun h7 => by
  have := Nat.mul_le_mul h7 h7
  omega
theorem pr_small : ∀ i : Fin 8, pr (i.val + 1) ≤ 19 := by decide
theorem key_nat (i : Nat) (h : i < 64) (w : World) : Calls Try.prog 18 #[.int .i64 i] w fun e w' => e = .returned (.int .u32 (((keyL.getD i 0).toNat : Nat) : Int)) ∧ Kp w w' := by
  have hk : keyOf (i : Int) = keyL.getD i 0 := if_pos ⟨by omega, by omega⟩
  have := key_any (i : Int) w
  rw [hk] at this
  exact this

set_option maxRecDepth 100000 in
set_option maxHeartbeats 4000000 in
theorem shaKeys_walk (n : Int) (w : World) (hn : 0 ≤ n ∧ n ≤ 255) :
    Calls Try.prog 6 #[.int .u8 n] w (Yes w) := by
  obtain ⟨m, rfl⟩ := Int.eq_ofNat_of_zero_le hn.1
  have hm : m ≤ 255 := by omega
  obtain ⟨i, hi⟩ : ∃ i, m % 64 = i := ⟨_, rfl⟩
  have hi64 : i < 64 := by omega
  have e1 : (m : Int) % 64 = (i : Int) := by omega
  have w1 : IntKind.i64.wrap (m : Int) = (m : Int) := by rw [IntKind.wrap_i64]; omega
  have hi64' : (i : Int) < 64 := by omega
  clear hn hi
  go_enter Try.func6, Try.ntmps6
  go_wp2_with fail
  refine (shown_any _).mono ?_
  rintro e wa ⟨rfl, ka⟩
  go_wp2_with fail
  rw [e1]
  clear e1 w1 hm
  go_loopw [5, 6] (fun pv nv wr => (∃ (j : Nat) (z : Int), nv = .int .i64 z ∧ j ≤ i + 1 ∧ z = (j : Int) - 1 ∧ pv = .int .i64 (pr j)) ∧ wa = wr) (fun _ nv _ => ((i : Int) - intOf nv).toNat)
  case atStart => exact ⟨⟨0, -1, rfl, by omega, rfl, rfl⟩, rfl⟩
  case round =>
    obtain ⟨⟨j, z, rfl, hj, hz, rfl⟩, rfl⟩ := hrel
    by_cases hlt : j < i + 1
    · obtain ⟨g1, g2, g3, g4⟩ := pr_gap ⟨j, by omega⟩
      clear g4
      simp only at g1 g2 g3
      have hnone := fun q h1 h2 => pr_none j q (by omega) h1 h2
      have hz1 : z < (i : Int) := by omega
      have z2 : IntKind.i64.wrap (z + 1) = z + 1 := by rw [IntKind.wrap_i64]; omega
      obtain ⟨P, hP⟩ : ∃ P, pr j = P := ⟨_, rfl⟩
      obtain ⟨Q, hQ⟩ : ∃ Q, pr (j + 1) = Q := ⟨_, rfl⟩
      have h1 := hnone
      rw [hP] at g1 h1 ⊢
      rw [hQ] at g1 g2 g3 h1
      have p1 : IntKind.i64.wrap ((P : Int) + 1) = (P : Int) + 1 := by rw [IntKind.wrap_i64]; omega
      have HQ := Lib.hid hQ
      have HN := Lib.hid h1
      have HG := Lib.hid g3
      have HZ := Lib.hid hz
      clear hP hQ hnone h1 g3 hz
      go_wp2_with fail
      go_loopw [5] (fun pv wr => (∃ q : Nat, pv = .int .i64 q ∧ P < q ∧ q ≤ Q) ∧ wa = wr) (fun pv _ => (400 - intOf pv).toNat)
      case atStart => exact ⟨⟨P + 1, by go_num, by omega, by omega⟩, rfl⟩
      case round =>
        obtain ⟨⟨q, rfl, hq1, hq2⟩, rfl⟩ := hrel
        have q1 : IntKind.i64.wrap ((q : Int) + 1) = (q : Int) + 1 := by rw [IntKind.wrap_i64]; omega
        by_cases hqQ : q = Q
        · subst hqQ
          go_wp2_with fail
          refine (prime_at q true _ (by omega) HG.out).mono ?_
          rintro e w' ⟨rfl, rfl⟩
          go_wp2_with fail
          go_roundw
          case rel => exact ⟨⟨j + 1, z + 1, rfl, by omega, by have := HZ.out; omega, by rw [HQ.out]⟩, trivial⟩
          case measure => simp [intOf]; omega
        · have hqn := HN.out q hq1 (by omega)
          have HQN := Lib.hid hqn
          clear hqn
          go_wp2_with fail
          refine (prime_at q false _ (by omega) HQN.out).mono ?_
          rintro e w' ⟨rfl, rfl⟩
          go_wp2_with fail
          go_roundw
          case rel => exact ⟨⟨q + 1, by go_num, by omega, by omega⟩, trivial⟩
          case measure => simp [intOf]; omega
    · obtain rfl : j = i + 1 := by omega
      have hz1 : ¬ z < (i : Int) := by omega
      obtain ⟨g1, g2, g3, g4⟩ := pr_gap ⟨i, by omega⟩
      clear g1 g3 g4
      simp only at g2
      have hkr := keys_right ⟨i, by omega⟩
      simp only at hkr
      have hsr := fun h : i < 8 => starts_right ⟨i, h⟩
      have hps := fun h : i < 8 => pr_small ⟨i, h⟩
      simp only at hsr hps
      obtain ⟨P, hP⟩ : ∃ P, pr (i + 1) = P := ⟨_, rfl⟩
      rw [hP] at g2 hkr hsr hps ⊢
      have HK := Lib.hid hkr
      have HSR := Lib.hid hsr
      have HPS := Lib.hid hps
      clear hP hkr hsr hps hz hj hlt
      go_wp2_with fail
      go_loopw [7] (fun v wr => (∃ k : Nat, v = .int .i64 k ∧ k * k * k ≤ P) ∧ wa = wr) (fun v _ => (400 - intOf v).toNat)
      case atStart => exact ⟨⟨0, rfl, by omega⟩, rfl⟩
      case round =>
        obtain ⟨⟨k, rfl, hk⟩, rfl⟩ := hrel
        have hk6 := cube_small k (by omega)
        obtain ⟨K1, h1⟩ : ∃ K1, k + 1 = K1 := ⟨_, rfl⟩
        have b1 : K1 ≤ 7 := by omega
        obtain ⟨K2, h2⟩ : ∃ K2, K1 * K1 = K2 := ⟨_, rfl⟩
        have b2 : K2 ≤ 49 := by rw [← h2]; exact Nat.mul_le_mul b1 b1
        obtain ⟨K3, h3⟩ : ∃ K3, K2 * K1 = K3 := ⟨_, rfl⟩
        have b3 : K3 ≤ 343 := by rw [← h3]; exact Nat.mul_le_mul b2 b1
        have e1 : (k : Int) + 1 = (K1 : Int) := by omega
        have e2 : (K1 : Int) * (K1 : Int) = (K2 : Int) := by rw [← h2]; simp
        have e3 : (K2 : Int) * (K1 : Int) = (K3 : Int) := by rw [← h3]; simp
        have w1 : IntKind.i64.wrap (K1 : Int) = (K1 : Int) := by rw [IntKind.wrap_i64]; omega
        have w2 : IntKind.i64.wrap (K2 : Int) = (K2 : Int) := by rw [IntKind.wrap_i64]; omega
        have w3 : IntKind.i64.wrap (K3 : Int) = (K3 : Int) := by rw [IntKind.wrap_i64]; omega
        have hK3 : K3 = K1 * K1 * K1 := by rw [← h3, ← h2]
        have H3 := Lib.hid hK3
        have H1 := Lib.hid h1
        clear h1 h2 h3 hK3
        by_cases hle : K3 ≤ P
        · have hlei : (K3 : Int) ≤ (P : Int) := by omega
          go_wp2_with fail
          go_roundw
          case rel => exact ⟨⟨K1, rfl, by rw [← H3.out]; exact hle⟩, trivial⟩
          case measure => have := H1.out; simp [intOf]; omega
        · have hlei : ¬ (K3 : Int) ≤ (P : Int) := by omega
          have hks := HK.out ⟨k, by omega⟩ hk (by simp only; rw [H1.out, ← H3.out]; omega)
          simp only at hks
          obtain ⟨X, hX⟩ : ∃ X, (keyL.getD i 0).toNat = X := ⟨_, rfl⟩
          have hX4 : X < 4294967296 := by rw [← hX]; exact (keyL.getD i 0).toNat_lt
          have hkey := key_nat i hi64
          rw [hX] at hkey hks
          obtain ⟨L, hL⟩ : ∃ L, k * 4294967296 + X = L := ⟨_, rfl⟩
          rw [hL] at hks
          have e4 : (k : Int) * 4294967296 + (X : Int) = (L : Int) := by omega
          have w4 : IntKind.i64.wrap ((k : Int) * 4294967296) = (k : Int) * 4294967296 := by rw [IntKind.wrap_i64]; omega
          have w5 : IntKind.i64.wrap (X : Int) = (X : Int) := by rw [IntKind.wrap_i64]; omega
          have w6 : IntKind.i64.wrap (L : Int) = (L : Int) := by rw [IntKind.wrap_i64]; omega
          have w7 : IntKind.i64.wrap ((L : Int) + 1) = ((L + 1 : Nat) : Int) := by rw [IntKind.wrap_i64]; omega
          have hLb : L + 1 < 281474976710656 := by omega
          have HKY := Lib.hid hkey
          have HC := Lib.hid hks
          clear hX hX4 hkey hL hks
          go_wp2_with fail
          refine (HKY.out _).mono ?_
          rintro e wb ⟨rfl, kb⟩
          go_wp2_with fail
          refine (cube_at L P true _ (by omega) HC.out.1).mono ?_
          rintro e wc ⟨rfl, kc⟩
          go_wp2_with fail
          refine (cube_at (L + 1) P false _ hLb HC.out.2).mono ?_
          rintro e wd ⟨rfl, kd⟩
          have kwd : Kp w wd := ((ka.trans kb).trans kc).trans kd
          clear ka kb kc kd e4 w4 w5 w6 w7 hLb HC HKY e1 e2 e3 w1 w2 w3
          by_cases h7 : 7 < i
          · have h7i : (7 : Int) < (i : Int) := by omega
            go_wp2_with fail
            go_ret
            exact ⟨rfl, kwd⟩
          · have h7i : ¬ (7 : Int) < (i : Int) := by omega
            have hi8 : i < 8 := by omega
            have hP19 := HPS.out hi8
            have hi8i : (i : Int) < 8 := by omega
            go_wp2_with fail
            refine (start_any _).mono ?_
            rintro e we ⟨rfl, ke⟩
            go_wp2_with (refine wpList_store_arr' (by kernel_rfl) rfl rfl (.tmp 9) (.tmp 58) rfl we.heap.size (zeros 8) startS.list rfl rfl (Arr.new _ _ _ _ rfl) rfl rfl ?_; intro wf hRf hbut; have hkf : Kp we wf := hbut.below ((Kp.refl we).alloc _) (Nat.le_refl _); clear hbut)
            have kwf : Kp w wf := (kwd.trans ke).trans hkf
            go_loopw [10] (fun v wr => (∃ k : Nat, v = .int .i64 k ∧ k * k ≤ P) ∧ wf = wr) (fun v _ => (400 - intOf v).toNat)
            case atStart => exact ⟨⟨0, rfl, by omega⟩, rfl⟩
            case round =>
              clear hkf ke
              obtain ⟨⟨r, rfl, hr⟩, rfl⟩ := hrel
              have hr4 := square_small r (by omega)
              obtain ⟨R1, h1⟩ : ∃ R1, r + 1 = R1 := ⟨_, rfl⟩
              have b1 : R1 ≤ 5 := by omega
              obtain ⟨R2, h2⟩ : ∃ R2, R1 * R1 = R2 := ⟨_, rfl⟩
              have b2 : R2 ≤ 25 := by rw [← h2]; exact Nat.mul_le_mul b1 b1
              have e1 : (r : Int) + 1 = (R1 : Int) := by omega
              have e2 : (R1 : Int) * (R1 : Int) = (R2 : Int) := by rw [← h2]; simp
              have w1 : IntKind.i64.wrap (R1 : Int) = (R1 : Int) := by rw [IntKind.wrap_i64]; omega
              have w2 : IntKind.i64.wrap (R2 : Int) = (R2 : Int) := by rw [IntKind.wrap_i64]; omega
              have H2 := Lib.hid h2
              have H1 := Lib.hid h1
              clear h1 h2
              by_cases hle : R2 ≤ P
              · have hlei : (R2 : Int) ≤ (P : Int) := by omega
                go_wp2_with fail
                go_roundw
                case rel => exact ⟨⟨R1, rfl, by rw [H2.out]; exact hle⟩, trivial⟩
                case measure => have := H1.out; simp [intOf]; omega
              · have hlei : ¬ (R2 : Int) ≤ (P : Int) := by omega
                have hss := HSR.out hi8 ⟨r, by omega⟩ hr (by simp only; rw [H1.out, H2.out]; omega)
                simp only at hss
                have hc := hRf.cell i hi8
                have hut : ∀ x : UInt32, u x = (x.toNat : Int) := fun _ => rfl
                rw [hut] at hc
                obtain ⟨X, hX⟩ : ∃ X, (startS.list.getD i 0).toNat = X := ⟨_, rfl⟩
                have hX4 : X < 4294967296 := by rw [← hX]; exact (startS.list.getD i 0).toNat_lt
                rw [hX] at hc hss
                have w5 : IntKind.i64.wrap (X : Int) = (X : Int) := by rw [IntKind.wrap_i64]; omega
                have w7 : IntKind.i64.wrap ((X : Int) + 1) = ((X + 1 : Nat) : Int) := by rw [IntKind.wrap_i64]; omega
                have HC := Lib.hid hss
                have hX5 : X + 1 ≤ 4294967296 := by omega
                clear hX hX4 hss
                go_wp2_with fail
                refine (square_at r X P true _ (by omega) (by omega) HC.out.1).mono ?_
                rintro e w' ⟨rfl, rfl⟩
                go_wp2_with fail
                refine (square_at r (X + 1) P false _ (by omega) hX5 HC.out.2).mono ?_
                rintro e w' ⟨rfl, rfl⟩
                go_wp2_with fail
                go_ret
                exact ⟨rfl, kwf⟩
end Go.Proofs.Ytgialijhnghdgaa

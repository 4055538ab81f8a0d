/- Contracts of the document's own answers: numbers. -/
import Derived.Test.YtpaopnjknpoacaaNum2
namespace Go.Proofs.Ytpaopnjknpoacaa
open Go.RowKit

set_option maxHeartbeats 400000 in
theorem power_any (k : Int) (w : World) (h : k ≤ 7) :
    Calls Try.prog 36 #[.int .i64 k] w fun e w' => e = .returned (.int .i64 (pw k.toNat)) ∧ w = w' := by
  by_cases h0 : 0 ≤ k
  · obtain ⟨k, rfl⟩ := Int.eq_ofNat_of_zero_le h0
    rw [Int.toNat_natCast]
    go_enter Try.func36, Try.ntmps36
    go_wp2
    go_loop [3, 4] (fun n i => ∃ j : Nat, j ≤ k ∧ i = .int .i64 j ∧ n = .int .i64 (pw j)) (fun _ i => k - (intOf i).toNat)
    case atStart => exact ⟨0, Nat.zero_le _, rfl, rfl⟩
    case round =>
      obtain ⟨j, hj, rfl, rfl⟩ := hrel
      by_cases hlt : j < k
      · have hb := pw_le6 j (by omega)
        have hs := Lib.hid (pw_succ j)
        go_wp2
        go_round
        case rel => exact ⟨j + 1, by omega, by go_num, by rw [hs.out]; go_num⟩
        case measure => simp [intOf]; omega
      · go_wp2
        go_ret
        have : j = k := by omega
        subst this
        exact ⟨rfl, rfl⟩
  · have e : k.toNat = 0 := by omega
    rw [e]
    go_enter Try.func36, Try.ntmps36
    go_wp2
    refine wp_loop_rounds 1 ?_
    rw [rounds_succ]
    go_wp2
    go_ret
    exact ⟨rfl, rfl⟩

theorem be_high (k t n : Nat) (h : t < k) : be (k - t) (n / pw t) = be (k - (t + 1)) (n / pw (t + 1)) ++ [UInt8.ofNat (n / pw t)] := by
  obtain ⟨m, rfl⟩ : ∃ m, k = t + 1 + m := ⟨k - (t + 1), by omega⟩
  rw [show t + 1 + m - t = m + 1 from by omega, show t + 1 + m - (t + 1) = m from by omega, be, pw_succ, Nat.mul_comm 256, ← Nat.div_div_eq_div_mul]

set_option maxHeartbeats 800000 in
theorem refNum_any (n k : Int) (w : World) (hn : -9223372036854775808 ≤ n ∧ n ≤ 9223372036854775807) :
    Calls Try.prog 13 #[.int .i64 n, .int .i64 k] w fun e w' => ∃ v, e = .returned (.tuple #[v, .int .i64 (numE n k)]) ∧ Ow 5 w' w.heap.size v (numB n k) ∧ Kp w w' := by
  have U := u8
  by_cases h1 : numOk n k
  · obtain ⟨e1, e2⟩ := num_yes h1
    have E1 := Lib.hid e1
    have E2 := Lib.hid e2
    clear e1 e2
    obtain ⟨k1, k7, n0, hlt⟩ := h1
    obtain ⟨n, rfl⟩ := Int.eq_ofNat_of_zero_le n0
    obtain ⟨k, rfl⟩ := Int.eq_ofNat_of_zero_le (show 0 ≤ k by omega)
    have hlt' : n < pw k := (pow256 n k).1 hlt
    clear hlt
    have hdk : decide (pw k ≤ n) = false := by simp; omega
    generalize hB : w.heap.size = B at *
    have HB := Lib.hid hB
    clear hB
    go_enter Try.func13, Try.ntmps13
    go_wp2_with (go_at_call 36; refine (power_any _ _ k7).mono ?_; rintro e w' ⟨rfl, rfl⟩; rw [Int.toNat_natCast])
    go_loopw [6, 7] (fun v i wr => ∃ t : Nat, t ≤ k ∧ i = .int .i64 ((t : Int) - 1) ∧ Ow 5 wr B v (be (k - t) (n / pw t)) ∧ Below B w wr) (fun _ i _ => (intOf i + 1).toNat)
    case atStart => exact ⟨k, Nat.le_refl _, rfl, by rw [Nat.sub_self]; exact Ow.nil _ _ _, Below.refl _ _⟩
    case round =>
      obtain ⟨t, ht, rfl, hown, hbel⟩ := hrel
      cases t with
      | zero =>
        go_wp2_with fail
        go_ret2
        rw [E1.out, E2.out]
        exact ⟨_, rfl, by simpa [pw] using hown, hbel.mono (by rw [HB.out]; exact Nat.le_refl _)⟩
      | succ t =>
        rw [show ((t + 1 : Nat) : Int) - 1 = t from by omega]
        have hp := pw_pos t
        have hb := pw_le t (by omega)
        have hB := hbel.size
        have hBw : B ≤ wr.heap.size := by rw [← HB.out]; exact hB
        obtain ⟨q, hq⟩ : ∃ q : Nat, q = n / pw t := ⟨_, rfl⟩
        have hqn : q ≤ n := by rw [hq]; exact Nat.div_le_self _ _
        have hd : (n : Int) / (pw t : Int) = (q : Int) := by rw [hq]; rfl
        have HQ := Lib.hid hq
        clear hq
        go_wp2_with (first
          | (go_at_call 36; refine (power_any _ _ (by omega)).mono ?_; rintro e w' ⟨rfl, rfl⟩; rw [Int.toNat_natCast])
          | (at_builtin; refine wpList_append_ow U rfl _ _ rfl B _ _ rfl (hown.kp ((Kp.refl _).alloc _)) _ [UInt8.ofNat q] rfl ?c1 ?c2 ?c3 ?_))
        case c1 => exact Rd.box _ _ _ _ (by simp)
        case c2 => rw [be_length]; simp; omega
        case c3 => simp; omega
        intro v' w1 hown1 hg _
        have hb1 : Below B w w1 := Below.grown' (hbel.alloc hBw _) hg (by simp; omega) (hown.kp ((Kp.refl _).alloc _))
        clear hg hown
        go_wp2
        go_roundw
        case rel => exact ⟨t, by omega, rfl, by rw [be_high k t n (by omega), ← HQ.out]; exact hown1, hb1⟩
        case measure => simp [intOf]
  · obtain ⟨e1, e2⟩ := num_no h1
    rw [e1, e2]
    clear e1 e2
    by_cases h2 : k < 1
    · have d2 : decide (k < 1) = true := by simp [h2]
      go_enter Try.func13, Try.ntmps13
      go_wp2_with fail
      go_ret2
      exact ⟨_, rfl, Ow.nil _ _ _, Kp.refl _⟩
    · have d2 : decide (k < 1) = false := by simp [h2]
      by_cases h3 : 7 < k
      · have d3 : decide (7 < k) = true := by simp [h3]
        go_enter Try.func13, Try.ntmps13
        go_wp2_with fail
        go_ret2
        exact ⟨_, rfl, Ow.nil _ _ _, Kp.refl _⟩
      · have d3 : decide (7 < k) = false := by simp [h3]
        by_cases h4 : n < 0
        · have d4 : decide (n < 0) = true := by simp [h4]
          go_enter Try.func13, Try.ntmps13
          go_wp2_with fail
          go_ret2
          exact ⟨_, rfl, Ow.nil _ _ _, Kp.refl _⟩
        · have d4 : decide (n < 0) = false := by simp [h4]
          obtain ⟨n, rfl⟩ := Int.eq_ofNat_of_zero_le (show 0 ≤ n by omega)
          obtain ⟨k, rfl⟩ := Int.eq_ofNat_of_zero_le (show 0 ≤ k by omega)
          have hge : pw k ≤ n := by
            rcases Nat.lt_or_ge n (pw k) with h | h
            · exact absurd ⟨by omega, by omega, by omega, (pow256 n k).2 h⟩ h1
            · exact h
          have d5 : decide (pw k ≤ n) = true := by simp [hge]
          clear h1
          go_enter Try.func13, Try.ntmps13
          go_wp2_with (go_at_call 36; refine (power_any _ _ (by omega)).mono ?_; rintro e w' ⟨rfl, rfl⟩; rw [Int.toNat_natCast])
          go_ret2
          exact ⟨_, rfl, Ow.nil _ _ _, Kp.refl _⟩

set_option maxHeartbeats 800000 in
theorem refTakeNum_any (v : Value) (l : List UInt8) (at' k : Int) (w : World) (h : Rd w v l) :
    Calls Try.prog 15 #[v, .int .i64 at', .int .i64 k] w fun e w' => e = .returned (.tuple #[.int .i64 (tnN l at' k), .int .i64 (tnP l at' k), .int .i64 (tnE l at' k)]) ∧ w = w' := by
  obtain ⟨a, c, rfl, hc, hm⟩ := h.shape
  unfold maxLen at hm
  by_cases h1 : k < 1 ∨ 7 < k ∨ at' < 0 ∨ (l.length : Int) < at'
  · obtain ⟨e1, e2, e3⟩ := tn_arg h1
    rw [e1, e2, e3]
    clear e1 e2 e3
    by_cases h2 : k < 1
    · have d2 : decide (k < 1) = true := by simp [h2]
      go_enter Try.func15, Try.ntmps15
      go_wp2
      go_ret3
      exact ⟨rfl, rfl⟩
    · have d2 : decide (k < 1) = false := by simp [h2]
      by_cases h3 : 7 < k
      · have d3 : decide (7 < k) = true := by simp [h3]
        go_enter Try.func15, Try.ntmps15
        go_wp2
        go_ret3
        exact ⟨rfl, rfl⟩
      · have d3 : decide (7 < k) = false := by simp [h3]
        by_cases h4 : at' < 0
        · have d4 : decide (at' < 0) = true := by simp [h4]
          go_enter Try.func15, Try.ntmps15
          go_wp2
          go_ret3
          exact ⟨rfl, rfl⟩
        · have d4 : decide (at' < 0) = false := by simp [h4]
          have h5 : (l.length : Int) < at' := by omega
          have d5 : decide ((l.length : Int) < at') = true := by simp [h5]
          go_enter Try.func15, Try.ntmps15
          go_wp2
          go_ret3
          exact ⟨rfl, rfl⟩
  · have d2 : decide (k < 1) = false := by simp; omega
    have d3 : decide (7 < k) = false := by simp; omega
    have d4 : decide (at' < 0) = false := by simp; omega
    have d5 : decide ((l.length : Int) < at') = false := by simp; omega
    obtain ⟨p, rfl⟩ := Int.eq_ofNat_of_zero_le (show 0 ≤ at' by omega)
    obtain ⟨k, rfl⟩ := Int.eq_ofNat_of_zero_le (show 0 ≤ k by omega)
    have d6 : decide (l.length < p) = false := by simp; omega
    have hp1 : (p : Int) ≤ l.length := by omega
    have hk1 : (1 : Int) ≤ k := by omega
    have hk7 : (k : Int) ≤ 7 := by omega
    by_cases h2 : (l.length : Int) - p < k
    · obtain ⟨e1, e2, e3⟩ := tn_short h1 h2
      rw [e1, e2, e3]
      clear e1 e2 e3 h1
      have d7 : decide ((l.length : Int) - p < k) = true := by simp [h2]
      go_enter Try.func15, Try.ntmps15
      go_wp2
      go_ret3
      exact ⟨rfl, rfl⟩
    · obtain ⟨e1, e2, e3⟩ := tn_yes h1 h2
      rw [e1, e2, e3]
      clear e1 e2 e3
      have d7 : decide ((l.length : Int) - p < k) = false := by simp; omega
      clear h1
      go_enter Try.func15, Try.ntmps15
      go_wp2
      go_loop [9, 10] (fun n i => ∃ j : Nat, j ≤ k ∧ i = .int .i64 j ∧ n = .int .i64 (val ((l.drop p).take j))) (fun _ i => k - (intOf i).toNat)
      case atStart => exact ⟨0, Nat.zero_le _, rfl, rfl⟩
      case round =>
        obtain ⟨j, hj, rfl, rfl⟩ := hrel
        by_cases hlt : j < k
        · obtain ⟨b, off, rfl, _, hcell⟩ := h.at (p + j) (by omega)
          have hc0 := hcell (p + j) (by omega)
          clear hcell
          have hb : (val ((l.drop p).take j) : Int) < 281474976710656 := by
            have h1 := val_lt ((l.drop p).take j)
            have h2 : 256 ^ ((l.drop p).take j).length ≤ 256 ^ 6 := Nat.pow_le_pow_right (by omega) (by simp; omega)
            have h3 : (256 : Nat) ^ 6 = 281474976710656 := by decide
            omega
          have hv := val_take (l.drop p) j (by simp; omega)
          have hg : (l.drop p).getD j 0 = l.getD (p + j) 0 := by simp [List.getD_eq_getElem?_getD]
          rw [hg] at hv
          obtain ⟨y, hy⟩ : ∃ y : Nat, y = (l.getD (p + j) 0).toNat := ⟨_, rfl⟩
          have hy2 : (y : Int) < 256 := by have := (l.getD (p + j) 0).toNat_lt; omega
          rw [← hy] at hc0 hv
          obtain ⟨V, hV⟩ : ∃ V : Nat, V = val ((l.drop p).take j) := ⟨_, rfl⟩
          rw [← hV] at hb hv ⊢
          have HV := Lib.hid hv
          clear hv hy hV hg
          go_wp2
          go_round
          case rel => exact ⟨j + 1, by omega, by go_num, by rw [HV.out]; go_num⟩
          case measure => simp [intOf]; omega
        · go_wp2
          go_ret3
          have : j = k := by omega
          subst this
          exact ⟨by simp, rfl⟩
end Go.Proofs.Ytpaopnjknpoacaa

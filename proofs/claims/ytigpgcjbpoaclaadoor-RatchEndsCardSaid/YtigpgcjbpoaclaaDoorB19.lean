import Derived.Test.YtigpgcjbpoaclaaDoorB17
import Derived.Deep.QuietTactic
import Derived.BigQuiet
set_option linter.unusedVariables false
set_option linter.unusedSimpArgs false
namespace Go.Proofs.YtigpgcjbpoaclaaDoor
open Go.RowKit
set_option maxHeartbeats 400000 in
theorem power_any (k : Int) (w : World) (h : k ≤ 7) :
    Calls Tryd.prog 36 #[.int .i64 k] w fun e w' => e = .returned (.int .i64 (pw k.toNat)) ∧ w = w' := by
  by_cases h0 : 0 ≤ k
  · obtain ⟨k, rfl⟩ := Int.eq_ofNat_of_zero_le h0
    rw [Int.toNat_natCast]
    go_enter Tryd.func36, Tryd.ntmps36
    go_wp2
    go_loop [3, 4] (fun n i => ∃ j : Nat, j ≤ k ∧ i = .int .i64 j ∧ n = .int .i64 (pw j)) (fun _ i => k - (intOf i).toNat)
    case atStart => exact ⟨0, Nat.zero_le _, rfl, rfl⟩
    case round =>
      obtain ⟨j, hj, rfl, rfl⟩ := hrel
      by_cases hlt : j < k
      · have hb := pw_le6 j (by omega)
        have hs := Lib.hid (pw_succ j)
        go_wp2
        go_round
        case rel => exact ⟨j + 1, by omega, by go_num, by rw [hs.out]; go_num⟩
        case measure => simp [intOf]; omega
      · go_wp2
        go_ret
        have : j = k := by omega
        subst this
        exact ⟨rfl, rfl⟩
  · have e : k.toNat = 0 := by omega
    rw [e]
    go_enter Tryd.func36, Tryd.ntmps36
    go_wp2
    refine wp_loop_rounds 1 ?_
    rw [rounds_succ]
    go_wp2
    go_ret
    exact ⟨rfl, rfl⟩
theorem be_high (k t n : Nat) (h : t < k) : be (k - t) (n / pw t) = be (k - (t + 1)) (n / pw (t + 1)) ++ [UInt8.ofNat (n / pw t)] := by
  obtain ⟨m, rfl⟩ : ∃ m, k = t + 1 + m := ⟨k - (t + 1), by omega⟩
  rw [show t + 1 + m - t = m + 1 from by omega, show t + 1 + m - (t + 1) = m from by omega, be, pw_succ, Nat.mul_comm 256, ← Nat.div_div_eq_div_mul]
set_option maxHeartbeats 800000 in
theorem refNum_any (n k : Int) (w : World) (hn : -9223372036854775808 ≤ n ∧ n ≤ 9223372036854775807) :
    Calls Tryd.prog 21 #[.int .i64 n, .int .i64 k] w fun e w' => ∃ v, e = .returned (.tuple #[v, .int .i64 (numE n k)]) ∧ Ow 5 w' w.heap.size v (numB n k) ∧ Kp w w' := by
  have U := u8
  by_cases h1 : numOk n k
  · obtain ⟨e1, e2⟩ := num_yes h1
    have E1 := Lib.hid e1
    have E2 := Lib.hid e2
    clear e1 e2
    obtain ⟨k1, k7, n0, hlt⟩ := h1
    obtain ⟨n, rfl⟩ := Int.eq_ofNat_of_zero_le n0
    obtain ⟨k, rfl⟩ := Int.eq_ofNat_of_zero_le (show 0 ≤ k by omega)
    have hlt' : n < pw k := (pow256 n k).1 hlt
    clear hlt
    have hdk : decide (pw k ≤ n) = false := by simp; omega
    generalize hB : w.heap.size = B at *
    have HB := Lib.hid hB
    clear hB
    go_enter Tryd.func21, Tryd.ntmps21
    go_wp2_with (go_at_call 36; refine (power_any _ _ k7).mono ?_; rintro e w' ⟨rfl, rfl⟩; rw [Int.toNat_natCast])
    go_loopw [6, 7] (fun v i wr => ∃ t : Nat, t ≤ k ∧ i = .int .i64 ((t : Int) - 1) ∧ Ow 5 wr B v (be (k - t) (n / pw t)) ∧ Below B w wr) (fun _ i _ => (intOf i + 1).toNat)
    case atStart => exact ⟨k, Nat.le_refl _, rfl, by rw [Nat.sub_self]; exact Ow.nil _ _ _, Below.refl _ _⟩
    case round =>
      obtain ⟨t, ht, rfl, hown, hbel⟩ := hrel
      cases t with
      | zero =>
        go_wp2_with fail
        go_ret2
        rw [E1.out, E2.out]
        exact ⟨_, rfl, by simpa [pw] using hown, hbel.mono (by rw [HB.out]; exact Nat.le_refl _)⟩
      | succ t =>
        rw [show ((t + 1 : Nat) : Int) - 1 = t from by omega]
        have hp := pw_pos t
        have hb := pw_le t (by omega)
        have hB := hbel.size
        have hBw : B ≤ wr.heap.size := by rw [← HB.out]; exact hB
        obtain ⟨q, hq⟩ : ∃ q : Nat, q = n / pw t := ⟨_, rfl⟩
        have hqn : q ≤ n := by rw [hq]; exact Nat.div_le_self _ _
        have hd : (n : Int) / (pw t : Int) = (q : Int) := by rw [hq]; rfl
        have HQ := Lib.hid hq
        clear hq
        go_wp2_with (first
          | (go_at_call 36; refine (power_any _ _ (by omega)).mono ?_; rintro e w' ⟨rfl, rfl⟩; rw [Int.toNat_natCast])
          | (at_builtin; refine wpList_append_ow U rfl _ _ rfl B _ _ rfl (hown.kp ((Kp.refl _).alloc _)) _ [UInt8.ofNat q] rfl ?c1 ?c2 ?c3 ?_))
        case c1 => exact Rd.box _ _ _ _ (by simp)
        case c2 => rw [be_length]; simp; omega
        case c3 => simp; omega
        intro v' w1 hown1 hg _
        have hb1 : Below B w w1 := Below.grown' (hbel.alloc hBw _) hg (by simp; omega) (hown.kp ((Kp.refl _).alloc _))
        clear hg hown
        go_wp2
        go_roundw
        case rel => exact ⟨t, by omega, rfl, by rw [be_high k t n (by omega), ← HQ.out]; exact hown1, hb1⟩
        case measure => simp [intOf]
  · obtain ⟨e1, e2⟩ := num_no h1
    rw [e1, e2]
    clear e1 e2
    by_cases h2 : k < 1
    · have d2 : decide (k < 1) = true := by simp [h2]
      go_enter Tryd.func21, Tryd.ntmps21
      go_wp2_with fail
      go_ret2
      exact ⟨_, rfl, Ow.nil _ _ _, Kp.refl _⟩
    · have d2 : decide (k < 1) = false := by simp [h2]
      by_cases h3 : 7 < k
      · have d3 : decide (7 < k) = true := by simp [h3]
        go_enter Tryd.func21, Tryd.ntmps21
        go_wp2_with fail
        go_ret2
        exact ⟨_, rfl, Ow.nil _ _ _, Kp.refl _⟩
      · have d3 : decide (7 < k) = false := by simp [h3]
        by_cases h4 : n < 0
        · have d4 : decide (n < 0) = true := by simp [h4]
          go_enter Tryd.func21, Tryd.ntmps21
          go_wp2_with fail
          go_ret2
          exact ⟨_, rfl, Ow.nil _ _ _, Kp.refl _⟩
        · have d4 : decide (n < 0) = false := by simp [h4]
          obtain ⟨n, rfl⟩ := Int.eq_ofNat_of_zero_le (show 0 ≤ n by omega)
          obtain ⟨k, rfl⟩ := Int.eq_ofNat_of_zero_le (show 0 ≤ k by omega)
          have hge : pw k ≤ n := by
            rcases Nat.lt_or_ge n (pw k) with h | h
            · exact absurd ⟨by omega, by omega, by omega, (pow256 n k).2 h⟩ h1
            · exact h
          have d5 : decide (pw k ≤ n) = true := by simp [hge]
          clear h1
          go_enter Tryd.func21, Tryd.ntmps21
          go_wp2_with (go_at_call 36; refine (power_any _ _ (by omega)).mono ?_; rintro e w' ⟨rfl, rfl⟩; rw [Int.toNat_natCast])
          go_ret2
          exact ⟨_, rfl, Ow.nil _ _ _, Kp.refl _⟩
theorem mark0 (n : Int) (w : World) (h : n < 64) :
    Calls Tryd.prog 80 #[.int .i64 n] w fun e w' => e = .returned (.int .i64 0) ∧ w = w' := by
  go_enter Tryd.func80, Tryd.ntmps80
  go_wp2
  go_ret
  exact ⟨rfl, rfl⟩
theorem mark1 (n : Int) (w : World) (h0 : 64 ≤ n) (h : n < 16384) :
    Calls Tryd.prog 80 #[.int .i64 n] w fun e w' => e = .returned (.int .i64 1) ∧ w = w' := by
  go_enter Tryd.func80, Tryd.ntmps80
  go_wp2
  go_ret
  exact ⟨rfl, rfl⟩
theorem mark2 (n : Int) (w : World) (h0 : 16384 ≤ n) :
    Calls Tryd.prog 80 #[.int .i64 n] w fun e w' => e = .returned (.int .i64 2) ∧ w = w' := by
  go_enter Tryd.func80, Tryd.ntmps80
  go_wp2
  go_ret
  exact ⟨rfl, rfl⟩
theorem u8_or_high (x m : Int) (h0 : 0 ≤ x) (h1 : x < 64) (hm : m = 0 ∨ m = 64 ∨ m = 128) : bits .or .u8 x m = x + m := by
  have hc : bits .or .u8 x m = bits .or .u8 m x := by simp only [bits, BitVec.or_comm]
  rw [hc, bits_join .u8 8 (by decide) wraps_u8 6 m x (by omega) (by omega) (by omega) h0 (by omega) (by omega)]
  omega
theorem be_raise (k n m : Nat) (h : n / 256 ^ k + m < 256) : be (k + 1) (n + m * 256 ^ k) = UInt8.ofNat (n / 256 ^ k + m) :: be k n := by
  rw [be_cons, Nat.add_mul_div_right _ _ (Nat.pow_pos (by decide))]
  congr 1
  have h2 : ∀ k n m, be k (n + m * 256 ^ k) = be k n := by
    intro k
    induction k with
    | zero => intro n m; rfl
    | succ k ih =>
      intro n m
      rw [be, be, show n + m * 256 ^ (k + 1) = n + 256 * (m * 256 ^ k) from by rw [Nat.pow_succ, ← Nat.mul_assoc, Nat.mul_comm 256],
        Nat.add_mul_div_left _ _ (by decide), ih]
      congr 2
      apply UInt8.toNat_inj.1
      simp
  exact h2 k n m
theorem Ow.set0 {w : World} {B : Nat} {v : Value} {k' n' : Nat} (h : Ow 5 w B v (be k' n')) (k n m : Nat) (hm : n / 256 ^ k + m < 256) (hk : k' = k + 1 := by rfl) (hn : n' = n := by first | rfl | simp) :
    ∃ g c, v = .slice (some ⟨g, 0, none⟩) (k + 1) c ∧ B ≤ g ∧ w.cell? ⟨g, 0, none⟩ = some (.int .u8 ((n / 256 ^ k : Nat) : Int)) ∧ w.frozen? ⟨g, 0, none⟩ = false ∧
      Ow 5 (w.setCell ⟨g, 0, none⟩ (.int .u8 ((n / 256 ^ k + m : Nat) : Int))) B v (be (k + 1) (n + m * 256 ^ k)) := by
  subst hk hn
  rcases h.shape with ⟨_, h0⟩ | ⟨g, c, rfl, hg, _, hc, hcm⟩
  · have := congrArg List.length h0
    rw [be_length] at this
    simp at this
  · have hl : (be (k + 1) n').length = k + 1 := be_length _ _
    refine ⟨g, c, by rw [hl], hg, ?_, h.frozenAt 0, ?_⟩
    · rw [h.cellAt 0 (by rw [hl]; omega), be_cons]
      have : n' / 256 ^ k % 256 = n' / 256 ^ k := Nat.mod_eq_of_lt (by omega)
      simp [Lib.byteCells, this]
    · have h2 := (h.stored 0 (.int .u8 ((n' / 256 ^ k + m : Nat) : Int))).1
      unfold Ow
      rw [be_length, be_raise k n' m hm]
      rw [be_length, be_cons] at h2
      generalize n' / 256 ^ k = q at *
      have : (q + m) % 256 = q + m := Nat.mod_eq_of_lt hm
      have e : Lib.byteCells (UInt8.ofNat (q + m) :: be k n') = (Lib.byteCells (UInt8.ofNat q :: be k n')).set 0 (.int .u8 ((q + m : Nat) : Int)) := by
        simp only [Lib.byteCells, List.map_cons, List.set_cons_zero, UInt8.toNat_ofNat', Nat.reducePow, this]
      rw [e, List.length_cons, be_length]
      exact h2
theorem highestFirst_int (n k : Int) (w : World) (h0 : 0 ≤ n) (h1 : 1 ≤ k) (h7 : k ≤ 7) :
    Calls Tryd.prog 72 #[.int .i64 n, .int .i64 k] w fun e w' => ∃ v, e = .returned v ∧ Ow 5 w' w.heap.size v (be k.toNat n.toNat) ∧ Kp w w' := by
  obtain ⟨k, rfl⟩ := Int.eq_ofNat_of_zero_le (show 0 ≤ k by omega)
  exact highestFirst_any n k w h0 (by omega) (by omega)
set_option maxHeartbeats 400000 in
theorem len_any (n : Int) (w : World) :
    Calls Tryd.prog 76 #[.int .i64 n] w fun e w' => ∃ v, e = .returned (.tuple #[v, .int .i64 (lenE n)]) ∧ Ow 5 w' w.heap.size v (lenB n) ∧ Kp w w' := by
  by_cases h1 : n < 0
  · have d1 : decide (n < 0) = true := by simp [h1]
    have e1 : lenE n = 1 := if_pos (.inl h1)
    have e2 : lenB n = [] := by simp [lenB, e1]
    rw [e1, e2]
    clear e1 e2
    go_enter Tryd.func76, Tryd.ntmps76
    go_wp2_with fail
    go_ret2
    exact ⟨_, rfl, Ow.nil _ _ _, Kp.refl _⟩
  · have d1 : decide (n < 0) = false := by simp [h1]
    by_cases h2 : 1073741823 < n
    · have d2 : decide (1073741823 < n) = true := by simp [h2]
      have e1 : lenE n = 1 := if_pos (.inr h2)
      have e2 : lenB n = [] := by simp [lenB, e1]
      rw [e1, e2]
      clear e1 e2
      go_enter Tryd.func76, Tryd.ntmps76
      go_wp2_with fail
      go_ret2
      exact ⟨_, rfl, Ow.nil _ _ _, Kp.refl _⟩
    · have d2 : decide (1073741823 < n) = false := by simp [h2]
      obtain ⟨n, rfl⟩ := Int.eq_ofNat_of_zero_le (show 0 ≤ n by omega)
      have e1 : lenE n = 0 := if_neg (by omega)
      have e2 : lenB n = lenBytes n := by simp [lenB, e1]
      rw [e1, e2]
      clear e1 e2
      by_cases h3 : n < 64
      · have HE : Hid (lenBytes n = be 1 (n + 0 * 256 ^ 0)) := by show lenBytes n = be 1 (n + 0 * 256 ^ 0); simp [lenBytes, h3]
        have hor : bits .or .u8 (n : Int) 0 = n := by rw [u8_or_high _ _ (by omega) (by omega) (by omega)]; omega
        go_enter Tryd.func76, Tryd.ntmps76
        go_wp2_with (first | (go_at_call 80; refine (mark0 _ _ (by omega)).mono ?_; rintro e w' ⟨rfl, rfl⟩) | (go_at_call 72; refine (highestFirst_int _ 1 _ (by omega) (by omega) (by omega)).mono ?_; rintro e w1 ⟨v, rfl, ho, hk⟩; obtain ⟨g, c, rfl, hg, hcell, hfr, ho2⟩ := ho.set0 0 n 0 (by simp; omega); simp at hcell))
        go_ret2
        refine ⟨_, rfl, ?_, Below.setCell hk hg _⟩
        rw [HE.out]
        simpa using ho2
      · by_cases h4 : n < 16384
        · have HE : Hid (lenBytes n = be 2 (n + 64 * 256 ^ 1)) := by show lenBytes n = be 2 (n + 64 * 256 ^ 1); simp [lenBytes, h3, h4]
          have hor : bits .or .u8 ((n : Int) / 256) 64 = (n : Int) / 256 + 64 := u8_or_high _ _ (by omega) (by omega) (by omega)
          go_enter Tryd.func76, Tryd.ntmps76
          go_wp2_with (first | (go_at_call 80; refine (mark1 _ _ (by omega) (by omega)).mono ?_; rintro e w' ⟨rfl, rfl⟩) | (go_at_call 72; refine (highestFirst_int _ 2 _ (by omega) (by omega) (by omega)).mono ?_; rintro e w1 ⟨v, rfl, ho, hk⟩; obtain ⟨g, c, rfl, hg, hcell, hfr, ho2⟩ := ho.set0 1 n 64 (by omega); simp at hcell))
          go_ret2
          refine ⟨_, rfl, ?_, Below.setCell hk hg _⟩
          rw [HE.out]
          simpa using ho2
        · have HE : Hid (lenBytes n = be 4 (n + 128 * 256 ^ 3)) := by show lenBytes n = be 4 (n + 128 * 256 ^ 3); simp [lenBytes, h3, h4]
          have hor : bits .or .u8 ((n : Int) / 16777216) 128 = (n : Int) / 16777216 + 128 := u8_or_high _ _ (by omega) (by omega) (by omega)
          go_enter Tryd.func76, Tryd.ntmps76
          go_wp2_with (first | (go_at_call 80; refine (mark2 _ _ (by omega)).mono ?_; rintro e w' ⟨rfl, rfl⟩) | (go_at_call 72; refine (highestFirst_int _ 4 _ (by omega) (by omega) (by omega)).mono ?_; rintro e w1 ⟨v, rfl, ho, hk⟩; obtain ⟨g, c, rfl, hg, hcell, hfr, ho2⟩ := ho.set0 3 n 128 (by omega); simp at hcell))
          go_ret2
          refine ⟨_, rfl, ?_, Below.setCell hk hg _⟩
          rw [HE.out]
          simpa using ho2
end Go.Proofs.YtigpgcjbpoaclaaDoor

import Derived.Test.YtigpgcjbpoaclaaGreatDoorB2
import Derived.Test.YtigpgcjbpoaclaaGreatDoorRows
import Derived.WalkSpells
import Derived.Lib.Hide
import Derived.Outline
set_option linter.unusedVariables false
set_option linter.unusedSimpArgs false
namespace Go.Proofs.YtigpgcjbpoaclaaGreatDoor
open Go.RowKit
theorem set_mid (z u : Value) (c : List Value) (m : Nat) : (List.replicate (m + 1) z ++ c).set m u = List.replicate m z ++ u :: c := by
  rw [List.set_append_left _ _ (by simp), List.replicate_succ', List.set_append_right _ _ (by simp)]
  simp
set_option maxHeartbeats 400000 in
theorem highestFirst_any (n : Int) (k : Nat) (w : World) (h0 : 0 ≤ n) (h1 : 1 ≤ k) (h7 : k ≤ 7) :
    Calls Tryz.prog 75 #[.int .i64 n, .int .i64 k] w fun e w' => ∃ v, e = .returned v ∧ Ow 5 w' w.heap.size v (be k n.toNat) ∧ Kp w w' := by
  obtain ⟨i0, hi, hz0, hz1, hz2⟩ := info_parts Tryz.info5
  obtain ⟨n, rfl⟩ := Int.eq_ofNat_of_zero_le h0
  rw [Int.toNat_natCast]
  go_enter Tryz.func75, Tryz.ntmps75
  go_wp2_with (at_make; refine wpList_make_full _ rfl _ _ 22 rfl w.heap.size 5 i0 (.int .u8 0) 1 Tryz.underlying22 hi hz0 hz1 _ _ _ _ k rfl rfl rfl rfl ?b1 ?b2 ?b3 ?_)
  case b1 => rw [hz2]; omega
  case b2 => unfold maxLen; omega
  case b3 => exact Nat.le_refl _
  intro w1 hown hgr
  rw [toList_madeCells_one] at hown
  generalize hB : w.heap.size = B at *
  have HB := Lib.hid hB
  clear hB
  have hk1 : Below B w w1 := Below.grown (Below.refl B w) hgr (by rw [HB.out]; exact Nat.le_refl _) (by simp)
  clear hgr
  go_wp2
  go_loopw [0, 6] (fun x i wr => ∃ j : Nat, j ≤ k ∧ i = .int .i64 ((j : Int) - 1) ∧ x = .int .i64 ((n / 256 ^ (k - j) : Nat) : Int) ∧ wr.ownsRow B 5 1 (.slice (some ⟨B, 0, none⟩) k k) k (List.replicate j (.int .u8 0) ++ Lib.byteCells (be (k - j) n)) ∧ Below B w wr) (fun _ i _ => (intOf i + 1).toNat)
  case atStart => exact ⟨k, Nat.le_refl _, rfl, by simp, by simpa [be, Lib.byteCells] using hown, hk1⟩
  case round =>
    obtain ⟨j, hj, rfl, rfl, hown, hbel⟩ := hrel
    cases j with
    | zero =>
      go_wp2
      go_ret
      refine ⟨_, rfl, ?_, hbel.mono (by rw [HB.out]; exact Nat.le_refl _)⟩
      have hl : (be k n).length = k := be_length _ _
      unfold Ow
      rw [HB.out, hl]
      simpa using hown
    | succ j =>
      have hcell : wr.cell? ⟨B, j, none⟩ = some (.int .u8 0) := by
        rw [hown.cellAt j (by omega), List.getElem?_append_left (by simp)]
        simp
      have hfr := hown.frozenAt j
      rw [show ((j + 1 : Nat) : Int) - 1 = j from by omega]
      generalize hX : n / 256 ^ (k - (j + 1)) = X at *
      have HX := Lib.hid hX
      clear hX
      have hown1 := Lib.hid hown
      clear hown
      go_wp2
      go_roundw
      case rel =>
        obtain ⟨t, ht⟩ : ∃ t, t = k - (j + 1) := ⟨_, rfl⟩
        have hx := HX.out
        have ho := hown1.out
        rw [← ht] at hx ho
        have ht1 : k - j = t + 1 := by omega
        refine ⟨j, by omega, rfl, ?_, ?_, hbel.setCell (Nat.le_refl _) _⟩
        · rw [ht1, Nat.pow_succ, ← Nat.div_div_eq_div_mul, hx]; rfl
        · have h2 := (ho.stored j (.int .u8 ((X : Int) % 256))).1
          rw [set_mid] at h2
          rw [ht1, be_cons, hx]
          have e : Value.int .u8 ((X : Int) % 256) = .int .u8 ((UInt8.ofNat X).toNat : Int) := by simp
          rw [e] at h2 ⊢
          exact h2
      case measure => simp [intOf]
theorem isWidth_any (x : Int) (w : World) :
    Calls Tryz.prog 74 #[.int .i64 x] w fun e w' => e = .returned (.bool (decide (1 ≤ x ∧ x ≤ 7))) ∧ w = w' := by
  by_cases h1 : 1 ≤ x
  · have e : decide (1 ≤ x ∧ x ≤ 7) = decide (x ≤ 7) := by simp [h1]
    rw [e]
    go_enter Tryz.func74, Tryz.ntmps74
    go_wp2
    go_ret
    exact ⟨rfl, rfl⟩
  · have e : decide (1 ≤ x ∧ x ≤ 7) = false := by simp [h1]
    go_enter Tryz.func74, Tryz.ntmps74
    go_wp2
    go_ret
    exact ⟨by simp, rfl⟩
theorem pow8 (k : Nat) : (2 : Int) ^ (8 * k) = ((256 ^ k : Nat) : Int) := by
  rw [Nat.pow_mul' 2 8 k |> fun _ => show (256 : Nat) ^ k = 2 ^ (8 * k) from by rw [Nat.pow_mul]]
  push_cast; rfl
theorem pow256 (n k : Nat) : (n : Int) < 256 ^ (k : Int).toNat ↔ n < 256 ^ k := by
  rw [Int.toNat_natCast, ← Int.ofNat_lt, Int.natCast_pow]; rfl
theorem shr_zero (n k : Nat) (h : n < 256 ^ k) : ((n : Int) / 2 ^ (8 * k) != 0) = false := by
  rw [pow8, ← Int.natCast_ediv, Nat.div_eq_of_lt h]; rfl
theorem shr_pos (n k : Nat) (h : ¬ n < 256 ^ k) : ((n : Int) / 2 ^ (8 * k) != 0) = true := by
  rw [pow8, ← Int.natCast_ediv, bne_iff_ne]
  have : 0 < n / 256 ^ k := Nat.div_pos (by omega) (Nat.pos_of_ne_zero (by simp))
  omega
set_option maxHeartbeats 400000 in
theorem num_any (n k : Int) (w : World) (hn : -9223372036854775808 ≤ n ∧ n ≤ 9223372036854775807) :
    Calls Tryz.prog 68 #[.int .i64 n, .int .i64 k] w fun e w' => ∃ v, e = .returned (.tuple #[v, .int .i64 (numE n k)]) ∧ Ow 5 w' w.heap.size v (numB n k) ∧ Kp w w' := by
  by_cases h1 : 1 ≤ k ∧ k ≤ 7
  · have d1 : decide (1 ≤ k ∧ k ≤ 7) = true := by simp [h1]
    obtain ⟨k1, k7⟩ := h1
    by_cases h2 : n < 0
    · obtain ⟨e1, e2⟩ := num_no (n := n) (w := k) (by unfold numOk; omega)
      rw [e1, e2]
      have d2 : decide (n < 0) = true := by simp [h2]
      go_enter Tryz.func68, Tryz.ntmps68
      go_wp2_with (go_at_call 74; refine (isWidth_any _ _).mono ?_; rintro e w' ⟨rfl, rfl⟩)
      go_ret2
      exact ⟨_, rfl, Ow.nil _ _ _, Kp.refl _⟩
    · obtain ⟨n, rfl⟩ := Int.eq_ofNat_of_zero_le (show 0 ≤ n by omega)
      obtain ⟨k, rfl⟩ := Int.eq_ofNat_of_zero_le (show 0 ≤ k by omega)
      have d2 : decide ((n : Int) < 0) = false := by simp
      by_cases h3 : n < 256 ^ k
      · obtain ⟨e1, e2⟩ := num_yes (n := n) (w := k) ⟨k1, k7, by omega, (pow256 n k).2 h3⟩
        have E1 := Lib.hid e1
        have E2 := Lib.hid e2
        have d3 := shr_zero n k h3
        clear e1 e2 h3
        go_enter Tryz.func68, Tryz.ntmps68
        go_wp2_with (first | (go_at_call 74; refine (isWidth_any _ _).mono ?_; rintro e w' ⟨rfl, rfl⟩) | (go_at_call 75; refine (highestFirst_any _ _ _ (by omega) (by omega) (by omega)).mono ?_; rintro e w' ⟨v, rfl, ho, hk⟩))
        go_ret2
        rw [E1.out, E2.out]
        exact ⟨_, rfl, by simpa using ho, hk⟩
      · obtain ⟨e1, e2⟩ := num_no (n := n) (w := k) (fun h => h3 ((pow256 n k).1 h.2.2.2))
        rw [e1, e2]
        have d3 := shr_pos n k h3
        clear e1 e2 h3
        go_enter Tryz.func68, Tryz.ntmps68
        go_wp2_with (first | (go_at_call 74; refine (isWidth_any _ _).mono ?_; rintro e w' ⟨rfl, rfl⟩))
        go_ret2
        exact ⟨_, rfl, Ow.nil _ _ _, Kp.refl _⟩
  · have d1 : decide (1 ≤ k ∧ k ≤ 7) = false := by simp [h1]
    obtain ⟨e1, e2⟩ := num_no (n := n) (w := k) (by unfold numOk; omega)
    rw [e1, e2]
    go_enter Tryz.func68, Tryz.ntmps68
    go_wp2_with (go_at_call 74; refine (isWidth_any _ _).mono ?_; rintro e w' ⟨rfl, rfl⟩)
    go_ret2
    exact ⟨_, rfl, Ow.nil _ _ _, Kp.refl _⟩
set_option maxHeartbeats 400000 in
theorem power_any (k : Int) (w : World) (h : k ≤ 7) :
    Calls Tryz.prog 59 #[.int .i64 k] w fun e w' => e = .returned (.int .i64 (pw k.toNat)) ∧ w = w' := by
  by_cases h0 : 0 ≤ k
  · obtain ⟨k, rfl⟩ := Int.eq_ofNat_of_zero_le h0
    rw [Int.toNat_natCast]
    go_enter Tryz.func59, Tryz.ntmps59
    go_wp2
    go_loop [3, 4] (fun n i => ∃ j : Nat, j ≤ k ∧ i = .int .i64 j ∧ n = .int .i64 (pw j)) (fun _ i => k - (intOf i).toNat)
    case atStart => exact ⟨0, Nat.zero_le _, rfl, rfl⟩
    case round =>
      obtain ⟨j, hj, rfl, rfl⟩ := hrel
      by_cases hlt : j < k
      · have hb := pw_le6 j (by omega)
        have hs := Lib.hid (pw_succ j)
        go_wp2
        go_round
        case rel => exact ⟨j + 1, by omega, by go_num, by rw [hs.out]; go_num⟩
        case measure => simp [intOf]; omega
      · go_wp2
        go_ret
        have : j = k := by omega
        subst this
        exact ⟨rfl, rfl⟩
  · have e : k.toNat = 0 := by omega
    rw [e]
    go_enter Tryz.func59, Tryz.ntmps59
    go_wp2
    refine wp_loop_rounds 1 ?_
    rw [rounds_succ]
    go_wp2
    go_ret
    exact ⟨rfl, rfl⟩
theorem be_high (k t n : Nat) (h : t < k) : be (k - t) (n / pw t) = be (k - (t + 1)) (n / pw (t + 1)) ++ [UInt8.ofNat (n / pw t)] := by
  obtain ⟨m, rfl⟩ : ∃ m, k = t + 1 + m := ⟨k - (t + 1), by omega⟩
  rw [show t + 1 + m - t = m + 1 from by omega, show t + 1 + m - (t + 1) = m from by omega, be, pw_succ, Nat.mul_comm 256, ← Nat.div_div_eq_div_mul]
set_option maxHeartbeats 800000 in
theorem refNum_any (n k : Int) (w : World) (hn : -9223372036854775808 ≤ n ∧ n ≤ 9223372036854775807) :
    Calls Tryz.prog 48 #[.int .i64 n, .int .i64 k] w fun e w' => ∃ v, e = .returned (.tuple #[v, .int .i64 (numE n k)]) ∧ Ow 5 w' w.heap.size v (numB n k) ∧ Kp w w' := by
  have U := u8
  by_cases h1 : numOk n k
  · obtain ⟨e1, e2⟩ := num_yes h1
    have E1 := Lib.hid e1
    have E2 := Lib.hid e2
    clear e1 e2
    obtain ⟨k1, k7, n0, hlt⟩ := h1
    obtain ⟨n, rfl⟩ := Int.eq_ofNat_of_zero_le n0
    obtain ⟨k, rfl⟩ := Int.eq_ofNat_of_zero_le (show 0 ≤ k by omega)
    have hlt' : n < pw k := (pow256 n k).1 hlt
    clear hlt
    have hdk : decide (pw k ≤ n) = false := by simp; omega
    generalize hB : w.heap.size = B at *
    have HB := Lib.hid hB
    clear hB
    go_enter Tryz.func48, Tryz.ntmps48
    go_wp2_with (go_at_call 59; refine (power_any _ _ k7).mono ?_; rintro e w' ⟨rfl, rfl⟩; rw [Int.toNat_natCast])
    go_loopw [6, 7] (fun v i wr => ∃ t : Nat, t ≤ k ∧ i = .int .i64 ((t : Int) - 1) ∧ Ow 5 wr B v (be (k - t) (n / pw t)) ∧ Below B w wr) (fun _ i _ => (intOf i + 1).toNat)
    case atStart => exact ⟨k, Nat.le_refl _, rfl, by rw [Nat.sub_self]; exact Ow.nil _ _ _, Below.refl _ _⟩
    case round =>
      obtain ⟨t, ht, rfl, hown, hbel⟩ := hrel
      cases t with
      | zero =>
        go_wp2_with fail
        go_ret2
        rw [E1.out, E2.out]
        exact ⟨_, rfl, by simpa [pw] using hown, hbel.mono (by rw [HB.out]; exact Nat.le_refl _)⟩
      | succ t =>
        rw [show ((t + 1 : Nat) : Int) - 1 = t from by omega]
        have hp := pw_pos t
        have hb := pw_le t (by omega)
        have hB := hbel.size
        have hBw : B ≤ wr.heap.size := by rw [← HB.out]; exact hB
        obtain ⟨q, hq⟩ : ∃ q : Nat, q = n / pw t := ⟨_, rfl⟩
        have hqn : q ≤ n := by rw [hq]; exact Nat.div_le_self _ _
        have hd : (n : Int) / (pw t : Int) = (q : Int) := by rw [hq]; rfl
        have HQ := Lib.hid hq
        clear hq
        go_wp2_with (first
          | (go_at_call 59; refine (power_any _ _ (by omega)).mono ?_; rintro e w' ⟨rfl, rfl⟩; rw [Int.toNat_natCast])
          | (at_builtin; refine wpList_append_ow U rfl _ _ rfl B _ _ rfl (hown.kp ((Kp.refl _).alloc _)) _ [UInt8.ofNat q] rfl ?c1 ?c2 ?c3 ?_))
        case c1 => exact Rd.box _ _ _ _ (by simp)
        case c2 => rw [be_length]; simp; omega
        case c3 => simp; omega
        intro v' w1 hown1 hg _
        have hb1 : Below B w w1 := Below.grown' (hbel.alloc hBw _) hg (by simp; omega) (hown.kp ((Kp.refl _).alloc _))
        clear hg hown
        go_wp2
        go_roundw
        case rel => exact ⟨t, by omega, rfl, by rw [be_high k t n (by omega), ← HQ.out]; exact hown1, hb1⟩
        case measure => simp [intOf]
  · obtain ⟨e1, e2⟩ := num_no h1
    rw [e1, e2]
    clear e1 e2
    by_cases h2 : k < 1
    · have d2 : decide (k < 1) = true := by simp [h2]
      go_enter Tryz.func48, Tryz.ntmps48
      go_wp2_with fail
      go_ret2
      exact ⟨_, rfl, Ow.nil _ _ _, Kp.refl _⟩
    · have d2 : decide (k < 1) = false := by simp [h2]
      by_cases h3 : 7 < k
      · have d3 : decide (7 < k) = true := by simp [h3]
        go_enter Tryz.func48, Tryz.ntmps48
        go_wp2_with fail
        go_ret2
        exact ⟨_, rfl, Ow.nil _ _ _, Kp.refl _⟩
      · have d3 : decide (7 < k) = false := by simp [h3]
        by_cases h4 : n < 0
        · have d4 : decide (n < 0) = true := by simp [h4]
          go_enter Tryz.func48, Tryz.ntmps48
          go_wp2_with fail
          go_ret2
          exact ⟨_, rfl, Ow.nil _ _ _, Kp.refl _⟩
        · have d4 : decide (n < 0) = false := by simp [h4]
          obtain ⟨n, rfl⟩ := Int.eq_ofNat_of_zero_le (show 0 ≤ n by omega)
          obtain ⟨k, rfl⟩ := Int.eq_ofNat_of_zero_le (show 0 ≤ k by omega)
          have hge : pw k ≤ n := by
            rcases Nat.lt_or_ge n (pw k) with h | h
            · exact absurd ⟨by omega, by omega, by omega, (pow256 n k).2 h⟩ h1
            · exact h
          have d5 : decide (pw k ≤ n) = true := by simp [hge]
          clear h1
          go_enter Tryz.func48, Tryz.ntmps48
          go_wp2_with (go_at_call 59; refine (power_any _ _ (by omega)).mono ?_; rintro e w' ⟨rfl, rfl⟩; rw [Int.toNat_natCast])
          go_ret2
          exact ⟨_, rfl, Ow.nil _ _ _, Kp.refl _⟩
end Go.Proofs.YtigpgcjbpoaclaaGreatDoor

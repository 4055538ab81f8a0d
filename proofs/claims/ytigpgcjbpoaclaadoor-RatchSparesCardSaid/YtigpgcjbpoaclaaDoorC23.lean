import Derived.Test.YtigpgcjbpoaclaaDoorC3
import Derived.Test.YtigpgcjbpoaclaaDoorC5
import Derived.Test.YtigpgcjbpoaclaaDoorC20
set_option linter.unusedVariables false
set_option linter.unusedSimpArgs false
namespace Go.Proofs.YtigpgcjbpoaclaaDoor
open Go.RowKit
theorem isWidth_any (x : Int) (w : World) :
    Calls Tryd.prog 71 #[.int .i64 x] w fun e w' => e = .returned (.bool (decide (1 ≤ x ∧ x ≤ 7))) ∧ w = w' := by
  by_cases h1 : 1 ≤ x
  · have e : decide (1 ≤ x ∧ x ≤ 7) = decide (x ≤ 7) := by simp [h1]
    rw [e]
    go_enter Tryd.func71, Tryd.ntmps71
    go_wp2
    go_ret
    exact ⟨rfl, rfl⟩
  · have e : decide (1 ≤ x ∧ x ≤ 7) = false := by simp [h1]
    go_enter Tryd.func71, Tryd.ntmps71
    go_wp2
    go_ret
    exact ⟨by simp, rfl⟩
theorem pow8 (k : Nat) : (2 : Int) ^ (8 * k) = ((256 ^ k : Nat) : Int) := by
  rw [Nat.pow_mul' 2 8 k |> fun _ => show (256 : Nat) ^ k = 2 ^ (8 * k) from by rw [Nat.pow_mul]]
  push_cast; rfl
theorem pow256 (n k : Nat) : (n : Int) < 256 ^ (k : Int).toNat ↔ n < 256 ^ k := by
  rw [Int.toNat_natCast, ← Int.ofNat_lt, Int.natCast_pow]; rfl
theorem shr_zero (n k : Nat) (h : n < 256 ^ k) : ((n : Int) / 2 ^ (8 * k) != 0) = false := by
  rw [pow8, ← Int.natCast_ediv, Nat.div_eq_of_lt h]; rfl
theorem shr_pos (n k : Nat) (h : ¬ n < 256 ^ k) : ((n : Int) / 2 ^ (8 * k) != 0) = true := by
  rw [pow8, ← Int.natCast_ediv, bne_iff_ne]
  have : 0 < n / 256 ^ k := Nat.div_pos (by omega) (Nat.pos_of_ne_zero (by simp))
  omega
set_option maxHeartbeats 400000 in
theorem num_any (n k : Int) (w : World) (hn : -9223372036854775808 ≤ n ∧ n ≤ 9223372036854775807) :
    Calls Tryd.prog 65 #[.int .i64 n, .int .i64 k] w fun e w' => ∃ v, e = .returned (.tuple #[v, .int .i64 (numE n k)]) ∧ Ow 5 w' w.heap.size v (numB n k) ∧ Kp w w' := by
  by_cases h1 : 1 ≤ k ∧ k ≤ 7
  · have d1 : decide (1 ≤ k ∧ k ≤ 7) = true := by simp [h1]
    obtain ⟨k1, k7⟩ := h1
    by_cases h2 : n < 0
    · obtain ⟨e1, e2⟩ := num_no (n := n) (w := k) (by unfold numOk; omega)
      rw [e1, e2]
      have d2 : decide (n < 0) = true := by simp [h2]
      go_enter Tryd.func65, Tryd.ntmps65
      go_wp2_with (go_at_call 71; refine (isWidth_any _ _).mono ?_; rintro e w' ⟨rfl, rfl⟩)
      go_ret2
      exact ⟨_, rfl, Ow.nil _ _ _, Kp.refl _⟩
    · obtain ⟨n, rfl⟩ := Int.eq_ofNat_of_zero_le (show 0 ≤ n by omega)
      obtain ⟨k, rfl⟩ := Int.eq_ofNat_of_zero_le (show 0 ≤ k by omega)
      have d2 : decide ((n : Int) < 0) = false := by simp
      by_cases h3 : n < 256 ^ k
      · obtain ⟨e1, e2⟩ := num_yes (n := n) (w := k) ⟨k1, k7, by omega, (pow256 n k).2 h3⟩
        have E1 := Lib.hid e1
        have E2 := Lib.hid e2
        have d3 := shr_zero n k h3
        clear e1 e2 h3
        go_enter Tryd.func65, Tryd.ntmps65
        go_wp2_with (first | (go_at_call 71; refine (isWidth_any _ _).mono ?_; rintro e w' ⟨rfl, rfl⟩) | (go_at_call 72; refine (highestFirst_any _ _ _ (by omega) (by omega) (by omega)).mono ?_; rintro e w' ⟨v, rfl, ho, hk⟩))
        go_ret2
        rw [E1.out, E2.out]
        exact ⟨_, rfl, by simpa using ho, hk⟩
      · obtain ⟨e1, e2⟩ := num_no (n := n) (w := k) (fun h => h3 ((pow256 n k).1 h.2.2.2))
        rw [e1, e2]
        have d3 := shr_pos n k h3
        clear e1 e2 h3
        go_enter Tryd.func65, Tryd.ntmps65
        go_wp2_with (first | (go_at_call 71; refine (isWidth_any _ _).mono ?_; rintro e w' ⟨rfl, rfl⟩))
        go_ret2
        exact ⟨_, rfl, Ow.nil _ _ _, Kp.refl _⟩
  · have d1 : decide (1 ≤ k ∧ k ≤ 7) = false := by simp [h1]
    obtain ⟨e1, e2⟩ := num_no (n := n) (w := k) (by unfold numOk; omega)
    rw [e1, e2]
    go_enter Tryd.func65, Tryd.ntmps65
    go_wp2_with (go_at_call 71; refine (isWidth_any _ _).mono ?_; rintro e w' ⟨rfl, rfl⟩)
    go_ret2
    exact ⟨_, rfl, Ow.nil _ _ _, Kp.refl _⟩
end Go.Proofs.YtigpgcjbpoaclaaDoor
namespace Go.Proofs.YtigpgcjbpoaclaaDoor
open Go.RowKit Go.Shelf
attribute [local go_sem] Oper.semAt_some
set_option maxHeartbeats 1000000 in
theorem places_any (k : Nat) (w : World) :
    Calls Tryd.prog 84 #[.int .i64 k] w fun e w' => e = .returned (.func (.func 87) #[] #[.pointer (some ⟨w.heap.size, 0, none⟩)]) ∧ w.alloc (.cells #[.int .i64 k] 3) = w' := by
  go_enter Tryd.func84, Tryd.ntmps84
  go_wp2
  go_ret
  exact ⟨rfl, rfl⟩
set_option maxRecDepth 100000 in
set_option maxHeartbeats 4000000 in
theorem places_hands (k N b : Nat) (w : World) (hk : 1 ≤ k ∧ k ≤ 6) (hN : 256 ^ k = N + 1) (hw : w.cell? ⟨b, 0, none⟩ = some (.int .i64 k)) :
    Hands Tryd.prog 87 #[.pointer (some ⟨b, 0, none⟩)] (fun i v _ A => Rd A v (be k (i + 1))) N (fun j => j = b) w := by
  intro l J Jx W hh hl1 hl2 hJ hJx hY h0
  have hbw := hh.cell hw rfl
  have HJ := Lib.hid hJ
  have HY := Lib.hid hY
  have hbb : b < w.heap.size := World.block_lt_of_cell? w _ hw
  have hbig : (N : Int) ≤ 281474976710656 := by
    have h2 : 256 ^ k ≤ 256 ^ 6 := Nat.pow_le_pow_right (by omega) hk.2
    have h3 : (256 : Nat) ^ 6 = 281474976710656 := by decide
    omega
  have HN : Hid (∀ i, i < N → numE ((i : Int) + 1) k = 0 ∧ numB ((i : Int) + 1) k = be k (i + 1)) := fun i hi => by
    obtain ⟨h1, h2⟩ := num_yes (n := (i : Int) + 1) (w := k) ⟨by omega, by omega, by omega, by
      have := (pow256 (i + 1) k).2 (by omega)
      simpa using this⟩
    refine ⟨h1, h2.trans ?_⟩
    congr 1
  have HE : Hid (numE ((N : Int) + 1) k = 1) := by
    refine (num_no (n := (N : Int) + 1) (w := k) (fun h => ?_)).1
    have := (pow256 (N + 1) k).1 (by simpa using h.2.2.2)
    omega
  have HH := Lib.hid (And.intro hw hbb)
  have HHeld := Lib.hid hh
  clear hJ hY hN hw
  refine (callsIn_wide (n := 5)).1 ?_
  refine callsIn_of_wp Tryd.func87 rfl trivial ?_ rfl
  simp only [Tryd.ntmps87, List.append_toArray, List.append_nil, List.size_toArray, List.length_cons, List.length_nil, Nat.reduceAdd, Nat.reduceSub, Array.replicate_succ, Array.replicate_zero, List.push_toArray, List.nil_append, List.cons_append]
  gi_wp2
  gi_loopw [3] (fun p wr => ∃ (i : Nat) (Y : Nat → Prop), i ≤ N ∧ p = .int .i64 ((i : Int) + 1) ∧ wr.cell? ⟨b, 0, none⟩ = some (.int .i64 k) ∧ Held (fun j => j = b) w wr ∧ J i Y wr ∧ (∀ j, Y j → W.heap.size ≤ j ∧ j < wr.heap.size) ∧ W.heap.size ≤ wr.heap.size) (fun p _ => N + 1 - (intOf p).toNat)
  case atStart => exact ⟨0, _, by omega, rfl, hbw, HHeld.out, h0, fun _ h => h.elim, Nat.le_refl _⟩
  case round =>
    clear hbw h0
    obtain ⟨i, Y, hi, rfl, hb, hhw, hj, hyb, hsz⟩ := hrel
    have hmx : Tryd.prog.follows .mixedOrders = true := by kernel_rfl
    have hls : Tryd.prog.follows .lateStores = true := by kernel_rfl
    by_cases hlt : i < N
    · obtain ⟨e1, e2⟩ := HN.out i hlt
      gi_wp2_with (refine ⟨trivial, ?_⟩; gi_at_call 65; refine (callsIn_wide.2 (num_any ((i : Int) + 1) k _ (by omega))).mono ?_; rintro e w1 ⟨v1, rfl, o1, k1⟩; rw [e2] at o1; have hj1 := HJ.out i Y Y wr w1 hj hyb (Step.of_kp k1) (fun _ h => .inl h); have hb1 := k1.cell hb; have hyb1 : ∀ j, Y j → W.heap.size ≤ j ∧ j < w1.heap.size := (fun j h => ⟨(hyb j h).1, Nat.lt_of_lt_of_le (hyb j h).2 k1.size⟩); have hw1 := hhw.trans (Held.of_kp k1); have hs1 := k1.size; obtain ⟨fn, tmps, assign, body, hy, hR⟩ := HY.out i Y w1 v1 4 hlt hj1 hyb1 hw1 o1.rd)
      clear hj hb hyb hhw o1
      refine hR.mono ?_
      rintro e w2 ⟨hh2, (⟨rfl, hj2⟩ | ⟨rfl, hx2⟩)⟩
      · have hb2 := hh2.cell hb1 (.inr rfl)
        clear hy hR hb1
        gi_wp2
        go_roundw
        case rel => exact ⟨i + 1, Y, by omega, by go_num, hb2, hw1.trans (hh2.mono (fun _ h => .inr h)), hj2, fun j h => ⟨(hyb1 j h).1, Nat.lt_of_lt_of_le (hyb1 j h).2 hh2.size⟩, by have := hh2.size; omega⟩
        case measure => simp [intOf]; omega
      · clear hy hR hb1
        gi_wp2
        refine bodyPost_ret (results_none rfl _ _ _) rfl ?_
        exact ⟨⟨_, rfl⟩, Y, fun j h => ⟨(hyb1 j h).1, Nat.lt_of_lt_of_le (hyb1 j h).2 hh2.size⟩, .inr ⟨i, hlt, hx2⟩⟩
    · obtain rfl : i = N := by omega
      have e1 := HE.out
      gi_wp2_with (refine ⟨trivial, ?_⟩; gi_at_call 65; refine (callsIn_wide.2 (num_any ((i : Int) + 1) k _ (by omega))).mono ?_; rintro e w1 ⟨v1, rfl, o1, k1⟩)
      refine ⟨fun _ h => (by cases h), ?_⟩
      gi_wp2
      refine bodyPost_ret (results_none rfl _ _ _) rfl ?_
      exact ⟨⟨_, rfl⟩, Y, fun j h => ⟨(hyb j h).1, Nat.lt_of_lt_of_le (hyb j h).2 k1.size⟩, .inl (HJ.out i Y Y wr w1 hj hyb (Step.of_kp k1) (fun _ h => .inl h))⟩
end Go.Proofs.YtigpgcjbpoaclaaDoor

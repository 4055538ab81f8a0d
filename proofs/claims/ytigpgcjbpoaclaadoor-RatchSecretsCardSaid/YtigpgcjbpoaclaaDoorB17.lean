import Derived.Test.YtigpgcjbpoaclaaDoorB2
import Derived.Test.YtigpgcjbpoaclaaDoorB5
import Derived.Test.YtigpgcjbpoaclaaDoorB6
import Derived.Test.YtigpgcjbpoaclaaDoorRows
import Derived.WalkSpells
import Derived.Lib.Hide
import Derived.Outline
set_option linter.unusedVariables false
set_option linter.unusedSimpArgs false
namespace Go.Proofs.YtigpgcjbpoaclaaDoor
open Go.RowKit
def nd (j q : Nat) : Nat := 2 ^ (j + 1) * q + 2 ^ j - 1
theorem p2_pos (k : Nat) : 1 ≤ 2 ^ k := Nat.one_le_two_pow
theorem p2_succ (k : Nat) : 2 ^ (k + 1) = 2 * 2 ^ k := by rw [Nat.pow_succ]; omega
theorem nd_leaf (q : Nat) : nd 0 q = 2 * q := by unfold nd; simp
theorem nd_succ (j q : Nat) : nd (j + 1) q = 2 * nd j q + 1 := by
  unfold nd
  rw [p2_succ (j + 1), p2_succ j, Nat.mul_assoc]
  have := p2_pos j
  omega
theorem nd_half (j q : Nat) : nd (j + 1) q / 2 = nd j q := by rw [nd_succ]; omega
theorem nd_odd (j q : Nat) : nd (j + 1) q % 2 = 1 := by rw [nd_succ]; omega
theorem nd_even (q : Nat) : nd 0 q % 2 = 0 := by rw [nd_leaf]; omega
theorem nd_left (j q : Nat) : nd (j + 1) q - 2 ^ j = nd j (2 * q) ∧ 2 ^ j ≤ nd (j + 1) q := by
  unfold nd
  rw [p2_succ (j + 1), p2_succ j]
  have := p2_pos j
  have e : 2 * (2 * 2 ^ j) * q = 2 * 2 ^ j * (2 * q) := by rw [Nat.mul_comm 2 (2 * 2 ^ j), Nat.mul_assoc]
  rw [e]
  omega
theorem nd_right (j q : Nat) : nd (j + 1) q + 2 ^ j = nd j (2 * q + 1) := by
  unfold nd
  rw [p2_succ (j + 1), p2_succ j, Nat.mul_add]
  have := p2_pos j
  have e : 2 * (2 * 2 ^ j) * q = 2 * 2 ^ j * (2 * q) := by rw [Nat.mul_comm 2 (2 * 2 ^ j), Nat.mul_assoc]
  rw [e]
  omega
theorem nd_inj {j q i r : Nat} (h : nd j q = nd i r) : j = i ∧ q = r := by
  induction j generalizing i with
  | zero =>
    cases i with
    | zero => rw [nd_leaf, nd_leaf] at h; exact ⟨rfl, by omega⟩
    | succ i => have h1 := nd_even q; have h2 := nd_odd i r; omega
  | succ j ih =>
    cases i with
    | zero => have h1 := nd_even r; have h2 := nd_odd j q; omega
    | succ i =>
      rw [nd_succ, nd_succ] at h
      obtain ⟨h1, h2⟩ := ih (i := i) (by omega)
      exact ⟨by omega, h2⟩
theorem nd_of : ∀ (K x : Nat), x < 2 ^ (K + 1) - 1 → ∃ j q, x = nd j q ∧ j ≤ K ∧ q < 2 ^ (K - j)
  | 0, x, h => ⟨0, 0, by simp at h; rw [nd_leaf]; omega, Nat.le_refl _, by simp⟩
  | K + 1, x, h => by
    by_cases hx : x % 2 = 0
    · refine ⟨0, x / 2, by rw [nd_leaf]; omega, by omega, ?_⟩
      rw [p2_succ] at h
      rw [Nat.sub_zero]
      omega
    · obtain ⟨j, q, e, hj, hq⟩ := nd_of K (x / 2) (by rw [p2_succ] at h; omega)
      refine ⟨j + 1, q, by rw [nd_succ, ← e]; omega, by omega, ?_⟩
      rw [Nat.add_sub_add_right]
      exact hq
theorem nd_lt {j q K : Nat} (hj : j ≤ K) (hq : q < 2 ^ (K - j)) : nd j q < 2 ^ (K + 1) - 1 := by
  have e : 2 ^ (K + 1) = 2 ^ (j + 1) * 2 ^ (K - j) := by rw [← Nat.pow_add]; congr 1; omega
  have h1 : 2 ^ (j + 1) * (q + 1) ≤ 2 ^ (K + 1) := by rw [e]; exact Nat.mul_le_mul_left _ hq
  rw [Nat.mul_add, Nat.mul_one] at h1
  unfold nd
  have := p2_pos j
  have := p2_succ j
  omega
theorem nd_root (K : Nat) : nd K 0 = 2 ^ K - 1 := by unfold nd; simp
theorem nd_is_root {j q K : Nat} (hq : q < 2 ^ (K - j)) (hj : j ≤ K) : nd j q = 2 ^ K - 1 ↔ j = K := by
  constructor
  · intro h
    rw [← nd_root] at h
    exact (nd_inj h).1
  · rintro rfl
    simp at hq
    subst hq
    exact nd_root j
def levF : Nat → Nat → Nat
  | 0, _ => 0
  | f + 1, x => if x % 2 = 1 then levF f (x / 2) + 1 else 0
def lev (x : Nat) : Nat := levF 12 x
theorem levF_nd : ∀ (f j q : Nat), j < f → levF f (nd j q) = j
  | 0, j, q, h => by omega
  | f + 1, 0, q, h => by unfold levF; rw [if_neg (by have := nd_even q; omega)]
  | f + 1, j + 1, q, h => by unfold levF; rw [if_pos (nd_odd j q), nd_half, levF_nd f j q (by omega)]
theorem lev_nd (j q : Nat) (h : j ≤ 11) : lev (nd j q) = j := levF_nd 12 j q (by omega)
def sq (q : Nat) : Nat := if q % 2 = 0 then q + 1 else q - 1
theorem set_mid (z u : Value) (c : List Value) (m : Nat) : (List.replicate (m + 1) z ++ c).set m u = List.replicate m z ++ u :: c := by
  rw [List.set_append_left _ _ (by simp), List.replicate_succ', List.set_append_right _ _ (by simp)]
  simp
set_option maxHeartbeats 400000 in
theorem highestFirst_any (n : Int) (k : Nat) (w : World) (h0 : 0 ≤ n) (h1 : 1 ≤ k) (h7 : k ≤ 7) :
    Calls Tryd.prog 72 #[.int .i64 n, .int .i64 k] w fun e w' => ∃ v, e = .returned v ∧ Ow 5 w' w.heap.size v (be k n.toNat) ∧ Kp w w' := by
  obtain ⟨i0, hi, hz0, hz1, hz2⟩ := info_parts Tryd.info5
  obtain ⟨n, rfl⟩ := Int.eq_ofNat_of_zero_le h0
  rw [Int.toNat_natCast]
  go_enter Tryd.func72, Tryd.ntmps72
  go_wp2_with (at_make; refine wpList_make_full _ rfl _ _ 22 rfl w.heap.size 5 i0 (.int .u8 0) 1 Tryd.underlying22 hi hz0 hz1 _ _ _ _ k rfl rfl rfl rfl ?b1 ?b2 ?b3 ?_)
  case b1 => rw [hz2]; omega
  case b2 => unfold maxLen; omega
  case b3 => exact Nat.le_refl _
  intro w1 hown hgr
  rw [toList_madeCells_one] at hown
  generalize hB : w.heap.size = B at *
  have HB := Lib.hid hB
  clear hB
  have hk1 : Below B w w1 := Below.grown (Below.refl B w) hgr (by rw [HB.out]; exact Nat.le_refl _) (by simp)
  clear hgr
  go_wp2
  go_loopw [0, 6] (fun x i wr => ∃ j : Nat, j ≤ k ∧ i = .int .i64 ((j : Int) - 1) ∧ x = .int .i64 ((n / 256 ^ (k - j) : Nat) : Int) ∧ wr.ownsRow B 5 1 (.slice (some ⟨B, 0, none⟩) k k) k (List.replicate j (.int .u8 0) ++ Lib.byteCells (be (k - j) n)) ∧ Below B w wr) (fun _ i _ => (intOf i + 1).toNat)
  case atStart => exact ⟨k, Nat.le_refl _, rfl, by simp, by simpa [be, Lib.byteCells] using hown, hk1⟩
  case round =>
    obtain ⟨j, hj, rfl, rfl, hown, hbel⟩ := hrel
    cases j with
    | zero =>
      go_wp2
      go_ret
      refine ⟨_, rfl, ?_, hbel.mono (by rw [HB.out]; exact Nat.le_refl _)⟩
      have hl : (be k n).length = k := be_length _ _
      unfold Ow
      rw [HB.out, hl]
      simpa using hown
    | succ j =>
      have hcell : wr.cell? ⟨B, j, none⟩ = some (.int .u8 0) := by
        rw [hown.cellAt j (by omega), List.getElem?_append_left (by simp)]
        simp
      have hfr := hown.frozenAt j
      rw [show ((j + 1 : Nat) : Int) - 1 = j from by omega]
      generalize hX : n / 256 ^ (k - (j + 1)) = X at *
      have HX := Lib.hid hX
      clear hX
      have hown1 := Lib.hid hown
      clear hown
      go_wp2
      go_roundw
      case rel =>
        obtain ⟨t, ht⟩ : ∃ t, t = k - (j + 1) := ⟨_, rfl⟩
        have hx := HX.out
        have ho := hown1.out
        rw [← ht] at hx ho
        have ht1 : k - j = t + 1 := by omega
        refine ⟨j, by omega, rfl, ?_, ?_, hbel.setCell (Nat.le_refl _) _⟩
        · rw [ht1, Nat.pow_succ, ← Nat.div_div_eq_div_mul, hx]; rfl
        · have h2 := (ho.stored j (.int .u8 ((X : Int) % 256))).1
          rw [set_mid] at h2
          rw [ht1, be_cons, hx]
          have e : Value.int .u8 ((X : Int) % 256) = .int .u8 ((UInt8.ofNat X).toNat : Int) := by simp
          rw [e] at h2 ⊢
          exact h2
      case measure => simp [intOf]
theorem isWidth_any (x : Int) (w : World) :
    Calls Tryd.prog 71 #[.int .i64 x] w fun e w' => e = .returned (.bool (decide (1 ≤ x ∧ x ≤ 7))) ∧ w = w' := by
  by_cases h1 : 1 ≤ x
  · have e : decide (1 ≤ x ∧ x ≤ 7) = decide (x ≤ 7) := by simp [h1]
    rw [e]
    go_enter Tryd.func71, Tryd.ntmps71
    go_wp2
    go_ret
    exact ⟨rfl, rfl⟩
  · have e : decide (1 ≤ x ∧ x ≤ 7) = false := by simp [h1]
    go_enter Tryd.func71, Tryd.ntmps71
    go_wp2
    go_ret
    exact ⟨by simp, rfl⟩
theorem pow8 (k : Nat) : (2 : Int) ^ (8 * k) = ((256 ^ k : Nat) : Int) := by
  rw [Nat.pow_mul' 2 8 k |> fun _ => show (256 : Nat) ^ k = 2 ^ (8 * k) from by rw [Nat.pow_mul]]
  push_cast; rfl
theorem pow256 (n k : Nat) : (n : Int) < 256 ^ (k : Int).toNat ↔ n < 256 ^ k := by
  rw [Int.toNat_natCast, ← Int.ofNat_lt, Int.natCast_pow]; rfl
theorem shr_zero (n k : Nat) (h : n < 256 ^ k) : ((n : Int) / 2 ^ (8 * k) != 0) = false := by
  rw [pow8, ← Int.natCast_ediv, Nat.div_eq_of_lt h]; rfl
theorem shr_pos (n k : Nat) (h : ¬ n < 256 ^ k) : ((n : Int) / 2 ^ (8 * k) != 0) = true := by
  rw [pow8, ← Int.natCast_ediv, bne_iff_ne]
  have : 0 < n / 256 ^ k := Nat.div_pos (by omega) (Nat.pos_of_ne_zero (by simp))
  omega
set_option maxHeartbeats 400000 in
theorem num_any (n k : Int) (w : World) (hn : -9223372036854775808 ≤ n ∧ n ≤ 9223372036854775807) :
    Calls Tryd.prog 65 #[.int .i64 n, .int .i64 k] w fun e w' => ∃ v, e = .returned (.tuple #[v, .int .i64 (numE n k)]) ∧ Ow 5 w' w.heap.size v (numB n k) ∧ Kp w w' := by
  by_cases h1 : 1 ≤ k ∧ k ≤ 7
  · have d1 : decide (1 ≤ k ∧ k ≤ 7) = true := by simp [h1]
    obtain ⟨k1, k7⟩ := h1
    by_cases h2 : n < 0
    · obtain ⟨e1, e2⟩ := num_no (n := n) (w := k) (by unfold numOk; omega)
      rw [e1, e2]
      have d2 : decide (n < 0) = true := by simp [h2]
      go_enter Tryd.func65, Tryd.ntmps65
      go_wp2_with (go_at_call 71; refine (isWidth_any _ _).mono ?_; rintro e w' ⟨rfl, rfl⟩)
      go_ret2
      exact ⟨_, rfl, Ow.nil _ _ _, Kp.refl _⟩
    · obtain ⟨n, rfl⟩ := Int.eq_ofNat_of_zero_le (show 0 ≤ n by omega)
      obtain ⟨k, rfl⟩ := Int.eq_ofNat_of_zero_le (show 0 ≤ k by omega)
      have d2 : decide ((n : Int) < 0) = false := by simp
      by_cases h3 : n < 256 ^ k
      · obtain ⟨e1, e2⟩ := num_yes (n := n) (w := k) ⟨k1, k7, by omega, (pow256 n k).2 h3⟩
        have E1 := Lib.hid e1
        have E2 := Lib.hid e2
        have d3 := shr_zero n k h3
        clear e1 e2 h3
        go_enter Tryd.func65, Tryd.ntmps65
        go_wp2_with (first | (go_at_call 71; refine (isWidth_any _ _).mono ?_; rintro e w' ⟨rfl, rfl⟩) | (go_at_call 72; refine (highestFirst_any _ _ _ (by omega) (by omega) (by omega)).mono ?_; rintro e w' ⟨v, rfl, ho, hk⟩))
        go_ret2
        rw [E1.out, E2.out]
        exact ⟨_, rfl, by simpa using ho, hk⟩
      · obtain ⟨e1, e2⟩ := num_no (n := n) (w := k) (fun h => h3 ((pow256 n k).1 h.2.2.2))
        rw [e1, e2]
        have d3 := shr_pos n k h3
        clear e1 e2 h3
        go_enter Tryd.func65, Tryd.ntmps65
        go_wp2_with (first | (go_at_call 71; refine (isWidth_any _ _).mono ?_; rintro e w' ⟨rfl, rfl⟩))
        go_ret2
        exact ⟨_, rfl, Ow.nil _ _ _, Kp.refl _⟩
  · have d1 : decide (1 ≤ k ∧ k ≤ 7) = false := by simp [h1]
    obtain ⟨e1, e2⟩ := num_no (n := n) (w := k) (by unfold numOk; omega)
    rw [e1, e2]
    go_enter Tryd.func65, Tryd.ntmps65
    go_wp2_with (go_at_call 71; refine (isWidth_any _ _).mono ?_; rintro e w' ⟨rfl, rfl⟩)
    go_ret2
    exact ⟨_, rfl, Ow.nil _ _ _, Kp.refl _⟩
end Go.Proofs.YtigpgcjbpoaclaaDoor
namespace Go.Proofs.YtigpgcjbpoaclaaDoor
open Go.RowKit Go.Shelf
attribute [local go_sem] Oper.semAt_some
set_option maxHeartbeats 1000000 in
theorem places_any (k : Nat) (w : World) :
    Calls Tryd.prog 84 #[.int .i64 k] w fun e w' => e = .returned (.func (.func 87) #[] #[.pointer (some ⟨w.heap.size, 0, none⟩)]) ∧ w.alloc (.cells #[.int .i64 k] 3) = w' := by
  go_enter Tryd.func84, Tryd.ntmps84
  go_wp2
  go_ret
  exact ⟨rfl, rfl⟩
set_option maxRecDepth 100000 in
set_option maxHeartbeats 4000000 in
theorem places_hands (k N b : Nat) (w : World) (hk : 1 ≤ k ∧ k ≤ 6) (hN : 256 ^ k = N + 1) (hw : w.cell? ⟨b, 0, none⟩ = some (.int .i64 k)) :
    Hands Tryd.prog 87 #[.pointer (some ⟨b, 0, none⟩)] (fun i v _ A => Rd A v (be k (i + 1))) N (fun j => j = b) w := by
  intro l J Jx W hh hl1 hl2 hJ hJx hY h0
  have hbw := hh.cell hw rfl
  have HJ := Lib.hid hJ
  have HY := Lib.hid hY
  have hbb : b < w.heap.size := World.block_lt_of_cell? w _ hw
  have hbig : (N : Int) ≤ 281474976710656 := by
    have h2 : 256 ^ k ≤ 256 ^ 6 := Nat.pow_le_pow_right (by omega) hk.2
    have h3 : (256 : Nat) ^ 6 = 281474976710656 := by decide
    omega
  have HN : Hid (∀ i, i < N → numE ((i : Int) + 1) k = 0 ∧ numB ((i : Int) + 1) k = be k (i + 1)) := fun i hi => by
    obtain ⟨h1, h2⟩ := num_yes (n := (i : Int) + 1) (w := k) ⟨by omega, by omega, by omega, by
      have := (pow256 (i + 1) k).2 (by omega)
      simpa using this⟩
    refine ⟨h1, h2.trans ?_⟩
    congr 1
  have HE : Hid (numE ((N : Int) + 1) k = 1) := by
    refine (num_no (n := (N : Int) + 1) (w := k) (fun h => ?_)).1
    have := (pow256 (N + 1) k).1 (by simpa using h.2.2.2)
    omega
  have HH := Lib.hid (And.intro hw hbb)
  have HHeld := Lib.hid hh
  clear hJ hY hN hw
  refine (callsIn_wide (n := 5)).1 ?_
  refine callsIn_of_wp Tryd.func87 rfl trivial ?_ rfl
  simp only [Tryd.ntmps87, List.append_toArray, List.append_nil, List.size_toArray, List.length_cons, List.length_nil, Nat.reduceAdd, Nat.reduceSub, Array.replicate_succ, Array.replicate_zero, List.push_toArray, List.nil_append, List.cons_append]
  gi_wp2
  gi_loopw [3] (fun p wr => ∃ (i : Nat) (Y : Nat → Prop), i ≤ N ∧ p = .int .i64 ((i : Int) + 1) ∧ wr.cell? ⟨b, 0, none⟩ = some (.int .i64 k) ∧ Held (fun j => j = b) w wr ∧ J i Y wr ∧ (∀ j, Y j → W.heap.size ≤ j ∧ j < wr.heap.size) ∧ W.heap.size ≤ wr.heap.size) (fun p _ => N + 1 - (intOf p).toNat)
  case atStart => exact ⟨0, _, by omega, rfl, hbw, HHeld.out, h0, fun _ h => h.elim, Nat.le_refl _⟩
  case round =>
    clear hbw h0
    obtain ⟨i, Y, hi, rfl, hb, hhw, hj, hyb, hsz⟩ := hrel
    have hmx : Tryd.prog.follows .mixedOrders = true := by kernel_rfl
    have hls : Tryd.prog.follows .lateStores = true := by kernel_rfl
    by_cases hlt : i < N
    · obtain ⟨e1, e2⟩ := HN.out i hlt
      gi_wp2_with (refine ⟨trivial, ?_⟩; gi_at_call 65; refine (callsIn_wide.2 (num_any ((i : Int) + 1) k _ (by omega))).mono ?_; rintro e w1 ⟨v1, rfl, o1, k1⟩; rw [e2] at o1; have hj1 := HJ.out i Y Y wr w1 hj hyb (Step.of_kp k1) (fun _ h => .inl h); have hb1 := k1.cell hb; have hyb1 : ∀ j, Y j → W.heap.size ≤ j ∧ j < w1.heap.size := (fun j h => ⟨(hyb j h).1, Nat.lt_of_lt_of_le (hyb j h).2 k1.size⟩); have hw1 := hhw.trans (Held.of_kp k1); have hs1 := k1.size; obtain ⟨fn, tmps, assign, body, hy, hR⟩ := HY.out i Y w1 v1 4 hlt hj1 hyb1 hw1 o1.rd)
      clear hj hb hyb hhw o1
      refine hR.mono ?_
      rintro e w2 ⟨hh2, (⟨rfl, hj2⟩ | ⟨rfl, hx2⟩)⟩
      · have hb2 := hh2.cell hb1 (.inr rfl)
        clear hy hR hb1
        gi_wp2
        go_roundw
        case rel => exact ⟨i + 1, Y, by omega, by go_num, hb2, hw1.trans (hh2.mono (fun _ h => .inr h)), hj2, fun j h => ⟨(hyb1 j h).1, Nat.lt_of_lt_of_le (hyb1 j h).2 hh2.size⟩, by have := hh2.size; omega⟩
        case measure => simp [intOf]; omega
      · clear hy hR hb1
        gi_wp2
        refine bodyPost_ret (results_none rfl _ _ _) rfl ?_
        exact ⟨⟨_, rfl⟩, Y, fun j h => ⟨(hyb1 j h).1, Nat.lt_of_lt_of_le (hyb1 j h).2 hh2.size⟩, .inr ⟨i, hlt, hx2⟩⟩
    · obtain rfl : i = N := by omega
      have e1 := HE.out
      gi_wp2_with (refine ⟨trivial, ?_⟩; gi_at_call 65; refine (callsIn_wide.2 (num_any ((i : Int) + 1) k _ (by omega))).mono ?_; rintro e w1 ⟨v1, rfl, o1, k1⟩)
      refine ⟨fun _ h => (by cases h), ?_⟩
      gi_wp2
      refine bodyPost_ret (results_none rfl _ _ _) rfl ?_
      exact ⟨⟨_, rfl⟩, Y, fun j h => ⟨(hyb j h).1, Nat.lt_of_lt_of_le (hyb j h).2 k1.size⟩, .inl (HJ.out i Y Y wr w1 hj hyb (Step.of_kp k1) (fun _ h => .inl h))⟩
end Go.Proofs.YtigpgcjbpoaclaaDoor

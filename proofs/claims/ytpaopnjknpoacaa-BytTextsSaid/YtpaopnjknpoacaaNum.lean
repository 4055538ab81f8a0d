/- Contracts of byt's numbers. -/
import Derived.Test.YtpaopnjknpoacaaBase
import Derived.Test.YtpaopnjknpoacaaRows
import Derived.WalkSpells
import Derived.Lib.Hide
import Derived.Outline
namespace Go.Proofs.Ytpaopnjknpoacaa
open Go.RowKit

set_option maxHeartbeats 400000 in
theorem numberOf_any (v : Value) (l : List UInt8) (w : World) (h : Rd w v l) (h7 : l.length ≤ 7) :
    Calls Try.prog 38 #[v] w fun e w' => e = .returned (.int .i64 (val l)) ∧ w = w' := by
  obtain ⟨a, c, rfl, hc, hm⟩ := h.shape
  unfold maxLen at hm
  go_enter Try.func38, Try.ntmps38
  go_wp2
  go_loop [3, 8, 5] (fun n i _ => ∃ k : Nat, k ≤ l.length ∧ i = .int .i64 k ∧ n = .int .i64 (val (l.take k))) (fun _ i _ => l.length - (intOf i).toNat)
  case atStart => exact ⟨0, Nat.zero_le _, rfl, rfl⟩
  case round =>
    obtain ⟨k, hk, rfl, rfl⟩ := hrel
    by_cases hlt : k < l.length
    · obtain ⟨b, off, rfl, _, hcell⟩ := h.at k hlt
      have hc0 := hcell k hlt
      clear hcell
      have hb : (val (l.take k) : Int) < 281474976710656 := by
        have h1 := val_lt (l.take k)
        have h2 : 256 ^ (l.take k).length ≤ 256 ^ 6 := Nat.pow_le_pow_right (by omega) (by simp; omega)
        have h3 : (256 : Nat) ^ 6 = 281474976710656 := by decide
        omega
      obtain ⟨y, hy⟩ : ∃ y : Nat, y = (l.getD k 0).toNat := ⟨_, rfl⟩
      have hy2 : (y : Int) < 256 := by have := (l.getD k 0).toNat_lt; omega
      have HY := Lib.hid hy
      rw [← hy] at hc0
      clear hy
      have hor : bits .or .i64 ((val (l.take k) : Int) * 256) y = (val (l.take k) : Int) * 256 + y := i64_or8 _ _ (by omega) (by omega) (by omega) (by omega) hy2
      go_wp2
      go_round
      case rel => exact ⟨k + 1, by omega, by go_num, by rw [val_take l k hlt, ← HY.out]; go_num⟩
      case measure => simp [intOf]; omega
    · go_wp2
      go_ret
      have : l.take k = l := List.take_of_length_le (by omega)
      exact ⟨by simp [this], rfl⟩

theorem same_any (u v : Value) (l m : List UInt8) (w : World) (h : Rd w u l) (h' : Rd w v m) :
    Calls Try.prog 16 #[u, v] w fun e w' => e = .returned (.bool (decide (l = m))) ∧ w = w' := by
  have c1 := run_string_rd w 22 9 5 u l h Try.underlying22 Try.underlying5 Try.underlying9
  have c2 := run_string_rd w 22 9 5 v m h' Try.underlying22 Try.underlying5 Try.underlying9
  go_enter Try.func16, Try.ntmps16
  go_wp2
  go_ret
  exact ⟨by simp [Bool.beq_eq_decide_eq], rfl⟩

theorem Try.info5 : (Try.prog.info? 5).map (fun i => (i.zero, i.size, i.bytes)) = some (some (.int .u8 0), 1, 1) := by kernel_rfl

theorem u8 : U8 Try.prog 22 5 := U8.mk' Try.underlying22 Try.info5

theorem set_mid (z u : Value) (c : List Value) (m : Nat) : (List.replicate (m + 1) z ++ c).set m u = List.replicate m z ++ u :: c := by
  rw [List.set_append_left _ _ (by simp), List.replicate_succ', List.set_append_right _ _ (by simp)]
  simp

set_option maxHeartbeats 400000 in
theorem highestFirst_any (n : Int) (k : Nat) (w : World) (h0 : 0 ≤ n) (h1 : 1 ≤ k) (h7 : k ≤ 7) :
    Calls Try.prog 35 #[.int .i64 n, .int .i64 k] w fun e w' => ∃ v, e = .returned v ∧ Ow 5 w' w.heap.size v (be k n.toNat) ∧ Kp w w' := by
  obtain ⟨i0, hi, hz0, hz1, hz2⟩ := info_parts Try.info5
  obtain ⟨n, rfl⟩ := Int.eq_ofNat_of_zero_le h0
  rw [Int.toNat_natCast]
  go_enter Try.func35, Try.ntmps35
  go_wp2_with (at_make; refine wpList_make_full _ rfl _ _ 22 rfl w.heap.size 5 i0 (.int .u8 0) 1 Try.underlying22 hi hz0 hz1 _ _ _ _ k rfl rfl rfl rfl ?b1 ?b2 ?b3 ?_)
  case b1 => rw [hz2]; omega
  case b2 => unfold maxLen; omega
  case b3 => exact Nat.le_refl _
  intro w1 hown hgr
  rw [toList_madeCells_one] at hown
  generalize hB : w.heap.size = B at *
  have HB := Lib.hid hB
  clear hB
  have hk1 : Below B w w1 := Below.grown (Below.refl B w) hgr (by rw [HB.out]; exact Nat.le_refl _) (by simp)
  clear hgr
  go_wp2
  go_loopw [0, 6] (fun x i wr => ∃ j : Nat, j ≤ k ∧ i = .int .i64 ((j : Int) - 1) ∧ x = .int .i64 ((n / 256 ^ (k - j) : Nat) : Int) ∧ wr.ownsRow B 5 1 (.slice (some ⟨B, 0, none⟩) k k) k (List.replicate j (.int .u8 0) ++ Lib.byteCells (be (k - j) n)) ∧ Below B w wr) (fun _ i _ => (intOf i + 1).toNat)
  case atStart => exact ⟨k, Nat.le_refl _, rfl, by simp, by simpa [be, Lib.byteCells] using hown, hk1⟩
  case round =>
    obtain ⟨j, hj, rfl, rfl, hown, hbel⟩ := hrel
    cases j with
    | zero =>
      go_wp2
      go_ret
      refine ⟨_, rfl, ?_, hbel.mono (by rw [HB.out]; exact Nat.le_refl _)⟩
      have hl : (be k n).length = k := be_length _ _
      unfold Ow
      rw [HB.out, hl]
      simpa using hown
    | succ j =>
      have hcell : wr.cell? ⟨B, j, none⟩ = some (.int .u8 0) := by
        rw [hown.cellAt j (by omega), List.getElem?_append_left (by simp)]
        simp
      have hfr := hown.frozenAt j
      rw [show ((j + 1 : Nat) : Int) - 1 = j from by omega]
      generalize hX : n / 256 ^ (k - (j + 1)) = X at *
      have HX := Lib.hid hX
      clear hX
      have hown1 := Lib.hid hown
      clear hown
      go_wp2
      go_roundw
      case rel =>
        obtain ⟨t, ht⟩ : ∃ t, t = k - (j + 1) := ⟨_, rfl⟩
        have hx := HX.out
        have ho := hown1.out
        rw [← ht] at hx ho
        have ht1 : k - j = t + 1 := by omega
        refine ⟨j, by omega, rfl, ?_, ?_, hbel.setCell (Nat.le_refl _) _⟩
        · rw [ht1, Nat.pow_succ, ← Nat.div_div_eq_div_mul, hx]; rfl
        · have h2 := (ho.stored j (.int .u8 ((X : Int) % 256))).1
          rw [set_mid] at h2
          rw [ht1, be_cons, hx]
          have e : Value.int .u8 ((X : Int) % 256) = .int .u8 ((UInt8.ofNat X).toNat : Int) := by simp
          rw [e] at h2 ⊢
          exact h2
      case measure => simp [intOf]
end Go.Proofs.Ytpaopnjknpoacaa

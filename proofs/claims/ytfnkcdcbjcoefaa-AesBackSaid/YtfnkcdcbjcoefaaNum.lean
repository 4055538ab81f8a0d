/- Contracts of byt's numbers. -/
import Derived.Test.YtfnkcdcbjcoefaaSame
import Derived.Test.YtfnkcdcbjcoefaaRows
import Derived.WalkSpells
import Derived.Lib.Hide
import Derived.Outline
set_option linter.unusedVariables false
set_option linter.unusedSimpArgs false
namespace Go.Proofs.Ytfnkcdcbjcoefaa
open Go.RowKit

theorem set_mid (z u : Value) (c : List Value) (m : Nat) : (List.replicate (m + 1) z ++ c).set m u = List.replicate m z ++ u :: c := by
  rw [List.set_append_left _ _ (by simp), List.replicate_succ', List.set_append_right _ _ (by simp)]
  simp

set_option maxHeartbeats 400000 in
theorem highestFirst_any (n : Int) (k : Nat) (w : World) (h0 : 0 ≤ n) (h1 : 1 ≤ k) (h7 : k ≤ 7) :
    Calls Try.prog 44 #[.int .i64 n, .int .i64 k] w fun e w' => ∃ v, e = .returned v ∧ Ow 5 w' w.heap.size v (be k n.toNat) ∧ Kp w w' := by
  obtain ⟨i0, hi, hz0, hz1, hz2⟩ := info_parts Try.info5
  obtain ⟨n, rfl⟩ := Int.eq_ofNat_of_zero_le h0
  rw [Int.toNat_natCast]
  go_enter Try.func44, Try.ntmps44
  go_wp2_with (at_make; refine wpList_make_full _ rfl _ _ 22 rfl w.heap.size 5 i0 (.int .u8 0) 1 Try.underlying22 hi hz0 hz1 _ _ _ _ k rfl rfl rfl rfl ?b1 ?b2 ?b3 ?_)
  case b1 => rw [hz2]; omega
  case b2 => unfold maxLen; omega
  case b3 => exact Nat.le_refl _
  intro w1 hown hgr
  rw [toList_madeCells_one] at hown
  generalize hB : w.heap.size = B at *
  have HB := Lib.hid hB
  clear hB
  have hk1 : Below B w w1 := Below.grown (Below.refl B w) hgr (by rw [HB.out]; exact Nat.le_refl _) (by simp)
  clear hgr
  go_wp2
  go_loopw [0, 6] (fun x i wr => ∃ j : Nat, j ≤ k ∧ i = .int .i64 ((j : Int) - 1) ∧ x = .int .i64 ((n / 256 ^ (k - j) : Nat) : Int) ∧ wr.ownsRow B 5 1 (.slice (some ⟨B, 0, none⟩) k k) k (List.replicate j (.int .u8 0) ++ Lib.byteCells (be (k - j) n)) ∧ Below B w wr) (fun _ i _ => (intOf i + 1).toNat)
  case atStart => exact ⟨k, Nat.le_refl _, rfl, by simp, by simpa [be, Lib.byteCells] using hown, hk1⟩
  case round =>
    obtain ⟨j, hj, rfl, rfl, hown, hbel⟩ := hrel
    cases j with
    | zero =>
      go_wp2
      go_ret
      refine ⟨_, rfl, ?_, hbel.mono (by rw [HB.out]; exact Nat.le_refl _)⟩
      have hl : (be k n).length = k := be_length _ _
      unfold Ow
      rw [HB.out, hl]
      simpa using hown
    | succ j =>
      have hcell : wr.cell? ⟨B, j, none⟩ = some (.int .u8 0) := by
        rw [hown.cellAt j (by omega), List.getElem?_append_left (by simp)]
        simp
      have hfr := hown.frozenAt j
      rw [show ((j + 1 : Nat) : Int) - 1 = j from by omega]
      generalize hX : n / 256 ^ (k - (j + 1)) = X at *
      have HX := Lib.hid hX
      clear hX
      have hown1 := Lib.hid hown
      clear hown
      go_wp2
      go_roundw
      case rel =>
        obtain ⟨t, ht⟩ : ∃ t, t = k - (j + 1) := ⟨_, rfl⟩
        have hx := HX.out
        have ho := hown1.out
        rw [← ht] at hx ho
        have ht1 : k - j = t + 1 := by omega
        refine ⟨j, by omega, rfl, ?_, ?_, hbel.setCell (Nat.le_refl _) _⟩
        · rw [ht1, Nat.pow_succ, ← Nat.div_div_eq_div_mul, hx]; rfl
        · have h2 := (ho.stored j (.int .u8 ((X : Int) % 256))).1
          rw [set_mid] at h2
          rw [ht1, be_cons, hx]
          have e : Value.int .u8 ((X : Int) % 256) = .int .u8 ((UInt8.ofNat X).toNat : Int) := by simp
          rw [e] at h2 ⊢
          exact h2
      case measure => simp [intOf]
end Go.Proofs.Ytfnkcdcbjcoefaa

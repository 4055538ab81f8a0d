/- Contracts of lengths: byt.Len, TakeLen, and the document's own. -/
import Derived.Test.YtfnkcdcbjcoefaaRef
import Derived.Deep.QuietTactic
import Derived.BigQuiet
set_option linter.unusedVariables false
set_option linter.unusedSimpArgs false
namespace Go.Proofs.Ytfnkcdcbjcoefaa
open Go.RowKit

theorem u8_or_high (x m : Int) (h0 : 0 ≤ x) (h1 : x < 64) (hm : m = 0 ∨ m = 64 ∨ m = 128) : bits .or .u8 x m = x + m := by
  have hc : bits .or .u8 x m = bits .or .u8 m x := by simp only [bits, BitVec.or_comm]
  rw [hc, bits_join .u8 8 (by decide) wraps_u8 6 m x (by omega) (by omega) (by omega) h0 (by omega) (by omega)]
  omega

theorem be_head (k n : Nat) : ∃ t, be (k + 1) n = UInt8.ofNat (n / 256 ^ k) :: t := ⟨_, be_cons k n⟩

/-- The highest byte raised by m. -/
theorem be_raise (k n m : Nat) (h : n / 256 ^ k + m < 256) : be (k + 1) (n + m * 256 ^ k) = UInt8.ofNat (n / 256 ^ k + m) :: be k n := by
  rw [be_cons, Nat.add_mul_div_right _ _ (Nat.pow_pos (by decide))]
  congr 1
  have h2 : ∀ k n m, be k (n + m * 256 ^ k) = be k n := by
    intro k
    induction k with
    | zero => intro n m; rfl
    | succ k ih =>
      intro n m
      rw [be, be, show n + m * 256 ^ (k + 1) = n + 256 * (m * 256 ^ k) from by rw [Nat.pow_succ, ← Nat.mul_assoc, Nat.mul_comm 256],
        Nat.add_mul_div_left _ _ (by decide), ih]
      congr 2
      apply UInt8.toNat_inj.1
      simp
  exact h2 k n m

theorem Ow.set0 {w : World} {B : Nat} {v : Value} {k' n' : Nat} (h : Ow 5 w B v (be k' n')) (k n m : Nat) (hm : n / 256 ^ k + m < 256) (hk : k' = k + 1 := by rfl) (hn : n' = n := by first | rfl | simp) :
    ∃ g c, v = .slice (some ⟨g, 0, none⟩) (k + 1) c ∧ B ≤ g ∧ w.cell? ⟨g, 0, none⟩ = some (.int .u8 ((n / 256 ^ k : Nat) : Int)) ∧ w.frozen? ⟨g, 0, none⟩ = false ∧
      Ow 5 (w.setCell ⟨g, 0, none⟩ (.int .u8 ((n / 256 ^ k + m : Nat) : Int))) B v (be (k + 1) (n + m * 256 ^ k)) := by
  subst hk hn
  rcases h.shape with ⟨_, h0⟩ | ⟨g, c, rfl, hg, _, hc, hcm⟩
  · have := congrArg List.length h0
    rw [be_length] at this
    simp at this
  · have hl : (be (k + 1) n').length = k + 1 := be_length _ _
    refine ⟨g, c, by rw [hl], hg, ?_, h.frozenAt 0, ?_⟩
    · rw [h.cellAt 0 (by rw [hl]; omega), be_cons]
      have : n' / 256 ^ k % 256 = n' / 256 ^ k := Nat.mod_eq_of_lt (by omega)
      simp [Lib.byteCells, this]
    · have h2 := (h.stored 0 (.int .u8 ((n' / 256 ^ k + m : Nat) : Int))).1
      unfold Ow
      rw [be_length, be_raise k n' m hm]
      rw [be_length, be_cons] at h2
      generalize n' / 256 ^ k = q at *
      have : (q + m) % 256 = q + m := Nat.mod_eq_of_lt hm
      have e : Lib.byteCells (UInt8.ofNat (q + m) :: be k n') = (Lib.byteCells (UInt8.ofNat q :: be k n')).set 0 (.int .u8 ((q + m : Nat) : Int)) := by
        simp only [Lib.byteCells, List.map_cons, List.set_cons_zero, UInt8.toNat_ofNat', Nat.reducePow, this]
      rw [e, List.length_cons, be_length]
      exact h2

theorem highestFirst_int (n k : Int) (w : World) (h0 : 0 ≤ n) (h1 : 1 ≤ k) (h7 : k ≤ 7) :
    Calls Try.prog 44 #[.int .i64 n, .int .i64 k] w fun e w' => ∃ v, e = .returned v ∧ Ow 5 w' w.heap.size v (be k.toNat n.toNat) ∧ Kp w w' := by
  obtain ⟨k, rfl⟩ := Int.eq_ofNat_of_zero_le (show 0 ≤ k by omega)
  exact highestFirst_any n k w h0 (by omega) (by omega)

end Go.Proofs.Ytfnkcdcbjcoefaa

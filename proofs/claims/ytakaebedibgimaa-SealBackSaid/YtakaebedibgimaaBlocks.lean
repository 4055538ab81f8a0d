/- Blocks of padded bytes: whole ones, and what is left. Plain. -/
import Derived.Test.YtakaebedibgimaaRefSum
set_option linter.unusedVariables false
set_option linter.unusedSimpArgs false
namespace Go.Proofs.Ytakaebedibgimaa
open Go.RowKit

theorem blocks_prefix (s : S8) (l m : List UInt8) : ∀ k, 64 * k ≤ l.length → blocks s (l ++ m) k = blocks s l k
  | 0, _ => rfl
  | k + 1, h => by
    rw [blocks_succ, blocks_succ, blocks_prefix s l m k (by omega), List.drop_append_of_le_length (by omega), List.take_append_of_le_length (by simp; omega)]
theorem blocks_add (s : S8) (P : List UInt8) (a : Nat) : ∀ k, blocks (blocks s P a) (P.drop (64 * a)) k = blocks s P (a + k)
  | 0 => rfl
  | k + 1 => by
    rw [blocks_succ, blocks_add s P a k, List.drop_drop, show a + (k + 1) = (a + k) + 1 by omega, blocks_succ, show 64 * a + 64 * k = 64 * (a + k) by omega]
/-- A digest: the whole blocks, then what is left of the bytes, with the pad. -/
theorem digest_split (l : List UInt8) (N M : Nat) (hN : N = l.length / 64) (hM : 64 * M = (l.drop (64 * N) ++ pad l.length).length) :
    digest l = (blocks (blocks startS l N) (l.drop (64 * N) ++ pad l.length) M).bytes := by
  have h1 : (padded l).length = 64 * (N + M) := by
    unfold padded
    rw [List.length_append] at hM ⊢
    rw [List.length_drop] at hM
    omega
  have h2 : (padded l).length / 64 = N + M := by omega
  have h3 : l.drop (64 * N) ++ pad l.length = (padded l).drop (64 * N) := by
    unfold padded
    rw [List.drop_append_of_le_length (by omega)]
  unfold digest
  rw [h2, h3, ← blocks_add]
  have h4 : blocks startS (padded l) N = blocks startS l N := blocks_prefix _ _ _ _ (by omega)
  rw [h4]
theorem tail_whole (l : List UInt8) (N : Nat) (hN : N = l.length / 64) : 64 * ((l.drop (64 * N) ++ pad l.length).length / 64) = (l.drop (64 * N) ++ pad l.length).length := by
  have := pad_whole l.length
  rw [List.length_append, List.length_drop]
  omega
end Go.Proofs.Ytakaebedibgimaa

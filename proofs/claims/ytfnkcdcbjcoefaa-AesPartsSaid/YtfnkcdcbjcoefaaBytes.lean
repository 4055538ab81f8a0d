/- byt.Bytes. -/
import Derived.Test.YtfnkcdcbjcoefaaStr2
import Derived.Lib.OthersKept
set_option linter.unusedVariables false
set_option linter.unusedSimpArgs false
namespace Go.Proofs.Ytfnkcdcbjcoefaa
open Go.RowKit

theorem Ow.iterAt {e : TypeId} {w : World} {B : Nat} {v : Value} {l : List UInt8} (h : Ow e w B v l) {k : Nat} {s : ByteArray} {pos : Nat} (hk : w.heap[k]? = some (.stringIter s pos)) (pos' : Nat) : Ow e (w.iterAt k s pos') B v l := by
  refine ⟨h.1, ?_⟩
  rcases h.2 with hn | ⟨g, cap, cur, rfl, hb, hg, rest⟩
  · exact .inl hn
  · refine .inr ⟨g, cap, cur, rfl, hb, ?_, rest⟩
    rw [Lib.iterAt_other w k g s pos' (fun e => by subst e; rw [hg] at hk; simp at hk)]
    exact hg

/-- The iterator's block is no row's. -/
theorem Ow.iter_ne {e : TypeId} {w : World} {B : Nat} {v : Value} {l : List UInt8} (h : Ow e w B v l) {k : Nat} {s : ByteArray} {pos : Nat} (hk : w.heap[k]? = some (.stringIter s pos)) : some k ≠ v.ownBlock := by
  rcases h.2 with ⟨rfl, _⟩ | ⟨g, cap, cur, rfl, hb, hg, rest⟩
  · simp [Value.ownBlock]
  · intro e
    simp only [Value.ownBlock, Option.some.injEq] at e
    subst e
    rw [hg] at hk
    simp at hk

def BY (s : ByteArray) (w : World) (e : Ending) (w' : World) : Prop :=
  ∃ v, e = .returned (.tuple #[v, .int .i64 (byE s.data.toList)]) ∧ Ow 5 w' w.heap.size v (byB s.data.toList) ∧ Kp w w'

theorem by_no {s : List UInt8} (h : ¬ (s.length % 2 = 0 ∧ s.all isFig = true)) : byE s = 2 ∧ byB s = [] := by
  have e : byE s = 2 := if_neg h
  simp [byB, e]
theorem by_yes {s : List UInt8} (h : s.length % 2 = 0 ∧ s.all isFig = true) : byE s = 0 ∧ byB s = pairs s := by
  have e : byE s = 0 := if_pos h
  simp [byB, e]

theorem getD_bytes (s : ByteArray) (k : Nat) (h : k < s.size) : s.data.toList.getD k 0 = s[k] := by
  rw [List.getD_eq_getElem?_getD, List.getElem?_eq_getElem (by simpa using h)]
  rfl
theorem all_take (l : List UInt8) (k : Nat) (h : k < l.length) : (l.take (k + 1)).all isFig = ((l.take k).all isFig && isFig (l.getD k 0)) := by
  rw [snoc_take l k h, List.all_append]; simp
theorem not_all {l : List UInt8} {k : Nat} (hk : k < l.length) (h : isFig (l.getD k 0) = false) : ¬ (l.length % 2 = 0 ∧ l.all isFig = true) := by
  intro ⟨_, h2⟩
  have h3 := List.all_eq_true.1 h2 (l.getD k 0) (by rw [List.getD_eq_getElem?_getD, List.getElem?_eq_getElem hk]; exact List.getElem_mem hk)
  rw [h] at h3
  cases h3

theorem pairs_two (l : List UInt8) (k : Nat) (h : k + 1 < l.length) (hk : k % 2 = 0) : pairs (l.take (k + 2)) = pairs (l.take k) ++ [UInt8.ofNat (16 * hv (l.getD k 0) + hv (l.getD (k + 1) 0))] := by
  rw [snoc_take l (k + 1) h, snoc_take l k (by omega), List.append_assoc]
  exact pairs_snoc _ _ _ (by simp; omega)

theorem u8_or_half (x y : Int) (hx₀ : 0 ≤ x) (hx : x % 16 = 0) (hx₁ : x < 256) (h₀ : 0 ≤ y) (h₁ : y < 16) : bits .or .u8 x y = x + y :=
  bits_join .u8 8 (by decide) wraps_u8 4 x y hx₀ (by omega) (by omega) h₀ (by omega) (by omega)

end Go.Proofs.Ytfnkcdcbjcoefaa

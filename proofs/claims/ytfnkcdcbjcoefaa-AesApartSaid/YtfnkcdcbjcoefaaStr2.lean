/- Texts: the document's own Text. -/
import Derived.Test.YtfnkcdcbjcoefaaText
import Derived.Test.YtfnkcdcbjcoefaaRef2
set_option linter.unusedVariables false
set_option linter.unusedSimpArgs false
namespace Go.Proofs.Ytfnkcdcbjcoefaa
open Go.RowKit

/-- What a figure is worth; whether a byte is a figure. -/
def hv (c : UInt8) : Nat := if c.toNat ≤ 57 then c.toNat - 48 else c.toNat - 87
def isFig (c : UInt8) : Bool := decide (48 ≤ c.toNat ∧ c.toNat ≤ 57 ∨ 97 ≤ c.toNat ∧ c.toNat ≤ 102)
/-- The bytes that figures tell, two for each. -/
def pairs : List UInt8 → List UInt8
  | a :: b :: r => UInt8.ofNat (16 * hv a + hv b) :: pairs r
  | _ => []
def byE (s : List UInt8) : Int := if s.length % 2 = 0 ∧ s.all isFig = true then 0 else 2
def byB (s : List UInt8) : List UInt8 := if byE s = 0 then pairs s else []

theorem pairs_snoc : ∀ (x : List UInt8) (a b : UInt8), x.length % 2 = 0 → pairs (x ++ [a, b]) = pairs x ++ [UInt8.ofNat (16 * hv a + hv b)]
  | [], a, b, _ => rfl
  | [_], a, b, h => by simp at h
  | x :: y :: r, a, b, h => by
    have h' : r.length % 2 = 0 := by simp at h; omega
    rw [List.cons_append, List.cons_append, pairs, pairs_snoc r a b h', pairs, List.cons_append]
theorem pairs_length : ∀ (x : List UInt8), (pairs x).length ≤ x.length
  | [] => by simp [pairs]
  | [_] => by simp [pairs]
  | _ :: _ :: r => by have := pairs_length r; simp [pairs]; omega
theorem hv_lt {c : UInt8} (h : isFig c = true) : hv c < 16 := by
  unfold isFig at h
  have := of_decide_eq_true h
  unfold hv
  split <;> omega

end Go.Proofs.Ytfnkcdcbjcoefaa

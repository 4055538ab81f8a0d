/- pyxref01.Text: texts of bytes, the document's own. -/
import Derived.Test.YtobldbodafaajaaGreatDoorByt9
import Derived.Test.YtobldbodafaajaaGreatDoorBase2
import Derived.Deep.QuietTactic
import Derived.BigQuiet
set_option linter.unusedVariables false
set_option linter.unusedSimpArgs false
namespace Go.Proofs.YtobldbodafaajaaGreatDoor
open Go.RowKit

/-- A figure's sign. -/
def hexB (n : Nat) : UInt8 := if n < 10 then UInt8.ofNat (48 + n) else UInt8.ofNat (87 + n)
/-- The text of bytes. -/
def textB (x : List UInt8) : List UInt8 := x.flatMap fun b => [hexB (b.toNat / 16), hexB (b.toNat % 16)]
theorem textB_length (x : List UInt8) : (textB x).length = 2 * x.length := by
  induction x with
  | nil => rfl
  | cons b x ih => simp only [textB, List.flatMap_cons, List.length_append, List.length_cons, List.length_nil] at ih ⊢; omega
theorem textB_snoc (x : List UInt8) (b : UInt8) : textB (x ++ [b]) = textB x ++ [hexB (b.toNat / 16)] ++ [hexB (b.toNat % 16)] := by
  simp [textB, List.flatMap_append]

theorem fig_all : ∀ n : Fin 16, ((⟨#[48, 49, 50, 51, 52, 53, 54, 55, 56, 57, 97, 98, 99, 100, 101, 102]⟩ : ByteArray)[n.val]'(by have := n.isLt; exact this)) = hexB n.val := by decide
theorem fig (n : Nat) (h : n < 16) : ((⟨#[48, 49, 50, 51, 52, 53, 54, 55, 56, 57, 97, 98, 99, 100, 101, 102]⟩ : ByteArray)[n]'h) = hexB n := fig_all ⟨n, h⟩

theorem fig_cut : ∀ n : Fin 16, (⟨#[48, 49, 50, 51, 52, 53, 54, 55, 56, 57, 97, 98, 99, 100, 101, 102]⟩ : ByteArray).extract n.val (n.val + 1) = ⟨#[hexB n.val]⟩ := by decide

end Go.Proofs.YtobldbodafaajaaGreatDoor

/- HMAC in plain words: a key's block, a row with each byte turned, tags; rows held beside one another. Nothing of a dump. -/
import Derived.Test.YtpbhikpcbfldgaaByteRow
set_option linter.unusedVariables false
set_option linter.unusedSimpArgs false
namespace Go.Proofs.Ytpbhikpcbfldgaa
open Go.RowKit

/-- A row, each byte xor one. -/
def xorB (l : List UInt8) (x : UInt8) : List UInt8 := l.map fun b => b ^^^ x
/-- A row of at most 64 bytes, with noughts behind it. -/
def blkB (l : List UInt8) : List UInt8 := l ++ List.replicate (64 - l.length) 0
/-- A key's block. -/
def keyB (k : List UInt8) : List UInt8 := blkB (if 64 < k.length then digest k else k)
/-- A tag. -/
def macB (k b : List UInt8) : List UInt8 := digest (xorB (keyB k) 92 ++ digest (xorB (keyB k) 54 ++ b))
theorem xorB_length (l : List UInt8) (x : UInt8) : (xorB l x).length = l.length := by simp [xorB]
theorem xorB_get (l : List UInt8) (x : UInt8) (i : Nat) (h : i < l.length) : (xorB l x)[i]? = some (l.getD i 0 ^^^ x) := by
  simp [xorB, List.getD_eq_getElem?_getD, List.getElem?_eq_getElem h]
theorem xorB_append (l m : List UInt8) (x : UInt8) : xorB (l ++ m) x = xorB l x ++ xorB m x := by simp [xorB]
theorem blkB_length (l : List UInt8) (h : l.length ≤ 64) : (blkB l).length = 64 := by simp [blkB]; omega

theorem ub8_xor (x y : UInt8) : bits .xor .u8 (x.toNat : Int) (y.toNat : Int) = ((x ^^^ y).toNat : Int) := by
  have e : ∀ z : UInt8, BitVec.ofInt IntKind.u8.bits (z.toNat : Int) = z.toBitVec := fun z => by
    rw [BitVec.ofInt_natCast]
    apply BitVec.eq_of_toNat_eq
    simp [IntKind.bits]
  simp only [bits, e]
  change IntKind.u8.wrap (((x ^^^ y).toNat : Nat) : Int) = _
  rw [IntKind.wrap_u8]
  have := (x ^^^ y).toNat_lt
  omega
theorem ub8_or (x y : UInt8) : bits .or .u8 (x.toNat : Int) (y.toNat : Int) = ((x ||| y).toNat : Int) := by
  have e : ∀ z : UInt8, BitVec.ofInt IntKind.u8.bits (z.toNat : Int) = z.toBitVec := fun z => by
    rw [BitVec.ofInt_natCast]
    apply BitVec.eq_of_toNat_eq
    simp [IntKind.bits]
  simp only [bits, e]
  change IntKind.u8.wrap (((x ||| y).toNat : Nat) : Int) = _
  rw [IntKind.wrap_u8]
  have := (x ||| y).toNat_lt
  omega
theorem or_zero8 (a b : UInt8) : a ||| b = 0 ↔ a = 0 ∧ b = 0 := by
  constructor
  · intro h
    have h' : a.toBitVec ||| b.toBitVec = 0#8 := by rw [← UInt8.toBitVec_or, h]; rfl
    constructor
    · apply UInt8.toBitVec_inj.1
      exact (BitVec.or_eq_zero_iff.1 h').1
    · apply UInt8.toBitVec_inj.1
      exact (BitVec.or_eq_zero_iff.1 h').2
  · rintro ⟨rfl, rfl⟩; rfl
theorem xor_zero8 (a b : UInt8) : a ^^^ b = 0 ↔ a = b := by
  constructor
  · intro h
    have : a ^^^ b ^^^ b = 0 ^^^ b := by rw [h]
    rw [UInt8.xor_assoc, UInt8.xor_self, UInt8.xor_zero, UInt8.zero_xor] at this
    exact this
  · rintro rfl; exact UInt8.xor_self
/-- Where two rows part, up to a place. -/
def orT (l m : List UInt8) : Nat → UInt8
  | 0 => 0
  | k + 1 => orT l m k ||| (l.getD k 0 ^^^ m.getD k 0)
theorem orT_zero (l m : List UInt8) : ∀ k, k ≤ l.length → k ≤ m.length → (orT l m k = 0 ↔ l.take k = m.take k)
  | 0, _, _ => by simp [orT]
  | k + 1, h, h' => by
    rw [orT, or_zero8, xor_zero8, orT_zero l m k (by omega) (by omega), snoc_take l k (by omega), snoc_take m k (by omega)]
    constructor
    · rintro ⟨a, b⟩; rw [a, b]
    · intro e
      have := List.append_inj e (by simp; omega)
      exact ⟨this.1, by simpa using this.2⟩
theorem orT_all (l m : List UInt8) (h : l.length = m.length) : decide (orT l m l.length = 0) = decide (l = m) := by
  have := orT_zero l m l.length (Nat.le_refl _) (by omega)
  rw [List.take_length, h, List.take_length, ← h] at this
  exact decide_eq_decide.2 this
end Go.Proofs.Ytpbhikpcbfldgaa

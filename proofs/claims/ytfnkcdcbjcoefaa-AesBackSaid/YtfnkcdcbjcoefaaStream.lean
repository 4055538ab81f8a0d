/- A stream in plain words; copy into the middle of a block. Nothing of a dump. -/
import Derived.Test.YtfnkcdcbjcoefaaAesKeyRows
import Derived.Test.YtfnkcdcbjcoefaaCopyBlk
set_option linter.unusedVariables false
set_option linter.unusedSimpArgs false
namespace Go.Proofs.Ytfnkcdcbjcoefaa
open Go.RowKit

/-- The block that is locked for place q of a stream. -/
def ctrB (nonce : List UInt8) (q : Nat) : List UInt8 := nonce ++ be 4 (q + 1)
def strF (K nonce b : List UInt8) (j : Nat) : UInt8 := b.getD j 0 ^^^ (lockL K (ctrB nonce (j / 16))).getD (j % 16) 0
def strL (K nonce b : List UInt8) : List UInt8 := tab b.length (strF K nonce b)
def strE (key nonce : List UInt8) : Int := if key.length = 16 ∧ nonce.length = 12 then 0 else 1
def strR (key nonce b : List UInt8) : List UInt8 := if key.length = 16 ∧ nonce.length = 12 then strL (keysL key) nonce b else []
theorem strL_length (K nonce b : List UInt8) : (strL K nonce b).length = b.length := tab_length _ _
theorem ctrB_length (nonce : List UInt8) (q : Nat) : (ctrB nonce q).length = nonce.length + 4 := by simp [ctrB, be_length]
theorem strL_get (K nonce b : List UInt8) (j : Nat) (h : j < b.length) : (strL K nonce b).getD j 0 = strF K nonce b j := tab_get _ _ _ h
theorem strL_some (K nonce b : List UInt8) (j : Nat) (h : j < b.length) : (strL K nonce b)[j]? = some (strF K nonce b j) := by simp [strL, tab, h]

/-- copy(d, s): d from place off on of a block of the call's own, s whatever reads as bytes. -/
theorem wpList_copy_mid {P : Program} {w : World} {t e : TypeId} (U : U8 P t e) {ops : Array Oper} {rest : List Oper} {o : Oper} {a : Act} {Q : Exit → Act → World → Prop} (hgd : o.guard = none) (d s : Operand)
    (ho : o.op = .call { callee := .builtin .copy, args := #[d, s], argTypes := #[t, t] })
    (T : TypeId) (g off : Nat) (v : Value) (l m : List UInt8) (c n : Nat) (hd : a.eval d = .slice (some ⟨g, off, none⟩) n c) (hs : a.eval s = v) (hg : By T w g m) (hr : Rd w v l) (hl : l.length ≤ n) (h0 : 0 < l.length) (hm : off + l.length ≤ m.length)
    (h : ∀ w', By T w' g (m.take off ++ (l ++ m.drop (off + l.length))) → But g w w' → wpList P ops Q rest (a.put o.dst (.int .i64 (l.length : Int))) w') : wpList P ops Q (o :: rest) a w := by
  obtain ⟨i, hi, hz, hsize, hby⟩ := U.hi
  have hsz : (P.info? e).map (·.size) = some 1 := by rw [hi]; simp [hsize]
  obtain ⟨x, cc, rfl, h1, h2, h3, h4⟩ := hr
  cases x with
  | none =>
    have := h3 rfl
    omega
  | some x =>
    refine wpList_copy_own hgd d s t t ho e U.ht hsz g off _ _ x _ _ hd hs _ _ hg (Lib.byteCells l) (by rw [byteCells_length]; exact (Nat.min_eq_left hl).symm) (fun j u hj => ?_) (by simp [Lib.byteCells]; omega) (fun u hu => ?_) ?_
    · have hjl : j < l.length := by
        have := (List.getElem?_eq_some_iff.1 hj).1
        rwa [byteCells_length] at this
      rw [byteCells_get l j hjl] at hj
      cases hj
      exact h4 x rfl j hjl
    · obtain ⟨b, _, rfl⟩ := List.mem_map.1 hu
      rfl
    · have e1 : (goInt (Lib.byteCells l).length) = .int .i64 (l.length : Int) := by rw [byteCells_length]; rfl
      rw [e1]
      refine h _ ?_ (But.setRow g w _)
      unfold By
      rw [setRow_heap w g _ _ T _ hg]
      congr 2
      simp [Lib.byteCells, List.map_drop, List.map_take]
end Go.Proofs.Ytfnkcdcbjcoefaa

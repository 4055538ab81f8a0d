/- copy onto the head of a block of the call's own. Nothing of a dump. -/
import Derived.Test.YtfnkcdcbjcoefaaByteRow
import Derived.Laws.CopyOwn
set_option linter.unusedVariables false
set_option linter.unusedSimpArgs false
namespace Go.Proofs.Ytfnkcdcbjcoefaa
open Go.RowKit

/-- copy(d, s): d the head of a row of noughts of the call's own, s whatever reads as bytes. -/
theorem wpList_copy_blk {P : Program} {w : World} {t e : TypeId} (U : U8 P t e) {ops : Array Oper} {rest : List Oper} {o : Oper} {a : Act} {Q : Exit → Act → World → Prop} (hgd : o.guard = none) (d s : Operand)
    (ho : o.op = .call { callee := .builtin .copy, args := #[d, s], argTypes := #[t, t] })
    (T : TypeId) (g : Nat) (v : Value) (l m : List UInt8) (c n : Nat) (hd : a.eval d = .slice (some ⟨g, 0, none⟩) n c) (hs : a.eval s = v) (hg : By T w g m) (hn : m.length = n) (hr : Rd w v l) (hl : l.length ≤ n)
    (h : ∀ w', By T w' g (l ++ m.drop l.length) → But g w w' → wpList P ops Q rest (a.put o.dst (.int .i64 (l.length : Int))) w') : wpList P ops Q (o :: rest) a w := by
  obtain ⟨i, hi, hz, hsize, hby⟩ := U.hi
  have hsz : (P.info? e).map (·.size) = some 1 := by rw [hi]; simp [hsize]
  obtain ⟨x, cc, rfl, h1, h2, h3, h4⟩ := hr
  subst hn
  by_cases h0 : l = []
  · subst h0
    refine wpList_copy_nothing hgd d s t t ho e U.ht hsz _ _ _ _ _ _ hd hs (by simp) ?_
    exact h w (by simpa using hg) ⟨fun h _ => h, fun h _ => h, rfl, fun _ _ => rfl⟩
  · cases x with
    | none =>
      have := h3 rfl
      have : l.length = 0 := by omega
      exact absurd (List.eq_nil_of_length_eq_zero this) h0
    | some x =>
      refine wpList_copy_own hgd d s t t ho e U.ht hsz g 0 _ _ x _ _ hd hs _ _ hg (Lib.byteCells l) (by rw [byteCells_length]; exact (Nat.min_eq_left hl).symm) (fun j u hj => ?_) (by simp [Lib.byteCells]; omega) (fun u hu => ?_) ?_
      · have hjl : j < l.length := by
          have := (List.getElem?_eq_some_iff.1 hj).1
          rwa [byteCells_length] at this
        rw [byteCells_get l j hjl] at hj
        cases hj
        exact h4 x rfl j hjl
      · obtain ⟨b, _, rfl⟩ := List.mem_map.1 hu
        rfl
      · have e1 : (goInt (Lib.byteCells l).length) = .int .i64 (l.length : Int) := by rw [byteCells_length]; rfl
        rw [e1]
        refine h _ ?_ (But.setRow g w _)
        have hlt := (Array.getElem?_eq_some_iff.1 hg)
        unfold By
        rw [setRow_heap w g _ _ T _ hg]
        congr 2
        simp [Lib.byteCells, List.map_drop]

end Go.Proofs.Ytfnkcdcbjcoefaa

/- pyxref05: Block, Stream. -/
import Derived.Test.YtdcbljfacmidjaaRefLock
import Derived.Test.YtdcbljfacmidjaaAesB
import Derived.Test.YtdcbljfacmidjaaBytAll
import Derived.Test.YtdcbljfacmidjaaShaC
import Derived.Maps.AppendAt
import Derived.Deep.RegionHeld3
set_option linter.unusedVariables false
set_option linter.unusedSimpArgs false
namespace Go.Proofs.Ytdcbljfacmidjaa
open Go.RowKit

/-- append onto memory of the call's own, as one step of a region that draws its order; where the row lies then. -/
theorem step_append_at5 {P : Program} {t e : TypeId} (U : U8 P t e) {ops : Array Oper} {o : Oper} {a : Act} {w : World} {K : Act → World → Prop} {Q : Exit → Act → World → Prop} {E : Prop}
    (hg : o.guard = none) (s x : Operand) (hop : o.op = Op.call { callee := Callee.builtin Builtin.append, args := #[s, x], argTypes := #[t, t] })
    (B : Nat) (v : Value) (l : List UInt8) (hs : a.eval s = v) (hown : Ow e w B v l) (ad : Addr) (n c : Nat) (m : List UInt8) (hx : a.eval x = .slice (some ad) n c) (hu : Rd w (.slice (some ad) n c) m)
    (hlen : l.length + m.length ≤ 140737488355328) (hbase : B ≤ w.heap.size)
    (hK : ∀ v' w', Ow e w' B v' (l ++ m) → w.grownBy w' v.ownBlock → (v'.ownBlock = v.ownBlock ∨ v'.ownBlock = some w.heap.size) → K (a.put o.dst v') w') :
    if Region.wanted o (yielded ops a.tmps) = true then Oper.wp P o a w K Q else E := by
  have hw : Region.wanted o (yielded ops a.tmps) = true := by simp [Region.wanted, hg]
  rw [if_pos hw]
  obtain ⟨i, hi, hz, hsize, hby⟩ := U.hi
  obtain ⟨hn, _, _⟩ := hu.len
  subst hn
  obtain ⟨a', c', e', h1, h2, h3, h4⟩ := hu
  simp only [Value.slice.injEq] at e'
  obtain ⟨rfl, _, rfl⟩ := e'
  obtain ⟨v', w', hrun, k1, k2, _, k4⟩ := run_append_own_at (P := P) (w := w) B t o.type e i (.int .u8 0) 1 1 U.ht hi hz hsize hby rfl (by decide) v l.length (Lib.byteCells l) hown ad m.length c (Lib.byteCells m) (by rw [byteCells_length]; omega) (fun j z hj => by
    have hjl : j < m.length := by
      have := (List.getElem?_eq_some_iff.1 hj).1
      rwa [byteCells_length] at this
    rw [byteCells_get m j hjl] at hj
    cases hj
    exact h4 ad rfl j hjl) (fun z hz => by
    obtain ⟨b, _, rfl⟩ := List.mem_map.1 hz
    rfl) (by unfold maxLen; omega) (by omega) hbase
  have hK2 := hK v' w' (by unfold Ow; rw [List.length_append, byteCells_append]; exact k1) k2 k4
  unfold Oper.wp
  simp [execOp, hop, resolve, invoke, builtin, hs, hx, hrun, Result.andThen]
  exact hK2

theorem grown_cell5 {w w' : World} {row : Option Nat} {p : Addr} {v : Value} (hg : w.grownBy w' row) (hc : w.cell? p = some v) (hne : row ≠ some p.block) : w'.cell? p = some v :=
  (World.cell?_of_block (w := w) (hg.block p.block (World.block_lt_of_cell? w _ hc) (fun e => hne e.symm))).trans hc
theorem strL_take (K nonce b : List UInt8) (j : Nat) (h : j < b.length) : (strL K nonce b).take (j + 1) = (strL K nonce b).take j ++ [strF K nonce b j] := by
  rw [snoc_take _ _ (by rw [strL_length]; exact h), strL_get _ _ _ _ h]

end Go.Proofs.Ytdcbljfacmidjaa

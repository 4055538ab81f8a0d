/- pyxref10: two, row, Node. -/
import Derived.Test.YtobldbodafaajaaDoorHashPl10
import Derived.Test.YtobldbodafaajaaDoorTreePl9
import Derived.Test.YtobldbodafaajaaDoorByt9
import Derived.Test.YtobldbodafaajaaDoorVal9
import Derived.Deep.RegionHeld3
import Derived.Test.YtobldbodafaajaaDoorShaB10
import Derived.Test.YtobldbodafaajaaDoorRefTree9
set_option linter.unusedVariables false
set_option linter.unusedSimpArgs false
namespace Go.Proofs.YtobldbodafaajaaDoor
open Go.RowKit

theorem step_append_any {P : Program} {t e : TypeId} (U : U8 P t e) {ops : Array Oper} {o : Oper} {a : Act} {w : World} {K : Act → World → Prop} {Q : Exit → Act → World → Prop} {E : Prop}
    (hg : o.guard = none) (s x : Operand) (hop : o.op = Op.call { callee := Callee.builtin Builtin.append, args := #[s, x], argTypes := #[t, t] })
    (B : Nat) (v : Value) (l : List UInt8) (hs : a.eval s = v) (hown : Ow e w B v l) (u : Value) (m : List UInt8) (hx : a.eval x = u) (hu : Rd w u m)
    (hlen : l.length + m.length ≤ 140737488355328) (hbase : B ≤ w.heap.size)
    (hK : ∀ v' w', Ow e w' B v' (l ++ m) → w.grownBy w' v.ownBlock → K (a.put o.dst v') w') :
    if Region.wanted o (yielded ops a.tmps) = true then Oper.wp P o a w K Q else E := by
  rw [if_pos (by simp [Region.wanted, hg])]
  exact wp_append_ow U s x hop B v l hs hown u m hx hu hlen hbase (fun v' w' h1 h2 _ => hK v' w' h1 h2)
theorem rd_sl10 {w : World} {v : Value} {l : List UInt8} (h : Rd w v l) : ∃ a n c, v = .slice a n c := by
  obtain ⟨a, c, e, _⟩ := h.shape
  exact ⟨_, _, _, e⟩
end Go.Proofs.YtobldbodafaajaaDoor

/- pyxref10: digest. -/
set_option linter.unusedVariables false
set_option linter.unusedSimpArgs false
namespace Go.Proofs.YtobldbodafaajaaDoor
open Go.RowKit

theorem kp_drew10 (A : World) : Kp A A.drew := Kp.drew (a := A) (b := A) (Kp.refl A)
/-- A tidy tree's node, where it is read. -/
theorem NL.node {w : World} {v : Value} {t : List Nod} (h : NL w v t) {x : Nat} (hx : x < t.length) :
    ∃ b off c p u q, v = .slice (some ⟨b, off, none⟩) t.length c ∧ NAt w b (off + x * 5) (ats t x) p u q := by
  obtain ⟨a, c, rfl, h1, h2⟩ := h.shape
  obtain ⟨b, off, rfl, _, hi⟩ := h.at x hx
  obtain ⟨p, u, q, hn⟩ := hi x hx
  exact ⟨b, off, c, p, u, q, rfl, hn⟩
theorem TidyT.lt {t : List Nod} {K : Nat} (h : TidyT t K) {j q : Nat} (hj : j ≤ K) (hq : q < 2 ^ (K - j)) : nd j q < t.length ∧ nd j q ≤ 2046 := by
  have h1 := nd_lt hj hq
  have h2 := nd_small h.le hj hq
  rw [h.len]
  exact ⟨h1, h2.1⟩
end Go.Proofs.YtobldbodafaajaaDoor

/- pyxref10: digest, at a node over others. -/
set_option linter.unusedVariables false
set_option linter.unusedSimpArgs false
namespace Go.Proofs.YtobldbodafaajaaDoor
open Go.RowKit

theorem kid10 {K j q : Nat} (hj : j + 1 ≤ K) (hq : q < 2 ^ (K - (j + 1))) : 2 * q < 2 ^ (K - j) ∧ 2 * q + 1 < 2 ^ (K - j) := by
  have e : K - j = (K - (j + 1)) + 1 := by omega
  rw [e, p2_succ]
  omega
theorem filter_take_succ (l : List Int) (g : List Int) (i : Nat) (h : i < l.length) :
    (l.take (i + 1)).filter (fun i => decide (i ∉ g)) = (l.take i).filter (fun i => decide (i ∉ g)) ++ (if l.getD i 0 ∈ g then [] else [l.getD i 0]) := by
  rw [List.take_add_one, List.getElem?_eq_getElem h, List.filter_append, List.getD_eq_getElem?_getD, List.getElem?_eq_getElem h]
  simp only [Option.toList_some, Option.getD_some]
  by_cases hx : l[i] ∈ g
  · rw [if_pos hx]; simp [hx]
  · rw [if_neg hx]; simp [hx]
end Go.Proofs.YtobldbodafaajaaDoor

/- pyxref10: Tree, Above. -/
set_option linter.unusedVariables false
set_option linter.unusedSimpArgs false
namespace Go.Proofs.YtobldbodafaajaaDoor
open Go.RowKit

theorem TidyT.at {t : List Nod} {K : Nat} (h : TidyT t K) {x : Nat} (hx : x < t.length) : ∃ j q, x = nd j q ∧ j ≤ K ∧ q < 2 ^ (K - j) := nd_of K x (by rw [← h.len]; exact hx)
end Go.Proofs.YtobldbodafaajaaDoor

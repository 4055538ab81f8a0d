/- append onto memory of the call's own, as one step of a region that draws its order. Nothing of a dump. -/
import Derived.Test.YtakaebedibgimaaBase
import Derived.Laws.AppendOwn
import Derived.Deep.RegionLaw
set_option linter.unusedVariables false
set_option linter.unusedSimpArgs false
namespace Go.Proofs.Ytakaebedibgimaa
open Go.RowKit
theorem step_append_ow {P : Program} {t e : TypeId} (U : U8 P t e) {ops : Array Oper} {o : Oper} {a : Act} {w : World} {K : Act → World → Prop} {Q : Exit → Act → World → Prop} {E : Prop}
    (hg : o.guard = none) (s x : Operand) (hop : o.op = Op.call { callee := Callee.builtin Builtin.append, args := #[s, x], argTypes := #[t, t] })
    (B : Nat) (v : Value) (l : List UInt8) (hs : a.eval s = v) (hown : Ow e w B v l) (ad : Addr) (n c : Nat) (m : List UInt8) (hx : a.eval x = .slice (some ad) n c) (hu : Rd w (.slice (some ad) n c) m)
    (hlen : l.length + m.length ≤ 140737488355328) (hbase : B ≤ w.heap.size)
    (hK : ∀ v' w', Ow e w' B v' (l ++ m) → w.grownBy w' v.ownBlock → K (a.put o.dst v') w') :
    if Region.wanted o (yielded ops a.tmps) = true then Oper.wp P o a w K Q else E := by
  have hw : Region.wanted o (yielded ops a.tmps) = true := by simp [Region.wanted, hg]
  rw [if_pos hw]
  obtain ⟨i, hi, hz, hsize, hby⟩ := U.hi
  obtain ⟨hn, _, _⟩ := hu.len
  subst hn
  obtain ⟨a', c', e', h1, h2, h3, h4⟩ := hu
  simp only [Value.slice.injEq] at e'
  obtain ⟨rfl, _, rfl⟩ := e'
  refine wp_append_own w s x t hop B e i (.int .u8 0) 1 1 U.ht hi hz hsize hby rfl (by decide) v l.length (Lib.byteCells l) hs hown ad m.length c (Lib.byteCells m) hx (by rw [byteCells_length]; omega) (fun j z hj => ?_) (fun z hz => ?_) (by unfold maxLen; omega) (by omega) hbase
    (fun v' w' h1 h2 _ => hK v' w' (by unfold Ow; rw [List.length_append, byteCells_append]; exact h1) h2)
  · have hjl : j < m.length := by
      have := (List.getElem?_eq_some_iff.1 hj).1
      rwa [byteCells_length] at this
    rw [byteCells_get m j hjl] at hj
    cases hj
    exact h4 ad rfl j hjl
  · obtain ⟨b, _, rfl⟩ := List.mem_map.1 hz
    rfl
end Go.Proofs.Ytakaebedibgimaa

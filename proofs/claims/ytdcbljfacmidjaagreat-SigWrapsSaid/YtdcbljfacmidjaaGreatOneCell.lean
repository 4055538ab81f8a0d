/- Blocks of one cell. Nothing of a dump. -/
import Derived.Test.YtdcbljfacmidjaaGreatBase
import Derived.Laws.Rows
import Derived.Laws.Tables
set_option linter.unusedVariables false
set_option linter.unusedSimpArgs false
namespace Go.Proofs.YtdcbljfacmidjaaGreat
open Go.RowKit

/-- A block of one cell (a captured variable). -/
def One (T : TypeId) (w : World) (p : Nat) (v : Value) : Prop := w.heap[p]? = some (.cells #[v] T (0, 0))
theorem One.new (T : TypeId) (w : World) (v : Value) : One T (w.alloc (.cells #[v] T)) w.heap.size v := heap_alloc_new w _
theorem One.lt {T : TypeId} {w : World} {p : Nat} {v : Value} (h : One T w p v) : p < w.heap.size := (Array.getElem?_eq_some_iff.1 h).1
theorem One.cell {T : TypeId} {w : World} {p : Nat} {v : Value} (h : One T w p v) : w.cell? ⟨p, 0, none⟩ = some v := by
  rw [cell_of_row w p 0 _ T _ h]; rfl
theorem One.frozen {T : TypeId} {w : World} {p : Nat} {v : Value} (h : One T w p v) : w.frozen? ⟨p, 0, none⟩ = false := by
  have h' := h
  unfold One at h'
  simp [World.frozen?, h']
theorem One.kp {T : TypeId} {w w' : World} {p : Nat} {v : Value} (h : One T w p v) (k : Kp w w') : One T w' p v := (k.block p h.lt).trans h
theorem One.set {T : TypeId} {w : World} {p : Nat} {v : Value} (h : One T w p v) (u : Value) : One T (w.setCell ⟨p, 0, none⟩ u) p u := by
  have h' := h
  unfold One at h' ⊢
  obtain ⟨hlt, heq⟩ := Array.getElem?_eq_some_iff.1 h'
  simp [World.setCell, hlt, Array.getElem_modify, heq]

end Go.Proofs.YtdcbljfacmidjaaGreat

/- What the laws of layer 10 share: the leaf that they choose; a byte of a row of the call's own that is written. -/
import Derived.Test.YtobldbodafaajaaGreatDoorHashPl10
import Derived.Test.YtobldbodafaajaaGreatDoorRefTree9
import Derived.Test.YtobldbodafaajaaGreatDoorTreeRow10
set_option linter.unusedVariables false
set_option linter.unusedSimpArgs false
namespace Go.Proofs.YtobldbodafaajaaGreatDoor
open Go.RowKit

theorem cells_set (l : List UInt8) (k : Nat) (b : UInt8) : (Lib.byteCells l).set k (.int .u8 (b.toNat : Int)) = Lib.byteCells (l.set k b) := by
  unfold Lib.byteCells
  rw [List.map_set]
/-- A byte of a row of the call's own is written. -/
theorem Ow.put {e : TypeId} {w : World} {B g n c k : Nat} {l : List UInt8} (h : Ow e w B (.slice (some ⟨g, 0, none⟩) n c) l) (b : UInt8) : Ow e (w.setCell ⟨g, k, none⟩ (.int .u8 (b.toNat : Int))) B (.slice (some ⟨g, 0, none⟩) n c) (l.set k b) := by
  have hn : l.length = n := by
    rcases h.shape with ⟨e, _⟩ | ⟨g', c', e, _⟩
    · cases e
    · simp only [Value.slice.injEq] at e; exact e.2.1.symm
  subst hn
  have h1 := (World.ownsRow.stored h k (.int .u8 (b.toNat : Int))).1
  rw [cells_set] at h1
  unfold Ow
  rw [List.length_set]
  exact h1
theorem Ow.frozenAt {e : TypeId} {w : World} {B g n c : Nat} {l : List UInt8} (h : Ow e w B (.slice (some ⟨g, 0, none⟩) n c) l) (k : Nat) : w.frozen? ⟨g, k, none⟩ = false := by
  have hn : l.length = n := by
    rcases h.shape with ⟨e, _⟩ | ⟨g', c', e, _⟩
    · cases e
    · simp only [Value.slice.injEq] at e; exact e.2.1.symm
  subst hn
  exact World.ownsRow.frozenAt h k
/-- An empty literal, behind a block. -/
theorem Ow.none1 (W : World) (e : TypeId) (o : Obj) : Ow e ((W.alloc o).alloc (.cells #[] e)) (W.heap.size + 1) (.slice (some ⟨W.heap.size + 1, 0, none⟩) 0 0) [] := by
  have := Ow.lit (W.alloc o) e (W.heap.size + 1) 0 #[] [] (by simp) rfl (by omega) rfl
  rwa [World.size_alloc] at this
theorem leaf_facts {t : List Nod} {K : Nat} (hr : RightK t K) (hT : TidyT t K) (i9 : Nat) :
    0 < (usedL t).length ∧ (usedL t).length ≤ 1024 ∧ i9 % (usedL t).length < (usedL t).length ∧ ∃ j : Nat, ((usedL t).map fun (n : Nat) => (n : Int)).getD (i9 % (usedL t).length) 0 = (j : Int) ∧ (ats t (2 * j)).kind = 1 ∧ 2 * j < t.length ∧ j < 2 ^ K ∧ (ats t (2 * j)).pub.length = 32 ∧ (ats t (2 * j)).un = [] := by
  obtain ⟨l0, m0, hu0⟩ := hr.used_ne
  have hupos : 0 < (usedL t).length := by rw [hu0, List.length_append]; simp
  have hul : (usedL t).length ≤ lvs t := by
    unfold usedL
    exact Nat.le_trans (List.length_filter_le _ _) (by rw [List.length_range]; exact Nat.le_refl _)
  have hlv := hr.lv
  have hp2 := p2_le hr.le
  have hil : i9 % (usedL t).length < (usedL t).length := Nat.mod_lt _ hupos
  have hjk : (ats t (2 * (usedL t)[i9 % (usedL t).length])).kind = 1 := (used_mem t _).1 (List.getElem_mem hil)
  have hlt : 2 * (usedL t)[i9 % (usedL t).length] < t.length := by
    refine Nat.lt_of_not_le fun hle => ?_
    rw [ats_over hle] at hjk
    cases hjk
  have hl2 := hr.len2
  refine ⟨hupos, by omega, hil, (usedL t)[i9 % (usedL t).length], ?_, hjk, hlt, by omega, ?_⟩
  · rw [List.getD_eq_getElem?_getD, List.getElem?_map, List.getElem?_eq_getElem hil]; rfl
  · rcases hr.even (usedL t)[i9 % (usedL t).length] with e | ⟨_, h2, h3, _⟩
    · rw [e] at hjk; cases hjk
    · exact ⟨h3.2.2, h2⟩
end Go.Proofs.YtobldbodafaajaaGreatDoor

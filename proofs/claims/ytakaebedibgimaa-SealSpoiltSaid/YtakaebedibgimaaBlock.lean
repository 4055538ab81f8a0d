/- sha.Block; the document's own; the document's Key. -/
import Derived.Test.YtakaebedibgimaaCalls
import Derived.Deep.RegionHeld3
set_option linter.unusedVariables false
set_option linter.unusedSimpArgs false
namespace Go.Proofs.Ytakaebedibgimaa
open Go.RowKit

section
variable {P : Program}
/-- An array in memory, and a number beside it. -/
theorem results_arr_int {T ty e : TypeId} {n : Nat} (hu : P.underlying ty = some (.array n e)) (hi : (P.info? ty).map (·.size) = some n) {fn : Func} {p q : Tmp} (hr : fn.results = #[.cell p ty, .tmp q]) (tmps : Array Value) (w : World) (g : Nat) (l : List UInt32) (v : Value)
    (hp : tmps.getD p undef = .pointer (some ⟨g, 0, none⟩)) (hq : tmps.getD q undef = v) (h : Arr T w g l) (hl : l.length = n) : (results fn tmps).run P w = .ok (.tuple #[.agg (wcells l), v]) w := by
  have hp' : tmps[p]?.getD undef = .pointer (some ⟨g, 0, none⟩) := by simpa using hp
  have hq' : tmps[q]?.getD undef = v := by simpa using hq
  simp [results, hr, hp', hq', asAddr, run_loadVar_row w g T ty (wcells l) (0, 0) _ h hu rfl (by rw [hi, wcells_size, hl])]
end

/-- Eight words in memory, cell by cell. -/
theorem Arr.cells8 {T : TypeId} {w : World} {g : Nat} {s : S8} (h : Arr T w g s.list) :
    w.cell? ⟨g, 0, none⟩ = some (.int .u32 (u s.a)) ∧ w.cell? ⟨g, 1, none⟩ = some (.int .u32 (u s.b)) ∧ w.cell? ⟨g, 2, none⟩ = some (.int .u32 (u s.c)) ∧ w.cell? ⟨g, 3, none⟩ = some (.int .u32 (u s.d)) ∧
    w.cell? ⟨g, 4, none⟩ = some (.int .u32 (u s.e)) ∧ w.cell? ⟨g, 5, none⟩ = some (.int .u32 (u s.f)) ∧ w.cell? ⟨g, 6, none⟩ = some (.int .u32 (u s.g)) ∧ w.cell? ⟨g, 7, none⟩ = some (.int .u32 (u s.h)) :=
  ⟨h.cell 0 (Nat.lt_of_sub_eq_succ rfl), h.cell 1 (Nat.lt_of_sub_eq_succ rfl), h.cell 2 (Nat.lt_of_sub_eq_succ rfl), h.cell 3 (Nat.lt_of_sub_eq_succ rfl), h.cell 4 (Nat.lt_of_sub_eq_succ rfl), h.cell 5 (Nat.lt_of_sub_eq_succ rfl), h.cell 6 (Nat.lt_of_sub_eq_succ rfl), h.cell 7 (Nat.lt_of_sub_eq_succ rfl)⟩
theorem Arr.frozen8 {T : TypeId} {w : World} {g : Nat} {s : S8} (h : Arr T w g s.list) :
    w.frozen? ⟨g, 0, none⟩ = false ∧ w.frozen? ⟨g, 1, none⟩ = false ∧ w.frozen? ⟨g, 2, none⟩ = false ∧ w.frozen? ⟨g, 3, none⟩ = false ∧ w.frozen? ⟨g, 4, none⟩ = false ∧ w.frozen? ⟨g, 5, none⟩ = false ∧ w.frozen? ⟨g, 6, none⟩ = false ∧ w.frozen? ⟨g, 7, none⟩ = false :=
  ⟨h.frozen 0 (Nat.lt_of_sub_eq_succ rfl), h.frozen 1 (Nat.lt_of_sub_eq_succ rfl), h.frozen 2 (Nat.lt_of_sub_eq_succ rfl), h.frozen 3 (Nat.lt_of_sub_eq_succ rfl), h.frozen 4 (Nat.lt_of_sub_eq_succ rfl), h.frozen 5 (Nat.lt_of_sub_eq_succ rfl), h.frozen 6 (Nat.lt_of_sub_eq_succ rfl), h.frozen 7 (Nat.lt_of_sub_eq_succ rfl)⟩
/-- Eight words laid, one by one. -/
theorem Arr.set8 {T : TypeId} {w : World} {g : Nat} {s : S8} (h : Arr T w g s.list) (r : S8) :
    Arr T ((((((((w.setCell ⟨g, 0, none⟩ (.int .u32 (u r.a))).setCell ⟨g, 1, none⟩ (.int .u32 (u r.b))).setCell ⟨g, 2, none⟩ (.int .u32 (u r.c))).setCell ⟨g, 3, none⟩ (.int .u32 (u r.d))).setCell ⟨g, 4, none⟩ (.int .u32 (u r.e))).setCell ⟨g, 5, none⟩ (.int .u32 (u r.f))).setCell ⟨g, 6, none⟩ (.int .u32 (u r.g))).setCell ⟨g, 7, none⟩ (.int .u32 (u r.h))) g r.list :=
  (((((((h.set 0 r.a _ rfl).set 1 r.b _ rfl).set 2 r.c _ rfl).set 3 r.d _ rfl).set 4 r.e _ rfl).set 5 r.f _ rfl).set 6 r.g _ rfl).set 7 r.h _ rfl
theorem below_set8 {B : Nat} {a w : World} (h : Below B a w) {g : Nat} (hg : B ≤ g) (v0 v1 v2 v3 v4 v5 v6 v7 : Value) :
    Below B a ((((((((w.setCell ⟨g, 0, none⟩ v0).setCell ⟨g, 1, none⟩ v1).setCell ⟨g, 2, none⟩ v2).setCell ⟨g, 3, none⟩ v3).setCell ⟨g, 4, none⟩ v4).setCell ⟨g, 5, none⟩ v5).setCell ⟨g, 6, none⟩ v6).setCell ⟨g, 7, none⟩ v7) :=
  (((((((h.setCell (p := ⟨g, 0, none⟩) hg _).setCell (p := ⟨g, 1, none⟩) hg _).setCell (p := ⟨g, 2, none⟩) hg _).setCell (p := ⟨g, 3, none⟩) hg _).setCell (p := ⟨g, 4, none⟩) hg _).setCell (p := ⟨g, 5, none⟩) hg _).setCell (p := ⟨g, 6, none⟩) hg _).setCell (p := ⟨g, 7, none⟩) hg _
/-- Eight words, written out. -/
theorem agg8 (r : S8) : Value.agg (wcells r.list) = .agg #[.int .u32 (u r.a), .int .u32 (u r.b), .int .u32 (u r.c), .int .u32 (u r.d), .int .u32 (u r.e), .int .u32 (u r.f), .int .u32 (u r.g), .int .u32 (u r.h)] := rfl
def zeroS : S8 := ⟨0, 0, 0, 0, 0, 0, 0, 0⟩

def blockS (s : S8) (l : List UInt8) : S8 := if l.length = 64 then comp keyL s l else s
def blockE (l : List UInt8) : Int := if l.length = 64 then 0 else 1

end Go.Proofs.Ytakaebedibgimaa

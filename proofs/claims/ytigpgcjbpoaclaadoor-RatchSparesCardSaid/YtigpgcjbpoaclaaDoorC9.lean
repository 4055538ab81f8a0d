import Derived.Test.YtigpgcjbpoaclaaDoorC2
import Derived.Laws.Rows
import Derived.Laws.Tables
set_option linter.unusedVariables false
set_option linter.unusedSimpArgs false
namespace Go.Proofs.YtigpgcjbpoaclaaDoor
open Go.RowKit
def wcell (x : UInt32) : Value := .int .u32 (u x)
def wcells (l : List UInt32) : Array Value := (l.map wcell).toArray
def Arr (T : TypeId) (w : World) (g : Nat) (l : List UInt32) : Prop := w.heap[g]? = some (.cells (wcells l) T (0, 0))
theorem wcells_size (l : List UInt32) : (wcells l).size = l.length := by simp [wcells]
theorem wcells_get (l : List UInt32) (i : Nat) (h : i < l.length) : (wcells l)[i]? = some (.int .u32 (u (l.getD i 0))) := by
  simp [wcells, wcell, h]
theorem Arr.lt {T : TypeId} {w : World} {g : Nat} {l : List UInt32} (h : Arr T w g l) : g < w.heap.size := (Array.getElem?_eq_some_iff.1 h).1
theorem Arr.cell {T : TypeId} {w : World} {g : Nat} {l : List UInt32} (h : Arr T w g l) (i : Nat) (hi : i < l.length) : w.cell? ⟨g, i, none⟩ = some (.int .u32 (u (l.getD i 0))) := by
  rw [cell_of_row w g i _ T _ h, wcells_get l i hi]
theorem Arr.frozen {T : TypeId} {w : World} {g : Nat} {l : List UInt32} (h : Arr T w g l) (i : Nat) (hi : i < l.length) : w.frozen? ⟨g, i, none⟩ = false := by
  have h' := h
  unfold Arr at h'
  simp [World.frozen?, h']
theorem Arr.kp {T : TypeId} {w w' : World} {g : Nat} {l : List UInt32} (h : Arr T w g l) (k : Kp w w') : Arr T w' g l :=
  (k.block g h.lt).trans h
theorem Arr.below {T : TypeId} {w w' : World} {g B : Nat} {l : List UInt32} (h : Arr T w g l) (k : Below B w w') (hg : g < B) : Arr T w' g l :=
  (k.block g hg).trans h
theorem Arr.drewN {T : TypeId} {w : World} {g : Nat} {l : List UInt32} (h : Arr T w g l) (n : Nat) : Arr T (w.drewN n) g l := h.kp ((Kp.refl w).drewN n)
theorem Arr.drew {T : TypeId} {w : World} {g : Nat} {l : List UInt32} (h : Arr T w g l) : Arr T w.drew g l := h
theorem Arr.alloc {T : TypeId} {w : World} {g : Nat} {l : List UInt32} (h : Arr T w g l) (o : Obj) : Arr T (w.alloc o) g l := (Below.heap_alloc w o g h.lt).trans h
theorem Arr.new (T : TypeId) (w : World) (cs : Array Value) (l : List UInt32) (h : cs = wcells l) : Arr T (w.alloc (.cells cs T)) w.heap.size l := by
  subst h
  exact heap_alloc_new w _
theorem wcells_set (l : List UInt32) (i : Nat) (x : UInt32) : (wcells l).setIfInBounds i (wcell x) = wcells (l.set i x) := by
  apply Array.ext'
  simp [wcells, List.map_set]
theorem Arr.set {T : TypeId} {w : World} {g : Nat} {l : List UInt32} (h : Arr T w g l) (i : Nat) (x : UInt32) (v : Value) (hv : v = .int .u32 (u x)) : Arr T (w.setCell ⟨g, i, none⟩ v) g (l.set i x) := by
  subst hv
  have h' := h
  unfold Arr at h' ⊢
  obtain ⟨hlt, heq⟩ := Array.getElem?_eq_some_iff.1 h'
  have e := wcells_set l i x
  unfold wcell at e
  simp [World.setCell, hlt, Array.getElem_modify, heq, e]
theorem Arr.setTo {T : TypeId} {w : World} {g : Nat} {l m : List UInt32} (h : Arr T w g l) (i : Nat) (x : UInt32) (hm : l.set i x = m) : Arr T (w.setCell ⟨g, i, none⟩ (.int .u32 (u x))) g m := hm ▸ h.set i x _ rfl
theorem Arr.other {T : TypeId} {w : World} {g : Nat} {l : List UInt32} (h : Arr T w g l) (a : Addr) (v : Value) (hne : g ≠ a.block) : Arr T (w.setCell a v) g l :=
  (Below.heap_setCell w a v g hne).trans h
section
variable {P : Program}
theorem wpList_load_arr {T ty e : TypeId} {n : Nat} (hu : P.underlying ty = some (.array n e)) (hi : (P.info? ty).map (·.size) = some n) {ops : Array Oper} {rest : List Oper} {o : Oper} {a : Act} {w : World} {Q : Exit → Act → World → Prop} (hgd : o.guard = none) (x : Operand) (ho : o.op = .load ty x)
    (g : Nat) (l : List UInt32) (hx : a.eval x = .pointer (some ⟨g, 0, none⟩)) (h : Arr T w g l) (hl : l.length = n)
    (hK : wpList P ops Q rest (a.put o.dst (.agg (wcells l))) w) : wpList P ops Q (o :: rest) a w :=
  wpList_load_row hgd ty x ho g hx T (wcells l) (0, 0) _ h hu rfl (by rw [hi, wcells_size, hl]) hK
theorem wcells_one (l : List UInt32) : (wcells l).all (·.oneCell') = true := by
  rw [Array.all_eq_true_iff_forall_mem]
  intro v hv
  simp only [wcells, List.mem_toArray, List.mem_map] at hv
  obtain ⟨x, _, rfl⟩ := hv
  rfl
theorem Arr.setRow {T : TypeId} {w : World} {g : Nat} {l : List UInt32} (h : Arr T w g l) (m : List UInt32) : Arr T (w.setRow g (wcells m)) g m := by
  unfold Arr at h ⊢
  obtain ⟨hlt, heq⟩ := Array.getElem?_eq_some_iff.1 h
  simp [World.setRow, hlt, Array.getElem_modify, heq]
theorem setRow_other (w : World) (g k : Nat) (cs : Array Value) (h : k ≠ g) : (w.setRow g cs).heap[k]? = w.heap[k]? := by
  simp only [World.setRow]
  rw [Array.getElem?_modify, if_neg (Ne.symm h)]
theorem Arr.setRow_other {T : TypeId} {w : World} {g k : Nat} {l : List UInt32} (h : Arr T w k l) (cs : Array Value) (hne : k ≠ g) : Arr T (w.setRow g cs) k l :=
  (Go.Proofs.YtigpgcjbpoaclaaDoor.setRow_other w g k cs hne).trans h
theorem below_setRow {B : Nat} {a w : World} (h : Below B a w) {g : Nat} (hg : B ≤ g) (cs : Array Value) : Below B a (w.setRow g cs) :=
  ⟨h.os, h.tape, h.output, by simpa [World.setRow] using h.size, fun k hk => (setRow_other w g k cs (by omega)).trans (h.block k hk)⟩
theorem wpList_store_arr {T ty : TypeId} {n : Nat} (hi : (P.info? ty).map (·.size) = some n) {ops : Array Oper} {rest : List Oper} {o : Oper} {a : Act} {w : World} {Q : Exit → Act → World → Prop} (hgd : o.guard = none) (x y : Operand) (ho : o.op = .store ty x y)
    (g : Nat) (l m : List UInt32) (hx : a.eval x = .pointer (some ⟨g, 0, none⟩)) (hy : a.eval y = .agg (wcells m)) (h : Arr T w g l) (hl : l.length = n) (hm : m.length = n)
    (hK : wpList P ops Q rest (a.put o.dst undef) (w.setRow g (wcells m))) : wpList P ops Q (o :: rest) a w :=
  wpList_store_row hgd ty x y ho g (wcells m) hx hy T (wcells l) h (by rw [hi, wcells_size, hm]) (by rw [wcells_size, wcells_size, hl, hm]) (wcells_one m) hK
theorem wpList_make_fresh {t e : TypeId} {z : Value} {b : Nat} (ht : P.underlying t = some (.slice e)) (hinfo : (P.info? e).map (fun i => (i.zero, i.size, i.bytes)) = some (some z, 1, b)) (hz : z.cells = #[z]) (hb : b ≤ 8)
    {ops : Array Oper} {rest : List Oper} {o : Oper} {a : Act} {w : World} {Q : Exit → Act → World → Prop} (hg : o.guard = none) (l c : Operand) (hop : o.op = Op.makeSlice t l c) (n : Nat) (hl : a.eval l = .int .i64 n) (hc : a.eval c = .int .i64 n) (hn : n ≤ 1000000)
    (hK : ∀ W, W = w.alloc (.cells (Array.replicate n z) e) → wpList P ops Q rest (a.put o.dst (.slice (some ⟨w.heap.size, 0, none⟩) n n)) W) : wpList P ops Q (o :: rest) a w := by
  obtain ⟨i, hi, hz0, hz1, hz2⟩ := info_parts hinfo
  refine wpList_plain hg fun K hK' => ?_
  have hbb : (i.bytes : Int) * (n : Int) ≤ 281474976710656 := by
    rw [hz2]
    have h := Nat.mul_le_mul hb hn
    have h2 : ((b * n : Nat) : Int) ≤ ((8 * 1000000 : Nat) : Int) := by omega
    rw [Int.natCast_mul] at h2
    omega
  have hr := run_make (P := P) w t e i z ht hi hz0 .i64 .i64 n n (by omega) (Int.le_refl _) hbb (by omega)
  have hm : madeCells #[z] n = Array.replicate n z := by
    apply Array.ext'
    rw [toList_madeCells_one]
    simp
  rw [hz, hz1, Int.toNat_natCast, Nat.mul_one, hm] at hr
  unfold Oper.wp
  simp [execOp, hop, hl, hc, hr, Result.andThen]
  exact hK' _ _ (hK _ rfl)
structure But (g : Nat) (w W : World) : Prop where
  below : ∀ {B : Nat} {a : World}, Below B a w → B ≤ g → Below B a W
  arr : ∀ {T : TypeId} {k : Nat} {l : List UInt32}, Arr T w k l → k ≠ g → Arr T W k l
  size : W.heap.size = w.heap.size
  other : ∀ k, k ≠ g → W.heap[k]? = w.heap[k]?
theorem But.setRow (g : Nat) (w : World) (cs : Array Value) : But g w (w.setRow g cs) := ⟨fun h hb => below_setRow h hb cs, fun h hne => h.setRow_other cs hne, by simp [World.setRow], fun k hk => Go.Proofs.YtigpgcjbpoaclaaDoor.setRow_other w g k cs hk⟩
theorem wpList_store_arr' {T ty : TypeId} {n : Nat} (hi : (P.info? ty).map (·.size) = some n) {ops : Array Oper} {rest : List Oper} {o : Oper} {a : Act} {w : World} {Q : Exit → Act → World → Prop} (hgd : o.guard = none) (hd : o.dst = none) (x y : Operand) (ho : o.op = .store ty x y)
    (g : Nat) (l m : List UInt32) (hx : a.eval x = .pointer (some ⟨g, 0, none⟩)) (hy : a.eval y = .agg (wcells m)) (h : Arr T w g l) (hl : l.length = n) (hm : m.length = n)
    (hK : ∀ W, Arr T W g m → But g w W → wpList P ops Q rest a W) : wpList P ops Q (o :: rest) a w :=
  wpList_store_arr hi hgd x y ho g l m hx hy h hl hm (by rw [hd]; exact hK _ (h.setRow m) (But.setRow g w _))
theorem results_arr {T ty e : TypeId} {n : Nat} (hu : P.underlying ty = some (.array n e)) (hi : (P.info? ty).map (·.size) = some n) {fn : Func} {p : Tmp} (hr : fn.results = #[.cell p ty]) (tmps : Array Value) (w : World) (g : Nat) (l : List UInt32)
    (hp : tmps.getD p undef = .pointer (some ⟨g, 0, none⟩)) (h : Arr T w g l) (hl : l.length = n) : (results fn tmps).run P w = .ok (.agg (wcells l)) w :=
  results_cell_row hr tmps w g T (wcells l) (0, 0) _ hp h hu rfl (by rw [hi, wcells_size, hl])
end
end Go.Proofs.YtigpgcjbpoaclaaDoor

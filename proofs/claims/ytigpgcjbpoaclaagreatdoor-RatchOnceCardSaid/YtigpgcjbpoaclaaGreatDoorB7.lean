import Derived.Test.YtigpgcjbpoaclaaGreatDoorB2
import Derived.Laws.Rows
import Derived.Laws.Tables
import Derived.Laws.PanicsMore
import Derived.Laws.CopyOwn
set_option linter.unusedVariables false
set_option linter.unusedSimpArgs false
namespace Go.Proofs.YtigpgcjbpoaclaaGreatDoor
open Go.RowKit
def wcell (x : UInt32) : Value := .int .u32 (u x)
def wcells (l : List UInt32) : Array Value := (l.map wcell).toArray
def Arr (T : TypeId) (w : World) (g : Nat) (l : List UInt32) : Prop := w.heap[g]? = some (.cells (wcells l) T (0, 0))
theorem wcells_size (l : List UInt32) : (wcells l).size = l.length := by simp [wcells]
theorem wcells_get (l : List UInt32) (i : Nat) (h : i < l.length) : (wcells l)[i]? = some (.int .u32 (u (l.getD i 0))) := by
  simp [wcells, wcell, h]
theorem Arr.lt {T : TypeId} {w : World} {g : Nat} {l : List UInt32} (h : Arr T w g l) : g < w.heap.size := (Array.getElem?_eq_some_iff.1 h).1
theorem Arr.cell {T : TypeId} {w : World} {g : Nat} {l : List UInt32} (h : Arr T w g l) (i : Nat) (hi : i < l.length) : w.cell? ⟨g, i, none⟩ = some (.int .u32 (u (l.getD i 0))) := by
  rw [cell_of_row w g i _ T _ h, wcells_get l i hi]
theorem Arr.frozen {T : TypeId} {w : World} {g : Nat} {l : List UInt32} (h : Arr T w g l) (i : Nat) (hi : i < l.length) : w.frozen? ⟨g, i, none⟩ = false := by
  have h' := h
  unfold Arr at h'
  simp [World.frozen?, h']
theorem Arr.kp {T : TypeId} {w w' : World} {g : Nat} {l : List UInt32} (h : Arr T w g l) (k : Kp w w') : Arr T w' g l :=
  (k.block g h.lt).trans h
theorem Arr.below {T : TypeId} {w w' : World} {g B : Nat} {l : List UInt32} (h : Arr T w g l) (k : Below B w w') (hg : g < B) : Arr T w' g l :=
  (k.block g hg).trans h
theorem Arr.drewN {T : TypeId} {w : World} {g : Nat} {l : List UInt32} (h : Arr T w g l) (n : Nat) : Arr T (w.drewN n) g l := h.kp ((Kp.refl w).drewN n)
theorem Arr.drew {T : TypeId} {w : World} {g : Nat} {l : List UInt32} (h : Arr T w g l) : Arr T w.drew g l := h
theorem Arr.alloc {T : TypeId} {w : World} {g : Nat} {l : List UInt32} (h : Arr T w g l) (o : Obj) : Arr T (w.alloc o) g l := (Below.heap_alloc w o g h.lt).trans h
theorem Arr.new (T : TypeId) (w : World) (cs : Array Value) (l : List UInt32) (h : cs = wcells l) : Arr T (w.alloc (.cells cs T)) w.heap.size l := by
  subst h
  exact heap_alloc_new w _
theorem wcells_set (l : List UInt32) (i : Nat) (x : UInt32) : (wcells l).setIfInBounds i (wcell x) = wcells (l.set i x) := by
  apply Array.ext'
  simp [wcells, List.map_set]
theorem Arr.set {T : TypeId} {w : World} {g : Nat} {l : List UInt32} (h : Arr T w g l) (i : Nat) (x : UInt32) (v : Value) (hv : v = .int .u32 (u x)) : Arr T (w.setCell ⟨g, i, none⟩ v) g (l.set i x) := by
  subst hv
  have h' := h
  unfold Arr at h' ⊢
  obtain ⟨hlt, heq⟩ := Array.getElem?_eq_some_iff.1 h'
  have e := wcells_set l i x
  unfold wcell at e
  simp [World.setCell, hlt, Array.getElem_modify, heq, e]
theorem Arr.setTo {T : TypeId} {w : World} {g : Nat} {l m : List UInt32} (h : Arr T w g l) (i : Nat) (x : UInt32) (hm : l.set i x = m) : Arr T (w.setCell ⟨g, i, none⟩ (.int .u32 (u x))) g m := hm ▸ h.set i x _ rfl
theorem Arr.other {T : TypeId} {w : World} {g : Nat} {l : List UInt32} (h : Arr T w g l) (a : Addr) (v : Value) (hne : g ≠ a.block) : Arr T (w.setCell a v) g l :=
  (Below.heap_setCell w a v g hne).trans h
section
variable {P : Program}
theorem wpList_load_arr {T ty e : TypeId} {n : Nat} (hu : P.underlying ty = some (.array n e)) (hi : (P.info? ty).map (·.size) = some n) {ops : Array Oper} {rest : List Oper} {o : Oper} {a : Act} {w : World} {Q : Exit → Act → World → Prop} (hgd : o.guard = none) (x : Operand) (ho : o.op = .load ty x)
    (g : Nat) (l : List UInt32) (hx : a.eval x = .pointer (some ⟨g, 0, none⟩)) (h : Arr T w g l) (hl : l.length = n)
    (hK : wpList P ops Q rest (a.put o.dst (.agg (wcells l))) w) : wpList P ops Q (o :: rest) a w :=
  wpList_load_row hgd ty x ho g hx T (wcells l) (0, 0) _ h hu rfl (by rw [hi, wcells_size, hl]) hK
theorem wcells_one (l : List UInt32) : (wcells l).all (·.oneCell') = true := by
  rw [Array.all_eq_true_iff_forall_mem]
  intro v hv
  simp only [wcells, List.mem_toArray, List.mem_map] at hv
  obtain ⟨x, _, rfl⟩ := hv
  rfl
theorem Arr.setRow {T : TypeId} {w : World} {g : Nat} {l : List UInt32} (h : Arr T w g l) (m : List UInt32) : Arr T (w.setRow g (wcells m)) g m := by
  unfold Arr at h ⊢
  obtain ⟨hlt, heq⟩ := Array.getElem?_eq_some_iff.1 h
  simp [World.setRow, hlt, Array.getElem_modify, heq]
theorem setRow_other (w : World) (g k : Nat) (cs : Array Value) (h : k ≠ g) : (w.setRow g cs).heap[k]? = w.heap[k]? := by
  simp only [World.setRow]
  rw [Array.getElem?_modify, if_neg (Ne.symm h)]
theorem Arr.setRow_other {T : TypeId} {w : World} {g k : Nat} {l : List UInt32} (h : Arr T w k l) (cs : Array Value) (hne : k ≠ g) : Arr T (w.setRow g cs) k l :=
  (Go.Proofs.YtigpgcjbpoaclaaGreatDoor.setRow_other w g k cs hne).trans h
theorem below_setRow {B : Nat} {a w : World} (h : Below B a w) {g : Nat} (hg : B ≤ g) (cs : Array Value) : Below B a (w.setRow g cs) :=
  ⟨h.os, h.tape, h.output, by simpa [World.setRow] using h.size, fun k hk => (setRow_other w g k cs (by omega)).trans (h.block k hk)⟩
theorem wpList_store_arr {T ty : TypeId} {n : Nat} (hi : (P.info? ty).map (·.size) = some n) {ops : Array Oper} {rest : List Oper} {o : Oper} {a : Act} {w : World} {Q : Exit → Act → World → Prop} (hgd : o.guard = none) (x y : Operand) (ho : o.op = .store ty x y)
    (g : Nat) (l m : List UInt32) (hx : a.eval x = .pointer (some ⟨g, 0, none⟩)) (hy : a.eval y = .agg (wcells m)) (h : Arr T w g l) (hl : l.length = n) (hm : m.length = n)
    (hK : wpList P ops Q rest (a.put o.dst undef) (w.setRow g (wcells m))) : wpList P ops Q (o :: rest) a w :=
  wpList_store_row hgd ty x y ho g (wcells m) hx hy T (wcells l) h (by rw [hi, wcells_size, hm]) (by rw [wcells_size, wcells_size, hl, hm]) (wcells_one m) hK
theorem wpList_make_fresh {t e : TypeId} {z : Value} {b : Nat} (ht : P.underlying t = some (.slice e)) (hinfo : (P.info? e).map (fun i => (i.zero, i.size, i.bytes)) = some (some z, 1, b)) (hz : z.cells = #[z]) (hb : b ≤ 8)
    {ops : Array Oper} {rest : List Oper} {o : Oper} {a : Act} {w : World} {Q : Exit → Act → World → Prop} (hg : o.guard = none) (l c : Operand) (hop : o.op = Op.makeSlice t l c) (n : Nat) (hl : a.eval l = .int .i64 n) (hc : a.eval c = .int .i64 n) (hn : n ≤ 1000000)
    (hK : ∀ W, W = w.alloc (.cells (Array.replicate n z) e) → wpList P ops Q rest (a.put o.dst (.slice (some ⟨w.heap.size, 0, none⟩) n n)) W) : wpList P ops Q (o :: rest) a w := by
  obtain ⟨i, hi, hz0, hz1, hz2⟩ := info_parts hinfo
  refine wpList_plain hg fun K hK' => ?_
  have hbb : (i.bytes : Int) * (n : Int) ≤ 281474976710656 := by
    rw [hz2]
    have h := Nat.mul_le_mul hb hn
    have h2 : ((b * n : Nat) : Int) ≤ ((8 * 1000000 : Nat) : Int) := by omega
    rw [Int.natCast_mul] at h2
    omega
  have hr := run_make (P := P) w t e i z ht hi hz0 .i64 .i64 n n (by omega) (Int.le_refl _) hbb (by omega)
  have hm : madeCells #[z] n = Array.replicate n z := by
    apply Array.ext'
    rw [toList_madeCells_one]
    simp
  rw [hz, hz1, Int.toNat_natCast, Nat.mul_one, hm] at hr
  unfold Oper.wp
  simp [execOp, hop, hl, hc, hr, Result.andThen]
  exact hK' _ _ (hK _ rfl)
structure But (g : Nat) (w W : World) : Prop where
  below : ∀ {B : Nat} {a : World}, Below B a w → B ≤ g → Below B a W
  arr : ∀ {T : TypeId} {k : Nat} {l : List UInt32}, Arr T w k l → k ≠ g → Arr T W k l
  size : W.heap.size = w.heap.size
  other : ∀ k, k ≠ g → W.heap[k]? = w.heap[k]?
theorem But.setRow (g : Nat) (w : World) (cs : Array Value) : But g w (w.setRow g cs) := ⟨fun h hb => below_setRow h hb cs, fun h hne => h.setRow_other cs hne, by simp [World.setRow], fun k hk => Go.Proofs.YtigpgcjbpoaclaaGreatDoor.setRow_other w g k cs hk⟩
theorem wpList_store_arr' {T ty : TypeId} {n : Nat} (hi : (P.info? ty).map (·.size) = some n) {ops : Array Oper} {rest : List Oper} {o : Oper} {a : Act} {w : World} {Q : Exit → Act → World → Prop} (hgd : o.guard = none) (hd : o.dst = none) (x y : Operand) (ho : o.op = .store ty x y)
    (g : Nat) (l m : List UInt32) (hx : a.eval x = .pointer (some ⟨g, 0, none⟩)) (hy : a.eval y = .agg (wcells m)) (h : Arr T w g l) (hl : l.length = n) (hm : m.length = n)
    (hK : ∀ W, Arr T W g m → But g w W → wpList P ops Q rest a W) : wpList P ops Q (o :: rest) a w :=
  wpList_store_arr hi hgd x y ho g l m hx hy h hl hm (by rw [hd]; exact hK _ (h.setRow m) (But.setRow g w _))
theorem results_arr {T ty e : TypeId} {n : Nat} (hu : P.underlying ty = some (.array n e)) (hi : (P.info? ty).map (·.size) = some n) {fn : Func} {p : Tmp} (hr : fn.results = #[.cell p ty]) (tmps : Array Value) (w : World) (g : Nat) (l : List UInt32)
    (hp : tmps.getD p undef = .pointer (some ⟨g, 0, none⟩)) (h : Arr T w g l) (hl : l.length = n) : (results fn tmps).run P w = .ok (.agg (wcells l)) w :=
  results_cell_row hr tmps w g T (wcells l) (0, 0) _ hp h hu rfl (by rw [hi, wcells_size, hl])
end
def By (T : TypeId) (w : World) (g : Nat) (l : List UInt8) : Prop := w.heap[g]? = some (.cells (Lib.byteCells l).toArray T (0, 0))
theorem By.lt {T : TypeId} {w : World} {g : Nat} {l : List UInt8} (h : By T w g l) : g < w.heap.size := (Array.getElem?_eq_some_iff.1 h).1
theorem By.cell {T : TypeId} {w : World} {g : Nat} {l : List UInt8} (h : By T w g l) (i : Nat) (hi : i < l.length) : w.cell? ⟨g, i, none⟩ = some (.int .u8 ((l.getD i 0).toNat : Int)) := by
  rw [cell_of_row w g i _ T _ h]
  simp [Lib.byteCells, hi]
theorem By.frozen {T : TypeId} {w : World} {g : Nat} {l : List UInt8} (h : By T w g l) (i : Nat) : w.frozen? ⟨g, i, none⟩ = false := by
  have h' := h
  unfold By at h'
  simp [World.frozen?, h']
theorem By.kp {T : TypeId} {w w' : World} {g : Nat} {l : List UInt8} (h : By T w g l) (k : Kp w w') : By T w' g l := (k.block g h.lt).trans h
theorem By.set {T : TypeId} {w : World} {g : Nat} {l m : List UInt8} (h : By T w g l) (i : Nat) (x : UInt8) (hm : l.set i x = m) : By T (w.setCell ⟨g, i, none⟩ (.int .u8 (x.toNat : Int))) g m := by
  subst hm
  have h' := h
  unfold By at h' ⊢
  obtain ⟨hlt, heq⟩ := Array.getElem?_eq_some_iff.1 h'
  simp [World.setCell, hlt, Array.getElem_modify, heq, Lib.byteCells, List.map_set]
theorem By.rd {T : TypeId} {w : World} {g n c : Nat} {l : List UInt8} (h : By T w g l) (hn : n ≤ l.length) (hc : n ≤ c) (hm : c ≤ maxLen) : Rd w (.slice (some ⟨g, 0, none⟩) n c) (l.take n) := by
  have e : (l.take n).length = n := by simp; omega
  refine ⟨some ⟨g, 0, none⟩, c, by rw [e], by rw [e]; exact hc, hm, fun h => (by cases h), fun x hx i hi => ?_⟩
  cases hx
  rw [e] at hi
  have := h.cell i (by omega)
  rw [List.getElem_take]
  rw [List.getD_eq_getElem?_getD, List.getElem?_eq_getElem (by omega)] at this
  rw [← Option.getD_some (a := l[i]) (b := 0), ← this]
  congr 1
  unfold Addr.add
  split <;> simp_all
theorem By.rdAll {T : TypeId} {w : World} {g n c : Nat} {l : List UInt8} (h : By T w g l) (hn : n = l.length) (hc : n ≤ c) (hm : c ≤ maxLen) : Rd w (.slice (some ⟨g, 0, none⟩) n c) l := by
  have := h.rd (n := n) (by omega) hc hm
  rwa [List.take_of_length_le (by omega)] at this
theorem By.fresh (T : TypeId) (w : World) (n : Nat) : By T (w.alloc (.cells (Array.replicate n (.int .u8 0)) T)) w.heap.size (List.replicate n 0) := by
  have := heap_alloc_new w (.cells (Array.replicate n (.int .u8 0)) T)
  unfold By
  rw [this]
  simp [Lib.byteCells]
def mixB (A B : List UInt8) (i : Nat) : List UInt8 := B.take i ++ A.drop i
theorem mixB_length (A B : List UInt8) (i : Nat) (h : A.length = B.length) (hi : i ≤ A.length) : (mixB A B i).length = A.length := by simp [mixB]; omega
theorem mixB_set (A B : List UInt8) (i : Nat) (h : A.length = B.length) (hi : i < A.length) (x : UInt8) (hx : B[i]? = some x) : (mixB A B i).set i x = mixB A B (i + 1) := by
  unfold mixB
  have hb : i < B.length := by omega
  have hl : (B.take i).length = i := by simp; omega
  rw [List.getElem?_eq_getElem hb] at hx
  rw [List.set_append_right _ _ (by omega), hl, Nat.sub_self, List.drop_eq_getElem_cons hi, List.set_cons_zero, List.take_succ_eq_append_getElem hb, List.append_assoc]
  cases hx
  rfl
theorem mixB_all (A B : List UInt8) (h : A.length = B.length) : mixB A B B.length = B := by
  unfold mixB
  rw [List.take_of_length_le (Nat.le_refl _), List.drop_eq_nil_of_le (by omega), List.append_nil]
theorem be_get : ∀ (w N k : Nat), k < w → (be w N)[k]? = some (UInt8.ofNat (N / 256 ^ (w - 1 - k)))
  | 0, _, k, h => by omega
  | w + 1, N, 0, _ => by rw [be_cons]; simp
  | w + 1, N, k + 1, h => by
    rw [be_cons, List.getElem?_cons_succ, be_get w N k (by omega)]
    congr 4
    omega
theorem fill_lt (n : Nat) : fill n < 64 := by unfold fill; omega
theorem pad_length (n : Nat) : (pad n).length = 9 + fill n := by simp [pad, be_length]; omega
theorem pad_whole (n : Nat) : (n + (pad n).length) % 64 = 0 := by rw [pad_length]; unfold fill; omega
theorem pad_get (n k : Nat) (h : k < 8) : (pad n)[1 + fill n + k]? = some (UInt8.ofNat (8 * n / 256 ^ (7 - k))) := by
  have e : (128 :: List.replicate (fill n) 0 : List UInt8).length = 1 + fill n := by simp; omega
  have hp : pad n = (128 :: List.replicate (fill n) 0) ++ be 8 (8 * n) := rfl
  rw [hp, List.getElem?_append_right (by omega), e, show 1 + fill n + k - (1 + fill n) = k by omega, be_get 8 _ k h]
theorem pad_start (n : Nat) : (List.replicate (9 + fill n) (0 : UInt8)).set 0 128 = mixB (List.replicate (9 + fill n) 0) (pad n) (1 + fill n) := by
  have e : (128 :: List.replicate (fill n) 0 : List UInt8).length = 1 + fill n := by simp; omega
  have hp : pad n = (128 :: List.replicate (fill n) 0) ++ be 8 (8 * n) := rfl
  unfold mixB
  rw [hp, List.take_append_of_le_length (by omega), List.take_of_length_le (by omega), List.drop_replicate, show 9 + fill n = (fill n + 8) + 1 by omega, List.replicate_succ, List.set_cons_zero, show fill n + 8 + 1 - (1 + fill n) = 8 by omega, List.cons_append, List.replicate_append_replicate]
def padOf (n : Int) : List UInt8 := if 0 ≤ n ∧ n ≤ 1125899906842624 then pad n.toNat else []
def xorB (l : List UInt8) (x : UInt8) : List UInt8 := l.map fun b => b ^^^ x
def blkB (l : List UInt8) : List UInt8 := l ++ List.replicate (64 - l.length) 0
def keyB (k : List UInt8) : List UInt8 := blkB (if 64 < k.length then digest k else k)
def macB (k b : List UInt8) : List UInt8 := digest (xorB (keyB k) 92 ++ digest (xorB (keyB k) 54 ++ b))
theorem xorB_length (l : List UInt8) (x : UInt8) : (xorB l x).length = l.length := by simp [xorB]
theorem xorB_get (l : List UInt8) (x : UInt8) (i : Nat) (h : i < l.length) : (xorB l x)[i]? = some (l.getD i 0 ^^^ x) := by
  simp [xorB, List.getD_eq_getElem?_getD, List.getElem?_eq_getElem h]
theorem xorB_append (l m : List UInt8) (x : UInt8) : xorB (l ++ m) x = xorB l x ++ xorB m x := by simp [xorB]
theorem blkB_length (l : List UInt8) (h : l.length ≤ 64) : (blkB l).length = 64 := by simp [blkB]; omega
theorem ub8_xor (x y : UInt8) : bits .xor .u8 (x.toNat : Int) (y.toNat : Int) = ((x ^^^ y).toNat : Int) := by
  have e : ∀ z : UInt8, BitVec.ofInt IntKind.u8.bits (z.toNat : Int) = z.toBitVec := fun z => by
    rw [BitVec.ofInt_natCast]
    apply BitVec.eq_of_toNat_eq
    simp [IntKind.bits]
  simp only [bits, e]
  change IntKind.u8.wrap (((x ^^^ y).toNat : Nat) : Int) = _
  rw [IntKind.wrap_u8]
  have := (x ^^^ y).toNat_lt
  omega
theorem run_index_arr {P : Program} (w : World) (t e : TypeId) (n : Nat) (ie : TypeInfo) (d : TypeDesc) (h : P.underlying t = some (.array n e)) (hi : P.info? e = some ie) (hs : ie.size = 1) (hd : P.underlying e = some d)
    (hp : (match d with | .struct _ | .array _ _ => true | _ => false) = false) (cs : Array Value) (hn : cs.size = n) (i : Nat) (hlt : i < n) (v : Value) (hv : cs[i]? = some v) :
    (Instr.index t (.agg cs) (.int .i64 i)).run P w = .ok v w := by
  have hr : (0 ≤ (i : Int) ∧ (i : Int) < (n : Int)) := by omega
  have hagg : (isAgg e).run P w = .ok false w := by
    unfold isAgg
    rw [Sem.run_bind, run_underlying hd w]
    cases d <;> simp_all
  simp [Instr.index, run_underlying h, asIntOf, hr, go_sem, part, sizeOf, typeInfo, hi, hs, hagg, hv, Sem.run_bind]
  intro hge
  omega
theorem wpList_copy_blk {P : Program} {w : World} {t e : TypeId} (U : U8 P t e) {ops : Array Oper} {rest : List Oper} {o : Oper} {a : Act} {Q : Exit → Act → World → Prop} (hgd : o.guard = none) (d s : Operand)
    (ho : o.op = .call { callee := .builtin .copy, args := #[d, s], argTypes := #[t, t] })
    (T : TypeId) (g : Nat) (v : Value) (l m : List UInt8) (c n : Nat) (hd : a.eval d = .slice (some ⟨g, 0, none⟩) n c) (hs : a.eval s = v) (hg : By T w g m) (hn : m.length = n) (hr : Rd w v l) (hl : l.length ≤ n)
    (h : ∀ w', By T w' g (l ++ m.drop l.length) → But g w w' → wpList P ops Q rest (a.put o.dst (.int .i64 (l.length : Int))) w') : wpList P ops Q (o :: rest) a w := by
  obtain ⟨i, hi, hz, hsize, hby⟩ := U.hi
  have hsz : (P.info? e).map (·.size) = some 1 := by rw [hi]; simp [hsize]
  obtain ⟨x, cc, rfl, h1, h2, h3, h4⟩ := hr
  subst hn
  by_cases h0 : l = []
  · subst h0
    refine wpList_copy_nothing hgd d s t t ho e U.ht hsz _ _ _ _ _ _ hd hs (by simp) ?_
    exact h w (by simpa using hg) ⟨fun h _ => h, fun h _ => h, rfl, fun _ _ => rfl⟩
  · cases x with
    | none =>
      have := h3 rfl
      have : l.length = 0 := by omega
      exact absurd (List.eq_nil_of_length_eq_zero this) h0
    | some x =>
      refine wpList_copy_own hgd d s t t ho e U.ht hsz g 0 _ _ x _ _ hd hs _ _ hg (Lib.byteCells l) (by rw [byteCells_length]; exact (Nat.min_eq_left hl).symm) (fun j u hj => ?_) (by simp [Lib.byteCells]; omega) (fun u hu => ?_) ?_
      · have hjl : j < l.length := by
          have := (List.getElem?_eq_some_iff.1 hj).1
          rwa [byteCells_length] at this
        rw [byteCells_get l j hjl] at hj
        cases hj
        exact h4 x rfl j hjl
      · obtain ⟨b, _, rfl⟩ := List.mem_map.1 hu
        rfl
      · have e1 : (goInt (Lib.byteCells l).length) = .int .i64 (l.length : Int) := by rw [byteCells_length]; rfl
        rw [e1]
        refine h _ ?_ (But.setRow g w _)
        have hlt := (Array.getElem?_eq_some_iff.1 hg)
        unfold By
        rw [setRow_heap w g _ _ T _ hg]
        congr 2
        simp [Lib.byteCells, List.map_drop]
end Go.Proofs.YtigpgcjbpoaclaaGreatDoor

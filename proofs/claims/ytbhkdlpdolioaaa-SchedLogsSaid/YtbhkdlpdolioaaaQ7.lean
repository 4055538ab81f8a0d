import Derived.Test.YtbhkdlpdolioaaaQ6
import Derived.Laws.PanicsMore
import Derived.Laws.CopyOwn
set_option linter.unusedVariables false
set_option linter.unusedSimpArgs false
namespace Go.Proofs.Ytbhkdlpdolioaaa
open Go.RowKit
def By (T : TypeId) (w : World) (g : Nat) (l : List UInt8) : Prop := w.heap[g]? = some (.cells (Lib.byteCells l).toArray T (0, 0))
theorem By.lt {T : TypeId} {w : World} {g : Nat} {l : List UInt8} (h : By T w g l) : g < w.heap.size := (Array.getElem?_eq_some_iff.1 h).1
theorem By.cell {T : TypeId} {w : World} {g : Nat} {l : List UInt8} (h : By T w g l) (i : Nat) (hi : i < l.length) : w.cell? ⟨g, i, none⟩ = some (.int .u8 ((l.getD i 0).toNat : Int)) := by
 rw [cell_of_row w g i _ T _ h];simp [Lib.byteCells, hi]
theorem By.frozen {T : TypeId} {w : World} {g : Nat} {l : List UInt8} (h : By T w g l) (i : Nat) : w.frozen? ⟨g, i, none⟩ = false := by
 have h' := h;unfold By at h';simp [World.frozen?, h']
theorem By.kp {T : TypeId} {w w' : World} {g : Nat} {l : List UInt8} (h : By T w g l) (k : Kp w w') : By T w' g l := (k.block g h.lt).trans h
theorem By.set {T : TypeId} {w : World} {g : Nat} {l m : List UInt8} (h : By T w g l) (i : Nat) (x : UInt8) (hm : l.set i x = m) : By T (w.setCell ⟨g, i, none⟩ (.int .u8 (x.toNat : Int))) g m := by
 subst hm;have h' := h;unfold By at h' ⊢;obtain ⟨hlt, heq⟩ := Array.getElem?_eq_some_iff.1 h';simp [World.setCell, hlt, Array.getElem_modify, heq, Lib.byteCells, List.map_set]
theorem By.rd {T : TypeId} {w : World} {g n c : Nat} {l : List UInt8} (h : By T w g l) (hn : n ≤ l.length) (hc : n ≤ c) (hm : c ≤ maxLen) : Rd w (.slice (some ⟨g, 0, none⟩) n c) (l.take n) := by
 have e : (l.take n).length = n := by simp; omega
 refine ⟨some ⟨g, 0, none⟩, c, by rw [e], by rw [e]; exact hc, hm, fun h => (by cases h), fun x hx i hi => ?_⟩;cases hx;rw [e] at hi;have := h.cell i (by omega);rw [List.getElem_take];rw [List.getD_eq_getElem?_getD, List.getElem?_eq_getElem (by omega)] at this;rw [← Option.getD_some (a := l[i]) (b := 0), ← this];congr 1
 unfold Addr.add;split <;> simp_all
theorem By.rdAll {T : TypeId} {w : World} {g n c : Nat} {l : List UInt8} (h : By T w g l) (hn : n = l.length) (hc : n ≤ c) (hm : c ≤ maxLen) : Rd w (.slice (some ⟨g, 0, none⟩) n c) l := by
 have := h.rd (n := n) (by omega) hc hm;rwa [List.take_of_length_le (by omega)] at this
theorem By.fresh (T : TypeId) (w : World) (n : Nat) : By T (w.alloc (.cells (Array.replicate n (.int .u8 0)) T)) w.heap.size (List.replicate n 0) := by
 have := heap_alloc_new w (.cells (Array.replicate n (.int .u8 0)) T);unfold By;rw [this];simp [Lib.byteCells]
def mixB (A B : List UInt8) (i : Nat) : List UInt8 := B.take i ++ A.drop i
theorem acI (A B : List UInt8) (i : Nat) (h : A.length = B.length) (hi : i ≤ A.length) : (mixB A B i).length = A.length := by simp [mixB]; omega
theorem aeG (A B : List UInt8) (i : Nat) (h : A.length = B.length) (hi : i < A.length) (x : UInt8) (hx : B[i]? = some x) : (mixB A B i).set i x = mixB A B (i + 1) := by
 unfold mixB;have hb : i < B.length := by omega
 have hl : (B.take i).length = i := by simp; omega
 rw [List.getElem?_eq_getElem hb] at hx;rw [List.set_append_right _ _ (by omega), hl, Nat.sub_self, List.drop_eq_getElem_cons hi, List.set_cons_zero, List.take_succ_eq_append_getElem hb, List.append_assoc];cases hx;rfl
theorem aeH (A B : List UInt8) (h : A.length = B.length) : mixB A B B.length = B := by
 unfold mixB;rw [List.take_of_length_le (Nat.le_refl _), List.drop_eq_nil_of_le (by omega), List.append_nil]
theorem afc : ∀ (w N k : Nat), k < w → (be w N)[k]? = some (UInt8.ofNat (N / 256 ^ (w - 1 - k)))
  | 0, _, k, h => by omega
  | w + 1, N, 0, _ => by rw [abm]; simp
  | w + 1, N, k + 1, h => by
    rw [abm, List.getElem?_cons_succ, afc w N k (by omega)]
    congr 4
    omega
theorem ack (n : Nat) : fill n < 64 := by unfold fill; omega
theorem aa8 (n : Nat) : (pad n).length = 9 + fill n := by simp [pad, aag]; omega
theorem adN (n : Nat) : (n + (pad n).length) % 64 = 0 := by rw [aa8]; unfold fill; omega
theorem agl (n k : Nat) (h : k < 8) : (pad n)[1 + fill n + k]? = some (UInt8.ofNat (8 * n / 256 ^ (7 - k))) := by
 have e : (128 :: List.replicate (fill n) 0 : List UInt8).length = 1 + fill n := by simp; omega
 have hp : pad n = (128 :: List.replicate (fill n) 0) ++ be 8 (8 * n) := rfl;rw [hp, List.getElem?_append_right (by omega), e, show 1 + fill n + k - (1 + fill n) = k by omega, afc 8 _ k h]
theorem afd (n : Nat) : (List.replicate (9 + fill n) (0 : UInt8)).set 0 128 = mixB (List.replicate (9 + fill n) 0) (pad n) (1 + fill n) := by
 have e : (128 :: List.replicate (fill n) 0 : List UInt8).length = 1 + fill n := by simp; omega
 have hp : pad n = (128 :: List.replicate (fill n) 0) ++ be 8 (8 * n) := rfl;unfold mixB;rw [hp, List.take_append_of_le_length (by omega), List.take_of_length_le (by omega), List.drop_replicate, show 9 + fill n = (fill n + 8) + 1 by omega, List.replicate_succ, List.set_cons_zero, show fill n + 8 + 1 - (1 + fill n) = 8 by omega, List.cons_append, List.replicate_append_replicate]
def adO (n : Int) : List UInt8 := if 0 ≤ n ∧ n ≤ 1125899906842624 then pad n.toNat else []
def xorB (l : List UInt8) (x : UInt8) : List UInt8 := l.map fun b => b ^^^ x
def blkB (l : List UInt8) : List UInt8 := l ++ List.replicate (64 - l.length) 0
def keyB (k : List UInt8) : List UInt8 := blkB (if 64 < k.length then aaj k else k)
def macB (k b : List UInt8) : List UInt8 := aaj (xorB (keyB k) 92 ++ aaj (xorB (keyB k) 54 ++ b))
theorem aaJ (l : List UInt8) (x : UInt8) : (xorB l x).length = l.length := by simp [xorB]
theorem afN (l : List UInt8) (x : UInt8) (i : Nat) (h : i < l.length) : (xorB l x)[i]? = some (l.getD i 0 ^^^ x) := by
 simp [xorB, List.getD_eq_getElem?_getD, List.getElem?_eq_getElem h]
theorem aeg (l m : List UInt8) (x : UInt8) : xorB (l ++ m) x = xorB l x ++ xorB m x := by simp [xorB]
theorem acJ (l : List UInt8) (h : l.length ≤ 64) : (blkB l).length = 64 := by simp [blkB]; omega
theorem aeh (x y : UInt8) : bits .xor .u8 (x.toNat : Int) (y.toNat : Int) = ((x ^^^ y).toNat : Int) := by
 have e : ∀ z : UInt8, BitVec.ofInt IntKind.u8.bits (z.toNat : Int) = z.toBitVec := fun z => by
  rw [BitVec.ofInt_natCast];apply BitVec.eq_of_toNat_eq;simp [IntKind.bits]
 simp only [bits, e];change IntKind.u8.wrap (((x ^^^ y).toNat : Nat) : Int) = _;rw [IntKind.wrap_u8];have := (x ^^^ y).toNat_lt;omega
theorem agI (x y : UInt8) : bits .or .u8 (x.toNat : Int) (y.toNat : Int) = ((x ||| y).toNat : Int) := by
 have e : ∀ z : UInt8, BitVec.ofInt IntKind.u8.bits (z.toNat : Int) = z.toBitVec := fun z => by
  rw [BitVec.ofInt_natCast];apply BitVec.eq_of_toNat_eq;simp [IntKind.bits]
 simp only [bits, e];change IntKind.u8.wrap (((x ||| y).toNat : Nat) : Int) = _;rw [IntKind.wrap_u8];have := (x ||| y).toNat_lt;omega
theorem afO (a b : UInt8) : a ||| b = 0 ↔ a = 0 ∧ b = 0 := by
 constructor
 ·intro h
  have h' : a.toBitVec ||| b.toBitVec = 0#8 := by rw [← UInt8.toBitVec_or, h]; rfl
  constructor
  ·apply UInt8.toBitVec_inj.1
   exact (BitVec.or_eq_zero_iff.1 h').1
  ·apply UInt8.toBitVec_inj.1
   exact (BitVec.or_eq_zero_iff.1 h').2
 ·rintro ⟨rfl, rfl⟩; rfl
theorem afe (a b : UInt8) : a ^^^ b = 0 ↔ a = b := by
 constructor
 ·intro h
  have : a ^^^ b ^^^ b = 0 ^^^ b := by rw [h]
  rw [UInt8.xor_assoc, UInt8.xor_self, UInt8.xor_zero, UInt8.zero_xor] at this;exact this
 ·rintro rfl; exact UInt8.xor_self
def orT (l m : List UInt8) : Nat → UInt8
 | 0 => 0
 | k + 1 => orT l m k ||| (l.getD k 0 ^^^ m.getD k 0)
theorem aeI (l m : List UInt8) : ∀ k, k ≤ l.length → k ≤ m.length → (orT l m k = 0 ↔ l.take k = m.take k)
  | 0, _, _ => by simp [orT]
  | k + 1, h, h' => by
    rw [orT, afO, afe, aeI l m k (by omega) (by omega), ab1 l k (by omega), ab1 m k (by omega)]
    constructor
    · rintro ⟨a, b⟩; rw [a, b]
    · intro e
      have := List.append_inj e (by simp; omega)
      exact ⟨this.1, by simpa using this.2⟩
theorem agm (l m : List UInt8) (h : l.length = m.length) : decide (orT l m l.length = 0) = decide (l = m) := by
 have := aeI l m l.length (Nat.le_refl _) (by omega);rw [List.take_length, h, List.take_length, ← h] at this;exact decide_eq_decide.2 this
theorem ab4 {P : Program} (w : World) (t e : TypeId) (n : Nat) (ie : TypeInfo) (d : TypeDesc) (h : P.underlying t = some (.array n e)) (hi : P.info? e = some ie) (hs : ie.size = 1) (hd : P.underlying e = some d)
  (hp : (match d with | .struct _ | .array _ _ => true | _ => false) = false) (cs : Array Value) (hn : cs.size = n) (i : Nat) (hlt : i < n) (v : Value) (hv : cs[i]? = some v) :
  (Instr.index t (.agg cs) (.int .i64 i)).run P w = .ok v w := by
 have hr : (0 ≤ (i : Int) ∧ (i : Int) < (n : Int)) := by omega
 have hagg : (isAgg e).run P w = .ok false w := by
  unfold isAgg;rw [Sem.run_bind, run_underlying hd w];cases d <;> simp_all
 simp [Instr.index, run_underlying h, asIntOf, hr, go_sem, part, sizeOf, typeInfo, hi, hs, hagg, hv, Sem.run_bind];intro hge;omega
theorem abK {P : Program} {w : World} {t e : TypeId} (U : U8 P t e) {ops : Array Oper} {rest : List Oper} {o : Oper} {a : Act} {Q : Exit → Act → World → Prop} (hgd : o.guard = none) (d s : Operand)
    (ho : o.op = .call { callee := .builtin .copy, args := #[d, s], argTypes := #[t, t] })
    (T : TypeId) (g : Nat) (v : Value) (l m : List UInt8) (c n : Nat) (hd : a.eval d = .slice (some ⟨g, 0, none⟩) n c) (hs : a.eval s = v) (hg : By T w g m) (hn : m.length = n) (hr : Rd w v l) (hl : l.length ≤ n)
    (h : ∀ w', By T w' g (l ++ m.drop l.length) → But g w w' → wpList P ops Q rest (a.put o.dst (.int .i64 (l.length : Int))) w') : wpList P ops Q (o :: rest) a w := by
  obtain ⟨i, hi, hz, hsize, hby⟩ := U.hi
  have hsz : (P.info? e).map (·.size) = some 1 := by rw [hi]; simp [hsize]
  obtain ⟨x, cc, rfl, h1, h2, h3, h4⟩ := hr
  subst hn
  by_cases h0 : l = []
  · subst h0
    refine wpList_copy_nothing hgd d s t t ho e U.ht hsz _ _ _ _ _ _ hd hs (by simp) ?_
    exact h w (by simpa using hg) ⟨fun h _ => h, fun h _ => h, rfl, fun _ _ => rfl⟩
  · cases x with
    | none =>
      have := h3 rfl
      have : l.length = 0 := by omega
      exact absurd (List.eq_nil_of_length_eq_zero this) h0
    | some x =>
      refine wpList_copy_own hgd d s t t ho e U.ht hsz g 0 _ _ x _ _ hd hs _ _ hg (Lib.byteCells l) (by rw [aak]; exact (Nat.min_eq_left hl).symm) (fun j u hj => ?_) (by simp [Lib.byteCells]; omega) (fun u hu => ?_) ?_
      · have hjl : j < l.length := by
          have := (List.getElem?_eq_some_iff.1 hj).1
          rwa [aak] at this
        rw [aaP l j hjl] at hj
        cases hj
        exact h4 x rfl j hjl
      · obtain ⟨b, _, rfl⟩ := List.mem_map.1 hu
        rfl
      · have e1 : (goInt (Lib.byteCells l).length) = .int .i64 (l.length : Int) := by rw [aak]; rfl
        rw [e1]
        refine h _ ?_ (But.setRow g w _)
        have hlt := (Array.getElem?_eq_some_iff.1 hg)
        unfold By
        rw [setRow_heap w g _ _ T _ hg]
        congr 2
        simp [Lib.byteCells, List.map_drop]
end Go.Proofs.Ytbhkdlpdolioaaa

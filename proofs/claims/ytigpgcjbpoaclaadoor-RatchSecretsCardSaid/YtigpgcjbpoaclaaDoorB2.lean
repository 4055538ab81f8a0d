import Derived.Test.YtigpgcjbpoaclaaDoorB1
import Derived.Deep.QuietTactic
import Derived.Test.YtigpgcjbpoaclaaDoorRows
import Derived.WalkSpells
import Derived.Lib.Hide
import Derived.Outline
import Derived.Laws.AppendOwn
import Derived.Deep.RegionLaw
import Derived.BigQuiet
import Derived.Laws.Rows
import Derived.Laws.Tables
import Derived.ProofKit
import Derived.Deep.Slices
import Derived.Lib.SmallJoins
import Derived.OpenShut
set_option linter.unusedVariables false
set_option linter.unusedSimpArgs false
namespace Go.Proofs.YtigpgcjbpoaclaaDoor
open Go.RowKit
theorem quiet_left {P : Program} {f : FuncId} {args : Array Value} {w : World} {n : Nat} {v : Value}
    (h : Calls P f args (w.drewN n) fun e w' => e = .returned v ∧ w.drewN n = w') : Calls P f args (w.drewN n) fun e w'' => e = .returned v ∧ ∃ m, w'' = w.drewN m :=
  h.mono fun _ _ ⟨he, hm⟩ => ⟨he, n, hm.symm⟩
theorem Kp.drewN {a b : World} (h : Kp a b) (n : Nat) : Kp a (b.drewN n) := by
  induction n with
  | zero => exact h
  | succ n ih => exact ih.drew
theorem same_any (u v : Value) (l m : List UInt8) (w : World) (h : Rd w u l) (h' : Rd w v m) :
    Calls Tryd.prog 10 #[u, v] w fun e w' => e = .returned (.bool (decide (l = m))) ∧ w = w' := by
  have c1 := run_string_rd w 22 9 5 u l h Tryd.underlying22 Tryd.underlying5 Tryd.underlying9
  have c2 := run_string_rd w 22 9 5 v m h' Tryd.underlying22 Tryd.underlying5 Tryd.underlying9
  go_enter Tryd.func10, Tryd.ntmps10
  go_wp2
  go_ret
  exact ⟨by simp [Bool.beq_eq_decide_eq], rfl⟩
theorem Tryd.info5 : (Tryd.prog.info? 5).map (fun i => (i.zero, i.size, i.bytes)) = some (some (.int .u8 0), 1, 1) := by kernel_rfl
theorem u8 : U8 Tryd.prog 22 5 := U8.mk' Tryd.underlying22 Tryd.info5
theorem step_append_ow {P : Program} {t e : TypeId} (U : U8 P t e) {ops : Array Oper} {o : Oper} {a : Act} {w : World} {K : Act → World → Prop} {Q : Exit → Act → World → Prop} {E : Prop}
    (hg : o.guard = none) (s x : Operand) (hop : o.op = Op.call { callee := Callee.builtin Builtin.append, args := #[s, x], argTypes := #[t, t] })
    (B : Nat) (v : Value) (l : List UInt8) (hs : a.eval s = v) (hown : Ow e w B v l) (ad : Addr) (n c : Nat) (m : List UInt8) (hx : a.eval x = .slice (some ad) n c) (hu : Rd w (.slice (some ad) n c) m)
    (hlen : l.length + m.length ≤ 140737488355328) (hbase : B ≤ w.heap.size)
    (hK : ∀ v' w', Ow e w' B v' (l ++ m) → w.grownBy w' v.ownBlock → K (a.put o.dst v') w') :
    if Region.wanted o (yielded ops a.tmps) = true then Oper.wp P o a w K Q else E := by
  have hw : Region.wanted o (yielded ops a.tmps) = true := by simp [Region.wanted, hg]
  rw [if_pos hw]
  obtain ⟨i, hi, hz, hsize, hby⟩ := U.hi
  obtain ⟨hn, _, _⟩ := hu.len
  subst hn
  obtain ⟨a', c', e', h1, h2, h3, h4⟩ := hu
  simp only [Value.slice.injEq] at e'
  obtain ⟨rfl, _, rfl⟩ := e'
  refine wp_append_own w s x t hop B e i (.int .u8 0) 1 1 U.ht hi hz hsize hby rfl (by decide) v l.length (Lib.byteCells l) hs hown ad m.length c (Lib.byteCells m) hx (by rw [byteCells_length]; omega) (fun j z hj => ?_) (fun z hz => ?_) (by unfold maxLen; omega) (by omega) hbase
    (fun v' w' h1 h2 _ => hK v' w' (by unfold Ow; rw [List.length_append, byteCells_append]; exact h1) h2)
  · have hjl : j < m.length := by
      have := (List.getElem?_eq_some_iff.1 hj).1
      rwa [byteCells_length] at this
    rw [byteCells_get m j hjl] at hj
    cases hj
    exact h4 ad rfl j hjl
  · obtain ⟨b, _, rfl⟩ := List.mem_map.1 hz
    rfl
end Go.Proofs.YtigpgcjbpoaclaaDoor
namespace Go.Proofs.YtigpgcjbpoaclaaDoor
def numOk (n w : Int) : Prop := 1 ≤ w ∧ w ≤ 7 ∧ 0 ≤ n ∧ n < 256 ^ w.toNat
instance (n w : Int) : Decidable (numOk n w) := by unfold numOk; infer_instance
def numE (n w : Int) : Int := if numOk n w then 0 else 1
def numB (n w : Int) : List UInt8 := if numOk n w then be w.toNat n.toNat else []
def lenE (n : Int) : Int := if n < 0 ∨ 1073741823 < n then 1 else 0
def lenBytes (n : Nat) : List UInt8 := if n < 64 then be 1 n else if n < 16384 then be 2 (n + 16384) else be 4 (n + 2147483648)
def lenB (n : Int) : List UInt8 := if lenE n = 0 then lenBytes n.toNat else []
def widthOf (c : Nat) : Nat := if c < 64 then 1 else if c < 128 then 2 else 4
def lenOf (w : Nat) (l : List UInt8) : Int := if w = 1 then val l else if w = 2 then val l - 16384 else val l - 2147483648
def tlE (b : List UInt8) (at' : Int) : Int :=
  if at' < 0 ∨ b.length < at' then 1 else if (b.length : Int) = at' then 3 else
  let c := (b.getD at'.toNat 0).toNat
  if 192 ≤ c then 2 else if b.length - at' < widthOf c then 3 else
  let n := lenOf (widthOf c) ((b.drop at'.toNat).take (widthOf c))
  if (widthOf c = 2 ∧ n < 64) ∨ (widthOf c = 4 ∧ n < 16384) then 2 else 0
def tlN (b : List UInt8) (at' : Int) : Int := if tlE b at' = 0 then let c := (b.getD at'.toNat 0).toNat; lenOf (widthOf c) ((b.drop at'.toNat).take (widthOf c)) else 0
def tlP (b : List UInt8) (at' : Int) : Int := if tlE b at' = 0 then at' + widthOf (b.getD at'.toNat 0).toNat else 0
def rowE (x : List UInt8) : Int := lenE x.length
def rowB (x : List UInt8) : List UInt8 := if rowE x = 0 then lenBytes x.length ++ x else []
theorem num_yes {n w : Int} (h : numOk n w) : numE n w = 0 ∧ numB n w = be w.toNat n.toNat := by simp [numE, numB, h]
theorem num_no {n w : Int} (h : ¬ numOk n w) : numE n w = 1 ∧ numB n w = [] := by simp [numE, numB, h]
end Go.Proofs.YtigpgcjbpoaclaaDoor
namespace Go.Proofs.YtigpgcjbpoaclaaDoor
open Go.RowKit
def One (T : TypeId) (w : World) (p : Nat) (v : Value) : Prop := w.heap[p]? = some (.cells #[v] T (0, 0))
theorem One.new (T : TypeId) (w : World) (v : Value) : One T (w.alloc (.cells #[v] T)) w.heap.size v := heap_alloc_new w _
theorem One.lt {T : TypeId} {w : World} {p : Nat} {v : Value} (h : One T w p v) : p < w.heap.size := (Array.getElem?_eq_some_iff.1 h).1
theorem One.cell {T : TypeId} {w : World} {p : Nat} {v : Value} (h : One T w p v) : w.cell? ⟨p, 0, none⟩ = some v := by
  rw [cell_of_row w p 0 _ T _ h]; rfl
theorem One.frozen {T : TypeId} {w : World} {p : Nat} {v : Value} (h : One T w p v) : w.frozen? ⟨p, 0, none⟩ = false := by
  have h' := h
  unfold One at h'
  simp [World.frozen?, h']
theorem One.kp {T : TypeId} {w w' : World} {p : Nat} {v : Value} (h : One T w p v) (k : Kp w w') : One T w' p v := (k.block p h.lt).trans h
theorem One.set {T : TypeId} {w : World} {p : Nat} {v : Value} (h : One T w p v) (u : Value) : One T (w.setCell ⟨p, 0, none⟩ u) p u := by
  have h' := h
  unfold One at h' ⊢
  obtain ⟨hlt, heq⟩ := Array.getElem?_eq_some_iff.1 h'
  simp [World.setCell, hlt, Array.getElem_modify, heq]
end Go.Proofs.YtigpgcjbpoaclaaDoor
namespace Go.Proofs.YtigpgcjbpoaclaaDoor
open Go.RowKit Go.ChangeShapes Go.WideShapes Go.Deep
section
variable {H : Type} {enc : TypeId × Value → H} {P : Program} {w : World} {base : Nat} {spare : Nat → Bool} {held : Bool}
theorem byte_wf {n : Int} (h : (Lit.int .u8 n).wf = true) : 0 ≤ n ∧ n < 256 := by
  have := bounds_u8 h
  omega
theorem Rd.of_cells {t e : TypeId} {fuel : Nat} {cs : List Value} {x : DataW H × List MemPlace} (ht : P.underlying t = some (.slice e)) (he : P.underlying e = some (.int .u8)) (hc : P.cellsOf e = 1)
    (h : DataW.trod enc P w base spare held fuel t cs = some x) : ∃ v l, cs = [v] ∧ Rd w v l := by
  rcases open_ints ht he hc h with ⟨rfl, _⟩ | ⟨a, len, cap, zs, rfl, _, hl, hm, hz, _, hcell, hwz⟩
  · exact ⟨_, [], rfl, none, 0, rfl, Nat.le_refl _, Nat.zero_le _, fun _ => rfl, fun y hy => by cases hy⟩
  · have hzl : len ≤ zs.length := by rw [hz]; split <;> omega
    have hlen : ((zs.take len).map fun z => UInt8.ofNat z.toNat).length = len := by simp; omega
    refine ⟨_, (zs.take len).map fun z => UInt8.ofNat z.toNat, rfl, some a, cap, by rw [hlen], by omega, hm, fun h => (by cases h), fun y hy i hi => ?_⟩
    cases hy
    rw [hlen] at hi
    rw [hcell i (by omega)]
    have hzi : i < zs.length := by omega
    have hw := byte_wf (hwz (zs[i]'hzi) (List.getElem_mem hzi))
    simp [List.getD_eq_getElem?_getD, List.getElem?_eq_getElem hzi]
    omega
theorem Rd.of_one {t e : TypeId} {fuel : Nat} {v : Value} {x : DataW H × List MemPlace} (ht : P.underlying t = some (.slice e)) (he : P.underlying e = some (.int .u8)) (hc : P.cellsOf e = 1)
    (h : DataW.trod enc P w base spare held fuel t [v] = some x) : ∃ l, Rd w v l := by
  obtain ⟨v', l, e, h⟩ := Rd.of_cells ht he hc h
  cases e
  exact ⟨l, h⟩
theorem Rd.of_arg {t e : TypeId} {a : Option Addr} {n c : Nat} {d : DataW H} {p : List MemPlace} (ht : P.underlying t = some (.slice e)) (he : P.underlying e = some (.int .u8)) (hc : P.cellsOf e = 1)
    (h : DataW.Trod enc P w base spare held t (.slice a n c) d p) : ∃ l, Rd w (.slice a n c) l := by
  obtain ⟨fuel, h⟩ := h
  exact Rd.of_one ht he hc h
theorem choose_list {α : Type} [Inhabited α] (n : Nat) (Q : Nat → α → Prop) (h : ∀ i, i < n → ∃ x, Q i x) (d : α) : ∃ l : List α, l.length = n ∧ ∀ i, i < n → Q i (l.getD i d) := by
  induction n with
  | zero => exact ⟨[], rfl, fun i hi => by omega⟩
  | succ n ih =>
    obtain ⟨l, hl, hq⟩ := ih fun i hi => h i (by omega)
    obtain ⟨x, hx⟩ := h n (by omega)
    refine ⟨l ++ [x], by simp [hl], fun i hi => ?_⟩
    rcases Nat.lt_or_ge i n with h1 | h1
    · rw [List.getD_eq_getElem?_getD, List.getElem?_append_left (by omega), ← List.getD_eq_getElem?_getD]
      exact hq i h1
    · have : i = n := by omega
      subst this
      rw [List.getD_eq_getElem?_getD, List.getElem?_append_right (by omega), hl, Nat.sub_self]
      exact hx
end
end Go.Proofs.YtigpgcjbpoaclaaDoor
namespace Go.Proofs.YtigpgcjbpoaclaaDoor
theorem row_ok {x : List UInt8} (h : x.length ≤ 1073741823) : rowE x = 0 ∧ rowB x = lenBytes x.length ++ x := by
  have e : rowE x = 0 := if_neg (by omega)
  simp [rowB, e]
theorem row_len {x : List UInt8} (h : x.length ≤ 1073741823) : (rowB x).length = (lenBytes x.length).length + x.length := by rw [(row_ok h).2, List.length_append]
end Go.Proofs.YtigpgcjbpoaclaaDoor
namespace Go.Proofs.YtigpgcjbpoaclaaDoor
open Go.RowKit
def Newer (B : Nat) (v : Value) : Prop := ∀ g, v.ownBlock = some g → B ≤ g
theorem Newer.nil (B n c : Nat) : Newer B (.slice none n c) := fun g h => by cases h
theorem Newer.mono {B C : Nat} {v : Value} (h : Newer B v) (hc : C ≤ B) : Newer C v := fun g hg => Nat.le_trans hc (h g hg)
theorem Newer.kp {w w' : World} {v : Value} (h : Newer w'.heap.size v) (k : Kp w w') : Newer w.heap.size v := h.mono k.size
theorem wf16 {n : Int} (h : (Lit.int .u16 n).wf = true) : 0 ≤ n ∧ n ≤ 65535 := by
  have := bounds_u16 h
  omega
theorem wf8 {n : Int} (h : (Lit.int .u8 n).wf = true) : 0 ≤ n ∧ n ≤ 255 := by
  have := bounds_u8 h
  omega
end Go.Proofs.YtigpgcjbpoaclaaDoor

import Derived.Test.YtbhkdlpdolioaaaQ1
import Derived.Test.YtbhkdlpdolioaaaRows
import Derived.WalkSpells
import Derived.Lib.Hide
import Derived.Outline
import Derived.Laws.AppendOwn
import Derived.Deep.RegionLaw
import Derived.Laws.Rows
import Derived.Laws.Tables
import Derived.ProofKit
import Derived.Deep.Slices
import Derived.Lib.SmallJoins
import Derived.OpenShut
import Derived.SizedLaws
set_option linter.unusedVariables false
set_option linter.unusedSimpArgs false
namespace Go.Proofs.Ytbhkdlpdolioaaa
open Go.RowKit
theorem aam (u v : Value) (l m : List UInt8) (w : World) (h : Rd w u l) (h' : Rd w v m) :
  Calls Try.prog 18 #[u, v] w fun e w' => e = .returned (.bool (decide (l = m))) ∧ w = w' := by
 have c1 := ab2 w 22 9 5 u l h Try.underlying22 Try.underlying5 Try.underlying9;have c2 := ab2 w 22 9 5 v m h' Try.underlying22 Try.underlying5 Try.underlying9;go_enter Try.func18, Try.ntmps18;go_wp2;go_ret;exact ⟨by simp [Bool.beq_eq_decide_eq], rfl⟩
theorem Try.info5 : (Try.prog.info? 5).map (fun i => (i.zero, i.size, i.bytes)) = some (some (.int .u8 0), 1, 1) := by kernel_rfl
theorem u8 : U8 Try.prog 22 5 := U8.mk' Try.underlying22 Try.info5
theorem acZ {P : Program} {t e : TypeId} (U : U8 P t e) {ops : Array Oper} {o : Oper} {a : Act} {w : World} {K : Act → World → Prop} {Q : Exit → Act → World → Prop} {E : Prop}
  (hg : o.guard = none) (s x : Operand) (hop : o.op = Op.call { callee := Callee.builtin Builtin.append, args := #[s, x], argTypes := #[t, t] })
  (B : Nat) (v : Value) (l : List UInt8) (hs : a.eval s = v) (hown : Ow e w B v l) (ad : Addr) (n c : Nat) (m : List UInt8) (hx : a.eval x = .slice (some ad) n c) (hu : Rd w (.slice (some ad) n c) m)
  (hlen : l.length + m.length ≤ 140737488355328) (hbase : B ≤ w.heap.size)
  (hK : ∀ v' w', Ow e w' B v' (l ++ m) → w.grownBy w' v.ownBlock → K (a.put o.dst v') w') :
  if Region.wanted o (yielded ops a.tmps) = true then Oper.wp P o a w K Q else E := by
 have hw : Region.wanted o (yielded ops a.tmps) = true := by simp [Region.wanted, hg]
 rw [if_pos hw];obtain ⟨i, hi, hz, hsize, hby⟩ := U.hi;obtain ⟨hn, _, _⟩ := hu.len;subst hn;obtain ⟨a', c', e', h1, h2, h3, h4⟩ := hu;simp only [Value.slice.injEq] at e';obtain ⟨rfl, _, rfl⟩ := e';refine wp_append_own w s x t hop B e i (.int .u8 0) 1 1 U.ht hi hz hsize hby rfl (by decide) v l.length (Lib.byteCells l) hs hown ad m.length c (Lib.byteCells m) hx (by rw [aak]; omega) (fun j z hj => ?_) (fun z hz => ?_) (by unfold maxLen; omega) (by omega) hbase
  (fun v' w' h1 h2 _ => hK v' w' (by unfold Ow; rw [List.length_append, aaI]; exact h1) h2)
 ·have hjl : j < m.length := by
   have := (List.getElem?_eq_some_iff.1 hj).1;rwa [aak] at this
  rw [aaP m j hjl] at hj;cases hj;exact h4 ad rfl j hjl
 ·obtain ⟨b, _, rfl⟩ := List.mem_map.1 hz
  rfl
def One (T : TypeId) (w : World) (p : Nat) (v : Value) : Prop := w.heap[p]? = some (.cells #[v] T (0, 0))
theorem One.new (T : TypeId) (w : World) (v : Value) : One T (w.alloc (.cells #[v] T)) w.heap.size v := heap_alloc_new w _
theorem One.lt {T : TypeId} {w : World} {p : Nat} {v : Value} (h : One T w p v) : p < w.heap.size := (Array.getElem?_eq_some_iff.1 h).1
theorem One.cell {T : TypeId} {w : World} {p : Nat} {v : Value} (h : One T w p v) : w.cell? ⟨p, 0, none⟩ = some v := by
 rw [cell_of_row w p 0 _ T _ h]; rfl
theorem One.frozen {T : TypeId} {w : World} {p : Nat} {v : Value} (h : One T w p v) : w.frozen? ⟨p, 0, none⟩ = false := by
 have h' := h;unfold One at h';simp [World.frozen?, h']
theorem One.kp {T : TypeId} {w w' : World} {p : Nat} {v : Value} (h : One T w p v) (k : Kp w w') : One T w' p v := (k.block p h.lt).trans h
theorem One.set {T : TypeId} {w : World} {p : Nat} {v : Value} (h : One T w p v) (u : Value) : One T (w.setCell ⟨p, 0, none⟩ u) p u := by
 have h' := h;unfold One at h' ⊢;obtain ⟨hlt, heq⟩ := Array.getElem?_eq_some_iff.1 h';simp [World.setCell, hlt, Array.getElem_modify, heq]
end Go.Proofs.Ytbhkdlpdolioaaa
namespace Go.Proofs.Ytbhkdlpdolioaaa
open Go.RowKit Go.ChangeShapes Go.WideShapes Go.Deep
section
variable {H : Type} {enc : TypeId × Value → H} {P : Program} {w : World} {base : Nat} {spare : Nat → Bool} {held : Bool}
theorem agy {n : Int} (h : (Lit.int .u8 n).wf = true) : 0 ≤ n ∧ n < 256 := by
 have := bounds_u8 h;omega
theorem Rd.of_cells {t e : TypeId} {fuel : Nat} {cs : List Value} {x : DataW H × List MemPlace} (ht : P.underlying t = some (.slice e)) (he : P.underlying e = some (.int .u8)) (hc : P.cellsOf e = 1)
  (h : DataW.trod enc P w base spare held fuel t cs = some x) : ∃ v l, cs = [v] ∧ Rd w v l := by
 rcases open_ints ht he hc h with ⟨rfl, _⟩ | ⟨a, len, cap, zs, rfl, _, hl, hm, hz, _, hcell, hwz⟩
 ·exact ⟨_, [], rfl, none, 0, rfl, Nat.le_refl _, Nat.zero_le _, fun _ => rfl, fun y hy => by cases hy⟩
 ·have hzl : len ≤ zs.length := by rw [hz]; split <;> omega
  have hlen : ((zs.take len).map fun z => UInt8.ofNat z.toNat).length = len := by simp; omega
  refine ⟨_, (zs.take len).map fun z => UInt8.ofNat z.toNat, rfl, some a, cap, by rw [hlen], by omega, hm, fun h => (by cases h), fun y hy i hi => ?_⟩;cases hy;rw [hlen] at hi;rw [hcell i (by omega)];have hzi : i < zs.length := by omega
  have hw := agy (hwz (zs[i]'hzi) (List.getElem_mem hzi));simp [List.getD_eq_getElem?_getD, List.getElem?_eq_getElem hzi];omega
theorem Rd.of_one {t e : TypeId} {fuel : Nat} {v : Value} {x : DataW H × List MemPlace} (ht : P.underlying t = some (.slice e)) (he : P.underlying e = some (.int .u8)) (hc : P.cellsOf e = 1)
  (h : DataW.trod enc P w base spare held fuel t [v] = some x) : ∃ l, Rd w v l := by
 obtain ⟨v', l, e, h⟩ := Rd.of_cells ht he hc h;cases e;exact ⟨l, h⟩
theorem Rd.of_arg {t e : TypeId} {a : Option Addr} {n c : Nat} {d : DataW H} {p : List MemPlace} (ht : P.underlying t = some (.slice e)) (he : P.underlying e = some (.int .u8)) (hc : P.cellsOf e = 1)
  (h : DataW.Trod enc P w base spare held t (.slice a n c) d p) : ∃ l, Rd w (.slice a n c) l := by
 obtain ⟨fuel, h⟩ := h;exact Rd.of_one ht he hc h
theorem aeo {α : Type} [Inhabited α] (n : Nat) (Q : Nat → α → Prop) (h : ∀ i, i < n → ∃ x, Q i x) (d : α) : ∃ l : List α, l.length = n ∧ ∀ i, i < n → Q i (l.getD i d) := by
  induction n with
  | zero => exact ⟨[], rfl, fun i hi => by omega⟩
  | succ n ih =>
    obtain ⟨l, hl, hq⟩ := ih fun i hi => h i (by omega)
    obtain ⟨x, hx⟩ := h n (by omega)
    refine ⟨l ++ [x], by simp [hl], fun i hi => ?_⟩
    rcases Nat.lt_or_ge i n with h1 | h1
    · rw [List.getD_eq_getElem?_getD, List.getElem?_append_left (by omega), ← List.getD_eq_getElem?_getD]
      exact hq i h1
    · have : i = n := by omega
      subst this
      rw [List.getD_eq_getElem?_getD, List.getElem?_append_right (by omega), hl, Nat.sub_self]
      exact hx
end
def Vals (w : World) (v : Value) (us : List Value) : Prop :=
 ∃ a c, v = .slice a us.length c ∧ us.length ≤ c ∧ c ≤ maxLen ∧ (a = none → c = 0) ∧
  ∀ x, a = some x → ∀ i, (h : i < us.length) → w.cell? (x.add i) = some (us[i]'h)
theorem Vals.kp {w w' : World} {v : Value} {us : List Value} (h : Vals w v us) (k : Kp w w') : Vals w' v us := by
 obtain ⟨a, c, rfl, h1, h2, h3, h4⟩ := h;exact ⟨a, c, rfl, h1, h2, h3, fun x hx i hi => k.cell (h4 x hx i hi)⟩
theorem Vals.shape {w : World} {v : Value} {us : List Value} (h : Vals w v us) : ∃ a c, v = .slice a us.length c ∧ us.length ≤ c ∧ c ≤ maxLen := by
 obtain ⟨a, c, e, h1, h2, _⟩ := h;exact ⟨a, c, e, h1, h2⟩
theorem Vals.nil (w : World) : Vals w (.slice none 0 0) [] := ⟨none, 0, rfl, Nat.le_refl _, Nat.zero_le _, fun _ => rfl, fun x hx => by cases hx⟩
theorem Vals.at {w : World} {a : Option Addr} {n c : Nat} {us : List Value} (h : Vals w (.slice a n c) us) (k : Nat) (hk : k < n) :
    ∃ b off, a = some ⟨b, off, none⟩ ∧ b < w.heap.size ∧ ∀ i, i < n → w.cell? ⟨b, off + i, none⟩ = some (us.getD i (.bool false)) := by
  obtain ⟨a', c', e, h1, h2, h3, h4⟩ := h
  simp only [Value.slice.injEq] at e
  obtain ⟨rfl, rfl, rfl⟩ := e
  cases a with
  | none => have := h3 rfl; omega
  | some x =>
    obtain ⟨b, off, spot⟩ := x
    have h0 := h4 _ rfl 0 (by omega)
    have hs : spot = none := by simpa [Addr.add] using World.cell?_spot h0
    subst hs
    refine ⟨b, off, rfl, World.block_lt_of_cell? w _ h0, fun i hi => ?_⟩
    have := h4 _ rfl i hi
    rw [List.getD_eq_getElem?_getD, List.getElem?_eq_getElem hi, Option.getD_some, ← this]
    congr 1
    unfold Addr.add
    split <;> simp_all
theorem Vals.own {w : World} {B : Nat} {e : TypeId} {v : Value} {us : List Value} (h : w.ownsRow B e 1 v us.length us) : Vals w v us := by
 rcases h.2 with ⟨rfl, h0⟩ | ⟨g, cap, cur, rfl, hb, hg, hn, hm, hs, ht⟩
 ·exact ⟨none, 0, by rw [h0], by omega, Nat.zero_le _, fun _ => rfl, fun x hx => by cases hx⟩
 ·refine ⟨_, cap, rfl, hn, hm, fun h => (by cases h), fun x hx i hi => ?_⟩
  cases hx;have e : (⟨g, 0, none⟩ : Addr).add i = ⟨g, i, none⟩ := by unfold Addr.add; split <;> simp_all
  rw [e, cell_of_row w g i _ _ _ hg];have hx : us[i]? = some us[i] := List.getElem?_eq_getElem hi;rw [← hx, ← ht, List.getElem?_take_of_lt (by omega)];simp
def RL (w : World) (v : Value) (ls : List (List UInt8)) : Prop := ∃ us, Vals w v us ∧ us.length = ls.length ∧ ∀ i, i < ls.length → Rd w (us.getD i (.bool false)) (ls.getD i [])
theorem RL.kp {w w' : World} {v : Value} {ls : List (List UInt8)} (h : RL w v ls) (k : Kp w w') : RL w' v ls := by
 obtain ⟨us, h1, h2, h3⟩ := h;exact ⟨us, h1.kp k, h2, fun i hi => (h3 i hi).kp k⟩
theorem RL.shape {w : World} {v : Value} {ls : List (List UInt8)} (h : RL w v ls) : ∃ a c, v = .slice a ls.length c ∧ ls.length ≤ c ∧ c ≤ maxLen := by
 obtain ⟨us, h1, h2, h3⟩ := h;rw [← h2];exact h1.shape
theorem RL.nil (w : World) : RL w (.slice none 0 0) [] := ⟨[], Vals.nil w, rfl, fun i hi => by simp at hi⟩
theorem RL.at {w : World} {a : Option Addr} {n c : Nat} {ls : List (List UInt8)} (h : RL w (.slice a n c) ls) (k : Nat) (hk : k < n) :
  ∃ b off, a = some ⟨b, off, none⟩ ∧ b < w.heap.size ∧ ∀ i, i < n → ∃ u, w.cell? ⟨b, off + i, none⟩ = some u ∧ Rd w u (ls.getD i []) := by
 obtain ⟨us, h1, h2, h3⟩ := h;obtain ⟨b, off, ha, hb, hc⟩ := h1.at k hk;have hn : n = us.length := by
  obtain ⟨a', c', e, _⟩ := h1.shape;simp only [Value.slice.injEq] at e;exact e.2.1
 exact ⟨b, off, ha, hb, fun i hi => ⟨_, hc i hi, h3 i (by omega)⟩⟩
theorem RL.cons {w : World} {B : Nat} {e : TypeId} {v u : Value} {l : List UInt8} {us : List Value} {ls : List (List UInt8)} (h : w.ownsRow B e 1 v (u :: us).length (u :: us)) (hu : Rd w u l) (hl : us.length = ls.length)
  (hr : ∀ i, i < ls.length → Rd w (us.getD i (.bool false)) (ls.getD i [])) : RL w v (l :: ls) := by
 refine ⟨u :: us, Vals.own h, by simp [hl], fun i hi => ?_⟩
 cases i with
 | zero => simpa using hu
 | succ i => simpa using hr i (by simpa using hi)
section
variable {H : Type} {enc : TypeId × Value → H} {P : Program} {w : World} {base : Nat} {spare : Nat → Bool} {held : Bool}
end
end Go.Proofs.Ytbhkdlpdolioaaa
namespace Go.Proofs.Ytbhkdlpdolioaaa
open Go.RowKit
def aaD (B : Nat) (v : Value) : Prop := ∀ g, v.ownBlock = some g → B ≤ g
theorem aaD.nil (B n c : Nat) : aaD B (.slice none n c) := fun g h => by cases h
theorem aaD.mono {B C : Nat} {v : Value} (h : aaD B v) (hc : C ≤ B) : aaD C v := fun g hg => Nat.le_trans hc (h g hg)
theorem aaD.kp {w w' : World} {v : Value} (h : aaD w'.heap.size v) (k : Kp w w') : aaD w.heap.size v := h.mono k.size
end Go.Proofs.Ytbhkdlpdolioaaa
namespace Go.Proofs.Ytbhkdlpdolioaaa
open Go.RowKit Go.ChangeShapes Go.WideShapes Go.Deep
section
variable {H : Type} {enc : TypeId × Value → H} {P : Program} {w : World} {base : Nat} {spare : Nat → Bool} {held : Bool}
theorem Rd.weighs {t e : TypeId} {fuel : Nat} {v : Value} {l : List UInt8} {x : DataW H × List MemPlace} (ht : P.underlying t = some (.slice e)) (hb : P.bytesOf e = 1) (hr : Rd w v l)
  (h : DataW.trod enc P w base spare held fuel t [v] = some x) (B : Nat) (hx : ∀ n ∈ x.1.weights P t, n ≤ B) : l.length ≤ B := by
 obtain ⟨a, c, rfl, _, _⟩ := hr.shape;rcases open_slice ht h with ⟨hcs, _⟩ | ⟨y, len, cap, m, k, D, Pl, hcs, _, hl, hm, hmm, hxd, hi⟩
 ·simp at hcs
  omega
 ·simp at hcs
  obtain ⟨rfl, rfl, rfl⟩ := hcs;have := hx ((l.length + (m - l.length)) * 1) (by rw [hxd]; simp [DataW.weights, ht, hb]);omega
theorem acX {P : Program} {e : TypeId} {d : DataW H} : ∀ {ds : List (DataW H)}, d ∈ ds → ∀ n ∈ d.weights P e, n ∈ DataW.weightsAll P e ds
  | d0 :: ds, hd, n, hn => by
    simp only [DataW.weightsAll, List.mem_append]
    rcases List.mem_cons.1 hd with rfl | hd
    · exact .inl hn
    · exact .inr (acX hd n hn)
  | [], hd, _, _ => by simp at hd
theorem adJ {ts : List TypeId} {ds : List (DataW H)} (h : (DataW.weightsEach P ts ds).all (· ≤ reachBytes) = true) {j : Nat} {t : TypeId} {d : DataW H} (ht : ts[j]? = some t) (hd : ds[j]? = some d) : ∀ n ∈ d.weights P t, n ≤ 140737488351232 := fun n hn => by
 have := List.all_eq_true.1 h n (DataW.weights_mem_each ht hd n hn);have hr : reachBytes = 140737488351232 := rfl;rw [hr] at this;simpa using this
end
end Go.Proofs.Ytbhkdlpdolioaaa

import Derived.Test.YtigpgcjbpoaclaaDoorC4
import Derived.Test.YtigpgcjbpoaclaaDoorC5
import Derived.Test.YtigpgcjbpoaclaaDoorC6
import Derived.Test.YtigpgcjbpoaclaaDoorRows
import Derived.WalkSpells
import Derived.Lib.Hide
import Derived.Outline
import Derived.Lib.SmallJoins
import Derived.Maps.AppendAt
import Derived.Deep.MidRow
import Derived.RangeFuncBox
import Derived.Deep.Fields
set_option linter.unusedVariables false
set_option linter.unusedSimpArgs false
namespace Go.Proofs.YtigpgcjbpoaclaaDoor
open Go.RowKit
def nI (n : Int) : Value := .int .i64 n
def RI (w : World) (v : Value) (l : List Int) : Prop := Vals w v (l.map nI)
def OI (e : TypeId) (w : World) (B : Nat) (v : Value) (l : List Int) : Prop := w.ownsRow B e 1 v (l.map nI).length (l.map nI)
theorem ownsRow_kp9 {w w' : World} {B C : Nat} {e : TypeId} {n : Nat} {v : Value} {us : List Value} (h : w.ownsRow B e C v n us) (k : Kp w w') : w'.ownsRow B e C v n us := by
  refine ⟨h.1, ?_⟩
  rcases h.2 with hn | ⟨g, cap, cur, rfl, hb, hg, rest⟩
  · exact .inl hn
  · exact .inr ⟨g, cap, cur, rfl, hb, (Below.block k g (Array.getElem?_eq_some_iff.1 hg).1).trans hg, rest⟩
structure Nod where
  mk ::
  kind : Int
  name : Int
  pub : List UInt8
  un : List Int
  hash : List UInt8
theorem Nod.eq_iff (a b : Nod) : a = b ↔ a.kind = b.kind ∧ a.name = b.name ∧ a.pub = b.pub ∧ a.un = b.un ∧ a.hash = b.hash := by
  cases a; cases b; simp
instance : DecidableEq Nod := fun a b => decidable_of_iff _ (Nod.eq_iff a b).symm
def blankN : Nod := ⟨0, 0, [], [], []⟩
def ats (t : List Nod) (x : Nat) : Nod := t.getD x blankN
def lvs (t : List Nod) : Nat := (t.length + 1) / 2
def mayP (name : Int) (pub : List UInt8) : Prop := 0 ≤ name ∧ name ≤ 65535 ∧ pub.length = 32
instance (name : Int) (pub : List UInt8) : Decidable (mayP name pub) := by unfold mayP; infer_instance
def thereP (t : List Nod) (i : Int) : Prop := 0 ≤ i ∧ i < lvs t ∧ (ats t (2 * i.toNat)).kind = 1
instance (t : List Nod) (i : Int) : Decidable (thereP t i) := by unfold thereP; infer_instance
def emptyP (t : List Nod) (f : Nat) : Prop := ∀ i, f ≤ i → i < lvs t → (ats t (2 * i)).kind = 0
instance (t : List Nod) (f : Nat) : Decidable (emptyP t f) :=
  decidable_of_iff (∀ i, i < lvs t → f ≤ i → (ats t (2 * i)).kind = 0) ⟨fun h i h1 h2 => h i h2 h1, fun h i h1 h2 => h i h2 h1⟩
def nodC (n : Nod) (p u h : Value) : List Value := [.int .i64 n.kind, .int .i64 n.name, p, u, h]
structure NIn (w : World) (n : Nod) (p u h : Value) : Prop where
  mk ::
  pub : Rd w p n.pub
  un : RI w u n.un
  hash : Rd w h n.hash
theorem add_block9 (a : Addr) (n : Nat) : (a.add n).block = a.block := by unfold Addr.add; split <;> rfl
def Apart (v u : Value) : Prop := ∀ g, v.ownBlock = some g → ∀ x n c, u = .slice (some x) n c → 0 < n → x.block ≠ g
theorem ownsRow_setCells {e : TypeId} {B g n cap C : Nat} : ∀ (vs : List Value) (o : Nat) (w : World) (xs : List Value), w.ownsRow B e C (.slice (some ⟨g, 0, none⟩) n cap) n xs → o + vs.length ≤ xs.length →
    ∃ ys, (w.setCells g o vs).ownsRow B e C (.slice (some ⟨g, 0, none⟩) n cap) n ys ∧ w.grownBy (w.setCells g o vs) (some g) ∧ ys.length = xs.length ∧ ∀ k, ys[k]? = if o ≤ k ∧ k < o + vs.length then vs[k - o]? else xs[k]?
  | [], o, w, xs, h, _ => ⟨xs, h, ⟨rfl, rfl, rfl, Nat.le_refl _, fun _ _ _ => rfl⟩, rfl, fun k => by rw [if_neg (by simp only [List.length_nil]; omega)]⟩
  | v :: vs, o, w, xs, h, hl => by
    obtain ⟨h1, g1⟩ := h.stored o v
    obtain ⟨ys, h2, g2, hl2, h3⟩ := ownsRow_setCells vs (o + 1) (w.setCell ⟨g, o, none⟩ v) (xs.set o v) h1 (by rw [List.length_set]; simp at hl; omega)
    refine ⟨ys, h2, ⟨g2.os.trans g1.os, g2.tape.trans g1.tape, g2.output.trans g1.output, Nat.le_trans g1.size g2.size, fun k hk hn => (g2.block k (Nat.lt_of_lt_of_le hk g1.size) hn).trans (g1.block k hk hn)⟩, by rw [hl2, List.length_set], fun k => ?_⟩
    rw [h3 k]
    simp only [List.length_cons] at hl ⊢
    by_cases h4 : o + 1 ≤ k ∧ k < o + 1 + vs.length
    · rw [if_pos h4, if_pos ⟨by omega, by omega⟩, show k - o = (k - (o + 1)) + 1 by omega, List.getElem?_cons_succ]
    · rw [if_neg h4, List.getElem?_set]
      by_cases h5 : o = k
      · subst h5
        rw [if_pos rfl, if_pos (by omega), if_pos ⟨by omega, by omega⟩, Nat.sub_self]
        rfl
      · rw [if_neg h5, if_neg (by omega)]
structure S5 (P : Program) (t e : TypeId) : Prop where
  mk ::
  ht : P.underlying t = some (.slice e)
  hi : ∃ i z, P.info? e = some i ∧ i.zero = some z ∧ i.size = 5 ∧ i.bytes ≤ 128 ∧ z.cells.size = 5
def Bx (w : World) (b : Nat) (T : TypeId) (cs : Array Value) : Prop := w.heap[b]? = some (.cells cs T (0, 0))
theorem Bx.kp {w w' : World} {b : Nat} {T : TypeId} {cs : Array Value} (h : Bx w b T cs) (k : Kp w w') : Bx w' b T cs :=
  (Below.block k b (Array.getElem?_eq_some_iff.1 h).1).trans h
theorem Bx.cell {w : World} {b : Nat} {T : TypeId} {cs : Array Value} (h : Bx w b T cs) (j : Nat) : w.cell? ⟨b, j, none⟩ = cs[j]? := cell_of_row w b j cs T (0, 0) h
theorem Bx.frozen {w : World} {b : Nat} {T : TypeId} {cs : Array Value} (h : Bx w b T cs) (j : Nat) : w.frozen? ⟨b, j, none⟩ = false := frozen_of_row w b j cs T h
theorem Bx.new (w : World) (T : TypeId) (cs : Array Value) : Bx (w.alloc (.cells cs T)) w.heap.size T cs := heap_alloc_new w _
theorem Bx.set {w : World} {b : Nat} {T : TypeId} {cs : Array Value} (h : Bx w b T cs) (j : Nat) (v : Value) : Bx (w.setCell ⟨b, j, none⟩ v) b T (cs.setIfInBounds j v) := heap_setCell_same w b j cs T v h
theorem Kp.setNew {w w' : World} (h : Kp w w') {b j : Nat} (hb : w.heap.size ≤ b) (v : Value) : Kp w (w'.setCell ⟨b, j, none⟩ v) := Below.setCell h hb v
theorem Bx.setCells {b : Nat} {T : TypeId} : ∀ (vs : List Value) (o : Nat) (w : World) (cs : Array Value), Bx w b T cs → o + vs.length ≤ cs.size →
    ∃ cs' : Array Value, Bx (w.setCells b o vs) b T cs' ∧ cs'.size = cs.size ∧ ∀ k, cs'[k]? = if o ≤ k ∧ k < o + vs.length then vs[k - o]? else cs[k]?
  | [], o, w, cs, h, _ => ⟨cs, h, rfl, fun k => by rw [if_neg (by simp only [List.length_nil]; omega)]⟩
  | v :: vs, o, w, cs, h, hl => by
    simp only [List.length_cons] at hl
    obtain ⟨cs', h2, h3, h4⟩ := Bx.setCells vs (o + 1) (w.setCell ⟨b, o, none⟩ v) (cs.setIfInBounds o v) (h.set o v) (by rw [Array.size_setIfInBounds]; omega)
    refine ⟨cs', h2, by rw [h3, Array.size_setIfInBounds], fun k => ?_⟩
    rw [h4 k]
    simp only [List.length_cons]
    by_cases h5 : o + 1 ≤ k ∧ k < o + 1 + vs.length
    · rw [if_pos h5, if_pos ⟨by omega, by omega⟩, show k - o = (k - (o + 1)) + 1 by omega, List.getElem?_cons_succ]
    · rw [if_neg h5, Array.getElem?_setIfInBounds]
      by_cases h6 : o = k
      · subst h6
        rw [if_pos rfl, if_pos (by omega), if_pos ⟨by omega, by omega⟩, Nat.sub_self]
        rfl
      · rw [if_neg h6, if_neg (by omega)]
theorem Bx.fill {w : World} {b : Nat} {T : TypeId} {cs : Array Value} (h : Bx w b T cs) (vs : Array Value) (hl : vs.size = cs.size) : Bx (w.setCells b 0 vs.toList) b T vs := by
  obtain ⟨cs', h1, h2, h3⟩ := Bx.setCells vs.toList 0 w cs h (by rw [Array.length_toList]; omega)
  have e : cs' = vs := by
    refine Array.ext_getElem? fun k => ?_
    rw [h3 k, Array.length_toList]
    split
    · rw [Nat.sub_zero, Array.getElem?_toList]
    · next hk => rw [Array.getElem?_eq_none (by omega), Array.getElem?_eq_none (by omega)]
  exact e ▸ h1
theorem Bx.there {w : World} {b : Nat} {T : TypeId} {cs : Array Value} (h : Bx w b T cs) : w.there b 0 cs.size := fun j hj => by
  rw [Nat.zero_add, h.cell j]
  exact ⟨by simp [hj], h.frozen j⟩
theorem Kp.setCells {w w' : World} (h : Kp w w') {b : Nat} (hb : w.heap.size ≤ b) : ∀ (vs : List Value) (o : Nat), Kp w (w'.setCells b o vs) := by
  intro vs
  induction vs generalizing w' with
  | nil => intro o; exact h
  | cons v vs ih => intro o; exact ih (h.setNew hb v) (o + 1)
structure NX (e ei : TypeId) (w : World) (B : Nat) (v : Value) (t : List Nod) (P U H : Nat → Value) (S : Nat → Prop) : Prop where
  mk ::
  row : ∃ us : List Value, w.ownsRow B e 5 v t.length us ∧ (∀ z ∈ us, z.oneCell' = true) ∧ ∀ i, i < t.length → ∀ f, f < 5 → us[i * 5 + f]? = (nodC (ats t i) (P i) (U i) (H i))[f]?
  ins : ∀ i, i < t.length → NIn w (ats t i) (P i) (U i) (H i)
  apv : ∀ i, i < t.length → Apart v (P i) ∧ Apart v (U i) ∧ Apart v (H i)
  own : ∀ i, i < t.length → S i → OI ei w B (U i) (ats t i).un
  sep : ∀ i, i < t.length → S i → ∀ g, (U i).ownBlock = some g → v.ownBlock ≠ some g ∧ ∀ j, j < t.length → Apart (U i) (P j) ∧ Apart (U i) (H j) ∧ (i ≠ j → Apart (U i) (U j))
  inj : ∀ i j, i < t.length → j < t.length → S i → S j → ∀ g, (U i).ownBlock = some g → (U j).ownBlock = some g → i = j
theorem grown_set9 (w : World) (g o : Nat) : ∀ (vs : List Value) (o : Nat), w.grownBy (w.setCells g o vs) (some g) := by
  intro vs
  induction vs generalizing w with
  | nil => exact fun o => ⟨rfl, rfl, rfl, Nat.le_refl _, fun _ _ _ => rfl⟩
  | cons v vs ih =>
    intro o
    have g2 := ih (w.setCell ⟨g, o, none⟩ v) (o + 1)
    refine ⟨g2.os, g2.tape, g2.output, by show w.heap.size ≤ ((w.setCell ⟨g, o, none⟩ v).setCells g (o + 1) vs).heap.size; have := g2.size; simpa using this, fun k hk hn => (g2.block k (by simpa using hk) hn).trans ?_⟩
    exact Below.heap_setCell w _ _ k (fun e => hn (by rw [e]))
def Free (Z : Nat → Prop) (v : Value) : Prop := ∀ x n c, v = .slice (some x) n c → 0 < n → ¬ Z x.block
theorem Free.mono {Z Z' : Nat → Prop} {v : Value} (h : Free Z v) (hz : ∀ k, Z' k → Z k) : Free Z' v := fun x n c e h0 hk => h x n c e h0 (hz _ hk)
theorem Rd.inside {w : World} {v : Value} {l : List UInt8} (h : Rd w v l) : ∀ x n c, v = .slice (some x) n c → 0 < n → x.block < w.heap.size := fun x n c e h0 => by
  obtain ⟨a', c', e', h1, h2, h3, h4⟩ := h
  rw [e] at e'
  simp only [Value.slice.injEq] at e'
  obtain ⟨rfl, rfl, rfl⟩ := e'
  have hb := World.block_lt_of_cell? w _ (h4 x rfl 0 h0)
  rwa [add_block9] at hb
theorem Rd.stepF {A B : World} {Y : Nat → Prop} {v : Value} {l : List UInt8} (h : Rd A v l) (hs : Step Y A B) (hf : Free Y v) : Rd B v l := by
  obtain ⟨a, c, e, h1, h2, h3, h4⟩ := h
  subst e
  refine ⟨a, c, rfl, h1, h2, h3, fun x hx i hi => ?_⟩
  have hc := h4 x hx i hi
  subst hx
  exact hs.cell hc (by rw [add_block9]; exact hf x _ c rfl (by omega))
end Go.Proofs.YtigpgcjbpoaclaaDoor
namespace Go.Proofs.YtigpgcjbpoaclaaDoor
open Go.RowKit Go.ChangeShapes Go.WideShapes Go.Deep
instance : Inhabited Nod := ⟨blankN⟩
section
variable {H : Type} {enc : TypeId × Value → H} {P : Program} {w : World} {base : Nat} {spare : Nat → Bool} {held : Bool}
end
end Go.Proofs.YtigpgcjbpoaclaaDoor

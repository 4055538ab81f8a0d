/- A loop over an iterator that collects numbers: the box that holds the row, from round to round. Nothing of a dump. -/
import Derived.Test.YtcomgbneacbncaaDoorIntRow
import Derived.Test.YtcomgbneacbncaaDoorYield
import Derived.Test.YtcomgbneacbncaaDoorHeldIn
import Derived.RangeFuncBox
import Derived.Maps.OwnIn
set_option linter.unusedVariables false
set_option linter.unusedSimpArgs false
namespace Go.Proofs.YtcomgbneacbncaaDoor
open Go.RowKit

theorem kp_drew8 (A : World) : Kp A A.drew := Kp.drew (a := A) (b := A) (Kp.refl A)
/-- v's own row lies in no block of Z. -/
def Apt (Z : Nat → Prop) (v : Value) : Prop := ∀ g, v.ownBlock = some g → ¬ Z g
theorem ownsRow_step8 {e : TypeId} {Y : Nat → Prop} {A A' : World} {b k : Nat} {v : Value} {xs : List Value} (h : A.ownsRow b e 1 v k xs) (hs : Step Y A A') (ho : Apt Y v) : A'.ownsRow b e 1 v k xs := by
  refine ⟨h.1, ?_⟩
  rcases h.2 with hn | ⟨g, cap, cur, rfl, hb, hg, rest⟩
  · exact .inl hn
  · exact .inr ⟨g, cap, cur, rfl, hb, (hs.block g (Array.getElem?_eq_some_iff.1 hg).1 (ho g rfl)).trans hg, rest⟩
/-- The box B holds a row of the call's own, of the numbers L; it lies apart from Y and R. -/
structure Coll (tS tE : TypeId) (w0 : World) (R : Nat → Prop) (L : List Nat) (Y : Nat → Prop) (A : World) (v : Value) : Prop where
  box : Boxed A w0.heap.size tS v
  own : ON tE A w0.heap.size v L
  apt : Apt (fun k => Y k ∨ R k) v
  kp : Kp w0 A
theorem Coll.minds {tS tE : TypeId} {w0 : World} {R : Nat → Prop} {L : List Nat} {B0 : Nat} (hB : w0.heap.size < B0) : Minds B0 (fun Y A => ∃ v, Coll tS tE w0 R L Y A v) := by
  rintro Y Y' A A' ⟨v, h1, h2, h3, h4⟩ hY hs hg
  have hnB : ¬ Y w0.heap.size := fun h => by have := hY _ h; omega
  refine ⟨v, (hs.block _ h1.lt hnB).trans h1, ownsRow_step8 h2 hs (fun g hg h => h3 g hg (.inl h)), fun g hgv h => ?_, Below.trans h4 (hs.below h4.size (fun k hk => by have := hY k hk; omega))⟩
  rcases h with h | h
  · rcases hg g h with h5 | h5
    · exact h3 g hgv (.inl h5)
    · have := (World.ownsRow.lt h2 g hgv).2; omega
  · exact h3 g hgv (.inr h)
/-- Behind an append and the store of the row into its box. -/
theorem Coll.next {tS tE : TypeId} (hte : tS ≠ tE) {w0 : World} {R : Nat → Prop} {L : List Nat} {x : Nat} {Y : Nat → Prop} {A w1 : World} {v v' : Value} {tmp : Obj}
    (h : Coll tS tE w0 R L Y A v) (hB : w0.heap.size < A.heap.size) (hYR : ∀ k, Y k ∨ R k → k ≠ w0.heap.size ∧ k < A.heap.size)
    (ho : ON tE w1 w0.heap.size v' (L ++ [x])) (hg : (A.alloc tmp).grownBy w1 v.ownBlock) (hat : v'.ownBlock = v.ownBlock ∨ v'.ownBlock = some (A.alloc tmp).heap.size) :
    w1.cell? ⟨w0.heap.size, 0, none⟩ = some v ∧ w1.frozen? ⟨w0.heap.size, 0, none⟩ = false ∧ Coll tS tE w0 R (L ++ [x]) Y (w1.setCell ⟨w0.heap.size, 0, none⟩ v') v' ∧ Held (fun k => Y k ∨ R k) A (w1.setCell ⟨w0.heap.size, 0, none⟩ v') := by
  obtain ⟨q1, q2, q3, _, q5⟩ := Boxed.appended h.box hte h.own (by omega) (Nat.le_refl _) ho hg
  refine ⟨q1.cell, q1.frozen, ⟨q2, q3, fun g hgv hz => ?_, Below.trans h.kp (q5.mono (Nat.le_refl _))⟩, ⟨?_, fun k hk hr => ?_⟩⟩
  · rcases hat with e | e
    · exact h.apt g (e ▸ hgv) hz
    · have h5 := hYR g hz
      rw [e] at hgv
      simp at hgv
      omega
  · have := q5.size; omega
  · have h5 := hYR k hr
    refine (Below.heap_setCell w1 _ _ k (fun e => h5.1 (by simpa using e))).trans ((hg.block k (by simp; omega) (fun e => ?_)).trans (Below.heap_alloc A _ k hk))
    exact h.apt k e.symm hr
/-- Two can come up. -/
theorem AnyIf.two {F : Fence} {n : Nat} {P : Program} {ops : Array Oper} {Q : Exit → Act → World → Prop} {md : Region.Mode} {S : World → Prop} (i j : Nat) {o u : Oper} {fuel : Nat} {listed : Array Bool} {a : Act} {w : World} (hi : ops[i]? = some o) (hj : ops[j]? = some u) (hr : Region.ready md ops listed = [i, j])
    (h1 : ∀ K : Act → World → Prop, (∀ a' w', S w' → AnyIf F n P md ops Q S fuel (listed.setIfInBounds i true) a' w' → K a' w') → if Region.wanted o (yielded ops a.tmps) = true then Oper.wpIn F n P o a w K Q else (∀ f, o.about P w a.eval = some f → F.fn f) ∧ K (a.put o.dst undef) w)
    (h2 : ∀ K : Act → World → Prop, (∀ a' w', S w' → AnyIf F n P md ops Q S fuel (listed.setIfInBounds j true) a' w' → K a' w') → if Region.wanted u (yielded ops a.tmps) = true then Oper.wpIn F n P u a w K Q else (∀ f, u.about P w a.eval = some f → F.fn f) ∧ K (a.put u.dst undef) w) :
    AnyIf F n P md ops Q S (fuel + 1) listed a w := by
  refine ⟨fun h0 => (by rw [h0] at hr; cases hr), fun k hk => ?_⟩
  rw [hr] at hk
  have hk2 : k = i ∨ k = j := by simpa using hk
  rcases hk2 with rfl | rfl
  · exact wpOpIn_step hi (fun K' hK => h1 K' (fun a' w' hs hw => hK a' w' ⟨hs, hw⟩))
  · exact wpOpIn_step hj (fun K' hK => h2 K' (fun a' w' hs hw => hK a' w' ⟨hs, hw⟩))
/-- append of one number to the collected row, at the operation; the store of the row is still to come. -/
theorem wpIn_append_coll {F : Fence} {n : Nat} {P : Program} {tS tE : TypeId} (S : S1 P tS tE) (hte : tS ≠ tE) {o : Oper} {a : Act} {Kq : Act → World → Prop} {Q : Exit → Act → World → Prop} {w0 : World} {R : Nat → Prop} {L : List Nat} {Y : Nat → Prop} {A : World} {v : Value} (s y : Operand) (x : Nat)
    (ho : o.op = .call { callee := .builtin .append, args := #[s, y], argTypes := #[tS, tS] }) (hs : a.eval s = v) (hc : Coll tS tE w0 R L Y A v) (hy : a.eval y = .slice (some ⟨A.heap.size, 0, none⟩) 1 1) (hL : L.length ≤ 1000)
    (hYR : ∀ k, Y k ∨ R k → k ≠ w0.heap.size ∧ k < A.heap.size)
    (hK : ∀ g c w1, w1.cell? ⟨w0.heap.size, 0, none⟩ = some v → w1.frozen? ⟨w0.heap.size, 0, none⟩ = false → Coll tS tE w0 R (L ++ [x]) Y (w1.setCell ⟨w0.heap.size, 0, none⟩ (.slice (some ⟨g, 0, none⟩) (L.length + 1) c)) (.slice (some ⟨g, 0, none⟩) (L.length + 1) c) →
      Held (fun k => Y k ∨ R k) A (w1.setCell ⟨w0.heap.size, 0, none⟩ (.slice (some ⟨g, 0, none⟩) (L.length + 1) c)) → Kq (a.put o.dst (.slice (some ⟨g, 0, none⟩) (L.length + 1) c)) w1) :
    Oper.wpIn F n P o a (A.alloc (.cells #[iv x] tE)) Kq Q := by
  obtain ⟨i, z, hi, hz, hsize, hby, hzc⟩ := S.hi
  have hAB : w0.heap.size < A.heap.size := hc.box.lt
  have hown := ON.kp hc.own ((Kp.refl A).alloc (.cells #[iv x] tE))
  unfold ON at hown
  rw [List.length_map] at hown
  obtain ⟨v', w1, hr, h2, h3, _, h5⟩ := run_append_own_at (P := P) _ w0.heap.size tS o.type tE i z 1 i.bytes S.ht hi hz hsize rfl hzc (by decide) v L.length (L.map iv) hown ⟨A.heap.size, 0, none⟩ 1 1 [iv x] rfl (cell_one_new A _ _) (by intro u hu; simp at hu; subst hu; rfl) (by unfold maxLen; omega) (by have := Nat.mul_le_mul (show L.length + 1 ≤ 1001 by omega) hby; omega) (by simp; omega)
  obtain ⟨g, c, rfl⟩ := ownsRow_succ h2
  obtain ⟨q1, q2, q3, q4⟩ := Coll.next hte hc hAB hYR (x := x) (by unfold ON; rw [List.map_append, List.length_append, List.length_map]; exact h2) h3 h5
  unfold Oper.wpIn
  refine ⟨by simp [Oper.about, ho, resolve, Target.leads, Sem.run_pure], ?_⟩
  rw [Oper.semAt_plain F _ _ (by rw [ho]; intro c hc'; cases hc')]
  simp [execOp, ho, resolve, invoke, builtin, hs, hy, hr, Result.andThen]
  exact hK _ _ _ q1 q2 q3 q4
theorem Coll.on {tS tE : TypeId} {w0 : World} {R : Nat → Prop} {L : List Nat} {Y : Nat → Prop} {A A' : World} {v : Value} (h : Coll tS tE w0 R L Y A v) (k : Kp A A') : Coll tS tE w0 R L Y A' v :=
  ⟨(k.block _ h.box.lt).trans h.box, ON.kp h.own k, h.apt, Below.trans h.kp (k.mono h.kp.size)⟩
theorem wpIn_append_collD {F : Fence} {n : Nat} {P : Program} {tS tE : TypeId} (S : S1 P tS tE) (hte : tS ≠ tE) {o : Oper} {a : Act} {Kq : Act → World → Prop} {Q : Exit → Act → World → Prop} {w0 : World} {R : Nat → Prop} {L : List Nat} {Y : Nat → Prop} {A : World} {v : Value} (s y : Operand) (x : Nat)
    (ho : o.op = .call { callee := .builtin .append, args := #[s, y], argTypes := #[tS, tS] }) (hc : Coll tS tE w0 R L Y A v) (hL : L.length ≤ 1000)
    (hYR : ∀ k, Y k ∨ R k → k ≠ w0.heap.size ∧ k < A.heap.size) (hs : a.eval s = v) (hy : a.eval y = .slice (some ⟨A.heap.size, 0, none⟩) 1 1)
    (hK : ∀ g c w1, w1.cell? ⟨w0.heap.size, 0, none⟩ = some v → w1.frozen? ⟨w0.heap.size, 0, none⟩ = false → Coll tS tE w0 R (L ++ [x]) Y (w1.setCell ⟨w0.heap.size, 0, none⟩ (.slice (some ⟨g, 0, none⟩) (L.length + 1) c)) (.slice (some ⟨g, 0, none⟩) (L.length + 1) c) →
      Held (fun k => Y k ∨ R k) A.drew (w1.setCell ⟨w0.heap.size, 0, none⟩ (.slice (some ⟨g, 0, none⟩) (L.length + 1) c)) → Kq (a.put o.dst (.slice (some ⟨g, 0, none⟩) (L.length + 1) c)) w1) :
    Oper.wpIn F n P o a (A.alloc (.cells #[.int .i64 (x : Int)] tE)).drew Kq Q :=
  wpIn_append_coll S hte s y x ho hs (hc.on (Kp.refl A).drew) hy hL hYR hK
end Go.Proofs.YtcomgbneacbncaaDoor

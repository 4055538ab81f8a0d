/- 'for x := range f': a loop whose body always goes on; the iterator may write memory of its own. Nothing of a dump. -/
import Derived.Test.YtobldbodafaajaaGreatDoorBase2
import Derived.RangeFuncNested
import Derived.RangeFuncBound
import Derived.RangeFuncCalls
import Derived.RangeFuncLeaves
import Derived.RangeFuncFrom
import Derived.Shelf.Abstract
import Derived.Shelf.RegionOpen
import Derived.OwnWalkIn
import Derived.TacticsInMore
import Derived.LoopNIn
import Derived.LoopIn
import Derived.Test.YtobldbodafaajaaGreatDoorVal9
import Derived.RangeFuncBox
import Derived.Maps.OwnIn
set_option linter.unusedVariables false
set_option linter.unusedSimpArgs false
namespace Go.Proofs.YtobldbodafaajaaGreatDoor
open Go.RowKit

/-- Every block that lay in A, but those of X, lies in B as it lay. -/
structure Same (X : Nat → Prop) (A B : World) : Prop where
  size : A.heap.size ≤ B.heap.size
  block : ∀ k, k < A.heap.size → ¬ X k → B.heap[k]? = A.heap[k]?
theorem Same.refl (X : Nat → Prop) (A : World) : Same X A A := ⟨Nat.le_refl _, fun _ _ _ => rfl⟩
theorem Same.trans {X : Nat → Prop} {A B C : World} (h : Same X A B) (k : Same X B C) : Same X A C :=
  ⟨Nat.le_trans h.size k.size, fun i hi hx => (k.block i (Nat.lt_of_lt_of_le hi h.size) hx).trans (h.block i hi hx)⟩
theorem Same.of_kp {X : Nat → Prop} {A B : World} (h : Kp A B) : Same X A B := ⟨h.size, fun k hk _ => h.block k hk⟩
theorem Same.setCell {X : Nat → Prop} {A B : World} (h : Same X A B) (p : Addr) (v : Value) (hx : X p.block) : Same X A (B.setCell p v) :=
  ⟨by simpa using h.size, fun k hk hn => (Below.heap_setCell B p v k (fun e => hn (e ▸ hx))).trans (h.block k hk hn)⟩
theorem Same.mono {X Y : Nat → Prop} {A B : World} (h : Same X A B) (hxy : ∀ k, X k → Y k) : Same Y A B := ⟨h.size, fun k hk hn => h.block k hk (fun hx => hn (hxy k hx))⟩

theorem Same.drew {X : Nat → Prop} {A B : World} (h : Same X A B) : Same X A B.drew := ⟨h.size, h.block⟩
theorem Same.drewN {X : Nat → Prop} {A B : World} (h : Same X A B) (n : Nat) : Same X A (B.drewN n) := h.trans (Same.of_kp ((Kp.refl B).drewN n))
/-- The end of a function behind a loop over a function. -/
theorem put_below {B D : Nat} {a W : World} (h : Below B a W) (hD : B ≤ D) (hB : B ≤ W.heap.size) (o : Obj) : Below B a (W.putObj D o) :=
  Below.grown h (grownBy_putObj' W D o) hB (fun k e => by cases e; exact hD)

section
variable {F : Fence} {n : Nat} {P : Program}

/-- What an iterator is asked: N rounds; behind each of them all but X and the loop's own record lies as it lay. -/
def Iterates (F : Fence) (m : Nat) (P : Program) (gf : Nat) (lb : Array Value) (encs : Nat → Array Value) (N : Nat) (X : Nat → Prop) (w : World) : Prop :=
  ∀ (l : Nat) (J : Nat → World → Prop) (W : World), Below w.heap.size w W → w.heap.size ≤ l → l < W.heap.size → (∀ i A B, J i A → Below W.heap.size A B → J i B) →
    (∀ i A, i < N → J i A → YieldAt F (m - 1) P l (encs i) A fun e B => e = .returned (.bool true) ∧ J (i + 1) B ∧ Same (fun k => k = l ∨ X k) A B) →
    J 0 W → CallsIn F m P gf (#[.func (.yield l) #[] #[]] ++ lb) W fun e B => (∃ v, e = .returned v) ∧ J N B

theorem wpIn_range_on {g : Operand} {ps : Array Tmp} {assign body : Code} {Q : Exit → Act → World → Prop} {a : Act} {w : World}
    (hro : F.round = none) (h1 : 1 ≤ n) {gf : Nat} {lb : Array Value} (hg : a.eval g = .func (.func gf) #[] lb) (hFg : F.fn gf) (eg : ∀ args w, (callFunc gf args).run P w = .ok (.enter gf args) w)
    {encs : Nat → Array Value} {N : Nat} {X : Nat → Prop} (hX : ∀ k, X k → k < w.heap.size) (hit : Iterates F (n - 1) P gf lb encs N X w) (hps : ∀ i, (encs i).size = ps.size)
    (I : Nat → World → Prop) (hI : ∀ i A B, I i A → Below w.heap.size A B → I i B) (h0 : I 0 w) (a₁ : Nat → Act)
    (hassign : ∀ (l : Nat) (i : Nat) (W : World) (K : Act → World → Prop), K (a₁ i) W →
      assign.wpIn (F.inRound l) (n - 1 - 1) P (Exit.then K (fun _ _ _ => False)) { tmps := (ps.zip (encs i)).foldl (fun t (p, v) => t.setIfInBounds p v) a.tmps, defers := [] } W)
    (hbody : ∀ (l : Nat) (i : Nat) (W : World), I i W → i < N → body.wpIn (F.inRound l) (n - 1 - 1) P (fun e _ W' => e = .normal ∧ Same X W W' ∧ I (i + 1) W') (a₁ i) W)
    (hdone : ∀ (D : Nat) (W : World), w.heap.size ≤ D → I N W → W.heap[D]? = some (.deferred (some [])) → Q .normal { a with defers := { target := .collected D, args := #[] } :: a.defers } W) :
    (Code.rangeFunc g ps assign body).wpIn F n P Q a w := by
  refine wpIn_rangeFunc ?_
  intro fn hfn
  rw [hro]
  let rec' : LoopState → Loop := fun st => { state := st, pending := none, fn, tmps := a.tmps, params := ps, assign, body, defers := w.heap.size }
  obtain ⟨W1, hW1⟩ : ∃ W1, (w.alloc (.deferred (some []))).alloc (.loop (rec' .ready)) = W1 := ⟨_, rfl⟩
  have hD1 : W1.heap[w.heap.size]? = some (.deferred (some [])) := by
    rw [← hW1]
    exact (Below.heap_alloc _ _ _ (by simp)).trans (heap_alloc_new w _)
  have hL1 : W1.heap[w.heap.size + 1]? = some (.loop (rec' .ready)) := by
    rw [← hW1]
    have := heap_alloc_new (w.alloc (.deferred (some []))) (.loop (rec' .ready))
    rwa [World.size_alloc] at this
  have hs1 : W1.heap.size = w.heap.size + 2 := by rw [← hW1]; simp
  have hb1 : Below w.heap.size w W1 := by rw [← hW1]; exact ((Below.refl _ w).alloc (Nat.le_refl _) _).alloc (by simp) _
  have turn : ∀ (B : World) (o : Obj), w.heap.size + 1 < B.heap.size → Below w.heap.size B (B.putObj (w.heap.size + 1) o) ∧ (B.putObj (w.heap.size + 1) o).heap[w.heap.size]? = B.heap[w.heap.size]? := fun B o hlt =>
    ⟨Below.grown (Below.refl _ B) (grownBy_putObj' B (w.heap.size + 1) o) (by omega) (fun k e => by cases e; omega), World.putObj_heap_other (by omega)⟩
  refine ⟨w.heap.size + 1, [{ target := .collected w.heap.size, args := #[] }], W1, { target := .fn (.func gf) lb, args := #[.func (.yield (w.heap.size + 1)) #[] #[]] }, W1, gf,
    #[.func (.yield (w.heap.size + 1)) #[] #[]] ++ lb, W1, ?_, ?_, ?_, ?_, fun _ => h1, ?_⟩
  · rw [← hW1]; exact run_enterLoop_outer _ _ _ _ _
  · simp only [resolve, hg]
    simp [go_sem]
  · intro f' hf'
    simp [Target.leads] at hf'
    subst hf'
    exact hFg
  · simp [invoke, go_sem, eg]
  · refine (hit (w.heap.size + 1) (fun i W => I i W ∧ W.heap[w.heap.size + 1]? = some (.loop (rec' .ready)) ∧ W.heap[w.heap.size]? = some (.deferred (some []))) W1 hb1 (by omega) (by omega)
      (fun i A B h hb => ⟨hI i A B h.1 (hb.mono (by omega)), (hb.block _ (by omega)).trans h.2.1, (hb.block _ (by omega)).trans h.2.2⟩) ?_ ⟨hI 0 _ _ h0 hb1, hL1, hD1⟩).mono ?_
    · rintro i A hi ⟨hIA, hl, hd⟩
      have hlt : w.heap.size + 1 < A.heap.size := (Array.getElem?_eq_some_iff.1 hl).1
      have hy := run_yield (P := P) (args := encs i) hl (hps i)
      have hbr : (Instr.beginRound (w.heap.size + 1)).run P A = .ok () (A.putObj (w.heap.size + 1) (.loop (rec' .busy))) := run_beginRound hl rfl
      refine ⟨fn, _, assign, body, hy, roundIn_of_wpIn hfn (hassign _ i A _ ⟨_, hbr, ?_⟩)⟩
      obtain ⟨hb2, hd2⟩ := turn A (.loop (rec' .busy)) hlt
      have hl2 : (A.putObj (w.heap.size + 1) (.loop (rec' .busy))).heap[w.heap.size + 1]? = some (.loop (rec' .busy)) := World.putObj_heap_same hlt
      refine wpIn_mono (hbody _ i _ (hI i _ _ hIA hb2) hi) ?_
      rintro e a3 W3 ⟨rfl, hs3, hI3⟩
      have hlt2 : w.heap.size + 1 < (A.putObj (w.heap.size + 1) (.loop (rec' .busy))).heap.size := (Array.getElem?_eq_some_iff.1 hl2).1
      have hl3 := (hs3.block (w.heap.size + 1) hlt2 (fun hx => by have := hX _ hx; omega)).trans hl2
      have hd3 := (hs3.block w.heap.size (by omega) (fun hx => by have := hX _ hx; omega)).trans (hd2.trans hd)
      have hlt3 : w.heap.size + 1 < W3.heap.size := (Array.getElem?_eq_some_iff.1 hl3).1
      obtain ⟨hb4, hd4⟩ := turn W3 (.loop (rec' .ready)) hlt3
      have her : (Instr.endRound (w.heap.size + 1) none).run P W3 = .ok (.bool true) (W3.putObj (w.heap.size + 1) (.loop (rec' .ready))) := run_endRound (P := P) none hl3
      refine ⟨_, _, her, rfl, ⟨hI _ _ _ hI3 hb4, World.putObj_heap_same hlt3, hd4.trans hd3⟩, ?_⟩
      have s1 : Same (fun k => k = w.heap.size + 1 ∨ X k) A (A.putObj (w.heap.size + 1) (.loop (rec' .busy))) :=
        ⟨hb2.size, fun k _ hn => World.putObj_heap_other (fun e => hn (.inl e))⟩
      have s3 : Same (fun k => k = w.heap.size + 1 ∨ X k) W3 (W3.putObj (w.heap.size + 1) (.loop (rec' .ready))) :=
        ⟨hb4.size, fun k _ hn => World.putObj_heap_other (fun e => hn (.inl e))⟩
      exact (s1.trans (hs3.mono (fun _ h => .inr h))).trans s3
    · rintro e W2 ⟨⟨v, rfl⟩, hI2, hl, hd⟩
      have hlt : w.heap.size + 1 < W2.heap.size := (Array.getElem?_eq_some_iff.1 hl).1
      have hend : (Instr.endLoop (w.heap.size + 1)).run P W2 = .ok none (W2.putObj (w.heap.size + 1) (.loop (rec' .exhausted))) := run_endLoop (P := P) hl (by simp [rec'])
      obtain ⟨hb4, hd4⟩ := turn W2 (.loop (rec' .exhausted)) hlt
      exact ⟨none, _, hend, hdone _ _ (Nat.le_refl _) (hI _ _ _ hI2 hb4) (hd4.trans hd)⟩
end
end Go.Proofs.YtobldbodafaajaaGreatDoor

/- 'for x := range f': a loop over any iterator, one with cells of its own too; a body that may break or return. Nothing of a dump. -/
set_option linter.unusedVariables false
set_option linter.unusedSimpArgs false
namespace Go.Proofs.YtobldbodafaajaaGreatDoor
open Go.RowKit

/-- From A to B only blocks of Y are changed, and new ones laid. -/
structure Step (Y : Nat → Prop) (A B : World) : Prop where
  os : B.os = A.os
  tape : B.tape = A.tape
  output : B.output = A.output
  size : A.heap.size ≤ B.heap.size
  block : ∀ k, k < A.heap.size → ¬ Y k → B.heap[k]? = A.heap[k]?
theorem Step.refl (Y : Nat → Prop) (A : World) : Step Y A A := ⟨rfl, rfl, rfl, Nat.le_refl _, fun _ _ _ => rfl⟩
theorem Step.trans {Y : Nat → Prop} {A B C : World} (h : Step Y A B) (k : Step Y B C) : Step Y A C :=
  ⟨k.os.trans h.os, k.tape.trans h.tape, k.output.trans h.output, Nat.le_trans h.size k.size, fun i hi hy => (k.block i (Nat.lt_of_lt_of_le hi h.size) hy).trans (h.block i hi hy)⟩
theorem Step.mono {Y Z : Nat → Prop} {A B : World} (h : Step Y A B) (hz : ∀ k, Y k → Z k) : Step Z A B := ⟨h.os, h.tape, h.output, h.size, fun k hk hy => h.block k hk (fun e => hy (hz k e))⟩
theorem Step.of_kp {Y : Nat → Prop} {A B : World} (h : Kp A B) : Step Y A B := ⟨h.os, h.tape, h.output, h.size, fun k hk _ => h.block k hk⟩
theorem Step.below {Y : Nat → Prop} {A B : World} (h : Step Y A B) {n : Nat} (hn : n ≤ A.heap.size) (hY : ∀ k, Y k → n ≤ k) : Below n A B :=
  ⟨h.os, h.tape, h.output, h.size, fun k hk => h.block k (by omega) (fun e => by have := hY k e; omega)⟩
theorem Step.kp {A B : World} (h : Step (fun _ => False) A B) : Kp A B := ⟨h.os, h.tape, h.output, h.size, fun k hk => h.block k hk (fun e => e)⟩
theorem Step.setCell {Y : Nat → Prop} {A B : World} (h : Step Y A B) (p : Addr) (v : Value) (hy : A.heap.size ≤ p.block ∨ Y p.block) : Step Y A (B.setCell p v) :=
  ⟨h.os, h.tape, h.output, by simpa using h.size, fun k hk hn => (Below.heap_setCell B p v k (fun e => by subst e; exact hy.elim (fun h1 => by omega) hn)).trans (h.block k hk hn)⟩
theorem Step.putObj {Y : Nat → Prop} {A B : World} (h : Step Y A B) (l : Nat) (o : Obj) (hy : A.heap.size ≤ l ∨ Y l) : Step Y A (B.putObj l o) :=
  ⟨h.os, h.tape, h.output, by simpa using h.size, fun k hk hn => (World.putObj_heap_other (fun e => by subst e; exact hy.elim (fun h1 => by omega) hn)).trans (h.block k hk hn)⟩
theorem Step.cell {Y : Nat → Prop} {A B : World} (h : Step Y A B) {p : Addr} {v : Value} (hv : A.cell? p = some v) (hy : ¬ Y p.block) : B.cell? p = some v :=
  (World.cell?_of_block (w := A) (h.block p.block (World.block_lt_of_cell? A p hv) hy)).trans hv

/-- All blocks of R that lay in A lie in B as they lay. -/
structure Held (R : Nat → Prop) (A B : World) : Prop where
  size : A.heap.size ≤ B.heap.size
  block : ∀ k, k < A.heap.size → R k → B.heap[k]? = A.heap[k]?
theorem Held.refl (R : Nat → Prop) (A : World) : Held R A A := ⟨Nat.le_refl _, fun _ _ _ => rfl⟩
theorem Held.trans {R : Nat → Prop} {A B C : World} (h : Held R A B) (k : Held R B C) : Held R A C :=
  ⟨Nat.le_trans h.size k.size, fun i hi hy => (k.block i (Nat.lt_of_lt_of_le hi h.size) hy).trans (h.block i hi hy)⟩
theorem Held.mono {R S : Nat → Prop} {A B : World} (h : Held R A B) (hs : ∀ k, S k → R k) : Held S A B := ⟨h.size, fun k hk hy => h.block k hk (hs k hy)⟩
theorem Held.of_step {Y R : Nat → Prop} {A B : World} (h : Step Y A B) (hd : ∀ k, R k → ¬ Y k) : Held R A B := ⟨h.size, fun k hk hr => h.block k hk (hd k hr)⟩
theorem Held.of_kp {R : Nat → Prop} {A B : World} (h : Kp A B) : Held R A B := ⟨h.size, fun k hk _ => h.block k hk⟩
theorem Held.below {B' : Nat} {R : Nat → Prop} {A B : World} (h : Below B' A B) (hr : ∀ k, R k → k < B') : Held R A B := ⟨h.size, fun k _ hk => h.block k (hr k hk)⟩
theorem Held.cell {R : Nat → Prop} {A B : World} (h : Held R A B) {p : Addr} {v : Value} (hv : A.cell? p = some v) (hr : R p.block) : B.cell? p = some v :=
  (World.cell?_of_block (w := A) (h.block p.block (World.block_lt_of_cell? A p hv) hr)).trans hv

/-- A turn of a block that is no cells leaves what reads. -/
theorem Rd.turn {A B : World} {v : Value} {b : List UInt8} {l : Nat} {o : Obj} (h : Rd A v b) (hl : A.heap[l]? = some o) (ho : o.isCells = false) (hs : Step (fun k => k = l) A B) : Rd B v b := by
  obtain ⟨a, c, rfl, h1, h2, h3, h4⟩ := h
  refine ⟨a, c, rfl, h1, h2, h3, fun x hx i hi => ?_⟩
  have hc := h4 x hx i hi
  refine hs.cell hc (fun e => ?_)
  obtain ⟨o', ho', hc'⟩ := cells_of_cell hc
  rw [e, hl] at ho'
  cases ho'
  rw [ho] at hc'
  cases hc'

/-- What becomes of an iterator's own blocks: some of those it had, and of the new ones. -/
def Grew (Y Y' : Nat → Prop) (A B : World) : Prop := ∀ k, Y' k → Y k ∨ (A.heap.size ≤ k ∧ k < B.heap.size)

/-- What says something of worlds and of an iterator's own blocks, and minds no step of the iterator's. -/
def Minds (B0 : Nat) (J : (Nat → Prop) → World → Prop) : Prop :=
  ∀ Y Y' A B, J Y A → (∀ k, Y k → B0 ≤ k ∧ k < A.heap.size) → Step Y A B → Grew Y Y' A B → J Y' B

/-- The iterator gf (with what it holds, lb) hands N values, number i such that T says it, if the round goes on; it wants the blocks of R as they lay. Y: its own blocks. -/
def Hands (P : Program) (gf : Nat) (lb : Array Value) (T : Nat → Value → (Nat → Prop) → World → Prop) (N : Nat) (R : Nat → Prop) (w : World) : Prop :=
  ∀ (l : Nat) (J Jx : Nat → (Nat → Prop) → World → Prop) (W : World), Held R w W → w.heap.size ≤ l → l < W.heap.size →
    (∀ i, Minds W.heap.size (J i)) → (∀ i, Minds W.heap.size (Jx i)) →
    (∀ i Y A v m, i < N → J i Y A → (∀ k, Y k → W.heap.size ≤ k ∧ k < A.heap.size) → Held R w A → T i v Y A →
      YieldAt Fence.wide m P l #[v] A fun e B => Held (fun k => Y k ∨ R k) A B ∧ ((e = .returned (.bool true) ∧ J (i + 1) Y B) ∨ (e = .returned (.bool false) ∧ Jx i Y B))) →
    J 0 (fun _ => False) W →
    Calls P gf (#[.func (.yield l) #[] #[]] ++ lb) W fun e B => (∃ v, e = .returned v) ∧ ∃ Y, (∀ k, Y k → W.heap.size ≤ k ∧ k < B.heap.size) ∧ (J N Y B ∨ ∃ i, i < N ∧ Jx i Y B)

/-- The way in which a round is left: the jump that is pending. -/
def leftBy : Exit → Option Code
  | .ret => some .ret
  | .exit id => some (.exit id)
  | .goto t => some (.goto t)
  | _ => none

theorem RoundIn.anyDepth {m m' : Nat} {P : Program} {l : Nat} {f : FuncId} {tmps : Array Value} {assign body : Code} {w : World} {R : Ending → World → Prop}
    (h : RoundIn Fence.wide m P l f tmps assign body w R) : RoundIn Fence.wide m' P l f tmps assign body w R := ⟨h.1, fun c cs _ => h.2 c cs (room_wide _)⟩
theorem YieldAt.anyDepth {m : Nat} (m' : Nat) {P : Program} {l : Nat} {args : Array Value} {W : World} {R : Ending → World → Prop} (h : YieldAt Fence.wide m P l args W R) : YieldAt Fence.wide m' P l args W R := by
  obtain ⟨fn, tmps, assign, body, hy, hR⟩ := h
  exact ⟨fn, tmps, assign, body, hy, RoundIn.anyDepth hR⟩
theorem size_putObj (w : World) (D : Nat) (o : Obj) : (w.putObj D o).heap.size = w.heap.size := by
  simp [World.putObj]

theorem wp_range_hands {P : Program} {g : Operand} {ps : Array Tmp} {assign body : Code} {Q : Exit → Act → World → Prop} {a : Act} {w : World}
    {gf : Nat} {lb : Array Value} (hg : a.eval g = .func (.func gf) #[] lb) (eg : ∀ args w, (callFunc gf args).run P w = .ok (.enter gf args) w)
    {T : Nat → Value → (Nat → Prop) → World → Prop} {N : Nat} {R : Nat → Prop} {w0 : World} (hk0 : Kp w0 w) (hR0 : ∀ k, R k → k < w0.heap.size) (hseq : Hands P gf lb T N R w0) (hps : ps.size = 1)
    (I : Nat → (Nat → Prop) → World → Prop) (Ix : Code → Nat → (Nat → Prop) → World → Prop)
    (hI : ∀ i, Minds w.heap.size (I i)) (hIx : ∀ c i, Minds w.heap.size (Ix c i))
    (hTT : ∀ i v Yi Y A B l o, T i v Yi A → (∀ k, Yi k → Y k) → (∀ k, Y k → Yi k ∨ ∃ o : Obj, A.heap[k]? = some o ∧ o.isCells = false) → w.heap.size ≤ l → A.heap[l]? = some (.loop o) → Step (fun k => k = l) A B → T i v Y B)
    (h0 : I 0 (fun _ => False) w) (Ax : Value → Act → World → Prop)
    (hAx : ∀ v a' A l o o', Ax v a' A → w.heap.size ≤ l → A.heap[l]? = some (.loop o) → Ax v a' (A.putObj l o'))
    (hassign : ∀ (l i : Nat) (Y Yi : Nat → Prop) (v : Value) (A : World) (K : Act → World → Prop), I i Y A → T i v Yi A → (∀ a' A', Kp A A' → Ax v a' A' → K a' A') →
      assign.wpIn (Fence.wide.inRound l) 4 P (Exit.then K (fun _ _ _ => False)) { tmps := (ps.zip #[v]).foldl (fun t (p, v) => t.setIfInBounds p v) a.tmps, defers := [] } A)
    (hbody : ∀ (l i : Nat) (Y : Nat → Prop) (v : Value) (a' : Act) (A : World), i < N → I i Y A → (∀ k, Y k → w.heap.size ≤ k ∧ k < A.heap.size) → Held R w A → T i v Y A → Ax v a' A →
      body.wpIn (Fence.wide.inRound l) 4 P (fun e _ B => Held (fun k => Y k ∨ R k) A B ∧ ((e = .normal ∧ I (i + 1) Y B) ∨ ∃ c, leftBy e = some c ∧ Ix c i Y B)) a' A)
    (hdone : ∀ (D : Nat) (Y : Nat → Prop) (W : World), w.heap.size ≤ D → Y D → (∀ k, Y k → w.heap.size ≤ k) → I N Y W → W.heap[D]? = some (.deferred (some [])) → Q .normal { a with defers := { target := .collected D, args := #[] } :: a.defers } W)
    (hstop : ∀ (D : Nat) (c : Code) (i : Nat) (Y : Nat → Prop) (W : World), w.heap.size ≤ D → Y D → (∀ k, Y k → w.heap.size ≤ k) → i < N → Ix c i Y W → W.heap[D]? = some (.deferred (some [])) → c.wp P Q { a with defers := { target := .collected D, args := #[] } :: a.defers } W) :
    (Code.rangeFunc g ps assign body).wp P Q a w := by
  have hR : ∀ k, R k → k < w.heap.size := fun k hk => Nat.lt_of_lt_of_le (hR0 k hk) hk0.size
  refine (wpIn_wide (n := 6)).1 (wpIn_rangeFunc ?_)
  intro fn hfn
  rw [show Fence.wide.round = none from rfl]
  let rec' : LoopState → Option Code → Loop := fun st pe => { state := st, pending := pe, fn, tmps := a.tmps, params := ps, assign, body, defers := w.heap.size }
  obtain ⟨W1, hW1⟩ : ∃ W1, (w.alloc (.deferred (some []))).alloc (.loop (rec' .ready none)) = W1 := ⟨_, rfl⟩
  have hD1 : W1.heap[w.heap.size]? = some (.deferred (some [])) := by
    rw [← hW1]
    exact (Below.heap_alloc _ _ _ (by simp)).trans (heap_alloc_new w _)
  have hL1 : W1.heap[w.heap.size + 1]? = some (.loop (rec' .ready none)) := by
    rw [← hW1]
    have := heap_alloc_new (w.alloc (.deferred (some []))) (.loop (rec' .ready none))
    rwa [World.size_alloc] at this
  have hs1 : W1.heap.size = w.heap.size + 2 := by rw [← hW1]; simp
  have hb1 : Kp w W1 := by rw [← hW1]; exact ((Kp.refl w).alloc _).alloc _
  -- the loop's own view: the iterator's blocks, and the loop's two
  let V : Nat → (Nat → Prop) → World → (Nat → Prop) → Prop := fun i Yi A Y => I i Y A ∧ (∀ k, Yi k → Y k) ∧ (∀ k, Y k → Yi k ∨ k = w.heap.size ∨ k = w.heap.size + 1) ∧ (∀ k, Y k → w.heap.size ≤ k ∧ k < A.heap.size) ∧ Y w.heap.size ∧ Y (w.heap.size + 1) ∧
    A.heap[w.heap.size]? = some (.deferred (some [])) ∧ A.heap[w.heap.size + 1]? = some (.loop (rec' .ready none))
  let Vx : Nat → (Nat → Prop) → World → (Nat → Prop) → Code → Prop := fun i Yi A Y c => Ix c i Y A ∧ (∀ k, Yi k → Y k) ∧ (∀ k, Y k → Yi k ∨ k = w.heap.size ∨ k = w.heap.size + 1) ∧ (∀ k, Y k → w.heap.size ≤ k ∧ k < A.heap.size) ∧ Y w.heap.size ∧ Y (w.heap.size + 1) ∧
    A.heap[w.heap.size]? = some (.deferred (some [])) ∧ A.heap[w.heap.size + 1]? = some (.loop (rec' .done (some c)))
  have hV : ∀ i, Minds W1.heap.size (fun Yi A => ∃ Y, V i Yi A Y) := by
    rintro i Yi Yi' A B ⟨Y, hi, hyy, hyn, hyb, hyD, hyL, hd, hl⟩ hYi hst hgr
    have hnD : ¬ Yi w.heap.size := fun e => by have := (hYi _ e).1; omega
    have hnL : ¬ Yi (w.heap.size + 1) := fun e => by have := (hYi _ e).1; omega
    have hDA := (hyb _ hyD).2
    have hLA := (hyb _ hyL).2
    refine ⟨fun k => Yi' k ∨ k = w.heap.size ∨ k = w.heap.size + 1, hI i Y _ A B hi hyb (hst.mono hyy) (fun k hk => ?_), fun k hk => .inl hk, fun k hk => hk, fun k hk => ?_, .inr (.inl rfl), .inr (.inr rfl), (hst.block _ hDA hnD).trans hd, (hst.block _ hLA hnL).trans hl⟩
    · rcases hk with hk | rfl | rfl
      · exact (hgr k hk).imp (hyy k) id
      · exact .inl hyD
      · exact .inl hyL
    · have := hst.size
      rcases hk with hk | rfl | rfl
      · rcases hgr k hk with h | h
        · have := hyb k (hyy k h); omega
        · have := hyb _ hyD; omega
      · omega
      · omega
  have hVx : ∀ i, Minds W1.heap.size (fun Yi A => ∃ Y c, Vx i Yi A Y c) := by
    rintro i Yi Yi' A B ⟨Y, c, hi, hyy, hyn, hyb, hyD, hyL, hd, hl⟩ hYi hst hgr
    have hnD : ¬ Yi w.heap.size := fun e => by have := (hYi _ e).1; omega
    have hnL : ¬ Yi (w.heap.size + 1) := fun e => by have := (hYi _ e).1; omega
    have hDA := (hyb _ hyD).2
    have hLA := (hyb _ hyL).2
    refine ⟨fun k => Yi' k ∨ k = w.heap.size ∨ k = w.heap.size + 1, c, hIx c i Y _ A B hi hyb (hst.mono hyy) (fun k hk => ?_), fun k hk => .inl hk, fun k hk => hk, fun k hk => ?_, .inr (.inl rfl), .inr (.inr rfl), (hst.block _ hDA hnD).trans hd, (hst.block _ hLA hnL).trans hl⟩
    · rcases hk with hk | rfl | rfl
      · exact (hgr k hk).imp (hyy k) id
      · exact .inl hyD
      · exact .inl hyL
    · have := hst.size
      rcases hk with hk | rfl | rfl
      · rcases hgr k hk with h | h
        · have := hyb k (hyy k h); omega
        · have := hyb _ hyD; omega
      · omega
      · omega
  refine ⟨w.heap.size + 1, [{ target := .collected w.heap.size, args := #[] }], W1, { target := .fn (.func gf) lb, args := #[.func (.yield (w.heap.size + 1)) #[] #[]] }, W1, gf,
    #[.func (.yield (w.heap.size + 1)) #[] #[]] ++ lb, W1, ?_, ?_, ?_, ?_, fun _ => by omega, ?_⟩
  · rw [← hW1]; exact run_enterLoop_outer _ _ _ _ _
  · simp only [resolve, hg]
    simp [go_sem]
  · intro f' hf'
    trivial
  · simp [invoke, go_sem, eg]
  · refine callsIn_wide.2 ((hseq (w.heap.size + 1) (fun i Yi A => ∃ Y, V i Yi A Y) (fun i Yi A => ∃ Y c, Vx i Yi A Y c) W1 (Held.of_kp (hk0.trans hb1)) (by have := hk0.size; omega) (by omega) hV hVx ?_
      ⟨fun k => k = w.heap.size ∨ k = w.heap.size + 1, hI 0 _ _ w W1 h0 (fun k hk => hk.elim) (Step.of_kp hb1) (fun k hk => .inr (by rcases hk with rfl | rfl <;> omega)), fun k hk => hk.elim, fun k hk => .inr hk, fun k hk => by rcases hk with rfl | rfl <;> omega, .inl rfl, .inr rfl, hD1, hL1⟩).mono ?_)
    · rintro i Yi A v m hi ⟨Y, hIA, hyy, hyn, hyb, hyD, hyL, hd, hl⟩ hYi hRA0 hT
      have hRA : Held R w A := ⟨by have := (hyb _ hyL).2; omega, fun k _ hr => (hRA0.block k (hR0 k hr) hr).trans (hk0.block k (hR0 k hr)).symm⟩
      have hlt : w.heap.size + 1 < A.heap.size := (hyb _ hyL).2
      have hy := run_yield (P := P) (args := #[v]) hl (by show (#[v] : Array Value).size = ps.size; rw [hps]; rfl)
      have hTY : ∀ B, Step (fun k => k = w.heap.size + 1) A B → T i v Y B := fun B hB => hTT i v Yi Y A B _ _ hT hyy (fun k hk => (hyn k hk).imp id (fun h => h.elim (fun e => ⟨_, e ▸ hd, rfl⟩) (fun e => ⟨_, e ▸ hl, rfl⟩))) (by omega) hl hB
      have hRl : ∀ k, R k → k ≠ w.heap.size + 1 := fun k hk => by have := hR k hk; omega
      refine YieldAt.anyDepth m (m := 4) ⟨fn, _, assign, body, hy, roundIn_of_wpIn hfn (hassign _ i Y Yi v A _ hIA hT ?_)⟩
      intro a' A1 hk1 hax
      have hl1 := (hk1.block _ hlt).trans hl
      have hd1 := (hk1.block _ (hyb _ hyD).2).trans hd
      refine ⟨_, run_beginRound hl1 rfl, ?_⟩
      have hlt1 : w.heap.size + 1 < A1.heap.size := (Array.getElem?_eq_some_iff.1 hl1).1
      obtain ⟨A2, hA2⟩ : ∃ A2, A1.putObj (w.heap.size + 1) (.loop { rec' .ready none with state := .busy }) = A2 := ⟨_, rfl⟩
      rw [hA2]
      have hst0 : Step (fun k => k = w.heap.size + 1) A A2 := by rw [← hA2]; exact (Step.of_kp hk1).putObj _ _ (.inr rfl)
      have hst : Step Y A A2 := by rw [← hA2]; exact (Step.of_kp hk1).putObj _ _ (.inr hyL)
      have hl2 : A2.heap[w.heap.size + 1]? = some (.loop { rec' .ready none with state := .busy }) := by rw [← hA2]; exact World.putObj_heap_same hlt1
      have hd2 : A2.heap[w.heap.size]? = some (.deferred (some [])) := by rw [← hA2]; exact (World.putObj_heap_other (by omega)).trans hd1
      have hax2 : Ax v a' A2 := by rw [← hA2]; exact hAx v a' A1 _ _ _ hax (by omega) hl1
      have hyb2 : ∀ k, Y k → w.heap.size ≤ k ∧ k < A2.heap.size := fun k hk => ⟨(hyb k hk).1, Nat.lt_of_lt_of_le (hyb k hk).2 hst.size⟩
      have hI2 := hI i Y Y A A2 hIA hyb hst (fun k hk => .inl hk)
      have hRA2 : Held R w A2 := (hRA.trans (Held.of_step hst (fun k hk hy => by have := hR k hk; have := (hyb k hy).1; omega)))
      refine wpIn_mono (hbody _ i Y v a' A2 hi hI2 hyb2 hRA2 (hTY A2 hst0) hax2) ?_
      have fin : ∀ (jump : Option Code) (B : World), Held (fun k => Y k ∨ R k) A2 B → ∃ B', (Instr.endRound (w.heap.size + 1) jump).run P B = .ok (.bool jump.isNone) B' ∧
          B'.heap[w.heap.size + 1]? = some (.loop (rec' (if jump.isNone then .ready else .done) jump)) ∧ B'.heap[w.heap.size]? = some (.deferred (some [])) ∧ Step Y B B' ∧ (∀ k, Y k → w.heap.size ≤ k ∧ k < B.heap.size) ∧ Held (fun k => Yi k ∨ R k) A B' := fun jump B hh => by
        have hl3 := (hh.block _ (hyb2 _ hyL).2 (.inl hyL)).trans hl2
        have hd3 := (hh.block _ (hyb2 _ hyD).2 (.inl hyD)).trans hd2
        have hlt3 : w.heap.size + 1 < B.heap.size := (Array.getElem?_eq_some_iff.1 hl3).1
        have hnL : ∀ k, Yi k ∨ R k → k ≠ w.heap.size + 1 := fun k hk => by
          rcases hk with h | h
          · have := (hYi _ h).1; omega
          · exact hRl k h
        refine ⟨_, run_endRound (P := P) jump hl3, World.putObj_heap_same hlt3, (World.putObj_heap_other (by omega)).trans hd3, (Step.refl Y B).putObj _ _ (.inr hyL), fun k hk => ⟨(hyb k hk).1, Nat.lt_of_lt_of_le (hyb2 k hk).2 hh.size⟩, ⟨?_, fun k hk hr => ?_⟩⟩
        · rw [size_putObj]; exact Nat.le_trans hst.size hh.size
        · have e1 : A2.heap[k]? = A.heap[k]? := by
            rw [← hA2]
            exact (World.putObj_heap_other (hnL k hr)).trans (hk1.block k hk)
          refine (World.putObj_heap_other (hnL k hr)).trans ((hh.block k (Nat.lt_of_lt_of_le hk hst.size) ?_).trans e1)
          exact hr.elim (fun h => .inl (hyy k h)) .inr
      have out : ∀ (jump : Option Code) (B B' : World), Step Y B B' → (∀ k, Y k → w.heap.size ≤ k ∧ k < B.heap.size) → (∀ k, Y k → w.heap.size ≤ k ∧ k < B'.heap.size) := fun _ B B' h hy k hk => ⟨(hy k hk).1, Nat.lt_of_lt_of_le (hy k hk).2 h.size⟩
      rintro e a3 B ⟨hh, hp⟩
      have go : ∀ c, leftBy e = some c → Ix c i Y B → ∃ v B', (Instr.endRound (w.heap.size + 1) (some c)).run P B = .ok v B' ∧
          (Held (fun k => Yi k ∨ R k) A B' ∧ ((Ending.returned v = .returned (.bool true) ∧ ∃ Y, V (i + 1) Yi B' Y) ∨ (Ending.returned v = .returned (.bool false) ∧ ∃ Y c, Vx i Yi B' Y c))) := fun c hc hx => by
        obtain ⟨B', hr, hl3, hd3, hs3, hy3, hh3⟩ := fin (some c) B hh
        exact ⟨_, B', hr, hh3, .inr ⟨rfl, Y, c, hIx c i Y Y B B' hx hy3 hs3 (fun k hk => .inl hk), hyy, hyn, out none B B' hs3 hy3, hyD, hyL, hd3, hl3⟩⟩
      cases e with
      | normal =>
        rcases hp with ⟨_, hi3⟩ | ⟨c, hc, _⟩
        · obtain ⟨B', hr, hl3, hd3, hs3, hy3, hh3⟩ := fin none B hh
          exact ⟨_, B', hr, hh3, .inl ⟨rfl, Y, hI (i + 1) Y Y B B' hi3 hy3 hs3 (fun k hk => .inl hk), hyy, hyn, out none B B' hs3 hy3, hyD, hyL, hd3, hl3⟩⟩
        · cases hc
      | ret =>
        rcases hp with ⟨h, _⟩ | ⟨c, hc, hx⟩
        · cases h
        · cases hc; exact go _ rfl hx
      | exit id =>
        rcases hp with ⟨h, _⟩ | ⟨c, hc, hx⟩
        · cases h
        · cases hc; exact go _ rfl hx
      | goto t =>
        rcases hp with ⟨h, _⟩ | ⟨c, hc, hx⟩
        · cases h
        · cases hc; exact go _ rfl hx
      | panic ch =>
        rcases hp with ⟨h, _⟩ | ⟨c, hc, _⟩
        · cases h
        · cases hc
      | outgrown =>
        rcases hp with ⟨h, _⟩ | ⟨c, hc, _⟩
        · cases h
        · cases hc
    · rintro e W2 ⟨⟨v, rfl⟩, Yi, hYi, (⟨Y, hi, hyy, hyn, hyb, hyD, hyL, hd, hl⟩ | ⟨i, hin, Y, c, hi, hyy, hyn, hyb, hyD, hyL, hd, hl⟩)⟩
      · have hlt : w.heap.size + 1 < W2.heap.size := (hyb _ hyL).2
        have hend : (Instr.endLoop (w.heap.size + 1)).run P W2 = .ok none (W2.putObj (w.heap.size + 1) (.loop (rec' .exhausted none))) := run_endLoop (P := P) hl (by simp [rec'])
        refine ⟨none, _, hend, hdone _ Y _ (Nat.le_refl _) hyD (fun k hk => (hyb k hk).1) (hI N Y Y W2 _ hi hyb ((Step.refl _ _).putObj _ _ (.inr hyL)) (fun k hk => .inl hk)) ((World.putObj_heap_other (by omega)).trans hd)⟩
      · have hlt : w.heap.size + 1 < W2.heap.size := (hyb _ hyL).2
        have hend : (Instr.endLoop (w.heap.size + 1)).run P W2 = .ok (some c) (W2.putObj (w.heap.size + 1) (.loop (rec' .exhausted (some c)))) := run_endLoop (P := P) hl (by simp [rec'])
        exact ⟨some c, _, hend, wpIn_wide.2 (hstop _ c i Y _ (Nat.le_refl _) hyD (fun k hk => (hyb k hk).1) hin (hIx c i Y Y W2 _ hi hyb ((Step.refl _ _).putObj _ _ (.inr hyL)) (fun k hk => .inl hk)) ((World.putObj_heap_other (by omega)).trans hd))⟩
end Go.Proofs.YtobldbodafaajaaGreatDoor

/- 'for a, b := range f': as Yield, for an iterator that hands several values at once. Nothing of a dump. -/
set_option linter.unusedVariables false
set_option linter.unusedSimpArgs false
namespace Go.Proofs.YtobldbodafaajaaGreatDoor
open Go.RowKit

/-- The iterator gf (with what it holds, lb) hands N rows of values, number i such that T says it, if the round goes on; it wants the blocks of R as they lay. Y: its own blocks. -/
def HandsA (P : Program) (gf : Nat) (lb : Array Value) (T : Nat → Array Value → (Nat → Prop) → World → Prop) (N : Nat) (R : Nat → Prop) (w : World) : Prop :=
  ∀ (l : Nat) (J Jx : Nat → (Nat → Prop) → World → Prop) (W : World), Held R w W → w.heap.size ≤ l → l < W.heap.size →
    (∀ i, Minds W.heap.size (J i)) → (∀ i, Minds W.heap.size (Jx i)) →
    (∀ i Y A v m, i < N → J i Y A → (∀ k, Y k → W.heap.size ≤ k ∧ k < A.heap.size) → Held R w A → T i v Y A →
      YieldAt Fence.wide m P l v A fun e B => Held (fun k => Y k ∨ R k) A B ∧ ((e = .returned (.bool true) ∧ J (i + 1) Y B) ∨ (e = .returned (.bool false) ∧ Jx i Y B))) →
    J 0 (fun _ => False) W →
    Calls P gf (#[.func (.yield l) #[] #[]] ++ lb) W fun e B => (∃ v, e = .returned v) ∧ ∃ Y, (∀ k, Y k → W.heap.size ≤ k ∧ k < B.heap.size) ∧ (J N Y B ∨ ∃ i, i < N ∧ Jx i Y B)

theorem wp_range_handsA {P : Program} {g : Operand} {ps : Array Tmp} {assign body : Code} {Q : Exit → Act → World → Prop} {a : Act} {w : World}
    {gf : Nat} {lb : Array Value} (hg : a.eval g = .func (.func gf) #[] lb) (eg : ∀ args w, (callFunc gf args).run P w = .ok (.enter gf args) w)
    {T : Nat → Array Value → (Nat → Prop) → World → Prop} {N : Nat} {R : Nat → Prop} {w0 : World} (hk0 : Kp w0 w) (hR0 : ∀ k, R k → k < w0.heap.size) (hseq : HandsA P gf lb T N R w0) (hps : ∀ i v Y A, T i v Y A → v.size = ps.size)
    (I : Nat → (Nat → Prop) → World → Prop) (Ix : Code → Nat → (Nat → Prop) → World → Prop)
    (hI : ∀ i, Minds w.heap.size (I i)) (hIx : ∀ c i, Minds w.heap.size (Ix c i))
    (hTT : ∀ i v Yi Y A B l o, T i v Yi A → (∀ k, Yi k → Y k) → (∀ k, Y k → Yi k ∨ ∃ o : Obj, A.heap[k]? = some o ∧ o.isCells = false) → w.heap.size ≤ l → A.heap[l]? = some (.loop o) → Step (fun k => k = l) A B → T i v Y B)
    (h0 : I 0 (fun _ => False) w) (Ax : Array Value → Act → World → Prop)
    (hAx : ∀ v a' A l o o', Ax v a' A → w.heap.size ≤ l → A.heap[l]? = some (.loop o) → Ax v a' (A.putObj l o'))
    (hassign : ∀ (l i : Nat) (Y Yi : Nat → Prop) (v : Array Value) (A : World) (K : Act → World → Prop), I i Y A → T i v Yi A → (∀ a' A', Kp A A' → Ax v a' A' → K a' A') →
      assign.wpIn (Fence.wide.inRound l) 4 P (Exit.then K (fun _ _ _ => False)) { tmps := (ps.zip v).foldl (fun t (p, v) => t.setIfInBounds p v) a.tmps, defers := [] } A)
    (hbody : ∀ (l i : Nat) (Y : Nat → Prop) (v : Array Value) (a' : Act) (A : World), i < N → I i Y A → (∀ k, Y k → w.heap.size ≤ k ∧ k < A.heap.size) → Held R w A → T i v Y A → Ax v a' A →
      body.wpIn (Fence.wide.inRound l) 4 P (fun e _ B => Held (fun k => Y k ∨ R k) A B ∧ ((e = .normal ∧ I (i + 1) Y B) ∨ ∃ c, leftBy e = some c ∧ Ix c i Y B)) a' A)
    (hdone : ∀ (D : Nat) (Y : Nat → Prop) (W : World), w.heap.size ≤ D → Y D → (∀ k, Y k → w.heap.size ≤ k) → I N Y W → W.heap[D]? = some (.deferred (some [])) → Q .normal { a with defers := { target := .collected D, args := #[] } :: a.defers } W)
    (hstop : ∀ (D : Nat) (c : Code) (i : Nat) (Y : Nat → Prop) (W : World), w.heap.size ≤ D → Y D → (∀ k, Y k → w.heap.size ≤ k) → i < N → Ix c i Y W → W.heap[D]? = some (.deferred (some [])) → c.wp P Q { a with defers := { target := .collected D, args := #[] } :: a.defers } W) :
    (Code.rangeFunc g ps assign body).wp P Q a w := by
  have hR : ∀ k, R k → k < w.heap.size := fun k hk => Nat.lt_of_lt_of_le (hR0 k hk) hk0.size
  refine (wpIn_wide (n := 6)).1 (wpIn_rangeFunc ?_)
  intro fn hfn
  rw [show Fence.wide.round = none from rfl]
  let rec' : LoopState → Option Code → Loop := fun st pe => { state := st, pending := pe, fn, tmps := a.tmps, params := ps, assign, body, defers := w.heap.size }
  obtain ⟨W1, hW1⟩ : ∃ W1, (w.alloc (.deferred (some []))).alloc (.loop (rec' .ready none)) = W1 := ⟨_, rfl⟩
  have hD1 : W1.heap[w.heap.size]? = some (.deferred (some [])) := by
    rw [← hW1]
    exact (Below.heap_alloc _ _ _ (by simp)).trans (heap_alloc_new w _)
  have hL1 : W1.heap[w.heap.size + 1]? = some (.loop (rec' .ready none)) := by
    rw [← hW1]
    have := heap_alloc_new (w.alloc (.deferred (some []))) (.loop (rec' .ready none))
    rwa [World.size_alloc] at this
  have hs1 : W1.heap.size = w.heap.size + 2 := by rw [← hW1]; simp
  have hb1 : Kp w W1 := by rw [← hW1]; exact ((Kp.refl w).alloc _).alloc _
  -- the loop's own view: the iterator's blocks, and the loop's two
  let V : Nat → (Nat → Prop) → World → (Nat → Prop) → Prop := fun i Yi A Y => I i Y A ∧ (∀ k, Yi k → Y k) ∧ (∀ k, Y k → Yi k ∨ k = w.heap.size ∨ k = w.heap.size + 1) ∧ (∀ k, Y k → w.heap.size ≤ k ∧ k < A.heap.size) ∧ Y w.heap.size ∧ Y (w.heap.size + 1) ∧
    A.heap[w.heap.size]? = some (.deferred (some [])) ∧ A.heap[w.heap.size + 1]? = some (.loop (rec' .ready none))
  let Vx : Nat → (Nat → Prop) → World → (Nat → Prop) → Code → Prop := fun i Yi A Y c => Ix c i Y A ∧ (∀ k, Yi k → Y k) ∧ (∀ k, Y k → Yi k ∨ k = w.heap.size ∨ k = w.heap.size + 1) ∧ (∀ k, Y k → w.heap.size ≤ k ∧ k < A.heap.size) ∧ Y w.heap.size ∧ Y (w.heap.size + 1) ∧
    A.heap[w.heap.size]? = some (.deferred (some [])) ∧ A.heap[w.heap.size + 1]? = some (.loop (rec' .done (some c)))
  have hV : ∀ i, Minds W1.heap.size (fun Yi A => ∃ Y, V i Yi A Y) := by
    rintro i Yi Yi' A B ⟨Y, hi, hyy, hyn, hyb, hyD, hyL, hd, hl⟩ hYi hst hgr
    have hnD : ¬ Yi w.heap.size := fun e => by have := (hYi _ e).1; omega
    have hnL : ¬ Yi (w.heap.size + 1) := fun e => by have := (hYi _ e).1; omega
    have hDA := (hyb _ hyD).2
    have hLA := (hyb _ hyL).2
    refine ⟨fun k => Yi' k ∨ k = w.heap.size ∨ k = w.heap.size + 1, hI i Y _ A B hi hyb (hst.mono hyy) (fun k hk => ?_), fun k hk => .inl hk, fun k hk => hk, fun k hk => ?_, .inr (.inl rfl), .inr (.inr rfl), (hst.block _ hDA hnD).trans hd, (hst.block _ hLA hnL).trans hl⟩
    · rcases hk with hk | rfl | rfl
      · exact (hgr k hk).imp (hyy k) id
      · exact .inl hyD
      · exact .inl hyL
    · have := hst.size
      rcases hk with hk | rfl | rfl
      · rcases hgr k hk with h | h
        · have := hyb k (hyy k h); omega
        · have := hyb _ hyD; omega
      · omega
      · omega
  have hVx : ∀ i, Minds W1.heap.size (fun Yi A => ∃ Y c, Vx i Yi A Y c) := by
    rintro i Yi Yi' A B ⟨Y, c, hi, hyy, hyn, hyb, hyD, hyL, hd, hl⟩ hYi hst hgr
    have hnD : ¬ Yi w.heap.size := fun e => by have := (hYi _ e).1; omega
    have hnL : ¬ Yi (w.heap.size + 1) := fun e => by have := (hYi _ e).1; omega
    have hDA := (hyb _ hyD).2
    have hLA := (hyb _ hyL).2
    refine ⟨fun k => Yi' k ∨ k = w.heap.size ∨ k = w.heap.size + 1, c, hIx c i Y _ A B hi hyb (hst.mono hyy) (fun k hk => ?_), fun k hk => .inl hk, fun k hk => hk, fun k hk => ?_, .inr (.inl rfl), .inr (.inr rfl), (hst.block _ hDA hnD).trans hd, (hst.block _ hLA hnL).trans hl⟩
    · rcases hk with hk | rfl | rfl
      · exact (hgr k hk).imp (hyy k) id
      · exact .inl hyD
      · exact .inl hyL
    · have := hst.size
      rcases hk with hk | rfl | rfl
      · rcases hgr k hk with h | h
        · have := hyb k (hyy k h); omega
        · have := hyb _ hyD; omega
      · omega
      · omega
  refine ⟨w.heap.size + 1, [{ target := .collected w.heap.size, args := #[] }], W1, { target := .fn (.func gf) lb, args := #[.func (.yield (w.heap.size + 1)) #[] #[]] }, W1, gf,
    #[.func (.yield (w.heap.size + 1)) #[] #[]] ++ lb, W1, ?_, ?_, ?_, ?_, fun _ => by omega, ?_⟩
  · rw [← hW1]; exact run_enterLoop_outer _ _ _ _ _
  · simp only [resolve, hg]
    simp [go_sem]
  · intro f' hf'
    trivial
  · simp [invoke, go_sem, eg]
  · refine callsIn_wide.2 ((hseq (w.heap.size + 1) (fun i Yi A => ∃ Y, V i Yi A Y) (fun i Yi A => ∃ Y c, Vx i Yi A Y c) W1 (Held.of_kp (hk0.trans hb1)) (by have := hk0.size; omega) (by omega) hV hVx ?_
      ⟨fun k => k = w.heap.size ∨ k = w.heap.size + 1, hI 0 _ _ w W1 h0 (fun k hk => hk.elim) (Step.of_kp hb1) (fun k hk => .inr (by rcases hk with rfl | rfl <;> omega)), fun k hk => hk.elim, fun k hk => .inr hk, fun k hk => by rcases hk with rfl | rfl <;> omega, .inl rfl, .inr rfl, hD1, hL1⟩).mono ?_)
    · rintro i Yi A v m hi ⟨Y, hIA, hyy, hyn, hyb, hyD, hyL, hd, hl⟩ hYi hRA0 hT
      have hRA : Held R w A := ⟨by have := (hyb _ hyL).2; omega, fun k _ hr => (hRA0.block k (hR0 k hr) hr).trans (hk0.block k (hR0 k hr)).symm⟩
      have hlt : w.heap.size + 1 < A.heap.size := (hyb _ hyL).2
      have hy := run_yield (P := P) (args := v) hl (hps i v Yi A hT)
      have hTY : ∀ B, Step (fun k => k = w.heap.size + 1) A B → T i v Y B := fun B hB => hTT i v Yi Y A B _ _ hT hyy (fun k hk => (hyn k hk).imp id (fun h => h.elim (fun e => ⟨_, e ▸ hd, rfl⟩) (fun e => ⟨_, e ▸ hl, rfl⟩))) (by omega) hl hB
      have hRl : ∀ k, R k → k ≠ w.heap.size + 1 := fun k hk => by have := hR k hk; omega
      refine YieldAt.anyDepth m (m := 4) ⟨fn, _, assign, body, hy, roundIn_of_wpIn hfn (hassign _ i Y Yi v A _ hIA hT ?_)⟩
      intro a' A1 hk1 hax
      have hl1 := (hk1.block _ hlt).trans hl
      have hd1 := (hk1.block _ (hyb _ hyD).2).trans hd
      refine ⟨_, run_beginRound hl1 rfl, ?_⟩
      have hlt1 : w.heap.size + 1 < A1.heap.size := (Array.getElem?_eq_some_iff.1 hl1).1
      obtain ⟨A2, hA2⟩ : ∃ A2, A1.putObj (w.heap.size + 1) (.loop { rec' .ready none with state := .busy }) = A2 := ⟨_, rfl⟩
      rw [hA2]
      have hst0 : Step (fun k => k = w.heap.size + 1) A A2 := by rw [← hA2]; exact (Step.of_kp hk1).putObj _ _ (.inr rfl)
      have hst : Step Y A A2 := by rw [← hA2]; exact (Step.of_kp hk1).putObj _ _ (.inr hyL)
      have hl2 : A2.heap[w.heap.size + 1]? = some (.loop { rec' .ready none with state := .busy }) := by rw [← hA2]; exact World.putObj_heap_same hlt1
      have hd2 : A2.heap[w.heap.size]? = some (.deferred (some [])) := by rw [← hA2]; exact (World.putObj_heap_other (by omega)).trans hd1
      have hax2 : Ax v a' A2 := by rw [← hA2]; exact hAx v a' A1 _ _ _ hax (by omega) hl1
      have hyb2 : ∀ k, Y k → w.heap.size ≤ k ∧ k < A2.heap.size := fun k hk => ⟨(hyb k hk).1, Nat.lt_of_lt_of_le (hyb k hk).2 hst.size⟩
      have hI2 := hI i Y Y A A2 hIA hyb hst (fun k hk => .inl hk)
      have hRA2 : Held R w A2 := (hRA.trans (Held.of_step hst (fun k hk hy => by have := hR k hk; have := (hyb k hy).1; omega)))
      refine wpIn_mono (hbody _ i Y v a' A2 hi hI2 hyb2 hRA2 (hTY A2 hst0) hax2) ?_
      have fin : ∀ (jump : Option Code) (B : World), Held (fun k => Y k ∨ R k) A2 B → ∃ B', (Instr.endRound (w.heap.size + 1) jump).run P B = .ok (.bool jump.isNone) B' ∧
          B'.heap[w.heap.size + 1]? = some (.loop (rec' (if jump.isNone then .ready else .done) jump)) ∧ B'.heap[w.heap.size]? = some (.deferred (some [])) ∧ Step Y B B' ∧ (∀ k, Y k → w.heap.size ≤ k ∧ k < B.heap.size) ∧ Held (fun k => Yi k ∨ R k) A B' := fun jump B hh => by
        have hl3 := (hh.block _ (hyb2 _ hyL).2 (.inl hyL)).trans hl2
        have hd3 := (hh.block _ (hyb2 _ hyD).2 (.inl hyD)).trans hd2
        have hlt3 : w.heap.size + 1 < B.heap.size := (Array.getElem?_eq_some_iff.1 hl3).1
        have hnL : ∀ k, Yi k ∨ R k → k ≠ w.heap.size + 1 := fun k hk => by
          rcases hk with h | h
          · have := (hYi _ h).1; omega
          · exact hRl k h
        refine ⟨_, run_endRound (P := P) jump hl3, World.putObj_heap_same hlt3, (World.putObj_heap_other (by omega)).trans hd3, (Step.refl Y B).putObj _ _ (.inr hyL), fun k hk => ⟨(hyb k hk).1, Nat.lt_of_lt_of_le (hyb2 k hk).2 hh.size⟩, ⟨?_, fun k hk hr => ?_⟩⟩
        · rw [size_putObj]; exact Nat.le_trans hst.size hh.size
        · have e1 : A2.heap[k]? = A.heap[k]? := by
            rw [← hA2]
            exact (World.putObj_heap_other (hnL k hr)).trans (hk1.block k hk)
          refine (World.putObj_heap_other (hnL k hr)).trans ((hh.block k (Nat.lt_of_lt_of_le hk hst.size) ?_).trans e1)
          exact hr.elim (fun h => .inl (hyy k h)) .inr
      have out : ∀ (jump : Option Code) (B B' : World), Step Y B B' → (∀ k, Y k → w.heap.size ≤ k ∧ k < B.heap.size) → (∀ k, Y k → w.heap.size ≤ k ∧ k < B'.heap.size) := fun _ B B' h hy k hk => ⟨(hy k hk).1, Nat.lt_of_lt_of_le (hy k hk).2 h.size⟩
      rintro e a3 B ⟨hh, hp⟩
      have go : ∀ c, leftBy e = some c → Ix c i Y B → ∃ v B', (Instr.endRound (w.heap.size + 1) (some c)).run P B = .ok v B' ∧
          (Held (fun k => Yi k ∨ R k) A B' ∧ ((Ending.returned v = .returned (.bool true) ∧ ∃ Y, V (i + 1) Yi B' Y) ∨ (Ending.returned v = .returned (.bool false) ∧ ∃ Y c, Vx i Yi B' Y c))) := fun c hc hx => by
        obtain ⟨B', hr, hl3, hd3, hs3, hy3, hh3⟩ := fin (some c) B hh
        exact ⟨_, B', hr, hh3, .inr ⟨rfl, Y, c, hIx c i Y Y B B' hx hy3 hs3 (fun k hk => .inl hk), hyy, hyn, out none B B' hs3 hy3, hyD, hyL, hd3, hl3⟩⟩
      cases e with
      | normal =>
        rcases hp with ⟨_, hi3⟩ | ⟨c, hc, _⟩
        · obtain ⟨B', hr, hl3, hd3, hs3, hy3, hh3⟩ := fin none B hh
          exact ⟨_, B', hr, hh3, .inl ⟨rfl, Y, hI (i + 1) Y Y B B' hi3 hy3 hs3 (fun k hk => .inl hk), hyy, hyn, out none B B' hs3 hy3, hyD, hyL, hd3, hl3⟩⟩
        · cases hc
      | ret =>
        rcases hp with ⟨h, _⟩ | ⟨c, hc, hx⟩
        · cases h
        · cases hc; exact go _ rfl hx
      | exit id =>
        rcases hp with ⟨h, _⟩ | ⟨c, hc, hx⟩
        · cases h
        · cases hc; exact go _ rfl hx
      | goto t =>
        rcases hp with ⟨h, _⟩ | ⟨c, hc, hx⟩
        · cases h
        · cases hc; exact go _ rfl hx
      | panic ch =>
        rcases hp with ⟨h, _⟩ | ⟨c, hc, _⟩
        · cases h
        · cases hc
      | outgrown =>
        rcases hp with ⟨h, _⟩ | ⟨c, hc, _⟩
        · cases h
        · cases hc
    · rintro e W2 ⟨⟨v, rfl⟩, Yi, hYi, (⟨Y, hi, hyy, hyn, hyb, hyD, hyL, hd, hl⟩ | ⟨i, hin, Y, c, hi, hyy, hyn, hyb, hyD, hyL, hd, hl⟩)⟩
      · have hlt : w.heap.size + 1 < W2.heap.size := (hyb _ hyL).2
        have hend : (Instr.endLoop (w.heap.size + 1)).run P W2 = .ok none (W2.putObj (w.heap.size + 1) (.loop (rec' .exhausted none))) := run_endLoop (P := P) hl (by simp [rec'])
        refine ⟨none, _, hend, hdone _ Y _ (Nat.le_refl _) hyD (fun k hk => (hyb k hk).1) (hI N Y Y W2 _ hi hyb ((Step.refl _ _).putObj _ _ (.inr hyL)) (fun k hk => .inl hk)) ((World.putObj_heap_other (by omega)).trans hd)⟩
      · have hlt : w.heap.size + 1 < W2.heap.size := (hyb _ hyL).2
        have hend : (Instr.endLoop (w.heap.size + 1)).run P W2 = .ok (some c) (W2.putObj (w.heap.size + 1) (.loop (rec' .exhausted (some c)))) := run_endLoop (P := P) hl (by simp [rec'])
        exact ⟨some c, _, hend, wpIn_wide.2 (hstop _ c i Y _ (Nat.le_refl _) hyD (fun k hk => (hyb k hk).1) hin (hIx c i Y Y W2 _ hi hyb ((Step.refl _ _).putObj _ _ (.inr hyL)) (fun k hk => .inl hk)) ((World.putObj_heap_other (by omega)).trans hd))⟩
end Go.Proofs.YtobldbodafaajaaGreatDoor

/- A region that draws its order, in a round of a loop: what only looks at cells that nobody changes may be taken first. Nothing of a dump. -/
set_option linter.unusedVariables false
set_option linter.unusedSimpArgs false
namespace Go.Proofs.YtobldbodafaajaaGreatDoor
open Go.RowKit

section
variable {F : Fence} {n : Nat} {P : Program} {ops : Array Oper} {Q : Exit → Act → World → Prop} {md : Region.Mode} {S : World → Prop}

/-- In state a, in every world of which S holds, o yields v, and does nothing else. -/
structure Calm (P : Program) (ops : Array Oper) (S : World → Prop) (o : Oper) (v : Value) (a : Act) : Prop where
  nodefer : ∀ c, o.op ≠ .defer c
  about : ∀ w, o.about P w a.eval = none
  yields : (Region.wanted o (yielded ops a.tmps) = true ∧ ∀ w, S w → (execOp a.eval o).run P w = .ok (.value v) w) ∨ (Region.wanted o (yielded ops a.tmps) = false ∧ v = undef)

/-- No operation of the region defers. -/
def noDefer (ops : Array Oper) : Bool := ops.all fun o => match o.op with | .defer _ => false | _ => true
theorem noDefer_spec (h : noDefer ops = true) {j : Nat} {o : Oper} (hj : ops[j]? = some o) : ∀ c, o.op ≠ .defer c := fun c e => by
  have := Array.all_eq_true_iff_forall_mem.1 h o (Array.mem_of_getElem? hj)
  rw [e] at this
  cases this

theorem Calm.put {o oj : Oper} {v : Value} {a : Act} (h : Calm P ops S o v a) (hs : ∀ cs b, o.op ≠ .select cs b) (u : Value) (hap : ∀ d, oj.dst = some d → d ∉ o.looksAt ops) : Calm P ops S o v (a.put oj.dst u) := by
  obtain ⟨h1, h2, h3⟩ := h
  refine ⟨h1, fun w => (about_put o w a oj.dst u hap).trans (h2 w), ?_⟩
  rw [wanted_put o a oj.dst u hap, execOp_put o hs a oj.dst u hap]
  exact h3
theorem Calm.run {o : Oper} {i : Nat} {v : Value} {a : Act} {w : World} {K : Act → World → Prop} (h : Calm P ops S o v a) (hi : ops[i]? = some o) (hS : S w) (hK : K (a.put o.dst v) w) : wpOpIn F n P ops Q i K a w := by
  have hab : ∀ f, o.about P w a.eval = some f → F.fn f := fun f hf => by rw [h.about w] at hf; cases hf
  unfold wpOpIn
  simp only [hi]
  rcases h.yields with ⟨hw, hv⟩ | ⟨hw, rfl⟩
  · rw [if_pos hw]
    exact ⟨hab, by rw [Oper.semAt_plain F _ _ h.nodefer, hv w hS]; exact hK⟩
  · rw [if_neg (by rw [hw]; decide)]
    exact ⟨hab, hK⟩

/-- Another operation, apart from a calm one: it may as well be run ahead of it. -/
theorem Calm.later {j : Nat} {o oj : Oper} {v : Value} {a : Act} {w : World} {K : Act → World → Prop} (h : Calm P ops S o v a) (hnd : noDefer ops = true) (hns : Region.noSelect ops = true) {i : Nat} (hi : ops[i]? = some o) (hj : ops[j]? = some oj)
    (hap : o.apart ops oj = true) (hQ : ∀ c a w, Q (.panic c) (a.put o.dst v) w → Q (.panic c) a w) (hh : wpOpIn F n P ops Q j K (a.put o.dst v) w) :
    wpOpIn F n P ops Q j (fun a' w' => Calm P ops S o v a' ∧ K (a'.put o.dst v) w') a w := by
  obtain ⟨p1, p2, p3⟩ := Oper.apart_spec hap
  have hsj := fun cs b => Region.noSelect_spec hns j oj cs b hj
  have hsi := fun cs b => Region.noSelect_spec hns i o cs b hi
  have hd := noDefer_spec hnd hj
  -- behind oj, whatever it puts
  have back : ∀ u w', K ((a.put o.dst v).put oj.dst u) w' → Calm P ops S o v (a.put oj.dst u) ∧ K ((a.put oj.dst u).put o.dst v) w' := fun u w' hk => ⟨h.put hsi u p3, by rw [← Act.put_comm a v u p2]; exact hk⟩
  unfold wpOpIn at *
  simp only [hj] at *
  rw [wanted_put oj a o.dst v p1, about_put oj w a o.dst v p1] at hh
  by_cases hw : Region.wanted oj (yielded ops a.tmps) = true
  · rw [if_pos hw] at hh ⊢
    unfold Oper.wpIn at *
    rw [Oper.semAt_plain F _ _ hd, about_put oj w a o.dst v p1, execOp_put oj hsj a o.dst v p1] at hh
    refine ⟨hh.1, ?_⟩
    rw [Oper.semAt_plain F _ _ hd]
    have h2 := hh.2
    obtain ⟨r, hr⟩ : ∃ r, (execOp a.eval oj).run P w = r := ⟨_, rfl⟩
    rw [hr] at h2 ⊢
    match r, h2 with
    | .ok (.value u) w', h2 => exact back u w' h2
    | .ok .skip w', h2 => exact back undef w' h2
    | .ok (.defer d) w', h2 =>
      refine ⟨Calm.put (a := { a with defers := d :: a.defers }) (oj := oj) ⟨h.nodefer, h.about, h.yields⟩ hsi undef p3, ?_⟩
      rw [← Act.put_comm _ v undef p2, ← Act.put_defers]
      exact h2
    | .ok (.enter f args) w', h2 =>
      refine ⟨h2.1, h2.2.mono fun e w'' he => ?_⟩
      match e, he with
      | .returned u, he => exact back u w'' he
      | .panicked c, he => exact hQ _ _ _ he
      | .outgrown, he => exact he
    | .ok (.row row args) w', h2 => exact ⟨h2.1, h2.2.mono fun u w'' he => back u w'' he⟩
    | .ok (.round l f tmps assign body) w', h2 =>
      refine ⟨h2.1, h2.2.mono fun e w'' he => ?_⟩
      match e, he with
      | .returned u, he => exact back u w'' he
      | .panicked c, he => exact hQ _ _ _ he
      | .outgrown, he => exact he
    | .halt (.panic u) w', h2 => exact hQ _ _ _ h2
  · rw [if_neg hw] at hh ⊢
    exact ⟨hh.1, back undef w hh.2⟩

/-- Whatever order is drawn; behind each operation S holds. -/
def AnyIf (F : Fence) (n : Nat) (P : Program) (md : Region.Mode) (ops : Array Oper) (Q : Exit → Act → World → Prop) (S : World → Prop) : Nat → Array Bool → Act → World → Prop
  | 0, listed, a, w => Region.ready md ops listed = [] ∧ Q .normal a w
  | fuel + 1, listed, a, w =>
    (Region.ready md ops listed = [] → Q .normal a w) ∧
    ∀ i ∈ Region.ready md ops listed, wpOpIn F n P ops Q i (fun a' w' => S w' ∧ AnyIf F n P md ops Q S fuel (listed.setIfInBounds i true) a' w') a w
theorem AnyIf.any : ∀ (fuel : Nat) (listed : Array Bool) (a : Act) (w : World), AnyIf F n P md ops Q S fuel listed a w → wpAnyIn F n P md ops Q fuel listed a w
  | 0, _, _, _, h => h
  | fuel + 1, _, _, _, h => ⟨h.1, fun i hi => wpOpIn_mono (fun a' w' h' => AnyIf.any fuel _ a' w' h'.2) (h.2 i hi)⟩

theorem AnyIf.first {i : Nat} {o : Oper} {v : Value} (hnd : noDefer ops = true) (hns : Region.noSelect ops = true) (hi : ops[i]? = some o) (hQ : ∀ c a w, Q (.panic c) (a.put o.dst v) w → Q (.panic c) a w) :
    ∀ (fuel : Nat) (listed : Array Bool) (a : Act) (w : World),
      (∀ j oj, ops[j]? = some oj → j ≠ i → listed.getD j true = false → (∀ e ∈ oj.after, Region.binds md e = true → e.on ≠ i) → o.apart ops oj = true) →
      i ∈ Region.ready md ops listed → Calm P ops S o v a → S w → AnyIf F n P md ops Q S fuel (listed.setIfInBounds i true) (a.put o.dst v) w → AnyIf F n P md ops Q S (fuel + 1) listed a w
  | fuel, listed, a, w, hfree, hr, hy, hS, H => by
    refine ⟨fun h => (by rw [h] at hr; cases hr), fun j hj => ?_⟩
    by_cases hji : j = i
    · subst hji
      exact hy.run hi hS ⟨hS, H⟩
    · have hj' := ready_mono (i := i) hj hji
      match fuel, H with
      | 0, H => rw [H.1] at hj'; cases hj'
      | fuel + 1, H =>
        obtain ⟨hjun, oj, hoj, hall⟩ := mem_ready.1 hj
        -- j doesn't wait for i: what it waits for has come up
        have hnot : ∀ e ∈ oj.after, Region.binds md e = true → e.on ≠ i := fun e he hb heq => by
          have h1 := hall e he hb
          have h0 := (mem_ready.1 hr).1
          rw [heq] at h1
          rcases Nat.lt_or_ge i listed.size with h' | h'
          · simp [h'] at h0 h1; rw [h0] at h1; cases h1
          · simp [Array.getElem?_eq_none h'] at h1
        refine wpOpIn_mono ?_ (hy.later hnd hns hi hoj (hfree j oj hoj hji hjun hnot) hQ (H.2 j hj'))
        rintro a' w' ⟨hy', hS', H'⟩
        refine ⟨hS', AnyIf.first hnd hns hi hQ fuel (listed.setIfInBounds j true) a' w' (fun k ok hk hki hun hno => ?_) (ready_mono hr (Ne.symm hji)) hy' hS' ?_⟩
        · refine hfree k ok hk hki ?_ hno
          by_cases hjk : j = k
          · subst hjk; exact hjun
          · rwa [getD_set_ne true hjk] at hun
        · rw [Array.setIfInBounds_comm _ _ hji]
          exact H'

/-- The beginning. -/
theorem region_if {id : Nat} {a : Act} {w : World} (hm : P.follows .mixedOrders = true) (h : AnyIf F n P .any ops Q S ops.size (Array.replicate ops.size false) a w.drew) : (Code.region id ops true).wpIn F n P Q a w :=
  wpIn_region_any hm (AnyIf.any _ _ _ _ h)
/-- A calm one is taken first. -/
theorem AnyIf.take (i : Nat) (v : Value) {o : Oper} {fuel : Nat} {listed : Array Bool} {a : Act} {w : World} (hi : ops[i]? = some o) (hnd : noDefer ops = true) (hns : Region.noSelect ops = true) (hf : Region.free md ops listed i = true)
    (hr : (Region.ready md ops listed).contains i = true) (hQ : ∀ c a w, Q (.panic c) (a.put o.dst v) w → Q (.panic c) a w) (hS : S w) (hy : Calm P ops S o v a)
    (h : AnyIf F n P md ops Q S fuel (listed.setIfInBounds i true) (a.put o.dst v) w) : AnyIf F n P md ops Q S (fuel + 1) listed a w :=
  AnyIf.first hnd hns hi hQ fuel listed a w (Region.free_spec hi hf) (by simpa using hr) hy hS h
/-- One alone can come up. -/
theorem AnyIf.one (i : Nat) {o : Oper} {fuel : Nat} {listed : Array Bool} {a : Act} {w : World} (hi : ops[i]? = some o) (hr : Region.ready md ops listed = [i])
    (h : ∀ K : Act → World → Prop, (∀ a' w', S w' → AnyIf F n P md ops Q S fuel (listed.setIfInBounds i true) a' w' → K a' w') → if Region.wanted o (yielded ops a.tmps) = true then Oper.wpIn F n P o a w K Q else (∀ f, o.about P w a.eval = some f → F.fn f) ∧ K (a.put o.dst undef) w) :
    AnyIf F n P md ops Q S (fuel + 1) listed a w := by
  refine ⟨fun h0 => (by rw [h0] at hr; cases hr), fun j hj => ?_⟩
  rw [hr] at hj
  obtain rfl : j = i := by simpa using hj
  exact wpOpIn_step hi (fun K' hK => h K' (fun a' w' hs hw => hK a' w' ⟨hs, hw⟩))
/-- All have come up. -/
theorem AnyIf.done {fuel : Nat} {listed : Array Bool} {a : Act} {w : World} (hr : Region.ready md ops listed = []) (h : Q .normal a w) : AnyIf F n P md ops Q S fuel listed a w := by
  cases fuel with
  | zero => exact ⟨hr, h⟩
  | succ fuel => exact ⟨fun _ => h, fun i hi => by rw [hr] at hi; cases hi⟩
end
end Go.Proofs.YtobldbodafaajaaGreatDoor

/- A loop over an iterator that collects numbers: the box that holds the row, from round to round. Nothing of a dump. -/
set_option linter.unusedVariables false
set_option linter.unusedSimpArgs false
namespace Go.Proofs.YtobldbodafaajaaGreatDoor
open Go.RowKit

theorem kp_drew8 (A : World) : Kp A A.drew := Kp.drew (a := A) (b := A) (Kp.refl A)
/-- v's own row lies in no block of Z. -/
def Apt (Z : Nat → Prop) (v : Value) : Prop := ∀ g, v.ownBlock = some g → ¬ Z g
theorem ownsRow_step8 {e : TypeId} {Y : Nat → Prop} {A A' : World} {b k : Nat} {v : Value} {xs : List Value} (h : A.ownsRow b e 1 v k xs) (hs : Step Y A A') (ho : Apt Y v) : A'.ownsRow b e 1 v k xs := by
  refine ⟨h.1, ?_⟩
  rcases h.2 with hn | ⟨g, cap, cur, rfl, hb, hg, rest⟩
  · exact .inl hn
  · exact .inr ⟨g, cap, cur, rfl, hb, (hs.block g (Array.getElem?_eq_some_iff.1 hg).1 (ho g rfl)).trans hg, rest⟩
/-- The box B holds a row of the call's own, of the numbers L; it lies apart from Y and R. -/
structure Coll (tS tE : TypeId) (w0 : World) (R : Nat → Prop) (L : List Nat) (Y : Nat → Prop) (A : World) (v : Value) : Prop where
  box : Boxed A w0.heap.size tS v
  own : ON tE A w0.heap.size v L
  apt : Apt (fun k => Y k ∨ R k) v
  kp : Kp w0 A
theorem Coll.minds {tS tE : TypeId} {w0 : World} {R : Nat → Prop} {L : List Nat} {B0 : Nat} (hB : w0.heap.size < B0) : Minds B0 (fun Y A => ∃ v, Coll tS tE w0 R L Y A v) := by
  rintro Y Y' A A' ⟨v, h1, h2, h3, h4⟩ hY hs hg
  have hnB : ¬ Y w0.heap.size := fun h => by have := hY _ h; omega
  refine ⟨v, (hs.block _ h1.lt hnB).trans h1, ownsRow_step8 h2 hs (fun g hg h => h3 g hg (.inl h)), fun g hgv h => ?_, Below.trans h4 (hs.below h4.size (fun k hk => by have := hY k hk; omega))⟩
  rcases h with h | h
  · rcases hg g h with h5 | h5
    · exact h3 g hgv (.inl h5)
    · have := (World.ownsRow.lt h2 g hgv).2; omega
  · exact h3 g hgv (.inr h)
/-- Behind an append and the store of the row into its box. -/
theorem Coll.next {tS tE : TypeId} (hte : tS ≠ tE) {w0 : World} {R : Nat → Prop} {L : List Nat} {x : Nat} {Y : Nat → Prop} {A w1 : World} {v v' : Value} {tmp : Obj}
    (h : Coll tS tE w0 R L Y A v) (hB : w0.heap.size < A.heap.size) (hYR : ∀ k, Y k ∨ R k → k ≠ w0.heap.size ∧ k < A.heap.size)
    (ho : ON tE w1 w0.heap.size v' (L ++ [x])) (hg : (A.alloc tmp).grownBy w1 v.ownBlock) (hat : v'.ownBlock = v.ownBlock ∨ v'.ownBlock = some (A.alloc tmp).heap.size) :
    w1.cell? ⟨w0.heap.size, 0, none⟩ = some v ∧ w1.frozen? ⟨w0.heap.size, 0, none⟩ = false ∧ Coll tS tE w0 R (L ++ [x]) Y (w1.setCell ⟨w0.heap.size, 0, none⟩ v') v' ∧ Held (fun k => Y k ∨ R k) A (w1.setCell ⟨w0.heap.size, 0, none⟩ v') := by
  obtain ⟨q1, q2, q3, _, q5⟩ := Boxed.appended h.box hte h.own (by omega) (Nat.le_refl _) ho hg
  refine ⟨q1.cell, q1.frozen, ⟨q2, q3, fun g hgv hz => ?_, Below.trans h.kp (q5.mono (Nat.le_refl _))⟩, ⟨?_, fun k hk hr => ?_⟩⟩
  · rcases hat with e | e
    · exact h.apt g (e ▸ hgv) hz
    · have h5 := hYR g hz
      rw [e] at hgv
      simp at hgv
      omega
  · have := q5.size; omega
  · have h5 := hYR k hr
    refine (Below.heap_setCell w1 _ _ k (fun e => h5.1 (by simpa using e))).trans ((hg.block k (by simp; omega) (fun e => ?_)).trans (Below.heap_alloc A _ k hk))
    exact h.apt k e.symm hr
/-- Two can come up. -/
theorem AnyIf.two {F : Fence} {n : Nat} {P : Program} {ops : Array Oper} {Q : Exit → Act → World → Prop} {md : Region.Mode} {S : World → Prop} (i j : Nat) {o u : Oper} {fuel : Nat} {listed : Array Bool} {a : Act} {w : World} (hi : ops[i]? = some o) (hj : ops[j]? = some u) (hr : Region.ready md ops listed = [i, j])
    (h1 : ∀ K : Act → World → Prop, (∀ a' w', S w' → AnyIf F n P md ops Q S fuel (listed.setIfInBounds i true) a' w' → K a' w') → if Region.wanted o (yielded ops a.tmps) = true then Oper.wpIn F n P o a w K Q else (∀ f, o.about P w a.eval = some f → F.fn f) ∧ K (a.put o.dst undef) w)
    (h2 : ∀ K : Act → World → Prop, (∀ a' w', S w' → AnyIf F n P md ops Q S fuel (listed.setIfInBounds j true) a' w' → K a' w') → if Region.wanted u (yielded ops a.tmps) = true then Oper.wpIn F n P u a w K Q else (∀ f, u.about P w a.eval = some f → F.fn f) ∧ K (a.put u.dst undef) w) :
    AnyIf F n P md ops Q S (fuel + 1) listed a w := by
  refine ⟨fun h0 => (by rw [h0] at hr; cases hr), fun k hk => ?_⟩
  rw [hr] at hk
  have hk2 : k = i ∨ k = j := by simpa using hk
  rcases hk2 with rfl | rfl
  · exact wpOpIn_step hi (fun K' hK => h1 K' (fun a' w' hs hw => hK a' w' ⟨hs, hw⟩))
  · exact wpOpIn_step hj (fun K' hK => h2 K' (fun a' w' hs hw => hK a' w' ⟨hs, hw⟩))
/-- append of one number to the collected row, at the operation; the store of the row is still to come. -/
theorem wpIn_append_coll {F : Fence} {n : Nat} {P : Program} {tS tE : TypeId} (S : S1 P tS tE) (hte : tS ≠ tE) {o : Oper} {a : Act} {Kq : Act → World → Prop} {Q : Exit → Act → World → Prop} {w0 : World} {R : Nat → Prop} {L : List Nat} {Y : Nat → Prop} {A : World} {v : Value} (s y : Operand) (x : Nat)
    (ho : o.op = .call { callee := .builtin .append, args := #[s, y], argTypes := #[tS, tS] }) (hs : a.eval s = v) (hc : Coll tS tE w0 R L Y A v) (hy : a.eval y = .slice (some ⟨A.heap.size, 0, none⟩) 1 1) (hL : L.length ≤ 1000)
    (hYR : ∀ k, Y k ∨ R k → k ≠ w0.heap.size ∧ k < A.heap.size)
    (hK : ∀ g c w1, w1.cell? ⟨w0.heap.size, 0, none⟩ = some v → w1.frozen? ⟨w0.heap.size, 0, none⟩ = false → Coll tS tE w0 R (L ++ [x]) Y (w1.setCell ⟨w0.heap.size, 0, none⟩ (.slice (some ⟨g, 0, none⟩) (L.length + 1) c)) (.slice (some ⟨g, 0, none⟩) (L.length + 1) c) →
      Held (fun k => Y k ∨ R k) A (w1.setCell ⟨w0.heap.size, 0, none⟩ (.slice (some ⟨g, 0, none⟩) (L.length + 1) c)) → Kq (a.put o.dst (.slice (some ⟨g, 0, none⟩) (L.length + 1) c)) w1) :
    Oper.wpIn F n P o a (A.alloc (.cells #[iv x] tE)) Kq Q := by
  obtain ⟨i, z, hi, hz, hsize, hby, hzc⟩ := S.hi
  have hAB : w0.heap.size < A.heap.size := hc.box.lt
  have hown := ON.kp hc.own ((Kp.refl A).alloc (.cells #[iv x] tE))
  unfold ON at hown
  rw [List.length_map] at hown
  obtain ⟨v', w1, hr, h2, h3, _, h5⟩ := run_append_own_at (P := P) _ w0.heap.size tS o.type tE i z 1 i.bytes S.ht hi hz hsize rfl hzc (by decide) v L.length (L.map iv) hown ⟨A.heap.size, 0, none⟩ 1 1 [iv x] rfl (cell_one_new A _ _) (by intro u hu; simp at hu; subst hu; rfl) (by unfold maxLen; omega) (by have := Nat.mul_le_mul (show L.length + 1 ≤ 1001 by omega) hby; omega) (by simp; omega)
  obtain ⟨g, c, rfl⟩ := ownsRow_succ h2
  obtain ⟨q1, q2, q3, q4⟩ := Coll.next hte hc hAB hYR (x := x) (by unfold ON; rw [List.map_append, List.length_append, List.length_map]; exact h2) h3 h5
  unfold Oper.wpIn
  refine ⟨by simp [Oper.about, ho, resolve, Target.leads, Sem.run_pure], ?_⟩
  rw [Oper.semAt_plain F _ _ (by rw [ho]; intro c hc'; cases hc')]
  simp [execOp, ho, resolve, invoke, builtin, hs, hy, hr, Result.andThen]
  exact hK _ _ _ q1 q2 q3 q4
theorem Coll.on {tS tE : TypeId} {w0 : World} {R : Nat → Prop} {L : List Nat} {Y : Nat → Prop} {A A' : World} {v : Value} (h : Coll tS tE w0 R L Y A v) (k : Kp A A') : Coll tS tE w0 R L Y A' v :=
  ⟨(k.block _ h.box.lt).trans h.box, ON.kp h.own k, h.apt, Below.trans h.kp (k.mono h.kp.size)⟩
theorem wpIn_append_collD {F : Fence} {n : Nat} {P : Program} {tS tE : TypeId} (S : S1 P tS tE) (hte : tS ≠ tE) {o : Oper} {a : Act} {Kq : Act → World → Prop} {Q : Exit → Act → World → Prop} {w0 : World} {R : Nat → Prop} {L : List Nat} {Y : Nat → Prop} {A : World} {v : Value} (s y : Operand) (x : Nat)
    (ho : o.op = .call { callee := .builtin .append, args := #[s, y], argTypes := #[tS, tS] }) (hc : Coll tS tE w0 R L Y A v) (hL : L.length ≤ 1000)
    (hYR : ∀ k, Y k ∨ R k → k ≠ w0.heap.size ∧ k < A.heap.size) (hs : a.eval s = v) (hy : a.eval y = .slice (some ⟨A.heap.size, 0, none⟩) 1 1)
    (hK : ∀ g c w1, w1.cell? ⟨w0.heap.size, 0, none⟩ = some v → w1.frozen? ⟨w0.heap.size, 0, none⟩ = false → Coll tS tE w0 R (L ++ [x]) Y (w1.setCell ⟨w0.heap.size, 0, none⟩ (.slice (some ⟨g, 0, none⟩) (L.length + 1) c)) (.slice (some ⟨g, 0, none⟩) (L.length + 1) c) →
      Held (fun k => Y k ∨ R k) A.drew (w1.setCell ⟨w0.heap.size, 0, none⟩ (.slice (some ⟨g, 0, none⟩) (L.length + 1) c)) → Kq (a.put o.dst (.slice (some ⟨g, 0, none⟩) (L.length + 1) c)) w1) :
    Oper.wpIn F n P o a (A.alloc (.cells #[.int .i64 (x : Int)] tE)).drew Kq Q :=
  wpIn_append_coll S hte s y x ho hs (hc.on (Kp.refl A).drew) hy hL hYR hK
end Go.Proofs.YtobldbodafaajaaGreatDoor

import Derived.Test.YtigpgcjbpoaclaaDoorC3
set_option linter.unusedVariables false
set_option linter.unusedSimpArgs false
namespace Go.Proofs.YtigpgcjbpoaclaaDoor
open Go.RowKit
structure Step (Y : Nat → Prop) (A B : World) : Prop where
  os : B.os = A.os
  tape : B.tape = A.tape
  output : B.output = A.output
  size : A.heap.size ≤ B.heap.size
  block : ∀ k, k < A.heap.size → ¬ Y k → B.heap[k]? = A.heap[k]?
theorem Step.refl (Y : Nat → Prop) (A : World) : Step Y A A := ⟨rfl, rfl, rfl, Nat.le_refl _, fun _ _ _ => rfl⟩
theorem Step.mono {Y Z : Nat → Prop} {A B : World} (h : Step Y A B) (hz : ∀ k, Y k → Z k) : Step Z A B := ⟨h.os, h.tape, h.output, h.size, fun k hk hy => h.block k hk (fun e => hy (hz k e))⟩
theorem Step.of_kp {Y : Nat → Prop} {A B : World} (h : Kp A B) : Step Y A B := ⟨h.os, h.tape, h.output, h.size, fun k hk _ => h.block k hk⟩
theorem Step.below {Y : Nat → Prop} {A B : World} (h : Step Y A B) {n : Nat} (hn : n ≤ A.heap.size) (hY : ∀ k, Y k → n ≤ k) : Below n A B :=
  ⟨h.os, h.tape, h.output, h.size, fun k hk => h.block k (by omega) (fun e => by have := hY k e; omega)⟩
theorem Step.setCell {Y : Nat → Prop} {A B : World} (h : Step Y A B) (p : Addr) (v : Value) (hy : A.heap.size ≤ p.block ∨ Y p.block) : Step Y A (B.setCell p v) :=
  ⟨h.os, h.tape, h.output, by simpa using h.size, fun k hk hn => (Below.heap_setCell B p v k (fun e => by subst e; exact hy.elim (fun h1 => by omega) hn)).trans (h.block k hk hn)⟩
theorem Step.putObj {Y : Nat → Prop} {A B : World} (h : Step Y A B) (l : Nat) (o : Obj) (hy : A.heap.size ≤ l ∨ Y l) : Step Y A (B.putObj l o) :=
  ⟨h.os, h.tape, h.output, by simpa using h.size, fun k hk hn => (World.putObj_heap_other (fun e => by subst e; exact hy.elim (fun h1 => by omega) hn)).trans (h.block k hk hn)⟩
theorem Step.cell {Y : Nat → Prop} {A B : World} (h : Step Y A B) {p : Addr} {v : Value} (hv : A.cell? p = some v) (hy : ¬ Y p.block) : B.cell? p = some v :=
  (World.cell?_of_block (w := A) (h.block p.block (World.block_lt_of_cell? A p hv) hy)).trans hv
structure Held (R : Nat → Prop) (A B : World) : Prop where
  size : A.heap.size ≤ B.heap.size
  block : ∀ k, k < A.heap.size → R k → B.heap[k]? = A.heap[k]?
theorem Held.refl (R : Nat → Prop) (A : World) : Held R A A := ⟨Nat.le_refl _, fun _ _ _ => rfl⟩
theorem Held.trans {R : Nat → Prop} {A B C : World} (h : Held R A B) (k : Held R B C) : Held R A C :=
  ⟨Nat.le_trans h.size k.size, fun i hi hy => (k.block i (Nat.lt_of_lt_of_le hi h.size) hy).trans (h.block i hi hy)⟩
theorem Held.mono {R S : Nat → Prop} {A B : World} (h : Held R A B) (hs : ∀ k, S k → R k) : Held S A B := ⟨h.size, fun k hk hy => h.block k hk (hs k hy)⟩
theorem Held.of_step {Y R : Nat → Prop} {A B : World} (h : Step Y A B) (hd : ∀ k, R k → ¬ Y k) : Held R A B := ⟨h.size, fun k hk hr => h.block k hk (hd k hr)⟩
theorem Held.of_kp {R : Nat → Prop} {A B : World} (h : Kp A B) : Held R A B := ⟨h.size, fun k hk _ => h.block k hk⟩
theorem Held.cell {R : Nat → Prop} {A B : World} (h : Held R A B) {p : Addr} {v : Value} (hv : A.cell? p = some v) (hr : R p.block) : B.cell? p = some v :=
  (World.cell?_of_block (w := A) (h.block p.block (World.block_lt_of_cell? A p hv) hr)).trans hv
theorem Rd.turn {A B : World} {v : Value} {b : List UInt8} {l : Nat} {o : Obj} (h : Rd A v b) (hl : A.heap[l]? = some o) (ho : o.isCells = false) (hs : Step (fun k => k = l) A B) : Rd B v b := by
  obtain ⟨a, c, rfl, h1, h2, h3, h4⟩ := h
  refine ⟨a, c, rfl, h1, h2, h3, fun x hx i hi => ?_⟩
  have hc := h4 x hx i hi
  refine hs.cell hc (fun e => ?_)
  obtain ⟨o', ho', hc'⟩ := cells_of_cell hc
  rw [e, hl] at ho'
  cases ho'
  rw [ho] at hc'
  cases hc'
def Grew (Y Y' : Nat → Prop) (A B : World) : Prop := ∀ k, Y' k → Y k ∨ (A.heap.size ≤ k ∧ k < B.heap.size)
def Minds (B0 : Nat) (J : (Nat → Prop) → World → Prop) : Prop :=
  ∀ Y Y' A B, J Y A → (∀ k, Y k → B0 ≤ k ∧ k < A.heap.size) → Step Y A B → Grew Y Y' A B → J Y' B
def Hands (P : Program) (gf : Nat) (lb : Array Value) (T : Nat → Value → (Nat → Prop) → World → Prop) (N : Nat) (R : Nat → Prop) (w : World) : Prop :=
  ∀ (l : Nat) (J Jx : Nat → (Nat → Prop) → World → Prop) (W : World), Held R w W → w.heap.size ≤ l → l < W.heap.size →
    (∀ i, Minds W.heap.size (J i)) → (∀ i, Minds W.heap.size (Jx i)) →
    (∀ i Y A v m, i < N → J i Y A → (∀ k, Y k → W.heap.size ≤ k ∧ k < A.heap.size) → Held R w A → T i v Y A →
      YieldAt Fence.wide m P l #[v] A fun e B => Held (fun k => Y k ∨ R k) A B ∧ ((e = .returned (.bool true) ∧ J (i + 1) Y B) ∨ (e = .returned (.bool false) ∧ Jx i Y B))) →
    J 0 (fun _ => False) W →
    Calls P gf (#[.func (.yield l) #[] #[]] ++ lb) W fun e B => (∃ v, e = .returned v) ∧ ∃ Y, (∀ k, Y k → W.heap.size ≤ k ∧ k < B.heap.size) ∧ (J N Y B ∨ ∃ i, i < N ∧ Jx i Y B)
def leftBy : Exit → Option Code
  | .ret => some .ret
  | .exit id => some (.exit id)
  | .goto t => some (.goto t)
  | _ => none
theorem RoundIn.anyDepth {m m' : Nat} {P : Program} {l : Nat} {f : FuncId} {tmps : Array Value} {assign body : Code} {w : World} {R : Ending → World → Prop}
    (h : RoundIn Fence.wide m P l f tmps assign body w R) : RoundIn Fence.wide m' P l f tmps assign body w R := ⟨h.1, fun c cs _ => h.2 c cs (room_wide _)⟩
theorem YieldAt.anyDepth {m : Nat} (m' : Nat) {P : Program} {l : Nat} {args : Array Value} {W : World} {R : Ending → World → Prop} (h : YieldAt Fence.wide m P l args W R) : YieldAt Fence.wide m' P l args W R := by
  obtain ⟨fn, tmps, assign, body, hy, hR⟩ := h
  exact ⟨fn, tmps, assign, body, hy, RoundIn.anyDepth hR⟩
theorem size_putObj (w : World) (D : Nat) (o : Obj) : (w.putObj D o).heap.size = w.heap.size := by
  simp [World.putObj]
theorem wp_range_hands {P : Program} {g : Operand} {ps : Array Tmp} {assign body : Code} {Q : Exit → Act → World → Prop} {a : Act} {w : World}
    {gf : Nat} {lb : Array Value} (hg : a.eval g = .func (.func gf) #[] lb) (eg : ∀ args w, (callFunc gf args).run P w = .ok (.enter gf args) w)
    {T : Nat → Value → (Nat → Prop) → World → Prop} {N : Nat} {R : Nat → Prop} {w0 : World} (hk0 : Kp w0 w) (hR0 : ∀ k, R k → k < w0.heap.size) (hseq : Hands P gf lb T N R w0) (hps : ps.size = 1)
    (I : Nat → (Nat → Prop) → World → Prop) (Ix : Code → Nat → (Nat → Prop) → World → Prop)
    (hI : ∀ i, Minds w.heap.size (I i)) (hIx : ∀ c i, Minds w.heap.size (Ix c i))
    (hTT : ∀ i v Yi Y A B l o, T i v Yi A → (∀ k, Yi k → Y k) → (∀ k, Y k → Yi k ∨ ∃ o : Obj, A.heap[k]? = some o ∧ o.isCells = false) → w.heap.size ≤ l → A.heap[l]? = some (.loop o) → Step (fun k => k = l) A B → T i v Y B)
    (h0 : I 0 (fun _ => False) w) (Ax : Value → Act → World → Prop)
    (hAx : ∀ v a' A l o o', Ax v a' A → w.heap.size ≤ l → A.heap[l]? = some (.loop o) → Ax v a' (A.putObj l o'))
    (hassign : ∀ (l i : Nat) (Y Yi : Nat → Prop) (v : Value) (A : World) (K : Act → World → Prop), I i Y A → T i v Yi A → (∀ a' A', Kp A A' → Ax v a' A' → K a' A') →
      assign.wpIn (Fence.wide.inRound l) 4 P (Exit.then K (fun _ _ _ => False)) { tmps := (ps.zip #[v]).foldl (fun t (p, v) => t.setIfInBounds p v) a.tmps, defers := [] } A)
    (hbody : ∀ (l i : Nat) (Y : Nat → Prop) (v : Value) (a' : Act) (A : World), i < N → I i Y A → (∀ k, Y k → w.heap.size ≤ k ∧ k < A.heap.size) → Held R w A → T i v Y A → Ax v a' A →
      body.wpIn (Fence.wide.inRound l) 4 P (fun e _ B => Held (fun k => Y k ∨ R k) A B ∧ ((e = .normal ∧ I (i + 1) Y B) ∨ ∃ c, leftBy e = some c ∧ Ix c i Y B)) a' A)
    (hdone : ∀ (D : Nat) (Y : Nat → Prop) (W : World), w.heap.size ≤ D → Y D → (∀ k, Y k → w.heap.size ≤ k) → I N Y W → W.heap[D]? = some (.deferred (some [])) → Q .normal { a with defers := { target := .collected D, args := #[] } :: a.defers } W)
    (hstop : ∀ (D : Nat) (c : Code) (i : Nat) (Y : Nat → Prop) (W : World), w.heap.size ≤ D → Y D → (∀ k, Y k → w.heap.size ≤ k) → i < N → Ix c i Y W → W.heap[D]? = some (.deferred (some [])) → c.wp P Q { a with defers := { target := .collected D, args := #[] } :: a.defers } W) :
    (Code.rangeFunc g ps assign body).wp P Q a w := by
  have hR : ∀ k, R k → k < w.heap.size := fun k hk => Nat.lt_of_lt_of_le (hR0 k hk) hk0.size
  refine (wpIn_wide (n := 6)).1 (wpIn_rangeFunc ?_)
  intro fn hfn
  rw [show Fence.wide.round = none from rfl]
  let rec' : LoopState → Option Code → Loop := fun st pe => { state := st, pending := pe, fn, tmps := a.tmps, params := ps, assign, body, defers := w.heap.size }
  obtain ⟨W1, hW1⟩ : ∃ W1, (w.alloc (.deferred (some []))).alloc (.loop (rec' .ready none)) = W1 := ⟨_, rfl⟩
  have hD1 : W1.heap[w.heap.size]? = some (.deferred (some [])) := by
    rw [← hW1]
    exact (Below.heap_alloc _ _ _ (by simp)).trans (heap_alloc_new w _)
  have hL1 : W1.heap[w.heap.size + 1]? = some (.loop (rec' .ready none)) := by
    rw [← hW1]
    have := heap_alloc_new (w.alloc (.deferred (some []))) (.loop (rec' .ready none))
    rwa [World.size_alloc] at this
  have hs1 : W1.heap.size = w.heap.size + 2 := by rw [← hW1]; simp
  have hb1 : Kp w W1 := by rw [← hW1]; exact ((Kp.refl w).alloc _).alloc _
  let V : Nat → (Nat → Prop) → World → (Nat → Prop) → Prop := fun i Yi A Y => I i Y A ∧ (∀ k, Yi k → Y k) ∧ (∀ k, Y k → Yi k ∨ k = w.heap.size ∨ k = w.heap.size + 1) ∧ (∀ k, Y k → w.heap.size ≤ k ∧ k < A.heap.size) ∧ Y w.heap.size ∧ Y (w.heap.size + 1) ∧
    A.heap[w.heap.size]? = some (.deferred (some [])) ∧ A.heap[w.heap.size + 1]? = some (.loop (rec' .ready none))
  let Vx : Nat → (Nat → Prop) → World → (Nat → Prop) → Code → Prop := fun i Yi A Y c => Ix c i Y A ∧ (∀ k, Yi k → Y k) ∧ (∀ k, Y k → Yi k ∨ k = w.heap.size ∨ k = w.heap.size + 1) ∧ (∀ k, Y k → w.heap.size ≤ k ∧ k < A.heap.size) ∧ Y w.heap.size ∧ Y (w.heap.size + 1) ∧
    A.heap[w.heap.size]? = some (.deferred (some [])) ∧ A.heap[w.heap.size + 1]? = some (.loop (rec' .done (some c)))
  have hV : ∀ i, Minds W1.heap.size (fun Yi A => ∃ Y, V i Yi A Y) := by
    rintro i Yi Yi' A B ⟨Y, hi, hyy, hyn, hyb, hyD, hyL, hd, hl⟩ hYi hst hgr
    have hnD : ¬ Yi w.heap.size := fun e => by have := (hYi _ e).1; omega
    have hnL : ¬ Yi (w.heap.size + 1) := fun e => by have := (hYi _ e).1; omega
    have hDA := (hyb _ hyD).2
    have hLA := (hyb _ hyL).2
    refine ⟨fun k => Yi' k ∨ k = w.heap.size ∨ k = w.heap.size + 1, hI i Y _ A B hi hyb (hst.mono hyy) (fun k hk => ?_), fun k hk => .inl hk, fun k hk => hk, fun k hk => ?_, .inr (.inl rfl), .inr (.inr rfl), (hst.block _ hDA hnD).trans hd, (hst.block _ hLA hnL).trans hl⟩
    · rcases hk with hk | rfl | rfl
      · exact (hgr k hk).imp (hyy k) id
      · exact .inl hyD
      · exact .inl hyL
    · have := hst.size
      rcases hk with hk | rfl | rfl
      · rcases hgr k hk with h | h
        · have := hyb k (hyy k h); omega
        · have := hyb _ hyD; omega
      · omega
      · omega
  have hVx : ∀ i, Minds W1.heap.size (fun Yi A => ∃ Y c, Vx i Yi A Y c) := by
    rintro i Yi Yi' A B ⟨Y, c, hi, hyy, hyn, hyb, hyD, hyL, hd, hl⟩ hYi hst hgr
    have hnD : ¬ Yi w.heap.size := fun e => by have := (hYi _ e).1; omega
    have hnL : ¬ Yi (w.heap.size + 1) := fun e => by have := (hYi _ e).1; omega
    have hDA := (hyb _ hyD).2
    have hLA := (hyb _ hyL).2
    refine ⟨fun k => Yi' k ∨ k = w.heap.size ∨ k = w.heap.size + 1, c, hIx c i Y _ A B hi hyb (hst.mono hyy) (fun k hk => ?_), fun k hk => .inl hk, fun k hk => hk, fun k hk => ?_, .inr (.inl rfl), .inr (.inr rfl), (hst.block _ hDA hnD).trans hd, (hst.block _ hLA hnL).trans hl⟩
    · rcases hk with hk | rfl | rfl
      · exact (hgr k hk).imp (hyy k) id
      · exact .inl hyD
      · exact .inl hyL
    · have := hst.size
      rcases hk with hk | rfl | rfl
      · rcases hgr k hk with h | h
        · have := hyb k (hyy k h); omega
        · have := hyb _ hyD; omega
      · omega
      · omega
  refine ⟨w.heap.size + 1, [{ target := .collected w.heap.size, args := #[] }], W1, { target := .fn (.func gf) lb, args := #[.func (.yield (w.heap.size + 1)) #[] #[]] }, W1, gf,
    #[.func (.yield (w.heap.size + 1)) #[] #[]] ++ lb, W1, ?_, ?_, ?_, ?_, fun _ => by omega, ?_⟩
  · rw [← hW1]; exact run_enterLoop_outer _ _ _ _ _
  · simp only [resolve, hg]
    simp [go_sem]
  · intro f' hf'
    trivial
  · simp [invoke, go_sem, eg]
  · refine callsIn_wide.2 ((hseq (w.heap.size + 1) (fun i Yi A => ∃ Y, V i Yi A Y) (fun i Yi A => ∃ Y c, Vx i Yi A Y c) W1 (Held.of_kp (hk0.trans hb1)) (by have := hk0.size; omega) (by omega) hV hVx ?_
      ⟨fun k => k = w.heap.size ∨ k = w.heap.size + 1, hI 0 _ _ w W1 h0 (fun k hk => hk.elim) (Step.of_kp hb1) (fun k hk => .inr (by rcases hk with rfl | rfl <;> omega)), fun k hk => hk.elim, fun k hk => .inr hk, fun k hk => by rcases hk with rfl | rfl <;> omega, .inl rfl, .inr rfl, hD1, hL1⟩).mono ?_)
    · rintro i Yi A v m hi ⟨Y, hIA, hyy, hyn, hyb, hyD, hyL, hd, hl⟩ hYi hRA0 hT
      have hRA : Held R w A := ⟨by have := (hyb _ hyL).2; omega, fun k _ hr => (hRA0.block k (hR0 k hr) hr).trans (hk0.block k (hR0 k hr)).symm⟩
      have hlt : w.heap.size + 1 < A.heap.size := (hyb _ hyL).2
      have hy := run_yield (P := P) (args := #[v]) hl (by show (#[v] : Array Value).size = ps.size; rw [hps]; rfl)
      have hTY : ∀ B, Step (fun k => k = w.heap.size + 1) A B → T i v Y B := fun B hB => hTT i v Yi Y A B _ _ hT hyy (fun k hk => (hyn k hk).imp id (fun h => h.elim (fun e => ⟨_, e ▸ hd, rfl⟩) (fun e => ⟨_, e ▸ hl, rfl⟩))) (by omega) hl hB
      have hRl : ∀ k, R k → k ≠ w.heap.size + 1 := fun k hk => by have := hR k hk; omega
      refine YieldAt.anyDepth m (m := 4) ⟨fn, _, assign, body, hy, roundIn_of_wpIn hfn (hassign _ i Y Yi v A _ hIA hT ?_)⟩
      intro a' A1 hk1 hax
      have hl1 := (hk1.block _ hlt).trans hl
      have hd1 := (hk1.block _ (hyb _ hyD).2).trans hd
      refine ⟨_, run_beginRound hl1 rfl, ?_⟩
      have hlt1 : w.heap.size + 1 < A1.heap.size := (Array.getElem?_eq_some_iff.1 hl1).1
      obtain ⟨A2, hA2⟩ : ∃ A2, A1.putObj (w.heap.size + 1) (.loop { rec' .ready none with state := .busy }) = A2 := ⟨_, rfl⟩
      rw [hA2]
      have hst0 : Step (fun k => k = w.heap.size + 1) A A2 := by rw [← hA2]; exact (Step.of_kp hk1).putObj _ _ (.inr rfl)
      have hst : Step Y A A2 := by rw [← hA2]; exact (Step.of_kp hk1).putObj _ _ (.inr hyL)
      have hl2 : A2.heap[w.heap.size + 1]? = some (.loop { rec' .ready none with state := .busy }) := by rw [← hA2]; exact World.putObj_heap_same hlt1
      have hd2 : A2.heap[w.heap.size]? = some (.deferred (some [])) := by rw [← hA2]; exact (World.putObj_heap_other (by omega)).trans hd1
      have hax2 : Ax v a' A2 := by rw [← hA2]; exact hAx v a' A1 _ _ _ hax (by omega) hl1
      have hyb2 : ∀ k, Y k → w.heap.size ≤ k ∧ k < A2.heap.size := fun k hk => ⟨(hyb k hk).1, Nat.lt_of_lt_of_le (hyb k hk).2 hst.size⟩
      have hI2 := hI i Y Y A A2 hIA hyb hst (fun k hk => .inl hk)
      have hRA2 : Held R w A2 := (hRA.trans (Held.of_step hst (fun k hk hy => by have := hR k hk; have := (hyb k hy).1; omega)))
      refine wpIn_mono (hbody _ i Y v a' A2 hi hI2 hyb2 hRA2 (hTY A2 hst0) hax2) ?_
      have fin : ∀ (jump : Option Code) (B : World), Held (fun k => Y k ∨ R k) A2 B → ∃ B', (Instr.endRound (w.heap.size + 1) jump).run P B = .ok (.bool jump.isNone) B' ∧
          B'.heap[w.heap.size + 1]? = some (.loop (rec' (if jump.isNone then .ready else .done) jump)) ∧ B'.heap[w.heap.size]? = some (.deferred (some [])) ∧ Step Y B B' ∧ (∀ k, Y k → w.heap.size ≤ k ∧ k < B.heap.size) ∧ Held (fun k => Yi k ∨ R k) A B' := fun jump B hh => by
        have hl3 := (hh.block _ (hyb2 _ hyL).2 (.inl hyL)).trans hl2
        have hd3 := (hh.block _ (hyb2 _ hyD).2 (.inl hyD)).trans hd2
        have hlt3 : w.heap.size + 1 < B.heap.size := (Array.getElem?_eq_some_iff.1 hl3).1
        have hnL : ∀ k, Yi k ∨ R k → k ≠ w.heap.size + 1 := fun k hk => by
          rcases hk with h | h
          · have := (hYi _ h).1; omega
          · exact hRl k h
        refine ⟨_, run_endRound (P := P) jump hl3, World.putObj_heap_same hlt3, (World.putObj_heap_other (by omega)).trans hd3, (Step.refl Y B).putObj _ _ (.inr hyL), fun k hk => ⟨(hyb k hk).1, Nat.lt_of_lt_of_le (hyb2 k hk).2 hh.size⟩, ⟨?_, fun k hk hr => ?_⟩⟩
        · rw [size_putObj]; exact Nat.le_trans hst.size hh.size
        · have e1 : A2.heap[k]? = A.heap[k]? := by
            rw [← hA2]
            exact (World.putObj_heap_other (hnL k hr)).trans (hk1.block k hk)
          refine (World.putObj_heap_other (hnL k hr)).trans ((hh.block k (Nat.lt_of_lt_of_le hk hst.size) ?_).trans e1)
          exact hr.elim (fun h => .inl (hyy k h)) .inr
      have out : ∀ (jump : Option Code) (B B' : World), Step Y B B' → (∀ k, Y k → w.heap.size ≤ k ∧ k < B.heap.size) → (∀ k, Y k → w.heap.size ≤ k ∧ k < B'.heap.size) := fun _ B B' h hy k hk => ⟨(hy k hk).1, Nat.lt_of_lt_of_le (hy k hk).2 h.size⟩
      rintro e a3 B ⟨hh, hp⟩
      have go : ∀ c, leftBy e = some c → Ix c i Y B → ∃ v B', (Instr.endRound (w.heap.size + 1) (some c)).run P B = .ok v B' ∧
          (Held (fun k => Yi k ∨ R k) A B' ∧ ((Ending.returned v = .returned (.bool true) ∧ ∃ Y, V (i + 1) Yi B' Y) ∨ (Ending.returned v = .returned (.bool false) ∧ ∃ Y c, Vx i Yi B' Y c))) := fun c hc hx => by
        obtain ⟨B', hr, hl3, hd3, hs3, hy3, hh3⟩ := fin (some c) B hh
        exact ⟨_, B', hr, hh3, .inr ⟨rfl, Y, c, hIx c i Y Y B B' hx hy3 hs3 (fun k hk => .inl hk), hyy, hyn, out none B B' hs3 hy3, hyD, hyL, hd3, hl3⟩⟩
      cases e with
      | normal =>
        rcases hp with ⟨_, hi3⟩ | ⟨c, hc, _⟩
        · obtain ⟨B', hr, hl3, hd3, hs3, hy3, hh3⟩ := fin none B hh
          exact ⟨_, B', hr, hh3, .inl ⟨rfl, Y, hI (i + 1) Y Y B B' hi3 hy3 hs3 (fun k hk => .inl hk), hyy, hyn, out none B B' hs3 hy3, hyD, hyL, hd3, hl3⟩⟩
        · cases hc
      | ret =>
        rcases hp with ⟨h, _⟩ | ⟨c, hc, hx⟩
        · cases h
        · cases hc; exact go _ rfl hx
      | exit id =>
        rcases hp with ⟨h, _⟩ | ⟨c, hc, hx⟩
        · cases h
        · cases hc; exact go _ rfl hx
      | goto t =>
        rcases hp with ⟨h, _⟩ | ⟨c, hc, hx⟩
        · cases h
        · cases hc; exact go _ rfl hx
      | panic ch =>
        rcases hp with ⟨h, _⟩ | ⟨c, hc, _⟩
        · cases h
        · cases hc
      | outgrown =>
        rcases hp with ⟨h, _⟩ | ⟨c, hc, _⟩
        · cases h
        · cases hc
    · rintro e W2 ⟨⟨v, rfl⟩, Yi, hYi, (⟨Y, hi, hyy, hyn, hyb, hyD, hyL, hd, hl⟩ | ⟨i, hin, Y, c, hi, hyy, hyn, hyb, hyD, hyL, hd, hl⟩)⟩
      · have hlt : w.heap.size + 1 < W2.heap.size := (hyb _ hyL).2
        have hend : (Instr.endLoop (w.heap.size + 1)).run P W2 = .ok none (W2.putObj (w.heap.size + 1) (.loop (rec' .exhausted none))) := run_endLoop (P := P) hl (by simp [rec'])
        refine ⟨none, _, hend, hdone _ Y _ (Nat.le_refl _) hyD (fun k hk => (hyb k hk).1) (hI N Y Y W2 _ hi hyb ((Step.refl _ _).putObj _ _ (.inr hyL)) (fun k hk => .inl hk)) ((World.putObj_heap_other (by omega)).trans hd)⟩
      · have hlt : w.heap.size + 1 < W2.heap.size := (hyb _ hyL).2
        have hend : (Instr.endLoop (w.heap.size + 1)).run P W2 = .ok (some c) (W2.putObj (w.heap.size + 1) (.loop (rec' .exhausted (some c)))) := run_endLoop (P := P) hl (by simp [rec'])
        exact ⟨some c, _, hend, wpIn_wide.2 (hstop _ c i Y _ (Nat.le_refl _) hyD (fun k hk => (hyb k hk).1) hin (hIx c i Y Y W2 _ hi hyb ((Step.refl _ _).putObj _ _ (.inr hyL)) (fun k hk => .inl hk)) ((World.putObj_heap_other (by omega)).trans hd))⟩
end Go.Proofs.YtigpgcjbpoaclaaDoor

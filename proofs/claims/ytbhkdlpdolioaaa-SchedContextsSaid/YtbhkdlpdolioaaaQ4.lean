import Derived.Test.YtbhkdlpdolioaaaQ3
import Derived.RangeFuncNested
import Derived.RangeFuncBound
import Derived.RangeFuncCalls
import Derived.RangeFuncLeaves
import Derived.RangeFuncFrom
import Derived.Shelf.Abstract
import Derived.Shelf.RegionOpen
import Derived.OwnWalkIn
import Derived.TacticsInMore
import Derived.LoopNIn
import Derived.LoopIn
set_option linter.unusedVariables false
set_option linter.unusedSimpArgs false
namespace Go.Proofs.Ytbhkdlpdolioaaa
open Go.RowKit
structure Same (X : Nat → Prop) (A B : World) : Prop where
 size : A.heap.size ≤ B.heap.size
 block : ∀ k, k < A.heap.size → ¬ X k → B.heap[k]? = A.heap[k]?
theorem Same.refl (X : Nat → Prop) (A : World) : Same X A A := ⟨Nat.le_refl _, fun _ _ _ => rfl⟩
theorem Same.trans {X : Nat → Prop} {A B C : World} (h : Same X A B) (k : Same X B C) : Same X A C :=
 ⟨Nat.le_trans h.size k.size, fun i hi hx => (k.block i (Nat.lt_of_lt_of_le hi h.size) hx).trans (h.block i hi hx)⟩
theorem Same.of_kp {X : Nat → Prop} {A B : World} (h : Kp A B) : Same X A B := ⟨h.size, fun k hk _ => h.block k hk⟩
theorem Same.setCell {X : Nat → Prop} {A B : World} (h : Same X A B) (p : Addr) (v : Value) (hx : X p.block) : Same X A (B.setCell p v) :=
 ⟨by simpa using h.size, fun k hk hn => (Below.heap_setCell B p v k (fun e => hn (e ▸ hx))).trans (h.block k hk hn)⟩
theorem Same.mono {X Y : Nat → Prop} {A B : World} (h : Same X A B) (hxy : ∀ k, X k → Y k) : Same Y A B := ⟨h.size, fun k hk hn => h.block k hk (fun hx => hn (hxy k hx))⟩
theorem Same.drew {X : Nat → Prop} {A B : World} (h : Same X A B) : Same X A B.drew := ⟨h.size, h.block⟩
theorem Same.drewN {X : Nat → Prop} {A B : World} (h : Same X A B) (n : Nat) : Same X A (B.drewN n) := h.trans (Same.of_kp ((Kp.refl B).drewN n))
theorem aaQ {B D : Nat} {a W : World} (h : Below B a W) (hD : B ≤ D) (hB : B ≤ W.heap.size) (o : Obj) : Below B a (W.putObj D o) :=
 Below.grown h (grownBy_putObj' W D o) hB (fun k e => by cases e; exact hD)
section
variable {F : Fence} {n : Nat} {P : Program}
def adr (F : Fence) (m : Nat) (P : Program) (gf : Nat) (lb : Array Value) (encs : Nat → Array Value) (N : Nat) (X : Nat → Prop) (w : World) : Prop :=
 ∀ (l : Nat) (J : Nat → World → Prop) (W : World), Below w.heap.size w W → w.heap.size ≤ l → l < W.heap.size → (∀ i A B, J i A → Below W.heap.size A B → J i B) →
  (∀ i A, i < N → J i A → YieldAt F (m - 1) P l (encs i) A fun e B => e = .returned (.bool true) ∧ J (i + 1) B ∧ Same (fun k => k = l ∨ X k) A B) →
  J 0 W → CallsIn F m P gf (#[.func (.yield l) #[] #[]] ++ lb) W fun e B => (∃ v, e = .returned v) ∧ J N B
theorem aaF {g : Operand} {ps : Array Tmp} {assign body : Code} {Q : Exit → Act → World → Prop} {a : Act} {w : World}
  (hro : F.round = none) (h1 : 1 ≤ n) {gf : Nat} {lb : Array Value} (hg : a.eval g = .func (.func gf) #[] lb) (hFg : F.fn gf) (eg : ∀ args w, (callFunc gf args).run P w = .ok (.enter gf args) w)
  {encs : Nat → Array Value} {N : Nat} {X : Nat → Prop} (hX : ∀ k, X k → k < w.heap.size) (hit : adr F (n - 1) P gf lb encs N X w) (hps : ∀ i, (encs i).size = ps.size)
  (I : Nat → World → Prop) (hI : ∀ i A B, I i A → Below w.heap.size A B → I i B) (h0 : I 0 w) (a₁ : Nat → Act)
  (hassign : ∀ (l : Nat) (i : Nat) (W : World) (K : Act → World → Prop), K (a₁ i) W →
   assign.wpIn (F.inRound l) (n - 1 - 1) P (Exit.then K (fun _ _ _ => False)) { tmps := (ps.zip (encs i)).foldl (fun t (p, v) => t.setIfInBounds p v) a.tmps, defers := [] } W)
  (hbody : ∀ (l : Nat) (i : Nat) (W : World), I i W → i < N → body.wpIn (F.inRound l) (n - 1 - 1) P (fun e _ W' => e = .normal ∧ Same X W W' ∧ I (i + 1) W') (a₁ i) W)
  (hdone : ∀ (D : Nat) (W : World), w.heap.size ≤ D → I N W → W.heap[D]? = some (.deferred (some [])) → Q .normal { a with defers := { target := .collected D, args := #[] } :: a.defers } W) :
  (Code.rangeFunc g ps assign body).wpIn F n P Q a w := by
 refine wpIn_rangeFunc ?_;intro fn hfn;rw [hro];let rec' : LoopState → Loop := fun st => { state := st, pending := none, fn, tmps := a.tmps, params := ps, assign, body, defers := w.heap.size }
 obtain ⟨W1, hW1⟩ : ∃ W1, (w.alloc (.deferred (some []))).alloc (.loop (rec' .ready)) = W1 := ⟨_, rfl⟩;have hD1 : W1.heap[w.heap.size]? = some (.deferred (some [])) := by
  rw [← hW1];exact (Below.heap_alloc _ _ _ (by simp)).trans (heap_alloc_new w _)
 have hL1 : W1.heap[w.heap.size + 1]? = some (.loop (rec' .ready)) := by
  rw [← hW1];have := heap_alloc_new (w.alloc (.deferred (some []))) (.loop (rec' .ready));rwa [World.size_alloc] at this
 have hs1 : W1.heap.size = w.heap.size + 2 := by rw [← hW1]; simp
 have hb1 : Below w.heap.size w W1 := by rw [← hW1]; exact ((Below.refl _ w).alloc (Nat.le_refl _) _).alloc (by simp) _
 have turn : ∀ (B : World) (o : Obj), w.heap.size + 1 < B.heap.size → Below w.heap.size B (B.putObj (w.heap.size + 1) o) ∧ (B.putObj (w.heap.size + 1) o).heap[w.heap.size]? = B.heap[w.heap.size]? := fun B o hlt =>
  ⟨Below.grown (Below.refl _ B) (grownBy_putObj' B (w.heap.size + 1) o) (by omega) (fun k e => by cases e; omega), World.putObj_heap_other (by omega)⟩
 refine ⟨w.heap.size + 1, [{ target := .collected w.heap.size, args := #[] }], W1, { target := .fn (.func gf) lb, args := #[.func (.yield (w.heap.size + 1)) #[] #[]] }, W1, gf,
  #[.func (.yield (w.heap.size + 1)) #[] #[]] ++ lb, W1, ?_, ?_, ?_, ?_, fun _ => h1, ?_⟩
 ·rw [← hW1]; exact run_enterLoop_outer _ _ _ _ _
 ·simp only [resolve, hg]
  simp [go_sem]
 ·intro f' hf'
  simp [Target.leads] at hf';subst hf';exact hFg
 ·simp [invoke, go_sem, eg]
 ·refine (hit (w.heap.size + 1) (fun i W => I i W ∧ W.heap[w.heap.size + 1]? = some (.loop (rec' .ready)) ∧ W.heap[w.heap.size]? = some (.deferred (some []))) W1 hb1 (by omega) (by omega)
   (fun i A B h hb => ⟨hI i A B h.1 (hb.mono (by omega)), (hb.block _ (by omega)).trans h.2.1, (hb.block _ (by omega)).trans h.2.2⟩) ?_ ⟨hI 0 _ _ h0 hb1, hL1, hD1⟩).mono ?_
  ·rintro i A hi ⟨hIA, hl, hd⟩
   have hlt : w.heap.size + 1 < A.heap.size := (Array.getElem?_eq_some_iff.1 hl).1;have hy := run_yield (P := P) (args := encs i) hl (hps i);have hbr : (Instr.beginRound (w.heap.size + 1)).run P A = .ok () (A.putObj (w.heap.size + 1) (.loop (rec' .busy))) := run_beginRound hl rfl;refine ⟨fn, _, assign, body, hy, roundIn_of_wpIn hfn (hassign _ i A _ ⟨_, hbr, ?_⟩)⟩;obtain ⟨hb2, hd2⟩ := turn A (.loop (rec' .busy)) hlt;have hl2 : (A.putObj (w.heap.size + 1) (.loop (rec' .busy))).heap[w.heap.size + 1]? = some (.loop (rec' .busy)) := World.putObj_heap_same hlt;refine wpIn_mono (hbody _ i _ (hI i _ _ hIA hb2) hi) ?_;rintro e a3 W3 ⟨rfl, hs3, hI3⟩;have hlt2 : w.heap.size + 1 < (A.putObj (w.heap.size + 1) (.loop (rec' .busy))).heap.size := (Array.getElem?_eq_some_iff.1 hl2).1;have hl3 := (hs3.block (w.heap.size + 1) hlt2 (fun hx => by have := hX _ hx; omega)).trans hl2;have hd3 := (hs3.block w.heap.size (by omega) (fun hx => by have := hX _ hx; omega)).trans (hd2.trans hd);have hlt3 : w.heap.size + 1 < W3.heap.size := (Array.getElem?_eq_some_iff.1 hl3).1;obtain ⟨hb4, hd4⟩ := turn W3 (.loop (rec' .ready)) hlt3;have her : (Instr.endRound (w.heap.size + 1) none).run P W3 = .ok (.bool true) (W3.putObj (w.heap.size + 1) (.loop (rec' .ready))) := run_endRound (P := P) none hl3;refine ⟨_, _, her, rfl, ⟨hI _ _ _ hI3 hb4, World.putObj_heap_same hlt3, hd4.trans hd3⟩, ?_⟩;have s1 : Same (fun k => k = w.heap.size + 1 ∨ X k) A (A.putObj (w.heap.size + 1) (.loop (rec' .busy))) :=
    ⟨hb2.size, fun k _ hn => World.putObj_heap_other (fun e => hn (.inl e))⟩
   have s3 : Same (fun k => k = w.heap.size + 1 ∨ X k) W3 (W3.putObj (w.heap.size + 1) (.loop (rec' .ready))) :=
    ⟨hb4.size, fun k _ hn => World.putObj_heap_other (fun e => hn (.inl e))⟩
   exact (s1.trans (hs3.mono (fun _ h => .inr h))).trans s3
  ·rintro e W2 ⟨⟨v, rfl⟩, hI2, hl, hd⟩
   have hlt : w.heap.size + 1 < W2.heap.size := (Array.getElem?_eq_some_iff.1 hl).1;have hend : (Instr.endLoop (w.heap.size + 1)).run P W2 = .ok none (W2.putObj (w.heap.size + 1) (.loop (rec' .exhausted))) := run_endLoop (P := P) hl (by simp [rec']);obtain ⟨hb4, hd4⟩ := turn W2 (.loop (rec' .exhausted)) hlt;exact ⟨none, _, hend, hdone _ _ (Nat.le_refl _) (hI _ _ _ hI2 hb4) (hd4.trans hd)⟩
end
def Bx (w : World) (b : Nat) (T : TypeId) (cs : Array Value) : Prop := w.heap[b]? = some (.cells cs T (0, 0))
theorem Bx.kp {w w' : World} {b : Nat} {T : TypeId} {cs : Array Value} (h : Bx w b T cs) (k : Kp w w') : Bx w' b T cs :=
 (Below.block k b (Array.getElem?_eq_some_iff.1 h).1).trans h
theorem Bx.cell {w : World} {b : Nat} {T : TypeId} {cs : Array Value} (h : Bx w b T cs) (j : Nat) : w.cell? ⟨b, j, none⟩ = cs[j]? := cell_of_row w b j cs T (0, 0) h
theorem Bx.frozen {w : World} {b : Nat} {T : TypeId} {cs : Array Value} (h : Bx w b T cs) (j : Nat) : w.frozen? ⟨b, j, none⟩ = false := frozen_of_row w b j cs T h
theorem Bx.new (w : World) (T : TypeId) (cs : Array Value) : Bx (w.alloc (.cells cs T)) w.heap.size T cs := heap_alloc_new w _
theorem Bx.set {w : World} {b : Nat} {T : TypeId} {cs : Array Value} (h : Bx w b T cs) (j : Nat) (v : Value) : Bx (w.setCell ⟨b, j, none⟩ v) b T (cs.setIfInBounds j v) := heap_setCell_same w b j cs T v h
theorem Kp.setNew {w w' : World} (h : Kp w w') {b j : Nat} (hb : w.heap.size ≤ b) (v : Value) : Kp w (w'.setCell ⟨b, j, none⟩ v) := Below.setCell h hb v
theorem Bx.setCells {b : Nat} {T : TypeId} : ∀ (vs : List Value) (o : Nat) (w : World) (cs : Array Value), Bx w b T cs → o + vs.length ≤ cs.size →
    ∃ cs' : Array Value, Bx (w.setCells b o vs) b T cs' ∧ cs'.size = cs.size ∧ ∀ k, cs'[k]? = if o ≤ k ∧ k < o + vs.length then vs[k - o]? else cs[k]?
  | [], o, w, cs, h, _ => ⟨cs, h, rfl, fun k => by rw [if_neg (by simp only [List.length_nil]; omega)]⟩
  | v :: vs, o, w, cs, h, hl => by
    simp only [List.length_cons] at hl
    obtain ⟨cs', h2, h3, h4⟩ := Bx.setCells vs (o + 1) (w.setCell ⟨b, o, none⟩ v) (cs.setIfInBounds o v) (h.set o v) (by rw [Array.size_setIfInBounds]; omega)
    refine ⟨cs', h2, by rw [h3, Array.size_setIfInBounds], fun k => ?_⟩
    rw [h4 k]
    simp only [List.length_cons]
    by_cases h5 : o + 1 ≤ k ∧ k < o + 1 + vs.length
    · rw [if_pos h5, if_pos ⟨by omega, by omega⟩, show k - o = (k - (o + 1)) + 1 by omega, List.getElem?_cons_succ]
    · rw [if_neg h5, Array.getElem?_setIfInBounds]
      by_cases h6 : o = k
      · subst h6
        rw [if_pos rfl, if_pos (by omega), if_pos ⟨by omega, by omega⟩, Nat.sub_self]
        rfl
      · rw [if_neg h6, if_neg (by omega)]
theorem Bx.fill {w : World} {b : Nat} {T : TypeId} {cs : Array Value} (h : Bx w b T cs) (vs : Array Value) (hl : vs.size = cs.size) : Bx (w.setCells b 0 vs.toList) b T vs := by
 obtain ⟨cs', h1, h2, h3⟩ := Bx.setCells vs.toList 0 w cs h (by rw [Array.length_toList]; omega);have e : cs' = vs := by
  refine Array.ext_getElem? fun k => ?_
  rw [h3 k, Array.length_toList];split
  ·rw [Nat.sub_zero, Array.getElem?_toList]
  ·next hk => rw [Array.getElem?_eq_none (by omega), Array.getElem?_eq_none (by omega)]
 exact e ▸ h1
theorem Bx.there {w : World} {b : Nat} {T : TypeId} {cs : Array Value} (h : Bx w b T cs) : w.there b 0 cs.size := fun j hj => by
 rw [Nat.zero_add, h.cell j];exact ⟨by simp [hj], h.frozen j⟩
theorem Kp.setCells {w w' : World} (h : Kp w w') {b : Nat} (hb : w.heap.size ≤ b) : ∀ (vs : List Value) (o : Nat), Kp w (w'.setCells b o vs) := by
 intro vs
 induction vs generalizing w' with
 | nil => intro o; exact h
 | cons v vs ih => intro o; exact ih (h.setNew hb v) (o + 1)
theorem ae4 (w : World) (g o : Nat) : ∀ (vs : List Value) (o : Nat), w.grownBy (w.setCells g o vs) (some g) := by
  intro vs
  induction vs generalizing w with
  | nil => exact fun o => ⟨rfl, rfl, rfl, Nat.le_refl _, fun _ _ _ => rfl⟩
  | cons v vs ih =>
    intro o
    have g2 := ih (w.setCell ⟨g, o, none⟩ v) (o + 1)
    refine ⟨g2.os, g2.tape, g2.output, by show w.heap.size ≤ ((w.setCell ⟨g, o, none⟩ v).setCells g (o + 1) vs).heap.size; have := g2.size; simpa using this, fun k hk hn => (g2.block k (by simpa using hk) hn).trans ?_⟩
    exact Below.heap_setCell w _ _ k (fun e => hn (by rw [e]))
theorem aaC {P : Program} {fn : Func} {p q : Tmp} {ty : TypeId} (h : fn.results = #[.cell p ty, .tmp q]) (tmps : Array Value) (w : World) (g : Nat) (t : TypeId) (cs : Array Value) (fr : Nat × Nat) (d : TypeDesc) (v : Value)
  (hp : tmps.getD p undef = .pointer (some ⟨g, 0, none⟩)) (hg : w.heap[g]? = some (.cells cs t fr))
  (hu : P.underlying ty = some d) (hd : (match d with | .struct _ | .array _ _ => true | _ => false) = true) (hi : (P.info? ty).map (·.size) = some cs.size) (hq : tmps.getD q undef = v) :
  (results fn tmps).run P w = .ok (.tuple #[.agg cs, v]) w := by
 have hp' : tmps[p]?.getD undef = .pointer (some ⟨g, 0, none⟩) := by simpa using hp
 have hq' : tmps[q]?.getD undef = v := by simpa using hq
 simp [results, h, hp', hq', asAddr, run_loadVar_row w g t ty cs fr d hg hu hd hi]
theorem wpList_store_row {P : Program} {ops : Array Oper} {rest : List Oper} {o : Oper} {a : Act} {w : World} {Q : Exit → Act → World → Prop} (hgd : o.guard = none) (hd : o.dst = none) (ty : TypeId) (x y : Operand) (ho : o.op = .store ty x y)
  (g : Nat) (T : TypeId) (cs vs : Array Value) (hx : a.eval x = .pointer (some ⟨g, 0, none⟩)) (hy : a.eval y = .agg vs) (hb : Bx w g T cs) (hl : vs.size = cs.size) (hone : ∀ z ∈ vs.toList, z.oneCell' = true) (hi : (P.info? ty).map (·.size) = some vs.size)
  (h : ∀ w', Bx w' g T vs → w.grownBy w' (some g) → (∀ w0, Kp w0 w → w0.heap.size ≤ g → Kp w0 w') → wpList P ops Q rest a w') : wpList P ops Q (o :: rest) a w := by
 refine wpList_store_mid hgd ty x y ho g 0 vs hx hy (by rw [hl]; exact hb.there) hi (all_oneCell_toArray (cs := vs.toList) hone) ?_;rw [hd];exact h _ (hb.fill vs hl) (ae4 w g 0 vs.toList 0) fun w0 k hg => k.setCells hg vs.toList 0
end Go.Proofs.Ytbhkdlpdolioaaa

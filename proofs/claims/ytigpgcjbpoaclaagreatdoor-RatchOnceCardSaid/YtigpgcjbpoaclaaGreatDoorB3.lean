import Derived.Test.YtigpgcjbpoaclaaGreatDoorB2
import Derived.RangeFuncNested
import Derived.RangeFuncBound
import Derived.RangeFuncCalls
import Derived.RangeFuncLeaves
import Derived.RangeFuncFrom
import Derived.Shelf.Abstract
import Derived.Shelf.RegionOpen
import Derived.OwnWalkIn
import Derived.TacticsInMore
import Derived.LoopNIn
import Derived.LoopIn
set_option linter.unusedVariables false
set_option linter.unusedSimpArgs false
namespace Go.Proofs.YtigpgcjbpoaclaaGreatDoor
open Go.RowKit
def nd (j q : Nat) : Nat := 2 ^ (j + 1) * q + 2 ^ j - 1
theorem p2_pos (k : Nat) : 1 ≤ 2 ^ k := Nat.one_le_two_pow
theorem p2_succ (k : Nat) : 2 ^ (k + 1) = 2 * 2 ^ k := by rw [Nat.pow_succ]; omega
theorem nd_leaf (q : Nat) : nd 0 q = 2 * q := by unfold nd; simp
theorem nd_succ (j q : Nat) : nd (j + 1) q = 2 * nd j q + 1 := by
  unfold nd
  rw [p2_succ (j + 1), p2_succ j, Nat.mul_assoc]
  have := p2_pos j
  omega
theorem nd_half (j q : Nat) : nd (j + 1) q / 2 = nd j q := by rw [nd_succ]; omega
theorem nd_odd (j q : Nat) : nd (j + 1) q % 2 = 1 := by rw [nd_succ]; omega
theorem nd_even (q : Nat) : nd 0 q % 2 = 0 := by rw [nd_leaf]; omega
theorem nd_left (j q : Nat) : nd (j + 1) q - 2 ^ j = nd j (2 * q) ∧ 2 ^ j ≤ nd (j + 1) q := by
  unfold nd
  rw [p2_succ (j + 1), p2_succ j]
  have := p2_pos j
  have e : 2 * (2 * 2 ^ j) * q = 2 * 2 ^ j * (2 * q) := by rw [Nat.mul_comm 2 (2 * 2 ^ j), Nat.mul_assoc]
  rw [e]
  omega
theorem nd_right (j q : Nat) : nd (j + 1) q + 2 ^ j = nd j (2 * q + 1) := by
  unfold nd
  rw [p2_succ (j + 1), p2_succ j, Nat.mul_add]
  have := p2_pos j
  have e : 2 * (2 * 2 ^ j) * q = 2 * 2 ^ j * (2 * q) := by rw [Nat.mul_comm 2 (2 * 2 ^ j), Nat.mul_assoc]
  rw [e]
  omega
theorem nd_inj {j q i r : Nat} (h : nd j q = nd i r) : j = i ∧ q = r := by
  induction j generalizing i with
  | zero =>
    cases i with
    | zero => rw [nd_leaf, nd_leaf] at h; exact ⟨rfl, by omega⟩
    | succ i => have h1 := nd_even q; have h2 := nd_odd i r; omega
  | succ j ih =>
    cases i with
    | zero => have h1 := nd_even r; have h2 := nd_odd j q; omega
    | succ i =>
      rw [nd_succ, nd_succ] at h
      obtain ⟨h1, h2⟩ := ih (i := i) (by omega)
      exact ⟨by omega, h2⟩
theorem nd_of : ∀ (K x : Nat), x < 2 ^ (K + 1) - 1 → ∃ j q, x = nd j q ∧ j ≤ K ∧ q < 2 ^ (K - j)
  | 0, x, h => ⟨0, 0, by simp at h; rw [nd_leaf]; omega, Nat.le_refl _, by simp⟩
  | K + 1, x, h => by
    by_cases hx : x % 2 = 0
    · refine ⟨0, x / 2, by rw [nd_leaf]; omega, by omega, ?_⟩
      rw [p2_succ] at h
      rw [Nat.sub_zero]
      omega
    · obtain ⟨j, q, e, hj, hq⟩ := nd_of K (x / 2) (by rw [p2_succ] at h; omega)
      refine ⟨j + 1, q, by rw [nd_succ, ← e]; omega, by omega, ?_⟩
      rw [Nat.add_sub_add_right]
      exact hq
theorem nd_lt {j q K : Nat} (hj : j ≤ K) (hq : q < 2 ^ (K - j)) : nd j q < 2 ^ (K + 1) - 1 := by
  have e : 2 ^ (K + 1) = 2 ^ (j + 1) * 2 ^ (K - j) := by rw [← Nat.pow_add]; congr 1; omega
  have h1 : 2 ^ (j + 1) * (q + 1) ≤ 2 ^ (K + 1) := by rw [e]; exact Nat.mul_le_mul_left _ hq
  rw [Nat.mul_add, Nat.mul_one] at h1
  unfold nd
  have := p2_pos j
  have := p2_succ j
  omega
theorem nd_in {j q K : Nat} (h : nd j q < 2 ^ (K + 1) - 1) : j ≤ K ∧ q < 2 ^ (K - j) := by
  obtain ⟨i, r, e, hi, hr⟩ := nd_of K _ h
  obtain ⟨rfl, rfl⟩ := nd_inj e
  exact ⟨hi, hr⟩
theorem nd_root (K : Nat) : nd K 0 = 2 ^ K - 1 := by unfold nd; simp
theorem nd_is_root {j q K : Nat} (hq : q < 2 ^ (K - j)) (hj : j ≤ K) : nd j q = 2 ^ K - 1 ↔ j = K := by
  constructor
  · intro h
    rw [← nd_root] at h
    exact (nd_inj h).1
  · rintro rfl
    simp at hq
    subst hq
    exact nd_root j
def levF : Nat → Nat → Nat
  | 0, _ => 0
  | f + 1, x => if x % 2 = 1 then levF f (x / 2) + 1 else 0
def lev (x : Nat) : Nat := levF 12 x
theorem levF_nd : ∀ (f j q : Nat), j < f → levF f (nd j q) = j
  | 0, j, q, h => by omega
  | f + 1, 0, q, h => by unfold levF; rw [if_neg (by have := nd_even q; omega)]
  | f + 1, j + 1, q, h => by unfold levF; rw [if_pos (nd_odd j q), nd_half, levF_nd f j q (by omega)]
theorem lev_nd (j q : Nat) (h : j ≤ 11) : lev (nd j q) = j := levF_nd 12 j q (by omega)
def sq (q : Nat) : Nat := if q % 2 = 0 then q + 1 else q - 1
structure Same (X : Nat → Prop) (A B : World) : Prop where
  size : A.heap.size ≤ B.heap.size
  block : ∀ k, k < A.heap.size → ¬ X k → B.heap[k]? = A.heap[k]?
theorem Same.refl (X : Nat → Prop) (A : World) : Same X A A := ⟨Nat.le_refl _, fun _ _ _ => rfl⟩
theorem Same.trans {X : Nat → Prop} {A B C : World} (h : Same X A B) (k : Same X B C) : Same X A C :=
  ⟨Nat.le_trans h.size k.size, fun i hi hx => (k.block i (Nat.lt_of_lt_of_le hi h.size) hx).trans (h.block i hi hx)⟩
theorem Same.of_kp {X : Nat → Prop} {A B : World} (h : Kp A B) : Same X A B := ⟨h.size, fun k hk _ => h.block k hk⟩
theorem Same.setCell {X : Nat → Prop} {A B : World} (h : Same X A B) (p : Addr) (v : Value) (hx : X p.block) : Same X A (B.setCell p v) :=
  ⟨by simpa using h.size, fun k hk hn => (Below.heap_setCell B p v k (fun e => hn (e ▸ hx))).trans (h.block k hk hn)⟩
theorem Same.mono {X Y : Nat → Prop} {A B : World} (h : Same X A B) (hxy : ∀ k, X k → Y k) : Same Y A B := ⟨h.size, fun k hk hn => h.block k hk (fun hx => hn (hxy k hx))⟩
theorem Same.drew {X : Nat → Prop} {A B : World} (h : Same X A B) : Same X A B.drew := ⟨h.size, h.block⟩
theorem put_below {B D : Nat} {a W : World} (h : Below B a W) (hD : B ≤ D) (hB : B ≤ W.heap.size) (o : Obj) : Below B a (W.putObj D o) :=
  Below.grown h (grownBy_putObj' W D o) hB (fun k e => by cases e; exact hD)
section
variable {F : Fence} {n : Nat} {P : Program}
def Iterates (F : Fence) (m : Nat) (P : Program) (gf : Nat) (lb : Array Value) (encs : Nat → Array Value) (N : Nat) (X : Nat → Prop) (w : World) : Prop :=
  ∀ (l : Nat) (J : Nat → World → Prop) (W : World), Below w.heap.size w W → w.heap.size ≤ l → l < W.heap.size → (∀ i A B, J i A → Below W.heap.size A B → J i B) →
    (∀ i A, i < N → J i A → YieldAt F (m - 1) P l (encs i) A fun e B => e = .returned (.bool true) ∧ J (i + 1) B ∧ Same (fun k => k = l ∨ X k) A B) →
    J 0 W → CallsIn F m P gf (#[.func (.yield l) #[] #[]] ++ lb) W fun e B => (∃ v, e = .returned v) ∧ J N B
theorem wpIn_range_on {g : Operand} {ps : Array Tmp} {assign body : Code} {Q : Exit → Act → World → Prop} {a : Act} {w : World}
    (hro : F.round = none) (h1 : 1 ≤ n) {gf : Nat} {lb : Array Value} (hg : a.eval g = .func (.func gf) #[] lb) (hFg : F.fn gf) (eg : ∀ args w, (callFunc gf args).run P w = .ok (.enter gf args) w)
    {encs : Nat → Array Value} {N : Nat} {X : Nat → Prop} (hX : ∀ k, X k → k < w.heap.size) (hit : Iterates F (n - 1) P gf lb encs N X w) (hps : ∀ i, (encs i).size = ps.size)
    (I : Nat → World → Prop) (hI : ∀ i A B, I i A → Below w.heap.size A B → I i B) (h0 : I 0 w) (a₁ : Nat → Act)
    (hassign : ∀ (l : Nat) (i : Nat) (W : World) (K : Act → World → Prop), K (a₁ i) W →
      assign.wpIn (F.inRound l) (n - 1 - 1) P (Exit.then K (fun _ _ _ => False)) { tmps := (ps.zip (encs i)).foldl (fun t (p, v) => t.setIfInBounds p v) a.tmps, defers := [] } W)
    (hbody : ∀ (l : Nat) (i : Nat) (W : World), I i W → i < N → body.wpIn (F.inRound l) (n - 1 - 1) P (fun e _ W' => e = .normal ∧ Same X W W' ∧ I (i + 1) W') (a₁ i) W)
    (hdone : ∀ (D : Nat) (W : World), w.heap.size ≤ D → I N W → W.heap[D]? = some (.deferred (some [])) → Q .normal { a with defers := { target := .collected D, args := #[] } :: a.defers } W) :
    (Code.rangeFunc g ps assign body).wpIn F n P Q a w := by
  refine wpIn_rangeFunc ?_
  intro fn hfn
  rw [hro]
  let rec' : LoopState → Loop := fun st => { state := st, pending := none, fn, tmps := a.tmps, params := ps, assign, body, defers := w.heap.size }
  obtain ⟨W1, hW1⟩ : ∃ W1, (w.alloc (.deferred (some []))).alloc (.loop (rec' .ready)) = W1 := ⟨_, rfl⟩
  have hD1 : W1.heap[w.heap.size]? = some (.deferred (some [])) := by
    rw [← hW1]
    exact (Below.heap_alloc _ _ _ (by simp)).trans (heap_alloc_new w _)
  have hL1 : W1.heap[w.heap.size + 1]? = some (.loop (rec' .ready)) := by
    rw [← hW1]
    have := heap_alloc_new (w.alloc (.deferred (some []))) (.loop (rec' .ready))
    rwa [World.size_alloc] at this
  have hs1 : W1.heap.size = w.heap.size + 2 := by rw [← hW1]; simp
  have hb1 : Below w.heap.size w W1 := by rw [← hW1]; exact ((Below.refl _ w).alloc (Nat.le_refl _) _).alloc (by simp) _
  have turn : ∀ (B : World) (o : Obj), w.heap.size + 1 < B.heap.size → Below w.heap.size B (B.putObj (w.heap.size + 1) o) ∧ (B.putObj (w.heap.size + 1) o).heap[w.heap.size]? = B.heap[w.heap.size]? := fun B o hlt =>
    ⟨Below.grown (Below.refl _ B) (grownBy_putObj' B (w.heap.size + 1) o) (by omega) (fun k e => by cases e; omega), World.putObj_heap_other (by omega)⟩
  refine ⟨w.heap.size + 1, [{ target := .collected w.heap.size, args := #[] }], W1, { target := .fn (.func gf) lb, args := #[.func (.yield (w.heap.size + 1)) #[] #[]] }, W1, gf,
    #[.func (.yield (w.heap.size + 1)) #[] #[]] ++ lb, W1, ?_, ?_, ?_, ?_, fun _ => h1, ?_⟩
  · rw [← hW1]; exact run_enterLoop_outer _ _ _ _ _
  · simp only [resolve, hg]
    simp [go_sem]
  · intro f' hf'
    simp [Target.leads] at hf'
    subst hf'
    exact hFg
  · simp [invoke, go_sem, eg]
  · refine (hit (w.heap.size + 1) (fun i W => I i W ∧ W.heap[w.heap.size + 1]? = some (.loop (rec' .ready)) ∧ W.heap[w.heap.size]? = some (.deferred (some []))) W1 hb1 (by omega) (by omega)
      (fun i A B h hb => ⟨hI i A B h.1 (hb.mono (by omega)), (hb.block _ (by omega)).trans h.2.1, (hb.block _ (by omega)).trans h.2.2⟩) ?_ ⟨hI 0 _ _ h0 hb1, hL1, hD1⟩).mono ?_
    · rintro i A hi ⟨hIA, hl, hd⟩
      have hlt : w.heap.size + 1 < A.heap.size := (Array.getElem?_eq_some_iff.1 hl).1
      have hy := run_yield (P := P) (args := encs i) hl (hps i)
      have hbr : (Instr.beginRound (w.heap.size + 1)).run P A = .ok () (A.putObj (w.heap.size + 1) (.loop (rec' .busy))) := run_beginRound hl rfl
      refine ⟨fn, _, assign, body, hy, roundIn_of_wpIn hfn (hassign _ i A _ ⟨_, hbr, ?_⟩)⟩
      obtain ⟨hb2, hd2⟩ := turn A (.loop (rec' .busy)) hlt
      have hl2 : (A.putObj (w.heap.size + 1) (.loop (rec' .busy))).heap[w.heap.size + 1]? = some (.loop (rec' .busy)) := World.putObj_heap_same hlt
      refine wpIn_mono (hbody _ i _ (hI i _ _ hIA hb2) hi) ?_
      rintro e a3 W3 ⟨rfl, hs3, hI3⟩
      have hlt2 : w.heap.size + 1 < (A.putObj (w.heap.size + 1) (.loop (rec' .busy))).heap.size := (Array.getElem?_eq_some_iff.1 hl2).1
      have hl3 := (hs3.block (w.heap.size + 1) hlt2 (fun hx => by have := hX _ hx; omega)).trans hl2
      have hd3 := (hs3.block w.heap.size (by omega) (fun hx => by have := hX _ hx; omega)).trans (hd2.trans hd)
      have hlt3 : w.heap.size + 1 < W3.heap.size := (Array.getElem?_eq_some_iff.1 hl3).1
      obtain ⟨hb4, hd4⟩ := turn W3 (.loop (rec' .ready)) hlt3
      have her : (Instr.endRound (w.heap.size + 1) none).run P W3 = .ok (.bool true) (W3.putObj (w.heap.size + 1) (.loop (rec' .ready))) := run_endRound (P := P) none hl3
      refine ⟨_, _, her, rfl, ⟨hI _ _ _ hI3 hb4, World.putObj_heap_same hlt3, hd4.trans hd3⟩, ?_⟩
      have s1 : Same (fun k => k = w.heap.size + 1 ∨ X k) A (A.putObj (w.heap.size + 1) (.loop (rec' .busy))) :=
        ⟨hb2.size, fun k _ hn => World.putObj_heap_other (fun e => hn (.inl e))⟩
      have s3 : Same (fun k => k = w.heap.size + 1 ∨ X k) W3 (W3.putObj (w.heap.size + 1) (.loop (rec' .ready))) :=
        ⟨hb4.size, fun k _ hn => World.putObj_heap_other (fun e => hn (.inl e))⟩
      exact (s1.trans (hs3.mono (fun _ h => .inr h))).trans s3
    · rintro e W2 ⟨⟨v, rfl⟩, hI2, hl, hd⟩
      have hlt : w.heap.size + 1 < W2.heap.size := (Array.getElem?_eq_some_iff.1 hl).1
      have hend : (Instr.endLoop (w.heap.size + 1)).run P W2 = .ok none (W2.putObj (w.heap.size + 1) (.loop (rec' .exhausted))) := run_endLoop (P := P) hl (by simp [rec'])
      obtain ⟨hb4, hd4⟩ := turn W2 (.loop (rec' .exhausted)) hlt
      exact ⟨none, _, hend, hdone _ _ (Nat.le_refl _) (hI _ _ _ hI2 hb4) (hd4.trans hd)⟩
end
end Go.Proofs.YtigpgcjbpoaclaaGreatDoor
namespace Go.Proofs.YtigpgcjbpoaclaaGreatDoor
open Go.RowKit Go.ChangeShapes Go.WideShapes Go.Deep
def Vals (w : World) (v : Value) (us : List Value) : Prop :=
  ∃ a c, v = .slice a us.length c ∧ us.length ≤ c ∧ c ≤ maxLen ∧ (a = none → c = 0) ∧
    ∀ x, a = some x → ∀ i, (h : i < us.length) → w.cell? (x.add i) = some (us[i]'h)
theorem Vals.kp {w w' : World} {v : Value} {us : List Value} (h : Vals w v us) (k : Kp w w') : Vals w' v us := by
  obtain ⟨a, c, rfl, h1, h2, h3, h4⟩ := h
  exact ⟨a, c, rfl, h1, h2, h3, fun x hx i hi => k.cell (h4 x hx i hi)⟩
theorem Vals.shape {w : World} {v : Value} {us : List Value} (h : Vals w v us) : ∃ a c, v = .slice a us.length c ∧ us.length ≤ c ∧ c ≤ maxLen := by
  obtain ⟨a, c, e, h1, h2, _⟩ := h
  exact ⟨a, c, e, h1, h2⟩
theorem Vals.nil (w : World) : Vals w (.slice none 0 0) [] := ⟨none, 0, rfl, Nat.le_refl _, Nat.zero_le _, fun _ => rfl, fun x hx => by cases hx⟩
theorem Vals.at {w : World} {a : Option Addr} {n c : Nat} {us : List Value} (h : Vals w (.slice a n c) us) (k : Nat) (hk : k < n) :
    ∃ b off, a = some ⟨b, off, none⟩ ∧ b < w.heap.size ∧ ∀ i, i < n → w.cell? ⟨b, off + i, none⟩ = some (us.getD i (.bool false)) := by
  obtain ⟨a', c', e, h1, h2, h3, h4⟩ := h
  simp only [Value.slice.injEq] at e
  obtain ⟨rfl, rfl, rfl⟩ := e
  cases a with
  | none => have := h3 rfl; omega
  | some x =>
    obtain ⟨b, off, spot⟩ := x
    have h0 := h4 _ rfl 0 (by omega)
    have hs : spot = none := by simpa [Addr.add] using World.cell?_spot h0
    subst hs
    refine ⟨b, off, rfl, World.block_lt_of_cell? w _ h0, fun i hi => ?_⟩
    have := h4 _ rfl i hi
    rw [List.getD_eq_getElem?_getD, List.getElem?_eq_getElem hi, Option.getD_some, ← this]
    congr 1
    unfold Addr.add
    split <;> simp_all
theorem Vals.own {w : World} {B : Nat} {e : TypeId} {v : Value} {us : List Value} (h : w.ownsRow B e 1 v us.length us) : Vals w v us := by
  rcases h.2 with ⟨rfl, h0⟩ | ⟨g, cap, cur, rfl, hb, hg, hn, hm, hs, ht⟩
  · exact ⟨none, 0, by rw [h0], by omega, Nat.zero_le _, fun _ => rfl, fun x hx => by cases hx⟩
  · refine ⟨_, cap, rfl, hn, hm, fun h => (by cases h), fun x hx i hi => ?_⟩
    cases hx
    have e : (⟨g, 0, none⟩ : Addr).add i = ⟨g, i, none⟩ := by unfold Addr.add; split <;> simp_all
    rw [e, cell_of_row w g i _ _ _ hg]
    have hx : us[i]? = some us[i] := List.getElem?_eq_getElem hi
    rw [← hx, ← ht, List.getElem?_take_of_lt (by omega)]
    simp
def RL (w : World) (v : Value) (ls : List (List UInt8)) : Prop := ∃ us, Vals w v us ∧ us.length = ls.length ∧ ∀ i, i < ls.length → Rd w (us.getD i (.bool false)) (ls.getD i [])
theorem RL.kp {w w' : World} {v : Value} {ls : List (List UInt8)} (h : RL w v ls) (k : Kp w w') : RL w' v ls := by
  obtain ⟨us, h1, h2, h3⟩ := h
  exact ⟨us, h1.kp k, h2, fun i hi => (h3 i hi).kp k⟩
theorem RL.shape {w : World} {v : Value} {ls : List (List UInt8)} (h : RL w v ls) : ∃ a c, v = .slice a ls.length c ∧ ls.length ≤ c ∧ c ≤ maxLen := by
  obtain ⟨us, h1, h2, h3⟩ := h
  rw [← h2]
  exact h1.shape
theorem RL.at {w : World} {a : Option Addr} {n c : Nat} {ls : List (List UInt8)} (h : RL w (.slice a n c) ls) (k : Nat) (hk : k < n) :
    ∃ b off, a = some ⟨b, off, none⟩ ∧ b < w.heap.size ∧ ∀ i, i < n → ∃ u, w.cell? ⟨b, off + i, none⟩ = some u ∧ Rd w u (ls.getD i []) := by
  obtain ⟨us, h1, h2, h3⟩ := h
  obtain ⟨b, off, ha, hb, hc⟩ := h1.at k hk
  have hn : n = us.length := by
    obtain ⟨a', c', e, _⟩ := h1.shape
    simp only [Value.slice.injEq] at e
    exact e.2.1
  exact ⟨b, off, ha, hb, fun i hi => ⟨_, hc i hi, h3 i (by omega)⟩⟩
theorem RL.cons {w : World} {B : Nat} {e : TypeId} {v u : Value} {l : List UInt8} {us : List Value} {ls : List (List UInt8)} (h : w.ownsRow B e 1 v (u :: us).length (u :: us)) (hu : Rd w u l) (hl : us.length = ls.length)
    (hr : ∀ i, i < ls.length → Rd w (us.getD i (.bool false)) (ls.getD i [])) : RL w v (l :: ls) := by
  refine ⟨u :: us, Vals.own h, by simp [hl], fun i hi => ?_⟩
  cases i with
  | zero => simpa using hu
  | succ i => simpa using hr i (by simpa using hi)
section
variable {H : Type} {enc : TypeId × Value → H} {P : Program} {w : World} {base : Nat} {spare : Nat → Bool} {held : Bool}
end
end Go.Proofs.YtigpgcjbpoaclaaGreatDoor

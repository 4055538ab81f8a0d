import Derived.Test.YtigpgcjbpoaclaaDoorC2
import Derived.RangeFuncNested
import Derived.RangeFuncBound
import Derived.RangeFuncCalls
import Derived.RangeFuncLeaves
import Derived.RangeFuncFrom
import Derived.Shelf.Abstract
import Derived.Shelf.RegionOpen
import Derived.OwnWalkIn
import Derived.TacticsInMore
import Derived.LoopNIn
import Derived.LoopIn
import Derived.Test.YtigpgcjbpoaclaaDoorRows
import Derived.WalkSpells
import Derived.Lib.Hide
import Derived.Outline
set_option linter.unusedVariables false
set_option linter.unusedSimpArgs false
namespace Go.Proofs.YtigpgcjbpoaclaaDoor
open Go.RowKit
def nd (j q : Nat) : Nat := 2 ^ (j + 1) * q + 2 ^ j - 1
theorem p2_pos (k : Nat) : 1 ≤ 2 ^ k := Nat.one_le_two_pow
theorem p2_succ (k : Nat) : 2 ^ (k + 1) = 2 * 2 ^ k := by rw [Nat.pow_succ]; omega
theorem nd_leaf (q : Nat) : nd 0 q = 2 * q := by unfold nd; simp
theorem nd_succ (j q : Nat) : nd (j + 1) q = 2 * nd j q + 1 := by
  unfold nd
  rw [p2_succ (j + 1), p2_succ j, Nat.mul_assoc]
  have := p2_pos j
  omega
theorem nd_half (j q : Nat) : nd (j + 1) q / 2 = nd j q := by rw [nd_succ]; omega
theorem nd_odd (j q : Nat) : nd (j + 1) q % 2 = 1 := by rw [nd_succ]; omega
theorem nd_even (q : Nat) : nd 0 q % 2 = 0 := by rw [nd_leaf]; omega
theorem nd_left (j q : Nat) : nd (j + 1) q - 2 ^ j = nd j (2 * q) ∧ 2 ^ j ≤ nd (j + 1) q := by
  unfold nd
  rw [p2_succ (j + 1), p2_succ j]
  have := p2_pos j
  have e : 2 * (2 * 2 ^ j) * q = 2 * 2 ^ j * (2 * q) := by rw [Nat.mul_comm 2 (2 * 2 ^ j), Nat.mul_assoc]
  rw [e]
  omega
theorem nd_right (j q : Nat) : nd (j + 1) q + 2 ^ j = nd j (2 * q + 1) := by
  unfold nd
  rw [p2_succ (j + 1), p2_succ j, Nat.mul_add]
  have := p2_pos j
  have e : 2 * (2 * 2 ^ j) * q = 2 * 2 ^ j * (2 * q) := by rw [Nat.mul_comm 2 (2 * 2 ^ j), Nat.mul_assoc]
  rw [e]
  omega
theorem nd_inj {j q i r : Nat} (h : nd j q = nd i r) : j = i ∧ q = r := by
  induction j generalizing i with
  | zero =>
    cases i with
    | zero => rw [nd_leaf, nd_leaf] at h; exact ⟨rfl, by omega⟩
    | succ i => have h1 := nd_even q; have h2 := nd_odd i r; omega
  | succ j ih =>
    cases i with
    | zero => have h1 := nd_even r; have h2 := nd_odd j q; omega
    | succ i =>
      rw [nd_succ, nd_succ] at h
      obtain ⟨h1, h2⟩ := ih (i := i) (by omega)
      exact ⟨by omega, h2⟩
theorem nd_of : ∀ (K x : Nat), x < 2 ^ (K + 1) - 1 → ∃ j q, x = nd j q ∧ j ≤ K ∧ q < 2 ^ (K - j)
  | 0, x, h => ⟨0, 0, by simp at h; rw [nd_leaf]; omega, Nat.le_refl _, by simp⟩
  | K + 1, x, h => by
    by_cases hx : x % 2 = 0
    · refine ⟨0, x / 2, by rw [nd_leaf]; omega, by omega, ?_⟩
      rw [p2_succ] at h
      rw [Nat.sub_zero]
      omega
    · obtain ⟨j, q, e, hj, hq⟩ := nd_of K (x / 2) (by rw [p2_succ] at h; omega)
      refine ⟨j + 1, q, by rw [nd_succ, ← e]; omega, by omega, ?_⟩
      rw [Nat.add_sub_add_right]
      exact hq
theorem nd_lt {j q K : Nat} (hj : j ≤ K) (hq : q < 2 ^ (K - j)) : nd j q < 2 ^ (K + 1) - 1 := by
  have e : 2 ^ (K + 1) = 2 ^ (j + 1) * 2 ^ (K - j) := by rw [← Nat.pow_add]; congr 1; omega
  have h1 : 2 ^ (j + 1) * (q + 1) ≤ 2 ^ (K + 1) := by rw [e]; exact Nat.mul_le_mul_left _ hq
  rw [Nat.mul_add, Nat.mul_one] at h1
  unfold nd
  have := p2_pos j
  have := p2_succ j
  omega
theorem nd_root (K : Nat) : nd K 0 = 2 ^ K - 1 := by unfold nd; simp
theorem nd_is_root {j q K : Nat} (hq : q < 2 ^ (K - j)) (hj : j ≤ K) : nd j q = 2 ^ K - 1 ↔ j = K := by
  constructor
  · intro h
    rw [← nd_root] at h
    exact (nd_inj h).1
  · rintro rfl
    simp at hq
    subst hq
    exact nd_root j
def levF : Nat → Nat → Nat
  | 0, _ => 0
  | f + 1, x => if x % 2 = 1 then levF f (x / 2) + 1 else 0
def lev (x : Nat) : Nat := levF 12 x
theorem levF_nd : ∀ (f j q : Nat), j < f → levF f (nd j q) = j
  | 0, j, q, h => by omega
  | f + 1, 0, q, h => by unfold levF; rw [if_neg (by have := nd_even q; omega)]
  | f + 1, j + 1, q, h => by unfold levF; rw [if_pos (nd_odd j q), nd_half, levF_nd f j q (by omega)]
theorem lev_nd (j q : Nat) (h : j ≤ 11) : lev (nd j q) = j := levF_nd 12 j q (by omega)
def sq (q : Nat) : Nat := if q % 2 = 0 then q + 1 else q - 1
structure Same (X : Nat → Prop) (A B : World) : Prop where
  size : A.heap.size ≤ B.heap.size
  block : ∀ k, k < A.heap.size → ¬ X k → B.heap[k]? = A.heap[k]?
theorem Same.refl (X : Nat → Prop) (A : World) : Same X A A := ⟨Nat.le_refl _, fun _ _ _ => rfl⟩
theorem Same.trans {X : Nat → Prop} {A B C : World} (h : Same X A B) (k : Same X B C) : Same X A C :=
  ⟨Nat.le_trans h.size k.size, fun i hi hx => (k.block i (Nat.lt_of_lt_of_le hi h.size) hx).trans (h.block i hi hx)⟩
theorem Same.of_kp {X : Nat → Prop} {A B : World} (h : Kp A B) : Same X A B := ⟨h.size, fun k hk _ => h.block k hk⟩
theorem Same.setCell {X : Nat → Prop} {A B : World} (h : Same X A B) (p : Addr) (v : Value) (hx : X p.block) : Same X A (B.setCell p v) :=
  ⟨by simpa using h.size, fun k hk hn => (Below.heap_setCell B p v k (fun e => hn (e ▸ hx))).trans (h.block k hk hn)⟩
theorem Same.mono {X Y : Nat → Prop} {A B : World} (h : Same X A B) (hxy : ∀ k, X k → Y k) : Same Y A B := ⟨h.size, fun k hk hn => h.block k hk (fun hx => hn (hxy k hx))⟩
theorem Same.drew {X : Nat → Prop} {A B : World} (h : Same X A B) : Same X A B.drew := ⟨h.size, h.block⟩
theorem put_below {B D : Nat} {a W : World} (h : Below B a W) (hD : B ≤ D) (hB : B ≤ W.heap.size) (o : Obj) : Below B a (W.putObj D o) :=
  Below.grown h (grownBy_putObj' W D o) hB (fun k e => by cases e; exact hD)
section
variable {F : Fence} {n : Nat} {P : Program}
def Iterates (F : Fence) (m : Nat) (P : Program) (gf : Nat) (lb : Array Value) (encs : Nat → Array Value) (N : Nat) (X : Nat → Prop) (w : World) : Prop :=
  ∀ (l : Nat) (J : Nat → World → Prop) (W : World), Below w.heap.size w W → w.heap.size ≤ l → l < W.heap.size → (∀ i A B, J i A → Below W.heap.size A B → J i B) →
    (∀ i A, i < N → J i A → YieldAt F (m - 1) P l (encs i) A fun e B => e = .returned (.bool true) ∧ J (i + 1) B ∧ Same (fun k => k = l ∨ X k) A B) →
    J 0 W → CallsIn F m P gf (#[.func (.yield l) #[] #[]] ++ lb) W fun e B => (∃ v, e = .returned v) ∧ J N B
theorem wpIn_range_on {g : Operand} {ps : Array Tmp} {assign body : Code} {Q : Exit → Act → World → Prop} {a : Act} {w : World}
    (hro : F.round = none) (h1 : 1 ≤ n) {gf : Nat} {lb : Array Value} (hg : a.eval g = .func (.func gf) #[] lb) (hFg : F.fn gf) (eg : ∀ args w, (callFunc gf args).run P w = .ok (.enter gf args) w)
    {encs : Nat → Array Value} {N : Nat} {X : Nat → Prop} (hX : ∀ k, X k → k < w.heap.size) (hit : Iterates F (n - 1) P gf lb encs N X w) (hps : ∀ i, (encs i).size = ps.size)
    (I : Nat → World → Prop) (hI : ∀ i A B, I i A → Below w.heap.size A B → I i B) (h0 : I 0 w) (a₁ : Nat → Act)
    (hassign : ∀ (l : Nat) (i : Nat) (W : World) (K : Act → World → Prop), K (a₁ i) W →
      assign.wpIn (F.inRound l) (n - 1 - 1) P (Exit.then K (fun _ _ _ => False)) { tmps := (ps.zip (encs i)).foldl (fun t (p, v) => t.setIfInBounds p v) a.tmps, defers := [] } W)
    (hbody : ∀ (l : Nat) (i : Nat) (W : World), I i W → i < N → body.wpIn (F.inRound l) (n - 1 - 1) P (fun e _ W' => e = .normal ∧ Same X W W' ∧ I (i + 1) W') (a₁ i) W)
    (hdone : ∀ (D : Nat) (W : World), w.heap.size ≤ D → I N W → W.heap[D]? = some (.deferred (some [])) → Q .normal { a with defers := { target := .collected D, args := #[] } :: a.defers } W) :
    (Code.rangeFunc g ps assign body).wpIn F n P Q a w := by
  refine wpIn_rangeFunc ?_
  intro fn hfn
  rw [hro]
  let rec' : LoopState → Loop := fun st => { state := st, pending := none, fn, tmps := a.tmps, params := ps, assign, body, defers := w.heap.size }
  obtain ⟨W1, hW1⟩ : ∃ W1, (w.alloc (.deferred (some []))).alloc (.loop (rec' .ready)) = W1 := ⟨_, rfl⟩
  have hD1 : W1.heap[w.heap.size]? = some (.deferred (some [])) := by
    rw [← hW1]
    exact (Below.heap_alloc _ _ _ (by simp)).trans (heap_alloc_new w _)
  have hL1 : W1.heap[w.heap.size + 1]? = some (.loop (rec' .ready)) := by
    rw [← hW1]
    have := heap_alloc_new (w.alloc (.deferred (some []))) (.loop (rec' .ready))
    rwa [World.size_alloc] at this
  have hs1 : W1.heap.size = w.heap.size + 2 := by rw [← hW1]; simp
  have hb1 : Below w.heap.size w W1 := by rw [← hW1]; exact ((Below.refl _ w).alloc (Nat.le_refl _) _).alloc (by simp) _
  have turn : ∀ (B : World) (o : Obj), w.heap.size + 1 < B.heap.size → Below w.heap.size B (B.putObj (w.heap.size + 1) o) ∧ (B.putObj (w.heap.size + 1) o).heap[w.heap.size]? = B.heap[w.heap.size]? := fun B o hlt =>
    ⟨Below.grown (Below.refl _ B) (grownBy_putObj' B (w.heap.size + 1) o) (by omega) (fun k e => by cases e; omega), World.putObj_heap_other (by omega)⟩
  refine ⟨w.heap.size + 1, [{ target := .collected w.heap.size, args := #[] }], W1, { target := .fn (.func gf) lb, args := #[.func (.yield (w.heap.size + 1)) #[] #[]] }, W1, gf,
    #[.func (.yield (w.heap.size + 1)) #[] #[]] ++ lb, W1, ?_, ?_, ?_, ?_, fun _ => h1, ?_⟩
  · rw [← hW1]; exact run_enterLoop_outer _ _ _ _ _
  · simp only [resolve, hg]
    simp [go_sem]
  · intro f' hf'
    simp [Target.leads] at hf'
    subst hf'
    exact hFg
  · simp [invoke, go_sem, eg]
  · refine (hit (w.heap.size + 1) (fun i W => I i W ∧ W.heap[w.heap.size + 1]? = some (.loop (rec' .ready)) ∧ W.heap[w.heap.size]? = some (.deferred (some []))) W1 hb1 (by omega) (by omega)
      (fun i A B h hb => ⟨hI i A B h.1 (hb.mono (by omega)), (hb.block _ (by omega)).trans h.2.1, (hb.block _ (by omega)).trans h.2.2⟩) ?_ ⟨hI 0 _ _ h0 hb1, hL1, hD1⟩).mono ?_
    · rintro i A hi ⟨hIA, hl, hd⟩
      have hlt : w.heap.size + 1 < A.heap.size := (Array.getElem?_eq_some_iff.1 hl).1
      have hy := run_yield (P := P) (args := encs i) hl (hps i)
      have hbr : (Instr.beginRound (w.heap.size + 1)).run P A = .ok () (A.putObj (w.heap.size + 1) (.loop (rec' .busy))) := run_beginRound hl rfl
      refine ⟨fn, _, assign, body, hy, roundIn_of_wpIn hfn (hassign _ i A _ ⟨_, hbr, ?_⟩)⟩
      obtain ⟨hb2, hd2⟩ := turn A (.loop (rec' .busy)) hlt
      have hl2 : (A.putObj (w.heap.size + 1) (.loop (rec' .busy))).heap[w.heap.size + 1]? = some (.loop (rec' .busy)) := World.putObj_heap_same hlt
      refine wpIn_mono (hbody _ i _ (hI i _ _ hIA hb2) hi) ?_
      rintro e a3 W3 ⟨rfl, hs3, hI3⟩
      have hlt2 : w.heap.size + 1 < (A.putObj (w.heap.size + 1) (.loop (rec' .busy))).heap.size := (Array.getElem?_eq_some_iff.1 hl2).1
      have hl3 := (hs3.block (w.heap.size + 1) hlt2 (fun hx => by have := hX _ hx; omega)).trans hl2
      have hd3 := (hs3.block w.heap.size (by omega) (fun hx => by have := hX _ hx; omega)).trans (hd2.trans hd)
      have hlt3 : w.heap.size + 1 < W3.heap.size := (Array.getElem?_eq_some_iff.1 hl3).1
      obtain ⟨hb4, hd4⟩ := turn W3 (.loop (rec' .ready)) hlt3
      have her : (Instr.endRound (w.heap.size + 1) none).run P W3 = .ok (.bool true) (W3.putObj (w.heap.size + 1) (.loop (rec' .ready))) := run_endRound (P := P) none hl3
      refine ⟨_, _, her, rfl, ⟨hI _ _ _ hI3 hb4, World.putObj_heap_same hlt3, hd4.trans hd3⟩, ?_⟩
      have s1 : Same (fun k => k = w.heap.size + 1 ∨ X k) A (A.putObj (w.heap.size + 1) (.loop (rec' .busy))) :=
        ⟨hb2.size, fun k _ hn => World.putObj_heap_other (fun e => hn (.inl e))⟩
      have s3 : Same (fun k => k = w.heap.size + 1 ∨ X k) W3 (W3.putObj (w.heap.size + 1) (.loop (rec' .ready))) :=
        ⟨hb4.size, fun k _ hn => World.putObj_heap_other (fun e => hn (.inl e))⟩
      exact (s1.trans (hs3.mono (fun _ h => .inr h))).trans s3
    · rintro e W2 ⟨⟨v, rfl⟩, hI2, hl, hd⟩
      have hlt : w.heap.size + 1 < W2.heap.size := (Array.getElem?_eq_some_iff.1 hl).1
      have hend : (Instr.endLoop (w.heap.size + 1)).run P W2 = .ok none (W2.putObj (w.heap.size + 1) (.loop (rec' .exhausted))) := run_endLoop (P := P) hl (by simp [rec'])
      obtain ⟨hb4, hd4⟩ := turn W2 (.loop (rec' .exhausted)) hlt
      exact ⟨none, _, hend, hdone _ _ (Nat.le_refl _) (hI _ _ _ hI2 hb4) (hd4.trans hd)⟩
end
theorem set_mid (z u : Value) (c : List Value) (m : Nat) : (List.replicate (m + 1) z ++ c).set m u = List.replicate m z ++ u :: c := by
  rw [List.set_append_left _ _ (by simp), List.replicate_succ', List.set_append_right _ _ (by simp)]
  simp
set_option maxHeartbeats 400000 in
theorem highestFirst_any (n : Int) (k : Nat) (w : World) (h0 : 0 ≤ n) (h1 : 1 ≤ k) (h7 : k ≤ 7) :
    Calls Tryd.prog 72 #[.int .i64 n, .int .i64 k] w fun e w' => ∃ v, e = .returned v ∧ Ow 5 w' w.heap.size v (be k n.toNat) ∧ Kp w w' := by
  obtain ⟨i0, hi, hz0, hz1, hz2⟩ := info_parts Tryd.info5
  obtain ⟨n, rfl⟩ := Int.eq_ofNat_of_zero_le h0
  rw [Int.toNat_natCast]
  go_enter Tryd.func72, Tryd.ntmps72
  go_wp2_with (at_make; refine wpList_make_full _ rfl _ _ 22 rfl w.heap.size 5 i0 (.int .u8 0) 1 Tryd.underlying22 hi hz0 hz1 _ _ _ _ k rfl rfl rfl rfl ?b1 ?b2 ?b3 ?_)
  case b1 => rw [hz2]; omega
  case b2 => unfold maxLen; omega
  case b3 => exact Nat.le_refl _
  intro w1 hown hgr
  rw [toList_madeCells_one] at hown
  generalize hB : w.heap.size = B at *
  have HB := Lib.hid hB
  clear hB
  have hk1 : Below B w w1 := Below.grown (Below.refl B w) hgr (by rw [HB.out]; exact Nat.le_refl _) (by simp)
  clear hgr
  go_wp2
  go_loopw [0, 6] (fun x i wr => ∃ j : Nat, j ≤ k ∧ i = .int .i64 ((j : Int) - 1) ∧ x = .int .i64 ((n / 256 ^ (k - j) : Nat) : Int) ∧ wr.ownsRow B 5 1 (.slice (some ⟨B, 0, none⟩) k k) k (List.replicate j (.int .u8 0) ++ Lib.byteCells (be (k - j) n)) ∧ Below B w wr) (fun _ i _ => (intOf i + 1).toNat)
  case atStart => exact ⟨k, Nat.le_refl _, rfl, by simp, by simpa [be, Lib.byteCells] using hown, hk1⟩
  case round =>
    obtain ⟨j, hj, rfl, rfl, hown, hbel⟩ := hrel
    cases j with
    | zero =>
      go_wp2
      go_ret
      refine ⟨_, rfl, ?_, hbel.mono (by rw [HB.out]; exact Nat.le_refl _)⟩
      have hl : (be k n).length = k := be_length _ _
      unfold Ow
      rw [HB.out, hl]
      simpa using hown
    | succ j =>
      have hcell : wr.cell? ⟨B, j, none⟩ = some (.int .u8 0) := by
        rw [hown.cellAt j (by omega), List.getElem?_append_left (by simp)]
        simp
      have hfr := hown.frozenAt j
      rw [show ((j + 1 : Nat) : Int) - 1 = j from by omega]
      generalize hX : n / 256 ^ (k - (j + 1)) = X at *
      have HX := Lib.hid hX
      clear hX
      have hown1 := Lib.hid hown
      clear hown
      go_wp2
      go_roundw
      case rel =>
        obtain ⟨t, ht⟩ : ∃ t, t = k - (j + 1) := ⟨_, rfl⟩
        have hx := HX.out
        have ho := hown1.out
        rw [← ht] at hx ho
        have ht1 : k - j = t + 1 := by omega
        refine ⟨j, by omega, rfl, ?_, ?_, hbel.setCell (Nat.le_refl _) _⟩
        · rw [ht1, Nat.pow_succ, ← Nat.div_div_eq_div_mul, hx]; rfl
        · have h2 := (ho.stored j (.int .u8 ((X : Int) % 256))).1
          rw [set_mid] at h2
          rw [ht1, be_cons, hx]
          have e : Value.int .u8 ((X : Int) % 256) = .int .u8 ((UInt8.ofNat X).toNat : Int) := by simp
          rw [e] at h2 ⊢
          exact h2
      case measure => simp [intOf]
end Go.Proofs.YtigpgcjbpoaclaaDoor

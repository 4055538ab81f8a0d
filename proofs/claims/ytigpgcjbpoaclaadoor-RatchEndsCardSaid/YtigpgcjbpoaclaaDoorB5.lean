import Derived.Test.YtigpgcjbpoaclaaDoorB2
import Derived.Test.YtigpgcjbpoaclaaDoorB4
import Derived.RangeFuncNested
import Derived.RangeFuncBound
import Derived.RangeFuncCalls
import Derived.RangeFuncLeaves
import Derived.RangeFuncFrom
import Derived.Shelf.Abstract
import Derived.Shelf.RegionOpen
import Derived.OwnWalkIn
import Derived.TacticsInMore
import Derived.LoopNIn
import Derived.LoopIn
import Derived.RegionTactic
import Derived.BigRegion
set_option linter.unusedVariables false
set_option linter.unusedSimpArgs false
namespace Go.Proofs.YtigpgcjbpoaclaaDoor
open Go.RowKit
structure Same (X : Nat → Prop) (A B : World) : Prop where
  size : A.heap.size ≤ B.heap.size
  block : ∀ k, k < A.heap.size → ¬ X k → B.heap[k]? = A.heap[k]?
theorem Same.refl (X : Nat → Prop) (A : World) : Same X A A := ⟨Nat.le_refl _, fun _ _ _ => rfl⟩
theorem Same.trans {X : Nat → Prop} {A B C : World} (h : Same X A B) (k : Same X B C) : Same X A C :=
  ⟨Nat.le_trans h.size k.size, fun i hi hx => (k.block i (Nat.lt_of_lt_of_le hi h.size) hx).trans (h.block i hi hx)⟩
theorem Same.of_kp {X : Nat → Prop} {A B : World} (h : Kp A B) : Same X A B := ⟨h.size, fun k hk _ => h.block k hk⟩
theorem Same.setCell {X : Nat → Prop} {A B : World} (h : Same X A B) (p : Addr) (v : Value) (hx : X p.block) : Same X A (B.setCell p v) :=
  ⟨by simpa using h.size, fun k hk hn => (Below.heap_setCell B p v k (fun e => hn (e ▸ hx))).trans (h.block k hk hn)⟩
theorem Same.mono {X Y : Nat → Prop} {A B : World} (h : Same X A B) (hxy : ∀ k, X k → Y k) : Same Y A B := ⟨h.size, fun k hk hn => h.block k hk (fun hx => hn (hxy k hx))⟩
theorem Same.drew {X : Nat → Prop} {A B : World} (h : Same X A B) : Same X A B.drew := ⟨h.size, h.block⟩
theorem put_below {B D : Nat} {a W : World} (h : Below B a W) (hD : B ≤ D) (hB : B ≤ W.heap.size) (o : Obj) : Below B a (W.putObj D o) :=
  Below.grown h (grownBy_putObj' W D o) hB (fun k e => by cases e; exact hD)
section
variable {F : Fence} {n : Nat} {P : Program}
def Iterates (F : Fence) (m : Nat) (P : Program) (gf : Nat) (lb : Array Value) (encs : Nat → Array Value) (N : Nat) (X : Nat → Prop) (w : World) : Prop :=
  ∀ (l : Nat) (J : Nat → World → Prop) (W : World), Below w.heap.size w W → w.heap.size ≤ l → l < W.heap.size → (∀ i A B, J i A → Below W.heap.size A B → J i B) →
    (∀ i A, i < N → J i A → YieldAt F (m - 1) P l (encs i) A fun e B => e = .returned (.bool true) ∧ J (i + 1) B ∧ Same (fun k => k = l ∨ X k) A B) →
    J 0 W → CallsIn F m P gf (#[.func (.yield l) #[] #[]] ++ lb) W fun e B => (∃ v, e = .returned v) ∧ J N B
theorem wpIn_range_on {g : Operand} {ps : Array Tmp} {assign body : Code} {Q : Exit → Act → World → Prop} {a : Act} {w : World}
    (hro : F.round = none) (h1 : 1 ≤ n) {gf : Nat} {lb : Array Value} (hg : a.eval g = .func (.func gf) #[] lb) (hFg : F.fn gf) (eg : ∀ args w, (callFunc gf args).run P w = .ok (.enter gf args) w)
    {encs : Nat → Array Value} {N : Nat} {X : Nat → Prop} (hX : ∀ k, X k → k < w.heap.size) (hit : Iterates F (n - 1) P gf lb encs N X w) (hps : ∀ i, (encs i).size = ps.size)
    (I : Nat → World → Prop) (hI : ∀ i A B, I i A → Below w.heap.size A B → I i B) (h0 : I 0 w) (a₁ : Nat → Act)
    (hassign : ∀ (l : Nat) (i : Nat) (W : World) (K : Act → World → Prop), K (a₁ i) W →
      assign.wpIn (F.inRound l) (n - 1 - 1) P (Exit.then K (fun _ _ _ => False)) { tmps := (ps.zip (encs i)).foldl (fun t (p, v) => t.setIfInBounds p v) a.tmps, defers := [] } W)
    (hbody : ∀ (l : Nat) (i : Nat) (W : World), I i W → i < N → body.wpIn (F.inRound l) (n - 1 - 1) P (fun e _ W' => e = .normal ∧ Same X W W' ∧ I (i + 1) W') (a₁ i) W)
    (hdone : ∀ (D : Nat) (W : World), w.heap.size ≤ D → I N W → W.heap[D]? = some (.deferred (some [])) → Q .normal { a with defers := { target := .collected D, args := #[] } :: a.defers } W) :
    (Code.rangeFunc g ps assign body).wpIn F n P Q a w := by
  refine wpIn_rangeFunc ?_
  intro fn hfn
  rw [hro]
  let rec' : LoopState → Loop := fun st => { state := st, pending := none, fn, tmps := a.tmps, params := ps, assign, body, defers := w.heap.size }
  obtain ⟨W1, hW1⟩ : ∃ W1, (w.alloc (.deferred (some []))).alloc (.loop (rec' .ready)) = W1 := ⟨_, rfl⟩
  have hD1 : W1.heap[w.heap.size]? = some (.deferred (some [])) := by
    rw [← hW1]
    exact (Below.heap_alloc _ _ _ (by simp)).trans (heap_alloc_new w _)
  have hL1 : W1.heap[w.heap.size + 1]? = some (.loop (rec' .ready)) := by
    rw [← hW1]
    have := heap_alloc_new (w.alloc (.deferred (some []))) (.loop (rec' .ready))
    rwa [World.size_alloc] at this
  have hs1 : W1.heap.size = w.heap.size + 2 := by rw [← hW1]; simp
  have hb1 : Below w.heap.size w W1 := by rw [← hW1]; exact ((Below.refl _ w).alloc (Nat.le_refl _) _).alloc (by simp) _
  have turn : ∀ (B : World) (o : Obj), w.heap.size + 1 < B.heap.size → Below w.heap.size B (B.putObj (w.heap.size + 1) o) ∧ (B.putObj (w.heap.size + 1) o).heap[w.heap.size]? = B.heap[w.heap.size]? := fun B o hlt =>
    ⟨Below.grown (Below.refl _ B) (grownBy_putObj' B (w.heap.size + 1) o) (by omega) (fun k e => by cases e; omega), World.putObj_heap_other (by omega)⟩
  refine ⟨w.heap.size + 1, [{ target := .collected w.heap.size, args := #[] }], W1, { target := .fn (.func gf) lb, args := #[.func (.yield (w.heap.size + 1)) #[] #[]] }, W1, gf,
    #[.func (.yield (w.heap.size + 1)) #[] #[]] ++ lb, W1, ?_, ?_, ?_, ?_, fun _ => h1, ?_⟩
  · rw [← hW1]; exact run_enterLoop_outer _ _ _ _ _
  · simp only [resolve, hg]
    simp [go_sem]
  · intro f' hf'
    simp [Target.leads] at hf'
    subst hf'
    exact hFg
  · simp [invoke, go_sem, eg]
  · refine (hit (w.heap.size + 1) (fun i W => I i W ∧ W.heap[w.heap.size + 1]? = some (.loop (rec' .ready)) ∧ W.heap[w.heap.size]? = some (.deferred (some []))) W1 hb1 (by omega) (by omega)
      (fun i A B h hb => ⟨hI i A B h.1 (hb.mono (by omega)), (hb.block _ (by omega)).trans h.2.1, (hb.block _ (by omega)).trans h.2.2⟩) ?_ ⟨hI 0 _ _ h0 hb1, hL1, hD1⟩).mono ?_
    · rintro i A hi ⟨hIA, hl, hd⟩
      have hlt : w.heap.size + 1 < A.heap.size := (Array.getElem?_eq_some_iff.1 hl).1
      have hy := run_yield (P := P) (args := encs i) hl (hps i)
      have hbr : (Instr.beginRound (w.heap.size + 1)).run P A = .ok () (A.putObj (w.heap.size + 1) (.loop (rec' .busy))) := run_beginRound hl rfl
      refine ⟨fn, _, assign, body, hy, roundIn_of_wpIn hfn (hassign _ i A _ ⟨_, hbr, ?_⟩)⟩
      obtain ⟨hb2, hd2⟩ := turn A (.loop (rec' .busy)) hlt
      have hl2 : (A.putObj (w.heap.size + 1) (.loop (rec' .busy))).heap[w.heap.size + 1]? = some (.loop (rec' .busy)) := World.putObj_heap_same hlt
      refine wpIn_mono (hbody _ i _ (hI i _ _ hIA hb2) hi) ?_
      rintro e a3 W3 ⟨rfl, hs3, hI3⟩
      have hlt2 : w.heap.size + 1 < (A.putObj (w.heap.size + 1) (.loop (rec' .busy))).heap.size := (Array.getElem?_eq_some_iff.1 hl2).1
      have hl3 := (hs3.block (w.heap.size + 1) hlt2 (fun hx => by have := hX _ hx; omega)).trans hl2
      have hd3 := (hs3.block w.heap.size (by omega) (fun hx => by have := hX _ hx; omega)).trans (hd2.trans hd)
      have hlt3 : w.heap.size + 1 < W3.heap.size := (Array.getElem?_eq_some_iff.1 hl3).1
      obtain ⟨hb4, hd4⟩ := turn W3 (.loop (rec' .ready)) hlt3
      have her : (Instr.endRound (w.heap.size + 1) none).run P W3 = .ok (.bool true) (W3.putObj (w.heap.size + 1) (.loop (rec' .ready))) := run_endRound (P := P) none hl3
      refine ⟨_, _, her, rfl, ⟨hI _ _ _ hI3 hb4, World.putObj_heap_same hlt3, hd4.trans hd3⟩, ?_⟩
      have s1 : Same (fun k => k = w.heap.size + 1 ∨ X k) A (A.putObj (w.heap.size + 1) (.loop (rec' .busy))) :=
        ⟨hb2.size, fun k _ hn => World.putObj_heap_other (fun e => hn (.inl e))⟩
      have s3 : Same (fun k => k = w.heap.size + 1 ∨ X k) W3 (W3.putObj (w.heap.size + 1) (.loop (rec' .ready))) :=
        ⟨hb4.size, fun k _ hn => World.putObj_heap_other (fun e => hn (.inl e))⟩
      exact (s1.trans (hs3.mono (fun _ h => .inr h))).trans s3
    · rintro e W2 ⟨⟨v, rfl⟩, hI2, hl, hd⟩
      have hlt : w.heap.size + 1 < W2.heap.size := (Array.getElem?_eq_some_iff.1 hl).1
      have hend : (Instr.endLoop (w.heap.size + 1)).run P W2 = .ok none (W2.putObj (w.heap.size + 1) (.loop (rec' .exhausted))) := run_endLoop (P := P) hl (by simp [rec'])
      obtain ⟨hb4, hd4⟩ := turn W2 (.loop (rec' .exhausted)) hlt
      exact ⟨none, _, hend, hdone _ _ (Nat.le_refl _) (hI _ _ _ hI2 hb4) (hd4.trans hd)⟩
end
theorem One.same {T : TypeId} {X : Nat → Prop} {w w' : World} {p : Nat} {v : Value} (h : One T w p v) (k : Same X w w') (hx : ¬ X p) : One T w' p v := (k.block p h.lt hx).trans h
theorem mac_pad1 (i n c : Nat) (x y : UInt8) (p o g : Nat) (T1 T2 : TypeId) (m : List UInt8) (w : World) (hi : i < m.length) (hn : m.length = n) (hp : One T1 w p (.int .u8 (y.toNat : Int))) (ho : One T2 w o (.slice (some ⟨g, 0, none⟩) n c)) (hg : By 5 w g m) (hnm : n ≤ 1000000) :
    Calls Tryd.prog 103 #[.int .i64 i, .int .u8 (x.toNat : Int), .pointer (some ⟨p, 0, none⟩), .pointer (some ⟨o, 0, none⟩)] w fun e w' => e = .returned (.tuple #[]) ∧ w.setCell ⟨g, i, none⟩ (.int .u8 ((x ^^^ y).toNat : Int)) = w' := by
  have cp := hp.cell
  have co := ho.cell
  have cg := hg.cell i hi
  have fg := hg.frozen i
  have hb := ub8_xor x y
  have hin : i < n := by omega
  obtain ⟨z, hz⟩ : ∃ z : Int, z = ((x ^^^ y).toNat : Int) := ⟨_, rfl⟩
  rw [← hz] at hb ⊢
  clear hz hn
  go_enter Tryd.func103, Tryd.ntmps103
  go_wp2_with fail
  go_end0
  exact ⟨rfl, rfl⟩
theorem xorB_set (l : List UInt8) (y : UInt8) (k : Nat) (h : k < l.length) : (mixB (List.replicate l.length 0) (xorB l y) k).set k (l.getD k 0 ^^^ y) = mixB (List.replicate l.length 0) (xorB l y) (k + 1) :=
  mixB_set _ _ k (by simp [xorB_length]) (by simpa using h) _ (xorB_get l y k h)
set_option maxHeartbeats 1000000 in
theorem mac_each_pad (v : Value) (l : List UInt8) (y : UInt8) (p o g c : Nat) (T1 T2 : TypeId) (w w3 : World) (h : Rd w v l) (hl : l.length ≤ 1000000) (hk : Kp w w3) (hgw : w.heap.size ≤ g)
    (hp : One T1 w3 p (.int .u8 (y.toNat : Int))) (ho : One T2 w3 o (.slice (some ⟨g, 0, none⟩) l.length c)) (hpg : p ≠ g) (hog : o ≠ g) (hg : By 5 w3 g (List.replicate l.length 0)) :
    Calls Tryd.prog 102 #[v, .func (.func 103) #[] #[.pointer (some ⟨p, 0, none⟩), .pointer (some ⟨o, 0, none⟩)]] w3 fun e w' => e = .returned (.tuple #[]) ∧ By 5 w' g (xorB l y) ∧ Same (fun k => k = g) w3 w' ∧ Kp w w' := by
  obtain ⟨a, cc, rfl, h1, h2⟩ := h.shape
  unfold maxLen at h2
  have HS := Lib.hid (xorB_set l y)
  have hall : mixB (List.replicate l.length 0) (xorB l y) l.length = xorB l y := by
    have := mixB_all (List.replicate l.length 0) (xorB l y) (by simp [xorB_length])
    rwa [xorB_length] at this
  have HA := Lib.hid hall
  have h00 : mixB (List.replicate l.length 0) (xorB l y) 0 = List.replicate l.length 0 := by simp [mixB]
  have hg0 : By 5 w3 g (mixB (List.replicate l.length 0) (xorB l y) 0) := by rw [h00]; exact hg
  have HL : Hid (∀ k, k ≤ l.length → (mixB (List.replicate l.length 0) (xorB l y) k).length = l.length) := fun k hk => by
    rw [mixB_length _ _ _ (by simp [xorB_length]) (by simpa using hk)]; simp
  clear hall h00 hg
  go_enter Tryd.func102, Tryd.ntmps102
  go_wp2_with fail
  go_loopw [8] (fun i wr => ∃ k : Nat, k ≤ l.length ∧ i = .int .i64 k ∧ By 5 wr g (mixB (List.replicate l.length 0) (xorB l y) k) ∧ Same (fun k => k = g) w3 wr ∧ Kp w wr) (fun i _ => (l.length - (intOf i).toNat))
  case atStart => exact ⟨0, by omega, rfl, hg0, Same.refl _ _, hk⟩
  case round =>
    clear hg0
    obtain ⟨k, hkl, rfl, hB, hS, hkp⟩ := hrel
    by_cases hlt : k < l.length
    · obtain ⟨b, off, rfl, _, hcell⟩ := h.at k hlt
      have hc0 := hkp.cell (hcell k hlt)
      have hpr := hp.same hS hpg
      have hor := ho.same hS hog
      have HX := Lib.hid (mac_pad1 k l.length c (l.getD k 0) y p o g T1 T2 _ wr (by rw [HL.out k hkl]; exact hlt) (HL.out k hkl) hpr hor hB hl)
      have hst := HS.out k hlt
      have HST := Lib.hid hst
      clear hst hcell
      generalize hx : l.getD k 0 = x at *
      clear hx
      go_wp2_with (go_at_call 103; refine HX.out.mono ?_; rintro e w4 ⟨rfl, rfl⟩)
      go_roundw
      case rel => exact ⟨k + 1, by omega, by go_num, hB.set k _ HST.out, hS.setCell _ _ rfl, Below.setCell hkp hgw _⟩
      case measure => simp [intOf]; omega
    · obtain rfl : k = l.length := by omega
      go_wp2_with fail
      go_end0
      exact ⟨rfl, by rw [← HA.out]; exact hB, hS, hkp⟩
set_option maxHeartbeats 1000000 in
theorem mac_padded (v : Value) (l : List UInt8) (y : UInt8) (w : World) (h : Rd w v l) (hl : l.length ≤ 1000000) :
    Calls Tryd.prog 96 #[v, .int .u8 (y.toNat : Int)] w fun e w' => (∃ g, e = .returned (.slice (some ⟨g, 0, none⟩) l.length l.length) ∧ By 5 w' g (xorB l y) ∧ w.heap.size ≤ g) ∧ Kp w w' := by
  obtain ⟨a, cc, rfl, h1, h2⟩ := h.shape
  unfold maxLen at h2
  have hp0 : One 5 (w.alloc (.cells #[.int .u8 (y.toNat : Int)] 5)) w.heap.size (.int .u8 (y.toNat : Int)) := One.new _ _ _
  have hf0 : ∀ W, W = (w.alloc (.cells #[.int .u8 (y.toNat : Int)] 5)).alloc (.cells (Array.replicate l.length (.int .u8 0)) 5) → By 5 W (w.heap.size + 1) (List.replicate l.length 0) := fun W hW => by
    subst hW
    have := By.fresh 5 (w.alloc (.cells #[.int .u8 (y.toNat : Int)] 5)) l.length
    rwa [World.size_alloc] at this
  have HF := Lib.hid hf0
  have HP := Lib.hid hp0
  clear hf0 hp0
  go_enter Tryd.func96, Tryd.ntmps96
  go_wp2_with (at_make; refine wpList_make_fresh (z := .int .u8 0) (b := 1) Tryd.underlying22 Tryd.info5 rfl (by decide) rfl _ _ rfl l.length rfl rfl hl ?_; intro w1 hw1; have hg1 := HF.out w1 hw1; have hp1 : One 5 w1 w.heap.size (.int .u8 (y.toNat : Int)) := (by rw [hw1]; exact HP.out.kp ((Kp.refl _).alloc _)); have hk1 : Kp w w1 := (by rw [hw1]; exact ((Kp.refl w).alloc _).alloc _); have hs1 := hg1.lt; clear hw1)
  have ho3 : One 22 (w1.alloc (.cells #[.slice (some ⟨w.heap.size + 1, 0, none⟩) l.length l.length] 22)) w1.heap.size (.slice (some ⟨w.heap.size + 1, 0, none⟩) l.length l.length) := One.new _ _ _
  refine (mac_each_pad _ l y w.heap.size w1.heap.size (w.heap.size + 1) l.length _ _ w _ h hl (hk1.alloc _) (by omega) (hp1.kp ((Kp.refl _).alloc _)) ho3 (by omega) (by omega) (hg1.kp ((Kp.refl _).alloc _))).mono ?_
  rintro e w4 ⟨rfl, hg4, hS4, hk4⟩
  have ho4 := (ho3.same hS4 (by omega)).cell
  clear ho3
  go_wp2_with fail
  go_ret
  exact ⟨⟨_, rfl, hg4, by omega⟩, hk4⟩
end Go.Proofs.YtigpgcjbpoaclaaDoor

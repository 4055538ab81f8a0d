/- math.up: a node's path, gone up by a range over a function. -/
import Derived.Test.YtcomgbneacbncaaDoorMathNum
import Derived.Test.YtcomgbneacbncaaDoorYieldA
import Derived.Test.YtcomgbneacbncaaDoorRefMathD
import Derived.Test.YtcomgbneacbncaaDoorRange
set_option linter.unusedVariables false
set_option linter.unusedSimpArgs false
namespace Go.Proofs.YtcomgbneacbncaaDoor
open Go.RowKit

attribute [local go_sem] Oper.semAt_some

set_option maxHeartbeats 1000000 in
theorem up_any (x n : Int) (w : World) :
    Calls Tryd.prog 43 #[.int .i64 x, .int .i64 n] w fun e w' => e = .returned (.func (.func 49) #[] #[.pointer (some ⟨w.heap.size, 0, none⟩), .pointer (some ⟨w.heap.size + 1, 0, none⟩)]) ∧ (w.alloc (.cells #[.int .i64 x] 3)).alloc (.cells #[.int .i64 n] 3) = w' := by
  go_enter Tryd.func43, Tryd.ntmps43
  go_wp2
  go_ret
  exact ⟨rfl, rfl⟩

set_option maxRecDepth 100000 in
set_option maxHeartbeats 4000000 in
theorem up_hands (K j q b1 b2 : Nat) (w : World) (hK : K ≤ 10) (hj : j ≤ K) (hq : q < 2 ^ (K - j)) (h1 : w.cell? ⟨b1, 0, none⟩ = some (.int .i64 ((nd j q : Nat) : Int))) (h2 : w.cell? ⟨b2, 0, none⟩ = some (.int .i64 ((2 ^ K : Nat) : Int))) (hTab : Tab w) (f : Nat → Nat) (hf : f = fun i => nd (j + i) (q / 2 ^ i)) :
    HandsA Tryd.prog 49 #[.pointer (some ⟨b1, 0, none⟩), .pointer (some ⟨b2, 0, none⟩)] (fun i v _ _ => v = #[.int .i64 ((f i : Nat) : Int), .int .i64 ((f (i + 1) : Nat) : Int)]) (K - j) (fun k => k = b1 ∨ k = b2 ∨ k = 1) w := by
  intro l J Jx W hh hl1 hl2 hJ hJx hY h0
  have c1 := hh.cell h1 (.inl rfl)
  have c2 := hh.cell h2 (.inr (.inl rfl))
  have hT := hTab.held hh (.inr (.inr rfl))
  have HJ := Lib.hid hJ
  have HY := Lib.hid hY
  obtain ⟨w1, w2, w3⟩ := way hK hj hq
  have HP : Hid (∀ i W, i < K - j → Tab W → Calls Tryd.prog 40 #[.int .i64 ((f i : Nat) : Int)] W fun e w' => e = .returned (.int .i64 ((f (i + 1) : Nat) : Int)) ∧ W = w') := fun i W hi hT => by
    have h1 := parent_any (j + i) (q / 2 ^ i) W (by omega) (q_big hK (quot_lt hq (by omega))) hT
    rw [← quot_succ] at h1
    rw [hf]
    exact h1
  have HR : Hid (∀ W, Calls Tryd.prog 48 #[.int .i64 ((2 ^ K : Nat) : Int)] W fun e w' => e = .returned (.int .i64 (((2 ^ K : Nat) : Int) - 1)) ∧ W = w') := fun W => root_any _ W (by have := p2_big hK; omega)
  have hf0 : nd j q = f 0 := by rw [hf]; simp
  have hfi : ∀ i, nd (j + i) (q / 2 ^ i) = f i := fun i => by rw [hf]
  simp only [hfi] at w1 w2
  have W1 := Lib.hid (fun i hi => (w1 i hi).2.2)
  have W2 := Lib.hid w2
  have hdk : K - j ≤ 10 := by omega
  rw [hf0] at c1
  have HH := Lib.hid hh
  generalize ((2 ^ K : Nat) : Int) = N at *
  clear hJ hY w1 w2 w3 hf hf0 hfi h1 h2 hTab hh hq
  refine (callsIn_wide (n := 5)).1 ?_
  refine callsIn_of_wp Tryd.func49 rfl trivial ?_ rfl
  simp only [Tryd.ntmps49, List.append_toArray, List.append_nil, List.size_toArray, List.length_cons, List.length_nil, Nat.reduceAdd, Nat.reduceSub, Array.replicate_succ, Array.replicate_zero, List.push_toArray, List.nil_append, List.cons_append]
  gi_wp2
  gi_loopw [4] (fun p wr => ∃ (i : Nat) (Y : Nat → Prop), i ≤ K - j ∧ p = .int .i64 ((f i : Nat) : Int) ∧ wr.cell? ⟨b2, 0, none⟩ = some (.int .i64 N) ∧ Tab wr ∧ Held (fun k => k = b1 ∨ k = b2 ∨ k = 1) w wr ∧ J i Y wr ∧ (∀ k, Y k → W.heap.size ≤ k ∧ k < wr.heap.size) ∧ W.heap.size ≤ wr.heap.size) (fun p _ => 30 - lev (intOf p).toNat)
  case atStart => exact ⟨0, _, by omega, rfl, c2, hT, HH.out, h0, fun _ h => h.elim, Nat.le_refl _⟩
  case round =>
    clear c1 c2 hT h0
    obtain ⟨i, Y, hi, rfl, hc2, hT, hhw, hjy, hyb, hsz⟩ := hrel
    have hmx : Tryd.prog.follows .mixedOrders = true := by kernel_rfl
    have hls : Tryd.prog.follows .lateStores = true := by kernel_rfl
    have hroot := W2.out i hi
    by_cases hlt : i < K - j
    · have hne : ¬ ((f i : Nat) : Int) = N - 1 := fun h => by have := hroot.1 h; omega
      have hbf : (((f i : Nat) : Int) != N - 1) = true := bne_iff_ne.2 hne
      obtain ⟨fn, tmps, assign, body, hy, hR⟩ := HY.out i Y wr #[.int .i64 ((f i : Nat) : Int), .int .i64 ((f (i + 1) : Nat) : Int)] 4 hlt hjy hyb hhw rfl
      have HLV := Lib.hid (And.intro (W1.out i hi) (W1.out (i + 1) (by omega)))
      have HTT := Lib.hid hT
      clear hroot hne
      gi_wp2_with (first | (refine ⟨trivial, ?_⟩; gi_at_call 48; refine (callsIn_wide.2 (HR.out _)).mono ?_; rintro _ _ ⟨rfl, rfl⟩) | (refine ⟨trivial, ?_⟩; gi_at_call 40; refine (callsIn_wide.2 (HP.out i _ hlt HTT.out)).mono ?_; rintro _ _ ⟨rfl, rfl⟩))
      refine hR.mono ?_
      rintro e w2 ⟨hh2, (⟨rfl, hj2⟩ | ⟨rfl, hx2⟩)⟩
      · have hc3 := hh2.cell hc2 (.inr (.inr (.inl rfl)))
        have hT3 := HTT.out.held hh2 (.inr (.inr (.inr rfl)))
        have HT3 := Lib.hid hT3
        have HH3 := Lib.hid (hhw.trans (hh2.mono (fun _ h => .inr h)))
        clear hy hR hT3
        gi_wp2_with (refine ⟨trivial, ?_⟩; gi_at_call 40; refine (callsIn_wide.2 (HP.out i _ hlt HT3.out)).mono ?_; rintro _ _ ⟨rfl, rfl⟩)
        go_roundw
        case rel => exact ⟨i + 1, Y, by omega, rfl, hc3, HT3.out, HH3.out, hj2, fun k h => ⟨(hyb k h).1, Nat.lt_of_lt_of_le (hyb k h).2 hh2.size⟩, by have := hh2.size; omega⟩
        case measure => have := HLV.out; simp [intOf]; omega
      · clear hy hR
        gi_wp2
        refine bodyPost_ret (results_none rfl _ _ _) rfl ?_
        exact ⟨⟨_, rfl⟩, Y, fun k h => ⟨(hyb k h).1, Nat.lt_of_lt_of_le (hyb k h).2 hh2.size⟩, .inr ⟨i, hlt, hx2⟩⟩
    · obtain rfl : i = K - j := by omega
      have heq : ((f (K - j) : Nat) : Int) = N - 1 := hroot.2 rfl
      have hbf : (((f (K - j) : Nat) : Int) != N - 1) = false := by rw [heq]; simp
      clear heq hroot
      gi_wp2_with (refine ⟨trivial, ?_⟩; gi_at_call 48; refine (callsIn_wide.2 (HR.out _)).mono ?_; rintro _ _ ⟨rfl, rfl⟩)
      go_end0
      exact ⟨⟨_, rfl⟩, Y, hyb, .inl hjy⟩
end Go.Proofs.YtcomgbneacbncaaDoor

/- slices.Backward of a row of ints: an iterator over it, from its end. -/
import Derived.Test.YtobldbodafaajaaGreatDoorVal9
import Derived.Test.YtobldbodafaajaaGreatDoorIter9
import Derived.Test.YtobldbodafaajaaGreatDoorMathCode9
import Derived.WalkMore
set_option linter.unusedVariables false
set_option linter.unusedSimpArgs false
namespace Go.Proofs.YtobldbodafaajaaGreatDoor
open Go.RowKit

attribute [local go_sem] Oper.semAt_some

set_option maxHeartbeats 1000000 in
theorem backward_any (a : Option Addr) (n c : Nat) (w : World) :
    Calls Tryz.prog 46 #[.slice a n c] w fun e w' => e = .returned (.func (.func 81) #[] #[.pointer (some ⟨w.heap.size, 0, none⟩)]) ∧ w.alloc (.cells #[.slice a n c] 35) = w' := by
  go_enter Tryz.func46, Tryz.ntmps46
  go_wp2
  go_ret
  exact ⟨rfl, rfl⟩

set_option maxRecDepth 100000 in
set_option maxHeartbeats 3000000 in
theorem backward_hands (PL : List Nat) (N : Nat) (a : Option Addr) (c b1 gB off : Nat) (w : World) (hN : N ≤ 100000) (h1 : w.cell? ⟨b1, 0, none⟩ = some (.slice a N c))
    (hc : 0 < N → a = some ⟨gB, off, none⟩ ∧ ∀ i, i < N → w.cell? ⟨gB, off + i, none⟩ = some (.int .i64 ((PL.getD i 0 : Nat) : Int))) :
    HandsA Tryz.prog 81 #[.pointer (some ⟨b1, 0, none⟩)] (fun i v _ _ => v = #[.int .i64 (((N - 1 - i : Nat)) : Int), .int .i64 ((PL.getD (N - 1 - i) 0 : Nat) : Int)]) N (fun k => k = b1 ∨ k = gB) w := by
  intro l J Jx W hh hl1 hl2 hJ hJx hY h0
  have c1 := hh.cell h1 (.inl rfl)
  have HC1 := Lib.hid h1
  have HJ := Lib.hid hJ
  have HY := Lib.hid hY
  have HC := Lib.hid hc
  have HH := Lib.hid hh
  have i0 : IntKind.i64.wrap ((N : Int) - 1) = (N : Int) - 1 := IntWalk.i64_in _ (by omega)
  clear hJ hY h1 hc hh
  refine (callsIn_wide (n := 5)).1 ?_
  refine callsIn_of_wp Tryz.func81 rfl trivial ?_ rfl
  simp only [Tryz.ntmps81, List.append_toArray, List.append_nil, List.size_toArray, List.length_cons, List.length_nil, Nat.reduceAdd, Nat.reduceSub, Array.replicate_succ, Array.replicate_zero, List.push_toArray, List.nil_append, List.cons_append]
  gi_wp2
  gi_loopw [3] (fun p wr => ∃ (i : Nat) (Y : Nat → Prop), i ≤ N ∧ p = .int .i64 ((N : Int) - 1 - (i : Int)) ∧ Held (fun k => k = b1 ∨ k = gB) w wr ∧ J i Y wr ∧ (∀ k, Y k → W.heap.size ≤ k ∧ k < wr.heap.size) ∧ W.heap.size ≤ wr.heap.size) (fun p _ => (intOf p + 1).toNat)
  case atStart => exact ⟨0, _, by omega, by simp, HH.out, h0, fun _ h => h.elim, Nat.le_refl _⟩
  case round =>
    clear c1 h0
    obtain ⟨i, Y, hi, rfl, hhw, hjy, hyb, hsz⟩ := hrel
    have hmx : Tryz.prog.follows .mixedOrders = true := by kernel_rfl
    have hls : Tryz.prog.follows .lateStores = true := by kernel_rfl
    have c1 := hhw.cell HC1.out (.inl rfl)
    by_cases hlt : i < N
    · obtain ⟨M, hM⟩ : ∃ M, N - 1 - i = M := ⟨_, rfl⟩
      have hMi : (N : Int) - 1 - (i : Int) = (M : Int) := by omega
      obtain ⟨rfl, hcc⟩ := HC.out (by omega)
      have c2 := hhw.cell (hcc M (by omega)) (.inr rfl)
      have i2 : (M : Int) < (N : Int) := by omega
      have i1 : IntKind.i64.wrap ((M : Int) - 1) = (M : Int) - 1 := IntWalk.i64_in _ (by omega)
      have hTT : (#[.int .i64 (M : Int), .int .i64 ((PL.getD M 0 : Nat) : Int)] : Array Value) = #[.int .i64 (((N - 1 - i : Nat)) : Int), .int .i64 ((PL.getD (N - 1 - i) 0 : Nat) : Int)] := by rw [hM]
      obtain ⟨fn, tmps, assign, body, hy, hR⟩ := HY.out i Y wr #[.int .i64 (M : Int), .int .i64 ((PL.getD M 0 : Nat) : Int)] 4 hlt hjy hyb hhw hTT
      have HM := Lib.hid (And.intro hM (And.intro hlt hMi))
      have HYB := Lib.hid (And.intro hyb (And.intro hhw hsz))
      rw [hMi]
      generalize ((PL.getD M 0 : Nat) : Int) = V at *
      clear hcc hTT hM hMi hyb hhw hsz hjy hlt hi
      gi_wp2
      refine hR.mono ?_
      rintro e w2 ⟨hh2, (⟨rfl, hj2⟩ | ⟨rfl, hx2⟩)⟩
      · have HH3 := Lib.hid (HYB.out.2.1.trans (hh2.mono (fun _ h => .inr h)))
        have HB3 : Hid (∀ k, Y k → W.heap.size ≤ k ∧ k < w2.heap.size) := fun k h => ⟨(HYB.out.1 k h).1, Nat.lt_of_lt_of_le (HYB.out.1 k h).2 hh2.size⟩
        have HS3 := Lib.hid (Nat.le_trans HYB.out.2.2 hh2.size)
        have HJ2 := Lib.hid hj2
        clear hy hR hh2 hj2 c1 c2
        gi_wp2
        go_roundw
        case rel => exact ⟨i + 1, Y, HM.out.2.1, by have := HM.out; congr 1 <;> omega, HH3.out, HJ2.out, HB3.out, HS3.out⟩
        case measure => have := HM.out; simp [intOf] <;> omega
      · have HB3 : Hid (∀ k, Y k → W.heap.size ≤ k ∧ k < w2.heap.size) := fun k h => ⟨(HYB.out.1 k h).1, Nat.lt_of_lt_of_le (HYB.out.1 k h).2 hh2.size⟩
        have HX2 := Lib.hid hx2
        clear hy hR hh2 hx2 c1 c2
        gi_wp2
        refine bodyPost_ret (results_none rfl _ _ _) rfl ?_
        exact ⟨⟨_, rfl⟩, Y, HB3.out, .inr ⟨i, HM.out.2.1, HX2.out⟩⟩
    · obtain rfl : i = N := by omega
      have hneg : ¬ (0 : Int) ≤ (i : Int) - 1 - (i : Int) := by omega
      have e : (i : Int) - 1 - (i : Int) = -1 := by omega
      have HJY := Lib.hid (And.intro hyb hjy)
      rw [e]
      clear hyb hjy hhw hsz hneg e
      gi_wp2
      refine bodyPost_end (results_none rfl _ _ _) rfl ?_
      exact ⟨⟨_, rfl⟩, Y, HJY.out.1, .inl HJY.out.2⟩
end Go.Proofs.YtobldbodafaajaaGreatDoor

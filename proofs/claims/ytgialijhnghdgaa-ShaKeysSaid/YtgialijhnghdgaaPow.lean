/- pyxlaw02.cube. -/
import Derived.Test.YtgialijhnghdgaaMul
set_option linter.unusedVariables false
set_option linter.unusedSimpArgs false
namespace Go.Proofs.Ytgialijhnghdgaa
open Go.RowKit

theorem Ir.new2 (T : TypeId) (w : World) (o : Obj) (cs : Array Value) (l : List Nat) (h : cs = icells l) : Ir T ((w.alloc o).alloc (.cells cs T)) (w.heap.size + 1) l := by
  have := Ir.new T (w.alloc o) cs l h
  rwa [World.size_alloc] at this
theorem digits_low (x : Nat) (h : x < 281474976710656) : Low (digits x) := by
  intro i
  unfold digits
  match i with
  | 0 => simp; omega
  | 1 => simp; omega
  | 2 => simp; omega
  | i + 3 => simp
theorem mulP_low (a b : List Nat) (ha : Low a) (hb : Low b) : Low (mulP a b) := mulTo_low a b ha hb _
theorem mulP_length (a b : List Nat) : (mulP a b).length = a.length + b.length := mulTo_length a b _

theorem mul_at (ga gb ca cb la lb n : Nat) (a b : List Nat) (w : World) (ha : Ir 3 w ga a) (hb : Ir 3 w gb b) (la1 : a.length = la) (lb1 : b.length = lb) (hA : Low a) (hB : Low b) (h6 : la ≤ 8) (h7 : lb ≤ 8) (hn : la + lb = n) :
    Calls Try.prog 33 #[.slice (some ⟨ga, 0, none⟩) la ca, .slice (some ⟨gb, 0, none⟩) lb cb] w fun e w' => (∃ g, e = .returned (.slice (some ⟨g, 0, none⟩) n n) ∧ Ir 3 w' g (mulP a b)) ∧ Kp w w' := by
  subst hn
  exact mul_any ga gb ca cb la lb a b w ha hb la1 lb1 hA hB h6 h7

set_option maxRecDepth 100000 in
set_option maxHeartbeats 4000000 in
theorem cube_any (x p : Nat) (w : World) (hx : x < 281474976710656) :
    Calls Try.prog 23 #[.int .i64 x, .int .i64 p] w fun e w' => e = .returned (.bool (cubeB x p)) ∧ Kp w w' := by
  obtain ⟨B, hB⟩ : ∃ B, cubeB x p = B := ⟨_, rfl⟩
  rw [hB]
  unfold cubeB cubeL at hB
  have hlow := digits_low x hx
  have HB := Lib.hid hB
  have hl9 : (mulP (mulP (digits x) (digits x)) (digits x)).length = 9 := by rw [mulP_length, mulP_length]; rfl
  have HL := Lib.hid hl9
  have HLO := Lib.hid hlow
  have hd : digits x = [x % 65536, x / 65536 % 65536, x / 4294967296] := rfl
  obtain ⟨X0, h0⟩ : ∃ X0, x % 65536 = X0 := ⟨_, rfl⟩
  obtain ⟨X1, h1⟩ : ∃ X1, x / 65536 = X1 := ⟨_, rfl⟩
  obtain ⟨X2, h2⟩ : ∃ X2, x / 4294967296 = X2 := ⟨_, rfl⟩
  rw [h0, h1, h2] at hd
  obtain ⟨X3, h3⟩ : ∃ X3, X1 % 65536 = X3 := ⟨_, rfl⟩
  rw [h3] at hd
  have HDI := Lib.hid hd
  have e0 : (x : Int) % 65536 = (X0 : Int) := by omega
  have e1 : (x : Int) / 65536 = (X1 : Int) := by omega
  have e2 : (x : Int) / 4294967296 = (X2 : Int) := by omega
  have e3 : (X1 : Int) % 65536 = (X3 : Int) := by omega
  clear hB hl9 hlow hd h0 h1 h2 h3
  go_enter Try.func23, Try.ntmps23
  go_wp2_with fail
  refine (mul_at w.heap.size (w.heap.size + 1) 3 3 3 3 6 (digits x) (digits x) _ ((Ir.new 3 w _ (digits x) (by rw [HDI.out]; rfl)).kp ((Kp.refl _).alloc _)) (Ir.new2 3 w _ _ (digits x) (by rw [HDI.out]; rfl)) rfl rfl HLO.out HLO.out (by decide) (by decide) rfl).mono ?_
  rintro e w2 ⟨⟨g, rfl, hI⟩, hk⟩
  have hk2 : Kp w w2 := (((Kp.refl w).alloc _).alloc _).trans hk
  clear hk
  go_wp2_with fail
  refine (mul_at g w2.heap.size 6 3 6 3 9 (mulP (digits x) (digits x)) (digits x) _ (hI.kp ((Kp.refl _).alloc _)) (Ir.new 3 w2 _ (digits x) (by rw [HDI.out]; rfl)) (by rw [mulP_length]; rfl) rfl (mulP_low _ _ HLO.out HLO.out) HLO.out (by decide) (by decide) rfl).mono ?_
  rintro e w3 ⟨⟨g3, rfl, hI3⟩, hk3⟩
  have hk4 : Kp w w3 := (hk2.alloc _).trans hk3
  clear hk3 hk2 hI
  have hcell := fun j (hj : j < 9) => hI3.cell j (by rw [HL.out]; exact hj)
  have hB := HB.out
  obtain ⟨R, hR⟩ : ∃ R, mulP (mulP (digits x) (digits x)) (digits x) = R := ⟨_, rfl⟩
  rw [hR] at hB hcell
  have HC := Lib.hid hcell
  clear hcell hI3 hR HL HB HLO HDI
  go_wp2_with fail
  go_loopw [6] (fun v wr => (∃ i : Nat, i ≤ 9 ∧ v = .int .i64 ((i : Int) - 1) ∧ cmp R p i = B) ∧ w3 = wr) (fun v _ => (intOf v + 1).toNat)
  case atStart => exact ⟨⟨9, by omega, rfl, hB⟩, rfl⟩
  case round =>
    clear hB
    obtain ⟨⟨i, hi, rfl, hB⟩, rfl⟩ := hrel
    cases i with
    | zero =>
      have hB' : B = true := by rw [← hB]; rfl
      subst hB'
      have z0 : ((0 : Nat) : Int) - 1 = -1 := rfl
      rw [z0]
      go_wp2_with fail
      go_ret
      exact ⟨rfl, hk4⟩
    | succ j =>
      have c := HC.out j (by omega)
      have z0 : ((j + 1 : Nat) : Int) - 1 = (j : Int) := by omega
      rw [z0]
      unfold cmp at hB
      obtain ⟨Y, hY⟩ : ∃ Y, R.getD j 0 = Y := ⟨_, rfl⟩
      rw [hY] at c hB
      have hj9 : (j : Int) < 9 := by omega
      have w1 : IntKind.i64.wrap ((j : Int) - 1) = (j : Int) - 1 := by rw [IntKind.wrap_i64]; omega
      clear hY z0
      by_cases h6 : j = 6
      · rw [if_pos h6] at hB
        have h6i : (j : Int) = 6 := by omega
        have h6d : ((j : Int) == 6) = true := by simp; omega
        clear h6i
        by_cases hy : Y = p
        · rw [if_pos hy] at hB
          have hyd : ((Y : Int) != (p : Int)) = false := by simp; omega
          have HBB := Lib.hid hB
          have HY := Lib.hid hy
          clear hB hy h6
          go_wp2_with fail
          go_roundw
          case rel => exact ⟨⟨j, by omega, rfl, HBB.out⟩, trivial⟩
          case measure => simp [intOf]
        · rw [if_neg hy] at hB
          have hyd : ((Y : Int) != (p : Int)) = true := by simp; omega
          have HBB := Lib.hid hB
          clear hB hy h6
          go_wp2_with fail
          go_ret
          exact ⟨by rw [← HBB.out]; simp, hk4⟩
      · rw [if_neg h6] at hB
        have h6d : ((j : Int) == 6) = false := by simp; omega
        by_cases hy : Y = 0
        · rw [if_pos hy] at hB
          have hyd : ((Y : Int) != 0) = false := by simp; omega
          have HBB := Lib.hid hB
          clear hB hy h6
          go_wp2_with fail
          go_roundw
          case rel => exact ⟨⟨j, by omega, rfl, HBB.out⟩, trivial⟩
          case measure => simp [intOf]
        · rw [if_neg hy] at hB
          have hyd : ((Y : Int) != 0) = true := by simp; omega
          have HBB := Lib.hid hB
          clear hB hy h6
          go_wp2_with fail
          go_ret
          exact ⟨by rw [← HBB.out]; simp, hk4⟩
end Go.Proofs.Ytgialijhnghdgaa

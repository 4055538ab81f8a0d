/- pyxref05.boxes: the box's row. -/
import Derived.Test.YtfnkcdcbjcoefaaRefBox
import Derived.Test.YtfnkcdcbjcoefaaAesPow
import Derived.Test.YtfnkcdcbjcoefaaByteRow
import Derived.StillTailTactics
import Derived.Deep.RegionHeld3
set_option linter.unusedVariables false
set_option linter.unusedSimpArgs false
namespace Go.Proofs.Ytfnkcdcbjcoefaa
open Go.RowKit

theorem ow_some5 {e : TypeId} {w : World} {B : Nat} {v : Value} {l : List UInt8} (h : Ow e w B v l) (hp : 0 < l.length) : ∃ g c, v = .slice (some ⟨g, 0, none⟩) l.length c ∧ B ≤ g ∧ g < w.heap.size ∧ l.length ≤ c ∧ c ≤ maxLen := by
  rcases h.shape with ⟨_, h0⟩ | h
  · rw [h0] at hp; simp at hp
  · exact h
theorem turned_any (x : UInt8) (w : World) : Calls Try.prog 30 #[.int .u8 (x.toNat : Int)] w fun e w' => e = .returned (.int .u8 ((turnB x).toNat : Int)) ∧ w = w' := by
  rw [turnB_nat]
  exact refTurned_nat x.toNat w (u8_lt x)
theorem cell_same5 {w w' : World} {g : Nat} (h : w'.heap[g]? = w.heap[g]?) (i : Nat) : w'.cell? ⟨g, i, none⟩ = w.cell? ⟨g, i, none⟩ := by
  simp [World.cell?, h]
theorem tab_next (n : Nat) (f : Nat → UInt8) : tab (n + 1) f = tab n f ++ [f n] := by simp [tab, List.range_succ]

set_option maxRecDepth 100000 in
set_option maxHeartbeats 2000000 in
theorem boxes_any (w : World) : Calls Try.prog 27 #[] w fun e w' => (e = .returned (.slice (some ⟨w.heap.size, 0, none⟩) 256 256) ∧ By 5 w' w.heap.size boxRow) ∧ Kp w w' := by
  have U := u8
  have HTL := Lib.hid (fun n => tab_length n p3B)
  have HTN := Lib.hid (fun n => tab_next n p3B)
  have HTG := Lib.hid (fun n i h => tab_get n p3B i h)
  have HPN := Lib.hid p3B_next
  have HF := Lib.hid (fun k l h => BoxTo.next (k := k) (l := l) h)
  have H0 : Hid (BoxTo 0 ((List.replicate 256 (0 : UInt8)).set 0 (turnB 0))) := BoxTo.begin
  obtain ⟨L0, hL0⟩ : ∃ L, (List.replicate 256 (0 : UInt8)).set 0 (turnB 0) = L := ⟨_, rfl⟩
  rw [hL0] at H0
  have HL0 := Lib.hid hL0
  have HT0 : Hid (∀ W, Calls Try.prog 30 #[.int .u8 0] W fun e w' => e = .returned (.int .u8 ((turnB 0).toNat : Int)) ∧ W = w') := fun W => turned_any 0 W
  have HR : Hid ((List.replicate 256 (0 : UInt8)).length = 256) := List.length_replicate
  clear hL0
  go_enter Try.func27, Try.ntmps27
  go_wp2_with (first
    | (at_make; refine wpList_make_fresh (z := .int .u8 0) (b := 1) Try.underlying22 Try.info5 rfl (by decide) rfl _ _ rfl 256 rfl rfl (by omega) ?_; intro w1 hw1; have hB0 : By 5 w1 w.heap.size (List.replicate 256 0) := (by rw [hw1]; exact By.fresh _ _ _); have k0 : Kp w w1 := (by rw [hw1]; exact (Kp.refl _).alloc _); have hsz : w.heap.size + 1 = w1.heap.size := (by rw [hw1]; simp); clear hw1; have c0 := hB0.cell 0 (by rw [HR.out]; omega); have f0 := hB0.frozen 0)
    | (go_at_call 30; refine (HT0.out _).mono ?_; rintro _ _ ⟨rfl, rfl⟩))
  have hB := hB0.set 0 (turnB 0) HL0.out
  have hk1 := Below.setCell k0 (p := ⟨w.heap.size, 0, none⟩) (by simp) (.int .u8 ((turnB 0).toNat : Int))
  obtain ⟨w2, hw2⟩ : ∃ w2, w1.setCell ⟨w.heap.size, 0, none⟩ (.int .u8 ((turnB 0).toNat : Int)) = w2 := ⟨_, rfl⟩
  have hsz2 : w2.heap.size = w.heap.size + 1 := by rw [← hw2, hsz]; simp [World.setCell]
  have hsz3 : w1.heap.size = w2.heap.size := by omega
  rw [hw2] at hB hk1 ⊢
  have hk2 : Kp w w2 := hk1
  have HT1 : Hid (tab 1 p3B = [1]) := rfl
  rw [hsz3]
  clear hB0 c0 f0 k0 hsz hsz3 hw2 HL0 HT0 HR hk1
  go_loopw [2, 3] (fun vp p wr => ∃ n : Nat, 1 ≤ n ∧ n ≤ 255 ∧ p = .int .i64 n ∧ Ow 5 wr (w.heap.size + 1) vp (tab n p3B) ∧ By 5 wr w.heap.size L0 ∧ Kp w wr ∧ w.heap.size + 1 ≤ wr.heap.size) (fun _ p _ => 255 - (intOf p).toNat)
  case atStart => exact ⟨1, by omega, by omega, rfl, by rw [HT1.out]; exact Ow.lit w2 5 (w.heap.size + 1) 1 _ [1] (by omega) rfl (by decide) rfl, hB.kp ((Kp.refl _).alloc _), hk2.alloc _, by simp; omega⟩
  case round =>
    clear hB hk2 hsz2
    obtain ⟨n, h1, hn, rfl, ho, hB, hk, hs⟩ := hrel
    have hl := HTL.out n
    obtain ⟨gp, cp, rfl, q1, q2, q3, q4⟩ := ow_some5 ho (by omega)
    rw [hl] at ho q3 ⊢
    unfold maxLen at q4
    by_cases hlt : n < 255
    · have hq : (n : Int) < 255 := by omega
      have hi1 : IntKind.i64.wrap ((n : Int) - 1) = (n : Int) - 1 := IntWalk.i64_in _ (by omega)
      have hi2 : ((n : Int) - 1).toNat = n - 1 := by omega
      have hi3 : 0 ≤ (n : Int) - 1 := by omega
      have hi4 : (n : Int) - 1 < (n : Int) := by omega
      obtain ⟨b, off, hbo, hblt, hcell⟩ := ho.rd.at 0 (by omega)
      cases hbo
      have hc := hcell (n - 1) (by omega)
      rw [HTG.out n (n - 1) (by omega)] at hc
      have hcc : wr.cell? ⟨gp, n - 1, none⟩ = some (.int .u8 ((p3B (n - 1)).toNat : Int)) := by rw [Nat.zero_add] at hc; exact hc
      have hp := HPN.out (n - 1)
      rw [show n - 1 + 1 = n by omega] at hp
      have hm := refMul_any (p3B (n - 1)) 3 wr
      rw [← hp] at hm
      have HM : Hid (Calls Try.prog 14 #[.int .u8 ((p3B (n - 1)).toNat : Int), .int .u8 3] wr fun e w' => e = .returned (.int .u8 ((p3B n).toNat : Int)) ∧ wr = w') := hm
      have htn := HTN.out n
      generalize p3B (n - 1) = X at *
      generalize p3B n = Y at *
      generalize tab n p3B = T at *
      have HN := Lib.hid htn
      have HT := Lib.hid hl
      clear hp hm hcell hc htn hl
      go_wp2_with (first
        | (go_at_call 14; refine HM.out.mono ?_; rintro _ _ ⟨rfl, rfl⟩)
        | (at_builtin; refine wpList_append_ow U rfl _ _ rfl (w.heap.size + 1) _ _ rfl (ho.kp ((Kp.refl _).alloc _)) _ [Y] rfl (Rd.box _ _ _ Y rfl) ?c1 ?c2 ?_; rotate_right; intro v' w2 ho2 hg _))
      case c1 => rw [HT.out]; simp; omega
      case c2 => simp; omega
      rw [← HN.out] at ho2
      have hk2 : Kp w w2 := Kp.grown (hk.alloc _) hg (fun k e => by have := ho.own_ge k e; omega)
      have hB2 : By 5 w2 w.heap.size L0 := (hg.block w.heap.size (by have := hB.lt; simp; omega) (fun e => by have := ho.own_ge _ e.symm; omega)).trans (hB.kp ((Kp.refl wr).alloc _))
      have hs2 := hg.size
      have hs3 : w.heap.size + 1 ≤ w2.heap.size := by rw [World.size_alloc] at hs2; omega
      clear HM hcc hB hk hs hs2 hg
      go_roundw
      case rel => exact ⟨n + 1, by omega, by omega, by go_num, ho2, hB2, hk2, hs3⟩
      case measure => simp [intOf]; omega
    · obtain rfl : n = 255 := by omega
      obtain ⟨b, off, hbo, hblt, hcell⟩ := ho.rd.at 0 (by omega)
      cases hbo
      have hP : ∀ i, i < 255 → wr.cell? ⟨gp, i, none⟩ = some (.int .u8 ((p3B i).toNat : Int)) := fun i hi => by
        have hc := hcell i hi
        rw [HTG.out 255 i hi, Nat.zero_add] at hc
        exact hc
      have HP := Lib.hid hP
      have hne : w.heap.size ≠ gp := by omega
      have hne2 : gp ≠ w.heap.size := by omega
      clear hcell hlt ho hn h1 hl hP HTL HTN HTG HPN
      go_wp2_with fail
      rw [show ((255 : Nat) : Int) = (255 : Int) from rfl]
      go_loopw [4] (fun p wt => ∃ (k : Nat) (l : List UInt8), k ≤ 255 ∧ p = .int .i64 k ∧ Hid (BoxTo k l) ∧ By 5 wt w.heap.size l ∧ Hid (∀ i, i < 255 → wt.cell? ⟨gp, i, none⟩ = some (.int .u8 ((p3B i).toNat : Int))) ∧ Kp w wt) (fun p _ => 255 - (intOf p).toNat)
      case atStart => exact ⟨0, L0, by omega, rfl, H0, hB, HP, hk⟩
      case round =>
        clear hB HP hk hs q2 hblt
        obtain ⟨wt, rfl⟩ : ∃ wt, wt = wr := ⟨_, rfl⟩
        obtain ⟨k, l, hk, rfl, HBX, hB, HP, hkp⟩ := hrel
        by_cases hlt : k < 255
        · have hnx := Lib.hid (HF.out k l HBX.out hlt)
          have hll : l.length = 256 := HBX.out.1
          have c1 := HP.out k hlt
          obtain ⟨m, hm⟩ : ∃ m, (255 - k) % 255 = m := ⟨_, rfl⟩
          have hm255 : m < 255 := by omega
          have c2 := HP.out m hm255
          have hX := p3B_nat k
          have hXl := p3_lt k
          have ht := turned_any (p3B m) wt.drew
          rw [hm, ← hX] at hnx
          rw [← hX] at hXl
          have c3 := hB.cell (p3B k).toNat (by rw [hll]; exact hXl)
          have f3 := hB.frozen (p3B k).toNat
          have i1 : IntKind.i64.wrap (255 - (k : Int)) = 255 - (k : Int) := IntWalk.i64_in _ (by omega)
          have i2 : (255 - (k : Int)).tmod 255 = (m : Int) := by rw [Int.tmod_eq_emod_of_nonneg (by omega)]; omega
          have i3 : (255 - (k : Int)) % 255 = (m : Int) := by omega
          have i4 : (m : Int) < 255 := by omega
          have i5 : (k : Int) < 255 := by omega
          have i6 : ((p3B k).toNat : Int) < 256 := by omega
          have i7 : IntKind.i64.wrap ((p3B k).toNat : Int) = ((p3B k).toNat : Int) := IntWalk.i64_in _ (by omega)
          have hB2 := (hB.kp (Kp.refl wt).drew).set (p3B k).toNat (turnB (p3B m)) rfl
          have hsc : ∀ i V, wt.cell? ⟨gp, i, none⟩ = some V → (wt.drew.setCell ⟨w.heap.size, (p3B k).toNat, none⟩ (.int .u8 ((turnB (p3B m)).toNat : Int))).cell? ⟨gp, i, none⟩ = some V := fun i V h => (cell_same5 (Below.heap_setCell wt.drew ⟨w.heap.size, (p3B k).toNat, none⟩ (.int .u8 ((turnB (p3B m)).toNat : Int)) gp hne2) i).trans h
          have HPS : Hid (∀ i, i < 255 → (wt.drew.setCell ⟨w.heap.size, (p3B k).toNat, none⟩ (.int .u8 ((turnB (p3B m)).toNat : Int))).cell? ⟨gp, i, none⟩ = some (.int .u8 ((p3B i).toNat : Int))) := fun i hi => hsc i _ (HP.out i hi)
          have HS := Lib.hid hsc
          have hkp2 := Below.setCell hkp.drew (p := ⟨w.heap.size, (p3B k).toNat, none⟩) (by simp) (.int .u8 ((turnB (p3B m)).toNat : Int))
          have c3' : wt.drew.cell? ⟨w.heap.size, (p3B k).toNat, none⟩ = _ := c3
          have f3' : wt.drew.frozen? ⟨w.heap.size, (p3B k).toNat, none⟩ = _ := f3
          have i8 : 0 ≤ (m : Int) := by omega
          clear hm hX hXl hsc c3 f3
          have HP2 : Hid (p3 k < 256) := p3_lt k
          generalize hZ : turnB (p3B m) = Z at *
          generalize hY : p3B m = Y at *
          generalize hXX : p3B k = X at *
          generalize hL2 : l.set X.toNat Z = l2 at *
          have HZ := Lib.hid hZ
          have HY := Lib.hid hY
          have HXX := Lib.hid hXX
          clear hZ hY hXX hL2
          go_wp2_with fail
          go_region_held3 (fun W => W.cell? ⟨gp, k, none⟩ = some (.int .u8 (X.toNat : Int)) ∧ W.cell? ⟨gp, m, none⟩ = some (.int .u8 (Y.toNat : Int)))
            (first
              | exact ⟨c1, c2⟩
              | exact ⟨HS.out _ _ c1, HS.out _ _ c2⟩)
            (first
              | (go_at_call 30; refine ht.mono ?_; rintro _ _ ⟨rfl, rfl⟩))
          all_goals
            go_wp2_with fail
            go_roundw
            case rel => exact ⟨k + 1, l2, by omega, by go_num, hnx, hB2, HPS, hkp2⟩
            case measure => simp [intOf]; omega
        · obtain rfl : k = 255 := by omega
          have hl := HBX.out.all
          rw [hl] at hB
          go_wp2_with fail
          go_ret
          exact ⟨⟨rfl, hB⟩, hkp⟩
end Go.Proofs.Ytfnkcdcbjcoefaa

/- (*aes.cipher).next: a row's row behind it. -/
import Derived.Test.YtfnkcdcbjcoefaaAesState
import Derived.Test.YtfnkcdcbjcoefaaAesKeyRows
set_option linter.unusedVariables false
set_option linter.unusedSimpArgs false
namespace Go.Proofs.Ytfnkcdcbjcoefaa
open Go.RowKit

theorem results_by {P : Program} {T ty e : TypeId} {n : Nat} (hu : P.underlying ty = some (.array n e)) (hi : (P.info? ty).map (·.size) = some n) {fn : Func} {p : Tmp} (hr : fn.results = #[.cell p ty]) (tmps : Array Value) (w : World) (g : Nat) (l : List UInt8)
    (hp : tmps.getD p undef = .pointer (some ⟨g, 0, none⟩)) (h : By T w g l) (hl : l.length = n) : (results fn tmps).run P w = .ok (.agg (bcells l)) w :=
  results_cell_row hr tmps w g T (bcells l) (0, 0) _ hp h hu rfl (by rw [hi, bcells_size, hl])

set_option maxRecDepth 100000 in
set_option maxHeartbeats 2000000 in
theorem next_any (gc bx : Nat) (row N : List UInt8) (r : UInt8) (w : World) (hr : row.length = 16) (hN : Nexts row r N) (hC : w.cell? ⟨gc, 0, none⟩ = some (.pointer (some ⟨bx, 0, none⟩))) (hX : By 70 w bx boxRow) :
    Calls Try.prog 37 #[.pointer (some ⟨gc, 0, none⟩), .agg (bcells row), .int .u8 (r.toNat : Int)] w fun e w' => e = .returned (.agg (bcells N)) ∧ Kp w w' := by
  have HSet := Lib.hid (nextA_set hr hN)
  have H1 : Hid (∀ i, i < 4 → (mixB row (nextA row) i).set i (row.getD i 0 ^^^ boxB (row.getD (12 + (i + 1) % 4) 0)) = mixB row (nextA row) (i + 1)) := fun i hi => mixB_set _ _ i (by rw [hr, nextA_length]) (by omega) _ (nextA_some row i (by omega))
  have G1 : Hid (∀ i j, i ≤ 4 → i ≤ j → (mixB row (nextA row) i).getD j 0 = row.getD j 0) := fun i j hi hj => mixB_past _ _ i j (by rw [hr, nextA_length]) (by omega) hj
  have L1 : Hid (∀ i, i ≤ 4 → (mixB row (nextA row) i).length = 16) := fun i hi => by rw [mixB_length _ _ i (by rw [hr, nextA_length]) (by omega), hr]
  have Z1 : Hid ((mixB row (nextA row) 4).getD 0 0 = (nextA row).getD 0 0) := by
    refine (mixB_getD _ _ 4 0 (by rw [hr, nextA_length]) (by omega)).trans ?_
    rw [if_pos (by omega)]
  have h0 : mixB row (nextA row) 0 = row := by simp [mixB]
  have H2 : Hid (∀ i, i < 12 → (mixB row N (i + 4)).set (i + 4) (row.getD (i + 4) 0 ^^^ N.getD i 0) = mixB row N (i + 1 + 4)) := fun i hi => by
    have hh := hN.high (i + 4) (by omega) (by omega)
    rw [Nat.add_sub_cancel] at hh
    rw [show i + 1 + 4 = i + 4 + 1 by omega]
    refine mixB_set _ _ (i + 4) (by rw [hr, hN.len]) (by omega) _ ?_
    rw [← hh, List.getD_eq_getElem?_getD, List.getElem?_eq_getElem (by rw [hN.len]; omega)]
    rfl
  have G2 : Hid (∀ i, i < 12 → (mixB row N (i + 4)).getD (i + 4) 0 = row.getD (i + 4) 0 ∧ (mixB row N (i + 4)).getD i 0 = N.getD i 0) := fun i hi => by
    rw [mixB_getD _ _ (i + 4) _ (by rw [hr, hN.len]) (by omega), mixB_getD _ _ (i + 4) _ (by rw [hr, hN.len]) (by omega), if_neg (by omega), if_pos (by omega)]
    exact ⟨rfl, rfl⟩
  have L2 : Hid (∀ i, i ≤ 12 → (mixB row N (i + 4)).length = 16) := fun i hi => by rw [mixB_length _ _ (i + 4) (by rw [hr, hN.len]) (by omega), hr]
  have A2 : Hid (mixB row N (12 + 4) = N) := by
    have := mixB_all row N (by rw [hr, hN.len])
    rw [hN.len] at this
    exact this
  have B0 : By 51 (w.alloc (.cells (bcells row) 51)) w.heap.size (mixB row (nextA row) 0) := by
    rw [h0]
    exact By.new _ w row
  generalize nextA row = M at *
  have LN := hN.len
  clear hN h0
  go_enter Try.func37, Try.ntmps37
  go_wp2_with fail
  have B1 := B0.kp ((Kp.refl _).alloc (.cells (bcells (List.replicate 16 0)) 51))
  have R1 := By.new 51 (w.alloc (.cells (bcells row) 51)) (List.replicate 16 0)
  rw [World.size_alloc] at R1
  have k1 : Kp w ((w.alloc (.cells (bcells row) 51)).alloc (.cells (bcells (List.replicate 16 0)) 51)) := ((Kp.refl w).alloc _).alloc _
  have e16 : bcells (List.replicate 16 0) = #[Value.int IntKind.u8 0, Value.int IntKind.u8 0, Value.int IntKind.u8 0, Value.int IntKind.u8 0, Value.int IntKind.u8 0, Value.int IntKind.u8 0, Value.int IntKind.u8 0, Value.int IntKind.u8 0, Value.int IntKind.u8 0, Value.int IntKind.u8 0, Value.int IntKind.u8 0, Value.int IntKind.u8 0, Value.int IntKind.u8 0, Value.int IntKind.u8 0, Value.int IntKind.u8 0, Value.int IntKind.u8 0] := rfl
  rw [e16] at B1 R1 k1
  obtain ⟨W1, hW1⟩ : ∃ W, (w.alloc (.cells (bcells row) 51)).alloc (.cells #[Value.int IntKind.u8 0, Value.int IntKind.u8 0, Value.int IntKind.u8 0, Value.int IntKind.u8 0, Value.int IntKind.u8 0, Value.int IntKind.u8 0, Value.int IntKind.u8 0, Value.int IntKind.u8 0, Value.int IntKind.u8 0, Value.int IntKind.u8 0, Value.int IntKind.u8 0, Value.int IntKind.u8 0, Value.int IntKind.u8 0, Value.int IntKind.u8 0, Value.int IntKind.u8 0, Value.int IntKind.u8 0] 51) = W := ⟨_, rfl⟩
  rw [hW1] at B1 R1 k1 ⊢
  have C1 := k1.cell hC
  have X1 := hX.kp k1
  have hbw : bx < w.heap.size := hX.lt
  have hcw : gc < w.heap.size := World.block_lt_of_cell? w _ hC
  clear hW1 e16 B0 hC hX
  go_loopw [11] (fun p wr => ∃ i : Nat, i ≤ 4 ∧ p = .int .i64 i ∧ By 51 wr w.heap.size (mixB row M i) ∧ Wr w.heap.size W1 wr) (fun p _ => 4 - (intOf p).toNat)
  case atStart => exact ⟨0, by omega, rfl, B1, Wr.refl _ _⟩
  case round =>
    clear B1
    obtain ⟨i, hi, rfl, hB, hw⟩ := hrel
    by_cases hlt : i < 4
    · have hq : (i : Int) < 4 := by omega
      have hq16 : (i : Int) < 16 := by omega
      obtain ⟨m, hm⟩ : ∃ m, (i + 1) % 4 = m := ⟨_, rfl⟩
      have hm4 : m < 4 := by omega
      have c1 := hB.cell i (by rw [L1.out i hi]; omega)
      rw [G1.out i i hi (Nat.le_refl _)] at c1
      have c2 := hB.cell (12 + m) (by rw [L1.out i hi]; omega)
      rw [G1.out i (12 + m) hi (by omega)] at c2
      have f1 := hB.frozen i
      have c3 := hw.cell C1 (by show gc ≠ w.heap.size; omega)
      have c4 := (hw.by X1 (by omega)).cell (row.getD (12 + m) 0).toNat (by rw [boxRow_length]; exact u8_lt _)
      rw [boxRow_get] at c4
      have hn := H1.out i hlt
      rw [hm] at hn
      have hx := b8_xor (row.getD i 0) (boxB (row.getD (12 + m) 0))
      have hxl := u8_lt (row.getD (12 + m) 0)
      have hx2 : ((row.getD (12 + m) 0).toNat : Int) < 256 := by omega
      generalize row.getD (12 + m) 0 = U at *
      generalize row.getD i 0 = V at *
      generalize boxB U = Z at *
      generalize V ^^^ Z = Y at *
      have HN := Lib.hid hn
      have i1 : IntKind.i64.wrap ((i : Int) + 1) = (i : Int) + 1 := IntWalk.i64_in _ (by omega)
      have i2 : ((i : Int) + 1).tmod 4 = (m : Int) := by rw [Int.tmod_eq_emod_of_nonneg (by omega)]; omega
      have i3 : ((i : Int) + 1) % 4 = (m : Int) := by omega
      have i4 : (m : Int) < 4 := by omega
      have i5 : 0 ≤ (m : Int) := by omega
      clear hn hm hxl
      go_wp2_with fail
      go_region
      all_goals
        go_wp2_with fail
        go_roundw
        case rel => exact ⟨i + 1, by omega, by go_num, (hB.set i _ HN.out).drew, (hw.setCell i _).drew⟩
        case measure => simp [intOf]; omega
    · obtain rfl : i = 4 := by omega
      have c0 := hB.cell 0 (by rw [L1.out 4 hi]; omega)
      rw [Z1.out] at c0
      have f0 := hB.frozen 0
      have hx := b8_xor (M.getD 0 0) r
      have hB2 := hB.set 0 _ HSet.out
      have hw2 := hw.setCell 0 (.int .u8 ((M.getD 0 0 ^^^ r).toNat : Int))
      generalize M.getD 0 0 ^^^ r = Y at *
      generalize M.getD 0 0 = V at *
      clear HSet H1 G1 L1 Z1 hB hw
      go_wp2_with fail
      generalize wr.setCell ⟨w.heap.size, 0, none⟩ (.int .u8 (Y.toNat : Int)) = W2 at *
      clear c0 f0 hx
      go_loopw [38] (fun p wr => ∃ i : Nat, i ≤ 12 ∧ p = .int .i64 i ∧ By 51 wr w.heap.size (mixB row N (i + 4)) ∧ Wr w.heap.size W1 wr) (fun p _ => 12 - (intOf p).toNat)
      case atStart => exact ⟨0, by omega, rfl, hB2, hw2⟩
      case round =>
        clear hB2 hw2
        obtain ⟨i, hi, rfl, hB, hw⟩ := hrel
        by_cases hlt : i < 12
        · have hq : (i : Int) < 12 := by omega
          have hq2 : (i : Int) < 16 := by omega
          have hq3 : (i : Int) + 4 < 16 := by omega
          have c1 := hB.cell (i + 4) (by rw [L2.out i hi]; omega)
          have c2 := hB.cell i (by rw [L2.out i hi]; omega)
          obtain ⟨g1, g2⟩ := G2.out i hlt
          rw [g1] at c1
          rw [g2] at c2
          have f1 := hB.frozen (i + 4)
          have hn := H2.out i hlt
          have hx := b8_xor (row.getD (i + 4) 0) (N.getD i 0)
          generalize row.getD (i + 4) 0 = U at *
          generalize N.getD i 0 = V at *
          generalize U ^^^ V = Y at *
          have HN := Lib.hid hn
          have i1 : IntKind.i64.wrap ((i : Int) + 4) = (i : Int) + 4 := IntWalk.i64_in _ (by omega)
          have i2 : ((i : Int) + 4).toNat = i + 4 := by omega
          have i3 : (0 : Int) ≤ (i : Int) + 4 := by omega
          clear hn g1 g2
          go_wp2_with fail
          go_region
          all_goals
            go_wp2_with fail
            go_roundw
            case rel => exact ⟨i + 1, by omega, by go_num, (hB.set (i + 4) _ HN.out).drew, (hw.setCell (i + 4) _).drew⟩
            case measure => simp [intOf]; omega
        · obtain rfl : i = 12 := by omega
          rw [A2.out] at hB
          have hR := hw.by R1 (by omega)
          have hk : Kp w wr := Below.trans (show Below w.heap.size w W1 from k1) (hw.below k1.size (Nat.le_refl _))
          clear hlt hi hw R1 k1
          go_wp2_with (first
            | (refine wpList_load_by Try.underlying51 (by kernel_rfl) rfl (.tmp 4) rfl w.heap.size N rfl hB LN ?_)
            | (refine wpList_store_by (by kernel_rfl) rfl rfl (.tmp 6) (.tmp 51) rfl (w.heap.size + 1) (List.replicate 16 0) N rfl rfl hR (by decide) LN ?_; intro w5 hR5 hbut))
          refine bodyPost_ret (results_by Try.underlying51 (by kernel_rfl) rfl _ _ (w.heap.size + 1) N rfl hR5 LN) rfl ?_
          exact ⟨rfl, hbut.below hk (by omega)⟩
end Go.Proofs.Ytfnkcdcbjcoefaa

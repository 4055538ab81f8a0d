/- aes.boxes, Box. -/
import Derived.Test.YtfnkcdcbjcoefaaAesNum
import Derived.Test.YtfnkcdcbjcoefaaRefBoxes
import Derived.Test.YtfnkcdcbjcoefaaIdx
import Derived.Deep.WholeRow
set_option linter.unusedVariables false
set_option linter.unusedSimpArgs false
namespace Go.Proofs.Ytfnkcdcbjcoefaa
open Go.RowKit

theorem p3B_step (i : Nat) : p3B i ^^^ mulB (p3B i) 2 = p3B (i + 1) := by
  rw [p3B_next, show (3 : UInt8) = 1 ^^^ 2 by decide, mulB_add, mulB_one]
def powRow : List UInt8 := tab 255 p3B
theorem powRow_length : powRow.length = 255 := tab_length _ _
theorem powRow_get (i : Nat) (h : i < 255) : powRow[i]? = some (p3B i) := by simp [powRow, tab, h]
/-- The cells of bytes. -/
def bcells (l : List UInt8) : Array Value := (Lib.byteCells l).toArray
theorem bcells_size (l : List UInt8) : (bcells l).size = l.length := by simp [bcells, byteCells_length]
theorem bcells_get (l : List UInt8) (i : Nat) (h : i < l.length) : (bcells l)[i]? = some (.int .u8 ((l.getD i 0).toNat : Int)) := by
  simp [bcells, Lib.byteCells, h]
theorem By.new (T : TypeId) (w : World) (l : List UInt8) : By T (w.alloc (.cells (bcells l) T)) w.heap.size l := heap_alloc_new w _
theorem zero255 : ∀ w, (zeroValue 69).run Try.prog w = .ok (.agg (bcells (List.replicate 255 0))) w := (zero_of_info (n := 255) (by kernel_rfl)).1
theorem zero256 : ∀ w, (zeroValue 70).run Try.prog w = .ok (.agg (bcells (List.replicate 256 0))) w := (zero_of_info (n := 256) (by kernel_rfl)).1
theorem u8_info : ∃ ie, Try.prog.info? 5 = some ie ∧ ie.size = 1 := by
  have h : (Try.prog.info? 5).map (·.size) = some 1 := by kernel_rfl
  cases hq : Try.prog.info? 5 with
  | none => rw [hq] at h; cases h
  | some ie => rw [hq] at h; exact ⟨ie, rfl, by simpa using h⟩

section
variable {P : Program}
theorem wpList_load_by {T ty e : TypeId} {n : Nat} (hu : P.underlying ty = some (.array n e)) (hi : (P.info? ty).map (·.size) = some n) {ops : Array Oper} {rest : List Oper} {o : Oper} {a : Act} {w : World} {Q : Exit → Act → World → Prop} (hgd : o.guard = none) (x : Operand) (ho : o.op = .load ty x)
    (g : Nat) (l : List UInt8) (hx : a.eval x = .pointer (some ⟨g, 0, none⟩)) (h : By T w g l) (hl : l.length = n)
    (hK : wpList P ops Q rest (a.put o.dst (.agg (bcells l))) w) : wpList P ops Q (o :: rest) a w :=
  wpList_load_row hgd ty x ho g hx T (bcells l) (0, 0) _ h hu rfl (by rw [hi, bcells_size, hl]) hK
theorem bcells_one (l : List UInt8) : (bcells l).all (·.oneCell') = true := by
  rw [Array.all_eq_true_iff_forall_mem]
  intro v hv
  simp only [bcells, Lib.byteCells, List.mem_toArray, List.mem_map] at hv
  obtain ⟨x, _, rfl⟩ := hv
  rfl
theorem By.setRow {T : TypeId} {w : World} {g : Nat} {l : List UInt8} (h : By T w g l) (m : List UInt8) : By T (w.setRow g (bcells m)) g m := by
  unfold By at h ⊢
  obtain ⟨hlt, heq⟩ := Array.getElem?_eq_some_iff.1 h
  simp [World.setRow, hlt, Array.getElem_modify, heq, bcells]
theorem wpList_store_by {T ty : TypeId} {n : Nat} (hi : (P.info? ty).map (·.size) = some n) {ops : Array Oper} {rest : List Oper} {o : Oper} {a : Act} {w : World} {Q : Exit → Act → World → Prop} (hgd : o.guard = none) (hd : o.dst = none) (x y : Operand) (ho : o.op = .store ty x y)
    (g : Nat) (l m : List UInt8) (hx : a.eval x = .pointer (some ⟨g, 0, none⟩)) (hy : a.eval y = .agg (bcells m)) (h : By T w g l) (hl : l.length = n) (hm : m.length = n)
    (hK : ∀ W, By T W g m → But g w W → wpList P ops Q rest a W) : wpList P ops Q (o :: rest) a w :=
  wpList_store_row hgd ty x y ho g (bcells m) hx hy T (bcells l) h (by rw [hi, bcells_size, hm]) (by rw [bcells_size, bcells_size, hl, hm]) (bcells_one m) (by rw [hd]; exact hK _ (h.setRow m) (But.setRow g w _))
end

set_option maxRecDepth 100000 in
set_option maxHeartbeats 2000000 in
theorem aesBoxes_any (w : World) : Calls Try.prog 29 #[] w fun e w' => (∃ g, e = .returned (.pointer (some ⟨g, 0, none⟩)) ∧ By 70 w' g boxRow ∧ w.heap.size ≤ g) ∧ Kp w w' := by
  have z1 := zero255
  have z2 := zero256
  have P0 : By 69 (w.alloc (.cells (bcells (List.replicate 255 0)) 69)) w.heap.size (mixB (List.replicate 255 0) powRow 0) := by
    rw [show mixB (List.replicate 255 (0 : UInt8)) powRow 0 = List.replicate 255 0 by simp [mixB]]
    exact By.new _ w _
  have HN : Hid (∀ i, i < 255 → (mixB (List.replicate 255 0) powRow i).set i (p3B i) = mixB (List.replicate 255 0) powRow (i + 1)) := fun i hi =>
    mixB_set _ _ i (by rw [powRow_length, List.length_replicate]) (by rw [List.length_replicate]; exact hi) _ (powRow_get i hi)
  have HL : Hid (∀ i, i ≤ 255 → (mixB (List.replicate 255 0) powRow i).length = 255) := fun i hi => by
    rw [mixB_length _ _ i (by rw [powRow_length, List.length_replicate]) (by rw [List.length_replicate]; exact hi), List.length_replicate]
  have HA : Hid (mixB (List.replicate 255 0) powRow 255 = powRow) := mixB_all _ _ (by rw [powRow_length, List.length_replicate])
  obtain ⟨Z, hZ⟩ : ∃ Z, bcells (List.replicate 255 (0 : UInt8)) = Z := ⟨_, rfl⟩
  obtain ⟨Y, hY⟩ : ∃ Y, bcells (List.replicate 256 (0 : UInt8)) = Y := ⟨_, rfl⟩
  have hZs : Z.size = 255 := by rw [← hZ, bcells_size]; rfl
  have hYs : Y.size = 256 := by rw [← hY, bcells_size]; rfl
  rw [hZ] at z1 P0
  rw [hY] at z2
  generalize hM : mixB (List.replicate 255 0) powRow = M at *
  have HY := Lib.hid hY
  clear hZ hM hY
  go_enter Try.func29, Try.ntmps29
  go_wp2_with fail
  go_loopw [2, 7] (fun x p wr => ∃ i : Nat, i ≤ 255 ∧ p = .int .i64 i ∧ x = .int .u8 ((p3B i).toNat : Int) ∧ By 69 wr w.heap.size (M i) ∧ Kp w wr ∧ w.heap.size < wr.heap.size) (fun _ p _ => 255 - (intOf p).toNat)
  case atStart => exact ⟨0, by omega, rfl, rfl, P0, (Kp.refl _).alloc _, by simp⟩
  case round =>
    clear P0
    obtain ⟨i, hi, rfl, rfl, hP, hk, hs⟩ := hrel
    by_cases hlt : i < 255
    · have hq : (i : Int) < 255 := by omega
      have hn := HN.out i hlt
      have hc := hP.cell i (by rw [HL.out i hi]; exact hlt)
      have hf := hP.frozen i
      have hd := double_any (p3B i) (wr.setCell ⟨w.heap.size, i, none⟩ (.int .u8 ((p3B i).toNat : Int)))
      have hx := b8_xor (p3B i) (mulB (p3B i) 2)
      rw [p3B_step] at hx
      have hP2 := hP.set i (p3B i) hn
      have hk2 := Below.setCell hk (p := ⟨w.heap.size, i, none⟩) (by simp) (.int .u8 ((p3B i).toNat : Int))
      have hs2 : w.heap.size < (wr.setCell ⟨w.heap.size, i, none⟩ (.int .u8 ((p3B i).toNat : Int))).heap.size := by simpa using hs
      obtain ⟨V, hV⟩ : ∃ V, p3B (i + 1) = V := ⟨_, rfl⟩
      rw [hV] at hx
      have HV := Lib.hid hV
      clear hV
      generalize mulB (p3B i) 2 = D at *
      generalize p3B i = U at *
      generalize hW : wr.setCell ⟨w.heap.size, i, none⟩ (.int .u8 (U.toNat : Int)) = W at *
      have HW := Lib.hid hW
      clear hn hW
      go_wp2_with (go_at_call 28; rw [HW.out]; refine hd.mono ?_; rintro _ _ ⟨rfl, rfl⟩)
      go_roundw
      case rel => exact ⟨i + 1, by omega, by go_num, by rw [HV.out], hP2, hk2, hs2⟩
      case measure => simp [intOf]; omega
    · obtain rfl : i = 255 := by omega
      rw [HA.out] at hP
      obtain ⟨gb, hgb⟩ : ∃ gb, wr.heap.size = gb := ⟨_, rfl⟩
      have B0 : By 70 (wr.alloc (.cells Y 70)) gb (List.replicate 256 0) := by
        rw [← HY.out, ← hgb]
        exact By.new _ wr _
      have P1 := hP.kp ((Kp.refl wr).alloc (.cells Y 70))
      have k1 : Kp w (wr.alloc (.cells Y 70)) := hk.alloc _
      have hs1 : gb < (wr.alloc (.cells Y 70)).heap.size := B0.lt
      have c0 := B0.cell 0 (by decide)
      have f0 := B0.frozen 0
      have B1 := B0.set 0 (turnB 0) rfl
      have hsp := spread_any 0 (wr.alloc (.cells Y 70))
      have k2 := Below.setCell k1 (p := ⟨gb, 0, none⟩) (by show w.heap.size ≤ gb; omega) (.int .u8 ((turnB 0).toNat : Int))
      have P2 : By 69 ((wr.alloc (.cells Y 70)).setCell ⟨gb, 0, none⟩ (.int .u8 ((turnB 0).toNat : Int))) w.heap.size powRow :=
        (Below.heap_setCell _ ⟨gb, 0, none⟩ _ w.heap.size (by show w.heap.size ≠ gb; omega)).trans P1
      have HF := Lib.hid (fun k l h => BoxTo.next (k := k) (l := l) h)
      have H0 : Hid (BoxTo 0 ((List.replicate 256 (0 : UInt8)).set 0 (turnB 0))) := BoxTo.begin
      generalize (List.replicate 256 (0 : UInt8)).set 0 (turnB 0) = L0 at *
      generalize hW : wr.alloc (.cells Y 70) = W1 at *
      have HW := Lib.hid hW
      have hne : w.heap.size ≠ gb := by omega
      have hle : w.heap.size ≤ gb := by omega
      obtain ⟨W2, hW2⟩ : ∃ W2, W1.setCell ⟨gb, 0, none⟩ (.int .u8 ((turnB 0).toNat : Int)) = W2 := ⟨_, rfl⟩
      rw [hW2] at B1 k2 P2
      go_wp2_with fail
      refine hsp.mono ?_; rintro _ _ ⟨rfl, rfl⟩
      clear z1 z2
      go_wp2_with (refine wpList_load_by Try.underlying69 (by kernel_rfl) rfl (.tmp 1) rfl w.heap.size powRow rfl P2 powRow_length ?_)
      clear hW HW P1 k1 hs1 c0 f0 hgb B0 hsp hW2 HN HL HA HY hP hk hs
      go_loopw [21] (fun p wt => ∃ (k : Nat) (l : List UInt8), k ≤ 255 ∧ p = .int .i64 k ∧ Hid (BoxTo k l) ∧ By 70 wt gb l ∧ By 69 wt w.heap.size powRow ∧ Kp w wt) (fun p _ => 255 - (intOf p).toNat)
      case atStart => exact ⟨0, L0, by omega, rfl, H0, B1, P2, k2⟩
      case round =>
        clear B1 P2 k2
        obtain ⟨wt, rfl⟩ : ∃ wt, wt = wr := ⟨_, rfl⟩
        obtain ⟨k, l, hk, rfl, HBX, hB, hP, hkp⟩ := hrel
        by_cases hlt : k < 255
        · have hnx := Lib.hid (HF.out k l HBX.out hlt)
          have hll : l.length = 256 := HBX.out.1
          obtain ⟨m, hm⟩ : ∃ m, (255 - k) % 255 = m := ⟨_, rfl⟩
          have hm255 : m < 255 := by omega
          have c2 := hP.cell m (by rw [powRow_length]; exact hm255)
          rw [show powRow.getD m 0 = p3B m from tab_get 255 p3B m hm255] at c2
          have hX := p3B_nat k
          have hXl := p3_lt k
          have ht := spread_any (p3B m) wt
          rw [hm, ← hX] at hnx
          rw [← hX] at hXl
          have c3 := hB.cell (p3B k).toNat (by rw [hll]; exact hXl)
          have f3 := hB.frozen (p3B k).toNat
          have i1 : IntKind.i64.wrap (255 - (k : Int)) = 255 - (k : Int) := IntWalk.i64_in _ (by omega)
          have i2 : (255 - (k : Int)).tmod 255 = (m : Int) := by rw [Int.tmod_eq_emod_of_nonneg (by omega)]; omega
          have i3 : (255 - (k : Int)) % 255 = (m : Int) := by omega
          have i4 : (m : Int) < 255 := by omega
          have i5 : (k : Int) < 255 := by omega
          have i6 : ((p3B k).toNat : Int) < 256 := by omega
          have i8 : 0 ≤ (m : Int) := by omega
          have hidx : ∀ W, (Instr.index 69 (.agg (bcells powRow)) (.int .i64 k)).run Try.prog W = .ok (.int .u8 ((p3B k).toNat : Int)) W := fun W => by
            obtain ⟨ie, hie, hsz⟩ := u8_info
            have hg := bcells_get powRow k (by rw [powRow_length]; exact hlt)
            rw [show powRow.getD k 0 = p3B k from tab_get 255 p3B k hlt] at hg
            exact run_index_arr W 69 5 255 ie _ Try.underlying69 hie hsz Try.underlying5 rfl _ (by rw [bcells_size, powRow_length]) k hlt _ hg
          have hB2 := hB.set (p3B k).toNat (turnB (p3B m)) rfl
          have hP2 : By 69 (wt.setCell ⟨gb, (p3B k).toNat, none⟩ (.int .u8 ((turnB (p3B m)).toNat : Int))) w.heap.size powRow := (Below.heap_setCell wt ⟨gb, _, none⟩ _ w.heap.size hne).trans hP
          have hkp2 := Below.setCell hkp (p := ⟨gb, (p3B k).toNat, none⟩) hle (.int .u8 ((turnB (p3B m)).toNat : Int))
          clear hm hX hXl
          generalize hZ : turnB (p3B m) = Z at *
          generalize hY : p3B m = Y at *
          generalize hXX : p3B k = X at *
          generalize hL2 : l.set X.toNat Z = l2 at *
          clear hZ hY hXX hL2 hP hB hkp
          go_wp2_with (go_at_call 38; refine ht.mono ?_; rintro _ _ ⟨rfl, rfl⟩)
          go_roundw
          case rel => exact ⟨k + 1, l2, by omega, by go_num, hnx, hB2, hP2, hkp2⟩
          case measure => simp [intOf]; omega
        · obtain rfl : k = 255 := by omega
          have hl := HBX.out.all
          rw [hl] at hB
          go_wp2_with fail
          go_ret
          exact ⟨⟨_, rfl, hB, hle⟩, hkp⟩

theorem aesBox_any (x : UInt8) (w : World) : Calls Try.prog 15 #[.int .u8 (x.toNat : Int)] w fun e w' => e = .returned (.int .u8 ((boxB x).toNat : Int)) ∧ Kp w w' := by
  have hx := u8_lt x
  have hG := boxRow_get x
  generalize boxB x = Y at *
  go_enter Try.func15, Try.ntmps15
  go_wp2_with fail
  refine (aesBoxes_any w).mono ?_; rintro _ w1 ⟨⟨g, rfl, hB, _⟩, hk⟩
  have hc := hB.cell x.toNat (by rw [boxRow_length]; exact hx)
  rw [hG] at hc
  have hx2 : (x.toNat : Int) < 256 := by omega
  go_wp2_with fail
  go_ret
  exact ⟨rfl, hk⟩
end Go.Proofs.Ytfnkcdcbjcoefaa

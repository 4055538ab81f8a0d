/- A stream in plain words; copy into the middle of a block. Nothing of a dump. -/
import Derived.Test.YtdcbljfacmidjaaGreatAesA
import Derived.Test.YtdcbljfacmidjaaGreatMacAll
import Derived.Deep.MidRow
import Derived.Deep.RegionHeld3
import Derived.Laws.CopyOwn
import Derived.Test.YtdcbljfacmidjaaGreatAesMix
import Derived.Test.YtdcbljfacmidjaaGreatBytAll
set_option linter.unusedVariables false
set_option linter.unusedSimpArgs false
namespace Go.Proofs.YtdcbljfacmidjaaGreat
open Go.RowKit

/-- The block that is locked for place q of a stream. -/
def ctrB (nonce : List UInt8) (q : Nat) : List UInt8 := nonce ++ be 4 (q + 1)
def strF (K nonce b : List UInt8) (j : Nat) : UInt8 := b.getD j 0 ^^^ (lockL K (ctrB nonce (j / 16))).getD (j % 16) 0
def strL (K nonce b : List UInt8) : List UInt8 := tab b.length (strF K nonce b)
def strE (key nonce : List UInt8) : Int := if key.length = 16 ∧ nonce.length = 12 then 0 else 1
def strR (key nonce b : List UInt8) : List UInt8 := if key.length = 16 ∧ nonce.length = 12 then strL (keysL key) nonce b else []
theorem strL_length (K nonce b : List UInt8) : (strL K nonce b).length = b.length := tab_length _ _
theorem ctrB_length (nonce : List UInt8) (q : Nat) : (ctrB nonce q).length = nonce.length + 4 := by simp [ctrB, be_length]
theorem strL_get (K nonce b : List UInt8) (j : Nat) (h : j < b.length) : (strL K nonce b).getD j 0 = strF K nonce b j := tab_get _ _ _ h
theorem strL_some (K nonce b : List UInt8) (j : Nat) (h : j < b.length) : (strL K nonce b)[j]? = some (strF K nonce b j) := by simp [strL, tab, h]

/-- copy(d, s): d from place off on of a block of the call's own, s whatever reads as bytes. -/
theorem wpList_copy_mid {P : Program} {w : World} {t e : TypeId} (U : U8 P t e) {ops : Array Oper} {rest : List Oper} {o : Oper} {a : Act} {Q : Exit → Act → World → Prop} (hgd : o.guard = none) (d s : Operand)
    (ho : o.op = .call { callee := .builtin .copy, args := #[d, s], argTypes := #[t, t] })
    (T : TypeId) (g off : Nat) (v : Value) (l m : List UInt8) (c n : Nat) (hd : a.eval d = .slice (some ⟨g, off, none⟩) n c) (hs : a.eval s = v) (hg : By T w g m) (hr : Rd w v l) (hl : l.length ≤ n) (h0 : 0 < l.length) (hm : off + l.length ≤ m.length)
    (h : ∀ w', By T w' g (m.take off ++ (l ++ m.drop (off + l.length))) → But g w w' → wpList P ops Q rest (a.put o.dst (.int .i64 (l.length : Int))) w') : wpList P ops Q (o :: rest) a w := by
  obtain ⟨i, hi, hz, hsize, hby⟩ := U.hi
  have hsz : (P.info? e).map (·.size) = some 1 := by rw [hi]; simp [hsize]
  obtain ⟨x, cc, rfl, h1, h2, h3, h4⟩ := hr
  cases x with
  | none =>
    have := h3 rfl
    omega
  | some x =>
    refine wpList_copy_own hgd d s t t ho e U.ht hsz g off _ _ x _ _ hd hs _ _ hg (Lib.byteCells l) (by rw [byteCells_length]; exact (Nat.min_eq_left hl).symm) (fun j u hj => ?_) (by simp [Lib.byteCells]; omega) (fun u hu => ?_) ?_
    · have hjl : j < l.length := by
        have := (List.getElem?_eq_some_iff.1 hj).1
        rwa [byteCells_length] at this
      rw [byteCells_get l j hjl] at hj
      cases hj
      exact h4 x rfl j hjl
    · obtain ⟨b, _, rfl⟩ := List.mem_map.1 hu
      rfl
    · have e1 : (goInt (Lib.byteCells l).length) = .int .i64 (l.length : Int) := by rw [byteCells_length]; rfl
      rw [e1]
      refine h _ ?_ (But.setRow g w _)
      unfold By
      rw [setRow_heap w g _ _ T _ hg]
      congr 2
      simp [Lib.byteCells, List.map_drop, List.map_take]
end Go.Proofs.YtdcbljfacmidjaaGreat

/- (*aes.cipher).next: a row's row behind it. -/
set_option linter.unusedVariables false
set_option linter.unusedSimpArgs false
namespace Go.Proofs.YtdcbljfacmidjaaGreat
open Go.RowKit

theorem results_by {P : Program} {T ty e : TypeId} {n : Nat} (hu : P.underlying ty = some (.array n e)) (hi : (P.info? ty).map (·.size) = some n) {fn : Func} {p : Tmp} (hr : fn.results = #[.cell p ty]) (tmps : Array Value) (w : World) (g : Nat) (l : List UInt8)
    (hp : tmps.getD p undef = .pointer (some ⟨g, 0, none⟩)) (h : By T w g l) (hl : l.length = n) : (results fn tmps).run P w = .ok (.agg (bcells l)) w :=
  results_cell_row hr tmps w g T (bcells l) (0, 0) _ hp h hu rfl (by rw [hi, bcells_size, hl])

set_option maxRecDepth 100000 in
set_option maxHeartbeats 2000000 in
theorem next_any (gc bx : Nat) (row N : List UInt8) (r : UInt8) (w : World) (hr : row.length = 16) (hN : Nexts row r N) (hC : w.cell? ⟨gc, 0, none⟩ = some (.pointer (some ⟨bx, 0, none⟩))) (hX : By 105 w bx boxRow) :
    Calls Tryz.prog 65 #[.pointer (some ⟨gc, 0, none⟩), .agg (bcells row), .int .u8 (r.toNat : Int)] w fun e w' => e = .returned (.agg (bcells N)) ∧ Kp w w' := by
  have HSet := Lib.hid (nextA_set hr hN)
  have H1 : Hid (∀ i, i < 4 → (mixB row (nextA row) i).set i (row.getD i 0 ^^^ boxB (row.getD (12 + (i + 1) % 4) 0)) = mixB row (nextA row) (i + 1)) := fun i hi => mixB_set _ _ i (by rw [hr, nextA_length]) (by omega) _ (nextA_some row i (by omega))
  have G1 : Hid (∀ i j, i ≤ 4 → i ≤ j → (mixB row (nextA row) i).getD j 0 = row.getD j 0) := fun i j hi hj => mixB_past _ _ i j (by rw [hr, nextA_length]) (by omega) hj
  have L1 : Hid (∀ i, i ≤ 4 → (mixB row (nextA row) i).length = 16) := fun i hi => by rw [mixB_length _ _ i (by rw [hr, nextA_length]) (by omega), hr]
  have Z1 : Hid ((mixB row (nextA row) 4).getD 0 0 = (nextA row).getD 0 0) := by
    refine (mixB_getD _ _ 4 0 (by rw [hr, nextA_length]) (by omega)).trans ?_
    rw [if_pos (by omega)]
  have h0 : mixB row (nextA row) 0 = row := by simp [mixB]
  have H2 : Hid (∀ i, i < 12 → (mixB row N (i + 4)).set (i + 4) (row.getD (i + 4) 0 ^^^ N.getD i 0) = mixB row N (i + 1 + 4)) := fun i hi => by
    have hh := hN.high (i + 4) (by omega) (by omega)
    rw [Nat.add_sub_cancel] at hh
    rw [show i + 1 + 4 = i + 4 + 1 by omega]
    refine mixB_set _ _ (i + 4) (by rw [hr, hN.len]) (by omega) _ ?_
    rw [← hh, List.getD_eq_getElem?_getD, List.getElem?_eq_getElem (by rw [hN.len]; omega)]
    rfl
  have G2 : Hid (∀ i, i < 12 → (mixB row N (i + 4)).getD (i + 4) 0 = row.getD (i + 4) 0 ∧ (mixB row N (i + 4)).getD i 0 = N.getD i 0) := fun i hi => by
    rw [mixB_getD _ _ (i + 4) _ (by rw [hr, hN.len]) (by omega), mixB_getD _ _ (i + 4) _ (by rw [hr, hN.len]) (by omega), if_neg (by omega), if_pos (by omega)]
    exact ⟨rfl, rfl⟩
  have L2 : Hid (∀ i, i ≤ 12 → (mixB row N (i + 4)).length = 16) := fun i hi => by rw [mixB_length _ _ (i + 4) (by rw [hr, hN.len]) (by omega), hr]
  have A2 : Hid (mixB row N (12 + 4) = N) := by
    have := mixB_all row N (by rw [hr, hN.len])
    rw [hN.len] at this
    exact this
  have B0 : By 68 (w.alloc (.cells (bcells row) 68)) w.heap.size (mixB row (nextA row) 0) := by
    rw [h0]
    exact By.new _ w row
  generalize nextA row = M at *
  have LN := hN.len
  clear hN h0
  go_enter Tryz.func65, Tryz.ntmps65
  go_wp2_with fail
  have B1 := B0.kp ((Kp.refl _).alloc (.cells (bcells (List.replicate 16 0)) 68))
  have R1 := By.new 68 (w.alloc (.cells (bcells row) 68)) (List.replicate 16 0)
  rw [World.size_alloc] at R1
  have k1 : Kp w ((w.alloc (.cells (bcells row) 68)).alloc (.cells (bcells (List.replicate 16 0)) 68)) := ((Kp.refl w).alloc _).alloc _
  have e16 : bcells (List.replicate 16 0) = #[Value.int IntKind.u8 0, Value.int IntKind.u8 0, Value.int IntKind.u8 0, Value.int IntKind.u8 0, Value.int IntKind.u8 0, Value.int IntKind.u8 0, Value.int IntKind.u8 0, Value.int IntKind.u8 0, Value.int IntKind.u8 0, Value.int IntKind.u8 0, Value.int IntKind.u8 0, Value.int IntKind.u8 0, Value.int IntKind.u8 0, Value.int IntKind.u8 0, Value.int IntKind.u8 0, Value.int IntKind.u8 0] := rfl
  rw [e16] at B1 R1 k1
  obtain ⟨W1, hW1⟩ : ∃ W, (w.alloc (.cells (bcells row) 68)).alloc (.cells #[Value.int IntKind.u8 0, Value.int IntKind.u8 0, Value.int IntKind.u8 0, Value.int IntKind.u8 0, Value.int IntKind.u8 0, Value.int IntKind.u8 0, Value.int IntKind.u8 0, Value.int IntKind.u8 0, Value.int IntKind.u8 0, Value.int IntKind.u8 0, Value.int IntKind.u8 0, Value.int IntKind.u8 0, Value.int IntKind.u8 0, Value.int IntKind.u8 0, Value.int IntKind.u8 0, Value.int IntKind.u8 0] 68) = W := ⟨_, rfl⟩
  rw [hW1] at B1 R1 k1 ⊢
  have C1 := k1.cell hC
  have X1 := hX.kp k1
  have hbw : bx < w.heap.size := hX.lt
  have hcw : gc < w.heap.size := World.block_lt_of_cell? w _ hC
  clear hW1 e16 B0 hC hX
  go_loopw [11] (fun p wr => ∃ i : Nat, i ≤ 4 ∧ p = .int .i64 i ∧ By 68 wr w.heap.size (mixB row M i) ∧ Wr w.heap.size W1 wr) (fun p _ => 4 - (intOf p).toNat)
  case atStart => exact ⟨0, by omega, rfl, B1, Wr.refl _ _⟩
  case round =>
    clear B1
    obtain ⟨i, hi, rfl, hB, hw⟩ := hrel
    by_cases hlt : i < 4
    · have hq : (i : Int) < 4 := by omega
      have hq16 : (i : Int) < 16 := by omega
      obtain ⟨m, hm⟩ : ∃ m, (i + 1) % 4 = m := ⟨_, rfl⟩
      have hm4 : m < 4 := by omega
      have c1 := hB.cell i (by rw [L1.out i hi]; omega)
      rw [G1.out i i hi (Nat.le_refl _)] at c1
      have c2 := hB.cell (12 + m) (by rw [L1.out i hi]; omega)
      rw [G1.out i (12 + m) hi (by omega)] at c2
      have f1 := hB.frozen i
      have c3 := hw.cell C1 (by show gc ≠ w.heap.size; omega)
      have c4 := (hw.by X1 (by omega)).cell (row.getD (12 + m) 0).toNat (by rw [boxRow_length]; exact u8_lt _)
      rw [boxRow_get] at c4
      have hn := H1.out i hlt
      rw [hm] at hn
      have hx := b8_xor (row.getD i 0) (boxB (row.getD (12 + m) 0))
      have hxl := u8_lt (row.getD (12 + m) 0)
      have hx2 : ((row.getD (12 + m) 0).toNat : Int) < 256 := by omega
      generalize row.getD (12 + m) 0 = U at *
      generalize row.getD i 0 = V at *
      generalize boxB U = Z at *
      generalize V ^^^ Z = Y at *
      have HN := Lib.hid hn
      have i1 : IntKind.i64.wrap ((i : Int) + 1) = (i : Int) + 1 := IntWalk.i64_in _ (by omega)
      have i2 : ((i : Int) + 1).tmod 4 = (m : Int) := by rw [Int.tmod_eq_emod_of_nonneg (by omega)]; omega
      have i3 : ((i : Int) + 1) % 4 = (m : Int) := by omega
      have i4 : (m : Int) < 4 := by omega
      have i5 : 0 ≤ (m : Int) := by omega
      clear hn hm hxl
      go_wp2_with fail
      go_region
      all_goals
        go_wp2_with fail
        go_roundw
        case rel => exact ⟨i + 1, by omega, by go_num, (hB.set i _ HN.out).drew, (hw.setCell i _).drew⟩
        case measure => simp [intOf]; omega
    · obtain rfl : i = 4 := by omega
      have c0 := hB.cell 0 (by rw [L1.out 4 hi]; omega)
      rw [Z1.out] at c0
      have f0 := hB.frozen 0
      have hx := b8_xor (M.getD 0 0) r
      have hB2 := hB.set 0 _ HSet.out
      have hw2 := hw.setCell 0 (.int .u8 ((M.getD 0 0 ^^^ r).toNat : Int))
      generalize M.getD 0 0 ^^^ r = Y at *
      generalize M.getD 0 0 = V at *
      clear HSet H1 G1 L1 Z1 hB hw
      go_wp2_with fail
      generalize wr.setCell ⟨w.heap.size, 0, none⟩ (.int .u8 (Y.toNat : Int)) = W2 at *
      clear c0 f0 hx
      go_loopw [38] (fun p wr => ∃ i : Nat, i ≤ 12 ∧ p = .int .i64 i ∧ By 68 wr w.heap.size (mixB row N (i + 4)) ∧ Wr w.heap.size W1 wr) (fun p _ => 12 - (intOf p).toNat)
      case atStart => exact ⟨0, by omega, rfl, hB2, hw2⟩
      case round =>
        clear hB2 hw2
        obtain ⟨i, hi, rfl, hB, hw⟩ := hrel
        by_cases hlt : i < 12
        · have hq : (i : Int) < 12 := by omega
          have hq2 : (i : Int) < 16 := by omega
          have hq3 : (i : Int) + 4 < 16 := by omega
          have c1 := hB.cell (i + 4) (by rw [L2.out i hi]; omega)
          have c2 := hB.cell i (by rw [L2.out i hi]; omega)
          obtain ⟨g1, g2⟩ := G2.out i hlt
          rw [g1] at c1
          rw [g2] at c2
          have f1 := hB.frozen (i + 4)
          have hn := H2.out i hlt
          have hx := b8_xor (row.getD (i + 4) 0) (N.getD i 0)
          generalize row.getD (i + 4) 0 = U at *
          generalize N.getD i 0 = V at *
          generalize U ^^^ V = Y at *
          have HN := Lib.hid hn
          have i1 : IntKind.i64.wrap ((i : Int) + 4) = (i : Int) + 4 := IntWalk.i64_in _ (by omega)
          have i2 : ((i : Int) + 4).toNat = i + 4 := by omega
          have i3 : (0 : Int) ≤ (i : Int) + 4 := by omega
          clear hn g1 g2
          go_wp2_with fail
          go_region
          all_goals
            go_wp2_with fail
            go_roundw
            case rel => exact ⟨i + 1, by omega, by go_num, (hB.set (i + 4) _ HN.out).drew, (hw.setCell (i + 4) _).drew⟩
            case measure => simp [intOf]; omega
        · obtain rfl : i = 12 := by omega
          rw [A2.out] at hB
          have hR := hw.by R1 (by omega)
          have hk : Kp w wr := Below.trans (show Below w.heap.size w W1 from k1) (hw.below k1.size (Nat.le_refl _))
          clear hlt hi hw R1 k1
          go_wp2_with (first
            | (refine wpList_load_by Tryz.underlying68 (by kernel_rfl) rfl (.tmp 4) rfl w.heap.size N rfl hB LN ?_)
            | (refine wpList_store_by (by kernel_rfl) rfl rfl (.tmp 6) (.tmp 51) rfl (w.heap.size + 1) (List.replicate 16 0) N rfl rfl hR (by decide) LN ?_; intro w5 hR5 hbut))
          refine bodyPost_ret (results_by Tryz.underlying68 (by kernel_rfl) rfl _ _ (w.heap.size + 1) N rfl hR5 LN) rfl ?_
          exact ⟨rfl, hbut.below hk (by omega)⟩
end Go.Proofs.YtdcbljfacmidjaaGreat

/- aes.newCipher: a key's cipher. -/
set_option linter.unusedVariables false
set_option linter.unusedSimpArgs false
namespace Go.Proofs.YtdcbljfacmidjaaGreat
open Go.RowKit

theorem rangeAt_kp {w w' : World} {b o : Nat} {cs : List Value} (k : Kp w w') (h : w.rangeAt b o cs) : w'.rangeAt b o cs := fun j v hv => k.cell (h j v hv)
theorem there_kp {w w' : World} {b o n : Nat} (k : Kp w w') (h : w.there b o n) : w'.there b o n := fun j hj => by
  obtain ⟨h1, h2⟩ := h j hj
  obtain ⟨v, hv⟩ := Option.isSome_iff_exists.1 h1
  have hb := World.block_lt_of_cell? w _ hv
  refine ⟨by rw [k.cell hv]; rfl, ?_⟩
  rw [← h2]
  have := k.block b hb
  simp only [World.frozen?, this]
theorem there_part {w : World} {b o n o' n' : Nat} (h : w.there b o n) (h1 : o ≤ o') (h2 : o' + n' ≤ o + n) : w.there b o' n' := fun j hj => by
  have := h (o' - o + j) (by omega)
  rwa [show o + (o' - o + j) = o' + j by omega] at this
/-- Row n of what lies there. -/
theorem Lies.range {w : World} {b o n : Nat} {K : List UInt8} (h : Lies w b o K) (hn : 16 * n + 16 ≤ K.length) : w.rangeAt b (o + 16 * n) (Lib.byteCells (rowK K n)) := fun j v hv => by
  have hl := rowK_length hn
  have hj : j < (rowK K n).length := by
    have := (List.getElem?_eq_some_iff.1 hv).1
    rwa [byteCells_length] at this
  rw [byteCells_get _ j hj] at hv
  cases hv
  have hc := h (16 * n + j) (by omega)
  rw [← rowK_get (by omega), List.getD_eq_getElem?_getD, List.getElem?_eq_getElem hj] at hc
  rw [Nat.add_assoc, hc]
  rfl
theorem Lies.row {w : World} {b o n : Nat} {K : List UInt8} (h : Lies w b o K) (hn : 16 * n + 16 ≤ K.length) : Lies w b (o + 16 * n) (rowK K n) := fun i hi => by
  rw [rowK_length hn] at hi
  rw [rowK_get hi, Nat.add_assoc]
  exact h (16 * n + i) (by omega)
theorem take_getD (K : List UInt8) (m i : Nat) (h : i < m) : (K.take m).getD i 0 = K.getD i 0 := by
  rw [List.getD_eq_getElem?_getD, List.getElem?_take_of_lt h, List.getD_eq_getElem?_getD]
/-- The next row is stored. -/
theorem Lies.store {w : World} {b o n : Nat} {K : List UInt8} (h : Lies w b o (K.take (16 * (n + 1)))) (ht : w.there b o K.length) (hn : 16 * (n + 1) + 16 ≤ K.length) :
    Lies (w.setCells b (o + 16 * (n + 1)) (Lib.byteCells (rowK K (n + 1)))) b o (K.take (16 * (n + 1 + 1))) := fun i hi => by
  have hl := rowK_length hn
  have hlen : i < 16 * (n + 1 + 1) := by rw [List.length_take] at hi; omega
  rw [take_getD _ _ _ hlen]
  by_cases hlt : i < 16 * (n + 1)
  · rw [World.cell?_setCells_out b _ _ _ _ (fun _ _ => .inl (by show o + i < o + 16 * (n + 1); omega))]
    have := h i (by rw [List.length_take]; omega)
    rwa [take_getD _ _ _ hlt] at this
  · have hj : i - 16 * (n + 1) < (rowK K (n + 1)).length := by omega
    have := World.cell?_setCells_in b (Lib.byteCells (rowK K (n + 1))) (o + 16 * (n + 1)) w (fun j hj => ((there_part ht (o' := o + 16 * (n + 1)) (n' := 16) (by omega) (by omega)) j (by rw [byteCells_length] at hj; omega)).1) (i - 16 * (n + 1)) (by rw [byteCells_length]; exact hj)
    rw [show o + 16 * (n + 1) + (i - 16 * (n + 1)) = o + i by omega] at this
    rw [this]
    have hg := byteCells_get _ _ hj
    rw [List.getElem?_eq_getElem (by rw [byteCells_length]; exact hj)] at hg
    rw [Option.some.inj hg]
    have := rowK_get (K := K) (n := n + 1) (j := i - 16 * (n + 1)) (by omega)
    rw [show 16 * (n + 1) + (i - 16 * (n + 1)) = i by omega, List.getD_eq_getElem?_getD, List.getElem?_eq_getElem hj] at this
    rw [← this]
    rfl
theorem setCells_size (b : Nat) : ∀ (vs : List Value) (o : Nat) (w : World), (w.setCells b o vs).heap.size = w.heap.size
  | [], _, _ => rfl
  | v :: r, o, w => by rw [World.setCells, setCells_size b r (o + 1)]; simp [World.setCell]
theorem setCells_wr {g : Nat} : ∀ (vs : List Value) (o : Nat) (A w : World), Wr g A w → Wr g A (w.setCells g o vs)
  | [], _, _, _, h => h
  | v :: r, o, A, w, h => setCells_wr r (o + 1) A _ (h.setCell o v)

/-- What the code keeps of a key: the box's row, and the rounds' keys. -/
structure Cph (w : World) (gc bx : Nat) (K : List UInt8) : Prop where
  ptr : w.cell? ⟨gc, 0, none⟩ = some (.pointer (some ⟨bx, 0, none⟩))
  rows : Lies w gc 1 K
  box : By 105 w bx boxRow
theorem Cph.kp {w w' : World} {gc bx : Nat} {K : List UInt8} (h : Cph w gc bx K) (k : Kp w w') : Cph w' gc bx K := ⟨k.cell h.ptr, h.rows.kp k, h.box.kp k⟩
theorem Cph.wr {w w' : World} {gc bx gs : Nat} {K : List UInt8} (h : Cph w gc bx K) (k : Wr gs w w') (h1 : gc ≠ gs) (h2 : bx ≠ gs) : Cph w' gc bx K := ⟨k.cell h.ptr h1, h.rows.wr k h1, k.by h.box h2⟩

theorem zero_cipher : ∀ w, (zeroValue 87).run Tryz.prog w = .ok (.agg (#[.pointer none] ++ bcells (List.replicate 176 0))) w := (zero_of_info (n := 177) (by kernel_rfl)).1
theorem set_cipher (l : List UInt8) (v : Value) : (#[Value.pointer none] ++ bcells l).setIfInBounds 0 v = #[v] ++ bcells l := by
  apply Array.ext'
  simp

theorem cipher_start {w : World} {gc : Nat} {T : TypeId} {p : Value} {key : List UInt8} (hg : w.heap[gc]? = some (.cells ((#[p] ++ bcells (List.replicate 176 0)).toList.take 1 ++ (Lib.byteCells key ++ (#[p] ++ bcells (List.replicate 176 0)).toList.drop (1 + (Lib.byteCells key).length))).toArray T (0, 0))) (hk : key.length = 16) :
    w.cell? ⟨gc, 0, none⟩ = some p ∧ Lies w gc 1 key ∧ w.there gc 1 176 := by
  have e : ((#[p] ++ bcells (List.replicate 176 0)).toList.take 1 ++ (Lib.byteCells key ++ (#[p] ++ bcells (List.replicate 176 0)).toList.drop (1 + (Lib.byteCells key).length))) = p :: (Lib.byteCells key ++ (Lib.byteCells (List.replicate 176 0)).drop 16) := by
    rw [byteCells_length, hk]
    simp [bcells]
  rw [e] at hg
  have hl : (Lib.byteCells key ++ (Lib.byteCells (List.replicate 176 0)).drop 16).length = 176 := by rw [List.length_append, List.length_drop, byteCells_length, byteCells_length, hk, List.length_replicate]
  refine ⟨by rw [cell_of_row _ _ _ _ _ _ hg]; simp, fun i hi => ?_, fun j hj => ⟨?_, ?_⟩⟩
  · rw [cell_of_row _ _ _ _ _ _ hg, List.getElem?_toArray, Nat.add_comm 1 i, List.getElem?_cons_succ, List.getElem?_append_left (by rw [byteCells_length]; exact hi), byteCells_get key i hi, List.getD_eq_getElem?_getD, List.getElem?_eq_getElem hi]
    rfl
  · rw [cell_of_row _ _ _ _ _ _ hg, List.getElem?_toArray, Nat.add_comm 1 j, List.getElem?_cons_succ, List.getElem?_eq_getElem (by omega)]
    rfl
  · simp [World.frozen?, hg]
theorem keysL_take {key : List UInt8} (h : key.length = 16) : (keysL key).take (16 * (0 + 1)) = key := by
  have := keysL_first h
  unfold rowK at this
  simpa using this

set_option maxRecDepth 100000 in
set_option maxHeartbeats 2000000 in
theorem newCipher_any (u : Value) (key : List UInt8) (w : World) (hu : Rd w u key) (hk : key.length = 16) :
    Calls Tryz.prog 42 #[u] w fun e w' => (∃ gc bx, e = .returned (.pointer (some ⟨gc, 0, none⟩)) ∧ Cph w' gc bx (keysL key) ∧ w.heap.size ≤ gc ∧ w.heap.size ≤ bx) ∧ Kp w w' := by
  have U := u8
  have hsz8 : (Tryz.prog.info? 5).map (·.size) = some 1 := by kernel_rfl
  obtain ⟨ad, c, rfl, hc1, hc2⟩ := hu.shape
  rw [hk] at hc1 hu ⊢
  obtain ⟨ab, ao, rfl, hab, hac⟩ := hu.at 0 (by omega)
  have z1 := zero_cipher
  have HS := Lib.hid (set_cipher (List.replicate 176 0))
  have HST := Lib.hid (fun (w : World) (gc : Nat) (T : TypeId) (p : Value) h => cipher_start (w := w) (gc := gc) (T := T) (p := p) (key := key) h hk)
  have hs : (#[Value.pointer none] ++ bcells (List.replicate 176 0)).size = 177 := by rw [Array.size_append, bcells_size]; rfl
  obtain ⟨Z, hZ⟩ : ∃ Z, #[Value.pointer none] ++ bcells (List.replicate 176 0) = Z := ⟨_, rfl⟩
  rw [hZ] at z1 HS hs
  have hz : ¬ Z = #[] := fun h => by rw [h] at hs; simp at hs
  clear hZ
  have HL := Lib.hid (keysL_length hk)
  have HT := Lib.hid (keysL_take hk)
  have HNX := Lib.hid (keys_next hk)
  generalize keysL key = K at *
  go_enter Tryz.func42, Tryz.ntmps42
  go_wp2_with fail
  refine (aesBoxes_any w).mono ?_; rintro _ w1 ⟨⟨bx, rfl, hX, hbx⟩, k1⟩
  have hge := k1.size
  obtain ⟨Y, hY⟩ : ∃ Y, Z.setIfInBounds 0 (Value.pointer (some ⟨bx, 0, none⟩)) = Y := ⟨_, rfl⟩
  have hYZ := HS.out (Value.pointer (some ⟨bx, 0, none⟩))
  rw [hY] at hYZ
  have HY := Lib.hid hYZ
  have hYs : Y.size = 177 := by rw [← hY, Array.size_setIfInBounds, hs]
  clear hYZ
  have HSRC : Hid (∀ W, Kp w W → ∀ j v, (Lib.byteCells key)[j]? = some v → W.cell? ((⟨ab, ao, none⟩ : Addr).add j) = some v) := fun W hW j v hj => by
    have hl : j < key.length := by
      have := (List.getElem?_eq_some_iff.1 hj).1
      rwa [byteCells_length] at this
    rw [byteCells_get key j hl] at hj
    cases hj
    have := hW.cell (hac j (by omega))
    rw [Addr.add_mid, this, List.getD_eq_getElem?_getD, List.getElem?_eq_getElem hl]
    rfl
  have HBL := Lib.hid (byteCells_length key)
  clear hac hu
  go_wp2_with (refine wpList_copy_own (cs := Lib.byteCells key) rfl (.tmp 13) (.tmp 14) 22 22 rfl 5 Tryz.underlying22 hsz8 w1.heap.size 1 16 16 ⟨ab, ao, none⟩ 16 c rfl rfl Y 87 (heap_alloc_new w1 _) (by rw [HBL.out, hk]; rfl) (HSRC.out _ (k1.alloc _)) (by rw [HBL.out, hk, hYs]; omega) (fun v hv => by obtain ⟨b, _, rfl⟩ := List.mem_map.1 hv; rfl) ?_)
  obtain ⟨W2, hW2⟩ : ∃ W, (w1.alloc (.cells Y 87)).setRow w1.heap.size (Y.toList.take 1 ++ (Lib.byteCells key ++ Y.toList.drop (1 + (Lib.byteCells key).length))).toArray = W := ⟨_, rfl⟩
  rw [hW2]
  have hg : W2.heap[w1.heap.size]? = some (.cells (Y.toList.take 1 ++ (Lib.byteCells key ++ Y.toList.drop (1 + (Lib.byteCells key).length))).toArray 87 (0, 0)) := by
    rw [← hW2]
    exact setRow_heap _ _ Y _ _ _ (heap_alloc_new w1 _)
  have k2 : Kp w W2 := by
    rw [← hW2]
    exact Go.Proofs.YtdcbljfacmidjaaGreat.below_setRow (k1.alloc _) hge _
  have X2 : By 105 W2 bx boxRow := by
    rw [← hW2]
    exact (Go.Proofs.YtdcbljfacmidjaaGreat.setRow_other _ _ _ _ (by have := hX.lt; omega)).trans (hX.kp ((Kp.refl w1).alloc _))
  rw [HY.out] at hg
  obtain ⟨p2, l2, t2⟩ := HST.out _ _ _ _ hg
  have hbx2 : bx ≠ w1.heap.size := by have := hX.lt; omega
  rw [← HT.out] at l2
  have hgc : w.heap.size ≤ w1.heap.size := hge
  generalize w1.heap.size = gc at *
  clear hg hW2 HBL HSRC HST hY HY hYs hX k1 hs HS z1 hz hk U hsz8 HT
  have hu51 : Tryz.prog.underlying 68 = some (.array 16 5) := Tryz.underlying68
  have hi51 : (Tryz.prog.info? 68).map (·.size) = some 16 := by kernel_rfl
  go_loopw [4, 16] (fun r p wr => ∃ n : Nat, n ≤ 10 ∧ p = .int .i64 n ∧ r = .int .u8 ((rcon n).toNat : Int) ∧ wr.cell? ⟨gc, 0, none⟩ = some (.pointer (some ⟨bx, 0, none⟩)) ∧ Lies wr gc 1 (K.take (16 * (n + 1))) ∧ wr.there gc 1 176 ∧ By 105 wr bx boxRow ∧ Kp w wr) (fun _ p _ => 10 - (intOf p).toNat)
  case atStart => exact ⟨0, by omega, rfl, rfl, p2, l2, t2, X2, k2⟩
  case round =>
    clear p2 l2 t2 X2 k2
    obtain ⟨n, hn, rfl, rfl, hp, hl, ht, hX, hkp⟩ := hrel
    by_cases hlt : n < 10
    · have q1 : (n : Int) < 10 := by omega
      have q2 : (n : Int) < 11 := by omega
      have q3 : (n : Int) + 1 < 11 := by omega
      have q4 : (0 : Int) ≤ (n : Int) + 1 := by omega
      have i1 : IntKind.i64.wrap ((n : Int) + 1) = (n : Int) + 1 := IntWalk.i64_in _ (by omega)
      have i2 : ((n : Int) + 1).toNat = n + 1 := by omega
      have hKl := HL.out
      have hrow : rowK (K.take (16 * (n + 1))) n = rowK K n := by
        refine get_ext 16 _ _ (rowK_length (by rw [List.length_take]; omega)) (rowK_length (by omega)) fun i hi => ?_
        rw [rowK_get hi, rowK_get hi, take_getD _ _ _ (by omega)]
      have hr := hl.range (n := n) (by rw [List.length_take]; omega)
      rw [hrow, Nat.mul_comm 16 n] at hr
      have ht2 := there_part ht (o' := 1 + 16 * (n + 1)) (n' := 16) (by omega) (by omega)
      rw [Nat.mul_comm 16 (n + 1)] at ht2
      have hlen1 : (Lib.byteCells (rowK K n)).length = 16 := by rw [byteCells_length]; exact rowK_length (by omega)
      have hlen2 : (Lib.byteCells (rowK K (n + 1))).length = 16 := by rw [byteCells_length]; exact rowK_length (by omega)
      have hNX := HNX.out n hlt
      have hone : ∀ v ∈ Lib.byteCells (rowK K (n + 1)), v.oneCell' = true := fun v hv => by obtain ⟨b, _, rfl⟩ := List.mem_map.1 hv; rfl
      have hnext : Calls Tryz.prog 65 #[.pointer (some ⟨gc, 0, none⟩), .agg (Lib.byteCells (rowK K n)).toArray, .int .u8 ((rcon n).toNat : Int)] wr.drew fun e w' => e = .returned (.agg (Lib.byteCells (rowK K (n + 1))).toArray) ∧ Kp wr.drew w' :=
        next_any gc bx (rowK K n) (rowK K (n + 1)) (rcon n) wr.drew (rowK_length (by omega)) hNX hp hX.drew
      have HNEXT := Lib.hid hnext
      have HD := Lib.hid (fun W => double_any (rcon n) W)
      have HK := Lib.hid hkp
      have HP := Lib.hid hp
      have HLI := Lib.hid hl
      have HTH := Lib.hid ht
      have HXX := Lib.hid hX
      have HRW := Lib.hid hrow
      generalize hcs1 : Lib.byteCells (rowK K n) = cs1 at *
      generalize hcs2 : Lib.byteCells (rowK K (n + 1)) = cs2 at *
      have HC := Lib.hid hcs2
      clear hnext hNX hp hl ht hX hkp hrow hcs1 hcs2
      go_wp2_with fail
      go_region_held3 (fun W => W.rangeAt gc (1 + n * 16) cs1 ∧ W.there gc (1 + (n + 1) * 16) 16)
        (first
          | (refine ⟨(World.rangeAt_drew _ _ _ _).2 ?_, (World.there_drew _ _ _ _).2 ?_⟩ <;> assumption)
          | (go_split_ands; exact ⟨rangeAt_kp (by assumption) (by assumption), there_kp (by assumption) (by assumption)⟩)
          | (go_split_ands; exact ⟨World.rangeAt_setCells_apart (by assumption) _ _ _ (by omega), World.there_setCells (by assumption) _ _ _⟩))
        (first
          | (go_at_call 65; refine HNEXT.out.mono ?_; rintro _ w7 ⟨rfl, hk7⟩))
      have k7 := hk7
      have hgs : w.heap.size ≤ w7.heap.size := Nat.le_trans HK.out.size hk7.size
      have hw8 := setCells_wr (g := gc) cs2 (1 + (n + 1) * 16) w7 w7 (Wr.refl gc w7)
      have hk8 : Kp w (w7.setCells gc (1 + (n + 1) * 16) cs2) := Below.trans (show Below w.heap.size w w7 from HK.out.drew.trans hk7) (hw8.below hgs hgc)
      have hp8 : (w7.setCells gc (1 + (n + 1) * 16) cs2).cell? ⟨gc, 0, none⟩ = some (.pointer (some ⟨bx, 0, none⟩)) := by
        rw [World.cell?_setCells_out gc _ _ _ _ (fun _ _ => .inl (by show 0 < 1 + (n + 1) * 16; omega))]
        exact hk7.cell HP.out
      have ht8 : (w7.setCells gc (1 + (n + 1) * 16) cs2).there gc 1 176 := World.there_setCells (there_kp hk7 ((World.there_drew _ _ _ _).2 HTH.out)) _ _ _
      have hX8 := hw8.by (HXX.out.drew.kp hk7) hbx2
      have hl8 : Lies (w7.setCells gc (1 + (n + 1) * 16) cs2) gc 1 (K.take (16 * (n + 1 + 1))) := by
        rw [← HC.out, Nat.mul_comm (n + 1) 16]
        exact Lies.store (Lies.kp (show Lies wr.drew gc 1 _ from HLI.out) hk7) (by rw [HL.out]; exact there_kp hk7 ((World.there_drew _ _ _ _).2 HTH.out)) (by rw [HL.out]; omega)
      generalize w7.setCells gc (1 + (n + 1) * 16) cs2 = W8 at *
      have HP8 := Lib.hid hp8
      have HL8 := Lib.hid hl8
      have HT8 := Lib.hid ht8
      clear hp8 hl8 ht8 hw8
      go_wp2_with (go_at_call 66; refine (HD.out _).mono ?_; rintro _ _ ⟨rfl, rfl⟩)
      go_roundw
      case rel => exact ⟨n + 1, by omega, by go_num, rfl, HP8.out, HL8.out, HT8.out, hX8, hk8⟩
      case measure => simp [intOf]; omega
    · obtain rfl : n = 10 := by omega
      have hKl := HL.out
      rw [List.take_of_length_le (by omega)] at hl
      go_wp2_with fail
      go_ret
      exact ⟨⟨gc, bx, rfl, ⟨hp, hl, hX⟩, hgc, hbx⟩, hkp⟩
end Go.Proofs.YtdcbljfacmidjaaGreat

/- (*aes.cipher).lock: a block through all rounds. -/
set_option linter.unusedVariables false
set_option linter.unusedSimpArgs false
namespace Go.Proofs.YtdcbljfacmidjaaGreat
open Go.RowKit

theorem addR_row (s K : List UInt8) (n : Nat) : addR s (rowK K n) = addS s K n := by
  unfold addR addS tab
  apply List.map_congr_left
  intro i hi
  rw [rowK_get (by simpa using hi)]
theorem lockTo_step (K s : List UInt8) (n : Nat) (h : n + 1 < 10) : addS (mixS (subS (lockTo K s n))) K (n + 1) = lockTo K s (n + 1) := by
  rw [lockTo, roundS, if_pos h]
theorem lockTo_last (K s : List UInt8) (n : Nat) (h : ¬ n + 1 < 10) : addS (subS (lockTo K s n)) K (n + 1) = lockTo K s (n + 1) := by
  rw [lockTo, roundS, if_neg h]

set_option maxHeartbeats 1000000 in
theorem lock_any (gc gs bx : Nat) (s K : List UInt8) (w : World) (hs : s.length = 16) (hK : K.length = 176) (hcs : gc ≠ gs) (hbs : bx ≠ gs) (hC : Cph w gc bx K) (hB : By 68 w gs s) :
    Calls Tryz.prog 44 #[.pointer (some ⟨gc, 0, none⟩), .pointer (some ⟨gs, 0, none⟩)] w fun e w' => e = .returned (.tuple #[]) ∧ By 68 w' gs (lockL K s) ∧ Wr gs w w' := by
  have HR : Hid (∀ n, n ≤ 10 → (rowK K n).length = 16) := fun n hn => rowK_length (by omega)
  have HROW : Hid (∀ W n, n ≤ 10 → Cph W gc bx K → Lies W gc (1 + n * 16) (rowK K n)) := fun W n hn h => by
    rw [Nat.mul_comm]
    exact h.rows.row (by omega)
  have h0 := HROW.out w 0 (by omega) hC
  have hlen : Hid (∀ n, (lockTo K s n).length = 16) := lockTo_length K s
  have hl0 := add_any gs gc 1 s (rowK K 0) w hs (HR.out 0 (by omega)) hcs hB h0
  rw [addR_row] at hl0
  have hl0' : Calls Tryz.prog 68 #[.pointer (some ⟨gs, 0, none⟩), .pointer (some ⟨gc, 1, none⟩)] w fun e w' => e = .returned (.tuple #[]) ∧ By 68 w' gs (lockTo K s 0) ∧ Wr gs w w' := hl0
  clear hl0 h0
  go_enter Tryz.func44, Tryz.ntmps44
  go_wp2_with fail
  refine hl0'.mono ?_; rintro _ w1 ⟨rfl, hB1, hw1⟩
  clear hl0' hB
  go_wp2_with fail
  go_loopw [11] (fun p wr => ∃ n : Nat, n ≤ 10 ∧ p = .int .i64 n ∧ By 68 wr gs (lockTo K s n) ∧ Wr gs w wr) (fun p _ => 10 - (intOf p).toNat)
  case atStart => exact ⟨0, by omega, rfl, hB1, hw1⟩
  case round =>
    clear hB1 hw1
    obtain ⟨n, hn, rfl, hB, hw⟩ := hrel
    by_cases hlt : n < 10
    · have q1 : (n : Int) < 10 := by omega
      have q3 : (n : Int) + 1 < 11 := by omega
      have q4 : (0 : Int) ≤ (n : Int) + 1 := by omega
      have i1 : IntKind.i64.wrap ((n : Int) + 1) = (n : Int) + 1 := IntWalk.i64_in _ (by omega)
      have i2 : ((n : Int) + 1).toNat = n + 1 := by omega
      have hC1 := hC.wr hw hcs hbs
      have ht := turn_any gc gs bx (lockTo K s n) wr (hlen.out n) hcs hbs hC1.ptr hC1.box hB
      by_cases h9 : n + 1 < 10
      · have hst := Lib.hid (lockTo_step K s n h9)
        have q5 : (n : Int) + 1 < 10 := by omega
        generalize hL : lockTo K s n = L at *
        clear hL
        go_wp2_with fail
        refine ht.mono ?_; rintro _ w2 ⟨rfl, hB2, hw2⟩
        have hm := mixState_any gs (subS L) w2 (subS_length L) hB2
        go_wp2_with fail
        refine hm.mono ?_; rintro _ w3 ⟨rfl, hB3, hw3⟩
        have hC3 := hC1.wr (hw2.trans hw3) hcs hbs
        have ha := add_any gs gc (1 + (n + 1) * 16) (mixS (subS L)) (rowK K (n + 1)) w3 (mixS_length _) (HR.out (n + 1) (by omega)) hcs hB3 (HROW.out w3 (n + 1) (by omega) hC3)
        rw [addR_row, hst.out] at ha
        have HA := Lib.hid ha
        clear ha ht hm hB2 hB3
        go_wp2_with fail
        refine HA.out.mono ?_; rintro _ w4 ⟨rfl, hB4, hw4⟩
        have hw5 := ((hw.trans hw2).trans hw3).trans hw4
        clear HA
        go_wp2_with fail
        go_roundw
        case rel => exact ⟨n + 1, by omega, by go_num, hB4, hw5⟩
        case measure => simp [intOf]; omega
      · have hst := Lib.hid (lockTo_last K s n h9)
        have q5 : ¬ (n : Int) + 1 < 10 := by omega
        generalize hL : lockTo K s n = L at *
        clear hL
        go_wp2_with fail
        refine ht.mono ?_; rintro _ w2 ⟨rfl, hB2, hw2⟩
        have hC3 := hC1.wr hw2 hcs hbs
        have ha := add_any gs gc (1 + (n + 1) * 16) (subS L) (rowK K (n + 1)) w2 (subS_length _) (HR.out (n + 1) (by omega)) hcs hB2 (HROW.out w2 (n + 1) (by omega) hC3)
        rw [addR_row, hst.out] at ha
        have HA := Lib.hid ha
        clear ha ht hB2
        go_wp2_with fail
        refine HA.out.mono ?_; rintro _ w4 ⟨rfl, hB4, hw4⟩
        have hw5 := (hw.trans hw2).trans hw4
        clear HA
        go_wp2_with fail
        go_roundw
        case rel => exact ⟨n + 1, by omega, by go_num, hB4, hw5⟩
        case measure => simp [intOf]; omega
    · obtain rfl : n = 10 := by omega
      go_wp2_with fail
      go_end0
      exact ⟨rfl, hB, hw⟩
end Go.Proofs.YtdcbljfacmidjaaGreat

/- aes.Block. -/
set_option linter.unusedVariables false
set_option linter.unusedSimpArgs false
namespace Go.Proofs.YtdcbljfacmidjaaGreat
open Go.RowKit

/-- What Block answers: its error, its bytes. -/
def blkE (key b : List UInt8) : Int := if key.length = 16 ∧ b.length = 16 then 0 else 1
def blkR (key b : List UInt8) : List UInt8 := if key.length = 16 ∧ b.length = 16 then lockL (keysL key) b else []
theorem Rd.nil (w : World) : Rd w (.slice none 0 0) [] := ⟨none, 0, rfl, Nat.le_refl _, Nat.zero_le _, fun _ => rfl, fun x hx => by cases hx⟩

end Go.Proofs.YtdcbljfacmidjaaGreat

/- aes.Stream. -/
set_option linter.unusedVariables false
set_option linter.unusedSimpArgs false
namespace Go.Proofs.YtdcbljfacmidjaaGreat
open Go.RowKit

theorem But.wr {g : Nat} {A B : World} (h : But g A B) : Wr g A B := by
  have hb := h.below (Below.refl 0 A) (Nat.zero_le g)
  exact ⟨hb.os, hb.tape, hb.output, by rw [h.size]; exact Nat.le_refl _, fun k _ hk => h.other k hk⟩
theorem Rd.nil5 (w : World) : Rd w (.slice none 0 0) [] := ⟨none, 0, rfl, Nat.le_refl _, Nat.zero_le _, fun _ => rfl, fun x hx => by cases hx⟩

set_option maxRecDepth 100000 in
set_option maxHeartbeats 4000000 in
theorem aesStream_any (u1 u2 u3 : Value) (key nonce b : List UInt8) (w : World) (hu1 : Rd w u1 key) (hu2 : Rd w u2 nonce) (hu3 : Rd w u3 b) (hbl : b.length ≤ 1000000) :
    Calls Tryz.prog 25 #[u1, u2, u3] w fun e w' => (∃ r, e = .returned (.tuple #[r, .int .i64 (strE key nonce)]) ∧ Rd w' r (strR key nonce b)) ∧ Kp w w' := by
  have U := u8
  obtain ⟨a1, c1, rfl, h1, h2⟩ := hu1.shape
  obtain ⟨a2, c2, rfl, h3, h4⟩ := hu2.shape
  obtain ⟨a3, c3, rfl, h5, h6⟩ := hu3.shape
  by_cases hk : key.length = 16
  · by_cases hn : nonce.length = 12
    · have e0 : strE key nonce = 0 := if_pos ⟨hk, hn⟩
      have r0 : strR key nonce b = strL (keysL key) nonce b := if_pos ⟨hk, hn⟩
      rw [e0, r0]
      have HKL := Lib.hid (keysL_length hk)
      have HNC : Hid (∀ W, Kp w W → Calls Tryz.prog 42 #[.slice a1 key.length c1] W fun e w' => (∃ gc bx, e = .returned (.pointer (some ⟨gc, 0, none⟩)) ∧ Cph w' gc bx (keysL key) ∧ W.heap.size ≤ gc ∧ W.heap.size ≤ bx) ∧ Kp W w') := fun W hW => newCipher_any _ key W (hu1.kp hW) hk
      rw [hk] at HNC h1 ⊢
      have HB3 := Lib.hid hu3
      have HB2 := Lib.hid hu2
      rw [hn] at HB2 h3 ⊢
      have HN := Lib.hid hn
      obtain ⟨len, hlen⟩ : ∃ n, b.length = n := ⟨_, rfl⟩
      rw [hlen] at HB3 h5 hbl ⊢
      have HL := Lib.hid hlen
      generalize keysL key = K at *
      clear hu1 hu2 hu3 e0 r0 hk hn hlen
      go_enter Tryz.func25, Tryz.ntmps25
      go_wp2_with fail
      refine (HNC.out w (Kp.refl w)).mono ?_; rintro _ w1 ⟨⟨gc, bx, rfl, hC, hgc, hbx⟩, k1⟩
      clear HNC
      go_wp2_with (first
        | (refine wpList_copy_blk U rfl (.tmp 26) (.tmp 27) rfl 68 w1.heap.size _ nonce (List.replicate 16 0) 16 16 rfl rfl (By.made _ _ _ _ rfl) (by decide) (HB2.out.kp (k1.alloc _)) (by rw [HN.out]; decide) ?_; intro w2 hS2 hbut2; have k2 : Kp w1 w2 := hbut2.below ((Kp.refl w1).alloc _) (Nat.le_refl _); clear hbut2)
        | (at_make; refine wpList_make_fresh (z := .int .u8 0) (b := 1) Tryz.underlying22 Tryz.info5 rfl (by decide) rfl _ _ rfl len rfl rfl hbl ?_; intro w3 hw3; have hO3 : By 5 w3 w2.heap.size (List.replicate len 0) := (by rw [hw3]; exact By.fresh _ _ _); have k3 : Kp w2 w3 := (by rw [hw3]; exact (Kp.refl _).alloc _); clear hw3)
        | (refine wpList_copy_blk U rfl (.tmp 32) (.tmp 33) rfl 5 w2.heap.size _ b (List.replicate len 0) len len rfl rfl hO3 (by simp) (HB3.out.kp ((k1.trans k2).trans k3)) (by rw [HL.out]; exact Nat.le_refl _) ?_; intro w4 hO4 hbut4; have k4 : Kp w2 w4 := hbut4.below k3 (Nat.le_refl _); clear hbut4 hO3 k3))
      rw [HL.out, List.drop_eq_nil_of_le (by simp), List.append_nil] at hO4
      rw [HN.out] at hS2
      have hlt1 : gc < w1.heap.size := World.block_lt_of_cell? w1 _ hC.ptr
      have hlt2 : bx < w1.heap.size := hC.box.lt
      have hlt3 : w1.heap.size < w2.heap.size := hS2.lt
      have hw1 := k1.size
      have hC4 := (hC.kp k2).kp k4
      have hS4 := hS2.kp k4
      have hk4 : Kp w w4 := (k1.trans k2).trans k4
      have HSL := Lib.hid (strL_length K nonce b)
      have HSG : Hid (∀ j, j < len → (strL K nonce b)[j]? = some (strF K nonce b j)) := fun j hj => strL_some K nonce b j (by rw [HL.out]; exact hj)
      have hO4' : By 5 w4 w2.heap.size (mixB b (strL K nonce b) (min (16 * 0) len)) := by
        rw [Nat.mul_zero, Nat.zero_min, show mixB b (strL K nonce b) 0 = b by simp [mixB]]
        exact hO4
      obtain ⟨gst, hgst⟩ : ∃ g, w1.heap.size = g := ⟨_, rfl⟩
      obtain ⟨go, hgo⟩ : ∃ g, w2.heap.size = g := ⟨_, rfl⟩
      rw [hgst] at hlt1 hlt2 hlt3 hw1 hS4 ⊢
      rw [hgo] at hlt3 hO4' ⊢
      clear hgst hgo hO4 hS2 hC k1 k2 k4
      have HDEF : Hid (∀ j, strF K nonce b j = b.getD j 0 ^^^ (lockL K (ctrB nonce (j / 16))).getD (j % 16) 0) := fun _ => rfl
      have HLL : Hid (∀ x, (lockL K x).length = 16) := lockL_length K
      go_loopw [11] (fun p wr => ∃ (q : Nat) (y : List UInt8), 16 * q ≤ len + 15 ∧ p = .int .i64 (16 * q : Nat) ∧ By 5 wr go (mixB b (strL K nonce b) (min (16 * q) len)) ∧ y.length = 4 ∧ By 68 wr gst (nonce ++ y) ∧ Cph wr gc bx K ∧ Kp w wr) (fun p _ => len + 16 - (intOf p).toNat)
      case atStart => exact ⟨0, _, by omega, rfl, hO4', by simp, hS4, hC4, hk4⟩
      case round =>
        clear hO4' hS4 hC4 hk4
        obtain ⟨q, y, hq, rfl, hO, hy, hS, hC, hk⟩ := hrel
        obtain ⟨f, hf⟩ : ∃ f, 16 * q = f := ⟨_, rfl⟩
        rw [hf] at hq hO ⊢
        by_cases hlt : f < len
        · have q1 : (f : Int) < (len : Int) := by omega
          have e1 : (f : Int).tdiv 16 = (q : Int) := by rw [Int.tdiv_eq_ediv_of_nonneg (by omega)]; omega
          have e2 : (f : Int) / 16 = (q : Int) := by omega
          have e3 : IntKind.i64.wrap ((q : Int) + 1) = (q : Int) + 1 := IntWalk.i64_in _ (by omega)
          have e4 : IntKind.i64.wrap (q : Int) = (q : Int) := IntWalk.i64_in _ (by omega)
          have hnk : numOk ((q : Int) + 1) 4 := by
            unfold numOk
            refine ⟨by omega, by omega, by omega, ?_⟩
            show (q : Int) + 1 < 4294967296
            omega
          have hnum := num_any ((q : Int) + 1) 4 wr (by omega)
          rw [(num_yes hnk).1, (num_yes hnk).2, show ((4 : Int)).toNat = 4 from rfl, show ((q : Int) + 1).toNat = q + 1 by omega] at hnum
          have HNUM := Lib.hid hnum
          have HCT : Hid ((nonce ++ y).take 12 ++ (be 4 (q + 1) ++ (nonce ++ y).drop (12 + (be 4 (q + 1)).length)) = ctrB nonce q) := by
            unfold Hid ctrB
            rw [be_length, List.take_append_of_le_length (by rw [HN.out]; exact Nat.le_refl _), List.take_of_length_le (by rw [HN.out]; exact Nat.le_refl _), List.drop_eq_nil_of_le (by rw [List.length_append, HN.out, hy]; exact Nat.le_refl _), List.append_nil]
          have HBL := Lib.hid (be_length 4 (q + 1))
          have HCL : Hid ((ctrB nonce q).length = 16) := by rw [Hid, ctrB_length, HN.out]
          have HNY : Hid ((nonce ++ y).length = 16) := by rw [Hid, List.length_append, HN.out, hy]
          clear hnum hnk
          go_wp2_with fail
          refine HNUM.out.mono ?_; rintro _ w5 ⟨v5, rfl, ho5, k5⟩
          have hS5 := hS.kp k5
          clear HNUM
          go_wp2_with (first
            | (refine wpList_copy_mid U rfl (.tmp 51) (.tmp 52) rfl 68 gst 12 v5 (be 4 (q + 1)) (nonce ++ y) 4 4 rfl rfl hS5 ho5.rd (by rw [HBL.out]; exact Nat.le_refl _) (by rw [HBL.out]; decide) (by rw [HBL.out, HNY.out]; decide) ?_; intro w6 hS6 hbut6)
            | (refine wpList_load_by Tryz.underlying68 (by kernel_rfl) rfl (.tmp 9) rfl gst (ctrB nonce q) rfl (by rw [← HCT.out]; exact hS6) HCL.out ?_)
            | (refine wpList_store_by (by kernel_rfl) rfl rfl (.tmp 14) (.tmp 54) rfl w6.heap.size (List.replicate 16 0) (ctrB nonce q) rfl rfl (By.made _ _ _ _ rfl) (by decide) HCL.out ?_; intro w7 hB7 hbut7))
          rw [HCT.out] at hS6
          have hw6 := hbut6.wr
          have hO6 := hw6.by (hO.kp k5) (by omega)
          have hC6 := (hC.kp k5).wr hw6 (by omega) (by omega)
          have hk6 : Kp w w6 := Below.trans (show Below w.heap.size w w5 from hk.trans k5) (hw6.below (hk.trans k5).size (by omega))
          have k67 : Kp w6 w7 := hbut7.below ((Kp.refl w6).alloc _) (Nat.le_refl _)
          have hC7 := hC6.kp k67
          have hO7 := hO6.kp k67
          have hS7 := hS6.kp k67
          have hk7 := hk6.trans k67
          have l1 : gst < w6.heap.size := hS6.lt
          have l2 : go < w6.heap.size := hO6.lt
          have l3 := hk6.size
          obtain ⟨gs, hgs⟩ : ∃ g, w6.heap.size = g := ⟨_, rfl⟩
          rw [hgs] at hB7 l1 l2 l3 ⊢
          clear hbut6 hbut7 hw6 hO6 hC6 hS6 k67 hgs hS5 ho5 k5 hS hC hO hk6
          refine (lock_any gc gs bx (ctrB nonce q) K w7 HCL.out HKL.out (by omega) (by omega) hC7 hB7).mono ?_; rintro _ w8 ⟨rfl, hB8, hw8⟩
          have hO8 := hw8.by hO7 (by omega)
          have hS8 := hw8.by hS7 (by omega)
          have hC8 := hC7.wr hw8 (by omega) (by omega)
          have hk8 : Kp w w8 := Below.trans (show Below w.heap.size w w7 from hk7) (hw8.below hk7.size (by omega))
          have hmf : min f len = f := by omega
          rw [hmf] at hO8
          have i1 : IntKind.i64.wrap ((len : Int) - (f : Int)) = (len : Int) - (f : Int) := IntWalk.i64_in _ (by omega)
          clear hmf
          by_cases hd : 16 ≤ len - f
          · have hm3 : Hid (f + 16 = min (16 * (q + 1)) len) := by show f + 16 = min (16 * (q + 1)) len; omega
            have d1 : (16 : Int) ≤ (len : Int) - (f : Int) := by omega
            have hm2 : f + 16 ≤ len := by omega
            clear hd
            clear hO7 hC7 hS7 hB7 hw8 hk7 hk
            go_wp2_with fail
            go_loopw [62] (fun p wr => ∃ i : Nat, i ≤ 16 ∧ p = .int .i64 i ∧ By 5 wr go (mixB b (strL K nonce b) (f + i)) ∧ Wr go w8 wr) (fun p _ => 16 - (intOf p).toNat)
            case atStart => exact ⟨0, by omega, rfl, hO8, Wr.refl _ _⟩
            case round =>
              clear hO8
              obtain ⟨i, hi, rfl, hO, hw⟩ := hrel
              by_cases hlti : i < 16
              · have qi : (i : Int) < (16 : Int) := by omega
                obtain ⟨j, hj⟩ : ∃ j, f + i = j := ⟨_, rfl⟩
                have hjl : j < len := by omega
                have hn1 : (mixB b (strL K nonce b) j).set j (strF K nonce b j) = mixB b (strL K nonce b) (j + 1) := mixB_set _ _ j (by rw [HSL.out]) (by rw [HL.out]; exact hjl) _ (HSG.out j hjl)
                have hml : (mixB b (strL K nonce b) j).length = len := by rw [mixB_length _ _ j (by rw [HSL.out]) (by rw [HL.out]; omega), HL.out]
                rw [hj] at hO
                have c0 := hO.cell j (by rw [hml]; exact hjl)
                rw [mixB_past _ _ j j (by rw [HSL.out]) (by rw [HL.out]; omega) (Nat.le_refl _)] at c0
                have f0 := hO.frozen j
                have c1 := (hw.by hB8 (by omega)).cell i (by rw [HLL.out]; omega)
                have hx := b8_xor (b.getD j 0) ((lockL K (ctrB nonce q)).getD i 0)
                have hdef := HDEF.out j
                rw [show j / 16 = q by omega, show j % 16 = i by omega] at hdef
                rw [← hdef] at hx
                have HNX := Lib.hid (show f + (i + 1) = j + 1 by omega)
                have u1 : (f : Int) + (i : Int) = (j : Int) := by omega
                have u2 : IntKind.i64.wrap (j : Int) = j := IntWalk.i64_in _ (by omega)
                have u3 : (j : Int) < (len : Int) := by omega
                have u4 : (i : Int) < 16 := by omega
                generalize strF K nonce b j = Y at *
                generalize b.getD j 0 = X1 at *
                generalize (lockL K (ctrB nonce q)).getD i 0 = X2 at *
                have HN1 := Lib.hid hn1
                clear hn1 hml hj hdef
                go_wp2_with fail
                go_region
                all_goals
                  go_wp2_with fail
                  go_roundw
                  case rel => exact ⟨i + 1, by omega, by go_num, by rw [HNX.out]; exact hO.set j _ HN1.out, (hw.setCell j _).drew⟩
                  case measure => simp [intOf]; omega
              · obtain rfl : i = 16 := by omega
                have hO2 : By 5 wr go (mixB b (strL K nonce b) (min (16 * (q + 1)) len)) := by rw [← hm3.out]; exact hO
                have hS2 : By 68 wr gst (nonce ++ be 4 (q + 1)) := hw.by hS8 (by omega)
                have hC2 := hC8.wr hw (by omega) (by omega)
                have hk2 : Kp w wr := Below.trans (show Below w.heap.size w w8 from hk8) (hw.below hk8.size (by omega))
                have e9 : IntKind.i64.wrap ((f : Int) + 16) = ((16 * (q + 1) : Nat) : Int) := by rw [IntWalk.i64_in _ (by omega)]; omega
                have HF := Lib.hid hf
                clear hO hw hB8 hS8 hC8 hk8 hf
                go_wp2_with fail
                go_roundw
                case rel => exact ⟨q + 1, _, by have := HF.out; omega, rfl, hO2, be_length 4 (q + 1), hS2, hC2, hk2⟩
                case measure => have := HF.out; simp [intOf]; omega
          · obtain ⟨m, hm⟩ : ∃ m, len - f = m := ⟨_, rfl⟩
            have hm3 : Hid (f + m = min (16 * (q + 1)) len) := by show f + m = min (16 * (q + 1)) len; omega
            have d0 : (len : Int) - (f : Int) = (m : Int) := by omega
            have d1 : ¬ (16 : Int) ≤ (m : Int) := by omega
            have d2 : IntKind.i64.wrap (m : Int) = m := IntWalk.i64_in _ (by omega)
            have hm2 : f + m ≤ len := by omega
            have hm16 : m < 16 := by omega
            clear hd hm i1
            clear hO7 hC7 hS7 hB7 hw8 hk7 hk
            go_wp2_with fail
            go_loopw [62] (fun p wr => ∃ i : Nat, i ≤ m ∧ p = .int .i64 i ∧ By 5 wr go (mixB b (strL K nonce b) (f + i)) ∧ Wr go w8 wr) (fun p _ => m - (intOf p).toNat)
            case atStart => exact ⟨0, by omega, rfl, hO8, Wr.refl _ _⟩
            case round =>
              clear hO8
              obtain ⟨i, hi, rfl, hO, hw⟩ := hrel
              by_cases hlti : i < m
              · have qi : (i : Int) < (m : Int) := by omega
                obtain ⟨j, hj⟩ : ∃ j, f + i = j := ⟨_, rfl⟩
                have hjl : j < len := by omega
                have hn1 : (mixB b (strL K nonce b) j).set j (strF K nonce b j) = mixB b (strL K nonce b) (j + 1) := mixB_set _ _ j (by rw [HSL.out]) (by rw [HL.out]; exact hjl) _ (HSG.out j hjl)
                have hml : (mixB b (strL K nonce b) j).length = len := by rw [mixB_length _ _ j (by rw [HSL.out]) (by rw [HL.out]; omega), HL.out]
                rw [hj] at hO
                have c0 := hO.cell j (by rw [hml]; exact hjl)
                rw [mixB_past _ _ j j (by rw [HSL.out]) (by rw [HL.out]; omega) (Nat.le_refl _)] at c0
                have f0 := hO.frozen j
                have c1 := (hw.by hB8 (by omega)).cell i (by rw [HLL.out]; omega)
                have hx := b8_xor (b.getD j 0) ((lockL K (ctrB nonce q)).getD i 0)
                have hdef := HDEF.out j
                rw [show j / 16 = q by omega, show j % 16 = i by omega] at hdef
                rw [← hdef] at hx
                have HNX := Lib.hid (show f + (i + 1) = j + 1 by omega)
                have u1 : (f : Int) + (i : Int) = (j : Int) := by omega
                have u2 : IntKind.i64.wrap (j : Int) = j := IntWalk.i64_in _ (by omega)
                have u3 : (j : Int) < (len : Int) := by omega
                have u4 : (i : Int) < 16 := by omega
                generalize strF K nonce b j = Y at *
                generalize b.getD j 0 = X1 at *
                generalize (lockL K (ctrB nonce q)).getD i 0 = X2 at *
                have HN1 := Lib.hid hn1
                clear hn1 hml hj hdef
                go_wp2_with fail
                go_region
                all_goals
                  go_wp2_with fail
                  go_roundw
                  case rel => exact ⟨i + 1, by omega, by go_num, by rw [HNX.out]; exact hO.set j _ HN1.out, (hw.setCell j _).drew⟩
                  case measure => simp [intOf]; omega
              · obtain rfl : i = m := by omega
                have hO2 : By 5 wr go (mixB b (strL K nonce b) (min (16 * (q + 1)) len)) := by rw [← hm3.out]; exact hO
                have hS2 : By 68 wr gst (nonce ++ be 4 (q + 1)) := hw.by hS8 (by omega)
                have hC2 := hC8.wr hw (by omega) (by omega)
                have hk2 : Kp w wr := Below.trans (show Below w.heap.size w w8 from hk8) (hw.below hk8.size (by omega))
                have e9 : IntKind.i64.wrap ((f : Int) + 16) = ((16 * (q + 1) : Nat) : Int) := by rw [IntWalk.i64_in _ (by omega)]; omega
                have HF := Lib.hid hf
                clear hO hw hB8 hS8 hC8 hk8 hf
                go_wp2_with fail
                go_roundw
                case rel => exact ⟨q + 1, _, by have := HF.out; omega, rfl, hO2, be_length 4 (q + 1), hS2, hC2, hk2⟩
                case measure => have := HF.out; simp [intOf]; omega
        · have hO2 : By 5 wr go (strL K nonce b) := by
            rw [show min f len = len by omega] at hO
            have := mixB_all b (strL K nonce b) (by rw [HSL.out])
            rw [HSL.out, HL.out] at this
            rw [this] at hO
            exact hO
          have hrd := hO2.rdAll (n := len) (c := len) (by rw [HSL.out, HL.out]) (Nat.le_refl _) (by unfold maxLen; omega)
          have hq2 : ¬ (f : Int) < (len : Int) := by omega
          clear hO hO2 hS hC
          go_wp2_with fail
          go_ret2
          exact ⟨⟨_, rfl, hrd⟩, hk⟩
    · have e0 : strE key nonce = 1 := if_neg (fun h => hn h.2)
      have r0 : strR key nonce b = [] := if_neg (fun h => hn h.2)
      rw [e0, r0]
      have hb2 : ((nonce.length : Int) == 12) = false := beq_eq_false_iff_ne.2 (by omega)
      have hb3 : ¬ (nonce.length : Int) = 12 := by omega
      rw [hk]
      go_enter Tryz.func25, Tryz.ntmps25
      go_wp2_with fail
      go_ret2
      exact ⟨⟨_, rfl, Rd.nil5 _⟩, Kp.refl _⟩
  · have e0 : strE key nonce = 1 := if_neg (fun h => hk h.1)
    have r0 : strR key nonce b = [] := if_neg (fun h => hk h.1)
    rw [e0, r0]
    have hb2 : ((key.length : Int) == 16) = false := beq_eq_false_iff_ne.2 (by omega)
    have hb3 : ¬ (key.length : Int) = 16 := by omega
    go_enter Tryz.func25, Tryz.ntmps25
    go_wp2_with fail
    go_ret2
    exact ⟨⟨_, rfl, Rd.nil5 _⟩, Kp.refl _⟩
end Go.Proofs.YtdcbljfacmidjaaGreat

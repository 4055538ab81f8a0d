import Derived.Test.YtigpgcjbpoaclaaDoorC2
import Derived.Test.YtigpgcjbpoaclaaDoorC9
import Derived.Test.YtigpgcjbpoaclaaDoorC10
import Derived.Laws.PanicsMore
set_option linter.unusedVariables false
set_option linter.unusedSimpArgs false
namespace Go.Proofs.YtigpgcjbpoaclaaDoor
open Go.RowKit
def By (T : TypeId) (w : World) (g : Nat) (l : List UInt8) : Prop := w.heap[g]? = some (.cells (Lib.byteCells l).toArray T (0, 0))
theorem By.lt {T : TypeId} {w : World} {g : Nat} {l : List UInt8} (h : By T w g l) : g < w.heap.size := (Array.getElem?_eq_some_iff.1 h).1
theorem By.cell {T : TypeId} {w : World} {g : Nat} {l : List UInt8} (h : By T w g l) (i : Nat) (hi : i < l.length) : w.cell? ⟨g, i, none⟩ = some (.int .u8 ((l.getD i 0).toNat : Int)) := by
  rw [cell_of_row w g i _ T _ h]
  simp [Lib.byteCells, hi]
theorem By.frozen {T : TypeId} {w : World} {g : Nat} {l : List UInt8} (h : By T w g l) (i : Nat) : w.frozen? ⟨g, i, none⟩ = false := by
  have h' := h
  unfold By at h'
  simp [World.frozen?, h']
theorem By.kp {T : TypeId} {w w' : World} {g : Nat} {l : List UInt8} (h : By T w g l) (k : Kp w w') : By T w' g l := (k.block g h.lt).trans h
theorem By.set {T : TypeId} {w : World} {g : Nat} {l m : List UInt8} (h : By T w g l) (i : Nat) (x : UInt8) (hm : l.set i x = m) : By T (w.setCell ⟨g, i, none⟩ (.int .u8 (x.toNat : Int))) g m := by
  subst hm
  have h' := h
  unfold By at h' ⊢
  obtain ⟨hlt, heq⟩ := Array.getElem?_eq_some_iff.1 h'
  simp [World.setCell, hlt, Array.getElem_modify, heq, Lib.byteCells, List.map_set]
theorem By.rd {T : TypeId} {w : World} {g n c : Nat} {l : List UInt8} (h : By T w g l) (hn : n ≤ l.length) (hc : n ≤ c) (hm : c ≤ maxLen) : Rd w (.slice (some ⟨g, 0, none⟩) n c) (l.take n) := by
  have e : (l.take n).length = n := by simp; omega
  refine ⟨some ⟨g, 0, none⟩, c, by rw [e], by rw [e]; exact hc, hm, fun h => (by cases h), fun x hx i hi => ?_⟩
  cases hx
  rw [e] at hi
  have := h.cell i (by omega)
  rw [List.getElem_take]
  rw [List.getD_eq_getElem?_getD, List.getElem?_eq_getElem (by omega)] at this
  rw [← Option.getD_some (a := l[i]) (b := 0), ← this]
  congr 1
  unfold Addr.add
  split <;> simp_all
theorem By.rdAll {T : TypeId} {w : World} {g n c : Nat} {l : List UInt8} (h : By T w g l) (hn : n = l.length) (hc : n ≤ c) (hm : c ≤ maxLen) : Rd w (.slice (some ⟨g, 0, none⟩) n c) l := by
  have := h.rd (n := n) (by omega) hc hm
  rwa [List.take_of_length_le (by omega)] at this
theorem By.fresh (T : TypeId) (w : World) (n : Nat) : By T (w.alloc (.cells (Array.replicate n (.int .u8 0)) T)) w.heap.size (List.replicate n 0) := by
  have := heap_alloc_new w (.cells (Array.replicate n (.int .u8 0)) T)
  unfold By
  rw [this]
  simp [Lib.byteCells]
def mixB (A B : List UInt8) (i : Nat) : List UInt8 := B.take i ++ A.drop i
theorem mixB_length (A B : List UInt8) (i : Nat) (h : A.length = B.length) (hi : i ≤ A.length) : (mixB A B i).length = A.length := by simp [mixB]; omega
theorem mixB_set (A B : List UInt8) (i : Nat) (h : A.length = B.length) (hi : i < A.length) (x : UInt8) (hx : B[i]? = some x) : (mixB A B i).set i x = mixB A B (i + 1) := by
  unfold mixB
  have hb : i < B.length := by omega
  have hl : (B.take i).length = i := by simp; omega
  rw [List.getElem?_eq_getElem hb] at hx
  rw [List.set_append_right _ _ (by omega), hl, Nat.sub_self, List.drop_eq_getElem_cons hi, List.set_cons_zero, List.take_succ_eq_append_getElem hb, List.append_assoc]
  cases hx
  rfl
theorem mixB_all (A B : List UInt8) (h : A.length = B.length) : mixB A B B.length = B := by
  unfold mixB
  rw [List.take_of_length_le (Nat.le_refl _), List.drop_eq_nil_of_le (by omega), List.append_nil]
theorem be_get : ∀ (w N k : Nat), k < w → (be w N)[k]? = some (UInt8.ofNat (N / 256 ^ (w - 1 - k)))
  | 0, _, k, h => by omega
  | w + 1, N, 0, _ => by rw [be_cons]; simp
  | w + 1, N, k + 1, h => by
    rw [be_cons, List.getElem?_cons_succ, be_get w N k (by omega)]
    congr 4
    omega
theorem fill_lt (n : Nat) : fill n < 64 := by unfold fill; omega
theorem pad_length (n : Nat) : (pad n).length = 9 + fill n := by simp [pad, be_length]; omega
theorem pad_whole (n : Nat) : (n + (pad n).length) % 64 = 0 := by rw [pad_length]; unfold fill; omega
theorem pad_get (n k : Nat) (h : k < 8) : (pad n)[1 + fill n + k]? = some (UInt8.ofNat (8 * n / 256 ^ (7 - k))) := by
  have e : (128 :: List.replicate (fill n) 0 : List UInt8).length = 1 + fill n := by simp; omega
  have hp : pad n = (128 :: List.replicate (fill n) 0) ++ be 8 (8 * n) := rfl
  rw [hp, List.getElem?_append_right (by omega), e, show 1 + fill n + k - (1 + fill n) = k by omega, be_get 8 _ k h]
theorem pad_start (n : Nat) : (List.replicate (9 + fill n) (0 : UInt8)).set 0 128 = mixB (List.replicate (9 + fill n) 0) (pad n) (1 + fill n) := by
  have e : (128 :: List.replicate (fill n) 0 : List UInt8).length = 1 + fill n := by simp; omega
  have hp : pad n = (128 :: List.replicate (fill n) 0) ++ be 8 (8 * n) := rfl
  unfold mixB
  rw [hp, List.take_append_of_le_length (by omega), List.take_of_length_le (by omega), List.drop_replicate, show 9 + fill n = (fill n + 8) + 1 by omega, List.replicate_succ, List.set_cons_zero, show fill n + 8 + 1 - (1 + fill n) = 8 by omega, List.cons_append, List.replicate_append_replicate]
def padOf (n : Int) : List UInt8 := if 0 ≤ n ∧ n ≤ 1125899906842624 then pad n.toNat else []
set_option maxHeartbeats 1000000 in
theorem pad_any (n : Int) (w : World) :
    Calls Tryd.prog 93 #[.int .i64 n] w fun e w' => (∃ v, e = .returned v ∧ Rd w' v (padOf n)) ∧ Kp w w' := by
  by_cases h0 : 0 ≤ n ∧ n ≤ 1125899906842624
  · have hp : padOf n = pad n.toNat := if_pos h0
    rw [hp]
    clear hp
    obtain ⟨h0, h1⟩ := h0
    obtain ⟨n, rfl⟩ := Int.eq_ofNat_of_zero_le h0
    rw [Int.toNat_natCast]
    obtain ⟨f, hf⟩ : ∃ f, fill n = f := ⟨_, rfl⟩
    have hfl := fill_lt n
    have hl := pad_length n
    have hst := pad_start n
    have hget := pad_get n
    have hfi : (119 - (n : Int) % 64).tmod 64 = (f : Int) := by
      rw [Int.tmod_eq_emod_of_nonneg (by omega), ← hf]
      unfold fill
      omega
    rw [hf] at hfl hl hst hget
    have hfi2 : (119 - (n : Int) % 64) % 64 = (f : Int) := by rw [← hfi, Int.tmod_eq_emod_of_nonneg (by omega)]
    have HG := Lib.hid hget
    have HL := Lib.hid hl
    have HS := Lib.hid hst
    have HB := Lib.hid h1
    have hw : IntKind.i64.wrap (8 * (n : Int)) = 8 * (n : Int) := by rw [IntKind.wrap_i64]; omega
    clear hf hget hl hst
    go_enter Tryd.func93, Tryd.ntmps93
    have hz : ((9 + f : Nat) : Int) = 1 + (f : Int) + 8 := by omega
    have HZ := Lib.hid hz
    clear hz
    go_wp2_with (at_make; refine wpList_make_fresh (z := .int .u8 0) (b := 1) Tryd.underlying22 Tryd.info5 rfl (by decide) rfl _ _ rfl (9 + f) (by rw [HZ.out]; rfl) (by rw [HZ.out]; rfl) (by omega) ?_; intro w1 hw1; have HW1 := Lib.hid hw1; clear hw1; have hB0 : By 5 w1 w.heap.size (List.replicate (9 + f) 0) := (by rw [HW1.out]; exact By.fresh _ _ _); have hk0 : Kp w w1 := (by rw [HW1.out]; exact (Kp.refl w).alloc _); have c0 := hB0.cell 0 (by simp; omega); have f0 := hB0.frozen 0)
    have hB1 : By 5 (w1.setCell ⟨w.heap.size, 0, none⟩ (.int .u8 128)) w.heap.size (mixB (List.replicate (9 + f) 0) (pad n) (1 + f)) := hB0.set 0 128 HS.out
    have hk1 : Kp w (w1.setCell ⟨w.heap.size, 0, none⟩ (.int .u8 128)) := Below.setCell hk0 (by simp) _
    clear hB0 hk0 c0 f0 HW1 hfi hfi2
    go_loopw [22] (fun i wr => ∃ k : Nat, k ≤ 8 ∧ i = .int .i64 k ∧ By 5 wr w.heap.size (mixB (List.replicate (9 + f) 0) (pad n) (1 + f + k)) ∧ Kp w wr) (fun i _ => 8 - (intOf i).toNat)
    case atStart => exact ⟨0, by omega, rfl, hB1, hk1⟩
    case round =>
      clear hB1 hk1
      obtain ⟨k, hk, rfl, hB, hkp⟩ := hrel
      by_cases hlt : k < 8
      · have hset := mixB_set (List.replicate (9 + f) 0) (pad n) (1 + f + k) (by rw [HL.out]; simp) (by simp; omega) _ (HG.out k hlt)
        have hlen : (mixB (List.replicate (9 + f) 0) (pad n) (1 + f + k)).length = 9 + f := by rw [mixB_length _ _ _ (by rw [HL.out]; simp) (by simp; omega)]; simp
        have c0 := hB.cell (1 + f + k) (by rw [hlen]; omega)
        have f0 := hB.frozen (1 + f + k)
        have e1 : (8 * (7 - (k : Int))).toNat = 8 * (7 - k) := by omega
        have e2 : (8 * (n : Int)) / 2 ^ (8 * (7 - k)) = ((8 * n / 256 ^ (7 - k) : Nat) : Int) := by
          have : (256 : Nat) ^ (7 - k) = 2 ^ (8 * (7 - k)) := by rw [Nat.pow_mul]
          rw [this]
          simp
        obtain ⟨X, hX⟩ : ∃ X, 8 * n / 256 ^ (7 - k) = X := ⟨_, rfl⟩
        rw [hX] at e2 hset
        have hv : ((UInt8.ofNat X).toNat : Int) = (X : Int) % 256 := by simp
        have hi1 : (1 + (f : Int) + (k : Int)) < 9 + (f : Int) := by omega
        have hi2 : (1 + (f : Int) + (k : Int)).toNat = 1 + f + k := by omega
        have H7 : (0 : Int) ≤ 7 - (k : Int) := by omega
        have HS2 := Lib.hid (And.intro hset hv)
        clear hset hX hlen hv
        go_wp2_with fail
        go_roundw
        case rel =>
          refine ⟨k + 1, by omega, by go_num, ?_, Below.setCell hkp (by simp) _⟩
          have h := hB.set (1 + f + k) (UInt8.ofNat X) HS2.out.1
          rw [HS2.out.2] at h
          exact h
        case measure => simp [intOf]; omega
      · obtain rfl : k = 8 := by omega
        have hm : mixB (List.replicate (9 + f) 0) (pad n) (1 + f + 8) = pad n := by
          rw [show 1 + f + 8 = (pad n).length by rw [HL.out]; omega]
          exact mixB_all _ _ (by rw [HL.out]; simp)
        rw [hm] at hB
        clear hm
        go_wp2_with fail
        go_ret
        exact ⟨⟨_, rfl, hB.rdAll (by rw [HL.out]) (Nat.le_refl _) (by unfold maxLen; omega)⟩, hkp⟩
  · have hp : padOf n = [] := if_neg h0
    rw [hp]
    by_cases h : n < 0
    · go_enter Tryd.func93, Tryd.ntmps93
      go_wp2
      go_ret
      exact ⟨⟨_, rfl, none, 0, rfl, Nat.le_refl _, Nat.zero_le _, fun _ => rfl, fun x hx => by cases hx⟩, Kp.refl _⟩
    · have h2 : 1125899906842624 < n := by omega
      clear h0
      go_enter Tryd.func93, Tryd.ntmps93
      go_wp2
      go_ret
      exact ⟨⟨_, rfl, none, 0, rfl, Nat.le_refl _, Nat.zero_le _, fun _ => rfl, fun x hx => by cases hx⟩, Kp.refl _⟩
theorem run_index_arr {P : Program} (w : World) (t e : TypeId) (n : Nat) (ie : TypeInfo) (d : TypeDesc) (h : P.underlying t = some (.array n e)) (hi : P.info? e = some ie) (hs : ie.size = 1) (hd : P.underlying e = some d)
    (hp : (match d with | .struct _ | .array _ _ => true | _ => false) = false) (cs : Array Value) (hn : cs.size = n) (i : Nat) (hlt : i < n) (v : Value) (hv : cs[i]? = some v) :
    (Instr.index t (.agg cs) (.int .i64 i)).run P w = .ok v w := by
  have hr : (0 ≤ (i : Int) ∧ (i : Int) < (n : Int)) := by omega
  have hagg : (isAgg e).run P w = .ok false w := by
    unfold isAgg
    rw [Sem.run_bind, run_underlying hd w]
    cases d <;> simp_all
  simp [Instr.index, run_underlying h, asIntOf, hr, go_sem, part, sizeOf, typeInfo, hi, hs, hagg, hv, Sem.run_bind]
  intro hge
  omega
end Go.Proofs.YtigpgcjbpoaclaaDoor

import Derived.Test.YtigpgcjbpoaclaaDoorC1
import Derived.Test.YtigpgcjbpoaclaaDoorC2
import Derived.Test.YtigpgcjbpoaclaaDoorC3
import Derived.Test.YtigpgcjbpoaclaaDoorC19
import Derived.Laws.Rows
import Derived.Laws.Tables
import Derived.RegionTactic
import Derived.BigRegion
set_option linter.unusedVariables false
set_option linter.unusedSimpArgs false
namespace Go.Proofs.YtigpgcjbpoaclaaDoor
def numOk (n w : Int) : Prop := 1 ≤ w ∧ w ≤ 7 ∧ 0 ≤ n ∧ n < 256 ^ w.toNat
instance (n w : Int) : Decidable (numOk n w) := by unfold numOk; infer_instance
def numE (n w : Int) : Int := if numOk n w then 0 else 1
def numB (n w : Int) : List UInt8 := if numOk n w then be w.toNat n.toNat else []
def lenE (n : Int) : Int := if n < 0 ∨ 1073741823 < n then 1 else 0
def lenBytes (n : Nat) : List UInt8 := if n < 64 then be 1 n else if n < 16384 then be 2 (n + 16384) else be 4 (n + 2147483648)
def lenB (n : Int) : List UInt8 := if lenE n = 0 then lenBytes n.toNat else []
def widthOf (c : Nat) : Nat := if c < 64 then 1 else if c < 128 then 2 else 4
def lenOf (w : Nat) (l : List UInt8) : Int := if w = 1 then val l else if w = 2 then val l - 16384 else val l - 2147483648
def tlE (b : List UInt8) (at' : Int) : Int :=
  if at' < 0 ∨ b.length < at' then 1 else if (b.length : Int) = at' then 3 else
  let c := (b.getD at'.toNat 0).toNat
  if 192 ≤ c then 2 else if b.length - at' < widthOf c then 3 else
  let n := lenOf (widthOf c) ((b.drop at'.toNat).take (widthOf c))
  if (widthOf c = 2 ∧ n < 64) ∨ (widthOf c = 4 ∧ n < 16384) then 2 else 0
def tlN (b : List UInt8) (at' : Int) : Int := if tlE b at' = 0 then let c := (b.getD at'.toNat 0).toNat; lenOf (widthOf c) ((b.drop at'.toNat).take (widthOf c)) else 0
def tlP (b : List UInt8) (at' : Int) : Int := if tlE b at' = 0 then at' + widthOf (b.getD at'.toNat 0).toNat else 0
def rowE (x : List UInt8) : Int := lenE x.length
def rowB (x : List UInt8) : List UInt8 := if rowE x = 0 then lenBytes x.length ++ x else []
theorem num_yes {n w : Int} (h : numOk n w) : numE n w = 0 ∧ numB n w = be w.toNat n.toNat := by simp [numE, numB, h]
theorem num_no {n w : Int} (h : ¬ numOk n w) : numE n w = 1 ∧ numB n w = [] := by simp [numE, numB, h]
end Go.Proofs.YtigpgcjbpoaclaaDoor
namespace Go.Proofs.YtigpgcjbpoaclaaDoor
open Go.RowKit
def catB (B : Nat → List UInt8) : Nat → List UInt8
  | 0 => []
  | i + 1 => catB B i ++ B i
theorem catB_length (B : Nat → List UInt8) (h : ∀ i, (B i).length = 32) : ∀ N, (catB B N).length = 32 * N
  | 0 => rfl
  | N + 1 => by rw [catB, List.length_append, catB_length B h N, h N]; omega
theorem catB_prefix (B : Nat → List UInt8) (i k : Nat) : ∃ r, catB B (i + k) = catB B i ++ r := by
  induction k with
  | zero => exact ⟨[], by simp⟩
  | succ k ih => obtain ⟨r, hr⟩ := ih; exact ⟨r ++ B (i + k), by rw [← Nat.add_assoc, catB, hr, List.append_assoc]⟩
def firstB (B : Nat → List UInt8) (n : Nat) : List UInt8 := (catB B ((n + 31) / 32)).take n
theorem firstB_eq (B : Nat → List UInt8) (h : ∀ i, (B i).length = 32) (n N : Nat) (hn : n ≤ 32 * N) : firstB B n = (catB B N).take n := by
  obtain ⟨r, hr⟩ := catB_prefix B ((n + 31) / 32) (N - (n + 31) / 32)
  have hle : (n + 31) / 32 ≤ N := by omega
  rw [show (n + 31) / 32 + (N - (n + 31) / 32) = N by omega] at hr
  rw [hr, List.take_append_of_le_length (by rw [catB_length B h]; omega)]
  rfl
theorem firstB_length (B : Nat → List UInt8) (h : ∀ i, (B i).length = 32) (n : Nat) : (firstB B n).length = n := by
  unfold firstB
  rw [List.length_take, catB_length B h]
  omega
theorem firstB_here (B : Nat → List UInt8) (h : ∀ i, (B i).length = 32) (n i j : Nat) (hj : j < 32) (hn : 32 * i + (j + 1) = n) : catB B i ++ (B i).take (j + 1) = firstB B n := by
  have e : n - 32 * i = j + 1 := by omega
  have hl := catB_length B h i
  rw [firstB_eq B h n (i + 1) (by omega), catB, List.take_append, hl, e, List.take_of_length_le (l := catB B i) (by omega)]
theorem firstB_zero (B : Nat → List UInt8) : firstB B 0 = [] := rfl
theorem firstB_one (B : Nat → List UInt8) (h : ∀ i, (B i).length = 32) : firstB B 32 = B 0 := by
  rw [firstB_eq B h 32 1 (by omega), catB, catB, List.nil_append, List.take_of_length_le (by rw [h]; omega)]
theorem macB_length (k b : List UInt8) : (macB k b).length = 32 := digest_length _
theorem keyB_key (k : List UInt8) : keyB (keyB k) = keyB k := by
  have h := keyB_length k
  obtain ⟨K, hK⟩ : ∃ K, keyB k = K := ⟨_, rfl⟩
  rw [hK] at h ⊢
  unfold keyB blkB
  rw [if_neg (by omega), h]
  simp
theorem macB_key (k b : List UInt8) : macB (keyB k) b = macB k b := by unfold macB; rw [keyB_key]
def expT (k info : List UInt8) : Nat → List UInt8
  | 0 => macB k (info ++ be 1 1)
  | i + 1 => macB k (expT k info i ++ info ++ be 1 (i + 2))
theorem expT_length (k info : List UInt8) : ∀ i, (expT k info i).length = 32
  | 0 => macB_length _ _
  | _ + 1 => macB_length _ _
def expP (k info : List UInt8) : Nat → List UInt8
  | 0 => []
  | i + 1 => expT k info i
theorem expT_step (k info : List UInt8) (i : Nat) : expT k info i = macB k (expP k info i ++ info ++ be 1 (i + 1)) := by
  cases i with
  | zero => simp [expT, expP]
  | succ i => rfl
theorem expP_length (k info : List UInt8) : ∀ i, (expP k info i).length ≤ 32
  | 0 => by simp [expP]
  | i + 1 => by rw [expP, expT_length]; omega
def expL (k info : List UInt8) (n : Nat) : List UInt8 := firstB (expT k info) n
def One (T : TypeId) (w : World) (p : Nat) (v : Value) : Prop := w.heap[p]? = some (.cells #[v] T (0, 0))
theorem One.new (T : TypeId) (w : World) (v : Value) : One T (w.alloc (.cells #[v] T)) w.heap.size v := heap_alloc_new w _
theorem One.lt {T : TypeId} {w : World} {p : Nat} {v : Value} (h : One T w p v) : p < w.heap.size := (Array.getElem?_eq_some_iff.1 h).1
theorem One.cell {T : TypeId} {w : World} {p : Nat} {v : Value} (h : One T w p v) : w.cell? ⟨p, 0, none⟩ = some v := by
  rw [cell_of_row w p 0 _ T _ h]; rfl
theorem One.frozen {T : TypeId} {w : World} {p : Nat} {v : Value} (h : One T w p v) : w.frozen? ⟨p, 0, none⟩ = false := by
  have h' := h
  unfold One at h'
  simp [World.frozen?, h']
theorem One.kp {T : TypeId} {w w' : World} {p : Nat} {v : Value} (h : One T w p v) (k : Kp w w') : One T w' p v := (k.block p h.lt).trans h
theorem One.set {T : TypeId} {w : World} {p : Nat} {v : Value} (h : One T w p v) (u : Value) : One T (w.setCell ⟨p, 0, none⟩ u) p u := by
  have h' := h
  unfold One at h' ⊢
  obtain ⟨hlt, heq⟩ := Array.getElem?_eq_some_iff.1 h'
  simp [World.setCell, hlt, Array.getElem_modify, heq]
theorem One.same {T : TypeId} {X : Nat → Prop} {w w' : World} {p : Nat} {v : Value} (h : One T w p v) (k : Same X w w') (hx : ¬ X p) : One T w' p v := (k.block p h.lt hx).trans h
theorem mac_pad1 (i n c : Nat) (x y : UInt8) (p o g : Nat) (T1 T2 : TypeId) (m : List UInt8) (w : World) (hi : i < m.length) (hn : m.length = n) (hp : One T1 w p (.int .u8 (y.toNat : Int))) (ho : One T2 w o (.slice (some ⟨g, 0, none⟩) n c)) (hg : By 5 w g m) (hnm : n ≤ 1000000) :
    Calls Tryd.prog 103 #[.int .i64 i, .int .u8 (x.toNat : Int), .pointer (some ⟨p, 0, none⟩), .pointer (some ⟨o, 0, none⟩)] w fun e w' => e = .returned (.tuple #[]) ∧ w.setCell ⟨g, i, none⟩ (.int .u8 ((x ^^^ y).toNat : Int)) = w' := by
  have cp := hp.cell
  have co := ho.cell
  have cg := hg.cell i hi
  have fg := hg.frozen i
  have hb := ub8_xor x y
  have hin : i < n := by omega
  obtain ⟨z, hz⟩ : ∃ z : Int, z = ((x ^^^ y).toNat : Int) := ⟨_, rfl⟩
  rw [← hz] at hb ⊢
  clear hz hn
  go_enter Tryd.func103, Tryd.ntmps103
  go_wp2_with fail
  go_end0
  exact ⟨rfl, rfl⟩
theorem xorB_set (l : List UInt8) (y : UInt8) (k : Nat) (h : k < l.length) : (mixB (List.replicate l.length 0) (xorB l y) k).set k (l.getD k 0 ^^^ y) = mixB (List.replicate l.length 0) (xorB l y) (k + 1) :=
  mixB_set _ _ k (by simp [xorB_length]) (by simpa using h) _ (xorB_get l y k h)
set_option maxHeartbeats 1000000 in
theorem mac_each_pad (v : Value) (l : List UInt8) (y : UInt8) (p o g c : Nat) (T1 T2 : TypeId) (w w3 : World) (h : Rd w v l) (hl : l.length ≤ 1000000) (hk : Kp w w3) (hgw : w.heap.size ≤ g)
    (hp : One T1 w3 p (.int .u8 (y.toNat : Int))) (ho : One T2 w3 o (.slice (some ⟨g, 0, none⟩) l.length c)) (hpg : p ≠ g) (hog : o ≠ g) (hg : By 5 w3 g (List.replicate l.length 0)) :
    Calls Tryd.prog 102 #[v, .func (.func 103) #[] #[.pointer (some ⟨p, 0, none⟩), .pointer (some ⟨o, 0, none⟩)]] w3 fun e w' => e = .returned (.tuple #[]) ∧ By 5 w' g (xorB l y) ∧ Same (fun k => k = g) w3 w' ∧ Kp w w' := by
  obtain ⟨a, cc, rfl, h1, h2⟩ := h.shape
  unfold maxLen at h2
  have HS := Lib.hid (xorB_set l y)
  have hall : mixB (List.replicate l.length 0) (xorB l y) l.length = xorB l y := by
    have := mixB_all (List.replicate l.length 0) (xorB l y) (by simp [xorB_length])
    rwa [xorB_length] at this
  have HA := Lib.hid hall
  have h00 : mixB (List.replicate l.length 0) (xorB l y) 0 = List.replicate l.length 0 := by simp [mixB]
  have hg0 : By 5 w3 g (mixB (List.replicate l.length 0) (xorB l y) 0) := by rw [h00]; exact hg
  have HL : Hid (∀ k, k ≤ l.length → (mixB (List.replicate l.length 0) (xorB l y) k).length = l.length) := fun k hk => by
    rw [mixB_length _ _ _ (by simp [xorB_length]) (by simpa using hk)]; simp
  clear hall h00 hg
  go_enter Tryd.func102, Tryd.ntmps102
  go_wp2_with fail
  go_loopw [8] (fun i wr => ∃ k : Nat, k ≤ l.length ∧ i = .int .i64 k ∧ By 5 wr g (mixB (List.replicate l.length 0) (xorB l y) k) ∧ Same (fun k => k = g) w3 wr ∧ Kp w wr) (fun i _ => (l.length - (intOf i).toNat))
  case atStart => exact ⟨0, by omega, rfl, hg0, Same.refl _ _, hk⟩
  case round =>
    clear hg0
    obtain ⟨k, hkl, rfl, hB, hS, hkp⟩ := hrel
    by_cases hlt : k < l.length
    · obtain ⟨b, off, rfl, _, hcell⟩ := h.at k hlt
      have hc0 := hkp.cell (hcell k hlt)
      have hpr := hp.same hS hpg
      have hor := ho.same hS hog
      have HX := Lib.hid (mac_pad1 k l.length c (l.getD k 0) y p o g T1 T2 _ wr (by rw [HL.out k hkl]; exact hlt) (HL.out k hkl) hpr hor hB hl)
      have hst := HS.out k hlt
      have HST := Lib.hid hst
      clear hst hcell
      generalize hx : l.getD k 0 = x at *
      clear hx
      go_wp2_with (go_at_call 103; refine HX.out.mono ?_; rintro e w4 ⟨rfl, rfl⟩)
      go_roundw
      case rel => exact ⟨k + 1, by omega, by go_num, hB.set k _ HST.out, hS.setCell _ _ rfl, Below.setCell hkp hgw _⟩
      case measure => simp [intOf]; omega
    · obtain rfl : k = l.length := by omega
      go_wp2_with fail
      go_end0
      exact ⟨rfl, by rw [← HA.out]; exact hB, hS, hkp⟩
set_option maxHeartbeats 1000000 in
theorem mac_padded (v : Value) (l : List UInt8) (y : UInt8) (w : World) (h : Rd w v l) (hl : l.length ≤ 1000000) :
    Calls Tryd.prog 96 #[v, .int .u8 (y.toNat : Int)] w fun e w' => (∃ g, e = .returned (.slice (some ⟨g, 0, none⟩) l.length l.length) ∧ By 5 w' g (xorB l y) ∧ w.heap.size ≤ g) ∧ Kp w w' := by
  obtain ⟨a, cc, rfl, h1, h2⟩ := h.shape
  unfold maxLen at h2
  have hp0 : One 5 (w.alloc (.cells #[.int .u8 (y.toNat : Int)] 5)) w.heap.size (.int .u8 (y.toNat : Int)) := One.new _ _ _
  have hf0 : ∀ W, W = (w.alloc (.cells #[.int .u8 (y.toNat : Int)] 5)).alloc (.cells (Array.replicate l.length (.int .u8 0)) 5) → By 5 W (w.heap.size + 1) (List.replicate l.length 0) := fun W hW => by
    subst hW
    have := By.fresh 5 (w.alloc (.cells #[.int .u8 (y.toNat : Int)] 5)) l.length
    rwa [World.size_alloc] at this
  have HF := Lib.hid hf0
  have HP := Lib.hid hp0
  clear hf0 hp0
  go_enter Tryd.func96, Tryd.ntmps96
  go_wp2_with (at_make; refine wpList_make_fresh (z := .int .u8 0) (b := 1) Tryd.underlying22 Tryd.info5 rfl (by decide) rfl _ _ rfl l.length rfl rfl hl ?_; intro w1 hw1; have hg1 := HF.out w1 hw1; have hp1 : One 5 w1 w.heap.size (.int .u8 (y.toNat : Int)) := (by rw [hw1]; exact HP.out.kp ((Kp.refl _).alloc _)); have hk1 : Kp w w1 := (by rw [hw1]; exact ((Kp.refl w).alloc _).alloc _); have hs1 := hg1.lt; clear hw1)
  have ho3 : One 22 (w1.alloc (.cells #[.slice (some ⟨w.heap.size + 1, 0, none⟩) l.length l.length] 22)) w1.heap.size (.slice (some ⟨w.heap.size + 1, 0, none⟩) l.length l.length) := One.new _ _ _
  refine (mac_each_pad _ l y w.heap.size w1.heap.size (w.heap.size + 1) l.length _ _ w _ h hl (hk1.alloc _) (by omega) (hp1.kp ((Kp.refl _).alloc _)) ho3 (by omega) (by omega) (hg1.kp ((Kp.refl _).alloc _))).mono ?_
  rintro e w4 ⟨rfl, hg4, hS4, hk4⟩
  have ho4 := (ho3.same hS4 (by omega)).cell
  clear ho3
  go_wp2_with fail
  go_ret
  exact ⟨⟨_, rfl, hg4, by omega⟩, hk4⟩
end Go.Proofs.YtigpgcjbpoaclaaDoor
namespace Go.Proofs.YtigpgcjbpoaclaaDoor
theorem row_ok {x : List UInt8} (h : x.length ≤ 1073741823) : rowE x = 0 ∧ rowB x = lenBytes x.length ++ x := by
  have e : rowE x = 0 := if_neg (by omega)
  simp [rowB, e]
theorem row_len {x : List UInt8} (h : x.length ≤ 1073741823) : (rowB x).length = (lenBytes x.length).length + x.length := by rw [(row_ok h).2, List.length_append]
end Go.Proofs.YtigpgcjbpoaclaaDoor

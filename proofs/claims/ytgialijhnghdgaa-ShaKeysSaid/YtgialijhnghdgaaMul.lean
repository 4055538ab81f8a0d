/- pyxlaw02.prime, mul. -/
import Derived.Test.YtgialijhnghdgaaKeys
import Derived.Test.YtgialijhnghdgaaKeysPlain
set_option linter.unusedVariables false
set_option linter.unusedSimpArgs false
namespace Go.Proofs.Ytgialijhnghdgaa
open Go.RowKit

set_option maxRecDepth 100000 in
set_option maxHeartbeats 1000000 in
theorem prime_any (n : Nat) (w : World) (hn : n < 400) :
    Calls Try.prog 22 #[.int .i64 n] w fun e w' => e = .returned (.bool (primeB n)) ∧ w = w' := by
  obtain ⟨B, hB⟩ : ∃ B, primeB n = B := ⟨_, rfl⟩
  rw [hB]
  have HB := Lib.hid hB
  clear hB
  have hni : (n : Int) < 400 := by omega
  go_enter Try.func22, Try.ntmps22
  go_wp2_with fail
  go_loopw [3] (fun x wr => (∃ d : Nat, x = .int .i64 d ∧ 2 ≤ d ∧ d ≤ 21 ∧ ∀ k, 2 ≤ k → k < d → n % k ≠ 0) ∧ w = wr) (fun x _ => 22 - (intOf x).toNat)
  case atStart => exact ⟨⟨2, rfl, by omega, by omega, fun k h1 h2 => by omega⟩, rfl⟩
  case round =>
    obtain ⟨⟨d, rfl, hd1, hd2, hall⟩, rfl⟩ := hrel
    have hdd : (d : Int) * (d : Int) = ((d * d : Nat) : Int) := by simp
    have hd441 : d * d ≤ 441 := Nat.mul_le_mul hd2 hd2
    have HA := Lib.hid hall
    obtain ⟨q, hq⟩ : ∃ q, d * d = q := ⟨_, rfl⟩
    rw [hq] at hdd hd441
    have HQ := Lib.hid hq
    have hd0 : (2 : Int) ≤ (d : Int) := by omega
    clear hall hq
    by_cases hle : q ≤ n
    · by_cases hm : n % d = 0
      · have hmi : (n : Int) % (d : Int) = 0 := by omega
        have hB : B = false := by rw [← HB.out]; exact primeB_no n d hd1 hn (by rw [HQ.out]; exact hle) hm
        subst hB
        go_wp2_with fail
        go_ret
        exact ⟨rfl, rfl⟩
      · have hmi : ¬ (n : Int) % (d : Int) = 0 := by omega
        have hd20 : d ≤ 20 := Nat.le_of_not_lt fun h => by
          have h2 := Nat.mul_le_mul h h
          have := HQ.out
          omega
        go_wp2_with fail
        go_roundw
        case rel => exact ⟨⟨d + 1, by simp, by omega, by omega, fun k h1 h2 => by
          by_cases hk : k = d
          · subst hk; exact hm
          · exact HA.out k h1 (by omega)⟩, trivial⟩
        case measure => simp [intOf]; omega
    · have hB : B = decide (1 < n) := by rw [← HB.out]; exact primeB_yes n d hn (by rw [HQ.out]; omega) HA.out
      subst hB
      go_wp2_with fail
      go_ret
      exact ⟨by simp; omega, rfl⟩

def icells (l : List Nat) : Array Value := (l.map fun n : Nat => Value.int .i64 (n : Int)).toArray
/-- Block g holds just these numbers. -/
def Ir (T : TypeId) (w : World) (g : Nat) (l : List Nat) : Prop := w.heap[g]? = some (.cells (icells l) T (0, 0))
theorem Ir.lt {T : TypeId} {w : World} {g : Nat} {l : List Nat} (h : Ir T w g l) : g < w.heap.size := (Array.getElem?_eq_some_iff.1 h).1
theorem Ir.cell {T : TypeId} {w : World} {g : Nat} {l : List Nat} (h : Ir T w g l) (i : Nat) (hi : i < l.length) : w.cell? ⟨g, i, none⟩ = some (.int .i64 ((l.getD i 0 : Nat) : Int)) := by
  rw [cell_of_row w g i _ T _ h]
  simp [icells, hi]
theorem Ir.frozen {T : TypeId} {w : World} {g : Nat} {l : List Nat} (h : Ir T w g l) (i : Nat) : w.frozen? ⟨g, i, none⟩ = false := by
  have h' := h
  unfold Ir at h'
  simp [World.frozen?, h']
theorem Ir.kp {T : TypeId} {w w' : World} {g : Nat} {l : List Nat} (h : Ir T w g l) (k : Kp w w') : Ir T w' g l := (k.block g h.lt).trans h
theorem Ir.set {T : TypeId} {w : World} {g : Nat} {l m : List Nat} (h : Ir T w g l) (i x : Nat) (hm : l.set i x = m) : Ir T (w.setCell ⟨g, i, none⟩ (.int .i64 (x : Int))) g m := by
  subst hm
  have h' := h
  unfold Ir at h' ⊢
  obtain ⟨hlt, heq⟩ := Array.getElem?_eq_some_iff.1 h'
  simp [World.setCell, hlt, Array.getElem_modify, heq, icells, List.map_set]
theorem Ir.new (T : TypeId) (w : World) (cs : Array Value) (l : List Nat) (h : cs = icells l) : Ir T (w.alloc (.cells cs T)) w.heap.size l := by
  subst h
  exact heap_alloc_new w _

set_option maxRecDepth 100000 in
set_option maxHeartbeats 4000000 in
theorem mul_any (ga gb ca cb la lb : Nat) (a b : List Nat) (w : World) (ha : Ir 3 w ga a) (hb : Ir 3 w gb b) (la1 : a.length = la) (lb1 : b.length = lb) (hA : Low a) (hB : Low b) (h6 : la ≤ 8) (h7 : lb ≤ 8) :
    Calls Try.prog 33 #[.slice (some ⟨ga, 0, none⟩) la ca, .slice (some ⟨gb, 0, none⟩) lb cb] w fun e w' => (∃ g, e = .returned (.slice (some ⟨g, 0, none⟩) (la + lb) (la + lb)) ∧ Ir 3 w' g (mulP a b)) ∧ Kp w w' := by
  have hz : ((la + lb : Nat) : Int) = (la : Int) + (lb : Int) := by simp
  have HZ := Lib.hid hz
  have HA := Lib.hid hA
  have HBl := Lib.hid hB
  have HL := Lib.hid (And.intro la1 lb1)
  clear hz hA hB la1 lb1
  go_enter Try.func33, Try.ntmps33
  go_wp2_with (at_make; refine wpList_make_fresh (z := .int .i64 0) (b := 8) Try.underlying59 (by kernel_rfl) rfl (by decide) rfl _ _ rfl (la + lb) (by rw [HZ.out]; rfl) (by rw [HZ.out]; rfl) (by omega) ?_; intro w1 hw1; have hI0 : Ir 3 w1 w.heap.size (mulTo a b 0) := (by rw [hw1]; refine Ir.new _ w _ _ ?_; unfold mulTo; rw [HL.out.1, HL.out.2]; apply Array.ext'; simp [icells]); have hk0 : Kp w w1 := (by rw [hw1]; exact (Kp.refl w).alloc _); clear hw1)
  go_loopw [6] (fun x wr => ∃ i : Nat, i ≤ la ∧ x = .int .i64 i ∧ Ir 3 wr w.heap.size (mulTo a b i) ∧ Kp w wr) (fun x _ => la - (intOf x).toNat)
  case atStart => exact ⟨0, by omega, rfl, hI0, hk0⟩
  case round =>
    clear hI0 hk0
    obtain ⟨i, hi, rfl, hI, hk⟩ := hrel
    by_cases hlt : i < la
    · have hlow := mulTo_low a b HA.out HBl.out i
      have hll := mulTo_length a b i
      rw [HL.out.1, HL.out.2] at hll
      have hai := HA.out i
      have ca0 := fun W (k : Kp w W) => (ha.kp k).cell i (by rw [HL.out.1]; exact hlt)
      have hnext : mulTo a b (i + 1) = (mulRow (a.getD i 0) b i (mulTo a b i) lb).1.set (i + lb) (mulRow (a.getD i 0) b i (mulTo a b i) lb).2 := by rw [← HL.out.2]; rfl
      obtain ⟨Y, hY⟩ : ∃ Y, a.getD i 0 = Y := ⟨_, rfl⟩
      obtain ⟨O, hO⟩ : ∃ O, mulTo a b i = O := ⟨_, rfl⟩
      rw [hY] at hai hnext
      rw [hO] at hI hlow hll hnext
      have CA := Lib.hid ca0
      have HY := Lib.hid hY
      have HLW := Lib.hid hlow
      have HLL := Lib.hid hll
      have HNX := Lib.hid hnext
      clear ca0 hY hO hlow hll hnext
      go_wp2_with fail
      go_loopw [7, 8] (fun cv x wr => ∃ j : Nat, j ≤ lb ∧ x = .int .i64 j ∧ cv = .int .i64 (((mulRow Y b i O j).2 : Nat) : Int) ∧ Ir 3 wr w.heap.size (mulRow Y b i O j).1 ∧ Kp w wr) (fun _ x _ => lb - (intOf x).toNat)
      case atStart => exact ⟨0, by omega, rfl, rfl, hI, hk⟩
      case round =>
        clear hI hk
        obtain ⟨j, hj, rfl, rfl, hI, hk⟩ := hrel
        have hrl := mulRow_low Y b i O hai HBl.out HLW.out j
        have hrlen := mulRow_length Y b i O j
        rw [HLL.out] at hrlen
        by_cases hlt2 : j < lb
        · have co := hI.cell (i + j) (by rw [hrlen]; omega)
          have cf := hI.frozen (i + j)
          have c1 := CA.out _ hk
          rw [HY.out] at c1
          have c2 := (hb.kp hk).cell j (by rw [HL.out.2]; exact hlt2)
          have hx := hrl.1 (i + j)
          have hzj := HBl.out j
          have hcc := hrl.2
          have hst : mulRow Y b i O (j + 1) = mulAt Y b i j (mulRow Y b i O j) := rfl
          unfold mulAt at hst
          obtain ⟨R, hR⟩ : ∃ R, (mulRow Y b i O j).1 = R := ⟨_, rfl⟩
          obtain ⟨C, hC⟩ : ∃ C, (mulRow Y b i O j).2 = C := ⟨_, rfl⟩
          rw [hR, hC] at hst
          rw [hR] at hI co hx
          rw [hC] at hcc ⊢
          obtain ⟨X, hX⟩ : ∃ X, R.getD (i + j) 0 = X := ⟨_, rfl⟩
          obtain ⟨Z, hZ⟩ : ∃ Z, b.getD j 0 = Z := ⟨_, rfl⟩
          rw [hX, hZ] at hst
          rw [hX] at co hx
          rw [hZ] at c2 hzj
          have hsm := sum_small X Y Z C hx hai hzj hcc
          obtain ⟨S, hS⟩ : ∃ S, X + Y * Z + C = S := ⟨_, rfl⟩
          rw [hS] at hst hsm
          have hYZ : (Y : Int) * (Z : Int) = ((Y * Z : Nat) : Int) := by simp
          obtain ⟨M, hM⟩ : ∃ M, Y * Z = M := ⟨_, rfl⟩
          rw [hM] at hS hYZ
          have hMb : M ≤ 4294967295 := by omega
          have m1 : IntKind.i64.wrap (M : Int) = (M : Int) := by rw [IntKind.wrap_i64]; omega
          have m2 : IntKind.i64.wrap ((X : Int) + (M : Int)) = (X : Int) + (M : Int) := by rw [IntKind.wrap_i64]; omega
          have m3 : IntKind.i64.wrap ((X : Int) + (M : Int) + (C : Int)) = (S : Int) := by rw [IntKind.wrap_i64]; omega
          have i1 : IntKind.i64.wrap ((i : Int) + (j : Int)) = (i : Int) + (j : Int) := by rw [IntKind.wrap_i64]; omega
          have i2 : ((i : Int) + (j : Int)).toNat = i + j := by omega
          have i3 : (0 : Int) ≤ (i : Int) + (j : Int) := by omega
          have i4 : (i : Int) + (j : Int) < (la : Int) + (lb : Int) := by omega
          have i5 : (i : Int) < (la : Int) := by omega
          have i6 : (j : Int) < (lb : Int) := by omega
          have d1 : ((S % 65536 : Nat) : Int) = (S : Int) % 65536 := by simp
          have d2 : ((S / 65536 : Nat) : Int) = (S : Int) / 65536 := by simp
          have HST := Lib.hid hst
          have HD := Lib.hid (And.intro d1 d2)
          have hS0 : (0 : Int) ≤ (S : Int) := by omega
          have m4 : IntKind.i64.wrap ((S : Int) / 65536) = (S : Int) / 65536 := by rw [IntKind.wrap_i64]; omega
          have co2 := fun n : Nat => (hI.kp ((Kp.refl wr).drewN n)).cell (i + j) (by rw [← hR, hrlen]; omega)
          have cf2 := fun n : Nat => (hI.kp ((Kp.refl wr).drewN n)).frozen (i + j)
          have CO := Lib.hid co2
          have CF := Lib.hid cf2
          clear hst hR hC hX hZ hS hM hsm hMb hx hzj hcc hrl hrlen d1 d2 co2 cf2
          go_wp2_with fail
          go_quiet (fail)
          have co3 := CO.out nq
          have cf3 := CF.out nq
          clear co cf c1 c2
          go_wp2_with fail
          go_roundw
          case rel =>
            refine ⟨j + 1, by omega, by go_num, ?_, ?_, Below.setCell (hk.drewN nq) (by simp) _⟩
            · rw [HST.out]
              show _ = Value.int .i64 ((S / 65536 : Nat) : Int)
              rw [HD.out.2]
            · rw [HST.out, ← HD.out.1]
              exact (hI.kp ((Kp.refl wr).drewN nq)).set (i + j) (S % 65536) rfl
          case measure => simp [intOf]; omega
        · obtain rfl : j = lb := by omega
          have co := hI.cell (i + j) (by rw [hrlen]; omega)
          have cf := hI.frozen (i + j)
          have i1 : IntKind.i64.wrap ((i : Int) + (j : Int)) = (i : Int) + (j : Int) := by rw [IntKind.wrap_i64]; omega
          have i2 : ((i : Int) + (j : Int)).toNat = i + j := by omega
          have i3 : (0 : Int) ≤ (i : Int) + (j : Int) := by omega
          have i4 : (i : Int) + (j : Int) < (la : Int) + (j : Int) := by omega
          clear hrl hrlen
          go_wp2_with fail
          go_roundw
          case rel => exact ⟨i + 1, by omega, by go_num, by rw [HNX.out]; exact hI.set (i + j) _ rfl, Below.setCell hk (by simp) _⟩
          case measure => simp [intOf]; omega
    · obtain rfl : i = la := by omega
      go_wp2_with fail
      go_ret
      refine ⟨⟨_, rfl, ?_⟩, hk⟩
      unfold mulP
      rw [HL.out.1]
      exact hI
end Go.Proofs.Ytgialijhnghdgaa

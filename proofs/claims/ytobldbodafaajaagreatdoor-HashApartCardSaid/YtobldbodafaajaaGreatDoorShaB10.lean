/- pyxref02.step: the document's own. -/
import Derived.Test.YtobldbodafaajaaGreatDoorShaA10
import Derived.Deep.RegionHeld3
import Derived.Lib.AppendZerosOnto
import Derived.Test.YtobldbodafaajaaGreatDoorBase
import Derived.Laws.AppendOwn
import Derived.Deep.RegionLaw
import Derived.Test.YtobldbodafaajaaGreatDoorText
set_option linter.unusedVariables false
set_option linter.unusedSimpArgs false
namespace Go.Proofs.YtobldbodafaajaaGreatDoor
open Go.RowKit

attribute [local go_sem] u_wrap u_add u_xor u_and u_or u_shl u_shr u_not u_shr3 u_shr10

set_option maxRecDepth 100000 in
set_option maxHeartbeats 2000000 in
theorem step_any (s : S8) (v : Value) (all : List UInt8) (at' : Nat) (gk ck : Nat) (k : List UInt32) (w : World) (h : Rd w v all) (hl : at' + 64 ≤ all.length) (hk : Arr 79 w gk k) (hkl : k.length = 64) :
    Calls Tryz.prog 57 #[.agg (wcells s.list), v, .int .i64 at', .slice (some ⟨gk, 0, none⟩) 64 ck] w fun e w' => e = .returned (.agg (wcells (comp k s ((all.drop at').take 64)).list)) ∧ Kp w w' := by
  obtain ⟨l, hL⟩ : ∃ l, (all.drop at').take 64 = l := ⟨_, rfl⟩
  rw [hL]
  have HKL := Lib.hid hkl
  have HLL := Lib.hid hL
  clear hL hkl
  go_enter Tryz.func57, Tryz.ntmps57
  go_wp2_with ((at_make; (refine wpList_make_fresh (z := .int .u32 0) (b := 4) Tryz.underlying77 (by kernel_rfl) rfl (by decide) rfl _ _ rfl 64 rfl rfl (by decide) ?_); intro w1 hw1; have HW1 := Lib.hid hw1; clear hw1))
  have hR : Arr 80 ((w.alloc (.cells (wcells s.list) 80)).alloc (.cells (wcells (zeros 8)) 80)) (w.heap.size + 1) (zeros 8) := by
    have := Arr.new 80 (w.alloc (.cells (wcells s.list) 80)) (wcells (zeros 8)) (zeros 8) rfl
    rw [World.size_alloc] at this
    exact this
  have hB0 : Arr 80 w1 w.heap.size s.list := by rw [HW1.out]; exact ((Arr.new _ w _ s.list rfl).alloc _).alloc _
  have hR0 : Arr 80 w1 (w.heap.size + 1) (zeros 8) := by rw [HW1.out]; exact hR.alloc _
  have hW0 : Arr 79 w1 (w.heap.size + 1 + 1) (upto l 0) := by
    rw [HW1.out]
    have := Arr.new 79 ((w.alloc (.cells (wcells s.list) 80)).alloc (.cells (wcells (zeros 8)) 80)) (wcells (zeros 64)) (upto l 0) rfl
    rw [World.size_alloc, World.size_alloc, wcells_zeros] at this
    exact this
  have hK0 : Kp w w1 := by rw [HW1.out]; exact (((Kp.refl w).alloc _).alloc _).alloc _
  clear hR
  go_loopw [10] (fun i wr => ∃ t : Nat, t ≤ 16 ∧ i = .int .i64 t ∧ Arr 80 wr w.heap.size s.list ∧ Arr 80 wr (w.heap.size + 1) (zeros 8) ∧ Arr 79 wr (w.heap.size + 1 + 1) (upto l t) ∧ Kp w wr) (fun i _ => 16 - (intOf i).toNat)
  case atStart => exact ⟨0, by omega, rfl, hB0, hR0, hW0, hK0⟩
  case round =>
    clear hB0 hR0 hW0 hK0 HW1
    obtain ⟨t, ht, rfl, hB, hR, hW, hkp⟩ := hrel
    by_cases hlt : t < 16
    · have hg : ∀ j, j < 64 → l.getD j 0 = all.getD (at' + j) 0 := fun j hj => by
        rw [← HLL.out, List.getD_eq_getElem?_getD, List.getElem?_take_of_lt hj, List.getElem?_drop, List.getD_eq_getElem?_getD]
      have hn : nextWord l (sched l t) t = wordOf (all.getD (at' + 4 * t) 0) (all.getD (at' + 4 * t + 1) 0) (all.getD (at' + 4 * t + 2) 0) (all.getD (at' + 4 * t + 3) 0) := by
        unfold nextWord
        rw [if_pos hlt, hg _ (by omega), hg _ (by omega), hg _ (by omega), hg _ (by omega)]
        simp only [Nat.add_assoc]
      have hset := (upto_set l t (by omega))
      rw [hn] at hset
      have HS := Lib.hid hset
      have hlen := upto_length l t (by omega)
      have hlenm : all.length ≤ maxLen := by
        obtain ⟨a, c, _, h1, h2⟩ := h.shape
        omega
      unfold maxLen at hlenm
      clear hg hn hset
      go_wp2_with fail
      refine (word_int _ v all (at' + 4 * t) _ (h.kp hkp) (by omega) (by simp)).mono ?_
      rintro e w' ⟨rfl, n, rfl⟩
      have ca := (hW.drewN n).cell t (by omega)
      have cf := (hW.drewN n).frozen t (by omega)
      have q : (t : Int) < 64 := by omega
      clear hlen
      go_wp2_with fail
      go_roundw
      case rel => exact ⟨t + 1, by omega, by go_num, (hB.drewN n).other _ _ (by simp; omega), (hR.drewN n).other _ _ (by simp), (hW.drewN n).setTo t _ HS.out, Below.setCell (hkp.drewN n) (by simp; omega) _⟩
      case measure => simp [intOf]; omega
    · obtain rfl : t = 16 := by omega
      clear ht hlt
      go_wp2_with fail
      go_loopw [11] (fun i wr => ∃ t : Nat, 16 ≤ t ∧ t ≤ 64 ∧ i = .int .i64 t ∧ Arr 80 wr w.heap.size s.list ∧ Arr 80 wr (w.heap.size + 1) (zeros 8) ∧ Arr 79 wr (w.heap.size + 1 + 1) (upto l t) ∧ Kp w wr) (fun i _ => 64 - (intOf i).toNat)
      case atStart => exact ⟨16, by omega, by omega, rfl, hB, hR, hW, hkp⟩
      case round =>
        clear hB hR hW hkp
        obtain ⟨t, h16, ht, rfl, hB, hR, hW, hkp⟩ := hrel
        by_cases hlt : t < 64
        · have hlen := upto_length l t (by omega)
          have hn : nextWord l (sched l t) t = wadd (wadd (wadd (small 17 19 10 ((upto l t).getD (t - 2) 0)) ((upto l t).getD (t - 7) 0)) (small 7 18 3 ((upto l t).getD (t - 15) 0))) ((upto l t).getD (t - 16) 0) := by
            unfold nextWord
            rw [if_neg (by omega), upto_get l t _ (by omega), upto_get l t _ (by omega), upto_get l t _ (by omega), upto_get l t _ (by omega)]
          have hset := (upto_set l t (by omega))
          rw [hn] at hset
          have c2 := hW.cell (t - 2) (by omega)
          have c7 := hW.cell (t - 7) (by omega)
          have c15 := hW.cell (t - 15) (by omega)
          have c16 := hW.cell (t - 16) (by omega)
          have ca := hW.cell t (by omega)
          have cf := hW.frozen t (by omega)
          generalize (upto l t).getD (t - 2) 0 = x2 at *
          generalize (upto l t).getD (t - 7) 0 = x7 at *
          generalize (upto l t).getD (t - 15) 0 = x15 at *
          generalize (upto l t).getD (t - 16) 0 = x16 at *
          have i2 : IntKind.i64.wrap ((t : Int) - 2) = (t : Int) - 2 := IntWalk.i64_in _ (by omega)
          have i7 : IntKind.i64.wrap ((t : Int) - 7) = (t : Int) - 7 := IntWalk.i64_in _ (by omega)
          have i15 : IntKind.i64.wrap ((t : Int) - 15) = (t : Int) - 15 := IntWalk.i64_in _ (by omega)
          have i16 : IntKind.i64.wrap ((t : Int) - 16) = (t : Int) - 16 := IntWalk.i64_in _ (by omega)
          have n2 : ((t : Int) - 2).toNat = t - 2 := by omega
          have n7 : ((t : Int) - 7).toNat = t - 7 := by omega
          have n15 : ((t : Int) - 15).toNat = t - 15 := by omega
          have n16 : ((t : Int) - 16).toNat = t - 16 := by omega
          have p2 : (2 : Int) ≤ (t : Int) := by omega
          have p7 : (7 : Int) ≤ (t : Int) := by omega
          have p15 : (15 : Int) ≤ (t : Int) := by omega
          have p16 : (16 : Int) ≤ (t : Int) := by omega
          have q2 : (t : Int) - 2 < 64 := by omega
          have q7 : (t : Int) - 7 < 64 := by omega
          have q15 : (t : Int) - 15 < 64 := by omega
          have q16 : (t : Int) - 16 < 64 := by omega
          have q : (t : Int) < 64 := by omega
          have HS := Lib.hid hset
          clear hset hn hlen
          go_wp2_with ((go_at_call 88; refine (turn_int _ _ _ (by decide) (by decide)).mono ?_; rintro e w' ⟨rfl, rfl⟩))
          go_still_tail 18, (by kernel_rfl)
          go_wp2_with fail
          go_roundw
          case rel =>
            repeat apply Exists.intro
            refine ⟨?_, rfl⟩
            exact ⟨t + 1, by omega, by omega, by go_num, (hB.other _ _ (by simp; omega)).drew, (hR.other _ _ (by simp)).drew, (hW.setTo t _ HS.out).drew, (Below.setCell hkp (by simp; omega) _).drew⟩
          case measure => simp [intOf]; omega
        · obtain rfl : t = 64 := by omega
          rw [upto_all] at hW
          have c0 : wr.cell? ⟨w.heap.size, 0, none⟩ = some (.int .u32 (u s.a)) := hB.cell 0 (Nat.lt_of_sub_eq_succ rfl)
          have c1 : wr.cell? ⟨w.heap.size, 1, none⟩ = some (.int .u32 (u s.b)) := hB.cell 1 (Nat.lt_of_sub_eq_succ rfl)
          have c2 : wr.cell? ⟨w.heap.size, 2, none⟩ = some (.int .u32 (u s.c)) := hB.cell 2 (Nat.lt_of_sub_eq_succ rfl)
          have c3 : wr.cell? ⟨w.heap.size, 3, none⟩ = some (.int .u32 (u s.d)) := hB.cell 3 (Nat.lt_of_sub_eq_succ rfl)
          have c4 : wr.cell? ⟨w.heap.size, 4, none⟩ = some (.int .u32 (u s.e)) := hB.cell 4 (Nat.lt_of_sub_eq_succ rfl)
          have c5 : wr.cell? ⟨w.heap.size, 5, none⟩ = some (.int .u32 (u s.f)) := hB.cell 5 (Nat.lt_of_sub_eq_succ rfl)
          have c6 : wr.cell? ⟨w.heap.size, 6, none⟩ = some (.int .u32 (u s.g)) := hB.cell 6 (Nat.lt_of_sub_eq_succ rfl)
          have c7 : wr.cell? ⟨w.heap.size, 7, none⟩ = some (.int .u32 (u s.h)) := hB.cell 7 (Nat.lt_of_sub_eq_succ rfl)
          have hk3 := hk.kp hkp
          clear h hl hk
          go_wp2_with fail
          have C := Lib.hid (And.intro c0 (And.intro c1 (And.intro c2 (And.intro c3 (And.intro c4 (And.intro c5 (And.intro c6 c7)))))))
          clear c0 c1 c2 c3 c4 c5 c6 c7
          have HKL2 := HKL.out
          have HWL := sched_length l 64
          go_loopw [16, 17, 18, 19, 20, 21, 22, 23, 24] (fun sa sb sc sd se sf sg sh i wq => ∃ t : Nat, t ≤ 64 ∧ i = .int .i64 t ∧ (∃ r, r = rnds k (sched l 64) s t ∧ sa = .int .u32 (u r.a) ∧ sb = .int .u32 (u r.b) ∧ sc = .int .u32 (u r.c) ∧ sd = .int .u32 (u r.d) ∧ se = .int .u32 (u r.e) ∧ sf = .int .u32 (u r.f) ∧ sg = .int .u32 (u r.g) ∧ sh = .int .u32 (u r.h)) ∧ ∃ n, wq = wr.drewN n) (fun _ _ _ _ _ _ _ _ i _ => 64 - (intOf i).toNat)
          case atStart => exact ⟨0, by omega, rfl, ⟨s, rfl, rfl, rfl, rfl, rfl, rfl, rfl, rfl, rfl⟩, 0, rfl⟩
          case round =>
            obtain ⟨t, ht, rfl, ⟨r, hr, rfl, rfl, rfl, rfl, rfl, rfl, rfl, rfl⟩, n, rfl⟩ := hrel
            by_cases hlt : t < 64
            · have ck := (hk3.drewN n).cell t (by omega)
              have cw := (hW.drewN n).cell t (by omega)
              have HR := Lib.hid hr
              have q : (t : Int) < 64 := by omega
              obtain ⟨wn, hwn⟩ : ∃ wn, wr.drewN n = wn := ⟨_, rfl⟩
              rw [hwn] at ck cw ⊢
              have HWN := Lib.hid hwn
              clear hr HKL2 HWL hwn
              have hsg : IntKind.u32.signed = false := rfl
              go_wp2_with fail
              go_quiet ((go_at_call 88; exact quiet_left (turn_int _ _ _ (by decide) (by decide))))
              go_wp2_with ((go_at_call 88; refine (turn_int _ _ _ (by decide) (by decide)).mono ?_; rintro e w' ⟨rfl, rfl⟩))
              go_roundw
              case rel =>
                repeat apply Exists.intro
                refine ⟨?_, rfl⟩
                exact ⟨t + 1, by omega, by go_num, ⟨rnd r (k.getD t 0) ((sched l 64).getD t 0), by rw [HR.out]; rfl, rfl, rfl, rfl, rfl, rfl, rfl, rfl, rfl⟩, n + nq, by rw [← HWN.out, World.drewN_drewN]⟩
              case measure => simp [intOf]; omega
            · obtain rfl : t = 64 := by omega
              have HR := Lib.hid hr
              clear hr HKL2 HWL
              obtain ⟨c0, c1, c2, c3, c4, c5, c6, c7⟩ := C.out
              go_wp2_with ((refine wpList_store_arr' (by kernel_rfl) rfl rfl (.tmp 8) (.tmp 206) rfl (w.heap.size + 1) (zeros 8) (s.add r).list rfl rfl (hR.drewN n) rfl rfl ?_; intro w5 hR5 hbut))
              refine bodyPost_ret (results_arr Tryz.underlying80 (by kernel_rfl) rfl _ _ (w.heap.size + 1) (s.add r).list rfl hR5 rfl) rfl ?_
              exact ⟨by rw [HR.out]; rfl, hbut.below (hkp.drewN n) (by omega)⟩
end Go.Proofs.YtobldbodafaajaaGreatDoor

/- sha.Start, sha.Key, sha.Block; the document's own. -/
set_option linter.unusedVariables false
set_option linter.unusedSimpArgs false
namespace Go.Proofs.YtobldbodafaajaaGreatDoor
open Go.RowKit

set_option maxHeartbeats 1000000 in
theorem start_any (w : World) : Calls Tryz.prog 105 #[] w fun e w' => e = .returned (.agg (wcells startS.list)) ∧ Kp w w' := by
  go_enter Tryz.func105, Tryz.ntmps105
  have hA : Arr 80 (w.alloc (.cells (wcells (zeros 8)) 80)) w.heap.size (zeros 8) := Arr.new _ w _ _ rfl
  go_wp2_with ((refine wpList_store_arr' (by kernel_rfl) rfl rfl (.tmp 0) (.tmp 1) rfl w.heap.size (zeros 8) startS.list rfl rfl hA rfl rfl ?_; intro w5 hR5 hbut))
  refine bodyPost_ret (results_arr Tryz.underlying80 (by kernel_rfl) rfl _ _ w.heap.size startS.list rfl hR5 rfl) rfl ?_
  exact ⟨rfl, hbut.below ((Kp.refl w).alloc _) (Nat.le_refl _)⟩

set_option maxHeartbeats 1000000 in
theorem refStart_any (w : World) : Calls Tryz.prog 56 #[] w fun e w' => e = .returned (.agg (wcells startS.list)) ∧ Kp w w' := by
  go_enter Tryz.func56, Tryz.ntmps56
  have hA : Arr 80 (w.alloc (.cells (wcells (zeros 8)) 80)) w.heap.size (zeros 8) := Arr.new _ w _ _ rfl
  go_wp2_with ((refine wpList_store_arr' (by kernel_rfl) rfl rfl (.tmp 0) (.tmp 1) rfl w.heap.size (zeros 8) startS.list rfl rfl hA rfl rfl ?_; intro w5 hR5 hbut))
  refine bodyPost_ret (results_arr Tryz.underlying80 (by kernel_rfl) rfl _ _ w.heap.size startS.list rfl hR5 rfl) rfl ?_
  exact ⟨rfl, hbut.below ((Kp.refl w).alloc _) (Nat.le_refl _)⟩

set_option maxRecDepth 100000 in
set_option maxHeartbeats 1000000 in
/-- A row of 64 words, new. -/
theorem refKeys_any (w : World) : Calls Tryz.prog 55 #[] w fun e w' => (∃ g, e = .returned (.slice (some ⟨g, 0, none⟩) 64 64) ∧ Arr 79 w' g keyL ∧ w.heap.size ≤ g) ∧ Kp w w' := by
  go_enter Tryz.func55, Tryz.ntmps55
  go_wp2
  go_ret
  exact ⟨⟨w.heap.size, rfl, Arr.new _ w _ _ rfl, Nat.le_refl _⟩, (Kp.refl w).alloc _⟩

def keyOf (i : Int) : UInt32 := if 0 ≤ i ∧ i < 64 then keyL.getD i.toNat 0 else 0

end Go.Proofs.YtobldbodafaajaaGreatDoor

/- sha.Block; the document's own; the document's Key. -/
set_option linter.unusedVariables false
set_option linter.unusedSimpArgs false
namespace Go.Proofs.YtobldbodafaajaaGreatDoor
open Go.RowKit

section
variable {P : Program}
/-- An array in memory, and a number beside it. -/
theorem results_arr_int {T ty e : TypeId} {n : Nat} (hu : P.underlying ty = some (.array n e)) (hi : (P.info? ty).map (·.size) = some n) {fn : Func} {p q : Tmp} (hr : fn.results = #[.cell p ty, .tmp q]) (tmps : Array Value) (w : World) (g : Nat) (l : List UInt32) (v : Value)
    (hp : tmps.getD p undef = .pointer (some ⟨g, 0, none⟩)) (hq : tmps.getD q undef = v) (h : Arr T w g l) (hl : l.length = n) : (results fn tmps).run P w = .ok (.tuple #[.agg (wcells l), v]) w := by
  have hp' : tmps[p]?.getD undef = .pointer (some ⟨g, 0, none⟩) := by simpa using hp
  have hq' : tmps[q]?.getD undef = v := by simpa using hq
  simp [results, hr, hp', hq', asAddr, run_loadVar_row w g T ty (wcells l) (0, 0) _ h hu rfl (by rw [hi, wcells_size, hl])]
end

/-- Eight words in memory, cell by cell. -/
theorem Arr.cells8 {T : TypeId} {w : World} {g : Nat} {s : S8} (h : Arr T w g s.list) :
    w.cell? ⟨g, 0, none⟩ = some (.int .u32 (u s.a)) ∧ w.cell? ⟨g, 1, none⟩ = some (.int .u32 (u s.b)) ∧ w.cell? ⟨g, 2, none⟩ = some (.int .u32 (u s.c)) ∧ w.cell? ⟨g, 3, none⟩ = some (.int .u32 (u s.d)) ∧
    w.cell? ⟨g, 4, none⟩ = some (.int .u32 (u s.e)) ∧ w.cell? ⟨g, 5, none⟩ = some (.int .u32 (u s.f)) ∧ w.cell? ⟨g, 6, none⟩ = some (.int .u32 (u s.g)) ∧ w.cell? ⟨g, 7, none⟩ = some (.int .u32 (u s.h)) :=
  ⟨h.cell 0 (Nat.lt_of_sub_eq_succ rfl), h.cell 1 (Nat.lt_of_sub_eq_succ rfl), h.cell 2 (Nat.lt_of_sub_eq_succ rfl), h.cell 3 (Nat.lt_of_sub_eq_succ rfl), h.cell 4 (Nat.lt_of_sub_eq_succ rfl), h.cell 5 (Nat.lt_of_sub_eq_succ rfl), h.cell 6 (Nat.lt_of_sub_eq_succ rfl), h.cell 7 (Nat.lt_of_sub_eq_succ rfl)⟩
theorem Arr.frozen8 {T : TypeId} {w : World} {g : Nat} {s : S8} (h : Arr T w g s.list) :
    w.frozen? ⟨g, 0, none⟩ = false ∧ w.frozen? ⟨g, 1, none⟩ = false ∧ w.frozen? ⟨g, 2, none⟩ = false ∧ w.frozen? ⟨g, 3, none⟩ = false ∧ w.frozen? ⟨g, 4, none⟩ = false ∧ w.frozen? ⟨g, 5, none⟩ = false ∧ w.frozen? ⟨g, 6, none⟩ = false ∧ w.frozen? ⟨g, 7, none⟩ = false :=
  ⟨h.frozen 0 (Nat.lt_of_sub_eq_succ rfl), h.frozen 1 (Nat.lt_of_sub_eq_succ rfl), h.frozen 2 (Nat.lt_of_sub_eq_succ rfl), h.frozen 3 (Nat.lt_of_sub_eq_succ rfl), h.frozen 4 (Nat.lt_of_sub_eq_succ rfl), h.frozen 5 (Nat.lt_of_sub_eq_succ rfl), h.frozen 6 (Nat.lt_of_sub_eq_succ rfl), h.frozen 7 (Nat.lt_of_sub_eq_succ rfl)⟩
/-- Eight words laid, one by one. -/
theorem Arr.set8 {T : TypeId} {w : World} {g : Nat} {s : S8} (h : Arr T w g s.list) (r : S8) :
    Arr T ((((((((w.setCell ⟨g, 0, none⟩ (.int .u32 (u r.a))).setCell ⟨g, 1, none⟩ (.int .u32 (u r.b))).setCell ⟨g, 2, none⟩ (.int .u32 (u r.c))).setCell ⟨g, 3, none⟩ (.int .u32 (u r.d))).setCell ⟨g, 4, none⟩ (.int .u32 (u r.e))).setCell ⟨g, 5, none⟩ (.int .u32 (u r.f))).setCell ⟨g, 6, none⟩ (.int .u32 (u r.g))).setCell ⟨g, 7, none⟩ (.int .u32 (u r.h))) g r.list :=
  (((((((h.set 0 r.a _ rfl).set 1 r.b _ rfl).set 2 r.c _ rfl).set 3 r.d _ rfl).set 4 r.e _ rfl).set 5 r.f _ rfl).set 6 r.g _ rfl).set 7 r.h _ rfl
theorem below_set8 {B : Nat} {a w : World} (h : Below B a w) {g : Nat} (hg : B ≤ g) (v0 v1 v2 v3 v4 v5 v6 v7 : Value) :
    Below B a ((((((((w.setCell ⟨g, 0, none⟩ v0).setCell ⟨g, 1, none⟩ v1).setCell ⟨g, 2, none⟩ v2).setCell ⟨g, 3, none⟩ v3).setCell ⟨g, 4, none⟩ v4).setCell ⟨g, 5, none⟩ v5).setCell ⟨g, 6, none⟩ v6).setCell ⟨g, 7, none⟩ v7) :=
  (((((((h.setCell (p := ⟨g, 0, none⟩) hg _).setCell (p := ⟨g, 1, none⟩) hg _).setCell (p := ⟨g, 2, none⟩) hg _).setCell (p := ⟨g, 3, none⟩) hg _).setCell (p := ⟨g, 4, none⟩) hg _).setCell (p := ⟨g, 5, none⟩) hg _).setCell (p := ⟨g, 6, none⟩) hg _).setCell (p := ⟨g, 7, none⟩) hg _
/-- Eight words, written out. -/
theorem agg8 (r : S8) : Value.agg (wcells r.list) = .agg #[.int .u32 (u r.a), .int .u32 (u r.b), .int .u32 (u r.c), .int .u32 (u r.d), .int .u32 (u r.e), .int .u32 (u r.f), .int .u32 (u r.g), .int .u32 (u r.h)] := rfl
def zeroS : S8 := ⟨0, 0, 0, 0, 0, 0, 0, 0⟩

def blockS (s : S8) (l : List UInt8) : S8 := if l.length = 64 then comp keyL s l else s
def blockE (l : List UInt8) : Int := if l.length = 64 then 0 else 1

end Go.Proofs.YtobldbodafaajaaGreatDoor

/- sha.wordBytes. -/
set_option linter.unusedVariables false
set_option linter.unusedSimpArgs false
namespace Go.Proofs.YtobldbodafaajaaGreatDoor
open Go.RowKit

def bytesTo (s : S8) (i : Nat) : List UInt8 := (s.list.take i).flatMap bytes4
theorem bytesTo_succ (s : S8) (i : Nat) (h : i < 8) : bytesTo s (i + 1) = bytesTo s i ++ bytes4 (s.list.getD i 0) := by
  unfold bytesTo
  have h' : i < s.list.length := h
  rw [List.take_succ_eq_append_getElem h', List.flatMap_append, List.getD_eq_getElem?_getD, List.getElem?_eq_getElem h']
  simp
theorem bytesTo_length (s : S8) : ∀ i, i ≤ 8 → (bytesTo s i).length = 4 * i
  | 0, _ => rfl
  | i + 1, h => by rw [bytesTo_succ s i h, List.length_append, bytesTo_length s i (by omega)]; simp [bytes4]; omega
theorem bytesTo_all (s : S8) : bytesTo s 8 = s.bytes := rfl
theorem bytes_length (s : S8) : s.bytes.length = 32 := bytesTo_length s 8 (by omega)
/-- The four bytes of a word, as the walk meets them. -/
theorem bytes4_parts (x : UInt32) : ∃ b0 b1 b2 b3 : UInt8, bytes4 x = [b0, b1, b2, b3] ∧ IntKind.u8.wrap (u x / 16777216) = (b0.toNat : Int) ∧ IntKind.u8.wrap (u x / 65536) = (b1.toNat : Int) ∧ IntKind.u8.wrap (u x / 256) = (b2.toNat : Int) ∧ IntKind.u8.wrap (u x) = (b3.toNat : Int) := by
  refine ⟨_, _, _, _, rfl, ?_, ?_, ?_, ?_⟩ <;> rw [IntKind.wrap_u8] <;> unfold u <;> simp

set_option maxRecDepth 100000 in
set_option maxHeartbeats 1000000 in
theorem wordBytes_any (s : S8) (w : World) :
    Calls Tryz.prog 109 #[.agg (wcells s.list)] w fun e w' => (∃ v, e = .returned v ∧ Ow 5 w' w.heap.size v s.bytes) ∧ Kp w w' := by
  have U := u8
  obtain ⟨i0, hi, hz0, hz1, hz2⟩ := info_parts Tryz.info5
  have HBB : i0.bytes = 1 := hz2
  have HB3 := Lib.hid HBB
  clear HBB hz2
  have hB0 : Arr 80 (w.alloc (.cells (wcells s.list) 80)) w.heap.size s.list := Arr.new _ w _ s.list rfl
  go_enter Tryz.func109, Tryz.ntmps109
  go_wp2_with (first
    | (at_make; refine wpList_make_own _ rfl _ _ 25 rfl w.heap.size 5 i0 (.int .u8 0) 1 Tryz.underlying25 hi hz0 hz1 _ _ _ 32 rfl rfl rfl ?b1 ?b2 ?b3 ?_; rotate_right; intro w1 hown hgr; have hkw : Kp (w.alloc (.cells (wcells s.list) 80)) w1 := Below.grown (Below.refl _ _) hgr (Nat.le_refl _) (fun k e => by cases e); have hB1 := hB0.kp hkw; clear hgr)
    | (refine wpList_load_arr Tryz.underlying80 (by kernel_rfl) rfl (.tmp 1) rfl w.heap.size s.list rfl hB1 rfl ?_))
  case b1 => rw [HB3.out]; omega
  case b2 => unfold maxLen; omega
  case b3 => simp
  have ho1 : Ow 5 w1 w.heap.size (.slice (some ⟨w.heap.size + 1, 0, none⟩) 0 32) [] := by
    rw [World.size_alloc] at hown
    exact hown
  have hk1 : Kp w w1 := ((Kp.refl w).alloc _).trans hkw
  clear hown hkw hB0 hB1 hz0 hz1 hi HB3
  go_loopw [3, 8] (fun v i wr => ∃ k : Nat, k ≤ 8 ∧ i = .int .i64 k ∧ Ow 5 wr w.heap.size v (bytesTo s k) ∧ Kp w wr) (fun _ i _ => 8 - (intOf i).toNat)
  case atStart => exact ⟨0, by omega, rfl, ho1, hk1⟩
  case round =>
    clear ho1 hk1
    obtain ⟨k, hk, rfl, hown, hkp⟩ := hrel
    by_cases hlt : k < 8
    · have hidx : ∀ W, (Instr.index 80 (.agg (wcells s.list)) (.int .i64 k)).run Tryz.prog W = .ok (.int .u32 (u (s.list.getD k 0))) W := fun W => by
        obtain ⟨ie, hie, hsz⟩ := u32_info
        exact run_index_arr W 80 79 8 ie _ Tryz.underlying80 hie hsz Tryz.underlying79 rfl _ rfl k hlt _ (wcells_get s.list k hlt)
      have hs := bytesTo_succ s k hlt
      have hlen := bytesTo_length s k (by omega)
      generalize s.list.getD k 0 = x at *
      obtain ⟨b0, b1, b2, b3, h4, v0, v1, v2, v3⟩ := bytes4_parts x
      rw [h4] at hs
      generalize bytesTo s k = L at *
      have HS := Lib.hid hs
      have HL := Lib.hid hlen
      clear hs hlen h4
      generalize wcells s.list = cs at *
      go_wp2_with (at_builtin; refine wpList_append_ow U rfl _ _ rfl w.heap.size _ _ rfl (hown.kp ((Kp.refl _).alloc _)) _ [b0, b1, b2, b3] rfl (Ow.lit _ 5 0 4 _ _ (Nat.zero_le _) rfl (by decide) rfl).rd ?c1 ?c2 ?_; rotate_right; intro v' w2 ho2 hg _)
      case c1 => rw [HL.out]; simp; omega
      case c2 => have := hkp.size; simp; omega
      go_roundw
      case rel => exact ⟨k + 1, by omega, by go_num, by rw [HS.out]; exact ho2, Kp.grown (hkp.alloc _) hg hown.own_ge⟩
      case measure => simp [intOf]; omega
    · obtain rfl : k = 8 := by omega
      go_wp2_with fail
      go_ret
      exact ⟨⟨_, rfl, hown⟩, hkp⟩
end Go.Proofs.YtobldbodafaajaaGreatDoor

/- slices.Grow (of nothing), slices.Concat (of two rows of bytes). -/
set_option linter.unusedVariables false
set_option linter.unusedSimpArgs false
namespace Go.Proofs.YtobldbodafaajaaGreatDoor
open Go.RowKit

theorem wpList_append_run {P : Program} {ops : Array Oper} {rest : List Oper} {o : Oper} {a : Act} {w w' : World} {Q : Exit → Act → World → Prop} (hgd : o.guard = none) (s x : Operand) (t tn : TypeId)
    (ho : o.op = .call { callee := .builtin .append, args := #[s, x], argTypes := #[t, tn] }) (vs vx v : Value) (hs : a.eval s = vs) (hx : a.eval x = vx)
    (hrun : (Builtin.append_ #[t, tn] o.type #[vs, vx]).run P w = .ok v w') (h : wpList P ops Q rest (a.put o.dst v) w') : wpList P ops Q (o :: rest) a w := by
  refine wpList_plain hgd fun K hK => ?_
  unfold Oper.wp
  simp [execOp, ho, resolve, invoke, builtin, hs, hx, hrun, Result.andThen]
  exact hK _ _ h

set_option maxHeartbeats 1000000 in
theorem grow_any (n : Nat) (w : World) (h0 : 0 < n) (h1 : n ≤ 1000000) :
    Calls Tryz.prog 73 #[.slice none 0 0, .int .i64 n] w fun e w' => (∃ v, e = .returned v ∧ Ow 5 w' w.heap.size v []) ∧ Kp w w' := by
  obtain ⟨i0, hi, hz0, hz1, hz2⟩ := info_parts Tryz.info5
  have hold : (Builtin.firstCells i0.size 0 (.slice none 0 0)).run Tryz.prog w.drew = .ok ([] : List Value).toArray w.drew := rfl
  have hrz : ∀ ty, (Builtin.append_ #[25, 3] ty #[.slice none 0 0, .int .i64 (n : Int)]).run Tryz.prog w =
      .ok (.slice (some ⟨w.heap.size, 0, none⟩) n (grownCap w n 0 5)) (w.drew.alloc (.cells (#[] ++ Builtin.zeroCells (Value.int .u8 0).cells n ++ Builtin.zeroCells (Value.int .u8 0).cells (grownCap w n 0 5 - n)) 5)) := fun ty => by
    have h := Lib.run_append_grow_zeros w 25 3 ty 5 i0 (.int .u8 0) .i64 .i64 Tryz.underlying25 Tryz.underlying3 hi hz0 none 0 0 [] hold n h0 (by omega) (by omega) (by omega) (by rw [hz2]; omega)
      (by rw [hz2]; have := growslice_fits (need := 0 + n) (old := 0) (bytes := 1) (by omega) (by omega); exact this)
    simpa using h
  have hge : n ≤ grownCap w n 0 5 := grownCap_ge w _ _ _
  have hle := grownCap_le_maxLen w n 0 5 (by unfold maxLen; omega)
  generalize grownCap w n 0 5 = G at *
  unfold maxLen at hle
  have hn0 : ¬ (n : Int) < 0 := by omega
  have hn1 : 0 < (n : Int) := by omega
  clear hold
  go_enter Tryz.func73, Tryz.ntmps73
  have hcs : (#[] ++ Builtin.zeroCells (Value.int .u8 0).cells n ++ Builtin.zeroCells (Value.int .u8 0).cells (G - n) : Array Value).size = G := by
    simp [size_zeroCells, Value.cells]
    omega
  generalize (#[] ++ Builtin.zeroCells (Value.int .u8 0).cells n ++ Builtin.zeroCells (Value.int .u8 0).cells (G - n) : Array Value) = cs at *
  have HR := Lib.hid hrz
  have HC := Lib.hid hcs
  clear hrz hcs hz0 hz1 hz2 hi
  go_wp2_with (at_builtin; refine wpList_append_run rfl (.tmp 20) (.tmp 21) _ _ rfl _ _ _ rfl rfl (HR.out _) ?_)
  go_ret
  refine ⟨⟨_, rfl, ?_⟩, (Kp.refl w).drew.alloc _⟩
  refine ⟨rfl, .inr ⟨w.heap.size, G, cs, rfl, Nat.le_refl _, ?_, Nat.zero_le _, by unfold maxLen; exact hle, by rw [HC.out]; simp, by simp [Lib.byteCells]⟩⟩
  exact heap_alloc_new w.drew _

set_option maxHeartbeats 2000000 in
theorem concat_any (g c : Nat) (v1 v2 : Value) (l1 l2 : List UInt8) (w : World) (hc1 : w.cell? ⟨g, 0, none⟩ = some v1) (hc2 : w.cell? ⟨g, 1, none⟩ = some v2) (h1 : Rd w v1 l1) (h2 : Rd w v2 l2) (hp : 0 < l1.length + l2.length) (hb : l1.length + l2.length ≤ 1000000) :
    Calls Tryz.prog 38 #[.slice (some ⟨g, 0, none⟩) 2 c] w fun e w' => (∃ v, e = .returned v ∧ Ow 5 w' w.heap.size v (l1 ++ l2)) ∧ Kp w w' := by
  have U := u8
  obtain ⟨a1, e1, rfl, p1, q1⟩ := h1.shape
  obtain ⟨a2, e2, rfl, p2, q2⟩ := h2.shape
  unfold maxLen at q1 q2
  go_enter Tryz.func38, Tryz.ntmps38
  go_wp2_with fail
  go_loopw [3, 11] (fun s i wr => ((s = .int .i64 0 ∧ i = .int .i64 0) ∨ (s = .int .i64 (l1.length : Int) ∧ i = .int .i64 1) ∨ (s = .int .i64 ((l1.length : Int) + (l2.length : Int)) ∧ i = .int .i64 2)) ∧ wr = w) (fun _ i _ => 2 - (intOf i).toNat)
  case atStart => exact ⟨.inl ⟨rfl, rfl⟩, rfl⟩
  case round =>
    obtain ⟨hor, rfl⟩ := hrel
    rcases hor with ⟨rfl, rfl⟩ | ⟨rfl, rfl⟩ | ⟨rfl, rfl⟩
    · go_wp2_with fail
      go_roundw
      case rel => exact ⟨.inr (.inl ⟨by simp, rfl⟩), trivial⟩
      case measure => simp [intOf]
    · go_wp2_with fail
      go_roundw
      case rel => exact ⟨.inr (.inr ⟨by simp, rfl⟩), trivial⟩
      case measure => simp [intOf]
    · rename World => w0
      have hsum : ((l1.length + l2.length : Nat) : Int) = (l1.length : Int) + (l2.length : Int) := by simp
      have HG := Lib.hid (grow_any (l1.length + l2.length) w0 hp hb)
      rw [hsum] at HG
      clear hsum
      go_wp2_with fail
      refine HG.out.mono ?_
      rintro e w1 ⟨⟨v, rfl, ho⟩, hk1⟩
      go_wp2_with fail
      go_loopw [6, 27] (fun u i wq => ((Ow 5 wq w0.heap.size u [] ∧ i = .int .i64 0) ∨ (Ow 5 wq w0.heap.size u l1 ∧ i = .int .i64 1) ∨ (Ow 5 wq w0.heap.size u (l1 ++ l2) ∧ i = .int .i64 2)) ∧ Kp w0 wq) (fun _ i _ => 2 - (intOf i).toNat)
      case atStart => exact ⟨.inl ⟨ho, rfl⟩, hk1⟩
      case round =>
        clear ho hk1
        obtain ⟨hor, hk⟩ := hrel
        have hc1' := hk.cell hc1
        have hc2' := hk.cell hc2
        have hr1 := h1.kp hk
        have hr2 := h2.kp hk
        have hsz := hk.size
        rcases hor with ⟨ho, rfl⟩ | ⟨ho, rfl⟩ | ⟨ho, rfl⟩
        · go_wp2_with (at_builtin; refine wpList_append_ow U rfl _ _ rfl w0.heap.size _ _ rfl ho _ l1 rfl hr1 ?c1 hsz ?_; rotate_right; intro v' w2 ho2 hg2 _)
          case c1 => simp; omega
          rw [List.nil_append] at ho2
          go_roundw
          case rel => exact ⟨.inr (.inl ⟨ho2, rfl⟩), Kp.grown hk hg2 ho.own_ge⟩
          case measure => simp [intOf]
        · go_wp2_with (at_builtin; refine wpList_append_ow U rfl _ _ rfl w0.heap.size _ _ rfl ho _ l2 rfl hr2 ?c1 hsz ?_; rotate_right; intro v' w2 ho2 hg2 _)
          case c1 => omega
          go_roundw
          case rel => exact ⟨.inr (.inr ⟨ho2, rfl⟩), Kp.grown hk hg2 ho.own_ge⟩
          case measure => simp [intOf]
        · go_wp2_with fail
          go_ret
          exact ⟨⟨_, rfl, ho⟩, hk⟩
end Go.Proofs.YtobldbodafaajaaGreatDoor

/- append onto memory of the call's own, as one step of a region that draws its order. Nothing of a dump. -/
set_option linter.unusedVariables false
set_option linter.unusedSimpArgs false
namespace Go.Proofs.YtobldbodafaajaaGreatDoor
open Go.RowKit
theorem step_append_ow {P : Program} {t e : TypeId} (U : U8 P t e) {ops : Array Oper} {o : Oper} {a : Act} {w : World} {K : Act → World → Prop} {Q : Exit → Act → World → Prop} {E : Prop}
    (hg : o.guard = none) (s x : Operand) (hop : o.op = Op.call { callee := Callee.builtin Builtin.append, args := #[s, x], argTypes := #[t, t] })
    (B : Nat) (v : Value) (l : List UInt8) (hs : a.eval s = v) (hown : Ow e w B v l) (ad : Addr) (n c : Nat) (m : List UInt8) (hx : a.eval x = .slice (some ad) n c) (hu : Rd w (.slice (some ad) n c) m)
    (hlen : l.length + m.length ≤ 140737488355328) (hbase : B ≤ w.heap.size)
    (hK : ∀ v' w', Ow e w' B v' (l ++ m) → w.grownBy w' v.ownBlock → K (a.put o.dst v') w') :
    if Region.wanted o (yielded ops a.tmps) = true then Oper.wp P o a w K Q else E := by
  have hw : Region.wanted o (yielded ops a.tmps) = true := by simp [Region.wanted, hg]
  rw [if_pos hw]
  obtain ⟨i, hi, hz, hsize, hby⟩ := U.hi
  obtain ⟨hn, _, _⟩ := hu.len
  subst hn
  obtain ⟨a', c', e', h1, h2, h3, h4⟩ := hu
  simp only [Value.slice.injEq] at e'
  obtain ⟨rfl, _, rfl⟩ := e'
  refine wp_append_own w s x t hop B e i (.int .u8 0) 1 1 U.ht hi hz hsize hby rfl (by decide) v l.length (Lib.byteCells l) hs hown ad m.length c (Lib.byteCells m) hx (by rw [byteCells_length]; omega) (fun j z hj => ?_) (fun z hz => ?_) (by unfold maxLen; omega) (by omega) hbase
    (fun v' w' h1 h2 _ => hK v' w' (by unfold Ow; rw [List.length_append, byteCells_append]; exact h1) h2)
  · have hjl : j < m.length := by
      have := (List.getElem?_eq_some_iff.1 hj).1
      rwa [byteCells_length] at this
    rw [byteCells_get m j hjl] at hj
    cases hj
    exact h4 ad rfl j hjl
  · obtain ⟨b, _, rfl⟩ := List.mem_map.1 hz
    rfl
end Go.Proofs.YtobldbodafaajaaGreatDoor

/- pyxref02.Sum. -/
set_option linter.unusedVariables false
set_option linter.unusedSimpArgs false
namespace Go.Proofs.YtobldbodafaajaaGreatDoor
open Go.RowKit

theorem padded_length (l : List UInt8) : (padded l).length = l.length + 9 + fill l.length := by unfold padded; rw [List.length_append, pad_length]; omega
theorem padded_whole (l : List UInt8) : (padded l).length = 64 * ((padded l).length / 64) := by
  have := pad_whole l.length
  have h : (padded l).length = l.length + (pad l.length).length := by unfold padded; rw [List.length_append]
  omega
theorem blocks_succ (s : S8) (l : List UInt8) (k : Nat) : blocks s l (k + 1) = comp keyL (blocks s l k) ((l.drop (64 * k)).take 64) := by rw [blocks]
theorem padOf_nat (n : Nat) (h : n ≤ 2000) : padOf (n : Int) = pad n := by
  unfold padOf
  rw [if_pos (by omega), Int.toNat_natCast]

theorem step_int (x : Int) (s : S8) (v : Value) (all : List UInt8) (at' : Nat) (gk ck : Nat) (k : List UInt32) (w : World) (h : Rd w v all) (hl : at' + 64 ≤ all.length) (hk : Arr 79 w gk k) (hkl : k.length = 64) (hx : x = at') :
    Calls Tryz.prog 57 #[.agg (wcells s.list), v, .int .i64 x, .slice (some ⟨gk, 0, none⟩) 64 ck] w fun e w' => e = .returned (.agg (wcells (comp k s ((all.drop at').take 64)).list)) ∧ Kp w w' := by
  subst hx
  exact step_any s v all at' gk ck k w h hl hk hkl

/-- The four bytes of a word, by division. -/
theorem bytes4_rest (x : UInt32) : ∃ b0 b1 b2 b3 : UInt8, bytes4 x = [b0, b1, b2, b3] ∧ IntKind.u8.wrap (u x / 16777216) = (b0.toNat : Int) ∧ IntKind.u8.wrap (u x / 65536 % 256) = (b1.toNat : Int) ∧ IntKind.u8.wrap (u x / 256 % 256) = (b2.toNat : Int) ∧ IntKind.u8.wrap (u x % 256) = (b3.toNat : Int) := by
  refine ⟨_, _, _, _, rfl, ?_, ?_, ?_, ?_⟩ <;> rw [IntKind.wrap_u8] <;> unfold u <;> simp

set_option maxRecDepth 100000 in
set_option maxHeartbeats 2000000 in
theorem refSum_own (v : Value) (l : List UInt8) (w : World) (h : Rd w v l) (hl : l.length ≤ 2000) :
    Calls Tryz.prog 24 #[v] w fun e w' => (∃ v', e = .returned v' ∧ Ow 5 w' w.heap.size v' (digest l)) ∧ Kp w w' := by
  have U := u8
  obtain ⟨a, c, rfl, h1, h2⟩ := h.shape
  unfold maxLen at h2
  have hpl := padded_length l
  have hpw := padded_whole l
  have hfl := fill_lt l.length
  obtain ⟨P, hP⟩ : ∃ P, padded l = P := ⟨_, rfl⟩
  have hPP : l ++ pad l.length = P := hP
  have hdg : digest l = (blocks startS P (P.length / 64)).bytes := by unfold digest; rw [hP]
  rw [hdg]
  rw [hP] at hpl hpw
  obtain ⟨N, hN⟩ : ∃ N, P.length / 64 = N := ⟨_, rfl⟩
  rw [hN] at hpw ⊢
  have HP := Lib.hid hPP
  have HL := Lib.hid hpw
  have hN2 : N ≤ 40 := by omega
  have hPL : P.length ≤ 2600 := by omega
  have hpo := padOf_nat l.length hl
  have HPO := Lib.hid hpo
  have hlb := hl
  clear hdg hP hPP hpw hpl hN hpo hfl
  go_enter Tryz.func24, Tryz.ntmps24
  go_wp2_with (first
    | (at_builtin; refine wpList_append_ow U rfl _ _ rfl w.heap.size _ _ rfl (Ow.lit w 5 w.heap.size 0 #[] [] (Nat.le_refl _) rfl (by decide) rfl) _ l rfl (h.kp ((Kp.refl w).alloc _)) ?c1 ?c2 ?_; rotate_right; intro v1 w1 ho1 hg1 _
       have hk1 : Kp w w1 := Kp.grown ((Kp.refl w).alloc _) hg1 (by intro k e; cases e; exact Nat.le_refl _)
       clear hg1)
    | (go_at_call 54; refine (refPad_any _ _).mono ?_; rintro e w2 ⟨⟨vp, rfl, hrp⟩, hk2⟩; rw [HPO.out] at hrp)
    | (at_builtin; refine wpList_append_ow U rfl _ _ rfl w.heap.size _ _ rfl (ho1.kp hk2) _ (pad l.length) rfl hrp ?c3 ?c4 ?_; rotate_right; intro v2 w3 ho2 hg2 _
       have hk3 : Kp w w3 := Kp.grown (hk1.trans hk2) hg2 ho1.own_ge
       rw [List.nil_append, HP.out] at ho2
       clear hg2))
  case c1 => simp; omega
  case c2 => simp
  case c3 => have := fill_lt l.length; have := pad_length l.length; simp; omega
  case c4 => exact (hk1.trans hk2).size
  refine (refKeys_any _).mono ?_
  rintro e w4 ⟨⟨gk, rfl, hA, _⟩, hk4⟩
  go_wp2_with fail
  refine (refStart_any _).mono ?_
  rintro e w5 ⟨rfl, hk5⟩
  have hA5 := hA.kp hk5
  have hr5 := (ho2.rd.kp hk4).kp hk5
  have hkp5 : Kp w w5 := (hk3.trans hk4).trans hk5
  clear hA hk4 hk5 ho2 hk3 ho1 hk1 hk2 hrp
  obtain ⟨a2, c2, rfl, hq1, hq2⟩ := hr5.shape
  unfold maxLen at hq2
  go_wp2_with (refine wpList_store_arr' (by kernel_rfl) rfl rfl (.tmp 5) (.tmp 17) rfl w5.heap.size (zeros 8) startS.list rfl rfl (Arr.new _ _ _ _ rfl) rfl rfl ?_; intro w6 hR6 hbut)
  have hk6 : Kp w5 w6 := hbut.below ((Kp.refl w5).alloc _) (Nat.le_refl _)
  clear hbut
  go_loopw [6] (fun i wr => ∃ k : Nat, k ≤ N ∧ i = .int .i64 (64 * (k : Int)) ∧ Arr 80 wr w5.heap.size (blocks startS P k).list ∧ Kp w5 wr) (fun i _ => (64 * N - (intOf i).toNat))
  case atStart => exact ⟨0, by omega, rfl, hR6, hk6⟩
  case round =>
    clear hR6 hk6
    obtain ⟨k, hkN, rfl, hR, hk⟩ := hrel
    by_cases hlt : k < N
    · have hcond : 64 * (k : Int) < (P.length : Int) := by rw [HL.out]; omega
      have HS := Lib.hid (step_int (64 * (k : Int)) (blocks startS P k) (.slice a2 P.length c2) P (64 * k) gk 64 keyL wr (hr5.kp hk) (by rw [HL.out]; omega) (hA5.kp hk) rfl (by simp))
      rw [← blocks_succ] at HS
      obtain ⟨s', hs'⟩ : ∃ s', blocks startS P (k + 1) = s' := ⟨_, rfl⟩
      rw [hs'] at HS
      have HS' := Lib.hid hs'
      clear hs'
      generalize blocks startS P k = s at *
      go_wp2_with (refine wpList_load_arr Tryz.underlying80 (by kernel_rfl) rfl (.tmp 5) rfl w5.heap.size s.list rfl hR rfl ?_)
      refine HS.out.mono ?_
      rintro e w7 ⟨rfl, hk7⟩
      have hR7 := hR.kp hk7
      have hk8 : Kp w5 w7 := hk.trans hk7
      clear hR hk hk7
      go_wp2_with (refine wpList_store_arr' (by kernel_rfl) rfl rfl (.tmp 5) (.tmp 28) rfl w5.heap.size s.list s'.list rfl rfl hR7 rfl rfl ?_; intro w8 hR8 hbut)
      go_roundw
      case rel => exact ⟨k + 1, by omega, by congr 1, by rw [HS'.out]; exact hR8, hbut.below hk8 (Nat.le_refl _)⟩
      case measure => simp [intOf]; omega
    · obtain rfl : k = N := by omega
      have hcond : ¬ 64 * (k : Int) < (P.length : Int) := by rw [HL.out]; omega
      obtain ⟨s, hsn⟩ : ∃ s, blocks startS P k = s := ⟨_, rfl⟩
      rw [hsn] at hR
      have HSN := Lib.hid hsn
      clear hsn
      go_wp2_with fail
      rename World => wA
      go_loopw [7, 8] (fun v i wq => ∃ j : Nat, j ≤ 8 ∧ i = .int .i64 j ∧ Ow 5 wq wA.heap.size v (bytesTo s j) ∧ Kp wA wq) (fun _ i _ => (8 - intOf i).toNat)
      case atStart => exact ⟨0, by omega, rfl, Ow.nil _ _ _, Kp.refl _⟩
      case round =>
        obtain ⟨j, hj, rfl, hown, hkq⟩ := hrel
        by_cases hlt2 : j < 8
        · have cb := (hR.kp hkq).cell j hlt2
          have hs := bytesTo_succ s j hlt2
          have hlen := bytesTo_length s j (by omega)
          generalize s.list.getD j 0 = x at *
          obtain ⟨b0, b1, b2, b3, h4, v0, v1', v2', v3⟩ := bytes4_rest x
          rw [h4] at hs
          generalize bytesTo s j = L at *
          have HS := Lib.hid hs
          have HLn := Lib.hid hlen
          have q : (j : Int) < 8 := by omega
          clear hs hlen h4 hcond
          go_wp2_with fail
          have u0 := u_nonneg x
          have u1 := u_lt x
          have w0 : IntKind.u32.wrap ((u x).tdiv 16777216) = u x / 16777216 := by rw [Int.tdiv_eq_ediv_of_nonneg u0]; exact wraps_u32 _ (by omega) (by omega)
          have w1' : IntKind.u32.wrap ((u x).tdiv 65536) = u x / 65536 := by rw [Int.tdiv_eq_ediv_of_nonneg u0]; exact wraps_u32 _ (by omega) (by omega)
          have w2' : IntKind.u32.wrap ((u x).tdiv 256) = u x / 256 := by rw [Int.tdiv_eq_ediv_of_nonneg u0]; exact wraps_u32 _ (by omega) (by omega)
          have m1 : (u x / 65536).tmod 256 = u x / 65536 % 256 := Int.tmod_eq_emod_of_nonneg (by omega)
          have m2 : (u x / 256).tmod 256 = u x / 256 % 256 := Int.tmod_eq_emod_of_nonneg (by omega)
          have m3 : (u x).tmod 256 = u x % 256 := Int.tmod_eq_emod_of_nonneg u0
          clear u0 u1
          have hblt : w5.heap.size < wr.heap.size := World.block_lt_of_cell? wr _ cb
          go_region_held3 (fun W => W.cell? ⟨w5.heap.size, j, none⟩ = some (.int .u32 (u x)))
            (first
              | exact cb
              | exact (((Kp.refl wr).alloc _).drew).cell cb
              | exact (((Kp.refl wr).drew).alloc _).cell cb
              | exact (Kp.grown (((Kp.refl wr).alloc _).drew) hg9 (fun k e => absurd e (by simp))).cell cb
              | (exact cb9)
              | trace_state)
            (first
              | (refine step_append_ow U rfl (.tmp 33) (.tmp 56) rfl wA.heap.size _ _ rfl (hown.kp ((Kp.refl _).alloc _).drew) _ 4 4 [b0, b1, b2, b3] rfl ((Ow.lit wr 5 0 4 _ _ (Nat.zero_le _) rfl (by decide) rfl).kp (Kp.refl _).drew).rd (by rw [HLn.out]; simp; omega) (by have := hkq.size; simp; omega) ?_; intro v' w9 ho9 hg9; have cb9 : w9.cell? ⟨w5.heap.size, j, none⟩ = some (.int .u32 (u x)) := (Below.cell (Kp.grown (hkq.alloc _).drew hg9 hown.own_ge) (p := ⟨w5.heap.size, j, none⟩) (Arr.lt hR)).trans ((hR.cell j hlt2).trans (by have := (hR.kp hkq).cell j hlt2; rw [cb] at this; exact this.symm))))
          all_goals
            go_wp2_with fail
            go_roundw
            case rel => exact ⟨j + 1, by omega, by go_num, by rw [HS.out]; exact ho9, Kp.grown (hkq.alloc _).drew hg9 hown.own_ge⟩
            case measure => simp [intOf]; omega
        · obtain rfl : j = 8 := by omega
          go_wp2_with fail
          go_ret
          exact ⟨⟨_, rfl, by rw [HSN.out]; exact hown.mono (hkp5.trans hk).size⟩, (hkp5.trans hk).trans hkq⟩
theorem refSum_any (v : Value) (l : List UInt8) (w : World) (h : Rd w v l) (hl : l.length ≤ 2000) :
    Calls Tryz.prog 24 #[v] w fun e w' => (∃ v', e = .returned v' ∧ Rd w' v' (digest l)) ∧ Kp w w' :=
  (refSum_own v l w h hl).mono fun e w' ⟨⟨v', he, ho⟩, hk⟩ => ⟨⟨v', he, ho.rd⟩, hk⟩
end Go.Proofs.YtobldbodafaajaaGreatDoor

/- Blocks of padded bytes: whole ones, and what is left. Plain. -/
set_option linter.unusedVariables false
set_option linter.unusedSimpArgs false
namespace Go.Proofs.YtobldbodafaajaaGreatDoor
open Go.RowKit

theorem blocks_prefix (s : S8) (l m : List UInt8) : ∀ k, 64 * k ≤ l.length → blocks s (l ++ m) k = blocks s l k
  | 0, _ => rfl
  | k + 1, h => by
    rw [blocks_succ, blocks_succ, blocks_prefix s l m k (by omega), List.drop_append_of_le_length (by omega), List.take_append_of_le_length (by simp; omega)]
theorem blocks_add (s : S8) (P : List UInt8) (a : Nat) : ∀ k, blocks (blocks s P a) (P.drop (64 * a)) k = blocks s P (a + k)
  | 0 => rfl
  | k + 1 => by
    rw [blocks_succ, blocks_add s P a k, List.drop_drop, show a + (k + 1) = (a + k) + 1 by omega, blocks_succ, show 64 * a + 64 * k = 64 * (a + k) by omega]
/-- A digest: the whole blocks, then what is left of the bytes, with the pad. -/
theorem digest_split (l : List UInt8) (N M : Nat) (hN : N = l.length / 64) (hM : 64 * M = (l.drop (64 * N) ++ pad l.length).length) :
    digest l = (blocks (blocks startS l N) (l.drop (64 * N) ++ pad l.length) M).bytes := by
  have h1 : (padded l).length = 64 * (N + M) := by
    unfold padded
    rw [List.length_append] at hM ⊢
    rw [List.length_drop] at hM
    omega
  have h2 : (padded l).length / 64 = N + M := by omega
  have h3 : l.drop (64 * N) ++ pad l.length = (padded l).drop (64 * N) := by
    unfold padded
    rw [List.drop_append_of_le_length (by omega)]
  unfold digest
  rw [h2, h3, ← blocks_add]
  have h4 : blocks startS (padded l) N = blocks startS l N := blocks_prefix _ _ _ _ (by omega)
  rw [h4]
theorem tail_whole (l : List UInt8) (N : Nat) (hN : N = l.length / 64) : 64 * ((l.drop (64 * N) ++ pad l.length).length / 64) = (l.drop (64 * N) ++ pad l.length).length := by
  have := pad_whole l.length
  rw [List.length_append, List.length_drop]
  omega
end Go.Proofs.YtobldbodafaajaaGreatDoor

/- slices.Chunk over bytes, by 64. -/
set_option linter.unusedVariables false
set_option linter.unusedSimpArgs false
namespace Go.Proofs.YtobldbodafaajaaGreatDoor
open Go.RowKit Go.Shelf

attribute [local go_sem] Oper.semAt_some

set_option maxHeartbeats 1000000 in
theorem chunk_any (a : Option Addr) (n c : Nat) (w : World) :
    Calls Tryz.prog 106 #[.slice a n c, .int .i64 64] w fun e w' => e = .returned (.func (.func 115) #[] #[.pointer (some ⟨w.heap.size, 0, none⟩), .pointer (some ⟨w.heap.size + 1, 0, none⟩)]) ∧
      (w.alloc (.cells #[.slice a n c] 25)).alloc (.cells #[.int .i64 64] 3) = w' := by
  go_enter Tryz.func106, Tryz.ntmps106
  go_wp2
  go_ret
  exact ⟨rfl, rfl⟩

/-- Piece number i of 64 bytes. -/
def chunkV (a : Option Addr) (i : Nat) : Value :=
  match a with
  | some ⟨b, o, _⟩ => .slice (some ⟨b, o + 64 * i, none⟩) 64 64
  | none => undef
theorem cell_same {X : Nat → Prop} {A B : World} (h : Same X A B) {p : Addr} {v : Value} (hv : A.cell? p = some v) (hx : ¬ X p.block) : B.cell? p = some v :=
  (World.cell?_of_block (w := A) (h.block p.block (World.block_lt_of_cell? A p hv) hx)).trans hv

set_option maxRecDepth 100000 in
set_option maxHeartbeats 4000000 in
theorem chunk_it (m : Nat) (hm : 1 ≤ m) (X : Nat → Prop) (w : World) (a : Option Addr) (N c B2 B3 : Nat) (hv : w.cell? ⟨B2, 0, none⟩ = some (.slice a (64 * N) c)) (hn : w.cell? ⟨B3, 0, none⟩ = some (.int .i64 64))
    (hX2 : ¬ X B2) (hX3 : ¬ X B3) (hc : 64 * N ≤ c) (hcm : c ≤ maxLen) (ha : 0 < N → ∃ b o, a = some ⟨b, o, none⟩) :
    Iterates Fence.wide m Tryz.prog 115 #[.pointer (some ⟨B2, 0, none⟩), .pointer (some ⟨B3, 0, none⟩)] (fun i => #[chunkV a i]) N X w := by
  intro l J W hb hl1 hl2 hJ hY h0
  have HJ := Lib.hid hJ
  have HY := Lib.hid hY
  have hv1 := (hb.cell (p := ⟨B2, 0, none⟩) (World.block_lt_of_cell? w _ hv)).trans hv
  have hn1 := (hb.cell (p := ⟨B3, 0, none⟩) (World.block_lt_of_cell? w _ hn)).trans hn
  have hB2 : B2 ≠ l := by have := World.block_lt_of_cell? w _ hv; simp at this; omega
  have hB3 : B3 ≠ l := by have := World.block_lt_of_cell? w _ hn; simp at this; omega
  have HB := Lib.hid (And.intro hB2 hB3)
  have HA := Lib.hid ha
  unfold maxLen at hcm
  clear hJ hY hv hn hB2 hB3 ha
  refine callsIn_of_wp Tryz.func115 rfl trivial ?_ rfl
  simp only [Tryz.ntmps115, List.append_toArray, List.size_toArray, List.length_cons, List.length_nil, Nat.reduceAdd, Nat.reduceSub, Array.replicate_succ, Array.replicate_zero, List.push_toArray, List.nil_append, List.cons_append]
  gi_wp2
  gi_loopw [4] (fun p wr => ∃ k : Nat, k ≤ N ∧ p = .int .i64 (64 * (k : Int)) ∧ wr.cell? ⟨B2, 0, none⟩ = some (.slice a (64 * N) c) ∧ wr.cell? ⟨B3, 0, none⟩ = some (.int .i64 64) ∧ J k wr) (fun p _ => 64 * N - (intOf p).toNat)
  case atStart => exact ⟨0, by omega, rfl, hv1, hn1, h0⟩
  case round =>
    clear hv1 hn1 h0
    obtain ⟨k, hk, rfl, hv, hn, hj⟩ := hrel
    by_cases hlt : k < N
    · obtain ⟨b, o, rfl⟩ := HA.out (by omega)
      have hlt' : 64 * (k : Int) < 64 * (N : Int) := by omega
      have hnc : ¬ c = 64 * k := by omega
      have e1 : 64 * N - 64 * k = 64 * (N - k) := by omega
      have hle : 64 * (k : Int) + 64 ≤ 64 * (N : Int) := by omega
      have hlec : 64 * k + 64 ≤ c := by omega
      have hkk : 64 * k + 64 - 64 * k = 64 := by omega
      gi_wp2
      gi_region
      obtain ⟨fn, tmps, assign, body, hy, hR⟩ := HY.out k wr.drew hlt (HJ.out _ _ _ hj ((Below.refl _ _).drew))
      simp only [chunkV] at hy
      gi_wp2
      refine hR.mono ?_
      rintro e W3 ⟨rfl, hj3, hs3⟩
      have hv3 : W3.cell? ⟨B2, 0, none⟩ = some (.slice (some ⟨b, o, none⟩) (64 * N) c) := cell_same hs3 hv (fun h => h.elim (fun e => HB.out.1 e) hX2)
      have hn3 : W3.cell? ⟨B3, 0, none⟩ = some (.int .i64 64) := cell_same hs3 hn (fun h => h.elim (fun e => HB.out.2 e) hX3)
      clear hv hn hj hs3 hR hy
      gi_wp2
      go_roundw
      case rel => exact ⟨k + 1, by omega, by congr 1, hv3, hn3, hj3⟩
      case measure => simp [intOf]; omega
    · gi_wp2
      go_end0
      obtain rfl : k = N := by omega
      exact ⟨⟨_, rfl⟩, hj⟩
end Go.Proofs.YtobldbodafaajaaGreatDoor

/- sha.Sum. -/
set_option linter.unusedVariables false
set_option linter.unusedSimpArgs false
namespace Go.Proofs.YtobldbodafaajaaGreatDoor
open Go.RowKit Go.Shelf

attribute [local go_sem] Oper.semAt_some

theorem same_set8 {X : Nat → Prop} {A w : World} (h : Same X A w) {g : Nat} (hg : X g) (v0 v1 v2 v3 v4 v5 v6 v7 : Value) :
    Same X A ((((((((w.setCell ⟨g, 0, none⟩ v0).setCell ⟨g, 1, none⟩ v1).setCell ⟨g, 2, none⟩ v2).setCell ⟨g, 3, none⟩ v3).setCell ⟨g, 4, none⟩ v4).setCell ⟨g, 5, none⟩ v5).setCell ⟨g, 6, none⟩ v6).setCell ⟨g, 7, none⟩ v7) :=
  (((((((h.setCell ⟨g, 0, none⟩ v0 hg).setCell ⟨g, 1, none⟩ v1 hg).setCell ⟨g, 2, none⟩ v2 hg).setCell ⟨g, 3, none⟩ v3 hg).setCell ⟨g, 4, none⟩ v4 hg).setCell ⟨g, 5, none⟩ v5 hg).setCell ⟨g, 6, none⟩ v6 hg).setCell ⟨g, 7, none⟩ v7 hg
theorem arr_other8 {T : TypeId} {w : World} {k g : Nat} {l : List UInt32} (h : Arr T w k l) (hne : k ≠ g) (v0 v1 v2 v3 v4 v5 v6 v7 : Value) :
    Arr T ((((((((w.setCell ⟨g, 0, none⟩ v0).setCell ⟨g, 1, none⟩ v1).setCell ⟨g, 2, none⟩ v2).setCell ⟨g, 3, none⟩ v3).setCell ⟨g, 4, none⟩ v4).setCell ⟨g, 5, none⟩ v5).setCell ⟨g, 6, none⟩ v6).setCell ⟨g, 7, none⟩ v7) k l :=
  (((((((h.other ⟨g, 0, none⟩ v0 hne).other ⟨g, 1, none⟩ v1 hne).other ⟨g, 2, none⟩ v2 hne).other ⟨g, 3, none⟩ v3 hne).other ⟨g, 4, none⟩ v4 hne).other ⟨g, 5, none⟩ v5 hne).other ⟨g, 6, none⟩ v6 hne).other ⟨g, 7, none⟩ v7 hne
theorem pair0 (w : World) (T : TypeId) (x y : Value) : (w.alloc (.cells #[x, y] T)).cell? ⟨w.heap.size, 0, none⟩ = some x := by rw [cell_of_row _ _ 0 _ _ _ (heap_alloc_new w _)]; rfl
theorem pair1 (w : World) (T : TypeId) (x y : Value) : (w.alloc (.cells #[x, y] T)).cell? ⟨w.heap.size, 1, none⟩ = some y := by rw [cell_of_row _ _ 1 _ _ _ (heap_alloc_new w _)]; rfl
theorem ow_putObj {e : TypeId} {w : World} {B : Nat} {v : Value} {l : List UInt8} (h : Ow e w B v l) {D : Nat} (hD : D < B) (o : Obj) : Ow e (w.putObj D o) B v l := by
  refine ⟨h.1, ?_⟩
  rcases h.2 with hn | ⟨g, cap, cur, hv, hb, hg, rest⟩
  · exact .inl hn
  · exact .inr ⟨g, cap, cur, hv, hb, (World.putObj_heap_other (by omega)).trans hg, rest⟩
theorem size_put (w : World) (D : Nat) (o : Obj) : (w.putObj D o).heap.size = w.heap.size := by
  simp [World.putObj]
/-- What reads in a row of its own still reads where all but X stands. -/
theorem rd_same {X : Nat → Prop} {A B : World} {v : Value} {l : List UInt8} (h : Rd A v l) (hs : Same X A B) (hx : ∀ b o c, v = .slice (some ⟨b, o, none⟩) l.length c → ¬ X b) : Rd B v l := by
  obtain ⟨a, c, rfl, h1, h2, h3, h4⟩ := h
  refine ⟨a, c, rfl, h1, h2, h3, fun x hx' i hi => ?_⟩
  have hc := h4 x hx' i hi
  subst hx'
  obtain ⟨b, o, spot⟩ := x
  have hsp := World.cell?_spot (h4 _ rfl 0 (by omega))
  have hsp' : spot = none := by simpa [Addr.add] using hsp
  subst hsp'
  exact (World.cell?_of_block (w := A) (hs.block _ (World.block_lt_of_cell? A _ hc) (by
    have : ((⟨b, o, none⟩ : Addr).add i).block = b := by unfold Addr.add; split <;> rfl
    rw [this]
    exact hx b o c rfl))).trans hc
/-- Piece number i of a slice. -/
theorem chunk_rd {w : World} {a : Option Addr} {n c : Nat} {l : List UInt8} (h : Rd w (.slice a n c) l) (i : Nat) (hi : 64 * i + 64 ≤ n) : Rd w (chunkV a i) ((l.drop (64 * i)).take 64) := by
  obtain ⟨b, o, rfl, _, _⟩ := h.at 0 (by omega)
  obtain ⟨hn, hnc, hcm⟩ := h.len
  have h1 := h.cutAt (64 * i) 64 hi (by omega)
  obtain ⟨a', c', e, e1, e2, e3, e4⟩ := h1
  have hl : ((l.drop (64 * i)).take 64).length = 64 := by simp; omega
  simp only [Value.slice.injEq] at e
  obtain ⟨rfl, _, rfl⟩ := e
  exact ⟨some ⟨b, o + 64 * i, none⟩, 64, by rw [hl]; rfl, by rw [hl]; exact Nat.le_refl _, by unfold maxLen; omega, fun h => (by cases h), e4⟩

set_option maxRecDepth 100000 in
set_option maxHeartbeats 4000000 in
theorem sum_own (v : Value) (l : List UInt8) (w : World) (h : Rd w v l) (hl : l.length ≤ 2000) :
    Calls Tryz.prog 91 #[v] w fun e w' => (∃ v', e = .returned v' ∧ Ow 5 w' w.heap.size v' (digest l)) ∧ Kp w w' := by
  have U := u8
  obtain ⟨a, c, rfl, h1, h2⟩ := h.shape
  unfold maxLen at h2
  obtain ⟨N, hN⟩ : ∃ N, l.length / 64 = N := ⟨_, rfl⟩
  have hwh : (l.length : Int) - (l.length : Int) % 64 = 64 * (N : Int) := by omega
  have hwh2 : (l.length : Int) - (l.length : Int).tmod 64 = 64 * (N : Int) := by rw [Int.tmod_eq_emod_of_nonneg (by omega)]; exact hwh
  have hN64 : 64 * N ≤ l.length := by omega
  have HN := Lib.hid hN
  clear hN
  refine (callsIn_wide (n := 6)).1 ?_
  refine callsIn_of_wp_marks Tryz.func91 rfl trivial ?_ rfl
  refine wpIn_wide.2 ?_
  simp only [Tryz.ntmps91, List.append_toArray, List.size_toArray, List.length_cons, List.length_nil, Nat.reduceAdd, Nat.reduceSub, Array.replicate_succ, Array.replicate_zero, List.push_toArray, List.nil_append, List.cons_append]
  go_wp2_with fail
  refine (keys_any _).mono ?_
  rintro e w1 ⟨rfl, hk1⟩
  go_wp2_with (refine wpList_store_arr' (by kernel_rfl) rfl rfl (.tmp 3) (.tmp 8) rfl w1.heap.size (zeros 64) keyL rfl rfl (Arr.new _ _ _ _ rfl) (zeros_length 64) rfl ?_; intro w2 hA2 hbut)
  have hkp2 : Kp w w2 := hbut.below (hk1.alloc _) hk1.size
  clear hbut
  refine (start_any _).mono ?_
  rintro e w3 ⟨rfl, hk3⟩
  have hA3 := hA2.kp hk3
  have hkp3 : Kp w w3 := hkp2.trans hk3
  clear hA2 hkp2 hk3 
  go_wp2_with (refine wpList_store_arr' (by kernel_rfl) rfl rfl (.tmp 4) (.tmp 9) rfl w3.heap.size (zeros 8) startS.list rfl rfl (Arr.new _ _ _ _ rfl) rfl rfl ?_; intro w4 hR4 hbut4)
  have hA4 := hbut4.arr (hA3.alloc _) (by have := hA3.lt; omega)
  have hkp4 : Kp w w4 := hbut4.below (hkp3.alloc _) hkp3.size
  have hlt4 := hA4.lt
  have hlt4' := hR4.lt
  have hne : w3.heap.size ≠ w1.heap.size := by have := hA3.lt; omega
  have hle3 := hkp3.size
  clear hbut4 hA3 hkp3
  refine (chunk_any a (64 * N) c w4).mono ?_
  rintro e w5 ⟨rfl, hw5⟩
  have hb5 : Kp w4 w5 := by rw [← hw5]; exact ((Kp.refl _).alloc _).alloc _
  have hs5 : w5.heap.size = w4.heap.size + 2 := by rw [← hw5]; simp
  have hcb : w5.cell? ⟨w4.heap.size, 0, none⟩ = some (.slice a (64 * N) c) := by
    rw [← hw5, cell_of_row _ _ 0 _ _ _ ((Below.heap_alloc _ _ _ (by simp)).trans (heap_alloc_new w4 _))]; rfl
  have hcn : w5.cell? ⟨w4.heap.size + 1, 0, none⟩ = some (.int .i64 64) := by
    have := heap_alloc_new (w4.alloc (.cells #[.slice a (64 * N) c] 25)) (.cells #[.int .i64 64] 3)
    rw [World.size_alloc, hw5] at this
    rw [cell_of_row _ _ 0 _ _ _ this]; rfl
  have hA5 := hA4.kp hb5
  have hR5 := hR4.kp hb5
  have hkp5 : Kp w w5 := hkp4.trans hb5
  clear hw5 hA4 hR4 hkp4 hb5
  go_wp2_with fail
  refine wpIn_wide.1 (wpIn_range_on (F := Fence.wide) (n := 6) rfl (by omega) (gf := 115) (lb := #[.pointer (some ⟨w4.heap.size, 0, none⟩), .pointer (some ⟨w4.heap.size + 1, 0, none⟩)]) rfl trivial (enters_of Tryz.func115 (by kernel_rfl) rfl) (encs := fun i => #[chunkV a i]) (N := N) (X := fun k => k = w3.heap.size) (by omega)
    (chunk_it (6 - 1) (by omega) _ w5 a N c _ _ hcb hcn (fun e => by omega) (fun e => by omega) (by omega) (by unfold maxLen; omega) (fun h0 => by obtain ⟨b, o, e, _⟩ := h.at 0 (by omega); exact ⟨b, o, e⟩)) (fun _ => rfl)
    (fun i A => Arr 80 A w3.heap.size (blocks startS l i).list ∧ Arr 113 A w1.heap.size keyL ∧ Kp w A)
    (fun i A B h hb => ⟨h.1.below hb (by omega), h.2.1.below hb (by omega), Below.trans h.2.2 (hb.mono (by have := hkp5.size; omega))⟩)
    ⟨hR5, hA5, hkp5⟩ ?a1 ?assign ?body ?done)
  case assign =>
    intro l' i W K hK
    gi_wp2
    exact hK
  case body =>
    clear hR5 hA5 hcb hcn
    rintro l' i W ⟨hR, hA, hK⟩ hi
    have hpre : Rd w (.slice a (64 * N) c) (l.take (64 * N)) := by
      by_cases h0 : c = 0
      · have hl0 : l = [] := List.eq_nil_of_length_eq_zero (by omega)
        subst hl0
        have hN0 : 64 * N = 0 := by simp at hN64; omega
        rw [hN0]
        simpa using h
      · have := h.cut 0 (64 * N) (by omega) hN64 _ (64 * N) c rfl rfl rfl
        rw [if_neg h0] at this
        have e : a.map (fun x => x.add 0) = a := by cases a <;> simp [Addr.add]
        simpa [e] using this
    have hrd := chunk_rd hpre i (by omega)
    have hch : ((l.take (64 * N)).drop (64 * i)).take 64 = (l.drop (64 * i)).take 64 := by
      rw [List.drop_take, List.take_take, Nat.min_eq_left (by omega)]
    rw [hch] at hrd
    have hbs := blocks_succ startS l i
    have hbl : ((l.drop (64 * i)).take 64).length = 64 := by simp; omega
    obtain ⟨s, hs⟩ : ∃ s, blocks startS l i = s := ⟨_, rfl⟩
    obtain ⟨s', hs'⟩ : ∃ s', blocks startS l (i + 1) = s' := ⟨_, rfl⟩
    rw [hs'] at hbs ⊢
    rw [hs] at hbs hR
    have HS := Lib.hid (behind_any s (chunkV a i) ((l.drop (64 * i)).take 64) w1.heap.size keyL)
    rw [← hbs] at HS
    have HB := Lib.hid hbl
    obtain ⟨c0, c1, c2, c3, c4, c5, c6, c7⟩ := hR.cells8
    generalize chunkV a i = cv at *
    clear hs hs' hbs hbl hch hpre
    gi_wp2_with (refine ⟨trivial, ?_⟩; gi_at_call 107; refine (CallsIn.inRound l' (callsIn_wide.2 (HS.out _ (hrd.kp hK) HB.out hA rfl))).mono ?_; rintro e w7 ⟨rfl, hk7⟩; rw [agg8]; have hR7 := hR.kp hk7; obtain ⟨e0, e1, e2, e3, e4, e5, e6, e7⟩ := hR7.cells8; obtain ⟨f0, f1, f2, f3, f4, f5, f6, f7⟩ := hR7.frozen8)
    exact ⟨same_set8 (X := fun k => k = w3.heap.size) (Same.of_kp hk7) rfl _ _ _ _ _ _ _ _, hR7.set8 s', arr_other8 (hA.kp hk7) (Ne.symm hne) _ _ _ _ _ _ _ _, below_set8 (hK.trans hk7) hle3 _ _ _ _ _ _ _ _⟩
  case done =>
    clear hR5 hA5 hcb hcn
    rintro D W hD ⟨hR, hA, hK⟩ hd
    obtain ⟨s, hs⟩ : ∃ s, blocks startS l N = s := ⟨_, rfl⟩
    rw [hs] at hR
    have hpo := padOf_nat l.length hl
    have HPO := Lib.hid hpo
    have HSN := Lib.hid hs
    clear hs hpo
    obtain ⟨t1, ht1⟩ : ∃ t, l.drop (64 * N) = t := ⟨_, rfl⟩
    have htl : t1.length = l.length - 64 * N := by rw [← ht1]; simp
    have HT := Lib.hid ht1
    have hcut : ∃ a', Rd w (.slice a' (l.length - 64 * N) (c - 64 * N)) t1 ∧ a' = (if c = 64 * N then a else a.map (·.add (64 * N))) := by
      refine ⟨_, ?_, rfl⟩
      have := h.cut (64 * N) l.length hN64 (Nat.le_refl _) _ (l.length - 64 * N) (c - 64 * N) rfl rfl rfl
      rw [ht1, List.take_of_length_le (by omega)] at this
      exact this
    obtain ⟨a', hcut, ha'⟩ := hcut
    have hML := tail_whole l N HN.out.symm
    have hsplit := digest_split l N ((l.drop (64 * N) ++ pad l.length).length / 64) HN.out.symm hML
    rw [ht1] at hML hsplit
    obtain ⟨T, hTT⟩ : ∃ T, t1 ++ pad l.length = T := ⟨_, rfl⟩
    rw [hTT] at hML hsplit
    obtain ⟨M, hM⟩ : ∃ M, T.length / 64 = M := ⟨_, rfl⟩
    rw [hM] at hML hsplit
    have HML := Lib.hid hML.symm
    have HTM := Lib.hid hTT
    have HSP := Lib.hid hsplit
    clear ht1 hML hsplit hTT hM
    by_cases hcap : c = 64 * N
    · subst hcap
      rw [if_pos rfl] at ha'
      subst ha'
      rw [show l.length - 64 * N = 0 by omega, Nat.sub_self] at hcut
      have hM := pad_length l.length
      have hfl := fill_lt l.length
      have hpb : (pad l.length).length ≤ 100 := by omega
      have hpb2 : 0 < (pad l.length).length := by omega
      clear hM hfl
      go_wp2_with fail
      refine wp_region_noPanic ?_
      go_region_with (first
        | (go_at_call 108; refine (pad_any _ _).mono ?_; rintro e w6 ⟨⟨vp, rfl, hrp⟩, hk6⟩; rw [HPO.out] at hrp; obtain ⟨ap, cp, rfl, hp1, hp2⟩ := hrp.shape)
        | (go_at_call 38; refine (concat_any w6.heap.size 2 _ _ t1 (pad l.length) _ (pair0 _ _ _ _) (pair1 _ _ _ _) ((hcut.kp ((hK.drew.trans hk6).alloc _))) (hrp.kp ((Kp.refl _).alloc _)) (by omega) (by omega)).mono ?_; rintro e w7 ⟨⟨vc, rfl, hoc⟩, hk7⟩; rw [HTM.out] at hoc; obtain ⟨ac, cc, rfl, hcc1, hcc2⟩ := hoc.rd.shape; rw [HML.out] at hoc hcc1 ⊢)
        | (go_at_call 106; refine (chunk_any _ _ _ _).mono ?_; rintro e w8 ⟨rfl, hw8⟩))
      · refine NoPanic.normal ?_
        have hk78 : Kp w7 w8 := by rw [← hw8]; exact ((Kp.refl _).alloc _).alloc _
        have hs8 : w8.heap.size = w7.heap.size + 2 := by rw [← hw8]; simp
        have hcb : w8.cell? ⟨w7.heap.size, 0, none⟩ = some (.slice ac (64 * M) cc) := by
          rw [← hw8, cell_of_row _ _ 0 _ _ _ ((Below.heap_alloc _ _ _ (by simp)).trans (heap_alloc_new w7 _))]; rfl
        have hcn : w8.cell? ⟨w7.heap.size + 1, 0, none⟩ = some (.int .i64 64) := by
          have := heap_alloc_new (w7.alloc (.cells #[.slice ac (64 * M) cc] 25)) (.cells #[.int .i64 64] 3)
          rw [World.size_alloc, hw8] at this
          rw [cell_of_row _ _ 0 _ _ _ this]; rfl
        have hkW : Kp W w8 := ((((Kp.refl W).drew.trans hk6).alloc _).trans hk7).trans hk78
        have hrT : Rd w8 (.slice ac (64 * M) cc) T := hoc.rd.kp hk78
        have hR8 := hR.kp hkW
        have hA8 := hA.kp hkW
        have hK8 : Kp w w8 := hK.trans hkW
        have hd8 := (hkW.block D (Array.getElem?_eq_some_iff.1 hd).1).trans hd
        have hDW : D < W.heap.size := (Array.getElem?_eq_some_iff.1 hd).1
        have hW8 := hkW.size
        have hR8lt := hR8.lt
        have hA8lt := hA8.lt
        have hRW := hR.lt
        have hz1 := hk6.size
        have hz2 := hk7.size
        have h67 : W.heap.size ≤ w7.heap.size := by simp at hz1 hz2; omega
        have hoc_blk : ∀ b o, ac = some ⟨b, o, none⟩ → w3.heap.size < b := fun b o e => by
          have := hoc.own_ge b (by rw [e]; rfl)
          simp at this hz1
          omega
        have HOC := Lib.hid hoc_blk
        clear hoc hw8 hk6 hk7 hrp hk78 hoc_blk
        go_wp2_with fail
        refine wpIn_wide.1 (wpIn_range_on (F := Fence.wide) (n := 6) rfl (by omega) (gf := 115) (lb := #[.pointer (some ⟨w7.heap.size, 0, none⟩), .pointer (some ⟨w7.heap.size + 1, 0, none⟩)]) rfl trivial (enters_of Tryz.func115 (by kernel_rfl) rfl) (encs := fun i => #[chunkV ac i]) (N := M) (X := fun k => k = w3.heap.size) (by omega)
          (chunk_it (6 - 1) (by omega) _ w8 ac M cc _ _ hcb hcn (fun e => by omega) (fun e => by omega) hcc1 hcc2 (fun h0 => by obtain ⟨b, o, e, _⟩ := hrT.at 0 (by omega); exact ⟨b, o, e⟩)) (fun _ => rfl)
          (fun i A => Arr 80 A w3.heap.size (blocks s T i).list ∧ Arr 113 A w1.heap.size keyL ∧ Kp w A ∧ A.heap[D]? = some (.deferred (some [])) ∧ Same (fun k => k = w3.heap.size) w8 A)
          (fun i A B h hb => ⟨h.1.below hb (by omega), h.2.1.below hb (by omega), Below.trans h.2.2.1 (hb.mono (by have := hK8.size; omega)), (hb.block D (by omega)).trans h.2.2.2.1, Nat.le_trans h.2.2.2.2.size hb.size, fun k hk hn => (hb.block k hk).trans (h.2.2.2.2.block k hk hn)⟩)
          ⟨hR8, hA8, hK8, hd8, Same.refl _ _⟩ ?a11 ?assign1 ?body1 ?done21)
        case assign1 =>
          intro l' i W K hK
          gi_wp2
          exact hK
        case body1 =>
          clear hR8 hA8 hcb hcn hd8
          rintro l' i W9 ⟨hR9, hA9, hK9, hd9, hsm⟩ hi
          obtain ⟨sv, hsv⟩ : ∃ x, blocks s T i = x := ⟨_, rfl⟩
          obtain ⟨s', hs'⟩ : ∃ s', blocks s T (i + 1) = s' := ⟨_, rfl⟩
          have hbs := blocks_succ s T i
          have hTl := HML.out
          have hbl : ((T.drop (64 * i)).take 64).length = 64 := by rw [List.length_take, List.length_drop]; omega
          obtain ⟨b1, o1, hac, _⟩ := hrT.at 0 (by omega)
          have hb1 := HOC.out b1 o1 hac
          have hrd9 : Rd W9 (chunkV ac i) ((T.drop (64 * i)).take 64) := rd_same (chunk_rd hrT i (by omega)) hsm (fun b o' c' e => by rw [hac] at e; simp [chunkV] at e; omega)
          rw [hs', hsv] at hbs
          rw [hs']
          rw [hsv] at hR9
          have HS := Lib.hid (behind_any sv (chunkV ac i) ((T.drop (64 * i)).take 64) w1.heap.size keyL)
          rw [← hbs] at HS
          have HB := Lib.hid hbl
          obtain ⟨c0, c1, c2, c3, c4, c5, c6, c7⟩ := hR9.cells8
          generalize chunkV ac i = cv at *
          clear hs' hsv hbs hbl hTl
          gi_wp2_with (refine ⟨trivial, ?_⟩; gi_at_call 107; refine (CallsIn.inRound l' (callsIn_wide.2 (HS.out _ hrd9 HB.out hA9 rfl))).mono ?_; rintro e wz ⟨rfl, hkz⟩; rw [agg8]; have hRz := hR9.kp hkz; obtain ⟨e0, e1, e2, e3, e4, e5, e6, e7⟩ := hRz.cells8; obtain ⟨f0, f1, f2, f3, f4, f5, f6, f7⟩ := hRz.frozen8)
          have hsz : Same (fun k => k = w3.heap.size) W9 _ := same_set8 (X := fun k => k = w3.heap.size) (Same.of_kp hkz) (g := w3.heap.size) rfl (.int .u32 (u s'.a)) (.int .u32 (u s'.b)) (.int .u32 (u s'.c)) (.int .u32 (u s'.d)) (.int .u32 (u s'.e)) (.int .u32 (u s'.f)) (.int .u32 (u s'.g)) (.int .u32 (u s'.h))
          exact ⟨hsz, hRz.set8 s', arr_other8 (hA9.kp hkz) (Ne.symm hne) _ _ _ _ _ _ _ _, below_set8 (hK9.trans hkz) hle3 _ _ _ _ _ _ _ _, (hsz.block D (by have := hsm.size; omega) (by omega)).trans hd9, hsm.trans hsz⟩
        case done21 =>
          clear hR8 hA8 hcb hcn hd8
          rintro D2 W9 hD2 ⟨hR9, hA9, hK9, hd9, hsm⟩ hd29
          have hdg := HSP.out
          rw [HSN.out] at hdg
          obtain ⟨sv, hsv⟩ : ∃ x, blocks s T M = x := ⟨_, rfl⟩
          rw [hsv] at hR9 hdg
          have HDG := Lib.hid hdg
          have hDW2 : D2 < W9.heap.size := (Array.getElem?_eq_some_iff.1 hd29).1
          have hDW9 : D < W9.heap.size := (Array.getElem?_eq_some_iff.1 hd9).1
          clear hsv hdg
          go_wp2_with (first
            | (refine wpList_load_arr Tryz.underlying80 (by kernel_rfl) rfl (.tmp 4) rfl w3.heap.size sv.list rfl hR9 rfl ?_)
            | (go_at_call 109; refine (wordBytes_any sv _).mono ?_; rintro e wz ⟨⟨vz, rfl, hoz⟩, hkz⟩))
          have hdz2 := (hkz.block D2 hDW2).trans hd29
          have hdz := (hkz.block D hDW9).trans hd9
          refine ⟨by simp, .inl ⟨_, _, rfl, run_takeDeferred hdz2, ?_⟩⟩
          refine ⟨by simp, .inl ⟨_, _, rfl, run_takeDeferred ((World.putObj_heap_other (by omega)).trans hdz), ?_⟩⟩
          refine ⟨_, results_tmp rfl _ _ _, ⟨_, rfl, ?_⟩, ?_⟩
          · rw [HDG.out]
            exact (ow_putObj (ow_putObj hoz hDW2 _) hDW9 _).mono hK9.size
          · have hw9 := hK9.size
            have hwz := hkz.size
            exact put_below (put_below (hK9.trans hkz) (by omega) (by omega) _) (by have := hkp5.size; omega) (by rw [size_put]; omega) _
      · refine NoPanic.normal ?_
        have hk78 : Kp w7 w8 := by rw [← hw8]; exact ((Kp.refl _).alloc _).alloc _
        have hs8 : w8.heap.size = w7.heap.size + 2 := by rw [← hw8]; simp
        have hcb : w8.cell? ⟨w7.heap.size, 0, none⟩ = some (.slice ac (64 * M) cc) := by
          rw [← hw8, cell_of_row _ _ 0 _ _ _ ((Below.heap_alloc _ _ _ (by simp)).trans (heap_alloc_new w7 _))]; rfl
        have hcn : w8.cell? ⟨w7.heap.size + 1, 0, none⟩ = some (.int .i64 64) := by
          have := heap_alloc_new (w7.alloc (.cells #[.slice ac (64 * M) cc] 25)) (.cells #[.int .i64 64] 3)
          rw [World.size_alloc, hw8] at this
          rw [cell_of_row _ _ 0 _ _ _ this]; rfl
        have hkW : Kp W w8 := ((((Kp.refl W).drew.trans hk6).alloc _).trans hk7).trans hk78
        have hrT : Rd w8 (.slice ac (64 * M) cc) T := hoc.rd.kp hk78
        have hR8 := hR.kp hkW
        have hA8 := hA.kp hkW
        have hK8 : Kp w w8 := hK.trans hkW
        have hd8 := (hkW.block D (Array.getElem?_eq_some_iff.1 hd).1).trans hd
        have hDW : D < W.heap.size := (Array.getElem?_eq_some_iff.1 hd).1
        have hW8 := hkW.size
        have hR8lt := hR8.lt
        have hA8lt := hA8.lt
        have hRW := hR.lt
        have hz1 := hk6.size
        have hz2 := hk7.size
        have h67 : W.heap.size ≤ w7.heap.size := by simp at hz1 hz2; omega
        have hoc_blk : ∀ b o, ac = some ⟨b, o, none⟩ → w3.heap.size < b := fun b o e => by
          have := hoc.own_ge b (by rw [e]; rfl)
          simp at this hz1
          omega
        have HOC := Lib.hid hoc_blk
        clear hoc hw8 hk6 hk7 hrp hk78 hoc_blk
        go_wp2_with fail
        refine wpIn_wide.1 (wpIn_range_on (F := Fence.wide) (n := 6) rfl (by omega) (gf := 115) (lb := #[.pointer (some ⟨w7.heap.size, 0, none⟩), .pointer (some ⟨w7.heap.size + 1, 0, none⟩)]) rfl trivial (enters_of Tryz.func115 (by kernel_rfl) rfl) (encs := fun i => #[chunkV ac i]) (N := M) (X := fun k => k = w3.heap.size) (by omega)
          (chunk_it (6 - 1) (by omega) _ w8 ac M cc _ _ hcb hcn (fun e => by omega) (fun e => by omega) hcc1 hcc2 (fun h0 => by obtain ⟨b, o, e, _⟩ := hrT.at 0 (by omega); exact ⟨b, o, e⟩)) (fun _ => rfl)
          (fun i A => Arr 80 A w3.heap.size (blocks s T i).list ∧ Arr 113 A w1.heap.size keyL ∧ Kp w A ∧ A.heap[D]? = some (.deferred (some [])) ∧ Same (fun k => k = w3.heap.size) w8 A)
          (fun i A B h hb => ⟨h.1.below hb (by omega), h.2.1.below hb (by omega), Below.trans h.2.2.1 (hb.mono (by have := hK8.size; omega)), (hb.block D (by omega)).trans h.2.2.2.1, Nat.le_trans h.2.2.2.2.size hb.size, fun k hk hn => (hb.block k hk).trans (h.2.2.2.2.block k hk hn)⟩)
          ⟨hR8, hA8, hK8, hd8, Same.refl _ _⟩ ?a12 ?assign2 ?body2 ?done22)
        case assign2 =>
          intro l' i W K hK
          gi_wp2
          exact hK
        case body2 =>
          clear hR8 hA8 hcb hcn hd8
          rintro l' i W9 ⟨hR9, hA9, hK9, hd9, hsm⟩ hi
          obtain ⟨sv, hsv⟩ : ∃ x, blocks s T i = x := ⟨_, rfl⟩
          obtain ⟨s', hs'⟩ : ∃ s', blocks s T (i + 1) = s' := ⟨_, rfl⟩
          have hbs := blocks_succ s T i
          have hTl := HML.out
          have hbl : ((T.drop (64 * i)).take 64).length = 64 := by rw [List.length_take, List.length_drop]; omega
          obtain ⟨b1, o1, hac, _⟩ := hrT.at 0 (by omega)
          have hb1 := HOC.out b1 o1 hac
          have hrd9 : Rd W9 (chunkV ac i) ((T.drop (64 * i)).take 64) := rd_same (chunk_rd hrT i (by omega)) hsm (fun b o' c' e => by rw [hac] at e; simp [chunkV] at e; omega)
          rw [hs', hsv] at hbs
          rw [hs']
          rw [hsv] at hR9
          have HS := Lib.hid (behind_any sv (chunkV ac i) ((T.drop (64 * i)).take 64) w1.heap.size keyL)
          rw [← hbs] at HS
          have HB := Lib.hid hbl
          obtain ⟨c0, c1, c2, c3, c4, c5, c6, c7⟩ := hR9.cells8
          generalize chunkV ac i = cv at *
          clear hs' hsv hbs hbl hTl
          gi_wp2_with (refine ⟨trivial, ?_⟩; gi_at_call 107; refine (CallsIn.inRound l' (callsIn_wide.2 (HS.out _ hrd9 HB.out hA9 rfl))).mono ?_; rintro e wz ⟨rfl, hkz⟩; rw [agg8]; have hRz := hR9.kp hkz; obtain ⟨e0, e1, e2, e3, e4, e5, e6, e7⟩ := hRz.cells8; obtain ⟨f0, f1, f2, f3, f4, f5, f6, f7⟩ := hRz.frozen8)
          have hsz : Same (fun k => k = w3.heap.size) W9 _ := same_set8 (X := fun k => k = w3.heap.size) (Same.of_kp hkz) (g := w3.heap.size) rfl (.int .u32 (u s'.a)) (.int .u32 (u s'.b)) (.int .u32 (u s'.c)) (.int .u32 (u s'.d)) (.int .u32 (u s'.e)) (.int .u32 (u s'.f)) (.int .u32 (u s'.g)) (.int .u32 (u s'.h))
          exact ⟨hsz, hRz.set8 s', arr_other8 (hA9.kp hkz) (Ne.symm hne) _ _ _ _ _ _ _ _, below_set8 (hK9.trans hkz) hle3 _ _ _ _ _ _ _ _, (hsz.block D (by have := hsm.size; omega) (by omega)).trans hd9, hsm.trans hsz⟩
        case done22 =>
          clear hR8 hA8 hcb hcn hd8
          rintro D2 W9 hD2 ⟨hR9, hA9, hK9, hd9, hsm⟩ hd29
          have hdg := HSP.out
          rw [HSN.out] at hdg
          obtain ⟨sv, hsv⟩ : ∃ x, blocks s T M = x := ⟨_, rfl⟩
          rw [hsv] at hR9 hdg
          have HDG := Lib.hid hdg
          have hDW2 : D2 < W9.heap.size := (Array.getElem?_eq_some_iff.1 hd29).1
          have hDW9 : D < W9.heap.size := (Array.getElem?_eq_some_iff.1 hd9).1
          clear hsv hdg
          go_wp2_with (first
            | (refine wpList_load_arr Tryz.underlying80 (by kernel_rfl) rfl (.tmp 4) rfl w3.heap.size sv.list rfl hR9 rfl ?_)
            | (go_at_call 109; refine (wordBytes_any sv _).mono ?_; rintro e wz ⟨⟨vz, rfl, hoz⟩, hkz⟩))
          have hdz2 := (hkz.block D2 hDW2).trans hd29
          have hdz := (hkz.block D hDW9).trans hd9
          refine ⟨by simp, .inl ⟨_, _, rfl, run_takeDeferred hdz2, ?_⟩⟩
          refine ⟨by simp, .inl ⟨_, _, rfl, run_takeDeferred ((World.putObj_heap_other (by omega)).trans hdz), ?_⟩⟩
          refine ⟨_, results_tmp rfl _ _ _, ⟨_, rfl, ?_⟩, ?_⟩
          · rw [HDG.out]
            exact (ow_putObj (ow_putObj hoz hDW2 _) hDW9 _).mono hK9.size
          · have hw9 := hK9.size
            have hwz := hkz.size
            exact put_below (put_below (hK9.trans hkz) (by omega) (by omega) _) (by have := hkp5.size; omega) (by rw [size_put]; omega) _
    · rw [if_neg hcap] at ha'
      cases a with
      | none =>
        obtain ⟨_, _, e, _, _, h3, _⟩ := h
        cases e
        have := h3 rfl
        omega
      | some x =>
      simp only [Option.map_some] at ha'
      subst ha'
      have hM := pad_length l.length
      have hfl := fill_lt l.length
      have hpb : (pad l.length).length ≤ 100 := by omega
      have hpb2 : 0 < (pad l.length).length := by omega
      clear hM hfl
      go_wp2_with fail
      refine wp_region_noPanic ?_
      go_region_with (first
        | (go_at_call 108; refine (pad_any _ _).mono ?_; rintro e w6 ⟨⟨vp, rfl, hrp⟩, hk6⟩; rw [HPO.out] at hrp; obtain ⟨ap, cp, rfl, hp1, hp2⟩ := hrp.shape)
        | (go_at_call 38; refine (concat_any w6.heap.size 2 _ _ t1 (pad l.length) _ (pair0 _ _ _ _) (pair1 _ _ _ _) ((hcut.kp ((hK.drew.trans hk6).alloc _))) (hrp.kp ((Kp.refl _).alloc _)) (by omega) (by omega)).mono ?_; rintro e w7 ⟨⟨vc, rfl, hoc⟩, hk7⟩; rw [HTM.out] at hoc; obtain ⟨ac, cc, rfl, hcc1, hcc2⟩ := hoc.rd.shape; rw [HML.out] at hoc hcc1 ⊢)
        | (go_at_call 106; refine (chunk_any _ _ _ _).mono ?_; rintro e w8 ⟨rfl, hw8⟩))
      · refine NoPanic.normal ?_
        have hk78 : Kp w7 w8 := by rw [← hw8]; exact ((Kp.refl _).alloc _).alloc _
        have hs8 : w8.heap.size = w7.heap.size + 2 := by rw [← hw8]; simp
        have hcb : w8.cell? ⟨w7.heap.size, 0, none⟩ = some (.slice ac (64 * M) cc) := by
          rw [← hw8, cell_of_row _ _ 0 _ _ _ ((Below.heap_alloc _ _ _ (by simp)).trans (heap_alloc_new w7 _))]; rfl
        have hcn : w8.cell? ⟨w7.heap.size + 1, 0, none⟩ = some (.int .i64 64) := by
          have := heap_alloc_new (w7.alloc (.cells #[.slice ac (64 * M) cc] 25)) (.cells #[.int .i64 64] 3)
          rw [World.size_alloc, hw8] at this
          rw [cell_of_row _ _ 0 _ _ _ this]; rfl
        have hkW : Kp W w8 := ((((Kp.refl W).drew.trans hk6).alloc _).trans hk7).trans hk78
        have hrT : Rd w8 (.slice ac (64 * M) cc) T := hoc.rd.kp hk78
        have hR8 := hR.kp hkW
        have hA8 := hA.kp hkW
        have hK8 : Kp w w8 := hK.trans hkW
        have hd8 := (hkW.block D (Array.getElem?_eq_some_iff.1 hd).1).trans hd
        have hDW : D < W.heap.size := (Array.getElem?_eq_some_iff.1 hd).1
        have hW8 := hkW.size
        have hR8lt := hR8.lt
        have hA8lt := hA8.lt
        have hRW := hR.lt
        have hz1 := hk6.size
        have hz2 := hk7.size
        have h67 : W.heap.size ≤ w7.heap.size := by simp at hz1 hz2; omega
        have hoc_blk : ∀ b o, ac = some ⟨b, o, none⟩ → w3.heap.size < b := fun b o e => by
          have := hoc.own_ge b (by rw [e]; rfl)
          simp at this hz1
          omega
        have HOC := Lib.hid hoc_blk
        clear hoc hw8 hk6 hk7 hrp hk78 hoc_blk
        go_wp2_with fail
        refine wpIn_wide.1 (wpIn_range_on (F := Fence.wide) (n := 6) rfl (by omega) (gf := 115) (lb := #[.pointer (some ⟨w7.heap.size, 0, none⟩), .pointer (some ⟨w7.heap.size + 1, 0, none⟩)]) rfl trivial (enters_of Tryz.func115 (by kernel_rfl) rfl) (encs := fun i => #[chunkV ac i]) (N := M) (X := fun k => k = w3.heap.size) (by omega)
          (chunk_it (6 - 1) (by omega) _ w8 ac M cc _ _ hcb hcn (fun e => by omega) (fun e => by omega) hcc1 hcc2 (fun h0 => by obtain ⟨b, o, e, _⟩ := hrT.at 0 (by omega); exact ⟨b, o, e⟩)) (fun _ => rfl)
          (fun i A => Arr 80 A w3.heap.size (blocks s T i).list ∧ Arr 113 A w1.heap.size keyL ∧ Kp w A ∧ A.heap[D]? = some (.deferred (some [])) ∧ Same (fun k => k = w3.heap.size) w8 A)
          (fun i A B h hb => ⟨h.1.below hb (by omega), h.2.1.below hb (by omega), Below.trans h.2.2.1 (hb.mono (by have := hK8.size; omega)), (hb.block D (by omega)).trans h.2.2.2.1, Nat.le_trans h.2.2.2.2.size hb.size, fun k hk hn => (hb.block k hk).trans (h.2.2.2.2.block k hk hn)⟩)
          ⟨hR8, hA8, hK8, hd8, Same.refl _ _⟩ ?a13 ?assign3 ?body3 ?done23)
        case assign3 =>
          intro l' i W K hK
          gi_wp2
          exact hK
        case body3 =>
          clear hR8 hA8 hcb hcn hd8
          rintro l' i W9 ⟨hR9, hA9, hK9, hd9, hsm⟩ hi
          obtain ⟨sv, hsv⟩ : ∃ x, blocks s T i = x := ⟨_, rfl⟩
          obtain ⟨s', hs'⟩ : ∃ s', blocks s T (i + 1) = s' := ⟨_, rfl⟩
          have hbs := blocks_succ s T i
          have hTl := HML.out
          have hbl : ((T.drop (64 * i)).take 64).length = 64 := by rw [List.length_take, List.length_drop]; omega
          obtain ⟨b1, o1, hac, _⟩ := hrT.at 0 (by omega)
          have hb1 := HOC.out b1 o1 hac
          have hrd9 : Rd W9 (chunkV ac i) ((T.drop (64 * i)).take 64) := rd_same (chunk_rd hrT i (by omega)) hsm (fun b o' c' e => by rw [hac] at e; simp [chunkV] at e; omega)
          rw [hs', hsv] at hbs
          rw [hs']
          rw [hsv] at hR9
          have HS := Lib.hid (behind_any sv (chunkV ac i) ((T.drop (64 * i)).take 64) w1.heap.size keyL)
          rw [← hbs] at HS
          have HB := Lib.hid hbl
          obtain ⟨c0, c1, c2, c3, c4, c5, c6, c7⟩ := hR9.cells8
          generalize chunkV ac i = cv at *
          clear hs' hsv hbs hbl hTl
          gi_wp2_with (refine ⟨trivial, ?_⟩; gi_at_call 107; refine (CallsIn.inRound l' (callsIn_wide.2 (HS.out _ hrd9 HB.out hA9 rfl))).mono ?_; rintro e wz ⟨rfl, hkz⟩; rw [agg8]; have hRz := hR9.kp hkz; obtain ⟨e0, e1, e2, e3, e4, e5, e6, e7⟩ := hRz.cells8; obtain ⟨f0, f1, f2, f3, f4, f5, f6, f7⟩ := hRz.frozen8)
          have hsz : Same (fun k => k = w3.heap.size) W9 _ := same_set8 (X := fun k => k = w3.heap.size) (Same.of_kp hkz) (g := w3.heap.size) rfl (.int .u32 (u s'.a)) (.int .u32 (u s'.b)) (.int .u32 (u s'.c)) (.int .u32 (u s'.d)) (.int .u32 (u s'.e)) (.int .u32 (u s'.f)) (.int .u32 (u s'.g)) (.int .u32 (u s'.h))
          exact ⟨hsz, hRz.set8 s', arr_other8 (hA9.kp hkz) (Ne.symm hne) _ _ _ _ _ _ _ _, below_set8 (hK9.trans hkz) hle3 _ _ _ _ _ _ _ _, (hsz.block D (by have := hsm.size; omega) (by omega)).trans hd9, hsm.trans hsz⟩
        case done23 =>
          clear hR8 hA8 hcb hcn hd8
          rintro D2 W9 hD2 ⟨hR9, hA9, hK9, hd9, hsm⟩ hd29
          have hdg := HSP.out
          rw [HSN.out] at hdg
          obtain ⟨sv, hsv⟩ : ∃ x, blocks s T M = x := ⟨_, rfl⟩
          rw [hsv] at hR9 hdg
          have HDG := Lib.hid hdg
          have hDW2 : D2 < W9.heap.size := (Array.getElem?_eq_some_iff.1 hd29).1
          have hDW9 : D < W9.heap.size := (Array.getElem?_eq_some_iff.1 hd9).1
          clear hsv hdg
          go_wp2_with (first
            | (refine wpList_load_arr Tryz.underlying80 (by kernel_rfl) rfl (.tmp 4) rfl w3.heap.size sv.list rfl hR9 rfl ?_)
            | (go_at_call 109; refine (wordBytes_any sv _).mono ?_; rintro e wz ⟨⟨vz, rfl, hoz⟩, hkz⟩))
          have hdz2 := (hkz.block D2 hDW2).trans hd29
          have hdz := (hkz.block D hDW9).trans hd9
          refine ⟨by simp, .inl ⟨_, _, rfl, run_takeDeferred hdz2, ?_⟩⟩
          refine ⟨by simp, .inl ⟨_, _, rfl, run_takeDeferred ((World.putObj_heap_other (by omega)).trans hdz), ?_⟩⟩
          refine ⟨_, results_tmp rfl _ _ _, ⟨_, rfl, ?_⟩, ?_⟩
          · rw [HDG.out]
            exact (ow_putObj (ow_putObj hoz hDW2 _) hDW9 _).mono hK9.size
          · have hw9 := hK9.size
            have hwz := hkz.size
            exact put_below (put_below (hK9.trans hkz) (by omega) (by omega) _) (by have := hkp5.size; omega) (by rw [size_put]; omega) _
      · refine NoPanic.normal ?_
        have hk78 : Kp w7 w8 := by rw [← hw8]; exact ((Kp.refl _).alloc _).alloc _
        have hs8 : w8.heap.size = w7.heap.size + 2 := by rw [← hw8]; simp
        have hcb : w8.cell? ⟨w7.heap.size, 0, none⟩ = some (.slice ac (64 * M) cc) := by
          rw [← hw8, cell_of_row _ _ 0 _ _ _ ((Below.heap_alloc _ _ _ (by simp)).trans (heap_alloc_new w7 _))]; rfl
        have hcn : w8.cell? ⟨w7.heap.size + 1, 0, none⟩ = some (.int .i64 64) := by
          have := heap_alloc_new (w7.alloc (.cells #[.slice ac (64 * M) cc] 25)) (.cells #[.int .i64 64] 3)
          rw [World.size_alloc, hw8] at this
          rw [cell_of_row _ _ 0 _ _ _ this]; rfl
        have hkW : Kp W w8 := ((((Kp.refl W).drew.trans hk6).alloc _).trans hk7).trans hk78
        have hrT : Rd w8 (.slice ac (64 * M) cc) T := hoc.rd.kp hk78
        have hR8 := hR.kp hkW
        have hA8 := hA.kp hkW
        have hK8 : Kp w w8 := hK.trans hkW
        have hd8 := (hkW.block D (Array.getElem?_eq_some_iff.1 hd).1).trans hd
        have hDW : D < W.heap.size := (Array.getElem?_eq_some_iff.1 hd).1
        have hW8 := hkW.size
        have hR8lt := hR8.lt
        have hA8lt := hA8.lt
        have hRW := hR.lt
        have hz1 := hk6.size
        have hz2 := hk7.size
        have h67 : W.heap.size ≤ w7.heap.size := by simp at hz1 hz2; omega
        have hoc_blk : ∀ b o, ac = some ⟨b, o, none⟩ → w3.heap.size < b := fun b o e => by
          have := hoc.own_ge b (by rw [e]; rfl)
          simp at this hz1
          omega
        have HOC := Lib.hid hoc_blk
        clear hoc hw8 hk6 hk7 hrp hk78 hoc_blk
        go_wp2_with fail
        refine wpIn_wide.1 (wpIn_range_on (F := Fence.wide) (n := 6) rfl (by omega) (gf := 115) (lb := #[.pointer (some ⟨w7.heap.size, 0, none⟩), .pointer (some ⟨w7.heap.size + 1, 0, none⟩)]) rfl trivial (enters_of Tryz.func115 (by kernel_rfl) rfl) (encs := fun i => #[chunkV ac i]) (N := M) (X := fun k => k = w3.heap.size) (by omega)
          (chunk_it (6 - 1) (by omega) _ w8 ac M cc _ _ hcb hcn (fun e => by omega) (fun e => by omega) hcc1 hcc2 (fun h0 => by obtain ⟨b, o, e, _⟩ := hrT.at 0 (by omega); exact ⟨b, o, e⟩)) (fun _ => rfl)
          (fun i A => Arr 80 A w3.heap.size (blocks s T i).list ∧ Arr 113 A w1.heap.size keyL ∧ Kp w A ∧ A.heap[D]? = some (.deferred (some [])) ∧ Same (fun k => k = w3.heap.size) w8 A)
          (fun i A B h hb => ⟨h.1.below hb (by omega), h.2.1.below hb (by omega), Below.trans h.2.2.1 (hb.mono (by have := hK8.size; omega)), (hb.block D (by omega)).trans h.2.2.2.1, Nat.le_trans h.2.2.2.2.size hb.size, fun k hk hn => (hb.block k hk).trans (h.2.2.2.2.block k hk hn)⟩)
          ⟨hR8, hA8, hK8, hd8, Same.refl _ _⟩ ?a14 ?assign4 ?body4 ?done24)
        case assign4 =>
          intro l' i W K hK
          gi_wp2
          exact hK
        case body4 =>
          clear hR8 hA8 hcb hcn hd8
          rintro l' i W9 ⟨hR9, hA9, hK9, hd9, hsm⟩ hi
          obtain ⟨sv, hsv⟩ : ∃ x, blocks s T i = x := ⟨_, rfl⟩
          obtain ⟨s', hs'⟩ : ∃ s', blocks s T (i + 1) = s' := ⟨_, rfl⟩
          have hbs := blocks_succ s T i
          have hTl := HML.out
          have hbl : ((T.drop (64 * i)).take 64).length = 64 := by rw [List.length_take, List.length_drop]; omega
          obtain ⟨b1, o1, hac, _⟩ := hrT.at 0 (by omega)
          have hb1 := HOC.out b1 o1 hac
          have hrd9 : Rd W9 (chunkV ac i) ((T.drop (64 * i)).take 64) := rd_same (chunk_rd hrT i (by omega)) hsm (fun b o' c' e => by rw [hac] at e; simp [chunkV] at e; omega)
          rw [hs', hsv] at hbs
          rw [hs']
          rw [hsv] at hR9
          have HS := Lib.hid (behind_any sv (chunkV ac i) ((T.drop (64 * i)).take 64) w1.heap.size keyL)
          rw [← hbs] at HS
          have HB := Lib.hid hbl
          obtain ⟨c0, c1, c2, c3, c4, c5, c6, c7⟩ := hR9.cells8
          generalize chunkV ac i = cv at *
          clear hs' hsv hbs hbl hTl
          gi_wp2_with (refine ⟨trivial, ?_⟩; gi_at_call 107; refine (CallsIn.inRound l' (callsIn_wide.2 (HS.out _ hrd9 HB.out hA9 rfl))).mono ?_; rintro e wz ⟨rfl, hkz⟩; rw [agg8]; have hRz := hR9.kp hkz; obtain ⟨e0, e1, e2, e3, e4, e5, e6, e7⟩ := hRz.cells8; obtain ⟨f0, f1, f2, f3, f4, f5, f6, f7⟩ := hRz.frozen8)
          have hsz : Same (fun k => k = w3.heap.size) W9 _ := same_set8 (X := fun k => k = w3.heap.size) (Same.of_kp hkz) (g := w3.heap.size) rfl (.int .u32 (u s'.a)) (.int .u32 (u s'.b)) (.int .u32 (u s'.c)) (.int .u32 (u s'.d)) (.int .u32 (u s'.e)) (.int .u32 (u s'.f)) (.int .u32 (u s'.g)) (.int .u32 (u s'.h))
          exact ⟨hsz, hRz.set8 s', arr_other8 (hA9.kp hkz) (Ne.symm hne) _ _ _ _ _ _ _ _, below_set8 (hK9.trans hkz) hle3 _ _ _ _ _ _ _ _, (hsz.block D (by have := hsm.size; omega) (by omega)).trans hd9, hsm.trans hsz⟩
        case done24 =>
          clear hR8 hA8 hcb hcn hd8
          rintro D2 W9 hD2 ⟨hR9, hA9, hK9, hd9, hsm⟩ hd29
          have hdg := HSP.out
          rw [HSN.out] at hdg
          obtain ⟨sv, hsv⟩ : ∃ x, blocks s T M = x := ⟨_, rfl⟩
          rw [hsv] at hR9 hdg
          have HDG := Lib.hid hdg
          have hDW2 : D2 < W9.heap.size := (Array.getElem?_eq_some_iff.1 hd29).1
          have hDW9 : D < W9.heap.size := (Array.getElem?_eq_some_iff.1 hd9).1
          clear hsv hdg
          go_wp2_with (first
            | (refine wpList_load_arr Tryz.underlying80 (by kernel_rfl) rfl (.tmp 4) rfl w3.heap.size sv.list rfl hR9 rfl ?_)
            | (go_at_call 109; refine (wordBytes_any sv _).mono ?_; rintro e wz ⟨⟨vz, rfl, hoz⟩, hkz⟩))
          have hdz2 := (hkz.block D2 hDW2).trans hd29
          have hdz := (hkz.block D hDW9).trans hd9
          refine ⟨by simp, .inl ⟨_, _, rfl, run_takeDeferred hdz2, ?_⟩⟩
          refine ⟨by simp, .inl ⟨_, _, rfl, run_takeDeferred ((World.putObj_heap_other (by omega)).trans hdz), ?_⟩⟩
          refine ⟨_, results_tmp rfl _ _ _, ⟨_, rfl, ?_⟩, ?_⟩
          · rw [HDG.out]
            exact (ow_putObj (ow_putObj hoz hDW2 _) hDW9 _).mono hK9.size
          · have hw9 := hK9.size
            have hwz := hkz.size
            exact put_below (put_below (hK9.trans hkz) (by omega) (by omega) _) (by have := hkp5.size; omega) (by rw [size_put]; omega) _
theorem sum_any (v : Value) (l : List UInt8) (w : World) (h : Rd w v l) (hl : l.length ≤ 2000) :
    Calls Tryz.prog 91 #[v] w fun e w' => (∃ v', e = .returned v' ∧ Rd w' v' (digest l)) ∧ Kp w w' :=
  (sum_own v l w h hl).mono fun e w' ⟨⟨v', he, ho⟩, hk⟩ => ⟨⟨v', he, ho.rd⟩, hk⟩
end Go.Proofs.YtobldbodafaajaaGreatDoor

/- Sums and texts, as later layers want them: sum_at, sum_32, refText_at, same_at. -/
set_option linter.unusedVariables false
set_option linter.unusedSimpArgs false
namespace Go.Proofs.YtobldbodafaajaaGreatDoor
open Go.RowKit

theorem sum_at (v : Value) (l m : List UInt8) (w : World) (h : Rd w v l) (hl : l.length ≤ 2000) (hm : digest l = m) :
    Calls Tryz.prog 91 #[v] w fun e w' => (∃ v', e = .returned v' ∧ Rd w' v' m) ∧ Kp w w' := by
  have := sum_any v l w h hl
  rw [hm] at this
  exact this
theorem rd_nil (w : World) : Rd w (.slice none 0 0) [] := ⟨none, 0, rfl, Nat.le_refl _, Nat.zero_le _, fun _ => rfl, fun x hx => by cases hx⟩

theorem rd_marked (w : World) (T : TypeId) : Rd (w.alloc (.cells #[.int .u8 97, .int .u8 98, .int .u8 99] T (3, 4))) (.slice (some ⟨w.heap.size, 0, none⟩) 3 3) [97, 98, 99] := by
  refine ⟨_, 3, rfl, Nat.le_refl _, by unfold maxLen; omega, fun h => (by cases h), fun x hx i hi => ?_⟩
  cases hx
  have hg := heap_alloc_new w (.cells #[.int .u8 97, .int .u8 98, .int .u8 99] T (3, 4))
  have e : (⟨w.heap.size, 0, none⟩ : Addr).add i = ⟨w.heap.size, i, none⟩ := by unfold Addr.add; split <;> simp_all
  rw [e, cell_of_row _ _ i _ _ _ hg]
  match i, hi with
  | 0, _ => rfl
  | 1, _ => rfl
  | 2, _ => rfl

theorem digest_length (l : List UInt8) : (digest l).length = 32 := bytes_length _
theorem same_at (u v : Value) (l m : List UInt8) (b : Bool) (w : World) (h : Rd w u l) (h' : Rd w v m) (hb : decide (l = m) = b) :
    Calls Tryz.prog 12 #[u, v] w fun e w' => e = .returned (.bool b) ∧ w = w' := by
  have := same_any u v l m w h h'
  rw [hb] at this
  exact this
/-- A sum, its length known. -/
theorem sum_32 (v : Value) (l : List UInt8) (w : World) (h : Rd w v l) (hl : l.length ≤ 2000) :
    Calls Tryz.prog 91 #[v] w fun e w' => (∃ a c, e = .returned (.slice a 32 c) ∧ Rd w' (.slice a 32 c) (digest l)) ∧ Kp w w' := by
  refine (sum_any v l w h hl).mono ?_
  rintro e w' ⟨⟨v', rfl, hr⟩, hk⟩
  obtain ⟨a, c, rfl, _, _⟩ := hr.shape
  rw [digest_length] at hr ⊢
  exact ⟨⟨a, c, rfl, hr⟩, hk⟩

/-- A sum, in memory of its own. -/
theorem sum_32o (v : Value) (l : List UInt8) (w : World) (h : Rd w v l) (hl : l.length ≤ 2000) :
    Calls Tryz.prog 91 #[v] w fun e w' => (∃ a c, e = .returned (.slice a 32 c) ∧ Ow 5 w' w.heap.size (.slice a 32 c) (digest l)) ∧ Kp w w' := by
  refine (sum_own v l w h hl).mono ?_
  rintro e w' ⟨⟨v', rfl, hr⟩, hk⟩
  obtain ⟨a, c, rfl, _, _⟩ := hr.rd.shape
  rw [digest_length] at hr ⊢
  exact ⟨⟨a, c, rfl, hr⟩, hk⟩
end Go.Proofs.YtobldbodafaajaaGreatDoor

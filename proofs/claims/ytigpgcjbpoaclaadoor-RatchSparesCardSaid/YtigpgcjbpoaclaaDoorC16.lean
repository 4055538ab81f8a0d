import Derived.Test.YtigpgcjbpoaclaaDoorC14
import Derived.Test.YtigpgcjbpoaclaaDoorC15
import Derived.Deep.RegionHeld3
set_option linter.unusedVariables false
set_option linter.unusedSimpArgs false
namespace Go.Proofs.YtigpgcjbpoaclaaDoor
open Go.RowKit Go.Shelf
attribute [local go_sem] Oper.semAt_some
set_option maxRecDepth 100000 in
set_option maxHeartbeats 4000000 in
theorem keys_any (w : World) : Calls Tryd.prog 89 #[] w fun e w' => e = .returned (.agg (wcells keyL)) ∧ Kp w w' := by
  refine (callsIn_wide (n := 4)).1 ?_
  refine callsIn_of_wp_marks Tryd.func89 rfl trivial ?_ rfl
  refine wpIn_wide.2 ?_
  simp only [Tryd.ntmps89, List.append_toArray, List.size_toArray, List.length_nil, Nat.reduceSub, Array.replicate_succ, Array.replicate_zero, List.push_toArray, List.nil_append, List.cons_append]
  go_wp2
  obtain ⟨W0, hW0⟩ : ∃ W0, ((w.alloc (.cells (wcells (zeros 64)) 117)).alloc (.cells (wcells (zeros 64)) 117)).alloc (.cells #[.int .i64 0] 3) = W0 := ⟨_, rfl⟩
  change Code.wp Tryd.prog _ _ _ (((w.alloc (.cells (wcells (zeros 64)) 117)).alloc (.cells (wcells (zeros 64)) 117)).alloc (.cells #[.int .i64 0] 3))
  rw [hW0]
  have hs0 : W0.heap.size = w.heap.size + 3 := by rw [← hW0]; simp
  have hR : Arr 117 W0 w.heap.size (zeros 64) := by rw [← hW0]; exact ((Arr.new _ w _ _ rfl).alloc _).alloc _
  have hA : Arr 117 W0 (w.heap.size + 1) (zeros 64) := by
    have := (Arr.new 117 (w.alloc (.cells (wcells (zeros 64)) 117)) (wcells (zeros 64)) (zeros 64) rfl).alloc (.cells #[.int .i64 0] 3)
    rw [World.size_alloc, hW0] at this
    exact this
  have hI : W0.cell? ⟨w.heap.size + 1 + 1, 0, none⟩ = some (.int .i64 0) ∧ W0.frozen? ⟨w.heap.size + 1 + 1, 0, none⟩ = false := by
    have := heap_alloc_new ((w.alloc (.cells (wcells (zeros 64)) 117)).alloc (.cells (wcells (zeros 64)) 117)) (.cells #[.int .i64 0] 3)
    rw [World.size_alloc, World.size_alloc, hW0] at this
    exact ⟨by rw [cell_of_row W0 _ 0 _ _ _ this]; rfl, by simp [World.frozen?, this]⟩
  have hK : Kp w W0 := by rw [← hW0]; exact (((Kp.refl w).alloc _).alloc _).alloc _
  clear hW0
  refine wpIn_wide.1 (wpIn_range_on (F := Fence.wide) (n := 4) rfl (by omega) (gf := 97) (lb := #[]) rfl trivial (enters_of Tryd.func97 (by kernel_rfl) rfl) (encs := fun i => #[.int .u64 (primeAt i)]) (N := 64) (X := fun k => k = w.heap.size + 1 ∨ k = w.heap.size + 1 + 1) (by omega)
    (primes_it (4 - 1) (by omega) _ W0 (by omega)) (fun _ => rfl)
    (fun i A => Arr 117 A w.heap.size (zeros 64) ∧ Arr 117 A (w.heap.size + 1) (mix (zeros 64) keyL i) ∧ A.cell? ⟨w.heap.size + 1 + 1, 0, none⟩ = some (.int .i64 i) ∧ A.frozen? ⟨w.heap.size + 1 + 1, 0, none⟩ = false ∧ Kp w A)
    (fun i A B h hb => ⟨h.1.below hb (by omega), h.2.1.below hb (by omega), (hb.cell (p := ⟨w.heap.size + 1 + 1, 0, none⟩) (by simp; omega)).trans h.2.2.1, (hb.frozen (p := ⟨w.heap.size + 1 + 1, 0, none⟩) (by simp; omega)).trans h.2.2.2.1, Below.trans h.2.2.2.2 (hb.mono (by omega))⟩)
    ⟨hR, hA, hI.1, hI.2, hK⟩
    (fun i => { tmps := #[.pointer (some ⟨w.heap.size, 0, none⟩), .pointer (some ⟨w.heap.size + 1, 0, none⟩), .pointer (some ⟨w.heap.size + 1 + 1, 0, none⟩), .int .u64 (primeAt i), .int .u64 (primeAt i), undef, undef, undef, undef, undef, undef, undef], defers := [] }) ?assign ?body ?done)
  case assign =>
    intro l i W K hK
    gi_wp2
    exact hK
  case body =>
    rintro l i W ⟨hR, hA, hc, hf, hK⟩ hi
    obtain ⟨hp1, hp2⟩ := primeAt_small ⟨i, hi⟩
    simp only at hp1 hp2
    have hkey : keyL.getD i 0 = rootW (primeAt i) := by
      rw [← keys_eq, List.getD_eq_getElem?_getD, List.getElem?_map, List.getElem?_range hi]
      rfl
    have hlen : (mix (zeros 64) keyL i).length = 64 := by rw [mix_length (zeros 64) keyL i (by simp [zeros_length]; rfl) (by rw [zeros_length]; omega), zeros_length]
    have hset := mix_set (zeros 64) keyL i (by simp [zeros_length]; rfl) (by rw [zeros_length]; omega) _ hkey
    have ca := hA.cell i (by omega)
    have cf := hA.frozen i (by omega)
    generalize primeAt i = p at *
    have hii : (i : Int) < 64 := by omega
    have HS := Lib.hid hset
    clear hset hkey hlen
    have hmx : Tryd.prog.follows .mixedOrders = true := by kernel_rfl
    gi_wp2
    gi_region_with_o (refine ⟨trivial, ?_⟩; gi_at_call 98; refine (CallsIn.inRound l (callsIn_wide.2 (rootBits_any p _ hp1 hp2))).mono ?_; rintro e w' ⟨rfl, rfl⟩)
    all_goals gi_wp2
    all_goals exact ⟨(((Same.refl _ W).setCell ⟨w.heap.size + 1, i, none⟩ _ (.inl rfl)).setCell ⟨w.heap.size + 1 + 1, 0, none⟩ _ (.inr rfl)).drew, ((hR.other _ _ (by simp)).other _ _ (by simp; omega)).drew, ((hA.setTo i _ HS.out).other _ _ (by simp)).drew, (Below.setCell (Below.setCell hK (by simp) _) (by simp; omega) _).drew⟩
  case done =>
    rintro D W hD ⟨hR, hA, hc, hf, hK⟩ hd
    have hm : mix (zeros 64) keyL 64 = keyL := rfl
    rw [hm] at hA
    clear hm
    go_wp2_with (first
      | (refine wpList_load_arr Tryd.underlying117 (by kernel_rfl) rfl (.tmp 1) rfl (w.heap.size + 1) keyL rfl hA rfl ?_)
      | (refine wpList_store_arr' (by kernel_rfl) rfl rfl (.tmp 0) (.tmp 11) rfl w.heap.size (zeros 64) keyL rfl rfl hR (zeros_length 64) rfl ?_; intro w5 hR5 hbut))
    have hd5 := (hbut.other D (by omega)).trans hd
    refine ⟨by simp, .inl ⟨_, _, rfl, run_takeDeferred hd5, ?_⟩⟩
    exact ⟨_, results_arr Tryd.underlying117 (by kernel_rfl) rfl _ _ w.heap.size keyL rfl ((World.putObj_heap_other (by omega)).trans hR5) rfl, rfl, put_below (hbut.below hK (Nat.le_refl _)) (by omega) (by rw [hbut.size]; exact hK.size) _⟩
end Go.Proofs.YtigpgcjbpoaclaaDoor
namespace Go.Proofs.YtigpgcjbpoaclaaDoor
open Go.RowKit
set_option maxHeartbeats 1000000 in
theorem start_any (w : World) : Calls Tryd.prog 90 #[] w fun e w' => e = .returned (.agg (wcells startS.list)) ∧ Kp w w' := by
  go_enter Tryd.func90, Tryd.ntmps90
  have hA : Arr 87 (w.alloc (.cells (wcells (zeros 8)) 87)) w.heap.size (zeros 8) := Arr.new _ w _ _ rfl
  go_wp2_with ((refine wpList_store_arr' (by kernel_rfl) rfl rfl (.tmp 0) (.tmp 1) rfl w.heap.size (zeros 8) startS.list rfl rfl hA rfl rfl ?_; intro w5 hR5 hbut))
  refine bodyPost_ret (results_arr Tryd.underlying87 (by kernel_rfl) rfl _ _ w.heap.size startS.list rfl hR5 rfl) rfl ?_
  exact ⟨rfl, hbut.below ((Kp.refl w).alloc _) (Nat.le_refl _)⟩
section
variable {P : Program}
end
theorem Arr.cells8 {T : TypeId} {w : World} {g : Nat} {s : S8} (h : Arr T w g s.list) :
    w.cell? ⟨g, 0, none⟩ = some (.int .u32 (u s.a)) ∧ w.cell? ⟨g, 1, none⟩ = some (.int .u32 (u s.b)) ∧ w.cell? ⟨g, 2, none⟩ = some (.int .u32 (u s.c)) ∧ w.cell? ⟨g, 3, none⟩ = some (.int .u32 (u s.d)) ∧
    w.cell? ⟨g, 4, none⟩ = some (.int .u32 (u s.e)) ∧ w.cell? ⟨g, 5, none⟩ = some (.int .u32 (u s.f)) ∧ w.cell? ⟨g, 6, none⟩ = some (.int .u32 (u s.g)) ∧ w.cell? ⟨g, 7, none⟩ = some (.int .u32 (u s.h)) :=
  ⟨h.cell 0 (Nat.lt_of_sub_eq_succ rfl), h.cell 1 (Nat.lt_of_sub_eq_succ rfl), h.cell 2 (Nat.lt_of_sub_eq_succ rfl), h.cell 3 (Nat.lt_of_sub_eq_succ rfl), h.cell 4 (Nat.lt_of_sub_eq_succ rfl), h.cell 5 (Nat.lt_of_sub_eq_succ rfl), h.cell 6 (Nat.lt_of_sub_eq_succ rfl), h.cell 7 (Nat.lt_of_sub_eq_succ rfl)⟩
theorem Arr.frozen8 {T : TypeId} {w : World} {g : Nat} {s : S8} (h : Arr T w g s.list) :
    w.frozen? ⟨g, 0, none⟩ = false ∧ w.frozen? ⟨g, 1, none⟩ = false ∧ w.frozen? ⟨g, 2, none⟩ = false ∧ w.frozen? ⟨g, 3, none⟩ = false ∧ w.frozen? ⟨g, 4, none⟩ = false ∧ w.frozen? ⟨g, 5, none⟩ = false ∧ w.frozen? ⟨g, 6, none⟩ = false ∧ w.frozen? ⟨g, 7, none⟩ = false :=
  ⟨h.frozen 0 (Nat.lt_of_sub_eq_succ rfl), h.frozen 1 (Nat.lt_of_sub_eq_succ rfl), h.frozen 2 (Nat.lt_of_sub_eq_succ rfl), h.frozen 3 (Nat.lt_of_sub_eq_succ rfl), h.frozen 4 (Nat.lt_of_sub_eq_succ rfl), h.frozen 5 (Nat.lt_of_sub_eq_succ rfl), h.frozen 6 (Nat.lt_of_sub_eq_succ rfl), h.frozen 7 (Nat.lt_of_sub_eq_succ rfl)⟩
theorem Arr.set8 {T : TypeId} {w : World} {g : Nat} {s : S8} (h : Arr T w g s.list) (r : S8) :
    Arr T ((((((((w.setCell ⟨g, 0, none⟩ (.int .u32 (u r.a))).setCell ⟨g, 1, none⟩ (.int .u32 (u r.b))).setCell ⟨g, 2, none⟩ (.int .u32 (u r.c))).setCell ⟨g, 3, none⟩ (.int .u32 (u r.d))).setCell ⟨g, 4, none⟩ (.int .u32 (u r.e))).setCell ⟨g, 5, none⟩ (.int .u32 (u r.f))).setCell ⟨g, 6, none⟩ (.int .u32 (u r.g))).setCell ⟨g, 7, none⟩ (.int .u32 (u r.h))) g r.list :=
  (((((((h.set 0 r.a _ rfl).set 1 r.b _ rfl).set 2 r.c _ rfl).set 3 r.d _ rfl).set 4 r.e _ rfl).set 5 r.f _ rfl).set 6 r.g _ rfl).set 7 r.h _ rfl
theorem below_set8 {B : Nat} {a w : World} (h : Below B a w) {g : Nat} (hg : B ≤ g) (v0 v1 v2 v3 v4 v5 v6 v7 : Value) :
    Below B a ((((((((w.setCell ⟨g, 0, none⟩ v0).setCell ⟨g, 1, none⟩ v1).setCell ⟨g, 2, none⟩ v2).setCell ⟨g, 3, none⟩ v3).setCell ⟨g, 4, none⟩ v4).setCell ⟨g, 5, none⟩ v5).setCell ⟨g, 6, none⟩ v6).setCell ⟨g, 7, none⟩ v7) :=
  (((((((h.setCell (p := ⟨g, 0, none⟩) hg _).setCell (p := ⟨g, 1, none⟩) hg _).setCell (p := ⟨g, 2, none⟩) hg _).setCell (p := ⟨g, 3, none⟩) hg _).setCell (p := ⟨g, 4, none⟩) hg _).setCell (p := ⟨g, 5, none⟩) hg _).setCell (p := ⟨g, 6, none⟩) hg _).setCell (p := ⟨g, 7, none⟩) hg _
theorem agg8 (r : S8) : Value.agg (wcells r.list) = .agg #[.int .u32 (u r.a), .int .u32 (u r.b), .int .u32 (u r.c), .int .u32 (u r.d), .int .u32 (u r.e), .int .u32 (u r.f), .int .u32 (u r.g), .int .u32 (u r.h)] := rfl
end Go.Proofs.YtigpgcjbpoaclaaDoor

import Derived.Test.YtigpgcjbpoaclaaGreatDoorB9
import Derived.Test.YtigpgcjbpoaclaaGreatDoorB11
import Derived.Test.YtigpgcjbpoaclaaGreatDoorB12
import Derived.Deep.RegionHeld3
set_option linter.unusedVariables false
set_option linter.unusedSimpArgs false
namespace Go.Proofs.YtigpgcjbpoaclaaGreatDoor
open Go.RowKit Go.Shelf
attribute [local go_sem] Oper.semAt_some
set_option maxRecDepth 100000 in
set_option maxHeartbeats 4000000 in
theorem keys_any (w : World) : Calls Tryz.prog 101 #[] w fun e w' => e = .returned (.agg (wcells keyL)) ∧ Kp w w' := by
  refine (callsIn_wide (n := 4)).1 ?_
  refine callsIn_of_wp_marks Tryz.func101 rfl trivial ?_ rfl
  refine wpIn_wide.2 ?_
  simp only [Tryz.ntmps101, List.append_toArray, List.size_toArray, List.length_nil, Nat.reduceSub, Array.replicate_succ, Array.replicate_zero, List.push_toArray, List.nil_append, List.cons_append]
  go_wp2
  obtain ⟨W0, hW0⟩ : ∃ W0, ((w.alloc (.cells (wcells (zeros 64)) 125)).alloc (.cells (wcells (zeros 64)) 125)).alloc (.cells #[.int .i64 0] 3) = W0 := ⟨_, rfl⟩
  change Code.wp Tryz.prog _ _ _ (((w.alloc (.cells (wcells (zeros 64)) 125)).alloc (.cells (wcells (zeros 64)) 125)).alloc (.cells #[.int .i64 0] 3))
  rw [hW0]
  have hs0 : W0.heap.size = w.heap.size + 3 := by rw [← hW0]; simp
  have hR : Arr 125 W0 w.heap.size (zeros 64) := by rw [← hW0]; exact ((Arr.new _ w _ _ rfl).alloc _).alloc _
  have hA : Arr 125 W0 (w.heap.size + 1) (zeros 64) := by
    have := (Arr.new 125 (w.alloc (.cells (wcells (zeros 64)) 125)) (wcells (zeros 64)) (zeros 64) rfl).alloc (.cells #[.int .i64 0] 3)
    rw [World.size_alloc, hW0] at this
    exact this
  have hI : W0.cell? ⟨w.heap.size + 1 + 1, 0, none⟩ = some (.int .i64 0) ∧ W0.frozen? ⟨w.heap.size + 1 + 1, 0, none⟩ = false := by
    have := heap_alloc_new ((w.alloc (.cells (wcells (zeros 64)) 125)).alloc (.cells (wcells (zeros 64)) 125)) (.cells #[.int .i64 0] 3)
    rw [World.size_alloc, World.size_alloc, hW0] at this
    exact ⟨by rw [cell_of_row W0 _ 0 _ _ _ this]; rfl, by simp [World.frozen?, this]⟩
  have hK : Kp w W0 := by rw [← hW0]; exact (((Kp.refl w).alloc _).alloc _).alloc _
  clear hW0
  refine wpIn_wide.1 (wpIn_range_on (F := Fence.wide) (n := 4) rfl (by omega) (gf := 109) (lb := #[]) rfl trivial (enters_of Tryz.func109 (by kernel_rfl) rfl) (encs := fun i => #[.int .u64 (primeAt i)]) (N := 64) (X := fun k => k = w.heap.size + 1 ∨ k = w.heap.size + 1 + 1) (by omega)
    (primes_it (4 - 1) (by omega) _ W0 (by omega)) (fun _ => rfl)
    (fun i A => Arr 125 A w.heap.size (zeros 64) ∧ Arr 125 A (w.heap.size + 1) (mix (zeros 64) keyL i) ∧ A.cell? ⟨w.heap.size + 1 + 1, 0, none⟩ = some (.int .i64 i) ∧ A.frozen? ⟨w.heap.size + 1 + 1, 0, none⟩ = false ∧ Kp w A)
    (fun i A B h hb => ⟨h.1.below hb (by omega), h.2.1.below hb (by omega), (hb.cell (p := ⟨w.heap.size + 1 + 1, 0, none⟩) (by simp; omega)).trans h.2.2.1, (hb.frozen (p := ⟨w.heap.size + 1 + 1, 0, none⟩) (by simp; omega)).trans h.2.2.2.1, Below.trans h.2.2.2.2 (hb.mono (by omega))⟩)
    ⟨hR, hA, hI.1, hI.2, hK⟩
    (fun i => { tmps := #[.pointer (some ⟨w.heap.size, 0, none⟩), .pointer (some ⟨w.heap.size + 1, 0, none⟩), .pointer (some ⟨w.heap.size + 1 + 1, 0, none⟩), .int .u64 (primeAt i), .int .u64 (primeAt i), undef, undef, undef, undef, undef, undef, undef], defers := [] }) ?assign ?body ?done)
  case assign =>
    intro l i W K hK
    gi_wp2
    exact hK
  case body =>
    rintro l i W ⟨hR, hA, hc, hf, hK⟩ hi
    obtain ⟨hp1, hp2⟩ := primeAt_small ⟨i, hi⟩
    simp only at hp1 hp2
    have hkey : keyL.getD i 0 = rootW (primeAt i) := by
      rw [← keys_eq, List.getD_eq_getElem?_getD, List.getElem?_map, List.getElem?_range hi]
      rfl
    have hlen : (mix (zeros 64) keyL i).length = 64 := by rw [mix_length (zeros 64) keyL i (by simp [zeros_length]; rfl) (by rw [zeros_length]; omega), zeros_length]
    have hset := mix_set (zeros 64) keyL i (by simp [zeros_length]; rfl) (by rw [zeros_length]; omega) _ hkey
    have ca := hA.cell i (by omega)
    have cf := hA.frozen i (by omega)
    generalize primeAt i = p at *
    have hii : (i : Int) < 64 := by omega
    have HS := Lib.hid hset
    clear hset hkey hlen
    have hmx : Tryz.prog.follows .mixedOrders = true := by kernel_rfl
    gi_wp2
    gi_region_with_o (refine ⟨trivial, ?_⟩; gi_at_call 110; refine (CallsIn.inRound l (callsIn_wide.2 (rootBits_any p _ hp1 hp2))).mono ?_; rintro e w' ⟨rfl, rfl⟩)
    all_goals gi_wp2
    all_goals exact ⟨(((Same.refl _ W).setCell ⟨w.heap.size + 1, i, none⟩ _ (.inl rfl)).setCell ⟨w.heap.size + 1 + 1, 0, none⟩ _ (.inr rfl)).drew, ((hR.other _ _ (by simp)).other _ _ (by simp; omega)).drew, ((hA.setTo i _ HS.out).other _ _ (by simp)).drew, (Below.setCell (Below.setCell hK (by simp) _) (by simp; omega) _).drew⟩
  case done =>
    rintro D W hD ⟨hR, hA, hc, hf, hK⟩ hd
    have hm : mix (zeros 64) keyL 64 = keyL := rfl
    rw [hm] at hA
    clear hm
    go_wp2_with (first
      | (refine wpList_load_arr Tryz.underlying125 (by kernel_rfl) rfl (.tmp 1) rfl (w.heap.size + 1) keyL rfl hA rfl ?_)
      | (refine wpList_store_arr' (by kernel_rfl) rfl rfl (.tmp 0) (.tmp 11) rfl w.heap.size (zeros 64) keyL rfl rfl hR (zeros_length 64) rfl ?_; intro w5 hR5 hbut))
    have hd5 := (hbut.other D (by omega)).trans hd
    refine ⟨by simp, .inl ⟨_, _, rfl, run_takeDeferred hd5, ?_⟩⟩
    exact ⟨_, results_arr Tryz.underlying125 (by kernel_rfl) rfl _ _ w.heap.size keyL rfl ((World.putObj_heap_other (by omega)).trans hR5) rfl, rfl, put_below (hbut.below hK (Nat.le_refl _)) (by omega) (by rw [hbut.size]; exact hK.size) _⟩
end Go.Proofs.YtigpgcjbpoaclaaGreatDoor
namespace Go.Proofs.YtigpgcjbpoaclaaGreatDoor
open Go.RowKit
set_option maxHeartbeats 1000000 in
theorem start_any (w : World) : Calls Tryz.prog 102 #[] w fun e w' => e = .returned (.agg (wcells startS.list)) ∧ Kp w w' := by
  go_enter Tryz.func102, Tryz.ntmps102
  have hA : Arr 119 (w.alloc (.cells (wcells (zeros 8)) 119)) w.heap.size (zeros 8) := Arr.new _ w _ _ rfl
  go_wp2_with ((refine wpList_store_arr' (by kernel_rfl) rfl rfl (.tmp 0) (.tmp 1) rfl w.heap.size (zeros 8) startS.list rfl rfl hA rfl rfl ?_; intro w5 hR5 hbut))
  refine bodyPost_ret (results_arr Tryz.underlying119 (by kernel_rfl) rfl _ _ w.heap.size startS.list rfl hR5 rfl) rfl ?_
  exact ⟨rfl, hbut.below ((Kp.refl w).alloc _) (Nat.le_refl _)⟩
set_option maxHeartbeats 1000000 in
theorem refStart_any (w : World) : Calls Tryz.prog 94 #[] w fun e w' => e = .returned (.agg (wcells startS.list)) ∧ Kp w w' := by
  go_enter Tryz.func94, Tryz.ntmps94
  have hA : Arr 119 (w.alloc (.cells (wcells (zeros 8)) 119)) w.heap.size (zeros 8) := Arr.new _ w _ _ rfl
  go_wp2_with ((refine wpList_store_arr' (by kernel_rfl) rfl rfl (.tmp 0) (.tmp 1) rfl w.heap.size (zeros 8) startS.list rfl rfl hA rfl rfl ?_; intro w5 hR5 hbut))
  refine bodyPost_ret (results_arr Tryz.underlying119 (by kernel_rfl) rfl _ _ w.heap.size startS.list rfl hR5 rfl) rfl ?_
  exact ⟨rfl, hbut.below ((Kp.refl w).alloc _) (Nat.le_refl _)⟩
set_option maxRecDepth 100000 in
set_option maxHeartbeats 1000000 in
theorem refKeys_any (w : World) : Calls Tryz.prog 93 #[] w fun e w' => (∃ g, e = .returned (.slice (some ⟨g, 0, none⟩) 64 64) ∧ Arr 99 w' g keyL ∧ w.heap.size ≤ g) ∧ Kp w w' := by
  go_enter Tryz.func93, Tryz.ntmps93
  go_wp2
  go_ret
  exact ⟨⟨w.heap.size, rfl, Arr.new _ w _ _ rfl, Nat.le_refl _⟩, (Kp.refl w).alloc _⟩
section
variable {P : Program}
end
theorem Arr.cells8 {T : TypeId} {w : World} {g : Nat} {s : S8} (h : Arr T w g s.list) :
    w.cell? ⟨g, 0, none⟩ = some (.int .u32 (u s.a)) ∧ w.cell? ⟨g, 1, none⟩ = some (.int .u32 (u s.b)) ∧ w.cell? ⟨g, 2, none⟩ = some (.int .u32 (u s.c)) ∧ w.cell? ⟨g, 3, none⟩ = some (.int .u32 (u s.d)) ∧
    w.cell? ⟨g, 4, none⟩ = some (.int .u32 (u s.e)) ∧ w.cell? ⟨g, 5, none⟩ = some (.int .u32 (u s.f)) ∧ w.cell? ⟨g, 6, none⟩ = some (.int .u32 (u s.g)) ∧ w.cell? ⟨g, 7, none⟩ = some (.int .u32 (u s.h)) :=
  ⟨h.cell 0 (Nat.lt_of_sub_eq_succ rfl), h.cell 1 (Nat.lt_of_sub_eq_succ rfl), h.cell 2 (Nat.lt_of_sub_eq_succ rfl), h.cell 3 (Nat.lt_of_sub_eq_succ rfl), h.cell 4 (Nat.lt_of_sub_eq_succ rfl), h.cell 5 (Nat.lt_of_sub_eq_succ rfl), h.cell 6 (Nat.lt_of_sub_eq_succ rfl), h.cell 7 (Nat.lt_of_sub_eq_succ rfl)⟩
theorem Arr.frozen8 {T : TypeId} {w : World} {g : Nat} {s : S8} (h : Arr T w g s.list) :
    w.frozen? ⟨g, 0, none⟩ = false ∧ w.frozen? ⟨g, 1, none⟩ = false ∧ w.frozen? ⟨g, 2, none⟩ = false ∧ w.frozen? ⟨g, 3, none⟩ = false ∧ w.frozen? ⟨g, 4, none⟩ = false ∧ w.frozen? ⟨g, 5, none⟩ = false ∧ w.frozen? ⟨g, 6, none⟩ = false ∧ w.frozen? ⟨g, 7, none⟩ = false :=
  ⟨h.frozen 0 (Nat.lt_of_sub_eq_succ rfl), h.frozen 1 (Nat.lt_of_sub_eq_succ rfl), h.frozen 2 (Nat.lt_of_sub_eq_succ rfl), h.frozen 3 (Nat.lt_of_sub_eq_succ rfl), h.frozen 4 (Nat.lt_of_sub_eq_succ rfl), h.frozen 5 (Nat.lt_of_sub_eq_succ rfl), h.frozen 6 (Nat.lt_of_sub_eq_succ rfl), h.frozen 7 (Nat.lt_of_sub_eq_succ rfl)⟩
theorem Arr.set8 {T : TypeId} {w : World} {g : Nat} {s : S8} (h : Arr T w g s.list) (r : S8) :
    Arr T ((((((((w.setCell ⟨g, 0, none⟩ (.int .u32 (u r.a))).setCell ⟨g, 1, none⟩ (.int .u32 (u r.b))).setCell ⟨g, 2, none⟩ (.int .u32 (u r.c))).setCell ⟨g, 3, none⟩ (.int .u32 (u r.d))).setCell ⟨g, 4, none⟩ (.int .u32 (u r.e))).setCell ⟨g, 5, none⟩ (.int .u32 (u r.f))).setCell ⟨g, 6, none⟩ (.int .u32 (u r.g))).setCell ⟨g, 7, none⟩ (.int .u32 (u r.h))) g r.list :=
  (((((((h.set 0 r.a _ rfl).set 1 r.b _ rfl).set 2 r.c _ rfl).set 3 r.d _ rfl).set 4 r.e _ rfl).set 5 r.f _ rfl).set 6 r.g _ rfl).set 7 r.h _ rfl
theorem below_set8 {B : Nat} {a w : World} (h : Below B a w) {g : Nat} (hg : B ≤ g) (v0 v1 v2 v3 v4 v5 v6 v7 : Value) :
    Below B a ((((((((w.setCell ⟨g, 0, none⟩ v0).setCell ⟨g, 1, none⟩ v1).setCell ⟨g, 2, none⟩ v2).setCell ⟨g, 3, none⟩ v3).setCell ⟨g, 4, none⟩ v4).setCell ⟨g, 5, none⟩ v5).setCell ⟨g, 6, none⟩ v6).setCell ⟨g, 7, none⟩ v7) :=
  (((((((h.setCell (p := ⟨g, 0, none⟩) hg _).setCell (p := ⟨g, 1, none⟩) hg _).setCell (p := ⟨g, 2, none⟩) hg _).setCell (p := ⟨g, 3, none⟩) hg _).setCell (p := ⟨g, 4, none⟩) hg _).setCell (p := ⟨g, 5, none⟩) hg _).setCell (p := ⟨g, 6, none⟩) hg _).setCell (p := ⟨g, 7, none⟩) hg _
theorem agg8 (r : S8) : Value.agg (wcells r.list) = .agg #[.int .u32 (u r.a), .int .u32 (u r.b), .int .u32 (u r.c), .int .u32 (u r.d), .int .u32 (u r.e), .int .u32 (u r.f), .int .u32 (u r.g), .int .u32 (u r.h)] := rfl
def bytesTo (s : S8) (i : Nat) : List UInt8 := (s.list.take i).flatMap bytes4
theorem bytesTo_succ (s : S8) (i : Nat) (h : i < 8) : bytesTo s (i + 1) = bytesTo s i ++ bytes4 (s.list.getD i 0) := by
  unfold bytesTo
  have h' : i < s.list.length := h
  rw [List.take_succ_eq_append_getElem h', List.flatMap_append, List.getD_eq_getElem?_getD, List.getElem?_eq_getElem h']
  simp
theorem bytesTo_length (s : S8) : ∀ i, i ≤ 8 → (bytesTo s i).length = 4 * i
  | 0, _ => rfl
  | i + 1, h => by rw [bytesTo_succ s i h, List.length_append, bytesTo_length s i (by omega)]; simp [bytes4]; omega
theorem bytes_length (s : S8) : s.bytes.length = 32 := bytesTo_length s 8 (by omega)
theorem bytes4_parts (x : UInt32) : ∃ b0 b1 b2 b3 : UInt8, bytes4 x = [b0, b1, b2, b3] ∧ IntKind.u8.wrap (u x / 16777216) = (b0.toNat : Int) ∧ IntKind.u8.wrap (u x / 65536) = (b1.toNat : Int) ∧ IntKind.u8.wrap (u x / 256) = (b2.toNat : Int) ∧ IntKind.u8.wrap (u x) = (b3.toNat : Int) := by
  refine ⟨_, _, _, _, rfl, ?_, ?_, ?_, ?_⟩ <;> rw [IntKind.wrap_u8] <;> unfold u <;> simp
set_option maxRecDepth 100000 in
set_option maxHeartbeats 1000000 in
theorem wordBytes_any (s : S8) (w : World) :
    Calls Tryz.prog 106 #[.agg (wcells s.list)] w fun e w' => (∃ v, e = .returned v ∧ Ow 5 w' w.heap.size v s.bytes) ∧ Kp w w' := by
  have U := u8
  obtain ⟨i0, hi, hz0, hz1, hz2⟩ := info_parts Tryz.info5
  have HBB : i0.bytes = 1 := hz2
  have HB3 := Lib.hid HBB
  clear HBB hz2
  have hB0 : Arr 119 (w.alloc (.cells (wcells s.list) 119)) w.heap.size s.list := Arr.new _ w _ s.list rfl
  go_enter Tryz.func106, Tryz.ntmps106
  go_wp2_with (first
    | (at_make; refine wpList_make_own _ rfl _ _ 22 rfl w.heap.size 5 i0 (.int .u8 0) 1 Tryz.underlying22 hi hz0 hz1 _ _ _ 32 rfl rfl rfl ?b1 ?b2 ?b3 ?_; rotate_right; intro w1 hown hgr; have hkw : Kp (w.alloc (.cells (wcells s.list) 119)) w1 := Below.grown (Below.refl _ _) hgr (Nat.le_refl _) (fun k e => by cases e); have hB1 := hB0.kp hkw; clear hgr)
    | (refine wpList_load_arr Tryz.underlying119 (by kernel_rfl) rfl (.tmp 1) rfl w.heap.size s.list rfl hB1 rfl ?_))
  case b1 => rw [HB3.out]; omega
  case b2 => unfold maxLen; omega
  case b3 => simp
  have ho1 : Ow 5 w1 w.heap.size (.slice (some ⟨w.heap.size + 1, 0, none⟩) 0 32) [] := by
    rw [World.size_alloc] at hown
    exact hown
  have hk1 : Kp w w1 := ((Kp.refl w).alloc _).trans hkw
  clear hown hkw hB0 hB1 hz0 hz1 hi HB3
  go_loopw [3, 8] (fun v i wr => ∃ k : Nat, k ≤ 8 ∧ i = .int .i64 k ∧ Ow 5 wr w.heap.size v (bytesTo s k) ∧ Kp w wr) (fun _ i _ => 8 - (intOf i).toNat)
  case atStart => exact ⟨0, by omega, rfl, ho1, hk1⟩
  case round =>
    clear ho1 hk1
    obtain ⟨k, hk, rfl, hown, hkp⟩ := hrel
    by_cases hlt : k < 8
    · have hidx : ∀ W, (Instr.index 119 (.agg (wcells s.list)) (.int .i64 k)).run Tryz.prog W = .ok (.int .u32 (u (s.list.getD k 0))) W := fun W => by
        obtain ⟨ie, hie, hsz⟩ := u32_info
        exact run_index_arr W 119 99 8 ie _ Tryz.underlying119 hie hsz Tryz.underlying99 rfl _ rfl k hlt _ (wcells_get s.list k hlt)
      have hs := bytesTo_succ s k hlt
      have hlen := bytesTo_length s k (by omega)
      generalize s.list.getD k 0 = x at *
      obtain ⟨b0, b1, b2, b3, h4, v0, v1, v2, v3⟩ := bytes4_parts x
      rw [h4] at hs
      generalize bytesTo s k = L at *
      have HS := Lib.hid hs
      have HL := Lib.hid hlen
      clear hs hlen h4
      generalize wcells s.list = cs at *
      go_wp2_with (at_builtin; refine wpList_append_ow U rfl _ _ rfl w.heap.size _ _ rfl (hown.kp ((Kp.refl _).alloc _)) _ [b0, b1, b2, b3] rfl (Ow.lit _ 5 0 4 _ _ (Nat.zero_le _) rfl (by decide) rfl).rd ?c1 ?c2 ?_; rotate_right; intro v' w2 ho2 hg _)
      case c1 => rw [HL.out]; simp; omega
      case c2 => have := hkp.size; simp; omega
      go_roundw
      case rel => exact ⟨k + 1, by omega, by go_num, by rw [HS.out]; exact ho2, Kp.grown (hkp.alloc _) hg hown.own_ge⟩
      case measure => simp [intOf]; omega
    · obtain rfl : k = 8 := by omega
      go_wp2_with fail
      go_ret
      exact ⟨⟨_, rfl, hown⟩, hkp⟩
end Go.Proofs.YtigpgcjbpoaclaaGreatDoor

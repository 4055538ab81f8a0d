/- sha.Block; the document's own; the document's Key. -/
import Derived.Test.YtgialijhnghdgaaCalls
import Derived.Deep.RegionHeld3
set_option linter.unusedVariables false
set_option linter.unusedSimpArgs false
namespace Go.Proofs.Ytgialijhnghdgaa
open Go.RowKit

set_option maxHeartbeats 1000000 in
theorem refKey_any (i : Int) (w : World) : Calls Try.prog 19 #[.int .i64 i] w fun e w' => e = .returned (.int .u32 (u (keyOf i))) ∧ Kp w w' := by
  by_cases h0 : 0 ≤ i
  · by_cases h1 : i ≤ 63
    · have hk : keyOf i = keyL.getD i.toNat 0 := if_pos ⟨h0, by omega⟩
      obtain ⟨k, rfl⟩ := Int.eq_ofNat_of_zero_le h0
      rw [Int.toNat_natCast] at hk
      have HK := Lib.hid hk
      clear hk
      go_enter Try.func19, Try.ntmps19
      go_wp2_with fail
      refine (refKeys_any _).mono ?_
      rintro e w1 ⟨⟨g, rfl, hA, _⟩, hkp⟩
      have c := hA.cell k (by have : keyL.length = 64 := rfl; omega)
      generalize keyL.getD k 0 = x at *
      go_wp2_with fail
      go_ret
      exact ⟨by rw [HK.out]; rfl, hkp⟩
    · have hk : keyOf i = 0 := if_neg (by omega)
      rw [hk]
      go_enter Try.func19, Try.ntmps19
      go_wp2
      go_ret
      exact ⟨rfl, Kp.refl _⟩
  · have hk : keyOf i = 0 := if_neg (by omega)
    rw [hk]
    go_enter Try.func19, Try.ntmps19
    go_wp2
    go_ret
    exact ⟨rfl, Kp.refl _⟩

section
variable {P : Program}
/-- An array in memory, and a number beside it. -/
theorem results_arr_int {T ty e : TypeId} {n : Nat} (hu : P.underlying ty = some (.array n e)) (hi : (P.info? ty).map (·.size) = some n) {fn : Func} {p q : Tmp} (hr : fn.results = #[.cell p ty, .tmp q]) (tmps : Array Value) (w : World) (g : Nat) (l : List UInt32) (v : Value)
    (hp : tmps.getD p undef = .pointer (some ⟨g, 0, none⟩)) (hq : tmps.getD q undef = v) (h : Arr T w g l) (hl : l.length = n) : (results fn tmps).run P w = .ok (.tuple #[.agg (wcells l), v]) w := by
  have hp' : tmps[p]?.getD undef = .pointer (some ⟨g, 0, none⟩) := by simpa using hp
  have hq' : tmps[q]?.getD undef = v := by simpa using hq
  simp [results, hr, hp', hq', asAddr, run_loadVar_row w g T ty (wcells l) (0, 0) _ h hu rfl (by rw [hi, wcells_size, hl])]
end

/-- Eight words in memory, cell by cell. -/
theorem Arr.cells8 {T : TypeId} {w : World} {g : Nat} {s : S8} (h : Arr T w g s.list) :
    w.cell? ⟨g, 0, none⟩ = some (.int .u32 (u s.a)) ∧ w.cell? ⟨g, 1, none⟩ = some (.int .u32 (u s.b)) ∧ w.cell? ⟨g, 2, none⟩ = some (.int .u32 (u s.c)) ∧ w.cell? ⟨g, 3, none⟩ = some (.int .u32 (u s.d)) ∧
    w.cell? ⟨g, 4, none⟩ = some (.int .u32 (u s.e)) ∧ w.cell? ⟨g, 5, none⟩ = some (.int .u32 (u s.f)) ∧ w.cell? ⟨g, 6, none⟩ = some (.int .u32 (u s.g)) ∧ w.cell? ⟨g, 7, none⟩ = some (.int .u32 (u s.h)) :=
  ⟨h.cell 0 (Nat.lt_of_sub_eq_succ rfl), h.cell 1 (Nat.lt_of_sub_eq_succ rfl), h.cell 2 (Nat.lt_of_sub_eq_succ rfl), h.cell 3 (Nat.lt_of_sub_eq_succ rfl), h.cell 4 (Nat.lt_of_sub_eq_succ rfl), h.cell 5 (Nat.lt_of_sub_eq_succ rfl), h.cell 6 (Nat.lt_of_sub_eq_succ rfl), h.cell 7 (Nat.lt_of_sub_eq_succ rfl)⟩
theorem Arr.frozen8 {T : TypeId} {w : World} {g : Nat} {s : S8} (h : Arr T w g s.list) :
    w.frozen? ⟨g, 0, none⟩ = false ∧ w.frozen? ⟨g, 1, none⟩ = false ∧ w.frozen? ⟨g, 2, none⟩ = false ∧ w.frozen? ⟨g, 3, none⟩ = false ∧ w.frozen? ⟨g, 4, none⟩ = false ∧ w.frozen? ⟨g, 5, none⟩ = false ∧ w.frozen? ⟨g, 6, none⟩ = false ∧ w.frozen? ⟨g, 7, none⟩ = false :=
  ⟨h.frozen 0 (Nat.lt_of_sub_eq_succ rfl), h.frozen 1 (Nat.lt_of_sub_eq_succ rfl), h.frozen 2 (Nat.lt_of_sub_eq_succ rfl), h.frozen 3 (Nat.lt_of_sub_eq_succ rfl), h.frozen 4 (Nat.lt_of_sub_eq_succ rfl), h.frozen 5 (Nat.lt_of_sub_eq_succ rfl), h.frozen 6 (Nat.lt_of_sub_eq_succ rfl), h.frozen 7 (Nat.lt_of_sub_eq_succ rfl)⟩
/-- Eight words laid, one by one. -/
theorem Arr.set8 {T : TypeId} {w : World} {g : Nat} {s : S8} (h : Arr T w g s.list) (r : S8) :
    Arr T ((((((((w.setCell ⟨g, 0, none⟩ (.int .u32 (u r.a))).setCell ⟨g, 1, none⟩ (.int .u32 (u r.b))).setCell ⟨g, 2, none⟩ (.int .u32 (u r.c))).setCell ⟨g, 3, none⟩ (.int .u32 (u r.d))).setCell ⟨g, 4, none⟩ (.int .u32 (u r.e))).setCell ⟨g, 5, none⟩ (.int .u32 (u r.f))).setCell ⟨g, 6, none⟩ (.int .u32 (u r.g))).setCell ⟨g, 7, none⟩ (.int .u32 (u r.h))) g r.list :=
  (((((((h.set 0 r.a _ rfl).set 1 r.b _ rfl).set 2 r.c _ rfl).set 3 r.d _ rfl).set 4 r.e _ rfl).set 5 r.f _ rfl).set 6 r.g _ rfl).set 7 r.h _ rfl
theorem below_set8 {B : Nat} {a w : World} (h : Below B a w) {g : Nat} (hg : B ≤ g) (v0 v1 v2 v3 v4 v5 v6 v7 : Value) :
    Below B a ((((((((w.setCell ⟨g, 0, none⟩ v0).setCell ⟨g, 1, none⟩ v1).setCell ⟨g, 2, none⟩ v2).setCell ⟨g, 3, none⟩ v3).setCell ⟨g, 4, none⟩ v4).setCell ⟨g, 5, none⟩ v5).setCell ⟨g, 6, none⟩ v6).setCell ⟨g, 7, none⟩ v7) :=
  (((((((h.setCell (p := ⟨g, 0, none⟩) hg _).setCell (p := ⟨g, 1, none⟩) hg _).setCell (p := ⟨g, 2, none⟩) hg _).setCell (p := ⟨g, 3, none⟩) hg _).setCell (p := ⟨g, 4, none⟩) hg _).setCell (p := ⟨g, 5, none⟩) hg _).setCell (p := ⟨g, 6, none⟩) hg _).setCell (p := ⟨g, 7, none⟩) hg _
/-- Eight words, written out. -/
theorem agg8 (r : S8) : Value.agg (wcells r.list) = .agg #[.int .u32 (u r.a), .int .u32 (u r.b), .int .u32 (u r.c), .int .u32 (u r.d), .int .u32 (u r.e), .int .u32 (u r.f), .int .u32 (u r.g), .int .u32 (u r.h)] := rfl
def zeroS : S8 := ⟨0, 0, 0, 0, 0, 0, 0, 0⟩

def blockS (s : S8) (l : List UInt8) : S8 := if l.length = 64 then comp keyL s l else s
def blockE (l : List UInt8) : Int := if l.length = 64 then 0 else 1

set_option maxRecDepth 100000 in
set_option maxHeartbeats 1000000 in
theorem block_any (s : S8) (v : Value) (l : List UInt8) (w : World) (h : Rd w v l) :
    Calls Try.prog 14 #[.agg (wcells s.list), v] w fun e w' => e = .returned (.tuple #[.agg (wcells (blockS s l).list), .int .i64 (blockE l)]) ∧ Kp w w' := by
  obtain ⟨a, c, rfl, h1, h2⟩ := h.shape
  unfold maxLen at h2
  have hB0 : Arr 28 ((w.alloc (.cells (wcells s.list) 28)).alloc (.cells (wcells (zeros 8)) 28)) w.heap.size s.list := (Arr.new _ w _ s.list rfl).alloc _
  have hR0 : Arr 28 ((w.alloc (.cells (wcells s.list) 28)).alloc (.cells (wcells (zeros 8)) 28)) (w.heap.size + 1) (zeros 8) := by
    have := Arr.new 28 (w.alloc (.cells (wcells s.list) 28)) (wcells (zeros 8)) (zeros 8) rfl
    rw [World.size_alloc] at this
    exact this
  have hK0 : Kp w ((w.alloc (.cells (wcells s.list) 28)).alloc (.cells (wcells (zeros 8)) 28)) := ((Kp.refl w).alloc _).alloc _
  by_cases hl : l.length = 64
  · have hs : blockS s l = comp keyL s l := if_pos hl
    have he : blockE l = 0 := if_pos hl
    rw [hs, he]
    rw [hl] at h h1 ⊢
    have HL := Lib.hid hl
    clear hs he hl
    obtain ⟨r, hr⟩ : ∃ r, comp keyL s l = r := ⟨_, rfl⟩
    rw [hr]
    have HR := Lib.hid hr
    clear hr
    go_enter Try.func14, Try.ntmps14
    go_wp2_with fail
    refine (keys_any _).mono ?_
    rintro e w1 ⟨rfl, hk1⟩
    have hB1 := hB0.kp hk1
    have hR1 := hR0.kp hk1
    have hkp1 : Kp w w1 := hK0.trans hk1
    go_wp2_with (first
      | (refine wpList_store_arr' (by kernel_rfl) rfl rfl (.tmp 6) (.tmp 11) rfl w1.heap.size (zeros 64) keyL rfl rfl (Arr.new _ _ _ _ rfl) (zeros_length 64) rfl ?_; intro w2 hk2 hbut
         have hB2 := hbut.arr (hB1.alloc _) (by have := hB1.lt; omega)
         have hR2 := hbut.arr (hR1.alloc _) (by have := hR1.lt; omega)
         have hkp2 : Kp w w2 := hbut.below (hkp1.alloc _) hkp1.size
         clear hbut hB0 hR0 hK0 hB1 hR1 hk1)
      | (refine wpList_load_arr Try.underlying28 (by kernel_rfl) rfl (.tmp 2) rfl w.heap.size s.list rfl hB2 rfl ?_))
    refine (behind_any s _ l w1.heap.size keyL _ (h.kp hkp2) HL.out hk2 rfl).mono ?_
    rintro e w3 ⟨rfl, hk3⟩
    rw [HR.out]
    have hR3 := hR2.kp hk3
    have hkp3 : Kp w w3 := hkp2.trans hk3
    clear hR2 hkp2 hk3 hk2
    go_wp2_with (refine wpList_store_arr' (by kernel_rfl) rfl rfl (.tmp 4) (.tmp 14) rfl (w.heap.size + 1) (zeros 8) r.list rfl rfl hR3 rfl rfl ?_; intro w5 hR5 hbut)
    refine bodyPost_ret (results_arr_int Try.underlying28 (by kernel_rfl) rfl _ _ (w.heap.size + 1) r.list _ rfl rfl hR5 rfl) rfl ?_
    exact ⟨rfl, hbut.below hkp3 (by omega)⟩
  · have hs : blockS s l = s := if_neg hl
    have he : blockE l = 1 := if_neg hl
    rw [hs, he]
    have hli : ¬ (l.length : Int) = 64 := by omega
    clear hs he
    go_enter Try.func14, Try.ntmps14
    go_wp2_with (first
      | (refine wpList_load_arr Try.underlying28 (by kernel_rfl) rfl (.tmp 2) rfl w.heap.size s.list rfl hB0 rfl ?_)
      | (refine wpList_store_arr' (by kernel_rfl) rfl rfl (.tmp 4) (.tmp 10) rfl (w.heap.size + 1) (zeros 8) s.list rfl rfl hR0 rfl rfl ?_; intro w5 hR5 hbut))
    refine bodyPost_ret (results_arr_int Try.underlying28 (by kernel_rfl) rfl _ _ (w.heap.size + 1) s.list _ rfl rfl hR5 rfl) rfl ?_
    exact ⟨rfl, hbut.below hK0 (by omega)⟩

set_option maxRecDepth 100000 in
set_option maxHeartbeats 1000000 in
theorem refBlock_any (s : S8) (v : Value) (l : List UInt8) (w : World) (h : Rd w v l) :
    Calls Try.prog 15 #[.agg (wcells s.list), v] w fun e w' => e = .returned (.tuple #[.agg (wcells (blockS s l).list), .int .i64 (blockE l)]) ∧ Kp w w' := by
  obtain ⟨a, c, rfl, h1, h2⟩ := h.shape
  unfold maxLen at h2
  have hB0 : Arr 28 ((w.alloc (.cells (wcells s.list) 28)).alloc (.cells (wcells (zeros 8)) 28)) w.heap.size s.list := (Arr.new _ w _ s.list rfl).alloc _
  have hR0 : Arr 28 ((w.alloc (.cells (wcells s.list) 28)).alloc (.cells (wcells (zeros 8)) 28)) (w.heap.size + 1) (zeros 8) := by
    have := Arr.new 28 (w.alloc (.cells (wcells s.list) 28)) (wcells (zeros 8)) (zeros 8) rfl
    rw [World.size_alloc] at this
    exact this
  have hK0 : Kp w ((w.alloc (.cells (wcells s.list) 28)).alloc (.cells (wcells (zeros 8)) 28)) := ((Kp.refl w).alloc _).alloc _
  by_cases hl : l.length = 64
  · have hs : blockS s l = comp keyL s l := if_pos hl
    have he : blockE l = 0 := if_pos hl
    rw [hs, he]
    rw [hl] at h h1 ⊢
    have HL := Lib.hid hl
    clear hs he hl
    go_enter Try.func15, Try.ntmps15
    have hL : (l.drop 0).take 64 = l := by rw [List.drop_zero, List.take_of_length_le (by rw [HL.out]; exact Nat.le_refl _)]
    obtain ⟨r, hr⟩ : ∃ r, comp keyL s l = r := ⟨_, rfl⟩
    rw [hr]
    have HS := Lib.hid (fun g w1 => step_any s (.slice a 64 c) l 0 g 64 keyL w1)
    simp only [hL, hr] at HS
    have HR := Lib.hid hr
    clear hr hL
    go_wp2_with fail
    obtain ⟨w0, hw0⟩ : ∃ w0, (w.alloc (.cells (wcells s.list) 28)).alloc (.cells (wcells (zeros 8)) 28) = w0 := ⟨_, rfl⟩
    rw [hw0] at hB0 hR0 hK0
    change Code.wp Try.prog _ _ _ ((w.alloc (.cells (wcells s.list) 28)).alloc (.cells (wcells (zeros 8)) 28))
    rw [hw0]
    clear hw0
    obtain ⟨c0, c1, c2, c3, c4, c5, c6, c7⟩ := hB0.cells8
    go_region_with (first
      | (go_at_call 31; refine (refKeys_any _).mono ?_; rintro e w1 ⟨⟨g, rfl, hA, hge⟩, hkp⟩; obtain ⟨d0, d1, d2, d3, d4, d5, d6, d7⟩ := (hB0.drew.kp hkp).cells8)
      | (go_at_call 32; refine (HS.out g _ (h.kp (hK0.drew.trans hkp)) (by rw [HL.out]; decide) hA rfl).mono ?_; rintro e w2 ⟨rfl, hk2⟩; rw [agg8]; have hR2 : Arr 28 w2 (w.heap.size + 1) zeroS.list := ((hR0.drew.kp hkp).kp hk2)
         obtain ⟨e0, e1, e2, e3, e4, e5, e6, e7⟩ := hR2.cells8
         obtain ⟨f0, f1, f2, f3, f4, f5, f6, f7⟩ := hR2.frozen8))
    all_goals
      go_wp2_with fail
      refine bodyPost_ret (results_arr_int Try.underlying28 (by kernel_rfl) rfl _ _ (w.heap.size + 1) r.list _ rfl rfl (hR2.set8 r) rfl) rfl ?_
      exact ⟨rfl, below_set8 ((hK0.drew.trans hkp).trans hk2) (by omega) _ _ _ _ _ _ _ _⟩
  · have hs : blockS s l = s := if_neg hl
    have he : blockE l = 1 := if_neg hl
    rw [hs, he]
    have hli : ¬ (l.length : Int) = 64 := by omega
    clear hs he
    go_enter Try.func15, Try.ntmps15
    go_wp2_with (first
      | (refine wpList_load_arr Try.underlying28 (by kernel_rfl) rfl (.tmp 2) rfl w.heap.size s.list rfl hB0 rfl ?_)
      | (refine wpList_store_arr' (by kernel_rfl) rfl rfl (.tmp 4) (.tmp 9) rfl (w.heap.size + 1) (zeros 8) s.list rfl rfl hR0 rfl rfl ?_; intro w5 hR5 hbut))
    refine bodyPost_ret (results_arr_int Try.underlying28 (by kernel_rfl) rfl _ _ (w.heap.size + 1) s.list _ rfl rfl hR5 rfl) rfl ?_
    exact ⟨rfl, hbut.below hK0 (by omega)⟩
end Go.Proofs.Ytgialijhnghdgaa

/- ShaRounds. -/
import Derived.Test.YtgialijhnghdgaaLawB
import Derived.Test.YtgialijhnghdgaaEq
set_option linter.unusedVariables false
set_option linter.unusedSimpArgs false
namespace Go.Proofs.Ytgialijhnghdgaa
open Go.RowKit

theorem block_64 (s : S8) (v : Value) (l : List UInt8) (w : World) (h : Rd w v l) (hl : l.length = 64) :
    Calls Try.prog 14 #[.agg (wcells s.list), v] w fun e w' => e = .returned (.tuple #[.agg (wcells (comp keyL s l).list), .int .i64 0]) ∧ Kp w w' := by
  have := block_any s v l w h
  rw [show blockS s l = comp keyL s l from if_pos hl, show blockE l = 0 from if_pos hl] at this
  exact this
theorem refBlock_64 (s : S8) (v : Value) (l : List UInt8) (w : World) (h : Rd w v l) (hl : l.length = 64) :
    Calls Try.prog 15 #[.agg (wcells s.list), v] w fun e w' => e = .returned (.tuple #[.agg (wcells (comp keyL s l).list), .int .i64 0]) ∧ Kp w w' := by
  have := refBlock_any s v l w h
  rw [show blockS s l = comp keyL s l from if_pos hl, show blockE l = 0 from if_pos hl] at this
  exact this

set_option maxRecDepth 100000 in
set_option maxHeartbeats 4000000 in
theorem shaRounds_walk (s : S8) (va vb : Value) (la lb : List UInt8) (w : World) (ha : Rd w va la) (hb : Rd w vb lb) :
    Calls Try.prog 9 #[.agg (wcells s.list), va, vb] w (Yes w) := by
  obtain ⟨a1, c1, rfl, p1, q1⟩ := ha.shape
  obtain ⟨a2, c2, rfl, p2, q2⟩ := hb.shape
  unfold maxLen at q1 q2
  have hB0 : Arr 28 (w.alloc (.cells (wcells s.list) 28)) w.heap.size s.list := Arr.new _ w _ _ rfl
  have hk0 : Kp w (w.alloc (.cells (wcells s.list) 28)) := (Kp.refl w).alloc _
  by_cases hla : la.length = 64
  · by_cases hlb : lb.length = 64
    · obtain ⟨r, hr⟩ : ∃ r, comp keyL s la = r := ⟨_, rfl⟩
      obtain ⟨t, ht⟩ : ∃ t, comp keyL r lb = t := ⟨_, rfl⟩
      have b1 := block_64 s (.slice a1 la.length c1) la
      have b2 := block_64 r (.slice a2 lb.length c2) lb
      have b3 := refBlock_64 s (.slice a1 la.length c1) la
      have b4 := refBlock_64 r (.slice a2 lb.length c2) lb
      rw [hr] at b1 b3
      rw [ht] at b2 b4
      rw [hla] at b1 b3 ha p1 ⊢
      rw [hlb] at b2 b4 hb p2 ⊢
      have C1 := Lib.hid b1
      have C2 := Lib.hid b2
      have C3 := Lib.hid b3
      have C4 := Lib.hid b4
      have L1 := Lib.hid hla
      have L2 := Lib.hid hlb
      clear b1 b2 b3 b4 hr ht hla hlb
      go_enter Try.func9, Try.ntmps9
      go_wp2_with fail
      refine (shown_any _).mono ?_
      rintro e w1 ⟨rfl, k1⟩
      have kw1 : Kp w w1 := hk0.trans k1
      have hB1 := hB0.kp k1
      go_wp2_with (refine wpList_load_arr Try.underlying28 (by kernel_rfl) rfl (.tmp 3) rfl w.heap.size s.list rfl hB1 rfl ?_)
      refine (C1.out _ (ha.kp kw1) trivial).mono ?_
      rintro e w2 ⟨rfl, k2⟩
      go_wp2_with (first
        | (refine wpList_store_arr' (by kernel_rfl) rfl rfl (.tmp 8) (.tmp 30) rfl w2.heap.size (zeros 8) r.list rfl rfl (Arr.new _ _ _ _ rfl) rfl rfl ?_; intro w3 hR3 hbut3; have kw3 : Kp w w3 := hbut3.below ((kw1.trans k2).alloc _) (kw1.trans k2).size; have hB3 := hbut3.arr ((hB1.kp k2).alloc _) (by have := (hB1.kp k2).lt; omega); clear hbut3)
        | (refine wpList_load_arr Try.underlying28 (by kernel_rfl) rfl (.tmp 8) rfl w2.heap.size r.list rfl hR3 rfl ?_))
      refine (C2.out _ (hb.kp kw3) trivial).mono ?_
      rintro e w4 ⟨rfl, k4⟩
      go_wp2_with (first
        | (refine wpList_store_arr' (by kernel_rfl) rfl rfl (.tmp 10) (.tmp 36) rfl w4.heap.size (zeros 8) t.list rfl rfl (Arr.new _ _ _ _ rfl) rfl rfl ?_; intro w5 hR5 hbut5; have kw5 : Kp w w5 := hbut5.below ((kw3.trans k4).alloc _) (kw3.trans k4).size; have hB5 := hbut5.arr ((hB3.kp k4).alloc _) (by have := (hB3.kp k4).lt; omega); clear hbut5)
        | (refine wpList_load_arr Try.underlying28 (by kernel_rfl) rfl (.tmp 3) rfl w.heap.size s.list rfl hB5 rfl ?_))
      refine (C3.out _ (ha.kp kw5) trivial).mono ?_
      rintro e w6 ⟨rfl, k6⟩
      go_wp2_with (first
        | (refine wpList_store_arr' (by kernel_rfl) rfl rfl (.tmp 12) (.tmp 42) rfl w6.heap.size (zeros 8) r.list rfl rfl (Arr.new _ _ _ _ rfl) rfl rfl ?_; intro w7 hR7 hbut7; have kw7 : Kp w w7 := hbut7.below ((kw5.trans k6).alloc _) (kw5.trans k6).size; have hT7 := hbut7.arr ((hR5.kp k6).alloc _) (by have := (hR5.kp k6).lt; omega); clear hbut7)
        | (refine wpList_load_arr Try.underlying28 (by kernel_rfl) rfl (.tmp 12) rfl w6.heap.size r.list rfl hR7 rfl ?_))
      refine (C4.out _ (hb.kp kw7) trivial).mono ?_
      rintro e w8 ⟨rfl, k8⟩
      have heq := eql8' t
      go_wp2_with (first
        | (refine wpList_store_arr' (by kernel_rfl) rfl rfl (.tmp 14) (.tmp 48) rfl w8.heap.size (zeros 8) t.list rfl rfl (Arr.new _ _ _ _ rfl) rfl rfl ?_; intro w9 hR9 hbut9; have kw9 : Kp w w9 := hbut9.below ((kw7.trans k8).alloc _) (kw7.trans k8).size; have hT9 := hbut9.arr ((hT7.kp k8).alloc _) (by have := (hT7.kp k8).lt; omega); clear hbut9; obtain ⟨e0, e1, e2, e3, e4, e5, e6, e7⟩ := hT9.cells8; obtain ⟨f0, f1, f2, f3, f4, f5, f6, f7⟩ := hR9.cells8))
      go_ret
      exact ⟨rfl, kw9⟩
    · have hlb2 : ¬ (lb.length : Int) = 64 := by omega
      rw [hla] at ha ⊢
      clear hla
      go_enter Try.func9, Try.ntmps9
      go_wp2_with fail
      refine (shown_any _).mono ?_
      rintro e w1 ⟨rfl, k1⟩
      go_wp2_with fail
      go_ret
      exact ⟨rfl, hk0.trans k1⟩
  · have hla2 : ¬ (la.length : Int) = 64 := by omega
    go_enter Try.func9, Try.ntmps9
    go_wp2_with fail
    refine (shown_any _).mono ?_
    rintro e w1 ⟨rfl, k1⟩
    go_wp2_with fail
    go_ret
    exact ⟨rfl, hk0.trans k1⟩
end Go.Proofs.Ytgialijhnghdgaa

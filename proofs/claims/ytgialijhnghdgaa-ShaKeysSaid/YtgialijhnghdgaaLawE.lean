/- ShaParts. -/
import Derived.Test.YtgialijhnghdgaaLawC
set_option linter.unusedVariables false
set_option linter.unusedSimpArgs false
namespace Go.Proofs.Ytgialijhnghdgaa
open Go.RowKit

set_option maxRecDepth 100000 in
set_option maxHeartbeats 4000000 in
theorem shaParts_walk (i n : Int) (s : S8) (v : Value) (l : List UInt8) (w : World) (hb : Rd w v l) :
    Calls Try.prog 4 #[.agg #[.int .i64 i, .int .i64 n, .int .u32 (u s.a), .int .u32 (u s.b), .int .u32 (u s.c), .int .u32 (u s.d), .int .u32 (u s.e), .int .u32 (u s.f), .int .u32 (u s.g), .int .u32 (u s.h), v]] w (Yes w) := by
  obtain ⟨a1, c1, rfl, p1, q1⟩ := hb.shape
  unfold maxLen at q1
  obtain ⟨W0, hW0⟩ : ∃ W0, ((w.alloc (.cells #[.int .i64 i, .int .i64 n, .int .u32 (u s.a), .int .u32 (u s.b), .int .u32 (u s.c), .int .u32 (u s.d), .int .u32 (u s.e), .int .u32 (u s.f), .int .u32 (u s.g), .int .u32 (u s.h), .slice a1 l.length c1] 30)).alloc (.cells (wcells s.list) 28)) = W0 := ⟨_, rfl⟩
  have hA0 : Arr 28 W0 (w.heap.size + 1) s.list := by
    have := Arr.new 28 (w.alloc (.cells #[.int .i64 i, .int .i64 n, .int .u32 (u s.a), .int .u32 (u s.b), .int .u32 (u s.c), .int .u32 (u s.d), .int .u32 (u s.e), .int .u32 (u s.f), .int .u32 (u s.g), .int .u32 (u s.h), .slice a1 l.length c1] 30)) (wcells s.list) s.list rfl
    rw [World.size_alloc, hW0] at this
    exact this
  have hK0 : Kp w W0 := by rw [← hW0]; exact ((Kp.refl w).alloc _).alloc _
  have hshown : Calls Try.prog 10 #[] ((w.alloc (.cells #[.int .i64 i, .int .i64 n, .int .u32 (u s.a), .int .u32 (u s.b), .int .u32 (u s.c), .int .u32 (u s.d), .int .u32 (u s.e), .int .u32 (u s.f), .int .u32 (u s.g), .int .u32 (u s.h), .slice a1 l.length c1] 30)).alloc (.cells (wcells s.list) 28)) fun e w' => e = .returned (.bool true) ∧ Kp W0 w' := by
    rw [hW0]
    exact shown_any W0
  have HS := Lib.hid hshown
  clear hshown hW0
  by_cases hl : l.length ≤ 200
  · have hl2 : ¬ (200 < (l.length : Int)) := by omega
    obtain ⟨r, hr⟩ : ∃ r, blockS s l = r := ⟨_, rfl⟩
    obtain ⟨er, her⟩ : ∃ er, blockE l = er := ⟨_, rfl⟩
    have b1 := block_any s (.slice a1 l.length c1) l
    have b2 := refBlock_any s (.slice a1 l.length c1) l
    rw [hr, her] at b1 b2
    have C1 := Lib.hid b1
    have C2 := Lib.hid b2
    clear b1 b2 hr her
    go_enter Try.func4, Try.ntmps4
    go_wp2_with fail
    refine HS.out.mono ?_
    rintro e w1 ⟨rfl, k1⟩
    have kw1 : Kp w w1 := hK0.trans k1
    have hB1 := hA0.kp k1
    go_wp2_with (refine wpList_load_arr Try.underlying28 (by kernel_rfl) rfl (.tmp 5) rfl (w.heap.size + 1) s.list rfl hB1 rfl ?_)
    refine (C1.out _ (hb.kp kw1)).mono ?_
    rintro e w2 ⟨rfl, k2⟩
    go_wp2_with (first
      | (refine wpList_store_arr' (by kernel_rfl) rfl rfl (.tmp 8) (.tmp 29) rfl w2.heap.size (zeros 8) r.list rfl rfl (Arr.new _ _ _ _ rfl) rfl rfl ?_; intro w3 hR3 hbut3; have kw3 : Kp w w3 := hbut3.below ((kw1.trans k2).alloc _) (kw1.trans k2).size; have hB3 := hbut3.arr ((hB1.kp k2).alloc _) (by have := (hB1.kp k2).lt; omega); clear hbut3)
      | (refine wpList_load_arr Try.underlying28 (by kernel_rfl) rfl (.tmp 5) rfl (w.heap.size + 1) s.list rfl hB3 rfl ?_))
    refine (C2.out _ (hb.kp kw3)).mono ?_
    rintro e w4 ⟨rfl, k4⟩
    have heqS := eql8 startS
    have heq := eql8' r
    go_wp2_with (refine wpList_store_arr' (by kernel_rfl) rfl rfl (.tmp 10) (.tmp 35) rfl w4.heap.size (zeros 8) r.list rfl rfl (Arr.new _ _ _ _ rfl) rfl rfl ?_; intro w5 hR5 hbut5; have kw5 : Kp w w5 := hbut5.below ((kw3.trans k4).alloc _) (kw3.trans k4).size; have hT5 := hbut5.arr ((hR3.kp k4).alloc _) (by have := (hR3.kp k4).lt; omega); clear hbut5)
    refine (start_any _).mono ?_
    rintro e w6 ⟨rfl, k6⟩
    go_wp2_with fail
    refine (refStart_any _).mono ?_
    rintro e w7 ⟨rfl, k7⟩
    go_wp2_with fail
    refine (key_any i _).mono ?_
    rintro e w8 ⟨rfl, k8⟩
    go_wp2_with fail
    refine (refKey_any i _).mono ?_
    rintro e w9 ⟨rfl, k9⟩
    go_wp2_with fail
    refine (pad_any n _).mono ?_
    rintro e w10 ⟨⟨v10, rfl, r10⟩, k10⟩
    go_wp2_with fail
    refine (refPad_any n _).mono ?_
    rintro e w11 ⟨⟨v11, rfl, r11⟩, k11⟩
    go_wp2_with fail
    refine (same_at _ _ (padOf n) (padOf n) true _ (r10.kp k11) r11 (decide_eq_true rfl)).mono ?_
    rintro e w12 ⟨rfl, rfl⟩
    have k511 : Kp w5 w11 := ((((k6.trans k7).trans k8).trans k9).trans k10).trans k11
    obtain ⟨e0, e1, e2, e3, e4, e5, e6, e7⟩ := (hT5.kp k511).cells8
    obtain ⟨f0, f1, f2, f3, f4, f5, f6, f7⟩ := (hR5.kp k511).cells8
    go_wp2_with fail
    go_ret
    exact ⟨by simp, kw5.trans k511⟩
  · have hl2 : 200 < (l.length : Int) := by omega
    go_enter Try.func4, Try.ntmps4
    go_wp2_with fail
    refine HS.out.mono ?_
    rintro e w1 ⟨rfl, k1⟩
    go_wp2_with fail
    go_ret
    exact ⟨rfl, hK0.trans k1⟩
end Go.Proofs.Ytgialijhnghdgaa

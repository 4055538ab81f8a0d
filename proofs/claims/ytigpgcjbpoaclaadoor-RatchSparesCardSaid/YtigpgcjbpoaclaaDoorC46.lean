import Derived.Test.YtigpgcjbpoaclaaDoorC45
set_option linter.unusedVariables false
set_option linter.unusedSimpArgs false
namespace Go.Proofs.YtigpgcjbpoaclaaDoor
open Go.RowKit
def z13 : List UInt8 := List.replicate 32 0
theorem zero13 (W : World) : Ow 5 (W.alloc (.cells (Array.replicate 32 (.int .u8 0)) 5)) W.heap.size (.slice (some ⟨W.heap.size, 0, none⟩) 32 32) z13 :=
  Ow.lit W 5 W.heap.size 32 _ _ (Nat.le_refl _) (by decide) (by decide) (by simp [z13, Lib.byteCells])
theorem shown_facts (S : List UInt8) (hS : S.length = 32) : ∃ D X : Ch, ∃ L M : Lk, (takE ⟨0, S, []⟩ 2 = 0 ∧ takC ⟨0, S, []⟩ 2 = D ∧ takL ⟨0, S, []⟩ 2 = L) ∧ (takE D 0 = 0 ∧ takC D 0 = X ∧ takL D 0 = M) ∧ takE X 0 = 9 ∧ D.ok ∧ X.ok ∧ D.next = 3 ∧ D.spare.length = 2 ∧ (lkAt D.spare 0).pos = 0 ∧ (lkAt D.spare 1).pos = 1 ∧ X.spare.length = 1 ∧ L.pos = 2 ∧ L.key.length = 32 ∧ M.pos = 0 ∧ (⟨0, S, []⟩ : Ch).ok := by
  have h0 : (⟨0, S, []⟩ : Ch).ok := (Onc.start S hS).ok
  have h1 := tak_step h0 2 (by omega) (by show (0 : Int) + (2 : Nat) + 1 ≤ _; omega)
  obtain ⟨e1, e2, e3⟩ := h1
  have hD : takC ⟨0, S, []⟩ 2 = ⟨3, onB S 0 3, [lockB S 0, lockB (onB S 0 1) 1]⟩ := e2
  have okD := takC_ok h0 2
  rw [hD] at okD
  have h2 := tak_spare okD (i := 0) (by show 0 < 2; omega)
  have okX := takC_ok okD 0
  have h3 := tak_gone okD (i := 0) (by show 0 < 2; omega)
  refine ⟨_, _, _, _, ⟨e1, rfl, rfl⟩, ⟨?_, rfl, rfl⟩, ?_, ?_, ?_, ?_, ?_, ?_, ?_, ?_, ?_, ?_, ?_, h0⟩
  · rw [hD]; exact h2.1
  · rw [hD]
    have e : takC ⟨3, onB S 0 3, [lockB S 0, lockB (onB S 0 1) 1]⟩ 0 = ⟨3, onB S 0 3, [lockB S 0, lockB (onB S 0 1) 1].eraseIdx 0⟩ := h2.2.1
    rw [e]
    exact h3
  · rw [hD]; exact okD
  · rw [hD]; exact okX
  · rw [hD]
  · rw [hD]; rfl
  · rw [hD]; rfl
  · rw [hD]; rfl
  · rw [hD]
    have e : takC ⟨3, onB S 0 3, [lockB S 0, lockB (onB S 0 1) 1]⟩ 0 = ⟨3, onB S 0 3, [lockB S 0, lockB (onB S 0 1) 1].eraseIdx 0⟩ := h2.2.1
    rw [e]; rfl
  · have e : takL ⟨0, S, []⟩ 2 = lockB (onB S 0 2) 2 := e3
    rw [e]; rfl
  · have e : takL ⟨0, S, []⟩ 2 = lockB (onB S 0 2) 2 := e3
    rw [e]; exact partB_length _ _ _ _
  · rw [hD]
    have e : takL ⟨3, onB S 0 3, [lockB S 0, lockB (onB S 0 1) 1]⟩ 0 = lockB S 0 := h2.2.2
    rw [e]; rfl
set_option maxRecDepth 100000 in
set_option maxHeartbeats 3000000 in
theorem shownRatch_any (w : World) (hT : Tab w) : Calls Tryd.prog 7 #[] w fun e w' => e = .returned (.bool true) ∧ Kp w w' := by
  have hz : z13.length = 32 := by decide
  have HZ : Hid (∀ W : World, Rd (W.alloc (.cells (Array.replicate 32 (.int .u8 0)) 5)) (.slice (some ⟨W.heap.size, 0, none⟩) 32 32) z13) := fun W => (zero13 W).rd
  have hL := leaf_yes (K := 2) (q := 1) hz (by omega) (by omega)
  obtain ⟨S, hS⟩ : ∃ S, secD z13 2 1 = S := ⟨_, rfl⟩
  have hSl : S.length = 32 := by rw [← hS]; exact secD_length _ _ _
  rw [hS] at hL
  have hL' : leafE z13 4 1 = 0 ∧ leafR z13 4 1 = S := hL
  have hC : startC z13 4 1 = ⟨0, S, []⟩ := by unfold startC; rw [hL'.2]
  have HST := Lib.hid (fun W u (h : Rd W u z13) (k : Kp w W) => ratchStart_any u z13 4 1 W h (by omega) (by omega) (hT.kp k))
  rw [hL'.1, hC] at HST
  have HLF := Lib.hid (fun W u (h : Rd W u z13) (k : Kp w W) => ratchLeaf_any u z13 4 1 W h (by omega) (by omega) (hT.kp k))
  rw [hL'.1, hL'.2] at HLF
  obtain ⟨D, X, L, M, ⟨a0, a1, a2⟩, ⟨a3, a4, a5⟩, a6, okD, okX, nD, lD, p0, p1, lX, pL, kL, pM, okC⟩ := shown_facts S hSl
  have HT1 := Lib.hid (fun W x y (h : CIn W x y ⟨0, S, []⟩) => ratchTake_any x y ⟨0, S, []⟩ 2 W h okC (by omega))
  have HT2 := Lib.hid (fun W x y (h : CIn W x y D) => ratchTake_any x y D 0 W h okD (by omega))
  have HT3 := Lib.hid (fun W x y (h : CIn W x y X) => ratchTake_any x y X 0 W h okX (by omega))
  unfold TakenR at HT1 HT2 HT3
  rw [a0, a1, a2, pL, nD] at HT1
  rw [a3, a4, a5, pM, nD] at HT2
  rw [a6] at HT3
  have HR := Lib.hid (fun W x y (h : CIn W x y D) => ratchRight_any x y D W h)
  have HS1 := Lib.hid (fun W x y x' y' (h : CIn W x y ⟨0, S, []⟩) (h' : CIn W x' y' ⟨0, S, []⟩) => ratchSame_any x y x' y' ⟨0, S, []⟩ ⟨0, S, []⟩ W h h')
  have HS2 := Lib.hid (fun W x y x' y' (h : CIn W x y ⟨0, S, []⟩) (h' : CIn W x' y' D) => ratchSame_any x y x' y' ⟨0, S, []⟩ D W h h')
  have hne : ¬ (⟨0, S, []⟩ : Ch) = D := fun h => by rw [← h] at nD; cases nD
  have HNE := Lib.hid hne
  have HOK := Lib.hid okD
  have HSA := Lib.hid (fun W u v (h : Rd W u S) (h' : Rd W v S) => same_at u v S S true W h h' (decide_eq_true rfl))
  rw [nD] at HR HS2
  have HC0 : Hid (∀ W x y, CIn W x y ⟨0, S, []⟩ → Rd W x S ∧ ∃ a c, y = .slice a 0 c) := fun W x y h => ⟨h.sec, by obtain ⟨a, c, e, _⟩ := h.spare.shape; exact ⟨a, c, e⟩⟩
  have HLD : Hid (D.spare.length = 2 ∧ (lkAt D.spare 0).pos = 0 ∧ (lkAt D.spare 1).pos = 1) := ⟨lD, p0, p1⟩
  have HCD : Hid (∀ W x y, CIn W x y D → ∃ a1 n1 c1 a2 c2, x = .slice a1 n1 c1 ∧ y = .slice a2 2 c2) := fun W x y h => by have := h.shapes; rwa [lD] at this
  have HCX : Hid (∀ W x y, CIn W x y X → ∃ a1 n1 c1 a2 c2, x = .slice a1 n1 c1 ∧ y = .slice a2 1 c2) := fun W x y h => by have := h.shapes; rwa [lX] at this
  obtain ⟨LN, hLN⟩ : ∃ n, L.non.length = n := ⟨_, rfl⟩
  have HLL : Hid (∀ W x y, LIn W x y L → ∃ a1 c1 a2 c2, x = .slice a1 32 c1 ∧ y = .slice a2 LN c2) := fun W x y h => by have := h.shapes; rwa [kL, hLN] at this
  have HLM : Hid (∀ W x y, LIn W x y M → ∃ a1 n1 c1 a2 n2 c2, x = .slice a1 n1 c1 ∧ y = .slice a2 n2 c2) := fun W x y h => by obtain ⟨a, b, c, d, e, f⟩ := h.shapes; exact ⟨_, _, _, _, _, _, e, f⟩
  obtain ⟨XN, hXN⟩ : ∃ n, X.next = n := ⟨_, rfl⟩
  rw [hXN] at HT2 HT3
  clear hLN hXN
  generalize z13 = Z at *
  clear hT hS hL hL' hC a0 a1 a2 a3 a4 a5 a6 okD okX nD lD p0 p1 lX pL kL pM okC hne hz
  go_enter Tryd.func7, Tryd.ntmps7
  go_wp2_with (at_make; refine wpList_make_fresh (z := .int .u8 0) (b := 1) Tryd.underlying22 Tryd.info5 rfl (by decide) rfl _ _ rfl 32 rfl rfl (by omega) ?_; intro w1 hw1; have r1 : Hid (Rd w1 (.slice (some ⟨w.heap.size, 0, none⟩) 32 32) Z) := (by rw [hw1]; exact HZ.out w); have k1 : Hid (Kp w w1) := (by rw [hw1]; exact (Kp.refl w).alloc _); clear hw1)
  refine (HST.out _ _ r1.out k1.out).mono ?_
  rintro _ w2 ⟨⟨x2, y2, rfl, c2⟩, k2⟩
  obtain ⟨h2, a22, b22, rfl⟩ := HC0.out _ _ _ c2
  obtain ⟨a21, n21, b21, rfl⟩ := h2.sl
  have C2 := Lib.hid c2
  have K2 := Lib.hid (k1.out.trans k2)
  have k12 := Lib.hid k2
  clear h2 c2 k2
  have B2 := Lib.hid (Bx.new w2 34 zc3)
  have KB2 := Lib.hid ((Kp.refl w2).alloc (.cells zc3 34))
  unfold zc3 at B2 KB2
  go_wp2_with (first
    | (refine wpList_store_row rfl rfl 34 (.tmp 2) (.tmp 19) rfl w2.heap.size 34 _ #[.int .i64 0, .slice a21 n21 b21, .slice a22 0 b22] rfl rfl B2.out rfl (three_one rfl rfl rfl) infoCh3 ?_; intro w3 b3 _ hkw3; have B3 := Lib.hid b3; have K23 := Lib.hid (hkw3 w2 KB2.out (Nat.le_refl _)); clear hkw3 b3; obtain ⟨s0, s1, s2⟩ := cells3 B3.out)
    | fail)
  refine (HT1.out _ _ _ (C2.out.kp K23.out)).mono ?_
  rintro _ w4 ⟨x4, y4, p4, q4, rfl, c4, l4, k4⟩
  have R4 := Lib.hid (HCD.out _ _ _ c4)
  obtain ⟨d1, d2, d3, d4, d5, rfl, rfl⟩ := R4.out
  obtain ⟨e1, e2, e3, e4, rfl, rfl⟩ := HLL.out _ _ _ l4
  have C4 := Lib.hid c4
  have K4 := Lib.hid (K23.out.trans k4)
  have B4 := Lib.hid (B3.out.kp k4)
  clear c4 l4 k4 s0 s1 s2 R4
  have KT := Lib.hid (keep_two w4 34 37 zc3 zc3)
  unfold zc3 at KT
  go_wp2_with (first
    | (refine wpList_store_row rfl rfl 34 (.tmp 4) (.tmp 24) rfl w4.heap.size 34 _ #[.int .i64 3, .slice d1 d2 d3, .slice d4 2 d5] rfl rfl KT.out.1 rfl (three_one rfl rfl rfl) infoCh3 ?_; intro w5 bc1 gc1 hc1; have KC1 := Lib.hid (hc1 w4 KT.out.2.2 (Nat.le_refl _)); have BL1 := Lib.hid (KT.out.2.1.grow gc1 (by omega)); have BC1 := Lib.hid bc1; clear bc1 gc1 hc1)
    | (refine wpList_store_row rfl rfl 37 (.tmp 5) (.tmp 25) rfl (w4.heap.size + 1) 37 _ #[.int .i64 2, .slice e1 32 e2, .slice e3 LN e4] rfl rfl BL1.out rfl (three_one rfl rfl rfl) infoLk3 ?_; intro w6 bl2 gl2 hl2; have KC2 := Lib.hid (hl2 w4 KC1.out (by omega)); have BC2 := Lib.hid (BC1.out.grow gl2 (by omega)); have BL2 := Lib.hid bl2; clear bl2 gl2 hl2; have B6 := Lib.hid (B4.out.kp KC2.out); have C6 := Lib.hid (C4.out.kp KC2.out); have K6 := Lib.hid (K4.out.trans KC2.out); obtain ⟨s0, s1, s2⟩ := cells3 BC2.out)
    | fail)
  have D6 := Lib.hid BC2.out
  have E6 := Lib.hid BL2.out
  clear KT KC1 BL1 BC1 KC2 BC2 BL2
  refine (HT2.out _ _ _ C6.out).mono ?_
  rintro _ w7 ⟨x7, y7, p7, q7, rfl, c7, l7, k7⟩
  obtain ⟨f1, f2, f3, f4, f5, rfl, rfl⟩ := HCX.out _ _ _ c7
  obtain ⟨g1, g2, g3, g4, g5, g6, rfl, rfl⟩ := HLM.out _ _ _ l7
  have C7 := Lib.hid c7
  have K7 := Lib.hid (K6.out.trans k7)
  have B7 := Lib.hid (B6.out.kp k7)
  have D7 := Lib.hid (D6.out.kp k7)
  have E7 := Lib.hid (E6.out.kp k7)
  have C67 := Lib.hid (C6.out.kp k7)
  clear c7 l7 k7 s0 s1 s2
  have KT := Lib.hid (keep_two w7 34 37 zc3 zc3)
  unfold zc3 at KT
  go_wp2_with (first
    | (refine wpList_store_row rfl rfl 34 (.tmp 7) (.tmp 30) rfl w7.heap.size 34 _ #[.int .i64 XN, .slice f1 f2 f3, .slice f4 1 f5] rfl rfl KT.out.1 rfl (three_one rfl rfl rfl) infoCh3 ?_; intro w8 bc1 gc1 hc1; have KC1 := Lib.hid (hc1 w7 KT.out.2.2 (Nat.le_refl _)); have BL1 := Lib.hid (KT.out.2.1.grow gc1 (by omega)); have BC1 := Lib.hid bc1; clear bc1 gc1 hc1)
    | (refine wpList_store_row rfl rfl 37 (.tmp 8) (.tmp 31) rfl (w7.heap.size + 1) 37 _ #[.int .i64 0, .slice g1 g2 g3, .slice g4 g5 g6] rfl rfl BL1.out rfl (three_one rfl rfl rfl) infoLk3 ?_; intro w9 bl2 gl2 hl2; have KC2 := Lib.hid (hl2 w7 KC1.out (by omega)); have BC2 := Lib.hid (BC1.out.grow gl2 (by omega)); have BL2 := Lib.hid bl2; clear bl2 gl2 hl2; have B9 := Lib.hid (B7.out.kp KC2.out); have D9 := Lib.hid (D7.out.kp KC2.out); have E9 := Lib.hid (E7.out.kp KC2.out); have C9 := Lib.hid (C7.out.kp KC2.out); have C69 := Lib.hid (C67.out.kp KC2.out); have K9 := Lib.hid (K7.out.trans KC2.out); obtain ⟨s0, s1, s2⟩ := cells3 BC2.out)
    | fail)
  have X9 := Lib.hid BC2.out
  have M9 := Lib.hid BL2.out
  clear KT KC1 BL1 BC1 KC2 BC2 BL2
  refine (HT3.out _ _ _ C9.out).mono ?_
  rintro _ w10 ⟨x10, y10, p10, q10, rfl, c10, l10, k10⟩
  obtain ⟨h1, h2, h3, h4, h5, rfl, rfl⟩ := c10.shapes
  obtain ⟨i1, i2, i3, i4, rfl, rfl⟩ := l10.shapes
  have K10 := Lib.hid (K9.out.trans k10)
  have B10 := Lib.hid (B9.out.kp k10)
  have D10 := Lib.hid (D9.out.kp k10)
  have E10 := Lib.hid (E9.out.kp k10)
  have X10 := Lib.hid (X9.out.kp k10)
  have M10 := Lib.hid (M9.out.kp k10)
  have C610 := Lib.hid (C69.out.kp k10)
  clear c10 l10 k10 s0 s1 s2
  generalize (takC X 0).next = T1 at *
  generalize (takC X 0).spare.length = T2 at *
  generalize (takL X 0).pos = T3 at *
  generalize (takL X 0).key.length = T4 at *
  generalize (takL X 0).non.length = T5 at *
  have KT := Lib.hid (keep_two w10 34 37 zc3 zc3)
  unfold zc3 at KT
  go_wp2_with (first
    | (refine wpList_store_row rfl rfl 34 (.tmp 10) (.tmp 36) rfl w10.heap.size 34 _ #[.int .i64 T1, .slice h1 h2 h3, .slice h4 T2 h5] rfl rfl KT.out.1 rfl (three_one rfl rfl rfl) infoCh3 ?_; intro w11 bc1 gc1 hc1; have KC1 := Lib.hid (hc1 w10 KT.out.2.2 (Nat.le_refl _)); have BL1 := Lib.hid (KT.out.2.1.grow gc1 (by omega)); have BC1 := Lib.hid bc1; clear bc1 gc1 hc1)
    | (refine wpList_store_row rfl rfl 37 (.tmp 11) (.tmp 37) rfl (w10.heap.size + 1) 37 _ #[.int .i64 T3, .slice i1 T4 i2, .slice i3 T5 i4] rfl rfl BL1.out rfl (three_one rfl rfl rfl) infoLk3 ?_; intro w12 bl2 gl2 hl2; have KC2 := Lib.hid (hl2 w10 KC1.out (by omega)); have BC2 := Lib.hid (BC1.out.grow gl2 (by omega)); have BL2 := Lib.hid bl2; clear bl2 gl2 hl2; have B12 := Lib.hid (B10.out.kp KC2.out); have D12 := Lib.hid (D10.out.kp KC2.out); have E12 := Lib.hid (E10.out.kp KC2.out); have X12 := Lib.hid (X10.out.kp KC2.out); have M12 := Lib.hid (M10.out.kp KC2.out); have C612 := Lib.hid (C610.out.kp KC2.out); have K12 := Lib.hid (K10.out.trans KC2.out))
    | fail)
  clear KT KC1 BL1 BC1 KC2 BC2 BL2
  refine (HLF.out _ _ (r1.out.kp (k12.out.trans K12.out)) (k1.out.trans (k12.out.trans K12.out))).mono ?_
  rintro _ w13 ⟨⟨u13, rfl, o13⟩, k13⟩
  obtain ⟨j1, j2, j3, rfl⟩ := o13.sl
  have O13 := Lib.hid o13
  have K13 := Lib.hid (K12.out.trans k13)
  have B13 := Lib.hid (B12.out.kp k13)
  have D13 := Lib.hid (D12.out.kp k13)
  have E13 := Lib.hid (E12.out.kp k13)
  have X13 := Lib.hid (X12.out.kp k13)
  have M13 := Lib.hid (M12.out.kp k13)
  have C613 := Lib.hid (C612.out.kp k13)
  have C213 := Lib.hid (C2.out.kp K13.out)
  clear o13 k13
  obtain ⟨b, off, cc, pp, qq, ee, _, y0, _, _, _, _⟩ := LL.node (i := 0) C613.out.spare (by rw [HLD.out.1]; omega)
  obtain ⟨b2, off2, cc2, pp2, qq2, ee2, _, y1, _, _, _, _⟩ := LL.node (i := 1) C613.out.spare (by rw [HLD.out.1]; omega)
  rw [HLD.out.1] at ee ee2
  rw [ee] at ee2
  simp only [Value.slice.injEq, Option.some.injEq, Addr.mk.injEq] at ee ee2
  obtain ⟨rfl, _, rfl⟩ := ee
  obtain ⟨⟨rfl, rfl, _⟩, _, rfl⟩ := ee2
  rw [HLD.out.2.1, Nat.zero_mul, Nat.add_zero] at y0
  rw [HLD.out.2.2, Nat.one_mul] at y1
  have HCL : Hid (∀ W, Kp w13 W → W.cell? ⟨w4.heap.size, 0, none⟩ = some (.int .i64 3) ∧ W.cell? ⟨w4.heap.size, 1, none⟩ = some (.slice d1 d2 d3) ∧ W.cell? ⟨w4.heap.size, 2, none⟩ = some (.slice (some ⟨b, off, none⟩) 2 d5) ∧ W.cell? ⟨w2.heap.size, 0, none⟩ = some (.int .i64 0) ∧ W.cell? ⟨w2.heap.size, 1, none⟩ = some (.slice a21 n21 b21) ∧ W.cell? ⟨w2.heap.size, 2, none⟩ = some (.slice a22 0 b22)) := fun W hW => ⟨(D13.out.kp hW).cell 0, (D13.out.kp hW).cell 1, (D13.out.kp hW).cell 2, (B13.out.kp hW).cell 0, (B13.out.kp hW).cell 1, (B13.out.kp hW).cell 2⟩
  obtain ⟨t0, t1, t2, t3, t4, t5⟩ := HCL.out _ (Kp.refl _)
  obtain ⟨t6, t7, t8⟩ := cells3 E13.out
  obtain ⟨t9, t10, t11⟩ := cells3 X13.out
  obtain ⟨t12, _, _⟩ := cells3 M13.out
  go_wp2_with fail
  refine (HSA.out _ _ _ O13.out C213.out.sec).mono ?_
  rintro _ _ ⟨rfl, rfl⟩
  go_wp2_with fail
  refine (HR.out _ _ _ C613.out).mono ?_
  rintro _ w14 ⟨⟨bb, rfl, hb⟩, k14⟩
  obtain rfl : bb = true := hb.2 HOK.out
  have K14 := Lib.hid k14
  clear t0 t1 t2 t3 t4 t5 t6 t7 t8 t9 t10 t11 t12 y0 y1 hb k14
  obtain ⟨t0, t1, t2, t3, t4, t5⟩ := HCL.out _ K14.out
  go_wp2_with fail
  refine (HS1.out _ _ _ _ _ (C213.out.kp K14.out) (C213.out.kp K14.out)).mono ?_
  rintro _ w15 ⟨⟨bb, rfl, hb⟩, k15⟩
  obtain rfl : bb = true := by first | exact hb.2 trivial | exact hb.2 rfl
  have K15 := Lib.hid (K14.out.trans k15)
  clear t0 t1 t2 t3 t4 t5 hb k15
  obtain ⟨t0, t1, t2, t3, t4, t5⟩ := HCL.out _ K15.out
  go_wp2_with fail
  refine (HS2.out _ _ _ _ _ (C213.out.kp K15.out) (C613.out.kp K15.out)).mono ?_
  rintro _ w16 ⟨⟨bb, rfl, hb⟩, k16⟩
  obtain rfl : bb = false := by cases bb with | false => rfl | true => exact absurd (hb.1 rfl) HNE.out
  have K16 := Lib.hid (((k1.out.trans k12.out).trans K13.out).trans (K15.out.trans k16))
  clear t0 t1 t2 t3 t4 t5 hb k16
  go_wp2_with fail
  go_ret
  exact ⟨rfl, K16.out⟩
end Go.Proofs.YtigpgcjbpoaclaaDoor

import Derived.Test.YtigpgcjbpoaclaaGreatDoorA45
import Derived.Deep.RegionHeld3
set_option linter.unusedVariables false
set_option linter.unusedSimpArgs false
namespace Go.Proofs.YtigpgcjbpoaclaaGreatDoor
open Go.RowKit
set_option maxRecDepth 100000 in
set_option maxHeartbeats 3000000 in
theorem ratchTakes_walk (x y : Value) (c : Ch) (a : Int) (w : World) (h : CIn w x y c) (ha : -9223372036854775808 ≤ a ∧ a ≤ 9223372036854775807) (hT : Tab w) :
    Calls Tryz.prog 4 #[.agg #[.int .i64 c.next, x, y], .int .i64 a] w fun e w' => e = .returned (.bool true) ∧ Kp w w' := by
  have HC := Lib.hid h
  obtain ⟨a1, n1, c1, a2, c2, rfl, rfl⟩ := h.shapes
  have HTB := Lib.hid hT
  clear hT
  have HSH := Lib.hid (fun W (k : Kp w W) => shownRatch_any W (HTB.out.kp k))
  have HF := Lib.hid (fun W (k : Kp w W) => refFew13_any _ _ c W (HC.out.kp k))
  have HR := Lib.hid (fun W (k : Kp w W) => refRight13_any _ _ c W (HC.out.kp k))
  have HT := Lib.hid (fun W (k : Kp w W) (ok : c.ok) => ratchTake_any _ _ c a W (HC.out.kp k) ok ha)
  have HU := Lib.hid (fun W (k : Kp w W) (ok : c.ok) => refTake13_any _ _ c a W (HC.out.kp k) ok ha)
  unfold TakenR at HT HU
  have HS := Lib.hid (fun W x y x' y' (h : CIn W x y (takC c a)) (h' : CIn W x' y' (takC c a)) => refSame13_any x y x' y' (takC c a) (takC c a) W h h')
  have HL := Lib.hid (fun W x y x' y' (h : LIn W x y (takL c a)) (h' : LIn W x' y' (takL c a)) => refSameLock_any x y x' y' (takL c a) (takL c a) W h h')
  have HXC : Hid (∀ W x y, CIn W x y (takC c a) → ∃ a1 n1 c1 a2 n2 c2, x = .slice a1 n1 c1 ∧ y = .slice a2 n2 c2) := fun W x y h => by obtain ⟨a, b, c, d, e, f, g⟩ := h.shapes; exact ⟨_, _, _, _, _, _, f, g⟩
  have HXL : Hid (∀ W x y, LIn W x y (takL c a) → ∃ a1 n1 c1 a2 n2 c2, x = .slice a1 n1 c1 ∧ y = .slice a2 n2 c2) := fun W x y h => by obtain ⟨a, b, c, d, e, f⟩ := h.shapes; exact ⟨_, _, _, _, _, _, e, f⟩
  generalize takC c a = TC at *
  generalize takL c a = TL at *
  generalize takE c a = TE at *
  generalize c.ok = OK at *
  generalize c.few13 = FW at *
  generalize c.next = NX at *
  generalize c.spare.length = SN at *
  obtain ⟨w1, hw1⟩ : ∃ w1, w.alloc (.cells #[.int .i64 NX, .slice a1 n1 c1, .slice a2 SN c2] 25) = w1 := ⟨_, rfl⟩
  have B1 : Hid (Bx w1 w.heap.size 25 #[.int .i64 NX, .slice a1 n1 c1, .slice a2 SN c2]) := by rw [← hw1]; exact Bx.new w _ _
  have K1 : Hid (Kp w w1) := by rw [← hw1]; exact (Kp.refl _).alloc _
  have HW := Lib.hid hw1
  clear h hw1
  go_enter Tryz.func4, Tryz.ntmps4
  go_wp2_with (first | (rw [HW.out]) | fail)
  refine (HSH.out _ (by first | exact K1.out | exact K2.out | exact K3.out | exact K4.out | exact K5.out | exact K6.out | exact K7.out | exact K8.out | exact K9.out | exact KK.out | exact Kp.refl _)).mono ?_
  rintro _ w2 ⟨rfl, k2⟩
  have K2 := Lib.hid (K1.out.trans k2)
  have B2 := Lib.hid (B1.out.kp k2)
  clear k2 B1
  obtain ⟨s0, s1, s2⟩ := cells3 B2.out
  go_wp2_with fail
  refine (HF.out _ K2.out).mono ?_
  rintro _ w3 ⟨⟨b3, rfl, h3⟩, k3⟩
  have K3 := Lib.hid (K2.out.trans k3)
  have B3 := Lib.hid (B2.out.kp k3)
  clear k3 B2 s0 s1 s2
  obtain ⟨s0, s1, s2⟩ := cells3 B3.out
  cases b3
  · go_wp2_with fail
    go_ret
    exact ⟨rfl, K3.out⟩
  go_wp2_with fail
  refine (HR.out _ K3.out).mono ?_
  rintro _ w4 ⟨⟨b4, rfl, h4⟩, k4⟩
  have K4 := Lib.hid (K3.out.trans k4)
  have B4 := Lib.hid (B3.out.kp k4)
  clear k4 B3 s0 s1 s2
  obtain ⟨s0, s1, s2⟩ := cells3 B4.out
  cases b4
  · go_wp2_with fail
    go_ret
    exact ⟨rfl, K4.out⟩
  have HOK := Lib.hid (h4.1 rfl)
  clear h3 h4
  go_wp2_with fail
  refine (HT.out _ K4.out HOK.out).mono ?_
  rintro _ w5 ⟨x5, y5, p5, q5, rfl, c5, l5, k5⟩
  obtain ⟨d1, d2, d3, d4, d5, d6, rfl, rfl⟩ := HXC.out _ _ _ c5
  obtain ⟨e1, e2, e3, e4, e5, e6, rfl, rfl⟩ := HXL.out _ _ _ l5
  have C5 := Lib.hid c5
  have L5 := Lib.hid l5
  have K5 := Lib.hid (K4.out.trans k5)
  have B5 := Lib.hid (B4.out.kp k5)
  clear c5 l5 k5 B4 s0 s1 s2
  have KT := Lib.hid (keep_two w5 25 43 zc3 zc3)
  unfold zc3 at KT
  go_wp2_with (first
    | (refine wpList_store_row rfl rfl 25 (.tmp 6) (.tmp 26) rfl w5.heap.size 25 _ #[.int .i64 TC.next, .slice d1 d2 d3, .slice d4 d5 d6] rfl rfl KT.out.1 rfl (three_one rfl rfl rfl) infoCh3 ?_; intro w6 bc1 gc1 hc1; have KC1 := Lib.hid (hc1 w5 KT.out.2.2 (Nat.le_refl _)); have BL1 := Lib.hid (KT.out.2.1.grow gc1 (by omega)); have BC1 := Lib.hid bc1; clear bc1 gc1 hc1)
    | (refine wpList_store_row rfl rfl 43 (.tmp 7) (.tmp 27) rfl (w5.heap.size + 1) 43 _ #[.int .i64 TL.pos, .slice e1 e2 e3, .slice e4 e5 e6] rfl rfl BL1.out rfl (three_one rfl rfl rfl) infoLk3 ?_; intro w7 bl2 gl2 hl2; have KC2 := Lib.hid (hl2 w5 KC1.out (by omega)); have BC2 := Lib.hid (BC1.out.grow gl2 (by omega)); have BL2 := Lib.hid bl2; clear bl2 gl2 hl2; have B7 := Lib.hid (B5.out.kp KC2.out); have C7 := Lib.hid (C5.out.kp KC2.out); have L7 := Lib.hid (L5.out.kp KC2.out); have K7 := Lib.hid (K5.out.trans KC2.out); obtain ⟨s0, s1, s2⟩ := cells3 B7.out)
    | fail)
  have X7 := Lib.hid BC2.out
  have Y7 := Lib.hid BL2.out
  clear KT KC1 BL1 BC1 KC2 BC2 BL2 C5 L5
  refine (HU.out _ K7.out HOK.out).mono ?_
  rintro _ w8 ⟨x8, y8, p8, q8, rfl, c8, l8, k8⟩
  obtain ⟨f1, f2, f3, f4, f5, f6, rfl, rfl⟩ := HXC.out _ _ _ c8
  obtain ⟨g1, g2, g3, g4, g5, g6, rfl, rfl⟩ := HXL.out _ _ _ l8
  have C8 := Lib.hid c8
  have L8 := Lib.hid l8
  have K8 := Lib.hid (K7.out.trans k8)
  have X8 := Lib.hid (X7.out.kp k8)
  have Y8 := Lib.hid (Y7.out.kp k8)
  have C78 := Lib.hid (C7.out.kp k8)
  have L78 := Lib.hid (L7.out.kp k8)
  clear c8 l8 k8 s0 s1 s2 X7 Y7 C7 L7
  have KT := Lib.hid (keep_two w8 25 43 zc3 zc3)
  unfold zc3 at KT
  go_wp2_with (first
    | (refine wpList_store_row rfl rfl 25 (.tmp 9) (.tmp 33) rfl w8.heap.size 25 _ #[.int .i64 TC.next, .slice f1 f2 f3, .slice f4 f5 f6] rfl rfl KT.out.1 rfl (three_one rfl rfl rfl) infoCh3 ?_; intro w9 bc1 gc1 hc1; have KC1 := Lib.hid (hc1 w8 KT.out.2.2 (Nat.le_refl _)); have BL1 := Lib.hid (KT.out.2.1.grow gc1 (by omega)); have BC1 := Lib.hid bc1; clear bc1 gc1 hc1)
    | (refine wpList_store_row rfl rfl 43 (.tmp 10) (.tmp 34) rfl (w8.heap.size + 1) 43 _ #[.int .i64 TL.pos, .slice g1 g2 g3, .slice g4 g5 g6] rfl rfl BL1.out rfl (three_one rfl rfl rfl) infoLk3 ?_; intro w10 bl2 gl2 hl2; have KC2 := Lib.hid (hl2 w8 KC1.out (by omega)); have BC2 := Lib.hid (BC1.out.grow gl2 (by omega)); have BL2 := Lib.hid bl2; clear bl2 gl2 hl2; have X10 := Lib.hid (X8.out.kp KC2.out); have Y10 := Lib.hid (Y8.out.kp KC2.out); have C710 := Lib.hid (C78.out.kp KC2.out); have L710 := Lib.hid (L78.out.kp KC2.out); have C10 := Lib.hid (C8.out.kp KC2.out); have L10 := Lib.hid (L8.out.kp KC2.out); have K10 := Lib.hid (K8.out.trans KC2.out); obtain ⟨s0, s1, s2⟩ := cells3 X10.out; obtain ⟨t0, t1, t2⟩ := cells3 BC2.out)
    | fail)
  have Z10 := Lib.hid BC2.out
  have V10 := Lib.hid BL2.out
  clear KT KC1 BL1 BC1 KC2 BC2 BL2
  refine (HS.out _ _ _ _ _ C710.out C10.out).mono ?_
  rintro _ w11 ⟨⟨bb, rfl, hb⟩, k11⟩
  obtain rfl : bb = true := by first | exact hb.2 trivial | exact hb.2 rfl
  have K11 := Lib.hid (K10.out.trans k11)
  have Y11 := Lib.hid (Y10.out.kp k11)
  have V11 := Lib.hid (V10.out.kp k11)
  have L711 := Lib.hid (L710.out.kp k11)
  have L11 := Lib.hid (L10.out.kp k11)
  clear hb k11 s0 s1 s2 t0 t1 t2
  obtain ⟨s0, s1, s2⟩ := cells3 Y11.out
  obtain ⟨t0, t1, t2⟩ := cells3 V11.out
  go_wp2_with fail
  refine (HL.out _ _ _ _ _ L711.out L11.out).mono ?_
  rintro _ w12 ⟨⟨bb, rfl, hb⟩, k12⟩
  obtain rfl : bb = true := by first | exact hb.2 trivial | exact hb.2 rfl
  have K12 := Lib.hid (K11.out.trans k12)
  have tE : (TE == TE) = true := beq_self_eq_true TE
  clear hb k12 s0 s1 s2 t0 t1 t2
  go_wp2_with fail
  go_ret
  exact ⟨rfl, K12.out⟩
theorem tells_eq {b b' : Bool} {p : Prop} (h : b = true ↔ p) (h' : b' = true ↔ p) : (b == b') = true := by
  cases b <;> cases b' <;> simp_all
set_option maxRecDepth 100000 in
set_option maxHeartbeats 3000000 in
theorem ratchTells_walk (v x y x' y' : Value) (send : List UInt8) (n i : Int) (A B : Ch) (w : World) (h : Rd w v send) (hA : CIn w x y A) (hB : CIn w x' y' B) (hn : -9223372036854775808 ≤ n ∧ n ≤ 9223372036854775807) (hi : -9223372036854775808 ≤ i ∧ i ≤ 9223372036854775807) (hT : Tab w) :
    Calls Tryz.prog 3 #[.agg #[v, .int .i64 n, .int .i64 i, .int .i64 A.next, x, y, .int .i64 B.next, x', y']] w fun e w' => e = .returned (.bool true) ∧ Kp w w' := by
  have HCA := Lib.hid hA
  have HCB := Lib.hid hB
  have HV := Lib.hid h
  obtain ⟨sa, cs, rfl, _, _⟩ := h.shape
  obtain ⟨a1, a2, a3, a4, a6, rfl, rfl⟩ := hA.shapes
  obtain ⟨b1, b2, b3, b4, b6, rfl, rfl⟩ := hB.shapes
  have HTB := Lib.hid hT
  clear hT
  have HSH := Lib.hid (fun W (k : Kp w W) => shownRatch_any W (HTB.out.kp k))
  have HFA := Lib.hid (fun W (k : Kp w W) => refFew13_any _ _ A W (HCA.out.kp k))
  have HFB := Lib.hid (fun W (k : Kp w W) => refFew13_any _ _ B W (HCB.out.kp k))
  have HRA := Lib.hid (fun W (k : Kp w W) => ratchRight_any _ _ A W (HCA.out.kp k))
  have HRD := Lib.hid (fun W (k : Kp w W) => refRight13_any _ _ A W (HCA.out.kp k))
  have HSA := Lib.hid (fun W (k : Kp w W) => ratchSame_any _ _ _ _ A B W (HCA.out.kp k) (HCB.out.kp k))
  have HSD := Lib.hid (fun W (k : Kp w W) => refSame13_any _ _ _ _ A B W (HCA.out.kp k) (HCB.out.kp k))
  have HL := Lib.hid (fun W (k : Kp w W) => ratchLeaf_any _ send n i W (HV.out.kp k) hn hi (HTB.out.kp k))
  have HM := Lib.hid (fun W (k : Kp w W) => refLeaf13_any _ send n i W (HV.out.kp k) hn hi)
  have HST := Lib.hid (fun W (k : Kp w W) => ratchStart_any _ send n i W (HV.out.kp k) hn hi (HTB.out.kp k))
  have HSR := Lib.hid (fun W (k : Kp w W) => refStart13_any _ send n i W (HV.out.kp k) hn hi)
  have HSS := Lib.hid (fun W x y x' y' (h : CIn W x y (startC send n i)) (h' : CIn W x' y' (startC send n i)) => refSame13_any x y x' y' (startC send n i) (startC send n i) W h h')
  have HSB := Lib.hid (fun W u v (h : Rd W u (leafR send n i)) (h' : Rd W v (leafR send n i)) => same_at u v _ _ true W h h' (decide_eq_true rfl))
  have HXC : Hid (∀ W x y, CIn W x y (startC send n i) → ∃ a1 n1 c1 a2 n2 c2, x = .slice a1 n1 c1 ∧ y = .slice a2 n2 c2) := fun W x y h => by obtain ⟨a, b, c, d, e, f, g⟩ := h.shapes; exact ⟨_, _, _, _, _, _, f, g⟩
  rw [show (startC send n i).next = 0 from rfl] at HSS
  generalize startC send n i = SC at *
  generalize leafR send n i = LR at *
  generalize leafE send n i = LE at *
  generalize (A = B) = AB at *
  generalize A.ok = OA at *
  generalize A.few13 = FA at *
  generalize B.few13 = FB at *
  generalize A.next = NA at *
  generalize B.next = NB at *
  generalize A.spare.length = a5 at *
  generalize B.spare.length = b5 at *
  generalize send.length = ns at *
  obtain ⟨w1, hw1⟩ : ∃ w1, w.alloc (.cells #[.slice sa ns cs, .int .i64 n, .int .i64 i, .int .i64 NA, .slice a1 a2 a3, .slice a4 a5 a6, .int .i64 NB, .slice b1 b2 b3, .slice b4 b5 b6] 27) = w1 := ⟨_, rfl⟩
  have B1 : Hid (Bx w1 w.heap.size 27 #[.slice sa ns cs, .int .i64 n, .int .i64 i, .int .i64 NA, .slice a1 a2 a3, .slice a4 a5 a6, .int .i64 NB, .slice b1 b2 b3, .slice b4 b5 b6]) := by rw [← hw1]; exact Bx.new w _ _
  have K1 : Hid (Kp w w1) := by rw [← hw1]; exact (Kp.refl _).alloc _
  have HW := Lib.hid hw1
  have s0 := B1.out.cell 0
  have s1 := B1.out.cell 1
  have s2 := B1.out.cell 2
  have s3 := B1.out.cell 3
  have s4 := B1.out.cell 4
  have s5 := B1.out.cell 5
  have s6 := B1.out.cell 6
  have s7 := B1.out.cell 7
  have s8 := B1.out.cell 8
  simp only [List.getElem?_toArray, List.getElem?_cons_zero, List.getElem?_cons_succ] at s0 s1 s2 s3 s4 s5 s6 s7 s8
  have BA := Lib.hid (Bx.new w1 25 zc3)
  have KA := Lib.hid ((Kp.refl w1).alloc (.cells zc3 25))
  unfold zc3 at BA KA
  clear h hA hB hw1
  go_enter Tryz.func3, Tryz.ntmps3
  go_wp2_with (first
    | (rw [HW.out])
    | (refine wpList_store_row rfl rfl 25 (.tmp 6) (.tmp 24) rfl w1.heap.size 25 _ #[.int .i64 NA, .slice a1 a2 a3, .slice a4 a5 a6] rfl rfl BA.out rfl (three_one rfl rfl rfl) infoCh3 ?_; intro w2 ba2 ga2 ha2; have K12 := Lib.hid (ha2 w1 KA.out (Nat.le_refl _)); have K2 := Lib.hid (K1.out.trans K12.out); have A2 := Lib.hid ba2; have BB := Lib.hid (Bx.new w2 25 #[.int .i64 0, .slice none 0 0, .slice none 0 0]); have KB := Lib.hid ((Kp.refl w2).alloc (.cells #[.int .i64 0, .slice none 0 0, .slice none 0 0] 25)); have u6 := K12.out.cell s6; have u7 := K12.out.cell s7; have u8 := K12.out.cell s8; clear ba2 ga2 ha2 s0 s1 s2 s3 s4 s5 s6 s7 s8)
    | (refine wpList_store_row rfl rfl 25 (.tmp 7) (.tmp 26) rfl w2.heap.size 25 _ #[.int .i64 NB, .slice b1 b2 b3, .slice b4 b5 b6] rfl rfl BB.out rfl (three_one rfl rfl rfl) infoCh3 ?_; intro w3 bb3 gb3 hb3; have K23 := Lib.hid (hb3 w2 KB.out (Nat.le_refl _)); have K3 := Lib.hid (K2.out.trans K23.out); have A3 := Lib.hid (A2.out.kp K23.out); have B3 := Lib.hid bb3; clear bb3 gb3 hb3 u6 u7 u8)
    | fail)
  refine (HSH.out _ (by first | exact K1.out | exact K2.out | exact K3.out | exact K4.out | exact K5.out | exact K6.out | exact K7.out | exact K8.out | exact K9.out | exact KK.out | exact Kp.refl _)).mono ?_
  rintro _ w4 ⟨rfl, k4⟩
  have K4 := Lib.hid (K3.out.trans k4)
  have A4 := Lib.hid (A3.out.kp k4)
  have B4 := Lib.hid (B3.out.kp k4)
  clear k4
  obtain ⟨s0, s1, s2⟩ := cells3 A4.out
  obtain ⟨t0, t1, t2⟩ := cells3 B4.out
  by_cases h40 : 40 < ns
  · have q1 : (40 : Int) < (ns : Int) := by omega
    go_wp2_with fail
    go_ret
    exact ⟨rfl, K4.out⟩
  have q1 : ¬ (40 : Int) < (ns : Int) := by omega
  go_wp2_with fail
  refine (HFA.out _ K4.out).mono ?_
  rintro _ w5 ⟨⟨f5, rfl, g5⟩, k5⟩
  have K5 := Lib.hid (K4.out.trans k5)
  have A5 := Lib.hid (A4.out.kp k5)
  have B5 := Lib.hid (B4.out.kp k5)
  clear k5 g5 s0 s1 s2 t0 t1 t2
  obtain ⟨s0, s1, s2⟩ := cells3 A5.out
  obtain ⟨t0, t1, t2⟩ := cells3 B5.out
  cases f5
  · go_wp2_with fail
    go_ret
    exact ⟨rfl, K5.out⟩
  go_wp2_with fail
  refine (HFB.out _ K5.out).mono ?_
  rintro _ w6 ⟨⟨f6, rfl, g6⟩, k6⟩
  have K6 := Lib.hid (K5.out.trans k6)
  have A6 := Lib.hid (A5.out.kp k6)
  have B6 := Lib.hid (B5.out.kp k6)
  clear k6 g6 s0 s1 s2 t0 t1 t2
  obtain ⟨s0, s1, s2⟩ := cells3 A6.out
  obtain ⟨t0, t1, t2⟩ := cells3 B6.out
  cases f6
  · go_wp2_with fail
    go_ret
    exact ⟨rfl, K6.out⟩
  clear s0 s1 s2 t0 t1 t2
  go_wp2_with fail
  refine (HL.out _ K6.out).mono ?_
  rintro _ w7 ⟨⟨u7, rfl, r7⟩, k7⟩
  obtain ⟨p1, p2, p3, rfl⟩ := r7.sl
  have R7 := Lib.hid r7
  have K7 := Lib.hid (K6.out.trans k7)
  have K67 := Lib.hid k7
  clear r7 k7
  go_wp2_with fail
  refine (HM.out _ K7.out).mono ?_
  rintro _ w8 ⟨⟨u8, rfl, r8, _⟩, k8⟩
  obtain ⟨q1, q2, q3, rfl⟩ := r8.sl
  have R8 := Lib.hid r8
  have R78 := Lib.hid (R7.out.kp k8)
  have K8 := Lib.hid (K7.out.trans k8)
  have K68 := Lib.hid (K67.out.trans k8)
  clear r8 k8
  go_wp2_with fail
  refine (HST.out _ K8.out).mono ?_
  rintro _ w9 ⟨⟨x9, y9, rfl, c9⟩, k9⟩
  obtain ⟨d1, d2, d3, d4, d5, d6, rfl, rfl⟩ := HXC.out _ _ _ c9
  have C9 := Lib.hid c9
  have K9 := Lib.hid (K8.out.trans k9)
  have K69 := Lib.hid (K68.out.trans k9)
  have R79 := Lib.hid (R78.out.kp k9)
  have R89 := Lib.hid (R8.out.kp k9)
  clear c9 k9
  have BC := Lib.hid (Bx.new w9 25 #[.int .i64 0, .slice none 0 0, .slice none 0 0])
  have KC := Lib.hid ((Kp.refl w9).alloc (.cells #[.int .i64 0, .slice none 0 0, .slice none 0 0] 25))
  go_wp2_with (first
    | (refine wpList_store_row rfl rfl 25 (.tmp 13) (.tmp 61) rfl w9.heap.size 25 _ #[.int .i64 0, .slice d1 d2 d3, .slice d4 d5 d6] rfl rfl BC.out rfl (three_one rfl rfl rfl) infoCh3 ?_; intro w10 bc10 gc10 hc10; have K910 := Lib.hid (hc10 w9 KC.out (Nat.le_refl _)); have C10 := Lib.hid bc10; clear bc10 gc10 hc10)
    | fail)
  refine (HSR.out _ (K9.out.trans K910.out)).mono ?_
  rintro _ w11 ⟨⟨x11, y11, rfl, c11⟩, k11⟩
  obtain ⟨e1, e2, e3, e4, e5, e6, rfl, rfl⟩ := HXC.out _ _ _ c11
  have D11 := Lib.hid c11
  have K911 := Lib.hid (K910.out.trans k11)
  have C11 := Lib.hid (C10.out.kp k11)
  clear c11 k11 BC KC
  have BD := Lib.hid (Bx.new w11 25 #[.int .i64 0, .slice none 0 0, .slice none 0 0])
  have KD := Lib.hid ((Kp.refl w11).alloc (.cells #[.int .i64 0, .slice none 0 0, .slice none 0 0] 25))
  go_wp2_with (first
    | (refine wpList_store_row rfl rfl 25 (.tmp 15) (.tmp 68) rfl w11.heap.size 25 _ #[.int .i64 0, .slice e1 e2 e3, .slice e4 e5 e6] rfl rfl BD.out rfl (three_one rfl rfl rfl) infoCh3 ?_; intro w12 bd12 gd12 hd12; have K1112 := Lib.hid (hd12 w11 KD.out (Nat.le_refl _)); have E12 := Lib.hid bd12; clear bd12 gd12 hd12)
    | fail)
  have K612 := Lib.hid (K69.out.trans (K911.out.trans K1112.out))
  have K12W := Lib.hid (K6.out.trans K612.out)
  have A12 := Lib.hid (A6.out.kp K612.out)
  have B12 := Lib.hid (B6.out.kp K612.out)
  have C12 := Lib.hid (C11.out.kp K1112.out)
  have I1 := Lib.hid (C9.out.kp (K911.out.trans K1112.out))
  have I2 := Lib.hid (D11.out.kp K1112.out)
  have RL1 := Lib.hid (R79.out.kp (K911.out.trans K1112.out))
  have RL2 := Lib.hid (R89.out.kp (K911.out.trans K1112.out))
  have HCC : Hid (∀ W, Kp w12 W → W.cell? ⟨w9.heap.size, 0, none⟩ = some (.int .i64 0) ∧ W.cell? ⟨w9.heap.size, 1, none⟩ = some (.slice d1 d2 d3) ∧ W.cell? ⟨w9.heap.size, 2, none⟩ = some (.slice d4 d5 d6) ∧ W.cell? ⟨w11.heap.size, 0, none⟩ = some (.int .i64 0) ∧ W.cell? ⟨w11.heap.size, 1, none⟩ = some (.slice e1 e2 e3) ∧ W.cell? ⟨w11.heap.size, 2, none⟩ = some (.slice e4 e5 e6) ∧ W.cell? ⟨w1.heap.size, 0, none⟩ = some (.int .i64 NA) ∧ W.cell? ⟨w1.heap.size, 1, none⟩ = some (.slice a1 a2 a3) ∧ W.cell? ⟨w1.heap.size, 2, none⟩ = some (.slice a4 a5 a6) ∧ W.cell? ⟨w2.heap.size, 0, none⟩ = some (.int .i64 NB) ∧ W.cell? ⟨w2.heap.size, 1, none⟩ = some (.slice b1 b2 b3) ∧ W.cell? ⟨w2.heap.size, 2, none⟩ = some (.slice b4 b5 b6)) := fun W hW => ⟨(C12.out.kp hW).cell 0, (C12.out.kp hW).cell 1, (C12.out.kp hW).cell 2, (E12.out.kp hW).cell 0, (E12.out.kp hW).cell 1, (E12.out.kp hW).cell 2, (A12.out.kp hW).cell 0, (A12.out.kp hW).cell 1, (A12.out.kp hW).cell 2, (B12.out.kp hW).cell 0, (B12.out.kp hW).cell 1, (B12.out.kp hW).cell 2⟩
  have KD12 : Hid (Kp w12 w12.drew) := (Kp.refl w12).drew
  have S12 := Lib.hid (HCC.out _ KD12.out)
  have S11 := Lib.hid (HCC.out _ (Kp.refl w12))
  have tE : (LE == LE) = true := beq_self_eq_true LE
  clear K7 K67 R7 R8 R78 K8 K68 K9 K69 R79 R89 K910 C10 D11 K911 C11 BD KD K1112 C9 A6 B6 A5 B5 A4 B4 A3 B3 A2
  go_region_held3 (fun W => W.cell? ⟨w9.heap.size, 0, none⟩ = some (.int .i64 0) ∧ W.cell? ⟨w9.heap.size, 1, none⟩ = some (.slice d1 d2 d3) ∧ W.cell? ⟨w9.heap.size, 2, none⟩ = some (.slice d4 d5 d6) ∧ W.cell? ⟨w11.heap.size, 0, none⟩ = some (.int .i64 0) ∧ W.cell? ⟨w11.heap.size, 1, none⟩ = some (.slice e1 e2 e3) ∧ W.cell? ⟨w11.heap.size, 2, none⟩ = some (.slice e4 e5 e6) ∧ W.cell? ⟨w1.heap.size, 0, none⟩ = some (.int .i64 NA) ∧ W.cell? ⟨w1.heap.size, 1, none⟩ = some (.slice a1 a2 a3) ∧ W.cell? ⟨w1.heap.size, 2, none⟩ = some (.slice a4 a5 a6) ∧ W.cell? ⟨w2.heap.size, 0, none⟩ = some (.int .i64 NB) ∧ W.cell? ⟨w2.heap.size, 1, none⟩ = some (.slice b1 b2 b3) ∧ W.cell? ⟨w2.heap.size, 2, none⟩ = some (.slice b4 b5 b6))
    (first | with_reducible exact S17.out | with_reducible exact S16.out | with_reducible exact S15.out | with_reducible exact S14.out | with_reducible exact S13.out | with_reducible exact S12.out | exact S12.out | exact S11.out)
    (first
      | (go_at_call 13; refine (HSD.out _ (K12W.out.trans K16.out)).mono ?_; rintro _ w17 ⟨⟨b17, rfl, g17⟩, k17⟩; have K17 := Lib.hid (K16.out.trans k17); have S17 := Lib.hid (HCC.out _ K17.out); have E2 : (b16 == b17) = true := tells_eq g16 g17; clear k17)
      | (go_at_call 16; refine (HSA.out _ (K12W.out.trans K15.out)).mono ?_; rintro _ w16 ⟨⟨b16, rfl, g16⟩, k16⟩; have K16 := Lib.hid (K15.out.trans k16); have S16 := Lib.hid (HCC.out _ K16.out); clear k16)
      | (go_at_call 15; refine (HRD.out _ (K12W.out.trans K14.out)).mono ?_; rintro _ w15 ⟨⟨b15, rfl, g15⟩, k15⟩; have K15 := Lib.hid (K14.out.trans k15); have S15 := Lib.hid (HCC.out _ K15.out); have E1 : (b14 == b15) = true := tells_eq g14 g15; clear k15)
      | (go_at_call 14; refine (HRA.out _ (K12W.out.trans K13.out)).mono ?_; rintro _ w14 ⟨⟨b14, rfl, g14⟩, k14⟩; have K14 := Lib.hid (K13.out.trans k14); have S14 := Lib.hid (HCC.out _ K14.out); clear k14)
      | (go_at_call 13; refine (HSS.out _ _ _ _ _ (I1.out.kp KD12.out) (I2.out.kp KD12.out)).mono ?_; rintro _ w13 ⟨⟨b13, rfl, g13⟩, k13⟩; obtain rfl : b13 = true := (by first | exact g13.2 trivial | exact g13.2 rfl); have K13 := Lib.hid (KD12.out.trans k13); have S13 := Lib.hid (HCC.out _ K13.out); clear k13 g13)
      | (go_at_call 12; refine (HSB.out _ _ _ (RL1.out.kp KD12.out) (RL2.out.kp KD12.out)).mono ?_; rintro _ _ ⟨rfl, rfl⟩))
  go_wp2_with fail
  go_ret
  exact ⟨rfl, K12W.out.trans K17.out⟩
end Go.Proofs.YtigpgcjbpoaclaaGreatDoor

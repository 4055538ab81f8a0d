import Derived.Test.YtigpgcjbpoaclaaDoorB42
set_option linter.unusedVariables false
set_option linter.unusedSimpArgs false
namespace Go.Proofs.YtigpgcjbpoaclaaDoor
open Go.RowKit
theorem ends_step {c : Ch} (h : c.ok) (hn : c.next ≤ 4294967293) : ∃ Y : Ch, ∃ L : Lk, (⟨4294967293, c.sec, c.spare⟩ : Ch).ok ∧ (takE ⟨4294967293, c.sec, c.spare⟩ 4294967293 = 0 ∧ takC ⟨4294967293, c.sec, c.spare⟩ 4294967293 = Y ∧ takL ⟨4294967293, c.sec, c.spare⟩ 4294967293 = L) ∧ Y.next = 4294967294 ∧ Y.ok ∧ takE Y 4294967294 = 4 := by
  have hd := h.raise hn (by omega)
  obtain ⟨e1, e2, e3⟩ := tak_step hd 0 (by omega) (by show (4294967293 : Int) + (0 : Nat) + 1 ≤ _; omega)
  have okY := takC_ok hd 4294967293
  have hY : (takC ⟨4294967293, c.sec, c.spare⟩ 4294967293).next = 4294967294 := by
    have : takC ⟨4294967293, c.sec, c.spare⟩ 4294967293 = _ := e2
    rw [this]
    rfl
  exact ⟨_, _, hd, ⟨e1, rfl, rfl⟩, hY, okY, tak_end okY hY⟩
set_option maxRecDepth 100000 in
set_option maxHeartbeats 3000000 in
theorem ratchEnds_walk (x y : Value) (c : Ch) (B : Nat) (w : World) (h : CIn w x y c) (hB : B ≤ 65535) (hT : Tab w) :
    Calls Tryd.prog 6 #[.agg #[.int .i64 c.next, x, y], .int .u16 B] w fun e w' => e = .returned (.bool true) ∧ Kp w w' := by
  have HC := Lib.hid h
  obtain ⟨a1, n1, c1, a2, c2, rfl, rfl⟩ := h.shapes
  have HTB := Lib.hid hT
  clear hT
  have HSH := Lib.hid (fun W (k : Kp w W) => shownRatch_any W (HTB.out.kp k))
  have HF := Lib.hid (fun W (k : Kp w W) => refFew13_any _ _ c W (HC.out.kp k))
  have HR := Lib.hid (fun W (k : Kp w W) => refRight13_any _ _ c W (HC.out.kp k))
  have HXC : Hid (∀ (C : Ch) W x y, CIn W x y C → ∃ a1 n1 c1 a2 n2 c2, x = .slice a1 n1 c1 ∧ y = .slice a2 n2 c2) := fun C W x y h => by obtain ⟨a, b, c, d, e, f, g⟩ := h.shapes; exact ⟨_, _, _, _, _, _, f, g⟩
  have HXL : Hid (∀ (K : Lk) W x y, LIn W x y K → ∃ a1 n1 c1 a2 n2 c2, x = .slice a1 n1 c1 ∧ y = .slice a2 n2 c2) := fun K W x y h => by obtain ⟨a, b, c, d, e, f⟩ := h.shapes; exact ⟨_, _, _, _, _, _, e, f⟩
  have HNL : Hid (∀ W x y, LIn W x y noLk → ∃ a1 c1 a2 c2, x = .slice a1 0 c1 ∧ y = .slice a2 0 c2) := fun W x y h => h.shapes
  have HS := Lib.hid (fun W x y x' y' (h : CIn W x y c) (h' : CIn W x' y' c) => refSame13_any x y x' y' c c W h h')
  obtain ⟨NX, hNX⟩ : ∃ n, c.next = n := ⟨_, rfl⟩
  obtain ⟨SN, hSN⟩ : ∃ n, c.spare.length = n := ⟨_, rfl⟩
  have HNX := Lib.hid hNX
  rw [hSN] at HC HF HR ⊢
  rw [hNX] at HF HR HS ⊢
  obtain ⟨w1, hw1⟩ : ∃ w1, w.alloc (.cells #[.int .i64 NX, .slice a1 n1 c1, .slice a2 SN c2] 34) = w1 := ⟨_, rfl⟩
  have B1 : Hid (Bx w1 w.heap.size 34 #[.int .i64 NX, .slice a1 n1 c1, .slice a2 SN c2]) := by rw [← hw1]; exact Bx.new w _ _
  have K1 : Hid (Kp w w1) := by rw [← hw1]; exact (Kp.refl _).alloc _
  have HW := Lib.hid hw1
  clear h hw1 hNX hSN
  go_enter Tryd.func6, Tryd.ntmps6
  go_wp2_with (first | (rw [HW.out]) | fail)
  refine (HSH.out _ (by first | exact K1.out | exact K2.out | exact K3.out | exact K4.out | exact K5.out | exact K6.out | exact K7.out | exact K8.out | exact K9.out | exact KK.out | exact Kp.refl _)).mono ?_
  rintro _ w2 ⟨rfl, k2⟩
  have K2 := Lib.hid (K1.out.trans k2)
  have B2 := Lib.hid (B1.out.kp k2)
  clear k2 B1
  obtain ⟨s0, s1, s2⟩ := cells3 B2.out
  go_wp2_with fail
  refine (HF.out _ K2.out).mono ?_
  rintro _ w3 ⟨⟨b3, rfl, h3⟩, k3⟩
  have K3 := Lib.hid (K2.out.trans k3)
  have B3 := Lib.hid (B2.out.kp k3)
  clear k3 B2 s0 s1 s2
  obtain ⟨s0, s1, s2⟩ := cells3 B3.out
  cases b3
  · go_wp2_with fail
    go_ret
    exact ⟨rfl, K3.out⟩
  go_wp2_with fail
  refine (HR.out _ K3.out).mono ?_
  rintro _ w4 ⟨⟨b4, rfl, h4⟩, k4⟩
  have K4 := Lib.hid (K3.out.trans k4)
  have B4 := Lib.hid (B3.out.kp k4)
  clear k4 B3 s0 s1 s2
  obtain ⟨s0, s1, s2⟩ := cells3 B4.out
  cases b4
  · go_wp2_with fail
    go_ret
    exact ⟨rfl, K4.out⟩
  have hok := h4.1 rfl
  have hlo := hok.lo
  have hhi := hok.hi
  rw [HNX.out] at hlo hhi
  obtain ⟨AT, hAT⟩ : ∃ z : Int, NX + 101 + (B : Int) = z := ⟨_, rfl⟩
  have hfar := tak_far hok (a := AT) (by rw [HNX.out]; omega)
  have hne : takE c AT ≠ 0 := by rw [hfar]; split <;> decide
  obtain ⟨hb1, hb2⟩ := tak_bad hne
  have HT := Lib.hid (fun W (k : Kp w W) => ratchTake_any _ _ c AT W (HC.out.kp k) hok (by omega))
  unfold TakenR at HT
  rw [hb1, hb2, HNX.out] at HT
  have HOK := Lib.hid hok
  have i1 : IntKind.i64.wrap (NX + 101) = NX + 101 := IntWalk.i64_in _ (by omega)
  have i2 : IntKind.i64.wrap (NX + 101 + (B : Int)) = AT := by rw [IntWalk.i64_in _ (by omega)]; exact hAT
  have i3 : IntKind.i64.wrap (B : Int) = (B : Int) := IntWalk.i64_in _ (by omega)
  have HAT := Lib.hid hAT
  obtain ⟨EE, hEE⟩ : ∃ z, takE c AT = z := ⟨_, rfl⟩
  rw [hEE] at HT hfar
  have HBIG : Hid (AT ≤ 4294967294 → EE = 4) := fun h => by rw [if_pos h] at hfar; exact hfar
  have HBAD : Hid (¬ AT ≤ 4294967294 → EE = 1) := fun h => by rw [if_neg h] at hfar; exact hfar
  clear h3 h4 hok hAT hfar hne hb1 hb2 hEE hlo
  go_wp2_with fail
  refine (HT.out _ K4.out).mono ?_
  rintro _ w5 ⟨x5, y5, p5, q5, rfl, c5, l5, k5⟩
  obtain ⟨d1, d2, d3, d4, d5, d6, rfl, rfl⟩ := HXC.out _ _ _ _ c5
  obtain ⟨e1, e3, e4, e6, rfl, rfl⟩ := HNL.out _ _ _ l5
  have C5 := Lib.hid c5
  have K45 := Lib.hid k5
  have K5 := Lib.hid (K4.out.trans k5)
  have B5 := Lib.hid (B4.out.kp k5)
  clear c5 l5 k5 s0 s1 s2
  rw [show noLk.pos = 0 from rfl]
  have hpart : (EE = 4 ∧ AT ≤ 4294967294) ∨ (EE = 1 ∧ ¬ AT ≤ 4294967294) := by
    by_cases hm : AT ≤ 4294967294
    · exact .inl ⟨HBIG.out hm, hm⟩
    · exact .inr ⟨HBAD.out (by omega), hm⟩
  have HND := Lib.hid (fun h : NX ≤ 4294967293 => ends_step HOK.out (by rw [HNX.out]; exact h))
  clear HBIG HBAD
  rcases hpart with ⟨rfl, hm⟩ | ⟨rfl, hm⟩
  · have KT := Lib.hid (keep_two w5 34 37 zc3 zc3)
    unfold zc3 at KT
    go_wp2_with (first
      | (refine wpList_store_row rfl rfl 34 (.tmp 7) (.tmp 37) rfl w5.heap.size 34 _ #[.int .i64 NX, .slice d1 d2 d3, .slice d4 d5 d6] rfl rfl KT.out.1 rfl (three_one rfl rfl rfl) infoCh3 ?_; intro w6 bc1 gc1 hc1; have KC1 := Lib.hid (hc1 w5 KT.out.2.2 (Nat.le_refl _)); have BL1 := Lib.hid (KT.out.2.1.grow gc1 (by omega)); have BC1 := Lib.hid bc1; clear bc1 gc1 hc1)
      | (refine wpList_store_row rfl rfl 37 (.tmp 8) (.tmp 38) rfl (w5.heap.size + 1) 37 _ #[.int .i64 0, .slice e1 0 e3, .slice e4 0 e6] rfl rfl BL1.out rfl (three_one rfl rfl rfl) infoLk3 ?_; intro w7 bl2 gl2 hl2; have KC2 := Lib.hid (hl2 w5 KC1.out (by omega)); have BC2 := Lib.hid (BC1.out.grow gl2 (by omega)); have BL2 := Lib.hid bl2; clear bl2 gl2 hl2; have B7 := Lib.hid (B5.out.kp KC2.out); have C7 := Lib.hid (C5.out.kp KC2.out); have K7 := Lib.hid (K5.out.trans KC2.out); have K57 := Lib.hid KC2.out; have L7 := Lib.hid BL2.out; obtain ⟨s0, s1, s2⟩ := cells3 B7.out; obtain ⟨t0, t1, t2⟩ := cells3 BC2.out; clear KT KC1 BL1 BC1)
      | fail)
    refine (HS.out _ _ _ _ _ C7.out (HC.out.kp K7.out)).mono ?_
    rintro _ w8 ⟨⟨bb, rfl, hb⟩, k8⟩
    obtain rfl : bb = true := by first | exact hb.2 trivial | exact hb.2 rfl
    have K8 := Lib.hid (K7.out.trans k8)
    have B8 := Lib.hid (B7.out.kp k8)
    have L8 := Lib.hid (L7.out.kp k8)
    clear hb k8 s0 s1 s2 t0 t1 t2 KC2 BC2 BL2
    obtain ⟨s0, s1, s2⟩ := cells3 B8.out
    obtain ⟨t0, t1, t2⟩ := cells3 L8.out
    by_cases hq : 4294967293 < NX
    · go_wp2_with fail
      go_ret
      exact ⟨rfl, K8.out⟩
    obtain ⟨Y, L, okD, ⟨g0, g1, g2⟩, nY, okY, g3⟩ := HND.out (by omega)
    have HT2 := Lib.hid (fun W x y (h : CIn W x y ⟨4294967293, c.sec, c.spare⟩) => ratchTake_any x y ⟨4294967293, c.sec, c.spare⟩ 4294967293 W h okD (by omega))
    have HT3 := Lib.hid (fun W x y (h : CIn W x y Y) => ratchTake_any x y Y 4294967294 W h okY (by omega))
    unfold TakenR at HT2 HT3
    have hb3 := tak_bad (show takE Y 4294967294 ≠ 0 by rw [g3]; decide)
    rw [g0, g1, g2, nY] at HT2
    rw [hb3.1, hb3.2, g3, nY] at HT3
    have HSY := Lib.hid (fun W x y x' y' (h : CIn W x y Y) (h' : CIn W x' y' Y) => refSame13_any x y x' y' Y Y W h h')
    have HRY := Lib.hid (fun W x y (h : CIn W x y Y) => refRight13_any x y Y W h)
    rw [nY] at HSY HRY
    have HOY := Lib.hid okY
    generalize L.pos = LP at *
    clear g0 g1 g2 g3 nY okY okD hb3 HND
    have B9 := Lib.hid (Bx.new w8 34 #[.int .i64 0, .slice none 0 0, .slice none 0 0])
    have KB9 := Lib.hid ((Kp.refl w8).alloc (.cells #[.int .i64 0, .slice none 0 0, .slice none 0 0] 34))
    go_wp2_with (first
      | (refine wpList_store_row rfl rfl 34 (.tmp 10) (.tmp 70) rfl w8.heap.size 34 _ #[.int .i64 NX, .slice a1 n1 c1, .slice a2 SN c2] rfl rfl B9.out rfl (three_one rfl rfl rfl) infoCh3 ?_; intro w9 b9 g9 h9; have K89 := Lib.hid (h9 w8 KB9.out (Nat.le_refl _)); have v0 := b9.cell 0; have vf := b9.frozen 0; simp only [List.getElem?_toArray, List.getElem?_cons_zero] at v0; have D10 : Hid (Bx (w9.setCell ⟨w8.heap.size, 0, none⟩ (.int .i64 4294967293)) w8.heap.size 34 #[.int .i64 4294967293, .slice a1 n1 c1, .slice a2 SN c2]) := b9.set 0 _; have K10 : Hid (Kp w8 (w9.setCell ⟨w8.heap.size, 0, none⟩ (.int .i64 4294967293))) := K89.out.setNew (Nat.le_refl _) _; obtain ⟨r0, r1, r2⟩ := cells3 D10.out; clear b9 g9 h9)
      | fail)
    have K10W := Lib.hid (K8.out.trans K10.out)
    generalize w9.setCell ⟨w8.heap.size, 0, none⟩ (.int .i64 4294967293) = w10 at *
    have CN : Hid (CIn w10 (.slice a1 n1 c1) (.slice a2 SN c2) ⟨4294967293, c.sec, c.spare⟩) := ⟨HC.out.sec.kp K10W.out, HC.out.spare.kp K10W.out⟩
    refine (HT2.out _ _ _ CN.out).mono ?_
    rintro _ w11 ⟨x11, y11, p11, q11, rfl, c11, l11, k11⟩
    obtain ⟨f1, f2, f3, f4, f5, f6, rfl, rfl⟩ := HXC.out _ _ _ _ c11
    obtain ⟨g1, g2, g3, g4, g5, g6, rfl, rfl⟩ := HXL.out _ _ _ _ l11
    have C11 := Lib.hid c11
    have K11 := Lib.hid (K10W.out.trans k11)
    clear c11 l11 k11 r0 r1 r2 v0 vf s0 s1 s2 t0 t1 t2
    have KT := Lib.hid (keep_two w11 34 37 zc3 zc3)
    unfold zc3 at KT
    go_wp2_with (first
      | (refine wpList_store_row rfl rfl 34 (.tmp 11) (.tmp 75) rfl w11.heap.size 34 _ #[.int .i64 4294967294, .slice f1 f2 f3, .slice f4 f5 f6] rfl rfl KT.out.1 rfl (three_one rfl rfl rfl) infoCh3 ?_; intro w12 bc1 gc1 hc1; have KC1 := Lib.hid (hc1 w11 KT.out.2.2 (Nat.le_refl _)); have BL1 := Lib.hid (KT.out.2.1.grow gc1 (by omega)); have BC1 := Lib.hid bc1; clear bc1 gc1 hc1)
      | (refine wpList_store_row rfl rfl 37 (.tmp 12) (.tmp 76) rfl (w11.heap.size + 1) 37 _ #[.int .i64 LP, .slice g1 g2 g3, .slice g4 g5 g6] rfl rfl BL1.out rfl (three_one rfl rfl rfl) infoLk3 ?_; intro w13 bl2 gl2 hl2; have KC2 := Lib.hid (hl2 w11 KC1.out (by omega)); have BC2 := Lib.hid (BC1.out.grow gl2 (by omega)); have BL2 := Lib.hid bl2; clear bl2 gl2 hl2; have C13 := Lib.hid (C11.out.kp KC2.out); have K13 := Lib.hid (K11.out.trans KC2.out); have Y13 := Lib.hid BC2.out; obtain ⟨t0, t1, t2⟩ := cells3 BC2.out; clear KT KC1 BL1 BC1)
      | fail)
    refine (HT3.out _ _ _ C13.out).mono ?_
    rintro _ w14 ⟨x14, y14, p14, q14, rfl, c14, l14, k14⟩
    obtain ⟨h1, h2, h3, h4, h5, h6, rfl, rfl⟩ := HXC.out _ _ _ _ c14
    obtain ⟨i1, i3, i4, i6, rfl, rfl⟩ := HNL.out _ _ _ l14
    have C14 := Lib.hid c14
    have C1314 := Lib.hid (C13.out.kp k14)
    have Y14 := Lib.hid (Y13.out.kp k14)
    have K14 := Lib.hid (K13.out.trans k14)
    clear c14 l14 k14 t0 t1 t2
    rw [show noLk.pos = 0 from rfl]
    have KT := Lib.hid (keep_two w14 34 37 zc3 zc3)
    unfold zc3 at KT
    go_wp2_with (first
      | (refine wpList_store_row rfl rfl 34 (.tmp 14) (.tmp 81) rfl w14.heap.size 34 _ #[.int .i64 4294967294, .slice h1 h2 h3, .slice h4 h5 h6] rfl rfl KT.out.1 rfl (three_one rfl rfl rfl) infoCh3 ?_; intro w15 bc1 gc1 hc1; have KC1 := Lib.hid (hc1 w14 KT.out.2.2 (Nat.le_refl _)); have BL1 := Lib.hid (KT.out.2.1.grow gc1 (by omega)); have BC1 := Lib.hid bc1; clear bc1 gc1 hc1)
      | (refine wpList_store_row rfl rfl 37 (.tmp 15) (.tmp 82) rfl (w14.heap.size + 1) 37 _ #[.int .i64 0, .slice i1 0 i3, .slice i4 0 i6] rfl rfl BL1.out rfl (three_one rfl rfl rfl) infoLk3 ?_; intro w16 bl2 gl2 hl2; have KC2 := Lib.hid (hl2 w14 KC1.out (by omega)); have BC2 := Lib.hid (BC1.out.grow gl2 (by omega)); have BL2 := Lib.hid bl2; clear bl2 gl2 hl2; have C16 := Lib.hid (C14.out.kp KC2.out); have C1316 := Lib.hid (C1314.out.kp KC2.out); have K16 := Lib.hid (K14.out.trans KC2.out); have Y16 := Lib.hid (Y14.out.kp KC2.out); obtain ⟨s0, s1, s2⟩ := cells3 BC2.out; obtain ⟨t0, t1, t2⟩ := cells3 Y16.out; clear KT KC1 BL1 BC1)
      | fail)
    refine (HSY.out _ _ _ _ _ C16.out C1316.out).mono ?_
    rintro _ w17 ⟨⟨bb, rfl, hb⟩, k17⟩
    obtain rfl : bb = true := by first | exact hb.2 trivial | exact hb.2 rfl
    have K17 := Lib.hid (K16.out.trans k17)
    have Y17 := Lib.hid (Y16.out.kp k17)
    have C17 := Lib.hid (C1316.out.kp k17)
    clear hb k17 s0 s1 s2 t0 t1 t2
    obtain ⟨t0, t1, t2⟩ := cells3 Y17.out
    go_wp2_with fail
    refine (HRY.out _ _ _ C17.out).mono ?_
    rintro _ w18 ⟨⟨bb, rfl, hb⟩, k18⟩
    obtain rfl : bb = true := hb.2 HOY.out
    have K18 := Lib.hid (K17.out.trans k18)
    go_wp2_with fail
    go_ret
    exact ⟨rfl, K18.out⟩
  · have KT := Lib.hid (keep_two w5 34 37 zc3 zc3)
    unfold zc3 at KT
    go_wp2_with (first
      | (refine wpList_store_row rfl rfl 34 (.tmp 7) (.tmp 37) rfl w5.heap.size 34 _ #[.int .i64 NX, .slice d1 d2 d3, .slice d4 d5 d6] rfl rfl KT.out.1 rfl (three_one rfl rfl rfl) infoCh3 ?_; intro w6 bc1 gc1 hc1; have KC1 := Lib.hid (hc1 w5 KT.out.2.2 (Nat.le_refl _)); have BL1 := Lib.hid (KT.out.2.1.grow gc1 (by omega)); have BC1 := Lib.hid bc1; clear bc1 gc1 hc1)
      | (refine wpList_store_row rfl rfl 37 (.tmp 8) (.tmp 38) rfl (w5.heap.size + 1) 37 _ #[.int .i64 0, .slice e1 0 e3, .slice e4 0 e6] rfl rfl BL1.out rfl (three_one rfl rfl rfl) infoLk3 ?_; intro w7 bl2 gl2 hl2; have KC2 := Lib.hid (hl2 w5 KC1.out (by omega)); have BC2 := Lib.hid (BC1.out.grow gl2 (by omega)); have BL2 := Lib.hid bl2; clear bl2 gl2 hl2; have B7 := Lib.hid (B5.out.kp KC2.out); have C7 := Lib.hid (C5.out.kp KC2.out); have K7 := Lib.hid (K5.out.trans KC2.out); have K57 := Lib.hid KC2.out; have L7 := Lib.hid BL2.out; obtain ⟨s0, s1, s2⟩ := cells3 B7.out; obtain ⟨t0, t1, t2⟩ := cells3 BC2.out; clear KT KC1 BL1 BC1)
      | fail)
    refine (HS.out _ _ _ _ _ C7.out (HC.out.kp K7.out)).mono ?_
    rintro _ w8 ⟨⟨bb, rfl, hb⟩, k8⟩
    obtain rfl : bb = true := by first | exact hb.2 trivial | exact hb.2 rfl
    have K8 := Lib.hid (K7.out.trans k8)
    have B8 := Lib.hid (B7.out.kp k8)
    have L8 := Lib.hid (L7.out.kp k8)
    clear hb k8 s0 s1 s2 t0 t1 t2 KC2 BC2 BL2
    obtain ⟨s0, s1, s2⟩ := cells3 B8.out
    obtain ⟨t0, t1, t2⟩ := cells3 L8.out
    by_cases hq : 4294967293 < NX
    · go_wp2_with fail
      go_ret
      exact ⟨rfl, K8.out⟩
    obtain ⟨Y, L, okD, ⟨g0, g1, g2⟩, nY, okY, g3⟩ := HND.out (by omega)
    have HT2 := Lib.hid (fun W x y (h : CIn W x y ⟨4294967293, c.sec, c.spare⟩) => ratchTake_any x y ⟨4294967293, c.sec, c.spare⟩ 4294967293 W h okD (by omega))
    have HT3 := Lib.hid (fun W x y (h : CIn W x y Y) => ratchTake_any x y Y 4294967294 W h okY (by omega))
    unfold TakenR at HT2 HT3
    have hb3 := tak_bad (show takE Y 4294967294 ≠ 0 by rw [g3]; decide)
    rw [g0, g1, g2, nY] at HT2
    rw [hb3.1, hb3.2, g3, nY] at HT3
    have HSY := Lib.hid (fun W x y x' y' (h : CIn W x y Y) (h' : CIn W x' y' Y) => refSame13_any x y x' y' Y Y W h h')
    have HRY := Lib.hid (fun W x y (h : CIn W x y Y) => refRight13_any x y Y W h)
    rw [nY] at HSY HRY
    have HOY := Lib.hid okY
    generalize L.pos = LP at *
    clear g0 g1 g2 g3 nY okY okD hb3 HND
    have B9 := Lib.hid (Bx.new w8 34 #[.int .i64 0, .slice none 0 0, .slice none 0 0])
    have KB9 := Lib.hid ((Kp.refl w8).alloc (.cells #[.int .i64 0, .slice none 0 0, .slice none 0 0] 34))
    go_wp2_with (first
      | (refine wpList_store_row rfl rfl 34 (.tmp 10) (.tmp 70) rfl w8.heap.size 34 _ #[.int .i64 NX, .slice a1 n1 c1, .slice a2 SN c2] rfl rfl B9.out rfl (three_one rfl rfl rfl) infoCh3 ?_; intro w9 b9 g9 h9; have K89 := Lib.hid (h9 w8 KB9.out (Nat.le_refl _)); have v0 := b9.cell 0; have vf := b9.frozen 0; simp only [List.getElem?_toArray, List.getElem?_cons_zero] at v0; have D10 : Hid (Bx (w9.setCell ⟨w8.heap.size, 0, none⟩ (.int .i64 4294967293)) w8.heap.size 34 #[.int .i64 4294967293, .slice a1 n1 c1, .slice a2 SN c2]) := b9.set 0 _; have K10 : Hid (Kp w8 (w9.setCell ⟨w8.heap.size, 0, none⟩ (.int .i64 4294967293))) := K89.out.setNew (Nat.le_refl _) _; obtain ⟨r0, r1, r2⟩ := cells3 D10.out; clear b9 g9 h9)
      | fail)
    have K10W := Lib.hid (K8.out.trans K10.out)
    generalize w9.setCell ⟨w8.heap.size, 0, none⟩ (.int .i64 4294967293) = w10 at *
    have CN : Hid (CIn w10 (.slice a1 n1 c1) (.slice a2 SN c2) ⟨4294967293, c.sec, c.spare⟩) := ⟨HC.out.sec.kp K10W.out, HC.out.spare.kp K10W.out⟩
    refine (HT2.out _ _ _ CN.out).mono ?_
    rintro _ w11 ⟨x11, y11, p11, q11, rfl, c11, l11, k11⟩
    obtain ⟨f1, f2, f3, f4, f5, f6, rfl, rfl⟩ := HXC.out _ _ _ _ c11
    obtain ⟨g1, g2, g3, g4, g5, g6, rfl, rfl⟩ := HXL.out _ _ _ _ l11
    have C11 := Lib.hid c11
    have K11 := Lib.hid (K10W.out.trans k11)
    clear c11 l11 k11 r0 r1 r2 v0 vf s0 s1 s2 t0 t1 t2
    have KT := Lib.hid (keep_two w11 34 37 zc3 zc3)
    unfold zc3 at KT
    go_wp2_with (first
      | (refine wpList_store_row rfl rfl 34 (.tmp 11) (.tmp 75) rfl w11.heap.size 34 _ #[.int .i64 4294967294, .slice f1 f2 f3, .slice f4 f5 f6] rfl rfl KT.out.1 rfl (three_one rfl rfl rfl) infoCh3 ?_; intro w12 bc1 gc1 hc1; have KC1 := Lib.hid (hc1 w11 KT.out.2.2 (Nat.le_refl _)); have BL1 := Lib.hid (KT.out.2.1.grow gc1 (by omega)); have BC1 := Lib.hid bc1; clear bc1 gc1 hc1)
      | (refine wpList_store_row rfl rfl 37 (.tmp 12) (.tmp 76) rfl (w11.heap.size + 1) 37 _ #[.int .i64 LP, .slice g1 g2 g3, .slice g4 g5 g6] rfl rfl BL1.out rfl (three_one rfl rfl rfl) infoLk3 ?_; intro w13 bl2 gl2 hl2; have KC2 := Lib.hid (hl2 w11 KC1.out (by omega)); have BC2 := Lib.hid (BC1.out.grow gl2 (by omega)); have BL2 := Lib.hid bl2; clear bl2 gl2 hl2; have C13 := Lib.hid (C11.out.kp KC2.out); have K13 := Lib.hid (K11.out.trans KC2.out); have Y13 := Lib.hid BC2.out; obtain ⟨t0, t1, t2⟩ := cells3 BC2.out; clear KT KC1 BL1 BC1)
      | fail)
    refine (HT3.out _ _ _ C13.out).mono ?_
    rintro _ w14 ⟨x14, y14, p14, q14, rfl, c14, l14, k14⟩
    obtain ⟨h1, h2, h3, h4, h5, h6, rfl, rfl⟩ := HXC.out _ _ _ _ c14
    obtain ⟨i1, i3, i4, i6, rfl, rfl⟩ := HNL.out _ _ _ l14
    have C14 := Lib.hid c14
    have C1314 := Lib.hid (C13.out.kp k14)
    have Y14 := Lib.hid (Y13.out.kp k14)
    have K14 := Lib.hid (K13.out.trans k14)
    clear c14 l14 k14 t0 t1 t2
    rw [show noLk.pos = 0 from rfl]
    have KT := Lib.hid (keep_two w14 34 37 zc3 zc3)
    unfold zc3 at KT
    go_wp2_with (first
      | (refine wpList_store_row rfl rfl 34 (.tmp 14) (.tmp 81) rfl w14.heap.size 34 _ #[.int .i64 4294967294, .slice h1 h2 h3, .slice h4 h5 h6] rfl rfl KT.out.1 rfl (three_one rfl rfl rfl) infoCh3 ?_; intro w15 bc1 gc1 hc1; have KC1 := Lib.hid (hc1 w14 KT.out.2.2 (Nat.le_refl _)); have BL1 := Lib.hid (KT.out.2.1.grow gc1 (by omega)); have BC1 := Lib.hid bc1; clear bc1 gc1 hc1)
      | (refine wpList_store_row rfl rfl 37 (.tmp 15) (.tmp 82) rfl (w14.heap.size + 1) 37 _ #[.int .i64 0, .slice i1 0 i3, .slice i4 0 i6] rfl rfl BL1.out rfl (three_one rfl rfl rfl) infoLk3 ?_; intro w16 bl2 gl2 hl2; have KC2 := Lib.hid (hl2 w14 KC1.out (by omega)); have BC2 := Lib.hid (BC1.out.grow gl2 (by omega)); have BL2 := Lib.hid bl2; clear bl2 gl2 hl2; have C16 := Lib.hid (C14.out.kp KC2.out); have C1316 := Lib.hid (C1314.out.kp KC2.out); have K16 := Lib.hid (K14.out.trans KC2.out); have Y16 := Lib.hid (Y14.out.kp KC2.out); obtain ⟨s0, s1, s2⟩ := cells3 BC2.out; obtain ⟨t0, t1, t2⟩ := cells3 Y16.out; clear KT KC1 BL1 BC1)
      | fail)
    refine (HSY.out _ _ _ _ _ C16.out C1316.out).mono ?_
    rintro _ w17 ⟨⟨bb, rfl, hb⟩, k17⟩
    obtain rfl : bb = true := by first | exact hb.2 trivial | exact hb.2 rfl
    have K17 := Lib.hid (K16.out.trans k17)
    have Y17 := Lib.hid (Y16.out.kp k17)
    have C17 := Lib.hid (C1316.out.kp k17)
    clear hb k17 s0 s1 s2 t0 t1 t2
    obtain ⟨t0, t1, t2⟩ := cells3 Y17.out
    go_wp2_with fail
    refine (HRY.out _ _ _ C17.out).mono ?_
    rintro _ w18 ⟨⟨bb, rfl, hb⟩, k18⟩
    obtain rfl : bb = true := hb.2 HOY.out
    have K18 := Lib.hid (K17.out.trans k18)
    go_wp2_with fail
    go_ret
    exact ⟨rfl, K18.out⟩
theorem ratchEnds_int (x y : Value) (c : Ch) (B : Int) (w : World) (h : CIn w x y c) (hB : 0 ≤ B ∧ B ≤ 65535) (hT : Tab w) :
    Calls Tryd.prog 6 #[.agg #[.int .i64 c.next, x, y], .int .u16 B] w fun e w' => e = .returned (.bool true) ∧ Kp w w' := by
  obtain ⟨B, rfl⟩ := Int.eq_ofNat_of_zero_le hB.1
  exact ratchEnds_walk x y c B w h (by omega) hT
end Go.Proofs.YtigpgcjbpoaclaaDoor

import Derived.Test.YtigpgcjbpoaclaaDoorC46
import Derived.Deep.RegionHeld3
set_option linter.unusedVariables false
set_option linter.unusedSimpArgs false
namespace Go.Proofs.YtigpgcjbpoaclaaDoor
open Go.RowKit
theorem spares_step {c : Ch} (h : c.ok) (n : Nat) (hn : n ≤ 100) (hm : c.next ≤ 4000000000) : ∃ X : Ch, ∃ L : Lk, takE c (c.next + n) = 0 ∧ takC c (c.next + n) = X ∧ takL c (c.next + n) = L ∧ X.ok ∧ X.next = c.next + n + 1 ∧ X.spare.length = min (c.spare.length + n) 32 ∧ L.pos = c.next + n := by
  obtain ⟨e1, e2, e3⟩ := tak_step h n hn (by omega)
  have ok := takC_ok h (c.next + n)
  have hlo := h.lo
  rw [e2] at ok
  refine ⟨_, _, e1, e2, e3, ok, rfl, ?_, ?_⟩
  · show (lastL (c.spare ++ passB c.sec c.next.toNat n)).length = _
    rw [lastL_length, List.length_append, passB_length]
  · show ((c.next.toNat + n : Nat) : Int) = _
    omega
theorem spares_two {X : Ch} (h : X.ok) {i : Nat} (hi : i < X.spare.length) : ∃ Y : Ch, takE X (lkAt X.spare i).pos = 0 ∧ takC X (lkAt X.spare i).pos = Y ∧ takL X (lkAt X.spare i).pos = lkAt X.spare i ∧ Y.ok ∧ Y.next = X.next ∧ Y.spare.length = X.spare.length - 1 ∧ (∀ j, lkAt Y.spare j = lkAt X.spare (if j < i then j else j + 1)) ∧ takE Y (lkAt X.spare i).pos = 9 ∧ takC Y (lkAt X.spare i).pos = Y ∧ takL Y (lkAt X.spare i).pos = noLk ∧ 0 ≤ (lkAt X.spare i).pos ∧ (lkAt X.spare i).pos ≤ 4294967294 := by
  obtain ⟨e1, e2, e3⟩ := tak_spare h hi
  have g := tak_gone h hi
  have hb := tak_bad (show takE (⟨X.next, X.sec, X.spare.eraseIdx i⟩ : Ch) (lkAt X.spare i).pos ≠ 0 by rw [g]; decide)
  obtain ⟨p1, p2, _, _⟩ := h.each i hi
  have hhi := h.hi
  exact ⟨_, e1, e2, e3, h.erase hi, rfl, erase_length hi, fun j => lkAt_erase _ _ _, g, hb.1, hb.2, p1, by omega⟩
set_option maxRecDepth 100000 in
set_option maxHeartbeats 40000000 in
theorem ratchSpares_walk (x y : Value) (c : Ch) (b k : Nat) (w : World) (h : CIn w x y c) (hB : b ≤ 255) (hk : k ≤ 255) (hT : Tab w) :
    Calls Tryd.prog 4 #[.agg #[.int .i64 c.next, x, y], .int .u8 b, .int .u8 k] w fun e w' => e = .returned (.bool true) ∧ Kp w w' := by
  have HC := Lib.hid h
  obtain ⟨a1, n1, c1, a2, c2, rfl, rfl⟩ := h.shapes
  have HTB := Lib.hid hT
  clear hT
  have HSH := Lib.hid (fun W (k : Kp w W) => shownRatch_any W (HTB.out.kp k))
  have HF := Lib.hid (fun W (k : Kp w W) => refFew13_any _ _ c W (HC.out.kp k))
  have HR := Lib.hid (fun W (k : Kp w W) => refRight13_any _ _ c W (HC.out.kp k))
  have HXC : Hid (∀ (C : Ch) W x y, CIn W x y C → ∃ a1 n1 c1 a2 n2 c2, x = .slice a1 n1 c1 ∧ y = .slice a2 n2 c2) := fun C W x y h => by obtain ⟨a, b, c, d, e, f, g⟩ := h.shapes; exact ⟨_, _, _, _, _, _, f, g⟩
  have HXL : Hid (∀ (K : Lk) W x y, LIn W x y K → ∃ a1 n1 c1 a2 n2 c2, x = .slice a1 n1 c1 ∧ y = .slice a2 n2 c2) := fun K W x y h => by obtain ⟨a, b, c, d, e, f⟩ := h.shapes; exact ⟨_, _, _, _, _, _, e, f⟩
  have HNL : Hid (∀ W x y, LIn W x y noLk → ∃ a1 c1 a2 c2, x = .slice a1 0 c1 ∧ y = .slice a2 0 c2) := fun W x y h => h.shapes
  have HSK := Lib.hid (fun W x y x' y' (K : Lk) (h : LIn W x y K) (h' : LIn W x' y' K) => refSameLock_any x y x' y' K K W h h')
  obtain ⟨n, hn⟩ : ∃ n, b % 101 = n := ⟨_, rfl⟩
  have hn100 : n ≤ 100 := by omega
  have hni : (b : Int) % 101 = (n : Int) := by omega
  have hnt : (b : Int).tmod 101 = (n : Int) := by rw [Int.tmod_eq_emod_of_nonneg (by omega)]; exact hni
  clear hn
  obtain ⟨NX, hNX⟩ : ∃ n, c.next = n := ⟨_, rfl⟩
  obtain ⟨SN, hSN⟩ : ∃ n, c.spare.length = n := ⟨_, rfl⟩
  have HNX := Lib.hid hNX
  rw [hSN] at HC HF HR ⊢
  rw [hNX] at HF HR ⊢
  obtain ⟨w1, hw1⟩ : ∃ w1, w.alloc (.cells #[.int .i64 NX, .slice a1 n1 c1, .slice a2 SN c2] 34) = w1 := ⟨_, rfl⟩
  have B1 : Hid (Bx w1 w.heap.size 34 #[.int .i64 NX, .slice a1 n1 c1, .slice a2 SN c2]) := by rw [← hw1]; exact Bx.new w _ _
  have K1 : Hid (Kp w w1) := by rw [← hw1]; exact (Kp.refl _).alloc _
  have HW := Lib.hid hw1
  have hSN13 := Lib.hid hSN
  clear h hw1 hNX hSN
  go_enter Tryd.func4, Tryd.ntmps4
  go_wp2_with (first | (rw [HW.out]) | fail)
  refine (HSH.out _ (by first | exact K1.out | exact K2.out | exact K3.out | exact K4.out | exact K5.out | exact K6.out | exact K7.out | exact K8.out | exact K9.out | exact KK.out | exact Kp.refl _)).mono ?_
  rintro _ w2 ⟨rfl, k2⟩
  have K2 := Lib.hid (K1.out.trans k2)
  have B2 := Lib.hid (B1.out.kp k2)
  clear k2 B1
  obtain ⟨s0, s1, s2⟩ := cells3 B2.out
  go_wp2_with fail
  refine (HF.out _ K2.out).mono ?_
  rintro _ w3 ⟨⟨b3, rfl, h3⟩, k3⟩
  have K3 := Lib.hid (K2.out.trans k3)
  have B3 := Lib.hid (B2.out.kp k3)
  clear k3 B2 s0 s1 s2
  obtain ⟨s0, s1, s2⟩ := cells3 B3.out
  cases b3
  · go_wp2_with fail
    go_ret
    exact ⟨rfl, K3.out⟩
  go_wp2_with fail
  refine (HR.out _ K3.out).mono ?_
  rintro _ w4 ⟨⟨b4, rfl, h4⟩, k4⟩
  have K4 := Lib.hid (K3.out.trans k4)
  have B4 := Lib.hid (B3.out.kp k4)
  clear k4 B3 s0 s1 s2
  obtain ⟨s0, s1, s2⟩ := cells3 B4.out
  cases b4
  · go_wp2_with fail
    go_ret
    exact ⟨rfl, K4.out⟩
  have HOK := Lib.hid (h4.1 rfl)
  clear h3 h4
  by_cases hbig : 4000000000 < NX
  · go_wp2_with fail
    go_ret
    exact ⟨rfl, K4.out⟩
  have hok := HOK.out
  have hlo := hok.lo
  obtain ⟨X, L, e1, e2, e3, okX, nX, lX, pL⟩ := spares_step hok n hn100 (by rw [HNX.out]; omega)
  rw [HNX.out] at e1 e2 e3 nX pL hlo
  obtain ⟨AT, hAT⟩ : ∃ z : Int, NX + (n : Int) = z := ⟨_, rfl⟩
  have HT := Lib.hid (fun W (k : Kp w W) => ratchTake_any _ _ c AT W (HC.out.kp k) hok (by omega))
  unfold TakenR at HT
  rw [hAT] at e1 e2 e3 nX pL
  rw [e1, e2, e3, nX, pL, HNX.out] at HT
  have i2 : IntKind.i64.wrap (NX + (n : Int)) = AT := by rw [IntWalk.i64_in _ (by omega)]; exact hAT
  have i5 : IntKind.i64.wrap AT = AT := IntWalk.i64_in _ (by omega)
  have i4 : IntKind.i64.wrap (AT + 1) = AT + 1 := IntWalk.i64_in _ (by omega)
  have i3 : IntKind.i64.wrap (b : Int) = (b : Int) := IntWalk.i64_in _ (by omega)
  have HOX := Lib.hid okX
  have HNEX := Lib.hid nX
  rw [hSN13.out] at lX
  have hsn : c.spare.length ≤ 32 := hok.few
  rw [hSN13.out] at hsn
  have HLX : Hid ((SN : Int) + n ≤ 32 ∧ (X.spare.length : Int) = (SN : Int) + n ∨ 32 < (SN : Int) + n ∧ X.spare.length = 32) := by have := lX; show _ ∨ _; omega
  have i6 : IntKind.i64.wrap ((SN : Int) + (n : Int)) = (SN : Int) + (n : Int) := IntWalk.i64_in _ (by omega)
  have I6 := Lib.hid i6
  clear i6 hsn
  clear hok hlo e1 e2 e3 okX nX lX pL
  go_wp2_with fail
  refine (HT.out _ K4.out).mono ?_
  rintro _ w5 ⟨x5, y5, p5, q5, rfl, c5, l5, k5⟩
  obtain ⟨d1, d2, d3, d4, d6, rfl, rfl⟩ := c5.shapes
  obtain ⟨g1, g2, g3, g4, g5, g6, rfl, rfl⟩ := HXL.out _ _ _ _ l5
  obtain ⟨SX, hSX⟩ : ∃ m, X.spare.length = m := ⟨_, rfl⟩
  rw [hSX] at c5 ⊢
  have HSX := Lib.hid hSX
  have C5 := Lib.hid c5
  have K5 := Lib.hid (K4.out.trans k5)
  have B5 := Lib.hid (B4.out.kp k5)
  clear c5 l5 k5 s0 s1 s2 hSX
  have HLX2 := HLX.out
  rw [HSX.out] at HLX2
  have HORX := Lib.hid HLX2
  clear HLX2 HLX
  rcases HORX.out with ⟨q1, q2⟩ | ⟨q1, q2⟩
  · have i6 := I6.out
    have q3 : (SX : Int) ≤ 32 := by omega
    rw [← q2] at i6
    have q4 : (SN : Int) + (n : Int) = (SX : Int) := q2.symm
    clear q1 q2
    have KT := Lib.hid (keep_two w5 34 37 zc3 zc3)
    unfold zc3 at KT
    go_wp2_with (first
      | (refine wpList_store_row rfl rfl 34 (.tmp 9) (.tmp 47) rfl w5.heap.size 34 _ #[.int .i64 (AT + 1), .slice d1 d2 d3, .slice d4 SX d6] rfl rfl KT.out.1 rfl (three_one rfl rfl rfl) infoCh3 ?_; intro w6 bc1 gc1 hc1; have KC1 := Lib.hid (hc1 w5 KT.out.2.2 (Nat.le_refl _)); have BL1 := Lib.hid (KT.out.2.1.grow gc1 (by omega)); have BC1 := Lib.hid bc1; clear bc1 gc1 hc1)
      | (refine wpList_store_row rfl rfl 37 (.tmp 10) (.tmp 48) rfl (w5.heap.size + 1) 37 _ #[.int .i64 AT, .slice g1 g2 g3, .slice g4 g5 g6] rfl rfl BL1.out rfl (three_one rfl rfl rfl) infoLk3 ?_; intro w7 bl2 gl2 hl2; have KC2 := Lib.hid (hl2 w5 KC1.out (by omega)); have BC2 := Lib.hid (BC1.out.grow gl2 (by omega)); have BL2 := Lib.hid bl2; clear bl2 gl2 hl2; have B7 := Lib.hid (B5.out.kp KC2.out); have C7 := Lib.hid (C5.out.kp KC2.out); have K7 := Lib.hid (K5.out.trans KC2.out); have D7 := Lib.hid BC2.out; obtain ⟨s0, s1, s2⟩ := cells3 B7.out; obtain ⟨t0, t1, t2⟩ := cells3 BC2.out; obtain ⟨r0, r1, r2⟩ := cells3 BL2.out; clear KT KC1 BL1 BC1)
      | fail)
    have HRX := Lib.hid (fun W x y (h : CIn W x y X) => refRight13_any x y X W h)
    rw [HNEX.out] at HRX
    refine (HRX.out _ _ _ C7.out).mono ?_
    rintro _ w8 ⟨⟨bb, rfl, hb⟩, k8⟩
    obtain rfl : bb = true := hb.2 HOX.out
    have K8 := Lib.hid (K7.out.trans k8)
    have D8 := Lib.hid (D7.out.kp k8)
    have C8 := Lib.hid (C7.out.kp k8)
    clear hb k8 s0 s1 s2 t0 t1 t2 r0 r1 r2 D7 C7 HRX
    obtain ⟨t0, t1, t2⟩ := cells3 D8.out
    by_cases hz : SX = 0
    · rw [hz] at *
      go_wp2_with fail
      go_ret
      exact ⟨rfl, K8.out⟩
    have hz1 : (SX : Int) ≠ 0 := by omega
    obtain ⟨I, hI⟩ : ∃ I, k % SX = I := ⟨_, rfl⟩
    have hIX : I < SX := by rw [← hI]; exact Nat.mod_lt _ (by omega)
    have hIi : (k : Int) % (SX : Int) = (I : Int) := by rw [← hI]; exact (Int.natCast_emod k SX).symm
    have hIt : (k : Int).tmod (SX : Int) = (I : Int) := by rw [Int.tmod_eq_emod_of_nonneg (by omega)]; exact hIi
    clear hI
    go_wp2_with fail
    have hIX2 : I < X.spare.length := by rw [HSX.out]; exact hIX
    obtain ⟨Y, f1, f2, f3, okY, nY, lY, atY, f4, f5, f6, p1, p2⟩ := spares_two HOX.out hIX2
    have HTX := Lib.hid (fun W x y (h : CIn W x y X) => ratchTake_any x y X (lkAt X.spare I).pos W h HOX.out (by omega))
    have HTY := Lib.hid (fun W x y (h : CIn W x y Y) => ratchTake_any x y Y (lkAt X.spare I).pos W h okY (by omega))
    unfold TakenR at HTX HTY
    rw [f1, f2, f3, nY, HNEX.out] at HTX
    rw [f4, f5, f6, nY, HNEX.out] at HTY
    obtain ⟨b0, off, cc, pk, pn, es, hb0, z0, z1, z2, zr1, zr2⟩ := C8.out.spare.node hIX2
    simp only [Value.slice.injEq] at es
    obtain ⟨rfl, es1, rfl⟩ := es
    clear es1
    obtain ⟨PS, hPS⟩ : ∃ z, (lkAt X.spare I).pos = z := ⟨_, rfl⟩
    rw [hPS] at HTX HTY z0
    have HS : Hid (∀ W, Kp w8 W → W.cell? ⟨w5.heap.size, 0, none⟩ = some (.int .i64 (AT + 1)) ∧ W.cell? ⟨w5.heap.size, 1, none⟩ = some (.slice d1 d2 d3) ∧ W.cell? ⟨w5.heap.size, 2, none⟩ = some (.slice (some ⟨b0, off, none⟩) SX d6) ∧ W.cell? ⟨b0, off + I * 3, none⟩ = some (.int .i64 PS)) := fun W hW => ⟨(D8.out.kp hW).cell 0, (D8.out.kp hW).cell 1, (D8.out.kp hW).cell 2, hW.cell z0⟩
    have HKEY : Hid (∀ z ∈ Y.spare, z.key.length ≠ 0) := fun z hz => by obtain ⟨j, hj, rfl⟩ := List.mem_iff_getElem.1 hz; have h1 := (okY.each j hj).2.2.1; have h2 := lkAt_of hj; rw [List.getElem?_eq_getElem hj, Option.some.injEq] at h2; rw [h2, h1]; decide
    have HAY := Lib.hid atY
    have HPS := Lib.hid hPS
    have i7 : (I : Int) < (SX : Int) := by omega
    obtain ⟨YL, hYL⟩ : ∃ m, Y.spare.length = m := ⟨_, rfl⟩
    have HYL := Lib.hid hYL
    have hYS : YL + 1 = SX := by rw [← hYL, lY, HSX.out]; omega
    have HYS := Lib.hid hYS
    have t9 : ((YL : Int) != (SX : Int) - 1) = false := by simp; omega
    have i8 : IntKind.i64.wrap ((SX : Int) - 1) = (SX : Int) - 1 := IntWalk.i64_in _ (by omega)
    clear hYL hYS
    obtain ⟨pk1, pk2, pk3, rfl⟩ := zr1.sl
    obtain ⟨pn1, pn2, pn3, rfl⟩ := zr2.sl
    have HZL : Hid (LIn w8 (.slice pk1 pk2 pk3) (.slice pn1 pn2 pn3) (lkAt X.spare I)) := ⟨zr1, zr2⟩
    have HZC : Hid (w8.cell? ⟨b0, off + I * 3, none⟩ = some (.int .i64 PS) ∧ w8.cell? ⟨b0, off + I * 3 + 1, none⟩ = some (.slice pk1 pk2 pk3) ∧ w8.cell? ⟨b0, off + I * 3 + 2, none⟩ = some (.slice pn1 pn2 pn3)) := ⟨z0, z1, z2⟩
    clear f1 f2 f3 f4 f5 f6 okY nY lY atY hPS z0 z1 z2 zr1 zr2 hb0 p1 p2
    refine later7 (Q := ?QL1) (F := fun g g1 x y p q W => Bx W g 34 #[.int .i64 0, .slice none 0 0, .slice none 0 0] ∧ Bx W g1 37 #[.int .i64 0, .slice none 0 0, .slice none 0 0] ∧ g ≠ g1 ∧ w8.heap.size ≤ g ∧ w8.heap.size ≤ g1 ∧ Kp w8 W ∧ CIn W x y Y ∧ LIn W p q (lkAt X.spare I)) ?ways1 ?rest1
    case ways1 =>
      intro key
      refine wp_region_held_drew (S := fun W => W.cell? ⟨w5.heap.size, 0, none⟩ = some (.int .i64 (AT + 1)) ∧ W.cell? ⟨w5.heap.size, 1, none⟩ = some (.slice d1 d2 d3) ∧ W.cell? ⟨w5.heap.size, 2, none⟩ = some (.slice (some ⟨b0, off, none⟩) SX d6) ∧ W.cell? ⟨b0, off + I * 3, none⟩ = some (.int .i64 PS)) (by kernel_rfl) (HS.out _ (Kp.refl _).drew) (fun hHeld => ?_)
      obtain ⟨v0, hv0⟩ : ∃ x, w8.drew = x := ⟨_, rfl⟩
      have Kv0 : Hid (Kp w8 v0) := by unfold Hid; rw [← hv0]; exact (Kp.refl _).drew
      rw [hv0] at hHeld ⊢
      clear hv0
      refine wpAnyH_take (i := 0) (oi := ⟨some 97, _, _, _, _, _⟩) (v := ?_) rfl (by kernel_rfl) (by kernel_rfl) (by kernel_rfl) (fun _ _ _ h => h) (Or.inl ⟨by kernel_rfl, ?_⟩) (by assumption) ?_
      rotate_left
      focus ((intro w hSw; (try dsimp only at hSw); go_simp); (try with_reducible rfl); done)
      simp only [Act.put, List.setIfInBounds_toArray, List.set_cons_zero, List.set_cons_succ]
      refine wpAnyH_take (i := 1) (oi := ⟨some 98, _, _, _, _, _⟩) (v := ?_) rfl (by kernel_rfl) (by kernel_rfl) (by kernel_rfl) (fun _ _ _ h => h) (Or.inl ⟨by kernel_rfl, ?_⟩) (by assumption) ?_
      rotate_left
      focus ((intro w hSw; (try dsimp only at hSw); go_simp); (try with_reducible rfl); done)
      simp only [Act.put, List.setIfInBounds_toArray, List.set_cons_zero, List.set_cons_succ]
      refine wpAnyH_take (i := 2) (oi := ⟨some 99, _, _, _, _, _⟩) (v := ?_) rfl (by kernel_rfl) (by kernel_rfl) (by kernel_rfl) (fun _ _ _ h => h) (Or.inl ⟨by kernel_rfl, ?_⟩) (by assumption) ?_
      rotate_left
      focus ((intro w hSw; (try dsimp only at hSw); go_simp); (try with_reducible rfl); done)
      simp only [Act.put, List.setIfInBounds_toArray, List.set_cons_zero, List.set_cons_succ]
      refine wpAnyH_take (i := 3) (oi := ⟨some 100, _, _, _, _, _⟩) (v := ?_) rfl (by kernel_rfl) (by kernel_rfl) (by kernel_rfl) (fun _ _ _ h => h) (Or.inl ⟨by kernel_rfl, ?_⟩) (by assumption) ?_
      rotate_left
      focus ((intro w hSw; (try dsimp only at hSw); go_simp); (try with_reducible rfl); done)
      simp only [Act.put, List.setIfInBounds_toArray, List.set_cons_zero, List.set_cons_succ]
      refine wpAnyH_take (i := 4) (oi := ⟨some 101, _, _, _, _, _⟩) (v := ?_) rfl (by kernel_rfl) (by kernel_rfl) (by kernel_rfl) (fun _ _ _ h => h) (Or.inl ⟨by kernel_rfl, ?_⟩) (by assumption) ?_
      rotate_left
      focus ((intro w hSw; (try dsimp only at hSw); go_simp); (try with_reducible rfl); done)
      simp only [Act.put, List.setIfInBounds_toArray, List.set_cons_zero, List.set_cons_succ]
      refine wpAnyH_take (i := 5) (oi := ⟨some 102, _, _, _, _, _⟩) (v := ?_) rfl (by kernel_rfl) (by kernel_rfl) (by kernel_rfl) (fun _ _ _ h => h) (Or.inl ⟨by kernel_rfl, ?_⟩) (by assumption) ?_
      rotate_left
      focus ((intro w hSw; (try dsimp only at hSw); go_simp); (try with_reducible rfl); done)
      simp only [Act.put, List.setIfInBounds_toArray, List.set_cons_zero, List.set_cons_succ]
      refine wpAnyH_take (i := 6) (oi := ⟨some 103, _, _, _, _, _⟩) (v := ?_) rfl (by kernel_rfl) (by kernel_rfl) (by kernel_rfl) (fun _ _ _ h => h) (Or.inl ⟨by kernel_rfl, ?_⟩) (by assumption) ?_
      rotate_left
      focus ((intro w hSw; (try dsimp only at hSw); go_simp); (try with_reducible rfl); done)
      simp only [Act.put, List.setIfInBounds_toArray, List.set_cons_zero, List.set_cons_succ]
      refine wpAnyH_ready (rs := [7, 12, 13]) (by kernel_rfl) (by simp) ?_
      refine AllReadyH.cons rfl (fun K hK => ?_) (AllReadyH.cons rfl (fun K hK => ?_) (AllReadyH.cons rfl (fun K hK => ?_) (AllReadyH.nil)))
      · go_simp
        refine (HTX.out _ _ _ (C8.out.kp Kv0.out)).mono ?_
        rintro _ v1 ⟨x9, y9, p9, q9, rfl, c9, l9, k9⟩
        have Kv1 := Lib.hid (Kv0.out.trans k9)
        have Cv1 := Lib.hid c9
        have Lv1 := Lib.hid l9
        clear c9 l9 k9
        refine hK.out _ _ (HS.out _ (Kv1.out)) (fun hHeld => ?_)
        clear hK K
        try simp only [Act.put, List.setIfInBounds_toArray, List.set_cons_zero, List.set_cons_succ]
        refine wpAnyH_take (i := 8) (oi := ⟨some 96, _, _, _, _, _⟩) (v := ?_) rfl (by kernel_rfl) (by kernel_rfl) (by kernel_rfl) (fun _ _ _ h => h) (Or.inl ⟨by kernel_rfl, ?_⟩) (by assumption) ?_
        rotate_left
        focus ((intro w hSw; (try dsimp only at hSw); go_simp); (try with_reducible rfl); done)
        simp only [Act.put, List.setIfInBounds_toArray, List.set_cons_zero, List.set_cons_succ]
        refine wpAnyH_take (i := 9) (oi := ⟨some 105, _, _, _, _, _⟩) (v := ?_) rfl (by kernel_rfl) (by kernel_rfl) (by kernel_rfl) (fun _ _ _ h => h) (Or.inl ⟨by kernel_rfl, ?_⟩) (by assumption) ?_
        rotate_left
        focus ((intro w hSw; (try dsimp only at hSw); go_simp); (try with_reducible rfl); done)
        simp only [Act.put, List.setIfInBounds_toArray, List.set_cons_zero, List.set_cons_succ]
        refine wpAnyH_take (i := 10) (oi := ⟨some 106, _, _, _, _, _⟩) (v := ?_) rfl (by kernel_rfl) (by kernel_rfl) (by kernel_rfl) (fun _ _ _ h => h) (Or.inl ⟨by kernel_rfl, ?_⟩) (by assumption) ?_
        rotate_left
        focus ((intro w hSw; (try dsimp only at hSw); go_simp); (try with_reducible rfl); done)
        simp only [Act.put, List.setIfInBounds_toArray, List.set_cons_zero, List.set_cons_succ]
        refine wpAnyH_take (i := 11) (oi := ⟨some 107, _, _, _, _, _⟩) (v := ?_) rfl (by kernel_rfl) (by kernel_rfl) (by kernel_rfl) (fun _ _ _ h => h) (Or.inl ⟨by kernel_rfl, ?_⟩) (by assumption) ?_
        rotate_left
        focus ((intro w hSw; (try dsimp only at hSw); go_simp); (try with_reducible rfl); done)
        simp only [Act.put, List.setIfInBounds_toArray, List.set_cons_zero, List.set_cons_succ]
        refine wpAnyH_ready (rs := [12, 13]) (by kernel_rfl) (by simp) ?_
        refine AllReadyH.cons rfl (fun K hK => ?_) (AllReadyH.cons rfl (fun K hK => ?_) (AllReadyH.nil))
        · go_simp
          refine hK.out _ _ (HS.out _ (Kv1.out.alloc _)) (fun hHeld => ?_)
          clear hK K
          try simp only [Act.put, List.setIfInBounds_toArray, List.set_cons_zero, List.set_cons_succ]
          obtain ⟨v2, hv2⟩ : ∃ x, v1.alloc (.cells #[.int .i64 0, .slice none 0 0, .slice none 0 0] 34) = x := ⟨_, rfl⟩
          have k9 : Kp v1 v2 := by rw [← hv2]; exact (Kp.refl _).alloc _
          have Bv2_12 : Hid (Bx v2 v1.heap.size 34 #[.int .i64 0, .slice none 0 0, .slice none 0 0]) := by unfold Hid; rw [← hv2]; exact Bx.new v1 _ _
          have Kv2 := Lib.hid (Kv1.out.trans k9)
          have Cv2 := Lib.hid (Cv1.out.kp k9)
          have Lv2 := Lib.hid (Lv1.out.kp k9)
          rw [hv2] at hHeld ⊢
          clear k9 hv2
          refine wpAnyH_ready (rs := [13]) (by kernel_rfl) (by simp) ?_
          refine AllReadyH.cons rfl (fun K hK => ?_) (AllReadyH.nil)
          · have Nv3_12 := Lib.hid (Array.getElem?_eq_some_iff.1 Bv2_12.out).1
            go_simp
            refine hK.out _ _ (HS.out _ (Kv2.out.alloc _)) (fun hHeld => ?_)
            clear hK K
            try simp only [Act.put, List.setIfInBounds_toArray, List.set_cons_zero, List.set_cons_succ]
            obtain ⟨v3, hv3⟩ : ∃ x, v2.alloc (.cells #[.int .i64 0, .slice none 0 0, .slice none 0 0] 37) = x := ⟨_, rfl⟩
            have k9 : Kp v2 v3 := by rw [← hv3]; exact (Kp.refl _).alloc _
            have Bv3_13 : Hid (Bx v3 v2.heap.size 37 #[.int .i64 0, .slice none 0 0, .slice none 0 0]) := by unfold Hid; rw [← hv3]; exact Bx.new v2 _ _
            have Bv3_12 := Lib.hid (Bv2_12.out.kp k9)
            have Kv3 := Lib.hid (Kv2.out.trans k9)
            have Cv3 := Lib.hid (Cv2.out.kp k9)
            have Lv3 := Lib.hid (Lv2.out.kp k9)
            rw [hv3] at hHeld ⊢
            clear k9 hv3
            have hF := And.intro Bv3_12.out (And.intro Bv3_13.out (And.intro (show v1.heap.size ≠ v2.heap.size by have h5 := Nv3_12.out; omega) (And.intro (Kv1.out.size) (And.intro (Kv2.out.size) (And.intro Kv3.out (And.intro Cv3.out Lv3.out))))))
            clear hHeld
            obtain ⟨G1, hG1⟩ : ∃ x, v1.heap.size = x := ⟨_, rfl⟩
            obtain ⟨G2, hG2⟩ : ∃ x, v2.heap.size = x := ⟨_, rfl⟩
            rw [hG1, hG2] at hF ⊢
            exact key.out _ _ _ _ _ _ _ hF
        · go_simp
          refine hK.out _ _ (HS.out _ (Kv1.out.alloc _)) (fun hHeld => ?_)
          clear hK K
          try simp only [Act.put, List.setIfInBounds_toArray, List.set_cons_zero, List.set_cons_succ]
          obtain ⟨v4, hv4⟩ : ∃ x, v1.alloc (.cells #[.int .i64 0, .slice none 0 0, .slice none 0 0] 37) = x := ⟨_, rfl⟩
          have k9 : Kp v1 v4 := by rw [← hv4]; exact (Kp.refl _).alloc _
          have Bv4_13 : Hid (Bx v4 v1.heap.size 37 #[.int .i64 0, .slice none 0 0, .slice none 0 0]) := by unfold Hid; rw [← hv4]; exact Bx.new v1 _ _
          have Kv4 := Lib.hid (Kv1.out.trans k9)
          have Cv4 := Lib.hid (Cv1.out.kp k9)
          have Lv4 := Lib.hid (Lv1.out.kp k9)
          rw [hv4] at hHeld ⊢
          clear k9 hv4
          refine wpAnyH_ready (rs := [12]) (by kernel_rfl) (by simp) ?_
          refine AllReadyH.cons rfl (fun K hK => ?_) (AllReadyH.nil)
          · have Nv5_13 := Lib.hid (Array.getElem?_eq_some_iff.1 Bv4_13.out).1
            go_simp
            refine hK.out _ _ (HS.out _ (Kv4.out.alloc _)) (fun hHeld => ?_)
            clear hK K
            try simp only [Act.put, List.setIfInBounds_toArray, List.set_cons_zero, List.set_cons_succ]
            obtain ⟨v5, hv5⟩ : ∃ x, v4.alloc (.cells #[.int .i64 0, .slice none 0 0, .slice none 0 0] 34) = x := ⟨_, rfl⟩
            have k9 : Kp v4 v5 := by rw [← hv5]; exact (Kp.refl _).alloc _
            have Bv5_12 : Hid (Bx v5 v4.heap.size 34 #[.int .i64 0, .slice none 0 0, .slice none 0 0]) := by unfold Hid; rw [← hv5]; exact Bx.new v4 _ _
            have Bv5_13 := Lib.hid (Bv4_13.out.kp k9)
            have Kv5 := Lib.hid (Kv4.out.trans k9)
            have Cv5 := Lib.hid (Cv4.out.kp k9)
            have Lv5 := Lib.hid (Lv4.out.kp k9)
            rw [hv5] at hHeld ⊢
            clear k9 hv5
            have hF := And.intro Bv5_12.out (And.intro Bv5_13.out (And.intro (show v4.heap.size ≠ v1.heap.size by have h5 := Nv5_13.out; omega) (And.intro (Kv4.out.size) (And.intro (Kv1.out.size) (And.intro Kv5.out (And.intro Cv5.out Lv5.out))))))
            clear hHeld
            obtain ⟨G1, hG1⟩ : ∃ x, v4.heap.size = x := ⟨_, rfl⟩
            obtain ⟨G2, hG2⟩ : ∃ x, v1.heap.size = x := ⟨_, rfl⟩
            rw [hG1, hG2] at hF ⊢
            exact key.out _ _ _ _ _ _ _ hF
      · go_simp
        refine hK.out _ _ (HS.out _ (Kv0.out.alloc _)) (fun hHeld => ?_)
        clear hK K
        try simp only [Act.put, List.setIfInBounds_toArray, List.set_cons_zero, List.set_cons_succ]
        obtain ⟨v6, hv6⟩ : ∃ x, v0.alloc (.cells #[.int .i64 0, .slice none 0 0, .slice none 0 0] 34) = x := ⟨_, rfl⟩
        have k9 : Kp v0 v6 := by rw [← hv6]; exact (Kp.refl _).alloc _
        have Bv6_12 : Hid (Bx v6 v0.heap.size 34 #[.int .i64 0, .slice none 0 0, .slice none 0 0]) := by unfold Hid; rw [← hv6]; exact Bx.new v0 _ _
        have Kv6 := Lib.hid (Kv0.out.trans k9)
        rw [hv6] at hHeld ⊢
        clear k9 hv6
        refine wpAnyH_ready (rs := [7, 13]) (by kernel_rfl) (by simp) ?_
        refine AllReadyH.cons rfl (fun K hK => ?_) (AllReadyH.cons rfl (fun K hK => ?_) (AllReadyH.nil))
        · go_simp
          refine (HTX.out _ _ _ (C8.out.kp Kv6.out)).mono ?_
          rintro _ v7 ⟨x9, y9, p9, q9, rfl, c9, l9, k9⟩
          have Kv7 := Lib.hid (Kv6.out.trans k9)
          have Bv7_12 := Lib.hid (Bv6_12.out.kp k9)
          have Cv7 := Lib.hid c9
          have Lv7 := Lib.hid l9
          clear c9 l9 k9
          refine hK.out _ _ (HS.out _ (Kv7.out)) (fun hHeld => ?_)
          clear hK K
          try simp only [Act.put, List.setIfInBounds_toArray, List.set_cons_zero, List.set_cons_succ]
          refine wpAnyH_take (i := 8) (oi := ⟨some 96, _, _, _, _, _⟩) (v := ?_) rfl (by kernel_rfl) (by kernel_rfl) (by kernel_rfl) (fun _ _ _ h => h) (Or.inl ⟨by kernel_rfl, ?_⟩) (by assumption) ?_
          rotate_left
          focus ((intro w hSw; (try dsimp only at hSw); go_simp); (try with_reducible rfl); done)
          simp only [Act.put, List.setIfInBounds_toArray, List.set_cons_zero, List.set_cons_succ]
          refine wpAnyH_take (i := 9) (oi := ⟨some 105, _, _, _, _, _⟩) (v := ?_) rfl (by kernel_rfl) (by kernel_rfl) (by kernel_rfl) (fun _ _ _ h => h) (Or.inl ⟨by kernel_rfl, ?_⟩) (by assumption) ?_
          rotate_left
          focus ((intro w hSw; (try dsimp only at hSw); go_simp); (try with_reducible rfl); done)
          simp only [Act.put, List.setIfInBounds_toArray, List.set_cons_zero, List.set_cons_succ]
          refine wpAnyH_take (i := 10) (oi := ⟨some 106, _, _, _, _, _⟩) (v := ?_) rfl (by kernel_rfl) (by kernel_rfl) (by kernel_rfl) (fun _ _ _ h => h) (Or.inl ⟨by kernel_rfl, ?_⟩) (by assumption) ?_
          rotate_left
          focus ((intro w hSw; (try dsimp only at hSw); go_simp); (try with_reducible rfl); done)
          simp only [Act.put, List.setIfInBounds_toArray, List.set_cons_zero, List.set_cons_succ]
          refine wpAnyH_take (i := 11) (oi := ⟨some 107, _, _, _, _, _⟩) (v := ?_) rfl (by kernel_rfl) (by kernel_rfl) (by kernel_rfl) (fun _ _ _ h => h) (Or.inl ⟨by kernel_rfl, ?_⟩) (by assumption) ?_
          rotate_left
          focus ((intro w hSw; (try dsimp only at hSw); go_simp); (try with_reducible rfl); done)
          simp only [Act.put, List.setIfInBounds_toArray, List.set_cons_zero, List.set_cons_succ]
          refine wpAnyH_ready (rs := [13]) (by kernel_rfl) (by simp) ?_
          refine AllReadyH.cons rfl (fun K hK => ?_) (AllReadyH.nil)
          · have Nv8_12 := Lib.hid (Array.getElem?_eq_some_iff.1 Bv7_12.out).1
            go_simp
            refine hK.out _ _ (HS.out _ (Kv7.out.alloc _)) (fun hHeld => ?_)
            clear hK K
            try simp only [Act.put, List.setIfInBounds_toArray, List.set_cons_zero, List.set_cons_succ]
            obtain ⟨v8, hv8⟩ : ∃ x, v7.alloc (.cells #[.int .i64 0, .slice none 0 0, .slice none 0 0] 37) = x := ⟨_, rfl⟩
            have k9 : Kp v7 v8 := by rw [← hv8]; exact (Kp.refl _).alloc _
            have Bv8_13 : Hid (Bx v8 v7.heap.size 37 #[.int .i64 0, .slice none 0 0, .slice none 0 0]) := by unfold Hid; rw [← hv8]; exact Bx.new v7 _ _
            have Bv8_12 := Lib.hid (Bv7_12.out.kp k9)
            have Kv8 := Lib.hid (Kv7.out.trans k9)
            have Cv8 := Lib.hid (Cv7.out.kp k9)
            have Lv8 := Lib.hid (Lv7.out.kp k9)
            rw [hv8] at hHeld ⊢
            clear k9 hv8
            have hF := And.intro Bv8_12.out (And.intro Bv8_13.out (And.intro (show v0.heap.size ≠ v7.heap.size by have h5 := Nv8_12.out; omega) (And.intro (Kv0.out.size) (And.intro (Kv7.out.size) (And.intro Kv8.out (And.intro Cv8.out Lv8.out))))))
            clear hHeld
            obtain ⟨G1, hG1⟩ : ∃ x, v0.heap.size = x := ⟨_, rfl⟩
            obtain ⟨G2, hG2⟩ : ∃ x, v7.heap.size = x := ⟨_, rfl⟩
            rw [hG1, hG2] at hF ⊢
            exact key.out _ _ _ _ _ _ _ hF
        · have Nv9_12 := Lib.hid (Array.getElem?_eq_some_iff.1 Bv6_12.out).1
          go_simp
          refine hK.out _ _ (HS.out _ (Kv6.out.alloc _)) (fun hHeld => ?_)
          clear hK K
          try simp only [Act.put, List.setIfInBounds_toArray, List.set_cons_zero, List.set_cons_succ]
          obtain ⟨v9, hv9⟩ : ∃ x, v6.alloc (.cells #[.int .i64 0, .slice none 0 0, .slice none 0 0] 37) = x := ⟨_, rfl⟩
          have k9 : Kp v6 v9 := by rw [← hv9]; exact (Kp.refl _).alloc _
          have Bv9_13 : Hid (Bx v9 v6.heap.size 37 #[.int .i64 0, .slice none 0 0, .slice none 0 0]) := by unfold Hid; rw [← hv9]; exact Bx.new v6 _ _
          have Bv9_12 := Lib.hid (Bv6_12.out.kp k9)
          have Kv9 := Lib.hid (Kv6.out.trans k9)
          rw [hv9] at hHeld ⊢
          clear k9 hv9
          refine wpAnyH_ready (rs := [7]) (by kernel_rfl) (by simp) ?_
          refine AllReadyH.cons rfl (fun K hK => ?_) (AllReadyH.nil)
          · go_simp
            refine (HTX.out _ _ _ (C8.out.kp Kv9.out)).mono ?_
            rintro _ v10 ⟨x9, y9, p9, q9, rfl, c9, l9, k9⟩
            have Kv10 := Lib.hid (Kv9.out.trans k9)
            have Bv10_12 := Lib.hid (Bv9_12.out.kp k9)
            have Bv10_13 := Lib.hid (Bv9_13.out.kp k9)
            have Cv10 := Lib.hid c9
            have Lv10 := Lib.hid l9
            clear c9 l9 k9
            refine hK.out _ _ (HS.out _ (Kv10.out)) (fun hHeld => ?_)
            clear hK K
            try simp only [Act.put, List.setIfInBounds_toArray, List.set_cons_zero, List.set_cons_succ]
            refine wpAnyH_take (i := 8) (oi := ⟨some 96, _, _, _, _, _⟩) (v := ?_) rfl (by kernel_rfl) (by kernel_rfl) (by kernel_rfl) (fun _ _ _ h => h) (Or.inl ⟨by kernel_rfl, ?_⟩) (by assumption) ?_
            rotate_left
            focus ((intro w hSw; (try dsimp only at hSw); go_simp); (try with_reducible rfl); done)
            simp only [Act.put, List.setIfInBounds_toArray, List.set_cons_zero, List.set_cons_succ]
            refine wpAnyH_take (i := 9) (oi := ⟨some 105, _, _, _, _, _⟩) (v := ?_) rfl (by kernel_rfl) (by kernel_rfl) (by kernel_rfl) (fun _ _ _ h => h) (Or.inl ⟨by kernel_rfl, ?_⟩) (by assumption) ?_
            rotate_left
            focus ((intro w hSw; (try dsimp only at hSw); go_simp); (try with_reducible rfl); done)
            simp only [Act.put, List.setIfInBounds_toArray, List.set_cons_zero, List.set_cons_succ]
            refine wpAnyH_take (i := 10) (oi := ⟨some 106, _, _, _, _, _⟩) (v := ?_) rfl (by kernel_rfl) (by kernel_rfl) (by kernel_rfl) (fun _ _ _ h => h) (Or.inl ⟨by kernel_rfl, ?_⟩) (by assumption) ?_
            rotate_left
            focus ((intro w hSw; (try dsimp only at hSw); go_simp); (try with_reducible rfl); done)
            simp only [Act.put, List.setIfInBounds_toArray, List.set_cons_zero, List.set_cons_succ]
            refine wpAnyH_take (i := 11) (oi := ⟨some 107, _, _, _, _, _⟩) (v := ?_) rfl (by kernel_rfl) (by kernel_rfl) (by kernel_rfl) (fun _ _ _ h => h) (Or.inl ⟨by kernel_rfl, ?_⟩) (by assumption) ?_
            rotate_left
            focus ((intro w hSw; (try dsimp only at hSw); go_simp); (try with_reducible rfl); done)
            simp only [Act.put, List.setIfInBounds_toArray, List.set_cons_zero, List.set_cons_succ]
            have hF := And.intro Bv10_12.out (And.intro Bv10_13.out (And.intro (show v0.heap.size ≠ v6.heap.size by have h5 := Nv9_12.out; omega) (And.intro (Kv0.out.size) (And.intro (Kv6.out.size) (And.intro Kv10.out (And.intro Cv10.out Lv10.out))))))
            clear hHeld
            obtain ⟨G1, hG1⟩ : ∃ x, v0.heap.size = x := ⟨_, rfl⟩
            obtain ⟨G2, hG2⟩ : ∃ x, v6.heap.size = x := ⟨_, rfl⟩
            rw [hG1, hG2] at hF ⊢
            exact key.out _ _ _ _ _ _ _ hF
      · go_simp
        refine hK.out _ _ (HS.out _ (Kv0.out.alloc _)) (fun hHeld => ?_)
        clear hK K
        try simp only [Act.put, List.setIfInBounds_toArray, List.set_cons_zero, List.set_cons_succ]
        obtain ⟨v11, hv11⟩ : ∃ x, v0.alloc (.cells #[.int .i64 0, .slice none 0 0, .slice none 0 0] 37) = x := ⟨_, rfl⟩
        have k9 : Kp v0 v11 := by rw [← hv11]; exact (Kp.refl _).alloc _
        have Bv11_13 : Hid (Bx v11 v0.heap.size 37 #[.int .i64 0, .slice none 0 0, .slice none 0 0]) := by unfold Hid; rw [← hv11]; exact Bx.new v0 _ _
        have Kv11 := Lib.hid (Kv0.out.trans k9)
        rw [hv11] at hHeld ⊢
        clear k9 hv11
        refine wpAnyH_ready (rs := [7, 12]) (by kernel_rfl) (by simp) ?_
        refine AllReadyH.cons rfl (fun K hK => ?_) (AllReadyH.cons rfl (fun K hK => ?_) (AllReadyH.nil))
        · go_simp
          refine (HTX.out _ _ _ (C8.out.kp Kv11.out)).mono ?_
          rintro _ v12 ⟨x9, y9, p9, q9, rfl, c9, l9, k9⟩
          have Kv12 := Lib.hid (Kv11.out.trans k9)
          have Bv12_13 := Lib.hid (Bv11_13.out.kp k9)
          have Cv12 := Lib.hid c9
          have Lv12 := Lib.hid l9
          clear c9 l9 k9
          refine hK.out _ _ (HS.out _ (Kv12.out)) (fun hHeld => ?_)
          clear hK K
          try simp only [Act.put, List.setIfInBounds_toArray, List.set_cons_zero, List.set_cons_succ]
          refine wpAnyH_take (i := 8) (oi := ⟨some 96, _, _, _, _, _⟩) (v := ?_) rfl (by kernel_rfl) (by kernel_rfl) (by kernel_rfl) (fun _ _ _ h => h) (Or.inl ⟨by kernel_rfl, ?_⟩) (by assumption) ?_
          rotate_left
          focus ((intro w hSw; (try dsimp only at hSw); go_simp); (try with_reducible rfl); done)
          simp only [Act.put, List.setIfInBounds_toArray, List.set_cons_zero, List.set_cons_succ]
          refine wpAnyH_take (i := 9) (oi := ⟨some 105, _, _, _, _, _⟩) (v := ?_) rfl (by kernel_rfl) (by kernel_rfl) (by kernel_rfl) (fun _ _ _ h => h) (Or.inl ⟨by kernel_rfl, ?_⟩) (by assumption) ?_
          rotate_left
          focus ((intro w hSw; (try dsimp only at hSw); go_simp); (try with_reducible rfl); done)
          simp only [Act.put, List.setIfInBounds_toArray, List.set_cons_zero, List.set_cons_succ]
          refine wpAnyH_take (i := 10) (oi := ⟨some 106, _, _, _, _, _⟩) (v := ?_) rfl (by kernel_rfl) (by kernel_rfl) (by kernel_rfl) (fun _ _ _ h => h) (Or.inl ⟨by kernel_rfl, ?_⟩) (by assumption) ?_
          rotate_left
          focus ((intro w hSw; (try dsimp only at hSw); go_simp); (try with_reducible rfl); done)
          simp only [Act.put, List.setIfInBounds_toArray, List.set_cons_zero, List.set_cons_succ]
          refine wpAnyH_take (i := 11) (oi := ⟨some 107, _, _, _, _, _⟩) (v := ?_) rfl (by kernel_rfl) (by kernel_rfl) (by kernel_rfl) (fun _ _ _ h => h) (Or.inl ⟨by kernel_rfl, ?_⟩) (by assumption) ?_
          rotate_left
          focus ((intro w hSw; (try dsimp only at hSw); go_simp); (try with_reducible rfl); done)
          simp only [Act.put, List.setIfInBounds_toArray, List.set_cons_zero, List.set_cons_succ]
          refine wpAnyH_ready (rs := [12]) (by kernel_rfl) (by simp) ?_
          refine AllReadyH.cons rfl (fun K hK => ?_) (AllReadyH.nil)
          · have Nv13_13 := Lib.hid (Array.getElem?_eq_some_iff.1 Bv12_13.out).1
            go_simp
            refine hK.out _ _ (HS.out _ (Kv12.out.alloc _)) (fun hHeld => ?_)
            clear hK K
            try simp only [Act.put, List.setIfInBounds_toArray, List.set_cons_zero, List.set_cons_succ]
            obtain ⟨v13, hv13⟩ : ∃ x, v12.alloc (.cells #[.int .i64 0, .slice none 0 0, .slice none 0 0] 34) = x := ⟨_, rfl⟩
            have k9 : Kp v12 v13 := by rw [← hv13]; exact (Kp.refl _).alloc _
            have Bv13_12 : Hid (Bx v13 v12.heap.size 34 #[.int .i64 0, .slice none 0 0, .slice none 0 0]) := by unfold Hid; rw [← hv13]; exact Bx.new v12 _ _
            have Bv13_13 := Lib.hid (Bv12_13.out.kp k9)
            have Kv13 := Lib.hid (Kv12.out.trans k9)
            have Cv13 := Lib.hid (Cv12.out.kp k9)
            have Lv13 := Lib.hid (Lv12.out.kp k9)
            rw [hv13] at hHeld ⊢
            clear k9 hv13
            have hF := And.intro Bv13_12.out (And.intro Bv13_13.out (And.intro (show v12.heap.size ≠ v0.heap.size by have h5 := Nv13_13.out; omega) (And.intro (Kv12.out.size) (And.intro (Kv0.out.size) (And.intro Kv13.out (And.intro Cv13.out Lv13.out))))))
            clear hHeld
            obtain ⟨G1, hG1⟩ : ∃ x, v12.heap.size = x := ⟨_, rfl⟩
            obtain ⟨G2, hG2⟩ : ∃ x, v0.heap.size = x := ⟨_, rfl⟩
            rw [hG1, hG2] at hF ⊢
            exact key.out _ _ _ _ _ _ _ hF
        · have Nv14_13 := Lib.hid (Array.getElem?_eq_some_iff.1 Bv11_13.out).1
          go_simp
          refine hK.out _ _ (HS.out _ (Kv11.out.alloc _)) (fun hHeld => ?_)
          clear hK K
          try simp only [Act.put, List.setIfInBounds_toArray, List.set_cons_zero, List.set_cons_succ]
          obtain ⟨v14, hv14⟩ : ∃ x, v11.alloc (.cells #[.int .i64 0, .slice none 0 0, .slice none 0 0] 34) = x := ⟨_, rfl⟩
          have k9 : Kp v11 v14 := by rw [← hv14]; exact (Kp.refl _).alloc _
          have Bv14_12 : Hid (Bx v14 v11.heap.size 34 #[.int .i64 0, .slice none 0 0, .slice none 0 0]) := by unfold Hid; rw [← hv14]; exact Bx.new v11 _ _
          have Bv14_13 := Lib.hid (Bv11_13.out.kp k9)
          have Kv14 := Lib.hid (Kv11.out.trans k9)
          rw [hv14] at hHeld ⊢
          clear k9 hv14
          refine wpAnyH_ready (rs := [7]) (by kernel_rfl) (by simp) ?_
          refine AllReadyH.cons rfl (fun K hK => ?_) (AllReadyH.nil)
          · go_simp
            refine (HTX.out _ _ _ (C8.out.kp Kv14.out)).mono ?_
            rintro _ v15 ⟨x9, y9, p9, q9, rfl, c9, l9, k9⟩
            have Kv15 := Lib.hid (Kv14.out.trans k9)
            have Bv15_13 := Lib.hid (Bv14_13.out.kp k9)
            have Bv15_12 := Lib.hid (Bv14_12.out.kp k9)
            have Cv15 := Lib.hid c9
            have Lv15 := Lib.hid l9
            clear c9 l9 k9
            refine hK.out _ _ (HS.out _ (Kv15.out)) (fun hHeld => ?_)
            clear hK K
            try simp only [Act.put, List.setIfInBounds_toArray, List.set_cons_zero, List.set_cons_succ]
            refine wpAnyH_take (i := 8) (oi := ⟨some 96, _, _, _, _, _⟩) (v := ?_) rfl (by kernel_rfl) (by kernel_rfl) (by kernel_rfl) (fun _ _ _ h => h) (Or.inl ⟨by kernel_rfl, ?_⟩) (by assumption) ?_
            rotate_left
            focus ((intro w hSw; (try dsimp only at hSw); go_simp); (try with_reducible rfl); done)
            simp only [Act.put, List.setIfInBounds_toArray, List.set_cons_zero, List.set_cons_succ]
            refine wpAnyH_take (i := 9) (oi := ⟨some 105, _, _, _, _, _⟩) (v := ?_) rfl (by kernel_rfl) (by kernel_rfl) (by kernel_rfl) (fun _ _ _ h => h) (Or.inl ⟨by kernel_rfl, ?_⟩) (by assumption) ?_
            rotate_left
            focus ((intro w hSw; (try dsimp only at hSw); go_simp); (try with_reducible rfl); done)
            simp only [Act.put, List.setIfInBounds_toArray, List.set_cons_zero, List.set_cons_succ]
            refine wpAnyH_take (i := 10) (oi := ⟨some 106, _, _, _, _, _⟩) (v := ?_) rfl (by kernel_rfl) (by kernel_rfl) (by kernel_rfl) (fun _ _ _ h => h) (Or.inl ⟨by kernel_rfl, ?_⟩) (by assumption) ?_
            rotate_left
            focus ((intro w hSw; (try dsimp only at hSw); go_simp); (try with_reducible rfl); done)
            simp only [Act.put, List.setIfInBounds_toArray, List.set_cons_zero, List.set_cons_succ]
            refine wpAnyH_take (i := 11) (oi := ⟨some 107, _, _, _, _, _⟩) (v := ?_) rfl (by kernel_rfl) (by kernel_rfl) (by kernel_rfl) (fun _ _ _ h => h) (Or.inl ⟨by kernel_rfl, ?_⟩) (by assumption) ?_
            rotate_left
            focus ((intro w hSw; (try dsimp only at hSw); go_simp); (try with_reducible rfl); done)
            simp only [Act.put, List.setIfInBounds_toArray, List.set_cons_zero, List.set_cons_succ]
            have hF := And.intro Bv15_12.out (And.intro Bv15_13.out (And.intro (show v11.heap.size ≠ v0.heap.size by have h5 := Nv14_13.out; omega) (And.intro (Kv11.out.size) (And.intro (Kv0.out.size) (And.intro Kv15.out (And.intro Cv15.out Lv15.out))))))
            clear hHeld
            obtain ⟨G1, hG1⟩ : ∃ x, v11.heap.size = x := ⟨_, rfl⟩
            obtain ⟨G2, hG2⟩ : ∃ x, v0.heap.size = x := ⟨_, rfl⟩
            rw [hG1, hG2] at hF ⊢
            exact key.out _ _ _ _ _ _ _ hF
    case rest1 =>
      rintro G14 G15 x14 y14 p14 q14 w14 ⟨b14, b15, hne, hg, hg1, k14, c14, l14⟩
      obtain ⟨ya, yb, yc, yd, yf, rfl, rfl⟩ := c14.shapes
      obtain ⟨o1, o2, o3, o4, o5, o6, rfl, rfl⟩ := HXL.out _ _ _ _ l14
      rw [HYL.out] at c14 ⊢
      have K14 := Lib.hid k14
      have B14 := Lib.hid b14
      have B15 := Lib.hid b15
      have C14 := Lib.hid c14
      have L14 := Lib.hid l14
      have HG := Lib.hid hg
      have HG1 := Lib.hid hg1
      have HNE := Lib.hid hne
      have hHeld := HS.out _ K14.out
      clear b14 b15 hne hg hg1 k14 c14 l14 HTX
      refine wpAnyH_ready (rs := [14]) (by kernel_rfl) (by simp) ?_
      refine AllReadyH.cons rfl (fun K hK => ?_) (AllReadyH.nil)
      · obtain ⟨x0, x1, x2⟩ := cells3 B14.out
        have x3 := B14.out.frozen 0
        have x4 := B14.out.frozen 1
        have x5 := B14.out.frozen 2
        obtain ⟨sb, sg, sk⟩ := stored3 B14.out (.int .i64 (AT + 1)) (.slice ya yb yc) (.slice yd YL yf)
        go_simp
        refine hK.out _ _ (HS.out _ (sk w8 K14.out (HG.out))) (fun hHeld => ?_)
        clear hK K
        try simp only [Act.put, List.setIfInBounds_toArray, List.set_cons_zero, List.set_cons_succ]
        have Kv10 := Lib.hid (sk w8 K14.out (HG.out))
        obtain ⟨v1, hv1⟩ : ∃ x, ((w14.setCell ⟨G14, 0, none⟩ (.int .i64 (AT + 1))).setCell ⟨G14, 1, none⟩ (.slice ya yb yc)).setCell ⟨G14, 2, none⟩ (.slice yd YL yf) = x := ⟨_, rfl⟩
        rw [hv1] at hHeld sb sg sk Kv10 ⊢
        have Cv1 := Lib.hid (CIn.mk (C14.out.sec.kept13 B14.out sg) (C14.out.spare.kept13 HKEY.out B14.out sg))
        have Lv1 := Lib.hid (LIn.mk (L14.out.key.kept13 B14.out sg) (L14.out.non.kept13 B14.out sg))
        have Bv1_13 := Lib.hid (B15.out.grow sg (by have h5 := HNE.out; omega))
        have Bv1_12 := Lib.hid sb
        clear x0 x1 x2 x3 x4 x5 sb sg sk hv1
        refine wpAnyH_ready (rs := [15]) (by kernel_rfl) (by simp) ?_
        refine AllReadyH.cons rfl (fun K hK => ?_) (AllReadyH.nil)
        · obtain ⟨x0, x1, x2⟩ := cells3 Bv1_13.out
          have x3 := Bv1_13.out.frozen 0
          have x4 := Bv1_13.out.frozen 1
          have x5 := Bv1_13.out.frozen 2
          obtain ⟨sb, sg, sk⟩ := stored3 Bv1_13.out (.int .i64 PS) (.slice o1 o2 o3) (.slice o4 o5 o6)
          go_simp
          refine hK.out _ _ (HS.out _ (sk w8 Kv10.out (HG1.out))) (fun hHeld => ?_)
          clear hK K
          try simp only [Act.put, List.setIfInBounds_toArray, List.set_cons_zero, List.set_cons_succ]
          have Kv20 := Lib.hid (sk w8 Kv10.out (HG1.out))
          obtain ⟨v2, hv2⟩ : ∃ x, ((v1.setCell ⟨G15, 0, none⟩ (.int .i64 PS)).setCell ⟨G15, 1, none⟩ (.slice o1 o2 o3)).setCell ⟨G15, 2, none⟩ (.slice o4 o5 o6) = x := ⟨_, rfl⟩
          rw [hv2] at hHeld sb sg sk Kv20 ⊢
          have Cv2 := Lib.hid (CIn.mk (Cv1.out.sec.kept13 Bv1_13.out sg) (Cv1.out.spare.kept13 HKEY.out Bv1_13.out sg))
          have Lv2 := Lib.hid (LIn.mk (Lv1.out.key.kept13 Bv1_13.out sg) (Lv1.out.non.kept13 Bv1_13.out sg))
          have Bv2_12 := Lib.hid (Bv1_12.out.grow sg (by have h5 := HNE.out; omega))
          have Bv2_13 := Lib.hid sb
          clear x0 x1 x2 x3 x4 x5 sb sg sk hv2
          refine wpAnyH_take (i := 16) (oi := ⟨some 16, _, _, _, _, _⟩) (v := ?_) rfl (by kernel_rfl) (by kernel_rfl) (by kernel_rfl) (fun _ _ _ h => h) (Or.inl ⟨by kernel_rfl, ?_⟩) (by assumption) ?_
          rotate_left
          focus ((intro w hSw; (try dsimp only at hSw); go_simp); (try with_reducible rfl); done)
          simp only [Act.put, List.setIfInBounds_toArray, List.set_cons_zero, List.set_cons_succ]
          refine wpAnyH_done (by kernel_rfl) ?_ _
          clear hHeld
          have HSK1 := Lib.hid (fun W (hW : Kp v2 W) => HSK.out W _ _ _ _ (lkAt X.spare I) (Lv2.out.kp hW) ((HZL.out.kp Kv20.out).kp hW))
          rw [HPS.out] at HSK1
          have HS13 : Hid (∀ W, Kp v2 W → W.cell? ⟨G15, 0, none⟩ = some (.int .i64 PS) ∧ W.cell? ⟨G15, 1, none⟩ = some (.slice o1 o2 o3) ∧ W.cell? ⟨G15, 2, none⟩ = some (.slice o4 o5 o6) ∧ W.cell? ⟨b0, off + I * 3, none⟩ = some (.int .i64 PS) ∧ W.cell? ⟨b0, off + I * 3 + 1, none⟩ = some (.slice pk1 pk2 pk3) ∧ W.cell? ⟨b0, off + I * 3 + 2, none⟩ = some (.slice pn1 pn2 pn3) ∧ W.cell? ⟨G14, 0, none⟩ = some (.int .i64 (AT + 1)) ∧ W.cell? ⟨G14, 2, none⟩ = some (.slice yd YL yf) ∧ W.cell? ⟨w5.heap.size, 0, none⟩ = some (.int .i64 (AT + 1)) ∧ W.cell? ⟨w5.heap.size, 2, none⟩ = some (.slice (some ⟨b0, off, none⟩) SX d6)) := fun W hW => ⟨(Bv2_13.out.kp hW).cell 0, (Bv2_13.out.kp hW).cell 1, (Bv2_13.out.kp hW).cell 2, hW.cell (Kv20.out.cell HZC.out.1), hW.cell (Kv20.out.cell HZC.out.2.1), hW.cell (Kv20.out.cell HZC.out.2.2), (Bv2_12.out.kp hW).cell 0, (Bv2_12.out.kp hW).cell 2, (D8.out.kp (Kv20.out.trans hW)).cell 0, (D8.out.kp (Kv20.out.trans hW)).cell 2⟩
          go_wp2_with fail
          refine wp_region_held_drew (S := fun W => W.cell? ⟨G15, 0, none⟩ = some (.int .i64 PS) ∧ W.cell? ⟨G15, 1, none⟩ = some (.slice o1 o2 o3) ∧ W.cell? ⟨G15, 2, none⟩ = some (.slice o4 o5 o6) ∧ W.cell? ⟨b0, off + I * 3, none⟩ = some (.int .i64 PS) ∧ W.cell? ⟨b0, off + I * 3 + 1, none⟩ = some (.slice pk1 pk2 pk3) ∧ W.cell? ⟨b0, off + I * 3 + 2, none⟩ = some (.slice pn1 pn2 pn3) ∧ W.cell? ⟨G14, 0, none⟩ = some (.int .i64 (AT + 1)) ∧ W.cell? ⟨G14, 2, none⟩ = some (.slice yd YL yf) ∧ W.cell? ⟨w5.heap.size, 0, none⟩ = some (.int .i64 (AT + 1)) ∧ W.cell? ⟨w5.heap.size, 2, none⟩ = some (.slice (some ⟨b0, off, none⟩) SX d6)) (by kernel_rfl) (by first | exact HS13.out _ K30.out | exact HS13.out _ (Kp.refl _).drew) (fun hHeld => ?_)
          refine wpAnyH_take (i := 0) (oi := ⟨some 108, _, _, _, _, _⟩) (v := ?_) rfl (by kernel_rfl) (by kernel_rfl) (by kernel_rfl) (fun _ _ _ h => h) (Or.inl ⟨by kernel_rfl, ?_⟩) (by assumption) ?_
          rotate_left
          focus ((intro w hSw; (try dsimp only at hSw); go_simp); (try with_reducible rfl); done)
          simp only [Act.put, List.setIfInBounds_toArray, List.set_cons_zero, List.set_cons_succ]
          refine wpAnyH_take (i := 1) (oi := ⟨some 109, _, _, _, _, _⟩) (v := ?_) rfl (by kernel_rfl) (by kernel_rfl) (by kernel_rfl) (fun _ _ _ h => h) (Or.inl ⟨by kernel_rfl, ?_⟩) (by assumption) ?_
          rotate_left
          focus ((intro w hSw; (try dsimp only at hSw); go_simp); (try with_reducible rfl); done)
          simp only [Act.put, List.setIfInBounds_toArray, List.set_cons_zero, List.set_cons_succ]
          refine wpAnyH_take (i := 2) (oi := ⟨some 110, _, _, _, _, _⟩) (v := ?_) rfl (by kernel_rfl) (by kernel_rfl) (by kernel_rfl) (fun _ _ _ h => h) (Or.inl ⟨by kernel_rfl, ?_⟩) (by assumption) ?_
          rotate_left
          focus ((intro w hSw; (try dsimp only at hSw); go_simp); (try with_reducible rfl); done)
          simp only [Act.put, List.setIfInBounds_toArray, List.set_cons_zero, List.set_cons_succ]
          refine wpAnyH_take (i := 3) (oi := ⟨some 111, _, _, _, _, _⟩) (v := ?_) rfl (by kernel_rfl) (by kernel_rfl) (by kernel_rfl) (fun _ _ _ h => h) (Or.inl ⟨by kernel_rfl, ?_⟩) (by assumption) ?_
          rotate_left
          focus ((intro w hSw; (try dsimp only at hSw); go_simp); (try with_reducible rfl); done)
          simp only [Act.put, List.setIfInBounds_toArray, List.set_cons_zero, List.set_cons_succ]
          refine wpAnyH_take (i := 4) (oi := ⟨some 112, _, _, _, _, _⟩) (v := ?_) rfl (by kernel_rfl) (by kernel_rfl) (by kernel_rfl) (fun _ _ _ h => h) (Or.inl ⟨by kernel_rfl, ?_⟩) (by assumption) ?_
          rotate_left
          focus ((intro w hSw; (try dsimp only at hSw); go_simp); (try with_reducible rfl); done)
          simp only [Act.put, List.setIfInBounds_toArray, List.set_cons_zero, List.set_cons_succ]
          refine wpAnyH_take (i := 5) (oi := ⟨some 113, _, _, _, _, _⟩) (v := ?_) rfl (by kernel_rfl) (by kernel_rfl) (by kernel_rfl) (fun _ _ _ h => h) (Or.inl ⟨by kernel_rfl, ?_⟩) (by assumption) ?_
          rotate_left
          focus ((intro w hSw; (try dsimp only at hSw); go_simp); (try with_reducible rfl); done)
          simp only [Act.put, List.setIfInBounds_toArray, List.set_cons_zero, List.set_cons_succ]
          refine wpAnyH_take (i := 6) (oi := ⟨some 114, _, _, _, _, _⟩) (v := ?_) rfl (by kernel_rfl) (by kernel_rfl) (by kernel_rfl) (fun _ _ _ h => h) (Or.inl ⟨by kernel_rfl, ?_⟩) (by assumption) ?_
          rotate_left
          focus ((intro w hSw; (try dsimp only at hSw); go_simp); (try with_reducible rfl); done)
          simp only [Act.put, List.setIfInBounds_toArray, List.set_cons_zero, List.set_cons_succ]
          refine wpAnyH_take (i := 7) (oi := ⟨some 115, _, _, _, _, _⟩) (v := ?_) rfl (by kernel_rfl) (by kernel_rfl) (by kernel_rfl) (fun _ _ _ h => h) (Or.inl ⟨by kernel_rfl, ?_⟩) (by assumption) ?_
          rotate_left
          focus ((intro w hSw; (try dsimp only at hSw); go_simp); (try with_reducible rfl); done)
          simp only [Act.put, List.setIfInBounds_toArray, List.set_cons_zero, List.set_cons_succ]
          refine wpAnyH_take (i := 8) (oi := ⟨some 116, _, _, _, _, _⟩) (v := ?_) rfl (by kernel_rfl) (by kernel_rfl) (by kernel_rfl) (fun _ _ _ h => h) (Or.inl ⟨by kernel_rfl, ?_⟩) (by assumption) ?_
          rotate_left
          focus ((intro w hSw; (try dsimp only at hSw); go_simp); (try with_reducible rfl); done)
          simp only [Act.put, List.setIfInBounds_toArray, List.set_cons_zero, List.set_cons_succ]
          refine wpAnyH_ready (rs := [9]) (by kernel_rfl) (by simp) ?_
          refine AllReadyH.cons (o := ⟨some 117, _, _, _, _, _⟩) rfl (fun K hK => ?_) AllReadyH.nil
          go_simp
          refine (HSK1.out _ (by first | exact (Kp.refl _).drew | exact Kp.refl _)).mono ?_; rintro _ w30 ⟨⟨bb, rfl, hb⟩, k9⟩; obtain rfl : bb = true := (by first | exact hb.2 rfl | exact hb.2 trivial); have K30 : Hid (Kp v2 w30) := (by first | exact (Kp.refl v2).drew.trans k9 | exact k9); clear hb k9
          refine hK.out _ _ (by first | exact HS13.out _ K30.out | exact HS13.out _ (Kp.refl _).drew) (fun hHeld => ?_)
          clear hK K
          try simp only [Act.put, List.setIfInBounds_toArray, List.set_cons_zero, List.set_cons_succ]
          refine wpAnyH_take (i := 10) (oi := ⟨some 118, _, _, _, _, _⟩) (v := ?_) rfl (by kernel_rfl) (by kernel_rfl) (by kernel_rfl) (fun _ _ _ h => h) (Or.inl ⟨by kernel_rfl, ?_⟩) (by assumption) ?_
          rotate_left
          focus ((intro w hSw; (try dsimp only at hSw); go_simp); (try with_reducible rfl); done)
          simp only [Act.put, List.setIfInBounds_toArray, List.set_cons_zero, List.set_cons_succ]
          refine wpAnyH_take (i := 11) (oi := ⟨some 119, _, _, _, _, _⟩) (v := ?_) rfl (by kernel_rfl) (by kernel_rfl) (by kernel_rfl) (fun _ _ _ h => h) (Or.inl ⟨by kernel_rfl, ?_⟩) (by assumption) ?_
          rotate_left
          focus ((intro w hSw; (try dsimp only at hSw); go_simp); (try with_reducible rfl); done)
          simp only [Act.put, List.setIfInBounds_toArray, List.set_cons_zero, List.set_cons_succ]
          refine wpAnyH_take (i := 12) (oi := ⟨some 120, _, _, _, _, _⟩) (v := ?_) rfl (by kernel_rfl) (by kernel_rfl) (by kernel_rfl) (fun _ _ _ h => h) (Or.inl ⟨by kernel_rfl, ?_⟩) (by assumption) ?_
          rotate_left
          focus ((intro w hSw; (try dsimp only at hSw); go_simp); (try with_reducible rfl); done)
          simp only [Act.put, List.setIfInBounds_toArray, List.set_cons_zero, List.set_cons_succ]
          refine wpAnyH_take (i := 13) (oi := ⟨some 121, _, _, _, _, _⟩) (v := ?_) rfl (by kernel_rfl) (by kernel_rfl) (by kernel_rfl) (fun _ _ _ h => h) (Or.inl ⟨by kernel_rfl, ?_⟩) (by assumption) ?_
          rotate_left
          focus ((intro w hSw; (try dsimp only at hSw); go_simp); (try with_reducible rfl); done)
          simp only [Act.put, List.setIfInBounds_toArray, List.set_cons_zero, List.set_cons_succ]
          refine wpAnyH_take (i := 14) (oi := ⟨some 122, _, _, _, _, _⟩) (v := ?_) rfl (by kernel_rfl) (by kernel_rfl) (by kernel_rfl) (fun _ _ _ h => h) (Or.inl ⟨by kernel_rfl, ?_⟩) (by assumption) ?_
          rotate_left
          focus ((intro w hSw; (try dsimp only at hSw); go_simp); (try with_reducible rfl); done)
          simp only [Act.put, List.setIfInBounds_toArray, List.set_cons_zero, List.set_cons_succ]
          refine wpAnyH_take (i := 15) (oi := ⟨some 123, _, _, _, _, _⟩) (v := ?_) rfl (by kernel_rfl) (by kernel_rfl) (by kernel_rfl) (fun _ _ _ h => h) (Or.inl ⟨by kernel_rfl, ?_⟩) (by assumption) ?_
          rotate_left
          focus ((intro w hSw; (try dsimp only at hSw); go_simp); (try with_reducible rfl); done)
          simp only [Act.put, List.setIfInBounds_toArray, List.set_cons_zero, List.set_cons_succ]
          refine wpAnyH_take (i := 16) (oi := ⟨some 124, _, _, _, _, _⟩) (v := ?_) rfl (by kernel_rfl) (by kernel_rfl) (by kernel_rfl) (fun _ _ _ h => h) (Or.inl ⟨by kernel_rfl, ?_⟩) (by assumption) ?_
          rotate_left
          focus ((intro w hSw; (try dsimp only at hSw); go_simp); (try with_reducible rfl); done)
          simp only [Act.put, List.setIfInBounds_toArray, List.set_cons_zero, List.set_cons_succ]
          refine wpAnyH_take (i := 17) (oi := ⟨some 125, _, _, _, _, _⟩) (v := ?_) rfl (by kernel_rfl) (by kernel_rfl) (by kernel_rfl) (fun _ _ _ h => h) (Or.inl ⟨by kernel_rfl, ?_⟩) (by assumption) ?_
          rotate_left
          focus ((intro w hSw; (try dsimp only at hSw); go_simp); (try with_reducible rfl); done)
          simp only [Act.put, List.setIfInBounds_toArray, List.set_cons_zero, List.set_cons_succ]
          refine wpAnyH_take (i := 18) (oi := ⟨some 126, _, _, _, _, _⟩) (v := ?_) rfl (by kernel_rfl) (by kernel_rfl) (by kernel_rfl) (fun _ _ _ h => h) (Or.inl ⟨by kernel_rfl, ?_⟩) (by assumption) ?_
          rotate_left
          focus ((intro w hSw; (try dsimp only at hSw); go_simp); (try with_reducible rfl); done)
          simp only [Act.put, List.setIfInBounds_toArray, List.set_cons_zero, List.set_cons_succ]
          refine wpAnyH_take (i := 19) (oi := ⟨some 127, _, _, _, _, _⟩) (v := ?_) rfl (by kernel_rfl) (by kernel_rfl) (by kernel_rfl) (fun _ _ _ h => h) (Or.inl ⟨by kernel_rfl, ?_⟩) (by assumption) ?_
          rotate_left
          focus ((intro w hSw; (try dsimp only at hSw); go_simp); (try with_reducible rfl); done)
          simp only [Act.put, List.setIfInBounds_toArray, List.set_cons_zero, List.set_cons_succ]
          refine wpAnyH_take (i := 20) (oi := ⟨some 128, _, _, _, _, _⟩) (v := ?_) rfl (by kernel_rfl) (by kernel_rfl) (by kernel_rfl) (fun _ _ _ h => h) (Or.inl ⟨by kernel_rfl, ?_⟩) (by assumption) ?_
          rotate_left
          focus ((intro w hSw; (try dsimp only at hSw); go_simp); (try with_reducible rfl); done)
          simp only [Act.put, List.setIfInBounds_toArray, List.set_cons_zero, List.set_cons_succ]
          refine wpAnyH_take (i := 21) (oi := ⟨some 129, _, _, _, _, _⟩) (v := ?_) rfl (by kernel_rfl) (by kernel_rfl) (by kernel_rfl) (fun _ _ _ h => h) (Or.inl ⟨by kernel_rfl, ?_⟩) (by assumption) ?_
          rotate_left
          focus ((intro w hSw; (try dsimp only at hSw); go_simp); (try with_reducible rfl); done)
          simp only [Act.put, List.setIfInBounds_toArray, List.set_cons_zero, List.set_cons_succ]
          refine wpAnyH_take (i := 22) (oi := ⟨some 130, _, _, _, _, _⟩) (v := ?_) rfl (by kernel_rfl) (by kernel_rfl) (by kernel_rfl) (fun _ _ _ h => h) (Or.inl ⟨by kernel_rfl, ?_⟩) (by assumption) ?_
          rotate_left
          focus ((intro w hSw; (try dsimp only at hSw); go_simp); (try with_reducible rfl); done)
          simp only [Act.put, List.setIfInBounds_toArray, List.set_cons_zero, List.set_cons_succ]
          refine wpAnyH_take (i := 23) (oi := ⟨some 131, _, _, _, _, _⟩) (v := ?_) rfl (by kernel_rfl) (by kernel_rfl) (by kernel_rfl) (fun _ _ _ h => h) (Or.inl ⟨by kernel_rfl, ?_⟩) (by assumption) ?_
          rotate_left
          focus ((intro w hSw; (try dsimp only at hSw); go_simp); (try with_reducible rfl); done)
          simp only [Act.put, List.setIfInBounds_toArray, List.set_cons_zero, List.set_cons_succ]
          refine wpAnyH_take (i := 24) (oi := ⟨some 132, _, _, _, _, _⟩) (v := ?_) rfl (by kernel_rfl) (by kernel_rfl) (by kernel_rfl) (fun _ _ _ h => h) (Or.inl ⟨by kernel_rfl, ?_⟩) (by assumption) ?_
          rotate_left
          focus ((intro w hSw; (try dsimp only at hSw); go_simp); (try with_reducible rfl); done)
          simp only [Act.put, List.setIfInBounds_toArray, List.set_cons_zero, List.set_cons_succ]
          refine wpAnyH_take (i := 25) (oi := ⟨some 133, _, _, _, _, _⟩) (v := ?_) rfl (by kernel_rfl) (by kernel_rfl) (by kernel_rfl) (fun _ _ _ h => h) (Or.inl ⟨by kernel_rfl, ?_⟩) (by assumption) ?_
          rotate_left
          focus ((intro w hSw; (try dsimp only at hSw); go_simp); (try with_reducible rfl); done)
          simp only [Act.put, List.setIfInBounds_toArray, List.set_cons_zero, List.set_cons_succ]
          refine wpAnyH_take (i := 26) (oi := ⟨some 134, _, _, _, _, _⟩) (v := ?_) rfl (by kernel_rfl) (by kernel_rfl) (by kernel_rfl) (fun _ _ _ h => h) (Or.inl ⟨by kernel_rfl, ?_⟩) (by assumption) ?_
          rotate_left
          focus ((intro w hSw; (try dsimp only at hSw); go_simp); (try with_reducible rfl); done)
          simp only [Act.put, List.setIfInBounds_toArray, List.set_cons_zero, List.set_cons_succ]
          refine wpAnyH_done (by kernel_rfl) ?_ _
          clear hHeld
          go_wp2_with fail
          go_loopw [17] (fun z wr => ∃ j : Nat, j ≤ YL ∧ z = .int .i64 (j : Int) ∧ Kp w30 wr) (fun z _ => (YL - (intOf z).toNat))
          case atStart => exact ⟨0, Nat.zero_le _, rfl, Kp.refl _⟩
          case round =>
            obtain ⟨j, hj, rfl, hkj⟩ := hrel
            have KI := Lib.hid hkj
            have KJ := Lib.hid (K30.out.trans hkj)
            obtain ⟨wj, hwj⟩ : ∃ x : World, x = wr := ⟨_, rfl⟩
            subst hwj
            clear hkj
            by_cases hlt : j < YL
            · have i10 : (j : Int) < (SX : Int) - 1 := by have := HYS.out; omega
              have i11 : (j : Int) < (YL : Int) := by omega
              have i12 : IntKind.i64.wrap ((j : Int) + 1) = (j : Int) + 1 := IntWalk.i64_in _ (by have := HYS.out; omega)
              obtain ⟨b1, of1, cc1, m1, m2, e1, _, y0, y1, y2, r1, r2⟩ := LL.node (i := j) (Cv2.out.spare.kp KJ.out) (by rw [HYL.out]; exact hlt)
              rw [HYL.out] at e1
              simp only [Value.slice.injEq] at e1
              obtain ⟨rfl, _, rfl⟩ := e1
              by_cases hji : j < I
              · have i13 : ¬ (I : Int) ≤ (j : Int) := by omega
                have hF1 : j < X.spare.length := by rw [HSX.out]; have := HYS.out; omega
                have i14 : (j : Int) < (SX : Int) := by have := HYS.out; omega
                have hAT : lkAt Y.spare j = lkAt X.spare j := by rw [HAY.out j, if_pos hji]
                rw [hAT] at y0 r1 r2
                obtain ⟨b2, of2, cc2, m3, m4, e2, _, z0, z1, z2, r3, r4⟩ := LL.node (i := j) ((C8.out.spare.kp Kv20.out).kp KJ.out) hF1
                rw [HSX.out] at e2
                simp only [Value.slice.injEq, Option.some.injEq, Addr.mk.injEq] at e2
                obtain ⟨⟨rfl, rfl, _⟩, _, rfl⟩ := e2
                obtain ⟨m1a, m1b, m1c, rfl⟩ := r1.sl
                obtain ⟨m2a, m2b, m2c, rfl⟩ := r2.sl
                obtain ⟨m3a, m3b, m3c, rfl⟩ := r3.sl
                obtain ⟨m4a, m4b, m4c, rfl⟩ := r4.sl
                have HSL := Lib.hid (fun W (hW : Kp wj W) => HSK.out W _ _ _ _ (lkAt X.spare (j)) ⟨r1.kp hW, r2.kp hW⟩ ⟨r3.kp hW, r4.kp hW⟩)
                generalize (lkAt X.spare (j)).pos = PF at *
                have HCC : Hid (∀ W, Kp wj W → W.cell? ⟨G14, 2, none⟩ = some (.slice (some ⟨b1, of1, none⟩) YL yf) ∧ W.cell? ⟨w5.heap.size, 2, none⟩ = some (.slice (some ⟨b0, off, none⟩) SX d6) ∧ W.cell? ⟨b1, of1 + j * 3, none⟩ = some (.int .i64 PF) ∧ W.cell? ⟨b1, of1 + j * 3 + 1, none⟩ = some (.slice m1a m1b m1c) ∧ W.cell? ⟨b1, of1 + j * 3 + 2, none⟩ = some (.slice m2a m2b m2c) ∧ W.cell? ⟨b0, off + j * 3, none⟩ = some (.int .i64 PF) ∧ W.cell? ⟨b0, off + j * 3 + 1, none⟩ = some (.slice m3a m3b m3c) ∧ W.cell? ⟨b0, off + j * 3 + 2, none⟩ = some (.slice m4a m4b m4c)) := fun W hW => ⟨(Bv2_12.out.kp (KJ.out.trans hW)).cell 2, (D8.out.kp (Kv20.out.trans (KJ.out.trans hW))).cell 2, hW.cell y0, hW.cell y1, hW.cell y2, hW.cell z0, hW.cell z1, hW.cell z2⟩
                have S0 := Lib.hid (HCC.out wj (Kp.refl _))
                clear y0 y1 y2 z0 z1 z2 r1 r2 r3 r4 hF1 hAT
                go_wp2_with fail
                go_region_held3 (fun W => W.cell? ⟨G14, 2, none⟩ = some (.slice (some ⟨b1, of1, none⟩) YL yf) ∧ W.cell? ⟨w5.heap.size, 2, none⟩ = some (.slice (some ⟨b0, off, none⟩) SX d6) ∧ W.cell? ⟨b1, of1 + j * 3, none⟩ = some (.int .i64 PF) ∧ W.cell? ⟨b1, of1 + j * 3 + 1, none⟩ = some (.slice m1a m1b m1c) ∧ W.cell? ⟨b1, of1 + j * 3 + 2, none⟩ = some (.slice m2a m2b m2c) ∧ W.cell? ⟨b0, off + j * 3, none⟩ = some (.int .i64 PF) ∧ W.cell? ⟨b0, off + j * 3 + 1, none⟩ = some (.slice m3a m3b m3c) ∧ W.cell? ⟨b0, off + j * 3 + 2, none⟩ = some (.slice m4a m4b m4c))
                  (first | (with_reducible exact S9.out) | exact S0.out)
                  (first | (go_at_call 14; refine (HSL.out _ (by first | exact Kp.refl _ | exact (Kp.refl _).drew)).mono ?_; rintro _ w9 ⟨⟨bb, rfl, hbb⟩, k9⟩; obtain rfl : bb = true := (by first | exact hbb.2 rfl | exact hbb.2 trivial); have K9 : Hid (Kp wj w9) := (by first | exact k9 | exact (Kp.refl wj).drew.trans k9); have S9 := Lib.hid (HCC.out w9 K9.out); clear hbb k9))
                have KF := Lib.hid (KI.out.trans K9.out)
                clear S0 S9 HCC HSL
                go_wp2_with fail
                go_roundw
                case rel => exact ⟨j + 1, by omega, by first | rfl | go_num, KF.out⟩
                case measure => simp [intOf]; omega
              · have i13 : (I : Int) ≤ (j : Int) := by omega
                have hF1 : (j + 1) < X.spare.length := by rw [HSX.out]; have := HYS.out; omega
                have i14 : (j : Int) + 1 < (SX : Int) := by have := HYS.out; omega
                have i15 : 0 ≤ (j : Int) + 1 := by omega
                have hAT : lkAt Y.spare j = lkAt X.spare (j + 1) := by rw [HAY.out j, if_neg hji]
                rw [hAT] at y0 r1 r2
                obtain ⟨b2, of2, cc2, m3, m4, e2, _, z0, z1, z2, r3, r4⟩ := LL.node (i := (j + 1)) ((C8.out.spare.kp Kv20.out).kp KJ.out) hF1
                rw [HSX.out] at e2
                simp only [Value.slice.injEq, Option.some.injEq, Addr.mk.injEq] at e2
                obtain ⟨⟨rfl, rfl, _⟩, _, rfl⟩ := e2
                obtain ⟨m1a, m1b, m1c, rfl⟩ := r1.sl
                obtain ⟨m2a, m2b, m2c, rfl⟩ := r2.sl
                obtain ⟨m3a, m3b, m3c, rfl⟩ := r3.sl
                obtain ⟨m4a, m4b, m4c, rfl⟩ := r4.sl
                have HSL := Lib.hid (fun W (hW : Kp wj W) => HSK.out W _ _ _ _ (lkAt X.spare ((j + 1))) ⟨r1.kp hW, r2.kp hW⟩ ⟨r3.kp hW, r4.kp hW⟩)
                generalize (lkAt X.spare ((j + 1))).pos = PF at *
                have HCC : Hid (∀ W, Kp wj W → W.cell? ⟨G14, 2, none⟩ = some (.slice (some ⟨b1, of1, none⟩) YL yf) ∧ W.cell? ⟨w5.heap.size, 2, none⟩ = some (.slice (some ⟨b0, off, none⟩) SX d6) ∧ W.cell? ⟨b1, of1 + j * 3, none⟩ = some (.int .i64 PF) ∧ W.cell? ⟨b1, of1 + j * 3 + 1, none⟩ = some (.slice m1a m1b m1c) ∧ W.cell? ⟨b1, of1 + j * 3 + 2, none⟩ = some (.slice m2a m2b m2c) ∧ W.cell? ⟨b0, off + (j + 1) * 3, none⟩ = some (.int .i64 PF) ∧ W.cell? ⟨b0, off + (j + 1) * 3 + 1, none⟩ = some (.slice m3a m3b m3c) ∧ W.cell? ⟨b0, off + (j + 1) * 3 + 2, none⟩ = some (.slice m4a m4b m4c)) := fun W hW => ⟨(Bv2_12.out.kp (KJ.out.trans hW)).cell 2, (D8.out.kp (Kv20.out.trans (KJ.out.trans hW))).cell 2, hW.cell y0, hW.cell y1, hW.cell y2, hW.cell z0, hW.cell z1, hW.cell z2⟩
                have S0 := Lib.hid (HCC.out wj (Kp.refl _))
                clear y0 y1 y2 z0 z1 z2 r1 r2 r3 r4 hF1 hAT
                go_wp2_with fail
                go_region_held3 (fun W => W.cell? ⟨G14, 2, none⟩ = some (.slice (some ⟨b1, of1, none⟩) YL yf) ∧ W.cell? ⟨w5.heap.size, 2, none⟩ = some (.slice (some ⟨b0, off, none⟩) SX d6) ∧ W.cell? ⟨b1, of1 + j * 3, none⟩ = some (.int .i64 PF) ∧ W.cell? ⟨b1, of1 + j * 3 + 1, none⟩ = some (.slice m1a m1b m1c) ∧ W.cell? ⟨b1, of1 + j * 3 + 2, none⟩ = some (.slice m2a m2b m2c) ∧ W.cell? ⟨b0, off + (j + 1) * 3, none⟩ = some (.int .i64 PF) ∧ W.cell? ⟨b0, off + (j + 1) * 3 + 1, none⟩ = some (.slice m3a m3b m3c) ∧ W.cell? ⟨b0, off + (j + 1) * 3 + 2, none⟩ = some (.slice m4a m4b m4c))
                  (first | (with_reducible exact S9.out) | exact S0.out)
                  (first | (go_at_call 14; refine (HSL.out _ (by first | exact Kp.refl _ | exact (Kp.refl _).drew)).mono ?_; rintro _ w9 ⟨⟨bb, rfl, hbb⟩, k9⟩; obtain rfl : bb = true := (by first | exact hbb.2 rfl | exact hbb.2 trivial); have K9 : Hid (Kp wj w9) := (by first | exact k9 | exact (Kp.refl wj).drew.trans k9); have S9 := Lib.hid (HCC.out w9 K9.out); clear hbb k9))
                have KF := Lib.hid (KI.out.trans K9.out)
                clear S0 S9 HCC HSL
                go_wp2_with fail
                go_roundw
                case rel => exact ⟨j + 1, by omega, by first | rfl | go_num, KF.out⟩
                case measure => simp [intOf]; omega
            · obtain rfl : j = YL := by omega
              have i10 : ¬ (j : Int) < (SX : Int) - 1 := by have := HYS.out; omega
              have HS23 : Hid (∀ W, Kp wj W → W.cell? ⟨G14, 0, none⟩ = some (.int .i64 (AT + 1)) ∧ W.cell? ⟨G14, 1, none⟩ = some (.slice ya yb yc) ∧ W.cell? ⟨G14, 2, none⟩ = some (.slice yd j yf) ∧ W.cell? ⟨w5.heap.size, 2, none⟩ = some (.slice (some ⟨b0, off, none⟩) SX d6) ∧ W.cell? ⟨b0, off + I * 3, none⟩ = some (.int .i64 PS)) := fun W hW => ⟨(Bv2_12.out.kp (KJ.out.trans hW)).cell 0, (Bv2_12.out.kp (KJ.out.trans hW)).cell 1, (Bv2_12.out.kp (KJ.out.trans hW)).cell 2, (D8.out.kp (Kv20.out.trans (KJ.out.trans hW))).cell 2, hW.cell (KJ.out.cell (Kv20.out.cell HZC.out.1))⟩
              have HCY := Lib.hid (Cv2.out.kp KJ.out)
              have HKW := Lib.hid ((K8.out.trans Kv20.out).trans KJ.out)
              rw [show noLk.pos = 0 from rfl] at HTY
              go_wp2_with fail
              refine later7 (Q := ?QR1) (F := fun g g1 x y p q W => Bx W g 34 #[.int .i64 0, .slice none 0 0, .slice none 0 0] ∧ Bx W g1 37 #[.int .i64 0, .slice none 0 0, .slice none 0 0] ∧ g ≠ g1 ∧ wj.heap.size ≤ g ∧ wj.heap.size ≤ g1 ∧ Kp wj W ∧ CIn W x y Y ∧ LIn W p q noLk) ?waysR1 ?restR1
              case waysR1 =>
                intro key
                refine wp_region_held_drew (S := fun W => W.cell? ⟨G14, 0, none⟩ = some (.int .i64 (AT + 1)) ∧ W.cell? ⟨G14, 1, none⟩ = some (.slice ya yb yc) ∧ W.cell? ⟨G14, 2, none⟩ = some (.slice yd j yf) ∧ W.cell? ⟨w5.heap.size, 2, none⟩ = some (.slice (some ⟨b0, off, none⟩) SX d6) ∧ W.cell? ⟨b0, off + I * 3, none⟩ = some (.int .i64 PS)) (by kernel_rfl) (HS23.out _ (Kp.refl _).drew) (fun hHeld => ?_)
                obtain ⟨v0, hv0⟩ : ∃ x, wj.drew = x := ⟨_, rfl⟩
                have Kv0 : Hid (Kp wj v0) := by unfold Hid; rw [← hv0]; exact (Kp.refl _).drew
                rw [hv0] at hHeld ⊢
                clear hv0
                refine wpAnyH_take (i := 0) (oi := ⟨some 160, _, _, _, _, _⟩) (v := ?_) rfl (by kernel_rfl) (by kernel_rfl) (by kernel_rfl) (fun _ _ _ h => h) (Or.inl ⟨by kernel_rfl, ?_⟩) (by assumption) ?_
                rotate_left
                focus ((intro w hSw; (try dsimp only at hSw); go_simp); (try with_reducible rfl); done)
                simp only [Act.put, List.setIfInBounds_toArray, List.set_cons_zero, List.set_cons_succ]
                refine wpAnyH_take (i := 1) (oi := ⟨some 161, _, _, _, _, _⟩) (v := ?_) rfl (by kernel_rfl) (by kernel_rfl) (by kernel_rfl) (fun _ _ _ h => h) (Or.inl ⟨by kernel_rfl, ?_⟩) (by assumption) ?_
                rotate_left
                focus ((intro w hSw; (try dsimp only at hSw); go_simp); (try with_reducible rfl); done)
                simp only [Act.put, List.setIfInBounds_toArray, List.set_cons_zero, List.set_cons_succ]
                refine wpAnyH_take (i := 2) (oi := ⟨some 162, _, _, _, _, _⟩) (v := ?_) rfl (by kernel_rfl) (by kernel_rfl) (by kernel_rfl) (fun _ _ _ h => h) (Or.inl ⟨by kernel_rfl, ?_⟩) (by assumption) ?_
                rotate_left
                focus ((intro w hSw; (try dsimp only at hSw); go_simp); (try with_reducible rfl); done)
                simp only [Act.put, List.setIfInBounds_toArray, List.set_cons_zero, List.set_cons_succ]
                refine wpAnyH_take (i := 3) (oi := ⟨some 163, _, _, _, _, _⟩) (v := ?_) rfl (by kernel_rfl) (by kernel_rfl) (by kernel_rfl) (fun _ _ _ h => h) (Or.inl ⟨by kernel_rfl, ?_⟩) (by assumption) ?_
                rotate_left
                focus ((intro w hSw; (try dsimp only at hSw); go_simp); (try with_reducible rfl); done)
                simp only [Act.put, List.setIfInBounds_toArray, List.set_cons_zero, List.set_cons_succ]
                refine wpAnyH_take (i := 4) (oi := ⟨some 164, _, _, _, _, _⟩) (v := ?_) rfl (by kernel_rfl) (by kernel_rfl) (by kernel_rfl) (fun _ _ _ h => h) (Or.inl ⟨by kernel_rfl, ?_⟩) (by assumption) ?_
                rotate_left
                focus ((intro w hSw; (try dsimp only at hSw); go_simp); (try with_reducible rfl); done)
                simp only [Act.put, List.setIfInBounds_toArray, List.set_cons_zero, List.set_cons_succ]
                refine wpAnyH_take (i := 5) (oi := ⟨some 165, _, _, _, _, _⟩) (v := ?_) rfl (by kernel_rfl) (by kernel_rfl) (by kernel_rfl) (fun _ _ _ h => h) (Or.inl ⟨by kernel_rfl, ?_⟩) (by assumption) ?_
                rotate_left
                focus ((intro w hSw; (try dsimp only at hSw); go_simp); (try with_reducible rfl); done)
                simp only [Act.put, List.setIfInBounds_toArray, List.set_cons_zero, List.set_cons_succ]
                refine wpAnyH_take (i := 6) (oi := ⟨some 166, _, _, _, _, _⟩) (v := ?_) rfl (by kernel_rfl) (by kernel_rfl) (by kernel_rfl) (fun _ _ _ h => h) (Or.inl ⟨by kernel_rfl, ?_⟩) (by assumption) ?_
                rotate_left
                focus ((intro w hSw; (try dsimp only at hSw); go_simp); (try with_reducible rfl); done)
                simp only [Act.put, List.setIfInBounds_toArray, List.set_cons_zero, List.set_cons_succ]
                refine wpAnyH_ready (rs := [7, 12, 13]) (by kernel_rfl) (by simp) ?_
                refine AllReadyH.cons rfl (fun K hK => ?_) (AllReadyH.cons rfl (fun K hK => ?_) (AllReadyH.cons rfl (fun K hK => ?_) (AllReadyH.nil)))
                · go_simp
                  refine (HTY.out _ _ _ (HCY.out.kp Kv0.out)).mono ?_
                  rintro _ v1 ⟨x9, y9, p9, q9, rfl, c9, l9, k9⟩
                  have Kv1 := Lib.hid (Kv0.out.trans k9)
                  have Cv1 := Lib.hid c9
                  have Lv1 := Lib.hid l9
                  clear c9 l9 k9
                  refine hK.out _ _ (HS23.out _ (Kv1.out)) (fun hHeld => ?_)
                  clear hK K
                  try simp only [Act.put, List.setIfInBounds_toArray, List.set_cons_zero, List.set_cons_succ]
                  refine wpAnyH_take (i := 8) (oi := ⟨some 159, _, _, _, _, _⟩) (v := ?_) rfl (by kernel_rfl) (by kernel_rfl) (by kernel_rfl) (fun _ _ _ h => h) (Or.inl ⟨by kernel_rfl, ?_⟩) (by assumption) ?_
                  rotate_left
                  focus ((intro w hSw; (try dsimp only at hSw); go_simp); (try with_reducible rfl); done)
                  simp only [Act.put, List.setIfInBounds_toArray, List.set_cons_zero, List.set_cons_succ]
                  refine wpAnyH_take (i := 9) (oi := ⟨some 168, _, _, _, _, _⟩) (v := ?_) rfl (by kernel_rfl) (by kernel_rfl) (by kernel_rfl) (fun _ _ _ h => h) (Or.inl ⟨by kernel_rfl, ?_⟩) (by assumption) ?_
                  rotate_left
                  focus ((intro w hSw; (try dsimp only at hSw); go_simp); (try with_reducible rfl); done)
                  simp only [Act.put, List.setIfInBounds_toArray, List.set_cons_zero, List.set_cons_succ]
                  refine wpAnyH_take (i := 10) (oi := ⟨some 169, _, _, _, _, _⟩) (v := ?_) rfl (by kernel_rfl) (by kernel_rfl) (by kernel_rfl) (fun _ _ _ h => h) (Or.inl ⟨by kernel_rfl, ?_⟩) (by assumption) ?_
                  rotate_left
                  focus ((intro w hSw; (try dsimp only at hSw); go_simp); (try with_reducible rfl); done)
                  simp only [Act.put, List.setIfInBounds_toArray, List.set_cons_zero, List.set_cons_succ]
                  refine wpAnyH_take (i := 11) (oi := ⟨some 170, _, _, _, _, _⟩) (v := ?_) rfl (by kernel_rfl) (by kernel_rfl) (by kernel_rfl) (fun _ _ _ h => h) (Or.inl ⟨by kernel_rfl, ?_⟩) (by assumption) ?_
                  rotate_left
                  focus ((intro w hSw; (try dsimp only at hSw); go_simp); (try with_reducible rfl); done)
                  simp only [Act.put, List.setIfInBounds_toArray, List.set_cons_zero, List.set_cons_succ]
                  refine wpAnyH_ready (rs := [12, 13]) (by kernel_rfl) (by simp) ?_
                  refine AllReadyH.cons rfl (fun K hK => ?_) (AllReadyH.cons rfl (fun K hK => ?_) (AllReadyH.nil))
                  · go_simp
                    refine hK.out _ _ (HS23.out _ (Kv1.out.alloc _)) (fun hHeld => ?_)
                    clear hK K
                    try simp only [Act.put, List.setIfInBounds_toArray, List.set_cons_zero, List.set_cons_succ]
                    obtain ⟨v2, hv2⟩ : ∃ x, v1.alloc (.cells #[.int .i64 0, .slice none 0 0, .slice none 0 0] 34) = x := ⟨_, rfl⟩
                    have k9 : Kp v1 v2 := by rw [← hv2]; exact (Kp.refl _).alloc _
                    have Bv2_12 : Hid (Bx v2 v1.heap.size 34 #[.int .i64 0, .slice none 0 0, .slice none 0 0]) := by unfold Hid; rw [← hv2]; exact Bx.new v1 _ _
                    have Kv2 := Lib.hid (Kv1.out.trans k9)
                    have Cv2 := Lib.hid (Cv1.out.kp k9)
                    have Lv2 := Lib.hid (Lv1.out.kp k9)
                    rw [hv2] at hHeld ⊢
                    clear k9 hv2
                    refine wpAnyH_ready (rs := [13]) (by kernel_rfl) (by simp) ?_
                    refine AllReadyH.cons rfl (fun K hK => ?_) (AllReadyH.nil)
                    · have Nv3_12 := Lib.hid (Array.getElem?_eq_some_iff.1 Bv2_12.out).1
                      go_simp
                      refine hK.out _ _ (HS23.out _ (Kv2.out.alloc _)) (fun hHeld => ?_)
                      clear hK K
                      try simp only [Act.put, List.setIfInBounds_toArray, List.set_cons_zero, List.set_cons_succ]
                      obtain ⟨v3, hv3⟩ : ∃ x, v2.alloc (.cells #[.int .i64 0, .slice none 0 0, .slice none 0 0] 37) = x := ⟨_, rfl⟩
                      have k9 : Kp v2 v3 := by rw [← hv3]; exact (Kp.refl _).alloc _
                      have Bv3_13 : Hid (Bx v3 v2.heap.size 37 #[.int .i64 0, .slice none 0 0, .slice none 0 0]) := by unfold Hid; rw [← hv3]; exact Bx.new v2 _ _
                      have Bv3_12 := Lib.hid (Bv2_12.out.kp k9)
                      have Kv3 := Lib.hid (Kv2.out.trans k9)
                      have Cv3 := Lib.hid (Cv2.out.kp k9)
                      have Lv3 := Lib.hid (Lv2.out.kp k9)
                      rw [hv3] at hHeld ⊢
                      clear k9 hv3
                      have hF := And.intro Bv3_12.out (And.intro Bv3_13.out (And.intro (show v1.heap.size ≠ v2.heap.size by have h5 := Nv3_12.out; omega) (And.intro (Kv1.out.size) (And.intro (Kv2.out.size) (And.intro Kv3.out (And.intro Cv3.out Lv3.out))))))
                      clear hHeld
                      obtain ⟨G1, hG1⟩ : ∃ x, v1.heap.size = x := ⟨_, rfl⟩
                      obtain ⟨G2, hG2⟩ : ∃ x, v2.heap.size = x := ⟨_, rfl⟩
                      rw [hG1, hG2] at hF ⊢
                      exact key.out _ _ _ _ _ _ _ hF
                  · go_simp
                    refine hK.out _ _ (HS23.out _ (Kv1.out.alloc _)) (fun hHeld => ?_)
                    clear hK K
                    try simp only [Act.put, List.setIfInBounds_toArray, List.set_cons_zero, List.set_cons_succ]
                    obtain ⟨v4, hv4⟩ : ∃ x, v1.alloc (.cells #[.int .i64 0, .slice none 0 0, .slice none 0 0] 37) = x := ⟨_, rfl⟩
                    have k9 : Kp v1 v4 := by rw [← hv4]; exact (Kp.refl _).alloc _
                    have Bv4_13 : Hid (Bx v4 v1.heap.size 37 #[.int .i64 0, .slice none 0 0, .slice none 0 0]) := by unfold Hid; rw [← hv4]; exact Bx.new v1 _ _
                    have Kv4 := Lib.hid (Kv1.out.trans k9)
                    have Cv4 := Lib.hid (Cv1.out.kp k9)
                    have Lv4 := Lib.hid (Lv1.out.kp k9)
                    rw [hv4] at hHeld ⊢
                    clear k9 hv4
                    refine wpAnyH_ready (rs := [12]) (by kernel_rfl) (by simp) ?_
                    refine AllReadyH.cons rfl (fun K hK => ?_) (AllReadyH.nil)
                    · have Nv5_13 := Lib.hid (Array.getElem?_eq_some_iff.1 Bv4_13.out).1
                      go_simp
                      refine hK.out _ _ (HS23.out _ (Kv4.out.alloc _)) (fun hHeld => ?_)
                      clear hK K
                      try simp only [Act.put, List.setIfInBounds_toArray, List.set_cons_zero, List.set_cons_succ]
                      obtain ⟨v5, hv5⟩ : ∃ x, v4.alloc (.cells #[.int .i64 0, .slice none 0 0, .slice none 0 0] 34) = x := ⟨_, rfl⟩
                      have k9 : Kp v4 v5 := by rw [← hv5]; exact (Kp.refl _).alloc _
                      have Bv5_12 : Hid (Bx v5 v4.heap.size 34 #[.int .i64 0, .slice none 0 0, .slice none 0 0]) := by unfold Hid; rw [← hv5]; exact Bx.new v4 _ _
                      have Bv5_13 := Lib.hid (Bv4_13.out.kp k9)
                      have Kv5 := Lib.hid (Kv4.out.trans k9)
                      have Cv5 := Lib.hid (Cv4.out.kp k9)
                      have Lv5 := Lib.hid (Lv4.out.kp k9)
                      rw [hv5] at hHeld ⊢
                      clear k9 hv5
                      have hF := And.intro Bv5_12.out (And.intro Bv5_13.out (And.intro (show v4.heap.size ≠ v1.heap.size by have h5 := Nv5_13.out; omega) (And.intro (Kv4.out.size) (And.intro (Kv1.out.size) (And.intro Kv5.out (And.intro Cv5.out Lv5.out))))))
                      clear hHeld
                      obtain ⟨G1, hG1⟩ : ∃ x, v4.heap.size = x := ⟨_, rfl⟩
                      obtain ⟨G2, hG2⟩ : ∃ x, v1.heap.size = x := ⟨_, rfl⟩
                      rw [hG1, hG2] at hF ⊢
                      exact key.out _ _ _ _ _ _ _ hF
                · go_simp
                  refine hK.out _ _ (HS23.out _ (Kv0.out.alloc _)) (fun hHeld => ?_)
                  clear hK K
                  try simp only [Act.put, List.setIfInBounds_toArray, List.set_cons_zero, List.set_cons_succ]
                  obtain ⟨v6, hv6⟩ : ∃ x, v0.alloc (.cells #[.int .i64 0, .slice none 0 0, .slice none 0 0] 34) = x := ⟨_, rfl⟩
                  have k9 : Kp v0 v6 := by rw [← hv6]; exact (Kp.refl _).alloc _
                  have Bv6_12 : Hid (Bx v6 v0.heap.size 34 #[.int .i64 0, .slice none 0 0, .slice none 0 0]) := by unfold Hid; rw [← hv6]; exact Bx.new v0 _ _
                  have Kv6 := Lib.hid (Kv0.out.trans k9)
                  rw [hv6] at hHeld ⊢
                  clear k9 hv6
                  refine wpAnyH_ready (rs := [7, 13]) (by kernel_rfl) (by simp) ?_
                  refine AllReadyH.cons rfl (fun K hK => ?_) (AllReadyH.cons rfl (fun K hK => ?_) (AllReadyH.nil))
                  · go_simp
                    refine (HTY.out _ _ _ (HCY.out.kp Kv6.out)).mono ?_
                    rintro _ v7 ⟨x9, y9, p9, q9, rfl, c9, l9, k9⟩
                    have Kv7 := Lib.hid (Kv6.out.trans k9)
                    have Bv7_12 := Lib.hid (Bv6_12.out.kp k9)
                    have Cv7 := Lib.hid c9
                    have Lv7 := Lib.hid l9
                    clear c9 l9 k9
                    refine hK.out _ _ (HS23.out _ (Kv7.out)) (fun hHeld => ?_)
                    clear hK K
                    try simp only [Act.put, List.setIfInBounds_toArray, List.set_cons_zero, List.set_cons_succ]
                    refine wpAnyH_take (i := 8) (oi := ⟨some 159, _, _, _, _, _⟩) (v := ?_) rfl (by kernel_rfl) (by kernel_rfl) (by kernel_rfl) (fun _ _ _ h => h) (Or.inl ⟨by kernel_rfl, ?_⟩) (by assumption) ?_
                    rotate_left
                    focus ((intro w hSw; (try dsimp only at hSw); go_simp); (try with_reducible rfl); done)
                    simp only [Act.put, List.setIfInBounds_toArray, List.set_cons_zero, List.set_cons_succ]
                    refine wpAnyH_take (i := 9) (oi := ⟨some 168, _, _, _, _, _⟩) (v := ?_) rfl (by kernel_rfl) (by kernel_rfl) (by kernel_rfl) (fun _ _ _ h => h) (Or.inl ⟨by kernel_rfl, ?_⟩) (by assumption) ?_
                    rotate_left
                    focus ((intro w hSw; (try dsimp only at hSw); go_simp); (try with_reducible rfl); done)
                    simp only [Act.put, List.setIfInBounds_toArray, List.set_cons_zero, List.set_cons_succ]
                    refine wpAnyH_take (i := 10) (oi := ⟨some 169, _, _, _, _, _⟩) (v := ?_) rfl (by kernel_rfl) (by kernel_rfl) (by kernel_rfl) (fun _ _ _ h => h) (Or.inl ⟨by kernel_rfl, ?_⟩) (by assumption) ?_
                    rotate_left
                    focus ((intro w hSw; (try dsimp only at hSw); go_simp); (try with_reducible rfl); done)
                    simp only [Act.put, List.setIfInBounds_toArray, List.set_cons_zero, List.set_cons_succ]
                    refine wpAnyH_take (i := 11) (oi := ⟨some 170, _, _, _, _, _⟩) (v := ?_) rfl (by kernel_rfl) (by kernel_rfl) (by kernel_rfl) (fun _ _ _ h => h) (Or.inl ⟨by kernel_rfl, ?_⟩) (by assumption) ?_
                    rotate_left
                    focus ((intro w hSw; (try dsimp only at hSw); go_simp); (try with_reducible rfl); done)
                    simp only [Act.put, List.setIfInBounds_toArray, List.set_cons_zero, List.set_cons_succ]
                    refine wpAnyH_ready (rs := [13]) (by kernel_rfl) (by simp) ?_
                    refine AllReadyH.cons rfl (fun K hK => ?_) (AllReadyH.nil)
                    · have Nv8_12 := Lib.hid (Array.getElem?_eq_some_iff.1 Bv7_12.out).1
                      go_simp
                      refine hK.out _ _ (HS23.out _ (Kv7.out.alloc _)) (fun hHeld => ?_)
                      clear hK K
                      try simp only [Act.put, List.setIfInBounds_toArray, List.set_cons_zero, List.set_cons_succ]
                      obtain ⟨v8, hv8⟩ : ∃ x, v7.alloc (.cells #[.int .i64 0, .slice none 0 0, .slice none 0 0] 37) = x := ⟨_, rfl⟩
                      have k9 : Kp v7 v8 := by rw [← hv8]; exact (Kp.refl _).alloc _
                      have Bv8_13 : Hid (Bx v8 v7.heap.size 37 #[.int .i64 0, .slice none 0 0, .slice none 0 0]) := by unfold Hid; rw [← hv8]; exact Bx.new v7 _ _
                      have Bv8_12 := Lib.hid (Bv7_12.out.kp k9)
                      have Kv8 := Lib.hid (Kv7.out.trans k9)
                      have Cv8 := Lib.hid (Cv7.out.kp k9)
                      have Lv8 := Lib.hid (Lv7.out.kp k9)
                      rw [hv8] at hHeld ⊢
                      clear k9 hv8
                      have hF := And.intro Bv8_12.out (And.intro Bv8_13.out (And.intro (show v0.heap.size ≠ v7.heap.size by have h5 := Nv8_12.out; omega) (And.intro (Kv0.out.size) (And.intro (Kv7.out.size) (And.intro Kv8.out (And.intro Cv8.out Lv8.out))))))
                      clear hHeld
                      obtain ⟨G1, hG1⟩ : ∃ x, v0.heap.size = x := ⟨_, rfl⟩
                      obtain ⟨G2, hG2⟩ : ∃ x, v7.heap.size = x := ⟨_, rfl⟩
                      rw [hG1, hG2] at hF ⊢
                      exact key.out _ _ _ _ _ _ _ hF
                  · have Nv9_12 := Lib.hid (Array.getElem?_eq_some_iff.1 Bv6_12.out).1
                    go_simp
                    refine hK.out _ _ (HS23.out _ (Kv6.out.alloc _)) (fun hHeld => ?_)
                    clear hK K
                    try simp only [Act.put, List.setIfInBounds_toArray, List.set_cons_zero, List.set_cons_succ]
                    obtain ⟨v9, hv9⟩ : ∃ x, v6.alloc (.cells #[.int .i64 0, .slice none 0 0, .slice none 0 0] 37) = x := ⟨_, rfl⟩
                    have k9 : Kp v6 v9 := by rw [← hv9]; exact (Kp.refl _).alloc _
                    have Bv9_13 : Hid (Bx v9 v6.heap.size 37 #[.int .i64 0, .slice none 0 0, .slice none 0 0]) := by unfold Hid; rw [← hv9]; exact Bx.new v6 _ _
                    have Bv9_12 := Lib.hid (Bv6_12.out.kp k9)
                    have Kv9 := Lib.hid (Kv6.out.trans k9)
                    rw [hv9] at hHeld ⊢
                    clear k9 hv9
                    refine wpAnyH_ready (rs := [7]) (by kernel_rfl) (by simp) ?_
                    refine AllReadyH.cons rfl (fun K hK => ?_) (AllReadyH.nil)
                    · go_simp
                      refine (HTY.out _ _ _ (HCY.out.kp Kv9.out)).mono ?_
                      rintro _ v10 ⟨x9, y9, p9, q9, rfl, c9, l9, k9⟩
                      have Kv10 := Lib.hid (Kv9.out.trans k9)
                      have Bv10_12 := Lib.hid (Bv9_12.out.kp k9)
                      have Bv10_13 := Lib.hid (Bv9_13.out.kp k9)
                      have Cv10 := Lib.hid c9
                      have Lv10 := Lib.hid l9
                      clear c9 l9 k9
                      refine hK.out _ _ (HS23.out _ (Kv10.out)) (fun hHeld => ?_)
                      clear hK K
                      try simp only [Act.put, List.setIfInBounds_toArray, List.set_cons_zero, List.set_cons_succ]
                      refine wpAnyH_take (i := 8) (oi := ⟨some 159, _, _, _, _, _⟩) (v := ?_) rfl (by kernel_rfl) (by kernel_rfl) (by kernel_rfl) (fun _ _ _ h => h) (Or.inl ⟨by kernel_rfl, ?_⟩) (by assumption) ?_
                      rotate_left
                      focus ((intro w hSw; (try dsimp only at hSw); go_simp); (try with_reducible rfl); done)
                      simp only [Act.put, List.setIfInBounds_toArray, List.set_cons_zero, List.set_cons_succ]
                      refine wpAnyH_take (i := 9) (oi := ⟨some 168, _, _, _, _, _⟩) (v := ?_) rfl (by kernel_rfl) (by kernel_rfl) (by kernel_rfl) (fun _ _ _ h => h) (Or.inl ⟨by kernel_rfl, ?_⟩) (by assumption) ?_
                      rotate_left
                      focus ((intro w hSw; (try dsimp only at hSw); go_simp); (try with_reducible rfl); done)
                      simp only [Act.put, List.setIfInBounds_toArray, List.set_cons_zero, List.set_cons_succ]
                      refine wpAnyH_take (i := 10) (oi := ⟨some 169, _, _, _, _, _⟩) (v := ?_) rfl (by kernel_rfl) (by kernel_rfl) (by kernel_rfl) (fun _ _ _ h => h) (Or.inl ⟨by kernel_rfl, ?_⟩) (by assumption) ?_
                      rotate_left
                      focus ((intro w hSw; (try dsimp only at hSw); go_simp); (try with_reducible rfl); done)
                      simp only [Act.put, List.setIfInBounds_toArray, List.set_cons_zero, List.set_cons_succ]
                      refine wpAnyH_take (i := 11) (oi := ⟨some 170, _, _, _, _, _⟩) (v := ?_) rfl (by kernel_rfl) (by kernel_rfl) (by kernel_rfl) (fun _ _ _ h => h) (Or.inl ⟨by kernel_rfl, ?_⟩) (by assumption) ?_
                      rotate_left
                      focus ((intro w hSw; (try dsimp only at hSw); go_simp); (try with_reducible rfl); done)
                      simp only [Act.put, List.setIfInBounds_toArray, List.set_cons_zero, List.set_cons_succ]
                      have hF := And.intro Bv10_12.out (And.intro Bv10_13.out (And.intro (show v0.heap.size ≠ v6.heap.size by have h5 := Nv9_12.out; omega) (And.intro (Kv0.out.size) (And.intro (Kv6.out.size) (And.intro Kv10.out (And.intro Cv10.out Lv10.out))))))
                      clear hHeld
                      obtain ⟨G1, hG1⟩ : ∃ x, v0.heap.size = x := ⟨_, rfl⟩
                      obtain ⟨G2, hG2⟩ : ∃ x, v6.heap.size = x := ⟨_, rfl⟩
                      rw [hG1, hG2] at hF ⊢
                      exact key.out _ _ _ _ _ _ _ hF
                · go_simp
                  refine hK.out _ _ (HS23.out _ (Kv0.out.alloc _)) (fun hHeld => ?_)
                  clear hK K
                  try simp only [Act.put, List.setIfInBounds_toArray, List.set_cons_zero, List.set_cons_succ]
                  obtain ⟨v11, hv11⟩ : ∃ x, v0.alloc (.cells #[.int .i64 0, .slice none 0 0, .slice none 0 0] 37) = x := ⟨_, rfl⟩
                  have k9 : Kp v0 v11 := by rw [← hv11]; exact (Kp.refl _).alloc _
                  have Bv11_13 : Hid (Bx v11 v0.heap.size 37 #[.int .i64 0, .slice none 0 0, .slice none 0 0]) := by unfold Hid; rw [← hv11]; exact Bx.new v0 _ _
                  have Kv11 := Lib.hid (Kv0.out.trans k9)
                  rw [hv11] at hHeld ⊢
                  clear k9 hv11
                  refine wpAnyH_ready (rs := [7, 12]) (by kernel_rfl) (by simp) ?_
                  refine AllReadyH.cons rfl (fun K hK => ?_) (AllReadyH.cons rfl (fun K hK => ?_) (AllReadyH.nil))
                  · go_simp
                    refine (HTY.out _ _ _ (HCY.out.kp Kv11.out)).mono ?_
                    rintro _ v12 ⟨x9, y9, p9, q9, rfl, c9, l9, k9⟩
                    have Kv12 := Lib.hid (Kv11.out.trans k9)
                    have Bv12_13 := Lib.hid (Bv11_13.out.kp k9)
                    have Cv12 := Lib.hid c9
                    have Lv12 := Lib.hid l9
                    clear c9 l9 k9
                    refine hK.out _ _ (HS23.out _ (Kv12.out)) (fun hHeld => ?_)
                    clear hK K
                    try simp only [Act.put, List.setIfInBounds_toArray, List.set_cons_zero, List.set_cons_succ]
                    refine wpAnyH_take (i := 8) (oi := ⟨some 159, _, _, _, _, _⟩) (v := ?_) rfl (by kernel_rfl) (by kernel_rfl) (by kernel_rfl) (fun _ _ _ h => h) (Or.inl ⟨by kernel_rfl, ?_⟩) (by assumption) ?_
                    rotate_left
                    focus ((intro w hSw; (try dsimp only at hSw); go_simp); (try with_reducible rfl); done)
                    simp only [Act.put, List.setIfInBounds_toArray, List.set_cons_zero, List.set_cons_succ]
                    refine wpAnyH_take (i := 9) (oi := ⟨some 168, _, _, _, _, _⟩) (v := ?_) rfl (by kernel_rfl) (by kernel_rfl) (by kernel_rfl) (fun _ _ _ h => h) (Or.inl ⟨by kernel_rfl, ?_⟩) (by assumption) ?_
                    rotate_left
                    focus ((intro w hSw; (try dsimp only at hSw); go_simp); (try with_reducible rfl); done)
                    simp only [Act.put, List.setIfInBounds_toArray, List.set_cons_zero, List.set_cons_succ]
                    refine wpAnyH_take (i := 10) (oi := ⟨some 169, _, _, _, _, _⟩) (v := ?_) rfl (by kernel_rfl) (by kernel_rfl) (by kernel_rfl) (fun _ _ _ h => h) (Or.inl ⟨by kernel_rfl, ?_⟩) (by assumption) ?_
                    rotate_left
                    focus ((intro w hSw; (try dsimp only at hSw); go_simp); (try with_reducible rfl); done)
                    simp only [Act.put, List.setIfInBounds_toArray, List.set_cons_zero, List.set_cons_succ]
                    refine wpAnyH_take (i := 11) (oi := ⟨some 170, _, _, _, _, _⟩) (v := ?_) rfl (by kernel_rfl) (by kernel_rfl) (by kernel_rfl) (fun _ _ _ h => h) (Or.inl ⟨by kernel_rfl, ?_⟩) (by assumption) ?_
                    rotate_left
                    focus ((intro w hSw; (try dsimp only at hSw); go_simp); (try with_reducible rfl); done)
                    simp only [Act.put, List.setIfInBounds_toArray, List.set_cons_zero, List.set_cons_succ]
                    refine wpAnyH_ready (rs := [12]) (by kernel_rfl) (by simp) ?_
                    refine AllReadyH.cons rfl (fun K hK => ?_) (AllReadyH.nil)
                    · have Nv13_13 := Lib.hid (Array.getElem?_eq_some_iff.1 Bv12_13.out).1
                      go_simp
                      refine hK.out _ _ (HS23.out _ (Kv12.out.alloc _)) (fun hHeld => ?_)
                      clear hK K
                      try simp only [Act.put, List.setIfInBounds_toArray, List.set_cons_zero, List.set_cons_succ]
                      obtain ⟨v13, hv13⟩ : ∃ x, v12.alloc (.cells #[.int .i64 0, .slice none 0 0, .slice none 0 0] 34) = x := ⟨_, rfl⟩
                      have k9 : Kp v12 v13 := by rw [← hv13]; exact (Kp.refl _).alloc _
                      have Bv13_12 : Hid (Bx v13 v12.heap.size 34 #[.int .i64 0, .slice none 0 0, .slice none 0 0]) := by unfold Hid; rw [← hv13]; exact Bx.new v12 _ _
                      have Bv13_13 := Lib.hid (Bv12_13.out.kp k9)
                      have Kv13 := Lib.hid (Kv12.out.trans k9)
                      have Cv13 := Lib.hid (Cv12.out.kp k9)
                      have Lv13 := Lib.hid (Lv12.out.kp k9)
                      rw [hv13] at hHeld ⊢
                      clear k9 hv13
                      have hF := And.intro Bv13_12.out (And.intro Bv13_13.out (And.intro (show v12.heap.size ≠ v0.heap.size by have h5 := Nv13_13.out; omega) (And.intro (Kv12.out.size) (And.intro (Kv0.out.size) (And.intro Kv13.out (And.intro Cv13.out Lv13.out))))))
                      clear hHeld
                      obtain ⟨G1, hG1⟩ : ∃ x, v12.heap.size = x := ⟨_, rfl⟩
                      obtain ⟨G2, hG2⟩ : ∃ x, v0.heap.size = x := ⟨_, rfl⟩
                      rw [hG1, hG2] at hF ⊢
                      exact key.out _ _ _ _ _ _ _ hF
                  · have Nv14_13 := Lib.hid (Array.getElem?_eq_some_iff.1 Bv11_13.out).1
                    go_simp
                    refine hK.out _ _ (HS23.out _ (Kv11.out.alloc _)) (fun hHeld => ?_)
                    clear hK K
                    try simp only [Act.put, List.setIfInBounds_toArray, List.set_cons_zero, List.set_cons_succ]
                    obtain ⟨v14, hv14⟩ : ∃ x, v11.alloc (.cells #[.int .i64 0, .slice none 0 0, .slice none 0 0] 34) = x := ⟨_, rfl⟩
                    have k9 : Kp v11 v14 := by rw [← hv14]; exact (Kp.refl _).alloc _
                    have Bv14_12 : Hid (Bx v14 v11.heap.size 34 #[.int .i64 0, .slice none 0 0, .slice none 0 0]) := by unfold Hid; rw [← hv14]; exact Bx.new v11 _ _
                    have Bv14_13 := Lib.hid (Bv11_13.out.kp k9)
                    have Kv14 := Lib.hid (Kv11.out.trans k9)
                    rw [hv14] at hHeld ⊢
                    clear k9 hv14
                    refine wpAnyH_ready (rs := [7]) (by kernel_rfl) (by simp) ?_
                    refine AllReadyH.cons rfl (fun K hK => ?_) (AllReadyH.nil)
                    · go_simp
                      refine (HTY.out _ _ _ (HCY.out.kp Kv14.out)).mono ?_
                      rintro _ v15 ⟨x9, y9, p9, q9, rfl, c9, l9, k9⟩
                      have Kv15 := Lib.hid (Kv14.out.trans k9)
                      have Bv15_13 := Lib.hid (Bv14_13.out.kp k9)
                      have Bv15_12 := Lib.hid (Bv14_12.out.kp k9)
                      have Cv15 := Lib.hid c9
                      have Lv15 := Lib.hid l9
                      clear c9 l9 k9
                      refine hK.out _ _ (HS23.out _ (Kv15.out)) (fun hHeld => ?_)
                      clear hK K
                      try simp only [Act.put, List.setIfInBounds_toArray, List.set_cons_zero, List.set_cons_succ]
                      refine wpAnyH_take (i := 8) (oi := ⟨some 159, _, _, _, _, _⟩) (v := ?_) rfl (by kernel_rfl) (by kernel_rfl) (by kernel_rfl) (fun _ _ _ h => h) (Or.inl ⟨by kernel_rfl, ?_⟩) (by assumption) ?_
                      rotate_left
                      focus ((intro w hSw; (try dsimp only at hSw); go_simp); (try with_reducible rfl); done)
                      simp only [Act.put, List.setIfInBounds_toArray, List.set_cons_zero, List.set_cons_succ]
                      refine wpAnyH_take (i := 9) (oi := ⟨some 168, _, _, _, _, _⟩) (v := ?_) rfl (by kernel_rfl) (by kernel_rfl) (by kernel_rfl) (fun _ _ _ h => h) (Or.inl ⟨by kernel_rfl, ?_⟩) (by assumption) ?_
                      rotate_left
                      focus ((intro w hSw; (try dsimp only at hSw); go_simp); (try with_reducible rfl); done)
                      simp only [Act.put, List.setIfInBounds_toArray, List.set_cons_zero, List.set_cons_succ]
                      refine wpAnyH_take (i := 10) (oi := ⟨some 169, _, _, _, _, _⟩) (v := ?_) rfl (by kernel_rfl) (by kernel_rfl) (by kernel_rfl) (fun _ _ _ h => h) (Or.inl ⟨by kernel_rfl, ?_⟩) (by assumption) ?_
                      rotate_left
                      focus ((intro w hSw; (try dsimp only at hSw); go_simp); (try with_reducible rfl); done)
                      simp only [Act.put, List.setIfInBounds_toArray, List.set_cons_zero, List.set_cons_succ]
                      refine wpAnyH_take (i := 11) (oi := ⟨some 170, _, _, _, _, _⟩) (v := ?_) rfl (by kernel_rfl) (by kernel_rfl) (by kernel_rfl) (fun _ _ _ h => h) (Or.inl ⟨by kernel_rfl, ?_⟩) (by assumption) ?_
                      rotate_left
                      focus ((intro w hSw; (try dsimp only at hSw); go_simp); (try with_reducible rfl); done)
                      simp only [Act.put, List.setIfInBounds_toArray, List.set_cons_zero, List.set_cons_succ]
                      have hF := And.intro Bv15_12.out (And.intro Bv15_13.out (And.intro (show v11.heap.size ≠ v0.heap.size by have h5 := Nv14_13.out; omega) (And.intro (Kv11.out.size) (And.intro (Kv0.out.size) (And.intro Kv15.out (And.intro Cv15.out Lv15.out))))))
                      clear hHeld
                      obtain ⟨G1, hG1⟩ : ∃ x, v11.heap.size = x := ⟨_, rfl⟩
                      obtain ⟨G2, hG2⟩ : ∃ x, v0.heap.size = x := ⟨_, rfl⟩
                      rw [hG1, hG2] at hF ⊢
                      exact key.out _ _ _ _ _ _ _ hF
              case restR1 =>
                rintro H14 H15 x14 y14 p14 q14 w24 ⟨b14, b15, hne, hg, hg1, k14, c14, l14⟩
                obtain ⟨za, zb, zc, zd, zf, rfl, rfl⟩ := c14.shapes
                obtain ⟨ka, kb, kc, kd, ke, kf, rfl, rfl⟩ := HXL.out _ _ _ _ l14
                have K24 := Lib.hid k14
                have B24 := Lib.hid b14
                have B25 := Lib.hid b15
                have HG4 := Lib.hid hg
                have HG5 := Lib.hid hg1
                have HNE2 := Lib.hid hne
                have hHeld := HS23.out _ K24.out
                clear b14 b15 hne hg hg1 k14 c14 l14 HCY
                refine wpAnyH_ready (rs := [14]) (by kernel_rfl) (by simp) ?_
                refine AllReadyH.cons rfl (fun K hK => ?_) (AllReadyH.nil)
                · obtain ⟨x0, x1, x2⟩ := cells3 B24.out
                  have x3 := B24.out.frozen 0
                  have x4 := B24.out.frozen 1
                  have x5 := B24.out.frozen 2
                  obtain ⟨sb, sg, sk⟩ := stored3 B24.out (.int .i64 (AT + 1)) (.slice za zb zc) (.slice zd Y.spare.length zf)
                  go_simp
                  refine hK.out _ _ (HS23.out _ (sk wj K24.out (HG4.out))) (fun hHeld => ?_)
                  clear hK K
                  try simp only [Act.put, List.setIfInBounds_toArray, List.set_cons_zero, List.set_cons_succ]
                  have Kv10 := Lib.hid (sk wj K24.out (HG4.out))
                  obtain ⟨v1, hv1⟩ : ∃ x, ((w24.setCell ⟨H14, 0, none⟩ (.int .i64 (AT + 1))).setCell ⟨H14, 1, none⟩ (.slice za zb zc)).setCell ⟨H14, 2, none⟩ (.slice zd Y.spare.length zf) = x := ⟨_, rfl⟩
                  rw [hv1] at hHeld sb sg sk Kv10 ⊢
                  have Bv1_13 := Lib.hid (B25.out.grow sg (by have h5 := HNE2.out; omega))
                  have Bv1_12 := Lib.hid sb
                  clear x0 x1 x2 x3 x4 x5 sb sg sk hv1
                  refine wpAnyH_ready (rs := [15]) (by kernel_rfl) (by simp) ?_
                  refine AllReadyH.cons rfl (fun K hK => ?_) (AllReadyH.nil)
                  · obtain ⟨x0, x1, x2⟩ := cells3 Bv1_13.out
                    have x3 := Bv1_13.out.frozen 0
                    have x4 := Bv1_13.out.frozen 1
                    have x5 := Bv1_13.out.frozen 2
                    obtain ⟨sb, sg, sk⟩ := stored3 Bv1_13.out (.int .i64 0) (.slice ka kb kc) (.slice kd ke kf)
                    go_simp
                    refine hK.out _ _ (HS23.out _ (sk wj Kv10.out (HG5.out))) (fun hHeld => ?_)
                    clear hK K
                    try simp only [Act.put, List.setIfInBounds_toArray, List.set_cons_zero, List.set_cons_succ]
                    have Kv20 := Lib.hid (sk wj Kv10.out (HG5.out))
                    obtain ⟨v2, hv2⟩ : ∃ x, ((v1.setCell ⟨H15, 0, none⟩ (.int .i64 0)).setCell ⟨H15, 1, none⟩ (.slice ka kb kc)).setCell ⟨H15, 2, none⟩ (.slice kd ke kf) = x := ⟨_, rfl⟩
                    rw [hv2] at hHeld sb sg sk Kv20 ⊢
                    have Bv2_12 := Lib.hid (Bv1_12.out.grow sg (by have h5 := HNE2.out; omega))
                    have Bv2_13 := Lib.hid sb
                    clear x0 x1 x2 x3 x4 x5 sb sg sk hv2
                    refine wpAnyH_take (i := 16) (oi := ⟨some 21, _, _, _, _, _⟩) (v := ?_) rfl (by kernel_rfl) (by kernel_rfl) (by kernel_rfl) (fun _ _ _ h => h) (Or.inl ⟨by kernel_rfl, ?_⟩) (by assumption) ?_
                    rotate_left
                    focus ((intro w hSw; (try dsimp only at hSw); go_simp); (try with_reducible rfl); done)
                    simp only [Act.put, List.setIfInBounds_toArray, List.set_cons_zero, List.set_cons_succ]
                    refine wpAnyH_done (by kernel_rfl) ?_ _
                    clear hHeld
                    go_wp2_with fail
                    go_ret
                    exact ⟨rfl, HKW.out.trans Kv20.out⟩
  · have i6 := I6.out
    obtain rfl := q2
    have KT := Lib.hid (keep_two w5 34 37 zc3 zc3)
    unfold zc3 at KT
    go_wp2_with (first
      | (refine wpList_store_row rfl rfl 34 (.tmp 9) (.tmp 47) rfl w5.heap.size 34 _ #[.int .i64 (AT + 1), .slice d1 d2 d3, .slice d4 32 d6] rfl rfl KT.out.1 rfl (three_one rfl rfl rfl) infoCh3 ?_; intro w6 bc1 gc1 hc1; have KC1 := Lib.hid (hc1 w5 KT.out.2.2 (Nat.le_refl _)); have BL1 := Lib.hid (KT.out.2.1.grow gc1 (by omega)); have BC1 := Lib.hid bc1; clear bc1 gc1 hc1)
      | (refine wpList_store_row rfl rfl 37 (.tmp 10) (.tmp 48) rfl (w5.heap.size + 1) 37 _ #[.int .i64 AT, .slice g1 g2 g3, .slice g4 g5 g6] rfl rfl BL1.out rfl (three_one rfl rfl rfl) infoLk3 ?_; intro w7 bl2 gl2 hl2; have KC2 := Lib.hid (hl2 w5 KC1.out (by omega)); have BC2 := Lib.hid (BC1.out.grow gl2 (by omega)); have BL2 := Lib.hid bl2; clear bl2 gl2 hl2; have B7 := Lib.hid (B5.out.kp KC2.out); have C7 := Lib.hid (C5.out.kp KC2.out); have K7 := Lib.hid (K5.out.trans KC2.out); have D7 := Lib.hid BC2.out; obtain ⟨s0, s1, s2⟩ := cells3 B7.out; obtain ⟨t0, t1, t2⟩ := cells3 BC2.out; obtain ⟨r0, r1, r2⟩ := cells3 BL2.out; clear KT KC1 BL1 BC1)
      | fail)
    have HRX := Lib.hid (fun W x y (h : CIn W x y X) => refRight13_any x y X W h)
    rw [HNEX.out] at HRX
    refine (HRX.out _ _ _ C7.out).mono ?_
    rintro _ w8 ⟨⟨bb, rfl, hb⟩, k8⟩
    obtain rfl : bb = true := hb.2 HOX.out
    have K8 := Lib.hid (K7.out.trans k8)
    have D8 := Lib.hid (D7.out.kp k8)
    have C8 := Lib.hid (C7.out.kp k8)
    clear hb k8 s0 s1 s2 t0 t1 t2 r0 r1 r2 D7 C7 HRX
    obtain ⟨t0, t1, t2⟩ := cells3 D8.out
    obtain ⟨I, hI⟩ : ∃ I, k % 32 = I := ⟨_, rfl⟩
    have hIX : I < 32 := by rw [← hI]; exact Nat.mod_lt _ (by omega)
    have hIi : (k : Int) % 32 = (I : Int) := by omega
    have hIt : (k : Int).tmod 32 = (I : Int) := by rw [Int.tmod_eq_emod_of_nonneg (by omega)]; exact hIi
    clear hI
    go_wp2_with fail
    have hIX2 : I < X.spare.length := by rw [HSX.out]; exact hIX
    obtain ⟨Y, f1, f2, f3, okY, nY, lY, atY, f4, f5, f6, p1, p2⟩ := spares_two HOX.out hIX2
    have HTX := Lib.hid (fun W x y (h : CIn W x y X) => ratchTake_any x y X (lkAt X.spare I).pos W h HOX.out (by omega))
    have HTY := Lib.hid (fun W x y (h : CIn W x y Y) => ratchTake_any x y Y (lkAt X.spare I).pos W h okY (by omega))
    unfold TakenR at HTX HTY
    rw [f1, f2, f3, nY, HNEX.out] at HTX
    rw [f4, f5, f6, nY, HNEX.out] at HTY
    obtain ⟨b0, off, cc, pk, pn, es, hb0, z0, z1, z2, zr1, zr2⟩ := C8.out.spare.node hIX2
    simp only [Value.slice.injEq] at es
    obtain ⟨rfl, es1, rfl⟩ := es
    clear es1
    obtain ⟨PS, hPS⟩ : ∃ z, (lkAt X.spare I).pos = z := ⟨_, rfl⟩
    rw [hPS] at HTX HTY z0
    have HS : Hid (∀ W, Kp w8 W → W.cell? ⟨w5.heap.size, 0, none⟩ = some (.int .i64 (AT + 1)) ∧ W.cell? ⟨w5.heap.size, 1, none⟩ = some (.slice d1 d2 d3) ∧ W.cell? ⟨w5.heap.size, 2, none⟩ = some (.slice (some ⟨b0, off, none⟩) 32 d6) ∧ W.cell? ⟨b0, off + I * 3, none⟩ = some (.int .i64 PS)) := fun W hW => ⟨(D8.out.kp hW).cell 0, (D8.out.kp hW).cell 1, (D8.out.kp hW).cell 2, hW.cell z0⟩
    have HKEY : Hid (∀ z ∈ Y.spare, z.key.length ≠ 0) := fun z hz => by obtain ⟨j, hj, rfl⟩ := List.mem_iff_getElem.1 hz; have h1 := (okY.each j hj).2.2.1; have h2 := lkAt_of hj; rw [List.getElem?_eq_getElem hj, Option.some.injEq] at h2; rw [h2, h1]; decide
    have HAY := Lib.hid atY
    have HPS := Lib.hid hPS
    have i7 : (I : Int) < (32 : Int) := by omega
    have HYL : Hid (Y.spare.length = 31) := by show Y.spare.length = 31; rw [lY, HSX.out]
    obtain ⟨pk1, pk2, pk3, rfl⟩ := zr1.sl
    obtain ⟨pn1, pn2, pn3, rfl⟩ := zr2.sl
    have HZL : Hid (LIn w8 (.slice pk1 pk2 pk3) (.slice pn1 pn2 pn3) (lkAt X.spare I)) := ⟨zr1, zr2⟩
    have HZC : Hid (w8.cell? ⟨b0, off + I * 3, none⟩ = some (.int .i64 PS) ∧ w8.cell? ⟨b0, off + I * 3 + 1, none⟩ = some (.slice pk1 pk2 pk3) ∧ w8.cell? ⟨b0, off + I * 3 + 2, none⟩ = some (.slice pn1 pn2 pn3)) := ⟨z0, z1, z2⟩
    clear f1 f2 f3 f4 f5 f6 okY nY lY atY hPS z0 z1 z2 zr1 zr2 hb0 p1 p2
    refine later7 (Q := ?QL2) (F := fun g g1 x y p q W => Bx W g 34 #[.int .i64 0, .slice none 0 0, .slice none 0 0] ∧ Bx W g1 37 #[.int .i64 0, .slice none 0 0, .slice none 0 0] ∧ g ≠ g1 ∧ w8.heap.size ≤ g ∧ w8.heap.size ≤ g1 ∧ Kp w8 W ∧ CIn W x y Y ∧ LIn W p q (lkAt X.spare I)) ?ways2 ?rest2
    case ways2 =>
      intro key
      refine wp_region_held_drew (S := fun W => W.cell? ⟨w5.heap.size, 0, none⟩ = some (.int .i64 (AT + 1)) ∧ W.cell? ⟨w5.heap.size, 1, none⟩ = some (.slice d1 d2 d3) ∧ W.cell? ⟨w5.heap.size, 2, none⟩ = some (.slice (some ⟨b0, off, none⟩) 32 d6) ∧ W.cell? ⟨b0, off + I * 3, none⟩ = some (.int .i64 PS)) (by kernel_rfl) (HS.out _ (Kp.refl _).drew) (fun hHeld => ?_)
      obtain ⟨v0, hv0⟩ : ∃ x, w8.drew = x := ⟨_, rfl⟩
      have Kv0 : Hid (Kp w8 v0) := by unfold Hid; rw [← hv0]; exact (Kp.refl _).drew
      rw [hv0] at hHeld ⊢
      clear hv0
      refine wpAnyH_take (i := 0) (oi := ⟨some 97, _, _, _, _, _⟩) (v := ?_) rfl (by kernel_rfl) (by kernel_rfl) (by kernel_rfl) (fun _ _ _ h => h) (Or.inl ⟨by kernel_rfl, ?_⟩) (by assumption) ?_
      rotate_left
      focus ((intro w hSw; (try dsimp only at hSw); go_simp); (try with_reducible rfl); done)
      simp only [Act.put, List.setIfInBounds_toArray, List.set_cons_zero, List.set_cons_succ]
      refine wpAnyH_take (i := 1) (oi := ⟨some 98, _, _, _, _, _⟩) (v := ?_) rfl (by kernel_rfl) (by kernel_rfl) (by kernel_rfl) (fun _ _ _ h => h) (Or.inl ⟨by kernel_rfl, ?_⟩) (by assumption) ?_
      rotate_left
      focus ((intro w hSw; (try dsimp only at hSw); go_simp); (try with_reducible rfl); done)
      simp only [Act.put, List.setIfInBounds_toArray, List.set_cons_zero, List.set_cons_succ]
      refine wpAnyH_take (i := 2) (oi := ⟨some 99, _, _, _, _, _⟩) (v := ?_) rfl (by kernel_rfl) (by kernel_rfl) (by kernel_rfl) (fun _ _ _ h => h) (Or.inl ⟨by kernel_rfl, ?_⟩) (by assumption) ?_
      rotate_left
      focus ((intro w hSw; (try dsimp only at hSw); go_simp); (try with_reducible rfl); done)
      simp only [Act.put, List.setIfInBounds_toArray, List.set_cons_zero, List.set_cons_succ]
      refine wpAnyH_take (i := 3) (oi := ⟨some 100, _, _, _, _, _⟩) (v := ?_) rfl (by kernel_rfl) (by kernel_rfl) (by kernel_rfl) (fun _ _ _ h => h) (Or.inl ⟨by kernel_rfl, ?_⟩) (by assumption) ?_
      rotate_left
      focus ((intro w hSw; (try dsimp only at hSw); go_simp); (try with_reducible rfl); done)
      simp only [Act.put, List.setIfInBounds_toArray, List.set_cons_zero, List.set_cons_succ]
      refine wpAnyH_take (i := 4) (oi := ⟨some 101, _, _, _, _, _⟩) (v := ?_) rfl (by kernel_rfl) (by kernel_rfl) (by kernel_rfl) (fun _ _ _ h => h) (Or.inl ⟨by kernel_rfl, ?_⟩) (by assumption) ?_
      rotate_left
      focus ((intro w hSw; (try dsimp only at hSw); go_simp); (try with_reducible rfl); done)
      simp only [Act.put, List.setIfInBounds_toArray, List.set_cons_zero, List.set_cons_succ]
      refine wpAnyH_take (i := 5) (oi := ⟨some 102, _, _, _, _, _⟩) (v := ?_) rfl (by kernel_rfl) (by kernel_rfl) (by kernel_rfl) (fun _ _ _ h => h) (Or.inl ⟨by kernel_rfl, ?_⟩) (by assumption) ?_
      rotate_left
      focus ((intro w hSw; (try dsimp only at hSw); go_simp); (try with_reducible rfl); done)
      simp only [Act.put, List.setIfInBounds_toArray, List.set_cons_zero, List.set_cons_succ]
      refine wpAnyH_take (i := 6) (oi := ⟨some 103, _, _, _, _, _⟩) (v := ?_) rfl (by kernel_rfl) (by kernel_rfl) (by kernel_rfl) (fun _ _ _ h => h) (Or.inl ⟨by kernel_rfl, ?_⟩) (by assumption) ?_
      rotate_left
      focus ((intro w hSw; (try dsimp only at hSw); go_simp); (try with_reducible rfl); done)
      simp only [Act.put, List.setIfInBounds_toArray, List.set_cons_zero, List.set_cons_succ]
      refine wpAnyH_ready (rs := [7, 12, 13]) (by kernel_rfl) (by simp) ?_
      refine AllReadyH.cons rfl (fun K hK => ?_) (AllReadyH.cons rfl (fun K hK => ?_) (AllReadyH.cons rfl (fun K hK => ?_) (AllReadyH.nil)))
      · go_simp
        refine (HTX.out _ _ _ (C8.out.kp Kv0.out)).mono ?_
        rintro _ v1 ⟨x9, y9, p9, q9, rfl, c9, l9, k9⟩
        have Kv1 := Lib.hid (Kv0.out.trans k9)
        have Cv1 := Lib.hid c9
        have Lv1 := Lib.hid l9
        clear c9 l9 k9
        refine hK.out _ _ (HS.out _ (Kv1.out)) (fun hHeld => ?_)
        clear hK K
        try simp only [Act.put, List.setIfInBounds_toArray, List.set_cons_zero, List.set_cons_succ]
        refine wpAnyH_take (i := 8) (oi := ⟨some 96, _, _, _, _, _⟩) (v := ?_) rfl (by kernel_rfl) (by kernel_rfl) (by kernel_rfl) (fun _ _ _ h => h) (Or.inl ⟨by kernel_rfl, ?_⟩) (by assumption) ?_
        rotate_left
        focus ((intro w hSw; (try dsimp only at hSw); go_simp); (try with_reducible rfl); done)
        simp only [Act.put, List.setIfInBounds_toArray, List.set_cons_zero, List.set_cons_succ]
        refine wpAnyH_take (i := 9) (oi := ⟨some 105, _, _, _, _, _⟩) (v := ?_) rfl (by kernel_rfl) (by kernel_rfl) (by kernel_rfl) (fun _ _ _ h => h) (Or.inl ⟨by kernel_rfl, ?_⟩) (by assumption) ?_
        rotate_left
        focus ((intro w hSw; (try dsimp only at hSw); go_simp); (try with_reducible rfl); done)
        simp only [Act.put, List.setIfInBounds_toArray, List.set_cons_zero, List.set_cons_succ]
        refine wpAnyH_take (i := 10) (oi := ⟨some 106, _, _, _, _, _⟩) (v := ?_) rfl (by kernel_rfl) (by kernel_rfl) (by kernel_rfl) (fun _ _ _ h => h) (Or.inl ⟨by kernel_rfl, ?_⟩) (by assumption) ?_
        rotate_left
        focus ((intro w hSw; (try dsimp only at hSw); go_simp); (try with_reducible rfl); done)
        simp only [Act.put, List.setIfInBounds_toArray, List.set_cons_zero, List.set_cons_succ]
        refine wpAnyH_take (i := 11) (oi := ⟨some 107, _, _, _, _, _⟩) (v := ?_) rfl (by kernel_rfl) (by kernel_rfl) (by kernel_rfl) (fun _ _ _ h => h) (Or.inl ⟨by kernel_rfl, ?_⟩) (by assumption) ?_
        rotate_left
        focus ((intro w hSw; (try dsimp only at hSw); go_simp); (try with_reducible rfl); done)
        simp only [Act.put, List.setIfInBounds_toArray, List.set_cons_zero, List.set_cons_succ]
        refine wpAnyH_ready (rs := [12, 13]) (by kernel_rfl) (by simp) ?_
        refine AllReadyH.cons rfl (fun K hK => ?_) (AllReadyH.cons rfl (fun K hK => ?_) (AllReadyH.nil))
        · go_simp
          refine hK.out _ _ (HS.out _ (Kv1.out.alloc _)) (fun hHeld => ?_)
          clear hK K
          try simp only [Act.put, List.setIfInBounds_toArray, List.set_cons_zero, List.set_cons_succ]
          obtain ⟨v2, hv2⟩ : ∃ x, v1.alloc (.cells #[.int .i64 0, .slice none 0 0, .slice none 0 0] 34) = x := ⟨_, rfl⟩
          have k9 : Kp v1 v2 := by rw [← hv2]; exact (Kp.refl _).alloc _
          have Bv2_12 : Hid (Bx v2 v1.heap.size 34 #[.int .i64 0, .slice none 0 0, .slice none 0 0]) := by unfold Hid; rw [← hv2]; exact Bx.new v1 _ _
          have Kv2 := Lib.hid (Kv1.out.trans k9)
          have Cv2 := Lib.hid (Cv1.out.kp k9)
          have Lv2 := Lib.hid (Lv1.out.kp k9)
          rw [hv2] at hHeld ⊢
          clear k9 hv2
          refine wpAnyH_ready (rs := [13]) (by kernel_rfl) (by simp) ?_
          refine AllReadyH.cons rfl (fun K hK => ?_) (AllReadyH.nil)
          · have Nv3_12 := Lib.hid (Array.getElem?_eq_some_iff.1 Bv2_12.out).1
            go_simp
            refine hK.out _ _ (HS.out _ (Kv2.out.alloc _)) (fun hHeld => ?_)
            clear hK K
            try simp only [Act.put, List.setIfInBounds_toArray, List.set_cons_zero, List.set_cons_succ]
            obtain ⟨v3, hv3⟩ : ∃ x, v2.alloc (.cells #[.int .i64 0, .slice none 0 0, .slice none 0 0] 37) = x := ⟨_, rfl⟩
            have k9 : Kp v2 v3 := by rw [← hv3]; exact (Kp.refl _).alloc _
            have Bv3_13 : Hid (Bx v3 v2.heap.size 37 #[.int .i64 0, .slice none 0 0, .slice none 0 0]) := by unfold Hid; rw [← hv3]; exact Bx.new v2 _ _
            have Bv3_12 := Lib.hid (Bv2_12.out.kp k9)
            have Kv3 := Lib.hid (Kv2.out.trans k9)
            have Cv3 := Lib.hid (Cv2.out.kp k9)
            have Lv3 := Lib.hid (Lv2.out.kp k9)
            rw [hv3] at hHeld ⊢
            clear k9 hv3
            have hF := And.intro Bv3_12.out (And.intro Bv3_13.out (And.intro (show v1.heap.size ≠ v2.heap.size by have h5 := Nv3_12.out; omega) (And.intro (Kv1.out.size) (And.intro (Kv2.out.size) (And.intro Kv3.out (And.intro Cv3.out Lv3.out))))))
            clear hHeld
            obtain ⟨G1, hG1⟩ : ∃ x, v1.heap.size = x := ⟨_, rfl⟩
            obtain ⟨G2, hG2⟩ : ∃ x, v2.heap.size = x := ⟨_, rfl⟩
            rw [hG1, hG2] at hF ⊢
            exact key.out _ _ _ _ _ _ _ hF
        · go_simp
          refine hK.out _ _ (HS.out _ (Kv1.out.alloc _)) (fun hHeld => ?_)
          clear hK K
          try simp only [Act.put, List.setIfInBounds_toArray, List.set_cons_zero, List.set_cons_succ]
          obtain ⟨v4, hv4⟩ : ∃ x, v1.alloc (.cells #[.int .i64 0, .slice none 0 0, .slice none 0 0] 37) = x := ⟨_, rfl⟩
          have k9 : Kp v1 v4 := by rw [← hv4]; exact (Kp.refl _).alloc _
          have Bv4_13 : Hid (Bx v4 v1.heap.size 37 #[.int .i64 0, .slice none 0 0, .slice none 0 0]) := by unfold Hid; rw [← hv4]; exact Bx.new v1 _ _
          have Kv4 := Lib.hid (Kv1.out.trans k9)
          have Cv4 := Lib.hid (Cv1.out.kp k9)
          have Lv4 := Lib.hid (Lv1.out.kp k9)
          rw [hv4] at hHeld ⊢
          clear k9 hv4
          refine wpAnyH_ready (rs := [12]) (by kernel_rfl) (by simp) ?_
          refine AllReadyH.cons rfl (fun K hK => ?_) (AllReadyH.nil)
          · have Nv5_13 := Lib.hid (Array.getElem?_eq_some_iff.1 Bv4_13.out).1
            go_simp
            refine hK.out _ _ (HS.out _ (Kv4.out.alloc _)) (fun hHeld => ?_)
            clear hK K
            try simp only [Act.put, List.setIfInBounds_toArray, List.set_cons_zero, List.set_cons_succ]
            obtain ⟨v5, hv5⟩ : ∃ x, v4.alloc (.cells #[.int .i64 0, .slice none 0 0, .slice none 0 0] 34) = x := ⟨_, rfl⟩
            have k9 : Kp v4 v5 := by rw [← hv5]; exact (Kp.refl _).alloc _
            have Bv5_12 : Hid (Bx v5 v4.heap.size 34 #[.int .i64 0, .slice none 0 0, .slice none 0 0]) := by unfold Hid; rw [← hv5]; exact Bx.new v4 _ _
            have Bv5_13 := Lib.hid (Bv4_13.out.kp k9)
            have Kv5 := Lib.hid (Kv4.out.trans k9)
            have Cv5 := Lib.hid (Cv4.out.kp k9)
            have Lv5 := Lib.hid (Lv4.out.kp k9)
            rw [hv5] at hHeld ⊢
            clear k9 hv5
            have hF := And.intro Bv5_12.out (And.intro Bv5_13.out (And.intro (show v4.heap.size ≠ v1.heap.size by have h5 := Nv5_13.out; omega) (And.intro (Kv4.out.size) (And.intro (Kv1.out.size) (And.intro Kv5.out (And.intro Cv5.out Lv5.out))))))
            clear hHeld
            obtain ⟨G1, hG1⟩ : ∃ x, v4.heap.size = x := ⟨_, rfl⟩
            obtain ⟨G2, hG2⟩ : ∃ x, v1.heap.size = x := ⟨_, rfl⟩
            rw [hG1, hG2] at hF ⊢
            exact key.out _ _ _ _ _ _ _ hF
      · go_simp
        refine hK.out _ _ (HS.out _ (Kv0.out.alloc _)) (fun hHeld => ?_)
        clear hK K
        try simp only [Act.put, List.setIfInBounds_toArray, List.set_cons_zero, List.set_cons_succ]
        obtain ⟨v6, hv6⟩ : ∃ x, v0.alloc (.cells #[.int .i64 0, .slice none 0 0, .slice none 0 0] 34) = x := ⟨_, rfl⟩
        have k9 : Kp v0 v6 := by rw [← hv6]; exact (Kp.refl _).alloc _
        have Bv6_12 : Hid (Bx v6 v0.heap.size 34 #[.int .i64 0, .slice none 0 0, .slice none 0 0]) := by unfold Hid; rw [← hv6]; exact Bx.new v0 _ _
        have Kv6 := Lib.hid (Kv0.out.trans k9)
        rw [hv6] at hHeld ⊢
        clear k9 hv6
        refine wpAnyH_ready (rs := [7, 13]) (by kernel_rfl) (by simp) ?_
        refine AllReadyH.cons rfl (fun K hK => ?_) (AllReadyH.cons rfl (fun K hK => ?_) (AllReadyH.nil))
        · go_simp
          refine (HTX.out _ _ _ (C8.out.kp Kv6.out)).mono ?_
          rintro _ v7 ⟨x9, y9, p9, q9, rfl, c9, l9, k9⟩
          have Kv7 := Lib.hid (Kv6.out.trans k9)
          have Bv7_12 := Lib.hid (Bv6_12.out.kp k9)
          have Cv7 := Lib.hid c9
          have Lv7 := Lib.hid l9
          clear c9 l9 k9
          refine hK.out _ _ (HS.out _ (Kv7.out)) (fun hHeld => ?_)
          clear hK K
          try simp only [Act.put, List.setIfInBounds_toArray, List.set_cons_zero, List.set_cons_succ]
          refine wpAnyH_take (i := 8) (oi := ⟨some 96, _, _, _, _, _⟩) (v := ?_) rfl (by kernel_rfl) (by kernel_rfl) (by kernel_rfl) (fun _ _ _ h => h) (Or.inl ⟨by kernel_rfl, ?_⟩) (by assumption) ?_
          rotate_left
          focus ((intro w hSw; (try dsimp only at hSw); go_simp); (try with_reducible rfl); done)
          simp only [Act.put, List.setIfInBounds_toArray, List.set_cons_zero, List.set_cons_succ]
          refine wpAnyH_take (i := 9) (oi := ⟨some 105, _, _, _, _, _⟩) (v := ?_) rfl (by kernel_rfl) (by kernel_rfl) (by kernel_rfl) (fun _ _ _ h => h) (Or.inl ⟨by kernel_rfl, ?_⟩) (by assumption) ?_
          rotate_left
          focus ((intro w hSw; (try dsimp only at hSw); go_simp); (try with_reducible rfl); done)
          simp only [Act.put, List.setIfInBounds_toArray, List.set_cons_zero, List.set_cons_succ]
          refine wpAnyH_take (i := 10) (oi := ⟨some 106, _, _, _, _, _⟩) (v := ?_) rfl (by kernel_rfl) (by kernel_rfl) (by kernel_rfl) (fun _ _ _ h => h) (Or.inl ⟨by kernel_rfl, ?_⟩) (by assumption) ?_
          rotate_left
          focus ((intro w hSw; (try dsimp only at hSw); go_simp); (try with_reducible rfl); done)
          simp only [Act.put, List.setIfInBounds_toArray, List.set_cons_zero, List.set_cons_succ]
          refine wpAnyH_take (i := 11) (oi := ⟨some 107, _, _, _, _, _⟩) (v := ?_) rfl (by kernel_rfl) (by kernel_rfl) (by kernel_rfl) (fun _ _ _ h => h) (Or.inl ⟨by kernel_rfl, ?_⟩) (by assumption) ?_
          rotate_left
          focus ((intro w hSw; (try dsimp only at hSw); go_simp); (try with_reducible rfl); done)
          simp only [Act.put, List.setIfInBounds_toArray, List.set_cons_zero, List.set_cons_succ]
          refine wpAnyH_ready (rs := [13]) (by kernel_rfl) (by simp) ?_
          refine AllReadyH.cons rfl (fun K hK => ?_) (AllReadyH.nil)
          · have Nv8_12 := Lib.hid (Array.getElem?_eq_some_iff.1 Bv7_12.out).1
            go_simp
            refine hK.out _ _ (HS.out _ (Kv7.out.alloc _)) (fun hHeld => ?_)
            clear hK K
            try simp only [Act.put, List.setIfInBounds_toArray, List.set_cons_zero, List.set_cons_succ]
            obtain ⟨v8, hv8⟩ : ∃ x, v7.alloc (.cells #[.int .i64 0, .slice none 0 0, .slice none 0 0] 37) = x := ⟨_, rfl⟩
            have k9 : Kp v7 v8 := by rw [← hv8]; exact (Kp.refl _).alloc _
            have Bv8_13 : Hid (Bx v8 v7.heap.size 37 #[.int .i64 0, .slice none 0 0, .slice none 0 0]) := by unfold Hid; rw [← hv8]; exact Bx.new v7 _ _
            have Bv8_12 := Lib.hid (Bv7_12.out.kp k9)
            have Kv8 := Lib.hid (Kv7.out.trans k9)
            have Cv8 := Lib.hid (Cv7.out.kp k9)
            have Lv8 := Lib.hid (Lv7.out.kp k9)
            rw [hv8] at hHeld ⊢
            clear k9 hv8
            have hF := And.intro Bv8_12.out (And.intro Bv8_13.out (And.intro (show v0.heap.size ≠ v7.heap.size by have h5 := Nv8_12.out; omega) (And.intro (Kv0.out.size) (And.intro (Kv7.out.size) (And.intro Kv8.out (And.intro Cv8.out Lv8.out))))))
            clear hHeld
            obtain ⟨G1, hG1⟩ : ∃ x, v0.heap.size = x := ⟨_, rfl⟩
            obtain ⟨G2, hG2⟩ : ∃ x, v7.heap.size = x := ⟨_, rfl⟩
            rw [hG1, hG2] at hF ⊢
            exact key.out _ _ _ _ _ _ _ hF
        · have Nv9_12 := Lib.hid (Array.getElem?_eq_some_iff.1 Bv6_12.out).1
          go_simp
          refine hK.out _ _ (HS.out _ (Kv6.out.alloc _)) (fun hHeld => ?_)
          clear hK K
          try simp only [Act.put, List.setIfInBounds_toArray, List.set_cons_zero, List.set_cons_succ]
          obtain ⟨v9, hv9⟩ : ∃ x, v6.alloc (.cells #[.int .i64 0, .slice none 0 0, .slice none 0 0] 37) = x := ⟨_, rfl⟩
          have k9 : Kp v6 v9 := by rw [← hv9]; exact (Kp.refl _).alloc _
          have Bv9_13 : Hid (Bx v9 v6.heap.size 37 #[.int .i64 0, .slice none 0 0, .slice none 0 0]) := by unfold Hid; rw [← hv9]; exact Bx.new v6 _ _
          have Bv9_12 := Lib.hid (Bv6_12.out.kp k9)
          have Kv9 := Lib.hid (Kv6.out.trans k9)
          rw [hv9] at hHeld ⊢
          clear k9 hv9
          refine wpAnyH_ready (rs := [7]) (by kernel_rfl) (by simp) ?_
          refine AllReadyH.cons rfl (fun K hK => ?_) (AllReadyH.nil)
          · go_simp
            refine (HTX.out _ _ _ (C8.out.kp Kv9.out)).mono ?_
            rintro _ v10 ⟨x9, y9, p9, q9, rfl, c9, l9, k9⟩
            have Kv10 := Lib.hid (Kv9.out.trans k9)
            have Bv10_12 := Lib.hid (Bv9_12.out.kp k9)
            have Bv10_13 := Lib.hid (Bv9_13.out.kp k9)
            have Cv10 := Lib.hid c9
            have Lv10 := Lib.hid l9
            clear c9 l9 k9
            refine hK.out _ _ (HS.out _ (Kv10.out)) (fun hHeld => ?_)
            clear hK K
            try simp only [Act.put, List.setIfInBounds_toArray, List.set_cons_zero, List.set_cons_succ]
            refine wpAnyH_take (i := 8) (oi := ⟨some 96, _, _, _, _, _⟩) (v := ?_) rfl (by kernel_rfl) (by kernel_rfl) (by kernel_rfl) (fun _ _ _ h => h) (Or.inl ⟨by kernel_rfl, ?_⟩) (by assumption) ?_
            rotate_left
            focus ((intro w hSw; (try dsimp only at hSw); go_simp); (try with_reducible rfl); done)
            simp only [Act.put, List.setIfInBounds_toArray, List.set_cons_zero, List.set_cons_succ]
            refine wpAnyH_take (i := 9) (oi := ⟨some 105, _, _, _, _, _⟩) (v := ?_) rfl (by kernel_rfl) (by kernel_rfl) (by kernel_rfl) (fun _ _ _ h => h) (Or.inl ⟨by kernel_rfl, ?_⟩) (by assumption) ?_
            rotate_left
            focus ((intro w hSw; (try dsimp only at hSw); go_simp); (try with_reducible rfl); done)
            simp only [Act.put, List.setIfInBounds_toArray, List.set_cons_zero, List.set_cons_succ]
            refine wpAnyH_take (i := 10) (oi := ⟨some 106, _, _, _, _, _⟩) (v := ?_) rfl (by kernel_rfl) (by kernel_rfl) (by kernel_rfl) (fun _ _ _ h => h) (Or.inl ⟨by kernel_rfl, ?_⟩) (by assumption) ?_
            rotate_left
            focus ((intro w hSw; (try dsimp only at hSw); go_simp); (try with_reducible rfl); done)
            simp only [Act.put, List.setIfInBounds_toArray, List.set_cons_zero, List.set_cons_succ]
            refine wpAnyH_take (i := 11) (oi := ⟨some 107, _, _, _, _, _⟩) (v := ?_) rfl (by kernel_rfl) (by kernel_rfl) (by kernel_rfl) (fun _ _ _ h => h) (Or.inl ⟨by kernel_rfl, ?_⟩) (by assumption) ?_
            rotate_left
            focus ((intro w hSw; (try dsimp only at hSw); go_simp); (try with_reducible rfl); done)
            simp only [Act.put, List.setIfInBounds_toArray, List.set_cons_zero, List.set_cons_succ]
            have hF := And.intro Bv10_12.out (And.intro Bv10_13.out (And.intro (show v0.heap.size ≠ v6.heap.size by have h5 := Nv9_12.out; omega) (And.intro (Kv0.out.size) (And.intro (Kv6.out.size) (And.intro Kv10.out (And.intro Cv10.out Lv10.out))))))
            clear hHeld
            obtain ⟨G1, hG1⟩ : ∃ x, v0.heap.size = x := ⟨_, rfl⟩
            obtain ⟨G2, hG2⟩ : ∃ x, v6.heap.size = x := ⟨_, rfl⟩
            rw [hG1, hG2] at hF ⊢
            exact key.out _ _ _ _ _ _ _ hF
      · go_simp
        refine hK.out _ _ (HS.out _ (Kv0.out.alloc _)) (fun hHeld => ?_)
        clear hK K
        try simp only [Act.put, List.setIfInBounds_toArray, List.set_cons_zero, List.set_cons_succ]
        obtain ⟨v11, hv11⟩ : ∃ x, v0.alloc (.cells #[.int .i64 0, .slice none 0 0, .slice none 0 0] 37) = x := ⟨_, rfl⟩
        have k9 : Kp v0 v11 := by rw [← hv11]; exact (Kp.refl _).alloc _
        have Bv11_13 : Hid (Bx v11 v0.heap.size 37 #[.int .i64 0, .slice none 0 0, .slice none 0 0]) := by unfold Hid; rw [← hv11]; exact Bx.new v0 _ _
        have Kv11 := Lib.hid (Kv0.out.trans k9)
        rw [hv11] at hHeld ⊢
        clear k9 hv11
        refine wpAnyH_ready (rs := [7, 12]) (by kernel_rfl) (by simp) ?_
        refine AllReadyH.cons rfl (fun K hK => ?_) (AllReadyH.cons rfl (fun K hK => ?_) (AllReadyH.nil))
        · go_simp
          refine (HTX.out _ _ _ (C8.out.kp Kv11.out)).mono ?_
          rintro _ v12 ⟨x9, y9, p9, q9, rfl, c9, l9, k9⟩
          have Kv12 := Lib.hid (Kv11.out.trans k9)
          have Bv12_13 := Lib.hid (Bv11_13.out.kp k9)
          have Cv12 := Lib.hid c9
          have Lv12 := Lib.hid l9
          clear c9 l9 k9
          refine hK.out _ _ (HS.out _ (Kv12.out)) (fun hHeld => ?_)
          clear hK K
          try simp only [Act.put, List.setIfInBounds_toArray, List.set_cons_zero, List.set_cons_succ]
          refine wpAnyH_take (i := 8) (oi := ⟨some 96, _, _, _, _, _⟩) (v := ?_) rfl (by kernel_rfl) (by kernel_rfl) (by kernel_rfl) (fun _ _ _ h => h) (Or.inl ⟨by kernel_rfl, ?_⟩) (by assumption) ?_
          rotate_left
          focus ((intro w hSw; (try dsimp only at hSw); go_simp); (try with_reducible rfl); done)
          simp only [Act.put, List.setIfInBounds_toArray, List.set_cons_zero, List.set_cons_succ]
          refine wpAnyH_take (i := 9) (oi := ⟨some 105, _, _, _, _, _⟩) (v := ?_) rfl (by kernel_rfl) (by kernel_rfl) (by kernel_rfl) (fun _ _ _ h => h) (Or.inl ⟨by kernel_rfl, ?_⟩) (by assumption) ?_
          rotate_left
          focus ((intro w hSw; (try dsimp only at hSw); go_simp); (try with_reducible rfl); done)
          simp only [Act.put, List.setIfInBounds_toArray, List.set_cons_zero, List.set_cons_succ]
          refine wpAnyH_take (i := 10) (oi := ⟨some 106, _, _, _, _, _⟩) (v := ?_) rfl (by kernel_rfl) (by kernel_rfl) (by kernel_rfl) (fun _ _ _ h => h) (Or.inl ⟨by kernel_rfl, ?_⟩) (by assumption) ?_
          rotate_left
          focus ((intro w hSw; (try dsimp only at hSw); go_simp); (try with_reducible rfl); done)
          simp only [Act.put, List.setIfInBounds_toArray, List.set_cons_zero, List.set_cons_succ]
          refine wpAnyH_take (i := 11) (oi := ⟨some 107, _, _, _, _, _⟩) (v := ?_) rfl (by kernel_rfl) (by kernel_rfl) (by kernel_rfl) (fun _ _ _ h => h) (Or.inl ⟨by kernel_rfl, ?_⟩) (by assumption) ?_
          rotate_left
          focus ((intro w hSw; (try dsimp only at hSw); go_simp); (try with_reducible rfl); done)
          simp only [Act.put, List.setIfInBounds_toArray, List.set_cons_zero, List.set_cons_succ]
          refine wpAnyH_ready (rs := [12]) (by kernel_rfl) (by simp) ?_
          refine AllReadyH.cons rfl (fun K hK => ?_) (AllReadyH.nil)
          · have Nv13_13 := Lib.hid (Array.getElem?_eq_some_iff.1 Bv12_13.out).1
            go_simp
            refine hK.out _ _ (HS.out _ (Kv12.out.alloc _)) (fun hHeld => ?_)
            clear hK K
            try simp only [Act.put, List.setIfInBounds_toArray, List.set_cons_zero, List.set_cons_succ]
            obtain ⟨v13, hv13⟩ : ∃ x, v12.alloc (.cells #[.int .i64 0, .slice none 0 0, .slice none 0 0] 34) = x := ⟨_, rfl⟩
            have k9 : Kp v12 v13 := by rw [← hv13]; exact (Kp.refl _).alloc _
            have Bv13_12 : Hid (Bx v13 v12.heap.size 34 #[.int .i64 0, .slice none 0 0, .slice none 0 0]) := by unfold Hid; rw [← hv13]; exact Bx.new v12 _ _
            have Bv13_13 := Lib.hid (Bv12_13.out.kp k9)
            have Kv13 := Lib.hid (Kv12.out.trans k9)
            have Cv13 := Lib.hid (Cv12.out.kp k9)
            have Lv13 := Lib.hid (Lv12.out.kp k9)
            rw [hv13] at hHeld ⊢
            clear k9 hv13
            have hF := And.intro Bv13_12.out (And.intro Bv13_13.out (And.intro (show v12.heap.size ≠ v0.heap.size by have h5 := Nv13_13.out; omega) (And.intro (Kv12.out.size) (And.intro (Kv0.out.size) (And.intro Kv13.out (And.intro Cv13.out Lv13.out))))))
            clear hHeld
            obtain ⟨G1, hG1⟩ : ∃ x, v12.heap.size = x := ⟨_, rfl⟩
            obtain ⟨G2, hG2⟩ : ∃ x, v0.heap.size = x := ⟨_, rfl⟩
            rw [hG1, hG2] at hF ⊢
            exact key.out _ _ _ _ _ _ _ hF
        · have Nv14_13 := Lib.hid (Array.getElem?_eq_some_iff.1 Bv11_13.out).1
          go_simp
          refine hK.out _ _ (HS.out _ (Kv11.out.alloc _)) (fun hHeld => ?_)
          clear hK K
          try simp only [Act.put, List.setIfInBounds_toArray, List.set_cons_zero, List.set_cons_succ]
          obtain ⟨v14, hv14⟩ : ∃ x, v11.alloc (.cells #[.int .i64 0, .slice none 0 0, .slice none 0 0] 34) = x := ⟨_, rfl⟩
          have k9 : Kp v11 v14 := by rw [← hv14]; exact (Kp.refl _).alloc _
          have Bv14_12 : Hid (Bx v14 v11.heap.size 34 #[.int .i64 0, .slice none 0 0, .slice none 0 0]) := by unfold Hid; rw [← hv14]; exact Bx.new v11 _ _
          have Bv14_13 := Lib.hid (Bv11_13.out.kp k9)
          have Kv14 := Lib.hid (Kv11.out.trans k9)
          rw [hv14] at hHeld ⊢
          clear k9 hv14
          refine wpAnyH_ready (rs := [7]) (by kernel_rfl) (by simp) ?_
          refine AllReadyH.cons rfl (fun K hK => ?_) (AllReadyH.nil)
          · go_simp
            refine (HTX.out _ _ _ (C8.out.kp Kv14.out)).mono ?_
            rintro _ v15 ⟨x9, y9, p9, q9, rfl, c9, l9, k9⟩
            have Kv15 := Lib.hid (Kv14.out.trans k9)
            have Bv15_13 := Lib.hid (Bv14_13.out.kp k9)
            have Bv15_12 := Lib.hid (Bv14_12.out.kp k9)
            have Cv15 := Lib.hid c9
            have Lv15 := Lib.hid l9
            clear c9 l9 k9
            refine hK.out _ _ (HS.out _ (Kv15.out)) (fun hHeld => ?_)
            clear hK K
            try simp only [Act.put, List.setIfInBounds_toArray, List.set_cons_zero, List.set_cons_succ]
            refine wpAnyH_take (i := 8) (oi := ⟨some 96, _, _, _, _, _⟩) (v := ?_) rfl (by kernel_rfl) (by kernel_rfl) (by kernel_rfl) (fun _ _ _ h => h) (Or.inl ⟨by kernel_rfl, ?_⟩) (by assumption) ?_
            rotate_left
            focus ((intro w hSw; (try dsimp only at hSw); go_simp); (try with_reducible rfl); done)
            simp only [Act.put, List.setIfInBounds_toArray, List.set_cons_zero, List.set_cons_succ]
            refine wpAnyH_take (i := 9) (oi := ⟨some 105, _, _, _, _, _⟩) (v := ?_) rfl (by kernel_rfl) (by kernel_rfl) (by kernel_rfl) (fun _ _ _ h => h) (Or.inl ⟨by kernel_rfl, ?_⟩) (by assumption) ?_
            rotate_left
            focus ((intro w hSw; (try dsimp only at hSw); go_simp); (try with_reducible rfl); done)
            simp only [Act.put, List.setIfInBounds_toArray, List.set_cons_zero, List.set_cons_succ]
            refine wpAnyH_take (i := 10) (oi := ⟨some 106, _, _, _, _, _⟩) (v := ?_) rfl (by kernel_rfl) (by kernel_rfl) (by kernel_rfl) (fun _ _ _ h => h) (Or.inl ⟨by kernel_rfl, ?_⟩) (by assumption) ?_
            rotate_left
            focus ((intro w hSw; (try dsimp only at hSw); go_simp); (try with_reducible rfl); done)
            simp only [Act.put, List.setIfInBounds_toArray, List.set_cons_zero, List.set_cons_succ]
            refine wpAnyH_take (i := 11) (oi := ⟨some 107, _, _, _, _, _⟩) (v := ?_) rfl (by kernel_rfl) (by kernel_rfl) (by kernel_rfl) (fun _ _ _ h => h) (Or.inl ⟨by kernel_rfl, ?_⟩) (by assumption) ?_
            rotate_left
            focus ((intro w hSw; (try dsimp only at hSw); go_simp); (try with_reducible rfl); done)
            simp only [Act.put, List.setIfInBounds_toArray, List.set_cons_zero, List.set_cons_succ]
            have hF := And.intro Bv15_12.out (And.intro Bv15_13.out (And.intro (show v11.heap.size ≠ v0.heap.size by have h5 := Nv14_13.out; omega) (And.intro (Kv11.out.size) (And.intro (Kv0.out.size) (And.intro Kv15.out (And.intro Cv15.out Lv15.out))))))
            clear hHeld
            obtain ⟨G1, hG1⟩ : ∃ x, v11.heap.size = x := ⟨_, rfl⟩
            obtain ⟨G2, hG2⟩ : ∃ x, v0.heap.size = x := ⟨_, rfl⟩
            rw [hG1, hG2] at hF ⊢
            exact key.out _ _ _ _ _ _ _ hF
    case rest2 =>
      rintro G14 G15 x14 y14 p14 q14 w14 ⟨b14, b15, hne, hg, hg1, k14, c14, l14⟩
      obtain ⟨ya, yb, yc, yd, yf, rfl, rfl⟩ := c14.shapes
      obtain ⟨o1, o2, o3, o4, o5, o6, rfl, rfl⟩ := HXL.out _ _ _ _ l14
      rw [HYL.out] at c14 ⊢
      have K14 := Lib.hid k14
      have B14 := Lib.hid b14
      have B15 := Lib.hid b15
      have C14 := Lib.hid c14
      have L14 := Lib.hid l14
      have HG := Lib.hid hg
      have HG1 := Lib.hid hg1
      have HNE := Lib.hid hne
      have hHeld := HS.out _ K14.out
      clear b14 b15 hne hg hg1 k14 c14 l14 HTX
      refine wpAnyH_ready (rs := [14]) (by kernel_rfl) (by simp) ?_
      refine AllReadyH.cons rfl (fun K hK => ?_) (AllReadyH.nil)
      · obtain ⟨x0, x1, x2⟩ := cells3 B14.out
        have x3 := B14.out.frozen 0
        have x4 := B14.out.frozen 1
        have x5 := B14.out.frozen 2
        obtain ⟨sb, sg, sk⟩ := stored3 B14.out (.int .i64 (AT + 1)) (.slice ya yb yc) (.slice yd 31 yf)
        go_simp
        refine hK.out _ _ (HS.out _ (sk w8 K14.out (HG.out))) (fun hHeld => ?_)
        clear hK K
        try simp only [Act.put, List.setIfInBounds_toArray, List.set_cons_zero, List.set_cons_succ]
        have Kv10 := Lib.hid (sk w8 K14.out (HG.out))
        obtain ⟨v1, hv1⟩ : ∃ x, ((w14.setCell ⟨G14, 0, none⟩ (.int .i64 (AT + 1))).setCell ⟨G14, 1, none⟩ (.slice ya yb yc)).setCell ⟨G14, 2, none⟩ (.slice yd 31 yf) = x := ⟨_, rfl⟩
        rw [hv1] at hHeld sb sg sk Kv10 ⊢
        have Cv1 := Lib.hid (CIn.mk (C14.out.sec.kept13 B14.out sg) (C14.out.spare.kept13 HKEY.out B14.out sg))
        have Lv1 := Lib.hid (LIn.mk (L14.out.key.kept13 B14.out sg) (L14.out.non.kept13 B14.out sg))
        have Bv1_13 := Lib.hid (B15.out.grow sg (by have h5 := HNE.out; omega))
        have Bv1_12 := Lib.hid sb
        clear x0 x1 x2 x3 x4 x5 sb sg sk hv1
        refine wpAnyH_ready (rs := [15]) (by kernel_rfl) (by simp) ?_
        refine AllReadyH.cons rfl (fun K hK => ?_) (AllReadyH.nil)
        · obtain ⟨x0, x1, x2⟩ := cells3 Bv1_13.out
          have x3 := Bv1_13.out.frozen 0
          have x4 := Bv1_13.out.frozen 1
          have x5 := Bv1_13.out.frozen 2
          obtain ⟨sb, sg, sk⟩ := stored3 Bv1_13.out (.int .i64 PS) (.slice o1 o2 o3) (.slice o4 o5 o6)
          go_simp
          refine hK.out _ _ (HS.out _ (sk w8 Kv10.out (HG1.out))) (fun hHeld => ?_)
          clear hK K
          try simp only [Act.put, List.setIfInBounds_toArray, List.set_cons_zero, List.set_cons_succ]
          have Kv20 := Lib.hid (sk w8 Kv10.out (HG1.out))
          obtain ⟨v2, hv2⟩ : ∃ x, ((v1.setCell ⟨G15, 0, none⟩ (.int .i64 PS)).setCell ⟨G15, 1, none⟩ (.slice o1 o2 o3)).setCell ⟨G15, 2, none⟩ (.slice o4 o5 o6) = x := ⟨_, rfl⟩
          rw [hv2] at hHeld sb sg sk Kv20 ⊢
          have Cv2 := Lib.hid (CIn.mk (Cv1.out.sec.kept13 Bv1_13.out sg) (Cv1.out.spare.kept13 HKEY.out Bv1_13.out sg))
          have Lv2 := Lib.hid (LIn.mk (Lv1.out.key.kept13 Bv1_13.out sg) (Lv1.out.non.kept13 Bv1_13.out sg))
          have Bv2_12 := Lib.hid (Bv1_12.out.grow sg (by have h5 := HNE.out; omega))
          have Bv2_13 := Lib.hid sb
          clear x0 x1 x2 x3 x4 x5 sb sg sk hv2
          refine wpAnyH_take (i := 16) (oi := ⟨some 16, _, _, _, _, _⟩) (v := ?_) rfl (by kernel_rfl) (by kernel_rfl) (by kernel_rfl) (fun _ _ _ h => h) (Or.inl ⟨by kernel_rfl, ?_⟩) (by assumption) ?_
          rotate_left
          focus ((intro w hSw; (try dsimp only at hSw); go_simp); (try with_reducible rfl); done)
          simp only [Act.put, List.setIfInBounds_toArray, List.set_cons_zero, List.set_cons_succ]
          refine wpAnyH_done (by kernel_rfl) ?_ _
          clear hHeld
          have HSK1 := Lib.hid (fun W (hW : Kp v2 W) => HSK.out W _ _ _ _ (lkAt X.spare I) (Lv2.out.kp hW) ((HZL.out.kp Kv20.out).kp hW))
          rw [HPS.out] at HSK1
          have HS13 : Hid (∀ W, Kp v2 W → W.cell? ⟨G15, 0, none⟩ = some (.int .i64 PS) ∧ W.cell? ⟨G15, 1, none⟩ = some (.slice o1 o2 o3) ∧ W.cell? ⟨G15, 2, none⟩ = some (.slice o4 o5 o6) ∧ W.cell? ⟨b0, off + I * 3, none⟩ = some (.int .i64 PS) ∧ W.cell? ⟨b0, off + I * 3 + 1, none⟩ = some (.slice pk1 pk2 pk3) ∧ W.cell? ⟨b0, off + I * 3 + 2, none⟩ = some (.slice pn1 pn2 pn3) ∧ W.cell? ⟨G14, 0, none⟩ = some (.int .i64 (AT + 1)) ∧ W.cell? ⟨G14, 2, none⟩ = some (.slice yd 31 yf) ∧ W.cell? ⟨w5.heap.size, 0, none⟩ = some (.int .i64 (AT + 1)) ∧ W.cell? ⟨w5.heap.size, 2, none⟩ = some (.slice (some ⟨b0, off, none⟩) 32 d6)) := fun W hW => ⟨(Bv2_13.out.kp hW).cell 0, (Bv2_13.out.kp hW).cell 1, (Bv2_13.out.kp hW).cell 2, hW.cell (Kv20.out.cell HZC.out.1), hW.cell (Kv20.out.cell HZC.out.2.1), hW.cell (Kv20.out.cell HZC.out.2.2), (Bv2_12.out.kp hW).cell 0, (Bv2_12.out.kp hW).cell 2, (D8.out.kp (Kv20.out.trans hW)).cell 0, (D8.out.kp (Kv20.out.trans hW)).cell 2⟩
          go_wp2_with fail
          refine wp_region_held_drew (S := fun W => W.cell? ⟨G15, 0, none⟩ = some (.int .i64 PS) ∧ W.cell? ⟨G15, 1, none⟩ = some (.slice o1 o2 o3) ∧ W.cell? ⟨G15, 2, none⟩ = some (.slice o4 o5 o6) ∧ W.cell? ⟨b0, off + I * 3, none⟩ = some (.int .i64 PS) ∧ W.cell? ⟨b0, off + I * 3 + 1, none⟩ = some (.slice pk1 pk2 pk3) ∧ W.cell? ⟨b0, off + I * 3 + 2, none⟩ = some (.slice pn1 pn2 pn3) ∧ W.cell? ⟨G14, 0, none⟩ = some (.int .i64 (AT + 1)) ∧ W.cell? ⟨G14, 2, none⟩ = some (.slice yd 31 yf) ∧ W.cell? ⟨w5.heap.size, 0, none⟩ = some (.int .i64 (AT + 1)) ∧ W.cell? ⟨w5.heap.size, 2, none⟩ = some (.slice (some ⟨b0, off, none⟩) 32 d6)) (by kernel_rfl) (by first | exact HS13.out _ K30.out | exact HS13.out _ (Kp.refl _).drew) (fun hHeld => ?_)
          refine wpAnyH_take (i := 0) (oi := ⟨some 108, _, _, _, _, _⟩) (v := ?_) rfl (by kernel_rfl) (by kernel_rfl) (by kernel_rfl) (fun _ _ _ h => h) (Or.inl ⟨by kernel_rfl, ?_⟩) (by assumption) ?_
          rotate_left
          focus ((intro w hSw; (try dsimp only at hSw); go_simp); (try with_reducible rfl); done)
          simp only [Act.put, List.setIfInBounds_toArray, List.set_cons_zero, List.set_cons_succ]
          refine wpAnyH_take (i := 1) (oi := ⟨some 109, _, _, _, _, _⟩) (v := ?_) rfl (by kernel_rfl) (by kernel_rfl) (by kernel_rfl) (fun _ _ _ h => h) (Or.inl ⟨by kernel_rfl, ?_⟩) (by assumption) ?_
          rotate_left
          focus ((intro w hSw; (try dsimp only at hSw); go_simp); (try with_reducible rfl); done)
          simp only [Act.put, List.setIfInBounds_toArray, List.set_cons_zero, List.set_cons_succ]
          refine wpAnyH_take (i := 2) (oi := ⟨some 110, _, _, _, _, _⟩) (v := ?_) rfl (by kernel_rfl) (by kernel_rfl) (by kernel_rfl) (fun _ _ _ h => h) (Or.inl ⟨by kernel_rfl, ?_⟩) (by assumption) ?_
          rotate_left
          focus ((intro w hSw; (try dsimp only at hSw); go_simp); (try with_reducible rfl); done)
          simp only [Act.put, List.setIfInBounds_toArray, List.set_cons_zero, List.set_cons_succ]
          refine wpAnyH_take (i := 3) (oi := ⟨some 111, _, _, _, _, _⟩) (v := ?_) rfl (by kernel_rfl) (by kernel_rfl) (by kernel_rfl) (fun _ _ _ h => h) (Or.inl ⟨by kernel_rfl, ?_⟩) (by assumption) ?_
          rotate_left
          focus ((intro w hSw; (try dsimp only at hSw); go_simp); (try with_reducible rfl); done)
          simp only [Act.put, List.setIfInBounds_toArray, List.set_cons_zero, List.set_cons_succ]
          refine wpAnyH_take (i := 4) (oi := ⟨some 112, _, _, _, _, _⟩) (v := ?_) rfl (by kernel_rfl) (by kernel_rfl) (by kernel_rfl) (fun _ _ _ h => h) (Or.inl ⟨by kernel_rfl, ?_⟩) (by assumption) ?_
          rotate_left
          focus ((intro w hSw; (try dsimp only at hSw); go_simp); (try with_reducible rfl); done)
          simp only [Act.put, List.setIfInBounds_toArray, List.set_cons_zero, List.set_cons_succ]
          refine wpAnyH_take (i := 5) (oi := ⟨some 113, _, _, _, _, _⟩) (v := ?_) rfl (by kernel_rfl) (by kernel_rfl) (by kernel_rfl) (fun _ _ _ h => h) (Or.inl ⟨by kernel_rfl, ?_⟩) (by assumption) ?_
          rotate_left
          focus ((intro w hSw; (try dsimp only at hSw); go_simp); (try with_reducible rfl); done)
          simp only [Act.put, List.setIfInBounds_toArray, List.set_cons_zero, List.set_cons_succ]
          refine wpAnyH_take (i := 6) (oi := ⟨some 114, _, _, _, _, _⟩) (v := ?_) rfl (by kernel_rfl) (by kernel_rfl) (by kernel_rfl) (fun _ _ _ h => h) (Or.inl ⟨by kernel_rfl, ?_⟩) (by assumption) ?_
          rotate_left
          focus ((intro w hSw; (try dsimp only at hSw); go_simp); (try with_reducible rfl); done)
          simp only [Act.put, List.setIfInBounds_toArray, List.set_cons_zero, List.set_cons_succ]
          refine wpAnyH_take (i := 7) (oi := ⟨some 115, _, _, _, _, _⟩) (v := ?_) rfl (by kernel_rfl) (by kernel_rfl) (by kernel_rfl) (fun _ _ _ h => h) (Or.inl ⟨by kernel_rfl, ?_⟩) (by assumption) ?_
          rotate_left
          focus ((intro w hSw; (try dsimp only at hSw); go_simp); (try with_reducible rfl); done)
          simp only [Act.put, List.setIfInBounds_toArray, List.set_cons_zero, List.set_cons_succ]
          refine wpAnyH_take (i := 8) (oi := ⟨some 116, _, _, _, _, _⟩) (v := ?_) rfl (by kernel_rfl) (by kernel_rfl) (by kernel_rfl) (fun _ _ _ h => h) (Or.inl ⟨by kernel_rfl, ?_⟩) (by assumption) ?_
          rotate_left
          focus ((intro w hSw; (try dsimp only at hSw); go_simp); (try with_reducible rfl); done)
          simp only [Act.put, List.setIfInBounds_toArray, List.set_cons_zero, List.set_cons_succ]
          refine wpAnyH_ready (rs := [9]) (by kernel_rfl) (by simp) ?_
          refine AllReadyH.cons (o := ⟨some 117, _, _, _, _, _⟩) rfl (fun K hK => ?_) AllReadyH.nil
          go_simp
          refine (HSK1.out _ (by first | exact (Kp.refl _).drew | exact Kp.refl _)).mono ?_; rintro _ w30 ⟨⟨bb, rfl, hb⟩, k9⟩; obtain rfl : bb = true := (by first | exact hb.2 rfl | exact hb.2 trivial); have K30 : Hid (Kp v2 w30) := (by first | exact (Kp.refl v2).drew.trans k9 | exact k9); clear hb k9
          refine hK.out _ _ (by first | exact HS13.out _ K30.out | exact HS13.out _ (Kp.refl _).drew) (fun hHeld => ?_)
          clear hK K
          try simp only [Act.put, List.setIfInBounds_toArray, List.set_cons_zero, List.set_cons_succ]
          refine wpAnyH_take (i := 10) (oi := ⟨some 118, _, _, _, _, _⟩) (v := ?_) rfl (by kernel_rfl) (by kernel_rfl) (by kernel_rfl) (fun _ _ _ h => h) (Or.inl ⟨by kernel_rfl, ?_⟩) (by assumption) ?_
          rotate_left
          focus ((intro w hSw; (try dsimp only at hSw); go_simp); (try with_reducible rfl); done)
          simp only [Act.put, List.setIfInBounds_toArray, List.set_cons_zero, List.set_cons_succ]
          refine wpAnyH_take (i := 11) (oi := ⟨some 119, _, _, _, _, _⟩) (v := ?_) rfl (by kernel_rfl) (by kernel_rfl) (by kernel_rfl) (fun _ _ _ h => h) (Or.inl ⟨by kernel_rfl, ?_⟩) (by assumption) ?_
          rotate_left
          focus ((intro w hSw; (try dsimp only at hSw); go_simp); (try with_reducible rfl); done)
          simp only [Act.put, List.setIfInBounds_toArray, List.set_cons_zero, List.set_cons_succ]
          refine wpAnyH_take (i := 12) (oi := ⟨some 120, _, _, _, _, _⟩) (v := ?_) rfl (by kernel_rfl) (by kernel_rfl) (by kernel_rfl) (fun _ _ _ h => h) (Or.inl ⟨by kernel_rfl, ?_⟩) (by assumption) ?_
          rotate_left
          focus ((intro w hSw; (try dsimp only at hSw); go_simp); (try with_reducible rfl); done)
          simp only [Act.put, List.setIfInBounds_toArray, List.set_cons_zero, List.set_cons_succ]
          refine wpAnyH_take (i := 13) (oi := ⟨some 121, _, _, _, _, _⟩) (v := ?_) rfl (by kernel_rfl) (by kernel_rfl) (by kernel_rfl) (fun _ _ _ h => h) (Or.inl ⟨by kernel_rfl, ?_⟩) (by assumption) ?_
          rotate_left
          focus ((intro w hSw; (try dsimp only at hSw); go_simp); (try with_reducible rfl); done)
          simp only [Act.put, List.setIfInBounds_toArray, List.set_cons_zero, List.set_cons_succ]
          refine wpAnyH_take (i := 14) (oi := ⟨some 122, _, _, _, _, _⟩) (v := ?_) rfl (by kernel_rfl) (by kernel_rfl) (by kernel_rfl) (fun _ _ _ h => h) (Or.inl ⟨by kernel_rfl, ?_⟩) (by assumption) ?_
          rotate_left
          focus ((intro w hSw; (try dsimp only at hSw); go_simp); (try with_reducible rfl); done)
          simp only [Act.put, List.setIfInBounds_toArray, List.set_cons_zero, List.set_cons_succ]
          refine wpAnyH_take (i := 15) (oi := ⟨some 123, _, _, _, _, _⟩) (v := ?_) rfl (by kernel_rfl) (by kernel_rfl) (by kernel_rfl) (fun _ _ _ h => h) (Or.inl ⟨by kernel_rfl, ?_⟩) (by assumption) ?_
          rotate_left
          focus ((intro w hSw; (try dsimp only at hSw); go_simp); (try with_reducible rfl); done)
          simp only [Act.put, List.setIfInBounds_toArray, List.set_cons_zero, List.set_cons_succ]
          refine wpAnyH_take (i := 16) (oi := ⟨some 124, _, _, _, _, _⟩) (v := ?_) rfl (by kernel_rfl) (by kernel_rfl) (by kernel_rfl) (fun _ _ _ h => h) (Or.inl ⟨by kernel_rfl, ?_⟩) (by assumption) ?_
          rotate_left
          focus ((intro w hSw; (try dsimp only at hSw); go_simp); (try with_reducible rfl); done)
          simp only [Act.put, List.setIfInBounds_toArray, List.set_cons_zero, List.set_cons_succ]
          refine wpAnyH_take (i := 17) (oi := ⟨some 125, _, _, _, _, _⟩) (v := ?_) rfl (by kernel_rfl) (by kernel_rfl) (by kernel_rfl) (fun _ _ _ h => h) (Or.inl ⟨by kernel_rfl, ?_⟩) (by assumption) ?_
          rotate_left
          focus ((intro w hSw; (try dsimp only at hSw); go_simp); (try with_reducible rfl); done)
          simp only [Act.put, List.setIfInBounds_toArray, List.set_cons_zero, List.set_cons_succ]
          refine wpAnyH_take (i := 18) (oi := ⟨some 126, _, _, _, _, _⟩) (v := ?_) rfl (by kernel_rfl) (by kernel_rfl) (by kernel_rfl) (fun _ _ _ h => h) (Or.inl ⟨by kernel_rfl, ?_⟩) (by assumption) ?_
          rotate_left
          focus ((intro w hSw; (try dsimp only at hSw); go_simp); (try with_reducible rfl); done)
          simp only [Act.put, List.setIfInBounds_toArray, List.set_cons_zero, List.set_cons_succ]
          refine wpAnyH_take (i := 19) (oi := ⟨some 127, _, _, _, _, _⟩) (v := ?_) rfl (by kernel_rfl) (by kernel_rfl) (by kernel_rfl) (fun _ _ _ h => h) (Or.inl ⟨by kernel_rfl, ?_⟩) (by assumption) ?_
          rotate_left
          focus ((intro w hSw; (try dsimp only at hSw); go_simp); (try with_reducible rfl); done)
          simp only [Act.put, List.setIfInBounds_toArray, List.set_cons_zero, List.set_cons_succ]
          refine wpAnyH_take (i := 20) (oi := ⟨some 128, _, _, _, _, _⟩) (v := ?_) rfl (by kernel_rfl) (by kernel_rfl) (by kernel_rfl) (fun _ _ _ h => h) (Or.inl ⟨by kernel_rfl, ?_⟩) (by assumption) ?_
          rotate_left
          focus ((intro w hSw; (try dsimp only at hSw); go_simp); (try with_reducible rfl); done)
          simp only [Act.put, List.setIfInBounds_toArray, List.set_cons_zero, List.set_cons_succ]
          refine wpAnyH_take (i := 21) (oi := ⟨some 129, _, _, _, _, _⟩) (v := ?_) rfl (by kernel_rfl) (by kernel_rfl) (by kernel_rfl) (fun _ _ _ h => h) (Or.inl ⟨by kernel_rfl, ?_⟩) (by assumption) ?_
          rotate_left
          focus ((intro w hSw; (try dsimp only at hSw); go_simp); (try with_reducible rfl); done)
          simp only [Act.put, List.setIfInBounds_toArray, List.set_cons_zero, List.set_cons_succ]
          refine wpAnyH_take (i := 22) (oi := ⟨some 130, _, _, _, _, _⟩) (v := ?_) rfl (by kernel_rfl) (by kernel_rfl) (by kernel_rfl) (fun _ _ _ h => h) (Or.inl ⟨by kernel_rfl, ?_⟩) (by assumption) ?_
          rotate_left
          focus ((intro w hSw; (try dsimp only at hSw); go_simp); (try with_reducible rfl); done)
          simp only [Act.put, List.setIfInBounds_toArray, List.set_cons_zero, List.set_cons_succ]
          refine wpAnyH_take (i := 23) (oi := ⟨some 131, _, _, _, _, _⟩) (v := ?_) rfl (by kernel_rfl) (by kernel_rfl) (by kernel_rfl) (fun _ _ _ h => h) (Or.inl ⟨by kernel_rfl, ?_⟩) (by assumption) ?_
          rotate_left
          focus ((intro w hSw; (try dsimp only at hSw); go_simp); (try with_reducible rfl); done)
          simp only [Act.put, List.setIfInBounds_toArray, List.set_cons_zero, List.set_cons_succ]
          refine wpAnyH_take (i := 24) (oi := ⟨some 132, _, _, _, _, _⟩) (v := ?_) rfl (by kernel_rfl) (by kernel_rfl) (by kernel_rfl) (fun _ _ _ h => h) (Or.inl ⟨by kernel_rfl, ?_⟩) (by assumption) ?_
          rotate_left
          focus ((intro w hSw; (try dsimp only at hSw); go_simp); (try with_reducible rfl); done)
          simp only [Act.put, List.setIfInBounds_toArray, List.set_cons_zero, List.set_cons_succ]
          refine wpAnyH_take (i := 25) (oi := ⟨some 133, _, _, _, _, _⟩) (v := ?_) rfl (by kernel_rfl) (by kernel_rfl) (by kernel_rfl) (fun _ _ _ h => h) (Or.inl ⟨by kernel_rfl, ?_⟩) (by assumption) ?_
          rotate_left
          focus ((intro w hSw; (try dsimp only at hSw); go_simp); (try with_reducible rfl); done)
          simp only [Act.put, List.setIfInBounds_toArray, List.set_cons_zero, List.set_cons_succ]
          refine wpAnyH_take (i := 26) (oi := ⟨some 134, _, _, _, _, _⟩) (v := ?_) rfl (by kernel_rfl) (by kernel_rfl) (by kernel_rfl) (fun _ _ _ h => h) (Or.inl ⟨by kernel_rfl, ?_⟩) (by assumption) ?_
          rotate_left
          focus ((intro w hSw; (try dsimp only at hSw); go_simp); (try with_reducible rfl); done)
          simp only [Act.put, List.setIfInBounds_toArray, List.set_cons_zero, List.set_cons_succ]
          refine wpAnyH_done (by kernel_rfl) ?_ _
          clear hHeld
          go_wp2_with fail
          rw [show ((31 : Int) != IntKind.i64.wrap 31) = false by decide]
          go_loopw [17] (fun z wr => ∃ j : Nat, j ≤ 31 ∧ z = .int .i64 (j : Int) ∧ Kp w30 wr) (fun z _ => (31 - (intOf z).toNat))
          case atStart => exact ⟨0, Nat.zero_le _, rfl, Kp.refl _⟩
          case round =>
            obtain ⟨j, hj, rfl, hkj⟩ := hrel
            have KI := Lib.hid hkj
            have KJ := Lib.hid (K30.out.trans hkj)
            obtain ⟨wj, hwj⟩ : ∃ x : World, x = wr := ⟨_, rfl⟩
            subst hwj
            clear hkj
            by_cases hlt : j < 31
            · have i10 : (j : Int) < 31 := by omega
              have i11 : (j : Int) < (31 : Int) := by omega
              have i12 : IntKind.i64.wrap ((j : Int) + 1) = (j : Int) + 1 := IntWalk.i64_in _ (by omega)
              obtain ⟨b1, of1, cc1, m1, m2, e1, _, y0, y1, y2, r1, r2⟩ := LL.node (i := j) (Cv2.out.spare.kp KJ.out) (by rw [HYL.out]; exact hlt)
              rw [HYL.out] at e1
              simp only [Value.slice.injEq] at e1
              obtain ⟨rfl, _, rfl⟩ := e1
              by_cases hji : j < I
              · have i13 : ¬ (I : Int) ≤ (j : Int) := by omega
                have hF1 : j < X.spare.length := by rw [HSX.out]; omega
                have i14 : (j : Int) < (32 : Int) := by omega
                have hAT : lkAt Y.spare j = lkAt X.spare j := by rw [HAY.out j, if_pos hji]
                rw [hAT] at y0 r1 r2
                obtain ⟨b2, of2, cc2, m3, m4, e2, _, z0, z1, z2, r3, r4⟩ := LL.node (i := j) ((C8.out.spare.kp Kv20.out).kp KJ.out) hF1
                rw [HSX.out] at e2
                simp only [Value.slice.injEq, Option.some.injEq, Addr.mk.injEq] at e2
                obtain ⟨⟨rfl, rfl, _⟩, _, rfl⟩ := e2
                obtain ⟨m1a, m1b, m1c, rfl⟩ := r1.sl
                obtain ⟨m2a, m2b, m2c, rfl⟩ := r2.sl
                obtain ⟨m3a, m3b, m3c, rfl⟩ := r3.sl
                obtain ⟨m4a, m4b, m4c, rfl⟩ := r4.sl
                have HSL := Lib.hid (fun W (hW : Kp wj W) => HSK.out W _ _ _ _ (lkAt X.spare (j)) ⟨r1.kp hW, r2.kp hW⟩ ⟨r3.kp hW, r4.kp hW⟩)
                generalize (lkAt X.spare (j)).pos = PF at *
                have HCC : Hid (∀ W, Kp wj W → W.cell? ⟨G14, 2, none⟩ = some (.slice (some ⟨b1, of1, none⟩) 31 yf) ∧ W.cell? ⟨w5.heap.size, 2, none⟩ = some (.slice (some ⟨b0, off, none⟩) 32 d6) ∧ W.cell? ⟨b1, of1 + j * 3, none⟩ = some (.int .i64 PF) ∧ W.cell? ⟨b1, of1 + j * 3 + 1, none⟩ = some (.slice m1a m1b m1c) ∧ W.cell? ⟨b1, of1 + j * 3 + 2, none⟩ = some (.slice m2a m2b m2c) ∧ W.cell? ⟨b0, off + j * 3, none⟩ = some (.int .i64 PF) ∧ W.cell? ⟨b0, off + j * 3 + 1, none⟩ = some (.slice m3a m3b m3c) ∧ W.cell? ⟨b0, off + j * 3 + 2, none⟩ = some (.slice m4a m4b m4c)) := fun W hW => ⟨(Bv2_12.out.kp (KJ.out.trans hW)).cell 2, (D8.out.kp (Kv20.out.trans (KJ.out.trans hW))).cell 2, hW.cell y0, hW.cell y1, hW.cell y2, hW.cell z0, hW.cell z1, hW.cell z2⟩
                have S0 := Lib.hid (HCC.out wj (Kp.refl _))
                clear y0 y1 y2 z0 z1 z2 r1 r2 r3 r4 hF1 hAT
                go_wp2_with fail
                go_region_held3 (fun W => W.cell? ⟨G14, 2, none⟩ = some (.slice (some ⟨b1, of1, none⟩) 31 yf) ∧ W.cell? ⟨w5.heap.size, 2, none⟩ = some (.slice (some ⟨b0, off, none⟩) 32 d6) ∧ W.cell? ⟨b1, of1 + j * 3, none⟩ = some (.int .i64 PF) ∧ W.cell? ⟨b1, of1 + j * 3 + 1, none⟩ = some (.slice m1a m1b m1c) ∧ W.cell? ⟨b1, of1 + j * 3 + 2, none⟩ = some (.slice m2a m2b m2c) ∧ W.cell? ⟨b0, off + j * 3, none⟩ = some (.int .i64 PF) ∧ W.cell? ⟨b0, off + j * 3 + 1, none⟩ = some (.slice m3a m3b m3c) ∧ W.cell? ⟨b0, off + j * 3 + 2, none⟩ = some (.slice m4a m4b m4c))
                  (first | (with_reducible exact S9.out) | exact S0.out)
                  (first | (go_at_call 14; refine (HSL.out _ (by first | exact Kp.refl _ | exact (Kp.refl _).drew)).mono ?_; rintro _ w9 ⟨⟨bb, rfl, hbb⟩, k9⟩; obtain rfl : bb = true := (by first | exact hbb.2 rfl | exact hbb.2 trivial); have K9 : Hid (Kp wj w9) := (by first | exact k9 | exact (Kp.refl wj).drew.trans k9); have S9 := Lib.hid (HCC.out w9 K9.out); clear hbb k9))
                have KF := Lib.hid (KI.out.trans K9.out)
                clear S0 S9 HCC HSL
                go_wp2_with fail
                go_roundw
                case rel => exact ⟨j + 1, by omega, by first | rfl | go_num, KF.out⟩
                case measure => simp [intOf]; omega
              · have i13 : (I : Int) ≤ (j : Int) := by omega
                have hF1 : (j + 1) < X.spare.length := by rw [HSX.out]; omega
                have i14 : (j : Int) + 1 < (32 : Int) := by omega
                have i15 : 0 ≤ (j : Int) + 1 := by omega
                have hAT : lkAt Y.spare j = lkAt X.spare (j + 1) := by rw [HAY.out j, if_neg hji]
                rw [hAT] at y0 r1 r2
                obtain ⟨b2, of2, cc2, m3, m4, e2, _, z0, z1, z2, r3, r4⟩ := LL.node (i := (j + 1)) ((C8.out.spare.kp Kv20.out).kp KJ.out) hF1
                rw [HSX.out] at e2
                simp only [Value.slice.injEq, Option.some.injEq, Addr.mk.injEq] at e2
                obtain ⟨⟨rfl, rfl, _⟩, _, rfl⟩ := e2
                obtain ⟨m1a, m1b, m1c, rfl⟩ := r1.sl
                obtain ⟨m2a, m2b, m2c, rfl⟩ := r2.sl
                obtain ⟨m3a, m3b, m3c, rfl⟩ := r3.sl
                obtain ⟨m4a, m4b, m4c, rfl⟩ := r4.sl
                have HSL := Lib.hid (fun W (hW : Kp wj W) => HSK.out W _ _ _ _ (lkAt X.spare ((j + 1))) ⟨r1.kp hW, r2.kp hW⟩ ⟨r3.kp hW, r4.kp hW⟩)
                generalize (lkAt X.spare ((j + 1))).pos = PF at *
                have HCC : Hid (∀ W, Kp wj W → W.cell? ⟨G14, 2, none⟩ = some (.slice (some ⟨b1, of1, none⟩) 31 yf) ∧ W.cell? ⟨w5.heap.size, 2, none⟩ = some (.slice (some ⟨b0, off, none⟩) 32 d6) ∧ W.cell? ⟨b1, of1 + j * 3, none⟩ = some (.int .i64 PF) ∧ W.cell? ⟨b1, of1 + j * 3 + 1, none⟩ = some (.slice m1a m1b m1c) ∧ W.cell? ⟨b1, of1 + j * 3 + 2, none⟩ = some (.slice m2a m2b m2c) ∧ W.cell? ⟨b0, off + (j + 1) * 3, none⟩ = some (.int .i64 PF) ∧ W.cell? ⟨b0, off + (j + 1) * 3 + 1, none⟩ = some (.slice m3a m3b m3c) ∧ W.cell? ⟨b0, off + (j + 1) * 3 + 2, none⟩ = some (.slice m4a m4b m4c)) := fun W hW => ⟨(Bv2_12.out.kp (KJ.out.trans hW)).cell 2, (D8.out.kp (Kv20.out.trans (KJ.out.trans hW))).cell 2, hW.cell y0, hW.cell y1, hW.cell y2, hW.cell z0, hW.cell z1, hW.cell z2⟩
                have S0 := Lib.hid (HCC.out wj (Kp.refl _))
                clear y0 y1 y2 z0 z1 z2 r1 r2 r3 r4 hF1 hAT
                go_wp2_with fail
                go_region_held3 (fun W => W.cell? ⟨G14, 2, none⟩ = some (.slice (some ⟨b1, of1, none⟩) 31 yf) ∧ W.cell? ⟨w5.heap.size, 2, none⟩ = some (.slice (some ⟨b0, off, none⟩) 32 d6) ∧ W.cell? ⟨b1, of1 + j * 3, none⟩ = some (.int .i64 PF) ∧ W.cell? ⟨b1, of1 + j * 3 + 1, none⟩ = some (.slice m1a m1b m1c) ∧ W.cell? ⟨b1, of1 + j * 3 + 2, none⟩ = some (.slice m2a m2b m2c) ∧ W.cell? ⟨b0, off + (j + 1) * 3, none⟩ = some (.int .i64 PF) ∧ W.cell? ⟨b0, off + (j + 1) * 3 + 1, none⟩ = some (.slice m3a m3b m3c) ∧ W.cell? ⟨b0, off + (j + 1) * 3 + 2, none⟩ = some (.slice m4a m4b m4c))
                  (first | (with_reducible exact S9.out) | exact S0.out)
                  (first | (go_at_call 14; refine (HSL.out _ (by first | exact Kp.refl _ | exact (Kp.refl _).drew)).mono ?_; rintro _ w9 ⟨⟨bb, rfl, hbb⟩, k9⟩; obtain rfl : bb = true := (by first | exact hbb.2 rfl | exact hbb.2 trivial); have K9 : Hid (Kp wj w9) := (by first | exact k9 | exact (Kp.refl wj).drew.trans k9); have S9 := Lib.hid (HCC.out w9 K9.out); clear hbb k9))
                have KF := Lib.hid (KI.out.trans K9.out)
                clear S0 S9 HCC HSL
                go_wp2_with fail
                go_roundw
                case rel => exact ⟨j + 1, by omega, by first | rfl | go_num, KF.out⟩
                case measure => simp [intOf]; omega
            · obtain rfl : j = 31 := by omega
              have i10 : ¬ (31 : Int) < 31 := by omega
              have HS23 : Hid (∀ W, Kp wj W → W.cell? ⟨G14, 0, none⟩ = some (.int .i64 (AT + 1)) ∧ W.cell? ⟨G14, 1, none⟩ = some (.slice ya yb yc) ∧ W.cell? ⟨G14, 2, none⟩ = some (.slice yd 31 yf) ∧ W.cell? ⟨w5.heap.size, 2, none⟩ = some (.slice (some ⟨b0, off, none⟩) 32 d6) ∧ W.cell? ⟨b0, off + I * 3, none⟩ = some (.int .i64 PS)) := fun W hW => ⟨(Bv2_12.out.kp (KJ.out.trans hW)).cell 0, (Bv2_12.out.kp (KJ.out.trans hW)).cell 1, (Bv2_12.out.kp (KJ.out.trans hW)).cell 2, (D8.out.kp (Kv20.out.trans (KJ.out.trans hW))).cell 2, hW.cell (KJ.out.cell (Kv20.out.cell HZC.out.1))⟩
              have HCY := Lib.hid (Cv2.out.kp KJ.out)
              have HKW := Lib.hid ((K8.out.trans Kv20.out).trans KJ.out)
              rw [show noLk.pos = 0 from rfl] at HTY
              go_wp2_with fail
              refine later7 (Q := ?QR2) (F := fun g g1 x y p q W => Bx W g 34 #[.int .i64 0, .slice none 0 0, .slice none 0 0] ∧ Bx W g1 37 #[.int .i64 0, .slice none 0 0, .slice none 0 0] ∧ g ≠ g1 ∧ wj.heap.size ≤ g ∧ wj.heap.size ≤ g1 ∧ Kp wj W ∧ CIn W x y Y ∧ LIn W p q noLk) ?waysR2 ?restR2
              case waysR2 =>
                intro key
                refine wp_region_held_drew (S := fun W => W.cell? ⟨G14, 0, none⟩ = some (.int .i64 (AT + 1)) ∧ W.cell? ⟨G14, 1, none⟩ = some (.slice ya yb yc) ∧ W.cell? ⟨G14, 2, none⟩ = some (.slice yd 31 yf) ∧ W.cell? ⟨w5.heap.size, 2, none⟩ = some (.slice (some ⟨b0, off, none⟩) 32 d6) ∧ W.cell? ⟨b0, off + I * 3, none⟩ = some (.int .i64 PS)) (by kernel_rfl) (HS23.out _ (Kp.refl _).drew) (fun hHeld => ?_)
                obtain ⟨v0, hv0⟩ : ∃ x, wj.drew = x := ⟨_, rfl⟩
                have Kv0 : Hid (Kp wj v0) := by unfold Hid; rw [← hv0]; exact (Kp.refl _).drew
                rw [hv0] at hHeld ⊢
                clear hv0
                refine wpAnyH_take (i := 0) (oi := ⟨some 160, _, _, _, _, _⟩) (v := ?_) rfl (by kernel_rfl) (by kernel_rfl) (by kernel_rfl) (fun _ _ _ h => h) (Or.inl ⟨by kernel_rfl, ?_⟩) (by assumption) ?_
                rotate_left
                focus ((intro w hSw; (try dsimp only at hSw); go_simp); (try with_reducible rfl); done)
                simp only [Act.put, List.setIfInBounds_toArray, List.set_cons_zero, List.set_cons_succ]
                refine wpAnyH_take (i := 1) (oi := ⟨some 161, _, _, _, _, _⟩) (v := ?_) rfl (by kernel_rfl) (by kernel_rfl) (by kernel_rfl) (fun _ _ _ h => h) (Or.inl ⟨by kernel_rfl, ?_⟩) (by assumption) ?_
                rotate_left
                focus ((intro w hSw; (try dsimp only at hSw); go_simp); (try with_reducible rfl); done)
                simp only [Act.put, List.setIfInBounds_toArray, List.set_cons_zero, List.set_cons_succ]
                refine wpAnyH_take (i := 2) (oi := ⟨some 162, _, _, _, _, _⟩) (v := ?_) rfl (by kernel_rfl) (by kernel_rfl) (by kernel_rfl) (fun _ _ _ h => h) (Or.inl ⟨by kernel_rfl, ?_⟩) (by assumption) ?_
                rotate_left
                focus ((intro w hSw; (try dsimp only at hSw); go_simp); (try with_reducible rfl); done)
                simp only [Act.put, List.setIfInBounds_toArray, List.set_cons_zero, List.set_cons_succ]
                refine wpAnyH_take (i := 3) (oi := ⟨some 163, _, _, _, _, _⟩) (v := ?_) rfl (by kernel_rfl) (by kernel_rfl) (by kernel_rfl) (fun _ _ _ h => h) (Or.inl ⟨by kernel_rfl, ?_⟩) (by assumption) ?_
                rotate_left
                focus ((intro w hSw; (try dsimp only at hSw); go_simp); (try with_reducible rfl); done)
                simp only [Act.put, List.setIfInBounds_toArray, List.set_cons_zero, List.set_cons_succ]
                refine wpAnyH_take (i := 4) (oi := ⟨some 164, _, _, _, _, _⟩) (v := ?_) rfl (by kernel_rfl) (by kernel_rfl) (by kernel_rfl) (fun _ _ _ h => h) (Or.inl ⟨by kernel_rfl, ?_⟩) (by assumption) ?_
                rotate_left
                focus ((intro w hSw; (try dsimp only at hSw); go_simp); (try with_reducible rfl); done)
                simp only [Act.put, List.setIfInBounds_toArray, List.set_cons_zero, List.set_cons_succ]
                refine wpAnyH_take (i := 5) (oi := ⟨some 165, _, _, _, _, _⟩) (v := ?_) rfl (by kernel_rfl) (by kernel_rfl) (by kernel_rfl) (fun _ _ _ h => h) (Or.inl ⟨by kernel_rfl, ?_⟩) (by assumption) ?_
                rotate_left
                focus ((intro w hSw; (try dsimp only at hSw); go_simp); (try with_reducible rfl); done)
                simp only [Act.put, List.setIfInBounds_toArray, List.set_cons_zero, List.set_cons_succ]
                refine wpAnyH_take (i := 6) (oi := ⟨some 166, _, _, _, _, _⟩) (v := ?_) rfl (by kernel_rfl) (by kernel_rfl) (by kernel_rfl) (fun _ _ _ h => h) (Or.inl ⟨by kernel_rfl, ?_⟩) (by assumption) ?_
                rotate_left
                focus ((intro w hSw; (try dsimp only at hSw); go_simp); (try with_reducible rfl); done)
                simp only [Act.put, List.setIfInBounds_toArray, List.set_cons_zero, List.set_cons_succ]
                refine wpAnyH_ready (rs := [7, 12, 13]) (by kernel_rfl) (by simp) ?_
                refine AllReadyH.cons rfl (fun K hK => ?_) (AllReadyH.cons rfl (fun K hK => ?_) (AllReadyH.cons rfl (fun K hK => ?_) (AllReadyH.nil)))
                · go_simp
                  refine (HTY.out _ _ _ (HCY.out.kp Kv0.out)).mono ?_
                  rintro _ v1 ⟨x9, y9, p9, q9, rfl, c9, l9, k9⟩
                  have Kv1 := Lib.hid (Kv0.out.trans k9)
                  have Cv1 := Lib.hid c9
                  have Lv1 := Lib.hid l9
                  clear c9 l9 k9
                  refine hK.out _ _ (HS23.out _ (Kv1.out)) (fun hHeld => ?_)
                  clear hK K
                  try simp only [Act.put, List.setIfInBounds_toArray, List.set_cons_zero, List.set_cons_succ]
                  refine wpAnyH_take (i := 8) (oi := ⟨some 159, _, _, _, _, _⟩) (v := ?_) rfl (by kernel_rfl) (by kernel_rfl) (by kernel_rfl) (fun _ _ _ h => h) (Or.inl ⟨by kernel_rfl, ?_⟩) (by assumption) ?_
                  rotate_left
                  focus ((intro w hSw; (try dsimp only at hSw); go_simp); (try with_reducible rfl); done)
                  simp only [Act.put, List.setIfInBounds_toArray, List.set_cons_zero, List.set_cons_succ]
                  refine wpAnyH_take (i := 9) (oi := ⟨some 168, _, _, _, _, _⟩) (v := ?_) rfl (by kernel_rfl) (by kernel_rfl) (by kernel_rfl) (fun _ _ _ h => h) (Or.inl ⟨by kernel_rfl, ?_⟩) (by assumption) ?_
                  rotate_left
                  focus ((intro w hSw; (try dsimp only at hSw); go_simp); (try with_reducible rfl); done)
                  simp only [Act.put, List.setIfInBounds_toArray, List.set_cons_zero, List.set_cons_succ]
                  refine wpAnyH_take (i := 10) (oi := ⟨some 169, _, _, _, _, _⟩) (v := ?_) rfl (by kernel_rfl) (by kernel_rfl) (by kernel_rfl) (fun _ _ _ h => h) (Or.inl ⟨by kernel_rfl, ?_⟩) (by assumption) ?_
                  rotate_left
                  focus ((intro w hSw; (try dsimp only at hSw); go_simp); (try with_reducible rfl); done)
                  simp only [Act.put, List.setIfInBounds_toArray, List.set_cons_zero, List.set_cons_succ]
                  refine wpAnyH_take (i := 11) (oi := ⟨some 170, _, _, _, _, _⟩) (v := ?_) rfl (by kernel_rfl) (by kernel_rfl) (by kernel_rfl) (fun _ _ _ h => h) (Or.inl ⟨by kernel_rfl, ?_⟩) (by assumption) ?_
                  rotate_left
                  focus ((intro w hSw; (try dsimp only at hSw); go_simp); (try with_reducible rfl); done)
                  simp only [Act.put, List.setIfInBounds_toArray, List.set_cons_zero, List.set_cons_succ]
                  refine wpAnyH_ready (rs := [12, 13]) (by kernel_rfl) (by simp) ?_
                  refine AllReadyH.cons rfl (fun K hK => ?_) (AllReadyH.cons rfl (fun K hK => ?_) (AllReadyH.nil))
                  · go_simp
                    refine hK.out _ _ (HS23.out _ (Kv1.out.alloc _)) (fun hHeld => ?_)
                    clear hK K
                    try simp only [Act.put, List.setIfInBounds_toArray, List.set_cons_zero, List.set_cons_succ]
                    obtain ⟨v2, hv2⟩ : ∃ x, v1.alloc (.cells #[.int .i64 0, .slice none 0 0, .slice none 0 0] 34) = x := ⟨_, rfl⟩
                    have k9 : Kp v1 v2 := by rw [← hv2]; exact (Kp.refl _).alloc _
                    have Bv2_12 : Hid (Bx v2 v1.heap.size 34 #[.int .i64 0, .slice none 0 0, .slice none 0 0]) := by unfold Hid; rw [← hv2]; exact Bx.new v1 _ _
                    have Kv2 := Lib.hid (Kv1.out.trans k9)
                    have Cv2 := Lib.hid (Cv1.out.kp k9)
                    have Lv2 := Lib.hid (Lv1.out.kp k9)
                    rw [hv2] at hHeld ⊢
                    clear k9 hv2
                    refine wpAnyH_ready (rs := [13]) (by kernel_rfl) (by simp) ?_
                    refine AllReadyH.cons rfl (fun K hK => ?_) (AllReadyH.nil)
                    · have Nv3_12 := Lib.hid (Array.getElem?_eq_some_iff.1 Bv2_12.out).1
                      go_simp
                      refine hK.out _ _ (HS23.out _ (Kv2.out.alloc _)) (fun hHeld => ?_)
                      clear hK K
                      try simp only [Act.put, List.setIfInBounds_toArray, List.set_cons_zero, List.set_cons_succ]
                      obtain ⟨v3, hv3⟩ : ∃ x, v2.alloc (.cells #[.int .i64 0, .slice none 0 0, .slice none 0 0] 37) = x := ⟨_, rfl⟩
                      have k9 : Kp v2 v3 := by rw [← hv3]; exact (Kp.refl _).alloc _
                      have Bv3_13 : Hid (Bx v3 v2.heap.size 37 #[.int .i64 0, .slice none 0 0, .slice none 0 0]) := by unfold Hid; rw [← hv3]; exact Bx.new v2 _ _
                      have Bv3_12 := Lib.hid (Bv2_12.out.kp k9)
                      have Kv3 := Lib.hid (Kv2.out.trans k9)
                      have Cv3 := Lib.hid (Cv2.out.kp k9)
                      have Lv3 := Lib.hid (Lv2.out.kp k9)
                      rw [hv3] at hHeld ⊢
                      clear k9 hv3
                      have hF := And.intro Bv3_12.out (And.intro Bv3_13.out (And.intro (show v1.heap.size ≠ v2.heap.size by have h5 := Nv3_12.out; omega) (And.intro (Kv1.out.size) (And.intro (Kv2.out.size) (And.intro Kv3.out (And.intro Cv3.out Lv3.out))))))
                      clear hHeld
                      obtain ⟨G1, hG1⟩ : ∃ x, v1.heap.size = x := ⟨_, rfl⟩
                      obtain ⟨G2, hG2⟩ : ∃ x, v2.heap.size = x := ⟨_, rfl⟩
                      rw [hG1, hG2] at hF ⊢
                      exact key.out _ _ _ _ _ _ _ hF
                  · go_simp
                    refine hK.out _ _ (HS23.out _ (Kv1.out.alloc _)) (fun hHeld => ?_)
                    clear hK K
                    try simp only [Act.put, List.setIfInBounds_toArray, List.set_cons_zero, List.set_cons_succ]
                    obtain ⟨v4, hv4⟩ : ∃ x, v1.alloc (.cells #[.int .i64 0, .slice none 0 0, .slice none 0 0] 37) = x := ⟨_, rfl⟩
                    have k9 : Kp v1 v4 := by rw [← hv4]; exact (Kp.refl _).alloc _
                    have Bv4_13 : Hid (Bx v4 v1.heap.size 37 #[.int .i64 0, .slice none 0 0, .slice none 0 0]) := by unfold Hid; rw [← hv4]; exact Bx.new v1 _ _
                    have Kv4 := Lib.hid (Kv1.out.trans k9)
                    have Cv4 := Lib.hid (Cv1.out.kp k9)
                    have Lv4 := Lib.hid (Lv1.out.kp k9)
                    rw [hv4] at hHeld ⊢
                    clear k9 hv4
                    refine wpAnyH_ready (rs := [12]) (by kernel_rfl) (by simp) ?_
                    refine AllReadyH.cons rfl (fun K hK => ?_) (AllReadyH.nil)
                    · have Nv5_13 := Lib.hid (Array.getElem?_eq_some_iff.1 Bv4_13.out).1
                      go_simp
                      refine hK.out _ _ (HS23.out _ (Kv4.out.alloc _)) (fun hHeld => ?_)
                      clear hK K
                      try simp only [Act.put, List.setIfInBounds_toArray, List.set_cons_zero, List.set_cons_succ]
                      obtain ⟨v5, hv5⟩ : ∃ x, v4.alloc (.cells #[.int .i64 0, .slice none 0 0, .slice none 0 0] 34) = x := ⟨_, rfl⟩
                      have k9 : Kp v4 v5 := by rw [← hv5]; exact (Kp.refl _).alloc _
                      have Bv5_12 : Hid (Bx v5 v4.heap.size 34 #[.int .i64 0, .slice none 0 0, .slice none 0 0]) := by unfold Hid; rw [← hv5]; exact Bx.new v4 _ _
                      have Bv5_13 := Lib.hid (Bv4_13.out.kp k9)
                      have Kv5 := Lib.hid (Kv4.out.trans k9)
                      have Cv5 := Lib.hid (Cv4.out.kp k9)
                      have Lv5 := Lib.hid (Lv4.out.kp k9)
                      rw [hv5] at hHeld ⊢
                      clear k9 hv5
                      have hF := And.intro Bv5_12.out (And.intro Bv5_13.out (And.intro (show v4.heap.size ≠ v1.heap.size by have h5 := Nv5_13.out; omega) (And.intro (Kv4.out.size) (And.intro (Kv1.out.size) (And.intro Kv5.out (And.intro Cv5.out Lv5.out))))))
                      clear hHeld
                      obtain ⟨G1, hG1⟩ : ∃ x, v4.heap.size = x := ⟨_, rfl⟩
                      obtain ⟨G2, hG2⟩ : ∃ x, v1.heap.size = x := ⟨_, rfl⟩
                      rw [hG1, hG2] at hF ⊢
                      exact key.out _ _ _ _ _ _ _ hF
                · go_simp
                  refine hK.out _ _ (HS23.out _ (Kv0.out.alloc _)) (fun hHeld => ?_)
                  clear hK K
                  try simp only [Act.put, List.setIfInBounds_toArray, List.set_cons_zero, List.set_cons_succ]
                  obtain ⟨v6, hv6⟩ : ∃ x, v0.alloc (.cells #[.int .i64 0, .slice none 0 0, .slice none 0 0] 34) = x := ⟨_, rfl⟩
                  have k9 : Kp v0 v6 := by rw [← hv6]; exact (Kp.refl _).alloc _
                  have Bv6_12 : Hid (Bx v6 v0.heap.size 34 #[.int .i64 0, .slice none 0 0, .slice none 0 0]) := by unfold Hid; rw [← hv6]; exact Bx.new v0 _ _
                  have Kv6 := Lib.hid (Kv0.out.trans k9)
                  rw [hv6] at hHeld ⊢
                  clear k9 hv6
                  refine wpAnyH_ready (rs := [7, 13]) (by kernel_rfl) (by simp) ?_
                  refine AllReadyH.cons rfl (fun K hK => ?_) (AllReadyH.cons rfl (fun K hK => ?_) (AllReadyH.nil))
                  · go_simp
                    refine (HTY.out _ _ _ (HCY.out.kp Kv6.out)).mono ?_
                    rintro _ v7 ⟨x9, y9, p9, q9, rfl, c9, l9, k9⟩
                    have Kv7 := Lib.hid (Kv6.out.trans k9)
                    have Bv7_12 := Lib.hid (Bv6_12.out.kp k9)
                    have Cv7 := Lib.hid c9
                    have Lv7 := Lib.hid l9
                    clear c9 l9 k9
                    refine hK.out _ _ (HS23.out _ (Kv7.out)) (fun hHeld => ?_)
                    clear hK K
                    try simp only [Act.put, List.setIfInBounds_toArray, List.set_cons_zero, List.set_cons_succ]
                    refine wpAnyH_take (i := 8) (oi := ⟨some 159, _, _, _, _, _⟩) (v := ?_) rfl (by kernel_rfl) (by kernel_rfl) (by kernel_rfl) (fun _ _ _ h => h) (Or.inl ⟨by kernel_rfl, ?_⟩) (by assumption) ?_
                    rotate_left
                    focus ((intro w hSw; (try dsimp only at hSw); go_simp); (try with_reducible rfl); done)
                    simp only [Act.put, List.setIfInBounds_toArray, List.set_cons_zero, List.set_cons_succ]
                    refine wpAnyH_take (i := 9) (oi := ⟨some 168, _, _, _, _, _⟩) (v := ?_) rfl (by kernel_rfl) (by kernel_rfl) (by kernel_rfl) (fun _ _ _ h => h) (Or.inl ⟨by kernel_rfl, ?_⟩) (by assumption) ?_
                    rotate_left
                    focus ((intro w hSw; (try dsimp only at hSw); go_simp); (try with_reducible rfl); done)
                    simp only [Act.put, List.setIfInBounds_toArray, List.set_cons_zero, List.set_cons_succ]
                    refine wpAnyH_take (i := 10) (oi := ⟨some 169, _, _, _, _, _⟩) (v := ?_) rfl (by kernel_rfl) (by kernel_rfl) (by kernel_rfl) (fun _ _ _ h => h) (Or.inl ⟨by kernel_rfl, ?_⟩) (by assumption) ?_
                    rotate_left
                    focus ((intro w hSw; (try dsimp only at hSw); go_simp); (try with_reducible rfl); done)
                    simp only [Act.put, List.setIfInBounds_toArray, List.set_cons_zero, List.set_cons_succ]
                    refine wpAnyH_take (i := 11) (oi := ⟨some 170, _, _, _, _, _⟩) (v := ?_) rfl (by kernel_rfl) (by kernel_rfl) (by kernel_rfl) (fun _ _ _ h => h) (Or.inl ⟨by kernel_rfl, ?_⟩) (by assumption) ?_
                    rotate_left
                    focus ((intro w hSw; (try dsimp only at hSw); go_simp); (try with_reducible rfl); done)
                    simp only [Act.put, List.setIfInBounds_toArray, List.set_cons_zero, List.set_cons_succ]
                    refine wpAnyH_ready (rs := [13]) (by kernel_rfl) (by simp) ?_
                    refine AllReadyH.cons rfl (fun K hK => ?_) (AllReadyH.nil)
                    · have Nv8_12 := Lib.hid (Array.getElem?_eq_some_iff.1 Bv7_12.out).1
                      go_simp
                      refine hK.out _ _ (HS23.out _ (Kv7.out.alloc _)) (fun hHeld => ?_)
                      clear hK K
                      try simp only [Act.put, List.setIfInBounds_toArray, List.set_cons_zero, List.set_cons_succ]
                      obtain ⟨v8, hv8⟩ : ∃ x, v7.alloc (.cells #[.int .i64 0, .slice none 0 0, .slice none 0 0] 37) = x := ⟨_, rfl⟩
                      have k9 : Kp v7 v8 := by rw [← hv8]; exact (Kp.refl _).alloc _
                      have Bv8_13 : Hid (Bx v8 v7.heap.size 37 #[.int .i64 0, .slice none 0 0, .slice none 0 0]) := by unfold Hid; rw [← hv8]; exact Bx.new v7 _ _
                      have Bv8_12 := Lib.hid (Bv7_12.out.kp k9)
                      have Kv8 := Lib.hid (Kv7.out.trans k9)
                      have Cv8 := Lib.hid (Cv7.out.kp k9)
                      have Lv8 := Lib.hid (Lv7.out.kp k9)
                      rw [hv8] at hHeld ⊢
                      clear k9 hv8
                      have hF := And.intro Bv8_12.out (And.intro Bv8_13.out (And.intro (show v0.heap.size ≠ v7.heap.size by have h5 := Nv8_12.out; omega) (And.intro (Kv0.out.size) (And.intro (Kv7.out.size) (And.intro Kv8.out (And.intro Cv8.out Lv8.out))))))
                      clear hHeld
                      obtain ⟨G1, hG1⟩ : ∃ x, v0.heap.size = x := ⟨_, rfl⟩
                      obtain ⟨G2, hG2⟩ : ∃ x, v7.heap.size = x := ⟨_, rfl⟩
                      rw [hG1, hG2] at hF ⊢
                      exact key.out _ _ _ _ _ _ _ hF
                  · have Nv9_12 := Lib.hid (Array.getElem?_eq_some_iff.1 Bv6_12.out).1
                    go_simp
                    refine hK.out _ _ (HS23.out _ (Kv6.out.alloc _)) (fun hHeld => ?_)
                    clear hK K
                    try simp only [Act.put, List.setIfInBounds_toArray, List.set_cons_zero, List.set_cons_succ]
                    obtain ⟨v9, hv9⟩ : ∃ x, v6.alloc (.cells #[.int .i64 0, .slice none 0 0, .slice none 0 0] 37) = x := ⟨_, rfl⟩
                    have k9 : Kp v6 v9 := by rw [← hv9]; exact (Kp.refl _).alloc _
                    have Bv9_13 : Hid (Bx v9 v6.heap.size 37 #[.int .i64 0, .slice none 0 0, .slice none 0 0]) := by unfold Hid; rw [← hv9]; exact Bx.new v6 _ _
                    have Bv9_12 := Lib.hid (Bv6_12.out.kp k9)
                    have Kv9 := Lib.hid (Kv6.out.trans k9)
                    rw [hv9] at hHeld ⊢
                    clear k9 hv9
                    refine wpAnyH_ready (rs := [7]) (by kernel_rfl) (by simp) ?_
                    refine AllReadyH.cons rfl (fun K hK => ?_) (AllReadyH.nil)
                    · go_simp
                      refine (HTY.out _ _ _ (HCY.out.kp Kv9.out)).mono ?_
                      rintro _ v10 ⟨x9, y9, p9, q9, rfl, c9, l9, k9⟩
                      have Kv10 := Lib.hid (Kv9.out.trans k9)
                      have Bv10_12 := Lib.hid (Bv9_12.out.kp k9)
                      have Bv10_13 := Lib.hid (Bv9_13.out.kp k9)
                      have Cv10 := Lib.hid c9
                      have Lv10 := Lib.hid l9
                      clear c9 l9 k9
                      refine hK.out _ _ (HS23.out _ (Kv10.out)) (fun hHeld => ?_)
                      clear hK K
                      try simp only [Act.put, List.setIfInBounds_toArray, List.set_cons_zero, List.set_cons_succ]
                      refine wpAnyH_take (i := 8) (oi := ⟨some 159, _, _, _, _, _⟩) (v := ?_) rfl (by kernel_rfl) (by kernel_rfl) (by kernel_rfl) (fun _ _ _ h => h) (Or.inl ⟨by kernel_rfl, ?_⟩) (by assumption) ?_
                      rotate_left
                      focus ((intro w hSw; (try dsimp only at hSw); go_simp); (try with_reducible rfl); done)
                      simp only [Act.put, List.setIfInBounds_toArray, List.set_cons_zero, List.set_cons_succ]
                      refine wpAnyH_take (i := 9) (oi := ⟨some 168, _, _, _, _, _⟩) (v := ?_) rfl (by kernel_rfl) (by kernel_rfl) (by kernel_rfl) (fun _ _ _ h => h) (Or.inl ⟨by kernel_rfl, ?_⟩) (by assumption) ?_
                      rotate_left
                      focus ((intro w hSw; (try dsimp only at hSw); go_simp); (try with_reducible rfl); done)
                      simp only [Act.put, List.setIfInBounds_toArray, List.set_cons_zero, List.set_cons_succ]
                      refine wpAnyH_take (i := 10) (oi := ⟨some 169, _, _, _, _, _⟩) (v := ?_) rfl (by kernel_rfl) (by kernel_rfl) (by kernel_rfl) (fun _ _ _ h => h) (Or.inl ⟨by kernel_rfl, ?_⟩) (by assumption) ?_
                      rotate_left
                      focus ((intro w hSw; (try dsimp only at hSw); go_simp); (try with_reducible rfl); done)
                      simp only [Act.put, List.setIfInBounds_toArray, List.set_cons_zero, List.set_cons_succ]
                      refine wpAnyH_take (i := 11) (oi := ⟨some 170, _, _, _, _, _⟩) (v := ?_) rfl (by kernel_rfl) (by kernel_rfl) (by kernel_rfl) (fun _ _ _ h => h) (Or.inl ⟨by kernel_rfl, ?_⟩) (by assumption) ?_
                      rotate_left
                      focus ((intro w hSw; (try dsimp only at hSw); go_simp); (try with_reducible rfl); done)
                      simp only [Act.put, List.setIfInBounds_toArray, List.set_cons_zero, List.set_cons_succ]
                      have hF := And.intro Bv10_12.out (And.intro Bv10_13.out (And.intro (show v0.heap.size ≠ v6.heap.size by have h5 := Nv9_12.out; omega) (And.intro (Kv0.out.size) (And.intro (Kv6.out.size) (And.intro Kv10.out (And.intro Cv10.out Lv10.out))))))
                      clear hHeld
                      obtain ⟨G1, hG1⟩ : ∃ x, v0.heap.size = x := ⟨_, rfl⟩
                      obtain ⟨G2, hG2⟩ : ∃ x, v6.heap.size = x := ⟨_, rfl⟩
                      rw [hG1, hG2] at hF ⊢
                      exact key.out _ _ _ _ _ _ _ hF
                · go_simp
                  refine hK.out _ _ (HS23.out _ (Kv0.out.alloc _)) (fun hHeld => ?_)
                  clear hK K
                  try simp only [Act.put, List.setIfInBounds_toArray, List.set_cons_zero, List.set_cons_succ]
                  obtain ⟨v11, hv11⟩ : ∃ x, v0.alloc (.cells #[.int .i64 0, .slice none 0 0, .slice none 0 0] 37) = x := ⟨_, rfl⟩
                  have k9 : Kp v0 v11 := by rw [← hv11]; exact (Kp.refl _).alloc _
                  have Bv11_13 : Hid (Bx v11 v0.heap.size 37 #[.int .i64 0, .slice none 0 0, .slice none 0 0]) := by unfold Hid; rw [← hv11]; exact Bx.new v0 _ _
                  have Kv11 := Lib.hid (Kv0.out.trans k9)
                  rw [hv11] at hHeld ⊢
                  clear k9 hv11
                  refine wpAnyH_ready (rs := [7, 12]) (by kernel_rfl) (by simp) ?_
                  refine AllReadyH.cons rfl (fun K hK => ?_) (AllReadyH.cons rfl (fun K hK => ?_) (AllReadyH.nil))
                  · go_simp
                    refine (HTY.out _ _ _ (HCY.out.kp Kv11.out)).mono ?_
                    rintro _ v12 ⟨x9, y9, p9, q9, rfl, c9, l9, k9⟩
                    have Kv12 := Lib.hid (Kv11.out.trans k9)
                    have Bv12_13 := Lib.hid (Bv11_13.out.kp k9)
                    have Cv12 := Lib.hid c9
                    have Lv12 := Lib.hid l9
                    clear c9 l9 k9
                    refine hK.out _ _ (HS23.out _ (Kv12.out)) (fun hHeld => ?_)
                    clear hK K
                    try simp only [Act.put, List.setIfInBounds_toArray, List.set_cons_zero, List.set_cons_succ]
                    refine wpAnyH_take (i := 8) (oi := ⟨some 159, _, _, _, _, _⟩) (v := ?_) rfl (by kernel_rfl) (by kernel_rfl) (by kernel_rfl) (fun _ _ _ h => h) (Or.inl ⟨by kernel_rfl, ?_⟩) (by assumption) ?_
                    rotate_left
                    focus ((intro w hSw; (try dsimp only at hSw); go_simp); (try with_reducible rfl); done)
                    simp only [Act.put, List.setIfInBounds_toArray, List.set_cons_zero, List.set_cons_succ]
                    refine wpAnyH_take (i := 9) (oi := ⟨some 168, _, _, _, _, _⟩) (v := ?_) rfl (by kernel_rfl) (by kernel_rfl) (by kernel_rfl) (fun _ _ _ h => h) (Or.inl ⟨by kernel_rfl, ?_⟩) (by assumption) ?_
                    rotate_left
                    focus ((intro w hSw; (try dsimp only at hSw); go_simp); (try with_reducible rfl); done)
                    simp only [Act.put, List.setIfInBounds_toArray, List.set_cons_zero, List.set_cons_succ]
                    refine wpAnyH_take (i := 10) (oi := ⟨some 169, _, _, _, _, _⟩) (v := ?_) rfl (by kernel_rfl) (by kernel_rfl) (by kernel_rfl) (fun _ _ _ h => h) (Or.inl ⟨by kernel_rfl, ?_⟩) (by assumption) ?_
                    rotate_left
                    focus ((intro w hSw; (try dsimp only at hSw); go_simp); (try with_reducible rfl); done)
                    simp only [Act.put, List.setIfInBounds_toArray, List.set_cons_zero, List.set_cons_succ]
                    refine wpAnyH_take (i := 11) (oi := ⟨some 170, _, _, _, _, _⟩) (v := ?_) rfl (by kernel_rfl) (by kernel_rfl) (by kernel_rfl) (fun _ _ _ h => h) (Or.inl ⟨by kernel_rfl, ?_⟩) (by assumption) ?_
                    rotate_left
                    focus ((intro w hSw; (try dsimp only at hSw); go_simp); (try with_reducible rfl); done)
                    simp only [Act.put, List.setIfInBounds_toArray, List.set_cons_zero, List.set_cons_succ]
                    refine wpAnyH_ready (rs := [12]) (by kernel_rfl) (by simp) ?_
                    refine AllReadyH.cons rfl (fun K hK => ?_) (AllReadyH.nil)
                    · have Nv13_13 := Lib.hid (Array.getElem?_eq_some_iff.1 Bv12_13.out).1
                      go_simp
                      refine hK.out _ _ (HS23.out _ (Kv12.out.alloc _)) (fun hHeld => ?_)
                      clear hK K
                      try simp only [Act.put, List.setIfInBounds_toArray, List.set_cons_zero, List.set_cons_succ]
                      obtain ⟨v13, hv13⟩ : ∃ x, v12.alloc (.cells #[.int .i64 0, .slice none 0 0, .slice none 0 0] 34) = x := ⟨_, rfl⟩
                      have k9 : Kp v12 v13 := by rw [← hv13]; exact (Kp.refl _).alloc _
                      have Bv13_12 : Hid (Bx v13 v12.heap.size 34 #[.int .i64 0, .slice none 0 0, .slice none 0 0]) := by unfold Hid; rw [← hv13]; exact Bx.new v12 _ _
                      have Bv13_13 := Lib.hid (Bv12_13.out.kp k9)
                      have Kv13 := Lib.hid (Kv12.out.trans k9)
                      have Cv13 := Lib.hid (Cv12.out.kp k9)
                      have Lv13 := Lib.hid (Lv12.out.kp k9)
                      rw [hv13] at hHeld ⊢
                      clear k9 hv13
                      have hF := And.intro Bv13_12.out (And.intro Bv13_13.out (And.intro (show v12.heap.size ≠ v0.heap.size by have h5 := Nv13_13.out; omega) (And.intro (Kv12.out.size) (And.intro (Kv0.out.size) (And.intro Kv13.out (And.intro Cv13.out Lv13.out))))))
                      clear hHeld
                      obtain ⟨G1, hG1⟩ : ∃ x, v12.heap.size = x := ⟨_, rfl⟩
                      obtain ⟨G2, hG2⟩ : ∃ x, v0.heap.size = x := ⟨_, rfl⟩
                      rw [hG1, hG2] at hF ⊢
                      exact key.out _ _ _ _ _ _ _ hF
                  · have Nv14_13 := Lib.hid (Array.getElem?_eq_some_iff.1 Bv11_13.out).1
                    go_simp
                    refine hK.out _ _ (HS23.out _ (Kv11.out.alloc _)) (fun hHeld => ?_)
                    clear hK K
                    try simp only [Act.put, List.setIfInBounds_toArray, List.set_cons_zero, List.set_cons_succ]
                    obtain ⟨v14, hv14⟩ : ∃ x, v11.alloc (.cells #[.int .i64 0, .slice none 0 0, .slice none 0 0] 34) = x := ⟨_, rfl⟩
                    have k9 : Kp v11 v14 := by rw [← hv14]; exact (Kp.refl _).alloc _
                    have Bv14_12 : Hid (Bx v14 v11.heap.size 34 #[.int .i64 0, .slice none 0 0, .slice none 0 0]) := by unfold Hid; rw [← hv14]; exact Bx.new v11 _ _
                    have Bv14_13 := Lib.hid (Bv11_13.out.kp k9)
                    have Kv14 := Lib.hid (Kv11.out.trans k9)
                    rw [hv14] at hHeld ⊢
                    clear k9 hv14
                    refine wpAnyH_ready (rs := [7]) (by kernel_rfl) (by simp) ?_
                    refine AllReadyH.cons rfl (fun K hK => ?_) (AllReadyH.nil)
                    · go_simp
                      refine (HTY.out _ _ _ (HCY.out.kp Kv14.out)).mono ?_
                      rintro _ v15 ⟨x9, y9, p9, q9, rfl, c9, l9, k9⟩
                      have Kv15 := Lib.hid (Kv14.out.trans k9)
                      have Bv15_13 := Lib.hid (Bv14_13.out.kp k9)
                      have Bv15_12 := Lib.hid (Bv14_12.out.kp k9)
                      have Cv15 := Lib.hid c9
                      have Lv15 := Lib.hid l9
                      clear c9 l9 k9
                      refine hK.out _ _ (HS23.out _ (Kv15.out)) (fun hHeld => ?_)
                      clear hK K
                      try simp only [Act.put, List.setIfInBounds_toArray, List.set_cons_zero, List.set_cons_succ]
                      refine wpAnyH_take (i := 8) (oi := ⟨some 159, _, _, _, _, _⟩) (v := ?_) rfl (by kernel_rfl) (by kernel_rfl) (by kernel_rfl) (fun _ _ _ h => h) (Or.inl ⟨by kernel_rfl, ?_⟩) (by assumption) ?_
                      rotate_left
                      focus ((intro w hSw; (try dsimp only at hSw); go_simp); (try with_reducible rfl); done)
                      simp only [Act.put, List.setIfInBounds_toArray, List.set_cons_zero, List.set_cons_succ]
                      refine wpAnyH_take (i := 9) (oi := ⟨some 168, _, _, _, _, _⟩) (v := ?_) rfl (by kernel_rfl) (by kernel_rfl) (by kernel_rfl) (fun _ _ _ h => h) (Or.inl ⟨by kernel_rfl, ?_⟩) (by assumption) ?_
                      rotate_left
                      focus ((intro w hSw; (try dsimp only at hSw); go_simp); (try with_reducible rfl); done)
                      simp only [Act.put, List.setIfInBounds_toArray, List.set_cons_zero, List.set_cons_succ]
                      refine wpAnyH_take (i := 10) (oi := ⟨some 169, _, _, _, _, _⟩) (v := ?_) rfl (by kernel_rfl) (by kernel_rfl) (by kernel_rfl) (fun _ _ _ h => h) (Or.inl ⟨by kernel_rfl, ?_⟩) (by assumption) ?_
                      rotate_left
                      focus ((intro w hSw; (try dsimp only at hSw); go_simp); (try with_reducible rfl); done)
                      simp only [Act.put, List.setIfInBounds_toArray, List.set_cons_zero, List.set_cons_succ]
                      refine wpAnyH_take (i := 11) (oi := ⟨some 170, _, _, _, _, _⟩) (v := ?_) rfl (by kernel_rfl) (by kernel_rfl) (by kernel_rfl) (fun _ _ _ h => h) (Or.inl ⟨by kernel_rfl, ?_⟩) (by assumption) ?_
                      rotate_left
                      focus ((intro w hSw; (try dsimp only at hSw); go_simp); (try with_reducible rfl); done)
                      simp only [Act.put, List.setIfInBounds_toArray, List.set_cons_zero, List.set_cons_succ]
                      have hF := And.intro Bv15_12.out (And.intro Bv15_13.out (And.intro (show v11.heap.size ≠ v0.heap.size by have h5 := Nv14_13.out; omega) (And.intro (Kv11.out.size) (And.intro (Kv0.out.size) (And.intro Kv15.out (And.intro Cv15.out Lv15.out))))))
                      clear hHeld
                      obtain ⟨G1, hG1⟩ : ∃ x, v11.heap.size = x := ⟨_, rfl⟩
                      obtain ⟨G2, hG2⟩ : ∃ x, v0.heap.size = x := ⟨_, rfl⟩
                      rw [hG1, hG2] at hF ⊢
                      exact key.out _ _ _ _ _ _ _ hF
              case restR2 =>
                rintro H14 H15 x14 y14 p14 q14 w24 ⟨b14, b15, hne, hg, hg1, k14, c14, l14⟩
                obtain ⟨za, zb, zc, zd, zf, rfl, rfl⟩ := c14.shapes
                obtain ⟨ka, kb, kc, kd, ke, kf, rfl, rfl⟩ := HXL.out _ _ _ _ l14
                have K24 := Lib.hid k14
                have B24 := Lib.hid b14
                have B25 := Lib.hid b15
                have HG4 := Lib.hid hg
                have HG5 := Lib.hid hg1
                have HNE2 := Lib.hid hne
                have hHeld := HS23.out _ K24.out
                clear b14 b15 hne hg hg1 k14 c14 l14 HCY
                refine wpAnyH_ready (rs := [14]) (by kernel_rfl) (by simp) ?_
                refine AllReadyH.cons rfl (fun K hK => ?_) (AllReadyH.nil)
                · obtain ⟨x0, x1, x2⟩ := cells3 B24.out
                  have x3 := B24.out.frozen 0
                  have x4 := B24.out.frozen 1
                  have x5 := B24.out.frozen 2
                  obtain ⟨sb, sg, sk⟩ := stored3 B24.out (.int .i64 (AT + 1)) (.slice za zb zc) (.slice zd Y.spare.length zf)
                  go_simp
                  refine hK.out _ _ (HS23.out _ (sk wj K24.out (HG4.out))) (fun hHeld => ?_)
                  clear hK K
                  try simp only [Act.put, List.setIfInBounds_toArray, List.set_cons_zero, List.set_cons_succ]
                  have Kv10 := Lib.hid (sk wj K24.out (HG4.out))
                  obtain ⟨v1, hv1⟩ : ∃ x, ((w24.setCell ⟨H14, 0, none⟩ (.int .i64 (AT + 1))).setCell ⟨H14, 1, none⟩ (.slice za zb zc)).setCell ⟨H14, 2, none⟩ (.slice zd Y.spare.length zf) = x := ⟨_, rfl⟩
                  rw [hv1] at hHeld sb sg sk Kv10 ⊢
                  have Bv1_13 := Lib.hid (B25.out.grow sg (by have h5 := HNE2.out; omega))
                  have Bv1_12 := Lib.hid sb
                  clear x0 x1 x2 x3 x4 x5 sb sg sk hv1
                  refine wpAnyH_ready (rs := [15]) (by kernel_rfl) (by simp) ?_
                  refine AllReadyH.cons rfl (fun K hK => ?_) (AllReadyH.nil)
                  · obtain ⟨x0, x1, x2⟩ := cells3 Bv1_13.out
                    have x3 := Bv1_13.out.frozen 0
                    have x4 := Bv1_13.out.frozen 1
                    have x5 := Bv1_13.out.frozen 2
                    obtain ⟨sb, sg, sk⟩ := stored3 Bv1_13.out (.int .i64 0) (.slice ka kb kc) (.slice kd ke kf)
                    go_simp
                    refine hK.out _ _ (HS23.out _ (sk wj Kv10.out (HG5.out))) (fun hHeld => ?_)
                    clear hK K
                    try simp only [Act.put, List.setIfInBounds_toArray, List.set_cons_zero, List.set_cons_succ]
                    have Kv20 := Lib.hid (sk wj Kv10.out (HG5.out))
                    obtain ⟨v2, hv2⟩ : ∃ x, ((v1.setCell ⟨H15, 0, none⟩ (.int .i64 0)).setCell ⟨H15, 1, none⟩ (.slice ka kb kc)).setCell ⟨H15, 2, none⟩ (.slice kd ke kf) = x := ⟨_, rfl⟩
                    rw [hv2] at hHeld sb sg sk Kv20 ⊢
                    have Bv2_12 := Lib.hid (Bv1_12.out.grow sg (by have h5 := HNE2.out; omega))
                    have Bv2_13 := Lib.hid sb
                    clear x0 x1 x2 x3 x4 x5 sb sg sk hv2
                    refine wpAnyH_take (i := 16) (oi := ⟨some 21, _, _, _, _, _⟩) (v := ?_) rfl (by kernel_rfl) (by kernel_rfl) (by kernel_rfl) (fun _ _ _ h => h) (Or.inl ⟨by kernel_rfl, ?_⟩) (by assumption) ?_
                    rotate_left
                    focus ((intro w hSw; (try dsimp only at hSw); go_simp); (try with_reducible rfl); done)
                    simp only [Act.put, List.setIfInBounds_toArray, List.set_cons_zero, List.set_cons_succ]
                    refine wpAnyH_done (by kernel_rfl) ?_ _
                    clear hHeld
                    go_wp2_with fail
                    go_ret
                    exact ⟨rfl, HKW.out.trans Kv20.out⟩
theorem ratchSpares_int (x y : Value) (c : Ch) (b k : Int) (w : World) (h : CIn w x y c) (hB : 0 ≤ b ∧ b ≤ 255) (hk : 0 ≤ k ∧ k ≤ 255) (hT : Tab w) :
    Calls Tryd.prog 4 #[.agg #[.int .i64 c.next, x, y], .int .u8 b, .int .u8 k] w fun e w' => e = .returned (.bool true) ∧ Kp w w' := by
  obtain ⟨b, rfl⟩ := Int.eq_ofNat_of_zero_le hB.1
  obtain ⟨k, rfl⟩ := Int.eq_ofNat_of_zero_le hk.1
  exact ratchSpares_walk x y c b k w h (by omega) (by omega) hT
end Go.Proofs.YtigpgcjbpoaclaaDoor

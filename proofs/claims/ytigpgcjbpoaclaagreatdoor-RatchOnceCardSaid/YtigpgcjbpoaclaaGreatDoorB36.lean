import Derived.Test.YtigpgcjbpoaclaaGreatDoorB34
import Derived.Test.YtigpgcjbpoaclaaGreatDoorB35
set_option linter.unusedVariables false
set_option linter.unusedSimpArgs false
namespace Go.Proofs.YtigpgcjbpoaclaaGreatDoor
open Go.RowKit
set_option maxHeartbeats 2000000 in
theorem ratchStart_any (v : Value) (send : List UInt8) (n i : Int) (w : World) (h : Rd w v send) (hn : -9223372036854775808 ≤ n ∧ n ≤ 9223372036854775807) (hi : -9223372036854775808 ≤ i ∧ i ≤ 9223372036854775807) (hT : Tab w) :
    Calls Tryz.prog 10 #[v, .int .i64 n, .int .i64 i] w fun e w' => (∃ x y, e = .returned (.tuple #[.agg #[.int .i64 0, x, y], .int .i64 (leafE send n i)]) ∧ CIn w' x y (startC send n i)) ∧ Kp w w' := by
  obtain ⟨w1, hw1⟩ : ∃ w1, w.alloc (.cells #[.int .i64 0, .slice none 0 0, .slice none 0 0] 25) = w1 := ⟨_, rfl⟩
  have hb : Bx w1 w.heap.size 25 #[.int .i64 0, .slice none 0 0, .slice none 0 0] := by rw [← hw1]; exact Bx.new w _ _
  have hk1 : Kp w w1 := by rw [← hw1]; exact (Kp.refl _).alloc _
  have HSZ : Hid (w1.heap.size = w.heap.size + 1) := by rw [← hw1]; exact World.size_alloc _ _
  have HL := Lib.hid (ratchLeaf_own v send n i w1 (h.kp hk1) hn hi (hT.kp hk1))
  have HC : Hid (∀ W x, Rd W x (leafR send n i) → CIn W x (.slice none 0 0) (startC send n i)) := fun W x hx => ⟨hx, GL.nil W⟩
  have HN : Hid (leafE send n i ≠ 0 → leafE send n i = 1 ∧ leafR send n i = []) := fun h => by
    by_cases h2 : leafOk send n i
    · exact absurd (if_pos h2) h
    · exact leaf_no h2
  obtain ⟨a1, n1, c1, rfl⟩ := h.sl
  have HB := Lib.hid hb
  have K1 := Lib.hid hk1
  have HW := Lib.hid hw1
  generalize leafE send n i = E at *
  generalize leafR send n i = R at *
  clear h hb hk1 hw1 hn hi hT
  by_cases he : E = 0
  · subst he
    clear HN
    go_enter Tryz.func10, Tryz.ntmps10
    go_wp2_with (first | (rw [HW.out]) | fail)
    refine HL.out.mono ?_
    rintro _ w2 ⟨⟨u, rfl, o2, m2⟩, k2⟩
    obtain ⟨a2, n2, c2, rfl⟩ := o2.sl
    have B2 := Lib.hid (HB.out.kp k2)
    have K2 := Lib.hid (K1.out.trans k2)
    have M2 := Lib.hid (show Newer (w.heap.size + 1) (.slice a2 n2 c2) from m2.mono (by rw [HSZ.out]; exact Nat.le_refl _))
    clear k2 m2
    go_wp2_with (refine wpList_store_row rfl rfl 25 (.tmp 6) (.tmp 22) rfl w.heap.size 25 _ #[.int .i64 0, .slice a2 n2 c2, .slice none 0 0] rfl rfl B2.out rfl (three_one rfl rfl rfl) infoCh3c ?_; intro w5 b5 g5 kp5)
    refine bodyPost_ret (results_cell_tmp rfl _ _ w.heap.size _ _ (0, 0) _ _ rfl b5 Tryz.underlying25 rfl infoCh3c rfl) rfl ?_
    exact ⟨⟨_, _, rfl, HC.out _ _ (o2.stepNew g5 M2.out)⟩, kp5 _ K2.out (Nat.le_refl _)⟩
  · obtain ⟨rfl, rfl⟩ := HN.out he
    clear HN he
    go_enter Tryz.func10, Tryz.ntmps10
    go_wp2_with (first | (rw [HW.out]) | fail)
    refine HL.out.mono ?_
    rintro _ w2 ⟨⟨u, rfl, o2, m2⟩, k2⟩
    have B2 := Lib.hid (HB.out.kp k2)
    have K2 := Lib.hid (K1.out.trans k2)
    clear k2 m2
    go_wp2_with (refine wpList_store_row rfl rfl 25 (.tmp 6) (.tmp 19) rfl w.heap.size 25 _ #[.int .i64 0, .slice none 0 0, .slice none 0 0] rfl rfl B2.out rfl (three_one rfl rfl rfl) infoCh3c ?_; intro w5 b5 g5 kp5)
    refine bodyPost_ret (results_cell_tmp rfl _ _ w.heap.size _ _ (0, 0) _ _ rfl b5 Tryz.underlying25 rfl infoCh3c rfl) rfl ?_
    exact ⟨⟨_, _, rfl, HC.out _ _ (rd_nil _)⟩, kp5 _ K2.out (Nat.le_refl _)⟩
def leastP (c : Ch) (k : Nat) : Int := if k = 0 then 0 else (lkAt c.spare (k - 1)).pos + 1
theorem okAt_least {c : Ch} {k : Nat} (h0 : 0 ≤ leastP c k) : okAt c k ↔ leastP c k ≤ (lkAt c.spare k).pos ∧ (lkAt c.spare k).pos < c.next ∧ (lkAt c.spare k).key.length = 32 ∧ (lkAt c.spare k).non.length = 12 := by
  unfold okAt Lk.ok
  unfold leastP at *
  split
  · next h =>
    subst h
    exact ⟨fun h => ⟨h.1.1, h.1.2.1, h.1.2.2⟩, fun h => ⟨⟨h.1, h.2.1, h.2.2⟩, fun h => absurd h (by omega)⟩⟩
  · next h =>
    rw [if_neg h] at h0
    exact ⟨fun h2 => ⟨by have := h2.2 (by omega); omega, h2.1.2.1, h2.1.2.2⟩, fun h2 => ⟨⟨by omega, h2.2.1, h2.2.2⟩, fun _ => by omega⟩⟩
theorem leastP_next {c : Ch} {k : Nat} : leastP c (k + 1) = (lkAt c.spare k).pos + 1 := by
  unfold leastP
  rw [if_neg (by omega), Nat.add_sub_cancel]
set_option maxRecDepth 100000 in
set_option maxHeartbeats 2000000 in
theorem ratchRight_any (x y : Value) (c : Ch) (w : World) (h : CIn w x y c) :
    Calls Tryz.prog 14 #[.agg #[.int .i64 c.next, x, y]] w fun e w' => Tells e c.ok ∧ Kp w w' := by
  obtain ⟨a1, c1, rfl, _, _⟩ := h.sec.shape
  obtain ⟨a2, c2, rfl, q2, s2⟩ := h.spare.shape
  have HU := Lib.hid h.spare
  have HOK := Lib.hid (ok_iff c)
  have HLE : Hid (∀ k, 0 ≤ leastP c k → (okAt c k ↔ leastP c k ≤ (lkAt c.spare k).pos ∧ (lkAt c.spare k).pos < c.next ∧ (lkAt c.spare k).key.length = 32 ∧ (lkAt c.spare k).non.length = 12)) := fun k => okAt_least
  have HLN : Hid (∀ k, leastP c (k + 1) = (lkAt c.spare k).pos + 1) := fun k => leastP_next
  have HL0 : Hid (leastP c 0 = 0) := rfl
  generalize c.ok = P at *
  generalize leastP c = LE at *
  obtain ⟨NX, hNX⟩ : ∃ n, c.next = n := ⟨_, rfl⟩
  obtain ⟨L, hL⟩ : ∃ L, c.sec.length = L := ⟨_, rfl⟩
  obtain ⟨N, hN⟩ : ∃ N, c.spare.length = N := ⟨_, rfl⟩
  have HNN := Lib.hid hN
  rw [hL, hN, hNX] at HOK
  rw [hL, hNX]
  rw [hNX] at HLE
  rw [hN] at q2 HU ⊢
  clear h hL hN hNX
  obtain ⟨w1, hw1⟩ : ∃ w1, w.alloc (.cells #[.int .i64 NX, .slice a1 L c1, .slice a2 N c2] 25) = w1 := ⟨_, rfl⟩
  have hb : Bx w1 w.heap.size 25 #[.int .i64 NX, .slice a1 L c1, .slice a2 N c2] := by rw [← hw1]; exact Bx.new w _ _
  have hk1 : Kp w w1 := by rw [← hw1]; exact (Kp.refl _).alloc _
  have d0 : w1.cell? ⟨w.heap.size, 0, none⟩ = some (.int .i64 NX) := hb.cell 0
  have d1 : w1.cell? ⟨w.heap.size, 1, none⟩ = some (.slice a1 L c1) := hb.cell 1
  have d2 : w1.cell? ⟨w.heap.size, 2, none⟩ = some (.slice a2 N c2) := hb.cell 2
  have HC : Hid (∀ W, Kp w1 W → W.cell? ⟨w.heap.size, 0, none⟩ = some (.int .i64 NX) ∧ W.cell? ⟨w.heap.size, 2, none⟩ = some (.slice a2 N c2)) := fun W hW => ⟨hW.cell (hb.cell 0), hW.cell (hb.cell 2)⟩
  have K1 := Lib.hid hk1
  have HW := Lib.hid hw1
  clear hb hk1 hw1
  by_cases h1 : NX < 0
  · have HB : Hid (¬ P) := fun h => by have := (HOK.out.1 h).1; omega
    clear HOK HLE HLN HL0
    go_enter Tryz.func14, Tryz.ntmps14
    go_wp2_with (first | (rw [HW.out]) | fail)
    go_ret
    exact ⟨Tells.no HB.out, K1.out⟩
  by_cases h2 : 4294967294 < NX
  · have HB : Hid (¬ P) := fun h => by have := (HOK.out.1 h).2.1; omega
    clear HOK HLE HLN HL0
    go_enter Tryz.func14, Tryz.ntmps14
    go_wp2_with (first | (rw [HW.out]) | fail)
    go_ret
    exact ⟨Tells.no HB.out, K1.out⟩
  by_cases h3 : L = 32
  · subst h3
    by_cases h4 : 32 < N
    · have HB : Hid (¬ P) := fun h => by have := (HOK.out.1 h).2.2.2.1; omega
      have h5 : (32 : Int) < (N : Int) := by omega
      clear HOK HLE HLN HL0
      go_enter Tryz.func14, Tryz.ntmps14
      go_wp2_with (first | (rw [HW.out]) | fail)
      go_ret
      exact ⟨Tells.no HB.out, K1.out⟩
    · have h5 : ¬ (32 : Int) < (N : Int) := by omega
      have HNO : Hid (∀ k, k < N → ¬ okAt c k → ¬ P) := fun k hk h hp => h ((HOK.out.1 hp).2.2.2.2 k hk)
      have HYES : Hid ((∀ k, k < N → okAt c k) → P) := fun h => HOK.out.2 ⟨by omega, by omega, rfl, by omega, h⟩
      have HU1 := Lib.hid (HU.out.kp K1.out)
      clear HOK HU
      go_enter Tryz.func14, Tryz.ntmps14
      go_wp2_with (first | (rw [HW.out]) | fail)
      clear d0 d1 d2
      go_loopw [3, 29] (fun ls i wr => ∃ k : Nat, k ≤ N ∧ i = .int .i64 (k : Int) ∧ ls = .int .i64 (LE k) ∧ 0 ≤ LE k ∧ (∀ j, j < k → okAt c j) ∧ Kp w1 wr) (fun _ i _ => (N - (intOf i).toNat))
      case atStart => exact ⟨0, Nat.zero_le _, rfl, by rw [HL0.out], by rw [HL0.out]; omega, fun t h => by omega, Kp.refl _⟩
      case round =>
        obtain ⟨k, hk, rfl, rfl, hle0, hpre, hkp⟩ := hrel
        have HPR := Lib.hid hpre
        have KK := Lib.hid hkp
        obtain ⟨d0, d2⟩ := HC.out wr hkp
        clear hpre hkp
        by_cases hlt : k < N
        · obtain ⟨b, off, cc, p, q, e, hb, e1, e2, e3, hp, hq⟩ := LL.node (i := k) (HU1.out.kp KK.out) (by rw [HNN.out]; exact hlt)
          rw [HNN.out] at e
          simp only [Value.slice.injEq] at e
          obtain ⟨rfl, _, rfl⟩ := e
          have i1 : IntKind.i64.wrap ((k : Int) + 1) = (k : Int) + 1 := IntWalk.i64_in _ (by omega)
          have i3 : (k : Int) < (N : Int) := by omega
          have HNK := Lib.hid (HNO.out k hlt)
          have HA := Lib.hid (HLE.out k hle0)
          have HL1 := Lib.hid (HLN.out k)
          have HST : Hid (okAt c k → ∀ j, j < k + 1 → okAt c j) := fun h1 j hj => by
            rcases Nat.lt_or_ge j k with h6 | h6
            · exact HPR.out j h6
            · obtain rfl : j = k := by omega
              exact h1
          obtain ⟨ap, cp, rfl, _, _⟩ := hp.shape
          obtain ⟨aq, cq, rfl, _, _⟩ := hq.shape
          generalize okAt c k = OK at *
          generalize (lkAt c.spare k).key.length = LK at *
          generalize (lkAt c.spare k).non.length = LN at *
          generalize (lkAt c.spare k).pos = X at *
          generalize LE k = LS at *
          obtain ⟨wz, hwz⟩ : ∃ W, wr.alloc (.cells #[.int .i64 X, .slice ap LK cp, .slice aq LN cq] 43) = W := ⟨_, rfl⟩
          have BZ : Bx wz wr.heap.size 43 #[.int .i64 X, .slice ap LK cp, .slice aq LN cq] := by rw [← hwz]; exact Bx.new wr _ _
          have KZ : Kp wr wz := by rw [← hwz]; exact (Kp.refl _).alloc _
          have K5 := Lib.hid (KK.out.trans KZ)
          have KF := Lib.hid (K1.out.trans K5.out)
          obtain ⟨d3, d4⟩ := HC.out wz K5.out
          have f0 : wz.cell? ⟨wr.heap.size, 0, none⟩ = some (.int .i64 X) := BZ.cell 0
          have f1 : wz.cell? ⟨wr.heap.size, 1, none⟩ = some (.slice ap LK cp) := BZ.cell 1
          have f2 : wz.cell? ⟨wr.heap.size, 2, none⟩ = some (.slice aq LN cq) := BZ.cell 2
          have HWZ := Lib.hid hwz
          clear hp hq hwz HLE HLN HL0 HNO HYES HPR BZ KZ hb HC HU1 HW
          by_cases h6 : X < LS
          · have HB : Hid (¬ P) := HNK.out fun h => by have := (HA.out.1 h).1; omega
            clear HA HST HNK
            go_wp2_with (first | (rw [HWZ.out]) | fail)
            go_ret
            exact ⟨Tells.no HB.out, KF.out⟩
          by_cases h7 : NX ≤ X
          · have HB : Hid (¬ P) := HNK.out fun h => by have := (HA.out.1 h).2.1; omega
            clear HA HST HNK
            go_wp2_with (first | (rw [HWZ.out]) | fail)
            go_ret
            exact ⟨Tells.no HB.out, KF.out⟩
          by_cases h8 : LK = 32
          · subst h8
            by_cases h9 : LN = 12
            · subst h9
              have HX := Lib.hid (HST.out (HA.out.2 ⟨by omega, by omega, rfl, rfl⟩))
              have i2 : IntKind.i64.wrap (X + 1) = X + 1 := IntWalk.i64_in _ (by omega)
              have hx1 : Hid (0 ≤ X + 1) := by unfold Hid; omega
              clear HA HST HNK
              go_wp2_with (first | (rw [HWZ.out]) | fail)
              go_roundw
              case rel => exact ⟨k + 1, by omega, by go_num, by rw [HL1.out], by rw [HL1.out]; exact hx1.out, HX.out, K5.out⟩
              case measure => simp [intOf]; omega
            · have t1 : ((LN : Int) != 12) = true := bne_iff_ne.2 (by omega)
              have t2 : ¬ (LN : Int) = 12 := by omega
              have HB : Hid (¬ P) := HNK.out fun h => h9 (HA.out.1 h).2.2.2
              clear HA HST HNK
              go_wp2_with (first | (rw [HWZ.out]) | fail)
              go_ret
              exact ⟨Tells.no HB.out, KF.out⟩
          · have t1 : ((LK : Int) != 32) = true := bne_iff_ne.2 (by omega)
            have t2 : ¬ (LK : Int) = 32 := by omega
            have HB : Hid (¬ P) := HNK.out fun h => h8 (HA.out.1 h).2.2.1
            clear HA HST HNK
            go_wp2_with (first | (rw [HWZ.out]) | fail)
            go_ret
            exact ⟨Tells.no HB.out, KF.out⟩
        · obtain rfl : k = N := by omega
          have HB := Lib.hid (HYES.out HPR.out)
          go_wp2_with fail
          go_ret
          exact ⟨Tells.yes HB.out, K1.out.trans KK.out⟩
  · have HB : Hid (¬ P) := fun h => h3 (HOK.out.1 h).2.2.1
    have t1 : ((L : Int) != 32) = true := bne_iff_ne.2 (by omega)
    have t2 : ¬ (L : Int) = 32 := by omega
    clear HOK HLE HLN HL0
    go_enter Tryz.func14, Tryz.ntmps14
    go_wp2_with (first | (rw [HW.out]) | fail)
    go_ret
    exact ⟨Tells.no HB.out, K1.out⟩
end Go.Proofs.YtigpgcjbpoaclaaGreatDoor

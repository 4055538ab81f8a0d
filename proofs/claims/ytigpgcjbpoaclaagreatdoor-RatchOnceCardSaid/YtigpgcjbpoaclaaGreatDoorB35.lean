import Derived.Test.YtigpgcjbpoaclaaGreatDoorB31
import Derived.Test.YtigpgcjbpoaclaaGreatDoorB34
import Derived.Deep.RegionHeld3
set_option linter.unusedVariables false
set_option linter.unusedSimpArgs false
namespace Go.Proofs.YtigpgcjbpoaclaaGreatDoor
open Go.RowKit
theorem infoCh3 : (Tryz.prog.info? 25).map (·.size) = some (#[Value.int .i64 0, .slice none 0 0, .slice none 0 0] : Array Value).size := by kernel_rfl
set_option maxHeartbeats 2000000 in
theorem refStart13_any (v : Value) (send : List UInt8) (n i : Int) (w : World) (h : Rd w v send) (hn : -9223372036854775808 ≤ n ∧ n ≤ 9223372036854775807) (hi : -9223372036854775808 ≤ i ∧ i ≤ 9223372036854775807) :
    Calls Tryz.prog 11 #[v, .int .i64 n, .int .i64 i] w fun e w' => (∃ x y, e = .returned (.tuple #[.agg #[.int .i64 0, x, y], .int .i64 (leafE send n i)]) ∧ CIn w' x y (startC send n i)) ∧ Kp w w' := by
  obtain ⟨w1, hw1⟩ : ∃ w1, w.alloc (.cells #[.int .i64 0, .slice none 0 0, .slice none 0 0] 25) = w1 := ⟨_, rfl⟩
  have hb : Bx w1 w.heap.size 25 #[.int .i64 0, .slice none 0 0, .slice none 0 0] := by rw [← hw1]; exact Bx.new w _ _
  have hk1 : Kp w w1 := by rw [← hw1]; exact (Kp.refl _).alloc _
  have HSZ : Hid (w1.heap.size = w.heap.size + 1) := by rw [← hw1]; exact World.size_alloc _ _
  have HL := Lib.hid (refLeaf13_any v send n i w1 (h.kp hk1) hn hi)
  have HC : Hid (∀ W x, Rd W x (leafR send n i) → CIn W x (.slice none 0 0) (startC send n i)) := fun W x hx => ⟨hx, GL.nil W⟩
  have HN : Hid (leafE send n i ≠ 0 → leafE send n i = 1 ∧ leafR send n i = []) := fun h => by
    by_cases h2 : leafOk send n i
    · exact absurd (if_pos h2) h
    · exact leaf_no h2
  obtain ⟨a1, n1, c1, rfl⟩ := h.sl
  have HB := Lib.hid hb
  have K1 := Lib.hid hk1
  have HW := Lib.hid hw1
  generalize leafE send n i = E at *
  generalize leafR send n i = R at *
  clear h hb hk1 hw1 hn hi
  by_cases he : E = 0
  · subst he
    clear HN
    go_enter Tryz.func11, Tryz.ntmps11
    go_wp2_with (first | (rw [HW.out]) | fail)
    refine HL.out.mono ?_
    rintro _ w2 ⟨⟨u, rfl, o2, m2⟩, k2⟩
    obtain ⟨a2, n2, c2, rfl⟩ := o2.sl
    have B2 := Lib.hid (HB.out.kp k2)
    have K2 := Lib.hid (K1.out.trans k2)
    have M2 := Lib.hid (show Newer (w.heap.size + 1) (.slice a2 n2 c2) from m2.mono (by rw [HSZ.out]; exact Nat.le_refl _))
    clear k2 m2
    go_wp2_with (refine wpList_store_row rfl rfl 25 (.tmp 6) (.tmp 22) rfl w.heap.size 25 _ #[.int .i64 0, .slice a2 n2 c2, .slice none 0 0] rfl rfl B2.out rfl (three_one rfl rfl rfl) infoCh3 ?_; intro w5 b5 g5 kp5)
    refine bodyPost_ret (results_cell_tmp rfl _ _ w.heap.size _ _ (0, 0) _ _ rfl b5 Tryz.underlying25 rfl infoCh3 rfl) rfl ?_
    exact ⟨⟨_, _, rfl, HC.out _ _ (o2.stepNew g5 M2.out)⟩, kp5 _ K2.out (Nat.le_refl _)⟩
  · obtain ⟨rfl, rfl⟩ := HN.out he
    clear HN he
    go_enter Tryz.func11, Tryz.ntmps11
    go_wp2_with (first | (rw [HW.out]) | fail)
    refine HL.out.mono ?_
    rintro _ w2 ⟨⟨u, rfl, o2, m2⟩, k2⟩
    have B2 := Lib.hid (HB.out.kp k2)
    have K2 := Lib.hid (K1.out.trans k2)
    clear k2 m2
    go_wp2_with (refine wpList_store_row rfl rfl 25 (.tmp 6) (.tmp 19) rfl w.heap.size 25 _ #[.int .i64 0, .slice none 0 0, .slice none 0 0] rfl rfl B2.out rfl (three_one rfl rfl rfl) infoCh3 ?_; intro w5 b5 g5 kp5)
    refine bodyPost_ret (results_cell_tmp rfl _ _ w.heap.size _ _ (0, 0) _ _ rfl b5 Tryz.underlying25 rfl infoCh3 rfl) rfl ?_
    exact ⟨⟨_, _, rfl, HC.out _ _ (rd_nil _)⟩, kp5 _ K2.out (Nat.le_refl _)⟩
def okAt (c : Ch) (k : Nat) : Prop := (lkAt c.spare k).ok c.next ∧ (0 < k → (lkAt c.spare (k - 1)).pos < (lkAt c.spare k).pos)
theorem ok_iff (c : Ch) : c.ok ↔ 0 ≤ c.next ∧ c.next ≤ 4294967294 ∧ c.sec.length = 32 ∧ c.spare.length ≤ 32 ∧ ∀ k, k < c.spare.length → okAt c k := by
  constructor
  · intro h
    refine ⟨h.lo, h.hi, h.sec, h.few, fun k hk => ⟨h.each k hk, fun h0 => ?_⟩⟩
    have := h.rise (k - 1) (by omega)
    rwa [show k - 1 + 1 = k by omega] at this
  · rintro ⟨a, b, d, e, f⟩
    exact ⟨a, b, d, e, fun i hi => (f i hi).1, fun i hi => (f (i + 1) hi).2 (by omega)⟩
set_option maxRecDepth 100000 in
set_option maxHeartbeats 2000000 in
theorem refRight13_any (x y : Value) (c : Ch) (w : World) (h : CIn w x y c) :
    Calls Tryz.prog 15 #[.agg #[.int .i64 c.next, x, y]] w fun e w' => Tells e c.ok ∧ Kp w w' := by
  obtain ⟨a1, c1, rfl, _, _⟩ := h.sec.shape
  obtain ⟨a2, c2, rfl, q2, s2⟩ := h.spare.shape
  have HU := Lib.hid h.spare
  have HOK := Lib.hid (ok_iff c)
  generalize c.ok = P at *
  obtain ⟨NX, hNX⟩ : ∃ n, c.next = n := ⟨_, rfl⟩
  obtain ⟨L, hL⟩ : ∃ L, c.sec.length = L := ⟨_, rfl⟩
  obtain ⟨N, hN⟩ : ∃ N, c.spare.length = N := ⟨_, rfl⟩
  have HLN := Lib.hid hN
  rw [hL, hN, hNX] at HOK
  rw [hL, hNX]
  rw [hN] at q2 HU ⊢
  have HAT : Hid (∀ k, okAt c k ↔ (0 ≤ (lkAt c.spare k).pos ∧ (lkAt c.spare k).pos < NX ∧ (lkAt c.spare k).key.length = 32 ∧ (lkAt c.spare k).non.length = 12) ∧ (0 < k → (lkAt c.spare (k - 1)).pos < (lkAt c.spare k).pos)) := fun k => by rw [← hNX]; exact Iff.rfl
  clear h hL hN hNX
  obtain ⟨w1, hw1⟩ : ∃ w1, w.alloc (.cells #[.int .i64 NX, .slice a1 L c1, .slice a2 N c2] 25) = w1 := ⟨_, rfl⟩
  have hb : Bx w1 w.heap.size 25 #[.int .i64 NX, .slice a1 L c1, .slice a2 N c2] := by rw [← hw1]; exact Bx.new w _ _
  have hk1 : Kp w w1 := by rw [← hw1]; exact (Kp.refl _).alloc _
  have d0 : w1.cell? ⟨w.heap.size, 0, none⟩ = some (.int .i64 NX) := hb.cell 0
  have d1 : w1.cell? ⟨w.heap.size, 1, none⟩ = some (.slice a1 L c1) := hb.cell 1
  have d2 : w1.cell? ⟨w.heap.size, 2, none⟩ = some (.slice a2 N c2) := hb.cell 2
  have HC : Hid (∀ W, Kp w1 W → W.cell? ⟨w.heap.size, 0, none⟩ = some (.int .i64 NX) ∧ W.cell? ⟨w.heap.size, 2, none⟩ = some (.slice a2 N c2)) := fun W hW => ⟨hW.cell (hb.cell 0), hW.cell (hb.cell 2)⟩
  have K1 := Lib.hid hk1
  have HW := Lib.hid hw1
  clear hb hk1 hw1
  by_cases h1 : NX < 0
  · have HB : Hid (¬ P) := fun h => by have := (HOK.out.1 h).1; omega
    clear HOK HAT
    go_enter Tryz.func15, Tryz.ntmps15
    go_wp2_with (first | (rw [HW.out]) | fail)
    go_ret
    exact ⟨Tells.no HB.out, K1.out⟩
  by_cases h2 : 4294967294 < NX
  · have HB : Hid (¬ P) := fun h => by have := (HOK.out.1 h).2.1; omega
    clear HOK HAT
    go_enter Tryz.func15, Tryz.ntmps15
    go_wp2_with (first | (rw [HW.out]) | fail)
    go_ret
    exact ⟨Tells.no HB.out, K1.out⟩
  by_cases h3 : L = 32
  · subst h3
    by_cases h4 : 32 < N
    · have HB : Hid (¬ P) := fun h => by have := (HOK.out.1 h).2.2.2.1; omega
      have h5 : (32 : Int) < (N : Int) := by omega
      clear HOK HAT
      go_enter Tryz.func15, Tryz.ntmps15
      go_wp2_with (first | (rw [HW.out]) | fail)
      go_ret
      exact ⟨Tells.no HB.out, K1.out⟩
    · have h5 : ¬ (32 : Int) < (N : Int) := by omega
      have HNO : Hid (∀ k, k < N → ¬ okAt c k → ¬ P) := fun k hk h hp => h ((HOK.out.1 hp).2.2.2.2 k hk)
      have HYES : Hid ((∀ k, k < N → okAt c k) → P) := fun h => HOK.out.2 ⟨by omega, by omega, rfl, by omega, h⟩
      have HU1 := Lib.hid (HU.out.kp K1.out)
      clear HOK HU
      go_enter Tryz.func15, Tryz.ntmps15
      go_wp2_with (first | (rw [HW.out]) | fail)
      clear d0 d1 d2
      go_loopw [3] (fun i wr => ∃ k : Nat, k ≤ N ∧ i = .int .i64 (k : Int) ∧ (∀ j, j < k → okAt c j) ∧ Kp w1 wr) (fun i _ => (N - (intOf i).toNat))
      case atStart => exact ⟨0, Nat.zero_le _, rfl, fun t h => by omega, Kp.refl _⟩
      case round =>
        obtain ⟨k, hk, rfl, hpre, hkp⟩ := hrel
        have HPR := Lib.hid hpre
        have KK := Lib.hid hkp
        obtain ⟨d0, d2⟩ := HC.out wr hkp
        clear hpre hkp
        by_cases hlt : k < N
        · obtain ⟨b, off, cc, p, q, e, hb, e1, e2, e3, hp, hq⟩ := LL.node (i := k) (HU1.out.kp KK.out) (by rw [HLN.out]; exact hlt)
          rw [HLN.out] at e
          simp only [Value.slice.injEq] at e
          obtain ⟨rfl, _, rfl⟩ := e
          have i1 : IntKind.i64.wrap ((k : Int) + 1) = (k : Int) + 1 := IntWalk.i64_in _ (by omega)
          have i3 : (k : Int) < (N : Int) := by omega
          have HNK := Lib.hid (HNO.out k hlt)
          have HA := Lib.hid (HAT.out k)
          have HST : Hid (okAt c k → ∀ j, j < k + 1 → okAt c j) := fun h1 j hj => by
            rcases Nat.lt_or_ge j k with h6 | h6
            · exact HPR.out j h6
            · obtain rfl : j = k := by omega
              exact h1
          have HPV : Hid (0 < k → wr.cell? ⟨b, off + (k - 1) * 3, none⟩ = some (.int .i64 (lkAt c.spare (k - 1)).pos)) := fun h0 => by
            obtain ⟨b', off', cc', p', q', e', hb', e1', _⟩ := LL.node (i := k - 1) (HU1.out.kp KK.out) (by rw [HLN.out]; omega)
            rw [HLN.out] at e'
            simp only [Value.slice.injEq, Option.some.injEq, Addr.mk.injEq] at e'
            obtain ⟨⟨rfl, rfl, _⟩, _⟩ := e'
            exact e1'
          obtain ⟨ap, cp, rfl, _, _⟩ := hp.shape
          obtain ⟨aq, cq, rfl, _, _⟩ := hq.shape
          obtain ⟨wz, hwz⟩ : ∃ W, wr.alloc (.cells #[.int .i64 0, .slice none 0 0, .slice none 0 0] 43) = W := ⟨_, rfl⟩
          have BZ : Hid (Bx wz wr.heap.size 43 #[.int .i64 0, .slice none 0 0, .slice none 0 0]) := by rw [← hwz]; exact Bx.new wr _ _
          have KZ : Hid (Kp wr wz) := by rw [← hwz]; exact (Kp.refl _).alloc _
          have HWZ := Lib.hid hwz
          generalize okAt c k = OK at *
          generalize (lkAt c.spare k).key.length = LK at *
          generalize (lkAt c.spare k).non.length = LN at *
          generalize (lkAt c.spare k).pos = X at *
          generalize (lkAt c.spare (k - 1)).pos = X0 at *
          obtain ⟨R, hR⟩ : ∃ R, wr.heap.size = R := ⟨_, rfl⟩
          have HRR := Lib.hid hR
          rw [hR] at BZ
          clear hp hq hwz hR HAT HNO HYES HPR
          go_wp2_with (first | (rw [HWZ.out]) | (refine wpList_store_row rfl rfl 43 (.tmp 4) (.tmp 36) rfl R 43 _ #[.int .i64 X, .slice ap LK cp, .slice aq LN cq] (by rw [HRR.out]; rfl) rfl BZ.out rfl (three_one rfl rfl rfl) infoLk3 ?_; intro w5 b5 g5 kp5) | fail)
          have KQ : Hid (Kp wr w5) := kp5 wr KZ.out (Nat.le_of_eq HRR.out)
          have K5 := Lib.hid (KK.out.trans KQ.out)
          have KF := Lib.hid (K1.out.trans K5.out)
          obtain ⟨d3, d4⟩ := HC.out w5 K5.out
          have f0 : w5.cell? ⟨wr.heap.size, 0, none⟩ = some (.int .i64 X) := by rw [HRR.out]; exact b5.cell 0
          have f1 : w5.cell? ⟨wr.heap.size, 1, none⟩ = some (.slice ap LK cp) := by rw [HRR.out]; exact b5.cell 1
          have f2 : w5.cell? ⟨wr.heap.size, 2, none⟩ = some (.slice aq LN cq) := by rw [HRR.out]; exact b5.cell 2
          clear d0 d2 e1 e2 e3 b5 g5 kp5 HWZ KZ BZ hb HC HU1 HW
          by_cases h6 : X < 0
          · have HB : Hid (¬ P) := HNK.out fun h => by have := (HA.out.1 h).1; omega
            clear HA HST HNK
            go_region
            go_wp2_with fail
            go_ret
            exact ⟨Tells.no HB.out, KF.out.drew⟩
          by_cases h7 : NX ≤ X
          · have HB : Hid (¬ P) := HNK.out fun h => by have := (HA.out.1 h).1; omega
            clear HA HST HNK
            go_region
            go_wp2_with fail
            go_ret
            exact ⟨Tells.no HB.out, KF.out.drew⟩
          by_cases h8 : LK = 32
          · subst h8
            by_cases h9 : LN = 12
            · subst h9
              by_cases h10 : k = 0
              · subst h10
                have HX := Lib.hid (HST.out (HA.out.2 ⟨⟨by omega, by omega, rfl, rfl⟩, fun h => by omega⟩))
                clear HA HST HNK
                go_region
                go_wp2_with fail
                go_roundw
                case rel => exact ⟨1, by omega, by go_num, HX.out, K5.out.drew⟩
                case measure => simp [intOf]; omega
              · have i4 : IntKind.i64.wrap ((k : Int) - 1) = ((k - 1 : Nat) : Int) := by rw [IntWalk.i64_in _ (by omega)]; omega
                have i5 : (0 : Int) < (k : Int) := by omega
                have t3 : decide ((0 : Int) < (k : Int)) = true := decide_eq_true i5
                have i5n : 0 < k := by omega
                have t3n : decide (0 < k) = true := decide_eq_true i5n
                have i6 : ((k - 1 : Nat) : Int) < (N : Int) := by omega
                have f3 := KQ.out.cell (HPV.out (by omega))
                generalize k - 1 = k1 at *
                by_cases h11 : X ≤ X0
                · have HB : Hid (¬ P) := HNK.out fun h => by have := (HA.out.1 h).2 (by omega); omega
                  clear HA HST HNK HPV
                  go_region
                  go_wp2_with fail
                  go_ret
                  exact ⟨Tells.no HB.out, KF.out.drew⟩
                · have HX := Lib.hid (HST.out (HA.out.2 ⟨⟨by omega, by omega, rfl, rfl⟩, fun h => by omega⟩))
                  clear HA HST HNK HPV
                  go_region
                  go_wp2_with fail
                  go_roundw
                  case rel => exact ⟨k + 1, by omega, by go_num, HX.out, K5.out.drew⟩
                  case measure => simp [intOf]; omega
            · have t1 : ((LN : Int) != 12) = true := bne_iff_ne.2 (by omega)
              have t2 : ¬ (LN : Int) = 12 := by omega
              have HB : Hid (¬ P) := HNK.out fun h => h9 (HA.out.1 h).1.2.2.2
              clear HA HST HNK
              go_region
              go_wp2_with fail
              go_ret
              exact ⟨Tells.no HB.out, KF.out.drew⟩
          · have t1 : ((LK : Int) != 32) = true := bne_iff_ne.2 (by omega)
            have t2 : ¬ (LK : Int) = 32 := by omega
            have HB : Hid (¬ P) := HNK.out fun h => h8 (HA.out.1 h).1.2.2.1
            clear HA HST HNK
            go_region
            go_wp2_with fail
            go_ret
            exact ⟨Tells.no HB.out, KF.out.drew⟩
        · obtain rfl : k = N := by omega
          have HB := Lib.hid (HYES.out HPR.out)
          go_wp2_with fail
          go_ret
          exact ⟨Tells.yes HB.out, K1.out.trans KK.out⟩
  · have HB : Hid (¬ P) := fun h => h3 (HOK.out.1 h).2.2.1
    have t1 : ((L : Int) != 32) = true := bne_iff_ne.2 (by omega)
    have t2 : ¬ (L : Int) = 32 := by omega
    clear HOK HAT
    go_enter Tryz.func15, Tryz.ntmps15
    go_wp2_with (first | (rw [HW.out]) | fail)
    go_ret
    exact ⟨Tells.no HB.out, K1.out⟩
end Go.Proofs.YtigpgcjbpoaclaaGreatDoor

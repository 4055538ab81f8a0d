import Derived.Test.YtigpgcjbpoaclaaGreatDoorB35
set_option linter.unusedVariables false
set_option linter.unusedSimpArgs false
namespace Go.Proofs.YtigpgcjbpoaclaaGreatDoor
open Go.RowKit
theorem Ch.ext' {a b : Ch} (h1 : a.next = b.next) (h2 : a.sec = b.sec) (h3 : a.spare = b.spare) : a = b := by cases a; cases b; simp_all
theorem lk_ext {a b : List Lk} (hl : a.length = b.length) (h : ∀ k, k < a.length → lkAt a k = lkAt b k) : a = b := by
  refine List.ext_getElem hl fun k h1 h2 => ?_
  have e := h k h1
  have e1 := lkAt_of h1
  have e2 := lkAt_of h2
  rw [List.getElem?_eq_getElem h1] at e1
  rw [List.getElem?_eq_getElem h2] at e2
  simp only [Option.some.injEq] at e1 e2
  rw [e1, e2, e]
set_option maxRecDepth 100000 in
set_option maxHeartbeats 2000000 in
theorem refSame13_any (x y x' y' : Value) (c d : Ch) (w : World) (hc : CIn w x y c) (hd : CIn w x' y' d) :
    Calls Tryz.prog 13 #[.agg #[.int .i64 c.next, x, y], .agg #[.int .i64 d.next, x', y']] w fun e w' => Tells e (c = d) ∧ Kp w w' := by
  have HSP := Lib.hid (fun W (hW : Kp w W) => same_any x x' _ _ W (hc.sec.kp hW) (hd.sec.kp hW))
  have HS := Lib.hid hc.spare
  have HT := Lib.hid hd.spare
  obtain ⟨a1, n1, c1, rfl⟩ := hc.sec.sl
  obtain ⟨a3, n3, c3, rfl⟩ := hd.sec.sl
  obtain ⟨a2, c2, rfl, q2, s2⟩ := hc.spare.shape
  obtain ⟨a4, c4, rfl, q4, s4⟩ := hd.spare.shape
  unfold maxLen at s2
  have HN0 : Hid (c.next ≠ d.next → ¬ c = d) := fun h e => h (by rw [e])
  have HN1 : Hid (c.sec ≠ d.sec → ¬ c = d) := fun h e => h (by rw [e])
  have HN2 : Hid (c.spare.length ≠ d.spare.length → ¬ c = d) := fun h e => h (by rw [e])
  have HN3 : Hid (∀ k, lkAt c.spare k ≠ lkAt d.spare k → ¬ c = d) := fun k h e => h (by rw [e])
  have HY : Hid (c.next = d.next → c.sec = d.sec → c.spare.length = d.spare.length → (∀ k, k < c.spare.length → lkAt c.spare k = lkAt d.spare k) → c = d) := fun h0 h1 h2 h3 => Ch.ext' h0 h1 (lk_ext h2 h3)
  generalize (c = d) = P at *
  generalize c.next = X at *
  generalize d.next = Y at *
  generalize c.sec = PU at *
  generalize d.sec = QU at *
  generalize c.spare = A at *
  generalize d.spare = B at *
  obtain ⟨N, hN⟩ : ∃ N, A.length = N := ⟨_, rfl⟩
  obtain ⟨M, hM⟩ : ∃ N, B.length = N := ⟨_, rfl⟩
  have HN := Lib.hid hN
  have HM := Lib.hid hM
  rw [hN] at q2 HN2 HY HS ⊢
  rw [hM] at q4 HN2 HY HT ⊢
  clear hc hd hN hM
  obtain ⟨w1, hw1⟩ : ∃ w1, (w.alloc (.cells #[.int .i64 X, .slice a1 n1 c1, .slice a2 N c2] 25)).alloc (.cells #[.int .i64 Y, .slice a3 n3 c3, .slice a4 M c4] 25) = w1 := ⟨_, rfl⟩
  have hb : Bx w1 w.heap.size 25 #[.int .i64 X, .slice a1 n1 c1, .slice a2 N c2] := by rw [← hw1]; exact (Bx.new w _ _).kp ((Kp.refl _).alloc _)
  have hb2 : Bx w1 (w.heap.size + 1) 25 #[.int .i64 Y, .slice a3 n3 c3, .slice a4 M c4] := by
    rw [← hw1]
    have := Bx.new (w.alloc (.cells #[.int .i64 X, .slice a1 n1 c1, .slice a2 N c2] 25)) 25 #[.int .i64 Y, .slice a3 n3 c3, .slice a4 M c4]
    rwa [World.size_alloc] at this
  have hk1 : Kp w w1 := by rw [← hw1]; exact ((Kp.refl _).alloc _).alloc _
  have HC : Hid (∀ W, Kp w1 W → W.cell? ⟨w.heap.size, 2, none⟩ = some (.slice a2 N c2) ∧ W.cell? ⟨w.heap.size + 1, 2, none⟩ = some (.slice a4 M c4)) := fun W hW => ⟨hW.cell (hb.cell 2), hW.cell (hb2.cell 2)⟩
  have d0 : w1.cell? ⟨w.heap.size, 0, none⟩ = some (.int .i64 X) := hb.cell 0
  have d1 : w1.cell? ⟨w.heap.size, 1, none⟩ = some (.slice a1 n1 c1) := hb.cell 1
  have d2 : w1.cell? ⟨w.heap.size, 2, none⟩ = some (.slice a2 N c2) := hb.cell 2
  have e0 : w1.cell? ⟨w.heap.size + 1, 0, none⟩ = some (.int .i64 Y) := hb2.cell 0
  have e1 : w1.cell? ⟨w.heap.size + 1, 1, none⟩ = some (.slice a3 n3 c3) := hb2.cell 1
  have e2 : w1.cell? ⟨w.heap.size + 1, 2, none⟩ = some (.slice a4 M c4) := hb2.cell 2
  have K1 := Lib.hid hk1
  have HW := Lib.hid hw1
  clear hb hb2 hk1 hw1
  by_cases h0 : X = Y
  · have HY0 := Lib.hid (HY.out h0)
    have t1 : (X == Y) = true := beq_iff_eq.2 h0
    have t2 : (X != Y) = false := by simp [h0]
    clear HN0 HY h0
    by_cases hpu : PU = QU
    · rw [decide_eq_true hpu] at HSP
      have HY1 := Lib.hid (HY0.out hpu)
      clear HN1 HY0 hpu
      by_cases hNM : N = M
      · subst hNM
        have HY2 := Lib.hid (HY1.out rfl)
        have HS' := Lib.hid (HS.out.kp K1.out)
        have HT' := Lib.hid (HT.out.kp K1.out)
        clear HY1 HN2 HS HT
        go_enter Tryz.func13, Tryz.ntmps13
        go_wp2_with (first | (rw [HW.out]) | fail)
        refine (HSP.out w1 K1.out).mono ?_; rintro _ _ ⟨rfl, rfl⟩
        go_wp2_with fail
        clear d0 d1 d2 e0 e1 e2 HSP HW
        go_loopw [5] (fun i wr => ∃ k : Nat, k ≤ N ∧ i = .int .i64 (k : Int) ∧ (∀ t, t < k → lkAt A t = lkAt B t) ∧ Kp w1 wr) (fun i _ => (N - (intOf i).toNat))
        case atStart => exact ⟨0, Nat.zero_le _, rfl, fun t h => by omega, Kp.refl _⟩
        case round =>
          obtain ⟨k, hk, rfl, hpre, hkp⟩ := hrel
          have HPR := Lib.hid hpre
          have KK := Lib.hid hkp
          obtain ⟨wk, hwk⟩ : ∃ x : World, x = wr := ⟨_, rfl⟩
          subst hwk
          obtain ⟨d2, e2⟩ := HC.out _ hkp
          clear hpre hkp
          by_cases hlt : k < N
          · obtain ⟨b1, o1, cc1, p1, p2, f1, _, u0, u1, u2, r1, r2⟩ := LL.node (i := k) (HS'.out.kp KK.out) (by rw [HN.out]; exact hlt)
            obtain ⟨b2, o2, cc2, p3, p4, f2, _, v0, v1, v2, r3, r4⟩ := LL.node (i := k) (HT'.out.kp KK.out) (by rw [HM.out]; exact hlt)
            rw [HN.out] at f1
            rw [HM.out] at f2
            simp only [Value.slice.injEq] at f1 f2
            obtain ⟨rfl, _, rfl⟩ := f1
            obtain ⟨rfl, _, rfl⟩ := f2
            have i1 : IntKind.i64.wrap ((k : Int) + 1) = (k : Int) + 1 := IntWalk.i64_in _ (by omega)
            have i2 : (k : Int) < (N : Int) := by omega
            have HSL := Lib.hid (fun W (hW : Kp wk W) => refSameLock_any p1 p2 p3 p4 (lkAt A k) (lkAt B k) W ⟨r1.kp hW, r2.kp hW⟩ ⟨r3.kp hW, r4.kp hW⟩)
            have HNK : Hid (¬ (lkAt A k = lkAt B k) → ¬ P) := HN3.out k
            have HPK : Hid (lkAt A k = lkAt B k → ∀ t, t < k + 1 → lkAt A t = lkAt B t) := fun he t ht => by
              rcases Nat.lt_or_eq_of_le (Nat.lt_succ_iff.1 ht) with h3 | h3
              · exact HPR.out t h3
              · rw [h3]; exact he
            have HCC : Hid (∀ W, Kp wk W → W.cell? ⟨w.heap.size, 2, none⟩ = some (.slice (some ⟨b1, o1, none⟩) N c2) ∧ W.cell? ⟨w.heap.size + 1, 2, none⟩ = some (.slice (some ⟨b2, o2, none⟩) N c4) ∧ W.cell? ⟨b1, o1 + k * 3, none⟩ = some (.int .i64 (lkAt A k).pos) ∧ W.cell? ⟨b1, o1 + k * 3 + 1, none⟩ = some p1 ∧ W.cell? ⟨b1, o1 + k * 3 + 2, none⟩ = some p2 ∧ W.cell? ⟨b2, o2 + k * 3, none⟩ = some (.int .i64 (lkAt B k).pos) ∧ W.cell? ⟨b2, o2 + k * 3 + 1, none⟩ = some p3 ∧ W.cell? ⟨b2, o2 + k * 3 + 2, none⟩ = some p4) := fun W hW => ⟨hW.cell d2, hW.cell e2, hW.cell u0, hW.cell u1, hW.cell u2, hW.cell v0, hW.cell v1, hW.cell v2⟩
            generalize (lkAt A k = lkAt B k) = EQ at *
            generalize (lkAt A k).pos = X1 at *
            generalize (lkAt B k).pos = X2 at *
            obtain ⟨a5, n5, c5, rfl⟩ := r1.sl
            obtain ⟨a6, n6, c6, rfl⟩ := r2.sl
            obtain ⟨a7, n7, c7, rfl⟩ := r3.sl
            obtain ⟨a8, n8, c8, rfl⟩ := r4.sl
            have S0 := Lib.hid (HCC.out wk (Kp.refl _))
            clear r1 r2 r3 r4 HPR HN3 HY2 e2 u0 u1 u2 v0 v1 v2 HC HS' HT'
            go_wp2_with fail
            go_region_held3 (fun W => W.cell? ⟨w.heap.size, 2, none⟩ = some (.slice (some ⟨b1, o1, none⟩) N c2) ∧ W.cell? ⟨w.heap.size + 1, 2, none⟩ = some (.slice (some ⟨b2, o2, none⟩) N c4) ∧ W.cell? ⟨b1, o1 + k * 3, none⟩ = some (.int .i64 X1) ∧ W.cell? ⟨b1, o1 + k * 3 + 1, none⟩ = some (.slice a5 n5 c5) ∧ W.cell? ⟨b1, o1 + k * 3 + 2, none⟩ = some (.slice a6 n6 c6) ∧ W.cell? ⟨b2, o2 + k * 3, none⟩ = some (.int .i64 X2) ∧ W.cell? ⟨b2, o2 + k * 3 + 1, none⟩ = some (.slice a7 n7 c7) ∧ W.cell? ⟨b2, o2 + k * 3 + 2, none⟩ = some (.slice a8 n8 c8))
              (first | (with_reducible exact S9.out) | exact S0.out)
              (first | (go_at_call 19; refine (HSL.out _ (by first | exact Kp.refl _ | exact (Kp.refl _).drew)).mono ?_; rintro _ w9 ⟨⟨bb, rfl, hbb⟩, k9⟩; have K9 : Hid (Kp wk w9) := (by first | exact k9 | exact (Kp.refl wk).drew.trans k9); have S9 := Lib.hid (HCC.out w9 K9.out)))
            cases bb
            · have HB := Lib.hid (HNK.out fun h => by have := hbb.2 h; cases this)
              have KF := Lib.hid (K1.out.trans (KK.out.trans K9.out))
              go_wp2_with fail
              go_ret
              exact ⟨Tells.no HB.out, KF.out⟩
            · have HX := Lib.hid (HPK.out (hbb.1 rfl))
              have KF := Lib.hid (KK.out.trans K9.out)
              go_wp2_with fail
              go_roundw
              case rel => exact ⟨k + 1, by omega, by go_num, HX.out, KF.out⟩
              case measure => simp [intOf]; omega
          · obtain rfl : k = N := by omega
            have HB := Lib.hid (HY2.out HPR.out)
            go_wp2_with fail
            go_ret
            exact ⟨Tells.yes HB.out, K1.out.trans KK.out⟩
      · have HB := Lib.hid (HN2.out hNM)
        have t3 : ((N : Int) != (M : Int)) = true := bne_iff_ne.2 (by omega)
        have t4 : ((N : Int) == (M : Int)) = false := beq_eq_false_iff_ne.2 (by omega)
        clear HY1 HN2 HN3 hNM
        go_enter Tryz.func13, Tryz.ntmps13
        go_wp2_with (first | (rw [HW.out]) | fail)
        refine (HSP.out w1 K1.out).mono ?_; rintro _ _ ⟨rfl, rfl⟩
        go_wp2_with fail
        go_ret
        exact ⟨Tells.no HB.out, K1.out⟩
    · rw [decide_eq_false hpu] at HSP
      have HB := Lib.hid (HN1.out hpu)
      clear HY0 HN1 HN2 HN3 hpu
      go_enter Tryz.func13, Tryz.ntmps13
      go_wp2_with (first | (rw [HW.out]) | fail)
      refine (HSP.out w1 K1.out).mono ?_; rintro _ _ ⟨rfl, rfl⟩
      go_wp2_with fail
      go_ret
      exact ⟨Tells.no HB.out, K1.out⟩
  · have HB := Lib.hid (HN0.out h0)
    have t1 : (X == Y) = false := beq_eq_false_iff_ne.2 h0
    have t2 : (X != Y) = true := bne_iff_ne.2 h0
    clear HY HN0 HN1 HN2 HN3 h0
    go_enter Tryz.func13, Tryz.ntmps13
    go_wp2_with (first | (rw [HW.out]) | fail)
    go_ret
    exact ⟨Tells.no HB.out, K1.out⟩
end Go.Proofs.YtigpgcjbpoaclaaGreatDoor
namespace Go.Proofs.YtigpgcjbpoaclaaGreatDoor
open Go.RowKit Go.Maps
def TakenR (w0 : World) (c : Ch) (a : Int) (e : Ending) (w' : World) : Prop :=
  ∃ x y p q, e = .returned (.tuple #[.agg #[.int .i64 (takC c a).next, x, y], .agg #[.int .i64 (takL c a).pos, p, q], .int .i64 (takE c a)]) ∧ CIn w' x y (takC c a) ∧ LIn w' p q (takL c a) ∧ Kp w0 w'
theorem taken_bad {w0 : World} {c : Ch} {a : Int} {n : Int} {x y : Value} {w' : World} (h : takE c a = n) (hn : n ≠ 0) (hc : CIn w' x y c) (k : Kp w0 w') :
    TakenR w0 c a (.returned (.tuple #[.agg #[.int .i64 c.next, x, y], .agg #[.int .i64 0, .slice none 0 0, .slice none 0 0], .int .i64 n])) w' := by
  have hb := tak_bad (show takE c a ≠ 0 by rw [h]; exact hn)
  unfold TakenR
  rw [hb.1, hb.2, h]
  exact ⟨x, y, _, _, rfl, hc, LIn.none w', k⟩
theorem takE_neg {c : Ch} {a : Int} (h : a < 0) : takE c a = 1 := if_pos (.inl h)
theorem takE_far {c : Ch} {a : Int} (h : 4294967294 < a) : takE c a = 1 := if_pos (.inr h)
end Go.Proofs.YtigpgcjbpoaclaaGreatDoor

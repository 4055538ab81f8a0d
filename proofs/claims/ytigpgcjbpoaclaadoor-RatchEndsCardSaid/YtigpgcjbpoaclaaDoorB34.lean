import Derived.Test.YtigpgcjbpoaclaaDoorB22
import Derived.Test.YtigpgcjbpoaclaaDoorB32
import Derived.Deep.RegionHeld3
set_option linter.unusedVariables false
set_option linter.unusedSimpArgs false
namespace Go.Proofs.YtigpgcjbpoaclaaDoor
open Go.RowKit
theorem Lk.ext' {a b : Lk} (h1 : a.pos = b.pos) (h2 : a.key = b.key) (h3 : a.non = b.non) : a = b := by cases a; cases b; simp_all
set_option maxRecDepth 100000 in
set_option maxHeartbeats 2000000 in
theorem refSameLock_any (x y x' y' : Value) (k m : Lk) (w : World) (hk : LIn w x y k) (hm : LIn w x' y' m) :
    Calls Tryd.prog 14 #[.agg #[.int .i64 k.pos, x, y], .agg #[.int .i64 m.pos, x', y']] w fun e w' => Tells e (k = m) ∧ Kp w w' := by
  have HK := Lib.hid (fun W (hW : Kp w W) => same_any x x' _ _ W (hk.key.kp hW) (hm.key.kp hW))
  have HN := Lib.hid (fun W (hW : Kp w W) => same_any y y' _ _ W (hk.non.kp hW) (hm.non.kp hW))
  obtain ⟨a1, n1, c1, rfl⟩ := hk.key.sl
  obtain ⟨a2, n2, c2, rfl⟩ := hk.non.sl
  obtain ⟨a3, n3, c3, rfl⟩ := hm.key.sl
  obtain ⟨a4, n4, c4, rfl⟩ := hm.non.sl
  have H1 : Hid (k.pos ≠ m.pos → ¬ k = m) := fun h e => h (by rw [e])
  have H2 : Hid (k.key ≠ m.key → ¬ k = m) := fun h e => h (by rw [e])
  have H3 : Hid (k.non ≠ m.non → ¬ k = m) := fun h e => h (by rw [e])
  have HY : Hid (k.pos = m.pos → k.key = m.key → k.non = m.non → k = m) := fun h1 h2 h3 => Lk.ext' h1 h2 h3
  clear hk hm
  generalize (k = m) = P at *
  generalize k.key = KA at *
  generalize m.key = KB at *
  generalize k.non = NA at *
  generalize m.non = NB at *
  generalize k.pos = X at *
  generalize m.pos = Y at *
  obtain ⟨w1, hw1⟩ : ∃ w1, (w.alloc (.cells #[.int .i64 X, .slice a1 n1 c1, .slice a2 n2 c2] 37)).alloc (.cells #[.int .i64 Y, .slice a3 n3 c3, .slice a4 n4 c4] 37) = w1 := ⟨_, rfl⟩
  have hb : Bx w1 w.heap.size 37 #[.int .i64 X, .slice a1 n1 c1, .slice a2 n2 c2] := by rw [← hw1]; exact (Bx.new w _ _).kp ((Kp.refl _).alloc _)
  have hb2 : Bx w1 (w.heap.size + 1) 37 #[.int .i64 Y, .slice a3 n3 c3, .slice a4 n4 c4] := by
    rw [← hw1]
    have := Bx.new (w.alloc (.cells #[.int .i64 X, .slice a1 n1 c1, .slice a2 n2 c2] 37)) 37 #[.int .i64 Y, .slice a3 n3 c3, .slice a4 n4 c4]
    rwa [World.size_alloc] at this
  have hk1 : Kp w w1 := by rw [← hw1]; exact ((Kp.refl _).alloc _).alloc _
  have K1 := Lib.hid hk1
  have d0 : w1.cell? ⟨w.heap.size, 0, none⟩ = some (.int .i64 X) := hb.cell 0
  have d1 : w1.cell? ⟨w.heap.size, 1, none⟩ = some (.slice a1 n1 c1) := hb.cell 1
  have d2 : w1.cell? ⟨w.heap.size, 2, none⟩ = some (.slice a2 n2 c2) := hb.cell 2
  have e0 : w1.cell? ⟨w.heap.size + 1, 0, none⟩ = some (.int .i64 Y) := hb2.cell 0
  have e1 : w1.cell? ⟨w.heap.size + 1, 1, none⟩ = some (.slice a3 n3 c3) := hb2.cell 1
  have e2 : w1.cell? ⟨w.heap.size + 1, 2, none⟩ = some (.slice a4 n4 c4) := hb2.cell 2
  have HW := Lib.hid hw1
  clear hb hb2 hk1 hw1
  by_cases h1 : X = Y
  · have HY1 := Lib.hid (HY.out h1)
    have t1 : (X == Y) = true := beq_iff_eq.2 h1
    by_cases h2 : KA = KB
    · rw [decide_eq_true h2] at HK
      have HY2 := Lib.hid (HY1.out h2)
      by_cases h3 : NA = NB
      · rw [decide_eq_true h3] at HN
        have HB := Lib.hid (HY2.out h3)
        clear H1 H2 H3 HY HY1 HY2 h1 h2 h3
        go_enter Tryd.func14, Tryd.ntmps14
        go_wp2_with (first | (rw [HW.out]) | fail)
        refine (HK.out _ K1.out).mono ?_; rintro _ _ ⟨rfl, rfl⟩
        go_wp2_with fail
        refine (HN.out _ K1.out).mono ?_; rintro _ _ ⟨rfl, rfl⟩
        go_wp2_with fail
        go_ret
        exact ⟨Tells.yes HB.out, K1.out⟩
      · rw [decide_eq_false h3] at HN
        have HB := Lib.hid (H3.out h3)
        clear H1 H2 H3 HY HY1 HY2 h1 h2 h3
        go_enter Tryd.func14, Tryd.ntmps14
        go_wp2_with (first | (rw [HW.out]) | fail)
        refine (HK.out _ K1.out).mono ?_; rintro _ _ ⟨rfl, rfl⟩
        go_wp2_with fail
        refine (HN.out _ K1.out).mono ?_; rintro _ _ ⟨rfl, rfl⟩
        go_wp2_with fail
        go_ret
        exact ⟨Tells.no HB.out, K1.out⟩
    · rw [decide_eq_false h2] at HK
      have HB := Lib.hid (H2.out h2)
      clear H1 H2 H3 HY HY1 h1 h2
      go_enter Tryd.func14, Tryd.ntmps14
      go_wp2_with (first | (rw [HW.out]) | fail)
      refine (HK.out _ K1.out).mono ?_; rintro _ _ ⟨rfl, rfl⟩
      go_wp2_with fail
      go_ret
      exact ⟨Tells.no HB.out, K1.out⟩
  · have t1 : (X == Y) = false := beq_eq_false_iff_ne.2 h1
    have HB := Lib.hid (H1.out h1)
    clear H1 H2 H3 HY h1
    go_enter Tryd.func14, Tryd.ntmps14
    go_wp2_with (first | (rw [HW.out]) | fail)
    go_ret
    exact ⟨Tells.no HB.out, K1.out⟩
set_option maxRecDepth 100000 in
set_option maxHeartbeats 2000000 in
theorem refFew13_any (x y : Value) (c : Ch) (w : World) (h : CIn w x y c) :
    Calls Tryd.prog 11 #[.agg #[.int .i64 c.next, x, y]] w fun e w' => Tells e c.few13 ∧ Kp w w' := by
  obtain ⟨a1, c1, rfl, _, _⟩ := h.sec.shape
  obtain ⟨a2, c2, rfl, q2, s2⟩ := h.spare.shape
  have HU := Lib.hid h.spare
  have HN1 : Hid (40 < c.sec.length → ¬ c.few13) := fun h h2 => by have := h2.1; omega
  have HN2 : Hid (40 < c.spare.length → ¬ c.few13) := fun h h2 => by have := h2.2.1; omega
  have HN3 : Hid (∀ k, k < c.spare.length → (40 < (lkAt c.spare k).key.length ∨ 40 < (lkAt c.spare k).non.length) → ¬ c.few13) := fun k hk h h2 => by have := h2.2.2 k hk; omega
  have HYES : Hid (c.sec.length ≤ 40 → c.spare.length ≤ 40 → (∀ k, k < c.spare.length → (lkAt c.spare k).key.length ≤ 40 ∧ (lkAt c.spare k).non.length ≤ 40) → c.few13) := fun h1 h2 h3 => ⟨h1, h2, h3⟩
  generalize c.few13 = P at *
  generalize c.next = NX at *
  obtain ⟨L, hL⟩ : ∃ L, c.sec.length = L := ⟨_, rfl⟩
  obtain ⟨N, hN⟩ : ∃ N, c.spare.length = N := ⟨_, rfl⟩
  have HLN := Lib.hid hN
  rw [hL] at HN1 HYES ⊢
  rw [hN] at q2 HN2 HN3 HYES HU ⊢
  clear h hL hN
  obtain ⟨w1, hw1⟩ : ∃ w1, w.alloc (.cells #[.int .i64 NX, .slice a1 L c1, .slice a2 N c2] 34) = w1 := ⟨_, rfl⟩
  have hb : Bx w1 w.heap.size 34 #[.int .i64 NX, .slice a1 L c1, .slice a2 N c2] := by rw [← hw1]; exact Bx.new w _ _
  have hk1 : Kp w w1 := by rw [← hw1]; exact (Kp.refl _).alloc _
  have d1 : w1.cell? ⟨w.heap.size, 1, none⟩ = some (.slice a1 L c1) := hb.cell 1
  have d2 : w1.cell? ⟨w.heap.size, 2, none⟩ = some (.slice a2 N c2) := hb.cell 2
  have K1 := Lib.hid hk1
  have HW := Lib.hid hw1
  clear hb hk1 hw1
  by_cases h40 : 40 < L
  · have HB := Lib.hid (HN1.out h40)
    have h3 : (40 : Int) < (L : Int) := by omega
    clear HN1 HN2 HN3 HYES
    go_enter Tryd.func11, Tryd.ntmps11
    go_wp2_with (first | (rw [HW.out]) | fail)
    go_ret
    exact ⟨Tells.no HB.out, K1.out⟩
  · have h3 : ¬ (40 : Int) < (L : Int) := by omega
    have HY1 := Lib.hid (HYES.out (by omega))
    by_cases h4 : 40 < N
    · have HB := Lib.hid (HN2.out h4)
      have h5 : (40 : Int) < (N : Int) := by omega
      clear HN1 HN2 HN3 HYES HY1
      go_enter Tryd.func11, Tryd.ntmps11
      go_wp2_with (first | (rw [HW.out]) | fail)
      go_ret
      exact ⟨Tells.no HB.out, K1.out⟩
    · have h5 : ¬ (40 : Int) < (N : Int) := by omega
      have HY2 := Lib.hid (HY1.out (by omega))
      have HU1 := Lib.hid (HU.out.kp K1.out)
      clear HN1 HN2 HYES HY1 HU
      go_enter Tryd.func11, Tryd.ntmps11
      go_wp2_with (first | (rw [HW.out]) | fail)
      go_loop [3] (fun i => ∃ k : Nat, k ≤ N ∧ i = .int .i64 (k : Int) ∧ (∀ j, j < k → (lkAt c.spare j).key.length ≤ 40 ∧ (lkAt c.spare j).non.length ≤ 40)) (fun i => (N - (intOf i).toNat))
      case atStart => exact ⟨0, Nat.zero_le _, rfl, fun t h => by omega⟩
      case round =>
        obtain ⟨k, hk, rfl, hpre⟩ := hrel
        have HPR := Lib.hid hpre
        clear hpre
        by_cases hlt : k < N
        · obtain ⟨b, off, cc, p, q, e, hb, e1, e2, e3, hp, hq⟩ := LL.node (i := k) HU1.out (by rw [HLN.out]; exact hlt)
          rw [HLN.out] at e
          simp only [Value.slice.injEq] at e
          obtain ⟨rfl, _, rfl⟩ := e
          have i1 : IntKind.i64.wrap ((k : Int) + 1) = (k : Int) + 1 := IntWalk.i64_in _ (by omega)
          have i3 : (k : Int) < (N : Int) := by omega
          have HNK := Lib.hid (HN3.out k hlt)
          have HST : Hid ((lkAt c.spare k).key.length ≤ 40 → (lkAt c.spare k).non.length ≤ 40 → ∀ j, j < k + 1 → (lkAt c.spare j).key.length ≤ 40 ∧ (lkAt c.spare j).non.length ≤ 40) := fun h1 h2 j hj => by
            rcases Nat.lt_or_ge j k with h6 | h6
            · exact HPR.out j h6
            · obtain rfl : j = k := by omega
              exact ⟨h1, h2⟩
          obtain ⟨ap, cp, rfl, _, _⟩ := hp.shape
          obtain ⟨aq, cq, rfl, _, _⟩ := hq.shape
          generalize (lkAt c.spare k).key.length = LK at *
          generalize (lkAt c.spare k).non.length = LN at *
          clear hp hq e1
          by_cases h6 : 40 < LK
          · have HB := Lib.hid (HNK.out (.inl h6))
            have h7 : (40 : Int) < (LK : Int) := by omega
            clear HNK HST HY2
            go_wp2_with fail
            go_ret
            exact ⟨Tells.no HB.out, K1.out⟩
          · have h7 : ¬ (40 : Int) < (LK : Int) := by omega
            by_cases h8 : 40 < LN
            · have HB := Lib.hid (HNK.out (.inr h8))
              have h9 : (40 : Int) < (LN : Int) := by omega
              clear HNK HST HY2
              go_wp2_with fail
              go_ret
              exact ⟨Tells.no HB.out, K1.out⟩
            · have h9 : ¬ (40 : Int) < (LN : Int) := by omega
              have HX := Lib.hid (HST.out (by omega) (by omega))
              clear HNK HST HY2
              go_wp2_with fail
              go_roundw
              case rel => exact ⟨k + 1, by omega, by go_num, HX.out⟩
              case measure => simp [intOf]; omega
        · obtain rfl : k = N := by omega
          have HB := Lib.hid (HY2.out HPR.out)
          go_wp2_with fail
          go_ret
          exact ⟨Tells.yes HB.out, K1.out⟩
theorem infoCh3 : (Tryd.prog.info? 34).map (·.size) = some (#[Value.int .i64 0, .slice none 0 0, .slice none 0 0] : Array Value).size := by kernel_rfl
def okAt (c : Ch) (k : Nat) : Prop := (lkAt c.spare k).ok c.next ∧ (0 < k → (lkAt c.spare (k - 1)).pos < (lkAt c.spare k).pos)
theorem ok_iff (c : Ch) : c.ok ↔ 0 ≤ c.next ∧ c.next ≤ 4294967294 ∧ c.sec.length = 32 ∧ c.spare.length ≤ 32 ∧ ∀ k, k < c.spare.length → okAt c k := by
  constructor
  · intro h
    refine ⟨h.lo, h.hi, h.sec, h.few, fun k hk => ⟨h.each k hk, fun h0 => ?_⟩⟩
    have := h.rise (k - 1) (by omega)
    rwa [show k - 1 + 1 = k by omega] at this
  · rintro ⟨a, b, d, e, f⟩
    exact ⟨a, b, d, e, fun i hi => (f i hi).1, fun i hi => (f (i + 1) hi).2 (by omega)⟩
set_option maxRecDepth 100000 in
set_option maxHeartbeats 2000000 in
theorem refRight13_any (x y : Value) (c : Ch) (w : World) (h : CIn w x y c) :
    Calls Tryd.prog 12 #[.agg #[.int .i64 c.next, x, y]] w fun e w' => Tells e c.ok ∧ Kp w w' := by
  obtain ⟨a1, c1, rfl, _, _⟩ := h.sec.shape
  obtain ⟨a2, c2, rfl, q2, s2⟩ := h.spare.shape
  have HU := Lib.hid h.spare
  have HOK := Lib.hid (ok_iff c)
  generalize c.ok = P at *
  obtain ⟨NX, hNX⟩ : ∃ n, c.next = n := ⟨_, rfl⟩
  obtain ⟨L, hL⟩ : ∃ L, c.sec.length = L := ⟨_, rfl⟩
  obtain ⟨N, hN⟩ : ∃ N, c.spare.length = N := ⟨_, rfl⟩
  have HLN := Lib.hid hN
  rw [hL, hN, hNX] at HOK
  rw [hL, hNX]
  rw [hN] at q2 HU ⊢
  have HAT : Hid (∀ k, okAt c k ↔ (0 ≤ (lkAt c.spare k).pos ∧ (lkAt c.spare k).pos < NX ∧ (lkAt c.spare k).key.length = 32 ∧ (lkAt c.spare k).non.length = 12) ∧ (0 < k → (lkAt c.spare (k - 1)).pos < (lkAt c.spare k).pos)) := fun k => by rw [← hNX]; exact Iff.rfl
  clear h hL hN hNX
  obtain ⟨w1, hw1⟩ : ∃ w1, w.alloc (.cells #[.int .i64 NX, .slice a1 L c1, .slice a2 N c2] 34) = w1 := ⟨_, rfl⟩
  have hb : Bx w1 w.heap.size 34 #[.int .i64 NX, .slice a1 L c1, .slice a2 N c2] := by rw [← hw1]; exact Bx.new w _ _
  have hk1 : Kp w w1 := by rw [← hw1]; exact (Kp.refl _).alloc _
  have d0 : w1.cell? ⟨w.heap.size, 0, none⟩ = some (.int .i64 NX) := hb.cell 0
  have d1 : w1.cell? ⟨w.heap.size, 1, none⟩ = some (.slice a1 L c1) := hb.cell 1
  have d2 : w1.cell? ⟨w.heap.size, 2, none⟩ = some (.slice a2 N c2) := hb.cell 2
  have HC : Hid (∀ W, Kp w1 W → W.cell? ⟨w.heap.size, 0, none⟩ = some (.int .i64 NX) ∧ W.cell? ⟨w.heap.size, 2, none⟩ = some (.slice a2 N c2)) := fun W hW => ⟨hW.cell (hb.cell 0), hW.cell (hb.cell 2)⟩
  have K1 := Lib.hid hk1
  have HW := Lib.hid hw1
  clear hb hk1 hw1
  by_cases h1 : NX < 0
  · have HB : Hid (¬ P) := fun h => by have := (HOK.out.1 h).1; omega
    clear HOK HAT
    go_enter Tryd.func12, Tryd.ntmps12
    go_wp2_with (first | (rw [HW.out]) | fail)
    go_ret
    exact ⟨Tells.no HB.out, K1.out⟩
  by_cases h2 : 4294967294 < NX
  · have HB : Hid (¬ P) := fun h => by have := (HOK.out.1 h).2.1; omega
    clear HOK HAT
    go_enter Tryd.func12, Tryd.ntmps12
    go_wp2_with (first | (rw [HW.out]) | fail)
    go_ret
    exact ⟨Tells.no HB.out, K1.out⟩
  by_cases h3 : L = 32
  · subst h3
    by_cases h4 : 32 < N
    · have HB : Hid (¬ P) := fun h => by have := (HOK.out.1 h).2.2.2.1; omega
      have h5 : (32 : Int) < (N : Int) := by omega
      clear HOK HAT
      go_enter Tryd.func12, Tryd.ntmps12
      go_wp2_with (first | (rw [HW.out]) | fail)
      go_ret
      exact ⟨Tells.no HB.out, K1.out⟩
    · have h5 : ¬ (32 : Int) < (N : Int) := by omega
      have HNO : Hid (∀ k, k < N → ¬ okAt c k → ¬ P) := fun k hk h hp => h ((HOK.out.1 hp).2.2.2.2 k hk)
      have HYES : Hid ((∀ k, k < N → okAt c k) → P) := fun h => HOK.out.2 ⟨by omega, by omega, rfl, by omega, h⟩
      have HU1 := Lib.hid (HU.out.kp K1.out)
      clear HOK HU
      go_enter Tryd.func12, Tryd.ntmps12
      go_wp2_with (first | (rw [HW.out]) | fail)
      clear d0 d1 d2
      go_loopw [3] (fun i wr => ∃ k : Nat, k ≤ N ∧ i = .int .i64 (k : Int) ∧ (∀ j, j < k → okAt c j) ∧ Kp w1 wr) (fun i _ => (N - (intOf i).toNat))
      case atStart => exact ⟨0, Nat.zero_le _, rfl, fun t h => by omega, Kp.refl _⟩
      case round =>
        obtain ⟨k, hk, rfl, hpre, hkp⟩ := hrel
        have HPR := Lib.hid hpre
        have KK := Lib.hid hkp
        obtain ⟨d0, d2⟩ := HC.out wr hkp
        clear hpre hkp
        by_cases hlt : k < N
        · obtain ⟨b, off, cc, p, q, e, hb, e1, e2, e3, hp, hq⟩ := LL.node (i := k) (HU1.out.kp KK.out) (by rw [HLN.out]; exact hlt)
          rw [HLN.out] at e
          simp only [Value.slice.injEq] at e
          obtain ⟨rfl, _, rfl⟩ := e
          have i1 : IntKind.i64.wrap ((k : Int) + 1) = (k : Int) + 1 := IntWalk.i64_in _ (by omega)
          have i3 : (k : Int) < (N : Int) := by omega
          have HNK := Lib.hid (HNO.out k hlt)
          have HA := Lib.hid (HAT.out k)
          have HST : Hid (okAt c k → ∀ j, j < k + 1 → okAt c j) := fun h1 j hj => by
            rcases Nat.lt_or_ge j k with h6 | h6
            · exact HPR.out j h6
            · obtain rfl : j = k := by omega
              exact h1
          have HPV : Hid (0 < k → wr.cell? ⟨b, off + (k - 1) * 3, none⟩ = some (.int .i64 (lkAt c.spare (k - 1)).pos)) := fun h0 => by
            obtain ⟨b', off', cc', p', q', e', hb', e1', _⟩ := LL.node (i := k - 1) (HU1.out.kp KK.out) (by rw [HLN.out]; omega)
            rw [HLN.out] at e'
            simp only [Value.slice.injEq, Option.some.injEq, Addr.mk.injEq] at e'
            obtain ⟨⟨rfl, rfl, _⟩, _⟩ := e'
            exact e1'
          obtain ⟨ap, cp, rfl, _, _⟩ := hp.shape
          obtain ⟨aq, cq, rfl, _, _⟩ := hq.shape
          obtain ⟨wz, hwz⟩ : ∃ W, wr.alloc (.cells #[.int .i64 0, .slice none 0 0, .slice none 0 0] 37) = W := ⟨_, rfl⟩
          have BZ : Hid (Bx wz wr.heap.size 37 #[.int .i64 0, .slice none 0 0, .slice none 0 0]) := by rw [← hwz]; exact Bx.new wr _ _
          have KZ : Hid (Kp wr wz) := by rw [← hwz]; exact (Kp.refl _).alloc _
          have HWZ := Lib.hid hwz
          generalize okAt c k = OK at *
          generalize (lkAt c.spare k).key.length = LK at *
          generalize (lkAt c.spare k).non.length = LN at *
          generalize (lkAt c.spare k).pos = X at *
          generalize (lkAt c.spare (k - 1)).pos = X0 at *
          obtain ⟨R, hR⟩ : ∃ R, wr.heap.size = R := ⟨_, rfl⟩
          have HRR := Lib.hid hR
          rw [hR] at BZ
          clear hp hq hwz hR HAT HNO HYES HPR
          go_wp2_with (first | (rw [HWZ.out]) | (refine wpList_store_row rfl rfl 37 (.tmp 4) (.tmp 36) rfl R 37 _ #[.int .i64 X, .slice ap LK cp, .slice aq LN cq] (by rw [HRR.out]; rfl) rfl BZ.out rfl (three_one rfl rfl rfl) infoLk3 ?_; intro w5 b5 g5 kp5) | fail)
          have KQ : Hid (Kp wr w5) := kp5 wr KZ.out (Nat.le_of_eq HRR.out)
          have K5 := Lib.hid (KK.out.trans KQ.out)
          have KF := Lib.hid (K1.out.trans K5.out)
          obtain ⟨d3, d4⟩ := HC.out w5 K5.out
          have f0 : w5.cell? ⟨wr.heap.size, 0, none⟩ = some (.int .i64 X) := by rw [HRR.out]; exact b5.cell 0
          have f1 : w5.cell? ⟨wr.heap.size, 1, none⟩ = some (.slice ap LK cp) := by rw [HRR.out]; exact b5.cell 1
          have f2 : w5.cell? ⟨wr.heap.size, 2, none⟩ = some (.slice aq LN cq) := by rw [HRR.out]; exact b5.cell 2
          clear d0 d2 e1 e2 e3 b5 g5 kp5 HWZ KZ BZ hb HC HU1 HW
          by_cases h6 : X < 0
          · have HB : Hid (¬ P) := HNK.out fun h => by have := (HA.out.1 h).1; omega
            clear HA HST HNK
            go_region
            go_wp2_with fail
            go_ret
            exact ⟨Tells.no HB.out, KF.out.drew⟩
          by_cases h7 : NX ≤ X
          · have HB : Hid (¬ P) := HNK.out fun h => by have := (HA.out.1 h).1; omega
            clear HA HST HNK
            go_region
            go_wp2_with fail
            go_ret
            exact ⟨Tells.no HB.out, KF.out.drew⟩
          by_cases h8 : LK = 32
          · subst h8
            by_cases h9 : LN = 12
            · subst h9
              by_cases h10 : k = 0
              · subst h10
                have HX := Lib.hid (HST.out (HA.out.2 ⟨⟨by omega, by omega, rfl, rfl⟩, fun h => by omega⟩))
                clear HA HST HNK
                go_region
                go_wp2_with fail
                go_roundw
                case rel => exact ⟨1, by omega, by go_num, HX.out, K5.out.drew⟩
                case measure => simp [intOf]; omega
              · have i4 : IntKind.i64.wrap ((k : Int) - 1) = ((k - 1 : Nat) : Int) := by rw [IntWalk.i64_in _ (by omega)]; omega
                have i5 : (0 : Int) < (k : Int) := by omega
                have t3 : decide ((0 : Int) < (k : Int)) = true := decide_eq_true i5
                have i5n : 0 < k := by omega
                have t3n : decide (0 < k) = true := decide_eq_true i5n
                have i6 : ((k - 1 : Nat) : Int) < (N : Int) := by omega
                have f3 := KQ.out.cell (HPV.out (by omega))
                generalize k - 1 = k1 at *
                by_cases h11 : X ≤ X0
                · have HB : Hid (¬ P) := HNK.out fun h => by have := (HA.out.1 h).2 (by omega); omega
                  clear HA HST HNK HPV
                  go_region
                  go_wp2_with fail
                  go_ret
                  exact ⟨Tells.no HB.out, KF.out.drew⟩
                · have HX := Lib.hid (HST.out (HA.out.2 ⟨⟨by omega, by omega, rfl, rfl⟩, fun h => by omega⟩))
                  clear HA HST HNK HPV
                  go_region
                  go_wp2_with fail
                  go_roundw
                  case rel => exact ⟨k + 1, by omega, by go_num, HX.out, K5.out.drew⟩
                  case measure => simp [intOf]; omega
            · have t1 : ((LN : Int) != 12) = true := bne_iff_ne.2 (by omega)
              have t2 : ¬ (LN : Int) = 12 := by omega
              have HB : Hid (¬ P) := HNK.out fun h => h9 (HA.out.1 h).1.2.2.2
              clear HA HST HNK
              go_region
              go_wp2_with fail
              go_ret
              exact ⟨Tells.no HB.out, KF.out.drew⟩
          · have t1 : ((LK : Int) != 32) = true := bne_iff_ne.2 (by omega)
            have t2 : ¬ (LK : Int) = 32 := by omega
            have HB : Hid (¬ P) := HNK.out fun h => h8 (HA.out.1 h).1.2.2.1
            clear HA HST HNK
            go_region
            go_wp2_with fail
            go_ret
            exact ⟨Tells.no HB.out, KF.out.drew⟩
        · obtain rfl : k = N := by omega
          have HB := Lib.hid (HYES.out HPR.out)
          go_wp2_with fail
          go_ret
          exact ⟨Tells.yes HB.out, K1.out.trans KK.out⟩
  · have HB : Hid (¬ P) := fun h => h3 (HOK.out.1 h).2.2.1
    have t1 : ((L : Int) != 32) = true := bne_iff_ne.2 (by omega)
    have t2 : ¬ (L : Int) = 32 := by omega
    clear HOK HAT
    go_enter Tryd.func12, Tryd.ntmps12
    go_wp2_with (first | (rw [HW.out]) | fail)
    go_ret
    exact ⟨Tells.no HB.out, K1.out⟩
end Go.Proofs.YtigpgcjbpoaclaaDoor

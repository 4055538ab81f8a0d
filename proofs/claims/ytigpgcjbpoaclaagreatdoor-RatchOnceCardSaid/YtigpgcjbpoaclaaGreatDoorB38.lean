import Derived.Test.YtigpgcjbpoaclaaGreatDoorB37
set_option linter.unusedVariables false
set_option linter.unusedSimpArgs false
namespace Go.Proofs.YtigpgcjbpoaclaaGreatDoor
open Go.RowKit
theorem bytesEqual13_any (u v : Value) (l m : List UInt8) (w : World) (h : Rd w u l) (h' : Rd w v m) :
    Calls Tryz.prog 25 #[u, v] w fun e w' => e = .returned (.bool (decide (l = m))) ∧ w = w' := by
  have c1 := run_string_rd w 22 9 5 u l h Tryz.underlying22 Tryz.underlying5 Tryz.underlying9
  have c2 := run_string_rd w 22 9 5 v m h' Tryz.underlying22 Tryz.underlying5 Tryz.underlying9
  go_enter Tryz.func25, Tryz.ntmps25
  go_wp2
  go_ret
  exact ⟨by simp [Bool.beq_eq_decide_eq], rfl⟩
set_option maxRecDepth 100000 in
set_option maxHeartbeats 2000000 in
theorem ratchSameLock_any (x y x' y' : Value) (k m : Lk) (w : World) (hk : LIn w x y k) (hm : LIn w x' y' m) :
    Calls Tryz.prog 27 #[.agg #[.int .i64 k.pos, x, y], .agg #[.int .i64 m.pos, x', y']] w fun e w' => Tells e (k = m) ∧ Kp w w' := by
  have HK := Lib.hid (fun W (hW : Kp w W) => bytesEqual13_any x x' _ _ W (hk.key.kp hW) (hm.key.kp hW))
  have HN := Lib.hid (fun W (hW : Kp w W) => bytesEqual13_any y y' _ _ W (hk.non.kp hW) (hm.non.kp hW))
  obtain ⟨a1, n1, c1, rfl⟩ := hk.key.sl
  obtain ⟨a2, n2, c2, rfl⟩ := hk.non.sl
  obtain ⟨a3, n3, c3, rfl⟩ := hm.key.sl
  obtain ⟨a4, n4, c4, rfl⟩ := hm.non.sl
  have H1 : Hid (k.pos ≠ m.pos → ¬ k = m) := fun h e => h (by rw [e])
  have H2 : Hid (k.key ≠ m.key → ¬ k = m) := fun h e => h (by rw [e])
  have H3 : Hid (k.non ≠ m.non → ¬ k = m) := fun h e => h (by rw [e])
  have HY : Hid (k.pos = m.pos → k.key = m.key → k.non = m.non → k = m) := fun h1 h2 h3 => Lk.ext' h1 h2 h3
  clear hk hm
  generalize (k = m) = P at *
  generalize k.key = KA at *
  generalize m.key = KB at *
  generalize k.non = NA at *
  generalize m.non = NB at *
  generalize k.pos = X at *
  generalize m.pos = Y at *
  obtain ⟨w1, hw1⟩ : ∃ w1, (w.alloc (.cells #[.int .i64 X, .slice a1 n1 c1, .slice a2 n2 c2] 43)).alloc (.cells #[.int .i64 Y, .slice a3 n3 c3, .slice a4 n4 c4] 43) = w1 := ⟨_, rfl⟩
  have hb : Bx w1 w.heap.size 43 #[.int .i64 X, .slice a1 n1 c1, .slice a2 n2 c2] := by rw [← hw1]; exact (Bx.new w _ _).kp ((Kp.refl _).alloc _)
  have hb2 : Bx w1 (w.heap.size + 1) 43 #[.int .i64 Y, .slice a3 n3 c3, .slice a4 n4 c4] := by
    rw [← hw1]
    have := Bx.new (w.alloc (.cells #[.int .i64 X, .slice a1 n1 c1, .slice a2 n2 c2] 43)) 43 #[.int .i64 Y, .slice a3 n3 c3, .slice a4 n4 c4]
    rwa [World.size_alloc] at this
  have hk1 : Kp w w1 := by rw [← hw1]; exact ((Kp.refl _).alloc _).alloc _
  have K1 := Lib.hid hk1
  have d0 : w1.cell? ⟨w.heap.size, 0, none⟩ = some (.int .i64 X) := hb.cell 0
  have d1 : w1.cell? ⟨w.heap.size, 1, none⟩ = some (.slice a1 n1 c1) := hb.cell 1
  have d2 : w1.cell? ⟨w.heap.size, 2, none⟩ = some (.slice a2 n2 c2) := hb.cell 2
  have e0 : w1.cell? ⟨w.heap.size + 1, 0, none⟩ = some (.int .i64 Y) := hb2.cell 0
  have e1 : w1.cell? ⟨w.heap.size + 1, 1, none⟩ = some (.slice a3 n3 c3) := hb2.cell 1
  have e2 : w1.cell? ⟨w.heap.size + 1, 2, none⟩ = some (.slice a4 n4 c4) := hb2.cell 2
  have HW := Lib.hid hw1
  clear hb hb2 hk1 hw1
  by_cases h1 : X = Y
  · have HY1 := Lib.hid (HY.out h1)
    have t1 : (X == Y) = true := beq_iff_eq.2 h1
    by_cases h2 : KA = KB
    · rw [decide_eq_true h2] at HK
      have HY2 := Lib.hid (HY1.out h2)
      by_cases h3 : NA = NB
      · rw [decide_eq_true h3] at HN
        have HB := Lib.hid (HY2.out h3)
        clear H1 H2 H3 HY HY1 HY2 h1 h2 h3
        go_enter Tryz.func27, Tryz.ntmps27
        go_wp2_with (first | (rw [HW.out]) | fail)
        refine (HK.out _ K1.out).mono ?_; rintro _ _ ⟨rfl, rfl⟩
        go_wp2_with fail
        refine (HN.out _ K1.out).mono ?_; rintro _ _ ⟨rfl, rfl⟩
        go_wp2_with fail
        go_ret
        exact ⟨Tells.yes HB.out, K1.out⟩
      · rw [decide_eq_false h3] at HN
        have HB := Lib.hid (H3.out h3)
        clear H1 H2 H3 HY HY1 HY2 h1 h2 h3
        go_enter Tryz.func27, Tryz.ntmps27
        go_wp2_with (first | (rw [HW.out]) | fail)
        refine (HK.out _ K1.out).mono ?_; rintro _ _ ⟨rfl, rfl⟩
        go_wp2_with fail
        refine (HN.out _ K1.out).mono ?_; rintro _ _ ⟨rfl, rfl⟩
        go_wp2_with fail
        go_ret
        exact ⟨Tells.no HB.out, K1.out⟩
    · rw [decide_eq_false h2] at HK
      have HB := Lib.hid (H2.out h2)
      clear H1 H2 H3 HY HY1 h1 h2
      go_enter Tryz.func27, Tryz.ntmps27
      go_wp2_with (first | (rw [HW.out]) | fail)
      refine (HK.out _ K1.out).mono ?_; rintro _ _ ⟨rfl, rfl⟩
      go_wp2_with fail
      go_ret
      exact ⟨Tells.no HB.out, K1.out⟩
  · have t1 : (X == Y) = false := beq_eq_false_iff_ne.2 h1
    have HB := Lib.hid (H1.out h1)
    clear H1 H2 H3 HY h1
    go_enter Tryz.func27, Tryz.ntmps27
    go_wp2_with (first | (rw [HW.out]) | fail)
    go_ret
    exact ⟨Tells.no HB.out, K1.out⟩
theorem LL.nodeK {w : World} {v : Value} {l : List Lk} (h : LL w v l) {i : Nat} (hi : i < l.length) :
    ∃ b off c p q, v = .slice (some ⟨b, off, none⟩) l.length c ∧ b < w.heap.size ∧ ∀ W, Kp w W → W.cell? ⟨b, off + i * 3, none⟩ = some (.int .i64 (lkAt l i).pos) ∧ W.cell? ⟨b, off + i * 3 + 1, none⟩ = some p ∧ W.cell? ⟨b, off + i * 3 + 2, none⟩ = some q ∧ Rd W p (lkAt l i).key ∧ Rd W q (lkAt l i).non := by
  obtain ⟨b, off, c, p, q, e, hb, c0, c1, c2, r1, r2⟩ := h.node hi
  exact ⟨b, off, c, p, q, e, hb, fun W k => ⟨k.cell c0, k.cell c1, k.cell c2, r1.kp k, r2.kp k⟩⟩
set_option maxRecDepth 100000 in
set_option maxHeartbeats 1000000 in
theorem ratchEqualLocks_any (u v : Value) (t s : List Lk) (w : World) (hu : LL w u t) (hv : LL w v s) :
    Calls Tryz.prog 26 #[u, v, .func (.func 27) #[] #[]] w fun e w' => Tells e (t = s) ∧ Kp w w' := by
  obtain ⟨a1, c1, rfl, p1, s1⟩ := SE.shape hu
  obtain ⟨a2, c2, rfl, p2, s2⟩ := SE.shape hv
  unfold maxLen at s1 s2
  by_cases hlen : t.length = s.length
  · have HEQ : Hid (∀ k, k < t.length → ¬ lkAt t k = lkAt s k → ¬ t = s) := fun k hk hne h => hne (by rw [h])
    have HALL : Hid ((∀ k, k < t.length → lkAt t k = lkAt s k) → t = s) := fun h => lk_ext hlen h
    have HU := Lib.hid hu
    have HV := Lib.hid hv
    rw [← hlen] at HV p2 ⊢
    obtain ⟨N, hN⟩ : ∃ N, t.length = N := ⟨_, rfl⟩
    have HN := Lib.hid hN
    have HN2 : Hid (s.length = N) := hlen.symm.trans hN
    rw [hN] at HU HV p1 p2 HEQ HALL ⊢
    generalize (t = s) = EQ at *
    have HS := Lib.hid (And.intro s1 s2)
    clear hu hv hlen hN s1 s2
    go_enter Tryz.func26, Tryz.ntmps26
    go_wp2_with fail
    go_loopw [17] (fun i wr => ∃ k : Nat, k ≤ N ∧ i = .int .i64 (k : Int) ∧ (∀ j, j < k → lkAt t j = lkAt s j) ∧ Kp w wr) (fun i _ => (N - (intOf i).toNat))
    case atStart => exact ⟨0, Nat.zero_le _, rfl, fun t h => by omega, Kp.refl _⟩
    case round =>
      obtain ⟨k, hk, rfl, hpre, hkp⟩ := hrel
      by_cases hlt : k < N
      · obtain ⟨g1, o1, d1, x1, y1, q1, _, hc1⟩ := LL.nodeK (i := k) HU.out (by rw [HN.out]; exact hlt)
        obtain ⟨g2, o2, d2, x2, y2, q2, _, hc2⟩ := LL.nodeK (i := k) HV.out (by rw [HN2.out]; exact hlt)
        rw [HN.out] at q1
        rw [HN2.out] at q2
        simp only [Value.slice.injEq] at q1 q2
        obtain ⟨rfl, _, rfl⟩ := q1
        obtain ⟨rfl, _, rfl⟩ := q2
        obtain ⟨c10, c11, c12, m3, m4⟩ := hc1 wr hkp
        obtain ⟨xa, na, ca, rfl⟩ := m3.sl
        obtain ⟨xb, nb, cb, rfl⟩ := m4.sl
        obtain ⟨_, _, _, p3, p4⟩ := hc2 wr hkp
        obtain ⟨xc, nc, cc, rfl⟩ := p3.sl
        obtain ⟨xd, nd', cd, rfl⟩ := p4.sl
        obtain ⟨c20, c21, c22, _, _⟩ := hc2 (wr.alloc (.cells #[.int .i64 (lkAt t k).pos, .slice xa na ca, .slice xb nb cb] 43)) (hkp.alloc _)
        have HC := Lib.hid (fun W (hW : Kp wr W) => ratchSameLock_any _ _ _ _ (lkAt t k) (lkAt s k) W ⟨m3.kp hW, m4.kp hW⟩ ⟨p3.kp hW, p4.kp hW⟩)
        have HEQ2 := HEQ.out k hlt
        have HPRE : Hid (lkAt t k = lkAt s k → ∀ j, j < k + 1 → lkAt t j = lkAt s j) := fun he j hj => by
          rcases Nat.lt_or_eq_of_le (Nat.lt_succ_iff.1 hj) with h3 | h3
          · exact hpre j h3
          · rw [h3]; exact he
        have i1 : IntKind.i64.wrap ((k : Int) + 1) = (k : Int) + 1 := IntWalk.i64_in _ (by have := HS.out; omega)
        have i2 : (k : Int) < (N : Int) := by omega
        have KK := Lib.hid hkp
        clear hc1 hc2 HALL HEQ hpre hkp m3 m4 p3 p4
        generalize (lkAt t k = lkAt s k) = PE at *
        generalize (lkAt t k).pos = X1 at *
        generalize (lkAt s k).pos = X2 at *
        go_wp2_with fail
        refine (HC.out _ (((Kp.refl _).alloc _).alloc _)).mono ?_
        rintro _ w9 ⟨⟨bb, rfl, hb⟩, k9⟩
        have K9 := Lib.hid (KK.out.trans ((((Kp.refl _).alloc _).alloc _).trans k9))
        cases bb
        · have HP2 := Lib.hid (HEQ2 fun h => by cases hb.2 h)
          clear HPRE HEQ2 hb k9 HC c10 c11 c12 c20 c21 c22
          go_wp2_with fail
          go_ret
          exact ⟨Tells.no HP2.out, K9.out⟩
        · have HP2 := Lib.hid (HPRE.out (hb.1 rfl))
          clear HPRE HEQ2 hb k9 HC c10 c11 c12 c20 c21 c22
          go_wp2_with fail
          go_roundw
          case rel => exact ⟨k + 1, by omega, by first | rfl | (rw [i1]; rfl), HP2.out, K9.out⟩
          case measure => simp [intOf]; omega
      · obtain rfl : k = N := by omega
        have HB := Lib.hid (HALL.out hpre)
        have KK := Lib.hid hkp
        have i2 : ¬ (k : Int) < (k : Int) := by omega
        clear HALL HEQ hpre hkp
        go_wp2_with fail
        go_ret
        exact ⟨Tells.yes HB.out, KK.out⟩
  · have hne : ¬ (t.length : Int) = (s.length : Int) := by omega
    have hne2 : ((t.length : Int) != (s.length : Int)) = true := bne_iff_ne.2 hne
    have HN : Hid (¬ t = s) := fun h => hlen (by rw [h])
    clear hu hv hlen s1 s2
    go_enter Tryz.func26, Tryz.ntmps26
    go_wp2_with fail
    go_ret
    exact ⟨Tells.no HN.out, Kp.refl _⟩
set_option maxRecDepth 100000 in
set_option maxHeartbeats 1000000 in
theorem ratchSame_any (x y x' y' : Value) (c d : Ch) (w : World) (hc : CIn w x y c) (hd : CIn w x' y' d) :
    Calls Tryz.prog 16 #[.agg #[.int .i64 c.next, x, y], .agg #[.int .i64 d.next, x', y']] w fun e w' => Tells e (c = d) ∧ Kp w w' := by
  have H1 := Lib.hid (fun W (hW : Kp w W) => bytesEqual13_any x x' c.sec d.sec W (hc.sec.kp hW) (hd.sec.kp hW))
  have H2 : Hid (∀ W, Kp w W → Calls Tryz.prog 26 #[y, y', .func (.func 27) #[] #[]] W fun e w' => Tells e (c.spare = d.spare) ∧ Kp W w') := fun W hW => ratchEqualLocks_any y y' c.spare d.spare W (hc.spare.kp hW) (hd.spare.kp hW)
  have HN0 : Hid (c.next ≠ d.next → ¬ c = d) := fun h e => h (by rw [e])
  have HN1 : Hid (c.sec ≠ d.sec → ¬ c = d) := fun h e => h (by rw [e])
  have HN2 : Hid (¬ c.spare = d.spare → ¬ c = d) := fun h e => h (by rw [e])
  have HY : Hid (c.next = d.next → c.sec = d.sec → c.spare = d.spare → c = d) := Ch.ext'
  obtain ⟨a1, n1, c1, rfl⟩ := hc.sec.sl
  obtain ⟨a3, n3, c3, rfl⟩ := hd.sec.sl
  obtain ⟨a2, n2, c2, rfl⟩ := SE.sl hc.spare
  obtain ⟨a4, n4, c4, rfl⟩ := SE.sl hd.spare
  generalize (c = d) = P at *
  generalize (c.spare = d.spare) = P2 at *
  generalize c.sec = L1 at *
  generalize d.sec = L2 at *
  generalize c.next = X at *
  generalize d.next = Y at *
  clear hc hd
  obtain ⟨w1, hw1⟩ : ∃ w1, (w.alloc (.cells #[.int .i64 X, .slice a1 n1 c1, .slice a2 n2 c2] 25)).alloc (.cells #[.int .i64 Y, .slice a3 n3 c3, .slice a4 n4 c4] 25) = w1 := ⟨_, rfl⟩
  have hb : Bx w1 w.heap.size 25 #[.int .i64 X, .slice a1 n1 c1, .slice a2 n2 c2] := by rw [← hw1]; exact (Bx.new w _ _).kp ((Kp.refl _).alloc _)
  have hb2 : Bx w1 (w.heap.size + 1) 25 #[.int .i64 Y, .slice a3 n3 c3, .slice a4 n4 c4] := by
    rw [← hw1]
    have := Bx.new (w.alloc (.cells #[.int .i64 X, .slice a1 n1 c1, .slice a2 n2 c2] 25)) 25 #[.int .i64 Y, .slice a3 n3 c3, .slice a4 n4 c4]
    rwa [World.size_alloc] at this
  have K1 : Hid (Kp w w1) := by unfold Hid; rw [← hw1]; exact ((Kp.refl _).alloc _).alloc _
  have HBB := Lib.hid (And.intro hb hb2)
  have d0 := hb.cell 0
  have d1 := hb.cell 1
  have d2 := hb.cell 2
  have f0 := hb2.cell 0
  have f1 := hb2.cell 1
  have f2 := hb2.cell 2
  have HW := Lib.hid hw1
  simp only [List.getElem?_toArray, List.getElem?_cons_zero, List.getElem?_cons_succ] at d0 d1 d2 f0 f1 f2
  clear hb hb2 hw1
  by_cases h0 : X = Y
  · have HY0 := Lib.hid (HY.out h0)
    have t1 : (X == Y) = true := beq_iff_eq.2 h0
    by_cases q : L1 = L2
    · rw [decide_eq_true q] at H1
      have HY1 := Lib.hid (HY0.out q)
      clear HN0 HN1 HY HY0 q h0
      go_enter Tryz.func16, Tryz.ntmps16
      go_wp2_with (first | (rw [HW.out]) | fail)
      refine (H1.out w1 K1.out).mono ?_; rintro _ _ ⟨rfl, rfl⟩
      go_wp2_with fail
      refine (H2.out w1 K1.out).mono ?_; rintro _ w3 ⟨⟨bb, rfl, hb⟩, k3⟩
      have HB : Hid (bb = true ↔ P) := ⟨fun h => HY1.out (hb.1 h), fun h => hb.2 (Classical.not_not.1 fun hn => HN2.out hn h)⟩
      have K3 := Lib.hid (K1.out.trans k3)
      clear hb k3 HY1 HN2 d0 d1 d2 f0 f1 f2 H2
      go_wp2_with fail
      go_ret
      exact ⟨⟨bb, rfl, HB.out⟩, K3.out⟩
    · rw [decide_eq_false q] at H1
      have HX := Lib.hid (HN1.out q)
      clear HN0 HN1 HN2 HY HY0 H2 q h0
      go_enter Tryz.func16, Tryz.ntmps16
      go_wp2_with (first | (rw [HW.out]) | fail)
      refine (H1.out w1 K1.out).mono ?_; rintro _ _ ⟨rfl, rfl⟩
      go_wp2_with fail
      go_ret
      exact ⟨Tells.no HX.out, K1.out⟩
  · have HX := Lib.hid (HN0.out h0)
    have t1 : (X == Y) = false := beq_eq_false_iff_ne.2 h0
    clear HN0 HN1 HN2 HY H2 h0 H1
    go_enter Tryz.func16, Tryz.ntmps16
    go_wp2_with (first | (rw [HW.out]) | fail)
    go_ret
    exact ⟨Tells.no HX.out, K1.out⟩
def ixF (l : List Lk) (a : Int) : Int := if spAt l a < l.length then (spAt l a : Int) else -1
set_option maxRecDepth 100000 in
set_option maxHeartbeats 1000000 in
theorem ratchIs_any (p a : Int) (x y : Value) (g : Nat) (w : World) (hx : ∃ b n c, x = .slice b n c) (hy : ∃ b n c, y = .slice b n c) (hc : w.cell? ⟨g, 0, none⟩ = some (.int .i64 a)) :
    Calls Tryz.prog 29 #[.agg #[.int .i64 p, x, y], .pointer (some ⟨g, 0, none⟩)] w fun e w' => e = .returned (.bool (p == a)) ∧ Kp w w' := by
  obtain ⟨b1, n1, c1, rfl⟩ := hx
  obtain ⟨b2, n2, c2, rfl⟩ := hy
  have hc1 := Kp.cell ((Kp.refl w).alloc (.cells #[.int .i64 p, .slice b1 n1 c1, .slice b2 n2 c2] 43)) hc
  go_enter Tryz.func29, Tryz.ntmps29
  go_wp2_with fail
  go_ret
  exact ⟨rfl, (Kp.refl _).alloc _⟩
set_option maxRecDepth 100000 in
set_option maxHeartbeats 1000000 in
theorem ratchIndex_any (u : Value) (l : List Lk) (a : Int) (g : Nat) (w : World) (hu : LL w u l) (hc : w.cell? ⟨g, 0, none⟩ = some (.int .i64 a)) :
    Calls Tryz.prog 28 #[u, .func (.func 29) #[] #[.pointer (some ⟨g, 0, none⟩)]] w fun e w' => e = .returned (.int .i64 (ixF l a)) ∧ Kp w w' := by
  obtain ⟨au, cu, rfl, p1, s1⟩ := SE.shape hu
  unfold maxLen at s1
  have HU := Lib.hid hu
  have HF := Lib.hid (fun W (hW : Kp w W) (p : Int) (x y : Value) (hx : ∃ b n c, x = .slice b n c) (hy : ∃ b n c, y = .slice b n c) => ratchIs_any p a x y g W hx hy (hW.cell hc))
  have HY : Hid (∀ k : Nat, k < l.length → (lkAt l k).pos = a → (∀ j, j < k → (lkAt l j).pos ≠ a) → ixF l a = (k : Int)) := fun k hk h hp => by
    unfold ixF
    rw [spAt_eq hk h hp, if_pos hk]
  have HN : Hid ((∀ k, k < l.length → (lkAt l k).pos ≠ a) → ixF l a = -1) := fun h => by
    unfold ixF
    rw [spAt_none h, if_neg (Nat.lt_irrefl _)]
  generalize ixF l a = FI at *
  obtain ⟨N, hN⟩ : ∃ N, l.length = N := ⟨_, rfl⟩
  have HN2 := Lib.hid hN
  rw [hN] at HU HY HN p1 ⊢
  clear hu hN hc
  go_enter Tryz.func28, Tryz.ntmps28
  go_wp2_with fail
  go_loopw [8] (fun i wr => ∃ k : Nat, k ≤ N ∧ i = .int .i64 (k : Int) ∧ (∀ j, j < k → (lkAt l j).pos ≠ a) ∧ Kp w wr) (fun i _ => (N - (intOf i).toNat))
  case atStart => exact ⟨0, Nat.zero_le _, rfl, fun t h => by omega, Kp.refl _⟩
  case round =>
    obtain ⟨k, hk, rfl, hpre, hkp⟩ := hrel
    have HPR := Lib.hid hpre
    have KK := Lib.hid hkp
    clear hpre hkp
    by_cases hlt : k < N
    · obtain ⟨gs, os, cs, p, q, e1, _, hnd⟩ := LL.nodeK (i := k) HU.out (by rw [HN2.out]; exact hlt)
      rw [HN2.out] at e1
      simp only [Value.slice.injEq] at e1
      obtain ⟨rfl, _, rfl⟩ := e1
      obtain ⟨c0, c1, c2, rp, rq⟩ := hnd wr KK.out
      obtain ⟨ap, np, cp, rfl⟩ := rp.sl
      obtain ⟨aq, nq, cq, rfl⟩ := rq.sl
      have HFK := Lib.hid (HF.out wr KK.out (lkAt l k).pos (.slice ap np cp) (.slice aq nq cq) ⟨_, _, _, rfl⟩ ⟨_, _, _, rfl⟩)
      have HYK := Lib.hid (HY.out k hlt)
      have HPK : Hid ((lkAt l k).pos ≠ a → ∀ j, j < k + 1 → (lkAt l j).pos ≠ a) := fun h j hj => by
        rcases Nat.lt_or_ge j k with h6 | h6
        · exact HPR.out j h6
        · obtain rfl : j = k := by omega
          exact h
      have i1 : IntKind.i64.wrap ((k : Int) + 1) = (k : Int) + 1 := IntWalk.i64_in _ (by omega)
      have i3 : (k : Int) < (N : Int) := by omega
      generalize (lkAt l k).pos = X at *
      clear rp rq HF HY hnd
      by_cases hX : X = a
      · have hb : (X == a) = true := beq_iff_eq.2 hX
        have HR := Lib.hid (HYK.out hX HPR.out)
        rw [hb] at HFK
        clear hX HYK HPK
        go_wp2_with (go_at_call 29; refine HFK.out.mono ?_; rintro _ w4 ⟨rfl, k4⟩; have K4 := Lib.hid (KK.out.trans k4))
        go_ret
        exact ⟨by rw [HR.out]; rfl, K4.out⟩
      · have hb : (X == a) = false := beq_eq_false_iff_ne.2 hX
        have HR := Lib.hid (HPK.out hX)
        rw [hb] at HFK
        clear hX HYK HPK
        go_wp2_with (go_at_call 29; refine HFK.out.mono ?_; rintro _ w4 ⟨rfl, k4⟩; have K4 := Lib.hid (KK.out.trans k4))
        go_roundw
        case rel => exact ⟨k + 1, by omega, by first | rfl | (rw [i1]; rfl) | go_num, HR.out, K4.out⟩
        case measure => simp [intOf]; omega
    · obtain rfl : k = N := by omega
      have HR := Lib.hid (HN.out HPR.out)
      have i3 : ¬ (k : Int) < (k : Int) := by omega
      clear HN HY
      go_wp2_with fail
      go_ret
      exact ⟨by rw [HR.out]; rfl, KK.out⟩
end Go.Proofs.YtigpgcjbpoaclaaGreatDoor

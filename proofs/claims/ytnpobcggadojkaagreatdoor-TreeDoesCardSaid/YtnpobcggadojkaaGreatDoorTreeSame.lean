/- tree.isSame, slices.EqualFunc at nodes, tree.Same. -/
import Derived.Test.YtnpobcggadojkaaGreatDoorTreeRow9
import Derived.Test.YtnpobcggadojkaaGreatDoorRefTree9
set_option linter.unusedVariables false
set_option linter.unusedSimpArgs false
namespace Go.Proofs.YtnpobcggadojkaaGreatDoor
open Go.RowKit

set_option maxHeartbeats 2000000 in
theorem treeIsSame_any (u v : Value) (a b : Nod) (w : World) (hu : NV w u a) (hv : NV w v b) :
    Calls Tryz.prog 46 #[u, v] w fun e w' => e = .returned (.bool (decide (a = b))) ∧ Kp w w' := by
  obtain ⟨p, x, h, rfl, hi⟩ := hu
  obtain ⟨p', x', h', rfl, hi'⟩ := hv
  have HP := Lib.hid (fun W (hW : Kp w W) => bytesEqual_any p p' a.pub b.pub W (hi.pub.kp hW) (hi'.pub.kp hW))
  have HX := Lib.hid (fun W (hW : Kp w W) => equalI_any x x' a.un b.un W (hi.un.kp hW) (hi'.un.kp hW))
  have HH := Lib.hid (fun W (hW : Kp w W) => bytesEqual_any h h' a.hash b.hash W (hi.hash.kp hW) (hi'.hash.kp hW))
  obtain ⟨a1, n1, c1, rfl⟩ := rd_sl9 hi.pub
  obtain ⟨a2, n2, c2, rfl⟩ := hi.un.sl
  obtain ⟨a3, n3, c3, rfl⟩ := rd_sl9 hi.hash
  obtain ⟨a4, n4, c4, rfl⟩ := rd_sl9 hi'.pub
  obtain ⟨a5, n5, c5, rfl⟩ := hi'.un.sl
  obtain ⟨a6, n6, c6, rfl⟩ := rd_sl9 hi'.hash
  obtain ⟨BO, hBO⟩ : ∃ BO : Bool, BO = decide (a = b) := ⟨_, rfl⟩
  have hbo : (BO = true ↔ a.kind = b.kind ∧ a.name = b.name ∧ a.pub = b.pub ∧ a.un = b.un ∧ a.hash = b.hash) := by rw [hBO, decide_eq_true_iff, Nod.eq_iff]
  rw [← hBO]
  clear hBO
  obtain ⟨k1, m1, q1, y1, z1⟩ := a
  obtain ⟨k2, m2, q2, y2, z2⟩ := b
  simp only at hbo HP HX HH
  simp only [nodC, List.toArray] 
  clear hi hi'
  have hF : ¬ (k1 = k2 ∧ m1 = m2 ∧ q1 = q2 ∧ y1 = y2 ∧ z1 = z2) → BO = false := fun h => by rw [Bool.eq_false_iff]; exact fun e => h (hbo.1 e)
  by_cases e1 : k1 = k2
  · by_cases e2 : m1 = m2
    · by_cases e3 : q1 = q2
      · rw [decide_eq_true e3] at HP
        by_cases e4 : y1 = y2
        · rw [decide_eq_true e4] at HX
          have hh : decide (z1 = z2) = BO := by
            by_cases e5 : z1 = z2
            · rw [decide_eq_true e5, hbo.2 ⟨e1, e2, e3, e4, e5⟩]
            · rw [decide_eq_false e5, hF (fun h => e5 h.2.2.2.2)]
          rw [hh] at HH
          subst e1 e2
          clear hbo hF e3 e4 hh
          go_enter Tryz.func46, Tryz.ntmps46
          go_wp2_with fail
          obtain ⟨W0, hW0⟩ : ∃ W0, (w.alloc (.cells #[.int .i64 k1, .int .i64 m1, .slice a1 n1 c1, .slice a2 n2 c2, .slice a3 n3 c3] 57)).alloc (.cells #[.int .i64 k1, .int .i64 m1, .slice a4 n4 c4, .slice a5 n5 c5, .slice a6 n6 c6] 57) = W0 := ⟨_, rfl⟩
          rw [hW0]
          have k0 : Kp w W0 := by rw [← hW0]; exact ((Kp.refl _).alloc _).alloc _
          have B1 : Bx W0 w.heap.size 57 #[.int .i64 k1, .int .i64 m1, .slice a1 n1 c1, .slice a2 n2 c2, .slice a3 n3 c3] := by rw [← hW0]; exact (Bx.new w _ _).kp ((Kp.refl _).alloc _)
          have B2 : Bx W0 (w.heap.size + 1) 57 #[.int .i64 k1, .int .i64 m1, .slice a4 n4 c4, .slice a5 n5 c5, .slice a6 n6 c6] := by
            rw [← hW0]
            have := Bx.new (w.alloc (.cells #[.int .i64 k1, .int .i64 m1, .slice a1 n1 c1, .slice a2 n2 c2, .slice a3 n3 c3] 57)) 57 #[.int .i64 k1, .int .i64 m1, .slice a4 n4 c4, .slice a5 n5 c5, .slice a6 n6 c6]
            rwa [World.size_alloc] at this
          clear hW0
          refine (HP.out _ k0).mono ?_; rintro _ w1 ⟨rfl, j1⟩
          have HK1 := Lib.hid (k0.trans j1)
          have HB1 := Lib.hid (B1.kp j1)
          have HB2 := Lib.hid (B2.kp j1)
          have d1 := HB1.out.cell 3
          have d2 := HB2.out.cell 3
          clear j1 k0 B1 B2
          go_wp2_with fail
          refine (HX.out _ HK1.out).mono ?_; rintro _ w2 ⟨rfl, j2⟩
          have HK2 := Lib.hid (HK1.out.trans j2)
          have HC1 := Lib.hid (HB1.out.kp j2)
          have HC2 := Lib.hid (HB2.out.kp j2)
          have f1 := HC1.out.cell 4
          have f2 := HC2.out.cell 4
          clear j2 d1 d2
          go_wp2_with fail
          refine (HH.out _ HK2.out).mono ?_; rintro _ w3 ⟨rfl, j3⟩
          have HK3 := Lib.hid (HK2.out.trans j3)
          clear j3 f1 f2
          go_wp2_with fail
          go_ret
          exact ⟨rfl, HK3.out⟩
        · rw [decide_eq_false e4] at HX
          have hb := hF (fun h => e4 h.2.2.2.1)
          subst hb e1 e2
          clear hbo hF e3 e4 HH
          go_enter Tryz.func46, Tryz.ntmps46
          go_wp2_with fail
          obtain ⟨W0, hW0⟩ : ∃ W0, (w.alloc (.cells #[.int .i64 k1, .int .i64 m1, .slice a1 n1 c1, .slice a2 n2 c2, .slice a3 n3 c3] 57)).alloc (.cells #[.int .i64 k1, .int .i64 m1, .slice a4 n4 c4, .slice a5 n5 c5, .slice a6 n6 c6] 57) = W0 := ⟨_, rfl⟩
          rw [hW0]
          have k0 : Kp w W0 := by rw [← hW0]; exact ((Kp.refl _).alloc _).alloc _
          have B1 : Bx W0 w.heap.size 57 #[.int .i64 k1, .int .i64 m1, .slice a1 n1 c1, .slice a2 n2 c2, .slice a3 n3 c3] := by rw [← hW0]; exact (Bx.new w _ _).kp ((Kp.refl _).alloc _)
          have B2 : Bx W0 (w.heap.size + 1) 57 #[.int .i64 k1, .int .i64 m1, .slice a4 n4 c4, .slice a5 n5 c5, .slice a6 n6 c6] := by
            rw [← hW0]
            have := Bx.new (w.alloc (.cells #[.int .i64 k1, .int .i64 m1, .slice a1 n1 c1, .slice a2 n2 c2, .slice a3 n3 c3] 57)) 57 #[.int .i64 k1, .int .i64 m1, .slice a4 n4 c4, .slice a5 n5 c5, .slice a6 n6 c6]
            rwa [World.size_alloc] at this
          clear hW0
          refine (HP.out _ k0).mono ?_; rintro _ w1 ⟨rfl, j1⟩
          have HK1 := Lib.hid (k0.trans j1)
          have HB1 := Lib.hid (B1.kp j1)
          have HB2 := Lib.hid (B2.kp j1)
          have d1 := HB1.out.cell 3
          have d2 := HB2.out.cell 3
          clear j1 k0 B1 B2
          go_wp2_with fail
          refine (HX.out _ HK1.out).mono ?_; rintro _ w2 ⟨rfl, j2⟩
          have HK2 := Lib.hid (HK1.out.trans j2)
          have HC1 := Lib.hid (HB1.out.kp j2)
          have HC2 := Lib.hid (HB2.out.kp j2)
          have f1 := HC1.out.cell 4
          have f2 := HC2.out.cell 4
          clear j2 d1 d2
          go_wp2_with fail
          go_ret
          exact ⟨rfl, HK2.out⟩
      · rw [decide_eq_false e3] at HP
        have hb := hF (fun h => e3 h.2.2.1)
        subst hb e1 e2
        clear hbo hF e3 HH HX
        go_enter Tryz.func46, Tryz.ntmps46
        go_wp2_with fail
        obtain ⟨W0, hW0⟩ : ∃ W0, (w.alloc (.cells #[.int .i64 k1, .int .i64 m1, .slice a1 n1 c1, .slice a2 n2 c2, .slice a3 n3 c3] 57)).alloc (.cells #[.int .i64 k1, .int .i64 m1, .slice a4 n4 c4, .slice a5 n5 c5, .slice a6 n6 c6] 57) = W0 := ⟨_, rfl⟩
        rw [hW0]
        have k0 : Kp w W0 := by rw [← hW0]; exact ((Kp.refl _).alloc _).alloc _
        have B1 : Bx W0 w.heap.size 57 #[.int .i64 k1, .int .i64 m1, .slice a1 n1 c1, .slice a2 n2 c2, .slice a3 n3 c3] := by rw [← hW0]; exact (Bx.new w _ _).kp ((Kp.refl _).alloc _)
        have B2 : Bx W0 (w.heap.size + 1) 57 #[.int .i64 k1, .int .i64 m1, .slice a4 n4 c4, .slice a5 n5 c5, .slice a6 n6 c6] := by
          rw [← hW0]
          have := Bx.new (w.alloc (.cells #[.int .i64 k1, .int .i64 m1, .slice a1 n1 c1, .slice a2 n2 c2, .slice a3 n3 c3] 57)) 57 #[.int .i64 k1, .int .i64 m1, .slice a4 n4 c4, .slice a5 n5 c5, .slice a6 n6 c6]
          rwa [World.size_alloc] at this
        clear hW0
        refine (HP.out _ k0).mono ?_; rintro _ w1 ⟨rfl, j1⟩
        have HK1 := Lib.hid (k0.trans j1)
        have HB1 := Lib.hid (B1.kp j1)
        have HB2 := Lib.hid (B2.kp j1)
        have d1 := HB1.out.cell 3
        have d2 := HB2.out.cell 3
        clear j1 k0 B1 B2
        go_wp2_with fail
        go_ret
        exact ⟨rfl, HK1.out⟩
    · have hb := hF (fun h => e2 h.2.1)
      subst hb e1
      have hne : (m1 == m2) = false := beq_eq_false_iff_ne.2 e2
      clear hbo hF HP HX HH
      go_enter Tryz.func46, Tryz.ntmps46
      go_wp2_with fail
      go_ret
      exact ⟨rfl, ((Kp.refl w).alloc _).alloc _⟩
  · have hb := hF (fun h => e1 h.1)
    subst hb
    have hne : (k1 == k2) = false := beq_eq_false_iff_ne.2 e1
    clear hbo hF HP HX HH
    go_enter Tryz.func46, Tryz.ntmps46
    go_wp2_with fail
    go_ret
    exact ⟨rfl, ((Kp.refl w).alloc _).alloc _⟩

set_option maxHeartbeats 2000000 in
theorem equalFunc9_any (u v : Value) (t s : List Nod) (w : World) (hu : NL w u t) (hv : NL w v s) :
    Calls Tryz.prog 45 #[u, v, .func (.func 46) #[] #[]] w fun e w' => Tells e (t = s) ∧ Kp w w' := by
  obtain ⟨a1, c1, rfl, p1, s1⟩ := hu.shape
  obtain ⟨a2, c2, rfl, p2, s2⟩ := hv.shape
  unfold maxLen at s1 s2
  by_cases hlen : t.length = s.length
  · have HEQ : Hid (∀ k, k < t.length → ¬ ats t k = ats s k → ¬ t = s) := fun k hk hne h => hne (by rw [h])
    have HALL : Hid ((∀ k, k < t.length → ats t k = ats s k) → t = s) := fun h => ats_ext hlen fun x => by
      by_cases hx : x < t.length
      · exact h x hx
      · rw [ats_over (by omega), ats_over (by omega)]
    have HSN := Lib.hid (fun (a b : Nod) u v W (h1 : NV W u a) (h2 : NV W v b) => treeIsSame_any u v a b W h1 h2)
    have HU := Lib.hid hu
    have HV := Lib.hid hv
    rw [← hlen] at HV p2 ⊢
    obtain ⟨N, hN⟩ : ∃ N, t.length = N := ⟨_, rfl⟩
    rw [hN] at HU HV p1 p2 HEQ HALL ⊢
    generalize (t = s) = EQ at *
    have HS := Lib.hid (And.intro s1 s2)
    clear hu hv hlen hN s1 s2
    go_enter Tryz.func45, Tryz.ntmps45
    go_wp2_with fail
    go_loopw [17] (fun i wr => ∃ k : Nat, k ≤ N ∧ i = .int .i64 (k : Int) ∧ (∀ j, j < k → ats t j = ats s j) ∧ Kp w wr) (fun i _ => (N - (intOf i).toNat))
    case atStart => exact ⟨0, Nat.zero_le _, rfl, fun t h => by omega, Kp.refl _⟩
    case round =>
      obtain ⟨k, hk, rfl, hpre, hkp⟩ := hrel
      by_cases hlt : k < N
      · obtain ⟨g1, o1, rfl, _, hc1⟩ := HU.out.at k hlt
        obtain ⟨g2, o2, rfl, _, hc2⟩ := HV.out.at k hlt
        obtain ⟨x1, y1, z1, n1⟩ := hc1 k hlt
        obtain ⟨x2, y2, z2, n2⟩ := hc2 k hlt
        have m1 := n1.kp hkp
        have m2 := n2.kp hkp
        obtain ⟨c10, c11, c12, c13, c14⟩ := And.intro m1.kind (And.intro m1.name (And.intro m1.pubC (And.intro m1.unC m1.hashC)))
        obtain ⟨xa, na, ca, rfl⟩ := rd_sl9 m1.2.pub
        obtain ⟨xb, nb, cb, rfl⟩ := m1.2.un.sl
        obtain ⟨xc, nc, cc, rfl⟩ := rd_sl9 m1.2.hash
        obtain ⟨xd, nd', cd, rfl⟩ := rd_sl9 m2.2.pub
        obtain ⟨xe, ne, ce, rfl⟩ := m2.2.un.sl
        obtain ⟨xf, nf, cf, rfl⟩ := rd_sl9 m2.2.hash
        have m2' := m2.kp ((Kp.refl wr).alloc (.cells #[.int .i64 (ats t k).kind, .int .i64 (ats t k).name, .slice xa na ca, .slice xb nb cb, .slice xc nc cc] 57))
        obtain ⟨c20, c21, c22, c23, c24⟩ := And.intro m2'.kind (And.intro m2'.name (And.intro m2'.pubC (And.intro m2'.unC m2'.hashC)))
        have HC := Lib.hid (fun W (hW : Kp wr W) => HSN.out (ats t k) (ats s k) _ _ W ⟨_, _, _, rfl, m1.2.kp hW⟩ ⟨_, _, _, rfl, m2.2.kp hW⟩)
        simp only [nodC] at HC
        have HEQ2 := HEQ.out k hlt
        have HPRE : Hid (ats t k = ats s k → ∀ j, j < k + 1 → ats t j = ats s j) := fun he j hj => by
          rcases Nat.lt_or_eq_of_le (Nat.lt_succ_iff.1 hj) with h3 | h3
          · exact hpre j h3
          · rw [h3]; exact he
        have i1 : IntKind.i64.wrap ((k : Int) + 1) = (k : Int) + 1 := IntWalk.i64_in _ (by have := HS.out; omega)
        have i2 : (k : Int) < (N : Int) := by omega
        have KK := Lib.hid hkp
        clear hc1 hc2 HALL HEQ hpre hkp n1 n2 m1 m2 m2' HSN
        generalize (ats t k) = A1 at *
        generalize (ats s k) = A2 at *
        by_cases he : A1 = A2
        · rw [decide_eq_true he] at HC
          have HP2 := Lib.hid (HPRE.out he)
          clear he HPRE HEQ2
          go_wp2_with fail
          refine (HC.out _ (((Kp.refl _).alloc _).alloc _)).mono ?_
          rintro _ w9 ⟨rfl, k9⟩
          have K9 := Lib.hid (KK.out.trans ((((Kp.refl _).alloc _).alloc _).trans k9))
          go_wp2_with fail
          go_roundw
          case rel => exact ⟨k + 1, by omega, by first | rfl | (rw [i1]; rfl), HP2.out, K9.out⟩
          case measure => simp [intOf]; omega
        · rw [decide_eq_false he] at HC
          have HP2 := Lib.hid (HEQ2 he)
          clear he HPRE HEQ2
          go_wp2_with fail
          refine (HC.out _ (((Kp.refl _).alloc _).alloc _)).mono ?_
          rintro _ w9 ⟨rfl, k9⟩
          have K9 := Lib.hid (KK.out.trans ((((Kp.refl _).alloc _).alloc _).trans k9))
          go_wp2_with fail
          go_ret
          exact ⟨Tells.no HP2.out, K9.out⟩
      · obtain rfl : k = N := by omega
        have HB := Lib.hid (HALL.out hpre)
        have KK := Lib.hid hkp
        have i2 : ¬ (k : Int) < (k : Int) := by omega
        clear HALL HEQ hpre hkp
        go_wp2_with fail
        go_ret
        exact ⟨Tells.yes HB.out, KK.out⟩
  · have hne : ¬ (t.length : Int) = (s.length : Int) := by omega
    have hne2 : ((t.length : Int) != (s.length : Int)) = true := bne_iff_ne.2 hne
    have HN : Hid (¬ t = s) := fun h => hlen (by rw [h])
    clear hu hv hlen s1 s2
    go_enter Tryz.func45, Tryz.ntmps45
    go_wp2_with fail
    go_ret
    exact ⟨Tells.no HN.out, Kp.refl _⟩

set_option maxHeartbeats 2000000 in
theorem treeSame_own (u v : Value) (t s : List Nod) (w : World) (hu : NL w u t) (hv : NL w v s) :
    Calls Tryz.prog 15 #[u, v] w fun e w' => Tells e (t = s) ∧ Kp w w' := by
  have H := Lib.hid (equalFunc9_any u v t s w hu hv)
  obtain ⟨a1, c1, rfl, p1, s1⟩ := hu.shape
  obtain ⟨a2, c2, rfl, p2, s2⟩ := hv.shape
  generalize (t = s) = EQ at H ⊢
  clear hu hv
  go_enter Tryz.func15, Tryz.ntmps15
  go_wp2_with fail
  refine H.out.mono ?_
  rintro _ w1 ⟨⟨bb, rfl, hb⟩, k1⟩
  have HB := Lib.hid (And.intro hb k1)
  clear hb k1 H
  go_wp2_with fail
  go_ret
  exact ⟨⟨bb, rfl, HB.out.1⟩, HB.out.2⟩
end Go.Proofs.YtnpobcggadojkaaGreatDoor

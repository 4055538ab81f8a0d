import Derived.Test.YtigpgcjbpoaclaaGreatDoorB4
import Derived.Test.YtigpgcjbpoaclaaGreatDoorB25
import Derived.Test.YtigpgcjbpoaclaaGreatDoorB26
import Derived.Test.YtigpgcjbpoaclaaGreatDoorB31
import Derived.Test.YtigpgcjbpoaclaaGreatDoorB33
set_option linter.unusedVariables false
set_option linter.unusedSimpArgs false
namespace Go.Proofs.YtigpgcjbpoaclaaGreatDoor
open Go.RowKit
def leafOk (send : List UInt8) (n i : Int) : Prop := isTB n = true ∧ send.length = 32 ∧ 0 ≤ i ∧ i < n
instance (send : List UInt8) (n i : Int) : Decidable (leafOk send n i) := by unfold leafOk; infer_instance
def leafE (send : List UInt8) (n i : Int) : Int := if leafOk send n i then 0 else 1
def leafR (send : List UInt8) (n i : Int) : List UInt8 := if leafOk send n i then secD send (lgN n) i.toNat else []
theorem leaf_no {send : List UInt8} {n i : Int} (h : ¬ leafOk send n i) : leafE send n i = 1 ∧ leafR send n i = [] := ⟨if_neg h, if_neg h⟩
theorem leaf_yes {send : List UInt8} {K q : Nat} (hs : send.length = 32) (hK : K ≤ 10) (hq : q < 2 ^ K) : leafE send ((2 ^ K : Nat) : Int) (q : Int) = 0 ∧ leafR send ((2 ^ K : Nat) : Int) (q : Int) = secD send K q := by
  have h : leafOk send ((2 ^ K : Nat) : Int) (q : Int) := ⟨isTB_yes K hK, hs, by omega, by omega⟩
  refine ⟨if_pos h, ?_⟩
  unfold leafR
  rw [if_pos h, lgN_pow K hK, Int.toNat_natCast]
def startC (send : List UInt8) (n i : Int) : Ch := ⟨0, leafR send n i, []⟩
set_option maxHeartbeats 2000000 in
theorem ratchOfNode_any (v : Value) (send : List UInt8) (K : Nat) (hK : K ≤ 10) (hl : send.length ≤ 2000) : ∀ (d q : Nat) (w : World), d ≤ K → q < 2 ^ d → Rd w v send → Tab w →
    Calls Tryz.prog 22 #[v, .int .i64 ((2 ^ K : Nat) : Int), .int .i64 ((nd (K - d) q : Nat) : Int)] w fun e w' => (∃ u, e = .returned u ∧ Rd w' u (secD send d q) ∧ Newer w.heap.size u) ∧ Kp w w'
  | 0, q, w, hd, hq, h, hT => by
    have hq0 : q = 0 := by simpa using hq
    subst hq0
    have h1 := p2_le hK
    have h2 := nd_small hK (Nat.le_refl K) (q := 0) (by simp)
    have HPA := Lib.hid (mathParent_same ((nd K 0 : Nat) : Int) ((2 ^ K : Nat) : Int) w hT)
    rw [(pa_root hK).1, (pa_root hK).2.1] at HPA
    have HP := Lib.hid (ratchDerived_any v treeS send w h (by decide) hl)
    have HM : Hid (partB send treeS [] 32 = secD send 0 0) := rfl
    rw [HM.out] at HP
    rw [Nat.sub_zero]
    obtain ⟨a1, n1, c1, rfl⟩ := h.sl
    unfold treeS at HP
    generalize nd K 0 = X at *
    generalize 2 ^ K = M at *
    clear h hT
    go_enter Tryz.func22, Tryz.ntmps22
    go_wp2_with fail
    refine HPA.out.mono ?_; rintro _ _ ⟨rfl, rfl⟩
    go_wp2_with fail
    refine HP.out.mono ?_
    rintro _ w1 ⟨⟨u, rfl, o1⟩, k1⟩
    obtain ⟨a2, n2, c2, rfl⟩ := o1.rd.sl
    go_wp2_with fail
    go_ret
    exact ⟨⟨_, rfl, o1.rd, o1.newer13⟩, k1⟩
  | d + 1, q, w, hd, hq, h, hT => by
    have h1 := p2_le hK
    have hj : K - (d + 1) < K := by omega
    have hq' : q < 2 ^ (K - (K - (d + 1))) := by rw [show K - (K - (d + 1)) = d + 1 by omega]; exact hq
    have h2 := nd_small hK (Nat.le_of_lt hj) hq'
    have hq2 : q / 2 < 2 ^ d := by rw [p2_succ] at hq; omega
    have h3 := nd_small hK (show K - d ≤ K by omega) (q := q / 2) (by rw [show K - (K - d) = d by omega]; exact hq2)
    have HPA := Lib.hid (mathParent_same ((nd (K - (d + 1)) q : Nat) : Int) ((2 ^ K : Nat) : Int) w hT)
    rw [(pa_yes hK hj hq').1, (pa_yes hK hj hq').2.1, show K - (d + 1) + 1 = K - d by omega] at HPA
    have HLE := Lib.hid (mathLeft_same ((nd (K - d) (q / 2) : Nat) : Int) w hT)
    have hb2 : q / 2 < 2 ^ (10 - (K - d)) := q_big hK (by rw [show K - (K - d) = d by omega]; exact hq2)
    have ech := ch_yes (j := K - (d + 1)) (q := q / 2) (by omega) (by rw [show K - (d + 1) + 1 = K - d by omega]; exact hb2)
    rw [show K - (d + 1) + 1 = K - d by omega] at ech
    rw [ech.1, ech.2.1] at HLE
    have HIH := Lib.hid (ratchOfNode_any v send K hK hl d (q / 2) w (by omega) hq2 h hT)
    have hsl := secD_length send d (q / 2)
    have HP := Lib.hid (fun W u (hu : Rd W u (secD send d (q / 2))) (s : ByteArray) (hs : s.size ≤ 300) => ratchDerived_any u s (secD send d (q / 2)) W hu hs (by omega))
    have HS : Hid (secD send (d + 1) q = partB (secD send d (q / 2)) (if q % 2 = 1 then rightS13 else leftS) [] 32) := rfl
    have hlt : nd (K - (d + 1)) (2 * (q / 2)) = nd (K - (d + 1)) q ↔ q % 2 = 0 := by
      generalize K - (d + 1) = j at *
      have hp := p2_pos j
      rcases Nat.mod_two_eq_zero_or_one q with h4 | h4
      · rw [show 2 * (q / 2) = q by omega]
        exact ⟨fun _ => h4, fun _ => rfl⟩
      · constructor
        · intro h5
          exfalso
          have h6 := nd_left j (q / 2)
          have h7 := nd_right j (q / 2)
          rw [show 2 * (q / 2) + 1 = q by omega] at h7
          omega
        · intro _; omega
    obtain ⟨a1, n1, c1, rfl⟩ := h.sl
    generalize nd (K - (d + 1)) (2 * (q / 2)) = L at *
    generalize nd (K - (d + 1)) q = X at *
    generalize nd (K - d) (q / 2) = Y at *
    generalize secD send d (q / 2) = SS at *
    generalize secD send (d + 1) q = TT at *
    generalize 2 ^ K = M at *
    clear h hj hq' h2 h3 hq hq2 ech hb2 hT
    by_cases h4 : q % 2 = 0
    · have h5 : L = X := hlt.2 h4
      subst h5
      have HS2 : Hid (TT = partB SS leftS [] 32) := by have := HS.out; rwa [if_neg (by omega)] at this
      have HP2 := Lib.hid (fun W u hu => HP.out W u hu leftS (by decide))
      rw [← HS2.out] at HP2
      unfold leftS at HP2
      clear HP HS HS2 hlt
      go_enter Tryz.func22, Tryz.ntmps22
      go_wp2_with fail
      refine HPA.out.mono ?_; rintro _ _ ⟨rfl, rfl⟩
      go_wp2_with fail
      refine HLE.out.mono ?_; rintro _ _ ⟨rfl, rfl⟩
      go_wp2_with fail
      refine HIH.out.mono ?_
      rintro _ w1 ⟨⟨u, rfl, o1, m1⟩, k1⟩
      obtain ⟨a2, n2, c2, rfl⟩ := o1.sl
      go_wp2_with fail
      refine (HP2.out _ _ o1).mono ?_
      rintro _ w2 ⟨⟨u2, rfl, o2⟩, k2⟩
      obtain ⟨a3, n3, c3, rfl⟩ := o2.rd.sl
      go_wp2_with fail
      go_ret
      exact ⟨⟨_, rfl, o2.rd, o2.newer13.kp k1⟩, k1.trans k2⟩
    · have h5 : ¬ (L : Int) = (X : Int) := by intro h6; exact h4 (hlt.1 (by omega))
      have HS2 : Hid (TT = partB SS rightS13 [] 32) := by have := HS.out; rwa [if_pos (by omega)] at this
      have HP2 := Lib.hid (fun W u hu => HP.out W u hu rightS13 (by decide))
      rw [← HS2.out] at HP2
      unfold rightS13 at HP2
      have h6 : ((L : Int) == (X : Int)) = false := beq_eq_false_iff_ne.2 h5
      clear HP HS HS2 hlt h5
      go_enter Tryz.func22, Tryz.ntmps22
      go_wp2_with fail
      refine HPA.out.mono ?_; rintro _ _ ⟨rfl, rfl⟩
      go_wp2_with fail
      refine HLE.out.mono ?_; rintro _ _ ⟨rfl, rfl⟩
      go_wp2_with fail
      refine HIH.out.mono ?_
      rintro _ w1 ⟨⟨u, rfl, o1, m1⟩, k1⟩
      obtain ⟨a2, n2, c2, rfl⟩ := o1.sl
      go_wp2_with fail
      refine (HP2.out _ _ o1).mono ?_
      rintro _ w2 ⟨⟨u2, rfl, o2⟩, k2⟩
      obtain ⟨a3, n3, c3, rfl⟩ := o2.rd.sl
      go_wp2_with fail
      go_ret
      exact ⟨⟨_, rfl, o2.rd, o2.newer13.kp k1⟩, k1.trans k2⟩
set_option maxHeartbeats 2000000 in
theorem ratchLeaf_own (v : Value) (send : List UInt8) (n i : Int) (w : World) (h : Rd w v send) (hn : -9223372036854775808 ≤ n ∧ n ≤ 9223372036854775807) (hi : -9223372036854775808 ≤ i ∧ i ≤ 9223372036854775807) (hT0 : Tab w) :
    Calls Tryz.prog 8 #[v, .int .i64 n, .int .i64 i] w fun e w' => (∃ u, e = .returned (.tuple #[u, .int .i64 (leafE send n i)]) ∧ Rd w' u (leafR send n i) ∧ Newer w.heap.size u) ∧ Kp w w' := by
  have HWD := Lib.hid (mathWidth_same n w)
  obtain ⟨a1, c1, rfl, hc1, hc2⟩ := h.shape
  unfold maxLen at hc2
  by_cases hT : isTB n = true
  · obtain ⟨K, hK, rfl⟩ := (isTB_iff n).1 hT
    have h1 := p2_le hK
    have e1 : widE ((2 ^ K : Nat) : Int) = 0 := if_pos hT
    rw [e1] at HWD
    by_cases hs : send.length = 32
    · by_cases h0 : 0 ≤ i
      · obtain ⟨q, rfl⟩ := Int.eq_ofNat_of_zero_le h0
        by_cases hq : q < 2 ^ K
        · rw [(leaf_yes hs hK hq).1, (leaf_yes hs hK hq).2]
          have HN := Lib.hid (ratchOfNode_any (.slice a1 send.length c1) send K hK (by omega) K q w (Nat.le_refl _) hq h hT0)
          rw [Nat.sub_self, nd_leaf] at HN
          have i1 : IntKind.i64.wrap (2 * (q : Int)) = ((2 * q : Nat) : Int) := by rw [IntWalk.i64_in _ (by omega)]; omega
          have i2 : ¬ (((2 ^ K : Nat) : Int)) ≤ (q : Int) := by omega
          rw [hs] at HN ⊢
          generalize widV ((2 ^ K : Nat) : Int) = WV at *
          generalize 2 ^ K = M at *
          clear h hs hT hT0 e1
          go_enter Tryz.func8, Tryz.ntmps8
          go_wp2_with fail
          refine HWD.out.mono ?_; rintro _ _ ⟨rfl, rfl⟩
          go_wp2_with fail
          refine HN.out.mono ?_
          rintro _ w1 ⟨⟨u, rfl, o1, m1⟩, k1⟩
          obtain ⟨a2, n2, c2, rfl⟩ := o1.sl
          go_wp2_with fail
          go_ret2
          exact ⟨⟨_, rfl, o1, m1⟩, k1⟩
        · rw [(leaf_no (fun h => hq (by have := h.2.2.2; omega))).1, (leaf_no (fun h => hq (by have := h.2.2.2; omega))).2]
          have i2 : (((2 ^ K : Nat) : Int)) ≤ (q : Int) := by omega
          rw [hs]
          generalize widV ((2 ^ K : Nat) : Int) = WV at *
          generalize 2 ^ K = M at *
          clear h hs hT hT0 e1
          go_enter Tryz.func8, Tryz.ntmps8
          go_wp2_with fail
          refine HWD.out.mono ?_; rintro _ _ ⟨rfl, rfl⟩
          go_wp2_with fail
          go_ret2
          exact ⟨⟨_, rfl, rd_nil _, Newer.nil _ _ _⟩, Kp.refl _⟩
      · rw [(leaf_no (fun h => h0 h.2.2.1)).1, (leaf_no (fun h => h0 h.2.2.1)).2]
        have i1 : i < 0 := by omega
        rw [hs]
        generalize widV ((2 ^ K : Nat) : Int) = WV at *
        generalize 2 ^ K = M at *
        clear h hs hT hT0 e1
        go_enter Tryz.func8, Tryz.ntmps8
        go_wp2_with fail
        refine HWD.out.mono ?_; rintro _ _ ⟨rfl, rfl⟩
        go_wp2_with fail
        go_ret2
        exact ⟨⟨_, rfl, rd_nil _, Newer.nil _ _ _⟩, Kp.refl _⟩
    · rw [(leaf_no (fun h => hs h.2.1)).1, (leaf_no (fun h => hs h.2.1)).2]
      have i1 : ¬ (send.length : Int) = 32 := by omega
      generalize widV ((2 ^ K : Nat) : Int) = WV at *
      generalize 2 ^ K = M at *
      clear h hs hT hT0 e1
      go_enter Tryz.func8, Tryz.ntmps8
      go_wp2_with fail
      refine HWD.out.mono ?_; rintro _ _ ⟨rfl, rfl⟩
      go_wp2_with fail
      go_ret2
      exact ⟨⟨_, rfl, rd_nil _, Newer.nil _ _ _⟩, Kp.refl _⟩
  · rw [(leaf_no (fun h => hT h.1)).1, (leaf_no (fun h => hT h.1)).2]
    have e1 : widE n = 1 := if_neg hT
    rw [e1] at HWD
    generalize widV n = WV at *
    clear h hT hT0 e1
    go_enter Tryz.func8, Tryz.ntmps8
    go_wp2_with fail
    refine HWD.out.mono ?_; rintro _ _ ⟨rfl, rfl⟩
    go_wp2_with fail
    go_ret2
    exact ⟨⟨_, rfl, rd_nil _, Newer.nil _ _ _⟩, Kp.refl _⟩
theorem ratchLeaf_any (v : Value) (send : List UInt8) (n i : Int) (w : World) (h : Rd w v send) (hn : -9223372036854775808 ≤ n ∧ n ≤ 9223372036854775807) (hi : -9223372036854775808 ≤ i ∧ i ≤ 9223372036854775807) (hT0 : Tab w) :
    Calls Tryz.prog 8 #[v, .int .i64 n, .int .i64 i] w fun e w' => (∃ u, e = .returned (.tuple #[u, .int .i64 (leafE send n i)]) ∧ Rd w' u (leafR send n i)) ∧ Kp w w' :=
  (ratchLeaf_own v send n i w h hn hi hT0).mono fun _ _ ⟨⟨u, e, h, _⟩, k⟩ => ⟨⟨u, e, h⟩, k⟩
set_option maxHeartbeats 2000000 in
theorem refNode13_any (v : Value) (send : List UInt8) (K : Nat) (hK : K ≤ 10) (hl : send.length ≤ 2000) : ∀ (d q : Nat) (w : World), d ≤ K → q < 2 ^ d → Rd w v send →
    Calls Tryz.prog 24 #[v, .int .i64 ((2 ^ K : Nat) : Int), .int .i64 ((nd (K - d) q : Nat) : Int)] w fun e w' => (∃ u, e = .returned u ∧ Rd w' u (secD send d q) ∧ Newer w.heap.size u) ∧ Kp w w'
  | 0, q, w, hd, hq, h => by
    have hq0 : q = 0 := by simpa using hq
    subst hq0
    have h1 := p2_le hK
    have h2 := nd_small hK (Nat.le_refl K) (q := 0) (by simp)
    have h1' : -9223372036854775808 ≤ ((2 ^ K : Nat) : Int) ∧ ((2 ^ K : Nat) : Int) ≤ 9223372036854775807 := by clear h2; generalize 2 ^ K = M at *; omega
    have HPA := Lib.hid (refParent_any ((nd K 0 : Nat) : Int) ((2 ^ K : Nat) : Int) w h1')
    clear h1'
    rw [(pa_root hK).1, (pa_root hK).2.1] at HPA
    have HP := Lib.hid (refPart13_any v (.slice none 0 0) treeS send [] 32 w h (rd_nil w) (by decide) (by simp) hl (by decide))
    have HM : Hid (partB send treeS [] 32 = secD send 0 0) := rfl
    rw [HM.out] at HP
    rw [Nat.sub_zero]
    obtain ⟨a1, n1, c1, rfl⟩ := h.sl
    unfold treeS at HP
    generalize nd K 0 = X at *
    generalize 2 ^ K = M at *
    clear h
    go_enter Tryz.func24, Tryz.ntmps24
    go_wp2_with fail
    refine HPA.out.mono ?_; rintro _ _ ⟨rfl, rfl⟩
    go_wp2_with fail
    refine HP.out.mono ?_
    rintro _ w1 ⟨⟨u, rfl, o1, m1⟩, k1⟩
    go_wp2_with fail
    go_ret
    exact ⟨⟨_, rfl, o1, m1⟩, k1⟩
  | d + 1, q, w, hd, hq, h => by
    have h1 := p2_le hK
    have hj : K - (d + 1) < K := by omega
    have hq' : q < 2 ^ (K - (K - (d + 1))) := by rw [show K - (K - (d + 1)) = d + 1 by omega]; exact hq
    have h2 := nd_small hK (Nat.le_of_lt hj) hq'
    have hq2 : q / 2 < 2 ^ d := by rw [p2_succ] at hq; omega
    have h3 := nd_small hK (show K - d ≤ K by omega) (q := q / 2) (by rw [show K - (K - d) = d by omega]; exact hq2)
    have h1' : -9223372036854775808 ≤ ((2 ^ K : Nat) : Int) ∧ ((2 ^ K : Nat) : Int) ≤ 9223372036854775807 := by clear h2 h3 hq' hq2 hq; generalize 2 ^ K = M at *; omega
    have HPA := Lib.hid (refParent_any ((nd (K - (d + 1)) q : Nat) : Int) ((2 ^ K : Nat) : Int) w h1')
    clear h1'
    rw [(pa_yes hK hj hq').1, (pa_yes hK hj hq').2.1, show K - (d + 1) + 1 = K - d by omega] at HPA
    have HIH := Lib.hid (refNode13_any v send K hK hl d (q / 2) w (by omega) hq2 h)
    have hsl := secD_length send d (q / 2)
    have HP := Lib.hid (fun W u (hu : Rd W u (secD send d (q / 2))) (s : ByteArray) (hs : s.size ≤ 300) => refPart13_any u (.slice none 0 0) s (secD send d (q / 2)) [] 32 W hu (rd_nil W) hs (by simp) (by omega) (by decide))
    have HS : Hid (secD send (d + 1) q = partB (secD send d (q / 2)) (if q % 2 = 1 then rightS13 else leftS) [] 32) := rfl
    have hlt : nd (K - (d + 1)) q < nd (K - d) (q / 2) ↔ q % 2 = 0 := by
      have e1 : K - d = (K - (d + 1)) + 1 := by omega
      rw [e1]
      generalize K - (d + 1) = j at *
      have hp := p2_pos j
      rcases Nat.mod_two_eq_zero_or_one q with h4 | h4
      · have h5 := nd_left j (q / 2)
        rw [show 2 * (q / 2) = q by omega] at h5
        constructor
        · intro _; exact h4
        · intro _; omega
      · have h5 := nd_right j (q / 2)
        rw [show 2 * (q / 2) + 1 = q by omega] at h5
        constructor
        · intro _; omega
        · intro _; omega
    obtain ⟨a1, n1, c1, rfl⟩ := h.sl
    generalize nd (K - (d + 1)) q = X at *
    generalize nd (K - d) (q / 2) = Y at *
    generalize secD send d (q / 2) = SS at *
    generalize secD send (d + 1) q = TT at *
    generalize 2 ^ K = M at *
    clear h hj hq' h2 h3 hq hq2
    by_cases h4 : q % 2 = 0
    · have h5 : (X : Int) < (Y : Int) := by have := hlt.2 h4; omega
      have HS2 : Hid (TT = partB SS leftS [] 32) := by have := HS.out; rwa [if_neg (by omega)] at this
      have HP2 := Lib.hid (fun W u hu => HP.out W u hu leftS (by decide))
      rw [← HS2.out] at HP2
      unfold leftS at HP2
      clear HP HS HS2 hlt
      go_enter Tryz.func24, Tryz.ntmps24
      go_wp2_with fail
      refine HPA.out.mono ?_; rintro _ _ ⟨rfl, rfl⟩
      go_wp2_with fail
      refine HIH.out.mono ?_
      rintro _ w1 ⟨⟨u, rfl, o1, m1⟩, k1⟩
      obtain ⟨a2, n2, c2, rfl⟩ := o1.sl
      go_wp2_with fail
      refine (HP2.out _ _ o1).mono ?_
      rintro _ w2 ⟨⟨u2, rfl, o2, m2⟩, k2⟩
      go_wp2_with fail
      go_ret
      exact ⟨⟨_, rfl, o2, m2.kp k1⟩, k1.trans k2⟩
    · have h5 : ¬ (X : Int) < (Y : Int) := by intro h6; exact h4 (hlt.1 (by omega))
      have HS2 : Hid (TT = partB SS rightS13 [] 32) := by have := HS.out; rwa [if_pos (by omega)] at this
      have HP2 := Lib.hid (fun W u hu => HP.out W u hu rightS13 (by decide))
      rw [← HS2.out] at HP2
      unfold rightS13 at HP2
      clear HP HS HS2 hlt
      go_enter Tryz.func24, Tryz.ntmps24
      go_wp2_with fail
      refine HPA.out.mono ?_; rintro _ _ ⟨rfl, rfl⟩
      go_wp2_with fail
      refine HIH.out.mono ?_
      rintro _ w1 ⟨⟨u, rfl, o1, m1⟩, k1⟩
      obtain ⟨a2, n2, c2, rfl⟩ := o1.sl
      go_wp2_with fail
      refine (HP2.out _ _ o1).mono ?_
      rintro _ w2 ⟨⟨u2, rfl, o2, m2⟩, k2⟩
      go_wp2_with fail
      go_ret
      exact ⟨⟨_, rfl, o2, m2.kp k1⟩, k1.trans k2⟩
set_option maxHeartbeats 2000000 in
theorem refLeaf13_any (v : Value) (send : List UInt8) (n i : Int) (w : World) (h : Rd w v send) (hn : -9223372036854775808 ≤ n ∧ n ≤ 9223372036854775807) (hi : -9223372036854775808 ≤ i ∧ i ≤ 9223372036854775807) :
    Calls Tryz.prog 9 #[v, .int .i64 n, .int .i64 i] w fun e w' => (∃ u, e = .returned (.tuple #[u, .int .i64 (leafE send n i)]) ∧ Rd w' u (leafR send n i) ∧ Newer w.heap.size u) ∧ Kp w w' := by
  have HWD := Lib.hid (refWidth_any n w)
  obtain ⟨a1, c1, rfl, hc1, hc2⟩ := h.shape
  unfold maxLen at hc2
  by_cases hT : isTB n = true
  · obtain ⟨K, hK, rfl⟩ := (isTB_iff n).1 hT
    have h1 := p2_le hK
    have e1 : widE ((2 ^ K : Nat) : Int) = 0 := if_pos hT
    rw [e1] at HWD
    by_cases hs : send.length = 32
    · by_cases h0 : 0 ≤ i
      · obtain ⟨q, rfl⟩ := Int.eq_ofNat_of_zero_le h0
        by_cases hq : q < 2 ^ K
        · rw [(leaf_yes hs hK hq).1, (leaf_yes hs hK hq).2]
          have HN := Lib.hid (refNode13_any (.slice a1 send.length c1) send K hK (by omega) K q w (Nat.le_refl _) hq h)
          rw [Nat.sub_self, nd_leaf] at HN
          have i1 : IntKind.i64.wrap (2 * (q : Int)) = ((2 * q : Nat) : Int) := by rw [IntWalk.i64_in _ (by omega)]; omega
          have i2 : ¬ (((2 ^ K : Nat) : Int)) ≤ (q : Int) := by omega
          rw [hs] at HN ⊢
          generalize widV ((2 ^ K : Nat) : Int) = WV at *
          generalize 2 ^ K = M at *
          clear h hs hT e1
          go_enter Tryz.func9, Tryz.ntmps9
          go_wp2_with fail
          refine HWD.out.mono ?_; rintro _ _ ⟨rfl, rfl⟩
          go_wp2_with fail
          refine HN.out.mono ?_
          rintro _ w1 ⟨⟨u, rfl, o1, m1⟩, k1⟩
          obtain ⟨a2, n2, c2, rfl⟩ := o1.sl
          go_wp2_with fail
          go_ret2
          exact ⟨⟨_, rfl, o1, m1⟩, k1⟩
        · rw [(leaf_no (fun h => hq (by have := h.2.2.2; omega))).1, (leaf_no (fun h => hq (by have := h.2.2.2; omega))).2]
          have i2 : (((2 ^ K : Nat) : Int)) ≤ (q : Int) := by omega
          rw [hs]
          generalize widV ((2 ^ K : Nat) : Int) = WV at *
          generalize 2 ^ K = M at *
          clear h hs hT e1
          go_enter Tryz.func9, Tryz.ntmps9
          go_wp2_with fail
          refine HWD.out.mono ?_; rintro _ _ ⟨rfl, rfl⟩
          go_wp2_with fail
          go_ret2
          exact ⟨⟨_, rfl, rd_nil _, Newer.nil _ _ _⟩, Kp.refl _⟩
      · rw [(leaf_no (fun h => h0 h.2.2.1)).1, (leaf_no (fun h => h0 h.2.2.1)).2]
        have i1 : i < 0 := by omega
        rw [hs]
        generalize widV ((2 ^ K : Nat) : Int) = WV at *
        generalize 2 ^ K = M at *
        clear h hs hT e1
        go_enter Tryz.func9, Tryz.ntmps9
        go_wp2_with fail
        refine HWD.out.mono ?_; rintro _ _ ⟨rfl, rfl⟩
        go_wp2_with fail
        go_ret2
        exact ⟨⟨_, rfl, rd_nil _, Newer.nil _ _ _⟩, Kp.refl _⟩
    · rw [(leaf_no (fun h => hs h.2.1)).1, (leaf_no (fun h => hs h.2.1)).2]
      have i1 : ¬ (send.length : Int) = 32 := by omega
      generalize widV ((2 ^ K : Nat) : Int) = WV at *
      generalize 2 ^ K = M at *
      clear h hs hT e1
      go_enter Tryz.func9, Tryz.ntmps9
      go_wp2_with fail
      refine HWD.out.mono ?_; rintro _ _ ⟨rfl, rfl⟩
      go_wp2_with fail
      go_ret2
      exact ⟨⟨_, rfl, rd_nil _, Newer.nil _ _ _⟩, Kp.refl _⟩
  · rw [(leaf_no (fun h => hT h.1)).1, (leaf_no (fun h => hT h.1)).2]
    have e1 : widE n = 1 := if_neg hT
    rw [e1] at HWD
    generalize widV n = WV at *
    clear h hT e1
    go_enter Tryz.func9, Tryz.ntmps9
    go_wp2_with fail
    refine HWD.out.mono ?_; rintro _ _ ⟨rfl, rfl⟩
    go_wp2_with fail
    go_ret2
    exact ⟨⟨_, rfl, rd_nil _, Newer.nil _ _ _⟩, Kp.refl _⟩
end Go.Proofs.YtigpgcjbpoaclaaGreatDoor

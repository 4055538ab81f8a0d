import Derived.Test.YtigpgcjbpoaclaaGreatDoorA21
import Derived.Test.YtigpgcjbpoaclaaGreatDoorA22
import Derived.Test.YtigpgcjbpoaclaaGreatDoorA24
import Derived.Test.YtigpgcjbpoaclaaGreatDoorA26
import Derived.Test.YtigpgcjbpoaclaaGreatDoorA29
import Derived.Test.YtigpgcjbpoaclaaGreatDoorA33
set_option linter.unusedVariables false
set_option linter.unusedSimpArgs false
namespace Go.Proofs.YtigpgcjbpoaclaaGreatDoor
open Go.RowKit
theorem Ch.ok.none {c : Ch} (h : c.ok) {a : Int} (ha : c.next ≤ a) : spAt c.spare a = c.spare.length :=
  spAt_none fun j hj e => by have := (h.each j hj).2.1; omega
theorem tak_step {c : Ch} (h : c.ok) (n : Nat) (hn : n ≤ 100) (hm : c.next + n + 1 ≤ 4294967294) :
    takE c (c.next + n) = 0 ∧ takC c (c.next + n) = ⟨c.next + n + 1, onB c.sec c.next.toNat (n + 1), lastL (c.spare ++ passB c.sec c.next.toNat n)⟩ ∧ takL c (c.next + n) = lockB (onB c.sec c.next.toNat n) (c.next.toNat + n) := by
  have h1 := h.none (a := c.next + n) (by omega)
  have hlo := h.lo
  have e : takE c (c.next + n) = 0 := by
    unfold takE
    rw [if_neg (by omega), if_neg (by omega), if_neg (by omega), if_neg (by omega)]
  refine ⟨e, ?_, ?_⟩
  · unfold takC
    rw [if_neg (by rw [e]; decide), if_neg (by omega), show (c.next + (n : Int) - c.next).toNat = n by omega]
  · unfold takL
    rw [if_neg (by rw [e]; decide), if_neg (by omega), show (c.next + (n : Int) - c.next).toNat = n by omega, show (c.next + (n : Int)).toNat = c.next.toNat + n by omega]
theorem tak_spare {c : Ch} (h : c.ok) {i : Nat} (hi : i < c.spare.length) :
    takE c (lkAt c.spare i).pos = 0 ∧ takC c (lkAt c.spare i).pos = ⟨c.next, c.sec, c.spare.eraseIdx i⟩ ∧ takL c (lkAt c.spare i).pos = lkAt c.spare i := by
  have hs : spAt c.spare (lkAt c.spare i).pos = i := spAt_eq hi rfl fun j hj e => by have := h.lt hj hi; omega
  obtain ⟨a1, a2, _, _⟩ := h.each i hi
  have hhi := h.hi
  have e : takE c (lkAt c.spare i).pos = 0 := by
    unfold takE
    rw [if_neg (by omega), hs, if_pos hi]
  refine ⟨e, ?_, ?_⟩
  · unfold takC
    rw [if_neg (by rw [e]; decide), hs, if_pos hi]
  · unfold takL
    rw [if_neg (by rw [e]; decide), hs, if_pos hi]
theorem tak_stale {c : Ch} (h : c.ok) {a : Int} (h0 : 0 ≤ a) (h1 : a < c.next) (hn : ∀ i, i < c.spare.length → (lkAt c.spare i).pos ≠ a) : takE c a = 9 := by
  have hhi := h.hi
  unfold takE
  rw [if_neg (by omega), spAt_none hn, if_neg (by omega), if_pos h1]
theorem tak_bad {c : Ch} {a : Int} (h : takE c a ≠ 0) : takC c a = c ∧ takL c a = noLk := ⟨if_pos h, if_pos h⟩
theorem tak_gone {c : Ch} (h : c.ok) {i : Nat} (hi : i < c.spare.length) : takE (⟨c.next, c.sec, c.spare.eraseIdx i⟩ : Ch) (lkAt c.spare i).pos = 9 := by
  obtain ⟨a1, a2, _, _⟩ := h.each i hi
  refine tak_stale (h.erase hi) a1 a2 fun j hj => ?_
  have hj' : j < (c.spare.eraseIdx i).length := hj
  rw [erase_length hi] at hj'
  show (lkAt (c.spare.eraseIdx i) j).pos ≠ _
  rw [lkAt_erase]
  split
  · next h1 => intro e; have := h.lt h1 hi; omega
  · next h1 => intro e; have := h.lt (show i < j + 1 by omega) (by omega); omega
structure Onc (s : List UInt8) (c : Ch) (T : List Int) : Prop where
  mk ::
  ok : c.ok
  sec : c.sec = onB s 0 c.next.toNat
  each : ∀ i, i < c.spare.length → lkAt c.spare i = lockB (onB s 0 (lkAt c.spare i).pos.toNat) (lkAt c.spare i).pos.toNat
  gone : ∀ t, t ∈ T → 0 ≤ t ∧ t < c.next ∧ ∀ i, i < c.spare.length → (lkAt c.spare i).pos ≠ t
theorem Onc.start (s : List UInt8) (h : s.length = 32) : Onc s ⟨0, s, []⟩ [] :=
  ⟨⟨by show (0 : Int) ≤ 0; omega, by show (0 : Int) ≤ _; omega, h, by simp, fun i hi => by simp at hi, fun i hi => by simp at hi⟩, rfl, fun i hi => by simp at hi, fun t ht => by simp at ht⟩
theorem num4_ok {a : Nat} (h : a ≤ 4294967295) : numE (a : Int) 4 = 0 ∧ numB (a : Int) 4 = be 4 a := by
  have h4 : numOk (a : Int) 4 := ⟨by omega, by omega, by omega, (by have : (256 : Int) ^ (4 : Int).toNat = 4294967296 := (by decide); omega)⟩
  have := num_yes h4
  exact ⟨this.1, by rw [this.2]; rfl⟩
theorem refPart13_any (vk vc : Value) (s : ByteArray) (k c : List UInt8) (n : Nat) (w : World) (hk : Rd w vk k) (hc : Rd w vc c) (hs : s.size ≤ 300) (hcl : c.length ≤ 1400) (hkl : k.length ≤ 2000) (hn : (n : Int) ≤ 8160) :
    Calls Tryz.prog 42 #[vk, .string s, vc, .int .i64 n] w fun e w' => (∃ u, e = .returned u ∧ Rd w' u (partB k s c n) ∧ Newer w.heap.size u) ∧ Kp w w' := by
  have HL := Lib.hid (refLabel_new vk s vc k c n w hk hc hs hcl hkl)
  rw [(partB_lab k s c n hn).1, (partB_lab k s c n hn).2] at HL
  obtain ⟨a1, n1, c1, rfl⟩ := hk.sl
  obtain ⟨a2, n2, c2, rfl⟩ := hc.sl
  clear hk hc
  go_enter Tryz.func42, Tryz.ntmps42
  go_wp2_with fail
  refine HL.out.mono ?_
  rintro _ w1 ⟨⟨u, rfl, o1, m1⟩, k1⟩
  go_wp2_with fail
  go_ret
  exact ⟨⟨_, rfl, o1, m1⟩, k1⟩
theorem refNext13_any (v : Value) (s : List UInt8) (a : Nat) (w : World) (h : Rd w v s) (hl : s.length ≤ 2000) (ha : a ≤ 4294967295) :
    Calls Tryz.prog 35 #[v, .int .i64 a] w fun e w' => (∃ u, e = .returned u ∧ Rd w' u (nxtB s a) ∧ Newer w.heap.size u) ∧ Kp w w' := by
  have HN := Lib.hid (refNum_any (a : Int) 4 w (by omega))
  rw [(num4_ok ha).1, (num4_ok ha).2] at HN
  have HP := Lib.hid (fun W vc (k : Kp w W) (hc : Rd W vc (be 4 a)) => refPart13_any v vc nextS s (be 4 a) 32 W (h.kp k) hc (by decide) (by rw [be_length]; omega) hl (by decide))
  have HM : Hid (partB s nextS (be 4 a) 32 = nxtB s a) := rfl
  rw [HM.out] at HP
  obtain ⟨a1, n1, c1, rfl⟩ := h.sl
  unfold nextS at *
  generalize be 4 a = Z at *
  clear h
  go_enter Tryz.func35, Tryz.ntmps35
  go_wp2_with fail
  refine (HN.out).mono ?_
  rintro _ w1 ⟨v1, rfl, o1, k1⟩
  obtain ⟨a2, n2, c2, rfl⟩ := o1.rd.sl
  go_wp2_with fail
  refine (HP.out _ _ k1 o1.rd).mono ?_
  rintro _ w2 ⟨⟨u, rfl, o2, m2⟩, k2⟩
  go_wp2_with fail
  go_ret
  exact ⟨⟨_, rfl, o2, m2.kp k1⟩, k1.trans k2⟩
theorem infoLk3 : (Tryz.prog.info? 43).map (·.size) = some (#[Value.int .i64 0, .slice none 0 0, .slice none 0 0] : Array Value).size := by kernel_rfl
set_option maxHeartbeats 2000000 in
theorem refLock13_any (v : Value) (s : List UInt8) (a : Nat) (w : World) (h : Rd w v s) (hl : s.length ≤ 2000) (ha : a ≤ 4294967295) :
    Calls Tryz.prog 34 #[v, .int .i64 a] w fun e w' => (∃ x y, e = .returned (.agg #[.int .i64 a, x, y]) ∧ LIn w' x y (lockB s a) ∧ Newer w.heap.size x ∧ Newer w.heap.size y) ∧ Kp w w' := by
  obtain ⟨w1, hw1⟩ : ∃ w1, w.alloc (.cells #[.int .i64 0, .slice none 0 0, .slice none 0 0] 43) = w1 := ⟨_, rfl⟩
  have hb : Bx w1 w.heap.size 43 #[.int .i64 0, .slice none 0 0, .slice none 0 0] := by rw [← hw1]; exact Bx.new w _ _
  have hk1 : Kp w w1 := by rw [← hw1]; exact (Kp.refl _).alloc _
  have HN := Lib.hid (refNum_any (a : Int) 4 w1 (by omega))
  rw [(num4_ok ha).1, (num4_ok ha).2] at HN
  have HP := Lib.hid (fun W vc (k : Kp w W) (hc : Rd W vc (be 4 a)) => refPart13_any v vc keyS s (be 4 a) 32 W (h.kp k) hc (by decide) (by rw [be_length]; omega) hl (by decide))
  have HQ := Lib.hid (fun W vc (k : Kp w W) (hc : Rd W vc (be 4 a)) => refPart13_any v vc nonceS s (be 4 a) 12 W (h.kp k) hc (by decide) (by rw [be_length]; omega) hl (by decide))
  have HM : Hid (∀ W x y, Rd W x (partB s keyS (be 4 a) 32) → Rd W y (partB s nonceS (be 4 a) 12) → LIn W x y (lockB s a)) := fun W x y h1 h2 => ⟨h1, h2⟩
  obtain ⟨a1, n1, c1, rfl⟩ := h.sl
  generalize partB s keyS (be 4 a) 32 = KB at *
  generalize partB s nonceS (be 4 a) 12 = NB at *
  unfold keyS at HP
  unfold nonceS at HQ
  generalize be 4 a = Z at *
  have HB := Lib.hid hb
  have HSZ : Hid (w1.heap.size = w.heap.size + 1) := by rw [← hw1]; exact World.size_alloc _ _
  have K1 := Lib.hid hk1
  have HW := Lib.hid hw1
  clear h hb hk1 hw1
  go_enter Tryz.func34, Tryz.ntmps34
  go_wp2_with fail
  rw [HW.out]
  refine (HN.out).mono ?_
  rintro _ w2 ⟨v2, rfl, o2, k2⟩
  obtain ⟨a2, n2, c2, rfl⟩ := o2.rd.sl
  have K2 := Lib.hid (K1.out.trans k2)
  have HS1 := Lib.hid K1.out.size
  go_wp2_with fail
  refine (HP.out _ _ K2.out o2.rd).mono ?_
  rintro _ w3 ⟨⟨u3, rfl, o3, m3⟩, k3⟩
  obtain ⟨a3, n3, c3, rfl⟩ := o3.sl
  go_wp2_with fail
  refine (HQ.out _ _ (K2.out.trans k3) (o2.rd.kp k3)).mono ?_
  rintro _ w4 ⟨⟨u4, rfl, o4, m4⟩, k4⟩
  obtain ⟨a4, n4, c4, rfl⟩ := o4.sl
  have B4 := Lib.hid ((HB.out.kp k2).kp (k3.trans k4))
  have K4 := Lib.hid (K2.out.trans (k3.trans k4))
  have o3' := o3.kp k4
  have HS2 : w.heap.size + 1 ≤ w2.heap.size := by rw [← HSZ.out]; exact k2.size
  have M3 := Lib.hid (show Newer (w.heap.size + 1) (.slice a3 n3 c3) from m3.mono HS2)
  have M4 := Lib.hid (show Newer (w.heap.size + 1) (.slice a4 n4 c4) from (m4.kp k3).mono HS2)
  clear K1 HS1 k2 k3 k4 m3 m4 o3 HSZ HS2
  go_wp2_with (refine wpList_store_row rfl rfl 43 (.tmp 4) (.tmp 19) rfl w.heap.size 43 _ #[.int .i64 a, .slice a3 n3 c3, .slice a4 n4 c4] rfl rfl B4.out rfl (three_one rfl rfl rfl) infoLk3 ?_; intro w5 b5 g5 kp5)
  have K5 := kp5 _ K4.out (Nat.le_refl _)
  refine bodyPost_ret (results_cell1 rfl _ _ w.heap.size _ _ (0, 0) _ rfl b5 Tryz.underlying43 rfl infoLk3) rfl ?_
  exact ⟨⟨_, _, rfl, HM.out _ _ _ (o3'.stepNew g5 M3.out) (o4.stepNew g5 M4.out), M3.out.mono (Nat.le_succ _), M4.out.mono (Nat.le_succ _)⟩, K5⟩
set_option maxHeartbeats 2000000 in
theorem refNode13_any (v : Value) (send : List UInt8) (K : Nat) (hK : K ≤ 10) (hl : send.length ≤ 2000) : ∀ (d q : Nat) (w : World), d ≤ K → q < 2 ^ d → Rd w v send →
    Calls Tryz.prog 24 #[v, .int .i64 ((2 ^ K : Nat) : Int), .int .i64 ((nd (K - d) q : Nat) : Int)] w fun e w' => (∃ u, e = .returned u ∧ Rd w' u (secD send d q) ∧ Newer w.heap.size u) ∧ Kp w w'
  | 0, q, w, hd, hq, h => by
    have hq0 : q = 0 := by simpa using hq
    subst hq0
    have h1 := p2_le hK
    have h2 := nd_small hK (Nat.le_refl K) (q := 0) (by simp)
    have h1' : -9223372036854775808 ≤ ((2 ^ K : Nat) : Int) ∧ ((2 ^ K : Nat) : Int) ≤ 9223372036854775807 := by clear h2; generalize 2 ^ K = M at *; omega
    have HPA := Lib.hid (refParent_any ((nd K 0 : Nat) : Int) ((2 ^ K : Nat) : Int) w h1')
    clear h1'
    rw [(pa_root hK).1, (pa_root hK).2.1] at HPA
    have HP := Lib.hid (refPart13_any v (.slice none 0 0) treeS send [] 32 w h (rd_nil w) (by decide) (by simp) hl (by decide))
    have HM : Hid (partB send treeS [] 32 = secD send 0 0) := rfl
    rw [HM.out] at HP
    rw [Nat.sub_zero]
    obtain ⟨a1, n1, c1, rfl⟩ := h.sl
    unfold treeS at HP
    generalize nd K 0 = X at *
    generalize 2 ^ K = M at *
    clear h
    go_enter Tryz.func24, Tryz.ntmps24
    go_wp2_with fail
    refine HPA.out.mono ?_; rintro _ _ ⟨rfl, rfl⟩
    go_wp2_with fail
    refine HP.out.mono ?_
    rintro _ w1 ⟨⟨u, rfl, o1, m1⟩, k1⟩
    go_wp2_with fail
    go_ret
    exact ⟨⟨_, rfl, o1, m1⟩, k1⟩
  | d + 1, q, w, hd, hq, h => by
    have h1 := p2_le hK
    have hj : K - (d + 1) < K := by omega
    have hq' : q < 2 ^ (K - (K - (d + 1))) := by rw [show K - (K - (d + 1)) = d + 1 by omega]; exact hq
    have h2 := nd_small hK (Nat.le_of_lt hj) hq'
    have hq2 : q / 2 < 2 ^ d := by rw [p2_succ] at hq; omega
    have h3 := nd_small hK (show K - d ≤ K by omega) (q := q / 2) (by rw [show K - (K - d) = d by omega]; exact hq2)
    have h1' : -9223372036854775808 ≤ ((2 ^ K : Nat) : Int) ∧ ((2 ^ K : Nat) : Int) ≤ 9223372036854775807 := by clear h2 h3 hq' hq2 hq; generalize 2 ^ K = M at *; omega
    have HPA := Lib.hid (refParent_any ((nd (K - (d + 1)) q : Nat) : Int) ((2 ^ K : Nat) : Int) w h1')
    clear h1'
    rw [(pa_yes hK hj hq').1, (pa_yes hK hj hq').2.1, show K - (d + 1) + 1 = K - d by omega] at HPA
    have HIH := Lib.hid (refNode13_any v send K hK hl d (q / 2) w (by omega) hq2 h)
    have hsl := secD_length send d (q / 2)
    have HP := Lib.hid (fun W u (hu : Rd W u (secD send d (q / 2))) (s : ByteArray) (hs : s.size ≤ 300) => refPart13_any u (.slice none 0 0) s (secD send d (q / 2)) [] 32 W hu (rd_nil W) hs (by simp) (by omega) (by decide))
    have HS : Hid (secD send (d + 1) q = partB (secD send d (q / 2)) (if q % 2 = 1 then rightS13 else leftS) [] 32) := rfl
    have hlt : nd (K - (d + 1)) q < nd (K - d) (q / 2) ↔ q % 2 = 0 := by
      have e1 : K - d = (K - (d + 1)) + 1 := by omega
      rw [e1]
      generalize K - (d + 1) = j at *
      have hp := p2_pos j
      rcases Nat.mod_two_eq_zero_or_one q with h4 | h4
      · have h5 := nd_left j (q / 2)
        rw [show 2 * (q / 2) = q by omega] at h5
        constructor
        · intro _; exact h4
        · intro _; omega
      · have h5 := nd_right j (q / 2)
        rw [show 2 * (q / 2) + 1 = q by omega] at h5
        constructor
        · intro _; omega
        · intro _; omega
    obtain ⟨a1, n1, c1, rfl⟩ := h.sl
    generalize nd (K - (d + 1)) q = X at *
    generalize nd (K - d) (q / 2) = Y at *
    generalize secD send d (q / 2) = SS at *
    generalize secD send (d + 1) q = TT at *
    generalize 2 ^ K = M at *
    clear h hj hq' h2 h3 hq hq2
    by_cases h4 : q % 2 = 0
    · have h5 : (X : Int) < (Y : Int) := by have := hlt.2 h4; omega
      have HS2 : Hid (TT = partB SS leftS [] 32) := by have := HS.out; rwa [if_neg (by omega)] at this
      have HP2 := Lib.hid (fun W u hu => HP.out W u hu leftS (by decide))
      rw [← HS2.out] at HP2
      unfold leftS at HP2
      clear HP HS HS2 hlt
      go_enter Tryz.func24, Tryz.ntmps24
      go_wp2_with fail
      refine HPA.out.mono ?_; rintro _ _ ⟨rfl, rfl⟩
      go_wp2_with fail
      refine HIH.out.mono ?_
      rintro _ w1 ⟨⟨u, rfl, o1, m1⟩, k1⟩
      obtain ⟨a2, n2, c2, rfl⟩ := o1.sl
      go_wp2_with fail
      refine (HP2.out _ _ o1).mono ?_
      rintro _ w2 ⟨⟨u2, rfl, o2, m2⟩, k2⟩
      go_wp2_with fail
      go_ret
      exact ⟨⟨_, rfl, o2, m2.kp k1⟩, k1.trans k2⟩
    · have h5 : ¬ (X : Int) < (Y : Int) := by intro h6; exact h4 (hlt.1 (by omega))
      have HS2 : Hid (TT = partB SS rightS13 [] 32) := by have := HS.out; rwa [if_pos (by omega)] at this
      have HP2 := Lib.hid (fun W u hu => HP.out W u hu rightS13 (by decide))
      rw [← HS2.out] at HP2
      unfold rightS13 at HP2
      clear HP HS HS2 hlt
      go_enter Tryz.func24, Tryz.ntmps24
      go_wp2_with fail
      refine HPA.out.mono ?_; rintro _ _ ⟨rfl, rfl⟩
      go_wp2_with fail
      refine HIH.out.mono ?_
      rintro _ w1 ⟨⟨u, rfl, o1, m1⟩, k1⟩
      obtain ⟨a2, n2, c2, rfl⟩ := o1.sl
      go_wp2_with fail
      refine (HP2.out _ _ o1).mono ?_
      rintro _ w2 ⟨⟨u2, rfl, o2, m2⟩, k2⟩
      go_wp2_with fail
      go_ret
      exact ⟨⟨_, rfl, o2, m2.kp k1⟩, k1.trans k2⟩
set_option maxHeartbeats 2000000 in
theorem refLeaf13_any (v : Value) (send : List UInt8) (n i : Int) (w : World) (h : Rd w v send) (hn : -9223372036854775808 ≤ n ∧ n ≤ 9223372036854775807) (hi : -9223372036854775808 ≤ i ∧ i ≤ 9223372036854775807) :
    Calls Tryz.prog 9 #[v, .int .i64 n, .int .i64 i] w fun e w' => (∃ u, e = .returned (.tuple #[u, .int .i64 (leafE send n i)]) ∧ Rd w' u (leafR send n i) ∧ Newer w.heap.size u) ∧ Kp w w' := by
  have HWD := Lib.hid (refWidth_any n w)
  obtain ⟨a1, c1, rfl, hc1, hc2⟩ := h.shape
  unfold maxLen at hc2
  by_cases hT : isTB n = true
  · obtain ⟨K, hK, rfl⟩ := (isTB_iff n).1 hT
    have h1 := p2_le hK
    have e1 : widE ((2 ^ K : Nat) : Int) = 0 := if_pos hT
    rw [e1] at HWD
    by_cases hs : send.length = 32
    · by_cases h0 : 0 ≤ i
      · obtain ⟨q, rfl⟩ := Int.eq_ofNat_of_zero_le h0
        by_cases hq : q < 2 ^ K
        · rw [(leaf_yes hs hK hq).1, (leaf_yes hs hK hq).2]
          have HN := Lib.hid (refNode13_any (.slice a1 send.length c1) send K hK (by omega) K q w (Nat.le_refl _) hq h)
          rw [Nat.sub_self, nd_leaf] at HN
          have i1 : IntKind.i64.wrap (2 * (q : Int)) = ((2 * q : Nat) : Int) := by rw [IntWalk.i64_in _ (by omega)]; omega
          have i2 : ¬ (((2 ^ K : Nat) : Int)) ≤ (q : Int) := by omega
          rw [hs] at HN ⊢
          generalize widV ((2 ^ K : Nat) : Int) = WV at *
          generalize 2 ^ K = M at *
          clear h hs hT e1
          go_enter Tryz.func9, Tryz.ntmps9
          go_wp2_with fail
          refine HWD.out.mono ?_; rintro _ _ ⟨rfl, rfl⟩
          go_wp2_with fail
          refine HN.out.mono ?_
          rintro _ w1 ⟨⟨u, rfl, o1, m1⟩, k1⟩
          obtain ⟨a2, n2, c2, rfl⟩ := o1.sl
          go_wp2_with fail
          go_ret2
          exact ⟨⟨_, rfl, o1, m1⟩, k1⟩
        · rw [(leaf_no (fun h => hq (by have := h.2.2.2; omega))).1, (leaf_no (fun h => hq (by have := h.2.2.2; omega))).2]
          have i2 : (((2 ^ K : Nat) : Int)) ≤ (q : Int) := by omega
          rw [hs]
          generalize widV ((2 ^ K : Nat) : Int) = WV at *
          generalize 2 ^ K = M at *
          clear h hs hT e1
          go_enter Tryz.func9, Tryz.ntmps9
          go_wp2_with fail
          refine HWD.out.mono ?_; rintro _ _ ⟨rfl, rfl⟩
          go_wp2_with fail
          go_ret2
          exact ⟨⟨_, rfl, rd_nil _, Newer.nil _ _ _⟩, Kp.refl _⟩
      · rw [(leaf_no (fun h => h0 h.2.2.1)).1, (leaf_no (fun h => h0 h.2.2.1)).2]
        have i1 : i < 0 := by omega
        rw [hs]
        generalize widV ((2 ^ K : Nat) : Int) = WV at *
        generalize 2 ^ K = M at *
        clear h hs hT e1
        go_enter Tryz.func9, Tryz.ntmps9
        go_wp2_with fail
        refine HWD.out.mono ?_; rintro _ _ ⟨rfl, rfl⟩
        go_wp2_with fail
        go_ret2
        exact ⟨⟨_, rfl, rd_nil _, Newer.nil _ _ _⟩, Kp.refl _⟩
    · rw [(leaf_no (fun h => hs h.2.1)).1, (leaf_no (fun h => hs h.2.1)).2]
      have i1 : ¬ (send.length : Int) = 32 := by omega
      generalize widV ((2 ^ K : Nat) : Int) = WV at *
      generalize 2 ^ K = M at *
      clear h hs hT e1
      go_enter Tryz.func9, Tryz.ntmps9
      go_wp2_with fail
      refine HWD.out.mono ?_; rintro _ _ ⟨rfl, rfl⟩
      go_wp2_with fail
      go_ret2
      exact ⟨⟨_, rfl, rd_nil _, Newer.nil _ _ _⟩, Kp.refl _⟩
  · rw [(leaf_no (fun h => hT h.1)).1, (leaf_no (fun h => hT h.1)).2]
    have e1 : widE n = 1 := if_neg hT
    rw [e1] at HWD
    generalize widV n = WV at *
    clear h hT e1
    go_enter Tryz.func9, Tryz.ntmps9
    go_wp2_with fail
    refine HWD.out.mono ?_; rintro _ _ ⟨rfl, rfl⟩
    go_wp2_with fail
    go_ret2
    exact ⟨⟨_, rfl, rd_nil _, Newer.nil _ _ _⟩, Kp.refl _⟩
end Go.Proofs.YtigpgcjbpoaclaaGreatDoor

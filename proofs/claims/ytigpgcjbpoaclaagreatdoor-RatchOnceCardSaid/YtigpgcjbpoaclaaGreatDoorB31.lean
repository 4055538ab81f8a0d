import Derived.Test.YtigpgcjbpoaclaaGreatDoorB4
import Derived.Test.YtigpgcjbpoaclaaGreatDoorB21
import Derived.Test.YtigpgcjbpoaclaaGreatDoorB25
import Derived.Test.YtigpgcjbpoaclaaGreatDoorB26
import Derived.Test.YtigpgcjbpoaclaaGreatDoorB29
import Derived.Test.YtigpgcjbpoaclaaGreatDoorB30
set_option linter.unusedVariables false
set_option linter.unusedSimpArgs false
namespace Go.Proofs.YtigpgcjbpoaclaaGreatDoor
open Go.RowKit
theorem Ch.ok.none {c : Ch} (h : c.ok) {a : Int} (ha : c.next ≤ a) : spAt c.spare a = c.spare.length :=
  spAt_none fun j hj e => by have := (h.each j hj).2.1; omega
theorem tak_step {c : Ch} (h : c.ok) (n : Nat) (hn : n ≤ 100) (hm : c.next + n + 1 ≤ 4294967294) :
    takE c (c.next + n) = 0 ∧ takC c (c.next + n) = ⟨c.next + n + 1, onB c.sec c.next.toNat (n + 1), lastL (c.spare ++ passB c.sec c.next.toNat n)⟩ ∧ takL c (c.next + n) = lockB (onB c.sec c.next.toNat n) (c.next.toNat + n) := by
  have h1 := h.none (a := c.next + n) (by omega)
  have hlo := h.lo
  have e : takE c (c.next + n) = 0 := by
    unfold takE
    rw [if_neg (by omega), if_neg (by omega), if_neg (by omega), if_neg (by omega)]
  refine ⟨e, ?_, ?_⟩
  · unfold takC
    rw [if_neg (by rw [e]; decide), if_neg (by omega), show (c.next + (n : Int) - c.next).toNat = n by omega]
  · unfold takL
    rw [if_neg (by rw [e]; decide), if_neg (by omega), show (c.next + (n : Int) - c.next).toNat = n by omega, show (c.next + (n : Int)).toNat = c.next.toNat + n by omega]
theorem tak_spare {c : Ch} (h : c.ok) {i : Nat} (hi : i < c.spare.length) :
    takE c (lkAt c.spare i).pos = 0 ∧ takC c (lkAt c.spare i).pos = ⟨c.next, c.sec, c.spare.eraseIdx i⟩ ∧ takL c (lkAt c.spare i).pos = lkAt c.spare i := by
  have hs : spAt c.spare (lkAt c.spare i).pos = i := spAt_eq hi rfl fun j hj e => by have := h.lt hj hi; omega
  obtain ⟨a1, a2, _, _⟩ := h.each i hi
  have hhi := h.hi
  have e : takE c (lkAt c.spare i).pos = 0 := by
    unfold takE
    rw [if_neg (by omega), hs, if_pos hi]
  refine ⟨e, ?_, ?_⟩
  · unfold takC
    rw [if_neg (by rw [e]; decide), hs, if_pos hi]
  · unfold takL
    rw [if_neg (by rw [e]; decide), hs, if_pos hi]
theorem tak_stale {c : Ch} (h : c.ok) {a : Int} (h0 : 0 ≤ a) (h1 : a < c.next) (hn : ∀ i, i < c.spare.length → (lkAt c.spare i).pos ≠ a) : takE c a = 9 := by
  have hhi := h.hi
  unfold takE
  rw [if_neg (by omega), spAt_none hn, if_neg (by omega), if_pos h1]
theorem tak_bad {c : Ch} {a : Int} (h : takE c a ≠ 0) : takC c a = c ∧ takL c a = noLk := ⟨if_pos h, if_pos h⟩
theorem tak_gone {c : Ch} (h : c.ok) {i : Nat} (hi : i < c.spare.length) : takE (⟨c.next, c.sec, c.spare.eraseIdx i⟩ : Ch) (lkAt c.spare i).pos = 9 := by
  obtain ⟨a1, a2, _, _⟩ := h.each i hi
  refine tak_stale (h.erase hi) a1 a2 fun j hj => ?_
  have hj' : j < (c.spare.eraseIdx i).length := hj
  rw [erase_length hi] at hj'
  show (lkAt (c.spare.eraseIdx i) j).pos ≠ _
  rw [lkAt_erase]
  split
  · next h1 => intro e; have := h.lt h1 hi; omega
  · next h1 => intro e; have := h.lt (show i < j + 1 by omega) (by omega); omega
structure Onc (s : List UInt8) (c : Ch) (T : List Int) : Prop where
  mk ::
  ok : c.ok
  sec : c.sec = onB s 0 c.next.toNat
  each : ∀ i, i < c.spare.length → lkAt c.spare i = lockB (onB s 0 (lkAt c.spare i).pos.toNat) (lkAt c.spare i).pos.toNat
  gone : ∀ t, t ∈ T → 0 ≤ t ∧ t < c.next ∧ ∀ i, i < c.spare.length → (lkAt c.spare i).pos ≠ t
theorem Onc.had {s : List UInt8} {c : Ch} {T : List Int} (h : Onc s c T) {a : Int} (ha : a ∈ T) : takE c a = 9 := by
  obtain ⟨h0, h1, h2⟩ := h.gone a ha
  exact tak_stale h.ok h0 h1 h2
theorem Onc.took {s : List UInt8} {c : Ch} {T : List Int} (h : Onc s c T) {a : Int} (he : takE c a = 0) :
    takL c a = lockB (onB s 0 a.toNat) a.toNat ∧ Onc s (takC c a) (T ++ [a]) := by
  have hz := takE_zero he
  have hlo := h.ok.lo
  rcases hz.2 with hs | ⟨_, h1, h2, h3⟩
  · obtain ⟨i, hi⟩ : ∃ i, spAt c.spare a = i := ⟨_, rfl⟩
    rw [hi] at hs
    have ha : (lkAt c.spare i).pos = a := by rw [← hi]; exact spAt_is (by omega)
    subst ha
    obtain ⟨_, e2, e3⟩ := tak_spare h.ok hs
    rw [e2, e3]
    refine ⟨h.each i hs, h.ok.erase hs, h.sec, fun j hj => ?_, fun t ht => ?_⟩
    · have hj' : j < (c.spare.eraseIdx i).length := hj
      rw [erase_length hs] at hj'
      show lkAt (c.spare.eraseIdx i) j = lockB (onB s 0 (lkAt (c.spare.eraseIdx i) j).pos.toNat) (lkAt (c.spare.eraseIdx i) j).pos.toNat
      rw [lkAt_erase]
      split
      · exact h.each _ (by omega)
      · exact h.each _ (by omega)
    · have hq : ∀ j, j < (c.spare.eraseIdx i).length → ∃ k, k < c.spare.length ∧ k ≠ i ∧ lkAt (c.spare.eraseIdx i) j = lkAt c.spare k := by
        intro j hj'
        rw [erase_length hs] at hj'
        rw [lkAt_erase]
        split
        · exact ⟨j, by omega, by omega, rfl⟩
        · exact ⟨j + 1, by omega, by omega, rfl⟩
      rcases List.mem_append.1 ht with ht | ht
      · obtain ⟨g0, g1, g2⟩ := h.gone t ht
        refine ⟨g0, g1, fun j hj => ?_⟩
        obtain ⟨k, k1, _, k3⟩ := hq j hj
        show (lkAt (c.spare.eraseIdx i) j).pos ≠ t
        rw [k3]
        exact g2 k k1
      · obtain rfl : t = (lkAt c.spare i).pos := by simpa using ht
        obtain ⟨a1, a2, _, _⟩ := h.ok.each i hs
        refine ⟨a1, a2, fun j hj => ?_⟩
        obtain ⟨k, k1, k2, k3⟩ := hq j hj
        show (lkAt (c.spare.eraseIdx i) j).pos ≠ _
        rw [k3]
        exact fun e => k2 (h.ok.inj k1 hs e)
  · obtain ⟨n, hn⟩ : ∃ n : Nat, a = c.next + n := ⟨(a - c.next).toNat, by omega⟩
    subst hn
    obtain ⟨N, hN⟩ : ∃ N, c.next.toNat = N := ⟨_, rfl⟩
    have hcn : c.next = (N : Int) := by omega
    obtain ⟨_, e2, e3⟩ := tak_step h.ok n (by omega) (by omega)
    have hk := h.ok.step n (by omega)
    rw [e2, e3]
    rw [hN] at hk ⊢
    have hsec := h.sec
    rw [hN] at hsec
    have hon : ∀ j, onB c.sec N j = onB s 0 (N + j) := fun j => by rw [hsec, onB_add, Nat.zero_add]
    have hT : (c.next + (n : Int)).toNat = N + n := by omega
    rw [hT]
    have hl : (c.spare ++ passB c.sec N n).length = c.spare.length + n := by rw [List.length_append, passB_length]
    have hat : ∀ j, j < (lastL (c.spare ++ passB c.sec N n)).length → ∃ k, k < c.spare.length + n ∧ lkAt (lastL (c.spare ++ passB c.sec N n)) j = if k < c.spare.length then lkAt c.spare k else lockB (onB s 0 (N + (k - c.spare.length))) (N + (k - c.spare.length)) := by
      intro j hj
      rw [lastL_length, hl] at hj
      refine ⟨c.spare.length + n - 32 + j, by omega, ?_⟩
      rw [lkAt_last, hl, lkAt_both _ _ _ _ _ (by omega), hon]
    refine ⟨by rw [hon], hk, ?_, fun j hj => ?_, fun t ht => ?_⟩
    · show onB c.sec N (n + 1) = onB s 0 (c.next + n + 1).toNat
      rw [hon, show (c.next + (n : Int) + 1).toNat = N + (n + 1) by omega]
    · obtain ⟨k, k1, k2⟩ := hat j hj
      show lkAt (lastL (c.spare ++ passB c.sec N n)) j = lockB (onB s 0 (lkAt (lastL (c.spare ++ passB c.sec N n)) j).pos.toNat) (lkAt (lastL (c.spare ++ passB c.sec N n)) j).pos.toNat
      rw [k2]
      split
      · next h4 => exact h.each k h4
      · rfl
    · have key : 0 ≤ t ∧ (t < c.next ∨ t = c.next + n) ∧ (∀ i, i < c.spare.length → (lkAt c.spare i).pos ≠ t) := by
        rcases List.mem_append.1 ht with ht | ht
        · obtain ⟨g0, g1, g2⟩ := h.gone t ht
          exact ⟨g0, .inl g1, g2⟩
        · obtain rfl : t = c.next + n := by simpa using ht
          exact ⟨by omega, .inr rfl, fun i hi e => by have := (h.ok.each i hi).2.1; omega⟩
      refine ⟨key.1, by show t < c.next + n + 1; rcases key.2.1 with h5 | h5 <;> omega, fun j hj => ?_⟩
      obtain ⟨k, k1, k2⟩ := hat j hj
      show (lkAt (lastL (c.spare ++ passB c.sec N n)) j).pos ≠ t
      rw [k2]
      split
      · next h4 => exact key.2.2 k h4
      · intro e
        have e' : ((N + (k - c.spare.length) : Nat) : Int) = t := e
        rcases key.2.1 with h5 | h5 <;> omega
theorem Onc.next {s : List UInt8} {c : Ch} {T : List Int} (h : Onc s c T) {a : Int} {m : Int} (ha : a ≤ c.next + m) (hm : 0 ≤ m) : (takC c a).next ≤ c.next + m + 1 := by
  unfold takC
  split
  · omega
  · split
    · show c.next ≤ _; omega
    · show a + 1 ≤ _; omega
theorem Onc.start (s : List UInt8) (h : s.length = 32) : Onc s ⟨0, s, []⟩ [] :=
  ⟨⟨by show (0 : Int) ≤ 0; omega, by show (0 : Int) ≤ _; omega, h, by simp, fun i hi => by simp at hi, fun i hi => by simp at hi⟩, rfl, fun i hi => by simp at hi, fun t ht => by simp at ht⟩
theorem num4_ok {a : Nat} (h : a ≤ 4294967295) : numE (a : Int) 4 = 0 ∧ numB (a : Int) 4 = be 4 a := by
  have h4 : numOk (a : Int) 4 := ⟨by omega, by omega, by omega, (by have : (256 : Int) ^ (4 : Int).toNat = 4294967296 := (by decide); omega)⟩
  have := num_yes h4
  exact ⟨this.1, by rw [this.2]; rfl⟩
theorem refPart13_any (vk vc : Value) (s : ByteArray) (k c : List UInt8) (n : Nat) (w : World) (hk : Rd w vk k) (hc : Rd w vc c) (hs : s.size ≤ 300) (hcl : c.length ≤ 1400) (hkl : k.length ≤ 2000) (hn : (n : Int) ≤ 8160) :
    Calls Tryz.prog 42 #[vk, .string s, vc, .int .i64 n] w fun e w' => (∃ u, e = .returned u ∧ Rd w' u (partB k s c n) ∧ Newer w.heap.size u) ∧ Kp w w' := by
  have HL := Lib.hid (refLabel_new vk s vc k c n w hk hc hs hcl hkl)
  rw [(partB_lab k s c n hn).1, (partB_lab k s c n hn).2] at HL
  obtain ⟨a1, n1, c1, rfl⟩ := hk.sl
  obtain ⟨a2, n2, c2, rfl⟩ := hc.sl
  clear hk hc
  go_enter Tryz.func42, Tryz.ntmps42
  go_wp2_with fail
  refine HL.out.mono ?_
  rintro _ w1 ⟨⟨u, rfl, o1, m1⟩, k1⟩
  go_wp2_with fail
  go_ret
  exact ⟨⟨_, rfl, o1, m1⟩, k1⟩
theorem refNext13_any (v : Value) (s : List UInt8) (a : Nat) (w : World) (h : Rd w v s) (hl : s.length ≤ 2000) (ha : a ≤ 4294967295) :
    Calls Tryz.prog 35 #[v, .int .i64 a] w fun e w' => (∃ u, e = .returned u ∧ Rd w' u (nxtB s a) ∧ Newer w.heap.size u) ∧ Kp w w' := by
  have HN := Lib.hid (refNum_any (a : Int) 4 w (by omega))
  rw [(num4_ok ha).1, (num4_ok ha).2] at HN
  have HP := Lib.hid (fun W vc (k : Kp w W) (hc : Rd W vc (be 4 a)) => refPart13_any v vc nextS s (be 4 a) 32 W (h.kp k) hc (by decide) (by rw [be_length]; omega) hl (by decide))
  have HM : Hid (partB s nextS (be 4 a) 32 = nxtB s a) := rfl
  rw [HM.out] at HP
  obtain ⟨a1, n1, c1, rfl⟩ := h.sl
  unfold nextS at *
  generalize be 4 a = Z at *
  clear h
  go_enter Tryz.func35, Tryz.ntmps35
  go_wp2_with fail
  refine (HN.out).mono ?_
  rintro _ w1 ⟨v1, rfl, o1, k1⟩
  obtain ⟨a2, n2, c2, rfl⟩ := o1.rd.sl
  go_wp2_with fail
  refine (HP.out _ _ k1 o1.rd).mono ?_
  rintro _ w2 ⟨⟨u, rfl, o2, m2⟩, k2⟩
  go_wp2_with fail
  go_ret
  exact ⟨⟨_, rfl, o2, m2.kp k1⟩, k1.trans k2⟩
theorem infoLk3 : (Tryz.prog.info? 43).map (·.size) = some (#[Value.int .i64 0, .slice none 0 0, .slice none 0 0] : Array Value).size := by kernel_rfl
set_option maxHeartbeats 2000000 in
theorem refLock13_any (v : Value) (s : List UInt8) (a : Nat) (w : World) (h : Rd w v s) (hl : s.length ≤ 2000) (ha : a ≤ 4294967295) :
    Calls Tryz.prog 34 #[v, .int .i64 a] w fun e w' => (∃ x y, e = .returned (.agg #[.int .i64 a, x, y]) ∧ LIn w' x y (lockB s a) ∧ Newer w.heap.size x ∧ Newer w.heap.size y) ∧ Kp w w' := by
  obtain ⟨w1, hw1⟩ : ∃ w1, w.alloc (.cells #[.int .i64 0, .slice none 0 0, .slice none 0 0] 43) = w1 := ⟨_, rfl⟩
  have hb : Bx w1 w.heap.size 43 #[.int .i64 0, .slice none 0 0, .slice none 0 0] := by rw [← hw1]; exact Bx.new w _ _
  have hk1 : Kp w w1 := by rw [← hw1]; exact (Kp.refl _).alloc _
  have HN := Lib.hid (refNum_any (a : Int) 4 w1 (by omega))
  rw [(num4_ok ha).1, (num4_ok ha).2] at HN
  have HP := Lib.hid (fun W vc (k : Kp w W) (hc : Rd W vc (be 4 a)) => refPart13_any v vc keyS s (be 4 a) 32 W (h.kp k) hc (by decide) (by rw [be_length]; omega) hl (by decide))
  have HQ := Lib.hid (fun W vc (k : Kp w W) (hc : Rd W vc (be 4 a)) => refPart13_any v vc nonceS s (be 4 a) 12 W (h.kp k) hc (by decide) (by rw [be_length]; omega) hl (by decide))
  have HM : Hid (∀ W x y, Rd W x (partB s keyS (be 4 a) 32) → Rd W y (partB s nonceS (be 4 a) 12) → LIn W x y (lockB s a)) := fun W x y h1 h2 => ⟨h1, h2⟩
  obtain ⟨a1, n1, c1, rfl⟩ := h.sl
  generalize partB s keyS (be 4 a) 32 = KB at *
  generalize partB s nonceS (be 4 a) 12 = NB at *
  unfold keyS at HP
  unfold nonceS at HQ
  generalize be 4 a = Z at *
  have HB := Lib.hid hb
  have HSZ : Hid (w1.heap.size = w.heap.size + 1) := by rw [← hw1]; exact World.size_alloc _ _
  have K1 := Lib.hid hk1
  have HW := Lib.hid hw1
  clear h hb hk1 hw1
  go_enter Tryz.func34, Tryz.ntmps34
  go_wp2_with fail
  rw [HW.out]
  refine (HN.out).mono ?_
  rintro _ w2 ⟨v2, rfl, o2, k2⟩
  obtain ⟨a2, n2, c2, rfl⟩ := o2.rd.sl
  have K2 := Lib.hid (K1.out.trans k2)
  have HS1 := Lib.hid K1.out.size
  go_wp2_with fail
  refine (HP.out _ _ K2.out o2.rd).mono ?_
  rintro _ w3 ⟨⟨u3, rfl, o3, m3⟩, k3⟩
  obtain ⟨a3, n3, c3, rfl⟩ := o3.sl
  go_wp2_with fail
  refine (HQ.out _ _ (K2.out.trans k3) (o2.rd.kp k3)).mono ?_
  rintro _ w4 ⟨⟨u4, rfl, o4, m4⟩, k4⟩
  obtain ⟨a4, n4, c4, rfl⟩ := o4.sl
  have B4 := Lib.hid ((HB.out.kp k2).kp (k3.trans k4))
  have K4 := Lib.hid (K2.out.trans (k3.trans k4))
  have o3' := o3.kp k4
  have HS2 : w.heap.size + 1 ≤ w2.heap.size := by rw [← HSZ.out]; exact k2.size
  have M3 := Lib.hid (show Newer (w.heap.size + 1) (.slice a3 n3 c3) from m3.mono HS2)
  have M4 := Lib.hid (show Newer (w.heap.size + 1) (.slice a4 n4 c4) from (m4.kp k3).mono HS2)
  clear K1 HS1 k2 k3 k4 m3 m4 o3 HSZ HS2
  go_wp2_with (refine wpList_store_row rfl rfl 43 (.tmp 4) (.tmp 19) rfl w.heap.size 43 _ #[.int .i64 a, .slice a3 n3 c3, .slice a4 n4 c4] rfl rfl B4.out rfl (three_one rfl rfl rfl) infoLk3 ?_; intro w5 b5 g5 kp5)
  have K5 := kp5 _ K4.out (Nat.le_refl _)
  refine bodyPost_ret (results_cell1 rfl _ _ w.heap.size _ _ (0, 0) _ rfl b5 Tryz.underlying43 rfl infoLk3) rfl ?_
  exact ⟨⟨_, _, rfl, HM.out _ _ _ (o3'.stepNew g5 M3.out) (o4.stepNew g5 M4.out), M3.out.mono (Nat.le_succ _), M4.out.mono (Nat.le_succ _)⟩, K5⟩
theorem Lk.ext' {a b : Lk} (h1 : a.pos = b.pos) (h2 : a.key = b.key) (h3 : a.non = b.non) : a = b := by cases a; cases b; simp_all
set_option maxRecDepth 100000 in
set_option maxHeartbeats 2000000 in
theorem refSameLock_any (x y x' y' : Value) (k m : Lk) (w : World) (hk : LIn w x y k) (hm : LIn w x' y' m) :
    Calls Tryz.prog 19 #[.agg #[.int .i64 k.pos, x, y], .agg #[.int .i64 m.pos, x', y']] w fun e w' => Tells e (k = m) ∧ Kp w w' := by
  have HK := Lib.hid (fun W (hW : Kp w W) => same_any x x' _ _ W (hk.key.kp hW) (hm.key.kp hW))
  have HN := Lib.hid (fun W (hW : Kp w W) => same_any y y' _ _ W (hk.non.kp hW) (hm.non.kp hW))
  obtain ⟨a1, n1, c1, rfl⟩ := hk.key.sl
  obtain ⟨a2, n2, c2, rfl⟩ := hk.non.sl
  obtain ⟨a3, n3, c3, rfl⟩ := hm.key.sl
  obtain ⟨a4, n4, c4, rfl⟩ := hm.non.sl
  have H1 : Hid (k.pos ≠ m.pos → ¬ k = m) := fun h e => h (by rw [e])
  have H2 : Hid (k.key ≠ m.key → ¬ k = m) := fun h e => h (by rw [e])
  have H3 : Hid (k.non ≠ m.non → ¬ k = m) := fun h e => h (by rw [e])
  have HY : Hid (k.pos = m.pos → k.key = m.key → k.non = m.non → k = m) := fun h1 h2 h3 => Lk.ext' h1 h2 h3
  clear hk hm
  generalize (k = m) = P at *
  generalize k.key = KA at *
  generalize m.key = KB at *
  generalize k.non = NA at *
  generalize m.non = NB at *
  generalize k.pos = X at *
  generalize m.pos = Y at *
  obtain ⟨w1, hw1⟩ : ∃ w1, (w.alloc (.cells #[.int .i64 X, .slice a1 n1 c1, .slice a2 n2 c2] 43)).alloc (.cells #[.int .i64 Y, .slice a3 n3 c3, .slice a4 n4 c4] 43) = w1 := ⟨_, rfl⟩
  have hb : Bx w1 w.heap.size 43 #[.int .i64 X, .slice a1 n1 c1, .slice a2 n2 c2] := by rw [← hw1]; exact (Bx.new w _ _).kp ((Kp.refl _).alloc _)
  have hb2 : Bx w1 (w.heap.size + 1) 43 #[.int .i64 Y, .slice a3 n3 c3, .slice a4 n4 c4] := by
    rw [← hw1]
    have := Bx.new (w.alloc (.cells #[.int .i64 X, .slice a1 n1 c1, .slice a2 n2 c2] 43)) 43 #[.int .i64 Y, .slice a3 n3 c3, .slice a4 n4 c4]
    rwa [World.size_alloc] at this
  have hk1 : Kp w w1 := by rw [← hw1]; exact ((Kp.refl _).alloc _).alloc _
  have K1 := Lib.hid hk1
  have d0 : w1.cell? ⟨w.heap.size, 0, none⟩ = some (.int .i64 X) := hb.cell 0
  have d1 : w1.cell? ⟨w.heap.size, 1, none⟩ = some (.slice a1 n1 c1) := hb.cell 1
  have d2 : w1.cell? ⟨w.heap.size, 2, none⟩ = some (.slice a2 n2 c2) := hb.cell 2
  have e0 : w1.cell? ⟨w.heap.size + 1, 0, none⟩ = some (.int .i64 Y) := hb2.cell 0
  have e1 : w1.cell? ⟨w.heap.size + 1, 1, none⟩ = some (.slice a3 n3 c3) := hb2.cell 1
  have e2 : w1.cell? ⟨w.heap.size + 1, 2, none⟩ = some (.slice a4 n4 c4) := hb2.cell 2
  have HW := Lib.hid hw1
  clear hb hb2 hk1 hw1
  by_cases h1 : X = Y
  · have HY1 := Lib.hid (HY.out h1)
    have t1 : (X == Y) = true := beq_iff_eq.2 h1
    by_cases h2 : KA = KB
    · rw [decide_eq_true h2] at HK
      have HY2 := Lib.hid (HY1.out h2)
      by_cases h3 : NA = NB
      · rw [decide_eq_true h3] at HN
        have HB := Lib.hid (HY2.out h3)
        clear H1 H2 H3 HY HY1 HY2 h1 h2 h3
        go_enter Tryz.func19, Tryz.ntmps19
        go_wp2_with (first | (rw [HW.out]) | fail)
        refine (HK.out _ K1.out).mono ?_; rintro _ _ ⟨rfl, rfl⟩
        go_wp2_with fail
        refine (HN.out _ K1.out).mono ?_; rintro _ _ ⟨rfl, rfl⟩
        go_wp2_with fail
        go_ret
        exact ⟨Tells.yes HB.out, K1.out⟩
      · rw [decide_eq_false h3] at HN
        have HB := Lib.hid (H3.out h3)
        clear H1 H2 H3 HY HY1 HY2 h1 h2 h3
        go_enter Tryz.func19, Tryz.ntmps19
        go_wp2_with (first | (rw [HW.out]) | fail)
        refine (HK.out _ K1.out).mono ?_; rintro _ _ ⟨rfl, rfl⟩
        go_wp2_with fail
        refine (HN.out _ K1.out).mono ?_; rintro _ _ ⟨rfl, rfl⟩
        go_wp2_with fail
        go_ret
        exact ⟨Tells.no HB.out, K1.out⟩
    · rw [decide_eq_false h2] at HK
      have HB := Lib.hid (H2.out h2)
      clear H1 H2 H3 HY HY1 h1 h2
      go_enter Tryz.func19, Tryz.ntmps19
      go_wp2_with (first | (rw [HW.out]) | fail)
      refine (HK.out _ K1.out).mono ?_; rintro _ _ ⟨rfl, rfl⟩
      go_wp2_with fail
      go_ret
      exact ⟨Tells.no HB.out, K1.out⟩
  · have t1 : (X == Y) = false := beq_eq_false_iff_ne.2 h1
    have HB := Lib.hid (H1.out h1)
    clear H1 H2 H3 HY h1
    go_enter Tryz.func19, Tryz.ntmps19
    go_wp2_with (first | (rw [HW.out]) | fail)
    go_ret
    exact ⟨Tells.no HB.out, K1.out⟩
end Go.Proofs.YtigpgcjbpoaclaaGreatDoor

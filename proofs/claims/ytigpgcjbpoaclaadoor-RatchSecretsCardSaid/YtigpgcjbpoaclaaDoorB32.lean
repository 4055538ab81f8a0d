import Derived.Test.YtigpgcjbpoaclaaDoorB20
import Derived.Test.YtigpgcjbpoaclaaDoorB22
import Derived.Test.YtigpgcjbpoaclaaDoorB24
import Derived.Test.YtigpgcjbpoaclaaDoorB27
import Derived.Test.YtigpgcjbpoaclaaDoorB31
set_option linter.unusedVariables false
set_option linter.unusedSimpArgs false
namespace Go.Proofs.YtigpgcjbpoaclaaDoor
open Go.RowKit
def leafOk (send : List UInt8) (n i : Int) : Prop := isTB n = true ∧ send.length = 32 ∧ 0 ≤ i ∧ i < n
instance (send : List UInt8) (n i : Int) : Decidable (leafOk send n i) := by unfold leafOk; infer_instance
def leafE (send : List UInt8) (n i : Int) : Int := if leafOk send n i then 0 else 1
def leafR (send : List UInt8) (n i : Int) : List UInt8 := if leafOk send n i then secD send (lgN n) i.toNat else []
theorem leaf_no {send : List UInt8} {n i : Int} (h : ¬ leafOk send n i) : leafE send n i = 1 ∧ leafR send n i = [] := ⟨if_neg h, if_neg h⟩
theorem leaf_yes {send : List UInt8} {K q : Nat} (hs : send.length = 32) (hK : K ≤ 10) (hq : q < 2 ^ K) : leafE send ((2 ^ K : Nat) : Int) (q : Int) = 0 ∧ leafR send ((2 ^ K : Nat) : Int) (q : Int) = secD send K q := by
  have h : leafOk send ((2 ^ K : Nat) : Int) (q : Int) := ⟨isTB_yes K hK, hs, by omega, by omega⟩
  refine ⟨if_pos h, ?_⟩
  unfold leafR
  rw [if_pos h, lgN_pow K hK, Int.toNat_natCast]
def startC (send : List UInt8) (n i : Int) : Ch := ⟨0, leafR send n i, []⟩
theorem Ch.ok.none {c : Ch} (h : c.ok) {a : Int} (ha : c.next ≤ a) : spAt c.spare a = c.spare.length :=
  spAt_none fun j hj e => by have := (h.each j hj).2.1; omega
theorem tak_step {c : Ch} (h : c.ok) (n : Nat) (hn : n ≤ 100) (hm : c.next + n + 1 ≤ 4294967294) :
    takE c (c.next + n) = 0 ∧ takC c (c.next + n) = ⟨c.next + n + 1, onB c.sec c.next.toNat (n + 1), lastL (c.spare ++ passB c.sec c.next.toNat n)⟩ ∧ takL c (c.next + n) = lockB (onB c.sec c.next.toNat n) (c.next.toNat + n) := by
  have h1 := h.none (a := c.next + n) (by omega)
  have hlo := h.lo
  have e : takE c (c.next + n) = 0 := by
    unfold takE
    rw [if_neg (by omega), if_neg (by omega), if_neg (by omega), if_neg (by omega)]
  refine ⟨e, ?_, ?_⟩
  · unfold takC
    rw [if_neg (by rw [e]; decide), if_neg (by omega), show (c.next + (n : Int) - c.next).toNat = n by omega]
  · unfold takL
    rw [if_neg (by rw [e]; decide), if_neg (by omega), show (c.next + (n : Int) - c.next).toNat = n by omega, show (c.next + (n : Int)).toNat = c.next.toNat + n by omega]
theorem tak_spare {c : Ch} (h : c.ok) {i : Nat} (hi : i < c.spare.length) :
    takE c (lkAt c.spare i).pos = 0 ∧ takC c (lkAt c.spare i).pos = ⟨c.next, c.sec, c.spare.eraseIdx i⟩ ∧ takL c (lkAt c.spare i).pos = lkAt c.spare i := by
  have hs : spAt c.spare (lkAt c.spare i).pos = i := spAt_eq hi rfl fun j hj e => by have := h.lt hj hi; omega
  obtain ⟨a1, a2, _, _⟩ := h.each i hi
  have hhi := h.hi
  have e : takE c (lkAt c.spare i).pos = 0 := by
    unfold takE
    rw [if_neg (by omega), hs, if_pos hi]
  refine ⟨e, ?_, ?_⟩
  · unfold takC
    rw [if_neg (by rw [e]; decide), hs, if_pos hi]
  · unfold takL
    rw [if_neg (by rw [e]; decide), hs, if_pos hi]
theorem tak_stale {c : Ch} (h : c.ok) {a : Int} (h0 : 0 ≤ a) (h1 : a < c.next) (hn : ∀ i, i < c.spare.length → (lkAt c.spare i).pos ≠ a) : takE c a = 9 := by
  have hhi := h.hi
  unfold takE
  rw [if_neg (by omega), spAt_none hn, if_neg (by omega), if_pos h1]
theorem tak_bad {c : Ch} {a : Int} (h : takE c a ≠ 0) : takC c a = c ∧ takL c a = noLk := ⟨if_pos h, if_pos h⟩
theorem tak_gone {c : Ch} (h : c.ok) {i : Nat} (hi : i < c.spare.length) : takE (⟨c.next, c.sec, c.spare.eraseIdx i⟩ : Ch) (lkAt c.spare i).pos = 9 := by
  obtain ⟨a1, a2, _, _⟩ := h.each i hi
  refine tak_stale (h.erase hi) a1 a2 fun j hj => ?_
  have hj' : j < (c.spare.eraseIdx i).length := hj
  rw [erase_length hi] at hj'
  show (lkAt (c.spare.eraseIdx i) j).pos ≠ _
  rw [lkAt_erase]
  split
  · next h1 => intro e; have := h.lt h1 hi; omega
  · next h1 => intro e; have := h.lt (show i < j + 1 by omega) (by omega); omega
theorem tak_far {c : Ch} (h : c.ok) {a : Int} (ha : c.next + 101 ≤ a) : takE c a = if a ≤ 4294967294 then 4 else 1 := by
  have hlo := h.lo
  have h1 := h.none (a := a) (by omega)
  unfold takE
  by_cases h2 : a ≤ 4294967294
  · rw [if_neg (by omega), if_neg (by omega), if_neg (by omega), if_pos (by omega), if_pos h2]
  · rw [if_pos (by omega), if_neg h2]
theorem tak_end {c : Ch} (h : c.ok) (hn : c.next = 4294967294) : takE c 4294967294 = 4 := by
  have h1 := h.none (a := 4294967294) (by omega)
  unfold takE
  rw [if_neg (by omega), if_neg (by omega), if_neg (by omega), if_pos (by omega)]
theorem Ch.ok.raise {c : Ch} (h : c.ok) {n : Int} (h1 : c.next ≤ n) (h2 : n ≤ 4294967294) : (⟨n, c.sec, c.spare⟩ : Ch).ok :=
  ⟨by have := h.lo; show 0 ≤ n; omega, h2, h.sec, h.few, fun i hi => by obtain ⟨a, b, d, e⟩ := h.each i hi; exact ⟨a, by show (lkAt c.spare i).pos < n; omega, d, e⟩, h.rise⟩
structure Onc (s : List UInt8) (c : Ch) (T : List Int) : Prop where
  mk ::
  ok : c.ok
  sec : c.sec = onB s 0 c.next.toNat
  each : ∀ i, i < c.spare.length → lkAt c.spare i = lockB (onB s 0 (lkAt c.spare i).pos.toNat) (lkAt c.spare i).pos.toNat
  gone : ∀ t, t ∈ T → 0 ≤ t ∧ t < c.next ∧ ∀ i, i < c.spare.length → (lkAt c.spare i).pos ≠ t
theorem Onc.start (s : List UInt8) (h : s.length = 32) : Onc s ⟨0, s, []⟩ [] :=
  ⟨⟨by show (0 : Int) ≤ 0; omega, by show (0 : Int) ≤ _; omega, h, by simp, fun i hi => by simp at hi, fun i hi => by simp at hi⟩, rfl, fun i hi => by simp at hi, fun t ht => by simp at ht⟩
theorem tak_one (s : List UInt8) (j : Nat) (h : s.length = 32) (hj : j ≤ 100) : takE ⟨j, s, []⟩ j = 0 ∧ takC ⟨j, s, []⟩ j = ⟨(j : Int) + 1, nxtB s j, []⟩ ∧ takL ⟨j, s, []⟩ j = lockB s j := by
  have hk : (⟨j, s, []⟩ : Ch).ok := ⟨by show (0 : Int) ≤ j; omega, by show (j : Int) ≤ _; omega, h, by simp, fun i hi => by simp at hi, fun i hi => by simp at hi⟩
  have := tak_step hk 0 (by omega) (by show (j : Int) + (0 : Nat) + 1 ≤ _; omega)
  simpa [onB, passB, lastL] using this
theorem num4_ok {a : Nat} (h : a ≤ 4294967295) : numE (a : Int) 4 = 0 ∧ numB (a : Int) 4 = be 4 a := by
  have h4 : numOk (a : Int) 4 := ⟨by omega, by omega, by omega, (by have : (256 : Int) ^ (4 : Int).toNat = 4294967296 := (by decide); omega)⟩
  have := num_yes h4
  exact ⟨this.1, by rw [this.2]; rfl⟩
theorem refPart13_any (vk vc : Value) (s : ByteArray) (k c : List UInt8) (n : Nat) (w : World) (hk : Rd w vk k) (hc : Rd w vc c) (hs : s.size ≤ 300) (hcl : c.length ≤ 1400) (hkl : k.length ≤ 2000) (hn : (n : Int) ≤ 8160) :
    Calls Tryd.prog 32 #[vk, .string s, vc, .int .i64 n] w fun e w' => (∃ u, e = .returned u ∧ Rd w' u (partB k s c n) ∧ Newer w.heap.size u) ∧ Kp w w' := by
  have HL := Lib.hid (refLabel_new vk s vc k c n w hk hc hs hcl hkl)
  rw [(partB_lab k s c n hn).1, (partB_lab k s c n hn).2] at HL
  obtain ⟨a1, n1, c1, rfl⟩ := hk.sl
  obtain ⟨a2, n2, c2, rfl⟩ := hc.sl
  clear hk hc
  go_enter Tryd.func32, Tryd.ntmps32
  go_wp2_with fail
  refine HL.out.mono ?_
  rintro _ w1 ⟨⟨u, rfl, o1, m1⟩, k1⟩
  go_wp2_with fail
  go_ret
  exact ⟨⟨_, rfl, o1, m1⟩, k1⟩
theorem refNext13_any (v : Value) (s : List UInt8) (a : Nat) (w : World) (h : Rd w v s) (hl : s.length ≤ 2000) (ha : a ≤ 4294967295) :
    Calls Tryd.prog 16 #[v, .int .i64 a] w fun e w' => (∃ u, e = .returned u ∧ Rd w' u (nxtB s a) ∧ Newer w.heap.size u) ∧ Kp w w' := by
  have HN := Lib.hid (refNum_any (a : Int) 4 w (by omega))
  rw [(num4_ok ha).1, (num4_ok ha).2] at HN
  have HP := Lib.hid (fun W vc (k : Kp w W) (hc : Rd W vc (be 4 a)) => refPart13_any v vc nextS s (be 4 a) 32 W (h.kp k) hc (by decide) (by rw [be_length]; omega) hl (by decide))
  have HM : Hid (partB s nextS (be 4 a) 32 = nxtB s a) := rfl
  rw [HM.out] at HP
  obtain ⟨a1, n1, c1, rfl⟩ := h.sl
  unfold nextS at *
  generalize be 4 a = Z at *
  clear h
  go_enter Tryd.func16, Tryd.ntmps16
  go_wp2_with fail
  refine (HN.out).mono ?_
  rintro _ w1 ⟨v1, rfl, o1, k1⟩
  obtain ⟨a2, n2, c2, rfl⟩ := o1.rd.sl
  go_wp2_with fail
  refine (HP.out _ _ k1 o1.rd).mono ?_
  rintro _ w2 ⟨⟨u, rfl, o2, m2⟩, k2⟩
  go_wp2_with fail
  go_ret
  exact ⟨⟨_, rfl, o2, m2.kp k1⟩, k1.trans k2⟩
theorem infoLk3 : (Tryd.prog.info? 37).map (·.size) = some (#[Value.int .i64 0, .slice none 0 0, .slice none 0 0] : Array Value).size := by kernel_rfl
set_option maxHeartbeats 2000000 in
theorem refLock13_any (v : Value) (s : List UInt8) (a : Nat) (w : World) (h : Rd w v s) (hl : s.length ≤ 2000) (ha : a ≤ 4294967295) :
    Calls Tryd.prog 17 #[v, .int .i64 a] w fun e w' => (∃ x y, e = .returned (.agg #[.int .i64 a, x, y]) ∧ LIn w' x y (lockB s a) ∧ Newer w.heap.size x ∧ Newer w.heap.size y) ∧ Kp w w' := by
  obtain ⟨w1, hw1⟩ : ∃ w1, w.alloc (.cells #[.int .i64 0, .slice none 0 0, .slice none 0 0] 37) = w1 := ⟨_, rfl⟩
  have hb : Bx w1 w.heap.size 37 #[.int .i64 0, .slice none 0 0, .slice none 0 0] := by rw [← hw1]; exact Bx.new w _ _
  have hk1 : Kp w w1 := by rw [← hw1]; exact (Kp.refl _).alloc _
  have HN := Lib.hid (refNum_any (a : Int) 4 w1 (by omega))
  rw [(num4_ok ha).1, (num4_ok ha).2] at HN
  have HP := Lib.hid (fun W vc (k : Kp w W) (hc : Rd W vc (be 4 a)) => refPart13_any v vc keyS s (be 4 a) 32 W (h.kp k) hc (by decide) (by rw [be_length]; omega) hl (by decide))
  have HQ := Lib.hid (fun W vc (k : Kp w W) (hc : Rd W vc (be 4 a)) => refPart13_any v vc nonceS s (be 4 a) 12 W (h.kp k) hc (by decide) (by rw [be_length]; omega) hl (by decide))
  have HM : Hid (∀ W x y, Rd W x (partB s keyS (be 4 a) 32) → Rd W y (partB s nonceS (be 4 a) 12) → LIn W x y (lockB s a)) := fun W x y h1 h2 => ⟨h1, h2⟩
  obtain ⟨a1, n1, c1, rfl⟩ := h.sl
  generalize partB s keyS (be 4 a) 32 = KB at *
  generalize partB s nonceS (be 4 a) 12 = NB at *
  unfold keyS at HP
  unfold nonceS at HQ
  generalize be 4 a = Z at *
  have HB := Lib.hid hb
  have HSZ : Hid (w1.heap.size = w.heap.size + 1) := by rw [← hw1]; exact World.size_alloc _ _
  have K1 := Lib.hid hk1
  have HW := Lib.hid hw1
  clear h hb hk1 hw1
  go_enter Tryd.func17, Tryd.ntmps17
  go_wp2_with fail
  rw [HW.out]
  refine (HN.out).mono ?_
  rintro _ w2 ⟨v2, rfl, o2, k2⟩
  obtain ⟨a2, n2, c2, rfl⟩ := o2.rd.sl
  have K2 := Lib.hid (K1.out.trans k2)
  have HS1 := Lib.hid K1.out.size
  go_wp2_with fail
  refine (HP.out _ _ K2.out o2.rd).mono ?_
  rintro _ w3 ⟨⟨u3, rfl, o3, m3⟩, k3⟩
  obtain ⟨a3, n3, c3, rfl⟩ := o3.sl
  go_wp2_with fail
  refine (HQ.out _ _ (K2.out.trans k3) (o2.rd.kp k3)).mono ?_
  rintro _ w4 ⟨⟨u4, rfl, o4, m4⟩, k4⟩
  obtain ⟨a4, n4, c4, rfl⟩ := o4.sl
  have B4 := Lib.hid ((HB.out.kp k2).kp (k3.trans k4))
  have K4 := Lib.hid (K2.out.trans (k3.trans k4))
  have o3' := o3.kp k4
  have HS2 : w.heap.size + 1 ≤ w2.heap.size := by rw [← HSZ.out]; exact k2.size
  have M3 := Lib.hid (show Newer (w.heap.size + 1) (.slice a3 n3 c3) from m3.mono HS2)
  have M4 := Lib.hid (show Newer (w.heap.size + 1) (.slice a4 n4 c4) from (m4.kp k3).mono HS2)
  clear K1 HS1 k2 k3 k4 m3 m4 o3 HSZ HS2
  go_wp2_with (refine wpList_store_row rfl rfl 37 (.tmp 4) (.tmp 19) rfl w.heap.size 37 _ #[.int .i64 a, .slice a3 n3 c3, .slice a4 n4 c4] rfl rfl B4.out rfl (three_one rfl rfl rfl) infoLk3 ?_; intro w5 b5 g5 kp5)
  have K5 := kp5 _ K4.out (Nat.le_refl _)
  refine bodyPost_ret (results_cell1 rfl _ _ w.heap.size _ _ (0, 0) _ rfl b5 Tryd.underlying37 rfl infoLk3) rfl ?_
  exact ⟨⟨_, _, rfl, HM.out _ _ _ (o3'.stepNew g5 M3.out) (o4.stepNew g5 M4.out), M3.out.mono (Nat.le_succ _), M4.out.mono (Nat.le_succ _)⟩, K5⟩
end Go.Proofs.YtigpgcjbpoaclaaDoor

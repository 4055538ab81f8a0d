import Derived.Test.YtigpgcjbpoaclaaDoorC2
import Derived.Test.YtigpgcjbpoaclaaDoorC4
import Derived.Test.YtigpgcjbpoaclaaDoorC7
import Derived.Test.YtigpgcjbpoaclaaDoorC22
import Derived.Test.YtigpgcjbpoaclaaDoorC27
import Derived.Test.YtigpgcjbpoaclaaDoorC28
import Derived.Test.YtigpgcjbpoaclaaDoorC31
import Derived.Test.YtigpgcjbpoaclaaDoorC33
set_option linter.unusedVariables false
set_option linter.unusedSimpArgs false
namespace Go.Proofs.YtigpgcjbpoaclaaDoor
open Go.RowKit
def leafOk (send : List UInt8) (n i : Int) : Prop := isTB n = true ∧ send.length = 32 ∧ 0 ≤ i ∧ i < n
instance (send : List UInt8) (n i : Int) : Decidable (leafOk send n i) := by unfold leafOk; infer_instance
def leafE (send : List UInt8) (n i : Int) : Int := if leafOk send n i then 0 else 1
def leafR (send : List UInt8) (n i : Int) : List UInt8 := if leafOk send n i then secD send (lgN n) i.toNat else []
theorem leaf_no {send : List UInt8} {n i : Int} (h : ¬ leafOk send n i) : leafE send n i = 1 ∧ leafR send n i = [] := ⟨if_neg h, if_neg h⟩
theorem leaf_yes {send : List UInt8} {K q : Nat} (hs : send.length = 32) (hK : K ≤ 10) (hq : q < 2 ^ K) : leafE send ((2 ^ K : Nat) : Int) (q : Int) = 0 ∧ leafR send ((2 ^ K : Nat) : Int) (q : Int) = secD send K q := by
  have h : leafOk send ((2 ^ K : Nat) : Int) (q : Int) := ⟨isTB_yes K hK, hs, by omega, by omega⟩
  refine ⟨if_pos h, ?_⟩
  unfold leafR
  rw [if_pos h, lgN_pow K hK, Int.toNat_natCast]
def startC (send : List UInt8) (n i : Int) : Ch := ⟨0, leafR send n i, []⟩
theorem Ch.ok.none {c : Ch} (h : c.ok) {a : Int} (ha : c.next ≤ a) : spAt c.spare a = c.spare.length :=
  spAt_none fun j hj e => by have := (h.each j hj).2.1; omega
theorem tak_step {c : Ch} (h : c.ok) (n : Nat) (hn : n ≤ 100) (hm : c.next + n + 1 ≤ 4294967294) :
    takE c (c.next + n) = 0 ∧ takC c (c.next + n) = ⟨c.next + n + 1, onB c.sec c.next.toNat (n + 1), lastL (c.spare ++ passB c.sec c.next.toNat n)⟩ ∧ takL c (c.next + n) = lockB (onB c.sec c.next.toNat n) (c.next.toNat + n) := by
  have h1 := h.none (a := c.next + n) (by omega)
  have hlo := h.lo
  have e : takE c (c.next + n) = 0 := by
    unfold takE
    rw [if_neg (by omega), if_neg (by omega), if_neg (by omega), if_neg (by omega)]
  refine ⟨e, ?_, ?_⟩
  · unfold takC
    rw [if_neg (by rw [e]; decide), if_neg (by omega), show (c.next + (n : Int) - c.next).toNat = n by omega]
  · unfold takL
    rw [if_neg (by rw [e]; decide), if_neg (by omega), show (c.next + (n : Int) - c.next).toNat = n by omega, show (c.next + (n : Int)).toNat = c.next.toNat + n by omega]
theorem tak_spare {c : Ch} (h : c.ok) {i : Nat} (hi : i < c.spare.length) :
    takE c (lkAt c.spare i).pos = 0 ∧ takC c (lkAt c.spare i).pos = ⟨c.next, c.sec, c.spare.eraseIdx i⟩ ∧ takL c (lkAt c.spare i).pos = lkAt c.spare i := by
  have hs : spAt c.spare (lkAt c.spare i).pos = i := spAt_eq hi rfl fun j hj e => by have := h.lt hj hi; omega
  obtain ⟨a1, a2, _, _⟩ := h.each i hi
  have hhi := h.hi
  have e : takE c (lkAt c.spare i).pos = 0 := by
    unfold takE
    rw [if_neg (by omega), hs, if_pos hi]
  refine ⟨e, ?_, ?_⟩
  · unfold takC
    rw [if_neg (by rw [e]; decide), hs, if_pos hi]
  · unfold takL
    rw [if_neg (by rw [e]; decide), hs, if_pos hi]
theorem tak_stale {c : Ch} (h : c.ok) {a : Int} (h0 : 0 ≤ a) (h1 : a < c.next) (hn : ∀ i, i < c.spare.length → (lkAt c.spare i).pos ≠ a) : takE c a = 9 := by
  have hhi := h.hi
  unfold takE
  rw [if_neg (by omega), spAt_none hn, if_neg (by omega), if_pos h1]
theorem tak_bad {c : Ch} {a : Int} (h : takE c a ≠ 0) : takC c a = c ∧ takL c a = noLk := ⟨if_pos h, if_pos h⟩
theorem tak_gone {c : Ch} (h : c.ok) {i : Nat} (hi : i < c.spare.length) : takE (⟨c.next, c.sec, c.spare.eraseIdx i⟩ : Ch) (lkAt c.spare i).pos = 9 := by
  obtain ⟨a1, a2, _, _⟩ := h.each i hi
  refine tak_stale (h.erase hi) a1 a2 fun j hj => ?_
  have hj' : j < (c.spare.eraseIdx i).length := hj
  rw [erase_length hi] at hj'
  show (lkAt (c.spare.eraseIdx i) j).pos ≠ _
  rw [lkAt_erase]
  split
  · next h1 => intro e; have := h.lt h1 hi; omega
  · next h1 => intro e; have := h.lt (show i < j + 1 by omega) (by omega); omega
structure Onc (s : List UInt8) (c : Ch) (T : List Int) : Prop where
  mk ::
  ok : c.ok
  sec : c.sec = onB s 0 c.next.toNat
  each : ∀ i, i < c.spare.length → lkAt c.spare i = lockB (onB s 0 (lkAt c.spare i).pos.toNat) (lkAt c.spare i).pos.toNat
  gone : ∀ t, t ∈ T → 0 ≤ t ∧ t < c.next ∧ ∀ i, i < c.spare.length → (lkAt c.spare i).pos ≠ t
theorem Onc.start (s : List UInt8) (h : s.length = 32) : Onc s ⟨0, s, []⟩ [] :=
  ⟨⟨by show (0 : Int) ≤ 0; omega, by show (0 : Int) ≤ _; omega, h, by simp, fun i hi => by simp at hi, fun i hi => by simp at hi⟩, rfl, fun i hi => by simp at hi, fun t ht => by simp at ht⟩
theorem infoLk3 : (Tryd.prog.info? 37).map (·.size) = some (#[Value.int .i64 0, .slice none 0 0, .slice none 0 0] : Array Value).size := by kernel_rfl
theorem Lk.ext' {a b : Lk} (h1 : a.pos = b.pos) (h2 : a.key = b.key) (h3 : a.non = b.non) : a = b := by cases a; cases b; simp_all
set_option maxRecDepth 100000 in
set_option maxHeartbeats 2000000 in
theorem refSameLock_any (x y x' y' : Value) (k m : Lk) (w : World) (hk : LIn w x y k) (hm : LIn w x' y' m) :
    Calls Tryd.prog 14 #[.agg #[.int .i64 k.pos, x, y], .agg #[.int .i64 m.pos, x', y']] w fun e w' => Tells e (k = m) ∧ Kp w w' := by
  have HK := Lib.hid (fun W (hW : Kp w W) => same_any x x' _ _ W (hk.key.kp hW) (hm.key.kp hW))
  have HN := Lib.hid (fun W (hW : Kp w W) => same_any y y' _ _ W (hk.non.kp hW) (hm.non.kp hW))
  obtain ⟨a1, n1, c1, rfl⟩ := hk.key.sl
  obtain ⟨a2, n2, c2, rfl⟩ := hk.non.sl
  obtain ⟨a3, n3, c3, rfl⟩ := hm.key.sl
  obtain ⟨a4, n4, c4, rfl⟩ := hm.non.sl
  have H1 : Hid (k.pos ≠ m.pos → ¬ k = m) := fun h e => h (by rw [e])
  have H2 : Hid (k.key ≠ m.key → ¬ k = m) := fun h e => h (by rw [e])
  have H3 : Hid (k.non ≠ m.non → ¬ k = m) := fun h e => h (by rw [e])
  have HY : Hid (k.pos = m.pos → k.key = m.key → k.non = m.non → k = m) := fun h1 h2 h3 => Lk.ext' h1 h2 h3
  clear hk hm
  generalize (k = m) = P at *
  generalize k.key = KA at *
  generalize m.key = KB at *
  generalize k.non = NA at *
  generalize m.non = NB at *
  generalize k.pos = X at *
  generalize m.pos = Y at *
  obtain ⟨w1, hw1⟩ : ∃ w1, (w.alloc (.cells #[.int .i64 X, .slice a1 n1 c1, .slice a2 n2 c2] 37)).alloc (.cells #[.int .i64 Y, .slice a3 n3 c3, .slice a4 n4 c4] 37) = w1 := ⟨_, rfl⟩
  have hb : Bx w1 w.heap.size 37 #[.int .i64 X, .slice a1 n1 c1, .slice a2 n2 c2] := by rw [← hw1]; exact (Bx.new w _ _).kp ((Kp.refl _).alloc _)
  have hb2 : Bx w1 (w.heap.size + 1) 37 #[.int .i64 Y, .slice a3 n3 c3, .slice a4 n4 c4] := by
    rw [← hw1]
    have := Bx.new (w.alloc (.cells #[.int .i64 X, .slice a1 n1 c1, .slice a2 n2 c2] 37)) 37 #[.int .i64 Y, .slice a3 n3 c3, .slice a4 n4 c4]
    rwa [World.size_alloc] at this
  have hk1 : Kp w w1 := by rw [← hw1]; exact ((Kp.refl _).alloc _).alloc _
  have K1 := Lib.hid hk1
  have d0 : w1.cell? ⟨w.heap.size, 0, none⟩ = some (.int .i64 X) := hb.cell 0
  have d1 : w1.cell? ⟨w.heap.size, 1, none⟩ = some (.slice a1 n1 c1) := hb.cell 1
  have d2 : w1.cell? ⟨w.heap.size, 2, none⟩ = some (.slice a2 n2 c2) := hb.cell 2
  have e0 : w1.cell? ⟨w.heap.size + 1, 0, none⟩ = some (.int .i64 Y) := hb2.cell 0
  have e1 : w1.cell? ⟨w.heap.size + 1, 1, none⟩ = some (.slice a3 n3 c3) := hb2.cell 1
  have e2 : w1.cell? ⟨w.heap.size + 1, 2, none⟩ = some (.slice a4 n4 c4) := hb2.cell 2
  have HW := Lib.hid hw1
  clear hb hb2 hk1 hw1
  by_cases h1 : X = Y
  · have HY1 := Lib.hid (HY.out h1)
    have t1 : (X == Y) = true := beq_iff_eq.2 h1
    by_cases h2 : KA = KB
    · rw [decide_eq_true h2] at HK
      have HY2 := Lib.hid (HY1.out h2)
      by_cases h3 : NA = NB
      · rw [decide_eq_true h3] at HN
        have HB := Lib.hid (HY2.out h3)
        clear H1 H2 H3 HY HY1 HY2 h1 h2 h3
        go_enter Tryd.func14, Tryd.ntmps14
        go_wp2_with (first | (rw [HW.out]) | fail)
        refine (HK.out _ K1.out).mono ?_; rintro _ _ ⟨rfl, rfl⟩
        go_wp2_with fail
        refine (HN.out _ K1.out).mono ?_; rintro _ _ ⟨rfl, rfl⟩
        go_wp2_with fail
        go_ret
        exact ⟨Tells.yes HB.out, K1.out⟩
      · rw [decide_eq_false h3] at HN
        have HB := Lib.hid (H3.out h3)
        clear H1 H2 H3 HY HY1 HY2 h1 h2 h3
        go_enter Tryd.func14, Tryd.ntmps14
        go_wp2_with (first | (rw [HW.out]) | fail)
        refine (HK.out _ K1.out).mono ?_; rintro _ _ ⟨rfl, rfl⟩
        go_wp2_with fail
        refine (HN.out _ K1.out).mono ?_; rintro _ _ ⟨rfl, rfl⟩
        go_wp2_with fail
        go_ret
        exact ⟨Tells.no HB.out, K1.out⟩
    · rw [decide_eq_false h2] at HK
      have HB := Lib.hid (H2.out h2)
      clear H1 H2 H3 HY HY1 h1 h2
      go_enter Tryd.func14, Tryd.ntmps14
      go_wp2_with (first | (rw [HW.out]) | fail)
      refine (HK.out _ K1.out).mono ?_; rintro _ _ ⟨rfl, rfl⟩
      go_wp2_with fail
      go_ret
      exact ⟨Tells.no HB.out, K1.out⟩
  · have t1 : (X == Y) = false := beq_eq_false_iff_ne.2 h1
    have HB := Lib.hid (H1.out h1)
    clear H1 H2 H3 HY h1
    go_enter Tryd.func14, Tryd.ntmps14
    go_wp2_with (first | (rw [HW.out]) | fail)
    go_ret
    exact ⟨Tells.no HB.out, K1.out⟩
set_option maxRecDepth 100000 in
set_option maxHeartbeats 2000000 in
theorem refFew13_any (x y : Value) (c : Ch) (w : World) (h : CIn w x y c) :
    Calls Tryd.prog 11 #[.agg #[.int .i64 c.next, x, y]] w fun e w' => Tells e c.few13 ∧ Kp w w' := by
  obtain ⟨a1, c1, rfl, _, _⟩ := h.sec.shape
  obtain ⟨a2, c2, rfl, q2, s2⟩ := h.spare.shape
  have HU := Lib.hid h.spare
  have HN1 : Hid (40 < c.sec.length → ¬ c.few13) := fun h h2 => by have := h2.1; omega
  have HN2 : Hid (40 < c.spare.length → ¬ c.few13) := fun h h2 => by have := h2.2.1; omega
  have HN3 : Hid (∀ k, k < c.spare.length → (40 < (lkAt c.spare k).key.length ∨ 40 < (lkAt c.spare k).non.length) → ¬ c.few13) := fun k hk h h2 => by have := h2.2.2 k hk; omega
  have HYES : Hid (c.sec.length ≤ 40 → c.spare.length ≤ 40 → (∀ k, k < c.spare.length → (lkAt c.spare k).key.length ≤ 40 ∧ (lkAt c.spare k).non.length ≤ 40) → c.few13) := fun h1 h2 h3 => ⟨h1, h2, h3⟩
  generalize c.few13 = P at *
  generalize c.next = NX at *
  obtain ⟨L, hL⟩ : ∃ L, c.sec.length = L := ⟨_, rfl⟩
  obtain ⟨N, hN⟩ : ∃ N, c.spare.length = N := ⟨_, rfl⟩
  have HLN := Lib.hid hN
  rw [hL] at HN1 HYES ⊢
  rw [hN] at q2 HN2 HN3 HYES HU ⊢
  clear h hL hN
  obtain ⟨w1, hw1⟩ : ∃ w1, w.alloc (.cells #[.int .i64 NX, .slice a1 L c1, .slice a2 N c2] 34) = w1 := ⟨_, rfl⟩
  have hb : Bx w1 w.heap.size 34 #[.int .i64 NX, .slice a1 L c1, .slice a2 N c2] := by rw [← hw1]; exact Bx.new w _ _
  have hk1 : Kp w w1 := by rw [← hw1]; exact (Kp.refl _).alloc _
  have d1 : w1.cell? ⟨w.heap.size, 1, none⟩ = some (.slice a1 L c1) := hb.cell 1
  have d2 : w1.cell? ⟨w.heap.size, 2, none⟩ = some (.slice a2 N c2) := hb.cell 2
  have K1 := Lib.hid hk1
  have HW := Lib.hid hw1
  clear hb hk1 hw1
  by_cases h40 : 40 < L
  · have HB := Lib.hid (HN1.out h40)
    have h3 : (40 : Int) < (L : Int) := by omega
    clear HN1 HN2 HN3 HYES
    go_enter Tryd.func11, Tryd.ntmps11
    go_wp2_with (first | (rw [HW.out]) | fail)
    go_ret
    exact ⟨Tells.no HB.out, K1.out⟩
  · have h3 : ¬ (40 : Int) < (L : Int) := by omega
    have HY1 := Lib.hid (HYES.out (by omega))
    by_cases h4 : 40 < N
    · have HB := Lib.hid (HN2.out h4)
      have h5 : (40 : Int) < (N : Int) := by omega
      clear HN1 HN2 HN3 HYES HY1
      go_enter Tryd.func11, Tryd.ntmps11
      go_wp2_with (first | (rw [HW.out]) | fail)
      go_ret
      exact ⟨Tells.no HB.out, K1.out⟩
    · have h5 : ¬ (40 : Int) < (N : Int) := by omega
      have HY2 := Lib.hid (HY1.out (by omega))
      have HU1 := Lib.hid (HU.out.kp K1.out)
      clear HN1 HN2 HYES HY1 HU
      go_enter Tryd.func11, Tryd.ntmps11
      go_wp2_with (first | (rw [HW.out]) | fail)
      go_loop [3] (fun i => ∃ k : Nat, k ≤ N ∧ i = .int .i64 (k : Int) ∧ (∀ j, j < k → (lkAt c.spare j).key.length ≤ 40 ∧ (lkAt c.spare j).non.length ≤ 40)) (fun i => (N - (intOf i).toNat))
      case atStart => exact ⟨0, Nat.zero_le _, rfl, fun t h => by omega⟩
      case round =>
        obtain ⟨k, hk, rfl, hpre⟩ := hrel
        have HPR := Lib.hid hpre
        clear hpre
        by_cases hlt : k < N
        · obtain ⟨b, off, cc, p, q, e, hb, e1, e2, e3, hp, hq⟩ := LL.node (i := k) HU1.out (by rw [HLN.out]; exact hlt)
          rw [HLN.out] at e
          simp only [Value.slice.injEq] at e
          obtain ⟨rfl, _, rfl⟩ := e
          have i1 : IntKind.i64.wrap ((k : Int) + 1) = (k : Int) + 1 := IntWalk.i64_in _ (by omega)
          have i3 : (k : Int) < (N : Int) := by omega
          have HNK := Lib.hid (HN3.out k hlt)
          have HST : Hid ((lkAt c.spare k).key.length ≤ 40 → (lkAt c.spare k).non.length ≤ 40 → ∀ j, j < k + 1 → (lkAt c.spare j).key.length ≤ 40 ∧ (lkAt c.spare j).non.length ≤ 40) := fun h1 h2 j hj => by
            rcases Nat.lt_or_ge j k with h6 | h6
            · exact HPR.out j h6
            · obtain rfl : j = k := by omega
              exact ⟨h1, h2⟩
          obtain ⟨ap, cp, rfl, _, _⟩ := hp.shape
          obtain ⟨aq, cq, rfl, _, _⟩ := hq.shape
          generalize (lkAt c.spare k).key.length = LK at *
          generalize (lkAt c.spare k).non.length = LN at *
          clear hp hq e1
          by_cases h6 : 40 < LK
          · have HB := Lib.hid (HNK.out (.inl h6))
            have h7 : (40 : Int) < (LK : Int) := by omega
            clear HNK HST HY2
            go_wp2_with fail
            go_ret
            exact ⟨Tells.no HB.out, K1.out⟩
          · have h7 : ¬ (40 : Int) < (LK : Int) := by omega
            by_cases h8 : 40 < LN
            · have HB := Lib.hid (HNK.out (.inr h8))
              have h9 : (40 : Int) < (LN : Int) := by omega
              clear HNK HST HY2
              go_wp2_with fail
              go_ret
              exact ⟨Tells.no HB.out, K1.out⟩
            · have h9 : ¬ (40 : Int) < (LN : Int) := by omega
              have HX := Lib.hid (HST.out (by omega) (by omega))
              clear HNK HST HY2
              go_wp2_with fail
              go_roundw
              case rel => exact ⟨k + 1, by omega, by go_num, HX.out⟩
              case measure => simp [intOf]; omega
        · obtain rfl : k = N := by omega
          have HB := Lib.hid (HY2.out HPR.out)
          go_wp2_with fail
          go_ret
          exact ⟨Tells.yes HB.out, K1.out⟩
end Go.Proofs.YtigpgcjbpoaclaaDoor

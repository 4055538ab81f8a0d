/- ShaEnds. -/
import Derived.Test.YtgialijhnghdgaaLawA
set_option linter.unusedVariables false
set_option linter.unusedSimpArgs false
namespace Go.Proofs.Ytgialijhnghdgaa
open Go.RowKit

theorem digest_length (l : List UInt8) : (digest l).length = 32 := bytes_length _
theorem padded_take (l : List UInt8) : (padded l).take l.length = l := by unfold padded; rw [List.take_append_of_le_length (Nat.le_refl _), List.take_length]
theorem padded_end (l : List UInt8) : (padded l).drop ((padded l).length - 8) = be 8 (8 * l.length) := by
  have e : padded l = (l ++ (128 :: List.replicate (fill l.length) 0)) ++ be 8 (8 * l.length) := by unfold padded pad; rw [List.append_assoc]
  have h : (padded l).length - 8 = (l ++ (128 :: List.replicate (fill l.length) 0 : List UInt8)).length := by
    rw [e, List.length_append, be_length]
    omega
  rw [h, e, List.drop_left]
theorem padded_inj (a b : List UInt8) (ha : a.length ≤ 500) (hb : b.length ≤ 500) (h : padded a = padded b) : a = b := by
  have h1 := padded_end a
  have h2 := padded_end b
  rw [h, h2] at h1
  have h3 : val (be 8 (8 * b.length)) = val (be 8 (8 * a.length)) := by rw [h1]
  rw [val_be 8 _ (by have : (256 : Nat) ^ 8 = 18446744073709551616 := by decide
                     omega), val_be 8 _ (by have : (256 : Nat) ^ 8 = 18446744073709551616 := by decide
                                            omega)] at h3
  have h4 : a.length = b.length := by omega
  rw [← padded_take a, h, h4, padded_take b]
theorem same_at (u v : Value) (l m : List UInt8) (b : Bool) (w : World) (h : Rd w u l) (h' : Rd w v m) (hb : decide (l = m) = b) :
    Calls Try.prog 11 #[u, v] w fun e w' => e = .returned (.bool b) ∧ w = w' := by
  have := same_any u v l m w h h'
  rw [hb] at this
  exact this
/-- A sum, its length known. -/
theorem sum_32 (v : Value) (l : List UInt8) (w : World) (h : Rd w v l) (hl : l.length ≤ 2000) :
    Calls Try.prog 12 #[v] w fun e w' => (∃ a c, e = .returned (.slice a 32 c) ∧ Rd w' (.slice a 32 c) (digest l)) ∧ Kp w w' := by
  refine (sum_any v l w h hl).mono ?_
  rintro e w' ⟨⟨v', rfl, hr⟩, hk⟩
  obtain ⟨a, c, rfl, _, _⟩ := hr.shape
  rw [digest_length] at hr ⊢
  exact ⟨⟨a, c, rfl, hr⟩, hk⟩

set_option maxRecDepth 100000 in
set_option maxHeartbeats 4000000 in
theorem shaEnds_walk (va vb : Value) (la lb : List UInt8) (w : World) (ha : Rd w va la) (hb : Rd w vb lb) :
    Calls Try.prog 8 #[va, vb] w (Yes w) := by
  have U := u8
  obtain ⟨a1, c1, rfl, p1, q1⟩ := ha.shape
  obtain ⟨a2, c2, rfl, p2, q2⟩ := hb.shape
  unfold maxLen at q1 q2
  by_cases hl : la.length ≤ 500 ∧ lb.length ≤ 500
  · obtain ⟨hla, hlb⟩ := hl
    have hla2 : ¬ (500 < (la.length : Int)) := by omega
    have hlb2 : ¬ (500 < (lb.length : Int)) := by omega
    have H1 := Lib.hid (padOf_nat la.length (by omega))
    have H2 := Lib.hid (padOf_nat lb.length (by omega))
    have hf1 := fill_lt la.length
    have hf2 := fill_lt lb.length
    have hp1 := pad_length la.length
    have hp2 := pad_length lb.length
    have B1 := Lib.hid (And.intro hf1 (And.intro hf2 (And.intro hp1 hp2)))
    have hpe : padded la = la ++ pad la.length := rfl
    have hpe2 : padded lb = lb ++ pad lb.length := rfl
    have hinj := padded_inj la lb hla hlb
    rw [hpe, hpe2] at hinj
    have HI := Lib.hid hinj
    clear hf1 hf2 hp1 hp2 hpe hpe2 hinj
    by_cases hab : la = lb
    · subst hab
      go_enter Try.func8, Try.ntmps8
      go_wp2_with fail
      refine (shown_any _).mono ?_
      rintro e w1 ⟨rfl, k1⟩
      go_wp2_with (at_builtin; refine wpList_append_ow U rfl _ _ rfl w.heap.size _ _ rfl (Ow.lit w1 5 w.heap.size 0 #[] [] k1.size rfl (by decide) rfl) _ la rfl (ha.kp (k1.alloc _)) ?d1 ?d2 ?_; rotate_right; intro v2 w2 o2 g2 _; have k2 : Kp w w2 := Kp.grown (k1.alloc _) g2 (by intro k e; cases e; exact k1.size); clear g2)
      case d1 => simp; omega
      case d2 => have := k1.size; simp; omega
      refine (pad_any _ _).mono ?_
      rintro e w3 ⟨⟨v3, rfl, r3⟩, k3⟩
      rw [H1.out] at r3
      go_wp2_with (first
        | (at_builtin; refine wpList_append_ow U rfl _ _ rfl w.heap.size _ _ rfl (o2.kp k3) _ (pad la.length) rfl r3 ?d3 ?d4 ?_; rotate_right; intro v4 w4 o4 g4 _; have k4 : Kp w w4 := Kp.grown (k2.trans k3) g4 o2.own_ge; clear g4)
        | (at_builtin; refine wpList_append_ow U rfl _ _ rfl w4.heap.size _ _ rfl (Ow.lit w4 5 w4.heap.size 0 #[] [] (Nat.le_refl _) rfl (by decide) rfl) _ la rfl (hb.kp (k4.alloc _)) ?d5 ?d6 ?_; rotate_right; intro v5 w5 o5 g5 _; have k45 : Kp w4 w5 := Kp.grown ((Kp.refl w4).alloc _) g5 (by intro k e; cases e; exact Nat.le_refl _); clear g5))
      case d3 => have := B1.out; simp; omega
      case d4 => exact (k2.trans k3).size
      case d5 => simp; omega
      case d6 => simp
      refine (pad_any _ _).mono ?_
      rintro e w6 ⟨⟨v6, rfl, r6⟩, k6⟩
      rw [H2.out] at r6
      go_wp2_with (at_builtin; refine wpList_append_ow U rfl _ _ rfl w4.heap.size _ _ rfl ((o5).kp k6) _ (pad la.length) rfl r6 ?d7 ?d8 ?_; rotate_right; intro v7 w7 o7 g7 _; have k67 : Kp w4 w7 := Kp.grown (k45.trans k6) g7 ((o5).own_ge); clear g7)
      case d7 => have := B1.out; simp; omega
      case d8 => exact (k45.trans k6).size
      refine (same_at _ _ la la true _ (ha.kp (k4.trans k67)) (hb.kp (k4.trans k67)) (decide_eq_true rfl)).mono ?_
      rintro e w8 ⟨rfl, rfl⟩
      go_wp2_with fail
      refine (same_at _ _ (la ++ pad la.length) (la ++ pad la.length) true _ ((List.nil_append la ▸ o4.rd).kp k67) (List.nil_append la ▸ o7.rd) (decide_eq_true rfl)).mono ?_
      rintro e w9 ⟨rfl, rfl⟩
      go_wp2_with fail
      refine (sum_32 _ la _ (ha.kp (k4.trans k67)) (by omega)).mono ?_
      rintro e w10 ⟨⟨a10, c10, rfl, r10⟩, k10⟩
      go_wp2_with fail
      refine (sum_32 _ la _ (hb.kp ((k4.trans k67).trans k10)) (by omega)).mono ?_
      rintro e w11 ⟨⟨a11, c11, rfl, r11⟩, k11⟩
      go_wp2_with fail
      refine (same_at _ _ (digest la) (digest la) true _ (r10.kp k11) r11 (decide_eq_true rfl)).mono ?_
      rintro e w12 ⟨rfl, rfl⟩
      go_wp2_with fail
      refine (sum_32 _ la _ (ha.kp (((k4.trans k67).trans k10).trans k11)) (by omega)).mono ?_
      rintro e w13 ⟨⟨a13, c13, rfl, r13⟩, k13⟩
      go_wp2_with fail
      go_ret
      exact ⟨rfl, (((k4.trans k67).trans k10).trans k11).trans k13⟩
    · skip
      go_enter Try.func8, Try.ntmps8
      go_wp2_with fail
      refine (shown_any _).mono ?_
      rintro e w1 ⟨rfl, k1⟩
      go_wp2_with (at_builtin; refine wpList_append_ow U rfl _ _ rfl w.heap.size _ _ rfl (Ow.lit w1 5 w.heap.size 0 #[] [] k1.size rfl (by decide) rfl) _ la rfl (ha.kp (k1.alloc _)) ?d1 ?d2 ?_; rotate_right; intro v2 w2 o2 g2 _; have k2 : Kp w w2 := Kp.grown (k1.alloc _) g2 (by intro k e; cases e; exact k1.size); clear g2)
      case d1 => simp; omega
      case d2 => have := k1.size; simp; omega
      refine (pad_any _ _).mono ?_
      rintro e w3 ⟨⟨v3, rfl, r3⟩, k3⟩
      rw [H1.out] at r3
      go_wp2_with (first
        | (at_builtin; refine wpList_append_ow U rfl _ _ rfl w.heap.size _ _ rfl (o2.kp k3) _ (pad la.length) rfl r3 ?d3 ?d4 ?_; rotate_right; intro v4 w4 o4 g4 _; have k4 : Kp w w4 := Kp.grown (k2.trans k3) g4 o2.own_ge; clear g4)
        | (at_builtin; refine wpList_append_ow U rfl _ _ rfl w4.heap.size _ _ rfl (Ow.lit w4 5 w4.heap.size 0 #[] [] (Nat.le_refl _) rfl (by decide) rfl) _ lb rfl (hb.kp (k4.alloc _)) ?d5 ?d6 ?_; rotate_right; intro v5 w5 o5 g5 _; have k45 : Kp w4 w5 := Kp.grown ((Kp.refl w4).alloc _) g5 (by intro k e; cases e; exact Nat.le_refl _); clear g5))
      case d3 => have := B1.out; simp; omega
      case d4 => exact (k2.trans k3).size
      case d5 => simp; omega
      case d6 => simp
      refine (pad_any _ _).mono ?_
      rintro e w6 ⟨⟨v6, rfl, r6⟩, k6⟩
      rw [H2.out] at r6
      go_wp2_with (at_builtin; refine wpList_append_ow U rfl _ _ rfl w4.heap.size _ _ rfl ((o5).kp k6) _ (pad lb.length) rfl r6 ?d7 ?d8 ?_; rotate_right; intro v7 w7 o7 g7 _; have k67 : Kp w4 w7 := Kp.grown (k45.trans k6) g7 ((o5).own_ge); clear g7)
      case d7 => have := B1.out; simp; omega
      case d8 => exact (k45.trans k6).size
      refine (same_at _ _ la lb false _ (ha.kp (k4.trans k67)) (hb.kp (k4.trans k67)) (decide_eq_false hab)).mono ?_
      rintro e w8 ⟨rfl, rfl⟩
      go_wp2_with fail
      refine (same_at _ _ (la ++ pad la.length) (lb ++ pad lb.length) false _ ((List.nil_append la ▸ o4.rd).kp k67) (List.nil_append lb ▸ o7.rd) (decide_eq_false fun h => hab (HI.out h))).mono ?_
      rintro e w9 ⟨rfl, rfl⟩
      go_wp2_with fail
      refine (sum_32 _ la _ (ha.kp (k4.trans k67)) (by omega)).mono ?_
      rintro e w10 ⟨⟨a10, c10, rfl, r10⟩, k10⟩
      go_wp2_with fail
      go_ret
      exact ⟨rfl, (k4.trans k67).trans k10⟩
  · by_cases h1 : la.length ≤ 500
    · have hla2 : ¬ (500 < (la.length : Int)) := by omega
      have hlb2 : 500 < (lb.length : Int) := by omega
      clear hl
      go_enter Try.func8, Try.ntmps8
      go_wp2_with fail
      refine (shown_any _).mono ?_
      rintro e w1 ⟨rfl, k1⟩
      go_wp2_with fail
      go_ret
      exact ⟨rfl, k1⟩
    · have hla2 : 500 < (la.length : Int) := by omega
      clear hl
      go_enter Try.func8, Try.ntmps8
      go_wp2_with fail
      refine (shown_any _).mono ?_
      rintro e w1 ⟨rfl, k1⟩
      go_wp2_with fail
      go_ret
      exact ⟨rfl, k1⟩
end Go.Proofs.Ytgialijhnghdgaa

/- hash.size, isNode, isThere, child, sideOf. -/
import Derived.Test.YtobldbodafaajaaGreatDoorTreeRow10
import Derived.Test.YtobldbodafaajaaGreatDoorRefTree9
import Derived.Test.YtobldbodafaajaaGreatDoorTreePl9
import Derived.Test.YtobldbodafaajaaGreatDoorMathCode9
set_option linter.unusedVariables false
set_option linter.unusedSimpArgs false
namespace Go.Proofs.YtobldbodafaajaaGreatDoor
open Go.RowKit

set_option maxHeartbeats 1000000 in
theorem hashSize_any (u : Value) (t : List Nod) (w : World) (hu : NL w u t) (hl : t.length ≤ 100000) :
    Calls Tryz.prog 45 #[u] w fun e w' => e = .returned (.int .i64 ((sizeN t : Nat) : Int)) ∧ w = w' := by
  obtain ⟨a, c, rfl, h1, h2⟩ := hu.shape
  obtain ⟨i1, i2⟩ := lvs_int (t := t) hl
  have i3 : IntKind.i64.wrap ((lvs t : Nat) : Int) = ((lvs t : Nat) : Int) := IntWalk.i64_in _ (by have := lvs_max (t := t) hl; omega)
  have HW := Lib.hid (mathWidth_same ((lvs t : Nat) : Int) w)
  by_cases hb : isTB ((lvs t : Nat) : Int) = true
  · rw [show widV ((lvs t : Nat) : Int) = 2 * ((lvs t : Nat) : Int) - 1 from if_pos hb, show widE ((lvs t : Nat) : Int) = 0 from if_pos hb] at HW
    by_cases he : 2 * lvs t = t.length + 1
    · rw [show sizeN t = lvs t from if_pos ⟨hb, he⟩]
      have hne : ¬ (2 * ((lvs t : Nat) : Int) - 1 ≠ (t.length : Int)) := by omega
      have hn2 : (2 * ((lvs t : Nat) : Int) - 1 != (t.length : Int)) = false := bne_eq_false_iff_eq.2 (by omega)
      have hn3 : 2 * ((lvs t : Nat) : Int) - 1 = (t.length : Int) := by omega
      rw [hn3] at HW
      clear hb he hu hne hn2 hn3
      generalize ((lvs t : Nat) : Int) = L at *
      go_enter Tryz.func45, Tryz.ntmps45
      go_wp2_with fail
      refine HW.out.mono ?_; rintro _ _ ⟨rfl, rfl⟩
      go_wp2_with fail
      go_ret
      exact ⟨rfl, rfl⟩
    · rw [show sizeN t = 0 from if_neg fun h => he h.2]
      have hn2 : (2 * ((lvs t : Nat) : Int) - 1 != (t.length : Int)) = true := bne_iff_ne.2 (by omega)
      have hn3 : ¬ 2 * ((lvs t : Nat) : Int) - 1 = (t.length : Int) := by omega
      clear hb he hu
      generalize 2 * ((lvs t : Nat) : Int) - 1 = M at *
      generalize ((lvs t : Nat) : Int) = L at *
      go_enter Tryz.func45, Tryz.ntmps45
      go_wp2_with fail
      refine HW.out.mono ?_; rintro _ _ ⟨rfl, rfl⟩
      go_wp2_with fail
      go_ret
      exact ⟨rfl, rfl⟩
  · rw [show sizeN t = 0 from if_neg fun h => hb h.1]
    rw [show widV ((lvs t : Nat) : Int) = 0 from if_neg hb, show widE ((lvs t : Nat) : Int) = 1 from if_neg hb] at HW
    clear hb hu
    generalize ((lvs t : Nat) : Int) = L at *
    go_enter Tryz.func45, Tryz.ntmps45
    go_wp2_with fail
    refine HW.out.mono ?_; rintro _ _ ⟨rfl, rfl⟩
    go_wp2_with fail
    go_ret
    exact ⟨rfl, rfl⟩
set_option maxHeartbeats 1000000 in
theorem hashIsThere_any (u : Value) (t : List Nod) (K : Nat) (i : Int) (w : World) (hu : NL w u t) (hr : RightK t K) :
    Calls Tryz.prog 43 #[u, .int .i64 i] w fun e w' => e = .returned (.bool (decide (thereP t i))) ∧ w = w' := by
  obtain ⟨z1, z2, z3⟩ := hr.small
  have HS := Lib.hid (hashSize_any u t w hu (by omega))
  rw [(sizeN_len hr.le hr.len).1] at HS
  have hlv := hr.lv
  have hp2 := p2_le hr.le
  obtain ⟨a, c, rfl, p1, s1⟩ := hu.shape
  by_cases h0 : 0 ≤ i
  · obtain ⟨k, rfl⟩ := Int.eq_ofNat_of_zero_le h0
    by_cases h1 : k < 2 ^ K
    · have hk2 : 2 * k < t.length := by omega
      obtain ⟨b, off, rfl, _, hc⟩ := hu.at (2 * k) hk2
      obtain ⟨p, q, h, hn⟩ := hc (2 * k) hk2
      have d0 := hn.kind
      have hb : ((ats t (2 * k)).kind != 0) = decide (thereP t (k : Int)) := by
        by_cases hk : (ats t (2 * k)).kind = 0
        · rw [hk, decide_eq_false (fun h => by have := (hr.there_iff k).1 h; rw [hk] at this; cases this)]; rfl
        · have h1 : (ats t (2 * k)).kind = 1 := by
            rcases hr.even k with e | e
            · rw [e] at hk; exact absurd rfl hk
            · exact e.1
          rw [decide_eq_true ((hr.there_iff k).2 h1), h1]; rfl
      have i1 : IntKind.i64.wrap (2 * (k : Int)) = ((2 * k : Nat) : Int) := by rw [IntWalk.i64_in _ (by omega)]; omega
      have i2 : ((2 * k : Nat) : Int) < (t.length : Int) := by omega
      have i3 : (k : Int) < ((2 ^ K : Nat) : Int) := by omega
      generalize decide (thereP t (k : Int)) = BO at *
      generalize t.length = N at *
      generalize ((2 ^ K : Nat) : Int) = NN at *
      generalize (ats t (2 * k)).kind = KD at *
      generalize 2 * k = K2 at *
      clear hu hr hc hn h1 h0 z1 z2 z3 hlv hp2 hk2
      go_enter Tryz.func43, Tryz.ntmps43
      go_wp2_with fail
      refine HS.out.mono ?_; rintro _ _ ⟨rfl, rfl⟩
      go_wp2_with fail
      go_ret
      exact ⟨by rw [← hb] <;> rfl, rfl⟩
    · rw [decide_eq_false (show ¬ thereP t (k : Int) from fun h => by have := h.2.1; omega)]
      have i3 : ¬ (k : Int) < ((2 ^ K : Nat) : Int) := by omega
      generalize ((2 ^ K : Nat) : Int) = NN at *
      clear hu hr h1 z1 z2 z3 hlv hp2
      go_enter Tryz.func43, Tryz.ntmps43
      go_wp2_with fail
      refine HS.out.mono ?_; rintro _ _ ⟨rfl, rfl⟩
      go_wp2_with fail
      go_ret
      exact ⟨rfl, rfl⟩
  · rw [decide_eq_false (show ¬ thereP t i from fun h => h0 h.1)]
    clear hu hr z1 z2 z3 hlv hp2
    generalize ((2 ^ K : Nat) : Int) = NN at *
    go_enter Tryz.func43, Tryz.ntmps43
    go_wp2_with fail
    go_ret
    exact ⟨rfl, rfl⟩

set_option maxHeartbeats 1000000 in
theorem hashIsNode_any (u : Value) (t : List Nod) (K : Nat) (x : Int) (w : World) (hu : NL w u t) (hr : RightK t K) :
    Calls Tryz.prog 29 #[u, .int .i64 x] w fun e w' => e = .returned (.bool (decide (0 ≤ x ∧ x < (t.length : Int)))) ∧ w = w' := by
  obtain ⟨z1, z2, z3⟩ := hr.small
  have HS := Lib.hid (hashSize_any u t w hu (by omega))
  have hp := p2_pos K
  rw [(sizeN_len hr.le hr.len).1] at HS
  obtain ⟨a, c, rfl, p1, s1⟩ := hu.shape
  have h0 : (0 : Int) < ((2 ^ K : Nat) : Int) := by omega
  have hb : (decide (0 ≤ x) && decide (x < (t.length : Int))) = decide (0 ≤ x ∧ x < (t.length : Int)) := by simp
  generalize decide (0 ≤ x ∧ x < (t.length : Int)) = BO at *
  generalize ((2 ^ K : Nat) : Int) = NN at *
  generalize t.length = N at *
  clear hu hr z1 z2 z3 hp
  by_cases h1 : 0 ≤ x
  · by_cases h2 : x < (N : Int)
    · have hb2 : true = BO := by rw [← hb, decide_eq_true h1, decide_eq_true h2]; rfl
      subst hb2
      clear hb
      go_enter Tryz.func29, Tryz.ntmps29
      go_wp2_with fail
      refine HS.out.mono ?_; rintro _ _ ⟨rfl, rfl⟩
      go_wp2_with fail
      go_ret
      exact ⟨rfl, rfl⟩
    · have hb2 : false = BO := by rw [← hb, decide_eq_false h2, Bool.and_false]
      subst hb2
      clear hb
      go_enter Tryz.func29, Tryz.ntmps29
      go_wp2_with fail
      refine HS.out.mono ?_; rintro _ _ ⟨rfl, rfl⟩
      go_wp2_with fail
      go_ret
      exact ⟨by simp [h2], rfl⟩
  · have hb2 : false = BO := by rw [← hb, decide_eq_false h1, Bool.false_and]
    subst hb2
    clear hb
    go_enter Tryz.func29, Tryz.ntmps29
    go_wp2_with fail
    refine HS.out.mono ?_; rintro _ _ ⟨rfl, rfl⟩
    go_wp2_with fail
    go_ret
    exact ⟨rfl, rfl⟩
theorem hashSideOf_any (x leaf : Int) (w : World) :
    Calls Tryz.prog 47 #[.int .i64 x, .int .i64 leaf] w fun e w' => e = .returned (.int .i64 (if x < leaf then 1 else if leaf < x then 0 else 1)) ∧ w = w' := by
  by_cases h : leaf < x
  · have h2 : ¬ x < leaf := by omega
    rw [if_neg h2, if_pos h]
    clear h2
    go_enter Tryz.func47, Tryz.ntmps47
    go_wp2_with fail
    go_ret
    exact ⟨rfl, rfl⟩
  · have e : (if x < leaf then (1 : Int) else if leaf < x then 0 else 1) = 1 := by split <;> simp [h]
    rw [e]
    clear e
    go_enter Tryz.func47, Tryz.ntmps47
    go_wp2_with fail
    go_ret
    exact ⟨rfl, rfl⟩
set_option maxHeartbeats 1000000 in
/-- A node's child on a side. -/
theorem hashChild_any (x side : Int) (w : World) (hT : Tab w) :
    Calls Tryz.prog 67 #[.int .i64 x, .int .i64 side] w fun e w' => e = .returned (.int .i64 (if side = 1 then rigV x else lefV x)) ∧ w = w' := by
  by_cases h : side = 1
  · subst h
    rw [if_pos rfl]
    have HR := Lib.hid (mathRight_same x w hT)
    generalize rigV x = V at *
    generalize chE x = E at *
    clear hT
    go_enter Tryz.func67, Tryz.ntmps67
    go_wp2_with fail
    refine HR.out.mono ?_; rintro _ _ ⟨rfl, rfl⟩
    go_wp2_with fail
    go_ret
    exact ⟨rfl, rfl⟩
  · rw [if_neg h]
    have HL := Lib.hid (mathLeft_same x w hT)
    have hb : (side == 1) = false := beq_eq_false_iff_ne.2 h
    generalize lefV x = V at *
    generalize chE x = E at *
    clear hT
    go_enter Tryz.func67, Tryz.ntmps67
    go_wp2_with fail
    refine HL.out.mono ?_; rintro _ _ ⟨rfl, rfl⟩
    go_wp2_with fail
    go_ret
    exact ⟨rfl, rfl⟩
end Go.Proofs.YtobldbodafaajaaGreatDoor

/- tree.shrunk. -/
import Derived.Test.YtnpobcggadojkaaGreatDoorTreeIt9
import Derived.Test.YtnpobcggadojkaaGreatDoorTreePl9
import Derived.Test.YtnpobcggadojkaaGreatDoorRefTree9
set_option linter.unusedVariables false
set_option linter.unusedSimpArgs false
namespace Go.Proofs.YtnpobcggadojkaaGreatDoor
open Go.RowKit

def slN : Value → Nat
  | .slice _ n _ => n
  | _ => 0
theorem shrink_one {t : List Nod} (f : Nat) (h : t.length = 1) : shrinkT f t = t := by
  cases f with
  | zero => rfl
  | succ f => unfold shrinkT; rw [if_neg (fun hh => by omega)]
/-- Is the right half blank? As the code asks it. -/
theorem bare_iff {t : List Nod} {j : Nat} (hl : t.length = 2 ^ (j + 1 + 1) - 1) : (nbL t (2 ^ j * 1) (2 ^ j)).length = 0 ↔ emptyP t (lvs t / 2) := by
  have h1 := p2_succ j
  have h2 := p2_succ (j + 1)
  have h3 := p2_pos j
  have hlv : lvs t = 2 * 2 ^ j := by unfold lvs; omega
  rw [List.length_eq_zero_iff]
  constructor
  · intro h i h4 h5
    refine Decidable.byContradiction fun hne => ?_
    have : i ∈ nbL t (2 ^ j * 1) (2 ^ j) := nbL_mem.2 ⟨by omega, by omega, hne⟩
    rw [h] at this
    exact absurd this (List.not_mem_nil)
  · intro h
    refine List.eq_nil_iff_forall_not_mem.2 fun i hi => ?_
    obtain ⟨a1, a2, a3⟩ := nbL_mem.1 hi
    exact a3 (h i (by omega) (by omega))
theorem shrink_step9 {t : List Nod} {j f : Nat} (hl : t.length = 2 ^ (j + 1 + 1) - 1) : ((nbL t (2 ^ j * 1) (2 ^ j)).length = 0 → shrinkT (f + 1) t = shrinkT f (t.take (2 ^ (j + 1) - 1)) ∧ (t.take (2 ^ (j + 1) - 1)).length = 2 ^ (j + 1) - 1) ∧ (¬ (nbL t (2 ^ j * 1) (2 ^ j)).length = 0 → shrinkT (f + 1) t = t) := by
  have h1 := p2_succ j
  have h2 := p2_succ (j + 1)
  have h3 := p2_pos j
  have hb := bare_iff hl
  refine ⟨fun h => ⟨?_, by rw [List.length_take]; omega⟩, fun h => ?_⟩
  · show (if 1 < t.length ∧ emptyP t (lvs t / 2) then shrinkT f (t.take (t.length / 2)) else t) = _
    rw [if_pos ⟨by omega, hb.1 h⟩, show t.length / 2 = 2 ^ (j + 1) - 1 by omega]
  · show (if 1 < t.length ∧ emptyP t (lvs t / 2) then shrinkT f (t.take (t.length / 2)) else t) = _
    rw [if_neg (fun hh => h (hb.2 hh.2))]
set_option maxHeartbeats 2000000 in
theorem treeShrunk_any (u : Value) (t : List Nod) (K : Nat) (w : World) (hu : NL w u t) (hK : K ≤ 10) (hl : t.length = 2 ^ (K + 1) - 1) (hT : Tab w) :
    Calls Tryz.prog 63 #[u] w fun e w' => (∃ r, e = .returned r ∧ NL w' r (shrinkT 11 t)) ∧ Kp w w' := by
  have HRT : Hid (∀ (t' : List Nod) u' W (h : NL W u' t') (K' : Nat) (hK' : K' ≤ 10) (hl' : t'.length = 2 ^ (K' + 1) - 1), Calls Tryz.prog 48 #[u'] W fun e w' => e = .returned (.int .i64 ((nd K' 0 : Nat) : Int)) ∧ W = w') := fun t' u' W h K' hK' hl' => by
    have h1 := treeRoot_any u' t' W h (by have := p2_succ K'; have := p2_le hK'; omega)
    rw [(sizeN_len hK' hl').1, show ((2 ^ K' : Nat) : Int) - 1 = ((nd K' 0 : Nat) : Int) by have := nd_root K'; have := p2_pos K'; omega] at h1
    exact h1
  have HRG : Hid (∀ (j : Nat) W (hj : j + 1 ≤ 10), Tab W → Calls Tryz.prog 50 #[.int .i64 ((nd (j + 1) 0 : Nat) : Int)] W fun e w' => e = .returned (.tuple #[.int .i64 ((nd j 1 : Nat) : Int), .int .i64 0]) ∧ W = w') := fun j W hj hTW => by
    have h1 := mathRight_same ((nd (j + 1) 0 : Nat) : Int) W hTW
    obtain ⟨c1, _, c3⟩ := ch_yes (j := j) (q := 0) hj (p2_pos _)
    rw [c1, c3] at h1
    exact h1
  have HB := Lib.hid (fun (t' : List Nod) (j : Nat) u' W (h : NL W u' t') (hj : j + 1 ≤ 10) (hl' : t'.length = 2 ^ (j + 1 + 1) - 1) hTW => treeIsBare_any t' j 1 _ rfl u' W h (by omega) (Nat.one_lt_two_pow (by omega)) (by have := p2_succ j; have := p2_succ (j + 1); have := p2_pos j; omega) hTW)
  have HS := Lib.hid (fun (t' : List Nod) (j f : Nat) hl' => shrink_step9 (t := t') (j := j) (f := f) hl')
  obtain ⟨OUT, hOUT⟩ : ∃ OUT, shrinkT 11 t = OUT := ⟨_, rfl⟩
  rw [hOUT]
  have HSTART : Hid (∃ K' t' f, K' ≤ 10 ∧ K' < f ∧ t'.length = 2 ^ (K' + 1) - 1 ∧ NL w u t' ∧ shrinkT f t' = OUT ∧ Kp w w) := ⟨K, t, 11, hK, by omega, hl, hu, hOUT, Kp.refl _⟩
  have HT := Lib.hid hT
  obtain ⟨a, n, c, rfl⟩ := hu.sl
  clear hu hK hl hT hOUT
  go_enter Tryz.func63, Tryz.ntmps63
  go_wp2_with fail
  go_loopw [0] (fun v wr => ∃ K' t' f, K' ≤ 10 ∧ K' < f ∧ t'.length = 2 ^ (K' + 1) - 1 ∧ NL wr v t' ∧ shrinkT f t' = OUT ∧ Kp w wr) (fun v _ => slN v)
  case atStart => exact HSTART.out
  case round =>
    clear HSTART
    obtain ⟨K', t', f, hK', hf, hl', hv, hs, hk⟩ := hrel
    obtain ⟨a', c', rfl, p1, s1⟩ := hv.shape
    have HV := Lib.hid hv
    have HKP := Lib.hid hk
    cases K' with
    | zero =>
      have hl1 : t'.length = 1 := by simpa using hl'
      have HE := Lib.hid ((shrink_one f hl1).symm.trans hs)
      rw [hl1] at HV ⊢
      clear hv hk hs hl' hl1 p1 s1
      go_wp2_with fail
      go_ret
      exact ⟨⟨_, rfl, by rw [← HE.out]; exact HV.out⟩, HKP.out⟩
    | succ j =>
      obtain ⟨f', rfl⟩ : ∃ f', f = f' + 1 := ⟨f - 1, by omega⟩
      have h1 := p2_succ (j + 1)
      have h2 := p2_succ j
      have h3 := p2_pos j
      have h4 := nd_root (j + 1)
      obtain ⟨s2, s3⟩ := HS.out t' j f' hl'
      have HRT1 := Lib.hid (HRT.out t' _ wr hv (j + 1) hK' hl')
      have HRG1 := Lib.hid (HRG.out j wr hK' (HT.out.kp hk))
      have HB1 := Lib.hid (HB.out t' j _ wr hv hK' hl' (HT.out.kp hk))
      have HRT2 := Lib.hid (fun W (hW : Kp wr W) => HRT.out t' _ W (hv.kp hW) (j + 1) hK' hl')
      have hlen : (1 : Int) < (t'.length : Int) := by omega
      have HR2 : Hid ((nd (j + 1) 0 = 2 ^ (j + 1) - 1) ∧ nd (j + 1) 0 < t'.length ∧ j ≤ 10 ∧ j < f') := ⟨h4, by omega, by omega, by omega⟩
      have hRc : ((nd (j + 1) 0 : Nat) : Int) ≤ (c' : Int) := by omega
      have hRl : ((nd (j + 1) 0 : Nat) : Int) < (t'.length : Int) := by omega
      have HPRE := Lib.hid (fun R (hR : R ≤ t'.length) => hv.pre R hR)
      generalize nd (j + 1) 0 = R at *
      generalize ((nd j 1 : Nat) : Int) = X1 at *
      by_cases hb : (nbL t' (2 ^ j * 1) (2 ^ j)).length = 0
      · obtain ⟨e1, e2⟩ := s2 hb
        rw [decide_eq_true hb] at HB1
        have HE : Hid (shrinkT f' (t'.take R) = OUT ∧ (t'.take R).length = 2 ^ (j + 1) - 1) := by
          rw [HR2.out.1]
          exact ⟨e1.symm.trans hs, e2⟩
        obtain ⟨N, hN⟩ : ∃ N, t'.length = N := ⟨_, rfl⟩
        have HN := Lib.hid hN
        rw [hN] at HRT1 HB1 HRT2 HPRE hlen hRl HR2 HV ⊢
        clear hv hk hs hl' p1 s1 h1 h2 h3 h4 s2 s3 e1 e2 hb hN HS HRT HRG HB hK' hf
        go_wp2_with fail
        refine HRT1.out.mono ?_; rintro _ _ ⟨rfl, rfl⟩
        go_wp2_with fail
        refine HRG1.out.mono ?_; rintro _ _ ⟨rfl, rfl⟩
        go_wp2_with fail
        refine HB1.out.mono ?_; rintro _ w2 ⟨rfl, k2⟩
        have HK2 := Lib.hid k2
        clear k2
        go_wp2_with fail
        refine (HRT2.out _ HK2.out).mono ?_; rintro _ _ ⟨rfl, rfl⟩
        go_wp2_with fail
        go_roundw
        case rel => exact ⟨j, t'.take R, f', HR2.out.2.2.1, HR2.out.2.2.2, HE.out.2, (HPRE.out R (by have := HR2.out; omega)).kp HK2.out, HE.out.1, HKP.out.trans HK2.out⟩
        case measure => simp [slN]; have := HR2.out; omega
      · rw [decide_eq_false hb] at HB1
        have HE := Lib.hid ((s3 hb).symm.trans hs)
        obtain ⟨N, hN⟩ : ∃ N, t'.length = N := ⟨_, rfl⟩
        rw [hN] at HRT1 HB1 HRT2 HPRE hlen hRl HR2 HV ⊢
        clear hv hk hs hl' p1 s1 h1 h2 h3 h4 s2 s3 hb hN HS HRT HRG HB hK' hf
        go_wp2_with fail
        refine HRT1.out.mono ?_; rintro _ _ ⟨rfl, rfl⟩
        go_wp2_with fail
        refine HRG1.out.mono ?_; rintro _ _ ⟨rfl, rfl⟩
        go_wp2_with fail
        refine HB1.out.mono ?_; rintro _ w2 ⟨rfl, k2⟩
        have HK2 := Lib.hid k2
        clear k2
        go_wp2_with fail
        go_ret
        exact ⟨⟨_, rfl, by rw [← HE.out]; exact HV.out.kp HK2.out⟩, HKP.out.trans HK2.out⟩
end Go.Proofs.YtnpobcggadojkaaGreatDoor

/- pyxref08: Sibling, Path, Copath. -/
import Derived.Test.YtcomgbneacbncaaDoorRefMathC
import Derived.Test.YtcomgbneacbncaaDoorIntRow
set_option linter.unusedVariables false
set_option linter.unusedSimpArgs false
namespace Go.Proofs.YtcomgbneacbncaaDoor
open Go.RowKit

theorem Tryd.info83 : (Tryd.prog.info? 3).map (fun i => (i.zero, i.size, i.bytes)) = some (some (.int .i64 0), 1, 8) := by kernel_rfl
theorem s1ints : S1 Tryd.prog 32 3 := S1.mk' Tryd.underlying32 Tryd.info83 (by decide) rfl

set_option maxHeartbeats 1000000 in
theorem refSibling_any (x n : Int) (w : World) (hn2 : -9223372036854775808 ≤ n ∧ n ≤ 9223372036854775807) : Calls Tryd.prog 22 #[.int .i64 x, .int .i64 n] w fun e w' => e = .returned (.tuple #[.int .i64 (siV x n), .int .i64 (paE x n)]) ∧ w = w' := by
  have HP := Lib.hid (refParent_any x n w hn2)
  by_cases h : inB x n = true
  · obtain ⟨K, j, q, hK, rfl, rfl, hj, hq⟩ := (inB_iff x n).1 h
    by_cases hr : j = K
    · subst hr
      have hq0 : q = 0 := by simp at hq; exact hq
      subst hq0
      obtain ⟨e1, e2, e3⟩ := pa_root hK
      rw [e1, e2] at HP
      rw [e1, e3]
      clear h e1 e2 e3 hn2 hq hj
      go_enter Tryd.func22, Tryd.ntmps22
      go_wp2_with fail
      refine HP.out.mono ?_; rintro _ _ ⟨rfl, rfl⟩
      go_wp2_with fail
      go_ret2
      exact ⟨rfl, rfl⟩
    · obtain ⟨e1, e2, e3⟩ := pa_yes (K := K) (j := j) (q := q) hK (by omega) hq
      have hj1 : j + 1 ≤ 10 := by omega
      have hq2 : q / 2 < 2 ^ (10 - (j + 1)) := by
        have h5 : q < 2 ^ (10 - j) := (nd_small hK hj hq).2.2
        have e : 10 - j = (10 - (j + 1)) + 1 := by omega
        rw [e, p2_succ] at h5
        omega
      obtain ⟨f1, f2, f3⟩ := ch_yes (j := j) (q := q / 2) hj1 hq2
      have HL := Lib.hid (refLeft_any ((nd (j + 1) (q / 2) : Nat) : Int) w)
      have HR := Lib.hid (refRight_any ((nd (j + 1) (q / 2) : Nat) : Int) w)
      rw [f1, f2] at HL
      rw [f1, f3] at HR
      rw [e1, e2] at HP
      rw [e1, e3]
      by_cases hq0 : q % 2 = 0
      · have h1 : 2 * (q / 2) = q := by omega
        have h2 : 2 * (q / 2) + 1 = sq q := by unfold sq; rw [if_pos hq0]; omega
        rw [h2] at HR
        rw [h1] at HL
        generalize ((nd j q : Nat) : Int) = X at *
        generalize ((nd j (sq q) : Nat) : Int) = Y at *
        generalize ((nd (j + 1) (q / 2) : Nat) : Int) = P at *
        clear h e1 e2 e3 hn2 hq hj f1 f2 f3 hr hj1 hq2 hq0 h1 h2
        go_enter Tryd.func22, Tryd.ntmps22
        go_wp2_with fail
        refine HP.out.mono ?_; rintro _ _ ⟨rfl, rfl⟩
        go_wp2_with fail
        refine HL.out.mono ?_; rintro _ _ ⟨rfl, rfl⟩
        go_wp2_with fail
        refine HR.out.mono ?_; rintro _ _ ⟨rfl, rfl⟩
        go_wp2_with fail
        go_ret2
        exact ⟨rfl, rfl⟩
      · have h1 : 2 * (q / 2) + 1 = q := by omega
        have h2 : 2 * (q / 2) = sq q := by unfold sq; rw [if_neg hq0]; omega
        have hne : ¬ ((nd j (sq q) : Nat) : Int) = ((nd j q : Nat) : Int) := fun h3 => by
          have := (nd_inj (Int.ofNat.inj h3)).2
          omega
        rw [h1] at HR
        rw [h2] at HL
        generalize ((nd j q : Nat) : Int) = X at *
        generalize ((nd j (sq q) : Nat) : Int) = Y at *
        generalize ((nd (j + 1) (q / 2) : Nat) : Int) = P at *
        have hb : (Y == X) = false := beq_eq_false_iff_ne.2 hne
        clear h e1 e2 e3 hn2 hq hj f1 f2 f3 hr hj1 hq2 hq0 h1 h2
        go_enter Tryd.func22, Tryd.ntmps22
        go_wp2_with fail
        refine HP.out.mono ?_; rintro _ _ ⟨rfl, rfl⟩
        go_wp2_with fail
        refine HL.out.mono ?_; rintro _ _ ⟨rfl, rfl⟩
        go_wp2_with fail
        refine HR.out.mono ?_; rintro _ _ ⟨rfl, rfl⟩
        go_wp2_with fail
        go_ret2
        exact ⟨rfl, rfl⟩
  · obtain ⟨e1, e2, e3⟩ := pa_no h
    rw [e1, e2] at HP
    rw [e1, e3]
    clear h e1 e2 e3 hn2
    go_enter Tryd.func22, Tryd.ntmps22
    go_wp2_with fail
    refine HP.out.mono ?_; rintro _ _ ⟨rfl, rfl⟩
    go_wp2_with fail
    go_ret2
    exact ⟨rfl, rfl⟩

/-- What a node's way up is told by. -/
structure Way (K j q : Nat) : Prop where
  node : ∀ i, i ≤ K - j → 0 ≤ ((nd (j + i) (q / 2 ^ i) : Nat) : Int) ∧ ((nd (j + i) (q / 2 ^ i) : Nat) : Int) ≤ 2046 ∧ lev (nd (j + i) (q / 2 ^ i)) = j + i
  root : ∀ i, i ≤ K - j → (((nd (j + i) (q / 2 ^ i) : Nat) : Int) = ((2 ^ K : Nat) : Int) - 1 ↔ i = K - j)
  up : ∀ i, i < K - j → paE ((nd (j + i) (q / 2 ^ i) : Nat) : Int) ((2 ^ K : Nat) : Int) = 0 ∧ paV ((nd (j + i) (q / 2 ^ i) : Nat) : Int) ((2 ^ K : Nat) : Int) = ((nd (j + (i + 1)) (q / 2 ^ (i + 1)) : Nat) : Int) ∧ siV ((nd (j + i) (q / 2 ^ i) : Nat) : Int) ((2 ^ K : Nat) : Int) = ((nd (j + i) (sq (q / 2 ^ i)) : Nat) : Int)
theorem way {K j q : Nat} (hK : K ≤ 10) (hj : j ≤ K) (hq : q < 2 ^ (K - j)) : Way K j q := by
  have hl : ∀ i, i ≤ K - j → q / 2 ^ i < 2 ^ (K - (j + i)) := fun i hi => quot_lt hq hi
  refine ⟨fun i hi => ?_, fun i hi => ?_, fun i hi => ?_⟩
  · obtain ⟨h1, h2, h3⟩ := nd_small hK (j := j + i) (by omega) (hl i hi)
    exact ⟨by omega, by omega, lev_nd _ _ (by omega)⟩
  · have h1 := nd_is_root (hl i hi) (show j + i ≤ K by omega)
    have h2 := p2_pos K
    generalize nd (j + i) (q / 2 ^ i) = X at *
    generalize 2 ^ K = N at *
    constructor
    · intro h3
      have := h1.1 (by omega)
      omega
    · intro h3
      have := h1.2 (by omega)
      omega
  · obtain ⟨e1, e2, e3⟩ := pa_yes (K := K) (j := j + i) (q := q / 2 ^ i) hK (by omega) (hl i (by omega))
    refine ⟨e1, ?_, e3⟩
    rw [e2, quot_succ]
    rfl

set_option maxHeartbeats 2000000 in
theorem refPath_yes (K j q : Nat) (w : World) (hK : K ≤ 10) (hj : j ≤ K) (hq : q < 2 ^ (K - j)) :
    Calls Tryd.prog 24 #[.int .i64 ((nd j q : Nat) : Int), .int .i64 ((2 ^ K : Nat) : Int)] w fun e w' => (∃ v, e = .returned (.tuple #[v, .int .i64 0]) ∧ ON 3 w' w.heap.size v (pathN K j q)) ∧ Kp w w' := by
  have S := s1ints
  have hin := (inB_iff ((nd j q : Nat) : Int) ((2 ^ K : Nat) : Int)).2 ⟨K, j, q, hK, rfl, rfl, hj, hq⟩
  have hb := p2_le hK
  have hb2 := p2_pos K
  have hn2 : -9223372036854775808 ≤ ((2 ^ K : Nat) : Int) ∧ ((2 ^ K : Nat) : Int) ≤ 9223372036854775807 := by omega
  have HN := Lib.hid (refNode_any ((nd j q : Nat) : Int) ((2 ^ K : Nat) : Int) w hn2)
  rw [hin] at HN
  obtain ⟨w1, w2, w3⟩ := way hK hj hq
  have HT := Lib.hid (pathN_take K j q)
  have HL := Lib.hid (pathN_length K j q)
  have HP : Hid (∀ i W, i < K - j → Calls Tryd.prog 20 #[.int .i64 ((nd (j + i) (q / 2 ^ i) : Nat) : Int), .int .i64 ((2 ^ K : Nat) : Int)] W fun e w' => e = .returned (.tuple #[.int .i64 ((nd (j + (i + 1)) (q / 2 ^ (i + 1)) : Nat) : Int), .int .i64 0]) ∧ W = w') := fun i W hi => by
    have := refParent_any ((nd (j + i) (q / 2 ^ i) : Nat) : Int) ((2 ^ K : Nat) : Int) W hn2
    rwa [(w3 i hi).1, (w3 i hi).2.1] at this
  have i1 : IntKind.i64.wrap (((2 ^ K : Nat) : Int) - 1) = ((2 ^ K : Nat) : Int) - 1 := IntWalk.i64_in _ (by omega)
  obtain ⟨f, hf⟩ : ∃ f : Nat → Nat, f = fun i => nd (j + i) (q / 2 ^ i) := ⟨_, rfl⟩
  have hfi : ∀ i, nd (j + i) (q / 2 ^ i) = f i := fun i => by rw [hf]
  have hf0 : nd j q = f 0 := by rw [hf]; simp
  have HT2 : Hid (∀ i, i < K - j → (pathN K j q).take (i + 1) = (pathN K j q).take i ++ [f (i + 1)]) := fun i hi => by
    rw [HT.out i hi]
    rw [hf]; simp only []; congr 3; omega
  have HE : Hid ((pathN K j q).take (K - j) = pathN K j q) := by unfold Hid; rw [List.take_of_length_le (by rw [HL.out]; omega)]
  generalize pathN K j q = PL at *
  simp only [hfi] at *
  rw [hf0] at HN ⊢
  have W1 := Lib.hid w1
  have W2 := Lib.hid w2
  have hdk : K - j ≤ 10 := by omega
  have HJ : Hid (∀ i, i ≤ K - j → lev (f i) = j + i) := fun i hi => (w1 i hi).2.2
  generalize ((2 ^ K : Nat) : Int) = N at *
  clear hin hb hb2 hn2 w1 w2 w3 HT hf hfi hf0 hq
  go_enter Tryd.func24, Tryd.ntmps24
  go_wp2_with fail
  refine HN.out.mono ?_; rintro _ _ ⟨rfl, rfl⟩
  clear HN
  go_wp2_with fail
  go_loopw [0, 7] (fun x v wr => ∃ i : Nat, i ≤ K - j ∧ x = .int .i64 ((f i : Nat) : Int) ∧ ON 3 wr w.heap.size v (PL.take i) ∧ Kp w wr) (fun x _ _ => (20 - lev (intOf x).toNat))
  case atStart => exact ⟨0, Nat.zero_le _, rfl, ON.nil _ _ _, Kp.refl _⟩
  case round =>
    obtain ⟨i, hi, rfl, ho, hk⟩ := hrel
    have hroot := W2.out i hi
    obtain ⟨b1, b2, b3⟩ := W1.out i hi
    by_cases hlt : i < K - j
    · have hne : ¬ ((f i : Nat) : Int) = N - 1 := fun h => by have := hroot.1 h; omega
      have hbf : (((f i : Nat) : Int) == N - 1) = false := beq_eq_false_iff_ne.2 hne
      have HP1 := Lib.hid (HP.out i wr hlt)
      have HTI := Lib.hid (HT2.out i hlt)
      have HLV := Lib.hid (And.intro (HJ.out i hi) (HJ.out (i + 1) (by omega)))
      have hsz := hk.size
      have HLN : Hid ((PL.take i).length ≤ 1000000) := by unfold Hid; rw [List.length_take, HL.out]; omega
      generalize PL.take i = L at *
      clear W1 W2 HP HT2 HE HJ hroot b1 b2 b3
      go_wp2_with fail
      refine HP1.out.mono ?_; rintro _ _ ⟨rfl, rfl⟩
      go_wp2_with (at_builtin; refine wpList_append_n (o := ⟨some 28, _, _, _, _, _⟩) S rfl _ _ rfl w.heap.size _ L rfl (ho.kp ((Kp.refl wr).alloc _)) _ _ rfl (ON.lit1 wr 3 (f (i + 1))) HLN.out (by simp; omega) ?_; intro v4 w4 o4 g4; have k4 : Kp w w4 := Kp.grown (hk.alloc _) g4 ho.own_ge)
      go_roundw
      case rel => exact ⟨i + 1, by omega, rfl, by rw [HTI.out]; exact o4, k4⟩
      case measure => have := HLV.out; simp [intOf]; omega
    · obtain rfl : i = K - j := by omega
      have heq : ((f (K - j) : Nat) : Int) = N - 1 := hroot.2 rfl
      rw [HE.out] at ho
      have R := Lib.hid ho
      obtain ⟨av, nv, cv, rfl⟩ := ho.rn.sl
      have KK := Lib.hid hk
      clear W1 W2 HP HT2 HE HJ hroot b1 b2 b3 ho hk
      go_wp2_with fail
      go_ret2
      exact ⟨⟨_, rfl, R.out⟩, KK.out⟩

set_option maxHeartbeats 1000000 in
theorem refPath_own (x n : Int) (w : World) (hn2 : -9223372036854775808 ≤ n ∧ n ≤ 9223372036854775807) :
    Calls Tryd.prog 24 #[.int .i64 x, .int .i64 n] w fun e w' => (∃ v, e = .returned (.tuple #[v, .int .i64 (arE x n)]) ∧ ON 3 w' w.heap.size v (pathV x n)) ∧ Kp w w' := by
  by_cases h : inB x n = true
  · obtain ⟨K, j, q, hK, rfl, rfl, hj, hq⟩ := (inB_iff x n).1 h
    obtain ⟨e1, e2, e3⟩ := ar_yes hK hj hq
    rw [e1, e2]
    exact refPath_yes K j q w hK hj hq
  · obtain ⟨e1, e2, e3⟩ := ar_no h
    have h2 : inB x n = false := by rw [Bool.eq_false_iff]; exact h
    have HN := Lib.hid (refNode_any x n w hn2)
    rw [h2] at HN
    rw [e1, e2]
    clear h h2 e1 e2 e3 hn2
    go_enter Tryd.func24, Tryd.ntmps24
    go_wp2_with fail
    refine HN.out.mono ?_; rintro _ _ ⟨rfl, rfl⟩
    go_wp2_with fail
    go_ret2
    exact ⟨⟨_, rfl, ON.nil _ _ _⟩, Kp.refl _⟩
theorem refPath_any (x n : Int) (w : World) (hn2 : -9223372036854775808 ≤ n ∧ n ≤ 9223372036854775807) :
    Calls Tryd.prog 24 #[.int .i64 x, .int .i64 n] w fun e w' => (∃ v, e = .returned (.tuple #[v, .int .i64 (arE x n)]) ∧ RN w' v (pathV x n)) ∧ Kp w w' := by
  refine (refPath_own x n w hn2).mono ?_
  rintro _ w' ⟨⟨v, rfl, o⟩, k⟩
  exact ⟨⟨v, rfl, o.rn⟩, k⟩

set_option maxHeartbeats 2000000 in
theorem refCopath_yes (K j q : Nat) (w : World) (hK : K ≤ 10) (hj : j ≤ K) (hq : q < 2 ^ (K - j)) :
    Calls Tryd.prog 26 #[.int .i64 ((nd j q : Nat) : Int), .int .i64 ((2 ^ K : Nat) : Int)] w fun e w' => (∃ v, e = .returned (.tuple #[v, .int .i64 0]) ∧ RN w' v (copathN K j q)) ∧ Kp w w' := by
  have S := s1ints
  have hin := (inB_iff ((nd j q : Nat) : Int) ((2 ^ K : Nat) : Int)).2 ⟨K, j, q, hK, rfl, rfl, hj, hq⟩
  have hb := p2_le hK
  have hb2 := p2_pos K
  have hn2 : -9223372036854775808 ≤ ((2 ^ K : Nat) : Int) ∧ ((2 ^ K : Nat) : Int) ≤ 9223372036854775807 := by omega
  have HN := Lib.hid (refNode_any ((nd j q : Nat) : Int) ((2 ^ K : Nat) : Int) w hn2)
  rw [hin] at HN
  obtain ⟨w1, w2, w3⟩ := way hK hj hq
  have HT := Lib.hid (copathN_take K j q)
  have HL := Lib.hid (copathN_length K j q)
  have HP : Hid (∀ i W, i < K - j → Calls Tryd.prog 20 #[.int .i64 ((nd (j + i) (q / 2 ^ i) : Nat) : Int), .int .i64 ((2 ^ K : Nat) : Int)] W fun e w' => e = .returned (.tuple #[.int .i64 ((nd (j + (i + 1)) (q / 2 ^ (i + 1)) : Nat) : Int), .int .i64 0]) ∧ W = w') := fun i W hi => by
    have := refParent_any ((nd (j + i) (q / 2 ^ i) : Nat) : Int) ((2 ^ K : Nat) : Int) W hn2
    rwa [(w3 i hi).1, (w3 i hi).2.1] at this
  have HS : Hid (∀ i W, i < K - j → Calls Tryd.prog 22 #[.int .i64 ((nd (j + i) (q / 2 ^ i) : Nat) : Int), .int .i64 ((2 ^ K : Nat) : Int)] W fun e w' => e = .returned (.tuple #[.int .i64 ((nd (j + i) (sq (q / 2 ^ i)) : Nat) : Int), .int .i64 0]) ∧ W = w') := fun i W hi => by
    have := refSibling_any ((nd (j + i) (q / 2 ^ i) : Nat) : Int) ((2 ^ K : Nat) : Int) W hn2
    rwa [(w3 i hi).1, (w3 i hi).2.2] at this
  have i1 : IntKind.i64.wrap (((2 ^ K : Nat) : Int) - 1) = ((2 ^ K : Nat) : Int) - 1 := IntWalk.i64_in _ (by omega)
  obtain ⟨f, hf⟩ : ∃ f : Nat → Nat, f = fun i => nd (j + i) (q / 2 ^ i) := ⟨_, rfl⟩
  have hfi : ∀ i, nd (j + i) (q / 2 ^ i) = f i := fun i => by rw [hf]
  obtain ⟨g, hg⟩ : ∃ g : Nat → Nat, g = fun i => nd (j + i) (sq (q / 2 ^ i)) := ⟨_, rfl⟩
  have hgi : ∀ i, nd (j + i) (sq (q / 2 ^ i)) = g i := fun i => by rw [hg]
  have hf0 : nd j q = f 0 := by rw [hf]; simp
  have HT2 : Hid (∀ i, i < K - j → (copathN K j q).take (i + 1) = (copathN K j q).take i ++ [g i]) := fun i hi => by
    rw [HT.out i hi]
    rw [hg]
  have HE : Hid ((copathN K j q).take (K - j) = copathN K j q) := by unfold Hid; rw [List.take_of_length_le (by rw [HL.out]; omega)]
  generalize copathN K j q = PL at *
  simp only [hfi, hgi] at *
  rw [hf0] at HN ⊢
  have W1 := Lib.hid w1
  have W2 := Lib.hid w2
  have hdk : K - j ≤ 10 := by omega
  have HJ : Hid (∀ i, i ≤ K - j → lev (f i) = j + i) := fun i hi => (w1 i hi).2.2
  generalize ((2 ^ K : Nat) : Int) = N at *
  clear hin hb hb2 hn2 w1 w2 w3 HT hf hfi hg hgi hf0 hq
  go_enter Tryd.func26, Tryd.ntmps26
  go_wp2_with fail
  refine HN.out.mono ?_; rintro _ _ ⟨rfl, rfl⟩
  clear HN
  go_wp2_with fail
  go_loopw [0, 7] (fun x v wr => ∃ i : Nat, i ≤ K - j ∧ x = .int .i64 ((f i : Nat) : Int) ∧ ON 3 wr w.heap.size v (PL.take i) ∧ Kp w wr) (fun x _ _ => (20 - lev (intOf x).toNat))
  case atStart => exact ⟨0, Nat.zero_le _, rfl, ON.nil _ _ _, Kp.refl _⟩
  case round =>
    obtain ⟨i, hi, rfl, ho, hk⟩ := hrel
    have hroot := W2.out i hi
    obtain ⟨b1, b2, b3⟩ := W1.out i hi
    by_cases hlt : i < K - j
    · have hne : ¬ ((f i : Nat) : Int) = N - 1 := fun h => by have := hroot.1 h; omega
      have hbf : (((f i : Nat) : Int) == N - 1) = false := beq_eq_false_iff_ne.2 hne
      have HP1 := Lib.hid (HP.out i wr hlt)
      have HS1 := Lib.hid (HS.out i wr hlt)
      have HTI := Lib.hid (HT2.out i hlt)
      have HLV := Lib.hid (And.intro (HJ.out i hi) (HJ.out (i + 1) (by omega)))
      have hsz := hk.size
      have HLN : Hid ((PL.take i).length ≤ 1000000) := by unfold Hid; rw [List.length_take, HL.out]; omega
      generalize PL.take i = L at *
      clear W1 W2 HP HS HT2 HE HJ hroot b1 b2 b3
      go_wp2_with fail
      refine HS1.out.mono ?_; rintro _ _ ⟨rfl, rfl⟩
      go_wp2_with fail
      refine HP1.out.mono ?_; rintro _ _ ⟨rfl, rfl⟩
      go_wp2_with (at_builtin; refine wpList_append_n (o := ⟨some 36, _, _, _, _, _⟩) S rfl _ _ rfl w.heap.size _ L rfl (ho.kp ((Kp.refl wr).alloc _)) _ _ rfl (ON.lit1 wr 3 (g i)) HLN.out (by simp; omega) ?_; intro v4 w4 o4 g4; have k4 : Kp w w4 := Kp.grown (hk.alloc _) g4 ho.own_ge)
      go_roundw
      case rel => exact ⟨i + 1, by omega, rfl, by rw [HTI.out]; exact o4, k4⟩
      case measure => have := HLV.out; simp [intOf]; omega
    · obtain rfl : i = K - j := by omega
      have heq : ((f (K - j) : Nat) : Int) = N - 1 := hroot.2 rfl
      rw [HE.out] at ho
      have R := Lib.hid ho.rn
      obtain ⟨av, nv, cv, rfl⟩ := ho.rn.sl
      have KK := Lib.hid hk
      clear W1 W2 HP HS HT2 HE HJ hroot b1 b2 b3 ho hk
      go_wp2_with fail
      go_ret2
      exact ⟨⟨_, rfl, R.out⟩, KK.out⟩

set_option maxHeartbeats 1000000 in
theorem refCopath_any (x n : Int) (w : World) (hn2 : -9223372036854775808 ≤ n ∧ n ≤ 9223372036854775807) :
    Calls Tryd.prog 26 #[.int .i64 x, .int .i64 n] w fun e w' => (∃ v, e = .returned (.tuple #[v, .int .i64 (arE x n)]) ∧ RN w' v (copaV x n)) ∧ Kp w w' := by
  by_cases h : inB x n = true
  · obtain ⟨K, j, q, hK, rfl, rfl, hj, hq⟩ := (inB_iff x n).1 h
    obtain ⟨e1, e2, e3⟩ := ar_yes hK hj hq
    rw [e1, e3]
    exact refCopath_yes K j q w hK hj hq
  · obtain ⟨e1, e2, e3⟩ := ar_no h
    have h2 : inB x n = false := by rw [Bool.eq_false_iff]; exact h
    have HN := Lib.hid (refNode_any x n w hn2)
    rw [h2] at HN
    rw [e1, e3]
    clear h h2 e1 e2 e3 hn2
    go_enter Tryd.func26, Tryd.ntmps26
    go_wp2_with fail
    refine HN.out.mono ?_; rintro _ _ ⟨rfl, rfl⟩
    go_wp2_with fail
    go_ret2
    exact ⟨⟨_, rfl, RN.nil _⟩, Kp.refl _⟩
end Go.Proofs.YtcomgbneacbncaaDoor

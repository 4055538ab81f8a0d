/- tree.Resolve. -/
import Derived.Test.YtobldbodafaajaaGreatDoorRefTree9
import Derived.Test.YtobldbodafaajaaGreatDoorTreeRow10
set_option linter.unusedVariables false
set_option linter.unusedSimpArgs false
namespace Go.Proofs.YtobldbodafaajaaGreatDoor
open Go.RowKit

set_option maxHeartbeats 2000000 in
/-- A node that isn't blank: it, and the leaves of its Un. -/
theorem treeRes_full (u : Value) (t : List Nod) (K j q : Nat) (w : World) (hu : NL w u t) (hr : RightK t K) (hj : j ≤ K) (hq : q < 2 ^ (K - j)) (hk : (ats t (nd j q)).kind ≠ 0) :
    Calls Tryz.prog 82 #[u, .int .i64 ((nd j q : Nat) : Int)] w fun e w' => (∃ r, e = .returned r ∧ OI 3 w' w.heap.size r (((nd j q : Nat) : Int) :: (ats t (nd j q)).un.map (2 * ·))) ∧ Kp w w' := by
  have S := s1ints
  obtain ⟨_, s2, s3⟩ := nd_small hr.le hj hq
  have hun := fun i hi => hr.unAt s2 s3 i hi
  have hul := hr.un_len (nd j q)
  have hx : nd j q < t.length := by rw [hr.len]; exact nd_lt hj hq
  obtain ⟨a, c, rfl, p1, s1⟩ := hu.shape
  obtain ⟨b, off, rfl, hb, hc⟩ := hu.at (nd j q) hx
  obtain ⟨p, uu, h, hn⟩ := hc (nd j q) hx
  have c0 := hn.kind
  have HC := Lib.hid (fun W (hW : Kp w W) => (hn.kp hW).unC)
  have HR := Lib.hid hn.2.un
  obtain ⟨aq, cq, rfl, u1, u2⟩ := hn.2.un.shape
  unfold maxLen at u2
  have hz1 := hr.small.1
  generalize nd j q = X at *
  have HV : Hid (∀ k, k < (ats t X).un.length → 0 ≤ (ats t X).un.getD k 0 ∧ (ats t X).un.getD k 0 ≤ 2047) := fun k hk => by
    have hg : (ats t X).un.getD k 0 = (ats t X).un[k] := by rw [List.getD_eq_getElem?_getD, List.getElem?_eq_getElem hk]; rfl
    obtain ⟨v, e, _, h3⟩ := hun _ (List.getElem_mem hk)
    rw [hg, e]
    have := RightK.lt_of (t := t) (x := 2 * v) (by rw [h3]; decide)
    omega
  have HT : Hid (∀ k, k < (ats t X).un.length → ((X : Int) :: ((ats t X).un.take (k + 1)).map (2 * ·)) = ((X : Int) :: ((ats t X).un.take k).map (2 * ·)) ++ [2 * (ats t X).un.getD k 0]) := fun k hk => by
    rw [List.take_succ_eq_append_getElem hk, List.map_append, List.getD_eq_getElem?_getD, List.getElem?_eq_getElem hk]
    rfl
  have HTE : Hid (((X : Int) :: ((ats t X).un.take (ats t X).un.length).map (2 * ·)) = ((X : Int) :: (ats t X).un.map (2 * ·))) := by unfold Hid; rw [List.take_length]
  have HTL : Hid (∀ k, ((X : Int) :: ((ats t X).un.take k).map (2 * ·)).length ≤ 1025) := fun k => by
    rw [List.length_cons, List.length_map, List.length_take]; omega
  have hxb : ((ats t X).kind == 0) = false := beq_eq_false_iff_ne.2 hk
  have hxn : ((ats t X).kind != 0) = true := bne_iff_ne.2 hk
  obtain ⟨N, hN⟩ : ∃ N, t.length = N := ⟨_, rfl⟩
  rw [hN] at p1 hx hz1 ⊢
  have i2 : (X : Int) < (N : Int) := by omega
  have i2b : decide ((N : Int) ≤ (X : Int)) = false := decide_eq_false (by omega)
  have i2c : ¬ (N : Int) ≤ (X : Int) := by omega
  generalize (ats t X).kind = KD at *
  generalize (ats t X).un = UN at *
  obtain ⟨U, hU⟩ : ∃ U, UN.length = U := ⟨_, rfl⟩
  rw [hU] at HC HR HV HT HTE u1 hul
  clear hu hr hj hq hc hn hN hun hU s2 s3 hb hz1
  obtain ⟨F, hF⟩ : ∃ F : Nat → List Int, F = fun k => ((X : Int) :: (UN.take k).map (2 * ·)) := ⟨_, rfl⟩
  have hFk : ∀ k, ((X : Int) :: (UN.take k).map (2 * ·)) = F k := fun k => by rw [hF]
  have HF0 : Hid ([(X : Int)] = F 0) := by unfold Hid; rw [hF]; rfl
  simp only [hFk] at HT HTE HTL
  generalize ((X : Int) :: UN.map (2 * ·)) = OUT at *
  clear hF hFk
  have c3 := HC.out (w.alloc (.cells #[.int .i64 (X : Int)] 3)) ((Kp.refl _).alloc _)
  go_enter Tryz.func82, Tryz.ntmps82
  go_wp2_with fail
  have HST : Hid (OI 3 (w.alloc (.cells #[.int .i64 (X : Int)] 3)) w.heap.size (.slice (some ⟨w.heap.size, 0, none⟩) 1 1) (F 0)) := by
    rw [← HF0.out]
    exact RI.lit w 3 #[.int .i64 (X : Int)] [(X : Int)] 1 rfl (by omega) rfl
  go_loopw [5, 34] (fun v i wr => ∃ k : Nat, k ≤ U ∧ i = .int .i64 (k : Int) ∧ OI 3 wr w.heap.size v (F k) ∧ Kp w wr) (fun _ i _ => (U - (intOf i).toNat))
  case atStart => exact ⟨0, Nat.zero_le _, rfl, HST.out, (Kp.refl _).alloc _⟩
  case round =>
    obtain ⟨k, hk, rfl, ho, hkp⟩ := hrel
    have c3 := HC.out wr hkp
    have i1 : IntKind.i64.wrap ((k : Int) + 1) = (k : Int) + 1 := IntWalk.i64_in _ (by omega)
    by_cases hlt : k < U
    · obtain ⟨g1, o1, rfl, _, hc1⟩ := (HR.out.kp hkp).at k hlt
      have d1 := hc1 k hlt
      obtain ⟨v0, v1⟩ := HV.out k hlt
      have HT1 := Lib.hid (HT.out k hlt)
      have hfl := HTL.out k
      have hsz := hkp.size
      have i4 : IntKind.i64.wrap (2 * UN.getD k 0) = 2 * UN.getD k 0 := IntWalk.i64_in _ (by omega)
      clear HC HR HV HT HTE HTL hc1 HF0 HST
      generalize UN.getD k 0 = V at *
      generalize F k = FK at *
      go_wp2_with (at_builtin; refine wpList_append_i (o := ⟨some 42, _, _, _, _, _⟩) S rfl _ _ rfl w.heap.size _ FK rfl (ho.kp ((Kp.refl wr).alloc _)) _ [2 * V] rfl (OI.lit1 wr 3 (2 * V)) (by simp; omega) (by simp; omega) ?_; intro v5 w5 o5 g5; have k5 : Kp w w5 := Kp.grown (hkp.alloc _) g5 ho.own_ge)
      go_roundw
      case rel => exact ⟨k + 1, by omega, by go_num, by rw [HT1.out]; exact o5, k5⟩
      case measure => simp [intOf]; omega
    · obtain rfl : k = U := by omega
      rw [HTE.out] at ho
      have HO := Lib.hid (And.intro ho hkp)
      obtain ⟨a5, n5, c5, rfl⟩ := ho.ri.sl
      clear ho hkp HTE HT HTL HV HF0 HST HC HR
      go_wp2_with fail
      go_ret
      exact ⟨⟨_, rfl, HO.out.1⟩, HO.out.2⟩

set_option maxHeartbeats 2000000 in
theorem treeRes_nd (u : Value) (t : List Nod) (K : Nat) (hr : RightK t K) : ∀ (j q : Nat) (w : World), NL w u t → Tab w → j ≤ K → q < 2 ^ (K - j) →
    Calls Tryz.prog 82 #[u, .int .i64 ((nd j q : Nat) : Int)] w fun e w' => (∃ r, e = .returned r ∧ OI 3 w' w.heap.size r (resF t j q)) ∧ Kp w w' := by
  intro j
  induction j with
  | zero =>
    intro q w hu hT hj hq
    by_cases hk : (ats t (nd 0 q)).kind = 0
    · have e : resF t 0 q = [] := by unfold resF; rw [if_pos hk]
      rw [e]
      have hx : nd 0 q < t.length := by rw [hr.len]; exact nd_lt hj hq
      obtain ⟨a, c, rfl, p1, s1⟩ := hu.shape
      obtain ⟨b, off, rfl, hb, hc⟩ := hu.at (nd 0 q) hx
      obtain ⟨p, uu, h, hn⟩ := hc (nd 0 q) hx
      have c0 := hn.kind
      rw [hk] at c0
      have i2 : ((nd 0 q : Nat) : Int) < (t.length : Int) := by omega
      obtain ⟨s1', s2, s3⟩ := nd_small hr.le hj hq
      have HLF := Lib.hid (mathLeft_same ((nd 0 q : Nat) : Int) w hT)
      have hlv0 := levV_nd s2 s3
      rw [show lefV ((nd 0 q : Nat) : Int) = 0 from if_pos hlv0, show chE ((nd 0 q : Nat) : Int) = 1 from if_pos hlv0] at HLF
      generalize nd 0 q = X at *
      generalize t.length = N at *
      clear hc hn hu hr e hb hq hj hlv0 s2 s3 s1' hT
      go_enter Tryz.func82, Tryz.ntmps82
      go_wp2_with fail
      refine HLF.out.mono ?_; rintro _ _ ⟨rfl, rfl⟩
      go_wp2_with fail
      go_ret
      exact ⟨⟨_, rfl, OI.nil _ _ _⟩, Kp.refl _⟩
    · have e : resF t 0 q = (((nd 0 q : Nat) : Int) :: (ats t (nd 0 q)).un.map (2 * ·)) := by unfold resF; rw [if_neg hk]
      rw [e]
      exact treeRes_full u t K 0 q w hu hr hj hq hk
  | succ j ih =>
    intro q w hu hT hj hq
    by_cases hk : (ats t (nd (j + 1) q)).kind = 0
    · have S := s1ints
      have e : resF t (j + 1) q = resF t j (2 * q) ++ resF t j (2 * q + 1) := by
        show (if (ats t (nd (j + 1) q)).kind = 0 then _ else _) = _
        rw [if_pos hk]
      rw [e]
      have e9 : K - j = (K - (j + 1)) + 1 := by omega
      have hp := p2_succ (K - (j + 1))
      rw [← e9] at hp
      have H1 := Lib.hid (fun W (hW : Kp w W) => ih (2 * q) W (hu.kp hW) (hT.kp hW) (by omega) (by omega))
      have H2 := Lib.hid (fun W (hW : Kp w W) => ih (2 * q + 1) W (hu.kp hW) (hT.kp hW) (by omega) (by omega))
      obtain ⟨_, s2, s3⟩ := nd_small hr.le hj hq
      obtain ⟨f1, f2, f3⟩ := ch_yes (j := j) (q := q) s2 s3
      have HLF := Lib.hid (mathLeft_same ((nd (j + 1) q : Nat) : Int) w hT)
      have HRT := Lib.hid (mathRight_same ((nd (j + 1) q : Nat) : Int) w hT)
      rw [f1, f2] at HLF
      rw [f1, f3] at HRT
      have hlen : (resF t j (2 * q)).length + (resF t j (2 * q + 1)).length ≤ 1000000 := by
        have h1 := res_len hr j (2 * q) (by omega) (by omega)
        have h2 := res_len hr j (2 * q + 1) (by omega) (by omega)
        have h3 : 2 ^ (j + 1) ≤ 1024 := p2_le (by have := hr.le; omega)
        omega
      have hx : nd (j + 1) q < t.length := by rw [hr.len]; exact nd_lt hj hq
      obtain ⟨a, c, rfl, p1, s1⟩ := hu.shape
      obtain ⟨b, off, rfl, hb, hc⟩ := hu.at (nd (j + 1) q) hx
      obtain ⟨p, uu, h, hn⟩ := hc (nd (j + 1) q) hx
      have c0 := hn.kind
      rw [hk] at c0
      have i2 : ((nd (j + 1) q : Nat) : Int) < (t.length : Int) := by omega
      generalize nd (j + 1) q = X at *
      generalize nd j (2 * q) = XL at *
      generalize nd j (2 * q + 1) = XR at *
      generalize resF t j (2 * q) = RL9 at *
      generalize resF t j (2 * q + 1) = RR9 at *
      generalize t.length = N at *
      clear hc hn hu hr e hb hq hj hT e9 hp s2 s3 f1 f2 f3 ih hx
      go_enter Tryz.func82, Tryz.ntmps82
      go_wp2_with fail
      refine HLF.out.mono ?_; rintro _ _ ⟨rfl, rfl⟩
      go_wp2_with fail
      refine HRT.out.mono ?_; rintro _ _ ⟨rfl, rfl⟩
      clear HLF HRT
      go_wp2_with fail
      refine (H1.out w (Kp.refl _)).mono ?_; rintro _ w1 ⟨⟨r1, rfl, o1⟩, k1⟩
      have K1 := Lib.hid k1
      have O1 := Lib.hid o1
      obtain ⟨x5, n5, c5, rfl⟩ := o1.ri.sl
      clear H1 o1
      go_wp2_with fail
      refine (H2.out w1 K1.out).mono ?_; rintro _ w2 ⟨⟨r2, rfl, o2⟩, k2⟩
      have hsz := (K1.out.trans k2).size
      go_wp2_with (at_builtin; refine wpList_append_i (o := ⟨some 63, _, _, _, _, _⟩) S rfl _ _ rfl w.heap.size _ RL9 rfl (O1.out.kp k2) _ RR9 rfl o2.ri hlen (by omega) ?_; intro v5 w5 o5 g5; have k5 : Kp w w5 := Kp.grown (K1.out.trans k2) g5 O1.out.own_ge)
      have O5 := Lib.hid (And.intro o5 k5)
      obtain ⟨x6, n6, c6, rfl⟩ := o5.ri.sl
      clear H2 o2 k2 o5 g5 k5 O1
      go_wp2_with fail
      go_ret
      exact ⟨⟨_, rfl, O5.out.1⟩, O5.out.2⟩
    · have e : resF t (j + 1) q = (((nd (j + 1) q : Nat) : Int) :: (ats t (nd (j + 1) q)).un.map (2 * ·)) := by
        show (if (ats t (nd (j + 1) q)).kind = 0 then _ else _) = _
        rw [if_neg hk]
      rw [e]
      exact treeRes_full u t K (j + 1) q w hu hr hj hq hk
set_option maxHeartbeats 1000000 in
theorem treeRes_any (u : Value) (t : List Nod) (K : Nat) (x : Int) (w : World) (hu : NL w u t) (hr : RightK t K) (hT : Tab w) :
    Calls Tryz.prog 82 #[u, .int .i64 x] w fun e w' => (∃ r, e = .returned r ∧ OI 3 w' w.heap.size r (resV t x)) ∧ Kp w w' := by
  by_cases h0 : 0 ≤ x
  · obtain ⟨y, rfl⟩ := Int.eq_ofNat_of_zero_le h0
    by_cases h1 : y < t.length
    · obtain ⟨j, q, rfl, hj, hq⟩ := nd_of K y (by rw [← hr.len]; exact h1)
      rw [res_nd hr hj hq]
      exact treeRes_nd u t K hr j q w hu hT hj hq
    · have e : resV t (y : Int) = [] := if_neg (by omega)
      have i1 : ¬ (y : Int) < 0 := by omega
      have i2 : (t.length : Int) ≤ (y : Int) := by omega
      rw [e]
      obtain ⟨a, c, rfl, p1, s1⟩ := hu.shape
      clear hu hr e h1
      go_enter Tryz.func82, Tryz.ntmps82
      go_wp2_with fail
      go_ret
      exact ⟨⟨_, rfl, OI.nil _ _ _⟩, Kp.refl _⟩
  · have e : resV t x = [] := if_neg (fun h => h0 h.1)
    have i1 : x < 0 := by omega
    rw [e]
    obtain ⟨a, c, rfl, p1, s1⟩ := hu.shape
    clear hu hr e
    go_enter Tryz.func82, Tryz.ntmps82
    go_wp2_with fail
    go_ret
    exact ⟨⟨_, rfl, OI.nil _ _ _⟩, Kp.refl _⟩
theorem treeResolve_any (u : Value) (t : List Nod) (K : Nat) (x : Int) (w : World) (hu : NL w u t) (hr : RightK t K) (hx : -9223372036854775808 ≤ x ∧ x ≤ 9223372036854775807) (hT : Tab w) :
    Calls Tryz.prog 82 #[u, .int .i64 x] w fun e w' => (∃ r, e = .returned r ∧ RI w' r (resV t x)) ∧ Kp w w' :=
  (treeRes_any u t K x w hu hr hT).mono fun _ _ ⟨⟨r, h1, h2⟩, h3⟩ => ⟨⟨r, h1, h2.ri⟩, h3⟩
end Go.Proofs.YtobldbodafaajaaGreatDoor

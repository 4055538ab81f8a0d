/- The document's example, and a leaf that goes, at the head of all statements of layer 9: shown. -/
import Derived.Test.YtnpobcggadojkaaGreatDoorTreeOwn
import Derived.Test.YtnpobcggadojkaaGreatDoorTreeHalf
set_option linter.unusedVariables false
set_option linter.unusedSimpArgs false
namespace Go.Proofs.YtnpobcggadojkaaGreatDoor
open Go.RowKit

def hb9 (k : Nat) : List UInt8 := halfB (UInt8.ofNat k)
/-- The example's trees. -/
def TT : Nat → List Nod
  | 0 => [leafN 10 (hb9 1)]
  | k + 1 => addV (TT k) (11 + (k : Int)) (hb9 (k + 1))
theorem tt_new : newE 10 (halfB 1) = 0 ∧ newV 10 (halfB 1) = TT 0 := by decide +kernel
theorem tt_add : ∀ k : Fin 3, addE (TT k.1) (11 + (k.1 : Int)) (hb9 (k.1 + 1)) = 0 ∧ addI (TT k.1) (11 + (k.1 : Int)) (hb9 (k.1 + 1)) = (k.1 : Int) + 1 := by decide +kernel
theorem tt_len : (TT 3).length = 7 ∧ remE (TT 3) 3 = 0 ∧ (remV (TT 3) 3).length = 7 ∧ remE (remV (TT 3) 3) 2 = 0 ∧ (remV (remV (TT 3) 3) 2).length = 3 ∧ findV (TT 3) 12 = 2 ∧ findB (TT 3) 12 = true ∧ resV (TT 3) 3 = [0, 2, 4, 6] := by decide +kernel
theorem tt_ne : ¬ TT 3 = remV (TT 3) 3 := by decide +kernel
theorem tt_right : ∀ k, ∃ K, RightK (TT k) K
  | 0 => ⟨0, RightK.new (by decide)⟩
  | k + 1 => by
    obtain ⟨K, h⟩ := tt_right k
    exact h.addR _ _
set_option maxRecDepth 100000 in
set_option maxHeartbeats 8000000 in
theorem shownTree_any (w : World) (hTAB : Tab w) : Calls Tryz.prog 8 #[] w fun e w' => e = .returned (.bool true) ∧ Kp w w' := by
  have HTAB := Lib.hid hTAB
  clear hTAB
  have HH1 := Lib.hid (half9_any 1 w)
  have HNEW : Hid (∀ W v, Rd W v (halfB 1) → Tab W → Calls Tryz.prog 10 #[.int .i64 10, v] W fun e w' => (∃ r, e = .returned (.tuple #[r, .int .i64 0]) ∧ NL w' r (TT 0)) ∧ Kp W w') := fun W v hv hTW => by
    have := treeNew_any 10 v (halfB 1) W hv (by omega) hTW
    rwa [tt_new.1, tt_new.2] at this
  have HHK : Hid (∀ (k : Nat) W, k < 3 → Calls Tryz.prog 28 #[.int .u8 ((k : Int) + 1)] W fun e w' => (∃ r, e = .returned r ∧ Rd w' r (hb9 (k + 1))) ∧ Kp W w') := fun k W hk => by
    have := half9_any (UInt8.ofNat (k + 1)) W
    rwa [show (((UInt8.ofNat (k + 1)).toNat : Nat) : Int) = (k : Int) + 1 by
      have : (UInt8.ofNat (k + 1)).toNat = k + 1 := by simp; omega
      rw [this]; omega] at this
  have HADD : Hid (∀ (k : Nat) W u v, k < 3 → NL W u (TT k) → Rd W v (hb9 (k + 1)) → Tab W → Calls Tryz.prog 22 #[u, .int .i64 (11 + (k : Int)), v] W fun e w' => (∃ r, e = .returned (.tuple #[r, .int .i64 ((k : Int) + 1), .int .i64 0]) ∧ NL w' r (TT (k + 1))) ∧ Kp W w') := fun k W u v hk hu hv hTW => by
    obtain ⟨K, hr⟩ := tt_right k
    have := treeAdd_any u v (TT k) K (11 + (k : Int)) (hb9 (k + 1)) W hu hv hr (by omega) hTW
    rwa [(tt_add ⟨k, hk⟩).1, (tt_add ⟨k, hk⟩).2] at this
  obtain ⟨e1, e2, e3, e4, e5, e6, e7, e8⟩ := tt_len
  have HREM : Hid (∀ W u, NL W u (TT 3) → Tab W → Calls Tryz.prog 24 #[u, .int .i64 3] W fun e w' => (∃ r, e = .returned (.tuple #[r, .int .i64 0]) ∧ NL w' r (remV (TT 3) 3)) ∧ Kp W w') := fun W u hu hTW => by
    obtain ⟨K, hr⟩ := tt_right 3
    have := treeRemove_any u (TT 3) K 3 W hu hr (by omega) hTW
    rwa [e2] at this
  have HREM2 : Hid (∀ W u, NL W u (remV (TT 3) 3) → Tab W → Calls Tryz.prog 24 #[u, .int .i64 2] W fun e w' => (∃ r, e = .returned (.tuple #[r, .int .i64 0]) ∧ NL w' r (remV (remV (TT 3) 3) 2)) ∧ Kp W w') := fun W u hu hTW => by
    obtain ⟨K, hr⟩ := tt_right 3
    obtain ⟨K', hr'⟩ := hr.remR 3
    have := treeRemove_any u _ K' 2 W hu hr' (by omega) hTW
    rwa [e4] at this
  have HFIND : Hid (∀ W u, NL W u (TT 3) → Tab W → Calls Tryz.prog 16 #[u, .int .i64 12] W fun e w' => e = .returned (.tuple #[.int .i64 2, .bool true]) ∧ Kp W w') := fun W u hu hTW => by
    obtain ⟨K, hr⟩ := tt_right 3
    have := treeFind_any u (TT 3) K 12 W hu hr (by omega) hTW
    rwa [e6, e7] at this
  have HRIGHT : Hid (∀ W u, NL W u (TT 3) → Tab W → Calls Tryz.prog 14 #[u] W fun e w' => e = .returned (.bool true) ∧ Kp W w') := fun W u hu hTW => by
    obtain ⟨K, hr⟩ := tt_right 3
    refine (treeRight_any u (TT 3) W hu (by omega) hTW).mono ?_
    rintro _ w' ⟨⟨b, rfl, hb⟩, k⟩
    rw [hb.2 ⟨K, hr⟩]
    exact ⟨rfl, k⟩
  have HRES : Hid (∀ W u, NL W u (TT 3) → Tab W → Calls Tryz.prog 19 #[u, .int .i64 3] W fun e w' => (∃ r, e = .returned r ∧ RI w' r [0, 2, 4, 6]) ∧ Kp W w') := fun W u hu hTW => by
    obtain ⟨K, hr⟩ := tt_right 3
    have := treeResolve_any u (TT 3) K 3 W hu hr (by omega) hTW
    rwa [e8] at this
  have HSAME : Hid (∀ W u v, NL W u (TT 3) → NL W v (remV (TT 3) 3) → Tab W → Calls Tryz.prog 15 #[u, v] W fun e w' => e = .returned (.bool false) ∧ Kp W w') := fun W u v hu hv hTW => by
    refine (treeSame_any u v (TT 3) _ W hu hv (by omega) (by omega) hTW).mono ?_
    rintro _ w' ⟨⟨b, rfl, hb⟩, k⟩
    cases b
    · exact ⟨rfl, k⟩
    · exact absurd (hb.1 rfl) tt_ne
  have HINT : Hid (∀ W u v, RI W u [0, 2, 4, 6] → RI W v [0, 2, 4, 6] → Calls Tryz.prog 18 #[u, v] W fun e w' => e = .returned (.bool true) ∧ Kp W w') := fun W u v hu hv => by
    have := refIntsI_any u v [0, 2, 4, 6] [0, 2, 4, 6] W hu hv
    rwa [decide_eq_true rfl] at this
  have E1 := Lib.hid e1
  have E3 := Lib.hid e3
  have E5 := Lib.hid e5
  clear e1 e2 e3 e4 e5 e6 e7 e8
  obtain ⟨T, hT⟩ : ∃ T, T = TT := ⟨_, rfl⟩
  rw [← hT] at HNEW HADD HREM HREM2 HFIND HRIGHT HRES HSAME E1 E3 E5
  clear hT
  generalize remV (remV (T 3) 3) 2 = V9 at *
  generalize remV (T 3) 3 = U9 at *
  go_enter Tryz.func8, Tryz.ntmps8
  go_wp2_with fail
  refine HH1.out.mono ?_; rintro _ w1 ⟨⟨r1, rfl, s1⟩, k1⟩
  have S1' := Lib.hid s1
  have K1 := Lib.hid k1
  clear HH1 s1 k1
  go_wp2_with fail
  refine (HNEW.out w1 _ S1'.out (HTAB.out.kp (by first | exact KK.out | exact KL.out | exact KR.out | exact K9.out | exact K1.out | exact K2.out | exact K3.out | exact K4.out | exact K5.out | exact K6.out | exact K7.out | exact K8.out | exact K9.out | exact K10.out | exact K11.out | exact K12.out | exact K13.out | exact K14.out | exact K15.out | exact K16.out | exact K17.out | exact K18.out | exact K19.out | exact K20.out | exact K21.out | exact K22.out | exact K23.out | exact K24.out | exact HO.out.2 | exact S2.out.2 | exact HT3.out.2 | exact KK.out.trans KR.out | exact KK.out.trans KL.out))).mono ?_; rintro _ w2 ⟨⟨r2, rfl, s2⟩, k2⟩
  have S2 := Lib.hid (And.intro s2 (K1.out.trans k2))
  clear HNEW s2 k2 S1' K1
  go_wp2_with fail
  go_loopw [1, 3] (fun v i wr => ∃ k : Nat, k ≤ 3 ∧ i = .int .i64 ((k : Int) + 1) ∧ NL wr v (T k) ∧ Kp w wr) (fun _ i _ => (4 - (intOf i).toNat))
  case atStart => exact ⟨0, by omega, rfl, S2.out.1, S2.out.2⟩
  case round =>
    obtain ⟨k, hk, rfl, ho, hkp⟩ := hrel
    have HO := Lib.hid (And.intro ho hkp)
    clear S2
    by_cases hlt : k < 3
    · have i1 : IntKind.i64.wrap ((k : Int) + 1 + 1) = (k : Int) + 1 + 1 := IntWalk.i64_in _ (by omega)
      have i2 : IntKind.i64.wrap (10 + ((k : Int) + 1)) = 11 + (k : Int) := by rw [IntWalk.i64_in _ (by omega)]; omega
      have i3 : IntKind.u8.wrap ((k : Int) + 1) = (k : Int) + 1 := by
        have : ∀ j : Fin 3, IntKind.u8.wrap ((j.1 : Int) + 1) = (j.1 : Int) + 1 := by decide
        exact this ⟨k, hlt⟩
      have i4 : (k : Int) + 1 < 4 := by omega
      have H1 := Lib.hid (HHK.out k wr hlt)
      have H2 := HADD.out k
      have hm : 4 - (k + 1 + 1) < 4 - (k + 1) := by omega
      clear HHK HADD HREM HREM2 HFIND HRIGHT HRES HSAME HINT E1 E3 E5 ho hkp
      go_wp2_with fail
      refine H1.out.mono ?_; rintro _ w3 ⟨⟨r3, rfl, s3⟩, k3⟩
      have H3 := Lib.hid (H2 w3 _ _ hlt (HO.out.1.kp k3) s3 (HTAB.out.kp (HO.out.2.trans k3)))
      have K3 := Lib.hid (HO.out.2.trans k3)
      clear H1 H2 HO k3 s3
      go_wp2_with fail
      refine H3.out.mono ?_; rintro _ w4 ⟨⟨r4, rfl, s4⟩, k4⟩
      have S4 := Lib.hid (And.intro s4 (K3.out.trans k4))
      clear H3 K3 s4 k4
      go_wp2_with fail
      go_roundw
      case rel => exact ⟨k + 1, by omega, by go_num, S4.out.1, S4.out.2⟩
      case measure => simp [intOf]; omega
    · obtain rfl : k = 3 := by omega
      obtain ⟨a, c, e, _, _⟩ := ho.shape
      subst e
      rw [E1.out] at HO
      clear HHK HADD ho hkp hlt hk
      rw [E1.out]
      go_wp2_with fail
      refine (HREM.out wr _ HO.out.1 (HTAB.out.kp (by first | exact KK.out | exact KL.out | exact KR.out | exact K9.out | exact K1.out | exact K2.out | exact K3.out | exact K4.out | exact K5.out | exact K6.out | exact K7.out | exact K8.out | exact K9.out | exact K10.out | exact K11.out | exact K12.out | exact K13.out | exact K14.out | exact K15.out | exact K16.out | exact K17.out | exact K18.out | exact K19.out | exact K20.out | exact K21.out | exact K22.out | exact K23.out | exact K24.out | exact HO.out.2 | exact S2.out.2 | exact HT3.out.2 | exact KK.out.trans KR.out | exact KK.out.trans KL.out))).mono ?_; rintro _ w3 ⟨⟨r3, rfl, s3⟩, k3⟩
      have HT3 := Lib.hid (HO.out.1.kp k3)
      have K3 := Lib.hid (HO.out.2.trans k3)
      have HU3 := Lib.hid s3
      clear HREM HO k3
      go_wp2_with fail
      refine (HREM2.out w3 _ HU3.out (HTAB.out.kp (by first | exact KK.out | exact KL.out | exact KR.out | exact K9.out | exact K1.out | exact K2.out | exact K3.out | exact K4.out | exact K5.out | exact K6.out | exact K7.out | exact K8.out | exact K9.out | exact K10.out | exact K11.out | exact K12.out | exact K13.out | exact K14.out | exact K15.out | exact K16.out | exact K17.out | exact K18.out | exact K19.out | exact K20.out | exact K21.out | exact K22.out | exact K23.out | exact K24.out | exact HO.out.2 | exact S2.out.2 | exact HT3.out.2 | exact KK.out.trans KR.out | exact KK.out.trans KL.out))).mono ?_; rintro _ w4 ⟨⟨r4, rfl, s4⟩, k4⟩
      have HT4 := Lib.hid (HT3.out.kp k4)
      have K4 := Lib.hid (K3.out.trans k4)
      have HU4 := Lib.hid (HU3.out.kp k4)
      clear HREM2 HT3 K3 HU3 k4
      go_wp2_with fail
      refine (HFIND.out w4 _ HT4.out (HTAB.out.kp (by first | exact KK.out | exact KL.out | exact KR.out | exact K9.out | exact K1.out | exact K2.out | exact K3.out | exact K4.out | exact K5.out | exact K6.out | exact K7.out | exact K8.out | exact K9.out | exact K10.out | exact K11.out | exact K12.out | exact K13.out | exact K14.out | exact K15.out | exact K16.out | exact K17.out | exact K18.out | exact K19.out | exact K20.out | exact K21.out | exact K22.out | exact K23.out | exact K24.out | exact HO.out.2 | exact S2.out.2 | exact HT3.out.2 | exact KK.out.trans KR.out | exact KK.out.trans KL.out))).mono ?_; rintro _ w5 ⟨rfl, k5⟩
      have HT5 := Lib.hid (HT4.out.kp k5)
      have K5 := Lib.hid (K4.out.trans k5)
      have HU5 := Lib.hid (HU4.out.kp k5)
      clear HFIND HT4 K4 HU4 k5
      obtain ⟨a3, c3, e3, _, _⟩ := s3.shape
      subst e3
      obtain ⟨a4, c4, e4, _, _⟩ := s4.shape
      subst e4
      rw [E3.out] at HU5
      rw [E3.out, E5.out]
      clear s3 s4
      go_wp2_with fail
      refine (HRIGHT.out w5 _ HT5.out (HTAB.out.kp (by first | exact KK.out | exact KL.out | exact KR.out | exact K9.out | exact K1.out | exact K2.out | exact K3.out | exact K4.out | exact K5.out | exact K6.out | exact K7.out | exact K8.out | exact K9.out | exact K10.out | exact K11.out | exact K12.out | exact K13.out | exact K14.out | exact K15.out | exact K16.out | exact K17.out | exact K18.out | exact K19.out | exact K20.out | exact K21.out | exact K22.out | exact K23.out | exact K24.out | exact HO.out.2 | exact S2.out.2 | exact HT3.out.2 | exact KK.out.trans KR.out | exact KK.out.trans KL.out))).mono ?_; rintro _ w6 ⟨rfl, k6⟩
      have HT6 := Lib.hid (HT5.out.kp k6)
      have K6 := Lib.hid (K5.out.trans k6)
      have HU6 := Lib.hid (HU5.out.kp k6)
      clear HRIGHT HT5 K5 HU5 k6
      go_wp2_with fail
      refine (HRES.out w6 _ HT6.out (HTAB.out.kp (by first | exact KK.out | exact KL.out | exact KR.out | exact K9.out | exact K1.out | exact K2.out | exact K3.out | exact K4.out | exact K5.out | exact K6.out | exact K7.out | exact K8.out | exact K9.out | exact K10.out | exact K11.out | exact K12.out | exact K13.out | exact K14.out | exact K15.out | exact K16.out | exact K17.out | exact K18.out | exact K19.out | exact K20.out | exact K21.out | exact K22.out | exact K23.out | exact K24.out | exact HO.out.2 | exact S2.out.2 | exact HT3.out.2 | exact KK.out.trans KR.out | exact KK.out.trans KL.out))).mono ?_; rintro _ w7 ⟨⟨r7, rfl, s7⟩, k7⟩
      have HT7 := Lib.hid (HT6.out.kp k7)
      have K7 := Lib.hid (K6.out.trans k7)
      have HU7 := Lib.hid (HU6.out.kp k7)
      have HS7 := Lib.hid s7
      clear HRES HT6 K6 HU6 k7 s7
      go_wp2_with fail
      refine (HINT.out _ _ _ (HS7.out.kp ((Kp.refl _).alloc _)) (RI.lit w7 3 #[.int .i64 0, .int .i64 2, .int .i64 4, .int .i64 6] [0, 2, 4, 6] 4 rfl (by omega) rfl).ri).mono ?_; rintro _ w8 ⟨rfl, k8⟩
      have k8' : Kp w7 w8 := ((Kp.refl _).alloc _).trans k8
      have HT8 := Lib.hid (HT7.out.kp k8')
      have K8 := Lib.hid (K7.out.trans k8')
      have HU8 := Lib.hid (HU7.out.kp k8')
      clear HINT HT7 K7 HU7 k8 k8' HS7
      go_wp2_with fail
      refine (HSAME.out w8 _ _ HT8.out HU8.out (HTAB.out.kp (by first | exact KK.out | exact KL.out | exact KR.out | exact K9.out | exact K1.out | exact K2.out | exact K3.out | exact K4.out | exact K5.out | exact K6.out | exact K7.out | exact K8.out | exact K9.out | exact K10.out | exact K11.out | exact K12.out | exact K13.out | exact K14.out | exact K15.out | exact K16.out | exact K17.out | exact K18.out | exact K19.out | exact K20.out | exact K21.out | exact K22.out | exact K23.out | exact K24.out | exact HO.out.2 | exact S2.out.2 | exact HT3.out.2 | exact KK.out.trans KR.out | exact KK.out.trans KL.out))).mono ?_; rintro _ w9 ⟨rfl, k9⟩
      have K9 := Lib.hid (K8.out.trans k9)
      clear HSAME k9
      go_wp2_with fail
      go_ret
      exact ⟨rfl, K9.out⟩
end Go.Proofs.YtnpobcggadojkaaGreatDoor

/- The document's example, at the head of all statements of layer 10: shown. -/
import Derived.Test.YtobldbodafaajaaGreatDoorHashOwn
import Derived.Test.YtobldbodafaajaaGreatDoorHashPl10
import Derived.Test.YtobldbodafaajaaGreatDoorShaA10
import Derived.Test.YtobldbodafaajaaGreatDoorRefTree9
import Derived.Test.YtobldbodafaajaaGreatDoorTreeRow10
set_option linter.unusedVariables false
set_option linter.unusedSimpArgs false
namespace Go.Proofs.YtobldbodafaajaaGreatDoor
open Go.RowKit

theorem z10_new (w : World) : Rd (w.alloc (.cells (Array.replicate 32 (.int .u8 0)) 5)) (.slice (some ⟨w.heap.size, 0, none⟩) 32 32) z10 :=
  (By.fresh 5 w 32).rdAll (by simp [z10]) (Nat.le_refl _) (by unfold maxLen; omega)
set_option maxRecDepth 100000 in
set_option maxHeartbeats 4000000 in
theorem shownHash_any (w : World) (hTAB : Tab w) : Calls Tryz.prog 6 #[] w fun e w' => e = .returned (.bool true) ∧ Kp w w' := by
  have HTAB := Lib.hid hTAB
  clear hTAB
  have HNEW : Hid (∀ W v, Rd W v z10 → Calls Tryz.prog 25 #[.int .i64 1, v] W fun e w' => (∃ r, e = .returned (.tuple #[r, .int .i64 0]) ∧ NL w' r HA10) ∧ Kp W w') := fun W v hv => by
    have := refNewN_any 1 v z10 W hv
    rwa [h10_add.1, h10_add.2.1] at this
  have HADD : Hid (∀ W u v, NL W u HA10 → Rd W v z10 → Calls Tryz.prog 26 #[u, .int .i64 2, v] W fun e w' => (∃ r, e = .returned (.tuple #[r, .int .i64 1, .int .i64 0]) ∧ NO 37 w' W.heap.size r HB10) ∧ Kp W w') := fun W u v hu hv => by
    refine (refAddN_own u v HA10 0 2 z10 W hu hv h10_rightA).mono ?_
    rintro e w' ⟨⟨r, he, _, ho⟩, hk⟩
    have ho2 := ho h10_add.2.2.1
    rw [h10_add.2.2.2] at ho2
    rw [h10_add.2.2.1, show addI HA10 2 z10 = 1 by decide +kernel] at he
    exact ⟨⟨r, he, ho2⟩, hk⟩
  have HNODE : Hid (∀ W v, NV W v blankN → Tab W → Calls Tryz.prog 13 #[v] W fun e w' => (∃ r, e = .returned r ∧ Rd w' r [0]) ∧ Kp W w') := fun W v hv hTW => hashNode_any v blankN W hv TidyN.blank hTW
  have HLAID : Hid (∀ W u, NL W u HT10 → Tab W → Calls Tryz.prog 15 #[u, .int .i64 0] W fun e w' => (∃ r, e = .returned (.tuple #[r, .int .i64 0]) ∧ NL w' r HU10) ∧ Kp W w') := fun W u hu hTW => by
    have := hashLaid_any u HT10 1 0 W h10_tidy h10_right hu (by omega) hTW
    rwa [h10_lay.1, h10_lay.2] at this
  have HABO : Hid (∀ W u, NL W u HU10 → Tab W → Calls Tryz.prog 10 #[u, .int .i64 1, .int .i64 0] W fun e w' => (∃ r, e = .returned (.tuple #[r, .int .i64 0]) ∧ Rd w' r HD10) ∧ Kp W w') := fun W u hu hTW => by
    have := hashAbove_any u HU10 1 1 0 W h10_tidyU h10_rightU hu (by omega) (by omega) hTW
    rwa [h10_abo.1, h10_abo.2] at this
  have HTRE : Hid (∀ W u, NL W u HU10 → Tab W → Calls Tryz.prog 8 #[u, .int .i64 1] W fun e w' => (∃ r, e = .returned (.tuple #[r, .int .i64 0]) ∧ ∃ l : List UInt8, l.length = 32 ∧ Rd w' r l) ∧ Kp W w') := fun W u hu hTW => by
    refine (hashTree_any u HU10 1 1 W h10_tidyU h10_rightU hu (by omega) hTW).mono ?_
    rintro e w' ⟨⟨r, he, hr⟩, hk⟩
    rw [h10_tre.1] at he
    exact ⟨⟨r, he, _, h10_tre.2.1, hr⟩, hk⟩
  have HTR3 : Hid (∀ W u, NL W u HU10 → Tab W → Calls Tryz.prog 8 #[u, .int .i64 3] W fun e w' => (∃ r, e = .returned (.tuple #[r, .int .i64 1])) ∧ Kp W w') := fun W u hu hTW => by
    refine (hashTree_any u HU10 1 3 W h10_tidyU h10_rightU hu (by omega) hTW).mono ?_
    rintro e w' ⟨⟨r, he, hr⟩, hk⟩
    rw [h10_tre.2.2] at he
    exact ⟨⟨r, he⟩, hk⟩
  have HHU : Hid (∀ W u, NL W u HU10 → Tab W → Calls Tryz.prog 18 #[u] W fun e w' => e = .returned (.bool true) ∧ Kp W w') := fun W u hu hTW => by
    refine (hashHeld_any u HU10 1 W h10_tidyU h10_rightU hu hTW).mono ?_
    rintro _ w' ⟨⟨b, rfl, hb⟩, hk⟩
    rw [hb.2 h10_held.1]
    exact ⟨rfl, hk⟩
  have HHT : Hid (∀ W u, NL W u HT10 → Tab W → Calls Tryz.prog 18 #[u] W fun e w' => e = .returned (.bool false) ∧ Kp W w') := fun W u hu hTW => by
    refine (hashHeld_any u HT10 1 W h10_tidy h10_right hu hTW).mono ?_
    rintro _ w' ⟨⟨b, rfl, hb⟩, hk⟩
    cases b
    · exact ⟨rfl, hk⟩
    · exact absurd (hb.1 rfl) h10_held.2
  have HUH : Hid (∀ W u, NL W u HU10 → ∃ g o c p x, u = .slice (some ⟨g, o, none⟩) 3 c ∧ (∀ W', Kp W W' → W'.cell? ⟨g, o + 4, none⟩ = some x ∧ Rd W' x HD10) ∧ p = x) := fun W u hu => by
    obtain ⟨a, c, rfl, _, _⟩ := hu.shape
    have hl : HU10.length = 3 := by unfold HU10; rw [List.length_set]; rfl
    obtain ⟨g, o, rfl, _, hc⟩ := hu.at 0 (by omega)
    obtain ⟨p, x, h, hn⟩ := hc 0 (by omega)
    refine ⟨g, o, c, _, h, by rw [hl], fun W' hW => ?_, rfl⟩
    have h1 := (hn.kp hW).hashC
    have h2 := (hn.kp hW).2.hash
    rw [h10_hash] at h2
    simpa using And.intro h1 h2
  have HSM : Hid (∀ W u v l, Rd W u l → Rd W v l → Calls Tryz.prog 12 #[u, v] W fun e w' => e = .returned (.bool true) ∧ W = w') := fun W u v l hu hv => by
    have := same_any u v l l W hu hv
    rwa [decide_eq_true rfl] at this
  obtain ⟨LA, hLA⟩ : ∃ L, L = HA10 := ⟨_, rfl⟩
  obtain ⟨LU, hLU⟩ : ∃ L, L = HU10 := ⟨_, rfl⟩
  obtain ⟨LD, hLD⟩ : ∃ L, L = HD10 := ⟨_, rfl⟩
  have hld : LD.length = 32 := by rw [hLD]; exact h10_len.1
  rw [← hLA] at HNEW HADD
  rw [← hLU] at HLAID HABO HTRE HTR3 HHU HUH
  rw [← hLD] at HABO HUH
  clear hLA hLU hLD
  go_enter Tryz.func6, Tryz.ntmps6
  go_wp2_with (at_make; refine wpList_make_fresh (z := .int .u8 0) (b := 1) Tryz.underlying25 Tryz.info5 rfl (by decide) rfl _ _ rfl 32 rfl rfl (by omega) ?_; intro w1 hw1; have r1 : Hid (Rd w1 (.slice (some ⟨w.heap.size, 0, none⟩) 32 32) z10) := (by rw [hw1]; exact z10_new w); have k1 : Hid (Kp w w1) := (by rw [hw1]; exact (Kp.refl w).alloc _); clear hw1)
  refine (HNEW.out w1 _ r1.out).mono ?_; rintro _ w2 ⟨⟨u2, rfl, s2⟩, k2⟩
  have S2 := Lib.hid s2
  have K2 := Lib.hid (k1.out.trans k2)
  clear HNEW k1 k2 r1 s2
  go_wp2_with (at_make; refine wpList_make_fresh (z := .int .u8 0) (b := 1) Tryz.underlying25 Tryz.info5 rfl (by decide) rfl _ _ rfl 32 rfl rfl (by omega) ?_; intro w3 hw3; have r3 : Hid (Rd w3 (.slice (some ⟨w2.heap.size, 0, none⟩) 32 32) z10) := (by rw [hw3]; exact z10_new w2); have k3 : Hid (Kp w2 w3) := (by rw [hw3]; exact (Kp.refl w2).alloc _); clear hw3)
  have S3 := Lib.hid (S2.out.kp k3.out)
  have K3 := Lib.hid (K2.out.trans k3.out)
  refine (HADD.out w3 _ _ S3.out r3.out).mono ?_; rintro _ w4 ⟨⟨u4, rfl, s4⟩, k4⟩
  have K4 := Lib.hid (K3.out.trans k4)
  have KS := Lib.hid (And.intro K3.out.size k4)
  clear HADD S2 K2 k3 r3 S3 k4
  obtain ⟨g, c, rfl, hb, hg, _, _, _⟩ := s4.form (by decide)
  have S4 := Lib.hid (And.intro s4 (And.intro hb hg))
  clear s4 hb hg
  rw [show HB10.length = 3 from rfl] at S4 ⊢
  go_wp2_with (first
    | (at_make; refine wpList_make_fresh (z := .int .u8 0) (b := 1) Tryz.underlying25 Tryz.info5 rfl (by decide) rfl _ _ rfl 32 rfl rfl (by omega) ?_; intro w5 hw5; have r5 : Hid (Rd w5 (.slice (some ⟨w4.heap.size, 0, none⟩) 32 32) z10) := (by rw [hw5]; exact z10_new w4); have k5 : Hid (Kp w4 w5) := (by rw [hw5]; exact (Kp.refl w4).alloc _); clear hw5)
    | (refine wpList_store_node infoNode5 rfl rfl (.tmp 30) (.tmp 29) rfl w3.heap.size g c 3 HB10 (S4.out.1.kp k5.out) 1 (by decide) ⟨2, 0, z10, [], []⟩ (.slice (some ⟨w4.heap.size, 0, none⟩) 32 32) (.slice none 0 0) (.slice none 0 0) rfl rfl ⟨r5.out, RI.nil _, rd_nil9 _⟩ (apart_new (C := w4.heap.size) (fun g' hg' => by cases hg'; exact Nat.le_refl _) (fun g' hg' => by cases hg'; exact S4.out.2.2)) (Apart.nil _ _ _) (Apart.nil _ _ _) ?_; intro w6 o6 g6))
  have T6 : Hid (NL w6 (.slice (some ⟨g, 0, none⟩) 3 c) HT10) := by
    have := o6.nl
    rwa [h10_set] at this
  have K6 : Hid (Kp w w6) := Below.grown (K4.out.trans k5.out) g6 (K4.out.trans k5.out).size (fun k hk => by cases hk; exact Nat.le_trans KS.out.1 S4.out.2.1)
  clear o6 g6 r5 k5 S4 K3 K4 KS
  go_wp2_with fail
  refine (HNODE.out w6 _ (NV.blank _) (HTAB.out.kp K6.out)).mono ?_; rintro _ w7 ⟨⟨r7, rfl, o7⟩, k7⟩
  have B7 := Lib.hid o7
  have T7 := Lib.hid (T6.out.kp k7)
  have K7 := Lib.hid (K6.out.trans k7)
  obtain ⟨a7, n7, b7, rfl⟩ := rd_slH o7
  clear o7 k7 T6 K6 HNODE
  go_wp2_with fail
  refine (HLAID.out w7 _ T7.out (HTAB.out.kp K7.out)).mono ?_; rintro _ w8 ⟨⟨r8, rfl, o8⟩, k8⟩
  have U8 := Lib.hid (And.intro (B7.out.kp k8) (And.intro (T7.out.kp k8) o8))
  have K8 := Lib.hid (K7.out.trans k8)
  obtain ⟨gu, ou, cu, pu, xu, rfl, hux, -⟩ := HUH.out w8 r8 o8
  have HUX := Lib.hid hux
  clear o8 k8 B7 T7 K7 HLAID HUH hux
  go_wp2_with fail
  refine (HABO.out w8 _ U8.out.2.2 (HTAB.out.kp K8.out)).mono ?_; rintro _ w9 ⟨⟨r9, rfl, o9⟩, k9⟩
  have U9 := Lib.hid (And.intro (U8.out.1.kp k9) (And.intro (U8.out.2.1.kp k9) (And.intro (U8.out.2.2.kp k9) o9)))
  have K9 := Lib.hid (K8.out.trans k9)
  have K89 := Lib.hid k9
  obtain ⟨a9, c9, rfl, _, _⟩ := o9.shape
  rw [hld] at U9 ⊢
  clear o9 k9 U8 K8 HABO
  go_wp2_with fail
  refine (HTRE.out w9 _ U9.out.2.2.1 (HTAB.out.kp K9.out)).mono ?_; rintro _ wa ⟨⟨ra, rfl, la, hla, oa⟩, ka⟩
  have UA := Lib.hid (And.intro (U9.out.1.kp ka) (And.intro (U9.out.2.1.kp ka) (And.intro (U9.out.2.2.1.kp ka) (U9.out.2.2.2.kp ka))))
  have KA := Lib.hid (K9.out.trans ka)
  have K8A := Lib.hid (K89.out.trans ka)
  obtain ⟨aa, ca, rfl, _, _⟩ := oa.shape
  rw [hla]
  clear oa ka U9 K9 K89 HTRE hla
  go_wp2_with fail
  refine (HTR3.out wa _ UA.out.2.2.1 (HTAB.out.kp KA.out)).mono ?_; rintro _ wb ⟨⟨rb, rfl⟩, kb⟩
  have UB := Lib.hid (And.intro (UA.out.2.1.kp kb) (And.intro (UA.out.2.2.1.kp kb) (UA.out.2.2.2.kp kb)))
  have KB := Lib.hid (KA.out.trans kb)
  obtain ⟨cx, rx⟩ := HUX.out wb (K8A.out.trans kb)
  have RX := Lib.hid rx
  obtain ⟨ax, nx, bx, rfl⟩ := rd_slH rx
  have hb := UA.out.1.kp kb
  have hl7 := hb.len.1
  simp only [List.length_cons, List.length_nil, Nat.zero_add] at hl7
  subst hl7
  obtain ⟨g7, o7, rfl, _, h7⟩ := hb.at 0 (by omega)
  have c7 : wb.cell? ⟨g7, o7, none⟩ = some (.int .u8 0) := h7 0 (by omega)
  clear kb UA KA K8A HUX HTR3 hb h7 rx
  go_wp2_with fail
  refine (HSM.out wb _ _ _ RX.out UB.out.2.2).mono ?_; rintro _ _ ⟨rfl, rfl⟩
  go_wp2_with fail
  refine (HHU.out wb _ UB.out.2.1 (HTAB.out.kp KB.out)).mono ?_; rintro _ wc ⟨rfl, kc⟩
  have TC := Lib.hid (UB.out.1.kp kc)
  have KC := Lib.hid (KB.out.trans kc)
  clear kc UB KB RX HHU HSM cx c7
  go_wp2_with fail
  refine (HHT.out wc _ TC.out (HTAB.out.kp KC.out)).mono ?_; rintro _ wd ⟨rfl, kd⟩
  have KD := Lib.hid (KC.out.trans kd)
  clear kd TC KC HHT
  go_wp2_with fail
  go_ret
  exact ⟨rfl, KD.out⟩
end Go.Proofs.YtobldbodafaajaaGreatDoor

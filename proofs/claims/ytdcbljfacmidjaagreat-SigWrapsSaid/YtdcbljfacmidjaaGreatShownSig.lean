/- The document's example, at the head of all statements of layer 7: shown. -/
import Derived.Test.YtdcbljfacmidjaaGreatSigOwn
import Derived.Test.YtdcbljfacmidjaaGreatSigShown
import Derived.Test.YtdcbljfacmidjaaGreatSame
set_option linter.unusedVariables false
set_option linter.unusedSimpArgs false
namespace Go.Proofs.YtdcbljfacmidjaaGreat
open Go.RowKit

set_option maxRecDepth 100000 in
set_option maxHeartbeats 4000000 in
theorem shownSig_any (w : World) : Calls Tryz.prog 4 #[] w fun e w' => e = .returned (.bool true) ∧ Kp w w' := by
  have HF1 : Hid (∀ W : World, By 5 (W.alloc (.cells (Array.replicate 32 (.int .u8 0)) 5)) W.heap.size seed7) := fun W => By.fresh _ _ _
  obtain ⟨P, hP⟩ : ∃ P, pubB seed7 = P := ⟨_, rfl⟩
  have hPL : P.length = 32 := by rw [← hP]; exact pubB_length _
  obtain ⟨S, hS⟩ : ∃ S, sigB P [120] [1] = S := ⟨_, rfl⟩
  have hSL : S.length = 32 := by rw [← hS]; exact sigB_length _ _ _
  have hne : sigB P [120] [2] ≠ S := by rw [← hS, ← hP]; exact sig7_other
  obtain ⟨H, hH⟩ : ∃ H, pubB S = H := ⟨_, rfl⟩
  have hHL : H.length = 32 := by rw [← hH]; exact pubB_length _
  obtain ⟨X, hX⟩ : ∃ X, wrapped P H [] [] = X := ⟨_, rfl⟩
  have hXL : X.length = 32 := by rw [← hX]; exact wrapped_length _ _ _ _
  obtain ⟨u1, u2⟩ := un_wrapped (seed := seed7) (half := H) [] [] seed7_length hHL
  rw [hP, hX] at u1 u2
  have HP : Hid (∀ W u, Rd W u seed7 → Calls Tryz.prog 10 #[u] W fun e w' => (∃ r, e = .returned (.tuple #[r, .int .i64 0]) ∧ Rd w' r P) ∧ Kp W w') := fun W u h => by
    have := sigPublic_any u seed7 W h
    rwa [(pub_yes seed7_length).1, (pub_yes seed7_length).2, hP] at this
  have HG : Hid (∀ W u v, Rd W u seed7 → Rd W v [1] → Calls Tryz.prog 11 #[u, .string ⟨#[120]⟩, v] W fun e w' => (∃ r, e = .returned (.tuple #[r, .int .i64 0]) ∧ Rd w' r S) ∧ Kp W w') := fun W u v h1 h2 => by
    have := sigSign_any u ⟨#[120]⟩ v seed7 [1] W h1 h2 (by decide) (by decide)
    rwa [(pub_yes seed7_length).1, show signR seed7 (⟨#[120]⟩ : ByteArray).data.toList [1] = sigB (pubB seed7) [120] [1] from if_pos seed7_length, hP, hS] at this
  have HW : Hid (∀ W u v, Rd W u P → Rd W v S → Calls Tryz.prog 5 #[u, v, .slice none 0 0, .slice none 0 0] W fun e w' => (∃ x y, e = .returned (.tuple #[x, y, .int .i64 0]) ∧ Rd w' x H ∧ Rd w' y X) ∧ Kp W w') := fun W u v h1 h2 => by
    have := sigWrap_any u v _ _ P S [] [] W h1 h2 (rd_nil W) (rd_nil W) (by decide) (by decide)
    obtain ⟨e1, e2, e3⟩ := wrap_yes (pub := P) (once := S) [] [] ⟨hSL, hPL⟩
    rwa [e1, e2, e3, hH, hX] at this
  have HU : Hid (∀ W u v x, Rd W u seed7 → Rd W v H → Rd W x X → Calls Tryz.prog 7 #[u, v, .slice none 0 0, x] W fun e w' => (∃ r, e = .returned (.tuple #[r, .int .i64 0]) ∧ Rd w' r []) ∧ Kp W w') := fun W u v x h1 h2 h3 => by
    have := sigUnwrap_any u v _ x seed7 H [] X W h1 h2 (rd_nil W) h3 (by decide) (by omega)
    rwa [u1, u2] at this
  have HV1 : Hid (∀ W u v s, Rd W u P → Rd W v [1] → Rd W s S → Calls Tryz.prog 12 #[u, .string ⟨#[120]⟩, v, s] W fun e w' => e = .returned (.int .i64 0) ∧ Kp W w') := fun W u v s h1 h2 h3 => by
    have := sigVerify_any u ⟨#[120]⟩ v s P [1] S W h1 h2 h3 (by decide) (by decide)
    rwa [show verE P (⟨#[120]⟩ : ByteArray).data.toList [1] S = 0 from by unfold verE; rw [if_pos hPL]; exact if_pos hS] at this
  have HV2 : Hid (∀ W u v s, Rd W u P → Rd W v [2] → Rd W s S → Calls Tryz.prog 12 #[u, .string ⟨#[120]⟩, v, s] W fun e w' => e = .returned (.int .i64 5) ∧ Kp W w') := fun W u v s h1 h2 h3 => by
    have := sigVerify_any u ⟨#[120]⟩ v s P [2] S W h1 h2 h3 (by decide) (by decide)
    rwa [show verE P (⟨#[120]⟩ : ByteArray).data.toList [2] S = 5 from by unfold verE; rw [if_pos hPL]; exact if_neg hne] at this
  have HV3 : Hid (∀ W, Calls Tryz.prog 12 #[.slice none 0 0, .string ⟨#[]⟩, .slice none 0 0, .slice none 0 0] W fun e w' => e = .returned (.int .i64 1) ∧ Kp W w') := fun W => by
    have := sigVerify_any _ ⟨#[]⟩ _ _ [] [] [] W (rd_nil W) (rd_nil W) (rd_nil W) (by decide) (by decide)
    rwa [show verE [] (⟨#[]⟩ : ByteArray).data.toList [] [] = 1 from rfl] at this
  have HL := Lib.hid (And.intro hPL (And.intro hHL hXL))
  clear hP hPL hS hSL hne hH hHL hX hXL u1 u2
  go_enter Tryz.func4, Tryz.ntmps4
  go_wp2_with (at_make; refine wpList_make_fresh (z := .int .u8 0) (b := 1) Tryz.underlying22 Tryz.info5 rfl (by decide) rfl _ _ rfl 32 rfl rfl (by omega) ?_; intro w1 hw1; have r1 : Rd w1 (.slice (some ⟨w.heap.size, 0, none⟩) 32 32) seed7 := (by rw [hw1]; exact (HF1.out w).rdAll rfl (Nat.le_refl _) (by unfold maxLen; omega)); have k1 : Kp w w1 := (by rw [hw1]; exact (Kp.refl w).alloc _); clear hw1)
  refine (HP.out w1 _ r1).mono ?_
  rintro _ w2 ⟨⟨p, rfl, r2⟩, k2⟩
  obtain ⟨a2, c2, rfl, _, _⟩ := r2.shape
  rw [HL.out.1] at r2 ⊢
  have K2 := Lib.hid (k1.trans k2)
  have R1 := Lib.hid (r1.kp k2)
  have R2 := Lib.hid r2
  clear k1 k2 r1 r2
  go_wp2_with fail
  have l1 := (Ow.lit w2 5 0 1 #[.int .u8 1] [1] (Nat.zero_le _) rfl (by decide) rfl).rd
  refine (HG.out _ _ _ (R1.out.kp ((Kp.refl _).alloc _)) l1).mono ?_
  rintro _ w3 ⟨⟨s, rfl, r3⟩, k3⟩
  have k3 : Kp w2 w3 := ((Kp.refl _).alloc _).trans k3
  obtain ⟨a3, n3, c3, rfl⟩ := r3.sl
  have K3 := Lib.hid (K2.out.trans k3)
  have R1 := Lib.hid (R1.out.kp k3)
  have R2 := Lib.hid (R2.out.kp k3)
  have R3 := Lib.hid r3
  clear l1 k3 r3 K2
  go_wp2_with fail
  refine (HW.out _ _ _ R2.out R3.out).mono ?_
  rintro _ w4 ⟨⟨h, x, rfl, r4, r5⟩, k4⟩
  obtain ⟨a4, c4, rfl, _, _⟩ := r4.shape
  obtain ⟨a5, c5, rfl, _, _⟩ := r5.shape
  rw [HL.out.2.1] at r4 ⊢
  rw [HL.out.2.2] at r5 ⊢
  have K4 := Lib.hid (K3.out.trans k4)
  have R1 := Lib.hid (R1.out.kp k4)
  have R2 := Lib.hid (R2.out.kp k4)
  have R3 := Lib.hid (R3.out.kp k4)
  have R4 := Lib.hid r4
  have R5 := Lib.hid r5
  clear k4 r4 r5 K3
  go_wp2_with fail
  refine (HU.out _ _ _ _ R1.out R4.out R5.out).mono ?_
  rintro _ w5 ⟨⟨y, rfl, r6⟩, k5⟩
  obtain ⟨a6, c6, rfl, _, _⟩ := r6.shape
  have K5 := Lib.hid (K4.out.trans k5)
  have R2 := Lib.hid (R2.out.kp k5)
  have R3 := Lib.hid (R3.out.kp k5)
  clear k5 r6 K4 R1 R4 R5
  go_wp2_with fail
  have l1 := (Ow.lit w5 5 0 1 #[.int .u8 1] [1] (Nat.zero_le _) rfl (by decide) rfl).rd
  refine (HV1.out _ _ _ _ (R2.out.kp ((Kp.refl _).alloc _)) l1 (R3.out.kp ((Kp.refl _).alloc _))).mono ?_
  rintro _ w6 ⟨rfl, k6⟩
  have k6 : Kp w5 w6 := ((Kp.refl _).alloc _).trans k6
  have K6 := Lib.hid (K5.out.trans k6)
  have R2 := Lib.hid (R2.out.kp k6)
  have R3 := Lib.hid (R3.out.kp k6)
  clear k6 l1 K5
  go_wp2_with fail
  have l1 := (Ow.lit w6 5 0 1 #[.int .u8 2] [2] (Nat.zero_le _) rfl (by decide) rfl).rd
  refine (HV2.out _ _ _ _ (R2.out.kp ((Kp.refl _).alloc _)) l1 (R3.out.kp ((Kp.refl _).alloc _))).mono ?_
  rintro _ w7 ⟨rfl, k7⟩
  have k7 : Kp w6 w7 := ((Kp.refl _).alloc _).trans k7
  have K7 := Lib.hid (K6.out.trans k7)
  clear k7 l1 K6 R2 R3
  go_wp2_with fail
  refine (HV3.out _).mono ?_
  rintro _ w8 ⟨rfl, k8⟩
  have K8 := Lib.hid (K7.out.trans k8)
  clear k8
  go_wp2_with fail
  go_ret
  exact ⟨rfl, K8.out⟩
end Go.Proofs.YtdcbljfacmidjaaGreat

/- The document's example, at the head of all statements of layer 6: shown. -/
import Derived.Test.YtakaebedibgimaaSealOwnAll
import Derived.Test.YtakaebedibgimaaSealTold
import Derived.Test.YtakaebedibgimaaSame
set_option linter.unusedVariables false
set_option linter.unusedSimpArgs false
namespace Go.Proofs.Ytakaebedibgimaa
open Go.RowKit

theorem seal6_len (aad b : List UInt8) (n : Nat) (h : b.length + 32 = n) : (sealB key6 nonce6 aad b).length = n := by rw [sealB_length, h]

set_option maxRecDepth 100000 in
set_option maxHeartbeats 4000000 in
theorem shownSeal_any (w : World) : Calls Try.prog 8 #[] w fun e w' => e = .returned (.bool true) ∧ Kp w w' := by
  have HF1 : Hid (∀ W : World, By 5 (W.alloc (.cells (Array.replicate 32 (.int .u8 0)) 5)) W.heap.size key6) := fun W => By.fresh _ _ _
  have HF2 : Hid (∀ W : World, By 5 (W.alloc (.cells (Array.replicate 12 (.int .u8 0)) 5)) W.heap.size nonce6) := fun W => By.fresh _ _ _
  have HS : Hid (∀ W u1 u2 u3 u4 (aad b : List UInt8), Rd W u1 key6 → Rd W u2 nonce6 → Rd W u3 aad → Rd W u4 b → aad.length + b.length ≤ 1700 → Calls Try.prog 11 #[u1, u2, u3, u4] W fun e w' => (∃ r, e = .returned (.tuple #[r, .int .i64 0]) ∧ Rd w' r (sealB key6 nonce6 aad b)) ∧ Kp W w') := fun W u1 u2 u3 u4 aad b h1 h2 h3 h4 hl => by
    have := sealSeal_any u1 u2 u3 u4 key6 nonce6 aad b W h1 h2 h3 h4 hl
    rwa [(seal6_shown aad b).1, (seal6_shown aad b).2] at this
  obtain ⟨o1, o2⟩ := open_seal [1] [2, 3] ok6
  have HO : Hid (∀ W u1 u2 u3 u4, Rd W u1 key6 → Rd W u2 nonce6 → Rd W u3 [1] → Rd W u4 (sealB key6 nonce6 [1] [2, 3]) → Calls Try.prog 14 #[u1, u2, u3, u4] W fun e w' => (∃ r, e = .returned (.tuple #[r, .int .i64 0]) ∧ Rd w' r [2, 3]) ∧ Kp W w') := fun W u1 u2 u3 u4 h1 h2 h3 h4 => by
    have := sealOpen_any u1 u2 u3 u4 key6 nonce6 [1] _ W h1 h2 h3 h4 (by rw [seal6_len _ _ 34 rfl]; decide)
    rwa [o1, o2] at this
  have HB : Hid (∀ W u1 u2 u3 u4, Rd W u1 key6 → Rd W u2 nonce6 → Rd W u3 [2] → Rd W u4 (sealB key6 nonce6 [1] [2, 3]) → Calls Try.prog 14 #[u1, u2, u3, u4] W fun e w' => (∃ r, e = .returned (.tuple #[r, .int .i64 5]) ∧ True) ∧ Kp W w') := fun W u1 u2 u3 u4 h1 h2 h3 h4 => by
    have := sealOpen_any u1 u2 u3 u4 key6 nonce6 [2] _ W h1 h2 h3 h4 (by rw [seal6_len _ _ 34 rfl]; decide)
    rw [open6_shown] at this
    refine this.mono ?_
    rintro e w' ⟨⟨r, rfl, _⟩, k⟩
    exact ⟨⟨r, rfl, trivial⟩, k⟩
  have HL1 := Lib.hid (seal6_len [] [] 32 rfl)
  have HL2 := Lib.hid (seal6_len [1] [2, 3] 34 rfl)
  have HA : Hid (∀ W u, Rd W u nonce6 → Calls Try.prog 16 #[u, .int .i64 258] W fun e w' => (∃ r, e = .returned (.tuple #[r, .int .i64 0]) ∧ Rd w' r [0, 0, 0, 0, 0, 0, 0, 0, 0, 0, 1, 2]) ∧ Kp W w') := fun W u h => by
    have := sealAt_any u nonce6 258 W h (by omega)
    rwa [at6_shown.1, at6_shown.2] at this
  have HH : Hid (∀ W u, Rd W u key6 → Calls Try.prog 9 #[u] W fun e w' => (∃ a b, e = .returned (.tuple #[a, b, .int .i64 0]) ∧ (∃ x c, a = .slice x 16 c) ∧ (∃ x c, b = .slice x 32 c)) ∧ Kp W w') := fun W u h => by
    have := sealHalves_any u key6 W h
    rw [hal6_shown.1] at this
    refine this.mono ?_
    rintro e w' ⟨⟨a, b, rfl, ha, hb⟩, k⟩
    obtain ⟨a1, c1, rfl, _, _⟩ := ha.shape
    obtain ⟨a2, c2, rfl, _, _⟩ := hb.shape
    rw [hal6_shown.2.1, hal6_shown.2.2]
    exact ⟨⟨_, _, rfl, ⟨_, _, rfl⟩, ⟨_, _, rfl⟩⟩, k⟩
  clear o1 o2
  go_enter Try.func8, Try.ntmps8
  go_wp2_with (at_make; first
    | (refine wpList_make_fresh (z := .int .u8 0) (b := 1) Try.underlying22 Try.info5 rfl (by decide) rfl _ _ rfl 32 rfl rfl (by omega) ?_; intro w1 hw1; have r1 : Rd w1 (.slice (some ⟨w.heap.size, 0, none⟩) 32 32) key6 := (by rw [hw1]; exact (HF1.out w).rdAll rfl (Nat.le_refl _) (by unfold maxLen; omega)); have k1 : Kp w w1 := (by rw [hw1]; exact (Kp.refl w).alloc _); clear hw1)
    | (refine wpList_make_fresh (z := .int .u8 0) (b := 1) Try.underlying22 Try.info5 rfl (by decide) rfl _ _ rfl 12 rfl rfl (by omega) ?_; intro w2 hw2; have r2 : Rd w2 (.slice (some ⟨w1.heap.size, 0, none⟩) 12 12) nonce6 := (by rw [hw2]; exact (HF2.out w1).rdAll rfl (Nat.le_refl _) (by unfold maxLen; omega)); have k2 : Kp w1 w2 := (by rw [hw2]; exact (Kp.refl w1).alloc _); clear hw2))
  refine (HS.out w2 _ _ _ _ [] [] (r1.kp k2) r2 (Rd.nil _) (Rd.nil _) (by decide)).mono ?_
  rintro _ w3 ⟨⟨a, rfl, r3⟩, k3⟩
  obtain ⟨a3, c3, rfl, _, _⟩ := r3.shape
  rw [HL1.out]
  have r1 := (r1.kp k2).kp k3
  have r2 := r2.kp k3
  have k3 := (k1.trans k2).trans k3
  clear k1 k2
  go_wp2_with fail
  have l1 := (Ow.lit w3 5 0 1 #[.int .u8 1] [1] (Nat.zero_le _) rfl (by decide) rfl).rd
  have l2 := (Ow.lit (w3.alloc (.cells #[.int .u8 1] 5)) 5 0 2 #[.int .u8 2, .int .u8 3] [2, 3] (Nat.zero_le _) rfl (by decide) rfl).rd
  rw [World.size_alloc] at l2
  refine (HS.out _ _ _ _ _ [1] [2, 3] ((r1.kp ((Kp.refl _).alloc _)).kp ((Kp.refl _).alloc _)) ((r2.kp ((Kp.refl _).alloc _)).kp ((Kp.refl _).alloc _)) (l1.kp ((Kp.refl _).alloc _)) l2 (by decide)).mono ?_
  clear l1 l2
  rintro _ w4 ⟨⟨b, rfl, r4⟩, k4⟩
  have k4 : Kp w3 w4 := (((Kp.refl _).alloc _).trans ((Kp.refl _).alloc _)).trans k4
  have r1 := r1.kp k4
  have r2 := r2.kp k4
  obtain ⟨a4, c4, rfl, _, _⟩ := r4.shape
  rw [HL2.out] at r4 ⊢
  go_wp2_with fail
  have l1 := (Ow.lit w4 5 0 1 #[.int .u8 1] [1] (Nat.zero_le _) rfl (by decide) rfl).rd
  refine (HO.out _ _ _ _ _ (r1.kp ((Kp.refl _).alloc _)) (r2.kp ((Kp.refl _).alloc _)) l1 (r4.kp ((Kp.refl _).alloc _))).mono ?_
  clear l1
  rintro _ w5 ⟨⟨c, rfl, r5⟩, k5⟩
  have k5 : Kp w4 w5 := ((Kp.refl _).alloc _).trans k5
  have r1 := r1.kp k5
  have r2 := r2.kp k5
  have r4 := r4.kp k5
  go_wp2_with fail
  have l1 := (Ow.lit w5 5 0 1 #[.int .u8 2] [2] (Nat.zero_le _) rfl (by decide) rfl).rd
  refine (HB.out _ _ _ _ _ (r1.kp ((Kp.refl _).alloc _)) (r2.kp ((Kp.refl _).alloc _)) l1 (r4.kp ((Kp.refl _).alloc _))).mono ?_
  clear l1
  rintro _ w6 ⟨⟨d, rfl, _⟩, k6⟩
  have k6 : Kp w5 w6 := ((Kp.refl _).alloc _).trans k6
  have r1 := r1.kp k6
  have r2 := r2.kp k6
  have r5 := r5.kp k6
  clear r4
  go_wp2_with fail
  refine (HA.out w6 _ r2).mono ?_
  rintro _ w7 ⟨⟨n, rfl, r7⟩, k7⟩
  have r1 := r1.kp k7
  have r5 := r5.kp k7
  obtain ⟨a7, c7, rfl, p7, _⟩ := r7.shape
  go_wp2_with fail
  refine (HH.out w7 _ r1).mono ?_
  rintro _ w8 ⟨⟨x, y, rfl, ⟨ax, cx, rfl⟩, ⟨ay, cy, rfl⟩⟩, k8⟩
  have r5 := r5.kp k8
  have r7 := r7.kp k8
  have hk := ((((k3.trans k4).trans k5).trans k6).trans k7).trans k8
  clear r1 r2 k3 k4 k5 k6 k7 k8
  obtain ⟨g7, o7, rfl, _, hc⟩ := r7.at 0 (by decide)
  obtain ⟨a5, c5, rfl, _, _⟩ := r5.shape
  go_wp2_with fail
  have l1 := (Ow.lit w8 5 0 2 #[.int .u8 2, .int .u8 3] [2, 3] (Nat.zero_le _) rfl (by decide) rfl).rd
  refine (same_any _ _ [2, 3] [2, 3] _ (r5.kp ((Kp.refl _).alloc _)) l1).mono ?_
  rintro _ _ ⟨rfl, rfl⟩
  clear l1
  have r7 := r7.kp ((Kp.refl _).alloc (.cells #[.int .u8 2, .int .u8 3] 5))
  obtain ⟨g, o, e, _, hc⟩ := r7.at 0 (by decide)
  cases e
  have q10 : _ = some (Value.int .u8 1) := hc 10 (by decide)
  have q11 : _ = some (Value.int .u8 2) := hc 11 (by decide)
  go_wp2_with fail
  go_ret
  exact ⟨rfl, hk.alloc _⟩
end Go.Proofs.Ytakaebedibgimaa

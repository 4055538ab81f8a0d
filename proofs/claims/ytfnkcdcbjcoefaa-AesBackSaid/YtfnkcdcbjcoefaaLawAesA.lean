/- AesBlocks, AesStreams, AesApart (written by gen/aes1.py). -/
import Derived.Test.YtfnkcdcbjcoefaaShownAes
set_option linter.unusedVariables false
set_option linter.unusedSimpArgs false
namespace Go.Proofs.Ytfnkcdcbjcoefaa
open Go.RowKit

theorem blkE_01 (key b : List UInt8) : blkE key b = 0 ∨ blkE key b = 1 := by unfold blkE; split <;> simp
theorem strE_01 (key nonce : List UInt8) : strE key nonce = 0 ∨ strE key nonce = 1 := by unfold strE; split <;> simp
theorem keyE_01 (key : List UInt8) : keyE key = 0 ∨ keyE key = 1 := by unfold keyE; split <;> simp
/-- Two rows that read the same are the same. -/
theorem same_yes5 (u v : Value) (l : List UInt8) (w : World) (h : Rd w u l) (h' : Rd w v l) : Calls Try.prog 12 #[u, v] w fun e w' => e = .returned (.bool true) ∧ w = w' := by
  have := same_any u v l l w h h'
  rwa [decide_eq_true rfl] at this

set_option maxRecDepth 100000 in
set_option maxHeartbeats 4000000 in
theorem aesBlocks_walk (va vb : Value) (la lb : List UInt8) (w : World) (ha : Rd w va la) (hb : Rd w vb lb) :
    Calls Try.prog 4 #[va, vb] w (Yes w) := by
  obtain ⟨a1, c1, rfl, p1, s1⟩ := ha.shape
  obtain ⟨a2, c2, rfl, p2, s2⟩ := hb.shape
  by_cases h0 : 40 < la.length
  · have q0 : 40 < (la.length : Int) := by omega
    go_enter Try.func4, Try.ntmps4
    go_wp2_with fail
    refine (shownAes_any _).mono ?_
    rintro e w1 ⟨rfl, k1⟩
    go_wp2_with fail
    go_ret
    exact ⟨rfl, k1⟩
  · skip
    by_cases h1 : 40 < lb.length
    · have q1 : 40 < (lb.length : Int) := by omega
      have r0 : ¬ 40 < (la.length : Int) := by omega
      go_enter Try.func4, Try.ntmps4
      go_wp2_with fail
      refine (shownAes_any _).mono ?_
      rintro e w1 ⟨rfl, k1⟩
      go_wp2_with fail
      go_ret
      exact ⟨rfl, k1⟩
    · skip
      have r0 : ¬ 40 < (la.length : Int) := by omega
      have r1 : ¬ 40 < (lb.length : Int) := by omega
      have hE := blkE_01 la lb
      have HA : Hid (∀ W, Kp w W → Calls Try.prog 17 #[.slice a1 la.length c1, .slice a2 lb.length c2] W fun e w' => (∃ r, e = .returned (.tuple #[r, .int .i64 (blkE la lb)]) ∧ Rd w' r (blkR la lb)) ∧ Kp W w') := fun W hW => aesBlock_any _ _ la lb W (ha.kp hW) (hb.kp hW)
      have HR : Hid (∀ W, Kp w W → Calls Try.prog 18 #[.slice a1 la.length c1, .slice a2 lb.length c2] W fun e w' => (∃ r, e = .returned (.tuple #[r, .int .i64 (blkE la lb)]) ∧ Rd w' r (blkR la lb)) ∧ Kp W w') := fun W hW => refBlock_any5 _ _ la lb W (ha.kp hW) (hb.kp hW)
      generalize blkE la lb = E at *
      generalize blkR la lb = R at *
      have hw : IntKind.i64.wrap E = E := by rcases hE with rfl | rfl <;> rfl
      clear ha hb hE
      go_enter Try.func4, Try.ntmps4
      go_wp2_with fail
      refine (shownAes_any _).mono ?_
      rintro e w1 ⟨rfl, k1⟩
      go_wp2_with fail
      refine (HA.out w1 k1).mono ?_
      rintro e w2 ⟨⟨x, rfl, r2⟩, k2⟩
      go_wp2_with fail
      refine (HR.out w2 (k1.trans k2)).mono ?_
      rintro e w3 ⟨⟨y, rfl, r3⟩, k3⟩
      go_wp2_with fail
      refine (same_yes5 _ _ R w3 (r2.kp k3) r3).mono ?_
      rintro e w4 ⟨rfl, rfl⟩
      go_wp2_with fail
      go_ret
      exact ⟨rfl, (k1.trans k2).trans k3⟩

set_option maxRecDepth 100000 in
set_option maxHeartbeats 4000000 in
theorem aesStreams_walk (va vb vc : Value) (la lb lc : List UInt8) (w : World) (ha : Rd w va la) (hb : Rd w vb lb) (hc : Rd w vc lc) :
    Calls Try.prog 5 #[va, vb, vc] w (Yes w) := by
  obtain ⟨a1, c1, rfl, p1, s1⟩ := ha.shape
  obtain ⟨a2, c2, rfl, p2, s2⟩ := hb.shape
  obtain ⟨a3, c3, rfl, p3, s3⟩ := hc.shape
  by_cases h0 : 40 < la.length
  · have q0 : 40 < (la.length : Int) := by omega
    go_enter Try.func5, Try.ntmps5
    go_wp2_with fail
    refine (shownAes_any _).mono ?_
    rintro e w1 ⟨rfl, k1⟩
    go_wp2_with fail
    go_ret
    exact ⟨rfl, k1⟩
  · skip
    by_cases h1 : 40 < lb.length
    · have q1 : 40 < (lb.length : Int) := by omega
      have r0 : ¬ 40 < (la.length : Int) := by omega
      go_enter Try.func5, Try.ntmps5
      go_wp2_with fail
      refine (shownAes_any _).mono ?_
      rintro e w1 ⟨rfl, k1⟩
      go_wp2_with fail
      go_ret
      exact ⟨rfl, k1⟩
    · skip
      by_cases h2 : 300 < lc.length
      · have q2 : 300 < (lc.length : Int) := by omega
        have r0 : ¬ 40 < (la.length : Int) := by omega
        have r1 : ¬ 40 < (lb.length : Int) := by omega
        go_enter Try.func5, Try.ntmps5
        go_wp2_with fail
        refine (shownAes_any _).mono ?_
        rintro e w1 ⟨rfl, k1⟩
        go_wp2_with fail
        go_ret
        exact ⟨rfl, k1⟩
      · skip
        have r0 : ¬ 40 < (la.length : Int) := by omega
        have r1 : ¬ 40 < (lb.length : Int) := by omega
        have r2 : ¬ 300 < (lc.length : Int) := by omega
        have hE := strE_01 la lb
        have hl : lc.length ≤ 1000000 := by omega
        have HA : Hid (∀ W, Kp w W → Calls Try.prog 19 #[.slice a1 la.length c1, .slice a2 lb.length c2, .slice a3 lc.length c3] W fun e w' => (∃ r, e = .returned (.tuple #[r, .int .i64 (strE la lb)]) ∧ Rd w' r (strR la lb lc)) ∧ Kp W w') := fun W hW => aesStream_any _ _ _ la lb lc W (ha.kp hW) (hb.kp hW) (hc.kp hW) hl
        have HR : Hid (∀ W, Kp w W → Calls Try.prog 20 #[.slice a1 la.length c1, .slice a2 lb.length c2, .slice a3 lc.length c3] W fun e w' => (∃ r, e = .returned (.tuple #[r, .int .i64 (strE la lb)]) ∧ Rd w' r (strR la lb lc)) ∧ Kp W w') := fun W hW => refStream_any5 _ _ _ la lb lc W (ha.kp hW) (hb.kp hW) (hc.kp hW) hl
        generalize strE la lb = E at *
        generalize strR la lb lc = R at *
        have hw : IntKind.i64.wrap E = E := by rcases hE with rfl | rfl <;> rfl
        clear ha hb hc hE
        go_enter Try.func5, Try.ntmps5
        go_wp2_with fail
        refine (shownAes_any _).mono ?_
        rintro e w1 ⟨rfl, k1⟩
        go_wp2_with fail
        refine (HA.out w1 k1).mono ?_
        rintro e w2 ⟨⟨x, rfl, r2⟩, k2⟩
        go_wp2_with fail
        refine (HR.out w2 (k1.trans k2)).mono ?_
        rintro e w3 ⟨⟨y, rfl, r3⟩, k3⟩
        go_wp2_with fail
        refine (same_yes5 _ _ R w3 (r2.kp k3) r3).mono ?_
        rintro e w4 ⟨rfl, rfl⟩
        go_wp2_with fail
        go_ret
        exact ⟨rfl, (k1.trans k2).trans k3⟩

set_option maxRecDepth 100000 in
set_option maxHeartbeats 4000000 in
theorem aesApart_walk (va vb vc : Value) (la lb lc : List UInt8) (w : World) (ha : Rd w va la) (hb : Rd w vb lb) (hc : Rd w vc lc) :
    Calls Try.prog 8 #[va, vb, vc] w (Yes w) := by
  obtain ⟨a1, c1, rfl, p1, s1⟩ := ha.shape
  obtain ⟨a2, c2, rfl, p2, s2⟩ := hb.shape
  obtain ⟨a3, c3, rfl, p3, s3⟩ := hc.shape
  by_cases h0 : la.length = 16
  · skip
    by_cases h1 : lb.length = 16
    · skip
      by_cases h2 : lc.length = 16
      · skip
        have e1 : blkE la lb = 0 ∧ blkR la lb = lockL (keysL la) lb := ⟨if_pos ⟨h0, h1⟩, if_pos ⟨h0, h1⟩⟩
        have e2 : blkE la lc = 0 ∧ blkR la lc = lockL (keysL la) lc := ⟨if_pos ⟨h0, h2⟩, if_pos ⟨h0, h2⟩⟩
        have HB1 : Hid (∀ W, Kp w W → Calls Try.prog 17 #[.slice a1 la.length c1, .slice a2 lb.length c2] W fun e w' => (∃ r, e = .returned (.tuple #[r, .int .i64 0]) ∧ Rd w' r (lockL (keysL la) lb)) ∧ Kp W w') := fun W hW => by rw [← e1.1, ← e1.2]; exact aesBlock_any _ _ la lb W (ha.kp hW) (hb.kp hW)
        have HB2 : Hid (∀ W, Kp w W → Calls Try.prog 17 #[.slice a1 la.length c1, .slice a3 lc.length c3] W fun e w' => (∃ r, e = .returned (.tuple #[r, .int .i64 0]) ∧ Rd w' r (lockL (keysL la) lc)) ∧ Kp W w') := fun W hW => by rw [← e2.1, ← e2.2]; exact aesBlock_any _ _ la lc W (ha.kp hW) (hc.kp hW)
        have HI : Hid (decide (lockL (keysL la) lb = lockL (keysL la) lc) = decide (lb = lc)) := by simp only [Hid, lockL_inj h1 h2]
        have HL1 := lockL_length (keysL la) lb
        have HBB := Lib.hid hb
        have HCC := Lib.hid hc
        rw [h0] at HB1 HB2 p1 ⊢
        rw [h1] at HB1 HBB p2 ⊢
        rw [h2] at HB2 HCC p3 ⊢
        generalize lockL (keysL la) lb = R1 at *
        generalize lockL (keysL la) lc = R2 at *
        obtain ⟨bb, hbb⟩ : ∃ b, decide (lb = lc) = b := ⟨_, rfl⟩
        have HS : Hid (∀ u v W, Rd W u R1 → Rd W v R2 → Calls Try.prog 12 #[u, v] W fun e w' => e = .returned (.bool bb) ∧ W = w') := fun u v W x y => by have := same_any u v R1 R2 W x y; rwa [HI.out, hbb] at this
        have HS2 : Hid (∀ u v W, Rd W u lb → Rd W v lc → Calls Try.prog 12 #[u, v] W fun e w' => e = .returned (.bool bb) ∧ W = w') := fun u v W x y => by have := same_any u v lb lc W x y; rwa [hbb] at this
        clear ha hb hc e1 e2 h0 h1 h2 HI hbb
        go_enter Try.func8, Try.ntmps8
        go_wp2_with fail
        refine (shownAes_any _).mono ?_
        rintro e w1 ⟨rfl, k1⟩
        go_wp2_with fail
        refine (HB1.out w1 k1).mono ?_
        rintro e w2 ⟨⟨x, rfl, r2⟩, k2⟩
        obtain ⟨a5, c5, rfl, _, _⟩ := r2.shape
        have R2X := Lib.hid r2
        rw [HL1] at R2X ⊢
        clear r2
        go_wp2_with fail
        refine (HB2.out w2 (k1.trans k2)).mono ?_
        rintro e w3 ⟨⟨y, rfl, r3⟩, k3⟩
        have k13 := (k1.trans k2).trans k3
        go_wp2_with fail
        refine (HS.out _ _ w3 (R2X.out.kp k3) r3).mono ?_
        rintro e w4 ⟨rfl, rfl⟩
        go_wp2_with fail
        refine (HS2.out _ _ w3 (HBB.out.kp k13) (HCC.out.kp k13)).mono ?_
        rintro e w5 ⟨rfl, rfl⟩
        go_wp2_with fail
        go_ret
        refine ⟨?_, k13⟩
        cases bb <;> rfl
      · have q1 : ((lc.length : Int) == 16) = false := beq_eq_false_iff_ne.2 (by omega)
        have q2 : ¬ (lc.length : Int) = 16 := by omega
        rw [h0, h1]
        go_enter Try.func8, Try.ntmps8
        go_wp2_with fail
        refine (shownAes_any _).mono ?_
        rintro e w1 ⟨rfl, k1⟩
        go_wp2_with fail
        go_ret
        exact ⟨rfl, k1⟩
    · have q1 : ((lb.length : Int) == 16) = false := beq_eq_false_iff_ne.2 (by omega)
      have q2 : ¬ (lb.length : Int) = 16 := by omega
      rw [h0]
      go_enter Try.func8, Try.ntmps8
      go_wp2_with fail
      refine (shownAes_any _).mono ?_
      rintro e w1 ⟨rfl, k1⟩
      go_wp2_with fail
      go_ret
      exact ⟨rfl, k1⟩
  · have q1 : ((la.length : Int) == 16) = false := beq_eq_false_iff_ne.2 (by omega)
    have q2 : ¬ (la.length : Int) = 16 := by omega
    go_enter Try.func8, Try.ntmps8
    go_wp2_with fail
    refine (shownAes_any _).mono ?_
    rintro e w1 ⟨rfl, k1⟩
    go_wp2_with fail
    go_ret
    exact ⟨rfl, k1⟩
end Go.Proofs.Ytfnkcdcbjcoefaa

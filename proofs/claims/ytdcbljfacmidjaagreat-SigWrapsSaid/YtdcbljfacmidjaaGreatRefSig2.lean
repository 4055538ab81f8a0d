/- pyxref07: Sign, Verify, keys, Wrap, Unwrap, Half. -/
import Derived.Test.YtdcbljfacmidjaaGreatRefSig
import Derived.Test.YtdcbljfacmidjaaGreatSealRef
set_option linter.unusedVariables false
set_option linter.unusedSimpArgs false
namespace Go.Proofs.YtdcbljfacmidjaaGreat
open Go.RowKit

theorem verE_yes {pub l b s : List UInt8} (h : pub.length = 32) : verE pub l b s = if sigB pub l b = s then 0 else 5 := if_pos h
theorem verE_no {pub l b s : List UInt8} (h : ¬ pub.length = 32) : verE pub l b s = 1 := if_neg h

set_option maxHeartbeats 1000000 in
theorem refKeys_any7 (u v i : Value) (pub half info : List UInt8) (w : World) (hu : Rd w u pub) (hv : Rd w v half) (hi : Rd w i info) (hp : pub.length ≤ 2000) (hh : half.length ≤ 1800) (hil : info.length ≤ 1400) :
    Calls Tryz.prog 16 #[u, v, i] w fun e w' => (∃ a b, e = .returned (.tuple #[a, b]) ∧ Rd w' a (wkB pub half info) ∧ Rd w' b (wnB pub half info)) ∧ Kp w w' := by
  have HM : Hid (Calls Tryz.prog 28 #[u, v] w fun e w' => (∃ r, e = .returned r ∧ Rd w' r (secB pub half)) ∧ Kp w w') := by
    refine (refMac_sum u v pub half w hu hv hp (by omega)).mono ?_
    rintro _ w' ⟨⟨r, rfl, o⟩, kk⟩
    exact ⟨⟨r, rfl, o.rd⟩, kk⟩
  have hsl : (secB pub half).length = 32 := macB_length _ _
  have H1 : Hid (∀ W s, Kp w W → Rd W s (secB pub half) → Calls Tryz.prog 27 #[s, .string ⟨#[107, 101, 121]⟩, i, .int .i64 32] W fun e w' => (∃ r, e = .returned (.tuple #[r, .int .i64 0]) ∧ Rd w' r (wkB pub half info)) ∧ Kp W w') := fun W s hW hs =>
    refLabel_any s ⟨#[107, 101, 121]⟩ i _ info 32 W hs (hi.kp hW) (by decide) hil (by omega)
  have H2 : Hid (∀ W s, Kp w W → Rd W s (secB pub half) → Calls Tryz.prog 27 #[s, .string ⟨#[110, 111, 110, 99, 101]⟩, i, .int .i64 12] W fun e w' => (∃ r, e = .returned (.tuple #[r, .int .i64 0]) ∧ Rd w' r (wnB pub half info)) ∧ Kp W w') := fun W s hW hs =>
    refLabel_any s ⟨#[110, 111, 110, 99, 101]⟩ i _ info 12 W hs (hi.kp hW) (by decide) hil (by omega)
  clear hu hv hi hp hh hil hsl
  go_enter Tryz.func16, Tryz.ntmps16
  go_wp2_with fail
  refine HM.out.mono ?_; rintro _ w1 ⟨⟨s, rfl, r1⟩, k1⟩
  have K1 := Lib.hid k1
  have R1 := Lib.hid r1
  clear HM r1 k1
  go_wp2_with fail
  refine (H1.out _ _ K1.out R1.out).mono ?_; rintro _ w2 ⟨⟨a, rfl, r2⟩, k2⟩
  have K2 := Lib.hid (K1.out.trans k2)
  have R2 := Lib.hid r2
  have R1 := Lib.hid (R1.out.kp k2)
  obtain ⟨x2, n2, c2, rfl⟩ := r2.sl
  clear H1 r2 k2 K1
  go_wp2_with fail
  refine (H2.out _ _ K2.out R1.out).mono ?_; rintro _ w3 ⟨⟨b, rfl, r3⟩, k3⟩
  have K3 := Lib.hid (K2.out.trans k3)
  have R3 := Lib.hid r3
  have R2 := Lib.hid (R2.out.kp k3)
  obtain ⟨x3, n3, c3, rfl⟩ := r3.sl
  clear H2 r3 k3 K2
  go_wp2_with fail
  go_ret2
  exact ⟨⟨_, _, rfl, R2.out, R3.out⟩, K3.out⟩

set_option maxHeartbeats 2000000 in
theorem refWrap_any (u1 u2 u3 u4 : Value) (pub once info b : List UInt8) (w : World) (h1 : Rd w u1 pub) (h2 : Rd w u2 once) (h3 : Rd w u3 info) (h4 : Rd w u4 b) (hil : info.length ≤ 1400) (hbl : b.length ≤ 1600) :
    Calls Tryz.prog 6 #[u1, u2, u3, u4] w fun e w' => (∃ x y, e = .returned (.tuple #[x, y, .int .i64 (wrapE pub once)]) ∧ Rd w' x (wrapH pub once) ∧ Rd w' y (wrapR pub once info b)) ∧ Kp w w' := by
  obtain ⟨a1, c1, rfl, p1, s1⟩ := h1.shape
  have HP := Lib.hid (refPublic_any u2 once w h2)
  by_cases ho : once.length = 32
  · rw [(pub_yes ho).1, (pub_yes ho).2] at HP
    by_cases hp : pub.length = 32
    · obtain ⟨e1, e2, e3⟩ := wrap_yes (pub := pub) (once := once) info b ⟨ho, hp⟩
      rw [e1, e2, e3]
      have HK : Hid (∀ W v, Kp w W → Rd W v (pubB once) → Calls Tryz.prog 16 #[.slice a1 pub.length c1, v, u3] W fun e w' => (∃ a b, e = .returned (.tuple #[a, b]) ∧ Rd w' a (wkB pub (pubB once) info) ∧ Rd w' b (wnB pub (pubB once) info)) ∧ Kp W w') := fun W v hW hv =>
        refKeys_any7 _ v u3 pub _ info W (h1.kp hW) hv (h3.kp hW) (by omega) (by rw [pubB_length]; omega) hil
      have HS : Hid (∀ W k n, Kp w W → Rd W k (wkB pub (pubB once) info) → Rd W n (wnB pub (pubB once) info) → Calls Tryz.prog 17 #[k, n, .slice none 0 0, u4] W fun e w' => (∃ r, e = .returned (.tuple #[r, .int .i64 0]) ∧ Rd w' r (wrapped pub (pubB once) info b)) ∧ Kp W w') := fun W k n hW hk hn => by
        have := refSeal_any k n (.slice none 0 0) u4 _ _ [] b W hk hn (rd_nil W) (h4.kp hW) (by simp; omega)
        rwa [show sealE (wkB pub (pubB once) info) (wnB pub (pubB once) info) = 0 from if_pos (wk_ok _ _ _), show sealR (wkB pub (pubB once) info) (wnB pub (pubB once) info) [] b = wrapped pub (pubB once) info b from if_pos (wk_ok _ _ _)] at this
      rw [hp] at HK p1 ⊢
      clear h1 h2 h3 h4 hil hbl ho hp e1 e2 e3
      go_enter Tryz.func6, Tryz.ntmps6
      go_wp2_with fail
      refine HP.out.mono ?_; rintro _ w1 ⟨⟨p, rfl, r1⟩, k1⟩
      have K1 := Lib.hid k1
      have R1 := Lib.hid r1
      obtain ⟨x1, n1, d1, rfl⟩ := r1.sl
      clear HP r1 k1
      go_wp2_with fail
      refine (HK.out _ _ K1.out R1.out).mono ?_; rintro _ w2 ⟨⟨k, n, rfl, r2, r3⟩, k2⟩
      have K2 := Lib.hid (K1.out.trans k2)
      have R1 := Lib.hid (R1.out.kp k2)
      have R2 := Lib.hid r2
      have R3 := Lib.hid r3
      clear HK r2 r3 k2 K1
      go_wp2_with fail
      refine (HS.out _ _ _ K2.out R2.out R3.out).mono ?_; rintro _ w3 ⟨⟨o, rfl, r4⟩, k3⟩
      have K3 := Lib.hid (K2.out.trans k3)
      have R1 := Lib.hid (R1.out.kp k3)
      have R4 := Lib.hid r4
      obtain ⟨x4, n4, d4, rfl⟩ := r4.sl
      clear HS r4 k3 K2 R2 R3
      go_wp2_with fail
      go_ret3
      exact ⟨⟨_, _, rfl, R1.out, R4.out⟩, K3.out⟩
    · obtain ⟨e1, e2, e3⟩ := wrap_no (pub := pub) (once := once) info b (fun h => hp h.2)
      rw [e1, e2, e3]
      have hb2 : ((pub.length : Int) == 32) = false := beq_eq_false_iff_ne.2 (by omega)
      have hb3 : ¬ (pub.length : Int) = 32 := by omega
      go_enter Tryz.func6, Tryz.ntmps6
      go_wp2_with fail
      refine HP.out.mono ?_; rintro _ w1 ⟨⟨p, rfl, r1⟩, k1⟩
      clear HP r1
      go_wp2_with fail
      go_ret3
      exact ⟨⟨_, _, rfl, rd_nil _, rd_nil _⟩, k1⟩
  · obtain ⟨e1, e2, e3⟩ := wrap_no (pub := pub) (once := once) info b (fun h => ho h.1)
    rw [e1, e2, e3]
    rw [(pub_no ho).1, (pub_no ho).2] at HP
    go_enter Tryz.func6, Tryz.ntmps6
    go_wp2_with fail
    refine HP.out.mono ?_; rintro _ w1 ⟨⟨p, rfl, r1⟩, k1⟩
    clear HP r1
    go_wp2_with fail
    go_ret3
    exact ⟨⟨_, _, rfl, rd_nil _, rd_nil _⟩, k1⟩

set_option maxHeartbeats 2000000 in
theorem refUnwrap_any (u1 u2 u3 u4 : Value) (seed half info b : List UInt8) (w : World) (h1 : Rd w u1 seed) (h2 : Rd w u2 half) (h3 : Rd w u3 info) (h4 : Rd w u4 b) (hil : info.length ≤ 1400) (hbl : b.length ≤ 1600) :
    Calls Tryz.prog 8 #[u1, u2, u3, u4] w fun e w' => (∃ x, e = .returned (.tuple #[x, .int .i64 (unE seed half info b)]) ∧ Rd w' x (unR seed half info b)) ∧ Kp w w' := by
  obtain ⟨a2, c2, rfl, p2, s2⟩ := h2.shape
  have HP := Lib.hid (refPublic_any u1 seed w h1)
  by_cases ho : seed.length = 32
  · rw [(pub_yes ho).1, (pub_yes ho).2] at HP
    by_cases hp : half.length = 32
    · obtain ⟨e1, e2⟩ := un_yes (seed := seed) (half := half) info b ⟨ho, hp⟩
      rw [e1, e2]
      have HK : Hid (∀ W v, Kp w W → Rd W v (pubB seed) → Calls Tryz.prog 16 #[v, .slice a2 half.length c2, u3] W fun e w' => (∃ a b, e = .returned (.tuple #[a, b]) ∧ Rd w' a (wkB (pubB seed) half info) ∧ Rd w' b (wnB (pubB seed) half info)) ∧ Kp W w') := fun W v hW hv =>
        refKeys_any7 v _ u3 _ half info W hv (h2.kp hW) (h3.kp hW) (by rw [pubB_length]; omega) (by omega) hil
      have HS : Hid (∀ W k n, Kp w W → Rd W k (wkB (pubB seed) half info) → Rd W n (wnB (pubB seed) half info) → Calls Tryz.prog 19 #[k, n, .slice none 0 0, u4] W fun e w' => (∃ r, e = .returned (.tuple #[r, .int .i64 (openE (wkB (pubB seed) half info) (wnB (pubB seed) half info) [] b)]) ∧ Rd w' r (openR (wkB (pubB seed) half info) (wnB (pubB seed) half info) [] b)) ∧ Kp W w') := fun W k n hW hk hn =>
        refOpen_any k n (.slice none 0 0) u4 _ _ [] b W hk hn (rd_nil W) (h4.kp hW) (by simp; omega)
      generalize openE (wkB (pubB seed) half info) (wnB (pubB seed) half info) [] b = E at *
      generalize openR (wkB (pubB seed) half info) (wnB (pubB seed) half info) [] b = R at *
      rw [hp] at HK p2 ⊢
      clear h1 h2 h3 h4 hil hbl ho hp e1 e2
      go_enter Tryz.func8, Tryz.ntmps8
      go_wp2_with fail
      refine HP.out.mono ?_; rintro _ w1 ⟨⟨p, rfl, r1⟩, k1⟩
      have K1 := Lib.hid k1
      have R1 := Lib.hid r1
      clear HP r1 k1
      go_wp2_with fail
      refine (HK.out _ _ K1.out R1.out).mono ?_; rintro _ w2 ⟨⟨k, n, rfl, r2, r3⟩, k2⟩
      have K2 := Lib.hid (K1.out.trans k2)
      have R2 := Lib.hid r2
      have R3 := Lib.hid r3
      clear HK r2 r3 k2 K1 R1
      go_wp2_with fail
      refine (HS.out _ _ _ K2.out R2.out R3.out).mono ?_; rintro _ w3 ⟨⟨o, rfl, r4⟩, k3⟩
      have K3 := Lib.hid (K2.out.trans k3)
      have R4 := Lib.hid r4
      obtain ⟨x4, n4, d4, rfl⟩ := r4.sl
      clear HS r4 k3 K2 R2 R3
      go_wp2_with fail
      go_ret2
      exact ⟨⟨_, rfl, R4.out⟩, K3.out⟩
    · obtain ⟨e1, e2⟩ := un_no (seed := seed) (half := half) info b (fun h => hp h.2)
      rw [e1, e2]
      have hb2 : ((half.length : Int) == 32) = false := beq_eq_false_iff_ne.2 (by omega)
      have hb3 : ¬ (half.length : Int) = 32 := by omega
      go_enter Tryz.func8, Tryz.ntmps8
      go_wp2_with fail
      refine HP.out.mono ?_; rintro _ w1 ⟨⟨p, rfl, r1⟩, k1⟩
      clear HP r1
      go_wp2_with fail
      go_ret2
      exact ⟨⟨_, rfl, rd_nil _⟩, k1⟩
  · obtain ⟨e1, e2⟩ := un_no (seed := seed) (half := half) info b (fun h => ho h.1)
    rw [e1, e2]
    rw [(pub_no ho).1, (pub_no ho).2] at HP
    go_enter Tryz.func8, Tryz.ntmps8
    go_wp2_with fail
    refine HP.out.mono ?_; rintro _ w1 ⟨⟨p, rfl, r1⟩, k1⟩
    clear HP r1
    go_wp2_with fail
    go_ret2
    exact ⟨⟨_, rfl, rd_nil _⟩, k1⟩

end Go.Proofs.YtdcbljfacmidjaaGreat

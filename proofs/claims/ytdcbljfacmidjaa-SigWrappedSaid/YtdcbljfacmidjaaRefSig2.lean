/- pyxref07: Sign, Verify, keys, Wrap, Unwrap, Half. -/
import Derived.Test.YtdcbljfacmidjaaRefSig
import Derived.Test.YtdcbljfacmidjaaSealRef
set_option linter.unusedVariables false
set_option linter.unusedSimpArgs false
namespace Go.Proofs.Ytdcbljfacmidjaa
open Go.RowKit

set_option maxHeartbeats 1000000 in
theorem refSign_any (u : Value) (s : ByteArray) (vb : Value) (seed b : List UInt8) (w : World) (hu : Rd w u seed) (hb : Rd w vb b) (hs : s.size ≤ 300) (hbl : b.length ≤ 1400) :
    Calls Try.prog 11 #[u, .string s, vb] w fun e w' => (∃ r, e = .returned (.tuple #[r, .int .i64 (pubE seed)]) ∧ Rd w' r (signR seed s.data.toList b)) ∧ Kp w w' := by
  have HP := Lib.hid (refPublic_any u seed w hu)
  by_cases hk : seed.length = 32
  · have e2 : signR seed s.data.toList b = sigB (pubB seed) s.data.toList b := if_pos hk
    rw [(pub_yes hk).1, (pub_yes hk).2] at HP
    rw [(pub_yes hk).1, e2]
    have HT : Hid (∀ W v, Kp w W → Rd W v (pubB seed) → Calls Try.prog 23 #[v, .string s, vb] W fun e w' => (∃ r, e = .returned r ∧ Rd w' r (sigB (pubB seed) s.data.toList b)) ∧ Kp W w') := fun W v hW hv =>
      refSigTag_any v s vb _ b W hv (hb.kp hW) hs hbl (by rw [pubB_length]; omega)
    clear hu hb hs hbl hk e2
    go_enter Try.func11, Try.ntmps11
    go_wp2_with fail
    refine HP.out.mono ?_; rintro _ w1 ⟨⟨p, rfl, r1⟩, k1⟩
    have R1 := Lib.hid r1
    have K1 := Lib.hid k1
    clear HP r1 k1
    go_wp2_with fail
    refine (HT.out _ _ K1.out R1.out).mono ?_; rintro _ w2 ⟨⟨r, rfl, r2⟩, k2⟩
    have R2 := Lib.hid r2
    have K2 := Lib.hid (K1.out.trans k2)
    obtain ⟨a, n, c, rfl⟩ := r2.sl
    clear HT r2 k2
    go_wp2_with fail
    go_ret2
    exact ⟨⟨_, rfl, R2.out⟩, K2.out⟩
  · have e2 : signR seed s.data.toList b = [] := if_neg hk
    rw [(pub_no hk).1, (pub_no hk).2] at HP
    rw [(pub_no hk).1, e2]
    clear hu hb hs hbl hk e2
    go_enter Try.func11, Try.ntmps11
    go_wp2_with fail
    refine HP.out.mono ?_; rintro _ w1 ⟨⟨p, rfl, r1⟩, k1⟩
    clear HP r1
    go_wp2_with fail
    go_ret2
    exact ⟨⟨_, rfl, rd_nil _⟩, k1⟩

theorem verE_yes {pub l b s : List UInt8} (h : pub.length = 32) : verE pub l b s = if sigB pub l b = s then 0 else 5 := if_pos h
theorem verE_no {pub l b s : List UInt8} (h : ¬ pub.length = 32) : verE pub l b s = 1 := if_neg h

set_option maxHeartbeats 1000000 in
theorem refVerify_any (u : Value) (s : ByteArray) (vb vs : Value) (pub b sign : List UInt8) (w : World) (hu : Rd w u pub) (hb : Rd w vb b) (hv : Rd w vs sign) (hs : s.size ≤ 300) (hbl : b.length ≤ 1400) :
    Calls Try.prog 14 #[u, .string s, vb, vs] w fun e w' => e = .returned (.int .i64 (verE pub s.data.toList b sign)) ∧ Kp w w' := by
  obtain ⟨a1, c1, rfl, p1, s1⟩ := hu.shape
  by_cases hk : pub.length = 32
  · rw [verE_yes hk]
    have HT : Hid (Calls Try.prog 23 #[.slice a1 pub.length c1, .string s, vb] w fun e w' => (∃ r, e = .returned r ∧ Rd w' r (sigB pub s.data.toList b)) ∧ Kp w w') :=
      refSigTag_any _ s vb _ b w hu hb hs hbl (by omega)
    generalize sigB pub s.data.toList b = T at *
    have HV : Hid (∀ W v, Kp w W → Rd W v T → Calls Try.prog 12 #[v, vs] W fun e w' => e = .returned (.bool (decide (T = sign))) ∧ W = w') := fun W v hW hT => same_any v vs T sign W hT (hv.kp hW)
    have hif : (if T = sign then (0 : Int) else 5) = if decide (T = sign) then 0 else 5 := by simp
    rw [hif]
    generalize decide (T = sign) = bb at *
    rw [hk] at HT p1 ⊢
    clear hu hb hv hs hbl hk hif
    go_enter Try.func14, Try.ntmps14
    go_wp2_with fail
    refine HT.out.mono ?_; rintro _ w1 ⟨⟨t, rfl, r1⟩, k1⟩
    have K1 := Lib.hid k1
    have R1 := Lib.hid r1
    clear HT r1 k1
    go_wp2_with fail
    refine (HV.out _ _ K1.out R1.out).mono ?_; rintro _ _ ⟨rfl, rfl⟩
    cases bb
    · go_wp2_with fail
      go_ret
      exact ⟨rfl, K1.out⟩
    · go_wp2_with fail
      go_ret
      exact ⟨rfl, K1.out⟩
  · rw [verE_no hk]
    have hb2 : ((pub.length : Int) == 32) = false := beq_eq_false_iff_ne.2 (by omega)
    have hb3 : ¬ (pub.length : Int) = 32 := by omega
    go_enter Try.func14, Try.ntmps14
    go_wp2_with fail
    go_ret
    exact ⟨rfl, Kp.refl _⟩

set_option maxHeartbeats 1000000 in
theorem refHalf_any (u : Value) (seed : List UInt8) (w : World) (hu : Rd w u seed) :
    Calls Try.prog 19 #[u] w fun e w' => (∃ r, e = .returned r ∧ Rd w' r (pubR seed)) ∧ Kp w w' := by
  have HP := Lib.hid (refPublic_any u seed w hu)
  go_enter Try.func19, Try.ntmps19
  go_wp2_with fail
  refine HP.out.mono ?_; rintro _ w1 ⟨⟨p, rfl, r1⟩, k1⟩
  have R1 := Lib.hid r1
  obtain ⟨a, n, c, rfl⟩ := r1.sl
  clear HP r1
  go_wp2_with fail
  go_ret
  exact ⟨⟨_, rfl, R1.out⟩, k1⟩
end Go.Proofs.Ytdcbljfacmidjaa

/- sig.Public, Sign, Verify, Wrap, Unwrap. -/
import Derived.Test.YtdcbljfacmidjaaGreatSigPlain
import Derived.Test.YtdcbljfacmidjaaGreatSealOwnAll
import Derived.Test.YtdcbljfacmidjaaGreatKdfAll
import Derived.Test.YtdcbljfacmidjaaGreatMacSame
set_option linter.unusedVariables false
set_option linter.unusedSimpArgs false
namespace Go.Proofs.YtdcbljfacmidjaaGreat
open Go.RowKit

set_option maxHeartbeats 1000000 in
/-- n bytes of a source: a secret and a context. -/
theorem sig_key (v1 v2 : Value) (s : ByteArray) (k ctx : List UInt8) (n : Int) (w : World) (h1 : Rd w v1 k) (h2 : Rd w v2 ctx) (hs : s.size ≤ 300) (hcl : ctx.length ≤ 1400) (hkl : k.length ≤ 2000) (hn2 : -9223372036854775808 ≤ n ∧ n ≤ 9223372036854775807) :
    Calls Tryz.prog 20 #[.agg #[v1, v2], .string s, .int .i64 n] w fun e w' => (∃ v, e = .returned (.tuple #[v, .int .i64 (expE n)]) ∧ Rd w' v (labR k s.data.toList ctx n)) ∧ Kp w w' := by
  have HL : Hid (∀ W, Kp w W → Calls Tryz.prog 32 #[v1, .string s, v2, .int .i64 n] W fun e w' => (∃ v, e = .returned (.tuple #[v, .int .i64 (expE n)]) ∧ Ow 5 w' W.heap.size v (labR k s.data.toList ctx n)) ∧ Kp W w') := fun W hW => label_any v1 s v2 k ctx n W (h1.kp hW) (h2.kp hW) hs hcl hkl hn2
  obtain ⟨a1, n1, c1, rfl⟩ := h1.sl
  obtain ⟨a2, n2, c2, rfl⟩ := h2.sl
  clear h1 h2 hs hcl hkl hn2
  go_enter Tryz.func20, Tryz.ntmps20
  go_wp2_with fail
  refine (HL.out _ ((Kp.refl _).alloc _)).mono ?_; rintro _ w1 ⟨⟨v, rfl, o1⟩, k1⟩
  have r1 := o1.rd
  have K1 := ((Kp.refl w).alloc (.cells #[.slice a1 n1 c1, .slice a2 n2 c2] 45)).trans k1
  clear o1 k1
  go_wp2_with fail
  go_ret2
  exact ⟨⟨_, rfl, r1⟩, K1⟩

set_option maxHeartbeats 1000000 in
theorem sigPublic_any (u : Value) (seed : List UInt8) (w : World) (hu : Rd w u seed) :
    Calls Tryz.prog 10 #[u] w fun e w' => (∃ r, e = .returned (.tuple #[r, .int .i64 (pubE seed)]) ∧ Rd w' r (pubR seed)) ∧ Kp w w' := by
  obtain ⟨a1, c1, rfl, h1, h2⟩ := hu.shape
  by_cases hk : seed.length = 32
  · rw [(pub_yes hk).1, (pub_yes hk).2]
    have HL : Hid (Calls Tryz.prog 20 #[.agg #[.slice a1 seed.length c1, .slice none 0 0], .string ⟨#[112, 117, 98, 108, 105, 99]⟩, .int .i64 32] w fun e w' => (∃ v, e = .returned (.tuple #[v, .int .i64 0]) ∧ Rd w' v (pubB seed)) ∧ Kp w w') :=
      sig_key _ _ ⟨#[112, 117, 98, 108, 105, 99]⟩ seed [] 32 w hu (rd_nil w) (by decide) (by simp) (by omega) (by omega)
    rw [hk] at HL h1 ⊢
    clear hu hk
    go_enter Tryz.func10, Tryz.ntmps10
    go_wp2_with fail
    refine HL.out.mono ?_; rintro _ w1 ⟨⟨v, rfl, r1⟩, k1⟩
    clear HL
    go_wp2_with fail
    go_ret2
    exact ⟨⟨_, rfl, r1⟩, k1⟩
  · rw [(pub_no hk).1, (pub_no hk).2]
    have hb2 : ((seed.length : Int) == 32) = false := beq_eq_false_iff_ne.2 (by omega)
    have hb3 : ¬ (seed.length : Int) = 32 := by omega
    go_enter Tryz.func10, Tryz.ntmps10
    go_wp2_with fail
    go_ret2
    exact ⟨⟨_, rfl, rd_nil _⟩, Kp.refl _⟩

set_option maxHeartbeats 1000000 in
theorem signature_any (u : Value) (s : ByteArray) (vb : Value) (pub b : List UInt8) (w : World) (hu : Rd w u pub) (hb : Rd w vb b) (hs : s.size ≤ 300) (hbl : b.length ≤ 1400) (hp : pub.length ≤ 2000) :
    Calls Tryz.prog 21 #[u, .string s, vb] w fun e w' => (∃ r, e = .returned (.tuple #[r, .int .i64 0]) ∧ Rd w' r (sigB pub s.data.toList b)) ∧ Kp w w' := by
  obtain ⟨ab, cb, rfl, _, _⟩ := hb.shape
  obtain ⟨au, nu, cu, rfl⟩ := hu.sl
  have hsl : s.data.toList.length = s.size := rfl
  have e3 := row_ok (x := mlsB ++ s.data.toList) (by rw [List.length_append, hsl]; simp [mlsB]; omega)
  have e3l : lenE ((8 : Int) + s.size) = 0 := by unfold lenE; rw [if_neg (by omega)]
  have e3b : lenB ((8 : Int) + s.size) ++ (mlsB ++ s.data.toList) = rowB (mlsB ++ s.data.toList) := by
    rw [e3.2, List.length_append, hsl]
    unfold lenB
    rw [if_pos e3l]
    congr 2
  have e4 := row_ok (x := b) (by omega)
  have e4l : lenE (b.length : Int) = 0 := by unfold lenE; rw [if_neg (by omega)]
  have e4b : lenB (b.length : Int) ++ b = rowB b := by
    rw [e4.2]
    unfold lenB
    rw [if_pos e4l]
    rfl
  have hlen1 := Lib.hid (fun W => len_any ((8 : Int) + s.size) W)
  have hlen2 := Lib.hid (fun W => len_any (b.length : Int) W)
  rw [e3l] at hlen1
  rw [e4l] at hlen2
  have hcv := fun W (S : ByteArray) => Lib.run_convert_string_bytes (P := Tryz.prog) W 9 22 5 S Tryz.underlying9 Tryz.underlying22 Tryz.underlying5
  have hs8 : (s.size : Int) ≤ 300 := by omega
  have hfl : Hid (([lenB ((8 : Int) + s.size), mlsB ++ s.data.toList, lenB (b.length : Int), b] : List (List UInt8)).flatten = signedB s.data.toList b) := by
    unfold Hid signedB
    rw [← e3b, ← e4b]
    simp only [List.flatten_cons, List.flatten_nil, List.append_nil, List.append_assoc]
  have HO := Lib.hid (And.intro (signedB_length s.data.toList b (by omega) hbl) hs)
  clear e3 e3l e3b e4 e4l e4b hs
  go_enter Tryz.func21, Tryz.ntmps21
  go_wp2_with fail
  refine (hlen1.out _).mono ?_; rintro _ w1 ⟨v1, rfl, o1, k1⟩
  obtain ⟨a1, n1, c1, rfl⟩ := o1.rd.sl
  clear hlen1
  go_wp2_with fail
  refine (hlen2.out _).mono ?_; rintro _ w2 ⟨v2, rfl, o2, k2⟩
  obtain ⟨a2, n2, c2, rfl⟩ := o2.rd.sl
  clear hlen2
  go_wp2_with fail
  have kb := kp_bytesWorld w2 5 (⟨#[77, 76, 83, 32, 49, 46, 48, 32]⟩ ++ s)
  have hsz : (⟨#[77, 76, 83, 32, 49, 46, 48, 32]⟩ ++ s : ByteArray).size = 8 + s.size := by rw [ByteArray.size_append]; rfl
  have hdt : (⟨#[77, 76, 83, 32, 49, 46, 48, 32]⟩ ++ s : ByteArray).data.toList = mlsB ++ s.data.toList := by rw [ByteArray.data_append, Array.toList_append]; rfl
  have hrb := rd_bytesWorld w2 5 (⟨#[77, 76, 83, 32, 49, 46, 48, 32]⟩ ++ s) (by rw [hsz]; omega)
  rw [hdt, hsz] at hrb
  have K2 := (k1.trans k2).trans kb
  refine (mac_all _ _ pub [lenB ((8 : Int) + s.size), mlsB ++ s.data.toList, lenB (b.length : Int), b] _ (hu.kp (K2.alloc _)) (RL.lits4 (T := 22) ((o1.rd.kp k2).kp kb) hrb (o2.rd.kp kb) (hb.kp K2)) hp (by rw [hfl.out]; have := HO.out.1; omega) (by simp)).mono ?_
  rw [hfl.out]
  rintro _ w5 ⟨⟨a5, c5, rfl, o5⟩, k5⟩
  have r5 := o5.rd
  have K5 := (K2.alloc _).trans k5
  clear o5 o1 o2 k1 k2 kb k5 hrb K2
  go_wp2_with fail
  go_ret2
  exact ⟨⟨_, rfl, r5⟩, K5⟩

set_option maxHeartbeats 1000000 in
theorem sigSign_any (u : Value) (s : ByteArray) (vb : Value) (seed b : List UInt8) (w : World) (hu : Rd w u seed) (hb : Rd w vb b) (hs : s.size ≤ 300) (hbl : b.length ≤ 1400) :
    Calls Tryz.prog 11 #[u, .string s, vb] w fun e w' => (∃ r, e = .returned (.tuple #[r, .int .i64 (pubE seed)]) ∧ Rd w' r (signR seed s.data.toList b)) ∧ Kp w w' := by
  have HP := Lib.hid (sigPublic_any u seed w hu)
  by_cases hk : seed.length = 32
  · have e2 : signR seed s.data.toList b = sigB (pubB seed) s.data.toList b := if_pos hk
    rw [(pub_yes hk).1, (pub_yes hk).2] at HP
    rw [(pub_yes hk).1, e2]
    have HT : Hid (∀ W v, Kp w W → Rd W v (pubB seed) → Calls Tryz.prog 21 #[v, .string s, vb] W fun e w' => (∃ r, e = .returned (.tuple #[r, .int .i64 0]) ∧ Rd w' r (sigB (pubB seed) s.data.toList b)) ∧ Kp W w') := fun W v hW hv =>
      signature_any v s vb _ b W hv (hb.kp hW) hs hbl (by rw [pubB_length]; omega)
    clear hu hb hs hbl hk e2
    go_enter Tryz.func11, Tryz.ntmps11
    go_wp2_with fail
    refine HP.out.mono ?_; rintro _ w1 ⟨⟨p, rfl, r1⟩, k1⟩
    have R1 := Lib.hid r1
    have K1 := Lib.hid k1
    clear HP r1 k1
    go_wp2_with fail
    refine (HT.out _ _ K1.out R1.out).mono ?_; rintro _ w2 ⟨⟨r, rfl, r2⟩, k2⟩
    have R2 := Lib.hid r2
    have K2 := Lib.hid (K1.out.trans k2)
    clear HT r2 k2
    go_wp2_with fail
    go_ret2
    exact ⟨⟨_, rfl, R2.out⟩, K2.out⟩
  · have e2 : signR seed s.data.toList b = [] := if_neg hk
    rw [(pub_no hk).1, (pub_no hk).2] at HP
    rw [(pub_no hk).1, e2]
    clear hu hb hs hbl hk e2
    go_enter Tryz.func11, Tryz.ntmps11
    go_wp2_with fail
    refine HP.out.mono ?_; rintro _ w1 ⟨⟨p, rfl, r1⟩, k1⟩
    clear HP r1
    go_wp2_with fail
    go_ret2
    exact ⟨⟨_, rfl, rd_nil _⟩, k1⟩

set_option maxHeartbeats 1000000 in
theorem sigVerify_any (u : Value) (s : ByteArray) (vb vs : Value) (pub b sign : List UInt8) (w : World) (hu : Rd w u pub) (hb : Rd w vb b) (hv : Rd w vs sign) (hs : s.size ≤ 300) (hbl : b.length ≤ 1400) :
    Calls Tryz.prog 12 #[u, .string s, vb, vs] w fun e w' => e = .returned (.int .i64 (verE pub s.data.toList b sign)) ∧ Kp w w' := by
  obtain ⟨a1, c1, rfl, p1, s1⟩ := hu.shape
  by_cases hk : pub.length = 32
  · rw [show verE pub s.data.toList b sign = if sigB pub s.data.toList b = sign then 0 else 5 from if_pos hk]
    have HT : Hid (Calls Tryz.prog 21 #[.slice a1 pub.length c1, .string s, vb] w fun e w' => (∃ r, e = .returned (.tuple #[r, .int .i64 0]) ∧ Rd w' r (sigB pub s.data.toList b)) ∧ Kp w w') :=
      signature_any _ s vb _ b w hu hb hs hbl (by omega)
    generalize sigB pub s.data.toList b = T at *
    have HV : Hid (∀ W v, Kp w W → Rd W v T → Calls Tryz.prog 22 #[v, vs] W fun e w' => e = .returned (.bool (decide (T = sign))) ∧ Kp W w') := fun W v hW hT => mac_same v vs T sign W hT (hv.kp hW)
    have hif : (if T = sign then (0 : Int) else 5) = if decide (T = sign) then 0 else 5 := by simp
    rw [hif]
    generalize decide (T = sign) = bb at *
    rw [hk] at HT p1 ⊢
    clear hu hb hv hs hbl hk hif
    go_enter Tryz.func12, Tryz.ntmps12
    go_wp2_with fail
    refine HT.out.mono ?_; rintro _ w1 ⟨⟨t, rfl, r1⟩, k1⟩
    have K1 := Lib.hid k1
    have R1 := Lib.hid r1
    clear HT r1 k1
    go_wp2_with fail
    refine (HV.out _ _ K1.out R1.out).mono ?_; rintro _ w2 ⟨rfl, k2⟩
    have K2 := Lib.hid (K1.out.trans k2)
    clear HV k2 R1 K1
    cases bb
    · go_wp2_with fail
      go_ret
      exact ⟨rfl, K2.out⟩
    · go_wp2_with fail
      go_ret
      exact ⟨rfl, K2.out⟩
  · rw [show verE pub s.data.toList b sign = 1 from if_neg hk]
    have hb2 : ((pub.length : Int) == 32) = false := beq_eq_false_iff_ne.2 (by omega)
    have hb3 : ¬ (pub.length : Int) = 32 := by omega
    go_enter Tryz.func12, Tryz.ntmps12
    go_wp2_with fail
    go_ret
    exact ⟨rfl, Kp.refl _⟩

set_option maxHeartbeats 1000000 in
theorem shared_yes (u v i : Value) (pub half info : List UInt8) (w : World) (hu : Rd w u pub) (hv : Rd w v half) (hi : Rd w i info) (hp : pub.length = 32) (hh : half.length = 32) (hil : info.length ≤ 1400) :
    Calls Tryz.prog 13 #[u, v, i] w fun e w' => (∃ a b, e = .returned (.tuple #[a, b, .int .i64 0]) ∧ Rd w' a (wkB pub half info) ∧ Rd w' b (wnB pub half info)) ∧ Kp w w' := by
  obtain ⟨a1, c1, rfl, p1, s1⟩ := hu.shape
  obtain ⟨a2, c2, rfl, p2, s2⟩ := hv.shape
  obtain ⟨a3, n3, c3, rfl⟩ := hi.sl
  have HM : Hid (Calls Tryz.prog 23 #[.slice a1 pub.length c1, .slice a2 half.length c2] w fun e w' => (∃ a c, e = .returned (.slice a 32 c) ∧ Ow 5 w' w.heap.size (.slice a 32 c) (secB pub half)) ∧ Kp w w') := mac_sum _ _ pub half w hu hv (by omega) (by omega)
  have hsl : (secB pub half).length = 32 := macB_length _ _
  have H1 : Hid (∀ W s, Kp w W → Rd W s (secB pub half) → Calls Tryz.prog 20 #[.agg #[s, .slice a3 n3 c3], .string ⟨#[107, 101, 121]⟩, .int .i64 32] W fun e w' => (∃ r, e = .returned (.tuple #[r, .int .i64 0]) ∧ Rd w' r (wkB pub half info)) ∧ Kp W w') := fun W s hW hs =>
    sig_key s _ ⟨#[107, 101, 121]⟩ _ info 32 W hs (hi.kp hW) (by decide) hil (by omega) (by omega)
  have H2 : Hid (∀ W s, Kp w W → Rd W s (secB pub half) → Calls Tryz.prog 20 #[.agg #[s, .slice a3 n3 c3], .string ⟨#[110, 111, 110, 99, 101]⟩, .int .i64 12] W fun e w' => (∃ r, e = .returned (.tuple #[r, .int .i64 0]) ∧ Rd w' r (wnB pub half info)) ∧ Kp W w') := fun W s hW hs =>
    sig_key s _ ⟨#[110, 111, 110, 99, 101]⟩ _ info 12 W hs (hi.kp hW) (by decide) hil (by omega) (by omega)
  rw [hp, hh] at HM
  rw [hp] at p1 ⊢
  rw [hh] at p2 ⊢
  clear hu hv hi hp hh hil hsl
  have hmf : ∀ (fn : Fn) (first cap : Array Value) (w : World), (Instr.makeFunc fn first cap).run Tryz.prog w = .ok (.func fn first cap) w := fun _ _ _ _ => rfl
  go_enter Tryz.func13, Tryz.ntmps13
  go_wp2_with fail
  refine HM.out.mono ?_; rintro _ w1 ⟨⟨x, y, rfl, o1⟩, k1⟩
  have K1 := Lib.hid k1
  have R1 := Lib.hid o1.rd
  clear HM o1 k1
  go_wp2_with fail
  refine (H1.out _ _ K1.out R1.out).mono ?_; rintro _ w2 ⟨⟨a, rfl, r2⟩, k2⟩
  have K2 := Lib.hid (K1.out.trans k2)
  have R2 := Lib.hid r2
  have R1 := Lib.hid (R1.out.kp k2)
  clear H1 r2 k2 K1
  go_wp2_with fail
  refine (H2.out _ _ K2.out R1.out).mono ?_; rintro _ w3 ⟨⟨b, rfl, r3⟩, k3⟩
  have K3 := Lib.hid (K2.out.trans k3)
  have R3 := Lib.hid r3
  have R2 := Lib.hid (R2.out.kp k3)
  clear H2 r3 k3 K2
  go_wp2_with fail
  go_ret3
  exact ⟨⟨_, _, rfl, R2.out, R3.out⟩, K3.out⟩

set_option maxHeartbeats 1000000 in
theorem shared_no (u v i : Value) (pub half : List UInt8) (w : World) (hu : Rd w u pub) (hv : Rd w v half) (hno : ¬ (pub.length = 32 ∧ half.length = 32)) :
    Calls Tryz.prog 13 #[u, v, i] w fun e w' => e = .returned (.tuple #[.slice none 0 0, .slice none 0 0, .int .i64 1]) ∧ Kp w w' := by
  obtain ⟨a1, c1, rfl, p1, s1⟩ := hu.shape
  obtain ⟨a2, c2, rfl, p2, s2⟩ := hv.shape
  by_cases hp : pub.length = 32
  · have hh : ¬ half.length = 32 := fun h => hno ⟨hp, h⟩
    have hb2 : ((half.length : Int) == 32) = false := beq_eq_false_iff_ne.2 (by omega)
    have hb3 : ¬ (half.length : Int) = 32 := by omega
    rw [hp] at p1 ⊢
    clear hu hv hp hno
    go_enter Tryz.func13, Tryz.ntmps13
    go_wp2_with fail
    go_ret3
    exact ⟨rfl, Kp.refl _⟩
  · have hb2 : ((pub.length : Int) == 32) = false := beq_eq_false_iff_ne.2 (by omega)
    have hb3 : ¬ (pub.length : Int) = 32 := by omega
    clear hu hv hno
    go_enter Tryz.func13, Tryz.ntmps13
    go_wp2_with fail
    go_ret3
    exact ⟨rfl, Kp.refl _⟩

set_option maxHeartbeats 2000000 in
theorem sigWrap_any (u1 u2 u3 u4 : Value) (pub once info b : List UInt8) (w : World) (h1 : Rd w u1 pub) (h2 : Rd w u2 once) (h3 : Rd w u3 info) (h4 : Rd w u4 b) (hil : info.length ≤ 1400) (hbl : b.length ≤ 1600) :
    Calls Tryz.prog 5 #[u1, u2, u3, u4] w fun e w' => (∃ x y, e = .returned (.tuple #[x, y, .int .i64 (wrapE pub once)]) ∧ Rd w' x (wrapH pub once) ∧ Rd w' y (wrapR pub once info b)) ∧ Kp w w' := by
  have HP := Lib.hid (sigPublic_any u2 once w h2)
  by_cases ho : once.length = 32
  · rw [(pub_yes ho).1, (pub_yes ho).2] at HP
    by_cases hp : pub.length = 32
    · obtain ⟨e1, e2, e3⟩ := wrap_yes (pub := pub) (once := once) info b ⟨ho, hp⟩
      rw [e1, e2, e3]
      have HK : Hid (∀ W v, Kp w W → Rd W v (pubB once) → Calls Tryz.prog 13 #[u1, v, u3] W fun e w' => (∃ a b, e = .returned (.tuple #[a, b, .int .i64 0]) ∧ Rd w' a (wkB pub (pubB once) info) ∧ Rd w' b (wnB pub (pubB once) info)) ∧ Kp W w') := fun W v hW hv =>
        shared_yes u1 v u3 pub _ info W (h1.kp hW) hv (h3.kp hW) hp (pubB_length _) hil
      have HS : Hid (∀ W k n, Kp w W → Rd W k (wkB pub (pubB once) info) → Rd W n (wnB pub (pubB once) info) → Calls Tryz.prog 14 #[k, n, .slice none 0 0, u4] W fun e w' => (∃ r, e = .returned (.tuple #[r, .int .i64 0]) ∧ Rd w' r (wrapped pub (pubB once) info b)) ∧ Kp W w') := fun W k n hW hk hn => by
        have := sealSeal_any k n (.slice none 0 0) u4 _ _ [] b W hk hn (rd_nil W) (h4.kp hW) (by simp; omega)
        rwa [show sealE (wkB pub (pubB once) info) (wnB pub (pubB once) info) = 0 from if_pos (wk_ok _ _ _), show sealR (wkB pub (pubB once) info) (wnB pub (pubB once) info) [] b = wrapped pub (pubB once) info b from if_pos (wk_ok _ _ _)] at this
      clear h1 h2 h3 h4 hil hbl ho hp e1 e2 e3
      go_enter Tryz.func5, Tryz.ntmps5
      go_wp2_with fail
      refine HP.out.mono ?_; rintro _ w1 ⟨⟨p, rfl, r1⟩, k1⟩
      have K1 := Lib.hid k1
      have R1 := Lib.hid r1
      clear HP r1 k1
      go_wp2_with fail
      refine (HK.out _ _ K1.out R1.out).mono ?_; rintro _ w2 ⟨⟨k, n, rfl, r2, r3⟩, k2⟩
      have K2 := Lib.hid (K1.out.trans k2)
      have R1 := Lib.hid (R1.out.kp k2)
      have R2 := Lib.hid r2
      have R3 := Lib.hid r3
      clear HK r2 r3 k2 K1
      go_wp2_with fail
      refine (HS.out _ _ _ K2.out R2.out R3.out).mono ?_; rintro _ w3 ⟨⟨o, rfl, r4⟩, k3⟩
      have K3 := Lib.hid (K2.out.trans k3)
      have R1 := Lib.hid (R1.out.kp k3)
      have R4 := Lib.hid r4
      clear HS r4 k3 K2 R2 R3
      go_wp2_with fail
      go_ret3
      exact ⟨⟨_, _, rfl, R1.out, R4.out⟩, K3.out⟩
    · obtain ⟨e1, e2, e3⟩ := wrap_no (pub := pub) (once := once) info b (fun h => hp h.2)
      rw [e1, e2, e3]
      have HK : Hid (∀ W v, Kp w W → Rd W v (pubB once) → Calls Tryz.prog 13 #[u1, v, u3] W fun e w' => e = .returned (.tuple #[.slice none 0 0, .slice none 0 0, .int .i64 1]) ∧ Kp W w') := fun W v hW hv =>
        shared_no u1 v u3 pub _ W (h1.kp hW) hv (fun h => hp h.1)
      clear h1 h2 h3 h4 hil hbl ho hp e1 e2 e3
      go_enter Tryz.func5, Tryz.ntmps5
      go_wp2_with fail
      refine HP.out.mono ?_; rintro _ w1 ⟨⟨p, rfl, r1⟩, k1⟩
      have K1 := Lib.hid k1
      have R1 := Lib.hid r1
      clear HP r1 k1
      go_wp2_with fail
      refine (HK.out _ _ K1.out R1.out).mono ?_; rintro _ w2 ⟨rfl, k2⟩
      have K2 := Lib.hid (K1.out.trans k2)
      clear HK k2 K1 R1
      go_wp2_with fail
      go_ret3
      exact ⟨⟨_, _, rfl, rd_nil _, rd_nil _⟩, K2.out⟩
  · obtain ⟨e1, e2, e3⟩ := wrap_no (pub := pub) (once := once) info b (fun h => ho h.1)
    rw [e1, e2, e3]
    rw [(pub_no ho).1, (pub_no ho).2] at HP
    clear h1 h2 h3 h4 hil hbl ho e1 e2 e3
    go_enter Tryz.func5, Tryz.ntmps5
    go_wp2_with fail
    refine HP.out.mono ?_; rintro _ w1 ⟨⟨p, rfl, r1⟩, k1⟩
    clear HP r1
    go_wp2_with fail
    go_ret3
    exact ⟨⟨_, _, rfl, rd_nil _, rd_nil _⟩, k1⟩

set_option maxHeartbeats 2000000 in
theorem sigUnwrap_any (u1 u2 u3 u4 : Value) (seed half info b : List UInt8) (w : World) (h1 : Rd w u1 seed) (h2 : Rd w u2 half) (h3 : Rd w u3 info) (h4 : Rd w u4 b) (hil : info.length ≤ 1400) (hbl : b.length ≤ 1600) :
    Calls Tryz.prog 7 #[u1, u2, u3, u4] w fun e w' => (∃ x, e = .returned (.tuple #[x, .int .i64 (unE seed half info b)]) ∧ Rd w' x (unR seed half info b)) ∧ Kp w w' := by
  have HP := Lib.hid (sigPublic_any u1 seed w h1)
  by_cases ho : seed.length = 32
  · rw [(pub_yes ho).1, (pub_yes ho).2] at HP
    by_cases hp : half.length = 32
    · obtain ⟨e1, e2⟩ := un_yes (seed := seed) (half := half) info b ⟨ho, hp⟩
      rw [e1, e2]
      have HK : Hid (∀ W v, Kp w W → Rd W v (pubB seed) → Calls Tryz.prog 13 #[v, u2, u3] W fun e w' => (∃ a b, e = .returned (.tuple #[a, b, .int .i64 0]) ∧ Rd w' a (wkB (pubB seed) half info) ∧ Rd w' b (wnB (pubB seed) half info)) ∧ Kp W w') := fun W v hW hv =>
        shared_yes v u2 u3 _ half info W hv (h2.kp hW) (h3.kp hW) (pubB_length _) hp hil
      have HS : Hid (∀ W k n, Kp w W → Rd W k (wkB (pubB seed) half info) → Rd W n (wnB (pubB seed) half info) → Calls Tryz.prog 18 #[k, n, .slice none 0 0, u4] W fun e w' => (∃ r, e = .returned (.tuple #[r, .int .i64 (openE (wkB (pubB seed) half info) (wnB (pubB seed) half info) [] b)]) ∧ Rd w' r (openR (wkB (pubB seed) half info) (wnB (pubB seed) half info) [] b)) ∧ Kp W w') := fun W k n hW hk hn =>
        sealOpen_any k n (.slice none 0 0) u4 _ _ [] b W hk hn (rd_nil W) (h4.kp hW) (by simp; omega)
      generalize openE (wkB (pubB seed) half info) (wnB (pubB seed) half info) [] b = E at *
      generalize openR (wkB (pubB seed) half info) (wnB (pubB seed) half info) [] b = R at *
      clear h1 h2 h3 h4 hil hbl ho hp e1 e2
      go_enter Tryz.func7, Tryz.ntmps7
      go_wp2_with fail
      refine HP.out.mono ?_; rintro _ w1 ⟨⟨p, rfl, r1⟩, k1⟩
      have K1 := Lib.hid k1
      have R1 := Lib.hid r1
      clear HP r1 k1
      go_wp2_with fail
      refine (HK.out _ _ K1.out R1.out).mono ?_; rintro _ w2 ⟨⟨k, n, rfl, r2, r3⟩, k2⟩
      have K2 := Lib.hid (K1.out.trans k2)
      have R2 := Lib.hid r2
      have R3 := Lib.hid r3
      clear HK r2 r3 k2 K1 R1
      go_wp2_with fail
      refine (HS.out _ _ _ K2.out R2.out R3.out).mono ?_; rintro _ w3 ⟨⟨o, rfl, r4⟩, k3⟩
      have K3 := Lib.hid (K2.out.trans k3)
      have R4 := Lib.hid r4
      clear HS r4 k3 K2 R2 R3
      go_wp2_with fail
      go_ret2
      exact ⟨⟨_, rfl, R4.out⟩, K3.out⟩
    · obtain ⟨e1, e2⟩ := un_no (seed := seed) (half := half) info b (fun h => hp h.2)
      rw [e1, e2]
      have HK : Hid (∀ W v, Kp w W → Rd W v (pubB seed) → Calls Tryz.prog 13 #[v, u2, u3] W fun e w' => e = .returned (.tuple #[.slice none 0 0, .slice none 0 0, .int .i64 1]) ∧ Kp W w') := fun W v hW hv =>
        shared_no v u2 u3 _ half W hv (h2.kp hW) (fun h => hp h.2)
      clear h1 h2 h3 h4 hil hbl ho hp e1 e2
      go_enter Tryz.func7, Tryz.ntmps7
      go_wp2_with fail
      refine HP.out.mono ?_; rintro _ w1 ⟨⟨p, rfl, r1⟩, k1⟩
      have K1 := Lib.hid k1
      have R1 := Lib.hid r1
      clear HP r1 k1
      go_wp2_with fail
      refine (HK.out _ _ K1.out R1.out).mono ?_; rintro _ w2 ⟨rfl, k2⟩
      have K2 := Lib.hid (K1.out.trans k2)
      clear HK k2 K1 R1
      go_wp2_with fail
      go_ret2
      exact ⟨⟨_, rfl, rd_nil _⟩, K2.out⟩
  · obtain ⟨e1, e2⟩ := un_no (seed := seed) (half := half) info b (fun h => ho h.1)
    rw [e1, e2]
    rw [(pub_no ho).1, (pub_no ho).2] at HP
    clear h1 h2 h3 h4 hil hbl ho e1 e2
    go_enter Tryz.func7, Tryz.ntmps7
    go_wp2_with fail
    refine HP.out.mono ?_; rintro _ w1 ⟨⟨p, rfl, r1⟩, k1⟩
    clear HP r1
    go_wp2_with fail
    go_ret2
    exact ⟨⟨_, rfl, rd_nil _⟩, k1⟩
end Go.Proofs.YtdcbljfacmidjaaGreat

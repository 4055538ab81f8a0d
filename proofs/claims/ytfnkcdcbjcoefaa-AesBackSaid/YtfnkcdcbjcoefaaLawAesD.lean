/- AesBack (written by gen/aes2.py). -/
import Derived.Test.YtfnkcdcbjcoefaaLawAesA
import Derived.Deep.RegionHeld3
set_option linter.unusedVariables false
set_option linter.unusedSimpArgs false
namespace Go.Proofs.Ytfnkcdcbjcoefaa
open Go.RowKit

theorem xor_back (x y : UInt8) : x ^^^ y ^^^ y = x := by rw [UInt8.xor_assoc, UInt8.xor_self, UInt8.xor_zero]
/-- The stream of a stream is the bytes. -/
theorem strL_twice (K nonce b : List UInt8) : strL K nonce (strL K nonce b) = b := by
  refine get_ext b.length _ _ (by rw [strL_length, strL_length]) rfl fun j hj => ?_
  rw [strL_get _ _ _ _ (by rw [strL_length]; exact hj)]
  unfold strF
  rw [strL_get _ _ _ _ hj]
  unfold strF
  rw [xor_back]
/-- Fewer bytes are the beginning of more. -/
theorem strL_begins (K nonce b : List UInt8) (k : Nat) (hk : k ≤ b.length) : strL K nonce (b.take k) = (strL K nonce b).take k := by
  have h1 : (b.take k).length = k := by rw [List.length_take]; omega
  refine get_ext k _ _ (by rw [strL_length, h1]) (by rw [List.length_take, strL_length]; omega) fun j hj => ?_
  rw [strL_get _ _ _ _ (by omega)]
  have h2 : ((strL K nonce b).take k).getD j 0 = (strL K nonce b).getD j 0 := by rw [List.getD_eq_getElem?_getD, List.getElem?_take_of_lt hj, List.getD_eq_getElem?_getD]
  rw [h2, strL_get _ _ _ _ (by omega)]
  unfold strF
  rw [List.getD_eq_getElem?_getD, List.getElem?_take_of_lt hj, ← List.getD_eq_getElem?_getD]

set_option maxRecDepth 100000 in
set_option maxHeartbeats 8000000 in
theorem aesBack_walk (va vb vc : Value) (la lb lc : List UInt8) (cut : Nat) (w : World) (ha : Rd w va la) (hb : Rd w vb lb) (hc : Rd w vc lc) (hcut : (cut : Int) ≤ 65535) :
    Calls Try.prog 7 #[.agg #[va, vb, vc, .int .u16 cut]] w (Yes w) := by
  have U := u8
  obtain ⟨a1, c1, rfl, p1, s1⟩ := ha.shape
  obtain ⟨a2, c2, rfl, p2, s2⟩ := hb.shape
  obtain ⟨a3, c3, rfl, p3, s3⟩ := hc.shape
  by_cases h0 : la.length = 16
  · by_cases h1 : lb.length = 12
    · by_cases h2 : 300 < lc.length
      · have q0 : 300 < (lc.length : Int) := by omega
        rw [h0, h1]
        go_enter Try.func7, Try.ntmps7
        go_wp2_with fail
        refine (shownAes_any _).mono ?_
        rintro e w1 ⟨rfl, k1⟩
        have k1' := ((Kp.refl w).alloc _).trans k1
        go_wp2_with fail
        go_ret
        exact ⟨rfl, k1'⟩
      · have q0 : ¬ 300 < (lc.length : Int) := by omega
        have hl : lc.length ≤ 1000000 := by omega
        have e1 : strE la lb = 0 := if_pos ⟨h0, h1⟩
        have e2 : ∀ x, strR la lb x = strL (keysL la) lb x := fun x => if_pos ⟨h0, h1⟩
        have HST : Hid (∀ W v x, Kp w W → Rd W v x → x.length ≤ 1000000 → Calls Try.prog 19 #[.slice a1 la.length c1, .slice a2 lb.length c2, v] W fun e w' => (∃ r, e = .returned (.tuple #[r, .int .i64 0]) ∧ Rd w' r (strL (keysL la) lb x)) ∧ Kp W w') := fun W v x hW hv hx => by
          rw [← e1, ← e2]
          exact aesStream_any _ _ v la lb x W (ha.kp hW) (hb.kp hW) hv hx
        have HBK : Hid (∀ W v x, Kp w W → Rd W v x → x.length = 16 → Calls Try.prog 17 #[.slice a1 la.length c1, v] W fun e w' => (∃ r, e = .returned (.tuple #[r, .int .i64 0]) ∧ Rd w' r (lockL (keysL la) x)) ∧ Kp W w') := fun W v x hW hv hx => by
          have := aesBlock_any _ v la x W (ha.kp hW) hv
          rwa [show blkE la x = 0 from if_pos ⟨h0, hx⟩, show blkR la x = lockL (keysL la) x from if_pos ⟨h0, hx⟩] at this
        have HTW := Lib.hid (strL_twice (keysL la) lb lc)
        have HBG := Lib.hid (strL_begins (keysL la) lb lc)
        have HSL := Lib.hid (strL_length (keysL la) lb lc)
        have HSF : Hid (∀ j, j < lc.length → (strL (keysL la) lb lc).getD j 0 = lc.getD j 0 ^^^ (lockL (keysL la) (ctrB lb (j / 16))).getD (j % 16) 0) := fun j hj => strL_get _ _ _ _ hj
        have HLL : Hid (∀ x, (lockL (keysL la) x).length = 16) := lockL_length (keysL la)
        have HN := Lib.hid h1
        have HB2 := Lib.hid hb
        have HC := Lib.hid hc
        rw [h0] at HST HBK p1 ⊢
        rw [h1] at HST HB2 p2 ⊢
        generalize keysL la = K at *
        obtain ⟨n, hn⟩ : ∃ n, lc.length = n := ⟨_, rfl⟩
        have HLC := Lib.hid hn
        rw [hn] at HSL HSF HC HBG p3 q0 hl ⊢
        obtain ⟨k, hk⟩ : ∃ k, cut % (n + 1) = k := ⟨_, rfl⟩
        have hkn : k ≤ n := by have := Nat.mod_lt cut (show 0 < n + 1 by omega); omega
        have i1 : IntKind.i64.wrap (cut : Int) = (cut : Int) := IntWalk.i64_in _ (by omega)
        have i2 : IntKind.i64.wrap ((n : Int) + 1) = (n : Int) + 1 := IntWalk.i64_in _ (by omega)
        have i3 : (cut : Int) % ((n : Int) + 1) = (k : Int) := by rw [← hk, Int.natCast_emod]; rfl
        have i4 : (cut : Int).tmod ((n : Int) + 1) = (k : Int) := by rw [Int.tmod_eq_emod_of_nonneg (by omega)]; exact i3
        have i5 : (k : Int) ≤ (n : Int) := by omega
        have i6 : (n : Int) + 1 ≠ 0 := by omega
        have i7 : ((n : Int) + 1 == 0) = false := beq_eq_false_iff_ne.2 i6
        have i8 : (k : Int) ≤ (c3 : Int) := by omega
        clear ha hb hc e1 e2 h0 h1 h2 hn hk
        go_enter Try.func7, Try.ntmps7
        go_wp2_with fail
        refine (shownAes_any _).mono ?_
        rintro e w1 ⟨rfl, k1⟩
        have k1' := ((Kp.refl w).alloc _).trans k1
        have K1 := Lib.hid k1'
        clear k1 k1'
        go_wp2_with fail
        refine (HST.out w1 _ lc K1.out (HC.out.kp K1.out) (by rw [HLC.out]; exact hl)).mono ?_
        rintro e w2 ⟨⟨x, rfl, r2⟩, k2⟩
        obtain ⟨ax, cx, rfl, z1, z2⟩ := r2.shape
        have R2 := Lib.hid r2
        rw [HSL.out] at R2 z1 ⊢
        have K2 := Lib.hid (K1.out.trans k2)
        clear r2 k2
        go_wp2_with fail
        refine (HST.out w2 _ (strL K lb lc) K2.out R2.out (by rw [HSL.out]; exact hl)).mono ?_
        rw [HTW.out]
        rintro e w3 ⟨⟨y, rfl, r3⟩, k3⟩
        obtain ⟨ay, cy, rfl, _, _⟩ := r3.shape
        rw [HLC.out] at r3 ⊢
        have R3 := Lib.hid r3
        have K3 := Lib.hid (K2.out.trans k3)
        have KX3 := Lib.hid k3
        clear r3 k3
        go_wp2_with fail
        refine (HST.out w3 _ (lc.take k) K3.out ((HC.out.kp K3.out).pre5 k hkn) (by rw [List.length_take]; omega)).mono ?_
        rw [HBG.out k hkn]
        rintro e w4 ⟨⟨z, rfl, r4⟩, k4⟩
        have R4 := Lib.hid r4
        have K4 := Lib.hid (K3.out.trans k4)
        have RX4 := Lib.hid ((R2.out.kp KX3.out).kp k4)
        have RY4 := Lib.hid (R3.out.kp k4)
        have i9 : (k : Int) ≤ (cx : Int) := by omega
        clear r4 k4 i1 i3 i4
        go_wp2_with fail
        refine (same_yes5 _ _ lc w4 RY4.out (HC.out.kp K4.out)).mono ?_
        rintro e w5 ⟨rfl, rfl⟩
        go_wp2_with fail
        refine (same_yes5 _ _ ((strL K lb lc).take k) w4 R4.out (RX4.out.pre5 k hkn)).mono ?_
        rintro e w5 ⟨rfl, rfl⟩
        clear R4 RY4 R3 R2 HTW HBG HST
        go_wp2_with fail
        go_loopw [15] (fun p wr => ∃ q : Nat, 16 * q ≤ n + 15 ∧ p = .int .i64 (16 * q : Nat) ∧ Kp w4 wr) (fun p _ => n + 16 - (intOf p).toNat)
        case atStart => exact ⟨0, by omega, rfl, Kp.refl _⟩
        case round =>
          obtain ⟨q, hq, rfl, hkr⟩ := hrel
          obtain ⟨f, hf⟩ : ∃ f, 16 * q = f := ⟨_, rfl⟩
          rw [hf] at hq ⊢
          by_cases hlt : f < n
          · have q1 : (f : Int) < (n : Int) := by omega
            have e1 : (f : Int).tdiv 16 = (q : Int) := by rw [Int.tdiv_eq_ediv_of_nonneg (by omega)]; omega
            have e2 : (f : Int) / 16 = (q : Int) := by omega
            have e3 : IntKind.i64.wrap ((q : Int) + 1) = (q : Int) + 1 := IntWalk.i64_in _ (by omega)
            have e4 : IntKind.i64.wrap (q : Int) = (q : Int) := IntWalk.i64_in _ (by omega)
            have e5 : IntKind.i64.wrap ((f : Int) + 16) = (f : Int) + 16 := IntWalk.i64_in _ (by omega)
            have hnk : numOk ((q : Int) + 1) 4 := by
              unfold numOk
              refine ⟨by omega, by omega, by omega, ?_⟩
              show (q : Int) + 1 < 4294967296
              omega
            have hnum := refNum_any ((q : Int) + 1) 4 wr (by omega)
            rw [(num_yes hnk).1, (num_yes hnk).2, show ((4 : Int)).toNat = 4 from rfl, show ((q : Int) + 1).toNat = q + 1 by omega] at hnum
            have HNUM := Lib.hid hnum
            have HBL := Lib.hid (be_length 4 (q + 1))
            have HCL : Hid ((ctrB lb q).length = 16) := by rw [Hid, ctrB_length, HN.out]
            have HCT : Hid (lb ++ be 4 (q + 1) = ctrB lb q) := rfl
            have KR := Lib.hid hkr
            have KW := Lib.hid (K4.out.trans hkr)
            clear hnum hnk hkr
            go_wp2_with fail
            refine HNUM.out.mono ?_; rintro _ w5 ⟨v5, rfl, ho5, k5⟩
            have h5 := ho5.rd
            clear HNUM ho5
            go_wp2_with (at_builtin; first
              | (refine wpList_append_ow (o := ⟨some 121, _, _, _, _, _⟩) U rfl _ _ rfl w5.heap.size _ [] rfl (Ow.lit w5 _ _ 0 #[] [] (Nat.le_refl _) rfl (by omega) rfl) _ lb rfl (HB2.out.kp ((KW.out.trans k5).alloc _)) (by rw [HN.out]; simp) (by simp) ?_; intro v6 w6 ho6 hg6 _; have k6 : Kp w5 w6 := Kp.grown ((Kp.refl w5).alloc _) hg6 (fun k e => by cases e; exact Nat.le_refl _); have ho6' : Ow 5 w6 w5.heap.size v6 lb := (by simpa using ho6); have h56 := h5.kp k6; clear ho6 hg6)
              | (refine wpList_append_ow (o := ⟨some 123, _, _, _, _, _⟩) U rfl _ _ rfl w5.heap.size v6 lb rfl ho6' _ (be 4 (q + 1)) rfl h56 (by rw [HN.out, HBL.out]; decide) k6.size ?_; intro v7 w7 ho7 hg7 _; have k7 : Kp w5 w7 := Kp.grown k6 hg7 ho6'.own_ge; rw [HCT.out] at ho7; clear hg7 ho6' h56))
            have k57 := k5.trans k7
            refine (HBK.out w7 v7 (ctrB lb q) (KW.out.trans k57) ho7.rd HCL.out).mono ?_; rintro _ w9 ⟨⟨vs, rfl, r9⟩, k9⟩
            obtain ⟨a9, c9, rfl, y1, y2⟩ := r9.shape
            have HS9 := Lib.hid r9
            rw [HLL.out] at HS9 y1 ⊢
            have k49 := KR.out.trans (k57.trans k9)
            have HK9 := Lib.hid k49
            have HX9 := Lib.hid (RX4.out.kp k49)
            have HB9 := Lib.hid ((HC.out.kp K4.out).kp k49)
            clear r9 k9 k57 k7 k6 k5 ho7 h5 k49 KR KW
            by_cases hd : f + 16 ≤ n
            · have d1 : (f : Int) + 16 ≤ (n : Int) := by omega
              clear hlt
              go_wp2_with fail
              go_loopw [20] (fun p wr => ∃ i : Nat, f ≤ i ∧ i ≤ (f + 16) ∧ p = .int .i64 i ∧ Kp w9 wr) (fun p _ => (f + 16) - (intOf p).toNat)
              case atStart => exact ⟨f, by omega, by omega, rfl, Kp.refl _⟩
              case round =>
                obtain ⟨i, hi1, hi2, rfl, hkp⟩ := hrel
                by_cases hil : i < (f + 16)
                · have d2 : (i : Int) < ((f : Int) + 16) := by omega
                  obtain ⟨j, hj⟩ : ∃ j, i - f = j := ⟨_, rfl⟩
                  have hj16 : j < 16 := by omega
                  have d3 : (i : Int) - (f : Int) = (j : Int) := by omega
                  have d4 : IntKind.i64.wrap (j : Int) = j := IntWalk.i64_in _ (by omega)
                  have d5 : (j : Int) < 16 := by omega
                  have d6 : (i : Int) < (n : Int) := by omega
                  have cx := (HX9.out.kp hkp).at i (by omega)
                  obtain ⟨bx, ox, rfl, _, cx⟩ := cx
                  have cb := (HB9.out.kp hkp).at i (by omega)
                  obtain ⟨bb, ob, rfl, _, cb⟩ := cb
                  have cs := (HS9.out.kp hkp).at j hj16
                  obtain ⟨bs, os, rfl, _, cs⟩ := cs
                  have c1 := cx i (by omega)
                  have c2 := cb i (by omega)
                  have c3 := cs j hj16
                  have hx := b8_xor (lc.getD i 0) ((lockL K (ctrB lb q)).getD j 0)
                  have hsf := HSF.out i (by omega)
                  rw [show i / 16 = q by omega, show i % 16 = j by omega] at hsf
                  rw [← hsf] at hx
                  generalize (strL K lb lc).getD i 0 = Y at *
                  generalize lc.getD i 0 = X1 at *
                  generalize (lockL K (ctrB lb q)).getD j 0 = X2 at *
                  clear cx cb cs hsf hj
                  go_wp2_with fail
                  go_region
                  all_goals
                    go_wp2_with fail
                    go_roundw
                    case rel => exact ⟨i + 1, by omega, by omega, by go_num, hkp.drew⟩
                    case measure => simp [intOf]; omega
                · obtain rfl : i = (f + 16) := by omega
                  have hk9 := HK9.out.trans hkp
                  have HF := Lib.hid hf
                  have HQ := Lib.hid (show 16 * (q + 1) ≤ n + 15 by omega)
                  clear hf
                  go_wp2_with fail
                  go_roundw
                  case rel => exact ⟨q + 1, HQ.out, congrArg (Value.int .i64) (by have := HF.out; omega), hk9⟩
                  case measure => have := HF.out; have := HQ.out; simp [intOf]; omega
            · have d1 : ¬ (f : Int) + 16 ≤ (n : Int) := by omega
              go_wp2_with fail
              go_loopw [20] (fun p wr => ∃ i : Nat, f ≤ i ∧ i ≤ n ∧ p = .int .i64 i ∧ Kp w9 wr) (fun p _ => n - (intOf p).toNat)
              case atStart => exact ⟨f, by omega, by omega, rfl, Kp.refl _⟩
              case round =>
                obtain ⟨i, hi1, hi2, rfl, hkp⟩ := hrel
                by_cases hil : i < n
                · have d2 : (i : Int) < (n : Int) := by omega
                  obtain ⟨j, hj⟩ : ∃ j, i - f = j := ⟨_, rfl⟩
                  have hj16 : j < 16 := by omega
                  have d3 : (i : Int) - (f : Int) = (j : Int) := by omega
                  have d4 : IntKind.i64.wrap (j : Int) = j := IntWalk.i64_in _ (by omega)
                  have d5 : (j : Int) < 16 := by omega
                  have d6 : (i : Int) < (n : Int) := by omega
                  have cx := (HX9.out.kp hkp).at i (by omega)
                  obtain ⟨bx, ox, rfl, _, cx⟩ := cx
                  have cb := (HB9.out.kp hkp).at i (by omega)
                  obtain ⟨bb, ob, rfl, _, cb⟩ := cb
                  have cs := (HS9.out.kp hkp).at j hj16
                  obtain ⟨bs, os, rfl, _, cs⟩ := cs
                  have c1 := cx i (by omega)
                  have c2 := cb i (by omega)
                  have c3 := cs j hj16
                  have hx := b8_xor (lc.getD i 0) ((lockL K (ctrB lb q)).getD j 0)
                  have hsf := HSF.out i (by omega)
                  rw [show i / 16 = q by omega, show i % 16 = j by omega] at hsf
                  rw [← hsf] at hx
                  generalize (strL K lb lc).getD i 0 = Y at *
                  generalize lc.getD i 0 = X1 at *
                  generalize (lockL K (ctrB lb q)).getD j 0 = X2 at *
                  clear cx cb cs hsf hj
                  go_wp2_with fail
                  go_region
                  all_goals
                    go_wp2_with fail
                    go_roundw
                    case rel => exact ⟨i + 1, by omega, by omega, by go_num, hkp.drew⟩
                    case measure => simp [intOf]; omega
                · obtain rfl : n = i := by omega
                  have hk9 := HK9.out.trans hkp
                  have HF := Lib.hid hf
                  have HQ := Lib.hid (show 16 * (q + 1) ≤ n + 15 by omega)
                  clear hf
                  go_wp2_with fail
                  go_roundw
                  case rel => exact ⟨q + 1, HQ.out, congrArg (Value.int .i64) (by have := HF.out; omega), hk9⟩
                  case measure => have := HF.out; have := HQ.out; simp [intOf]; omega
          · have hq2 : ¬ (f : Int) < (n : Int) := by omega
            have hkf := K4.out.trans hkr
            go_wp2_with fail
            go_ret
            exact ⟨rfl, hkf⟩
    · have q1 : ((lb.length : Int) == 12) = false := beq_eq_false_iff_ne.2 (by omega)
      have q2 : ¬ (lb.length : Int) = 12 := by omega
      rw [h0]
      go_enter Try.func7, Try.ntmps7
      go_wp2_with fail
      refine (shownAes_any _).mono ?_
      rintro e w1 ⟨rfl, k1⟩
      have k1' := ((Kp.refl w).alloc _).trans k1
      go_wp2_with fail
      go_ret
      exact ⟨rfl, k1'⟩
  · have q1 : ((la.length : Int) == 16) = false := beq_eq_false_iff_ne.2 (by omega)
    have q2 : ¬ (la.length : Int) = 16 := by omega
    go_enter Try.func7, Try.ntmps7
    go_wp2_with fail
    refine (shownAes_any _).mono ?_
    rintro e w1 ⟨rfl, k1⟩
    have k1' := ((Kp.refl w).alloc _).trans k1
    go_wp2_with fail
    go_ret
    exact ⟨rfl, k1'⟩
end Go.Proofs.Ytfnkcdcbjcoefaa

/- The walk of the law BytTexts. -/
import Derived.Test.YtpaopnjknpoacaaLaws4
namespace Go.Proofs.Ytpaopnjknpoacaa
open Go.RowKit

theorem hexB_isFig (n : Nat) (h : n < 16) : isFig (hexB n) = true ∧ hv (hexB n) = n := hexB_fig ⟨n, h⟩
theorem textB_cons (b : UInt8) (x : List UInt8) : textB (b :: x) = hexB (b.toNat / 16) :: hexB (b.toNat % 16) :: textB x := rfl
theorem textB_all : ∀ x : List UInt8, (textB x).all isFig = true
  | [] => rfl
  | b :: x => by
    have h1 := hexB_isFig (b.toNat / 16) (by have := b.toNat_lt; omega)
    have h2 := hexB_isFig (b.toNat % 16) (by omega)
    rw [textB_cons, List.all_cons, List.all_cons, h1.1, h2.1, textB_all x]
    rfl
theorem pairs_textB : ∀ x : List UInt8, pairs (textB x) = x
  | [] => rfl
  | b :: x => by
    have h1 := hexB_isFig (b.toNat / 16) (by have := b.toNat_lt; omega)
    have h2 := hexB_isFig (b.toNat % 16) (by omega)
    rw [textB_cons, pairs, pairs_textB x, h1.2, h2.2]
    congr 1
    apply UInt8.toNat_inj.1
    have := b.toNat_lt
    simp
    omega
theorem textB_pairs : ∀ s : List UInt8, s.length % 2 = 0 → s.all isFig = true → textB (pairs s) = s
  | [], _, _ => rfl
  | [_], h, _ => by simp at h
  | a :: b :: r, h, h' => by
    rw [List.all_cons, List.all_cons, Bool.and_eq_true, Bool.and_eq_true] at h'
    obtain ⟨ha, hb, hr⟩ := h'
    have h1 := hv_lt ha
    have h2 := hv_lt hb
    have e : (UInt8.ofNat (16 * hv a + hv b)).toNat = 16 * hv a + hv b := by simp; omega
    rw [pairs, textB_cons, textB_pairs r (by simp at h; omega) hr, e, show (16 * hv a + hv b) / 16 = hv a from by omega, show (16 * hv a + hv b) % 16 = hv b from by omega, hexB_hv ha, hexB_hv hb]
theorem by_text (x : List UInt8) : byE (textB x) = 0 ∧ byB (textB x) = x := by
  obtain ⟨e1, e2⟩ := by_yes (s := textB x) ⟨by rw [textB_length]; omega, textB_all x⟩
  exact ⟨e1, by rw [e2, pairs_textB]⟩

set_option maxRecDepth 100000 in
set_option maxHeartbeats 1600000 in
theorem bytTexts_walk (v : Value) (x : List UInt8) (s : ByteArray) (w : World) (h : Rd w v x) :
    Calls Try.prog 7 #[v, .string s] w (Yes w) := by
  obtain ⟨a, c, rfl, hc, hm⟩ := h.shape
  unfold maxLen at hm
  by_cases h53 : x.length ≤ 300 ∧ s.size ≤ 300
  · obtain ⟨h5, h3⟩ := h53
    have d1 : decide ((300 : Int) < x.length) = false := by simp; omega
    have d2 : decide ((300 : Int) < s.size) = false := by simp; omega
    obtain ⟨X1, X2⟩ := by_text x
    obtain ⟨tx, htx⟩ : ∃ tx : ByteArray, tx = ⟨(textB x).toArray⟩ := ⟨_, rfl⟩
    have htxs : (tx.size : Int) = 2 * x.length := by
      have : tx.size = (textB x).length := by rw [htx]; simp [ByteArray.size]
      rw [this, textB_length]; omega
    have htxn : tx.size ≤ 1000 := by omega
    have HTX := Lib.hid htx.symm
    have X1_ : Hid (byE tx.data.toList = 0) := by show _ = _; rw [htx]; exact X1
    have X2_ : Hid (byB tx.data.toList = x) := by show _ = _; rw [htx]; exact X2
    have HTS := Lib.hid htxs
    have hne : ((tx.size : Int) != 2 * (x.length : Int)) = false := by rw [htxs]; simp
    have hne2 : (tx.size : Int) ≤ 2 * (x.length : Int) := by omega
    have hne3 : 2 * (x.length : Int) ≤ tx.size := by omega
    generalize hL : s.data.toList = L at *
    have HL := Lib.hid hL
    have HSZ : Hid (L.length = s.size) := by show _ = _; rw [← hL, Array.length_toList]; rfl
    obtain ⟨ev, hev⟩ : ∃ ev, ev = ((s.size : Int) % 2 == 0) := ⟨_, rfl⟩
    have HEV : Hid (ev = decide (L.length % 2 = 0)) := by
      show _ = _
      rw [hev, HSZ.out, Bool.eq_iff_iff]
      simp
      omega
    have hev' := hev.symm
    clear htx X1 X2 hL hev htxs
    go_enter Try.func7, Try.ntmps7
    go_wp2_with fail
    refine (shown_any _).mono ?_
    rintro e w1 ⟨rfl, k1⟩
    go_wp2_with fail
    refine (text_at _ x _ ((h).kp (k1)) (by omega) tx HTX.out).mono ?_
    rintro e w2 ⟨rfl, k2⟩
    go_wp2_with fail
    refine (bytes_at tx _ (by omega) x 0 X1_.out X2_.out).mono ?_
    rintro e w3 ⟨y, rfl, o3, k3⟩
    go_wp2_with fail
    refine (same_at _ _ x x true _ (h.kp ((k1.trans k2).trans k3)) o3.rd (by simp)).mono ?_
    rintro e w4 ⟨rfl, rfl⟩
    go_wp2_with fail
    refine (bytes_any s _ (by omega)).mono ?_
    rintro e w4 ⟨z, rfl, o4, k4⟩
    rw [HL.out] at o4 ⊢
    go_wp2_with fail
    have K4 := ((k1.trans k2).trans k3).trans k4
    go_loop [11, 12] (fun g i => ∃ k : Nat, k ≤ s.size ∧ i = .int .i64 k ∧ g = .bool (ev && (L.take k).all isFig)) (fun _ i => s.size - (intOf i).toNat)
    case atStart => exact ⟨0, Nat.zero_le _, rfl, by simp⟩
    case round =>
      obtain ⟨k, hk, rfl, rfl⟩ := hrel
      by_cases hlt : k < s.size
      · have hltL : k < L.length := by rw [HSZ.out]; exact hlt
        have hch : L.getD k 0 = s[k] := by rw [← HL.out]; exact getD_bytes s k hlt
        have hst := all_take L k hltL
        rw [hch] at hst
        obtain ⟨gd, hgd⟩ : ∃ gd, gd = (ev && (L.take k).all isFig) := ⟨_, rfl⟩
        have hnx : (ev && (L.take (k + 1)).all isFig) = (gd && isFig s[k]) := by rw [hst, hgd, Bool.and_assoc]
        rw [← hgd]
        have HNX := Lib.hid hnx
        have hkI : (k : Int) < s.size := by omega
        have hif : isFig s[k] = decide (48 ≤ (s[k]).toNat ∧ (s[k]).toNat ≤ 57 ∨ 97 ≤ (s[k]).toNat ∧ (s[k]).toNat ≤ 102) := rfl
        clear hch hst hgd hnx
        cases gd with
        | false =>
          clear hif
          go_wp2_with fail
          go_round
          case rel => exact ⟨k + 1, by omega, by go_num, by rw [HNX.out]; rfl⟩
          case measure => simp [intOf]; omega
        | true =>
          by_cases q1 : 48 ≤ (s[k]).toNat
          · by_cases q2 : (s[k]).toNat ≤ 57
            · have HF : Hid (isFig s[k] = true) := by show _ = _; rw [hif]; simp; omega
              have p1 : (48 : Int) ≤ ((s[k]).toNat : Int) := by omega
              have p2 : ((s[k]).toNat : Int) ≤ 57 := by omega
              clear hif
              go_wp2_with fail
              go_round
              case rel => exact ⟨k + 1, by omega, by go_num, by rw [HNX.out, HF.out]; first | rfl | (simp; omega)⟩
              case measure => simp [intOf]; omega
            · by_cases q3 : 97 ≤ (s[k]).toNat
              · by_cases q4 : (s[k]).toNat ≤ 102
                · have HF : Hid (isFig s[k] = true) := by show _ = _; rw [hif]; simp; omega
                  have p1 : (97 : Int) ≤ ((s[k]).toNat : Int) := by omega
                  have p2 : ((s[k]).toNat : Int) ≤ 102 := by omega
                  clear hif
                  go_wp2_with fail
                  go_round
                  case rel => exact ⟨k + 1, by omega, by go_num, by rw [HNX.out, HF.out]; first | rfl | (simp; omega)⟩
                  case measure => simp [intOf]; omega
                · have HF : Hid (isFig s[k] = false) := by show _ = _; rw [hif]; simp; omega
                  have p1 : (103 : Int) ≤ ((s[k]).toNat : Int) := by omega
                  clear hif
                  go_wp2_with fail
                  go_round
                  case rel => exact ⟨k + 1, by omega, by go_num, by rw [HNX.out, HF.out]; first | rfl | (simp; omega)⟩
                  case measure => simp [intOf]; omega
              · have HF : Hid (isFig s[k] = false) := by show _ = _; rw [hif]; simp; omega
                have p1 : (58 : Int) ≤ ((s[k]).toNat : Int) := by omega
                have p2 : ((s[k]).toNat : Int) ≤ 96 := by omega
                clear hif
                go_wp2_with fail
                go_round
                case rel => exact ⟨k + 1, by omega, by go_num, by rw [HNX.out, HF.out]; first | rfl | (simp; omega)⟩
                case measure => simp [intOf]; omega
          · have HF : Hid (isFig s[k] = false) := by show _ = _; rw [hif]; simp; omega
            have p1 : ((s[k]).toNat : Int) ≤ 47 := by omega
            clear hif
            go_wp2_with fail
            go_round
            case rel => exact ⟨k + 1, by omega, by go_num, by rw [HNX.out, HF.out]; first | rfl | (simp; omega)⟩
            case measure => simp [intOf]; omega
      · have hlen : L.take k = L := List.take_of_length_le (by rw [HSZ.out]; omega)
        rw [hlen]
        by_cases hG : L.length % 2 = 0 ∧ L.all isFig = true
        · obtain ⟨e1, e2⟩ := by_yes hG
          have hev2 : ev = true := by rw [HEV.out]; simp [hG.1]
          have HT := Lib.hid (textB_pairs L hG.1 hG.2)
          rw [e1, hev2, hG.2]
          rw [e2] at o4
          have hps : (pairs L).length ≤ 1000000 := by have := pairs_length L; rw [HSZ.out] at this; omega
          clear hlen hG e1 e2 hev2
          go_wp2_with fail
          refine (text_at _ (pairs L) _ o4.rd (by omega) s ?_).mono ?_
          · rw [HT.out, ← HL.out]
          rintro e w5 ⟨rfl, k5⟩
          go_wp2_with fail
          go_ret
          exact ⟨rfl, K4.trans k5⟩
        · obtain ⟨e1, e2⟩ := by_no hG
          have hgb : (ev && L.all isFig) = false := by
            rw [HEV.out, Bool.eq_false_iff]
            intro hh
            rw [Bool.and_eq_true, decide_eq_true_eq] at hh
            exact hG hh
          rw [e1, hgb]
          rw [e2] at o4
          obtain ⟨az, cz, rfl⟩ := o4.sl (n := 0) rfl
          clear hlen hG e1 e2 hgb
          go_wp2_with fail
          go_ret
          exact ⟨rfl, K4⟩
  · by_cases h5 : x.length ≤ 300
    · have d1 : decide ((300 : Int) < x.length) = false := by simp; omega
      have d2 : decide ((300 : Int) < s.size) = true := by simp; omega
      clear h53
      go_enter Try.func7, Try.ntmps7
      go_wp2_with fail
      refine (shown_any _).mono ?_
      rintro e w1 ⟨rfl, k1⟩
      go_wp2_with fail
      go_ret
      exact ⟨rfl, k1⟩
    · have d1 : decide ((300 : Int) < x.length) = true := by simp; omega
      clear h53
      go_enter Try.func7, Try.ntmps7
      go_wp2_with fail
      refine (shown_any _).mono ?_
      rintro e w1 ⟨rfl, k1⟩
      go_wp2_with fail
      go_ret
      exact ⟨rfl, k1⟩
end Go.Proofs.Ytpaopnjknpoacaa

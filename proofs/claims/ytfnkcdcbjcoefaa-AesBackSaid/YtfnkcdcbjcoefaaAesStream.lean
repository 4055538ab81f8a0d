/- aes.Stream. -/
import Derived.Test.YtfnkcdcbjcoefaaAesLock
import Derived.Test.YtfnkcdcbjcoefaaStream
import Derived.Test.YtfnkcdcbjcoefaaNum2
set_option linter.unusedVariables false
set_option linter.unusedSimpArgs false
namespace Go.Proofs.Ytfnkcdcbjcoefaa
open Go.RowKit

theorem But.wr {g : Nat} {A B : World} (h : But g A B) : Wr g A B := by
  have hb := h.below (Below.refl 0 A) (Nat.zero_le g)
  exact ⟨hb.os, hb.tape, hb.output, by rw [h.size]; exact Nat.le_refl _, fun k _ hk => h.other k hk⟩
theorem Rd.nil5 (w : World) : Rd w (.slice none 0 0) [] := ⟨none, 0, rfl, Nat.le_refl _, Nat.zero_le _, fun _ => rfl, fun x hx => by cases hx⟩

set_option maxRecDepth 100000 in
set_option maxHeartbeats 4000000 in
theorem aesStream_any (u1 u2 u3 : Value) (key nonce b : List UInt8) (w : World) (hu1 : Rd w u1 key) (hu2 : Rd w u2 nonce) (hu3 : Rd w u3 b) (hbl : b.length ≤ 1000000) :
    Calls Try.prog 19 #[u1, u2, u3] w fun e w' => (∃ r, e = .returned (.tuple #[r, .int .i64 (strE key nonce)]) ∧ Rd w' r (strR key nonce b)) ∧ Kp w w' := by
  have U := u8
  obtain ⟨a1, c1, rfl, h1, h2⟩ := hu1.shape
  obtain ⟨a2, c2, rfl, h3, h4⟩ := hu2.shape
  obtain ⟨a3, c3, rfl, h5, h6⟩ := hu3.shape
  by_cases hk : key.length = 16
  · by_cases hn : nonce.length = 12
    · have e0 : strE key nonce = 0 := if_pos ⟨hk, hn⟩
      have r0 : strR key nonce b = strL (keysL key) nonce b := if_pos ⟨hk, hn⟩
      rw [e0, r0]
      have HKL := Lib.hid (keysL_length hk)
      have HNC : Hid (∀ W, Kp w W → Calls Try.prog 24 #[.slice a1 key.length c1] W fun e w' => (∃ gc bx, e = .returned (.pointer (some ⟨gc, 0, none⟩)) ∧ Cph w' gc bx (keysL key) ∧ W.heap.size ≤ gc ∧ W.heap.size ≤ bx) ∧ Kp W w') := fun W hW => newCipher_any _ key W (hu1.kp hW) hk
      rw [hk] at HNC h1 ⊢
      have HB3 := Lib.hid hu3
      have HB2 := Lib.hid hu2
      rw [hn] at HB2 h3 ⊢
      have HN := Lib.hid hn
      obtain ⟨len, hlen⟩ : ∃ n, b.length = n := ⟨_, rfl⟩
      rw [hlen] at HB3 h5 hbl ⊢
      have HL := Lib.hid hlen
      generalize keysL key = K at *
      clear hu1 hu2 hu3 e0 r0 hk hn hlen
      go_enter Try.func19, Try.ntmps19
      go_wp2_with fail
      refine (HNC.out w (Kp.refl w)).mono ?_; rintro _ w1 ⟨⟨gc, bx, rfl, hC, hgc, hbx⟩, k1⟩
      clear HNC
      go_wp2_with (first
        | (refine wpList_copy_blk U rfl (.tmp 26) (.tmp 27) rfl 51 w1.heap.size _ nonce (List.replicate 16 0) 16 16 rfl rfl (By.made _ _ _ _ rfl) (by decide) (HB2.out.kp (k1.alloc _)) (by rw [HN.out]; decide) ?_; intro w2 hS2 hbut2; have k2 : Kp w1 w2 := hbut2.below ((Kp.refl w1).alloc _) (Nat.le_refl _); clear hbut2)
        | (at_make; refine wpList_make_fresh (z := .int .u8 0) (b := 1) Try.underlying22 Try.info5 rfl (by decide) rfl _ _ rfl len rfl rfl hbl ?_; intro w3 hw3; have hO3 : By 5 w3 w2.heap.size (List.replicate len 0) := (by rw [hw3]; exact By.fresh _ _ _); have k3 : Kp w2 w3 := (by rw [hw3]; exact (Kp.refl _).alloc _); clear hw3)
        | (refine wpList_copy_blk U rfl (.tmp 32) (.tmp 33) rfl 5 w2.heap.size _ b (List.replicate len 0) len len rfl rfl hO3 (by simp) (HB3.out.kp ((k1.trans k2).trans k3)) (by rw [HL.out]; exact Nat.le_refl _) ?_; intro w4 hO4 hbut4; have k4 : Kp w2 w4 := hbut4.below k3 (Nat.le_refl _); clear hbut4 hO3 k3))
      rw [HL.out, List.drop_eq_nil_of_le (by simp), List.append_nil] at hO4
      rw [HN.out] at hS2
      have hlt1 : gc < w1.heap.size := World.block_lt_of_cell? w1 _ hC.ptr
      have hlt2 : bx < w1.heap.size := hC.box.lt
      have hlt3 : w1.heap.size < w2.heap.size := hS2.lt
      have hw1 := k1.size
      have hC4 := (hC.kp k2).kp k4
      have hS4 := hS2.kp k4
      have hk4 : Kp w w4 := (k1.trans k2).trans k4
      have HSL := Lib.hid (strL_length K nonce b)
      have HSG : Hid (∀ j, j < len → (strL K nonce b)[j]? = some (strF K nonce b j)) := fun j hj => strL_some K nonce b j (by rw [HL.out]; exact hj)
      have hO4' : By 5 w4 w2.heap.size (mixB b (strL K nonce b) (min (16 * 0) len)) := by
        rw [Nat.mul_zero, Nat.zero_min, show mixB b (strL K nonce b) 0 = b by simp [mixB]]
        exact hO4
      obtain ⟨gst, hgst⟩ : ∃ g, w1.heap.size = g := ⟨_, rfl⟩
      obtain ⟨go, hgo⟩ : ∃ g, w2.heap.size = g := ⟨_, rfl⟩
      rw [hgst] at hlt1 hlt2 hlt3 hw1 hS4 ⊢
      rw [hgo] at hlt3 hO4' ⊢
      clear hgst hgo hO4 hS2 hC k1 k2 k4
      have HDEF : Hid (∀ j, strF K nonce b j = b.getD j 0 ^^^ (lockL K (ctrB nonce (j / 16))).getD (j % 16) 0) := fun _ => rfl
      have HLL : Hid (∀ x, (lockL K x).length = 16) := lockL_length K
      go_loopw [11] (fun p wr => ∃ (q : Nat) (y : List UInt8), 16 * q ≤ len + 15 ∧ p = .int .i64 (16 * q : Nat) ∧ By 5 wr go (mixB b (strL K nonce b) (min (16 * q) len)) ∧ y.length = 4 ∧ By 51 wr gst (nonce ++ y) ∧ Cph wr gc bx K ∧ Kp w wr) (fun p _ => len + 16 - (intOf p).toNat)
      case atStart => exact ⟨0, _, by omega, rfl, hO4', by simp, hS4, hC4, hk4⟩
      case round =>
        clear hO4' hS4 hC4 hk4
        obtain ⟨q, y, hq, rfl, hO, hy, hS, hC, hk⟩ := hrel
        obtain ⟨f, hf⟩ : ∃ f, 16 * q = f := ⟨_, rfl⟩
        rw [hf] at hq hO ⊢
        by_cases hlt : f < len
        · have q1 : (f : Int) < (len : Int) := by omega
          have e1 : (f : Int).tdiv 16 = (q : Int) := by rw [Int.tdiv_eq_ediv_of_nonneg (by omega)]; omega
          have e2 : (f : Int) / 16 = (q : Int) := by omega
          have e3 : IntKind.i64.wrap ((q : Int) + 1) = (q : Int) + 1 := IntWalk.i64_in _ (by omega)
          have e4 : IntKind.i64.wrap (q : Int) = (q : Int) := IntWalk.i64_in _ (by omega)
          have hnk : numOk ((q : Int) + 1) 4 := by
            unfold numOk
            refine ⟨by omega, by omega, by omega, ?_⟩
            show (q : Int) + 1 < 4294967296
            omega
          have hnum := num_any ((q : Int) + 1) 4 wr (by omega)
          rw [(num_yes hnk).1, (num_yes hnk).2, show ((4 : Int)).toNat = 4 from rfl, show ((q : Int) + 1).toNat = q + 1 by omega] at hnum
          have HNUM := Lib.hid hnum
          have HCT : Hid ((nonce ++ y).take 12 ++ (be 4 (q + 1) ++ (nonce ++ y).drop (12 + (be 4 (q + 1)).length)) = ctrB nonce q) := by
            unfold Hid ctrB
            rw [be_length, List.take_append_of_le_length (by rw [HN.out]; exact Nat.le_refl _), List.take_of_length_le (by rw [HN.out]; exact Nat.le_refl _), List.drop_eq_nil_of_le (by rw [List.length_append, HN.out, hy]; exact Nat.le_refl _), List.append_nil]
          have HBL := Lib.hid (be_length 4 (q + 1))
          have HCL : Hid ((ctrB nonce q).length = 16) := by rw [Hid, ctrB_length, HN.out]
          have HNY : Hid ((nonce ++ y).length = 16) := by rw [Hid, List.length_append, HN.out, hy]
          clear hnum hnk
          go_wp2_with fail
          refine HNUM.out.mono ?_; rintro _ w5 ⟨v5, rfl, ho5, k5⟩
          have hS5 := hS.kp k5
          clear HNUM
          go_wp2_with (first
            | (refine wpList_copy_mid U rfl (.tmp 51) (.tmp 52) rfl 51 gst 12 v5 (be 4 (q + 1)) (nonce ++ y) 4 4 rfl rfl hS5 ho5.rd (by rw [HBL.out]; exact Nat.le_refl _) (by rw [HBL.out]; decide) (by rw [HBL.out, HNY.out]; decide) ?_; intro w6 hS6 hbut6)
            | (refine wpList_load_by Try.underlying51 (by kernel_rfl) rfl (.tmp 9) rfl gst (ctrB nonce q) rfl (by rw [← HCT.out]; exact hS6) HCL.out ?_)
            | (refine wpList_store_by (by kernel_rfl) rfl rfl (.tmp 14) (.tmp 54) rfl w6.heap.size (List.replicate 16 0) (ctrB nonce q) rfl rfl (By.made _ _ _ _ rfl) (by decide) HCL.out ?_; intro w7 hB7 hbut7))
          rw [HCT.out] at hS6
          have hw6 := hbut6.wr
          have hO6 := hw6.by (hO.kp k5) (by omega)
          have hC6 := (hC.kp k5).wr hw6 (by omega) (by omega)
          have hk6 : Kp w w6 := Below.trans (show Below w.heap.size w w5 from hk.trans k5) (hw6.below (hk.trans k5).size (by omega))
          have k67 : Kp w6 w7 := hbut7.below ((Kp.refl w6).alloc _) (Nat.le_refl _)
          have hC7 := hC6.kp k67
          have hO7 := hO6.kp k67
          have hS7 := hS6.kp k67
          have hk7 := hk6.trans k67
          have l1 : gst < w6.heap.size := hS6.lt
          have l2 : go < w6.heap.size := hO6.lt
          have l3 := hk6.size
          obtain ⟨gs, hgs⟩ : ∃ g, w6.heap.size = g := ⟨_, rfl⟩
          rw [hgs] at hB7 l1 l2 l3 ⊢
          clear hbut6 hbut7 hw6 hO6 hC6 hS6 k67 hgs hS5 ho5 k5 hS hC hO hk6
          refine (lock_any gc gs bx (ctrB nonce q) K w7 HCL.out HKL.out (by omega) (by omega) hC7 hB7).mono ?_; rintro _ w8 ⟨rfl, hB8, hw8⟩
          have hO8 := hw8.by hO7 (by omega)
          have hS8 := hw8.by hS7 (by omega)
          have hC8 := hC7.wr hw8 (by omega) (by omega)
          have hk8 : Kp w w8 := Below.trans (show Below w.heap.size w w7 from hk7) (hw8.below hk7.size (by omega))
          have hmf : min f len = f := by omega
          rw [hmf] at hO8
          have i1 : IntKind.i64.wrap ((len : Int) - (f : Int)) = (len : Int) - (f : Int) := IntWalk.i64_in _ (by omega)
          clear hmf
          by_cases hd : 16 ≤ len - f
          · have hm3 : Hid (f + 16 = min (16 * (q + 1)) len) := by show f + 16 = min (16 * (q + 1)) len; omega
            have d1 : (16 : Int) ≤ (len : Int) - (f : Int) := by omega
            have hm2 : f + 16 ≤ len := by omega
            clear hd
            clear hO7 hC7 hS7 hB7 hw8 hk7 hk
            go_wp2_with fail
            go_loopw [62] (fun p wr => ∃ i : Nat, i ≤ 16 ∧ p = .int .i64 i ∧ By 5 wr go (mixB b (strL K nonce b) (f + i)) ∧ Wr go w8 wr) (fun p _ => 16 - (intOf p).toNat)
            case atStart => exact ⟨0, by omega, rfl, hO8, Wr.refl _ _⟩
            case round =>
              clear hO8
              obtain ⟨i, hi, rfl, hO, hw⟩ := hrel
              by_cases hlti : i < 16
              · have qi : (i : Int) < (16 : Int) := by omega
                obtain ⟨j, hj⟩ : ∃ j, f + i = j := ⟨_, rfl⟩
                have hjl : j < len := by omega
                have hn1 : (mixB b (strL K nonce b) j).set j (strF K nonce b j) = mixB b (strL K nonce b) (j + 1) := mixB_set _ _ j (by rw [HSL.out]) (by rw [HL.out]; exact hjl) _ (HSG.out j hjl)
                have hml : (mixB b (strL K nonce b) j).length = len := by rw [mixB_length _ _ j (by rw [HSL.out]) (by rw [HL.out]; omega), HL.out]
                rw [hj] at hO
                have c0 := hO.cell j (by rw [hml]; exact hjl)
                rw [mixB_past _ _ j j (by rw [HSL.out]) (by rw [HL.out]; omega) (Nat.le_refl _)] at c0
                have f0 := hO.frozen j
                have c1 := (hw.by hB8 (by omega)).cell i (by rw [HLL.out]; omega)
                have hx := b8_xor (b.getD j 0) ((lockL K (ctrB nonce q)).getD i 0)
                have hdef := HDEF.out j
                rw [show j / 16 = q by omega, show j % 16 = i by omega] at hdef
                rw [← hdef] at hx
                have HNX := Lib.hid (show f + (i + 1) = j + 1 by omega)
                have u1 : (f : Int) + (i : Int) = (j : Int) := by omega
                have u2 : IntKind.i64.wrap (j : Int) = j := IntWalk.i64_in _ (by omega)
                have u3 : (j : Int) < (len : Int) := by omega
                have u4 : (i : Int) < 16 := by omega
                generalize strF K nonce b j = Y at *
                generalize b.getD j 0 = X1 at *
                generalize (lockL K (ctrB nonce q)).getD i 0 = X2 at *
                have HN1 := Lib.hid hn1
                clear hn1 hml hj hdef
                go_wp2_with fail
                go_region
                all_goals
                  go_wp2_with fail
                  go_roundw
                  case rel => exact ⟨i + 1, by omega, by go_num, by rw [HNX.out]; exact hO.set j _ HN1.out, (hw.setCell j _).drew⟩
                  case measure => simp [intOf]; omega
              · obtain rfl : i = 16 := by omega
                have hO2 : By 5 wr go (mixB b (strL K nonce b) (min (16 * (q + 1)) len)) := by rw [← hm3.out]; exact hO
                have hS2 : By 51 wr gst (nonce ++ be 4 (q + 1)) := hw.by hS8 (by omega)
                have hC2 := hC8.wr hw (by omega) (by omega)
                have hk2 : Kp w wr := Below.trans (show Below w.heap.size w w8 from hk8) (hw.below hk8.size (by omega))
                have e9 : IntKind.i64.wrap ((f : Int) + 16) = ((16 * (q + 1) : Nat) : Int) := by rw [IntWalk.i64_in _ (by omega)]; omega
                have HF := Lib.hid hf
                clear hO hw hB8 hS8 hC8 hk8 hf
                go_wp2_with fail
                go_roundw
                case rel => exact ⟨q + 1, _, by have := HF.out; omega, rfl, hO2, be_length 4 (q + 1), hS2, hC2, hk2⟩
                case measure => have := HF.out; simp [intOf]; omega
          · obtain ⟨m, hm⟩ : ∃ m, len - f = m := ⟨_, rfl⟩
            have hm3 : Hid (f + m = min (16 * (q + 1)) len) := by show f + m = min (16 * (q + 1)) len; omega
            have d0 : (len : Int) - (f : Int) = (m : Int) := by omega
            have d1 : ¬ (16 : Int) ≤ (m : Int) := by omega
            have d2 : IntKind.i64.wrap (m : Int) = m := IntWalk.i64_in _ (by omega)
            have hm2 : f + m ≤ len := by omega
            have hm16 : m < 16 := by omega
            clear hd hm i1
            clear hO7 hC7 hS7 hB7 hw8 hk7 hk
            go_wp2_with fail
            go_loopw [62] (fun p wr => ∃ i : Nat, i ≤ m ∧ p = .int .i64 i ∧ By 5 wr go (mixB b (strL K nonce b) (f + i)) ∧ Wr go w8 wr) (fun p _ => m - (intOf p).toNat)
            case atStart => exact ⟨0, by omega, rfl, hO8, Wr.refl _ _⟩
            case round =>
              clear hO8
              obtain ⟨i, hi, rfl, hO, hw⟩ := hrel
              by_cases hlti : i < m
              · have qi : (i : Int) < (m : Int) := by omega
                obtain ⟨j, hj⟩ : ∃ j, f + i = j := ⟨_, rfl⟩
                have hjl : j < len := by omega
                have hn1 : (mixB b (strL K nonce b) j).set j (strF K nonce b j) = mixB b (strL K nonce b) (j + 1) := mixB_set _ _ j (by rw [HSL.out]) (by rw [HL.out]; exact hjl) _ (HSG.out j hjl)
                have hml : (mixB b (strL K nonce b) j).length = len := by rw [mixB_length _ _ j (by rw [HSL.out]) (by rw [HL.out]; omega), HL.out]
                rw [hj] at hO
                have c0 := hO.cell j (by rw [hml]; exact hjl)
                rw [mixB_past _ _ j j (by rw [HSL.out]) (by rw [HL.out]; omega) (Nat.le_refl _)] at c0
                have f0 := hO.frozen j
                have c1 := (hw.by hB8 (by omega)).cell i (by rw [HLL.out]; omega)
                have hx := b8_xor (b.getD j 0) ((lockL K (ctrB nonce q)).getD i 0)
                have hdef := HDEF.out j
                rw [show j / 16 = q by omega, show j % 16 = i by omega] at hdef
                rw [← hdef] at hx
                have HNX := Lib.hid (show f + (i + 1) = j + 1 by omega)
                have u1 : (f : Int) + (i : Int) = (j : Int) := by omega
                have u2 : IntKind.i64.wrap (j : Int) = j := IntWalk.i64_in _ (by omega)
                have u3 : (j : Int) < (len : Int) := by omega
                have u4 : (i : Int) < 16 := by omega
                generalize strF K nonce b j = Y at *
                generalize b.getD j 0 = X1 at *
                generalize (lockL K (ctrB nonce q)).getD i 0 = X2 at *
                have HN1 := Lib.hid hn1
                clear hn1 hml hj hdef
                go_wp2_with fail
                go_region
                all_goals
                  go_wp2_with fail
                  go_roundw
                  case rel => exact ⟨i + 1, by omega, by go_num, by rw [HNX.out]; exact hO.set j _ HN1.out, (hw.setCell j _).drew⟩
                  case measure => simp [intOf]; omega
              · obtain rfl : i = m := by omega
                have hO2 : By 5 wr go (mixB b (strL K nonce b) (min (16 * (q + 1)) len)) := by rw [← hm3.out]; exact hO
                have hS2 : By 51 wr gst (nonce ++ be 4 (q + 1)) := hw.by hS8 (by omega)
                have hC2 := hC8.wr hw (by omega) (by omega)
                have hk2 : Kp w wr := Below.trans (show Below w.heap.size w w8 from hk8) (hw.below hk8.size (by omega))
                have e9 : IntKind.i64.wrap ((f : Int) + 16) = ((16 * (q + 1) : Nat) : Int) := by rw [IntWalk.i64_in _ (by omega)]; omega
                have HF := Lib.hid hf
                clear hO hw hB8 hS8 hC8 hk8 hf
                go_wp2_with fail
                go_roundw
                case rel => exact ⟨q + 1, _, by have := HF.out; omega, rfl, hO2, be_length 4 (q + 1), hS2, hC2, hk2⟩
                case measure => have := HF.out; simp [intOf]; omega
        · have hO2 : By 5 wr go (strL K nonce b) := by
            rw [show min f len = len by omega] at hO
            have := mixB_all b (strL K nonce b) (by rw [HSL.out])
            rw [HSL.out, HL.out] at this
            rw [this] at hO
            exact hO
          have hrd := hO2.rdAll (n := len) (c := len) (by rw [HSL.out, HL.out]) (Nat.le_refl _) (by unfold maxLen; omega)
          have hq2 : ¬ (f : Int) < (len : Int) := by omega
          clear hO hO2 hS hC
          go_wp2_with fail
          go_ret2
          exact ⟨⟨_, rfl, hrd⟩, hk⟩
    · have e0 : strE key nonce = 1 := if_neg (fun h => hn h.2)
      have r0 : strR key nonce b = [] := if_neg (fun h => hn h.2)
      rw [e0, r0]
      have hb2 : ((nonce.length : Int) == 12) = false := beq_eq_false_iff_ne.2 (by omega)
      have hb3 : ¬ (nonce.length : Int) = 12 := by omega
      rw [hk]
      go_enter Try.func19, Try.ntmps19
      go_wp2_with fail
      go_ret2
      exact ⟨⟨_, rfl, Rd.nil5 _⟩, Kp.refl _⟩
  · have e0 : strE key nonce = 1 := if_neg (fun h => hk h.1)
    have r0 : strR key nonce b = [] := if_neg (fun h => hk h.1)
    rw [e0, r0]
    have hb2 : ((key.length : Int) == 16) = false := beq_eq_false_iff_ne.2 (by omega)
    have hb3 : ¬ (key.length : Int) = 16 := by omega
    go_enter Try.func19, Try.ntmps19
    go_wp2_with fail
    go_ret2
    exact ⟨⟨_, rfl, Rd.nil5 _⟩, Kp.refl _⟩
end Go.Proofs.Ytfnkcdcbjcoefaa

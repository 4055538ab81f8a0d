import Derived.Test.YtigpgcjbpoaclaaGreatDoorB2
import Derived.Test.YtigpgcjbpoaclaaGreatDoorB7
import Derived.Test.YtigpgcjbpoaclaaGreatDoorB8
set_option linter.unusedVariables false
set_option linter.unusedSimpArgs false
namespace Go.Proofs.YtigpgcjbpoaclaaGreatDoor
open Go.RowKit
set_option maxHeartbeats 1000000 in
theorem pad_any (n : Int) (w : World) :
    Calls Tryz.prog 105 #[.int .i64 n] w fun e w' => (∃ v, e = .returned v ∧ Rd w' v (padOf n)) ∧ Kp w w' := by
  by_cases h0 : 0 ≤ n ∧ n ≤ 1125899906842624
  · have hp : padOf n = pad n.toNat := if_pos h0
    rw [hp]
    clear hp
    obtain ⟨h0, h1⟩ := h0
    obtain ⟨n, rfl⟩ := Int.eq_ofNat_of_zero_le h0
    rw [Int.toNat_natCast]
    obtain ⟨f, hf⟩ : ∃ f, fill n = f := ⟨_, rfl⟩
    have hfl := fill_lt n
    have hl := pad_length n
    have hst := pad_start n
    have hget := pad_get n
    have hfi : (119 - (n : Int) % 64).tmod 64 = (f : Int) := by
      rw [Int.tmod_eq_emod_of_nonneg (by omega), ← hf]
      unfold fill
      omega
    rw [hf] at hfl hl hst hget
    have hfi2 : (119 - (n : Int) % 64) % 64 = (f : Int) := by rw [← hfi, Int.tmod_eq_emod_of_nonneg (by omega)]
    have HG := Lib.hid hget
    have HL := Lib.hid hl
    have HS := Lib.hid hst
    have HB := Lib.hid h1
    have hw : IntKind.i64.wrap (8 * (n : Int)) = 8 * (n : Int) := by rw [IntKind.wrap_i64]; omega
    clear hf hget hl hst
    go_enter Tryz.func105, Tryz.ntmps105
    have hz : ((9 + f : Nat) : Int) = 1 + (f : Int) + 8 := by omega
    have HZ := Lib.hid hz
    clear hz
    go_wp2_with (at_make; refine wpList_make_fresh (z := .int .u8 0) (b := 1) Tryz.underlying22 Tryz.info5 rfl (by decide) rfl _ _ rfl (9 + f) (by rw [HZ.out]; rfl) (by rw [HZ.out]; rfl) (by omega) ?_; intro w1 hw1; have HW1 := Lib.hid hw1; clear hw1; have hB0 : By 5 w1 w.heap.size (List.replicate (9 + f) 0) := (by rw [HW1.out]; exact By.fresh _ _ _); have hk0 : Kp w w1 := (by rw [HW1.out]; exact (Kp.refl w).alloc _); have c0 := hB0.cell 0 (by simp; omega); have f0 := hB0.frozen 0)
    have hB1 : By 5 (w1.setCell ⟨w.heap.size, 0, none⟩ (.int .u8 128)) w.heap.size (mixB (List.replicate (9 + f) 0) (pad n) (1 + f)) := hB0.set 0 128 HS.out
    have hk1 : Kp w (w1.setCell ⟨w.heap.size, 0, none⟩ (.int .u8 128)) := Below.setCell hk0 (by simp) _
    clear hB0 hk0 c0 f0 HW1 hfi hfi2
    go_loopw [22] (fun i wr => ∃ k : Nat, k ≤ 8 ∧ i = .int .i64 k ∧ By 5 wr w.heap.size (mixB (List.replicate (9 + f) 0) (pad n) (1 + f + k)) ∧ Kp w wr) (fun i _ => 8 - (intOf i).toNat)
    case atStart => exact ⟨0, by omega, rfl, hB1, hk1⟩
    case round =>
      clear hB1 hk1
      obtain ⟨k, hk, rfl, hB, hkp⟩ := hrel
      by_cases hlt : k < 8
      · have hset := mixB_set (List.replicate (9 + f) 0) (pad n) (1 + f + k) (by rw [HL.out]; simp) (by simp; omega) _ (HG.out k hlt)
        have hlen : (mixB (List.replicate (9 + f) 0) (pad n) (1 + f + k)).length = 9 + f := by rw [mixB_length _ _ _ (by rw [HL.out]; simp) (by simp; omega)]; simp
        have c0 := hB.cell (1 + f + k) (by rw [hlen]; omega)
        have f0 := hB.frozen (1 + f + k)
        have e1 : (8 * (7 - (k : Int))).toNat = 8 * (7 - k) := by omega
        have e2 : (8 * (n : Int)) / 2 ^ (8 * (7 - k)) = ((8 * n / 256 ^ (7 - k) : Nat) : Int) := by
          have : (256 : Nat) ^ (7 - k) = 2 ^ (8 * (7 - k)) := by rw [Nat.pow_mul]
          rw [this]
          simp
        obtain ⟨X, hX⟩ : ∃ X, 8 * n / 256 ^ (7 - k) = X := ⟨_, rfl⟩
        rw [hX] at e2 hset
        have hv : ((UInt8.ofNat X).toNat : Int) = (X : Int) % 256 := by simp
        have hi1 : (1 + (f : Int) + (k : Int)) < 9 + (f : Int) := by omega
        have hi2 : (1 + (f : Int) + (k : Int)).toNat = 1 + f + k := by omega
        have H7 : (0 : Int) ≤ 7 - (k : Int) := by omega
        have HS2 := Lib.hid (And.intro hset hv)
        clear hset hX hlen hv
        go_wp2_with fail
        go_roundw
        case rel =>
          refine ⟨k + 1, by omega, by go_num, ?_, Below.setCell hkp (by simp) _⟩
          have h := hB.set (1 + f + k) (UInt8.ofNat X) HS2.out.1
          rw [HS2.out.2] at h
          exact h
        case measure => simp [intOf]; omega
      · obtain rfl : k = 8 := by omega
        have hm : mixB (List.replicate (9 + f) 0) (pad n) (1 + f + 8) = pad n := by
          rw [show 1 + f + 8 = (pad n).length by rw [HL.out]; omega]
          exact mixB_all _ _ (by rw [HL.out]; simp)
        rw [hm] at hB
        clear hm
        go_wp2_with fail
        go_ret
        exact ⟨⟨_, rfl, hB.rdAll (by rw [HL.out]) (Nat.le_refl _) (by unfold maxLen; omega)⟩, hkp⟩
  · have hp : padOf n = [] := if_neg h0
    rw [hp]
    by_cases h : n < 0
    · go_enter Tryz.func105, Tryz.ntmps105
      go_wp2
      go_ret
      exact ⟨⟨_, rfl, none, 0, rfl, Nat.le_refl _, Nat.zero_le _, fun _ => rfl, fun x hx => by cases hx⟩, Kp.refl _⟩
    · have h2 : 1125899906842624 < n := by omega
      clear h0
      go_enter Tryz.func105, Tryz.ntmps105
      go_wp2
      go_ret
      exact ⟨⟨_, rfl, none, 0, rfl, Nat.le_refl _, Nat.zero_le _, fun _ => rfl, fun x hx => by cases hx⟩, Kp.refl _⟩
set_option maxHeartbeats 1000000 in
theorem refPad_any (n : Int) (w : World) :
    Calls Tryz.prog 92 #[.int .i64 n] w fun e w' => (∃ v, e = .returned v ∧ Rd w' v (padOf n)) ∧ Kp w w' := by
  have U := u8
  by_cases h0 : 0 ≤ n ∧ n ≤ 1125899906842624
  · have hp : padOf n = pad n.toNat := if_pos h0
    rw [hp]
    clear hp
    obtain ⟨h0, h1⟩ := h0
    obtain ⟨n, rfl⟩ := Int.eq_ofNat_of_zero_le h0
    rw [Int.toNat_natCast]
    obtain ⟨f, hf⟩ : ∃ f, fill n = f := ⟨_, rfl⟩
    have hfl := fill_lt n
    have hfz : ∀ k : Nat, k ≤ f → (((n : Int) + ((k : Int) + 1) + 8) % 64 = 0 ↔ k = f) := fun k hk => by
      have : f = (119 - n % 64) % 64 := hf.symm
      omega
    have hp : pad n = 128 :: List.replicate f 0 ++ be 8 (8 * n) := by unfold pad; rw [hf]
    rw [hf] at hfl
    have HFZ := Lib.hid hfz
    have HP := Lib.hid hp
    have HB := Lib.hid h1
    have hw : IntKind.i64.wrap (8 * (n : Int)) = 8 * (n : Int) := by rw [IntKind.wrap_i64]; omega
    clear hf hfz hp
    go_enter Tryz.func92, Tryz.ntmps92
    go_wp2_with fail
    go_loopw [3] (fun v wr => ∃ k : Nat, k ≤ f ∧ Ow 5 wr w.heap.size v (128 :: List.replicate k 0) ∧ Kp w wr) (fun v wr => f - (match v with | .slice _ n _ => n - 1 | _ => 0))
    case atStart => exact ⟨0, by omega, Ow.lit w 5 w.heap.size 1 _ [128] (Nat.le_refl _) rfl (by decide) rfl, (Kp.refl w).alloc _⟩
    case round =>
      obtain ⟨k, hk, hown, hkp⟩ := hrel
      obtain ⟨a, c, rfl, hc1, hc2⟩ := hown.rd.shape
      have hl : (128 :: List.replicate k 0 : List UInt8).length = k + 1 := by simp
      rw [hl] at hown hc1 ⊢
      unfold maxLen at hc2
      by_cases hlt : k < f
      · have hne : ¬ ((n : Int) + ((k : Int) + 1) + 8) % 64 = 0 := by rw [HFZ.out k hk]; omega
        go_wp2_with (at_builtin; refine wpList_append_ow U rfl _ _ rfl w.heap.size _ _ rfl (hown.kp ((Kp.refl _).alloc _)) _ [0] rfl (Rd.box _ _ _ 0 rfl) ?c1 ?c2 ?_; rotate_right; intro v' w2 ho2 hg _)
        case c1 => simp; omega
        case c2 => have := hkp.size; simp; omega
        have he : (128 :: List.replicate k 0 ++ [0] : List UInt8) = 128 :: List.replicate (k + 1) 0 := by rw [List.replicate_succ', List.cons_append]
        rw [he] at ho2
        go_roundw
        case rel => exact ⟨k + 1, by omega, ho2, Kp.grown (hkp.alloc _) hg hown.own_ge⟩
        case measure =>
          obtain ⟨a', c', rfl, _, _⟩ := ho2.rd.shape
          simp
          omega
      · obtain rfl : k = f := by omega
        have hne : ((n : Int) + ((k : Int) + 1) + 8) % 64 = 0 := (HFZ.out k (Nat.le_refl _)).2 rfl
        clear hlt
        go_wp2_with fail
        go_loopw [3, 5] (fun v i wr => ∃ j : Nat, j ≤ 8 ∧ i = .int .i64 (56 - 8 * (j : Int)) ∧ Ow 5 wr w.heap.size v (128 :: List.replicate k 0 ++ (be 8 (8 * n)).take j) ∧ Kp w wr) (fun _ i _ => (64 + intOf i).toNat)
        case atStart => exact ⟨0, by omega, rfl, by rw [List.take_zero, List.append_nil]; exact hown, hkp⟩
        case round =>
          clear hown hkp hne hc1 hc2
          obtain ⟨j, hj, rfl, hown, hkp⟩ := hrel
          by_cases hlt : j < 8
          · have e2 : (8 * (n : Int)) / 2 ^ (56 - 8 * j) = ((8 * n / 256 ^ (7 - j) : Nat) : Int) := by
              have : (256 : Nat) ^ (7 - j) = 2 ^ (56 - 8 * j) := by rw [show 56 - 8 * j = 8 * (7 - j) by omega, Nat.pow_mul]
              rw [this]
              simp
            have e1 : (56 - 8 * (j : Int)).toNat = 56 - 8 * j := by omega
            have hj0 : 0 ≤ 56 - 8 * (j : Int) := by omega
            have hget := be_get 8 (8 * n) j hlt
            have htk : (be 8 (8 * n)).take (j + 1) = (be 8 (8 * n)).take j ++ [UInt8.ofNat (8 * n / 256 ^ (7 - j))] := by
              have hlt' : j < (be 8 (8 * n)).length := by rw [be_length]; exact hlt
              rw [List.take_succ_eq_append_getElem hlt']
              rw [List.getElem?_eq_getElem hlt'] at hget
              rw [Option.some.inj hget]
            obtain ⟨X, hX⟩ : ∃ X, 8 * n / 256 ^ (7 - j) = X := ⟨_, rfl⟩
            rw [hX] at e2 htk
            obtain ⟨bx, hbx⟩ : ∃ b : UInt8, UInt8.ofNat X = b := ⟨_, rfl⟩
            have hv : (X : Int) % 256 = (bx.toNat : Int) := by rw [← hbx]; simp
            rw [hbx] at htk
            have hlen : (128 :: List.replicate k 0 ++ (be 8 (8 * n)).take j : List UInt8).length ≤ 100 := by simp [be_length]; omega
            have HT := Lib.hid htk
            obtain ⟨L, hL⟩ : ∃ L, (128 :: List.replicate k 0 ++ (be 8 (8 * n)).take j : List UInt8) = L := ⟨_, rfl⟩
            rw [hL] at hown hlen
            have HL := Lib.hid hL
            have hu8 : IntKind.u8.wrap (X : Int) = (bx.toNat : Int) := by rw [IntKind.wrap_u8, hv]
            have HB2 := Lib.hid hbx
            clear htk hget hX hL hbx
            go_wp2_with (at_builtin; refine wpList_append_ow U rfl _ _ rfl w.heap.size _ _ rfl (hown.kp ((Kp.refl _).alloc _)) _ [bx] rfl (Rd.box _ _ _ bx rfl) ?c1 ?c2 ?_; rotate_right; intro v' w2 ho2 hg _)
            case c1 => simp; omega
            case c2 => have := hkp.size; simp; omega
            go_roundw
            case rel => exact ⟨j + 1, by omega, by congr 1; omega, by rw [HT.out, ← List.append_assoc, HL.out]; exact ho2, Kp.grown (hkp.alloc _) hg hown.own_ge⟩
            case measure => simp [intOf]; omega
          · obtain rfl : j = 8 := by omega
            rw [List.take_of_length_le (by rw [be_length]; exact Nat.le_refl _)] at hown
            rw [← HP.out] at hown
            go_wp2_with fail
            go_ret
            exact ⟨⟨_, rfl, hown.rd⟩, hkp⟩
  · have hp : padOf n = [] := if_neg h0
    rw [hp]
    by_cases h : n < 0
    · go_enter Tryz.func92, Tryz.ntmps92
      go_wp2
      go_ret
      exact ⟨⟨_, rfl, none, 0, rfl, Nat.le_refl _, Nat.zero_le _, fun _ => rfl, fun x hx => by cases hx⟩, Kp.refl _⟩
    · have h2 : 1125899906842624 < n := by omega
      clear h0
      go_enter Tryz.func92, Tryz.ntmps92
      go_wp2
      go_ret
      exact ⟨⟨_, rfl, none, 0, rfl, Nat.le_refl _, Nat.zero_le _, fun _ => rfl, fun x hx => by cases hx⟩, Kp.refl _⟩
end Go.Proofs.YtigpgcjbpoaclaaGreatDoor

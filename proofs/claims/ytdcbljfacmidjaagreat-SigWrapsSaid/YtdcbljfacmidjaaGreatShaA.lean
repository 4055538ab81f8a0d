/- Words: turned, shifted. -/
import Derived.Test.YtdcbljfacmidjaaGreatProg
import Derived.Test.YtdcbljfacmidjaaGreatSha
import Derived.IntWalk
import Derived.Lib.Hide
import Derived.BigQuiet
import Derived.Deep.QuietTactic
import Derived.Test.YtdcbljfacmidjaaGreatByteRow
import Derived.Test.YtdcbljfacmidjaaGreatSame
import Derived.Test.YtdcbljfacmidjaaGreatArr
import Derived.StillTailTactics
import Derived.Outline
import Derived.WalkSpells
import Derived.Deep.RegionHeld3
import Derived.Test.YtdcbljfacmidjaaGreatAesA
set_option linter.unusedVariables false
set_option linter.unusedSimpArgs false
namespace Go.Proofs.YtdcbljfacmidjaaGreat
open Go.RowKit

attribute [local go_sem] u_wrap u_add u_xor u_and u_or u_shl u_shr

theorem and31 (x : Int) (h₀ : 0 ≤ x) (h₁ : x < 2 ^ 64) : bits .and .u64 x 31 = x % 32 :=
  bits_mask .u64 64 (by decide) (fun n h0 h1 => by simp [IntKind.wrap, IntKind.bits, IntKind.signed]; omega) 5 (by decide) x h₀ h₁
theorem turnBy (i : Nat) (h0 : 0 < i) (h1 : i < 32) : bits .and .u64 (IntKind.u64.wrap (-(i : Int))) 31 = 32 - (i : Int) := by
  have hw : IntKind.u64.wrap (-(i : Int)) = 18446744073709551616 - i := by
    simp [IntKind.wrap, IntKind.bits, IntKind.signed]; omega
  rw [hw, and31 _ (by omega) (by omega)]
  omega

set_option maxHeartbeats 400000 in
theorem rotate_any (i : Nat) (x : UInt32) (w : World) (h0 : 0 < i) (h1 : i < 32) :
    Calls Tryz.prog 104 #[.int .u32 (u x), .int .i64 (-(i : Int))] w fun e w' => e = .returned (.int .u32 (u (rotr i x))) ∧ w = w' := by
  have ht := turnBy i h0 h1
  have e1 : (32 - (i : Int)).toNat = 32 - i := by omega
  have e2 : IntKind.u64.wrap (32 - (32 - (i : Int))) = i := by simp [IntKind.wrap, IntKind.bits, IntKind.signed]; omega
  go_enter Tryz.func104, Tryz.ntmps104
  go_wp2
  go_ret
  exact ⟨by rw [wor_comm]; rfl, rfl⟩

set_option maxHeartbeats 400000 in
theorem turned_nat (i j k : Nat) (x : UInt32) (w : World) (hi : 0 < i ∧ i < 32) (hj : 0 < j ∧ j < 32) (hk : 0 < k ∧ k < 32) :
    Calls Tryz.prog 101 #[.int .u32 (u x), .int .i64 i, .int .i64 j, .int .i64 k] w fun e w' => e = .returned (.int .u32 (u (big i j k x))) ∧ w = w' := by
  have n : ∀ i : Nat, i < 32 → IntKind.i64.wrap (-(i : Int)) = -i := fun i h => by rw [IntKind.wrap_i64]; omega
  have ni := n i hi.2
  have nj := n j hj.2
  have nk := n k hk.2
  obtain ⟨hi0, hi1⟩ := hi
  obtain ⟨hj0, hj1⟩ := hj
  obtain ⟨hk0, hk1⟩ := hk
  clear n
  go_enter Tryz.func101, Tryz.ntmps101
  go_wp2_with ((go_at_call 104; refine (rotate_any _ _ _ (by assumption) (by assumption)).mono ?_; rintro e w' ⟨rfl, rfl⟩))
  go_ret
  exact ⟨rfl, rfl⟩
theorem turned_e (x : UInt32) (w : World) : Calls Tryz.prog 101 #[.int .u32 (u x), .int .i64 6, .int .i64 11, .int .i64 25] w fun e w' => e = .returned (.int .u32 (u (big 6 11 25 x))) ∧ w = w' :=
  turned_nat 6 11 25 x w (by decide) (by decide) (by decide)
theorem turned_a (x : UInt32) (w : World) : Calls Tryz.prog 101 #[.int .u32 (u x), .int .i64 2, .int .i64 13, .int .i64 22] w fun e w' => e = .returned (.int .u32 (u (big 2 13 22 x))) ∧ w = w' :=
  turned_nat 2 13 22 x w (by decide) (by decide) (by decide)

set_option maxHeartbeats 400000 in
theorem shifted_nat (i j k : Nat) (x : UInt32) (w : World) (hi : 0 < i ∧ i < 32) (hj : 0 < j ∧ j < 32) (hk : 0 < k ∧ k < 32) :
    Calls Tryz.prog 103 #[.int .u32 (u x), .int .i64 i, .int .i64 j, .int .i64 k] w fun e w' => e = .returned (.int .u32 (u (small i j k x))) ∧ ∃ n, w' = w.drewN n := by
  have n : ∀ i : Nat, i < 32 → IntKind.i64.wrap (-(i : Int)) = -i := fun i h => by rw [IntKind.wrap_i64]; omega
  have ni := n i hi.2
  have nj := n j hj.2
  have hs := u_shr k x
  obtain ⟨hi0, hi1⟩ := hi
  obtain ⟨hj0, hj1⟩ := hj
  obtain ⟨hk0, hk1⟩ := hk
  clear n
  go_enter Tryz.func103, Tryz.ntmps103
  go_wp2
  go_quiet ((go_at_call 104; exact quiet_left (rotate_any _ _ _ (by assumption) (by assumption))))
  go_wp2
  go_ret
  exact ⟨rfl, _, rfl⟩
theorem shifted_1 (x : UInt32) (w : World) : Calls Tryz.prog 103 #[.int .u32 (u x), .int .i64 17, .int .i64 19, .int .i64 10] w fun e w' => e = .returned (.int .u32 (u (small 17 19 10 x))) ∧ ∃ n, w' = w.drewN n :=
  shifted_nat 17 19 10 x w (by decide) (by decide) (by decide)
theorem shifted_0 (x : UInt32) (w : World) : Calls Tryz.prog 103 #[.int .u32 (u x), .int .i64 7, .int .i64 18, .int .i64 3] w fun e w' => e = .returned (.int .u32 (u (small 7 18 3 x))) ∧ ∃ n, w' = w.drewN n :=
  shifted_nat 7 18 3 x w (by decide) (by decide) (by decide)

set_option maxHeartbeats 400000 in
theorem turn_nat (i : Nat) (x : UInt32) (w : World) (h0 : 0 < i) (h1 : i < 32) :
    Calls Tryz.prog 85 #[.int .u32 (u x), .int .u32 i] w fun e w' => e = .returned (.int .u32 (u (rotr i x))) ∧ w = w' := by
  have e2 : IntKind.u32.wrap (32 - (i : Int)) = 32 - i := by rw [IntKind.wrap_u32]; omega
  have e1 : (32 - (i : Int)).toNat = 32 - i := by omega
  have hs := u_shr i x
  have hl := u_shl (32 - i) x
  go_enter Tryz.func85, Tryz.ntmps85
  go_wp2
  go_ret
  exact ⟨rfl, rfl⟩

/-- A byte as the model's number. -/
def ub (b : UInt8) : Int := (b.toNat : Int)
theorem ub_nonneg (b : UInt8) : 0 ≤ ub b := Int.natCast_nonneg _
theorem ub_lt (b : UInt8) : ub b < 256 := by unfold ub; have := b.toNat_lt; omega
theorem wordOf_sum (a b c d : UInt8) : ub a * 16777216 + ub b * 65536 + ub c * 256 + ub d = u (wordOf a b c d) := by
  unfold wordOf ub
  have := a.toNat_lt
  have := b.toNat_lt
  have := c.toNat_lt
  have := d.toNat_lt
  rw [u_of _ (by omega)]
  omega

theorem Rd.row {w : World} {a : Option Addr} {n c : Nat} {l : List UInt8} (h : Rd w (.slice a n c) l) (hn : 0 < n) :
    ∃ b off, a = some ⟨b, off, none⟩ ∧ b < w.heap.size ∧ ∀ i, i < n → w.cell? ⟨b, off + i, none⟩ = some (.int .u8 (ub (l.getD i 0))) := h.at 0 hn
set_option maxHeartbeats 1000000 in
theorem word_any (v : Value) (l : List UInt8) (at' : Nat) (w : World) (h : Rd w v l) (hl : at' + 4 ≤ l.length) :
    Calls Tryz.prog 84 #[v, .int .i64 at'] w fun e w' => e = .returned (.int .u32 (u (wordOf (l.getD at' 0) (l.getD (at' + 1) 0) (l.getD (at' + 2) 0) (l.getD (at' + 3) 0)))) ∧ ∃ n, w' = w.drewN n := by
  obtain ⟨a, c, rfl, h1, h2⟩ := h.shape
  unfold maxLen at h2
  obtain ⟨b, off, rfl, hb, hc⟩ := h.row (by omega)
  have c0 := hc at' (by omega)
  have c1 := hc (at' + 1) (by omega)
  have c2 := hc (at' + 2) (by omega)
  have c3 := hc (at' + 3) (by omega)
  have hs := wordOf_sum (l.getD at' 0) (l.getD (at' + 1) 0) (l.getD (at' + 2) 0) (l.getD (at' + 3) 0)
  generalize l.getD at' 0 = x0 at *
  generalize l.getD (at' + 1) 0 = x1 at *
  generalize l.getD (at' + 2) 0 = x2 at *
  generalize l.getD (at' + 3) 0 = x3 at *
  have b0 := ub_nonneg x0
  have b1 := ub_nonneg x1
  have b2 := ub_nonneg x2
  have b3 := ub_nonneg x3
  have d0 := ub_lt x0
  have d1 := ub_lt x1
  have d2 := ub_lt x2
  have d3 := ub_lt x3
  clear hc
  have i0 : (at' : Int) < (l.length : Int) := by omega
  have i1 : (at' : Int) + 1 < (l.length : Int) := by omega
  have i2 : (at' : Int) + 2 < (l.length : Int) := by omega
  have i3 : (at' : Int) + 3 < (l.length : Int) := by omega
  have n1 : (0 : Int) ≤ (at' : Int) + 1 := by omega
  have n2 : (0 : Int) ≤ (at' : Int) + 2 := by omega
  have n3 : (0 : Int) ≤ (at' : Int) + 3 := by omega
  have k1 : IntKind.i64.wrap ((at' : Int) + 1) = (at' : Int) + 1 := IntWalk.i64_in _ (by omega)
  have k2 : IntKind.i64.wrap ((at' : Int) + 2) = (at' : Int) + 2 := IntWalk.i64_in _ (by omega)
  have k3 : IntKind.i64.wrap ((at' : Int) + 3) = (at' : Int) + 3 := IntWalk.i64_in _ (by omega)
  have t1 : ((at' : Int) + 1).toNat = at' + 1 := by omega
  have t2 : ((at' : Int) + 2).toNat = at' + 2 := by omega
  have t3 : ((at' : Int) + 3).toNat = at' + 3 := by omega
  have W : ∀ x : Int, 0 ≤ x → x < 4294967296 → IntKind.u32.wrap x = x := fun x h0 h1 => by rw [IntKind.wrap_u32]; omega
  have v0 := W (ub x0) (by omega) (by omega)
  have v1 := W (ub x1) (by omega) (by omega)
  have v2 := W (ub x2) (by omega) (by omega)
  have v3 := W (ub x3) (by omega) (by omega)
  have m0 := W (ub x0 * 16777216) (by omega) (by omega)
  have m1 := W (ub x1 * 65536) (by omega) (by omega)
  have m2 := W (ub x2 * 256) (by omega) (by omega)
  have s1 := W (ub x0 * 16777216 + ub x1 * 65536) (by omega) (by omega)
  have s2 := W (ub x0 * 16777216 + ub x1 * 65536 + ub x2 * 256) (by omega) (by omega)
  have s3 := W (ub x0 * 16777216 + ub x1 * 65536 + ub x2 * 256 + ub x3) (by omega) (by omega)
  have H := Lib.hid hs
  clear W hs b0 b1 b2 b3 d0 d1 d2 d3
  go_enter Tryz.func84, Tryz.ntmps84
  go_wp2
  go_quiet (fail)
  go_wp2
  go_ret
  exact ⟨by rw [← H.out]; rfl, _, rfl⟩
theorem turn_int (n : Int) (x : UInt32) (w : World) (h0 : 0 < n) (h1 : n < 32) :
    Calls Tryz.prog 85 #[.int .u32 (u x), .int .u32 n] w fun e w' => e = .returned (.int .u32 (u (rotr n.toNat x))) ∧ w = w' := by
  obtain ⟨i, rfl⟩ := Int.eq_ofNat_of_zero_le (Int.le_of_lt h0)
  rw [Int.toNat_natCast]
  exact turn_nat i x w (by omega) (by omega)
theorem word_int (x : Int) (v : Value) (l : List UInt8) (at' : Nat) (w : World) (h : Rd w v l) (hl : at' + 4 ≤ l.length) (hx : x = at') :
    Calls Tryz.prog 84 #[v, .int .i64 x] w fun e w' => e = .returned (.int .u32 (u (wordOf (l.getD at' 0) (l.getD (at' + 1) 0) (l.getD (at' + 2) 0) (l.getD (at' + 3) 0)))) ∧ ∃ n, w' = w.drewN n := by
  subst hx
  exact word_any v l at' w h hl
end Go.Proofs.YtdcbljfacmidjaaGreat

/- sha.Pad; the document's own. -/
set_option linter.unusedVariables false
set_option linter.unusedSimpArgs false
namespace Go.Proofs.YtdcbljfacmidjaaGreat
open Go.RowKit

set_option maxHeartbeats 1000000 in
theorem pad_any (n : Int) (w : World) :
    Calls Tryz.prog 93 #[.int .i64 n] w fun e w' => (∃ v, e = .returned v ∧ Rd w' v (padOf n)) ∧ Kp w w' := by
  by_cases h0 : 0 ≤ n ∧ n ≤ 1125899906842624
  · have hp : padOf n = pad n.toNat := if_pos h0
    rw [hp]
    clear hp
    obtain ⟨h0, h1⟩ := h0
    obtain ⟨n, rfl⟩ := Int.eq_ofNat_of_zero_le h0
    rw [Int.toNat_natCast]
    obtain ⟨f, hf⟩ : ∃ f, fill n = f := ⟨_, rfl⟩
    have hfl := fill_lt n
    have hl := pad_length n
    have hst := pad_start n
    have hget := pad_get n
    have hfi : (119 - (n : Int) % 64).tmod 64 = (f : Int) := by
      rw [Int.tmod_eq_emod_of_nonneg (by omega), ← hf]
      unfold fill
      omega
    rw [hf] at hfl hl hst hget
    have hfi2 : (119 - (n : Int) % 64) % 64 = (f : Int) := by rw [← hfi, Int.tmod_eq_emod_of_nonneg (by omega)]
    have HG := Lib.hid hget
    have HL := Lib.hid hl
    have HS := Lib.hid hst
    have HB := Lib.hid h1
    have hw : IntKind.i64.wrap (8 * (n : Int)) = 8 * (n : Int) := by rw [IntKind.wrap_i64]; omega
    clear hf hget hl hst
    go_enter Tryz.func93, Tryz.ntmps93
    have hz : ((9 + f : Nat) : Int) = 1 + (f : Int) + 8 := by omega
    have HZ := Lib.hid hz
    clear hz
    go_wp2_with (at_make; refine wpList_make_fresh (z := .int .u8 0) (b := 1) Tryz.underlying22 Tryz.info5 rfl (by decide) rfl _ _ rfl (9 + f) (by rw [HZ.out]; rfl) (by rw [HZ.out]; rfl) (by omega) ?_; intro w1 hw1; have HW1 := Lib.hid hw1; clear hw1; have hB0 : By 5 w1 w.heap.size (List.replicate (9 + f) 0) := (by rw [HW1.out]; exact By.fresh _ _ _); have hk0 : Kp w w1 := (by rw [HW1.out]; exact (Kp.refl w).alloc _); have c0 := hB0.cell 0 (by simp; omega); have f0 := hB0.frozen 0)
    have hB1 : By 5 (w1.setCell ⟨w.heap.size, 0, none⟩ (.int .u8 128)) w.heap.size (mixB (List.replicate (9 + f) 0) (pad n) (1 + f)) := hB0.set 0 128 HS.out
    have hk1 : Kp w (w1.setCell ⟨w.heap.size, 0, none⟩ (.int .u8 128)) := Below.setCell hk0 (by simp) _
    clear hB0 hk0 c0 f0 HW1 hfi hfi2
    go_loopw [22] (fun i wr => ∃ k : Nat, k ≤ 8 ∧ i = .int .i64 k ∧ By 5 wr w.heap.size (mixB (List.replicate (9 + f) 0) (pad n) (1 + f + k)) ∧ Kp w wr) (fun i _ => 8 - (intOf i).toNat)
    case atStart => exact ⟨0, by omega, rfl, hB1, hk1⟩
    case round =>
      clear hB1 hk1
      obtain ⟨k, hk, rfl, hB, hkp⟩ := hrel
      by_cases hlt : k < 8
      · have hset := mixB_set (List.replicate (9 + f) 0) (pad n) (1 + f + k) (by rw [HL.out]; simp) (by simp; omega) _ (HG.out k hlt)
        have hlen : (mixB (List.replicate (9 + f) 0) (pad n) (1 + f + k)).length = 9 + f := by rw [mixB_length _ _ _ (by rw [HL.out]; simp) (by simp; omega)]; simp
        have c0 := hB.cell (1 + f + k) (by rw [hlen]; omega)
        have f0 := hB.frozen (1 + f + k)
        have e1 : (8 * (7 - (k : Int))).toNat = 8 * (7 - k) := by omega
        have e2 : (8 * (n : Int)) / 2 ^ (8 * (7 - k)) = ((8 * n / 256 ^ (7 - k) : Nat) : Int) := by
          have : (256 : Nat) ^ (7 - k) = 2 ^ (8 * (7 - k)) := by rw [Nat.pow_mul]
          rw [this]
          simp
        obtain ⟨X, hX⟩ : ∃ X, 8 * n / 256 ^ (7 - k) = X := ⟨_, rfl⟩
        rw [hX] at e2 hset
        have hv : ((UInt8.ofNat X).toNat : Int) = (X : Int) % 256 := by simp
        have hi1 : (1 + (f : Int) + (k : Int)) < 9 + (f : Int) := by omega
        have hi2 : (1 + (f : Int) + (k : Int)).toNat = 1 + f + k := by omega
        have H7 : (0 : Int) ≤ 7 - (k : Int) := by omega
        have HS2 := Lib.hid (And.intro hset hv)
        clear hset hX hlen hv
        go_wp2_with fail
        go_roundw
        case rel =>
          refine ⟨k + 1, by omega, by go_num, ?_, Below.setCell hkp (by simp) _⟩
          have h := hB.set (1 + f + k) (UInt8.ofNat X) HS2.out.1
          rw [HS2.out.2] at h
          exact h
        case measure => simp [intOf]; omega
      · obtain rfl : k = 8 := by omega
        have hm : mixB (List.replicate (9 + f) 0) (pad n) (1 + f + 8) = pad n := by
          rw [show 1 + f + 8 = (pad n).length by rw [HL.out]; omega]
          exact mixB_all _ _ (by rw [HL.out]; simp)
        rw [hm] at hB
        clear hm
        go_wp2_with fail
        go_ret
        exact ⟨⟨_, rfl, hB.rdAll (by rw [HL.out]) (Nat.le_refl _) (by unfold maxLen; omega)⟩, hkp⟩
  · have hp : padOf n = [] := if_neg h0
    rw [hp]
    by_cases h : n < 0
    · go_enter Tryz.func93, Tryz.ntmps93
      go_wp2
      go_ret
      exact ⟨⟨_, rfl, none, 0, rfl, Nat.le_refl _, Nat.zero_le _, fun _ => rfl, fun x hx => by cases hx⟩, Kp.refl _⟩
    · have h2 : 1125899906842624 < n := by omega
      clear h0
      go_enter Tryz.func93, Tryz.ntmps93
      go_wp2
      go_ret
      exact ⟨⟨_, rfl, none, 0, rfl, Nat.le_refl _, Nat.zero_le _, fun _ => rfl, fun x hx => by cases hx⟩, Kp.refl _⟩
end Go.Proofs.YtdcbljfacmidjaaGreat

/- pyxref02.Pad. -/
set_option linter.unusedVariables false
set_option linter.unusedSimpArgs false
namespace Go.Proofs.YtdcbljfacmidjaaGreat
open Go.RowKit

set_option maxHeartbeats 1000000 in
theorem refPad_any (n : Int) (w : World) :
    Calls Tryz.prog 73 #[.int .i64 n] w fun e w' => (∃ v, e = .returned v ∧ Rd w' v (padOf n)) ∧ Kp w w' := by
  have U := u8
  by_cases h0 : 0 ≤ n ∧ n ≤ 1125899906842624
  · have hp : padOf n = pad n.toNat := if_pos h0
    rw [hp]
    clear hp
    obtain ⟨h0, h1⟩ := h0
    obtain ⟨n, rfl⟩ := Int.eq_ofNat_of_zero_le h0
    rw [Int.toNat_natCast]
    obtain ⟨f, hf⟩ : ∃ f, fill n = f := ⟨_, rfl⟩
    have hfl := fill_lt n
    have hfz : ∀ k : Nat, k ≤ f → (((n : Int) + ((k : Int) + 1) + 8) % 64 = 0 ↔ k = f) := fun k hk => by
      have : f = (119 - n % 64) % 64 := hf.symm
      omega
    have hp : pad n = 128 :: List.replicate f 0 ++ be 8 (8 * n) := by unfold pad; rw [hf]
    rw [hf] at hfl
    have HFZ := Lib.hid hfz
    have HP := Lib.hid hp
    have HB := Lib.hid h1
    have hw : IntKind.i64.wrap (8 * (n : Int)) = 8 * (n : Int) := by rw [IntKind.wrap_i64]; omega
    clear hf hfz hp
    go_enter Tryz.func73, Tryz.ntmps73
    go_wp2_with fail
    go_loopw [3] (fun v wr => ∃ k : Nat, k ≤ f ∧ Ow 5 wr w.heap.size v (128 :: List.replicate k 0) ∧ Kp w wr) (fun v wr => f - (match v with | .slice _ n _ => n - 1 | _ => 0))
    case atStart => exact ⟨0, by omega, Ow.lit w 5 w.heap.size 1 _ [128] (Nat.le_refl _) rfl (by decide) rfl, (Kp.refl w).alloc _⟩
    case round =>
      obtain ⟨k, hk, hown, hkp⟩ := hrel
      obtain ⟨a, c, rfl, hc1, hc2⟩ := hown.rd.shape
      have hl : (128 :: List.replicate k 0 : List UInt8).length = k + 1 := by simp
      rw [hl] at hown hc1 ⊢
      unfold maxLen at hc2
      by_cases hlt : k < f
      · have hne : ¬ ((n : Int) + ((k : Int) + 1) + 8) % 64 = 0 := by rw [HFZ.out k hk]; omega
        go_wp2_with (at_builtin; refine wpList_append_ow U rfl _ _ rfl w.heap.size _ _ rfl (hown.kp ((Kp.refl _).alloc _)) _ [0] rfl (Rd.box _ _ _ 0 rfl) ?c1 ?c2 ?_; rotate_right; intro v' w2 ho2 hg _)
        case c1 => simp; omega
        case c2 => have := hkp.size; simp; omega
        have he : (128 :: List.replicate k 0 ++ [0] : List UInt8) = 128 :: List.replicate (k + 1) 0 := by rw [List.replicate_succ', List.cons_append]
        rw [he] at ho2
        go_roundw
        case rel => exact ⟨k + 1, by omega, ho2, Kp.grown (hkp.alloc _) hg hown.own_ge⟩
        case measure =>
          obtain ⟨a', c', rfl, _, _⟩ := ho2.rd.shape
          simp
          omega
      · obtain rfl : k = f := by omega
        have hne : ((n : Int) + ((k : Int) + 1) + 8) % 64 = 0 := (HFZ.out k (Nat.le_refl _)).2 rfl
        clear hlt
        go_wp2_with fail
        go_loopw [3, 5] (fun v i wr => ∃ j : Nat, j ≤ 8 ∧ i = .int .i64 (56 - 8 * (j : Int)) ∧ Ow 5 wr w.heap.size v (128 :: List.replicate k 0 ++ (be 8 (8 * n)).take j) ∧ Kp w wr) (fun _ i _ => (64 + intOf i).toNat)
        case atStart => exact ⟨0, by omega, rfl, by rw [List.take_zero, List.append_nil]; exact hown, hkp⟩
        case round =>
          clear hown hkp hne hc1 hc2
          obtain ⟨j, hj, rfl, hown, hkp⟩ := hrel
          by_cases hlt : j < 8
          · have e2 : (8 * (n : Int)) / 2 ^ (56 - 8 * j) = ((8 * n / 256 ^ (7 - j) : Nat) : Int) := by
              have : (256 : Nat) ^ (7 - j) = 2 ^ (56 - 8 * j) := by rw [show 56 - 8 * j = 8 * (7 - j) by omega, Nat.pow_mul]
              rw [this]
              simp
            have e1 : (56 - 8 * (j : Int)).toNat = 56 - 8 * j := by omega
            have hj0 : 0 ≤ 56 - 8 * (j : Int) := by omega
            have hget := be_get 8 (8 * n) j hlt
            have htk : (be 8 (8 * n)).take (j + 1) = (be 8 (8 * n)).take j ++ [UInt8.ofNat (8 * n / 256 ^ (7 - j))] := by
              have hlt' : j < (be 8 (8 * n)).length := by rw [be_length]; exact hlt
              rw [List.take_succ_eq_append_getElem hlt']
              rw [List.getElem?_eq_getElem hlt'] at hget
              rw [Option.some.inj hget]
            obtain ⟨X, hX⟩ : ∃ X, 8 * n / 256 ^ (7 - j) = X := ⟨_, rfl⟩
            rw [hX] at e2 htk
            obtain ⟨bx, hbx⟩ : ∃ b : UInt8, UInt8.ofNat X = b := ⟨_, rfl⟩
            have hv : (X : Int) % 256 = (bx.toNat : Int) := by rw [← hbx]; simp
            rw [hbx] at htk
            have hlen : (128 :: List.replicate k 0 ++ (be 8 (8 * n)).take j : List UInt8).length ≤ 100 := by simp [be_length]; omega
            have HT := Lib.hid htk
            obtain ⟨L, hL⟩ : ∃ L, (128 :: List.replicate k 0 ++ (be 8 (8 * n)).take j : List UInt8) = L := ⟨_, rfl⟩
            rw [hL] at hown hlen
            have HL := Lib.hid hL
            have hu8 : IntKind.u8.wrap (X : Int) = (bx.toNat : Int) := by rw [IntKind.wrap_u8, hv]
            have HB2 := Lib.hid hbx
            clear htk hget hX hL hbx
            go_wp2_with (at_builtin; refine wpList_append_ow U rfl _ _ rfl w.heap.size _ _ rfl (hown.kp ((Kp.refl _).alloc _)) _ [bx] rfl (Rd.box _ _ _ bx rfl) ?c1 ?c2 ?_; rotate_right; intro v' w2 ho2 hg _)
            case c1 => simp; omega
            case c2 => have := hkp.size; simp; omega
            go_roundw
            case rel => exact ⟨j + 1, by omega, by congr 1; omega, by rw [HT.out, ← List.append_assoc, HL.out]; exact ho2, Kp.grown (hkp.alloc _) hg hown.own_ge⟩
            case measure => simp [intOf]; omega
          · obtain rfl : j = 8 := by omega
            rw [List.take_of_length_le (by rw [be_length]; exact Nat.le_refl _)] at hown
            rw [← HP.out] at hown
            go_wp2_with fail
            go_ret
            exact ⟨⟨_, rfl, hown.rd⟩, hkp⟩
  · have hp : padOf n = [] := if_neg h0
    rw [hp]
    by_cases h : n < 0
    · go_enter Tryz.func73, Tryz.ntmps73
      go_wp2
      go_ret
      exact ⟨⟨_, rfl, none, 0, rfl, Nat.le_refl _, Nat.zero_le _, fun _ => rfl, fun x hx => by cases hx⟩, Kp.refl _⟩
    · have h2 : 1125899906842624 < n := by omega
      clear h0
      go_enter Tryz.func73, Tryz.ntmps73
      go_wp2
      go_ret
      exact ⟨⟨_, rfl, none, 0, rfl, Nat.le_refl _, Nat.zero_le _, fun _ => rfl, fun x hx => by cases hx⟩, Kp.refl _⟩
end Go.Proofs.YtdcbljfacmidjaaGreat

/- sha.schedule: a block's words. -/
set_option linter.unusedVariables false
set_option linter.unusedSimpArgs false
namespace Go.Proofs.YtdcbljfacmidjaaGreat
open Go.RowKit

attribute [local go_sem] u_wrap u_add u_xor u_and u_or u_shl u_shr

def zeros (n : Nat) : List UInt32 := List.replicate n 0
theorem zeros_length (n : Nat) : (zeros n).length = n := by simp [zeros]
theorem sched_length (l : List UInt8) : ∀ t, (sched l t).length = t
  | 0 => rfl
  | t + 1 => by simp [sched, sched_length l t]
/-- The row of words with t of them laid. -/
def upto (l : List UInt8) (t : Nat) : List UInt32 := sched l t ++ zeros (64 - t)
theorem upto_length (l : List UInt8) (t : Nat) (h : t ≤ 64) : (upto l t).length = 64 := by simp [upto, sched_length, zeros_length]; omega
theorem upto_set (l : List UInt8) (t : Nat) (h : t < 64) : (upto l t).set t (nextWord l (sched l t) t) = upto l (t + 1) := by
  unfold upto zeros
  rw [List.set_append_right _ _ (by rw [sched_length]; omega), sched_length, Nat.sub_self, show 64 - t = (64 - (t + 1)) + 1 by omega, List.replicate_succ]
  simp [sched]
theorem upto_get (l : List UInt8) (t i : Nat) (h : i < t) : (upto l t).getD i 0 = (sched l t).getD i 0 := by
  unfold upto
  rw [List.getD_eq_getElem?_getD, List.getElem?_append_left (by rw [sched_length]; exact h), List.getD_eq_getElem?_getD]
theorem upto_all (l : List UInt8) : upto l 64 = sched l 64 := by simp [upto, zeros]

theorem wcells_zeros (n : Nat) : wcells (zeros n) = Array.replicate n (.int .u32 0) := by
  apply Array.ext'
  simp [wcells, zeros, wcell, u]

theorem wraps_u32 (n : Int) (h₀ : 0 ≤ n) (h₁ : n < 2 ^ 32) : IntKind.u32.wrap n = n := by rw [IntKind.wrap_u32]; omega
/-- The steps from four bytes to a word, by shifts and 'or'. -/
theorem word_ors (a b c d : UInt8) :
    (IntKind.u32.wrap (ub a) = ub a ∧ IntKind.u32.wrap (ub b) = ub b ∧ IntKind.u32.wrap (ub c) = ub c ∧ IntKind.u32.wrap (ub d) = ub d) ∧
    (IntKind.u32.wrap (ub a * 16777216) = ub a * 16777216 ∧ IntKind.u32.wrap (ub b * 65536) = ub b * 65536 ∧ IntKind.u32.wrap (ub c * 256) = ub c * 256) ∧
    (bits .or .u32 (ub a * 16777216) (ub b * 65536) = ub a * 16777216 + ub b * 65536 ∧
     bits .or .u32 (ub a * 16777216 + ub b * 65536) (ub c * 256) = ub a * 16777216 + ub b * 65536 + ub c * 256 ∧
     bits .or .u32 (ub a * 16777216 + ub b * 65536 + ub c * 256) (ub d) = u (wordOf a b c d)) := by
  have hs := wordOf_sum a b c d
  have a0 := ub_nonneg a
  have b0 := ub_nonneg b
  have c0 := ub_nonneg c
  have d0 := ub_nonneg d
  have a1 := ub_lt a
  have b1 := ub_lt b
  have c1 := ub_lt c
  have d1 := ub_lt d
  refine ⟨⟨wraps_u32 _ (by omega) (by omega), wraps_u32 _ (by omega) (by omega), wraps_u32 _ (by omega) (by omega), wraps_u32 _ (by omega) (by omega)⟩,
    ⟨wraps_u32 _ (by omega) (by omega), wraps_u32 _ (by omega) (by omega), wraps_u32 _ (by omega) (by omega)⟩, ?_, ?_, ?_⟩
  · exact bits_join .u32 32 (by decide) wraps_u32 24 _ _ (by omega) (by omega) (by omega) (by omega) (by omega) (by omega)
  · exact bits_join .u32 32 (by decide) wraps_u32 16 _ _ (by omega) (by omega) (by omega) (by omega) (by omega) (by omega)
  · rw [bits_join .u32 32 (by decide) wraps_u32 8 _ _ (by omega) (by omega) (by omega) (by omega) (by omega) (by omega), hs]

def got (W : World) (p : Addr) : Value := (W.cell? p).getD undef
/-- The row at block g + 1 is L but for place t; the one at g is still of noughts. -/
def So (T : TypeId) (w : World) (g : Nat) (L : List UInt32) (t : Nat) (W : World) : Prop := ∃ x, Arr T W (g + 1) (L.set t x) ∧ Arr T W g (zeros 64) ∧ Below g w W
theorem So.start {T : TypeId} {w W : World} {g : Nat} {L : List UInt32} {t : Nat} (ht : t < L.length) (h : Arr T W (g + 1) L) (h0 : Arr T W g (zeros 64)) (hk : Below g w W) : So T w g L t W :=
  ⟨L[t], by rw [List.set_getElem_self]; exact h, h0, hk⟩
theorem So.drewN {T : TypeId} {w W : World} {g : Nat} {L : List UInt32} {t : Nat} (h : So T w g L t W) (n : Nat) : So T w g L t (W.drewN n) := by
  obtain ⟨x, h1, h2, h3⟩ := h
  exact ⟨x, h1.drewN n, h2.drewN n, h3.trans ((Kp.refl W).drewN n |>.mono (by have := h2.lt; omega))⟩
theorem So.drew {T : TypeId} {w W : World} {g : Nat} {L : List UInt32} {t : Nat} (h : So T w g L t W) : So T w g L t W.drew := h.drewN 1
theorem So.set {T : TypeId} {w W : World} {g : Nat} {L : List UInt32} {t : Nat} (h : So T w g L t W) (y : UInt32) : So T w g L t (W.setCell ⟨g + 1, t, none⟩ (.int .u32 (u y))) := by
  obtain ⟨x, h1, h2, h3⟩ := h
  refine ⟨y, ?_, h2.other _ _ (by simp), h3.setCell (p := ⟨g + 1, t, none⟩) (by simp) _⟩
  have := h1.set t y _ rfl
  rwa [List.set_set] at this
theorem So.facts {T : TypeId} {w W : World} {g : Nat} {L : List UInt32} {t : Nat} (ht : t < L.length) (h16 : 16 ≤ t) (x2 x7 x15 x16 : UInt32) (e2 : L.getD (t - 2) 0 = x2) (e7 : L.getD (t - 7) 0 = x7) (e15 : L.getD (t - 15) 0 = x15) (e16 : L.getD (t - 16) 0 = x16)
    (h : So T w g L t W) : W.cell? ⟨g + 1, t - 2, none⟩ = some (.int .u32 (u x2)) ∧ W.cell? ⟨g + 1, t - 7, none⟩ = some (.int .u32 (u x7)) ∧ W.cell? ⟨g + 1, t - 15, none⟩ = some (.int .u32 (u x15)) ∧ W.cell? ⟨g + 1, t - 16, none⟩ = some (.int .u32 (u x16)) ∧
      W.cell? ⟨g + 1, t, none⟩ = some (got W ⟨g + 1, t, none⟩) ∧ W.frozen? ⟨g + 1, t, none⟩ = false ∧ So T w g L t W := by
  have h' := h
  obtain ⟨x, h1, h2, h3⟩ := h'
  have hl : (L.set t x).length = L.length := by simp
  have k : ∀ i, i < t → W.cell? ⟨g + 1, i, none⟩ = some (.int .u32 (u (L.getD i 0))) := fun i hi => by
    have := h1.cell i (by rw [hl]; omega)
    rw [this, List.getD_eq_getElem?_getD, List.getElem?_set_ne (by omega), List.getD_eq_getElem?_getD]
  subst e2 e7 e15 e16
  refine ⟨k _ (by omega), k _ (by omega), k _ (by omega), k _ (by omega), ?_, h1.frozen t (by omega), h⟩
  have := h1.cell t (by omega)
  unfold got
  rw [this]
  rfl

set_option maxRecDepth 100000 in
set_option maxHeartbeats 1000000 in
theorem schedule_any (v : Value) (l : List UInt8) (w : World) (h : Rd w v l) (hl : l.length = 64) :
    Calls Tryz.prog 100 #[v] w fun e w' => e = .returned (.agg (wcells (sched l 64))) ∧ Kp w w' := by
  obtain ⟨a, c, rfl, h1, h2⟩ := h.shape
  rw [hl] at h h1 ⊢
  unfold maxLen at h2
  obtain ⟨b, off, rfl, hb, hc⟩ := h.row (by omega)
  go_enter Tryz.func100, Tryz.ntmps100
  go_wp2_with fail
  go_loopw [7] (fun i wr => ∃ t : Nat, t ≤ 16 ∧ i = .int .i64 t ∧ Arr 110 wr w.heap.size (zeros 64) ∧ Arr 110 wr (w.heap.size + 1) (upto l t) ∧ Kp w wr) (fun i _ => 16 - (intOf i).toNat)
  case atStart =>
    refine ⟨0, by omega, rfl, ?_, ?_, ((Kp.refl w).alloc _).alloc _⟩
    · exact (Arr.new _ _ _ (zeros 64) rfl).alloc _
    · have := Arr.new 110 (w.alloc (.cells (wcells (zeros 64)) 110)) (wcells (zeros 64)) (upto l 0) rfl
      rw [World.size_alloc] at this
      exact this
  case round =>
    obtain ⟨t, ht, rfl, hA0, hA, hk⟩ := hrel
    by_cases hlt : t < 16
    · have c0 := hk.cell (hc (4 * t) (by omega))
      have c1 := hk.cell (hc (4 * t + 1) (by omega))
      have c2 := hk.cell (hc (4 * t + 2) (by omega))
      have c3 := hk.cell (hc (4 * t + 3) (by omega))
      have hn : nextWord l (sched l t) t = wordOf (l.getD (4 * t) 0) (l.getD (4 * t + 1) 0) (l.getD (4 * t + 2) 0) (l.getD (4 * t + 3) 0) := by unfold nextWord; rw [if_pos hlt]
      have hset := (upto_set l t (by omega))
      rw [hn] at hset
      have hA' := hA.set t (wordOf (l.getD (4 * t) 0) (l.getD (4 * t + 1) 0) (l.getD (4 * t + 2) 0) (l.getD (4 * t + 3) 0)) _ rfl
      rw [hset] at hA'
      have hA0' := hA0.other ⟨w.heap.size + 1, t, none⟩ (.int .u32 (u (wordOf (l.getD (4 * t) 0) (l.getD (4 * t + 1) 0) (l.getD (4 * t + 2) 0) (l.getD (4 * t + 3) 0)))) (by simp)
      have hk' := Below.setCell hk (p := ⟨w.heap.size + 1, t, none⟩) (by simp) (.int .u32 (u (wordOf (l.getD (4 * t) 0) (l.getD (4 * t + 1) 0) (l.getD (4 * t + 2) 0) (l.getD (4 * t + 3) 0))))
      have ca := hA.cell t (by rw [upto_length l t (by omega)]; omega)
      have cf := hA.frozen t (by rw [upto_length l t (by omega)]; omega)
      generalize l.getD (4 * t) 0 = x0 at *
      generalize l.getD (4 * t + 1) 0 = x1 at *
      generalize l.getD (4 * t + 2) 0 = x2 at *
      generalize l.getD (4 * t + 3) 0 = x3 at *
      obtain ⟨⟨v0, v1, v2, v3⟩, ⟨m0, m1, m2⟩, o1, o2, o3⟩ := word_ors x0 x1 x2 x3
      simp only [← Nat.add_assoc] at c1 c2 c3
      have H := Lib.hid hset
      have e4 : 4 * t + 4 - 4 * t = 4 := by omega
      clear hc hset hn
      go_wp2_with fail
      rw [e4]
      have ht64 : (t : Int) < 64 := by omega
      go_still_tail 24, (by kernel_rfl)
      go_wp2_with fail
      go_roundw
      case rel => exact ⟨t + 1, by omega, by go_num, hA0'.drew, hA'.drew, hk'.drew⟩
      case measure => simp [intOf]; omega
    · obtain rfl : t = 16 := by omega
      clear hc hlt ht
      go_wp2_with fail
      go_loopw [6] (fun i wr => ∃ t : Nat, 16 ≤ t ∧ t ≤ 64 ∧ i = .int .i64 t ∧ Arr 110 wr w.heap.size (zeros 64) ∧ Arr 110 wr (w.heap.size + 1) (upto l t) ∧ Kp w wr) (fun i _ => 64 - (intOf i).toNat)
      case atStart => exact ⟨16, by omega, by omega, rfl, hA0, hA, hk⟩
      case round =>
        clear hA0 hA hk
        obtain ⟨t, h16, ht, rfl, hA0, hA, hk⟩ := hrel
        by_cases hlt : t < 64
        · have hlen := upto_length l t (by omega)
          have hn : nextWord l (sched l t) t = wadd (wadd (wadd (small 17 19 10 ((upto l t).getD (t - 2) 0)) ((upto l t).getD (t - 7) 0)) (small 7 18 3 ((upto l t).getD (t - 15) 0))) ((upto l t).getD (t - 16) 0) := by
            unfold nextWord
            rw [if_neg (by omega), upto_get l t _ (by omega), upto_get l t _ (by omega), upto_get l t _ (by omega), upto_get l t _ (by omega)]
          have hset := (upto_set l t (by omega))
          rw [hn] at hset
          obtain ⟨x2, e2⟩ : ∃ x, (upto l t).getD (t - 2) 0 = x := ⟨_, rfl⟩
          obtain ⟨x7, e7⟩ : ∃ x, (upto l t).getD (t - 7) 0 = x := ⟨_, rfl⟩
          obtain ⟨x15, e15⟩ : ∃ x, (upto l t).getD (t - 15) 0 = x := ⟨_, rfl⟩
          obtain ⟨x16, e16⟩ : ∃ x, (upto l t).getD (t - 16) 0 = x := ⟨_, rfl⟩
          rw [e2, e7, e15, e16] at hset
          have F : ∀ W, So 110 w w.heap.size (upto l t) t W → _ := fun W h => So.facts (by omega) h16 x2 x7 x15 x16 e2 e7 e15 e16 h
          have HF := Lib.hid F
          have S0 : So 110 w w.heap.size (upto l t) t wr := So.start (by omega) hA hA0 hk
          have i2 : IntKind.i64.wrap ((t : Int) - 2) = (t : Int) - 2 := IntWalk.i64_in _ (by omega)
          have i7 : IntKind.i64.wrap ((t : Int) - 7) = (t : Int) - 7 := IntWalk.i64_in _ (by omega)
          have i15 : IntKind.i64.wrap ((t : Int) - 15) = (t : Int) - 15 := IntWalk.i64_in _ (by omega)
          have i16 : IntKind.i64.wrap ((t : Int) - 16) = (t : Int) - 16 := IntWalk.i64_in _ (by omega)
          have n2 : ((t : Int) - 2).toNat = t - 2 := by omega
          have n7 : ((t : Int) - 7).toNat = t - 7 := by omega
          have n15 : ((t : Int) - 15).toNat = t - 15 := by omega
          have n16 : ((t : Int) - 16).toNat = t - 16 := by omega
          have p2 : (2 : Int) ≤ (t : Int) := by omega
          have p7 : (7 : Int) ≤ (t : Int) := by omega
          have p15 : (15 : Int) ≤ (t : Int) := by omega
          have p16 : (16 : Int) ≤ (t : Int) := by omega
          have q2 : (t : Int) - 2 < 64 := by omega
          have q7 : (t : Int) - 7 < 64 := by omega
          have q15 : (t : Int) - 15 < 64 := by omega
          have q16 : (t : Int) - 16 < 64 := by omega
          have q : (t : Int) < 64 := by omega
          have H := Lib.hid hset
          clear hset hn hlen F e2 e7 e15 e16
          go_wp2_with fail
          go_region_held3 (fun W => W.cell? ⟨w.heap.size + 1, t - 2, none⟩ = some (.int .u32 (u x2)) ∧ W.cell? ⟨w.heap.size + 1, t - 7, none⟩ = some (.int .u32 (u x7)) ∧ W.cell? ⟨w.heap.size + 1, t - 15, none⟩ = some (.int .u32 (u x15)) ∧ W.cell? ⟨w.heap.size + 1, t - 16, none⟩ = some (.int .u32 (u x16)) ∧ W.cell? ⟨w.heap.size + 1, t, none⟩ = some (got W ⟨w.heap.size + 1, t, none⟩) ∧ W.frozen? ⟨w.heap.size + 1, t, none⟩ = false ∧ So 110 w w.heap.size (upto l t) t W)
            (first
              | (with_reducible exact HF.out _ (S0.drew))
              | (with_reducible exact HF.out _ (S0.drewN _))
              | (with_reducible exact HF.out _ ((S0.drewN _).set _)))
            (first
              | (go_at_call 103; (with_reducible refine (shifted_1 _ _).mono ?_); rintro e w' ⟨rfl, n, rfl⟩)
              | (go_at_call 103; (with_reducible refine (shifted_0 _ _).mono ?_); rintro e w' ⟨rfl, n, rfl⟩))
          all_goals
            go_wp2_with fail
            go_roundw
            case rel =>
              repeat apply Exists.intro
              refine ⟨?_, rfl⟩
              exact ⟨t + 1, by omega, by omega, by go_num, (hA0.drewN _).other _ _ (by simp), (hA.drewN _).setTo t _ H.out, Below.setCell (hk.drewN _) (by simp) _⟩
            case measure => simp [intOf]; omega
        · obtain rfl : t = 64 := by omega
          rw [upto_all] at hA
          have hle := hk.size
          go_wp2_with (first
            | (refine wpList_load_arr Tryz.underlying110 (by kernel_rfl) rfl (.tmp 3) rfl (w.heap.size + 1) (sched l 64) rfl hA (sched_length l 64) ?_)
            | (refine wpList_store_arr (by kernel_rfl) rfl (.tmp 2) (.tmp 69) rfl w.heap.size (zeros 64) (sched l 64) rfl rfl hA0 (zeros_length 64) (sched_length l 64) ?_))
          refine bodyPost_ret (results_arr Tryz.underlying110 (by kernel_rfl) rfl _ _ w.heap.size (sched l 64) rfl (hA0.setRow _) (sched_length l 64)) rfl ?_
          exact ⟨rfl, below_setRow hk (Nat.le_refl _) _⟩
end Go.Proofs.YtdcbljfacmidjaaGreat

/- sha.behind: eight words behind a block. -/
set_option linter.unusedVariables false
set_option linter.unusedSimpArgs false
namespace Go.Proofs.YtdcbljfacmidjaaGreat
open Go.RowKit

attribute [local go_sem] u_wrap u_add u_xor u_and u_or u_shl u_shr

theorem u_not (x : UInt32) : bits .xor .u32 IntKind.u32.max (u x) = u (wnot x) := by
  have : IntKind.u32.max = u 0xffffffff := by decide
  rw [this, u_xor]
  rfl
attribute [local go_sem] u_not
theorem S8.length (s : S8) : s.list.length = 8 := rfl
/-- The first i of B's, then A's. -/
def mix (A B : List UInt32) (i : Nat) : List UInt32 := B.take i ++ A.drop i
theorem mix_length (A B : List UInt32) (i : Nat) (h : A.length = B.length) (hi : i ≤ A.length) : (mix A B i).length = A.length := by simp [mix]; omega
theorem mix_set (A B : List UInt32) (i : Nat) (h : A.length = B.length) (hi : i < A.length) (x : UInt32) (hx : B.getD i 0 = x) : (mix A B i).set i x = mix A B (i + 1) := by
  unfold mix
  have hb : i < B.length := by omega
  have hl : (B.take i).length = i := by simp; omega
  rw [List.getD_eq_getElem?_getD, List.getElem?_eq_getElem hb] at hx
  rw [List.set_append_right _ _ (by omega), hl, Nat.sub_self, List.drop_eq_getElem_cons hi, List.set_cons_zero, List.take_succ_eq_append_getElem hb, List.append_assoc]
  simp only [Option.getD_some] at hx
  rw [hx]
  rfl
theorem mix_get (A B : List UInt32) (i : Nat) (h : A.length = B.length) (hi : i < A.length) : (mix A B i).getD i 0 = A.getD i 0 := by
  unfold mix
  have hl : (B.take i).length = i := by simp; omega
  rw [List.getD_eq_getElem?_getD, List.getElem?_append_right (by omega), hl, Nat.sub_self, List.drop_eq_getElem_cons hi, List.getD_eq_getElem?_getD, List.getElem?_eq_getElem hi]
  rfl

theorem add_get (s r : S8) (i : Nat) (h : i < 8) : (s.add r).list.getD i 0 = wadd (s.list.getD i 0) (r.list.getD i 0) := by
  match i, h with
  | 0, _ => rfl
  | 1, _ => rfl
  | 2, _ => rfl
  | 3, _ => rfl
  | 4, _ => rfl
  | 5, _ => rfl
  | 6, _ => rfl
  | 7, _ => rfl

theorem u32_info : ∃ ie, Tryz.prog.info? 95 = some ie ∧ ie.size = 1 := by
  have h : (Tryz.prog.info? 95).map (·.size) = some 1 := by kernel_rfl
  cases hq : Tryz.prog.info? 95 with
  | none => rw [hq] at h; cases h
  | some ie => rw [hq] at h; exact ⟨ie, rfl, by simpa using h⟩

set_option maxRecDepth 100000 in
set_option maxHeartbeats 2000000 in
theorem behind_any (s : S8) (v : Value) (l : List UInt8) (gk : Nat) (k : List UInt32) (w : World) (h : Rd w v l) (hl : l.length = 64) (hk : Arr 110 w gk k) (hkl : k.length = 64) :
    Calls Tryz.prog 92 #[.agg (wcells s.list), v, .pointer (some ⟨gk, 0, none⟩)] w fun e w' => e = .returned (.agg (wcells (comp k s l).list)) ∧ Kp w w' := by
  obtain ⟨a, c, rfl, h1, h2⟩ := h.shape
  rw [hl] at h h1 ⊢
  have HL := Lib.hid hl
  have HKL := Lib.hid hkl
  clear hl hkl
  go_enter Tryz.func92, Tryz.ntmps92
  go_wp2_with fail
  refine (schedule_any _ l _ (h.kp (((Kp.refl _).alloc _).alloc _)) HL.out).mono ?_
  rintro e w1 ⟨rfl, hk1⟩
  have hB : Arr 96 w1 w.heap.size s.list := ((Arr.new _ w (wcells s.list) s.list rfl).alloc _).kp hk1
  have hR : Arr 96 w1 (w.heap.size + 1) (zeros 8) := by
    have := Arr.new 96 (w.alloc (.cells (wcells s.list) 96)) (wcells (zeros 8)) (zeros 8) rfl
    rw [World.size_alloc] at this
    exact this.kp hk1
  have hkw : Kp w w1 := (((Kp.refl w).alloc _).alloc _).trans hk1
  have hkk := hk.kp hkw
  go_wp2_with (first
    | (refine wpList_store_arr' (by kernel_rfl) rfl rfl (.tmp 7) (.tmp 24) rfl w1.heap.size (zeros 64) (sched l 64) rfl rfl (Arr.new _ _ _ _ rfl) (zeros_length 64) (sched_length l 64) ?_; intro w2 hW hbut))
  have hB2 := hbut.arr (hB.alloc _) (by have := hB.lt; omega)
  have hR2 := hbut.arr (hR.alloc _) (by have := hR.lt; omega)
  have hk2 := hbut.arr (hkk.alloc _) (by have := hkk.lt; omega)
  have hkp2 : Kp w w2 := hbut.below (hkw.alloc _) (hkw.size)
  clear hbut hB hR hkk hkw hk1 hk h
  have c0 : w2.cell? ⟨w.heap.size, 0, none⟩ = some (.int .u32 (u s.a)) := hB2.cell 0 (Nat.lt_of_sub_eq_succ rfl)
  have c1 : w2.cell? ⟨w.heap.size, 1, none⟩ = some (.int .u32 (u s.b)) := hB2.cell 1 (Nat.lt_of_sub_eq_succ rfl)
  have c2 : w2.cell? ⟨w.heap.size, 2, none⟩ = some (.int .u32 (u s.c)) := hB2.cell 2 (Nat.lt_of_sub_eq_succ rfl)
  have c3 : w2.cell? ⟨w.heap.size, 3, none⟩ = some (.int .u32 (u s.d)) := hB2.cell 3 (Nat.lt_of_sub_eq_succ rfl)
  have c4 : w2.cell? ⟨w.heap.size, 4, none⟩ = some (.int .u32 (u s.e)) := hB2.cell 4 (Nat.lt_of_sub_eq_succ rfl)
  have c5 : w2.cell? ⟨w.heap.size, 5, none⟩ = some (.int .u32 (u s.f)) := hB2.cell 5 (Nat.lt_of_sub_eq_succ rfl)
  have c6 : w2.cell? ⟨w.heap.size, 6, none⟩ = some (.int .u32 (u s.g)) := hB2.cell 6 (Nat.lt_of_sub_eq_succ rfl)
  have c7 : w2.cell? ⟨w.heap.size, 7, none⟩ = some (.int .u32 (u s.h)) := hB2.cell 7 (Nat.lt_of_sub_eq_succ rfl)
  go_quiet (fail)
  clear c0 c1 c2 c3 c4 c5 c6 c7
  go_wp2_with fail
  obtain ⟨w3, hw3⟩ : ∃ w3, w2.drewN nq = w3 := ⟨_, rfl⟩
  have hB3 := hB2.drewN nq
  have hR3 := hR2.drewN nq
  have hk3 := hk2.drewN nq
  have hW3 := hW.drewN nq
  have hkp3 : Kp w (w2.drewN nq) := hkp2.drewN nq
  rw [hw3] at hB3 hR3 hk3 hW3 hkp3 ⊢
  clear hw3 hB2 hR2 hk2 hW hkp2
  have HKL2 := HKL.out
  have HWL := sched_length l 64
  go_loopw [8, 9, 10, 11, 12, 13, 14, 15, 41] (fun sa sb sc sd se sf sg sh i wr => ∃ t : Nat, t ≤ 64 ∧ i = .int .i64 t ∧ (∃ r, r = rnds k (sched l 64) s t ∧ sa = .int .u32 (u r.a) ∧ sb = .int .u32 (u r.b) ∧ sc = .int .u32 (u r.c) ∧ sd = .int .u32 (u r.d) ∧ se = .int .u32 (u r.e) ∧ sf = .int .u32 (u r.f) ∧ sg = .int .u32 (u r.g) ∧ sh = .int .u32 (u r.h)) ∧ ∃ n, wr = w3.drewN n) (fun _ _ _ _ _ _ _ _ i _ => 64 - (intOf i).toNat)
  case atStart => exact ⟨0, by omega, rfl, ⟨s, rfl, rfl, rfl, rfl, rfl, rfl, rfl, rfl, rfl⟩, 0, rfl⟩
  case round =>
    obtain ⟨t, ht, rfl, ⟨r, hr, rfl, rfl, rfl, rfl, rfl, rfl, rfl, rfl⟩, n, rfl⟩ := hrel
    by_cases hlt : t < 64
    · have ck := (hk3.drewN n).cell t (by omega)
      have cw := (hW3.drewN n).cell t (by omega)
      have HR := Lib.hid hr
      have q : (t : Int) < 64 := by omega
      obtain ⟨wn, hwn⟩ : ∃ wn, w3.drewN n = wn := ⟨_, rfl⟩
      rw [hwn] at ck cw ⊢
      have HWN := Lib.hid hwn
      clear hr HKL2 HWL hwn
      have hsg : IntKind.u32.signed = false := rfl
      go_wp2_with ((go_at_call 101; refine (turned_a _ _).mono ?_; rintro e w' ⟨rfl, rfl⟩))
      go_quiet ((go_at_call 101; exact quiet_left (turned_e _ _)))
      go_wp2_with ((go_at_call 101; refine (turned_a _ _).mono ?_; rintro e w' ⟨rfl, rfl⟩))
      go_roundw
      case rel => exact ⟨t + 1, by omega, by go_num, ⟨rnd r (k.getD t 0) ((sched l 64).getD t 0), by rw [HR.out]; rfl, rfl, rfl, rfl, rfl, rfl, rfl, rfl, rfl⟩, n + nq, by rw [← HWN.out, World.drewN_drewN]⟩
      case measure => simp [intOf]; omega
    · obtain rfl : t = 64 := by omega
      have HR := Lib.hid hr
      have hB4 := hB3.drewN n
      have hR4 := hR3.drewN n
      have hkp4 : Kp w (w3.drewN n) := hkp3.drewN n
      obtain ⟨w4, hw4⟩ : ∃ w4, w3.drewN n = w4 := ⟨_, rfl⟩
      rw [hw4] at hB4 hR4 hkp4 ⊢
      clear hr HKL2 HWL hw4 hB3 hR3 hkp3 hk3 hW3 ht hlt
      go_wp2_with fail
      go_loopw [105] (fun i wr => ∃ t : Nat, t ≤ 8 ∧ i = .int .i64 t ∧ Arr 96 wr w.heap.size (mix s.list (s.add r).list t) ∧ Arr 96 wr (w.heap.size + 1) (zeros 8) ∧ Kp w wr) (fun i _ => 8 - (intOf i).toNat)
      case atStart => exact ⟨0, by omega, rfl, hB4, hR4, hkp4⟩
      case round =>
        clear hB4 hR4 hkp4
        obtain ⟨i, hi, rfl, hB, hR, hkp⟩ := hrel
        by_cases hlt : i < 8
        · have cb := hB.cell i (by rw [mix_length s.list (s.add r).list i rfl hi]; exact hlt)
          have cf := hB.frozen i (by rw [mix_length s.list (s.add r).list i rfl hi]; exact hlt)
          rw [mix_get s.list (s.add r).list i rfl hlt] at cb
          have hs := mix_set s.list (s.add r).list i rfl hlt _ (add_get s r i hlt)
          have hidx : ∀ W, (Instr.index 96 (.agg (wcells r.list)) (.int .i64 i)).run Tryz.prog W = .ok (.int .u32 (u (r.list.getD i 0))) W := fun W => by
            obtain ⟨ie, hie, hsz⟩ := u32_info
            exact run_index_arr W 96 95 8 ie _ Tryz.underlying96 hie hsz Tryz.underlying95 rfl _ rfl i hlt _ (wcells_get r.list i hlt)
          have hidx' : ∀ W, (Instr.index 96 (.agg #[.int .u32 (u r.a), .int .u32 (u r.b), .int .u32 (u r.c), .int .u32 (u r.d), .int .u32 (u r.e), .int .u32 (u r.f), .int .u32 (u r.g), .int .u32 (u r.h)]) (.int .i64 i)).run Tryz.prog W = .ok (.int .u32 (u (r.list.getD i 0))) W := hidx
          generalize s.list.getD i 0 = x at *
          generalize r.list.getD i 0 = y at *
          have HS := Lib.hid hs
          have q : (i : Int) < 8 := by omega
          clear hs hidx
          go_wp2_with fail
          go_roundw
          case rel => exact ⟨i + 1, by omega, by go_num, hB.setTo i _ HS.out, hR.other _ _ (by simp), Below.setCell hkp (by simp) _⟩
          case measure => simp [intOf]; omega
        · obtain rfl : i = 8 := by omega
          have hm : mix s.list (s.add r).list 8 = (s.add r).list := rfl
          rw [hm] at hB
          clear hm
          go_wp2_with (first
            | (refine wpList_load_arr Tryz.underlying96 (by kernel_rfl) rfl (.tmp 3) rfl w.heap.size (s.add r).list rfl hB rfl ?_)
            | (refine wpList_store_arr' (by kernel_rfl) rfl rfl (.tmp 6) (.tmp 116) rfl (w.heap.size + 1) (zeros 8) (s.add r).list rfl rfl hR rfl rfl ?_; intro w5 hR5 hbut))
          refine bodyPost_ret (results_arr Tryz.underlying96 (by kernel_rfl) rfl _ _ (w.heap.size + 1) (s.add r).list rfl hR5 rfl) rfl ?_
          exact ⟨by rw [HR.out]; rfl, hbut.below hkp (by omega)⟩
end Go.Proofs.YtdcbljfacmidjaaGreat

/- pyxref02.step: the document's own. -/
set_option linter.unusedVariables false
set_option linter.unusedSimpArgs false
namespace Go.Proofs.YtdcbljfacmidjaaGreat
open Go.RowKit

attribute [local go_sem] u_wrap u_add u_xor u_and u_or u_shl u_shr u_not u_shr3 u_shr10

set_option maxRecDepth 100000 in
set_option maxHeartbeats 2000000 in
theorem step_any (s : S8) (v : Value) (all : List UInt8) (at' : Nat) (gk ck : Nat) (k : List UInt32) (w : World) (h : Rd w v all) (hl : at' + 64 ≤ all.length) (hk : Arr 95 w gk k) (hkl : k.length = 64) :
    Calls Tryz.prog 76 #[.agg (wcells s.list), v, .int .i64 at', .slice (some ⟨gk, 0, none⟩) 64 ck] w fun e w' => e = .returned (.agg (wcells (comp k s ((all.drop at').take 64)).list)) ∧ Kp w w' := by
  obtain ⟨l, hL⟩ : ∃ l, (all.drop at').take 64 = l := ⟨_, rfl⟩
  rw [hL]
  have HKL := Lib.hid hkl
  have HLL := Lib.hid hL
  clear hL hkl
  go_enter Tryz.func76, Tryz.ntmps76
  go_wp2_with ((at_make; (refine wpList_make_fresh (z := .int .u32 0) (b := 4) Tryz.underlying93 (by kernel_rfl) rfl (by decide) rfl _ _ rfl 64 rfl rfl (by decide) ?_); intro w1 hw1; have HW1 := Lib.hid hw1; clear hw1))
  have hR : Arr 96 ((w.alloc (.cells (wcells s.list) 96)).alloc (.cells (wcells (zeros 8)) 96)) (w.heap.size + 1) (zeros 8) := by
    have := Arr.new 96 (w.alloc (.cells (wcells s.list) 96)) (wcells (zeros 8)) (zeros 8) rfl
    rw [World.size_alloc] at this
    exact this
  have hB0 : Arr 96 w1 w.heap.size s.list := by rw [HW1.out]; exact ((Arr.new _ w _ s.list rfl).alloc _).alloc _
  have hR0 : Arr 96 w1 (w.heap.size + 1) (zeros 8) := by rw [HW1.out]; exact hR.alloc _
  have hW0 : Arr 95 w1 (w.heap.size + 1 + 1) (upto l 0) := by
    rw [HW1.out]
    have := Arr.new 95 ((w.alloc (.cells (wcells s.list) 96)).alloc (.cells (wcells (zeros 8)) 96)) (wcells (zeros 64)) (upto l 0) rfl
    rw [World.size_alloc, World.size_alloc, wcells_zeros] at this
    exact this
  have hK0 : Kp w w1 := by rw [HW1.out]; exact (((Kp.refl w).alloc _).alloc _).alloc _
  clear hR
  go_loopw [10] (fun i wr => ∃ t : Nat, t ≤ 16 ∧ i = .int .i64 t ∧ Arr 96 wr w.heap.size s.list ∧ Arr 96 wr (w.heap.size + 1) (zeros 8) ∧ Arr 95 wr (w.heap.size + 1 + 1) (upto l t) ∧ Kp w wr) (fun i _ => 16 - (intOf i).toNat)
  case atStart => exact ⟨0, by omega, rfl, hB0, hR0, hW0, hK0⟩
  case round =>
    clear hB0 hR0 hW0 hK0 HW1
    obtain ⟨t, ht, rfl, hB, hR, hW, hkp⟩ := hrel
    by_cases hlt : t < 16
    · have hg : ∀ j, j < 64 → l.getD j 0 = all.getD (at' + j) 0 := fun j hj => by
        rw [← HLL.out, List.getD_eq_getElem?_getD, List.getElem?_take_of_lt hj, List.getElem?_drop, List.getD_eq_getElem?_getD]
      have hn : nextWord l (sched l t) t = wordOf (all.getD (at' + 4 * t) 0) (all.getD (at' + 4 * t + 1) 0) (all.getD (at' + 4 * t + 2) 0) (all.getD (at' + 4 * t + 3) 0) := by
        unfold nextWord
        rw [if_pos hlt, hg _ (by omega), hg _ (by omega), hg _ (by omega), hg _ (by omega)]
        simp only [Nat.add_assoc]
      have hset := (upto_set l t (by omega))
      rw [hn] at hset
      have HS := Lib.hid hset
      have hlen := upto_length l t (by omega)
      have hlenm : all.length ≤ maxLen := by
        obtain ⟨a, c, _, h1, h2⟩ := h.shape
        omega
      unfold maxLen at hlenm
      clear hg hn hset
      go_wp2_with fail
      refine (word_int _ v all (at' + 4 * t) _ (h.kp hkp) (by omega) (by simp)).mono ?_
      rintro e w' ⟨rfl, n, rfl⟩
      have ca := (hW.drewN n).cell t (by omega)
      have cf := (hW.drewN n).frozen t (by omega)
      have q : (t : Int) < 64 := by omega
      clear hlen
      go_wp2_with fail
      go_roundw
      case rel => exact ⟨t + 1, by omega, by go_num, (hB.drewN n).other _ _ (by simp; omega), (hR.drewN n).other _ _ (by simp), (hW.drewN n).setTo t _ HS.out, Below.setCell (hkp.drewN n) (by simp; omega) _⟩
      case measure => simp [intOf]; omega
    · obtain rfl : t = 16 := by omega
      clear ht hlt
      go_wp2_with fail
      go_loopw [11] (fun i wr => ∃ t : Nat, 16 ≤ t ∧ t ≤ 64 ∧ i = .int .i64 t ∧ Arr 96 wr w.heap.size s.list ∧ Arr 96 wr (w.heap.size + 1) (zeros 8) ∧ Arr 95 wr (w.heap.size + 1 + 1) (upto l t) ∧ Kp w wr) (fun i _ => 64 - (intOf i).toNat)
      case atStart => exact ⟨16, by omega, by omega, rfl, hB, hR, hW, hkp⟩
      case round =>
        clear hB hR hW hkp
        obtain ⟨t, h16, ht, rfl, hB, hR, hW, hkp⟩ := hrel
        by_cases hlt : t < 64
        · have hlen := upto_length l t (by omega)
          have hn : nextWord l (sched l t) t = wadd (wadd (wadd (small 17 19 10 ((upto l t).getD (t - 2) 0)) ((upto l t).getD (t - 7) 0)) (small 7 18 3 ((upto l t).getD (t - 15) 0))) ((upto l t).getD (t - 16) 0) := by
            unfold nextWord
            rw [if_neg (by omega), upto_get l t _ (by omega), upto_get l t _ (by omega), upto_get l t _ (by omega), upto_get l t _ (by omega)]
          have hset := (upto_set l t (by omega))
          rw [hn] at hset
          have c2 := hW.cell (t - 2) (by omega)
          have c7 := hW.cell (t - 7) (by omega)
          have c15 := hW.cell (t - 15) (by omega)
          have c16 := hW.cell (t - 16) (by omega)
          have ca := hW.cell t (by omega)
          have cf := hW.frozen t (by omega)
          generalize (upto l t).getD (t - 2) 0 = x2 at *
          generalize (upto l t).getD (t - 7) 0 = x7 at *
          generalize (upto l t).getD (t - 15) 0 = x15 at *
          generalize (upto l t).getD (t - 16) 0 = x16 at *
          have i2 : IntKind.i64.wrap ((t : Int) - 2) = (t : Int) - 2 := IntWalk.i64_in _ (by omega)
          have i7 : IntKind.i64.wrap ((t : Int) - 7) = (t : Int) - 7 := IntWalk.i64_in _ (by omega)
          have i15 : IntKind.i64.wrap ((t : Int) - 15) = (t : Int) - 15 := IntWalk.i64_in _ (by omega)
          have i16 : IntKind.i64.wrap ((t : Int) - 16) = (t : Int) - 16 := IntWalk.i64_in _ (by omega)
          have n2 : ((t : Int) - 2).toNat = t - 2 := by omega
          have n7 : ((t : Int) - 7).toNat = t - 7 := by omega
          have n15 : ((t : Int) - 15).toNat = t - 15 := by omega
          have n16 : ((t : Int) - 16).toNat = t - 16 := by omega
          have p2 : (2 : Int) ≤ (t : Int) := by omega
          have p7 : (7 : Int) ≤ (t : Int) := by omega
          have p15 : (15 : Int) ≤ (t : Int) := by omega
          have p16 : (16 : Int) ≤ (t : Int) := by omega
          have q2 : (t : Int) - 2 < 64 := by omega
          have q7 : (t : Int) - 7 < 64 := by omega
          have q15 : (t : Int) - 15 < 64 := by omega
          have q16 : (t : Int) - 16 < 64 := by omega
          have q : (t : Int) < 64 := by omega
          have HS := Lib.hid hset
          clear hset hn hlen
          go_wp2_with ((go_at_call 85; refine (turn_int _ _ _ (by decide) (by decide)).mono ?_; rintro e w' ⟨rfl, rfl⟩))
          go_still_tail 18, (by kernel_rfl)
          go_wp2_with fail
          go_roundw
          case rel =>
            repeat apply Exists.intro
            refine ⟨?_, rfl⟩
            exact ⟨t + 1, by omega, by omega, by go_num, (hB.other _ _ (by simp; omega)).drew, (hR.other _ _ (by simp)).drew, (hW.setTo t _ HS.out).drew, (Below.setCell hkp (by simp; omega) _).drew⟩
          case measure => simp [intOf]; omega
        · obtain rfl : t = 64 := by omega
          rw [upto_all] at hW
          have c0 : wr.cell? ⟨w.heap.size, 0, none⟩ = some (.int .u32 (u s.a)) := hB.cell 0 (Nat.lt_of_sub_eq_succ rfl)
          have c1 : wr.cell? ⟨w.heap.size, 1, none⟩ = some (.int .u32 (u s.b)) := hB.cell 1 (Nat.lt_of_sub_eq_succ rfl)
          have c2 : wr.cell? ⟨w.heap.size, 2, none⟩ = some (.int .u32 (u s.c)) := hB.cell 2 (Nat.lt_of_sub_eq_succ rfl)
          have c3 : wr.cell? ⟨w.heap.size, 3, none⟩ = some (.int .u32 (u s.d)) := hB.cell 3 (Nat.lt_of_sub_eq_succ rfl)
          have c4 : wr.cell? ⟨w.heap.size, 4, none⟩ = some (.int .u32 (u s.e)) := hB.cell 4 (Nat.lt_of_sub_eq_succ rfl)
          have c5 : wr.cell? ⟨w.heap.size, 5, none⟩ = some (.int .u32 (u s.f)) := hB.cell 5 (Nat.lt_of_sub_eq_succ rfl)
          have c6 : wr.cell? ⟨w.heap.size, 6, none⟩ = some (.int .u32 (u s.g)) := hB.cell 6 (Nat.lt_of_sub_eq_succ rfl)
          have c7 : wr.cell? ⟨w.heap.size, 7, none⟩ = some (.int .u32 (u s.h)) := hB.cell 7 (Nat.lt_of_sub_eq_succ rfl)
          have hk3 := hk.kp hkp
          clear h hl hk
          go_wp2_with fail
          have C := Lib.hid (And.intro c0 (And.intro c1 (And.intro c2 (And.intro c3 (And.intro c4 (And.intro c5 (And.intro c6 c7)))))))
          clear c0 c1 c2 c3 c4 c5 c6 c7
          have HKL2 := HKL.out
          have HWL := sched_length l 64
          go_loopw [16, 17, 18, 19, 20, 21, 22, 23, 24] (fun sa sb sc sd se sf sg sh i wq => ∃ t : Nat, t ≤ 64 ∧ i = .int .i64 t ∧ (∃ r, r = rnds k (sched l 64) s t ∧ sa = .int .u32 (u r.a) ∧ sb = .int .u32 (u r.b) ∧ sc = .int .u32 (u r.c) ∧ sd = .int .u32 (u r.d) ∧ se = .int .u32 (u r.e) ∧ sf = .int .u32 (u r.f) ∧ sg = .int .u32 (u r.g) ∧ sh = .int .u32 (u r.h)) ∧ ∃ n, wq = wr.drewN n) (fun _ _ _ _ _ _ _ _ i _ => 64 - (intOf i).toNat)
          case atStart => exact ⟨0, by omega, rfl, ⟨s, rfl, rfl, rfl, rfl, rfl, rfl, rfl, rfl, rfl⟩, 0, rfl⟩
          case round =>
            obtain ⟨t, ht, rfl, ⟨r, hr, rfl, rfl, rfl, rfl, rfl, rfl, rfl, rfl⟩, n, rfl⟩ := hrel
            by_cases hlt : t < 64
            · have ck := (hk3.drewN n).cell t (by omega)
              have cw := (hW.drewN n).cell t (by omega)
              have HR := Lib.hid hr
              have q : (t : Int) < 64 := by omega
              obtain ⟨wn, hwn⟩ : ∃ wn, wr.drewN n = wn := ⟨_, rfl⟩
              rw [hwn] at ck cw ⊢
              have HWN := Lib.hid hwn
              clear hr HKL2 HWL hwn
              have hsg : IntKind.u32.signed = false := rfl
              go_wp2_with fail
              go_quiet ((go_at_call 85; exact quiet_left (turn_int _ _ _ (by decide) (by decide))))
              go_wp2_with ((go_at_call 85; refine (turn_int _ _ _ (by decide) (by decide)).mono ?_; rintro e w' ⟨rfl, rfl⟩))
              go_roundw
              case rel =>
                repeat apply Exists.intro
                refine ⟨?_, rfl⟩
                exact ⟨t + 1, by omega, by go_num, ⟨rnd r (k.getD t 0) ((sched l 64).getD t 0), by rw [HR.out]; rfl, rfl, rfl, rfl, rfl, rfl, rfl, rfl, rfl⟩, n + nq, by rw [← HWN.out, World.drewN_drewN]⟩
              case measure => simp [intOf]; omega
            · obtain rfl : t = 64 := by omega
              have HR := Lib.hid hr
              clear hr HKL2 HWL
              obtain ⟨c0, c1, c2, c3, c4, c5, c6, c7⟩ := C.out
              go_wp2_with ((refine wpList_store_arr' (by kernel_rfl) rfl rfl (.tmp 8) (.tmp 206) rfl (w.heap.size + 1) (zeros 8) (s.add r).list rfl rfl (hR.drewN n) rfl rfl ?_; intro w5 hR5 hbut))
              refine bodyPost_ret (results_arr Tryz.underlying96 (by kernel_rfl) rfl _ _ (w.heap.size + 1) (s.add r).list rfl hR5 rfl) rfl ?_
              exact ⟨by rw [HR.out]; rfl, hbut.below (hkp.drewN n) (by omega)⟩
end Go.Proofs.YtdcbljfacmidjaaGreat

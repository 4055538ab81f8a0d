import Derived.Test.YtigpgcjbpoaclaaDoorC2
import Derived.Test.YtigpgcjbpoaclaaDoorProg
import Derived.IntWalk
import Derived.Lib.Hide
import Derived.BigQuiet
import Derived.Deep.QuietTactic
set_option linter.unusedVariables false
set_option linter.unusedSimpArgs false
namespace Go.Proofs.YtigpgcjbpoaclaaDoor
open Go.RowKit
attribute [local go_sem] u_wrap u_add u_xor u_and u_or u_shl u_shr
theorem and31 (x : Int) (h₀ : 0 ≤ x) (h₁ : x < 2 ^ 64) : bits .and .u64 x 31 = x % 32 :=
  bits_mask .u64 64 (by decide) (fun n h0 h1 => by simp [IntKind.wrap, IntKind.bits, IntKind.signed]; omega) 5 (by decide) x h₀ h₁
theorem turnBy (i : Nat) (h0 : 0 < i) (h1 : i < 32) : bits .and .u64 (IntKind.u64.wrap (-(i : Int))) 31 = 32 - (i : Int) := by
  have hw : IntKind.u64.wrap (-(i : Int)) = 18446744073709551616 - i := by
    simp [IntKind.wrap, IntKind.bits, IntKind.signed]; omega
  rw [hw, and31 _ (by omega) (by omega)]
  omega
set_option maxHeartbeats 400000 in
theorem rotate_any (i : Nat) (x : UInt32) (w : World) (h0 : 0 < i) (h1 : i < 32) :
    Calls Tryd.prog 106 #[.int .u32 (u x), .int .i64 (-(i : Int))] w fun e w' => e = .returned (.int .u32 (u (rotr i x))) ∧ w = w' := by
  have ht := turnBy i h0 h1
  have e1 : (32 - (i : Int)).toNat = 32 - i := by omega
  have e2 : IntKind.u64.wrap (32 - (32 - (i : Int))) = i := by simp [IntKind.wrap, IntKind.bits, IntKind.signed]; omega
  go_enter Tryd.func106, Tryd.ntmps106
  go_wp2
  go_ret
  exact ⟨by rw [wor_comm]; rfl, rfl⟩
set_option maxHeartbeats 400000 in
theorem turned_nat (i j k : Nat) (x : UInt32) (w : World) (hi : 0 < i ∧ i < 32) (hj : 0 < j ∧ j < 32) (hk : 0 < k ∧ k < 32) :
    Calls Tryd.prog 101 #[.int .u32 (u x), .int .i64 i, .int .i64 j, .int .i64 k] w fun e w' => e = .returned (.int .u32 (u (big i j k x))) ∧ w = w' := by
  have n : ∀ i : Nat, i < 32 → IntKind.i64.wrap (-(i : Int)) = -i := fun i h => by rw [IntKind.wrap_i64]; omega
  have ni := n i hi.2
  have nj := n j hj.2
  have nk := n k hk.2
  obtain ⟨hi0, hi1⟩ := hi
  obtain ⟨hj0, hj1⟩ := hj
  obtain ⟨hk0, hk1⟩ := hk
  clear n
  go_enter Tryd.func101, Tryd.ntmps101
  go_wp2_with ((go_at_call 106; refine (rotate_any _ _ _ (by assumption) (by assumption)).mono ?_; rintro e w' ⟨rfl, rfl⟩))
  go_ret
  exact ⟨rfl, rfl⟩
theorem turned_e (x : UInt32) (w : World) : Calls Tryd.prog 101 #[.int .u32 (u x), .int .i64 6, .int .i64 11, .int .i64 25] w fun e w' => e = .returned (.int .u32 (u (big 6 11 25 x))) ∧ w = w' :=
  turned_nat 6 11 25 x w (by decide) (by decide) (by decide)
theorem turned_a (x : UInt32) (w : World) : Calls Tryd.prog 101 #[.int .u32 (u x), .int .i64 2, .int .i64 13, .int .i64 22] w fun e w' => e = .returned (.int .u32 (u (big 2 13 22 x))) ∧ w = w' :=
  turned_nat 2 13 22 x w (by decide) (by decide) (by decide)
set_option maxHeartbeats 400000 in
theorem shifted_nat (i j k : Nat) (x : UInt32) (w : World) (hi : 0 < i ∧ i < 32) (hj : 0 < j ∧ j < 32) (hk : 0 < k ∧ k < 32) :
    Calls Tryd.prog 105 #[.int .u32 (u x), .int .i64 i, .int .i64 j, .int .i64 k] w fun e w' => e = .returned (.int .u32 (u (small i j k x))) ∧ ∃ n, w' = w.drewN n := by
  have n : ∀ i : Nat, i < 32 → IntKind.i64.wrap (-(i : Int)) = -i := fun i h => by rw [IntKind.wrap_i64]; omega
  have ni := n i hi.2
  have nj := n j hj.2
  have hs := u_shr k x
  obtain ⟨hi0, hi1⟩ := hi
  obtain ⟨hj0, hj1⟩ := hj
  obtain ⟨hk0, hk1⟩ := hk
  clear n
  go_enter Tryd.func105, Tryd.ntmps105
  go_wp2
  go_quiet ((go_at_call 106; exact quiet_left (rotate_any _ _ _ (by assumption) (by assumption))))
  go_wp2
  go_ret
  exact ⟨rfl, _, rfl⟩
theorem shifted_1 (x : UInt32) (w : World) : Calls Tryd.prog 105 #[.int .u32 (u x), .int .i64 17, .int .i64 19, .int .i64 10] w fun e w' => e = .returned (.int .u32 (u (small 17 19 10 x))) ∧ ∃ n, w' = w.drewN n :=
  shifted_nat 17 19 10 x w (by decide) (by decide) (by decide)
theorem shifted_0 (x : UInt32) (w : World) : Calls Tryd.prog 105 #[.int .u32 (u x), .int .i64 7, .int .i64 18, .int .i64 3] w fun e w' => e = .returned (.int .u32 (u (small 7 18 3 x))) ∧ ∃ n, w' = w.drewN n :=
  shifted_nat 7 18 3 x w (by decide) (by decide) (by decide)
def ub (b : UInt8) : Int := (b.toNat : Int)
theorem ub_nonneg (b : UInt8) : 0 ≤ ub b := Int.natCast_nonneg _
theorem ub_lt (b : UInt8) : ub b < 256 := by unfold ub; have := b.toNat_lt; omega
theorem wordOf_sum (a b c d : UInt8) : ub a * 16777216 + ub b * 65536 + ub c * 256 + ub d = u (wordOf a b c d) := by
  unfold wordOf ub
  have := a.toNat_lt
  have := b.toNat_lt
  have := c.toNat_lt
  have := d.toNat_lt
  rw [u_of _ (by omega)]
  omega
theorem Rd.row {w : World} {a : Option Addr} {n c : Nat} {l : List UInt8} (h : Rd w (.slice a n c) l) (hn : 0 < n) :
    ∃ b off, a = some ⟨b, off, none⟩ ∧ b < w.heap.size ∧ ∀ i, i < n → w.cell? ⟨b, off + i, none⟩ = some (.int .u8 (ub (l.getD i 0))) := h.at 0 hn
def nextRoot (n x : Nat) : Nat := (2 * x + n / (x * x)) / 3
def croot : Nat → Nat → Nat → Nat
  | 0, _, x => x
  | f + 1, n, x => if x ≤ nextRoot n x then x else croot f n (nextRoot n x)
def croots (n : Nat) : Nat := croot 2097152 n 2097152
theorem croot_stop (f n x : Nat) (h : x ≤ nextRoot n x) : croot f n x = x := by
  cases f with
  | zero => rfl
  | succ f => simp [croot, h]
theorem croot_go (f n x : Nat) (hf : x ≤ f) (h : ¬ x ≤ nextRoot n x) : ∃ g, nextRoot n x ≤ g ∧ croot g n (nextRoot n x) = croot f n x := by
  cases f with
  | zero => omega
  | succ f => exact ⟨f, by omega, by simp [croot, h]⟩
theorem nextRoot_pos (n x : Nat) (h0 : 1 ≤ n) (hx : 1 ≤ x) : 1 ≤ nextRoot n x := by
  unfold nextRoot
  by_cases h : x = 1
  · subst h
    simp
    omega
  · generalize n / (x * x) = d
    omega
theorem croot_range : ∀ (f n x : Nat), 1 ≤ n → 1 ≤ x → 1 ≤ croot f n x ∧ croot f n x ≤ x
  | 0, n, x, _, h => ⟨h, Nat.le_refl _⟩
  | f + 1, n, x, h0, h => by
    unfold croot
    split
    · exact ⟨h, Nat.le_refl _⟩
    · have := croot_range f n (nextRoot n x) h0 (nextRoot_pos n x h0 h)
      omega
def rootN (p : Nat) : Nat := p * 18014398509481984
def restN (p : Nat) : Nat := rootN p - croots (rootN p) * croots (rootN p) * croots (rootN p)
def bitsN (p : Nat) : Nat := croots (rootN p) * 16384 + restN p * 16384 / (3 * croots (rootN p) * croots (rootN p))
def rootW (p : Nat) : UInt32 := UInt32.ofNat (bitsN p)
def fits (p : Nat) : Bool := decide (croots (rootN p) * croots (rootN p) * croots (rootN p) ≤ rootN p) && decide (restN p < 281474976710656)
theorem fits_all : ∀ p : Fin 312, p.val = 0 ∨ fits p.val = true := by decide +kernel
def mark : Nat → Nat → Nat → List Bool → List Bool
  | 0, _, _, D => D
  | f + 1, p, n, D => if n < 312 then mark f p (n + p) (D.set n true) else D
theorem mark_end (f p n : Nat) (D : List Bool) (h : ¬ n < 312) : mark f p n D = D := by
  cases f with
  | zero => rfl
  | succ f => simp [mark, h]
theorem mark_go (f p n : Nat) (D : List Bool) (h : n < 312) (hp : 1 ≤ p) (hf : 312 ≤ f + n) : ∃ g, 312 ≤ g + (n + p) ∧ mark g p (n + p) (D.set n true) = mark f p n D := by
  cases f with
  | zero => omega
  | succ f => exact ⟨f, by omega, by simp [mark, h]⟩
theorem mark_length : ∀ (f p n : Nat) (D : List Bool), (mark f p n D).length = D.length
  | 0, _, _, _ => rfl
  | f + 1, p, n, D => by
    unfold mark
    split
    · rw [mark_length f]; simp
    · rfl
structure Sieve where
  D : List Bool
  ps : List Nat
def sieveStep (p : Nat) (s : Sieve) : Sieve := if s.D.getD p false then s else ⟨mark 312 p (p * p) s.D, s.ps ++ [p]⟩
def sieve : Nat → Sieve
  | 0 => ⟨List.replicate 312 false, []⟩
  | p + 1 => if p < 2 then sieve p else sieveStep p (sieve p)
theorem sieve_length : ∀ p, (sieve p).D.length = 312
  | 0 => List.length_replicate
  | p + 1 => by
    unfold sieve
    split
    · exact sieve_length p
    · unfold sieveStep
      split
      · exact sieve_length p
      · rw [mark_length]; exact sieve_length p
def primeAt (i : Nat) : Nat := (sieve 312).ps.getD i 0
theorem primes_64 : (sieve 312).ps.length = 64 := by decide +kernel
theorem keys_eq : (List.range 64).map (fun i => rootW (primeAt i)) = keyL := by decide +kernel
theorem primeAt_small : ∀ i : Fin 64, 1 ≤ primeAt i.val ∧ primeAt i.val < 312 := by decide +kernel
theorem sieve_next : ∀ p : Fin 312, (sieve p.val).D.getD p.val false = true ∨ p.val < 2 ∨ (primeAt (sieve p.val).ps.length = p.val ∧ (sieve p.val).ps.length < 64) := by decide +kernel
theorem sieve_skip (p : Nat) (h : (sieve p).D.getD p false = true) (h2 : 2 ≤ p) : sieve (p + 1) = sieve p := by
  rw [sieve, if_neg (by omega), sieveStep, if_pos h]
theorem sieve_take (p : Nat) (h : (sieve p).D.getD p false = false) (h2 : 2 ≤ p) : sieve (p + 1) = ⟨mark 312 p (p * p) (sieve p).D, (sieve p).ps ++ [p]⟩ := by
  rw [sieve, if_neg (by omega), sieveStep, if_neg (by rw [h]; decide)]
end Go.Proofs.YtigpgcjbpoaclaaDoor

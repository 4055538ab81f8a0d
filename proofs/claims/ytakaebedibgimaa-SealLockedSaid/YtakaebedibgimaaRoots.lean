/- The rounds' keys as the code reckons them: cube roots of primes. Plain. -/
import Derived.Test.YtakaebedibgimaaSha
set_option linter.unusedVariables false
set_option linter.unusedSimpArgs false
namespace Go.Proofs.Ytakaebedibgimaa
open Go.RowKit

def nextRoot (n x : Nat) : Nat := (2 * x + n / (x * x)) / 3
def croot : Nat → Nat → Nat → Nat
  | 0, _, x => x
  | f + 1, n, x => if x ≤ nextRoot n x then x else croot f n (nextRoot n x)
def croots (n : Nat) : Nat := croot 2097152 n 2097152
theorem croot_stop (f n x : Nat) (h : x ≤ nextRoot n x) : croot f n x = x := by
  cases f with
  | zero => rfl
  | succ f => simp [croot, h]
theorem croot_go (f n x : Nat) (hf : x ≤ f) (h : ¬ x ≤ nextRoot n x) : ∃ g, nextRoot n x ≤ g ∧ croot g n (nextRoot n x) = croot f n x := by
  cases f with
  | zero => omega
  | succ f => exact ⟨f, by omega, by simp [croot, h]⟩
theorem nextRoot_pos (n x : Nat) (h0 : 1 ≤ n) (hx : 1 ≤ x) : 1 ≤ nextRoot n x := by
  unfold nextRoot
  by_cases h : x = 1
  · subst h
    simp
    omega
  · generalize n / (x * x) = d
    omega
theorem croot_range : ∀ (f n x : Nat), 1 ≤ n → 1 ≤ x → 1 ≤ croot f n x ∧ croot f n x ≤ x
  | 0, n, x, _, h => ⟨h, Nat.le_refl _⟩
  | f + 1, n, x, h0, h => by
    unfold croot
    split
    · exact ⟨h, Nat.le_refl _⟩
    · have := croot_range f n (nextRoot n x) h0 (nextRoot_pos n x h0 h)
      omega
/-- The first 32 bits behind the point of p's cube root. -/
def rootN (p : Nat) : Nat := p * 18014398509481984
def restN (p : Nat) : Nat := rootN p - croots (rootN p) * croots (rootN p) * croots (rootN p)
def bitsN (p : Nat) : Nat := croots (rootN p) * 16384 + restN p * 16384 / (3 * croots (rootN p) * croots (rootN p))
def rootW (p : Nat) : UInt32 := UInt32.ofNat (bitsN p)
/-- What makes the sums stay in their bounds: of every number up to 311. -/
def fits (p : Nat) : Bool := decide (croots (rootN p) * croots (rootN p) * croots (rootN p) ≤ rootN p) && decide (restN p < 281474976710656)
theorem fits_all : ∀ p : Fin 312, p.val = 0 ∨ fits p.val = true := by decide +kernel

/-- The sieve: what is marked, and the keys so far. -/
def mark : Nat → Nat → Nat → List Bool → List Bool
  | 0, _, _, D => D
  | f + 1, p, n, D => if n < 312 then mark f p (n + p) (D.set n true) else D
theorem mark_end (f p n : Nat) (D : List Bool) (h : ¬ n < 312) : mark f p n D = D := by
  cases f with
  | zero => rfl
  | succ f => simp [mark, h]
theorem mark_go (f p n : Nat) (D : List Bool) (h : n < 312) (hp : 1 ≤ p) (hf : 312 ≤ f + n) : ∃ g, 312 ≤ g + (n + p) ∧ mark g p (n + p) (D.set n true) = mark f p n D := by
  cases f with
  | zero => omega
  | succ f => exact ⟨f, by omega, by simp [mark, h]⟩
theorem mark_length : ∀ (f p n : Nat) (D : List Bool), (mark f p n D).length = D.length
  | 0, _, _, _ => rfl
  | f + 1, p, n, D => by
    unfold mark
    split
    · rw [mark_length f]; simp
    · rfl
/-- The sieve: what is marked, and the primes so far. -/
structure Sieve where
  D : List Bool
  ps : List Nat
def sieveStep (p : Nat) (s : Sieve) : Sieve := if s.D.getD p false then s else ⟨mark 312 p (p * p) s.D, s.ps ++ [p]⟩
/-- Before p's turn. -/
def sieve : Nat → Sieve
  | 0 => ⟨List.replicate 312 false, []⟩
  | p + 1 => if p < 2 then sieve p else sieveStep p (sieve p)
theorem sieve_length : ∀ p, (sieve p).D.length = 312
  | 0 => List.length_replicate
  | p + 1 => by
    unfold sieve
    split
    · exact sieve_length p
    · unfold sieveStep
      split
      · exact sieve_length p
      · rw [mark_length]; exact sieve_length p
def primeAt (i : Nat) : Nat := (sieve 312).ps.getD i 0
theorem primes_64 : (sieve 312).ps.length = 64 := by decide +kernel
theorem keys_eq : (List.range 64).map (fun i => rootW (primeAt i)) = keyL := by decide +kernel
theorem primeAt_small : ∀ i : Fin 64, 1 ≤ primeAt i.val ∧ primeAt i.val < 312 := by decide +kernel
theorem sieve_next : ∀ p : Fin 312, (sieve p.val).D.getD p.val false = true ∨ p.val < 2 ∨ (primeAt (sieve p.val).ps.length = p.val ∧ (sieve p.val).ps.length < 64) := by decide +kernel
theorem sieve_skip (p : Nat) (h : (sieve p).D.getD p false = true) (h2 : 2 ≤ p) : sieve (p + 1) = sieve p := by
  rw [sieve, if_neg (by omega), sieveStep, if_pos h]
theorem sieve_take (p : Nat) (h : (sieve p).D.getD p false = false) (h2 : 2 ≤ p) : sieve (p + 1) = ⟨mark 312 p (p * p) (sieve p).D, (sieve p).ps ++ [p]⟩ := by
  rw [sieve, if_neg (by omega), sieveStep, if_neg (by rw [h]; decide)]
end Go.Proofs.Ytakaebedibgimaa

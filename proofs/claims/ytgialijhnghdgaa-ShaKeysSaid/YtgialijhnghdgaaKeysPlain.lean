/- What ShaKeys asks, in plain words: primes, products in places of 16 bits, cubes, squares. -/
import Derived.Test.YtgialijhnghdgaaSha
set_option linter.unusedVariables false
set_option linter.unusedSimpArgs false
namespace Go.Proofs.Ytgialijhnghdgaa
/-- Is n (below 400) a prime? -/
def primeB (n : Nat) : Bool := decide (1 < n) && (List.range 20).all fun d => decide (d < 2) || decide (n < d * d) || decide (n % d ≠ 0)
theorem primeB_no (n d : Nat) (hd : 2 ≤ d) (hn : n < 400) (h : d * d ≤ n) (hm : n % d = 0) : primeB n = false := by
  have hd20 : d < 20 := Nat.lt_of_not_le fun h20 => by
    have := Nat.mul_le_mul h20 h20
    omega
  unfold primeB
  rw [Bool.and_eq_false_iff]
  right
  rw [List.all_eq_false]
  refine ⟨d, List.mem_range.2 hd20, ?_⟩
  simp
  omega
theorem primeB_yes (n d : Nat) (hn : n < 400) (h : n < d * d) (hall : ∀ k, 2 ≤ k → k < d → n % k ≠ 0) : primeB n = decide (1 < n) := by
  unfold primeB
  have : ((List.range 20).all fun d => decide (d < 2) || decide (n < d * d) || decide (n % d ≠ 0)) = true := by
    rw [List.all_eq_true]
    intro k hk
    simp only [Bool.or_eq_true, decide_eq_true_eq]
    by_cases h2 : k < 2
    · exact .inl (.inl h2)
    · by_cases hkd : k < d
      · exact .inr (hall k (by omega) hkd)
      · refine .inl (.inr ?_)
        have := Nat.mul_le_mul (Nat.le_of_not_lt hkd) (Nat.le_of_not_lt hkd)
        omega
  rw [this, Bool.and_true]
/-- 1, then the primes. -/
def primesL : List Nat := [1, 2, 3, 5, 7, 11, 13, 17, 19, 23, 29, 31, 37, 41, 43, 47, 53, 59, 61, 67, 71, 73, 79, 83, 89, 97, 101, 103, 107, 109, 113, 127, 131, 137, 139, 149, 151, 157, 163, 167, 173, 179, 181, 191, 193, 197, 199, 211, 223, 227, 229, 233, 239, 241, 251, 257, 263, 269, 271, 277, 281, 283, 293, 307, 311]
def pr (k : Nat) : Nat := primesL.getD k 0
theorem pr_gap : ∀ k : Fin 64, pr k.val < pr (k.val + 1) ∧ pr (k.val + 1) ≤ 311 ∧ primeB (pr (k.val + 1)) = true ∧ ((List.range 312).all fun q => decide (q ≤ pr k.val) || decide (pr (k.val + 1) ≤ q) || !primeB q) = true := by decide +kernel
theorem pr_none (k q : Nat) (hk : k < 64) (h1 : pr k < q) (h2 : q < pr (k + 1)) : primeB q = false := by
  have h := (pr_gap ⟨k, hk⟩)
  have h3 := List.all_eq_true.1 h.2.2.2 q (List.mem_range.2 (by have := h.2.1; simp only at this; omega))
  simp only [Bool.or_eq_true, decide_eq_true_eq] at h3
  rcases h3 with (h3 | h3) | h3
  · omega
  · omega
  · simpa using h3

/-- One place of a product's row. -/
def mulAt (ai : Nat) (b : List Nat) (i j : Nat) (s : List Nat × Nat) : List Nat × Nat :=
  (s.1.set (i + j) ((s.1.getD (i + j) 0 + ai * b.getD j 0 + s.2) % 65536), (s.1.getD (i + j) 0 + ai * b.getD j 0 + s.2) / 65536)
def mulRow (ai : Nat) (b : List Nat) (i : Nat) (out : List Nat) : Nat → List Nat × Nat
  | 0 => (out, 0)
  | j + 1 => mulAt ai b i j (mulRow ai b i out j)
def mulTo (a b : List Nat) : Nat → List Nat
  | 0 => List.replicate (a.length + b.length) 0
  | i + 1 => (mulRow (a.getD i 0) b i (mulTo a b i) b.length).1.set (i + b.length) (mulRow (a.getD i 0) b i (mulTo a b i) b.length).2
def mulP (a b : List Nat) : List Nat := mulTo a b a.length
/-- Places of 16 bits. -/
def Low (l : List Nat) : Prop := ∀ i, l.getD i 0 ≤ 65535
theorem Low.set {l : List Nat} (h : Low l) (i x : Nat) (hx : x ≤ 65535) : Low (l.set i x) := fun j => by
  rw [List.getD_eq_getElem?_getD, List.getElem?_set]
  split
  · split
    · exact hx
    · simp
  · have := h j
    rwa [List.getD_eq_getElem?_getD] at this
theorem sum_small (x y z c : Nat) (hx : x ≤ 65535) (hy : y ≤ 65535) (hz : z ≤ 65535) (hc : c ≤ 65535) : x + y * z + c ≤ 4294967295 := by
  have := Nat.mul_le_mul hy hz
  omega
theorem mulRow_low (ai : Nat) (b : List Nat) (i : Nat) (out : List Nat) (ha : ai ≤ 65535) (hb : Low b) (ho : Low out) : ∀ j, Low (mulRow ai b i out j).1 ∧ (mulRow ai b i out j).2 ≤ 65535
  | 0 => ⟨ho, Nat.zero_le _⟩
  | j + 1 => by
    obtain ⟨h1, h2⟩ := mulRow_low ai b i out ha hb ho j
    have := sum_small _ _ _ _ (h1 (i + j)) ha (hb j) h2
    refine ⟨h1.set _ _ (by omega), ?_⟩
    unfold mulRow mulAt
    simp only
    omega
theorem mulRow_length (ai : Nat) (b : List Nat) (i : Nat) (out : List Nat) : ∀ j, (mulRow ai b i out j).1.length = out.length
  | 0 => rfl
  | j + 1 => by unfold mulRow mulAt; simp [mulRow_length ai b i out j]
theorem mulTo_low (a b : List Nat) (ha : Low a) (hb : Low b) : ∀ i, Low (mulTo a b i)
  | 0 => fun j => by
    unfold mulTo
    rw [List.getD_eq_getElem?_getD, List.getElem?_replicate]
    split <;> simp
  | i + 1 => by
    have h := mulRow_low (a.getD i 0) b i (mulTo a b i) (ha i) hb (mulTo_low a b ha hb i) b.length
    exact h.1.set _ _ h.2
theorem mulTo_length (a b : List Nat) : ∀ i, (mulTo a b i).length = a.length + b.length
  | 0 => by simp [mulTo]
  | i + 1 => by unfold mulTo; rw [List.length_set, mulRow_length, mulTo_length a b i]
/-- The cube of x, place by place, the lowest first. -/
def digits (x : Nat) : List Nat := [x % 65536, x / 65536 % 65536, x / 4294967296]
def cubeL (x : Nat) : List Nat := mulP (mulP (digits x) (digits x)) (digits x)
/-- The comparison from place i - 1 down. -/
def cmp (l : List Nat) (p : Nat) : Nat → Bool
  | 0 => true
  | i + 1 => if l.getD i 0 = (if i = 6 then p else 0) then cmp l p i else decide (l.getD i 0 < if i = 6 then p else 0)
def cubeB (x p : Nat) : Bool := cmp (cubeL x) p 9
def squareB (whole part p : Nat) : Bool :=
  let a := part / 65536
  let b := part % 65536
  let mid := a * a + 2 * a * b / 65536 + (2 * a * b % 65536 * 65536 + b * b) / 4294967296
  let rest := (2 * a * b % 65536 * 65536 + b * b) % 4294967296
  let sum := 2 * whole * part + mid
  let left := whole * whole + sum / 4294967296
  decide (left < p) || (decide (left = p) && decide (sum % 4294967296 = 0) && decide (rest = 0))
theorem keys_right : ∀ i : Fin 64, ∀ k : Fin 8, k.val * k.val * k.val ≤ pr (i.val + 1) → pr (i.val + 1) < (k.val + 1) * (k.val + 1) * (k.val + 1) →
    cubeB (k.val * 4294967296 + (keyL.getD i.val 0).toNat) (pr (i.val + 1)) = true ∧ cubeB (k.val * 4294967296 + (keyL.getD i.val 0).toNat + 1) (pr (i.val + 1)) = false := by decide +kernel
theorem starts_right : ∀ i : Fin 8, ∀ k : Fin 8, k.val * k.val ≤ pr (i.val + 1) → pr (i.val + 1) < (k.val + 1) * (k.val + 1) →
    squareB k.val (startS.list.getD i.val 0).toNat (pr (i.val + 1)) = true ∧ squareB k.val ((startS.list.getD i.val 0).toNat + 1) (pr (i.val + 1)) = false := by decide +kernel
end Go.Proofs.Ytgialijhnghdgaa

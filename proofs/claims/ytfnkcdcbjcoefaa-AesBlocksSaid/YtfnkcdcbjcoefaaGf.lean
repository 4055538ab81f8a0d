/- Bytes as sums of powers: products modulo 11b, inverses, the box: plain facts. Nothing of a dump. -/
import Derived.Test.YtfnkcdcbjcoefaaBase
set_option linter.unusedVariables false
set_option linter.unusedSimpArgs false
namespace Go.Proofs.Ytfnkcdcbjcoefaa

/-- Does p hold below n? -/
def allB : Nat → (Nat → Bool) → Bool
  | 0, _ => true
  | n + 1, p => p n && allB n p
theorem allB_spec {n : Nat} {p : Nat → Bool} (h : allB n p = true) : ∀ i, i < n → p i = true := by
  induction n with
  | zero => intro i hi; omega
  | succ n ih =>
    intro i hi
    rw [allB, Bool.and_eq_true] at h
    by_cases e : i = n
    · subst e; exact h.1
    · exact ih h.2 i (by omega)

/-- x times a number (a byte). -/
def xtN (x : Nat) : Nat := bif Nat.ble 256 (2 * x) then (2 * x) ^^^ 283 else 2 * x
/-- The product, bit by bit: how many bits, what has come, the first factor's multiple, what is left of the second. -/
def mulN : Nat → Nat → Nat → Nat → Nat
  | 0, out, _, _ => out
  | k + 1, out, x, y => mulN k (bif Nat.beq (y % 2) 1 then out ^^^ x else out) (xtN x) (y / 2)
def gm (a b : Nat) : Nat := mulN 8 0 a b

theorem xor_lt {x y : Nat} (hx : x < 256) (hy : y < 256) : x ^^^ y < 256 := Nat.xor_lt_two_pow (n := 8) hx hy
theorem xt_all : allB 256 (fun x => Nat.ble (xtN x) 255) = true := by decide +kernel
theorem xt_lt {x : Nat} (h : x < 256) : xtN x < 256 := by
  have := allB_spec xt_all x h
  have := Nat.le_of_ble_eq_true this
  omega
theorem split_all : allB 8 (fun k => allB 256 fun x => Nat.blt x (2 ^ k) || !(Nat.blt x (2 ^ (k + 1))) || (Nat.beq x ((x - 2 ^ k) ^^^ 2 ^ k) && Nat.blt (x - 2 ^ k) (2 ^ k))) = true := by decide +kernel
theorem split_top (k x : Nat) (hk : k < 8) (hx : x < 256) (h1 : 2 ^ k ≤ x) (h2 : x < 2 ^ (k + 1)) : x = (x - 2 ^ k) ^^^ 2 ^ k ∧ x - 2 ^ k < 2 ^ k := by
  have h := allB_spec (allB_spec split_all k hk) x hx
  have n1 : Nat.blt x (2 ^ k) = false := by
    cases h3 : Nat.blt x (2 ^ k)
    · rfl
    · have := Nat.le_of_ble_eq_true h3; omega
  have n2 : Nat.blt x (2 ^ (k + 1)) = true := Nat.ble_eq_true_of_le h2
  simp only [n1, n2, Bool.not_true, Bool.or_false, Bool.false_or, Bool.and_eq_true] at h
  exact ⟨Nat.eq_of_beq_eq_true h.1, Nat.le_of_ble_eq_true h.2⟩

/-- Two sums' maps that are the same at the powers of 2 are the same. -/
theorem lin_ext {f g : Nat → Nat} (hf : ∀ x y, x < 256 → y < 256 → f (x ^^^ y) = f x ^^^ f y) (hg : ∀ x y, x < 256 → y < 256 → g (x ^^^ y) = g x ^^^ g y) (h : ∀ k, k < 8 → f (2 ^ k) = g (2 ^ k)) : ∀ x, x < 256 → f x = g x := by
  have f0 : f 0 = 0 := by have := hf 0 0 (by omega) (by omega); simpa using this
  have g0 : g 0 = 0 := by have := hg 0 0 (by omega) (by omega); simpa using this
  have key : ∀ k, k ≤ 8 → ∀ x, x < 2 ^ k → f x = g x := by
    intro k
    induction k with
    | zero =>
      intro _ x hx
      obtain rfl : x = 0 := by simpa using hx
      rw [f0, g0]
    | succ k ih =>
      intro hk x hx
      have hb : 2 ^ (k + 1) ≤ 2 ^ 8 := Nat.pow_le_pow_right (by omega) hk
      by_cases hlt : x < 2 ^ k
      · exact ih (by omega) x hlt
      · obtain ⟨e, hl⟩ := split_top k x (by omega) (by omega) (by omega) hx
        have h2 : (2 : Nat) ^ k < 256 := by have : 2 ^ k < 2 ^ 8 := Nat.pow_lt_pow_right (by omega) (by omega); omega
        rw [e, hf _ _ (by omega) h2, hg _ _ (by omega) h2, ih (by omega) _ hl, h k (by omega)]
  exact fun x hx => key 8 (Nat.le_refl _) x hx

theorem xt_add_all : allB 256 (fun x => allB 256 fun y => Nat.beq (xtN (x ^^^ y)) (xtN x ^^^ xtN y)) = true := by decide +kernel
theorem xt_add {x y : Nat} (hx : x < 256) (hy : y < 256) : xtN (x ^^^ y) = xtN x ^^^ xtN y := Nat.eq_of_beq_eq_true (allB_spec (allB_spec xt_add_all x hx) y hy)
theorem xor4 (a b c d : Nat) : (a ^^^ b) ^^^ (c ^^^ d) = (a ^^^ c) ^^^ (b ^^^ d) := by
  rw [Nat.xor_assoc, Nat.xor_assoc, ← Nat.xor_assoc b, Nat.xor_comm b c, Nat.xor_assoc]
theorem mulN_lt : ∀ k out x y, out < 256 → x < 256 → mulN k out x y < 256
  | 0, _, _, _, h, _ => h
  | k + 1, out, x, y, h, hx => by
    refine mulN_lt k _ _ _ ?_ (xt_lt hx)
    cases Nat.beq (y % 2) 1
    · exact h
    · exact xor_lt h hx
theorem mulN_addL : ∀ k o1 o2 x1 x2 y, x1 < 256 → x2 < 256 → mulN k (o1 ^^^ o2) (x1 ^^^ x2) y = mulN k o1 x1 y ^^^ mulN k o2 x2 y
  | 0, _, _, _, _, _, _, _ => rfl
  | k + 1, o1, o2, x1, x2, y, h1, h2 => by
    show mulN k (bif Nat.beq (y % 2) 1 then o1 ^^^ o2 ^^^ (x1 ^^^ x2) else o1 ^^^ o2) (xtN (x1 ^^^ x2)) (y / 2) = mulN k (bif Nat.beq (y % 2) 1 then o1 ^^^ x1 else o1) (xtN x1) (y / 2) ^^^ mulN k (bif Nat.beq (y % 2) 1 then o2 ^^^ x2 else o2) (xtN x2) (y / 2)
    rw [xt_add h1 h2, ← mulN_addL k _ _ _ _ _ (xt_lt h1) (xt_lt h2)]
    cases Nat.beq (y % 2) 1
    · rfl
    · simp only [cond_true]; rw [xor4]
theorem bit_xor (y z : Nat) : Nat.beq ((y ^^^ z) % 2) 1 = xor (Nat.beq (y % 2) 1) (Nat.beq (z % 2) 1) := by
  have h : (y ^^^ z) % 2 = (y % 2 ^^^ z % 2) := by
    have := Nat.xor_mod_two_pow (a := y) (b := z) (n := 1)
    simpa using this
  rw [h]
  rcases Nat.mod_two_eq_zero_or_one y with h1 | h1 <;> rcases Nat.mod_two_eq_zero_or_one z with h2 | h2 <;> rw [h1, h2] <;> rfl
theorem half_xor (y z : Nat) : (y ^^^ z) / 2 = y / 2 ^^^ z / 2 := by
  have := Nat.xor_div_two_pow (a := y) (b := z) (n := 1)
  simpa using this
theorem mulN_addR : ∀ k o1 o2 x y z, mulN k (o1 ^^^ o2) x (y ^^^ z) = mulN k o1 x y ^^^ mulN k o2 x z
  | 0, _, _, _, _, _ => rfl
  | k + 1, o1, o2, x, y, z => by
    show mulN k (bif Nat.beq ((y ^^^ z) % 2) 1 then o1 ^^^ o2 ^^^ x else o1 ^^^ o2) (xtN x) ((y ^^^ z) / 2) = mulN k (bif Nat.beq (y % 2) 1 then o1 ^^^ x else o1) (xtN x) (y / 2) ^^^ mulN k (bif Nat.beq (z % 2) 1 then o2 ^^^ x else o2) (xtN x) (z / 2)
    rw [half_xor, bit_xor, ← mulN_addR]
    cases Nat.beq (y % 2) 1 <;> cases Nat.beq (z % 2) 1
    · rfl
    · simp only [Bool.false_xor, cond_true, cond_false]; rw [Nat.xor_assoc]
    · simp only [Bool.xor_false, cond_true, cond_false]; rw [Nat.xor_assoc, Nat.xor_assoc, Nat.xor_comm o2 x]
    · simp only [Bool.xor_self, cond_true, cond_false]; rw [xor4, Nat.xor_self, Nat.xor_zero]

theorem gm_lt {a b : Nat} (ha : a < 256) : gm a b < 256 := mulN_lt 8 0 a b (by omega) ha
theorem gm_addL (a b c : Nat) (ha : a < 256) (hb : b < 256) : gm (a ^^^ b) c = gm a c ^^^ gm b c := by
  have := mulN_addL 8 0 0 a b c ha hb
  rwa [Nat.xor_self] at this
theorem gm_addR (a b c : Nat) : gm a (b ^^^ c) = gm a b ^^^ gm a c := by
  have := mulN_addR 8 0 0 a b c
  rwa [Nat.xor_self] at this
theorem basis_comm : allB 8 (fun i => allB 8 fun j => Nat.beq (gm (2 ^ i) (2 ^ j)) (gm (2 ^ j) (2 ^ i))) = true := by decide +kernel
theorem p2_lt {k : Nat} (h : k < 8) : 2 ^ k < 256 := by have : 2 ^ k < 2 ^ 8 := Nat.pow_lt_pow_right (by omega) h; omega
theorem gm_comm {a b : Nat} (ha : a < 256) (hb : b < 256) : gm a b = gm b a := by
  refine lin_ext (f := fun x => gm x b) (g := fun x => gm b x) (fun x y hx hy => gm_addL x y b hx hy) (fun x y _ _ => gm_addR b x y) (fun i hi => ?_) a ha
  refine lin_ext (f := fun x => gm (2 ^ i) x) (g := fun x => gm x (2 ^ i)) (fun x y _ _ => gm_addR _ x y) (fun x y hx hy => gm_addL x y _ hx hy) (fun j hj => ?_) b hb
  exact Nat.eq_of_beq_eq_true (allB_spec (allB_spec basis_comm i hi) j hj)
theorem basis_assoc : allB 8 (fun i => allB 8 fun j => allB 8 fun k => Nat.beq (gm (gm (2 ^ i) (2 ^ j)) (2 ^ k)) (gm (2 ^ i) (gm (2 ^ j) (2 ^ k)))) = true := by decide +kernel
theorem gm_assoc {a b c : Nat} (ha : a < 256) (hb : b < 256) (hc : c < 256) : gm (gm a b) c = gm a (gm b c) := by
  refine lin_ext (f := fun x => gm (gm x b) c) (g := fun x => gm x (gm b c)) (fun x y hx hy => by show gm (gm (x ^^^ y) b) c = _; rw [gm_addL x y b hx hy, gm_addL _ _ c (gm_lt hx) (gm_lt hy)]) (fun x y hx hy => gm_addL x y _ hx hy) (fun i hi => ?_) a ha
  have h2 := p2_lt hi
  refine lin_ext (f := fun x => gm (gm (2 ^ i) x) c) (g := fun x => gm (2 ^ i) (gm x c)) (fun x y hx hy => by show gm (gm _ (x ^^^ y)) c = _; rw [gm_addR, gm_addL _ _ c (gm_lt h2) (gm_lt h2)]) (fun x y hx hy => by show gm _ (gm (x ^^^ y) c) = _; rw [gm_addL x y c hx hy, gm_addR]) (fun j hj => ?_) b hb
  refine lin_ext (f := fun x => gm (gm (2 ^ i) (2 ^ j)) x) (g := fun x => gm (2 ^ i) (gm (2 ^ j) x)) (fun x y _ _ => gm_addR _ x y) (fun x y _ _ => by show gm _ (gm _ (x ^^^ y)) = _; rw [gm_addR, gm_addR]) (fun k hk => ?_) c hc
  exact Nat.eq_of_beq_eq_true (allB_spec (allB_spec (allB_spec basis_assoc i hi) j hj) k hk)
theorem one_all : allB 256 (fun x => Nat.beq (gm x 1) x) = true := by decide +kernel
theorem gm_one {a : Nat} (ha : a < 256) : gm a 1 = a := Nat.eq_of_beq_eq_true (allB_spec one_all a ha)
theorem gm_zero (a : Nat) : gm a 0 = 0 := by have := gm_addR a 0 0; rwa [Nat.xor_self, Nat.xor_self] at this

/-- The inverse: the 254th power. -/
def invN (a : Nat) : Nat :=
  let a2 := gm a a; let a3 := gm a2 a; let a6 := gm a3 a3; let a12 := gm a6 a6; let a15 := gm a12 a3; let a30 := gm a15 a15; let a60 := gm a30 a30; let a63 := gm a60 a3
  let a126 := gm a63 a63; let a127 := gm a126 a; gm a127 a127
theorem inv_all : allB 256 (fun x => Nat.ble (invN x) 255 && (Nat.beq x 0 || (Nat.beq (gm x (invN x)) 1 && Nat.ble 1 (invN x)))) = true := by decide +kernel
theorem inv_lt {a : Nat} (ha : a < 256) : invN a < 256 := by
  have := allB_spec inv_all a ha
  rw [Bool.and_eq_true] at this
  have := Nat.le_of_ble_eq_true this.1
  omega
theorem inv_one {a : Nat} (ha : a < 256) (h0 : a ≠ 0) : gm a (invN a) = 1 ∧ invN a ≠ 0 := by
  have h := allB_spec inv_all a ha
  rw [Bool.and_eq_true, Bool.or_eq_true, Bool.and_eq_true] at h
  rcases h.2 with h1 | ⟨h1, h2⟩
  · exact absurd (Nat.eq_of_beq_eq_true h1) h0
  · exact ⟨Nat.eq_of_beq_eq_true h1, by have := Nat.le_of_ble_eq_true h2; omega⟩
theorem inv_zero : invN 0 = 0 := by decide +kernel
theorem inv_unique {a b : Nat} (ha : a < 256) (hb : b < 256) (h : gm a b = 1) : b = invN a := by
  have h0 : a ≠ 0 := by
    rintro rfl
    rw [gm_comm ha hb, gm_zero] at h
    omega
  have hi := inv_lt ha
  calc b = gm b 1 := (gm_one hb).symm
    _ = gm b (gm a (invN a)) := by rw [(inv_one ha h0).1]
    _ = gm (gm b a) (invN a) := (gm_assoc hb ha hi).symm
    _ = gm 1 (invN a) := by rw [gm_comm hb ha, h]
    _ = gm (invN a) 1 := gm_comm (by omega) hi
    _ = invN a := gm_one hi
theorem inv_inv {a : Nat} (ha : a < 256) : invN (invN a) = a := by
  by_cases h0 : a = 0
  · subst h0; rw [inv_zero, inv_zero]
  · exact (inv_unique (inv_lt ha) ha (by rw [gm_comm (inv_lt ha) ha]; exact (inv_one ha h0).1)).symm

/-- A byte turned left by n. -/
def leftN (x n : Nat) : Nat := (x * 2 ^ n) % 256 ^^^ x / 2 ^ (8 - n)
def turnN (y : Nat) : Nat := y ^^^ leftN y 1 ^^^ leftN y 2 ^^^ leftN y 3 ^^^ leftN y 4 ^^^ 99
def boxN (x : Nat) : Nat := turnN (invN x)
theorem turn_all : allB 256 (fun x => Nat.ble (turnN x) 255 && allB x (fun y => !(Nat.beq (turnN x) (turnN y)))) = true := by decide +kernel
theorem turn_inj {a b : Nat} (ha : a < 256) (hb : b < 256) (h : turnN a = turnN b) : a = b := by
  have key : ∀ a b, a < 256 → b < a → turnN a ≠ turnN b := fun a b ha hb e => by
    have h1 := allB_spec turn_all a ha
    rw [Bool.and_eq_true] at h1
    have h2 := allB_spec h1.2 b hb
    rw [e, Nat.beq_refl] at h2
    cases h2
  rcases Nat.lt_trichotomy a b with h1 | h1 | h1
  · exact absurd h.symm (key b a hb h1)
  · exact h1
  · exact absurd h (key a b ha h1)
theorem box_lt {a : Nat} (ha : a < 256) : boxN a < 256 := by
  have h := allB_spec turn_all (invN a) (inv_lt ha)
  rw [Bool.and_eq_true] at h
  have := Nat.le_of_ble_eq_true h.1
  unfold boxN
  omega
theorem box_inj {a b : Nat} (ha : a < 256) (hb : b < 256) (h : boxN a = boxN b) : a = b := by
  have h1 := turn_inj (inv_lt ha) (inv_lt hb) h
  rw [← inv_inv ha, ← inv_inv hb, h1]
theorem box_shown : boxN 0 = 0x63 ∧ boxN 0x53 = 0xed ∧ gm 0x57 0x83 = 0xc1 := by decide +kernel
end Go.Proofs.Ytfnkcdcbjcoefaa

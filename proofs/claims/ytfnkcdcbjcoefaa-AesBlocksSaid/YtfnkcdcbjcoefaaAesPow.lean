/- The powers of 3 are all bytes but 0; the row that they write is the box. Nothing of a dump. -/
import Derived.Test.YtfnkcdcbjcoefaaAesPlain
set_option linter.unusedVariables false
set_option linter.unusedSimpArgs false
namespace Go.Proofs.Ytfnkcdcbjcoefaa

/-- 3 to the i. -/
def p3 : Nat → Nat
  | 0 => 1
  | i + 1 => gm (p3 i) 3
theorem p3_lt : ∀ i, p3 i < 256
  | 0 => by decide
  | i + 1 => gm_lt (p3_lt i)
theorem p3_add (i : Nat) : ∀ j, p3 (i + j) = gm (p3 i) (p3 j)
  | 0 => by
    show p3 i = gm (p3 i) 1
    rw [gm_one (p3_lt i)]
  | j + 1 => by
    show gm (p3 (i + j)) 3 = gm (p3 i) (gm (p3 j) 3)
    rw [p3_add i j, gm_assoc (p3_lt i) (p3_lt j) (by omega)]
theorem p3_255 : p3 255 = 1 := by decide +kernel
theorem p3_inv {i : Nat} (h : i < 255) : invN (p3 i) = p3 ((255 - i) % 255) := by
  refine (inv_unique (p3_lt i) (p3_lt _) ?_).symm
  by_cases h0 : i = 0
  · subst h0
    show gm 1 (p3 0) = 1
    exact gm_one (by omega)
  · rw [Nat.mod_eq_of_lt (by omega), ← p3_add, show i + (255 - i) = 255 by omega, p3_255]
/-- Is x among the next n powers? -/
def walk : Nat → Nat → Nat → Bool
  | 0, _, _ => false
  | n + 1, c, x => Nat.beq c x || walk n (gm c 3) x
theorem walk_spec (x : Nat) : ∀ n i, walk n (p3 i) x = true → ∃ j, j < i + n ∧ p3 j = x
  | 0, i, h => by cases h
  | n + 1, i, h => by
    rw [walk, Bool.or_eq_true] at h
    rcases h with h | h
    · exact ⟨i, by omega, Nat.eq_of_beq_eq_true h⟩
    · obtain ⟨j, h1, h2⟩ := walk_spec x n (i + 1) h
      exact ⟨j, by omega, h2⟩
theorem walk_all : allB 256 (fun x => Nat.beq x 0 || walk 255 1 x) = true := by decide +kernel
theorem p3_onto {x : Nat} (h : x < 256) (h0 : x ≠ 0) : ∃ i, i < 255 ∧ p3 i = x := by
  have := allB_spec walk_all x h
  rw [Bool.or_eq_true] at this
  rcases this with h1 | h1
  · exact absurd (Nat.eq_of_beq_eq_true h1) h0
  · obtain ⟨j, h1, h2⟩ := walk_spec x 255 0 h1
    exact ⟨j, by omega, h2⟩

/-- The powers' row, as bytes. -/
def p3B (i : Nat) : UInt8 := UInt8.ofNat (p3 i)
theorem p3B_nat (i : Nat) : (p3B i).toNat = p3 i := by
  unfold p3B
  rw [UInt8.toNat_ofNat']
  have := p3_lt i
  omega
theorem p3B_next (i : Nat) : p3B (i + 1) = mulB (p3B i) 3 := u8_ext (by rw [mulB_nat, p3B_nat, p3B_nat]; rfl)
def turnB (x : UInt8) : UInt8 := UInt8.ofNat (turnN x.toNat)
theorem turn_lt {x : Nat} (h : x < 256) : turnN x < 256 := by
  have := allB_spec turn_all x h
  rw [Bool.and_eq_true] at this
  have := Nat.le_of_ble_eq_true this.1
  omega
theorem turnB_nat (x : UInt8) : (turnB x).toNat = turnN x.toNat := by
  unfold turnB
  rw [UInt8.toNat_ofNat']
  have := turn_lt (u8_lt x)
  omega
theorem turnB_box {i : Nat} (h : i < 255) : turnB (p3B ((255 - i) % 255)) = boxB (p3B i) := u8_ext (by rw [turnB_nat, boxB_nat, p3B_nat, p3B_nat, boxN, p3_inv h])
theorem turnB_zero : turnB 0 = boxB 0 := u8_ext (by rw [turnB_nat, boxB_nat]; show turnN 0 = turnN (invN 0); rw [inv_zero])

/-- What of the box's row is written, after k of the powers. -/
def BoxTo (k : Nat) (l : List UInt8) : Prop := l.length = 256 ∧ l.getD 0 0 = boxB 0 ∧ ∀ i, i < k → l.getD (p3 i) 0 = boxB (p3B i)
theorem p3_ne {i : Nat} (h : i < 255) : p3 i ≠ 0 := fun h0 => by
  have h1 : gm (p3 i) (p3 (255 - i)) = 1 := by rw [← p3_add, show i + (255 - i) = 255 by omega, p3_255]
  rw [h0, gm_comm (by omega) (p3_lt _), gm_zero] at h1
  cases h1
theorem BoxTo.begin : BoxTo 0 ((List.replicate 256 (0 : UInt8)).set 0 (turnB 0)) := ⟨by rw [List.length_set, List.length_replicate], by rw [← turnB_zero]; rfl, fun i h => by omega⟩
theorem BoxTo.next {k : Nat} {l : List UInt8} (h : BoxTo k l) (hk : k < 255) : BoxTo (k + 1) (l.set (p3 k) (turnB (p3B ((255 - k) % 255)))) := by
  obtain ⟨h1, h2, h3⟩ := h
  have hp := p3_lt k
  have hn := p3_ne hk
  rw [turnB_box hk]
  have hget : ∀ j, (l.set (p3 k) (boxB (p3B k))).getD j 0 = if j = p3 k then boxB (p3B k) else l.getD j 0 := fun j => by
    by_cases e : j = p3 k
    · subst e
      simp [List.getD_eq_getElem?_getD, h1, hp]
    · rw [if_neg e]
      simp [List.getD_eq_getElem?_getD, List.getElem?_set, Ne.symm e]
  refine ⟨by simp [h1], by rw [hget, if_neg (Ne.symm hn), h2], fun i hi => ?_⟩
  rw [hget]
  by_cases e : p3 i = p3 k
  · rw [if_pos e]
    unfold p3B
    rw [e]
  · rw [if_neg e]
    by_cases hik : i = k
    · subst hik; exact absurd rfl e
    · exact h3 i (by omega)
/-- The box's row. -/
def boxRow : List UInt8 := tab 256 fun i => boxB (UInt8.ofNat i)
theorem boxRow_length : boxRow.length = 256 := tab_length _ _
theorem boxRow_get (x : UInt8) : boxRow.getD x.toNat 0 = boxB x := by
  have h := tab_get 256 (fun i => boxB (UInt8.ofNat i)) x.toNat (u8_lt x)
  have e : UInt8.ofNat x.toNat = x := u8_ext (by rw [UInt8.toNat_ofNat']; have := u8_lt x; omega)
  exact h.trans (by simp only [e])
theorem BoxTo.all {l : List UInt8} (h : BoxTo 255 l) : l = boxRow := by
  obtain ⟨h1, h2, h3⟩ := h
  refine get_ext 256 _ _ h1 boxRow_length fun i hi => ?_
  have hr : boxRow.getD i 0 = boxB (UInt8.ofNat i) := tab_get 256 (fun i => boxB (UInt8.ofNat i)) i hi
  rw [hr]
  by_cases h0 : i = 0
  · subst h0; exact h2
  · obtain ⟨j, hj, rfl⟩ := p3_onto hi h0
    exact h3 j hj
end Go.Proofs.Ytfnkcdcbjcoefaa

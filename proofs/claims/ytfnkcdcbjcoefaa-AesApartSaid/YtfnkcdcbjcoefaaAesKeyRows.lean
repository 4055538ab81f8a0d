/- The rounds' keys, row by row: plain facts. Nothing of a dump. -/
import Derived.Test.YtfnkcdcbjcoefaaAesPlain
import Derived.Test.YtfnkcdcbjcoefaaByteRow
set_option linter.unusedVariables false
set_option linter.unusedSimpArgs false
namespace Go.Proofs.Ytfnkcdcbjcoefaa

/-- Row n of bytes. -/
def rowK (K : List UInt8) (n : Nat) : List UInt8 := (K.drop (16 * n)).take 16
theorem rowK_length {K : List UInt8} {n : Nat} (h : 16 * n + 16 ≤ K.length) : (rowK K n).length = 16 := by simp [rowK]; omega
theorem rowK_get {K : List UInt8} {n j : Nat} (hj : j < 16) : (rowK K n).getD j 0 = K.getD (16 * n + j) 0 := by
  unfold rowK
  rw [List.getD_eq_getElem?_getD, List.getElem?_take_of_lt hj, List.getElem?_drop, List.getD_eq_getElem?_getD]
/-- What is behind a row. -/
structure Nexts (row : List UInt8) (r : UInt8) (N : List UInt8) : Prop where
  len : N.length = 16
  low : ∀ j, j < 4 → N.getD j 0 = row.getD j 0 ^^^ boxB (row.getD (12 + (j + 1) % 4) 0) ^^^ (if j = 0 then r else 0)
  high : ∀ j, 4 ≤ j → j < 16 → N.getD j 0 = row.getD j 0 ^^^ N.getD (j - 4) 0
theorem keysTo_get (key : List UInt8) (n : Nat) : ∀ d i, i < key.length + n → (keysTo key (n + d)).getD i 0 = (keysTo key n).getD i 0
  | 0, i, _ => rfl
  | d + 1, i, h => by
    show (keysTo key (n + d) ++ [keyNext (keysTo key (n + d))]).getD i 0 = _
    rw [List.getD_eq_getElem?_getD, List.getElem?_append_left (by rw [keysTo_length]; omega), ← List.getD_eq_getElem?_getD, keysTo_get key n d i h]
theorem keysL_length {key : List UInt8} (h : key.length = 16) : (keysL key).length = 176 := by rw [keysL, keysTo_length, h]
theorem keysL_low {key : List UInt8} (h : key.length = 16) (k i : Nat) (hk : k ≤ 160) (hi : i < 16 + k) : (keysL key).getD i 0 = (keysTo key k).getD i 0 := by
  have := keysTo_get key k (160 - k) i (by omega)
  rwa [show k + (160 - k) = 160 by omega] at this
theorem keysL_next {key : List UInt8} (h : key.length = 16) (k : Nat) (hk : k < 160) : (keysL key).getD (16 + k) 0 = keyNext (keysTo key k) := by
  rw [keysL_low h (k + 1) (16 + k) (by omega) (by omega), keysTo, List.getD_eq_getElem?_getD, List.getElem?_append_right (by rw [keysTo_length]; omega), keysTo_length, h, Nat.sub_self]
  rfl
theorem keysL_first {key : List UInt8} (h : key.length = 16) : rowK (keysL key) 0 = key := by
  refine get_ext 16 _ _ (rowK_length (by rw [keysL_length h]; omega)) h fun i hi => ?_
  rw [rowK_get hi, keysL_low h 0 _ (by omega) (by omega)]
  simp [keysTo]
theorem keys_next {key : List UInt8} (h : key.length = 16) (n : Nat) (hn : n < 10) : Nexts (rowK (keysL key) n) (rcon n) (rowK (keysL key) (n + 1)) := by
  have hm : ∀ j, j < 16 → (keysL key).getD (16 * (n + 1) + j) 0 = keyNext (keysTo key (16 * n + j)) := fun j hj => by
    rw [← keysL_next h (16 * n + j) (by omega)]
    congr 1
    omega
  have hl : ∀ j, j < 16 → (keysTo key (16 * n + j)).length = 16 * (n + 1) + j := fun j hj => by rw [keysTo_length, h]; omega
  have hg : ∀ j i, j < 16 → i < 16 * (n + 1) + j → (keysTo key (16 * n + j)).getD i 0 = (keysL key).getD i 0 := fun j i hj hi => (keysL_low h (16 * n + j) i (by omega) (by omega)).symm
  refine ⟨rowK_length (by rw [keysL_length h]; omega), fun j hj => ?_, fun j h4 hj => ?_⟩
  · rw [rowK_get (by omega), rowK_get (by omega), rowK_get (by omega), hm j (by omega)]
    unfold keyNext
    simp only [hl j (by omega)]
    have e1 : (16 * (n + 1) + j) / 4 = 4 * (n + 1) := by omega
    have e2 : (16 * (n + 1) + j) % 4 = j := by omega
    have c1 : 4 * (n + 1) % 4 = 0 := by omega
    rw [e1, e2]
    simp only [c1, if_true, true_and]
    have e3 : 4 * (n + 1) / 4 - 1 = n := by omega
    rw [e3, hg j _ (by omega) (by omega), hg j _ (by omega) (by omega), show 4 * (4 * (n + 1)) - 16 + j = 16 * n + j by omega, show 4 * (4 * (n + 1)) - 4 + (j + 1) % 4 = 16 * n + (12 + (j + 1) % 4) by omega]
    by_cases h0 : j = 0
    · rw [if_pos h0, if_pos h0, UInt8.xor_assoc]
    · rw [if_neg h0, if_neg h0, UInt8.xor_zero]
  · rw [rowK_get (by omega), rowK_get (by omega), rowK_get (by omega), hm j (by omega)]
    unfold keyNext
    simp only [hl j (by omega)]
    have c1 : ¬ (16 * (n + 1) + j) / 4 % 4 = 0 := by omega
    simp only [c1, if_false, false_and]
    rw [hg j _ (by omega) (by omega), hg j _ (by omega) (by omega), show 4 * ((16 * (n + 1) + j) / 4) - 16 + (16 * (n + 1) + j) % 4 = 16 * n + j by omega, show 4 * ((16 * (n + 1) + j) / 4) - 4 + (16 * (n + 1) + j) % 4 = 16 * (n + 1) + (j - 4) by omega]
theorem mixB_getD (A B : List UInt8) (i j : Nat) (h : A.length = B.length) (hi : i ≤ A.length) : (mixB A B i).getD j 0 = if j < i then B.getD j 0 else A.getD j 0 := by
  unfold mixB
  have hl : (B.take i).length = i := by simp; omega
  by_cases hj : j < i
  · rw [if_pos hj, List.getD_eq_getElem?_getD, List.getElem?_append_left (by omega), List.getElem?_take_of_lt hj, List.getD_eq_getElem?_getD]
  · rw [if_neg hj, List.getD_eq_getElem?_getD, List.getElem?_append_right (by omega), hl, List.getElem?_drop, List.getD_eq_getElem?_getD, show i + (j - i) = j by omega]
/-- The first four bytes of what is behind a row, but for r. -/
def nextA (row : List UInt8) : List UInt8 := tab 16 fun j => row.getD j 0 ^^^ boxB (row.getD (12 + (j + 1) % 4) 0)
theorem nextA_length (row : List UInt8) : (nextA row).length = 16 := tab_length _ _
theorem nextA_some (row : List UInt8) (j : Nat) (h : j < 16) : (nextA row)[j]? = some (row.getD j 0 ^^^ boxB (row.getD (12 + (j + 1) % 4) 0)) := by simp [nextA, tab, h]
theorem nextA_set {row N : List UInt8} {r : UInt8} (hr : row.length = 16) (h : Nexts row r N) : (mixB row (nextA row) 4).set 0 ((nextA row).getD 0 0 ^^^ r) = mixB row N 4 := by
  have h1 : (mixB row (nextA row) 4).length = 16 := by rw [mixB_length _ _ 4 (by rw [hr, nextA_length]) (by omega), hr]
  have h2 : (mixB row N 4).length = 16 := by rw [mixB_length _ _ 4 (by rw [hr, h.len]) (by omega), hr]
  refine get_ext 16 _ _ (by rw [List.length_set, h1]) h2 fun i hi => ?_
  rw [mixB_getD row N 4 i (by rw [hr, h.len]) (by omega)]
  by_cases h0 : i = 0
  · subst h0
    rw [List.getD_eq_getElem?_getD, List.getElem?_set_self (by omega), if_pos (by omega), h.low 0 (by omega), if_pos rfl]
    show (nextA row).getD 0 0 ^^^ r = _
    unfold nextA
    rw [tab_get 16 _ 0 (by omega)]
  · rw [List.getD_eq_getElem?_getD, List.getElem?_set_ne (by omega), ← List.getD_eq_getElem?_getD, mixB_getD row (nextA row) 4 i (by rw [hr, nextA_length]) (by omega)]
    by_cases h4 : i < 4
    · rw [if_pos h4, if_pos h4, h.low i h4, if_neg h0, UInt8.xor_zero]
      unfold nextA
      rw [tab_get 16 _ i (by omega)]
    · rw [if_neg h4, if_neg h4]
end Go.Proofs.Ytfnkcdcbjcoefaa

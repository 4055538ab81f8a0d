import Derived.Test.YtigpgcjbpoaclaaDoorC27
set_option linter.unusedVariables false
set_option linter.unusedSimpArgs false
namespace Go.Proofs.YtigpgcjbpoaclaaDoor
open Go.RowKit
structure Lk where
  pos : Int
  key : List UInt8
  non : List UInt8
deriving DecidableEq
structure Ch where
  next : Int
  sec : List UInt8
  spare : List Lk
deriving DecidableEq
def treeS : ByteArray := ⟨#[116, 114, 101, 101]⟩
def leftS : ByteArray := ⟨#[108, 101, 102, 116]⟩
def rightS13 : ByteArray := ⟨#[114, 105, 103, 104, 116]⟩
def nextS : ByteArray := ⟨#[110, 101, 120, 116]⟩
def keyS : ByteArray := ⟨#[107, 101, 121]⟩
def nonceS : ByteArray := ⟨#[110, 111, 110, 99, 101]⟩
def partB (k : List UInt8) (s : ByteArray) (c : List UInt8) (n : Nat) : List UInt8 := expL k (labI s.data.toList c n) n
theorem partB_length (k : List UInt8) (s : ByteArray) (c : List UInt8) (n : Nat) : (partB k s c n).length = n := firstB_length _ (expT_length _ _) n
theorem partB_lab (k : List UInt8) (s : ByteArray) (c : List UInt8) (n : Nat) (h : (n : Int) ≤ 8160) : expE n = 0 ∧ labR k s.data.toList c n = partB k s c n := by
  have := exp_yes k (labI s.data.toList c n) (n := n) h
  exact this
def secD (send : List UInt8) : Nat → Nat → List UInt8
  | 0, _ => partB send treeS [] 32
  | d + 1, p => partB (secD send d (p / 2)) (if p % 2 = 1 then rightS13 else leftS) [] 32
theorem secD_length (send : List UInt8) : ∀ d p, (secD send d p).length = 32
  | 0, _ => partB_length _ _ _ _
  | _ + 1, _ => partB_length _ _ _ _
def nxtB (s : List UInt8) (a : Nat) : List UInt8 := partB s nextS (be 4 a) 32
def lockB (s : List UInt8) (a : Nat) : Lk := ⟨a, partB s keyS (be 4 a) 32, partB s nonceS (be 4 a) 12⟩
def onB (s : List UInt8) (a : Nat) : Nat → List UInt8
  | 0 => s
  | k + 1 => nxtB (onB s a k) (a + k)
theorem nxtB_length (s : List UInt8) (a : Nat) : (nxtB s a).length = 32 := partB_length _ _ _ _
theorem onB_length (s : List UInt8) (a : Nat) (h : s.length = 32) : ∀ k, (onB s a k).length = 32
  | 0 => h
  | _ + 1 => nxtB_length _ _
def passB (s : List UInt8) (a : Nat) : Nat → List Lk
  | 0 => []
  | k + 1 => passB s a k ++ [lockB (onB s a k) (a + k)]
theorem passB_length (s : List UInt8) (a : Nat) : ∀ k, (passB s a k).length = k
  | 0 => rfl
  | k + 1 => by rw [passB, List.length_append, passB_length s a k]; rfl
theorem passB_get (s : List UInt8) (a : Nat) : ∀ k i, i < k → (passB s a k)[i]? = some (lockB (onB s a i) (a + i))
  | 0, i, h => by omega
  | k + 1, i, h => by
    rw [passB]
    by_cases hi : i < k
    · rw [List.getElem?_append_left (by rw [passB_length]; exact hi)]
      exact passB_get s a k i hi
    · have : i = k := by omega
      subst this
      rw [List.getElem?_append_right (by rw [passB_length]; omega), passB_length, Nat.sub_self]
      rfl
def lastL (l : List Lk) : List Lk := l.drop (l.length - 32)
theorem lastL_length (l : List Lk) : (lastL l).length = min l.length 32 := by unfold lastL; rw [List.length_drop]; omega
def noLk : Lk := ⟨0, [], []⟩
def lkAt (l : List Lk) (i : Nat) : Lk := l.getD i noLk
theorem lkAt_of {l : List Lk} {i : Nat} (h : i < l.length) : l[i]? = some (lkAt l i) := by
  unfold lkAt
  rw [List.getD_eq_getElem?_getD, List.getElem?_eq_getElem h]
  rfl
def spAt (l : List Lk) (a : Int) : Nat := l.findIdx fun k => decide (k.pos = a)
theorem spAt_le (l : List Lk) (a : Int) : spAt l a ≤ l.length := List.findIdx_le_length
theorem spAt_is {l : List Lk} {a : Int} (h : spAt l a < l.length) : (lkAt l (spAt l a)).pos = a := by
  have h1 := List.findIdx_getElem (xs := l) (p := fun k : Lk => decide (k.pos = a)) (w := h)
  have h2 := lkAt_of h
  rw [List.getElem?_eq_getElem h] at h2
  simp only [Option.some.injEq] at h2
  rw [← h2]
  exact of_decide_eq_true h1
theorem spAt_not {l : List Lk} {a : Int} {i : Nat} (h : i < spAt l a) : (lkAt l i).pos ≠ a := by
  have hl : i < l.length := Nat.lt_of_lt_of_le h (spAt_le l a)
  have h1 := List.not_of_lt_findIdx (xs := l) (p := fun k : Lk => decide (k.pos = a)) h
  have h2 := lkAt_of hl
  rw [List.getElem?_eq_getElem hl] at h2
  simp only [Option.some.injEq] at h2
  rw [← h2]
  simpa using h1
theorem spAt_eq {l : List Lk} {a : Int} {i : Nat} (hi : i < l.length) (h : (lkAt l i).pos = a) (hn : ∀ j, j < i → (lkAt l j).pos ≠ a) : spAt l a = i := by
  rcases Nat.lt_trichotomy (spAt l a) i with h1 | h1 | h1
  · exact absurd (spAt_is (by omega)) (hn _ h1)
  · exact h1
  · exact absurd h (spAt_not h1)
theorem spAt_none {l : List Lk} {a : Int} (h : ∀ j, j < l.length → (lkAt l j).pos ≠ a) : spAt l a = l.length := by
  rcases Nat.lt_or_ge (spAt l a) l.length with h1 | h1
  · exact absurd (spAt_is h1) (h _ h1)
  · have := spAt_le l a; omega
def takE (c : Ch) (a : Int) : Int :=
  if a < 0 ∨ 4294967294 < a then 1 else if spAt c.spare a < c.spare.length then 0 else if a < c.next then 9 else if 100 < a - c.next ∨ 4294967294 < a + 1 then 4 else 0
def takC (c : Ch) (a : Int) : Ch :=
  if takE c a ≠ 0 then c else if spAt c.spare a < c.spare.length then ⟨c.next, c.sec, c.spare.eraseIdx (spAt c.spare a)⟩
  else ⟨a + 1, onB c.sec c.next.toNat ((a - c.next).toNat + 1), lastL (c.spare ++ passB c.sec c.next.toNat (a - c.next).toNat)⟩
def takL (c : Ch) (a : Int) : Lk :=
  if takE c a ≠ 0 then noLk else if spAt c.spare a < c.spare.length then lkAt c.spare (spAt c.spare a)
  else lockB (onB c.sec c.next.toNat (a - c.next).toNat) a.toNat
def Lk.ok (k : Lk) (n : Int) : Prop := 0 ≤ k.pos ∧ k.pos < n ∧ k.key.length = 32 ∧ k.non.length = 12
instance (k : Lk) (n : Int) : Decidable (k.ok n) := by unfold Lk.ok; infer_instance
structure Ch.ok (c : Ch) : Prop where
  mk ::
  lo : 0 ≤ c.next
  hi : c.next ≤ 4294967294
  sec : c.sec.length = 32
  few : c.spare.length ≤ 32
  each : ∀ i, i < c.spare.length → (lkAt c.spare i).ok c.next
  rise : ∀ i, i + 1 < c.spare.length → (lkAt c.spare i).pos < (lkAt c.spare (i + 1)).pos
theorem Ch.ok.up {c : Ch} (h : c.ok) : ∀ d i, i + d < c.spare.length → 0 < d → (lkAt c.spare i).pos < (lkAt c.spare (i + d)).pos
  | 0, i, h1, h2 => by omega
  | 1, i, h1, _ => h.rise i h1
  | d + 2, i, h1, _ => by
    have h3 := h.up (d + 1) i (by omega) (by omega)
    have h4 := h.rise (i + (d + 1)) (by omega)
    rw [show i + (d + 2) = i + (d + 1) + 1 by omega]
    omega
theorem Ch.ok.lt {c : Ch} (h : c.ok) {i j : Nat} (hij : i < j) (hj : j < c.spare.length) : (lkAt c.spare i).pos < (lkAt c.spare j).pos := by
  have := h.up (j - i) i (by omega) (by omega)
  rwa [show i + (j - i) = j by omega] at this
theorem lkAt_erase (l : List Lk) (k i : Nat) : lkAt (l.eraseIdx k) i = lkAt l (if i < k then i else i + 1) := by
  unfold lkAt
  rw [List.getD_eq_getElem?_getD, List.getD_eq_getElem?_getD, List.getElem?_eraseIdx]
  split <;> rfl
theorem erase_length {l : List Lk} {k : Nat} (h : k < l.length) : (l.eraseIdx k).length = l.length - 1 := List.length_eraseIdx_of_lt h
theorem Ch.ok.erase {c : Ch} (h : c.ok) {k : Nat} (hk : k < c.spare.length) : (⟨c.next, c.sec, c.spare.eraseIdx k⟩ : Ch).ok := by
  refine ⟨h.lo, h.hi, h.sec, ?_, fun i hi => ?_, fun i hi => ?_⟩
  · show (c.spare.eraseIdx k).length ≤ 32
    rw [erase_length hk]; have := h.few; omega
  · have hi' : i < (c.spare.eraseIdx k).length := hi
    rw [erase_length hk] at hi'
    show (lkAt (c.spare.eraseIdx k) i).ok c.next
    rw [lkAt_erase]
    split
    · exact h.each _ (by omega)
    · exact h.each _ (by omega)
  · have hi' : i + 1 < (c.spare.eraseIdx k).length := hi
    rw [erase_length hk] at hi'
    show (lkAt (c.spare.eraseIdx k) i).pos < (lkAt (c.spare.eraseIdx k) (i + 1)).pos
    rw [lkAt_erase, lkAt_erase]
    refine h.lt ?_ ?_
    · split <;> split <;> omega
    · split <;> omega
theorem lkAt_last (l : List Lk) (i : Nat) : lkAt (lastL l) i = lkAt l (l.length - 32 + i) := by
  unfold lkAt lastL
  rw [List.getD_eq_getElem?_getD, List.getD_eq_getElem?_getD, List.getElem?_drop]
theorem lkAt_left {l m : List Lk} {i : Nat} (h : i < l.length) : lkAt (l ++ m) i = lkAt l i := by
  unfold lkAt
  rw [List.getD_eq_getElem?_getD, List.getD_eq_getElem?_getD, List.getElem?_append_left h]
theorem lkAt_pass (l : List Lk) (s : List UInt8) (a k i : Nat) (h : i < k) : lkAt (l ++ passB s a k) (l.length + i) = lockB (onB s a i) (a + i) := by
  unfold lkAt
  rw [List.getD_eq_getElem?_getD, List.getElem?_append_right (by omega), Nat.add_sub_cancel_left, passB_get s a k i h]
  rfl
theorem lockB_ok (s : List UInt8) (a : Nat) (n : Int) (h : (a : Int) < n) : (lockB s a).ok n := ⟨Int.natCast_nonneg _, h, partB_length _ _ _ _, partB_length _ _ _ _⟩
theorem lkAt_both (l : List Lk) (s : List UInt8) (a k j : Nat) (h : j < l.length + k) : lkAt (l ++ passB s a k) j = if j < l.length then lkAt l j else lockB (onB s a (j - l.length)) (a + (j - l.length)) := by
  split
  · next h1 => exact lkAt_left h1
  · next h1 =>
    have := lkAt_pass l s a k (j - l.length) (by omega)
    rwa [show l.length + (j - l.length) = j by omega] at this
theorem Ch.ok.step {c : Ch} (h : c.ok) (k : Nat) (hk : c.next + k + 1 ≤ 4294967294) : (⟨c.next + k + 1, onB c.sec c.next.toNat (k + 1), lastL (c.spare ++ passB c.sec c.next.toNat k)⟩ : Ch).ok := by
  have hlo := h.lo
  obtain ⟨N, hN⟩ : ∃ N : Nat, (N : Int) = c.next := ⟨c.next.toNat, Int.toNat_of_nonneg hlo⟩
  have hN2 : c.next.toNat = N := by omega
  have hl : (c.spare ++ passB c.sec c.next.toNat k).length = c.spare.length + k := by rw [List.length_append, passB_length]
  have hLL : (lastL (c.spare ++ passB c.sec c.next.toNat k)).length = min (c.spare.length + k) 32 := by rw [lastL_length, hl]
  have hat : ∀ i, i < min (c.spare.length + k) 32 → lkAt (lastL (c.spare ++ passB c.sec c.next.toNat k)) i = (fun j => if j < c.spare.length then lkAt c.spare j else lockB (onB c.sec N (j - c.spare.length)) (N + (j - c.spare.length))) (c.spare.length + k - 32 + i) := by
    intro i hi
    rw [lkAt_last, hl, lkAt_both _ _ _ _ _ (by omega), hN2]
  have hpos : ∀ s j, (lockB s j).pos = (j : Int) := fun _ _ => rfl
  refine ⟨by show (0 : Int) ≤ c.next + k + 1; omega, by show c.next + k + 1 ≤ 4294967294; omega, onB_length _ _ h.sec _, ?_, fun i hi => ?_, fun i hi => ?_⟩
  · show (lastL (c.spare ++ passB c.sec c.next.toNat k)).length ≤ 32
    rw [hLL]; omega
  · have hi' : i < (lastL (c.spare ++ passB c.sec c.next.toNat k)).length := hi
    rw [hLL] at hi'
    show (lkAt (lastL (c.spare ++ passB c.sec c.next.toNat k)) i).ok (c.next + k + 1)
    rw [hat i hi']
    show (if _ then _ else _ : Lk).ok _
    split
    · next h1 =>
      obtain ⟨a1, a2, a3, a4⟩ := h.each _ h1
      exact ⟨a1, by omega, a3, a4⟩
    · exact lockB_ok _ _ _ (by omega)
  · have hi' : i + 1 < (lastL (c.spare ++ passB c.sec c.next.toNat k)).length := hi
    rw [hLL] at hi'
    show (lkAt (lastL (c.spare ++ passB c.sec c.next.toNat k)) i).pos < (lkAt (lastL (c.spare ++ passB c.sec c.next.toNat k)) (i + 1)).pos
    rw [hat i (by omega), hat (i + 1) hi']
    show (if _ then _ else _ : Lk).pos < (if _ then _ else _ : Lk).pos
    split
    · next h1 =>
      split
      · next h2 => exact h.lt (by omega) h2
      · next h2 =>
        have h3 := (h.each _ h1).2.1
        rw [hpos]
        omega
    · next h1 =>
      rw [if_neg (by omega), hpos, hpos]
      omega
theorem takE_zero {c : Ch} {a : Int} (h : takE c a = 0) : (0 ≤ a ∧ a ≤ 4294967294) ∧ (spAt c.spare a < c.spare.length ∨ (¬ spAt c.spare a < c.spare.length ∧ c.next ≤ a ∧ a - c.next ≤ 100 ∧ a + 1 ≤ 4294967294)) := by
  unfold takE at h
  split at h
  · cases h
  split at h
  · exact ⟨by omega, .inl (by assumption)⟩
  split at h
  · cases h
  split at h
  · cases h
  exact ⟨by omega, .inr ⟨by assumption, by omega, by omega, by omega⟩⟩
theorem takC_ok {c : Ch} (h : c.ok) (a : Int) : (takC c a).ok := by
  unfold takC
  split
  · exact h
  · next h1 =>
    have h2 := takE_zero (Classical.not_not.1 h1)
    split
    · next h3 => exact h.erase h3
    · next h3 =>
      rcases h2.2 with h4 | ⟨_, h4, h5, h6⟩
      · exact absurd h4 h3
      · have := h.step (a - c.next).toNat (by omega)
        rw [show c.next + ((a - c.next).toNat : Int) + 1 = a + 1 by omega] at this
        exact this
def Ch.few13 (c : Ch) : Prop := c.sec.length ≤ 40 ∧ c.spare.length ≤ 40 ∧ ∀ i, i < c.spare.length → (lkAt c.spare i).key.length ≤ 40 ∧ (lkAt c.spare i).non.length ≤ 40
end Go.Proofs.YtigpgcjbpoaclaaDoor

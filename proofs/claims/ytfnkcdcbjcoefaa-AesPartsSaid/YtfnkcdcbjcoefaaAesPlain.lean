/- AES-128 in plain words: the box, the rounds' keys, a block locked, a stream. Nothing of a dump. -/
import Derived.Test.YtfnkcdcbjcoefaaGf
set_option linter.unusedVariables false
set_option linter.unusedSimpArgs false
namespace Go.Proofs.Ytfnkcdcbjcoefaa

def mulB (a b : UInt8) : UInt8 := UInt8.ofNat (gm a.toNat b.toNat)
def boxB (x : UInt8) : UInt8 := UInt8.ofNat (boxN x.toNat)
theorem u8_lt (a : UInt8) : a.toNat < 256 := a.toNat_lt
theorem mulB_nat (a b : UInt8) : (mulB a b).toNat = gm a.toNat b.toNat := by
  unfold mulB
  rw [UInt8.toNat_ofNat', Nat.mod_eq_of_lt (gm_lt (u8_lt a))]
theorem boxB_nat (a : UInt8) : (boxB a).toNat = boxN a.toNat := by
  unfold boxB
  rw [UInt8.toNat_ofNat', Nat.mod_eq_of_lt (box_lt (u8_lt a))]
theorem u8_ext {a b : UInt8} (h : a.toNat = b.toNat) : a = b := UInt8.toNat_inj.1 h
theorem mulB_comm (a b : UInt8) : mulB a b = mulB b a := u8_ext (by rw [mulB_nat, mulB_nat, gm_comm (u8_lt a) (u8_lt b)])
theorem mulB_assoc (a b c : UInt8) : mulB (mulB a b) c = mulB a (mulB b c) := u8_ext (by rw [mulB_nat, mulB_nat, mulB_nat, mulB_nat, gm_assoc (u8_lt a) (u8_lt b) (u8_lt c)])
theorem mulB_add (a b c : UInt8) : mulB a (b ^^^ c) = mulB a b ^^^ mulB a c := u8_ext (by rw [mulB_nat, UInt8.toNat_xor, UInt8.toNat_xor, mulB_nat, mulB_nat, gm_addR])
theorem mulB_addL (a b c : UInt8) : mulB (a ^^^ b) c = mulB a c ^^^ mulB b c := by rw [mulB_comm, mulB_add, mulB_comm c a, mulB_comm c b]
theorem mulB_one (a : UInt8) : mulB a 1 = a := u8_ext (by rw [mulB_nat]; exact gm_one (u8_lt a))
theorem mulB_zero (a : UInt8) : mulB a 0 = 0 := u8_ext (by rw [mulB_nat]; exact gm_zero _)
theorem boxB_inj (a b : UInt8) : boxB a = boxB b ↔ a = b :=
  ⟨fun h => u8_ext (box_inj (u8_lt a) (u8_lt b) (by rw [← boxB_nat, ← boxB_nat, h])), fun h => by rw [h]⟩
/-- Just one byte makes 1 with one that isn't 0; none with 0. -/
theorem mulB_inv (a b : UInt8) : mulB a b = 1 ↔ a ≠ 0 ∧ b = UInt8.ofNat (invN a.toNat) := by
  have hi := inv_lt (u8_lt a)
  constructor
  · intro h
    have h1 : gm a.toNat b.toNat = 1 := by rw [← mulB_nat, h]; rfl
    refine ⟨?_, u8_ext ?_⟩
    · rintro rfl
      rw [mulB_comm, mulB_zero] at h
      cases h
    · rw [inv_unique (u8_lt a) (u8_lt b) h1, UInt8.toNat_ofNat', Nat.mod_eq_of_lt hi]
  · rintro ⟨h0, rfl⟩
    refine u8_ext ?_
    rw [mulB_nat, UInt8.toNat_ofNat', Nat.mod_eq_of_lt hi, (inv_one (u8_lt a) (fun h => h0 (u8_ext h))).1]
    rfl

/-- A column, mixed: one of its four bytes, of it and those behind it. -/
def mix4 (a b c d : UInt8) : UInt8 := mulB a 2 ^^^ mulB b 3 ^^^ c ^^^ d
def unmix4 (a b c d : UInt8) : UInt8 := mulB a 14 ^^^ mulB b 11 ^^^ mulB c 13 ^^^ mulB d 9
theorem collect (f : UInt8 → UInt8 → UInt8) (a1 a2 a3 a4 b1 b2 b3 b4 c1 c2 c3 c4 d1 d2 d3 d4 : UInt8) :
    (a1 ^^^ b1 ^^^ c1 ^^^ d1) ^^^ (b2 ^^^ c2 ^^^ d2 ^^^ a2) ^^^ (c3 ^^^ d3 ^^^ a3 ^^^ b3) ^^^ (d4 ^^^ a4 ^^^ b4 ^^^ c4) = (a1 ^^^ a2 ^^^ a3 ^^^ a4) ^^^ (b1 ^^^ b2 ^^^ b3 ^^^ b4) ^^^ (c1 ^^^ c2 ^^^ c3 ^^^ c4) ^^^ (d1 ^^^ d2 ^^^ d3 ^^^ d4) := by ac_rfl
theorem unmix_mix (a b c d : UInt8) : unmix4 (mix4 a b c d) (mix4 b c d a) (mix4 c d a b) (mix4 d a b c) = a := by
  unfold unmix4 mix4
  simp only [mulB_addL, mulB_assoc]
  rw [collect (fun x _ => x)]
  simp only [← mulB_add]
  have e1 : (mulB 2 14 ^^^ 11 ^^^ 13 ^^^ mulB 3 9 : UInt8) = 1 := by decide +kernel
  have e2 : (mulB 3 14 ^^^ mulB 2 11 ^^^ 13 ^^^ 9 : UInt8) = 0 := by decide +kernel
  have e3 : (14 ^^^ mulB 3 11 ^^^ mulB 2 13 ^^^ 9 : UInt8) = 0 := by decide +kernel
  have e4 : (14 ^^^ 11 ^^^ mulB 3 13 ^^^ mulB 2 9 : UInt8) = 0 := by decide +kernel
  rw [e1, e2, e3, e4, mulB_one, mulB_zero, mulB_zero, mulB_zero]
  simp

/-- Sixteen bytes, told one by one. -/
def tab (n : Nat) (f : Nat → UInt8) : List UInt8 := (List.range n).map f
theorem tab_length (n : Nat) (f : Nat → UInt8) : (tab n f).length = n := by simp [tab]
theorem tab_get (n : Nat) (f : Nat → UInt8) (i : Nat) (h : i < n) : (tab n f).getD i 0 = f i := by simp [tab, List.getD_eq_getElem?_getD, h]
theorem tab_ext (n : Nat) (l : List UInt8) (h : l.length = n) : tab n (fun i => l.getD i 0) = l := by
  apply List.ext_getElem
  · rw [tab_length, h]
  · intro i h1 h2
    have := tab_get n (fun i => l.getD i 0) i (by rw [tab_length] at h1; exact h1)
    rw [List.getD_eq_getElem?_getD, List.getElem?_eq_getElem h1] at this
    simp only [Option.getD_some] at this
    rw [this, List.getD_eq_getElem?_getD, List.getElem?_eq_getElem h2]
    rfl
theorem get_ext (n : Nat) (l m : List UInt8) (h1 : l.length = n) (h2 : m.length = n) (h : ∀ i, i < n → l.getD i 0 = m.getD i 0) : l = m := by
  rw [← tab_ext n l h1, ← tab_ext n m h2]
  unfold tab
  apply List.map_congr_left
  intro i hi
  exact h i (by simpa using hi)
/-- Where the byte at m comes from, of the bytes at 4c + r turned left by r places of c. -/
def from' (m : Nat) : Nat := 4 * ((m / 4 + m % 4) % 4) + m % 4
def subS (s : List UInt8) : List UInt8 := tab 16 fun m => boxB (s.getD (from' m) 0)
def at4 (t : List UInt8) (m k : Nat) : UInt8 := t.getD (4 * (m / 4) + (m % 4 + k) % 4) 0
def mixS (t : List UInt8) : List UInt8 := tab 16 fun m => mix4 (at4 t m 0) (at4 t m 1) (at4 t m 2) (at4 t m 3)
def addS (s w : List UInt8) (n : Nat) : List UInt8 := tab 16 fun i => s.getD i 0 ^^^ w.getD (16 * n + i) 0
/-- Round n. -/
def roundS (w s : List UInt8) (n : Nat) : List UInt8 := addS (if n < 10 then mixS (subS s) else subS s) w n
/-- Behind n rounds. -/
def lockTo (w b : List UInt8) : Nat → List UInt8
  | 0 => addS b w 0
  | n + 1 => roundS w (lockTo w b n) (n + 1)
def lockL (w b : List UInt8) : List UInt8 := lockTo w b 10
theorem addS_length (s w : List UInt8) (n : Nat) : (addS s w n).length = 16 := tab_length _ _
theorem lockTo_length (w b : List UInt8) (n : Nat) : (lockTo w b n).length = 16 := by
  cases n with
  | zero => exact addS_length _ _ _
  | succ n => exact addS_length _ _ _
theorem addS_inj {s t w : List UInt8} {n : Nat} (hs : s.length = 16) (ht : t.length = 16) (h : addS s w n = addS t w n) : s = t := by
  refine get_ext 16 s t hs ht (fun i hi => ?_)
  have := congrArg (fun l => l.getD i 0) h
  simp only [addS] at this
  rw [tab_get _ _ i hi, tab_get _ _ i hi] at this
  have h2 := congrArg (· ^^^ w.getD (16 * n + i) 0) this
  simpa [UInt8.xor_assoc] using h2
theorem from_onto : ∀ i, i < 16 → ∃ m, m < 16 ∧ from' m = i := by
  have : ∀ i : Fin 16, ∃ m : Fin 16, from' m.1 = i.1 := by decide
  intro i hi
  obtain ⟨m, hm⟩ := this ⟨i, hi⟩
  exact ⟨m.1, m.2, hm⟩
theorem subS_inj {s t : List UInt8} (hs : s.length = 16) (ht : t.length = 16) (h : subS s = subS t) : s = t := by
  refine get_ext 16 s t hs ht (fun i hi => ?_)
  obtain ⟨m, hm, rfl⟩ := from_onto i hi
  have := congrArg (fun l => l.getD m 0) h
  simp only [subS] at this
  rw [tab_get _ _ m hm, tab_get _ _ m hm] at this
  exact (boxB_inj _ _).1 this
theorem mixS_at (t : List UInt8) (m : Nat) (hm : m < 16) (k : Nat) (hk : k < 4) : at4 (mixS t) m k = mix4 (at4 t m k) (at4 t m ((k + 1) % 4)) (at4 t m ((k + 2) % 4)) (at4 t m ((k + 3) % 4)) := by
  have h : ∀ m : Fin 16, ∀ k : Fin 4, 4 * (m.1 / 4) + (m.1 % 4 + k.1) % 4 < 16 ∧ (4 * (m.1 / 4) + (m.1 % 4 + k.1) % 4) / 4 = m.1 / 4 ∧ ∀ j : Fin 4, (m.1 % 4 + (k.1 + j.1) % 4) % 4 = ((4 * (m.1 / 4) + (m.1 % 4 + k.1) % 4) % 4 + j.1) % 4 := by decide
  obtain ⟨h1, h2, h3⟩ := h ⟨m, hm⟩ ⟨k, hk⟩
  simp only at h1 h2 h3
  have e : ∀ j, j < 4 → at4 t (4 * (m / 4) + (m % 4 + k) % 4) j = at4 t m ((k + j) % 4) := fun j hj => by
    unfold at4
    rw [h2, h3 ⟨j, hj⟩]
  show (mixS t).getD (4 * (m / 4) + (m % 4 + k) % 4) 0 = _
  unfold mixS
  rw [tab_get _ _ _ h1, e 0 (by omega), e 1 (by omega), e 2 (by omega), e 3 (by omega), Nat.add_zero, Nat.mod_eq_of_lt hk]
theorem mixS_inj {s t : List UInt8} (hs : s.length = 16) (ht : t.length = 16) (h : mixS s = mixS t) : s = t := by
  have un : ∀ (t : List UInt8) (m : Nat), m < 16 → unmix4 (at4 (mixS t) m 0) (at4 (mixS t) m 1) (at4 (mixS t) m 2) (at4 (mixS t) m 3) = at4 t m 0 := fun t m hm => by
    rw [mixS_at t m hm 0 (by omega), mixS_at t m hm 1 (by omega), mixS_at t m hm 2 (by omega), mixS_at t m hm 3 (by omega)]
    exact unmix_mix _ _ _ _
  refine get_ext 16 s t hs ht (fun i hi => ?_)
  have h1 := un s i hi
  have h2 := un t i hi
  rw [h] at h1
  have e : ∀ l : List UInt8, at4 l i 0 = l.getD i 0 := fun l => by
    unfold at4
    congr 1
    omega
  rw [← e s, ← e t, ← h1, ← h2]
theorem lockTo_inj {w a b : List UInt8} (ha : a.length = 16) (hb : b.length = 16) : ∀ n, lockTo w a n = lockTo w b n → a = b
  | 0, h => addS_inj ha hb h
  | n + 1, h => by
    refine lockTo_inj (w := w) ha hb n ?_
    simp only [lockTo, roundS] at h
    split at h
    · exact subS_inj (lockTo_length _ _ _) (lockTo_length _ _ _) (mixS_inj (tab_length _ _) (tab_length _ _) (addS_inj (tab_length _ _) (tab_length _ _) h))
    · exact subS_inj (lockTo_length _ _ _) (lockTo_length _ _ _) (addS_inj (tab_length _ _) (tab_length _ _) h)
theorem lockL_inj {w a b : List UInt8} (ha : a.length = 16) (hb : b.length = 16) : lockL w a = lockL w b ↔ a = b := ⟨lockTo_inj ha hb 10, fun h => by rw [h]⟩
theorem lockL_length (w b : List UInt8) : (lockL w b).length = 16 := lockTo_length _ _ _

/-- The first n bytes of the rounds' keys, byte by byte: number m of a key of 16 bytes. -/
def rcon : Nat → UInt8
  | 0 => 1
  | n + 1 => mulB (rcon n) 2
def keyNext (w : List UInt8) : UInt8 :=
  let m := w.length; let i := m / 4; let k := m % 4
  let x := if i % 4 = 0 then boxB (w.getD (4 * i - 4 + (k + 1) % 4) 0) else w.getD (4 * i - 4 + k) 0
  let x := if i % 4 = 0 ∧ k = 0 then x ^^^ rcon (i / 4 - 1) else x
  w.getD (4 * i - 16 + k) 0 ^^^ x
def keysTo (key : List UInt8) : Nat → List UInt8
  | 0 => key
  | n + 1 => keysTo key n ++ [keyNext (keysTo key n)]
def keysL (key : List UInt8) : List UInt8 := keysTo key 160
theorem keysTo_length (key : List UInt8) : ∀ n, (keysTo key n).length = key.length + n
  | 0 => rfl
  | n + 1 => by rw [keysTo, List.length_append, keysTo_length key n]; rfl
theorem lock_shown : lockL (keysL [0, 1, 2, 3, 4, 5, 6, 7, 8, 9, 10, 11, 12, 13, 14, 15]) [0x00, 0x11, 0x22, 0x33, 0x44, 0x55, 0x66, 0x77, 0x88, 0x99, 0xaa, 0xbb, 0xcc, 0xdd, 0xee, 0xff] =
    [0x69, 0xc4, 0xe0, 0xd8, 0x6a, 0x7b, 0x04, 0x30, 0xd8, 0xcd, 0xb7, 0x80, 0x70, 0xb4, 0xc5, 0x5a] := by decide +kernel
end Go.Proofs.Ytfnkcdcbjcoefaa

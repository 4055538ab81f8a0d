/- What is put is taken: plain facts on bytes. Nothing of a dump. -/
import Derived.Test.YtobldbodafaajaaGreatDoorByt9
import Derived.Test.YtobldbodafaajaaGreatDoorBase2
import Derived.Deep.QuietTactic
import Derived.BigQuiet
import Derived.Laws.Rows
import Derived.Laws.Tables
import Derived.Test.YtobldbodafaajaaGreatDoorProg
import Derived.IntWalk
import Derived.Lib.Hide
import Derived.Outline
import Derived.WalkSpells
import Derived.Test.YtobldbodafaajaaGreatDoorIter9
import Derived.StillTailTactics
import Derived.Deep.RegionHeld3
import Derived.Laws.PanicsMore
set_option linter.unusedVariables false
set_option linter.unusedSimpArgs false
namespace Go.Proofs.YtobldbodafaajaaGreatDoor

theorem drop_len {b l more : List UInt8} {p : Nat} (hd : b.drop p = l ++ more) (hl : l ≠ []) : p + l.length + more.length = b.length := by
  have h := congrArg List.length hd
  rw [List.length_drop, List.length_append] at h
  have : 0 < l.length := List.length_pos_iff.2 hl
  omega
theorem drop_take {b l more : List UInt8} {p : Nat} (hd : b.drop p = l ++ more) : (b.drop p).take l.length = l := by
  rw [hd, List.take_append_of_le_length (Nat.le_refl _), List.take_length]
theorem drop_head {b more t : List UInt8} {c : UInt8} {p : Nat} (hd : b.drop p = (c :: t) ++ more) : b.getD p 0 = c := by
  have h := congrArg (fun l => l.getD 0 0) hd
  simp only [List.cons_append, List.getD_cons_zero, List.getD_eq_getElem?_getD, List.getElem?_drop, Nat.add_zero] at h
  rw [List.getD_eq_getElem?_getD]
  exact h

theorem tn_at {b more : List UInt8} {p k n : Nat} (hk : 1 ≤ k) (hk7 : k ≤ 7) (hn : n < 256 ^ k) (hd : b.drop p = be k n ++ more) :
    tnN b p k = n ∧ tnP b p k = p + k ∧ tnE b p k = 0 := by
  have hl : (be k n).length = k := be_length k n
  have hne : be k n ≠ [] := by intro h; rw [h] at hl; simp at hl; omega
  have hlen := drop_len hd hne
  rw [hl] at hlen
  have ht := drop_take hd
  rw [hl] at ht
  obtain ⟨e1, e2, e3⟩ := tn_yes (b := b) (at' := p) (w := k) (by omega) (by omega)
  rw [e1, e2, e3, Int.toNat_natCast, Int.toNat_natCast, ht, val_be k n hn]
  exact ⟨rfl, rfl, rfl⟩

theorem lenBytes_length (n : Nat) : (lenBytes n).length = if n < 64 then 1 else if n < 16384 then 2 else 4 := by
  unfold lenBytes
  split
  · exact be_length _ _
  · split <;> exact be_length _ _
theorem lenBytes_pos (n : Nat) : 1 ≤ (lenBytes n).length := by rw [lenBytes_length]; split <;> (try split) <;> omega

theorem tl_at {b more : List UInt8} {p n : Nat} (hn : n ≤ 1073741823) (hd : b.drop p = lenBytes n ++ more) :
    tlN b p = n ∧ tlP b p = p + (lenBytes n).length ∧ tlE b p = 0 := by
  have hL := lenBytes_length n
  have hne : lenBytes n ≠ [] := by intro h; have := lenBytes_pos n; rw [h] at this; simp at this
  have hlen := drop_len hd hne
  have hp : p < b.length := by have := lenBytes_pos n; omega
  by_cases h1 : n < 64
  · have e : lenBytes n = be 1 n := by simp only [lenBytes, if_pos h1]
    rw [if_pos h1] at hL
    rw [e, be_cons] at hd
    have hh := drop_head hd
    have hc : (b.getD p 0).toNat = n := by rw [hh]; simp; omega
    obtain ⟨e1, e2, e3⟩ := tl_one hp (by omega)
    rw [e1, e2, e3, hL, hc]
    exact ⟨rfl, rfl, rfl⟩
  · by_cases h2 : n < 16384
    · have e : lenBytes n = be 2 (n + 16384) := by simp only [lenBytes, if_neg h1, if_pos h2]
      rw [if_neg h1, if_pos h2] at hL
      have ht := drop_take hd
      rw [hL, e] at ht
      rw [e, be_cons] at hd
      have hh := drop_head hd
      have hc : (b.getD p 0).toNat = (n + 16384) / 256 := by rw [hh]; simp; omega
      have hv : val ((b.drop p).take 2) = n + 16384 := by rw [ht]; exact val_be 2 _ (by omega)
      obtain ⟨e1, e2, e3⟩ := (tl_two hp (by omega) (by omega) (by omega)).2 (by omega)
      rw [e1, e2, e3, hL, hv]
      exact ⟨by omega, rfl, rfl⟩
    · have e : lenBytes n = be 4 (n + 2147483648) := by simp only [lenBytes, if_neg h1, if_neg h2]
      rw [if_neg h1, if_neg h2] at hL
      have ht := drop_take hd
      rw [hL, e] at ht
      rw [e, be_cons] at hd
      have hh := drop_head hd
      have hc : (b.getD p 0).toNat = (n + 2147483648) / 16777216 := by rw [hh]; simp; omega
      have hv : val ((b.drop p).take 4) = n + 2147483648 := by rw [ht]; exact val_be 4 _ (by omega)
      obtain ⟨e1, e2, e3⟩ := (tl_four hp (by omega) (by omega) (by omega)).2 (by omega)
      rw [e1, e2, e3, hL, hv]
      exact ⟨by omega, rfl, rfl⟩

theorem row_ok {x : List UInt8} (h : x.length ≤ 1073741823) : rowE x = 0 ∧ rowB x = lenBytes x.length ++ x := by
  have e : rowE x = 0 := if_neg (by omega)
  simp [rowB, e]
theorem row_len {x : List UInt8} (h : x.length ≤ 1073741823) : (rowB x).length = (lenBytes x.length).length + x.length := by rw [(row_ok h).2, List.length_append]

theorem tr_at {b x more : List UInt8} {p : Nat} {most : Int} (hx : x.length ≤ 1073741823) (hm : (x.length : Int) ≤ most) (hd : b.drop p = rowB x ++ more) :
    trB b p most = x ∧ trP b p most = p + (rowB x).length ∧ trE b p most = 0 := by
  have hr := row_len hx
  rw [(row_ok hx).2, List.append_assoc] at hd
  obtain ⟨e1, e2, e3⟩ := tl_at hx hd
  have hne : lenBytes x.length ≠ [] := by intro h; have := lenBytes_pos x.length; rw [h] at this; simp at this
  have hlen := drop_len hd hne
  rw [List.length_append] at hlen
  obtain ⟨f1, f2, f3⟩ := tr_yes (l := b) (at' := p) (most := most) e3 (by omega) (by omega)
  rw [f1, f2, f3, e1, e2]
  refine ⟨?_, by omega, rfl⟩
  rw [show ((p : Int) + (lenBytes x.length).length).toNat = p + (lenBytes x.length).length from by omega, Int.toNat_natCast, ← List.drop_drop, hd, List.drop_append_of_le_length (Nat.le_refl _), List.drop_length, List.nil_append,
    List.take_append_of_le_length (Nat.le_refl _), List.take_length]

theorem to_at {b more : List UInt8} {is : Bool} {x : List UInt8} (hd : b = optB is x ++ more) : toV b 0 = is ∧ toP b 0 = 1 ∧ toE b 0 = 0 := by
  have hc : ∃ t, b = (if is then 1 else 0) :: t := by
    rw [hd]
    cases is
    · exact ⟨_, rfl⟩
    · exact ⟨_, rfl⟩
  obtain ⟨t, rfl⟩ := hc
  have e : toE ((if is then 1 else 0) :: t) 0 = 0 := by
    unfold toE
    rw [if_neg (by simp only [List.length_cons]; omega), if_neg (by simp only [List.length_cons]; omega)]
    cases is <;> simp
  refine ⟨?_, by simp [toP, e], e⟩
  unfold toV
  rw [e]
  cases is <;> simp

/-- Of two lengths neither one's bytes are the beginning of the other's. -/
theorem len_begins {m n : Nat} (hm : m ≤ 1073741823) (hn : n ≤ 1073741823) (h : ∃ t, lenBytes m = lenBytes n ++ t) : m = n := by
  obtain ⟨t, ht⟩ := h
  have h1 := (tl_at (b := lenBytes m) (p := 0) (more := []) hm (by simp)).1
  have h2 := (tl_at (b := lenBytes m) (p := 0) (more := t) hn (by simpa using ht)).1
  rw [h1] at h2
  exact_mod_cast h2
theorem row_begins {x y : List UInt8} (hx : x.length ≤ 1073741823) (hy : y.length ≤ 1073741823) (h : ∃ t, rowB x = rowB y ++ t) : x = y := by
  obtain ⟨t, ht⟩ := h
  have h1 := (tr_at (b := rowB x) (p := 0) (more := []) (most := 1073741823) hx (by omega) (by simp)).1
  have h2 := (tr_at (b := rowB x) (p := 0) (more := t) (most := 1073741823) hy (by omega) (by simpa using ht)).1
  rw [h1] at h2
  exact h2
theorem lenBytes_mono {m n : Nat} (h : m ≤ n) : (lenBytes m).length ≤ (lenBytes n).length := by
  rw [lenBytes_length, lenBytes_length]
  split <;> split <;> (try split) <;> (try split) <;> omega
end Go.Proofs.YtobldbodafaajaaGreatDoor

/- SHA-256 in plain words: what a block makes of eight words, what stands behind bytes, digests. Nothing of a dump. -/
set_option linter.unusedVariables false
set_option linter.unusedSimpArgs false
namespace Go.Proofs.YtobldbodafaajaaGreatDoor

def wadd (x y : UInt32) : UInt32 := x + y
def wxor (x y : UInt32) : UInt32 := x ^^^ y
def wand (x y : UInt32) : UInt32 := x &&& y
def wor (x y : UInt32) : UInt32 := x ||| y
def wnot (x : UInt32) : UInt32 := wxor 0xffffffff x
def wshl (k : Nat) (x : UInt32) : UInt32 := UInt32.ofNat (x.toNat * 2 ^ k)
def wshr (k : Nat) (x : UInt32) : UInt32 := UInt32.ofNat (x.toNat / 2 ^ k)
/-- Turned right. -/
def rotr (k : Nat) (x : UInt32) : UInt32 := wor (wshr k x) (wshl (32 - k) x)
def big (i j k : Nat) (x : UInt32) : UInt32 := wxor (wxor (rotr i x) (rotr j x)) (rotr k x)
def small (i j k : Nat) (x : UInt32) : UInt32 := wxor (wxor (rotr i x) (rotr j x)) (wshr k x)
def wordOf (a b c d : UInt8) : UInt32 := UInt32.ofNat (16777216 * a.toNat + 65536 * b.toNat + 256 * c.toNat + d.toNat)
def nextWord (l : List UInt8) (w : List UInt32) (t : Nat) : UInt32 :=
  if t < 16 then wordOf (l.getD (4 * t) 0) (l.getD (4 * t + 1) 0) (l.getD (4 * t + 2) 0) (l.getD (4 * t + 3) 0)
  else wadd (wadd (wadd (small 17 19 10 (w.getD (t - 2) 0)) (w.getD (t - 7) 0)) (small 7 18 3 (w.getD (t - 15) 0))) (w.getD (t - 16) 0)
/-- The first t words of a block's. -/
def sched (l : List UInt8) : Nat → List UInt32
  | 0 => []
  | t + 1 => sched l t ++ [nextWord l (sched l t) t]

structure S8 where
  a : UInt32
  b : UInt32
  c : UInt32
  d : UInt32
  e : UInt32
  f : UInt32
  g : UInt32
  h : UInt32
deriving DecidableEq
def S8.list (s : S8) : List UInt32 := [s.a, s.b, s.c, s.d, s.e, s.f, s.g, s.h]
def t1 (s : S8) (k w : UInt32) : UInt32 := wadd (wadd (wadd (wadd s.h (big 6 11 25 s.e)) (wxor (wand s.e s.f) (wand (wnot s.e) s.g))) k) w
def t2 (s : S8) : UInt32 := wadd (big 2 13 22 s.a) (wxor (wxor (wand s.a s.b) (wand s.a s.c)) (wand s.b s.c))
def rnd (s : S8) (k w : UInt32) : S8 := ⟨wadd (t1 s k w) (t2 s), s.a, s.b, s.c, wadd s.d (t1 s k w), s.e, s.f, s.g⟩
/-- Eight words behind the first t rounds. -/
def rnds (k w : List UInt32) (s : S8) : Nat → S8
  | 0 => s
  | t + 1 => rnd (rnds k w s t) (k.getD t 0) (w.getD t 0)
def S8.add (s r : S8) : S8 := ⟨wadd s.a r.a, wadd s.b r.b, wadd s.c r.c, wadd s.d r.d, wadd s.e r.e, wadd s.f r.f, wadd s.g r.g, wadd s.h r.h⟩
/-- Eight words behind a block. -/
def comp (k : List UInt32) (s : S8) (l : List UInt8) : S8 := s.add (rnds k (sched l 64) s 64)
def startS : S8 := ⟨0x6a09e667, 0xbb67ae85, 0x3c6ef372, 0xa54ff53a, 0x510e527f, 0x9b05688c, 0x1f83d9ab, 0x5be0cd19⟩
def keyL : List UInt32 := [
    0x428a2f98, 0x71374491, 0xb5c0fbcf, 0xe9b5dba5, 0x3956c25b, 0x59f111f1, 0x923f82a4, 0xab1c5ed5,
    0xd807aa98, 0x12835b01, 0x243185be, 0x550c7dc3, 0x72be5d74, 0x80deb1fe, 0x9bdc06a7, 0xc19bf174,
    0xe49b69c1, 0xefbe4786, 0x0fc19dc6, 0x240ca1cc, 0x2de92c6f, 0x4a7484aa, 0x5cb0a9dc, 0x76f988da,
    0x983e5152, 0xa831c66d, 0xb00327c8, 0xbf597fc7, 0xc6e00bf3, 0xd5a79147, 0x06ca6351, 0x14292967,
    0x27b70a85, 0x2e1b2138, 0x4d2c6dfc, 0x53380d13, 0x650a7354, 0x766a0abb, 0x81c2c92e, 0x92722c85,
    0xa2bfe8a1, 0xa81a664b, 0xc24b8b70, 0xc76c51a3, 0xd192e819, 0xd6990624, 0xf40e3585, 0x106aa070,
    0x19a4c116, 0x1e376c08, 0x2748774c, 0x34b0bcb5, 0x391c0cb3, 0x4ed8aa4a, 0x5b9cca4f, 0x682e6ff3,
    0x748f82ee, 0x78a5636f, 0x84c87814, 0x8cc70208, 0x90befffa, 0xa4506ceb, 0xbef9a3f7, 0xc67178f2]
/-- What stands behind n bytes. -/
def fill (n : Nat) : Nat := (119 - n % 64) % 64
def pad (n : Nat) : List UInt8 := 128 :: List.replicate (fill n) 0 ++ be 8 (8 * n)
/-- Eight words behind the first k blocks. -/
def blocks (s : S8) (l : List UInt8) : Nat → S8
  | 0 => s
  | k + 1 => comp keyL (blocks s l k) ((l.drop (64 * k)).take 64)
def padded (l : List UInt8) : List UInt8 := l ++ pad l.length
def bytes4 (x : UInt32) : List UInt8 := [UInt8.ofNat (x.toNat / 16777216), UInt8.ofNat (x.toNat / 65536), UInt8.ofNat (x.toNat / 256), UInt8.ofNat x.toNat]
def S8.bytes (s : S8) : List UInt8 := s.list.flatMap bytes4
def digest (l : List UInt8) : List UInt8 := (blocks startS (padded l) ((padded l).length / 64)).bytes
theorem digest_empty : digest [] = [0xe3,0xb0,0xc4,0x42,0x98,0xfc,0x1c,0x14,0x9a,0xfb,0xf4,0xc8,0x99,0x6f,0xb9,0x24,0x27,0xae,0x41,0xe4,0x64,0x9b,0x93,0x4c,0xa4,0x95,0x99,0x1b,0x78,0x52,0xb8,0x55] := by decide +kernel
theorem digest_abc : digest [97, 98, 99] = [0xba,0x78,0x16,0xbf,0x8f,0x01,0xcf,0xea,0x41,0x41,0x40,0xde,0x5d,0xae,0x22,0x23,0xb0,0x03,0x61,0xa3,0x96,0x17,0x7a,0x9c,0xb4,0x10,0xff,0x61,0xf2,0x00,0x15,0xad] := by decide +kernel

/-- A word as the model's number. -/
def u (x : UInt32) : Int := (x.toNat : Int)
theorem u_nonneg (x : UInt32) : 0 ≤ u x := Int.natCast_nonneg _
theorem u_lt (x : UInt32) : u x < 4294967296 := by unfold u; have := x.toNat_lt; omega
theorem u_inj {x y : UInt32} (h : u x = u y) : x = y := UInt32.toNat_inj.1 (by unfold u at h; omega)
theorem u_of (n : Nat) (h : n < 4294967296) : u (UInt32.ofNat n) = n := by
  unfold u
  rw [UInt32.toNat_ofNat']
  congr 1
  exact Nat.mod_eq_of_lt h
theorem u_ofNat (n : Nat) : u (UInt32.ofNat n) = (n : Int) % 4294967296 := by
  unfold u
  rw [UInt32.toNat_ofNat']
  simp
theorem u_lit (n : Nat) [OfNat UInt32 n] (x : UInt32) (h : x.toNat = n) : u x = n := by unfold u; rw [h]
theorem u_wrap (x : UInt32) : IntKind.u32.wrap (u x) = u x := by rw [IntKind.wrap_u32]; have := u_nonneg x; have := u_lt x; omega
theorem u_add (x y : UInt32) : IntKind.u32.wrap (u x + u y) = u (wadd x y) := by
  rw [IntKind.wrap_u32]
  unfold u wadd
  rw [UInt32.toNat_add]
  simp
theorem u32_bv (x : UInt32) : BitVec.ofInt IntKind.u32.bits (u x) = x.toBitVec := by
  unfold u
  rw [BitVec.ofInt_natCast]
  apply BitVec.eq_of_toNat_eq
  simp [IntKind.bits]
theorem u_xor (x y : UInt32) : bits .xor .u32 (u x) (u y) = u (wxor x y) := by
  simp only [bits, u32_bv]
  change IntKind.u32.wrap (u (x ^^^ y)) = _
  exact u_wrap _
theorem u_and (x y : UInt32) : bits .and .u32 (u x) (u y) = u (wand x y) := by
  simp only [bits, u32_bv]
  change IntKind.u32.wrap (u (x &&& y)) = _
  exact u_wrap _
theorem u_or (x y : UInt32) : bits .or .u32 (u x) (u y) = u (wor x y) := by
  simp only [bits, u32_bv]
  change IntKind.u32.wrap (u (x ||| y)) = _
  exact u_wrap _
theorem u_shl (k : Nat) (x : UInt32) : IntKind.u32.wrap (u x * 2 ^ k) = u (wshl k x) := by
  rw [IntKind.wrap_u32]
  unfold wshl
  rw [u_ofNat]
  unfold u
  simp
theorem u_shr (k : Nat) (x : UInt32) : u x / 2 ^ k = u (wshr k x) := by
  unfold wshr
  have h := x.toNat_lt
  have h2 : x.toNat / 2 ^ k ≤ x.toNat := Nat.div_le_self _ _
  rw [u_of _ (by omega)]
  unfold u
  simp
theorem u_shr3 (x : UInt32) : u x / 8 = u (wshr 3 x) := u_shr 3 x
theorem u_shr10 (x : UInt32) : u x / 1024 = u (wshr 10 x) := u_shr 10 x
theorem wor_comm (x y : UInt32) : wor x y = wor y x := by unfold wor; exact UInt32.or_comm x y
end Go.Proofs.YtobldbodafaajaaGreatDoor

/- Rows of words in memory (arrays, and the rows behind slices). Nothing of a dump. -/
set_option linter.unusedVariables false
set_option linter.unusedSimpArgs false
namespace Go.Proofs.YtobldbodafaajaaGreatDoor
open Go.RowKit

def wcell (x : UInt32) : Value := .int .u32 (u x)
/-- The cells of words. -/
def wcells (l : List UInt32) : Array Value := (l.map wcell).toArray
/-- Block g holds just these words (T: the block's type). -/
def Arr (T : TypeId) (w : World) (g : Nat) (l : List UInt32) : Prop := w.heap[g]? = some (.cells (wcells l) T (0, 0))

theorem wcells_size (l : List UInt32) : (wcells l).size = l.length := by simp [wcells]
theorem wcells_get (l : List UInt32) (i : Nat) (h : i < l.length) : (wcells l)[i]? = some (.int .u32 (u (l.getD i 0))) := by
  simp [wcells, wcell, h]
theorem Arr.lt {T : TypeId} {w : World} {g : Nat} {l : List UInt32} (h : Arr T w g l) : g < w.heap.size := (Array.getElem?_eq_some_iff.1 h).1
theorem Arr.cell {T : TypeId} {w : World} {g : Nat} {l : List UInt32} (h : Arr T w g l) (i : Nat) (hi : i < l.length) : w.cell? ⟨g, i, none⟩ = some (.int .u32 (u (l.getD i 0))) := by
  rw [cell_of_row w g i _ T _ h, wcells_get l i hi]
theorem Arr.frozen {T : TypeId} {w : World} {g : Nat} {l : List UInt32} (h : Arr T w g l) (i : Nat) (hi : i < l.length) : w.frozen? ⟨g, i, none⟩ = false := by
  have h' := h
  unfold Arr at h'
  simp [World.frozen?, h']
theorem Arr.kp {T : TypeId} {w w' : World} {g : Nat} {l : List UInt32} (h : Arr T w g l) (k : Kp w w') : Arr T w' g l :=
  (k.block g h.lt).trans h
theorem Arr.below {T : TypeId} {w w' : World} {g B : Nat} {l : List UInt32} (h : Arr T w g l) (k : Below B w w') (hg : g < B) : Arr T w' g l :=
  (k.block g hg).trans h
theorem Arr.drewN {T : TypeId} {w : World} {g : Nat} {l : List UInt32} (h : Arr T w g l) (n : Nat) : Arr T (w.drewN n) g l := h.kp ((Kp.refl w).drewN n)
theorem Arr.drew {T : TypeId} {w : World} {g : Nat} {l : List UInt32} (h : Arr T w g l) : Arr T w.drew g l := h
theorem Arr.alloc {T : TypeId} {w : World} {g : Nat} {l : List UInt32} (h : Arr T w g l) (o : Obj) : Arr T (w.alloc o) g l := (Below.heap_alloc w o g h.lt).trans h
theorem Arr.new (T : TypeId) (w : World) (cs : Array Value) (l : List UInt32) (h : cs = wcells l) : Arr T (w.alloc (.cells cs T)) w.heap.size l := by
  subst h
  exact heap_alloc_new w _
theorem wcells_set (l : List UInt32) (i : Nat) (x : UInt32) : (wcells l).setIfInBounds i (wcell x) = wcells (l.set i x) := by
  apply Array.ext'
  simp [wcells, List.map_set]
theorem Arr.set {T : TypeId} {w : World} {g : Nat} {l : List UInt32} (h : Arr T w g l) (i : Nat) (x : UInt32) (v : Value) (hv : v = .int .u32 (u x)) : Arr T (w.setCell ⟨g, i, none⟩ v) g (l.set i x) := by
  subst hv
  have h' := h
  unfold Arr at h' ⊢
  obtain ⟨hlt, heq⟩ := Array.getElem?_eq_some_iff.1 h'
  have e := wcells_set l i x
  unfold wcell at e
  simp [World.setCell, hlt, Array.getElem_modify, heq, e]
theorem Arr.setTo {T : TypeId} {w : World} {g : Nat} {l m : List UInt32} (h : Arr T w g l) (i : Nat) (x : UInt32) (hm : l.set i x = m) : Arr T (w.setCell ⟨g, i, none⟩ (.int .u32 (u x))) g m := hm ▸ h.set i x _ rfl
theorem Arr.other {T : TypeId} {w : World} {g : Nat} {l : List UInt32} (h : Arr T w g l) (a : Addr) (v : Value) (hne : g ≠ a.block) : Arr T (w.setCell a v) g l :=
  (Below.heap_setCell w a v g hne).trans h
section
variable {P : Program}
theorem wpList_load_arr {T ty e : TypeId} {n : Nat} (hu : P.underlying ty = some (.array n e)) (hi : (P.info? ty).map (·.size) = some n) {ops : Array Oper} {rest : List Oper} {o : Oper} {a : Act} {w : World} {Q : Exit → Act → World → Prop} (hgd : o.guard = none) (x : Operand) (ho : o.op = .load ty x)
    (g : Nat) (l : List UInt32) (hx : a.eval x = .pointer (some ⟨g, 0, none⟩)) (h : Arr T w g l) (hl : l.length = n)
    (hK : wpList P ops Q rest (a.put o.dst (.agg (wcells l))) w) : wpList P ops Q (o :: rest) a w :=
  wpList_load_row hgd ty x ho g hx T (wcells l) (0, 0) _ h hu rfl (by rw [hi, wcells_size, hl]) hK
theorem wcells_one (l : List UInt32) : (wcells l).all (·.oneCell') = true := by
  rw [Array.all_eq_true_iff_forall_mem]
  intro v hv
  simp only [wcells, List.mem_toArray, List.mem_map] at hv
  obtain ⟨x, _, rfl⟩ := hv
  rfl
theorem Arr.setRow {T : TypeId} {w : World} {g : Nat} {l : List UInt32} (h : Arr T w g l) (m : List UInt32) : Arr T (w.setRow g (wcells m)) g m := by
  unfold Arr at h ⊢
  obtain ⟨hlt, heq⟩ := Array.getElem?_eq_some_iff.1 h
  simp [World.setRow, hlt, Array.getElem_modify, heq]
theorem setRow_other (w : World) (g k : Nat) (cs : Array Value) (h : k ≠ g) : (w.setRow g cs).heap[k]? = w.heap[k]? := by
  simp only [World.setRow]
  rw [Array.getElem?_modify, if_neg (Ne.symm h)]
theorem Arr.setRow_other {T : TypeId} {w : World} {g k : Nat} {l : List UInt32} (h : Arr T w k l) (cs : Array Value) (hne : k ≠ g) : Arr T (w.setRow g cs) k l :=
  (Go.Proofs.YtobldbodafaajaaGreatDoor.setRow_other w g k cs hne).trans h
theorem below_setRow {B : Nat} {a w : World} (h : Below B a w) {g : Nat} (hg : B ≤ g) (cs : Array Value) : Below B a (w.setRow g cs) :=
  ⟨h.os, h.tape, h.output, by simpa [World.setRow] using h.size, fun k hk => (setRow_other w g k cs (by omega)).trans (h.block k hk)⟩
theorem wpList_store_arr {T ty : TypeId} {n : Nat} (hi : (P.info? ty).map (·.size) = some n) {ops : Array Oper} {rest : List Oper} {o : Oper} {a : Act} {w : World} {Q : Exit → Act → World → Prop} (hgd : o.guard = none) (x y : Operand) (ho : o.op = .store ty x y)
    (g : Nat) (l m : List UInt32) (hx : a.eval x = .pointer (some ⟨g, 0, none⟩)) (hy : a.eval y = .agg (wcells m)) (h : Arr T w g l) (hl : l.length = n) (hm : m.length = n)
    (hK : wpList P ops Q rest (a.put o.dst undef) (w.setRow g (wcells m))) : wpList P ops Q (o :: rest) a w :=
  wpList_store_row hgd ty x y ho g (wcells m) hx hy T (wcells l) h (by rw [hi, wcells_size, hm]) (by rw [wcells_size, wcells_size, hl, hm]) (wcells_one m) hK
/-- make([]T, n), T of one cell: a row of n noughts. -/
theorem wpList_make_fresh {t e : TypeId} {z : Value} {b : Nat} (ht : P.underlying t = some (.slice e)) (hinfo : (P.info? e).map (fun i => (i.zero, i.size, i.bytes)) = some (some z, 1, b)) (hz : z.cells = #[z]) (hb : b ≤ 8)
    {ops : Array Oper} {rest : List Oper} {o : Oper} {a : Act} {w : World} {Q : Exit → Act → World → Prop} (hg : o.guard = none) (l c : Operand) (hop : o.op = Op.makeSlice t l c) (n : Nat) (hl : a.eval l = .int .i64 n) (hc : a.eval c = .int .i64 n) (hn : n ≤ 1000000)
    (hK : ∀ W, W = w.alloc (.cells (Array.replicate n z) e) → wpList P ops Q rest (a.put o.dst (.slice (some ⟨w.heap.size, 0, none⟩) n n)) W) : wpList P ops Q (o :: rest) a w := by
  obtain ⟨i, hi, hz0, hz1, hz2⟩ := info_parts hinfo
  refine wpList_plain hg fun K hK' => ?_
  have hbb : (i.bytes : Int) * (n : Int) ≤ 281474976710656 := by
    rw [hz2]
    have h := Nat.mul_le_mul hb hn
    have h2 : ((b * n : Nat) : Int) ≤ ((8 * 1000000 : Nat) : Int) := by omega
    rw [Int.natCast_mul] at h2
    omega
  have hr := run_make (P := P) w t e i z ht hi hz0 .i64 .i64 n n (by omega) (Int.le_refl _) hbb (by omega)
  have hm : madeCells #[z] n = Array.replicate n z := by
    apply Array.ext'
    rw [toList_madeCells_one]
    simp
  rw [hz, hz1, Int.toNat_natCast, Nat.mul_one, hm] at hr
  unfold Oper.wp
  simp [execOp, hop, hl, hc, hr, Result.andThen]
  exact hK' _ _ (hK _ rfl)
/-- W is w, but for what block g holds. -/
structure But (g : Nat) (w W : World) : Prop where
  below : ∀ {B : Nat} {a : World}, Below B a w → B ≤ g → Below B a W
  arr : ∀ {T : TypeId} {k : Nat} {l : List UInt32}, Arr T w k l → k ≠ g → Arr T W k l
  size : W.heap.size = w.heap.size
  other : ∀ k, k ≠ g → W.heap[k]? = w.heap[k]?
theorem But.setRow (g : Nat) (w : World) (cs : Array Value) : But g w (w.setRow g cs) := ⟨fun h hb => below_setRow h hb cs, fun h hne => h.setRow_other cs hne, by simp [World.setRow], fun k hk => Go.Proofs.YtobldbodafaajaaGreatDoor.setRow_other w g k cs hk⟩
theorem wpList_store_arr' {T ty : TypeId} {n : Nat} (hi : (P.info? ty).map (·.size) = some n) {ops : Array Oper} {rest : List Oper} {o : Oper} {a : Act} {w : World} {Q : Exit → Act → World → Prop} (hgd : o.guard = none) (hd : o.dst = none) (x y : Operand) (ho : o.op = .store ty x y)
    (g : Nat) (l m : List UInt32) (hx : a.eval x = .pointer (some ⟨g, 0, none⟩)) (hy : a.eval y = .agg (wcells m)) (h : Arr T w g l) (hl : l.length = n) (hm : m.length = n)
    (hK : ∀ W, Arr T W g m → But g w W → wpList P ops Q rest a W) : wpList P ops Q (o :: rest) a w :=
  wpList_store_arr hi hgd x y ho g l m hx hy h hl hm (by rw [hd]; exact hK _ (h.setRow m) (But.setRow g w _))
theorem results_arr {T ty e : TypeId} {n : Nat} (hu : P.underlying ty = some (.array n e)) (hi : (P.info? ty).map (·.size) = some n) {fn : Func} {p : Tmp} (hr : fn.results = #[.cell p ty]) (tmps : Array Value) (w : World) (g : Nat) (l : List UInt32)
    (hp : tmps.getD p undef = .pointer (some ⟨g, 0, none⟩)) (h : Arr T w g l) (hl : l.length = n) : (results fn tmps).run P w = .ok (.agg (wcells l)) w :=
  results_cell_row hr tmps w g T (wcells l) (0, 0) _ hp h hu rfl (by rw [hi, wcells_size, hl])
end

/-- W is w after some draws. -/
def Dr (w W : World) : Prop := ∃ n, W = w.drewN n
theorem Dr.one (w : World) : Dr w w.drew := ⟨1, rfl⟩
theorem Dr.more {w W : World} (h : Dr w W) (n : Nat) : Dr w (W.drewN n) := by
  obtain ⟨m, rfl⟩ := h
  exact ⟨m + n, by rw [World.drewN_drewN]⟩
theorem Dr.cell {w W : World} (h : Dr w W) {a : Addr} {v : Value} (hv : w.cell? a = some v) : W.cell? a = some v := by
  obtain ⟨m, rfl⟩ := h
  exact (((Kp.refl w).drewN m).cell hv)
end Go.Proofs.YtobldbodafaajaaGreatDoor

/- Rows of bytes in memory. Nothing of a dump. -/
set_option linter.unusedVariables false
set_option linter.unusedSimpArgs false
namespace Go.Proofs.YtobldbodafaajaaGreatDoor
open Go.RowKit

/-- Block g holds just these bytes. -/
def By (T : TypeId) (w : World) (g : Nat) (l : List UInt8) : Prop := w.heap[g]? = some (.cells (Lib.byteCells l).toArray T (0, 0))
theorem By.lt {T : TypeId} {w : World} {g : Nat} {l : List UInt8} (h : By T w g l) : g < w.heap.size := (Array.getElem?_eq_some_iff.1 h).1
theorem By.cell {T : TypeId} {w : World} {g : Nat} {l : List UInt8} (h : By T w g l) (i : Nat) (hi : i < l.length) : w.cell? ⟨g, i, none⟩ = some (.int .u8 ((l.getD i 0).toNat : Int)) := by
  rw [cell_of_row w g i _ T _ h]
  simp [Lib.byteCells, hi]
theorem By.frozen {T : TypeId} {w : World} {g : Nat} {l : List UInt8} (h : By T w g l) (i : Nat) : w.frozen? ⟨g, i, none⟩ = false := by
  have h' := h
  unfold By at h'
  simp [World.frozen?, h']
theorem By.kp {T : TypeId} {w w' : World} {g : Nat} {l : List UInt8} (h : By T w g l) (k : Kp w w') : By T w' g l := (k.block g h.lt).trans h
theorem By.set {T : TypeId} {w : World} {g : Nat} {l m : List UInt8} (h : By T w g l) (i : Nat) (x : UInt8) (hm : l.set i x = m) : By T (w.setCell ⟨g, i, none⟩ (.int .u8 (x.toNat : Int))) g m := by
  subst hm
  have h' := h
  unfold By at h' ⊢
  obtain ⟨hlt, heq⟩ := Array.getElem?_eq_some_iff.1 h'
  simp [World.setCell, hlt, Array.getElem_modify, heq, Lib.byteCells, List.map_set]
theorem By.rd {T : TypeId} {w : World} {g n c : Nat} {l : List UInt8} (h : By T w g l) (hn : n ≤ l.length) (hc : n ≤ c) (hm : c ≤ maxLen) : Rd w (.slice (some ⟨g, 0, none⟩) n c) (l.take n) := by
  have e : (l.take n).length = n := by simp; omega
  refine ⟨some ⟨g, 0, none⟩, c, by rw [e], by rw [e]; exact hc, hm, fun h => (by cases h), fun x hx i hi => ?_⟩
  cases hx
  rw [e] at hi
  have := h.cell i (by omega)
  rw [List.getElem_take]
  rw [List.getD_eq_getElem?_getD, List.getElem?_eq_getElem (by omega)] at this
  rw [← Option.getD_some (a := l[i]) (b := 0), ← this]
  congr 1
  unfold Addr.add
  split <;> simp_all
theorem By.rdAll {T : TypeId} {w : World} {g n c : Nat} {l : List UInt8} (h : By T w g l) (hn : n = l.length) (hc : n ≤ c) (hm : c ≤ maxLen) : Rd w (.slice (some ⟨g, 0, none⟩) n c) l := by
  have := h.rd (n := n) (by omega) hc hm
  rwa [List.take_of_length_le (by omega)] at this

theorem By.fresh (T : TypeId) (w : World) (n : Nat) : By T (w.alloc (.cells (Array.replicate n (.int .u8 0)) T)) w.heap.size (List.replicate n 0) := by
  have := heap_alloc_new w (.cells (Array.replicate n (.int .u8 0)) T)
  unfold By
  rw [this]
  simp [Lib.byteCells]
/-- The first i of B's bytes, then A's. -/
def mixB (A B : List UInt8) (i : Nat) : List UInt8 := B.take i ++ A.drop i
theorem mixB_length (A B : List UInt8) (i : Nat) (h : A.length = B.length) (hi : i ≤ A.length) : (mixB A B i).length = A.length := by simp [mixB]; omega
theorem mixB_set (A B : List UInt8) (i : Nat) (h : A.length = B.length) (hi : i < A.length) (x : UInt8) (hx : B[i]? = some x) : (mixB A B i).set i x = mixB A B (i + 1) := by
  unfold mixB
  have hb : i < B.length := by omega
  have hl : (B.take i).length = i := by simp; omega
  rw [List.getElem?_eq_getElem hb] at hx
  rw [List.set_append_right _ _ (by omega), hl, Nat.sub_self, List.drop_eq_getElem_cons hi, List.set_cons_zero, List.take_succ_eq_append_getElem hb, List.append_assoc]
  cases hx
  rfl
theorem mixB_all (A B : List UInt8) (h : A.length = B.length) : mixB A B B.length = B := by
  unfold mixB
  rw [List.take_of_length_le (Nat.le_refl _), List.drop_eq_nil_of_le (by omega), List.append_nil]

theorem be_get : ∀ (w N k : Nat), k < w → (be w N)[k]? = some (UInt8.ofNat (N / 256 ^ (w - 1 - k)))
  | 0, _, k, h => by omega
  | w + 1, N, 0, _ => by rw [be_cons]; simp
  | w + 1, N, k + 1, h => by
    rw [be_cons, List.getElem?_cons_succ, be_get w N k (by omega)]
    congr 4
    omega

theorem fill_lt (n : Nat) : fill n < 64 := by unfold fill; omega
theorem pad_length (n : Nat) : (pad n).length = 9 + fill n := by simp [pad, be_length]; omega
theorem pad_whole (n : Nat) : (n + (pad n).length) % 64 = 0 := by rw [pad_length]; unfold fill; omega
theorem pad_get (n k : Nat) (h : k < 8) : (pad n)[1 + fill n + k]? = some (UInt8.ofNat (8 * n / 256 ^ (7 - k))) := by
  have e : (128 :: List.replicate (fill n) 0 : List UInt8).length = 1 + fill n := by simp; omega
  have hp : pad n = (128 :: List.replicate (fill n) 0) ++ be 8 (8 * n) := rfl
  rw [hp, List.getElem?_append_right (by omega), e, show 1 + fill n + k - (1 + fill n) = k by omega, be_get 8 _ k h]
theorem pad_start (n : Nat) : (List.replicate (9 + fill n) (0 : UInt8)).set 0 128 = mixB (List.replicate (9 + fill n) 0) (pad n) (1 + fill n) := by
  have e : (128 :: List.replicate (fill n) 0 : List UInt8).length = 1 + fill n := by simp; omega
  have hp : pad n = (128 :: List.replicate (fill n) 0) ++ be 8 (8 * n) := rfl
  unfold mixB
  rw [hp, List.take_append_of_le_length (by omega), List.take_of_length_le (by omega), List.drop_replicate, show 9 + fill n = (fill n + 8) + 1 by omega, List.replicate_succ, List.set_cons_zero, show fill n + 8 + 1 - (1 + fill n) = 8 by omega, List.cons_append, List.replicate_append_replicate]
def padOf (n : Int) : List UInt8 := if 0 ≤ n ∧ n ≤ 1125899906842624 then pad n.toNat else []
end Go.Proofs.YtobldbodafaajaaGreatDoor

/- Words: turned, shifted. -/
set_option linter.unusedVariables false
set_option linter.unusedSimpArgs false
namespace Go.Proofs.YtobldbodafaajaaGreatDoor
open Go.RowKit

attribute [local go_sem] u_wrap u_add u_xor u_and u_or u_shl u_shr

theorem and31 (x : Int) (h₀ : 0 ≤ x) (h₁ : x < 2 ^ 64) : bits .and .u64 x 31 = x % 32 :=
  bits_mask .u64 64 (by decide) (fun n h0 h1 => by simp [IntKind.wrap, IntKind.bits, IntKind.signed]; omega) 5 (by decide) x h₀ h₁
theorem turnBy (i : Nat) (h0 : 0 < i) (h1 : i < 32) : bits .and .u64 (IntKind.u64.wrap (-(i : Int))) 31 = 32 - (i : Int) := by
  have hw : IntKind.u64.wrap (-(i : Int)) = 18446744073709551616 - i := by
    simp [IntKind.wrap, IntKind.bits, IntKind.signed]; omega
  rw [hw, and31 _ (by omega) (by omega)]
  omega

set_option maxHeartbeats 400000 in
theorem rotate_any (i : Nat) (x : UInt32) (w : World) (h0 : 0 < i) (h1 : i < 32) :
    Calls Tryz.prog 120 #[.int .u32 (u x), .int .i64 (-(i : Int))] w fun e w' => e = .returned (.int .u32 (u (rotr i x))) ∧ w = w' := by
  have ht := turnBy i h0 h1
  have e1 : (32 - (i : Int)).toNat = 32 - i := by omega
  have e2 : IntKind.u64.wrap (32 - (32 - (i : Int))) = i := by simp [IntKind.wrap, IntKind.bits, IntKind.signed]; omega
  go_enter Tryz.func120, Tryz.ntmps120
  go_wp2
  go_ret
  exact ⟨by rw [wor_comm]; rfl, rfl⟩

set_option maxHeartbeats 400000 in
theorem turned_nat (i j k : Nat) (x : UInt32) (w : World) (hi : 0 < i ∧ i < 32) (hj : 0 < j ∧ j < 32) (hk : 0 < k ∧ k < 32) :
    Calls Tryz.prog 117 #[.int .u32 (u x), .int .i64 i, .int .i64 j, .int .i64 k] w fun e w' => e = .returned (.int .u32 (u (big i j k x))) ∧ w = w' := by
  have n : ∀ i : Nat, i < 32 → IntKind.i64.wrap (-(i : Int)) = -i := fun i h => by rw [IntKind.wrap_i64]; omega
  have ni := n i hi.2
  have nj := n j hj.2
  have nk := n k hk.2
  obtain ⟨hi0, hi1⟩ := hi
  obtain ⟨hj0, hj1⟩ := hj
  obtain ⟨hk0, hk1⟩ := hk
  clear n
  go_enter Tryz.func117, Tryz.ntmps117
  go_wp2_with ((go_at_call 120; refine (rotate_any _ _ _ (by assumption) (by assumption)).mono ?_; rintro e w' ⟨rfl, rfl⟩))
  go_ret
  exact ⟨rfl, rfl⟩
theorem turned_e (x : UInt32) (w : World) : Calls Tryz.prog 117 #[.int .u32 (u x), .int .i64 6, .int .i64 11, .int .i64 25] w fun e w' => e = .returned (.int .u32 (u (big 6 11 25 x))) ∧ w = w' :=
  turned_nat 6 11 25 x w (by decide) (by decide) (by decide)
theorem turned_a (x : UInt32) (w : World) : Calls Tryz.prog 117 #[.int .u32 (u x), .int .i64 2, .int .i64 13, .int .i64 22] w fun e w' => e = .returned (.int .u32 (u (big 2 13 22 x))) ∧ w = w' :=
  turned_nat 2 13 22 x w (by decide) (by decide) (by decide)

set_option maxHeartbeats 400000 in
theorem shifted_nat (i j k : Nat) (x : UInt32) (w : World) (hi : 0 < i ∧ i < 32) (hj : 0 < j ∧ j < 32) (hk : 0 < k ∧ k < 32) :
    Calls Tryz.prog 119 #[.int .u32 (u x), .int .i64 i, .int .i64 j, .int .i64 k] w fun e w' => e = .returned (.int .u32 (u (small i j k x))) ∧ ∃ n, w' = w.drewN n := by
  have n : ∀ i : Nat, i < 32 → IntKind.i64.wrap (-(i : Int)) = -i := fun i h => by rw [IntKind.wrap_i64]; omega
  have ni := n i hi.2
  have nj := n j hj.2
  have hs := u_shr k x
  obtain ⟨hi0, hi1⟩ := hi
  obtain ⟨hj0, hj1⟩ := hj
  obtain ⟨hk0, hk1⟩ := hk
  clear n
  go_enter Tryz.func119, Tryz.ntmps119
  go_wp2
  go_quiet ((go_at_call 120; exact quiet_left (rotate_any _ _ _ (by assumption) (by assumption))))
  go_wp2
  go_ret
  exact ⟨rfl, _, rfl⟩
theorem shifted_1 (x : UInt32) (w : World) : Calls Tryz.prog 119 #[.int .u32 (u x), .int .i64 17, .int .i64 19, .int .i64 10] w fun e w' => e = .returned (.int .u32 (u (small 17 19 10 x))) ∧ ∃ n, w' = w.drewN n :=
  shifted_nat 17 19 10 x w (by decide) (by decide) (by decide)
theorem shifted_0 (x : UInt32) (w : World) : Calls Tryz.prog 119 #[.int .u32 (u x), .int .i64 7, .int .i64 18, .int .i64 3] w fun e w' => e = .returned (.int .u32 (u (small 7 18 3 x))) ∧ ∃ n, w' = w.drewN n :=
  shifted_nat 7 18 3 x w (by decide) (by decide) (by decide)

set_option maxHeartbeats 400000 in
theorem turn_nat (i : Nat) (x : UInt32) (w : World) (h0 : 0 < i) (h1 : i < 32) :
    Calls Tryz.prog 88 #[.int .u32 (u x), .int .u32 i] w fun e w' => e = .returned (.int .u32 (u (rotr i x))) ∧ w = w' := by
  have e2 : IntKind.u32.wrap (32 - (i : Int)) = 32 - i := by rw [IntKind.wrap_u32]; omega
  have e1 : (32 - (i : Int)).toNat = 32 - i := by omega
  have hs := u_shr i x
  have hl := u_shl (32 - i) x
  go_enter Tryz.func88, Tryz.ntmps88
  go_wp2
  go_ret
  exact ⟨rfl, rfl⟩

/-- A byte as the model's number. -/
def ub (b : UInt8) : Int := (b.toNat : Int)
theorem ub_nonneg (b : UInt8) : 0 ≤ ub b := Int.natCast_nonneg _
theorem ub_lt (b : UInt8) : ub b < 256 := by unfold ub; have := b.toNat_lt; omega
theorem wordOf_sum (a b c d : UInt8) : ub a * 16777216 + ub b * 65536 + ub c * 256 + ub d = u (wordOf a b c d) := by
  unfold wordOf ub
  have := a.toNat_lt
  have := b.toNat_lt
  have := c.toNat_lt
  have := d.toNat_lt
  rw [u_of _ (by omega)]
  omega

theorem Rd.row {w : World} {a : Option Addr} {n c : Nat} {l : List UInt8} (h : Rd w (.slice a n c) l) (hn : 0 < n) :
    ∃ b off, a = some ⟨b, off, none⟩ ∧ b < w.heap.size ∧ ∀ i, i < n → w.cell? ⟨b, off + i, none⟩ = some (.int .u8 (ub (l.getD i 0))) := h.at 0 hn
set_option maxHeartbeats 1000000 in
theorem word_any (v : Value) (l : List UInt8) (at' : Nat) (w : World) (h : Rd w v l) (hl : at' + 4 ≤ l.length) :
    Calls Tryz.prog 87 #[v, .int .i64 at'] w fun e w' => e = .returned (.int .u32 (u (wordOf (l.getD at' 0) (l.getD (at' + 1) 0) (l.getD (at' + 2) 0) (l.getD (at' + 3) 0)))) ∧ ∃ n, w' = w.drewN n := by
  obtain ⟨a, c, rfl, h1, h2⟩ := h.shape
  unfold maxLen at h2
  obtain ⟨b, off, rfl, hb, hc⟩ := h.row (by omega)
  have c0 := hc at' (by omega)
  have c1 := hc (at' + 1) (by omega)
  have c2 := hc (at' + 2) (by omega)
  have c3 := hc (at' + 3) (by omega)
  have hs := wordOf_sum (l.getD at' 0) (l.getD (at' + 1) 0) (l.getD (at' + 2) 0) (l.getD (at' + 3) 0)
  generalize l.getD at' 0 = x0 at *
  generalize l.getD (at' + 1) 0 = x1 at *
  generalize l.getD (at' + 2) 0 = x2 at *
  generalize l.getD (at' + 3) 0 = x3 at *
  have b0 := ub_nonneg x0
  have b1 := ub_nonneg x1
  have b2 := ub_nonneg x2
  have b3 := ub_nonneg x3
  have d0 := ub_lt x0
  have d1 := ub_lt x1
  have d2 := ub_lt x2
  have d3 := ub_lt x3
  clear hc
  have i0 : (at' : Int) < (l.length : Int) := by omega
  have i1 : (at' : Int) + 1 < (l.length : Int) := by omega
  have i2 : (at' : Int) + 2 < (l.length : Int) := by omega
  have i3 : (at' : Int) + 3 < (l.length : Int) := by omega
  have n1 : (0 : Int) ≤ (at' : Int) + 1 := by omega
  have n2 : (0 : Int) ≤ (at' : Int) + 2 := by omega
  have n3 : (0 : Int) ≤ (at' : Int) + 3 := by omega
  have k1 : IntKind.i64.wrap ((at' : Int) + 1) = (at' : Int) + 1 := IntWalk.i64_in _ (by omega)
  have k2 : IntKind.i64.wrap ((at' : Int) + 2) = (at' : Int) + 2 := IntWalk.i64_in _ (by omega)
  have k3 : IntKind.i64.wrap ((at' : Int) + 3) = (at' : Int) + 3 := IntWalk.i64_in _ (by omega)
  have t1 : ((at' : Int) + 1).toNat = at' + 1 := by omega
  have t2 : ((at' : Int) + 2).toNat = at' + 2 := by omega
  have t3 : ((at' : Int) + 3).toNat = at' + 3 := by omega
  have W : ∀ x : Int, 0 ≤ x → x < 4294967296 → IntKind.u32.wrap x = x := fun x h0 h1 => by rw [IntKind.wrap_u32]; omega
  have v0 := W (ub x0) (by omega) (by omega)
  have v1 := W (ub x1) (by omega) (by omega)
  have v2 := W (ub x2) (by omega) (by omega)
  have v3 := W (ub x3) (by omega) (by omega)
  have m0 := W (ub x0 * 16777216) (by omega) (by omega)
  have m1 := W (ub x1 * 65536) (by omega) (by omega)
  have m2 := W (ub x2 * 256) (by omega) (by omega)
  have s1 := W (ub x0 * 16777216 + ub x1 * 65536) (by omega) (by omega)
  have s2 := W (ub x0 * 16777216 + ub x1 * 65536 + ub x2 * 256) (by omega) (by omega)
  have s3 := W (ub x0 * 16777216 + ub x1 * 65536 + ub x2 * 256 + ub x3) (by omega) (by omega)
  have H := Lib.hid hs
  clear W hs b0 b1 b2 b3 d0 d1 d2 d3
  go_enter Tryz.func87, Tryz.ntmps87
  go_wp2
  go_quiet (fail)
  go_wp2
  go_ret
  exact ⟨by rw [← H.out]; rfl, _, rfl⟩
theorem turn_int (n : Int) (x : UInt32) (w : World) (h0 : 0 < n) (h1 : n < 32) :
    Calls Tryz.prog 88 #[.int .u32 (u x), .int .u32 n] w fun e w' => e = .returned (.int .u32 (u (rotr n.toNat x))) ∧ w = w' := by
  obtain ⟨i, rfl⟩ := Int.eq_ofNat_of_zero_le (Int.le_of_lt h0)
  rw [Int.toNat_natCast]
  exact turn_nat i x w (by omega) (by omega)
theorem word_int (x : Int) (v : Value) (l : List UInt8) (at' : Nat) (w : World) (h : Rd w v l) (hl : at' + 4 ≤ l.length) (hx : x = at') :
    Calls Tryz.prog 87 #[v, .int .i64 x] w fun e w' => e = .returned (.int .u32 (u (wordOf (l.getD at' 0) (l.getD (at' + 1) 0) (l.getD (at' + 2) 0) (l.getD (at' + 3) 0)))) ∧ ∃ n, w' = w.drewN n := by
  subst hx
  exact word_any v l at' w h hl
end Go.Proofs.YtobldbodafaajaaGreatDoor

/- sha.Pad; the document's own. -/
set_option linter.unusedVariables false
set_option linter.unusedSimpArgs false
namespace Go.Proofs.YtobldbodafaajaaGreatDoor
open Go.RowKit

set_option maxHeartbeats 1000000 in
theorem pad_any (n : Int) (w : World) :
    Calls Tryz.prog 108 #[.int .i64 n] w fun e w' => (∃ v, e = .returned v ∧ Rd w' v (padOf n)) ∧ Kp w w' := by
  by_cases h0 : 0 ≤ n ∧ n ≤ 1125899906842624
  · have hp : padOf n = pad n.toNat := if_pos h0
    rw [hp]
    clear hp
    obtain ⟨h0, h1⟩ := h0
    obtain ⟨n, rfl⟩ := Int.eq_ofNat_of_zero_le h0
    rw [Int.toNat_natCast]
    obtain ⟨f, hf⟩ : ∃ f, fill n = f := ⟨_, rfl⟩
    have hfl := fill_lt n
    have hl := pad_length n
    have hst := pad_start n
    have hget := pad_get n
    have hfi : (119 - (n : Int) % 64).tmod 64 = (f : Int) := by
      rw [Int.tmod_eq_emod_of_nonneg (by omega), ← hf]
      unfold fill
      omega
    rw [hf] at hfl hl hst hget
    have hfi2 : (119 - (n : Int) % 64) % 64 = (f : Int) := by rw [← hfi, Int.tmod_eq_emod_of_nonneg (by omega)]
    have HG := Lib.hid hget
    have HL := Lib.hid hl
    have HS := Lib.hid hst
    have HB := Lib.hid h1
    have hw : IntKind.i64.wrap (8 * (n : Int)) = 8 * (n : Int) := by rw [IntKind.wrap_i64]; omega
    clear hf hget hl hst
    go_enter Tryz.func108, Tryz.ntmps108
    have hz : ((9 + f : Nat) : Int) = 1 + (f : Int) + 8 := by omega
    have HZ := Lib.hid hz
    clear hz
    go_wp2_with (at_make; refine wpList_make_fresh (z := .int .u8 0) (b := 1) Tryz.underlying25 Tryz.info5 rfl (by decide) rfl _ _ rfl (9 + f) (by rw [HZ.out]; rfl) (by rw [HZ.out]; rfl) (by omega) ?_; intro w1 hw1; have HW1 := Lib.hid hw1; clear hw1; have hB0 : By 5 w1 w.heap.size (List.replicate (9 + f) 0) := (by rw [HW1.out]; exact By.fresh _ _ _); have hk0 : Kp w w1 := (by rw [HW1.out]; exact (Kp.refl w).alloc _); have c0 := hB0.cell 0 (by simp; omega); have f0 := hB0.frozen 0)
    have hB1 : By 5 (w1.setCell ⟨w.heap.size, 0, none⟩ (.int .u8 128)) w.heap.size (mixB (List.replicate (9 + f) 0) (pad n) (1 + f)) := hB0.set 0 128 HS.out
    have hk1 : Kp w (w1.setCell ⟨w.heap.size, 0, none⟩ (.int .u8 128)) := Below.setCell hk0 (by simp) _
    clear hB0 hk0 c0 f0 HW1 hfi hfi2
    go_loopw [22] (fun i wr => ∃ k : Nat, k ≤ 8 ∧ i = .int .i64 k ∧ By 5 wr w.heap.size (mixB (List.replicate (9 + f) 0) (pad n) (1 + f + k)) ∧ Kp w wr) (fun i _ => 8 - (intOf i).toNat)
    case atStart => exact ⟨0, by omega, rfl, hB1, hk1⟩
    case round =>
      clear hB1 hk1
      obtain ⟨k, hk, rfl, hB, hkp⟩ := hrel
      by_cases hlt : k < 8
      · have hset := mixB_set (List.replicate (9 + f) 0) (pad n) (1 + f + k) (by rw [HL.out]; simp) (by simp; omega) _ (HG.out k hlt)
        have hlen : (mixB (List.replicate (9 + f) 0) (pad n) (1 + f + k)).length = 9 + f := by rw [mixB_length _ _ _ (by rw [HL.out]; simp) (by simp; omega)]; simp
        have c0 := hB.cell (1 + f + k) (by rw [hlen]; omega)
        have f0 := hB.frozen (1 + f + k)
        have e1 : (8 * (7 - (k : Int))).toNat = 8 * (7 - k) := by omega
        have e2 : (8 * (n : Int)) / 2 ^ (8 * (7 - k)) = ((8 * n / 256 ^ (7 - k) : Nat) : Int) := by
          have : (256 : Nat) ^ (7 - k) = 2 ^ (8 * (7 - k)) := by rw [Nat.pow_mul]
          rw [this]
          simp
        obtain ⟨X, hX⟩ : ∃ X, 8 * n / 256 ^ (7 - k) = X := ⟨_, rfl⟩
        rw [hX] at e2 hset
        have hv : ((UInt8.ofNat X).toNat : Int) = (X : Int) % 256 := by simp
        have hi1 : (1 + (f : Int) + (k : Int)) < 9 + (f : Int) := by omega
        have hi2 : (1 + (f : Int) + (k : Int)).toNat = 1 + f + k := by omega
        have H7 : (0 : Int) ≤ 7 - (k : Int) := by omega
        have HS2 := Lib.hid (And.intro hset hv)
        clear hset hX hlen hv
        go_wp2_with fail
        go_roundw
        case rel =>
          refine ⟨k + 1, by omega, by go_num, ?_, Below.setCell hkp (by simp) _⟩
          have h := hB.set (1 + f + k) (UInt8.ofNat X) HS2.out.1
          rw [HS2.out.2] at h
          exact h
        case measure => simp [intOf]; omega
      · obtain rfl : k = 8 := by omega
        have hm : mixB (List.replicate (9 + f) 0) (pad n) (1 + f + 8) = pad n := by
          rw [show 1 + f + 8 = (pad n).length by rw [HL.out]; omega]
          exact mixB_all _ _ (by rw [HL.out]; simp)
        rw [hm] at hB
        clear hm
        go_wp2_with fail
        go_ret
        exact ⟨⟨_, rfl, hB.rdAll (by rw [HL.out]) (Nat.le_refl _) (by unfold maxLen; omega)⟩, hkp⟩
  · have hp : padOf n = [] := if_neg h0
    rw [hp]
    by_cases h : n < 0
    · go_enter Tryz.func108, Tryz.ntmps108
      go_wp2
      go_ret
      exact ⟨⟨_, rfl, none, 0, rfl, Nat.le_refl _, Nat.zero_le _, fun _ => rfl, fun x hx => by cases hx⟩, Kp.refl _⟩
    · have h2 : 1125899906842624 < n := by omega
      clear h0
      go_enter Tryz.func108, Tryz.ntmps108
      go_wp2
      go_ret
      exact ⟨⟨_, rfl, none, 0, rfl, Nat.le_refl _, Nat.zero_le _, fun _ => rfl, fun x hx => by cases hx⟩, Kp.refl _⟩
end Go.Proofs.YtobldbodafaajaaGreatDoor

/- pyxref02.Pad. -/
set_option linter.unusedVariables false
set_option linter.unusedSimpArgs false
namespace Go.Proofs.YtobldbodafaajaaGreatDoor
open Go.RowKit

set_option maxHeartbeats 1000000 in
theorem refPad_any (n : Int) (w : World) :
    Calls Tryz.prog 54 #[.int .i64 n] w fun e w' => (∃ v, e = .returned v ∧ Rd w' v (padOf n)) ∧ Kp w w' := by
  have U := u8
  by_cases h0 : 0 ≤ n ∧ n ≤ 1125899906842624
  · have hp : padOf n = pad n.toNat := if_pos h0
    rw [hp]
    clear hp
    obtain ⟨h0, h1⟩ := h0
    obtain ⟨n, rfl⟩ := Int.eq_ofNat_of_zero_le h0
    rw [Int.toNat_natCast]
    obtain ⟨f, hf⟩ : ∃ f, fill n = f := ⟨_, rfl⟩
    have hfl := fill_lt n
    have hfz : ∀ k : Nat, k ≤ f → (((n : Int) + ((k : Int) + 1) + 8) % 64 = 0 ↔ k = f) := fun k hk => by
      have : f = (119 - n % 64) % 64 := hf.symm
      omega
    have hp : pad n = 128 :: List.replicate f 0 ++ be 8 (8 * n) := by unfold pad; rw [hf]
    rw [hf] at hfl
    have HFZ := Lib.hid hfz
    have HP := Lib.hid hp
    have HB := Lib.hid h1
    have hw : IntKind.i64.wrap (8 * (n : Int)) = 8 * (n : Int) := by rw [IntKind.wrap_i64]; omega
    clear hf hfz hp
    go_enter Tryz.func54, Tryz.ntmps54
    go_wp2_with fail
    go_loopw [3] (fun v wr => ∃ k : Nat, k ≤ f ∧ Ow 5 wr w.heap.size v (128 :: List.replicate k 0) ∧ Kp w wr) (fun v wr => f - (match v with | .slice _ n _ => n - 1 | _ => 0))
    case atStart => exact ⟨0, by omega, Ow.lit w 5 w.heap.size 1 _ [128] (Nat.le_refl _) rfl (by decide) rfl, (Kp.refl w).alloc _⟩
    case round =>
      obtain ⟨k, hk, hown, hkp⟩ := hrel
      obtain ⟨a, c, rfl, hc1, hc2⟩ := hown.rd.shape
      have hl : (128 :: List.replicate k 0 : List UInt8).length = k + 1 := by simp
      rw [hl] at hown hc1 ⊢
      unfold maxLen at hc2
      by_cases hlt : k < f
      · have hne : ¬ ((n : Int) + ((k : Int) + 1) + 8) % 64 = 0 := by rw [HFZ.out k hk]; omega
        go_wp2_with (at_builtin; refine wpList_append_ow U rfl _ _ rfl w.heap.size _ _ rfl (hown.kp ((Kp.refl _).alloc _)) _ [0] rfl (Rd.box _ _ _ 0 rfl) ?c1 ?c2 ?_; rotate_right; intro v' w2 ho2 hg _)
        case c1 => simp; omega
        case c2 => have := hkp.size; simp; omega
        have he : (128 :: List.replicate k 0 ++ [0] : List UInt8) = 128 :: List.replicate (k + 1) 0 := by rw [List.replicate_succ', List.cons_append]
        rw [he] at ho2
        go_roundw
        case rel => exact ⟨k + 1, by omega, ho2, Kp.grown (hkp.alloc _) hg hown.own_ge⟩
        case measure =>
          obtain ⟨a', c', rfl, _, _⟩ := ho2.rd.shape
          simp
          omega
      · obtain rfl : k = f := by omega
        have hne : ((n : Int) + ((k : Int) + 1) + 8) % 64 = 0 := (HFZ.out k (Nat.le_refl _)).2 rfl
        clear hlt
        go_wp2_with fail
        go_loopw [3, 5] (fun v i wr => ∃ j : Nat, j ≤ 8 ∧ i = .int .i64 (56 - 8 * (j : Int)) ∧ Ow 5 wr w.heap.size v (128 :: List.replicate k 0 ++ (be 8 (8 * n)).take j) ∧ Kp w wr) (fun _ i _ => (64 + intOf i).toNat)
        case atStart => exact ⟨0, by omega, rfl, by rw [List.take_zero, List.append_nil]; exact hown, hkp⟩
        case round =>
          clear hown hkp hne hc1 hc2
          obtain ⟨j, hj, rfl, hown, hkp⟩ := hrel
          by_cases hlt : j < 8
          · have e2 : (8 * (n : Int)) / 2 ^ (56 - 8 * j) = ((8 * n / 256 ^ (7 - j) : Nat) : Int) := by
              have : (256 : Nat) ^ (7 - j) = 2 ^ (56 - 8 * j) := by rw [show 56 - 8 * j = 8 * (7 - j) by omega, Nat.pow_mul]
              rw [this]
              simp
            have e1 : (56 - 8 * (j : Int)).toNat = 56 - 8 * j := by omega
            have hj0 : 0 ≤ 56 - 8 * (j : Int) := by omega
            have hget := be_get 8 (8 * n) j hlt
            have htk : (be 8 (8 * n)).take (j + 1) = (be 8 (8 * n)).take j ++ [UInt8.ofNat (8 * n / 256 ^ (7 - j))] := by
              have hlt' : j < (be 8 (8 * n)).length := by rw [be_length]; exact hlt
              rw [List.take_succ_eq_append_getElem hlt']
              rw [List.getElem?_eq_getElem hlt'] at hget
              rw [Option.some.inj hget]
            obtain ⟨X, hX⟩ : ∃ X, 8 * n / 256 ^ (7 - j) = X := ⟨_, rfl⟩
            rw [hX] at e2 htk
            obtain ⟨bx, hbx⟩ : ∃ b : UInt8, UInt8.ofNat X = b := ⟨_, rfl⟩
            have hv : (X : Int) % 256 = (bx.toNat : Int) := by rw [← hbx]; simp
            rw [hbx] at htk
            have hlen : (128 :: List.replicate k 0 ++ (be 8 (8 * n)).take j : List UInt8).length ≤ 100 := by simp [be_length]; omega
            have HT := Lib.hid htk
            obtain ⟨L, hL⟩ : ∃ L, (128 :: List.replicate k 0 ++ (be 8 (8 * n)).take j : List UInt8) = L := ⟨_, rfl⟩
            rw [hL] at hown hlen
            have HL := Lib.hid hL
            have hu8 : IntKind.u8.wrap (X : Int) = (bx.toNat : Int) := by rw [IntKind.wrap_u8, hv]
            have HB2 := Lib.hid hbx
            clear htk hget hX hL hbx
            go_wp2_with (at_builtin; refine wpList_append_ow U rfl _ _ rfl w.heap.size _ _ rfl (hown.kp ((Kp.refl _).alloc _)) _ [bx] rfl (Rd.box _ _ _ bx rfl) ?c1 ?c2 ?_; rotate_right; intro v' w2 ho2 hg _)
            case c1 => simp; omega
            case c2 => have := hkp.size; simp; omega
            go_roundw
            case rel => exact ⟨j + 1, by omega, by congr 1; omega, by rw [HT.out, ← List.append_assoc, HL.out]; exact ho2, Kp.grown (hkp.alloc _) hg hown.own_ge⟩
            case measure => simp [intOf]; omega
          · obtain rfl : j = 8 := by omega
            rw [List.take_of_length_le (by rw [be_length]; exact Nat.le_refl _)] at hown
            rw [← HP.out] at hown
            go_wp2_with fail
            go_ret
            exact ⟨⟨_, rfl, hown.rd⟩, hkp⟩
  · have hp : padOf n = [] := if_neg h0
    rw [hp]
    by_cases h : n < 0
    · go_enter Tryz.func54, Tryz.ntmps54
      go_wp2
      go_ret
      exact ⟨⟨_, rfl, none, 0, rfl, Nat.le_refl _, Nat.zero_le _, fun _ => rfl, fun x hx => by cases hx⟩, Kp.refl _⟩
    · have h2 : 1125899906842624 < n := by omega
      clear h0
      go_enter Tryz.func54, Tryz.ntmps54
      go_wp2
      go_ret
      exact ⟨⟨_, rfl, none, 0, rfl, Nat.le_refl _, Nat.zero_le _, fun _ => rfl, fun x hx => by cases hx⟩, Kp.refl _⟩
end Go.Proofs.YtobldbodafaajaaGreatDoor

/- The rounds' keys as the code reckons them: cube roots of primes. Plain. -/
set_option linter.unusedVariables false
set_option linter.unusedSimpArgs false
namespace Go.Proofs.YtobldbodafaajaaGreatDoor
open Go.RowKit

def nextRoot (n x : Nat) : Nat := (2 * x + n / (x * x)) / 3
def croot : Nat → Nat → Nat → Nat
  | 0, _, x => x
  | f + 1, n, x => if x ≤ nextRoot n x then x else croot f n (nextRoot n x)
def croots (n : Nat) : Nat := croot 2097152 n 2097152
theorem croot_stop (f n x : Nat) (h : x ≤ nextRoot n x) : croot f n x = x := by
  cases f with
  | zero => rfl
  | succ f => simp [croot, h]
theorem croot_go (f n x : Nat) (hf : x ≤ f) (h : ¬ x ≤ nextRoot n x) : ∃ g, nextRoot n x ≤ g ∧ croot g n (nextRoot n x) = croot f n x := by
  cases f with
  | zero => omega
  | succ f => exact ⟨f, by omega, by simp [croot, h]⟩
theorem nextRoot_pos (n x : Nat) (h0 : 1 ≤ n) (hx : 1 ≤ x) : 1 ≤ nextRoot n x := by
  unfold nextRoot
  by_cases h : x = 1
  · subst h
    simp
    omega
  · generalize n / (x * x) = d
    omega
theorem croot_range : ∀ (f n x : Nat), 1 ≤ n → 1 ≤ x → 1 ≤ croot f n x ∧ croot f n x ≤ x
  | 0, n, x, _, h => ⟨h, Nat.le_refl _⟩
  | f + 1, n, x, h0, h => by
    unfold croot
    split
    · exact ⟨h, Nat.le_refl _⟩
    · have := croot_range f n (nextRoot n x) h0 (nextRoot_pos n x h0 h)
      omega
/-- The first 32 bits behind the point of p's cube root. -/
def rootN (p : Nat) : Nat := p * 18014398509481984
def restN (p : Nat) : Nat := rootN p - croots (rootN p) * croots (rootN p) * croots (rootN p)
def bitsN (p : Nat) : Nat := croots (rootN p) * 16384 + restN p * 16384 / (3 * croots (rootN p) * croots (rootN p))
def rootW (p : Nat) : UInt32 := UInt32.ofNat (bitsN p)
/-- What makes the sums stay in their bounds: of every number up to 311. -/
def fits (p : Nat) : Bool := decide (croots (rootN p) * croots (rootN p) * croots (rootN p) ≤ rootN p) && decide (restN p < 281474976710656)
theorem fits_all : ∀ p : Fin 312, p.val = 0 ∨ fits p.val = true := by decide +kernel

/-- The sieve: what is marked, and the keys so far. -/
def mark : Nat → Nat → Nat → List Bool → List Bool
  | 0, _, _, D => D
  | f + 1, p, n, D => if n < 312 then mark f p (n + p) (D.set n true) else D
theorem mark_end (f p n : Nat) (D : List Bool) (h : ¬ n < 312) : mark f p n D = D := by
  cases f with
  | zero => rfl
  | succ f => simp [mark, h]
theorem mark_go (f p n : Nat) (D : List Bool) (h : n < 312) (hp : 1 ≤ p) (hf : 312 ≤ f + n) : ∃ g, 312 ≤ g + (n + p) ∧ mark g p (n + p) (D.set n true) = mark f p n D := by
  cases f with
  | zero => omega
  | succ f => exact ⟨f, by omega, by simp [mark, h]⟩
theorem mark_length : ∀ (f p n : Nat) (D : List Bool), (mark f p n D).length = D.length
  | 0, _, _, _ => rfl
  | f + 1, p, n, D => by
    unfold mark
    split
    · rw [mark_length f]; simp
    · rfl
/-- The sieve: what is marked, and the primes so far. -/
structure Sieve where
  D : List Bool
  ps : List Nat
def sieveStep (p : Nat) (s : Sieve) : Sieve := if s.D.getD p false then s else ⟨mark 312 p (p * p) s.D, s.ps ++ [p]⟩
/-- Before p's turn. -/
def sieve : Nat → Sieve
  | 0 => ⟨List.replicate 312 false, []⟩
  | p + 1 => if p < 2 then sieve p else sieveStep p (sieve p)
theorem sieve_length : ∀ p, (sieve p).D.length = 312
  | 0 => List.length_replicate
  | p + 1 => by
    unfold sieve
    split
    · exact sieve_length p
    · unfold sieveStep
      split
      · exact sieve_length p
      · rw [mark_length]; exact sieve_length p
def primeAt (i : Nat) : Nat := (sieve 312).ps.getD i 0
theorem primes_64 : (sieve 312).ps.length = 64 := by decide +kernel
theorem keys_eq : (List.range 64).map (fun i => rootW (primeAt i)) = keyL := by decide +kernel
theorem primeAt_small : ∀ i : Fin 64, 1 ≤ primeAt i.val ∧ primeAt i.val < 312 := by decide +kernel
theorem sieve_next : ∀ p : Fin 312, (sieve p.val).D.getD p.val false = true ∨ p.val < 2 ∨ (primeAt (sieve p.val).ps.length = p.val ∧ (sieve p.val).ps.length < 64) := by decide +kernel
theorem sieve_skip (p : Nat) (h : (sieve p).D.getD p false = true) (h2 : 2 ≤ p) : sieve (p + 1) = sieve p := by
  rw [sieve, if_neg (by omega), sieveStep, if_pos h]
theorem sieve_take (p : Nat) (h : (sieve p).D.getD p false = false) (h2 : 2 ≤ p) : sieve (p + 1) = ⟨mark 312 p (p * p) (sieve p).D, (sieve p).ps ++ [p]⟩ := by
  rw [sieve, if_neg (by omega), sieveStep, if_neg (by rw [h]; decide)]
end Go.Proofs.YtobldbodafaajaaGreatDoor

/- sha.cubeRoot, sha.rootBits. -/
set_option linter.unusedVariables false
set_option linter.unusedSimpArgs false
namespace Go.Proofs.YtobldbodafaajaaGreatDoor
open Go.RowKit

theorem u64_in (x : Int) (h0 : 0 ≤ x) (h1 : x < 18446744073709551616) : IntKind.u64.wrap x = x := by
  simp [IntKind.wrap, IntKind.bits, IntKind.signed]; omega

set_option maxHeartbeats 1000000 in
theorem cubeRoot_any (n : Nat) (w : World) (h0 : 1 ≤ n) (h1 : (n : Int) < 9223372036854775808) :
    Calls Tryz.prog 118 #[.int .u64 n] w fun e w' => e = .returned (.int .u64 (croots n)) ∧ w = w' := by
  obtain ⟨R, hR⟩ : ∃ R, croots n = R := ⟨_, rfl⟩
  rw [hR]
  unfold croots at hR
  have HR := Lib.hid hR
  clear hR
  go_enter Tryz.func118, Tryz.ntmps118
  go_wp2_with fail
  go_loopw [3] (fun x wr => (∃ k : Nat, x = .int .u64 k ∧ 1 ≤ k ∧ (k : Int) ≤ 2097152 ∧ ∃ f, k ≤ f ∧ croot f n k = R) ∧ wr = w) (fun x _ => (intOf x).toNat)
  case atStart => exact ⟨⟨2097152, rfl, by decide, by decide, 2097152, Nat.le_refl _, HR.out⟩, rfl⟩
  case round =>
    obtain ⟨⟨k, rfl, hk1, hk2, f, hf, hc⟩, rfl⟩ := hrel
    have HC := Lib.hid hc
    have hkk : (1 : Int) ≤ (k : Int) * (k : Int) := by
      have := Nat.mul_le_mul hk1 hk1
      have h2 : ((1 * 1 : Nat) : Int) ≤ ((k * k : Nat) : Int) := by omega
      rwa [Int.natCast_mul] at h2
    have hkk2 : (k : Int) * (k : Int) ≤ 4398046511104 := by
      have h2 := Int.mul_le_mul hk2 hk2 (by omega) (by omega)
      exact h2
    have hne : ¬ (k : Int) * (k : Int) = 0 := by omega
    have m1 : IntKind.u64.wrap (2 * (k : Int)) = 2 * (k : Int) := u64_in _ (by omega) (by omega)
    have m2 : IntKind.u64.wrap ((k : Int) * (k : Int)) = (k : Int) * (k : Int) := u64_in _ (by omega) (by omega)
    have hd0 : 0 ≤ (n : Int) / ((k : Int) * (k : Int)) := Int.ediv_nonneg (by omega) (by omega)
    have hd1 : (n : Int) / ((k : Int) * (k : Int)) ≤ (n : Int) := Int.ediv_le_self _ (by omega)
    have m3 : IntKind.u64.wrap (2 * (k : Int) + (n : Int) / ((k : Int) * (k : Int))) = 2 * (k : Int) + (n : Int) / ((k : Int) * (k : Int)) := u64_in _ (by omega) (by omega)
    have m0 : IntKind.u64.wrap ((n : Int) / ((k : Int) * (k : Int))) = (n : Int) / ((k : Int) * (k : Int)) := u64_in _ (by omega) (by omega)
    have hq : (2 * (k : Int) + (n : Int) / ((k : Int) * (k : Int))).tdiv 3 = ((nextRoot n k : Nat) : Int) := by
      rw [Int.tdiv_eq_ediv_of_nonneg (by omega)]
      unfold nextRoot
      simp
    have hq1 := nextRoot_pos n k h0 hk1
    have hq2 : ((nextRoot n k : Nat) : Int) < 18446744073709551616 := by
      rw [← hq, Int.tdiv_eq_ediv_of_nonneg (by omega)]
      omega
    have m5 : IntKind.u64.wrap ((nextRoot n k : Nat) : Int) = ((nextRoot n k : Nat) : Int) := u64_in _ (by omega) hq2
    obtain ⟨q, hqq⟩ : ∃ q, nextRoot n k = q := ⟨_, rfl⟩
    rw [hqq] at hq hq1 m5
    have HQ := Lib.hid hqq
    have B := Lib.hid (And.intro hk2 (And.intro hkk2 h1))
    clear hc hk2 hkk2 h1 HR hd1 hq2 hqq
    by_cases hge : k ≤ q
    · go_wp2_with fail
      go_ret
      exact ⟨by rw [← HC.out, croot_stop f n k (by rw [HQ.out]; exact hge)]; rfl, rfl⟩
    · go_wp2_with fail
      go_roundw
      case rel =>
        obtain ⟨g, hg1, hg2⟩ := croot_go f n k hf (by rw [HQ.out]; exact hge)
        have := B.out.1
        rw [HQ.out] at hg1 hg2
        exact ⟨⟨q, rfl, hq1, by omega, g, hg1, hg2.trans HC.out⟩, trivial⟩
      case measure => simp [intOf]; omega

set_option maxHeartbeats 1000000 in
theorem rootBits_any (p : Nat) (w : World) (h0 : 1 ≤ p) (h1 : p < 312) :
    Calls Tryz.prog 114 #[.int .u64 p] w fun e w' => e = .returned (.int .u32 (u (rootW p))) ∧ w = w' := by
  have hfit : fits p = true := (fits_all ⟨p, h1⟩).resolve_left (by simp; omega)
  unfold fits at hfit
  simp only [Bool.and_eq_true, decide_eq_true_eq] at hfit
  obtain ⟨hf1, hf2⟩ := hfit
  have hN : ((rootN p : Nat) : Int) = (p : Int) * 18014398509481984 := by unfold rootN; simp
  have hr := croot_range 2097152 (rootN p) 2097152 (by unfold rootN; omega) (by decide)
  have hw : rootW p = UInt32.ofNat (bitsN p) := rfl
  have hb : bitsN p = croots (rootN p) * 16384 + restN p * 16384 / (3 * croots (rootN p) * croots (rootN p)) := rfl
  have hre : restN p = rootN p - croots (rootN p) * croots (rootN p) * croots (rootN p) := rfl
  change 1 ≤ croots (rootN p) ∧ croots (rootN p) ≤ 2097152 at hr
  have hNb : ((rootN p : Nat) : Int) < 9223372036854775808 := by rw [hN]; omega
  have hN1 : 1 ≤ rootN p := by unfold rootN; omega
  have HC := Lib.hid (cubeRoot_any (rootN p))
  rw [hb] at hw
  generalize croots (rootN p) = x at *
  generalize rootN p = N at *
  generalize restN p = r at *
  clear hb
  have hx1 : (1 : Int) ≤ (x : Int) := by omega
  have hx2 : (x : Int) ≤ 2097152 := by omega
  have hxx : (1 : Int) ≤ (x : Int) * (x : Int) := by
    have := Nat.mul_le_mul hr.1 hr.1
    have h2 : ((1 * 1 : Nat) : Int) ≤ ((x * x : Nat) : Int) := by omega
    rwa [Int.natCast_mul] at h2
  have hxx2 : (x : Int) * (x : Int) ≤ 4398046511104 := by
    have h2 := Int.mul_le_mul hx2 hx2 (by omega) (by omega)
    exact h2
  have hx3 : (x : Int) * (x : Int) * (x : Int) ≤ (N : Int) := by
    have h2 : ((x * x * x : Nat) : Int) ≤ ((N : Nat) : Int) := by omega
    rwa [Int.natCast_mul, Int.natCast_mul] at h2
  have hx30 : 0 ≤ (x : Int) * (x : Int) * (x : Int) := Int.mul_nonneg (by omega) (by omega)
  have h3xx : 3 * (x : Int) * (x : Int) = 3 * ((x : Int) * (x : Int)) := by rw [Int.mul_assoc]
  have A : IntKind.u64.wrap ((p : Int) * 18014398509481984) = (N : Int) := by rw [← hN]; exact u64_in _ (by omega) (by omega)
  have X2 : IntKind.u64.wrap ((x : Int) * (x : Int)) = (x : Int) * (x : Int) := u64_in _ (by omega) (by omega)
  have X3 : IntKind.u64.wrap ((x : Int) * (x : Int) * (x : Int)) = (x : Int) * (x : Int) * (x : Int) := u64_in _ hx30 (by omega)
  have hrr : (r : Int) = (N : Int) - (x : Int) * (x : Int) * (x : Int) := by
    have : ((x * x * x : Nat) : Int) = (x : Int) * (x : Int) * (x : Int) := by rw [Int.natCast_mul, Int.natCast_mul]
    omega
  have R : IntKind.u64.wrap ((N : Int) - (x : Int) * (x : Int) * (x : Int)) = (r : Int) := by rw [← hrr]; exact u64_in _ (by omega) (by omega)
  have S1 : IntKind.u64.wrap ((x : Int) * 16384) = (x : Int) * 16384 := u64_in _ (by omega) (by omega)
  have S2 : IntKind.u64.wrap ((r : Int) * 16384) = (r : Int) * 16384 := u64_in _ (by omega) (by omega)
  have T1 : IntKind.u64.wrap (3 * (x : Int)) = 3 * (x : Int) := u64_in _ (by omega) (by omega)
  have T2 : IntKind.u64.wrap (3 * (x : Int) * (x : Int)) = 3 * (x : Int) * (x : Int) := u64_in _ (by omega) (by omega)
  have hne : ¬ (3 * (x : Int) * (x : Int) = 0) := by omega
  have hd0 : 0 ≤ (r : Int) * 16384 / (3 * (x : Int) * (x : Int)) := Int.ediv_nonneg (by omega) (by omega)
  have hd1 : (r : Int) * 16384 / (3 * (x : Int) * (x : Int)) ≤ (r : Int) * 16384 := Int.ediv_le_self _ (by omega)
  have hT : ((r : Int) * 16384).tdiv (3 * (x : Int) * (x : Int)) = (r : Int) * 16384 / (3 * (x : Int) * (x : Int)) := Int.tdiv_eq_ediv_of_nonneg (by omega)
  obtain ⟨d, hd⟩ : ∃ d : Nat, r * 16384 / (3 * x * x) = d := ⟨_, rfl⟩
  have hdi : (r : Int) * 16384 / (3 * (x : Int) * (x : Int)) = (d : Int) := by rw [← hd]; simp
  rw [hdi] at hd0 hd1 hT
  rw [hd] at hw
  have D1 : IntKind.u64.wrap (d : Int) = (d : Int) := u64_in _ (by omega) (by omega)
  have D2 : IntKind.u64.wrap ((x : Int) * 16384 + (d : Int)) = (x : Int) * 16384 + (d : Int) := u64_in _ (by omega) (by omega)
  have U : IntKind.u32.wrap ((x : Int) * 16384 + (d : Int)) = u (rootW p) := by
    rw [hw, u_ofNat, IntKind.wrap_u32]
    simp
  have H1 := Lib.hid hNb
  have H2 := Lib.hid hN1
  have hxx0 : 0 ≤ (x : Int) * (x : Int) := by omega
  have hp0 : 0 ≤ (p : Int) := by omega
  clear hNb hN1 hx2 hxx2 hx3 hf1 hf2 hN hw hre hr hrr h3xx hd hd1
  go_enter Tryz.func114, Tryz.ntmps114
  go_wp2_with fail
  refine (HC.out _ H2.out H1.out).mono ?_
  rintro e w' ⟨rfl, rfl⟩
  go_wp2_with fail
  go_ret
  exact ⟨rfl, rfl⟩
end Go.Proofs.YtobldbodafaajaaGreatDoor

/- sha.primes: the primes below 312, one by one. -/
set_option linter.unusedVariables false
set_option linter.unusedSimpArgs false
namespace Go.Proofs.YtobldbodafaajaaGreatDoor
open Go.RowKit Go.Shelf

attribute [local go_sem] Oper.semAt_some

/-- Block g holds just these bools. -/
def Br (T : TypeId) (w : World) (g : Nat) (l : List Bool) : Prop := w.heap[g]? = some (.cells (l.map Value.bool).toArray T (0, 0))
theorem Br.lt {T : TypeId} {w : World} {g : Nat} {l : List Bool} (h : Br T w g l) : g < w.heap.size := (Array.getElem?_eq_some_iff.1 h).1
theorem Br.cell {T : TypeId} {w : World} {g : Nat} {l : List Bool} (h : Br T w g l) (i : Nat) (hi : i < l.length) : w.cell? ⟨g, i, none⟩ = some (.bool (l.getD i false)) := by
  rw [cell_of_row w g i _ T _ h]
  simp [hi]
theorem Br.frozen {T : TypeId} {w : World} {g : Nat} {l : List Bool} (h : Br T w g l) (i : Nat) : w.frozen? ⟨g, i, none⟩ = false := by
  have h' := h
  unfold Br at h'
  simp [World.frozen?, h']
theorem Br.set {T : TypeId} {w : World} {g : Nat} {l : List Bool} (h : Br T w g l) (i : Nat) (x : Bool) : Br T (w.setCell ⟨g, i, none⟩ (.bool x)) g (l.set i x) := by
  have h' := h
  unfold Br at h' ⊢
  obtain ⟨hlt, heq⟩ := Array.getElem?_eq_some_iff.1 h'
  simp [World.setCell, hlt, Array.getElem_modify, heq, List.map_set]
theorem Br.new (T : TypeId) (w : World) (cs : Array Value) (l : List Bool) (h : cs = (l.map Value.bool).toArray) : Br T (w.alloc (.cells cs T)) w.heap.size l := by
  subst h
  exact heap_alloc_new w _

theorem zero_bools (w : World) : (zeroValue 130).run Tryz.prog w = .ok (.agg (List.replicate 312 (Value.bool false)).toArray) w := by kernel_rfl
attribute [local go_sem] zero_bools

set_option maxRecDepth 100000 in
set_option maxHeartbeats 4000000 in
theorem primes_it (m : Nat) (hm : 1 ≤ m) (X : Nat → Prop) (w : World) (hX : ∀ k, X k → k < w.heap.size) :
    Iterates Fence.wide m Tryz.prog 113 #[] (fun i => #[.int .u64 (primeAt i)]) 64 X w := by
  intro l J W hb hl1 hl2 hJ hY h0
  have HJ := Lib.hid hJ
  have HY := Lib.hid hY
  have HX := Lib.hid hX
  clear hJ hY hX
  refine callsIn_of_wp Tryz.func113 rfl trivial ?_ rfl
  simp only [Tryz.ntmps113, List.append_toArray, List.append_nil, List.size_toArray, List.length_cons, List.length_nil, Nat.reduceAdd, Nat.reduceSub, Array.replicate_succ, Array.replicate_zero, List.push_toArray, List.nil_append, List.cons_append]
  gi_wp2
  have hD0 : Br 130 (W.alloc (.cells (List.replicate 312 (Value.bool false)).toArray 130)) W.heap.size (sieve 2).D := Br.new _ _ _ _ rfl
  gi_loopw [3] (fun p wr => ∃ q : Nat, 2 ≤ q ∧ q ≤ 312 ∧ p = .int .u64 q ∧ Br 130 wr W.heap.size (sieve q).D ∧ J (sieve q).ps.length wr) (fun p _ => 312 - (intOf p).toNat)
  case atStart => exact ⟨2, by omega, by omega, rfl, hD0, HJ.out _ _ _ h0 ((Below.refl _ W).alloc (Nat.le_refl _) _)⟩
  case round =>
    clear hD0
    obtain ⟨q, hq1, hq2, rfl, hD, hj⟩ := hrel
    by_cases hlt : q < 312
    · have hlen := sieve_length q
      have hc := hD.cell q (by omega)
      have hqi : (q : Int) < 312 := by omega
      rcases hdv : (sieve q).D.getD q false with _ | _
      · have hnext := (sieve_next ⟨q, hlt⟩).resolve_left (by rw [hdv]; decide)
        have hn2 := hnext.resolve_left (by simp; omega)
        obtain ⟨hp, h64⟩ := hn2
        simp only at hp h64
        obtain ⟨fn, tmps, assign, body, hy, hR⟩ := HY.out (sieve q).ps.length wr h64 hj
        rw [hp] at hy
        have HT := Lib.hid (sieve_take q hdv hq1)
        have HP := Lib.hid hp
        rw [hdv] at hc
        have HD := Lib.hid hdv
        have HL := Lib.hid hlen
        clear hdv hp hnext h64 hlen
        gi_wp2
        refine hR.mono ?_
        rintro e W3 ⟨rfl, hj3, hs3⟩
        have hD3 : Br 130 W3 W.heap.size (sieve q).D :=
          (hs3.block _ hD.lt (fun h => h.elim (fun e => by omega) (fun hx => by have := HX.out _ hx; have := hb.size; omega))).trans hD
        clear hR hs3 hD hj hc
        have hqq0 : 0 ≤ (q : Int) * (q : Int) := Int.mul_nonneg (by omega) (by omega)
        have hqq : (q : Int) * (q : Int) ≤ 97344 := by
          have h2 := Int.mul_le_mul (show (q : Int) ≤ 312 by omega) (show (q : Int) ≤ 312 by omega) (by omega) (by omega)
          exact h2
        have hmul : IntKind.u64.wrap ((q : Int) * (q : Int)) = ((q * q : Nat) : Int) := by rw [u64_in _ (by omega) (by omega)]; simp
        obtain ⟨M, hM⟩ : ∃ M, mark 312 q (q * q) (sieve q).D = M := ⟨_, rfl⟩
        have hqn : ((q * q : Nat) : Int) ≤ 97344 := by rw [Int.natCast_mul]; exact hqq
        obtain ⟨k0, hk0⟩ : ∃ k, q * q = k := ⟨_, rfl⟩
        have HT2 : Hid (sieve (q + 1) = ⟨M, (sieve q).ps ++ [q]⟩) := Lib.hid (by rw [HT.out, hM])
        rw [hk0] at hmul hM hqn
        have HM := Lib.hid hM
        clear hk0 hM hqq hqq0 HT
        gi_wp2
        gi_loopw [4] (fun x wq => ∃ k : Nat, (k : Int) ≤ 100000 ∧ x = .int .u64 k ∧ (∃ f D', Br 130 wq W.heap.size D' ∧ D'.length = 312 ∧ mark f q k D' = M ∧ 312 ≤ f + k) ∧ J ((sieve q).ps.length + 1) wq) (fun x _ => 312 - (intOf x).toNat)
        case atStart => exact ⟨k0, by omega, rfl, ⟨312, (sieve q).D, hD3, HL.out, HM.out, by omega⟩, hj3⟩
        case round =>
          clear hD3 hj3 HM hmul hqn
          obtain ⟨k, hkb, rfl, ⟨f, D', hB, hl, hm, hf⟩, hj⟩ := hrel
          by_cases hlt2 : k < 312
          · have hc := hB.cell k (by omega)
            have hfz := hB.frozen k
            have hki : (k : Int) < 312 := by omega
            have hadd : IntKind.u64.wrap ((k : Int) + (q : Int)) = (k : Int) + (q : Int) := u64_in _ (by omega) (by omega)
            have HM := Lib.hid hm
            have HL2 := Lib.hid hl
            clear hm hl
            gi_wp2
            go_roundw
            case rel =>
              obtain ⟨g, hg1, hg2⟩ := mark_go f q k D' hlt2 (by omega) hf
              exact ⟨k + q, by omega, by simp, ⟨g, D'.set k true, hB.set k true, by rw [List.length_set]; exact HL2.out, hg2.trans HM.out, hg1⟩, HJ.out _ _ _ hj ((Below.refl _ _).setCell (by simp) _)⟩
            case measure => simp [intOf]; omega
          · have HE := Lib.hid ((mark_end f q k D' hlt2).symm.trans hm)
            have hge : ¬ (k : Int) < 312 := by omega
            clear hm hl
            gi_wp2
            go_roundw
            case rel =>
              refine ⟨q + 1, by omega, by omega, by simp, ?_, ?_⟩
              · rw [HT2.out, ← HE.out]; exact hB
              · rw [HT2.out]; simpa using hj
            case measure => simp [intOf]; omega
      · have HS := Lib.hid (sieve_skip q hdv hq1)
        rw [hdv] at hc
        clear hdv hlen
        gi_wp2
        go_roundw
        case rel => exact ⟨q + 1, by omega, by omega, by simp, by rw [HS.out]; exact hD, by rw [HS.out]; exact hj⟩
        case measure => simp [intOf]; omega
    · have h312 : q = 312 := by omega
      have hj' : J 64 wr := by rw [h312, primes_64] at hj; exact hj
      have hge : ¬ (q : Int) < 312 := by omega
      clear h312 hj hq2
      gi_wp2
      go_end0
      exact ⟨⟨_, rfl⟩, hj'⟩
end Go.Proofs.YtobldbodafaajaaGreatDoor

/- sha.schedule: a block's words. -/
set_option linter.unusedVariables false
set_option linter.unusedSimpArgs false
namespace Go.Proofs.YtobldbodafaajaaGreatDoor
open Go.RowKit

attribute [local go_sem] u_wrap u_add u_xor u_and u_or u_shl u_shr

def zeros (n : Nat) : List UInt32 := List.replicate n 0
theorem zeros_length (n : Nat) : (zeros n).length = n := by simp [zeros]
theorem sched_length (l : List UInt8) : ∀ t, (sched l t).length = t
  | 0 => rfl
  | t + 1 => by simp [sched, sched_length l t]
/-- The row of words with t of them laid. -/
def upto (l : List UInt8) (t : Nat) : List UInt32 := sched l t ++ zeros (64 - t)
theorem upto_length (l : List UInt8) (t : Nat) (h : t ≤ 64) : (upto l t).length = 64 := by simp [upto, sched_length, zeros_length]; omega
theorem upto_set (l : List UInt8) (t : Nat) (h : t < 64) : (upto l t).set t (nextWord l (sched l t) t) = upto l (t + 1) := by
  unfold upto zeros
  rw [List.set_append_right _ _ (by rw [sched_length]; omega), sched_length, Nat.sub_self, show 64 - t = (64 - (t + 1)) + 1 by omega, List.replicate_succ]
  simp [sched]
theorem upto_get (l : List UInt8) (t i : Nat) (h : i < t) : (upto l t).getD i 0 = (sched l t).getD i 0 := by
  unfold upto
  rw [List.getD_eq_getElem?_getD, List.getElem?_append_left (by rw [sched_length]; exact h), List.getD_eq_getElem?_getD]
theorem upto_all (l : List UInt8) : upto l 64 = sched l 64 := by simp [upto, zeros]

theorem wcells_zeros (n : Nat) : wcells (zeros n) = Array.replicate n (.int .u32 0) := by
  apply Array.ext'
  simp [wcells, zeros, wcell, u]

theorem wraps_u32 (n : Int) (h₀ : 0 ≤ n) (h₁ : n < 2 ^ 32) : IntKind.u32.wrap n = n := by rw [IntKind.wrap_u32]; omega
/-- The steps from four bytes to a word, by shifts and 'or'. -/
theorem word_ors (a b c d : UInt8) :
    (IntKind.u32.wrap (ub a) = ub a ∧ IntKind.u32.wrap (ub b) = ub b ∧ IntKind.u32.wrap (ub c) = ub c ∧ IntKind.u32.wrap (ub d) = ub d) ∧
    (IntKind.u32.wrap (ub a * 16777216) = ub a * 16777216 ∧ IntKind.u32.wrap (ub b * 65536) = ub b * 65536 ∧ IntKind.u32.wrap (ub c * 256) = ub c * 256) ∧
    (bits .or .u32 (ub a * 16777216) (ub b * 65536) = ub a * 16777216 + ub b * 65536 ∧
     bits .or .u32 (ub a * 16777216 + ub b * 65536) (ub c * 256) = ub a * 16777216 + ub b * 65536 + ub c * 256 ∧
     bits .or .u32 (ub a * 16777216 + ub b * 65536 + ub c * 256) (ub d) = u (wordOf a b c d)) := by
  have hs := wordOf_sum a b c d
  have a0 := ub_nonneg a
  have b0 := ub_nonneg b
  have c0 := ub_nonneg c
  have d0 := ub_nonneg d
  have a1 := ub_lt a
  have b1 := ub_lt b
  have c1 := ub_lt c
  have d1 := ub_lt d
  refine ⟨⟨wraps_u32 _ (by omega) (by omega), wraps_u32 _ (by omega) (by omega), wraps_u32 _ (by omega) (by omega), wraps_u32 _ (by omega) (by omega)⟩,
    ⟨wraps_u32 _ (by omega) (by omega), wraps_u32 _ (by omega) (by omega), wraps_u32 _ (by omega) (by omega)⟩, ?_, ?_, ?_⟩
  · exact bits_join .u32 32 (by decide) wraps_u32 24 _ _ (by omega) (by omega) (by omega) (by omega) (by omega) (by omega)
  · exact bits_join .u32 32 (by decide) wraps_u32 16 _ _ (by omega) (by omega) (by omega) (by omega) (by omega) (by omega)
  · rw [bits_join .u32 32 (by decide) wraps_u32 8 _ _ (by omega) (by omega) (by omega) (by omega) (by omega) (by omega), hs]

def got (W : World) (p : Addr) : Value := (W.cell? p).getD undef
/-- The row at block g + 1 is L but for place t; the one at g is still of noughts. -/
def So (T : TypeId) (w : World) (g : Nat) (L : List UInt32) (t : Nat) (W : World) : Prop := ∃ x, Arr T W (g + 1) (L.set t x) ∧ Arr T W g (zeros 64) ∧ Below g w W
theorem So.start {T : TypeId} {w W : World} {g : Nat} {L : List UInt32} {t : Nat} (ht : t < L.length) (h : Arr T W (g + 1) L) (h0 : Arr T W g (zeros 64)) (hk : Below g w W) : So T w g L t W :=
  ⟨L[t], by rw [List.set_getElem_self]; exact h, h0, hk⟩
theorem So.drewN {T : TypeId} {w W : World} {g : Nat} {L : List UInt32} {t : Nat} (h : So T w g L t W) (n : Nat) : So T w g L t (W.drewN n) := by
  obtain ⟨x, h1, h2, h3⟩ := h
  exact ⟨x, h1.drewN n, h2.drewN n, h3.trans ((Kp.refl W).drewN n |>.mono (by have := h2.lt; omega))⟩
theorem So.drew {T : TypeId} {w W : World} {g : Nat} {L : List UInt32} {t : Nat} (h : So T w g L t W) : So T w g L t W.drew := h.drewN 1
theorem So.set {T : TypeId} {w W : World} {g : Nat} {L : List UInt32} {t : Nat} (h : So T w g L t W) (y : UInt32) : So T w g L t (W.setCell ⟨g + 1, t, none⟩ (.int .u32 (u y))) := by
  obtain ⟨x, h1, h2, h3⟩ := h
  refine ⟨y, ?_, h2.other _ _ (by simp), h3.setCell (p := ⟨g + 1, t, none⟩) (by simp) _⟩
  have := h1.set t y _ rfl
  rwa [List.set_set] at this
theorem So.facts {T : TypeId} {w W : World} {g : Nat} {L : List UInt32} {t : Nat} (ht : t < L.length) (h16 : 16 ≤ t) (x2 x7 x15 x16 : UInt32) (e2 : L.getD (t - 2) 0 = x2) (e7 : L.getD (t - 7) 0 = x7) (e15 : L.getD (t - 15) 0 = x15) (e16 : L.getD (t - 16) 0 = x16)
    (h : So T w g L t W) : W.cell? ⟨g + 1, t - 2, none⟩ = some (.int .u32 (u x2)) ∧ W.cell? ⟨g + 1, t - 7, none⟩ = some (.int .u32 (u x7)) ∧ W.cell? ⟨g + 1, t - 15, none⟩ = some (.int .u32 (u x15)) ∧ W.cell? ⟨g + 1, t - 16, none⟩ = some (.int .u32 (u x16)) ∧
      W.cell? ⟨g + 1, t, none⟩ = some (got W ⟨g + 1, t, none⟩) ∧ W.frozen? ⟨g + 1, t, none⟩ = false ∧ So T w g L t W := by
  have h' := h
  obtain ⟨x, h1, h2, h3⟩ := h'
  have hl : (L.set t x).length = L.length := by simp
  have k : ∀ i, i < t → W.cell? ⟨g + 1, i, none⟩ = some (.int .u32 (u (L.getD i 0))) := fun i hi => by
    have := h1.cell i (by rw [hl]; omega)
    rw [this, List.getD_eq_getElem?_getD, List.getElem?_set_ne (by omega), List.getD_eq_getElem?_getD]
  subst e2 e7 e15 e16
  refine ⟨k _ (by omega), k _ (by omega), k _ (by omega), k _ (by omega), ?_, h1.frozen t (by omega), h⟩
  have := h1.cell t (by omega)
  unfold got
  rw [this]
  rfl

set_option maxRecDepth 100000 in
set_option maxHeartbeats 1000000 in
theorem schedule_any (v : Value) (l : List UInt8) (w : World) (h : Rd w v l) (hl : l.length = 64) :
    Calls Tryz.prog 116 #[v] w fun e w' => e = .returned (.agg (wcells (sched l 64))) ∧ Kp w w' := by
  obtain ⟨a, c, rfl, h1, h2⟩ := h.shape
  rw [hl] at h h1 ⊢
  unfold maxLen at h2
  obtain ⟨b, off, rfl, hb, hc⟩ := h.row (by omega)
  go_enter Tryz.func116, Tryz.ntmps116
  go_wp2_with fail
  go_loopw [7] (fun i wr => ∃ t : Nat, t ≤ 16 ∧ i = .int .i64 t ∧ Arr 113 wr w.heap.size (zeros 64) ∧ Arr 113 wr (w.heap.size + 1) (upto l t) ∧ Kp w wr) (fun i _ => 16 - (intOf i).toNat)
  case atStart =>
    refine ⟨0, by omega, rfl, ?_, ?_, ((Kp.refl w).alloc _).alloc _⟩
    · exact (Arr.new _ _ _ (zeros 64) rfl).alloc _
    · have := Arr.new 113 (w.alloc (.cells (wcells (zeros 64)) 113)) (wcells (zeros 64)) (upto l 0) rfl
      rw [World.size_alloc] at this
      exact this
  case round =>
    obtain ⟨t, ht, rfl, hA0, hA, hk⟩ := hrel
    by_cases hlt : t < 16
    · have c0 := hk.cell (hc (4 * t) (by omega))
      have c1 := hk.cell (hc (4 * t + 1) (by omega))
      have c2 := hk.cell (hc (4 * t + 2) (by omega))
      have c3 := hk.cell (hc (4 * t + 3) (by omega))
      have hn : nextWord l (sched l t) t = wordOf (l.getD (4 * t) 0) (l.getD (4 * t + 1) 0) (l.getD (4 * t + 2) 0) (l.getD (4 * t + 3) 0) := by unfold nextWord; rw [if_pos hlt]
      have hset := (upto_set l t (by omega))
      rw [hn] at hset
      have hA' := hA.set t (wordOf (l.getD (4 * t) 0) (l.getD (4 * t + 1) 0) (l.getD (4 * t + 2) 0) (l.getD (4 * t + 3) 0)) _ rfl
      rw [hset] at hA'
      have hA0' := hA0.other ⟨w.heap.size + 1, t, none⟩ (.int .u32 (u (wordOf (l.getD (4 * t) 0) (l.getD (4 * t + 1) 0) (l.getD (4 * t + 2) 0) (l.getD (4 * t + 3) 0)))) (by simp)
      have hk' := Below.setCell hk (p := ⟨w.heap.size + 1, t, none⟩) (by simp) (.int .u32 (u (wordOf (l.getD (4 * t) 0) (l.getD (4 * t + 1) 0) (l.getD (4 * t + 2) 0) (l.getD (4 * t + 3) 0))))
      have ca := hA.cell t (by rw [upto_length l t (by omega)]; omega)
      have cf := hA.frozen t (by rw [upto_length l t (by omega)]; omega)
      generalize l.getD (4 * t) 0 = x0 at *
      generalize l.getD (4 * t + 1) 0 = x1 at *
      generalize l.getD (4 * t + 2) 0 = x2 at *
      generalize l.getD (4 * t + 3) 0 = x3 at *
      obtain ⟨⟨v0, v1, v2, v3⟩, ⟨m0, m1, m2⟩, o1, o2, o3⟩ := word_ors x0 x1 x2 x3
      simp only [← Nat.add_assoc] at c1 c2 c3
      have H := Lib.hid hset
      have e4 : 4 * t + 4 - 4 * t = 4 := by omega
      clear hc hset hn
      go_wp2_with fail
      rw [e4]
      have ht64 : (t : Int) < 64 := by omega
      go_still_tail 24, (by kernel_rfl)
      go_wp2_with fail
      go_roundw
      case rel => exact ⟨t + 1, by omega, by go_num, hA0'.drew, hA'.drew, hk'.drew⟩
      case measure => simp [intOf]; omega
    · obtain rfl : t = 16 := by omega
      clear hc hlt ht
      go_wp2_with fail
      go_loopw [6] (fun i wr => ∃ t : Nat, 16 ≤ t ∧ t ≤ 64 ∧ i = .int .i64 t ∧ Arr 113 wr w.heap.size (zeros 64) ∧ Arr 113 wr (w.heap.size + 1) (upto l t) ∧ Kp w wr) (fun i _ => 64 - (intOf i).toNat)
      case atStart => exact ⟨16, by omega, by omega, rfl, hA0, hA, hk⟩
      case round =>
        clear hA0 hA hk
        obtain ⟨t, h16, ht, rfl, hA0, hA, hk⟩ := hrel
        by_cases hlt : t < 64
        · have hlen := upto_length l t (by omega)
          have hn : nextWord l (sched l t) t = wadd (wadd (wadd (small 17 19 10 ((upto l t).getD (t - 2) 0)) ((upto l t).getD (t - 7) 0)) (small 7 18 3 ((upto l t).getD (t - 15) 0))) ((upto l t).getD (t - 16) 0) := by
            unfold nextWord
            rw [if_neg (by omega), upto_get l t _ (by omega), upto_get l t _ (by omega), upto_get l t _ (by omega), upto_get l t _ (by omega)]
          have hset := (upto_set l t (by omega))
          rw [hn] at hset
          obtain ⟨x2, e2⟩ : ∃ x, (upto l t).getD (t - 2) 0 = x := ⟨_, rfl⟩
          obtain ⟨x7, e7⟩ : ∃ x, (upto l t).getD (t - 7) 0 = x := ⟨_, rfl⟩
          obtain ⟨x15, e15⟩ : ∃ x, (upto l t).getD (t - 15) 0 = x := ⟨_, rfl⟩
          obtain ⟨x16, e16⟩ : ∃ x, (upto l t).getD (t - 16) 0 = x := ⟨_, rfl⟩
          rw [e2, e7, e15, e16] at hset
          have F : ∀ W, So 113 w w.heap.size (upto l t) t W → _ := fun W h => So.facts (by omega) h16 x2 x7 x15 x16 e2 e7 e15 e16 h
          have HF := Lib.hid F
          have S0 : So 113 w w.heap.size (upto l t) t wr := So.start (by omega) hA hA0 hk
          have i2 : IntKind.i64.wrap ((t : Int) - 2) = (t : Int) - 2 := IntWalk.i64_in _ (by omega)
          have i7 : IntKind.i64.wrap ((t : Int) - 7) = (t : Int) - 7 := IntWalk.i64_in _ (by omega)
          have i15 : IntKind.i64.wrap ((t : Int) - 15) = (t : Int) - 15 := IntWalk.i64_in _ (by omega)
          have i16 : IntKind.i64.wrap ((t : Int) - 16) = (t : Int) - 16 := IntWalk.i64_in _ (by omega)
          have n2 : ((t : Int) - 2).toNat = t - 2 := by omega
          have n7 : ((t : Int) - 7).toNat = t - 7 := by omega
          have n15 : ((t : Int) - 15).toNat = t - 15 := by omega
          have n16 : ((t : Int) - 16).toNat = t - 16 := by omega
          have p2 : (2 : Int) ≤ (t : Int) := by omega
          have p7 : (7 : Int) ≤ (t : Int) := by omega
          have p15 : (15 : Int) ≤ (t : Int) := by omega
          have p16 : (16 : Int) ≤ (t : Int) := by omega
          have q2 : (t : Int) - 2 < 64 := by omega
          have q7 : (t : Int) - 7 < 64 := by omega
          have q15 : (t : Int) - 15 < 64 := by omega
          have q16 : (t : Int) - 16 < 64 := by omega
          have q : (t : Int) < 64 := by omega
          have H := Lib.hid hset
          clear hset hn hlen F e2 e7 e15 e16
          go_wp2_with fail
          go_region_held3 (fun W => W.cell? ⟨w.heap.size + 1, t - 2, none⟩ = some (.int .u32 (u x2)) ∧ W.cell? ⟨w.heap.size + 1, t - 7, none⟩ = some (.int .u32 (u x7)) ∧ W.cell? ⟨w.heap.size + 1, t - 15, none⟩ = some (.int .u32 (u x15)) ∧ W.cell? ⟨w.heap.size + 1, t - 16, none⟩ = some (.int .u32 (u x16)) ∧ W.cell? ⟨w.heap.size + 1, t, none⟩ = some (got W ⟨w.heap.size + 1, t, none⟩) ∧ W.frozen? ⟨w.heap.size + 1, t, none⟩ = false ∧ So 113 w w.heap.size (upto l t) t W)
            (first
              | (with_reducible exact HF.out _ (S0.drew))
              | (with_reducible exact HF.out _ (S0.drewN _))
              | (with_reducible exact HF.out _ ((S0.drewN _).set _)))
            (first
              | (go_at_call 119; (with_reducible refine (shifted_1 _ _).mono ?_); rintro e w' ⟨rfl, n, rfl⟩)
              | (go_at_call 119; (with_reducible refine (shifted_0 _ _).mono ?_); rintro e w' ⟨rfl, n, rfl⟩))
          all_goals
            go_wp2_with fail
            go_roundw
            case rel =>
              repeat apply Exists.intro
              refine ⟨?_, rfl⟩
              exact ⟨t + 1, by omega, by omega, by go_num, (hA0.drewN _).other _ _ (by simp), (hA.drewN _).setTo t _ H.out, Below.setCell (hk.drewN _) (by simp) _⟩
            case measure => simp [intOf]; omega
        · obtain rfl : t = 64 := by omega
          rw [upto_all] at hA
          have hle := hk.size
          go_wp2_with (first
            | (refine wpList_load_arr Tryz.underlying113 (by kernel_rfl) rfl (.tmp 3) rfl (w.heap.size + 1) (sched l 64) rfl hA (sched_length l 64) ?_)
            | (refine wpList_store_arr (by kernel_rfl) rfl (.tmp 2) (.tmp 69) rfl w.heap.size (zeros 64) (sched l 64) rfl rfl hA0 (zeros_length 64) (sched_length l 64) ?_))
          refine bodyPost_ret (results_arr Tryz.underlying113 (by kernel_rfl) rfl _ _ w.heap.size (sched l 64) rfl (hA0.setRow _) (sched_length l 64)) rfl ?_
          exact ⟨rfl, below_setRow hk (Nat.le_refl _) _⟩
end Go.Proofs.YtobldbodafaajaaGreatDoor

/- An array by value, indexed. -/
set_option linter.unusedVariables false
set_option linter.unusedSimpArgs false
namespace Go.Proofs.YtobldbodafaajaaGreatDoor
open Go.RowKit
theorem run_index_arr {P : Program} (w : World) (t e : TypeId) (n : Nat) (ie : TypeInfo) (d : TypeDesc) (h : P.underlying t = some (.array n e)) (hi : P.info? e = some ie) (hs : ie.size = 1) (hd : P.underlying e = some d)
    (hp : (match d with | .struct _ | .array _ _ => true | _ => false) = false) (cs : Array Value) (hn : cs.size = n) (i : Nat) (hlt : i < n) (v : Value) (hv : cs[i]? = some v) :
    (Instr.index t (.agg cs) (.int .i64 i)).run P w = .ok v w := by
  have hr : (0 ≤ (i : Int) ∧ (i : Int) < (n : Int)) := by omega
  have hagg : (isAgg e).run P w = .ok false w := by
    unfold isAgg
    rw [Sem.run_bind, run_underlying hd w]
    cases d <;> simp_all
  simp [Instr.index, run_underlying h, asIntOf, hr, go_sem, part, sizeOf, typeInfo, hi, hs, hagg, hv, Sem.run_bind]
  intro hge
  omega
end Go.Proofs.YtobldbodafaajaaGreatDoor

/- sha.behind: eight words behind a block. -/
set_option linter.unusedVariables false
set_option linter.unusedSimpArgs false
namespace Go.Proofs.YtobldbodafaajaaGreatDoor
open Go.RowKit

attribute [local go_sem] u_wrap u_add u_xor u_and u_or u_shl u_shr

theorem u_not (x : UInt32) : bits .xor .u32 IntKind.u32.max (u x) = u (wnot x) := by
  have : IntKind.u32.max = u 0xffffffff := by decide
  rw [this, u_xor]
  rfl
attribute [local go_sem] u_not
theorem S8.length (s : S8) : s.list.length = 8 := rfl
/-- The first i of B's, then A's. -/
def mix (A B : List UInt32) (i : Nat) : List UInt32 := B.take i ++ A.drop i
theorem mix_length (A B : List UInt32) (i : Nat) (h : A.length = B.length) (hi : i ≤ A.length) : (mix A B i).length = A.length := by simp [mix]; omega
theorem mix_set (A B : List UInt32) (i : Nat) (h : A.length = B.length) (hi : i < A.length) (x : UInt32) (hx : B.getD i 0 = x) : (mix A B i).set i x = mix A B (i + 1) := by
  unfold mix
  have hb : i < B.length := by omega
  have hl : (B.take i).length = i := by simp; omega
  rw [List.getD_eq_getElem?_getD, List.getElem?_eq_getElem hb] at hx
  rw [List.set_append_right _ _ (by omega), hl, Nat.sub_self, List.drop_eq_getElem_cons hi, List.set_cons_zero, List.take_succ_eq_append_getElem hb, List.append_assoc]
  simp only [Option.getD_some] at hx
  rw [hx]
  rfl
theorem mix_get (A B : List UInt32) (i : Nat) (h : A.length = B.length) (hi : i < A.length) : (mix A B i).getD i 0 = A.getD i 0 := by
  unfold mix
  have hl : (B.take i).length = i := by simp; omega
  rw [List.getD_eq_getElem?_getD, List.getElem?_append_right (by omega), hl, Nat.sub_self, List.drop_eq_getElem_cons hi, List.getD_eq_getElem?_getD, List.getElem?_eq_getElem hi]
  rfl

theorem add_get (s r : S8) (i : Nat) (h : i < 8) : (s.add r).list.getD i 0 = wadd (s.list.getD i 0) (r.list.getD i 0) := by
  match i, h with
  | 0, _ => rfl
  | 1, _ => rfl
  | 2, _ => rfl
  | 3, _ => rfl
  | 4, _ => rfl
  | 5, _ => rfl
  | 6, _ => rfl
  | 7, _ => rfl

theorem u32_info : ∃ ie, Tryz.prog.info? 79 = some ie ∧ ie.size = 1 := by
  have h : (Tryz.prog.info? 79).map (·.size) = some 1 := by kernel_rfl
  cases hq : Tryz.prog.info? 79 with
  | none => rw [hq] at h; cases h
  | some ie => rw [hq] at h; exact ⟨ie, rfl, by simpa using h⟩

set_option maxRecDepth 100000 in
set_option maxHeartbeats 2000000 in
theorem behind_any (s : S8) (v : Value) (l : List UInt8) (gk : Nat) (k : List UInt32) (w : World) (h : Rd w v l) (hl : l.length = 64) (hk : Arr 113 w gk k) (hkl : k.length = 64) :
    Calls Tryz.prog 107 #[.agg (wcells s.list), v, .pointer (some ⟨gk, 0, none⟩)] w fun e w' => e = .returned (.agg (wcells (comp k s l).list)) ∧ Kp w w' := by
  obtain ⟨a, c, rfl, h1, h2⟩ := h.shape
  rw [hl] at h h1 ⊢
  have HL := Lib.hid hl
  have HKL := Lib.hid hkl
  clear hl hkl
  go_enter Tryz.func107, Tryz.ntmps107
  go_wp2_with fail
  refine (schedule_any _ l _ (h.kp (((Kp.refl _).alloc _).alloc _)) HL.out).mono ?_
  rintro e w1 ⟨rfl, hk1⟩
  have hB : Arr 80 w1 w.heap.size s.list := ((Arr.new _ w (wcells s.list) s.list rfl).alloc _).kp hk1
  have hR : Arr 80 w1 (w.heap.size + 1) (zeros 8) := by
    have := Arr.new 80 (w.alloc (.cells (wcells s.list) 80)) (wcells (zeros 8)) (zeros 8) rfl
    rw [World.size_alloc] at this
    exact this.kp hk1
  have hkw : Kp w w1 := (((Kp.refl w).alloc _).alloc _).trans hk1
  have hkk := hk.kp hkw
  go_wp2_with (first
    | (refine wpList_store_arr' (by kernel_rfl) rfl rfl (.tmp 7) (.tmp 24) rfl w1.heap.size (zeros 64) (sched l 64) rfl rfl (Arr.new _ _ _ _ rfl) (zeros_length 64) (sched_length l 64) ?_; intro w2 hW hbut))
  have hB2 := hbut.arr (hB.alloc _) (by have := hB.lt; omega)
  have hR2 := hbut.arr (hR.alloc _) (by have := hR.lt; omega)
  have hk2 := hbut.arr (hkk.alloc _) (by have := hkk.lt; omega)
  have hkp2 : Kp w w2 := hbut.below (hkw.alloc _) (hkw.size)
  clear hbut hB hR hkk hkw hk1 hk h
  have c0 : w2.cell? ⟨w.heap.size, 0, none⟩ = some (.int .u32 (u s.a)) := hB2.cell 0 (Nat.lt_of_sub_eq_succ rfl)
  have c1 : w2.cell? ⟨w.heap.size, 1, none⟩ = some (.int .u32 (u s.b)) := hB2.cell 1 (Nat.lt_of_sub_eq_succ rfl)
  have c2 : w2.cell? ⟨w.heap.size, 2, none⟩ = some (.int .u32 (u s.c)) := hB2.cell 2 (Nat.lt_of_sub_eq_succ rfl)
  have c3 : w2.cell? ⟨w.heap.size, 3, none⟩ = some (.int .u32 (u s.d)) := hB2.cell 3 (Nat.lt_of_sub_eq_succ rfl)
  have c4 : w2.cell? ⟨w.heap.size, 4, none⟩ = some (.int .u32 (u s.e)) := hB2.cell 4 (Nat.lt_of_sub_eq_succ rfl)
  have c5 : w2.cell? ⟨w.heap.size, 5, none⟩ = some (.int .u32 (u s.f)) := hB2.cell 5 (Nat.lt_of_sub_eq_succ rfl)
  have c6 : w2.cell? ⟨w.heap.size, 6, none⟩ = some (.int .u32 (u s.g)) := hB2.cell 6 (Nat.lt_of_sub_eq_succ rfl)
  have c7 : w2.cell? ⟨w.heap.size, 7, none⟩ = some (.int .u32 (u s.h)) := hB2.cell 7 (Nat.lt_of_sub_eq_succ rfl)
  go_quiet (fail)
  clear c0 c1 c2 c3 c4 c5 c6 c7
  go_wp2_with fail
  obtain ⟨w3, hw3⟩ : ∃ w3, w2.drewN nq = w3 := ⟨_, rfl⟩
  have hB3 := hB2.drewN nq
  have hR3 := hR2.drewN nq
  have hk3 := hk2.drewN nq
  have hW3 := hW.drewN nq
  have hkp3 : Kp w (w2.drewN nq) := hkp2.drewN nq
  rw [hw3] at hB3 hR3 hk3 hW3 hkp3 ⊢
  clear hw3 hB2 hR2 hk2 hW hkp2
  have HKL2 := HKL.out
  have HWL := sched_length l 64
  go_loopw [8, 9, 10, 11, 12, 13, 14, 15, 41] (fun sa sb sc sd se sf sg sh i wr => ∃ t : Nat, t ≤ 64 ∧ i = .int .i64 t ∧ (∃ r, r = rnds k (sched l 64) s t ∧ sa = .int .u32 (u r.a) ∧ sb = .int .u32 (u r.b) ∧ sc = .int .u32 (u r.c) ∧ sd = .int .u32 (u r.d) ∧ se = .int .u32 (u r.e) ∧ sf = .int .u32 (u r.f) ∧ sg = .int .u32 (u r.g) ∧ sh = .int .u32 (u r.h)) ∧ ∃ n, wr = w3.drewN n) (fun _ _ _ _ _ _ _ _ i _ => 64 - (intOf i).toNat)
  case atStart => exact ⟨0, by omega, rfl, ⟨s, rfl, rfl, rfl, rfl, rfl, rfl, rfl, rfl, rfl⟩, 0, rfl⟩
  case round =>
    obtain ⟨t, ht, rfl, ⟨r, hr, rfl, rfl, rfl, rfl, rfl, rfl, rfl, rfl⟩, n, rfl⟩ := hrel
    by_cases hlt : t < 64
    · have ck := (hk3.drewN n).cell t (by omega)
      have cw := (hW3.drewN n).cell t (by omega)
      have HR := Lib.hid hr
      have q : (t : Int) < 64 := by omega
      obtain ⟨wn, hwn⟩ : ∃ wn, w3.drewN n = wn := ⟨_, rfl⟩
      rw [hwn] at ck cw ⊢
      have HWN := Lib.hid hwn
      clear hr HKL2 HWL hwn
      have hsg : IntKind.u32.signed = false := rfl
      go_wp2_with ((go_at_call 117; refine (turned_a _ _).mono ?_; rintro e w' ⟨rfl, rfl⟩))
      go_quiet ((go_at_call 117; exact quiet_left (turned_e _ _)))
      go_wp2_with ((go_at_call 117; refine (turned_a _ _).mono ?_; rintro e w' ⟨rfl, rfl⟩))
      go_roundw
      case rel => exact ⟨t + 1, by omega, by go_num, ⟨rnd r (k.getD t 0) ((sched l 64).getD t 0), by rw [HR.out]; rfl, rfl, rfl, rfl, rfl, rfl, rfl, rfl, rfl⟩, n + nq, by rw [← HWN.out, World.drewN_drewN]⟩
      case measure => simp [intOf]; omega
    · obtain rfl : t = 64 := by omega
      have HR := Lib.hid hr
      have hB4 := hB3.drewN n
      have hR4 := hR3.drewN n
      have hkp4 : Kp w (w3.drewN n) := hkp3.drewN n
      obtain ⟨w4, hw4⟩ : ∃ w4, w3.drewN n = w4 := ⟨_, rfl⟩
      rw [hw4] at hB4 hR4 hkp4 ⊢
      clear hr HKL2 HWL hw4 hB3 hR3 hkp3 hk3 hW3 ht hlt
      go_wp2_with fail
      go_loopw [105] (fun i wr => ∃ t : Nat, t ≤ 8 ∧ i = .int .i64 t ∧ Arr 80 wr w.heap.size (mix s.list (s.add r).list t) ∧ Arr 80 wr (w.heap.size + 1) (zeros 8) ∧ Kp w wr) (fun i _ => 8 - (intOf i).toNat)
      case atStart => exact ⟨0, by omega, rfl, hB4, hR4, hkp4⟩
      case round =>
        clear hB4 hR4 hkp4
        obtain ⟨i, hi, rfl, hB, hR, hkp⟩ := hrel
        by_cases hlt : i < 8
        · have cb := hB.cell i (by rw [mix_length s.list (s.add r).list i rfl hi]; exact hlt)
          have cf := hB.frozen i (by rw [mix_length s.list (s.add r).list i rfl hi]; exact hlt)
          rw [mix_get s.list (s.add r).list i rfl hlt] at cb
          have hs := mix_set s.list (s.add r).list i rfl hlt _ (add_get s r i hlt)
          have hidx : ∀ W, (Instr.index 80 (.agg (wcells r.list)) (.int .i64 i)).run Tryz.prog W = .ok (.int .u32 (u (r.list.getD i 0))) W := fun W => by
            obtain ⟨ie, hie, hsz⟩ := u32_info
            exact run_index_arr W 80 79 8 ie _ Tryz.underlying80 hie hsz Tryz.underlying79 rfl _ rfl i hlt _ (wcells_get r.list i hlt)
          have hidx' : ∀ W, (Instr.index 80 (.agg #[.int .u32 (u r.a), .int .u32 (u r.b), .int .u32 (u r.c), .int .u32 (u r.d), .int .u32 (u r.e), .int .u32 (u r.f), .int .u32 (u r.g), .int .u32 (u r.h)]) (.int .i64 i)).run Tryz.prog W = .ok (.int .u32 (u (r.list.getD i 0))) W := hidx
          generalize s.list.getD i 0 = x at *
          generalize r.list.getD i 0 = y at *
          have HS := Lib.hid hs
          have q : (i : Int) < 8 := by omega
          clear hs hidx
          go_wp2_with fail
          go_roundw
          case rel => exact ⟨i + 1, by omega, by go_num, hB.setTo i _ HS.out, hR.other _ _ (by simp), Below.setCell hkp (by simp) _⟩
          case measure => simp [intOf]; omega
        · obtain rfl : i = 8 := by omega
          have hm : mix s.list (s.add r).list 8 = (s.add r).list := rfl
          rw [hm] at hB
          clear hm
          go_wp2_with (first
            | (refine wpList_load_arr Tryz.underlying80 (by kernel_rfl) rfl (.tmp 3) rfl w.heap.size (s.add r).list rfl hB rfl ?_)
            | (refine wpList_store_arr' (by kernel_rfl) rfl rfl (.tmp 6) (.tmp 116) rfl (w.heap.size + 1) (zeros 8) (s.add r).list rfl rfl hR rfl rfl ?_; intro w5 hR5 hbut))
          refine bodyPost_ret (results_arr Tryz.underlying80 (by kernel_rfl) rfl _ _ (w.heap.size + 1) (s.add r).list rfl hR5 rfl) rfl ?_
          exact ⟨by rw [HR.out]; rfl, hbut.below hkp (by omega)⟩
end Go.Proofs.YtobldbodafaajaaGreatDoor

/- sha.keys: the rounds' keys. -/
set_option linter.unusedVariables false
set_option linter.unusedSimpArgs false
namespace Go.Proofs.YtobldbodafaajaaGreatDoor
open Go.RowKit Go.Shelf

attribute [local go_sem] Oper.semAt_some

set_option maxRecDepth 100000 in
set_option maxHeartbeats 4000000 in
theorem keys_any (w : World) : Calls Tryz.prog 104 #[] w fun e w' => e = .returned (.agg (wcells keyL)) ∧ Kp w w' := by
  refine (callsIn_wide (n := 4)).1 ?_
  refine callsIn_of_wp_marks Tryz.func104 rfl trivial ?_ rfl
  refine wpIn_wide.2 ?_
  simp only [Tryz.ntmps104, List.append_toArray, List.size_toArray, List.length_nil, Nat.reduceSub, Array.replicate_succ, Array.replicate_zero, List.push_toArray, List.nil_append, List.cons_append]
  go_wp2
  obtain ⟨W0, hW0⟩ : ∃ W0, ((w.alloc (.cells (wcells (zeros 64)) 113)).alloc (.cells (wcells (zeros 64)) 113)).alloc (.cells #[.int .i64 0] 3) = W0 := ⟨_, rfl⟩
  change Code.wp Tryz.prog _ _ _ (((w.alloc (.cells (wcells (zeros 64)) 113)).alloc (.cells (wcells (zeros 64)) 113)).alloc (.cells #[.int .i64 0] 3))
  rw [hW0]
  have hs0 : W0.heap.size = w.heap.size + 3 := by rw [← hW0]; simp
  have hR : Arr 113 W0 w.heap.size (zeros 64) := by rw [← hW0]; exact ((Arr.new _ w _ _ rfl).alloc _).alloc _
  have hA : Arr 113 W0 (w.heap.size + 1) (zeros 64) := by
    have := (Arr.new 113 (w.alloc (.cells (wcells (zeros 64)) 113)) (wcells (zeros 64)) (zeros 64) rfl).alloc (.cells #[.int .i64 0] 3)
    rw [World.size_alloc, hW0] at this
    exact this
  have hI : W0.cell? ⟨w.heap.size + 1 + 1, 0, none⟩ = some (.int .i64 0) ∧ W0.frozen? ⟨w.heap.size + 1 + 1, 0, none⟩ = false := by
    have := heap_alloc_new ((w.alloc (.cells (wcells (zeros 64)) 113)).alloc (.cells (wcells (zeros 64)) 113)) (.cells #[.int .i64 0] 3)
    rw [World.size_alloc, World.size_alloc, hW0] at this
    exact ⟨by rw [cell_of_row W0 _ 0 _ _ _ this]; rfl, by simp [World.frozen?, this]⟩
  have hK : Kp w W0 := by rw [← hW0]; exact (((Kp.refl w).alloc _).alloc _).alloc _
  clear hW0
  refine wpIn_wide.1 (wpIn_range_on (F := Fence.wide) (n := 4) rfl (by omega) (gf := 113) (lb := #[]) rfl trivial (enters_of Tryz.func113 (by kernel_rfl) rfl) (encs := fun i => #[.int .u64 (primeAt i)]) (N := 64) (X := fun k => k = w.heap.size + 1 ∨ k = w.heap.size + 1 + 1) (by omega)
    (primes_it (4 - 1) (by omega) _ W0 (by omega)) (fun _ => rfl)
    (fun i A => Arr 113 A w.heap.size (zeros 64) ∧ Arr 113 A (w.heap.size + 1) (mix (zeros 64) keyL i) ∧ A.cell? ⟨w.heap.size + 1 + 1, 0, none⟩ = some (.int .i64 i) ∧ A.frozen? ⟨w.heap.size + 1 + 1, 0, none⟩ = false ∧ Kp w A)
    (fun i A B h hb => ⟨h.1.below hb (by omega), h.2.1.below hb (by omega), (hb.cell (p := ⟨w.heap.size + 1 + 1, 0, none⟩) (by simp; omega)).trans h.2.2.1, (hb.frozen (p := ⟨w.heap.size + 1 + 1, 0, none⟩) (by simp; omega)).trans h.2.2.2.1, Below.trans h.2.2.2.2 (hb.mono (by omega))⟩)
    ⟨hR, hA, hI.1, hI.2, hK⟩
    (fun i => { tmps := #[.pointer (some ⟨w.heap.size, 0, none⟩), .pointer (some ⟨w.heap.size + 1, 0, none⟩), .pointer (some ⟨w.heap.size + 1 + 1, 0, none⟩), .int .u64 (primeAt i), .int .u64 (primeAt i), undef, undef, undef, undef, undef, undef, undef], defers := [] }) ?assign ?body ?done)
  case assign =>
    intro l i W K hK
    gi_wp2
    exact hK
  case body =>
    rintro l i W ⟨hR, hA, hc, hf, hK⟩ hi
    obtain ⟨hp1, hp2⟩ := primeAt_small ⟨i, hi⟩
    simp only at hp1 hp2
    have hkey : keyL.getD i 0 = rootW (primeAt i) := by
      rw [← keys_eq, List.getD_eq_getElem?_getD, List.getElem?_map, List.getElem?_range hi]
      rfl
    have hlen : (mix (zeros 64) keyL i).length = 64 := by rw [mix_length (zeros 64) keyL i (by simp [zeros_length]; rfl) (by rw [zeros_length]; omega), zeros_length]
    have hset := mix_set (zeros 64) keyL i (by simp [zeros_length]; rfl) (by rw [zeros_length]; omega) _ hkey
    have ca := hA.cell i (by omega)
    have cf := hA.frozen i (by omega)
    generalize primeAt i = p at *
    have hii : (i : Int) < 64 := by omega
    have HS := Lib.hid hset
    clear hset hkey hlen
    have hmx : Tryz.prog.follows .mixedOrders = true := by kernel_rfl
    gi_wp2
    gi_region_with_o (refine ⟨trivial, ?_⟩; gi_at_call 114; refine (CallsIn.inRound l (callsIn_wide.2 (rootBits_any p _ hp1 hp2))).mono ?_; rintro e w' ⟨rfl, rfl⟩)
    all_goals gi_wp2
    all_goals exact ⟨(((Same.refl _ W).setCell ⟨w.heap.size + 1, i, none⟩ _ (.inl rfl)).setCell ⟨w.heap.size + 1 + 1, 0, none⟩ _ (.inr rfl)).drew, ((hR.other _ _ (by simp)).other _ _ (by simp; omega)).drew, ((hA.setTo i _ HS.out).other _ _ (by simp)).drew, (Below.setCell (Below.setCell hK (by simp) _) (by simp; omega) _).drew⟩
  case done =>
    rintro D W hD ⟨hR, hA, hc, hf, hK⟩ hd
    have hm : mix (zeros 64) keyL 64 = keyL := rfl
    rw [hm] at hA
    clear hm
    go_wp2_with (first
      | (refine wpList_load_arr Tryz.underlying113 (by kernel_rfl) rfl (.tmp 1) rfl (w.heap.size + 1) keyL rfl hA rfl ?_)
      | (refine wpList_store_arr' (by kernel_rfl) rfl rfl (.tmp 0) (.tmp 11) rfl w.heap.size (zeros 64) keyL rfl rfl hR (zeros_length 64) rfl ?_; intro w5 hR5 hbut))
    have hd5 := (hbut.other D (by omega)).trans hd
    refine ⟨by simp, .inl ⟨_, _, rfl, run_takeDeferred hd5, ?_⟩⟩
    exact ⟨_, results_arr Tryz.underlying113 (by kernel_rfl) rfl _ _ w.heap.size keyL rfl ((World.putObj_heap_other (by omega)).trans hR5) rfl, rfl, put_below (hbut.below hK (Nat.le_refl _)) (by omega) (by rw [hbut.size]; exact hK.size) _⟩
end Go.Proofs.YtobldbodafaajaaGreatDoor

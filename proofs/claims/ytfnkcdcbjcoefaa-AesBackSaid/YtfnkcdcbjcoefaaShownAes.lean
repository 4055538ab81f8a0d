/- The document's examples, at the head of all statements of layer 5: shown. -/
import Derived.Test.YtfnkcdcbjcoefaaRefStream
import Derived.Test.YtfnkcdcbjcoefaaAesKeys
import Derived.Test.YtfnkcdcbjcoefaaBytes2
import Derived.Test.YtfnkcdcbjcoefaaText
set_option linter.unusedVariables false
set_option linter.unusedSimpArgs false
namespace Go.Proofs.Ytfnkcdcbjcoefaa
open Go.RowKit

def key5 : List UInt8 := [0, 1, 2, 3, 4, 5, 6, 7, 8, 9, 10, 11, 12, 13, 14, 15]
def blk5 : List UInt8 := [0x00, 0x11, 0x22, 0x33, 0x44, 0x55, 0x66, 0x77, 0x88, 0x99, 0xaa, 0xbb, 0xcc, 0xdd, 0xee, 0xff]
def out5 : List UInt8 := [0x69, 0xc4, 0xe0, 0xd8, 0x6a, 0x7b, 0x04, 0x30, 0xd8, 0xcd, 0xb7, 0x80, 0x70, 0xb4, 0xc5, 0x5a]
def keyS : ByteArray := ⟨#[48, 48, 48, 49, 48, 50, 48, 51, 48, 52, 48, 53, 48, 54, 48, 55, 48, 56, 48, 57, 48, 97, 48, 98, 48, 99, 48, 100, 48, 101, 48, 102]⟩
def blkS : ByteArray := ⟨#[48, 48, 49, 49, 50, 50, 51, 51, 52, 52, 53, 53, 54, 54, 55, 55, 56, 56, 57, 57, 97, 97, 98, 98, 99, 99, 100, 100, 101, 101, 102, 102]⟩
theorem key_told : byB keyS.data.toList = key5 ∧ byE keyS.data.toList = 0 := by decide +kernel
theorem blk_told : byB blkS.data.toList = blk5 ∧ byE blkS.data.toList = 0 := by decide +kernel
theorem out_told : (⟨(textB out5).toArray⟩ : ByteArray) = ⟨#[54, 57, 99, 52, 101, 48, 100, 56, 54, 97, 55, 98, 48, 52, 51, 48, 100, 56, 99, 100, 98, 55, 56, 48, 55, 48, 98, 52, 99, 53, 53, 97]⟩ := by decide +kernel
theorem blkR_shown : blkR key5 blk5 = out5 ∧ blkE key5 blk5 = 0 := by
  refine ⟨?_, rfl⟩
  unfold blkR
  rw [if_pos ⟨rfl, rfl⟩]
  exact lock_shown
theorem keyE_shown : keyE key5 = 0 ∧ (keyR key5).length = 11 := ⟨rfl, rfl⟩
theorem str_shown : strE key5 (blk5.take 12) = 0 ∧ (strR key5 (blk5.take 12) [1, 2, 3]).length = 3 := ⟨rfl, rfl⟩
theorem mul_shown : mulB 0x57 0x83 = 0xc1 ∧ boxB 0 = 0x63 ∧ boxB 0x53 = 0xed := by decide +kernel

/-- The first bytes of a slice. -/
theorem Rd.pre5 {w : World} {a : Option Addr} {n c : Nat} {l : List UInt8} (h : Rd w (.slice a n c) l) (k : Nat) (hk : k ≤ n) : Rd w (.slice a k c) (l.take k) := by
  obtain ⟨a', c', e, h1, h2, h3, h4⟩ := h
  simp only [Value.slice.injEq] at e
  obtain ⟨rfl, rfl, rfl⟩ := e
  have hl : (l.take k).length = k := by simp; omega
  refine ⟨a, c, by rw [hl], by omega, h2, h3, fun x hx i hi => ?_⟩
  rw [hl] at hi
  rw [h4 x hx i (by omega), List.getElem_take]
/-- Bytes of a text whose bytes are known. -/
theorem refBytes_at5 (s : ByteArray) (l : List UInt8) (w : World) (hs : s.size ≤ 1000000) (hl : byB s.data.toList = l ∧ byE s.data.toList = 0) (h16 : l.length = 16) :
    Calls Try.prog 22 #[.string s] w fun e w' => (∃ g c, e = .returned (.tuple #[.slice (some ⟨g, 0, none⟩) 16 c, .int .i64 0]) ∧ Rd w' (.slice (some ⟨g, 0, none⟩) 16 c) l ∧ 16 ≤ c ∧ c ≤ maxLen) ∧ Kp w w' := by
  refine (refBytes_any s w hs).mono ?_
  rintro e w' ⟨v, rfl, ho, hk⟩
  rw [hl.1] at ho
  obtain ⟨g, c, rfl, _, _, h1, h2⟩ := ow_some5 ho (by omega)
  have hr := ho.rd
  rw [hl.2]
  rw [h16] at hr h1 ⊢
  exact ⟨⟨g, c, rfl, hr, h1, h2⟩, hk⟩

set_option maxRecDepth 100000 in
set_option maxHeartbeats 4000000 in
theorem shownAes_any (w : World) : Calls Try.prog 9 #[] w fun e w' => e = .returned (.bool true) ∧ Kp w w' := by
  go_enter Try.func9, Try.ntmps9
  go_wp2_with fail
  refine (refBytes_at5 keyS key5 w (by decide) key_told rfl).mono ?_; rintro _ w1 ⟨⟨g1, c1, rfl, r1, p1, q1⟩, k1⟩
  go_wp2_with fail
  refine (refBytes_at5 blkS blk5 w1 (by decide) blk_told rfl).mono ?_; rintro _ w2 ⟨⟨g2, c2, rfl, r2, p2, q2⟩, k2⟩
  go_wp2_with fail
  refine (aesBlock_any _ _ key5 blk5 w2 (r1.kp k2) r2).mono ?_
  rw [blkR_shown.1, blkR_shown.2]
  rintro _ w3 ⟨⟨r, rfl, r3⟩, k3⟩
  go_wp2_with fail
  refine (aesKeys_any _ key5 w3 ((r1.kp k2).kp k3)).mono ?_
  rw [keyE_shown.1]
  rintro _ w4 ⟨⟨rk, rfl, r4⟩, k4⟩
  obtain ⟨a4, c4, rfl, _, _⟩ := r4.shape
  rw [keyE_shown.2]
  clear r4
  have i1 : (12 : Int) ≤ (c2 : Int) := by omega
  go_wp2_with fail
  have k34 := k3.trans k4
  refine (aesStream_any _ _ _ key5 (blk5.take 12) [1, 2, 3] _ (((r1.kp k2).kp k34).kp ((Kp.refl _).alloc _)) (((r2.kp k34).pre5 12 (by omega)).kp ((Kp.refl _).alloc _)) (Ow.lit w4 5 0 3 _ [1, 2, 3] (Nat.zero_le _) rfl (by decide) rfl).rd (by decide)).mono ?_
  rw [str_shown.1]
  rintro _ w5 ⟨⟨rs, rfl, r5⟩, k5⟩
  obtain ⟨a5, c5, rfl, _, _⟩ := r5.shape
  rw [str_shown.2]
  have k45 : Kp w4 w5 := ((Kp.refl w4).alloc _).trans k5
  have r3' := (r3.kp k4).kp k45
  have hk5 := ((k1.trans k2).trans k34).trans k45
  clear r5 k5 r1 r2 r3 k45 k34 k1 k2 k3 k4
  go_wp2_with fail
  refine (refText_any _ out5 _ r3' (by decide)).mono ?_
  rw [out_told]
  rintro e w6 ⟨rfl, k6⟩
  have m1 : Calls Try.prog 13 #[.int .u8 87, .int .u8 131] w6 fun e w' => e = .returned (.int .u8 193) ∧ w6 = w' := by
    have := aesMul_any 0x57 0x83 w6
    rw [mul_shown.1] at this
    exact this
  have b1 : ∀ W, Calls Try.prog 15 #[.int .u8 0] W fun e w' => e = .returned (.int .u8 99) ∧ Kp W w' := fun W => by
    have := aesBox_any 0 W
    rw [mul_shown.2.1] at this
    exact this
  have b2 : ∀ W, Calls Try.prog 15 #[.int .u8 83] W fun e w' => e = .returned (.int .u8 237) ∧ Kp W w' := fun W => by
    have := aesBox_any 0x53 W
    rw [mul_shown.2.2] at this
    exact this
  have B1 := Lib.hid b1
  have B2 := Lib.hid b2
  have M1 := Lib.hid m1
  clear b1 b2 m1 r3'
  go_wp2_with fail
  refine M1.out.mono ?_; rintro _ _ ⟨rfl, rfl⟩
  go_wp2_with fail
  refine (B1.out _).mono ?_; rintro _ w7 ⟨rfl, k7⟩
  go_wp2_with fail
  refine (B2.out _).mono ?_; rintro _ w8 ⟨rfl, k8⟩
  go_wp2_with fail
  go_ret
  exact ⟨rfl, ((hk5.trans k6).trans k7).trans k8⟩
end Go.Proofs.Ytfnkcdcbjcoefaa

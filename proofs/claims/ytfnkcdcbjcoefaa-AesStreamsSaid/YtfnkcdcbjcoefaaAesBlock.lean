/- aes.Block. -/
import Derived.Test.YtfnkcdcbjcoefaaAesLock
import Derived.Test.YtfnkcdcbjcoefaaCopyBlk
set_option linter.unusedVariables false
set_option linter.unusedSimpArgs false
namespace Go.Proofs.Ytfnkcdcbjcoefaa
open Go.RowKit

/-- What Block answers: its error, its bytes. -/
def blkE (key b : List UInt8) : Int := if key.length = 16 ∧ b.length = 16 then 0 else 1
def blkR (key b : List UInt8) : List UInt8 := if key.length = 16 ∧ b.length = 16 then lockL (keysL key) b else []
theorem Rd.nil (w : World) : Rd w (.slice none 0 0) [] := ⟨none, 0, rfl, Nat.le_refl _, Nat.zero_le _, fun _ => rfl, fun x hx => by cases hx⟩

set_option maxHeartbeats 1000000 in
theorem aesBlock_any (u v : Value) (key b : List UInt8) (w : World) (hu : Rd w u key) (hv : Rd w v b) :
    Calls Try.prog 17 #[u, v] w fun e w' => (∃ r, e = .returned (.tuple #[r, .int .i64 (blkE key b)]) ∧ Rd w' r (blkR key b)) ∧ Kp w w' := by
  have U := u8
  obtain ⟨a1, c1, rfl, h1, h2⟩ := hu.shape
  obtain ⟨a2, c2, rfl, h3, h4⟩ := hv.shape
  by_cases hk : key.length = 16
  · by_cases hb : b.length = 16
    · have e0 : blkE key b = 0 := if_pos ⟨hk, hb⟩
      have r0 : blkR key b = lockL (keysL key) b := if_pos ⟨hk, hb⟩
      rw [e0, r0]
      have HLL := lockL_length (keysL key) b
      have HKL := keysL_length hk
      rw [hk] at hu h1 ⊢
      rw [hb] at hv h3 ⊢
      have HB := Lib.hid hb
      have HU := Lib.hid hu
      have HV := Lib.hid hv
      clear e0 r0 hu hv
      go_enter Try.func17, Try.ntmps17
      go_wp2_with (refine wpList_copy_blk U rfl (.tmp 15) (.tmp 16) rfl 51 w.heap.size _ b (List.replicate 16 0) 16 16 rfl rfl (By.made _ _ _ _ rfl) (by decide) (HV.out.kp ((Kp.refl _).alloc _)) (by rw [HB.out]; exact Nat.le_refl _) ?_; intro w1 hB1 hbut)
      have hk1 : Kp w w1 := hbut.below ((Kp.refl w).alloc _) (Nat.le_refl _)
      have hs1 : w.heap.size < w1.heap.size := hB1.lt
      rw [HB.out, List.drop_eq_nil_of_le (by simp), List.append_nil] at hB1
      clear hbut
      refine (newCipher_any _ key w1 (HU.out.kp hk1) hk).mono ?_; rintro _ w2 ⟨⟨gc, bx, rfl, hC, hgc, hbx⟩, hk2⟩
      go_wp2_with fail
      refine (lock_any gc w.heap.size bx b (keysL key) w2 HB.out HKL (by omega) (by omega) hC (hB1.kp hk2)).mono ?_; rintro _ w3 ⟨rfl, hB3, hw3⟩
      have hk3 : Kp w w3 := Below.trans (show Below w.heap.size w w2 from hk1.trans hk2) (hw3.below (Nat.le_trans hk1.size hk2.size) (Nat.le_refl _))
      go_wp2_with fail
      go_ret2
      exact ⟨⟨_, rfl, hB3.rdAll (by rw [HLL]) (Nat.le_refl _) (by unfold maxLen; omega)⟩, hk3⟩
    · have e0 : blkE key b = 1 := if_neg (fun h => hb h.2)
      have r0 : blkR key b = [] := if_neg (fun h => hb h.2)
      rw [e0, r0]
      have hb2 : ((b.length : Int) == 16) = false := beq_eq_false_iff_ne.2 (by omega)
      have hb3 : ¬ (b.length : Int) = 16 := by omega
      rw [hk]
      go_enter Try.func17, Try.ntmps17
      go_wp2_with fail
      go_ret2
      exact ⟨⟨_, rfl, Rd.nil _⟩, Kp.refl _⟩
  · have e0 : blkE key b = 1 := if_neg (fun h => hk h.1)
    have r0 : blkR key b = [] := if_neg (fun h => hk h.1)
    rw [e0, r0]
    have hb2 : ((key.length : Int) == 16) = false := beq_eq_false_iff_ne.2 (by omega)
    have hb3 : ¬ (key.length : Int) = 16 := by omega
    go_enter Try.func17, Try.ntmps17
    go_wp2_with fail
    go_ret2
    exact ⟨⟨_, rfl, Rd.nil _⟩, Kp.refl _⟩
end Go.Proofs.Ytfnkcdcbjcoefaa

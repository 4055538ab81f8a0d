/- pyxlaw06.told: what is tagged; and that it tells its parts. -/
import Derived.Test.YtakaebedibgimaaSealRef
import Derived.Test.YtakaebedibgimaaKdfRef
set_option linter.unusedVariables false
set_option linter.unusedSimpArgs false
namespace Go.Proofs.Ytakaebedibgimaa
open Go.RowKit

theorem toldB_split (n a s : List UInt8) (ha : a.length ≤ 1000000) : toldB n a s = lenBytes a.length ++ (a ++ (n ++ s)) := by
  have h := (row_ok (x := a) (by omega)).1
  have e : rowB a = lenBytes a.length ++ a := by
    unfold rowB
    unfold rowE at *
    first
      | rw [if_pos h]
      | (rw [if_pos (by simpa [rowE] using h)])
  unfold toldB
  rw [e, List.append_assoc]
/-- Of parts of the same lengths what is tagged is the same just if these are. -/
theorem toldB_inj {n n' a a' s s' : List UInt8} (ha : a.length ≤ 1000000) (hn : n.length = n'.length) (haa : a.length = a'.length) (h : toldB n a s = toldB n' a' s') : n = n' ∧ a = a' ∧ s = s' := by
  rw [toldB_split _ _ _ ha, toldB_split _ _ _ (by omega), ← haa] at h
  have h1 := List.append_cancel_left h
  obtain ⟨h2, h3⟩ := List.append_inj h1 haa
  obtain ⟨h4, h5⟩ := List.append_inj h3 hn
  exact ⟨h4, h2, h5⟩

set_option maxHeartbeats 1000000 in
theorem told_any (u2 u3 u4 : Value) (nonce aad b : List UInt8) (w : World) (h2 : Rd w u2 nonce) (h3 : Rd w u3 aad) (h4 : Rd w u4 b) (hl : nonce.length + aad.length + b.length ≤ 1800) :
    Calls Try.prog 18 #[u2, u3, u4] w fun e w' => (∃ r, e = .returned r ∧ Rd w' r (toldB nonce aad b)) ∧ Kp w w' := by
  have U := u8
  obtain ⟨a2, n2, c2, rfl⟩ := h2.sl
  obtain ⟨a4, n4, c4, rfl⟩ := h4.sl
  have hrow := (row_ok (x := aad) (by omega)).1
  have hlen := row_len (x := aad) (by omega)
  have hle := lenBytes_le aad.length
  have HROW := Lib.hid (refRow_any u3 aad w h3)
  rw [hrow] at HROW
  have HF : Hid ((rowB aad ++ nonce) ++ b = toldB nonce aad b) := by simp [Hid, toldB]
  have hrl : (rowB aad).length + nonce.length + b.length ≤ 1900 := by omega
  have HRL := Lib.hid hrl
  clear hrow hlen hle hrl
  go_enter Try.func18, Try.ntmps18
  go_wp2_with fail
  refine HROW.out.mono ?_; rintro _ w1 ⟨v1, rfl, r1, k1⟩
  have r2 := h2.kp k1
  have hs1 := k1.size
  clear h2 h3 HROW
  go_wp2_with (at_builtin; first
    | (refine wpList_append_ow (o := ⟨some 16, _, _, _, _, _⟩) U rfl _ _ rfl w.heap.size v1 (rowB aad) rfl r1 _ nonce rfl r2 (by have := HRL.out; omega) k1.size ?_; intro v4 w4 ho4 hg4 _; have k4 : Kp w w4 := Kp.grown k1 hg4 r1.own_ge; have r4' := h4.kp k4)
    | (refine wpList_append_ow (o := ⟨some 18, _, _, _, _, _⟩) U rfl _ _ rfl w.heap.size v4 (rowB aad ++ nonce) rfl ho4 _ b rfl r4' (by have := HRL.out; simp; omega) k4.size ?_; intro v7 w7 ho7 hg7 _; have k7 : Kp w w7 := Kp.grown k4 hg7 ho4.own_ge; rw [HF.out] at ho7))
  go_ret
  exact ⟨⟨_, rfl, ho7.rd⟩, k7⟩
end Go.Proofs.Ytakaebedibgimaa

/- Sealed bytes with a byte changed: plain. -/
set_option linter.unusedVariables false
set_option linter.unusedSimpArgs false
namespace Go.Proofs.Ytakaebedibgimaa
open Go.RowKit

theorem xor_ne (x y : UInt8) (h : y ≠ 0) : x ^^^ y ≠ x := fun e => h (by
  have := xor_same (x := y) (y := 0) x (by rw [e, UInt8.xor_zero])
  exact this)
/-- What Open answers, where key and nonce are of the lengths and there is a tag. -/
theorem openE_two {key nonce aad b : List UInt8} (h : okK key nonce) (hb : 32 ≤ b.length) : openE key nonce aad b = 0 ∨ openE key nonce aad b = 5 ∧ openR key nonce aad b = [] := by
  by_cases ht : tagB key nonce aad (b.take (b.length - 32)) = b.drop (b.length - 32)
  · left
    unfold openE
    rw [if_pos h, if_neg (by omega), if_pos ht]
  · right
    have e : openE key nonce aad b = 5 := by
      unfold openE
      rw [if_pos h, if_neg (by omega), if_neg ht]
    refine ⟨e, ?_⟩
    unfold openR
    rw [e, if_neg (by decide)]
theorem openE_zero {key nonce aad b : List UInt8} (h : openE key nonce aad b = 0) : okK key nonce ∧ 32 ≤ b.length ∧ tagB key nonce aad (b.take (b.length - 32)) = b.drop (b.length - 32) := by
  unfold openE at h
  by_cases hk : okK key nonce
  · rw [if_pos hk] at h
    by_cases hl : b.length < 32
    · rw [if_pos hl] at h; cases h
    · rw [if_neg hl] at h
      by_cases ht : tagB key nonce aad (b.take (b.length - 32)) = b.drop (b.length - 32)
      · exact ⟨hk, by omega, ht⟩
      · rw [if_neg ht] at h; cases h
  · rw [if_neg hk] at h; cases h

/-- A byte of a nonce, of what bytes belong to, or of sealed bytes, changed: where Open takes them, two rows that aren't the same have the same tag. -/
theorem spoilt {key nonce aad b : List UInt8} (hk : okK key nonce) (ha : aad.length ≤ 1000000) (i : Nat) (c : UInt8) (hc : c ≠ 0) (A : List UInt8) (hA : A = nonce ++ (aad ++ sealB key nonce aad b)) (hi : i < A.length)
    (A' : List UInt8) (hA' : A' = A.set i (A.getD i 0 ^^^ c))
    (h : openE key (A'.take 12) ((A'.drop 12).take aad.length) (A'.drop (12 + aad.length)) = 0) :
    toldB nonce aad ((sealB key nonce aad b).take b.length) ≠ toldB (A'.take 12) ((A'.drop 12).take aad.length) ((A'.drop (12 + aad.length)).take b.length) ∧
    macB (halfT key) (toldB nonce aad ((sealB key nonce aad b).take b.length)) = macB (halfT key) (toldB (A'.take 12) ((A'.drop 12).take aad.length) ((A'.drop (12 + aad.length)).take b.length)) := by
  obtain ⟨p1, p2⟩ := sealB_parts key nonce aad b
  have hx := sealB_length key nonce aad b
  generalize sealB key nonce aad b = x at *
  rw [← p1] at p2
  have hn := hk.2
  have hAl : A.length = 12 + aad.length + b.length + 32 := by rw [hA, List.length_append, List.length_append]; omega
  have hAl' : A'.length = A.length := by rw [hA', List.length_set]
  obtain ⟨_, _, ht⟩ := openE_zero h
  have hyl : (A'.drop (12 + aad.length)).length - 32 = b.length := by rw [List.length_drop]; omega
  rw [hyl] at ht
  have q1 : A.take 12 = nonce := by rw [hA, List.take_append_of_le_length (by omega), List.take_of_length_le (by omega)]
  have q0 : A.drop 12 = aad ++ x := by rw [hA, List.drop_append_of_le_length (by omega), List.drop_eq_nil_of_le (by omega), List.nil_append]
  have q2 : (A.drop 12).take aad.length = aad := by rw [q0, List.take_append_of_le_length (by omega), List.take_of_length_le (by omega)]
  have q3 : A.drop (12 + aad.length) = x := by rw [← List.drop_drop, q0, List.drop_append_of_le_length (by omega), List.drop_eq_nil_of_le (by omega), List.nil_append]
  have hne : A' ≠ A := fun e => by
    have e2 : A'.getD i 0 = A.getD i 0 := by rw [e]
    rw [hA', List.getD_eq_getElem?_getD, List.getElem?_set_self (by omega)] at e2
    exact xor_ne _ _ hc e2
  have hne2 : toldB nonce aad (x.take b.length) ≠ toldB (A'.take 12) ((A'.drop 12).take aad.length) ((A'.drop (12 + aad.length)).take b.length) := fun e => by
    have e0 := e
    obtain ⟨e1, e2, e3⟩ := toldB_inj ha (by rw [List.length_take]; omega) (by rw [List.length_take, List.length_drop]; omega) e
    unfold tagB at ht p2
    rw [← e0, ← p2] at ht
    apply hne
    have y1 : A'.drop (12 + aad.length) = x := by
      rw [← List.take_append_drop b.length (A'.drop (12 + aad.length)), ← e3, ← ht, List.take_append_drop]
    have y2 : A'.drop 12 = aad ++ x := by
      rw [← List.take_append_drop aad.length (A'.drop 12), ← e2, List.drop_drop, y1]
    rw [← List.take_append_drop 12 A', ← e1, y2, hA]
  refine ⟨hne2, ?_⟩
  by_cases hl : i < 12 + aad.length + b.length
  · have z : (A'.drop (12 + aad.length)).drop b.length = x.drop b.length := by
      rw [← q3, List.drop_drop, List.drop_drop, hA', List.drop_set_of_lt (by omega)]
    unfold tagB at ht p2
    rw [ht, z, p2]
  · exfalso
    apply hne2
    have z : A'.take (12 + aad.length + b.length) = A.take (12 + aad.length + b.length) := by
      rw [hA', List.take_set_of_le (by omega)]
    have z1 : A'.take 12 = nonce := by
      have := congrArg (List.take 12) z
      rw [List.take_take, List.take_take, Nat.min_eq_left (by omega), q1] at this
      exact this
    have z2 : (A'.drop 12).take aad.length = aad := by
      have := congrArg (fun l => (l.drop 12).take aad.length) z
      simp only [List.drop_take, List.take_take] at this
      rw [Nat.min_eq_left (by omega), q2] at this
      exact this
    have z3 : (A'.drop (12 + aad.length)).take b.length = x.take b.length := by
      have := congrArg (fun l => l.drop (12 + aad.length)) z
      simp only [List.drop_take] at this
      rw [Nat.add_sub_cancel_left, q3] at this
      exact this
    rw [z1, z2, z3]
end Go.Proofs.Ytakaebedibgimaa

/- The document's example of layer 6: plain. -/
set_option linter.unusedVariables false
set_option linter.unusedSimpArgs false
namespace Go.Proofs.Ytakaebedibgimaa
open Go.RowKit

def key6 : List UInt8 := List.replicate 32 0
def nonce6 : List UInt8 := List.replicate 12 0
def half6 : List UInt8 := [198, 96, 135, 25, 128, 51, 104, 110, 9, 213, 53, 3, 210, 78, 25, 150, 104, 114, 104, 195, 179, 157, 142, 126, 199, 169, 153, 242, 160, 222, 53, 80]
theorem ok6 : okK key6 nonce6 := ⟨rfl, rfl⟩
theorem half6_shown : halfT key6 = half6 := by decide +kernel
theorem lock6_shown : lockedB key6 nonce6 [2, 3] = [83, 144] := by decide +kernel
theorem tag6_shown : macB half6 (toldB nonce6 [1] [83, 144]) = [175, 6, 23, 213, 58, 93, 202, 90, 74, 115, 140, 176, 156, 79, 138, 220, 94, 125, 75, 239, 44, 23, 39, 40, 226, 97, 213, 29, 221, 171, 160, 193] := by decide +kernel
theorem tag6_other : macB half6 (toldB nonce6 [2] [83, 144]) = [158, 246, 169, 255, 245, 171, 184, 197, 213, 237, 232, 172, 151, 162, 158, 56, 48, 30, 210, 197, 185, 103, 42, 239, 1, 39, 69, 44, 59, 78, 189, 124] := by decide +kernel
/-- Opened for other bytes: refused. -/
theorem open6_shown : openE key6 nonce6 [2] (sealB key6 nonce6 [1] [2, 3]) = 5 := by
  have hl := sealB_length key6 nonce6 [1] [2, 3]
  obtain ⟨p1, p2⟩ := sealB_parts key6 nonce6 [1] [2, 3]
  have e : (sealB key6 nonce6 [1] [2, 3]).length - 32 = [2, 3].length (α := UInt8) := by rw [hl, Nat.add_sub_cancel]
  unfold openE
  rw [if_pos ok6, if_neg (by omega), e, p1, p2, if_neg]
  unfold tagB
  rw [half6_shown, lock6_shown, tag6_shown, tag6_other]
  decide
theorem at6_shown : atE nonce6 258 = 0 ∧ atR nonce6 258 = [0, 0, 0, 0, 0, 0, 0, 0, 0, 0, 1, 2] := by decide +kernel
theorem hal6_shown : halE key6 = 0 ∧ (halA key6).length = 16 ∧ (halB key6).length = 32 := ⟨rfl, halfL_length key6, halfT_length key6⟩
theorem seal6_shown (aad b : List UInt8) : sealE key6 nonce6 = 0 ∧ sealR key6 nonce6 aad b = sealB key6 nonce6 aad b := ⟨rfl, if_pos ok6⟩
end Go.Proofs.Ytakaebedibgimaa

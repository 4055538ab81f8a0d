/- Rows, and what may lack: byt's, and the document's own answers. -/
import Derived.Test.YtpaopnjknpoacaaTakeLen
namespace Go.Proofs.Ytpaopnjknpoacaa
open Go.RowKit

set_option maxHeartbeats 400000 in
theorem refLen_any (n : Int) (w : World) :
    Calls Try.prog 18 #[.int .i64 n] w fun e w' => ∃ v, e = .returned (.tuple #[v, .int .i64 (lenE n)]) ∧ Ow 5 w' w.heap.size v (lenB n) ∧ Kp w w' := by
  by_cases h1 : n < 0
  · have d1 : decide (n < 0) = true := by simp [h1]
    have e1 : lenE n = 1 := if_pos (.inl h1)
    have e2 : lenB n = [] := by simp [lenB, e1]
    rw [e1, e2]
    clear e1 e2
    go_enter Try.func18, Try.ntmps18
    go_wp2_with fail
    go_ret2
    exact ⟨_, rfl, Ow.nil _ _ _, Kp.refl _⟩
  · have d1 : decide (n < 0) = false := by simp [h1]
    by_cases h2 : 1073741823 < n
    · have d2 : decide (1073741823 < n) = true := by simp [h2]
      have e1 : lenE n = 1 := if_pos (.inr h2)
      have e2 : lenB n = [] := by simp [lenB, e1]
      rw [e1, e2]
      clear e1 e2
      go_enter Try.func18, Try.ntmps18
      go_wp2_with fail
      go_ret2
      exact ⟨_, rfl, Ow.nil _ _ _, Kp.refl _⟩
    · have d2 : decide (1073741823 < n) = false := by simp [h2]
      obtain ⟨n, rfl⟩ := Int.eq_ofNat_of_zero_le (show 0 ≤ n by omega)
      have e1 : lenE n = 0 := if_neg (by omega)
      have e2 : lenB n = lenBytes n := by simp [lenB, e1]
      rw [e1, e2]
      clear e1 e2
      by_cases h3 : n < 64
      · have HE := Lib.hid (show lenBytes n = be 1 n by simp [lenBytes, h3])
        go_enter Try.func18, Try.ntmps18
        go_wp2_with fail
        go_ret2
        rw [HE.out]
        exact ⟨_, rfl, Ow.lit w _ _ _ _ _ (Nat.le_refl _) rfl (by omega) (by simp [Lib.byteCells, be]; omega), (Kp.refl _).alloc _⟩
      · by_cases h4 : n < 16384
        · have HE := Lib.hid (show lenBytes n = be 2 (n + 16384) by simp [lenBytes, h3, h4])
          go_enter Try.func18, Try.ntmps18
          go_wp2_with fail
          go_ret2
          rw [HE.out]
          refine ⟨_, rfl, Ow.lit w _ _ _ _ _ (Nat.le_refl _) rfl (by omega) ?_, (Kp.refl _).alloc _⟩
          simp [Lib.byteCells, be]
          omega
        · have HE := Lib.hid (show lenBytes n = be 4 (n + 2147483648) by simp [lenBytes, h3, h4])
          have HN := Lib.hid (num_yes (n := (2147483648 + n : Int)) (w := 4) ⟨by omega, by omega, by omega, by rw [show (256 : Int) ^ (4 : Int).toNat = 4294967296 from by decide]; omega⟩)
          go_enter Try.func18, Try.ntmps18
          go_wp2_with (go_at_call 13; refine (refNum_any _ _ _ (by omega)).mono ?_; rintro e w' ⟨v, rfl, ho, hk⟩; obtain ⟨h1, h2⟩ := HN.out; rw [h1]; rw [h2] at ho; clear h1 h2)
          go_ret2
          rw [HE.out]
          refine ⟨_, rfl, ?_, hk⟩
          rw [show (2147483648 + (n : Int)).toNat = n + 2147483648 from by omega] at ho
          exact ho

/-- append(head, x...), and what stays. -/
theorem row_end {w w1 w2 : World} {v : Value} {v' : Value} {l x : List UInt8} (ho : Ow 5 w1 w.heap.size v l) (hk : Kp w w1) (hg : w1.grownBy w2 v.ownBlock) : Kp w w2 :=
  Kp.grown hk hg ho.own_ge

theorem lenBytes_le (n : Nat) : (lenBytes n).length ≤ 4 := by
  unfold lenBytes
  split
  · rw [be_length]; omega
  · split <;> (rw [be_length]; omega)

set_option maxHeartbeats 400000 in
theorem row_any (v : Value) (l : List UInt8) (w : World) (h : Rd w v l) :
    Calls Try.prog 21 #[v] w fun e w' => ∃ u, e = .returned (.tuple #[u, .int .i64 (rowE l)]) ∧ Ow 5 w' w.heap.size u (rowB l) ∧ Kp w w' := by
  have U := u8
  obtain ⟨a, c, rfl, hc, hm⟩ := h.shape
  by_cases h1 : 1073741823 < l.length
  · have e0 : lenE l.length = 1 := if_pos (.inr (by omega))
    have e1 : rowE l = 1 := e0
    have e2 : rowB l = [] := by simp [rowB, e1]
    rw [e1, e2]
    have E0 := Lib.hid e0
    clear e0 e1 e2
    go_enter Try.func21, Try.ntmps21
    go_wp2_with (go_at_call 17; refine (len_any _ _).mono ?_; rintro e w1 ⟨u, rfl, ho, hk⟩; rw [E0.out])
    go_ret2
    exact ⟨_, rfl, Ow.nil _ _ _, hk⟩
  · have e0 : lenE l.length = 0 := if_neg (by omega)
    have e1 : rowE l = 0 := e0
    have e2 : rowB l = lenBytes l.length ++ l := by simp [rowB, e1]
    have e3 : lenB l.length = lenBytes l.length := by simp [lenB, e0]
    rw [e1, e2]
    have E0 := Lib.hid e0
    have E3 := Lib.hid e3
    clear e0 e1 e2 e3
    go_enter Try.func21, Try.ntmps21
    go_wp2_with (first
      | (go_at_call 17; refine (len_any _ _).mono ?_; rintro e w1 ⟨u, rfl, ho, hk⟩; rw [E0.out]; rw [E3.out] at ho)
      | (at_builtin; refine wpList_append_ow U rfl _ _ rfl w.heap.size _ _ rfl ho _ l rfl (h.kp hk) ?c1 hk.size ?_; rotate_right; intro v' w2 ho2 hg _))
    case c1 => have := lenBytes_le l.length; omega
    go_ret2
    exact ⟨_, rfl, ho2, Kp.grown hk hg ho.own_ge⟩

set_option maxHeartbeats 400000 in
theorem refRow_any (v : Value) (l : List UInt8) (w : World) (h : Rd w v l) :
    Calls Try.prog 22 #[v] w fun e w' => ∃ u, e = .returned (.tuple #[u, .int .i64 (rowE l)]) ∧ Ow 5 w' w.heap.size u (rowB l) ∧ Kp w w' := by
  have U := u8
  obtain ⟨a, c, rfl, hc, hm⟩ := h.shape
  by_cases h1 : 1073741823 < l.length
  · have e0 : lenE l.length = 1 := if_pos (.inr (by omega))
    have e1 : rowE l = 1 := e0
    have e2 : rowB l = [] := by simp [rowB, e1]
    rw [e1, e2]
    have E0 := Lib.hid e0
    clear e0 e1 e2
    go_enter Try.func22, Try.ntmps22
    go_wp2_with (go_at_call 18; refine (refLen_any _ _).mono ?_; rintro e w1 ⟨u, rfl, ho, hk⟩; rw [E0.out])
    go_ret2
    exact ⟨_, rfl, Ow.nil _ _ _, hk⟩
  · have e0 : lenE l.length = 0 := if_neg (by omega)
    have e1 : rowE l = 0 := e0
    have e2 : rowB l = lenBytes l.length ++ l := by simp [rowB, e1]
    have e3 : lenB l.length = lenBytes l.length := by simp [lenB, e0]
    rw [e1, e2]
    have E0 := Lib.hid e0
    have E3 := Lib.hid e3
    clear e0 e1 e2 e3
    go_enter Try.func22, Try.ntmps22
    go_wp2_with (first
      | (go_at_call 18; refine (refLen_any _ _).mono ?_; rintro e w1 ⟨u, rfl, ho, hk⟩; rw [E0.out]; rw [E3.out] at ho)
      | (at_builtin; refine wpList_append_ow U rfl _ _ rfl w.heap.size _ _ rfl ho _ l rfl (h.kp hk) ?c1 hk.size ?_; rotate_right; intro v' w2 ho2 hg _))
    case c1 => have := lenBytes_le l.length; omega
    go_ret2
    exact ⟨_, rfl, ho2, Kp.grown hk hg ho.own_ge⟩
end Go.Proofs.Ytpaopnjknpoacaa

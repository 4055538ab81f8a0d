import Derived.Test.YtigpgcjbpoaclaaGreatDoorB2
import Derived.Test.YtigpgcjbpoaclaaGreatDoorB17
import Derived.Test.YtigpgcjbpoaclaaGreatDoorB19
import Derived.Test.YtigpgcjbpoaclaaGreatDoorB20
import Derived.Test.YtigpgcjbpoaclaaGreatDoorB22
import Derived.Test.YtigpgcjbpoaclaaGreatDoorB23
import Derived.Deep.QuietTactic
import Derived.BigQuiet
import Derived.Lib.ConvBytes
set_option linter.unusedVariables false
set_option linter.unusedSimpArgs false
namespace Go.Proofs.YtigpgcjbpoaclaaGreatDoor
open Go.RowKit
theorem mark0 (n : Int) (w : World) (h : n < 64) :
    Calls Tryz.prog 86 #[.int .i64 n] w fun e w' => e = .returned (.int .i64 0) ∧ w = w' := by
  go_enter Tryz.func86, Tryz.ntmps86
  go_wp2
  go_ret
  exact ⟨rfl, rfl⟩
theorem mark1 (n : Int) (w : World) (h0 : 64 ≤ n) (h : n < 16384) :
    Calls Tryz.prog 86 #[.int .i64 n] w fun e w' => e = .returned (.int .i64 1) ∧ w = w' := by
  go_enter Tryz.func86, Tryz.ntmps86
  go_wp2
  go_ret
  exact ⟨rfl, rfl⟩
theorem mark2 (n : Int) (w : World) (h0 : 16384 ≤ n) :
    Calls Tryz.prog 86 #[.int .i64 n] w fun e w' => e = .returned (.int .i64 2) ∧ w = w' := by
  go_enter Tryz.func86, Tryz.ntmps86
  go_wp2
  go_ret
  exact ⟨rfl, rfl⟩
theorem u8_or_high (x m : Int) (h0 : 0 ≤ x) (h1 : x < 64) (hm : m = 0 ∨ m = 64 ∨ m = 128) : bits .or .u8 x m = x + m := by
  have hc : bits .or .u8 x m = bits .or .u8 m x := by simp only [bits, BitVec.or_comm]
  rw [hc, bits_join .u8 8 (by decide) wraps_u8 6 m x (by omega) (by omega) (by omega) h0 (by omega) (by omega)]
  omega
theorem be_raise (k n m : Nat) (h : n / 256 ^ k + m < 256) : be (k + 1) (n + m * 256 ^ k) = UInt8.ofNat (n / 256 ^ k + m) :: be k n := by
  rw [be_cons, Nat.add_mul_div_right _ _ (Nat.pow_pos (by decide))]
  congr 1
  have h2 : ∀ k n m, be k (n + m * 256 ^ k) = be k n := by
    intro k
    induction k with
    | zero => intro n m; rfl
    | succ k ih =>
      intro n m
      rw [be, be, show n + m * 256 ^ (k + 1) = n + 256 * (m * 256 ^ k) from by rw [Nat.pow_succ, ← Nat.mul_assoc, Nat.mul_comm 256],
        Nat.add_mul_div_left _ _ (by decide), ih]
      congr 2
      apply UInt8.toNat_inj.1
      simp
  exact h2 k n m
theorem Ow.set0 {w : World} {B : Nat} {v : Value} {k' n' : Nat} (h : Ow 5 w B v (be k' n')) (k n m : Nat) (hm : n / 256 ^ k + m < 256) (hk : k' = k + 1 := by rfl) (hn : n' = n := by first | rfl | simp) :
    ∃ g c, v = .slice (some ⟨g, 0, none⟩) (k + 1) c ∧ B ≤ g ∧ w.cell? ⟨g, 0, none⟩ = some (.int .u8 ((n / 256 ^ k : Nat) : Int)) ∧ w.frozen? ⟨g, 0, none⟩ = false ∧
      Ow 5 (w.setCell ⟨g, 0, none⟩ (.int .u8 ((n / 256 ^ k + m : Nat) : Int))) B v (be (k + 1) (n + m * 256 ^ k)) := by
  subst hk hn
  rcases h.shape with ⟨_, h0⟩ | ⟨g, c, rfl, hg, _, hc, hcm⟩
  · have := congrArg List.length h0
    rw [be_length] at this
    simp at this
  · have hl : (be (k + 1) n').length = k + 1 := be_length _ _
    refine ⟨g, c, by rw [hl], hg, ?_, h.frozenAt 0, ?_⟩
    · rw [h.cellAt 0 (by rw [hl]; omega), be_cons]
      have : n' / 256 ^ k % 256 = n' / 256 ^ k := Nat.mod_eq_of_lt (by omega)
      simp [Lib.byteCells, this]
    · have h2 := (h.stored 0 (.int .u8 ((n' / 256 ^ k + m : Nat) : Int))).1
      unfold Ow
      rw [be_length, be_raise k n' m hm]
      rw [be_length, be_cons] at h2
      generalize n' / 256 ^ k = q at *
      have : (q + m) % 256 = q + m := Nat.mod_eq_of_lt hm
      have e : Lib.byteCells (UInt8.ofNat (q + m) :: be k n') = (Lib.byteCells (UInt8.ofNat q :: be k n')).set 0 (.int .u8 ((q + m : Nat) : Int)) := by
        simp only [Lib.byteCells, List.map_cons, List.set_cons_zero, UInt8.toNat_ofNat', Nat.reducePow, this]
      rw [e, List.length_cons, be_length]
      exact h2
theorem highestFirst_int (n k : Int) (w : World) (h0 : 0 ≤ n) (h1 : 1 ≤ k) (h7 : k ≤ 7) :
    Calls Tryz.prog 75 #[.int .i64 n, .int .i64 k] w fun e w' => ∃ v, e = .returned v ∧ Ow 5 w' w.heap.size v (be k.toNat n.toNat) ∧ Kp w w' := by
  obtain ⟨k, rfl⟩ := Int.eq_ofNat_of_zero_le (show 0 ≤ k by omega)
  exact highestFirst_any n k w h0 (by omega) (by omega)
set_option maxHeartbeats 400000 in
theorem len_any (n : Int) (w : World) :
    Calls Tryz.prog 79 #[.int .i64 n] w fun e w' => ∃ v, e = .returned (.tuple #[v, .int .i64 (lenE n)]) ∧ Ow 5 w' w.heap.size v (lenB n) ∧ Kp w w' := by
  by_cases h1 : n < 0
  · have d1 : decide (n < 0) = true := by simp [h1]
    have e1 : lenE n = 1 := if_pos (.inl h1)
    have e2 : lenB n = [] := by simp [lenB, e1]
    rw [e1, e2]
    clear e1 e2
    go_enter Tryz.func79, Tryz.ntmps79
    go_wp2_with fail
    go_ret2
    exact ⟨_, rfl, Ow.nil _ _ _, Kp.refl _⟩
  · have d1 : decide (n < 0) = false := by simp [h1]
    by_cases h2 : 1073741823 < n
    · have d2 : decide (1073741823 < n) = true := by simp [h2]
      have e1 : lenE n = 1 := if_pos (.inr h2)
      have e2 : lenB n = [] := by simp [lenB, e1]
      rw [e1, e2]
      clear e1 e2
      go_enter Tryz.func79, Tryz.ntmps79
      go_wp2_with fail
      go_ret2
      exact ⟨_, rfl, Ow.nil _ _ _, Kp.refl _⟩
    · have d2 : decide (1073741823 < n) = false := by simp [h2]
      obtain ⟨n, rfl⟩ := Int.eq_ofNat_of_zero_le (show 0 ≤ n by omega)
      have e1 : lenE n = 0 := if_neg (by omega)
      have e2 : lenB n = lenBytes n := by simp [lenB, e1]
      rw [e1, e2]
      clear e1 e2
      by_cases h3 : n < 64
      · have HE : Hid (lenBytes n = be 1 (n + 0 * 256 ^ 0)) := by show lenBytes n = be 1 (n + 0 * 256 ^ 0); simp [lenBytes, h3]
        have hor : bits .or .u8 (n : Int) 0 = n := by rw [u8_or_high _ _ (by omega) (by omega) (by omega)]; omega
        go_enter Tryz.func79, Tryz.ntmps79
        go_wp2_with (first | (go_at_call 86; refine (mark0 _ _ (by omega)).mono ?_; rintro e w' ⟨rfl, rfl⟩) | (go_at_call 75; refine (highestFirst_int _ 1 _ (by omega) (by omega) (by omega)).mono ?_; rintro e w1 ⟨v, rfl, ho, hk⟩; obtain ⟨g, c, rfl, hg, hcell, hfr, ho2⟩ := ho.set0 0 n 0 (by simp; omega); simp at hcell))
        go_ret2
        refine ⟨_, rfl, ?_, Below.setCell hk hg _⟩
        rw [HE.out]
        simpa using ho2
      · by_cases h4 : n < 16384
        · have HE : Hid (lenBytes n = be 2 (n + 64 * 256 ^ 1)) := by show lenBytes n = be 2 (n + 64 * 256 ^ 1); simp [lenBytes, h3, h4]
          have hor : bits .or .u8 ((n : Int) / 256) 64 = (n : Int) / 256 + 64 := u8_or_high _ _ (by omega) (by omega) (by omega)
          go_enter Tryz.func79, Tryz.ntmps79
          go_wp2_with (first | (go_at_call 86; refine (mark1 _ _ (by omega) (by omega)).mono ?_; rintro e w' ⟨rfl, rfl⟩) | (go_at_call 75; refine (highestFirst_int _ 2 _ (by omega) (by omega) (by omega)).mono ?_; rintro e w1 ⟨v, rfl, ho, hk⟩; obtain ⟨g, c, rfl, hg, hcell, hfr, ho2⟩ := ho.set0 1 n 64 (by omega); simp at hcell))
          go_ret2
          refine ⟨_, rfl, ?_, Below.setCell hk hg _⟩
          rw [HE.out]
          simpa using ho2
        · have HE : Hid (lenBytes n = be 4 (n + 128 * 256 ^ 3)) := by show lenBytes n = be 4 (n + 128 * 256 ^ 3); simp [lenBytes, h3, h4]
          have hor : bits .or .u8 ((n : Int) / 16777216) 128 = (n : Int) / 16777216 + 128 := u8_or_high _ _ (by omega) (by omega) (by omega)
          go_enter Tryz.func79, Tryz.ntmps79
          go_wp2_with (first | (go_at_call 86; refine (mark2 _ _ (by omega)).mono ?_; rintro e w' ⟨rfl, rfl⟩) | (go_at_call 75; refine (highestFirst_int _ 4 _ (by omega) (by omega) (by omega)).mono ?_; rintro e w1 ⟨v, rfl, ho, hk⟩; obtain ⟨g, c, rfl, hg, hcell, hfr, ho2⟩ := ho.set0 3 n 128 (by omega); simp at hcell))
          go_ret2
          refine ⟨_, rfl, ?_, Below.setCell hk hg _⟩
          rw [HE.out]
          simpa using ho2
def TL (l : List UInt8) (at' : Int) (w : World) (e : Ending) (w' : World) : Prop :=
  e = .returned (.tuple #[.int .i64 (tlN l at'), .int .i64 (tlP l at'), .int .i64 (tlE l at')]) ∧ Kp w w'
set_option maxHeartbeats 400000 in
theorem refLen_any (n : Int) (w : World) :
    Calls Tryz.prog 72 #[.int .i64 n] w fun e w' => ∃ v, e = .returned (.tuple #[v, .int .i64 (lenE n)]) ∧ Ow 5 w' w.heap.size v (lenB n) ∧ Kp w w' := by
  by_cases h1 : n < 0
  · have d1 : decide (n < 0) = true := by simp [h1]
    have e1 : lenE n = 1 := if_pos (.inl h1)
    have e2 : lenB n = [] := by simp [lenB, e1]
    rw [e1, e2]
    clear e1 e2
    go_enter Tryz.func72, Tryz.ntmps72
    go_wp2_with fail
    go_ret2
    exact ⟨_, rfl, Ow.nil _ _ _, Kp.refl _⟩
  · have d1 : decide (n < 0) = false := by simp [h1]
    by_cases h2 : 1073741823 < n
    · have d2 : decide (1073741823 < n) = true := by simp [h2]
      have e1 : lenE n = 1 := if_pos (.inr h2)
      have e2 : lenB n = [] := by simp [lenB, e1]
      rw [e1, e2]
      clear e1 e2
      go_enter Tryz.func72, Tryz.ntmps72
      go_wp2_with fail
      go_ret2
      exact ⟨_, rfl, Ow.nil _ _ _, Kp.refl _⟩
    · have d2 : decide (1073741823 < n) = false := by simp [h2]
      obtain ⟨n, rfl⟩ := Int.eq_ofNat_of_zero_le (show 0 ≤ n by omega)
      have e1 : lenE n = 0 := if_neg (by omega)
      have e2 : lenB n = lenBytes n := by simp [lenB, e1]
      rw [e1, e2]
      clear e1 e2
      by_cases h3 : n < 64
      · have HE := Lib.hid (show lenBytes n = be 1 n by simp [lenBytes, h3])
        go_enter Tryz.func72, Tryz.ntmps72
        go_wp2_with fail
        go_ret2
        rw [HE.out]
        exact ⟨_, rfl, Ow.lit w _ _ _ _ _ (Nat.le_refl _) rfl (by omega) (by simp [Lib.byteCells, be]; omega), (Kp.refl _).alloc _⟩
      · by_cases h4 : n < 16384
        · have HE := Lib.hid (show lenBytes n = be 2 (n + 16384) by simp [lenBytes, h3, h4])
          go_enter Tryz.func72, Tryz.ntmps72
          go_wp2_with fail
          go_ret2
          rw [HE.out]
          refine ⟨_, rfl, Ow.lit w _ _ _ _ _ (Nat.le_refl _) rfl (by omega) ?_, (Kp.refl _).alloc _⟩
          simp [Lib.byteCells, be]
          omega
        · have HE := Lib.hid (show lenBytes n = be 4 (n + 2147483648) by simp [lenBytes, h3, h4])
          have HN := Lib.hid (num_yes (n := (2147483648 + n : Int)) (w := 4) ⟨by omega, by omega, by omega, by rw [show (256 : Int) ^ (4 : Int).toNat = 4294967296 from by decide]; omega⟩)
          go_enter Tryz.func72, Tryz.ntmps72
          go_wp2_with (go_at_call 48; refine (refNum_any _ _ _ (by omega)).mono ?_; rintro e w' ⟨v, rfl, ho, hk⟩; obtain ⟨h1, h2⟩ := HN.out; rw [h1]; rw [h2] at ho; clear h1 h2)
          go_ret2
          rw [HE.out]
          refine ⟨_, rfl, ?_, hk⟩
          rw [show (2147483648 + (n : Int)).toNat = n + 2147483648 from by omega] at ho
          exact ho
theorem lenBytes_le (n : Nat) : (lenBytes n).length ≤ 4 := by
  unfold lenBytes
  split
  · rw [be_length]; omega
  · split <;> (rw [be_length]; omega)
set_option maxHeartbeats 400000 in
theorem row_any (v : Value) (l : List UInt8) (w : World) (h : Rd w v l) :
    Calls Tryz.prog 78 #[v] w fun e w' => ∃ u, e = .returned (.tuple #[u, .int .i64 (rowE l)]) ∧ Ow 5 w' w.heap.size u (rowB l) ∧ Kp w w' := by
  have U := u8
  obtain ⟨a, c, rfl, hc, hm⟩ := h.shape
  by_cases h1 : 1073741823 < l.length
  · have e0 : lenE l.length = 1 := if_pos (.inr (by omega))
    have e1 : rowE l = 1 := e0
    have e2 : rowB l = [] := by simp [rowB, e1]
    rw [e1, e2]
    have E0 := Lib.hid e0
    clear e0 e1 e2
    go_enter Tryz.func78, Tryz.ntmps78
    go_wp2_with (go_at_call 79; refine (len_any _ _).mono ?_; rintro e w1 ⟨u, rfl, ho, hk⟩; rw [E0.out])
    go_ret2
    exact ⟨_, rfl, Ow.nil _ _ _, hk⟩
  · have e0 : lenE l.length = 0 := if_neg (by omega)
    have e1 : rowE l = 0 := e0
    have e2 : rowB l = lenBytes l.length ++ l := by simp [rowB, e1]
    have e3 : lenB l.length = lenBytes l.length := by simp [lenB, e0]
    rw [e1, e2]
    have E0 := Lib.hid e0
    have E3 := Lib.hid e3
    clear e0 e1 e2 e3
    go_enter Tryz.func78, Tryz.ntmps78
    go_wp2_with (first
      | (go_at_call 79; refine (len_any _ _).mono ?_; rintro e w1 ⟨u, rfl, ho, hk⟩; rw [E0.out]; rw [E3.out] at ho)
      | (at_builtin; refine wpList_append_ow U rfl _ _ rfl w.heap.size _ _ rfl ho _ l rfl (h.kp hk) ?c1 hk.size ?_; rotate_right; intro v' w2 ho2 hg _))
    case c1 => have := lenBytes_le l.length; omega
    go_ret2
    exact ⟨_, rfl, ho2, Kp.grown hk hg ho.own_ge⟩
set_option maxHeartbeats 400000 in
theorem refRow_any (v : Value) (l : List UInt8) (w : World) (h : Rd w v l) :
    Calls Tryz.prog 66 #[v] w fun e w' => ∃ u, e = .returned (.tuple #[u, .int .i64 (rowE l)]) ∧ Ow 5 w' w.heap.size u (rowB l) ∧ Kp w w' := by
  have U := u8
  obtain ⟨a, c, rfl, hc, hm⟩ := h.shape
  by_cases h1 : 1073741823 < l.length
  · have e0 : lenE l.length = 1 := if_pos (.inr (by omega))
    have e1 : rowE l = 1 := e0
    have e2 : rowB l = [] := by simp [rowB, e1]
    rw [e1, e2]
    have E0 := Lib.hid e0
    clear e0 e1 e2
    go_enter Tryz.func66, Tryz.ntmps66
    go_wp2_with (go_at_call 72; refine (refLen_any _ _).mono ?_; rintro e w1 ⟨u, rfl, ho, hk⟩; rw [E0.out])
    go_ret2
    exact ⟨_, rfl, Ow.nil _ _ _, hk⟩
  · have e0 : lenE l.length = 0 := if_neg (by omega)
    have e1 : rowE l = 0 := e0
    have e2 : rowB l = lenBytes l.length ++ l := by simp [rowB, e1]
    have e3 : lenB l.length = lenBytes l.length := by simp [lenB, e0]
    rw [e1, e2]
    have E0 := Lib.hid e0
    have E3 := Lib.hid e3
    clear e0 e1 e2 e3
    go_enter Tryz.func66, Tryz.ntmps66
    go_wp2_with (first
      | (go_at_call 72; refine (refLen_any _ _).mono ?_; rintro e w1 ⟨u, rfl, ho, hk⟩; rw [E0.out]; rw [E3.out] at ho)
      | (at_builtin; refine wpList_append_ow U rfl _ _ rfl w.heap.size _ _ rfl ho _ l rfl (h.kp hk) ?c1 hk.size ?_; rotate_right; intro v' w2 ho2 hg _))
    case c1 => have := lenBytes_le l.length; omega
    go_ret2
    exact ⟨_, rfl, ho2, Kp.grown hk hg ho.own_ge⟩
set_option maxHeartbeats 400000 in
theorem clone_any (v : Value) (l : List UInt8) (w : World) (h : Rd w v l) (hl : l.length ≤ 1099511627776) :
    Calls Tryz.prog 43 #[v] w fun e w' => ∃ u, e = .returned u ∧ Ow 5 w' w.heap.size u l ∧ Kp w w' := by
  have U := u8
  have q : ∀ (w : World) (a : Option Addr) (n c n' c' : Nat), (binOp .eql 22 (.slice a n c) (.slice none n' c')).run Tryz.prog w = .ok (.bool a.isNone) w := fun w a n c n' c' => Lib.run_eql_slice_nil w _ _ a n c n' c' Tryz.underlying22
  obtain ⟨a, c, rfl, hc, hm, hnil, hcell⟩ := id h
  cases a with
  | none =>
    have hc0 := hnil rfl
    have hl0 : l = [] := List.eq_nil_of_length_eq_zero (by omega)
    subst hl0 hc0
    go_enter Tryz.func43, Tryz.ntmps43
    go_wp2_with fail
    go_ret
    exact ⟨_, rfl, Ow.nil _ _ _, Kp.refl _⟩
  | some a =>
    go_enter Tryz.func43, Tryz.ntmps43
    go_wp2_with (at_builtin; refine wpList_append_ow U rfl _ _ rfl w.heap.size _ [] rfl (Ow.lit w _ _ 0 #[] [] (Nat.le_refl _) rfl (by omega) rfl) _ l rfl (h.kp ((Kp.refl _).alloc _)) ?c1 ?c2 ?_; rotate_right; intro v' w2 ho2 hg _)
    case c1 => simp; omega
    case c2 => simp
    go_ret
    exact ⟨_, rfl, by simpa using ho2, Kp.grown (v := .slice (some ⟨w.heap.size, 0, none⟩) 0 0) ((Kp.refl _).alloc _) hg (by intro k hk; simp [Value.ownBlock] at hk; omega)⟩
def expE (n : Int) : Int := if 0 ≤ n ∧ n ≤ 8160 then 0 else 1
def expR (k info : List UInt8) (n : Int) : List UInt8 := if 0 ≤ n ∧ n ≤ 8160 then expL k info n.toNat else []
theorem exp_yes {n : Nat} (k info : List UInt8) (h : (n : Int) ≤ 8160) : expE n = 0 ∧ expR k info n = expL k info n := by
  have : 0 ≤ (n : Int) ∧ (n : Int) ≤ 8160 := by omega
  simp [expE, expR, this]
theorem exp_no {n : Int} (k info : List UInt8) (h : n < 0 ∨ 8160 < n) : expE n = 1 ∧ expR k info n = [] := by
  have : ¬ (0 ≤ n ∧ n ≤ 8160) := by omega
  simp [expE, expR, this]
theorem first_exp (n : Nat) (vk vi : Value) (k info : List UInt8) (w0 w : World) (b1 b2 gK : Nat) (hk : Kp w0 w) (h1 : One 22 w b1 (.slice (some ⟨gK, 0, none⟩) 64 64)) (h2 : One 22 w b2 vi) (h3 : By 5 w gK (keyB k)) (h4 : Rd w vi info)
    (hkl : k.length ≤ 2000) (hil : info.length ≤ 1800) (hn : n ≤ 8160) :
    Calls Tryz.prog 81 #[.int .i64 n, .func (.func 89) #[] #[.pointer (some ⟨b1, 0, none⟩), .pointer (some ⟨b2, 0, none⟩)]] w fun e w' => (∃ v, e = .returned v ∧ Ow 5 w' w.heap.size v (expL k info n)) ∧ Kp w w' :=
  first_any n 255 (expT k info) _ _ (fun j => j < w.heap.size) w (expT_length k info) (by omega) (by omega) (enters_of Tryz.func89 (by kernel_rfl) rfl) (fun _ h => h) (expanded_hands b1 b2 gK vi k info w h1 h2 h3 h4 hkl hil)
set_option maxHeartbeats 1000000 in
theorem expand_any (vk vi : Value) (k info : List UInt8) (n : Int) (w : World) (hk : Rd w vk k) (hi : Rd w vi info) (hkl : k.length ≤ 2000) (hil : info.length ≤ 1800) :
    Calls Tryz.prog 71 #[vk, vi, .int .i64 n] w fun e w' => (∃ v, e = .returned (.tuple #[v, .int .i64 (expE n)]) ∧ Ow 5 w' w.heap.size v (expR k info n)) ∧ Kp w w' := by
  obtain ⟨ai, ci, rfl, _, _⟩ := hi.shape
  by_cases h1 : n < 0
  · have hno := exp_no k info (.inl h1)
    rw [hno.1, hno.2]
    have d1 : decide (n < 0) = true := by simp [h1]
    go_enter Tryz.func71, Tryz.ntmps71
    go_wp2_with fail
    go_ret2
    exact ⟨⟨_, rfl, Ow.nil _ _ _⟩, Kp.refl _⟩
  · by_cases h2 : 8160 < n
    · have hno := exp_no k info (.inr h2)
      rw [hno.1, hno.2]
      have d1 : decide (n < 0) = false := by simp; omega
      have d2 : decide (8160 < n) = true := by simp [h2]
      go_enter Tryz.func71, Tryz.ntmps71
      go_wp2_with fail
      go_ret2
      exact ⟨⟨_, rfl, Ow.nil _ _ _⟩, Kp.refl _⟩
    · obtain ⟨n, rfl⟩ := Int.eq_ofNat_of_zero_le (show 0 ≤ n by omega)
      have hyes := exp_yes k info (show (n : Int) ≤ 8160 by omega)
      rw [hyes.1, hyes.2]
      have d1 : decide ((n : Int) < 0) = false := by simp
      have d2 : decide (8160 < (n : Int)) = false := by simp; omega
      clear hyes
      go_enter Tryz.func71, Tryz.ntmps71
      go_wp2_with fail
      refine (expanded_any vk _ k info _ hk hkl ⟨_, _, _, rfl⟩).mono ?_
      rintro e w1 ⟨⟨gK, rfl, o1, o2, o3⟩, k1⟩
      go_wp2_with fail
      refine (first_exp n vk _ k info w w1 _ _ gK k1 o1 o2 o3 (hi.kp k1) hkl hil (by omega)).mono ?_
      rintro e w2 ⟨⟨v, rfl, o⟩, k2⟩
      go_wp2_with fail
      go_ret2
      exact ⟨⟨_, rfl, o.mono k1.size⟩, k1.trans k2⟩
end Go.Proofs.YtigpgcjbpoaclaaGreatDoor

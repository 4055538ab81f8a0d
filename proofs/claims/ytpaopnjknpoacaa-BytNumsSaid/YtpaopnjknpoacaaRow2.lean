/- Rows taken, and what may lack. -/
import Derived.Test.YtpaopnjknpoacaaRow
namespace Go.Proofs.Ytpaopnjknpoacaa
open Go.RowKit

set_option maxHeartbeats 400000 in
theorem clone_any (v : Value) (l : List UInt8) (w : World) (h : Rd w v l) (hl : l.length ≤ 1099511627776) :
    Calls Try.prog 40 #[v] w fun e w' => ∃ u, e = .returned u ∧ Ow 5 w' w.heap.size u l ∧ Kp w w' := by
  have U := u8
  have q : ∀ (w : World) (a : Option Addr) (n c n' c' : Nat), (binOp .eql 22 (.slice a n c) (.slice none n' c')).run Try.prog w = .ok (.bool a.isNone) w := fun w a n c n' c' => Lib.run_eql_slice_nil w _ _ a n c n' c' Try.underlying22
  obtain ⟨a, c, rfl, hc, hm, hnil, hcell⟩ := id h
  cases a with
  | none =>
    have hc0 := hnil rfl
    have hl0 : l = [] := List.eq_nil_of_length_eq_zero (by omega)
    subst hl0 hc0
    go_enter Try.func40, Try.ntmps40
    go_wp2_with fail
    go_ret
    exact ⟨_, rfl, Ow.nil _ _ _, Kp.refl _⟩
  | some a =>
    go_enter Try.func40, Try.ntmps40
    go_wp2_with (at_builtin; refine wpList_append_ow U rfl _ _ rfl w.heap.size _ [] rfl (Ow.lit w _ _ 0 #[] [] (Nat.le_refl _) rfl (by omega) rfl) _ l rfl (h.kp ((Kp.refl _).alloc _)) ?c1 ?c2 ?_; rotate_right; intro v' w2 ho2 hg _)
    case c1 => simp; omega
    case c2 => simp
    go_ret
    exact ⟨_, rfl, by simpa using ho2, Kp.grown (v := .slice (some ⟨w.heap.size, 0, none⟩) 0 0) ((Kp.refl _).alloc _) hg (by intro k hk; simp [Value.ownBlock] at hk; omega)⟩

def TR (l : List UInt8) (at' most : Int) (w : World) (e : Ending) (w' : World) : Prop :=
  ∃ u, e = .returned (.tuple #[u, .int .i64 (trP l at' most), .int .i64 (trE l at' most)]) ∧ Ow 5 w' w.heap.size u (trB l at' most) ∧ Kp w w'

set_option maxHeartbeats 800000 in
theorem takeRow_any (v : Value) (l : List UInt8) (at' most : Int) (w : World) (h : Rd w v l) :
    Calls Try.prog 23 #[v, .int .i64 at', .int .i64 most] w (TR l at' most w) := by
  obtain ⟨a, c, rfl, hc, hm⟩ := h.shape
  unfold maxLen at hm
  by_cases h1 : tlE l at' = 0
  · obtain ⟨b0, b1, b2, b3⟩ := tl_bounds l at' h1
    obtain ⟨N, hN⟩ := Int.eq_ofNat_of_zero_le b0
    obtain ⟨P, hP⟩ := Int.eq_ofNat_of_zero_le (show 0 ≤ tlP l at' by omega)
    have HTL : Hid (∀ W, Rd W (.slice a l.length c) l → Calls Try.prog 19 #[.slice a l.length c, .int .i64 at'] W fun e w' => e = .returned (.tuple #[.int .i64 N, .int .i64 P, .int .i64 0]) ∧ Kp W w') := fun W hW =>
      (takeLen_any _ l at' W hW).mono fun e w' ⟨he, hk⟩ => ⟨by rw [he, hN, hP, h1], hk⟩
    by_cases h2 : most < tlN l at'
    · have E := Lib.hid (tr_big h1 h2)
      rw [hN] at h2
      rw [hN] at b1
      rw [hP] at b2 b3
      clear h1 hN hP b0
      go_enter Try.func23, Try.ntmps23
      go_wp2_with (go_at_call 19; refine (HTL.out _ h).mono ?_; rintro e w1 ⟨rfl, hk⟩)
      go_ret3
      obtain ⟨e1, e2, e3⟩ := E.out
      exact ⟨_, by rw [e1, e3]; rfl, by rw [e2]; exact Ow.nil _ _ _, hk⟩
    · by_cases h3 : l.length - tlP l at' < tlN l at'
      · have E := Lib.hid (tr_short h1 h2 h3)
        rw [hN] at h2
        rw [hN, hP] at h3
        rw [hN] at b1
        rw [hP] at b2 b3
        clear h1 hN hP b0
        go_enter Try.func23, Try.ntmps23
        go_wp2_with (go_at_call 19; refine (HTL.out _ h).mono ?_; rintro e w1 ⟨rfl, hk⟩)
        go_ret3
        obtain ⟨e1, e2, e3⟩ := E.out
        exact ⟨_, by rw [e1, e3]; rfl, by rw [e2]; exact Ow.nil _ _ _, hk⟩
      · have E := Lib.hid (tr_yes h1 h2 h3)
        rw [hN, hP] at E
        rw [hN] at h2
        rw [hN, hP] at h3
        rw [hN] at b1
        rw [hP] at b2 b3
        clear h1 hN hP b0
        by_cases hcP : c = P
        · have hN0 : N = 0 := by omega
          subst hN0
          subst hcP
          go_enter Try.func23, Try.ntmps23
          go_wp2_with (first
            | (go_at_call 19; refine (HTL.out _ h).mono ?_; rintro e w1 ⟨rfl, hk⟩)
            | (go_at_call 40; refine (clone_any _ [] _ ?hr ?hl).mono ?_; rotate_right; rintro e w2 ⟨u, rfl, ho, hk2⟩))
          case hl => simp
          case hr =>
            have := (h.cut c (c + 0) (by omega) (by omega) _ 0 _ rfl (by omega) rfl).kp hk
            simpa using this
          go_ret3
          obtain ⟨e1, e2, e3⟩ := E.out
          exact ⟨_, by rw [e1, e3]; rfl, by rw [e2]; simpa using ho.mono hk.size, hk.trans hk2⟩
        go_enter Try.func23, Try.ntmps23
        go_wp2_with (first
          | (go_at_call 19; refine (HTL.out _ h).mono ?_; rintro e w1 ⟨rfl, hk⟩)
          | (go_at_call 40; refine (clone_any _ ((l.drop P).take N) _ ?hr ?hl).mono ?_; rotate_right; rintro e w2 ⟨u, rfl, ho, hk2⟩))
        case hl => simp; omega
        case hr =>
          have := (h.cut P (P + N) (by omega) (by omega) _ N _ rfl (by omega) rfl).kp hk
          rw [if_neg (by omega), show P + N - P = N from by omega] at this
          exact this
        go_ret3
        obtain ⟨e1, e2, e3⟩ := E.out
        exact ⟨_, by rw [e1, e3]; rfl, by rw [e2]; simpa using ho.mono hk.size, hk.trans hk2⟩
  · have E := Lib.hid (tr_bad (most := most) h1)
    have T := tl_not (b := l) (at' := at') rfl h1
    have h1' : (tlE l at' != 0) = true := by rw [bne_iff_ne]; exact h1
    obtain ⟨X, hX⟩ : ∃ X, X = tlE l at' := ⟨_, rfl⟩
    have HTL : Hid (∀ W, Rd W (.slice a l.length c) l → Calls Try.prog 19 #[.slice a l.length c, .int .i64 at'] W fun e w' => e = .returned (.tuple #[.int .i64 0, .int .i64 0, .int .i64 X]) ∧ Kp W w') := fun W hW =>
      (takeLen_any _ l at' W hW).mono fun e w' ⟨he, hk⟩ => ⟨by rw [he, T.1, T.2.1, hX], hk⟩
    rw [← hX] at h1' E
    clear hX T h1
    go_enter Try.func23, Try.ntmps23
    go_wp2_with (go_at_call 19; refine (HTL.out _ h).mono ?_; rintro e w1 ⟨rfl, hk⟩)
    go_ret3
    obtain ⟨e1, e2, e3⟩ := E.out
    exact ⟨_, by rw [e1, e3]; rfl, by rw [e2]; exact Ow.nil _ _ _, hk⟩

set_option maxHeartbeats 800000 in
theorem takeOpt_any (v : Value) (l : List UInt8) (at' : Int) (w : World) (h : Rd w v l) :
    Calls Try.prog 25 #[v, .int .i64 at'] w fun e w' => e = .returned (.tuple #[.bool (toV l at'), .int .i64 (toP l at'), .int .i64 (toE l at')]) ∧ w = w' := by
  obtain ⟨a, c, rfl, hc, hm⟩ := h.shape
  unfold maxLen at hm
  by_cases h2 : 0 ≤ at' ∧ at' ≤ l.length
  · have d2 : decide (0 ≤ at' ∧ at' ≤ l.length) = true := by simp [h2]
    obtain ⟨a0, a1⟩ := h2
    obtain ⟨p, rfl⟩ := Int.eq_ofNat_of_zero_le a0
    by_cases h3 : p = l.length
    · subst h3
      have e : toE l l.length = 3 := by unfold toE; rw [if_neg (by omega), if_pos rfl]
      have e1 : toV l l.length = false := by simp [toV, e]
      have e2 : toP l l.length = 0 := by simp [toP, e]
      rw [e, e1, e2]
      clear e e1 e2
      go_enter Try.func25, Try.ntmps25
      go_wp2_with (go_at_call 37; refine (isPlace_any _ _ _ _ h).mono ?_; rintro e w' ⟨rfl, rfl⟩)
      go_ret3
      exact ⟨rfl, rfl⟩
    · have hp : p < l.length := by omega
      obtain ⟨b, off, rfl, _, hcell⟩ := h.at p hp
      have hc0 := hcell p hp
      have h4 : ((p : Int) == (l.length : Int)) = false := by simp; omega
      have h5 : (p == l.length) = false := by simp; omega
      have eE : toE l p = if 1 < (l.getD p 0).toNat then 2 else 0 := by unfold toE; rw [if_neg (by omega), if_neg (by omega)]; rfl
      obtain ⟨y, hy⟩ : ∃ y : UInt8, y = l.getD p 0 := ⟨_, rfl⟩
      have eV : toV l p = decide (toE l p = 0 ∧ y = 1) := by rw [hy]; rfl
      have eP : toP l p = if toE l p = 0 then (p : Int) + 1 else 0 := rfl
      rw [← hy] at hc0 eE
      clear hcell hy
      obtain ⟨z, hz⟩ : ∃ z : Nat, z = y.toNat := ⟨_, rfl⟩
      rw [← hz] at hc0 eE
      by_cases c1 : 1 < z
      · rw [if_pos c1] at eE
        rw [eE] at eV eP
        have E := Lib.hid (show toV l p = false ∧ toP l p = 0 ∧ toE l p = 2 from ⟨by rw [eV]; simp, by rw [eP]; rfl, eE⟩)
        clear eE eV eP hz
        go_enter Try.func25, Try.ntmps25
        go_wp2_with (go_at_call 37; refine (isPlace_any _ _ _ _ h).mono ?_; rintro e w' ⟨rfl, rfl⟩)
        go_ret3
        obtain ⟨e1, e2, e3⟩ := E.out
        rw [e1, e2, e3]
        exact ⟨rfl, rfl⟩
      · rw [if_neg c1] at eE
        rw [eE] at eV eP
        have ey : (y = 1) ↔ z = 1 := by rw [hz, ← UInt8.toNat_inj]; rfl
        have hzb : decide (0 = (0 : Int) ∧ y = 1) = ((z : Int) == 1) := by
          rw [Bool.eq_iff_iff]
          simp [ey]
          omega
        have E := Lib.hid (show toV l p = ((z : Int) == 1) ∧ toP l p = p + 1 ∧ toE l p = 0 from ⟨by rw [eV, hzb], by rw [eP, if_pos rfl], eE⟩)
        have c1' : (z : Int) ≤ 1 := by omega
        clear eE eV eP hz hzb ey
        go_enter Try.func25, Try.ntmps25
        go_wp2_with (go_at_call 37; refine (isPlace_any _ _ _ _ h).mono ?_; rintro e w' ⟨rfl, rfl⟩)
        go_ret3
        obtain ⟨e1, e2, e3⟩ := E.out
        rw [e1, e2, e3]
        exact ⟨rfl, rfl⟩
  · have e : toE l at' = 1 := by unfold toE; rw [if_pos (by omega)]
    have e1 : toV l at' = false := by simp [toV, e]
    have e2 : toP l at' = 0 := by simp [toP, e]
    rw [e, e1, e2]
    clear e e1 e2
    have d2 : decide (0 ≤ at' ∧ at' ≤ l.length) = false := by simp [h2]
    go_enter Try.func25, Try.ntmps25
    go_wp2_with (go_at_call 37; refine (isPlace_any _ _ _ _ h).mono ?_; rintro e w' ⟨rfl, rfl⟩)
    go_ret3
    exact ⟨rfl, rfl⟩

set_option maxHeartbeats 800000 in
theorem refTakeOpt_any (v : Value) (l : List UInt8) (at' : Int) (w : World) (h : Rd w v l) :
    Calls Try.prog 26 #[v, .int .i64 at'] w fun e w' => e = .returned (.tuple #[.bool (toV l at'), .int .i64 (toP l at'), .int .i64 (toE l at')]) ∧ w = w' := by
  obtain ⟨a, c, rfl, hc, hm⟩ := h.shape
  unfold maxLen at hm
  by_cases h2 : 0 ≤ at' ∧ at' ≤ l.length
  · have d2 : decide (at' < 0) = false := by simp; omega
    have d3 : decide ((l.length : Int) < at') = false := by simp; omega
    obtain ⟨a0, a1⟩ := h2
    obtain ⟨p, rfl⟩ := Int.eq_ofNat_of_zero_le a0
    have d4 : decide (l.length < p) = false := by simp; omega
    by_cases h3 : p = l.length
    · subst h3
      have e : toE l l.length = 3 := by unfold toE; rw [if_neg (by omega), if_pos rfl]
      have e1 : toV l l.length = false := by simp [toV, e]
      have e2 : toP l l.length = 0 := by simp [toP, e]
      rw [e, e1, e2]
      clear e e1 e2
      go_enter Try.func26, Try.ntmps26
      go_wp2_with (fail)
      go_ret3
      exact ⟨rfl, rfl⟩
    · have hp : p < l.length := by omega
      obtain ⟨b, off, rfl, _, hcell⟩ := h.at p hp
      have hc0 := hcell p hp
      have h4 : ((p : Int) == (l.length : Int)) = false := by simp; omega
      have h5 : (p == l.length) = false := by simp; omega
      have eE : toE l p = if 1 < (l.getD p 0).toNat then 2 else 0 := by unfold toE; rw [if_neg (by omega), if_neg (by omega)]; rfl
      obtain ⟨y, hy⟩ : ∃ y : UInt8, y = l.getD p 0 := ⟨_, rfl⟩
      have eV : toV l p = decide (toE l p = 0 ∧ y = 1) := by rw [hy]; rfl
      have eP : toP l p = if toE l p = 0 then (p : Int) + 1 else 0 := rfl
      rw [← hy] at hc0 eE
      clear hcell hy
      obtain ⟨z, hz⟩ : ∃ z : Nat, z = y.toNat := ⟨_, rfl⟩
      rw [← hz] at hc0 eE
      by_cases c1 : 1 < z
      · rw [if_pos c1] at eE
        rw [eE] at eV eP
        have E := Lib.hid (show toV l p = false ∧ toP l p = 0 ∧ toE l p = 2 from ⟨by rw [eV]; simp, by rw [eP]; rfl, eE⟩)
        clear eE eV eP hz
        go_enter Try.func26, Try.ntmps26
        go_wp2_with (fail)
        go_ret3
        obtain ⟨e1, e2, e3⟩ := E.out
        rw [e1, e2, e3]
        exact ⟨rfl, rfl⟩
      · rw [if_neg c1] at eE
        rw [eE] at eV eP
        have ey : (y = 1) ↔ z = 1 := by rw [hz, ← UInt8.toNat_inj]; rfl
        have hzb : decide (0 = (0 : Int) ∧ y = 1) = ((z : Int) == 1) := by
          rw [Bool.eq_iff_iff]
          simp [ey]
          omega
        have E := Lib.hid (show toV l p = ((z : Int) == 1) ∧ toP l p = p + 1 ∧ toE l p = 0 from ⟨by rw [eV, hzb], by rw [eP, if_pos rfl], eE⟩)
        have c1' : (z : Int) ≤ 1 := by omega
        clear eE eV eP hz hzb ey
        go_enter Try.func26, Try.ntmps26
        go_wp2_with (fail)
        go_ret3
        obtain ⟨e1, e2, e3⟩ := E.out
        rw [e1, e2, e3]
        exact ⟨rfl, rfl⟩
  · have e : toE l at' = 1 := by unfold toE; rw [if_pos (by omega)]
    have e1 : toV l at' = false := by simp [toV, e]
    have e2 : toP l at' = 0 := by simp [toP, e]
    rw [e, e1, e2]
    clear e e1 e2
    by_cases h5 : at' < 0
    · have d2 : decide (at' < 0) = true := by simp [h5]
      go_enter Try.func26, Try.ntmps26
      go_wp2_with (fail)
      go_ret3
      exact ⟨rfl, rfl⟩
    · have d2 : decide (at' < 0) = false := by simp [h5]
      have h6 : (l.length : Int) < at' := by omega
      have d3 : decide ((l.length : Int) < at') = true := by simp [h6]
      go_enter Try.func26, Try.ntmps26
      go_wp2_with (fail)
      go_ret3
      exact ⟨rfl, rfl⟩

set_option maxHeartbeats 400000 in
theorem opt_any (is : Bool) (v : Value) (l : List UInt8) (w : World) (h : Rd w v l) (hl : l.length ≤ 1099511627776) :
    Calls Try.prog 29 #[.bool is, v] w fun e w' => ∃ u, e = .returned u ∧ Ow 5 w' w.heap.size u (optB is l) ∧ Kp w w' := by
  have U := u8
  cases is with
  | false =>
    go_enter Try.func29, Try.ntmps29
    go_wp2_with fail
    go_ret
    exact ⟨_, rfl, Ow.lit w _ _ 1 _ _ (Nat.le_refl _) rfl (by omega) rfl, (Kp.refl _).alloc _⟩
  | true =>
    go_enter Try.func29, Try.ntmps29
    go_wp2_with (at_builtin; refine wpList_append_ow U rfl _ _ rfl w.heap.size (.slice (some ⟨w.heap.size, 0, none⟩) 1 1) [1] rfl (Ow.lit w _ _ 1 _ [1] (Nat.le_refl _) rfl (by omega) rfl) _ l rfl (h.kp ((Kp.refl _).alloc _)) ?c1 ?c2 ?_; rotate_right; intro v' w2 ho2 hg _)
    case c1 => simp; omega
    case c2 => simp
    go_ret
    exact ⟨_, rfl, ho2, Kp.grown ((Kp.refl _).alloc _) hg (by intro k hk; simp [Value.ownBlock] at hk; omega)⟩

set_option maxHeartbeats 400000 in
theorem refOpt_any (is : Bool) (v : Value) (l : List UInt8) (w : World) (h : Rd w v l) (hl : l.length ≤ 1099511627776) :
    Calls Try.prog 30 #[.bool is, v] w fun e w' => ∃ u, e = .returned u ∧ Ow 5 w' w.heap.size u (optB is l) ∧ Kp w w' := by
  have U := u8
  cases is with
  | false =>
    go_enter Try.func30, Try.ntmps30
    go_wp2_with fail
    go_ret
    exact ⟨_, rfl, Ow.lit w _ _ 1 _ _ (Nat.le_refl _) rfl (by omega) rfl, (Kp.refl _).alloc _⟩
  | true =>
    go_enter Try.func30, Try.ntmps30
    go_wp2_with (at_builtin; refine wpList_append_ow U rfl _ _ rfl w.heap.size (.slice (some ⟨w.heap.size, 0, none⟩) 1 1) [1] rfl (Ow.lit w _ _ 1 _ [1] (Nat.le_refl _) rfl (by omega) rfl) _ l rfl (h.kp ((Kp.refl _).alloc _)) ?c1 ?c2 ?_; rotate_right; intro v' w2 ho2 hg _)
    case c1 => simp; omega
    case c2 => simp
    go_ret
    exact ⟨_, rfl, ho2, Kp.grown ((Kp.refl _).alloc _) hg (by intro k hk; simp [Value.ownBlock] at hk; omega)⟩
end Go.Proofs.Ytpaopnjknpoacaa

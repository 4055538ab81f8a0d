/- The document's own TakeLen and TakeRow. -/
import Derived.Test.YtpaopnjknpoacaaRow2
namespace Go.Proofs.Ytpaopnjknpoacaa
open Go.RowKit

/-- The document's TakeNum, where the number is known by name. -/
theorem refTN {v : Value} {l : List UInt8} {p k : Nat} {w : World} (h : Rd w v l) (k1 : 1 ≤ k) (k7 : k ≤ 7) (hp : p + k ≤ l.length) (V : Nat) (hV : V = val ((l.drop p).take k)) (kk pk : Int) (hk : kk = k) (hpk : pk = p + k) :
    Calls Try.prog 15 #[v, .int .i64 p, .int .i64 kk] w fun e w' => e = .returned (.tuple #[.int .i64 V, .int .i64 pk, .int .i64 0]) ∧ w = w' := by
  subst hk hpk
  obtain ⟨e1, e2, e3⟩ := tn_yes (b := l) (at' := p) (w := k) (by omega) (by omega)
  refine (refTakeNum_any v l p k w h).mono fun e w' ⟨he, hw⟩ => ⟨?_, hw⟩
  rw [he, e1, e2, e3, hV]
  rfl
theorem refTN_short {v : Value} {l : List UInt8} {p k : Nat} {w : World} (h : Rd w v l) (k1 : 1 ≤ k) (k7 : k ≤ 7) (hp0 : p ≤ l.length) (hp : l.length < p + k) (kk : Int) (hk : kk = k) :
    Calls Try.prog 15 #[v, .int .i64 p, .int .i64 kk] w fun e w' => e = .returned (.tuple #[.int .i64 0, .int .i64 0, .int .i64 3]) ∧ w = w' := by
  subst hk
  obtain ⟨e1, e2, e3⟩ := tn_short (b := l) (at' := p) (w := k) (by omega) (by omega)
  refine (refTakeNum_any v l p k w h).mono fun e w' ⟨he, hw⟩ => ⟨?_, hw⟩
  rw [he, e1, e2, e3]

set_option maxRecDepth 100000 in
set_option maxHeartbeats 1600000 in
theorem refTakeLen_any (v : Value) (l : List UInt8) (at' : Int) (w : World) (h : Rd w v l) :
    Calls Try.prog 20 #[v, .int .i64 at'] w (TL l at' w) := by
  obtain ⟨a, c, rfl, hc, hm⟩ := h.shape
  unfold maxLen at hm
  by_cases h2 : 0 ≤ at' ∧ at' ≤ l.length
  · have d2 : decide (at' < 0) = false := by simp; omega
    have d3 : decide ((l.length : Int) < at') = false := by simp; omega
    obtain ⟨a0, a1⟩ := h2
    obtain ⟨p, rfl⟩ := Int.eq_ofNat_of_zero_le a0
    have d4 : decide (l.length < p) = false := by simp; omega
    by_cases h3 : p = l.length
    · subst h3
      have E := Lib.hid (tl_end (b := l))
      go_enter Try.func20, Try.ntmps20
      go_wp2_with fail
      go_ret3
      obtain ⟨e1, e2, e3⟩ := E.out
      exact ⟨by rw [e1, e2, e3]; rfl, Kp.refl _⟩
    · have hp : p < l.length := by omega
      obtain ⟨b, off, rfl, _, hcell⟩ := h.at p hp
      have hc0 := hcell p hp
      have h4 : ((p : Int) == (l.length : Int)) = false := by simp; omega
      have h5 : (p == l.length) = false := by simp; omega
      obtain ⟨y, hy⟩ : ∃ y : Nat, y = (l.getD p 0).toNat := ⟨_, rfl⟩
      have hy2 : (y : Int) < 256 := by have := (l.getD p 0).toNat_lt; omega
      have hlp : (p : Int) < l.length := by omega
      rw [← hy] at hc0
      by_cases c3 : 192 ≤ y
      · have E := Lib.hid (tl_form hp (by omega))
        clear hy hcell
        go_enter Try.func20, Try.ntmps20
        go_wp2_with fail
        go_ret3
        obtain ⟨e1, e2, e3⟩ := E.out
        exact ⟨by rw [e1, e2, e3]; rfl, Kp.refl _⟩
      · by_cases c1 : y < 64
        · have E := Lib.hid (tl_one hp (by omega))
          rw [← hy] at E
          clear hy hcell
          go_enter Try.func20, Try.ntmps20
          go_wp2_with fail
          go_ret3
          obtain ⟨e1, e2, e3⟩ := E.out
          exact ⟨by rw [e1, e2, e3]; rfl, Kp.refl _⟩
        · by_cases c2 : y < 128
          · by_cases c4 : l.length < p + 2
            · have E := Lib.hid (tl_short hp (by omega) (by rw [width_two (by omega) (by omega)]; omega))
              clear hy hcell
              go_enter Try.func20, Try.ntmps20
              go_wp2_with (go_at_call 15; refine (refTN_short (k := 2) h (by omega) (by omega) (by omega) (by omega) _ rfl).mono ?_; rintro e w' ⟨rfl, rfl⟩)
              go_ret3
              obtain ⟨e1, e2, e3⟩ := E.out
              exact ⟨by rw [e1, e2, e3]; rfl, Kp.refl _⟩
            · have E0 := tl_two hp (by omega) (by omega) (by omega)
              have hvr := val_range (b := l) (p := p) 1 (by omega)
              rw [← hy, show 1 + 1 = 2 from rfl, Nat.pow_one] at hvr
              obtain ⟨hv1, hv2⟩ := hvr
              obtain ⟨V, hV⟩ : ∃ V : Nat, V = val ((l.drop p).take 2) := ⟨_, rfl⟩
              rw [← hV] at hv1 hv2 E0
              have HV := Lib.hid hV
              clear hy hcell hV
              by_cases c5 : V < 16448
              · have E := Lib.hid (E0.1 c5)
                clear E0
                go_enter Try.func20, Try.ntmps20
                go_wp2_with (go_at_call 15; refine (refTN (k := 2) h (by omega) (by omega) (by omega) V HV.out _ _ rfl rfl).mono ?_; rintro e w' ⟨rfl, rfl⟩)
                go_ret3
                obtain ⟨e1, e2, e3⟩ := E.out
                exact ⟨by rw [e1, e2, e3]; rfl, Kp.refl _⟩
              · have E := Lib.hid (E0.2 (by omega))
                clear E0
                go_enter Try.func20, Try.ntmps20
                go_wp2_with (go_at_call 15; refine (refTN (k := 2) h (by omega) (by omega) (by omega) V HV.out _ _ rfl rfl).mono ?_; rintro e w' ⟨rfl, rfl⟩)
                go_ret3
                obtain ⟨e1, e2, e3⟩ := E.out
                exact ⟨by rw [e1, e2, e3]; rfl, Kp.refl _⟩
          · by_cases c4 : l.length < p + 4
            · have E := Lib.hid (tl_short hp (by omega) (by rw [width_four (by omega)]; omega))
              clear hy hcell
              go_enter Try.func20, Try.ntmps20
              go_wp2_with (go_at_call 15; refine (refTN_short (k := 4) h (by omega) (by omega) (by omega) (by omega) _ rfl).mono ?_; rintro e w' ⟨rfl, rfl⟩)
              go_ret3
              obtain ⟨e1, e2, e3⟩ := E.out
              exact ⟨by rw [e1, e2, e3]; rfl, Kp.refl _⟩
            · have E0 := tl_four hp (by omega) (by omega) (by omega)
              have hvr := val_range (b := l) (p := p) 3 (by omega)
              rw [← hy, show 3 + 1 = 4 from rfl, show 256 ^ 3 = 16777216 from by decide] at hvr
              obtain ⟨hv1, hv2⟩ := hvr
              obtain ⟨V, hV⟩ : ∃ V : Nat, V = val ((l.drop p).take 4) := ⟨_, rfl⟩
              rw [← hV] at hv1 hv2 E0
              have HV := Lib.hid hV
              clear hy hcell hV
              by_cases c5 : V < 2147483712
              · have E := Lib.hid (E0.1 (by omega))
                clear E0
                go_enter Try.func20, Try.ntmps20
                go_wp2_with (go_at_call 15; refine (refTN (k := 4) h (by omega) (by omega) (by omega) V HV.out _ _ rfl rfl).mono ?_; rintro e w' ⟨rfl, rfl⟩)
                go_ret3
                obtain ⟨e1, e2, e3⟩ := E.out
                exact ⟨by rw [e1, e2, e3]; rfl, Kp.refl _⟩
              · by_cases c6 : V < 2147500032
                · have E := Lib.hid (E0.1 c6)
                  clear E0
                  go_enter Try.func20, Try.ntmps20
                  go_wp2_with (go_at_call 15; refine (refTN (k := 4) h (by omega) (by omega) (by omega) V HV.out _ _ rfl rfl).mono ?_; rintro e w' ⟨rfl, rfl⟩)
                  go_ret3
                  obtain ⟨e1, e2, e3⟩ := E.out
                  exact ⟨by rw [e1, e2, e3]; rfl, Kp.refl _⟩
                · have E := Lib.hid (E0.2 (by omega))
                  clear E0
                  go_enter Try.func20, Try.ntmps20
                  go_wp2_with (go_at_call 15; refine (refTN (k := 4) h (by omega) (by omega) (by omega) V HV.out _ _ rfl rfl).mono ?_; rintro e w' ⟨rfl, rfl⟩)
                  go_ret3
                  obtain ⟨e1, e2, e3⟩ := E.out
                  exact ⟨by rw [e1, e2, e3]; rfl, Kp.refl _⟩
  · have E := Lib.hid (tl_arg (b := l) (at' := at') (by omega))
    by_cases h5 : at' < 0
    · have d2 : decide (at' < 0) = true := by simp [h5]
      go_enter Try.func20, Try.ntmps20
      go_wp2_with fail
      go_ret3
      obtain ⟨e1, e2, e3⟩ := E.out
      exact ⟨by rw [e1, e2, e3]; rfl, Kp.refl _⟩
    · have d2 : decide (at' < 0) = false := by simp [h5]
      have h6 : (l.length : Int) < at' := by omega
      have d3 : decide ((l.length : Int) < at') = true := by simp [h6]
      go_enter Try.func20, Try.ntmps20
      go_wp2_with fail
      go_ret3
      obtain ⟨e1, e2, e3⟩ := E.out
      exact ⟨by rw [e1, e2, e3]; rfl, Kp.refl _⟩

set_option maxHeartbeats 800000 in
theorem refTakeRow_any (v : Value) (l : List UInt8) (at' most : Int) (w : World) (hR : Rd w v l) :
    Calls Try.prog 24 #[v, .int .i64 at', .int .i64 most] w (TR l at' most w) := by
  have U := u8
  obtain ⟨a, c, rfl, hc, hm⟩ := hR.shape
  unfold maxLen at hm
  by_cases h1 : tlE l at' = 0
  · obtain ⟨b0, b1, b2, b3⟩ := tl_bounds l at' h1
    obtain ⟨N, hN⟩ := Int.eq_ofNat_of_zero_le b0
    obtain ⟨P, hP⟩ := Int.eq_ofNat_of_zero_le (show 0 ≤ tlP l at' by omega)
    have HTL : Hid (∀ W, Rd W (.slice a l.length c) l → Calls Try.prog 20 #[.slice a l.length c, .int .i64 at'] W fun e w' => e = .returned (.tuple #[.int .i64 N, .int .i64 P, .int .i64 0]) ∧ Kp W w') := fun W hW =>
      (refTakeLen_any _ l at' W hW).mono fun e w' ⟨he, hk⟩ => ⟨by rw [he, hN, hP, h1], hk⟩
    by_cases h2 : most < tlN l at'
    · have E := Lib.hid (tr_big h1 h2)
      rw [hN] at h2
      rw [hN] at b1
      rw [hP] at b2 b3
      clear h1 hN hP b0
      go_enter Try.func24, Try.ntmps24
      go_wp2_with (go_at_call 20; refine (HTL.out _ hR).mono ?_; rintro e w1 ⟨rfl, hk⟩)
      go_ret3
      obtain ⟨e1, e2, e3⟩ := E.out
      exact ⟨_, by rw [e1, e3]; rfl, by rw [e2]; exact Ow.nil _ _ _, hk⟩
    · by_cases h3 : l.length - tlP l at' < tlN l at'
      · have E := Lib.hid (tr_short h1 h2 h3)
        rw [hN] at h2
        rw [hN, hP] at h3
        rw [hN] at b1
        rw [hP] at b2 b3
        clear h1 hN hP b0
        go_enter Try.func24, Try.ntmps24
        go_wp2_with (go_at_call 20; refine (HTL.out _ hR).mono ?_; rintro e w1 ⟨rfl, hk⟩)
        go_ret3
        obtain ⟨e1, e2, e3⟩ := E.out
        exact ⟨_, by rw [e1, e3]; rfl, by rw [e2]; exact Ow.nil _ _ _, hk⟩
      · have E := Lib.hid (tr_yes h1 h2 h3)
        rw [hN, hP] at E
        rw [hN] at h2
        rw [hN, hP] at h3
        rw [hN] at b1
        rw [hP] at b2 b3
        clear h1 hN hP b0
        go_enter Try.func24, Try.ntmps24
        go_wp2_with (first
          | (go_at_call 20; refine (HTL.out _ hR).mono ?_; rintro e w1 ⟨rfl, hk⟩; have hs := hk.size)
          | (at_builtin; refine wpList_append_ow U rfl _ _ rfl w.heap.size (.slice (some ⟨w1.heap.size, 0, none⟩) 0 0) [] rfl (Ow.lit w1 _ _ 0 #[] [] hs rfl (by omega) rfl) _ ((l.drop P).take N) rfl ?hr ?c1 ?c2 ?_; rotate_right; intro v' w2 ho2 hg _))
        case hr.inl =>
          have hcP : c = P := by assumption
          have := (hR.cut P (P + N) (by omega) (by omega) _ N _ rfl (by omega) rfl).kp (hk.alloc (.cells #[] 5))
          rw [if_pos hcP, show P + N - P = N from by omega, show c - P = 0 from by omega] at this
          exact this
        case hr.inr =>
          have hcP : ¬ c = P := by assumption
          have := (hR.cut P (P + N) (by omega) (by omega) _ N _ rfl (by omega) rfl).kp (hk.alloc (.cells #[] 5))
          rw [if_neg hcP, show P + N - P = N from by omega] at this
          exact this
        case c1 => simp; omega
        case c2 => simp; omega
        all_goals
          go_ret3
          obtain ⟨e1, e2, e3⟩ := E.out
          exact ⟨_, by rw [e1, e3]; rfl, by rw [e2]; simpa using ho2, Kp.grown (hk.alloc _) hg (by intro k hk; simp [Value.ownBlock] at hk; omega)⟩
  · have E := Lib.hid (tr_bad (most := most) h1)
    have T := tl_not (b := l) (at' := at') rfl h1
    have h1' : (tlE l at' != 0) = true := by rw [bne_iff_ne]; exact h1
    obtain ⟨X, hX⟩ : ∃ X, X = tlE l at' := ⟨_, rfl⟩
    have HTL : Hid (∀ W, Rd W (.slice a l.length c) l → Calls Try.prog 20 #[.slice a l.length c, .int .i64 at'] W fun e w' => e = .returned (.tuple #[.int .i64 0, .int .i64 0, .int .i64 X]) ∧ Kp W w') := fun W hW =>
      (refTakeLen_any _ l at' W hW).mono fun e w' ⟨he, hk⟩ => ⟨by rw [he, T.1, T.2.1, hX], hk⟩
    rw [← hX] at h1' E
    clear hX T h1
    go_enter Try.func24, Try.ntmps24
    go_wp2_with (go_at_call 20; refine (HTL.out _ hR).mono ?_; rintro e w1 ⟨rfl, hk⟩)
    go_ret3
    obtain ⟨e1, e2, e3⟩ := E.out
    exact ⟨_, by rw [e1, e3]; rfl, by rw [e2]; exact Ow.nil _ _ _, hk⟩
end Go.Proofs.Ytpaopnjknpoacaa

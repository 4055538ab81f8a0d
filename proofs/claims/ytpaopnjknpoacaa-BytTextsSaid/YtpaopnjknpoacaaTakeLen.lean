/- byt.TakeLen. -/
import Derived.Test.YtpaopnjknpoacaaLen
namespace Go.Proofs.Ytpaopnjknpoacaa
open Go.RowKit

theorem quiet_left {P : Program} {f : FuncId} {args : Array Value} {w : World} {n : Nat} {v : Value}
    (h : Calls P f args (w.drewN n) fun e w' => e = .returned v ∧ w.drewN n = w') : Calls P f args (w.drewN n) fun e w'' => e = .returned v ∧ ∃ m, w'' = w.drewN m :=
  h.mono fun _ _ ⟨he, hm⟩ => ⟨he, n, hm.symm⟩

theorem Kp.drewN {a b : World} (h : Kp a b) (n : Nat) : Kp a (b.drewN n) := by
  induction n with
  | zero => exact h
  | succ n ih => exact ih.drew

def TL (l : List UInt8) (at' : Int) (w : World) (e : Ending) (w' : World) : Prop :=
  e = .returned (.tuple #[.int .i64 (tlN l at'), .int .i64 (tlP l at'), .int .i64 (tlE l at')]) ∧ Kp w w'

set_option maxHeartbeats 1600000 in
theorem takeLen_any (v : Value) (l : List UInt8) (at' : Int) (w : World) (h : Rd w v l) :
    Calls Try.prog 19 #[v, .int .i64 at'] w (TL l at' w) := by
  obtain ⟨a, c, rfl, hc, hm⟩ := h.shape
  unfold maxLen at hm
  by_cases h2 : 0 ≤ at' ∧ at' ≤ l.length
  · have d2 : decide (0 ≤ at' ∧ at' ≤ l.length) = true := by simp [h2]
    obtain ⟨a0, a1⟩ := h2
    obtain ⟨p, rfl⟩ := Int.eq_ofNat_of_zero_le a0
    by_cases h3 : p = l.length
    · subst h3
      have E := Lib.hid (tl_end (b := l))
      go_enter Try.func19, Try.ntmps19
      go_wp2_with (first | (go_at_call 37; refine (isPlace_any _ _ _ _ h).mono ?_; rintro e w' ⟨rfl, rfl⟩))
      all_goals
        go_ret3
        obtain ⟨e1, e2, e3⟩ := E.out
        exact ⟨by rw [e1, e2, e3]; rfl, Kp.refl _⟩
    · have hp : p < l.length := by omega
      obtain ⟨b, off, rfl, _, hcell⟩ := h.at p hp
      have hc0 := hcell p hp
      obtain ⟨y, hy⟩ : ∃ y : Nat, y = (l.getD p 0).toNat := ⟨_, rfl⟩
      have hy2 : y < 256 := by have := (l.getD p 0).toNat_lt; omega
      have hlp : (p : Int) < l.length := by omega
      rw [← hy] at hc0
      by_cases c3 : 192 ≤ y
      · have E := Lib.hid (tl_form hp (by omega))
        have hs : (y : Int) / 64 = 3 := by omega
        clear hy hcell
        go_enter Try.func19, Try.ntmps19
        go_wp2_with (first | (go_at_call 37; refine (isPlace_any _ _ _ _ h).mono ?_; rintro e w' ⟨rfl, rfl⟩))
        go_ret3
        obtain ⟨e1, e2, e3⟩ := E.out
        exact ⟨by rw [e1, e2, e3]; rfl, Kp.refl _⟩
      · by_cases c1 : y < 64
        · have hs : (y : Int) / 64 = 0 := by omega
          have hcut := h.cutAt p 1 (by omega) (by omega)
          have hcp : (1 : Int) ≤ ((c - p : Nat) : Int) := by omega
          have hcp0 : ¬ c - p = 0 := by omega
          have hx : ¬ ((l.length - p : Nat) : Int) < 1 := by omega
          have E := Lib.hid (tl_one hp (by omega))
          have hv : val ((l.drop p).take 1) = y := by
            have h1 := val_range (b := l) (p := p) 0 (by omega)
            simp only [← hy, Nat.zero_add, Nat.pow_zero, Nat.mul_one] at h1
            omega
          rw [← hy] at E
          clear hy hcell
          go_enter Try.func19, Try.ntmps19
          go_wp2_with (first | (go_at_call 37; refine (isPlace_any _ _ _ _ h).mono ?_; rintro e w' ⟨rfl, rfl⟩))
          go_quiet ((go_at_call 38; exact quiet_left (numberOf_any _ _ _ (hcut.kp ((Kp.refl _).drewN _)) (by simp; omega))))
          go_wp2_with (first | (go_at_call 39; refine (mark0 _ _ (by omega)).mono ?_; rintro e w' ⟨rfl, rfl⟩))
          go_ret3
          obtain ⟨e1, e2, e3⟩ := E.out
          exact ⟨by rw [e1, e2, e3]; rfl, (Kp.refl _).drewN _⟩
        · by_cases c2 : y < 128
          · by_cases c4 : l.length < p + 2
            · have E := Lib.hid (tl_short hp (by omega) (by rw [width_two (by omega) (by omega)]; omega))
              have hs : (y : Int) / 64 = 1 := by omega
              have hx : ((l.length - p : Nat) : Int) < 2 := by omega
              clear hy hcell
              go_enter Try.func19, Try.ntmps19
              go_wp2_with (first | (go_at_call 37; refine (isPlace_any _ _ _ _ h).mono ?_; rintro e w' ⟨rfl, rfl⟩))
              go_ret3
              obtain ⟨e1, e2, e3⟩ := E.out
              exact ⟨by rw [e1, e2, e3]; rfl, Kp.refl _⟩
            · have E0 := tl_two hp (by omega) (by omega) (by omega)
              have hs : (y : Int) / 64 = 1 := by omega
              have hcut := h.cutAt p 2 (by omega) (by omega)
              have hcp : (2 : Int) ≤ ((c - p : Nat) : Int) := by omega
              have hcp0 : ¬ c - p = 0 := by omega
              have hx : ¬ ((l.length - p : Nat) : Int) < 2 := by omega
              have hvr := val_range (b := l) (p := p) 1 (by omega)
              rw [← hy, show 1 + 1 = 2 from rfl, Nat.pow_one] at hvr
              obtain ⟨hv1, hv2⟩ := hvr
              obtain ⟨V, hV⟩ : ∃ V : Nat, V = val ((l.drop p).take 2) := ⟨_, rfl⟩
              rw [← hV] at hv1 hv2 E0
              have hnum : ∀ W, Rd W (.slice (some ⟨b, off + p, none⟩) 2 (c - p)) ((l.drop p).take 2) → Calls Try.prog 38 #[.slice (some ⟨b, off + p, none⟩) 2 (c - p)] W fun e w' => e = .returned (.int .i64 V) ∧ W = w' := fun W hW => by rw [hV]; exact numberOf_any _ _ _ hW (by simp; omega)
              have HN := Lib.hid hnum
              clear hy hcell hV hnum
              by_cases c5 : V < 16448
              · have E := Lib.hid (E0.1 c5)
                clear E0
                go_enter Try.func19, Try.ntmps19
                go_wp2_with (first | (go_at_call 37; refine (isPlace_any _ _ _ _ h).mono ?_; rintro e w' ⟨rfl, rfl⟩))
                go_quiet ((go_at_call 38; exact quiet_left (HN.out _ (hcut.kp ((Kp.refl _).drewN _)))))
                go_wp2_with (first | (go_at_call 39; refine (mark0 _ _ (by omega)).mono ?_; rintro e w' ⟨rfl, rfl⟩))
                go_ret3
                obtain ⟨e1, e2, e3⟩ := E.out
                exact ⟨by rw [e1, e2, e3]; rfl, (Kp.refl _).drewN _⟩
              · have E := Lib.hid (E0.2 (by omega))
                clear E0
                go_enter Try.func19, Try.ntmps19
                go_wp2_with (first | (go_at_call 37; refine (isPlace_any _ _ _ _ h).mono ?_; rintro e w' ⟨rfl, rfl⟩))
                go_quiet ((go_at_call 38; exact quiet_left (HN.out _ (hcut.kp ((Kp.refl _).drewN _)))))
                go_wp2_with (first | (go_at_call 39; refine (mark1 _ _ (by omega) (by omega)).mono ?_; rintro e w' ⟨rfl, rfl⟩))
                go_ret3
                obtain ⟨e1, e2, e3⟩ := E.out
                exact ⟨by rw [e1, e2, e3]; rfl, (Kp.refl _).drewN _⟩
          · by_cases c4 : l.length < p + 4
            · have E := Lib.hid (tl_short hp (by omega) (by rw [width_four (by omega)]; omega))
              have hs : (y : Int) / 64 = 2 := by omega
              have hx : ((l.length - p : Nat) : Int) < 4 := by omega
              clear hy hcell
              go_enter Try.func19, Try.ntmps19
              go_wp2_with (first | (go_at_call 37; refine (isPlace_any _ _ _ _ h).mono ?_; rintro e w' ⟨rfl, rfl⟩))
              go_ret3
              obtain ⟨e1, e2, e3⟩ := E.out
              exact ⟨by rw [e1, e2, e3]; rfl, Kp.refl _⟩
            · have E0 := tl_four hp (by omega) (by omega) (by omega)
              have hs : (y : Int) / 64 = 2 := by omega
              have hcut := h.cutAt p 4 (by omega) (by omega)
              have hcp : (4 : Int) ≤ ((c - p : Nat) : Int) := by omega
              have hcp0 : ¬ c - p = 0 := by omega
              have hx : ¬ ((l.length - p : Nat) : Int) < 4 := by omega
              have hvr := val_range (b := l) (p := p) 3 (by omega)
              rw [← hy, show 3 + 1 = 4 from rfl, show 256 ^ 3 = 16777216 from by decide] at hvr
              obtain ⟨hv1, hv2⟩ := hvr
              obtain ⟨V, hV⟩ : ∃ V : Nat, V = val ((l.drop p).take 4) := ⟨_, rfl⟩
              rw [← hV] at hv1 hv2 E0
              have hnum : ∀ W, Rd W (.slice (some ⟨b, off + p, none⟩) 4 (c - p)) ((l.drop p).take 4) → Calls Try.prog 38 #[.slice (some ⟨b, off + p, none⟩) 4 (c - p)] W fun e w' => e = .returned (.int .i64 V) ∧ W = w' := fun W hW => by rw [hV]; exact numberOf_any _ _ _ hW (by simp; omega)
              have HN := Lib.hid hnum
              clear hy hcell hV hnum
              by_cases c5 : V < 2147483712
              · have E := Lib.hid (E0.1 (by omega))
                clear E0
                go_enter Try.func19, Try.ntmps19
                go_wp2_with (first | (go_at_call 37; refine (isPlace_any _ _ _ _ h).mono ?_; rintro e w' ⟨rfl, rfl⟩))
                go_quiet ((go_at_call 38; exact quiet_left (HN.out _ (hcut.kp ((Kp.refl _).drewN _)))))
                go_wp2_with (first | (go_at_call 39; refine (mark0 _ _ (by omega)).mono ?_; rintro e w' ⟨rfl, rfl⟩))
                go_ret3
                obtain ⟨e1, e2, e3⟩ := E.out
                exact ⟨by rw [e1, e2, e3]; rfl, (Kp.refl _).drewN _⟩
              · by_cases c6 : V < 2147500032
                · have E := Lib.hid (E0.1 c6)
                  clear E0
                  go_enter Try.func19, Try.ntmps19
                  go_wp2_with (first | (go_at_call 37; refine (isPlace_any _ _ _ _ h).mono ?_; rintro e w' ⟨rfl, rfl⟩))
                  go_quiet ((go_at_call 38; exact quiet_left (HN.out _ (hcut.kp ((Kp.refl _).drewN _)))))
                  go_wp2_with (first | (go_at_call 39; refine (mark1 _ _ (by omega) (by omega)).mono ?_; rintro e w' ⟨rfl, rfl⟩))
                  go_ret3
                  obtain ⟨e1, e2, e3⟩ := E.out
                  exact ⟨by rw [e1, e2, e3]; rfl, (Kp.refl _).drewN _⟩
                · have E := Lib.hid (E0.2 (by omega))
                  clear E0
                  go_enter Try.func19, Try.ntmps19
                  go_wp2_with (first | (go_at_call 37; refine (isPlace_any _ _ _ _ h).mono ?_; rintro e w' ⟨rfl, rfl⟩))
                  go_quiet ((go_at_call 38; exact quiet_left (HN.out _ (hcut.kp ((Kp.refl _).drewN _)))))
                  go_wp2_with (first | (go_at_call 39; refine (mark2 _ _ (by omega)).mono ?_; rintro e w' ⟨rfl, rfl⟩))
                  go_ret3
                  obtain ⟨e1, e2, e3⟩ := E.out
                  exact ⟨by rw [e1, e2, e3]; rfl, (Kp.refl _).drewN _⟩
  · have d2 : decide (0 ≤ at' ∧ at' ≤ l.length) = false := by simp [h2]
    have E := Lib.hid (tl_arg (b := l) (at' := at') (by omega))
    go_enter Try.func19, Try.ntmps19
    go_wp2_with (first | (go_at_call 37; refine (isPlace_any _ _ _ _ h).mono ?_; rintro e w' ⟨rfl, rfl⟩))
    go_ret3
    obtain ⟨e1, e2, e3⟩ := E.out
    exact ⟨by rw [e1, e2, e3]; rfl, Kp.refl _⟩
end Go.Proofs.Ytpaopnjknpoacaa

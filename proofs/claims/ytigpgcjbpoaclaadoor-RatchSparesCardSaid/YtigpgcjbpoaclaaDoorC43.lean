import Derived.Test.YtigpgcjbpoaclaaDoorC39
set_option linter.unusedVariables false
set_option linter.unusedSimpArgs false
namespace Go.Proofs.YtigpgcjbpoaclaaDoor
open Go.RowKit
def ixF (l : List Lk) (a : Int) : Int := if spAt l a < l.length then (spAt l a : Int) else -1
set_option maxRecDepth 100000 in
set_option maxHeartbeats 1000000 in
theorem ratchIs_any (p a : Int) (x y : Value) (g : Nat) (w : World) (hx : ∃ b n c, x = .slice b n c) (hy : ∃ b n c, y = .slice b n c) (hc : w.cell? ⟨g, 0, none⟩ = some (.int .i64 a)) :
    Calls Tryd.prog 27 #[.agg #[.int .i64 p, x, y], .pointer (some ⟨g, 0, none⟩)] w fun e w' => e = .returned (.bool (p == a)) ∧ Kp w w' := by
  obtain ⟨b1, n1, c1, rfl⟩ := hx
  obtain ⟨b2, n2, c2, rfl⟩ := hy
  have hc1 := Kp.cell ((Kp.refl w).alloc (.cells #[.int .i64 p, .slice b1 n1 c1, .slice b2 n2 c2] 37)) hc
  go_enter Tryd.func27, Tryd.ntmps27
  go_wp2_with fail
  go_ret
  exact ⟨rfl, (Kp.refl _).alloc _⟩
set_option maxRecDepth 100000 in
set_option maxHeartbeats 1000000 in
theorem ratchIndex_any (u : Value) (l : List Lk) (a : Int) (g : Nat) (w : World) (hu : LL w u l) (hc : w.cell? ⟨g, 0, none⟩ = some (.int .i64 a)) :
    Calls Tryd.prog 26 #[u, .func (.func 27) #[] #[.pointer (some ⟨g, 0, none⟩)]] w fun e w' => e = .returned (.int .i64 (ixF l a)) ∧ Kp w w' := by
  obtain ⟨au, cu, rfl, p1, s1⟩ := SE.shape hu
  unfold maxLen at s1
  have HU := Lib.hid hu
  have HF := Lib.hid (fun W (hW : Kp w W) (p : Int) (x y : Value) (hx : ∃ b n c, x = .slice b n c) (hy : ∃ b n c, y = .slice b n c) => ratchIs_any p a x y g W hx hy (hW.cell hc))
  have HY : Hid (∀ k : Nat, k < l.length → (lkAt l k).pos = a → (∀ j, j < k → (lkAt l j).pos ≠ a) → ixF l a = (k : Int)) := fun k hk h hp => by
    unfold ixF
    rw [spAt_eq hk h hp, if_pos hk]
  have HN : Hid ((∀ k, k < l.length → (lkAt l k).pos ≠ a) → ixF l a = -1) := fun h => by
    unfold ixF
    rw [spAt_none h, if_neg (Nat.lt_irrefl _)]
  generalize ixF l a = FI at *
  obtain ⟨N, hN⟩ : ∃ N, l.length = N := ⟨_, rfl⟩
  have HN2 := Lib.hid hN
  rw [hN] at HU HY HN p1 ⊢
  clear hu hN hc
  go_enter Tryd.func26, Tryd.ntmps26
  go_wp2_with fail
  go_loopw [8] (fun i wr => ∃ k : Nat, k ≤ N ∧ i = .int .i64 (k : Int) ∧ (∀ j, j < k → (lkAt l j).pos ≠ a) ∧ Kp w wr) (fun i _ => (N - (intOf i).toNat))
  case atStart => exact ⟨0, Nat.zero_le _, rfl, fun t h => by omega, Kp.refl _⟩
  case round =>
    obtain ⟨k, hk, rfl, hpre, hkp⟩ := hrel
    have HPR := Lib.hid hpre
    have KK := Lib.hid hkp
    clear hpre hkp
    by_cases hlt : k < N
    · obtain ⟨gs, os, cs, p, q, e1, _, hnd⟩ := LL.nodeK (i := k) HU.out (by rw [HN2.out]; exact hlt)
      rw [HN2.out] at e1
      simp only [Value.slice.injEq] at e1
      obtain ⟨rfl, _, rfl⟩ := e1
      obtain ⟨c0, c1, c2, rp, rq⟩ := hnd wr KK.out
      obtain ⟨ap, np, cp, rfl⟩ := rp.sl
      obtain ⟨aq, nq, cq, rfl⟩ := rq.sl
      have HFK := Lib.hid (HF.out wr KK.out (lkAt l k).pos (.slice ap np cp) (.slice aq nq cq) ⟨_, _, _, rfl⟩ ⟨_, _, _, rfl⟩)
      have HYK := Lib.hid (HY.out k hlt)
      have HPK : Hid ((lkAt l k).pos ≠ a → ∀ j, j < k + 1 → (lkAt l j).pos ≠ a) := fun h j hj => by
        rcases Nat.lt_or_ge j k with h6 | h6
        · exact HPR.out j h6
        · obtain rfl : j = k := by omega
          exact h
      have i1 : IntKind.i64.wrap ((k : Int) + 1) = (k : Int) + 1 := IntWalk.i64_in _ (by omega)
      have i3 : (k : Int) < (N : Int) := by omega
      generalize (lkAt l k).pos = X at *
      clear rp rq HF HY hnd
      by_cases hX : X = a
      · have hb : (X == a) = true := beq_iff_eq.2 hX
        have HR := Lib.hid (HYK.out hX HPR.out)
        rw [hb] at HFK
        clear hX HYK HPK
        go_wp2_with (go_at_call 27; refine HFK.out.mono ?_; rintro _ w4 ⟨rfl, k4⟩; have K4 := Lib.hid (KK.out.trans k4))
        go_ret
        exact ⟨by rw [HR.out]; rfl, K4.out⟩
      · have hb : (X == a) = false := beq_eq_false_iff_ne.2 hX
        have HR := Lib.hid (HPK.out hX)
        rw [hb] at HFK
        clear hX HYK HPK
        go_wp2_with (go_at_call 27; refine HFK.out.mono ?_; rintro _ w4 ⟨rfl, k4⟩; have K4 := Lib.hid (KK.out.trans k4))
        go_roundw
        case rel => exact ⟨k + 1, by omega, by first | rfl | (rw [i1]; rfl) | go_num, HR.out, K4.out⟩
        case measure => simp [intOf]; omega
    · obtain rfl : k = N := by omega
      have HR := Lib.hid (HN.out HPR.out)
      have i3 : ¬ (k : Int) < (k : Int) := by omega
      clear HN HY
      go_wp2_with fail
      go_ret
      exact ⟨by rw [HR.out]; rfl, KK.out⟩
end Go.Proofs.YtigpgcjbpoaclaaDoor

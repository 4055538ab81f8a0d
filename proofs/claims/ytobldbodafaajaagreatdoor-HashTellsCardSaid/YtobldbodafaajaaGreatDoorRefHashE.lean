/- pyxref10: held, Held. -/
import Derived.Test.YtobldbodafaajaaGreatDoorRefHash10
import Derived.Test.YtobldbodafaajaaGreatDoorByt9
import Derived.Deep.RegionHeld3
set_option linter.unusedVariables false
set_option linter.unusedSimpArgs false
namespace Go.Proofs.YtobldbodafaajaaGreatDoor
open Go.RowKit

set_option maxRecDepth 100000 in
set_option maxHeartbeats 8000000 in
theorem held10_nd (vt : Value) (t : List Nod) (K j q : Nat) (side : Int) (w : World) (hT : TidyT t K) (hr : RightK t K) (ht : NL w vt t) (hj : j + 1 ≤ K) (hq : q < 2 ^ (K - (j + 1))) (hs : side = 0 ∨ side = 1) :
    Calls Tryz.prog 49 #[vt, .int .i64 ((nd (j + 1) q : Nat) : Int), .int .i64 side] w fun e w' => Tells e (heldS t (nd (j + 1) q) side) ∧ Kp w w' := by
  obtain ⟨x1, x2⟩ := hT.lt hj hq
  obtain ⟨k1, k2⟩ := kid10 hj hq
  obtain ⟨_, y1, y2⟩ := nd_small hT.le hj hq
  obtain ⟨f1, f2, f3⟩ := ch_yes (j := j) (q := q) y1 y2
  have HLE := Lib.hid (fun W => refLeft_any ((nd (j + 1) q : Nat) : Int) W)
  have HRI := Lib.hid (fun W => refRight_any ((nd (j + 1) q : Nat) : Int) W)
  rw [f1, f2] at HLE
  rw [f1, f3] at HRI
  obtain ⟨QQ, hQQ⟩ : ∃ QQ, (if side = 1 then 2 * q + 1 else 2 * q) = QQ := ⟨_, rfl⟩
  have hQl : QQ < 2 ^ (K - j) := by rw [← hQQ]; split <;> assumption
  have hQ01 : (side = 0 → 2 * q = QQ) ∧ (side = 1 → 2 * q + 1 = QQ) := by
    rw [← hQQ]
    exact ⟨fun h => by rw [h]; rfl, fun h => by rw [h]; rfl⟩
  have HAB := Lib.hid (refAbove_any vt t K ((nd (j + 1) q : Nat) : Int) side w hT ht)
  have HRS := Lib.hid (fun W (hW : Kp w W) => refResolve_any vt t K ((nd j QQ : Nat) : Int) W (ht.kp hW) hr)
  have hrv := res_nd hr (j := j) (q := QQ) (by omega) hQl
  have hel := res_in hr j QQ (by omega) hQl
  have hrl := res_len hr j QQ (by omega) hQl
  have hpw : 2 ^ (j + 1) ≤ 1024 := p2_le (by have := hr.le; omega)
  have HHS : Hid (heldS t (nd (j + 1) q) side ↔ ∃ y ∈ resF t j QQ, ¬ (y % 2 = 0 ∧ y / 2 ∈ (ats t (nd (j + 1) q)).un) ∧ (ats t y.toNat).hash = aboV t ((nd (j + 1) q : Nat) : Int) side) := by
    unfold Hid heldS
    rw [lev_nd (j + 1) q (by omega), qOf_nd (j + 1) q (by omega), Nat.add_sub_cancel, hQQ, hrv]
  rw [hrv] at HRS
  rw [propext HHS.out]
  clear HHS hrv
  obtain ⟨Q, hQ⟩ : ∃ Q : Prop, (∃ y ∈ resF t j QQ, ¬ (y % 2 = 0 ∧ y / 2 ∈ (ats t (nd (j + 1) q)).un) ∧ (ats t y.toNat).hash = aboV t ((nd (j + 1) q : Nat) : Int) side) = Q := ⟨_, rfl⟩
  rw [hQ]
  have HQY : Hid (∀ (y : Nat) i, i < (resF t j QQ).length → (resF t j QQ).getD i 0 = (y : Int) → ¬ (y % 2 = 0 ∧ ((y / 2 : Nat) : Int) ∈ (ats t (nd (j + 1) q)).un) ∧ (ats t y).hash = aboV t ((nd (j + 1) q : Nat) : Int) side → Q) := fun y i hi he h => by
    rw [← hQ]
    refine ⟨(y : Int), ?_, fun h2 => h.1 ⟨by omega, ?_⟩, by rw [Int.toNat_natCast]; exact h.2⟩
    · rw [← he, List.getD_eq_getElem?_getD, List.getElem?_eq_getElem hi]; exact List.getElem_mem _
    · rw [show ((y / 2 : Nat) : Int) = (y : Int) / 2 by omega]; exact h2.2
  have HQN : Hid ((∀ (y : Nat) i, i < (resF t j QQ).length → (resF t j QQ).getD i 0 = (y : Int) → ¬ (¬ (y % 2 = 0 ∧ ((y / 2 : Nat) : Int) ∈ (ats t (nd (j + 1) q)).un) ∧ (ats t y).hash = aboV t ((nd (j + 1) q : Nat) : Int) side)) → ¬ Q) := fun h hq2 => by
    rw [← hQ] at hq2
    obtain ⟨y, hy, h1, h2⟩ := hq2
    obtain ⟨i, hi, e⟩ := List.getElem_of_mem hy
    obtain ⟨n, rfl, hn, _⟩ := hel y hy
    refine h n i hi (by rw [List.getD_eq_getElem?_getD, List.getElem?_eq_getElem hi]; exact e) ⟨fun h3 => h1 ⟨by omega, ?_⟩, by rw [Int.toNat_natCast] at h2; exact h2⟩
    rw [show (n : Int) / 2 = ((n / 2 : Nat) : Int) by omega]; exact h3.2
  have HEL : Hid (∀ i, i < (resF t j QQ).length → ∃ y : Nat, (resF t j QQ).getD i 0 = (y : Int) ∧ y < t.length) := fun i hi => by
    obtain ⟨n, e, hn, _⟩ := hel (resF t j QQ)[i] (List.getElem_mem hi)
    exact ⟨n, by rw [List.getD_eq_getElem?_getD, List.getElem?_eq_getElem hi]; exact e, hn⟩
  obtain ⟨a, c, rfl, h1, h2⟩ := ht.shape
  obtain ⟨b0, off0, c0', p0, u0, h0, e0, hn0⟩ := ht.node x1
  simp only [Value.slice.injEq] at e0
  obtain ⟨rfl, -, rfl⟩ := e0
  have HNX := Lib.hid (And.intro hn0.unC hn0.2.un)
  obtain ⟨au, nu, cu, rfl⟩ := hn0.2.un.sl
  have HTT : Hid (∀ y, y < t.length → ∃ p u h, NAt w b0 (off0 + y * 5) (ats t y) p u h) := fun y hy => by
    obtain ⟨_, _, _, _, hi⟩ := ht.at y hy
    rename_i bb oo e1 _
    simp only [Option.some.injEq, Addr.mk.injEq, and_true] at e1
    obtain ⟨rfl, rfl⟩ := e1
    exact hi y hy
  obtain ⟨ZZ, hZZ⟩ : ∃ ZZ, resF t j QQ = ZZ := ⟨_, rfl⟩
  rw [hZZ] at HRS HQY HQN HEL hrl
  have hts : t.length ≤ 2047 := by have := hr.small; omega
  have hX5 : ((nd (j + 1) q : Nat) : Int) < (t.length : Int) := by omega
  have HXQ : Hid ((side = 0 → nd j (2 * q) = nd j QQ) ∧ (side = 1 → nd j (2 * q + 1) = nd j QQ)) := ⟨fun h => by rw [hQ01.1 h], fun h => by rw [hQ01.2 h]⟩
  generalize aboV t ((nd (j + 1) q : Nat) : Int) side = WT at *
  generalize aboE t ((nd (j + 1) q : Nat) : Int) side = WE at *
  generalize (ats t (nd (j + 1) q)).un = UN at *
  clear hT hr ht hq hj x1 k1 k2 y1 y2 f1 f2 f3 hQQ hQl hQ01 hel hQ hn0 hZZ
  generalize nd j (2 * q) = XL at *
  generalize nd j (2 * q + 1) = XR at *
  generalize nd (j + 1) q = X at *
  generalize nd j QQ = XC at *
  generalize t.length = TL at *
  have hZl : ZZ.length ≤ 1024 := by omega
  rcases hs with rfl | rfl
  · have hx := HXQ.out.1 rfl
    subst hx
    go_enter Tryz.func49, Tryz.ntmps49
    go_wp2_with fail
    refine HAB.out.mono ?_; rintro _ w1 ⟨⟨r1, rfl, s1⟩, k1⟩
    obtain ⟨a1, n1, c1, rfl⟩ := rd_sl10 s1
    have K1 : Hid (Kp w w1) := k1
    have HW1 := Lib.hid s1
    clear k1 s1 HAB
    go_wp2_with fail
    refine (HLE.out _).mono ?_; rintro _ _ ⟨rfl, rfl⟩
    go_wp2_with fail
    refine (HRS.out _ K1.out).mono ?_; rintro _ w2 ⟨⟨r2, rfl, o2⟩, k2⟩
    have K2 := Lib.hid (K1.out.trans k2)
    have HW2 := Lib.hid (HW1.out.kp k2)
    have HZ := Lib.hid o2.ri
    obtain ⟨az, cz, ez, pz, _⟩ := o2.ri.shape
    subst ez
    obtain ⟨ZL, hZL⟩ : ∃ ZL, ZZ.length = ZL := ⟨_, rfl⟩
    rw [hZL] at HZ HQY HQN HEL hZl pz ⊢
    clear o2 k2 HRS HLE HRI HW1 hZL
    go_wp2_with fail
    go_loopw [14] (fun x wr => ∃ i : Nat, i ≤ ZL ∧ x = .int .i64 (i : Int) ∧ (∀ (y : Nat) k, k < i → ZZ.getD k 0 = (y : Int) → ¬ (¬ (y % 2 = 0 ∧ ((y / 2 : Nat) : Int) ∈ UN) ∧ (ats t y).hash = WT)) ∧ Kp w2 wr) (fun x _ => (ZL - (intOf x).toNat))
    case atStart => exact ⟨0, Nat.zero_le _, rfl, fun y k h => by omega, Kp.refl _⟩
    case round =>
      obtain ⟨i, hi, rfl, hpre, hkp⟩ := hrel
      have KR := Lib.hid hkp
      by_cases hlt : i < ZL
      · obtain ⟨y, hy, hyt⟩ := HEL.out i hlt
        obtain ⟨gz, oz, rfl, _, hcz⟩ := (HZ.out.kp hkp).at i hlt
        have cz1 := hcz i hlt
        rw [hy] at cz1
        obtain ⟨p, u, h, hn⟩ := HTT.out y hyt
        have hnw := hn.kp (K2.out.trans hkp)
        have c4 := hnw.hashC
        obtain ⟨ah, nh, ch, rfl⟩ := rd_sl10 hnw.2.hash
        have c3 := (K2.out.trans hkp).cell HNX.out.1
        have HINi := Lib.hid (fun W (hW : Kp wr W) => refInI_any (.slice au nu cu) UN ((y / 2 : Nat) : Int) W (HNX.out.2.kp ((K2.out.trans hkp).trans hW)))
        have HSA := Lib.hid (fun W (hW : Kp wr W) => same_any (.slice ah nh ch) (.slice a1 n1 c1) (ats t y).hash WT W (hnw.2.hash.kp hW) ((HW2.out.kp hkp).kp hW))
        have HYES := Lib.hid (HQY.out y i hlt hy)
        have HPRE : Hid (¬ (¬ (y % 2 = 0 ∧ ((y / 2 : Nat) : Int) ∈ UN) ∧ (ats t y).hash = WT) → ∀ (y : Nat) k, k < i + 1 → ZZ.getD k 0 = (y : Int) → ¬ (¬ (y % 2 = 0 ∧ ((y / 2 : Nat) : Int) ∈ UN) ∧ (ats t y).hash = WT)) := fun h z k hk => by
          rcases Nat.lt_or_eq_of_le (Nat.lt_succ_iff.1 hk) with h3 | h3
          · exact hpre z k h3
          · rw [h3, hy]
            intro e
            have : z = y := by omega
            rw [this]; exact h
        have i1 : IntKind.i64.wrap ((i : Int) + 1) = (i : Int) + 1 := IntWalk.i64_in _ (by omega)
        have i3 : (i : Int) < (ZL : Int) := by omega
        have i4 : (y : Int) < (TL : Int) := by omega
        have e2 : (y : Int).tdiv 2 = ((y / 2 : Nat) : Int) := by rw [Int.tdiv_eq_ediv_of_nonneg (by omega)]; omega
        have e3 : IntKind.i64.wrap ((y / 2 : Nat) : Int) = ((y / 2 : Nat) : Int) := IntWalk.i64_in _ (by omega)
        have e5 : (y : Int).tmod 2 = ((y % 2 : Nat) : Int) := by rw [Int.tmod_eq_emod_of_nonneg (by omega)]; omega
        generalize (ats t y).hash = HH at *
        clear hcz hn hnw HTT HEL HQY HQN HZ hpre hkp HNX HW2 HXQ
        by_cases hev : y % 2 = 0
        · rw [hev] at e5
          by_cases hin : ((y / 2 : Nat) : Int) ∈ UN
          · rw [decide_eq_true hin] at HINi
            have hno : ¬ (¬ (y % 2 = 0 ∧ ((y / 2 : Nat) : Int) ∈ UN) ∧ HH = WT) := fun h => h.1 ⟨hev, hin⟩
            generalize ((y / 2 : Nat) : Int) = Y2 at *
            have KD : Hid ((fun W => W.cell? ⟨gz, oz + i, none⟩ = some (.int .i64 (y : Int)) ∧ W.cell? ⟨b0, off0 + X * 5 + 3, none⟩ = some (.slice au nu cu)) wr.drew) := ⟨cz1, c3⟩
            go_wp2_with fail
            refine wp_region_held_drew (S := fun W => W.cell? ⟨gz, oz + i, none⟩ = some (.int .i64 (y : Int)) ∧ W.cell? ⟨b0, off0 + X * 5 + 3, none⟩ = some (.slice au nu cu)) (by kernel_rfl) (KD.out) (fun hHeld => ?_)
            refine wpAnyH_take (i := 0) (oi := ⟨some 45, _, _, _, _, _⟩) (v := ?_) rfl (by kernel_rfl) (by kernel_rfl) (by kernel_rfl) (fun _ _ _ h => h) (Or.inl ⟨by kernel_rfl, ?_⟩) (by assumption) ?_
            rotate_left
            focus ((intro w hSw; (try dsimp only at hSw); go_simp); (try with_reducible rfl); done)
            simp only [Act.put, List.setIfInBounds_toArray, List.set_cons_zero, List.set_cons_succ]
            refine wpAnyH_take (i := 1) (oi := ⟨some 46, _, _, _, _, _⟩) (v := ?_) rfl (by kernel_rfl) (by kernel_rfl) (by kernel_rfl) (fun _ _ _ h => h) (Or.inl ⟨by kernel_rfl, ?_⟩) (by assumption) ?_
            rotate_left
            focus ((intro w hSw; (try dsimp only at hSw); go_simp); (try with_reducible rfl); done)
            simp only [Act.put, List.setIfInBounds_toArray, List.set_cons_zero, List.set_cons_succ]
            refine wpAnyH_take (i := 2) (oi := ⟨some 47, _, _, _, _, _⟩) (v := ?_) rfl (by kernel_rfl) (by kernel_rfl) (by kernel_rfl) (fun _ _ _ h => h) (Or.inl ⟨by kernel_rfl, ?_⟩) (by assumption) ?_
            rotate_left
            focus ((intro w hSw; (try dsimp only at hSw); go_simp); (try with_reducible rfl); done)
            simp only [Act.put, List.setIfInBounds_toArray, List.set_cons_zero, List.set_cons_succ]
            refine wpAnyH_take (i := 3) (oi := ⟨some 48, _, _, _, _, _⟩) (v := ?_) rfl (by kernel_rfl) (by kernel_rfl) (by kernel_rfl) (fun _ _ _ h => h) (Or.inl ⟨by kernel_rfl, ?_⟩) (by assumption) ?_
            rotate_left
            focus ((intro w hSw; (try dsimp only at hSw); go_simp); (try with_reducible rfl); done)
            simp only [Act.put, List.setIfInBounds_toArray, List.set_cons_zero, List.set_cons_succ]
            refine wpAnyH_take (i := 4) (oi := ⟨some 49, _, _, _, _, _⟩) (v := ?_) rfl (by kernel_rfl) (by kernel_rfl) (by kernel_rfl) (fun _ _ _ h => h) (Or.inl ⟨by kernel_rfl, ?_⟩) (by assumption) ?_
            rotate_left
            focus ((intro w hSw; (try dsimp only at hSw); go_simp); (try with_reducible rfl); done)
            simp only [Act.put, List.setIfInBounds_toArray, List.set_cons_zero, List.set_cons_succ]
            refine wpAnyH_take (i := 5) (oi := ⟨some 50, _, _, _, _, _⟩) (v := ?_) rfl (by kernel_rfl) (by kernel_rfl) (by kernel_rfl) (fun _ _ _ h => h) (Or.inl ⟨by kernel_rfl, ?_⟩) (by assumption) ?_
            rotate_left
            focus ((intro w hSw; (try dsimp only at hSw); go_simp); (try with_reducible rfl); done)
            simp only [Act.put, List.setIfInBounds_toArray, List.set_cons_zero, List.set_cons_succ]
            refine wpAnyH_take (i := 6) (oi := ⟨some 51, _, _, _, _, _⟩) (v := ?_) rfl (by kernel_rfl) (by kernel_rfl) (by kernel_rfl) (fun _ _ _ h => h) (Or.inl ⟨by kernel_rfl, ?_⟩) (by assumption) ?_
            rotate_left
            focus ((intro w hSw; (try dsimp only at hSw); go_simp); (try with_reducible rfl); done)
            simp only [Act.put, List.setIfInBounds_toArray, List.set_cons_zero, List.set_cons_succ]
            refine wpAnyH_take (i := 7) (oi := ⟨some 52, _, _, _, _, _⟩) (v := ?_) rfl (by kernel_rfl) (by kernel_rfl) (by kernel_rfl) (fun _ _ _ h => h) (Or.inl ⟨by kernel_rfl, ?_⟩) (by assumption) ?_
            rotate_left
            focus ((intro w hSw; (try dsimp only at hSw); go_simp); (try with_reducible rfl); done)
            simp only [Act.put, List.setIfInBounds_toArray, List.set_cons_zero, List.set_cons_succ]
            refine wpAnyH_take (i := 8) (oi := ⟨some 53, _, _, _, _, _⟩) (v := ?_) rfl (by kernel_rfl) (by kernel_rfl) (by kernel_rfl) (fun _ _ _ h => h) (Or.inl ⟨by kernel_rfl, ?_⟩) (by assumption) ?_
            rotate_left
            focus ((intro w hSw; (try dsimp only at hSw); go_simp); (try with_reducible rfl); done)
            simp only [Act.put, List.setIfInBounds_toArray, List.set_cons_zero, List.set_cons_succ]
            refine wpAnyH_take (i := 9) (oi := ⟨some 54, _, _, _, _, _⟩) (v := ?_) rfl (by kernel_rfl) (by kernel_rfl) (by kernel_rfl) (fun _ _ _ h => h) (Or.inl ⟨by kernel_rfl, ?_⟩) (by assumption) ?_
            rotate_left
            focus ((intro w hSw; (try dsimp only at hSw); go_simp); (try with_reducible rfl); done)
            simp only [Act.put, List.setIfInBounds_toArray, List.set_cons_zero, List.set_cons_succ]
            refine wpAnyH_take (i := 10) (oi := ⟨some 55, _, _, _, _, _⟩) (v := ?_) rfl (by kernel_rfl) (by kernel_rfl) (by kernel_rfl) (fun _ _ _ h => h) (Or.inl ⟨by kernel_rfl, ?_⟩) (by assumption) ?_
            rotate_left
            focus ((intro w hSw; (try dsimp only at hSw); go_simp); (try with_reducible rfl); done)
            simp only [Act.put, List.setIfInBounds_toArray, List.set_cons_zero, List.set_cons_succ]
            refine wpAnyH_take (i := 11) (oi := ⟨some 56, _, _, _, _, _⟩) (v := ?_) rfl (by kernel_rfl) (by kernel_rfl) (by kernel_rfl) (fun _ _ _ h => h) (Or.inl ⟨by kernel_rfl, ?_⟩) (by assumption) ?_
            rotate_left
            focus ((intro w hSw; (try dsimp only at hSw); go_simp); (try with_reducible rfl); done)
            simp only [Act.put, List.setIfInBounds_toArray, List.set_cons_zero, List.set_cons_succ]
            refine wpAnyH_take (i := 12) (oi := ⟨some 57, _, _, _, _, _⟩) (v := ?_) rfl (by kernel_rfl) (by kernel_rfl) (by kernel_rfl) (fun _ _ _ h => h) (Or.inl ⟨by kernel_rfl, ?_⟩) (by assumption) ?_
            rotate_left
            focus ((intro w hSw; (try dsimp only at hSw); go_simp); (try with_reducible rfl); done)
            simp only [Act.put, List.setIfInBounds_toArray, List.set_cons_zero, List.set_cons_succ]
            refine wpAnyH_take (i := 13) (oi := ⟨some 58, _, _, _, _, _⟩) (v := ?_) rfl (by kernel_rfl) (by kernel_rfl) (by kernel_rfl) (fun _ _ _ h => h) (Or.inl ⟨by kernel_rfl, ?_⟩) (by assumption) ?_
            rotate_left
            focus ((intro w hSw; (try dsimp only at hSw); go_simp); (try with_reducible rfl); done)
            simp only [Act.put, List.setIfInBounds_toArray, List.set_cons_zero, List.set_cons_succ]
            refine wpAnyH_take (i := 14) (oi := ⟨some 59, _, _, _, _, _⟩) (v := ?_) rfl (by kernel_rfl) (by kernel_rfl) (by kernel_rfl) (fun _ _ _ h => h) (Or.inl ⟨by kernel_rfl, ?_⟩) (by assumption) ?_
            rotate_left
            focus ((intro w hSw; (try dsimp only at hSw); go_simp); (try with_reducible rfl); done)
            simp only [Act.put, List.setIfInBounds_toArray, List.set_cons_zero, List.set_cons_succ]
            refine wpAnyH_take (i := 15) (oi := ⟨some 60, _, _, _, _, _⟩) (v := ?_) rfl (by kernel_rfl) (by kernel_rfl) (by kernel_rfl) (fun _ _ _ h => h) (Or.inl ⟨by kernel_rfl, ?_⟩) (by assumption) ?_
            rotate_left
            focus ((intro w hSw; (try dsimp only at hSw); go_simp); (try with_reducible rfl); done)
            simp only [Act.put, List.setIfInBounds_toArray, List.set_cons_zero, List.set_cons_succ]
            refine wpAnyH_take (i := 16) (oi := ⟨some 61, _, _, _, _, _⟩) (v := ?_) rfl (by kernel_rfl) (by kernel_rfl) (by kernel_rfl) (fun _ _ _ h => h) (Or.inl ⟨by kernel_rfl, ?_⟩) (by assumption) ?_
            rotate_left
            focus ((intro w hSw; (try dsimp only at hSw); go_simp); (try with_reducible rfl); done)
            simp only [Act.put, List.setIfInBounds_toArray, List.set_cons_zero, List.set_cons_succ]
            refine wpAnyH_ready (rs := [17]) (by kernel_rfl) (by simp) ?_
            refine AllReadyH.cons (o := ⟨some 62, _, _, _, _, _⟩) rfl (fun K hK => ?_) AllReadyH.nil
            go_simp
            go_at_call 69; refine (HINi.out _ (by first | exact Kp.refl _ | exact (Kp.refl _).drew)).mono ?_; rintro _ _ ⟨rfl, rfl⟩
            refine hK.out _ _ (KD.out) (fun hHeld => ?_)
            clear hK K
            try simp only [Act.put, List.setIfInBounds_toArray, List.set_cons_zero, List.set_cons_succ]
            refine wpAnyH_take (i := 18) (oi := ⟨some 63, _, _, _, _, _⟩) (v := ?_) rfl (by kernel_rfl) (by kernel_rfl) (by kernel_rfl) (fun _ _ _ h => h) (Or.inl ⟨by kernel_rfl, ?_⟩) (by assumption) ?_
            rotate_left
            focus ((intro w hSw; (try dsimp only at hSw); go_simp); (try with_reducible rfl); done)
            simp only [Act.put, List.setIfInBounds_toArray, List.set_cons_zero, List.set_cons_succ]
            refine wpAnyH_take (i := 19) (oi := ⟨some 15, _, _, _, _, _⟩) (v := ?_) rfl (by kernel_rfl) (by kernel_rfl) (by kernel_rfl) (fun _ _ _ h => h) (Or.inl ⟨by kernel_rfl, ?_⟩) (by assumption) ?_
            rotate_left
            focus ((intro w hSw; (try dsimp only at hSw); go_simp); (try with_reducible rfl); done)
            simp only [Act.put, List.setIfInBounds_toArray, List.set_cons_zero, List.set_cons_succ]
            refine wpAnyH_done (by kernel_rfl) ?_ _
            all_goals
              go_wp2_with fail
              go_roundw
              case rel => exact ⟨i + 1, by omega, by go_num, HPRE.out hno, by first | exact KR.out.drew | exact KR.out⟩
              case measure => simp [intOf]; omega
          · rw [decide_eq_false hin] at HINi
            have hout : ¬ (y % 2 = 0 ∧ ((y / 2 : Nat) : Int) ∈ UN) := fun h => hin h.2
            generalize ((y / 2 : Nat) : Int) = Y2 at *
            have KD : Hid ((fun W => W.cell? ⟨gz, oz + i, none⟩ = some (.int .i64 (y : Int)) ∧ W.cell? ⟨b0, off0 + X * 5 + 3, none⟩ = some (.slice au nu cu)) wr.drew) := ⟨cz1, c3⟩
            go_wp2_with fail
            refine wp_region_held_drew (S := fun W => W.cell? ⟨gz, oz + i, none⟩ = some (.int .i64 (y : Int)) ∧ W.cell? ⟨b0, off0 + X * 5 + 3, none⟩ = some (.slice au nu cu)) (by kernel_rfl) (KD.out) (fun hHeld => ?_)
            refine wpAnyH_take (i := 0) (oi := ⟨some 45, _, _, _, _, _⟩) (v := ?_) rfl (by kernel_rfl) (by kernel_rfl) (by kernel_rfl) (fun _ _ _ h => h) (Or.inl ⟨by kernel_rfl, ?_⟩) (by assumption) ?_
            rotate_left
            focus ((intro w hSw; (try dsimp only at hSw); go_simp); (try with_reducible rfl); done)
            simp only [Act.put, List.setIfInBounds_toArray, List.set_cons_zero, List.set_cons_succ]
            refine wpAnyH_take (i := 1) (oi := ⟨some 46, _, _, _, _, _⟩) (v := ?_) rfl (by kernel_rfl) (by kernel_rfl) (by kernel_rfl) (fun _ _ _ h => h) (Or.inl ⟨by kernel_rfl, ?_⟩) (by assumption) ?_
            rotate_left
            focus ((intro w hSw; (try dsimp only at hSw); go_simp); (try with_reducible rfl); done)
            simp only [Act.put, List.setIfInBounds_toArray, List.set_cons_zero, List.set_cons_succ]
            refine wpAnyH_take (i := 2) (oi := ⟨some 47, _, _, _, _, _⟩) (v := ?_) rfl (by kernel_rfl) (by kernel_rfl) (by kernel_rfl) (fun _ _ _ h => h) (Or.inl ⟨by kernel_rfl, ?_⟩) (by assumption) ?_
            rotate_left
            focus ((intro w hSw; (try dsimp only at hSw); go_simp); (try with_reducible rfl); done)
            simp only [Act.put, List.setIfInBounds_toArray, List.set_cons_zero, List.set_cons_succ]
            refine wpAnyH_take (i := 3) (oi := ⟨some 48, _, _, _, _, _⟩) (v := ?_) rfl (by kernel_rfl) (by kernel_rfl) (by kernel_rfl) (fun _ _ _ h => h) (Or.inl ⟨by kernel_rfl, ?_⟩) (by assumption) ?_
            rotate_left
            focus ((intro w hSw; (try dsimp only at hSw); go_simp); (try with_reducible rfl); done)
            simp only [Act.put, List.setIfInBounds_toArray, List.set_cons_zero, List.set_cons_succ]
            refine wpAnyH_take (i := 4) (oi := ⟨some 49, _, _, _, _, _⟩) (v := ?_) rfl (by kernel_rfl) (by kernel_rfl) (by kernel_rfl) (fun _ _ _ h => h) (Or.inl ⟨by kernel_rfl, ?_⟩) (by assumption) ?_
            rotate_left
            focus ((intro w hSw; (try dsimp only at hSw); go_simp); (try with_reducible rfl); done)
            simp only [Act.put, List.setIfInBounds_toArray, List.set_cons_zero, List.set_cons_succ]
            refine wpAnyH_take (i := 5) (oi := ⟨some 50, _, _, _, _, _⟩) (v := ?_) rfl (by kernel_rfl) (by kernel_rfl) (by kernel_rfl) (fun _ _ _ h => h) (Or.inl ⟨by kernel_rfl, ?_⟩) (by assumption) ?_
            rotate_left
            focus ((intro w hSw; (try dsimp only at hSw); go_simp); (try with_reducible rfl); done)
            simp only [Act.put, List.setIfInBounds_toArray, List.set_cons_zero, List.set_cons_succ]
            refine wpAnyH_take (i := 6) (oi := ⟨some 51, _, _, _, _, _⟩) (v := ?_) rfl (by kernel_rfl) (by kernel_rfl) (by kernel_rfl) (fun _ _ _ h => h) (Or.inl ⟨by kernel_rfl, ?_⟩) (by assumption) ?_
            rotate_left
            focus ((intro w hSw; (try dsimp only at hSw); go_simp); (try with_reducible rfl); done)
            simp only [Act.put, List.setIfInBounds_toArray, List.set_cons_zero, List.set_cons_succ]
            refine wpAnyH_take (i := 7) (oi := ⟨some 52, _, _, _, _, _⟩) (v := ?_) rfl (by kernel_rfl) (by kernel_rfl) (by kernel_rfl) (fun _ _ _ h => h) (Or.inl ⟨by kernel_rfl, ?_⟩) (by assumption) ?_
            rotate_left
            focus ((intro w hSw; (try dsimp only at hSw); go_simp); (try with_reducible rfl); done)
            simp only [Act.put, List.setIfInBounds_toArray, List.set_cons_zero, List.set_cons_succ]
            refine wpAnyH_take (i := 8) (oi := ⟨some 53, _, _, _, _, _⟩) (v := ?_) rfl (by kernel_rfl) (by kernel_rfl) (by kernel_rfl) (fun _ _ _ h => h) (Or.inl ⟨by kernel_rfl, ?_⟩) (by assumption) ?_
            rotate_left
            focus ((intro w hSw; (try dsimp only at hSw); go_simp); (try with_reducible rfl); done)
            simp only [Act.put, List.setIfInBounds_toArray, List.set_cons_zero, List.set_cons_succ]
            refine wpAnyH_take (i := 9) (oi := ⟨some 54, _, _, _, _, _⟩) (v := ?_) rfl (by kernel_rfl) (by kernel_rfl) (by kernel_rfl) (fun _ _ _ h => h) (Or.inl ⟨by kernel_rfl, ?_⟩) (by assumption) ?_
            rotate_left
            focus ((intro w hSw; (try dsimp only at hSw); go_simp); (try with_reducible rfl); done)
            simp only [Act.put, List.setIfInBounds_toArray, List.set_cons_zero, List.set_cons_succ]
            refine wpAnyH_take (i := 10) (oi := ⟨some 55, _, _, _, _, _⟩) (v := ?_) rfl (by kernel_rfl) (by kernel_rfl) (by kernel_rfl) (fun _ _ _ h => h) (Or.inl ⟨by kernel_rfl, ?_⟩) (by assumption) ?_
            rotate_left
            focus ((intro w hSw; (try dsimp only at hSw); go_simp); (try with_reducible rfl); done)
            simp only [Act.put, List.setIfInBounds_toArray, List.set_cons_zero, List.set_cons_succ]
            refine wpAnyH_take (i := 11) (oi := ⟨some 56, _, _, _, _, _⟩) (v := ?_) rfl (by kernel_rfl) (by kernel_rfl) (by kernel_rfl) (fun _ _ _ h => h) (Or.inl ⟨by kernel_rfl, ?_⟩) (by assumption) ?_
            rotate_left
            focus ((intro w hSw; (try dsimp only at hSw); go_simp); (try with_reducible rfl); done)
            simp only [Act.put, List.setIfInBounds_toArray, List.set_cons_zero, List.set_cons_succ]
            refine wpAnyH_take (i := 12) (oi := ⟨some 57, _, _, _, _, _⟩) (v := ?_) rfl (by kernel_rfl) (by kernel_rfl) (by kernel_rfl) (fun _ _ _ h => h) (Or.inl ⟨by kernel_rfl, ?_⟩) (by assumption) ?_
            rotate_left
            focus ((intro w hSw; (try dsimp only at hSw); go_simp); (try with_reducible rfl); done)
            simp only [Act.put, List.setIfInBounds_toArray, List.set_cons_zero, List.set_cons_succ]
            refine wpAnyH_take (i := 13) (oi := ⟨some 58, _, _, _, _, _⟩) (v := ?_) rfl (by kernel_rfl) (by kernel_rfl) (by kernel_rfl) (fun _ _ _ h => h) (Or.inl ⟨by kernel_rfl, ?_⟩) (by assumption) ?_
            rotate_left
            focus ((intro w hSw; (try dsimp only at hSw); go_simp); (try with_reducible rfl); done)
            simp only [Act.put, List.setIfInBounds_toArray, List.set_cons_zero, List.set_cons_succ]
            refine wpAnyH_take (i := 14) (oi := ⟨some 59, _, _, _, _, _⟩) (v := ?_) rfl (by kernel_rfl) (by kernel_rfl) (by kernel_rfl) (fun _ _ _ h => h) (Or.inl ⟨by kernel_rfl, ?_⟩) (by assumption) ?_
            rotate_left
            focus ((intro w hSw; (try dsimp only at hSw); go_simp); (try with_reducible rfl); done)
            simp only [Act.put, List.setIfInBounds_toArray, List.set_cons_zero, List.set_cons_succ]
            refine wpAnyH_take (i := 15) (oi := ⟨some 60, _, _, _, _, _⟩) (v := ?_) rfl (by kernel_rfl) (by kernel_rfl) (by kernel_rfl) (fun _ _ _ h => h) (Or.inl ⟨by kernel_rfl, ?_⟩) (by assumption) ?_
            rotate_left
            focus ((intro w hSw; (try dsimp only at hSw); go_simp); (try with_reducible rfl); done)
            simp only [Act.put, List.setIfInBounds_toArray, List.set_cons_zero, List.set_cons_succ]
            refine wpAnyH_take (i := 16) (oi := ⟨some 61, _, _, _, _, _⟩) (v := ?_) rfl (by kernel_rfl) (by kernel_rfl) (by kernel_rfl) (fun _ _ _ h => h) (Or.inl ⟨by kernel_rfl, ?_⟩) (by assumption) ?_
            rotate_left
            focus ((intro w hSw; (try dsimp only at hSw); go_simp); (try with_reducible rfl); done)
            simp only [Act.put, List.setIfInBounds_toArray, List.set_cons_zero, List.set_cons_succ]
            refine wpAnyH_ready (rs := [17]) (by kernel_rfl) (by simp) ?_
            refine AllReadyH.cons (o := ⟨some 62, _, _, _, _, _⟩) rfl (fun K hK => ?_) AllReadyH.nil
            go_simp
            go_at_call 69; refine (HINi.out _ (by first | exact Kp.refl _ | exact (Kp.refl _).drew)).mono ?_; rintro _ _ ⟨rfl, rfl⟩
            refine hK.out _ _ (KD.out) (fun hHeld => ?_)
            clear hK K
            try simp only [Act.put, List.setIfInBounds_toArray, List.set_cons_zero, List.set_cons_succ]
            refine wpAnyH_take (i := 18) (oi := ⟨some 63, _, _, _, _, _⟩) (v := ?_) rfl (by kernel_rfl) (by kernel_rfl) (by kernel_rfl) (fun _ _ _ h => h) (Or.inl ⟨by kernel_rfl, ?_⟩) (by assumption) ?_
            rotate_left
            focus ((intro w hSw; (try dsimp only at hSw); go_simp); (try with_reducible rfl); done)
            simp only [Act.put, List.setIfInBounds_toArray, List.set_cons_zero, List.set_cons_succ]
            refine wpAnyH_take (i := 19) (oi := ⟨some 15, _, _, _, _, _⟩) (v := ?_) rfl (by kernel_rfl) (by kernel_rfl) (by kernel_rfl) (fun _ _ _ h => h) (Or.inl ⟨by kernel_rfl, ?_⟩) (by assumption) ?_
            rotate_left
            focus ((intro w hSw; (try dsimp only at hSw); go_simp); (try with_reducible rfl); done)
            simp only [Act.put, List.setIfInBounds_toArray, List.set_cons_zero, List.set_cons_succ]
            refine wpAnyH_done (by kernel_rfl) ?_ _
            all_goals
              go_wp2_with fail
              refine (HSA.out _ (by first | exact (Kp.refl _).drew | exact Kp.refl _)).mono ?_; rintro _ _ ⟨rfl, rfl⟩
              by_cases heq : HH = WT
              · have hb := decide_eq_true heq
                rw [hb]
                go_wp2_with fail
                go_ret
                exact ⟨⟨true, rfl, fun _ => HYES.out ⟨hout, heq⟩, fun _ => rfl⟩, K2.out.trans (by first | exact KR.out.drew | exact KR.out)⟩
              · have hb := decide_eq_false heq
                rw [hb]
                go_wp2_with fail
                go_roundw
                case rel => exact ⟨i + 1, by omega, by go_num, HPRE.out (fun h => heq h.2), by first | exact KR.out.drew | exact KR.out⟩
                case measure => simp [intOf]; omega
        · have e6 : ((y % 2 : Nat) : Int) = 1 := by omega
          rw [e6] at e5
          have hout : ¬ (y % 2 = 0 ∧ ((y / 2 : Nat) : Int) ∈ UN) := fun h => hev h.1
          generalize ((y / 2 : Nat) : Int) = Y2 at *
          have KD : Hid ((fun W => W.cell? ⟨gz, oz + i, none⟩ = some (.int .i64 (y : Int)) ∧ W.cell? ⟨b0, off0 + X * 5 + 3, none⟩ = some (.slice au nu cu)) wr.drew) := ⟨cz1, c3⟩
          go_wp2_with fail
          refine wp_region_held_drew (S := fun W => W.cell? ⟨gz, oz + i, none⟩ = some (.int .i64 (y : Int)) ∧ W.cell? ⟨b0, off0 + X * 5 + 3, none⟩ = some (.slice au nu cu)) (by kernel_rfl) (KD.out) (fun hHeld => ?_)
          refine wpAnyH_take (i := 0) (oi := ⟨some 45, _, _, _, _, _⟩) (v := ?_) rfl (by kernel_rfl) (by kernel_rfl) (by kernel_rfl) (fun _ _ _ h => h) (Or.inl ⟨by kernel_rfl, ?_⟩) (by assumption) ?_
          rotate_left
          focus ((intro w hSw; (try dsimp only at hSw); go_simp); (try with_reducible rfl); done)
          simp only [Act.put, List.setIfInBounds_toArray, List.set_cons_zero, List.set_cons_succ]
          refine wpAnyH_take (i := 1) (oi := ⟨some 46, _, _, _, _, _⟩) (v := ?_) rfl (by kernel_rfl) (by kernel_rfl) (by kernel_rfl) (fun _ _ _ h => h) (Or.inl ⟨by kernel_rfl, ?_⟩) (by assumption) ?_
          rotate_left
          focus ((intro w hSw; (try dsimp only at hSw); go_simp); (try with_reducible rfl); done)
          simp only [Act.put, List.setIfInBounds_toArray, List.set_cons_zero, List.set_cons_succ]
          refine wpAnyH_take (i := 2) (oi := ⟨some 47, _, _, _, _, _⟩) (v := ?_) rfl (by kernel_rfl) (by kernel_rfl) (by kernel_rfl) (fun _ _ _ h => h) (Or.inl ⟨by kernel_rfl, ?_⟩) (by assumption) ?_
          rotate_left
          focus ((intro w hSw; (try dsimp only at hSw); go_simp); (try with_reducible rfl); done)
          simp only [Act.put, List.setIfInBounds_toArray, List.set_cons_zero, List.set_cons_succ]
          refine wpAnyH_take (i := 3) (oi := ⟨some 48, _, _, _, _, _⟩) (v := ?_) rfl (by kernel_rfl) (by kernel_rfl) (by kernel_rfl) (fun _ _ _ h => h) (Or.inl ⟨by kernel_rfl, ?_⟩) (by assumption) ?_
          rotate_left
          focus ((intro w hSw; (try dsimp only at hSw); go_simp); (try with_reducible rfl); done)
          simp only [Act.put, List.setIfInBounds_toArray, List.set_cons_zero, List.set_cons_succ]
          refine wpAnyH_take (i := 4) (oi := ⟨some 49, _, _, _, _, _⟩) (v := ?_) rfl (by kernel_rfl) (by kernel_rfl) (by kernel_rfl) (fun _ _ _ h => h) (Or.inl ⟨by kernel_rfl, ?_⟩) (by assumption) ?_
          rotate_left
          focus ((intro w hSw; (try dsimp only at hSw); go_simp); (try with_reducible rfl); done)
          simp only [Act.put, List.setIfInBounds_toArray, List.set_cons_zero, List.set_cons_succ]
          refine wpAnyH_take (i := 5) (oi := ⟨some 50, _, _, _, _, _⟩) (v := ?_) rfl (by kernel_rfl) (by kernel_rfl) (by kernel_rfl) (fun _ _ _ h => h) (Or.inl ⟨by kernel_rfl, ?_⟩) (by assumption) ?_
          rotate_left
          focus ((intro w hSw; (try dsimp only at hSw); go_simp); (try with_reducible rfl); done)
          simp only [Act.put, List.setIfInBounds_toArray, List.set_cons_zero, List.set_cons_succ]
          refine wpAnyH_take (i := 6) (oi := ⟨some 51, _, _, _, _, _⟩) (v := ?_) rfl (by kernel_rfl) (by kernel_rfl) (by kernel_rfl) (fun _ _ _ h => h) (Or.inl ⟨by kernel_rfl, ?_⟩) (by assumption) ?_
          rotate_left
          focus ((intro w hSw; (try dsimp only at hSw); go_simp); (try with_reducible rfl); done)
          simp only [Act.put, List.setIfInBounds_toArray, List.set_cons_zero, List.set_cons_succ]
          refine wpAnyH_take (i := 7) (oi := ⟨some 52, _, _, _, _, _⟩) (v := undef) rfl (by kernel_rfl) (by kernel_rfl) (by kernel_rfl) (fun _ _ _ h => h) (Or.inr ⟨by kernel_rfl, rfl⟩) (by assumption) ?_
          simp only [Act.put, List.setIfInBounds_toArray, List.set_cons_zero, List.set_cons_succ]
          refine wpAnyH_take (i := 8) (oi := ⟨some 53, _, _, _, _, _⟩) (v := undef) rfl (by kernel_rfl) (by kernel_rfl) (by kernel_rfl) (fun _ _ _ h => h) (Or.inr ⟨by kernel_rfl, rfl⟩) (by assumption) ?_
          simp only [Act.put, List.setIfInBounds_toArray, List.set_cons_zero, List.set_cons_succ]
          refine wpAnyH_take (i := 9) (oi := ⟨some 54, _, _, _, _, _⟩) (v := undef) rfl (by kernel_rfl) (by kernel_rfl) (by kernel_rfl) (fun _ _ _ h => h) (Or.inr ⟨by kernel_rfl, rfl⟩) (by assumption) ?_
          simp only [Act.put, List.setIfInBounds_toArray, List.set_cons_zero, List.set_cons_succ]
          refine wpAnyH_take (i := 10) (oi := ⟨some 55, _, _, _, _, _⟩) (v := undef) rfl (by kernel_rfl) (by kernel_rfl) (by kernel_rfl) (fun _ _ _ h => h) (Or.inr ⟨by kernel_rfl, rfl⟩) (by assumption) ?_
          simp only [Act.put, List.setIfInBounds_toArray, List.set_cons_zero, List.set_cons_succ]
          refine wpAnyH_take (i := 11) (oi := ⟨some 56, _, _, _, _, _⟩) (v := undef) rfl (by kernel_rfl) (by kernel_rfl) (by kernel_rfl) (fun _ _ _ h => h) (Or.inr ⟨by kernel_rfl, rfl⟩) (by assumption) ?_
          simp only [Act.put, List.setIfInBounds_toArray, List.set_cons_zero, List.set_cons_succ]
          refine wpAnyH_take (i := 12) (oi := ⟨some 57, _, _, _, _, _⟩) (v := undef) rfl (by kernel_rfl) (by kernel_rfl) (by kernel_rfl) (fun _ _ _ h => h) (Or.inr ⟨by kernel_rfl, rfl⟩) (by assumption) ?_
          simp only [Act.put, List.setIfInBounds_toArray, List.set_cons_zero, List.set_cons_succ]
          refine wpAnyH_take (i := 13) (oi := ⟨some 58, _, _, _, _, _⟩) (v := undef) rfl (by kernel_rfl) (by kernel_rfl) (by kernel_rfl) (fun _ _ _ h => h) (Or.inr ⟨by kernel_rfl, rfl⟩) (by assumption) ?_
          simp only [Act.put, List.setIfInBounds_toArray, List.set_cons_zero, List.set_cons_succ]
          refine wpAnyH_take (i := 14) (oi := ⟨some 59, _, _, _, _, _⟩) (v := undef) rfl (by kernel_rfl) (by kernel_rfl) (by kernel_rfl) (fun _ _ _ h => h) (Or.inr ⟨by kernel_rfl, rfl⟩) (by assumption) ?_
          simp only [Act.put, List.setIfInBounds_toArray, List.set_cons_zero, List.set_cons_succ]
          refine wpAnyH_take (i := 15) (oi := ⟨some 60, _, _, _, _, _⟩) (v := undef) rfl (by kernel_rfl) (by kernel_rfl) (by kernel_rfl) (fun _ _ _ h => h) (Or.inr ⟨by kernel_rfl, rfl⟩) (by assumption) ?_
          simp only [Act.put, List.setIfInBounds_toArray, List.set_cons_zero, List.set_cons_succ]
          refine wpAnyH_take (i := 16) (oi := ⟨some 61, _, _, _, _, _⟩) (v := undef) rfl (by kernel_rfl) (by kernel_rfl) (by kernel_rfl) (fun _ _ _ h => h) (Or.inr ⟨by kernel_rfl, rfl⟩) (by assumption) ?_
          simp only [Act.put, List.setIfInBounds_toArray, List.set_cons_zero, List.set_cons_succ]
          refine wpAnyH_take (i := 17) (oi := ⟨some 62, _, _, _, _, _⟩) (v := undef) rfl (by kernel_rfl) (by kernel_rfl) (by kernel_rfl) (fun _ _ _ h => h) (Or.inr ⟨by kernel_rfl, rfl⟩) (by assumption) ?_
          simp only [Act.put, List.setIfInBounds_toArray, List.set_cons_zero, List.set_cons_succ]
          refine wpAnyH_take (i := 18) (oi := ⟨some 63, _, _, _, _, _⟩) (v := ?_) rfl (by kernel_rfl) (by kernel_rfl) (by kernel_rfl) (fun _ _ _ h => h) (Or.inl ⟨by kernel_rfl, ?_⟩) (by assumption) ?_
          rotate_left
          focus ((intro w hSw; (try dsimp only at hSw); go_simp); (try with_reducible rfl); done)
          simp only [Act.put, List.setIfInBounds_toArray, List.set_cons_zero, List.set_cons_succ]
          refine wpAnyH_take (i := 19) (oi := ⟨some 15, _, _, _, _, _⟩) (v := ?_) rfl (by kernel_rfl) (by kernel_rfl) (by kernel_rfl) (fun _ _ _ h => h) (Or.inl ⟨by kernel_rfl, ?_⟩) (by assumption) ?_
          rotate_left
          focus ((intro w hSw; (try dsimp only at hSw); go_simp); (try with_reducible rfl); done)
          simp only [Act.put, List.setIfInBounds_toArray, List.set_cons_zero, List.set_cons_succ]
          refine wpAnyH_done (by kernel_rfl) ?_ _
          all_goals
            go_wp2_with fail
            refine (HSA.out _ (by first | exact (Kp.refl _).drew | exact Kp.refl _)).mono ?_; rintro _ _ ⟨rfl, rfl⟩
            by_cases heq : HH = WT
            · have hb := decide_eq_true heq
              rw [hb]
              go_wp2_with fail
              go_ret
              exact ⟨⟨true, rfl, fun _ => HYES.out ⟨hout, heq⟩, fun _ => rfl⟩, K2.out.trans (by first | exact KR.out.drew | exact KR.out)⟩
            · have hb := decide_eq_false heq
              rw [hb]
              go_wp2_with fail
              go_roundw
              case rel => exact ⟨i + 1, by omega, by go_num, HPRE.out (fun h => heq h.2), by first | exact KR.out.drew | exact KR.out⟩
              case measure => simp [intOf]; omega
      · obtain rfl : i = ZL := by omega
        have HNO := Lib.hid (HQN.out hpre)
        have hle : ¬ (i : Int) < (i : Int) := by omega
        clear HTT HEL HQY HQN HZ hpre hkp HNX HW2 HXQ hlt
        go_wp2_with fail
        go_ret
        exact ⟨⟨false, rfl, fun h => (by cases h), fun h => absurd h HNO.out⟩, K2.out.trans KR.out⟩
  · have hx := HXQ.out.2 rfl
    subst hx
    go_enter Tryz.func49, Tryz.ntmps49
    go_wp2_with fail
    refine HAB.out.mono ?_; rintro _ w1 ⟨⟨r1, rfl, s1⟩, k1⟩
    obtain ⟨a1, n1, c1, rfl⟩ := rd_sl10 s1
    have K1 : Hid (Kp w w1) := k1
    have HW1 := Lib.hid s1
    clear k1 s1 HAB
    go_wp2_with fail
    refine (HLE.out _).mono ?_; rintro _ _ ⟨rfl, rfl⟩
    go_wp2_with fail
    refine (HRI.out _).mono ?_; rintro _ _ ⟨rfl, rfl⟩
    go_wp2_with fail
    refine (HRS.out _ K1.out).mono ?_; rintro _ w2 ⟨⟨r2, rfl, o2⟩, k2⟩
    have K2 := Lib.hid (K1.out.trans k2)
    have HW2 := Lib.hid (HW1.out.kp k2)
    have HZ := Lib.hid o2.ri
    obtain ⟨az, cz, ez, pz, _⟩ := o2.ri.shape
    subst ez
    obtain ⟨ZL, hZL⟩ : ∃ ZL, ZZ.length = ZL := ⟨_, rfl⟩
    rw [hZL] at HZ HQY HQN HEL hZl pz ⊢
    clear o2 k2 HRS HLE HRI HW1 hZL
    go_wp2_with fail
    go_loopw [14] (fun x wr => ∃ i : Nat, i ≤ ZL ∧ x = .int .i64 (i : Int) ∧ (∀ (y : Nat) k, k < i → ZZ.getD k 0 = (y : Int) → ¬ (¬ (y % 2 = 0 ∧ ((y / 2 : Nat) : Int) ∈ UN) ∧ (ats t y).hash = WT)) ∧ Kp w2 wr) (fun x _ => (ZL - (intOf x).toNat))
    case atStart => exact ⟨0, Nat.zero_le _, rfl, fun y k h => by omega, Kp.refl _⟩
    case round =>
      obtain ⟨i, hi, rfl, hpre, hkp⟩ := hrel
      have KR := Lib.hid hkp
      by_cases hlt : i < ZL
      · obtain ⟨y, hy, hyt⟩ := HEL.out i hlt
        obtain ⟨gz, oz, rfl, _, hcz⟩ := (HZ.out.kp hkp).at i hlt
        have cz1 := hcz i hlt
        rw [hy] at cz1
        obtain ⟨p, u, h, hn⟩ := HTT.out y hyt
        have hnw := hn.kp (K2.out.trans hkp)
        have c4 := hnw.hashC
        obtain ⟨ah, nh, ch, rfl⟩ := rd_sl10 hnw.2.hash
        have c3 := (K2.out.trans hkp).cell HNX.out.1
        have HINi := Lib.hid (fun W (hW : Kp wr W) => refInI_any (.slice au nu cu) UN ((y / 2 : Nat) : Int) W (HNX.out.2.kp ((K2.out.trans hkp).trans hW)))
        have HSA := Lib.hid (fun W (hW : Kp wr W) => same_any (.slice ah nh ch) (.slice a1 n1 c1) (ats t y).hash WT W (hnw.2.hash.kp hW) ((HW2.out.kp hkp).kp hW))
        have HYES := Lib.hid (HQY.out y i hlt hy)
        have HPRE : Hid (¬ (¬ (y % 2 = 0 ∧ ((y / 2 : Nat) : Int) ∈ UN) ∧ (ats t y).hash = WT) → ∀ (y : Nat) k, k < i + 1 → ZZ.getD k 0 = (y : Int) → ¬ (¬ (y % 2 = 0 ∧ ((y / 2 : Nat) : Int) ∈ UN) ∧ (ats t y).hash = WT)) := fun h z k hk => by
          rcases Nat.lt_or_eq_of_le (Nat.lt_succ_iff.1 hk) with h3 | h3
          · exact hpre z k h3
          · rw [h3, hy]
            intro e
            have : z = y := by omega
            rw [this]; exact h
        have i1 : IntKind.i64.wrap ((i : Int) + 1) = (i : Int) + 1 := IntWalk.i64_in _ (by omega)
        have i3 : (i : Int) < (ZL : Int) := by omega
        have i4 : (y : Int) < (TL : Int) := by omega
        have e2 : (y : Int).tdiv 2 = ((y / 2 : Nat) : Int) := by rw [Int.tdiv_eq_ediv_of_nonneg (by omega)]; omega
        have e3 : IntKind.i64.wrap ((y / 2 : Nat) : Int) = ((y / 2 : Nat) : Int) := IntWalk.i64_in _ (by omega)
        have e5 : (y : Int).tmod 2 = ((y % 2 : Nat) : Int) := by rw [Int.tmod_eq_emod_of_nonneg (by omega)]; omega
        generalize (ats t y).hash = HH at *
        clear hcz hn hnw HTT HEL HQY HQN HZ hpre hkp HNX HW2 HXQ
        by_cases hev : y % 2 = 0
        · rw [hev] at e5
          by_cases hin : ((y / 2 : Nat) : Int) ∈ UN
          · rw [decide_eq_true hin] at HINi
            have hno : ¬ (¬ (y % 2 = 0 ∧ ((y / 2 : Nat) : Int) ∈ UN) ∧ HH = WT) := fun h => h.1 ⟨hev, hin⟩
            generalize ((y / 2 : Nat) : Int) = Y2 at *
            have KD : Hid ((fun W => W.cell? ⟨gz, oz + i, none⟩ = some (.int .i64 (y : Int)) ∧ W.cell? ⟨b0, off0 + X * 5 + 3, none⟩ = some (.slice au nu cu)) wr.drew) := ⟨cz1, c3⟩
            go_wp2_with fail
            refine wp_region_held_drew (S := fun W => W.cell? ⟨gz, oz + i, none⟩ = some (.int .i64 (y : Int)) ∧ W.cell? ⟨b0, off0 + X * 5 + 3, none⟩ = some (.slice au nu cu)) (by kernel_rfl) (KD.out) (fun hHeld => ?_)
            refine wpAnyH_take (i := 0) (oi := ⟨some 45, _, _, _, _, _⟩) (v := ?_) rfl (by kernel_rfl) (by kernel_rfl) (by kernel_rfl) (fun _ _ _ h => h) (Or.inl ⟨by kernel_rfl, ?_⟩) (by assumption) ?_
            rotate_left
            focus ((intro w hSw; (try dsimp only at hSw); go_simp); (try with_reducible rfl); done)
            simp only [Act.put, List.setIfInBounds_toArray, List.set_cons_zero, List.set_cons_succ]
            refine wpAnyH_take (i := 1) (oi := ⟨some 46, _, _, _, _, _⟩) (v := ?_) rfl (by kernel_rfl) (by kernel_rfl) (by kernel_rfl) (fun _ _ _ h => h) (Or.inl ⟨by kernel_rfl, ?_⟩) (by assumption) ?_
            rotate_left
            focus ((intro w hSw; (try dsimp only at hSw); go_simp); (try with_reducible rfl); done)
            simp only [Act.put, List.setIfInBounds_toArray, List.set_cons_zero, List.set_cons_succ]
            refine wpAnyH_take (i := 2) (oi := ⟨some 47, _, _, _, _, _⟩) (v := ?_) rfl (by kernel_rfl) (by kernel_rfl) (by kernel_rfl) (fun _ _ _ h => h) (Or.inl ⟨by kernel_rfl, ?_⟩) (by assumption) ?_
            rotate_left
            focus ((intro w hSw; (try dsimp only at hSw); go_simp); (try with_reducible rfl); done)
            simp only [Act.put, List.setIfInBounds_toArray, List.set_cons_zero, List.set_cons_succ]
            refine wpAnyH_take (i := 3) (oi := ⟨some 48, _, _, _, _, _⟩) (v := ?_) rfl (by kernel_rfl) (by kernel_rfl) (by kernel_rfl) (fun _ _ _ h => h) (Or.inl ⟨by kernel_rfl, ?_⟩) (by assumption) ?_
            rotate_left
            focus ((intro w hSw; (try dsimp only at hSw); go_simp); (try with_reducible rfl); done)
            simp only [Act.put, List.setIfInBounds_toArray, List.set_cons_zero, List.set_cons_succ]
            refine wpAnyH_take (i := 4) (oi := ⟨some 49, _, _, _, _, _⟩) (v := ?_) rfl (by kernel_rfl) (by kernel_rfl) (by kernel_rfl) (fun _ _ _ h => h) (Or.inl ⟨by kernel_rfl, ?_⟩) (by assumption) ?_
            rotate_left
            focus ((intro w hSw; (try dsimp only at hSw); go_simp); (try with_reducible rfl); done)
            simp only [Act.put, List.setIfInBounds_toArray, List.set_cons_zero, List.set_cons_succ]
            refine wpAnyH_take (i := 5) (oi := ⟨some 50, _, _, _, _, _⟩) (v := ?_) rfl (by kernel_rfl) (by kernel_rfl) (by kernel_rfl) (fun _ _ _ h => h) (Or.inl ⟨by kernel_rfl, ?_⟩) (by assumption) ?_
            rotate_left
            focus ((intro w hSw; (try dsimp only at hSw); go_simp); (try with_reducible rfl); done)
            simp only [Act.put, List.setIfInBounds_toArray, List.set_cons_zero, List.set_cons_succ]
            refine wpAnyH_take (i := 6) (oi := ⟨some 51, _, _, _, _, _⟩) (v := ?_) rfl (by kernel_rfl) (by kernel_rfl) (by kernel_rfl) (fun _ _ _ h => h) (Or.inl ⟨by kernel_rfl, ?_⟩) (by assumption) ?_
            rotate_left
            focus ((intro w hSw; (try dsimp only at hSw); go_simp); (try with_reducible rfl); done)
            simp only [Act.put, List.setIfInBounds_toArray, List.set_cons_zero, List.set_cons_succ]
            refine wpAnyH_take (i := 7) (oi := ⟨some 52, _, _, _, _, _⟩) (v := ?_) rfl (by kernel_rfl) (by kernel_rfl) (by kernel_rfl) (fun _ _ _ h => h) (Or.inl ⟨by kernel_rfl, ?_⟩) (by assumption) ?_
            rotate_left
            focus ((intro w hSw; (try dsimp only at hSw); go_simp); (try with_reducible rfl); done)
            simp only [Act.put, List.setIfInBounds_toArray, List.set_cons_zero, List.set_cons_succ]
            refine wpAnyH_take (i := 8) (oi := ⟨some 53, _, _, _, _, _⟩) (v := ?_) rfl (by kernel_rfl) (by kernel_rfl) (by kernel_rfl) (fun _ _ _ h => h) (Or.inl ⟨by kernel_rfl, ?_⟩) (by assumption) ?_
            rotate_left
            focus ((intro w hSw; (try dsimp only at hSw); go_simp); (try with_reducible rfl); done)
            simp only [Act.put, List.setIfInBounds_toArray, List.set_cons_zero, List.set_cons_succ]
            refine wpAnyH_take (i := 9) (oi := ⟨some 54, _, _, _, _, _⟩) (v := ?_) rfl (by kernel_rfl) (by kernel_rfl) (by kernel_rfl) (fun _ _ _ h => h) (Or.inl ⟨by kernel_rfl, ?_⟩) (by assumption) ?_
            rotate_left
            focus ((intro w hSw; (try dsimp only at hSw); go_simp); (try with_reducible rfl); done)
            simp only [Act.put, List.setIfInBounds_toArray, List.set_cons_zero, List.set_cons_succ]
            refine wpAnyH_take (i := 10) (oi := ⟨some 55, _, _, _, _, _⟩) (v := ?_) rfl (by kernel_rfl) (by kernel_rfl) (by kernel_rfl) (fun _ _ _ h => h) (Or.inl ⟨by kernel_rfl, ?_⟩) (by assumption) ?_
            rotate_left
            focus ((intro w hSw; (try dsimp only at hSw); go_simp); (try with_reducible rfl); done)
            simp only [Act.put, List.setIfInBounds_toArray, List.set_cons_zero, List.set_cons_succ]
            refine wpAnyH_take (i := 11) (oi := ⟨some 56, _, _, _, _, _⟩) (v := ?_) rfl (by kernel_rfl) (by kernel_rfl) (by kernel_rfl) (fun _ _ _ h => h) (Or.inl ⟨by kernel_rfl, ?_⟩) (by assumption) ?_
            rotate_left
            focus ((intro w hSw; (try dsimp only at hSw); go_simp); (try with_reducible rfl); done)
            simp only [Act.put, List.setIfInBounds_toArray, List.set_cons_zero, List.set_cons_succ]
            refine wpAnyH_take (i := 12) (oi := ⟨some 57, _, _, _, _, _⟩) (v := ?_) rfl (by kernel_rfl) (by kernel_rfl) (by kernel_rfl) (fun _ _ _ h => h) (Or.inl ⟨by kernel_rfl, ?_⟩) (by assumption) ?_
            rotate_left
            focus ((intro w hSw; (try dsimp only at hSw); go_simp); (try with_reducible rfl); done)
            simp only [Act.put, List.setIfInBounds_toArray, List.set_cons_zero, List.set_cons_succ]
            refine wpAnyH_take (i := 13) (oi := ⟨some 58, _, _, _, _, _⟩) (v := ?_) rfl (by kernel_rfl) (by kernel_rfl) (by kernel_rfl) (fun _ _ _ h => h) (Or.inl ⟨by kernel_rfl, ?_⟩) (by assumption) ?_
            rotate_left
            focus ((intro w hSw; (try dsimp only at hSw); go_simp); (try with_reducible rfl); done)
            simp only [Act.put, List.setIfInBounds_toArray, List.set_cons_zero, List.set_cons_succ]
            refine wpAnyH_take (i := 14) (oi := ⟨some 59, _, _, _, _, _⟩) (v := ?_) rfl (by kernel_rfl) (by kernel_rfl) (by kernel_rfl) (fun _ _ _ h => h) (Or.inl ⟨by kernel_rfl, ?_⟩) (by assumption) ?_
            rotate_left
            focus ((intro w hSw; (try dsimp only at hSw); go_simp); (try with_reducible rfl); done)
            simp only [Act.put, List.setIfInBounds_toArray, List.set_cons_zero, List.set_cons_succ]
            refine wpAnyH_take (i := 15) (oi := ⟨some 60, _, _, _, _, _⟩) (v := ?_) rfl (by kernel_rfl) (by kernel_rfl) (by kernel_rfl) (fun _ _ _ h => h) (Or.inl ⟨by kernel_rfl, ?_⟩) (by assumption) ?_
            rotate_left
            focus ((intro w hSw; (try dsimp only at hSw); go_simp); (try with_reducible rfl); done)
            simp only [Act.put, List.setIfInBounds_toArray, List.set_cons_zero, List.set_cons_succ]
            refine wpAnyH_take (i := 16) (oi := ⟨some 61, _, _, _, _, _⟩) (v := ?_) rfl (by kernel_rfl) (by kernel_rfl) (by kernel_rfl) (fun _ _ _ h => h) (Or.inl ⟨by kernel_rfl, ?_⟩) (by assumption) ?_
            rotate_left
            focus ((intro w hSw; (try dsimp only at hSw); go_simp); (try with_reducible rfl); done)
            simp only [Act.put, List.setIfInBounds_toArray, List.set_cons_zero, List.set_cons_succ]
            refine wpAnyH_ready (rs := [17]) (by kernel_rfl) (by simp) ?_
            refine AllReadyH.cons (o := ⟨some 62, _, _, _, _, _⟩) rfl (fun K hK => ?_) AllReadyH.nil
            go_simp
            go_at_call 69; refine (HINi.out _ (by first | exact Kp.refl _ | exact (Kp.refl _).drew)).mono ?_; rintro _ _ ⟨rfl, rfl⟩
            refine hK.out _ _ (KD.out) (fun hHeld => ?_)
            clear hK K
            try simp only [Act.put, List.setIfInBounds_toArray, List.set_cons_zero, List.set_cons_succ]
            refine wpAnyH_take (i := 18) (oi := ⟨some 63, _, _, _, _, _⟩) (v := ?_) rfl (by kernel_rfl) (by kernel_rfl) (by kernel_rfl) (fun _ _ _ h => h) (Or.inl ⟨by kernel_rfl, ?_⟩) (by assumption) ?_
            rotate_left
            focus ((intro w hSw; (try dsimp only at hSw); go_simp); (try with_reducible rfl); done)
            simp only [Act.put, List.setIfInBounds_toArray, List.set_cons_zero, List.set_cons_succ]
            refine wpAnyH_take (i := 19) (oi := ⟨some 15, _, _, _, _, _⟩) (v := ?_) rfl (by kernel_rfl) (by kernel_rfl) (by kernel_rfl) (fun _ _ _ h => h) (Or.inl ⟨by kernel_rfl, ?_⟩) (by assumption) ?_
            rotate_left
            focus ((intro w hSw; (try dsimp only at hSw); go_simp); (try with_reducible rfl); done)
            simp only [Act.put, List.setIfInBounds_toArray, List.set_cons_zero, List.set_cons_succ]
            refine wpAnyH_done (by kernel_rfl) ?_ _
            all_goals
              go_wp2_with fail
              go_roundw
              case rel => exact ⟨i + 1, by omega, by go_num, HPRE.out hno, by first | exact KR.out.drew | exact KR.out⟩
              case measure => simp [intOf]; omega
          · rw [decide_eq_false hin] at HINi
            have hout : ¬ (y % 2 = 0 ∧ ((y / 2 : Nat) : Int) ∈ UN) := fun h => hin h.2
            generalize ((y / 2 : Nat) : Int) = Y2 at *
            have KD : Hid ((fun W => W.cell? ⟨gz, oz + i, none⟩ = some (.int .i64 (y : Int)) ∧ W.cell? ⟨b0, off0 + X * 5 + 3, none⟩ = some (.slice au nu cu)) wr.drew) := ⟨cz1, c3⟩
            go_wp2_with fail
            refine wp_region_held_drew (S := fun W => W.cell? ⟨gz, oz + i, none⟩ = some (.int .i64 (y : Int)) ∧ W.cell? ⟨b0, off0 + X * 5 + 3, none⟩ = some (.slice au nu cu)) (by kernel_rfl) (KD.out) (fun hHeld => ?_)
            refine wpAnyH_take (i := 0) (oi := ⟨some 45, _, _, _, _, _⟩) (v := ?_) rfl (by kernel_rfl) (by kernel_rfl) (by kernel_rfl) (fun _ _ _ h => h) (Or.inl ⟨by kernel_rfl, ?_⟩) (by assumption) ?_
            rotate_left
            focus ((intro w hSw; (try dsimp only at hSw); go_simp); (try with_reducible rfl); done)
            simp only [Act.put, List.setIfInBounds_toArray, List.set_cons_zero, List.set_cons_succ]
            refine wpAnyH_take (i := 1) (oi := ⟨some 46, _, _, _, _, _⟩) (v := ?_) rfl (by kernel_rfl) (by kernel_rfl) (by kernel_rfl) (fun _ _ _ h => h) (Or.inl ⟨by kernel_rfl, ?_⟩) (by assumption) ?_
            rotate_left
            focus ((intro w hSw; (try dsimp only at hSw); go_simp); (try with_reducible rfl); done)
            simp only [Act.put, List.setIfInBounds_toArray, List.set_cons_zero, List.set_cons_succ]
            refine wpAnyH_take (i := 2) (oi := ⟨some 47, _, _, _, _, _⟩) (v := ?_) rfl (by kernel_rfl) (by kernel_rfl) (by kernel_rfl) (fun _ _ _ h => h) (Or.inl ⟨by kernel_rfl, ?_⟩) (by assumption) ?_
            rotate_left
            focus ((intro w hSw; (try dsimp only at hSw); go_simp); (try with_reducible rfl); done)
            simp only [Act.put, List.setIfInBounds_toArray, List.set_cons_zero, List.set_cons_succ]
            refine wpAnyH_take (i := 3) (oi := ⟨some 48, _, _, _, _, _⟩) (v := ?_) rfl (by kernel_rfl) (by kernel_rfl) (by kernel_rfl) (fun _ _ _ h => h) (Or.inl ⟨by kernel_rfl, ?_⟩) (by assumption) ?_
            rotate_left
            focus ((intro w hSw; (try dsimp only at hSw); go_simp); (try with_reducible rfl); done)
            simp only [Act.put, List.setIfInBounds_toArray, List.set_cons_zero, List.set_cons_succ]
            refine wpAnyH_take (i := 4) (oi := ⟨some 49, _, _, _, _, _⟩) (v := ?_) rfl (by kernel_rfl) (by kernel_rfl) (by kernel_rfl) (fun _ _ _ h => h) (Or.inl ⟨by kernel_rfl, ?_⟩) (by assumption) ?_
            rotate_left
            focus ((intro w hSw; (try dsimp only at hSw); go_simp); (try with_reducible rfl); done)
            simp only [Act.put, List.setIfInBounds_toArray, List.set_cons_zero, List.set_cons_succ]
            refine wpAnyH_take (i := 5) (oi := ⟨some 50, _, _, _, _, _⟩) (v := ?_) rfl (by kernel_rfl) (by kernel_rfl) (by kernel_rfl) (fun _ _ _ h => h) (Or.inl ⟨by kernel_rfl, ?_⟩) (by assumption) ?_
            rotate_left
            focus ((intro w hSw; (try dsimp only at hSw); go_simp); (try with_reducible rfl); done)
            simp only [Act.put, List.setIfInBounds_toArray, List.set_cons_zero, List.set_cons_succ]
            refine wpAnyH_take (i := 6) (oi := ⟨some 51, _, _, _, _, _⟩) (v := ?_) rfl (by kernel_rfl) (by kernel_rfl) (by kernel_rfl) (fun _ _ _ h => h) (Or.inl ⟨by kernel_rfl, ?_⟩) (by assumption) ?_
            rotate_left
            focus ((intro w hSw; (try dsimp only at hSw); go_simp); (try with_reducible rfl); done)
            simp only [Act.put, List.setIfInBounds_toArray, List.set_cons_zero, List.set_cons_succ]
            refine wpAnyH_take (i := 7) (oi := ⟨some 52, _, _, _, _, _⟩) (v := ?_) rfl (by kernel_rfl) (by kernel_rfl) (by kernel_rfl) (fun _ _ _ h => h) (Or.inl ⟨by kernel_rfl, ?_⟩) (by assumption) ?_
            rotate_left
            focus ((intro w hSw; (try dsimp only at hSw); go_simp); (try with_reducible rfl); done)
            simp only [Act.put, List.setIfInBounds_toArray, List.set_cons_zero, List.set_cons_succ]
            refine wpAnyH_take (i := 8) (oi := ⟨some 53, _, _, _, _, _⟩) (v := ?_) rfl (by kernel_rfl) (by kernel_rfl) (by kernel_rfl) (fun _ _ _ h => h) (Or.inl ⟨by kernel_rfl, ?_⟩) (by assumption) ?_
            rotate_left
            focus ((intro w hSw; (try dsimp only at hSw); go_simp); (try with_reducible rfl); done)
            simp only [Act.put, List.setIfInBounds_toArray, List.set_cons_zero, List.set_cons_succ]
            refine wpAnyH_take (i := 9) (oi := ⟨some 54, _, _, _, _, _⟩) (v := ?_) rfl (by kernel_rfl) (by kernel_rfl) (by kernel_rfl) (fun _ _ _ h => h) (Or.inl ⟨by kernel_rfl, ?_⟩) (by assumption) ?_
            rotate_left
            focus ((intro w hSw; (try dsimp only at hSw); go_simp); (try with_reducible rfl); done)
            simp only [Act.put, List.setIfInBounds_toArray, List.set_cons_zero, List.set_cons_succ]
            refine wpAnyH_take (i := 10) (oi := ⟨some 55, _, _, _, _, _⟩) (v := ?_) rfl (by kernel_rfl) (by kernel_rfl) (by kernel_rfl) (fun _ _ _ h => h) (Or.inl ⟨by kernel_rfl, ?_⟩) (by assumption) ?_
            rotate_left
            focus ((intro w hSw; (try dsimp only at hSw); go_simp); (try with_reducible rfl); done)
            simp only [Act.put, List.setIfInBounds_toArray, List.set_cons_zero, List.set_cons_succ]
            refine wpAnyH_take (i := 11) (oi := ⟨some 56, _, _, _, _, _⟩) (v := ?_) rfl (by kernel_rfl) (by kernel_rfl) (by kernel_rfl) (fun _ _ _ h => h) (Or.inl ⟨by kernel_rfl, ?_⟩) (by assumption) ?_
            rotate_left
            focus ((intro w hSw; (try dsimp only at hSw); go_simp); (try with_reducible rfl); done)
            simp only [Act.put, List.setIfInBounds_toArray, List.set_cons_zero, List.set_cons_succ]
            refine wpAnyH_take (i := 12) (oi := ⟨some 57, _, _, _, _, _⟩) (v := ?_) rfl (by kernel_rfl) (by kernel_rfl) (by kernel_rfl) (fun _ _ _ h => h) (Or.inl ⟨by kernel_rfl, ?_⟩) (by assumption) ?_
            rotate_left
            focus ((intro w hSw; (try dsimp only at hSw); go_simp); (try with_reducible rfl); done)
            simp only [Act.put, List.setIfInBounds_toArray, List.set_cons_zero, List.set_cons_succ]
            refine wpAnyH_take (i := 13) (oi := ⟨some 58, _, _, _, _, _⟩) (v := ?_) rfl (by kernel_rfl) (by kernel_rfl) (by kernel_rfl) (fun _ _ _ h => h) (Or.inl ⟨by kernel_rfl, ?_⟩) (by assumption) ?_
            rotate_left
            focus ((intro w hSw; (try dsimp only at hSw); go_simp); (try with_reducible rfl); done)
            simp only [Act.put, List.setIfInBounds_toArray, List.set_cons_zero, List.set_cons_succ]
            refine wpAnyH_take (i := 14) (oi := ⟨some 59, _, _, _, _, _⟩) (v := ?_) rfl (by kernel_rfl) (by kernel_rfl) (by kernel_rfl) (fun _ _ _ h => h) (Or.inl ⟨by kernel_rfl, ?_⟩) (by assumption) ?_
            rotate_left
            focus ((intro w hSw; (try dsimp only at hSw); go_simp); (try with_reducible rfl); done)
            simp only [Act.put, List.setIfInBounds_toArray, List.set_cons_zero, List.set_cons_succ]
            refine wpAnyH_take (i := 15) (oi := ⟨some 60, _, _, _, _, _⟩) (v := ?_) rfl (by kernel_rfl) (by kernel_rfl) (by kernel_rfl) (fun _ _ _ h => h) (Or.inl ⟨by kernel_rfl, ?_⟩) (by assumption) ?_
            rotate_left
            focus ((intro w hSw; (try dsimp only at hSw); go_simp); (try with_reducible rfl); done)
            simp only [Act.put, List.setIfInBounds_toArray, List.set_cons_zero, List.set_cons_succ]
            refine wpAnyH_take (i := 16) (oi := ⟨some 61, _, _, _, _, _⟩) (v := ?_) rfl (by kernel_rfl) (by kernel_rfl) (by kernel_rfl) (fun _ _ _ h => h) (Or.inl ⟨by kernel_rfl, ?_⟩) (by assumption) ?_
            rotate_left
            focus ((intro w hSw; (try dsimp only at hSw); go_simp); (try with_reducible rfl); done)
            simp only [Act.put, List.setIfInBounds_toArray, List.set_cons_zero, List.set_cons_succ]
            refine wpAnyH_ready (rs := [17]) (by kernel_rfl) (by simp) ?_
            refine AllReadyH.cons (o := ⟨some 62, _, _, _, _, _⟩) rfl (fun K hK => ?_) AllReadyH.nil
            go_simp
            go_at_call 69; refine (HINi.out _ (by first | exact Kp.refl _ | exact (Kp.refl _).drew)).mono ?_; rintro _ _ ⟨rfl, rfl⟩
            refine hK.out _ _ (KD.out) (fun hHeld => ?_)
            clear hK K
            try simp only [Act.put, List.setIfInBounds_toArray, List.set_cons_zero, List.set_cons_succ]
            refine wpAnyH_take (i := 18) (oi := ⟨some 63, _, _, _, _, _⟩) (v := ?_) rfl (by kernel_rfl) (by kernel_rfl) (by kernel_rfl) (fun _ _ _ h => h) (Or.inl ⟨by kernel_rfl, ?_⟩) (by assumption) ?_
            rotate_left
            focus ((intro w hSw; (try dsimp only at hSw); go_simp); (try with_reducible rfl); done)
            simp only [Act.put, List.setIfInBounds_toArray, List.set_cons_zero, List.set_cons_succ]
            refine wpAnyH_take (i := 19) (oi := ⟨some 15, _, _, _, _, _⟩) (v := ?_) rfl (by kernel_rfl) (by kernel_rfl) (by kernel_rfl) (fun _ _ _ h => h) (Or.inl ⟨by kernel_rfl, ?_⟩) (by assumption) ?_
            rotate_left
            focus ((intro w hSw; (try dsimp only at hSw); go_simp); (try with_reducible rfl); done)
            simp only [Act.put, List.setIfInBounds_toArray, List.set_cons_zero, List.set_cons_succ]
            refine wpAnyH_done (by kernel_rfl) ?_ _
            all_goals
              go_wp2_with fail
              refine (HSA.out _ (by first | exact (Kp.refl _).drew | exact Kp.refl _)).mono ?_; rintro _ _ ⟨rfl, rfl⟩
              by_cases heq : HH = WT
              · have hb := decide_eq_true heq
                rw [hb]
                go_wp2_with fail
                go_ret
                exact ⟨⟨true, rfl, fun _ => HYES.out ⟨hout, heq⟩, fun _ => rfl⟩, K2.out.trans (by first | exact KR.out.drew | exact KR.out)⟩
              · have hb := decide_eq_false heq
                rw [hb]
                go_wp2_with fail
                go_roundw
                case rel => exact ⟨i + 1, by omega, by go_num, HPRE.out (fun h => heq h.2), by first | exact KR.out.drew | exact KR.out⟩
                case measure => simp [intOf]; omega
        · have e6 : ((y % 2 : Nat) : Int) = 1 := by omega
          rw [e6] at e5
          have hout : ¬ (y % 2 = 0 ∧ ((y / 2 : Nat) : Int) ∈ UN) := fun h => hev h.1
          generalize ((y / 2 : Nat) : Int) = Y2 at *
          have KD : Hid ((fun W => W.cell? ⟨gz, oz + i, none⟩ = some (.int .i64 (y : Int)) ∧ W.cell? ⟨b0, off0 + X * 5 + 3, none⟩ = some (.slice au nu cu)) wr.drew) := ⟨cz1, c3⟩
          go_wp2_with fail
          refine wp_region_held_drew (S := fun W => W.cell? ⟨gz, oz + i, none⟩ = some (.int .i64 (y : Int)) ∧ W.cell? ⟨b0, off0 + X * 5 + 3, none⟩ = some (.slice au nu cu)) (by kernel_rfl) (KD.out) (fun hHeld => ?_)
          refine wpAnyH_take (i := 0) (oi := ⟨some 45, _, _, _, _, _⟩) (v := ?_) rfl (by kernel_rfl) (by kernel_rfl) (by kernel_rfl) (fun _ _ _ h => h) (Or.inl ⟨by kernel_rfl, ?_⟩) (by assumption) ?_
          rotate_left
          focus ((intro w hSw; (try dsimp only at hSw); go_simp); (try with_reducible rfl); done)
          simp only [Act.put, List.setIfInBounds_toArray, List.set_cons_zero, List.set_cons_succ]
          refine wpAnyH_take (i := 1) (oi := ⟨some 46, _, _, _, _, _⟩) (v := ?_) rfl (by kernel_rfl) (by kernel_rfl) (by kernel_rfl) (fun _ _ _ h => h) (Or.inl ⟨by kernel_rfl, ?_⟩) (by assumption) ?_
          rotate_left
          focus ((intro w hSw; (try dsimp only at hSw); go_simp); (try with_reducible rfl); done)
          simp only [Act.put, List.setIfInBounds_toArray, List.set_cons_zero, List.set_cons_succ]
          refine wpAnyH_take (i := 2) (oi := ⟨some 47, _, _, _, _, _⟩) (v := ?_) rfl (by kernel_rfl) (by kernel_rfl) (by kernel_rfl) (fun _ _ _ h => h) (Or.inl ⟨by kernel_rfl, ?_⟩) (by assumption) ?_
          rotate_left
          focus ((intro w hSw; (try dsimp only at hSw); go_simp); (try with_reducible rfl); done)
          simp only [Act.put, List.setIfInBounds_toArray, List.set_cons_zero, List.set_cons_succ]
          refine wpAnyH_take (i := 3) (oi := ⟨some 48, _, _, _, _, _⟩) (v := ?_) rfl (by kernel_rfl) (by kernel_rfl) (by kernel_rfl) (fun _ _ _ h => h) (Or.inl ⟨by kernel_rfl, ?_⟩) (by assumption) ?_
          rotate_left
          focus ((intro w hSw; (try dsimp only at hSw); go_simp); (try with_reducible rfl); done)
          simp only [Act.put, List.setIfInBounds_toArray, List.set_cons_zero, List.set_cons_succ]
          refine wpAnyH_take (i := 4) (oi := ⟨some 49, _, _, _, _, _⟩) (v := ?_) rfl (by kernel_rfl) (by kernel_rfl) (by kernel_rfl) (fun _ _ _ h => h) (Or.inl ⟨by kernel_rfl, ?_⟩) (by assumption) ?_
          rotate_left
          focus ((intro w hSw; (try dsimp only at hSw); go_simp); (try with_reducible rfl); done)
          simp only [Act.put, List.setIfInBounds_toArray, List.set_cons_zero, List.set_cons_succ]
          refine wpAnyH_take (i := 5) (oi := ⟨some 50, _, _, _, _, _⟩) (v := ?_) rfl (by kernel_rfl) (by kernel_rfl) (by kernel_rfl) (fun _ _ _ h => h) (Or.inl ⟨by kernel_rfl, ?_⟩) (by assumption) ?_
          rotate_left
          focus ((intro w hSw; (try dsimp only at hSw); go_simp); (try with_reducible rfl); done)
          simp only [Act.put, List.setIfInBounds_toArray, List.set_cons_zero, List.set_cons_succ]
          refine wpAnyH_take (i := 6) (oi := ⟨some 51, _, _, _, _, _⟩) (v := ?_) rfl (by kernel_rfl) (by kernel_rfl) (by kernel_rfl) (fun _ _ _ h => h) (Or.inl ⟨by kernel_rfl, ?_⟩) (by assumption) ?_
          rotate_left
          focus ((intro w hSw; (try dsimp only at hSw); go_simp); (try with_reducible rfl); done)
          simp only [Act.put, List.setIfInBounds_toArray, List.set_cons_zero, List.set_cons_succ]
          refine wpAnyH_take (i := 7) (oi := ⟨some 52, _, _, _, _, _⟩) (v := undef) rfl (by kernel_rfl) (by kernel_rfl) (by kernel_rfl) (fun _ _ _ h => h) (Or.inr ⟨by kernel_rfl, rfl⟩) (by assumption) ?_
          simp only [Act.put, List.setIfInBounds_toArray, List.set_cons_zero, List.set_cons_succ]
          refine wpAnyH_take (i := 8) (oi := ⟨some 53, _, _, _, _, _⟩) (v := undef) rfl (by kernel_rfl) (by kernel_rfl) (by kernel_rfl) (fun _ _ _ h => h) (Or.inr ⟨by kernel_rfl, rfl⟩) (by assumption) ?_
          simp only [Act.put, List.setIfInBounds_toArray, List.set_cons_zero, List.set_cons_succ]
          refine wpAnyH_take (i := 9) (oi := ⟨some 54, _, _, _, _, _⟩) (v := undef) rfl (by kernel_rfl) (by kernel_rfl) (by kernel_rfl) (fun _ _ _ h => h) (Or.inr ⟨by kernel_rfl, rfl⟩) (by assumption) ?_
          simp only [Act.put, List.setIfInBounds_toArray, List.set_cons_zero, List.set_cons_succ]
          refine wpAnyH_take (i := 10) (oi := ⟨some 55, _, _, _, _, _⟩) (v := undef) rfl (by kernel_rfl) (by kernel_rfl) (by kernel_rfl) (fun _ _ _ h => h) (Or.inr ⟨by kernel_rfl, rfl⟩) (by assumption) ?_
          simp only [Act.put, List.setIfInBounds_toArray, List.set_cons_zero, List.set_cons_succ]
          refine wpAnyH_take (i := 11) (oi := ⟨some 56, _, _, _, _, _⟩) (v := undef) rfl (by kernel_rfl) (by kernel_rfl) (by kernel_rfl) (fun _ _ _ h => h) (Or.inr ⟨by kernel_rfl, rfl⟩) (by assumption) ?_
          simp only [Act.put, List.setIfInBounds_toArray, List.set_cons_zero, List.set_cons_succ]
          refine wpAnyH_take (i := 12) (oi := ⟨some 57, _, _, _, _, _⟩) (v := undef) rfl (by kernel_rfl) (by kernel_rfl) (by kernel_rfl) (fun _ _ _ h => h) (Or.inr ⟨by kernel_rfl, rfl⟩) (by assumption) ?_
          simp only [Act.put, List.setIfInBounds_toArray, List.set_cons_zero, List.set_cons_succ]
          refine wpAnyH_take (i := 13) (oi := ⟨some 58, _, _, _, _, _⟩) (v := undef) rfl (by kernel_rfl) (by kernel_rfl) (by kernel_rfl) (fun _ _ _ h => h) (Or.inr ⟨by kernel_rfl, rfl⟩) (by assumption) ?_
          simp only [Act.put, List.setIfInBounds_toArray, List.set_cons_zero, List.set_cons_succ]
          refine wpAnyH_take (i := 14) (oi := ⟨some 59, _, _, _, _, _⟩) (v := undef) rfl (by kernel_rfl) (by kernel_rfl) (by kernel_rfl) (fun _ _ _ h => h) (Or.inr ⟨by kernel_rfl, rfl⟩) (by assumption) ?_
          simp only [Act.put, List.setIfInBounds_toArray, List.set_cons_zero, List.set_cons_succ]
          refine wpAnyH_take (i := 15) (oi := ⟨some 60, _, _, _, _, _⟩) (v := undef) rfl (by kernel_rfl) (by kernel_rfl) (by kernel_rfl) (fun _ _ _ h => h) (Or.inr ⟨by kernel_rfl, rfl⟩) (by assumption) ?_
          simp only [Act.put, List.setIfInBounds_toArray, List.set_cons_zero, List.set_cons_succ]
          refine wpAnyH_take (i := 16) (oi := ⟨some 61, _, _, _, _, _⟩) (v := undef) rfl (by kernel_rfl) (by kernel_rfl) (by kernel_rfl) (fun _ _ _ h => h) (Or.inr ⟨by kernel_rfl, rfl⟩) (by assumption) ?_
          simp only [Act.put, List.setIfInBounds_toArray, List.set_cons_zero, List.set_cons_succ]
          refine wpAnyH_take (i := 17) (oi := ⟨some 62, _, _, _, _, _⟩) (v := undef) rfl (by kernel_rfl) (by kernel_rfl) (by kernel_rfl) (fun _ _ _ h => h) (Or.inr ⟨by kernel_rfl, rfl⟩) (by assumption) ?_
          simp only [Act.put, List.setIfInBounds_toArray, List.set_cons_zero, List.set_cons_succ]
          refine wpAnyH_take (i := 18) (oi := ⟨some 63, _, _, _, _, _⟩) (v := ?_) rfl (by kernel_rfl) (by kernel_rfl) (by kernel_rfl) (fun _ _ _ h => h) (Or.inl ⟨by kernel_rfl, ?_⟩) (by assumption) ?_
          rotate_left
          focus ((intro w hSw; (try dsimp only at hSw); go_simp); (try with_reducible rfl); done)
          simp only [Act.put, List.setIfInBounds_toArray, List.set_cons_zero, List.set_cons_succ]
          refine wpAnyH_take (i := 19) (oi := ⟨some 15, _, _, _, _, _⟩) (v := ?_) rfl (by kernel_rfl) (by kernel_rfl) (by kernel_rfl) (fun _ _ _ h => h) (Or.inl ⟨by kernel_rfl, ?_⟩) (by assumption) ?_
          rotate_left
          focus ((intro w hSw; (try dsimp only at hSw); go_simp); (try with_reducible rfl); done)
          simp only [Act.put, List.setIfInBounds_toArray, List.set_cons_zero, List.set_cons_succ]
          refine wpAnyH_done (by kernel_rfl) ?_ _
          all_goals
            go_wp2_with fail
            refine (HSA.out _ (by first | exact (Kp.refl _).drew | exact Kp.refl _)).mono ?_; rintro _ _ ⟨rfl, rfl⟩
            by_cases heq : HH = WT
            · have hb := decide_eq_true heq
              rw [hb]
              go_wp2_with fail
              go_ret
              exact ⟨⟨true, rfl, fun _ => HYES.out ⟨hout, heq⟩, fun _ => rfl⟩, K2.out.trans (by first | exact KR.out.drew | exact KR.out)⟩
            · have hb := decide_eq_false heq
              rw [hb]
              go_wp2_with fail
              go_roundw
              case rel => exact ⟨i + 1, by omega, by go_num, HPRE.out (fun h => heq h.2), by first | exact KR.out.drew | exact KR.out⟩
              case measure => simp [intOf]; omega
      · obtain rfl : i = ZL := by omega
        have HNO := Lib.hid (HQN.out hpre)
        have hle : ¬ (i : Int) < (i : Int) := by omega
        clear HTT HEL HQY HQN HZ hpre hkp HNX HW2 HXQ hlt
        go_wp2_with fail
        go_ret
        exact ⟨⟨false, rfl, fun h => (by cases h), fun h => absurd h HNO.out⟩, K2.out.trans KR.out⟩
set_option maxHeartbeats 1000000 in
theorem refHeld10_any (vt : Value) (t : List Nod) (K : Nat) (w : World) (hT : TidyT t K) (hr : RightK t K) (ht : NL w vt t) :
    Calls Tryz.prog 19 #[vt] w fun e w' => Tells e (heldP t) ∧ Kp w w' := by
  have HHD : Hid (∀ (x : Nat) side W, Kp w W → x < t.length → (ats t x).kind = 2 → (side = 0 ∨ side = 1) → Calls Tryz.prog 49 #[vt, .int .i64 (x : Int), .int .i64 side] W fun e w' => Tells e (heldS t x side) ∧ Kp W w') := fun x side W hW hx hk hs => by
    obtain ⟨j, q, rfl, hj, hq⟩ := hT.at hx
    cases j with
    | zero => have h1 := hT.par _ hk; have h2 := nd_even q; omega
    | succ j => exact held10_nd vt t K j q side W hT hr (ht.kp hW) hj hq hs
  obtain ⟨a, c, rfl, h1, h2⟩ := ht.shape
  have HN : Hid (∀ x W, Kp w W → x < t.length → ∃ b off, a = some ⟨b, off, none⟩ ∧ W.cell? ⟨b, off + x * 5, none⟩ = some (.int .i64 (ats t x).kind)) := fun x W hW hx => by
    obtain ⟨b, off, e, _, hi⟩ := ht.at x hx
    obtain ⟨p, u, h, hn⟩ := hi x hx
    exact ⟨b, off, e, (hn.kp hW).kind⟩
  have hts : t.length ≤ 2047 := by have := hr.small; omega
  have HP : Hid (heldP t ↔ ∀ x, x < t.length → (ats t x).kind = 2 → heldS t x 0 ∨ heldS t x 1) := Iff.rfl
  generalize heldP t = P at *
  clear hT hr ht
  obtain ⟨TL, hTL⟩ : ∃ TL, t.length = TL := ⟨_, rfl⟩
  rw [hTL] at HHD HN hts HP h1 ⊢
  clear hTL
  go_enter Tryz.func19, Tryz.ntmps19
  go_wp2_with fail
  go_loopw [3] (fun y wr => ∃ x : Nat, x ≤ TL ∧ y = .int .i64 (x : Int) ∧ (∀ k, k < x → (ats t k).kind = 2 → heldS t k 0 ∨ heldS t k 1) ∧ Kp w wr) (fun y _ => (TL - (intOf y).toNat))
  case atStart => exact ⟨0, Nat.zero_le _, rfl, fun k h => by omega, Kp.refl _⟩
  case round =>
    obtain ⟨x, hx, rfl, hpre, hkp⟩ := hrel
    have KR := Lib.hid hkp
    by_cases hlt : x < TL
    · obtain ⟨b, off, rfl, hc⟩ := HN.out x wr hkp hlt
      have i1 : IntKind.i64.wrap ((x : Int) + 1) = (x : Int) + 1 := IntWalk.i64_in _ (by omega)
      have i3 : (x : Int) < (TL : Int) := by omega
      have HPRE : Hid (((ats t x).kind = 2 → heldS t x 0 ∨ heldS t x 1) → ∀ k, k < x + 1 → (ats t k).kind = 2 → heldS t k 0 ∨ heldS t k 1) := fun h k hk => by
        rcases Nat.lt_or_eq_of_le (Nat.lt_succ_iff.1 hk) with h3 | h3
        · exact hpre k h3
        · rw [h3]; exact h
      have HNO : Hid ((ats t x).kind = 2 → ¬ heldS t x 0 → ¬ heldS t x 1 → ¬ P) := fun h1 h2 h3 hp => by
        rcases HP.out.1 hp x hlt h1 with h | h
        · exact h2 h
        · exact h3 h
      by_cases hk : (ats t x).kind = 2
      · have H0 := Lib.hid (fun W hW => HHD.out x 0 W hW hlt hk (.inl rfl))
        have H1 := Lib.hid (fun W hW => HHD.out x 1 W hW hlt hk (.inr rfl))
        rw [hk] at hc
        have HK := Lib.hid hk
        generalize heldS t x 0 = A0 at *
        generalize heldS t x 1 = A1 at *
        clear HHD HN HP hpre hkp hk
        go_wp2_with fail
        refine (H0.out _ KR.out).mono ?_; rintro _ w1 ⟨⟨a0, rfl, g0⟩, k1⟩
        have K1 := Lib.hid (KR.out.trans k1)
        clear hc
        go_wp2_with fail
        refine (H1.out _ K1.out).mono ?_; rintro _ w2 ⟨⟨a1, rfl, g1⟩, k2⟩
        have K2 := Lib.hid (K1.out.trans k2)
        have G0 := Lib.hid g0
        have G1 := Lib.hid g1
        clear g0 g1 k1 k2
        cases a0
        · cases a1
          · go_wp2_with fail
            go_ret
            exact ⟨⟨false, rfl, fun h => (by cases h), fun h => absurd h (HNO.out HK.out (fun h => by have := G0.out.2 h; cases this) (fun h => by have := G1.out.2 h; cases this))⟩, K2.out⟩
          · go_wp2_with fail
            go_roundw
            case rel => exact ⟨x + 1, by omega, by go_num, HPRE.out (fun _ => .inr (G1.out.1 (by first | exact rfl | trivial))), K2.out⟩
            case measure => simp [intOf]; omega
        · go_wp2_with fail
          go_roundw
          case rel => exact ⟨x + 1, by omega, by go_num, HPRE.out (fun _ => .inl (G0.out.1 (by first | exact rfl | trivial))), K2.out⟩
          case measure => simp [intOf]; omega
      · have hkb : ((ats t x).kind == 2) = false := beq_eq_false_iff_ne.2 hk
        have HR := Lib.hid (HPRE.out (fun h => absurd h hk))
        generalize (ats t x).kind = KK at *
        clear HHD HN HP hpre hkp HPRE HNO
        go_wp2_with fail
        go_roundw
        case rel => exact ⟨x + 1, by omega, by go_num, HR.out, KR.out⟩
        case measure => simp [intOf]; omega
    · obtain rfl : x = TL := by omega
      have HY := Lib.hid (HP.out.2 hpre)
      have hle : ¬ (x : Int) < (x : Int) := by omega
      clear HHD HN HP hpre hkp hlt
      go_wp2_with fail
      go_ret
      exact ⟨⟨true, rfl, fun _ => HY.out, fun _ => rfl⟩, KR.out⟩
end Go.Proofs.YtobldbodafaajaaGreatDoor

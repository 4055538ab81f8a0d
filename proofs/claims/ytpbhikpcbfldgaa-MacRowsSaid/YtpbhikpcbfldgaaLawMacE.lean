/- MacRows. -/
import Derived.Test.YtpbhikpcbfldgaaLawMacA
import Derived.Deep.RegionHeld3
set_option linter.unusedVariables false
set_option linter.unusedSimpArgs false
namespace Go.Proofs.Ytpbhikpcbfldgaa
open Go.RowKit

theorem RL.lit4 {w : World} {e : TypeId} {v0 v1 v2 v3 : Value} {l0 l1 l2 l3 : List UInt8} (h0 : Rd w v0 l0) (h1 : Rd w v1 l1) (h2 : Rd w v2 l2) (h3 : Rd w v3 l3) :
    RL (w.alloc (.cells #[v0, v1, v2, v3] e)) (.slice (some ⟨w.heap.size, 0, none⟩) 4 4) [l0, l1, l2, l3] := by
  have ho := World.ownsRow_lit (base := w.heap.size) (e := e) (size := 1) w #[v0, v1, v2, v3] 4 (Nat.le_refl _) (by unfold maxLen; omega) rfl
  have hk : Kp w (w.alloc (.cells #[v0, v1, v2, v3] e)) := (Kp.refl _).alloc _
  refine ⟨[v0, v1, v2, v3], Vals.own ho, rfl, fun i hi => ?_⟩
  match i, hi with
  | 0, _ => exact h0.kp hk
  | 1, _ => exact h1.kp hk
  | 2, _ => exact h2.kp hk
  | 3, _ => exact h3.kp hk
theorem cut3 (b : List UInt8) (i k : Nat) (h : i ≤ k) : [b.take i, (b.drop i).take (k - i), [], b.drop k].flatten = b := by
  have e : (b.drop i).drop (k - i) = b.drop k := by rw [List.drop_drop]; congr 1; omega
  simp only [List.flatten_cons, List.flatten_nil, List.append_nil, List.nil_append]
  rw [← e, List.take_append_drop, List.take_append_drop]

set_option maxRecDepth 100000 in
set_option maxHeartbeats 4000000 in
theorem macRows_walk (va vb : Value) (la lb : List UInt8) (x y : Int) (w : World) (ha : Rd w va la) (hb : Rd w vb lb) (x0 : 0 ≤ x) (x1 : x < 65536) (y0 : 0 ≤ y) (y1 : y < 65536) :
    Calls Try.prog 6 #[va, vb, .agg #[.int .u16 x, .int .u16 y]] w (Yes w) := by
  have U := u8
  obtain ⟨a1, c1, rfl, p1, q1⟩ := ha.shape
  obtain ⟨a2, c2, rfl, p2, q2⟩ := hb.shape
  unfold maxLen at q1 q2
  by_cases h1 : la.length ≤ 200
  · have h1' : ¬ (200 < (la.length : Int)) := by omega
    by_cases h2 : lb.length ≤ 300
    · have h2' : ¬ (300 < (lb.length : Int)) := by omega
      obtain ⟨i, hi⟩ : ∃ i : Nat, (i : Int) = x % ((lb.length : Int) + 1) := ⟨(x % ((lb.length : Int) + 1)).toNat, by have := Int.emod_nonneg x (show (lb.length : Int) + 1 ≠ 0 by omega); omega⟩
      have hil : (i : Int) ≤ lb.length := by have := Int.emod_lt_of_pos x (show 0 < (lb.length : Int) + 1 by omega); omega
      obtain ⟨j, hj⟩ : ∃ j : Nat, (j : Int) = y % ((lb.length : Int) - i + 1) := ⟨(y % ((lb.length : Int) - i + 1)).toNat, by have := Int.emod_nonneg y (show (lb.length : Int) - i + 1 ≠ 0 by omega); omega⟩
      have hjl : (j : Int) ≤ lb.length - i := by have := Int.emod_lt_of_pos y (show 0 < (lb.length : Int) - i + 1 by omega); omega
      have hi2 : x.tmod ((lb.length : Int) + 1) = i := by rw [Int.tmod_eq_emod_of_nonneg x0, hi]
      have hj2 : y.tmod ((lb.length : Int) - i + 1) = j := by rw [Int.tmod_eq_emod_of_nonneg y0, hj]
      have HI := Lib.hid (And.intro hi.symm hi2)
      have HJ := Lib.hid (And.intro hj.symm hj2)
      have b1 : (i : Int) + (j : Int) ≤ lb.length := by omega
      have HC := Lib.hid (cut3 lb i (i + j) (by omega))
      have hc0 : (w.alloc (.cells #[.int .u16 x, .int .u16 y] 33)).cell? ⟨w.heap.size, 0, none⟩ = some (.int .u16 x) := pair0 _ _ _ _
      have hc1 : (w.alloc (.cells #[.int .u16 x, .int .u16 y] 33)).cell? ⟨w.heap.size, 1, none⟩ = some (.int .u16 y) := pair1 _ _ _ _
      have HC0 := Lib.hid hc0
      have HC1 := Lib.hid hc1
      clear hi hi2 hj hj2 hc0 hc1
      obtain ⟨l0, e0⟩ : ∃ l, lb.take i = l := ⟨_, rfl⟩
      obtain ⟨l1, e1⟩ : ∃ l, (lb.drop i).take (i + j - i) = l := ⟨_, rfl⟩
      obtain ⟨l3, e3⟩ : ∃ l, lb.drop (i + j) = l := ⟨_, rfl⟩
      rw [e0, e1, e3] at HC
      have HFL : Hid ([l0, l1, [], l3].flatten.length ≤ 1900) := by show [l0, l1, [], l3].flatten.length ≤ 1900; rw [HC.out]; omega
      have hlb19 : lb.length ≤ 1900 := by omega
      have hci1 : (i : Int) ≤ (c2 : Int) := by omega
      have hci2 : (i : Int) + (j : Int) ≤ (c2 : Int) := by omega
      have hcl : (lb.length : Int) ≤ (c2 : Int) := by omega
      have q1 : ((i : Int) + (j : Int)).toNat = i + j := by omega
      have q2 : (0 : Int) ≤ (i : Int) + (j : Int) := by omega
      have q3 : (i : Int) ≤ (i : Int) + (j : Int) := by omega
      have hij : i + j ≤ lb.length := by omega
      by_cases hci : c2 = i
      · have hjz : 0 = j := by omega
        have hli : i = lb.length := by omega
        have hcl' : c2 = lb.length := by omega
        have r0 : Rd w (.slice a2 lb.length lb.length) l0 := by
          rw [← e0, hli, List.take_length]; rw [hcl'] at hb; exact hb
        have r1 : Rd w (.slice a2 0 0) l1 := by
          have := hb.cut i i (by omega) (by omega) a2 0 0 (by rw [if_pos hci]) (by omega) (by omega)
          rw [← e1, ← hjz]; simpa using this
        have r3 : Rd w (.slice a2 0 0) l3 := by
          have h := hb.cut i i (by omega) (by omega) a2 0 0 (by rw [if_pos hci]) (by omega) (by omega)
          rw [← e3, List.drop_eq_nil_of_le (by omega)]; simpa using h
        clear e0 e1 e3
        subst hjz
        subst hli
        subst hcl'
        clear hci q1 q2 q3 hij hci1 hci2 hcl
        go_enter Try.func6, Try.ntmps6
        go_wp2_with fail
        refine (shownMac_any _).mono ?_
        rintro e w1 ⟨rfl, k01⟩
        have cc0 := k01.cell HC0.out
        have cc1 := k01.cell HC1.out
        have k1 : Kp w w1 := ((Kp.refl _).alloc _).trans k01
        obtain ⟨i1, i2⟩ := HI.out
        obtain ⟨j1, j2⟩ := HJ.out
        clear k01
        go_wp2_with fail
        clear i1 i2 j1 j2 cc0 cc1
        go_region_held3 (fun _ => True) (exact trivial) (first | (go_at_call 15; refine (mac_all _ _ la [l0, l1, [], l3] _ ((ha.kp k1).kp (((Kp.refl _).alloc _).drew)) ((RL.lit4 (r0.kp k1) (r1.kp k1) (rd_nil _) (r3.kp k1)).kp ((Kp.refl _).drew)) (by omega) HFL.out (by simp)).mono ?_; rintro e w2 ⟨⟨a2', c2', rfl, o2⟩, k2⟩))
        rw [HC.out] at o2
        have kk : Kp w1 w2 := (((Kp.refl _).alloc _).drew).trans k2
        go_wp2_with fail
        refine (mac_sum _ _ la lb _ (ha.kp (k1.trans kk)) (hb.kp (k1.trans kk)) (by omega) hlb19).mono ?_
        rintro e w3 ⟨⟨a3, c3, rfl, o3⟩, k3⟩
        go_wp2_with fail
        refine (same_at _ _ _ _ true _ (o2.rd.kp k3) o3.rd (decide_eq_true rfl)).mono ?_
        rintro e w4 ⟨rfl, rfl⟩
        go_wp2_with fail
        refine (mac_all _ _ la [] _ (ha.kp ((k1.trans kk).trans k3)) (RL.nil _) (by omega) (by simp) (by simp)).mono ?_
        rintro e w4 ⟨⟨a4, c4, rfl, o4⟩, k4⟩
        go_wp2_with fail
        refine (mac_sum _ _ la [] _ (ha.kp (((k1.trans kk).trans k3).trans k4)) (rd_nil _) (by omega) (by simp)).mono ?_
        rintro e w5 ⟨⟨a5, c5, rfl, o5⟩, k5⟩
        go_wp2_with fail
        refine (same_at _ _ _ _ true _ (o4.rd.kp k5) o5.rd (decide_eq_true rfl)).mono ?_
        rintro e w6 ⟨rfl, rfl⟩
        go_wp2_with fail
        go_ret
        exact ⟨rfl, (((k1.trans kk).trans k3).trans k4).trans k5⟩
      · by_cases hl0 : lb.length = 0
        · have hiz : 0 = i := by omega
          have hjz : 0 = j := by omega
          subst hiz
          subst hjz
          rw [hl0] at hb
          have r0 : Rd w (.slice a2 0 c2) l0 := by rw [← e0]; simpa [List.eq_nil_of_length_eq_zero hl0] using hb
          have r1 : Rd w (.slice a2 0 c2) l1 := by rw [← e1]; simpa [List.eq_nil_of_length_eq_zero hl0] using hb
          have r3 : Rd w (.slice a2 0 c2) l3 := by rw [← e3]; simpa [List.eq_nil_of_length_eq_zero hl0] using hb
          clear e0 e1 e3
          go_enter Try.func6, Try.ntmps6
          go_wp2_with fail
          refine (shownMac_any _).mono ?_
          rintro e w1 ⟨rfl, k01⟩
          have cc0 := k01.cell HC0.out
          have cc1 := k01.cell HC1.out
          have k1 : Kp w w1 := ((Kp.refl _).alloc _).trans k01
          obtain ⟨i1, i2⟩ := HI.out
          obtain ⟨j1, j2⟩ := HJ.out
          clear k01
          go_wp2_with fail
          clear i1 i2 j1 j2 cc0 cc1
          go_region_held3 (fun _ => True) (exact trivial) (first | (go_at_call 15; refine (mac_all _ _ la [l0, l1, [], l3] _ ((ha.kp k1).kp (((Kp.refl _).alloc _).drew)) ((RL.lit4 (r0.kp k1) (r1.kp k1) (rd_nil _) (r3.kp k1)).kp ((Kp.refl _).drew)) (by omega) HFL.out (by simp)).mono ?_; rintro e w2 ⟨⟨a2', c2', rfl, o2⟩, k2⟩))
          rw [HC.out] at o2
          have kk : Kp w1 w2 := (((Kp.refl _).alloc _).drew).trans k2
          go_wp2_with fail
          refine (mac_sum _ _ la lb _ (ha.kp (k1.trans kk)) (hb.kp (k1.trans kk)) (by omega) hlb19).mono ?_
          rintro e w3 ⟨⟨a3, c3, rfl, o3⟩, k3⟩
          go_wp2_with fail
          refine (same_at _ _ _ _ true _ (o2.rd.kp k3) o3.rd (decide_eq_true rfl)).mono ?_
          rintro e w4 ⟨rfl, rfl⟩
          go_wp2_with fail
          refine (mac_all _ _ la [] _ (ha.kp ((k1.trans kk).trans k3)) (RL.nil _) (by omega) (by simp) (by simp)).mono ?_
          rintro e w4 ⟨⟨a4, c4, rfl, o4⟩, k4⟩
          go_wp2_with fail
          refine (mac_sum _ _ la [] _ (ha.kp (((k1.trans kk).trans k3).trans k4)) (rd_nil _) (by omega) (by simp)).mono ?_
          rintro e w5 ⟨⟨a5, c5, rfl, o5⟩, k5⟩
          go_wp2_with fail
          refine (same_at _ _ _ _ true _ (o4.rd.kp k5) o5.rd (decide_eq_true rfl)).mono ?_
          rintro e w6 ⟨rfl, rfl⟩
          go_wp2_with fail
          go_ret
          exact ⟨rfl, (((k1.trans kk).trans k3).trans k4).trans k5⟩
        · obtain ⟨b, off, rfl, _⟩ := hb.at 0 (by omega)
          have r0 : Rd w (.slice (some ⟨b, off, none⟩) i c2) l0 := by
            have := hb.cut 0 i (by omega) (by omega) (some ⟨b, off, none⟩) i c2 (by rw [if_neg (by omega)]; simp [Addr.add]) (by omega) (by omega)
            rw [← e0]; simpa using this
          have r1 : Rd w (.slice (some ⟨b, off + i, none⟩) j (c2 - i)) l1 := by
            have := hb.cutAt i j (by omega) (by omega)
            rw [← e1]; rwa [Nat.add_sub_cancel_left]
          by_cases hck : c2 = i + j
          · have r3 : Rd w (.slice (some ⟨b, off, none⟩) 0 0) l3 := by
              have := hb.cut (i + j) lb.length (by omega) (by omega) (some ⟨b, off, none⟩) 0 0 (by rw [if_pos hck]) (by omega) (by omega)
              rw [List.take_of_length_le (by simp), e3] at this
              exact this
            have hz : 0 = lb.length - (i + j) := by omega
            have hjj : c2 - i = j := by omega
            have hj0 : ¬ j = 0 := by omega
            rw [hck] at r0 hb
            rw [hjj] at r1
            rw [show (Value.slice (some ⟨b, off, none⟩) 0 0) = .slice (some ⟨b, off, none⟩) (lb.length - (i + j)) 0 by rw [← hz]] at r3
            clear e0 e1 e3 hz hjj
            go_enter Try.func6, Try.ntmps6
            go_wp2_with fail
            refine (shownMac_any _).mono ?_
            rintro e w1 ⟨rfl, k01⟩
            have cc0 := k01.cell HC0.out
            have cc1 := k01.cell HC1.out
            have k1 : Kp w w1 := ((Kp.refl _).alloc _).trans k01
            obtain ⟨i1, i2⟩ := HI.out
            obtain ⟨j1, j2⟩ := HJ.out
            clear k01
            go_wp2_with fail
            clear i1 i2 j1 j2 cc0 cc1
            go_region_held3 (fun _ => True) (exact trivial) (first | (go_at_call 15; refine (mac_all _ _ la [l0, l1, [], l3] _ ((ha.kp k1).kp (((Kp.refl _).alloc _).drew)) ((RL.lit4 (r0.kp k1) (r1.kp k1) (rd_nil _) (r3.kp k1)).kp ((Kp.refl _).drew)) (by omega) HFL.out (by simp)).mono ?_; rintro e w2 ⟨⟨a2', c2', rfl, o2⟩, k2⟩))
            rw [HC.out] at o2
            have kk : Kp w1 w2 := (((Kp.refl _).alloc _).drew).trans k2
            go_wp2_with fail
            refine (mac_sum _ _ la lb _ (ha.kp (k1.trans kk)) (hb.kp (k1.trans kk)) (by omega) hlb19).mono ?_
            rintro e w3 ⟨⟨a3, c3, rfl, o3⟩, k3⟩
            go_wp2_with fail
            refine (same_at _ _ _ _ true _ (o2.rd.kp k3) o3.rd (decide_eq_true rfl)).mono ?_
            rintro e w4 ⟨rfl, rfl⟩
            go_wp2_with fail
            refine (mac_all _ _ la [] _ (ha.kp ((k1.trans kk).trans k3)) (RL.nil _) (by omega) (by simp) (by simp)).mono ?_
            rintro e w4 ⟨⟨a4, c4, rfl, o4⟩, k4⟩
            go_wp2_with fail
            refine (mac_sum _ _ la [] _ (ha.kp (((k1.trans kk).trans k3).trans k4)) (rd_nil _) (by omega) (by simp)).mono ?_
            rintro e w5 ⟨⟨a5, c5, rfl, o5⟩, k5⟩
            go_wp2_with fail
            refine (same_at _ _ _ _ true _ (o4.rd.kp k5) o5.rd (decide_eq_true rfl)).mono ?_
            rintro e w6 ⟨rfl, rfl⟩
            go_wp2_with fail
            go_ret
            exact ⟨rfl, (((k1.trans kk).trans k3).trans k4).trans k5⟩
          · have r3 : Rd w (.slice (some ⟨b, off + (i + j), none⟩) (lb.length - (i + j)) (c2 - (i + j))) l3 := by
              have := hb.cutAt (i + j) (lb.length - (i + j)) (by omega) (by omega)
              rw [← e3]; rwa [List.take_of_length_le (by simp)] at this
            clear e0 e1 e3
            go_enter Try.func6, Try.ntmps6
            go_wp2_with fail
            refine (shownMac_any _).mono ?_
            rintro e w1 ⟨rfl, k01⟩
            have cc0 := k01.cell HC0.out
            have cc1 := k01.cell HC1.out
            have k1 : Kp w w1 := ((Kp.refl _).alloc _).trans k01
            obtain ⟨i1, i2⟩ := HI.out
            obtain ⟨j1, j2⟩ := HJ.out
            clear k01
            go_wp2_with fail
            clear i1 i2 j1 j2 cc0 cc1
            go_region_held3 (fun _ => True) (exact trivial) (first | (go_at_call 15; refine (mac_all _ _ la [l0, l1, [], l3] _ ((ha.kp k1).kp (((Kp.refl _).alloc _).drew)) ((RL.lit4 (r0.kp k1) (r1.kp k1) (rd_nil _) (r3.kp k1)).kp ((Kp.refl _).drew)) (by omega) HFL.out (by simp)).mono ?_; rintro e w2 ⟨⟨a2', c2', rfl, o2⟩, k2⟩))
            rw [HC.out] at o2
            have kk : Kp w1 w2 := (((Kp.refl _).alloc _).drew).trans k2
            go_wp2_with fail
            refine (mac_sum _ _ la lb _ (ha.kp (k1.trans kk)) (hb.kp (k1.trans kk)) (by omega) hlb19).mono ?_
            rintro e w3 ⟨⟨a3, c3, rfl, o3⟩, k3⟩
            go_wp2_with fail
            refine (same_at _ _ _ _ true _ (o2.rd.kp k3) o3.rd (decide_eq_true rfl)).mono ?_
            rintro e w4 ⟨rfl, rfl⟩
            go_wp2_with fail
            refine (mac_all _ _ la [] _ (ha.kp ((k1.trans kk).trans k3)) (RL.nil _) (by omega) (by simp) (by simp)).mono ?_
            rintro e w4 ⟨⟨a4, c4, rfl, o4⟩, k4⟩
            go_wp2_with fail
            refine (mac_sum _ _ la [] _ (ha.kp (((k1.trans kk).trans k3).trans k4)) (rd_nil _) (by omega) (by simp)).mono ?_
            rintro e w5 ⟨⟨a5, c5, rfl, o5⟩, k5⟩
            go_wp2_with fail
            refine (same_at _ _ _ _ true _ (o4.rd.kp k5) o5.rd (decide_eq_true rfl)).mono ?_
            rintro e w6 ⟨rfl, rfl⟩
            go_wp2_with fail
            go_ret
            exact ⟨rfl, (((k1.trans kk).trans k3).trans k4).trans k5⟩
    · have h2' : (300 < (lb.length : Int)) := by omega
      clear h2
      go_enter Try.func6, Try.ntmps6
      go_wp2_with fail
      refine (shownMac_any _).mono ?_
      rintro e w1 ⟨rfl, k1⟩
      go_wp2_with fail
      go_ret
      exact ⟨rfl, ((Kp.refl _).alloc _).trans k1⟩
  · have h1' : (200 < (la.length : Int)) := by omega
    clear h1
    go_enter Try.func6, Try.ntmps6
    go_wp2_with fail
    refine (shownMac_any _).mono ?_
    rintro e w1 ⟨rfl, k1⟩
    go_wp2_with fail
    go_ret
    exact ⟨rfl, ((Kp.refl _).alloc _).trans k1⟩
end Go.Proofs.Ytpbhikpcbfldgaa

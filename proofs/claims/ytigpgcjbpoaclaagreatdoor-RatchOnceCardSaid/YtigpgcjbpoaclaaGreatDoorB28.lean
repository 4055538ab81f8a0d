import Derived.Test.YtigpgcjbpoaclaaGreatDoorB22
set_option linter.unusedVariables false
set_option linter.unusedSimpArgs false
namespace Go.Proofs.YtigpgcjbpoaclaaGreatDoor
open Go.RowKit
theorem blk_step (l : List UInt8) (k : Nat) : l ++ List.replicate k 0 ++ [0] = l ++ List.replicate (k + 1) 0 := by
  rw [List.append_assoc, List.replicate_succ']
set_option maxHeartbeats 1000000 in
theorem refKey_mac (v : Value) (l : List UInt8) (w : World) (h : Rd w v l) (hl : l.length ≤ 2000) :
    Calls Tryz.prog 83 #[v] w fun e w' => (∃ v', e = .returned v' ∧ Ow 5 w' w.heap.size v' (keyB l)) ∧ Kp w w' := by
  have U := u8
  obtain ⟨a, c, rfl, h1, h2⟩ := h.shape
  unfold maxLen at h2
  have HS := Lib.hid blk_step
  by_cases hlt : 64 < l.length
  · have hK : keyB l = digest l ++ List.replicate 32 0 := by unfold keyB blkB; rw [if_pos hlt, digest_length]
    rw [hK]
    have hR := digest_length l
    have hlt' : 64 < (l.length : Int) := by omega
    obtain ⟨D, hD⟩ : ∃ D, digest l = D := ⟨_, rfl⟩
    obtain ⟨R, hRR⟩ : ∃ R : Nat, R = 32 := ⟨_, rfl⟩
    have HO := Lib.hid (refSum_own (.slice a l.length c) l)
    rw [hD] at hR HO ⊢
    rw [show List.replicate 32 (0 : UInt8) = List.replicate R 0 from by rw [hRR]]
    have HR : Hid (D.length + R = 64) := by show _ = _; omega
    clear hK hD hR hRR
    go_enter Tryz.func83, Tryz.ntmps83
    go_wp2_with (at_builtin; refine wpList_append_ow U rfl _ _ rfl w.heap.size _ _ rfl (Ow.lit w 5 w.heap.size 0 #[] [] (Nat.le_refl _) rfl (by decide) rfl) _ l rfl (h.kp ((Kp.refl w).alloc _)) ?d1 ?d2 ?_; rotate_right; intro v2 w2 o2 g2 _; have k2 : Kp w w2 := Kp.grown ((Kp.refl w).alloc _) g2 (by intro k e; cases e; exact Nat.le_refl _); clear g2)
    case d1 => simp; omega
    case d2 => simp
    refine (HO.out _ (h.kp k2) hl).mono ?_
    rintro e wA ⟨⟨vA, rfl, oA0⟩, k3⟩
    have oA := oA0.mono k2.size
    have kA := k2.trans k3
    clear oA0 o2 k2 k3
    go_wp2_with fail
    have o3' : Ow 5 wA w.heap.size vA (D ++ List.replicate 0 0) := by simpa using oA
    clear oA
    go_loopw [3] (fun v wr => ∃ k : Nat, k ≤ R ∧ Ow 5 wr w.heap.size v (D ++ List.replicate k 0) ∧ Kp w wr) (fun v _ => match v with | .slice _ n _ => 64 - n | _ => 0)
    case atStart => exact ⟨0, by omega, o3', kA⟩
    case round =>
      clear o3' kA
      obtain ⟨k, hk, ho, hkp⟩ := hrel
      have hsz := hkp.size
      obtain ⟨av, cv, rfl, p1, p2⟩ := ho.rd.shape
      have hlen : (D ++ List.replicate k 0).length = D.length + k := by rw [List.length_append]; simp
      rw [hlen] at p1 ⊢
      rw [hlen] at ho
      unfold maxLen at p2
      by_cases hk2 : k < R
      · have HSk := Lib.hid (HS.out D k)
        generalize D ++ List.replicate k 0 = X at *
        have HLN := Lib.hid hlen
        clear hlen
        have hDR := HR.out
        have q : (D.length : Int) + (k : Int) < 64 := by omega
        have q' : D.length + k < 64 := by omega
        clear hDR
        go_wp2_with (at_builtin; refine wpList_append_ow U rfl _ _ rfl w.heap.size _ _ rfl (ho.kp ((Kp.refl _).alloc _)) _ [0] rfl (Ow.lit _ 5 0 1 _ _ (Nat.zero_le _) rfl (by decide) rfl).rd ?c1 ?c2 ?_; rotate_right; intro v' w2 ho2 hg _)
        case c1 => rw [HLN.out]; simp; omega
        case c2 => simp; omega
        go_roundw
        case rel => exact ⟨k + 1, by omega, by rw [← HSk.out]; exact ho2, Kp.grown (hkp.alloc _) hg ho.own_ge⟩
        case measure =>
          obtain ⟨a5, c5, rfl, _⟩ := ho2.rd.shape
          rw [List.length_append, HLN.out]
          simp
          omega
      · obtain rfl : k = R := by omega
        have hDR := HR.out
        have q : ¬ (D.length : Int) + (k : Int) < 64 := by omega
        have q' : ¬ D.length + k < 64 := by omega
        clear hDR hlen
        go_wp2_with fail
        go_ret
        exact ⟨⟨_, rfl, ho⟩, hkp⟩
  · have hK : keyB l = l ++ List.replicate (64 - l.length) 0 := by unfold keyB blkB; rw [if_neg hlt]
    rw [hK]
    have hlt' : ¬ 64 < (l.length : Int) := by omega
    obtain ⟨R, hRR⟩ : ∃ R : Nat, R = 64 - l.length := ⟨_, rfl⟩
    rw [← hRR]
    have HR : Hid (l.length + R = 64) := by show _ = _; omega
    clear hK hRR
    go_enter Tryz.func83, Tryz.ntmps83
    go_wp2_with (at_builtin; refine wpList_append_ow U rfl _ _ rfl w.heap.size _ _ rfl (Ow.lit w 5 w.heap.size 0 #[] [] (Nat.le_refl _) rfl (by decide) rfl) _ l rfl (h.kp ((Kp.refl w).alloc _)) ?d3 ?d4 ?_; rotate_right; intro v2 w2 o2 g2 _; have k2 : Kp w w2 := Kp.grown ((Kp.refl w).alloc _) g2 (by intro k e; cases e; exact Nat.le_refl _); clear g2)
    case d3 => omega
    have oA : Ow 5 w2 w.heap.size v2 l := by simpa using o2
    have kA := k2
    clear o2 k2
    have o3' : Ow 5 w2 w.heap.size v2 (l ++ List.replicate 0 0) := by simpa using oA
    clear oA
    go_loopw [3] (fun v wr => ∃ k : Nat, k ≤ R ∧ Ow 5 wr w.heap.size v (l ++ List.replicate k 0) ∧ Kp w wr) (fun v _ => match v with | .slice _ n _ => 64 - n | _ => 0)
    case atStart => exact ⟨0, by omega, o3', kA⟩
    case round =>
      clear o3' kA
      obtain ⟨k, hk, ho, hkp⟩ := hrel
      have hsz := hkp.size
      obtain ⟨av, cv, rfl, p1, p2⟩ := ho.rd.shape
      have hlen : (l ++ List.replicate k 0).length = l.length + k := by rw [List.length_append]; simp
      rw [hlen] at p1 ⊢
      rw [hlen] at ho
      unfold maxLen at p2
      by_cases hk2 : k < R
      · have HSk := Lib.hid (HS.out l k)
        generalize l ++ List.replicate k 0 = X at *
        have HLN := Lib.hid hlen
        clear hlen
        have hDR := HR.out
        have q : (l.length : Int) + (k : Int) < 64 := by omega
        have q' : l.length + k < 64 := by omega
        clear hDR
        go_wp2_with (at_builtin; refine wpList_append_ow U rfl _ _ rfl w.heap.size _ _ rfl (ho.kp ((Kp.refl _).alloc _)) _ [0] rfl (Ow.lit _ 5 0 1 _ _ (Nat.zero_le _) rfl (by decide) rfl).rd ?c3 ?c4 ?_; rotate_right; intro v' w2 ho2 hg _)
        case c3 => rw [HLN.out]; simp; omega
        case c4 => simp; omega
        go_roundw
        case rel => exact ⟨k + 1, by omega, by rw [← HSk.out]; exact ho2, Kp.grown (hkp.alloc _) hg ho.own_ge⟩
        case measure =>
          obtain ⟨a5, c5, rfl, _⟩ := ho2.rd.shape
          rw [List.length_append, HLN.out]
          simp
          omega
      · obtain rfl : k = R := by omega
        have hDR := HR.out
        have q : ¬ (l.length : Int) + (k : Int) < 64 := by omega
        have q' : ¬ l.length + k < 64 := by omega
        clear hDR hlen
        go_wp2_with fail
        go_ret
        exact ⟨⟨_, rfl, ho⟩, hkp⟩
set_option maxHeartbeats 1000000 in
theorem with_any (v : Value) (l : List UInt8) (y : UInt8) (w : World) (h : Rd w v l) (hl : l.length ≤ 1000000) :
    Calls Tryz.prog 85 #[v, .int .u8 (y.toNat : Int)] w fun e w' => (∃ v', e = .returned v' ∧ Ow 5 w' w.heap.size v' (xorB l y)) ∧ Kp w w' := by
  have U := u8
  obtain ⟨a, c, rfl, h1, h2⟩ := h.shape
  unfold maxLen at h2
  have hx : ∀ k, k < l.length → xorB (l.take (k + 1)) y = xorB (l.take k) y ++ [l.getD k 0 ^^^ y] := fun k hk => by rw [snoc_take l k hk, xorB_append]; rfl
  have HX := Lib.hid hx
  clear hx
  go_enter Tryz.func85, Tryz.ntmps85
  go_wp2_with fail
  go_loopw [5, 6] (fun v i wr => ∃ k : Nat, k ≤ l.length ∧ i = .int .i64 k ∧ Ow 5 wr w.heap.size v (xorB (l.take k) y) ∧ Kp w wr) (fun _ i _ => l.length - (intOf i).toNat)
  case atStart => exact ⟨0, by omega, rfl, Ow.nil _ _ _, Kp.refl _⟩
  case round =>
    obtain ⟨k, hk, rfl, ho, hkp⟩ := hrel
    have hsz := hkp.size
    by_cases hlt : k < l.length
    · obtain ⟨b, off, rfl, _, hcell⟩ := h.at k hlt
      have hc0 := hkp.cell (hcell k hlt)
      have hxo := ub8_xor (l.getD k 0) y
      have hlen : (xorB (l.take k) y).length = k := by rw [xorB_length]; simp; omega
      have HXk := Lib.hid (HX.out k hlt)
      generalize l.getD k 0 = x at *
      generalize hz : x ^^^ y = z at *
      generalize xorB (l.take k) y = L at *
      have HLN := Lib.hid hlen
      clear hlen hcell hz
      go_wp2_with (at_builtin; refine wpList_append_ow U rfl _ _ rfl w.heap.size _ _ rfl (ho.kp ((Kp.refl _).alloc _)) _ [z] rfl (Ow.lit _ 5 0 1 _ _ (Nat.zero_le _) rfl (by decide) rfl).rd ?c1 ?c2 ?_; rotate_right; intro v' w2 ho2 hg _)
      case c1 => rw [HLN.out]; simp; omega
      case c2 => simp; omega
      go_roundw
      case rel => exact ⟨k + 1, by omega, by go_num, by rw [HXk.out]; exact ho2, Kp.grown (hkp.alloc _) hg ho.own_ge⟩
      case measure => simp [intOf]; omega
    · obtain rfl : k = l.length := by omega
      rw [List.take_length] at ho
      go_wp2_with fail
      go_ret
      exact ⟨⟨_, rfl, ho⟩, hkp⟩
set_option maxHeartbeats 1000000 in
theorem refMac_sum (vk v : Value) (k b : List UInt8) (w : World) (hk : Rd w vk k) (h : Rd w v b) (hkl : k.length ≤ 2000) (hl : b.length ≤ 1900) :
    Calls Tryz.prog 73 #[vk, v] w fun e w' => (∃ v', e = .returned v' ∧ Ow 5 w' w.heap.size v' (macB k b)) ∧ Kp w w' := by
  have U := u8
  obtain ⟨av, cv, rfl, pv, qv⟩ := h.shape
  have HM : Hid (macB k b = digest (xorB (keyB k) 92 ++ digest (xorB (keyB k) 54 ++ b))) := rfl
  have HK := Lib.hid (keyB_length k)
  have HX := Lib.hid (fun y : UInt8 => xorB_length (keyB k) y)
  obtain ⟨K, hK⟩ : ∃ K, keyB k = K := ⟨_, rfl⟩
  have MK := Lib.hid (refKey_mac vk k w hk hkl)
  rw [hK] at HK HM HX MK
  have HD := Lib.hid digest_length
  clear hK
  go_enter Tryz.func73, Tryz.ntmps73
  go_wp2_with fail
  refine MK.out.mono ?_
  rintro e w1 ⟨⟨v1, rfl, o1⟩, k1⟩
  go_wp2_with fail
  refine (with_any _ K 54 _ o1.rd (by rw [HK.out]; omega)).mono ?_
  rintro e w2 ⟨⟨v2, rfl, o2⟩, k2⟩
  go_wp2_with (at_builtin; refine wpList_append_ow U rfl _ _ rfl w1.heap.size _ _ rfl o2 _ b rfl ((h.kp k1).kp k2) ?c1 k2.size ?_; rotate_right; intro v3 w3 o3 g3 _; have k3 : Kp w1 w3 := Kp.grown k2 g3 o2.own_ge; clear g3)
  case c1 => rw [HX.out, HK.out]; omega
  refine (refSum_own _ _ _ o3.rd (by rw [List.length_append, HX.out, HK.out]; omega)).mono ?_
  rintro e w4 ⟨⟨v4, rfl, o4⟩, k4⟩
  go_wp2_with fail
  refine (with_any _ K 92 _ (o1.rd.kp (k3.trans k4)) (by rw [HK.out]; omega)).mono ?_
  rintro e w5 ⟨⟨v5, rfl, o5⟩, k5⟩
  go_wp2_with (at_builtin; refine wpList_append_ow U rfl _ _ rfl w4.heap.size _ _ rfl o5 _ (digest (xorB K 54 ++ b)) rfl (o4.rd.kp k5) ?c2 k5.size ?_; rotate_right; intro v6 w6 o6 g6 _; have k6 : Kp w4 w6 := Kp.grown k5 g6 o5.own_ge; clear g6)
  case c2 => rw [HX.out, HK.out, HD.out]; omega
  refine (refSum_own _ _ _ o6.rd (by rw [List.length_append, HX.out, HK.out, HD.out]; omega)).mono ?_
  rintro e w7 ⟨⟨v7, rfl, o7⟩, k7⟩
  go_wp2_with fail
  go_ret
  exact ⟨⟨_, rfl, by rw [HM.out]; exact o7.mono (((k1.trans k3).trans k4).trans k6).size⟩, (((k1.trans k3).trans k4).trans k6).trans k7⟩
end Go.Proofs.YtigpgcjbpoaclaaGreatDoor

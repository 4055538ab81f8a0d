import Derived.Test.YtigpgcjbpoaclaaDoorC6
import Derived.Test.YtigpgcjbpoaclaaDoorC17
import Derived.Test.YtigpgcjbpoaclaaDoorC19
import Derived.Test.YtigpgcjbpoaclaaDoorC20
set_option linter.unusedVariables false
set_option linter.unusedSimpArgs false
namespace Go.Proofs.YtigpgcjbpoaclaaDoor
open Go.RowKit
theorem flat_succ (ls : List (List UInt8)) (k : Nat) (h : k < ls.length) : (ls.take (k + 1)).flatten = (ls.take k).flatten ++ ls.getD k [] := by
  rw [List.take_succ_eq_append_getElem h, List.flatten_append, List.getD_eq_getElem?_getD, List.getElem?_eq_getElem h]
  simp
theorem flat_le (ls : List (List UInt8)) (k : Nat) : (ls.take k).flatten.length ≤ ls.flatten.length := by
  have e : ls.flatten = (ls.take k).flatten ++ (ls.drop k).flatten := by rw [← List.flatten_append, List.take_append_drop]
  rw [e, List.length_append]
  omega
set_option maxHeartbeats 2000000 in
theorem concat_rows (v : Value) (ls : List (List UInt8)) (w : World) (h : RL w v ls) (hp : 0 < ls.flatten.length) (hb : ls.flatten.length ≤ 1000000) (hn : ls.length ≤ 1000000) :
    Calls Tryd.prog 77 #[v] w fun e w' => (∃ v, e = .returned v ∧ Ow 5 w' w.heap.size v ls.flatten) ∧ Kp w w' := by
  have U := u8
  obtain ⟨a, c, rfl, h1, h2⟩ := h.shape
  unfold maxLen at h2
  have HG := Lib.hid (grow_any ls.flatten.length w hp hb)
  have HF := Lib.hid (flat_succ ls)
  have HL := Lib.hid (flat_le ls)
  have hall : (ls.take ls.length).flatten = ls.flatten := by rw [List.take_length]
  have HA := Lib.hid hall
  clear hall
  go_enter Tryd.func77, Tryd.ntmps77
  go_wp2_with fail
  go_loopw [3, 11] (fun s i wr => (∃ k : Nat, k ≤ ls.length ∧ i = .int .i64 k ∧ s = .int .i64 ((ls.take k).flatten.length : Int)) ∧ wr = w) (fun _ i _ => ls.length - (intOf i).toNat)
  case atStart => exact ⟨⟨0, by omega, rfl, rfl⟩, rfl⟩
  case round =>
    obtain ⟨⟨k, hk, rfl, rfl⟩, rfl⟩ := hrel
    rename World => w
    by_cases hlt : k < ls.length
    · obtain ⟨b, off, rfl, _, hcell⟩ := h.at k hlt
      obtain ⟨u, hcu, hru⟩ := hcell k hlt
      obtain ⟨au, cu, rfl, p1, p2⟩ := hru.shape
      have hs := congrArg List.length (HF.out k hlt)
      rw [List.length_append] at hs
      have hle := HL.out (k + 1)
      obtain ⟨N, hN⟩ : ∃ N, (ls.take k).flatten.length = N := ⟨_, rfl⟩
      obtain ⟨M, hM⟩ : ∃ M, (ls.getD k []).length = M := ⟨_, rfl⟩
      obtain ⟨T, hT⟩ : ∃ T, (ls.take (k + 1)).flatten.length = T := ⟨_, rfl⟩
      rw [hN, hM, hT] at hs
      rw [hT] at hle
      rw [hM] at hcu p1
      rw [hN]
      have b1 : (N : Int) + (M : Int) ≤ 1000000 := by omega
      have HT := Lib.hid (show (T : Int) = (N : Int) + (M : Int) by omega)
      have HT2 := Lib.hid hT
      unfold maxLen at p2
      clear hcell hru hs hN hM hT HG
      go_wp2_with fail
      go_roundw
      case rel => exact ⟨⟨k + 1, by omega, by go_num, by rw [HT2.out, HT.out]⟩, trivial⟩
      case measure => simp [intOf]; omega
    · obtain rfl : k = ls.length := by omega
      rw [HA.out]
      obtain ⟨F, hF⟩ : ∃ F, ls.flatten.length = F := ⟨_, rfl⟩
      rw [hF] at HG hp hb
      rw [hF]
      have HFL := Lib.hid hF
      clear hF
      go_wp2_with fail
      refine HG.out.mono ?_
      rintro e w1 ⟨⟨v, rfl, ho⟩, hk1⟩
      go_wp2_with fail
      go_loopw [6, 27] (fun u i wq => (∃ k : Nat, k ≤ ls.length ∧ i = .int .i64 k ∧ Ow 5 wq w.heap.size u (ls.take k).flatten) ∧ Kp w wq) (fun _ i _ => ls.length - (intOf i).toNat)
      case atStart => exact ⟨⟨0, by omega, rfl, ho⟩, hk1⟩
      case round =>
        clear ho hk1
        obtain ⟨⟨k, hk, rfl, ho⟩, hkp⟩ := hrel
        by_cases hlt : k < ls.length
        · obtain ⟨b, off, rfl, _, hcell⟩ := h.at k hlt
          obtain ⟨u, hcu, hru⟩ := hcell k hlt
          have hcu' := hkp.cell hcu
          have hru' := hru.kp hkp
          obtain ⟨au, cu, rfl, p1, p2⟩ := hru.shape
          have hs := congrArg List.length (HF.out k hlt)
          rw [List.length_append] at hs
          have hle := HL.out (k + 1)
          rw [HFL.out] at hle
          have hle2 : (List.take k ls).flatten.length + (ls.getD k []).length ≤ 1000000 := by omega
          have hsz := hkp.size
          have HFK := Lib.hid (HF.out k hlt)
          obtain ⟨X, hX⟩ : ∃ X, ls.getD k [] = X := ⟨_, rfl⟩
          obtain ⟨Y, hY⟩ : ∃ Y, (ls.take k).flatten = Y := ⟨_, rfl⟩
          rw [hX] at hcu' hru' p1 hle2 HFK
          rw [hY] at ho hle2 HFK
          unfold maxLen at p2
          clear hcell hru hs hcu hle HG hX hY
          go_wp2_with (at_builtin; refine wpList_append_ow U rfl _ _ rfl w.heap.size _ _ rfl ho _ X rfl hru' ?c1 hsz ?_; rotate_right; intro v' w2 ho2 hg2 _)
          case c1 => omega
          go_roundw
          case rel => exact ⟨⟨k + 1, by omega, by go_num, by rw [HFK.out]; exact ho2⟩, Kp.grown hkp hg2 ho.own_ge⟩
          case measure => simp [intOf]; omega
        · obtain rfl : k = ls.length := by omega
          rw [HA.out] at ho
          go_wp2_with fail
          go_ret
          exact ⟨⟨_, rfl, ho⟩, hkp⟩
theorem Tryd.info22 : (Tryd.prog.info? 22).map (fun i => (i.zero, i.size, i.bytes)) = some (some (.slice none 0 0), 1, 24) := by kernel_rfl
theorem s1rows : S1 Tryd.prog 112 22 := S1.mk' Tryd.underlying112 Tryd.info22 (by decide) rfl
set_option maxHeartbeats 1000000 in
theorem mac_behind (vb v : Value) (lb : List UInt8) (ls : List (List UInt8)) (w : World) (hb : Rd w vb lb) (h : RL w v ls) (hp : 0 < lb.length) (hl : lb.length + ls.flatten.length ≤ 2000) (hn : ls.length < 1000000) :
    Calls Tryd.prog 95 #[vb, v] w fun e w' => (∃ a c, e = .returned (.slice a 32 c) ∧ Ow 5 w' w.heap.size (.slice a 32 c) (digest (lb ++ ls.flatten))) ∧ Kp w w' := by
  have S := s1rows
  obtain ⟨us, hv, hul, hr⟩ := h
  have h1 : ∀ z ∈ us, z.oneCell' = true := fun z hz => by
    obtain ⟨i, hi, rfl⟩ := List.getElem_of_mem hz
    have := hr i (by omega)
    rw [List.getD_eq_getElem?_getD, List.getElem?_eq_getElem hi] at this
    exact this.one
  have HU := Lib.hid (And.intro hul h1)
  have hlen : us.length < 1000000 := by omega
  have HR := Lib.hid hr
  clear hul h1 hr
  obtain ⟨ab, cb, rfl, pb, qb⟩ := hb.shape
  obtain ⟨av, cv, rfl, pv, qv⟩ := hv.shape
  unfold maxLen at qb qv
  have HO := Lib.hid (own_lit1 w 22 (.slice ab lb.length cb))
  go_enter Tryd.func95, Tryd.ntmps95
  go_wp2_with (at_builtin; refine wpList_append_vals S rfl _ _ rfl w.heap.size _ [.slice ab lb.length cb] rfl HO.out _ us rfl (hv.kp ((Kp.refl _).alloc _)) HU.out.2 (by simp; omega) (by simp) ?_; intro v2 w2 ho2 hg2; have k2 : Kp w w2 := Kp.grown ((Kp.refl _).alloc _) hg2 (by intro k e; cases e; exact Nat.le_refl _))
  have hRL : RL w2 v2 (lb :: ls) := RL.cons ho2 (hb.kp k2) HU.out.1 (fun i hi => (HR.out i hi).kp k2)
  refine (concat_rows v2 (lb :: ls) w2 hRL (by rw [List.flatten_cons, List.length_append]; omega) (by rw [List.flatten_cons, List.length_append]; omega) (by simp; omega)).mono ?_
  rintro e w3 ⟨⟨v3, rfl, o3⟩, k3⟩
  go_wp2_with fail
  refine (sum_32o v3 (lb :: ls).flatten _ o3.rd (by rw [List.flatten_cons, List.length_append]; omega)).mono ?_
  rintro e w4 ⟨⟨a4, c4, rfl, r4⟩, k4⟩
  go_wp2_with fail
  go_ret
  exact ⟨⟨_, _, rfl, by simpa using r4.mono (k2.trans k3).size⟩, (k2.trans k3).trans k4⟩
set_option maxHeartbeats 1000000 in
theorem mac_tag (vk v : Value) (k : List UInt8) (ls : List (List UInt8)) (w : World) (hk : Rd w vk k) (h : RL w v ls) (hkl : k.length ≤ 2000) (hl : ls.flatten.length ≤ 1900) (hn : ls.length < 1000000) :
    Calls Tryd.prog 88 #[vk, v] w fun e w' => (∃ a c, e = .returned (.slice a 32 c) ∧ Ow 5 w' w.heap.size (.slice a 32 c) (macB k ls.flatten)) ∧ Kp w w' := by
  have S := s1rows
  have HK := Lib.hid (keyB_length k)
  have HM : Hid (macB k ls.flatten = digest (xorB (keyB k) 92 ++ digest (xorB (keyB k) 54 ++ ls.flatten))) := rfl
  have HX := Lib.hid (fun y : UInt8 => xorB_length (keyB k) y)
  obtain ⟨K, hK⟩ : ∃ K, keyB k = K := ⟨_, rfl⟩
  rw [hK] at HK HM HX
  have HD := Lib.hid digest_length
  have MK := Lib.hid (mac_key vk k w hk hkl)
  rw [hK] at MK
  clear hK
  go_enter Tryd.func88, Tryd.ntmps88
  go_wp2_with fail
  refine MK.out.mono ?_
  rintro e w1 ⟨⟨g1, rfl, b1, _⟩, k1⟩
  have r1 : Rd w1 (.slice (some ⟨g1, 0, none⟩) 64 64) K := b1.rdAll (by rw [HK.out]) (Nat.le_refl _) (by unfold maxLen; omega)
  go_wp2_with fail
  refine (mac_padded _ K 92 _ r1 (by rw [HK.out]; omega)).mono ?_
  rintro e w2 ⟨⟨g2, rfl, b2, _⟩, k2⟩
  have r2 : Rd w2 (.slice (some ⟨g2, 0, none⟩) 64 64) (xorB K 92) := b2.rdAll (by rw [HX.out, HK.out]) (Nat.le_refl _) (by unfold maxLen; omega)
  have hlk : K.length = 64 := HK.out
  rw [hlk]
  clear hlk
  go_wp2_with fail
  refine (mac_padded _ K 54 _ (r1.kp k2) (by rw [HK.out]; omega)).mono ?_
  rintro e w3 ⟨⟨g3, rfl, b3, _⟩, k3⟩
  have r3 : Rd w3 (.slice (some ⟨g3, 0, none⟩) 64 64) (xorB K 54) := b3.rdAll (by rw [HX.out, HK.out]) (Nat.le_refl _) (by unfold maxLen; omega)
  have hlk : K.length = 64 := HK.out
  rw [hlk]
  clear hlk
  go_wp2_with fail
  refine (mac_behind _ _ (xorB K 54) ls _ r3 (((h.kp k1).kp k2).kp k3) (by rw [HX.out, HK.out]; omega) (by rw [HX.out, HK.out]; omega) hn).mono ?_
  rintro e w4 ⟨⟨a4, c4, rfl, r4⟩, k4⟩
  have hRL : ∀ W, Kp w4 W → W.ownsRow w4.heap.size 22 1 (.slice (some ⟨w4.heap.size, 0, none⟩) 1 1) [Value.slice a4 32 c4].length [Value.slice a4 32 c4] → RL W (.slice (some ⟨w4.heap.size, 0, none⟩) 1 1) [digest (xorB K 54 ++ ls.flatten)] := fun W hW ho =>
    RL.cons (us := []) (ls := []) ho (r4.rd.kp hW) rfl (fun i hi => by simp at hi)
  go_wp2_with fail
  refine (mac_behind _ _ (xorB K 92) [digest (xorB K 54 ++ ls.flatten)] _ (((r2.kp k3).kp k4).kp ((Kp.refl _).alloc _)) (hRL _ ((Kp.refl _).alloc _) (own_lit1 _ _ _)) (by rw [HX.out, HK.out]; omega) (by rw [HX.out, HK.out]; simp [HD.out]) (by simp)).mono ?_
  rintro e w5 ⟨⟨a5, c5, rfl, r5⟩, k5⟩
  go_wp2_with fail
  go_ret
  exact ⟨⟨_, _, rfl, by rw [HM.out]; simpa using r5.mono ((((k1.trans k2).trans k3).trans k4).alloc _).size⟩, (((k1.trans k2).trans k3).trans k4).trans (((Kp.refl _).alloc _).trans k5)⟩
theorem mac_all (vk v : Value) (k : List UInt8) (ls : List (List UInt8)) (w : World) (hk : Rd w vk k) (h : RL w v ls) (hkl : k.length ≤ 2000) (hl : ls.flatten.length ≤ 1900) (hn : ls.length < 1000000) :
    Calls Tryd.prog 85 #[vk, v] w fun e w' => (∃ a c, e = .returned (.slice a 32 c) ∧ Ow 5 w' w.heap.size (.slice a 32 c) (macB k ls.flatten)) ∧ Kp w w' := by
  go_enter Tryd.func85, Tryd.ntmps85
  go_wp2_with fail
  refine (mac_tag _ _ k ls _ hk h hkl hl hn).mono ?_
  rintro e w5 ⟨⟨a5, c5, rfl, r5⟩, k5⟩
  go_wp2_with fail
  go_ret
  exact ⟨⟨_, _, rfl, r5⟩, k5⟩
end Go.Proofs.YtigpgcjbpoaclaaDoor

/- TreeWide (written by gen/tree5.py). -/
import Derived.Test.YtnpobcggadojkaaDoorLawTreeA
set_option linter.unusedVariables false
set_option linter.unusedSimpArgs false
namespace Go.Proofs.YtnpobcggadojkaaDoor
open Go.RowKit

/-- The last used leaf, taken out of a tree that has another one. -/
theorem RightK.wideRem {x : List Nod} {K : Nat} (h : RightK x K) (lx : List Nat) (m : Nat) (hu : usedL x = lx ++ [m]) (ho : ∃ k, k ≠ m ∧ (ats x (2 * k)).kind = 1) :
    remE x (m : Int) = 0 ∧ usedL (remV x (m : Int)) = lx ∧ ∃ K' ll m', lx = ll ++ [m'] ∧ RightK (remV x (m : Int)) K' ∧ m' < 2 ^ K' ∧ (K' = 0 ∨ 2 ^ (K' - 1) ≤ m') := by
  have hm : (ats x (2 * m)).kind = 1 := (used_mem x m).1 (by rw [hu]; simp)
  have hth := (h.there_iff m).2 hm
  have hne : ¬ emptyP (goneT x m) 0 := by
    rw [h.gone_left hm]
    obtain ⟨k, h1, h2⟩ := ho
    exact fun hno => hno k h1 h2
  have he : remE x (m : Int) = 0 := by unfold remE; rw [if_pos hth, Int.toNat_natCast, if_neg hne]
  have hl := used_less lx m hu (fun k => by
    rw [h.rem_leaf he]
    by_cases e : k = m
    · rw [if_pos e, if_pos (by omega)]
    · rw [if_neg e, if_neg (by omega)])
  obtain ⟨j, hj, hjK, _, _⟩ := h.thereN hth
  have hjm : j = m := by omega
  subst hjm
  obtain ⟨K', _, hr, _, _, hk⟩ := h.rem hjK hne
  have hv : remV x (j : Int) = shrinkT 11 (goneT x j) := by rw [(rem_yes he).2.2, Int.toNat_natCast]
  rw [← hv] at hr hk
  obtain ⟨ll, m', hlm⟩ := hr.used_ne
  obtain ⟨g1, g2, _⟩ := used_last ll m' hlm
  refine ⟨he, hl, K', ll, m', hl.symm.trans hlm, hr, ?_, ?_⟩
  · have := RightK.lt_of (t := remV x (j : Int)) (x := 2 * m') (by rw [g1]; decide)
    have := hr.len2
    omega
  · rcases hk with hk | ⟨k, a1, a2, a3⟩
    · exact .inl hk
    · refine .inr ?_
      have : ¬ m' < k := fun h => g2 k h a3
      omega
theorem RightK.add_two {t : List Nod} {K : Nat} (h : RightK t K) {name : Int} {pub : List UInt8} (e : addE t name pub = 0) (m : Nat) (hm : (ats (addV t name pub) (2 * m)).kind = 1) : ∃ k, k ≠ m ∧ (ats (addV t name pub) (2 * k)).kind = 1 := by
  have hA := h.add_leaf e
  by_cases hg : m = gapN t
  · obtain ⟨x, hx, hx1⟩ := h.used
    have hev := ok_even (h.okA x) hx1
    have hne : x / 2 ≠ gapN t := fun e2 => by
      have e3 : x = 2 * gapN t := by omega
      rw [e3, h.gap0] at hx1
      cases hx1
    exact ⟨x / 2, by omega, by rw [hA, if_neg hne, show 2 * (x / 2) = x by omega]; exact hx1⟩
  · exact ⟨gapN t, fun h => hg h.symm, by rw [hA, if_pos rfl]; rfl⟩
theorem RightK.add_len {t : List Nod} {K : Nat} (h : RightK t K) {name : Int} {pub : List UInt8} (e : addE t name pub = 0) : (gapN t = lvs t → (addV t name pub).length = 2 * t.length + 1) ∧ (gapN t ≠ lvs t → (addV t name pub).length = t.length) := by
  rw [(add_yes e).2.2.2.1]
  have h1 := h.addLen name pub
  have h2 := h.len
  have h3 := p2_succ (K + 1)
  have h4 := p2_pos (K + 1)
  unfold wK at h1
  constructor
  · intro hg
    rw [if_pos hg] at h1
    omega
  · intro hg
    rw [if_neg hg] at h1
    omega

set_option maxRecDepth 100000 in
set_option maxHeartbeats 3000000 in
theorem treeWide_walk (vt : Value) (t : List Nod) (name : Int) (w : World) (ht : NL w vt t) (hname : -9223372036854775808 ≤ name ∧ name ≤ 9223372036854775807) (hTAB : Tab w) :
    Calls Tryd.prog 5 #[vt, .int .i64 name] w (Yes w) := by
  have HTAB := Lib.hid hTAB
  clear hTAB
  have HMAY := Lib.hid (fun W (hW : Kp w W) => may9_any vt t W (ht.kp hW))
  have HH := Lib.hid (fun W => half9_any 1 W)
  have HA1 := Lib.hid (fun W (hW : Kp w W) v (hv : Rd W v (halfB 1)) K (hr : RightK t K) => treeAdd_any vt v t K name (halfB 1) W (ht.kp hW) hv hr hname (HTAB.out.kp hW))
  have HUS := Lib.hid (fun W u s (hu : NL W u s) (hl : s.length ≤ 100000) => refUsed_any u s W hu hl)
  have HLV := Lib.hid (fun W u s (hu : NL W u s) (hl : s.length ≤ 100000) => refLvs_any u s W hu hl)
  have HRM := Lib.hid (fun W u s K i (hu : NL W u s) (hr : RightK s K) (hi : -9223372036854775808 ≤ i ∧ i ≤ 9223372036854775807) (hTW : Tab W) => treeRemove_any u s K i W hu hr hi hTW)
  have HT0 := Lib.hid ht
  obtain ⟨aa, ca, rfl, _, _⟩ := ht.shape
  clear ht hname
  go_enter Tryd.func5, Tryd.ntmps5
  go_wp2_with fail
  refine (shownTree_any _ (HTAB.out.kp (by first | exact Kp.refl _ | exact (Kp.refl _).alloc _))).mono ?_
  rintro _ w0 ⟨rfl, k0⟩
  have KK : Hid (Kp w w0) := k0
  clear k0
  go_wp2_with fail
  refine (HMAY.out _ KK.out).mono ?_
  rintro _ w1 ⟨⟨bM, rfl, hM⟩, k1⟩
  have KK := Lib.hid (KK.out.trans k1)
  clear k1
  cases bM
  · clear hM
    go_wp2_with fail
    go_ret
    exact ⟨rfl, KK.out⟩
  · obtain ⟨K, hr⟩ := hM rfl
    clear hM
    have hz := hr.small.1
    have HT1 := Lib.hid (HT0.out)
    go_wp2_with fail
    refine (HUS.out _ _ t (HT0.out.kp KK.out) (by omega)).mono ?_
    rintro _ w2 ⟨⟨ru, rfl, su⟩, k2⟩
    have KK := Lib.hid (KK.out.trans k2)
    have RU := Lib.hid su.ri
    clear k2
    go_wp2_with fail
    refine (HLV.out _ _ t (HT0.out.kp KK.out) (by omega)).mono ?_
    rintro _ _ ⟨rfl, rfl⟩
    go_wp2_with fail
    refine (HH.out _).mono ?_
    rintro _ w3 ⟨⟨r0, rfl, s0⟩, k3⟩
    have RU := Lib.hid (RU.out.kp k3)
    have KK := Lib.hid (KK.out.trans k3)
    have B0 := Lib.hid s0
    clear k3
    go_wp2_with fail
    refine (HA1.out _ KK.out _ B0.out K hr).mono ?_
    rintro _ w4 ⟨⟨r1, rfl, s1⟩, k4⟩
    have RU := Lib.hid (RU.out.kp k4)
    have B0 := Lib.hid (B0.out.kp k4)
    have KK := Lib.hid (KK.out.trans k4)
    have A1 := Lib.hid s1
    clear k4
    by_cases hE : addE t name (halfB 1) = 0
    · obtain ⟨KA, hra⟩ := hr.addR name (halfB 1)
      obtain ⟨lx, m, hux⟩ := hra.used_ne
      have hmk : (ats (addV t name (halfB 1)) (2 * m)).kind = 1 := (used_mem _ m).1 (by rw [hux]; simp)
      obtain ⟨c1, c2, K9, ll, m9, c3, c4, c5, c6⟩ := hra.wideRem lx m hux (hr.add_two hE m hmk)
      obtain ⟨l1, l2⟩ := hr.add_len hE
      have hug := fun k => used_get hr k
      have hai := (add_yes hE).2.2.2.2
      have hgl := gap_le t
      have hzA := hra.small.1
      have hz9 := c4.small.1
      have hlv9 := c4.lv
      have hmb : m < 2048 := by have := RightK.lt_of (t := addV t name (halfB 1)) (x := 2 * m) (by rw [hmk]; decide); omega
      have HRM2 := Lib.hid (fun W u (hu : NL W u (addV t name (halfB 1))) (hTW : Tab W) => HRM.out W u _ KA (m : Int) hu hra (by omega) hTW)
      rw [c1] at HRM2
      rw [hE, hai]
      have HUX : Hid (((usedL (addV t name (halfB 1))).map fun (n : Nat) => (n : Int)) = (lx.map fun (n : Nat) => (n : Int)) ++ [(m : Int)]) := by unfold Hid; rw [hux, List.map_append]; rfl
      have HUY : Hid (((usedL (remV (addV t name (halfB 1)) (m : Int))).map fun (n : Nat) => (n : Int)) = (ll.map fun (n : Nat) => (n : Int)) ++ [(m9 : Int)]) := by unfold Hid; rw [c2, c3, List.map_append]; rfl
      have HLL : Hid (lx.length = ll.length + 1) := by unfold Hid; rw [c3, List.length_append]; rfl
      have HLB : Hid (lx.length ≤ 2048) := by
        have h1 : (usedL (addV t name (halfB 1))).length ≤ lvs (addV t name (halfB 1)) := by
          unfold usedL
          exact Nat.le_trans (List.length_filter_le _ _) (by rw [List.length_range]; exact Nat.le_refl _)
        rw [hux, List.length_append] at h1
        unfold lvs at h1
        unfold Hid
        simp at h1
        omega
      have hux2 : (usedL t).length ≤ lvs t := by
        unfold usedL
        exact Nat.le_trans (List.length_filter_le _ _) (by rw [List.length_range]; exact Nat.le_refl _)
      have HUG : Hid (∀ k, k < gapN t → ((usedL t).map fun (n : Nat) => (n : Int)).getD k 0 = (k : Int)) := fun k hk => by
        have := (hug k).1 hk
        rw [List.getD_eq_getElem?_getD, List.getElem?_map, this]
        rfl
      have HUG2 : Hid (gapN t < (usedL t).length → ((usedL t).map fun (n : Nat) => (n : Int)).getD (gapN t) 0 ≠ ((gapN t : Nat) : Int)) := fun hk he => by
        have h2 := (hug 0).2.1
        rw [List.getD_eq_getElem?_getD, List.getElem?_map, List.getElem?_eq_getElem hk] at he
        refine h2 ?_
        rw [List.getElem?_eq_getElem hk]
        have he2 : (((usedL t)[gapN t] : Nat) : Int) = ((gapN t : Nat) : Int) := he
        congr 1
        omega
      have hug3 := (hug 0).2.2
      have HUL : Hid (((usedL t).map fun (n : Nat) => (n : Int)).length = (usedL t).length) := List.length_map ..
      have hlt2 : lvs t ≤ 1024 := by have := hr.lv; have := p2_le hr.le; omega
      have hK9 := c4.le
      have hnl : lvs t ≤ t.length := by unfold lvs; omega
      have hn0 : 0 < t.length := hr.small.2.2
      obtain ⟨ax, cx, ex, _, _⟩ := s1.shape
      subst ex
      obtain ⟨au, cu, eu, pu, _⟩ := su.ri.shape
      subst eu
      rw [HUL.out] at RU pu ⊢
      have hXL : Hid ((addV t name (halfB 1)).length ≤ 100000) := by unfold Hid; omega
      have hYL : Hid ((remV (addV t name (halfB 1)) (m : Int)).length ≤ 100000) := by unfold Hid; omega
      have HLY := Lib.hid hlv9
      clear hug hai hE hra hux hmk c1 c2 c3 c4 hzA hz9 hlv9 su s1 hr HRM HMAY HA1 HH B0
      generalize ((usedL t).map fun (n : Nat) => (n : Int)) = UT at *
      generalize (usedL t).length = UL at *
      generalize remV (addV t name (halfB 1)) (m : Int) = YV at *
      generalize addV t name (halfB 1) = XV at *
      obtain ⟨XL, hxl⟩ : ∃ XL, XV.length = XL := ⟨_, rfl⟩
      obtain ⟨N, hN⟩ : ∃ N, t.length = N := ⟨_, rfl⟩
      rw [hxl] at l1 l2 hXL A1 ⊢
      rw [hN] at l1 l2 hnl hn0 hz ⊢
      obtain ⟨G, hG⟩ : ∃ G, gapN t = G := ⟨_, rfl⟩
      rw [hG] at l1 l2 HUG HUG2 hug3 hgl ⊢
      generalize lvs t = LT at *
      have hxlh := Lib.hid hxl
      clear hxl hN hG HT0 HT1
      go_wp2_with fail
      go_loop [11] (fun v => ∃ k : Nat, k ≤ G ∧ v = .int .i64 (k : Int)) (fun v => G - (intOf v).toNat)
      case atStart => exact ⟨0, Nat.zero_le _, rfl⟩
      case round =>
        obtain ⟨k, hk, rfl⟩ := hrel
        by_cases hlt : k < G
        · obtain ⟨g5, o5, e5, _, hc5⟩ := RU.out.at k (by omega)
          subst e5
          have d5 := hc5 k (by omega)
          rw [HUG.out k hlt] at d5
          have q0 : (k : Int) < (UL : Int) := by omega
          have q9 : ((k : Int) == (k : Int)) = true := beq_self_eq_true _
          have q8 : IntKind.i64.wrap ((k : Int) + 1) = (k : Int) + 1 := IntWalk.i64_in _ (by omega)
          clear HUG HUG2 hc5 l1 l2 HUX HUY HLL HUS HLV HRM2
          go_wp2_with fail
          go_round
          case rel => exact ⟨k + 1, by omega, by go_num⟩
          case measure => simp [intOf]; omega
        · have hkG : k = G := by omega
          subst hkG
          by_cases hgu : k < UL
          · obtain ⟨g5, o5, e5, _, hc5⟩ := RU.out.at k hgu
            subst e5
            have d5 := hc5 k hgu
            have hne := HUG2.out hgu
            have q0 : (k : Int) < (UL : Int) := by omega
            generalize UT.getD k 0 = U9 at *
            have hneb : (U9 == (k : Int)) = false := beq_eq_false_iff_ne.2 hne
            have hgL : k ≠ LT := by omega
            clear hc5
            have lx1 := l2 hgL
            subst lx1
            have q1b : ((XL : Int) == (XL : Int)) = true := beq_self_eq_true _
            have q2b : (((k : Nat) : Int) == ((LT : Nat) : Int)) = false := beq_eq_false_iff_ne.2 (by omega)
            have qgg : (((k : Nat) : Int) == ((k : Nat) : Int)) = true := beq_self_eq_true _
            clear l1 l2 hgL HUG HUG2 hug3 hgl
            go_wp2_with fail
            refine (HUS.out _ _ XV A1.out (by have := hxlh.out; have := hXL.out; omega)).mono ?_
            rintro _ w5 ⟨⟨rx, rfl, sx⟩, k5⟩
            have RU := Lib.hid (RU.out.kp k5)
            have A1 := Lib.hid (A1.out.kp k5)
            have KK := Lib.hid (KK.out.trans k5)
            clear k5
            have rx9 := sx.ri
            rw [HUX.out] at rx9
            obtain ⟨ax6, cx6, ex6, px6, _⟩ := rx9.shape
            subst ex6
            have hl6 : ((lx.map fun (n : Nat) => (n : Int)) ++ [(m : Int)]).length = lx.length + 1 := by rw [List.length_append, List.length_map]; rfl
            rw [hl6] at rx9 px6 ⊢
            obtain ⟨g6, o6, e6, _, hc6⟩ := rx9.at lx.length (by omega)
            subst e6
            have d6 := hc6 lx.length (by omega)
            have hg6 : ((lx.map fun (n : Nat) => (n : Int)) ++ [(m : Int)]).getD lx.length 0 = (m : Int) := by rw [List.getD_eq_getElem?_getD, List.getElem?_append_right (by rw [List.length_map]; exact Nat.le_refl _), List.length_map, Nat.sub_self]; rfl
            rw [hg6] at d6
            have hb6 := HLB.out
            have HLL6 : Hid (lx.length = ll.length + 1) := HLL.out
            obtain ⟨X6, hX6⟩ : ∃ X6, lx.length = X6 := ⟨_, rfl⟩
            rw [hX6] at d6 px6 HLL6 hb6 ⊢
            have ww6 : IntKind.i64.wrap (((X6 + 1 : Nat) : Int) - 1) = (X6 : Int) := by rw [IntWalk.i64_in _ (by omega)]; omega
            have ww6b : (X6 : Int) < ((X6 + 1 : Nat) : Int) := by omega
            clear sx rx9 hc6 hg6 hl6 hX6
            go_wp2_with fail
            refine (HRM2.out _ _ A1.out (HTAB.out.kp (by first | exact KK.out | exact KL.out | exact KR.out | exact K9.out | exact K1.out | exact K2.out | exact K3.out | exact K4.out | exact K5.out | exact K6.out | exact K7.out | exact K8.out | exact K9.out | exact K10.out | exact K11.out | exact K12.out | exact K13.out | exact K14.out | exact K15.out | exact K16.out | exact K17.out | exact K18.out | exact K19.out | exact K20.out | exact K21.out | exact K22.out | exact K23.out | exact K24.out | exact HO.out.2 | exact S2.out.2 | exact HT3.out.2 | exact KK.out.trans KR.out | exact KK.out.trans KL.out))).mono ?_
            rintro _ w6 ⟨⟨ry, rfl, sy⟩, k6⟩
            have RU := Lib.hid (RU.out.kp k6)
            have A1 := Lib.hid (A1.out.kp k6)
            have KK := Lib.hid (KK.out.trans k6)
            have AY := Lib.hid sy
            clear k6
            clear HRM2 d6
            go_wp2_with fail
            refine (HUS.out _ _ YV AY.out hYL.out).mono ?_
            rintro _ w7 ⟨⟨rz, rfl, sz⟩, k7⟩
            have RU := Lib.hid (RU.out.kp k7)
            have A1 := Lib.hid (A1.out.kp k7)
            have AY := Lib.hid (AY.out.kp k7)
            have KK := Lib.hid (KK.out.trans k7)
            clear k7
            have rz9 := sz.ri
            rw [HUY.out] at rz9
            obtain ⟨az6, cz6, ez6, pz6, _⟩ := rz9.shape
            subst ez6
            have hl7 : ((ll.map fun (n : Nat) => (n : Int)) ++ [(m9 : Int)]).length = ll.length + 1 := by rw [List.length_append, List.length_map]; rfl
            rw [hl7] at rz9 pz6 ⊢
            obtain ⟨g7, o7, e7, _, hc7⟩ := rz9.at ll.length (by omega)
            subst e7
            have d7 := hc7 ll.length (by omega)
            have hg7 : ((ll.map fun (n : Nat) => (n : Int)) ++ [(m9 : Int)]).getD ll.length 0 = (m9 : Int) := by rw [List.getD_eq_getElem?_getD, List.getElem?_append_right (by rw [List.length_map]; exact Nat.le_refl _), List.length_map, Nat.sub_self]; rfl
            rw [hg7] at d7
            obtain ⟨X7, hX7⟩ : ∃ X7, ll.length = X7 := ⟨_, rfl⟩
            rw [hX7] at d7 pz6 HLL6 ⊢
            have hb7 : X7 ≤ 2048 := by have := HLL6.out; omega
            have ww7 : IntKind.i64.wrap (((X7 + 1 : Nat) : Int) - 1) = (X7 : Int) := by rw [IntWalk.i64_in _ (by omega)]; omega
            have ww7b : (X7 : Int) < ((X7 + 1 : Nat) : Int) := by omega
            have ww8 : ((X7 : Int) + 1 == (X6 : Int)) = true := by rw [show (X6 : Int) = (X7 : Int) + 1 by have := HLL6.out; omega]; exact beq_self_eq_true _
            clear sz rz9 hc7 hg7 hl7 hX7 HUX HUY HLL HUS
            have KQ := Lib.hid KK.out
            have D7 := Lib.hid d7
            have HLZ := Lib.hid (HLV.out _ _ YV AY.out hYL.out)
            rw [HLY.out] at HLZ
            clear HLV d7 sy AY A1 RU
            go_wp2_with fail
            go_loop [16] (fun v => ∃ c : Nat, c ≤ K9 ∧ v = .int .i64 ((2 ^ c : Nat) : Int)) (fun v => 2048 - (intOf v).toNat)
            case atStart => exact ⟨0, Nat.zero_le _, rfl⟩
            case round =>
              obtain ⟨c, hc, rfl⟩ := hrel
              have d7 := D7.out
              have hp := p2_succ c
              have hpc := p2_le (show c ≤ 10 by omega)
              have hpc0 := p2_pos c
              by_cases hlt : c < K9
              · have hmm : ((2 ^ c : Nat) : Int) ≤ (m9 : Int) := by
                  rcases c6 with h | h
                  · omega
                  · have : 2 ^ c ≤ 2 ^ (K9 - 1) := Nat.pow_le_pow_right (by omega) (by omega)
                    omega
                have w9 : IntKind.i64.wrap (2 * ((2 ^ c : Nat) : Int)) = ((2 ^ (c + 1) : Nat) : Int) := by rw [IntWalk.i64_in _ (by omega)]; omega
                have hmz : 2048 - 2 ^ (c + 1) < 2048 - 2 ^ c := by omega
                obtain ⟨P1, hP1⟩ : ∃ P1, 2 ^ (c + 1) = P1 := ⟨_, rfl⟩
                have HP1 := Lib.hid hP1
                rw [hP1] at w9 hmz
                clear hP1 hp hpc hpc0 c6 hc
                have hcK : c + 1 ≤ K9 := by omega
                generalize 2 ^ c = P0 at *
                clear HLZ hlt
                go_wp2_with fail
                go_round
                case rel => exact ⟨c + 1, hcK, by rw [HP1.out]⟩
                case measure => simp [intOf]; omega
              · obtain rfl : c = K9 := by omega
                have hmm : ¬ ((2 ^ c : Nat) : Int) ≤ (m9 : Int) := by omega
                have wpp : (((2 ^ c : Nat) : Int) == ((2 ^ c : Nat) : Int)) = true := beq_self_eq_true _
                generalize ((2 ^ c : Nat) : Int) = P at *
                clear hp hpc hpc0 c6 hlt
                go_wp2_with fail
                refine HLZ.out.mono ?_; rintro _ _ ⟨rfl, rfl⟩
                go_wp2_with fail
                go_ret
                exact ⟨rfl, KQ.out⟩
          · have q0 : decide ((k : Int) < (UL : Int)) = false := decide_eq_false (by omega)
            by_cases hgL : k = LT
            · skip
              have lx1 := l1 hgL
              subst lx1
              have q1 : ¬ 2 * (N : Int) + 1 = (N : Int) := by omega
              have q1b : (2 * (N : Int) + 1 == (N : Int)) = false := beq_eq_false_iff_ne.2 q1
              have q2 : ((k : Nat) : Int) = ((LT : Nat) : Int) := by omega
              have q2b : (((k : Nat) : Int) == ((LT : Nat) : Int)) = true := by rw [q2]; exact beq_self_eq_true _
              have q3 : IntKind.i64.wrap (2 * (N : Int)) = 2 * (N : Int) := IntWalk.i64_in _ (by omega)
              have q4 : IntKind.i64.wrap (2 * (N : Int) + 1) = 2 * (N : Int) + 1 := IntWalk.i64_in _ (by omega)
              have q5 : (2 * (N : Int) + 1 == 2 * (N : Int) + 1) = true := beq_self_eq_true _
              clear q2
              have qgg : (((k : Nat) : Int) == ((k : Nat) : Int)) = true := beq_self_eq_true _
              clear l1 l2 hgL HUG HUG2 hug3 hgl
              go_wp2_with fail
              all_goals
                refine (HUS.out _ _ XV A1.out (by have := hxlh.out; have := hXL.out; omega)).mono ?_
                rintro _ w5 ⟨⟨rx, rfl, sx⟩, k5⟩
                have RU := Lib.hid (RU.out.kp k5)
                have A1 := Lib.hid (A1.out.kp k5)
                have KK := Lib.hid (KK.out.trans k5)
                clear k5
                have rx9 := sx.ri
                rw [HUX.out] at rx9
                obtain ⟨ax6, cx6, ex6, px6, _⟩ := rx9.shape
                subst ex6
                have hl6 : ((lx.map fun (n : Nat) => (n : Int)) ++ [(m : Int)]).length = lx.length + 1 := by rw [List.length_append, List.length_map]; rfl
                rw [hl6] at rx9 px6 ⊢
                obtain ⟨g6, o6, e6, _, hc6⟩ := rx9.at lx.length (by omega)
                subst e6
                have d6 := hc6 lx.length (by omega)
                have hg6 : ((lx.map fun (n : Nat) => (n : Int)) ++ [(m : Int)]).getD lx.length 0 = (m : Int) := by rw [List.getD_eq_getElem?_getD, List.getElem?_append_right (by rw [List.length_map]; exact Nat.le_refl _), List.length_map, Nat.sub_self]; rfl
                rw [hg6] at d6
                have hb6 := HLB.out
                have HLL6 : Hid (lx.length = ll.length + 1) := HLL.out
                obtain ⟨X6, hX6⟩ : ∃ X6, lx.length = X6 := ⟨_, rfl⟩
                rw [hX6] at d6 px6 HLL6 hb6 ⊢
                have ww6 : IntKind.i64.wrap (((X6 + 1 : Nat) : Int) - 1) = (X6 : Int) := by rw [IntWalk.i64_in _ (by omega)]; omega
                have ww6b : (X6 : Int) < ((X6 + 1 : Nat) : Int) := by omega
                clear sx rx9 hc6 hg6 hl6 hX6
                go_wp2_with fail
                refine (HRM2.out _ _ A1.out (HTAB.out.kp (by first | exact KK.out | exact KL.out | exact KR.out | exact K9.out | exact K1.out | exact K2.out | exact K3.out | exact K4.out | exact K5.out | exact K6.out | exact K7.out | exact K8.out | exact K9.out | exact K10.out | exact K11.out | exact K12.out | exact K13.out | exact K14.out | exact K15.out | exact K16.out | exact K17.out | exact K18.out | exact K19.out | exact K20.out | exact K21.out | exact K22.out | exact K23.out | exact K24.out | exact HO.out.2 | exact S2.out.2 | exact HT3.out.2 | exact KK.out.trans KR.out | exact KK.out.trans KL.out))).mono ?_
                rintro _ w6 ⟨⟨ry, rfl, sy⟩, k6⟩
                have RU := Lib.hid (RU.out.kp k6)
                have A1 := Lib.hid (A1.out.kp k6)
                have KK := Lib.hid (KK.out.trans k6)
                have AY := Lib.hid sy
                clear k6
                clear HRM2 d6
                go_wp2_with fail
                refine (HUS.out _ _ YV AY.out hYL.out).mono ?_
                rintro _ w7 ⟨⟨rz, rfl, sz⟩, k7⟩
                have RU := Lib.hid (RU.out.kp k7)
                have A1 := Lib.hid (A1.out.kp k7)
                have AY := Lib.hid (AY.out.kp k7)
                have KK := Lib.hid (KK.out.trans k7)
                clear k7
                have rz9 := sz.ri
                rw [HUY.out] at rz9
                obtain ⟨az6, cz6, ez6, pz6, _⟩ := rz9.shape
                subst ez6
                have hl7 : ((ll.map fun (n : Nat) => (n : Int)) ++ [(m9 : Int)]).length = ll.length + 1 := by rw [List.length_append, List.length_map]; rfl
                rw [hl7] at rz9 pz6 ⊢
                obtain ⟨g7, o7, e7, _, hc7⟩ := rz9.at ll.length (by omega)
                subst e7
                have d7 := hc7 ll.length (by omega)
                have hg7 : ((ll.map fun (n : Nat) => (n : Int)) ++ [(m9 : Int)]).getD ll.length 0 = (m9 : Int) := by rw [List.getD_eq_getElem?_getD, List.getElem?_append_right (by rw [List.length_map]; exact Nat.le_refl _), List.length_map, Nat.sub_self]; rfl
                rw [hg7] at d7
                obtain ⟨X7, hX7⟩ : ∃ X7, ll.length = X7 := ⟨_, rfl⟩
                rw [hX7] at d7 pz6 HLL6 ⊢
                have hb7 : X7 ≤ 2048 := by have := HLL6.out; omega
                have ww7 : IntKind.i64.wrap (((X7 + 1 : Nat) : Int) - 1) = (X7 : Int) := by rw [IntWalk.i64_in _ (by omega)]; omega
                have ww7b : (X7 : Int) < ((X7 + 1 : Nat) : Int) := by omega
                have ww8 : ((X7 : Int) + 1 == (X6 : Int)) = true := by rw [show (X6 : Int) = (X7 : Int) + 1 by have := HLL6.out; omega]; exact beq_self_eq_true _
                clear sz rz9 hc7 hg7 hl7 hX7 HUX HUY HLL HUS
                have KQ := Lib.hid KK.out
                have D7 := Lib.hid d7
                have HLZ := Lib.hid (HLV.out _ _ YV AY.out hYL.out)
                rw [HLY.out] at HLZ
                clear HLV d7 sy AY A1 RU
                go_wp2_with fail
                go_loop [16] (fun v => ∃ c : Nat, c ≤ K9 ∧ v = .int .i64 ((2 ^ c : Nat) : Int)) (fun v => 2048 - (intOf v).toNat)
                case atStart => exact ⟨0, Nat.zero_le _, rfl⟩
                case round =>
                  obtain ⟨c, hc, rfl⟩ := hrel
                  have d7 := D7.out
                  have hp := p2_succ c
                  have hpc := p2_le (show c ≤ 10 by omega)
                  have hpc0 := p2_pos c
                  by_cases hlt : c < K9
                  · have hmm : ((2 ^ c : Nat) : Int) ≤ (m9 : Int) := by
                      rcases c6 with h | h
                      · omega
                      · have : 2 ^ c ≤ 2 ^ (K9 - 1) := Nat.pow_le_pow_right (by omega) (by omega)
                        omega
                    have w9 : IntKind.i64.wrap (2 * ((2 ^ c : Nat) : Int)) = ((2 ^ (c + 1) : Nat) : Int) := by rw [IntWalk.i64_in _ (by omega)]; omega
                    have hmz : 2048 - 2 ^ (c + 1) < 2048 - 2 ^ c := by omega
                    obtain ⟨P1, hP1⟩ : ∃ P1, 2 ^ (c + 1) = P1 := ⟨_, rfl⟩
                    have HP1 := Lib.hid hP1
                    rw [hP1] at w9 hmz
                    clear hP1 hp hpc hpc0 c6 hc
                    have hcK : c + 1 ≤ K9 := by omega
                    generalize 2 ^ c = P0 at *
                    clear HLZ hlt
                    go_wp2_with fail
                    go_round
                    case rel => exact ⟨c + 1, hcK, by rw [HP1.out]⟩
                    case measure => simp [intOf]; omega
                  · obtain rfl : c = K9 := by omega
                    have hmm : ¬ ((2 ^ c : Nat) : Int) ≤ (m9 : Int) := by omega
                    have wpp : (((2 ^ c : Nat) : Int) == ((2 ^ c : Nat) : Int)) = true := beq_self_eq_true _
                    generalize ((2 ^ c : Nat) : Int) = P at *
                    clear hp hpc hpc0 c6 hlt
                    go_wp2_with fail
                    refine HLZ.out.mono ?_; rintro _ _ ⟨rfl, rfl⟩
                    go_wp2_with fail
                    go_ret
                    exact ⟨rfl, KQ.out⟩
            · skip
              have lx1 := l2 hgL
              subst lx1
              have q1b : ((XL : Int) == (XL : Int)) = true := beq_self_eq_true _
              have q2b : (((k : Nat) : Int) == ((LT : Nat) : Int)) = false := beq_eq_false_iff_ne.2 (by omega)
              have qgg : (((k : Nat) : Int) == ((k : Nat) : Int)) = true := beq_self_eq_true _
              clear l1 l2 hgL HUG HUG2 hug3 hgl
              go_wp2_with fail
              all_goals
                refine (HUS.out _ _ XV A1.out (by have := hxlh.out; have := hXL.out; omega)).mono ?_
                rintro _ w5 ⟨⟨rx, rfl, sx⟩, k5⟩
                have RU := Lib.hid (RU.out.kp k5)
                have A1 := Lib.hid (A1.out.kp k5)
                have KK := Lib.hid (KK.out.trans k5)
                clear k5
                have rx9 := sx.ri
                rw [HUX.out] at rx9
                obtain ⟨ax6, cx6, ex6, px6, _⟩ := rx9.shape
                subst ex6
                have hl6 : ((lx.map fun (n : Nat) => (n : Int)) ++ [(m : Int)]).length = lx.length + 1 := by rw [List.length_append, List.length_map]; rfl
                rw [hl6] at rx9 px6 ⊢
                obtain ⟨g6, o6, e6, _, hc6⟩ := rx9.at lx.length (by omega)
                subst e6
                have d6 := hc6 lx.length (by omega)
                have hg6 : ((lx.map fun (n : Nat) => (n : Int)) ++ [(m : Int)]).getD lx.length 0 = (m : Int) := by rw [List.getD_eq_getElem?_getD, List.getElem?_append_right (by rw [List.length_map]; exact Nat.le_refl _), List.length_map, Nat.sub_self]; rfl
                rw [hg6] at d6
                have hb6 := HLB.out
                have HLL6 : Hid (lx.length = ll.length + 1) := HLL.out
                obtain ⟨X6, hX6⟩ : ∃ X6, lx.length = X6 := ⟨_, rfl⟩
                rw [hX6] at d6 px6 HLL6 hb6 ⊢
                have ww6 : IntKind.i64.wrap (((X6 + 1 : Nat) : Int) - 1) = (X6 : Int) := by rw [IntWalk.i64_in _ (by omega)]; omega
                have ww6b : (X6 : Int) < ((X6 + 1 : Nat) : Int) := by omega
                clear sx rx9 hc6 hg6 hl6 hX6
                go_wp2_with fail
                refine (HRM2.out _ _ A1.out (HTAB.out.kp (by first | exact KK.out | exact KL.out | exact KR.out | exact K9.out | exact K1.out | exact K2.out | exact K3.out | exact K4.out | exact K5.out | exact K6.out | exact K7.out | exact K8.out | exact K9.out | exact K10.out | exact K11.out | exact K12.out | exact K13.out | exact K14.out | exact K15.out | exact K16.out | exact K17.out | exact K18.out | exact K19.out | exact K20.out | exact K21.out | exact K22.out | exact K23.out | exact K24.out | exact HO.out.2 | exact S2.out.2 | exact HT3.out.2 | exact KK.out.trans KR.out | exact KK.out.trans KL.out))).mono ?_
                rintro _ w6 ⟨⟨ry, rfl, sy⟩, k6⟩
                have RU := Lib.hid (RU.out.kp k6)
                have A1 := Lib.hid (A1.out.kp k6)
                have KK := Lib.hid (KK.out.trans k6)
                have AY := Lib.hid sy
                clear k6
                clear HRM2 d6
                go_wp2_with fail
                refine (HUS.out _ _ YV AY.out hYL.out).mono ?_
                rintro _ w7 ⟨⟨rz, rfl, sz⟩, k7⟩
                have RU := Lib.hid (RU.out.kp k7)
                have A1 := Lib.hid (A1.out.kp k7)
                have AY := Lib.hid (AY.out.kp k7)
                have KK := Lib.hid (KK.out.trans k7)
                clear k7
                have rz9 := sz.ri
                rw [HUY.out] at rz9
                obtain ⟨az6, cz6, ez6, pz6, _⟩ := rz9.shape
                subst ez6
                have hl7 : ((ll.map fun (n : Nat) => (n : Int)) ++ [(m9 : Int)]).length = ll.length + 1 := by rw [List.length_append, List.length_map]; rfl
                rw [hl7] at rz9 pz6 ⊢
                obtain ⟨g7, o7, e7, _, hc7⟩ := rz9.at ll.length (by omega)
                subst e7
                have d7 := hc7 ll.length (by omega)
                have hg7 : ((ll.map fun (n : Nat) => (n : Int)) ++ [(m9 : Int)]).getD ll.length 0 = (m9 : Int) := by rw [List.getD_eq_getElem?_getD, List.getElem?_append_right (by rw [List.length_map]; exact Nat.le_refl _), List.length_map, Nat.sub_self]; rfl
                rw [hg7] at d7
                obtain ⟨X7, hX7⟩ : ∃ X7, ll.length = X7 := ⟨_, rfl⟩
                rw [hX7] at d7 pz6 HLL6 ⊢
                have hb7 : X7 ≤ 2048 := by have := HLL6.out; omega
                have ww7 : IntKind.i64.wrap (((X7 + 1 : Nat) : Int) - 1) = (X7 : Int) := by rw [IntWalk.i64_in _ (by omega)]; omega
                have ww7b : (X7 : Int) < ((X7 + 1 : Nat) : Int) := by omega
                have ww8 : ((X7 : Int) + 1 == (X6 : Int)) = true := by rw [show (X6 : Int) = (X7 : Int) + 1 by have := HLL6.out; omega]; exact beq_self_eq_true _
                clear sz rz9 hc7 hg7 hl7 hX7 HUX HUY HLL HUS
                have KQ := Lib.hid KK.out
                have D7 := Lib.hid d7
                have HLZ := Lib.hid (HLV.out _ _ YV AY.out hYL.out)
                rw [HLY.out] at HLZ
                clear HLV d7 sy AY A1 RU
                go_wp2_with fail
                go_loop [16] (fun v => ∃ c : Nat, c ≤ K9 ∧ v = .int .i64 ((2 ^ c : Nat) : Int)) (fun v => 2048 - (intOf v).toNat)
                case atStart => exact ⟨0, Nat.zero_le _, rfl⟩
                case round =>
                  obtain ⟨c, hc, rfl⟩ := hrel
                  have d7 := D7.out
                  have hp := p2_succ c
                  have hpc := p2_le (show c ≤ 10 by omega)
                  have hpc0 := p2_pos c
                  by_cases hlt : c < K9
                  · have hmm : ((2 ^ c : Nat) : Int) ≤ (m9 : Int) := by
                      rcases c6 with h | h
                      · omega
                      · have : 2 ^ c ≤ 2 ^ (K9 - 1) := Nat.pow_le_pow_right (by omega) (by omega)
                        omega
                    have w9 : IntKind.i64.wrap (2 * ((2 ^ c : Nat) : Int)) = ((2 ^ (c + 1) : Nat) : Int) := by rw [IntWalk.i64_in _ (by omega)]; omega
                    have hmz : 2048 - 2 ^ (c + 1) < 2048 - 2 ^ c := by omega
                    obtain ⟨P1, hP1⟩ : ∃ P1, 2 ^ (c + 1) = P1 := ⟨_, rfl⟩
                    have HP1 := Lib.hid hP1
                    rw [hP1] at w9 hmz
                    clear hP1 hp hpc hpc0 c6 hc
                    have hcK : c + 1 ≤ K9 := by omega
                    generalize 2 ^ c = P0 at *
                    clear HLZ hlt
                    go_wp2_with fail
                    go_round
                    case rel => exact ⟨c + 1, hcK, by rw [HP1.out]⟩
                    case measure => simp [intOf]; omega
                  · obtain rfl : c = K9 := by omega
                    have hmm : ¬ ((2 ^ c : Nat) : Int) ≤ (m9 : Int) := by omega
                    have wpp : (((2 ^ c : Nat) : Int) == ((2 ^ c : Nat) : Int)) = true := beq_self_eq_true _
                    generalize ((2 ^ c : Nat) : Int) = P at *
                    clear hp hpc hpc0 c6 hlt
                    go_wp2_with fail
                    refine HLZ.out.mono ?_; rintro _ _ ⟨rfl, rfl⟩
                    go_wp2_with fail
                    go_ret
                    exact ⟨rfl, KQ.out⟩
    · have hEb : (addE t name (halfB 1) == 0) = false := beq_eq_false_iff_ne.2 hE
      generalize addE t name (halfB 1) = AE at *
      go_wp2_with fail
      go_ret
      exact ⟨rfl, KK.out⟩

end Go.Proofs.YtnpobcggadojkaaDoor

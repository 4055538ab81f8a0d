/- TreeCovers. -/
import Derived.Test.YtnpobcggadojkaaDoorLawTreeA
set_option linter.unusedVariables false
set_option linter.unusedSimpArgs false
namespace Go.Proofs.YtnpobcggadojkaaDoor
open Go.RowKit

theorem count_succ (l : List Int) (p : Int → Bool) (k : Nat) (h : k < l.length) : (l.take (k + 1)).countP p = (l.take k).countP p + if p (l.getD k 0) = true then 1 else 0 := by
  rw [List.take_succ_eq_append_getElem h, List.countP_append, List.getD_eq_getElem?_getD, List.getElem?_eq_getElem h]
  simp [List.countP_cons]
theorem cov_no1 {t : List Nod} {i l : Int} (h : ¬ loV l ≤ i) : covB t i l = false := decide_eq_false fun e => h e.1
theorem cov_no2 {t : List Nod} {i l : Int} (h : ¬ i ≤ hiV l) : covB t i l = false := decide_eq_false fun e => h e.2.1

set_option maxRecDepth 100000 in
set_option maxHeartbeats 8000000 in
theorem treeCovers_walk (vt : Value) (t : List Nod) (at9 : Nat) (w : World) (ht : NL w vt t) (hat : at9 ≤ 255) (hTAB : Tab w) :
    Calls Tryd.prog 3 #[vt, .int .u8 (at9 : Int)] w (Yes w) := by
  have HTAB := Lib.hid hTAB
  clear hTAB
  have HMAY := Lib.hid (fun W (hW : Kp w W) => may9_any vt t W (ht.kp hW))
  have HRES := Lib.hid (fun W (hW : Kp w W) K (hr : RightK t K) (x : Int) (h : -9223372036854775808 ≤ x ∧ x ≤ 9223372036854775807) => treeResolve_any vt t K x W (ht.kp hW) hr h (HTAB.out.kp hW))
  have HL := Lib.hid (fun W (hW : Kp w W) (h : t.length ≤ 100000) => refLvs_any vt t W (ht.kp hW) h)
  have HLV := Lib.hid (fun x W => refLeaves_any x W)
  have HU := Lib.hid ht
  have wn : IntKind.i64.wrap (at9 : Int) = (at9 : Int) := IntWalk.i64_in _ (by omega)
  obtain ⟨aa, ca, rfl, pa, sa⟩ := ht.shape
  unfold maxLen at sa
  clear ht
  go_enter Tryd.func3, Tryd.ntmps3
  go_wp2_with fail
  refine (shownTree_any _ (HTAB.out.kp (by first | exact Kp.refl _ | exact (Kp.refl _).alloc _))).mono ?_
  rintro _ w0 ⟨rfl, k0⟩
  have KK : Hid (Kp w w0) := k0
  clear k0
  go_wp2_with fail
  refine (HMAY.out _ KK.out).mono ?_
  rintro _ w1 ⟨⟨bM, rfl, hM⟩, k1⟩
  have KK := Lib.hid (KK.out.trans k1)
  clear k1
  cases bM
  · clear hM
    go_wp2_with fail
    go_ret
    exact ⟨rfl, KK.out⟩
  · obtain ⟨K, hr⟩ := hM rfl
    clear hM HMAY
    obtain ⟨hz1, hz2, hz3⟩ := hr.small
    have HL := Lib.hid (fun W (hW : Kp w W) => HL.out W hW (by omega))
    have hxl : at9 % t.length < t.length := Nat.mod_lt _ hz3
    obtain ⟨j, q, hx, hj, hq⟩ := nd_of K (at9 % t.length) (by rw [← hr.len]; exact hxl)
    have hres := res_nd hr hj hq
    rw [← hx] at hres
    have HRES2 := Lib.hid (fun W (hW : Kp w W) => HRES.out W hW K hr ((at9 % t.length : Nat) : Int) (by omega))
    rw [hres] at HRES2
    obtain ⟨_, s2, s3⟩ := nd_small hr.le hj hq
    have HCOV : Hid (∀ i : Nat, (ats t (2 * i)).kind = 1 → ((loV ((at9 % t.length : Nat) : Int) ≤ i ∧ (i : Int) ≤ hiV ((at9 % t.length : Nat) : Int)) → (resF t j q).countP (covB t i) = 1) ∧ (¬ (loV ((at9 % t.length : Nat) : Int) ≤ i ∧ (i : Int) ≤ hiV ((at9 % t.length : Nat) : Int)) → (resF t j q).countP (covB t i) = 0)) := fun i hi => by
      have h1 := cov_count hr i hi j q hj hq
      rw [hx, lohi_nd s2 s3 i]
      by_cases e : i / 2 ^ j = q
      · rw [if_pos e] at h1
        exact ⟨fun _ => h1, fun h => absurd e h⟩
      · rw [if_neg e] at h1
        exact ⟨fun h => absurd h e, fun _ => h1⟩
    have HIN : Hid (∀ k, k < (resF t j q).length → ∃ y : Nat, (resF t j q).getD k 0 = (y : Int) ∧ y < t.length ∧ (ats t y).kind ≠ 0) := fun k hk => by
      rw [List.getD_eq_getElem?_getD, List.getElem?_eq_getElem hk]
      exact res_in hr j q hj hq _ (List.getElem_mem hk)
    have hrl := res_len hr j q hj hq
    have hrl2 : 2 ^ (j + 1) ≤ 2048 := by
      have := p2_succ j
      have := p2_le (show j ≤ 10 by have := hr.le; omega)
      omega
    have H2 := Lib.hid (fun k h => lvs_two (t := t) (k := k) h)
    have hlm := lvs_max (t := t) (by omega)
    have itm : ((at9 : Int)).tmod (t.length : Int) = ((at9 % t.length : Nat) : Int) := by rw [Int.tmod_eq_emod_of_nonneg (by omega)]; omega
    have iw : IntKind.i64.wrap ((at9 % t.length : Nat) : Int) = ((at9 % t.length : Nat) : Int) := IntWalk.i64_in _ (by omega)
    have hne : ((t.length : Int) == 0) = false := beq_eq_false_iff_ne.2 (by omega)
    have hne2 : ¬ (t.length : Int) = 0 := by omega
    generalize ((at9 % t.length : Nat) : Int) = X at *
    obtain ⟨RL9, hRL⟩ : ∃ l, resF t j q = l := ⟨_, rfl⟩
    rw [hRL] at HRES2 HCOV HIN hrl
    have HLX := Lib.hid (fun W => HLV.out X W)
    generalize loV X = LO at *
    generalize hiV X = HI at *
    generalize lvs t = L at *
    obtain ⟨N, hN⟩ : ∃ N, t.length = N := ⟨_, rfl⟩
    rw [hN] at HL HRES2 HU HIN H2 pa itm hne hne2 ⊢
    clear hr hN hxl hx hj hq hres s2 s3 hRL HRES hz1 hz2 hz3
    go_wp2_with fail
    refine (HRES2.out _ KK.out).mono ?_; rintro _ w2 ⟨⟨r2, rfl, s2⟩, k2⟩
    have KK := Lib.hid (KK.out.trans k2)
    obtain ⟨ar, cr, er, pr, _⟩ := s2.shape
    subst er
    have HR2 := Lib.hid s2
    obtain ⟨M, hM⟩ : ∃ M, RL9.length = M := ⟨_, rfl⟩
    have HCS : Hid (∀ p k, k < M → (RL9.take (k + 1)).countP p = (RL9.take k).countP p + if p (RL9.getD k 0) = true then 1 else 0) := fun p k hk => count_succ RL9 p k (by rw [hM]; exact hk)
    have HCE : Hid (∀ p, (RL9.take M).countP p = RL9.countP p) := fun p => by rw [← hM, List.take_length]
    rw [hM] at HR2 HIN pr hrl ⊢
    have hM2 : M ≤ 2048 := by omega
    clear k2 s2 HRES2 hM
    go_wp2_with fail
    refine (HLX.out _).mono ?_; rintro _ _ ⟨rfl, rfl⟩
    have HLW := Lib.hid (HL.out w2 KK.out)
    clear HLX HL
    go_wp2_with fail
    go_loop [10] (fun i => ∃ k : Nat, k ≤ L ∧ i = .int .i64 (k : Int)) (fun i => (L - (intOf i).toNat))
    case atStart => exact ⟨0, Nat.zero_le _, rfl⟩
    case round =>
      obtain ⟨i, hi, rfl⟩ := hrel
      by_cases hlt : i < L
      · have hk2 := H2.out i hlt
        obtain ⟨g, off, rfl, hb, hc⟩ := HU.out.at (2 * i) hk2
        obtain ⟨p, q', h, hn⟩ := hc (2 * i) hk2
        have ck := KK.out.cell hn.kind
        have HCK := Lib.hid ck
        have i1 : IntKind.i64.wrap ((i : Int) + 1) = (i : Int) + 1 := IntWalk.i64_in _ (by omega)
        have i2 : IntKind.i64.wrap (2 * (i : Int)) = ((2 * i : Nat) : Int) := by rw [IntWalk.i64_in _ (by omega)]; omega
        have i3 : ((2 * i : Nat) : Int) < (N : Int) := by omega
        have hcov := HCOV.out i
        have HAT : Hid (∀ y, y < N → ∃ k9 p9 q9 h9, k9 = (ats t y).kind ∧ w2.cell? ⟨g, off + y * 5, none⟩ = some (.int .i64 k9) ∧ w2.cell? ⟨g, off + y * 5 + 3, none⟩ = some q9 ∧ NIn w2 (ats t y) p9 q9 h9) := fun y hy => by
          obtain ⟨p9, q9, h9, n9⟩ := hc y hy
          have m9 := n9.kp KK.out
          exact ⟨_, p9, q9, h9, rfl, m9.kind, m9.unC, m9.2⟩
        obtain ⟨G, hG⟩ : ∃ G : Nat → Nat, G = fun k => (RL9.take k).countP (covB t (i : Int)) := ⟨_, rfl⟩
        have HG0 : Hid (G 0 = 0) := by unfold Hid; rw [hG]; rfl
        have HGS : Hid (∀ k, k < M → G (k + 1) = G k + if covB t (i : Int) (RL9.getD k 0) = true then 1 else 0) := fun k hk => by rw [hG]; exact HCS.out _ k hk
        have HGE : Hid (G M = RL9.countP (covB t (i : Int))) := by unfold Hid; rw [hG]; exact HCE.out _
        have HGL : Hid (∀ k, k ≤ M → G k ≤ 2048) := fun k hk => by
          rw [hG]
          have := List.countP_le_length (p := covB t (i : Int)) (l := RL9.take k)
          rw [List.length_take] at this
          simp only []
          omega
        clear hG hc hn hk2 hb HCOV HCS HCE
        generalize RL9.countP (covB t (i : Int)) = C at *
        obtain ⟨KD, hKD⟩ : ∃ KD, (ats t (2 * i)).kind = KD := ⟨_, rfl⟩
        rw [hKD] at hcov HCK ck
        obtain ⟨K2, hK2⟩ : ∃ K2, 2 * i = K2 := ⟨_, rfl⟩
        rw [hK2] at i2 i3 HCK ck
        have hGl : C ≤ 2048 := by have := HGL.out M (Nat.le_refl _); rw [HGE.out] at this; exact this
        clear hKD hK2 ck
        go_wp2_with fail
        refine HLW.out.mono ?_; rintro _ _ ⟨rfl, rfl⟩
        go_wp2_with fail
        go_loop [11, 12] (fun n k => ∃ m : Nat, m ≤ M ∧ k = .int .i64 (m : Int) ∧ n = .int .i64 (G m : Int)) (fun _ k => (M - (intOf k).toNat))
        case atStart => exact ⟨0, Nat.zero_le _, rfl, by rw [HG0.out]; rfl⟩
        case round =>
          obtain ⟨m, hm, rfl, rfl⟩ := hrel
          by_cases hml : m < M
          · obtain ⟨gr, offr, rfl, _, hcr⟩ := HR2.out.at m hml
            have d0 := hcr m hml
            obtain ⟨y, ey, hyN, hy0⟩ := HIN.out m hml
            have hgs := HGS.out m hml
            have hgl := HGL.out m hm
            rw [ey] at d0 hgs
            obtain ⟨k9, p9, q9, h9, e9, d1, d2, hin⟩ := HAT.out y hyN
            rw [← e9] at hy0
            have i4 : IntKind.i64.wrap ((m : Int) + 1) = (m : Int) + 1 := IntWalk.i64_in _ (by omega)
            have i5 : IntKind.i64.wrap ((G m : Int) + 1) = ((G m + 1 : Nat) : Int) := by rw [IntWalk.i64_in _ (by omega)]; omega
            have i6 : (y : Int) < (N : Int) := by omega
            have i7 : ¬ (N : Int) ≤ (y : Int) := by omega
            have hkb : (k9 == 0) = false := beq_eq_false_iff_ne.2 hy0
            have HY := Lib.hid (HLV.out (y : Int) w2)
            have HI9 := Lib.hid (refInI_any q9 (ats t y).un (i : Int) w2 hin.un)
            obtain ⟨xq, nq, cq, rfl⟩ := hin.un.sl
            have HCV : Hid (covB t (i : Int) (y : Int) = decide (loV (y : Int) ≤ (i : Int) ∧ (i : Int) ≤ hiV (y : Int) ∧ (i : Int) ∉ (ats t y).un)) := by unfold Hid covB; rw [Int.toNat_natCast]
            rw [HCV.out] at hgs
            clear HCV hcr ey hin e9 HAT HIN HGS HGL HGE HG0 HLV
            generalize loV (y : Int) = LY at *
            generalize hiV (y : Int) = HY9 at *
            generalize (ats t y).un = UN at *
            generalize G m = GM at *
            by_cases h1 : LY ≤ (i : Int)
            · by_cases h2 : (i : Int) ≤ HY9
              · by_cases h3 : (i : Int) ∈ UN
                · rw [decide_eq_true h3] at HI9
                  have HG := Lib.hid (hgs.trans (by rw [decide_eq_false fun e => e.2.2 h3] <;> rfl))
                  clear hgs h3
                  go_wp2_with fail
                  refine HY.out.mono ?_; rintro _ _ ⟨rfl, rfl⟩
                  go_wp2_with fail
                  refine HI9.out.mono ?_; rintro _ _ ⟨rfl, rfl⟩
                  go_wp2_with fail
                  go_round
                  case rel => exact ⟨m + 1, by omega, by go_num, by rw [HG.out] <;> first | rfl | simp⟩
                  case measure => simp [intOf]; omega
                · rw [decide_eq_false h3] at HI9
                  have HG := Lib.hid (hgs.trans (by rw [decide_eq_true ⟨h1, h2, h3⟩] <;> rfl))
                  clear hgs h3
                  go_wp2_with fail
                  refine HY.out.mono ?_; rintro _ _ ⟨rfl, rfl⟩
                  go_wp2_with fail
                  refine HI9.out.mono ?_; rintro _ _ ⟨rfl, rfl⟩
                  go_wp2_with fail
                  go_round
                  case rel => exact ⟨m + 1, by omega, by go_num, by rw [HG.out] <;> first | rfl | simp⟩
                  case measure => simp [intOf]; omega
              · have HG := Lib.hid (hgs.trans (by rw [decide_eq_false fun e => h2 e.2.1] <;> rfl))
                clear hgs HI9
                go_wp2_with fail
                refine HY.out.mono ?_; rintro _ _ ⟨rfl, rfl⟩
                go_wp2_with fail
                go_round
                case rel => exact ⟨m + 1, by omega, by go_num, by rw [HG.out] <;> first | rfl | simp⟩
                case measure => simp [intOf]; omega
            · have HG := Lib.hid (hgs.trans (by rw [decide_eq_false fun e => h1 e.1] <;> rfl))
              clear hgs HI9
              go_wp2_with fail
              refine HY.out.mono ?_; rintro _ _ ⟨rfl, rfl⟩
              go_wp2_with fail
              go_round
              case rel => exact ⟨m + 1, by omega, by go_num, by rw [HG.out] <;> first | rfl | simp⟩
              case measure => simp [intOf]; omega
          · obtain rfl : m = M := by omega
            rw [HGE.out]
            have ck := HCK.out
            clear HGE HGS HGL HG0 HAT HIN HR2 HLV
            by_cases hk1 : KD = 1
            · obtain ⟨hc1, hc2⟩ := hcov hk1
              subst hk1
              by_cases h1 : LO ≤ (i : Int)
              · by_cases h2 : (i : Int) ≤ HI
                · have hC := hc1 ⟨h1, h2⟩
                  clear hc1 hc2 hcov
                  subst hC
                  go_wp2_with fail
                  go_round
                  case rel => exact ⟨i + 1, by omega, by go_num⟩
                  case measure => simp [intOf]; omega
                · have hC := hc2 (fun e => h2 e.2)
                  clear hc1 hc2 hcov
                  subst hC
                  go_wp2_with fail
                  go_round
                  case rel => exact ⟨i + 1, by omega, by go_num⟩
                  case measure => simp [intOf]; omega
              · have hC := hc2 (fun e => h1 e.1)
                clear hc1 hc2 hcov
                subst hC
                go_wp2_with fail
                go_round
                case rel => exact ⟨i + 1, by omega, by go_num⟩
                case measure => simp [intOf]; omega
            · have hkb : (KD == 1) = false := beq_eq_false_iff_ne.2 hk1
              clear hcov
              by_cases h1 : LO ≤ (i : Int)
              · by_cases h2 : (i : Int) ≤ HI
                · by_cases h3 : (0 : Int) < (C : Int)
                  · go_wp2_with fail
                    go_round
                    case rel => exact ⟨i + 1, by omega, by go_num⟩
                    case measure => simp [intOf]; omega
                  · go_wp2_with fail
                    go_round
                    case rel => exact ⟨i + 1, by omega, by go_num⟩
                    case measure => simp [intOf]; omega
                · by_cases h3 : (0 : Int) < (C : Int)
                  · go_wp2_with fail
                    go_round
                    case rel => exact ⟨i + 1, by omega, by go_num⟩
                    case measure => simp [intOf]; omega
                  · go_wp2_with fail
                    go_round
                    case rel => exact ⟨i + 1, by omega, by go_num⟩
                    case measure => simp [intOf]; omega
              · by_cases h3 : (0 : Int) < (C : Int)
                · go_wp2_with fail
                  go_round
                  case rel => exact ⟨i + 1, by omega, by go_num⟩
                  case measure => simp [intOf]; omega
                · go_wp2_with fail
                  go_round
                  case rel => exact ⟨i + 1, by omega, by go_num⟩
                  case measure => simp [intOf]; omega
      · obtain rfl : i = L := by omega
        clear HCOV HIN HR2 HU H2 HCS HCE HLV
        go_wp2_with fail
        refine HLW.out.mono ?_; rintro _ _ ⟨rfl, rfl⟩
        go_wp2_with fail
        go_ret
        exact ⟨rfl, KK.out⟩
end Go.Proofs.YtnpobcggadojkaaDoor

/- TreeFinds. -/
import Derived.Test.YtnpobcggadojkaaDoorLawTreeA
set_option linter.unusedVariables false
set_option linter.unusedSimpArgs false
namespace Go.Proofs.YtnpobcggadojkaaDoor
open Go.RowKit

theorem find_iff (t : List Nod) (nm : Int) : findB t nm = true ↔ ∃ j, j < lvs t ∧ (ats t (2 * j)).kind = 1 ∧ (ats t (2 * j)).name = nm := by
  constructor
  · intro h
    obtain ⟨h1, h2, h3⟩ := find_yes h
    exact ⟨_, h1, h2, h3⟩
  · rintro ⟨j, h1, h2, h3⟩
    refine Classical.byContradiction fun h => ?_
    exact find_no (by rw [Bool.eq_false_iff]; exact h) j h1 ⟨h2, h3⟩
theorem new_find {nm : Int} {pub : List UInt8} (h : mayP nm pub) : findV [leafN nm pub] nm = 0 ∧ findB [leafN nm pub] nm = true := by
  have hr := RightK.new h
  have := find_at hr (i := 0) rfl
  have h1 : findB [leafN nm pub] nm = true := this.1
  have h2 : findN [leafN nm pub] nm = 0 := this.2
  exact ⟨by unfold findV; rw [h1, h2]; rfl, h1⟩

set_option maxRecDepth 100000 in
set_option maxHeartbeats 8000000 in
theorem treeFinds_walk (vt : Value) (t : List Nod) (nm : Nat) (b : UInt8) (w : World) (ht : NL w vt t) (hnm : nm ≤ 65535) (hTAB : Tab w) :
    Calls Tryd.prog 4 #[vt, .int .u16 (nm : Int), .int .u8 (b.toNat : Int)] w (Yes w) := by
  have HTAB := Lib.hid hTAB
  clear hTAB
  have HMAY := Lib.hid (fun W (hW : Kp w W) => may9_any vt t W (ht.kp hW))
  have HH := Lib.hid (fun W => half9_any b W)
  have hmay : mayP (nm : Int) (halfB b) := ⟨by omega, by omega, halfB_length b⟩
  have HNEW : Hid (∀ W v, Rd W v (halfB b) → Tab W → Calls Tryd.prog 13 #[.int .i64 (nm : Int), v] W fun e w' => (∃ r, e = .returned (.tuple #[r, .int .i64 0]) ∧ NL w' r [leafN (nm : Int) (halfB b)]) ∧ Kp W w') := fun W v hv hTW => by
    have := treeNew_any (nm : Int) v (halfB b) W hv (by omega) hTW
    rwa [show newE (nm : Int) (halfB b) = 0 from if_pos hmay, show newV (nm : Int) (halfB b) = [leafN (nm : Int) (halfB b)] from if_pos hmay] at this
  have HF2 : Hid (∀ W u, NL W u [leafN (nm : Int) (halfB b)] → Tab W → Calls Tryd.prog 12 #[u, .int .i64 (nm : Int)] W fun e w' => e = .returned (.tuple #[.int .i64 0, .bool true]) ∧ Kp W w') := fun W u hu hTW => by
    have := treeFind_any u _ 0 (nm : Int) W hu (RightK.new hmay) (by omega) hTW
    rwa [(new_find hmay).1, (new_find hmay).2] at this
  have HR2 := Lib.hid (fun W u (hu : NL W u [leafN (nm : Int) (halfB b)]) => right9_yes u _ 0 W hu (RightK.new hmay))
  have HN1 : Hid (([leafN (nm : Int) (halfB b)] : List Nod).length = 1) := rfl
  have HF1 := Lib.hid (fun W (hW : Kp w W) K (hr : RightK t K) nm (h : -9223372036854775808 ≤ nm ∧ nm ≤ 9223372036854775807) => treeFind_any vt t K nm W (ht.kp hW) hr h (HTAB.out.kp hW))
  have HL := Lib.hid (fun W (hW : Kp w W) (h : t.length ≤ 100000) => refLvs_any vt t W (ht.kp hW) h)
  have HU := Lib.hid ht
  have wn : IntKind.i64.wrap (nm : Int) = (nm : Int) := IntWalk.i64_in _ (by omega)
  generalize [leafN (nm : Int) (halfB b)] = NV9 at *
  obtain ⟨aa, ca, rfl, pa, _⟩ := ht.shape
  clear ht hmay
  go_enter Tryd.func4, Tryd.ntmps4
  go_wp2_with fail
  refine (shownTree_any _ (HTAB.out.kp (by first | exact Kp.refl _ | exact (Kp.refl _).alloc _))).mono ?_
  rintro _ w0 ⟨rfl, k0⟩
  have KK : Hid (Kp w w0) := k0
  clear k0
  go_wp2_with fail
  refine (HMAY.out _ KK.out).mono ?_
  rintro _ w1 ⟨⟨bM, rfl, hM⟩, k1⟩
  have KK := Lib.hid (KK.out.trans k1)
  clear k1
  cases bM
  · clear hM
    go_wp2_with fail
    go_ret
    exact ⟨rfl, KK.out⟩
  · obtain ⟨K, hr⟩ := hM rfl
    clear hM HMAY
    have hz := hr.small.1
    have HL := Lib.hid (fun W (hW : Kp w W) => HL.out W hW (by omega))
    have HF3 : Hid (∀ W, Kp w W → Calls Tryd.prog 12 #[.slice aa t.length ca, .int .i64 (nm : Int)] W fun e w' => e = .returned (.tuple #[.int .i64 (findV t (nm : Int)), .bool (findB t (nm : Int))]) ∧ Kp W w') := fun W hW => HF1.out W hW K hr (nm : Int) (by omega)
    have HFK : Hid (∀ k, (ats t (2 * k)).kind = 1 → ∀ W, Kp w W → Calls Tryd.prog 12 #[.slice aa t.length ca, .int .i64 (ats t (2 * k)).name] W fun e w' => e = .returned (.tuple #[.int .i64 (k : Int), .bool true]) ∧ Kp W w') := fun k hk W hW => by
      obtain ⟨h1, h2⟩ := find_at hr hk
      have hb : -9223372036854775808 ≤ (ats t (2 * k)).name ∧ (ats t (2 * k)).name ≤ 9223372036854775807 := by
        rcases hr.even k with e | ⟨_, _, e, _⟩
        · rw [e] at hk; cases hk
        · have := e.1; have := e.2.1; omega
      have := HF1.out W hW K hr (ats t (2 * k)).name hb
      rwa [h1, show findV t (ats t (2 * k)).name = (k : Int) by unfold findV; rw [h1, h2]; rfl] at this
    have HFI := Lib.hid (find_iff t (nm : Int))
    have H2 := Lib.hid (fun k h => lvs_two (t := t) (k := k) h)
    have hlm := lvs_max (t := t) (by omega)
    obtain ⟨N, hN⟩ : ∃ N, t.length = N := ⟨_, rfl⟩
    rw [hN] at HL HF3 HFK HU H2 pa hz ⊢
    generalize lvs t = L at *
    generalize findV t (nm : Int) = FV at *
    clear hr hN HF1
    go_wp2_with fail
    go_loopw [8, 9] (fun d i wr => ∃ (k : Nat) (q : Bool), k ≤ L ∧ i = .int .i64 (k : Int) ∧ d = .bool q ∧ (q = true ↔ ∃ j, j < k ∧ (ats t (2 * j)).kind = 1 ∧ (ats t (2 * j)).name = (nm : Int)) ∧ Kp w wr) (fun _ i _ => (L - (intOf i).toNat))
    case atStart => exact ⟨0, false, Nat.zero_le _, rfl, rfl, ⟨fun h => (by cases h), fun ⟨j, h, _⟩ => by omega⟩, KK.out⟩
    case round =>
      obtain ⟨k, q, hk, rfl, rfl, hq, hkp⟩ := hrel
      have HL1 := Lib.hid (HL.out wr hkp)
      by_cases hlt : k < L
      · have hk2 := H2.out k hlt
        obtain ⟨g, off, rfl, hb, hc⟩ := HU.out.at (2 * k) hk2
        obtain ⟨p, q', h, hn⟩ := hc (2 * k) hk2
        have c0 := hkp.cell hn.kind
        have c1 := hkp.cell hn.name
        have HC1 := Lib.hid hn.name
        have i1 : IntKind.i64.wrap ((k : Int) + 1) = (k : Int) + 1 := IntWalk.i64_in _ (by omega)
        have i2 : IntKind.i64.wrap (2 * (k : Int)) = ((2 * k : Nat) : Int) := by rw [IntWalk.i64_in _ (by omega)]; omega
        have i3 : ((2 * k : Nat) : Int) < (N : Int) := by omega
        have hfk := HFK.out k
        have HQ : Hid (∀ p : Bool, (p = true ↔ q = true ∨ ((ats t (2 * k)).kind = 1 ∧ (ats t (2 * k)).name = (nm : Int))) → (p = true ↔ ∃ j, j < k + 1 ∧ (ats t (2 * j)).kind = 1 ∧ (ats t (2 * j)).name = (nm : Int))) := fun p hp => by
          rw [hp, hq]
          constructor
          · rintro (⟨j, h1, h2⟩ | h2)
            · exact ⟨j, by omega, h2⟩
            · exact ⟨k, by omega, h2⟩
          · rintro ⟨j, h1, h2⟩
            rcases Nat.lt_or_eq_of_le (Nat.lt_succ_iff.1 h1) with h3 | h3
            · exact .inl ⟨j, h3, h2⟩
            · subst h3; exact .inr h2
        have KR := Lib.hid hkp
        clear hc hn hk2 hb hq HFI HF3 HFK H2 HL hkp HNEW HF2 HR2
        generalize (ats t (2 * k)).kind = X at *
        generalize (ats t (2 * k)).name = Y at *
        generalize 2 * k = K2 at *
        by_cases hx : X = 1
        · subst hx
          have hfk2 := Lib.hid (hfk rfl wr KR.out)
          clear hfk
          go_wp2_with fail
          refine HL1.out.mono ?_; rintro _ _ ⟨rfl, rfl⟩
          go_wp2_with fail
          refine hfk2.out.mono ?_; rintro _ w3 ⟨rfl, k3⟩
          have c2 := (KR.out.trans k3).cell HC1.out
          have hkk : ((k : Int) == (k : Int)) = true := beq_self_eq_true _
          have K3 := Lib.hid (KR.out.trans k3)
          clear hfk2 k3 c0 c1
          cases q
          · by_cases hy : Y = (nm : Int)
            · have HP := Lib.hid (HQ.out true ⟨fun _ => .inr ⟨by first | rfl | trivial, hy⟩, fun _ => rfl⟩)
              subst hy
              clear HQ
              go_wp2_with fail
              go_roundw
              case rel => exact ⟨k + 1, true, by omega, by go_num, rfl, ⟨fun _ => HP.out.1 (by first | rfl | trivial), fun _ => rfl⟩, K3.out⟩
              case measure => simp [intOf]; omega
            · have HP := Lib.hid (HQ.out false ⟨fun h => (by cases h), fun h => h.elim (fun h => by cases h) (fun h => absurd h.2 hy)⟩)
              have hyb : (Y == (nm : Int)) = false := beq_eq_false_iff_ne.2 hy
              clear HQ
              go_wp2_with fail
              go_roundw
              case rel => exact ⟨k + 1, false, by omega, by go_num, rfl, HP.out, K3.out⟩
              case measure => simp [intOf]; omega
          · have HP := Lib.hid (HQ.out true ⟨fun _ => .inl rfl, fun _ => rfl⟩)
            clear HQ
            go_wp2_with fail
            go_roundw
            case rel => exact ⟨k + 1, true, by omega, by go_num, rfl, ⟨fun _ => HP.out.1 (by first | rfl | trivial), fun _ => rfl⟩, K3.out⟩
            case measure => simp [intOf]; omega
        · have hxb : (X == 1) = false := beq_eq_false_iff_ne.2 hx
          have HP := Lib.hid (HQ.out q ⟨fun h => .inl h, fun h => h.elim id (fun h => absurd h.1 hx)⟩)
          clear HQ hfk
          go_wp2_with fail
          refine HL1.out.mono ?_; rintro _ _ ⟨rfl, rfl⟩
          go_wp2_with fail
          go_roundw
          case rel => exact ⟨k + 1, q, by omega, by go_num, rfl, HP.out, KR.out⟩
          case measure => simp [intOf]; omega
      · obtain rfl : k = L := by omega
        have HB : Hid (findB t (nm : Int) = q) := Bool.eq_iff_iff.2 (HFI.out.trans hq.symm)
        rw [HB.out] at HF3
        have KR := Lib.hid hkp
        have hqq : (q == q) = true := beq_self_eq_true _
        clear hq HFI HFK H2 HL hkp HU HB
        go_wp2_with fail
        refine HL1.out.mono ?_; rintro _ _ ⟨rfl, rfl⟩
        go_wp2_with fail
        refine (HF3.out _ KR.out).mono ?_; rintro _ w3 ⟨rfl, k3⟩
        have KR := Lib.hid (KR.out.trans k3)
        clear k3 HF3
        go_wp2_with fail
        refine (HH.out _).mono ?_; rintro _ w4 ⟨⟨r4, rfl, s4⟩, k4⟩
        have KR := Lib.hid (KR.out.trans k4)
        have S4 := Lib.hid s4
        clear k4 s4 HH
        go_wp2_with fail
        refine (HNEW.out _ _ S4.out (HTAB.out.kp (by first | exact KK.out | exact KL.out | exact KR.out | exact K9.out | exact K1.out | exact K2.out | exact K3.out | exact K4.out | exact K5.out | exact K6.out | exact K7.out | exact K8.out | exact K9.out | exact K10.out | exact K11.out | exact K12.out | exact K13.out | exact K14.out | exact K15.out | exact K16.out | exact K17.out | exact K18.out | exact K19.out | exact K20.out | exact K21.out | exact K22.out | exact K23.out | exact K24.out | exact HO.out.2 | exact S2.out.2 | exact HT3.out.2 | exact KK.out.trans KR.out | exact KK.out.trans KL.out))).mono ?_; rintro _ w5 ⟨⟨r5, rfl, s5⟩, k5⟩
        have KR := Lib.hid (KR.out.trans k5)
        have S5' := Lib.hid s5
        clear k5 HNEW S4
        go_wp2_with fail
        refine (HF2.out _ _ S5'.out (HTAB.out.kp (by first | exact KK.out | exact KL.out | exact KR.out | exact K9.out | exact K1.out | exact K2.out | exact K3.out | exact K4.out | exact K5.out | exact K6.out | exact K7.out | exact K8.out | exact K9.out | exact K10.out | exact K11.out | exact K12.out | exact K13.out | exact K14.out | exact K15.out | exact K16.out | exact K17.out | exact K18.out | exact K19.out | exact K20.out | exact K21.out | exact K22.out | exact K23.out | exact K24.out | exact HO.out.2 | exact S2.out.2 | exact HT3.out.2 | exact KK.out.trans KR.out | exact KK.out.trans KL.out))).mono ?_; rintro _ w6 ⟨rfl, k6⟩
        have KR := Lib.hid (KR.out.trans k6)
        have S6 := Lib.hid (S5'.out.kp k6)
        obtain ⟨a5, c5, e5, _, _⟩ := s5.shape
        subst e5
        rw [HN1.out] at S6
        rw [HN1.out]
        clear k6 HF2 S5' s5
        go_wp2_with fail
        refine (HR2.out _ _ S6.out).mono ?_; rintro _ w7 ⟨rfl, k7⟩
        have KR := Lib.hid (KR.out.trans k7)
        clear k7 HR2 S6
        go_wp2_with fail
        go_ret
        exact ⟨rfl, KR.out⟩
end Go.Proofs.YtnpobcggadojkaaDoor

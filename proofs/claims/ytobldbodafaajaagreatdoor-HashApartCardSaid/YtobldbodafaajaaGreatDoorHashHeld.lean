/- hash.isTold, hash.Held. -/
import Derived.Test.YtobldbodafaajaaGreatDoorHashAbove
import Derived.Test.YtobldbodafaajaaGreatDoorTreeResolve
import Derived.Test.YtobldbodafaajaaGreatDoorTreeRow10
import Derived.Deep.RegionHeld3
set_option linter.unusedVariables false
set_option linter.unusedSimpArgs false
namespace Go.Proofs.YtobldbodafaajaaGreatDoor
open Go.RowKit

/-- What the code asks of one node of a resolution. -/
def askH (t : List Nod) (X : Nat) (want : List UInt8) (y : Int) : Prop := ¬ y ∈ (ats t X).un.map (2 * ·) ∧ (ats t y.toNat).hash = want
theorem heldS_iff {t : List Nod} {j q : Nat} (side : Int) (hj : j + 1 ≤ 10) :
    heldS t (nd (j + 1) q) side ↔ ∃ y ∈ resV t ((nd j (if side = 1 then 2 * q + 1 else 2 * q) : Nat) : Int), askH t (nd (j + 1) q) (aboV t ((nd (j + 1) q : Nat) : Int) side) y := by
  unfold heldS askH
  rw [lev_nd (j + 1) q (by omega), qOf_nd (j + 1) q (by omega), Nat.add_sub_cancel]
  have e : ∀ y : Int, (¬ (y % 2 = 0 ∧ y / 2 ∈ (ats t (nd (j + 1) q)).un)) ↔ ¬ y ∈ (ats t (nd (j + 1) q)).un.map (2 * ·) := fun y => by
    refine not_congr ⟨fun h => List.mem_map.2 ⟨y / 2, h.2, by omega⟩, fun h => ?_⟩
    obtain ⟨i, hi, rfl⟩ := List.mem_map.1 h
    have h2 : 2 * i / 2 = i := by omega
    exact ⟨by omega, by rw [h2]; exact hi⟩
  exact exists_congr fun y => and_congr Iff.rfl (and_congr (e y) Iff.rfl)
set_option maxRecDepth 100000 in
set_option maxHeartbeats 3000000 in
theorem isTold_any (vt : Value) (t : List Nod) (K X : Nat) (side : Int) (w : World) (hT : TidyT t K) (hr : RightK t K) (ht : NL w vt t) (hTab : Tab w) (hX : X < t.length) (hk : (ats t X).kind = 2) (hs : side = 0 ∨ side = 1) :
    Calls Tryz.prog 48 #[vt, .int .i64 (X : Int), .int .i64 side] w fun e w' => Tells e (heldS t X side) ∧ Kp w w' := by
  have hp := hT.par X hk
  obtain ⟨j, q, rfl, hj, hq⟩ := hT.at hX
  cases j with
  | zero => rw [nd_leaf] at hp; omega
  | succ j =>
  obtain ⟨_, y1, y2⟩ := nd_small hT.le hj hq
  obtain ⟨f1, f2, f3⟩ := ch_yes (j := j) (q := q) y1 y2
  obtain ⟨k1, k2⟩ := kid10 hj hq
  have hHS := heldS_iff (t := t) (q := q) side y1
  have HHS := Lib.hid hHS
  have hcq : (if side = 1 then 2 * q + 1 else 2 * q) < 2 ^ (K - j) := by split <;> assumption
  have HRI : Hid (∀ l ∈ resV t ((nd j (if side = 1 then 2 * q + 1 else 2 * q) : Nat) : Int), ∃ y : Nat, l = (y : Int) ∧ y < t.length) := fun l hl => by
    rw [res_nd hr (by omega) hcq] at hl
    obtain ⟨y, e, h, _⟩ := res_in hr j _ (by omega) hcq l hl
    exact ⟨y, e, h⟩
  have HCH : Hid (∀ W, Kp w W → Calls Tryz.prog 67 #[.int .i64 ((nd (j + 1) q : Nat) : Int), .int .i64 side] W fun e w' => e = .returned (.int .i64 ((nd j (if side = 1 then 2 * q + 1 else 2 * q) : Nat) : Int)) ∧ W = w') := fun W hW => by
    have := hashChild_any ((nd (j + 1) q : Nat) : Int) side W (hTab.kp hW)
    rcases hs with rfl | rfl
    · rwa [if_neg (by decide), f2] at this
    · rwa [if_pos rfl, f3] at this
  have HRES := Lib.hid (fun W (hW : Kp w W) => treeRes_any vt t K ((nd j (if side = 1 then 2 * q + 1 else 2 * q) : Nat) : Int) W (ht.kp hW) hr (hTab.kp hW))
  have hrl : (resV t ((nd j (if side = 1 then 2 * q + 1 else 2 * q) : Nat) : Int)).length ≤ 1000000 := by
    rw [res_nd hr (by omega) hcq]
    have h1 := res_len hr j _ (by omega) hcq
    have h2 : 2 ^ (j + 1) ≤ 1024 := p2_le (by omega)
    omega
  have htd := hT.node (nd (j + 1) q)
  have HAB := Lib.hid (fun W v (hv : RI W v (ats t (nd (j + 1) q)).un) => allBut_any v _ W hv (by have := htd.unl; omega) (fun i hi => by have := htd.un i hi; omega))
  have HAV := Lib.hid (fun W (hW : Kp w W) => above_any vt t K (nd (j + 1) q) side W hT (ht.kp hW) (hTab.kp hW) hX hk hs)
  have HIS := Lib.hid (fun (y : Int) W (hW : Kp w W) => hashIsNode_any vt t K y W (ht.kp hW) hr)
  have HKP := Lib.hid hTab
  have e4 : ((nd (j + 1) q : Nat) : Int) < (t.length : Int) := by omega
  have hlen : t.length ≤ 100000 := by have := hr.small.1; omega
  obtain ⟨at', c, rfl, _, _⟩ := ht.shape
  obtain ⟨b, off, rfl, _, hall⟩ := ht.at (nd (j + 1) q) hX
  have HND := Lib.hid hall
  obtain ⟨p, u, h, hn⟩ := hall (nd (j + 1) q) hX
  have c3 := hn.unC
  have HUC : Hid (∀ W, Kp w W → W.cell? ⟨b, off + nd (j + 1) q * 5 + 3, none⟩ = some u) := fun W hW => hW.cell c3
  have HUR := Lib.hid hn.2.un
  obtain ⟨au, nu, cu, rfl⟩ := hn.2.un.sl
  generalize heldS t (nd (j + 1) q) side = GOAL at *
  have HHS := HHS
  rw [hHS]
  obtain ⟨P9, hP9⟩ : ∃ P9 : Int → Prop, ∀ y, P9 y ↔ askH t (nd (j + 1) q) (aboV t ((nd (j + 1) q : Nat) : Int) side) y := ⟨_, fun _ => Iff.rfl⟩
  have HP9 : Hid (∀ y, P9 y ↔ (¬ y ∈ (ats t (nd (j + 1) q)).un.map (2 * ·) ∧ (ats t y.toNat).hash = aboV t ((nd (j + 1) q : Nat) : Int) side)) := hP9
  have hG : (∃ y ∈ resV t ((nd j (if side = 1 then 2 * q + 1 else 2 * q) : Nat) : Int), askH t (nd (j + 1) q) (aboV t ((nd (j + 1) q : Nat) : Int) side) y) ↔ ∃ y ∈ resV t ((nd j (if side = 1 then 2 * q + 1 else 2 * q) : Nat) : Int), P9 y := exists_congr fun y => and_congr Iff.rfl (hP9 y).symm
  rw [hG]
  generalize aboV t ((nd (j + 1) q : Nat) : Int) side = WT at *
  generalize resV t ((nd j (if side = 1 then 2 * q + 1 else 2 * q) : Nat) : Int) = RS at *
  generalize nd j (if side = 1 then 2 * q + 1 else 2 * q) = XC at *
  generalize (ats t (nd (j + 1) q)).un = UN at *
  generalize nd (j + 1) q = X at *
  clear hT hr ht hTab hn hall hq hp y1 y2 f1 f2 f3 k1 k2 hHS HHS hcq htd hP9 hG hk hs hj
  obtain ⟨TL, hTL⟩ : ∃ TL, t.length = TL := ⟨_, rfl⟩
  rw [hTL] at HRI HRES HAV HIS HND hX e4 hlen ⊢
  go_enter Tryz.func48, Tryz.ntmps48
  go_wp2_with fail
  have KD : Hid (Kp w w.drew) := Kp.drew (Kp.refl w)
  have S1 := Lib.hid (HUC.out _ KD.out)
  clear c3
  go_region_held3 (fun W => W.cell? ⟨b, off + X * 5 + 3, none⟩ = some (.slice au nu cu))
    (first | with_reducible exact S1.out | with_reducible exact S2.out | with_reducible exact S3.out)
    (first
      | (go_at_call 31; refine (HAB.out _ _ (HUR.out.kp K2.out)).mono ?_; rintro _ w3 ⟨⟨r3, rfl, o3⟩, k3⟩; obtain ⟨cb, rfl, hcl⟩ := o3.call; have HC := Lib.hid hcl; have K3 := Lib.hid (K2.out.trans k3); have S3 := Lib.hid (HUC.out _ K3.out))
      | (go_at_call 33; refine (HAV.out _ KD.out).mono ?_; rintro _ w2 ⟨⟨r2, rfl, o2⟩, k2⟩; obtain ⟨a2, n2, b2, rfl⟩ := rd_slH o2.rd; have K2 := Lib.hid (KD.out.trans k2); have S2 := Lib.hid (HUC.out _ K2.out)))
  have HW := Lib.hid (o2.rd.kp k3)
  clear S1 S2 S3 HAB HAV HUR HUC o2 o3 k2 k3 hcl K2 KD
  go_wp2_with fail
  refine (HCH.out _ K3.out).mono ?_; rintro _ _ ⟨rfl, rfl⟩
  go_wp2_with fail
  refine (HRES.out _ K3.out).mono ?_; rintro _ w4 ⟨⟨r4, rfl, o4⟩, k4⟩
  have HRR := Lib.hid o4.ri
  have K34 := Lib.hid k4
  obtain ⟨a4, c4, rfl, p4, _⟩ := o4.ri.shape
  obtain ⟨RL9, hRL⟩ : ∃ RL9, RS.length = RL9 := ⟨_, rfl⟩
  rw [hRL] at HRR hrl p4 ⊢
  have HRG : Hid (∀ k, k < RL9 → RS.getD k 0 ∈ RS) := fun k hk => by rw [List.getD_eq_getElem?_getD, List.getElem?_eq_getElem (by omega)]; exact List.getElem_mem _
  have HRX : Hid ((∀ m, m < RL9 → ¬ P9 (RS.getD m 0)) → ¬ ∃ y ∈ RS, P9 y) := fun h ⟨y, hy, hp⟩ => by
    obtain ⟨m, hm, rfl⟩ := List.getElem_of_mem hy
    have := h m (by omega)
    rw [List.getD_eq_getElem?_getD, List.getElem?_eq_getElem hm] at this
    exact this hp
  clear HCH HRES o4 k4 hRL
  go_wp2_with fail
  go_loopw [27] (fun x wr => ∃ k : Nat, k ≤ RL9 ∧ x = .int .i64 (k : Int) ∧ Kp w4 wr ∧ ∀ m, m < k → ¬ P9 (RS.getD m 0)) (fun x _ => (RL9 - (intOf x).toNat))
  case atStart => exact ⟨0, Nat.zero_le _, rfl, Kp.refl _, fun m hm => absurd hm (Nat.not_lt_zero _)⟩
  case round =>
    obtain ⟨k, hk, rfl, hkp, hno⟩ := hrel
    have KR := Lib.hid (And.intro hkp hno)
    by_cases hlt : k < RL9
    · obtain ⟨gu, ou, rfl, _, hcu⟩ := (HRR.out.kp hkp).at k hlt
      have cu2 := hcu k hlt
      have i1 : IntKind.i64.wrap ((k : Int) + 1) = (k : Int) + 1 := IntWalk.i64_in _ (by omega)
      have i3 : (k : Int) < (RL9 : Int) := by omega
      have hmem := HRG.out k hlt
      obtain ⟨Y, hY, hYl⟩ := HRI.out _ hmem
      have HNX : Hid (¬ P9 (Y : Int) → ∀ m, m < k + 1 → ¬ P9 (RS.getD m 0)) := fun h m hm => by
        rcases Nat.lt_or_eq_of_le (Nat.lt_succ_iff.1 hm) with h3 | h3
        · exact KR.out.2 m h3
        · rw [h3, hY]; exact h
      have HME := Lib.hid (hY ▸ hmem)
      rw [hY] at cu2
      have hPY := HP9.out (Y : Int)
      rw [Int.toNat_natCast] at hPY
      have hcy := Lib.hid (HC.out (Y : Int) wr (K34.out.trans hkp) (by omega))
      obtain ⟨p, u, h, hn⟩ := HND.out Y hYl
      have HHC : Hid (∀ W, Kp wr W → W.cell? ⟨b, off + Y * 5 + 4, none⟩ = some h ∧ Rd W h (ats t Y).hash) := fun W hW => ⟨((hn.kp (K3.out.trans (K34.out.trans hkp))).kp hW).hashC, hn.2.hash.kp ((K3.out.trans (K34.out.trans hkp)).trans hW)⟩
      obtain ⟨ah, nh, ch, rfl⟩ := rd_slH hn.2.hash
      have HWT : Hid (∀ W, Kp wr W → Rd W (.slice a2 n2 b2) WT) := fun W hW => HW.out.kp ((K34.out.trans hkp).trans hW)
      have HISY : Hid (∀ W, Kp wr W → Calls Tryz.prog 29 #[.slice (some ⟨b, off, none⟩) TL c, .int .i64 (Y : Int)] W fun e w' => e = .returned (.bool true) ∧ W = w') := fun W hW => by
        have := HIS.out (Y : Int) W ((K3.out.trans (K34.out.trans hkp)).trans hW)
        rwa [decide_eq_true (by omega)] at this
      have e5 : (Y : Int) < (TL : Int) := by omega
      clear hcu hkp hno HRR HRG HRX HRI HIS HND hn hmem hY HW HC
      by_cases hin : (Y : Int) ∈ UN.map (2 * ·)
      · rw [decide_eq_true hin] at hcy
        have HN := Lib.hid (HNX.out (fun h => (hPY.1 h).1 hin))
        clear hin hPY
        go_wp2_with fail
        refine hcy.out.mono ?_; rintro _ w5 ⟨rfl, k5⟩
        have KE := Lib.hid (KR.out.1.trans k5)
        clear k5 hcy
        go_wp2_with fail
        go_roundw
        case rel => exact ⟨k + 1, by omega, by go_num, KE.out, HN.out⟩
        case measure => simp [intOf]; omega
      · rw [decide_eq_false hin] at hcy
        have HIF : Hid (P9 (Y : Int) ↔ (ats t Y).hash = WT) := hPY.trans ⟨fun h => h.2, fun h => ⟨hin, h⟩⟩
        generalize (ats t Y).hash = HY at *
        clear hin hPY
        go_wp2_with fail
        refine hcy.out.mono ?_; rintro _ w5 ⟨rfl, k5⟩
        have K5 := Lib.hid k5
        clear hcy k5
        go_wp2_with fail
        refine (HISY.out _ K5.out).mono ?_; rintro _ _ ⟨rfl, rfl⟩
        have cy := (HHC.out _ K5.out).1
        go_wp2_with fail
        refine (bytesEqual_any _ _ HY WT w5 (HHC.out _ K5.out).2 (HWT.out _ K5.out)).mono ?_; rintro _ w6 ⟨rfl, k6⟩
        have K6 := Lib.hid (KR.out.1.trans (K5.out.trans k6))
        clear k6 cy
        by_cases he : HY = WT
        · rw [decide_eq_true he]
          have HT9 : Hid (∃ y ∈ RS, P9 y) := ⟨_, HME.out, HIF.out.2 he⟩
          clear he
          go_wp2_with fail
          go_ret
          exact ⟨⟨true, rfl, by simp only [true_iff]; exact HT9.out⟩, K3.out.trans (K34.out.trans K6.out)⟩
        · rw [decide_eq_false he]
          have HN := Lib.hid (HNX.out (fun h => he (HIF.out.1 h)))
          clear he
          go_wp2_with fail
          go_roundw
          case rel => exact ⟨k + 1, by omega, by go_num, K6.out, HN.out⟩
          case measure => simp [intOf]; omega
    · obtain rfl : k = RL9 := by omega
      have hle : ¬ (k : Int) < (k : Int) := by omega
      have HN := Lib.hid (HRX.out hno)
      clear hkp hno HRR HRG HRX HRI HIS HND HW HC
      go_wp2_with fail
      go_ret
      exact ⟨⟨false, rfl, by simp only [Bool.false_eq_true, false_iff]; exact HN.out⟩, K3.out.trans (K34.out.trans KR.out.1)⟩
set_option maxRecDepth 100000 in
set_option maxHeartbeats 3000000 in
theorem hashHeld_any (vt : Value) (t : List Nod) (K : Nat) (w : World) (hT : TidyT t K) (hr : RightK t K) (ht : NL w vt t) (hTab : Tab w) :
    Calls Tryz.prog 18 #[vt] w fun e w' => Tells e (heldP t) ∧ Kp w w' := by
  obtain ⟨z1, z2, z3⟩ := hr.small
  have HSZ := Lib.hid (hashSize_any vt t w ht (by omega))
  rw [(sizeN_len hr.le hr.len).1] at HSZ
  have hp := p2_pos K
  have hn0 : (((2 ^ K : Nat) : Int) == 0) = false := beq_eq_false_iff_ne.2 (by omega)
  have hn1 : ¬ (((2 ^ K : Nat) : Int) = 0) := by omega
  have HI0 := Lib.hid (fun X W (hW : Kp w W) (hX : X < t.length) (hk : (ats t X).kind = 2) => isTold_any vt t K X 0 W hT hr (ht.kp hW) (hTab.kp hW) hX hk (.inl rfl))
  have HI1 := Lib.hid (fun X W (hW : Kp w W) (hX : X < t.length) (hk : (ats t X).kind = 2) => isTold_any vt t K X 1 W hT hr (ht.kp hW) (hTab.kp hW) hX hk (.inr rfl))
  obtain ⟨P9, hP9⟩ : ∃ P9 : Nat → Prop, ∀ x, P9 x ↔ ((ats t x).kind = 2 → heldS t x 0 ∨ heldS t x 1) := ⟨_, fun _ => Iff.rfl⟩
  have HP9 := Lib.hid hP9
  have hG : heldP t ↔ ∀ x, x < t.length → P9 x := forall_congr' fun x => imp_congr Iff.rfl (hP9 x).symm
  have HG : Hid (∀ e : Ending, Tells e (∀ x, x < t.length → P9 x) → Tells e (heldP t)) := fun e h => by rwa [hG]
  obtain ⟨a, c, rfl, p1, s1⟩ := ht.shape
  obtain ⟨b, off, rfl, _, hall⟩ := ht.at 0 z3
  have HND := Lib.hid hall
  have hl : t.length ≤ 100000 := by omega
  obtain ⟨TL, hTL⟩ : ∃ TL, t.length = TL := ⟨_, rfl⟩
  rw [hTL] at HI0 HI1 HSZ HND HG hl ⊢
  generalize ((2 ^ K : Nat) : Int) = NN at *
  clear hT hr ht hTab hP9 hG hall z1 z2 z3 hp p1 s1 hTL
  go_enter Tryz.func18, Tryz.ntmps18
  go_wp2_with fail
  refine HSZ.out.mono ?_; rintro _ _ ⟨rfl, rfl⟩
  go_wp2_with fail
  go_loopw [10] (fun x wr => ∃ k : Nat, k ≤ TL ∧ x = .int .i64 (k : Int) ∧ Kp w wr ∧ ∀ m, m < k → P9 m) (fun x _ => (TL - (intOf x).toNat))
  case atStart => exact ⟨0, Nat.zero_le _, rfl, Kp.refl _, fun m hm => absurd hm (Nat.not_lt_zero _)⟩
  case round =>
    obtain ⟨k, hk, rfl, hkp, hall⟩ := hrel
    have KR := Lib.hid (And.intro hkp hall)
    by_cases hlt : k < TL
    · have i1 : IntKind.i64.wrap ((k : Int) + 1) = (k : Int) + 1 := IntWalk.i64_in _ (by omega)
      have i3 : (k : Int) < (TL : Int) := by omega
      obtain ⟨p, u, h, hn0⟩ := HND.out k hlt
      have hn := hn0.kp hkp
      have c0 := hn.kind
      have c1 := hn.name
      have c2 := hn.pubC
      have c3 := hn.unC
      have c4 := hn.hashC
      obtain ⟨ap, np, cp, rfl⟩ := rd_slH hn.2.pub
      obtain ⟨ah, nh, ch, rfl⟩ := rd_slH hn.2.hash
      obtain ⟨au, nu, cu, rfl⟩ := hn.2.un.sl
      have HNX : Hid (P9 k → ∀ m, m < k + 1 → P9 m) := fun h m hm => by
        rcases Nat.lt_or_eq_of_le (Nat.lt_succ_iff.1 hm) with h3 | h3
        · exact KR.out.2 m h3
        · rw [h3]; exact h
      have hPk := HP9.out k
      have HA0 := Lib.hid (fun W hW hk => HI0.out k W hW hlt hk)
      have HA1 := Lib.hid (fun W hW hk => HI1.out k W hW hlt hk)
      obtain ⟨WA, hWA⟩ : ∃ WA, wr.alloc (.cells #[.int .i64 (ats t k).kind, .int .i64 (ats t k).name, .slice ap np cp, .slice au nu cu, .slice ah nh ch] 37) = WA := ⟨_, rfl⟩
      have HWA := Lib.hid hWA
      have HKA : Hid (Kp w WA) := by rw [← hWA]; exact hkp.alloc _
      have HNO : Hid (¬ P9 k → Tells (.returned (.bool false)) (∀ x, x < TL → P9 x)) := fun h => ⟨false, rfl, by simp only [Bool.false_eq_true, false_iff]; exact fun h2 => h (h2 k hlt)⟩
      clear hkp hall hn hn0 HND HP9 HI0 HI1 hWA
      by_cases hk2 : (ats t k).kind = 2
      · have HA0 := Lib.hid (fun W hW => HA0.out W hW hk2)
        have HA1 := Lib.hid (fun W hW => HA1.out W hW hk2)
        have HPK : Hid (P9 k ↔ heldS t k 0 ∨ heldS t k 1) := hPk.trans ⟨fun h => h hk2, fun h _ => h⟩
        rw [hk2] at c0 HWA
        clear hPk hk2
        generalize heldS t k 0 = G0 at *
        generalize heldS t k 1 = G1 at *
        generalize (ats t k).name = NM at *
        go_wp2_with fail
        rw [HWA.out]
        refine (HA0.out _ HKA.out).mono ?_; rintro _ w5 ⟨⟨b0, rfl, hb0⟩, k5⟩
        have K5 := Lib.hid (HKA.out.trans k5)
        have HB0 := Lib.hid hb0
        clear k5 hb0 HA0 HWA c0 c1 c2 c3 c4
        cases b0
        · go_wp2_with fail
          refine (HA1.out _ K5.out).mono ?_; rintro _ w6 ⟨⟨b1, rfl, hb1⟩, k6⟩
          have K6 := Lib.hid (K5.out.trans k6)
          have HB1 := Lib.hid hb1
          clear k6 hb1 HA1
          cases b1
          · have HX := Lib.hid (HNO.out (fun h => by
              rcases HPK.out.1 h with h | h
              · exact absurd (HB0.out.2 h) (by decide)
              · exact absurd (HB1.out.2 h) (by decide)))
            go_wp2_with fail
            go_ret
            exact ⟨HG.out _ HX.out, K6.out⟩
          · have HN := Lib.hid (HNX.out (HPK.out.2 (.inr (HB1.out.1 rfl))))
            go_wp2_with fail
            go_roundw
            case rel => exact ⟨k + 1, by omega, by go_num, K6.out, HN.out⟩
            case measure => simp [intOf]; omega
        · have HN := Lib.hid (HNX.out (HPK.out.2 (.inl (HB0.out.1 rfl))))
          clear HA1
          go_wp2_with fail
          go_roundw
          case rel => exact ⟨k + 1, by omega, by go_num, K5.out, HN.out⟩
          case measure => simp [intOf]; omega
      · have hkb : ((ats t k).kind == 2) = false := beq_eq_false_iff_ne.2 hk2
        have HN := Lib.hid (HNX.out (hPk.2 (fun h => absurd h hk2)))
        clear hPk HA0 HA1
        generalize (ats t k).kind = KD at *
        generalize (ats t k).name = NM at *
        go_wp2_with fail
        rw [HWA.out]
        go_roundw
        case rel => exact ⟨k + 1, by omega, by go_num, HKA.out, HN.out⟩
        case measure => simp [intOf]; omega
    · obtain rfl : k = TL := by omega
      have hle : ¬ (k : Int) < (k : Int) := by omega
      have HX := Lib.hid (HG.out (.returned (.bool true)) ⟨true, rfl, by simp only [true_iff]; exact hall⟩)
      clear hkp hall HND HP9 HI0 HI1
      go_wp2_with fail
      go_ret
      exact ⟨HX.out, KR.out.1⟩
end Go.Proofs.YtobldbodafaajaaGreatDoor

/- pyxref10: Laid. -/
import Derived.Test.YtobldbodafaajaaGreatDoorRefHash10
import Derived.Test.YtobldbodafaajaaGreatDoorHashPl10
set_option linter.unusedVariables false
set_option linter.unusedSimpArgs false
namespace Go.Proofs.YtobldbodafaajaaGreatDoor
open Go.RowKit

/-- The steps of Laid from the root down to the m-th node of the path. -/
def layG (t : List Nod) (i m : Nat) : List Nod × List UInt8 := ((pathT t i).drop m).reverse.foldl (layS i) (t, [])
theorem layG_top {t : List Nod} {i m : Nat} (h : (pathT t i).length ≤ m) : layG t i m = (t, []) := by
  unfold layG
  rw [List.drop_of_length_le h]
  rfl
theorem layG_step {t : List Nod} {i m : Nat} (h : m < (pathT t i).length) : layG t i m = layS i (layG t i (m + 1)) ((pathT t i).getD m 0) := by
  unfold layG
  rw [List.drop_eq_getElem_cons h, List.reverse_cons, List.foldl_append, List.getD_eq_getElem?_getD, List.getElem?_eq_getElem h]
  rfl
theorem layG_zero (t : List Nod) (i : Nat) : layG t i 0 = layD t i := by
  unfold layG layD
  rw [List.drop_zero]
theorem layG_keeps {t : List Nod} {K i : Nat} (hT : TidyT t K) (hi : i < 2 ^ K) (m : Nat) : TidyT (layG t i m).1 K ∧ (layG t i m).1.length = t.length ∧ ((layG t i m).2.length = 0 ∨ (layG t i m).2.length = 32) := by
  obtain ⟨q1, q2, q3⟩ := path_in hT.le hT.len hi
  obtain ⟨a, b, c, _⟩ := layF_keeps (t := t) (i := i) ((pathT t i).drop m).reverse (t, []) (fun x hx => by
    obtain ⟨j, hj, rfl⟩ := List.getElem_of_mem (List.mem_of_mem_drop (List.mem_reverse.1 hx))
    have := q2 j hj
    rwa [List.getD_eq_getElem?_getD, List.getElem?_eq_getElem hj] at this) hT rfl (.inl rfl)
  exact ⟨a, b, c⟩

set_option maxHeartbeats 1000000 in
theorem laid10_no (u : Value) (t : List Nod) (K : Nat) (i : Int) (w : World) (hT : TidyT t K) (hu : NL w u t) (hn : ¬ thereP t i) :
    Calls Tryz.prog 16 #[u, .int .i64 i] w fun e w' => e = .returned (.tuple #[u, .int .i64 11]) ∧ Kp w w' := by
  have hl : t.length ≤ 100000 := by have := hT.len; have := p2_le hT.le; have := p2_succ K; omega
  have HL := Lib.hid (refLvs_any u t w hu hl)
  have hlm := lvs_max (t := t) hl
  obtain ⟨a, c, rfl, p1, s1⟩ := hu.shape
  by_cases h0 : 0 ≤ i
  · obtain ⟨k, rfl⟩ := Int.eq_ofNat_of_zero_le h0
    by_cases h1 : k < lvs t
    · have hk2 := lvs_two h1
      obtain ⟨b, off, rfl, hb, hc⟩ := hu.at (2 * k) hk2
      obtain ⟨p, q, h, hnn⟩ := hc (2 * k) hk2
      have c1 := hnn.kind
      have i2 : IntKind.i64.wrap (2 * (k : Int)) = ((2 * k : Nat) : Int) := by rw [IntWalk.i64_in _ (by omega)]; omega
      have i3 : ((2 * k : Nat) : Int) < (t.length : Int) := by omega
      have i4 : (k : Int) < ((lvs t : Nat) : Int) := by omega
      have hx : ¬ (ats t (2 * k)).kind = 1 := fun hx => hn ⟨by omega, by omega, by rw [Int.toNat_natCast]; exact hx⟩
      generalize (ats t (2 * k)).kind = X at *
      generalize lvs t = L at *
      generalize t.length = N at *
      generalize 2 * k = K2 at *
      have hxb : (X == 1) = false := beq_eq_false_iff_ne.2 hx
      have hxb2 : (X != 1) = true := bne_iff_ne.2 hx
      clear hc hnn hu hb hk2 hn hT
      go_enter Tryz.func16, Tryz.ntmps16
      go_wp2_with fail
      refine HL.out.mono ?_; rintro _ _ ⟨rfl, rfl⟩
      go_wp2_with fail
      go_ret2
      exact ⟨rfl, Kp.refl _⟩
    · have i4 : ¬ (k : Int) < ((lvs t : Nat) : Int) := by omega
      generalize lvs t = L at *
      generalize t.length = N at *
      clear hu hn hT
      go_enter Tryz.func16, Tryz.ntmps16
      go_wp2_with fail
      refine HL.out.mono ?_; rintro _ _ ⟨rfl, rfl⟩
      go_wp2_with fail
      go_ret2
      exact ⟨rfl, Kp.refl _⟩
  · generalize t.length = N at *
    clear hu HL hlm hl hn hT
    go_enter Tryz.func16, Tryz.ntmps16
    go_wp2_with fail
    go_ret2
    exact ⟨rfl, Kp.refl _⟩

theorem hash_unl {t : List Nod} {K : Nat} (h : TidyT t K) (x : Nat) : (ats t x).un.length ≤ 100000 := by have := (h.node x).unl; omega
set_option maxHeartbeats 4000000 in
theorem laid10_yes (u : Value) (t : List Nod) (K i : Nat) (w : World) (hT : TidyT t K) (hu : NL w u t) (hi : i < 2 ^ K) (hk1 : (ats t (2 * i)).kind = 1) :
    Calls Tryz.prog 16 #[u, .int .i64 (i : Int)] w fun e w' => (∃ r, e = .returned (.tuple #[r, .int .i64 0]) ∧ NL w' r ((layD t i).1.set (2 * i) (hashN (ats (layD t i).1 (2 * i)) (layD t i).2))) ∧ Kp w w' := by
  have S := s5nodes
  have hK := hT.le
  have hl := hT.len
  have hp := p2_le hK
  have hp2 := p2_succ K
  have hp1 := p2_pos K
  obtain ⟨q1, q2, q3⟩ := path_in hK hl hi
  have hl2 : t.length ≤ 100000 := by omega
  have HL := Lib.hid (refLvs_any u t w hu hl2)
  have HLW := Lib.hid (fun W (hW : Kp w W) => refLvs_any u t W (hu.kp hW) hl2)
  have hlv : i < lvs t := by unfold lvs; omega
  obtain ⟨e1, e2⟩ := path_eq hK hl hi
  have HP : Hid (∀ W, Calls Tryz.prog 21 #[.int .i64 (2 * (i : Int)), .int .i64 ((lvs t : Nat) : Int)] W fun e w' => (∃ v, e = .returned (.tuple #[v, .int .i64 0]) ∧ ON 3 w' W.heap.size v (pathT t i)) ∧ Kp W w') := fun W => by
    have := refPath_own (2 * (i : Int)) ((lvs t : Nat) : Int) W (by have := lvs_max hl2; omega)
    rwa [e1, e2] at this
  have HA := Lib.hid (fun (v : Value) (hv : ∀ g, v.ownBlock = some g → w.heap.size ≤ g) (W : World) (hW : Kp w W) => hu.apart (v := v) hW hv)
  have HG0 : Hid (layG t i K = (t, [])) := layG_top (by rw [q3]; exact Nat.le_refl _)
  have HGS : Hid (∀ m, m < K → layG t i m = layS i (layG t i (m + 1)) ((pathT t i).getD m 0)) := fun m hm => layG_step (by rw [q3]; exact hm)
  have HGK := Lib.hid (fun m => layG_keeps hT hi m)
  have HQ2 : Hid (∀ m, m < K → (pathT t i).getD m 0 < t.length) := fun m hm => q2 m (by rw [q3]; exact hm)
  have HGD := Lib.hid (fun k h => getD_map_int (pathT t i) k h)
  have HML : Hid (((pathT t i).map fun (n : Nat) => (n : Int)).length = K) := by unfold Hid; rw [List.length_map, q3]
  rw [← layG_zero t i]
  have hk2 : 2 * i < t.length := by omega
  obtain ⟨b, off, c, p, uu, hh, rfl, hn⟩ := hu.node hk2
  have c1 := hn.kind
  rw [hk1] at c1
  obtain ⟨z1, z2, z3⟩ : t.length ≤ 2047 ∧ 0 < t.length ∧ t.length ≤ 1000000 := by omega
  have i2 : IntKind.i64.wrap (2 * (i : Int)) = 2 * (i : Int) := IntWalk.i64_in _ (by omega)
  have i3 : 2 * (i : Int) < (t.length : Int) := by omega
  have i4 : (i : Int) < ((lvs t : Nat) : Int) := by omega
  have i5 : (2 * (i : Int)).toNat = 2 * i := by omega
  generalize layG t i = G at *
  rw [q3] at HGD
  have HU := Lib.hid hu
  generalize hPI : (pathT t i).map (fun (n : Nat) => (n : Int)) = PI at *
  have HPI : Hid ((pathT t i).map (fun (n : Nat) => (n : Int)) = PI) := hPI
  generalize pathT t i = PT at *
  generalize lvs t = L at *
  obtain ⟨N, hN⟩ : ∃ N, t.length = N := ⟨_, rfl⟩
  have HN := Lib.hid hN
  rw [hN] at HGK HQ2 HL HLW HU HA hk2 z1 z2 z3 i3 ⊢
  clear hu hn hl hN e1 e2 q1 q2 q3 hK hp hp1 hp2 hl2 hk1 hPI hi
  go_enter Tryz.func16, Tryz.ntmps16
  go_wp2_with fail
  refine HL.out.mono ?_; rintro _ _ ⟨rfl, rfl⟩
  go_wp2_with (at_builtin; refine wpList_append_nodes S rfl _ _ rfl w.heap.size _ [] rfl (NO.empty 37 w) _ t rfl (HA.out _ (fun g hg => by cases hg; exact Nat.le_refl _) _ ((Kp.refl _).alloc _)) (by have := HN.out; simp; omega) (by simp) ?_; intro v1 w1 o1 g1 _; have k1 : Kp w w1 := Kp.grown ((Kp.refl _).alloc _) g1 (fun k hk => by cases hk; exact Nat.le_refl _); rw [List.nil_append] at o1)
  obtain ⟨gb, cb, rfl, b1, b2, b3, b4, _⟩ := o1.form (by have := HN.out; omega)
  rw [HN.out] at o1 b3 ⊢
  have O1 := Lib.hid (And.intro o1 k1)
  clear o1 g1 k1 HL HA c1
  go_wp2_with fail
  refine (HLW.out _ O1.out.2).mono ?_; rintro _ _ ⟨rfl, rfl⟩
  clear HLW
  go_wp2_with fail
  refine (HP.out _).mono ?_; rintro _ w2 ⟨⟨pv, rfl, o2⟩, k2⟩
  have HAP : Hid (Apart (.slice (some ⟨gb, 0, none⟩) N cb) pv) := o2.oi.apart (fun g hg => by cases hg; exact b2)
  have r2 := o2.oi.ri
  rw [HPI.out] at r2
  obtain ⟨ap, cp, e2, p2, s2⟩ := r2.shape
  subst e2
  rw [HML.out] at r2 p2 HAP ⊢
  have HR2 := Lib.hid r2
  have HO := Lib.hid (O1.out.1.kp k2)
  have HK := Lib.hid (O1.out.2.trans k2)
  have b2w := Nat.lt_of_lt_of_le b2 k2.size
  clear HP O1 o2 r2 k2
  go_wp2_with fail
  have hi1 : IntKind.i64.wrap ((K : Int) - 1) = (K : Int) - 1 := IntWalk.i64_in _ (by have := hT.le; omega)
  go_loopw [9, 10] (fun x kv wr => ∃ m : Nat, m ≤ K ∧ kv = .int .i64 ((m : Int) - 1) ∧ Rd wr x (G m).2 ∧ Apart (.slice (some ⟨gb, 0, none⟩) N cb) x ∧ NO 37 wr w.heap.size (.slice (some ⟨gb, 0, none⟩) N cb) (G m).1 ∧ RI wr (.slice ap K cp) PI ∧ Kp w wr ∧ gb < wr.heap.size) (fun _ kv _ => (intOf kv + 1).toNat)
  case atStart => exact ⟨K, Nat.le_refl _, congrArg _ (IntWalk.wrap64_in _ (by have := hT.le; omega)), by rw [HG0.out]; exact rd_nil9 _, Apart.nil _ _ _, by rw [HG0.out]; exact HO.out, HR2.out, HK.out, b2w⟩
  case round =>
    obtain ⟨m, hm, rfl, hrd, hax, ho, hri, hkp, hgb⟩ := hrel
    have HRD := Lib.hid (And.intro hrd hax)
    have HOO := Lib.hid ho
    have HRR := Lib.hid hri
    have HKK := Lib.hid (And.intro hkp hgb)
    obtain ⟨tk1, tk2, tk3⟩ := HGK.out m
    have TK := Lib.hid tk1
    obtain ⟨xt, nt, xct, rfl⟩ := rd_sl9 hrd
    cases m with
    | zero =>
      obtain ⟨gb', cb', ee, _, _, _, _, hat⟩ := ho.form (by omega)
      rw [tk2] at ee hat
      simp only [Value.slice.injEq, Option.some.injEq, Addr.mk.injEq] at ee
      obtain ⟨⟨rfl, _, _⟩, _, rfl⟩ := ee
      obtain ⟨p, q, hh, hn, a1, a2, a3⟩ := hat (2 * i) hk2
      have HN1 := Lib.hid hn.2
      have HNAT := Lib.hid hn
      have HAA := Lib.hid (And.intro a1 a2)
      have c0 := hn.kind
      have c1 := hn.name
      have c2 := hn.pubC
      have c3 := hn.unC
      have c4 := hn.hashC
      obtain ⟨xp, np, xcp, rfl⟩ := rd_sl9 hn.2.pub
      obtain ⟨xq, nq, xcq, rfl⟩ := hn.2.un.sl
      obtain ⟨xh, nh, xch, rfl⟩ := rd_sl9 hn.2.hash
      have HTL := Lib.hid tk2
      clear HGS HGK HQ2 HGD HG0 HO HR2 HK hrd hax ho hri hkp hat hn a1 a2 tk1 tk3 tk2 TK HRR HAP a3
      obtain ⟨X, hX⟩ : ∃ X, 2 * i = X := ⟨_, rfl⟩
      have HX := Lib.hid hX
      have i2x : IntKind.i64.wrap (2 * (i : Int)) = (X : Int) := by rw [i2]; omega
      have i3x : (X : Int) < (N : Int) := by omega
      have i0 : ((0 : Nat) : Int) - 1 = -1 := rfl
      rw [hX] at c0 c1 c2 c3 c4 HN1 hk2 ⊢
      rw [i0]
      clear i2 i3 i5 hX HNAT
      go_wp2_with (refine wpList_store_node infoNode5 rfl rfl (.tmp 100) (.tmp 99) rfl w.heap.size gb cb N (G 0).1 (HOO.out.kp ((Kp.refl _).alloc _)) X (by rw [HTL.out]; exact hk2) (hashN (ats (G 0).1 X) (G 0).2) (.slice xp np xcp) (.slice xq nq xcq) (.slice xt nt xct) rfl rfl ⟨HN1.out.pub.kp ((Kp.refl _).alloc _), HN1.out.un.kp ((Kp.refl _).alloc _), HRD.out.1.kp ((Kp.refl _).alloc _)⟩ HAA.out.1 HAA.out.2 HRD.out.2 ?_; intro w5 o5 g5)
      have K5 := Lib.hid (Kp.grown (v := .slice (some ⟨gb, 0, none⟩) N cb) (HKK.out.1.alloc _) g5 (fun k hk => by cases hk; exact b1))
      have O5 := Lib.hid o5.nl
      clear o5 g5 c0 c1 c2 c3 c4 HN1 HAA HRD HOO HKK
      go_wp2_with fail
      go_ret2
      exact ⟨⟨_, rfl, by rw [HX.out]; exact O5.out⟩, K5.out⟩
    | succ m =>
      have hlt : m < K := by omega
      obtain ⟨g1, o1, rfl, _, hc1⟩ := hri.at m hlt
      have h1 := hc1 m hlt
      rw [HGD.out m hlt] at h1
      have HGD1 := Lib.hid (HGD.out m hlt)
      have hin := HQ2.out m hlt
      have HT1 := HGS.out m hlt
      have i1 : IntKind.i64.wrap ((m : Int) + 1 - 1) = (m : Int) := by rw [IntWalk.i64_in _ (by have := hT.le; omega)]; omega
      have i6 : ((m : Int) + 1 - 1) = (m : Int) := by omega
      have i7 : ((PT.getD m 0 : Nat) : Int) < (N : Int) := by omega
      have i8 : (m : Int) < (K : Int) := by omega
      have i9 : IntKind.i64.wrap ((m : Int) - 1) = (m : Int) - 1 := IntWalk.i64_in _ (by have := hT.le; omega)
      obtain ⟨gb', cb', ee, _, _, _, _, hat⟩ := ho.form (by omega)
      rw [tk2] at ee hat
      simp only [Value.slice.injEq, Option.some.injEq, Addr.mk.injEq] at ee
      obtain ⟨⟨rfl, _, _⟩, _, rfl⟩ := ee
      obtain ⟨p, q, hh, hn, a1, a2, a3⟩ := hat (PT.getD m 0) hin
      have c0 := hn.kind
      have c1 := hn.name
      have c2 := hn.pubC
      have c3 := hn.unC
      have c4 := hn.hashC
      have HN1 := Lib.hid hn.2
      have HNAT := Lib.hid hn
      have HAA := Lib.hid (And.intro a1 a2)
      obtain ⟨xp, np, xcp, rfl⟩ := rd_sl9 hn.2.pub
      obtain ⟨xq, nq, xcq, rfl⟩ := hn.2.un.sl
      obtain ⟨xh, nh, xch, rfl⟩ := rd_sl9 hn.2.hash
      have HTL := Lib.hid tk2
      have TKm := Lib.hid (HGK.out m)
      clear HGS HGK HQ2 HGD HG0 HO HR2 HK hrd hax ho hri hkp hat hn a1 a2 a3 tk1 tk3 hc1 tk2
      generalize PT.getD m 0 = X at *
      have i0 : ((m + 1 : Nat) : Int) - 1 = (m : Int) := by omega
      rw [i0]
      by_cases hkd : (ats (G (m + 1)).1 X).kind = 2
      · have e9 : G m = ((G (m + 1)).1.set X (hashN (ats (G (m + 1)).1 X) (G (m + 1)).2), aboV ((G (m + 1)).1.set X (hashN (ats (G (m + 1)).1 X) (G (m + 1)).2)) (X : Int) (if X < 2 * i then 1 else 0)) := by rw [HT1]; exact if_pos hkd
        have e91 : (G m).1 = (G (m + 1)).1.set X (hashN (ats (G (m + 1)).1 X) (G (m + 1)).2) := by rw [e9]
        have e92 : (G m).2 = aboV (G m).1 (X : Int) (if X < 2 * i then 1 else 0) := by rw [e91, e9]
        have E91 := Lib.hid e91
        have E92 := Lib.hid e92
        have HKD := Lib.hid hkd
        rw [hkd] at c0
        obtain ⟨NM, hNM⟩ : ∃ NM, (ats (G (m + 1)).1 X).name = NM := ⟨_, rfl⟩
        have HNM := Lib.hid hNM
        rw [hNM] at c1
        clear HT1 e9 e91 e92 hkd hNM
        go_wp2_with fail
        have bx := Bx.new wr 37 #[.int .i64 2, .int .i64 NM, .slice xp np xcp, .slice xq nq xcq, .slice xt nt xct]
        have HK4 : Hid (Kp wr (wr.alloc (.cells #[.int .i64 2, .int .i64 NM, .slice xp np xcp, .slice xq nq xcq, .slice xt nt xct] 37))) := (Kp.refl _).alloc _
        obtain ⟨W4, hW4⟩ : ∃ W4, wr.alloc (.cells #[.int .i64 2, .int .i64 NM, .slice xp np xcp, .slice xq nq xcq, .slice xt nt xct] 37) = W4 := ⟨_, rfl⟩
        rw [hW4] at bx HK4 ⊢
        obtain ⟨d0, d1, d2, d4, d5⟩ : _ ∧ _ ∧ _ ∧ _ ∧ _ := ⟨bx.cell 0, bx.cell 1, bx.cell 2, bx.cell 3, bx.cell 4⟩
        have HO4 := HOO.out.kp HK4.out
        have hl2 := HK4.out.cell h1
        have hth := HO4.there X (by rw [HTL.out]; exact hin)
        have j0 := (hth 0 (by omega)).2
        have j1 := (hth 1 (by omega)).2
        have j2 := (hth 2 (by omega)).2
        have j3 := (hth 3 (by omega)).2
        have j4 := (hth 4 (by omega)).2
        rw [Nat.add_zero] at j0
        obtain ⟨q0, q1, q2, q3, q4⟩ : _ ∧ _ ∧ _ ∧ _ ∧ _ := ⟨HK4.out.cell c0, HK4.out.cell c1, HK4.out.cell c2, HK4.out.cell c3, HK4.out.cell c4⟩
        have hst := HO4.stored X (by rw [HTL.out]; exact hin) (hashN (ats (G (m + 1)).1 X) (G (m + 1)).2) (.slice xp np xcp) (.slice xq nq xcq) (.slice xt nt xct) ⟨HN1.out.pub.kp HK4.out, HN1.out.un.kp HK4.out, HRD.out.1.kp HK4.out⟩ HAA.out.1 HAA.out.2 HRD.out.2
        rw [← E91.out] at hst
        have hnc : nodC (hashN (ats (G (m + 1)).1 X) (G (m + 1)).2) (.slice xp np xcp) (.slice xq nq xcq) (.slice xt nt xct) = [.int .i64 2, .int .i64 NM, .slice xp np xcp, .slice xq nq xcq, .slice xt nt xct] := by
          rw [← HNM.out, ← HKD.out]; rfl
        rw [hnc] at hst
        have HST := Lib.hid hst
        have HKF := Lib.hid (And.intro (HKK.out.1.trans HK4.out) HK4.out.size)
        have HRI := Lib.hid (HRR.out.kp HK4.out)
        clear hth hst hnc HO4 hW4 h1 c0 c1 c2 c3 c4 HN1 HNAT HAA HRD HOO HRR HKD HNM bx TK E91
        go_region
        clear d0 d1 d2 d4 d5 hl2 j0 j1 j2 j3 j4 q0 q1 q2 q3 q4
        have hfin := HST.out
        obtain ⟨W3, hW3⟩ : ∃ W3, W4.setCells gb (X * 5) [.int .i64 2, .int .i64 NM, .slice xp np xcp, .slice xq nq xcq, .slice xt nt xct] = W3 := ⟨_, rfl⟩
        have hW6 : ((((W4.setCell ⟨gb, X * 5, none⟩ (.int .i64 2)).setCell ⟨gb, X * 5 + 1, none⟩ (.int .i64 NM)).setCell ⟨gb, X * 5 + 2, none⟩ (.slice xp np xcp)).setCell ⟨gb, X * 5 + 3, none⟩ (.slice xq nq xcq)).setCell ⟨gb, X * 5 + 4, none⟩ (.slice xt nt xct) = W3 := hW3
        rw [hW3] at hfin
        rw [hW6]
        have r5 := (HRI.out.grown9 (v := .slice (some ⟨gb, 0, none⟩) N cb) hfin.2 HAP.out).kp (kp_drew10 W3)
        have k5 : Kp w W3.drew := (Kp.grown (v := .slice (some ⟨gb, 0, none⟩) N cb) HKF.out.1 hfin.2 (fun k hk => by cases hk; exact b1)).trans (kp_drew10 W3)
        have b5 : gb < W3.drew.heap.size := by
          have h1 := hfin.2.size
          have h2 := HKF.out.2
          have h3 := (kp_drew10 W3).size
          omega
        have O5 := Lib.hid (hfin.1.kp (kp_drew10 W3))
        clear hfin HST HRI HKF HK4 hW6 hW3
        generalize W3.drew = W5 at *
        obtain ⟨_, _, e55, _, hc5⟩ := r5.at m hlt
        simp only [Option.some.injEq, Addr.mk.injEq, and_true] at e55
        obtain ⟨rfl, rfl⟩ := e55
        have h5 := hc5 m hlt
        have K5 := Lib.hid k5
        have R5 := Lib.hid r5
        have HAB : Hid (∀ side : Int, Calls Tryz.prog 11 #[.slice (some ⟨gb, 0, none⟩) N cb, .int .i64 (X : Int), .int .i64 side] W5 fun e w' => (∃ r, e = .returned (.tuple #[r, .int .i64 (aboE (G m).1 (X : Int) side)]) ∧ Ow 5 w' W5.heap.size r (aboV (G m).1 (X : Int) side)) ∧ Kp W5 w') := fun side => refAbove_own _ _ K (X : Int) side W5 TKm.out.1 O5.out.nl
        clear hc5 r5 k5
        rw [HGD1.out] at h5
        by_cases hsd : X < 2 * i
        · have hsd1 : (X : Int) < 2 * (i : Int) := by omega
          have HE92 : Hid ((G m).2 = aboV (G m).1 (X : Int) 1) := by have := E92.out; rw [if_pos hsd] at this; exact this
          have HAB1 := Lib.hid (HAB.out 1)
          clear HAB E92
          generalize aboE (G m).1 (X : Int) 1 = AE at *
          go_wp2_with fail
          refine HAB1.out.mono ?_; rintro _ w6 ⟨⟨r6, rfl, o6⟩, k6⟩
          have HA6 : Hid (Apart (.slice (some ⟨gb, 0, none⟩) N cb) r6) := fun g hg x n c e h0 he => by
            have h1 : gb = g := by cases hg; rfl
            have := o6.own_ge x.block (by rw [e]; rfl)
            omega
          have O6 := Lib.hid o6.rd
          have K6 := Lib.hid k6
          obtain ⟨a6, n6, c6, rfl⟩ := rd_sl9 o6.rd
          clear o6 k6 HAB1
          go_wp2_with fail
          go_roundw
          case rel => exact ⟨m, by omega, by go_num, by rw [HE92.out]; exact O6.out, HA6.out, O5.out.kp K6.out, R5.out.kp K6.out, K5.out.trans K6.out, Nat.lt_of_lt_of_le b5 K6.out.size⟩
          case measure => simp [intOf] <;> omega
        · have hsd1 : ¬ (X : Int) < 2 * (i : Int) := by omega
          have HE92 : Hid ((G m).2 = aboV (G m).1 (X : Int) 0) := by have := E92.out; rw [if_neg hsd] at this; exact this
          have HAB1 := Lib.hid (HAB.out 0)
          clear HAB E92
          generalize aboE (G m).1 (X : Int) 0 = AE at *
          go_wp2_with fail
          refine HAB1.out.mono ?_; rintro _ w6 ⟨⟨r6, rfl, o6⟩, k6⟩
          have HA6 : Hid (Apart (.slice (some ⟨gb, 0, none⟩) N cb) r6) := fun g hg x n c e h0 he => by
            have h1 : gb = g := by cases hg; rfl
            have := o6.own_ge x.block (by rw [e]; rfl)
            omega
          have O6 := Lib.hid o6.rd
          have K6 := Lib.hid k6
          obtain ⟨a6, n6, c6, rfl⟩ := rd_sl9 o6.rd
          clear o6 k6 HAB1
          go_wp2_with fail
          go_roundw
          case rel => exact ⟨m, by omega, by go_num, by rw [HE92.out]; exact O6.out, HA6.out, O5.out.kp K6.out, R5.out.kp K6.out, K5.out.trans K6.out, Nat.lt_of_lt_of_le b5 K6.out.size⟩
          case measure => simp [intOf] <;> omega
      · have e9 : G m = G (m + 1) := by rw [HT1]; exact if_neg hkd
        have hkb2 : ((ats (G (m + 1)).1 X).kind == 2) = false := beq_eq_false_iff_ne.2 hkd
        have HE9 := Lib.hid e9
        generalize (ats (G (m + 1)).1 X).kind = KD at *
        generalize (ats (G (m + 1)).1 X).name = NM at *
        clear HT1 e9
        go_wp2_with fail
        go_roundw
        case rel => exact ⟨m, by omega, by go_num, by rw [HE9.out]; exact HRD.out.1.kp ((Kp.refl _).alloc _), HRD.out.2, by rw [HE9.out]; exact HOO.out.kp ((Kp.refl _).alloc _), HRR.out.kp ((Kp.refl _).alloc _), HKK.out.1.alloc _, by simp; have := HKK.out.2; omega⟩
        case measure => simp [intOf] <;> omega
theorem refLaid_any (u : Value) (t : List Nod) (K : Nat) (i : Int) (w : World) (hT : TidyT t K) (hu : NL w u t) :
    Calls Tryz.prog 16 #[u, .int .i64 i] w fun e w' => (∃ r, e = .returned (.tuple #[r, .int .i64 (layE t i)]) ∧ NL w' r (layV t i)) ∧ Kp w w' := by
  by_cases h : thereP t i
  · have e1 : layE t i = 0 := if_pos h
    have e2 : layV t i = (layD t i.toNat).1.set (2 * i.toNat) (hashN (ats (layD t i.toNat).1 (2 * i.toNat)) (layD t i.toNat).2) := if_pos h
    rw [e1, e2]
    obtain ⟨h0, h1, h2⟩ := h
    obtain ⟨k, rfl⟩ := Int.eq_ofNat_of_zero_le h0
    rw [Int.toNat_natCast] at *
    refine laid10_yes u t K k w hT hu ?_ h2
    have h3 := hT.len
    have h4 := p2_succ K
    have h5 := p2_pos K
    unfold lvs at h1
    omega
  · have e1 : layE t i = 11 := if_neg h
    have e2 : layV t i = t := if_neg h
    rw [e1, e2]
    refine (laid10_no u t K i w hT hu h).mono ?_
    rintro e w' ⟨rfl, hk⟩
    exact ⟨⟨u, rfl, hu.kp hk⟩, hk⟩
end Go.Proofs.YtobldbodafaajaaGreatDoor

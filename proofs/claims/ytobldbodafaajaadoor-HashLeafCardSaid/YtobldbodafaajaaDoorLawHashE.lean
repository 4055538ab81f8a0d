/- HashLeaf. -/
import Derived.Test.YtobldbodafaajaaDoorShownHash
import Derived.Test.YtobldbodafaajaaDoorRefTree9
import Derived.Test.YtobldbodafaajaaDoorMathRef9
import Derived.Test.YtobldbodafaajaaDoorHashPl10
import Derived.Test.YtobldbodafaajaaDoorHashChosen
import Derived.Test.YtobldbodafaajaaDoorTreeRow10
import Derived.Deep.RegionHeld3
set_option linter.unusedVariables false
set_option linter.unusedSimpArgs false
namespace Go.Proofs.YtobldbodafaajaaDoor
open Go.RowKit

/-- The world in which the changed leaf is about to be laid. -/
theorem leaf_last {e eb : TypeId} {w3 w6 : World} {o : Obj} {B gU cU N gP cP : Nat} {t : List Nod} {pub : List UInt8} {un : List Int} {hash : List UInt8} {vu vh : Value} (hu : RI w3 vu un) (hh : Rd w3 vh hash) (hO : NO e w3 B (.slice (some ⟨gU, 0, none⟩) N cU) t)
    (h6 : Ow eb w6 (w3.heap.size + 1) (.slice (some ⟨gP, 0, none⟩) 32 cP) pub) (b : UInt8) (k7 : Kp (w3.alloc o) (w6.setCell ⟨gP, 0, none⟩ (.int .u8 (b.toNat : Int)))) (hg : w3.heap.size + 1 ≤ gP) (v : Value) :
    NO e ((w6.setCell ⟨gP, 0, none⟩ (.int .u8 (b.toNat : Int))).setCell ⟨w3.heap.size, 2, none⟩ v) B (.slice (some ⟨gU, 0, none⟩) N cU) t ∧
    Rd ((w6.setCell ⟨gP, 0, none⟩ (.int .u8 (b.toNat : Int))).setCell ⟨w3.heap.size, 2, none⟩ v) (.slice (some ⟨gP, 0, none⟩) 32 cP) (pub.set 0 b) ∧
    RI ((w6.setCell ⟨gP, 0, none⟩ (.int .u8 (b.toNat : Int))).setCell ⟨w3.heap.size, 2, none⟩ v) vu un ∧
    Rd ((w6.setCell ⟨gP, 0, none⟩ (.int .u8 (b.toNat : Int))).setCell ⟨w3.heap.size, 2, none⟩ v) vh hash ∧
    Kp w3 ((w6.setCell ⟨gP, 0, none⟩ (.int .u8 (b.toNat : Int))).setCell ⟨w3.heap.size, 2, none⟩ v) := by
  have k : Kp w3 ((w6.setCell ⟨gP, 0, none⟩ (.int .u8 (b.toNat : Int))).setCell ⟨w3.heap.size, 2, none⟩ v) := (((Kp.refl w3).alloc o).trans k7).setNew (Nat.le_refl _) v
  refine ⟨hO.kp k, (h6.put (k := 0) b).rd.stepF (Y := fun k => k = w3.heap.size) ((Step.refl _ _).setCell _ _ (.inr rfl)) (fun x n c e _ hk => ?_), hu.kp k, hh.kp k, k⟩
  simp only [Value.slice.injEq, Option.some.injEq] at e
  obtain ⟨rfl, _⟩ := e
  have : gP = w3.heap.size := hk
  omega
theorem may10e {t : List Nod} (h : smallP t 40 ∧ RightP t) : ∃ K, RightK t K ∧ TidyT t K := by
  obtain ⟨h1, K, h2⟩ := h
  exact ⟨K, h2, h2.tidy h1⟩
theorem nd_ne_leaf {i p j : Nat} (h : i ≠ 0 ∨ p ≠ j) : nd i p ≠ 2 * j := by
  cases i with
  | zero => rw [nd_leaf]; rcases h with h | h <;> omega
  | succ i => have := nd_odd i p; omega
/-- A digest at a node that a leaf isn't below. -/
theorem tre_leaf {t : List Nod} {K : Nat} (hr : RightK t K) {X j : Nat} (hX : X < t.length) (hj : 2 * j < t.length) (n : Nod) (h : (j : Int) < loV (X : Int) ∨ hiV (X : Int) < (j : Int) ∨ n = ats t (2 * j)) :
    treV (t.set (2 * j) n) (X : Int) = treV t (X : Int) := by
  have e1 : treE t (X : Int) = 0 := if_pos ⟨by omega, by omega⟩
  have e2 : treE (t.set (2 * j) n) (X : Int) = 0 := if_pos ⟨by omega, by rw [List.length_set]; omega⟩
  unfold treV
  rw [if_pos e1, if_pos e2, Int.toNat_natCast]
  obtain ⟨jj, q, rfl, hjj, hq⟩ := nd_of K X (by rw [← hr.len]; exact hX)
  obtain ⟨s1, s2, s3⟩ := nd_small hr.le hjj hq
  obtain ⟨l1, l2⟩ := lv_nd s2 s3
  rw [lev_nd jj q (by omega), qOf_nd jj q (by omega)]
  rcases h with h | h | h
  · refine digF_out [] (2 * j) n hj hjj hr.le fun i d e p hp => nd_ne_leaf ?_
    rw [l1] at h
    by_cases hi : i = 0
    · refine .inr fun hpj => ?_
      subst hi hpj
      have hd : d = jj := by omega
      subst hd
      have := Nat.div_mul_le_self p (2 ^ d)
      rw [hp, Nat.mul_comm] at this
      omega
    · exact .inl hi
  · refine digF_out [] (2 * j) n hj hjj hr.le fun i d e p hp => nd_ne_leaf ?_
    rw [l2] at h
    by_cases hi : i = 0
    · refine .inr fun hpj => ?_
      subst hi hpj
      have hd : d = jj := by omega
      subst hd
      have hp2 := p2_pos d
      have h3 := Nat.lt_mul_div_succ p hp2
      rw [hp, Nat.mul_add, Nat.mul_one] at h3
      omega
    · exact .inl hi
  · rw [h, set_same9 t (2 * j) hj]
theorem tre_len {t : List Nod} {X : Nat} (hX : X < t.length) : treE t (X : Int) = 0 ∧ (treV t (X : Int)).length = 32 := by
  have e1 : treE t (X : Int) = 0 := if_pos ⟨by omega, by omega⟩
  refine ⟨e1, ?_⟩
  unfold treV
  rw [if_pos e1]
  exact digF_len _ _ _ _
set_option maxRecDepth 100000 in
set_option maxHeartbeats 6000000 in
theorem hashLeaf_walk (vt : Value) (t : List Nod) (at9 i9 : Nat) (b : UInt8) (w : World) (ht : NL w vt t) (hat9 : at9 ≤ 255) (hi9 : i9 ≤ 255) (hTAB : Tab w) :
    Calls Tryd.prog 4 #[.agg #[vt, .int .u8 (at9 : Int), .int .u8 (i9 : Int), .int .u8 (b.toNat : Int)]] w (Yes w) := by
  have U := u8
  have S5n := s5nodes
  have HTAB := Lib.hid hTAB
  clear hTAB
  have HMAY := Lib.hid (fun W (hW : Kp w W) => refMayT_any vt t 40 W (ht.kp hW) (by omega))
  have HUS := Lib.hid (fun W (hW : Kp w W) (hl : t.length ≤ 100000) => refUsed_any vt t W (ht.kp hW) hl)
  have HLE := Lib.hid (fun W x => refLeaves_any x W)
  have HTR := Lib.hid (fun W (hW : Kp w W) K x (hr : RightK t K) (hd : TidyT t K) (hx : -9223372036854775808 ≤ x ∧ x ≤ 9223372036854775807) => hashTree_any vt t K x W hd hr (ht.kp hW) hx (HTAB.out.kp hW))
  have wn : IntKind.i64.wrap (i9 : Int) = (i9 : Int) := IntWalk.i64_in _ (by omega)
  have wa : IntKind.i64.wrap (at9 : Int) = (at9 : Int) := IntWalk.i64_in _ (by omega)
  have HT0 := Lib.hid ht
  obtain ⟨aa, ca, rfl, _, _⟩ := ht.shape
  clear ht
  go_enter Tryd.func4, Tryd.ntmps4
  go_wp2_with fail
  refine (shownHash_any _ (HTAB.out.kp ((Kp.refl _).alloc _))).mono ?_
  rintro _ w0 ⟨rfl, k0⟩
  have KK : Hid (Kp w w0) := ((Kp.refl _).alloc _).trans k0
  clear k0
  go_wp2_with fail
  refine (HMAY.out _ KK.out).mono ?_
  rintro _ w1 ⟨⟨bA, rfl, hA⟩, k1⟩
  have KK := Lib.hid (KK.out.trans k1)
  clear k1
  cases bA
  · clear hA
    go_wp2_with fail
    go_ret
    exact ⟨rfl, KK.out⟩
  · obtain ⟨K, hr, hd⟩ := may10e (hA.1 rfl)
    clear hA HMAY
    obtain ⟨hz1, hz2, hz3⟩ := hr.small
    obtain ⟨f1, f2, f3, j, f4, f5, f6, f7, f8, f9⟩ := leaf_facts hr hd i9
    have hX : at9 % t.length < t.length := Nat.mod_lt _ hz3
    have HUS2 := Lib.hid (fun W (hW : Kp w W) => HUS.out W hW (by omega))
    have HTR2 := Lib.hid (fun W (hW : Kp w W) => HTR.out W hW K ((at9 % t.length : Nat) : Int) hr hd (by omega))
    have hULM : ((usedL t).map fun (n : Nat) => (n : Int)).length = (usedL t).length := List.length_map ..
    have itm : ((i9 : Int)).tmod ((usedL t).length : Int) = ((i9 % (usedL t).length : Nat) : Int) := by rw [Int.tmod_eq_emod_of_nonneg (by omega)]; omega
    have iw : IntKind.i64.wrap ((i9 % (usedL t).length : Nat) : Int) = ((i9 % (usedL t).length : Nat) : Int) := IntWalk.i64_in _ (by omega)
    have hne : (((usedL t).length : Int) == 0) = false := beq_eq_false_iff_ne.2 (by omega)
    have hne2 : ¬ ((usedL t).length : Int) = 0 := by omega
    have hilI : ((i9 % (usedL t).length : Nat) : Int) < ((usedL t).length : Int) := by omega
    have atm : ((at9 : Int)).tmod (t.length : Int) = ((at9 % t.length : Nat) : Int) := by rw [Int.tmod_eq_emod_of_nonneg (by omega)]; omega
    have aw : IntKind.i64.wrap ((at9 % t.length : Nat) : Int) = ((at9 % t.length : Nat) : Int) := IntWalk.i64_in _ (by omega)
    have hna : ((t.length : Int) == 0) = false := beq_eq_false_iff_ne.2 (by omega)
    have hna2 : ¬ (t.length : Int) = 0 := by omega
    have i2 : IntKind.i64.wrap (2 * (j : Int)) = ((2 * j : Nat) : Int) := by rw [IntWalk.i64_in _ (by omega)]; omega
    have HLN : Hid (t.length ≤ 1000000) := by unfold Hid; omega
    -- what the tree with the leaf changed is
    have hpl : ((ats t (2 * j)).pub.set 0 b).length = 32 := by rw [List.length_set]; exact f8
    have hru := hr.pubbed (2 * j) hpl f6 (by rw [f5]; decide)
    have hdu := hd.pubbed (2 * j) (p := (ats t (2 * j)).pub.set 0 b) (by omega) f6
    have HTRU := Lib.hid (fun W (hW : Kp w W) u (hu : NL W u (t.set (2 * j) (pubN (ats t (2 * j)) ((ats t (2 * j)).pub.set 0 b)))) => hashTree_any u _ K ((at9 % t.length : Nat) : Int) W hdu hru hu (by omega) (HTAB.out.kp hW))
    have e1 := tre_len hX
    have e2 : treE (t.set (2 * j) (pubN (ats t (2 * j)) ((ats t (2 * j)).pub.set 0 b))) ((at9 % t.length : Nat) : Int) = 0 := (tre_len (t := t.set (2 * j) (pubN (ats t (2 * j)) ((ats t (2 * j)).pub.set 0 b))) (by rw [List.length_set]; exact hX)).1
    have HTL := Lib.hid (fun h => tre_leaf hr hX f6 (pubN (ats t (2 * j)) ((ats t (2 * j)).pub.set 0 b)) h)
    rw [e1.1] at HTR2
    rw [e2] at HTRU
    have HVL := Lib.hid e1.2
    generalize hIX : i9 % (usedL t).length = IX at *
    generalize ((usedL t).map fun (n : Nat) => (n : Int)) = UT at *
    obtain ⟨UL, hUL⟩ : ∃ UL, (usedL t).length = UL := ⟨_, rfl⟩
    rw [hUL] at f1 f2 f3 hULM itm hne hne2 hilI
    obtain ⟨N, hN⟩ : ∃ N, t.length = N := ⟨_, rfl⟩
    rw [hN] at HUS2 HTR2 HT0 HTRU HTL HVL hX atm aw hna hna2 f6 ⊢
    generalize hXX : at9 % N = X at *
    obtain ⟨J2, hJ2⟩ : ∃ J2, 2 * j = J2 := ⟨_, rfl⟩
    rw [hJ2] at HTRU HTL i2 f5 f6 f8 f9 hpl
    have hXI : (X : Int) < (N : Int) := by omega
    have hJI : (J2 : Int) < (N : Int) := by omega
    have HPS : Hid ((ats t J2).pub.length = 32) := f8
    have HNN := Lib.hid hN
    clear hr hd hz1 hz2 hz3 f2 HUS HTR hru hdu e1 e2 hN hUL hIX hXX
    go_wp2_with fail
    refine (HUS2.out _ KK.out).mono ?_; rintro _ w2 ⟨⟨ru, rfl, su⟩, k2⟩
    have KK := Lib.hid (KK.out.trans k2)
    have ru9 := su.ri
    obtain ⟨au, cu, eu, pu, _⟩ := ru9.shape
    subst eu
    rw [hULM] at ru9 pu ⊢
    obtain ⟨g5, o5, e5, _, hc5⟩ := ru9.at IX f3
    subst e5
    have d5 := hc5 IX f3
    rw [f4] at d5
    clear k2 su ru9 hc5 HUS2 f4 hULM
    have HU2 : Hid (NL w2 (.slice aa N ca) t) := HT0.out.kp KK.out
    have HAT : Hid (∀ W gU cU n, NO 32 W w2.heap.size (.slice (some ⟨gU, 0, none⟩) n cU) t → ∃ p u q, NAt W gU (J2 * 5) (ats t J2) p u q ∧ Apart (.slice (some ⟨gU, 0, none⟩) n cU) p ∧ Apart (.slice (some ⟨gU, 0, none⟩) n cU) u ∧ Apart (.slice (some ⟨gU, 0, none⟩) n cU) q) := fun W gU cU n h => by
      obtain ⟨g', c', e, _, _, _, _, hat⟩ := h.form (by rw [HNN.out]; omega)
      simp only [Value.slice.injEq, Option.some.injEq, Addr.mk.injEq, and_true] at e
      obtain ⟨rfl, rfl, rfl⟩ := e
      exact hat J2 (by rw [HNN.out]; exact f6)
    have HFM : Hid (∀ W v, NO 32 W w2.heap.size v t → ∃ gU cU, v = .slice (some ⟨gU, 0, none⟩) N cU ∧ w2.heap.size ≤ gU ∧ gU < W.heap.size) := fun W v h => by
      obtain ⟨g', c', e, h1, h2, _⟩ := h.form (by rw [HNN.out]; omega)
      rw [HNN.out] at e
      exact ⟨g', c', e, h1, h2⟩
    have HFP : Hid (∀ W B v, Ow 5 W B v (ats t J2).pub → ∃ gP cP, v = .slice (some ⟨gP, 0, none⟩) 32 cP ∧ B ≤ gP ∧ gP < W.heap.size ∧ (∃ x, W.cell? ⟨gP, 0, none⟩ = some (.int .u8 x)) ∧ W.frozen? ⟨gP, 0, none⟩ = false) := fun W B v h => by
      rcases h.shape with ⟨_, e⟩ | ⟨g', c', e, h1, h2, _⟩
      · have := HPS.out; rw [e] at this; cases this
      · rw [HPS.out] at e
        subst e
        obtain ⟨b', off', e2, _, hc⟩ := h.rd.at 0 (by omega)
        simp only [Option.some.injEq, Addr.mk.injEq, and_true] at e2
        obtain ⟨rfl, rfl⟩ := e2
        exact ⟨g', c', rfl, h1, h2, ⟨_, hc 0 (by omega)⟩, h.frozenAt 0⟩
    clear f5
    generalize hKD : (ats t J2).kind = KD at *
    generalize hNM : (ats t J2).name = NM at *
    have HMM : Hid (pubN (ats t J2) ((ats t J2).pub.set 0 b) = ⟨KD, NM, (ats t J2).pub.set 0 b, (ats t J2).un, (ats t J2).hash⟩) := by unfold Hid pubN; rw [hKD, hNM]
    go_wp2_with (first
      | (at_builtin; refine wpList_append_nodes (o := ⟨some 51, _, _, _, _, _⟩) S5n rfl _ _ rfl w2.heap.size _ [] rfl (NO.empty 32 w2) _ t rfl (HU2.out.apart ((Kp.refl _).alloc _) (fun g hg => by cases hg; exact Nat.le_refl _)) (by have := HLN.out; simp; omega) (by simp) ?_; intro v3 w3 o3 g3 _; have k3 : Hid (Kp w2 w3) := Kp.grown ((Kp.refl _).alloc _) g3 (fun k hk => by cases hk; exact Nat.le_refl _); rw [List.nil_append] at o3; obtain ⟨gU, cU, hv3, hgU1, hgU2⟩ := HFM.out w3 v3 o3; subst hv3; obtain ⟨p2, u2, q2, hn2, ap1, ap2, ap3⟩ := HAT.out _ _ _ _ o3; obtain ⟨xp, np, cp, rfl⟩ := rd_slH hn2.2.pub; obtain ⟨xu, nu, cu2, rfl⟩ := hn2.2.un.sl; obtain ⟨xh, nh, ch, rfl⟩ := rd_slH hn2.2.hash; have c0 := hn2.kind; rw [hKD] at c0; have c1 := hn2.name; rw [hNM] at c1; have c2 := hn2.pubC; have c3 := hn2.unC; have c4 := hn2.hashC; have HN2 := Lib.hid hn2.2; have HAP := Lib.hid (And.intro ap1 (And.intro ap2 ap3)); have O3 := Lib.hid o3; have HGU := Lib.hid (And.intro hgU1 hgU2); clear g3 hn2 ap1 ap2 ap3 o3 hgU1 hgU2)
      | (at_builtin; refine wpList_append_ow (o := ⟨some 60, _, _, _, _, _⟩) U rfl _ _ rfl (w3.heap.size + 1) _ [] rfl (Ow.none1 w3 5 _) _ (ats t J2).pub rfl (HN2.out.pub.kp (((Kp.refl _).alloc _).alloc _)) (by rw [HPS.out]; simp) (by simp) ?_; intro v6 w6 o6 g6 _; rw [List.nil_append] at o6; obtain ⟨gP, cP, hv6, hgP1, hgP2, ⟨x6, p6⟩, q6⟩ := HFP.out w6 _ v6 o6; subst hv6; have k6 := Kp.grown (w0 := w3.alloc (.cells #[.int .i64 KD, .int .i64 NM, .slice xp np cp, .slice xu nu cu2, .slice xh nh ch] 32)) ((Kp.refl _).alloc _) g6 (fun k hk => by cases hk; simp); have k7 := k6.setNew (b := gP) (j := 0) (by simp; omega) (.int .u8 (b.toNat : Int)); have hb7 := (Bx.new w3 32 #[.int .i64 KD, .int .i64 NM, .slice xp np cp, .slice xu nu cu2, .slice xh nh ch]).kp k7; have d2 := hb7.cell 2; have e2 := hb7.frozen 2; have hb8 := hb7.set 2 (.slice (some ⟨gP, 0, none⟩) 32 cP); have d0 := hb8.cell 0; have d1 := hb8.cell 1; have d2' := hb8.cell 2; have d3 := hb8.cell 3; have d4 := hb8.cell 4; simp only [List.setIfInBounds_toArray, List.set_cons_zero, List.set_cons_succ, List.getElem?_toArray, List.getElem?_cons_zero, List.getElem?_cons_succ] at d2 d0 d1 d2' d3 d4; have K7 := Lib.hid (And.intro k6 k7); have O6 := Lib.hid o6; have HB8 := Lib.hid hb8; have HGP := Lib.hid (And.intro hgP1 hgP2); have HF8 := Lib.hid (leaf_last HN2.out.un HN2.out.hash O3.out o6 b k7 hgP1 (.slice (some ⟨gP, 0, none⟩) 32 cP)); clear g6 k6 k7 hb7 hb8 o6 hgP1 hgP2)
      | (refine wpList_store_node infoNode5 rfl rfl (.tmp 70) (.tmp 69) rfl w2.heap.size gU cU N t (by exact HF8.out.1) J2 (by rw [HNN.out]; exact f6) ⟨KD, NM, (ats t J2).pub.set 0 b, (ats t J2).un, (ats t J2).hash⟩ (.slice (some ⟨gP, 0, none⟩) 32 cP) (.slice xu nu cu2) (.slice xh nh ch) rfl rfl (by exact ⟨HF8.out.2.1, HF8.out.2.2.1, HF8.out.2.2.2.1⟩) (by exact (apart_new (C := w3.heap.size) (fun g' hg' => by have e9 : g' = gP := (by cases hg'; rfl); have := HGP.out.1; omega) (fun g' hg' => by cases hg'; exact HGU.out.2))) (by exact HAP.out.2.1) (by exact HAP.out.2.2) ?_; intro w9 o9 g9))
    have NI9 := Lib.hid (NIn.grown (n := ⟨KD, NM, (ats t J2).pub.set 0 b, (ats t J2).un, (ats t J2).hash⟩) ⟨HF8.out.2.1, HF8.out.2.2.1, HF8.out.2.2.2.1⟩ (v := .slice (some ⟨gU, 0, none⟩) N cU) g9 (apart_new (C := w3.heap.size) (fun g' hg' => by have e9 : g' = gP := (by cases hg'; rfl); have := HGP.out.1; omega) (fun g' hg' => by cases hg'; exact HGU.out.2)) HAP.out.2.1 HAP.out.2.2)
    have HB9 := Lib.hid (HB8.out.grown g9 (by have := HGU.out.2; simp; omega))
    have hk28 : Kp w2 _ := k3.out.trans HF8.out.2.2.2.2
    have KK9 : Hid (Kp w w9) := Below.grown (KK.out.trans hk28) g9 (KK.out.trans hk28).size (fun k hk => by cases hk; exact Nat.le_trans KK.out.size HGU.out.1)
    rw [← HMM.out] at o9
    have HNL9 := Lib.hid o9.nl
    clear o9 g9 hk28 HF8 HB8 K7 O6 O3 HAP HN2 HGU c0 c1 c2 c3 c4 d0 d1 d2 d2' d3 d4 e2 p6 q6 k3 HU2 d5 HAT HFM HFP HPS
    -- TAIL (written by gen/hash4.py)
    have HLE2 := Lib.hid (fun W => HLE.out W (X : Int))
    obtain ⟨LO, hLO⟩ : ∃ LO, loV (X : Int) = LO := ⟨_, rfl⟩
    obtain ⟨HI, hHI⟩ : ∃ HI, hiV (X : Int) = HI := ⟨_, rfl⟩
    rw [hLO, hHI] at HLE2 HTL
    clear HLE hLO hHI
    generalize treV (t.set J2 (pubN (ats t J2) ((ats t J2).pub.set 0 b))) (X : Int) = V2 at *
    generalize treV t (X : Int) = V1 at *
    refine (HLE2.out _).mono ?_; rintro _ _ ⟨rfl, rfl⟩
    go_wp2_with fail
    refine (HTR2.out _ KK9.out).mono ?_; rintro _ wa ⟨⟨ra, rfl, oa⟩, ka⟩
    have KA := Lib.hid (KK9.out.trans ka)
    have KA9 := Lib.hid ka
    have OA := Lib.hid oa
    obtain ⟨a1, c1, rfl, _, _⟩ := oa.shape
    rw [HVL.out] at OA ⊢
    clear oa ka HTR2 HLE2
    go_wp2_with fail
    refine (HTRU.out _ KA.out _ (HNL9.out.kp KA9.out)).mono ?_; rintro _ wb ⟨⟨rb, rfl, ob⟩, kb⟩
    have KB := Lib.hid (KA.out.trans kb)
    have KB9 := Lib.hid (KA9.out.trans kb)
    have OAB := Lib.hid (And.intro (OA.out.kp kb) ob)
    clear ob kb HTRU HNL9 OA
    have HSM : Hid (∀ W, Kp wb W → V2 = V1 → Calls Tryd.prog 15 #[.slice a1 32 c1, rb] W fun e w' => e = .returned (.bool true) ∧ W = w') := fun W hW e => by
      have := same_any (.slice a1 32 c1) rb V1 V2 W (OAB.out.1.kp hW) (OAB.out.2.kp hW)
      rwa [decide_eq_true e.symm] at this
    have KDR : Hid (Kp wb wb.drew) := Kp.drew (Kp.refl wb)
    by_cases h1 : (j : Int) < LO
    · have hd1 : decide ((j : Int) < LO) = true := decide_eq_true h1
      have HEQ := Lib.hid (HTL.out (.inl h1))
      clear h1
      go_wp2_with fail
      refine wp_region_held_drew (S := fun W => True) (by kernel_rfl) (trivial) (fun hHeld => ?_)
      refine wpAnyH_take (i := 0) (oi := ⟨some 88, _, _, _, _, _⟩) (v := ?_) rfl (by kernel_rfl) (by kernel_rfl) (by kernel_rfl) (fun _ _ _ h => h) (Or.inl ⟨by kernel_rfl, ?_⟩) (by assumption) ?_
      rotate_left
      focus ((intro w hSw; (try dsimp only at hSw); go_simp); (try with_reducible rfl); done)
      simp only [Act.put, List.setIfInBounds_toArray, List.set_cons_zero, List.set_cons_succ]
      refine wpAnyH_take (i := 1) (oi := ⟨some 89, _, _, _, _, _⟩) (v := ?_) rfl (by kernel_rfl) (by kernel_rfl) (by kernel_rfl) (fun _ _ _ h => h) (Or.inl ⟨by kernel_rfl, ?_⟩) (by assumption) ?_
      rotate_left
      focus ((intro w hSw; (try dsimp only at hSw); go_simp); (try with_reducible rfl); done)
      simp only [Act.put, List.setIfInBounds_toArray, List.set_cons_zero, List.set_cons_succ]
      refine wpAnyH_take (i := 2) (oi := ⟨some 90, _, _, _, _, _⟩) (v := ?_) rfl (by kernel_rfl) (by kernel_rfl) (by kernel_rfl) (fun _ _ _ h => h) (Or.inl ⟨by kernel_rfl, ?_⟩) (by assumption) ?_
      rotate_left
      focus ((intro w hSw; (try dsimp only at hSw); go_simp); (try with_reducible rfl); done)
      simp only [Act.put, List.setIfInBounds_toArray, List.set_cons_zero, List.set_cons_succ]
      refine wpAnyH_take (i := 3) (oi := ⟨some 91, _, _, _, _, _⟩) (v := ?_) rfl (by kernel_rfl) (by kernel_rfl) (by kernel_rfl) (fun _ _ _ h => h) (Or.inl ⟨by kernel_rfl, ?_⟩) (by assumption) ?_
      rotate_left
      focus ((intro w hSw; (try dsimp only at hSw); go_simp); (try with_reducible rfl); done)
      simp only [Act.put, List.setIfInBounds_toArray, List.set_cons_zero, List.set_cons_succ]
      refine wpAnyH_take (i := 4) (oi := ⟨some 92, _, _, _, _, _⟩) (v := undef) rfl (by kernel_rfl) (by kernel_rfl) (by kernel_rfl) (fun _ _ _ h => h) (Or.inr ⟨by kernel_rfl, rfl⟩) (by assumption) ?_
      simp only [Act.put, List.setIfInBounds_toArray, List.set_cons_zero, List.set_cons_succ]
      refine wpAnyH_take (i := 5) (oi := ⟨some 93, _, _, _, _, _⟩) (v := undef) rfl (by kernel_rfl) (by kernel_rfl) (by kernel_rfl) (fun _ _ _ h => h) (Or.inr ⟨by kernel_rfl, rfl⟩) (by assumption) ?_
      simp only [Act.put, List.setIfInBounds_toArray, List.set_cons_zero, List.set_cons_succ]
      refine wpAnyH_take (i := 6) (oi := ⟨some 94, _, _, _, _, _⟩) (v := undef) rfl (by kernel_rfl) (by kernel_rfl) (by kernel_rfl) (fun _ _ _ h => h) (Or.inr ⟨by kernel_rfl, rfl⟩) (by assumption) ?_
      simp only [Act.put, List.setIfInBounds_toArray, List.set_cons_zero, List.set_cons_succ]
      refine wpAnyH_take (i := 7) (oi := ⟨some 95, _, _, _, _, _⟩) (v := ?_) rfl (by kernel_rfl) (by kernel_rfl) (by kernel_rfl) (fun _ _ _ h => h) (Or.inl ⟨by kernel_rfl, ?_⟩) (by assumption) ?_
      rotate_left
      focus ((intro w hSw; (try dsimp only at hSw); go_simp); (try with_reducible rfl); done)
      simp only [Act.put, List.setIfInBounds_toArray, List.set_cons_zero, List.set_cons_succ]
      refine wpAnyH_take (i := 8) (oi := ⟨some 96, _, _, _, _, _⟩) (v := ?_) rfl (by kernel_rfl) (by kernel_rfl) (by kernel_rfl) (fun _ _ _ h => h) (Or.inl ⟨by kernel_rfl, ?_⟩) (by assumption) ?_
      rotate_left
      focus ((intro w hSw; (try dsimp only at hSw); go_simp); (try with_reducible rfl); done)
      simp only [Act.put, List.setIfInBounds_toArray, List.set_cons_zero, List.set_cons_succ]
      refine wpAnyH_take (i := 9) (oi := ⟨some 97, _, _, _, _, _⟩) (v := undef) rfl (by kernel_rfl) (by kernel_rfl) (by kernel_rfl) (fun _ _ _ h => h) (Or.inr ⟨by kernel_rfl, rfl⟩) (by assumption) ?_
      simp only [Act.put, List.setIfInBounds_toArray, List.set_cons_zero, List.set_cons_succ]
      refine wpAnyH_take (i := 10) (oi := ⟨some 98, _, _, _, _, _⟩) (v := undef) rfl (by kernel_rfl) (by kernel_rfl) (by kernel_rfl) (fun _ _ _ h => h) (Or.inr ⟨by kernel_rfl, rfl⟩) (by assumption) ?_
      simp only [Act.put, List.setIfInBounds_toArray, List.set_cons_zero, List.set_cons_succ]
      refine wpAnyH_take (i := 11) (oi := ⟨some 99, _, _, _, _, _⟩) (v := undef) rfl (by kernel_rfl) (by kernel_rfl) (by kernel_rfl) (fun _ _ _ h => h) (Or.inr ⟨by kernel_rfl, rfl⟩) (by assumption) ?_
      simp only [Act.put, List.setIfInBounds_toArray, List.set_cons_zero, List.set_cons_succ]
      refine wpAnyH_take (i := 12) (oi := ⟨some 100, _, _, _, _, _⟩) (v := undef) rfl (by kernel_rfl) (by kernel_rfl) (by kernel_rfl) (fun _ _ _ h => h) (Or.inr ⟨by kernel_rfl, rfl⟩) (by assumption) ?_
      simp only [Act.put, List.setIfInBounds_toArray, List.set_cons_zero, List.set_cons_succ]
      refine wpAnyH_take (i := 13) (oi := ⟨some 101, _, _, _, _, _⟩) (v := undef) rfl (by kernel_rfl) (by kernel_rfl) (by kernel_rfl) (fun _ _ _ h => h) (Or.inr ⟨by kernel_rfl, rfl⟩) (by assumption) ?_
      simp only [Act.put, List.setIfInBounds_toArray, List.set_cons_zero, List.set_cons_succ]
      refine wpAnyH_take (i := 14) (oi := ⟨some 102, _, _, _, _, _⟩) (v := undef) rfl (by kernel_rfl) (by kernel_rfl) (by kernel_rfl) (fun _ _ _ h => h) (Or.inr ⟨by kernel_rfl, rfl⟩) (by assumption) ?_
      simp only [Act.put, List.setIfInBounds_toArray, List.set_cons_zero, List.set_cons_succ]
      refine wpAnyH_take (i := 15) (oi := ⟨some 103, _, _, _, _, _⟩) (v := undef) rfl (by kernel_rfl) (by kernel_rfl) (by kernel_rfl) (fun _ _ _ h => h) (Or.inr ⟨by kernel_rfl, rfl⟩) (by assumption) ?_
      simp only [Act.put, List.setIfInBounds_toArray, List.set_cons_zero, List.set_cons_succ]
      refine wpAnyH_take (i := 16) (oi := ⟨some 104, _, _, _, _, _⟩) (v := ?_) rfl (by kernel_rfl) (by kernel_rfl) (by kernel_rfl) (fun _ _ _ h => h) (Or.inl ⟨by kernel_rfl, ?_⟩) (by assumption) ?_
      rotate_left
      focus ((intro w hSw; (try dsimp only at hSw); go_simp); (try with_reducible rfl); done)
      simp only [Act.put, List.setIfInBounds_toArray, List.set_cons_zero, List.set_cons_succ]
      refine wpAnyH_take (i := 17) (oi := ⟨some 20, _, _, _, _, _⟩) (v := ?_) rfl (by kernel_rfl) (by kernel_rfl) (by kernel_rfl) (fun _ _ _ h => h) (Or.inl ⟨by kernel_rfl, ?_⟩) (by assumption) ?_
      rotate_left
      focus ((intro w hSw; (try dsimp only at hSw); go_simp); (try with_reducible rfl); done)
      simp only [Act.put, List.setIfInBounds_toArray, List.set_cons_zero, List.set_cons_succ]
      refine wpAnyH_done (by kernel_rfl) ?_ _
      have hsm := HSM.out _ KDR.out HEQ.out
      go_wp2_with fail
      refine hsm.mono ?_; rintro _ _ ⟨rfl, rfl⟩
      go_wp2_with fail
      go_ret
      exact ⟨by simp, KB.out.trans KDR.out⟩
    · have hd1 : decide ((j : Int) < LO) = false := decide_eq_false h1
      by_cases h2 : HI < (j : Int)
      · have hd2 : decide (HI < (j : Int)) = true := decide_eq_true h2
        have HEQ := Lib.hid (HTL.out (.inr (.inl h2)))
        clear h1 h2
        go_wp2_with fail
        refine wp_region_held_drew (S := fun W => True) (by kernel_rfl) (trivial) (fun hHeld => ?_)
        refine wpAnyH_take (i := 0) (oi := ⟨some 88, _, _, _, _, _⟩) (v := ?_) rfl (by kernel_rfl) (by kernel_rfl) (by kernel_rfl) (fun _ _ _ h => h) (Or.inl ⟨by kernel_rfl, ?_⟩) (by assumption) ?_
        rotate_left
        focus ((intro w hSw; (try dsimp only at hSw); go_simp); (try with_reducible rfl); done)
        simp only [Act.put, List.setIfInBounds_toArray, List.set_cons_zero, List.set_cons_succ]
        refine wpAnyH_take (i := 1) (oi := ⟨some 89, _, _, _, _, _⟩) (v := ?_) rfl (by kernel_rfl) (by kernel_rfl) (by kernel_rfl) (fun _ _ _ h => h) (Or.inl ⟨by kernel_rfl, ?_⟩) (by assumption) ?_
        rotate_left
        focus ((intro w hSw; (try dsimp only at hSw); go_simp); (try with_reducible rfl); done)
        simp only [Act.put, List.setIfInBounds_toArray, List.set_cons_zero, List.set_cons_succ]
        refine wpAnyH_take (i := 2) (oi := ⟨some 90, _, _, _, _, _⟩) (v := ?_) rfl (by kernel_rfl) (by kernel_rfl) (by kernel_rfl) (fun _ _ _ h => h) (Or.inl ⟨by kernel_rfl, ?_⟩) (by assumption) ?_
        rotate_left
        focus ((intro w hSw; (try dsimp only at hSw); go_simp); (try with_reducible rfl); done)
        simp only [Act.put, List.setIfInBounds_toArray, List.set_cons_zero, List.set_cons_succ]
        refine wpAnyH_take (i := 3) (oi := ⟨some 91, _, _, _, _, _⟩) (v := ?_) rfl (by kernel_rfl) (by kernel_rfl) (by kernel_rfl) (fun _ _ _ h => h) (Or.inl ⟨by kernel_rfl, ?_⟩) (by assumption) ?_
        rotate_left
        focus ((intro w hSw; (try dsimp only at hSw); go_simp); (try with_reducible rfl); done)
        simp only [Act.put, List.setIfInBounds_toArray, List.set_cons_zero, List.set_cons_succ]
        refine wpAnyH_take (i := 4) (oi := ⟨some 92, _, _, _, _, _⟩) (v := ?_) rfl (by kernel_rfl) (by kernel_rfl) (by kernel_rfl) (fun _ _ _ h => h) (Or.inl ⟨by kernel_rfl, ?_⟩) (by assumption) ?_
        rotate_left
        focus ((intro w hSw; (try dsimp only at hSw); go_simp); (try with_reducible rfl); done)
        simp only [Act.put, List.setIfInBounds_toArray, List.set_cons_zero, List.set_cons_succ]
        refine wpAnyH_take (i := 5) (oi := ⟨some 93, _, _, _, _, _⟩) (v := ?_) rfl (by kernel_rfl) (by kernel_rfl) (by kernel_rfl) (fun _ _ _ h => h) (Or.inl ⟨by kernel_rfl, ?_⟩) (by assumption) ?_
        rotate_left
        focus ((intro w hSw; (try dsimp only at hSw); go_simp); (try with_reducible rfl); done)
        simp only [Act.put, List.setIfInBounds_toArray, List.set_cons_zero, List.set_cons_succ]
        refine wpAnyH_take (i := 6) (oi := ⟨some 94, _, _, _, _, _⟩) (v := ?_) rfl (by kernel_rfl) (by kernel_rfl) (by kernel_rfl) (fun _ _ _ h => h) (Or.inl ⟨by kernel_rfl, ?_⟩) (by assumption) ?_
        rotate_left
        focus ((intro w hSw; (try dsimp only at hSw); go_simp); (try with_reducible rfl); done)
        simp only [Act.put, List.setIfInBounds_toArray, List.set_cons_zero, List.set_cons_succ]
        refine wpAnyH_take (i := 7) (oi := ⟨some 95, _, _, _, _, _⟩) (v := ?_) rfl (by kernel_rfl) (by kernel_rfl) (by kernel_rfl) (fun _ _ _ h => h) (Or.inl ⟨by kernel_rfl, ?_⟩) (by assumption) ?_
        rotate_left
        focus ((intro w hSw; (try dsimp only at hSw); go_simp); (try with_reducible rfl); done)
        simp only [Act.put, List.setIfInBounds_toArray, List.set_cons_zero, List.set_cons_succ]
        refine wpAnyH_take (i := 8) (oi := ⟨some 96, _, _, _, _, _⟩) (v := ?_) rfl (by kernel_rfl) (by kernel_rfl) (by kernel_rfl) (fun _ _ _ h => h) (Or.inl ⟨by kernel_rfl, ?_⟩) (by assumption) ?_
        rotate_left
        focus ((intro w hSw; (try dsimp only at hSw); go_simp); (try with_reducible rfl); done)
        simp only [Act.put, List.setIfInBounds_toArray, List.set_cons_zero, List.set_cons_succ]
        refine wpAnyH_take (i := 9) (oi := ⟨some 97, _, _, _, _, _⟩) (v := undef) rfl (by kernel_rfl) (by kernel_rfl) (by kernel_rfl) (fun _ _ _ h => h) (Or.inr ⟨by kernel_rfl, rfl⟩) (by assumption) ?_
        simp only [Act.put, List.setIfInBounds_toArray, List.set_cons_zero, List.set_cons_succ]
        refine wpAnyH_take (i := 10) (oi := ⟨some 98, _, _, _, _, _⟩) (v := undef) rfl (by kernel_rfl) (by kernel_rfl) (by kernel_rfl) (fun _ _ _ h => h) (Or.inr ⟨by kernel_rfl, rfl⟩) (by assumption) ?_
        simp only [Act.put, List.setIfInBounds_toArray, List.set_cons_zero, List.set_cons_succ]
        refine wpAnyH_take (i := 11) (oi := ⟨some 99, _, _, _, _, _⟩) (v := undef) rfl (by kernel_rfl) (by kernel_rfl) (by kernel_rfl) (fun _ _ _ h => h) (Or.inr ⟨by kernel_rfl, rfl⟩) (by assumption) ?_
        simp only [Act.put, List.setIfInBounds_toArray, List.set_cons_zero, List.set_cons_succ]
        refine wpAnyH_take (i := 12) (oi := ⟨some 100, _, _, _, _, _⟩) (v := undef) rfl (by kernel_rfl) (by kernel_rfl) (by kernel_rfl) (fun _ _ _ h => h) (Or.inr ⟨by kernel_rfl, rfl⟩) (by assumption) ?_
        simp only [Act.put, List.setIfInBounds_toArray, List.set_cons_zero, List.set_cons_succ]
        refine wpAnyH_take (i := 13) (oi := ⟨some 101, _, _, _, _, _⟩) (v := undef) rfl (by kernel_rfl) (by kernel_rfl) (by kernel_rfl) (fun _ _ _ h => h) (Or.inr ⟨by kernel_rfl, rfl⟩) (by assumption) ?_
        simp only [Act.put, List.setIfInBounds_toArray, List.set_cons_zero, List.set_cons_succ]
        refine wpAnyH_take (i := 14) (oi := ⟨some 102, _, _, _, _, _⟩) (v := undef) rfl (by kernel_rfl) (by kernel_rfl) (by kernel_rfl) (fun _ _ _ h => h) (Or.inr ⟨by kernel_rfl, rfl⟩) (by assumption) ?_
        simp only [Act.put, List.setIfInBounds_toArray, List.set_cons_zero, List.set_cons_succ]
        refine wpAnyH_take (i := 15) (oi := ⟨some 103, _, _, _, _, _⟩) (v := undef) rfl (by kernel_rfl) (by kernel_rfl) (by kernel_rfl) (fun _ _ _ h => h) (Or.inr ⟨by kernel_rfl, rfl⟩) (by assumption) ?_
        simp only [Act.put, List.setIfInBounds_toArray, List.set_cons_zero, List.set_cons_succ]
        refine wpAnyH_take (i := 16) (oi := ⟨some 104, _, _, _, _, _⟩) (v := ?_) rfl (by kernel_rfl) (by kernel_rfl) (by kernel_rfl) (fun _ _ _ h => h) (Or.inl ⟨by kernel_rfl, ?_⟩) (by assumption) ?_
        rotate_left
        focus ((intro w hSw; (try dsimp only at hSw); go_simp); (try with_reducible rfl); done)
        simp only [Act.put, List.setIfInBounds_toArray, List.set_cons_zero, List.set_cons_succ]
        refine wpAnyH_take (i := 17) (oi := ⟨some 20, _, _, _, _, _⟩) (v := ?_) rfl (by kernel_rfl) (by kernel_rfl) (by kernel_rfl) (fun _ _ _ h => h) (Or.inl ⟨by kernel_rfl, ?_⟩) (by assumption) ?_
        rotate_left
        focus ((intro w hSw; (try dsimp only at hSw); go_simp); (try with_reducible rfl); done)
        simp only [Act.put, List.setIfInBounds_toArray, List.set_cons_zero, List.set_cons_succ]
        refine wpAnyH_done (by kernel_rfl) ?_ _
        have hsm := HSM.out _ KDR.out HEQ.out
        go_wp2_with fail
        refine hsm.mono ?_; rintro _ _ ⟨rfl, rfl⟩
        go_wp2_with fail
        go_ret
        exact ⟨by simp, KB.out.trans KDR.out⟩
      · have hd2 : decide (HI < (j : Int)) = false := decide_eq_false h2
        obtain ⟨bT, oT, eT, _, hTc⟩ := HT0.out.at J2 f6
        obtain ⟨pT, uT, hT, nT⟩ := hTc J2 f6
        subst eT
        have HNT := Lib.hid nT
        obtain ⟨pa, pn, pc, rfl⟩ := rd_slH nT.2.pub
        obtain ⟨ua, un, uc, rfl⟩ := nT.2.un.sl
        obtain ⟨qa, qn, qc, rfl⟩ := rd_slH nT.2.hash
        have HSS : Hid (∀ W, Kp wb W → W.cell? ⟨w3.heap.size, 0, none⟩ = some (.int .i64 KD) ∧ W.cell? ⟨w3.heap.size, 1, none⟩ = some (.int .i64 NM) ∧ W.cell? ⟨w3.heap.size, 2, none⟩ = some (.slice (some ⟨gP, 0, none⟩) 32 cP) ∧ W.cell? ⟨w3.heap.size, 3, none⟩ = some (.slice xu nu cu2) ∧ W.cell? ⟨w3.heap.size, 4, none⟩ = some (.slice xh nh ch) ∧ W.cell? ⟨bT, oT + J2 * 5, none⟩ = some (.int .i64 KD) ∧ W.cell? ⟨bT, oT + J2 * 5 + 1, none⟩ = some (.int .i64 NM) ∧ W.cell? ⟨bT, oT + J2 * 5 + 2, none⟩ = some (.slice pa pn pc) ∧ W.cell? ⟨bT, oT + J2 * 5 + 3, none⟩ = some (.slice ua un uc) ∧ W.cell? ⟨bT, oT + J2 * 5 + 4, none⟩ = some (.slice qa qn qc)) := fun W hW => by
          have hb := HB9.out.kp (KB9.out.trans hW)
          have hn := nT.kp (KB.out.trans hW)
          have t0 := hn.kind
          have t1 := hn.name
          rw [hKD] at t0
          rw [hNM] at t1
          exact ⟨hb.cell 0, hb.cell 1, hb.cell 2, hb.cell 3, hb.cell 4, t0, t1, hn.pubC, hn.unC, hn.hashC⟩
        have HNA : Hid (∀ W, Kp wb W → NV W (.agg #[.int .i64 KD, .int .i64 NM, .slice (some ⟨gP, 0, none⟩) 32 cP, .slice xu nu cu2, .slice xh nh ch]) (pubN (ats t J2) ((ats t J2).pub.set 0 b))) := fun W hW => by rw [HMM.out]; exact ⟨_, _, _, rfl, NI9.out.kp (KB9.out.trans hW)⟩
        have HNB : Hid (∀ W, Kp wb W → NV W (.agg #[.int .i64 KD, .int .i64 NM, .slice pa pn pc, .slice ua un uc, .slice qa qn qc]) (ats t J2)) := fun W hW => ⟨_, _, _, by rw [← hKD, ← hNM]; rfl, HNT.out.2.kp (KB.out.trans hW)⟩
        have HC : Hid (∀ W, Kp wb W → Calls Tryd.prog 17 #[.agg #[.int .i64 KD, .int .i64 NM, .slice (some ⟨gP, 0, none⟩) 32 cP, .slice xu nu cu2, .slice xh nh ch], .agg #[.int .i64 KD, .int .i64 NM, .slice pa pn pc, .slice ua un uc, .slice qa qn qc]] W fun e w' => Tells e (pubN (ats t J2) ((ats t J2).pub.set 0 b) = ats t J2) ∧ Kp W w') := fun W hW => refSameNode_any _ _ _ _ W (HNA.out W hW) (HNB.out W hW)
        have HTL3 : Hid (pubN (ats t J2) ((ats t J2).pub.set 0 b) = ats t J2 → V2 = V1) := fun h => HTL.out (.inr (.inr h))
        clear h1 h2 hTc nT HNT HNA HNB HTL HT0 HB9 NI9 HMM hKD hNM
        go_wp2_with fail
        refine wp_region_held_drew (S := fun W => W.cell? ⟨w3.heap.size, 0, none⟩ = some (.int .i64 KD) ∧ W.cell? ⟨w3.heap.size, 1, none⟩ = some (.int .i64 NM) ∧ W.cell? ⟨w3.heap.size, 2, none⟩ = some (.slice (some ⟨gP, 0, none⟩) 32 cP) ∧ W.cell? ⟨w3.heap.size, 3, none⟩ = some (.slice xu nu cu2) ∧ W.cell? ⟨w3.heap.size, 4, none⟩ = some (.slice xh nh ch) ∧ W.cell? ⟨bT, oT + J2 * 5, none⟩ = some (.int .i64 KD) ∧ W.cell? ⟨bT, oT + J2 * 5 + 1, none⟩ = some (.int .i64 NM) ∧ W.cell? ⟨bT, oT + J2 * 5 + 2, none⟩ = some (.slice pa pn pc) ∧ W.cell? ⟨bT, oT + J2 * 5 + 3, none⟩ = some (.slice ua un uc) ∧ W.cell? ⟨bT, oT + J2 * 5 + 4, none⟩ = some (.slice qa qn qc)) (by kernel_rfl) (HSS.out _ (by first | exact K12.out | exact KDR.out)) (fun hHeld => ?_)
        refine wpAnyH_take (i := 0) (oi := ⟨some 88, _, _, _, _, _⟩) (v := ?_) rfl (by kernel_rfl) (by kernel_rfl) (by kernel_rfl) (fun _ _ _ h => h) (Or.inl ⟨by kernel_rfl, ?_⟩) (by assumption) ?_
        rotate_left
        focus ((intro w hSw; (try dsimp only at hSw); go_simp); (try with_reducible rfl); done)
        simp only [Act.put, List.setIfInBounds_toArray, List.set_cons_zero, List.set_cons_succ]
        refine wpAnyH_take (i := 1) (oi := ⟨some 89, _, _, _, _, _⟩) (v := ?_) rfl (by kernel_rfl) (by kernel_rfl) (by kernel_rfl) (fun _ _ _ h => h) (Or.inl ⟨by kernel_rfl, ?_⟩) (by assumption) ?_
        rotate_left
        focus ((intro w hSw; (try dsimp only at hSw); go_simp); (try with_reducible rfl); done)
        simp only [Act.put, List.setIfInBounds_toArray, List.set_cons_zero, List.set_cons_succ]
        refine wpAnyH_take (i := 2) (oi := ⟨some 90, _, _, _, _, _⟩) (v := ?_) rfl (by kernel_rfl) (by kernel_rfl) (by kernel_rfl) (fun _ _ _ h => h) (Or.inl ⟨by kernel_rfl, ?_⟩) (by assumption) ?_
        rotate_left
        focus ((intro w hSw; (try dsimp only at hSw); go_simp); (try with_reducible rfl); done)
        simp only [Act.put, List.setIfInBounds_toArray, List.set_cons_zero, List.set_cons_succ]
        refine wpAnyH_take (i := 3) (oi := ⟨some 91, _, _, _, _, _⟩) (v := ?_) rfl (by kernel_rfl) (by kernel_rfl) (by kernel_rfl) (fun _ _ _ h => h) (Or.inl ⟨by kernel_rfl, ?_⟩) (by assumption) ?_
        rotate_left
        focus ((intro w hSw; (try dsimp only at hSw); go_simp); (try with_reducible rfl); done)
        simp only [Act.put, List.setIfInBounds_toArray, List.set_cons_zero, List.set_cons_succ]
        refine wpAnyH_take (i := 4) (oi := ⟨some 92, _, _, _, _, _⟩) (v := ?_) rfl (by kernel_rfl) (by kernel_rfl) (by kernel_rfl) (fun _ _ _ h => h) (Or.inl ⟨by kernel_rfl, ?_⟩) (by assumption) ?_
        rotate_left
        focus ((intro w hSw; (try dsimp only at hSw); go_simp); (try with_reducible rfl); done)
        simp only [Act.put, List.setIfInBounds_toArray, List.set_cons_zero, List.set_cons_succ]
        refine wpAnyH_take (i := 5) (oi := ⟨some 93, _, _, _, _, _⟩) (v := ?_) rfl (by kernel_rfl) (by kernel_rfl) (by kernel_rfl) (fun _ _ _ h => h) (Or.inl ⟨by kernel_rfl, ?_⟩) (by assumption) ?_
        rotate_left
        focus ((intro w hSw; (try dsimp only at hSw); go_simp); (try with_reducible rfl); done)
        simp only [Act.put, List.setIfInBounds_toArray, List.set_cons_zero, List.set_cons_succ]
        refine wpAnyH_take (i := 6) (oi := ⟨some 94, _, _, _, _, _⟩) (v := ?_) rfl (by kernel_rfl) (by kernel_rfl) (by kernel_rfl) (fun _ _ _ h => h) (Or.inl ⟨by kernel_rfl, ?_⟩) (by assumption) ?_
        rotate_left
        focus ((intro w hSw; (try dsimp only at hSw); go_simp); (try with_reducible rfl); done)
        simp only [Act.put, List.setIfInBounds_toArray, List.set_cons_zero, List.set_cons_succ]
        refine wpAnyH_take (i := 7) (oi := ⟨some 95, _, _, _, _, _⟩) (v := ?_) rfl (by kernel_rfl) (by kernel_rfl) (by kernel_rfl) (fun _ _ _ h => h) (Or.inl ⟨by kernel_rfl, ?_⟩) (by assumption) ?_
        rotate_left
        focus ((intro w hSw; (try dsimp only at hSw); go_simp); (try with_reducible rfl); done)
        simp only [Act.put, List.setIfInBounds_toArray, List.set_cons_zero, List.set_cons_succ]
        refine wpAnyH_take (i := 8) (oi := ⟨some 96, _, _, _, _, _⟩) (v := ?_) rfl (by kernel_rfl) (by kernel_rfl) (by kernel_rfl) (fun _ _ _ h => h) (Or.inl ⟨by kernel_rfl, ?_⟩) (by assumption) ?_
        rotate_left
        focus ((intro w hSw; (try dsimp only at hSw); go_simp); (try with_reducible rfl); done)
        simp only [Act.put, List.setIfInBounds_toArray, List.set_cons_zero, List.set_cons_succ]
        refine wpAnyH_take (i := 9) (oi := ⟨some 97, _, _, _, _, _⟩) (v := ?_) rfl (by kernel_rfl) (by kernel_rfl) (by kernel_rfl) (fun _ _ _ h => h) (Or.inl ⟨by kernel_rfl, ?_⟩) (by assumption) ?_
        rotate_left
        focus ((intro w hSw; (try dsimp only at hSw); go_simp); (try with_reducible rfl); done)
        simp only [Act.put, List.setIfInBounds_toArray, List.set_cons_zero, List.set_cons_succ]
        refine wpAnyH_take (i := 10) (oi := ⟨some 98, _, _, _, _, _⟩) (v := ?_) rfl (by kernel_rfl) (by kernel_rfl) (by kernel_rfl) (fun _ _ _ h => h) (Or.inl ⟨by kernel_rfl, ?_⟩) (by assumption) ?_
        rotate_left
        focus ((intro w hSw; (try dsimp only at hSw); go_simp); (try with_reducible rfl); done)
        simp only [Act.put, List.setIfInBounds_toArray, List.set_cons_zero, List.set_cons_succ]
        refine wpAnyH_take (i := 11) (oi := ⟨some 99, _, _, _, _, _⟩) (v := ?_) rfl (by kernel_rfl) (by kernel_rfl) (by kernel_rfl) (fun _ _ _ h => h) (Or.inl ⟨by kernel_rfl, ?_⟩) (by assumption) ?_
        rotate_left
        focus ((intro w hSw; (try dsimp only at hSw); go_simp); (try with_reducible rfl); done)
        simp only [Act.put, List.setIfInBounds_toArray, List.set_cons_zero, List.set_cons_succ]
        refine wpAnyH_take (i := 12) (oi := ⟨some 100, _, _, _, _, _⟩) (v := ?_) rfl (by kernel_rfl) (by kernel_rfl) (by kernel_rfl) (fun _ _ _ h => h) (Or.inl ⟨by kernel_rfl, ?_⟩) (by assumption) ?_
        rotate_left
        focus ((intro w hSw; (try dsimp only at hSw); go_simp); (try with_reducible rfl); done)
        simp only [Act.put, List.setIfInBounds_toArray, List.set_cons_zero, List.set_cons_succ]
        refine wpAnyH_take (i := 13) (oi := ⟨some 101, _, _, _, _, _⟩) (v := ?_) rfl (by kernel_rfl) (by kernel_rfl) (by kernel_rfl) (fun _ _ _ h => h) (Or.inl ⟨by kernel_rfl, ?_⟩) (by assumption) ?_
        rotate_left
        focus ((intro w hSw; (try dsimp only at hSw); go_simp); (try with_reducible rfl); done)
        simp only [Act.put, List.setIfInBounds_toArray, List.set_cons_zero, List.set_cons_succ]
        refine wpAnyH_take (i := 14) (oi := ⟨some 102, _, _, _, _, _⟩) (v := ?_) rfl (by kernel_rfl) (by kernel_rfl) (by kernel_rfl) (fun _ _ _ h => h) (Or.inl ⟨by kernel_rfl, ?_⟩) (by assumption) ?_
        rotate_left
        focus ((intro w hSw; (try dsimp only at hSw); go_simp); (try with_reducible rfl); done)
        simp only [Act.put, List.setIfInBounds_toArray, List.set_cons_zero, List.set_cons_succ]
        refine wpAnyH_ready (rs := [15]) (by kernel_rfl) (by simp) ?_
        refine AllReadyH.cons (o := ⟨some 103, _, _, _, _, _⟩) rfl (fun K hK => ?_) AllReadyH.nil
        go_simp
        go_at_call 17; refine (HC.out _ KDR.out).mono ?_; rintro _ w12 ⟨⟨bX, rfl, hX⟩, k12⟩; have K12 := Lib.hid (KDR.out.trans k12); have hX9 := Lib.hid hX; clear k12 hX
        refine hK.out _ _ (HSS.out _ (by first | exact K12.out | exact KDR.out)) (fun hHeld => ?_)
        clear hK K
        try simp only [Act.put, List.setIfInBounds_toArray, List.set_cons_zero, List.set_cons_succ]
        refine wpAnyH_take (i := 16) (oi := ⟨some 104, _, _, _, _, _⟩) (v := ?_) rfl (by kernel_rfl) (by kernel_rfl) (by kernel_rfl) (fun _ _ _ h => h) (Or.inl ⟨by kernel_rfl, ?_⟩) (by assumption) ?_
        rotate_left
        focus ((intro w hSw; (try dsimp only at hSw); go_simp); (try with_reducible rfl); done)
        simp only [Act.put, List.setIfInBounds_toArray, List.set_cons_zero, List.set_cons_succ]
        refine wpAnyH_take (i := 17) (oi := ⟨some 20, _, _, _, _, _⟩) (v := ?_) rfl (by kernel_rfl) (by kernel_rfl) (by kernel_rfl) (fun _ _ _ h => h) (Or.inl ⟨by kernel_rfl, ?_⟩) (by assumption) ?_
        rotate_left
        focus ((intro w hSw; (try dsimp only at hSw); go_simp); (try with_reducible rfl); done)
        simp only [Act.put, List.setIfInBounds_toArray, List.set_cons_zero, List.set_cons_succ]
        refine wpAnyH_done (by kernel_rfl) ?_ _
        have K12E := K12
        cases bX
        · go_wp2_with fail
          go_ret
          exact ⟨by simp, KB.out.trans K12E.out⟩
        · have HEQ := Lib.hid (HTL3.out (hX9.out.1 rfl))
          have hsm := HSM.out _ K12E.out HEQ.out
          go_wp2_with fail
          refine hsm.mono ?_; rintro _ _ ⟨rfl, rfl⟩
          go_wp2_with fail
          go_ret
          exact ⟨by simp, KB.out.trans K12E.out⟩
theorem hashLeaf_int (vt : Value) (t : List Nod) (a i b : Int) (w : World) (ht : NL w vt t) (ha : 0 ≤ a ∧ a ≤ 255) (hi : 0 ≤ i ∧ i ≤ 255) (hb : 0 ≤ b ∧ b ≤ 255) (hT : Tab w) :
    Calls Tryd.prog 4 #[.agg #[vt, .int .u8 a, .int .u8 i, .int .u8 b]] w (Yes w) := by
  obtain ⟨a, rfl⟩ := Int.eq_ofNat_of_zero_le ha.1
  obtain ⟨i, rfl⟩ := Int.eq_ofNat_of_zero_le hi.1
  obtain ⟨n, rfl⟩ := Int.eq_ofNat_of_zero_le hb.1
  have e : ((n : Nat) : Int) = ((UInt8.ofNat n).toNat : Int) := by
    have : (UInt8.ofNat n).toNat = n := by simp; omega
    rw [this]
  rw [e]
  exact hashLeaf_walk vt t a i (UInt8.ofNat n) w ht (by omega) (by omega) hT
end Go.Proofs.YtobldbodafaajaaDoor

/- HashHolds. -/
import Derived.Test.YtobldbodafaajaaDoorShownHash
import Derived.Test.YtobldbodafaajaaDoorRefTree9
import Derived.Test.YtobldbodafaajaaDoorMathRef9
import Derived.Test.YtobldbodafaajaaDoorHashHold
import Derived.Test.YtobldbodafaajaaDoorHashChosen
import Derived.Test.YtobldbodafaajaaDoorTreeRow10
import Derived.Deep.RegionHeld3
set_option linter.unusedVariables false
set_option linter.unusedSimpArgs false
namespace Go.Proofs.YtobldbodafaajaaDoor
open Go.RowKit

theorem may10d {t : List Nod} (h : smallP t 40 ∧ RightP t) : ∃ K, RightK t K ∧ TidyT t K := by
  obtain ⟨h1, K, h2⟩ := h
  exact ⟨K, h2, h2.tidy h1⟩
/-- The world behind a new half of which two bytes are written. -/
theorem half_two (W : World) (T : TypeId) (b : UInt8) (k : Nat) (hk : k ≤ 255) :
    Rd (((W.alloc (.cells (Array.replicate 32 (.int .u8 0)) T)).setCell ⟨W.heap.size, 0, none⟩ (.int .u8 (b.toNat : Int))).setCell ⟨W.heap.size, 1, none⟩ (.int .u8 (k : Int))) (.slice (some ⟨W.heap.size, 0, none⟩) 32 32) (((List.replicate 32 0).set 0 b).set 1 (UInt8.ofNat k)) := by
  have h0 : Ow T (W.alloc (.cells (Array.replicate 32 (.int .u8 0)) T)) W.heap.size (.slice (some ⟨W.heap.size, 0, none⟩) 32 32) (List.replicate 32 0) := by
    have := Ow.lit W T W.heap.size 32 (Array.replicate 32 (.int .u8 0)) (List.replicate 32 0) (Nat.le_refl _) (by simp) (by omega) (by simp [Lib.byteCells])
    exact this
  have h1 := (h0.put (k := 0) b).put (k := 1) (UInt8.ofNat k)
  have e : (UInt8.ofNat k).toNat = k := by simp; omega
  rw [e] at h1
  exact h1.rd
theorem inL_iff (l : List Nat) (n : Nat) : inL l (n : Int) = true ↔ ∃ y ∈ l, ((y : Nat) : Int) = n := by
  unfold inL
  simp only [List.any_eq_true, decide_eq_true_eq]
/-- What the law's second loop is told, step by step. -/
theorem hold_steps {u : List Nod} {K j : Nat} (hr : RightK u K) (hj : j < 2 ^ K) (hth : (ats u (2 * j)).kind = 1) (k : Nat) (hk : k < K) :
    nd (k + 1) (j / 2 ^ (k + 1)) = rowJ K j (K - 1 - k) ∧
    ((ats (layV u (j : Int)) (nd (k + 1) (j / 2 ^ (k + 1)))).kind = 2 → toldJ K j (layV u (j : Int)) (K - k) = aboV (layV u (j : Int)) ((nd (k + 1) (j / 2 ^ (k + 1)) : Nat) : Int) (sdJ j (nd (k + 1) (j / 2 ^ (k + 1)))) ∧ (ats (layV u (j : Int)) (nd (k + 1) (j / 2 ^ (k + 1)))).hash = toldJ K j (layV u (j : Int)) (K - (k + 1))) ∧
    (¬ (ats (layV u (j : Int)) (nd (k + 1) (j / 2 ^ (k + 1)))).kind = 2 → toldJ K j (layV u (j : Int)) (K - k) = toldJ K j (layV u (j : Int)) (K - (k + 1))) := by
  obtain ⟨_, _, g3, g4, _, _⟩ := told_facts hr hj hth
  have e : nd (k + 1) (j / 2 ^ (k + 1)) = rowJ K j (K - 1 - k) := by unfold rowJ; rw [show K - (K - 1 - k) = k + 1 by omega]
  have e2 : K - k = (K - 1 - k) + 1 := by omega
  have e3 : K - (k + 1) = K - 1 - k := by omega
  refine ⟨e, fun h => ?_, fun h => ?_⟩
  · rw [e] at h ⊢
    rw [e2, e3]
    refine ⟨?_, g4 _ (by omega) (by rw [← g3]; exact h)⟩
    conv => lhs; unfold toldJ
    rw [if_pos h]
  · rw [e] at h
    rw [e2, e3]
    conv => lhs; unfold toldJ
    rw [if_neg h]
set_option maxRecDepth 100000 in
set_option maxHeartbeats 6000000 in
theorem hashHolds_walk (vt : Value) (t : List Nod) (i9 : Nat) (b : UInt8) (w : World) (ht : NL w vt t) (hi9 : i9 ≤ 255) (hTAB : Tab w) :
    Calls Tryd.prog 3 #[vt, .int .u8 (i9 : Int), .int .u8 (b.toNat : Int)] w (Yes w) := by
  have U := u8
  have S5n := s5nodes
  have HTAB := Lib.hid hTAB
  clear hTAB
  have HSH := Lib.hid (shownHash_any w HTAB.out)
  have HMAY := Lib.hid (fun W (hW : Kp w W) => refMayT_any vt t 40 W (ht.kp hW) (by omega))
  have HUS := Lib.hid (fun W (hW : Kp w W) (hl : t.length ≤ 100000) => refUsed_any vt t W (ht.kp hW) hl)
  have HLV := Lib.hid (fun W (hW : Kp w W) (hl : t.length ≤ 100000) => refLvs_any vt t W (ht.kp hW) hl)
  have HRS := Lib.hid (fun W (hW : Kp w W) K x (hr : RightK t K) => refResolve_any vt t K x W (ht.kp hW) hr)
  have wn : IntKind.i64.wrap (i9 : Int) = (i9 : Int) := IntWalk.i64_in _ (by omega)
  have HT0 := Lib.hid ht
  obtain ⟨aa, ca, rfl, _, _⟩ := ht.shape
  clear ht
  go_enter Tryd.func3, Tryd.ntmps3
  go_wp2_with fail
  refine HSH.out.mono ?_
  rintro _ w0 ⟨rfl, k0⟩
  have KK := Lib.hid k0
  clear k0
  go_wp2_with fail
  refine (HMAY.out _ KK.out).mono ?_
  rintro _ w1 ⟨⟨bA, rfl, hA⟩, k1⟩
  have KK := Lib.hid (KK.out.trans k1)
  clear k1 HSH
  cases bA
  · clear hA
    go_wp2_with fail
    go_ret
    exact ⟨rfl, KK.out⟩
  · obtain ⟨K, hr, hd⟩ := may10d (hA.1 rfl)
    clear hA HMAY
    obtain ⟨hz1, hz2, hz3⟩ := hr.small
    have hK10 := hr.le
    have hlv := hr.lv
    have hp2 := p2_le hK10
    obtain ⟨f1, f2, f3, j, f4, f5, f6, f7, f8, f9⟩ := leaf_facts hr hd i9
    have HUS2 := Lib.hid (fun W (hW : Kp w W) => HUS.out W hW (by omega))
    have HLV2 : Hid (∀ W, Kp w W → Calls Tryd.prog 9 #[.slice aa t.length ca] W fun e w' => e = .returned (.int .i64 ((2 ^ K : Nat) : Int)) ∧ W = w') := fun W hW => by
      have := HLV.out W hW (by omega)
      rwa [hlv] at this
    have HRS2 := Lib.hid (fun W (hW : Kp w W) x => HRS.out W hW K x hr)
    have HPA : Hid (∀ W, Calls Tryd.prog 8 #[.int .i64 ((2 * j : Nat) : Int), .int .i64 ((2 ^ K : Nat) : Int)] W fun e w' => (∃ v, e = .returned (.tuple #[v, .int .i64 0]) ∧ ON 3 w' W.heap.size v (pathN K 0 j)) ∧ Kp W w') := fun W => by
      have := refPath_yes K 0 j W hK10 (Nat.zero_le _) (by simpa using f7)
      rwa [nd_leaf] at this
    have HCO : Hid (∀ W, Calls Tryd.prog 10 #[.int .i64 ((2 * j : Nat) : Int), .int .i64 ((2 ^ K : Nat) : Int)] W fun e w' => (∃ v, e = .returned (.tuple #[v, .int .i64 0]) ∧ RN w' v (copathN K 0 j)) ∧ Kp W w') := fun W => by
      have := refCopath_yes K 0 j W hK10 (Nat.zero_le _) (by simpa using f7)
      rwa [nd_leaf] at this
    have hULM : ((usedL t).map fun (n : Nat) => (n : Int)).length = (usedL t).length := List.length_map ..
    have itm : ((i9 : Int)).tmod ((usedL t).length : Int) = ((i9 % (usedL t).length : Nat) : Int) := by rw [Int.tmod_eq_emod_of_nonneg (by omega)]; omega
    have iw : IntKind.i64.wrap ((i9 % (usedL t).length : Nat) : Int) = ((i9 % (usedL t).length : Nat) : Int) := IntWalk.i64_in _ (by omega)
    have hne : (((usedL t).length : Int) == 0) = false := beq_eq_false_iff_ne.2 (by omega)
    have hne2 : ¬ ((usedL t).length : Int) = 0 := by omega
    have hilI : ((i9 % (usedL t).length : Nat) : Int) < ((usedL t).length : Int) := by omega
    have hJb : 2 * j ≤ 100000 := by omega
    obtain ⟨J2, hJ2⟩ : ∃ J2 : Int, ((2 * j : Nat) : Int) = J2 := ⟨_, rfl⟩
    have i2 : IntKind.i64.wrap (2 * (j : Int)) = J2 := by rw [IntWalk.i64_in _ (by omega)]; omega
    rw [hJ2] at HPA HCO
    obtain ⟨NN, hNN⟩ : ∃ NN : Int, ((2 ^ K : Nat) : Int) = NN := ⟨_, rfl⟩
    rw [hNN] at HLV2 HPA HCO
    -- the tree with the path laid anew
    obtain ⟨C, hC⟩ : ∃ C : Nat → Bool, ∀ k, C k = decide (0 < (resV t (((copathN K 0 j).getD k 0 : Nat) : Int)).length) := ⟨fun k => decide (0 < (resV t (((copathN K 0 j).getD k 0 : Nat) : Int)).length), fun _ => rfl⟩
    obtain ⟨u1, u2, u3, u4⟩ := hold_right hr hd f7 b C
    have HUL : Hid (∀ k, (holdU t j b C k).length = t.length) := fun k => hold_len t j b C k
    have HPG : Hid (∀ k, k < K → (pathN K 0 j).getD k 0 = nd (k + 1) (j / 2 ^ (k + 1)) ∧ nd (k + 1) (j / 2 ^ (k + 1)) < t.length) := fun k hk => by
      refine ⟨?_, ?_⟩
      · rw [List.getD_eq_getElem?_getD, pathN_get K 0 j k (by omega), show 0 + 1 + k = k + 1 by omega]; rfl
      · rw [hr.len]
        have := quot_lt (K := K) (j := 0) (q := j) (i := k + 1) (by simpa using f7) (by omega)
        exact nd_lt (by omega) (by simpa using this)
    have hPL : (pathN K 0 j).length = K := by rw [pathN_length]; omega
    have hCL : (copathN K 0 j).length = K := by rw [copathN_length]; omega
    have HLN : Hid (t.length ≤ 1000000) := by unfold Hid; omega
    have HPN := Lib.hid (And.intro hPL hCL)
    have HFU := Lib.hid (And.intro u1 (And.intro u2 (And.intro u3 u4)))
    have HFT := Lib.hid (And.intro hr (And.intro hd (And.intro f5 (And.intro f6 (And.intro f7 hJ2)))))
    have HC := Lib.hid hC
    have hKb : K ≤ 10 := hK10
    generalize hIX : i9 % (usedL t).length = IX at *
    generalize ((usedL t).map fun (n : Nat) => (n : Int)) = UT at *
    obtain ⟨UL, hUL⟩ : ∃ UL, (usedL t).length = UL := ⟨_, rfl⟩
    rw [hUL] at f1 f2 f3 hULM itm hne hne2 hilI
    obtain ⟨N, hN⟩ : ∃ N, t.length = N := ⟨_, rfl⟩
    rw [hN] at HUS2 HLV2 HRS2 HT0 HPG HUL f6 ⊢
    have HNN := Lib.hid hN
    clear hr hd hz1 hz2 hz3 f2 f5 f7 f8 f9 HUS HLV HRS u1 u2 u3 u4 hPL hCL hC hlv hp2 hK10 hN hUL hIX hNN hJ2
    go_wp2_with fail
    refine (HUS2.out _ KK.out).mono ?_; rintro _ w2 ⟨⟨ru, rfl, su⟩, k2⟩
    have KK := Lib.hid (KK.out.trans k2)
    have ru9 := su.ri
    obtain ⟨au, cu, eu, pu, _⟩ := ru9.shape
    subst eu
    rw [hULM] at ru9 pu ⊢
    obtain ⟨g5, o5, e5, _, hc5⟩ := ru9.at IX f3
    subst e5
    have d5 := hc5 IX f3
    rw [f4] at d5
    clear k2 su ru9 hc5 HUS2 f4 hULM
    go_wp2_with fail
    refine (HLV2.out _ KK.out).mono ?_; rintro _ _ ⟨rfl, rfl⟩
    go_wp2_with fail
    refine (HPA.out _).mono ?_; rintro _ w3 ⟨⟨r3, rfl, o3⟩, k3⟩
    have KK := Lib.hid (KK.out.trans k3)
    have P3 := Lib.hid (ON.rn o3)
    obtain ⟨a3, c3, rfl, _, _⟩ := (ON.rn o3).shape
    rw [HPN.out.1] at P3 ⊢
    clear o3 k3 HPA d5
    go_wp2_with fail
    refine (HLV2.out _ KK.out).mono ?_; rintro _ _ ⟨rfl, rfl⟩
    go_wp2_with fail
    refine (HCO.out _).mono ?_; rintro _ w4 ⟨⟨r4, rfl, o4⟩, k4⟩
    have KK := Lib.hid (KK.out.trans k4)
    have P4 := Lib.hid (And.intro (P3.out.kp k4) o4)
    obtain ⟨a4, c4, rfl, _, _⟩ := o4.shape
    rw [HPN.out.2] at P4 ⊢
    clear o4 k4 HCO HLV2 P3
    have HU4 : Hid (NL w4 (.slice aa N ca) t) := HT0.out.kp KK.out
    go_wp2_with (at_builtin; refine wpList_append_nodes (o := ⟨some 59, _, _, _, _, _⟩) S5n rfl _ _ rfl w4.heap.size _ [] rfl (NO.empty 32 w4) _ t rfl (HU4.out.apart ((Kp.refl _).alloc _) (fun g hg => by cases hg; exact Nat.le_refl _)) (by have := HLN.out; simp; omega) (by simp) ?_; intro v5 w5 o5' g5' _; have k5 : Hid (Kp w4 w5) := Kp.grown ((Kp.refl _).alloc _) g5' (fun k hk => by cases hk; exact Nat.le_refl _); rw [List.nil_append] at o5'; obtain ⟨gU, cU, hv5, hgU1, hgU2, _⟩ := o5'.form (by rw [HNN.out]; omega); rw [HNN.out] at hv5; subst hv5; have O5 := Lib.hid o5'; have HGU := Lib.hid (And.intro hgU1 hgU2); clear g5' o5' hgU1 hgU2)
    have hKI : (K : Int) ≤ 10 := by omega
    go_loopw [15] (fun x wr => ∃ k : Nat, k ≤ K ∧ x = .int .i64 (k : Int) ∧ NO 32 wr w4.heap.size (.slice (some ⟨gU, 0, none⟩) N cU) (holdU t j b C k) ∧ Kp w4 wr) (fun x _ => (K - (intOf x).toNat))
    case atStart => exact ⟨0, Nat.zero_le _, rfl, O5.out, k5.out⟩
    case round =>
      obtain ⟨k, hk, rfl, ho, hkp⟩ := hrel
      have HO := Lib.hid (And.intro ho hkp)
      by_cases hlt : k < K
      · obtain ⟨gp, op, rfl, _, hp⟩ := (P4.out.1.kp hkp).at k hlt
        have cp := hp k hlt
        obtain ⟨px, pl⟩ := HPG.out k hlt
        rw [px] at cp
        obtain ⟨gc, oc, rfl, _, _⟩ := (P4.out.2.kp hkp).at k hlt
        have HCC : Hid (∀ W, Kp w4 W → W.cell? ⟨gc, oc + k, none⟩ = some (.int .i64 (((copathN K 0 j).getD k 0 : Nat) : Int)) ∧ W.cell? ⟨gp, op + k, none⟩ = some (.int .i64 ((nd (k + 1) (j / 2 ^ (k + 1)) : Nat) : Int))) := fun W hW => by
          obtain ⟨g', o', e', _, h'⟩ := (P4.out.2.kp hW).at k hlt
          simp only [Option.some.injEq, Addr.mk.injEq, and_true] at e'
          obtain ⟨rfl, rfl⟩ := e'
          obtain ⟨g', o', e', _, h2⟩ := (P4.out.1.kp hW).at k hlt
          simp only [Option.some.injEq, Addr.mk.injEq, and_true] at e'
          obtain ⟨rfl, rfl⟩ := e'
          exact ⟨h' k hlt, by have := h2 k hlt; rwa [px] at this⟩
        have i1 : IntKind.i64.wrap ((k : Int) + 1) = (k : Int) + 1 := IntWalk.i64_in _ (by omega)
        have i3 : (k : Int) < (K : Int) := by omega
        have i8 : IntKind.u8.wrap (k : Int) = (k : Int) := by simp [IntKind.wrap, IntKind.signed, IntKind.bits]; omega
        have HUk : Hid (holdU t j b C (k + 1) = (holdU t j b C k).set (nd (k + 1) (j / 2 ^ (k + 1))) (if C k then parH b k else blankN)) := rfl
        have HLk := HUL.out k
        have hck := HC.out k
        have HRk := Lib.hid (fun W hW => HRS2.out W hW (((copathN K 0 j).getD k 0 : Nat) : Int))
        have hkk : k ≤ 255 := by omega
        generalize (copathN K 0 j).getD k 0 = Y at *
        generalize nd (k + 1) (j / 2 ^ (k + 1)) = X at *
        obtain ⟨TK, hTK⟩ : ∃ TK, holdU t j b C k = TK := ⟨_, rfl⟩
        rw [hTK] at HO HUk HLk
        have hXI : (X : Int) < (N : Int) := by omega
        have HXL : Hid (X < TK.length) := by unfold Hid; omega
        clear hp px ho hkp hTK HPG HRS2 HUL HC HFU HFT pl
        go_wp2_with (refine wpList_store_node infoNode5 rfl rfl (.tmp 72) (.tmp 71) rfl w4.heap.size gU cU N TK (by exact HO.out.1) X (by exact HXL.out) blankN (.slice none 0 0) (.slice none 0 0) (.slice none 0 0) rfl rfl (by exact ⟨rd_nil9 _, RI.nil _, rd_nil9 _⟩) (by exact Apart.nil _ _ _) (by exact Apart.nil _ _ _) (by exact Apart.nil _ _ _) ?_; intro w6 o6 g6; have k6 : Hid (Kp w4 w6) := Below.grown HO.out.2 g6 HO.out.2.size (fun k hk => by cases hk; exact HGU.out.1); have hs6 : Hid (wr.heap.size ≤ w6.heap.size) := g6.size; have O6 := Lib.hid o6; have cc := (HCC.out w6 k6.out).1; clear g6 o6)
        refine (HRk.out w6 (KK.out.trans k6.out)).mono ?_; rintro _ w7 ⟨⟨r7, rfl, o7⟩, k7⟩
        obtain ⟨a7, c7, rfl, _, _⟩ := o7.ri.shape
        have K7 := Lib.hid (And.intro k7 (O6.out.kp k7))
        obtain ⟨RL, hRL⟩ : ∃ RL, (resV t (Y : Int)).length = RL := ⟨_, rfl⟩
        rw [hRL] at hck ⊢
        clear o7 k7 HRk hRL cc cp
        by_cases hc : 0 < RL
        · have hcI : (0 : Int) < (RL : Int) := by omega
          rw [decide_eq_true hc] at hck
          clear hc
          have HE : Hid (holdU t j b C (k + 1) = (TK.set X blankN).set X (parH b k)) := by unfold Hid; rw [HUk.out, hck, List.set_set]; rfl
          have HPH : Hid (parH b k = ⟨2, 0, ((List.replicate 32 0).set 0 b).set 1 (UInt8.ofNat k), [], []⟩) := rfl
          have HXL2 : Hid (X < (TK.set X blankN).length) := by unfold Hid; rw [List.length_set]; exact HXL.out
          have hs7 : w4.heap.size ≤ w7.heap.size ∧ gU < w7.heap.size := by have := K7.out.1.size; have := hs6.out; have := HO.out.2.size; have := (HO.out.1.lt gU rfl).2; omega
          have HS7 := Lib.hid hs7
          clear hck HUk hs7
          go_wp2_with (first
            | (at_make; refine wpList_make_fresh (z := .int .u8 0) (b := 1) Tryd.underlying30 Tryd.info5 rfl (by decide) rfl _ _ rfl 32 rfl rfl (by omega) ?_; intro w8 hw8; have B8 := Bx.new w7 5 (Array.replicate 32 (.int .u8 0)); rw [← hw8] at B8; have d0 := B8.cell 0; have e0 := B8.frozen 0; have d1 := (B8.set 0 (.int .u8 (b.toNat : Int))).cell 1; have e1 := (B8.set 0 (.int .u8 (b.toNat : Int))).frozen 1; simp only [Array.getElem?_setIfInBounds, Array.getElem?_replicate] at d0 d1; simp at d0 d1; have HP8 : Hid (Rd ((w8.setCell ⟨w7.heap.size, 0, none⟩ (.int .u8 (b.toNat : Int))).setCell ⟨w7.heap.size, 1, none⟩ (.int .u8 (k : Int))) (.slice (some ⟨w7.heap.size, 0, none⟩) 32 32) (((List.replicate 32 0).set 0 b).set 1 (UInt8.ofNat k))) := (by rw [hw8]; exact half_two w7 5 b k hkk); have K8 : Hid (Kp w7 ((w8.setCell ⟨w7.heap.size, 0, none⟩ (.int .u8 (b.toNat : Int))).setCell ⟨w7.heap.size, 1, none⟩ (.int .u8 (k : Int)))) := (by rw [hw8]; exact ((((Kp.refl w7).alloc _).setNew (Nat.le_refl _) _).setNew (Nat.le_refl _) _)); have cx := (HCC.out _ (k6.out.trans (K7.out.1.trans K8.out))).2; clear hw8 B8)
            | (refine wpList_store_node infoNode5 rfl rfl (.tmp 96) (.tmp 95) rfl w4.heap.size gU cU N (TK.set X blankN) (by exact K7.out.2.kp K8.out) X (by exact HXL2.out) ⟨2, 0, ((List.replicate 32 0).set 0 b).set 1 (UInt8.ofNat k), [], []⟩ (.slice (some ⟨w7.heap.size, 0, none⟩) 32 32) (.slice none 0 0) (.slice none 0 0) rfl rfl (by exact ⟨HP8.out, RI.nil _, rd_nil9 _⟩) (by exact apart_new (C := w7.heap.size) (fun g' hg' => by cases hg'; exact Nat.le_refl _) (fun g' hg' => by cases hg'; exact HS7.out.2)) (by exact Apart.nil _ _ _) (by exact Apart.nil _ _ _) ?_; intro w9 o9 g9; have K9 : Hid (Kp w4 w9) := Below.grown (k6.out.trans (K7.out.1.trans K8.out)) g9 (k6.out.trans (K7.out.1.trans K8.out)).size (fun k hk => by cases hk; exact HGU.out.1); rw [← HPH.out] at o9; have O9 := Lib.hid o9; clear g9 o9))
          go_roundw
          case rel => exact ⟨k + 1, by omega, by go_num, by rw [HE.out]; exact O9.out, K9.out⟩
          case measure => simp [intOf]; omega
        · have hcI : ¬ (0 : Int) < (RL : Int) := by omega
          rw [decide_eq_false hc] at hck
          have HE : Hid (holdU t j b C (k + 1) = TK.set X blankN) := HUk.out.trans (by rw [hck]; rfl)
          clear hc
          go_wp2_with fail
          go_roundw
          case rel => exact ⟨k + 1, by omega, by go_num, by rw [HE.out]; exact K7.out.2, k6.out.trans K7.out.1⟩
          case measure => simp [intOf]; omega
      · obtain rfl : k = K := by omega
        obtain ⟨u1, u2, u3, u4⟩ := HFU.out
        obtain ⟨t1, t2, t5, t6, t7, t8⟩ := HFT.out
        have hth : (ats (holdU t j b C k) (2 * j)).kind = 1 := by rw [u3]; exact t5
        obtain ⟨v1, v2, v3, v4, v5, v6⟩ := told_facts u1 t7 hth
        obtain ⟨v7, v8, _⟩ := layV_keeps u1 u2 (j : Int)
        have HST := Lib.hid (fun k' hk' => (hold_steps u1 t7 hth k' hk').2)
        have HVO : Hid (∀ y, y ≠ 2 * j → y ∉ pathN k 0 j → ats (layV (holdU t j b C k) (j : Int)) y = ats t y) := fun y h1 h2 => (v6 y h1 (path_row.2 h2)).trans (u4 y h2)
        have HLA := Lib.hid (hashLaid_any _ (holdU t j b C k) k (j : Int) wr u2 u1 HO.out.1.nl (by omega) (HTAB.out.kp (KK.out.trans HO.out.2)))
        rw [v1] at HLA
        have HVL : Hid ((layV (holdU t j b C k) (j : Int)).length = N) := v2.trans (HUL.out k)
        have HVR := Lib.hid (And.intro v7 v8)
        have H0 : Hid ((ats (layV (holdU t j b C k) (j : Int)) (2 * j)).hash = toldJ k j (layV (holdU t j b C k) (j : Int)) (k - 0)) := v5
        have HLL : Hid (toldJ k j (layV (holdU t j b C k) (j : Int)) (k - k) = []) := by unfold Hid; rw [Nat.sub_self]; rfl
        obtain ⟨TS, hTS⟩ : ∃ TS : Nat → List UInt8, TS = fun k' => toldJ k j (layV (holdU t j b C k) (j : Int)) (k - k') := ⟨_, rfl⟩
        have hTSi : ∀ k', toldJ k j (layV (holdU t j b C k) (j : Int)) (k - k') = TS k' := fun k' => by rw [hTS]
        simp only [hTSi] at HST H0 HLL
        generalize layV (holdU t j b C k) (j : Int) = VV at *
        have HAB := Lib.hid (fun u x sd W (hW : Kp w W) (hu : NL W u VV) (hx : -9223372036854775808 ≤ x ∧ x ≤ 9223372036854775807) (hs : -9223372036854775808 ≤ sd ∧ sd ≤ 9223372036854775807) => hashAbove_any u VV k x sd W HVR.out.2 HVR.out.1 hu hx hs (HTAB.out.kp hW))
        have HRV : Hid (∀ W u, NL W u VV → Calls Tryd.prog 13 #[u] W fun e w' => e = .returned (.bool true) ∧ Kp W w') := fun W u hu => by
          refine (refRightT_any u VV W hu (by have := HVL.out; have := HLN.out; rw [HNN.out] at this; have := HVR.out.1.small.1; omega)).mono ?_
          rintro _ w' ⟨⟨b, rfl, hb⟩, hk⟩
          rw [hb.2 ⟨_, HVR.out.1⟩]
          exact ⟨rfl, hk⟩
        have hle : ¬ (k : Int) < (k : Int) := by omega
        have HT8 := Lib.hid t8
        clear u1 u2 u3 u4 t1 t2 t5 t6 t7 t8 hth v1 v2 v3 v4 v5 v6 v7 v8 hTS hTSi ho hkp HUL HC HFU HFT O5 HRS2
        go_wp2_with fail
        refine HLA.out.mono ?_; rintro _ w6 ⟨⟨r6, rfl, o6⟩, k6⟩
        have KK := Lib.hid (KK.out.trans (HO.out.2.trans k6))
        have P6 := Lib.hid (P4.out.1.kp (HO.out.2.trans k6))
        obtain ⟨a6, c6, rfl, _, _⟩ := o6.shape
        rw [HVL.out] at o6 ⊢
        have O6 := Lib.hid o6
        have hnn : ((N : Int) != (N : Int)) = false := bne_eq_false_iff_eq.2 rfl
        clear o6 k6 HLA HO P4
        go_wp2_with fail
        refine (HRV.out _ _ O6.out).mono ?_; rintro _ w7 ⟨rfl, k7⟩
        have KK := Lib.hid (KK.out.trans k7)
        have P7 := Lib.hid (P6.out.kp k7)
        have O7 := Lib.hid (O6.out.kp k7)
        clear k7 O6 P6 HRV
        go_wp2_with fail
        -- TAIL (written by gen/hash5.py)
        have HVN : Hid (∀ x, x < N → ∃ bv ov p u q, a6 = some ⟨bv, ov, none⟩ ∧ ∀ W, Kp w7 W → NAt W bv (ov + x * 5) (ats VV x) p u q) := fun x hx => by
          obtain ⟨bv, ov, e, _, hc⟩ := O7.out.at x hx
          obtain ⟨p, u, q, hn⟩ := hc x hx
          exact ⟨bv, ov, p, u, q, e, fun W hW => hn.kp hW⟩
        go_loopw [19, 20] (fun l x wr => ∃ m : Nat, m ≤ k ∧ x = .int .i64 (m : Int) ∧ (∃ L : Nat, l = .int .i64 (L : Int) ∧ L < N ∧ (ats VV L).hash = TS m) ∧ Kp w7 wr) (fun _ x _ => (k - (intOf x).toNat))
        case atStart => exact ⟨0, Nat.zero_le _, rfl, ⟨2 * j, by rw [HT8.out], f6, H0.out⟩, Kp.refl _⟩
        case round =>
          obtain ⟨m, hm, rfl, ⟨L, rfl, hL, hLh⟩, hkp2⟩ := hrel
          have KR := Lib.hid hkp2
          by_cases hlt2 : m < k
          · obtain ⟨gp, op, ep, _, hp⟩ := (P7.out.kp hkp2).at m hlt2
            subst ep
            have cp := hp m hlt2
            obtain ⟨px, pl⟩ := HPG.out m hlt2
            rw [px] at cp
            have hst := HST.out m hlt2
            have i1 : IntKind.i64.wrap ((m : Int) + 1) = (m : Int) + 1 := IntWalk.i64_in _ (by omega)
            have i3 : (m : Int) < (k : Int) := by omega
            generalize nd (m + 1) (j / 2 ^ (m + 1)) = X at *
            have hXI : (X : Int) < (N : Int) := by omega
            have hLI : (L : Int) < (N : Int) := by omega
            obtain ⟨bv, ov, p1, q1, s1, ea, hn1⟩ := HVN.out X pl
            subst ea
            obtain ⟨bv2, ov2, p2, q2, s2, eb, hn2⟩ := HVN.out L hL
            simp only [Option.some.injEq, Addr.mk.injEq, and_true] at eb
            obtain ⟨rfl, rfl⟩ := eb
            have ck := (hn1 wr hkp2).kind
            have HLC : Hid (∀ W, Kp wr W → W.cell? ⟨bv, ov + L * 5 + 4, none⟩ = some s2 ∧ Rd W s2 (ats VV L).hash) := fun W hW => ⟨(hn2 W (KR.out.trans hW)).hashC, (hn2 W (KR.out.trans hW)).2.hash⟩
            obtain ⟨sa, sn, sc, rfl⟩ := rd_slH (hn2 w7 (Kp.refl _)).2.hash
            have HLH := Lib.hid hLh
            have HLL2 := Lib.hid hL
            have HXX := Lib.hid pl
            by_cases hk2 : (ats VV X).kind = 2
            · obtain ⟨hs1, hs2⟩ := hst.1 hk2
              rw [hk2] at ck
              have hE : ∀ sd, sd = 0 ∨ sd = 1 → aboE VV (X : Int) sd = 0 := fun sd hsd => by
                unfold aboE
                rw [if_pos ⟨by omega, by rw [HVL.out]; omega, by omega, by omega⟩, Int.toNat_natCast, if_pos hk2]
              have hNb : N ≤ 1000000 := by have := HLN.out; rw [HNN.out] at this; exact this
              have HAX : Hid (∀ W sd, Kp wr W → sd = 0 ∨ sd = 1 → Calls Tryd.prog 14 #[.slice (some ⟨bv, ov, none⟩) N c6, .int .i64 (X : Int), .int .i64 sd] W fun e w' => (∃ r, e = .returned (.tuple #[r, .int .i64 0]) ∧ Rd w' r (aboV VV (X : Int) sd)) ∧ Kp W w') := fun W sd hW hsd => by
                have := HAB.out (.slice (some ⟨bv, ov, none⟩) N c6) (X : Int) sd W (KK.out.trans (KR.out.trans hW)) (O7.out.kp (KR.out.trans hW)) (by omega) (by omega)
                rwa [hE sd hsd] at this
              have HSD : Hid (sdJ j X = if (X : Int) < J2 then 1 else 0) := by
                unfold Hid sdJ
                have h8 := HT8.out
                by_cases h : X < 2 * j
                · rw [if_pos h, if_pos (by omega)]
                · rw [if_neg h, if_neg (by omega)]
              have HS1 : Hid ((ats VV L).hash = aboV VV (X : Int) (if (X : Int) < J2 then 1 else 0)) := by unfold Hid; rw [hLh, hs1, HSD.out]
              have HS2 := Lib.hid hs2
              have HSM : Hid (∀ W u v l, Rd W u l → Rd W v l → Calls Tryd.prog 15 #[u, v] W fun e w' => e = .returned (.bool true) ∧ W = w') := fun W u v l hu hv => by
                have := same_any u v l l W hu hv
                rwa [decide_eq_true rfl] at this
              clear hk2 hst hp px hs1 hs2 hE hn1 hn2 hLh hL pl hkp2 HST HPG HAB HVN HT8
              by_cases hsd : (X : Int) < J2
              · rw [if_pos hsd] at HS1
                go_wp2_with fail
                refine (HAX.out _ 1 (Kp.refl _) (.inr rfl)).mono ?_; rintro _ w8 ⟨⟨r8, rfl, o8⟩, k8⟩
                have cl := (HLC.out w8 k8).1
                have R8 := Lib.hid (And.intro (HLC.out w8 k8).2 o8)
                rw [HS1.out] at R8
                have K8 := Lib.hid (KR.out.trans k8)
                clear k8 o8 HLC ck cp
                go_wp2_with fail
                refine (HSM.out _ _ _ _ R8.out.1 R8.out.2).mono ?_; rintro _ _ ⟨rfl, rfl⟩
                clear cl
                go_wp2_with fail
                go_roundw
                case rel => exact ⟨m + 1, by omega, by go_num, ⟨X, rfl, HXX.out, HS2.out⟩, K8.out⟩
                case measure => simp [intOf]; omega
              · rw [if_neg hsd] at HS1
                go_wp2_with fail
                refine (HAX.out _ 0 (Kp.refl _) (.inl rfl)).mono ?_; rintro _ w8 ⟨⟨r8, rfl, o8⟩, k8⟩
                have cl := (HLC.out w8 k8).1
                have R8 := Lib.hid (And.intro (HLC.out w8 k8).2 o8)
                rw [HS1.out] at R8
                have K8 := Lib.hid (KR.out.trans k8)
                clear k8 o8 HLC ck cp
                go_wp2_with fail
                refine (HSM.out _ _ _ _ R8.out.1 R8.out.2).mono ?_; rintro _ _ ⟨rfl, rfl⟩
                clear cl
                go_wp2_with fail
                go_roundw
                case rel => exact ⟨m + 1, by omega, by go_num, ⟨X, rfl, HXX.out, HS2.out⟩, K8.out⟩
                case measure => simp [intOf]; omega
            · have hkb : ((ats VV X).kind != 2) = true := bne_iff_ne.2 hk2
              have HS2 := Lib.hid (hLh.trans (hst.2 hk2))
              generalize (ats VV X).kind = KDX at *
              clear hst hp px hn1 hn2 hLh hL pl hkp2 HST HPG HAB HVN HT8 HLC HLH
              go_wp2_with fail
              go_roundw
              case rel => exact ⟨m + 1, by omega, by go_num, ⟨L, rfl, HLL2.out, HS2.out⟩, KR.out⟩
              case measure => simp [intOf]; omega
          · obtain rfl : m = k := by omega
            have HLE : Hid ((ats VV L).hash.length = 0) := by unfold Hid; rw [hLh, HLL.out]; rfl
            have hle2 : ¬ (m : Int) < (m : Int) := by omega
            obtain ⟨bv, ov, p2, q2, s2, ea, hn2⟩ := HVN.out L hL
            subst ea
            have HLC : Hid (∀ W, Kp wr W → ∃ sa sc, W.cell? ⟨bv, ov + L * 5 + 4, none⟩ = some (.slice sa 0 sc)) := fun W hW => by
              have hh := (hn2 W (KR.out.trans hW))
              obtain ⟨sa, sc, e, _, _⟩ := hh.2.hash.shape
              rw [HLE.out] at e
              exact ⟨sa, sc, by rw [← e]; exact hh.hashC⟩
            have HIN : Hid (∀ W n, Kp wr W → Calls Tryd.prog 16 #[.slice a3 m c3, .int .i64 n] W fun e w' => e = .returned (.bool (inL (pathN m 0 j) n)) ∧ W = w') := fun W n hW => refIn_any _ _ n W (P7.out.kp (KR.out.trans hW))
            have HTN : Hid (∀ x, x < N → ∃ bt ot p u q, aa = some ⟨bt, ot, none⟩ ∧ ∀ W, Kp wr W → NAt W bt (ot + x * 5) (ats t x) p u q) := fun x hx => by
              obtain ⟨bt, ot, e, _, hc⟩ := HT0.out.at x hx
              obtain ⟨p, u, q, hn⟩ := hc x hx
              exact ⟨bt, ot, p, u, q, e, fun W hW => hn.kp (KK.out.trans (KR.out.trans hW))⟩
            have HVN2 : Hid (∀ x, x < N → ∃ p u q, ∀ W, Kp wr W → NAt W bv (ov + x * 5) (ats VV x) p u q) := fun x hx => by
              obtain ⟨b', o', p, u, q, e, hn⟩ := HVN.out x hx
              simp only [Option.some.injEq, Addr.mk.injEq, and_true] at e
              obtain ⟨rfl, rfl⟩ := e
              exact ⟨p, u, q, fun W hW => hn W (KR.out.trans hW)⟩
            have HLL2 := Lib.hid hL
            have hLI : (L : Int) < (N : Int) := by omega
            have KW := Lib.hid (KK.out.trans KR.out)
            have HNB := Lib.hid (show N ≤ 1000000 by have := HLN.out; rw [HNN.out] at this; exact this)
            clear hLh hL hn2 hkp2 HST HPG HAB HVN HLL H0
            go_wp2_with fail
            obtain ⟨wp, hwp⟩ : ∃ x : World, x = wr := ⟨_, rfl⟩
            subst hwp
            go_loopw [25] (fun x wr => ∃ y : Nat, y ≤ N ∧ x = .int .i64 (y : Int) ∧ Kp wp wr) (fun x _ => (N - (intOf x).toNat))
            case atStart => exact ⟨0, Nat.zero_le _, rfl, Kp.refl _⟩
            case round =>
              obtain ⟨y, hy, rfl, hkq⟩ := hrel
              have KQ := Lib.hid hkq
              have hyb := HNB.out
              by_cases hly : y < N
              · have i1 : IntKind.i64.wrap ((y : Int) + 1) = (y : Int) + 1 := IntWalk.i64_in _ (by omega)
                have i3 : (y : Int) < (N : Int) := by omega
                have KDR : Hid (Kp wp wr.drew) := hkq.drew
                have hin := Lib.hid (HIN.out wr.drew (y : Int) KDR.out)
                by_cases hy2 : y = 2 * j
                · have hb1 : ((y : Int) != J2) = false := bne_eq_false_iff_eq.2 (by have := HT8.out; omega)
                  clear hin hy2
                  go_wp2_with fail
                  refine wp_region_held_drew (S := fun W => True) (by kernel_rfl) (trivial) (fun hHeld => ?_)
                  refine wpAnyH_take (i := 0) (oi := ⟨some 165, _, _, _, _, _⟩) (v := ?_) rfl (by kernel_rfl) (by kernel_rfl) (by kernel_rfl) (fun _ _ _ h => h) (Or.inl ⟨by kernel_rfl, ?_⟩) (by assumption) ?_
                  rotate_left
                  focus ((intro w hSw; (try dsimp only at hSw); go_simp); (try with_reducible rfl); done)
                  simp only [Act.put, List.setIfInBounds_toArray, List.set_cons_zero, List.set_cons_succ]
                  refine wpAnyH_take (i := 1) (oi := ⟨some 166, _, _, _, _, _⟩) (v := ?_) rfl (by kernel_rfl) (by kernel_rfl) (by kernel_rfl) (fun _ _ _ h => h) (Or.inl ⟨by kernel_rfl, ?_⟩) (by assumption) ?_
                  rotate_left
                  focus ((intro w hSw; (try dsimp only at hSw); go_simp); (try with_reducible rfl); done)
                  simp only [Act.put, List.setIfInBounds_toArray, List.set_cons_zero, List.set_cons_succ]
                  refine wpAnyH_take (i := 2) (oi := ⟨some 167, _, _, _, _, _⟩) (v := ?_) rfl (by kernel_rfl) (by kernel_rfl) (by kernel_rfl) (fun _ _ _ h => h) (Or.inl ⟨by kernel_rfl, ?_⟩) (by assumption) ?_
                  rotate_left
                  focus ((intro w hSw; (try dsimp only at hSw); go_simp); (try with_reducible rfl); done)
                  simp only [Act.put, List.setIfInBounds_toArray, List.set_cons_zero, List.set_cons_succ]
                  refine wpAnyH_take (i := 3) (oi := ⟨some 168, _, _, _, _, _⟩) (v := ?_) rfl (by kernel_rfl) (by kernel_rfl) (by kernel_rfl) (fun _ _ _ h => h) (Or.inl ⟨by kernel_rfl, ?_⟩) (by assumption) ?_
                  rotate_left
                  focus ((intro w hSw; (try dsimp only at hSw); go_simp); (try with_reducible rfl); done)
                  simp only [Act.put, List.setIfInBounds_toArray, List.set_cons_zero, List.set_cons_succ]
                  refine wpAnyH_take (i := 4) (oi := ⟨some 169, _, _, _, _, _⟩) (v := ?_) rfl (by kernel_rfl) (by kernel_rfl) (by kernel_rfl) (fun _ _ _ h => h) (Or.inl ⟨by kernel_rfl, ?_⟩) (by assumption) ?_
                  rotate_left
                  focus ((intro w hSw; (try dsimp only at hSw); go_simp); (try with_reducible rfl); done)
                  simp only [Act.put, List.setIfInBounds_toArray, List.set_cons_zero, List.set_cons_succ]
                  refine wpAnyH_take (i := 5) (oi := ⟨some 170, _, _, _, _, _⟩) (v := undef) rfl (by kernel_rfl) (by kernel_rfl) (by kernel_rfl) (fun _ _ _ h => h) (Or.inr ⟨by kernel_rfl, rfl⟩) (by assumption) ?_
                  simp only [Act.put, List.setIfInBounds_toArray, List.set_cons_zero, List.set_cons_succ]
                  refine wpAnyH_take (i := 6) (oi := ⟨some 171, _, _, _, _, _⟩) (v := undef) rfl (by kernel_rfl) (by kernel_rfl) (by kernel_rfl) (fun _ _ _ h => h) (Or.inr ⟨by kernel_rfl, rfl⟩) (by assumption) ?_
                  simp only [Act.put, List.setIfInBounds_toArray, List.set_cons_zero, List.set_cons_succ]
                  refine wpAnyH_take (i := 7) (oi := ⟨some 172, _, _, _, _, _⟩) (v := undef) rfl (by kernel_rfl) (by kernel_rfl) (by kernel_rfl) (fun _ _ _ h => h) (Or.inr ⟨by kernel_rfl, rfl⟩) (by assumption) ?_
                  simp only [Act.put, List.setIfInBounds_toArray, List.set_cons_zero, List.set_cons_succ]
                  refine wpAnyH_take (i := 8) (oi := ⟨some 173, _, _, _, _, _⟩) (v := undef) rfl (by kernel_rfl) (by kernel_rfl) (by kernel_rfl) (fun _ _ _ h => h) (Or.inr ⟨by kernel_rfl, rfl⟩) (by assumption) ?_
                  simp only [Act.put, List.setIfInBounds_toArray, List.set_cons_zero, List.set_cons_succ]
                  refine wpAnyH_take (i := 9) (oi := ⟨some 174, _, _, _, _, _⟩) (v := ?_) rfl (by kernel_rfl) (by kernel_rfl) (by kernel_rfl) (fun _ _ _ h => h) (Or.inl ⟨by kernel_rfl, ?_⟩) (by assumption) ?_
                  rotate_left
                  focus ((intro w hSw; (try dsimp only at hSw); go_simp); (try with_reducible rfl); done)
                  simp only [Act.put, List.setIfInBounds_toArray, List.set_cons_zero, List.set_cons_succ]
                  refine wpAnyH_take (i := 10) (oi := ⟨some 175, _, _, _, _, _⟩) (v := ?_) rfl (by kernel_rfl) (by kernel_rfl) (by kernel_rfl) (fun _ _ _ h => h) (Or.inl ⟨by kernel_rfl, ?_⟩) (by assumption) ?_
                  rotate_left
                  focus ((intro w hSw; (try dsimp only at hSw); go_simp); (try with_reducible rfl); done)
                  simp only [Act.put, List.setIfInBounds_toArray, List.set_cons_zero, List.set_cons_succ]
                  refine wpAnyH_take (i := 11) (oi := ⟨some 176, _, _, _, _, _⟩) (v := undef) rfl (by kernel_rfl) (by kernel_rfl) (by kernel_rfl) (fun _ _ _ h => h) (Or.inr ⟨by kernel_rfl, rfl⟩) (by assumption) ?_
                  simp only [Act.put, List.setIfInBounds_toArray, List.set_cons_zero, List.set_cons_succ]
                  refine wpAnyH_take (i := 12) (oi := ⟨some 177, _, _, _, _, _⟩) (v := undef) rfl (by kernel_rfl) (by kernel_rfl) (by kernel_rfl) (fun _ _ _ h => h) (Or.inr ⟨by kernel_rfl, rfl⟩) (by assumption) ?_
                  simp only [Act.put, List.setIfInBounds_toArray, List.set_cons_zero, List.set_cons_succ]
                  refine wpAnyH_take (i := 13) (oi := ⟨some 178, _, _, _, _, _⟩) (v := undef) rfl (by kernel_rfl) (by kernel_rfl) (by kernel_rfl) (fun _ _ _ h => h) (Or.inr ⟨by kernel_rfl, rfl⟩) (by assumption) ?_
                  simp only [Act.put, List.setIfInBounds_toArray, List.set_cons_zero, List.set_cons_succ]
                  refine wpAnyH_take (i := 14) (oi := ⟨some 179, _, _, _, _, _⟩) (v := undef) rfl (by kernel_rfl) (by kernel_rfl) (by kernel_rfl) (fun _ _ _ h => h) (Or.inr ⟨by kernel_rfl, rfl⟩) (by assumption) ?_
                  simp only [Act.put, List.setIfInBounds_toArray, List.set_cons_zero, List.set_cons_succ]
                  refine wpAnyH_take (i := 15) (oi := ⟨some 180, _, _, _, _, _⟩) (v := undef) rfl (by kernel_rfl) (by kernel_rfl) (by kernel_rfl) (fun _ _ _ h => h) (Or.inr ⟨by kernel_rfl, rfl⟩) (by assumption) ?_
                  simp only [Act.put, List.setIfInBounds_toArray, List.set_cons_zero, List.set_cons_succ]
                  refine wpAnyH_take (i := 16) (oi := ⟨some 181, _, _, _, _, _⟩) (v := undef) rfl (by kernel_rfl) (by kernel_rfl) (by kernel_rfl) (fun _ _ _ h => h) (Or.inr ⟨by kernel_rfl, rfl⟩) (by assumption) ?_
                  simp only [Act.put, List.setIfInBounds_toArray, List.set_cons_zero, List.set_cons_succ]
                  refine wpAnyH_take (i := 17) (oi := ⟨some 182, _, _, _, _, _⟩) (v := undef) rfl (by kernel_rfl) (by kernel_rfl) (by kernel_rfl) (fun _ _ _ h => h) (Or.inr ⟨by kernel_rfl, rfl⟩) (by assumption) ?_
                  simp only [Act.put, List.setIfInBounds_toArray, List.set_cons_zero, List.set_cons_succ]
                  refine wpAnyH_take (i := 18) (oi := ⟨some 183, _, _, _, _, _⟩) (v := undef) rfl (by kernel_rfl) (by kernel_rfl) (by kernel_rfl) (fun _ _ _ h => h) (Or.inr ⟨by kernel_rfl, rfl⟩) (by assumption) ?_
                  simp only [Act.put, List.setIfInBounds_toArray, List.set_cons_zero, List.set_cons_succ]
                  refine wpAnyH_take (i := 19) (oi := ⟨some 184, _, _, _, _, _⟩) (v := undef) rfl (by kernel_rfl) (by kernel_rfl) (by kernel_rfl) (fun _ _ _ h => h) (Or.inr ⟨by kernel_rfl, rfl⟩) (by assumption) ?_
                  simp only [Act.put, List.setIfInBounds_toArray, List.set_cons_zero, List.set_cons_succ]
                  refine wpAnyH_take (i := 20) (oi := ⟨some 185, _, _, _, _, _⟩) (v := undef) rfl (by kernel_rfl) (by kernel_rfl) (by kernel_rfl) (fun _ _ _ h => h) (Or.inr ⟨by kernel_rfl, rfl⟩) (by assumption) ?_
                  simp only [Act.put, List.setIfInBounds_toArray, List.set_cons_zero, List.set_cons_succ]
                  refine wpAnyH_take (i := 21) (oi := ⟨some 186, _, _, _, _, _⟩) (v := ?_) rfl (by kernel_rfl) (by kernel_rfl) (by kernel_rfl) (fun _ _ _ h => h) (Or.inl ⟨by kernel_rfl, ?_⟩) (by assumption) ?_
                  rotate_left
                  focus ((intro w hSw; (try dsimp only at hSw); go_simp); (try with_reducible rfl); done)
                  simp only [Act.put, List.setIfInBounds_toArray, List.set_cons_zero, List.set_cons_succ]
                  refine wpAnyH_done (by kernel_rfl) ?_ _
                  go_wp2_with fail
                  go_roundw
                  case rel => exact ⟨y + 1, by omega, by go_num, KDR.out⟩
                  case measure => simp [intOf]; omega
                · have hb1 : ((y : Int) != J2) = true := bne_iff_ne.2 (by have := HT8.out; omega)
                  by_cases hin2 : inL (pathN m 0 j) (y : Int) = true
                  · rw [hin2] at hin
                    clear hy2 hin2
                    go_wp2_with fail
                    refine wp_region_held_drew (S := fun W => True) (by kernel_rfl) (trivial) (fun hHeld => ?_)
                    refine wpAnyH_take (i := 0) (oi := ⟨some 165, _, _, _, _, _⟩) (v := ?_) rfl (by kernel_rfl) (by kernel_rfl) (by kernel_rfl) (fun _ _ _ h => h) (Or.inl ⟨by kernel_rfl, ?_⟩) (by assumption) ?_
                    rotate_left
                    focus ((intro w hSw; (try dsimp only at hSw); go_simp); (try with_reducible rfl); done)
                    simp only [Act.put, List.setIfInBounds_toArray, List.set_cons_zero, List.set_cons_succ]
                    refine wpAnyH_take (i := 1) (oi := ⟨some 166, _, _, _, _, _⟩) (v := ?_) rfl (by kernel_rfl) (by kernel_rfl) (by kernel_rfl) (fun _ _ _ h => h) (Or.inl ⟨by kernel_rfl, ?_⟩) (by assumption) ?_
                    rotate_left
                    focus ((intro w hSw; (try dsimp only at hSw); go_simp); (try with_reducible rfl); done)
                    simp only [Act.put, List.setIfInBounds_toArray, List.set_cons_zero, List.set_cons_succ]
                    refine wpAnyH_take (i := 2) (oi := ⟨some 167, _, _, _, _, _⟩) (v := ?_) rfl (by kernel_rfl) (by kernel_rfl) (by kernel_rfl) (fun _ _ _ h => h) (Or.inl ⟨by kernel_rfl, ?_⟩) (by assumption) ?_
                    rotate_left
                    focus ((intro w hSw; (try dsimp only at hSw); go_simp); (try with_reducible rfl); done)
                    simp only [Act.put, List.setIfInBounds_toArray, List.set_cons_zero, List.set_cons_succ]
                    refine wpAnyH_take (i := 3) (oi := ⟨some 168, _, _, _, _, _⟩) (v := ?_) rfl (by kernel_rfl) (by kernel_rfl) (by kernel_rfl) (fun _ _ _ h => h) (Or.inl ⟨by kernel_rfl, ?_⟩) (by assumption) ?_
                    rotate_left
                    focus ((intro w hSw; (try dsimp only at hSw); go_simp); (try with_reducible rfl); done)
                    simp only [Act.put, List.setIfInBounds_toArray, List.set_cons_zero, List.set_cons_succ]
                    refine wpAnyH_take (i := 4) (oi := ⟨some 169, _, _, _, _, _⟩) (v := ?_) rfl (by kernel_rfl) (by kernel_rfl) (by kernel_rfl) (fun _ _ _ h => h) (Or.inl ⟨by kernel_rfl, ?_⟩) (by assumption) ?_
                    rotate_left
                    focus ((intro w hSw; (try dsimp only at hSw); go_simp); (try with_reducible rfl); done)
                    simp only [Act.put, List.setIfInBounds_toArray, List.set_cons_zero, List.set_cons_succ]
                    refine wpAnyH_take (i := 5) (oi := ⟨some 170, _, _, _, _, _⟩) (v := ?_) rfl (by kernel_rfl) (by kernel_rfl) (by kernel_rfl) (fun _ _ _ h => h) (Or.inl ⟨by kernel_rfl, ?_⟩) (by assumption) ?_
                    rotate_left
                    focus ((intro w hSw; (try dsimp only at hSw); go_simp); (try with_reducible rfl); done)
                    simp only [Act.put, List.setIfInBounds_toArray, List.set_cons_zero, List.set_cons_succ]
                    refine wpAnyH_take (i := 6) (oi := ⟨some 171, _, _, _, _, _⟩) (v := ?_) rfl (by kernel_rfl) (by kernel_rfl) (by kernel_rfl) (fun _ _ _ h => h) (Or.inl ⟨by kernel_rfl, ?_⟩) (by assumption) ?_
                    rotate_left
                    focus ((intro w hSw; (try dsimp only at hSw); go_simp); (try with_reducible rfl); done)
                    simp only [Act.put, List.setIfInBounds_toArray, List.set_cons_zero, List.set_cons_succ]
                    refine wpAnyH_ready (rs := [7]) (by kernel_rfl) (by simp) ?_
                    refine AllReadyH.cons (o := ⟨some 172, _, _, _, _, _⟩) rfl (fun K hK => ?_) AllReadyH.nil
                    go_simp
                    go_at_call 16; refine hin.out.mono ?_; rintro _ _ ⟨rfl, rfl⟩
                    refine hK.out _ _ (trivial) (fun hHeld => ?_)
                    clear hK K
                    try simp only [Act.put, List.setIfInBounds_toArray, List.set_cons_zero, List.set_cons_succ]
                    refine wpAnyH_take (i := 8) (oi := ⟨some 173, _, _, _, _, _⟩) (v := ?_) rfl (by kernel_rfl) (by kernel_rfl) (by kernel_rfl) (fun _ _ _ h => h) (Or.inl ⟨by kernel_rfl, ?_⟩) (by assumption) ?_
                    rotate_left
                    focus ((intro w hSw; (try dsimp only at hSw); go_simp); (try with_reducible rfl); done)
                    simp only [Act.put, List.setIfInBounds_toArray, List.set_cons_zero, List.set_cons_succ]
                    refine wpAnyH_take (i := 9) (oi := ⟨some 174, _, _, _, _, _⟩) (v := ?_) rfl (by kernel_rfl) (by kernel_rfl) (by kernel_rfl) (fun _ _ _ h => h) (Or.inl ⟨by kernel_rfl, ?_⟩) (by assumption) ?_
                    rotate_left
                    focus ((intro w hSw; (try dsimp only at hSw); go_simp); (try with_reducible rfl); done)
                    simp only [Act.put, List.setIfInBounds_toArray, List.set_cons_zero, List.set_cons_succ]
                    refine wpAnyH_take (i := 10) (oi := ⟨some 175, _, _, _, _, _⟩) (v := ?_) rfl (by kernel_rfl) (by kernel_rfl) (by kernel_rfl) (fun _ _ _ h => h) (Or.inl ⟨by kernel_rfl, ?_⟩) (by assumption) ?_
                    rotate_left
                    focus ((intro w hSw; (try dsimp only at hSw); go_simp); (try with_reducible rfl); done)
                    simp only [Act.put, List.setIfInBounds_toArray, List.set_cons_zero, List.set_cons_succ]
                    refine wpAnyH_take (i := 11) (oi := ⟨some 176, _, _, _, _, _⟩) (v := undef) rfl (by kernel_rfl) (by kernel_rfl) (by kernel_rfl) (fun _ _ _ h => h) (Or.inr ⟨by kernel_rfl, rfl⟩) (by assumption) ?_
                    simp only [Act.put, List.setIfInBounds_toArray, List.set_cons_zero, List.set_cons_succ]
                    refine wpAnyH_take (i := 12) (oi := ⟨some 177, _, _, _, _, _⟩) (v := undef) rfl (by kernel_rfl) (by kernel_rfl) (by kernel_rfl) (fun _ _ _ h => h) (Or.inr ⟨by kernel_rfl, rfl⟩) (by assumption) ?_
                    simp only [Act.put, List.setIfInBounds_toArray, List.set_cons_zero, List.set_cons_succ]
                    refine wpAnyH_take (i := 13) (oi := ⟨some 178, _, _, _, _, _⟩) (v := undef) rfl (by kernel_rfl) (by kernel_rfl) (by kernel_rfl) (fun _ _ _ h => h) (Or.inr ⟨by kernel_rfl, rfl⟩) (by assumption) ?_
                    simp only [Act.put, List.setIfInBounds_toArray, List.set_cons_zero, List.set_cons_succ]
                    refine wpAnyH_take (i := 14) (oi := ⟨some 179, _, _, _, _, _⟩) (v := undef) rfl (by kernel_rfl) (by kernel_rfl) (by kernel_rfl) (fun _ _ _ h => h) (Or.inr ⟨by kernel_rfl, rfl⟩) (by assumption) ?_
                    simp only [Act.put, List.setIfInBounds_toArray, List.set_cons_zero, List.set_cons_succ]
                    refine wpAnyH_take (i := 15) (oi := ⟨some 180, _, _, _, _, _⟩) (v := undef) rfl (by kernel_rfl) (by kernel_rfl) (by kernel_rfl) (fun _ _ _ h => h) (Or.inr ⟨by kernel_rfl, rfl⟩) (by assumption) ?_
                    simp only [Act.put, List.setIfInBounds_toArray, List.set_cons_zero, List.set_cons_succ]
                    refine wpAnyH_take (i := 16) (oi := ⟨some 181, _, _, _, _, _⟩) (v := undef) rfl (by kernel_rfl) (by kernel_rfl) (by kernel_rfl) (fun _ _ _ h => h) (Or.inr ⟨by kernel_rfl, rfl⟩) (by assumption) ?_
                    simp only [Act.put, List.setIfInBounds_toArray, List.set_cons_zero, List.set_cons_succ]
                    refine wpAnyH_take (i := 17) (oi := ⟨some 182, _, _, _, _, _⟩) (v := undef) rfl (by kernel_rfl) (by kernel_rfl) (by kernel_rfl) (fun _ _ _ h => h) (Or.inr ⟨by kernel_rfl, rfl⟩) (by assumption) ?_
                    simp only [Act.put, List.setIfInBounds_toArray, List.set_cons_zero, List.set_cons_succ]
                    refine wpAnyH_take (i := 18) (oi := ⟨some 183, _, _, _, _, _⟩) (v := undef) rfl (by kernel_rfl) (by kernel_rfl) (by kernel_rfl) (fun _ _ _ h => h) (Or.inr ⟨by kernel_rfl, rfl⟩) (by assumption) ?_
                    simp only [Act.put, List.setIfInBounds_toArray, List.set_cons_zero, List.set_cons_succ]
                    refine wpAnyH_take (i := 19) (oi := ⟨some 184, _, _, _, _, _⟩) (v := undef) rfl (by kernel_rfl) (by kernel_rfl) (by kernel_rfl) (fun _ _ _ h => h) (Or.inr ⟨by kernel_rfl, rfl⟩) (by assumption) ?_
                    simp only [Act.put, List.setIfInBounds_toArray, List.set_cons_zero, List.set_cons_succ]
                    refine wpAnyH_take (i := 20) (oi := ⟨some 185, _, _, _, _, _⟩) (v := undef) rfl (by kernel_rfl) (by kernel_rfl) (by kernel_rfl) (fun _ _ _ h => h) (Or.inr ⟨by kernel_rfl, rfl⟩) (by assumption) ?_
                    simp only [Act.put, List.setIfInBounds_toArray, List.set_cons_zero, List.set_cons_succ]
                    refine wpAnyH_take (i := 21) (oi := ⟨some 186, _, _, _, _, _⟩) (v := ?_) rfl (by kernel_rfl) (by kernel_rfl) (by kernel_rfl) (fun _ _ _ h => h) (Or.inl ⟨by kernel_rfl, ?_⟩) (by assumption) ?_
                    rotate_left
                    focus ((intro w hSw; (try dsimp only at hSw); go_simp); (try with_reducible rfl); done)
                    simp only [Act.put, List.setIfInBounds_toArray, List.set_cons_zero, List.set_cons_succ]
                    refine wpAnyH_done (by kernel_rfl) ?_ _
                    go_wp2_with fail
                    go_roundw
                    case rel => exact ⟨y + 1, by omega, by go_num, KDR.out⟩
                    case measure => simp [intOf]; omega
                  · have hin3 : inL (pathN m 0 j) (y : Int) = false := by rw [Bool.eq_false_iff]; exact hin2
                    have hnm : y ∉ pathN m 0 j := fun h => hin2 (by rw [inL_iff]; exact ⟨y, h, rfl⟩)
                    have HEQ := Lib.hid (HVO.out y hy2 hnm)
                    rw [hin3] at hin
                    obtain ⟨bt, ot, tp, tu, tq, et, hnt⟩ := HTN.out y hly
                    subst et
                    obtain ⟨vp, vu, vq, hnv⟩ := HVN2.out y hly
                    obtain ⟨pa, pn, pc, rfl⟩ := rd_slH (hnt wp (Kp.refl _)).2.pub
                    obtain ⟨ua, un, uc, rfl⟩ := (hnt wp (Kp.refl _)).2.un.sl
                    obtain ⟨qa, qn, qc, rfl⟩ := rd_slH (hnt wp (Kp.refl _)).2.hash
                    obtain ⟨pa2, pn2, pc2, rfl⟩ := rd_slH (hnv wp (Kp.refl _)).2.pub
                    obtain ⟨ua2, un2, uc2, rfl⟩ := (hnv wp (Kp.refl _)).2.un.sl
                    obtain ⟨qa2, qn2, qc2, rfl⟩ := rd_slH (hnv wp (Kp.refl _)).2.hash
                    obtain ⟨X1, hX1⟩ : ∃ X1, ats t y = X1 := ⟨_, rfl⟩
                    obtain ⟨X2, hX2⟩ : ∃ X2, ats VV y = X2 := ⟨_, rfl⟩
                    rw [hX1] at hnt HEQ
                    rw [hX2] at hnv HEQ
                    have HSS : Hid (∀ W, Kp wp W → W.cell? ⟨bt, ot + y * 5, none⟩ = some (.int .i64 X1.kind) ∧ W.cell? ⟨bt, ot + y * 5 + 1, none⟩ = some (.int .i64 X1.name) ∧ W.cell? ⟨bt, ot + y * 5 + 2, none⟩ = some (.slice pa pn pc) ∧ W.cell? ⟨bt, ot + y * 5 + 3, none⟩ = some (.slice ua un uc) ∧ W.cell? ⟨bt, ot + y * 5 + 4, none⟩ = some (.slice qa qn qc) ∧ W.cell? ⟨bv, ov + y * 5, none⟩ = some (.int .i64 X2.kind) ∧ W.cell? ⟨bv, ov + y * 5 + 1, none⟩ = some (.int .i64 X2.name) ∧ W.cell? ⟨bv, ov + y * 5 + 2, none⟩ = some (.slice pa2 pn2 pc2) ∧ W.cell? ⟨bv, ov + y * 5 + 3, none⟩ = some (.slice ua2 un2 uc2) ∧ W.cell? ⟨bv, ov + y * 5 + 4, none⟩ = some (.slice qa2 qn2 qc2)) := fun W hW => ⟨(hnt W hW).kind, (hnt W hW).name, (hnt W hW).pubC, (hnt W hW).unC, (hnt W hW).hashC, (hnv W hW).kind, (hnv W hW).name, (hnv W hW).pubC, (hnv W hW).unC, (hnv W hW).hashC⟩
                    have HC : Hid (∀ W, Kp wp W → Calls Tryd.prog 17 #[.agg #[.int .i64 X1.kind, .int .i64 X1.name, .slice pa pn pc, .slice ua un uc, .slice qa qn qc], .agg #[.int .i64 X2.kind, .int .i64 X2.name, .slice pa2 pn2 pc2, .slice ua2 un2 uc2, .slice qa2 qn2 qc2]] W fun e w' => e = .returned (.bool true) ∧ Kp W w') := fun W hW => by
                      refine (refSameNode_any _ _ X1 X2 W ⟨_, _, _, rfl, (hnt W hW).2⟩ ⟨_, _, _, rfl, (hnv W hW).2⟩).mono ?_
                      rintro _ w' ⟨⟨b, rfl, hb⟩, hk⟩
                      rw [hb.2 HEQ.out.symm]
                      exact ⟨rfl, hk⟩
                    clear hy2 hin2 hin3 hnm hnt hnv hX1 hX2 HEQ
                    go_wp2_with fail
                    refine wp_region_held_drew (S := fun W => W.cell? ⟨bt, ot + y * 5, none⟩ = some (.int .i64 X1.kind) ∧ W.cell? ⟨bt, ot + y * 5 + 1, none⟩ = some (.int .i64 X1.name) ∧ W.cell? ⟨bt, ot + y * 5 + 2, none⟩ = some (.slice pa pn pc) ∧ W.cell? ⟨bt, ot + y * 5 + 3, none⟩ = some (.slice ua un uc) ∧ W.cell? ⟨bt, ot + y * 5 + 4, none⟩ = some (.slice qa qn qc) ∧ W.cell? ⟨bv, ov + y * 5, none⟩ = some (.int .i64 X2.kind) ∧ W.cell? ⟨bv, ov + y * 5 + 1, none⟩ = some (.int .i64 X2.name) ∧ W.cell? ⟨bv, ov + y * 5 + 2, none⟩ = some (.slice pa2 pn2 pc2) ∧ W.cell? ⟨bv, ov + y * 5 + 3, none⟩ = some (.slice ua2 un2 uc2) ∧ W.cell? ⟨bv, ov + y * 5 + 4, none⟩ = some (.slice qa2 qn2 qc2)) (by kernel_rfl) (HSS.out _ (by first | exact K12.out | exact KDR.out)) (fun hHeld => ?_)
                    refine wpAnyH_take (i := 0) (oi := ⟨some 165, _, _, _, _, _⟩) (v := ?_) rfl (by kernel_rfl) (by kernel_rfl) (by kernel_rfl) (fun _ _ _ h => h) (Or.inl ⟨by kernel_rfl, ?_⟩) (by assumption) ?_
                    rotate_left
                    focus ((intro w hSw; (try dsimp only at hSw); go_simp); (try with_reducible rfl); done)
                    simp only [Act.put, List.setIfInBounds_toArray, List.set_cons_zero, List.set_cons_succ]
                    refine wpAnyH_take (i := 1) (oi := ⟨some 166, _, _, _, _, _⟩) (v := ?_) rfl (by kernel_rfl) (by kernel_rfl) (by kernel_rfl) (fun _ _ _ h => h) (Or.inl ⟨by kernel_rfl, ?_⟩) (by assumption) ?_
                    rotate_left
                    focus ((intro w hSw; (try dsimp only at hSw); go_simp); (try with_reducible rfl); done)
                    simp only [Act.put, List.setIfInBounds_toArray, List.set_cons_zero, List.set_cons_succ]
                    refine wpAnyH_take (i := 2) (oi := ⟨some 167, _, _, _, _, _⟩) (v := ?_) rfl (by kernel_rfl) (by kernel_rfl) (by kernel_rfl) (fun _ _ _ h => h) (Or.inl ⟨by kernel_rfl, ?_⟩) (by assumption) ?_
                    rotate_left
                    focus ((intro w hSw; (try dsimp only at hSw); go_simp); (try with_reducible rfl); done)
                    simp only [Act.put, List.setIfInBounds_toArray, List.set_cons_zero, List.set_cons_succ]
                    refine wpAnyH_take (i := 3) (oi := ⟨some 168, _, _, _, _, _⟩) (v := ?_) rfl (by kernel_rfl) (by kernel_rfl) (by kernel_rfl) (fun _ _ _ h => h) (Or.inl ⟨by kernel_rfl, ?_⟩) (by assumption) ?_
                    rotate_left
                    focus ((intro w hSw; (try dsimp only at hSw); go_simp); (try with_reducible rfl); done)
                    simp only [Act.put, List.setIfInBounds_toArray, List.set_cons_zero, List.set_cons_succ]
                    refine wpAnyH_take (i := 4) (oi := ⟨some 169, _, _, _, _, _⟩) (v := ?_) rfl (by kernel_rfl) (by kernel_rfl) (by kernel_rfl) (fun _ _ _ h => h) (Or.inl ⟨by kernel_rfl, ?_⟩) (by assumption) ?_
                    rotate_left
                    focus ((intro w hSw; (try dsimp only at hSw); go_simp); (try with_reducible rfl); done)
                    simp only [Act.put, List.setIfInBounds_toArray, List.set_cons_zero, List.set_cons_succ]
                    refine wpAnyH_take (i := 5) (oi := ⟨some 170, _, _, _, _, _⟩) (v := ?_) rfl (by kernel_rfl) (by kernel_rfl) (by kernel_rfl) (fun _ _ _ h => h) (Or.inl ⟨by kernel_rfl, ?_⟩) (by assumption) ?_
                    rotate_left
                    focus ((intro w hSw; (try dsimp only at hSw); go_simp); (try with_reducible rfl); done)
                    simp only [Act.put, List.setIfInBounds_toArray, List.set_cons_zero, List.set_cons_succ]
                    refine wpAnyH_take (i := 6) (oi := ⟨some 171, _, _, _, _, _⟩) (v := ?_) rfl (by kernel_rfl) (by kernel_rfl) (by kernel_rfl) (fun _ _ _ h => h) (Or.inl ⟨by kernel_rfl, ?_⟩) (by assumption) ?_
                    rotate_left
                    focus ((intro w hSw; (try dsimp only at hSw); go_simp); (try with_reducible rfl); done)
                    simp only [Act.put, List.setIfInBounds_toArray, List.set_cons_zero, List.set_cons_succ]
                    refine wpAnyH_ready (rs := [7]) (by kernel_rfl) (by simp) ?_
                    refine AllReadyH.cons (o := ⟨some 172, _, _, _, _, _⟩) rfl (fun K hK => ?_) AllReadyH.nil
                    go_simp
                    go_at_call 16; refine hin.out.mono ?_; rintro _ _ ⟨rfl, rfl⟩
                    refine hK.out _ _ (HSS.out _ (by first | exact K12.out | exact KDR.out)) (fun hHeld => ?_)
                    clear hK K
                    try simp only [Act.put, List.setIfInBounds_toArray, List.set_cons_zero, List.set_cons_succ]
                    refine wpAnyH_take (i := 8) (oi := ⟨some 173, _, _, _, _, _⟩) (v := ?_) rfl (by kernel_rfl) (by kernel_rfl) (by kernel_rfl) (fun _ _ _ h => h) (Or.inl ⟨by kernel_rfl, ?_⟩) (by assumption) ?_
                    rotate_left
                    focus ((intro w hSw; (try dsimp only at hSw); go_simp); (try with_reducible rfl); done)
                    simp only [Act.put, List.setIfInBounds_toArray, List.set_cons_zero, List.set_cons_succ]
                    refine wpAnyH_take (i := 9) (oi := ⟨some 174, _, _, _, _, _⟩) (v := ?_) rfl (by kernel_rfl) (by kernel_rfl) (by kernel_rfl) (fun _ _ _ h => h) (Or.inl ⟨by kernel_rfl, ?_⟩) (by assumption) ?_
                    rotate_left
                    focus ((intro w hSw; (try dsimp only at hSw); go_simp); (try with_reducible rfl); done)
                    simp only [Act.put, List.setIfInBounds_toArray, List.set_cons_zero, List.set_cons_succ]
                    refine wpAnyH_take (i := 10) (oi := ⟨some 175, _, _, _, _, _⟩) (v := ?_) rfl (by kernel_rfl) (by kernel_rfl) (by kernel_rfl) (fun _ _ _ h => h) (Or.inl ⟨by kernel_rfl, ?_⟩) (by assumption) ?_
                    rotate_left
                    focus ((intro w hSw; (try dsimp only at hSw); go_simp); (try with_reducible rfl); done)
                    simp only [Act.put, List.setIfInBounds_toArray, List.set_cons_zero, List.set_cons_succ]
                    refine wpAnyH_take (i := 11) (oi := ⟨some 176, _, _, _, _, _⟩) (v := ?_) rfl (by kernel_rfl) (by kernel_rfl) (by kernel_rfl) (fun _ _ _ h => h) (Or.inl ⟨by kernel_rfl, ?_⟩) (by assumption) ?_
                    rotate_left
                    focus ((intro w hSw; (try dsimp only at hSw); go_simp); (try with_reducible rfl); done)
                    simp only [Act.put, List.setIfInBounds_toArray, List.set_cons_zero, List.set_cons_succ]
                    refine wpAnyH_take (i := 12) (oi := ⟨some 177, _, _, _, _, _⟩) (v := ?_) rfl (by kernel_rfl) (by kernel_rfl) (by kernel_rfl) (fun _ _ _ h => h) (Or.inl ⟨by kernel_rfl, ?_⟩) (by assumption) ?_
                    rotate_left
                    focus ((intro w hSw; (try dsimp only at hSw); go_simp); (try with_reducible rfl); done)
                    simp only [Act.put, List.setIfInBounds_toArray, List.set_cons_zero, List.set_cons_succ]
                    refine wpAnyH_take (i := 13) (oi := ⟨some 178, _, _, _, _, _⟩) (v := ?_) rfl (by kernel_rfl) (by kernel_rfl) (by kernel_rfl) (fun _ _ _ h => h) (Or.inl ⟨by kernel_rfl, ?_⟩) (by assumption) ?_
                    rotate_left
                    focus ((intro w hSw; (try dsimp only at hSw); go_simp); (try with_reducible rfl); done)
                    simp only [Act.put, List.setIfInBounds_toArray, List.set_cons_zero, List.set_cons_succ]
                    refine wpAnyH_take (i := 14) (oi := ⟨some 179, _, _, _, _, _⟩) (v := ?_) rfl (by kernel_rfl) (by kernel_rfl) (by kernel_rfl) (fun _ _ _ h => h) (Or.inl ⟨by kernel_rfl, ?_⟩) (by assumption) ?_
                    rotate_left
                    focus ((intro w hSw; (try dsimp only at hSw); go_simp); (try with_reducible rfl); done)
                    simp only [Act.put, List.setIfInBounds_toArray, List.set_cons_zero, List.set_cons_succ]
                    refine wpAnyH_take (i := 15) (oi := ⟨some 180, _, _, _, _, _⟩) (v := ?_) rfl (by kernel_rfl) (by kernel_rfl) (by kernel_rfl) (fun _ _ _ h => h) (Or.inl ⟨by kernel_rfl, ?_⟩) (by assumption) ?_
                    rotate_left
                    focus ((intro w hSw; (try dsimp only at hSw); go_simp); (try with_reducible rfl); done)
                    simp only [Act.put, List.setIfInBounds_toArray, List.set_cons_zero, List.set_cons_succ]
                    refine wpAnyH_take (i := 16) (oi := ⟨some 181, _, _, _, _, _⟩) (v := ?_) rfl (by kernel_rfl) (by kernel_rfl) (by kernel_rfl) (fun _ _ _ h => h) (Or.inl ⟨by kernel_rfl, ?_⟩) (by assumption) ?_
                    rotate_left
                    focus ((intro w hSw; (try dsimp only at hSw); go_simp); (try with_reducible rfl); done)
                    simp only [Act.put, List.setIfInBounds_toArray, List.set_cons_zero, List.set_cons_succ]
                    refine wpAnyH_take (i := 17) (oi := ⟨some 182, _, _, _, _, _⟩) (v := ?_) rfl (by kernel_rfl) (by kernel_rfl) (by kernel_rfl) (fun _ _ _ h => h) (Or.inl ⟨by kernel_rfl, ?_⟩) (by assumption) ?_
                    rotate_left
                    focus ((intro w hSw; (try dsimp only at hSw); go_simp); (try with_reducible rfl); done)
                    simp only [Act.put, List.setIfInBounds_toArray, List.set_cons_zero, List.set_cons_succ]
                    refine wpAnyH_take (i := 18) (oi := ⟨some 183, _, _, _, _, _⟩) (v := ?_) rfl (by kernel_rfl) (by kernel_rfl) (by kernel_rfl) (fun _ _ _ h => h) (Or.inl ⟨by kernel_rfl, ?_⟩) (by assumption) ?_
                    rotate_left
                    focus ((intro w hSw; (try dsimp only at hSw); go_simp); (try with_reducible rfl); done)
                    simp only [Act.put, List.setIfInBounds_toArray, List.set_cons_zero, List.set_cons_succ]
                    refine wpAnyH_ready (rs := [19]) (by kernel_rfl) (by simp) ?_
                    refine AllReadyH.cons (o := ⟨some 184, _, _, _, _, _⟩) rfl (fun K hK => ?_) AllReadyH.nil
                    go_simp
                    go_at_call 17; refine (HC.out _ KDR.out).mono ?_; rintro _ w12 ⟨rfl, k12⟩; have K12 := Lib.hid (KDR.out.trans k12); clear k12
                    refine hK.out _ _ (HSS.out _ (by first | exact K12.out | exact KDR.out)) (fun hHeld => ?_)
                    clear hK K
                    try simp only [Act.put, List.setIfInBounds_toArray, List.set_cons_zero, List.set_cons_succ]
                    refine wpAnyH_take (i := 20) (oi := ⟨some 185, _, _, _, _, _⟩) (v := ?_) rfl (by kernel_rfl) (by kernel_rfl) (by kernel_rfl) (fun _ _ _ h => h) (Or.inl ⟨by kernel_rfl, ?_⟩) (by assumption) ?_
                    rotate_left
                    focus ((intro w hSw; (try dsimp only at hSw); go_simp); (try with_reducible rfl); done)
                    simp only [Act.put, List.setIfInBounds_toArray, List.set_cons_zero, List.set_cons_succ]
                    refine wpAnyH_take (i := 21) (oi := ⟨some 186, _, _, _, _, _⟩) (v := ?_) rfl (by kernel_rfl) (by kernel_rfl) (by kernel_rfl) (fun _ _ _ h => h) (Or.inl ⟨by kernel_rfl, ?_⟩) (by assumption) ?_
                    rotate_left
                    focus ((intro w hSw; (try dsimp only at hSw); go_simp); (try with_reducible rfl); done)
                    simp only [Act.put, List.setIfInBounds_toArray, List.set_cons_zero, List.set_cons_succ]
                    refine wpAnyH_done (by kernel_rfl) ?_ _
                    have K12E := K12
                    go_wp2_with fail
                    go_roundw
                    case rel => exact ⟨y + 1, by omega, by go_num, K12E.out⟩
                    case measure => simp [intOf]; omega
              · obtain rfl : y = N := by omega
                have hle3 : ¬ (y : Int) < (y : Int) := by omega
                obtain ⟨sa, sc, cl⟩ := HLC.out wr KQ.out
                clear hkq
                go_wp2_with fail
                go_ret
                exact ⟨by simp, KW.out.trans KQ.out⟩
theorem hashHolds_int (vt : Value) (t : List Nod) (i b : Int) (w : World) (ht : NL w vt t) (hi : 0 ≤ i ∧ i ≤ 255) (hb : 0 ≤ b ∧ b ≤ 255) (hT : Tab w) :
    Calls Tryd.prog 3 #[vt, .int .u8 i, .int .u8 b] w (Yes w) := by
  obtain ⟨i, rfl⟩ := Int.eq_ofNat_of_zero_le hi.1
  obtain ⟨n, rfl⟩ := Int.eq_ofNat_of_zero_le hb.1
  have e : ((n : Nat) : Int) = ((UInt8.ofNat n).toNat : Int) := by
    have : (UInt8.ofNat n).toNat = n := by simp; omega
    rw [this]
  rw [e]
  exact hashHolds_walk vt t i (UInt8.ofNat n) w ht (by omega) hT
end Go.Proofs.YtobldbodafaajaaDoor

/- SigSpoilt (written by gen/sig1.py). -/
import Derived.Test.YtdcbljfacmidjaaSigOwn
import Derived.Test.YtdcbljfacmidjaaShownSig
import Derived.Test.YtdcbljfacmidjaaRefSig2
import Derived.Test.YtdcbljfacmidjaaStrEq
set_option linter.unusedVariables false
set_option linter.unusedSimpArgs false
namespace Go.Proofs.Ytdcbljfacmidjaa
open Go.RowKit

theorem same_yes7c (u v : Value) (l : List UInt8) (w : World) (h : Rd w u l) (h' : Rd w v l) : Calls Try.prog 12 #[u, v] w fun e w' => e = .returned (.bool true) ∧ w = w' := by
  have := same_any u v l l w h h'
  rwa [decide_eq_true rfl] at this
theorem same_no7c (u v : Value) (l m : List UInt8) (w : World) (hn : l ≠ m) (h : Rd w u l) (h' : Rd w v m) : Calls Try.prog 12 #[u, v] w fun e w' => e = .returned (.bool false) ∧ w = w' := by
  have := same_any u v l m w h h'
  rwa [decide_eq_false hn] at this
theorem set_xor7 (l : List UInt8) (i : Nat) (hi : i < l.length) (x : UInt8) : (l = l.set i (l.getD i 0 ^^^ x)) ↔ x = 0 := by
  constructor
  · intro h
    have h1 := congrArg (fun m => m.getD i 0) h
    simp only [List.getD_eq_getElem?_getD, List.getElem?_set_self hi, List.getElem?_eq_getElem hi, Option.getD_some] at h1
    have h2 : l[i] ^^^ (l[i] ^^^ x) = l[i] ^^^ l[i] := by rw [← h1]
    rw [← UInt8.xor_assoc, UInt8.xor_self, UInt8.zero_xor] at h2
    exact h2
  · rintro rfl
    rw [UInt8.xor_zero, List.getD_eq_getElem?_getD, List.getElem?_eq_getElem hi, Option.getD_some, List.set_getElem_self]

set_option maxRecDepth 100000 in
set_option maxHeartbeats 8000000 in
theorem sigSpoilt_walk (va vx vy : Value) (sa sb : ByteArray) (la lx ly : List UInt8) (at' : Nat) (c : UInt8) (w : World) (ha : Rd w va la) (hx : Rd w vx lx) (hy : Rd w vy ly) (hat : (at' : Int) ≤ 255) :
    Calls Try.prog 5 #[.agg #[va, .string sa, .string sb, vx, vy, .int .u8 (at' : Int), .int .u8 (c.toNat : Int)]] w (Yes w) := by
  have U := u8
  obtain ⟨a1, c1, rfl, p1, s1⟩ := ha.shape
  obtain ⟨a4, c4, rfl, p4, s4⟩ := hx.shape
  obtain ⟨a5, c5, rfl, p5, s5⟩ := hy.shape
  by_cases h0 : la.length = 32
  rotate_left
  · have q1 : ((la.length : Int) == 32) = false := beq_eq_false_iff_ne.2 (by omega)
    have q2 : ¬ (la.length : Int) = 32 := by omega
    go_enter Try.func5, Try.ntmps5
    go_wp2_with fail
    refine (shownSig_any _).mono ?_
    rintro e w1 ⟨rfl, k1⟩
    have k1 := ((Kp.refl w).alloc _).trans k1
    go_wp2_with fail
    go_ret
    exact ⟨rfl, k1⟩
  by_cases h1 : sa.size ≤ 50
  rotate_left
  · have q1 : 50 < (sa.size : Int) := by omega
    rw [h0]
    go_enter Try.func5, Try.ntmps5
    go_wp2_with fail
    refine (shownSig_any _).mono ?_
    rintro e w1 ⟨rfl, k1⟩
    have k1 := ((Kp.refl w).alloc _).trans k1
    go_wp2_with fail
    go_ret
    exact ⟨rfl, k1⟩
  by_cases h2 : sb.size ≤ 50
  rotate_left
  · have q1 : 50 < (sb.size : Int) := by omega
    rw [h0]
    have r1 : ¬ 50 < (sa.size : Int) := by omega
    go_enter Try.func5, Try.ntmps5
    go_wp2_with fail
    refine (shownSig_any _).mono ?_
    rintro e w1 ⟨rfl, k1⟩
    have k1 := ((Kp.refl w).alloc _).trans k1
    go_wp2_with fail
    go_ret
    exact ⟨rfl, k1⟩
  by_cases h3 : lx.length ≤ 100
  rotate_left
  · have q1 : 100 < (lx.length : Int) := by omega
    rw [h0]
    have r1 : ¬ 50 < (sa.size : Int) := by omega
    have r2 : ¬ 50 < (sb.size : Int) := by omega
    go_enter Try.func5, Try.ntmps5
    go_wp2_with fail
    refine (shownSig_any _).mono ?_
    rintro e w1 ⟨rfl, k1⟩
    have k1 := ((Kp.refl w).alloc _).trans k1
    go_wp2_with fail
    go_ret
    exact ⟨rfl, k1⟩
  by_cases h4 : ly.length ≤ 100
  rotate_left
  · have q1 : 100 < (ly.length : Int) := by omega
    rw [h0]
    have r1 : ¬ 50 < (sa.size : Int) := by omega
    have r2 : ¬ 50 < (sb.size : Int) := by omega
    have r3 : ¬ 100 < (lx.length : Int) := by omega
    go_enter Try.func5, Try.ntmps5
    go_wp2_with fail
    refine (shownSig_any _).mono ?_
    rintro e w1 ⟨rfl, k1⟩
    have k1 := ((Kp.refl w).alloc _).trans k1
    go_wp2_with fail
    go_ret
    exact ⟨rfl, k1⟩
  obtain ⟨P, hP⟩ : ∃ P, pubB la = P := ⟨_, rfl⟩
  have hPL : P.length = 32 := by rw [← hP]; exact pubB_length _
  obtain ⟨S, hS⟩ : ∃ S, sigB P sa.data.toList lx = S := ⟨_, rfl⟩
  have hSL : S.length = 32 := by rw [← hS]; exact sigB_length _ _ _
  obtain ⟨i, hi⟩ : ∃ i, at' % 32 = i := ⟨_, rfl⟩
  have hi32 : i < 32 := by omega
  have hbx := b8_xor (S.getD i 0) c
  have hsx := set_xor7 S i (by omega) c
  obtain ⟨bc, hbc⟩ : ∃ bc, decide (c = 0) = bc := ⟨_, rfl⟩
  have hc0 : ((c.toNat : Int) == 0) = bc := by
    rw [← hbc]
    by_cases h : c = 0
    · subst h; rfl
    · have h2 : ¬ (c.toNat : Int) = 0 := fun q => h (by
        apply UInt8.toNat_inj.1
        have h5 : c.toNat = 0 := by omega
        rw [h5]; rfl)
      rw [decide_eq_false h, beq_eq_false_iff_ne.2 h2]
  obtain ⟨B0, hB0⟩ : ∃ B0, S.getD i 0 = B0 := ⟨_, rfl⟩
  rw [hB0] at hbx hsx
  generalize B0 ^^^ c = Z at *
  obtain ⟨T, hT⟩ : ∃ T, S.set i Z = T := ⟨_, rfl⟩
  rw [hT] at hsx
  have hTL : T.length = 32 := by rw [← hT, List.length_set]; exact hSL
  obtain ⟨E, hE⟩ : ∃ E, verE P sa.data.toList lx T = E := ⟨_, rfl⟩
  have hE0 : (E == 0) = bc := by
    rw [← hE, ← hbc]
    unfold verE
    rw [if_pos hPL, hS]
    by_cases h : c = 0
    · rw [if_pos (hsx.2 h), decide_eq_true h]; rfl
    · rw [if_neg (fun q => h (hsx.1 q)), decide_eq_false h]; rfl
  have H1 : Hid (∀ W (_ : Kp w W), Calls Try.prog 8 #[.slice a1 la.length c1] W fun e w' => (∃ r, e = .returned (.tuple #[r, .int .i64 0]) ∧ Rd w' r (P)) ∧ Kp W w') := fun W hW => by
    have := sigPublic_any _ la W (ha.kp hW)
    rwa [(pub_yes h0).1, (pub_yes h0).2, hP] at this
  have H2 : Hid (∀ W (_ : Kp w W), Calls Try.prog 10 #[.slice a1 la.length c1, .string sa, .slice a4 lx.length c4] W fun e w' => (∃ r, e = .returned (.tuple #[r, .int .i64 0]) ∧ Rd w' r (S)) ∧ Kp W w') := fun W hW => by
    have := sigSign_any _ sa _ la lx W (ha.kp hW) (hx.kp hW) (by omega) (by omega)
    rwa [(pub_yes h0).1, show signR la sa.data.toList lx = sigB (pubB la) sa.data.toList lx from if_pos h0, hP, hS] at this
  have H3 : Hid (∀ W u x (_ : Kp w W) (_ : Rd W u P) (_ : Rd W x S), Calls Try.prog 13 #[u, .string sb, .slice a5 ly.length c5, x] W fun e w' => e = .returned (.int .i64 (if sigB P sb.data.toList ly = S then 0 else 5)) ∧ Kp W w') := fun W u x hW hu hs => by
    have := sigVerify_any u sb _ x P ly S W hu (hy.kp hW) hs (by omega) (by omega)
    rwa [show verE P sb.data.toList ly S = if sigB P sb.data.toList ly = S then 0 else 5 from if_pos hPL] at this
  have H4 : Hid (∀ W u x (_ : Kp w W) (_ : Rd W u P) (_ : Rd W x T), Calls Try.prog 13 #[u, .string sa, .slice a4 lx.length c4, x] W fun e w' => e = .returned (.int .i64 (E)) ∧ Kp W w') := fun W u x hW hu hs => by
    have := sigVerify_any u sa _ x P lx T W hu (hx.kp hW) hs (by omega) (by omega)
    rwa [hE] at this
  have H5 : Hid (∀ W u x (_ : Kp w W) (_ : Rd W u P) (_ : Rd W x (S.take 31)), Calls Try.prog 13 #[u, .string sa, .slice a4 lx.length c4, x] W fun e w' => e = .returned (.int .i64 (5)) ∧ Kp W w') := fun W u x hW hu hs => by
    have := sigVerify_any u sa _ x P lx (S.take 31) W hu (hx.kp hW) hs (by omega) (by omega)
    rwa [show verE P sa.data.toList lx (S.take 31) = 5 from by unfold verE; rw [if_pos hPL, hS]; exact if_neg (fun q => by have := congrArg List.length q; rw [List.length_take] at this; omega)] at this
  have HTA : Hid (∀ W (_ : Kp w W), Calls Try.prog 18 #[.string sa, .slice a4 lx.length c4] W fun e w' => (∃ r, e = .returned r ∧ Rd w' r (signedB sa.data.toList lx)) ∧ Kp W w') := fun W hW => toldSig_any sa _ lx W (hx.kp hW) (by omega) (by omega)
  have HTB : Hid (∀ W (_ : Kp w W), Calls Try.prog 18 #[.string sb, .slice a5 ly.length c5] W fun e w' => (∃ r, e = .returned r ∧ Rd w' r (signedB sb.data.toList ly)) ∧ Kp W w') := fun W hW => toldSig_any sb _ ly W (hy.kp hW) (by omega) (by omega)
  have ha1 := signedB_length sa.data.toList lx (by show sa.size ≤ 300; omega) (by omega)
  have hb1 := signedB_length sb.data.toList ly (by show sb.size ≤ 300; omega) (by omega)
  have HM : Hid (∀ W u v l (_ : Rd W u P) (_ : Rd W v l) (_ : l.length ≤ 1800), Calls Try.prog 17 #[u, v] W fun e w' => (∃ r, e = .returned r ∧ Rd w' r (macB P l)) ∧ Kp W w') := fun W u v l hu hv hl => by
    refine (refMac_sum u v P l W hu hv (by omega) (by omega)).mono ?_
    rintro _ w' ⟨⟨r, rfl, o⟩, kk⟩
    exact ⟨⟨r, rfl, o.rd⟩, kk⟩
  have HMS : Hid (macB P (signedB sa.data.toList lx) = S) := hS
  have HWY : Hid ((sa = sb ∧ lx = ly) ∨ ((sa ≠ sb ∨ lx ≠ ly) ∧ (sigB P sb.data.toList ly = S ∨ ¬ sigB P sb.data.toList ly = S))) := by
    by_cases q1 : sa = sb
    · by_cases q2 : lx = ly
      · exact .inl ⟨q1, q2⟩
      · exact .inr ⟨.inr q2, Classical.em _⟩
    · exact .inr ⟨.inl q1, Classical.em _⟩
  have HXY := Lib.hid (And.intro hx hy)
  have HL := Lib.hid (And.intro hSL (And.intro hTL (And.intro hi32 (And.intro hB0 hT))))
  have HLL := Lib.hid (And.intro ha1 hb1)
  have i1 : IntKind.i64.wrap (at' : Int) = (at' : Int) := IntWalk.i64_in _ (by omega)
  have i2 : (at' : Int).tmod 32 = (i : Int) := by rw [Int.tmod_eq_emod_of_nonneg (by omega)]; omega
  have i3 : IntKind.i64.wrap (i : Int) = (i : Int) := IntWalk.i64_in _ (by omega)
  rw [h0] at H1 H2 ⊢
  have r1 : ¬ 50 < (sa.size : Int) := by omega
  have r2 : ¬ 50 < (sb.size : Int) := by omega
  have r3 : ¬ 100 < (lx.length : Int) := by omega
  have r4 : ¬ 100 < (ly.length : Int) := by omega
  clear ha hx hy h0 h1 h2 h3 h4 hP hPL hS hSL hi hsx hbc hB0 hT hTL hE hat ha1 hb1
  go_enter Try.func5, Try.ntmps5
  go_wp2_with fail
  refine (shownSig_any _).mono ?_
  rintro e w1 ⟨rfl, k1⟩
  have k1 := ((Kp.refl w).alloc _).trans k1
  have K1 := Lib.hid k1
  clear k1
  go_wp2_with fail
  refine (H1.out _ K1.out).mono ?_
  rintro _ w2 ⟨⟨p, rfl, s1⟩, k2⟩
  have RP := Lib.hid s1
  have K2 := Lib.hid (K1.out.trans k2)
  clear k2 s1
  go_wp2_with fail
  refine (H2.out _ K2.out).mono ?_
  rintro _ w3 ⟨⟨x, rfl, s1⟩, k3⟩
  obtain ⟨asx, cs, rfl, ps, _⟩ := s1.shape
  rw [HL.out.1] at s1 ps ⊢
  have RP := Lib.hid (RP.out.kp k3)
  have RS := Lib.hid s1
  have K3 := Lib.hid (K2.out.trans k3)
  clear k3 s1
  have i4 : (31 : Int) ≤ (cs : Int) := by omega
  clear H1 H2 K1 K2
  rcases HWY.out with ⟨rfl, rfl⟩ | ⟨hne, hr⟩
  · have e3 : (if sigB P sa.data.toList lx = S then (0 : Int) else 5) = 0 := if_pos HMS.out
    go_wp2_with fail
    refine (H3.out _ _ _ K3.out RP.out RS.out).mono ?_
    rw [e3]
    rintro _ w4 ⟨rfl, k4⟩
    have RP := Lib.hid (RP.out.kp k4)
    have RS := Lib.hid (RS.out.kp k4)
    have K4 := Lib.hid (K3.out.trans k4)
    clear k4 H3 K3
    go_wp2_with fail
    refine (same_yes7c _ _ _ w4 (HXY.out.1.kp K4.out) (HXY.out.2.kp K4.out)).mono ?_
    rintro _ _ ⟨rfl, rfl⟩
    clear HWY HTA HTB HM e3
    go_wp2_with (at_builtin; refine wpList_append_ow (o := ⟨some 117, _, _, _, _, _⟩) U rfl _ _ rfl w4.heap.size _ [] rfl (Ow.lit w4 _ _ 0 #[] [] (Nat.le_refl _) rfl (by omega) rfl) _ S rfl (RS.out.kp ((Kp.refl _).alloc _)) (by have := HL.out.1; simp; omega) (by simp) ?_; intro v4 v5 ho hg _; have kk : Kp w4 v5 := Kp.grown ((Kp.refl w4).alloc _) hg (fun k e => by cases e; exact Nat.le_refl _); have ho4 : Ow 5 v5 w4.heap.size v4 S := (by simpa using ho); obtain ⟨g, cc, rfl, y1, y2, y3, y4⟩ := ow_some5 ho4 (by have := HL.out.1; omega); rw [HL.out.1] at ho4 y3 ⊢; obtain ⟨z1, z2, z3⟩ := ow_put5 ho4 i (by have := HL.out; omega) Z; rw [HL.out.2.2.2.1] at z1; rw [HL.out.2.2.2.2] at z3; have hi32 : i < 32 := HL.out.2.2.1; have z4 := Below.setCell kk (p := ⟨g, i, none⟩) y1 (.int .u8 (Z.toNat : Int)); have ZZ := Lib.hid (And.intro z3 z4); clear ho hg ho4 kk z3 z4)
    obtain ⟨W, hW⟩ : ∃ W, v5.setCell ⟨g, i, none⟩ (.int .u8 (Z.toNat : Int)) = W := ⟨_, rfl⟩
    rw [hW] at ZZ ⊢
    have RT := Lib.hid ZZ.out.1.rd
    have K8 := Lib.hid (K4.out.trans ZZ.out.2)
    have RP := Lib.hid (RP.out.kp ZZ.out.2)
    have RS := Lib.hid (RS.out.kp ZZ.out.2)
    clear ZZ hW z1 z2
    refine (H4.out _ _ _ K8.out RP.out RT.out).mono ?_
    rintro _ w9 ⟨rfl, k9⟩
    have RP := Lib.hid (RP.out.kp k9)
    have RS := Lib.hid (RS.out.kp k9)
    have K9 := Lib.hid (K8.out.trans k9)
    clear k9 K8 RT
    go_wp2_with fail
    refine (H5.out _ _ _ K9.out RP.out (RS.out.pre6 31 (by omega))).mono ?_
    rintro _ w10 ⟨rfl, k10⟩
    have K10 := Lib.hid (K9.out.trans k10)
    clear k10
    go_wp2_with fail
    go_ret
    exact ⟨rfl, K10.out⟩
  · by_cases hs : sa = sb
    · subst hs
      have hne2 : lx ≠ ly := hne.resolve_left (fun h => h rfl)
      clear hne HWY
      rcases hr with hr | hr
      · have e3 : (if sigB P sa.data.toList ly = S then (0 : Int) else 5) = 0 := if_pos hr
        have hr2 : macB P (signedB sa.data.toList ly) = S := hr
        have HR := Lib.hid hr
        clear hr
        go_wp2_with fail
        refine (H3.out _ _ _ K3.out RP.out RS.out).mono ?_
        rw [e3]
        clear e3
        rintro _ w4 ⟨rfl, k4⟩
        have RP := Lib.hid (RP.out.kp k4)
        have RS := Lib.hid (RS.out.kp k4)
        have K4 := Lib.hid (K3.out.trans k4)
        clear k4 H3 K3
        go_wp2_with fail
        refine (same_no7c _ _ _ _ w4 hne2 (HXY.out.1.kp K4.out) (HXY.out.2.kp K4.out)).mono ?_
        rintro _ _ ⟨rfl, rfl⟩
        clear hne2
        go_wp2_with fail
        refine (HTA.out _ K4.out).mono ?_
        rintro _ w5 ⟨⟨r1, rfl, s1⟩, k5⟩
        have RP := Lib.hid (RP.out.kp k5)
        have RS := Lib.hid (RS.out.kp k5)
        have T1 := Lib.hid s1
        have K5 := Lib.hid (K4.out.trans k5)
        clear k5 s1
        go_wp2_with fail
        refine (HM.out _ _ _ _ RP.out T1.out HLL.out.1).mono ?_
        rintro _ w6 ⟨⟨r2, rfl, s1⟩, k6⟩
        rw [HMS.out] at s1
        have RP := Lib.hid (RP.out.kp k6)
        have RS := Lib.hid (RS.out.kp k6)
        have M1 := Lib.hid s1
        have K6 := Lib.hid (K5.out.trans k6)
        clear k6 s1
        go_wp2_with fail
        refine (HTB.out _ K6.out).mono ?_
        rintro _ w7 ⟨⟨r3, rfl, s1⟩, k7⟩
        have RP := Lib.hid (RP.out.kp k7)
        have RS := Lib.hid (RS.out.kp k7)
        have M1 := Lib.hid (M1.out.kp k7)
        have T2 := Lib.hid s1
        have K7 := Lib.hid (K6.out.trans k7)
        clear k7 s1
        go_wp2_with fail
        refine (HM.out _ _ _ _ RP.out T2.out HLL.out.2).mono ?_
        rintro _ w8 ⟨⟨r4, rfl, s1⟩, k8⟩
        rw [hr2] at s1
        have RP := Lib.hid (RP.out.kp k8)
        have RS := Lib.hid (RS.out.kp k8)
        have M1 := Lib.hid (M1.out.kp k8)
        have M2 := Lib.hid s1
        have K8 := Lib.hid (K7.out.trans k8)
        clear k8 s1
        go_wp2_with fail
        refine (same_yes7c _ _ _ w8 M1.out M2.out).mono ?_
        rintro _ _ ⟨rfl, rfl⟩
        clear T1 T2 M1 M2 K4 K5 K6 K7
        go_wp2_with (at_builtin; refine wpList_append_ow (o := ⟨some 117, _, _, _, _, _⟩) U rfl _ _ rfl w8.heap.size _ [] rfl (Ow.lit w8 _ _ 0 #[] [] (Nat.le_refl _) rfl (by omega) rfl) _ S rfl (RS.out.kp ((Kp.refl _).alloc _)) (by have := HL.out.1; simp; omega) (by simp) ?_; intro v4 v5 ho hg _; have kk : Kp w8 v5 := Kp.grown ((Kp.refl w8).alloc _) hg (fun k e => by cases e; exact Nat.le_refl _); have ho4 : Ow 5 v5 w8.heap.size v4 S := (by simpa using ho); obtain ⟨g, cc, rfl, y1, y2, y3, y4⟩ := ow_some5 ho4 (by have := HL.out.1; omega); rw [HL.out.1] at ho4 y3 ⊢; obtain ⟨z1, z2, z3⟩ := ow_put5 ho4 i (by have := HL.out; omega) Z; rw [HL.out.2.2.2.1] at z1; rw [HL.out.2.2.2.2] at z3; have hi32 : i < 32 := HL.out.2.2.1; have z4 := Below.setCell kk (p := ⟨g, i, none⟩) y1 (.int .u8 (Z.toNat : Int)); have ZZ := Lib.hid (And.intro z3 z4); clear ho hg ho4 kk z3 z4)
        obtain ⟨W, hW⟩ : ∃ W, v5.setCell ⟨g, i, none⟩ (.int .u8 (Z.toNat : Int)) = W := ⟨_, rfl⟩
        rw [hW] at ZZ ⊢
        have RT := Lib.hid ZZ.out.1.rd
        have K8 := Lib.hid (K8.out.trans ZZ.out.2)
        have RP := Lib.hid (RP.out.kp ZZ.out.2)
        have RS := Lib.hid (RS.out.kp ZZ.out.2)
        clear ZZ hW z1 z2
        refine (H4.out _ _ _ K8.out RP.out RT.out).mono ?_
        rintro _ w9 ⟨rfl, k9⟩
        have RP := Lib.hid (RP.out.kp k9)
        have RS := Lib.hid (RS.out.kp k9)
        have K9 := Lib.hid (K8.out.trans k9)
        clear k9 K8 RT
        go_wp2_with fail
        refine (H5.out _ _ _ K9.out RP.out (RS.out.pre6 31 (by omega))).mono ?_
        rintro _ w10 ⟨rfl, k10⟩
        have K10 := Lib.hid (K9.out.trans k10)
        clear k10
        go_wp2_with fail
        go_ret
        exact ⟨rfl, K10.out⟩
      · have e3 : (if sigB P sa.data.toList ly = S then (0 : Int) else 5) = 5 := if_neg hr
        have HR := Lib.hid hr
        clear hr
        go_wp2_with fail
        refine (H3.out _ _ _ K3.out RP.out RS.out).mono ?_
        rw [e3]
        clear e3
        rintro _ w4 ⟨rfl, k4⟩
        have RP := Lib.hid (RP.out.kp k4)
        have RS := Lib.hid (RS.out.kp k4)
        have K4 := Lib.hid (K3.out.trans k4)
        clear k4 H3 K3
        go_wp2_with fail
        refine (same_no7c _ _ _ _ w4 hne2 (HXY.out.1.kp K4.out) (HXY.out.2.kp K4.out)).mono ?_
        rintro _ _ ⟨rfl, rfl⟩
        clear hne2
        go_wp2_with (at_builtin; refine wpList_append_ow (o := ⟨some 117, _, _, _, _, _⟩) U rfl _ _ rfl w4.heap.size _ [] rfl (Ow.lit w4 _ _ 0 #[] [] (Nat.le_refl _) rfl (by omega) rfl) _ S rfl (RS.out.kp ((Kp.refl _).alloc _)) (by have := HL.out.1; simp; omega) (by simp) ?_; intro v4 v5 ho hg _; have kk : Kp w4 v5 := Kp.grown ((Kp.refl w4).alloc _) hg (fun k e => by cases e; exact Nat.le_refl _); have ho4 : Ow 5 v5 w4.heap.size v4 S := (by simpa using ho); obtain ⟨g, cc, rfl, y1, y2, y3, y4⟩ := ow_some5 ho4 (by have := HL.out.1; omega); rw [HL.out.1] at ho4 y3 ⊢; obtain ⟨z1, z2, z3⟩ := ow_put5 ho4 i (by have := HL.out; omega) Z; rw [HL.out.2.2.2.1] at z1; rw [HL.out.2.2.2.2] at z3; have hi32 : i < 32 := HL.out.2.2.1; have z4 := Below.setCell kk (p := ⟨g, i, none⟩) y1 (.int .u8 (Z.toNat : Int)); have ZZ := Lib.hid (And.intro z3 z4); clear ho hg ho4 kk z3 z4)
        obtain ⟨W, hW⟩ : ∃ W, v5.setCell ⟨g, i, none⟩ (.int .u8 (Z.toNat : Int)) = W := ⟨_, rfl⟩
        rw [hW] at ZZ ⊢
        have RT := Lib.hid ZZ.out.1.rd
        have K8 := Lib.hid (K4.out.trans ZZ.out.2)
        have RP := Lib.hid (RP.out.kp ZZ.out.2)
        have RS := Lib.hid (RS.out.kp ZZ.out.2)
        clear ZZ hW z1 z2
        refine (H4.out _ _ _ K8.out RP.out RT.out).mono ?_
        rintro _ w9 ⟨rfl, k9⟩
        have RP := Lib.hid (RP.out.kp k9)
        have RS := Lib.hid (RS.out.kp k9)
        have K9 := Lib.hid (K8.out.trans k9)
        clear k9 K8 RT
        go_wp2_with fail
        refine (H5.out _ _ _ K9.out RP.out (RS.out.pre6 31 (by omega))).mono ?_
        rintro _ w10 ⟨rfl, k10⟩
        have K10 := Lib.hid (K9.out.trans k10)
        clear k10
        go_wp2_with fail
        go_ret
        exact ⟨rfl, K10.out⟩
    · have hs2 : ¬ sa.toList = sb.toList := fun h => hs (bytes_ext7 (by rw [← toList_dat7, ← toList_dat7]; exact h))
      clear hne HWY
      rcases hr with hr | hr
      · have e3 : (if sigB P sb.data.toList ly = S then (0 : Int) else 5) = 0 := if_pos hr
        have hr2 : macB P (signedB sb.data.toList ly) = S := hr
        have HR := Lib.hid hr
        clear hr
        go_wp2_with fail
        refine (H3.out _ _ _ K3.out RP.out RS.out).mono ?_
        rw [e3]
        clear e3
        rintro _ w4 ⟨rfl, k4⟩
        have RP := Lib.hid (RP.out.kp k4)
        have RS := Lib.hid (RS.out.kp k4)
        have K4 := Lib.hid (K3.out.trans k4)
        clear k4 H3 K3
        go_wp2_with fail
        refine (HTA.out _ K4.out).mono ?_
        rintro _ w5 ⟨⟨r1, rfl, s1⟩, k5⟩
        have RP := Lib.hid (RP.out.kp k5)
        have RS := Lib.hid (RS.out.kp k5)
        have T1 := Lib.hid s1
        have K5 := Lib.hid (K4.out.trans k5)
        clear k5 s1
        go_wp2_with fail
        refine (HM.out _ _ _ _ RP.out T1.out HLL.out.1).mono ?_
        rintro _ w6 ⟨⟨r2, rfl, s1⟩, k6⟩
        rw [HMS.out] at s1
        have RP := Lib.hid (RP.out.kp k6)
        have RS := Lib.hid (RS.out.kp k6)
        have M1 := Lib.hid s1
        have K6 := Lib.hid (K5.out.trans k6)
        clear k6 s1
        go_wp2_with fail
        refine (HTB.out _ K6.out).mono ?_
        rintro _ w7 ⟨⟨r3, rfl, s1⟩, k7⟩
        have RP := Lib.hid (RP.out.kp k7)
        have RS := Lib.hid (RS.out.kp k7)
        have M1 := Lib.hid (M1.out.kp k7)
        have T2 := Lib.hid s1
        have K7 := Lib.hid (K6.out.trans k7)
        clear k7 s1
        go_wp2_with fail
        refine (HM.out _ _ _ _ RP.out T2.out HLL.out.2).mono ?_
        rintro _ w8 ⟨⟨r4, rfl, s1⟩, k8⟩
        rw [hr2] at s1
        have RP := Lib.hid (RP.out.kp k8)
        have RS := Lib.hid (RS.out.kp k8)
        have M1 := Lib.hid (M1.out.kp k8)
        have M2 := Lib.hid s1
        have K8 := Lib.hid (K7.out.trans k8)
        clear k8 s1
        go_wp2_with fail
        refine (same_yes7c _ _ _ w8 M1.out M2.out).mono ?_
        rintro _ _ ⟨rfl, rfl⟩
        clear T1 T2 M1 M2 K4 K5 K6 K7
        go_wp2_with (at_builtin; refine wpList_append_ow (o := ⟨some 117, _, _, _, _, _⟩) U rfl _ _ rfl w8.heap.size _ [] rfl (Ow.lit w8 _ _ 0 #[] [] (Nat.le_refl _) rfl (by omega) rfl) _ S rfl (RS.out.kp ((Kp.refl _).alloc _)) (by have := HL.out.1; simp; omega) (by simp) ?_; intro v4 v5 ho hg _; have kk : Kp w8 v5 := Kp.grown ((Kp.refl w8).alloc _) hg (fun k e => by cases e; exact Nat.le_refl _); have ho4 : Ow 5 v5 w8.heap.size v4 S := (by simpa using ho); obtain ⟨g, cc, rfl, y1, y2, y3, y4⟩ := ow_some5 ho4 (by have := HL.out.1; omega); rw [HL.out.1] at ho4 y3 ⊢; obtain ⟨z1, z2, z3⟩ := ow_put5 ho4 i (by have := HL.out; omega) Z; rw [HL.out.2.2.2.1] at z1; rw [HL.out.2.2.2.2] at z3; have hi32 : i < 32 := HL.out.2.2.1; have z4 := Below.setCell kk (p := ⟨g, i, none⟩) y1 (.int .u8 (Z.toNat : Int)); have ZZ := Lib.hid (And.intro z3 z4); clear ho hg ho4 kk z3 z4)
        obtain ⟨W, hW⟩ : ∃ W, v5.setCell ⟨g, i, none⟩ (.int .u8 (Z.toNat : Int)) = W := ⟨_, rfl⟩
        rw [hW] at ZZ ⊢
        have RT := Lib.hid ZZ.out.1.rd
        have K8 := Lib.hid (K8.out.trans ZZ.out.2)
        have RP := Lib.hid (RP.out.kp ZZ.out.2)
        have RS := Lib.hid (RS.out.kp ZZ.out.2)
        clear ZZ hW z1 z2
        refine (H4.out _ _ _ K8.out RP.out RT.out).mono ?_
        rintro _ w9 ⟨rfl, k9⟩
        have RP := Lib.hid (RP.out.kp k9)
        have RS := Lib.hid (RS.out.kp k9)
        have K9 := Lib.hid (K8.out.trans k9)
        clear k9 K8 RT
        go_wp2_with fail
        refine (H5.out _ _ _ K9.out RP.out (RS.out.pre6 31 (by omega))).mono ?_
        rintro _ w10 ⟨rfl, k10⟩
        have K10 := Lib.hid (K9.out.trans k10)
        clear k10
        go_wp2_with fail
        go_ret
        exact ⟨rfl, K10.out⟩
      · have e3 : (if sigB P sb.data.toList ly = S then (0 : Int) else 5) = 5 := if_neg hr
        have HR := Lib.hid hr
        clear hr
        go_wp2_with fail
        refine (H3.out _ _ _ K3.out RP.out RS.out).mono ?_
        rw [e3]
        clear e3
        rintro _ w4 ⟨rfl, k4⟩
        have RP := Lib.hid (RP.out.kp k4)
        have RS := Lib.hid (RS.out.kp k4)
        have K4 := Lib.hid (K3.out.trans k4)
        clear k4 H3 K3
        go_wp2_with (at_builtin; refine wpList_append_ow (o := ⟨some 117, _, _, _, _, _⟩) U rfl _ _ rfl w4.heap.size _ [] rfl (Ow.lit w4 _ _ 0 #[] [] (Nat.le_refl _) rfl (by omega) rfl) _ S rfl (RS.out.kp ((Kp.refl _).alloc _)) (by have := HL.out.1; simp; omega) (by simp) ?_; intro v4 v5 ho hg _; have kk : Kp w4 v5 := Kp.grown ((Kp.refl w4).alloc _) hg (fun k e => by cases e; exact Nat.le_refl _); have ho4 : Ow 5 v5 w4.heap.size v4 S := (by simpa using ho); obtain ⟨g, cc, rfl, y1, y2, y3, y4⟩ := ow_some5 ho4 (by have := HL.out.1; omega); rw [HL.out.1] at ho4 y3 ⊢; obtain ⟨z1, z2, z3⟩ := ow_put5 ho4 i (by have := HL.out; omega) Z; rw [HL.out.2.2.2.1] at z1; rw [HL.out.2.2.2.2] at z3; have hi32 : i < 32 := HL.out.2.2.1; have z4 := Below.setCell kk (p := ⟨g, i, none⟩) y1 (.int .u8 (Z.toNat : Int)); have ZZ := Lib.hid (And.intro z3 z4); clear ho hg ho4 kk z3 z4)
        obtain ⟨W, hW⟩ : ∃ W, v5.setCell ⟨g, i, none⟩ (.int .u8 (Z.toNat : Int)) = W := ⟨_, rfl⟩
        rw [hW] at ZZ ⊢
        have RT := Lib.hid ZZ.out.1.rd
        have K8 := Lib.hid (K4.out.trans ZZ.out.2)
        have RP := Lib.hid (RP.out.kp ZZ.out.2)
        have RS := Lib.hid (RS.out.kp ZZ.out.2)
        clear ZZ hW z1 z2
        refine (H4.out _ _ _ K8.out RP.out RT.out).mono ?_
        rintro _ w9 ⟨rfl, k9⟩
        have RP := Lib.hid (RP.out.kp k9)
        have RS := Lib.hid (RS.out.kp k9)
        have K9 := Lib.hid (K8.out.trans k9)
        clear k9 K8 RT
        go_wp2_with fail
        refine (H5.out _ _ _ K9.out RP.out (RS.out.pre6 31 (by omega))).mono ?_
        rintro _ w10 ⟨rfl, k10⟩
        have K10 := Lib.hid (K9.out.trans k10)
        clear k10
        go_wp2_with fail
        go_ret
        exact ⟨rfl, K10.out⟩
end Go.Proofs.Ytdcbljfacmidjaa

/- SealSpoilt (written by gen/seal4.py). -/
import Derived.Test.YtakaebedibgimaaSealOwnAll
import Derived.Test.YtakaebedibgimaaShownSeal
import Derived.Test.YtakaebedibgimaaSealTold
set_option linter.unusedVariables false
set_option linter.unusedSimpArgs false
namespace Go.Proofs.Ytakaebedibgimaa
open Go.RowKit

theorem same_yes6d (u v : Value) (l : List UInt8) (w : World) (h : Rd w u l) (h' : Rd w v l) : Calls Try.prog 13 #[u, v] w fun e w' => e = .returned (.bool true) ∧ w = w' := by
  have := same_any u v l l w h h'
  rwa [decide_eq_true rfl] at this
theorem same_no6d (u v : Value) (l m : List UInt8) (w : World) (hn : l ≠ m) (h : Rd w u l) (h' : Rd w v m) : Calls Try.prog 13 #[u, v] w fun e w' => e = .returned (.bool false) ∧ w = w' := by
  have := same_any u v l m w h h'
  rwa [decide_eq_false hn] at this

set_option maxRecDepth 100000 in
set_option maxHeartbeats 8000000 in
theorem sealSpoilt_walk (va vb vc vd : Value) (la lb lc ld : List UInt8) (at' : Nat) (c : UInt8) (w : World) (ha : Rd w va la) (hb : Rd w vb lb) (hc : Rd w vc lc) (hd : Rd w vd ld) (hat : (at' : Int) ≤ 65535) :
    Calls Try.prog 5 #[.agg #[va, vb, vc, vd, .int .u16 (at' : Int), .int .u8 (c.toNat : Int)]] w (Yes w) := by
  have U := u8
  obtain ⟨a1, c1, rfl, p1, s1⟩ := ha.shape
  obtain ⟨a2, c2, rfl, p2, s2⟩ := hb.shape
  obtain ⟨a3, c3, rfl, p3, s3⟩ := hc.shape
  obtain ⟨a4, c4, rfl, p4, s4⟩ := hd.shape
  by_cases h0 : la.length = 32
  rotate_left
  · have q1 : ((la.length : Int) == 32) = false := beq_eq_false_iff_ne.2 (by omega)
    have q2 : ¬ (la.length : Int) = 32 := by omega
    go_enter Try.func5, Try.ntmps5
    go_wp2_with fail
    refine (shownSeal_any _).mono ?_
    rintro e w1 ⟨rfl, k1⟩
    have k1 := ((Kp.refl w).alloc _).trans k1
    go_wp2_with fail
    go_ret
    exact ⟨rfl, k1⟩
  by_cases h1 : lb.length = 12
  rotate_left
  · have q1 : ((lb.length : Int) == 12) = false := beq_eq_false_iff_ne.2 (by omega)
    have q2 : ¬ (lb.length : Int) = 12 := by omega
    rw [h0]
    go_enter Try.func5, Try.ntmps5
    go_wp2_with fail
    refine (shownSeal_any _).mono ?_
    rintro e w1 ⟨rfl, k1⟩
    have k1 := ((Kp.refl w).alloc _).trans k1
    go_wp2_with fail
    go_ret
    exact ⟨rfl, k1⟩
  by_cases h2 : lc.length ≤ 100
  rotate_left
  · have q1 : 100 < (lc.length : Int) := by omega
    rw [h0, h1]
    go_enter Try.func5, Try.ntmps5
    go_wp2_with fail
    refine (shownSeal_any _).mono ?_
    rintro e w1 ⟨rfl, k1⟩
    have k1 := ((Kp.refl w).alloc _).trans k1
    go_wp2_with fail
    go_ret
    exact ⟨rfl, k1⟩
  by_cases h3 : ld.length ≤ 200
  rotate_left
  · have q1 : 200 < (ld.length : Int) := by omega
    have r2 : ¬ 100 < (lc.length : Int) := by omega
    rw [h0, h1]
    go_enter Try.func5, Try.ntmps5
    go_wp2_with fail
    refine (shownSeal_any _).mono ?_
    rintro e w1 ⟨rfl, k1⟩
    have k1 := ((Kp.refl w).alloc _).trans k1
    go_wp2_with fail
    go_ret
    exact ⟨rfl, k1⟩
  by_cases h4 : c = 0
  · subst h4
    have q1 : (((0 : UInt8).toNat : Nat) : Int) = 0 := rfl
    rw [q1]
    have r2 : ¬ 100 < (lc.length : Int) := by omega
    have r3 : ¬ 200 < (ld.length : Int) := by omega
    rw [h0, h1]
    go_enter Try.func5, Try.ntmps5
    go_wp2_with fail
    refine (shownSeal_any _).mono ?_
    rintro e w1 ⟨rfl, k1⟩
    have k1 := ((Kp.refl w).alloc _).trans k1
    go_wp2_with fail
    go_ret
    exact ⟨rfl, k1⟩
  have hok : okK la lb := ⟨h0, h1⟩
  have hc0 : ¬ (c.toNat : Int) = 0 := fun h => h4 (by
    apply UInt8.toNat_inj.1
    have h5 : c.toNat = 0 := by omega
    rw [h5]; rfl)
  have hcb : ((c.toNat : Int) == 0) = false := beq_eq_false_iff_ne.2 hc0
  have HS : Hid (∀ W, Kp w W → Calls Try.prog 11 #[.slice a1 la.length c1, .slice a2 lb.length c2, .slice a3 lc.length c3, .slice a4 ld.length c4] W fun e w' => (∃ r, e = .returned (.tuple #[r, .int .i64 0]) ∧ Rd w' r (sealB la lb lc ld)) ∧ Kp W w') := fun W hW => by
    have := sealSeal_any _ _ _ _ la lb lc ld W (ha.kp hW) (hb.kp hW) (hc.kp hW) (hd.kp hW) (by omega)
    rwa [show sealE la lb = 0 from if_pos hok, show sealR la lb lc ld = sealB la lb lc ld from if_pos hok] at this
  have HH : Hid (∀ W, Kp w W → Calls Try.prog 10 #[.slice a1 la.length c1] W fun e w' => (∃ a b, e = .returned (.tuple #[a, b, .int .i64 0]) ∧ Rd w' a (halfL la) ∧ Rd w' b (halfT la)) ∧ Kp W w') := fun W hW => by
    have := refHalves_any _ la W (ha.kp hW)
    rwa [show halE la = 0 from if_pos h0, show halA la = halfL la from if_pos h0, show halB la = halfT la from if_pos h0] at this
  have HO : Hid (∀ W v1 v2 v3 n' a' b', Kp w W → Rd W v1 n' → Rd W v2 a' → Rd W v3 b' → a'.length + b'.length ≤ 1000 → Calls Try.prog 14 #[.slice a1 la.length c1, v1, v2, v3] W fun e w' => (∃ r, e = .returned (.tuple #[r, .int .i64 (openE la n' a' b')]) ∧ Rd w' r (openR la n' a' b')) ∧ Kp W w') := fun W v1 v2 v3 n' a' b' hW q1 q2 q3 hl =>
    sealOpen_any _ v1 v2 v3 la n' a' b' W (ha.kp hW) q1 q2 q3 (by omega)
  have HM : Hid (∀ W v1 v2 s, Rd W v1 (halfT la) → Rd W v2 s → s.length ≤ 1900 → Calls Try.prog 19 #[v1, v2] W fun e w' => (∃ r, e = .returned r ∧ Rd w' r (macB (halfT la) s)) ∧ Kp W w') := fun W v1 v2 s q1 q2 hl => by
    refine (refMac_sum v1 v2 _ s W q1 q2 (by rw [halfT_length]; omega) hl).mono ?_
    rintro _ w' ⟨⟨r, rfl, o⟩, k⟩
    exact ⟨⟨r, rfl, o.rd⟩, k⟩
  have hSP := fun i A hA hi A' hA' => spoilt (key := la) (nonce := lb) (aad := lc) (b := ld) hok (by omega) i c h4 A hA hi A' hA'
  have hXL := sealB_length la lb lc ld
  generalize sealB la lb lc ld = X at *
  obtain ⟨A, hA⟩ : ∃ A, (lb ++ lc) ++ X = A := ⟨_, rfl⟩
  have hA1 : A = lb ++ (lc ++ X) := by rw [← hA, List.append_assoc]
  have hAL : A.length = 12 + lc.length + ld.length + 32 := by rw [hA1, List.length_append, List.length_append]; omega
  obtain ⟨m, hm⟩ : ∃ m, A.length = m := ⟨_, rfl⟩
  have hml : m = 12 + lc.length + ld.length + 32 := by omega
  obtain ⟨i, hi⟩ : ∃ i, at' % m = i := ⟨_, rfl⟩
  have him : i < m := by rw [← hi]; exact Nat.mod_lt _ (by omega)
  have hSQ := hSP i A hA1 (by omega) (A.set i (A.getD i 0 ^^^ c)) rfl
  clear hSP
  have hx := b8_xor (A.getD i 0) c
  have HA2 : Hid ((A.set i (A.getD i 0 ^^^ c)).length = m) := by unfold Hid; rw [List.length_set, hm]
  obtain ⟨B0, hB0⟩ : ∃ B0, A.getD i 0 = B0 := ⟨_, rfl⟩
  rw [hB0] at hSQ hx HA2
  generalize B0 ^^^ c = Z at *
  obtain ⟨A', hA'⟩ : ∃ A', A.set i Z = A' := ⟨_, rfl⟩
  rw [hA'] at hSQ HA2
  have HAB := Lib.hid (And.intro hB0 hA')
  have HSQ := Lib.hid hSQ
  have HE : Hid (openE la (A'.take 12) ((A'.drop 12).take lc.length) (A'.drop (12 + lc.length)) = 0 ∨ openE la (A'.take 12) ((A'.drop 12).take lc.length) (A'.drop (12 + lc.length)) = 5 ∧ openR la (A'.take 12) ((A'.drop 12).take lc.length) (A'.drop (12 + lc.length)) = []) :=
    openE_two ⟨h0, by rw [List.length_take, HA2.out]; omega⟩ (by rw [List.length_drop, HA2.out]; omega)
  have HN := Lib.hid (And.intro h1 (And.intro h2 h3))
  have HX := Lib.hid hXL
  have HAA := Lib.hid (And.intro hA hm)
  have HD := Lib.hid (And.intro hb (And.intro hc hd))
  have Him := Lib.hid (And.intro him hml)
  rw [h0] at HS HH HO ⊢
  rw [h1] at HS HD ⊢
  have i1 : IntKind.i64.wrap ((ld.length : Int) + 32) = (ld.length : Int) + 32 := IntWalk.i64_in _ (by omega)
  have i2 : ((ld.length + 32 : Nat) : Int) = (ld.length : Int) + 32 := by omega
  have i3 : IntKind.i64.wrap (at' : Int) = (at' : Int) := IntWalk.i64_in _ (by omega)
  have i4 : (at' : Int).tmod (m : Int) = (i : Int) := by rw [Int.tmod_eq_emod_of_nonneg (by omega)]; omega
  have i5 : ¬ (m : Int) = 0 := by omega
  have i6 : IntKind.i64.wrap (i : Int) = (i : Int) := IntWalk.i64_in _ (by omega)
  have i7 : IntKind.i64.wrap (12 + (lc.length : Int)) = ((12 + lc.length : Nat) : Int) := by rw [IntWalk.i64_in _ (by omega)]; omega
  have r2 : ¬ 100 < (lc.length : Int) := by omega
  have r3 : ¬ 200 < (ld.length : Int) := by omega
  have j1 : (12 : Int) ≤ (m : Int) := by omega
  have j2 : (12 : Int) + (lc.length : Int) ≤ (m : Int) := by omega
  clear ha hb hc hd h0 h1 h2 h3 h4 hok hXL hml hA hA1 hAL hm hi hSQ hB0 hA' hat hc0
  go_enter Try.func5, Try.ntmps5
  go_wp2_with fail
  refine (shownSeal_any _).mono ?_
  rintro e w1 ⟨rfl, k1⟩
  have k1 := ((Kp.refl w).alloc _).trans k1
  have K1 := Lib.hid k1
  clear k1
  go_wp2_with fail
  refine (HS.out _ K1.out).mono ?_
  rintro _ w2 ⟨⟨x, rfl, q2⟩, k2⟩
  obtain ⟨ax, cx, rfl, _, _⟩ := q2.shape
  have R2 := Lib.hid q2
  rw [HX.out] at R2 ⊢
  have K2 := Lib.hid (K1.out.trans k2)
  clear q2 k2
  go_wp2_with fail
  refine (HH.out _ K2.out).mono ?_
  rintro _ w3 ⟨⟨y0, y, rfl, _, q3⟩, k3⟩
  have R3 := Lib.hid q3
  have R2 := Lib.hid (R2.out.kp k3)
  have K3 := Lib.hid (K2.out.trans k3)
  obtain ⟨ay, ny, cy, rfl⟩ := q3.sl
  clear q3 k3
  go_wp2_with (at_builtin; first
    | (refine wpList_append_ow (o := ⟨some 86, _, _, _, _, _⟩) U rfl _ _ rfl w3.heap.size _ [] rfl (Ow.lit w3 _ _ 0 #[] [] (Nat.le_refl _) rfl (by omega) rfl) _ lb rfl ((HD.out.1.kp K3.out).kp ((Kp.refl _).alloc _)) (by have := HN.out.1; simp; omega) (by simp) ?_; intro v4 w4 ho4 hg4 _; have k4 : Kp w3 w4 := Kp.grown ((Kp.refl w3).alloc _) hg4 (fun k e => by cases e; exact Nat.le_refl _); have ho4' : Ow 5 w4 w3.heap.size v4 lb := (by simpa using ho4); clear ho4 hg4)
    | (refine wpList_append_ow (o := ⟨some 88, _, _, _, _, _⟩) U rfl _ _ rfl w3.heap.size v4 lb rfl ho4' _ lc rfl ((HD.out.2.1.kp K3.out).kp k4) (by have := HN.out; omega) k4.size ?_; intro v5 w5 ho5 hg5 _; have k5 : Kp w3 w5 := Kp.grown k4 hg5 ho4'.own_ge; clear hg5)
    | (refine wpList_append_ow (o := ⟨some 90, _, _, _, _, _⟩) U rfl _ _ rfl w3.heap.size v5 (lb ++ lc) rfl ho5 _ X rfl (R2.out.kp k5) (by have := HN.out; have := HX.out; simp; omega) k5.size ?_; intro v6 w6 ho6 hg6 _; have k6 : Kp w3 w6 := Kp.grown k5 hg6 ho5.own_ge; rw [HAA.out.1] at ho6; obtain ⟨g, cc, rfl, y1, y2, y3, y4⟩ := ow_some5 ho6 (by rw [HAA.out.2]; have := Him.out; omega); rw [HAA.out.2] at ho6 y3 ⊢; obtain ⟨z1, z2, z3⟩ := ow_put5 ho6 i (by rw [HAA.out.2]; exact Him.out.1) Z; rw [HAB.out.1] at z1; rw [HAB.out.2] at z3; have z4 := Below.setCell k6 (p := ⟨g, i, none⟩) y1 (.int .u8 (Z.toNat : Int)); have ZZ := Lib.hid (And.intro z3 z4); have w1 : ¬ cc = 12 := (by have := Him.out; omega); have w2 : ¬ cc = 12 + lc.length := (by have := Him.out; omega); clear hg6 z3 z4 ho6 ho5 ho4' k4 k5 k6))
  obtain ⟨W, hW⟩ : ∃ W, w6.setCell ⟨g, i, none⟩ (.int .u8 (Z.toNat : Int)) = W := ⟨_, rfl⟩
  rw [hW] at ZZ ⊢
  have Q0 := ZZ.out.1.rd
  have KW : Kp w3 W := ZZ.out.2
  have n1 := Q0.pre6 12 (by omega)
  have n2 := Q0.cutAt 12 lc.length (by omega) (by omega)
  have n3 := Q0.post6 (12 + lc.length) (m - (12 + lc.length)) (by omega) (by have := Him.out; omega)
  rw [Nat.zero_add] at n2 n3
  have N1 := Lib.hid n1
  have N2 := Lib.hid n2
  have N3 := Lib.hid n3
  have R2 := Lib.hid (R2.out.kp KW)
  have R3 := Lib.hid (R3.out.kp KW)
  have K4 := Lib.hid (K3.out.trans KW)
  clear n1 n2 n3 Q0 KW ZZ hW K3 z1 z2
  refine (HO.out W _ _ _ (A'.take 12) ((A'.drop 12).take lc.length) (A'.drop (12 + lc.length)) K4.out N1.out N2.out N3.out (by rw [List.length_take, List.length_drop, List.length_drop, HA2.out]; have := HN.out; have := Him.out; omega)).mono ?_
  rcases HE.out with e1 | ⟨e1, e2⟩
  rotate_left
  · rw [e1, e2]
    rintro _ w7 ⟨⟨z, rfl, q7⟩, k7⟩
    obtain ⟨az, cz, rfl, _, _⟩ := q7.shape
    have K5 := Lib.hid (K4.out.trans k7)
    clear q7 k7 e1 e2
    go_wp2_with fail
    go_ret
    exact ⟨rfl, K5.out⟩
  obtain ⟨hne, heq⟩ := HSQ.out e1
  rw [e1]
  rintro _ w7 ⟨⟨z, rfl, q7⟩, k7⟩
  have j3 : (ld.length : Int) ≤ (cx : Int) := by have := R2.out.len; omega
  have j4 : (ld.length : Int) ≤ ((cc - (12 + lc.length) : Nat) : Int) := by have := Him.out; omega
  have X1 := Lib.hid ((R2.out.pre6 ld.length (by omega)).kp k7)
  have Y1 := Lib.hid ((N3.out.pre6 ld.length (by have := Him.out; omega)).kp k7)
  have N1 := Lib.hid (N1.out.kp k7)
  have N2 := Lib.hid (N2.out.kp k7)
  have R3 := Lib.hid (R3.out.kp k7)
  have K5 := Lib.hid (K4.out.trans k7)
  have hyl : (List.take ld.length (List.drop (12 + lc.length) A')).length = ld.length := by rw [List.length_take, List.length_drop, HA2.out]; have := Him.out; omega
  have hwl : (List.take lc.length (List.drop 12 A')).length = lc.length := by rw [List.length_take, List.length_drop, HA2.out]; have := Him.out; omega
  have hnl : (List.take 12 A').length = 12 := by rw [List.length_take, HA2.out]; have := Him.out; omega
  have hxl : (List.take ld.length X).length = ld.length := by rw [List.length_take, HX.out]; omega
  have TL : ∀ n' a' s' : List UInt8, a'.length ≤ 100 → n'.length = 12 → s'.length ≤ 200 → (toldB n' a' s').length ≤ 1900 := fun n' a' s' ha' hn' hs' => by
    unfold toldB
    rw [List.length_append, List.length_append, row_len (by omega)]
    have := lenBytes_le a'.length
    omega
  have TP := Lib.hid (TL lb lc (List.take ld.length X) HN.out.2.1 HN.out.1 (by rw [hxl]; exact HN.out.2.2))
  have TQ := Lib.hid (TL (List.take 12 A') (List.take lc.length (List.drop 12 A')) (List.take ld.length (List.drop (12 + lc.length) A')) (by rw [hwl]; exact HN.out.2.1) hnl (by rw [hyl]; exact HN.out.2.2))
  have HLL := Lib.hid (And.intro hyl (And.intro hwl (And.intro hnl hxl)))
  have HNE := Lib.hid (And.intro hne heq)
  clear q7 k7 e1 K4 R2 N3 hyl hwl hnl hxl TL hne heq HSQ HE
  go_wp2_with fail
  refine (told_any _ _ _ lb lc (List.take ld.length X) _ (HD.out.1.kp K5.out) (HD.out.2.1.kp K5.out) X1.out (by have := HN.out; rw [HLL.out.2.2.2]; omega)).mono ?_
  rintro _ w8 ⟨⟨p, rfl, q8⟩, k8⟩
  have P1 := Lib.hid q8
  have Y1 := Lib.hid (Y1.out.kp k8)
  have N1 := Lib.hid (N1.out.kp k8)
  have N2 := Lib.hid (N2.out.kp k8)
  have R3 := Lib.hid (R3.out.kp k8)
  have K6 := Lib.hid (K5.out.trans k8)
  clear q8 k8 K5 X1
  go_wp2_with fail
  refine (told_any _ _ _ _ _ _ _ N1.out N2.out Y1.out (by have := HN.out; rw [HLL.out.1, HLL.out.2.1, HLL.out.2.2.1]; omega)).mono ?_
  rintro _ w9 ⟨⟨q, rfl, q9⟩, k9⟩
  have P2 := Lib.hid q9
  have P1 := Lib.hid (P1.out.kp k9)
  have R3 := Lib.hid (R3.out.kp k9)
  have K7 := Lib.hid (K6.out.trans k9)
  clear q9 k9 K6 N1 N2 Y1
  go_wp2_with fail
  refine (same_no6d _ _ _ _ w9 HNE.out.1 P1.out P2.out).mono ?_
  rintro _ _ ⟨rfl, rfl⟩
  go_wp2_with fail
  refine (HM.out _ _ _ _ R3.out P1.out TP.out).mono ?_
  rintro _ w10 ⟨⟨r, rfl, q10⟩, k10⟩
  have S1 := Lib.hid q10
  have P2 := Lib.hid (P2.out.kp k10)
  have R3 := Lib.hid (R3.out.kp k10)
  have K8 := Lib.hid (K7.out.trans k10)
  clear q10 k10 K7 P1
  go_wp2_with fail
  refine (HM.out _ _ _ _ R3.out P2.out TQ.out).mono ?_
  rw [← HNE.out.2]
  rintro _ w11 ⟨⟨r2, rfl, q11⟩, k11⟩
  have S1 := Lib.hid (S1.out.kp k11)
  have S2 := Lib.hid q11
  have K9 := Lib.hid (K8.out.trans k11)
  clear q11 k11 K8 P2 R3
  go_wp2_with fail
  refine (same_yes6d _ _ _ w11 S1.out S2.out).mono ?_
  rintro _ _ ⟨rfl, rfl⟩
  go_wp2_with fail
  go_ret
  exact ⟨rfl, K9.out⟩
end Go.Proofs.Ytakaebedibgimaa

/- hash.above, hash.Above. -/
import Derived.Test.YtobldbodafaajaaGreatDoorHashDigest
import Derived.Deep.RegionHeld3
set_option linter.unusedVariables false
set_option linter.unusedSimpArgs false
namespace Go.Proofs.YtobldbodafaajaaGreatDoor
open Go.RowKit

set_option maxRecDepth 100000 in
set_option maxHeartbeats 3000000 in
theorem above_nd (vt : Value) (t : List Nod) (K j q : Nat) (side : Int) (w : World) (hT : TidyT t K) (ht : NL w vt t) (hTab : Tab w) (hj : j + 1 ≤ K) (hq : q < 2 ^ (K - (j + 1))) (hs : side = 0 ∨ side = 1) :
    Calls Tryz.prog 33 #[vt, .int .i64 ((nd (j + 1) q : Nat) : Int), .int .i64 side] w fun e w' => (∃ r, e = .returned r ∧ Ow 5 w' w.heap.size r (digest ([3] ++ rowB (ats t (nd (j + 1) q)).pub ++ rowB (ats t (nd (j + 1) q)).hash ++ rowB (digF t (ats t (nd (j + 1) q)).un j (othQ side q))))) ∧ Kp w w' := by
  obtain ⟨x1, x2⟩ := hT.lt hj hq
  have HNL := Lib.hid ht
  obtain ⟨b, off, c, p, u, h, rfl, hn⟩ := ht.node x1
  obtain ⟨c0, c1, c2, c3, c4⟩ := And.intro hn.kind (And.intro hn.name (And.intro hn.pubC (And.intro hn.unC hn.hashC)))
  have htd := hT.node (nd (j + 1) q)
  obtain ⟨k1, k2⟩ := kid10 hj hq
  obtain ⟨_, y1, y2⟩ := nd_small hT.le hj hq
  obtain ⟨f1, f2, f3⟩ := ch_yes (j := j) (q := q) y1 y2
  have hoq : othQ side q < 2 ^ (K - j) := by unfold othQ; split <;> assumption
  have HCH : Hid (∀ W, Kp w W → Calls Tryz.prog 67 #[.int .i64 ((nd (j + 1) q : Nat) : Int), .int .i64 (1 - side)] W fun e w' => e = .returned (.int .i64 ((nd j (othQ side q) : Nat) : Int)) ∧ W = w') := fun W hW => by
    have := hashChild_any ((nd (j + 1) q : Nat) : Int) (1 - side) W (hTab.kp hW)
    rcases hs with rfl | rfl
    · rwa [if_pos (by decide), f3] at this
    · rwa [if_neg (by decide), f2] at this
  have HDG := Lib.hid (fun W vc (hW : Kp w W) (hc : Cnt W vc (ats t (nd (j + 1) q)).un) => hashDigest_any t K hT j (othQ side q) W _ vc _ (by omega) (ht.kp hW) hc (hTab.kp hW) hoq)
  have HAB := Lib.hid (fun W v (hv : RI W v (ats t (nd (j + 1) q)).un) => allBut_any v _ W hv (by have := htd.unl; omega) (fun i hi => by have := htd.un i hi; omega))
  have HDL := Lib.hid (digF_len t (ats t (nd (j + 1) q)).un j (othQ side q))
  have lp := rowB_le (x := (ats t (nd (j + 1) q)).pub) (by have := htd.pub; omega)
  have lh := rowB_le (x := (ats t (nd (j + 1) q)).hash) (by have := htd.hash; omega)
  have lp2 := htd.pub
  have lh2 := htd.hash
  have i1 : IntKind.i64.wrap (1 - side) = 1 - side := IntWalk.i64_in _ (by omega)
  have e4 : ((nd (j + 1) q : Nat) : Int) < (t.length : Int) := by omega
  have HNI := Lib.hid hn.2
  obtain ⟨ap, np, cp, rfl⟩ := rd_slH hn.2.pub
  obtain ⟨au, nu, cu, rfl⟩ := hn.2.un.sl
  obtain ⟨ah, nh, ch, rfl⟩ := rd_slH hn.2.hash
  have HRE : Hid ((digest ([3] ++ rowB (ats t (nd (j + 1) q)).pub ++ rowB (ats t (nd (j + 1) q)).hash ++ rowB (digF t (ats t (nd (j + 1) q)).un j (othQ side q)))) = digest ([3] ++ [rowB (ats t (nd (j + 1) q)).pub, rowB (ats t (nd (j + 1) q)).hash, rowB (digF t (ats t (nd (j + 1) q)).un j (othQ side q))].flatten)) := by unfold Hid; simp
  rw [HRE.out]
  generalize digF t (ats t (nd (j + 1) q)).un j (othQ side q) = DG at *
  have lr := rowB_le (x := DG) (by have := HDL.out; omega)
  have HLN : Hid ((rowB (ats t (nd (j + 1) q)).pub).length ≤ 42 ∧ (rowB (ats t (nd (j + 1) q)).hash).length ≤ 42 ∧ (rowB DG).length ≤ 40) := ⟨by omega, by omega, by have := HDL.out; omega⟩
  have hpos : 0 < (rowB DG).length := by
    unfold rowB
    rw [if_pos (by unfold rowE lenE; rw [HDL.out]; decide)]
    rw [List.length_append, HDL.out]; omega
  have HPO := Lib.hid hpos
  clear hT ht hTab hn hq k1 k2 y1 y2 f1 f2 f3 hj hoq htd lp lh lp2 lh2 lr hpos HDL
  generalize nd j (othQ side q) = XO at *
  generalize nd (j + 1) q = X at *
  generalize t.length = TL at *
  generalize ats t X = m at *
  clear hs
  obtain ⟨WA, hWA⟩ : ∃ WA, w.alloc (.cells #[.int .i64 m.kind, .int .i64 m.name, .slice ap np cp, .slice au nu cu, .slice ah nh ch] 37) = WA := ⟨_, rfl⟩
  have HBX : Hid (Bx WA w.heap.size 37 #[.int .i64 m.kind, .int .i64 m.name, .slice ap np cp, .slice au nu cu, .slice ah nh ch]) := by rw [← hWA]; exact Bx.new _ _ _
  have HZA : Hid (Kp w WA) := by rw [← hWA]; exact (Kp.refl _).alloc _
  have HWA := Lib.hid hWA
  clear hWA
  go_enter Tryz.func33, Tryz.ntmps33
  go_wp2_with fail
  rw [HWA.out]
  have HS : Hid (∀ W, Kp WA W → W.cell? ⟨w.heap.size, 2, none⟩ = some (.slice ap np cp) ∧ W.cell? ⟨w.heap.size, 3, none⟩ = some (.slice au nu cu) ∧ W.cell? ⟨w.heap.size, 4, none⟩ = some (.slice ah nh ch)) := fun W hW => ⟨(HBX.out.kp hW).cell 2, (HBX.out.kp hW).cell 3, (HBX.out.kp hW).cell 4⟩
  have KD : Hid (Kp WA WA.drew) := Kp.drew (Kp.refl WA)
  have S1 := Lib.hid (HS.out _ KD.out)
  clear HBX HWA c0 c1 c2 c3 c4
  go_region_held3 (fun W => W.cell? ⟨w.heap.size, 2, none⟩ = some (.slice ap np cp) ∧ W.cell? ⟨w.heap.size, 3, none⟩ = some (.slice au nu cu) ∧ W.cell? ⟨w.heap.size, 4, none⟩ = some (.slice ah nh ch))
    (first | with_reducible exact S1.out | with_reducible exact S3.out | with_reducible exact S4.out)
    (first
      | (go_at_call 30; refine (HDG.out _ _ (HZA.out.trans K3.out) o3).mono ?_; rintro _ w4 ⟨⟨r4, rfl, o4⟩, k4⟩; obtain ⟨a4, n4, b4, rfl⟩ := rd_slH o4.rd; have K4 := Lib.hid (K3.out.trans k4); have S4 := Lib.hid (HS.out _ K4.out))
      | (go_at_call 31; refine (HAB.out _ _ (HNI.out.un.kp (HZA.out.trans KD.out))).mono ?_; rintro _ w3 ⟨⟨r3, rfl, o3⟩, k3⟩; obtain ⟨cb, rfl, _⟩ := o3.call; have K3 := Lib.hid (KD.out.trans k3); have S3 := Lib.hid (HS.out _ K3.out))
      | (go_at_call 67; refine (HCH.out _ (HZA.out.trans KD.out)).mono ?_; rintro _ _ ⟨rfl, rfl⟩))
  have HP : Hid (∀ W, Kp WA W → Calls Tryz.prog 39 #[.slice ap np cp] W fun e w' => (∃ r, e = .returned r ∧ Ow 5 w' W.heap.size r (rowB m.pub)) ∧ Kp W w') := fun W hW => hashRow_any _ m.pub W (HNI.out.pub.kp (HZA.out.trans hW))
  have HH : Hid (∀ W, Kp WA W → Calls Tryz.prog 39 #[.slice ah nh ch] W fun e w' => (∃ r, e = .returned r ∧ Ow 5 w' W.heap.size r (rowB m.hash)) ∧ Kp W w') := fun W hW => hashRow_any _ m.hash W (HNI.out.hash.kp (HZA.out.trans hW))
  have O4 := Lib.hid o4.rd
  have D4 : Hid (Kp w4 w4.drew) := Kp.drew (Kp.refl w4)
  have S5 := Lib.hid (HS.out _ (K4.out.trans D4.out))
  clear S1 S3 S4 HDG HAB HCH o3 o4 k3 k4 K3
  go_wp2_with fail
  go_region_held3 (fun W => W.cell? ⟨w.heap.size, 2, none⟩ = some (.slice ap np cp) ∧ W.cell? ⟨w.heap.size, 3, none⟩ = some (.slice au nu cu) ∧ W.cell? ⟨w.heap.size, 4, none⟩ = some (.slice ah nh ch))
    (first | with_reducible exact S5.out | with_reducible exact S6.out | with_reducible exact S7.out | with_reducible exact S8.out | with_reducible exact S9.out | with_reducible exact HS.out _ (K8.out.alloc _))
    (first
      | (go_at_call 66; refine (hashSum_any 3 _ [rowB m.pub, rowB m.hash, rowB DG] _ (RL.lit3 w8 25 (o6.rd.kp D8.out.1) (o7.rd.kp D8.out.2) o8.rd) (by have := HPO.out; simp only [List.flatten_cons, List.flatten_nil, List.length_append, List.length_nil]; omega) (by have := HLN.out; simp only [List.flatten_cons, List.flatten_nil, List.length_append, List.length_nil]; omega) (by simp)).mono ?_; rintro _ w9 ⟨⟨r9, rfl, o9⟩, k9⟩; obtain ⟨a9, n9, b9, rfl⟩ := rd_slH o9.rd; have K9 := Lib.hid ((K8.out.alloc _).trans k9); have S9 := Lib.hid (HS.out _ K9.out))
      | (go_at_call 39; refine (hashRow_any _ DG _ (O4.out.kp D7.out)).mono ?_; rintro _ w8 ⟨⟨r8, rfl, o8⟩, k8⟩; obtain ⟨a8, n8, b8, rfl⟩ := rd_slH o8.rd; have K8 := Lib.hid (K7.out.trans k8); have S8 := Lib.hid (HS.out _ K8.out); have D8 := Lib.hid (And.intro (D67.out.trans k8) k8))
      | (go_at_call 39; refine (HH.out _ K6.out).mono ?_; rintro _ w7 ⟨⟨r7, rfl, o7⟩, k7⟩; obtain ⟨a7, n7, b7, rfl⟩ := rd_slH o7.rd; have K7 := Lib.hid (K6.out.trans k7); have S7 := Lib.hid (HS.out _ K7.out); have D7 := Lib.hid (D6.out.trans k7); have D67 := Lib.hid k7)
      | (go_at_call 39; refine (HP.out _ (K4.out.trans D4.out)).mono ?_; rintro _ w6 ⟨⟨r6, rfl, o6⟩, k6⟩; obtain ⟨a6, n6, b6, rfl⟩ := rd_slH o6.rd; have K6 := Lib.hid ((K4.out.trans D4.out).trans k6); have S6 := Lib.hid (HS.out _ K6.out); have D6 := Lib.hid (D4.out.trans k6)))
  have KE := Lib.hid (And.intro o9 (And.intro K8.out K9.out))
  clear S5 S6 S7 S8 S9 HP HH o6 o7 o8 o9 k9
  go_wp2_with fail
  go_ret
  exact ⟨⟨_, rfl, KE.out.1.mono (Nat.le_trans (HZA.out.trans KE.out.2.1).size (by simp))⟩, HZA.out.trans KE.out.2.2⟩
theorem above_any (vt : Value) (t : List Nod) (K X : Nat) (side : Int) (w : World) (hT : TidyT t K) (ht : NL w vt t) (hTab : Tab w) (hX : X < t.length) (hk : (ats t X).kind = 2) (hs : side = 0 ∨ side = 1) :
    Calls Tryz.prog 33 #[vt, .int .i64 (X : Int), .int .i64 side] w fun e w' => (∃ r, e = .returned r ∧ Ow 5 w' w.heap.size r (aboV t (X : Int) side)) ∧ Kp w w' := by
  have hE : aboE t (X : Int) side = 0 := by
    unfold aboE
    rw [if_pos ⟨by omega, by omega, by omega, by omega⟩, Int.toNat_natCast, if_pos hk]
  have hp := hT.par X hk
  obtain ⟨j, q, rfl, hj, hq⟩ := hT.at hX
  cases j with
  | zero => rw [nd_leaf] at hp; omega
  | succ j =>
    have e : aboV t ((nd (j + 1) q : Nat) : Int) side = digest ([3] ++ rowB (ats t (nd (j + 1) q)).pub ++ rowB (ats t (nd (j + 1) q)).hash ++ rowB (digF t (ats t (nd (j + 1) q)).un j (othQ side q))) := by
      have hsm := nd_small hT.le hj hq
      unfold aboV
      rw [if_pos hE, Int.toNat_natCast]
      unfold aboT
      rw [lev_nd (j + 1) q (by omega), qOf_nd (j + 1) q (by omega), Nat.add_sub_cancel]
    rw [e]
    exact above_nd vt t K j q side w hT ht hTab hj hq hs
set_option maxHeartbeats 1000000 in
theorem hashAbove_any (vt : Value) (t : List Nod) (K : Nat) (x side : Int) (w : World) (hT : TidyT t K) (hr : RightK t K) (ht : NL w vt t) (hx : -9223372036854775808 ≤ x ∧ x ≤ 9223372036854775807) (hs : -9223372036854775808 ≤ side ∧ side ≤ 9223372036854775807) (hTab : Tab w) :
    Calls Tryz.prog 10 #[vt, .int .i64 x, .int .i64 side] w fun e w' => (∃ r, e = .returned (.tuple #[r, .int .i64 (aboE t x side)]) ∧ Rd w' r (aboV t x side)) ∧ Kp w w' := by
  have HIS := Lib.hid (hashIsNode_any vt t K x w ht hr)
  by_cases h : 0 ≤ x ∧ x < t.length
  · rw [decide_eq_true h] at HIS
    obtain ⟨X, rfl⟩ := Int.eq_ofNat_of_zero_le h.1
    have hX : X < t.length := by omega
    have e4 : (X : Int) < (t.length : Int) := by omega
    by_cases h2 : side = 0 ∨ side = 1
    · by_cases hk : (ats t X).kind = 2
      · have HAB := Lib.hid (above_any vt t K X side w hT ht hTab hX hk h2)
        have hE : aboE t (X : Int) side = 0 := by
          unfold aboE
          rw [if_pos ⟨by omega, by omega, by omega, by omega⟩, Int.toNat_natCast, if_pos hk]
        rw [hE]
        generalize aboV t (X : Int) side = V at *
        obtain ⟨b, off, c, p, u, q, rfl, hn⟩ := ht.node hX
        have c0 := hn.kind
        rw [hk] at c0
        generalize t.length = N at *
        clear hT hr ht hTab hn hk hE h
        rcases h2 with rfl | rfl
        all_goals
          go_enter Tryz.func10, Tryz.ntmps10
          go_wp2_with fail
          refine HIS.out.mono ?_; rintro _ _ ⟨rfl, rfl⟩
          go_wp2_with fail
          refine HAB.out.mono ?_; rintro _ w2 ⟨⟨r2, rfl, o2⟩, k2⟩
          have KE := Lib.hid (And.intro o2.rd k2)
          obtain ⟨ar, nr, cr, rfl⟩ := rd_slH o2.rd
          clear o2 k2
          go_wp2_with fail
          go_ret2
          exact ⟨⟨_, rfl, KE.out.1⟩, KE.out.2⟩
      · have hE : aboE t (X : Int) side = 11 := by
          unfold aboE
          rw [if_pos ⟨by omega, by omega, by omega, by omega⟩, Int.toNat_natCast, if_neg hk]
        have hV : aboV t (X : Int) side = [] := if_neg (by rw [hE]; decide)
        rw [hE, hV]
        have hkb : ((ats t X).kind != 2) = true := bne_iff_ne.2 hk
        obtain ⟨b, off, c, p, u, q, rfl, hn⟩ := ht.node hX
        have c0 := hn.kind
        generalize (ats t X).kind = KD at *
        generalize t.length = N at *
        clear hT hr ht hTab hn hE hV h
        rcases h2 with rfl | rfl
        all_goals
          go_enter Tryz.func10, Tryz.ntmps10
          go_wp2_with fail
          refine HIS.out.mono ?_; rintro _ _ ⟨rfl, rfl⟩
          go_wp2_with fail
          go_ret2
          exact ⟨⟨_, rfl, rd_nil9 _⟩, Kp.refl _⟩
    · have hE : aboE t (X : Int) side = 1 := by
        unfold aboE
        rw [if_neg (fun h => h2 (by omega))]
      have hV : aboV t (X : Int) side = [] := if_neg (by rw [hE]; decide)
      rw [hE, hV]
      have hb0 : (side != 0) = true := bne_iff_ne.2 (fun e => h2 (.inl e))
      have hb1 : (side != 1) = true := bne_iff_ne.2 (fun e => h2 (.inr e))
      obtain ⟨a, c, rfl, _, _⟩ := ht.shape
      generalize t.length = N at *
      clear hT hr ht hTab hE hV h h2
      go_enter Tryz.func10, Tryz.ntmps10
      go_wp2_with fail
      refine HIS.out.mono ?_; rintro _ _ ⟨rfl, rfl⟩
      go_wp2_with fail
      go_ret2
      exact ⟨⟨_, rfl, rd_nil9 _⟩, Kp.refl _⟩
  · rw [decide_eq_false h] at HIS
    have hE : aboE t x side = 1 := by
      unfold aboE
      rw [if_neg (fun h2 => h ⟨h2.1, h2.2.1⟩)]
    have hV : aboV t x side = [] := if_neg (by rw [hE]; decide)
    rw [hE, hV]
    obtain ⟨a, c, rfl, _, _⟩ := ht.shape
    generalize t.length = N at *
    clear hT hr ht hTab hE hV h
    go_enter Tryz.func10, Tryz.ntmps10
    go_wp2_with fail
    refine HIS.out.mono ?_; rintro _ _ ⟨rfl, rfl⟩
    go_wp2_with fail
    go_ret2
    exact ⟨⟨_, rfl, rd_nil9 _⟩, Kp.refl _⟩
end Go.Proofs.YtobldbodafaajaaGreatDoor

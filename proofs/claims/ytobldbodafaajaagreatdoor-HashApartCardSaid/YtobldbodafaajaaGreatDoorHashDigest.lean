/- hash.digest, hash.Tree. -/
import Derived.Test.YtobldbodafaajaaGreatDoorHashA10
import Derived.Test.YtobldbodafaajaaGreatDoorHashCounted
import Derived.Test.YtobldbodafaajaaGreatDoorHashNums
import Derived.Test.YtobldbodafaajaaGreatDoorRefHash10
set_option linter.unusedVariables false
set_option linter.unusedSimpArgs false
namespace Go.Proofs.YtobldbodafaajaaGreatDoor
open Go.RowKit

theorem nodeB_less {n : Nod} (g : List Int) (h : n.kind ≠ 2) : nodeB (lessN n g) = nodeB n := by
  unfold nodeB lessN
  simp only [h, if_false]
set_option maxRecDepth 100000 in
set_option maxHeartbeats 3000000 in
theorem hashDigest_leaf (vt vc : Value) (t : List Nod) (g : List Int) (K q : Nat) (w : World) (hT : TidyT t K) (ht : NL w vt t) (hc : Cnt w vc g) (hTab : Tab w) (hq : q < 2 ^ K) :
    Calls Tryz.prog 30 #[vt, .int .i64 ((nd 0 q : Nat) : Int), vc] w fun e w' => (∃ r, e = .returned r ∧ Ow 5 w' w.heap.size r (digF t g 0 q)) ∧ Kp w w' := by
  obtain ⟨x1, x2⟩ := hT.lt (j := 0) (Nat.zero_le _) (by simpa using hq)
  have hk := p2_le hT.le
  obtain ⟨b, off, c, p, u, h, rfl, hn⟩ := ht.node x1
  obtain ⟨c0, c1, c2, c3, c4⟩ := And.intro hn.kind (And.intro hn.name (And.intro hn.pubC (And.intro hn.unC hn.hashC)))
  have hx0 : nd 0 q = 2 * q := nd_leaf q
  have hne : (ats t (nd 0 q)).kind ≠ 2 := fun e => by have := hT.par _ e; omega
  have hB : nodeB (if ((nd 0 q : Nat) : Int) ∈ g.map (2 * ·) then blankN else lessN (ats t (nd 0 q)) g) = nodeB (if (q : Int) ∈ g then blankN else ats t (nd 0 q)) := by
    have e : ((nd 0 q : Nat) : Int) = 2 * (q : Int) := by omega
    rw [e]
    by_cases hm : (q : Int) ∈ g
    · rw [if_pos ((mem_twice g _).2 hm), if_pos hm]
    · rw [if_neg (fun h => hm ((mem_twice g _).1 h)), if_neg hm, nodeB_less g hne]
  have hTD : TidyN (if ((nd 0 q : Nat) : Int) ∈ g.map (2 * ·) then blankN else lessN (ats t (nd 0 q)) g) := by
    split
    · exact TidyN.blank
    · exact (hT.node _).less g
  have HCT := Lib.hid (counted_any (.agg (nodC (ats t (nd 0 q)) p u h).toArray) vc (ats t (nd 0 q)) ((nd 0 q : Nat) : Int) g w ⟨p, u, h, rfl, hn.2⟩ (hT.node _) hc (by omega))
  have HD : Hid (digF t g 0 q = digest ([1] ++ [be 2 q, nodeB (if ((nd 0 q : Nat) : Int) ∈ g.map (2 * ·) then blankN else lessN (ats t (nd 0 q)) g)].flatten)) := by unfold Hid; rw [hB]; simp [digF]
  rw [HD.out]
  have hnl := (nodeB_len hTD).1
  generalize (if ((nd 0 q : Nat) : Int) ∈ g.map (2 * ·) then blankN else lessN (ats t (nd 0 q)) g) = m9 at *
  have HTD := Lib.hid hTD
  have HNL := Lib.hid hnl
  obtain ⟨_, y1, y2⟩ := nd_small hT.le (Nat.zero_le K) (show q < 2 ^ (K - 0) by simpa using hq)
  have hlv := levV_nd y1 y2
  have HLV := Lib.hid (fun W (hW : Kp w W) => mathLevel_same ((nd 0 q : Nat) : Int) W (hTab.kp hW))
  rw [hlv] at HLV
  have HNUM : Hid (∀ W, Calls Tryz.prog 37 #[.int .i64 (q : Int), .int .i64 2] W fun e w' => (∃ r, e = .returned r ∧ Ow 5 w' W.heap.size r (be 2 q)) ∧ Kp W w') := fun W => by
    have := hashNumber_any (q : Int) 2 W (by omega)
    rwa [numB2 (by omega), Int.toNat_natCast] at this
  have e2 : ((nd 0 q : Nat) : Int).tdiv 2 = (q : Int) := by rw [hx0, Int.tdiv_eq_ediv_of_nonneg (by omega)]; omega
  have e3 : IntKind.i64.wrap (q : Int) = (q : Int) := IntWalk.i64_in _ (by omega)
  have e4 : ((nd 0 q : Nat) : Int) < (t.length : Int) := by omega
  have HIN := Lib.hid hn.2
  obtain ⟨ap, np, cp, rfl⟩ := rd_slH hn.2.pub
  obtain ⟨au, nu, cu, rfl⟩ := hn.2.un.sl
  obtain ⟨ah, nh, ch, rfl⟩ := rd_slH hn.2.hash
  obtain ⟨cb, rfl, _⟩ := hc.call
  clear hT ht hc hn hx0 hq hB hTD hne hnl y1 y2 hlv hTab HIN
  simp only [nodC] at HCT
  generalize nd 0 q = X at *
  generalize t.length = TL at *
  generalize ats t X = m at *
  go_enter Tryz.func30, Tryz.ntmps30
  go_wp2_with fail
  refine HCT.out.mono ?_; rintro _ w1 ⟨⟨r1, rfl, o1⟩, k1⟩
  clear HCT c0 c1 c2 c3 c4
  go_wp2_with fail
  refine (hashNode_own r1 m9 w1 o1 HTD.out).mono ?_; rintro _ w2 ⟨⟨r2, rfl, o2⟩, k2⟩
  have K2 := Lib.hid (k1.trans k2)
  have O2 := Lib.hid o2.rd
  obtain ⟨a2, n2, b2, rfl⟩ := rd_slH o2.rd
  clear o1 k1 k2 o2
  go_wp2_with fail
  refine (HLV.out _ K2.out).mono ?_; rintro _ _ ⟨rfl, rfl⟩
  go_wp2_with fail
  refine (HNUM.out _).mono ?_; rintro _ w3 ⟨⟨r3, rfl, o3⟩, k3⟩
  have HR := Lib.hid (RL.lit2 w3 25 o3.rd (O2.out.kp k3))
  have K3 := Lib.hid (K2.out.trans (k3.alloc (.cells #[r3, .slice a2 n2 b2] 25)))
  obtain ⟨a3, n3, b3, rfl⟩ := rd_slH o3.rd
  clear o3 k3 O2 HNUM HLV
  go_wp2_with fail
  refine (hashSum_any 1 _ _ _ HR.out (by rw [List.flatten_cons, List.length_append, be_length]; omega) (by have := HNL.out; simp only [List.flatten_cons, List.flatten_nil, List.length_append, be_length, List.length_nil]; omega) (by simp)).mono ?_
  rintro _ w4 ⟨⟨r4, rfl, o4⟩, k4⟩
  have KE := Lib.hid (And.intro o4 (K3.out.trans k4))
  obtain ⟨a4, n4, b4, rfl⟩ := rd_slH o4.rd
  clear o4 k4 HR
  go_wp2_with fail
  go_ret
  exact ⟨⟨_, rfl, KE.out.1.mono K3.out.size⟩, KE.out.2⟩
set_option maxRecDepth 100000 in
set_option maxHeartbeats 3000000 in
theorem hashDigest_step (t : List Nod) (K j : Nat) (hT : TidyT t K) (hj : j + 1 ≤ K)
    (IH : ∀ (q : Nat) (w : World) (vt vc : Value) (g : List Int), NL w vt t → Cnt w vc g → Tab w → q < 2 ^ (K - j) → Calls Tryz.prog 30 #[vt, .int .i64 ((nd j q : Nat) : Int), vc] w fun e w' => (∃ r, e = .returned r ∧ Ow 5 w' w.heap.size r (digF t g j q)) ∧ Kp w w')
    (q : Nat) (w : World) (vt vc : Value) (g : List Int) (ht : NL w vt t) (hc : Cnt w vc g) (hTab : Tab w) (hq : q < 2 ^ (K - (j + 1))) :
    Calls Tryz.prog 30 #[vt, .int .i64 ((nd (j + 1) q : Nat) : Int), vc] w fun e w' => (∃ r, e = .returned r ∧ Ow 5 w' w.heap.size r (digF t g (j + 1) q)) ∧ Kp w w' := by
  obtain ⟨x1, x2⟩ := hT.lt hj hq
  obtain ⟨b, off, c, p, u, h, rfl, hn⟩ := ht.node x1
  obtain ⟨c0, c1, c2, c3, c4⟩ := And.intro hn.kind (And.intro hn.name (And.intro hn.pubC (And.intro hn.unC hn.hashC)))
  have hodd := nd_odd j q
  have hnin : ¬ ((nd (j + 1) q : Nat) : Int) ∈ g.map (2 * ·) := fun h => by
    obtain ⟨i, _, e⟩ := List.mem_map.1 h
    omega
  have hct := counted_any (.agg (nodC (ats t (nd (j + 1) q)) p u h).toArray) vc (ats t (nd (j + 1) q)) ((nd (j + 1) q : Nat) : Int) g w ⟨p, u, h, rfl, hn.2⟩ (hT.node _) hc (by omega)
  rw [if_neg hnin] at hct
  have HCT := Lib.hid hct
  have HTD := Lib.hid ((hT.node (nd (j + 1) q)).less g)
  have HNL := Lib.hid (nodeB_len HTD.out).1
  obtain ⟨k1, k2⟩ := kid10 hj hq
  obtain ⟨_, y1, y2⟩ := nd_small hT.le hj hq
  obtain ⟨f1, f2, f3⟩ := ch_yes (j := j) (q := q) y1 y2
  have hlv := levV_nd y1 y2
  have HLV := Lib.hid (fun W (hW : Kp w W) => mathLevel_same ((nd (j + 1) q : Nat) : Int) W (hTab.kp hW))
  rw [hlv] at HLV
  have hl0 : (((j + 1 : Nat) : Int) == 0) = false := beq_eq_false_iff_ne.2 (by omega)
  have hl1 : ¬ (((j + 1 : Nat) : Int) = 0) := by omega
  have HCL : Hid (∀ W, Kp w W → Calls Tryz.prog 67 #[.int .i64 ((nd (j + 1) q : Nat) : Int), .int .i64 0] W fun e w' => e = .returned (.int .i64 ((nd j (2 * q) : Nat) : Int)) ∧ W = w') := fun W hW => by
    have := hashChild_any ((nd (j + 1) q : Nat) : Int) 0 W (hTab.kp hW)
    rwa [if_neg (by decide), f2] at this
  have HCR : Hid (∀ W, Kp w W → Calls Tryz.prog 67 #[.int .i64 ((nd (j + 1) q : Nat) : Int), .int .i64 1] W fun e w' => e = .returned (.int .i64 ((nd j (2 * q + 1) : Nat) : Int)) ∧ W = w') := fun W hW => by
    have := hashChild_any ((nd (j + 1) q : Nat) : Int) 1 W (hTab.kp hW)
    rwa [if_pos rfl, f3] at this
  have HDL := Lib.hid (fun W (hW : Kp w W) => IH (2 * q) W _ vc g (ht.kp hW) (hc.kp hW) (hTab.kp hW) k1)
  have HDR := Lib.hid (fun W (hW : Kp w W) => IH (2 * q + 1) W _ vc g (ht.kp hW) (hc.kp hW) (hTab.kp hW) k2)
  have HLL := Lib.hid (digF_len t g j (2 * q))
  have HLR := Lib.hid (digF_len t g j (2 * q + 1))
  have HD : Hid (digF t g (j + 1) q = digest ([2] ++ [nodeB (lessN (ats t (nd (j + 1) q)) g), rowB (digF t g j (2 * q)), rowB (digF t g j (2 * q + 1))].flatten)) := by unfold Hid; simp [digF]
  rw [HD.out]
  have e4 : ((nd (j + 1) q : Nat) : Int) < (t.length : Int) := by omega
  obtain ⟨ap, np, cp, rfl⟩ := rd_slH hn.2.pub
  obtain ⟨au, nu, cu, rfl⟩ := hn.2.un.sl
  obtain ⟨ah, nh, ch, rfl⟩ := rd_slH hn.2.hash
  obtain ⟨cb, rfl, _⟩ := hc.call
  generalize digF t g j (2 * q) = DL at *
  generalize digF t g j (2 * q + 1) = DR at *
  clear hT ht hc hn hq hnin hct hodd IH k1 k2 y1 y2 f1 f2 f3 hlv hTab
  simp only [nodC] at HCT
  generalize lessN (ats t (nd (j + 1) q)) g = m9 at *
  generalize nd j (2 * q) = XL at *
  generalize nd j (2 * q + 1) = XR at *
  generalize nd (j + 1) q = X at *
  generalize t.length = TL at *
  generalize ats t X = m at *
  generalize ((j + 1 : Nat) : Int) = JJ at *
  go_enter Tryz.func30, Tryz.ntmps30
  go_wp2_with fail
  refine HCT.out.mono ?_; rintro _ w1 ⟨⟨r1, rfl, o1⟩, k1⟩
  clear HCT c0 c1 c2 c3 c4
  go_wp2_with fail
  refine (hashNode_own r1 m9 w1 o1 HTD.out).mono ?_; rintro _ w2 ⟨⟨r2, rfl, o2⟩, k2⟩
  have K2 := Lib.hid (k1.trans k2)
  have O2 := Lib.hid o2.rd
  obtain ⟨a2, n2, b2, rfl⟩ := rd_slH o2.rd
  clear o1 k1 k2 o2
  go_wp2_with fail
  refine (HLV.out _ K2.out).mono ?_; rintro _ _ ⟨rfl, rfl⟩
  go_wp2_with fail
  refine (HCL.out _ K2.out).mono ?_; rintro _ _ ⟨rfl, rfl⟩
  go_wp2_with fail
  refine (HDL.out _ K2.out).mono ?_; rintro _ w3 ⟨⟨r3, rfl, o3⟩, k3⟩
  have K3 := Lib.hid (K2.out.trans k3)
  have O23 := Lib.hid (And.intro (O2.out.kp k3) o3.rd)
  obtain ⟨a3, n3, b3, rfl⟩ := rd_slH o3.rd
  clear o3 k3 O2 HDL HCL HLV
  go_wp2_with fail
  refine (HCR.out _ K3.out).mono ?_; rintro _ _ ⟨rfl, rfl⟩
  go_wp2_with fail
  refine (HDR.out _ K3.out).mono ?_; rintro _ w4 ⟨⟨r4, rfl, o4⟩, k4⟩
  have K4 := Lib.hid (K3.out.trans k4)
  have O4 := Lib.hid (And.intro (O23.out.1.kp k4) (And.intro (O23.out.2.kp k4) o4.rd))
  obtain ⟨a4, n4, b4, rfl⟩ := rd_slH o4.rd
  clear o4 k4 O23 HDR HCR
  go_wp2_with fail
  refine (hashRow_any _ DL w4 O4.out.2.1).mono ?_; rintro _ w5 ⟨⟨r5, rfl, o5⟩, k5⟩
  have K5 := Lib.hid (K4.out.trans k5)
  have O5 := Lib.hid (And.intro (O4.out.1.kp k5) (And.intro o5.rd (O4.out.2.2.kp k5)))
  obtain ⟨a5, n5, b5, rfl⟩ := rd_slH o5.rd
  clear o5 k5 O4
  go_wp2_with fail
  refine (hashRow_any _ DR w5 O5.out.2.2).mono ?_; rintro _ w6 ⟨⟨r6, rfl, o6⟩, k6⟩
  have HR := Lib.hid (RL.lit3 w6 25 (O5.out.1.kp k6) (O5.out.2.1.kp k6) o6.rd)
  obtain ⟨a6, n6, b6, rfl⟩ := rd_slH o6.rd
  have K6 := Lib.hid (K5.out.trans (k6.alloc (.cells #[.slice a2 n2 b2, .slice a5 n5 b5, .slice a6 n6 b6] 25)))
  have hl3 := rowB_le (x := DL) (by have := HLL.out; omega)
  have hl5 := rowB_le (x := DR) (by have := HLR.out; omega)
  have HBD : Hid ([nodeB m9, rowB DL, rowB DR].flatten.length ≤ 1900 ∧ 0 < [nodeB m9, rowB DL, rowB DR].flatten.length) := by
    have h1 := HNL.out
    have h2 := (nodeB_len HTD.out).2
    have h3 := HLL.out
    have h4 := HLR.out
    unfold Hid
    simp only [List.flatten_cons, List.flatten_nil, List.length_append, List.length_nil]
    omega
  clear o6 k6 O5 hl3 hl5
  go_wp2_with fail
  refine (hashSum_any 2 _ _ _ HR.out HBD.out.2 HBD.out.1 (by simp)).mono ?_
  rintro _ w7 ⟨⟨r7, rfl, o7⟩, k7⟩
  have KE := Lib.hid (And.intro o7 (K6.out.trans k7))
  obtain ⟨a7, n7, b7, rfl⟩ := rd_slH o7.rd
  clear o7 k7 HR
  go_wp2_with fail
  go_ret
  exact ⟨⟨_, rfl, KE.out.1.mono K6.out.size⟩, KE.out.2⟩
theorem hashDigest_any (t : List Nod) (K : Nat) (hT : TidyT t K) : ∀ (j q : Nat) (w : World) (vt vc : Value) (g : List Int), j ≤ K → NL w vt t → Cnt w vc g → Tab w → q < 2 ^ (K - j) →
    Calls Tryz.prog 30 #[vt, .int .i64 ((nd j q : Nat) : Int), vc] w fun e w' => (∃ r, e = .returned r ∧ Ow 5 w' w.heap.size r (digF t g j q)) ∧ Kp w w'
  | 0, q, w, vt, vc, g, _, ht, hc, hTab, hq => hashDigest_leaf vt vc t g K q w hT ht hc hTab (by simpa using hq)
  | j + 1, q, w, vt, vc, g, hj, ht, hc, hTab, hq => hashDigest_step t K j hT hj (fun q w vt vc g ht hc hTab hq => hashDigest_any t K hT j q w vt vc g (by omega) ht hc hTab hq) q w vt vc g ht hc hTab hq
set_option maxHeartbeats 1000000 in
theorem hashTree_any (vt : Value) (t : List Nod) (K : Nat) (x : Int) (w : World) (hT : TidyT t K) (hr : RightK t K) (ht : NL w vt t) (hx : -9223372036854775808 ≤ x ∧ x ≤ 9223372036854775807) (hTab : Tab w) :
    Calls Tryz.prog 8 #[vt, .int .i64 x] w fun e w' => (∃ r, e = .returned (.tuple #[r, .int .i64 (treE t x)]) ∧ Rd w' r (treV t x)) ∧ Kp w w' := by
  have HIS := Lib.hid (hashIsNode_any vt t K x w ht hr)
  by_cases h : 0 ≤ x ∧ x < t.length
  · have e1 : treE t x = 0 := if_pos h
    have e2 : treV t x = digF t [] (lev x.toNat) (qOf x.toNat) := if_pos e1
    rw [e1, e2]
    rw [decide_eq_true h] at HIS
    obtain ⟨X, rfl⟩ := Int.eq_ofNat_of_zero_le h.1
    have hX : X < t.length := by omega
    obtain ⟨j, q, rfl, hj, hq⟩ := hT.at hX
    have hs := nd_small hT.le hj hq
    rw [Int.toNat_natCast, lev_nd j q (by omega), qOf_nd j q (by omega)]
    have HD := Lib.hid (fun W vc (hW : Kp w W) (hc : Cnt W vc []) => hashDigest_any t K hT j q W vt vc [] hj (ht.kp hW) hc (hTab.kp hW) hq)
    have HAB := Lib.hid (fun W => allBut_any (.slice none 0 0) [] W (RI.nil W) (by simp) (fun i hi => by cases hi))
    obtain ⟨a, c, rfl, h1, h2⟩ := ht.shape
    generalize nd j q = X at *
    generalize t.length = N at *
    clear h ht e1 e2 hX hs hj hq hT hr hTab
    go_enter Tryz.func8, Tryz.ntmps8
    go_wp2_with fail
    refine HIS.out.mono ?_; rintro _ _ ⟨rfl, rfl⟩
    go_wp2_with fail
    refine (HAB.out _).mono ?_; rintro _ w1 ⟨⟨r1, rfl, o1⟩, k1⟩
    have HC := Lib.hid (HD.out w1 r1 k1 o1)
    obtain ⟨cb, rfl, _⟩ := o1.call
    have K1 := Lib.hid k1
    clear o1 k1 HD HAB
    go_wp2_with fail
    refine HC.out.mono ?_; rintro _ w2 ⟨⟨r2, rfl, o2⟩, k2⟩
    have KE := Lib.hid (And.intro o2.rd (K1.out.trans k2))
    obtain ⟨ar, nr, cr, rfl⟩ := rd_slH o2.rd
    clear o2 k2
    go_wp2_with fail
    go_ret2
    exact ⟨⟨_, rfl, KE.out.1⟩, KE.out.2⟩
  · have e1 : treE t x = 1 := if_neg h
    have e2 : treV t x = [] := if_neg (by rw [e1]; decide)
    rw [e1, e2]
    rw [decide_eq_false h] at HIS
    obtain ⟨a, c, rfl, h1, h2⟩ := ht.shape
    clear h ht e1 e2 hT hr hTab
    go_enter Tryz.func8, Tryz.ntmps8
    go_wp2_with fail
    refine HIS.out.mono ?_; rintro _ _ ⟨rfl, rfl⟩
    go_wp2_with fail
    go_ret2
    exact ⟨⟨_, rfl, rd_nil9 _⟩, Kp.refl _⟩
end Go.Proofs.YtobldbodafaajaaGreatDoor

/- The law's told: what a digest is the digest of; a list of nodes behind another. -/
import Derived.Test.YtobldbodafaajaaGreatDoorHashApart
import Derived.Test.YtobldbodafaajaaGreatDoorRefHash10
import Derived.Test.YtobldbodafaajaaGreatDoorHashOwn
set_option linter.unusedVariables false
set_option linter.unusedSimpArgs false
namespace Go.Proofs.YtobldbodafaajaaGreatDoor
open Go.RowKit

/-- append(v, u...), v a row of the call's own. -/
theorem wpList_append_ns {P : Program} {w : World} {t e : TypeId} (S : S1 P t e) {ops : Array Oper} {rest : List Oper} {o : Oper} {a : Act} {Q : Exit → Act → World → Prop} (hgd : o.guard = none) (s x : Operand)
    (ho : o.op = .call { callee := .builtin .append, args := #[s, x], argTypes := #[t, t] })
    (B : Nat) (v : Value) (l : List Nat) (hs : a.eval s = v) (hown : ON e w B v l) (u : Value) (m : List Nat) (hx : a.eval x = u) (hu : RN w u m) (hlen : l.length + m.length ≤ 1000000) (hbase : B ≤ w.heap.size)
    (h : ∀ v' w', ON e w' B v' (l ++ m) → w.grownBy w' v.ownBlock → wpList P ops Q rest (a.put o.dst v') w') : wpList P ops Q (o :: rest) a w := by
  refine wpList_append_vals S hgd s x ho B v (l.map iv) hs hown u (m.map iv) hx hu (fun z hz => by obtain ⟨n, _, rfl⟩ := List.mem_map.1 hz; rfl) (by rw [List.length_map, List.length_map]; omega) hbase (fun v' w' h1 h2 => h v' w' ?_ h2)
  unfold ON
  rw [List.map_append]
  exact h1
theorem tellT_leaf (t : List Nod) (q : Nat) : tellT t 0 q = [1, UInt8.ofNat (q / 256), UInt8.ofNat q] ++ nodeB (ats t (nd 0 q)) := by
  have e : be 2 q = [UInt8.ofNat (q / 256), UInt8.ofNat q] := by
    rw [be_cons, be_cons]
    simp [be]
  show [1] ++ be 2 q ++ nodeB (ats t (nd 0 q)) = _
  rw [e]
  rfl
set_option maxRecDepth 100000 in
set_option maxHeartbeats 6000000 in
theorem tell_leaf (vt : Value) (t : List Nod) (K q : Nat) (w : World) (hT : TidyT t K) (ht : NL w vt t) (hq : q < 2 ^ K) :
    Calls Tryz.prog 23 #[vt, .int .i64 ((nd 0 q : Nat) : Int)] w fun e w' => (∃ r, e = .returned r ∧ Rd w' r (tellT t 0 q)) ∧ Kp w w' := by
  have U := u8
  obtain ⟨x1, x2⟩ := hT.lt (j := 0) (Nat.zero_le _) (by simpa using hq)
  have hk := p2_le hT.le
  obtain ⟨b, off, c, p, u, h, rfl, hn⟩ := ht.node x1
  rw [tellT_leaf]
  have hx0 : nd 0 q = 2 * q := nd_leaf q
  have e1 : ((nd 0 q : Nat) : Int).tmod 2 = 0 := tmod2_even q
  have e2 : ((nd 0 q : Nat) : Int).tdiv 2 = (q : Int) := by rw [hx0, Int.tdiv_eq_ediv_of_nonneg (by omega)]; omega
  have e5 : ((nd 0 q : Nat) : Int).tdiv 512 = ((q / 256 : Nat) : Int) := by rw [hx0, Int.tdiv_eq_ediv_of_nonneg (by omega)]; omega
  have e3 : IntKind.i64.wrap (q : Int) = (q : Int) := IntWalk.i64_in _ (by omega)
  have e6 : IntKind.i64.wrap ((q / 256 : Nat) : Int) = ((q / 256 : Nat) : Int) := IntWalk.i64_in _ (by omega)
  have e7 : IntKind.u8.wrap (q : Int) = ((UInt8.ofNat q).toNat : Int) := by rw [IntKind.wrap_u8]; simp
  have e8 : IntKind.u8.wrap ((q / 256 : Nat) : Int) = ((UInt8.ofNat (q / 256)).toNat : Int) := by rw [IntKind.wrap_u8]; simp
  have e4 : ((nd 0 q : Nat) : Int) < (t.length : Int) := by omega
  generalize UInt8.ofNat (q / 256) = B1 at *
  generalize UInt8.ofNat q = B2 at *
  obtain ⟨ap, np, cp, rfl⟩ := rd_sl9 hn.2.pub
  obtain ⟨au, nu, cu, rfl⟩ := hn.2.un.sl
  obtain ⟨ah, nh, ch, rfl⟩ := rd_sl9 hn.2.hash
  have hnA := hn.kp ((Kp.refl w).alloc (.cells #[.int .u8 1, .int .u8 (B1.toNat : Int), .int .u8 (B2.toNat : Int)] 5))
  obtain ⟨c0, c1, c2, c3, c4⟩ := And.intro hnA.kind (And.intro hnA.name (And.intro hnA.pubC (And.intro hnA.unC hnA.hashC)))
  have HTD := hT.node (nd 0 q)
  have HND := Lib.hid (refNode10_any _ _ _ ⟨_, _, _, rfl, hnA.2⟩ HTD)
  have HNL := Lib.hid (nodeB_len HTD).1
  have HLT := Lib.hid (Ow.lit w 5 w.heap.size 3 #[.int .u8 1, .int .u8 (B1.toNat : Int), .int .u8 (B2.toNat : Int)] [1, B1, B2] (Nat.le_refl _) rfl (by omega) rfl)
  have K1 : Hid (Kp w (w.alloc (.cells #[.int .u8 1, .int .u8 (B1.toNat : Int), .int .u8 (B2.toNat : Int)] 5))) := (Kp.refl w).alloc _
  clear hT ht hn hx0 hq hnA HTD
  generalize q / 256 = Q1 at *
  generalize nd 0 q = X at *
  generalize t.length = TL at *
  generalize ats t X = m at *
  go_enter Tryz.func23, Tryz.ntmps23
  go_wp2_with fail
  refine HND.out.mono ?_; rintro _ w2 ⟨⟨r2, rfl, o2⟩, k2⟩
  have O1 := Lib.hid (HLT.out.kp k2)
  have K2 := Lib.hid (K1.out.trans k2)
  clear c0 c1 c2 c3 c4 k2
  go_wp2_with (at_builtin; refine wpList_append_ow U rfl _ _ rfl w.heap.size _ _ rfl O1.out _ (nodeB m) rfl o2.rd (by have := HNL.out; simp; omega) K2.out.size ?_; intro v3 w3 o3 g3 _; have K3 := Lib.hid (Kp.grown K2.out g3 O1.out.own_ge))
  obtain ⟨a3, n3, c3, rfl⟩ := rd_sl10 o3.rd
  go_wp2_with fail
  go_ret
  exact ⟨⟨_, rfl, o3.rd⟩, K3.out⟩
set_option maxRecDepth 100000 in
set_option maxHeartbeats 6000000 in
theorem tell_step (vt : Value) (t : List Nod) (K j q : Nat) (w : World) (hT : TidyT t K) (ht : NL w vt t) (hj : j + 1 ≤ K) (hq : q < 2 ^ (K - (j + 1))) :
    Calls Tryz.prog 23 #[vt, .int .i64 ((nd (j + 1) q : Nat) : Int)] w fun e w' => (∃ r, e = .returned r ∧ Rd w' r (tellT t (j + 1) q)) ∧ Kp w w' := by
  have U := u8
  obtain ⟨x1, x2⟩ := hT.lt hj hq
  obtain ⟨k1, k2⟩ := kid10 hj hq
  obtain ⟨_, y1, y2⟩ := nd_small hT.le hj hq
  obtain ⟨f1, f2, f3⟩ := ch_yes (j := j) (q := q) y1 y2
  have HLE := Lib.hid (fun W => refLeft_any ((nd (j + 1) q : Nat) : Int) W)
  have HRI := Lib.hid (fun W => refRight_any ((nd (j + 1) q : Nat) : Int) W)
  rw [f1, f2] at HLE
  rw [f1, f3] at HRI
  have hz1 := (hT.lt (j := j) (q := 2 * q) (by omega) k1).1
  have hz2 := (hT.lt (j := j) (q := 2 * q + 1) (by omega) k2).1
  have HTR : ∀ q', q' < 2 ^ (K - j) → ∀ W, Kp w W → Calls Tryz.prog 9 #[vt, .int .i64 ((nd j q' : Nat) : Int)] W fun e w' => (∃ r, e = .returned (.tuple #[r, .int .i64 0]) ∧ Rd w' r (digF t [] j q')) ∧ Kp W w' := fun q' hq' W hW => by
    have hl := (hT.lt (j := j) (q := q') (by omega) hq').1
    have e1 : treE t ((nd j q' : Nat) : Int) = 0 := if_pos ⟨by omega, by omega⟩
    have e2 : treV t ((nd j q' : Nat) : Int) = digF t [] j q' := by
      unfold treV
      rw [if_pos e1, Int.toNat_natCast, lev_nd j q' (by have := hT.le; omega), qOf_nd j q' (by have := hT.le; omega)]
    have := refTree10_any vt t K ((nd j q' : Nat) : Int) W hT (ht.kp hW)
    rwa [e1, e2] at this
  have HTL := Lib.hid (HTR (2 * q) k1)
  have HTRR := Lib.hid (HTR (2 * q + 1) k2)
  clear HTR
  obtain ⟨b, off, c, p, u, h, rfl, hn⟩ := ht.node x1
  rw [tellT_succ]
  have e1 : ((nd (j + 1) q : Nat) : Int).tmod 2 = 1 := tmod2_odd j q
  have e4 : ((nd (j + 1) q : Nat) : Int) < (t.length : Int) := by omega
  obtain ⟨ap, np, cp, rfl⟩ := rd_sl9 hn.2.pub
  obtain ⟨au, nu, cu, rfl⟩ := hn.2.un.sl
  obtain ⟨ah, nh, ch, rfl⟩ := rd_sl9 hn.2.hash
  have HTD := hT.node (nd (j + 1) q)
  have HNA := Lib.hid (fun W (hW : Kp w W) => hn.kp hW)
  have HND := Lib.hid (fun W (hW : Kp w W) => refNode10_any _ _ W ⟨_, _, _, rfl, (hn.kp hW).2⟩ HTD)
  have HNL := Lib.hid (nodeB_len HTD).1
  have HD1 := Lib.hid (digF_len t [] j (2 * q))
  have HD2 := Lib.hid (digF_len t [] j (2 * q + 1))
  generalize digF t [] j (2 * q) = DL at *
  generalize digF t [] j (2 * q + 1) = DR at *
  have E1 := (row_ok (x := DL) (by have := HD1.out; omega)).1
  have E2 := (row_ok (x := DR) (by have := HD2.out; omega)).1
  have hl3 := rowB_le (x := DL) (by have := HD1.out; omega)
  have hl5 := rowB_le (x := DR) (by have := HD2.out; omega)
  have HLL : Hid ((rowB DL).length ≤ 40 ∧ (rowB DR).length ≤ 40) := by have := HD1.out; have := HD2.out; unfold Hid; omega
  clear hT ht hn hq HTD f1 f2 f3 k1 k2 y1 y2 hz1 hz2 hl3 hl5 hj
  generalize nd j (2 * q) = XL at *
  generalize nd j (2 * q + 1) = XR at *
  generalize nd (j + 1) q = X at *
  generalize t.length = TL at *
  generalize ats t X = m at *
  go_enter Tryz.func23, Tryz.ntmps23
  go_wp2_with fail
  refine (HLE.out _).mono ?_; rintro _ _ ⟨rfl, rfl⟩
  go_wp2_with fail
  refine (HRI.out _).mono ?_; rintro _ _ ⟨rfl, rfl⟩
  go_wp2_with fail
  refine (HTL.out _ (Kp.refl w)).mono ?_; rintro _ w2 ⟨⟨r2, rfl, o2⟩, k2⟩
  have K2 := Lib.hid k2
  clear HLE HRI HTL k2
  go_wp2_with fail
  refine (HTRR.out _ K2.out).mono ?_; rintro _ w3 ⟨⟨r3, rfl, o3⟩, k3⟩
  have K3 := Lib.hid (K2.out.trans k3)
  have O23 := Lib.hid (And.intro (o2.kp k3) o3)
  clear HTRR k3 o2 o3
  go_wp2_with fail
  refine (refRow_any _ DL w3 O23.out.1).mono ?_; rintro _ w4 ⟨r4, rfl, o4, k4⟩
  have K4 := Lib.hid (K3.out.trans k4)
  have O4 := Lib.hid (And.intro o4.rd (O23.out.2.kp k4))
  clear k4 o4
  go_wp2_with fail
  refine (refRow_any _ DR w4 O4.out.2).mono ?_; rintro _ w5 ⟨r5, rfl, o5, k5⟩
  have K5 := Lib.hid (K4.out.trans k5)
  have O5 := Lib.hid (And.intro (O4.out.1.kp k5) o5.rd)
  have hnA := HNA.out _ (K5.out.alloc (.cells #[.int .u8 2] 5))
  obtain ⟨c0, c1, c2, c3, c4⟩ := And.intro hnA.kind (And.intro hnA.name (And.intro hnA.pubC (And.intro hnA.unC hnA.hashC)))
  clear k5 o5 hnA HNA
  go_wp2_with fail
  refine (HND.out _ (K5.out.alloc _)).mono ?_; rintro _ w6 ⟨⟨r6, rfl, o6⟩, k6⟩
  have O1 := Lib.hid ((Ow.lit w5 5 w5.heap.size 1 #[.int .u8 2] [2] (Nat.le_refl _) rfl (by omega) rfl).kp k6)
  have k56 := ((Kp.refl w5).alloc (.cells #[.int .u8 2] 5)).trans k6
  have K56 := Lib.hid k56
  have O6 := Lib.hid o6.rd
  clear c0 c1 c2 c3 c4 k6 k56 o6
  go_wp2_with (first
    | (at_builtin; refine wpList_append_ow U rfl _ _ rfl w5.heap.size _ _ rfl o8 _ (rowB DR) rfl (O5.out.2.kp K8.out) (by have := HNL.out; have := HLL.out; simp only [List.length_append, List.length_cons, List.length_nil]; omega) K8.out.size ?_; intro v9 w9 o9 g9 _; have K9 := Lib.hid (Kp.grown K8.out g9 o8.own_ge))
    | (at_builtin; refine wpList_append_ow U rfl _ _ rfl w5.heap.size _ _ rfl o7 _ (rowB DL) rfl (O5.out.1.kp K7.out) (by have := HNL.out; have := HLL.out; simp only [List.length_append, List.length_cons, List.length_nil]; omega) K7.out.size ?_; intro v8 w8 o8 g8 _; have K8 := Lib.hid (Kp.grown K7.out g8 o7.own_ge))
    | (at_builtin; refine wpList_append_ow U rfl _ _ rfl w5.heap.size _ [2] rfl O1.out _ (nodeB m) rfl O6.out (by have := HNL.out; simp only [List.length_append, List.length_cons, List.length_nil]; omega) K56.out.size ?_; intro v7 w7 o7 g7 _; have K7 := Lib.hid (Kp.grown K56.out g7 O1.out.own_ge)))
  obtain ⟨a9, n9, c9, rfl⟩ := rd_sl10 o9.rd
  go_wp2_with fail
  go_ret
  exact ⟨⟨_, rfl, o9.rd⟩, K5.out.trans K9.out⟩
theorem tell_any (vt : Value) (t : List Nod) (K j q : Nat) (w : World) (hT : TidyT t K) (ht : NL w vt t) (hj : j ≤ K) (hq : q < 2 ^ (K - j)) :
    Calls Tryz.prog 23 #[vt, .int .i64 ((nd j q : Nat) : Int)] w fun e w' => (∃ r, e = .returned r ∧ Rd w' r (tellT t j q)) ∧ Kp w w' := by
  cases j with
  | zero => exact tell_leaf vt t K q w hT ht (by simpa using hq)
  | succ j => exact tell_step vt t K j q w hT ht hj hq
/-- All that the law asks along the way up from a changed node. -/
theorem apart_all {t : List Nod} {K X : Nat} {pw : List UInt8} (hr : RightK t K) (hd : TidyT t K) (hX : X < t.length) (hk : (ats t X).kind ≠ 0) (hpl : (ats t X).pub.length = 32) (hp : pw.length = 32) (hne : pw ≠ (ats t X).pub) :
    ∃ (j q L : Nat) (A : Nat → Nat) (DT DU PT PU : Nat → List UInt8), X = nd j q ∧ j ≤ K ∧ q < 2 ^ (K - j) ∧ L ≤ 10 ∧ (pathN K j q).length = L ∧ ([X] ++ pathN K j q).length = L + 1 ∧
      (∀ i, i ≤ L → ([X] ++ pathN K j q).getD i 0 = A i) ∧
      (∀ i W v, i ≤ L → NL W v t → Tab W → Calls Tryz.prog 8 #[v, .int .i64 ((A i : Nat) : Int)] W fun e w' => (∃ r, e = .returned (.tuple #[r, .int .i64 0]) ∧ Rd w' r (DT i)) ∧ Kp W w') ∧
      (∀ i W v, i ≤ L → NL W v (t.set X (pubN (ats t X) pw)) → Tab W → Calls Tryz.prog 8 #[v, .int .i64 ((A i : Nat) : Int)] W fun e w' => (∃ r, e = .returned (.tuple #[r, .int .i64 0]) ∧ Rd w' r (DU i)) ∧ Kp W w') ∧
      (∀ i W v, i ≤ L → NL W v t → Calls Tryz.prog 23 #[v, .int .i64 ((A i : Nat) : Int)] W fun e w' => (∃ r, e = .returned r ∧ Rd w' r (PT i)) ∧ Kp W w') ∧
      (∀ i W v, i ≤ L → NL W v (t.set X (pubN (ats t X) pw)) → Calls Tryz.prog 23 #[v, .int .i64 ((A i : Nat) : Int)] W fun e w' => (∃ r, e = .returned r ∧ Rd w' r (PU i)) ∧ Kp W w') ∧
      (∀ i, DT i = digest (PT i) ∧ DU i = digest (PU i) ∧ (DT i).length = 32 ∧ (PT i).length ≤ 400 ∧ (PU i).length ≤ 400) ∧
      (∀ i, i ≤ L → (∀ i', i' < i → DT i' ≠ DU i') → PT i ≠ PU i) := by
  obtain ⟨j, q, rfl, hj, hq⟩ := hd.at hX
  have hru := hr.pubbed (nd j q) hp hX hk
  have hdu := hd.pubbed (nd j q) (p := pw) (by omega) hX
  have hK := hr.le
  have hqi : ∀ i, i ≤ K - j → q / 2 ^ i < 2 ^ (K - (j + i)) := fun i hi => quot_lt hq (by omega)
  have hsm : ∀ i, i ≤ K - j → nd (j + i) (q / 2 ^ i) < t.length ∧ nd (j + i) (q / 2 ^ i) ≤ 2046 := fun i hi => hd.lt (by omega) (hqi i hi)
  have hTV : ∀ (s : List Nod) i, s.length = t.length → i ≤ K - j → treE s ((nd (j + i) (q / 2 ^ i) : Nat) : Int) = 0 ∧ treV s ((nd (j + i) (q / 2 ^ i) : Nat) : Int) = digF s [] (j + i) (q / 2 ^ i) := fun s i hs hi => by
    have h1 := (hsm i hi).1
    have e1 : treE s ((nd (j + i) (q / 2 ^ i) : Nat) : Int) = 0 := if_pos ⟨by omega, by omega⟩
    refine ⟨e1, ?_⟩
    unfold treV
    rw [if_pos e1, Int.toNat_natCast, lev_nd _ _ (by omega), qOf_nd _ _ (by omega)]
  refine ⟨j, q, K - j, fun i => nd (j + i) (q / 2 ^ i), fun i => digF t [] (j + i) (q / 2 ^ i), fun i => digF (t.set (nd j q) (pubN (ats t (nd j q)) pw)) [] (j + i) (q / 2 ^ i), fun i => tellT t (j + i) (q / 2 ^ i), fun i => tellT (t.set (nd j q) (pubN (ats t (nd j q)) pw)) (j + i) (q / 2 ^ i), rfl, hj, hq, by omega, pathN_length K j q, ?_, ?_, ?_, ?_, ?_, ?_, ?_, ?_⟩
  · rw [List.length_append, pathN_length]; simp; omega
  · intro i hi
    cases i with
    | zero => simp
    | succ i =>
      rw [List.getD_eq_getElem?_getD]
      show (pathN K j q)[i]?.getD 0 = _
      rw [pathN_get K j q i (by omega)]
      show nd (j + 1 + i) (q / 2 ^ (i + 1)) = nd (j + (i + 1)) (q / 2 ^ (i + 1))
      rw [show j + 1 + i = j + (i + 1) by omega]
  · intro i W v hi hv hT
    have := hashTree_any v t K ((nd (j + i) (q / 2 ^ i) : Nat) : Int) W hd hr hv (by have := (hsm i hi).2; omega) hT
    rwa [(hTV t i rfl hi).1, (hTV t i rfl hi).2] at this
  · intro i W v hi hv hT
    have := hashTree_any v _ K ((nd (j + i) (q / 2 ^ i) : Nat) : Int) W hdu hru hv (by have := (hsm i hi).2; omega) hT
    rwa [(hTV _ i (List.length_set ..) hi).1, (hTV _ i (List.length_set ..) hi).2] at this
  · intro i W v hi hv
    exact tell_any v t K (j + i) (q / 2 ^ i) W hd hv (by omega) (hqi i hi)
  · intro i W v hi hv
    exact tell_any v _ K (j + i) (q / 2 ^ i) W hdu hv (by omega) (hqi i hi)
  · intro i
    exact ⟨digF_tell _ _ _, digF_tell _ _ _, digF_len _ _ _ _, tellT_len hd _ _, tellT_len hdu _ _⟩
  · intro i hi h
    exact told_way hr hd hj hq hk (by rw [hpl]; exact hp) hne i hi h
end Go.Proofs.YtobldbodafaajaaGreatDoor

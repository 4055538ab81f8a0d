/- The walk of the law BytBack. -/
import Derived.Test.YtpaopnjknpoacaaLaws1
import Derived.Test.YtpaopnjknpoacaaMath
namespace Go.Proofs.Ytpaopnjknpoacaa
open Go.RowKit

theorem Ow.sl {e : TypeId} {w : World} {B : Nat} {v : Value} {l : List UInt8} {n : Nat} (h : Ow e w B v l) (hn : l.length = n) : ∃ a c, v = .slice a n c := by
  subst hn
  obtain ⟨a, c, h, _⟩ := h.rd.shape
  exact ⟨a, c, h⟩
theorem app_kp {W w1 : World} {e : TypeId} (g : (W.alloc (.cells #[] e)).grownBy w1 (Value.slice (some ⟨W.heap.size, 0, none⟩) 0 0).ownBlock) : Kp W w1 :=
  Kp.grown ((Kp.refl W).alloc _) g (by intro k hk; simp [Value.ownBlock] at hk; omega)
theorem takeNum_at (v : Value) (l : List UInt8) (at' k n p e : Int) (w : World) (h : Rd w v l) (h1 : tnN l at' k = n) (h2 : tnP l at' k = p) (h3 : tnE l at' k = e) :
    Calls Try.prog 14 #[v, .int .i64 at', .int .i64 k] w fun en w' => en = .returned (.tuple #[.int .i64 n, .int .i64 p, .int .i64 e]) ∧ w = w' := by
  have := takeNum_any v l at' k w h
  rw [h1, h2, h3] at this
  exact this
theorem takeRow_at (v : Value) (l : List UInt8) (at' most : Int) (x : List UInt8) (p e : Int) (w : World) (h : Rd w v l) (h1 : trB l at' most = x) (h2 : trP l at' most = p) (h3 : trE l at' most = e) :
    Calls Try.prog 23 #[v, .int .i64 at', .int .i64 most] w fun en w' => ∃ u, en = .returned (.tuple #[u, .int .i64 p, .int .i64 e]) ∧ Ow 5 w' w.heap.size u x ∧ Kp w w' := by
  have := takeRow_any v l at' most w h
  unfold TR at this
  rw [h1, h2, h3] at this
  exact this
theorem takeOpt_at (v : Value) (l : List UInt8) (at' : Int) (b : Bool) (p e : Int) (w : World) (h : Rd w v l) (h1 : toV l at' = b) (h2 : toP l at' = p) (h3 : toE l at' = e) :
    Calls Try.prog 25 #[v, .int .i64 at'] w fun en w' => en = .returned (.tuple #[.bool b, .int .i64 p, .int .i64 e]) ∧ w = w' := by
  have := takeOpt_any v l at' w h
  rw [h1, h2, h3] at this
  exact this

set_option maxRecDepth 100000 in
set_option maxHeartbeats 800000 in
theorem bytBack_walk (n k : Int) (v v' : Value) (l m : List UInt8) (w : World) (hn : -9223372036854775808 ≤ n ∧ n ≤ 9223372036854775807) (h : Rd w v l) (h' : Rd w v' m) :
    Calls Try.prog 5 #[.agg #[.int .i64 n, .int .i64 k, v, v']] w (Yes w) := by
  have U := u8
  obtain ⟨a, c, rfl, hc, hm⟩ := h.shape
  obtain ⟨a', c', rfl, hc', hm'⟩ := h'.shape
  unfold maxLen at hm hm'
  by_cases h5 : l.length ≤ 500
  · have d1 : decide ((500 : Int) < l.length) = false := by simp; omega
    by_cases h1 : m.length ≤ 100
    · have d2 : decide ((100 : Int) < m.length) = false := by simp; omega
      obtain ⟨R1, R2⟩ := row_ok (x := l) (by omega)
      obtain ⟨b, hb⟩ : ∃ b, b = ((l.length : Int) % 2 == 0) := ⟨_, rfl⟩
      have hb' := hb.symm
      clear hb
      obtain ⟨Q1, Q2, Q3⟩ := tr_at (b := rowB l ++ m) (x := l) (more := m) (p := 0) (most := l.length) (by omega) (by omega) rfl
      obtain ⟨U1, U2, U3⟩ := to_at (b := optB b l ++ m) (is := b) (x := l) (more := m) rfl
      obtain ⟨nr, hnr⟩ : ∃ nr, nr = (rowB l).length := ⟨_, rfl⟩
      have hnrb : nr ≤ 504 := by rw [hnr, row_len (by omega)]; have := lenBytes_le l.length; omega
      rw [show (((0 : Nat) : Int) + ((rowB l).length : Nat)) = (nr : Int) from by rw [hnr]; simp] at Q2
      have LR := Lib.hid hnr
      clear hnr R2
      by_cases hN : numOk n k
      · obtain ⟨N1, N2⟩ := num_yes hN
        obtain ⟨q1, q2, q3, q4⟩ := hN
        obtain ⟨n', rfl⟩ := Int.eq_ofNat_of_zero_le q3
        obtain ⟨k', rfl⟩ := Int.eq_ofNat_of_zero_le (show 0 ≤ k by omega)
        rw [Int.toNat_natCast, Int.toNat_natCast] at N2
        obtain ⟨T1, T2, T3⟩ := tn_at (b := be k' n' ++ m) (p := 0) (k := k') (n := n') (more := m) (by omega) (by omega) ((pow256 n' k').1 q4) rfl
        rw [show (((0 : Nat) : Int) + (k' : Int)) = k' from by omega] at T2
        clear q4
        by_cases hL : (n' : Int) ≤ 1073741823
        · have L1 : lenE n' = 0 := if_neg (by omega)
          have L2 : lenB n' = lenBytes n' := by simp [lenB, L1]
          obtain ⟨S1, S2, S3⟩ := tl_at (b := lenBytes n' ++ m) (p := 0) (n := n') (more := m) (by omega) rfl
          obtain ⟨nq, hnq⟩ : ∃ nq, nq = (lenBytes n').length := ⟨_, rfl⟩
          rw [show (((0 : Nat) : Int) + ((lenBytes n').length : Nat)) = (nq : Int) from by rw [hnq]; simp] at S2
          have hnqb : nq ≤ 4 := by rw [hnq]; exact lenBytes_le n'
          have LQ := Lib.hid hnq
          clear hnq
          have N1_ := Lib.hid N1; clear N1; have N2_ := Lib.hid N2; clear N2; have L1_ := Lib.hid L1; clear L1; have L2_ := Lib.hid L2; clear L2; have R1_ := Lib.hid R1; clear R1; have Q1_ := Lib.hid Q1; clear Q1; have Q2_ := Lib.hid Q2; clear Q2; have Q3_ := Lib.hid Q3; clear Q3; have U1_ := Lib.hid U1; clear U1; have U2_ := Lib.hid U2; clear U2; have U3_ := Lib.hid U3; clear U3; have T1_ := Lib.hid T1; clear T1; have T2_ := Lib.hid T2; clear T2; have T3_ := Lib.hid T3; clear T3; have S1_ := Lib.hid S1; clear S1; have S2_ := Lib.hid S2; clear S2; have S3_ := Lib.hid S3; clear S3
          go_enter Try.func5, Try.ntmps5
          go_wp2_with fail
          refine (shown_any _).mono ?_
          rintro e w1 ⟨rfl, k1⟩
          have a1 := ((Kp.refl w).alloc _).trans k1
          go_wp2_with fail
          refine (num_any (n' : Int) (k' : Int) _ hn).mono ?_
          rintro e w2 ⟨p, rfl, o2, k2⟩
          rw [N1_.out]
          rw [N2_.out] at o2
          obtain ⟨ap, cp, rfl⟩ := o2.sl (be_length k' n')
          go_wp2_with fail
          refine (len_any (n' : Int) _).mono ?_
          rintro e w3 ⟨q, rfl, o3, k3⟩
          rw [L1_.out]
          rw [L2_.out] at o3
          obtain ⟨aq, cq, rfl⟩ := o3.sl LQ.out.symm
          go_wp2_with fail
          refine (row_any _ l _ ((h).kp (((a1).trans k2).trans k3))).mono ?_
          rintro e w4 ⟨r, rfl, o4, k4⟩
          rw [R1_.out]
          obtain ⟨ar, cr, rfl⟩ := o4.sl LR.out.symm
          go_wp2_with (first | (at_builtin; refine wpList_append_ow U rfl _ _ rfl w4.heap.size (.slice (some ⟨w4.heap.size, 0, none⟩) 0 0) [] rfl (Ow.lit w4 _ _ 0 #[] [] (Nat.le_refl _) rfl (by omega) rfl) _ (be k' n') rfl (((o2.rd).kp ((k3).trans k4)).kp ((Kp.refl _).alloc _)) ?x15 ?x25 ?_; rotate_right; intro va5 wa5 oa5 ga5 _; rw [List.nil_append] at oa5; have ka5 := app_kp ga5) | (at_builtin; refine wpList_append_ow U rfl _ _ rfl w4.heap.size va5 (be k' n') rfl oa5 _ (m) rfl (((h').kp ((((a1).trans k2).trans k3).trans k4)).kp ka5) ?y15 ?y25 ?_; rotate_right; intro v5 w5 o5 g5 _; have k5 := Kp.grown ka5 g5 oa5.own_ge))
          case x15 => rw [be_length]; simp; omega
          case x25 => simp
          case y15 => rw [be_length]; omega
          case y25 => exact ka5.size
          go_wp2_with fail
          refine (takeNum_at _ (be k' n' ++ m) 0 (k' : Int) (n' : Int) (k' : Int) 0 _ o5.rd T1_.out T2_.out T3_.out).mono ?_
          rintro e w6 ⟨rfl, rfl⟩
          go_wp2_with (first | (at_builtin; refine wpList_append_ow U rfl _ _ rfl w5.heap.size (.slice (some ⟨w5.heap.size, 0, none⟩) 0 0) [] rfl (Ow.lit w5 _ _ 0 #[] [] (Nat.le_refl _) rfl (by omega) rfl) _ (lenBytes n') rfl (((o3.rd).kp ((k4).trans k5)).kp ((Kp.refl _).alloc _)) ?x17 ?x27 ?_; rotate_right; intro va7 wa7 oa7 ga7 _; rw [List.nil_append] at oa7; have ka7 := app_kp ga7) | (at_builtin; refine wpList_append_ow U rfl _ _ rfl w5.heap.size va7 (lenBytes n') rfl oa7 _ (m) rfl (((h').kp (((((a1).trans k2).trans k3).trans k4).trans k5)).kp ka7) ?y17 ?y27 ?_; rotate_right; intro v7 w7 o7 g7 _; have k7 := Kp.grown ka7 g7 oa7.own_ge))
          case x17 => have := lenBytes_le n'; simp; omega
          case x27 => simp
          case y17 => have := lenBytes_le n'; omega
          case y27 => exact ka7.size
          go_wp2_with fail
          refine (takeLen_at _ (lenBytes n' ++ m) 0 (n' : Int) nq 0 _ o7.rd S1_.out S2_.out S3_.out).mono ?_
          rintro e w8 ⟨rfl, k8⟩
          go_wp2_with (first | (at_builtin; refine wpList_append_ow U rfl _ _ rfl w8.heap.size (.slice (some ⟨w8.heap.size, 0, none⟩) 0 0) [] rfl (Ow.lit w8 _ _ 0 #[] [] (Nat.le_refl _) rfl (by omega) rfl) _ (rowB l) rfl (((o4.rd).kp (((k5).trans k7).trans k8)).kp ((Kp.refl _).alloc _)) ?x19 ?x29 ?_; rotate_right; intro va9 wa9 oa9 ga9 _; rw [List.nil_append] at oa9; have ka9 := app_kp ga9) | (at_builtin; refine wpList_append_ow U rfl _ _ rfl w8.heap.size va9 (rowB l) rfl oa9 _ (m) rfl (((h').kp (((((((a1).trans k2).trans k3).trans k4).trans k5).trans k7).trans k8)).kp ka9) ?y19 ?y29 ?_; rotate_right; intro v9 w9 o9 g9 _; have k9 := Kp.grown ka9 g9 oa9.own_ge))
          case x19 => rw [LR.out.symm]; simp; omega
          case x29 => simp
          case y19 => rw [LR.out.symm]; omega
          case y29 => exact ka9.size
          go_wp2_with fail
          refine (takeRow_at _ (rowB l ++ m) 0 l.length l nr 0 _ o9.rd Q1_.out Q2_.out Q3_.out).mono ?_
          rintro e w10 ⟨y, rfl, o5, k10⟩
          go_wp2_with (first | (go_at_call 29; refine (opt_any _ _ l _ ((h).kp (((((((((a1).trans k2).trans k3).trans k4).trans k5).trans k7).trans k8).trans k9).trans k10)) (by omega)).mono ?_; rintro e wop ⟨o, rfl, oop, kop⟩) | (at_builtin; refine wpList_append_ow U rfl _ _ rfl w10.heap.size o (optB b l) rfl oop _ m rfl (((h').kp (((((((((a1).trans k2).trans k3).trans k4).trans k5).trans k7).trans k8).trans k9).trans k10)).kp kop) ?z1 ?z2 ?_; rotate_right; intro vz wz oz gz _; have kz := Kp.grown kop gz oop.own_ge))
          case z1 => cases b <;> simp [optB] <;> omega
          case z2 => exact kop.size
          go_wp2_with fail
          refine (takeOpt_at _ (optB b l ++ m) 0 b 1 0 _ oz.rd U1_.out U2_.out U3_.out).mono ?_
          rintro e w12 ⟨rfl, rfl⟩
          go_wp2_with fail
          refine (same_at _ _ l l true _ ((h).kp ((((((((((a1).trans k2).trans k3).trans k4).trans k5).trans k7).trans k8).trans k9).trans k10).trans kz)) ((o5.rd).kp (kz)) (by simp)).mono ?_
          rintro e w13 ⟨rfl, rfl⟩
          go_wp2_with fail
          go_ret
          exact ⟨rfl, (((((((((a1).trans k2).trans k3).trans k4).trans k5).trans k7).trans k8).trans k9).trans k10).trans kz⟩
        · have L1 : lenE n' = 1 := if_pos (.inr (by omega))
          have L2 : lenB n' = [] := by simp [lenB, L1]
          have N1_ := Lib.hid N1; clear N1; have N2_ := Lib.hid N2; clear N2; have L1_ := Lib.hid L1; clear L1; have L2_ := Lib.hid L2; clear L2; have R1_ := Lib.hid R1; clear R1; have Q1_ := Lib.hid Q1; clear Q1; have Q2_ := Lib.hid Q2; clear Q2; have Q3_ := Lib.hid Q3; clear Q3; have U1_ := Lib.hid U1; clear U1; have U2_ := Lib.hid U2; clear U2; have U3_ := Lib.hid U3; clear U3; have T1_ := Lib.hid T1; clear T1; have T2_ := Lib.hid T2; clear T2; have T3_ := Lib.hid T3; clear T3
          go_enter Try.func5, Try.ntmps5
          go_wp2_with fail
          refine (shown_any _).mono ?_
          rintro e w1 ⟨rfl, k1⟩
          have a1 := ((Kp.refl w).alloc _).trans k1
          go_wp2_with fail
          refine (num_any (n' : Int) (k' : Int) _ hn).mono ?_
          rintro e w2 ⟨p, rfl, o2, k2⟩
          rw [N1_.out]
          rw [N2_.out] at o2
          obtain ⟨ap, cp, rfl⟩ := o2.sl (be_length k' n')
          go_wp2_with fail
          refine (len_any (n' : Int) _).mono ?_
          rintro e w3 ⟨q, rfl, o3, k3⟩
          rw [L1_.out]
          rw [L2_.out] at o3
          go_wp2_with fail
          refine (row_any _ l _ ((h).kp (((a1).trans k2).trans k3))).mono ?_
          rintro e w4 ⟨r, rfl, o4, k4⟩
          rw [R1_.out]
          obtain ⟨ar, cr, rfl⟩ := o4.sl LR.out.symm
          go_wp2_with (first | (at_builtin; refine wpList_append_ow U rfl _ _ rfl w4.heap.size (.slice (some ⟨w4.heap.size, 0, none⟩) 0 0) [] rfl (Ow.lit w4 _ _ 0 #[] [] (Nat.le_refl _) rfl (by omega) rfl) _ (be k' n') rfl (((o2.rd).kp ((k3).trans k4)).kp ((Kp.refl _).alloc _)) ?x15 ?x25 ?_; rotate_right; intro va5 wa5 oa5 ga5 _; rw [List.nil_append] at oa5; have ka5 := app_kp ga5) | (at_builtin; refine wpList_append_ow U rfl _ _ rfl w4.heap.size va5 (be k' n') rfl oa5 _ (m) rfl (((h').kp ((((a1).trans k2).trans k3).trans k4)).kp ka5) ?y15 ?y25 ?_; rotate_right; intro v5 w5 o5 g5 _; have k5 := Kp.grown ka5 g5 oa5.own_ge))
          case x15 => rw [be_length]; simp; omega
          case x25 => simp
          case y15 => rw [be_length]; omega
          case y25 => exact ka5.size
          go_wp2_with fail
          refine (takeNum_at _ (be k' n' ++ m) 0 (k' : Int) (n' : Int) (k' : Int) 0 _ o5.rd T1_.out T2_.out T3_.out).mono ?_
          rintro e w6 ⟨rfl, rfl⟩
          go_wp2_with (first | (at_builtin; refine wpList_append_ow U rfl _ _ rfl w5.heap.size (.slice (some ⟨w5.heap.size, 0, none⟩) 0 0) [] rfl (Ow.lit w5 _ _ 0 #[] [] (Nat.le_refl _) rfl (by omega) rfl) _ (rowB l) rfl (((o4.rd).kp (k5)).kp ((Kp.refl _).alloc _)) ?x17 ?x27 ?_; rotate_right; intro va7 wa7 oa7 ga7 _; rw [List.nil_append] at oa7; have ka7 := app_kp ga7) | (at_builtin; refine wpList_append_ow U rfl _ _ rfl w5.heap.size va7 (rowB l) rfl oa7 _ (m) rfl (((h').kp (((((a1).trans k2).trans k3).trans k4).trans k5)).kp ka7) ?y17 ?y27 ?_; rotate_right; intro v7 w7 o7 g7 _; have k7 := Kp.grown ka7 g7 oa7.own_ge))
          case x17 => rw [LR.out.symm]; simp; omega
          case x27 => simp
          case y17 => rw [LR.out.symm]; omega
          case y27 => exact ka7.size
          go_wp2_with fail
          refine (takeRow_at _ (rowB l ++ m) 0 l.length l nr 0 _ o7.rd Q1_.out Q2_.out Q3_.out).mono ?_
          rintro e w8 ⟨y, rfl, o5, k8⟩
          go_wp2_with (first | (go_at_call 29; refine (opt_any _ _ l _ ((h).kp (((((((a1).trans k2).trans k3).trans k4).trans k5).trans k7).trans k8)) (by omega)).mono ?_; rintro e wop ⟨o, rfl, oop, kop⟩) | (at_builtin; refine wpList_append_ow U rfl _ _ rfl w8.heap.size o (optB b l) rfl oop _ m rfl (((h').kp (((((((a1).trans k2).trans k3).trans k4).trans k5).trans k7).trans k8)).kp kop) ?z1 ?z2 ?_; rotate_right; intro vz wz oz gz _; have kz := Kp.grown kop gz oop.own_ge))
          case z1 => cases b <;> simp [optB] <;> omega
          case z2 => exact kop.size
          go_wp2_with fail
          refine (takeOpt_at _ (optB b l ++ m) 0 b 1 0 _ oz.rd U1_.out U2_.out U3_.out).mono ?_
          rintro e w10 ⟨rfl, rfl⟩
          go_wp2_with fail
          refine (same_at _ _ l l true _ ((h).kp ((((((((a1).trans k2).trans k3).trans k4).trans k5).trans k7).trans k8).trans kz)) ((o5.rd).kp (kz)) (by simp)).mono ?_
          rintro e w11 ⟨rfl, rfl⟩
          go_wp2_with fail
          go_ret
          exact ⟨rfl, (((((((a1).trans k2).trans k3).trans k4).trans k5).trans k7).trans k8).trans kz⟩
      · obtain ⟨N1, N2⟩ := num_no hN
        by_cases hL : 0 ≤ n ∧ n ≤ 1073741823
        · obtain ⟨n', rfl⟩ := Int.eq_ofNat_of_zero_le hL.1
          have L1 : lenE n' = 0 := if_neg (by omega)
          have L2 : lenB n' = lenBytes n' := by simp [lenB, L1]
          obtain ⟨S1, S2, S3⟩ := tl_at (b := lenBytes n' ++ m) (p := 0) (n := n') (more := m) (by omega) rfl
          obtain ⟨nq, hnq⟩ : ∃ nq, nq = (lenBytes n').length := ⟨_, rfl⟩
          rw [show (((0 : Nat) : Int) + ((lenBytes n').length : Nat)) = (nq : Int) from by rw [hnq]; simp] at S2
          have hnqb : nq ≤ 4 := by rw [hnq]; exact lenBytes_le n'
          have LQ := Lib.hid hnq
          clear hnq
          have N1_ := Lib.hid N1; clear N1; have N2_ := Lib.hid N2; clear N2; have L1_ := Lib.hid L1; clear L1; have L2_ := Lib.hid L2; clear L2; have R1_ := Lib.hid R1; clear R1; have Q1_ := Lib.hid Q1; clear Q1; have Q2_ := Lib.hid Q2; clear Q2; have Q3_ := Lib.hid Q3; clear Q3; have U1_ := Lib.hid U1; clear U1; have U2_ := Lib.hid U2; clear U2; have U3_ := Lib.hid U3; clear U3; have S1_ := Lib.hid S1; clear S1; have S2_ := Lib.hid S2; clear S2; have S3_ := Lib.hid S3; clear S3
          go_enter Try.func5, Try.ntmps5
          go_wp2_with fail
          refine (shown_any _).mono ?_
          rintro e w1 ⟨rfl, k1⟩
          have a1 := ((Kp.refl w).alloc _).trans k1
          go_wp2_with fail
          refine (num_any (n' : Int) k _ hn).mono ?_
          rintro e w2 ⟨p, rfl, o2, k2⟩
          rw [N1_.out]
          rw [N2_.out] at o2
          go_wp2_with fail
          refine (len_any (n' : Int) _).mono ?_
          rintro e w3 ⟨q, rfl, o3, k3⟩
          rw [L1_.out]
          rw [L2_.out] at o3
          obtain ⟨aq, cq, rfl⟩ := o3.sl LQ.out.symm
          go_wp2_with fail
          refine (row_any _ l _ ((h).kp (((a1).trans k2).trans k3))).mono ?_
          rintro e w4 ⟨r, rfl, o4, k4⟩
          rw [R1_.out]
          obtain ⟨ar, cr, rfl⟩ := o4.sl LR.out.symm
          go_wp2_with (first | (at_builtin; refine wpList_append_ow U rfl _ _ rfl w4.heap.size (.slice (some ⟨w4.heap.size, 0, none⟩) 0 0) [] rfl (Ow.lit w4 _ _ 0 #[] [] (Nat.le_refl _) rfl (by omega) rfl) _ (lenBytes n') rfl (((o3.rd).kp (k4)).kp ((Kp.refl _).alloc _)) ?x15 ?x25 ?_; rotate_right; intro va5 wa5 oa5 ga5 _; rw [List.nil_append] at oa5; have ka5 := app_kp ga5) | (at_builtin; refine wpList_append_ow U rfl _ _ rfl w4.heap.size va5 (lenBytes n') rfl oa5 _ (m) rfl (((h').kp ((((a1).trans k2).trans k3).trans k4)).kp ka5) ?y15 ?y25 ?_; rotate_right; intro v5 w5 o5 g5 _; have k5 := Kp.grown ka5 g5 oa5.own_ge))
          case x15 => have := lenBytes_le n'; simp; omega
          case x25 => simp
          case y15 => have := lenBytes_le n'; omega
          case y25 => exact ka5.size
          go_wp2_with fail
          refine (takeLen_at _ (lenBytes n' ++ m) 0 (n' : Int) nq 0 _ o5.rd S1_.out S2_.out S3_.out).mono ?_
          rintro e w6 ⟨rfl, k6⟩
          go_wp2_with (first | (at_builtin; refine wpList_append_ow U rfl _ _ rfl w6.heap.size (.slice (some ⟨w6.heap.size, 0, none⟩) 0 0) [] rfl (Ow.lit w6 _ _ 0 #[] [] (Nat.le_refl _) rfl (by omega) rfl) _ (rowB l) rfl (((o4.rd).kp ((k5).trans k6)).kp ((Kp.refl _).alloc _)) ?x17 ?x27 ?_; rotate_right; intro va7 wa7 oa7 ga7 _; rw [List.nil_append] at oa7; have ka7 := app_kp ga7) | (at_builtin; refine wpList_append_ow U rfl _ _ rfl w6.heap.size va7 (rowB l) rfl oa7 _ (m) rfl (((h').kp ((((((a1).trans k2).trans k3).trans k4).trans k5).trans k6)).kp ka7) ?y17 ?y27 ?_; rotate_right; intro v7 w7 o7 g7 _; have k7 := Kp.grown ka7 g7 oa7.own_ge))
          case x17 => rw [LR.out.symm]; simp; omega
          case x27 => simp
          case y17 => rw [LR.out.symm]; omega
          case y27 => exact ka7.size
          go_wp2_with fail
          refine (takeRow_at _ (rowB l ++ m) 0 l.length l nr 0 _ o7.rd Q1_.out Q2_.out Q3_.out).mono ?_
          rintro e w8 ⟨y, rfl, o5, k8⟩
          go_wp2_with (first | (go_at_call 29; refine (opt_any _ _ l _ ((h).kp ((((((((a1).trans k2).trans k3).trans k4).trans k5).trans k6).trans k7).trans k8)) (by omega)).mono ?_; rintro e wop ⟨o, rfl, oop, kop⟩) | (at_builtin; refine wpList_append_ow U rfl _ _ rfl w8.heap.size o (optB b l) rfl oop _ m rfl (((h').kp ((((((((a1).trans k2).trans k3).trans k4).trans k5).trans k6).trans k7).trans k8)).kp kop) ?z1 ?z2 ?_; rotate_right; intro vz wz oz gz _; have kz := Kp.grown kop gz oop.own_ge))
          case z1 => cases b <;> simp [optB] <;> omega
          case z2 => exact kop.size
          go_wp2_with fail
          refine (takeOpt_at _ (optB b l ++ m) 0 b 1 0 _ oz.rd U1_.out U2_.out U3_.out).mono ?_
          rintro e w10 ⟨rfl, rfl⟩
          go_wp2_with fail
          refine (same_at _ _ l l true _ ((h).kp (((((((((a1).trans k2).trans k3).trans k4).trans k5).trans k6).trans k7).trans k8).trans kz)) ((o5.rd).kp (kz)) (by simp)).mono ?_
          rintro e w11 ⟨rfl, rfl⟩
          go_wp2_with fail
          go_ret
          exact ⟨rfl, ((((((((a1).trans k2).trans k3).trans k4).trans k5).trans k6).trans k7).trans k8).trans kz⟩
        · have L1 : lenE n = 1 := if_pos (by omega)
          have L2 : lenB n = [] := by simp [lenB, L1]
          have N1_ := Lib.hid N1; clear N1; have N2_ := Lib.hid N2; clear N2; have L1_ := Lib.hid L1; clear L1; have L2_ := Lib.hid L2; clear L2; have R1_ := Lib.hid R1; clear R1; have Q1_ := Lib.hid Q1; clear Q1; have Q2_ := Lib.hid Q2; clear Q2; have Q3_ := Lib.hid Q3; clear Q3; have U1_ := Lib.hid U1; clear U1; have U2_ := Lib.hid U2; clear U2; have U3_ := Lib.hid U3; clear U3
          go_enter Try.func5, Try.ntmps5
          go_wp2_with fail
          refine (shown_any _).mono ?_
          rintro e w1 ⟨rfl, k1⟩
          have a1 := ((Kp.refl w).alloc _).trans k1
          go_wp2_with fail
          refine (num_any n k _ hn).mono ?_
          rintro e w2 ⟨p, rfl, o2, k2⟩
          rw [N1_.out]
          rw [N2_.out] at o2
          go_wp2_with fail
          refine (len_any n _).mono ?_
          rintro e w3 ⟨q, rfl, o3, k3⟩
          rw [L1_.out]
          rw [L2_.out] at o3
          go_wp2_with fail
          refine (row_any _ l _ ((h).kp (((a1).trans k2).trans k3))).mono ?_
          rintro e w4 ⟨r, rfl, o4, k4⟩
          rw [R1_.out]
          obtain ⟨ar, cr, rfl⟩ := o4.sl LR.out.symm
          go_wp2_with (first | (at_builtin; refine wpList_append_ow U rfl _ _ rfl w4.heap.size (.slice (some ⟨w4.heap.size, 0, none⟩) 0 0) [] rfl (Ow.lit w4 _ _ 0 #[] [] (Nat.le_refl _) rfl (by omega) rfl) _ (rowB l) rfl ((o4.rd).kp ((Kp.refl _).alloc _)) ?x15 ?x25 ?_; rotate_right; intro va5 wa5 oa5 ga5 _; rw [List.nil_append] at oa5; have ka5 := app_kp ga5) | (at_builtin; refine wpList_append_ow U rfl _ _ rfl w4.heap.size va5 (rowB l) rfl oa5 _ (m) rfl (((h').kp ((((a1).trans k2).trans k3).trans k4)).kp ka5) ?y15 ?y25 ?_; rotate_right; intro v5 w5 o5 g5 _; have k5 := Kp.grown ka5 g5 oa5.own_ge))
          case x15 => rw [LR.out.symm]; simp; omega
          case x25 => simp
          case y15 => rw [LR.out.symm]; omega
          case y25 => exact ka5.size
          go_wp2_with fail
          refine (takeRow_at _ (rowB l ++ m) 0 l.length l nr 0 _ o5.rd Q1_.out Q2_.out Q3_.out).mono ?_
          rintro e w6 ⟨y, rfl, o5, k6⟩
          go_wp2_with (first | (go_at_call 29; refine (opt_any _ _ l _ ((h).kp ((((((a1).trans k2).trans k3).trans k4).trans k5).trans k6)) (by omega)).mono ?_; rintro e wop ⟨o, rfl, oop, kop⟩) | (at_builtin; refine wpList_append_ow U rfl _ _ rfl w6.heap.size o (optB b l) rfl oop _ m rfl (((h').kp ((((((a1).trans k2).trans k3).trans k4).trans k5).trans k6)).kp kop) ?z1 ?z2 ?_; rotate_right; intro vz wz oz gz _; have kz := Kp.grown kop gz oop.own_ge))
          case z1 => cases b <;> simp [optB] <;> omega
          case z2 => exact kop.size
          go_wp2_with fail
          refine (takeOpt_at _ (optB b l ++ m) 0 b 1 0 _ oz.rd U1_.out U2_.out U3_.out).mono ?_
          rintro e w8 ⟨rfl, rfl⟩
          go_wp2_with fail
          refine (same_at _ _ l l true _ ((h).kp (((((((a1).trans k2).trans k3).trans k4).trans k5).trans k6).trans kz)) ((o5.rd).kp (kz)) (by simp)).mono ?_
          rintro e w9 ⟨rfl, rfl⟩
          go_wp2_with fail
          go_ret
          exact ⟨rfl, ((((((a1).trans k2).trans k3).trans k4).trans k5).trans k6).trans kz⟩
    · have d2 : decide ((100 : Int) < m.length) = true := by simp; omega
      go_enter Try.func5, Try.ntmps5
      go_wp2_with fail
      refine (shown_any _).mono ?_
      rintro e w1 ⟨rfl, k1⟩
      have k1' := ((Kp.refl w).alloc _).trans k1
      go_wp2_with fail
      go_ret
      exact ⟨rfl, k1'⟩
  · have d1 : decide ((500 : Int) < l.length) = true := by simp; omega
    go_enter Try.func5, Try.ntmps5
    go_wp2_with fail
    refine (shown_any _).mono ?_
    rintro e w1 ⟨rfl, k1⟩
    have k1' := ((Kp.refl w).alloc _).trans k1
    go_wp2_with fail
    go_ret
    exact ⟨rfl, k1'⟩
end Go.Proofs.Ytpaopnjknpoacaa

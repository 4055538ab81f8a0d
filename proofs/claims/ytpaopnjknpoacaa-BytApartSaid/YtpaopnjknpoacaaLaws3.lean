/- The walks of the laws BytApart, BytBounds, BytCuts. -/
import Derived.Test.YtpaopnjknpoacaaLaws2
import Derived.Test.YtpaopnjknpoacaaMath2
namespace Go.Proofs.Ytpaopnjknpoacaa
open Go.RowKit

theorem begins_any (u v : Value) (l m : List UInt8) (w : World) (h : Rd w u l) (h' : Rd w v m) :
    Calls Try.prog 33 #[u, v] w fun e w' => e = .returned (.bool (beginsB l m)) ∧ w = w' := by
  obtain ⟨a, c, rfl, hc, hm⟩ := h.shape
  obtain ⟨a', c', rfl, hc', hm'⟩ := h'.shape
  unfold maxLen at hm hm'
  by_cases h1 : m.length ≤ l.length
  · have d1 : decide (m.length ≤ l.length) = true := by simp [h1]
    have e : beginsB l m = decide (l.take m.length = m) := by simp [beginsB, h1]
    rw [e]
    by_cases h0 : c = 0
    · have hl0 : l = [] := List.eq_nil_of_length_eq_zero (by omega)
      have hm0 : m = [] := List.eq_nil_of_length_eq_zero (by rw [hl0] at h1; simp at h1; simp [h1])
      subst hl0 hm0 h0
      go_enter Try.func33, Try.ntmps33
      go_wp2_with (go_at_call 16; refine (same_any _ _ [] [] _ ?hr h').mono ?_; rotate_right; rintro e w' ⟨rfl, rfl⟩)
      case hr => exact h
      go_ret
      exact ⟨rfl, rfl⟩
    · have hcut := h.cut 0 m.length (Nat.zero_le _) h1 _ m.length c rfl (by omega) (by omega)
      rw [if_neg h0, List.drop_zero, Nat.sub_zero] at hcut
      have hmc : (m.length : Int) ≤ c := by omega
      go_enter Try.func33, Try.ntmps33
      go_wp2_with (go_at_call 16; refine (same_any _ _ (l.take m.length) m _ ?hr h').mono ?_; rotate_right; rintro e w' ⟨rfl, rfl⟩)
      case hr =>
        cases a with
        | none => simpa using hcut
        | some x => simpa [Addr.add] using hcut
      go_ret
      exact ⟨rfl, rfl⟩
  · have d1 : decide (m.length ≤ l.length) = false := by simp; omega
    have e : beginsB l m = false := by simp [beginsB, h1]
    rw [e]
    go_enter Try.func33, Try.ntmps33
    go_wp2_with fail
    go_ret
    exact ⟨rfl, rfl⟩

theorem begins_at (u v : Value) (l m : List UInt8) (b : Bool) (w : World) (h : Rd w u l) (h' : Rd w v m) (hb : beginsB l m = b) :
    Calls Try.prog 33 #[u, v] w fun e w' => e = .returned (.bool b) ∧ w = w' := by
  have := begins_any u v l m w h h'
  rw [hb] at this
  exact this

set_option maxRecDepth 100000 in
set_option maxHeartbeats 1600000 in
theorem bytApart_walk (m n : Int) (v v' : Value) (x y : List UInt8) (w : World) (hx : Rd w v x) (hy : Rd w v' y) :
    Calls Try.prog 6 #[.agg #[.int .i64 m, .int .i64 n, v, v']] w (Yes w) := by
  obtain ⟨a, c, rfl, hc, hm⟩ := hx.shape
  obtain ⟨a', c', rfl, hc', hm'⟩ := hy.shape
  unfold maxLen at hm hm'
  by_cases h5 : x.length ≤ 300
  · have d1 : decide ((300 : Int) < x.length) = false := by simp; omega
    by_cases h1 : y.length ≤ 300
    · have d2 : decide ((300 : Int) < y.length) = false := by simp; omega
      obtain ⟨R1, _⟩ := row_ok (x := x) (by omega)
      obtain ⟨R2, _⟩ := row_ok (x := y) (by omega)
      obtain ⟨bq, hbq⟩ : ∃ bq, bq = decide (x = y) := ⟨_, rfl⟩
      have RB : beginsB (rowB x) (rowB y) = bq := by rw [hbq]; exact row_beginsB (by omega) (by omega)
      have SB : decide (x = y) = bq := hbq.symm
      clear hbq
      by_cases he : 0 ≤ m ∧ m ≤ 1073741823
      · obtain ⟨m', rfl⟩ := Int.eq_ofNat_of_zero_le he.1
        have A1 : lenE m' = 0 := if_neg (by omega)
        have A2 : lenB m' = lenBytes m' := by simp [lenB, A1]
        obtain ⟨na, hna⟩ : ∃ na, na = (lenBytes m').length := ⟨_, rfl⟩
        have LA : (lenBytes m').length = na := hna.symm
        have hna4 : na ≤ 4 := by rw [hna]; exact lenBytes_le m'
        by_cases hf : 0 ≤ n ∧ n ≤ 1073741823
        · obtain ⟨n', rfl⟩ := Int.eq_ofNat_of_zero_le hf.1
          have B1 : lenE n' = 0 := if_neg (by omega)
          have B2 : lenB n' = lenBytes n' := by simp [lenB, B1]
          obtain ⟨nb, hnb⟩ : ∃ nb, nb = (lenBytes n').length := ⟨_, rfl⟩
          have LB : (lenBytes n').length = nb := hnb.symm
          have hnb4 : nb ≤ 4 := by rw [hnb]; exact lenBytes_le n'
          have hmono : m' ≤ n' → na ≤ nb := fun h => by rw [hna, hnb]; exact lenBytes_mono h
          obtain ⟨bl, hbl⟩ : ∃ bl, bl = (((m' : Int)) == (n' : Int)) := ⟨_, rfl⟩
          have LBQ : beginsB (lenBytes m') (lenBytes n') = bl := by
            rw [hbl, len_beginsB (by omega) (by omega), Bool.eq_iff_iff]
            simp
            omega
          have hbl2 : ((m' : Int) == (n' : Int)) = bl := hbl.symm
          have hbl3 : (m' == n') = bl := by rw [hbl, Bool.eq_iff_iff]; simp; omega
          clear hbl hna hnb
          have A1_ := Lib.hid A1; clear A1; have A2_ := Lib.hid A2; clear A2; have B1_ := Lib.hid B1; clear B1; have B2_ := Lib.hid B2; clear B2; have R1_ := Lib.hid R1; clear R1; have R2_ := Lib.hid R2; clear R2; have RB_ := Lib.hid RB; clear RB; have SB_ := Lib.hid SB; clear SB; have LA_ := Lib.hid LA; clear LA; have LB_ := Lib.hid LB; clear LB; have LBQ_ := Lib.hid LBQ; clear LBQ
          by_cases hgt : n' < m'
          · have d3 : decide (n' < m') = true := by simp [hgt]
            have d4 : decide ((n' : Int) < (m' : Int)) = true := by simp; omega
            clear hmono
            go_enter Try.func6, Try.ntmps6
            go_wp2_with fail
            refine (shown_any _).mono ?_
            rintro e w1 ⟨rfl, k1⟩
            have a1 := ((Kp.refl w).alloc _).trans k1
            go_wp2_with fail
            refine (len_any (m' : Int) _).mono ?_
            rintro e w2 ⟨pa, rfl, o2, k2⟩
            rw [A1_.out]
            rw [A2_.out] at o2
            obtain ⟨aa, ca, rfl⟩ := o2.sl LA_.out
            go_wp2_with fail
            refine (len_any (n' : Int) _).mono ?_
            rintro e w3 ⟨pb, rfl, o3, k3⟩
            rw [B1_.out]
            rw [B2_.out] at o3
            obtain ⟨ab, cb, rfl⟩ := o3.sl LB_.out
            go_wp2_with fail
            refine (row_any _ x _ ((hx).kp (((a1).trans k2).trans k3))).mono ?_
            rintro e w4 ⟨p, rfl, o4, k4⟩
            rw [R1_.out]
            go_wp2_with fail
            refine (row_any _ y _ ((hy).kp ((((a1).trans k2).trans k3).trans k4))).mono ?_
            rintro e w5 ⟨q, rfl, o5, k5⟩
            rw [R2_.out]
            go_wp2_with fail
            refine (begins_at _ _ (rowB x) (rowB y) bq _ ((o4.rd).kp (k5)) (o5.rd) RB_.out).mono ?_
            rintro e w6 ⟨rfl, rfl⟩
            go_wp2_with fail
            refine (same_at _ _ x y bq _ ((hx).kp (((((a1).trans k2).trans k3).trans k4).trans k5)) ((hy).kp (((((a1).trans k2).trans k3).trans k4).trans k5)) SB_.out).mono ?_
            rintro e w7 ⟨rfl, rfl⟩
            go_wp2_with fail
            refine (begins_at _ _ (lenBytes m') (lenBytes n') bl _ ((o2.rd).kp (((k3).trans k4).trans k5)) ((o3.rd).kp ((k4).trans k5)) LBQ_.out).mono ?_
            rintro e w8 ⟨rfl, rfl⟩
            go_wp2_with fail
            go_ret
            exact ⟨rfl, ((((a1).trans k2).trans k3).trans k4).trans k5⟩
          · have d3 : decide (n' < m') = false := by simp; omega
            have d4 : decide ((n' : Int) < (m' : Int)) = false := by simp; omega
            have d5 := hmono (by omega)
            have d6 : decide (na ≤ nb) = true := by simp [d5]
            have d7 : decide ((na : Int) ≤ (nb : Int)) = true := by simp; omega
            clear hmono
            go_enter Try.func6, Try.ntmps6
            go_wp2_with fail
            refine (shown_any _).mono ?_
            rintro e w1 ⟨rfl, k1⟩
            have a1 := ((Kp.refl w).alloc _).trans k1
            go_wp2_with fail
            refine (len_any (m' : Int) _).mono ?_
            rintro e w2 ⟨pa, rfl, o2, k2⟩
            rw [A1_.out]
            rw [A2_.out] at o2
            obtain ⟨aa, ca, rfl⟩ := o2.sl LA_.out
            go_wp2_with fail
            refine (len_any (n' : Int) _).mono ?_
            rintro e w3 ⟨pb, rfl, o3, k3⟩
            rw [B1_.out]
            rw [B2_.out] at o3
            obtain ⟨ab, cb, rfl⟩ := o3.sl LB_.out
            go_wp2_with fail
            refine (row_any _ x _ ((hx).kp (((a1).trans k2).trans k3))).mono ?_
            rintro e w4 ⟨p, rfl, o4, k4⟩
            rw [R1_.out]
            go_wp2_with fail
            refine (row_any _ y _ ((hy).kp ((((a1).trans k2).trans k3).trans k4))).mono ?_
            rintro e w5 ⟨q, rfl, o5, k5⟩
            rw [R2_.out]
            go_wp2_with fail
            refine (begins_at _ _ (rowB x) (rowB y) bq _ ((o4.rd).kp (k5)) (o5.rd) RB_.out).mono ?_
            rintro e w6 ⟨rfl, rfl⟩
            go_wp2_with fail
            refine (same_at _ _ x y bq _ ((hx).kp (((((a1).trans k2).trans k3).trans k4).trans k5)) ((hy).kp (((((a1).trans k2).trans k3).trans k4).trans k5)) SB_.out).mono ?_
            rintro e w7 ⟨rfl, rfl⟩
            go_wp2_with fail
            refine (begins_at _ _ (lenBytes m') (lenBytes n') bl _ ((o2.rd).kp (((k3).trans k4).trans k5)) ((o3.rd).kp ((k4).trans k5)) LBQ_.out).mono ?_
            rintro e w8 ⟨rfl, rfl⟩
            go_wp2_with fail
            go_ret
            exact ⟨rfl, ((((a1).trans k2).trans k3).trans k4).trans k5⟩
        · have B1 : lenE n = 1 := if_pos (by omega)
          have B2 : lenB n = [] := by simp [lenB, B1]
          clear hna
          have A1_ := Lib.hid A1; clear A1; have A2_ := Lib.hid A2; clear A2; have B1_ := Lib.hid B1; clear B1; have B2_ := Lib.hid B2; clear B2; have R1_ := Lib.hid R1; clear R1; have R2_ := Lib.hid R2; clear R2; have RB_ := Lib.hid RB; clear RB; have SB_ := Lib.hid SB; clear SB; have LA_ := Lib.hid LA; clear LA
          go_enter Try.func6, Try.ntmps6
          go_wp2_with fail
          refine (shown_any _).mono ?_
          rintro e w1 ⟨rfl, k1⟩
          have a1 := ((Kp.refl w).alloc _).trans k1
          go_wp2_with fail
          refine (len_any (m' : Int) _).mono ?_
          rintro e w2 ⟨pa, rfl, o2, k2⟩
          rw [A1_.out]
          rw [A2_.out] at o2
          obtain ⟨aa, ca, rfl⟩ := o2.sl LA_.out
          go_wp2_with fail
          refine (len_any n _).mono ?_
          rintro e w3 ⟨pb, rfl, o3, k3⟩
          rw [B1_.out]
          rw [B2_.out] at o3
          go_wp2_with fail
          refine (row_any _ x _ ((hx).kp (((a1).trans k2).trans k3))).mono ?_
          rintro e w4 ⟨p, rfl, o4, k4⟩
          rw [R1_.out]
          go_wp2_with fail
          refine (row_any _ y _ ((hy).kp ((((a1).trans k2).trans k3).trans k4))).mono ?_
          rintro e w5 ⟨q, rfl, o5, k5⟩
          rw [R2_.out]
          go_wp2_with fail
          refine (begins_at _ _ (rowB x) (rowB y) bq _ ((o4.rd).kp (k5)) (o5.rd) RB_.out).mono ?_
          rintro e w6 ⟨rfl, rfl⟩
          go_wp2_with fail
          refine (same_at _ _ x y bq _ ((hx).kp (((((a1).trans k2).trans k3).trans k4).trans k5)) ((hy).kp (((((a1).trans k2).trans k3).trans k4).trans k5)) SB_.out).mono ?_
          rintro e w7 ⟨rfl, rfl⟩
          go_wp2_with fail
          go_ret
          exact ⟨rfl, ((((a1).trans k2).trans k3).trans k4).trans k5⟩
      · have A1 : lenE m = 1 := if_pos (by omega)
        have A2 : lenB m = [] := by simp [lenB, A1]
        obtain ⟨B1v, hB1v⟩ : ∃ B1v, B1v = lenE n := ⟨_, rfl⟩
        have B1 : lenE n = B1v := hB1v.symm
        obtain ⟨B2v, hB2v⟩ : ∃ B2v, B2v = lenB n := ⟨_, rfl⟩
        have B2 : lenB n = B2v := hB2v.symm
        clear hB1v hB2v
        have A1_ := Lib.hid A1; clear A1; have A2_ := Lib.hid A2; clear A2; have B1_ := Lib.hid B1; clear B1; have B2_ := Lib.hid B2; clear B2; have R1_ := Lib.hid R1; clear R1; have R2_ := Lib.hid R2; clear R2; have RB_ := Lib.hid RB; clear RB; have SB_ := Lib.hid SB; clear SB
        go_enter Try.func6, Try.ntmps6
        go_wp2_with fail
        refine (shown_any _).mono ?_
        rintro e w1 ⟨rfl, k1⟩
        have a1 := ((Kp.refl w).alloc _).trans k1
        go_wp2_with fail
        refine (len_any m _).mono ?_
        rintro e w2 ⟨pa, rfl, o2, k2⟩
        rw [A1_.out]
        rw [A2_.out] at o2
        go_wp2_with fail
        refine (len_any n _).mono ?_
        rintro e w3 ⟨pb, rfl, o3, k3⟩
        rw [B1_.out]
        rw [B2_.out] at o3
        go_wp2_with fail
        refine (row_any _ x _ ((hx).kp (((a1).trans k2).trans k3))).mono ?_
        rintro e w4 ⟨p, rfl, o4, k4⟩
        rw [R1_.out]
        go_wp2_with fail
        refine (row_any _ y _ ((hy).kp ((((a1).trans k2).trans k3).trans k4))).mono ?_
        rintro e w5 ⟨q, rfl, o5, k5⟩
        rw [R2_.out]
        go_wp2_with fail
        refine (begins_at _ _ (rowB x) (rowB y) bq _ ((o4.rd).kp (k5)) (o5.rd) RB_.out).mono ?_
        rintro e w6 ⟨rfl, rfl⟩
        go_wp2_with fail
        refine (same_at _ _ x y bq _ ((hx).kp (((((a1).trans k2).trans k3).trans k4).trans k5)) ((hy).kp (((((a1).trans k2).trans k3).trans k4).trans k5)) SB_.out).mono ?_
        rintro e w7 ⟨rfl, rfl⟩
        go_wp2_with fail
        go_ret
        exact ⟨rfl, ((((a1).trans k2).trans k3).trans k4).trans k5⟩
    · have d2 : decide ((300 : Int) < y.length) = true := by simp; omega
      go_enter Try.func6, Try.ntmps6
      go_wp2_with fail
      refine (shown_any _).mono ?_
      rintro e w1 ⟨rfl, k1⟩
      have a1 := ((Kp.refl w).alloc _).trans k1
      go_wp2_with fail
      go_ret
      exact ⟨rfl, a1⟩
  · have d1 : decide ((300 : Int) < x.length) = true := by simp; omega
    go_enter Try.func6, Try.ntmps6
    go_wp2_with fail
    refine (shown_any _).mono ?_
    rintro e w1 ⟨rfl, k1⟩
    have a1 := ((Kp.refl w).alloc _).trans k1
    go_wp2_with fail
    go_ret
    exact ⟨rfl, a1⟩

set_option maxRecDepth 100000 in
set_option maxHeartbeats 1600000 in
theorem bytBounds_walk (at' : Int) (v : Value) (x : List UInt8) (w : World) (h : Rd w v x) :
    Calls Try.prog 10 #[v, .int .i64 at'] w (Yes w) := by
  obtain ⟨a, c, rfl, hc, hm⟩ := h.shape
  unfold maxLen at hm
  by_cases h5 : x.length ≤ 300
  · have d1 : decide ((300 : Int) < x.length) = false := by simp; omega
    have R1_ := Lib.hid (row_ok (x := x) (by omega)).1
    have EB_ : Hid (trE (rowB x) 0 (x.length - 1) = 4) := by have := tr_big_row (x := x) (more := []) (most := x.length - 1) (by omega) (by omega); rwa [List.append_nil] at this
    have EC_ : Hid (trE (rowB x) 0 x.length = 0) := (tr_at (b := rowB x) (x := x) (more := []) (p := 0) (most := x.length) (by omega) (by omega) (by simp)).2.2
    obtain ⟨xb, hxb⟩ : ∃ xb, xb = (trB (rowB x) 0 (x.length - 1)) := ⟨_, rfl⟩
    have XB_ := Lib.hid hxb.symm
    obtain ⟨pb, hpb⟩ : ∃ pb, pb = (trP (rowB x) 0 (x.length - 1)) := ⟨_, rfl⟩
    have PB_ := Lib.hid hpb.symm
    obtain ⟨xc, hxc⟩ : ∃ xc, xc = (trB (rowB x) 0 x.length) := ⟨_, rfl⟩
    have XC_ := Lib.hid hxc.symm
    obtain ⟨pc, hpc⟩ : ∃ pc, pc = (trP (rowB x) 0 x.length) := ⟨_, rfl⟩
    have PC_ := Lib.hid hpc.symm
    obtain ⟨ln, hln⟩ : ∃ ln, ln = (tlN (rowB x) at') := ⟨_, rfl⟩
    have LN_ := Lib.hid hln.symm
    obtain ⟨lp, hlp⟩ : ∃ lp, lp = (tlP (rowB x) at') := ⟨_, rfl⟩
    have LP_ := Lib.hid hlp.symm
    obtain ⟨le, hle_⟩ : ∃ le, le = (tlE (rowB x) at') := ⟨_, rfl⟩
    have LE_ := Lib.hid hle_.symm
    obtain ⟨tv, htv⟩ : ∃ tv, tv = (toV (rowB x) at') := ⟨_, rfl⟩
    have TV_ := Lib.hid htv.symm
    obtain ⟨tp, htp⟩ : ∃ tp, tp = (toP (rowB x) at') := ⟨_, rfl⟩
    have TP_ := Lib.hid htp.symm
    obtain ⟨te, hte_⟩ : ∃ te, te = (toE (rowB x) at') := ⟨_, rfl⟩
    have TE_ := Lib.hid hte_.symm
    obtain ⟨nr, hnr⟩ : ∃ nr, nr = (rowB x).length := ⟨_, rfl⟩
    have LR_ := Lib.hid hnr.symm
    have hle := tlE_arg (rowB x) at'
    have hte := toE_arg (rowB x) at'
    rw [← hle_, ← hnr] at hle
    rw [← hte_, ← hnr] at hte
    have hnrb : nr ≤ 504 := by rw [hnr, row_len (by omega)]; have := lenBytes_le x.length; omega
    clear hxb hpb hxc hpc hln hlp hle_ htv htp hte_ hnr
    by_cases o1 : at' < 0
    · have e1 : decide (at' < 0) = true := by simp [o1]
      have e2 : (le == 1) = true := by simp; exact hle.2 (.inl o1)
      have e3 : (te == 1) = true := by simp; exact hte.2 (.inl o1)
      clear hle hte
      go_enter Try.func10, Try.ntmps10
      go_wp2_with fail
      refine (shown_any _).mono ?_
      rintro e w1 ⟨rfl, k1⟩
      go_wp2_with fail
      refine (row_any _ x _ ((h).kp (k1))).mono ?_
      rintro e w2 ⟨r, rfl, o2, k2⟩
      rw [R1_.out]
      obtain ⟨ar, cr, rfl⟩ := o2.sl LR_.out
      go_wp2_with fail
      refine (takeRow_at _ (rowB x) 0 (x.length - 1) xb pb 4 _ (o2.rd) XB_.out PB_.out EB_.out).mono ?_
      rintro e w3 ⟨y, rfl, o3, k3⟩
      go_wp2_with fail
      refine (takeRow_at _ (rowB x) 0 x.length xc pc 0 _ ((o2.rd).kp (k3)) XC_.out PC_.out EC_.out).mono ?_
      rintro e w4 ⟨z, rfl, o4, k4⟩
      go_wp2_with fail
      refine (takeLen_at _ (rowB x) at' ln lp le _ ((o2.rd).kp ((k3).trans k4)) LN_.out LP_.out LE_.out).mono ?_
      rintro e w5 ⟨rfl, k5⟩
      go_wp2_with fail
      refine (takeOpt_at _ (rowB x) at' tv tp te _ ((o2.rd).kp (((k3).trans k4).trans k5)) TV_.out TP_.out TE_.out).mono ?_
      rintro e w6 ⟨rfl, rfl⟩
      go_wp2_with fail
      go_ret
      exact ⟨rfl, ((((k1).trans k2).trans k3).trans k4).trans k5⟩
    · have e1 : decide (at' < 0) = false := by simp [o1]
      obtain ⟨p, rfl⟩ := Int.eq_ofNat_of_zero_le (show 0 ≤ at' by omega)
      by_cases o2 : nr < p
      · have e4 : decide ((nr : Int) < (p : Int)) = true := by simp [o2]
        have e5 : decide (nr < p) = true := by simp [o2]
        have e2 : (le == 1) = true := by simp; exact hle.2 (.inr (by omega))
        have e3 : (te == 1) = true := by simp; exact hte.2 (.inr (by omega))
        clear hle hte
        go_enter Try.func10, Try.ntmps10
        go_wp2_with fail
        refine (shown_any _).mono ?_
        rintro e w1 ⟨rfl, k1⟩
        go_wp2_with fail
        refine (row_any _ x _ ((h).kp (k1))).mono ?_
        rintro e w2 ⟨r, rfl, o2, k2⟩
        rw [R1_.out]
        obtain ⟨ar, cr, rfl⟩ := o2.sl LR_.out
        go_wp2_with fail
        refine (takeRow_at _ (rowB x) 0 (x.length - 1) xb pb 4 _ (o2.rd) XB_.out PB_.out EB_.out).mono ?_
        rintro e w3 ⟨y, rfl, o3, k3⟩
        go_wp2_with fail
        refine (takeRow_at _ (rowB x) 0 x.length xc pc 0 _ ((o2.rd).kp (k3)) XC_.out PC_.out EC_.out).mono ?_
        rintro e w4 ⟨z, rfl, o4, k4⟩
        go_wp2_with fail
        refine (takeLen_at _ (rowB x) (p : Int) ln lp le _ ((o2.rd).kp ((k3).trans k4)) LN_.out LP_.out LE_.out).mono ?_
        rintro e w5 ⟨rfl, k5⟩
        go_wp2_with fail
        refine (takeOpt_at _ (rowB x) (p : Int) tv tp te _ ((o2.rd).kp (((k3).trans k4).trans k5)) TV_.out TP_.out TE_.out).mono ?_
        rintro e w6 ⟨rfl, rfl⟩
        go_wp2_with fail
        go_ret
        exact ⟨rfl, ((((k1).trans k2).trans k3).trans k4).trans k5⟩
      · have e4 : decide ((nr : Int) < (p : Int)) = false := by simp; omega
        have e5 : decide (nr < p) = false := by simp; omega
        have e2 : (le == 1) = false := by simp; intro h; have := hle.1 h; omega
        have e3 : (te == 1) = false := by simp; intro h; have := hte.1 h; omega
        clear hle hte
        go_enter Try.func10, Try.ntmps10
        go_wp2_with fail
        refine (shown_any _).mono ?_
        rintro e w1 ⟨rfl, k1⟩
        go_wp2_with fail
        refine (row_any _ x _ ((h).kp (k1))).mono ?_
        rintro e w2 ⟨r, rfl, o2, k2⟩
        rw [R1_.out]
        obtain ⟨ar, cr, rfl⟩ := o2.sl LR_.out
        go_wp2_with fail
        refine (takeRow_at _ (rowB x) 0 (x.length - 1) xb pb 4 _ (o2.rd) XB_.out PB_.out EB_.out).mono ?_
        rintro e w3 ⟨y, rfl, o3, k3⟩
        go_wp2_with fail
        refine (takeRow_at _ (rowB x) 0 x.length xc pc 0 _ ((o2.rd).kp (k3)) XC_.out PC_.out EC_.out).mono ?_
        rintro e w4 ⟨z, rfl, o4, k4⟩
        go_wp2_with fail
        refine (takeLen_at _ (rowB x) (p : Int) ln lp le _ ((o2.rd).kp ((k3).trans k4)) LN_.out LP_.out LE_.out).mono ?_
        rintro e w5 ⟨rfl, k5⟩
        go_wp2_with fail
        refine (takeOpt_at _ (rowB x) (p : Int) tv tp te _ ((o2.rd).kp (((k3).trans k4).trans k5)) TV_.out TP_.out TE_.out).mono ?_
        rintro e w6 ⟨rfl, rfl⟩
        go_wp2_with fail
        go_ret
        exact ⟨rfl, ((((k1).trans k2).trans k3).trans k4).trans k5⟩
  · have d1 : decide ((300 : Int) < x.length) = true := by simp; omega
    go_enter Try.func10, Try.ntmps10
    go_wp2_with fail
    refine (shown_any _).mono ?_
    rintro e w1 ⟨rfl, k1⟩
    go_wp2_with fail
    go_ret
    exact ⟨rfl, k1⟩
end Go.Proofs.Ytpaopnjknpoacaa

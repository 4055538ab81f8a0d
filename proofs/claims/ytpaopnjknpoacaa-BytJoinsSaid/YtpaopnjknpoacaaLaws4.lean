/- The walk of the law BytCuts. -/
import Derived.Test.YtpaopnjknpoacaaLaws3
namespace Go.Proofs.Ytpaopnjknpoacaa
open Go.RowKit

theorem Ow.slp {e : TypeId} {w : World} {B : Nat} {v : Value} {l : List UInt8} {n : Nat} (h : Ow e w B v l) (hn : l.length = n) (h1 : 1 ≤ n) : ∃ g c, v = .slice (some ⟨g, 0, none⟩) n c ∧ n ≤ c := by
  subst hn
  rcases h.shape with ⟨_, h0⟩ | ⟨g, c, rfl, _, _, hc, _⟩
  · subst h0; simp at h1
  · exact ⟨g, c, rfl, hc⟩
theorem Rd.pre {w : World} {g off n c : Nat} {l : List UInt8} (h : Rd w (.slice (some ⟨g, off, none⟩) n c) l) (j : Nat) (hj : j ≤ n) : Rd w (.slice (some ⟨g, off, none⟩) j c) (l.take j) := by
  by_cases h0 : c = 0
  · have := h.len
    have : j = 0 := by omega
    subst this
    rw [List.take_zero]
    exact ⟨_, c, rfl, Nat.zero_le _, h.len.2.2, fun h => (by cases h), fun _ _ i hi => by simp at hi⟩
  · simpa using h.cutAt 0 j (by omega) (by omega)

set_option maxRecDepth 100000 in
set_option maxHeartbeats 1600000 in
theorem bytCuts_walk (n k : Int) (cut : Nat) (v : Value) (x : List UInt8) (w : World) (hn : -9223372036854775808 ≤ n ∧ n ≤ 9223372036854775807) (hcut : cut < 65536) (h : Rd w v x) :
    Calls Try.prog 8 #[.agg #[.int .i64 n, .int .i64 k, v, .int .u16 cut]] w (Yes w) := by
  obtain ⟨a, c, rfl, hc, hm⟩ := h.shape
  unfold maxLen at hm
  have hcutI : (cut : Int) ≤ 65535 := by omega
  clear hcut
  by_cases h5 : x.length ≤ 300
  · have d1 : decide ((300 : Int) < x.length) = false := by simp; omega
    have R1 := (row_ok (x := x) (by omega)).1
    obtain ⟨nr, hnr⟩ : ∃ nr, nr = (rowB x).length := ⟨_, rfl⟩
    have LR := hnr.symm
    have hnrb : 1 ≤ nr := by rw [hnr, row_len (by omega)]; have := lenBytes_pos x.length; omega
    have hnrc : nr ≤ 304 := by rw [hnr, row_len (by omega)]; have := lenBytes_le x.length; omega
    have z1nr : ((nr : Int) == 0) = false := by simp; omega
    have z2nr : (nr == 0) = false := by simp; omega
    obtain ⟨jc, hjc⟩ : ∃ jc, jc = cut % nr := ⟨_, rfl⟩
    have hjck : jc < nr := by rw [hjc]; exact Nat.mod_lt _ (by omega)
    have hjcI : (cut : Int) % (nr : Int) = (jc : Int) := by rw [hjc]; rfl
    have Q3 := row_cut (x := x) (j := jc) (most := 1000) (by omega) (by omega) (by omega)
    obtain ⟨xc, hxc⟩ : ∃ xc, xc = trB ((rowB x).take jc) 0 1000 := ⟨_, rfl⟩
    have Q1 := hxc.symm
    obtain ⟨pc, hpc⟩ : ∃ pc, pc = trP ((rowB x).take jc) 0 1000 := ⟨_, rfl⟩
    have Q2 := hpc.symm
    clear hnr hjc hxc hpc
    · by_cases hN : numOk n k
      · obtain ⟨N1, N2⟩ := num_yes hN
        obtain ⟨q1, q2, q3, q4⟩ := hN
        obtain ⟨n', rfl⟩ := Int.eq_ofNat_of_zero_le q3
        obtain ⟨k', rfl⟩ := Int.eq_ofNat_of_zero_le (show 0 ≤ k by omega)
        rw [Int.toNat_natCast, Int.toNat_natCast] at N2
        have z1k : ((k' : Int) == 0) = false := by simp; omega
        have z2k : (k' == 0) = false := by simp; omega
        obtain ⟨ja, hja⟩ : ∃ ja, ja = cut % k' := ⟨_, rfl⟩
        have hjak : ja < k' := by rw [hja]; exact Nat.mod_lt _ (by omega)
        have hjaI : (cut : Int) % (k' : Int) = (ja : Int) := by rw [hja]; rfl
        have T3 := num_cut (n := n') (k := k') (j := ja) (by omega) (by omega) hjak
        obtain ⟨xa, hxa⟩ : ∃ xa, xa = tnN ((be k' n').take ja) 0 k' := ⟨_, rfl⟩
        have T1 := hxa.symm
        obtain ⟨pa, hpa⟩ : ∃ pa, pa = tnP ((be k' n').take ja) 0 k' := ⟨_, rfl⟩
        have T2 := hpa.symm
        clear q4 hja hxa hpa
        by_cases hL : (n' : Int) ≤ 1073741823
        · have L1 : lenE n' = 0 := if_neg (by omega)
          have L2 : lenB n' = lenBytes n' := by simp [lenB, L1]
          obtain ⟨nq, hnq⟩ : ∃ nq, nq = (lenBytes n').length := ⟨_, rfl⟩
          have LQ := hnq.symm
          have hnqb : 1 ≤ nq := by rw [hnq]; exact lenBytes_pos n'
          have hnqc : nq ≤ 4 := by rw [hnq]; exact lenBytes_le n'
          have z1nq : ((nq : Int) == 0) = false := by simp; omega
          have z2nq : (nq == 0) = false := by simp; omega
          obtain ⟨jb, hjb⟩ : ∃ jb, jb = cut % nq := ⟨_, rfl⟩
          have hjbk : jb < nq := by rw [hjb]; exact Nat.mod_lt _ (by omega)
          have hjbI : (cut : Int) % (nq : Int) = (jb : Int) := by rw [hjb]; rfl
          have S3 := lenBytes_cut (n := n') (j := jb) (by omega) (by omega)
          obtain ⟨xb, hxb⟩ : ∃ xb, xb = tlN ((lenBytes n').take jb) 0 := ⟨_, rfl⟩
          have S1 := hxb.symm
          obtain ⟨pb, hpb⟩ : ∃ pb, pb = tlP ((lenBytes n').take jb) 0 := ⟨_, rfl⟩
          have S2 := hpb.symm
          clear hnq hjb hxb hpb
          have N1_ := Lib.hid N1; clear N1; have N2_ := Lib.hid N2; clear N2; have L1_ := Lib.hid L1; clear L1; have L2_ := Lib.hid L2; clear L2; have R1_ := Lib.hid R1; clear R1; have LR_ := Lib.hid LR; clear LR; have Q1_ := Lib.hid Q1; clear Q1; have Q2_ := Lib.hid Q2; clear Q2; have Q3_ := Lib.hid Q3; clear Q3; have T1_ := Lib.hid T1; clear T1; have T2_ := Lib.hid T2; clear T2; have T3_ := Lib.hid T3; clear T3; have S1_ := Lib.hid S1; clear S1; have S2_ := Lib.hid S2; clear S2; have S3_ := Lib.hid S3; clear S3; have LQ_ := Lib.hid LQ; clear LQ
          go_enter Try.func8, Try.ntmps8
          go_wp2_with fail
          refine (shown_any _).mono ?_
          rintro e w1 ⟨rfl, k1⟩
          have a1 := ((Kp.refl w).alloc _).trans k1
          go_wp2_with fail
          refine (num_any (n' : Int) (k' : Int) _ hn).mono ?_
          rintro e w2 ⟨p, rfl, o2, k2⟩
          rw [N1_.out]
          rw [N2_.out] at o2
          obtain ⟨ga, ca, rfl, hca⟩ := o2.slp (be_length k' n') (by omega)
          have hca1 : ¬ ca = 0 := by omega
          go_wp2_with fail
          refine (len_any (n' : Int) _).mono ?_
          rintro e w3 ⟨q, rfl, o3, k3⟩
          rw [L1_.out]
          rw [L2_.out] at o3
          obtain ⟨gb, cb, rfl, hcb⟩ := o3.slp LQ_.out (by omega)
          have hcb1 : ¬ cb = 0 := by omega
          go_wp2_with fail
          refine (row_any _ x _ ((h).kp (((a1).trans k2).trans k3))).mono ?_
          rintro e w4 ⟨r, rfl, o4, k4⟩
          rw [R1_.out]
          obtain ⟨gc, cc, rfl, hcc⟩ := o4.slp LR_.out (by omega)
          have hcc1 : ¬ cc = 0 := by omega
          go_wp2_with fail
          refine (takeNum_at _ ((be k' n').take ja) 0 (k' : Int) xa pa 3 _ (Rd.pre ((o2.rd).kp ((k3).trans k4)) ja (by omega)) T1_.out T2_.out T3_.out).mono ?_
          rintro e w5 ⟨rfl, rfl⟩
          go_wp2_with fail
          refine (takeLen_at _ ((lenBytes n').take jb) 0 xb pb 3 _ (Rd.pre ((o3.rd).kp (k4)) jb (by omega)) S1_.out S2_.out S3_.out).mono ?_
          rintro e w6 ⟨rfl, k6⟩
          go_wp2_with fail
          refine (takeRow_at _ ((rowB x).take jc) 0 1000 xc pc 3 _ (Rd.pre ((o4.rd).kp (k6)) jc (by omega)) Q1_.out Q2_.out Q3_.out).mono ?_
          rintro e w7 ⟨y, rfl, o5, k7⟩
          go_wp2_with fail
          go_ret
          exact ⟨rfl, (((((a1).trans k2).trans k3).trans k4).trans k6).trans k7⟩
        · have L1 : lenE n' = 1 := if_pos (.inr (by omega))
          have L2 : lenB n' = [] := by simp [lenB, L1]
          have N1_ := Lib.hid N1; clear N1; have N2_ := Lib.hid N2; clear N2; have L1_ := Lib.hid L1; clear L1; have L2_ := Lib.hid L2; clear L2; have R1_ := Lib.hid R1; clear R1; have LR_ := Lib.hid LR; clear LR; have Q1_ := Lib.hid Q1; clear Q1; have Q2_ := Lib.hid Q2; clear Q2; have Q3_ := Lib.hid Q3; clear Q3; have T1_ := Lib.hid T1; clear T1; have T2_ := Lib.hid T2; clear T2; have T3_ := Lib.hid T3; clear T3
          go_enter Try.func8, Try.ntmps8
          go_wp2_with fail
          refine (shown_any _).mono ?_
          rintro e w1 ⟨rfl, k1⟩
          have a1 := ((Kp.refl w).alloc _).trans k1
          go_wp2_with fail
          refine (num_any (n' : Int) (k' : Int) _ hn).mono ?_
          rintro e w2 ⟨p, rfl, o2, k2⟩
          rw [N1_.out]
          rw [N2_.out] at o2
          obtain ⟨ga, ca, rfl, hca⟩ := o2.slp (be_length k' n') (by omega)
          have hca1 : ¬ ca = 0 := by omega
          go_wp2_with fail
          refine (len_any (n' : Int) _).mono ?_
          rintro e w3 ⟨q, rfl, o3, k3⟩
          rw [L1_.out]
          rw [L2_.out] at o3
          go_wp2_with fail
          refine (row_any _ x _ ((h).kp (((a1).trans k2).trans k3))).mono ?_
          rintro e w4 ⟨r, rfl, o4, k4⟩
          rw [R1_.out]
          obtain ⟨gc, cc, rfl, hcc⟩ := o4.slp LR_.out (by omega)
          have hcc1 : ¬ cc = 0 := by omega
          go_wp2_with fail
          refine (takeNum_at _ ((be k' n').take ja) 0 (k' : Int) xa pa 3 _ (Rd.pre ((o2.rd).kp ((k3).trans k4)) ja (by omega)) T1_.out T2_.out T3_.out).mono ?_
          rintro e w5 ⟨rfl, rfl⟩
          go_wp2_with fail
          refine (takeRow_at _ ((rowB x).take jc) 0 1000 xc pc 3 _ (Rd.pre (o4.rd) jc (by omega)) Q1_.out Q2_.out Q3_.out).mono ?_
          rintro e w6 ⟨y, rfl, o5, k6⟩
          go_wp2_with fail
          go_ret
          exact ⟨rfl, ((((a1).trans k2).trans k3).trans k4).trans k6⟩
      · obtain ⟨N1, N2⟩ := num_no hN
        by_cases hL : 0 ≤ n ∧ n ≤ 1073741823
        · obtain ⟨n', rfl⟩ := Int.eq_ofNat_of_zero_le hL.1
          have L1 : lenE n' = 0 := if_neg (by omega)
          have L2 : lenB n' = lenBytes n' := by simp [lenB, L1]
          obtain ⟨nq, hnq⟩ : ∃ nq, nq = (lenBytes n').length := ⟨_, rfl⟩
          have LQ := hnq.symm
          have hnqb : 1 ≤ nq := by rw [hnq]; exact lenBytes_pos n'
          have hnqc : nq ≤ 4 := by rw [hnq]; exact lenBytes_le n'
          have z1nq : ((nq : Int) == 0) = false := by simp; omega
          have z2nq : (nq == 0) = false := by simp; omega
          obtain ⟨jb, hjb⟩ : ∃ jb, jb = cut % nq := ⟨_, rfl⟩
          have hjbk : jb < nq := by rw [hjb]; exact Nat.mod_lt _ (by omega)
          have hjbI : (cut : Int) % (nq : Int) = (jb : Int) := by rw [hjb]; rfl
          have S3 := lenBytes_cut (n := n') (j := jb) (by omega) (by omega)
          obtain ⟨xb, hxb⟩ : ∃ xb, xb = tlN ((lenBytes n').take jb) 0 := ⟨_, rfl⟩
          have S1 := hxb.symm
          obtain ⟨pb, hpb⟩ : ∃ pb, pb = tlP ((lenBytes n').take jb) 0 := ⟨_, rfl⟩
          have S2 := hpb.symm
          clear hnq hjb hxb hpb
          have N1_ := Lib.hid N1; clear N1; have N2_ := Lib.hid N2; clear N2; have L1_ := Lib.hid L1; clear L1; have L2_ := Lib.hid L2; clear L2; have R1_ := Lib.hid R1; clear R1; have LR_ := Lib.hid LR; clear LR; have Q1_ := Lib.hid Q1; clear Q1; have Q2_ := Lib.hid Q2; clear Q2; have Q3_ := Lib.hid Q3; clear Q3; have S1_ := Lib.hid S1; clear S1; have S2_ := Lib.hid S2; clear S2; have S3_ := Lib.hid S3; clear S3; have LQ_ := Lib.hid LQ; clear LQ
          go_enter Try.func8, Try.ntmps8
          go_wp2_with fail
          refine (shown_any _).mono ?_
          rintro e w1 ⟨rfl, k1⟩
          have a1 := ((Kp.refl w).alloc _).trans k1
          go_wp2_with fail
          refine (num_any (n' : Int) k _ hn).mono ?_
          rintro e w2 ⟨p, rfl, o2, k2⟩
          rw [N1_.out]
          rw [N2_.out] at o2
          go_wp2_with fail
          refine (len_any (n' : Int) _).mono ?_
          rintro e w3 ⟨q, rfl, o3, k3⟩
          rw [L1_.out]
          rw [L2_.out] at o3
          obtain ⟨gb, cb, rfl, hcb⟩ := o3.slp LQ_.out (by omega)
          have hcb1 : ¬ cb = 0 := by omega
          go_wp2_with fail
          refine (row_any _ x _ ((h).kp (((a1).trans k2).trans k3))).mono ?_
          rintro e w4 ⟨r, rfl, o4, k4⟩
          rw [R1_.out]
          obtain ⟨gc, cc, rfl, hcc⟩ := o4.slp LR_.out (by omega)
          have hcc1 : ¬ cc = 0 := by omega
          go_wp2_with fail
          refine (takeLen_at _ ((lenBytes n').take jb) 0 xb pb 3 _ (Rd.pre ((o3.rd).kp (k4)) jb (by omega)) S1_.out S2_.out S3_.out).mono ?_
          rintro e w5 ⟨rfl, k5⟩
          go_wp2_with fail
          refine (takeRow_at _ ((rowB x).take jc) 0 1000 xc pc 3 _ (Rd.pre ((o4.rd).kp (k5)) jc (by omega)) Q1_.out Q2_.out Q3_.out).mono ?_
          rintro e w6 ⟨y, rfl, o5, k6⟩
          go_wp2_with fail
          go_ret
          exact ⟨rfl, (((((a1).trans k2).trans k3).trans k4).trans k5).trans k6⟩
        · have L1 : lenE n = 1 := if_pos (by omega)
          have L2 : lenB n = [] := by simp [lenB, L1]
          have N1_ := Lib.hid N1; clear N1; have N2_ := Lib.hid N2; clear N2; have L1_ := Lib.hid L1; clear L1; have L2_ := Lib.hid L2; clear L2; have R1_ := Lib.hid R1; clear R1; have LR_ := Lib.hid LR; clear LR; have Q1_ := Lib.hid Q1; clear Q1; have Q2_ := Lib.hid Q2; clear Q2; have Q3_ := Lib.hid Q3; clear Q3
          go_enter Try.func8, Try.ntmps8
          go_wp2_with fail
          refine (shown_any _).mono ?_
          rintro e w1 ⟨rfl, k1⟩
          have a1 := ((Kp.refl w).alloc _).trans k1
          go_wp2_with fail
          refine (num_any n k _ hn).mono ?_
          rintro e w2 ⟨p, rfl, o2, k2⟩
          rw [N1_.out]
          rw [N2_.out] at o2
          go_wp2_with fail
          refine (len_any n _).mono ?_
          rintro e w3 ⟨q, rfl, o3, k3⟩
          rw [L1_.out]
          rw [L2_.out] at o3
          go_wp2_with fail
          refine (row_any _ x _ ((h).kp (((a1).trans k2).trans k3))).mono ?_
          rintro e w4 ⟨r, rfl, o4, k4⟩
          rw [R1_.out]
          obtain ⟨gc, cc, rfl, hcc⟩ := o4.slp LR_.out (by omega)
          have hcc1 : ¬ cc = 0 := by omega
          go_wp2_with fail
          refine (takeRow_at _ ((rowB x).take jc) 0 1000 xc pc 3 _ (Rd.pre (o4.rd) jc (by omega)) Q1_.out Q2_.out Q3_.out).mono ?_
          rintro e w5 ⟨y, rfl, o5, k5⟩
          go_wp2_with fail
          go_ret
          exact ⟨rfl, ((((a1).trans k2).trans k3).trans k4).trans k5⟩
  · have d1 : decide ((300 : Int) < x.length) = true := by simp; omega
    go_enter Try.func8, Try.ntmps8
    go_wp2_with fail
    refine (shown_any _).mono ?_
    rintro e w1 ⟨rfl, k1⟩
    have a1 := ((Kp.refl w).alloc _).trans k1
    go_wp2_with fail
    go_ret
    exact ⟨rfl, a1⟩
end Go.Proofs.Ytpaopnjknpoacaa

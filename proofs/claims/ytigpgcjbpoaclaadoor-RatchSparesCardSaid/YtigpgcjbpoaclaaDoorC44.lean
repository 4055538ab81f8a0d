import Derived.Test.YtigpgcjbpoaclaaDoorC33
import Derived.Test.YtigpgcjbpoaclaaDoorC38
import Derived.Test.YtigpgcjbpoaclaaDoorC42
import Derived.Test.YtigpgcjbpoaclaaDoorC43
set_option linter.unusedVariables false
set_option linter.unusedSimpArgs false
namespace Go.Proofs.YtigpgcjbpoaclaaDoor
open Go.RowKit Go.Maps
def tB (H : Nat) : Nat → Prop := fun g => H ≤ g ∧ g < H + 5
theorem took13 {w w6 w7 : World} {H : Nat} {T1 T2 : TypeId} {n1 n2 : Int} {a1 a2 a3 a4 : Option Addr} {i1 i2 i3 i4 j1 j2 j3 j4 : Nat} {x y p q : Value} {c : Ch} {l : Lk} (hb : Bx w (H + 2) T1 #[.int .i64 n1, .slice a1 i1 j1, .slice a2 i2 j2]) (hg : w.grownBy w6 (some (H + 2))) (hb2 : Bx w6 (H + 3) T2 #[.int .i64 n2, .slice a3 i3 j3, .slice a4 i4 j4]) (hg2 : w6.grownBy w7 (some (H + 3)))
    (h1 : Rd w x c.sec) (h2 : SZ shLk (tB H) w y c.spare) (h3 : LIn w p q l) : CIn w7 x y c ∧ LIn w7 p q l :=
  ⟨⟨(h1.kept13 hb hg).kept13 hb2 hg2, ((h2.step ((grown_step hg).mono fun g hg => by have h7 : g = H + 2 := Option.some.inj hg; exact ⟨by omega, by omega⟩)).step ((grown_step hg2).mono fun g hg => by have h7 : g = H + 3 := Option.some.inj hg; exact ⟨by omega, by omega⟩)).1.mono fun _ h => h.elim⟩, ⟨(h3.key.kept13 hb hg).kept13 hb2 hg2, (h3.non.kept13 hb hg).kept13 hb2 hg2⟩⟩
set_option maxRecDepth 100000 in
set_option maxHeartbeats 4000000 in
theorem ratchTake_any (x y : Value) (c : Ch) (a : Int) (w : World) (h : CIn w x y c) (hc : c.ok) (ha : -9223372036854775808 ≤ a ∧ a ≤ 9223372036854775807) :
    Calls Tryd.prog 13 #[.agg #[.int .i64 c.next, x, y], .int .i64 a] w (TakenR w c a) := by
  have HBAD : Hid (∀ n W x y, takE c a = n → n ≠ 0 → CIn W x y c → Kp w W → TakenR w c a (.returned (.tuple #[.agg #[.int .i64 c.next, x, y], .agg #[.int .i64 0, .slice none 0 0, .slice none 0 0], .int .i64 n])) W) := fun n W x y h1 h2 h3 k => taken_bad h1 h2 h3 k
  have HGOOD : Hid (∀ W x y p q, takE c a = 0 → CIn W x y (takC c a) → LIn W p q (takL c a) → Kp w W → TakenR w c a (.returned (.tuple #[.agg #[.int .i64 (takC c a).next, x, y], .agg #[.int .i64 (takL c a).pos, p, q], .int .i64 0])) W) := fun W x y p q h1 h2 h3 k => by unfold TakenR; rw [h1]; exact ⟨x, y, p, q, rfl, h2, h3, k⟩
  have hlo := hc.lo
  have hhi := hc.hi
  have HSPZ : Hid (∀ W, Kp w W → SZ shLk (tB w.heap.size) W y c.spare) := fun W hW => (SZ.step (GL.old13 h.spare) (Step.of_kp hW)).mono fun g hg => hg.1
  have HX := Lib.hid h.sec
  have HL0 : Hid (LL w y c.spare) := h.spare
  have HIX := Lib.hid (fun W (hW : Kp w W) (hcell : W.cell? ⟨w.heap.size + 1, 0, none⟩ = some (.int .i64 a)) => ratchIndex_any y c.spare a (w.heap.size + 1) W (GL.kp h.spare hW) hcell)
  have hkl : ∀ k, k < c.spare.length → (lkAt c.spare k).key.length ≤ 10000 ∧ (lkAt c.spare k).non.length ≤ 10000 := fun k hk => by
    obtain ⟨_, _, e1, e2⟩ := hc.each k hk
    rw [e1, e2]
    omega
  have HCP := Lib.hid (fun W (hW : Kp w W) (hs : w.heap.size + 5 ≤ W.heap.size) => ratchCopied_any x y c (tB w.heap.size) W (h.sec.kp hW) (HSPZ.out W hW) (fun g hg => by have := hg.2; omega) (by rw [hc.sec]; omega) (by have := hc.few; omega) hkl)
  have HPN : Hid (c.ok) := hc
  have HKL := Lib.hid hkl
  obtain ⟨a1, n1, c1, rfl⟩ := h.sec.sl
  obtain ⟨a2, c2, rfl, p2, s2⟩ := SE.shape h.spare
  obtain ⟨NX, hNX⟩ : ∃ n, c.next = n := ⟨_, rfl⟩
  obtain ⟨N, hN⟩ : ∃ N, c.spare.length = N := ⟨_, rfl⟩
  have HNX := Lib.hid hNX
  have HN := Lib.hid hN
  rw [hNX] at HBAD HCP hlo hhi ⊢
  rw [hN] at p2 HCP HSPZ HIX HL0 ⊢
  clear h hc hkl hNX hN
  obtain ⟨w1, hw1⟩ : ∃ w1, ((((w.alloc (.cells #[.int .i64 NX, .slice a1 n1 c1, .slice a2 N c2] 34)).alloc (.cells #[.int .i64 a] 3)).alloc (.cells #[.int .i64 0, .slice none 0 0, .slice none 0 0] 34)).alloc (.cells #[.int .i64 0, .slice none 0 0, .slice none 0 0] 37)).alloc (.cells #[.int .i64 0, .slice none 0 0, .slice none 0 0] 37) = w1 := ⟨_, rfl⟩
  have hk1 : Kp w w1 := by rw [← hw1]; exact (((((Kp.refl _).alloc _).alloc _).alloc _).alloc _).alloc _
  have hs1 : w1.heap.size = w.heap.size + 5 := by rw [← hw1]; simp
  have g0 : Bx w1 w.heap.size 34 #[.int .i64 NX, .slice a1 n1 c1, .slice a2 N c2] := by rw [← hw1]; exact (Bx.new w _ _).kp (((((Kp.refl _).alloc _).alloc _).alloc _).alloc _)
  have g1 : Bx w1 (w.heap.size + 1) 3 #[.int .i64 a] := by
    have := (Bx.new (w.alloc (.cells #[.int .i64 NX, .slice a1 n1 c1, .slice a2 N c2] 34)) 3 #[.int .i64 a]).kp ((((Kp.refl _).alloc (.cells #[.int .i64 0, .slice none 0 0, .slice none 0 0] 34)).alloc (.cells #[.int .i64 0, .slice none 0 0, .slice none 0 0] 37)).alloc (.cells #[.int .i64 0, .slice none 0 0, .slice none 0 0] 37))
    rw [World.size_alloc] at this
    rw [← hw1]; exact this
  have g2 : Bx w1 (w.heap.size + 2) 34 #[.int .i64 0, .slice none 0 0, .slice none 0 0] := by
    have := (Bx.new ((w.alloc (.cells #[.int .i64 NX, .slice a1 n1 c1, .slice a2 N c2] 34)).alloc (.cells #[.int .i64 a] 3)) 34 #[.int .i64 0, .slice none 0 0, .slice none 0 0]).kp (((Kp.refl _).alloc (.cells #[.int .i64 0, .slice none 0 0, .slice none 0 0] 37)).alloc (.cells #[.int .i64 0, .slice none 0 0, .slice none 0 0] 37))
    rw [World.size_alloc, World.size_alloc] at this
    rw [← hw1]; exact this
  have g3 : Bx w1 (w.heap.size + 3) 37 #[.int .i64 0, .slice none 0 0, .slice none 0 0] := by
    have := (Bx.new (((w.alloc (.cells #[.int .i64 NX, .slice a1 n1 c1, .slice a2 N c2] 34)).alloc (.cells #[.int .i64 a] 3)).alloc (.cells #[.int .i64 0, .slice none 0 0, .slice none 0 0] 34)) 37 #[.int .i64 0, .slice none 0 0, .slice none 0 0]).kp ((Kp.refl _).alloc (.cells #[.int .i64 0, .slice none 0 0, .slice none 0 0] 37))
    rw [World.size_alloc, World.size_alloc, World.size_alloc] at this
    rw [← hw1]; exact this
  have g4 : Bx w1 (w.heap.size + 4) 37 #[.int .i64 0, .slice none 0 0, .slice none 0 0] := by
    have := Bx.new ((((w.alloc (.cells #[.int .i64 NX, .slice a1 n1 c1, .slice a2 N c2] 34)).alloc (.cells #[.int .i64 a] 3)).alloc (.cells #[.int .i64 0, .slice none 0 0, .slice none 0 0] 34)).alloc (.cells #[.int .i64 0, .slice none 0 0, .slice none 0 0] 37)) 37 #[.int .i64 0, .slice none 0 0, .slice none 0 0]
    rw [World.size_alloc, World.size_alloc, World.size_alloc, World.size_alloc] at this
    rw [← hw1]; exact this
  have HW := Lib.hid hw1
  have d2 := g0.cell 2
  have d1 := g1.cell 0
  simp only [List.getElem?_toArray, List.getElem?_cons_zero, List.getElem?_cons_succ] at d1 d2
  clear hw1
  go_enter Tryd.func13, Tryd.ntmps13
  go_wp2_with (first | (rw [HW.out]) | fail)
  simp only [show w.heap.size + 1 + 1 + 1 + 1 = w.heap.size + 4 from rfl, show w.heap.size + 1 + 1 + 1 = w.heap.size + 3 from rfl, show w.heap.size + 1 + 1 = w.heap.size + 2 from rfl]
  refine (HIX.out w1 hk1 d1).mono ?_; rintro _ w2 ⟨rfl, k12⟩
  have K2 := Lib.hid (hk1.trans k12)
  have HS2 : Hid (w.heap.size + 5 ≤ w2.heap.size) := by unfold Hid; have := k12.size; omega
  have G0 := Lib.hid (g0.kp k12)
  have G1 := Lib.hid (g1.kp k12)
  have G2 := Lib.hid (g2.kp k12)
  have G3 := Lib.hid (g3.kp k12)
  have G4 := Lib.hid (g4.kp k12)
  have d0 := G0.out.cell 0
  have d3 := G0.out.cell 1
  have d4 := G0.out.cell 2
  have d5 := G1.out.cell 0
  simp only [List.getElem?_toArray, List.getElem?_cons_zero, List.getElem?_cons_succ] at d0 d3 d4 d5
  clear hk1 hs1 g0 g1 g2 g3 g4 d1 d2 k12 HW HIX
  by_cases h1 : a < 0
  · have HE := Lib.hid (takE_neg (c := c) h1)
    go_wp2_with (first
      | (go_at_call 28; refine (HCP.out w2 K2.out HS2.out).mono ?_; rintro _ w3 ⟨⟨x3, y3, rfl, u3, l3⟩, k3⟩; obtain ⟨a3, n3, c3, rfl⟩ := u3.sl; obtain ⟨a4, n4, c4, rfl⟩ := SE.sl l3.1; have U3 := Lib.hid u3; have L3 := Lib.hid l3; have K3 := Lib.hid (K2.out.trans k3); have Q2 := Lib.hid (G2.out.kp k3); have Q3 := Lib.hid (G3.out.kp k3); clear u3 l3 k3)
      | (refine wpList_store_row rfl rfl 34 (.tmp 4) (.tmp 27) rfl (w.heap.size + 2) 34 _ #[.int .i64 NX, .slice a3 n3 c3, .slice a4 n4 c4] rfl rfl Q2.out rfl (three_one rfl rfl rfl) infoCh3c ?_; intro w6 b6 g6 kp6; have K6 := Lib.hid (kp6 w K3.out (by omega)); have Q36 := Lib.hid (Q3.out.grow g6 (by omega)))
      | (refine wpList_store_row rfl rfl 37 (.tmp 5) (.tmp 28) rfl (w.heap.size + 3) 37 _ #[.int .i64 0, .slice none 0 0, .slice none 0 0] rfl rfl Q36.out rfl (three_one rfl rfl rfl) infoLk3c ?_; intro w7 b7 g7 kp7; have K7 := Lib.hid (kp7 w K6.out (by omega)); have B67 := Lib.hid (b6.grow g7 (by omega)))
      | fail)
    refine bodyPost_ret (results_cct rfl _ _ (w.heap.size + 2) (w.heap.size + 3) _ _ _ _ (0, 0) (0, 0) _ _ _ rfl B67.out rfl b7 Tryd.underlying34 rfl infoCh3c Tryd.underlying37 rfl infoLk3c rfl) rfl ?_
    exact HBAD.out _ _ _ _ HE.out (by decide) (took13 Q2.out g6 Q36.out g7 U3.out L3.out (LIn.none _)).1 K7.out
  by_cases h2 : 4294967294 < a
  · have HE := Lib.hid (takE_far (c := c) h2)
    go_wp2_with (first
      | (go_at_call 28; refine (HCP.out w2 K2.out HS2.out).mono ?_; rintro _ w3 ⟨⟨x3, y3, rfl, u3, l3⟩, k3⟩; obtain ⟨a3, n3, c3, rfl⟩ := u3.sl; obtain ⟨a4, n4, c4, rfl⟩ := SE.sl l3.1; have U3 := Lib.hid u3; have L3 := Lib.hid l3; have K3 := Lib.hid (K2.out.trans k3); have Q2 := Lib.hid (G2.out.kp k3); have Q3 := Lib.hid (G3.out.kp k3); clear u3 l3 k3)
      | (refine wpList_store_row rfl rfl 34 (.tmp 4) (.tmp 27) rfl (w.heap.size + 2) 34 _ #[.int .i64 NX, .slice a3 n3 c3, .slice a4 n4 c4] rfl rfl Q2.out rfl (three_one rfl rfl rfl) infoCh3c ?_; intro w6 b6 g6 kp6; have K6 := Lib.hid (kp6 w K3.out (by omega)); have Q36 := Lib.hid (Q3.out.grow g6 (by omega)))
      | (refine wpList_store_row rfl rfl 37 (.tmp 5) (.tmp 28) rfl (w.heap.size + 3) 37 _ #[.int .i64 0, .slice none 0 0, .slice none 0 0] rfl rfl Q36.out rfl (three_one rfl rfl rfl) infoLk3c ?_; intro w7 b7 g7 kp7; have K7 := Lib.hid (kp7 w K6.out (by omega)); have B67 := Lib.hid (b6.grow g7 (by omega)))
      | fail)
    refine bodyPost_ret (results_cct rfl _ _ (w.heap.size + 2) (w.heap.size + 3) _ _ _ _ (0, 0) (0, 0) _ _ _ rfl B67.out rfl b7 Tryd.underlying34 rfl infoCh3c Tryd.underlying37 rfl infoLk3c rfl) rfl ?_
    exact HBAD.out _ _ _ _ HE.out (by decide) (took13 Q2.out g6 Q36.out g7 U3.out L3.out (LIn.none _)).1 K7.out
  have HTOK := Lib.hid (takC_ok HPN.out a)
  obtain ⟨TC, hTC⟩ : ∃ C, takC c a = C := ⟨_, rfl⟩
  obtain ⟨TL, hTL⟩ : ∃ C, takL c a = C := ⟨_, rfl⟩
  have HTC := Lib.hid hTC
  have HTL := Lib.hid hTL
  rw [hTC, hTL] at HGOOD
  rw [hTC] at HTOK
  have HCQ := Lib.hid (fun W x y (hx : Rd W x TC.sec) (hy : SZ shLk (tB w.heap.size) W y TC.spare) (hs : w.heap.size + 5 ≤ W.heap.size) => ratchCopied_any x y TC (tB w.heap.size) W hx hy (fun g hg => by have := hg.2; omega) (by rw [HTOK.out.sec]; omega) (by have := HTOK.out.few; omega) (fun k hk => by obtain ⟨_, _, e1, e2⟩ := HTOK.out.each k hk; rw [e1, e2]; omega))
  clear hTC hTL
  by_cases h3 : spAt c.spare a < N
  · obtain ⟨k, hk⟩ : ∃ k, spAt c.spare a = k := ⟨_, rfl⟩
    have hpos : (lkAt c.spare k).pos = a := by rw [← hk]; exact spAt_is (by rw [HN.out]; exact h3)
    rw [hk] at h3
    have hix : ixF c.spare a = (k : Int) := by unfold ixF; rw [hk, HN.out, if_pos h3]
    have hkl : k < c.spare.length := by rw [HN.out]; exact h3
    obtain ⟨f1, f2, f3⟩ := tak_spare HPN.out hkl
    rw [hpos] at f1 f2 f3
    rw [HTC.out] at f2
    rw [HTL.out] at f3
    have HTE := Lib.hid f1
    have HF2 := Lib.hid f2
    have HF3 := Lib.hid f3
    rw [hix]
    obtain ⟨b, off, cc, p, q, e, hb, hcs⟩ := LL.nodeK (i := k) HL0.out hkl
    rw [HN.out] at e
    simp only [Value.slice.injEq] at e
    obtain ⟨rfl, _, rfl⟩ := e
    obtain ⟨v0, v1, v2, rp, rq⟩ := hcs w2 K2.out
    obtain ⟨ap, np, cp, rfl⟩ := rp.sl
    obtain ⟨aq, nq, cq, rfl⟩ := rq.sl
    have i3 : (k : Int) < (N : Int) := by omega
    have HCL := Lib.hid (ratchCopiedLock_any _ _ (lkAt c.spare k) w2 (LIn.mk rp rq) (HKL.out k hkl))
    rw [hpos] at HCL v0
    have HWO := Lib.hid (fun W (hW : Kp w W) (hs : w.heap.size + 5 ≤ W.heap.size) => ratchWithout_any (.slice (some ⟨b, off, none⟩) N c2) c.spare k (tB w.heap.size) W (HSPZ.out W hW) (fun g hg => by have := hg.2; omega) hkl (by have := HPN.out.few; omega))
    have htn : TC.next = NX := by rw [f2]; exact HNX.out
    have htp : TL.pos = a := by rw [f3]; exact hpos
    rw [htn] at HCQ HGOOD
    rw [htp] at HGOOD
    clear f1 f2 f3 hcs rp rq htn htp hpos hix hkl hk
    go_wp2_with (first
      | (go_at_call 29; refine HCL.out.mono ?_; rintro _ w3 ⟨⟨x3, y3, rfl, l3, m3, m4⟩, k3⟩; obtain ⟨r1, r2, r3, rfl⟩ := l3.key.sl; obtain ⟨r4, r5, r6, rfl⟩ := l3.non.sl; have L3 := Lib.hid l3; have K3 := Lib.hid (K2.out.trans k3); have S3 := Lib.hid (Nat.le_trans HS2.out k3.size); have Q0 := Lib.hid (G0.out.kp k3); have Q2 := Lib.hid (G2.out.kp k3); have Q3 := Lib.hid (G3.out.kp k3); have Q4 := Lib.hid (G4.out.kp k3); clear l3 k3 m3 m4)
      | (refine wpList_store_row rfl rfl 37 (.tmp 7) (.tmp 37) rfl (w.heap.size + 4) 37 _ #[.int .i64 a, .slice r1 r2 r3, .slice r4 r5 r6] rfl rfl Q4.out rfl (three_one rfl rfl rfl) infoLk3c ?_; intro w4 b4 g4 kp4; have K4 := Lib.hid (kp4 w K3.out (by omega)); have S4 := Lib.hid (Nat.le_trans S3.out g4.size); have P4 := Lib.hid (LIn.mk (L3.out.key.kept13 Q4.out g4) (L3.out.non.kept13 Q4.out g4)); have Q04 := Lib.hid (Q0.out.grow g4 (by omega)); have Q24 := Lib.hid (Q2.out.grow g4 (by omega)); have Q34 := Lib.hid (Q3.out.grow g4 (by omega)); have Q44 := Lib.hid b4; have y2 := Q04.out.cell 2; simp only [List.getElem?_toArray, List.getElem?_cons_zero, List.getElem?_cons_succ] at y2; clear b4 g4 kp4)
      | (go_at_call 30; refine (HWO.out w4 K4.out S4.out).mono ?_; rintro _ w5 ⟨⟨v5, rfl, l5⟩, k5⟩; obtain ⟨t4, t5, t6, rfl⟩ := SE.sl l5.1; have L5 := Lib.hid l5; have K5 := Lib.hid (K4.out.trans k5); have S5 := Lib.hid (Nat.le_trans S4.out k5.size); have P5 := Lib.hid (P4.out.kp k5); have Q05 := Lib.hid (Q04.out.kp k5); have Q25 := Lib.hid (Q24.out.kp k5); have Q35 := Lib.hid (Q34.out.kp k5); have Q45 := Lib.hid (Q44.out.kp k5); obtain ⟨WT, hWT⟩ : ∃ x, w5.setCell ⟨w.heap.size, 2, none⟩ (.slice t4 t5 t6) = x := ⟨_, rfl⟩; have y3 := Q05.out.cell 2; have y4 := Q05.out.frozen 2; simp only [List.getElem?_toArray, List.getElem?_cons_zero, List.getElem?_cons_succ] at y3; clear l5 k5)
      | fail)
    have GT : w5.grownBy WT (some w.heap.size) := by rw [← hWT]; exact grown_set9 w5 w.heap.size 0 [.slice t4 t5 t6] 2
    have BT0 : Hid (Bx WT w.heap.size 34 #[.int .i64 NX, .slice a1 n1 c1, .slice t4 t5 t6]) := by unfold Hid; rw [← hWT]; exact Q05.out.set 2 _
    have BT2 := Lib.hid (Q25.out.grow GT (by omega))
    have BT3 := Lib.hid (Q35.out.grow GT (by omega))
    have BT4 := Lib.hid (Q45.out.grow GT (by omega))
    have KT : Hid (Kp w WT) := by unfold Hid; rw [← hWT]; exact K5.out.setNew (Nat.le_refl _) _
    have ST := Lib.hid (Nat.le_trans S5.out GT.size)
    have UT : Hid (Rd WT (.slice a1 n1 c1) TC.sec) := by rw [HF2.out]; exact (HX.out.kp K5.out).kept13 Q05.out GT
    have LT : Hid (SZ shLk (tB w.heap.size) WT (.slice t4 t5 t6) TC.spare) := by rw [HF2.out]; exact L5.out.step ((grown_step GT).mono fun g hg => by have h7 : g = w.heap.size := Option.some.inj hg; exact ⟨by omega, by omega⟩)
    have PT : Hid (LIn WT (.slice r1 r2 r3) (.slice r4 r5 r6) TL) := by rw [HF3.out]; exact ⟨P5.out.key.kept13 Q05.out GT, P5.out.non.kept13 Q05.out GT⟩
    clear GT y2 y3 y4 hWT d0 d3 d4 d5 v0 v1 v2 HF2 HF3 HCL HWO Q05 Q25 Q35 Q45 Q04 Q24 Q34 Q44 Q0 Q2 Q3 Q4
    have HCT := Lib.hid (fun W (hW : Kp WT W) => HCQ.out W _ _ (UT.out.kp hW) (LT.out.kp13 hW) (Nat.le_trans ST.out hW.size))
    have HS : Hid (∀ W : World, Bx W w.heap.size 34 #[.int .i64 NX, .slice a1 n1 c1, .slice t4 t5 t6] → Bx W (w.heap.size + 4) 37 #[.int .i64 a, .slice r1 r2 r3, .slice r4 r5 r6] → W.cell? ⟨w.heap.size, 0, none⟩ = some (.int .i64 NX) ∧ W.cell? ⟨w.heap.size, 1, none⟩ = some (.slice a1 n1 c1) ∧ W.cell? ⟨w.heap.size, 2, none⟩ = some (.slice t4 t5 t6) ∧ W.cell? ⟨w.heap.size + 4, 0, none⟩ = some (.int .i64 a) ∧ W.cell? ⟨w.heap.size + 4, 1, none⟩ = some (.slice r1 r2 r3) ∧ W.cell? ⟨w.heap.size + 4, 2, none⟩ = some (.slice r4 r5 r6)) := fun W h1 h2 => ⟨h1.cell 0, h1.cell 1, h1.cell 2, h2.cell 0, h2.cell 1, h2.cell 2⟩
    have S0 := Lib.hid (HS.out WT BT0.out BT4.out)
    go_region_held3 (fun W => W.cell? ⟨w.heap.size, 0, none⟩ = some (.int .i64 NX) ∧ W.cell? ⟨w.heap.size, 1, none⟩ = some (.slice a1 n1 c1) ∧ W.cell? ⟨w.heap.size, 2, none⟩ = some (.slice t4 t5 t6) ∧ W.cell? ⟨w.heap.size + 4, 0, none⟩ = some (.int .i64 a) ∧ W.cell? ⟨w.heap.size + 4, 1, none⟩ = some (.slice r1 r2 r3) ∧ W.cell? ⟨w.heap.size + 4, 2, none⟩ = some (.slice r4 r5 r6))
      (first | (with_reducible exact SB.out) | (with_reducible exact SA.out) | (with_reducible exact S9.out) | exact S0.out)
      (first | (go_at_call 28; refine (HCT.out _ (by first | exact Kp.refl _ | exact (Kp.refl _).drew)).mono ?_; rintro _ w9 ⟨⟨x9, y9, rfl, u9, l9⟩, k9⟩; obtain ⟨e1, e2, e3, rfl⟩ := u9.sl; obtain ⟨e4, e5, e6, rfl⟩ := SE.sl l9.1; have K9 : Hid (Kp WT w9) := (by first | exact k9 | exact (Kp.refl WT).drew.trans k9); have Q0 := BT0.out.kp K9.out; have Q4 := BT4.out.kp K9.out; have Q2 := BT2.out.kp K9.out; have Q3 := BT3.out.kp K9.out; have S9 := Lib.hid (HS.out w9 Q0 Q4); obtain ⟨ba, ga, ka⟩ := stored3 Q2 (.int .i64 NX) (.slice e1 e2 e3) (.slice e4 e5 e6); obtain ⟨wA, hwA⟩ : ∃ x, ((w9.setCell ⟨w.heap.size + 2, 0, none⟩ (.int .i64 NX)).setCell ⟨w.heap.size + 2, 1, none⟩ (.slice e1 e2 e3)).setCell ⟨w.heap.size + 2, 2, none⟩ (.slice e4 e5 e6) = x := ⟨_, rfl⟩; rw [hwA] at ba ga ka; have Q3A := Q3.grow ga (by omega); obtain ⟨bb, gb, kb⟩ := stored3 Q3A (.int .i64 a) (.slice r1 r2 r3) (.slice r4 r5 r6); obtain ⟨wB, hwB⟩ : ∃ x, ((wA.setCell ⟨w.heap.size + 3, 0, none⟩ (.int .i64 a)).setCell ⟨w.heap.size + 3, 1, none⟩ (.slice r1 r2 r3)).setCell ⟨w.heap.size + 3, 2, none⟩ (.slice r4 r5 r6) = x := ⟨_, rfl⟩; rw [hwB] at bb gb kb; have Q0A := Q0.grow ga (by omega); have Q4A := Q4.grow ga (by omega); have SA := Lib.hid (HS.out wA Q0A Q4A); have SB := Lib.hid (HS.out wB (Q0A.grow gb (by omega)) (Q4A.grow gb (by omega))); have x0 := Q2.cell 0; have x1 := Q2.cell 1; have x2 := Q2.cell 2; have xf := Q2.there; have x3 := (xf 0 (by decide)).2; have x4 := (xf 1 (by decide)).2; have x5 := (xf 2 (by decide)).2; have z0 := Q3A.cell 0; have z1 := Q3A.cell 1; have z2 := Q3A.cell 2; have zf := Q3A.there; have z3 := (zf 0 (by decide)).2; have z4 := (zf 1 (by decide)).2; have z5 := (zf 2 (by decide)).2; rw [Nat.zero_add] at x3 x4 x5 z3 z4 z5; simp only [List.getElem?_toArray, List.getElem?_cons_zero, List.getElem?_cons_succ] at x0 x1 x2 z0 z1 z2; have HFIN : Hid (CIn wB (.slice e1 e2 e3) (.slice e4 e5 e6) TC ∧ LIn wB (.slice r1 r2 r3) (.slice r4 r5 r6) TL) := took13 Q2 ga Q3A gb u9 l9 (PT.out.kp K9.out); have HBB : Hid (Bx wB (w.heap.size + 2) 34 #[.int .i64 NX, .slice e1 e2 e3, .slice e4 e5 e6] ∧ Bx wB (w.heap.size + 3) 37 #[.int .i64 a, .slice r1 r2 r3, .slice r4 r5 r6] ∧ Kp w wB) := ⟨ba.grow gb (by omega), bb, kb w (ka w (KT.out.trans K9.out) (by omega)) (by omega)⟩; clear xf zf ba ga ka bb gb kb Q0 Q4 Q2 Q3 Q3A Q0A Q4A u9 l9 k9))
    have HFB := HBB.out
    clear S0 S9 SA SB x0 x1 x2 x3 x4 x5 z0 z1 z2 z3 z4 z5 hwA hwB
    go_wp2_with fail
    refine bodyPost_ret (results_cct rfl _ _ (w.heap.size + 2) (w.heap.size + 3) _ _ _ _ (0, 0) (0, 0) _ _ _ rfl HFB.1 rfl HFB.2.1 Tryd.underlying34 rfl infoCh3c Tryd.underlying37 rfl infoLk3c rfl) rfl ?_
    exact HGOOD.out _ _ _ _ _ HTE.out HFIN.out.1 HFIN.out.2 HFB.2.2
  have hix : ixF c.spare a = -1 := by unfold ixF; rw [HN.out, if_neg h3]
  rw [hix]
  clear hix
  by_cases h4 : a < NX
  · have HE : Hid (takE c a = 9) := by show takE c a = 9; unfold takE; rw [if_neg (by omega), HN.out, if_neg h3, HNX.out, if_pos h4]
    clear HGOOD HCQ HTOK
    go_wp2_with (first
      | (go_at_call 28; refine (HCP.out w2 K2.out HS2.out).mono ?_; rintro _ w3 ⟨⟨x3, y3, rfl, u3, l3⟩, k3⟩; obtain ⟨a3, n3, c3, rfl⟩ := u3.sl; obtain ⟨a4, n4, c4, rfl⟩ := SE.sl l3.1; have U3 := Lib.hid u3; have L3 := Lib.hid l3; have K3 := Lib.hid (K2.out.trans k3); have Q2 := Lib.hid (G2.out.kp k3); have Q3 := Lib.hid (G3.out.kp k3); clear u3 l3 k3)
      | (refine wpList_store_row rfl rfl 34 (.tmp 4) (.tmp 49) rfl (w.heap.size + 2) 34 _ #[.int .i64 NX, .slice a3 n3 c3, .slice a4 n4 c4] rfl rfl Q2.out rfl (three_one rfl rfl rfl) infoCh3c ?_; intro w6 b6 g6 kp6; have K6 := Lib.hid (kp6 w K3.out (by omega)); have Q36 := Lib.hid (Q3.out.grow g6 (by omega)))
      | (refine wpList_store_row rfl rfl 37 (.tmp 5) (.tmp 50) rfl (w.heap.size + 3) 37 _ #[.int .i64 0, .slice none 0 0, .slice none 0 0] rfl rfl Q36.out rfl (three_one rfl rfl rfl) infoLk3c ?_; intro w7 b7 g7 kp7; have K7 := Lib.hid (kp7 w K6.out (by omega)); have B67 := Lib.hid (b6.grow g7 (by omega)))
      | fail)
    refine bodyPost_ret (results_cct rfl _ _ (w.heap.size + 2) (w.heap.size + 3) _ _ _ _ (0, 0) (0, 0) _ _ _ rfl B67.out rfl b7 Tryd.underlying34 rfl infoCh3c Tryd.underlying37 rfl infoLk3c rfl) rfl ?_
    exact HBAD.out _ _ _ _ HE.out (by decide) (took13 Q2.out g6 Q36.out g7 U3.out L3.out (LIn.none _)).1 K7.out
  have i1 : IntKind.i64.wrap (NX + 100) = NX + 100 := IntWalk.i64_in _ (by omega)
  by_cases h5 : NX + 100 < a
  · have HE : Hid (takE c a = 4) := by show takE c a = 4; unfold takE; rw [if_neg (by omega), HN.out, if_neg h3, HNX.out, if_neg h4, if_pos (.inl (by omega))]
    clear HGOOD HCQ HTOK
    go_wp2_with (first
      | (go_at_call 28; refine (HCP.out w2 K2.out HS2.out).mono ?_; rintro _ w3 ⟨⟨x3, y3, rfl, u3, l3⟩, k3⟩; obtain ⟨a3, n3, c3, rfl⟩ := u3.sl; obtain ⟨a4, n4, c4, rfl⟩ := SE.sl l3.1; have U3 := Lib.hid u3; have L3 := Lib.hid l3; have K3 := Lib.hid (K2.out.trans k3); have Q2 := Lib.hid (G2.out.kp k3); have Q3 := Lib.hid (G3.out.kp k3); clear u3 l3 k3)
      | (refine wpList_store_row rfl rfl 34 (.tmp 4) (.tmp 62) rfl (w.heap.size + 2) 34 _ #[.int .i64 NX, .slice a3 n3 c3, .slice a4 n4 c4] rfl rfl Q2.out rfl (three_one rfl rfl rfl) infoCh3c ?_; intro w6 b6 g6 kp6; have K6 := Lib.hid (kp6 w K3.out (by omega)); have Q36 := Lib.hid (Q3.out.grow g6 (by omega)))
      | (refine wpList_store_row rfl rfl 37 (.tmp 5) (.tmp 63) rfl (w.heap.size + 3) 37 _ #[.int .i64 0, .slice none 0 0, .slice none 0 0] rfl rfl Q36.out rfl (three_one rfl rfl rfl) infoLk3c ?_; intro w7 b7 g7 kp7; have K7 := Lib.hid (kp7 w K6.out (by omega)); have B67 := Lib.hid (b6.grow g7 (by omega)))
      | fail)
    refine bodyPost_ret (results_cct rfl _ _ (w.heap.size + 2) (w.heap.size + 3) _ _ _ _ (0, 0) (0, 0) _ _ _ rfl B67.out rfl b7 Tryd.underlying34 rfl infoCh3c Tryd.underlying37 rfl infoLk3c rfl) rfl ?_
    exact HBAD.out _ _ _ _ HE.out (by decide) (took13 Q2.out g6 Q36.out g7 U3.out L3.out (LIn.none _)).1 K7.out
  by_cases h6 : a = 4294967294
  · have HE : Hid (takE c a = 4) := by show takE c a = 4; unfold takE; rw [if_neg (by omega), HN.out, if_neg h3, HNX.out, if_neg h4, if_pos (.inr (by omega))]
    have t1 : (a == 4294967294) = true := beq_iff_eq.2 h6
    clear HGOOD HCQ HTOK h6
    go_wp2_with (first
      | (go_at_call 28; refine (HCP.out w2 K2.out HS2.out).mono ?_; rintro _ w3 ⟨⟨x3, y3, rfl, u3, l3⟩, k3⟩; obtain ⟨a3, n3, c3, rfl⟩ := u3.sl; obtain ⟨a4, n4, c4, rfl⟩ := SE.sl l3.1; have U3 := Lib.hid u3; have L3 := Lib.hid l3; have K3 := Lib.hid (K2.out.trans k3); have Q2 := Lib.hid (G2.out.kp k3); have Q3 := Lib.hid (G3.out.kp k3); clear u3 l3 k3)
      | (refine wpList_store_row rfl rfl 34 (.tmp 4) (.tmp 62) rfl (w.heap.size + 2) 34 _ #[.int .i64 NX, .slice a3 n3 c3, .slice a4 n4 c4] rfl rfl Q2.out rfl (three_one rfl rfl rfl) infoCh3c ?_; intro w6 b6 g6 kp6; have K6 := Lib.hid (kp6 w K3.out (by omega)); have Q36 := Lib.hid (Q3.out.grow g6 (by omega)))
      | (refine wpList_store_row rfl rfl 37 (.tmp 5) (.tmp 63) rfl (w.heap.size + 3) 37 _ #[.int .i64 0, .slice none 0 0, .slice none 0 0] rfl rfl Q36.out rfl (three_one rfl rfl rfl) infoLk3c ?_; intro w7 b7 g7 kp7; have K7 := Lib.hid (kp7 w K6.out (by omega)); have B67 := Lib.hid (b6.grow g7 (by omega)))
      | fail)
    refine bodyPost_ret (results_cct rfl _ _ (w.heap.size + 2) (w.heap.size + 3) _ _ _ _ (0, 0) (0, 0) _ _ _ rfl B67.out rfl b7 Tryd.underlying34 rfl infoCh3c Tryd.underlying37 rfl infoLk3c rfl) rfl ?_
    exact HBAD.out _ _ _ _ HE.out (by decide) (took13 Q2.out g6 Q36.out g7 U3.out L3.out (LIn.none _)).1 K7.out
  have t1 : (a == 4294967294) = false := beq_eq_false_iff_ne.2 h6
  obtain ⟨M, rfl⟩ := Int.eq_ofNat_of_zero_le hlo
  obtain ⟨n, rfl⟩ : ∃ n : Nat, a = (M : Int) + n := ⟨(a - M).toNat, by omega⟩
  obtain ⟨f1, f2, f3⟩ := tak_step HPN.out n (by omega) (by rw [HNX.out]; omega)
  rw [HNX.out] at f1
  rw [HNX.out, Int.toNat_natCast] at f2 f3
  rw [HTC.out] at f2
  rw [HTL.out] at f3
  have HTE := Lib.hid f1
  have HF2 := Lib.hid f2
  have HF3 := Lib.hid f3
  have HAH := Lib.hid (ratchAhead_any _ _ c M n (tB w.heap.size) w2 (HX.out.kp K2.out) (HSPZ.out w2 K2.out) (fun g hg => by have := hg.2; have := HS2.out; omega) HPN.out HNX.out (by omega) (by omega))
  have htn : TC.next = (M : Int) + (n : Int) + 1 := by rw [f2]
  have htp : TL.pos = (M : Int) + (n : Int) := by rw [f3]; show ((M + n : Nat) : Int) = _; omega
  rw [htn] at HCQ HGOOD
  rw [htp] at HGOOD
  clear f1 f2 f3 htn htp HBAD HCP h6
  go_wp2_with (first
    | (go_at_call 31; refine HAH.out.mono ?_; rintro _ w3 ⟨⟨x3, y3, p3, q3, rfl, u3, l3, lk3⟩, k3⟩; obtain ⟨t1', t2, t3, rfl⟩ := u3.sl; obtain ⟨t4, t5, t6, rfl⟩ := SE.sl l3.1; obtain ⟨r1, r2, r3, rfl⟩ := lk3.key.sl; obtain ⟨r4, r5, r6, rfl⟩ := lk3.non.sl; have U3 := Lib.hid u3; have L3 := Lib.hid l3; have P3 := Lib.hid lk3; have K3 := Lib.hid (K2.out.trans k3); have S3 := Lib.hid (Nat.le_trans HS2.out k3.size); have Q0 := Lib.hid (G0.out.kp k3); have Q2 := Lib.hid (G2.out.kp k3); have Q3 := Lib.hid (G3.out.kp k3); have Q4 := Lib.hid (G4.out.kp k3); clear u3 l3 lk3 k3)
    | (refine wpList_store_row rfl rfl 34 (.tmp 2) (.tmp 17) rfl w.heap.size 34 _ #[.int .i64 ((M : Int) + (n : Int) + 1), .slice t1' t2 t3, .slice t4 t5 t6] rfl rfl Q0.out rfl (three_one rfl rfl rfl) infoCh3c ?_; intro w4 b4 g4 kp4; have K4 := Lib.hid (kp4 w K3.out (Nat.le_refl _)); have S4 := Lib.hid (Nat.le_trans S3.out g4.size); have P4 := Lib.hid (LIn.mk (P3.out.key.kept13 Q0.out g4) (P3.out.non.kept13 Q0.out g4)); have U4 := Lib.hid (U3.out.kept13 Q0.out g4); have L4 := Lib.hid (L3.out.step ((grown_step g4).mono fun g hg => by have h7 : g = w.heap.size := Option.some.inj hg; exact ⟨by omega, by omega⟩)); have Q04 := Lib.hid b4; have Q24 := Lib.hid (Q2.out.grow g4 (by omega)); have Q34 := Lib.hid (Q3.out.grow g4 (by omega)); have Q44 := Lib.hid (Q4.out.grow g4 (by omega)); clear b4 g4 kp4)
    | (refine wpList_store_row rfl rfl 37 (.tmp 7) (.tmp 18) rfl (w.heap.size + 4) 37 _ #[.int .i64 ((M : Int) + (n : Int)), .slice r1 r2 r3, .slice r4 r5 r6] rfl rfl Q44.out rfl (three_one rfl rfl rfl) infoLk3c ?_; intro WT b5 g5 kp5; have KT := Lib.hid (kp5 w K4.out (by omega)); have ST := Lib.hid (Nat.le_trans S4.out g5.size); have P5 := Lib.hid (LIn.mk (P4.out.key.kept13 Q44.out g5) (P4.out.non.kept13 Q44.out g5)); have U5 := Lib.hid (U4.out.kept13 Q44.out g5); have L5 := Lib.hid (L4.out.step ((grown_step g5).mono fun g hg => by have h7 : g = w.heap.size + 4 := Option.some.inj hg; exact ⟨by omega, by omega⟩)); have BT0 := Lib.hid (Q04.out.grow g5 (by omega)); have BT2 := Lib.hid (Q24.out.grow g5 (by omega)); have BT3 := Lib.hid (Q34.out.grow g5 (by omega)); have BT4 := Lib.hid b5; clear b5 g5 kp5)
    | fail)
  have UT : Hid (Rd WT (.slice t1' t2 t3) TC.sec) := by rw [HF2.out]; exact U5.out
  have LT : Hid (SZ shLk (tB w.heap.size) WT (.slice t4 t5 t6) TC.spare) := by rw [HF2.out]; exact L5.out
  have PT : Hid (LIn WT (.slice r1 r2 r3) (.slice r4 r5 r6) TL) := by rw [HF3.out]; exact P5.out
  clear d0 d3 d4 d5 HF2 HF3 HAH Q04 Q24 Q34 Q44 Q0 Q2 Q3 Q4 U3 U4 U5 L3 L4 L5 P3 P4 P5 t1 i1 h1 h2 h3 h4 h5
  have HCT := Lib.hid (fun W (hW : Kp WT W) => HCQ.out W _ _ (UT.out.kp hW) (LT.out.kp13 hW) (Nat.le_trans ST.out hW.size))
  have HS : Hid (∀ W : World, Bx W w.heap.size 34 #[.int .i64 ((M : Int) + (n : Int) + 1), .slice t1' t2 t3, .slice t4 t5 t6] → Bx W (w.heap.size + 4) 37 #[.int .i64 ((M : Int) + (n : Int)), .slice r1 r2 r3, .slice r4 r5 r6] → W.cell? ⟨w.heap.size, 0, none⟩ = some (.int .i64 ((M : Int) + (n : Int) + 1)) ∧ W.cell? ⟨w.heap.size, 1, none⟩ = some (.slice t1' t2 t3) ∧ W.cell? ⟨w.heap.size, 2, none⟩ = some (.slice t4 t5 t6) ∧ W.cell? ⟨w.heap.size + 4, 0, none⟩ = some (.int .i64 ((M : Int) + (n : Int))) ∧ W.cell? ⟨w.heap.size + 4, 1, none⟩ = some (.slice r1 r2 r3) ∧ W.cell? ⟨w.heap.size + 4, 2, none⟩ = some (.slice r4 r5 r6)) := fun W h1 h2 => ⟨h1.cell 0, h1.cell 1, h1.cell 2, h2.cell 0, h2.cell 1, h2.cell 2⟩
  have S0 := Lib.hid (HS.out WT BT0.out BT4.out)
  go_region_held3 (fun W => W.cell? ⟨w.heap.size, 0, none⟩ = some (.int .i64 ((M : Int) + (n : Int) + 1)) ∧ W.cell? ⟨w.heap.size, 1, none⟩ = some (.slice t1' t2 t3) ∧ W.cell? ⟨w.heap.size, 2, none⟩ = some (.slice t4 t5 t6) ∧ W.cell? ⟨w.heap.size + 4, 0, none⟩ = some (.int .i64 ((M : Int) + (n : Int))) ∧ W.cell? ⟨w.heap.size + 4, 1, none⟩ = some (.slice r1 r2 r3) ∧ W.cell? ⟨w.heap.size + 4, 2, none⟩ = some (.slice r4 r5 r6))
    (first | (with_reducible exact SB.out) | (with_reducible exact SA.out) | (with_reducible exact S9.out) | exact S0.out)
    (first | (go_at_call 28; refine (HCT.out _ (by first | exact Kp.refl _ | exact (Kp.refl _).drew)).mono ?_; rintro _ w9 ⟨⟨x9, y9, rfl, u9, l9⟩, k9⟩; obtain ⟨e1, e2, e3, rfl⟩ := u9.sl; obtain ⟨e4, e5, e6, rfl⟩ := SE.sl l9.1; have K9 : Hid (Kp WT w9) := (by first | exact k9 | exact (Kp.refl WT).drew.trans k9); have Q0 := BT0.out.kp K9.out; have Q4 := BT4.out.kp K9.out; have Q2 := BT2.out.kp K9.out; have Q3 := BT3.out.kp K9.out; have S9 := Lib.hid (HS.out w9 Q0 Q4); obtain ⟨ba, ga, ka⟩ := stored3 Q2 (.int .i64 ((M : Int) + (n : Int) + 1)) (.slice e1 e2 e3) (.slice e4 e5 e6); obtain ⟨wA, hwA⟩ : ∃ x, ((w9.setCell ⟨w.heap.size + 2, 0, none⟩ (.int .i64 ((M : Int) + (n : Int) + 1))).setCell ⟨w.heap.size + 2, 1, none⟩ (.slice e1 e2 e3)).setCell ⟨w.heap.size + 2, 2, none⟩ (.slice e4 e5 e6) = x := ⟨_, rfl⟩; rw [hwA] at ba ga ka; have Q3A := Q3.grow ga (by omega); obtain ⟨bb, gb, kb⟩ := stored3 Q3A (.int .i64 ((M : Int) + (n : Int))) (.slice r1 r2 r3) (.slice r4 r5 r6); obtain ⟨wB, hwB⟩ : ∃ x, ((wA.setCell ⟨w.heap.size + 3, 0, none⟩ (.int .i64 ((M : Int) + (n : Int)))).setCell ⟨w.heap.size + 3, 1, none⟩ (.slice r1 r2 r3)).setCell ⟨w.heap.size + 3, 2, none⟩ (.slice r4 r5 r6) = x := ⟨_, rfl⟩; rw [hwB] at bb gb kb; have Q0A := Q0.grow ga (by omega); have Q4A := Q4.grow ga (by omega); have SA := Lib.hid (HS.out wA Q0A Q4A); have SB := Lib.hid (HS.out wB (Q0A.grow gb (by omega)) (Q4A.grow gb (by omega))); have x0 := Q2.cell 0; have x1 := Q2.cell 1; have x2 := Q2.cell 2; have xf := Q2.there; have x3 := (xf 0 (by decide)).2; have x4 := (xf 1 (by decide)).2; have x5 := (xf 2 (by decide)).2; have z0 := Q3A.cell 0; have z1 := Q3A.cell 1; have z2 := Q3A.cell 2; have zf := Q3A.there; have z3 := (zf 0 (by decide)).2; have z4 := (zf 1 (by decide)).2; have z5 := (zf 2 (by decide)).2; rw [Nat.zero_add] at x3 x4 x5 z3 z4 z5; simp only [List.getElem?_toArray, List.getElem?_cons_zero, List.getElem?_cons_succ] at x0 x1 x2 z0 z1 z2; have HFIN : Hid (CIn wB (.slice e1 e2 e3) (.slice e4 e5 e6) TC ∧ LIn wB (.slice r1 r2 r3) (.slice r4 r5 r6) TL) := took13 Q2 ga Q3A gb u9 l9 (PT.out.kp K9.out); have HBB : Hid (Bx wB (w.heap.size + 2) 34 #[.int .i64 ((M : Int) + (n : Int) + 1), .slice e1 e2 e3, .slice e4 e5 e6] ∧ Bx wB (w.heap.size + 3) 37 #[.int .i64 ((M : Int) + (n : Int)), .slice r1 r2 r3, .slice r4 r5 r6] ∧ Kp w wB) := ⟨ba.grow gb (by omega), bb, kb w (ka w (KT.out.trans K9.out) (by omega)) (by omega)⟩; clear xf zf ba ga ka bb gb kb Q0 Q4 Q2 Q3 Q3A Q0A Q4A u9 l9 k9))
  have HFB := HBB.out
  clear S0 S9 SA SB x0 x1 x2 x3 x4 x5 z0 z1 z2 z3 z4 z5 hwA hwB
  go_wp2_with fail
  refine bodyPost_ret (results_cct rfl _ _ (w.heap.size + 2) (w.heap.size + 3) _ _ _ _ (0, 0) (0, 0) _ _ _ rfl HFB.1 rfl HFB.2.1 Tryd.underlying34 rfl infoCh3c Tryd.underlying37 rfl infoLk3c rfl) rfl ?_
  exact HGOOD.out _ _ _ _ _ HTE.out HFIN.out.1 HFIN.out.2 HFB.2.2
end Go.Proofs.YtigpgcjbpoaclaaDoor

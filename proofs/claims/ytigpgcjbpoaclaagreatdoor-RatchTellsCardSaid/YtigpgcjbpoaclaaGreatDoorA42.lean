import Derived.Test.YtigpgcjbpoaclaaGreatDoorA37
set_option linter.unusedVariables false
set_option linter.unusedSimpArgs false
namespace Go.Proofs.YtigpgcjbpoaclaaGreatDoor
open Go.RowKit Go.Maps
theorem Tryz.infoLk : (Tryz.prog.info? 43).map (fun i => (i.zero, i.size, i.bytes)) = some (some (.agg #[.int .i64 0, .slice none 0 0, .slice none 0 0]), 3, 56) := by kernel_rfl
theorem lkK : SK Tryz.prog 23 43 3 := SK.mk' Tryz.underlying23 Tryz.infoLk (by decide) rfl
def resB (H : Nat) : Nat → Prop := fun g => g = H + 1 ∨ g = H + 1 + 1
theorem Bx.drew13 {w : World} {b : Nat} {T : TypeId} {cs : Array Value} (h : Bx w b T cs) : Bx w.drew b T cs := h
theorem two_stored {w : World} {H C : Nat} {T1 T2 : TypeId} {a0 a1 a2 b0 b1 b2 : Value} (h1 : Bx w (H + 1) T1 #[a0, a1, a2]) (h2 : Bx w (H + 1 + 1) T2 #[b0, b1, b2]) (u0 u1 u2 v0 v1 v2 : Value) {e : TypeId} {r : Value} {t : List Lk} (o : GZ shLk e (resB H) w C r t) (hC : H + 3 ≤ C) :
    Bx ((((((w.setCell ⟨H + 1, 0, none⟩ u0).setCell ⟨H + 1, 1, none⟩ u1).setCell ⟨H + 1, 2, none⟩ u2).setCell ⟨H + 1 + 1, 0, none⟩ v0).setCell ⟨H + 1 + 1, 1, none⟩ v1).setCell ⟨H + 1 + 1, 2, none⟩ v2) (H + 1) T1 #[u0, u1, u2]
    ∧ Bx ((((((w.setCell ⟨H + 1, 0, none⟩ u0).setCell ⟨H + 1, 1, none⟩ u1).setCell ⟨H + 1, 2, none⟩ u2).setCell ⟨H + 1 + 1, 0, none⟩ v0).setCell ⟨H + 1 + 1, 1, none⟩ v1).setCell ⟨H + 1 + 1, 2, none⟩ v2) (H + 1 + 1) T2 #[v0, v1, v2]
    ∧ GL shLk ((((((w.setCell ⟨H + 1, 0, none⟩ u0).setCell ⟨H + 1, 1, none⟩ u1).setCell ⟨H + 1, 2, none⟩ u2).setCell ⟨H + 1 + 1, 0, none⟩ v0).setCell ⟨H + 1 + 1, 1, none⟩ v1).setCell ⟨H + 1 + 1, 2, none⟩ v2) r t
    ∧ ∀ w0, Kp w0 w → w0.heap.size ≤ H → Kp w0 ((((((w.setCell ⟨H + 1, 0, none⟩ u0).setCell ⟨H + 1, 1, none⟩ u1).setCell ⟨H + 1, 2, none⟩ u2).setCell ⟨H + 1 + 1, 0, none⟩ v0).setCell ⟨H + 1 + 1, 1, none⟩ v1).setCell ⟨H + 1 + 1, 2, none⟩ v2) := by
  obtain ⟨p1, p2, p3⟩ := stored3 h1 u0 u1 u2
  generalize ((w.setCell ⟨H + 1, 0, none⟩ u0).setCell ⟨H + 1, 1, none⟩ u1).setCell ⟨H + 1, 2, none⟩ u2 = w3 at *
  obtain ⟨q1, q2, q3⟩ := stored3 (h2.grow p2 (by omega)) v0 v1 v2
  generalize ((w3.setCell ⟨H + 1 + 1, 0, none⟩ v0).setCell ⟨H + 1 + 1, 1, none⟩ v1).setCell ⟨H + 1 + 1, 2, none⟩ v2 = w6 at *
  have hlt := o.lt
  have o1 : GZ shLk e (resB H) w3 C r t := o.step (grown_step p2) (fun g hg => .inl (.inl (by simpa using hg))) (fun g hg hh => by have h3 := hlt g hg; have h4 : g = H + 1 := (by simpa using hh); omega)
  have o2 : GZ shLk e (resB H) w6 C r t := o1.step (grown_step q2) (fun g hg => .inl (.inr (by simpa using hg))) (fun g hg hh => by have h3 := hlt g hg; have h4 : g = H + 1 + 1 := (by simpa using hh); omega)
  exact ⟨p1.grow q2 (by omega), q1, o2.gl, fun w0 k hk => q3 w0 (p3 w0 k (by omega)) (by omega)⟩
def TakenR (w0 : World) (c : Ch) (a : Int) (e : Ending) (w' : World) : Prop :=
  ∃ x y p q, e = .returned (.tuple #[.agg #[.int .i64 (takC c a).next, x, y], .agg #[.int .i64 (takL c a).pos, p, q], .int .i64 (takE c a)]) ∧ CIn w' x y (takC c a) ∧ LIn w' p q (takL c a) ∧ Kp w0 w'
theorem taken_bad {w0 : World} {c : Ch} {a : Int} {n : Int} {x y : Value} {w' : World} (h : takE c a = n) (hn : n ≠ 0) (hc : CIn w' x y c) (k : Kp w0 w') :
    TakenR w0 c a (.returned (.tuple #[.agg #[.int .i64 c.next, x, y], .agg #[.int .i64 0, .slice none 0 0, .slice none 0 0], .int .i64 n])) w' := by
  have hb := tak_bad (show takE c a ≠ 0 by rw [h]; exact hn)
  unfold TakenR
  rw [hb.1, hb.2, h]
  exact ⟨x, y, _, _, rfl, hc, LIn.none w', k⟩
theorem takE_neg {c : Ch} {a : Int} (h : a < 0) : takE c a = 1 := if_pos (.inl h)
theorem takE_far {c : Ch} {a : Int} (h : 4294967294 < a) : takE c a = 1 := if_pos (.inr h)
set_option maxRecDepth 100000 in
set_option maxHeartbeats 3000000 in
theorem refTake13_any (x y : Value) (c : Ch) (a : Int) (w : World) (h : CIn w x y c) (hc : c.ok) (ha : -9223372036854775808 ≤ a ∧ a ≤ 9223372036854775807) :
    Calls Tryz.prog 18 #[.agg #[.int .i64 c.next, x, y], .int .i64 a] w (TakenR w c a) := by
  have HIN := Lib.hid h
  have HBAD : Hid (∀ n W, takE c a = n → n ≠ 0 → Kp w W → TakenR w c a (.returned (.tuple #[.agg #[.int .i64 c.next, x, y], .agg #[.int .i64 0, .slice none 0 0, .slice none 0 0], .int .i64 n])) W) := fun n W h1 h2 k => taken_bad h1 h2 (HIN.out.kp k) k
  obtain ⟨a1, c1, rfl, _, _⟩ := h.sec.shape
  obtain ⟨a2, c2, rfl, q2, s2⟩ := h.spare.shape
  unfold maxLen at s2
  obtain ⟨NX, hNX⟩ : ∃ n, c.next = n := ⟨_, rfl⟩
  obtain ⟨L, hL⟩ : ∃ L, c.sec.length = L := ⟨_, rfl⟩
  obtain ⟨N, hN⟩ : ∃ N, c.spare.length = N := ⟨_, rfl⟩
  have HNX := Lib.hid hNX
  have HLN := Lib.hid hN
  have HLL := Lib.hid hL
  rw [hNX] at HBAD ⊢
  rw [hL, hN] at HBAD HIN ⊢
  rw [hN] at q2
  have HOK := Lib.hid hc
  clear h hL hN hNX hc
  obtain ⟨w1, hw1⟩ : ∃ w1, ((w.alloc (.cells #[.int .i64 NX, .slice a1 L c1, .slice a2 N c2] 25)).alloc (.cells #[.int .i64 0, .slice none 0 0, .slice none 0 0] 25)).alloc (.cells #[.int .i64 0, .slice none 0 0, .slice none 0 0] 43) = w1 := ⟨_, rfl⟩
  have hb0 : Bx w1 w.heap.size 25 #[.int .i64 NX, .slice a1 L c1, .slice a2 N c2] := by rw [← hw1]; exact ((Bx.new w _ _).kp ((Kp.refl _).alloc _)).kp ((Kp.refl _).alloc _)
  have hb1 : Bx w1 (w.heap.size + 1) 25 #[.int .i64 0, .slice none 0 0, .slice none 0 0] := by
    rw [← hw1]
    have := (Bx.new (w.alloc (.cells #[.int .i64 NX, .slice a1 L c1, .slice a2 N c2] 25)) 25 #[.int .i64 0, .slice none 0 0, .slice none 0 0]).kp ((Kp.refl _).alloc (.cells #[.int .i64 0, .slice none 0 0, .slice none 0 0] 43))
    rwa [World.size_alloc] at this
  have hb2 : Bx w1 (w.heap.size + 1 + 1) 43 #[.int .i64 0, .slice none 0 0, .slice none 0 0] := by
    rw [← hw1]
    have := Bx.new ((w.alloc (.cells #[.int .i64 NX, .slice a1 L c1, .slice a2 N c2] 25)).alloc (.cells #[.int .i64 0, .slice none 0 0, .slice none 0 0] 25)) 43 #[.int .i64 0, .slice none 0 0, .slice none 0 0]
    rwa [World.size_alloc, World.size_alloc] at this
  have hk1 : Kp w w1 := by rw [← hw1]; exact (((Kp.refl _).alloc _).alloc _).alloc _
  have hsz : w1.heap.size = w.heap.size + 3 := by rw [← hw1]; simp
  have HSZ := Lib.hid hsz
  have HZO : Hid (∀ (m : Nat) (v : Value), v.ownBlock = some m → w1.heap.size ≤ m → ∀ g, (some g = v.ownBlock ∨ resB w.heap.size g) → w.heap.size ≤ g) := fun m v hv hm g hg => hg.elim (fun h => by rw [hv] at h; cases h; omega) (fun h => by unfold resB at h; omega)
  have HFW : Hid (N ≤ 32) := by rw [← HLN.out]; exact HOK.out.few
  have B0 := Lib.hid hb0
  have B1 := Lib.hid hb1
  have B2 := Lib.hid hb2
  have K1 := Lib.hid hk1
  have HW := Lib.hid hw1
  have d0 : w1.cell? ⟨w.heap.size, 0, none⟩ = some (.int .i64 NX) := hb0.cell 0
  have d1 : w1.cell? ⟨w.heap.size, 1, none⟩ = some (.slice a1 L c1) := hb0.cell 1
  have d2 : w1.cell? ⟨w.heap.size, 2, none⟩ = some (.slice a2 N c2) := hb0.cell 2
  have HC : Hid (∀ W, Kp w1 W → W.cell? ⟨w.heap.size, 0, none⟩ = some (.int .i64 NX) ∧ W.cell? ⟨w.heap.size, 1, none⟩ = some (.slice a1 L c1) ∧ W.cell? ⟨w.heap.size, 2, none⟩ = some (.slice a2 N c2)) := fun W hW => ⟨hW.cell (hb0.cell 0), hW.cell (hb0.cell 1), hW.cell (hb0.cell 2)⟩
  clear hb0 hb1 hb2 hk1 hsz hw1
  by_cases h1 : a < 0
  · have HE := Lib.hid (takE_neg (c := c) h1)
    go_enter Tryz.func18, Tryz.ntmps18
    go_wp2_with (first
      | (rw [HW.out])
      | (refine wpList_store_row rfl rfl 25 (.tmp 4) (.tmp 18) rfl (w.heap.size + 1) 25 _ #[.int .i64 NX, .slice a1 L c1, .slice a2 N c2] rfl rfl B1.out rfl (three_one rfl rfl rfl) infoCh3 ?_; intro w5 b5 g5 kp5; have K5 := Lib.hid (kp5 w K1.out (Nat.le_succ _)); have B25 := Lib.hid (B2.out.grow g5 (by omega)))
      | (refine wpList_store_row rfl rfl 43 (.tmp 5) (.tmp 19) rfl (w.heap.size + 1 + 1) 43 _ #[.int .i64 0, .slice none 0 0, .slice none 0 0] rfl rfl B25.out rfl (three_one rfl rfl rfl) infoLk3 ?_; intro w6 b6 g6 kp6; have K6 := Lib.hid (kp6 w K5.out (by omega)); have B56 := Lib.hid (b5.grow g6 (by omega)))
      | fail)
    refine bodyPost_ret (results_cct rfl _ _ (w.heap.size + 1) (w.heap.size + 1 + 1) _ _ _ _ (0, 0) (0, 0) _ _ _ rfl B56.out rfl b6 Tryz.underlying25 rfl infoCh3 Tryz.underlying43 rfl infoLk3 rfl) rfl ?_
    exact HBAD.out _ _ HE.out (by decide) K6.out
  by_cases h2 : 4294967294 < a
  · have HE := Lib.hid (takE_far (c := c) h2)
    go_enter Tryz.func18, Tryz.ntmps18
    go_wp2_with (first
      | (rw [HW.out])
      | (refine wpList_store_row rfl rfl 25 (.tmp 4) (.tmp 18) rfl (w.heap.size + 1) 25 _ #[.int .i64 NX, .slice a1 L c1, .slice a2 N c2] rfl rfl B1.out rfl (three_one rfl rfl rfl) infoCh3 ?_; intro w5 b5 g5 kp5; have K5 := Lib.hid (kp5 w K1.out (Nat.le_succ _)); have B25 := Lib.hid (B2.out.grow g5 (by omega)))
      | (refine wpList_store_row rfl rfl 43 (.tmp 5) (.tmp 19) rfl (w.heap.size + 1 + 1) 43 _ #[.int .i64 0, .slice none 0 0, .slice none 0 0] rfl rfl B25.out rfl (three_one rfl rfl rfl) infoLk3 ?_; intro w6 b6 g6 kp6; have K6 := Lib.hid (kp6 w K5.out (by omega)); have B56 := Lib.hid (b5.grow g6 (by omega)))
      | fail)
    refine bodyPost_ret (results_cct rfl _ _ (w.heap.size + 1) (w.heap.size + 1 + 1) _ _ _ _ (0, 0) (0, 0) _ _ _ rfl B56.out rfl b6 Tryz.underlying25 rfl infoCh3 Tryz.underlying43 rfl infoLk3 rfl) rfl ?_
    exact HBAD.out _ _ HE.out (by decide) K6.out
  have HU1 := Lib.hid (HIN.out.spare.kp K1.out)
  have HFIND : Hid (∀ k, k < N → (lkAt c.spare k).pos = a → takE c a = 0 ∧ takC c a = ⟨NX, c.sec, c.spare.eraseIdx k⟩ ∧ takL c a = lkAt c.spare k) := fun k hk e => by
    have := tak_spare HOK.out (i := k) (by rw [HLN.out]; exact hk)
    rw [e, HNX.out] at this
    exact this
  have HERA : Hid (∀ k, k < N → c.spare.take k ++ c.spare.drop (k + 1) = c.spare.eraseIdx k) := fun k _ => (List.eraseIdx_eq_take_drop_succ _ _).symm
  go_enter Tryz.func18, Tryz.ntmps18
  go_wp2_with (first | (rw [HW.out]) | fail)
  go_loop [7] (fun i => ∃ k : Nat, k ≤ N ∧ i = .int .i64 (k : Int) ∧ (∀ j, j < k → (lkAt c.spare j).pos ≠ a)) (fun i => (N - (intOf i).toNat))
  case atStart => exact ⟨0, Nat.zero_le _, rfl, fun t h => by omega⟩
  case round =>
    obtain ⟨k, hk, rfl, hpre⟩ := hrel
    have HPR := Lib.hid hpre
    clear hpre
    by_cases hlt : k < N
    · obtain ⟨b, off, cc, p, q, e, hb, e1, e2, e3, hp, hq⟩ := LL.node (i := k) HU1.out (by rw [HLN.out]; exact hlt)
      rw [HLN.out] at e
      simp only [Value.slice.injEq] at e
      obtain ⟨rfl, _, rfl⟩ := e
      have HBW : Hid (b < w.heap.size) := by
        obtain ⟨b', _, _, _, _, e', hb', _⟩ := LL.node (i := k) HIN.out.spare (by rw [HLN.out]; exact hlt)
        simp only [Value.slice.injEq, Option.some.injEq, Addr.mk.injEq] at e'
        obtain ⟨⟨rfl, _⟩, _⟩ := e'
        exact hb'
      have i1 : IntKind.i64.wrap ((k : Int) + 1) = (k : Int) + 1 := IntWalk.i64_in _ (by omega)
      have i3 : (k : Int) < (N : Int) := by omega
      have HFK := Lib.hid (HFIND.out k hlt)
      have HEK := Lib.hid (HERA.out k hlt)
      have HPK : Hid ((lkAt c.spare k).pos ≠ a → ∀ j, j < k + 1 → (lkAt c.spare j).pos ≠ a) := fun h j hj => by
        rcases Nat.lt_or_ge j k with h6 | h6
        · exact HPR.out j h6
        · obtain rfl : j = k := by omega
          exact h
      generalize hX : (lkAt c.spare k).pos = X at *
      by_cases h3 : X = a
      · subst h3
        have t1 : (X == X) = true := beq_self_eq_true X
        have HPW : Hid (LIn w p q (lkAt c.spare k)) := by
          obtain ⟨b', off', _, p', q', e', _, _, u1, u2, u3, u4⟩ := LL.node (i := k) HIN.out.spare (by rw [HLN.out]; exact hlt)
          simp only [Value.slice.injEq, Option.some.injEq, Addr.mk.injEq] at e'
          obtain ⟨⟨rfl, rfl, _⟩, _⟩ := e'
          have v1 := K1.out.cell u1
          have v2 := K1.out.cell u2
          rw [e2] at v1
          rw [e3] at v2
          cases v1
          cases v2
          exact ⟨u3, u4⟩
        obtain ⟨p1, p2, p3, rfl⟩ := hp.sl
        obtain ⟨q1', q2', q3, rfl⟩ := hq.sl
        obtain ⟨f1, f2, f3⟩ := HFK.out rfl
        have i4 : ¬ ((N : Int) < (k : Int) + 1) := by omega
        have i5 : ((k : Int) + 1) ≤ (N : Int) := by omega
        have i6 : ((k : Int) + 1).toNat = k + 1 := by omega
        have i7 : (k : Int) ≤ (c2 : Int) := by omega
        obtain ⟨A1, hA1⟩ : ∃ A : Option Addr, (if c2 = k + 1 then some ⟨b, off, none⟩ else some ⟨b, off + (k + 1) * 3, none⟩) = A := ⟨_, rfl⟩
        have HD : Hid (∀ W (Z : Nat → Prop), Kp w W → (∀ g, Z g → w.heap.size ≤ g) → SE shLk Z W (.slice A1 (N - (k + 1)) (c2 - (k + 1))) (c.spare.drop (k + 1))) := fun W Z hW hZ => SE.cut (GL.old HIN.out.spare hW hZ) (k + 1) hlt A1 (fun h => by rw [← hA1, if_neg (by omega)]; rfl) (fun h => by rw [h] at hA1; split at hA1 <;> cases hA1)
        have z2 := (HC.out _ ((Kp.refl w1).alloc (.cells #[] 43))).2.2
        go_wp2_with (first
          | (at_builtin; refine wpList_append_z (S := shLk) (Z := resB w.heap.size) (o := ⟨some 40, _, _, _, _, _⟩) lkK rfl _ _ rfl w1.heap.size _ [] rfl (GZ.empty 43 w1) _ (c.spare.take k) rfl (SE.pre (GL.old HIN.out.spare (K1.out.alloc _) (HZO.out w1.heap.size _ rfl (Nat.le_refl _))) k hk) (by rw [List.length_take, HLN.out]; have := HFW.out; simp only [List.length_nil]; omega) (by simp) ?_; intro v4 w4 o4 g4 _; have k4 : Hid (Kp w1 w4) := Kp.grown ((Kp.refl w1).alloc _) g4 (fun m hm => by cases hm; exact Nat.le_refl _); have O4 : Hid (GZ shLk 43 (resB w.heap.size) w4 w1.heap.size v4 (c.spare.take k)) := o4; obtain ⟨a4, n4, c4, rfl⟩ := SE.sl o4.gl; have z4 := (HC.out _ k4.out).2.2; clear o4 g4)
          | (at_builtin; refine wpList_append_z (S := shLk) (Z := resB w.heap.size) (o := ⟨some 47, _, _, _, _, _⟩) lkK rfl _ _ rfl w1.heap.size _ (c.spare.take k) rfl O4.out _ (c.spare.drop (k + 1)) rfl (HD.out w4 _ (K1.out.trans k4.out) (fun g hg => hg.elim (fun h => Nat.le_trans K1.out.size (O4.out.lt g h.symm).1) (fun h => by unfold resB at h; omega))) (by rw [List.length_take, List.length_drop, HLN.out]; have := HFW.out; omega) k4.out.size ?_; intro v5 w5 o5 g5 _; rw [HEK.out] at o5; have k5 : Hid (Kp w1 w5) := Kp.grown k4.out g5 (fun m hm => (O4.out.lt m hm).1); have O5 : Hid (GZ shLk 43 (resB w.heap.size) w5 w1.heap.size v5 (c.spare.eraseIdx k)) := o5; obtain ⟨a5, n5, c5, rfl⟩ := SE.sl o5.gl; obtain ⟨y0, y1, y2⟩ := HC.out _ k5.out; have y3 := k5.out.cell e1; have y4 := k5.out.cell e2; have y5 := k5.out.cell e3; clear o5 g5)
          | fail)
        have B15 := Lib.hid (B1.out.kp k5.out)
        have B25 := Lib.hid (B2.out.kp k5.out)
        have s0 := B15.out.cell 0
        have s1 := B15.out.cell 1
        have s2' := B15.out.cell 2
        have fr0 := B15.out.frozen 0
        have fr1 := B15.out.frozen 1
        have fr2 := B15.out.frozen 2
        have ST := stored3 B15.out (.int .i64 NX) (.slice a1 L c1) (.slice a5 n5 c5)
        have hbn : b ≠ w.heap.size + 1 := by have := HBW.out; omega
        have x3 := cell_grown y3 ST.2.1 hbn
        have x4 := cell_grown y4 ST.2.1 hbn
        have x5 := cell_grown y5 ST.2.1 hbn
        have BX2 := B25.out.grow ST.2.1 (by omega)
        have fr3 := BX2.frozen 0
        have fr4 := BX2.frozen 1
        have fr5 := BX2.frozen 2
        have s3 := BX2.cell 0
        have s4 := BX2.cell 1
        have s5 := BX2.cell 2
        simp only [List.getElem?_toArray, List.getElem?_cons_zero, List.getElem?_cons_succ] at s0 s1 s2' s3 s4 s5
        clear e1 e2 e3 d0 d1 d2 z2 hA1 ST BX2 hbn
        have HFIN : Hid (∀ W, Bx W (w.heap.size + 1) 25 #[.int .i64 NX, .slice a1 L c1, .slice a5 n5 c5] → Bx W (w.heap.size + 1 + 1) 43 #[.int .i64 X, .slice p1 p2 p3, .slice q1' q2' q3] → GL shLk W (.slice a5 n5 c5) (c.spare.eraseIdx k) → Kp w W → TakenR w c X (.returned (.tuple #[.agg #[.int .i64 NX, .slice a1 L c1, .slice a5 n5 c5], .agg #[.int .i64 X, .slice p1 p2 p3, .slice q1' q2' q3], .int .i64 0])) W) := fun W h1 h2 h3 h4 => by
          unfold TakenR
          rw [f1, f2, f3, hX]
          exact ⟨_, _, _, _, rfl, ⟨HIN.out.sec.kp h4, h3⟩, HPW.out.kp h4, h4⟩
        have FS := two_stored B15.out B25.out (.int .i64 NX) (.slice a1 L c1) (.slice a5 n5 c5) (.int .i64 X) (.slice p1 p2 p3) (.slice q1' q2' q3) O5.out (Nat.le_of_eq HSZ.out.symm)
        have HB1 := Lib.hid FS.1.drew13
        have HB2 := Lib.hid FS.2.1.drew13
        have HK6 := Lib.hid (FS.2.2.2 w (K1.out.trans k5.out) (Nat.le_refl _)).drew
        have HG6 := Lib.hid (GL.kp FS.2.2.1 (Kp.refl _).drew)
        clear FS
        go_region
        all_goals (go_wp2_with fail; refine bodyPost_ret (results_cct rfl _ _ (w.heap.size + 1) (w.heap.size + 1 + 1) _ _ _ _ (0, 0) (0, 0) _ _ _ rfl HB1.out rfl HB2.out Tryz.underlying25 rfl infoCh3 Tryz.underlying43 rfl infoLk3 rfl) rfl ?_)
        all_goals exact HFIN.out _ HB1.out HB2.out HG6.out HK6.out
      · have t1 : (X == a) = false := beq_eq_false_iff_ne.2 h3
        have HX := Lib.hid (HPK.out h3)
        clear HFK HPK HERA HFIND HEK
        go_wp2_with fail
        go_round
        case rel => exact ⟨k + 1, by omega, by go_num, HX.out⟩
        case measure => simp [intOf]; omega
    · obtain rfl : k = N := by omega
      have hsp : spAt c.spare a = k := by
        have := spAt_none (l := c.spare) (a := a) (fun j hj => HPR.out j (by rw [HLN.out] at hj; exact hj))
        rw [this, HLN.out]
      have HSP := Lib.hid hsp
      have h1' : ¬ a < 0 := by omega
      clear hsp HFIND HERA
      by_cases h3 : a < NX
      · have HE : Hid (takE c a = 9) := by
          show takE c a = 9
          unfold takE
          rw [if_neg (by omega), HSP.out, HLN.out, if_neg (by omega), HNX.out, if_pos h3]
        go_wp2_with (first
          | (refine wpList_store_row rfl rfl 25 (.tmp 4) (.tmp 63) rfl (w.heap.size + 1) 25 _ #[.int .i64 NX, .slice a1 L c1, .slice a2 k c2] rfl rfl B1.out rfl (three_one rfl rfl rfl) infoCh3 ?_; intro w5 b5 g5 kp5; have K5 := Lib.hid (kp5 w K1.out (Nat.le_succ _)); have B25 := Lib.hid (B2.out.grow g5 (by omega)))
          | (refine wpList_store_row rfl rfl 43 (.tmp 5) (.tmp 64) rfl (w.heap.size + 1 + 1) 43 _ #[.int .i64 0, .slice none 0 0, .slice none 0 0] rfl rfl B25.out rfl (three_one rfl rfl rfl) infoLk3 ?_; intro w6 b6 g6 kp6; have K6 := Lib.hid (kp6 w K5.out (by omega)); have B56 := Lib.hid (b5.grow g6 (by omega)))
          | fail)
        refine bodyPost_ret (results_cct rfl _ _ (w.heap.size + 1) (w.heap.size + 1 + 1) _ _ _ _ (0, 0) (0, 0) _ _ _ rfl B56.out rfl b6 Tryz.underlying25 rfl infoCh3 Tryz.underlying43 rfl infoLk3 rfl) rfl ?_
        exact HBAD.out _ _ HE.out (by decide) K6.out
      · have i1 : IntKind.i64.wrap (a - NX) = a - NX := IntWalk.i64_in _ (by have := HOK.out.lo; rw [HNX.out] at this; omega)
        have i2 : IntKind.i64.wrap (a + 1) = a + 1 := IntWalk.i64_in _ (by omega)
        have HER : Hid (takE c a = if 100 < a - NX ∨ 4294967294 < a + 1 then 4 else 0) := by
          show takE c a = _
          unfold takE
          rw [if_neg (by omega), HSP.out, HLN.out, if_neg (by omega), HNX.out, if_neg h3]
        by_cases h4 : 100 < a - NX
        · have HE : Hid (takE c a = 4) := by have := HER.out; rwa [if_pos (.inl h4)] at this
          go_wp2_with (first
            | (refine wpList_store_row rfl rfl 25 (.tmp 4) (.tmp 75) rfl (w.heap.size + 1) 25 _ #[.int .i64 NX, .slice a1 L c1, .slice a2 k c2] rfl rfl B1.out rfl (three_one rfl rfl rfl) infoCh3 ?_; intro w5 b5 g5 kp5; have K5 := Lib.hid (kp5 w K1.out (Nat.le_succ _)); have B25 := Lib.hid (B2.out.grow g5 (by omega)))
            | (refine wpList_store_row rfl rfl 43 (.tmp 5) (.tmp 76) rfl (w.heap.size + 1 + 1) 43 _ #[.int .i64 0, .slice none 0 0, .slice none 0 0] rfl rfl B25.out rfl (three_one rfl rfl rfl) infoLk3 ?_; intro w6 b6 g6 kp6; have K6 := Lib.hid (kp6 w K5.out (by omega)); have B56 := Lib.hid (b5.grow g6 (by omega)))
            | fail)
          refine bodyPost_ret (results_cct rfl _ _ (w.heap.size + 1) (w.heap.size + 1 + 1) _ _ _ _ (0, 0) (0, 0) _ _ _ rfl B56.out rfl b6 Tryz.underlying25 rfl infoCh3 Tryz.underlying43 rfl infoLk3 rfl) rfl ?_
          exact HBAD.out _ _ HE.out (by decide) K6.out
        · by_cases h5 : 4294967294 < a + 1
          · have HE : Hid (takE c a = 4) := by have := HER.out; rwa [if_pos (.inr h5)] at this
            go_wp2_with (first
              | (refine wpList_store_row rfl rfl 25 (.tmp 4) (.tmp 75) rfl (w.heap.size + 1) 25 _ #[.int .i64 NX, .slice a1 L c1, .slice a2 k c2] rfl rfl B1.out rfl (three_one rfl rfl rfl) infoCh3 ?_; intro w5 b5 g5 kp5; have K5 := Lib.hid (kp5 w K1.out (Nat.le_succ _)); have B25 := Lib.hid (B2.out.grow g5 (by omega)))
              | (refine wpList_store_row rfl rfl 43 (.tmp 5) (.tmp 76) rfl (w.heap.size + 1 + 1) 43 _ #[.int .i64 0, .slice none 0 0, .slice none 0 0] rfl rfl B25.out rfl (three_one rfl rfl rfl) infoLk3 ?_; intro w6 b6 g6 kp6; have K6 := Lib.hid (kp6 w K5.out (by omega)); have B56 := Lib.hid (b5.grow g6 (by omega)))
              | fail)
            refine bodyPost_ret (results_cct rfl _ _ (w.heap.size + 1) (w.heap.size + 1 + 1) _ _ _ _ (0, 0) (0, 0) _ _ _ rfl B56.out rfl b6 Tryz.underlying25 rfl infoCh3 Tryz.underlying43 rfl infoLk3 rfl) rfl ?_
            exact HBAD.out _ _ HE.out (by decide) K6.out
          · have hlo := HOK.out.lo
            have hsec := HOK.out.sec
            rw [HNX.out] at hlo
            obtain ⟨M, rfl⟩ := Int.eq_ofNat_of_zero_le hlo
            obtain ⟨n, rfl⟩ : ∃ n : Nat, a = (M : Int) + n := ⟨(a - M).toNat, by omega⟩
            have HTK : Hid (takE c ((M : Int) + n) = 0 ∧ takC c ((M : Int) + n) = ⟨(M : Int) + n + 1, nxtB (onB c.sec M n) (M + n), lastL (c.spare ++ passB c.sec M n)⟩ ∧ takL c ((M : Int) + n) = lockB (onB c.sec M n) (M + n)) := by
              have := tak_step HOK.out n (by omega) (by rw [HNX.out]; omega)
              rw [HNX.out, Int.toNat_natCast] at this
              exact this
            have HOL : Hid (∀ j, (onB c.sec M j).length = 32) := fun j => onB_length c.sec M hsec j
            have HPL : Hid (∀ j, (c.spare ++ passB c.sec M j).length = k + j) := fun j => by rw [List.length_append, passB_length, HLN.out]
            have HPS : Hid (∀ j, (c.spare ++ passB c.sec M j) ++ [lockB (onB c.sec M j) (M + j)] = c.spare ++ passB c.sec M (j + 1)) := fun j => by rw [List.append_assoc]; rfl
            have HOS : Hid (∀ j, nxtB (onB c.sec M j) (M + j) = onB c.sec M (j + 1)) := fun j => rfl
            have HFR : Hid (∀ (m : Nat) (v : Value), v.ownBlock = some m → w1.heap.size ≤ m → Free (fun g => some g = v.ownBlock ∨ resB w.heap.size g) (.slice a1 L c1)) := fun m v hv hm => Rd.free_old HIN.out.sec (HZO.out m v hv hm)
            have i5 : ¬ (M : Int) + n < (M : Int) := by omega
            have z2 := (HC.out _ ((Kp.refl w1).alloc (.cells #[] 43))).2.2
            clear HPR HSP HER hsec hlo
            go_wp2_with (first
              | (at_builtin; refine wpList_append_z (S := shLk) (Z := resB w.heap.size) (o := ⟨some 80, _, _, _, _, _⟩) lkK rfl _ _ rfl w1.heap.size _ [] rfl (GZ.empty 43 w1) _ c.spare rfl (GL.old HIN.out.spare (K1.out.alloc _) (HZO.out w1.heap.size _ rfl (Nat.le_refl _))) (by rw [HLN.out]; have := HFW.out; simp only [List.length_nil]; omega) (by simp) ?_; intro v4 w4 o4 g4 b4; have k4 : Hid (Kp w1 w4) := Kp.grown ((Kp.refl w1).alloc _) g4 (fun m hm => by cases hm; exact Nat.le_refl _); have O4 : Hid (GZ shLk 43 (resB w.heap.size) w4 w1.heap.size v4 c.spare) := o4; have F4 : Hid (Free (fun g => some g = v4.ownBlock ∨ resB w.heap.size g) (.slice a1 L c1)) := Rd.free_old HIN.out.sec (fun g hg => hg.elim (fun h => by have := (o4.lt g h.symm).1; have := HSZ.out; omega) (fun h => by unfold resB at h; omega)); obtain ⟨a4, n4, c4, rfl⟩ := SE.sl o4.gl; obtain ⟨z40, z41, z42⟩ := HC.out _ k4.out; clear o4 g4 b4)
              | fail)
            go_loopw [9, 10, 11] (fun v s i wr => ∃ j : Nat, j ≤ n ∧ i = .int .i64 ((M : Int) + j) ∧ GZ shLk 43 (resB w.heap.size) wr w1.heap.size v (c.spare ++ passB c.sec M j) ∧ RZ (fun g => some g = v.ownBlock ∨ resB w.heap.size g) wr s (onB c.sec M j) ∧ Kp w1 wr) (fun _ _ i _ => (M + n - (intOf i).toNat))
            case atStart =>
              refine ⟨0, Nat.zero_le _, by simp, ?_, ⟨HIN.out.sec.kp (K1.out.trans k4.out), F4.out⟩, k4.out⟩
              rw [show passB c.sec M 0 = [] from rfl, List.append_nil]
              exact O4.out
            case round =>
              obtain ⟨j, hj, rfl, ho, hs, hkp⟩ := hrel
              obtain ⟨a5, n5, c5, rfl⟩ := SE.sl ho.gl
              obtain ⟨a6, n6, c6, rfl⟩ := hs.1.sl
              have OJ : Hid (GZ shLk 43 (resB w.heap.size) wr w1.heap.size (.slice a5 n5 c5) (c.spare ++ passB c.sec M j)) := ho
              have SJ := Lib.hid hs
              have KJ := Lib.hid hkp
              have HLJ := Lib.hid (HOL.out j)
              have HPJ := Lib.hid (HPL.out j)
              have HPSJ := Lib.hid (HPS.out j)
              have HOSJ := Lib.hid (HOS.out j)
              have HRW : Hid (∀ B, wr.heap.size ≤ B → ∀ g, (some g = (Value.slice a5 n5 c5).ownBlock ∨ resB w.heap.size g) → g < B) := fun B hB g hg => hg.elim (fun h => by have := (OJ.out.lt g h.symm).2; omega) (fun h => by have := HSZ.out; have := KJ.out.size; unfold resB at h; omega)
              have i6 : IntKind.i64.wrap ((M : Int) + (j : Int) + 1) = (M : Int) + ((j + 1 : Nat) : Int) := by rw [IntWalk.i64_in _ (by omega)]; omega
              have i7 : ((M + j : Nat) : Int) = (M : Int) + (j : Int) := by omega
              have HNX1 := Lib.hid (fun W (hW : Rd W (.slice a6 n6 c6) (onB c.sec M j)) => refNext13_any (.slice a6 n6 c6) (onB c.sec M j) (M + j) W hW (by rw [HLJ.out]; omega) (by omega))
              have HLK1 := Lib.hid (fun W (hW : Kp wr W) => refLock13_any (.slice a6 n6 c6) (onB c.sec M j) (M + j) W (hs.1.kp hW) (by rw [HLJ.out]; omega) (by omega))
              rw [i7] at HNX1 HLK1
              have HLKP : Hid (((lockB (onB c.sec M j) (M + j)).pos) = (M : Int) + (j : Int)) := i7
              by_cases hlt : j < n
              · have i8 : (M : Int) + (j : Int) < (M : Int) + (n : Int) := by omega
                rw [HOSJ.out] at HNX1
                generalize lockB (onB c.sec M j) (M + j) = LK at *
                generalize onB c.sec M j = SEC at *
                clear ho hs hkp d0 d1 d2 z2 HTK
                go_wp2_with (first
                  | (at_builtin; refine wpList_append_z (S := shLk) (Z := resB w.heap.size) (o := ⟨some 95, _, _, _, _, _⟩) lkK rfl _ _ rfl w1.heap.size _ (c.spare ++ passB c.sec M j) rfl ((OJ.out.kp k7.out).kp ((Kp.refl w7).alloc _)) _ [LK] rfl (SE.litY (S := shLk) (w := w7) 43 R7.out rfl) (by rw [HPJ.out]; have := HFW.out; simp only [List.length_cons, List.length_nil]; omega) (by have := (KJ.out.trans k7.out).size; simp; omega) ?_; intro v8 w8 o8 g8 b8; rw [HPSJ.out] at o8; have k8 : Hid (Kp w1 w8) := Kp.grown ((KJ.out.trans k7.out).alloc _) g8 (fun m hm => (OJ.out.lt m hm).1); have O8 := Lib.hid o8; have S8 := Lib.hid (((SJ.out.kp13 k7.out).kp13 ((Kp.refl w7).alloc _)).moved13 g8 b8); obtain ⟨a8, n8, c8, rfl⟩ := SE.sl o8.gl; clear o8 g8 b8)
                  | (go_at_call 35; refine (HNX1.out _ S8.out.1).mono ?_; rintro _ w9 ⟨⟨u9, rfl, o9, m9⟩, k9⟩; have K9 := Lib.hid (k8.out.trans k9); have O9 := Lib.hid (O8.out.kp k9); have S9 : Hid (RZ (fun g => some g = (Value.slice a8 n8 c8).ownBlock ∨ resB w.heap.size g) w9 u9 _) := ⟨o9, m9.free (fun g hg => hg.elim (fun h => (O8.out.lt g h.symm).2) (fun h => by have := HSZ.out; have := k8.out.size; unfold resB at h; omega))⟩; obtain ⟨a9, n9, c9, rfl⟩ := o9.sl; clear k9 o9 m9)
                  | (go_at_call 34; refine (HLK1.out _ (Kp.refl _)).mono ?_; rintro _ w7 ⟨⟨x7, y7, rfl, l7, mx7, my7⟩, k7'⟩; have k7 := Lib.hid k7'; have R7 : Hid (shLk.R (fun g => some g = (Value.slice a5 n5 c5).ownBlock ∨ resB w.heap.size g) w7 [.int .i64 ((M : Int) + (j : Int)), x7, y7] LK) := ⟨x7, y7, by rw [HLKP.out], ⟨l7.key, mx7.free (HRW.out _ (Nat.le_refl _))⟩, ⟨l7.non, my7.free (HRW.out _ (Nat.le_refl _))⟩⟩; obtain ⟨p7, q7, r7, rfl⟩ := l7.key.sl; obtain ⟨p7', q7', r7', rfl⟩ := l7.non.sl; clear l7 mx7 my7 k7')
                  | fail)
                go_roundw
                case rel => exact ⟨j + 1, by omega, congrArg (Value.int .i64) (by omega), O9.out, S9.out, K9.out⟩
                case measure => simp [intOf]; omega
              · obtain rfl : j = n := by omega
                clear i6
                obtain ⟨E0, E1, E2⟩ := HTK.out
                have HP9 : Hid (((lockB (onB c.sec M j) (M + j)).pos) = (M : Int) + (j : Int)) := i7
                have B1J := Lib.hid (B1.out.kp KJ.out)
                have B2J := Lib.hid (B2.out.kp KJ.out)
                have HEND : Hid (∀ W x y z u, Rd W x (nxtB (onB c.sec M j) (M + j)) → LL W y (lastL (c.spare ++ passB c.sec M j)) → LIn W z u (lockB (onB c.sec M j) (M + j)) → Kp w W → TakenR w c ((M : Int) + (j : Int)) (.returned (.tuple #[.agg #[.int .i64 ((M : Int) + (j : Int) + 1), x, y], .agg #[.int .i64 ((M : Int) + (j : Int)), z, u], .int .i64 0])) W) := fun W x y z u h1 h2 h3 h4 => by
                  unfold TakenR
                  rw [E0, E1, E2, HP9.out]
                  exact ⟨_, _, _, _, rfl, ⟨h1, h2⟩, h3, h4⟩
                have HRES : Hid (∀ g, resB w.heap.size g → g < w1.heap.size) := fun g h => by have := HSZ.out; unfold resB at h; omega
                have HFA : Hid (∀ (v : Value), Newer w1.heap.size v → Free (resB w.heap.size) v) := fun v hv => hv.free HRES.out
                by_cases h6 : 32 < k + j
                · have i8 : (32 : Int) < ((k + j : Nat) : Int) := by omega
                  have hn5 : n5 = k + j := by
                    obtain ⟨a', c', e', _⟩ := OJ.out.gl
                    simp only [Value.slice.injEq] at e'
                    rw [e'.2.1, HPJ.out]
                  subst hn5
                  obtain ⟨g5, o5, rfl, _, _⟩ := SE.at OJ.out.gl (by omega)
                  have hc5 : k + j ≤ c5 := by
                    obtain ⟨a', c', e', h7, _⟩ := OJ.out.gl
                    simp only [Value.slice.injEq] at e'
                    rw [HPJ.out] at h7
                    rw [e'.2.2]; exact h7
                  have hlast : lastL (c.spare ++ passB c.sec M j) = (c.spare ++ passB c.sec M j).drop (k + j - 32) := by unfold lastL; rw [HPJ.out]
                  have hQ4 : k + j ≤ 132 := by have := HFW.out; omega
                  obtain ⟨Q, hQ⟩ : ∃ Q, k + j = Q := ⟨_, rfl⟩
                  obtain ⟨D, hD⟩ : ∃ D, k + j - 32 = D := ⟨_, rfl⟩
                  rw [hQ] at OJ SJ HRW hc5 h6 hQ4 i8 ⊢
                  rw [hD] at hlast
                  have hQD : D + 32 = Q := by omega
                  clear hD
                  have i9 : IntKind.i64.wrap ((Q : Int) - 32) = (D : Int) := by rw [IntWalk.i64_in _ (by omega)]; omega
                  have i10 : ¬ (Q : Int) < (D : Int) := by omega
                  have i11 : Q - D = 32 := by omega
                  obtain ⟨A5, hA5⟩ : ∃ A : Option Addr, (if c5 = D then some ⟨g5, o5, none⟩ else some ⟨g5, o5 + D * 3, none⟩) = A := ⟨_, rfl⟩
                  have RJ : Hid (SZ shLk (resB w.heap.size) wr (.slice A5 32 (c5 - D)) (lastL (c.spare ++ passB c.sec M j))) := by
                    show SZ _ _ _ _ _
                    rw [hlast]
                    have h7 := SE.cut OJ.out.se13 D (by omega) A5 (fun h => by rw [← hA5, if_neg (by omega)]; rfl) (fun h => by rw [h] at hA5; split at hA5 <;> cases hA5)
                    rw [i11] at h7
                    refine ⟨h7, fun x n9 c9 e h0 hx => ?_⟩
                    have h8 := (OJ.out.lt g5 rfl).1
                    have h9 := HRES.out _ hx
                    have h10 : x.block = g5 := by
                      simp only [Value.slice.injEq] at e
                      have h11 := e.1
                      rw [← hA5] at h11
                      split at h11 <;> (simp only [Option.some.injEq] at h11; rw [← h11])
                    omega
                  have HA5 := Lib.hid hA5
                  clear h5 E0 E1 E2 hlast hQ hQD ho hs hkp HLN HPL HPJ d0 d1 d2 z2 z40 z41 z42 h1 h1' h2 ha h3 h4 i5 i7
                  go_wp2_with (first
                    | (refine wpList_store_row rfl rfl 25 (.tmp 4) (.tmp 113) rfl (w.heap.size + 1) 25 _ #[.int .i64 ((M : Int) + (j : Int) + 1), .slice p8 q8 r8, .slice A5 32 (c5 - D)] rfl rfl B18.out rfl (three_one rfl rfl rfl) infoCh3 ?_; intro w10 b10 g10 kp10; have K10 := Lib.hid (kp10 w KW9.out (by omega)); have B20 := Lib.hid (B28.out.grow g10 (by omega)); have R10 := Lib.hid (R9.out.step ((grown_step g10).mono fun g hg => .inl (by simpa using hg))); have U10 := Lib.hid (U9.out.stepNew g10 (MU.out.mono (by have := HSZ.out; omega))); have L10 := Lib.hid (LIn.mk (L9.out.key.stepNew g10 (ML.out.1.mono (by have := HSZ.out; omega))) (L9.out.non.stepNew g10 (ML.out.2.mono (by have := HSZ.out; omega)))))
                    | (refine wpList_store_row rfl rfl 43 (.tmp 5) (.tmp 116) rfl (w.heap.size + 1 + 1) 43 _ #[.int .i64 ((M : Int) + (j : Int)), .slice p9 q9 r9, .slice p9' q9' r9'] rfl rfl B20.out rfl (three_one rfl rfl rfl) infoLk3 ?_; intro w11 b11 g11 kp11; have K11 := Lib.hid (kp11 w K10.out (by omega)); have B21 := Lib.hid (b10.grow g11 (by omega)); have R11 := Lib.hid (R10.out.step ((grown_step g11).mono fun g hg => .inr (by simpa using hg))); have U11 := Lib.hid (U10.out.stepNew g11 (MU.out.mono (by have := HSZ.out; omega))); have L11 := Lib.hid (LIn.mk (L10.out.key.stepNew g11 (ML.out.1.mono (by have := HSZ.out; omega))) (L10.out.non.stepNew g11 (ML.out.2.mono (by have := HSZ.out; omega)))))
                    | (go_at_call 35; refine (HNX1.out _ SJ.out.1).mono ?_; rintro _ w8 ⟨⟨u8, rfl, o8, m8⟩, k8⟩; have U8 := Lib.hid o8; have MU : Hid (Newer w1.heap.size u8) := m8.mono KJ.out.size; have K8 := Lib.hid k8; obtain ⟨p8, q8, r8, rfl⟩ := o8.sl; clear o8 m8 k8)
                    | (go_at_call 34; refine (HLK1.out _ K8.out).mono ?_; rintro _ w9 ⟨⟨x9, y9, rfl, l9, mx9, my9⟩, k9⟩; have L9 := Lib.hid l9; have ML : Hid (Newer w1.heap.size x9 ∧ Newer w1.heap.size y9) := ⟨mx9.mono (KJ.out.trans K8.out).size, my9.mono (KJ.out.trans K8.out).size⟩; have U9 := Lib.hid (U8.out.kp k9); have R9 := Lib.hid (RJ.out.step (Step.of_kp (K8.out.trans k9))); have B18 := Lib.hid ((B1J.out.kp K8.out).kp k9); have B28 := Lib.hid ((B2J.out.kp K8.out).kp k9); have KW9 := Lib.hid (K1.out.trans (KJ.out.trans (K8.out.trans k9))); obtain ⟨p9, q9, r9, rfl⟩ := l9.key.sl; obtain ⟨p9', q9', r9', rfl⟩ := l9.non.sl; clear l9 mx9 my9 k9)
                    | fail)
                  refine bodyPost_ret (results_cct rfl _ _ (w.heap.size + 1) (w.heap.size + 1 + 1) _ _ _ _ (0, 0) (0, 0) _ _ _ rfl B21.out rfl b11 Tryz.underlying25 rfl infoCh3 Tryz.underlying43 rfl infoLk3 rfl) rfl ?_
                  exact HEND.out _ _ _ _ _ U11.out (R11.out.1.mono fun _ h => h.elim) L11.out K11.out
                · have i8 : ¬ (32 : Int) < ((k + j : Nat) : Int) := by omega
                  have HLA : Hid (lastL (c.spare ++ passB c.sec M j) = c.spare ++ passB c.sec M j) := by
                    show lastL _ = _
                    unfold lastL
                    rw [HPJ.out, show k + j - 32 = 0 by omega, List.drop_zero]
                  have hn5 : n5 = k + j := by
                    obtain ⟨a', c', e', _⟩ := OJ.out.gl
                    simp only [Value.slice.injEq] at e'
                    rw [e'.2.1, HPJ.out]
                  subst hn5
                  have RJ : Hid (SZ shLk (resB w.heap.size) wr (.slice a5 (k + j) c5) (lastL (c.spare ++ passB c.sec M j))) := by
                    show SZ _ _ _ _ _
                    rw [HLA.out]
                    exact ⟨OJ.out.se13, HFA.out _ (fun g hg => (OJ.out.lt g hg).1)⟩
                  clear h5 E0 E1 E2 ho hs hkp d0 d1 d2 z2 z40 z41 z42 h1 h1' h2 ha h3 h4 i5 i7
                  go_wp2_with (first
                    | (refine wpList_store_row rfl rfl 25 (.tmp 4) (.tmp 113) rfl (w.heap.size + 1) 25 _ #[.int .i64 ((M : Int) + (j : Int) + 1), .slice p8 q8 r8, .slice a5 (k + j) c5] rfl rfl B18.out rfl (three_one rfl rfl rfl) infoCh3 ?_; intro w10 b10 g10 kp10; have K10 := Lib.hid (kp10 w KW9.out (by omega)); have B20 := Lib.hid (B28.out.grow g10 (by omega)); have R10 := Lib.hid (R9.out.step ((grown_step g10).mono fun g hg => .inl (by simpa using hg))); have U10 := Lib.hid (U9.out.stepNew g10 (MU.out.mono (by have := HSZ.out; omega))); have L10 := Lib.hid (LIn.mk (L9.out.key.stepNew g10 (ML.out.1.mono (by have := HSZ.out; omega))) (L9.out.non.stepNew g10 (ML.out.2.mono (by have := HSZ.out; omega)))))
                    | (refine wpList_store_row rfl rfl 43 (.tmp 5) (.tmp 116) rfl (w.heap.size + 1 + 1) 43 _ #[.int .i64 ((M : Int) + (j : Int)), .slice p9 q9 r9, .slice p9' q9' r9'] rfl rfl B20.out rfl (three_one rfl rfl rfl) infoLk3 ?_; intro w11 b11 g11 kp11; have K11 := Lib.hid (kp11 w K10.out (by omega)); have B21 := Lib.hid (b10.grow g11 (by omega)); have R11 := Lib.hid (R10.out.step ((grown_step g11).mono fun g hg => .inr (by simpa using hg))); have U11 := Lib.hid (U10.out.stepNew g11 (MU.out.mono (by have := HSZ.out; omega))); have L11 := Lib.hid (LIn.mk (L10.out.key.stepNew g11 (ML.out.1.mono (by have := HSZ.out; omega))) (L10.out.non.stepNew g11 (ML.out.2.mono (by have := HSZ.out; omega)))))
                    | (go_at_call 35; refine (HNX1.out _ SJ.out.1).mono ?_; rintro _ w8 ⟨⟨u8, rfl, o8, m8⟩, k8⟩; have U8 := Lib.hid o8; have MU : Hid (Newer w1.heap.size u8) := m8.mono KJ.out.size; have K8 := Lib.hid k8; obtain ⟨p8, q8, r8, rfl⟩ := o8.sl; clear o8 m8 k8)
                    | (go_at_call 34; refine (HLK1.out _ K8.out).mono ?_; rintro _ w9 ⟨⟨x9, y9, rfl, l9, mx9, my9⟩, k9⟩; have L9 := Lib.hid l9; have ML : Hid (Newer w1.heap.size x9 ∧ Newer w1.heap.size y9) := ⟨mx9.mono (KJ.out.trans K8.out).size, my9.mono (KJ.out.trans K8.out).size⟩; have U9 := Lib.hid (U8.out.kp k9); have R9 := Lib.hid (RJ.out.step (Step.of_kp (K8.out.trans k9))); have B18 := Lib.hid ((B1J.out.kp K8.out).kp k9); have B28 := Lib.hid ((B2J.out.kp K8.out).kp k9); have KW9 := Lib.hid (K1.out.trans (KJ.out.trans (K8.out.trans k9))); obtain ⟨p9, q9, r9, rfl⟩ := l9.key.sl; obtain ⟨p9', q9', r9', rfl⟩ := l9.non.sl; clear l9 mx9 my9 k9)
                    | fail)
                  refine bodyPost_ret (results_cct rfl _ _ (w.heap.size + 1) (w.heap.size + 1 + 1) _ _ _ _ (0, 0) (0, 0) _ _ _ rfl B21.out rfl b11 Tryz.underlying25 rfl infoCh3 Tryz.underlying43 rfl infoLk3 rfl) rfl ?_
                  exact HEND.out _ _ _ _ _ U11.out (R11.out.1.mono fun _ h => h.elim) L11.out K11.out
end Go.Proofs.YtigpgcjbpoaclaaGreatDoor

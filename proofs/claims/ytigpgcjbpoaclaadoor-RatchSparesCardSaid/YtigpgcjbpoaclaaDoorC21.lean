import Derived.Test.YtigpgcjbpoaclaaDoorC5
import Derived.Test.YtigpgcjbpoaclaaDoorC20
import Derived.WalkMore
set_option linter.unusedVariables false
set_option linter.unusedSimpArgs false
namespace Go.Proofs.YtigpgcjbpoaclaaDoor
open Go.RowKit Go.Shelf
attribute [local go_sem] Oper.semAt_some
theorem One.step {T : TypeId} {Y : Nat → Prop} {w w' : World} {p : Nat} {v : Value} (h : One T w p v) (k : Step Y w w') (hx : ¬ Y p) : One T w' p v := (k.block p h.lt hx).trans h
theorem One.held {T : TypeId} {Y : Nat → Prop} {w w' : World} {p : Nat} {v : Value} (h : One T w p v) (k : Held Y w w') (hx : Y p) : One T w' p v := (k.block p h.lt hx).trans h
theorem Ow.lt {e : TypeId} {A : World} {B : Nat} {v : Value} {l : List UInt8} (h : Ow e A B v l) : ∀ g, v.ownBlock = some g → g < A.heap.size := fun g hg => (World.ownsRow.lt h g hg).2
theorem Rd.held {R : Nat → Prop} {A B : World} {v : Value} {l : List UInt8} (h : Rd A v l) (hs : Held R A B) (hx : ∀ b o n c, v = .slice (some ⟨b, o, none⟩) n c → R b) : Rd B v l := by
  obtain ⟨a, c, rfl, h1, h2, h3, h4⟩ := h
  refine ⟨a, c, rfl, h1, h2, h3, fun x hx' i hi => ?_⟩
  have hc := h4 x hx' i hi
  subst hx'
  obtain ⟨b, o, spot⟩ := x
  have hsp := World.cell?_spot (h4 _ rfl 0 (by omega))
  have hsp' : spot = none := by simpa [Addr.add] using hsp
  subst hsp'
  exact hs.cell hc (by
    have : ((⟨b, o, none⟩ : Addr).add i).block = b := by unfold Addr.add; split <;> rfl
    rw [this]
    exact hx b o _ c rfl)
theorem ownsRow_step {e : TypeId} {Y : Nat → Prop} {A A' : World} {b g n c k : Nat} {xs : List Value} (h : A.ownsRow b e 1 (.slice (some ⟨g, 0, none⟩) n c) k xs) (hs : Step Y A A') (ho : ¬ Y g) : A'.ownsRow b e 1 (.slice (some ⟨g, 0, none⟩) n c) k xs := by
  refine ⟨h.1, ?_⟩
  rcases h.2 with ⟨hn, _⟩ | ⟨g', cap, cur, e', hb, hg, rest⟩
  · cases hn
  · have e2 : g = g' := by simpa [Value.ownBlock] using congrArg Value.ownBlock e'
    subst e2
    exact .inr ⟨g, cap, cur, e', hb, (hs.block g (Array.getElem?_eq_some_iff.1 hg).1 ho).trans hg, rest⟩
theorem Ow.kp' {e : TypeId} {A A' : World} {b k : Nat} {v : Value} {xs : List Value} (h : A.ownsRow b e 1 v k xs) (hs : Kp A A') : A'.ownsRow b e 1 v k xs := by
  refine ⟨h.1, ?_⟩
  rcases h.2 with hn | ⟨g, cap, cur, rfl, hb, hg, rest⟩
  · exact .inl hn
  · exact .inr ⟨g, cap, cur, rfl, hb, (hs.block g (Array.getElem?_eq_some_iff.1 hg).1).trans hg, rest⟩
theorem cell_lit1 (w : World) (T : TypeId) (u : Value) : ∀ j v, [u][j]? = some v → (w.alloc (.cells #[u] T)).cell? ((⟨w.heap.size, 0, none⟩ : Addr).add j) = some v := by
  intro j v h
  cases j with
  | zero => simp at h; subst h; exact (One.new T w u).cell
  | succ j => simp at h
theorem grown_one {T : TypeId} {w w1 w2 : World} {p g : Nat} {v : Value} (k : Kp w w1) (hg : w1.grownBy w2 (some g)) (h : One T w p v) (hp : p ≠ g) : One T w2 p v :=
  (hg.block p (h.kp k).lt (fun e => hp (by cases e; rfl))).trans (h.kp k)
set_option maxRecDepth 100000 in
set_option maxHeartbeats 4000000 in
theorem first_any (n N : Nat) (B : Nat → List UInt8) (gf : Nat) (lb : Array Value) (R : Nat → Prop) (w : World) (hB : ∀ i, (B i).length = 32) (hn : n ≤ 32 * N) (hn2 : n ≤ 1000000)
    (eg : ∀ args w, (callFunc gf args).run Tryd.prog w = .ok (.enter gf args) w) (hR : ∀ k, R k → k < w.heap.size)
    (hit : Hands Tryd.prog gf lb (fun i v Y A => Rd A v (B i) ∧ ∀ b o n c, v = .slice (some ⟨b, o, none⟩) n c → Y b) N R w) :
    Calls Tryd.prog 78 #[.int .i64 n, .func (.func gf) #[] lb] w fun e w' => (∃ v, e = .returned v ∧ Ow 5 w' w.heap.size v (firstB B n)) ∧ Kp w w' := by
  have U := u8
  obtain ⟨i0, hi0, hz0, hz1, hz2⟩ := info_parts Tryd.info5
  by_cases h0 : n = 0
  · subst h0
    rw [firstB_zero]
    go_enter Tryd.func78, Tryd.ntmps78
    go_wp2
    go_step3
    go_wp2_with (at_make; refine wpList_make_own _ rfl _ _ 22 rfl w.heap.size 5 i0 (.int .u8 0) 1 Tryd.underlying22 hi0 hz0 hz1 _ _ _ 0 rfl rfl rfl (by omega) (by unfold maxLen; omega) (by simp) ?_; intro w1 ho1 hg1; have k1 := Below.grown (Below.refl _ _) hg1 (Nat.le_refl _) (by intro k e; cases e); have hnb := One.kp (One.new 3 w (.int .i64 0)) k1; have cn := hnb.cell; have cna : ∀ o, (w1.alloc o).cell? ⟨w.heap.size, 0, none⟩ = _ := (fun o => Kp.cell ((Kp.refl w1).alloc o) cn); have hs1 := k1.size; rw [World.size_alloc] at hs1)
    rw [Exit.noGoto_ret]
    go_ret
    refine ⟨⟨_, rfl, Ow.kp (l := []) (by rw [World.size_alloc] at ho1; exact ho1) ((Kp.refl _).alloc _)⟩, (((Kp.refl w).alloc _).trans k1).alloc _⟩
  · have hne : ¬ (n : Int) = 0 := by omega
    refine (callsIn_wide (n := 4)).1 ?_
    refine callsIn_of_wp_marks Tryd.func78 rfl trivial ?_ rfl
    refine wpIn_wide.2 ?_
    simp only [Tryd.ntmps78, List.append_toArray, List.size_toArray, List.length_nil, List.length_cons, Nat.reduceAdd, Nat.reduceSub, Array.replicate_succ, Array.replicate_zero, List.push_toArray, List.nil_append, List.cons_append]
    go_wp2
    go_step3
    go_wp2_with (at_make; refine wpList_make_own _ rfl _ _ 22 rfl w.heap.size 5 i0 (.int .u8 0) 1 Tryd.underlying22 hi0 hz0 hz1 _ _ _ n rfl rfl rfl (by rw [hz2]; omega) (by unfold maxLen; omega) (by simp) ?_; intro w1 ho1 hg1; have k1 := Below.grown (Below.refl _ _) hg1 (Nat.le_refl _) (by intro k e; cases e); have hnb := One.kp (One.new 3 w (.int .i64 n)) k1; have cn := hnb.cell; have cna : ∀ o, (w1.alloc o).cell? ⟨w.heap.size, 0, none⟩ = _ := (fun o => Kp.cell ((Kp.refl w1).alloc o) cn); have hs1 := k1.size; rw [World.size_alloc] at hs1)
    go_step3
    go_wp2
    rw [World.size_alloc] at ho1
    obtain ⟨W0, hW0⟩ : ∃ W0, w1.alloc (.cells #[.slice (some ⟨w.heap.size + 1, 0, none⟩) 0 n] 22) = W0 := ⟨_, rfl⟩
    have hs0 : W0.heap.size = w1.heap.size + 1 := by rw [← hW0]; simp
    have hb0 : One 22 W0 w1.heap.size (.slice (some ⟨w.heap.size + 1, 0, none⟩) 0 n) := by rw [← hW0]; exact One.new _ _ _
    have k0 : Kp w1 W0 := by rw [← hW0]; exact (Kp.refl _).alloc _
    have ho0 : W0.ownsRow w.heap.size 5 1 (.slice (some ⟨w.heap.size + 1, 0, none⟩) 0 n) 0 (Lib.byteCells []) := Ow.kp (l := []) ho1 k0
    have hn0 := hnb.kp k0
    have kw0 : Kp w W0 := (((Kp.refl w).alloc _).trans k1).trans k0
    have hg1lt : w.heap.size + 1 < w1.heap.size := (World.ownsRow.lt ho1 _ rfl).2
    rw [hW0]
    have HB := Lib.hid hB
    clear hW0 ho1 hnb cn cna hg1 k0 hB k1
    refine wp_range_hands (R := R) rfl eg kw0 hR hit rfl
      (fun i Y A => One 22 A w1.heap.size (.slice (some ⟨w.heap.size + 1, 0, none⟩) (32 * i) n) ∧ A.ownsRow w.heap.size 5 1 (.slice (some ⟨w.heap.size + 1, 0, none⟩) (32 * i) n) (32 * i) (Lib.byteCells (catB B i)) ∧ One 3 A w.heap.size (.int .i64 n) ∧ Kp w A ∧ 32 * i < n)
      (fun c i Y A => c = .exit 0 ∧ One 22 A w1.heap.size (.slice (some ⟨w.heap.size + 1, 0, none⟩) n n) ∧ A.ownsRow w.heap.size 5 1 (.slice (some ⟨w.heap.size + 1, 0, none⟩) n n) n (Lib.byteCells (firstB B n)) ∧ Kp w A)
      ?mI ?mIx ?TT ⟨hb0, ho0, hn0, kw0, by omega⟩
      (fun v a' _ => a' = { tmps := #[.int .i64 n, .func (.func gf) #[] lb, .pointer (some ⟨w.heap.size, 0, none⟩), undef, .slice none 0 0, .pointer (some ⟨w1.heap.size, 0, none⟩), v, undef, undef, .int .i64 n, .slice (some ⟨w.heap.size + 1, 0, none⟩) 0 n, .int .i64 n, .bool false, undef, .func (.func gf) #[] lb, v, undef, undef, undef, undef, undef, undef, undef, undef, undef, undef, undef, undef, undef, undef, undef, undef], defers := [] })
      (fun _ _ _ _ _ _ h _ _ => h) ?assign ?body ?done ?stop
    case mI =>
      rintro i Y Y' A A' ⟨h1, h2, h3, h4, h5⟩ hY hs hg
      have hn1 : ∀ k, Y k → k ≠ w1.heap.size ∧ k ≠ w.heap.size + 1 ∧ k ≠ w.heap.size := fun k hk => by have := hY k hk; omega
      exact ⟨h1.step hs (fun e => (hn1 _ e).1 rfl), ownsRow_step h2 hs (fun e => (hn1 _ e).2.1 rfl), h3.step hs (fun e => (hn1 _ e).2.2 rfl), Below.trans h4 (hs.below h4.size (fun k hk => by have := hY k hk; omega)), h5⟩
    case mIx =>
      rintro c i Y Y' A A' ⟨h0, h1, h2, h4⟩ hY hs hg
      have hn1 : ∀ k, Y k → k ≠ w1.heap.size ∧ k ≠ w.heap.size + 1 ∧ k ≠ w.heap.size := fun k hk => by have := hY k hk; omega
      exact ⟨h0, h1.step hs (fun e => (hn1 _ e).1 rfl), ownsRow_step h2 hs (fun e => (hn1 _ e).2.1 rfl), Below.trans h4 (hs.below h4.size (fun k hk => by have := hY k hk; omega))⟩
    case TT =>
      rintro i v Yi Y A A' l o ⟨hr, hv⟩ hyy _ _ hl hs
      exact ⟨hr.turn hl rfl hs, fun b o n c e => hyy _ (hv b o n c e)⟩
    case assign =>
      intro l i Y Yi v A K hI hT hK
      gi_wp2
      exact hK _ _ (Kp.refl _) rfl
    case body =>
      rintro l i Y v a' A hi ⟨h1, h2, h3, h4, h5⟩ hyb hRA ⟨hrd, hvy⟩ rfl
      clear hb0 ho0 hn0
      have hbl := HB.out i
      obtain ⟨av, cv, rfl, q1, q2⟩ := hrd.shape
      unfold maxLen at q2
      rw [hbl] at hvy q1
      gi_wp2
      gi_loopw [18] (fun p wr => ∃ j : Nat, j ≤ 32 ∧ p = .int .i64 j ∧ One 22 wr w1.heap.size (.slice (some ⟨w.heap.size + 1, 0, none⟩) (32 * i + j) n) ∧ wr.ownsRow w.heap.size 5 1 (.slice (some ⟨w.heap.size + 1, 0, none⟩) (32 * i + j) n) (32 * i + j) (Lib.byteCells (catB B i ++ (B i).take j)) ∧ One 3 wr w.heap.size (.int .i64 n) ∧ Kp w wr ∧ Held (fun k => Y k ∨ R k) A wr ∧ 32 * i + j < n) (fun p _ => 32 - (intOf p).toNat)
      case atStart => exact ⟨0, by omega, rfl, h1, by simpa using h2, h3, h4, Held.refl _ _, h5⟩
      case round =>
        clear h1 h2 h3 h4 h5
        obtain ⟨j, hj, rfl, h1, h2, h3, h4, hh, h5⟩ := hrel
        by_cases hlt : j < 32
        · obtain ⟨b, off, rfl, _, hcell⟩ := hrd.at j (by omega)
          have hc0 := hh.cell (hcell j (by omega)) (.inl (hvy b off _ _ rfl))
          have hji : (j : Int) < 32 := by omega
          have hsn := snoc_take (B i) j (by omega)
          have HH := Lib.hid (fun h => firstB_here B HB.out n i j hlt h)
          rw [hsn] at HH
          obtain ⟨K, hK⟩ : ∃ K, 32 * i + j = K := ⟨_, rfl⟩
          have HK := Lib.hid hK
          obtain ⟨L, hL⟩ : ∃ L, catB B i ++ (B i).take j = L := ⟨_, rfl⟩
          have HL : Hid (catB B i ++ (B i).take (j + 1) = L ++ [(B i).getD j 0]) := by show _ = _; rw [hsn, ← List.append_assoc, hL]
          rw [← List.append_assoc, hL] at HH
          have hg : w.heap.size + 1 < wr.heap.size := (World.ownsRow.lt h2 _ rfl).2
          rw [hK] at h1 h2 h5
          rw [hL] at h2
          generalize hx : (B i).getD j 0 = x at *
          have hno : ∀ k, Y k ∨ R k → k ≠ w1.heap.size ∧ k ≠ w.heap.size + 1 := fun k hk => by
            rcases hk with h | h
            · have := hyb k h; omega
            · have := hR k h; omega
          have HNO := Lib.hid hno
          have c1 := h1.cell
          have hne1 : ¬ w1.heap.size = w.heap.size := by omega
          have hne2 : ¬ w.heap.size = w1.heap.size := by omega
          have hjl : j < (B i).length := by omega
          clear hsn hK hL hcell hx hno hrd hvy hbl
          have hq : decide ((K : Int) + 1 = n) = decide (K + 1 = n) := by congr 1; exact propext ⟨fun h => by omega, fun h => by omega⟩
          have hq2 : ((K : Int) + 1 == (n : Int)) = decide (K + 1 = n) := by rw [← hq]; rfl
          clear hq
          have fin : ∀ w2 : World, (wr.alloc (.cells #[.int .u8 (x.toNat : Int)] 5)).grownBy w2 (some (w.heap.size + 1)) → w2.ownsRow w.heap.size 5 1 (.slice (some ⟨w.heap.size + 1, 0, none⟩) (K + 1) n) (K + 1) (Lib.byteCells L ++ [.int .u8 (x.toNat : Int)]) →
              One 22 w2 w1.heap.size (.slice (some ⟨w.heap.size + 1, 0, none⟩) K n) → One 3 w2 w.heap.size (.int .i64 n) → ∀ W, w2.setCell ⟨w1.heap.size, 0, none⟩ (.slice (some ⟨w.heap.size + 1, 0, none⟩) (K + 1) n) = W →
              One 22 W w1.heap.size (.slice (some ⟨w.heap.size + 1, 0, none⟩) (K + 1) n) ∧ W.ownsRow w.heap.size 5 1 (.slice (some ⟨w.heap.size + 1, 0, none⟩) (K + 1) n) (K + 1) (Lib.byteCells (L ++ [x])) ∧ One 3 W w.heap.size (.int .i64 n) ∧ Kp w W ∧ Held (fun k => Y k ∨ R k) A W := by
            intro w2 hg2 ho2 hb2 hn2 W hW
            subst hW
            have hgs : w1.heap.size ≠ w.heap.size + 1 := by omega
            refine ⟨hb2.set _, ?_, hn2.step ((Step.refl (fun k => k = w1.heap.size) w2).setCell _ _ (.inr rfl)) (fun e => hne2 e), Below.setCell (Below.grown (Below.trans h4 (((Kp.refl wr).alloc _).mono h4.size)) hg2 (by have := h4.size; simp; omega) (fun k e => by cases e; omega)) (by simp; omega) _, ?_⟩
            · rw [byteCells_append]
              exact ownsRow_step ho2 ((Step.refl (fun k => k = w1.heap.size) w2).setCell _ _ (.inr rfl)) (fun e => hgs e.symm)
            · refine hh.trans ⟨Nat.le_trans (by simp) (Nat.le_trans hg2.size (by simp)), fun k hk hr => ?_⟩
              obtain ⟨h1, h2⟩ := HNO.out k hr
              exact (Below.heap_setCell w2 _ _ k (fun e => h1 (by simpa using e))).trans ((hg2.block k (by simp; omega) (fun e => h2 (by cases e; rfl))).trans (Below.heap_alloc wr _ k hk))
          by_cases hend : K + 1 = n
          · rw [decide_eq_true hend] at hq2
            gi_wp2_with (gi_at_builtin; refine wpListIn_append_fits _ rfl _ _ 22 rfl w.heap.size 5 i0 1 U.ht hi0 hz1 (w.heap.size + 1) K n _ rfl (Ow.kp' h2 ((Kp.refl _).alloc _)) ⟨wr.heap.size, 0, none⟩ 1 1 [.int .u8 (x.toNat : Int)] rfl rfl (cell_lit1 wr _ _) (by intro u hu; simp at hu; subst hu; rfl) (by omega) ?_; intro w2 ho2 hg2; have hb2 := grown_one ((Kp.refl wr).alloc (.cells #[.int .u8 (x.toNat : Int)] 5)) hg2 h1 (by omega); have hn2' := grown_one ((Kp.refl wr).alloc (.cells #[.int .u8 (x.toNat : Int)] 5)) hg2 h3 (by omega); have cb2 := hb2.cell; have fb2 := hb2.frozen; have cn2 := hn2'.cell)
            obtain ⟨f1, f2, f3, f4, f5⟩ := fin w2 hg2 ho2 hb2 hn2' _ rfl
            rw [HH.out (by have := HK.out; omega)] at f2
            rw [hend] at f1 f2 f4 f5
            exact ⟨f5, .inr ⟨_, rfl, rfl, f1, f2, f4⟩⟩
          · rw [decide_eq_false hend] at hq2
            gi_wp2_with (gi_at_builtin; refine wpListIn_append_fits _ rfl _ _ 22 rfl w.heap.size 5 i0 1 U.ht hi0 hz1 (w.heap.size + 1) K n _ rfl (Ow.kp' h2 ((Kp.refl _).alloc _)) ⟨wr.heap.size, 0, none⟩ 1 1 [.int .u8 (x.toNat : Int)] rfl rfl (cell_lit1 wr _ _) (by intro u hu; simp at hu; subst hu; rfl) (by omega) ?_; intro w2 ho2 hg2; have hb2 := grown_one ((Kp.refl wr).alloc (.cells #[.int .u8 (x.toNat : Int)] 5)) hg2 h1 (by omega); have hn2' := grown_one ((Kp.refl wr).alloc (.cells #[.int .u8 (x.toNat : Int)] 5)) hg2 h3 (by omega); have cb2 := hb2.cell; have fb2 := hb2.frozen; have cn2 := hn2'.cell)
            obtain ⟨f1, f2, f3, f4, f5⟩ := fin w2 hg2 ho2 hb2 hn2' _ rfl
            go_roundw
            case rel => exact ⟨j + 1, by omega, by go_num, by rw [← Nat.add_assoc, HK.out]; exact f1, by rw [← Nat.add_assoc, HK.out, HL.out]; exact f2, f3, f4, f5, by have := HK.out; omega⟩
            case measure => simp [intOf]; omega
        · obtain rfl : j = 32 := by omega
          have hend : catB B i ++ (B i).take 32 = catB B (i + 1) := by rw [catB, List.take_of_length_le (by omega)]
          rw [hend] at h2
          gi_wp2
          exact .inl ⟨h1, h2, h5⟩
    case done =>
      rintro D Y W hD hYD hYb ⟨h1, h2, h3, h4, h5⟩ hd
      omega
    case stop =>
      rintro D c i Y W hD hYD hYb hi ⟨rfl, h1, h2, h4⟩ hd
      have c1 := h1.cell
      clear hb0 ho0 hn0
      go_wp2
      rw [Exit.noGoto_ret]
      have hfl := firstB_length B HB.out n
      have hst : Step (fun k => k = D) W (W.putObj D (.deferred none)) := (Step.refl _ W).putObj _ _ (.inr rfl)
      refine ⟨by simp, .inl ⟨_, _, rfl, run_takeDeferred hd, ?_⟩⟩
      refine ⟨_, results_tmp rfl _ _ _, ⟨_, rfl, ?_⟩, Below.trans h4 (hst.below h4.size (fun k hk => by omega))⟩
      have h3 := ownsRow_step h2 hst (fun e => by omega)
      unfold Ow
      rw [hfl]
      exact h3
end Go.Proofs.YtigpgcjbpoaclaaDoor

/- math.Copath. -/
import Derived.Test.YtcomgbneacbncaaDoorMathPath
import Derived.Test.YtcomgbneacbncaaDoorRefMathF
import Derived.Test.YtcomgbneacbncaaDoorCollect
import Derived.WalkMore
set_option linter.unusedVariables false
set_option linter.unusedSimpArgs false
namespace Go.Proofs.YtcomgbneacbncaaDoor
open Go.RowKit

attribute [local go_sem] Oper.semAt_some

set_option maxRecDepth 100000 in
set_option maxHeartbeats 4000000 in
theorem mathCopath_yes (K j q : Nat) (w : World) (hK : K ≤ 10) (hj : j ≤ K) (hq : q < 2 ^ (K - j)) (hT : Tab w) :
    Calls Tryd.prog 25 #[.int .i64 ((nd j q : Nat) : Int), .int .i64 ((2 ^ K : Nat) : Int)] w fun e w' => (∃ v, e = .returned (.tuple #[v, .int .i64 0]) ∧ RN w' v (copathN K j q)) ∧ Kp w w' := by
  have S := s1ints
  obtain ⟨i0, z0, hi0, hz0, hz1, hz2, hz3⟩ := S.hi
  have hin := (inB_iff ((nd j q : Nat) : Int) ((2 ^ K : Nat) : Int)).2 ⟨K, j, q, hK, rfl, rfl, hj, hq⟩
  have HN := Lib.hid (isNode_any ((nd j q : Nat) : Int) ((2 ^ K : Nat) : Int))
  rw [hin] at HN
  obtain ⟨X, hX⟩ : ∃ X : Int, X = ((nd j q : Nat) : Int) := ⟨_, rfl⟩
  obtain ⟨N, hN⟩ : ∃ N : Int, N = ((2 ^ K : Nat) : Int) := ⟨_, rfl⟩
  rw [← hX, ← hN] at HN ⊢
  have HU := Lib.hid (fun W hTW => up_laid K j q X N W hX hN hK hj hq hTW)
  have HTK : Hid (∀ i, i < K - j → (copathN K j q).take (i + 1) = (copathN K j q).take i ++ [nd (j + i) (sq (q / 2 ^ i))]) := fun i hi => copathN_take K j q i hi
  have HSB : Hid (∀ i W, i < K - j → Calls Tryd.prog 42 #[.int .i64 ((nd (j + i) (q / 2 ^ i) : Nat) : Int), .int .i64 ((nd (j + (i + 1)) (q / 2 ^ (i + 1)) : Nat) : Int)] W fun e w' => e = .returned (.int .i64 ((nd (j + i) (sq (q / 2 ^ i)) : Nat) : Int)) ∧ W = w') := fun i W hi => by
    rw [quot_succ]
    exact sibling_any (j + i) (q / 2 ^ i) W (by omega) (q_big hK (quot_lt hq (by omega)))
  have HE : Hid ((copathN K j q).take (K - j) = copathN K j q) := List.take_of_length_le (by rw [copathN_length]; omega)
  have HLN : Hid (∀ i, ((copathN K j q).take i).length ≤ 1000) := fun i => by rw [List.length_take, copathN_length]; omega
  obtain ⟨f, hf⟩ : ∃ f : Nat → Nat, f = fun i => nd (j + i) (q / 2 ^ i) := ⟨_, rfl⟩
  have hfi : ∀ i, nd (j + i) (q / 2 ^ i) = f i := fun i => by rw [hf]
  obtain ⟨g, hg⟩ : ∃ g : Nat → Nat, g = fun i => nd (j + i) (sq (q / 2 ^ i)) := ⟨_, rfl⟩
  have hgi : ∀ i, nd (j + i) (sq (q / 2 ^ i)) = g i := fun i => by rw [hg]
  simp only [hfi, hgi] at HU HTK HSB
  generalize copathN K j q = PL at *
  generalize K - j = D at *
  clear hX hN hin hq hj hK hf hfi hg hgi
  refine (callsIn_wide (n := 4)).1 ?_
  refine callsIn_of_wp_marks Tryd.func25 rfl trivial ?_ rfl
  refine wpIn_wide.2 ?_
  simp only [Tryd.ntmps25, List.append_toArray, List.size_toArray, List.length_nil, List.length_cons, Nat.reduceAdd, Nat.reduceSub, Array.replicate_succ, Array.replicate_zero, List.push_toArray, List.nil_append, List.cons_append]
  go_wp2_with fail
  refine (HN.out _).mono ?_; rintro _ _ ⟨rfl, rfl⟩
  go_wp2_with fail
  obtain ⟨W1, hW1⟩ : ∃ W1, w.alloc (.cells #[.slice none 0 0] 32) = W1 := ⟨_, rfl⟩
  rw [hW1]
  have hb1 : Boxed W1 w.heap.size 32 (.slice none 0 0) := by rw [← hW1]; exact Boxed.new _ _ _
  have k1 : Kp w W1 := by rw [← hW1]; exact (Kp.refl _).alloc _
  have hs1 : W1.heap.size = w.heap.size + 1 := by rw [← hW1]; simp
  refine (up_any _ _ _).mono ?_; rintro _ W2 ⟨rfl, hW2⟩
  have k2 : Kp W1 W2 := by rw [← hW2]; exact ((Kp.refl _).alloc _).alloc _
  have hs2 : W2.heap.size = W1.heap.size + 2 := by rw [← hW2]; simp
  have hb2 : Boxed W2 w.heap.size 32 (.slice none 0 0) := (k2.block _ hb1.lt).trans hb1
  have HUH := HU.out W1 (hT.kp k1)
  rw [hW2] at HUH
  have kw2 := Below.trans k1 (k2.mono (by omega))
  have htl := hT.lt
  have HUH2 := Lib.hid HUH
  have HS := Lib.hid (And.intro hs1 hs2)
  clear hW1 hW2 hb1 HU k1 k2 HUH HN hs1 hs2
  go_wp2_with fail
  have hE : ∀ args w, (callFunc 49 args).run Tryd.prog w = .ok (.enter 49 args) w := enters_of Tryd.func49 (by kernel_rfl) rfl
  obtain ⟨R, hR⟩ : ∃ R : Nat → Prop, (fun k => k = W1.heap.size ∨ k = W1.heap.size + 1 ∨ k = 1) = R := ⟨_, rfl⟩
  have hRb : ∀ k, R k → w.heap.size < k ∧ k < W2.heap.size ∨ k < w.heap.size := fun k hk => by have := HS.out; rw [← hR] at hk; rcases hk with rfl | rfl | rfl <;> omega
  rw [hR] at HUH2
  clear hR
  refine wp_range_handsA (gf := 49) (lb := #[.pointer (some ⟨W1.heap.size, 0, none⟩), .pointer (some ⟨W1.heap.size + 1, 0, none⟩)]) rfl hE (Kp.refl W2) (fun k hk => by have := hRb k hk; have := HS.out; omega) HUH2.out ?sz
      (fun i Y A => ∃ v, Coll 32 3 w R (PL.take i) Y A v) (fun c i Y A => False) ?mI ?mIx ?TT ?h0
      (fun v a' _ => ∃ x y : Int, v = #[.int .i64 x, .int .i64 y] ∧ a' = { tmps := #[.int .i64 X, .int .i64 N, undef, undef, .slice none 0 0, .int .i64 0, .pointer (some ⟨w.heap.size, 0, none⟩), .int .i64 x, .int .i64 y, .int .i64 X, .int .i64 N, .bool true, .bool false, .int .i64 X, .int .i64 N, .func (.func 49) #[] #[.pointer (some ⟨W1.heap.size, 0, none⟩), .pointer (some ⟨W1.heap.size + 1, 0, none⟩)], .int .i64 x, .int .i64 y, undef, undef, undef, undef, undef, undef, undef], defers := [] })
      (fun _ _ _ _ _ _ h _ _ => h) ?assign ?body ?done ?stop
  case h0 => exact ⟨_, hb2, by rw [List.take_zero]; exact ON.nil _ _ _, (fun g hg => by cases hg), kw2⟩
  case sz => intro i v Y A h; rw [h]; rfl
  case mI => intro i; exact Coll.minds (by have := HS.out; omega)
  case mIx => intro c i Y Y' A A' h; exact h.elim
  case TT => intro i v Yi Y A A' l o h _ _ _ _ _; exact h
  case assign =>
    intro l i Y Yi v A Kk hI hTv hK
    subst hTv
    gi_wp2
    exact hK _ _ (Kp.refl _) ⟨_, _, rfl, rfl⟩
  case body =>
    rintro l i Y v a' A hi ⟨u, hc⟩ hyb hRA hTv ⟨x, y, hxy, rfl⟩
    subst hTv
    simp only [Array.mk.injEq, List.cons.injEq, Value.int.injEq, true_and, and_true] at hxy
    obtain ⟨rfl, rfl⟩ := hxy
    have hcell := hc.box.cell
    have hne0 : ((PL.take i).map iv).length ≤ 1000 := by rw [List.length_map]; exact HLN.out i
    have hAB : w.heap.size < A.heap.size := hc.box.lt
    have hYR : ∀ k, Y k ∨ R k → k ≠ w.heap.size ∧ k < A.heap.size := fun k hk => by
      have := HS.out
      have h3 := hRA.size
      rcases hk with h | h
      · have := hyb k h; omega
      · have := hRb k h; omega
    have HTI := Lib.hid (HTK.out i hi)
    have HY := Lib.hid hYR
    have HC := Lib.hid hc
    clear hYR hyb hRA hc
    have hmx : Tryd.prog.follows .mixedOrders = true := by kernel_rfl
    have HS1 := Lib.hid (fun W => HSB.out i W hi)
    gi_wp2
    have cd : A.drew.cell? ⟨w.heap.size, 0, none⟩ = some u := hcell
    refine region_if (S := fun _ => True) hmx ?_
    refine AnyIf.take 1 (.int .i64 ((f i : Nat) : Int)) rfl (by kernel_rfl) (by kernel_rfl) (by kernel_rfl) (by kernel_rfl) (fun _ _ _ h => h) trivial ⟨fun c e => (by cases e), fun _ => rfl, .inl ⟨rfl, fun W' hW' => ?_⟩⟩ ?_
    · go_simp
    refine AnyIf.take 2 (.int .i64 ((f (i + 1) : Nat) : Int)) rfl (by kernel_rfl) (by kernel_rfl) (by kernel_rfl) (by kernel_rfl) (fun _ _ _ h => h) trivial ⟨fun c e => (by cases e), fun _ => rfl, .inl ⟨rfl, fun W' hW' => ?_⟩⟩ ?_
    · go_simp
    go_simp
    refine AnyIf.two 0 3 rfl rfl (by kernel_rfl) (fun K2 hK => ?_) (fun K2 hK => ?_)
    · go_simp
      refine hK _ _ trivial ?_
      clear hK K2
      refine AnyIf.one 3 rfl (by kernel_rfl) (fun K2 hK => ?_)
      go_simp
      gi_wp2_with (refine ⟨trivial, ?_⟩; gi_at_call 42; refine (CallsIn.inRound l (callsIn_wide.2 (HS1.out _))).mono ?_; rintro _ _ ⟨rfl, rfl⟩)
      refine hK _ _ trivial ?_
      clear hK K2
      refine AnyIf.one 4 rfl (by kernel_rfl) (fun K2 hK => ?_)
      go_simp
      refine hK _ _ trivial ?_
      clear hK K2
      refine AnyIf.one 5 rfl (by kernel_rfl) (fun K2 hK => ?_)
      rw [if_pos (by rfl)]
      refine wpIn_append_collD S ints_box _ _ (g i) rfl HC.out (HLN.out i) HY.out rfl rfl ?_
      intro gv cv w1 cx fz cl hd
      refine hK _ _ trivial ?_
      clear hK K2
      refine AnyIf.one 6 rfl (by kernel_rfl) (fun K2 hK => ?_)
      go_simp
      refine hK _ _ trivial ?_
      clear hK K2
      refine AnyIf.done (by kernel_rfl) ?_
      simp only [List.length_take] at cl hd
      refine ⟨(Held.of_kp (kp_drew8 A)).trans hd, .inl ⟨rfl, .slice (some ⟨gv, 0, none⟩) (min i PL.length + 1) cv, ?_⟩⟩
      rw [HTI.out]
      exact cl
    · go_simp
      gi_wp2_with (refine ⟨trivial, ?_⟩; gi_at_call 42; refine (CallsIn.inRound l (callsIn_wide.2 (HS1.out _))).mono ?_; rintro _ _ ⟨rfl, rfl⟩)
      refine hK _ _ trivial ?_
      clear hK K2
      refine AnyIf.two 0 4 rfl rfl (by kernel_rfl) (fun K2 hK => ?_) (fun K2 hK => ?_)
      · go_simp
        refine hK _ _ trivial ?_
        clear hK K2
        refine AnyIf.one 4 rfl (by kernel_rfl) (fun K2 hK => ?_)
        go_simp
        refine hK _ _ trivial ?_
        clear hK K2
        refine AnyIf.one 5 rfl (by kernel_rfl) (fun K2 hK => ?_)
        rw [if_pos (by rfl)]
        refine wpIn_append_collD S ints_box _ _ (g i) rfl HC.out (HLN.out i) HY.out rfl rfl ?_
        intro gv cv w1 cx fz cl hd
        refine hK _ _ trivial ?_
        clear hK K2
        refine AnyIf.one 6 rfl (by kernel_rfl) (fun K2 hK => ?_)
        go_simp
        refine hK _ _ trivial ?_
        clear hK K2
        refine AnyIf.done (by kernel_rfl) ?_
        simp only [List.length_take] at cl hd
        refine ⟨(Held.of_kp (kp_drew8 A)).trans hd, .inl ⟨rfl, .slice (some ⟨gv, 0, none⟩) (min i PL.length + 1) cv, ?_⟩⟩
        rw [HTI.out]
        exact cl
      · go_simp
        refine hK _ _ trivial ?_
        clear hK K2
        refine AnyIf.one 0 rfl (by kernel_rfl) (fun K2 hK => ?_)
        go_simp
        refine hK _ _ trivial ?_
        clear hK K2
        refine AnyIf.one 5 rfl (by kernel_rfl) (fun K2 hK => ?_)
        rw [if_pos (by rfl)]
        refine wpIn_append_collD S ints_box _ _ (g i) rfl HC.out (HLN.out i) HY.out rfl rfl ?_
        intro gv cv w1 cx fz cl hd
        refine hK _ _ trivial ?_
        clear hK K2
        refine AnyIf.one 6 rfl (by kernel_rfl) (fun K2 hK => ?_)
        go_simp
        refine hK _ _ trivial ?_
        clear hK K2
        refine AnyIf.done (by kernel_rfl) ?_
        simp only [List.length_take] at cl hd
        refine ⟨(Held.of_kp (kp_drew8 A)).trans hd, .inl ⟨rfl, .slice (some ⟨gv, 0, none⟩) (min i PL.length + 1) cv, ?_⟩⟩
        rw [HTI.out]
        exact cl
  case done =>
    rintro D' Y W hD hYD hYb ⟨u, hc⟩ hd
    rename_i Qp Kk hKk
    rw [HE.out] at hc
    obtain ⟨au, nu, cu, rfl⟩ := (ON.rn hc.own).sl
    have c1 := hc.box.cell
    simp only [Exit.inBlock, Exit.then]
    refine hKk _ _ ?_
    go_wp2
    have hst : Step (fun k => k = D') W (W.putObj D' (.deferred none)) := (Step.refl _ W).putObj _ _ (.inr rfl)
    refine ⟨by simp, .inl ⟨_, _, rfl, run_takeDeferred hd, ?_⟩⟩
    refine ⟨_, results_tmp2 rfl _ _ _, ⟨_, rfl, ?_⟩, Below.trans hc.kp (hst.below hc.kp.size (fun k hk => by have := HS.out; omega))⟩
    exact ON.rn (ownsRow_step8 hc.own hst (fun g hg e => by subst e; exact hc.apt g hg (.inl hYD)))
  case stop => intro D' c i Y W hD hYD hYb hi h; exact h.elim
end Go.Proofs.YtcomgbneacbncaaDoor

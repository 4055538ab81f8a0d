/- math.Common. -/
import Derived.Test.YtcomgbneacbncaaDoorMathPath
set_option linter.unusedVariables false
set_option linter.unusedSimpArgs false
namespace Go.Proofs.YtcomgbneacbncaaDoor
open Go.RowKit

attribute [local go_sem] Oper.semAt_some

/-- The box that holds what two leaves have in common so far, and the other leaf's box. -/
structure Meets (T : TypeId) (w0 : World) (x b : Int) (A : World) : Prop where
  bb : Boxed A w0.heap.size T (.int .i64 b)
  bx : Boxed A (w0.heap.size + 1) T (.int .i64 x)
  tab : Tab A
  kp : Kp w0 A
theorem Meets.step {T : TypeId} {w0 : World} {x b : Int} {Y : Nat → Prop} {A A' : World} (h : Meets T w0 x b A) (hT : 1 < w0.heap.size) (hs : Step Y A A') (hY : ∀ k, Y k → w0.heap.size + 2 ≤ k) : Meets T w0 x b A' :=
  ⟨(hs.block _ h.bb.lt (fun e => by have := hY _ e; omega)).trans h.bb, (hs.block _ h.bx.lt (fun e => by have := hY _ e; omega)).trans h.bx, fun i hi => hs.cell (h.tab i hi) (fun e => by have := hY _ e; have : 1 = ((⟨1, i, none⟩ : Addr)).block := rfl; omega), Below.trans h.kp (hs.below h.kp.size (fun k hk => by have := hY k hk; omega))⟩

set_option maxRecDepth 100000 in
set_option maxHeartbeats 4000000 in
theorem mathCommon_yes (K a b : Nat) (w : World) (hK : K ≤ 10) (ha : a < 2 ^ K) (hb : b < 2 ^ K) (hT : Tab w) :
    Calls Tryd.prog 27 #[.int .i64 (a : Int), .int .i64 (b : Int), .int .i64 ((2 ^ K : Nat) : Int)] w fun e w' => e = .returned (.tuple #[.int .i64 ((coN a b : Nat) : Int), .int .i64 0]) ∧ Kp w w' := by
  obtain ⟨f, hf⟩ : ∃ f : Nat → Nat, f = fun i => nd i (a / 2 ^ i) := ⟨_, rfl⟩
  obtain ⟨u1, u2, u3, u4, u5, u6⟩ := upto hK ha hb f hf
  have hmk := (meet_spec hK ha hb).1
  have hp := p2_le hK
  have HL1 := Lib.hid (isLeaf_any (a : Int) ((2 ^ K : Nat) : Int))
  have HL2 := Lib.hid (isLeaf_any (b : Int) ((2 ^ K : Nat) : Int))
  have t1 : (isTB ((2 ^ K : Nat) : Int) && (decide (0 ≤ (a : Int)) && decide ((a : Int) < ((2 ^ K : Nat) : Int)))) = true := by rw [isTB_yes K hK, decide_eq_true (by omega), decide_eq_true (by omega)]; rfl
  have t2 : (isTB ((2 ^ K : Nat) : Int) && (decide (0 ≤ (b : Int)) && decide ((b : Int) < ((2 ^ K : Nat) : Int)))) = true := by rw [isTB_yes K hK, decide_eq_true (by omega), decide_eq_true (by omega)]; rfl
  rw [t1] at HL1
  rw [t2] at HL2
  have i0 : IntKind.i64.wrap (2 * (a : Int)) = ((f 0 : Nat) : Int) := by rw [IntWalk.i64_in _ (by omega)]; omega
  obtain ⟨N, hN⟩ : ∃ N : Int, N = ((2 ^ K : Nat) : Int) := ⟨_, rfl⟩
  have hf0 : f 0 = nd 0 a := by rw [hf]; simp
  have HU := Lib.hid (fun W hTW => up_laid K 0 a ((f 0 : Nat) : Int) N W (by rw [hf0]) hN hK (Nat.zero_le _) (by simpa using ha) hTW)
  rw [← hN] at HL1 HL2 ⊢
  have hfi : ∀ i, nd (0 + i) (a / 2 ^ i) = f i := fun i => by rw [hf, Nat.zero_add]
  simp only [hfi, Nat.sub_zero] at HU
  have HC : Hid (∀ i W, Tab W → Calls Tryd.prog 45 #[.int .i64 ((f i : Nat) : Int), .int .i64 (b : Int)] W fun e w' => e = .returned (.bool (decide (loV ((f i : Nat) : Int) ≤ (b : Int)) && decide ((b : Int) ≤ hiV ((f i : Nat) : Int)))) ∧ W = w') := fun i W hTW => covers_any _ _ W hTW
  have HNO : Hid (∀ i, i < meet a b → (decide (loV ((f i : Nat) : Int) ≤ (b : Int)) && decide ((b : Int) ≤ hiV ((f i : Nat) : Int))) = false) := fun i hi => by
    have := (u4 i hi).1
    rw [Bool.eq_false_iff]
    intro h
    simp only [Bool.and_eq_true, decide_eq_true_eq] at h
    exact this h
  have HYES : Hid ((decide (loV ((f (meet a b) : Nat) : Int) ≤ (b : Int)) && decide ((b : Int) ≤ hiV ((f (meet a b) : Nat) : Int))) = true) := by
    unfold Hid
    rw [decide_eq_true u5, decide_eq_true u6]; rfl
  have U2 := Lib.hid u2
  generalize meet a b = M at *
  generalize coN a b = C at *
  have htl := hT.lt
  clear u1 u2 u3 u4 u5 u6 hf hf0 hfi hN hp ha hb hK t1 t2
  refine (callsIn_wide (n := 4)).1 ?_
  refine callsIn_of_wp_marks Tryd.func27 rfl trivial ?_ rfl
  refine wpIn_wide.2 ?_
  simp only [Tryd.ntmps27, List.append_toArray, List.size_toArray, List.length_nil, List.length_cons, Nat.reduceAdd, Nat.reduceSub, Array.replicate_succ, Array.replicate_zero, List.push_toArray, List.nil_append, List.cons_append]
  go_wp2_with fail
  refine (HL1.out _).mono ?_; rintro _ _ ⟨rfl, rfl⟩
  go_wp2_with fail
  refine (HL2.out _).mono ?_; rintro _ _ ⟨rfl, rfl⟩
  go_wp2_with fail
  obtain ⟨W1, hW1⟩ : ∃ W1, (w.alloc (.cells #[.int .i64 (b : Int)] 3)).alloc (.cells #[.int .i64 ((f 0 : Nat) : Int)] 3) = W1 := ⟨_, rfl⟩
  rw [hW1]
  have hs1 : W1.heap.size = w.heap.size + 2 := by rw [← hW1]; simp
  have k1 : Kp w W1 := by rw [← hW1]; exact ((Kp.refl _).alloc _).alloc _
  have hm1 : Meets 3 w ((f 0 : Nat) : Int) (b : Int) W1 := by
    refine ⟨?_, ?_, hT.kp k1, k1⟩
    · rw [← hW1]; exact (Boxed.new _ _ _).alloc _
    · rw [← hW1]
      have := Boxed.new (w.alloc (.cells #[.int .i64 (b : Int)] 3)) 3 (.int .i64 ((f 0 : Nat) : Int))
      rwa [World.size_alloc] at this
  have HUH := HU.out W1 hm1.tab
  refine (up_any _ _ _).mono ?_; rintro _ W2 ⟨rfl, hW2⟩
  rw [hW2] at HUH
  have k2 : Kp W1 W2 := by rw [← hW2]; exact ((Kp.refl _).alloc _).alloc _
  have hs2 : W2.heap.size = W1.heap.size + 2 := by rw [← hW2]; simp
  have HM2 : Hid (Meets 3 w ((f 0 : Nat) : Int) (b : Int) W2) := hm1.step (Y := fun _ => False) htl (Step.of_kp k2) (fun _ h => h.elim)
  have HUH2 := Lib.hid HUH
  have HS := Lib.hid (And.intro hs1 hs2)
  clear hW1 hW2 HU k1 k2 HUH HL1 HL2 hs1 hs2 hm1
  go_wp2_with fail
  have hE : ∀ args w, (callFunc 49 args).run Tryd.prog w = .ok (.enter 49 args) w := enters_of Tryd.func49 (by kernel_rfl) rfl
  obtain ⟨R, hR⟩ : ∃ R : Nat → Prop, (fun k => k = W1.heap.size ∨ k = W1.heap.size + 1 ∨ k = 1) = R := ⟨_, rfl⟩
  have hRb : ∀ k, R k → w.heap.size + 1 < k ∧ k < W2.heap.size ∨ k < w.heap.size := fun k hk => by have := HS.out; rw [← hR] at hk; rcases hk with rfl | rfl | rfl <;> omega
  rw [hR] at HUH2
  clear hR
  refine wp_range_handsA (gf := 49) (lb := #[.pointer (some ⟨W1.heap.size, 0, none⟩), .pointer (some ⟨W1.heap.size + 1, 0, none⟩)]) rfl hE (Kp.refl W2) (fun k hk => by have := hRb k hk; have := HS.out; omega) HUH2.out ?sz
      (fun i Y A => i ≤ M ∧ Meets 3 w ((f i : Nat) : Int) (b : Int) A) (fun c i Y A => c = .exit 0 ∧ Meets 3 w ((f M : Nat) : Int) (b : Int) A) ?mI ?mIx ?TT ?h0
      (fun v a' _ => ∃ x y : Int, v = #[.int .i64 x, .int .i64 y] ∧ a' = { tmps := #[.int .i64 a, .int .i64 b, .int .i64 N, undef, .pointer (some ⟨w.heap.size, 0, none⟩), undef, .int .i64 0, .int .i64 0, .pointer (some ⟨w.heap.size + 1, 0, none⟩), undef, .int .i64 y, .int .i64 a, .int .i64 N, .bool true, .bool false, .bool false, .int .i64 b, .int .i64 N, .bool true, .bool false, .bool false, .int .i64 a, .int .i64 ((f 0 : Nat) : Int), .int .i64 ((f 0 : Nat) : Int), .int .i64 N, .func (.func 49) #[] #[.pointer (some ⟨W1.heap.size, 0, none⟩), .pointer (some ⟨W1.heap.size + 1, 0, none⟩)], .int .i64 x, .int .i64 y, undef, undef, undef, undef, undef], defers := [] })
      (fun _ _ _ _ _ _ h _ _ => h) ?assign ?body ?done ?stop
  case h0 => exact ⟨Nat.zero_le _, HM2.out⟩
  case sz => intro i v Y A h; rw [h]; rfl
  case mI => rintro i Y Y' A A' ⟨h0, h⟩ hY hs hg; exact ⟨h0, h.step htl hs (fun k hk => by have := hY k hk; have := HS.out; omega)⟩
  case mIx => rintro c i Y Y' A A' ⟨h0, h⟩ hY hs hg; exact ⟨h0, h.step htl hs (fun k hk => by have := hY k hk; have := HS.out; omega)⟩
  case TT => intro i v Yi Y A A' l o h _ _ _ _ _; exact h
  case assign =>
    intro l i Y Yi v A Kk hI hTv hK
    subst hTv
    gi_wp2
    exact hK _ _ (Kp.refl _) ⟨_, _, rfl, rfl⟩
  case body =>
    rintro l i Y v a' A hi ⟨hiM, hc⟩ hyb hRA hTv ⟨x, y, hxy, rfl⟩
    subst hTv
    simp only [Array.mk.injEq, List.cons.injEq, Value.int.injEq, true_and, and_true] at hxy
    obtain ⟨rfl, rfl⟩ := hxy
    have c1 := hc.bx.cell
    have f1 := hc.bx.frozen
    have c2 := hc.bb.cell
    have HCC := Lib.hid (HC.out i A hc.tab)
    have HMM := Lib.hid hc
    have HYR : Hid (∀ k, Y k ∨ R k → k ≠ w.heap.size + 1) := fun k hk => by
      have := HS.out
      rcases hk with h | h
      · have := hyb k h; omega
      · have := hRb k h; omega
    by_cases hlt : i < M
    · have hno := HNO.out i hlt
      rw [hno] at HCC
      have HLT := Lib.hid hlt
      clear hno hc hyb hRA hlt
      gi_wp2_with (refine ⟨trivial, ?_⟩; gi_at_call 45; refine (CallsIn.inRound l (callsIn_wide.2 HCC.out)).mono ?_; rintro _ _ ⟨rfl, rfl⟩)
      have hst : Step (fun k => k = w.heap.size + 1) A (A.setCell ⟨w.heap.size + 1, 0, none⟩ (.int .i64 ((f (i + 1) : Nat) : Int))) := (Step.refl _ A).setCell _ _ (.inr rfl)
      have hm := HMM.out
      refine ⟨Held.of_step hst (fun k hk e => HYR.out k hk e), Or.inl ⟨HLT.out, (hst.block _ hm.bb.lt (by omega)).trans hm.bb, hm.bx.set _, fun i hi => hst.cell (hm.tab i hi) (by show ¬ 1 = _; omega), Below.setCell hm.kp (by simp) _⟩⟩
    · obtain rfl : i = M := by omega
      rw [HYES.out] at HCC
      clear hc hyb hRA hlt
      gi_wp2_with (refine ⟨trivial, ?_⟩; gi_at_call 45; refine (CallsIn.inRound l (callsIn_wide.2 HCC.out)).mono ?_; rintro _ _ ⟨rfl, rfl⟩)
      exact ⟨Held.refl _ _, .inr ⟨_, rfl, rfl, HMM.out⟩⟩
  case done =>
    rintro D' Y W hD hYD hYb ⟨hKM, hc⟩ hd
    rename_i Qp Kk hKk
    obtain rfl : K = M := by omega
    have c1 := hc.bx.cell
    rw [U2.out] at c1
    simp only [Exit.inBlock, Exit.then]
    refine hKk _ _ ?_
    go_wp2
    have hst : Step (fun k => k = D') W (W.putObj D' (.deferred none)) := (Step.refl _ W).putObj _ _ (.inr rfl)
    refine ⟨by simp, .inl ⟨_, _, rfl, run_takeDeferred hd, ?_⟩⟩
    exact ⟨_, results_tmp2 rfl _ _ _, rfl, Below.trans hc.kp (hst.below hc.kp.size (fun k hk => by have := HS.out; omega))⟩
  case stop =>
    rintro D' c i Y W hD hYD hYb hi ⟨rfl, hc⟩ hd
    rename_i Qp Kk hKk
    have c1 := hc.bx.cell
    rw [U2.out] at c1
    go_wp2
    have hst : Step (fun k => k = D') W (W.putObj D' (.deferred none)) := (Step.refl _ W).putObj _ _ (.inr rfl)
    refine ⟨by simp, .inl ⟨_, _, rfl, run_takeDeferred hd, ?_⟩⟩
    exact ⟨_, results_tmp2 rfl _ _ _, rfl, Below.trans hc.kp (hst.below hc.kp.size (fun k hk => by have := HS.out; omega))⟩
end Go.Proofs.YtcomgbneacbncaaDoor

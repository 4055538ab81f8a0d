/- tree.areNamed. -/
import Derived.Test.YtnpobcggadojkaaGreatDoorTreeIt9
import Derived.Test.YtnpobcggadojkaaGreatDoorTreeRow9
import Derived.Test.YtnpobcggadojkaaGreatDoorTreePl9
import Derived.Test.YtnpobcggadojkaaGreatDoorIter9
set_option linter.unusedVariables false
set_option linter.unusedSimpArgs false
namespace Go.Proofs.YtnpobcggadojkaaGreatDoor
open Go.RowKit

attribute [local go_sem] Oper.semAt_some

theorem Kp.grownR {w A B : World} {row : Option Nat} (h : Kp w A) (g : A.grownBy B row) (hr : ∀ r, row = some r → w.heap.size ≤ r) : Kp w B :=
  ⟨g.os.trans h.os, g.tape.trans h.tape, g.output.trans h.output, Nat.le_trans h.size g.size, fun k hk => (g.block k (Nat.lt_of_lt_of_le hk h.size) (fun e => by have := hr k e.symm; omega)).trans (h.block k hk)⟩
/-- The names of the leaves below the root that aren't blank. -/
def namesN (t : List Nod) (K : Nat) : List Nat := (nbL t (2 ^ K * 0) (2 ^ K)).map fun i => (ats t (2 * i)).name.toNat
/-- What a loop over a row's leaves wants, of a row as long as a tree. -/
theorem forAll9 {t : List Nod} {K : Nat} (hK : K ≤ 10) (hl : t.length = 2 ^ (K + 1) - 1) : (((sizeN t : Nat) : Int) - 1 = ((nd K 0 : Nat) : Int)) ∧ 0 < 2 ^ (10 - K) ∧ 2 * (2 ^ K * 0 + 2 ^ K - 1) < t.length ∧ t.length ≤ 100000 := by
  have h1 := nd_root K
  have h2 := p2_pos K
  have h3 := (sizeN_len hK hl).1
  have h4 := p2_le hK
  have h5 := p2_succ K
  exact ⟨by omega, p2_pos _, by omega, by omega⟩
set_option maxRecDepth 100000 in
set_option maxHeartbeats 4000000 in
theorem treeAreNamed_any (u : Value) (t : List Nod) (K : Nat) (w : World) (hu : NL w u t) (hK : K ≤ 10) (hl : t.length = 2 ^ (K + 1) - 1) (hn : ∀ i, (ats t (2 * i)).kind ≠ 0 → 0 ≤ (ats t (2 * i)).name) (hT : Tab w) :
    Calls Tryz.prog 44 #[u] w fun e w' => e = .returned (.bool (decide (namesN t K ≠ [] ∧ (namesN t K).Nodup))) ∧ Kp w w' := by
  have S := s1ints
  obtain ⟨i0, z0, hi0, hz0, hz1, hz2, hz3⟩ := S.hi
  obtain ⟨z1, z3, z4, z6⟩ := forAll9 hK hl
  have HR := Lib.hid (fun W (hW : Kp w W) => treeRoot_any _ t W (hu.kp hW) z6)
  rw [z1] at HR
  obtain ⟨a0, n, c, rfl⟩ := hu.sl
  have hN : n = t.length := by
    obtain ⟨a', c', e, _⟩ := hu.shape
    simp only [Value.slice.injEq] at e
    exact e.2.1
  obtain ⟨gB, off, rfl, hgb, _⟩ := hu.at 0 (by omega)
  have HP := Lib.hid (And.intro hu (And.intro hK (And.intro z3 (And.intro z4 hT))))
  have hln : (nbL t (2 ^ K * 0) (2 ^ K)).length ≤ 1024 := Nat.le_trans nbL_len (p2_le hK)
  obtain ⟨PL, hPL⟩ : ∃ PL, namesN t K = PL := ⟨_, rfl⟩
  have hpl : PL.length = (nbL t (2 ^ K * 0) (2 ^ K)).length := by rw [← hPL]; exact List.length_map ..
  have HTK : Hid (∀ i, i < (nbL t (2 ^ K * 0) (2 ^ K)).length → PL.take (i + 1) = PL.take i ++ [(ats t (2 * (nbL t (2 ^ K * 0) (2 ^ K)).getD i 0)).name.toNat] ∧ (((ats t (2 * (nbL t (2 ^ K * 0) (2 ^ K)).getD i 0)).name.toNat : Nat) : Int) = (ats t (2 * (nbL t (2 ^ K * 0) (2 ^ K)).getD i 0)).name) := fun i hi => by
    have h1 := (nbL_at (t := t) (a := 2 ^ K * 0) (n := 2 ^ K) (i := i) hi).2.2
    have h2 := hn _ h1
    refine ⟨?_, by omega⟩
    rw [List.take_add_one, ← hPL]
    congr 1
    unfold namesN
    rw [List.getElem?_map, List.getElem?_eq_getElem hi, List.getD_eq_getElem?_getD, List.getElem?_eq_getElem hi]
    rfl
  have HFULL : Hid (PL.take (nbL t (2 ^ K * 0) (2 ^ K)).length = PL) := List.take_of_length_le (by omega)
  have hPLL : PL.length ≤ 1024 := by omega
  have HNT : Hid (∀ i, ((PL.take i).map iv).length ≤ 1024) := fun i => by rw [List.length_map, List.length_take]; omega
  have hNE : PL ≠ [] ↔ 0 < PL.length := List.length_pos_iff.symm
  have hND : (Lib.compact ((PL.map fun (n : Nat) => (n : Int)).mergeSort)).length = PL.length ↔ PL.Nodup := by
    have h := compact_len (PL.map fun (n : Nat) => (n : Int))
    rw [List.length_map] at h
    refine h.trans ?_
    rw [List.nodup_iff_pairwise_ne, List.nodup_iff_pairwise_ne, List.pairwise_map]
    exact ⟨fun h => h.imp fun hab e => hab (by rw [e]), fun h => h.imp fun hab e => hab (by omega)⟩
  rw [hPL]
  obtain ⟨LL, hLL⟩ : ∃ LL, nbL t (2 ^ K * 0) (2 ^ K) = LL := ⟨_, rfl⟩
  rw [hLL] at HTK HFULL
  have HLL := Lib.hid hLL
  obtain ⟨BO, hBO⟩ : ∃ BO : Bool, BO = decide (PL ≠ [] ∧ PL.Nodup) := ⟨_, rfl⟩
  rw [← hBO]
  have HB1 : Hid (PL.length = 0 → BO = false) := fun h => by rw [hBO]; exact decide_eq_false fun h2 => by have := hNE.1 h2.1; omega
  have HB2 : Hid (0 < PL.length → BO = decide ((Lib.compact ((PL.map fun (n : Nat) => (n : Int)).mergeSort)).length = PL.length)) := fun h => by
    rw [hBO]
    exact decide_eq_decide.2 ⟨fun h2 => hND.2 h2.2, fun h2 => ⟨hNE.2 h, hND.1 h2⟩⟩
  have HPLL := Lib.hid hPLL
  have hgb2 := Lib.hid hgb
  clear hu hK hT z1 z3 z4 z6 hln hLL hBO hNE hND hPL hpl hPLL hN hn hl hgb
  refine (callsIn_wide (n := 4)).1 ?_
  refine callsIn_of_wp_marks Tryz.func44 rfl trivial ?_ rfl
  refine wpIn_wide.2 ?_
  simp only [Tryz.ntmps44, List.append_toArray, List.size_toArray, List.length_nil, List.length_cons, Nat.reduceAdd, Nat.reduceSub, Array.replicate_succ, Array.replicate_zero, List.push_toArray, List.nil_append, List.cons_append]
  go_wp2_with fail
  obtain ⟨W1, hW1⟩ : ∃ W1, w.alloc (.cells #[.slice none 0 0] 38) = W1 := ⟨_, rfl⟩
  rw [hW1]
  have hs1 : W1.heap.size = w.heap.size + 1 := by rw [← hW1]; simp
  have k1 : Kp w W1 := by rw [← hW1]; exact (Kp.refl _).alloc _
  have hb1 : Boxed W1 w.heap.size 38 (.slice none 0 0) := by rw [← hW1]; exact Boxed.new _ _ _
  refine (HR.out _ k1).mono ?_; rintro _ _ ⟨rfl, rfl⟩
  go_wp2_with fail
  refine (treeLeaves_any _ _ _ _ _).mono ?_; rintro _ W2 ⟨rfl, hW2⟩
  have k2 : Kp W1 W2 := by rw [← hW2]; exact ((Kp.refl _).alloc _).alloc _
  have hs2 : W2.heap.size = W1.heap.size + 2 := by rw [← hW2]; simp
  have hb2 : Boxed W2 w.heap.size 38 (.slice none 0 0) := (k2.block _ hb1.lt).trans hb1
  have hLH := leaves_hands t K 0 (W1.heap.size + 1) W1.heap.size gB off n c W2 HP.out.2.1 HP.out.2.2.1 HP.out.2.2.2.1 ((HP.out.1.kp k1).kp k2)
    (by
      have := (Boxed.new (W1.alloc (.cells #[.slice (some ⟨gB, off, none⟩) n c] 22)) 3 (.int .i64 ((nd K 0 : Nat) : Int))).cell
      rw [World.size_alloc] at this
      rw [← hW2]
      exact this)
    (by rw [← hW2]; exact ((Boxed.new W1 22 (.slice (some ⟨gB, off, none⟩) n c)).alloc _).cell) ((HP.out.2.2.2.2.kp k1).kp k2)
  have kw2 : Kp w W2 := k1.trans k2
  have htl := HP.out.2.2.2.2.lt
  have HLH := Lib.hid hLH
  have HS := Lib.hid (And.intro hs1 hs2)
  clear hW1 hW2 hb1 k1 k2 hLH hs1 hs2
  go_wp2_with fail
  obtain ⟨R, hR⟩ : ∃ R : Nat → Prop, (fun k => k = W1.heap.size + 1 ∨ k = W1.heap.size ∨ k = gB ∨ k = 1) = R := ⟨_, rfl⟩
  have hRb : ∀ k, R k → w.heap.size < k ∧ k < W2.heap.size ∨ k < w.heap.size := fun k hk => by
    have := HS.out
    have := hgb2.out
    rw [← hR] at hk
    rcases hk with rfl | rfl | rfl | rfl <;> omega
  rw [hR] at HLH
  clear hR
  refine wp_range_handsA (gf := 80) (lb := #[.pointer (some ⟨W1.heap.size + 1, 0, none⟩), .pointer (some ⟨W1.heap.size, 0, none⟩)]) rfl leaves_e (Kp.refl W2) (fun k hk => by have := hRb k hk; have := HS.out; omega) HLH.out ?sz
      (fun i Y A => ∃ v, Coll 38 3 w R (PL.take i) Y A v) (fun c i Y A => False) ?mI ?mIx ?TT ?h0
      (fun v a' A => ∃ (y z p u h : Value) (kd nm : Int) (B : Nat), v = #[y, .agg #[.int .i64 kd, .int .i64 nm, p, u, h]] ∧ a' = { tmps := #[.slice (some ⟨gB, off, none⟩) n c, undef, .bool false, .pointer (some ⟨w.heap.size, 0, none⟩), undef, .pointer (some ⟨B, 0, none⟩), undef, .slice (some ⟨gB, off, none⟩) n c, .slice (some ⟨gB, off, none⟩) n c, .int .i64 ((nd K 0 : Nat) : Int), .func (.func 80) #[] #[.pointer (some ⟨W1.heap.size + 1, 0, none⟩), .pointer (some ⟨W1.heap.size, 0, none⟩)], y, z, undef, undef, undef, undef, undef, undef, undef, undef, undef, undef, undef, undef, undef, undef, undef, undef, undef, undef], defers := [] } ∧ Bx A B 57 #[.int .i64 kd, .int .i64 nm, p, u, h])
      (fun v a' A l o o' h _ hl => by obtain ⟨y, z, p, u, h, kd, nm, B, h1, h2, h3⟩ := h; exact ⟨y, z, p, u, h, kd, nm, B, h1, h2, h3.putLoop hl⟩) ?assign ?body ?done ?stop
  case h0 => exact ⟨_, hb2, by rw [List.take_zero]; exact ON.nil _ _ _, (fun g hg => by cases hg), kw2⟩
  case sz => intro i v Y A h; obtain ⟨p, u, h, rfl, _⟩ := h; rfl
  case mI => intro i; exact Coll.minds (by have := HS.out; omega)
  case mIx => intro c i Y Y' A A' h; exact h.elim
  case TT => intro i v Yi Y A A' l o h _ _ _ _ _; exact h
  case assign =>
    intro l i Y Yi v A Kk hI hTv hK
    obtain ⟨p, u, h, rfl, ⟨pa, pn, pc, rfl⟩, ⟨ua, un, uc, rfl⟩, ⟨ha, hn, hc, rfl⟩⟩ := hTv
    generalize ((nbL t (2 ^ K * 0) (2 ^ K)).getD i 0) = Y at *
    generalize (ats t (2 * Y)).kind = KD at *
    generalize (ats t (2 * Y)).name = NM at *
    clear hI
    gi_wp2
    exact hK _ _ ((Kp.refl _).alloc _) ⟨_, _, _, _, _, KD, NM, _, rfl, rfl, Bx.new _ _ _⟩
  case body =>
    rintro l i Y v a' A hi ⟨uu, hc⟩ hyb hRA hTv ⟨y, z, p, u, h, kd, nm, B, hv2, rfl, hbx⟩
    obtain ⟨p', u', h', hv, _⟩ := hTv.un HLL.out
    rw [hv] at hv2
    simp only [Array.mk.injEq, List.cons.injEq, and_true, Value.agg.injEq, Value.int.injEq, true_and] at hv2
    obtain ⟨rfl, rfl, rfl, rfl, rfl, rfl⟩ := hv2
    rw [HLL.out] at hi
    obtain ⟨ht1, ht2⟩ := HTK.out i hi
    rw [← ht2] at hbx
    generalize (ats t (2 * LL.getD i 0)).name.toNat = F at *
    have d1 := hbx.cell 1
    have hcell := hc.box.cell
    have hne0 := HNT.out i
    have hAB : w.heap.size < A.heap.size := hc.box.lt
    have hYR : ∀ k, Y k ∨ R k → k ≠ w.heap.size ∧ k < A.heap.size := fun k hk => by
      have := HS.out
      have h3 := hRA.size
      rcases hk with h | h
      · have := hyb k h; omega
      · have := hRb k h; omega
    have HTI := Lib.hid ht1
    have HY := Lib.hid hYR
    have HC := Lib.hid hc
    generalize (ats t (2 * LL.getD i 0)).kind = KD at *
    clear hYR hyb hRA hc hbx ht1 ht2 hv
    gi_wp2_with (gi_at_builtin; refine wpListIn_append_own_at _ rfl _ _ 38 rfl w.heap.size 3 i0 z0 1 i0.bytes S.ht hi0 hz0 hz1 rfl hz3 (by decide) uu _ ((PL.take i).map iv) rfl (ON.kp HC.out.own ((Kp.refl _).alloc _)) ⟨A.heap.size, 0, none⟩ 1 1 [iv F] rfl rfl (cell_one_new A _ _) (by intro u hu; simp at hu; subst hu; rfl) (by unfold maxLen; omega) (by have := Nat.mul_le_mul (show ((PL.take i).map iv).length + 1 ≤ 1025 by omega) hz2; omega) (by simp; omega) ?_; intro v' w1 ho1 hg1 _ hat; obtain ⟨gv, cv, rfl⟩ := ownsRow_succ ho1; obtain ⟨cx, fz, cl, hd⟩ := Coll.next ints_box HC.out hAB HY.out (x := F) (by unfold ON; rw [List.map_append, List.length_append]; exact ho1) hg1 hat)
    simp only [List.length_map, List.length_take] at cl hd
    rw [HTI.out]
    exact ⟨hd, _, cl⟩
  case done =>
    rintro D' Y W hD hYD hYb ⟨uu, hc⟩ hd
    rename_i Qp Kk hKk
    rw [HLL.out, HFULL.out] at hc
    have HSO := Lib.hid (sort9_any _ _ _ W hc.own.oi (by rw [List.length_map]; have := HPLL.out; omega))
    have HCO := fun w' h => compact9_any uu ((PL.map fun (n : Nat) => (n : Int)).mergeSort fun x y => decide (x ≤ y)) w.heap.size w' h (by rw [List.length_mergeSort, List.length_map]; have := HPLL.out; omega)
    have HCO := Lib.hid HCO
    have hob : some w.heap.size ≠ uu.ownBlock := hc.box.not_row ints_box hc.own
    have hDY : some D' ≠ uu.ownBlock := fun e => hc.apt D' e.symm (.inl hYD)
    have hge : ∀ r, uu.ownBlock = some r → w.heap.size ≤ r := ON.own_ge hc.own
    have hBW := hc.box
    have hKW := hc.kp
    have hDl : D' < W.heap.size := (Array.getElem?_eq_some_iff.1 hd).1
    obtain ⟨au, cu, rfl, hle, hmx⟩ := (ON.rn hc.own).shape
    obtain ⟨NN, hNN⟩ : ∃ NN, PL.length = NN := ⟨_, rfl⟩
    have hNb : NN ≤ 1024 := by rw [← hNN]; exact HPLL.out
    rw [hNN] at HB1 HB2 hob hDY hge HSO HCO hBW
    have c1 := hBW.cell
    have HD := Lib.hid (And.intro hob (And.intro hDY (And.intro hge (And.intro hBW (And.intro hKW (And.intro hd hDl))))))
    clear hob hDY hge hBW hKW hc hd hDl HTK HFULL HNT HR HLH HP hRb htl hb2 kw2 hle hmx
    obtain ⟨LP, hLP⟩ : ∃ LP : List Int, (PL.map fun (n : Nat) => (n : Int)).mergeSort (fun x y => decide (x ≤ y)) = LP := ⟨_, rfl⟩
    have HB2 := HB2
    rw [hLP] at HSO HCO HB2
    obtain ⟨CL, hCL⟩ : ∃ CL : Nat, (Lib.compact LP).length = CL := ⟨_, rfl⟩
    rw [hCL] at HCO HB2
    clear hLP hCL hNN
    simp only [Exit.inBlock, Exit.then]
    refine hKk _ _ ?_
    go_wp2_with fail
    refine HSO.out.mono ?_
    rintro _ W3 ⟨rfl, o3, g3⟩
    have hB3 := HD.out.2.2.2.1.kept g3 HD.out.1
    have hd3 := (g3.block D' HD.out.2.2.2.2.2.2 HD.out.2.1).trans HD.out.2.2.2.2.2.1
    have k3 := HD.out.2.2.2.2.1.grownR g3 HD.out.2.2.1
    have c3 := hB3.cell
    have H3 := Lib.hid (And.intro o3 (And.intro hd3 k3))
    clear hB3 hd3 k3 o3 g3 c1
    by_cases hz : NN = 0
    · subst hz
      have HBO := Lib.hid (HB1.out rfl)
      clear HB1 HB2 HCO
      go_wp2_with fail
      have hst : Step (fun k => k = D') W3 (W3.putObj D' (.deferred none)) := (Step.refl _ W3).putObj _ _ (.inr rfl)
      refine ⟨by simp, .inl ⟨_, _, rfl, run_takeDeferred H3.out.2.1, ?_⟩⟩
      exact ⟨_, results_tmp rfl _ _ _, by rw [HBO.out] <;> rfl, Below.trans H3.out.2.2 (hst.below H3.out.2.2.size (fun k hk => by have := HS.out; omega))⟩
    · have hpos : (0 : Int) < (NN : Int) := by omega
      have HBO := Lib.hid (HB2.out (by omega))
      clear HB1 HB2
      go_wp2_with fail
      refine (HCO.out _ H3.out.1).mono ?_
      rintro _ W4 ⟨⟨a4, c4, rfl⟩, g4⟩
      have H4 := Lib.hid (And.intro ((g4.block D' (Array.getElem?_eq_some_iff.1 H3.out.2.1).1 HD.out.2.1).trans H3.out.2.1) (H3.out.2.2.grownR g4 HD.out.2.2.1))
      have hcl : (((CL : Nat) : Int) == (NN : Int)) = BO := by
        rw [HBO.out]
        by_cases h : CL = NN
        · rw [h, decide_eq_true rfl]; exact beq_self_eq_true _
        · rw [decide_eq_false h]; exact beq_eq_false_iff_ne.2 (by omega)
      clear g4
      go_wp2_with fail
      have hst : Step (fun k => k = D') W4 (W4.putObj D' (.deferred none)) := (Step.refl _ W4).putObj _ _ (.inr rfl)
      refine ⟨by simp, .inl ⟨_, _, rfl, run_takeDeferred H4.out.1, ?_⟩⟩
      exact ⟨_, results_tmp rfl _ _ _, by first | rfl | (rw [← hcl]; rfl), Below.trans H4.out.2 (hst.below H4.out.2.size (fun k hk => by have := HS.out; omega))⟩
  case stop => intro D' c i Y W hD hYD hYb hi h; exact h.elim
end Go.Proofs.YtnpobcggadojkaaGreatDoor

/- hash.counted. -/
import Derived.Test.YtobldbodafaajaaGreatDoorHashA10
import Derived.Test.YtobldbodafaajaaGreatDoorTreeRow10
set_option linter.unusedVariables false
set_option linter.unusedSimpArgs false
namespace Go.Proofs.YtobldbodafaajaaGreatDoor
open Go.RowKit

theorem filter_take_succH (l : List Int) (g : List Int) (i : Nat) (h : i < l.length) :
    (l.take (i + 1)).filter (fun i => decide (i ∉ g)) = (l.take i).filter (fun i => decide (i ∉ g)) ++ (if l.getD i 0 ∈ g then [] else [l.getD i 0]) := by
  rw [List.take_add_one, List.getElem?_eq_getElem h, List.filter_append, List.getD_eq_getElem?_getD, List.getElem?_eq_getElem h]
  simp only [Option.toList_some, Option.getD_some]
  by_cases hx : l[i] ∈ g
  · rw [if_pos hx]; simp [hx]
  · rw [if_neg hx]; simp [hx]
theorem mem_twice (g : List Int) (i : Int) : 2 * i ∈ g.map (2 * ·) ↔ i ∈ g := by
  constructor
  · intro h
    obtain ⟨j, hj, e⟩ := List.mem_map.1 h
    have : j = i := by omega
    exact this ▸ hj
  · exact fun h => List.mem_map.2 ⟨i, h, rfl⟩
set_option maxRecDepth 100000 in
set_option maxHeartbeats 3000000 in
theorem counted_any (v vc : Value) (n : Nod) (x : Int) (g : List Int) (w : World) (hv : NV w v n) (hn : TidyN n) (hc : Cnt w vc g) (hx : 0 ≤ x ∧ x ≤ 1000000) :
    Calls Tryz.prog 64 #[v, .int .i64 x, vc] w fun e w' => (∃ r, e = .returned r ∧ NV w' r (if x ∈ g.map (2 * ·) then blankN else lessN n g)) ∧ Kp w w' := by
  have S := s1ints
  obtain ⟨cb, rfl, hcl⟩ := hc.call
  have HCL := Lib.hid hcl
  obtain ⟨p, u, h, rfl, ip, iu, ih⟩ := hv
  have HIN := Lib.hid (And.intro ip (And.intro iu ih))
  obtain ⟨ap, np, cp, rfl⟩ := rd_slH ip
  obtain ⟨ah, nh, ch, rfl⟩ := rd_slH ih
  obtain ⟨au, cu, rfl, pu, _⟩ := iu.shape
  simp only [nodC]
  have hun := hn.un
  have hunl := hn.unl
  obtain ⟨WB, hWB⟩ : ∃ WB, (w.alloc (.cells #[.int .i64 n.kind, .int .i64 n.name, .slice ap np cp, .slice au n.un.length cu, .slice ah nh ch] 37)).alloc (.cells #[.int .i64 0, .int .i64 0, .slice none 0 0, .slice none 0 0, .slice none 0 0] 37) = WB := ⟨_, rfl⟩
  have HWB := Lib.hid hWB
  have hb1 : Bx WB w.heap.size 37 #[.int .i64 n.kind, .int .i64 n.name, .slice ap np cp, .slice au n.un.length cu, .slice ah nh ch] := by rw [← hWB]; exact (Bx.new _ _ _).kp ((Kp.refl _).alloc _)
  have hb2 : Bx WB (w.heap.size + 1) 37 #[.int .i64 0, .int .i64 0, .slice none 0 0, .slice none 0 0, .slice none 0 0] := by
    rw [← hWB]
    have := Bx.new (w.alloc (.cells #[.int .i64 n.kind, .int .i64 n.name, .slice ap np cp, .slice au n.un.length cu, .slice ah nh ch] 37)) 37 #[.int .i64 0, .int .i64 0, .slice none 0 0, .slice none 0 0, .slice none 0 0]
    rwa [World.size_alloc] at this
  have hkw : Kp w WB := by rw [← hWB]; exact ((Kp.refl _).alloc _).alloc _
  have hsz : WB.heap.size = w.heap.size + 2 := by rw [← hWB]; simp
  have HB1 := Lib.hid hb1
  have HB2 := Lib.hid hb2
  have HZ := Lib.hid (And.intro hkw hsz)
  clear hWB hb1 hb2 hkw hsz hc hcl ip ih hn
  by_cases hin : x ∈ g.map (2 * ·)
  · rw [if_pos hin]
    have hcx := Lib.hid (HCL.out x WB HZ.out.1 (by omega))
    rw [decide_eq_true hin] at hcx
    clear hin hx HCL HIN iu hun hunl
    go_enter Tryz.func64, Tryz.ntmps64
    go_wp2_with fail
    rw [HWB.out]
    refine hcx.out.mono ?_; rintro _ w2 ⟨rfl, k2⟩
    have HB := Lib.hid (HB2.out.kp k2)
    have HK2 := Lib.hid (HZ.out.1.trans k2)
    have HTH := Lib.hid (HB.out.there)
    have hone := nodC_one (n := blankN) (NIn.mk (rd_nil9 w2) (RI.nil w2) (rd_nil9 w2))
    clear k2 hcx HB1 HB2 HWB
    go_wp2_with (refine wpList_store_five9 rfl rfl 37 (.tmp 6) (.tmp 14) rfl (w.heap.size + 1) 0 [.int .i64 0, .int .i64 0, .slice none 0 0, .slice none 0 0, .slice none 0 0] rfl rfl rfl hone HTH.out infoNode5 ?_; intro W3 hW3)
    have hb3 : Bx W3 (w.heap.size + 1) 37 #[.int .i64 0, .int .i64 0, .slice none 0 0, .slice none 0 0, .slice none 0 0] := by rw [hW3]; exact HB.out.fill #[.int .i64 0, .int .i64 0, .slice none 0 0, .slice none 0 0, .slice none 0 0] rfl
    have hk3 : Kp w W3 := by rw [hW3]; exact HK2.out.setCells (by omega) _ _
    refine bodyPost_ret (results_cell_row rfl _ _ (w.heap.size + 1) _ _ (0, 0) _ rfl hb3 Tryz.underlying37 rfl infoNode5) rfl ?_
    exact ⟨⟨_, rfl, NV.blank _⟩, hk3⟩
  · rw [if_neg hin]
    have hcx := Lib.hid (HCL.out x WB HZ.out.1 (by omega))
    rw [decide_eq_false hin] at hcx
    obtain ⟨UL, hUL⟩ : ∃ UL, n.un.length = UL := ⟨_, rfl⟩
    have HFT := Lib.hid (filter_take_succH n.un g)
    obtain ⟨F, hF⟩ : ∃ F : Nat → List Int, F = fun i => (n.un.take i).filter (fun i => decide (i ∉ g)) := ⟨_, rfl⟩
    have hFi : ∀ i, (n.un.take i).filter (fun i => decide (i ∉ g)) = F i := fun i => by rw [hF]
    have HFE : Hid (lessN n g = ⟨n.kind, n.name, n.pub, F UL, n.hash⟩) := by
      unfold Hid lessN
      rw [hF, ← hUL]
      simp only [List.take_length]
    have HFL : Hid (∀ i, (F i).length ≤ 100) := fun i => by rw [hF]; exact Nat.le_trans (List.length_filter_le _ _) (by rw [List.length_take]; omega)
    have HF0 : Hid (F 0 = []) := by rw [hF]; rfl
    have HUB : Hid (∀ i, i < UL → 0 ≤ n.un.getD i 0 ∧ n.un.getD i 0 ≤ 1023) := fun i hi => by
      have hm : n.un.getD i 0 ∈ n.un := by rw [List.getD_eq_getElem?_getD, List.getElem?_eq_getElem (by omega)]; exact List.getElem_mem _
      exact hun _ hm
    have HUN : Hid (∀ W, Kp w W → RI W (.slice au UL cu) n.un) := fun W hW => by rw [← hUL]; exact iu.kp hW
    rw [HFE.out]
    rw [hUL] at HWB HB1 HFT hunl pu HIN ⊢
    simp only [hFi] at HFT
    have HMT := Lib.hid (mem_twice g)
    clear hin hx iu hun hUL hF hFi HFE
    go_enter Tryz.func64, Tryz.ntmps64
    go_wp2_with fail
    rw [HWB.out]
    refine hcx.out.mono ?_; rintro _ w2 ⟨rfl, k2⟩
    have K2 := Lib.hid k2
    have c3 := (HB1.out.kp k2).cell 3
    simp only [List.getElem?_toArray, List.getElem?_cons_zero, List.getElem?_cons_succ] at c3
    clear k2 hcx HWB
    go_wp2_with fail
    clear c3
    go_loopw [7, 18] (fun v x wr => ∃ i : Nat, i ≤ UL ∧ x = .int .i64 (i : Int) ∧ OI 3 wr WB.heap.size v (F i) ∧ Kp WB wr) (fun _ x _ => (UL - (intOf x).toNat))
    case atStart => exact ⟨0, Nat.zero_le _, rfl, by rw [HF0.out]; exact OI.nil _ _ _, K2.out⟩
    case round =>
      obtain ⟨i, hi, rfl, ho, hkp⟩ := hrel
      have KR := Lib.hid hkp
      have HO := Lib.hid ho
      by_cases hlt : i < UL
      · obtain ⟨gu, ou, rfl, _, hcu⟩ := (HUN.out _ (HZ.out.1.trans hkp)).at i hlt
        have cu2 := hcu i hlt
        have i1 : IntKind.i64.wrap ((i : Int) + 1) = (i : Int) + 1 := IntWalk.i64_in _ (by omega)
        have i3 : (i : Int) < (UL : Int) := by omega
        have HFTi := Lib.hid (HFT.out i (by have := HUN.out _ (Kp.refl _); obtain ⟨_, _, e, _⟩ := this.shape; simp only [Value.slice.injEq] at e; omega))
        have hub := HUB.out i hlt
        have HFLi := HFL.out i
        generalize n.un.getD i 0 = Y at *
        have i2 : IntKind.i64.wrap (2 * Y) = 2 * Y := IntWalk.i64_in _ (by omega)
        have hcy := Lib.hid (HCL.out (2 * Y) wr (HZ.out.1.trans hkp) (by omega))
        have hmt := HMT.out Y
        clear hcu hkp ho HFT HUN HFL HF0 HUB HCL HMT
        by_cases hy : Y ∈ g
        · rw [decide_eq_true (hmt.2 hy)] at hcy
          rw [if_pos hy, List.append_nil] at HFTi
          clear hy hmt
          go_wp2_with fail
          refine hcy.out.mono ?_; rintro _ w3 ⟨rfl, k3⟩
          have KE := Lib.hid (And.intro (HO.out.kp k3) (KR.out.trans k3))
          clear k3 hcy HO KR
          go_wp2_with fail
          go_roundw
          case rel => exact ⟨i + 1, by omega, by go_num, by rw [HFTi.out]; exact KE.out.1, KE.out.2⟩
          case measure => simp [intOf]; omega
        · rw [decide_eq_false (fun h => hy (hmt.1 h))] at hcy
          rw [if_neg hy] at HFTi
          clear hy hmt
          go_wp2_with fail
          refine hcy.out.mono ?_; rintro _ w3 ⟨rfl, k3⟩
          have KE := Lib.hid (And.intro (HO.out.kp (k3.alloc (.cells #[.int .i64 Y] 3))) (KR.out.trans (k3.alloc (.cells #[.int .i64 Y] 3))))
          clear k3 hcy HO KR
          go_wp2_with (at_builtin; refine wpList_append_i S rfl _ _ rfl WB.heap.size _ (F i) rfl KE.out.1 _ [Y] rfl (RI.lit w3 3 #[.int .i64 Y] [Y] 1 rfl (by omega) rfl).ri (by simp; omega) KE.out.2.size ?_; intro v9 w9 o9 g9; have K9 := Lib.hid (Kp.grown KE.out.2 g9 (fun k hk => (OI.lt KE.out.1 k hk).1)))
          go_roundw
          case rel => exact ⟨i + 1, by omega, by go_num, by rw [HFTi.out]; exact o9, K9.out⟩
          case measure => simp [intOf]; omega
      · obtain rfl : i = UL := by omega
        have hle : ¬ (i : Int) < (i : Int) := by omega
        obtain ⟨av, nv, cv, rfl⟩ := ho.ri.sl
        obtain ⟨hz1, hz2⟩ := HZ.out
        have HBW := Lib.hid (HB1.out.kp hkp)
        have HBV := Lib.hid (HB2.out.kp hkp)
        have HKW := Lib.hid (hz1.trans hkp)
        have HTH : Hid (wr.there w.heap.size 3 1) := fun j hj => by have := HBW.out.there (3 + j) (by simp; omega); rwa [Nat.zero_add] at this
        clear hkp ho HFT HUN HFL HF0 HUB HCL HMT HB1 HB2 KR hi hlt K2
        have hbv4 : ∀ W4, W4 = wr.setCells w.heap.size 3 [.slice av nv cv] → Bx W4 w.heap.size 37 #[.int .i64 n.kind, .int .i64 n.name, .slice ap np cp, .slice av nv cv, .slice ah nh ch] ∧ Bx W4 (w.heap.size + 1) 37 #[.int .i64 0, .int .i64 0, .slice none 0 0, .slice none 0 0, .slice none 0 0] ∧ RI W4 (.slice av nv cv) (F i) ∧ (Kp w W4 ∧ ∀ g', (Value.slice av nv cv).ownBlock = some g' → w.heap.size + 2 ≤ g') := fun W4 e => by
          have hgr := grown_set9 wr w.heap.size 0 [.slice av nv cv] 3
          have hlt : ∀ g', (Value.slice av nv cv).ownBlock = some g' → w.heap.size + 2 ≤ g' := fun g' hg' => by have := (OI.lt HO.out g' hg').1; omega
          rw [e]
          exact ⟨HBW.out.set 3 (.slice av nv cv), HBV.out.grown hgr (by simp), (HO.out.grown9 hgr (fun g' hg' e => by have := hlt g' hg'; simp at e; omega)).ri, HKW.out.setCells (Nat.le_refl _) _ _, hlt⟩
        have HB4 := Lib.hid hbv4
        clear hbv4
        go_wp2_with (first
          | (refine wpList_store_cell9 rfl rfl 35 (.tmp 32) (.tmp 31) rfl w.heap.size 3 (.slice av nv cv) rfl rfl rfl HTH.out size1_ints ?_; intro W4 hW4; obtain ⟨hb4, hv4, hr4, hk4, hl4⟩ := HB4.out W4 hW4; have c0 := hb4.cell 0; have c1 := hb4.cell 1; have c2 := hb4.cell 2; have c3 := hb4.cell 3; have c4 := hb4.cell 4; simp only [List.getElem?_toArray, List.getElem?_cons_zero, List.getElem?_cons_succ] at c0 c1 c2 c3 c4; have HV4 := Lib.hid hv4; have HR4 := Lib.hid hr4; have HK4 := Lib.hid hk4; have HL4 := Lib.hid hl4; have HTH4 := Lib.hid hv4.there; clear hW4 hb4 hv4 hr4 hk4 hl4)
          | (refine wpList_store_five9 rfl rfl 37 (.tmp 6) (.tmp 33) rfl (w.heap.size + 1) 0 [.int .i64 n.kind, .int .i64 n.name, .slice ap np cp, .slice av nv cv, .slice ah nh ch] rfl rfl rfl (by intro z hz; simp only [List.mem_cons, List.not_mem_nil, or_false] at hz; rcases hz with rfl | rfl | rfl | rfl | rfl <;> rfl) HTH4.out infoNode5 ?_; intro W5 hW5))
        subst hW5
        have hb5 := HV4.out.fill #[.int .i64 n.kind, .int .i64 n.name, .slice ap np cp, .slice av nv cv, .slice ah nh ch] rfl
        have hk5 := HK4.out.setCells (b := w.heap.size + 1) (by omega) [.int .i64 n.kind, .int .i64 n.name, .slice ap np cp, .slice av nv cv, .slice ah nh ch] 0
        have hap : Apart (.slice (some ⟨w.heap.size + 1, 0, none⟩) 0 0) (.slice av nv cv) := fun g' hg' y n c e h0 he => by
          have h2 : g' = w.heap.size + 1 := by cases hg'; rfl
          have h3 := HL4.out y.block (by rw [e]; rfl)
          omega
        have hr5 := HR4.out.grown9 (v := .slice (some ⟨w.heap.size + 1, 0, none⟩) 0 0) (grown_set9 W4 (w.heap.size + 1) 0 [.int .i64 n.kind, .int .i64 n.name, .slice ap np cp, .slice av nv cv, .slice ah nh ch] 0) hap
        refine bodyPost_ret (results_cell_row rfl _ _ (w.heap.size + 1) _ _ (0, 0) _ rfl hb5 Tryz.underlying37 rfl infoNode5) rfl ?_
        exact ⟨⟨_, rfl, ⟨_, _, _, rfl, ⟨HIN.out.1.kp hk5, hr5, HIN.out.2.2.kp hk5⟩⟩⟩, hk5⟩
end Go.Proofs.YtobldbodafaajaaGreatDoor

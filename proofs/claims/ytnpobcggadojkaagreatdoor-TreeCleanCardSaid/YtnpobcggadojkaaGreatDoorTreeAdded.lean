/- tree.Add. -/
import Derived.Test.YtnpobcggadojkaaGreatDoorTreeDoubled
import Derived.Test.YtnpobcggadojkaaGreatDoorTreeIt9
set_option linter.unusedVariables false
set_option linter.unusedSimpArgs false
namespace Go.Proofs.YtnpobcggadojkaaGreatDoor
open Go.RowKit

/-- The way of a tree to which a leaf is added. -/
structure AddWay (t : List Nod) (name : Int) (pub : List UInt8) (F : Nat → List Nod) (K9 : Nat) : Prop where
  mk ::
  le : K9 ≤ 10
  len : (wideT t).length = 2 ^ (K9 + 1) - 1
  gap : gapN t < 2 ^ K9
  start : F 0 = (wideT t).set (2 * gapN t) (leafN name pub)
  next : ∀ m, m < K9 → F (m + 1) = toldT (F m) (gapN t) ((pathN K9 0 (gapN t)).getD m 0)
  done : F K9 = addT t name pub
  lens : ∀ m, (F m).length = (wideT t).length
  at' : ∀ m, m < K9 → (pathN K9 0 (gapN t)).getD m 0 < (wideT t).length ∧ ats (F m) ((pathN K9 0 (gapN t)).getD m 0) = ats t ((pathN K9 0 (gapN t)).getD m 0) ∧ ((ats t ((pathN K9 0 (gapN t)).getD m 0)).kind = 0 ∨ (ats t ((pathN K9 0 (gapN t)).getD m 0)).kind = 2)
  two : 2 * gapN t < (wideT t).length ∧ (wideT t).length ≤ 100000
  un : ∀ x, (ats t x).un.Pairwise (· < ·) ∧ ((gapN t : Nat) : Int) ∉ (ats t x).un ∧ (ats t x).un.length ≤ 1024
theorem addWay {t : List Nod} {K : Nat} (hr : RightK t K) (hg : gapN t ≠ 1024) (name : Int) (pub : List UInt8) : ∃ F K9, AddWay t name pub F K9 := by
  obtain ⟨x1, x2, x3, x4, x5⟩ := hr.wide
  have hK' := hr.gap1024 hg
  have hset : ((wideT t).set (2 * gapN t) (leafN name pub)).length = 2 ^ (wK t K + 1) - 1 := by rw [List.length_set]; exact x1
  obtain ⟨y1, y2, y3⟩ := path_in (t := (wideT t).set (2 * gapN t) (leafN name pub)) (i := gapN t) hK' hset x3
  have hpl : pathT ((wideT t).set (2 * gapN t) (leafN name pub)) (gapN t) = pathT (wideT t) (gapN t) := pathT_len (List.length_set ..) _
  have hw : pathT (wideT t) (gapN t) = pathN (wK t K) 0 (gapN t) := by rw [← hpl, y1]
  have hwl : 2 * gapN t < (wideT t).length ∧ (wideT t).length ≤ 100000 := by
    have := p2_le hK'
    have := p2_succ (wK t K)
    have := p2_pos (wK t K)
    omega
  rw [y1] at y2 y3
  have hnn : (pathN (wK t K) 0 (gapN t)).Nodup := path_nodup _ _
  have hget : ∀ m (hm : m < wK t K), (pathN (wK t K) 0 (gapN t)).getD m 0 = (pathN (wK t K) 0 (gapN t))[m]'(by rw [y3]; exact hm) := fun m hm => by rw [List.getD_eq_getElem?_getD, List.getElem?_eq_getElem]; rfl
  have hodd : ∀ m, m < wK t K → (pathN (wK t K) 0 (gapN t)).getD m 0 % 2 = 1 := fun m hm => by
    rw [hget m hm]
    exact path_odd (List.getElem_mem _)
  refine ⟨fun m => ((pathN (wK t K) 0 (gapN t)).take m).foldl (fun o x => toldT o (gapN t) x) ((wideT t).set (2 * gapN t) (leafN name pub)), wK t K, ⟨hK', x1, x3, rfl, fun m hm => take_foldl _ _ _ m 0 (by rw [y3]; exact hm), ?_, fun m => by rw [told_len, List.length_set], fun m hm => ⟨?_, ?_, ?_⟩, hwl, fun x => ⟨?_, ?_, hr.un_len x⟩⟩⟩
  · show ((pathN (wK t K) 0 (gapN t)).take (wK t K)).foldl _ _ = addT t name pub
    rw [List.take_of_length_le (by rw [y3]; exact Nat.le_refl _)]
    unfold addT
    rw [hw]
  · have := y2 m (by rw [y3]; exact hm)
    rwa [List.length_set] at this
  · rw [told_at9 _ _ _ _ (hnn.sublist (List.take_sublist _ _)) (fun y hy => by
      obtain ⟨j, hj, rfl⟩ := List.getElem_of_mem (List.mem_of_mem_take hy)
      have := y2 j hj
      rwa [List.getD_eq_getElem?_getD, List.getElem?_eq_getElem hj] at this), if_neg, ats_set _ _ _ _ hwl.1, if_neg, x4]
    · have := hodd m hm
      omega
    · rintro ⟨hmem, _⟩
      rw [hget m hm] at hmem
      obtain ⟨j, hj, e⟩ := List.getElem_of_mem hmem
      rw [List.length_take] at hj
      rw [List.getElem_take] at e
      exact (List.pairwise_iff_getElem.1 hnn) j m (by omega) (by rw [y3]; exact hm) (by omega) e
  · rcases hr.odd (hodd m hm) with e | e
    · left; rw [e]; rfl
    · exact .inr e.1
  · rcases hr.okA x with e | ⟨_, _, _, h4, h5⟩
    · rw [e]; exact List.Pairwise.nil
    · by_cases hk : (ats t x).kind = 1
      · rw [h4 hk]; exact List.Pairwise.nil
      · rcases hr.okA x with e | ⟨h1, _⟩
        · rw [e]; exact List.Pairwise.nil
        · exact ((h5 (by omega)).2).1
  · intro hmem
    have h0 := hr.gap0
    rcases hr.okA x with e | ⟨h1, _, _, h4, h5⟩
    · rw [e] at hmem; exact absurd hmem (List.not_mem_nil)
    · by_cases hk : (ats t x).kind = 1
      · rw [h4 hk] at hmem; exact absurd hmem (List.not_mem_nil)
      · have := ((h5 (by omega)).2.2 _ hmem).2.2
        rw [Int.toNat_natCast, h0] at this
        cases this
theorem told_zero {o : List Nod} {i x : Nat} (h : (ats o x).kind = 0) : toldT o i x = o := if_neg (by rw [h]; decide)
theorem told_two {o : List Nod} {i x : Nat} (h : (ats o x).kind = 2) : toldT o i x = o.set x ⟨(ats o x).kind, (ats o x).name, (ats o x).pub, putN (ats o x).un (i : Int), (ats o x).hash⟩ := if_pos h

/-- A store of five cells, in a world that is named. -/
theorem wpList_store_five9 {P : Program} {ops : Array Oper} {rest : List Oper} {o : Oper} {a : Act} {w : World} {Q : Exit → Act → World → Prop} (hgd : o.guard = none) (hd : o.dst = none) (ty : TypeId) (x y : Operand) (ho : o.op = .store ty x y)
    (g f : Nat) (cs : List Value) (hx : a.eval x = .pointer (some ⟨g, f, none⟩)) (hy : a.eval y = .agg cs.toArray) (hl : cs.length = 5) (hone : ∀ z ∈ cs, z.oneCell' = true) (ht : w.there g f 5) (hi : (P.info? ty).map (·.size) = some 5)
    (h : ∀ w', w' = w.setCells g f cs → wpList P ops Q rest a w') : wpList P ops Q (o :: rest) a w := by
  refine wpList_store_mid hgd ty x y ho g f cs.toArray hx hy (by rw [List.size_toArray, hl]; exact ht) (by rw [hi, List.size_toArray, hl]) (all_oneCell_toArray hone) ?_
  rw [hd]
  exact h _ rfl
theorem NX.at {e ei : TypeId} {w : World} {B g N c : Nat} {t : List Nod} {P U H : Nat → Value} {S : Nat → Prop} (h : NX e ei w B (.slice (some ⟨g, 0, none⟩) N c) t P U H S) (i : Nat) (hi : i < t.length) : NAt w g (i * 5) (ats t i) (P i) (U i) (H i) := by
  obtain ⟨us, k1, k2, k3⟩ := h.row
  have hn := h.len
  subst hn
  refine ⟨fun j x hj => ?_, h.ins i hi⟩
  have hjl : j < 5 := (List.getElem?_eq_some_iff.1 hj).1
  rw [k1.cellAt (i * 5 + j) (by omega), k3 i hi j hjl]
  exact hj
theorem there_grown9 {w w' : World} {g o n : Nat} {r : Option Nat} (h : w.there g o n) (hg : w.grownBy w' r) (hne : r ≠ some g) (hlt : g < w.heap.size) : w'.there g o n := fun j hj => by
  have hb := hg.block g hlt (fun e => hne e.symm)
  obtain ⟨h1, h2⟩ := h j hj
  refine ⟨?_, ?_⟩
  · rw [World.cell?_of_block (w := w) (a := ⟨g, o + j, none⟩) hb]; exact h1
  · unfold World.frozen? at h2 ⊢
    rw [hb]; exact h2
theorem NX.gt {e ei : TypeId} {w : World} {B g N c : Nat} {t : List Nod} {P U H : Nat → Value} {S : Nat → Prop} (h : NX e ei w B (.slice (some ⟨g, 0, none⟩) N c) t P U H S) : B ≤ g ∧ g < w.heap.size := by
  obtain ⟨us, k1, _⟩ := h.row
  exact World.ownsRow.lt k1 g rfl

set_option maxRecDepth 100000 in
set_option maxHeartbeats 4000000 in
theorem treeAdd_any (u v : Value) (t : List Nod) (K : Nat) (name : Int) (pub : List UInt8) (w : World) (hu : NL w u t) (hv : Rd w v pub) (hr : RightK t K) (hn : -9223372036854775808 ≤ name ∧ name ≤ 9223372036854775807) (hT : Tab w) :
    Calls Tryz.prog 22 #[u, .int .i64 name, v] w fun e w' => (∃ r, e = .returned (.tuple #[r, .int .i64 (addI t name pub), .int .i64 (addE t name pub)]) ∧ NL w' r (addV t name pub)) ∧ Kp w w' := by
  obtain ⟨z1, z2, z3⟩ := hr.small
  have HC := Lib.hid (treeCopied_any u t w hu z3 (by omega) hr.bounds)
  have HNM := Lib.hid (fun W => treeIsName_any name W)
  have HH := Lib.hid (fun W (hW : Kp w W) => treeIsHalf_any v pub W (hv.kp hW))
  have HSZ : Hid (∀ W, Kp w W → Calls Tryz.prog 41 #[u] W fun e w' => e = .returned (.int .i64 ((2 ^ K : Nat) : Int)) ∧ W = w') := fun W hW => by
    have h1 := treeSize_any u t W (hu.kp hW) (by omega)
    rwa [(sizeN_len hr.le hr.len).1] at h1
  have HFD := Lib.hid (fun W (hW : Kp w W) => treeFind_any u t K name W (hu.kp hW) hr hn (hT.kp hW))
  have HGP := Lib.hid (fun W (hW : Kp w W) => treeGap_any u t K W (hu.kp hW) hr (hT.kp hW))
  have HV := Lib.hid hv
  have hNI : (0 : Int) < ((2 ^ K : Nat) : Int) := by have := p2_pos K; omega
  obtain ⟨ap, cp, rfl, _, _⟩ := hv.shape
  obtain ⟨a, n, c, rfl⟩ := hu.sl
  by_cases h1 : 0 ≤ name ∧ name ≤ 65535
  · rw [decide_eq_true h1] at HNM
    by_cases h32 : pub.length = 32
    · rw [decide_eq_true h32] at HH
      have hm : mayP name pub := ⟨h1.1, h1.2, h32⟩
      by_cases hf : findB t name = true
      · have e1 : addE t name pub = 12 := by unfold addE; rw [if_pos hm, if_pos hf]
        obtain ⟨e2, e3⟩ := add_no 12 e1 (by decide)
        rw [e1, e2, e3]
        rw [hf] at HFD
        have hn0 : (((2 ^ K : Nat) : Int) == 0) = false := beq_eq_false_iff_ne.2 (by omega)
        generalize ((2 ^ K : Nat) : Int) = NN at *
        generalize findV t name = FV at *
        rw [h32] at HH HV ⊢
        clear hu hv hr hn hT h1 h32 hm hf e1 e2 e3 z1 z2 z3
        go_enter Tryz.func22, Tryz.ntmps22
        go_wp2_with fail
        refine HC.out.mono ?_; rintro _ w1 ⟨⟨r, P, U, H, rfl, hx⟩, k1⟩
        have HF := Lib.hid (And.intro hx.no.nl k1)
        obtain ⟨ar, nr, cr, rfl⟩ := hx.no.nl.sl
        clear hx k1 HC
        go_wp2_with fail
        refine (HNM.out w1).mono ?_; rintro _ _ ⟨rfl, rfl⟩
        go_wp2_with fail
        refine (HH.out w1 HF.out.2).mono ?_; rintro _ _ ⟨rfl, rfl⟩
        go_wp2_with fail
        refine (HSZ.out w1 HF.out.2).mono ?_; rintro _ _ ⟨rfl, rfl⟩
        go_wp2_with fail
        refine (HFD.out w1 HF.out.2).mono ?_; rintro _ w2 ⟨rfl, k2⟩
        have HF2 := Lib.hid (And.intro (HF.out.1.kp k2) (HF.out.2.trans k2))
        clear k2
        go_wp2_with fail
        go_ret3
        exact ⟨⟨_, rfl, HF2.out.1⟩, HF2.out.2⟩
      · have hf2 : findB t name = false := by rw [Bool.eq_false_iff]; exact hf
        rw [hf2] at HFD
        by_cases hg : gapN t = 1024
        · have e1 : addE t name pub = 4 := by unfold addE; rw [if_pos hm, hf2, if_pos hg]; rfl
          obtain ⟨e2, e3⟩ := add_no 4 e1 (by decide)
          rw [e1, e2, e3]
          rw [hg] at HGP
          have hn0 : (((2 ^ K : Nat) : Int) == 0) = false := beq_eq_false_iff_ne.2 (by omega)
          generalize ((2 ^ K : Nat) : Int) = NN at *
          generalize findV t name = FV at *
          rw [h32] at HH HV ⊢
          clear hu hv hr hn hT h1 h32 hm hf hf2 e1 e2 e3 z1 z2 z3 hg
          go_enter Tryz.func22, Tryz.ntmps22
          go_wp2_with fail
          refine HC.out.mono ?_; rintro _ w1 ⟨⟨r, P, U, H, rfl, hx⟩, k1⟩
          have HF := Lib.hid (And.intro hx.no.nl k1)
          obtain ⟨ar, nr, cr, rfl⟩ := hx.no.nl.sl
          clear hx k1 HC
          go_wp2_with fail
          refine (HNM.out w1).mono ?_; rintro _ _ ⟨rfl, rfl⟩
          go_wp2_with fail
          refine (HH.out w1 HF.out.2).mono ?_; rintro _ _ ⟨rfl, rfl⟩
          go_wp2_with fail
          refine (HSZ.out w1 HF.out.2).mono ?_; rintro _ _ ⟨rfl, rfl⟩
          go_wp2_with fail
          refine (HFD.out w1 HF.out.2).mono ?_; rintro _ w2 ⟨rfl, k2⟩
          have HF2 := Lib.hid (And.intro (HF.out.1.kp k2) (HF.out.2.trans k2))
          clear k2
          go_wp2_with fail
          refine (HGP.out w2 HF2.out.2).mono ?_; rintro _ w3 ⟨rfl, k3⟩
          have HF3 := Lib.hid (And.intro (HF2.out.1.kp k3) (HF2.out.2.trans k3))
          clear k3
          go_wp2_with fail
          go_ret3
          exact ⟨⟨_, rfl, HF3.out.1⟩, HF3.out.2⟩
        · obtain ⟨F, K9, AW⟩ := addWay hr hg name pub
          have e1 : addE t name pub = 0 := by unfold addE; rw [if_pos hm, hf2, if_neg hg]; rfl
          have e2 : addV t name pub = addT t name pub := by unfold addV; rw [if_pos e1]
          have e3 : addI t name pub = ((gapN t : Nat) : Int) := by unfold addI; rw [if_pos e1]
          rw [e1, e2, e3, ← AW.done]
          have hgI : (((gapN t : Nat) : Int) == 1024) = false := beq_eq_false_iff_ne.2 (by omega)
          have hgI2 : ¬ ((gapN t : Nat) : Int) = 1024 := by omega
          have hn0 : (((2 ^ K : Nat) : Int) == 0) = false := beq_eq_false_iff_ne.2 (by omega)
          have hlv := hr.lv
          have HAW := Lib.hid AW
          have HTAB := Lib.hid hT
          have HNL := Lib.hid (fun W (hW : Kp w W) => treeNewLeaf_any name (.slice ap pub.length cp) pub W (HV.out.kp hW) (by omega))
          have i2 : IntKind.i64.wrap (2 * ((gapN t : Nat) : Int)) = ((2 * gapN t : Nat) : Int) := by have := AW.two; rw [IntWalk.i64_in _ (by omega)]; omega
          have i3 : ((2 * gapN t : Nat) : Int) < ((wideT t).length : Int) := by have := AW.two.1; omega
          have HIL := Lib.hid (show (t.length : Int) ≤ 3000 by omega)
          have HPOS : Hid (0 < (wideT t).length) := by have := AW.two.1; unfold Hid; omega
          rw [h32] at HH HNL ⊢
          obtain ⟨K2, hK2⟩ : ∃ K2, 2 * gapN t = K2 := ⟨_, rfl⟩
          have HK2E := Lib.hid hK2
          obtain ⟨NN, hNN⟩ : ∃ NN : Int, ((2 ^ K : Nat) : Int) = NN := ⟨_, rfl⟩
          have hcI : (((gapN t : Nat) : Int) == NN) = decide (gapN t = lvs t) := by
            rw [← hNN, hlv]
            by_cases h : gapN t = 2 ^ K
            · rw [decide_eq_true h, h]; exact beq_self_eq_true _
            · rw [decide_eq_false h]; exact beq_eq_false_iff_ne.2 (by omega)
          have hcI2 : gapN t = lvs t ↔ ((gapN t : Nat) : Int) = NN := by rw [← hNN, hlv]; omega
          rw [hNN] at hn0 hNI HSZ
          generalize findV t name = FV at *
          obtain ⟨GI, hGI⟩ : ∃ GI : Int, ((gapN t : Nat) : Int) = GI := ⟨_, rfl⟩
          have HGI := Lib.hid hGI
          rw [hGI] at hcI hcI2 hgI hgI2 HGP i2 ⊢
          rw [hK2] at i2 i3
          have hwd : (gapN t = lvs t → wideT t = t ++ List.replicate (t.length + 1) blankN) ∧ (gapN t ≠ lvs t → wideT t = t) := by
            unfold wideT
            exact ⟨fun h => if_pos h, fun h => if_neg h⟩
          have HWD := Lib.hid hwd
          by_cases hw9 : gapN t = lvs t
          · rw [decide_eq_true hw9] at hcI
            have hcc := hcI2.1 hw9
            have HW9 := Lib.hid (hwd.1 hw9)
            subst hcc
            clear hu hv hr hn hT h1 h32 hm hf hf2 e1 e2 e3 z1 z2 hg hwd hw9 hlv hGI hNN AW hcI2 hK2
            go_enter Tryz.func22, Tryz.ntmps22
            go_wp2_with fail
            refine HC.out.mono ?_; rintro _ w1 ⟨⟨r, P, U, H, rfl, hx⟩, k1⟩
            obtain ⟨g, cb, rfl, _⟩ := hx.no.form z3
            have HX := Lib.hid hx
            have HK1 := Lib.hid k1
            clear hx k1 HC
            go_wp2_with fail
            refine (HNM.out w1).mono ?_; rintro _ _ ⟨rfl, rfl⟩
            go_wp2_with fail
            refine (HH.out w1 HK1.out).mono ?_; rintro _ _ ⟨rfl, rfl⟩
            go_wp2_with fail
            refine (HSZ.out w1 HK1.out).mono ?_; rintro _ _ ⟨rfl, rfl⟩
            go_wp2_with fail
            refine (HFD.out w1 HK1.out).mono ?_; rintro _ w2 ⟨rfl, k2⟩
            have HK2 := Lib.hid (HK1.out.trans k2)
            have HX2 := Lib.hid (HX.out.kp k2)
            clear k2 HX
            go_wp2_with fail
            refine (HGP.out w2 HK2.out).mono ?_; rintro _ w3 ⟨rfl, k3⟩
            have HK3 := Lib.hid (HK2.out.trans k3)
            have HX3 := Lib.hid (HX2.out.kp k3)
            clear k3 HX2
            go_wp2_with fail
            refine (HSZ.out w3 HK3.out).mono ?_; rintro _ _ ⟨rfl, rfl⟩
            go_wp2_with fail
            refine (treeDoubled_any g t.length cb w.heap.size t P U H w3 HX3.out HK3.out.size (by have := HIL.out; omega)).mono ?_
            rintro _ w5 ⟨⟨v5, P5, U5, H5, rfl, hx5, _⟩, g5⟩
            have HK5 := Lib.hid (Kp.grown (v := .slice (some ⟨g, 0, none⟩) t.length cb) HK3.out g5 (fun k hk => by cases hk; exact HX3.out.gt.1))
            rw [← HW9.out] at hx5
            obtain ⟨g', cb', rfl, _⟩ := hx5.no.form HPOS.out
            have HX5 : Hid (∃ P U H, NX 57 3 w5 w.heap.size (.slice (some ⟨g', 0, none⟩) (wideT t).length cb') (wideT t) P U H (fun _ => True)) := ⟨_, _, _, hx5⟩
            have hlc : (wideT t).length ≤ cb' := by
              obtain ⟨_, _, e, _, _, h9, _⟩ := hx5.no.form HPOS.out
              simp only [Value.slice.injEq] at e
              omega
            clear hx5 g5 HX3 HSZ HGP HFD HNM HH HK1 HK2 HK3 HW9 HWD HIL P5 U5 H5 P U H
            obtain ⟨WN, hWN⟩ : ∃ WN, (wideT t).length = WN := ⟨_, rfl⟩
            have HWN := Lib.hid hWN
            rw [hWN] at HX5 hlc i3 ⊢
            clear hWN HPOS
            go_wp2_with fail
            refine (HNL.out w5 HK5.out).mono ?_; rintro _ w6 ⟨⟨p, rfl, o6⟩, k6⟩
            obtain ⟨P5, U5, H5, hx5⟩ := HX5.out
            have hkk : K2 < (wideT t).length := by have := HAW.out.two.1; have := HK2E.out; omega
            have HX7 : Hid (∃ P U H, NX 57 3 (w6.setCells g' (K2 * 5) [.int .i64 1, .int .i64 name, p, .slice none 0 0, .slice none 0 0]) w.heap.size (.slice (some ⟨g', 0, none⟩) WN cb') (F 0) P U H (fun _ => True)) := ⟨_, _, _, by rw [HAW.out.start, HK2E.out]; exact hx5.leaf k6 hkk (leafN name pub) rfl rfl o6 (Nat.le_refl _) hx5.gt.2⟩
            have HTH7 : Hid (w6.there g' (K2 * 5) 5) := (hx5.kp k6).no.there _ hkk
            have HK7 : Hid (Kp w (w6.setCells g' (K2 * 5) [.int .i64 1, .int .i64 name, p, .slice none 0 0, .slice none 0 0])) := (HK5.out.trans k6).setCells hx5.gt.1 _ _
            have HONE : Hid (∀ z ∈ [.int .i64 1, .int .i64 name, p, .slice none 0 0, .slice none 0 0], z.oneCell' = true) := nodC_one (w := w6) (n := leafN name pub) ⟨o6.rd, RI.nil _, rd_nil9 _⟩
            obtain ⟨yp, mp, ycp, rfl⟩ := rd_sl9 o6.rd
            clear o6 k6 hx5 hkk P5 U5 H5 HX5 HK5 HNL
            go_wp2_with (refine wpList_store_five9 rfl rfl 57 (.tmp 56) (.tmp 55) rfl g' (K2 * 5) [.int .i64 1, .int .i64 name, .slice yp mp ycp, .slice none 0 0, .slice none 0 0] rfl rfl rfl HONE.out HTH7.out infoNode5 ?_; intro W7 hW7; rw [← hW7] at HX7 HK7; clear hW7)
            have hpt := treePath_any (.slice (some ⟨g', 0, none⟩) WN cb') (F 0) K9 (gapN t) W7 (by obtain ⟨P, U, H, h⟩ := HX7.out; exact h.no.nl) HAW.out.le (by rw [HAW.out.lens]; exact HAW.out.len) HAW.out.gap (HTAB.out.kp HK7.out)
            rw [HGI.out] at hpt
            have HPT := Lib.hid hpt
            clear hpt
            refine HPT.out.mono ?_; rintro _ w8 ⟨⟨pv, rfl, o8⟩, k8⟩
            clear HPT
            have HPL : Hid ((pathN K9 0 (gapN t)).length = K9) := pathN_length K9 0 (gapN t)
            have HND := Lib.hid (path_nodup K9 (gapN t))
            obtain ⟨PT, hPT⟩ : ∃ PT, pathN K9 0 (gapN t) = PT := ⟨_, rfl⟩
            have HPTE := Lib.hid hPT
            rw [hPT] at o8 HPL HND
            have HPB : Hid (∀ gg, pv.ownBlock = some gg → W7.heap.size ≤ gg) := fun gg hgg => (o8.oi.lt gg hgg).1
            have r8 := ON.rn o8
            obtain ⟨ap2, cp2, ee, p8, s8⟩ := r8.ri.shape
            rw [List.length_map, HPL.out] at ee p8
            subst ee
            have HR8 := Lib.hid r8
            have HK8 := Lib.hid k8
            clear o8 r8 k8 hPT HTH7 HONE
            go_wp2_with fail
            go_loopw [61] (fun x wr => ∃ m : Nat, m ≤ K9 ∧ x = .int .i64 (m : Int) ∧ (∃ P U H, NX 57 3 wr w.heap.size (.slice (some ⟨g', 0, none⟩) WN cb') (F m) P U H (fun _ => True) ∧ ∀ j, m ≤ j → j < K9 → ∀ gu, (U (PT.getD j 0)).ownBlock = some gu → gu < W7.heap.size) ∧ RN wr (.slice ap2 K9 cp2) PT ∧ Kp w wr ∧ W7.heap.size ≤ wr.heap.size) (fun x _ => (K9 - (intOf x).toNat))
            case atStart =>
              obtain ⟨P, U, H, h⟩ := HX7.out
              refine ⟨0, Nat.zero_le _, rfl, ⟨P, U, H, h.kp HK8.out, fun j _ hj gu hgu => ?_⟩, HR8.out, HK7.out.trans HK8.out, HK8.out.size⟩
              have hjl := (HAW.out.at' j hj).1
              rw [HPTE.out] at hjl
              exact ((h.own _ (by rw [HAW.out.lens]; exact hjl) trivial).lt gu hgu).2
            case round =>
              obtain ⟨m, hm, rfl, ⟨P, U, H, hx, hbd⟩, hri, hkp, hsz⟩ := hrel
              by_cases hlt : m < K9
              · obtain ⟨q1, o1, rfl, _, hc1⟩ := hri.ri.at m hlt
                have l1 := hc1 m hlt
                rw [getD_map_int PT m (by rw [HPL.out]; exact hlt)] at l1
                have hat := HAW.out.at' m hlt
                have hnx := HAW.out.next m hlt
                rw [HPTE.out] at hat hnx
                obtain ⟨t1, t2, t3⟩ := hat
                have hne : ∀ j, m + 1 ≤ j → j < K9 → PT.getD j 0 ≠ PT.getD m 0 := fun j hj hj2 e => by
                  have f1 : j < PT.length := by rw [HPL.out]; exact hj2
                  have f2 : m < PT.length := by rw [HPL.out]; exact hlt
                  rw [List.getD_eq_getElem?_getD, List.getElem?_eq_getElem f1, List.getD_eq_getElem?_getD, List.getElem?_eq_getElem f2] at e
                  exact (List.pairwise_iff_getElem.1 HND.out) m j f2 f1 (by omega) e.symm
                have hub := hbd m (Nat.le_refl _) hlt
                obtain ⟨u1, u2, u3⟩ := HAW.out.un (PT.getD m 0)
                have HBD := Lib.hid (And.intro hbd hne)
                have i1 : IntKind.i64.wrap ((m : Int) + 1) = (m : Int) + 1 := IntWalk.i64_in _ (by have := HAW.out.le; omega)
                have i5 : (m : Int) < (K9 : Int) := by omega
                generalize PT.getD m 0 = X at *
                have hXl : X < (F m).length := by rw [HAW.out.lens]; exact t1
                have hXW : (X : Int) < (WN : Int) := by have := HWN.out; omega
                have hnat := hx.at X hXl
                have c0 := hnat.kind
                have c3 := hnat.unC
                have hown := hx.own X hXl trivial
                have hgt := hx.gt
                have HX9 := Lib.hid hx
                have HMM := Lib.hid (And.intro hri (And.intro hkp hsz))
                rw [t2] at c0
                have HXL := Lib.hid hXl
                rcases t3 with t3 | t3
                · have e9 : F (m + 1) = F m := by rw [hnx]; exact told_zero (by rw [t2]; exact t3)
                  have HE9 := Lib.hid e9
                  rw [t3] at c0
                  have HBN : Hid (∀ j, m + 1 ≤ j → j < K9 → ∀ gu, (U (PT.getD j 0)).ownBlock = some gu → gu < W7.heap.size) := fun j h1 h2 => HBD.out.1 j (by omega) h2
                  clear hc1 hnx t1 t2 t3 hne hub u1 u2 u3 hnat hown hgt hx hri hkp hsz hbd e9 hXl c3
                  go_wp2_with fail
                  go_roundw
                  case rel => exact ⟨m + 1, by omega, by go_num, ⟨P, U, H, by rw [HE9.out]; exact HX9.out, HBN.out⟩, HMM.out.1, HMM.out.2.1, HMM.out.2.2⟩
                  case measure => simp [intOf]; omega
                · have e9 : F (m + 1) = (F m).set X ⟨(ats (F m) X).kind, (ats (F m) X).name, (ats (F m) X).pub, putN (ats (F m) X).un GI, (ats (F m) X).hash⟩ := by rw [hnx, ← HGI.out]; exact told_two (by rw [t2]; exact t3)
                  have HE9 := Lib.hid e9
                  rw [t3] at c0
                  rw [HGI.out, ← t2] at u2
                  rw [← t2] at u1 u3
                  have HWT := Lib.hid (treeWith_any (U X) (ats (F m) X).un GI w.heap.size wr hown hkp.size u1 u2 (by omega))
                  have HUB := Lib.hid hub
                  have HGT := Lib.hid hgt
                  have HOW := Lib.hid hown
                  have HTH0 := Lib.hid (hx.there X hXl 3 (by omega))
                  have HUG : Hid (∀ gu, (U X).ownBlock = some gu → gu ≠ g') := fun gu hgu e => (hx.sep X hXl trivial gu hgu).1 (by rw [e]; rfl)
                  obtain ⟨xq, nq, xcq, hq⟩ := hown.ri.sl
                  have HQ := Lib.hid hq
                  rw [hq] at c3 HWT
                  clear hc1 hnx t1 t2 t3 hne hub u1 u2 u3 hnat hown hgt hx hri hkp hsz hbd e9 hXl hq
                  go_wp2_with fail
                  refine HWT.out.mono ?_; rintro _ w9 ⟨u', rfl, o9, g9, hu9⟩
                  rw [← HQ.out] at g9 hu9
                  have hRP : Apart (U X) (.slice (some ⟨q1, o1, none⟩) K9 cp2) := apart_new (C := W7.heap.size) HPB.out HUB.out
                  have hVP : Apart (.slice (some ⟨g', 0, none⟩) WN cb') (.slice (some ⟨q1, o1, none⟩) K9 cp2) := fun gg hgg x nn cc e h0 he => by
                    have h1 := HPB.out x.block (by rw [e]; rfl)
                    obtain ⟨P7, U7, H7, h7⟩ := HX7.out
                    have h2 := h7.gt.2
                    have h3 : gg = g' := by cases hgg; rfl
                    omega
                  have HNX : Hid (∃ P U H, NX 57 3 (w9.setCells g' (X * 5 + 3) [u']) w.heap.size (.slice (some ⟨g', 0, none⟩) WN cb') (F (m + 1)) P U H (fun _ => True) ∧ ∀ j, m + 1 ≤ j → j < K9 → ∀ gu, (U (PT.getD j 0)).ownBlock = some gu → gu < W7.heap.size) := by
                    refine ⟨_, _, _, by rw [HE9.out]; exact HX9.out.withUn HXL.out HGT.out.2 o9 g9 hu9, fun j h1 h2 gu hgu => ?_⟩
                    rw [upd_other _ _ (HBD.out.2 j h1 h2)] at hgu
                    exact HBD.out.1 j (by omega) h2 gu hgu
                  have HRN : Hid (RN (w9.setCells g' (X * 5 + 3) [u']) (.slice (some ⟨q1, o1, none⟩) K9 cp2) PT) := RI.rn ((HMM.out.1.ri.grown9 (v := U X) g9 hRP).grown9 (v := .slice (some ⟨g', 0, none⟩) WN cb') (grown_set9 w9 g' 0 _ _) hVP)
                  have HKN : Hid (Kp w (w9.setCells g' (X * 5 + 3) [u'])) := (Kp.grown (v := U X) HMM.out.2.1 g9 (fun k hk => (HOW.out.lt k hk).1)).setCells HGT.out.1 _ _
                  have HSN : Hid (W7.heap.size ≤ (w9.setCells g' (X * 5 + 3) [u']).heap.size) := Nat.le_trans HMM.out.2.2 (Nat.le_trans g9.size (grown_set9 w9 g' 0 _ _).size)
                  have HTH : Hid (w9.there g' (X * 5 + 3) 1) := there_grown9 HTH0.out g9 (fun e => HUG.out g' e rfl) HGT.out.2
                  obtain ⟨yq, mq, ycq, rfl⟩ := o9.ri.sl
                  clear o9 g9 hu9 hRP hVP HWT c0 c3
                  go_wp2_with (refine wpList_store_cell9 rfl rfl 38 (.tmp 81) (.tmp 79) rfl g' (X * 5 + 3) (.slice yq mq ycq) rfl rfl rfl HTH.out size1_ints ?_; intro W9 hW9; rw [← hW9] at HNX HRN HKN HSN; clear hW9)
                  go_roundw
                  case rel => exact ⟨m + 1, by omega, by go_num, HNX.out, HRN.out, HKN.out, HSN.out⟩
                  case measure => simp [intOf]; omega
              · obtain rfl : m = K9 := by omega
                have HFIN := Lib.hid (And.intro hx.no.nl hkp)
                have i5 : ¬ (m : Int) < (m : Int) := by omega
                clear hx hbd hri hkp hsz
                go_wp2_with fail
                go_ret3
                exact ⟨⟨_, rfl, HFIN.out.1⟩, HFIN.out.2⟩
          · rw [decide_eq_false hw9] at hcI
            have hcc : ¬ GI = NN := fun h => hw9 (hcI2.2 h)
            have HW9 := Lib.hid (hwd.2 hw9)
            clear hu hv hr hn hT h1 h32 hm hf hf2 e1 e2 e3 z1 z2 hg hwd hw9 hlv hGI hNN AW hcI2 hK2
            go_enter Tryz.func22, Tryz.ntmps22
            go_wp2_with fail
            refine HC.out.mono ?_; rintro _ w1 ⟨⟨r, P, U, H, rfl, hx⟩, k1⟩
            obtain ⟨g, cb, rfl, _⟩ := hx.no.form z3
            have HX := Lib.hid hx
            have HK1 := Lib.hid k1
            clear hx k1 HC
            go_wp2_with fail
            refine (HNM.out w1).mono ?_; rintro _ _ ⟨rfl, rfl⟩
            go_wp2_with fail
            refine (HH.out w1 HK1.out).mono ?_; rintro _ _ ⟨rfl, rfl⟩
            go_wp2_with fail
            refine (HSZ.out w1 HK1.out).mono ?_; rintro _ _ ⟨rfl, rfl⟩
            go_wp2_with fail
            refine (HFD.out w1 HK1.out).mono ?_; rintro _ w2 ⟨rfl, k2⟩
            have HK2 := Lib.hid (HK1.out.trans k2)
            have HX2 := Lib.hid (HX.out.kp k2)
            clear k2 HX
            go_wp2_with fail
            refine (HGP.out w2 HK2.out).mono ?_; rintro _ w3 ⟨rfl, k3⟩
            have HK3 := Lib.hid (HK2.out.trans k3)
            have HX3 := Lib.hid (HX2.out.kp k3)
            clear k3 HX2
            go_wp2_with fail
            refine (HSZ.out w3 HK3.out).mono ?_; rintro _ _ ⟨rfl, rfl⟩
            have HK5 := Lib.hid HK3.out
            have hx5 := HX3.out
            rw [← HW9.out] at hx5
            have HX5 : Hid (∃ P U H, NX 57 3 w3 w.heap.size (.slice (some ⟨g, 0, none⟩) (wideT t).length cb) (wideT t) P U H (fun _ => True)) := ⟨_, _, _, hx5⟩
            obtain ⟨WN, hWN⟩ : ∃ WN, (wideT t).length = WN := ⟨_, rfl⟩
            have HWN := Lib.hid hWN
            have htw : t.length = WN := by rw [← hWN, HW9.out]
            have hlc : WN ≤ cb := by
              obtain ⟨_, _, e, _, _, h9, _⟩ := HX3.out.no.form z3
              simp only [Value.slice.injEq] at e
              omega
            rw [hWN] at HX5 i3
            rw [htw]
            clear hx5 HX3 HSZ HGP HFD HNM HH HK1 HK2 HK3 HW9 HWD HIL HPOS hWN htw P U H z3
            generalize w3 = w5 at *
            generalize g = g' at *
            generalize cb = cb' at *
            go_wp2_with fail
            refine (HNL.out w5 HK5.out).mono ?_; rintro _ w6 ⟨⟨p, rfl, o6⟩, k6⟩
            obtain ⟨P5, U5, H5, hx5⟩ := HX5.out
            have hkk : K2 < (wideT t).length := by have := HAW.out.two.1; have := HK2E.out; omega
            have HX7 : Hid (∃ P U H, NX 57 3 (w6.setCells g' (K2 * 5) [.int .i64 1, .int .i64 name, p, .slice none 0 0, .slice none 0 0]) w.heap.size (.slice (some ⟨g', 0, none⟩) WN cb') (F 0) P U H (fun _ => True)) := ⟨_, _, _, by rw [HAW.out.start, HK2E.out]; exact hx5.leaf k6 hkk (leafN name pub) rfl rfl o6 (Nat.le_refl _) hx5.gt.2⟩
            have HTH7 : Hid (w6.there g' (K2 * 5) 5) := (hx5.kp k6).no.there _ hkk
            have HK7 : Hid (Kp w (w6.setCells g' (K2 * 5) [.int .i64 1, .int .i64 name, p, .slice none 0 0, .slice none 0 0])) := (HK5.out.trans k6).setCells hx5.gt.1 _ _
            have HONE : Hid (∀ z ∈ [.int .i64 1, .int .i64 name, p, .slice none 0 0, .slice none 0 0], z.oneCell' = true) := nodC_one (w := w6) (n := leafN name pub) ⟨o6.rd, RI.nil _, rd_nil9 _⟩
            obtain ⟨yp, mp, ycp, rfl⟩ := rd_sl9 o6.rd
            clear o6 k6 hx5 hkk P5 U5 H5 HX5 HK5 HNL
            go_wp2_with (refine wpList_store_five9 rfl rfl 57 (.tmp 56) (.tmp 55) rfl g' (K2 * 5) [.int .i64 1, .int .i64 name, .slice yp mp ycp, .slice none 0 0, .slice none 0 0] rfl rfl rfl HONE.out HTH7.out infoNode5 ?_; intro W7 hW7; rw [← hW7] at HX7 HK7; clear hW7)
            have hpt := treePath_any (.slice (some ⟨g', 0, none⟩) WN cb') (F 0) K9 (gapN t) W7 (by obtain ⟨P, U, H, h⟩ := HX7.out; exact h.no.nl) HAW.out.le (by rw [HAW.out.lens]; exact HAW.out.len) HAW.out.gap (HTAB.out.kp HK7.out)
            rw [HGI.out] at hpt
            have HPT := Lib.hid hpt
            clear hpt
            refine HPT.out.mono ?_; rintro _ w8 ⟨⟨pv, rfl, o8⟩, k8⟩
            clear HPT
            have HPL : Hid ((pathN K9 0 (gapN t)).length = K9) := pathN_length K9 0 (gapN t)
            have HND := Lib.hid (path_nodup K9 (gapN t))
            obtain ⟨PT, hPT⟩ : ∃ PT, pathN K9 0 (gapN t) = PT := ⟨_, rfl⟩
            have HPTE := Lib.hid hPT
            rw [hPT] at o8 HPL HND
            have HPB : Hid (∀ gg, pv.ownBlock = some gg → W7.heap.size ≤ gg) := fun gg hgg => (o8.oi.lt gg hgg).1
            have r8 := ON.rn o8
            obtain ⟨ap2, cp2, ee, p8, s8⟩ := r8.ri.shape
            rw [List.length_map, HPL.out] at ee p8
            subst ee
            have HR8 := Lib.hid r8
            have HK8 := Lib.hid k8
            clear o8 r8 k8 hPT HTH7 HONE
            go_wp2_with fail
            go_loopw [61] (fun x wr => ∃ m : Nat, m ≤ K9 ∧ x = .int .i64 (m : Int) ∧ (∃ P U H, NX 57 3 wr w.heap.size (.slice (some ⟨g', 0, none⟩) WN cb') (F m) P U H (fun _ => True) ∧ ∀ j, m ≤ j → j < K9 → ∀ gu, (U (PT.getD j 0)).ownBlock = some gu → gu < W7.heap.size) ∧ RN wr (.slice ap2 K9 cp2) PT ∧ Kp w wr ∧ W7.heap.size ≤ wr.heap.size) (fun x _ => (K9 - (intOf x).toNat))
            case atStart =>
              obtain ⟨P, U, H, h⟩ := HX7.out
              refine ⟨0, Nat.zero_le _, rfl, ⟨P, U, H, h.kp HK8.out, fun j _ hj gu hgu => ?_⟩, HR8.out, HK7.out.trans HK8.out, HK8.out.size⟩
              have hjl := (HAW.out.at' j hj).1
              rw [HPTE.out] at hjl
              exact ((h.own _ (by rw [HAW.out.lens]; exact hjl) trivial).lt gu hgu).2
            case round =>
              obtain ⟨m, hm, rfl, ⟨P, U, H, hx, hbd⟩, hri, hkp, hsz⟩ := hrel
              by_cases hlt : m < K9
              · obtain ⟨q1, o1, rfl, _, hc1⟩ := hri.ri.at m hlt
                have l1 := hc1 m hlt
                rw [getD_map_int PT m (by rw [HPL.out]; exact hlt)] at l1
                have hat := HAW.out.at' m hlt
                have hnx := HAW.out.next m hlt
                rw [HPTE.out] at hat hnx
                obtain ⟨t1, t2, t3⟩ := hat
                have hne : ∀ j, m + 1 ≤ j → j < K9 → PT.getD j 0 ≠ PT.getD m 0 := fun j hj hj2 e => by
                  have f1 : j < PT.length := by rw [HPL.out]; exact hj2
                  have f2 : m < PT.length := by rw [HPL.out]; exact hlt
                  rw [List.getD_eq_getElem?_getD, List.getElem?_eq_getElem f1, List.getD_eq_getElem?_getD, List.getElem?_eq_getElem f2] at e
                  exact (List.pairwise_iff_getElem.1 HND.out) m j f2 f1 (by omega) e.symm
                have hub := hbd m (Nat.le_refl _) hlt
                obtain ⟨u1, u2, u3⟩ := HAW.out.un (PT.getD m 0)
                have HBD := Lib.hid (And.intro hbd hne)
                have i1 : IntKind.i64.wrap ((m : Int) + 1) = (m : Int) + 1 := IntWalk.i64_in _ (by have := HAW.out.le; omega)
                have i5 : (m : Int) < (K9 : Int) := by omega
                generalize PT.getD m 0 = X at *
                have hXl : X < (F m).length := by rw [HAW.out.lens]; exact t1
                have hXW : (X : Int) < (WN : Int) := by have := HWN.out; omega
                have hnat := hx.at X hXl
                have c0 := hnat.kind
                have c3 := hnat.unC
                have hown := hx.own X hXl trivial
                have hgt := hx.gt
                have HX9 := Lib.hid hx
                have HMM := Lib.hid (And.intro hri (And.intro hkp hsz))
                rw [t2] at c0
                have HXL := Lib.hid hXl
                rcases t3 with t3 | t3
                · have e9 : F (m + 1) = F m := by rw [hnx]; exact told_zero (by rw [t2]; exact t3)
                  have HE9 := Lib.hid e9
                  rw [t3] at c0
                  have HBN : Hid (∀ j, m + 1 ≤ j → j < K9 → ∀ gu, (U (PT.getD j 0)).ownBlock = some gu → gu < W7.heap.size) := fun j h1 h2 => HBD.out.1 j (by omega) h2
                  clear hc1 hnx t1 t2 t3 hne hub u1 u2 u3 hnat hown hgt hx hri hkp hsz hbd e9 hXl c3
                  go_wp2_with fail
                  go_roundw
                  case rel => exact ⟨m + 1, by omega, by go_num, ⟨P, U, H, by rw [HE9.out]; exact HX9.out, HBN.out⟩, HMM.out.1, HMM.out.2.1, HMM.out.2.2⟩
                  case measure => simp [intOf]; omega
                · have e9 : F (m + 1) = (F m).set X ⟨(ats (F m) X).kind, (ats (F m) X).name, (ats (F m) X).pub, putN (ats (F m) X).un GI, (ats (F m) X).hash⟩ := by rw [hnx, ← HGI.out]; exact told_two (by rw [t2]; exact t3)
                  have HE9 := Lib.hid e9
                  rw [t3] at c0
                  rw [HGI.out, ← t2] at u2
                  rw [← t2] at u1 u3
                  have HWT := Lib.hid (treeWith_any (U X) (ats (F m) X).un GI w.heap.size wr hown hkp.size u1 u2 (by omega))
                  have HUB := Lib.hid hub
                  have HGT := Lib.hid hgt
                  have HOW := Lib.hid hown
                  have HTH0 := Lib.hid (hx.there X hXl 3 (by omega))
                  have HUG : Hid (∀ gu, (U X).ownBlock = some gu → gu ≠ g') := fun gu hgu e => (hx.sep X hXl trivial gu hgu).1 (by rw [e]; rfl)
                  obtain ⟨xq, nq, xcq, hq⟩ := hown.ri.sl
                  have HQ := Lib.hid hq
                  rw [hq] at c3 HWT
                  clear hc1 hnx t1 t2 t3 hne hub u1 u2 u3 hnat hown hgt hx hri hkp hsz hbd e9 hXl hq
                  go_wp2_with fail
                  refine HWT.out.mono ?_; rintro _ w9 ⟨u', rfl, o9, g9, hu9⟩
                  rw [← HQ.out] at g9 hu9
                  have hRP : Apart (U X) (.slice (some ⟨q1, o1, none⟩) K9 cp2) := apart_new (C := W7.heap.size) HPB.out HUB.out
                  have hVP : Apart (.slice (some ⟨g', 0, none⟩) WN cb') (.slice (some ⟨q1, o1, none⟩) K9 cp2) := fun gg hgg x nn cc e h0 he => by
                    have h1 := HPB.out x.block (by rw [e]; rfl)
                    obtain ⟨P7, U7, H7, h7⟩ := HX7.out
                    have h2 := h7.gt.2
                    have h3 : gg = g' := by cases hgg; rfl
                    omega
                  have HNX : Hid (∃ P U H, NX 57 3 (w9.setCells g' (X * 5 + 3) [u']) w.heap.size (.slice (some ⟨g', 0, none⟩) WN cb') (F (m + 1)) P U H (fun _ => True) ∧ ∀ j, m + 1 ≤ j → j < K9 → ∀ gu, (U (PT.getD j 0)).ownBlock = some gu → gu < W7.heap.size) := by
                    refine ⟨_, _, _, by rw [HE9.out]; exact HX9.out.withUn HXL.out HGT.out.2 o9 g9 hu9, fun j h1 h2 gu hgu => ?_⟩
                    rw [upd_other _ _ (HBD.out.2 j h1 h2)] at hgu
                    exact HBD.out.1 j (by omega) h2 gu hgu
                  have HRN : Hid (RN (w9.setCells g' (X * 5 + 3) [u']) (.slice (some ⟨q1, o1, none⟩) K9 cp2) PT) := RI.rn ((HMM.out.1.ri.grown9 (v := U X) g9 hRP).grown9 (v := .slice (some ⟨g', 0, none⟩) WN cb') (grown_set9 w9 g' 0 _ _) hVP)
                  have HKN : Hid (Kp w (w9.setCells g' (X * 5 + 3) [u'])) := (Kp.grown (v := U X) HMM.out.2.1 g9 (fun k hk => (HOW.out.lt k hk).1)).setCells HGT.out.1 _ _
                  have HSN : Hid (W7.heap.size ≤ (w9.setCells g' (X * 5 + 3) [u']).heap.size) := Nat.le_trans HMM.out.2.2 (Nat.le_trans g9.size (grown_set9 w9 g' 0 _ _).size)
                  have HTH : Hid (w9.there g' (X * 5 + 3) 1) := there_grown9 HTH0.out g9 (fun e => HUG.out g' e rfl) HGT.out.2
                  obtain ⟨yq, mq, ycq, rfl⟩ := o9.ri.sl
                  clear o9 g9 hu9 hRP hVP HWT c0 c3
                  go_wp2_with (refine wpList_store_cell9 rfl rfl 38 (.tmp 81) (.tmp 79) rfl g' (X * 5 + 3) (.slice yq mq ycq) rfl rfl rfl HTH.out size1_ints ?_; intro W9 hW9; rw [← hW9] at HNX HRN HKN HSN; clear hW9)
                  go_roundw
                  case rel => exact ⟨m + 1, by omega, by go_num, HNX.out, HRN.out, HKN.out, HSN.out⟩
                  case measure => simp [intOf]; omega
              · obtain rfl : m = K9 := by omega
                have HFIN := Lib.hid (And.intro hx.no.nl hkp)
                have i5 : ¬ (m : Int) < (m : Int) := by omega
                clear hx hbd hri hkp hsz
                go_wp2_with fail
                go_ret3
                exact ⟨⟨_, rfl, HFIN.out.1⟩, HFIN.out.2⟩
    · rw [decide_eq_false h32] at HH
      have hm : ¬ mayP name pub := fun h => h32 h.2.2
      have e1 : addE t name pub = 1 := by unfold addE; rw [if_neg hm]
      obtain ⟨e2, e3⟩ := add_no 1 e1 (by decide)
      rw [e1, e2, e3]
      clear hu hv hr hn hT h1 h32 hm e1 e2 e3 z1 z2 z3
      go_enter Tryz.func22, Tryz.ntmps22
      go_wp2_with fail
      refine HC.out.mono ?_; rintro _ w1 ⟨⟨r, P, U, H, rfl, hx⟩, k1⟩
      have HF := Lib.hid (And.intro hx.no.nl k1)
      obtain ⟨ar, nr, cr, rfl⟩ := hx.no.nl.sl
      clear hx k1 HC
      go_wp2_with fail
      refine (HNM.out w1).mono ?_; rintro _ _ ⟨rfl, rfl⟩
      go_wp2_with fail
      refine (HH.out w1 HF.out.2).mono ?_; rintro _ _ ⟨rfl, rfl⟩
      go_wp2_with fail
      go_ret3
      exact ⟨⟨_, rfl, HF.out.1⟩, HF.out.2⟩
  · rw [decide_eq_false h1] at HNM
    have hm : ¬ mayP name pub := fun h => h1 ⟨h.1, h.2.1⟩
    have e1 : addE t name pub = 1 := by unfold addE; rw [if_neg hm]
    obtain ⟨e2, e3⟩ := add_no 1 e1 (by decide)
    rw [e1, e2, e3]
    clear hu hv hr hn hT h1 hm e1 e2 e3 z1 z2 z3
    go_enter Tryz.func22, Tryz.ntmps22
    go_wp2_with fail
    refine HC.out.mono ?_; rintro _ w1 ⟨⟨r, P, U, H, rfl, hx⟩, k1⟩
    have HF := Lib.hid (And.intro hx.no.nl k1)
    obtain ⟨ar, nr, cr, rfl⟩ := hx.no.nl.sl
    clear hx k1 HC
    go_wp2_with fail
    refine (HNM.out w1).mono ?_; rintro _ _ ⟨rfl, rfl⟩
    go_wp2_with fail
    go_ret3
    exact ⟨⟨_, rfl, HF.out.1⟩, HF.out.2⟩
end Go.Proofs.YtnpobcggadojkaaGreatDoor

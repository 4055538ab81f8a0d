/- tree.isName, isHalf, size, root, newLeaf, New, path. -/
import Derived.Test.YtnpobcggadojkaaGreatDoorTreePl9
import Derived.Test.YtnpobcggadojkaaGreatDoorRefTree9
import Derived.Test.YtnpobcggadojkaaGreatDoorMathCode9
import Derived.Test.YtnpobcggadojkaaGreatDoorByt9
import Derived.WalkMore
set_option linter.unusedVariables false
set_option linter.unusedSimpArgs false
namespace Go.Proofs.YtnpobcggadojkaaGreatDoor
open Go.RowKit

theorem treeIsName_any (name : Int) (w : World) :
    Calls Tryz.prog 35 #[.int .i64 name] w fun e w' => e = .returned (.bool (decide (0 ≤ name ∧ name ≤ 65535))) ∧ w = w' := by
  by_cases n0 : 0 ≤ name
  · by_cases n1 : name < 65536
    · rw [decide_eq_true (show 0 ≤ name ∧ name ≤ 65535 from ⟨n0, by omega⟩)]
      go_enter Tryz.func35, Tryz.ntmps35
      go_wp2_with fail
      go_ret
      exact ⟨rfl, rfl⟩
    · rw [decide_eq_false (show ¬ (0 ≤ name ∧ name ≤ 65535) from fun h => n1 (by omega))]
      go_enter Tryz.func35, Tryz.ntmps35
      go_wp2_with fail
      go_ret
      exact ⟨rfl, rfl⟩
  · rw [decide_eq_false (show ¬ (0 ≤ name ∧ name ≤ 65535) from fun h => n0 h.1)]
    go_enter Tryz.func35, Tryz.ntmps35
    go_wp2_with fail
    go_ret
    exact ⟨rfl, rfl⟩

theorem treeIsHalf_any (v : Value) (pub : List UInt8) (w : World) (hv : Rd w v pub) :
    Calls Tryz.prog 36 #[v] w fun e w' => e = .returned (.bool (decide (pub.length = 32))) ∧ w = w' := by
  obtain ⟨a, c, rfl, h1, h2⟩ := hv.shape
  have hb2 : ((pub.length : Int) == 32) = decide (pub.length = 32) := by
    by_cases h : pub.length = 32
    · rw [h]; rfl
    · rw [decide_eq_false h]; exact beq_eq_false_iff_ne.2 (by omega)
  clear hv
  generalize decide (pub.length = 32) = B at *
  go_enter Tryz.func36, Tryz.ntmps36
  go_wp2_with fail
  go_ret
  exact ⟨rfl, rfl⟩

/-- How many leaves a row of nodes has; 0, if no tree is as long. -/
def sizeN (t : List Nod) : Nat := if isTB ((lvs t : Nat) : Int) = true ∧ 2 * lvs t = t.length + 1 then lvs t else 0
theorem sizeN_len {t : List Nod} {K : Nat} (hK : K ≤ 10) (h : t.length = 2 ^ (K + 1) - 1) : sizeN t = 2 ^ K ∧ lvs t = 2 ^ K := by
  have h1 := p2_succ K
  have h2 := p2_pos K
  have e1 : lvs t = 2 ^ K := by unfold lvs; omega
  refine ⟨?_, e1⟩
  unfold sizeN
  rw [e1, if_pos ⟨isTB_yes K hK, by omega⟩]
theorem sizeN_iff (t : List Nod) : sizeN t ≠ 0 ↔ ∃ K, K ≤ 10 ∧ t.length = 2 ^ (K + 1) - 1 := by
  constructor
  · intro h
    unfold sizeN at h
    split at h
    · next hb =>
      obtain ⟨K, hK, e⟩ := (isTB_iff _).1 hb.1
      have h1 := p2_succ K
      exact ⟨K, hK, by omega⟩
    · exact absurd rfl h
  · rintro ⟨K, hK, h⟩
    have := (sizeN_len hK h).1
    have := p2_pos K
    omega
theorem sizeN_le (t : List Nod) : sizeN t ≤ 1024 ∧ (sizeN t ≠ 0 → sizeN t = lvs t ∧ 2 * sizeN t = t.length + 1) := by
  unfold sizeN
  split
  · next h => have := isTB_bounds h.1; exact ⟨by omega, fun _ => ⟨rfl, h.2⟩⟩
  · exact ⟨by omega, fun h => absurd rfl h⟩
set_option maxHeartbeats 1000000 in
theorem treeSize_any (u : Value) (t : List Nod) (w : World) (hu : NL w u t) (hl : t.length ≤ 100000) :
    Calls Tryz.prog 41 #[u] w fun e w' => e = .returned (.int .i64 ((sizeN t : Nat) : Int)) ∧ w = w' := by
  obtain ⟨a, c, rfl, h1, h2⟩ := hu.shape
  obtain ⟨i1, i2⟩ := lvs_int (t := t) hl
  have i3 : IntKind.i64.wrap ((lvs t : Nat) : Int) = ((lvs t : Nat) : Int) := IntWalk.i64_in _ (by have := lvs_max (t := t) hl; omega)
  have HW := Lib.hid (mathWidth_same ((lvs t : Nat) : Int) w)
  by_cases hb : isTB ((lvs t : Nat) : Int) = true
  · rw [show widV ((lvs t : Nat) : Int) = 2 * ((lvs t : Nat) : Int) - 1 from if_pos hb, show widE ((lvs t : Nat) : Int) = 0 from if_pos hb] at HW
    by_cases he : 2 * lvs t = t.length + 1
    · rw [show sizeN t = lvs t from if_pos ⟨hb, he⟩]
      have hne : ¬ (2 * ((lvs t : Nat) : Int) - 1 ≠ (t.length : Int)) := by omega
      have hn2 : (2 * ((lvs t : Nat) : Int) - 1 != (t.length : Int)) = false := bne_eq_false_iff_eq.2 (by omega)
      have hn3 : 2 * ((lvs t : Nat) : Int) - 1 = (t.length : Int) := by omega
      rw [hn3] at HW
      clear hb he hu hne hn2 hn3
      generalize ((lvs t : Nat) : Int) = L at *
      go_enter Tryz.func41, Tryz.ntmps41
      go_wp2_with fail
      refine HW.out.mono ?_; rintro _ _ ⟨rfl, rfl⟩
      go_wp2_with fail
      go_ret
      exact ⟨rfl, rfl⟩
    · rw [show sizeN t = 0 from if_neg fun h => he h.2]
      have hn2 : (2 * ((lvs t : Nat) : Int) - 1 != (t.length : Int)) = true := bne_iff_ne.2 (by omega)
      have hn3 : ¬ 2 * ((lvs t : Nat) : Int) - 1 = (t.length : Int) := by omega
      clear hb he hu
      generalize 2 * ((lvs t : Nat) : Int) - 1 = M at *
      generalize ((lvs t : Nat) : Int) = L at *
      go_enter Tryz.func41, Tryz.ntmps41
      go_wp2_with fail
      refine HW.out.mono ?_; rintro _ _ ⟨rfl, rfl⟩
      go_wp2_with fail
      go_ret
      exact ⟨rfl, rfl⟩
  · rw [show sizeN t = 0 from if_neg fun h => hb h.1]
    rw [show widV ((lvs t : Nat) : Int) = 0 from if_neg hb, show widE ((lvs t : Nat) : Int) = 1 from if_neg hb] at HW
    clear hb hu
    generalize ((lvs t : Nat) : Int) = L at *
    go_enter Tryz.func41, Tryz.ntmps41
    go_wp2_with fail
    refine HW.out.mono ?_; rintro _ _ ⟨rfl, rfl⟩
    go_wp2_with fail
    go_ret
    exact ⟨rfl, rfl⟩
theorem treeRoot_any (u : Value) (t : List Nod) (w : World) (hu : NL w u t) (hl : t.length ≤ 100000) :
    Calls Tryz.prog 48 #[u] w fun e w' => e = .returned (.int .i64 (((sizeN t : Nat) : Int) - 1)) ∧ w = w' := by
  have HS := Lib.hid (treeSize_any u t w hu hl)
  obtain ⟨a, c, rfl, h1, h2⟩ := hu.shape
  have i3 : IntKind.i64.wrap (((sizeN t : Nat) : Int) - 1) = ((sizeN t : Nat) : Int) - 1 := IntWalk.i64_in _ (by have := (sizeN_le t).1; omega)
  clear hu
  generalize ((sizeN t : Nat) : Int) = L at *
  go_enter Tryz.func48, Tryz.ntmps48
  go_wp2_with fail
  refine HS.out.mono ?_; rintro _ _ ⟨rfl, rfl⟩
  go_wp2_with fail
  go_ret
  exact ⟨rfl, rfl⟩

theorem Step.setCells {Y : Nat → Prop} {A B : World} (h : Step Y A B) {b : Nat} (hb : A.heap.size ≤ b ∨ Y b) : ∀ (vs : List Value) (o : Nat), Step Y A (B.setCells b o vs) := by
  intro vs
  induction vs generalizing B with
  | nil => intro o; exact h
  | cons v vs ih => intro o; exact ih (h.setCell _ _ hb) (o + 1)
theorem Ow.stepY {e : TypeId} {Y : Nat → Prop} {A A' : World} {B : Nat} {v : Value} {l : List UInt8} (h : Ow e A B v l) (hs : Step Y A A') (ho : ∀ g, v.ownBlock = some g → ¬ Y g) : Ow e A' B v l := ownsRow_step8 h hs ho
set_option maxHeartbeats 1000000 in
theorem treeNewLeaf_any (name : Int) (v : Value) (pub : List UInt8) (w : World) (hv : Rd w v pub) (hl : pub.length ≤ 1000000) :
    Calls Tryz.prog 37 #[.int .i64 name, v] w fun e w' => (∃ p, e = .returned (.agg #[.int .i64 1, .int .i64 name, p, .slice none 0 0, .slice none 0 0]) ∧ Ow 5 w' w.heap.size p pub) ∧ Kp w w' := by
  have HC := Lib.hid (fun W (hW : Kp w W) => clone_any v pub W (hv.kp hW) (by omega))
  obtain ⟨a, c, rfl, h1, h2⟩ := hv.shape
  clear hv
  go_enter Tryz.func37, Tryz.ntmps37
  go_wp2_with fail
  refine (HC.out _ ((Kp.refl _).alloc _)).mono ?_; rintro _ w2 ⟨p, rfl, o2, k2⟩
  have k3 : Kp w w2 := ((Kp.refl _).alloc _).trans k2
  have hb : Bx w2 w.heap.size 57 #[.int .i64 0, .int .i64 0, .slice none 0 0, .slice none 0 0, .slice none 0 0] := (Bx.new _ _ _).kp k2
  have hth := hb.there
  have hb2 := hb.fill #[.int .i64 1, .int .i64 name, p, .slice none 0 0, .slice none 0 0] rfl
  have k4 : Kp w (w2.setCells w.heap.size 0 #[.int .i64 1, .int .i64 name, p, .slice none 0 0, .slice none 0 0].toList) := k3.setCells (Nat.le_refl _) _ _
  have o4 : Ow 5 (w2.setCells w.heap.size 0 #[.int .i64 1, .int .i64 name, p, .slice none 0 0, .slice none 0 0].toList) w.heap.size p pub :=
    (o2.stepY (Y := fun k => k = w.heap.size) ((Step.refl (fun k => k = w.heap.size) w2).setCells (b := w.heap.size) (.inr rfl) _ _) (fun g hg h => by have := (Ow.own_ge o2 g hg); simp at this; omega)).mono (by simp)
  obtain ⟨ap, np, cp, rfl⟩ := rd_sl9 o2.rd
  have hone : (#[.int .i64 1, .int .i64 name, .slice ap np cp, .slice none 0 0, .slice none 0 0] : Array Value).all (·.oneCell') = true := all_oneCell_toArray (nodC_one (w := w2) (n := leafN name pub) ⟨o2.rd, RI.nil _, rd_nil9 _⟩)
  have HO := Lib.hid (And.intro o4 k4)
  have HB2 := Lib.hid hb2
  clear o2 k2 k3 HC hb o4 k4 hb2
  go_wp2_with (refine wpList_store_mid rfl 57 (.tmp 4) (.tmp 8) rfl w.heap.size 0 #[.int .i64 1, .int .i64 name, .slice ap np cp, .slice none 0 0, .slice none 0 0] rfl rfl hth infoNode5 hone ?_)
  refine bodyPost_ret (results_cell_row rfl _ _ w.heap.size _ _ (0, 0) _ rfl HB2.out Tryz.underlying57 rfl infoNode5) rfl ?_
  exact ⟨⟨_, rfl, HO.out.1⟩, HO.out.2⟩

set_option maxHeartbeats 1000000 in
theorem treeNew_any (name : Int) (v : Value) (pub : List UInt8) (w : World) (hv : Rd w v pub) (hn : -9223372036854775808 ≤ name ∧ name ≤ 9223372036854775807) (hT : Tab w) :
    Calls Tryz.prog 10 #[.int .i64 name, v] w fun e w' => (∃ r, e = .returned (.tuple #[r, .int .i64 (newE name pub)]) ∧ NL w' r (newV name pub)) ∧ Kp w w' := by
  have H1 := Lib.hid (treeIsName_any name w)
  have H2 := Lib.hid (treeIsHalf_any v pub w hv)
  by_cases h1 : 0 ≤ name ∧ name ≤ 65535
  · rw [decide_eq_true h1] at H1
    by_cases h2 : pub.length = 32
    · rw [decide_eq_true h2] at H2
      have hm : mayP name pub := ⟨h1.1, h1.2, h2⟩
      rw [show newE name pub = 0 from if_pos hm, show newV name pub = [leafN name pub] from if_pos hm]
      have H3 := Lib.hid (treeNewLeaf_any name v pub w hv (by omega))
      obtain ⟨a, c, rfl, _, _⟩ := hv.shape
      clear hv h1 h2 hm hn hT
      go_enter Tryz.func10, Tryz.ntmps10
      go_wp2_with fail
      refine H1.out.mono ?_; rintro _ _ ⟨rfl, rfl⟩
      go_wp2_with fail
      refine H2.out.mono ?_; rintro _ _ ⟨rfl, rfl⟩
      go_wp2_with fail
      refine H3.out.mono ?_; rintro _ w3 ⟨⟨p, rfl, o3⟩, k3⟩
      have HN := Lib.hid (NL.lit1 w3 57 (leafN name pub) p (.slice none 0 0) (.slice none 0 0) ⟨o3.rd, RI.nil _, rd_nil9 _⟩)
      have HK := Lib.hid (k3.alloc (.cells #[.int .i64 1, .int .i64 name, p, .slice none 0 0, .slice none 0 0] 57))
      obtain ⟨ap, np, cp, rfl⟩ := rd_sl9 o3.rd
      clear o3 k3 H1 H2 H3
      go_wp2_with fail
      go_ret2
      exact ⟨⟨_, rfl, HN.out⟩, HK.out⟩
    · rw [decide_eq_false h2] at H2
      have hm : ¬ mayP name pub := fun h => h2 h.2.2
      rw [show newE name pub = 1 from if_neg hm, show newV name pub = [] from if_neg hm]
      obtain ⟨a, c, rfl, _, _⟩ := hv.shape
      clear hv h1 h2 hm hn hT
      go_enter Tryz.func10, Tryz.ntmps10
      go_wp2_with fail
      refine H1.out.mono ?_; rintro _ _ ⟨rfl, rfl⟩
      go_wp2_with fail
      refine H2.out.mono ?_; rintro _ _ ⟨rfl, rfl⟩
      go_wp2_with fail
      go_ret2
      exact ⟨⟨_, rfl, NL.nil _⟩, Kp.refl _⟩
  · rw [decide_eq_false h1] at H1
    have hm : ¬ mayP name pub := fun h => h1 ⟨h.1, h.2.1⟩
    rw [show newE name pub = 1 from if_neg hm, show newV name pub = [] from if_neg hm]
    obtain ⟨a, c, rfl, _, _⟩ := hv.shape
    clear hv h1 hm hn hT
    go_enter Tryz.func10, Tryz.ntmps10
    go_wp2_with fail
    refine H1.out.mono ?_; rintro _ _ ⟨rfl, rfl⟩
    go_wp2_with fail
    go_ret2
    exact ⟨⟨_, rfl, NL.nil _⟩, Kp.refl _⟩

/-- The path of a leaf that there is. -/
theorem treePath_any (u : Value) (t : List Nod) (K i : Nat) (w : World) (hu : NL w u t) (hK : K ≤ 10) (hl : t.length = 2 ^ (K + 1) - 1) (hi : i < 2 ^ K) (hT : Tab w) :
    Calls Tryz.prog 56 #[u, .int .i64 (i : Int)] w fun e w' => (∃ r, e = .returned r ∧ ON 3 w' w.heap.size r (pathN K 0 i)) ∧ Kp w w' := by
  have h1 := p2_succ K
  have h2 := p2_le hK
  have h3 := p2_pos K
  have HS := Lib.hid (treeSize_any u t w hu (by omega))
  rw [(sizeN_len hK hl).1] at HS
  have hp := mathPath_own K 0 i w hK (Nat.zero_le _) (by simpa using hi) hT
  rw [nd_leaf] at hp
  have HP := Lib.hid hp
  have i1 : IntKind.i64.wrap (2 * (i : Int)) = ((2 * i : Nat) : Int) := by rw [IntWalk.i64_in _ (by omega)]; omega
  obtain ⟨a, c, rfl, _, _⟩ := hu.shape
  generalize ((2 * i : Nat) : Int) = X at *
  generalize ((2 ^ K : Nat) : Int) = N at *
  clear hu hK hl hi hT h1 h2 h3 hp
  go_enter Tryz.func56, Tryz.ntmps56
  go_wp2_with fail
  refine HS.out.mono ?_; rintro _ _ ⟨rfl, rfl⟩
  go_wp2_with fail
  refine HP.out.mono ?_; rintro _ w2 ⟨⟨r, rfl, hr⟩, k2⟩
  have HR := Lib.hid (And.intro hr k2)
  obtain ⟨ar, nr, cr, rfl⟩ := (ON.rn hr).sl
  clear hr k2 HP HS
  go_wp2_with fail
  go_ret
  exact ⟨⟨_, rfl, HR.out.1⟩, HR.out.2⟩
end Go.Proofs.YtnpobcggadojkaaGreatDoor

/- tree.leaves: the leaves below a node that aren't blank, one by one; boxes that a loop over them keeps. -/
set_option linter.unusedVariables false
set_option linter.unusedSimpArgs false
namespace Go.Proofs.YtnpobcggadojkaaGreatDoor
open Go.RowKit

attribute [local go_sem] Oper.semAt_some

theorem treeLeaves_any (a : Option Addr) (n c : Nat) (x : Int) (w : World) :
    Calls Tryz.prog 47 #[.slice a n c, .int .i64 x] w fun e w' => e = .returned (.func (.func 80) #[] #[.pointer (some ⟨w.heap.size + 1, 0, none⟩), .pointer (some ⟨w.heap.size, 0, none⟩)]) ∧ (w.alloc (.cells #[.slice a n c] 22)).alloc (.cells #[.int .i64 x] 3) = w' := by
  go_enter Tryz.func47, Tryz.ntmps47
  go_wp2
  go_ret
  exact ⟨rfl, rfl⟩

/-- What is handed: a leaf's place, and it. -/
def leafT (t : List Nod) (a n : Nat) (i : Nat) (v : Array Value) : Prop :=
  ∃ p u h, v = #[.int .i64 (((nbL t a n).getD i 0 : Nat) : Int), .agg #[.int .i64 (ats t (2 * (nbL t a n).getD i 0)).kind, .int .i64 (ats t (2 * (nbL t a n).getD i 0)).name, p, u, h]] ∧ (∃ a n c, p = .slice a n c) ∧ (∃ a n c, u = .slice a n c) ∧ ∃ a n c, h = .slice a n c

set_option maxRecDepth 100000 in
set_option maxHeartbeats 4000000 in
theorem leaves_hands (t : List Nod) (j q b1 b2 gB off N c : Nat) (w : World) (hj : j ≤ 10) (hq : q < 2 ^ (10 - j)) (hlen : 2 * (2 ^ j * q + 2 ^ j - 1) < t.length) (hu : NL w (.slice (some ⟨gB, off, none⟩) N c) t)
    (h1 : w.cell? ⟨b1, 0, none⟩ = some (.int .i64 ((nd j q : Nat) : Int))) (h2 : w.cell? ⟨b2, 0, none⟩ = some (.slice (some ⟨gB, off, none⟩) N c)) (hTab : Tab w) :
    HandsA Tryz.prog 80 #[.pointer (some ⟨b1, 0, none⟩), .pointer (some ⟨b2, 0, none⟩)] (fun i v _ _ => leafT t (2 ^ j * q) (2 ^ j) i v) (nbL t (2 ^ j * q) (2 ^ j)).length (fun k => k = b1 ∨ k = b2 ∨ k = gB ∨ k = 1) w := by
  intro l J Jx W hh hl1 hl2 hJ hJx hY h0
  have c1 := hh.cell h1 (.inl rfl)
  have hT := hTab.held hh (.inr (.inr (.inr rfl)))
  have HJ := Lib.hid hJ
  have HY := Lib.hid hY
  obtain ⟨e1, e2⟩ := lv_nd hj hq
  have hpj := p2_pos j
  have hpj2 := p2_le hj
  have hN : N = t.length := by
    obtain ⟨a', c', e, _⟩ := hu.shape
    simp only [Value.slice.injEq] at e
    exact e.2.1
  have hbig : 2 ^ j * q + 2 ^ j ≤ 1024 := by
    have h3 : 2 ^ j * (q + 1) ≤ 2 ^ j * 2 ^ (10 - j) := Nat.mul_le_mul_left _ hq
    rw [← Nat.pow_add, Nat.mul_succ, show j + (10 - j) = 10 by omega] at h3
    omega
  have HL := Lib.hid (mathLeaves_same ((nd j q : Nat) : Int) W hT)
  rw [e1, e2] at HL
  have HC : Hid (∀ k, k < 2 ^ j → ∃ p u h, ∀ V, Held (fun k => k = b1 ∨ k = b2 ∨ k = gB ∨ k = 1) w V → V.cell? ⟨gB, off + 2 * (2 ^ j * q + k) * 5, none⟩ = some (.int .i64 (ats t (2 * (2 ^ j * q + k))).kind) ∧ V.cell? ⟨gB, off + 2 * (2 ^ j * q + k) * 5 + 1, none⟩ = some (.int .i64 (ats t (2 * (2 ^ j * q + k))).name) ∧
      V.cell? ⟨gB, off + 2 * (2 ^ j * q + k) * 5 + 2, none⟩ = some p ∧ V.cell? ⟨gB, off + 2 * (2 ^ j * q + k) * 5 + 3, none⟩ = some u ∧ V.cell? ⟨gB, off + 2 * (2 ^ j * q + k) * 5 + 4, none⟩ = some h ∧
      (∃ a n c, p = .slice a n c) ∧ (∃ a n c, u = .slice a n c) ∧ (∃ a n c, h = .slice a n c)) := fun k hk => by
    obtain ⟨b', off', ea, _, hi⟩ := hu.at (2 * (2 ^ j * q + k)) (by omega)
    simp only [Option.some.injEq, Addr.mk.injEq, and_true] at ea
    obtain ⟨rfl, rfl⟩ := ea
    obtain ⟨p, u, h, hn⟩ := hi (2 * (2 ^ j * q + k)) (by omega)
    refine ⟨p, u, h, fun V hV => ⟨hV.cell hn.kind (.inr (.inr (.inl rfl))), hV.cell hn.name (.inr (.inr (.inl rfl))), hV.cell hn.pubC (.inr (.inr (.inl rfl))), hV.cell hn.unC (.inr (.inr (.inl rfl))), hV.cell hn.hashC (.inr (.inr (.inl rfl))), rd_sl9 hn.2.pub, hn.2.un.sl, rd_sl9 hn.2.hash⟩⟩
  have HG := Lib.hid (fun k hk h => nbL_get (t := t) (a := 2 ^ j * q) (n := 2 ^ j) (k := k) hk h)
  have HX := Lib.hid (fun k h => nbL_next (t := t) (a := 2 ^ j * q) (k := k) h)
  have HS := Lib.hid (fun k h => nbL_same (t := t) (a := 2 ^ j * q) (k := k) h)
  have HT : Hid (∀ i pa pn pc ua un uc ha hn hc, leafT t (2 ^ j * q) (2 ^ j) i #[.int .i64 (((nbL t (2 ^ j * q) (2 ^ j)).getD i 0 : Nat) : Int), .agg #[.int .i64 (ats t (2 * (nbL t (2 ^ j * q) (2 ^ j)).getD i 0)).kind, .int .i64 (ats t (2 * (nbL t (2 ^ j * q) (2 ^ j)).getD i 0)).name, .slice pa pn pc, .slice ua un uc, .slice ha hn hc]]) := fun i pa pn pc ua un uc ha hn hc => ⟨_, _, _, rfl, ⟨_, _, _, rfl⟩, ⟨_, _, _, rfl⟩, ⟨_, _, _, rfl⟩⟩
  have h00 : (nbL t (2 ^ j * q) 0).length = 0 := rfl
  have HH := Lib.hid hh
  have hlN : 2 * (2 ^ j * q + 2 ^ j - 1) < N := by omega
  have h2' := Lib.hid h2
  obtain ⟨F, hF⟩ : ∃ F : Nat → Nat, F = fun k => (nbL t (2 ^ j * q) k).length := ⟨_, rfl⟩
  have hFk : ∀ k, (nbL t (2 ^ j * q) k).length = F k := fun k => by rw [hF]
  simp only [hFk] at HG HX HS h00
  rw [hFk]
  rw [hFk] at HY
  have hLF : (nbL t (2 ^ j * q) (2 ^ j)).length = F (2 ^ j) := hFk _
  generalize hLL : nbL t (2 ^ j * q) (2 ^ j) = LL at *
  have h0' : J (F 0) (fun _ => False) W := by rw [h00]; exact h0
  generalize 2 ^ j * q = a at *
  generalize 2 ^ j = n at *
  clear hJ hY h1 h2 hTab hh hu e1 e2 hF hFk hq hLL h0 hN
  refine (callsIn_wide (n := 5)).1 ?_
  refine callsIn_of_wp Tryz.func80 rfl trivial ?_ rfl
  simp only [Tryz.ntmps80, List.append_toArray, List.append_nil, List.size_toArray, List.length_cons, List.length_nil, Nat.reduceAdd, Nat.reduceSub, Array.replicate_succ, Array.replicate_zero, List.push_toArray, List.nil_append, List.cons_append]
  gi_wp2_with (refine ⟨trivial, ?_⟩; gi_at_call 81; refine (callsIn_wide.2 HL.out).mono ?_; rintro _ _ ⟨rfl, rfl⟩)
  have HJX := Lib.hid hJx
  obtain ⟨HI, hHI⟩ : ∃ HI, a + n - 1 = HI := ⟨_, rfl⟩
  rw [hHI] at hlen hlN ⊢
  have c1h := Lib.hid c1
  clear hJx c1 HL h00 hT
  gi_loopw [6] (fun p wr => ∃ (k : Nat) (Y : Nat → Prop), k ≤ n ∧ p = .int .i64 (((a + k : Nat)) : Int) ∧ Held (fun k => k = b1 ∨ k = b2 ∨ k = gB ∨ k = 1) w wr ∧ J (F k) Y wr ∧ (∀ k, Y k → W.heap.size ≤ k ∧ k < wr.heap.size) ∧ W.heap.size ≤ wr.heap.size) (fun p _ => a + n - (intOf p).toNat)
  case atStart => exact ⟨0, _, by omega, rfl, HH.out, h0', fun _ h => h.elim, Nat.le_refl _⟩
  case round =>
    clear h0'
    obtain ⟨k, Y, hk, rfl, hhw, hjy, hyb, hsz⟩ := hrel
    have hmx : Tryz.prog.follows .mixedOrders = true := by kernel_rfl
    have hls : Tryz.prog.follows .lateStores = true := by kernel_rfl
    by_cases hlt : k < n
    · have HG1 := HG.out k hlt
      have HX1 := HX.out k
      have HS1 := HS.out k
      obtain ⟨p, u, h, hcc⟩ := HC.out k hlt
      have hM2 : a + (k + 1) = (a + k) + 1 := by omega
      obtain ⟨M, hM⟩ : ∃ M, a + k = M := ⟨_, rfl⟩
      rw [hM] at HG1 HX1 HS1 hM2 hcc ⊢
      have HM := Lib.hid hM
      have hMb : M ≤ HI := by omega
      have hMm : a + n - M = n - k := by omega
      have hX : ∃ X, 2 * M = X := ⟨_, rfl⟩
      obtain ⟨X, hX⟩ := hX
      have hXN : X < N := by omega
      rw [hX] at HG1 HX1 HS1 hcc
      have hle : (M : Int) ≤ (HI : Int) := by omega
      obtain ⟨d0, d1, d2, d3, d4, ⟨pa, pn, pc, rfl⟩, ⟨ua, un, uc, rfl⟩, ⟨ha, hn, hc, rfl⟩⟩ := hcc wr hhw
      have ct := hhw.cell h2'.out (.inr (.inl rfl))
      have i1 : IntKind.i64.wrap (2 * (M : Int)) = (X : Int) := by rw [IntWalk.i64_in _ (by omega)]; omega
      have i2 : (X : Int) < (N : Int) := by omega
      have i3 : IntKind.i64.wrap ((M : Int) + 1) = (((M + 1 : Nat)) : Int) := by rw [IntWalk.i64_in _ (by omega)]; omega
      have k5 : Kp wr (wr.alloc (.cells #[.int .i64 (ats t X).kind, .int .i64 (ats t X).name, .slice pa pn pc, .slice ua un uc, .slice ha hn hc] 57)) := (Kp.refl _).alloc _
      have HJ5 := Lib.hid (HJ.out (F k) Y Y _ _ hjy hyb (Step.of_kp k5) (fun _ h => .inl h))
      have HH5 : Hid (Held (fun k => k = b1 ∨ k = b2 ∨ k = gB ∨ k = 1) w (wr.alloc (.cells #[.int .i64 (ats t X).kind, .int .i64 (ats t X).name, .slice pa pn pc, .slice ua un uc, .slice ha hn hc] 57))) := hhw.trans (Held.of_kp k5)
      have HYB : Hid (∀ k', Y k' → W.heap.size ≤ k' ∧ k' < (wr.alloc (.cells #[.int .i64 (ats t X).kind, .int .i64 (ats t X).name, .slice pa pn pc, .slice ua un uc, .slice ha hn hc] 57)).heap.size) := fun k' h => ⟨(hyb k' h).1, Nat.lt_of_lt_of_le (hyb k' h).2 k5.size⟩
      have HLT := Lib.hid hlt
      have HMM := Lib.hid hMm
      have HM2 := Lib.hid hM2
      have HSZ := Lib.hid (show W.heap.size ≤ (wr.alloc (.cells #[.int .i64 (ats t X).kind, .int .i64 (ats t X).name, .slice pa pn pc, .slice ua un uc, .slice ha hn hc] 57)).heap.size from Nat.le_trans hsz k5.size)
      have HXD := Lib.hid hX
      by_cases hkd : (ats t X).kind = 0
      · have e1 := HS1 hkd
        have hne : (((ats t X).kind != 0)) = false := by rw [hkd]; rfl
        have HE := Lib.hid e1
        generalize (ats t X).kind = KD at *
        generalize (ats t X).name = NM at *
        clear e1 HG1 HX1 HS1 hjy hyb hhw hcc k5 hsz hM hMb hMm hX hXN hM2 hlt
        subst hkd
        gi_wp2
        refine ⟨fun f hf => (by cases hf), ?_⟩
        gi_wp2
        go_roundw
        case rel => exact ⟨k + 1, Y, by have := HLT.out; omega, by rw [HM2.out] <;> rfl, HH5.out, by rw [HE.out]; exact HJ5.out, HYB.out, HSZ.out⟩
        case measure => have := HLT.out; have := HMM.out; simp [intOf]; omega
      · have e1 := HX1 hkd
        have hne : (((ats t X).kind != 0)) = true := bne_iff_ne.2 hkd
        have eg := HG1 hkd
        have hlF : F k < F n := by rw [← hLF]; exact (List.getElem?_eq_some_iff.1 eg).1
        have egd : LL.getD (F k) 0 = M := by rw [List.getD_eq_getElem?_getD, eg]; rfl
        have hTT := HT.out (F k) pa pn pc ua un uc ha hn hc
        rw [egd, hX] at hTT
        obtain ⟨fn, tmps, assign, body, hy, hR⟩ := HY.out (F k) Y _ #[.int .i64 (M : Int), .agg #[.int .i64 (ats t X).kind, .int .i64 (ats t X).name, .slice pa pn pc, .slice ua un uc, .slice ha hn hc]] 4 hlF HJ5.out HYB.out HH5.out hTT
        have HE := Lib.hid e1
        have HTT := Lib.hid hTT
        have HlF := Lib.hid hlF
        generalize (ats t X).kind = KD at *
        generalize (ats t X).name = NM at *
        clear e1 HG1 HX1 HS1 hjy hyb hhw hcc k5 hsz hM hMb hMm hX hXN hM2 hlt eg egd hTT hlF
        gi_wp2
        refine hR.mono ?_
        rintro e w2 ⟨hh2, (⟨rfl, hj2⟩ | ⟨rfl, hx2⟩)⟩
        · have HH3 := Lib.hid (HH5.out.trans (hh2.mono (fun _ h => .inr h)))
          have HZ := Lib.hid hh2.size
          clear hy hR hh2
          gi_wp2
          go_roundw
          case rel => exact ⟨k + 1, Y, by have := HLT.out; omega, by rw [HM2.out] <;> rfl, HH3.out, by rw [HE.out]; exact hj2, fun k h => ⟨(HYB.out k h).1, Nat.lt_of_lt_of_le (HYB.out k h).2 HZ.out⟩, Nat.le_trans HSZ.out HZ.out⟩
          case measure => have := HLT.out; have := HMM.out; simp [intOf]; omega
        · have HZ := Lib.hid hh2.size
          clear hy hR hh2
          gi_wp2
          refine bodyPost_ret (results_none rfl _ _ _) rfl ?_
          exact ⟨⟨_, rfl⟩, Y, fun k h => ⟨(HYB.out k h).1, Nat.lt_of_lt_of_le (HYB.out k h).2 HZ.out⟩, .inr ⟨F k, HlF.out, hx2⟩⟩
    · obtain rfl : k = n := by omega
      have hle : ¬ ((a + k : Nat) : Int) ≤ (HI : Int) := by omega
      have HJY := Lib.hid (And.intro hyb hjy)
      obtain ⟨M, hM⟩ : ∃ M, a + k = M := ⟨_, rfl⟩
      rw [hM] at hle ⊢
      clear hjy hyb hhw hsz hM
      gi_wp2
      refine bodyPost_end (results_none rfl _ _ _) rfl ?_
      exact ⟨⟨_, rfl⟩, Y, HJY.out.1, .inl HJY.out.2⟩

/-- The iterator, laid. -/
theorem leaves_laid (t : List Nod) (j q : Nat) (x : Int) (hx : x = ((nd j q : Nat) : Int)) (a : Option Addr) (n c : Nat) (W : World) (hu : NL W (.slice a n c) t) (hj : j ≤ 10) (hq : q < 2 ^ (10 - j)) (hlen : 2 * (2 ^ j * q + 2 ^ j - 1) < t.length) (hT : Tab W) :
    ∃ gB, gB < W.heap.size ∧ HandsA Tryz.prog 80 #[.pointer (some ⟨W.heap.size + 1, 0, none⟩), .pointer (some ⟨W.heap.size, 0, none⟩)] (fun i v _ _ => leafT t (2 ^ j * q) (2 ^ j) i v) (nbL t (2 ^ j * q) (2 ^ j)).length
      (fun k => k = W.heap.size + 1 ∨ k = W.heap.size ∨ k = gB ∨ k = 1) ((W.alloc (.cells #[.slice a n c] 22)).alloc (.cells #[.int .i64 x] 3)) := by
  subst hx
  have hN : n = t.length := by
    obtain ⟨a', c', e, _⟩ := hu.shape
    simp only [Value.slice.injEq] at e
    exact e.2.1
  obtain ⟨gB, off, rfl, hb, _⟩ := hu.at 0 (by omega)
  have k2 : Kp W ((W.alloc (.cells #[.slice (some ⟨gB, off, none⟩) n c] 22)).alloc (.cells #[.int .i64 ((nd j q : Nat) : Int)] 3)) := ((Kp.refl _).alloc _).alloc _
  refine ⟨gB, hb, leaves_hands t j q (W.heap.size + 1) W.heap.size gB off n c _ hj hq hlen (hu.kp k2) ?_ ?_ (hT.kp k2)⟩
  · have := (Boxed.new (W.alloc (.cells #[.slice (some ⟨gB, off, none⟩) n c] 22)) 3 (.int .i64 ((nd j q : Nat) : Int))).cell
    rwa [World.size_alloc] at this
  · exact ((Boxed.new W 22 (.slice (some ⟨gB, off, none⟩) n c)).alloc _).cell

/-- Boxes below n that a loop over an iterator keeps; all else as in w0. -/
structure Bxs (n : Nat) (w0 : World) (bs : List (Nat × TypeId × Value)) (A : World) : Prop where
  mk ::
  bx : ∀ x ∈ bs, Boxed A x.1 x.2.1 x.2.2
  lt : ∀ x ∈ bs, w0.heap.size ≤ x.1 ∧ x.1 < n
  kp : Kp w0 A
  sz : w0.heap.size ≤ n
theorem Bxs.step {n : Nat} {w0 : World} {bs : List (Nat × TypeId × Value)} {Y : Nat → Prop} {A A' : World} (h : Bxs n w0 bs A) (hs : Step Y A A') (hY : ∀ k, Y k → n ≤ k) : Bxs n w0 bs A' :=
  ⟨fun x hx => (hs.block _ (h.bx x hx).lt (fun e => by have := hY _ e; have := h.lt x hx; omega)).trans (h.bx x hx), h.lt, Below.trans h.kp (hs.below h.kp.size (fun k hk => by have := hY k hk; have := h.sz; omega)), h.sz⟩
theorem Bxs.to {n : Nat} {w0 : World} {bs : List (Nat × TypeId × Value)} {A A' : World} (h : Bxs n w0 bs A) (k : Kp A A') : Bxs n w0 bs A' := h.step (Y := fun _ => False) (Step.of_kp k) (fun _ h => h.elim)
theorem Bxs.minds {n : Nat} {w0 : World} {bs : List (Nat × TypeId × Value)} {B0 : Nat} (hB : n ≤ B0) : Minds B0 (fun _ A => Bxs n w0 bs A) := by
  intro Y Y' A A' h hY hs hg
  exact h.step hs (fun k hk => by have := hY k hk; omega)
/-- A store into one of them. -/
theorem Bxs.set {n : Nat} {w0 : World} {bs : List (Nat × TypeId × Value)} {A : World} (h : Bxs n w0 bs A) (i b : Nat) (T : TypeId) (v v' : Value) (hi : bs[i]? = some (b, T, v)) (hd : (bs.map (·.1)).Nodup) : Bxs n w0 (bs.set i (b, T, v')) (A.setCell ⟨b, 0, none⟩ v') := by
  have hb := h.bx _ (List.mem_of_getElem? hi)
  have hl := h.lt _ (List.mem_of_getElem? hi)
  have key : ∀ x ∈ bs.set i (b, T, v'), x = (b, T, v') ∨ (x ∈ bs ∧ x.1 ≠ b) := fun x hx => by
    obtain ⟨j, hj⟩ := List.getElem?_of_mem hx
    rw [List.getElem?_set] at hj
    by_cases e : i = j
    · subst e
      rw [if_pos rfl] at hj
      split at hj
      · left; exact (Option.some.inj hj).symm
      · cases hj
    · rw [if_neg e] at hj
      refine .inr ⟨List.mem_of_getElem? hj, fun e2 => e ?_⟩
      have h1 : (bs.map (·.1))[i]? = some b := by rw [List.getElem?_map, hi]; rfl
      have h2 : (bs.map (·.1))[j]? = some b := by rw [List.getElem?_map, hj]; simp [e2]
      obtain ⟨g1, f1⟩ := List.getElem?_eq_some_iff.1 h1
      obtain ⟨g2, f2⟩ := List.getElem?_eq_some_iff.1 h2
      rcases Nat.lt_trichotomy i j with h3 | h3 | h3
      · exact absurd (f1.trans f2.symm) (List.pairwise_iff_getElem.1 (List.nodup_iff_pairwise_ne.1 hd) i j g1 g2 h3)
      · exact h3
      · exact absurd (f2.trans f1.symm) (List.pairwise_iff_getElem.1 (List.nodup_iff_pairwise_ne.1 hd) j i g2 g1 h3)
  refine ⟨fun x hx => ?_, fun x hx => ?_, Below.setCell h.kp hl.1 _, h.sz⟩
  · rcases key x hx with rfl | ⟨hm, hne⟩
    · exact hb.set v'
    · exact (Below.heap_setCell A _ _ x.1 hne).trans (h.bx x hm)
  · rcases key x hx with rfl | ⟨hm, _⟩
    · exact hl
    · exact h.lt x hm
theorem Bxs.held {n : Nat} {w0 : World} {bs : List (Nat × TypeId × Value)} {A : World} (h : Bxs n w0 bs A) (i b : Nat) (T : TypeId) (v v' : Value) (hi : bs[i]? = some (b, T, v)) (R : Nat → Prop) (hR : ∀ k, R k → k ≠ b) : Held R A (A.setCell ⟨b, 0, none⟩ v') :=
  Held.of_step (Y := fun k => k = b) ((Step.refl _ A).setCell _ _ (.inr rfl)) (fun k hk e => hR k hk e)
theorem Bxs.cell {n : Nat} {w0 : World} {bs : List (Nat × TypeId × Value)} {A : World} (h : Bxs n w0 bs A) (i b : Nat) (T : TypeId) (v : Value) (hi : bs[i]? = some (b, T, v)) : A.cell? ⟨b, 0, none⟩ = some v := (h.bx _ (List.mem_of_getElem? hi)).cell
theorem Bxs.frozen {n : Nat} {w0 : World} {bs : List (Nat × TypeId × Value)} {A : World} (h : Bxs n w0 bs A) (i b : Nat) (T : TypeId) (v : Value) (hi : bs[i]? = some (b, T, v)) : A.frozen? ⟨b, 0, none⟩ = false := (h.bx _ (List.mem_of_getElem? hi)).frozen

theorem leaves_e : ∀ args w, (callFunc 80 args).run Tryz.prog w = .ok (.enter 80 args) w := enters_of Tryz.func80 (by kernel_rfl) rfl
/-- What a round must show. -/
def RoundOut (w0 W1 A : World) (bs : Nat → List (Nat × TypeId × Value)) (pI : Nat → Prop) (bx : Code → Nat → List (Nat × TypeId × Value)) (pX : Code → Nat → Prop) (i : Nat) (e : Exit) (B : World) : Prop :=
  Held (fun k => ¬ (w0.heap.size ≤ k ∧ k < W1.heap.size)) A B ∧ ((e = .normal ∧ pI (i + 1) ∧ Bxs W1.heap.size w0 (bs (i + 1)) B) ∨ ∃ c, leftBy e = some c ∧ pX c i ∧ Bxs W1.heap.size w0 (bx c i) B)
theorem RoundOut.go {w0 W1 A : World} {bs : Nat → List (Nat × TypeId × Value)} {pI : Nat → Prop} {bx : Code → Nat → List (Nat × TypeId × Value)} {pX : Code → Nat → Prop} {i : Nat} {B : World}
    (h : Held (fun k => ¬ (w0.heap.size ≤ k ∧ k < W1.heap.size)) A B) (hp : pI (i + 1)) (hb : Bxs W1.heap.size w0 (bs (i + 1)) B) : RoundOut w0 W1 A bs pI bx pX i .normal B := ⟨h, .inl ⟨rfl, hp, hb⟩⟩
theorem RoundOut.ret {w0 W1 A : World} {bs : Nat → List (Nat × TypeId × Value)} {pI : Nat → Prop} {bx : Code → Nat → List (Nat × TypeId × Value)} {pX : Code → Nat → Prop} {i : Nat} {B : World}
    (h : Held (fun k => ¬ (w0.heap.size ≤ k ∧ k < W1.heap.size)) A B) (hp : pX .ret i) (hb : Bxs W1.heap.size w0 (bx .ret i) B) : RoundOut w0 W1 A bs pI bx pX i .ret B := ⟨h, .inr ⟨.ret, rfl, hp, hb⟩⟩
theorem RoundOut.exit {w0 W1 A : World} {bs : Nat → List (Nat × TypeId × Value)} {pI : Nat → Prop} {bx : Code → Nat → List (Nat × TypeId × Value)} {pX : Code → Nat → Prop} {i : Nat} {B : World} {id : Nat}
    (h : Held (fun k => ¬ (w0.heap.size ≤ k ∧ k < W1.heap.size)) A B) (hp : pX (.exit id) i) (hb : Bxs W1.heap.size w0 (bx (.exit id) i) B) : RoundOut w0 W1 A bs pI bx pX i (.exit id) B := ⟨h, .inr ⟨.exit id, rfl, hp, hb⟩⟩
/-- A loop over the leaves below a node that aren't blank: what is kept in boxes of the caller's, from round to round. -/
theorem wp_range_leaves {g : Operand} {ps : Array Tmp} {assign body : Code} {Q : Exit → Act → World → Prop} {a : Act} {w : World}
    (t : List Nod) (j q : Nat) (x : Int) (hx : x = ((nd j q : Nat) : Int)) (b : Option Addr) (n c : Nat) (w0 W1 : World) (hu : NL w0 (.slice b n c) t) (hj : j ≤ 10) (hq : q < 2 ^ (10 - j)) (hlen : 2 * (2 ^ j * q + 2 ^ j - 1) < t.length) (hT : Tab w0) (hk : Kp w0 W1)
    (hw : (W1.alloc (.cells #[.slice b n c] 22)).alloc (.cells #[.int .i64 x] 3) = w)
    (hg : a.eval g = .func (.func 80) #[] #[.pointer (some ⟨W1.heap.size + 1, 0, none⟩), .pointer (some ⟨W1.heap.size, 0, none⟩)]) (hps : ps.size = 2)
    (bs : Nat → List (Nat × TypeId × Value)) (pI : Nat → Prop) (bx : Code → Nat → List (Nat × TypeId × Value)) (pX : Code → Nat → Prop)
    (h0 : pI 0 ∧ Bxs W1.heap.size w0 (bs 0) w) (Ax : Array Value → Act → World → Prop)
    (hAx : ∀ v a' A l o o', Ax v a' A → w.heap.size ≤ l → A.heap[l]? = some (.loop o) → Ax v a' (A.putObj l o'))
    (hassign : ∀ (l i : Nat) (v : Array Value) (A : World) (K : Act → World → Prop), leafT t (2 ^ j * q) (2 ^ j) i v → (∀ a' A', Kp A A' → Ax v a' A' → K a' A') →
      assign.wpIn (Fence.wide.inRound l) 4 Tryz.prog (Exit.then K (fun _ _ _ => False)) { tmps := (ps.zip v).foldl (fun t (p, v) => t.setIfInBounds p v) a.tmps, defers := [] } A)
    (hbody : ∀ (l i : Nat) (v : Array Value) (a' : Act) (A : World), i < (nbL t (2 ^ j * q) (2 ^ j)).length → leafT t (2 ^ j * q) (2 ^ j) i v → pI i → Bxs W1.heap.size w0 (bs i) A → Ax v a' A →
      body.wpIn (Fence.wide.inRound l) 4 Tryz.prog (fun e _ B => RoundOut w0 W1 A bs pI bx pX i e B) a' A)
    (hdone : ∀ (D : Nat) (W : World), W1.heap.size ≤ D → pI (nbL t (2 ^ j * q) (2 ^ j)).length → Bxs W1.heap.size w0 (bs (nbL t (2 ^ j * q) (2 ^ j)).length) W → W.heap[D]? = some (.deferred (some [])) → Q .normal { a with defers := { target := .collected D, args := #[] } :: a.defers } W)
    (hstop : ∀ (D : Nat) (c : Code) (i : Nat) (W : World), W1.heap.size ≤ D → i < (nbL t (2 ^ j * q) (2 ^ j)).length → pX c i → Bxs W1.heap.size w0 (bx c i) W → W.heap[D]? = some (.deferred (some [])) → c.wp Tryz.prog Q { a with defers := { target := .collected D, args := #[] } :: a.defers } W) :
    (Code.rangeFunc g ps assign body).wp Tryz.prog Q a w := by
  have hN : n = t.length := by
    obtain ⟨a', c', e, _⟩ := hu.shape
    simp only [Value.slice.injEq] at e
    exact e.2.1
  obtain ⟨gB, off, rfl, hb, _⟩ := hu.at 0 (by omega)
  have k2 : Kp W1 w := by rw [← hw]; exact ((Kp.refl _).alloc _).alloc _
  have hs2 : w.heap.size = W1.heap.size + 2 := by rw [← hw]; simp
  have HH := leaves_hands t j q (W1.heap.size + 1) W1.heap.size gB off n c w hj hq hlen ((hu.kp hk).kp k2)
    (by
      subst hx
      have := (Boxed.new (W1.alloc (.cells #[.slice (some ⟨gB, off, none⟩) n c] 22)) 3 (.int .i64 ((nd j q : Nat) : Int))).cell
      rw [World.size_alloc] at this
      rw [← hw]
      exact this)
    (by rw [← hw]; exact ((Boxed.new W1 22 (.slice (some ⟨gB, off, none⟩) n c)).alloc _).cell) ((hT.kp hk).kp k2)
  have htl := hT.lt
  have hks := hk.size
  have hR : ∀ k, (k = W1.heap.size + 1 ∨ k = W1.heap.size ∨ k = gB ∨ k = 1) → k < w.heap.size ∧ ¬ (w0.heap.size ≤ k ∧ k < W1.heap.size) := fun k hk => by
    rcases hk with rfl | rfl | rfl | rfl <;> omega
  refine wp_range_handsA (T := fun i v _ _ => leafT t (2 ^ j * q) (2 ^ j) i v) hg leaves_e (Kp.refl w) (fun k hk => (hR k hk).1) HH (fun i v Y A h => ?_)
    (fun i Y A => pI i ∧ Bxs W1.heap.size w0 (bs i) A) (fun c i Y A => pX c i ∧ Bxs W1.heap.size w0 (bx c i) A) ?_ ?_ (fun _ _ _ _ _ _ _ _ h _ _ _ _ _ => h) h0 Ax hAx (fun l i Y Yi v A K _ hv hK => hassign l i v A K hv hK) ?_ ?_ ?_
  · obtain ⟨p, u, h, rfl, _⟩ := h
    rw [hps]; rfl
  · rintro i Y Y' A A' ⟨p, h⟩ hY hs hg'
    exact ⟨p, h.step hs (fun k hk => by have := hY k hk; omega)⟩
  · rintro c i Y Y' A A' ⟨p, h⟩ hY hs hg'
    exact ⟨p, h.step hs (fun k hk => by have := hY k hk; omega)⟩
  · rintro l i Y v a' A hi ⟨p, h⟩ hyb hRA hTv hax
    refine wpIn_mono (hbody l i v a' A hi hTv p h hax) ?_
    rintro e a3 B ⟨hh, hp⟩
    refine ⟨hh.mono fun k hk => ?_, hp⟩
    rcases hk with hk | hk
    · have := hyb k hk; omega
    · exact (hR k hk).2
  · rintro D Y W hD hY hYb ⟨p, h⟩ hd
    exact hdone D W (by omega) p h hd
  · rintro D c' i Y W hD hY hYb hi ⟨p, h⟩ hd
    exact hstop D c' i W (by omega) hi p h hd
end Go.Proofs.YtnpobcggadojkaaGreatDoor

/- tree.isBare. -/
set_option linter.unusedVariables false
set_option linter.unusedSimpArgs false
namespace Go.Proofs.YtnpobcggadojkaaGreatDoor
open Go.RowKit

attribute [local go_sem] Oper.semAt_some

theorem leafT.un {t : List Nod} {a n i : Nat} {v : Array Value} (h : leafT t a n i v) {LL : List Nat} (hl : nbL t a n = LL) :
    ∃ p u h, v = #[.int .i64 ((LL.getD i 0 : Nat) : Int), .agg #[.int .i64 (ats t (2 * LL.getD i 0)).kind, .int .i64 (ats t (2 * LL.getD i 0)).name, p, u, h]] ∧ (∃ a n c, p = .slice a n c) ∧ (∃ a n c, u = .slice a n c) ∧ ∃ a n c, h = .slice a n c := by subst hl; exact h
/-- A result that lies in a box. -/
theorem load_box9 {P : Program} {w : World} {b : Nat} {T ty : TypeId} {v : Value} {d : TypeDesc} (hb : Boxed w b T v) (hu : P.underlying ty = some d) (hd : (match d with | .struct _ | .array _ _ => true | _ => false) = false) :
    (loadVar ty ⟨b, 0, none⟩).run P w = .ok v w := by
  have hagg : (isAgg ty).run P w = .ok false w := by
    unfold isAgg
    rw [Sem.run_bind, run_underlying hu]
    cases d <;> simp_all [Result.andThen]
  have hc := hb.cell
  unfold loadVar
  rw [Sem.run_bind, hagg]
  simp [Result.andThen, go_sem, hc]
theorem results_box9 {P : Program} {fn : Func} {p : Tmp} {ty T : TypeId} (h : fn.results = #[.cell p ty]) {tmps : Array Value} {w : World} {b : Nat} {v : Value} {d : TypeDesc} (hp : tmps.getD p undef = .pointer (some ⟨b, 0, none⟩)) (hb : Boxed w b T v) (hu : P.underlying ty = some d) (hd : (match d with | .struct _ | .array _ _ => true | _ => false) = false) :
    (results fn tmps).run P w = .ok v w := by
  have hp' : tmps[p]?.getD undef = .pointer (some ⟨b, 0, none⟩) := by simpa using hp
  simp [results, h, hp', asAddr, load_box9 hb hu hd]
theorem results_box29 {P : Program} {fn : Func} {p p2 : Tmp} {ty T ty2 T2 : TypeId} (h : fn.results = #[.cell p ty, .cell p2 ty2]) {tmps : Array Value} {w : World} {b b2 : Nat} {v v2 : Value} {d d2 : TypeDesc} (hp : tmps.getD p undef = .pointer (some ⟨b, 0, none⟩)) (hb : Boxed w b T v) (hu : P.underlying ty = some d) (hd : (match d with | .struct _ | .array _ _ => true | _ => false) = false)
    (hp2 : tmps.getD p2 undef = .pointer (some ⟨b2, 0, none⟩)) (hb2 : Boxed w b2 T2 v2) (hu2 : P.underlying ty2 = some d2) (hd2 : (match d2 with | .struct _ | .array _ _ => true | _ => false) = false) :
    (results fn tmps).run P w = .ok (.tuple #[v, v2]) w := by
  have hp' : tmps[p]?.getD undef = .pointer (some ⟨b, 0, none⟩) := by simpa using hp
  have hp2' : tmps[p2]?.getD undef = .pointer (some ⟨b2, 0, none⟩) := by simpa using hp2
  simp [results, h, hp', hp2', asAddr, load_box9 hb hu hd, load_box9 hb2 hu2 hd2]
set_option maxRecDepth 100000 in
set_option maxHeartbeats 4000000 in
theorem treeIsBare_any (t : List Nod) (j q : Nat) (x : Int) (hx : x = ((nd j q : Nat) : Int)) (u : Value) (w : World) (hu : NL w u t) (hj : j ≤ 10) (hq : q < 2 ^ (10 - j)) (hlen : 2 * (2 ^ j * q + 2 ^ j - 1) < t.length) (hT : Tab w) :
    Calls Tryz.prog 90 #[u, .int .i64 x] w fun e w' => e = .returned (.bool (decide ((nbL t (2 ^ j * q) (2 ^ j)).length = 0))) ∧ Kp w w' := by
  obtain ⟨a, n, c, rfl⟩ := hu.sl
  have HP := Lib.hid (And.intro hx (And.intro hu (And.intro hj (And.intro hq (And.intro hlen hT)))))
  clear hj hq hlen hu hT hx
  refine (callsIn_wide (n := 4)).1 ?_
  refine callsIn_of_wp_marks Tryz.func90 rfl trivial ?_ rfl
  refine wpIn_wide.2 ?_
  simp only [Tryz.ntmps90, List.append_toArray, List.size_toArray, List.length_nil, List.length_cons, Nat.reduceAdd, Nat.reduceSub, Array.replicate_succ, Array.replicate_zero, List.push_toArray, List.nil_append, List.cons_append]
  go_wp2_with fail
  obtain ⟨W1, hW1⟩ : ∃ W1, w.alloc (.cells #[.bool false] 4) = W1 := ⟨_, rfl⟩
  rw [hW1]
  have hs1 : W1.heap.size = w.heap.size + 1 := by rw [← hW1]; simp
  have k1 : Kp w W1 := by rw [← hW1]; exact (Kp.refl _).alloc _
  have hb1 : Boxed W1 w.heap.size 4 (.bool false) := by rw [← hW1]; exact Boxed.new _ _ _
  refine (treeLeaves_any _ _ _ _ _).mono ?_; rintro _ W2 ⟨rfl, hW2⟩
  have k2 : Kp W1 W2 := by rw [← hW2]; exact ((Kp.refl _).alloc _).alloc _
  have hb2 : Hid (Bxs W1.heap.size w [(w.heap.size, 4, .bool false)] W2) := Bxs.to ⟨fun x hx => by simp at hx; subst hx; exact hb1, fun x hx => by simp at hx; subst hx; simp; omega, k1, k1.size⟩ k2
  have HK1 := Lib.hid k1
  have HW2 := Lib.hid hW2
  have HS := Lib.hid hs1
  clear hW1 hW2 k1 k2 hb1 hs1
  go_wp2_with fail
  refine wp_range_leaves t j q x HP.out.1 a n c w W1 HP.out.2.1 HP.out.2.2.1 HP.out.2.2.2.1 HP.out.2.2.2.2.1 HP.out.2.2.2.2.2 HK1.out HW2.out rfl rfl (fun _ => [(w.heap.size, 4, .bool false)]) (fun i => i = 0) (fun _ _ => [(w.heap.size, 4, .bool false)]) (fun c _ => c = .ret) ⟨rfl, hb2.out⟩
    (fun v a' _ => ∃ y z : Value, a' = { tmps := #[.slice a n c, .int .i64 x, undef, undef, .pointer (some ⟨w.heap.size, 0, none⟩), .slice a n c, .int .i64 x, .func (.func 80) #[] #[.pointer (some ⟨W1.heap.size + 1, 0, none⟩), .pointer (some ⟨W1.heap.size, 0, none⟩)], y, z], defers := [] }) (fun _ _ _ _ _ _ h _ _ => h) ?assign ?body ?done ?stop
  case assign =>
    intro l i v A Kk hTv hK
    obtain ⟨y, z, rfl⟩ : ∃ y z, v = #[y, z] := by obtain ⟨p, u, h, e, _⟩ := hTv; exact ⟨_, _, e⟩
    clear hTv
    gi_wp2
    exact hK _ _ (Kp.refl _) ⟨y, z, by simp⟩
  case body =>
    rintro l i v a' A hi hTv hpi hc ⟨y, z, rfl⟩
    have c1 := hc.cell 0 _ _ _ rfl
    have f1 := hc.frozen 0 _ _ _ rfl
    have HC := Lib.hid hc
    clear hTv hi hpi hc
    gi_wp2
    exact RoundOut.ret (HC.out.held 0 _ _ _ _ rfl _ (fun k hk e => hk (by have := HS.out; omega))) rfl (HC.out.set 0 _ _ _ _ rfl (by simp))
  case done =>
    intro D' W hD hpi hc hd
    rename_i Qp Kk hKk
    simp only [Exit.inBlock, Exit.then]
    refine hKk _ _ ?_
    have c1 := hc.cell 0 _ _ _ rfl
    have f1 := hc.frozen 0 _ _ _ rfl
    have HC := Lib.hid hc
    clear hc
    go_wp2
    have hc2 := HC.out.set 0 _ _ _ (.bool true) rfl (by simp)
    have hst : Step (fun k => k = D') (W.setCell ⟨w.heap.size, 0, none⟩ (.bool true)) ((W.setCell ⟨w.heap.size, 0, none⟩ (.bool true)).putObj D' (.deferred none)) := (Step.refl _ _).putObj _ _ (.inr rfl)
    have hd2 : (W.setCell ⟨w.heap.size, 0, none⟩ (.bool true)).heap[D']? = some (.deferred (some [])) := (Below.heap_setCell W _ _ D' (by have := HS.out; show D' ≠ w.heap.size; omega)).trans hd
    refine ⟨by simp, .inl ⟨_, _, rfl, run_takeDeferred hd2, ?_⟩⟩
    have hc3 := hc2.step hst (fun k hk => by omega)
    exact ⟨_, results_box9 rfl rfl (hc3.bx _ (List.mem_cons_self ..)) Tryz.underlying4 rfl, by rw [decide_eq_true (show _ from hpi)], hc3.kp⟩
  case stop =>
    rintro D' c i W hD hi rfl hc hd
    rename_i Qp Kk hKk
    have c1 := hc.cell 0 _ _ _ rfl
    have HC := Lib.hid hc
    clear hc
    go_wp2
    have hst : Step (fun k => k = D') W (W.putObj D' (.deferred none)) := (Step.refl _ W).putObj _ _ (.inr rfl)
    refine ⟨by simp, .inl ⟨_, _, rfl, run_takeDeferred hd, ?_⟩⟩
    have hc2 := HC.out.step hst (fun k hk => by omega)
    exact ⟨_, results_box9 rfl rfl (hc2.bx _ (List.mem_cons_self ..)) Tryz.underlying4 rfl, by rw [decide_eq_false (show ¬ (nbL t (2 ^ j * q) (2 ^ j)).length = 0 by omega)], hc2.kp⟩
end Go.Proofs.YtnpobcggadojkaaGreatDoor

/- tree.areBelow. -/
set_option linter.unusedVariables false
set_option linter.unusedSimpArgs false
namespace Go.Proofs.YtnpobcggadojkaaGreatDoor
open Go.RowKit

attribute [local go_sem] Oper.semAt_some

/-- How many have been met behind so many leaves. -/
def metN (un : List Int) (L : List Nat) : Nat → Nat
  | 0 => 0
  | i + 1 => if metN un L i < un.length ∧ un.getD (metN un L i) 0 = (L.getD i 0 : Nat) then metN un L i + 1 else metN un L i
theorem metN_le (un : List Int) (L : List Nat) : ∀ i, metN un L i ≤ un.length
  | 0 => Nat.zero_le _
  | i + 1 => by
    have := metN_le un L i
    unfold metN
    split
    · next h => omega
    · exact this
theorem metN_bel (un : List Int) (L : List Nat) : ∀ i, i ≤ L.length → isBel (un.drop (metN un L i)) (L.drop i) = isBel un L
  | 0, _ => rfl
  | i + 1, h => (bel_step (un := un) (L := L) (m := metN un L i) (i := i) (by omega)).symm.trans (metN_bel un L i (by omega))
theorem metN_all (un : List Int) (L : List Nat) : decide (metN un L L.length = un.length) = isBel un L := by
  rw [← metN_bel un L L.length (Nat.le_refl _), List.drop_length, isBel_nil, List.length_drop]
  have := metN_le un L L.length
  by_cases h : metN un L L.length = un.length
  · rw [decide_eq_true h, decide_eq_true (by omega)]
  · rw [decide_eq_false h, decide_eq_false (by omega)]
set_option maxRecDepth 100000 in
set_option maxHeartbeats 4000000 in
theorem treeAreBelow_any (u v : Value) (t : List Nod) (un : List Int) (j q : Nat) (x : Int) (hx : x = ((nd j q : Nat) : Int)) (w : World) (hu : NL w u t) (hv : RI w v un) (hj : j ≤ 10) (hq : q < 2 ^ (10 - j)) (hlen : 2 * (2 ^ j * q + 2 ^ j - 1) < t.length) (hT : Tab w) :
    Calls Tryz.prog 75 #[u, .int .i64 x, v] w fun e w' => e = .returned (.bool (isBel un (nbL t (2 ^ j * q) (2 ^ j)))) ∧ Kp w w' := by
  obtain ⟨a, n, c, rfl⟩ := hu.sl
  have HP := Lib.hid (And.intro hx (And.intro hu (And.intro hj (And.intro hq (And.intro hlen hT)))))
  have HV := Lib.hid hv
  obtain ⟨a2, c2, rfl, p2, s2⟩ := hv.shape
  obtain ⟨LL, hLL⟩ : ∃ LL, nbL t (2 ^ j * q) (2 ^ j) = LL := ⟨_, rfl⟩
  rw [hLL]
  have HLL := Lib.hid hLL
  have hln : LL.length ≤ 1024 := by rw [← hLL]; exact Nat.le_trans nbL_len (p2_le hj)
  have HLN := Lib.hid hln
  rw [← metN_all]
  obtain ⟨M, hM⟩ : ∃ M : Nat → Nat, ∀ i, metN un LL i = M i := ⟨_, fun _ => rfl⟩
  have hMS : ∀ i, M (i + 1) = if M i < un.length ∧ un.getD (M i) 0 = (LL.getD i 0 : Nat) then M i + 1 else M i := fun i => by rw [← hM i, ← hM (i + 1)]; rfl
  have HMS := Lib.hid hMS
  have HML : Hid (∀ i, M i ≤ un.length) := fun i => by rw [← hM]; exact metN_le _ _ i
  have HM0 : Hid (M 0 = 0) := (hM 0).symm
  rw [hM]
  obtain ⟨BO, hBO⟩ : ∃ BO : Bool, BO = decide (M LL.length = un.length) := ⟨_, rfl⟩
  rw [← hBO]
  have HBO := Lib.hid hBO
  obtain ⟨N, hN⟩ : ∃ N, un.length = N := ⟨_, rfl⟩
  rw [hN] at HMS HML HBO p2 HV ⊢
  unfold maxLen at s2
  obtain ⟨BS, hBS⟩ : ∃ BS : Nat → List (Nat × TypeId × Value), ∀ i, BS i = [(w.heap.size, 38, .slice a2 N c2), (w.heap.size + 1, 3, .int .i64 ((M i : Nat) : Int))] := ⟨_, fun _ => rfl⟩
  have HBS := Lib.hid hBS
  obtain ⟨PI, hPI⟩ : ∃ PI : Nat → Prop, ∀ i, PI i := ⟨fun _ => True, fun _ => trivial⟩
  obtain ⟨PX, hPX⟩ : ∃ PX : Code → Nat → Prop, ∀ c i, ¬ PX c i := ⟨fun _ _ => False, fun _ _ h => h⟩
  have HPI := Lib.hid hPI
  have HPX := Lib.hid hPX
  clear hu hv hT hLL hBO hN hM hMS hBS hlen hq hj hPI hPX hx hln
  refine (callsIn_wide (n := 4)).1 ?_
  refine callsIn_of_wp_marks Tryz.func75 rfl trivial ?_ rfl
  refine wpIn_wide.2 ?_
  simp only [Tryz.ntmps75, List.append_toArray, List.size_toArray, List.length_nil, List.length_cons, Nat.reduceAdd, Nat.reduceSub, Array.replicate_succ, Array.replicate_zero, List.push_toArray, List.nil_append, List.cons_append]
  go_wp2_with fail
  obtain ⟨W1, hW1⟩ : ∃ W1, (w.alloc (.cells #[.slice a2 N c2] 38)).alloc (.cells #[.int .i64 0] 3) = W1 := ⟨_, rfl⟩
  rw [hW1]
  have hs1 : W1.heap.size = w.heap.size + 2 := by rw [← hW1]; simp
  have k1 : Kp w W1 := by rw [← hW1]; exact ((Kp.refl _).alloc _).alloc _
  have hb1 : Boxed W1 w.heap.size 38 (.slice a2 N c2) := by rw [← hW1]; exact (Boxed.new _ _ _).alloc _
  have hb3 : Boxed W1 (w.heap.size + 1) 3 (.int .i64 ((M 0 : Nat) : Int)) := by
    rw [← hW1, HM0.out]
    have := Boxed.new (w.alloc (.cells #[.slice a2 N c2] 38)) 3 (.int .i64 0)
    rwa [World.size_alloc] at this
  refine (treeLeaves_any _ _ _ _ _).mono ?_; rintro _ W2 ⟨rfl, hW2⟩
  have k2 : Kp W1 W2 := by rw [← hW2]; exact ((Kp.refl _).alloc _).alloc _
  have hb2 : Hid (Bxs W1.heap.size w [(w.heap.size, 38, .slice a2 N c2), (w.heap.size + 1, 3, .int .i64 ((M 0 : Nat) : Int))] W2) := Bxs.to ⟨fun x hx => by simp at hx; rcases hx with rfl | rfl; all_goals (first | exact hb1 | exact hb3), fun x hx => by simp at hx; rcases hx with rfl | rfl <;> simp <;> omega, k1, k1.size⟩ k2
  have HK1 := Lib.hid k1
  have HW2 := Lib.hid hW2
  have HS := Lib.hid hs1
  clear hW1 hW2 k1 k2 hb1 hs1 hb3
  go_wp2_with fail
  refine wp_range_leaves t j q x HP.out.1 a n c w W1 HP.out.2.1 HP.out.2.2.1 HP.out.2.2.2.1 HP.out.2.2.2.2.1 HP.out.2.2.2.2.2 HK1.out HW2.out rfl rfl BS PI (fun _ => BS) PX ⟨HPI.out 0, by rw [HBS.out]; exact hb2.out⟩
    (fun v a' _ => ∃ y z : Value, v = #[y, z] ∧ a' = { tmps := #[.slice a n c, .int .i64 x, .slice a2 N c2, undef, undef, .pointer (some ⟨w.heap.size, 0, none⟩), .bool false, .pointer (some ⟨w.heap.size + 1, 0, none⟩), y, .slice a n c, .int .i64 x, .func (.func 80) #[] #[.pointer (some ⟨W1.heap.size + 1, 0, none⟩), .pointer (some ⟨W1.heap.size, 0, none⟩)], y, z, undef, undef, undef, undef, undef, undef, undef, undef, undef, undef, undef, undef, undef, undef, undef, undef, undef, undef], defers := [] }) (fun _ _ _ _ _ _ h _ _ => h) ?assign ?body ?done ?stop
  case assign =>
    intro l i v A Kk hTv hK
    obtain ⟨y, z, rfl⟩ : ∃ y z, v = #[y, z] := by obtain ⟨p, u, h, e, _⟩ := hTv; exact ⟨_, _, e⟩
    clear hTv
    gi_wp2
    exact hK _ _ (Kp.refl _) ⟨y, z, rfl, by simp⟩
  case body =>
    rintro l i v a' A hi hvv hpi hc ⟨y, z, hv2, rfl⟩
    obtain ⟨p, u, h, hv, _⟩ := hvv.un HLL.out
    rw [hv] at hv2
    simp only [Array.mk.injEq, List.cons.injEq, and_true] at hv2
    obtain ⟨rfl, rfl⟩ := hv2
    rw [HLL.out] at hi
    have hc0 := hc
    rw [HBS.out] at hc0
    have c1 := hc0.cell 0 _ _ _ rfl
    have c2' := hc0.cell 1 _ _ _ rfl
    have f2 := hc0.frozen 1 _ _ _ rfl
    have HC := Lib.hid hc
    have HC0 := Lib.hid hc0
    have hms := HMS.out i
    have hml := HML.out i
    have HN := Lib.hid (HPI.out (i + 1))
    have i1w : M i < N → IntKind.i64.wrap (((M i : Nat) : Int) + 1) = (((M i + 1 : Nat)) : Int) := fun h => by rw [IntWalk.i64_in _ (by omega)]; omega
    have hGO : M (i + 1) = M i → Hid (Bxs W1.heap.size w (BS (i + 1)) A) := fun e => by
      have h := HC0.out
      rw [← e] at h
      show Bxs W1.heap.size w (BS (i + 1)) A
      rw [HBS.out]
      exact h
    have HBSi := Lib.hid (HBS.out (i + 1))
    by_cases hm : M i < N
    · obtain ⟨g, o, rfl, _, hcc⟩ := HV.out.at (M i) hm
      have d1 := hc.kp.cell (hcc (M i) hm)
      have im : ((M i : Nat) : Int) < (N : Int) := by omega
      have i1 := i1w hm
      clear i1w
      by_cases he : un.getD (M i) 0 = ((LL.getD i 0 : Nat) : Int)
      · rw [if_pos ⟨hm, he⟩] at hms
        have HMSi := Lib.hid hms
        rw [he] at d1
        generalize ((LL.getD i 0 : Nat) : Int) = YY at *
        clear hv hi hpi hc hc0 he hvv hms hml hGO
        generalize M i = MI at *
        obtain ⟨I1, hI1⟩ : ∃ I1 : Int, ((MI + 1 : Nat) : Int) = I1 := ⟨_, rfl⟩
        have HI1 := Lib.hid hI1
        rw [hI1] at i1
        clear hI1
        gi_wp2
        exact RoundOut.go (HC0.out.held 1 _ _ _ _ rfl _ (fun k hk e => hk (by have := HS.out; omega))) HN.out (by rw [HBSi.out, HMSi.out, HI1.out]; exact HC0.out.set 1 _ _ _ _ rfl (by simp))
      · rw [if_neg (fun h => he h.2)] at hms
        have HG := hGO hms
        have hne : (un.getD (M i) 0 == ((LL.getD i 0 : Nat) : Int)) = false := beq_eq_false_iff_ne.2 he
        generalize un.getD (M i) 0 = UU at *
        generalize ((LL.getD i 0 : Nat) : Int) = YY at *
        clear hv hi hpi hc hc0 hvv hms hml hGO i1
        generalize M i = MI at *
        gi_wp2
        exact RoundOut.go (Held.refl _ _) HN.out HG.out
    · rw [if_neg (fun h => hm h.1)] at hms
      have HG := hGO hms
      have im : ¬ ((M i : Nat) : Int) < (N : Int) := by omega
      clear hv hi hpi hc hc0 hvv hms hml hGO i1w hm
      generalize M i = MI at *
      gi_wp2
      exact RoundOut.go (Held.refl _ _) HN.out HG.out
  case done =>
    intro D' W hD hpi hc hd
    rename_i Qp Kk hKk
    rw [HLL.out] at hc
    rw [HBS.out] at hc
    have c1 := hc.cell 0 _ _ _ rfl
    have c2' := hc.cell 1 _ _ _ rfl
    have HC := Lib.hid hc
    have hbo : (((M LL.length : Nat) : Int) == (N : Int)) = BO := by
      rw [HBO.out]
      by_cases h : M LL.length = N
      · rw [h, decide_eq_true rfl]; exact beq_self_eq_true _
      · rw [decide_eq_false h]; exact beq_eq_false_iff_ne.2 (by omega)
    clear hc hpi
    generalize M LL.length = ML at *
    simp only [Exit.inBlock, Exit.then]
    refine hKk _ _ ?_
    go_wp2
    have hst : Step (fun k => k = D') W (W.putObj D' (.deferred none)) := (Step.refl _ W).putObj _ _ (.inr rfl)
    refine ⟨by simp, .inl ⟨_, _, rfl, run_takeDeferred hd, ?_⟩⟩
    exact ⟨_, results_tmp rfl _ _ _, by first | rfl | (rw [← hbo]; rfl), (HC.out.step hst (fun k hk => by omega)).kp⟩
  case stop =>
    rintro D' c' i W hD hi hpx hc hd
    exact absurd hpx (HPX.out _ _)
end Go.Proofs.YtnpobcggadojkaaGreatDoor

/- tree.stands, isWhole. -/
set_option linter.unusedVariables false
set_option linter.unusedSimpArgs false
namespace Go.Proofs.YtnpobcggadojkaaGreatDoor
open Go.RowKit

/-- May a node of that kind and that name stand at a place? -/
def standsP (m : Nod) (x : Int) : Prop := if m.kind = 1 then levV x = 0 ∧ 0 ≤ m.name ∧ m.name ≤ 65535 else m.name = 0 ∧ (m.kind = 0 ∨ ¬ levV x = 0)
/-- Has a node all that its kind has, and nothing else? -/
def wholeP (t : List Nod) (j q : Nat) (m : Nod) : Prop :=
  (m.kind = 0 ∧ m.pub.length = 0 ∧ m.un.length = 0 ∧ m.hash.length = 0) ∨
  ((m.kind = 1 ∧ m.un.length = 0 ∨ m.kind = 2) ∧ m.pub.length = 32 ∧ (m.hash.length = 0 ∨ m.hash.length = 32) ∧ isBel m.un (nbL t (2 ^ j * q) (2 ^ j)) = true)
set_option maxHeartbeats 2000000 in
theorem treeStands_any (u : Value) (m : Nod) (x : Int) (w : World) (hu : NV w u m) (hT : Tab w) :
    Calls Tryz.prog 42 #[u, .int .i64 x] w fun e w' => Tells e (standsP m x) ∧ Kp w w' := by
  obtain ⟨p, y, h, rfl, hi⟩ := hu
  obtain ⟨a1, n1, c1, rfl⟩ := rd_sl9 hi.pub
  obtain ⟨a2, n2, c2, rfl⟩ := hi.un.sl
  obtain ⟨a3, n3, c3, rfl⟩ := rd_sl9 hi.hash
  have HL := Lib.hid (fun W (hW : Kp w W) => mathLevel_same x W (hT.kp hW))
  obtain ⟨k1, m1, q1, y1, z1⟩ := m
  have HN := Lib.hid (fun W => treeIsName_any m1 W)
  obtain ⟨SP, hSP⟩ : ∃ SP, standsP ⟨k1, m1, q1, y1, z1⟩ x = SP := ⟨_, rfl⟩
  rw [hSP]
  unfold standsP at hSP
  simp only [nodC, List.toArray] at hSP ⊢
  clear hi hT
  have k0 : Kp w (w.alloc (.cells #[.int .i64 k1, .int .i64 m1, .slice a1 n1 c1, .slice a2 n2 c2, .slice a3 n3 c3] 57)) := (Kp.refl _).alloc _
  by_cases e1 : k1 = 1
  · rw [if_pos e1] at hSP
    subst e1
    by_cases e2 : levV x = 0
    · rw [e2] at HL
      have HB : Hid (Tells (.returned (.bool (decide (0 ≤ m1 ∧ m1 ≤ 65535)))) SP) := ⟨_, rfl, by rw [← hSP, decide_eq_true_iff]; exact ⟨fun h => ⟨e2, h⟩, fun h => h.2⟩⟩
      generalize decide (0 ≤ m1 ∧ m1 ≤ 65535) = BB at *
      clear hSP e2
      go_enter Tryz.func42, Tryz.ntmps42
      go_wp2_with fail
      refine (HL.out _ k0).mono ?_; rintro _ _ ⟨rfl, rfl⟩
      go_wp2_with fail
      refine (HN.out _).mono ?_; rintro _ _ ⟨rfl, rfl⟩
      go_wp2_with fail
      go_ret
      exact ⟨HB.out, k0⟩
    · have HB : Hid (¬ SP) := by rw [← hSP]; exact fun h => e2 h.1
      have hne : (levV x == 0) = false := beq_eq_false_iff_ne.2 e2
      generalize levV x = LX at *
      clear hSP HN
      go_enter Tryz.func42, Tryz.ntmps42
      go_wp2_with fail
      refine (HL.out _ k0).mono ?_; rintro _ _ ⟨rfl, rfl⟩
      go_wp2_with fail
      go_ret
      exact ⟨Tells.no HB.out, k0⟩
  · rw [if_neg e1] at hSP
    have hne1 : (k1 == 1) = false := beq_eq_false_iff_ne.2 e1
    by_cases e2 : m1 = 0
    · subst e2
      by_cases e3 : k1 = 0
      · have HB : Hid SP := by rw [← hSP]; exact ⟨rfl, .inl e3⟩
        subst e3
        generalize levV x = LX at *
        clear hSP HN
        go_enter Tryz.func42, Tryz.ntmps42
        go_wp2_with fail
        refine (HL.out _ k0).mono ?_; rintro _ _ ⟨rfl, rfl⟩
        go_wp2_with fail
        go_ret
        exact ⟨Tells.yes HB.out, k0⟩
      · have hne2 : (k1 == 0) = false := beq_eq_false_iff_ne.2 e3
        by_cases e4 : levV x = 0
        · have HB : Hid (¬ SP) := by rw [← hSP]; exact fun h => h.2.elim e3 (fun h => h e4)
          rw [e4] at HL
          clear hSP HN
          go_enter Tryz.func42, Tryz.ntmps42
          go_wp2_with fail
          refine (HL.out _ k0).mono ?_; rintro _ _ ⟨rfl, rfl⟩
          go_wp2_with fail
          go_ret
          exact ⟨Tells.no HB.out, k0⟩
        · have HB : Hid SP := by rw [← hSP]; exact ⟨rfl, .inr e4⟩
          have hne : (levV x == 0) = false := beq_eq_false_iff_ne.2 e4
          generalize levV x = LX at *
          clear hSP HN
          go_enter Tryz.func42, Tryz.ntmps42
          go_wp2_with fail
          refine (HL.out _ k0).mono ?_; rintro _ _ ⟨rfl, rfl⟩
          go_wp2_with fail
          go_ret
          exact ⟨Tells.yes HB.out, k0⟩
    · have HB : Hid (¬ SP) := by rw [← hSP]; exact fun h => e2 h.1
      have hne2 : (m1 == 0) = false := beq_eq_false_iff_ne.2 e2
      generalize levV x = LX at *
      clear hSP HN
      go_enter Tryz.func42, Tryz.ntmps42
      go_wp2_with fail
      refine (HL.out _ k0).mono ?_; rintro _ _ ⟨rfl, rfl⟩
      go_wp2_with fail
      go_ret
      exact ⟨Tells.no HB.out, k0⟩

set_option maxHeartbeats 4000000 in
theorem treeIsWhole_any (u : Value) (t : List Nod) (j q x : Nat) (hxe : x = nd j q) (w : World) (hu : NL w u t) (hx : x < t.length) (hj : j ≤ 10) (hq : q < 2 ^ (10 - j)) (hlen : 2 * (2 ^ j * q + 2 ^ j - 1) < t.length) (hT : Tab w) :
    Calls Tryz.prog 43 #[u, .int .i64 (x : Int)] w fun e w' => Tells e (wholeP t j q (ats t x)) ∧ Kp w w' := by
  obtain ⟨a, c, rfl, p1, s1⟩ := hu.shape
  unfold maxLen at s1
  have HNL := Lib.hid hu
  obtain ⟨b, off, rfl, hb, hc⟩ := hu.at x hx
  obtain ⟨p, y, h, hn⟩ := hc x hx
  have HBEL := Lib.hid (fun W (hW : Kp w W) => treeAreBelow_any _ y t (ats t x).un j q (x : Int) (by rw [hxe]) W (HNL.out.kp hW) (hn.2.un.kp hW) hj hq hlen (hT.kp hW))
  have HHALF := Lib.hid (fun W (hW : Kp w W) => treeIsHalf_any p (ats t x).pub W (hn.2.pub.kp hW))
  obtain ⟨c0, c1, c2, c3, c4⟩ := And.intro hn.kind (And.intro hn.name (And.intro hn.pubC (And.intro hn.unC hn.hashC)))
  obtain ⟨ap, cp, rfl, _, _⟩ := hn.2.pub.shape
  obtain ⟨au, cu, rfl, _, _⟩ := hn.2.un.shape
  obtain ⟨ah, ch, rfl, _, _⟩ := hn.2.hash.shape
  have i3 : (x : Int) < (t.length : Int) := by omega
  obtain ⟨N, hN⟩ : ∃ N, t.length = N := ⟨_, rfl⟩
  rw [hN] at i3 p1 HBEL ⊢
  generalize hBL : isBel (ats t x).un (nbL t (2 ^ j * q) (2 ^ j)) = BL at *
  obtain ⟨WP, hWP⟩ : ∃ WP, wholeP t j q (ats t x) = WP := ⟨_, rfl⟩
  rw [hWP]
  unfold wholeP at hWP
  rw [hBL] at hWP
  generalize (ats t x) = n at *
  obtain ⟨kind, name, pub, un, hash⟩ := n
  simp only at hWP c0 c1 c2 c3 c4 HBEL HHALF ⊢
  have HX := Lib.hid HNL
  generalize hP : pub.length = P at *
  generalize hU : un.length = U at *
  generalize hH : hash.length = H at *
  clear hn hc hu hN hb hx HNL hT hBL hlen hP hU hH hxe
  have k0 : Kp w (w.alloc (.cells #[.int .i64 kind, .int .i64 name, .slice ap P cp, .slice au U cu, .slice ah H ch] 57)) := (Kp.refl _).alloc _
  by_cases e0 : kind = 0
  · subst e0
    have hWP2 : WP ↔ P = 0 ∧ U = 0 ∧ H = 0 := by
      rw [← hWP]
      constructor
      · rintro (⟨_, h⟩ | ⟨(⟨h, _⟩ | h), _⟩)
        · exact h
        · exact absurd h (by decide)
        · exact absurd h (by decide)
      · exact fun h => .inl ⟨rfl, h⟩
    clear hWP HBEL HHALF
    by_cases h1 : P = 0
    · subst h1
      by_cases h2 : U = 0
      · subst h2
        by_cases h3 : H = 0
        · subst h3
          have HB := Lib.hid (hWP2.2 ⟨rfl, rfl, rfl⟩)
          clear hWP2
          go_enter Tryz.func43, Tryz.ntmps43
          go_wp2_with fail
          go_ret
          exact ⟨Tells.yes HB.out, k0⟩
        · have HB := Lib.hid (show ¬ WP from fun e => h3 (hWP2.1 e).2.2)
          have e4 : ((H : Int) == 0) = false := beq_eq_false_iff_ne.2 (by omega)
          have e5 : ¬ (H : Int) = 0 := by omega
          clear hWP2
          go_enter Tryz.func43, Tryz.ntmps43
          go_wp2_with fail
          go_ret
          exact ⟨by first | exact Tells.no HB.out | (rw [e4]; exact Tells.no HB.out), k0⟩
      · have HB := Lib.hid (show ¬ WP from fun e => h2 (hWP2.1 e).2.1)
        have e5 : ¬ (U : Int) = 0 := by omega
        clear hWP2
        go_enter Tryz.func43, Tryz.ntmps43
        go_wp2_with fail
        go_ret
        exact ⟨Tells.no HB.out, k0⟩
    · have HB := Lib.hid (show ¬ WP from fun e => h1 (hWP2.1 e).1)
      have e5 : ¬ (P : Int) = 0 := by omega
      clear hWP2
      go_enter Tryz.func43, Tryz.ntmps43
      go_wp2_with fail
      go_ret
      exact ⟨Tells.no HB.out, k0⟩
  · by_cases e1 : kind = 1 ∧ ¬ U = 0
    · obtain ⟨rfl, h2⟩ := e1
      have HB : Hid (¬ WP) := by
        rw [← hWP]
        rintro (⟨h, _⟩ | ⟨(⟨_, h⟩ | h), _⟩)
        · exact absurd h (by decide)
        · exact h2 h
        · exact absurd h (by decide)
      have e5 : ¬ (U : Int) = 0 := by omega
      clear hWP HBEL HHALF
      go_enter Tryz.func43, Tryz.ntmps43
      go_wp2_with fail
      go_ret
      exact ⟨Tells.no HB.out, k0⟩
    · by_cases e2 : kind = 1 ∨ kind = 2
      · have hWP2 : WP ↔ P = 32 ∧ (H = 0 ∨ H = 32) ∧ BL = true := by
          rw [← hWP]
          constructor
          · rintro (⟨h, _⟩ | ⟨_, h⟩)
            · exact absurd h e0
            · exact h
          · intro h
            refine .inr ⟨?_, h⟩
            rcases e2 with e | e
            · exact .inl ⟨e, Decidable.byContradiction fun h => e1 ⟨e, h⟩⟩
            · exact .inr e
        have hU : kind = 1 → U = 0 := fun e => Decidable.byContradiction fun h => e1 ⟨e, h⟩
        clear hWP e1 e0
        by_cases h1 : P = 32
        · subst h1
          rw [decide_eq_true (rfl : 32 = 32)] at HHALF
          by_cases h2 : H = 0 ∨ H = 32
          · have HB : Hid (Tells (.returned (.bool BL)) WP) := ⟨_, rfl, by rw [hWP2]; exact ⟨fun h => ⟨rfl, h2, h⟩, fun h => h.2.2⟩⟩
            clear hWP2
            rcases h2 with rfl | rfl
            · rcases e2 with rfl | rfl
              · obtain rfl := hU rfl
                clear hU
                go_enter Tryz.func43, Tryz.ntmps43
                go_wp2_with fail
                refine (HHALF.out _ k0).mono ?_; rintro _ _ ⟨rfl, rfl⟩
                go_wp2_with fail
                refine (HBEL.out _ k0).mono ?_; rintro _ w2 ⟨rfl, k2⟩
                have KK := Lib.hid (k0.trans k2)
                clear k2
                go_wp2_with fail
                go_ret
                exact ⟨HB.out, KK.out⟩
              · clear hU
                go_enter Tryz.func43, Tryz.ntmps43
                go_wp2_with fail
                refine (HHALF.out _ k0).mono ?_; rintro _ _ ⟨rfl, rfl⟩
                go_wp2_with fail
                refine (HBEL.out _ k0).mono ?_; rintro _ w2 ⟨rfl, k2⟩
                have KK := Lib.hid (k0.trans k2)
                clear k2
                go_wp2_with fail
                go_ret
                exact ⟨HB.out, KK.out⟩
            · rcases e2 with rfl | rfl
              · obtain rfl := hU rfl
                clear hU
                go_enter Tryz.func43, Tryz.ntmps43
                go_wp2_with fail
                refine (HHALF.out _ k0).mono ?_; rintro _ _ ⟨rfl, rfl⟩
                go_wp2_with fail
                refine (HBEL.out _ k0).mono ?_; rintro _ w2 ⟨rfl, k2⟩
                have KK := Lib.hid (k0.trans k2)
                clear k2
                go_wp2_with fail
                go_ret
                exact ⟨HB.out, KK.out⟩
              · clear hU
                go_enter Tryz.func43, Tryz.ntmps43
                go_wp2_with fail
                refine (HHALF.out _ k0).mono ?_; rintro _ _ ⟨rfl, rfl⟩
                go_wp2_with fail
                refine (HBEL.out _ k0).mono ?_; rintro _ w2 ⟨rfl, k2⟩
                have KK := Lib.hid (k0.trans k2)
                clear k2
                go_wp2_with fail
                go_ret
                exact ⟨HB.out, KK.out⟩
          · have HB : Hid (¬ WP) := fun h => h2 (hWP2.1 h).2.1
            have n1 : ((H : Int) == 0) = false := beq_eq_false_iff_ne.2 fun h => h2 (.inl (by omega))
            have n2 : ((H : Int) == 32) = false := beq_eq_false_iff_ne.2 fun h => h2 (.inr (by omega))
            have m1 : ¬ (H : Int) = 0 := fun h => h2 (.inl (by omega))
            have m2 : ¬ (H : Int) = 32 := fun h => h2 (.inr (by omega))
            have m3 : ¬ H = 0 := fun h => h2 (.inl h)
            clear hWP2 HBEL h2
            rcases e2 with rfl | rfl
            · obtain rfl := hU rfl
              clear hU
              go_enter Tryz.func43, Tryz.ntmps43
              go_wp2_with fail
              refine (HHALF.out _ k0).mono ?_; rintro _ _ ⟨rfl, rfl⟩
              go_wp2_with fail
              go_ret
              exact ⟨Tells.no HB.out, k0⟩
            · clear hU
              go_enter Tryz.func43, Tryz.ntmps43
              go_wp2_with fail
              refine (HHALF.out _ k0).mono ?_; rintro _ _ ⟨rfl, rfl⟩
              go_wp2_with fail
              go_ret
              exact ⟨Tells.no HB.out, k0⟩
        · rw [decide_eq_false h1] at HHALF
          have HB : Hid (¬ WP) := fun h => h1 (hWP2.1 h).1
          clear hWP2 HBEL h1
          rcases e2 with rfl | rfl
          · obtain rfl := hU rfl
            clear hU
            go_enter Tryz.func43, Tryz.ntmps43
            go_wp2_with fail
            refine (HHALF.out _ k0).mono ?_; rintro _ _ ⟨rfl, rfl⟩
            go_wp2_with fail
            go_ret
            exact ⟨Tells.no HB.out, k0⟩
          · clear hU
            go_enter Tryz.func43, Tryz.ntmps43
            go_wp2_with fail
            refine (HHALF.out _ k0).mono ?_; rintro _ _ ⟨rfl, rfl⟩
            go_wp2_with fail
            go_ret
            exact ⟨Tells.no HB.out, k0⟩
      · have HB : Hid (¬ WP) := by
          rw [← hWP]
          rintro (⟨h, _⟩ | ⟨(⟨h, _⟩ | h), _⟩)
          · exact e0 h
          · exact e2 (.inl h)
          · exact e2 (.inr h)
        have n1 : (kind == 1) = false := beq_eq_false_iff_ne.2 fun h => e2 (.inl h)
        have n2 : (kind == 2) = false := beq_eq_false_iff_ne.2 fun h => e2 (.inr h)
        have m1 : ¬ kind = 1 := fun h => e2 (.inl h)
        have m2 : ¬ kind = 2 := fun h => e2 (.inr h)
        have n0 : (kind == 0) = false := beq_eq_false_iff_ne.2 e0
        clear hWP HBEL HHALF e1 e2
        go_enter Tryz.func43, Tryz.ntmps43
        go_wp2_with fail
        go_ret
        exact ⟨Tells.no HB.out, k0⟩
end Go.Proofs.YtnpobcggadojkaaGreatDoor

/- tree.gap, isOnly, Find. -/
set_option linter.unusedVariables false
set_option linter.unusedSimpArgs false
namespace Go.Proofs.YtnpobcggadojkaaGreatDoor
open Go.RowKit

attribute [local go_sem] Oper.semAt_some

/-- What a loop over a right tree's leaves wants. -/
theorem RightK.forAll {t : List Nod} {K : Nat} (h : RightK t K) : (((sizeN t : Nat) : Int) - 1 = ((nd K 0 : Nat) : Int)) ∧ K ≤ 10 ∧ 0 < 2 ^ (10 - K) ∧ 2 * (2 ^ K * 0 + 2 ^ K - 1) < t.length ∧ nbL t (2 ^ K * 0) (2 ^ K) = nbL t 0 (lvs t) ∧ t.length ≤ 100000 := by
  have h1 := nd_root K
  have h2 := p2_pos K
  have h3 := (sizeN_len h.le h.len).1
  have h4 := h.small
  refine ⟨by omega, h.le, p2_pos _, by omega, by rw [Nat.mul_zero, h.lv], by omega⟩
set_option maxRecDepth 100000 in
set_option maxHeartbeats 4000000 in
theorem treeGap_any (u : Value) (t : List Nod) (K : Nat) (w : World) (hu : NL w u t) (hr : RightK t K) (hT : Tab w) :
    Calls Tryz.prog 54 #[u] w fun e w' => e = .returned (.int .i64 ((gapN t : Nat) : Int)) ∧ Kp w w' := by
  obtain ⟨a, n, c, rfl⟩ := hu.sl
  obtain ⟨z1, z2, z3, z4, z5, z6⟩ := hr.forAll
  have HR := Lib.hid (fun W (hW : Kp w W) => treeRoot_any _ t W (hu.kp hW) z6)
  rw [z1] at HR
  have HP := Lib.hid (And.intro hu (And.intro z2 (And.intro z3 (And.intro z4 hT))))
  have hG := fun i h1 h2 h3 => gap_nb (t := t) (i := i) h1 h2 h3
  rw [← z5] at hG
  have hln : (nbL t (2 ^ K * 0) (2 ^ K)).length ≤ 1024 := Nat.le_trans nbL_len (p2_le z2)
  obtain ⟨LL, hLL⟩ : ∃ LL, nbL t (2 ^ K * 0) (2 ^ K) = LL := ⟨_, rfl⟩
  rw [hLL] at hG hln
  have HG := Lib.hid hG
  have HLL := Lib.hid hLL
  obtain ⟨PI, hPI⟩ : ∃ PI : Nat → Prop, ∀ i, PI i ↔ (∀ m, m < i → LL.getD m 0 = m) := ⟨_, fun _ => Iff.rfl⟩
  obtain ⟨PX, hPX⟩ : ∃ PX : Code → Nat → Prop, ∀ c i, PX c i ↔ (c = .exit 0 ∧ (∀ m, m < i → LL.getD m 0 = m) ∧ LL.getD i 0 ≠ i) := ⟨_, fun _ _ => Iff.rfl⟩
  obtain ⟨BS, hBS⟩ : ∃ BS : Nat → List (Nat × TypeId × Value), ∀ i, BS i = [(w.heap.size, 3, .int .i64 (i : Int))] := ⟨_, fun _ => rfl⟩
  have HPI := Lib.hid hPI
  have HPX := Lib.hid hPX
  have HBS := Lib.hid hBS
  clear hu hr hT z1 z2 z3 z4 z5 z6 hG hLL hPI hPX hBS
  refine (callsIn_wide (n := 4)).1 ?_
  refine callsIn_of_wp_marks Tryz.func54 rfl trivial ?_ rfl
  refine wpIn_wide.2 ?_
  simp only [Tryz.ntmps54, List.append_toArray, List.size_toArray, List.length_nil, List.length_cons, Nat.reduceAdd, Nat.reduceSub, Array.replicate_succ, Array.replicate_zero, List.push_toArray, List.nil_append, List.cons_append]
  go_wp2_with fail
  obtain ⟨W1, hW1⟩ : ∃ W1, w.alloc (.cells #[.int .i64 0] 3) = W1 := ⟨_, rfl⟩
  rw [hW1]
  have hs1 : W1.heap.size = w.heap.size + 1 := by rw [← hW1]; simp
  have k1 : Kp w W1 := by rw [← hW1]; exact (Kp.refl _).alloc _
  have hb1 : Boxed W1 w.heap.size 3 (.int .i64 0) := by rw [← hW1]; exact Boxed.new _ _ _
  refine (HR.out _ k1).mono ?_; rintro _ _ ⟨rfl, rfl⟩
  go_wp2_with fail
  refine (treeLeaves_any _ _ _ _ _).mono ?_; rintro _ W2 ⟨rfl, hW2⟩
  have k2 : Kp W1 W2 := by rw [← hW2]; exact ((Kp.refl _).alloc _).alloc _
  have hb2 : Hid (Bxs W1.heap.size w [(w.heap.size, 3, .int .i64 ((0 : Nat) : Int))] W2) := Bxs.to ⟨fun x hx => by simp at hx; subst hx; exact hb1, fun x hx => by simp at hx; subst hx; simp; omega, k1, k1.size⟩ k2
  have HK1 := Lib.hid k1
  have HW2 := Lib.hid hW2
  have HS := Lib.hid hs1
  clear hW1 hW2 k1 k2 hb1 hs1
  go_wp2_with fail
  refine wp_range_leaves t K 0 _ rfl a n c w W1 HP.out.1 HP.out.2.1 HP.out.2.2.1 HP.out.2.2.2.1 HP.out.2.2.2.2 HK1.out HW2.out rfl rfl BS PI (fun _ => BS) PX ⟨(HPI.out 0).2 (fun m hm => by omega), by rw [HBS.out]; exact hb2.out⟩
    (fun v a' _ => ∃ y z : Value, v = #[y, z] ∧ a' = { tmps := #[.slice a n c, undef, .int .i64 0, .pointer (some ⟨w.heap.size, 0, none⟩), y, .slice a n c, .slice a n c, .int .i64 ((nd K 0 : Nat) : Int), .func (.func 80) #[] #[.pointer (some ⟨W1.heap.size + 1, 0, none⟩), .pointer (some ⟨W1.heap.size, 0, none⟩)], y, z, undef, undef, undef, undef, undef, undef], defers := [] }) (fun _ _ _ _ _ _ h _ _ => h) ?assign ?body ?done ?stop
  case assign =>
    intro l i v A Kk hTv hK
    obtain ⟨y, z, rfl⟩ : ∃ y z, v = #[y, z] := by obtain ⟨p, u, h, e, _⟩ := hTv; exact ⟨_, _, e⟩
    clear hTv
    gi_wp2
    exact hK _ _ (Kp.refl _) ⟨y, z, rfl, by simp⟩
  case body =>
    rintro l i v a' A hi hvv hpi hc ⟨y, z, hv2, rfl⟩
    obtain ⟨p, u, h, hv, _⟩ := hvv.un HLL.out
    rw [hv] at hv2
    simp only [Array.mk.injEq, List.cons.injEq, and_true] at hv2
    obtain ⟨rfl, rfl⟩ := hv2
    rw [HLL.out] at hi
    have hc0 := hc
    rw [HBS.out] at hc0
    have c1 := hc0.cell 0 _ _ _ rfl
    have f1 := hc0.frozen 0 _ _ _ rfl
    have HC := Lib.hid hc
    have HC0 := Lib.hid hc0
    have HPI1 := Lib.hid ((HPI.out i).1 hpi)
    have i1 : IntKind.i64.wrap ((i : Int) + 1) = (((i + 1 : Nat)) : Int) := by rw [IntWalk.i64_in _ (by omega)]; omega
    by_cases he : LL.getD i 0 = i
    · have HN : Hid (PI (i + 1)) := (HPI.out (i + 1)).2 fun m hm => by
        rcases Nat.lt_or_eq_of_le (Nat.lt_succ_iff.1 hm) with h3 | h3
        · exact HPI1.out m h3
        · rw [h3]; exact he
      have hne : (((LL.getD i 0 : Nat) : Int) != (i : Int)) = false := bne_eq_false_iff_eq.2 (by omega)
      have hne2 : ((LL.getD i 0 : Nat) : Int) = (i : Int) := by omega
      rw [hne2]
      obtain ⟨I1, hI1⟩ : ∃ I1 : Int, ((i + 1 : Nat) : Int) = I1 := ⟨_, rfl⟩
      have HI1 := Lib.hid hI1
      rw [hI1] at i1
      clear hv hi hpi hc hc0 he hvv hne hne2 hI1
      gi_wp2
      exact RoundOut.go (HC0.out.held 0 _ _ _ _ rfl _ (fun k hk e => hk (by have := HS.out; omega))) HN.out (by rw [HBS.out, HI1.out]; exact HC0.out.set 0 _ _ _ _ rfl (by simp))
    · have HX : Hid (PX (.exit 0) i) := (HPX.out _ _).2 ⟨rfl, HPI1.out, he⟩
      have hne : (((LL.getD i 0 : Nat) : Int) != (i : Int)) = true := bne_iff_ne.2 (by omega)
      generalize ((LL.getD i 0 : Nat) : Int) = YY at *
      clear hv hi hpi hc hc0 he hvv
      gi_wp2
      exact RoundOut.exit (Held.refl _ _) HX.out HC.out
  case done =>
    intro D' W hD hpi hc hd
    rename_i Qp Kk hKk
    rw [HLL.out] at hpi hc
    have hg := HG.out _ ((HPI.out _).1 hpi) (Nat.le_refl _) (fun h => absurd h (Nat.lt_irrefl _))
    rw [HBS.out] at hc
    have c1 := hc.cell 0 _ _ _ rfl
    rw [← hg] at c1
    have HC := Lib.hid hc
    clear hc hpi hg
    simp only [Exit.inBlock, Exit.then]
    refine hKk _ _ ?_
    go_wp2
    have hst : Step (fun k => k = D') W (W.putObj D' (.deferred none)) := (Step.refl _ W).putObj _ _ (.inr rfl)
    refine ⟨by simp, .inl ⟨_, _, rfl, run_takeDeferred hd, ?_⟩⟩
    exact ⟨_, results_tmp rfl _ _ _, rfl, (HC.out.step hst (fun k hk => by omega)).kp⟩
  case stop =>
    rintro D' c' i W hD hi hpx hc hd
    rename_i Qp Kk hKk
    obtain ⟨rfl, hpi, hne⟩ := (HPX.out _ _).1 hpx
    rw [HLL.out] at hi
    have hg := HG.out i hpi (by omega) (fun h => hne)
    rw [HBS.out] at hc
    have c1 := hc.cell 0 _ _ _ rfl
    rw [← hg] at c1
    have HC := Lib.hid hc
    clear hc hpi hg hne hpx hi
    go_wp2
    have hst : Step (fun k => k = D') W (W.putObj D' (.deferred none)) := (Step.refl _ W).putObj _ _ (.inr rfl)
    refine ⟨by simp, .inl ⟨_, _, rfl, run_takeDeferred hd, ?_⟩⟩
    exact ⟨_, results_tmp rfl _ _ _, rfl, (HC.out.step hst (fun k hk => by omega)).kp⟩

set_option maxRecDepth 100000 in
set_option maxHeartbeats 4000000 in
theorem treeIsOnly_any (u : Value) (t : List Nod) (K : Nat) (r : Int) (w : World) (hu : NL w u t) (hr : RightK t K) (hT : Tab w) :
    Calls Tryz.prog 61 #[u, .int .i64 r] w fun e w' => e = .returned (.bool (decide (∀ m, m < (nbL t (2 ^ K * 0) (2 ^ K)).length → (((nbL t (2 ^ K * 0) (2 ^ K)).getD m 0 : Nat) : Int) = r))) ∧ Kp w w' := by
  obtain ⟨a, n, c, rfl⟩ := hu.sl
  obtain ⟨z1, z2, z3, z4, z5, z6⟩ := hr.forAll
  have HR := Lib.hid (fun W (hW : Kp w W) => treeRoot_any _ t W (hu.kp hW) z6)
  rw [z1] at HR
  have HP := Lib.hid (And.intro hu (And.intro z2 (And.intro z3 (And.intro z4 hT))))
  obtain ⟨LL, hLL⟩ : ∃ LL, nbL t (2 ^ K * 0) (2 ^ K) = LL := ⟨_, rfl⟩
  rw [hLL]
  have HLL := Lib.hid hLL
  obtain ⟨PI, hPI⟩ : ∃ PI : Nat → Prop, ∀ i, PI i ↔ (∀ m, m < i → ((LL.getD m 0 : Nat) : Int) = r) := ⟨_, fun _ => Iff.rfl⟩
  obtain ⟨PX, hPX⟩ : ∃ PX : Code → Nat → Prop, ∀ c i, PX c i ↔ (c = .ret ∧ ¬ ((LL.getD i 0 : Nat) : Int) = r) := ⟨_, fun _ _ => Iff.rfl⟩
  obtain ⟨BS, hBS⟩ : ∃ BS : Nat → List (Nat × TypeId × Value), ∀ i, BS i = [(w.heap.size, 3, .int .i64 r), (w.heap.size + 1, 4, .bool false)] := ⟨_, fun _ => rfl⟩
  obtain ⟨BO, hBO⟩ : ∃ BO : Bool, BO = decide (∀ m, m < LL.length → ((LL.getD m 0 : Nat) : Int) = r) := ⟨_, rfl⟩
  rw [← hBO]
  have HBO := Lib.hid hBO
  have HPI := Lib.hid hPI
  have HPX := Lib.hid hPX
  have HBS := Lib.hid hBS
  clear hu hr hT z1 z2 z3 z4 z5 z6 hLL hPI hPX hBS hBO
  refine (callsIn_wide (n := 4)).1 ?_
  refine callsIn_of_wp_marks Tryz.func61 rfl trivial ?_ rfl
  refine wpIn_wide.2 ?_
  simp only [Tryz.ntmps61, List.append_toArray, List.size_toArray, List.length_nil, List.length_cons, Nat.reduceAdd, Nat.reduceSub, Array.replicate_succ, Array.replicate_zero, List.push_toArray, List.nil_append, List.cons_append]
  go_wp2_with fail
  obtain ⟨W1, hW1⟩ : ∃ W1, (w.alloc (.cells #[.int .i64 r] 3)).alloc (.cells #[.bool false] 4) = W1 := ⟨_, rfl⟩
  rw [hW1]
  have hs1 : W1.heap.size = w.heap.size + 2 := by rw [← hW1]; simp
  have k1 : Kp w W1 := by rw [← hW1]; exact ((Kp.refl _).alloc _).alloc _
  have hb1 : Boxed W1 w.heap.size 3 (.int .i64 r) := by rw [← hW1]; exact (Boxed.new _ _ _).alloc _
  have hb3 : Boxed W1 (w.heap.size + 1) 4 (.bool false) := by
    rw [← hW1]
    have := Boxed.new (w.alloc (.cells #[.int .i64 r] 3)) 4 (.bool false)
    rwa [World.size_alloc] at this
  refine (HR.out _ k1).mono ?_; rintro _ _ ⟨rfl, rfl⟩
  go_wp2_with fail
  refine (treeLeaves_any _ _ _ _ _).mono ?_; rintro _ W2 ⟨rfl, hW2⟩
  have k2 : Kp W1 W2 := by rw [← hW2]; exact ((Kp.refl _).alloc _).alloc _
  have hb2 : Hid (Bxs W1.heap.size w [(w.heap.size, 3, .int .i64 r), (w.heap.size + 1, 4, .bool false)] W2) := Bxs.to ⟨fun x hx => by simp at hx; rcases hx with rfl | rfl; all_goals (first | exact hb1 | exact hb3), fun x hx => by simp at hx; rcases hx with rfl | rfl <;> simp <;> omega, k1, k1.size⟩ k2
  have HK1 := Lib.hid k1
  have HW2 := Lib.hid hW2
  have HS := Lib.hid hs1
  clear hW1 hW2 k1 k2 hb1 hs1 hb3
  go_wp2_with fail
  refine wp_range_leaves t K 0 _ rfl a n c w W1 HP.out.1 HP.out.2.1 HP.out.2.2.1 HP.out.2.2.2.1 HP.out.2.2.2.2 HK1.out HW2.out rfl rfl BS PI (fun _ => BS) PX ⟨(HPI.out 0).2 (fun m hm => by omega), by rw [HBS.out]; exact hb2.out⟩
    (fun v a' _ => ∃ y z : Value, v = #[y, z] ∧ a' = { tmps := #[.slice a n c, .int .i64 r, undef, .pointer (some ⟨w.heap.size, 0, none⟩), .pointer (some ⟨w.heap.size + 1, 0, none⟩), y, .slice a n c, .slice a n c, .int .i64 ((nd K 0 : Nat) : Int), .func (.func 80) #[] #[.pointer (some ⟨W1.heap.size + 1, 0, none⟩), .pointer (some ⟨W1.heap.size, 0, none⟩)], y, z, undef, undef, undef], defers := [] }) (fun _ _ _ _ _ _ h _ _ => h) ?assign ?body ?done ?stop
  case assign =>
    intro l i v A Kk hTv hK
    obtain ⟨y, z, rfl⟩ : ∃ y z, v = #[y, z] := by obtain ⟨p, u, h, e, _⟩ := hTv; exact ⟨_, _, e⟩
    clear hTv
    gi_wp2
    exact hK _ _ (Kp.refl _) ⟨y, z, rfl, by simp⟩
  case body =>
    rintro l i v a' A hi hvv hpi hc ⟨y, z, hv2, rfl⟩
    obtain ⟨p, u, h, hv, _⟩ := hvv.un HLL.out
    rw [hv] at hv2
    simp only [Array.mk.injEq, List.cons.injEq, and_true] at hv2
    obtain ⟨rfl, rfl⟩ := hv2
    have hc0 := hc
    rw [HBS.out] at hc0
    have c1 := hc0.cell 0 _ _ _ rfl
    have c2 := hc0.cell 1 _ _ _ rfl
    have f2 := hc0.frozen 1 _ _ _ rfl
    have HC := Lib.hid hc
    have HC0 := Lib.hid hc0
    have HPI1 := Lib.hid ((HPI.out i).1 hpi)
    by_cases he : ((LL.getD i 0 : Nat) : Int) = r
    · have HN : Hid (PI (i + 1)) := (HPI.out (i + 1)).2 fun m hm => by
        rcases Nat.lt_or_eq_of_le (Nat.lt_succ_iff.1 hm) with h3 | h3
        · exact HPI1.out m h3
        · rw [h3]; exact he
      rw [he]
      have hne : (r != r) = false := bne_eq_false_iff_eq.2 rfl
      clear hv hi hpi hc hc0 he hvv
      gi_wp2
      exact RoundOut.go (Held.refl _ _) HN.out (by have := HC.out; rw [HBS.out] at this ⊢; exact this)
    · have HX : Hid (PX .ret i) := (HPX.out _ _).2 ⟨rfl, he⟩
      have hne : (((LL.getD i 0 : Nat) : Int) != r) = true := bne_iff_ne.2 he
      generalize ((LL.getD i 0 : Nat) : Int) = YY at *
      clear hv hi hpi hc hc0 hvv
      gi_wp2
      exact RoundOut.ret (HC0.out.held 1 _ _ _ _ rfl _ (fun k hk e => hk (by have := HS.out; omega))) HX.out (by rw [HBS.out]; exact HC0.out.set 1 _ _ _ _ rfl (by simp))
  case done =>
    intro D' W hD hpi hc hd
    rename_i Qp Kk hKk
    rw [HLL.out] at hpi
    rw [HBS.out] at hc
    have f2 := hc.frozen 1 _ _ _ rfl
    have c2 := hc.cell 1 _ _ _ rfl
    have HC := Lib.hid hc
    have HB : Hid (BO = true) := HBO.out.trans (decide_eq_true ((HPI.out _).1 hpi))
    clear hc hpi
    simp only [Exit.inBlock, Exit.then]
    refine hKk _ _ ?_
    go_wp2
    have hc2 := HC.out.set 1 _ _ _ (.bool true) rfl (by simp)
    have hst : Step (fun k => k = D') (W.setCell ⟨w.heap.size + 1, 0, none⟩ (.bool true)) ((W.setCell ⟨w.heap.size + 1, 0, none⟩ (.bool true)).putObj D' (.deferred none)) := (Step.refl _ _).putObj _ _ (.inr rfl)
    have hd2 : (W.setCell ⟨w.heap.size + 1, 0, none⟩ (.bool true)).heap[D']? = some (.deferred (some [])) := (Below.heap_setCell W _ _ D' (by have := HS.out; show D' ≠ w.heap.size + 1; omega)).trans hd
    refine ⟨by simp, .inl ⟨_, _, rfl, run_takeDeferred hd2, ?_⟩⟩
    have hc3 := hc2.step hst (fun k hk => by omega)
    exact ⟨_, results_box9 rfl rfl (hc3.bx _ (List.mem_cons_of_mem _ (List.mem_cons_self ..))) Tryz.underlying4 rfl, by rw [HB.out], hc3.kp⟩
  case stop =>
    rintro D' c' i W hD hi hpx hc hd
    rename_i Qp Kk hKk
    obtain ⟨rfl, hne⟩ := (HPX.out _ _).1 hpx
    rw [HLL.out] at hi
    rw [HBS.out] at hc
    have c2 := hc.cell 1 _ _ _ rfl
    have HC := Lib.hid hc
    have HB : Hid (BO = false) := HBO.out.trans (decide_eq_false fun h => hne (h i hi))
    clear hc hne hpx hi
    go_wp2
    have hst : Step (fun k => k = D') W (W.putObj D' (.deferred none)) := (Step.refl _ W).putObj _ _ (.inr rfl)
    refine ⟨by simp, .inl ⟨_, _, rfl, run_takeDeferred hd, ?_⟩⟩
    have hc2 := HC.out.step hst (fun k hk => by omega)
    exact ⟨_, results_box9 rfl rfl (hc2.bx _ (List.mem_cons_of_mem _ (List.mem_cons_self ..))) Tryz.underlying4 rfl, by rw [HB.out], hc2.kp⟩
end Go.Proofs.YtnpobcggadojkaaGreatDoor

/- tree.Find. -/
set_option linter.unusedVariables false
set_option linter.unusedSimpArgs false
namespace Go.Proofs.YtnpobcggadojkaaGreatDoor
open Go.RowKit

attribute [local go_sem] Oper.semAt_some

theorem RightK.kind1 {t : List Nod} {K : Nat} (h : RightK t K) {i : Nat} (hk : ¬ (ats t (2 * i)).kind = 0) : (ats t (2 * i)).kind = 1 := by
  rcases h.even i with e | e
  · rw [e] at hk; exact absurd rfl hk
  · exact e.1
/-- A block of cells is no loop. -/
theorem Bx.putLoop {A : World} {b l : Nat} {T : TypeId} {cs : Array Value} {o : Loop} {o' : Obj} (h : Bx A b T cs) (hl : A.heap[l]? = some (.loop o)) : Bx (A.putObj l o') b T cs := by
  have hne : b ≠ l := fun e => by
    subst e
    have h1 : A.heap[b]? = some (.cells cs T (0, 0)) := h
    rw [h1] at hl
    cases hl
  exact (World.putObj_heap_other hne).trans h
set_option maxRecDepth 100000 in
set_option maxHeartbeats 4000000 in
theorem treeFind_any (u : Value) (t : List Nod) (K : Nat) (name : Int) (w : World) (hu : NL w u t) (hr : RightK t K) (hn : -9223372036854775808 ≤ name ∧ name ≤ 9223372036854775807) (hT : Tab w) :
    Calls Tryz.prog 16 #[u, .int .i64 name] w fun e w' => e = .returned (.tuple #[.int .i64 (findV t name), .bool (findB t name)]) ∧ Kp w w' := by
  obtain ⟨a, n, c, rfl⟩ := hu.sl
  obtain ⟨z1, z2, z3, z4, z5, z6⟩ := hr.forAll
  have HR := Lib.hid (fun W (hW : Kp w W) => treeRoot_any _ t W (hu.kp hW) z6)
  rw [z1] at HR
  have HP := Lib.hid (And.intro hu (And.intro z2 (And.intro z3 (And.intro z4 hT))))
  have hYES : ∀ i, i < (nbL t (2 ^ K * 0) (2 ^ K)).length → (∀ m, m < i → (ats t (2 * (nbL t (2 ^ K * 0) (2 ^ K)).getD m 0)).name ≠ name) → (ats t (2 * (nbL t (2 ^ K * 0) (2 ^ K)).getD i 0)).name = name → findV t name = (((nbL t (2 ^ K * 0) (2 ^ K)).getD i 0 : Nat) : Int) ∧ findB t name = true := fun i hi hm he => by
    rw [z5] at *
    obtain ⟨_, a2, a3⟩ := nbL_at (t := t) (a := 0) (n := lvs t) (i := i) hi
    refine find_at_is (by omega) (hr.kind1 a3) he fun j hj ⟨h1, h2⟩ => ?_
    obtain ⟨m, hm1, hm2⟩ := nbL_of (t := t) (a := 0) (n := lvs t) (i := j) (by omega) (by omega) (by rw [h1]; decide)
    have hmi : m < i := by
      rcases Nat.lt_trichotomy m i with h | h | h
      · exact h
      · subst h; omega
      · have := nbL_mono hm1 h; omega
    have := hm m hmi
    rw [hm2] at this
    exact this h2
  have hNO : (∀ m, m < (nbL t (2 ^ K * 0) (2 ^ K)).length → (ats t (2 * (nbL t (2 ^ K * 0) (2 ^ K)).getD m 0)).name ≠ name) → findV t name = 0 ∧ findB t name = false := fun hm => find_not fun j hj ⟨h1, h2⟩ => by
    rw [z5] at hm
    obtain ⟨m, hm1, hm2⟩ := nbL_of (t := t) (a := 0) (n := lvs t) (i := j) (by omega) (by omega) (by rw [h1]; decide)
    have := hm m hm1
    rw [hm2] at this
    exact this h2
  generalize findV t name = FV at *
  generalize findB t name = FB at *
  obtain ⟨LL, hLL⟩ : ∃ LL, nbL t (2 ^ K * 0) (2 ^ K) = LL := ⟨_, rfl⟩
  rw [hLL] at hYES hNO
  have HLL := Lib.hid hLL
  have HYES := Lib.hid hYES
  have HNO := Lib.hid hNO
  obtain ⟨PI, hPI⟩ : ∃ PI : Nat → Prop, ∀ i, PI i ↔ (∀ m, m < i → (ats t (2 * LL.getD m 0)).name ≠ name) := ⟨_, fun _ => Iff.rfl⟩
  obtain ⟨PX, hPX⟩ : ∃ PX : Code → Nat → Prop, ∀ c i, PX c i ↔ (c = .ret ∧ (∀ m, m < i → (ats t (2 * LL.getD m 0)).name ≠ name) ∧ (ats t (2 * LL.getD i 0)).name = name) := ⟨_, fun _ _ => Iff.rfl⟩
  obtain ⟨BS, hBS⟩ : ∃ BS : Nat → List (Nat × TypeId × Value), ∀ i, BS i = [(w.heap.size, 3, .int .i64 name), (w.heap.size + 1, 3, .int .i64 0), (w.heap.size + 2, 4, .bool false)] := ⟨_, fun _ => rfl⟩
  obtain ⟨BX, hBX⟩ : ∃ BX : Code → Nat → List (Nat × TypeId × Value), ∀ c i, BX c i = [(w.heap.size, 3, .int .i64 name), (w.heap.size + 1, 3, .int .i64 ((LL.getD i 0 : Nat) : Int)), (w.heap.size + 2, 4, .bool true)] := ⟨_, fun _ _ => rfl⟩
  have HPI := Lib.hid hPI
  have HPX := Lib.hid hPX
  have HBS := Lib.hid hBS
  have HBX := Lib.hid hBX
  clear hu hr hT z1 z2 z3 z4 z5 z6 hLL hPI hPX hBS hBX hYES hNO hn
  refine (callsIn_wide (n := 4)).1 ?_
  refine callsIn_of_wp_marks Tryz.func16 rfl trivial ?_ rfl
  refine wpIn_wide.2 ?_
  simp only [Tryz.ntmps16, List.append_toArray, List.size_toArray, List.length_nil, List.length_cons, Nat.reduceAdd, Nat.reduceSub, Array.replicate_succ, Array.replicate_zero, List.push_toArray, List.nil_append, List.cons_append]
  go_wp2_with fail
  obtain ⟨W1, hW1⟩ : ∃ W1, ((w.alloc (.cells #[.int .i64 name] 3)).alloc (.cells #[.int .i64 0] 3)).alloc (.cells #[.bool false] 4) = W1 := ⟨_, rfl⟩
  rw [hW1]
  have hs1 : W1.heap.size = w.heap.size + 3 := by rw [← hW1]; simp
  have k1 : Kp w W1 := by rw [← hW1]; exact (((Kp.refl _).alloc _).alloc _).alloc _
  have hb1 : Boxed W1 w.heap.size 3 (.int .i64 name) := by rw [← hW1]; exact ((Boxed.new _ _ _).alloc _).alloc _
  have hb3 : Boxed W1 (w.heap.size + 1) 3 (.int .i64 0) := by
    rw [← hW1]
    have := (Boxed.new (w.alloc (.cells #[.int .i64 name] 3)) 3 (.int .i64 0)).alloc (.cells #[.bool false] 4)
    rwa [World.size_alloc] at this
  have hb4 : Boxed W1 (w.heap.size + 2) 4 (.bool false) := by
    rw [← hW1]
    have := Boxed.new ((w.alloc (.cells #[.int .i64 name] 3)).alloc (.cells #[.int .i64 0] 3)) 4 (.bool false)
    rwa [World.size_alloc, World.size_alloc] at this
  refine (HR.out _ k1).mono ?_; rintro _ _ ⟨rfl, rfl⟩
  go_wp2_with fail
  refine (treeLeaves_any _ _ _ _ _).mono ?_; rintro _ W2 ⟨rfl, hW2⟩
  have k2 : Kp W1 W2 := by rw [← hW2]; exact ((Kp.refl _).alloc _).alloc _
  have hb2 : Hid (Bxs W1.heap.size w [(w.heap.size, 3, .int .i64 name), (w.heap.size + 1, 3, .int .i64 0), (w.heap.size + 2, 4, .bool false)] W2) := Bxs.to ⟨fun x hx => by simp at hx; rcases hx with rfl | rfl | rfl; all_goals (first | exact hb1 | exact hb3 | exact hb4), fun x hx => by simp at hx; rcases hx with rfl | rfl | rfl <;> simp <;> omega, k1, k1.size⟩ k2
  have HK1 := Lib.hid k1
  have HW2 := Lib.hid hW2
  have HS := Lib.hid hs1
  clear hW1 hW2 k1 k2 hb1 hs1 hb3 hb4
  go_wp2_with fail
  refine wp_range_leaves t K 0 _ rfl a n c w W1 HP.out.1 HP.out.2.1 HP.out.2.2.1 HP.out.2.2.2.1 HP.out.2.2.2.2 HK1.out HW2.out rfl rfl BS PI BX PX ⟨(HPI.out 0).2 (fun m hm => by omega), by rw [HBS.out]; exact hb2.out⟩
    (fun v a' A => ∃ (y z p u h : Value) (kd nm : Int) (B : Nat), v = #[y, .agg #[.int .i64 kd, .int .i64 nm, p, u, h]] ∧ a' = { tmps := #[.slice a n c, .int .i64 name, undef, .pointer (some ⟨w.heap.size, 0, none⟩), .pointer (some ⟨w.heap.size + 1, 0, none⟩), .pointer (some ⟨w.heap.size + 2, 0, none⟩), y, .pointer (some ⟨B, 0, none⟩), .slice a n c, .slice a n c, .int .i64 ((nd K 0 : Nat) : Int), .func (.func 80) #[] #[.pointer (some ⟨W1.heap.size + 1, 0, none⟩), .pointer (some ⟨W1.heap.size, 0, none⟩)], y, z, undef, undef, undef, undef, undef], defers := [] } ∧ Bx A B 57 #[.int .i64 kd, .int .i64 nm, p, u, h])
    (fun v a' A l o o' h _ hl => by obtain ⟨y, z, p, u, h, kd, nm, B, h1, h2, h3⟩ := h; exact ⟨y, z, p, u, h, kd, nm, B, h1, h2, h3.putLoop hl⟩) ?assign ?body ?done ?stop
  case assign =>
    intro l i v A Kk hTv hK
    obtain ⟨p, u, h, rfl, ⟨pa, pn, pc, rfl⟩, ⟨ua, un, uc, rfl⟩, ⟨ha, hn, hc, rfl⟩⟩ := hTv
    generalize ((nbL t (2 ^ K * 0) (2 ^ K)).getD i 0) = Y at *
    generalize (ats t (2 * Y)).kind = KD at *
    generalize (ats t (2 * Y)).name = NM at *
    gi_wp2
    exact hK _ _ ((Kp.refl _).alloc _) ⟨_, _, _, _, _, KD, NM, _, rfl, rfl, Bx.new _ _ _⟩
  case body =>
    rintro l i v a' A hi hvv hpi hc ⟨y, z, p, u, h, kd, nm, B, hv2, rfl, hbx⟩
    obtain ⟨p', u', h', hv, _⟩ := hvv.un HLL.out
    rw [hv] at hv2
    simp only [Array.mk.injEq, List.cons.injEq, and_true, Value.agg.injEq, Value.int.injEq, true_and] at hv2
    obtain ⟨rfl, rfl, rfl, rfl, rfl, rfl⟩ := hv2
    rw [HLL.out] at hi
    have hc0 := hc
    rw [HBS.out] at hc0
    have c0 := hc0.cell 0 _ _ _ rfl
    have c1 := hc0.cell 1 _ _ _ rfl
    have c2 := hc0.cell 2 _ _ _ rfl
    have f1 := hc0.frozen 1 _ _ _ rfl
    have f2 := hc0.frozen 2 _ _ _ rfl
    have d1 := hbx.cell 1
    have HC := Lib.hid hc
    have HC0 := Lib.hid hc0
    have HPI1 := Lib.hid ((HPI.out i).1 hpi)
    by_cases he : (ats t (2 * LL.getD i 0)).name = name
    · have HX : Hid (PX .ret i) := (HPX.out _ _).2 ⟨rfl, HPI1.out, he⟩
      have HBXi := Lib.hid (HBX.out .ret i)
      generalize (ats t (2 * LL.getD i 0)).kind = KD at *
      rw [he] at d1
      generalize ((LL.getD i 0 : Nat) : Int) = YY at *
      clear hv hi hpi hc hc0 he hvv hbx
      gi_wp2
      have hs2 := HC0.out.set 1 _ _ _ (.int .i64 YY) rfl (by simp)
      exact RoundOut.ret ((HC0.out.held 1 _ _ _ _ rfl _ (fun k hk e => hk (by have := HS.out; omega))).trans (hs2.held 2 _ _ _ _ rfl _ (fun k hk e => hk (by have := HS.out; omega)))) HX.out (by rw [HBXi.out]; exact hs2.set 2 _ _ _ _ rfl (by simp))
    · have HN : Hid (PI (i + 1)) := (HPI.out (i + 1)).2 fun m hm => by
        rcases Nat.lt_or_eq_of_le (Nat.lt_succ_iff.1 hm) with h3 | h3
        · exact HPI1.out m h3
        · rw [h3]; exact he
      have hne : ((ats t (2 * LL.getD i 0)).name == name) = false := beq_eq_false_iff_ne.2 he
      generalize (ats t (2 * LL.getD i 0)).kind = KD at *
      generalize (ats t (2 * LL.getD i 0)).name = NM at *
      generalize ((LL.getD i 0 : Nat) : Int) = YY at *
      clear hv hi hpi hc hc0 hvv hbx
      gi_wp2
      exact RoundOut.go (Held.refl _ _) HN.out (by have := HC.out; rw [HBS.out] at this ⊢; exact this)
  case done =>
    intro D' W hD hpi hc hd
    rename_i Qp Kk hKk
    rw [HLL.out] at hpi
    rw [HBS.out] at hc
    have f1 := hc.frozen 1 _ _ _ rfl
    have c1 := hc.cell 1 _ _ _ rfl
    have f2 := hc.frozen 2 _ _ _ rfl
    have c2 := hc.cell 2 _ _ _ rfl
    have HC := Lib.hid hc
    have HB := Lib.hid (HNO.out ((HPI.out _).1 hpi))
    clear hc hpi
    simp only [Exit.inBlock, Exit.then]
    refine hKk _ _ ?_
    go_wp2
    have hc2 := (HC.out.set 1 _ _ _ (.int .i64 0) rfl (by simp)).set 2 _ _ _ (.bool false) rfl (by simp)
    have hd2 : ((W.setCell ⟨w.heap.size + 1, 0, none⟩ (.int .i64 0)).setCell ⟨w.heap.size + 2, 0, none⟩ (.bool false)).heap[D']? = some (.deferred (some [])) := (Below.heap_setCell _ _ _ D' (by have := HS.out; show D' ≠ w.heap.size + 2; omega)).trans ((Below.heap_setCell W _ _ D' (by have := HS.out; show D' ≠ w.heap.size + 1; omega)).trans hd)
    have hst : Step (fun k => k = D') ((W.setCell ⟨w.heap.size + 1, 0, none⟩ (.int .i64 0)).setCell ⟨w.heap.size + 2, 0, none⟩ (.bool false)) (((W.setCell ⟨w.heap.size + 1, 0, none⟩ (.int .i64 0)).setCell ⟨w.heap.size + 2, 0, none⟩ (.bool false)).putObj D' (.deferred none)) := (Step.refl _ _).putObj _ _ (.inr rfl)
    refine ⟨by simp, .inl ⟨_, _, rfl, run_takeDeferred hd2, ?_⟩⟩
    have hc3 := hc2.step hst (fun k hk => by omega)
    exact ⟨_, results_box29 rfl rfl (hc3.bx _ (List.mem_cons_of_mem _ (List.mem_cons_self ..))) Tryz.underlying3 rfl rfl (hc3.bx _ (List.mem_cons_of_mem _ (List.mem_cons_of_mem _ (List.mem_cons_self ..)))) Tryz.underlying4 rfl, by rw [HB.out.1, HB.out.2], hc3.kp⟩
  case stop =>
    rintro D' c' i W hD hi hpx hc hd
    rename_i Qp Kk hKk
    obtain ⟨rfl, hpi, he⟩ := (HPX.out _ _).1 hpx
    rw [HLL.out] at hi
    rw [HBX.out] at hc
    have c1 := hc.cell 1 _ _ _ rfl
    have c2 := hc.cell 2 _ _ _ rfl
    have HC := Lib.hid hc
    have HB := Lib.hid (HYES.out i hi hpi he)
    clear hc hpi he hpx hi
    go_wp2
    have hst : Step (fun k => k = D') W (W.putObj D' (.deferred none)) := (Step.refl _ W).putObj _ _ (.inr rfl)
    refine ⟨by simp, .inl ⟨_, _, rfl, run_takeDeferred hd, ?_⟩⟩
    have hc3 := HC.out.step hst (fun k hk => by omega)
    exact ⟨_, results_box29 rfl rfl (hc3.bx _ (List.mem_cons_of_mem _ (List.mem_cons_self ..))) Tryz.underlying3 rfl rfl (hc3.bx _ (List.mem_cons_of_mem _ (List.mem_cons_of_mem _ (List.mem_cons_self ..)))) Tryz.underlying4 rfl, by rw [HB.out.1, HB.out.2], hc3.kp⟩
end Go.Proofs.YtnpobcggadojkaaGreatDoor

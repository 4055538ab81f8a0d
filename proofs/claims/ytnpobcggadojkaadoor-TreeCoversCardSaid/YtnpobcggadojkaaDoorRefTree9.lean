/- pyxref09: Leaves, may, Find, there, empty, put. -/
import Derived.Test.YtnpobcggadojkaaDoorMathRef9
import Derived.Test.YtnpobcggadojkaaDoorTreePl9
import Derived.Test.YtnpobcggadojkaaDoorByt9
import Derived.Deep.RegionWith
set_option linter.unusedVariables false
set_option linter.unusedSimpArgs false
namespace Go.Proofs.YtnpobcggadojkaaDoor
open Go.RowKit

theorem lvs_int {t : List Nod} (h : t.length ≤ 100000) : IntKind.i64.wrap ((t.length : Int) + 1) = (t.length : Int) + 1 ∧ ((t.length : Int) + 1).tdiv 2 = ((lvs t : Nat) : Int) := by
  refine ⟨IntWalk.i64_in _ (by omega), ?_⟩
  unfold lvs
  rw [Int.tdiv_eq_ediv_of_nonneg (by omega)]
  omega
theorem lvs_two {t : List Nod} {k : Nat} (h : k < lvs t) : 2 * k < t.length := by unfold lvs at h; omega
theorem lvs_max {t : List Nod} (h : t.length ≤ 100000) : (lvs t : Int) ≤ 100000 := by
  unfold lvs
  omega
theorem refLvs_any (u : Value) (t : List Nod) (w : World) (hu : NL w u t) (hl : t.length ≤ 100000) :
    Calls Tryd.prog 10 #[u] w fun e w' => e = .returned (.int .i64 ((lvs t : Nat) : Int)) ∧ w = w' := by
  obtain ⟨a, c, rfl, h1, h2⟩ := hu.shape
  obtain ⟨i1, i2⟩ := lvs_int (t := t) hl
  have i3 : IntKind.i64.wrap ((lvs t : Nat) : Int) = ((lvs t : Nat) : Int) := IntWalk.i64_in _ (by have := lvs_max (t := t) hl; omega)
  go_enter Tryd.func10, Tryd.ntmps10
  go_wp2_with fail
  go_ret
  exact ⟨rfl, rfl⟩

theorem refMayN_any (name : Int) (v : Value) (pub : List UInt8) (w : World) (hv : Rd w v pub) :
    Calls Tryd.prog 56 #[.int .i64 name, v] w fun e w' => e = .returned (.bool (decide (mayP name pub))) ∧ w = w' := by
  obtain ⟨a, c, rfl, h1, h2⟩ := hv.shape
  by_cases n0 : 0 ≤ name
  · by_cases n1 : name ≤ 65535
    · by_cases n2 : pub.length = 32
      · have e : decide (mayP name pub) = true := decide_eq_true ⟨n0, n1, n2⟩
        rw [e]
        rw [n2] at h1 ⊢
        clear e hv n2
        go_enter Tryd.func56, Tryd.ntmps56
        go_wp2_with fail
        go_ret
        exact ⟨rfl, rfl⟩
      · have e : decide (mayP name pub) = false := decide_eq_false fun h => n2 h.2.2
        have hb2 : ((pub.length : Int) == 32) = false := beq_eq_false_iff_ne.2 (by omega)
        have hb3 : ¬ (pub.length : Int) = 32 := by omega
        rw [e]
        clear e hv n2
        go_enter Tryd.func56, Tryd.ntmps56
        go_wp2_with fail
        go_ret
        exact ⟨rfl, rfl⟩
    · have e : decide (mayP name pub) = false := decide_eq_false fun h => n1 h.2.1
      rw [e]
      clear e hv
      go_enter Tryd.func56, Tryd.ntmps56
      go_wp2_with fail
      go_ret
      exact ⟨rfl, rfl⟩
  · have e : decide (mayP name pub) = false := decide_eq_false fun h => n0 h.1
    rw [e]
    clear e hv
    go_enter Tryd.func56, Tryd.ntmps56
    go_wp2_with fail
    go_ret
    exact ⟨rfl, rfl⟩

theorem find_at_is {t : List Nod} {name : Int} {k : Nat} (hk : k < lvs t) (h : (ats t (2 * k)).kind = 1) (hn : (ats t (2 * k)).name = name) (hpre : ∀ j, j < k → ¬ ((ats t (2 * j)).kind = 1 ∧ (ats t (2 * j)).name = name)) :
    findV t name = (k : Int) ∧ findB t name = true := by
  have e : findN t name = k := range_findIdx_eq (by omega) (fun _ => decide_eq_true ⟨h, hn⟩) (fun j hj => decide_eq_false (hpre j hj))
  have e2 : findB t name = true := by unfold findB; rw [e]; exact decide_eq_true hk
  exact ⟨by unfold findV; rw [e2, e]; rfl, e2⟩
theorem find_not {t : List Nod} {name : Int} (h : ∀ j, j < lvs t → ¬ ((ats t (2 * j)).kind = 1 ∧ (ats t (2 * j)).name = name)) : findV t name = 0 ∧ findB t name = false := by
  have e := find_none h
  exact ⟨by unfold findV; rw [e]; rfl, e⟩

end Go.Proofs.YtnpobcggadojkaaDoor

/- pyxref09: New, node. -/
set_option linter.unusedVariables false
set_option linter.unusedSimpArgs false
namespace Go.Proofs.YtnpobcggadojkaaDoor
open Go.RowKit

theorem Tryd.infoNode : (Tryd.prog.info? 32).map (fun i => (i.zero, i.size, i.bytes)) = some (some (.agg #[.int .i64 0, .int .i64 0, .slice none 0 0, .slice none 0 0, .slice none 0 0]), 5, 88) := by kernel_rfl
theorem s5nodes : S5 Tryd.prog 22 32 := S5.mk' Tryd.underlying22 Tryd.infoNode (by decide) rfl
theorem loadNode (w : World) (b o : Nat) (n : Nod) (p u h : Value) (H : NAt w b o n p u h) :
    (Instr.loadAt 32 (.pointer (some ⟨b, o, none⟩))).run Tryd.prog w = .ok (.agg #[.int .i64 n.kind, .int .i64 n.name, p, u, h]) w :=
  run_loadAt_mid w b o 32 (nodC n p u h) _ H.1 Tryd.underlying32 rfl (by kernel_rfl)
def newE (name : Int) (pub : List UInt8) : Int := if mayP name pub then 0 else 1
def newV (name : Int) (pub : List UInt8) : List Nod := if mayP name pub then [leafN name pub] else []
theorem NL.lit1 (w : World) (e : TypeId) (n : Nod) (p u h : Value) (H : NIn w n p u h) : NL (w.alloc (.cells #[.int .i64 n.kind, .int .i64 n.name, p, u, h] e)) (.slice (some ⟨w.heap.size, 0, none⟩) 1 1) [n] := by
  refine ⟨_, 1, rfl, Nat.le_refl _, by unfold maxLen; omega, fun h => (by cases h), fun _ => ⟨w.heap.size, 0, rfl, by simp, fun i hi => ?_⟩⟩
  have : i = 0 := by simpa using hi
  subst this
  refine ⟨p, u, h, fun j v hj => ?_, H.kp ((Kp.refl _).alloc _)⟩
  rw [cell_of_row _ _ _ _ _ _ (heap_alloc_new w _)]
  simp only [Nat.zero_mul, Nat.zero_add]
  exact (show (nodC n p u h).toArray[j]? = some v by rw [List.getElem?_toArray]; exact hj)
/-- A node of kind 0 is right just if it is blank. -/
theorem ok_zero {t : List Nod} {x : Nat} (hk : (ats t x).kind = 0) : okP t x ↔ (ats t x).name = 0 ∧ (ats t x).pub.length = 0 ∧ (ats t x).un.length = 0 ∧ (ats t x).hash.length = 0 := by
  constructor
  · intro h
    rw [kind_blank h hk]
    exact ⟨rfl, rfl, rfl, rfl⟩
  · rintro ⟨h1, h2, h3, h4⟩
    refine .inl ((Nod.eq_iff _ _).2 ⟨hk, h1, List.eq_nil_of_length_eq_zero h2, List.eq_nil_of_length_eq_zero h3, List.eq_nil_of_length_eq_zero h4⟩)
theorem ok_other {t : List Nod} {x : Nat} (hk : (ats t x).kind ≠ 0) : okP t x ↔ mayP (ats t x).name (ats t x).pub ∧ ((ats t x).hash.length = 0 ∨ (ats t x).hash.length = 32) ∧ (ats t x).kind = 1 + (x : Int) % 2 ∧
    ((ats t x).kind = 1 → (ats t x).un.length = 0) ∧ ((ats t x).kind ≠ 1 → unP t (loV x) (hiV x) (ats t x).un ∧ (ats t x).name = 0) := by
  constructor
  · rintro (h | ⟨h1, h2, h3, h4, h5⟩)
    · rw [h] at hk; exact absurd rfl hk
    · exact ⟨h2, h3, h1, fun h => by rw [h4 h]; rfl, fun h => (h5 (by omega)).symm⟩
  · rintro ⟨h2, h3, h1, h4, h5⟩
    exact .inr ⟨h1, h2, h3, fun h => List.eq_nil_of_length_eq_zero (h4 h), fun h => (h5 (by omega)).symm⟩
end Go.Proofs.YtnpobcggadojkaaDoor

/- pyxref09: node. -/
set_option linter.unusedVariables false
set_option linter.unusedSimpArgs false
namespace Go.Proofs.YtnpobcggadojkaaDoor
open Go.RowKit

/-- A call that answers whether. -/
def Tells (e : Ending) (p : Prop) : Prop := ∃ b, e = .returned (.bool b) ∧ (b = true ↔ p)
theorem ne_nat {a b : Nat} (h : a ≠ b) : ((a : Int) == (b : Int)) = false := beq_eq_false_iff_ne.2 (by omega)
set_option maxHeartbeats 2000000 in
theorem refNode_zero (u : Value) (t : List Nod) (x : Nat) (w : World) (hu : NL w u t) (hx : x < t.length) (hk : (ats t x).kind = 0) :
    Calls Tryd.prog 34 #[u, .int .i64 (x : Int)] w fun e w' => Tells e (okP t x) ∧ Kp w w' := by
  obtain ⟨a, c, rfl, p1, s1⟩ := hu.shape
  unfold maxLen at s1
  obtain ⟨b, off, rfl, hb, hc⟩ := hu.at x hx
  obtain ⟨p, q, h, hn⟩ := hc x hx
  have c0 := hn.kind
  have c1 := hn.name
  have c2 := hn.pubC
  have c3 := hn.unC
  have c4 := hn.hashC
  have HO := ok_zero hk
  obtain ⟨ap, cp, rfl, _, _⟩ := hn.2.pub.shape
  obtain ⟨aq, cq, rfl, _, _⟩ := hn.2.un.shape
  obtain ⟨ah, ch, rfl, _, _⟩ := hn.2.hash.shape
  have i3 : (x : Int) < (t.length : Int) := by omega
  obtain ⟨N, hN⟩ : ∃ N, t.length = N := ⟨_, rfl⟩
  rw [hN] at i3 p1 ⊢
  generalize (ats t x) = n at *
  obtain ⟨kind, name, pub, un, hash⟩ := n
  simp only at hk HO c0 c1 c2 c3 c4 ⊢
  subst hk
  generalize pub.length = P at *
  generalize un.length = U at *
  generalize hash.length = H at *
  clear hn hc hu hN hb hx
  by_cases h1 : name = 0
  · subst h1
    by_cases h2 : P = 0
    · subst h2
      by_cases h3 : U = 0
      · subst h3
        by_cases h4 : H = 0
        · subst h4
          have HB := Lib.hid (HO.2 ⟨rfl, rfl, rfl, rfl⟩)
          clear HO
          go_enter Tryd.func34, Tryd.ntmps34
          go_wp2_with fail
          go_ret
          exact ⟨⟨true, rfl, fun _ => HB.out, fun _ => rfl⟩, (Kp.refl _).alloc _⟩
        · have HB := Lib.hid (fun e => h4 (HO.1 e).2.2.2)
          have e4 := ne_nat h4
          have e5 : ¬ (H : Int) = 0 := by omega
          clear HO
          go_enter Tryd.func34, Tryd.ntmps34
          go_wp2_with fail
          go_ret
          exact ⟨⟨_, rfl, fun h => absurd (beq_iff_eq.1 h) e5, fun h => absurd h HB.out⟩, (Kp.refl _).alloc _⟩
      · have HB := Lib.hid (fun e => h3 (HO.1 e).2.2.1)
        have e4 := ne_nat h3
        have e5 : ¬ (U : Int) = 0 := by omega
        clear HO
        go_enter Tryd.func34, Tryd.ntmps34
        go_wp2_with fail
        go_ret
        exact ⟨⟨false, rfl, fun h => (by cases h), fun h => absurd h HB.out⟩, (Kp.refl _).alloc _⟩
    · have HB := Lib.hid (fun e => h2 (HO.1 e).2.1)
      have e4 := ne_nat h2
      have e5 : ¬ (P : Int) = 0 := by omega
      clear HO
      go_enter Tryd.func34, Tryd.ntmps34
      go_wp2_with fail
      go_ret
      exact ⟨⟨false, rfl, fun h => (by cases h), fun h => absurd h HB.out⟩, (Kp.refl _).alloc _⟩
  · have HB := Lib.hid (fun e => h1 (HO.1 e).1)
    have e4 : (name == 0) = false := beq_eq_false_iff_ne.2 h1
    clear HO
    go_enter Tryd.func34, Tryd.ntmps34
    go_wp2_with fail
    go_ret
    exact ⟨⟨false, rfl, fun h => (by cases h), fun h => absurd h HB.out⟩, (Kp.refl _).alloc _⟩

/-- The number ahead of the k-th one of a row. -/
def ahead (lo : Int) (l : List Int) (k : Nat) : Int := if k = 0 then lo - 1 else l.getD (k - 1) 0
theorem un_iff (t : List Nod) (lo hi : Int) (l : List Int) : unP t lo hi l ↔ ∀ k, k < l.length → ahead lo l k < l.getD k 0 ∧ l.getD k 0 ≤ hi ∧ (ats t (2 * (l.getD k 0).toNat)).kind = 1 := by
  have hg : ∀ k (h : k < l.length), l.getD k 0 = l[k] := fun k h => by rw [List.getD_eq_getElem?_getD, List.getElem?_eq_getElem h]; rfl
  constructor
  · rintro ⟨h1, h2⟩ k hk
    rw [hg k hk]
    obtain ⟨a1, a2, a3⟩ := h2 l[k] (List.getElem_mem hk)
    refine ⟨?_, a2, a3⟩
    unfold ahead
    by_cases h0 : k = 0
    · rw [if_pos h0]; omega
    · rw [if_neg h0, hg _ (by omega)]
      exact (List.pairwise_iff_getElem.1 h1) (k - 1) k (by omega) hk (by omega)
  · intro h
    have hlt : ∀ d i j (hi : i < l.length) (hj : j < l.length), j = i + d + 1 → l[i] < l[j] := by
      intro d
      induction d with
      | zero =>
        intro i j hi hj e
        obtain ⟨a1, _⟩ := h j hj
        unfold ahead at a1
        rw [if_neg (by omega), hg _ (by omega), hg _ hj] at a1
        have : j - 1 = i := by omega
        subst this
        exact a1
      | succ d ih =>
        intro i j hi hj e
        obtain ⟨a1, _⟩ := h j hj
        unfold ahead at a1
        rw [if_neg (by omega), hg _ (by omega), hg _ hj] at a1
        have := ih i (j - 1) hi (by omega) (by omega)
        omega
    refine ⟨List.pairwise_iff_getElem.2 fun i j hi hj hij => hlt (j - i - 1) i j hi hj (by omega), fun v hv => ?_⟩
    obtain ⟨k, hk, rfl⟩ := List.getElem_of_mem hv
    obtain ⟨a1, a2, a3⟩ := h k hk
    rw [hg k hk] at a1 a2 a3
    refine ⟨?_, a2, a3⟩
    obtain ⟨b1, _⟩ := h 0 (by omega)
    unfold ahead at b1
    rw [if_pos rfl, hg 0 (by omega)] at b1
    by_cases h0 : k = 0
    · subst h0; omega
    · have := hlt (k - 1) 0 k (by omega) hk (by omega)
      omega
/-- The leaves below a node of a tree: where they stand. -/
theorem lohi_in {K x n : Nat} (hK : K ≤ 10) (hn : n = 2 ^ (K + 1) - 1) (hx : x < n) : 0 ≤ loV x ∧ loV x ≤ hiV x ∧ 2 * hiV x < (n : Int) ∧ hiV x < 1024 := by
  subst hn
  obtain ⟨j, q, rfl, hj, hq⟩ := nd_of K x hx
  obtain ⟨_, s2, s3⟩ := nd_small hK hj hq
  obtain ⟨l1, l2⟩ := lv_nd s2 s3
  rw [l1, l2]
  have e1 : 2 ^ K = 2 ^ j * 2 ^ (K - j) := by rw [← Nat.pow_add]; congr 1; omega
  have e2 : 2 ^ j * (q + 1) ≤ 2 ^ K := by rw [e1]; exact Nat.mul_le_mul_left _ hq
  rw [Nat.mul_add, Nat.mul_one] at e2
  have := p2_pos j
  have := p2_succ K
  have := p2_le hK
  omega
theorem tmod2 (x : Nat) : ((x : Int)).tmod 2 = (x : Int) % 2 := Int.tmod_eq_emod_of_nonneg (by omega)

set_option maxHeartbeats 4000000 in
theorem refNode_other (u : Value) (t : List Nod) (x K : Nat) (w : World) (hu : NL w u t) (hK : K ≤ 10) (hl : t.length = 2 ^ (K + 1) - 1) (hx : x < t.length) (hk : (ats t x).kind ≠ 0) :
    Calls Tryd.prog 34 #[u, .int .i64 (x : Int)] w fun e w' => Tells e (okP t x) ∧ Kp w w' := by
  obtain ⟨a, c, rfl, p1, s1⟩ := hu.shape
  unfold maxLen at s1
  have HU := Lib.hid hu
  obtain ⟨b, off, rfl, hb, hc⟩ := hu.at x hx
  obtain ⟨p, q, h, hn⟩ := hc x hx
  have c0 := hn.kind
  have c1 := hn.name
  have c2 := hn.pubC
  have c3 := hn.unC
  have c4 := hn.hashC
  have HO := ok_other hk
  obtain ⟨l1, l2, l3, l4⟩ := lohi_in hK hl hx
  have HLV := Lib.hid (fun W => refLeaves_any (x : Int) W)
  have HUN := Lib.hid (un_iff t (loV x) (hiV x) (ats t x).un)
  have HM : Hid (∀ W, Kp w W → Calls Tryd.prog 56 #[.int .i64 (ats t x).name, p] W fun e w' => e = .returned (.bool (decide (mayP (ats t x).name (ats t x).pub))) ∧ W = w') := fun W hW => refMayN_any _ _ _ W (hn.2.pub.kp hW)
  have HQ := Lib.hid hn.2.un
  obtain ⟨ap, cp, rfl, _, _⟩ := hn.2.pub.shape
  obtain ⟨aq, cq, rfl, u1, u2⟩ := hn.2.un.shape
  obtain ⟨ah, ch, rfl, _, _⟩ := hn.2.hash.shape
  unfold maxLen at u2
  have i3 : (x : Int) < (t.length : Int) := by omega
  have tm := tmod2 x
  have tw : IntKind.i64.wrap (1 + (x : Int) % 2) = 1 + (x : Int) % 2 := IntWalk.i64_in _ (by omega)
  have tw2 : IntKind.i64.wrap ((x : Int) % 2) = (x : Int) % 2 := IntWalk.i64_in _ (by omega)
  obtain ⟨N, hN⟩ : ∃ N, t.length = N := ⟨_, rfl⟩
  rw [hN] at i3 p1 l3 HU ⊢
  generalize loV (x : Int) = LO at *
  generalize hiV (x : Int) = HI at *
  have lw : IntKind.i64.wrap (LO - 1) = LO - 1 := IntWalk.i64_in _ (by omega)
  generalize unP t LO HI (ats t x).un = UP at *
  generalize okP t x = OKP at *
  generalize (ats t x) = n at *
  obtain ⟨kind, name, pub, un, hash⟩ := n
  simp only at hk HO c0 c1 c2 c3 c4 HUN HM HQ ⊢
  generalize pub.length = P at *
  generalize hash.length = H at *
  clear hn hc hu hN hb hx hl hK
  have hk0 : (kind == 0) = false := beq_eq_false_iff_ne.2 hk
  have HX : (x : Int) % 2 = 0 ∨ (x : Int) % 2 = 1 := by omega
  generalize (x : Int) % 2 = X2 at *
  by_cases m : mayP name pub
  · rw [decide_eq_true m] at HM
    have HH : H = 0 ∨ H = 32 ∨ (H ≠ 0 ∧ H ≠ 32) := by omega
    rcases HH with rfl | rfl | ⟨hh1, hh2⟩
    · rcases HX with rfl | rfl
      · by_cases hk1 : kind = 1
        · subst hk1
          have u1' : un.length ≤ cq := u1
          have HB : Hid (OKP ↔ un.length = 0) := ⟨fun e => (HO.1 e).2.2.2.1 rfl, fun e => HO.2 ⟨m, .inl rfl, by omega, fun _ => e, fun h => absurd rfl h⟩⟩
          obtain ⟨U, hU⟩ : ∃ U, un.length = U := ⟨_, rfl⟩
          rw [hU] at c3 HB u1'
          clear HO HUN m HLV hU HQ u1
          go_enter Tryd.func34, Tryd.ntmps34
          go_wp2_with fail
          refine (HM.out _ ((Kp.refl _).alloc _)).mono ?_; rintro _ _ ⟨rfl, rfl⟩
          go_wp2_with fail
          go_ret
          exact ⟨⟨_, rfl, fun h => HB.out.2 (by have := beq_iff_eq.1 h; omega), fun h => beq_iff_eq.2 (by have := HB.out.1 h; omega)⟩, (Kp.refl _).alloc _⟩
        · have hkb : (kind == 1) = false := beq_eq_false_iff_ne.2 hk1
          have HB := Lib.hid (fun e => hk1 (by have := (HO.1 e).2.2.1; omega))
          clear HO HUN m HLV
          go_enter Tryd.func34, Tryd.ntmps34
          go_wp2_with fail
          refine (HM.out _ ((Kp.refl _).alloc _)).mono ?_; rintro _ _ ⟨rfl, rfl⟩
          go_wp2_with fail
          go_ret
          exact ⟨⟨false, rfl, fun h => (by cases h), fun h => absurd h HB.out⟩, (Kp.refl _).alloc _⟩
      · by_cases hk1 : kind = 2
        · subst hk1
          have HY : Hid ((∀ k, k < un.length → ahead LO un k < un.getD k 0 ∧ un.getD k 0 ≤ HI ∧ (ats t (2 * (un.getD k 0).toNat)).kind = 1) → (OKP ↔ name = 0)) := fun h => ⟨fun e => ((HO.1 e).2.2.2.2 (by decide)).2, fun e => HO.2 ⟨m, .inl rfl, by omega, fun h => absurd h (by decide), fun _ => ⟨HUN.out.2 h, e⟩⟩⟩
          have HNO : Hid ((¬ ∀ k, k < un.length → ahead LO un k < un.getD k 0 ∧ un.getD k 0 ≤ HI ∧ (ats t (2 * (un.getD k 0).toNat)).kind = 1) → ¬ OKP) := fun h e => h (HUN.out.1 ((HO.1 e).2.2.2.2 (by decide)).1)
          have H0 : Hid (ahead LO un 0 = LO - 1) := if_pos rfl
          have HS : Hid (∀ k, ahead LO un (k + 1) = un.getD k 0) := fun k => by
            unfold ahead
            rw [if_neg (by omega), Nat.add_sub_cancel]
          obtain ⟨U, hU⟩ : ∃ U, un.length = U := ⟨_, rfl⟩
          rw [hU] at c3 HQ HY HNO u1
          have hU2 : U ≤ cq := u1
          clear HO HUN m hU u1
          go_enter Tryd.func34, Tryd.ntmps34
          go_wp2_with fail
          refine (HM.out _ ((Kp.refl _).alloc _)).mono ?_; rintro _ _ ⟨rfl, rfl⟩
          go_wp2_with fail
          refine (HLV.out _).mono ?_; rintro _ _ ⟨rfl, rfl⟩
          clear HLV HM
          have KK := Lib.hid ((Kp.refl w).alloc (.cells #[.int .i64 2, .int .i64 name, .slice ap P cp, .slice aq U cq, .slice ah 0 ch] 32))
          have HQ2 := Lib.hid (HQ.out.kp KK.out)
          have HU2 := Lib.hid (HU.out.kp KK.out)
          clear HQ HU
          go_wp2_with fail
          go_loop [9, 10] (fun l i => ∃ k : Nat, k ≤ U ∧ i = .int .i64 (k : Int) ∧ l = .int .i64 (ahead LO un k) ∧ -1 ≤ ahead LO un k ∧ (∀ j, j < k → ahead LO un j < un.getD j 0 ∧ un.getD j 0 ≤ HI ∧ (ats t (2 * (un.getD j 0).toNat)).kind = 1)) (fun _ i => (U - (intOf i).toNat))
          case atStart => exact ⟨0, Nat.zero_le _, rfl, by rw [H0.out], by rw [H0.out]; omega, fun j h => by omega⟩
          case round =>
            obtain ⟨k, hk, rfl, rfl, hge, hpre⟩ := hrel
            by_cases hlt : k < U
            · obtain ⟨g1, o1, rfl, _, hc1⟩ := HQ2.out.at k hlt
              have d1 := hc1 k hlt
              have HS2 := HS.out k
              have i1 : IntKind.i64.wrap ((k : Int) + 1) = (k : Int) + 1 := IntWalk.i64_in _ (by omega)
              have HPRE : Hid ((ahead LO un k < un.getD k 0 ∧ un.getD k 0 ≤ HI ∧ (ats t (2 * (un.getD k 0).toNat)).kind = 1) → ∀ j, j < k + 1 → ahead LO un j < un.getD j 0 ∧ un.getD j 0 ≤ HI ∧ (ats t (2 * (un.getD j 0).toNat)).kind = 1) := fun he j hj => by
                rcases Nat.lt_or_eq_of_le (Nat.lt_succ_iff.1 hj) with h3 | h3
                · exact hpre j h3
                · rw [h3]; exact he
              have HNO2 : Hid (¬ (ahead LO un k < un.getD k 0 ∧ un.getD k 0 ≤ HI ∧ (ats t (2 * (un.getD k 0).toNat)).kind = 1) → ¬ OKP) := fun h => HNO.out fun h2 => h (h2 k hlt)
              clear hc1 hpre HNO HY H0 HS
              generalize ahead LO un k = A at *
              generalize un.getD k 0 = V at *
              by_cases g1 : A < V
              · by_cases g2 : V ≤ HI
                · obtain ⟨v, rfl⟩ := Int.eq_ofNat_of_zero_le (show 0 ≤ V by omega)
                  rw [Int.toNat_natCast] at HPRE HNO2
                  obtain ⟨b2, off2, e2, _, hc2⟩ := HU2.out.at (2 * v) (by omega)
                  cases e2
                  obtain ⟨p2, q2, h2, hn2⟩ := hc2 (2 * v) (by omega)
                  have d2 := hn2.kind
                  have i4 : IntKind.i64.wrap (2 * (v : Int)) = ((2 * v : Nat) : Int) := by rw [IntWalk.i64_in _ (by omega)]; omega
                  have i5 : ((2 * v : Nat) : Int) < (N : Int) := by omega
                  have g1b : ¬ (v : Int) ≤ A := by omega
                  have g2b : ¬ HI < (v : Int) := by omega
                  clear hc2 hn2
                  generalize (ats t (2 * v)).kind = Z at *
                  generalize 2 * v = V2 at *
                  by_cases g3 : Z = 1
                  · have HP := Lib.hid (HPRE.out ⟨g1, g2, g3⟩)
                    subst g3
                    have H22 := Lib.hid HS2
                    clear HPRE HNO2 HS2
                    go_wp2_with fail
                    go_round
                    case rel => exact ⟨k + 1, by omega, by go_num, by rw [H22.out], by rw [H22.out]; omega, HP.out⟩
                    case measure => simp [intOf]; omega
                  · have HB := Lib.hid (HNO2.out fun h => g3 h.2.2)
                    have hne2 : (Z == 1) = false := beq_eq_false_iff_ne.2 g3
                    clear HPRE HNO2 HS2
                    go_wp2_with fail
                    go_ret
                    exact ⟨⟨false, rfl, fun h => (by cases h), fun h => absurd h HB.out⟩, KK.out⟩
                · have HB := Lib.hid (HNO2.out fun h => g2 h.2.1)
                  have g1b : ¬ V ≤ A := by omega
                  have g2b : HI < V := by omega
                  clear HPRE HNO2 HS2
                  go_wp2_with fail
                  go_ret
                  exact ⟨⟨false, rfl, fun h => (by cases h), fun h => absurd h HB.out⟩, KK.out⟩
              · have HB := Lib.hid (HNO2.out fun h => g1 h.1)
                have g1b : V ≤ A := by omega
                clear HPRE HNO2 HS2
                go_wp2_with fail
                go_ret
                exact ⟨⟨false, rfl, fun h => (by cases h), fun h => absurd h HB.out⟩, KK.out⟩
            · obtain rfl : k = U := by omega
              have HB := Lib.hid (HY.out hpre)
              clear HY HNO hpre HS H0
              go_wp2_with fail
              go_ret
              exact ⟨⟨_, rfl, fun h => HB.out.2 (beq_iff_eq.1 h), fun h => beq_iff_eq.2 (HB.out.1 h)⟩, KK.out⟩
        · have hkb : (kind == 2) = false := beq_eq_false_iff_ne.2 hk1
          have HB := Lib.hid (fun e => hk1 (by have := (HO.1 e).2.2.1; omega))
          clear HO HUN m HLV
          go_enter Tryd.func34, Tryd.ntmps34
          go_wp2_with fail
          refine (HM.out _ ((Kp.refl _).alloc _)).mono ?_; rintro _ _ ⟨rfl, rfl⟩
          go_wp2_with fail
          go_ret
          exact ⟨⟨false, rfl, fun h => (by cases h), fun h => absurd h HB.out⟩, (Kp.refl _).alloc _⟩
    · rcases HX with rfl | rfl
      · by_cases hk1 : kind = 1
        · subst hk1
          have u1' : un.length ≤ cq := u1
          have HB : Hid (OKP ↔ un.length = 0) := ⟨fun e => (HO.1 e).2.2.2.1 rfl, fun e => HO.2 ⟨m, .inr rfl, by omega, fun _ => e, fun h => absurd rfl h⟩⟩
          obtain ⟨U, hU⟩ : ∃ U, un.length = U := ⟨_, rfl⟩
          rw [hU] at c3 HB u1'
          clear HO HUN m HLV hU HQ u1
          go_enter Tryd.func34, Tryd.ntmps34
          go_wp2_with fail
          refine (HM.out _ ((Kp.refl _).alloc _)).mono ?_; rintro _ _ ⟨rfl, rfl⟩
          go_wp2_with fail
          go_ret
          exact ⟨⟨_, rfl, fun h => HB.out.2 (by have := beq_iff_eq.1 h; omega), fun h => beq_iff_eq.2 (by have := HB.out.1 h; omega)⟩, (Kp.refl _).alloc _⟩
        · have hkb : (kind == 1) = false := beq_eq_false_iff_ne.2 hk1
          have HB := Lib.hid (fun e => hk1 (by have := (HO.1 e).2.2.1; omega))
          clear HO HUN m HLV
          go_enter Tryd.func34, Tryd.ntmps34
          go_wp2_with fail
          refine (HM.out _ ((Kp.refl _).alloc _)).mono ?_; rintro _ _ ⟨rfl, rfl⟩
          go_wp2_with fail
          go_ret
          exact ⟨⟨false, rfl, fun h => (by cases h), fun h => absurd h HB.out⟩, (Kp.refl _).alloc _⟩
      · by_cases hk1 : kind = 2
        · subst hk1
          have HY : Hid ((∀ k, k < un.length → ahead LO un k < un.getD k 0 ∧ un.getD k 0 ≤ HI ∧ (ats t (2 * (un.getD k 0).toNat)).kind = 1) → (OKP ↔ name = 0)) := fun h => ⟨fun e => ((HO.1 e).2.2.2.2 (by decide)).2, fun e => HO.2 ⟨m, .inr rfl, by omega, fun h => absurd h (by decide), fun _ => ⟨HUN.out.2 h, e⟩⟩⟩
          have HNO : Hid ((¬ ∀ k, k < un.length → ahead LO un k < un.getD k 0 ∧ un.getD k 0 ≤ HI ∧ (ats t (2 * (un.getD k 0).toNat)).kind = 1) → ¬ OKP) := fun h e => h (HUN.out.1 ((HO.1 e).2.2.2.2 (by decide)).1)
          have H0 : Hid (ahead LO un 0 = LO - 1) := if_pos rfl
          have HS : Hid (∀ k, ahead LO un (k + 1) = un.getD k 0) := fun k => by
            unfold ahead
            rw [if_neg (by omega), Nat.add_sub_cancel]
          obtain ⟨U, hU⟩ : ∃ U, un.length = U := ⟨_, rfl⟩
          rw [hU] at c3 HQ HY HNO u1
          have hU2 : U ≤ cq := u1
          clear HO HUN m hU u1
          go_enter Tryd.func34, Tryd.ntmps34
          go_wp2_with fail
          refine (HM.out _ ((Kp.refl _).alloc _)).mono ?_; rintro _ _ ⟨rfl, rfl⟩
          go_wp2_with fail
          refine (HLV.out _).mono ?_; rintro _ _ ⟨rfl, rfl⟩
          clear HLV HM
          have KK := Lib.hid ((Kp.refl w).alloc (.cells #[.int .i64 2, .int .i64 name, .slice ap P cp, .slice aq U cq, .slice ah 32 ch] 32))
          have HQ2 := Lib.hid (HQ.out.kp KK.out)
          have HU2 := Lib.hid (HU.out.kp KK.out)
          clear HQ HU
          go_wp2_with fail
          go_loop [9, 10] (fun l i => ∃ k : Nat, k ≤ U ∧ i = .int .i64 (k : Int) ∧ l = .int .i64 (ahead LO un k) ∧ -1 ≤ ahead LO un k ∧ (∀ j, j < k → ahead LO un j < un.getD j 0 ∧ un.getD j 0 ≤ HI ∧ (ats t (2 * (un.getD j 0).toNat)).kind = 1)) (fun _ i => (U - (intOf i).toNat))
          case atStart => exact ⟨0, Nat.zero_le _, rfl, by rw [H0.out], by rw [H0.out]; omega, fun j h => by omega⟩
          case round =>
            obtain ⟨k, hk, rfl, rfl, hge, hpre⟩ := hrel
            by_cases hlt : k < U
            · obtain ⟨g1, o1, rfl, _, hc1⟩ := HQ2.out.at k hlt
              have d1 := hc1 k hlt
              have HS2 := HS.out k
              have i1 : IntKind.i64.wrap ((k : Int) + 1) = (k : Int) + 1 := IntWalk.i64_in _ (by omega)
              have HPRE : Hid ((ahead LO un k < un.getD k 0 ∧ un.getD k 0 ≤ HI ∧ (ats t (2 * (un.getD k 0).toNat)).kind = 1) → ∀ j, j < k + 1 → ahead LO un j < un.getD j 0 ∧ un.getD j 0 ≤ HI ∧ (ats t (2 * (un.getD j 0).toNat)).kind = 1) := fun he j hj => by
                rcases Nat.lt_or_eq_of_le (Nat.lt_succ_iff.1 hj) with h3 | h3
                · exact hpre j h3
                · rw [h3]; exact he
              have HNO2 : Hid (¬ (ahead LO un k < un.getD k 0 ∧ un.getD k 0 ≤ HI ∧ (ats t (2 * (un.getD k 0).toNat)).kind = 1) → ¬ OKP) := fun h => HNO.out fun h2 => h (h2 k hlt)
              clear hc1 hpre HNO HY H0 HS
              generalize ahead LO un k = A at *
              generalize un.getD k 0 = V at *
              by_cases g1 : A < V
              · by_cases g2 : V ≤ HI
                · obtain ⟨v, rfl⟩ := Int.eq_ofNat_of_zero_le (show 0 ≤ V by omega)
                  rw [Int.toNat_natCast] at HPRE HNO2
                  obtain ⟨b2, off2, e2, _, hc2⟩ := HU2.out.at (2 * v) (by omega)
                  cases e2
                  obtain ⟨p2, q2, h2, hn2⟩ := hc2 (2 * v) (by omega)
                  have d2 := hn2.kind
                  have i4 : IntKind.i64.wrap (2 * (v : Int)) = ((2 * v : Nat) : Int) := by rw [IntWalk.i64_in _ (by omega)]; omega
                  have i5 : ((2 * v : Nat) : Int) < (N : Int) := by omega
                  have g1b : ¬ (v : Int) ≤ A := by omega
                  have g2b : ¬ HI < (v : Int) := by omega
                  clear hc2 hn2
                  generalize (ats t (2 * v)).kind = Z at *
                  generalize 2 * v = V2 at *
                  by_cases g3 : Z = 1
                  · have HP := Lib.hid (HPRE.out ⟨g1, g2, g3⟩)
                    subst g3
                    have H22 := Lib.hid HS2
                    clear HPRE HNO2 HS2
                    go_wp2_with fail
                    go_round
                    case rel => exact ⟨k + 1, by omega, by go_num, by rw [H22.out], by rw [H22.out]; omega, HP.out⟩
                    case measure => simp [intOf]; omega
                  · have HB := Lib.hid (HNO2.out fun h => g3 h.2.2)
                    have hne2 : (Z == 1) = false := beq_eq_false_iff_ne.2 g3
                    clear HPRE HNO2 HS2
                    go_wp2_with fail
                    go_ret
                    exact ⟨⟨false, rfl, fun h => (by cases h), fun h => absurd h HB.out⟩, KK.out⟩
                · have HB := Lib.hid (HNO2.out fun h => g2 h.2.1)
                  have g1b : ¬ V ≤ A := by omega
                  have g2b : HI < V := by omega
                  clear HPRE HNO2 HS2
                  go_wp2_with fail
                  go_ret
                  exact ⟨⟨false, rfl, fun h => (by cases h), fun h => absurd h HB.out⟩, KK.out⟩
              · have HB := Lib.hid (HNO2.out fun h => g1 h.1)
                have g1b : V ≤ A := by omega
                clear HPRE HNO2 HS2
                go_wp2_with fail
                go_ret
                exact ⟨⟨false, rfl, fun h => (by cases h), fun h => absurd h HB.out⟩, KK.out⟩
            · obtain rfl : k = U := by omega
              have HB := Lib.hid (HY.out hpre)
              clear HY HNO hpre HS H0
              go_wp2_with fail
              go_ret
              exact ⟨⟨_, rfl, fun h => HB.out.2 (beq_iff_eq.1 h), fun h => beq_iff_eq.2 (HB.out.1 h)⟩, KK.out⟩
        · have hkb : (kind == 2) = false := beq_eq_false_iff_ne.2 hk1
          have HB := Lib.hid (fun e => hk1 (by have := (HO.1 e).2.2.1; omega))
          clear HO HUN m HLV
          go_enter Tryd.func34, Tryd.ntmps34
          go_wp2_with fail
          refine (HM.out _ ((Kp.refl _).alloc _)).mono ?_; rintro _ _ ⟨rfl, rfl⟩
          go_wp2_with fail
          go_ret
          exact ⟨⟨false, rfl, fun h => (by cases h), fun h => absurd h HB.out⟩, (Kp.refl _).alloc _⟩
    · have hhb := ne_nat hh1
      have hhc := ne_nat hh2
      have hhd : ¬ (H : Int) = 0 := by omega
      have hhe : ¬ (H : Int) = 32 := by omega
      have HB := Lib.hid (show ¬ OKP from fun e => by have := (HO.1 e).2.1; omega)
      clear HO HUN m HLV
      go_enter Tryd.func34, Tryd.ntmps34
      go_wp2_with fail
      refine (HM.out _ ((Kp.refl _).alloc _)).mono ?_; rintro _ _ ⟨rfl, rfl⟩
      go_wp2_with fail
      go_ret
      exact ⟨⟨false, rfl, fun h => (by cases h), fun h => absurd h HB.out⟩, (Kp.refl _).alloc _⟩
  · rw [decide_eq_false m] at HM
    have HB := Lib.hid (fun e => m (HO.1 e).1)
    clear HO HUN m HLV
    go_enter Tryd.func34, Tryd.ntmps34
    go_wp2_with fail
    refine (HM.out _ ((Kp.refl _).alloc _)).mono ?_; rintro _ _ ⟨rfl, rfl⟩
    go_wp2_with fail
    go_ret
    exact ⟨⟨false, rfl, fun h => (by cases h), fun h => absurd h HB.out⟩, (Kp.refl _).alloc _⟩
end Go.Proofs.YtnpobcggadojkaaDoor

/- pyxref09: Right (written by gen/tree2.py). -/
set_option linter.unusedVariables false
set_option linter.unusedSimpArgs false
namespace Go.Proofs.YtnpobcggadojkaaDoor
open Go.RowKit

/-- Is a node right, and its name none of those ahead? -/
def Fit (t : List Nod) (i : Nat) : Prop := okP t i ∧ ∀ j, j < i → ¬ ((ats t i).kind = 1 ∧ (ats t j).kind = 1 ∧ (ats t i).name = (ats t j).name)
theorem right_iff {t : List Nod} {K : Nat} (hK : K ≤ 10) (hl : t.length = 2 ^ (K + 1) - 1) : RightP t ↔ (∀ i, i < t.length → Fit t i) ∧ ∃ i, i < t.length ∧ (ats t i).kind = 1 := by
  constructor
  · rintro ⟨K', h⟩
    refine ⟨fun i hi => ⟨h.ok i hi, fun j hj hc => h.one j i hj hi hc.2.1 hc.1 hc.2.2.symm⟩, h.used⟩
  · rintro ⟨h1, h2⟩
    exact ⟨K, hK, hl, fun x hx => (h1 x hx).1, fun x y hxy hy a b e => (h1 y hy).2 x hxy ⟨b, a, e.symm⟩, h2⟩
theorem right_len {t : List Nod} (h : RightP t) : ∃ K, K ≤ 10 ∧ t.length = 2 ^ (K + 1) - 1 := by
  obtain ⟨K, h⟩ := h
  exact ⟨K, h.le, h.len⟩
theorem Tells.no {p : Prop} (h : ¬ p) : Tells (.returned (.bool false)) p := ⟨false, rfl, fun h => (by cases h), fun e => absurd e h⟩
theorem Tells.yes {p : Prop} (h : p) : Tells (.returned (.bool true)) p := ⟨true, rfl, fun _ => h, fun _ => rfl⟩
theorem refNode_any9 (u : Value) (t : List Nod) (x K : Nat) (w : World) (hu : NL w u t) (hK : K ≤ 10) (hl : t.length = 2 ^ (K + 1) - 1) (hx : x < t.length) :
    Calls Tryd.prog 34 #[u, .int .i64 (x : Int)] w fun e w' => Tells e (okP t x) ∧ Kp w w' := by
  by_cases hk : (ats t x).kind = 0
  · exact refNode_zero u t x w hu hx hk
  · exact refNode_other u t x K w hu hK hl hx hk

set_option maxHeartbeats 4000000 in
theorem refRightT_any (u : Value) (t : List Nod) (w : World) (hu : NL w u t) (hl : t.length ≤ 100000) :
    Calls Tryd.prog 15 #[u] w fun e w' => Tells e (RightP t) ∧ Kp w w' := by
  have HL := Lib.hid (refLvs_any u t w hu hl)
  have HU := Lib.hid hu
  have hlm := lvs_max (t := t) hl
  have HW := Lib.hid (refWidth_any ((lvs t : Nat) : Int) w)
  obtain ⟨a, c, rfl, p1, s1⟩ := hu.shape
  by_cases hT : isTB ((lvs t : Nat) : Int) = true
  · have e1 : widE ((lvs t : Nat) : Int) = 0 := if_pos hT
    have e2 : widV ((lvs t : Nat) : Int) = 2 * ((lvs t : Nat) : Int) - 1 := if_pos hT
    rw [e1, e2] at HW
    obtain ⟨K, hK, eK⟩ := (isTB_iff _).1 hT
    by_cases hlen : t.length = 2 * lvs t - 1
    · have hlen2 : t.length = 2 ^ (K + 1) - 1 := by rw [p2_succ]; omega
      have hpos : 1 ≤ lvs t := by have := p2_pos K; omega
      have eW : 2 * ((lvs t : Nat) : Int) - 1 = ((t.length : Nat) : Int) := by omega
      have HN : Hid (∀ x W, x < t.length → Kp w W → Calls Tryd.prog 34 #[.slice a t.length c, .int .i64 (x : Int)] W fun e w' => Tells e (okP t x) ∧ Kp W w') := fun x W hx hW => refNode_any9 _ t x K W (hu.kp hW) hK hlen2 hx
      have HI := right_iff hK hlen2
      have HALL : Hid ((∀ i, i < t.length → Fit t i) → (RightP t ↔ ∃ i, i < t.length ∧ (ats t i).kind = 1)) := fun h => ⟨fun e => (HI.1 e).2, fun e => HI.2 ⟨h, e⟩⟩
      have HNO : Hid (∀ i, i < t.length → ¬ Fit t i → ¬ RightP t) := fun i hi h e => h ((HI.1 e).1 i hi)
      rw [eW] at HW
      generalize RightP t = RP at *
      obtain ⟨N, hN⟩ : ∃ N, t.length = N := ⟨_, rfl⟩
      rw [hN] at HU p1 HL HN HALL HNO HW hl ⊢
      generalize lvs t = L at *
      clear hu hN HI eW e1 e2 hT eK hlen hlen2 s1
      go_enter Tryd.func15, Tryd.ntmps15
      go_wp2_with fail
      refine HL.out.mono ?_; rintro _ _ ⟨rfl, rfl⟩
      go_wp2_with fail
      refine HW.out.mono ?_; rintro _ _ ⟨rfl, rfl⟩
      clear HL HW
      go_wp2_with fail
      go_loopw [6, 7] (fun m x wr => ∃ k n : Nat, k ≤ N ∧ x = .int .i64 (k : Int) ∧ m = .int .i64 (n : Int) ∧ n ≤ k ∧ (0 < n ↔ ∃ i, i < k ∧ (ats t i).kind = 1) ∧ (∀ i, i < k → Fit t i) ∧ Kp w wr) (fun _ x _ => (N - (intOf x).toNat))
      case atStart => exact ⟨0, 0, Nat.zero_le _, rfl, rfl, Nat.le_refl _, ⟨fun h => by omega, fun ⟨i, h, _⟩ => by omega⟩, fun i h => by omega, Kp.refl _⟩
      case round =>
        obtain ⟨k, n, hk, rfl, rfl, hn, hused, hpre, hkp⟩ := hrel
        by_cases hlt : k < N
        · have HC := Lib.hid (HN.out k wr hlt hkp)
          have HNO2 := HNO.out k hlt
          obtain ⟨b, off, rfl, hb, hc⟩ := HU.out.at k hlt
          have i1 : IntKind.i64.wrap ((k : Int) + 1) = (k : Int) + 1 := IntWalk.i64_in _ (by omega)
          have i2 : (k : Int) < (N : Int) := by omega
          have i2b : IntKind.i64.wrap ((n : Int) + 1) = ((n + 1 : Nat) : Int) := by rw [IntWalk.i64_in _ (by omega)]; omega
          have HUS := Lib.hid hused
          have HPR := Lib.hid hpre
          have hkw := hkp
          clear hused hpre hkp HN HALL HNO
          go_wp2_with fail
          refine HC.out.mono ?_; rintro _ w1 ⟨⟨q, rfl, hq⟩, k1⟩
          have KK := hkw.trans k1
          obtain ⟨p, q2, h, hn1⟩ := hc k hlt
          have c0 := KK.cell hn1.kind
          have c1 := KK.cell hn1.name
          have HCJ : Hid (∀ j, j < N → ∃ X Y, X = (ats t j).kind ∧ Y = (ats t j).name ∧ w.cell? ⟨b, off + j * 5, none⟩ = some (.int .i64 X) ∧ w.cell? ⟨b, off + j * 5 + 1, none⟩ = some (.int .i64 Y)) := fun j hj => by
            obtain ⟨p', q', h', hn'⟩ := hc j hj
            exact ⟨_, _, rfl, rfl, hn'.kind, hn'.name⟩
          clear hn1 hc HC k1 hkw
          cases q
          · have HB := Lib.hid (HNO2 fun h => by cases hq.2 h.1)
            clear hq HNO2
            go_wp2_with fail
            go_ret
            exact ⟨Tells.no HB.out, KK⟩
          · have hok := Lib.hid (hq.1 rfl)
            clear hq
            have D1 := Lib.hid (show w.cell? ⟨b, off + k * 5 + 1, none⟩ = some (.int .i64 (ats t k).name) by
              obtain ⟨X, Y, eX, eY, d0, d1⟩ := HCJ.out k hlt
              rw [d1, eY])
            have D0 := Lib.hid (show w.cell? ⟨b, off + k * 5, none⟩ = some (.int .i64 (ats t k).kind) by
              obtain ⟨X, Y, eX, eY, d0, d1⟩ := HCJ.out k hlt
              rw [d0, eX])
            by_cases hkind : (ats t k).kind = 1
            · rw [hkind] at D0
              have HK := Lib.hid hkind
              rw [hkind] at c0
              have KD := Lib.hid KK
              clear hkind
              go_wp2_with fail
              go_loopw [9] (fun y wr => ∃ j : Nat, j ≤ k ∧ y = .int .i64 (j : Int) ∧ (∀ i, i < j → ¬ ((ats t k).kind = 1 ∧ (ats t i).kind = 1 ∧ (ats t k).name = (ats t i).name)) ∧ Kp w wr) (fun y _ => (k - (intOf y).toNat))
              case atStart => exact ⟨0, Nat.zero_le _, rfl, fun i h => by omega, KD.out⟩
              case round =>
                obtain ⟨j, hj, rfl, hpj, hkj⟩ := hrel
                by_cases hjl : j < k
                · have i3 : IntKind.i64.wrap ((j : Int) + 1) = (j : Int) + 1 := IntWalk.i64_in _ (by omega)
                  have i4 : (j : Int) < (N : Int) := by omega
                  have i5 : (j : Int) < (k : Int) := by omega
                  obtain ⟨X', Y', eX, eY, d0, d1⟩ := HCJ.out j (by omega)
                  have d0 := hkj.cell d0
                  have d1 := hkj.cell d1
                  have HPRE : Hid (¬ ((ats t k).kind = 1 ∧ (ats t j).kind = 1 ∧ (ats t k).name = (ats t j).name) → ∀ i, i < j + 1 → ¬ ((ats t k).kind = 1 ∧ (ats t i).kind = 1 ∧ (ats t k).name = (ats t i).name)) := fun he i hi => by
                    rcases Nat.lt_or_eq_of_le (Nat.lt_succ_iff.1 hi) with h3 | h3
                    · exact hpj i h3
                    · rw [h3]; exact he
                  have KJ := Lib.hid hkj
                  clear hkj hpj
                  have d2 := KJ.out.cell D0.out
                  have d3 := KJ.out.cell D1.out
                  have HE := Lib.hid (And.intro eX eY)
                  clear eX eY
                  by_cases hx1 : X' = 1
                  · subst hx1
                    by_cases hy1 : (ats t k).name = Y'
                    · have HB := Lib.hid (HNO2 fun h => h.2 j hjl ⟨HK.out, HE.out.1.symm, hy1.trans HE.out.2⟩)
                      generalize (ats t k).name = Y at *
                      subst hy1
                      clear HPRE HNO2 HE
                      go_wp2_with fail
                      go_region
                      go_wp2_with fail
                      go_ret
                      exact ⟨Tells.no HB.out, KJ.out.drew⟩
                    · have HP := Lib.hid (HPRE.out fun h => hy1 (h.2.2.trans HE.out.2.symm))
                      have hyb : ((ats t k).name == Y') = false := beq_eq_false_iff_ne.2 hy1
                      clear HPRE HNO2 HE
                      go_wp2_with fail
                      go_region
                      go_wp2_with fail
                      go_roundw
                      case rel => exact ⟨j + 1, by omega, by go_num, HP.out, KJ.out.drew⟩
                      case measure => simp [intOf]; omega
                  · have HP := Lib.hid (HPRE.out fun h => hx1 (HE.out.1.trans h.2.1))
                    have hxb : (X' == 1) = false := beq_eq_false_iff_ne.2 hx1
                    clear HPRE HNO2 HE
                    go_wp2_with fail
                    go_region
                    go_wp2_with fail
                    go_roundw
                    case rel => exact ⟨j + 1, by omega, by go_num, HP.out, KJ.out.drew⟩
                    case measure => simp [intOf]; omega
                · obtain rfl : j = k := by omega
                  have HF : Hid (∀ i, i < j + 1 → Fit t i) := fun i hi => by
                    rcases Nat.lt_or_eq_of_le (Nat.lt_succ_iff.1 hi) with h3 | h3
                    · exact HPR.out i h3
                    · subst h3; exact ⟨hok.out, hpj⟩
                  have KJ := Lib.hid hkj
                  have HU2 : Hid (0 < n + 1 ↔ ∃ i, i < j + 1 ∧ (ats t i).kind = 1) := ⟨fun _ => ⟨j, by omega, HK.out⟩, fun _ => by omega⟩
                  clear hkj hpj HNO2 HCJ
                  go_wp2_with fail
                  go_roundw
                  case rel => exact ⟨j + 1, n + 1, by omega, by go_num, rfl, by omega, HU2.out, HF.out, KJ.out⟩
                  case measure => simp [intOf]; omega
            · have HK := Lib.hid hkind
              have HKK := Lib.hid hkind
              obtain ⟨X, hX⟩ : ∃ X, (ats t k).kind = X := ⟨_, rfl⟩
              rw [hX] at D0 c0 HK hkind
              clear hX
              have hkb : (X == 1) = false := beq_eq_false_iff_ne.2 hkind
              have KD := Lib.hid KK
              clear hkind
              go_wp2_with fail
              go_loopw [9] (fun y wr => ∃ j : Nat, j ≤ k ∧ y = .int .i64 (j : Int) ∧ (∀ i, i < j → ¬ (X = 1 ∧ (ats t i).kind = 1 ∧ (ats t k).name = (ats t i).name)) ∧ Kp w wr) (fun y _ => (k - (intOf y).toNat))
              case atStart => exact ⟨0, Nat.zero_le _, rfl, fun i h => by omega, KD.out⟩
              case round =>
                obtain ⟨j, hj, rfl, hpj, hkj⟩ := hrel
                by_cases hjl : j < k
                · have i3 : IntKind.i64.wrap ((j : Int) + 1) = (j : Int) + 1 := IntWalk.i64_in _ (by omega)
                  have i4 : (j : Int) < (N : Int) := by omega
                  have i5 : (j : Int) < (k : Int) := by omega
                  obtain ⟨X', Y', eX, eY, d0, d1⟩ := HCJ.out j (by omega)
                  have d0 := hkj.cell d0
                  have d1 := hkj.cell d1
                  have HPRE : Hid (¬ (X = 1 ∧ (ats t j).kind = 1 ∧ (ats t k).name = (ats t j).name) → ∀ i, i < j + 1 → ¬ (X = 1 ∧ (ats t i).kind = 1 ∧ (ats t k).name = (ats t i).name)) := fun he i hi => by
                    rcases Nat.lt_or_eq_of_le (Nat.lt_succ_iff.1 hi) with h3 | h3
                    · exact hpj i h3
                    · rw [h3]; exact he
                  have KJ := Lib.hid hkj
                  clear hkj hpj
                  have d2 := KJ.out.cell D0.out
                  have HP := Lib.hid (HPRE.out fun h => HK.out h.1)
                  clear HPRE HNO2 eX eY d0 d1
                  go_wp2_with fail
                  go_region
                  go_wp2_with fail
                  go_roundw
                  case rel => exact ⟨j + 1, by omega, by go_num, HP.out, KJ.out.drew⟩
                  case measure => simp [intOf]; omega
                · obtain rfl : j = k := by omega
                  have HF : Hid (∀ i, i < j + 1 → Fit t i) := fun i hi => by
                    rcases Nat.lt_or_eq_of_le (Nat.lt_succ_iff.1 hi) with h3 | h3
                    · exact HPR.out i h3
                    · subst h3; exact ⟨hok.out, fun z hz hc => HKK.out hc.1⟩
                  have KJ := Lib.hid hkj
                  have HU2 : Hid (0 < n ↔ ∃ i, i < j + 1 ∧ (ats t i).kind = 1) := ⟨fun h => by
                    obtain ⟨i, a1, a2⟩ := HUS.out.1 h
                    exact ⟨i, by omega, a2⟩, fun ⟨i, a1, a2⟩ => HUS.out.2 ⟨i, by
                    rcases Nat.lt_or_eq_of_le (Nat.lt_succ_iff.1 a1) with h3 | h3
                    · exact h3
                    · subst h3; exact absurd a2 HKK.out, a2⟩⟩
                  clear hkj hpj HNO2 HCJ
                  go_wp2_with fail
                  go_roundw
                  case rel => exact ⟨j + 1, n, by omega, by go_num, rfl, by omega, HU2.out, HF.out, KJ.out⟩
                  case measure => simp [intOf]; omega
        · obtain rfl : k = N := by omega
          have HB := Lib.hid (HALL.out hpre)
          have HUS := Lib.hid hused
          have KK := Lib.hid hkp
          clear HALL HNO hpre hused hkp HN
          go_wp2_with fail
          go_ret
          refine ⟨⟨_, rfl, fun h => HB.out.2 (HUS.out.1 ?_), fun h => ?_⟩, KK.out⟩
          · have := of_decide_eq_true h; omega
          · have := HUS.out.2 (HB.out.1 h)
            exact decide_eq_true (by omega)
    · have HB : Hid (¬ RightP t) := fun h => by
        obtain ⟨K', h⟩ := h
        have h1 := h.lv
        have h2 := h.len2
        omega
      have hne : ¬ 2 * ((lvs t : Nat) : Int) - 1 = (t.length : Int) := by
        have : 1 ≤ lvs t := by have := p2_pos K; omega
        omega
      have hneb : (2 * ((lvs t : Nat) : Int) - 1 == (t.length : Int)) = false := beq_eq_false_iff_ne.2 hne
      generalize RightP t = RP at *
      generalize lvs t = L at *
      generalize 2 * (L : Int) - 1 = V at *
      clear hu HU e1 e2 hT eK hlen
      go_enter Tryd.func15, Tryd.ntmps15
      go_wp2_with fail
      refine HL.out.mono ?_; rintro _ _ ⟨rfl, rfl⟩
      go_wp2_with fail
      refine HW.out.mono ?_; rintro _ _ ⟨rfl, rfl⟩
      go_wp2_with fail
      go_ret
      exact ⟨Tells.no HB.out, Kp.refl _⟩
  · have e1 : widE ((lvs t : Nat) : Int) = 1 := if_neg hT
    have e2 : widV ((lvs t : Nat) : Int) = 0 := if_neg hT
    rw [e1, e2] at HW
    have HB : Hid (¬ RightP t) := fun h => by
      obtain ⟨K', h⟩ := h
      exact hT ((isTB_iff _).2 ⟨K', h.le, by rw [h.lv]⟩)
    generalize RightP t = RP at *
    generalize lvs t = L at *
    clear hu HU e1 e2 hT
    go_enter Tryd.func15, Tryd.ntmps15
    go_wp2_with fail
    refine HL.out.mono ?_; rintro _ _ ⟨rfl, rfl⟩
    go_wp2_with fail
    refine HW.out.mono ?_; rintro _ _ ⟨rfl, rfl⟩
    go_wp2_with fail
    go_ret
    exact ⟨Tells.no HB.out, Kp.refl _⟩
end Go.Proofs.YtnpobcggadojkaaDoor

/- pyxref09: put, path, there, empty. -/
set_option linter.unusedVariables false
set_option linter.unusedSimpArgs false
namespace Go.Proofs.YtnpobcggadojkaaDoor
open Go.RowKit

theorem OI.own_ge {e : TypeId} {w : World} {B : Nat} {v : Value} {l : List Int} (h : OI e w B v l) : ∀ k, v.ownBlock = some k → B ≤ k := fun k hk => (h.lt k hk).1
theorem NO.own_ge {e : TypeId} {w : World} {B : Nat} {v : Value} {t : List Nod} (h : NO e w B v t) : ∀ k, v.ownBlock = some k → B ≤ k := fun k hk => (h.lt k hk).1
theorem OI.lit1 (w : World) (e : TypeId) (n : Int) : RI (w.alloc (.cells #[.int .i64 n] e)) (.slice (some ⟨w.heap.size, 0, none⟩) 1 1) [n] := (RI.lit w e #[.int .i64 n] [n] 1 rfl (by omega) rfl).ri
/-- What has been put, up to a place. -/
structure Puts (l : List Int) (n : Int) (k : Nat) (d : Bool) (o : List Int) : Prop where
  mk ::
  no : d = false → k ≤ cutI l n ∧ o = l.take k
  yes : d = true → cutI l n < k ∧ o = l.take (cutI l n) ++ n :: (l.take k).drop (cutI l n)
theorem getD_lt {l : List Int} {k : Nat} (h : k < l.length) : l.getD k 0 = l[k] := by
  rw [List.getD_eq_getElem?_getD, List.getElem?_eq_getElem h]; rfl
theorem Puts.start (l : List Int) (n : Int) : Puts l n 0 false [] := ⟨fun _ => ⟨Nat.zero_le _, by simp⟩, fun h => (by cases h)⟩
theorem Puts.low {l : List Int} {n : Int} {k : Nat} {o : List Int} (h : Puts l n k false o) (hk : k < l.length) (hn : ¬ n < l.getD k 0) : Puts l n (k + 1) false (o ++ [l.getD k 0]) := by
  obtain ⟨h1, h2⟩ := h.no rfl
  refine ⟨fun _ => ⟨?_, ?_⟩, fun h => (by cases h)⟩
  · rcases Nat.lt_or_eq_of_le h1 with h3 | h3
    · exact h3
    · exfalso
      subst h3
      have := cut_gt (l := l) (n := n) hk
      rw [getD_lt hk] at hn
      exact hn this
  · rw [h2, getD_lt hk, List.take_succ_eq_append_getElem hk]
theorem Puts.in {l : List Int} {n : Int} {k : Nat} {o : List Int} (h : Puts l n k false o) (hk : k < l.length) (hn : n < l.getD k 0) : Puts l n (k + 1) true ((o ++ [n]) ++ [l.getD k 0]) := by
  obtain ⟨h1, h2⟩ := h.no rfl
  have e : k = cutI l n := by
    rcases Nat.lt_or_eq_of_le h1 with h3 | h3
    · exfalso
      have := cut_le h3 hk
      rw [getD_lt hk] at hn
      omega
    · exact h3
  refine ⟨fun h => (by cases h), fun _ => ⟨by omega, ?_⟩⟩
  rw [h2, ← e, getD_lt hk, List.take_succ_eq_append_getElem hk, List.drop_append_of_le_length (by rw [List.length_take]; omega), List.drop_of_length_le (by rw [List.length_take]; omega)]
  simp
theorem Puts.high {l : List Int} {n : Int} {k : Nat} {o : List Int} (h : Puts l n k true o) (hk : k < l.length) : Puts l n (k + 1) true (o ++ [l.getD k 0]) := by
  obtain ⟨h1, h2⟩ := h.yes rfl
  refine ⟨fun h => (by cases h), fun _ => ⟨by omega, ?_⟩⟩
  rw [h2, getD_lt hk, List.take_succ_eq_append_getElem hk, List.drop_append_of_le_length (by rw [List.length_take]; omega)]
  simp
theorem Puts.endNo {l : List Int} {n : Int} {o : List Int} (h : Puts l n l.length false o) : o ++ [n] = putN l n := by
  obtain ⟨h1, h2⟩ := h.no rfl
  have := cut_len l n
  have e : cutI l n = l.length := by omega
  unfold putN
  rw [h2, e, List.drop_length]
theorem Puts.endYes {l : List Int} {n : Int} {o : List Int} (h : Puts l n l.length true o) : o = putN l n := by
  obtain ⟨h1, h2⟩ := h.yes rfl
  rw [h2, List.take_length]
  rfl
theorem Puts.len {l : List Int} {n : Int} {k : Nat} {d : Bool} {o : List Int} (h : Puts l n k d o) (hk : k ≤ l.length) : o.length ≤ k + 1 := by
  cases d
  · rw [(h.no rfl).2, List.length_take]; omega
  · obtain ⟨h1, h2⟩ := h.yes rfl
    rw [h2, List.length_append, List.length_cons, List.length_take, List.length_drop, List.length_take]; omega

theorem path_eq {t : List Nod} {K i : Nat} (hK : K ≤ 10) (hl : t.length = 2 ^ (K + 1) - 1) (hi : i < 2 ^ K) :
    arE (2 * (i : Int)) ((lvs t : Nat) : Int) = 0 ∧ pathV (2 * (i : Int)) ((lvs t : Nat) : Int) = pathT t i := by
  have e1 : lvs t = 2 ^ K := by
    have := p2_succ K
    have := p2_pos K
    unfold lvs
    omega
  have e2 : (2 * (i : Int)) = ((nd 0 i : Nat) : Int) := by rw [nd_leaf]; omega
  obtain ⟨h1, h2, _⟩ := ar_yes (K := K) (j := 0) (q := i) hK (by omega) (by simpa using hi)
  unfold pathT lgT
  rw [e1, e2, h1, h2, lg_pow hK]
  exact ⟨rfl, rfl⟩
end Go.Proofs.YtnpobcggadojkaaDoor

/- pyxref09: blank. -/
set_option linter.unusedVariables false
set_option linter.unusedSimpArgs false
namespace Go.Proofs.YtnpobcggadojkaaDoor
open Go.RowKit

theorem path_in {t : List Nod} {K i : Nat} (hK : K ≤ 10) (hl : t.length = 2 ^ (K + 1) - 1) (hi : i < 2 ^ K) : pathT t i = pathN K 0 i ∧ (∀ k, k < (pathT t i).length → (pathT t i).getD k 0 < t.length) ∧ (pathT t i).length = K := by
  have e1 : lvs t = 2 ^ K := by
    have := p2_succ K
    have := p2_pos K
    unfold lvs
    omega
  have e2 : pathT t i = pathN K 0 i := by
    unfold pathT lgT
    rw [e1, lg_pow hK]
  refine ⟨e2, fun k hk => ?_, by rw [e2, pathN_length]; rfl⟩
  rw [List.getD_eq_getElem?_getD, List.getElem?_eq_getElem hk, hl]
  refine path_lt hi ?_
  rw [← e2]
  exact List.getElem_mem hk
theorem getD_map_int (l : List Nat) (k : Nat) (h : k < l.length) : (l.map fun (n : Nat) => (n : Int)).getD k 0 = ((l.getD k 0 : Nat) : Int) := by
  rw [List.getD_eq_getElem?_getD, List.getElem?_map, List.getElem?_eq_getElem h, List.getD_eq_getElem?_getD, List.getElem?_eq_getElem h]
  rfl
theorem take_foldl {α β : Type} (f : β → α → β) (b : β) (l : List α) (k : Nat) (d : α) (h : k < l.length) : (l.take (k + 1)).foldl f b = f ((l.take k).foldl f b) (l.getD k d) := by
  rw [List.take_succ_eq_append_getElem h, List.foldl_append, List.getD_eq_getElem?_getD, List.getElem?_eq_getElem h]
  rfl
theorem infoNode5 : (Tryd.prog.info? 32).map (·.size) = some 5 := by kernel_rfl
theorem own_some9 {g n c : Nat} : Value.ownBlock (.slice (some ⟨g, 0, none⟩) n c) = some g := rfl

end Go.Proofs.YtnpobcggadojkaaDoor

/- pyxref09: Update, Remove. -/
set_option linter.unusedVariables false
set_option linter.unusedSimpArgs false
namespace Go.Proofs.YtnpobcggadojkaaDoor
open Go.RowKit

theorem RightK.small {t : List Nod} {K : Nat} (h : RightK t K) : t.length ≤ 2047 ∧ t.length = 2 * 2 ^ K - 1 ∧ 0 < t.length := by
  have h1 := h.len2
  have h2 := p2_le h.le
  have h3 := p2_pos K
  omega
/-- A leaf that is there. -/
theorem there_nat {t : List Nod} {K : Nat} {i : Int} (h : RightK t K) (hi : thereP t i) : ∃ k : Nat, i = (k : Int) ∧ k < 2 ^ K ∧ (ats t (2 * k)).kind = 1 ∧ 2 * k < t.length := by
  obtain ⟨h1, h2, h3⟩ := hi
  obtain ⟨k, rfl⟩ := Int.eq_ofNat_of_zero_le h1
  rw [Int.toNat_natCast] at h3
  have := h.lv
  exact ⟨k, rfl, by omega, h3, lvs_two (by omega)⟩

/-- One step of the shrinking. -/
theorem shrink_go {f : Nat} {t : List Nod} (h : 1 < t.length ∧ emptyP t (lvs t / 2)) : shrinkT (f + 1) t = shrinkT f (t.take (t.length / 2)) := if_pos h
theorem shrink_stop {f : Nat} {t : List Nod} (h : ¬ (1 < t.length ∧ emptyP t (lvs t / 2))) : shrinkT f t = t := by
  cases f
  · rfl
  · exact if_neg h

end Go.Proofs.YtnpobcggadojkaaDoor

/- pyxref09: Add. -/
set_option linter.unusedVariables false
set_option linter.unusedSimpArgs false
namespace Go.Proofs.YtnpobcggadojkaaDoor
open Go.RowKit

/-- A row that rises between bounds is short. -/
theorem rising_len {l : List Int} (h : l.Pairwise (· < ·)) (hl : ∀ i ∈ l, 0 ≤ i ∧ i < 1024) : l.length ≤ 1024 := by
  have key : ∀ k (hk : k < l.length), (k : Int) ≤ l[k] := by
    intro k
    induction k with
    | zero => intro hk; have := (hl _ (List.getElem_mem hk)).1; omega
    | succ k ih =>
      intro hk
      have h1 := ih (by omega)
      have h2 := (List.pairwise_iff_getElem.1 h) k (k + 1) (by omega) hk (by omega)
      omega
  by_cases h0 : l.length = 0
  · omega
  · have h1 := key (l.length - 1) (by omega)
    have h2 := (hl _ (List.getElem_mem (show l.length - 1 < l.length by omega))).2
    omega
theorem RightK.un_len {t : List Nod} {K : Nat} (h : RightK t K) (x : Nat) : (ats t x).un.length ≤ 1024 := by
  by_cases hx : x < t.length
  · obtain ⟨l1, l2, l3, l4⟩ := lohi_in h.le h.len hx
    rcases h.okA x with h1 | ⟨h1, h2, h3, h4, h5⟩
    · rw [h1]; exact Nat.zero_le _
    · by_cases e : (ats t x).kind = 1
      · rw [h4 e]; exact Nat.zero_le _
      · have h6 := (h5 (by omega)).2
        exact rising_len h6.1 fun i hi => by have := h6.2 i hi; omega
  · rw [ats_over (by omega)]; exact Nat.zero_le _
theorem pathT_len {t u : List Nod} (h : t.length = u.length) (i : Nat) : pathT t i = pathT u i := by
  unfold pathT lgT lvs
  rw [h]

theorem gap_stop {t : List Nod} {k : Nat} (h1 : k ≤ lvs t) (h2 : k < lvs t → (ats t (2 * k)).kind = 0) (h3 : ∀ j, j < k → (ats t (2 * j)).kind ≠ 0) : gapN t = k := gap_eq h1 h2 h3
theorem rep_succ (t : List Nod) (m : Nat) : (t ++ List.replicate m blankN) ++ [blankN] = t ++ List.replicate (m + 1) blankN := by
  rw [List.append_assoc, List.replicate_succ']
theorem blank_ats (i : Nat) : ats [blankN] i = blankN := by
  cases i with
  | zero => rfl
  | succ i => exact ats_over (by simp)
/-- The lines of errors: what Add answers there. -/
theorem add_no {t : List Nod} {name : Int} {pub : List UInt8} (e : Int) (he : addE t name pub = e) (hne : e ≠ 0) : addV t name pub = t ∧ addI t name pub = 0 := by
  unfold addV addI
  rw [he, if_neg hne, if_neg hne]
  exact ⟨rfl, rfl⟩

end Go.Proofs.YtnpobcggadojkaaDoor

/- pyxref08: Ints, In, of integers of any sign; pyxref09: SameNode, Same, Small, May, Used. -/
set_option linter.unusedVariables false
set_option linter.unusedSimpArgs false
namespace Go.Proofs.YtnpobcggadojkaaDoor
open Go.RowKit

set_option maxHeartbeats 1000000 in
theorem refIntsI_any (u v : Value) (l m : List Int) (w : World) (hu : RI w u l) (hv : RI w v m) :
    Calls Tryd.prog 20 #[u, v] w fun e w' => e = .returned (.bool (decide (l = m))) ∧ Kp w w' := by
  obtain ⟨a1, c1, rfl, p1, s1⟩ := hu.shape
  obtain ⟨a2, c2, rfl, p2, s2⟩ := hv.shape
  unfold maxLen at s1 s2
  by_cases hlen : l.length = m.length
  · have HEQ : Hid (∀ k, k < l.length → l.getD k 0 ≠ m.getD k 0 → decide (l = m) = false) := fun k hk hne => decide_eq_false (fun h => hne (by rw [h]))
    have HALL : Hid ((∀ k, k < l.length → l.getD k 0 = m.getD k 0) → decide (l = m) = true) := fun h => by
      refine decide_eq_true (List.ext_getElem hlen fun k h1 h2 => ?_)
      have := h k h1
      rwa [List.getD_eq_getElem?_getD, List.getElem?_eq_getElem h1, List.getD_eq_getElem?_getD, List.getElem?_eq_getElem h2] at this
    generalize decide (l = m) = b at *
    have HU := Lib.hid hu
    have HV := Lib.hid hv
    rw [← hlen] at HV p2 ⊢
    obtain ⟨N, hN⟩ : ∃ N, l.length = N := ⟨_, rfl⟩
    rw [hN] at HU HV p1 p2 HEQ HALL ⊢
    clear hu hv hlen hN
    go_enter Tryd.func20, Tryd.ntmps20
    go_wp2_with fail
    go_loopw [5] (fun i wr => ∃ k : Nat, k ≤ N ∧ i = .int .i64 (k : Int) ∧ (∀ t, t < k → l.getD t 0 = m.getD t 0) ∧ Kp w wr) (fun i _ => (N - (intOf i).toNat))
    case atStart => exact ⟨0, Nat.zero_le _, rfl, fun t h => by omega, Kp.refl _⟩
    case round =>
      obtain ⟨k, hk, rfl, hpre, hkp⟩ := hrel
      by_cases hlt : k < N
      · obtain ⟨g1, o1, rfl, _, hc1⟩ := HU.out.at k hlt
        obtain ⟨g2, o2, rfl, _, hc2⟩ := HV.out.at k hlt
        have h1 := hkp.cell (hc1 k hlt)
        have h2 := hkp.cell (hc2 k hlt)
        have HEQ2 := HEQ.out k hlt
        have HPRE : Hid (l.getD k 0 = m.getD k 0 → ∀ t, t < k + 1 → l.getD t 0 = m.getD t 0) := fun he t ht => by
          rcases Nat.lt_or_eq_of_le (Nat.lt_succ_iff.1 ht) with h3 | h3
          · exact hpre t h3
          · rw [h3]; exact he
        have i1 : IntKind.i64.wrap ((k : Int) + 1) = (k : Int) + 1 := IntWalk.i64_in _ (by omega)
        have KK := Lib.hid hkp
        clear hc1 hc2 HALL HEQ hpre hkp
        generalize l.getD k 0 = X at *
        generalize m.getD k 0 = Y at *
        by_cases hxy : X = Y
        · have HP := Lib.hid (HPRE.out hxy)
          subst hxy
          clear HEQ2 HPRE
          go_wp2_with fail
          go_region
          go_wp2_with fail
          go_roundw
          case rel => exact ⟨k + 1, by omega, by go_num, HP.out, KK.out.drew⟩
          case measure => simp [intOf]; omega
        · have HB := Lib.hid (HEQ2 hxy)
          have hne2 : (X == Y) = false := beq_eq_false_iff_ne.2 hxy
          clear HEQ2 HPRE
          go_wp2_with fail
          go_region
          go_wp2_with fail
          go_ret
          exact ⟨by rw [HB.out] <;> rfl, KK.out.drew⟩
      · obtain rfl : k = N := by omega
        have HB := Lib.hid (HALL.out hpre)
        have KK := Lib.hid hkp
        clear HALL HEQ hpre hkp
        go_wp2_with fail
        go_ret
        exact ⟨by rw [HB.out] <;> rfl, KK.out⟩
  · have e : decide (l = m) = false := decide_eq_false (fun h => hlen (by rw [h]))
    have hne : ¬ (l.length : Int) = (m.length : Int) := by omega
    have hne2 : ((l.length : Int) == (m.length : Int)) = false := beq_eq_false_iff_ne.2 hne
    rw [e]
    clear hu hv e hlen
    go_enter Tryd.func20, Tryd.ntmps20
    go_wp2_with fail
    go_ret
    exact ⟨rfl, Kp.refl _⟩

set_option maxHeartbeats 1000000 in
theorem refInI_any (u : Value) (l : List Int) (n : Int) (w : World) (hu : RI w u l) :
    Calls Tryd.prog 11 #[u, .int .i64 n] w fun e w' => e = .returned (.bool (decide (n ∈ l))) ∧ w = w' := by
  obtain ⟨a1, c1, rfl, p1, s1⟩ := hu.shape
  unfold maxLen at s1
  have HYES : Hid (∀ k, k < l.length → l.getD k 0 = n → decide (n ∈ l) = true) := fun k hk he => by
    rw [List.getD_eq_getElem?_getD, List.getElem?_eq_getElem hk] at he
    exact decide_eq_true (by rw [← he]; exact List.getElem_mem hk)
  have HNO : Hid ((∀ k, k < l.length → l.getD k 0 ≠ n) → decide (n ∈ l) = false) := fun h => by
    refine decide_eq_false fun h2 => ?_
    obtain ⟨k, hk, e⟩ := List.getElem_of_mem h2
    refine h k hk ?_
    rw [List.getD_eq_getElem?_getD, List.getElem?_eq_getElem hk]
    exact e
  generalize decide (n ∈ l) = b at *
  have HU := Lib.hid hu
  obtain ⟨N, hN⟩ : ∃ N, l.length = N := ⟨_, rfl⟩
  rw [hN] at HU p1 HYES HNO ⊢
  clear hu hN
  go_enter Tryd.func11, Tryd.ntmps11
  go_wp2_with fail
  go_loop [5] (fun i => ∃ k : Nat, k ≤ N ∧ i = .int .i64 (k : Int) ∧ (∀ t, t < k → l.getD t 0 ≠ n)) (fun i => (N - (intOf i).toNat))
  case atStart => exact ⟨0, Nat.zero_le _, rfl, fun t h => by omega⟩
  case round =>
    obtain ⟨k, hk, rfl, hpre⟩ := hrel
    by_cases hlt : k < N
    · obtain ⟨g1, o1, rfl, _, hc1⟩ := HU.out.at k hlt
      have h1 := hc1 k hlt
      have HY2 := HYES.out k hlt
      have HPRE : Hid (l.getD k 0 ≠ n → ∀ t, t < k + 1 → l.getD t 0 ≠ n) := fun he t ht => by
        rcases Nat.lt_or_eq_of_le (Nat.lt_succ_iff.1 ht) with h3 | h3
        · exact hpre t h3
        · rw [h3]; exact he
      have i1 : IntKind.i64.wrap ((k : Int) + 1) = (k : Int) + 1 := IntWalk.i64_in _ (by omega)
      clear hc1 HYES HNO hpre
      generalize l.getD k 0 = X at *
      by_cases hxy : X = n
      · have HB := Lib.hid (HY2 hxy)
        subst hxy
        clear HY2 HPRE
        go_wp2_with fail
        go_ret
        exact ⟨by rw [HB.out] <;> rfl, rfl⟩
      · have HP := Lib.hid (HPRE.out hxy)
        have hne2 : (X == n) = false := beq_eq_false_iff_ne.2 hxy
        clear HY2 HPRE
        go_wp2_with fail
        go_round
        case rel => exact ⟨k + 1, by omega, by go_num, HP.out⟩
        case measure => simp [intOf]; omega
    · obtain rfl : k = N := by omega
      have HB := Lib.hid (HNO.out hpre)
      clear HYES HNO hpre
      go_wp2_with fail
      go_ret
      exact ⟨by rw [HB.out] <;> rfl, rfl⟩

end Go.Proofs.YtnpobcggadojkaaDoor

/- pyxref09: Same, Small, May, Used, Resolve. -/
set_option linter.unusedVariables false
set_option linter.unusedSimpArgs false
namespace Go.Proofs.YtnpobcggadojkaaDoor
open Go.RowKit

set_option maxHeartbeats 2000000 in
theorem refSmall_any (u : Value) (t : List Nod) (m : Nat) (w : World) (hu : NL w u t) (hm : m ≤ 100000) :
    Calls Tryd.prog 22 #[u, .int .i64 (m : Int)] w fun e w' => Tells e (smallP t m) ∧ w = w' := by
  obtain ⟨a1, c1, rfl, p1, s1⟩ := hu.shape
  by_cases hlen : t.length ≤ m
  · have HEQ : Hid (∀ k, k < t.length → ¬ ((ats t k).pub.length ≤ 40 ∧ (ats t k).hash.length ≤ 40 ∧ (ats t k).un.length ≤ m) → ¬ smallP t m) := fun k hk hne h => hne (by
      rw [ats_get hk]
      exact h.2 _ (List.getElem_mem hk))
    have HALL : Hid ((∀ k, k < t.length → ((ats t k).pub.length ≤ 40 ∧ (ats t k).hash.length ≤ 40 ∧ (ats t k).un.length ≤ m)) → smallP t m) := fun h => ⟨hlen, fun n hn => by
      obtain ⟨k, hk, rfl⟩ := List.getElem_of_mem hn
      have := h k hk
      rwa [ats_get hk] at this⟩
    have HU := Lib.hid hu
    obtain ⟨N, hN⟩ : ∃ N, t.length = N := ⟨_, rfl⟩
    rw [hN] at HU p1 HEQ HALL hlen ⊢
    generalize smallP t m = SP at *
    clear hu hN
    go_enter Tryd.func22, Tryd.ntmps22
    go_wp2_with fail
    go_loop [5] (fun i => ∃ k : Nat, k ≤ N ∧ i = .int .i64 (k : Int) ∧ (∀ j, j < k → ((ats t j).pub.length ≤ 40 ∧ (ats t j).hash.length ≤ 40 ∧ (ats t j).un.length ≤ m))) (fun i => (N - (intOf i).toNat))
    case atStart => exact ⟨0, Nat.zero_le _, rfl, fun t h => by omega⟩
    case round =>
      obtain ⟨k, hk, rfl, hpre⟩ := hrel
      by_cases hlt : k < N
      · obtain ⟨g1, o1, rfl, _, hc1⟩ := HU.out.at k hlt
        obtain ⟨x1, y1, z1, n1⟩ := hc1 k hlt
        have c2 := n1.pubC
        have c3 := n1.unC
        have c4 := n1.hashC
        obtain ⟨xa, ca, rfl, _, _⟩ := n1.2.pub.shape
        obtain ⟨xb, cb, rfl, _, _⟩ := n1.2.un.shape
        obtain ⟨xc, cc, rfl, _, _⟩ := n1.2.hash.shape
        have HEQ2 := HEQ.out k hlt
        have HPRE : Hid (((ats t k).pub.length ≤ 40 ∧ (ats t k).hash.length ≤ 40 ∧ (ats t k).un.length ≤ m) → ∀ j, j < k + 1 → ((ats t j).pub.length ≤ 40 ∧ (ats t j).hash.length ≤ 40 ∧ (ats t j).un.length ≤ m)) := fun he j hj => by
          rcases Nat.lt_or_eq_of_le (Nat.lt_succ_iff.1 hj) with h3 | h3
          · exact hpre j h3
          · rw [h3]; exact he
        have i1 : IntKind.i64.wrap ((k : Int) + 1) = (k : Int) + 1 := IntWalk.i64_in _ (by omega)
        have i2 : (k : Int) < (N : Int) := by omega
        clear hc1 HALL HEQ hpre n1
        generalize (ats t k).pub.length = P at *
        generalize (ats t k).hash.length = H at *
        generalize (ats t k).un.length = U at *
        by_cases h1 : P ≤ 40
        · have h1b : ¬ (40 : Int) < (P : Int) := by omega
          by_cases h2 : H ≤ 40
          · have h2b : ¬ (40 : Int) < (H : Int) := by omega
            by_cases h3 : U ≤ m
            · have h3b : ¬ (m : Int) < (U : Int) := by omega
              have HP := Lib.hid (HPRE.out ⟨h1, h2, h3⟩)
              clear HEQ2 HPRE
              go_wp2_with fail
              go_round
              case rel => exact ⟨k + 1, by omega, by go_num, HP.out⟩
              case measure => simp [intOf]; omega
            · have h3b : (m : Int) < (U : Int) := by omega
              have HB := Lib.hid (HEQ2 fun h => h3 h.2.2)
              clear HEQ2 HPRE
              go_wp2_with fail
              go_ret
              exact ⟨Tells.no HB.out, rfl⟩
          · have h2b : (40 : Int) < (H : Int) := by omega
            have HB := Lib.hid (HEQ2 fun h => h2 h.2.1)
            clear HEQ2 HPRE
            go_wp2_with fail
            go_ret
            exact ⟨Tells.no HB.out, rfl⟩
        · have h1b : (40 : Int) < (P : Int) := by omega
          have HB := Lib.hid (HEQ2 fun h => h1 h.1)
          clear HEQ2 HPRE
          go_wp2_with fail
          go_ret
          exact ⟨Tells.no HB.out, rfl⟩
      · obtain rfl : k = N := by omega
        have HB := Lib.hid (HALL.out hpre)
        clear HALL HEQ hpre
        go_wp2_with fail
        go_ret
        exact ⟨Tells.yes HB.out, rfl⟩
  · have hne : (m : Int) < (t.length : Int) := by omega
    have HN : Hid (¬ smallP t m) := fun h => hlen h.1
    clear hu hlen
    go_enter Tryd.func22, Tryd.ntmps22
    go_wp2_with fail
    go_ret
    exact ⟨Tells.no HN.out, rfl⟩

set_option maxHeartbeats 1000000 in
theorem refMayT_any (u : Value) (t : List Nod) (m : Nat) (w : World) (hu : NL w u t) (hm : m ≤ 100000) :
    Calls Tryd.prog 7 #[u, .int .i64 (m : Int)] w fun e w' => Tells e (smallP t m ∧ RightP t) ∧ Kp w w' := by
  have HS := Lib.hid (refSmall_any u t m w hu hm)
  have HR : Hid (smallP t m → Calls Tryd.prog 15 #[u] w fun e w' => Tells e (RightP t) ∧ Kp w w') := fun h => refRightT_any u t w hu (by have := h.1; omega)
  obtain ⟨a1, c1, rfl, p1, s1⟩ := hu.shape
  clear hu
  generalize smallP t m = SP at *
  generalize RightP t = RP at *
  go_enter Tryd.func7, Tryd.ntmps7
  go_wp2_with fail
  refine HS.out.mono ?_; rintro _ _ ⟨⟨b, rfl, hb⟩, rfl⟩
  cases b
  · have HN : Hid (¬ (SP ∧ RP)) := fun h => by have := hb.2 h.1; cases this
    clear hb HR
    go_wp2_with fail
    go_ret
    exact ⟨Tells.no HN.out, Kp.refl _⟩
  · have hsp := hb.1 rfl
    have HR2 := Lib.hid (HR.out hsp)
    have HB := Lib.hid hsp
    clear hb HR hsp
    go_wp2_with fail
    refine HR2.out.mono ?_; rintro _ w2 ⟨⟨b, rfl, hb⟩, k2⟩
    have HBB : Hid (b = true ↔ SP ∧ RP) := ⟨fun h => ⟨HB.out, hb.1 h⟩, fun h => hb.2 h.2⟩
    clear hb
    go_wp2_with fail
    go_ret
    exact ⟨⟨b, rfl, HBB.out⟩, k2⟩

set_option maxHeartbeats 1000000 in
theorem refUsed_any (u : Value) (t : List Nod) (w : World) (hu : NL w u t) (hl : t.length ≤ 100000) :
    Calls Tryd.prog 16 #[u] w fun e w' => (∃ r, e = .returned r ∧ OI 3 w' w.heap.size r ((usedL t).map fun (n : Nat) => (n : Int))) ∧ Kp w w' := by
  have S := s1ints
  have HL := Lib.hid (fun W (hW : Kp w W) => refLvs_any u t W (hu.kp hW) hl)
  have hlm := lvs_max (t := t) hl
  have HU := Lib.hid hu
  obtain ⟨a, c, rfl, p1, s1⟩ := hu.shape
  have H2 := Lib.hid (fun k h => lvs_two (t := t) (k := k) h)
  obtain ⟨F, hF⟩ : ∃ F : Nat → List Int, F = fun k => ((List.range k).filter fun i => decide ((ats t (2 * i)).kind = 1)).map fun (n : Nat) => (n : Int) := ⟨_, rfl⟩
  have HF0 : Hid (F 0 = []) := by unfold Hid; rw [hF]; rfl
  have HFS : Hid (∀ k, F (k + 1) = if (ats t (2 * k)).kind = 1 then F k ++ [(k : Int)] else F k) := fun k => by
    rw [hF]
    simp only []
    rw [List.range_succ, List.filter_append, List.map_append]
    by_cases h : (ats t (2 * k)).kind = 1
    · rw [if_pos h]
      simp [h]
    · rw [if_neg h]
      simp [h]
  have HFL : Hid (∀ k, (F k).length ≤ k) := fun k => by
    rw [hF]
    simp only [List.length_map]
    exact Nat.le_trans (List.length_filter_le _ _) (by rw [List.length_range]; exact Nat.le_refl _)
  have HFE : Hid (F (lvs t) = (usedL t).map fun (n : Nat) => (n : Int)) := by rw [hF]; rfl
  generalize (usedL t).map (fun (n : Nat) => (n : Int)) = OUT at *
  generalize lvs t = L at *
  obtain ⟨N, hN⟩ : ∃ N, t.length = N := ⟨_, rfl⟩
  rw [hN] at HU p1 H2 HL hl ⊢
  clear hu hN hF
  go_enter Tryd.func16, Tryd.ntmps16
  go_wp2_with fail
  go_loopw [3, 4] (fun v i wr => ∃ k : Nat, k ≤ L ∧ i = .int .i64 (k : Int) ∧ OI 3 wr w.heap.size v (F k) ∧ Kp w wr) (fun _ i _ => (L - (intOf i).toNat))
  case atStart => exact ⟨0, Nat.zero_le _, rfl, by rw [HF0.out]; exact OI.nil _ _ _, Kp.refl _⟩
  case round =>
    obtain ⟨k, hk, rfl, ho, hkp⟩ := hrel
    have HL1 := Lib.hid (HL.out wr hkp)
    by_cases hlt : k < L
    · have hk2 := H2.out k hlt
      obtain ⟨b, off, rfl, hb, hc⟩ := HU.out.at (2 * k) hk2
      obtain ⟨p, q, h, hn⟩ := hc (2 * k) hk2
      have c1 := hkp.cell hn.kind
      have i1 : IntKind.i64.wrap ((k : Int) + 1) = (k : Int) + 1 := IntWalk.i64_in _ (by omega)
      have i2 : IntKind.i64.wrap (2 * (k : Int)) = ((2 * k : Nat) : Int) := by rw [IntWalk.i64_in _ (by omega)]; omega
      have i3 : ((2 * k : Nat) : Int) < (N : Int) := by omega
      have HS1 := HFS.out k
      have hfl := HFL.out k
      have hsz := hkp.size
      clear hc hn hk2 hb HFS HFL HFE HF0 HL H2
      generalize (ats t (2 * k)).kind = X at *
      generalize 2 * k = K2 at *
      by_cases h1 : X = 1
      · rw [if_pos h1] at HS1
        have HS2 := Lib.hid HS1
        subst h1
        clear HS1
        generalize F k = FK at *
        go_wp2_with (first
          | (go_at_call 10; refine HL1.out.mono ?_; rintro _ _ ⟨rfl, rfl⟩)
          | (at_builtin; refine wpList_append_i (o := ⟨some 21, _, _, _, _, _⟩) S rfl _ _ rfl w.heap.size _ FK rfl (ho.kp ((Kp.refl wr).alloc _)) _ [(k : Int)] rfl (OI.lit1 wr 3 (k : Int)) (by simp; omega) (by simp; omega) ?_; intro v5 w5 o5 g5; have k5 : Kp w w5 := Kp.grown (hkp.alloc _) g5 ho.own_ge))
        go_roundw
        case rel => exact ⟨k + 1, by omega, by go_num, by rw [HS2.out]; exact o5, k5⟩
        case measure => simp [intOf]; omega
      · rw [if_neg h1] at HS1
        have HS2 := Lib.hid HS1
        have hxb : (X == 1) = false := beq_eq_false_iff_ne.2 h1
        have HO := Lib.hid (And.intro ho hkp)
        clear HS1 ho hkp
        go_wp2_with fail
        refine HL1.out.mono ?_; rintro _ _ ⟨rfl, rfl⟩
        go_wp2_with fail
        go_roundw
        case rel => exact ⟨k + 1, by omega, by go_num, by rw [HS2.out]; exact HO.out.1, HO.out.2⟩
        case measure => simp [intOf]; omega
    · obtain rfl : k = L := by omega
      rw [HFE.out] at ho
      have HO := Lib.hid (And.intro ho hkp)
      obtain ⟨a5, n5, c5, rfl⟩ := ho.ri.sl
      clear ho hkp HFE HFS HFL HF0 H2
      go_wp2_with fail
      refine HL1.out.mono ?_; rintro _ _ ⟨rfl, rfl⟩
      go_wp2_with fail
      go_ret
      exact ⟨⟨_, rfl, HO.out.1⟩, HO.out.2⟩

theorem rising_len2 {l : List Int} (lo : Int) (n : Nat) (h : l.Pairwise (· < ·)) (hl : ∀ i ∈ l, lo ≤ i ∧ i < lo + n) : l.length ≤ n := by
  have key : ∀ k (hk : k < l.length), lo + (k : Int) ≤ l[k] := by
    intro k
    induction k with
    | zero => intro hk; have := (hl _ (List.getElem_mem hk)).1; omega
    | succ k ih =>
      intro hk
      have h1 := ih (by omega)
      have h2 := (List.pairwise_iff_getElem.1 h) k (k + 1) (by omega) hk (by omega)
      omega
  by_cases h0 : l.length = 0
  · omega
  · have h1 := key (l.length - 1) (by omega)
    have h2 := (hl _ (List.getElem_mem (show l.length - 1 < l.length by omega))).2
    omega
theorem res_len {t : List Nod} {K : Nat} (h : RightK t K) : ∀ (j q : Nat), j ≤ K → q < 2 ^ (K - j) → (resF t j q).length ≤ 2 ^ (j + 1) := by
  have hfull : ∀ (j q : Nat), j ≤ K → q < 2 ^ (K - j) → (((nd j q : Nat) : Int) :: (ats t (nd j q)).un.map (2 * ·)).length ≤ 2 ^ (j + 1) := by
    intro j q hj hq
    obtain ⟨_, s2, s3⟩ := nd_small h.le hj hq
    have hp := p2_succ j
    have hp1 := p2_pos j
    rw [List.length_cons, List.length_map]
    have : (ats t (nd j q)).un.length ≤ 2 ^ j := by
      rcases h.okA (nd j q) with h1 | ⟨h1, h2, h3, h4, h5⟩
      · rw [h1]; exact Nat.zero_le _
      · by_cases e : (ats t (nd j q)).kind = 1
        · rw [h4 e]; exact Nat.zero_le _
        · have h6 := (h5 (by omega)).2
          obtain ⟨l1, l2⟩ := lv_nd s2 s3
          rw [l1, l2] at h6
          refine rising_len2 ((2 ^ j * q : Nat) : Int) _ h6.1 fun i hi => ?_
          have := h6.2 i hi
          omega
    omega
  intro j
  induction j with
  | zero =>
    intro q hj hq
    unfold resF
    split
    · exact Nat.zero_le _
    · exact hfull 0 q hj hq
  | succ j ih =>
    intro q hj hq
    have e9 : K - j = (K - (j + 1)) + 1 := by omega
    have hp := p2_succ (K - (j + 1))
    rw [← e9] at hp
    show (if (ats t (nd (j + 1) q)).kind = 0 then _ else _ : List Int).length ≤ _
    split
    · rw [List.length_append]
      have h1 := ih (2 * q) (by omega) (by omega)
      have h2 := ih (2 * q + 1) (by omega) (by omega)
      have h3 := p2_succ (j + 1)
      omega
    · exact hfull (j + 1) q hj hq

end Go.Proofs.YtnpobcggadojkaaDoor

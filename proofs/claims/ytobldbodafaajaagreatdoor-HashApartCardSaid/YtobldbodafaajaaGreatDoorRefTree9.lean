/- pyxref09: Leaves, may, Find, there, empty, put. -/
import Derived.Test.YtobldbodafaajaaGreatDoorMathRef9
import Derived.Test.YtobldbodafaajaaGreatDoorTreePl9
import Derived.Test.YtobldbodafaajaaGreatDoorByt9
import Derived.Deep.RegionWith
set_option linter.unusedVariables false
set_option linter.unusedSimpArgs false
namespace Go.Proofs.YtobldbodafaajaaGreatDoor
open Go.RowKit

theorem lvs_int {t : List Nod} (h : t.length ≤ 100000) : IntKind.i64.wrap ((t.length : Int) + 1) = (t.length : Int) + 1 ∧ ((t.length : Int) + 1).tdiv 2 = ((lvs t : Nat) : Int) := by
  refine ⟨IntWalk.i64_in _ (by omega), ?_⟩
  unfold lvs
  rw [Int.tdiv_eq_ediv_of_nonneg (by omega)]
  omega
theorem lvs_two {t : List Nod} {k : Nat} (h : k < lvs t) : 2 * k < t.length := by unfold lvs at h; omega
theorem lvs_max {t : List Nod} (h : t.length ≤ 100000) : (lvs t : Int) ≤ 100000 := by
  unfold lvs
  omega
theorem refLvs_any (u : Value) (t : List Nod) (w : World) (hu : NL w u t) (hl : t.length ≤ 100000) :
    Calls Tryz.prog 22 #[u] w fun e w' => e = .returned (.int .i64 ((lvs t : Nat) : Int)) ∧ w = w' := by
  obtain ⟨a, c, rfl, h1, h2⟩ := hu.shape
  obtain ⟨i1, i2⟩ := lvs_int (t := t) hl
  have i3 : IntKind.i64.wrap ((lvs t : Nat) : Int) = ((lvs t : Nat) : Int) := IntWalk.i64_in _ (by have := lvs_max (t := t) hl; omega)
  go_enter Tryz.func22, Tryz.ntmps22
  go_wp2_with fail
  go_ret
  exact ⟨rfl, rfl⟩

theorem refMayN_any (name : Int) (v : Value) (pub : List UInt8) (w : World) (hv : Rd w v pub) :
    Calls Tryz.prog 58 #[.int .i64 name, v] w fun e w' => e = .returned (.bool (decide (mayP name pub))) ∧ w = w' := by
  obtain ⟨a, c, rfl, h1, h2⟩ := hv.shape
  by_cases n0 : 0 ≤ name
  · by_cases n1 : name ≤ 65535
    · by_cases n2 : pub.length = 32
      · have e : decide (mayP name pub) = true := decide_eq_true ⟨n0, n1, n2⟩
        rw [e]
        rw [n2] at h1 ⊢
        clear e hv n2
        go_enter Tryz.func58, Tryz.ntmps58
        go_wp2_with fail
        go_ret
        exact ⟨rfl, rfl⟩
      · have e : decide (mayP name pub) = false := decide_eq_false fun h => n2 h.2.2
        have hb2 : ((pub.length : Int) == 32) = false := beq_eq_false_iff_ne.2 (by omega)
        have hb3 : ¬ (pub.length : Int) = 32 := by omega
        rw [e]
        clear e hv n2
        go_enter Tryz.func58, Tryz.ntmps58
        go_wp2_with fail
        go_ret
        exact ⟨rfl, rfl⟩
    · have e : decide (mayP name pub) = false := decide_eq_false fun h => n1 h.2.1
      rw [e]
      clear e hv
      go_enter Tryz.func58, Tryz.ntmps58
      go_wp2_with fail
      go_ret
      exact ⟨rfl, rfl⟩
  · have e : decide (mayP name pub) = false := decide_eq_false fun h => n0 h.1
    rw [e]
    clear e hv
    go_enter Tryz.func58, Tryz.ntmps58
    go_wp2_with fail
    go_ret
    exact ⟨rfl, rfl⟩

theorem find_at_is {t : List Nod} {name : Int} {k : Nat} (hk : k < lvs t) (h : (ats t (2 * k)).kind = 1) (hn : (ats t (2 * k)).name = name) (hpre : ∀ j, j < k → ¬ ((ats t (2 * j)).kind = 1 ∧ (ats t (2 * j)).name = name)) :
    findV t name = (k : Int) ∧ findB t name = true := by
  have e : findN t name = k := range_findIdx_eq (by omega) (fun _ => decide_eq_true ⟨h, hn⟩) (fun j hj => decide_eq_false (hpre j hj))
  have e2 : findB t name = true := by unfold findB; rw [e]; exact decide_eq_true hk
  exact ⟨by unfold findV; rw [e2, e]; rfl, e2⟩
theorem find_not {t : List Nod} {name : Int} (h : ∀ j, j < lvs t → ¬ ((ats t (2 * j)).kind = 1 ∧ (ats t (2 * j)).name = name)) : findV t name = 0 ∧ findB t name = false := by
  have e := find_none h
  exact ⟨by unfold findV; rw [e]; rfl, e⟩

set_option maxHeartbeats 1000000 in
theorem refFind_any (u : Value) (t : List Nod) (name : Int) (w : World) (hu : NL w u t) (hl : t.length ≤ 100000) :
    Calls Tryz.prog 59 #[u, .int .i64 name] w fun e w' => e = .returned (.tuple #[.int .i64 (findV t name), .bool (findB t name)]) ∧ w = w' := by
  have HL := Lib.hid (refLvs_any u t w hu hl)
  obtain ⟨a, c, rfl, p1, s1⟩ := hu.shape
  have hlm := lvs_max (t := t) hl
  have HU := Lib.hid hu
  have HY := Lib.hid (fun k hk h hn hpre => find_at_is (t := t) (name := name) (k := k) hk h hn hpre)
  have HN := Lib.hid (fun h => find_not (t := t) (name := name) h)
  have H2 := Lib.hid (fun k h => lvs_two (t := t) (k := k) h)
  generalize findV t name = FV at *
  generalize findB t name = FB at *
  generalize lvs t = L at *
  obtain ⟨N, hN⟩ : ∃ N, t.length = N := ⟨_, rfl⟩
  rw [hN] at HU p1 H2 HL hl ⊢
  clear hu hN
  go_enter Tryz.func59, Tryz.ntmps59
  go_wp2_with fail
  go_loop [6] (fun i => ∃ k : Nat, k ≤ L ∧ i = .int .i64 (k : Int) ∧ (∀ j, j < k → ¬ ((ats t (2 * j)).kind = 1 ∧ (ats t (2 * j)).name = name))) (fun i => (L - (intOf i).toNat))
  case atStart => exact ⟨0, Nat.zero_le _, rfl, fun t h => by omega⟩
  case round =>
    obtain ⟨k, hk, rfl, hpre⟩ := hrel
    by_cases hlt : k < L
    · have hk2 := H2.out k hlt
      obtain ⟨b, off, rfl, hb, hc⟩ := HU.out.at (2 * k) hk2
      obtain ⟨p, q, h, hn⟩ := hc (2 * k) hk2
      have c1 := hn.kind
      have c2 := hn.name
      have HY2 := HY.out k hlt
      have HPRE : Hid (¬ ((ats t (2 * k)).kind = 1 ∧ (ats t (2 * k)).name = name) → ∀ j, j < k + 1 → ¬ ((ats t (2 * j)).kind = 1 ∧ (ats t (2 * j)).name = name)) := fun he j hj => by
        rcases Nat.lt_or_eq_of_le (Nat.lt_succ_iff.1 hj) with h3 | h3
        · exact hpre j h3
        · rw [h3]; exact he
      have HPR := Lib.hid hpre
      have i1 : IntKind.i64.wrap ((k : Int) + 1) = (k : Int) + 1 := IntWalk.i64_in _ (by omega)
      have i2 : IntKind.i64.wrap (2 * (k : Int)) = ((2 * k : Nat) : Int) := by rw [IntWalk.i64_in _ (by omega)]; omega
      have i3 : ((2 * k : Nat) : Int) < (N : Int) := by omega
      clear hc hn HN hpre HY hk2 hb
      generalize (ats t (2 * k)).kind = X at *
      generalize (ats t (2 * k)).name = Y at *
      generalize 2 * k = K2 at *
      by_cases h1 : X = 1
      · by_cases h2 : Y = name
        · obtain ⟨e1, e2⟩ := HY2 h1 h2 HPR.out
          have HB := Lib.hid (And.intro e1 e2)
          subst h1
          subst h2
          clear HY2 HPRE HPR e1 e2
          go_wp2_with fail
          refine HL.out.mono ?_; rintro _ _ ⟨rfl, rfl⟩
          go_wp2_with fail
          go_ret2
          exact ⟨by rw [HB.out.1, HB.out.2] <;> rfl, rfl⟩
        · have HP := Lib.hid (HPRE.out fun h => h2 h.2)
          have hne2 : (Y == name) = false := beq_eq_false_iff_ne.2 h2
          subst h1
          clear HY2 HPRE HPR
          go_wp2_with fail
          refine HL.out.mono ?_; rintro _ _ ⟨rfl, rfl⟩
          go_wp2_with fail
          go_round
          case rel => exact ⟨k + 1, by omega, by go_num, HP.out⟩
          case measure => simp [intOf]; omega
      · have HP := Lib.hid (HPRE.out fun h => h1 h.1)
        have hne2 : (X == 1) = false := beq_eq_false_iff_ne.2 h1
        clear HY2 HPRE HPR
        go_wp2_with fail
        refine HL.out.mono ?_; rintro _ _ ⟨rfl, rfl⟩
        go_wp2_with fail
        go_round
        case rel => exact ⟨k + 1, by omega, by go_num, HP.out⟩
        case measure => simp [intOf]; omega
    · obtain rfl : k = L := by omega
      obtain ⟨e1, e2⟩ := HN.out hpre
      have HB := Lib.hid (And.intro e1 e2)
      clear HN hpre HY H2 e1 e2
      go_wp2_with fail
      refine HL.out.mono ?_; rintro _ _ ⟨rfl, rfl⟩
      go_wp2_with fail
      go_ret2
      exact ⟨by rw [HB.out.1, HB.out.2] <;> rfl, rfl⟩
end Go.Proofs.YtobldbodafaajaaGreatDoor

/- pyxref09: New, node. -/
set_option linter.unusedVariables false
set_option linter.unusedSimpArgs false
namespace Go.Proofs.YtobldbodafaajaaGreatDoor
open Go.RowKit

theorem Tryz.infoNode : (Tryz.prog.info? 37).map (fun i => (i.zero, i.size, i.bytes)) = some (some (.agg #[.int .i64 0, .int .i64 0, .slice none 0 0, .slice none 0 0, .slice none 0 0]), 5, 88) := by kernel_rfl
theorem s5nodes : S5 Tryz.prog 22 37 := S5.mk' Tryz.underlying22 Tryz.infoNode (by decide) rfl
theorem loadNode (w : World) (b o : Nat) (n : Nod) (p u h : Value) (H : NAt w b o n p u h) :
    (Instr.loadAt 37 (.pointer (some ⟨b, o, none⟩))).run Tryz.prog w = .ok (.agg #[.int .i64 n.kind, .int .i64 n.name, p, u, h]) w :=
  run_loadAt_mid w b o 37 (nodC n p u h) _ H.1 Tryz.underlying37 rfl (by kernel_rfl)
def newE (name : Int) (pub : List UInt8) : Int := if mayP name pub then 0 else 1
def newV (name : Int) (pub : List UInt8) : List Nod := if mayP name pub then [leafN name pub] else []
theorem NL.lit1 (w : World) (e : TypeId) (n : Nod) (p u h : Value) (H : NIn w n p u h) : NL (w.alloc (.cells #[.int .i64 n.kind, .int .i64 n.name, p, u, h] e)) (.slice (some ⟨w.heap.size, 0, none⟩) 1 1) [n] := by
  refine ⟨_, 1, rfl, Nat.le_refl _, by unfold maxLen; omega, fun h => (by cases h), fun _ => ⟨w.heap.size, 0, rfl, by simp, fun i hi => ?_⟩⟩
  have : i = 0 := by simpa using hi
  subst this
  refine ⟨p, u, h, fun j v hj => ?_, H.kp ((Kp.refl _).alloc _)⟩
  rw [cell_of_row _ _ _ _ _ _ (heap_alloc_new w _)]
  simp only [Nat.zero_mul, Nat.zero_add]
  exact (show (nodC n p u h).toArray[j]? = some v by rw [List.getElem?_toArray]; exact hj)
set_option maxHeartbeats 1000000 in
theorem refNewN_any (name : Int) (v : Value) (pub : List UInt8) (w : World) (hv : Rd w v pub) :
    Calls Tryz.prog 25 #[.int .i64 name, v] w fun e w' => (∃ r, e = .returned (.tuple #[r, .int .i64 (newE name pub)]) ∧ NL w' r (newV name pub)) ∧ Kp w w' := by
  have HM := Lib.hid (refMayN_any name v pub w hv)
  by_cases h : mayP name pub
  · rw [decide_eq_true h] at HM
    rw [show newE name pub = 0 from if_pos h, show newV name pub = [leafN name pub] from if_pos h]
    have HN := Lib.hid (NL.lit1 w 37 (leafN name pub) v (.slice none 0 0) (.slice none 0 0) ⟨hv, RI.nil w, rd_nil9 w⟩)
    obtain ⟨a, c, rfl, h1, h2⟩ := hv.shape
    go_enter Tryz.func25, Tryz.ntmps25
    go_wp2_with fail
    refine HM.out.mono ?_; rintro _ _ ⟨rfl, rfl⟩
    go_wp2_with fail
    go_ret2
    exact ⟨⟨_, rfl, HN.out⟩, (Kp.refl _).alloc _⟩
  · rw [decide_eq_false h] at HM
    rw [show newE name pub = 1 from if_neg h, show newV name pub = [] from if_neg h]
    clear h
    go_enter Tryz.func25, Tryz.ntmps25
    go_wp2_with fail
    refine HM.out.mono ?_; rintro _ _ ⟨rfl, rfl⟩
    go_wp2_with fail
    go_ret2
    exact ⟨⟨_, rfl, NL.nil _⟩, Kp.refl _⟩

/-- A node of kind 0 is right just if it is blank. -/
theorem ok_zero {t : List Nod} {x : Nat} (hk : (ats t x).kind = 0) : okP t x ↔ (ats t x).name = 0 ∧ (ats t x).pub.length = 0 ∧ (ats t x).un.length = 0 ∧ (ats t x).hash.length = 0 := by
  constructor
  · intro h
    rw [kind_blank h hk]
    exact ⟨rfl, rfl, rfl, rfl⟩
  · rintro ⟨h1, h2, h3, h4⟩
    refine .inl ((Nod.eq_iff _ _).2 ⟨hk, h1, List.eq_nil_of_length_eq_zero h2, List.eq_nil_of_length_eq_zero h3, List.eq_nil_of_length_eq_zero h4⟩)
theorem ok_other {t : List Nod} {x : Nat} (hk : (ats t x).kind ≠ 0) : okP t x ↔ mayP (ats t x).name (ats t x).pub ∧ ((ats t x).hash.length = 0 ∨ (ats t x).hash.length = 32) ∧ (ats t x).kind = 1 + (x : Int) % 2 ∧
    ((ats t x).kind = 1 → (ats t x).un.length = 0) ∧ ((ats t x).kind ≠ 1 → unP t (loV x) (hiV x) (ats t x).un ∧ (ats t x).name = 0) := by
  constructor
  · rintro (h | ⟨h1, h2, h3, h4, h5⟩)
    · rw [h] at hk; exact absurd rfl hk
    · exact ⟨h2, h3, h1, fun h => by rw [h4 h]; rfl, fun h => (h5 (by omega)).symm⟩
  · rintro ⟨h2, h3, h1, h4, h5⟩
    exact .inr ⟨h1, h2, h3, fun h => List.eq_nil_of_length_eq_zero (h4 h), fun h => (h5 (by omega)).symm⟩
end Go.Proofs.YtobldbodafaajaaGreatDoor

/- pyxref09: node. -/
set_option linter.unusedVariables false
set_option linter.unusedSimpArgs false
namespace Go.Proofs.YtobldbodafaajaaGreatDoor
open Go.RowKit

/-- A call that answers whether. -/
def Tells (e : Ending) (p : Prop) : Prop := ∃ b, e = .returned (.bool b) ∧ (b = true ↔ p)
theorem ne_nat {a b : Nat} (h : a ≠ b) : ((a : Int) == (b : Int)) = false := beq_eq_false_iff_ne.2 (by omega)
set_option maxHeartbeats 2000000 in
theorem refNode_zero (u : Value) (t : List Nod) (x : Nat) (w : World) (hu : NL w u t) (hx : x < t.length) (hk : (ats t x).kind = 0) :
    Calls Tryz.prog 63 #[u, .int .i64 (x : Int)] w fun e w' => Tells e (okP t x) ∧ Kp w w' := by
  obtain ⟨a, c, rfl, p1, s1⟩ := hu.shape
  unfold maxLen at s1
  obtain ⟨b, off, rfl, hb, hc⟩ := hu.at x hx
  obtain ⟨p, q, h, hn⟩ := hc x hx
  have c0 := hn.kind
  have c1 := hn.name
  have c2 := hn.pubC
  have c3 := hn.unC
  have c4 := hn.hashC
  have HO := ok_zero hk
  obtain ⟨ap, cp, rfl, _, _⟩ := hn.2.pub.shape
  obtain ⟨aq, cq, rfl, _, _⟩ := hn.2.un.shape
  obtain ⟨ah, ch, rfl, _, _⟩ := hn.2.hash.shape
  have i3 : (x : Int) < (t.length : Int) := by omega
  obtain ⟨N, hN⟩ : ∃ N, t.length = N := ⟨_, rfl⟩
  rw [hN] at i3 p1 ⊢
  generalize (ats t x) = n at *
  obtain ⟨kind, name, pub, un, hash⟩ := n
  simp only at hk HO c0 c1 c2 c3 c4 ⊢
  subst hk
  generalize pub.length = P at *
  generalize un.length = U at *
  generalize hash.length = H at *
  clear hn hc hu hN hb hx
  by_cases h1 : name = 0
  · subst h1
    by_cases h2 : P = 0
    · subst h2
      by_cases h3 : U = 0
      · subst h3
        by_cases h4 : H = 0
        · subst h4
          have HB := Lib.hid (HO.2 ⟨rfl, rfl, rfl, rfl⟩)
          clear HO
          go_enter Tryz.func63, Tryz.ntmps63
          go_wp2_with fail
          go_ret
          exact ⟨⟨true, rfl, fun _ => HB.out, fun _ => rfl⟩, (Kp.refl _).alloc _⟩
        · have HB := Lib.hid (fun e => h4 (HO.1 e).2.2.2)
          have e4 := ne_nat h4
          have e5 : ¬ (H : Int) = 0 := by omega
          clear HO
          go_enter Tryz.func63, Tryz.ntmps63
          go_wp2_with fail
          go_ret
          exact ⟨⟨_, rfl, fun h => absurd (beq_iff_eq.1 h) e5, fun h => absurd h HB.out⟩, (Kp.refl _).alloc _⟩
      · have HB := Lib.hid (fun e => h3 (HO.1 e).2.2.1)
        have e4 := ne_nat h3
        have e5 : ¬ (U : Int) = 0 := by omega
        clear HO
        go_enter Tryz.func63, Tryz.ntmps63
        go_wp2_with fail
        go_ret
        exact ⟨⟨false, rfl, fun h => (by cases h), fun h => absurd h HB.out⟩, (Kp.refl _).alloc _⟩
    · have HB := Lib.hid (fun e => h2 (HO.1 e).2.1)
      have e4 := ne_nat h2
      have e5 : ¬ (P : Int) = 0 := by omega
      clear HO
      go_enter Tryz.func63, Tryz.ntmps63
      go_wp2_with fail
      go_ret
      exact ⟨⟨false, rfl, fun h => (by cases h), fun h => absurd h HB.out⟩, (Kp.refl _).alloc _⟩
  · have HB := Lib.hid (fun e => h1 (HO.1 e).1)
    have e4 : (name == 0) = false := beq_eq_false_iff_ne.2 h1
    clear HO
    go_enter Tryz.func63, Tryz.ntmps63
    go_wp2_with fail
    go_ret
    exact ⟨⟨false, rfl, fun h => (by cases h), fun h => absurd h HB.out⟩, (Kp.refl _).alloc _⟩

/-- The number ahead of the k-th one of a row. -/
def ahead (lo : Int) (l : List Int) (k : Nat) : Int := if k = 0 then lo - 1 else l.getD (k - 1) 0
theorem un_iff (t : List Nod) (lo hi : Int) (l : List Int) : unP t lo hi l ↔ ∀ k, k < l.length → ahead lo l k < l.getD k 0 ∧ l.getD k 0 ≤ hi ∧ (ats t (2 * (l.getD k 0).toNat)).kind = 1 := by
  have hg : ∀ k (h : k < l.length), l.getD k 0 = l[k] := fun k h => by rw [List.getD_eq_getElem?_getD, List.getElem?_eq_getElem h]; rfl
  constructor
  · rintro ⟨h1, h2⟩ k hk
    rw [hg k hk]
    obtain ⟨a1, a2, a3⟩ := h2 l[k] (List.getElem_mem hk)
    refine ⟨?_, a2, a3⟩
    unfold ahead
    by_cases h0 : k = 0
    · rw [if_pos h0]; omega
    · rw [if_neg h0, hg _ (by omega)]
      exact (List.pairwise_iff_getElem.1 h1) (k - 1) k (by omega) hk (by omega)
  · intro h
    have hlt : ∀ d i j (hi : i < l.length) (hj : j < l.length), j = i + d + 1 → l[i] < l[j] := by
      intro d
      induction d with
      | zero =>
        intro i j hi hj e
        obtain ⟨a1, _⟩ := h j hj
        unfold ahead at a1
        rw [if_neg (by omega), hg _ (by omega), hg _ hj] at a1
        have : j - 1 = i := by omega
        subst this
        exact a1
      | succ d ih =>
        intro i j hi hj e
        obtain ⟨a1, _⟩ := h j hj
        unfold ahead at a1
        rw [if_neg (by omega), hg _ (by omega), hg _ hj] at a1
        have := ih i (j - 1) hi (by omega) (by omega)
        omega
    refine ⟨List.pairwise_iff_getElem.2 fun i j hi hj hij => hlt (j - i - 1) i j hi hj (by omega), fun v hv => ?_⟩
    obtain ⟨k, hk, rfl⟩ := List.getElem_of_mem hv
    obtain ⟨a1, a2, a3⟩ := h k hk
    rw [hg k hk] at a1 a2 a3
    refine ⟨?_, a2, a3⟩
    obtain ⟨b1, _⟩ := h 0 (by omega)
    unfold ahead at b1
    rw [if_pos rfl, hg 0 (by omega)] at b1
    by_cases h0 : k = 0
    · subst h0; omega
    · have := hlt (k - 1) 0 k (by omega) hk (by omega)
      omega
/-- The leaves below a node of a tree: where they stand. -/
theorem lohi_in {K x n : Nat} (hK : K ≤ 10) (hn : n = 2 ^ (K + 1) - 1) (hx : x < n) : 0 ≤ loV x ∧ loV x ≤ hiV x ∧ 2 * hiV x < (n : Int) ∧ hiV x < 1024 := by
  subst hn
  obtain ⟨j, q, rfl, hj, hq⟩ := nd_of K x hx
  obtain ⟨_, s2, s3⟩ := nd_small hK hj hq
  obtain ⟨l1, l2⟩ := lv_nd s2 s3
  rw [l1, l2]
  have e1 : 2 ^ K = 2 ^ j * 2 ^ (K - j) := by rw [← Nat.pow_add]; congr 1; omega
  have e2 : 2 ^ j * (q + 1) ≤ 2 ^ K := by rw [e1]; exact Nat.mul_le_mul_left _ hq
  rw [Nat.mul_add, Nat.mul_one] at e2
  have := p2_pos j
  have := p2_succ K
  have := p2_le hK
  omega
theorem tmod2 (x : Nat) : ((x : Int)).tmod 2 = (x : Int) % 2 := Int.tmod_eq_emod_of_nonneg (by omega)

set_option maxHeartbeats 4000000 in
theorem refNode_other (u : Value) (t : List Nod) (x K : Nat) (w : World) (hu : NL w u t) (hK : K ≤ 10) (hl : t.length = 2 ^ (K + 1) - 1) (hx : x < t.length) (hk : (ats t x).kind ≠ 0) :
    Calls Tryz.prog 63 #[u, .int .i64 (x : Int)] w fun e w' => Tells e (okP t x) ∧ Kp w w' := by
  obtain ⟨a, c, rfl, p1, s1⟩ := hu.shape
  unfold maxLen at s1
  have HU := Lib.hid hu
  obtain ⟨b, off, rfl, hb, hc⟩ := hu.at x hx
  obtain ⟨p, q, h, hn⟩ := hc x hx
  have c0 := hn.kind
  have c1 := hn.name
  have c2 := hn.pubC
  have c3 := hn.unC
  have c4 := hn.hashC
  have HO := ok_other hk
  obtain ⟨l1, l2, l3, l4⟩ := lohi_in hK hl hx
  have HLV := Lib.hid (fun W => refLeaves_any (x : Int) W)
  have HUN := Lib.hid (un_iff t (loV x) (hiV x) (ats t x).un)
  have HM : Hid (∀ W, Kp w W → Calls Tryz.prog 58 #[.int .i64 (ats t x).name, p] W fun e w' => e = .returned (.bool (decide (mayP (ats t x).name (ats t x).pub))) ∧ W = w') := fun W hW => refMayN_any _ _ _ W (hn.2.pub.kp hW)
  have HQ := Lib.hid hn.2.un
  obtain ⟨ap, cp, rfl, _, _⟩ := hn.2.pub.shape
  obtain ⟨aq, cq, rfl, u1, u2⟩ := hn.2.un.shape
  obtain ⟨ah, ch, rfl, _, _⟩ := hn.2.hash.shape
  unfold maxLen at u2
  have i3 : (x : Int) < (t.length : Int) := by omega
  have tm := tmod2 x
  have tw : IntKind.i64.wrap (1 + (x : Int) % 2) = 1 + (x : Int) % 2 := IntWalk.i64_in _ (by omega)
  have tw2 : IntKind.i64.wrap ((x : Int) % 2) = (x : Int) % 2 := IntWalk.i64_in _ (by omega)
  obtain ⟨N, hN⟩ : ∃ N, t.length = N := ⟨_, rfl⟩
  rw [hN] at i3 p1 l3 HU ⊢
  generalize loV (x : Int) = LO at *
  generalize hiV (x : Int) = HI at *
  have lw : IntKind.i64.wrap (LO - 1) = LO - 1 := IntWalk.i64_in _ (by omega)
  generalize unP t LO HI (ats t x).un = UP at *
  generalize okP t x = OKP at *
  generalize (ats t x) = n at *
  obtain ⟨kind, name, pub, un, hash⟩ := n
  simp only at hk HO c0 c1 c2 c3 c4 HUN HM HQ ⊢
  generalize pub.length = P at *
  generalize hash.length = H at *
  clear hn hc hu hN hb hx hl hK
  have hk0 : (kind == 0) = false := beq_eq_false_iff_ne.2 hk
  have HX : (x : Int) % 2 = 0 ∨ (x : Int) % 2 = 1 := by omega
  generalize (x : Int) % 2 = X2 at *
  by_cases m : mayP name pub
  · rw [decide_eq_true m] at HM
    have HH : H = 0 ∨ H = 32 ∨ (H ≠ 0 ∧ H ≠ 32) := by omega
    rcases HH with rfl | rfl | ⟨hh1, hh2⟩
    · rcases HX with rfl | rfl
      · by_cases hk1 : kind = 1
        · subst hk1
          have u1' : un.length ≤ cq := u1
          have HB : Hid (OKP ↔ un.length = 0) := ⟨fun e => (HO.1 e).2.2.2.1 rfl, fun e => HO.2 ⟨m, .inl rfl, by omega, fun _ => e, fun h => absurd rfl h⟩⟩
          obtain ⟨U, hU⟩ : ∃ U, un.length = U := ⟨_, rfl⟩
          rw [hU] at c3 HB u1'
          clear HO HUN m HLV hU HQ u1
          go_enter Tryz.func63, Tryz.ntmps63
          go_wp2_with fail
          refine (HM.out _ ((Kp.refl _).alloc _)).mono ?_; rintro _ _ ⟨rfl, rfl⟩
          go_wp2_with fail
          go_ret
          exact ⟨⟨_, rfl, fun h => HB.out.2 (by have := beq_iff_eq.1 h; omega), fun h => beq_iff_eq.2 (by have := HB.out.1 h; omega)⟩, (Kp.refl _).alloc _⟩
        · have hkb : (kind == 1) = false := beq_eq_false_iff_ne.2 hk1
          have HB := Lib.hid (fun e => hk1 (by have := (HO.1 e).2.2.1; omega))
          clear HO HUN m HLV
          go_enter Tryz.func63, Tryz.ntmps63
          go_wp2_with fail
          refine (HM.out _ ((Kp.refl _).alloc _)).mono ?_; rintro _ _ ⟨rfl, rfl⟩
          go_wp2_with fail
          go_ret
          exact ⟨⟨false, rfl, fun h => (by cases h), fun h => absurd h HB.out⟩, (Kp.refl _).alloc _⟩
      · by_cases hk1 : kind = 2
        · subst hk1
          have HY : Hid ((∀ k, k < un.length → ahead LO un k < un.getD k 0 ∧ un.getD k 0 ≤ HI ∧ (ats t (2 * (un.getD k 0).toNat)).kind = 1) → (OKP ↔ name = 0)) := fun h => ⟨fun e => ((HO.1 e).2.2.2.2 (by decide)).2, fun e => HO.2 ⟨m, .inl rfl, by omega, fun h => absurd h (by decide), fun _ => ⟨HUN.out.2 h, e⟩⟩⟩
          have HNO : Hid ((¬ ∀ k, k < un.length → ahead LO un k < un.getD k 0 ∧ un.getD k 0 ≤ HI ∧ (ats t (2 * (un.getD k 0).toNat)).kind = 1) → ¬ OKP) := fun h e => h (HUN.out.1 ((HO.1 e).2.2.2.2 (by decide)).1)
          have H0 : Hid (ahead LO un 0 = LO - 1) := if_pos rfl
          have HS : Hid (∀ k, ahead LO un (k + 1) = un.getD k 0) := fun k => by
            unfold ahead
            rw [if_neg (by omega), Nat.add_sub_cancel]
          obtain ⟨U, hU⟩ : ∃ U, un.length = U := ⟨_, rfl⟩
          rw [hU] at c3 HQ HY HNO u1
          have hU2 : U ≤ cq := u1
          clear HO HUN m hU u1
          go_enter Tryz.func63, Tryz.ntmps63
          go_wp2_with fail
          refine (HM.out _ ((Kp.refl _).alloc _)).mono ?_; rintro _ _ ⟨rfl, rfl⟩
          go_wp2_with fail
          refine (HLV.out _).mono ?_; rintro _ _ ⟨rfl, rfl⟩
          clear HLV HM
          have KK := Lib.hid ((Kp.refl w).alloc (.cells #[.int .i64 2, .int .i64 name, .slice ap P cp, .slice aq U cq, .slice ah 0 ch] 37))
          have HQ2 := Lib.hid (HQ.out.kp KK.out)
          have HU2 := Lib.hid (HU.out.kp KK.out)
          clear HQ HU
          go_wp2_with fail
          go_loop [9, 10] (fun l i => ∃ k : Nat, k ≤ U ∧ i = .int .i64 (k : Int) ∧ l = .int .i64 (ahead LO un k) ∧ -1 ≤ ahead LO un k ∧ (∀ j, j < k → ahead LO un j < un.getD j 0 ∧ un.getD j 0 ≤ HI ∧ (ats t (2 * (un.getD j 0).toNat)).kind = 1)) (fun _ i => (U - (intOf i).toNat))
          case atStart => exact ⟨0, Nat.zero_le _, rfl, by rw [H0.out], by rw [H0.out]; omega, fun j h => by omega⟩
          case round =>
            obtain ⟨k, hk, rfl, rfl, hge, hpre⟩ := hrel
            by_cases hlt : k < U
            · obtain ⟨g1, o1, rfl, _, hc1⟩ := HQ2.out.at k hlt
              have d1 := hc1 k hlt
              have HS2 := HS.out k
              have i1 : IntKind.i64.wrap ((k : Int) + 1) = (k : Int) + 1 := IntWalk.i64_in _ (by omega)
              have HPRE : Hid ((ahead LO un k < un.getD k 0 ∧ un.getD k 0 ≤ HI ∧ (ats t (2 * (un.getD k 0).toNat)).kind = 1) → ∀ j, j < k + 1 → ahead LO un j < un.getD j 0 ∧ un.getD j 0 ≤ HI ∧ (ats t (2 * (un.getD j 0).toNat)).kind = 1) := fun he j hj => by
                rcases Nat.lt_or_eq_of_le (Nat.lt_succ_iff.1 hj) with h3 | h3
                · exact hpre j h3
                · rw [h3]; exact he
              have HNO2 : Hid (¬ (ahead LO un k < un.getD k 0 ∧ un.getD k 0 ≤ HI ∧ (ats t (2 * (un.getD k 0).toNat)).kind = 1) → ¬ OKP) := fun h => HNO.out fun h2 => h (h2 k hlt)
              clear hc1 hpre HNO HY H0 HS
              generalize ahead LO un k = A at *
              generalize un.getD k 0 = V at *
              by_cases g1 : A < V
              · by_cases g2 : V ≤ HI
                · obtain ⟨v, rfl⟩ := Int.eq_ofNat_of_zero_le (show 0 ≤ V by omega)
                  rw [Int.toNat_natCast] at HPRE HNO2
                  obtain ⟨b2, off2, e2, _, hc2⟩ := HU2.out.at (2 * v) (by omega)
                  cases e2
                  obtain ⟨p2, q2, h2, hn2⟩ := hc2 (2 * v) (by omega)
                  have d2 := hn2.kind
                  have i4 : IntKind.i64.wrap (2 * (v : Int)) = ((2 * v : Nat) : Int) := by rw [IntWalk.i64_in _ (by omega)]; omega
                  have i5 : ((2 * v : Nat) : Int) < (N : Int) := by omega
                  have g1b : ¬ (v : Int) ≤ A := by omega
                  have g2b : ¬ HI < (v : Int) := by omega
                  clear hc2 hn2
                  generalize (ats t (2 * v)).kind = Z at *
                  generalize 2 * v = V2 at *
                  by_cases g3 : Z = 1
                  · have HP := Lib.hid (HPRE.out ⟨g1, g2, g3⟩)
                    subst g3
                    have H22 := Lib.hid HS2
                    clear HPRE HNO2 HS2
                    go_wp2_with fail
                    go_round
                    case rel => exact ⟨k + 1, by omega, by go_num, by rw [H22.out], by rw [H22.out]; omega, HP.out⟩
                    case measure => simp [intOf]; omega
                  · have HB := Lib.hid (HNO2.out fun h => g3 h.2.2)
                    have hne2 : (Z == 1) = false := beq_eq_false_iff_ne.2 g3
                    clear HPRE HNO2 HS2
                    go_wp2_with fail
                    go_ret
                    exact ⟨⟨false, rfl, fun h => (by cases h), fun h => absurd h HB.out⟩, KK.out⟩
                · have HB := Lib.hid (HNO2.out fun h => g2 h.2.1)
                  have g1b : ¬ V ≤ A := by omega
                  have g2b : HI < V := by omega
                  clear HPRE HNO2 HS2
                  go_wp2_with fail
                  go_ret
                  exact ⟨⟨false, rfl, fun h => (by cases h), fun h => absurd h HB.out⟩, KK.out⟩
              · have HB := Lib.hid (HNO2.out fun h => g1 h.1)
                have g1b : V ≤ A := by omega
                clear HPRE HNO2 HS2
                go_wp2_with fail
                go_ret
                exact ⟨⟨false, rfl, fun h => (by cases h), fun h => absurd h HB.out⟩, KK.out⟩
            · obtain rfl : k = U := by omega
              have HB := Lib.hid (HY.out hpre)
              clear HY HNO hpre HS H0
              go_wp2_with fail
              go_ret
              exact ⟨⟨_, rfl, fun h => HB.out.2 (beq_iff_eq.1 h), fun h => beq_iff_eq.2 (HB.out.1 h)⟩, KK.out⟩
        · have hkb : (kind == 2) = false := beq_eq_false_iff_ne.2 hk1
          have HB := Lib.hid (fun e => hk1 (by have := (HO.1 e).2.2.1; omega))
          clear HO HUN m HLV
          go_enter Tryz.func63, Tryz.ntmps63
          go_wp2_with fail
          refine (HM.out _ ((Kp.refl _).alloc _)).mono ?_; rintro _ _ ⟨rfl, rfl⟩
          go_wp2_with fail
          go_ret
          exact ⟨⟨false, rfl, fun h => (by cases h), fun h => absurd h HB.out⟩, (Kp.refl _).alloc _⟩
    · rcases HX with rfl | rfl
      · by_cases hk1 : kind = 1
        · subst hk1
          have u1' : un.length ≤ cq := u1
          have HB : Hid (OKP ↔ un.length = 0) := ⟨fun e => (HO.1 e).2.2.2.1 rfl, fun e => HO.2 ⟨m, .inr rfl, by omega, fun _ => e, fun h => absurd rfl h⟩⟩
          obtain ⟨U, hU⟩ : ∃ U, un.length = U := ⟨_, rfl⟩
          rw [hU] at c3 HB u1'
          clear HO HUN m HLV hU HQ u1
          go_enter Tryz.func63, Tryz.ntmps63
          go_wp2_with fail
          refine (HM.out _ ((Kp.refl _).alloc _)).mono ?_; rintro _ _ ⟨rfl, rfl⟩
          go_wp2_with fail
          go_ret
          exact ⟨⟨_, rfl, fun h => HB.out.2 (by have := beq_iff_eq.1 h; omega), fun h => beq_iff_eq.2 (by have := HB.out.1 h; omega)⟩, (Kp.refl _).alloc _⟩
        · have hkb : (kind == 1) = false := beq_eq_false_iff_ne.2 hk1
          have HB := Lib.hid (fun e => hk1 (by have := (HO.1 e).2.2.1; omega))
          clear HO HUN m HLV
          go_enter Tryz.func63, Tryz.ntmps63
          go_wp2_with fail
          refine (HM.out _ ((Kp.refl _).alloc _)).mono ?_; rintro _ _ ⟨rfl, rfl⟩
          go_wp2_with fail
          go_ret
          exact ⟨⟨false, rfl, fun h => (by cases h), fun h => absurd h HB.out⟩, (Kp.refl _).alloc _⟩
      · by_cases hk1 : kind = 2
        · subst hk1
          have HY : Hid ((∀ k, k < un.length → ahead LO un k < un.getD k 0 ∧ un.getD k 0 ≤ HI ∧ (ats t (2 * (un.getD k 0).toNat)).kind = 1) → (OKP ↔ name = 0)) := fun h => ⟨fun e => ((HO.1 e).2.2.2.2 (by decide)).2, fun e => HO.2 ⟨m, .inr rfl, by omega, fun h => absurd h (by decide), fun _ => ⟨HUN.out.2 h, e⟩⟩⟩
          have HNO : Hid ((¬ ∀ k, k < un.length → ahead LO un k < un.getD k 0 ∧ un.getD k 0 ≤ HI ∧ (ats t (2 * (un.getD k 0).toNat)).kind = 1) → ¬ OKP) := fun h e => h (HUN.out.1 ((HO.1 e).2.2.2.2 (by decide)).1)
          have H0 : Hid (ahead LO un 0 = LO - 1) := if_pos rfl
          have HS : Hid (∀ k, ahead LO un (k + 1) = un.getD k 0) := fun k => by
            unfold ahead
            rw [if_neg (by omega), Nat.add_sub_cancel]
          obtain ⟨U, hU⟩ : ∃ U, un.length = U := ⟨_, rfl⟩
          rw [hU] at c3 HQ HY HNO u1
          have hU2 : U ≤ cq := u1
          clear HO HUN m hU u1
          go_enter Tryz.func63, Tryz.ntmps63
          go_wp2_with fail
          refine (HM.out _ ((Kp.refl _).alloc _)).mono ?_; rintro _ _ ⟨rfl, rfl⟩
          go_wp2_with fail
          refine (HLV.out _).mono ?_; rintro _ _ ⟨rfl, rfl⟩
          clear HLV HM
          have KK := Lib.hid ((Kp.refl w).alloc (.cells #[.int .i64 2, .int .i64 name, .slice ap P cp, .slice aq U cq, .slice ah 32 ch] 37))
          have HQ2 := Lib.hid (HQ.out.kp KK.out)
          have HU2 := Lib.hid (HU.out.kp KK.out)
          clear HQ HU
          go_wp2_with fail
          go_loop [9, 10] (fun l i => ∃ k : Nat, k ≤ U ∧ i = .int .i64 (k : Int) ∧ l = .int .i64 (ahead LO un k) ∧ -1 ≤ ahead LO un k ∧ (∀ j, j < k → ahead LO un j < un.getD j 0 ∧ un.getD j 0 ≤ HI ∧ (ats t (2 * (un.getD j 0).toNat)).kind = 1)) (fun _ i => (U - (intOf i).toNat))
          case atStart => exact ⟨0, Nat.zero_le _, rfl, by rw [H0.out], by rw [H0.out]; omega, fun j h => by omega⟩
          case round =>
            obtain ⟨k, hk, rfl, rfl, hge, hpre⟩ := hrel
            by_cases hlt : k < U
            · obtain ⟨g1, o1, rfl, _, hc1⟩ := HQ2.out.at k hlt
              have d1 := hc1 k hlt
              have HS2 := HS.out k
              have i1 : IntKind.i64.wrap ((k : Int) + 1) = (k : Int) + 1 := IntWalk.i64_in _ (by omega)
              have HPRE : Hid ((ahead LO un k < un.getD k 0 ∧ un.getD k 0 ≤ HI ∧ (ats t (2 * (un.getD k 0).toNat)).kind = 1) → ∀ j, j < k + 1 → ahead LO un j < un.getD j 0 ∧ un.getD j 0 ≤ HI ∧ (ats t (2 * (un.getD j 0).toNat)).kind = 1) := fun he j hj => by
                rcases Nat.lt_or_eq_of_le (Nat.lt_succ_iff.1 hj) with h3 | h3
                · exact hpre j h3
                · rw [h3]; exact he
              have HNO2 : Hid (¬ (ahead LO un k < un.getD k 0 ∧ un.getD k 0 ≤ HI ∧ (ats t (2 * (un.getD k 0).toNat)).kind = 1) → ¬ OKP) := fun h => HNO.out fun h2 => h (h2 k hlt)
              clear hc1 hpre HNO HY H0 HS
              generalize ahead LO un k = A at *
              generalize un.getD k 0 = V at *
              by_cases g1 : A < V
              · by_cases g2 : V ≤ HI
                · obtain ⟨v, rfl⟩ := Int.eq_ofNat_of_zero_le (show 0 ≤ V by omega)
                  rw [Int.toNat_natCast] at HPRE HNO2
                  obtain ⟨b2, off2, e2, _, hc2⟩ := HU2.out.at (2 * v) (by omega)
                  cases e2
                  obtain ⟨p2, q2, h2, hn2⟩ := hc2 (2 * v) (by omega)
                  have d2 := hn2.kind
                  have i4 : IntKind.i64.wrap (2 * (v : Int)) = ((2 * v : Nat) : Int) := by rw [IntWalk.i64_in _ (by omega)]; omega
                  have i5 : ((2 * v : Nat) : Int) < (N : Int) := by omega
                  have g1b : ¬ (v : Int) ≤ A := by omega
                  have g2b : ¬ HI < (v : Int) := by omega
                  clear hc2 hn2
                  generalize (ats t (2 * v)).kind = Z at *
                  generalize 2 * v = V2 at *
                  by_cases g3 : Z = 1
                  · have HP := Lib.hid (HPRE.out ⟨g1, g2, g3⟩)
                    subst g3
                    have H22 := Lib.hid HS2
                    clear HPRE HNO2 HS2
                    go_wp2_with fail
                    go_round
                    case rel => exact ⟨k + 1, by omega, by go_num, by rw [H22.out], by rw [H22.out]; omega, HP.out⟩
                    case measure => simp [intOf]; omega
                  · have HB := Lib.hid (HNO2.out fun h => g3 h.2.2)
                    have hne2 : (Z == 1) = false := beq_eq_false_iff_ne.2 g3
                    clear HPRE HNO2 HS2
                    go_wp2_with fail
                    go_ret
                    exact ⟨⟨false, rfl, fun h => (by cases h), fun h => absurd h HB.out⟩, KK.out⟩
                · have HB := Lib.hid (HNO2.out fun h => g2 h.2.1)
                  have g1b : ¬ V ≤ A := by omega
                  have g2b : HI < V := by omega
                  clear HPRE HNO2 HS2
                  go_wp2_with fail
                  go_ret
                  exact ⟨⟨false, rfl, fun h => (by cases h), fun h => absurd h HB.out⟩, KK.out⟩
              · have HB := Lib.hid (HNO2.out fun h => g1 h.1)
                have g1b : V ≤ A := by omega
                clear HPRE HNO2 HS2
                go_wp2_with fail
                go_ret
                exact ⟨⟨false, rfl, fun h => (by cases h), fun h => absurd h HB.out⟩, KK.out⟩
            · obtain rfl : k = U := by omega
              have HB := Lib.hid (HY.out hpre)
              clear HY HNO hpre HS H0
              go_wp2_with fail
              go_ret
              exact ⟨⟨_, rfl, fun h => HB.out.2 (beq_iff_eq.1 h), fun h => beq_iff_eq.2 (HB.out.1 h)⟩, KK.out⟩
        · have hkb : (kind == 2) = false := beq_eq_false_iff_ne.2 hk1
          have HB := Lib.hid (fun e => hk1 (by have := (HO.1 e).2.2.1; omega))
          clear HO HUN m HLV
          go_enter Tryz.func63, Tryz.ntmps63
          go_wp2_with fail
          refine (HM.out _ ((Kp.refl _).alloc _)).mono ?_; rintro _ _ ⟨rfl, rfl⟩
          go_wp2_with fail
          go_ret
          exact ⟨⟨false, rfl, fun h => (by cases h), fun h => absurd h HB.out⟩, (Kp.refl _).alloc _⟩
    · have hhb := ne_nat hh1
      have hhc := ne_nat hh2
      have hhd : ¬ (H : Int) = 0 := by omega
      have hhe : ¬ (H : Int) = 32 := by omega
      have HB := Lib.hid (show ¬ OKP from fun e => by have := (HO.1 e).2.1; omega)
      clear HO HUN m HLV
      go_enter Tryz.func63, Tryz.ntmps63
      go_wp2_with fail
      refine (HM.out _ ((Kp.refl _).alloc _)).mono ?_; rintro _ _ ⟨rfl, rfl⟩
      go_wp2_with fail
      go_ret
      exact ⟨⟨false, rfl, fun h => (by cases h), fun h => absurd h HB.out⟩, (Kp.refl _).alloc _⟩
  · rw [decide_eq_false m] at HM
    have HB := Lib.hid (fun e => m (HO.1 e).1)
    clear HO HUN m HLV
    go_enter Tryz.func63, Tryz.ntmps63
    go_wp2_with fail
    refine (HM.out _ ((Kp.refl _).alloc _)).mono ?_; rintro _ _ ⟨rfl, rfl⟩
    go_wp2_with fail
    go_ret
    exact ⟨⟨false, rfl, fun h => (by cases h), fun h => absurd h HB.out⟩, (Kp.refl _).alloc _⟩
end Go.Proofs.YtobldbodafaajaaGreatDoor

/- pyxref09: Right (written by gen/tree2.py). -/
set_option linter.unusedVariables false
set_option linter.unusedSimpArgs false
namespace Go.Proofs.YtobldbodafaajaaGreatDoor
open Go.RowKit

/-- Is a node right, and its name none of those ahead? -/
def Fit (t : List Nod) (i : Nat) : Prop := okP t i ∧ ∀ j, j < i → ¬ ((ats t i).kind = 1 ∧ (ats t j).kind = 1 ∧ (ats t i).name = (ats t j).name)
theorem right_iff {t : List Nod} {K : Nat} (hK : K ≤ 10) (hl : t.length = 2 ^ (K + 1) - 1) : RightP t ↔ (∀ i, i < t.length → Fit t i) ∧ ∃ i, i < t.length ∧ (ats t i).kind = 1 := by
  constructor
  · rintro ⟨K', h⟩
    refine ⟨fun i hi => ⟨h.ok i hi, fun j hj hc => h.one j i hj hi hc.2.1 hc.1 hc.2.2.symm⟩, h.used⟩
  · rintro ⟨h1, h2⟩
    exact ⟨K, hK, hl, fun x hx => (h1 x hx).1, fun x y hxy hy a b e => (h1 y hy).2 x hxy ⟨b, a, e.symm⟩, h2⟩
theorem right_len {t : List Nod} (h : RightP t) : ∃ K, K ≤ 10 ∧ t.length = 2 ^ (K + 1) - 1 := by
  obtain ⟨K, h⟩ := h
  exact ⟨K, h.le, h.len⟩
theorem Tells.no {p : Prop} (h : ¬ p) : Tells (.returned (.bool false)) p := ⟨false, rfl, fun h => (by cases h), fun e => absurd e h⟩
theorem Tells.yes {p : Prop} (h : p) : Tells (.returned (.bool true)) p := ⟨true, rfl, fun _ => h, fun _ => rfl⟩
theorem refNode_any9 (u : Value) (t : List Nod) (x K : Nat) (w : World) (hu : NL w u t) (hK : K ≤ 10) (hl : t.length = 2 ^ (K + 1) - 1) (hx : x < t.length) :
    Calls Tryz.prog 63 #[u, .int .i64 (x : Int)] w fun e w' => Tells e (okP t x) ∧ Kp w w' := by
  by_cases hk : (ats t x).kind = 0
  · exact refNode_zero u t x w hu hx hk
  · exact refNode_other u t x K w hu hK hl hx hk

set_option maxHeartbeats 4000000 in
theorem refRightT_any (u : Value) (t : List Nod) (w : World) (hu : NL w u t) (hl : t.length ≤ 100000) :
    Calls Tryz.prog 28 #[u] w fun e w' => Tells e (RightP t) ∧ Kp w w' := by
  have HL := Lib.hid (refLvs_any u t w hu hl)
  have HU := Lib.hid hu
  have hlm := lvs_max (t := t) hl
  have HW := Lib.hid (refWidth_any ((lvs t : Nat) : Int) w)
  obtain ⟨a, c, rfl, p1, s1⟩ := hu.shape
  by_cases hT : isTB ((lvs t : Nat) : Int) = true
  · have e1 : widE ((lvs t : Nat) : Int) = 0 := if_pos hT
    have e2 : widV ((lvs t : Nat) : Int) = 2 * ((lvs t : Nat) : Int) - 1 := if_pos hT
    rw [e1, e2] at HW
    obtain ⟨K, hK, eK⟩ := (isTB_iff _).1 hT
    by_cases hlen : t.length = 2 * lvs t - 1
    · have hlen2 : t.length = 2 ^ (K + 1) - 1 := by rw [p2_succ]; omega
      have hpos : 1 ≤ lvs t := by have := p2_pos K; omega
      have eW : 2 * ((lvs t : Nat) : Int) - 1 = ((t.length : Nat) : Int) := by omega
      have HN : Hid (∀ x W, x < t.length → Kp w W → Calls Tryz.prog 63 #[.slice a t.length c, .int .i64 (x : Int)] W fun e w' => Tells e (okP t x) ∧ Kp W w') := fun x W hx hW => refNode_any9 _ t x K W (hu.kp hW) hK hlen2 hx
      have HI := right_iff hK hlen2
      have HALL : Hid ((∀ i, i < t.length → Fit t i) → (RightP t ↔ ∃ i, i < t.length ∧ (ats t i).kind = 1)) := fun h => ⟨fun e => (HI.1 e).2, fun e => HI.2 ⟨h, e⟩⟩
      have HNO : Hid (∀ i, i < t.length → ¬ Fit t i → ¬ RightP t) := fun i hi h e => h ((HI.1 e).1 i hi)
      rw [eW] at HW
      generalize RightP t = RP at *
      obtain ⟨N, hN⟩ : ∃ N, t.length = N := ⟨_, rfl⟩
      rw [hN] at HU p1 HL HN HALL HNO HW hl ⊢
      generalize lvs t = L at *
      clear hu hN HI eW e1 e2 hT eK hlen hlen2 s1
      go_enter Tryz.func28, Tryz.ntmps28
      go_wp2_with fail
      refine HL.out.mono ?_; rintro _ _ ⟨rfl, rfl⟩
      go_wp2_with fail
      refine HW.out.mono ?_; rintro _ _ ⟨rfl, rfl⟩
      clear HL HW
      go_wp2_with fail
      go_loopw [6, 7] (fun m x wr => ∃ k n : Nat, k ≤ N ∧ x = .int .i64 (k : Int) ∧ m = .int .i64 (n : Int) ∧ n ≤ k ∧ (0 < n ↔ ∃ i, i < k ∧ (ats t i).kind = 1) ∧ (∀ i, i < k → Fit t i) ∧ Kp w wr) (fun _ x _ => (N - (intOf x).toNat))
      case atStart => exact ⟨0, 0, Nat.zero_le _, rfl, rfl, Nat.le_refl _, ⟨fun h => by omega, fun ⟨i, h, _⟩ => by omega⟩, fun i h => by omega, Kp.refl _⟩
      case round =>
        obtain ⟨k, n, hk, rfl, rfl, hn, hused, hpre, hkp⟩ := hrel
        by_cases hlt : k < N
        · have HC := Lib.hid (HN.out k wr hlt hkp)
          have HNO2 := HNO.out k hlt
          obtain ⟨b, off, rfl, hb, hc⟩ := HU.out.at k hlt
          have i1 : IntKind.i64.wrap ((k : Int) + 1) = (k : Int) + 1 := IntWalk.i64_in _ (by omega)
          have i2 : (k : Int) < (N : Int) := by omega
          have i2b : IntKind.i64.wrap ((n : Int) + 1) = ((n + 1 : Nat) : Int) := by rw [IntWalk.i64_in _ (by omega)]; omega
          have HUS := Lib.hid hused
          have HPR := Lib.hid hpre
          have hkw := hkp
          clear hused hpre hkp HN HALL HNO
          go_wp2_with fail
          refine HC.out.mono ?_; rintro _ w1 ⟨⟨q, rfl, hq⟩, k1⟩
          have KK := hkw.trans k1
          obtain ⟨p, q2, h, hn1⟩ := hc k hlt
          have c0 := KK.cell hn1.kind
          have c1 := KK.cell hn1.name
          have HCJ : Hid (∀ j, j < N → ∃ X Y, X = (ats t j).kind ∧ Y = (ats t j).name ∧ w.cell? ⟨b, off + j * 5, none⟩ = some (.int .i64 X) ∧ w.cell? ⟨b, off + j * 5 + 1, none⟩ = some (.int .i64 Y)) := fun j hj => by
            obtain ⟨p', q', h', hn'⟩ := hc j hj
            exact ⟨_, _, rfl, rfl, hn'.kind, hn'.name⟩
          clear hn1 hc HC k1 hkw
          cases q
          · have HB := Lib.hid (HNO2 fun h => by cases hq.2 h.1)
            clear hq HNO2
            go_wp2_with fail
            go_ret
            exact ⟨Tells.no HB.out, KK⟩
          · have hok := Lib.hid (hq.1 rfl)
            clear hq
            have D1 := Lib.hid (show w.cell? ⟨b, off + k * 5 + 1, none⟩ = some (.int .i64 (ats t k).name) by
              obtain ⟨X, Y, eX, eY, d0, d1⟩ := HCJ.out k hlt
              rw [d1, eY])
            have D0 := Lib.hid (show w.cell? ⟨b, off + k * 5, none⟩ = some (.int .i64 (ats t k).kind) by
              obtain ⟨X, Y, eX, eY, d0, d1⟩ := HCJ.out k hlt
              rw [d0, eX])
            by_cases hkind : (ats t k).kind = 1
            · rw [hkind] at D0
              have HK := Lib.hid hkind
              rw [hkind] at c0
              have KD := Lib.hid KK
              clear hkind
              go_wp2_with fail
              go_loopw [9] (fun y wr => ∃ j : Nat, j ≤ k ∧ y = .int .i64 (j : Int) ∧ (∀ i, i < j → ¬ ((ats t k).kind = 1 ∧ (ats t i).kind = 1 ∧ (ats t k).name = (ats t i).name)) ∧ Kp w wr) (fun y _ => (k - (intOf y).toNat))
              case atStart => exact ⟨0, Nat.zero_le _, rfl, fun i h => by omega, KD.out⟩
              case round =>
                obtain ⟨j, hj, rfl, hpj, hkj⟩ := hrel
                by_cases hjl : j < k
                · have i3 : IntKind.i64.wrap ((j : Int) + 1) = (j : Int) + 1 := IntWalk.i64_in _ (by omega)
                  have i4 : (j : Int) < (N : Int) := by omega
                  have i5 : (j : Int) < (k : Int) := by omega
                  obtain ⟨X', Y', eX, eY, d0, d1⟩ := HCJ.out j (by omega)
                  have d0 := hkj.cell d0
                  have d1 := hkj.cell d1
                  have HPRE : Hid (¬ ((ats t k).kind = 1 ∧ (ats t j).kind = 1 ∧ (ats t k).name = (ats t j).name) → ∀ i, i < j + 1 → ¬ ((ats t k).kind = 1 ∧ (ats t i).kind = 1 ∧ (ats t k).name = (ats t i).name)) := fun he i hi => by
                    rcases Nat.lt_or_eq_of_le (Nat.lt_succ_iff.1 hi) with h3 | h3
                    · exact hpj i h3
                    · rw [h3]; exact he
                  have KJ := Lib.hid hkj
                  clear hkj hpj
                  have d2 := KJ.out.cell D0.out
                  have d3 := KJ.out.cell D1.out
                  have HE := Lib.hid (And.intro eX eY)
                  clear eX eY
                  by_cases hx1 : X' = 1
                  · subst hx1
                    by_cases hy1 : (ats t k).name = Y'
                    · have HB := Lib.hid (HNO2 fun h => h.2 j hjl ⟨HK.out, HE.out.1.symm, hy1.trans HE.out.2⟩)
                      generalize (ats t k).name = Y at *
                      subst hy1
                      clear HPRE HNO2 HE
                      go_wp2_with fail
                      go_region
                      go_wp2_with fail
                      go_ret
                      exact ⟨Tells.no HB.out, KJ.out.drew⟩
                    · have HP := Lib.hid (HPRE.out fun h => hy1 (h.2.2.trans HE.out.2.symm))
                      have hyb : ((ats t k).name == Y') = false := beq_eq_false_iff_ne.2 hy1
                      clear HPRE HNO2 HE
                      go_wp2_with fail
                      go_region
                      go_wp2_with fail
                      go_roundw
                      case rel => exact ⟨j + 1, by omega, by go_num, HP.out, KJ.out.drew⟩
                      case measure => simp [intOf]; omega
                  · have HP := Lib.hid (HPRE.out fun h => hx1 (HE.out.1.trans h.2.1))
                    have hxb : (X' == 1) = false := beq_eq_false_iff_ne.2 hx1
                    clear HPRE HNO2 HE
                    go_wp2_with fail
                    go_region
                    go_wp2_with fail
                    go_roundw
                    case rel => exact ⟨j + 1, by omega, by go_num, HP.out, KJ.out.drew⟩
                    case measure => simp [intOf]; omega
                · obtain rfl : j = k := by omega
                  have HF : Hid (∀ i, i < j + 1 → Fit t i) := fun i hi => by
                    rcases Nat.lt_or_eq_of_le (Nat.lt_succ_iff.1 hi) with h3 | h3
                    · exact HPR.out i h3
                    · subst h3; exact ⟨hok.out, hpj⟩
                  have KJ := Lib.hid hkj
                  have HU2 : Hid (0 < n + 1 ↔ ∃ i, i < j + 1 ∧ (ats t i).kind = 1) := ⟨fun _ => ⟨j, by omega, HK.out⟩, fun _ => by omega⟩
                  clear hkj hpj HNO2 HCJ
                  go_wp2_with fail
                  go_roundw
                  case rel => exact ⟨j + 1, n + 1, by omega, by go_num, rfl, by omega, HU2.out, HF.out, KJ.out⟩
                  case measure => simp [intOf]; omega
            · have HK := Lib.hid hkind
              have HKK := Lib.hid hkind
              obtain ⟨X, hX⟩ : ∃ X, (ats t k).kind = X := ⟨_, rfl⟩
              rw [hX] at D0 c0 HK hkind
              clear hX
              have hkb : (X == 1) = false := beq_eq_false_iff_ne.2 hkind
              have KD := Lib.hid KK
              clear hkind
              go_wp2_with fail
              go_loopw [9] (fun y wr => ∃ j : Nat, j ≤ k ∧ y = .int .i64 (j : Int) ∧ (∀ i, i < j → ¬ (X = 1 ∧ (ats t i).kind = 1 ∧ (ats t k).name = (ats t i).name)) ∧ Kp w wr) (fun y _ => (k - (intOf y).toNat))
              case atStart => exact ⟨0, Nat.zero_le _, rfl, fun i h => by omega, KD.out⟩
              case round =>
                obtain ⟨j, hj, rfl, hpj, hkj⟩ := hrel
                by_cases hjl : j < k
                · have i3 : IntKind.i64.wrap ((j : Int) + 1) = (j : Int) + 1 := IntWalk.i64_in _ (by omega)
                  have i4 : (j : Int) < (N : Int) := by omega
                  have i5 : (j : Int) < (k : Int) := by omega
                  obtain ⟨X', Y', eX, eY, d0, d1⟩ := HCJ.out j (by omega)
                  have d0 := hkj.cell d0
                  have d1 := hkj.cell d1
                  have HPRE : Hid (¬ (X = 1 ∧ (ats t j).kind = 1 ∧ (ats t k).name = (ats t j).name) → ∀ i, i < j + 1 → ¬ (X = 1 ∧ (ats t i).kind = 1 ∧ (ats t k).name = (ats t i).name)) := fun he i hi => by
                    rcases Nat.lt_or_eq_of_le (Nat.lt_succ_iff.1 hi) with h3 | h3
                    · exact hpj i h3
                    · rw [h3]; exact he
                  have KJ := Lib.hid hkj
                  clear hkj hpj
                  have d2 := KJ.out.cell D0.out
                  have HP := Lib.hid (HPRE.out fun h => HK.out h.1)
                  clear HPRE HNO2 eX eY d0 d1
                  go_wp2_with fail
                  go_region
                  go_wp2_with fail
                  go_roundw
                  case rel => exact ⟨j + 1, by omega, by go_num, HP.out, KJ.out.drew⟩
                  case measure => simp [intOf]; omega
                · obtain rfl : j = k := by omega
                  have HF : Hid (∀ i, i < j + 1 → Fit t i) := fun i hi => by
                    rcases Nat.lt_or_eq_of_le (Nat.lt_succ_iff.1 hi) with h3 | h3
                    · exact HPR.out i h3
                    · subst h3; exact ⟨hok.out, fun z hz hc => HKK.out hc.1⟩
                  have KJ := Lib.hid hkj
                  have HU2 : Hid (0 < n ↔ ∃ i, i < j + 1 ∧ (ats t i).kind = 1) := ⟨fun h => by
                    obtain ⟨i, a1, a2⟩ := HUS.out.1 h
                    exact ⟨i, by omega, a2⟩, fun ⟨i, a1, a2⟩ => HUS.out.2 ⟨i, by
                    rcases Nat.lt_or_eq_of_le (Nat.lt_succ_iff.1 a1) with h3 | h3
                    · exact h3
                    · subst h3; exact absurd a2 HKK.out, a2⟩⟩
                  clear hkj hpj HNO2 HCJ
                  go_wp2_with fail
                  go_roundw
                  case rel => exact ⟨j + 1, n, by omega, by go_num, rfl, by omega, HU2.out, HF.out, KJ.out⟩
                  case measure => simp [intOf]; omega
        · obtain rfl : k = N := by omega
          have HB := Lib.hid (HALL.out hpre)
          have HUS := Lib.hid hused
          have KK := Lib.hid hkp
          clear HALL HNO hpre hused hkp HN
          go_wp2_with fail
          go_ret
          refine ⟨⟨_, rfl, fun h => HB.out.2 (HUS.out.1 ?_), fun h => ?_⟩, KK.out⟩
          · have := of_decide_eq_true h; omega
          · have := HUS.out.2 (HB.out.1 h)
            exact decide_eq_true (by omega)
    · have HB : Hid (¬ RightP t) := fun h => by
        obtain ⟨K', h⟩ := h
        have h1 := h.lv
        have h2 := h.len2
        omega
      have hne : ¬ 2 * ((lvs t : Nat) : Int) - 1 = (t.length : Int) := by
        have : 1 ≤ lvs t := by have := p2_pos K; omega
        omega
      have hneb : (2 * ((lvs t : Nat) : Int) - 1 == (t.length : Int)) = false := beq_eq_false_iff_ne.2 hne
      generalize RightP t = RP at *
      generalize lvs t = L at *
      generalize 2 * (L : Int) - 1 = V at *
      clear hu HU e1 e2 hT eK hlen
      go_enter Tryz.func28, Tryz.ntmps28
      go_wp2_with fail
      refine HL.out.mono ?_; rintro _ _ ⟨rfl, rfl⟩
      go_wp2_with fail
      refine HW.out.mono ?_; rintro _ _ ⟨rfl, rfl⟩
      go_wp2_with fail
      go_ret
      exact ⟨Tells.no HB.out, Kp.refl _⟩
  · have e1 : widE ((lvs t : Nat) : Int) = 1 := if_neg hT
    have e2 : widV ((lvs t : Nat) : Int) = 0 := if_neg hT
    rw [e1, e2] at HW
    have HB : Hid (¬ RightP t) := fun h => by
      obtain ⟨K', h⟩ := h
      exact hT ((isTB_iff _).2 ⟨K', h.le, by rw [h.lv]⟩)
    generalize RightP t = RP at *
    generalize lvs t = L at *
    clear hu HU e1 e2 hT
    go_enter Tryz.func28, Tryz.ntmps28
    go_wp2_with fail
    refine HL.out.mono ?_; rintro _ _ ⟨rfl, rfl⟩
    go_wp2_with fail
    refine HW.out.mono ?_; rintro _ _ ⟨rfl, rfl⟩
    go_wp2_with fail
    go_ret
    exact ⟨Tells.no HB.out, Kp.refl _⟩
end Go.Proofs.YtobldbodafaajaaGreatDoor

/- pyxref09: put, path, there, empty. -/
set_option linter.unusedVariables false
set_option linter.unusedSimpArgs false
namespace Go.Proofs.YtobldbodafaajaaGreatDoor
open Go.RowKit

theorem OI.own_ge {e : TypeId} {w : World} {B : Nat} {v : Value} {l : List Int} (h : OI e w B v l) : ∀ k, v.ownBlock = some k → B ≤ k := fun k hk => (h.lt k hk).1
theorem NO.own_ge {e : TypeId} {w : World} {B : Nat} {v : Value} {t : List Nod} (h : NO e w B v t) : ∀ k, v.ownBlock = some k → B ≤ k := fun k hk => (h.lt k hk).1
theorem OI.lit1 (w : World) (e : TypeId) (n : Int) : RI (w.alloc (.cells #[.int .i64 n] e)) (.slice (some ⟨w.heap.size, 0, none⟩) 1 1) [n] := (RI.lit w e #[.int .i64 n] [n] 1 rfl (by omega) rfl).ri
/-- What has been put, up to a place. -/
structure Puts (l : List Int) (n : Int) (k : Nat) (d : Bool) (o : List Int) : Prop where
  mk ::
  no : d = false → k ≤ cutI l n ∧ o = l.take k
  yes : d = true → cutI l n < k ∧ o = l.take (cutI l n) ++ n :: (l.take k).drop (cutI l n)
theorem getD_lt {l : List Int} {k : Nat} (h : k < l.length) : l.getD k 0 = l[k] := by
  rw [List.getD_eq_getElem?_getD, List.getElem?_eq_getElem h]; rfl
theorem Puts.start (l : List Int) (n : Int) : Puts l n 0 false [] := ⟨fun _ => ⟨Nat.zero_le _, by simp⟩, fun h => (by cases h)⟩
theorem Puts.low {l : List Int} {n : Int} {k : Nat} {o : List Int} (h : Puts l n k false o) (hk : k < l.length) (hn : ¬ n < l.getD k 0) : Puts l n (k + 1) false (o ++ [l.getD k 0]) := by
  obtain ⟨h1, h2⟩ := h.no rfl
  refine ⟨fun _ => ⟨?_, ?_⟩, fun h => (by cases h)⟩
  · rcases Nat.lt_or_eq_of_le h1 with h3 | h3
    · exact h3
    · exfalso
      subst h3
      have := cut_gt (l := l) (n := n) hk
      rw [getD_lt hk] at hn
      exact hn this
  · rw [h2, getD_lt hk, List.take_succ_eq_append_getElem hk]
theorem Puts.in {l : List Int} {n : Int} {k : Nat} {o : List Int} (h : Puts l n k false o) (hk : k < l.length) (hn : n < l.getD k 0) : Puts l n (k + 1) true ((o ++ [n]) ++ [l.getD k 0]) := by
  obtain ⟨h1, h2⟩ := h.no rfl
  have e : k = cutI l n := by
    rcases Nat.lt_or_eq_of_le h1 with h3 | h3
    · exfalso
      have := cut_le h3 hk
      rw [getD_lt hk] at hn
      omega
    · exact h3
  refine ⟨fun h => (by cases h), fun _ => ⟨by omega, ?_⟩⟩
  rw [h2, ← e, getD_lt hk, List.take_succ_eq_append_getElem hk, List.drop_append_of_le_length (by rw [List.length_take]; omega), List.drop_of_length_le (by rw [List.length_take]; omega)]
  simp
theorem Puts.high {l : List Int} {n : Int} {k : Nat} {o : List Int} (h : Puts l n k true o) (hk : k < l.length) : Puts l n (k + 1) true (o ++ [l.getD k 0]) := by
  obtain ⟨h1, h2⟩ := h.yes rfl
  refine ⟨fun h => (by cases h), fun _ => ⟨by omega, ?_⟩⟩
  rw [h2, getD_lt hk, List.take_succ_eq_append_getElem hk, List.drop_append_of_le_length (by rw [List.length_take]; omega)]
  simp
theorem Puts.endNo {l : List Int} {n : Int} {o : List Int} (h : Puts l n l.length false o) : o ++ [n] = putN l n := by
  obtain ⟨h1, h2⟩ := h.no rfl
  have := cut_len l n
  have e : cutI l n = l.length := by omega
  unfold putN
  rw [h2, e, List.drop_length]
theorem Puts.endYes {l : List Int} {n : Int} {o : List Int} (h : Puts l n l.length true o) : o = putN l n := by
  obtain ⟨h1, h2⟩ := h.yes rfl
  rw [h2, List.take_length]
  rfl
theorem Puts.len {l : List Int} {n : Int} {k : Nat} {d : Bool} {o : List Int} (h : Puts l n k d o) (hk : k ≤ l.length) : o.length ≤ k + 1 := by
  cases d
  · rw [(h.no rfl).2, List.length_take]; omega
  · obtain ⟨h1, h2⟩ := h.yes rfl
    rw [h2, List.length_append, List.length_cons, List.length_take, List.length_drop, List.length_take]; omega

set_option maxHeartbeats 2000000 in
theorem refPut_any (u : Value) (l : List Int) (n : Int) (w : World) (hu : RI w u l) (hl : l.length ≤ 100000) :
    Calls Tryz.prog 61 #[u, .int .i64 n] w fun e w' => (∃ r, e = .returned r ∧ OI 3 w' w.heap.size r (putN l n)) ∧ Kp w w' := by
  have S := s1ints
  have HU := Lib.hid hu
  obtain ⟨a, c, rfl, p1, s1⟩ := hu.shape
  unfold maxLen at s1
  obtain ⟨N, hN⟩ : ∃ N, l.length = N := ⟨_, rfl⟩
  have HLOW := Lib.hid (fun k o h hk hn => Puts.low (l := l) (n := n) (k := k) (o := o) h hk hn)
  have HIN := Lib.hid (fun k o h hk hn => Puts.in (l := l) (n := n) (k := k) (o := o) h hk hn)
  have HHIGH := Lib.hid (fun k o h hk => Puts.high (l := l) (n := n) (k := k) (o := o) h hk)
  have HLEN := Lib.hid (fun k d o h hk => Puts.len (l := l) (n := n) (k := k) (d := d) (o := o) h hk)
  have HE1 := Lib.hid (fun o h => Puts.endNo (l := l) (n := n) (o := o) h)
  have HE2 := Lib.hid (fun o h => Puts.endYes (l := l) (n := n) (o := o) h)
  have HST := Lib.hid (Puts.start l n)
  rw [hN] at HU p1 HLOW HIN HHIGH HLEN HE1 HE2 hl ⊢
  generalize putN l n = OUT at *
  clear hu hN
  go_enter Tryz.func61, Tryz.ntmps61
  go_wp2_with fail
  go_loopw [5, 6, 7] (fun v d i wr => ∃ (k : Nat) (b : Bool) (o : List Int), k ≤ N ∧ i = .int .i64 (k : Int) ∧ d = .bool b ∧ OI 3 wr w.heap.size v o ∧ Puts l n k b o ∧ Kp w wr) (fun _ _ i _ => (N - (intOf i).toNat))
  case atStart => exact ⟨0, false, [], Nat.zero_le _, rfl, rfl, OI.nil _ _ _, HST.out, Kp.refl _⟩
  case round =>
    obtain ⟨k, b, o, hk, rfl, rfl, ho, hp, hkp⟩ := hrel
    have hol := HLEN.out k b o hp hk
    by_cases hlt : k < N
    · obtain ⟨g1, o1, rfl, _, hc1⟩ := HU.out.at k hlt
      have h1 := hkp.cell (hc1 k hlt)
      have HC : Hid (∀ W, Kp w W → W.cell? ⟨g1, o1 + k, none⟩ = some (.int .i64 (l.getD k 0))) := fun W hW => hW.cell (hc1 k hlt)
      have i1 : IntKind.i64.wrap ((k : Int) + 1) = (k : Int) + 1 := IntWalk.i64_in _ (by omega)
      have HLO := HLOW.out k o
      have HI := HIN.out k o
      have HHI := HHIGH.out k o
      have hsz := hkp.size
      clear hc1 HLOW HIN HHIGH HLEN HE1 HE2 HST
      generalize l.getD k 0 = X at *
      cases b
      · by_cases hx : n < X
        · have HP := Lib.hid (HI hp hlt hx)
          clear HLO HI HHI hp
          go_wp2_with (first
            | (at_builtin; refine wpList_append_i (o := ⟨some 27, _, _, _, _, _⟩) S rfl _ _ rfl w.heap.size _ o rfl (ho.kp ((Kp.refl wr).alloc _)) _ [n] rfl (OI.lit1 wr 3 n) (by simp; omega) (by simp; omega) ?_; intro v4 w4 o4 g4; have k4 : Kp w w4 := Kp.grown (hkp.alloc _) g4 ho.own_ge; have h4 := HC.out w4 k4; have hsz4 := k4.size)
            | (at_builtin; refine wpList_append_i (o := ⟨some 34, _, _, _, _, _⟩) S rfl _ _ rfl w.heap.size _ (o ++ [n]) rfl (o4.kp ((Kp.refl w4).alloc _)) _ [X] rfl (OI.lit1 w4 3 X) (by simp; omega) (by simp; omega) ?_; intro v5 w5 o5 g5; have k5 : Kp w w5 := Kp.grown (k4.alloc _) g5 o4.own_ge))
          go_roundw
          case rel => exact ⟨k + 1, true, _, by omega, by go_num, rfl, o5, HP.out, k5⟩
          case measure => simp [intOf]; omega
        · have HP := Lib.hid (HLO hp hlt (by omega))
          clear HLO HI HHI hp
          go_wp2_with (at_builtin; refine wpList_append_i (o := ⟨some 34, _, _, _, _, _⟩) S rfl _ _ rfl w.heap.size _ o rfl (ho.kp ((Kp.refl wr).alloc _)) _ [X] rfl (OI.lit1 wr 3 X) (by simp; omega) (by simp; omega) ?_; intro v5 w5 o5 g5; have k5 : Kp w w5 := Kp.grown (hkp.alloc _) g5 ho.own_ge)
          go_roundw
          case rel => exact ⟨k + 1, false, _, by omega, by go_num, rfl, o5, HP.out, k5⟩
          case measure => simp [intOf]; omega
      · have HP := Lib.hid (HHI hp hlt)
        clear HLO HI HHI hp
        go_wp2_with (at_builtin; refine wpList_append_i (o := ⟨some 34, _, _, _, _, _⟩) S rfl _ _ rfl w.heap.size _ o rfl (ho.kp ((Kp.refl wr).alloc _)) _ [X] rfl (OI.lit1 wr 3 X) (by simp; omega) (by simp; omega) ?_; intro v5 w5 o5 g5; have k5 : Kp w w5 := Kp.grown (hkp.alloc _) g5 ho.own_ge)
        go_roundw
        case rel => exact ⟨k + 1, true, _, by omega, by go_num, rfl, o5, HP.out, k5⟩
        case measure => simp [intOf]; omega
    · obtain rfl : k = N := by omega
      have hsz := hkp.size
      clear HLOW HIN HHIGH HLEN HST HU
      cases b
      · have HP := Lib.hid (HE1.out o hp)
        clear hp HE1 HE2
        go_wp2_with (at_builtin; refine wpList_append_i (o := ⟨some 40, _, _, _, _, _⟩) S rfl _ _ rfl w.heap.size _ o rfl (ho.kp ((Kp.refl wr).alloc _)) _ [n] rfl (OI.lit1 wr 3 n) (by simp; omega) (by simp; omega) ?_; intro v5 w5 o5 g5; have k5 : Kp w w5 := Kp.grown (hkp.alloc _) g5 ho.own_ge)
        rw [HP.out] at o5
        have KK := Lib.hid k5
        go_ret
        exact ⟨⟨_, rfl, o5⟩, KK.out⟩
      · have HP := Lib.hid (HE2.out o hp)
        clear hp HE1 HE2
        rw [HP.out] at ho
        have HO := Lib.hid ho
        have KK := Lib.hid hkp
        obtain ⟨a5, n5, c5, rfl⟩ := ho.ri.sl
        clear ho hkp
        go_wp2_with fail
        go_ret
        exact ⟨⟨_, rfl, HO.out⟩, KK.out⟩

theorem path_eq {t : List Nod} {K i : Nat} (hK : K ≤ 10) (hl : t.length = 2 ^ (K + 1) - 1) (hi : i < 2 ^ K) :
    arE (2 * (i : Int)) ((lvs t : Nat) : Int) = 0 ∧ pathV (2 * (i : Int)) ((lvs t : Nat) : Int) = pathT t i := by
  have e1 : lvs t = 2 ^ K := by
    have := p2_succ K
    have := p2_pos K
    unfold lvs
    omega
  have e2 : (2 * (i : Int)) = ((nd 0 i : Nat) : Int) := by rw [nd_leaf]; omega
  obtain ⟨h1, h2, _⟩ := ar_yes (K := K) (j := 0) (q := i) hK (by omega) (by simpa using hi)
  unfold pathT lgT
  rw [e1, e2, h1, h2, lg_pow hK]
  exact ⟨rfl, rfl⟩
set_option maxHeartbeats 1000000 in
theorem refPathT_any (u : Value) (t : List Nod) (K i : Nat) (w : World) (hu : NL w u t) (hK : K ≤ 10) (hl : t.length = 2 ^ (K + 1) - 1) (hi : i < 2 ^ K) :
    Calls Tryz.prog 60 #[u, .int .i64 (i : Int)] w fun e w' => (∃ r, e = .returned r ∧ OI 3 w' w.heap.size r ((pathT t i).map fun (n : Nat) => (n : Int))) ∧ Kp w w' := by
  have hp := p2_le hK
  have hp2 := p2_succ K
  have hl2 : t.length ≤ 100000 := by omega
  have HL := Lib.hid (refLvs_any u t w hu hl2)
  obtain ⟨e1, e2⟩ := path_eq hK hl hi
  have HP : Hid (∀ W, Calls Tryz.prog 21 #[.int .i64 (2 * (i : Int)), .int .i64 ((lvs t : Nat) : Int)] W fun e w' => (∃ v, e = .returned (.tuple #[v, .int .i64 0]) ∧ ON 3 w' W.heap.size v (pathT t i)) ∧ Kp W w') := fun W => by
    have := refPath_own (2 * (i : Int)) ((lvs t : Nat) : Int) W (by have := lvs_max hl2; omega)
    rwa [e1, e2] at this
  have i2 : IntKind.i64.wrap (2 * (i : Int)) = 2 * (i : Int) := IntWalk.i64_in _ (by omega)
  obtain ⟨a, c, rfl, _, _⟩ := hu.shape
  generalize t.length = N at *
  generalize lvs t = L at *
  generalize pathT t i = PT at *
  clear hu e1 e2 hK hl hp hp2 hi hl2
  go_enter Tryz.func60, Tryz.ntmps60
  go_wp2_with fail
  refine HL.out.mono ?_; rintro _ _ ⟨rfl, rfl⟩
  clear HL
  go_wp2_with fail
  refine (HP.out _).mono ?_; rintro _ w1 ⟨⟨v, rfl, r1⟩, k1⟩
  have R1 := Lib.hid r1.oi
  obtain ⟨a5, n5, c5, rfl⟩ := r1.rn.sl
  clear HP r1
  go_wp2_with fail
  go_ret
  exact ⟨⟨_, rfl, R1.out⟩, k1⟩

end Go.Proofs.YtobldbodafaajaaGreatDoor

/- pyxref09: blank. -/
set_option linter.unusedVariables false
set_option linter.unusedSimpArgs false
namespace Go.Proofs.YtobldbodafaajaaGreatDoor
open Go.RowKit

theorem path_in {t : List Nod} {K i : Nat} (hK : K ≤ 10) (hl : t.length = 2 ^ (K + 1) - 1) (hi : i < 2 ^ K) : pathT t i = pathN K 0 i ∧ (∀ k, k < (pathT t i).length → (pathT t i).getD k 0 < t.length) ∧ (pathT t i).length = K := by
  have e1 : lvs t = 2 ^ K := by
    have := p2_succ K
    have := p2_pos K
    unfold lvs
    omega
  have e2 : pathT t i = pathN K 0 i := by
    unfold pathT lgT
    rw [e1, lg_pow hK]
  refine ⟨e2, fun k hk => ?_, by rw [e2, pathN_length]; rfl⟩
  rw [List.getD_eq_getElem?_getD, List.getElem?_eq_getElem hk, hl]
  refine path_lt hi ?_
  rw [← e2]
  exact List.getElem_mem hk
theorem getD_map_int (l : List Nat) (k : Nat) (h : k < l.length) : (l.map fun (n : Nat) => (n : Int)).getD k 0 = ((l.getD k 0 : Nat) : Int) := by
  rw [List.getD_eq_getElem?_getD, List.getElem?_map, List.getElem?_eq_getElem h, List.getD_eq_getElem?_getD, List.getElem?_eq_getElem h]
  rfl
theorem take_foldl {α β : Type} (f : β → α → β) (b : β) (l : List α) (k : Nat) (d : α) (h : k < l.length) : (l.take (k + 1)).foldl f b = f ((l.take k).foldl f b) (l.getD k d) := by
  rw [List.take_succ_eq_append_getElem h, List.foldl_append, List.getD_eq_getElem?_getD, List.getElem?_eq_getElem h]
  rfl
theorem infoNode5 : (Tryz.prog.info? 37).map (·.size) = some 5 := by kernel_rfl
theorem own_some9 {g n c : Nat} : Value.ownBlock (.slice (some ⟨g, 0, none⟩) n c) = some g := rfl

end Go.Proofs.YtobldbodafaajaaGreatDoor

/- pyxref09: Update, Remove. -/
set_option linter.unusedVariables false
set_option linter.unusedSimpArgs false
namespace Go.Proofs.YtobldbodafaajaaGreatDoor
open Go.RowKit

theorem RightK.small {t : List Nod} {K : Nat} (h : RightK t K) : t.length ≤ 2047 ∧ t.length = 2 * 2 ^ K - 1 ∧ 0 < t.length := by
  have h1 := h.len2
  have h2 := p2_le h.le
  have h3 := p2_pos K
  omega
/-- A leaf that is there. -/
theorem there_nat {t : List Nod} {K : Nat} {i : Int} (h : RightK t K) (hi : thereP t i) : ∃ k : Nat, i = (k : Int) ∧ k < 2 ^ K ∧ (ats t (2 * k)).kind = 1 ∧ 2 * k < t.length := by
  obtain ⟨h1, h2, h3⟩ := hi
  obtain ⟨k, rfl⟩ := Int.eq_ofNat_of_zero_le h1
  rw [Int.toNat_natCast] at h3
  have := h.lv
  exact ⟨k, rfl, by omega, h3, lvs_two (by omega)⟩

/-- One step of the shrinking. -/
theorem shrink_go {f : Nat} {t : List Nod} (h : 1 < t.length ∧ emptyP t (lvs t / 2)) : shrinkT (f + 1) t = shrinkT f (t.take (t.length / 2)) := if_pos h
theorem shrink_stop {f : Nat} {t : List Nod} (h : ¬ (1 < t.length ∧ emptyP t (lvs t / 2))) : shrinkT f t = t := by
  cases f
  · rfl
  · exact if_neg h

end Go.Proofs.YtobldbodafaajaaGreatDoor

/- pyxref09: Add. -/
set_option linter.unusedVariables false
set_option linter.unusedSimpArgs false
namespace Go.Proofs.YtobldbodafaajaaGreatDoor
open Go.RowKit

/-- A row that rises between bounds is short. -/
theorem rising_len {l : List Int} (h : l.Pairwise (· < ·)) (hl : ∀ i ∈ l, 0 ≤ i ∧ i < 1024) : l.length ≤ 1024 := by
  have key : ∀ k (hk : k < l.length), (k : Int) ≤ l[k] := by
    intro k
    induction k with
    | zero => intro hk; have := (hl _ (List.getElem_mem hk)).1; omega
    | succ k ih =>
      intro hk
      have h1 := ih (by omega)
      have h2 := (List.pairwise_iff_getElem.1 h) k (k + 1) (by omega) hk (by omega)
      omega
  by_cases h0 : l.length = 0
  · omega
  · have h1 := key (l.length - 1) (by omega)
    have h2 := (hl _ (List.getElem_mem (show l.length - 1 < l.length by omega))).2
    omega
theorem RightK.un_len {t : List Nod} {K : Nat} (h : RightK t K) (x : Nat) : (ats t x).un.length ≤ 1024 := by
  by_cases hx : x < t.length
  · obtain ⟨l1, l2, l3, l4⟩ := lohi_in h.le h.len hx
    rcases h.okA x with h1 | ⟨h1, h2, h3, h4, h5⟩
    · rw [h1]; exact Nat.zero_le _
    · by_cases e : (ats t x).kind = 1
      · rw [h4 e]; exact Nat.zero_le _
      · have h6 := (h5 (by omega)).2
        exact rising_len h6.1 fun i hi => by have := h6.2 i hi; omega
  · rw [ats_over (by omega)]; exact Nat.zero_le _
theorem pathT_len {t u : List Nod} (h : t.length = u.length) (i : Nat) : pathT t i = pathT u i := by
  unfold pathT lgT lvs
  rw [h]

theorem gap_stop {t : List Nod} {k : Nat} (h1 : k ≤ lvs t) (h2 : k < lvs t → (ats t (2 * k)).kind = 0) (h3 : ∀ j, j < k → (ats t (2 * j)).kind ≠ 0) : gapN t = k := gap_eq h1 h2 h3
theorem rep_succ (t : List Nod) (m : Nat) : (t ++ List.replicate m blankN) ++ [blankN] = t ++ List.replicate (m + 1) blankN := by
  rw [List.append_assoc, List.replicate_succ']
theorem blank_ats (i : Nat) : ats [blankN] i = blankN := by
  cases i with
  | zero => rfl
  | succ i => exact ats_over (by simp)
/-- The lines of errors: what Add answers there. -/
theorem add_no {t : List Nod} {name : Int} {pub : List UInt8} (e : Int) (he : addE t name pub = e) (hne : e ≠ 0) : addV t name pub = t ∧ addI t name pub = 0 := by
  unfold addV addI
  rw [he, if_neg hne, if_neg hne]
  exact ⟨rfl, rfl⟩

set_option maxHeartbeats 4000000 in
theorem refAddN_own (u v : Value) (t : List Nod) (K : Nat) (name : Int) (pub : List UInt8) (w : World) (hu : NL w u t) (hv : Rd w v pub) (hr : RightK t K) :
    Calls Tryz.prog 26 #[u, .int .i64 name, v] w fun e w' => (∃ r, e = .returned (.tuple #[r, .int .i64 (addI t name pub), .int .i64 (addE t name pub)]) ∧ NL w' r (addV t name pub) ∧ (addE t name pub = 0 → NO 37 w' w.heap.size r (addV t name pub))) ∧ Kp w w' := by
  have S := s5nodes
  obtain ⟨z1, z2, z3⟩ := hr.small
  have HM := Lib.hid (refMayN_any name v pub w hv)
  have HF := Lib.hid (refFind_any u t name w hu (by omega))
  have HL := Lib.hid (fun W (hW : Kp w W) => refLvs_any u t W (hu.kp hW) (by omega))
  have HU := Lib.hid hu
  obtain ⟨ap, cp, rfl, _, _⟩ := hv.shape
  obtain ⟨a, c, rfl, p1, s1⟩ := hu.shape
  by_cases hm : mayP name pub
  · rw [decide_eq_true hm] at HM
    by_cases hf : findB t name = true
    · have e1 : addE t name pub = 12 := by unfold addE; rw [if_pos hm, if_pos hf]
      obtain ⟨e2, e3⟩ := add_no 12 e1 (by decide)
      rw [e1, e2, e3]
      rw [hf] at HF
      clear hu hv hr hm hf e1 e2 e3 HL z2
      go_enter Tryz.func26, Tryz.ntmps26
      go_wp2_with fail
      refine HM.out.mono ?_; rintro _ _ ⟨rfl, rfl⟩
      go_wp2_with fail
      refine HF.out.mono ?_; rintro _ _ ⟨rfl, rfl⟩
      go_wp2_with fail
      go_ret3
      exact ⟨⟨_, rfl, HU.out, fun h => absurd h (by decide)⟩, Kp.refl _⟩
    · have hf2 : findB t name = false := by rw [Bool.eq_false_iff]; exact hf
      rw [hf2] at HF
      have H2 := Lib.hid (fun k h => lvs_two (t := t) (k := k) h)
      have HGAP := Lib.hid (fun k h1 h2 h3 => gap_stop (t := t) (k := k) h1 h2 h3)
      have hlv := hr.lv
      have hlv2 : lvs t ≤ 1024 := by have := p2_le hr.le; omega
      have hgle := gap_le t
      have HERR : Hid (gapN t = 1024 → addE t name pub = 4 ∧ addV t name pub = t ∧ addI t name pub = 0) := fun hg => by
        have e1 : addE t name pub = 4 := by unfold addE; rw [if_pos hm, hf2, if_pos hg]; rfl
        obtain ⟨e2, e3⟩ := add_no 4 e1 (by decide)
        exact ⟨e1, e2, e3⟩
      have HOK : Hid (gapN t ≠ 1024 → addE t name pub = 0 ∧ addV t name pub = addT t name pub ∧ addI t name pub = ((gapN t : Nat) : Int)) := fun hg => by
        have e1 : addE t name pub = 0 := by unfold addE; rw [if_pos hm, hf2, if_neg hg]; rfl
        refine ⟨e1, ?_, ?_⟩
        · unfold addV; rw [e1]; rfl
        · unfold addI; rw [e1]; rfl
      have HR := Lib.hid hr
      have hV := Lib.hid hv
      obtain ⟨N, hN⟩ : ∃ N, t.length = N := ⟨_, rfl⟩
      have hNh := Lib.hid hN
      rw [hN] at p1 HL HF HU H2 z1 z2 z3 ⊢
      obtain ⟨L, hL⟩ : ∃ L, lvs t = L := ⟨_, rfl⟩
      have hLh := Lib.hid hL
      rw [hL] at HL H2 HGAP hlv hlv2 hgle
      have hlvh := Lib.hid hlv
      have z2h := Lib.hid z2
      clear hu hv hr hm hf hf2 hN hL hlv z2
      go_enter Tryz.func26, Tryz.ntmps26
      go_wp2_with fail
      refine HM.out.mono ?_; rintro _ _ ⟨rfl, rfl⟩
      go_wp2_with fail
      refine HF.out.mono ?_; rintro _ _ ⟨rfl, rfl⟩
      clear HM HF
      go_wp2_with fail
      go_loop [12] (fun i => ∃ k : Nat, k ≤ L ∧ i = .int .i64 (k : Int) ∧ (∀ j, j < k → (ats t (2 * j)).kind ≠ 0)) (fun i => (L - (intOf i).toNat))
      case atStart => exact ⟨0, Nat.zero_le _, rfl, fun j h => by omega⟩
      case round =>
        obtain ⟨k, hk, rfl, hpre⟩ := hrel
        have HL0 := Lib.hid (HL.out _ (Kp.refl w))
        have hgo : (k < L ∧ (ats t (2 * k)).kind ≠ 0) ∨ gapN t = k := by
          by_cases h1 : k < L
          · by_cases h2 : (ats t (2 * k)).kind = 0
            · exact .inr (HGAP.out k hk (fun _ => h2) hpre)
            · exact .inl ⟨h1, h2⟩
          · exact .inr (HGAP.out k hk (fun h => absurd h h1) hpre)
        rcases hgo with ⟨hlt, hkn⟩ | hgk
        · have hk2 := H2.out k hlt
          obtain ⟨b, off, rfl, hb, hc⟩ := HU.out.at (2 * k) hk2
          obtain ⟨p, q, h, hn⟩ := hc (2 * k) hk2
          have c1 := hn.kind
          have HPRE : Hid (∀ j, j < k + 1 → (ats t (2 * j)).kind ≠ 0) := fun j hj => by
            rcases Nat.lt_or_eq_of_le (Nat.lt_succ_iff.1 hj) with h3 | h3
            · exact hpre j h3
            · rw [h3]; exact hkn
          have i1 : IntKind.i64.wrap ((k : Int) + 1) = (k : Int) + 1 := IntWalk.i64_in _ (by omega)
          have i2 : IntKind.i64.wrap (2 * (k : Int)) = ((2 * k : Nat) : Int) := by rw [IntWalk.i64_in _ (by omega)]; omega
          have i3 : ((2 * k : Nat) : Int) < (N : Int) := by omega
          clear hc hn hpre hk2 hb HERR HOK HGAP HR hV H2
          generalize (ats t (2 * k)).kind = X at *
          generalize 2 * k = K2 at *
          have hxb : (X == 0) = false := beq_eq_false_iff_ne.2 hkn
          go_wp2_with fail
          refine HL0.out.mono ?_; rintro _ _ ⟨rfl, rfl⟩
          go_wp2_with fail
          go_round
          case rel => exact ⟨k + 1, by omega, by go_num, HPRE.out⟩
          case measure => simp [intOf]; omega
        · by_cases hkL : k < L
          · have hgL : ¬ (k : Int) = (L : Int) := by omega
            have hgLb : ((k : Int) == (L : Int)) = false := beq_eq_false_iff_ne.2 hgL
            have hk0 := gap_blank (t := t) (by rw [hgk, hLh.out]; exact hkL)
            rw [hgk] at hk0
            have hk2 := H2.out k hkL
            have hgk9 := Lib.hid hgk
            obtain ⟨b, off, rfl, hb, hc⟩ := HU.out.at (2 * k) hk2
            obtain ⟨p, q, h, hn⟩ := hc (2 * k) hk2
            have c1 := hn.kind
            rw [hk0] at c1
            clear hc hn hpre hb H2 hk0
            by_cases hg : k = 1024
            · have := gap_le t
              omega
            · have HE := Lib.hid (HOK.out (by rw [hgk]; exact hg))
              obtain ⟨x1, x2, x3, x4, x5⟩ := HR.out.wide
              have hK' := HR.out.gap1024 (by rw [hgk]; exact hg)
              have hunl := HR.out.un_len
              rw [hgk] at x3
              have HPT := Lib.hid (fun W v (h : NL W v ((wideT t).set (2 * k) (leafN name pub))) => refPathT_any v _ (wK t K) k W h hK' (by rw [List.length_set]; exact x1) x3)
              obtain ⟨y1, y2, y3⟩ := path_in (t := (wideT t).set (2 * k) (leafN name pub)) (i := k) hK' (by rw [List.length_set]; exact x1) x3
              have hpl : pathT ((wideT t).set (2 * k) (leafN name pub)) k = pathT (wideT t) k := pathT_len (List.length_set ..) k
              have hadd : addT t name pub = (pathT ((wideT t).set (2 * k) (leafN name pub)) k).foldl (fun o x => toldT o k x) ((wideT t).set (2 * k) (leafN name pub)) := by
                rw [hpl]; unfold addT; rw [hgk]
              have hwl : (wideT t).length ≤ 100000 ∧ 2 * k < (wideT t).length := by
                have := p2_le hK'
                have := p2_succ (wK t K)
                have := p2_pos (wK t K)
                omega
              have hnd : ∀ m, m < wK t K → ats (((pathT ((wideT t).set (2 * k) (leafN name pub)) k).take m).foldl (fun o x => toldT o k x) ((wideT t).set (2 * k) (leafN name pub))) ((pathT ((wideT t).set (2 * k) (leafN name pub)) k).getD m 0) = ats t ((pathT ((wideT t).set (2 * k) (leafN name pub)) k).getD m 0) := fun m hm => by
                have hnn : (pathT ((wideT t).set (2 * k) (leafN name pub)) k).Nodup := by rw [y1]; exact path_nodup _ _
                have hml : m < (pathT ((wideT t).set (2 * k) (leafN name pub)) k).length := by rw [y3]; exact hm
                have hge : (pathT ((wideT t).set (2 * k) (leafN name pub)) k).getD m 0 = (pathT ((wideT t).set (2 * k) (leafN name pub)) k)[m] := by rw [List.getD_eq_getElem?_getD, List.getElem?_eq_getElem hml]; rfl
                rw [told_at9 _ _ _ _ (hnn.sublist (List.take_sublist _ _)) (fun y hy => by
                  obtain ⟨j, hj, rfl⟩ := List.getElem_of_mem (List.mem_of_mem_take hy)
                  have := y2 j hj
                  rwa [List.getD_eq_getElem?_getD, List.getElem?_eq_getElem hj] at this), if_neg, ats_set _ _ _ _ hwl.2, if_neg, x4]
                · rw [hge]
                  have := path_odd (K := wK t K) (i := k) (x := (pathT ((wideT t).set (2 * k) (leafN name pub)) k)[m]) (by rw [← y1]; exact List.getElem_mem hml)
                  omega
                · rintro ⟨hmem, _⟩
                  rw [hge] at hmem
                  obtain ⟨j, hj, e⟩ := List.getElem_of_mem hmem
                  rw [List.length_take] at hj
                  rw [List.getElem_take] at e
                  exact (List.pairwise_iff_getElem.1 hnn) j m (by omega) hml (by omega) e
              have hwide : ((gapN t = lvs t → wideT t = t ++ List.replicate (t.length + 1) blankN) ∧ (gapN t ≠ lvs t → wideT t = t)) := by
                unfold wideT
                exact ⟨fun h => if_pos h, fun h => if_neg h⟩
              rw [hgk, hLh.out, hNh.out] at hwide
              have HT : Hid (∀ m, m < wK t K → ((pathT ((wideT t).set (2 * k) (leafN name pub)) k).take (m + 1)).foldl (fun o x => toldT o k x) ((wideT t).set (2 * k) (leafN name pub)) = toldT (((pathT ((wideT t).set (2 * k) (leafN name pub)) k).take m).foldl (fun o x => toldT o k x) ((wideT t).set (2 * k) (leafN name pub))) k ((pathT ((wideT t).set (2 * k) (leafN name pub)) k).getD m 0)) := fun m hm => take_foldl _ _ _ m 0 (by rw [y3]; exact hm)
              have HTE : Hid (((pathT ((wideT t).set (2 * k) (leafN name pub)) k).take (wK t K)).foldl (fun o x => toldT o k x) ((wideT t).set (2 * k) (leafN name pub)) = addT t name pub) := by
                unfold Hid
                rw [hadd, List.take_of_length_le (by rw [y3]; exact Nat.le_refl _)]
              have HT0 : Hid (((pathT ((wideT t).set (2 * k) (leafN name pub)) k).take 0).foldl (fun o x => toldT o k x) ((wideT t).set (2 * k) (leafN name pub)) = (wideT t).set (2 * k) (leafN name pub)) := rfl
              have HTL : Hid (∀ m, (((pathT ((wideT t).set (2 * k) (leafN name pub)) k).take m).foldl (fun o x => toldT o k x) ((wideT t).set (2 * k) (leafN name pub))).length = (wideT t).length) := fun m => by rw [told_len, List.length_set]
              have HGD := Lib.hid (fun m h => getD_map_int (pathT ((wideT t).set (2 * k) (leafN name pub)) k) m h)
              have HML : Hid (((pathT ((wideT t).set (2 * k) (leafN name pub)) k).map fun (n : Nat) => (n : Int)).length = wK t K) := by unfold Hid; rw [List.length_map, y3]
              have HQ2 : Hid (∀ m, m < wK t K → (pathT ((wideT t).set (2 * k) (leafN name pub)) k).getD m 0 < (wideT t).length) := fun m hm => by
                have := y2 m (by rw [y3]; exact hm)
                rwa [List.length_set] at this
              obtain ⟨F, hF⟩ : ∃ F : Nat → List Nod, F = fun m => ((pathT ((wideT t).set (2 * k) (leafN name pub)) k).take m).foldl (fun o x => toldT o k x) ((wideT t).set (2 * k) (leafN name pub)) := ⟨_, rfl⟩
              have hFm : ∀ m, ((pathT ((wideT t).set (2 * k) (leafN name pub)) k).take m).foldl (fun o x => toldT o k x) ((wideT t).set (2 * k) (leafN name pub)) = F m := fun m => by rw [hF]
              simp only [hFm] at HT HT0 HTE HTL hnd
              have HUN : Hid (∀ m, m < wK t K → (ats (F m) ((pathT ((wideT t).set (2 * k) (leafN name pub)) k).getD m 0)).un.length ≤ 100000) := fun m hm => by
                rw [hnd m hm]
                have := hunl ((pathT ((wideT t).set (2 * k) (leafN name pub)) k).getD m 0)
                omega
              rw [y3] at HGD
              clear hF hFm hadd hpl y1 y2 y3 hnd hunl x2 x4 x5
              generalize (pathT ((wideT t).set (2 * k) (leafN name pub)) k).map (fun (n : Nat) => (n : Int)) = PI at *
              generalize pathT ((wideT t).set (2 * k) (leafN name pub)) k = PT at *
              obtain ⟨T0, hT0⟩ : ∃ T0, (wideT t).set (2 * k) (leafN name pub) = T0 := ⟨_, rfl⟩
              have HT0E := Lib.hid hT0
              rw [hT0] at HPT HT0
              clear hT0
              generalize addT t name pub = OUT at *
              obtain ⟨x1', hwl1, hwl2⟩ := And.intro x1 hwl
              clear x1 hwl x1'
              obtain ⟨WT, hWT⟩ : ∃ WT, wideT t = WT := ⟨_, rfl⟩
              rw [hWT] at hwide hwl1 hwl2 HTL HQ2 HT0E
              obtain ⟨K9, hK9⟩ : ∃ K9, wK t K = K9 := ⟨_, rfl⟩
              rw [hK9] at hK' x3 HT HTE HGD HML HQ2 HUN
              clear hWT hK9 x3
              have i2 : IntKind.i64.wrap (2 * (k : Int)) = ((2 * k : Nat) : Int) := by rw [IntWalk.i64_in _ (by omega)]; omega
              have hkI : ¬ (k : Int) = 1024 := by omega
              have hkb : ((k : Int) == 1024) = false := beq_eq_false_iff_ne.2 hkI
              have HW9 := Lib.hid (hwide.2 (by omega))
              have ik3 : ((2 * k : Nat) : Int) < (N : Int) := by omega
              clear hwide HERR HOK HR HGAP hgk
              go_wp2_with fail
              refine HL0.out.mono ?_; rintro _ _ ⟨rfl, rfl⟩
              go_wp2_with (at_builtin; refine wpList_append_nodes (o := ⟨some 51, _, _, _, _, _⟩) S rfl _ _ rfl w.heap.size _ [] rfl (NO.empty 37 w) _ t rfl (HU.out.apart ((Kp.refl _).alloc _) (fun g hg => by cases hg; exact Nat.le_refl _)) (by have := hNh.out; simp; omega) (by simp) ?_; intro v1 w1 o1 g1 _; have k1 : Kp w w1 := Kp.grown ((Kp.refl _).alloc _) g1 (fun k hk => by cases hk; exact Nat.le_refl _); rw [List.nil_append] at o1)
              have o := o1
              have kk := k1
              rw [← HW9.out] at o
              have k1h := Lib.hid k1
              have O1 := Lib.hid (And.intro o kk)
              clear o1 g1 k1 o kk
              go_loopw [13] (fun v wr => NO 37 wr w.heap.size v WT ∧ Kp w wr) (fun _ _ => 0)
              case atStart => exact O1.out
              case round =>
                obtain ⟨o, kk⟩ := hrel
                have HL1 := Lib.hid (HL.out wr kk)
                clear O1 k1h HL HL0
                obtain ⟨av, nv, cv, rfl⟩ := o.nl.sl
                have OK := Lib.hid (And.intro o kk)
                clear o kk
                go_wp2_with fail
                refine HL1.out.mono ?_; rintro _ _ ⟨rfl, rfl⟩
                obtain ⟨o, kk⟩ := OK.out
                clear OK HL1
                obtain ⟨gb, cb, ef, b1, b2, b3, b4, _⟩ := o.form (by omega)
                simp only [Value.slice.injEq] at ef
                obtain ⟨rfl, hnv, rfl⟩ := ef
                rw [hnv] at o ⊢
                clear hnv
                obtain ⟨WN, hWN⟩ : ∃ WN, WT.length = WN := ⟨_, rfl⟩
                rw [hWN] at o b3 hwl1 hwl2 HTL HQ2 ⊢
                have i3 : ((2 * k : Nat) : Int) < (WN : Int) := by omega
                have HVV := Lib.hid (hV.out.kp kk)
                have HAP := Lib.hid (hV.out.apart (v := .slice (some ⟨gb, 0, none⟩) WN cv) (fun g hg => by cases hg; exact b1))
                have kkh := Lib.hid kk
                obtain ⟨K2, hK2⟩ : ∃ K2, 2 * k = K2 := ⟨_, rfl⟩
                rw [hK2] at i2 i3 hwl2 HT0E
                clear hK2
                go_wp2_with (refine wpList_store_node infoNode5 rfl rfl (.tmp 75) (.tmp 74) rfl w.heap.size gb cv WN WT o K2 (by omega) (leafN name pub) (.slice ap pub.length cp) (.slice none 0 0) (.slice none 0 0) rfl rfl ⟨HVV.out, RI.nil _, rd_nil9 _⟩ HAP.out (Apart.nil _ _ _) (Apart.nil _ _ _) ?_; intro w5 o5 g5)
                have k5 : Kp w w5 := Kp.grown (v := .slice (some ⟨gb, 0, none⟩) WN cv) kk g5 (fun k hk => by cases hk; exact b1)
                have b25 : gb < w5.heap.size := Nat.lt_of_lt_of_le b2 g5.size
                rw [HT0E.out] at o5
                have K5 := Lib.hid k5
                clear o g5 kk kkh
                go_wp2_with fail
                refine (HPT.out w5 _ o5.nl).mono ?_; rintro _ w2 ⟨⟨pv, rfl, o2⟩, k2⟩
                have HAPV := Lib.hid (o2.apart (v := .slice (some ⟨gb, 0, none⟩) WN cv) (fun g hg => by cases hg; exact b25))
                have r2 := o2.ri
                obtain ⟨ap2, cp2, e2, p2, s2⟩ := r2.shape
                subst e2
                rw [HML.out] at r2 p2 HAPV ⊢
                have HR2 := Lib.hid r2
                have HO := Lib.hid (o5.kp k2)
                have HK := Lib.hid (k5.trans k2)
                have b2w := Nat.lt_of_lt_of_le b25 k2.size
                clear HPT o5 o2 r2 k5 k2 K5 b2 b25
                go_wp2_with fail
                go_loopw [15] (fun x wr => ∃ m : Nat, m ≤ K9 ∧ x = .int .i64 (m : Int) ∧ NO 37 wr w.heap.size (.slice (some ⟨gb, 0, none⟩) WN cv) (F m) ∧ RI wr (.slice ap2 K9 cp2) PI ∧ Kp w wr ∧ gb < wr.heap.size) (fun x _ => (K9 - (intOf x).toNat))
                case atStart => exact ⟨0, Nat.zero_le _, rfl, by rw [HT0.out]; exact HO.out, HR2.out, HK.out, b2w⟩
                case round =>
                  obtain ⟨m, hm, rfl, ho, hri, hkp, hgb⟩ := hrel
                  by_cases hlt : m < K9
                  · obtain ⟨g1, o1, rfl, _, hc1⟩ := hri.at m hlt
                    have h1 := hc1 m hlt
                    rw [HGD.out m hlt] at h1
                    have hin := HQ2.out m hlt
                    have HT1 := HT.out m hlt
                    have HL1 := HTL.out m
                    have HUN1 := HUN.out m hlt
                    have i1 : IntKind.i64.wrap ((m : Int) + 1) = (m : Int) + 1 := IntWalk.i64_in _ (by omega)
                    have i4 : ((PT.getD m 0 : Nat) : Int) < (WN : Int) := by omega
                    have i5 : (m : Int) < (K9 : Int) := by omega
                    obtain ⟨gb', cb', ee, _, _, _, _, hat⟩ := ho.form (by omega)
                    simp only [Value.slice.injEq, Option.some.injEq, Addr.mk.injEq] at ee
                    obtain ⟨⟨rfl, _, _⟩, hw9, rfl⟩ := ee
                    clear hw9
                    obtain ⟨p, q, hh, hn, a1, a2, a3⟩ := hat (PT.getD m 0) (by omega)
                    have c0 := hn.kind
                    have c1 := hn.name
                    have c2 := hn.pubC
                    have c3 := hn.unC
                    have c4 := hn.hashC
                    have HN := Lib.hid hn.2
                    have HAA := Lib.hid (And.intro a1 a3)
                    have HRR := Lib.hid hri
                    have HOO := Lib.hid ho
                    have HNAT := Lib.hid hn
                    obtain ⟨xp, np, xcp, rfl⟩ := rd_sl9 hn.2.pub
                    obtain ⟨xq, nq, xcq, rfl⟩ := hn.2.un.sl
                    obtain ⟨xh, nh, xch, rfl⟩ := rd_sl9 hn.2.hash
                    clear HT HTL HQ2 HGD hc1 HT0 HTE HO HR2 HK HUN hat hn a1 a2 a3 hri ho
                    generalize PT.getD m 0 = X at *
                    by_cases hk2 : (ats (F m) X).kind = 2
                    · have e9 : F (m + 1) = (F m).set X (toldN (ats (F m) X) k) := by rw [HT1]; exact if_pos hk2
                      have E9 := Lib.hid e9
                      have HPUT := Lib.hid (fun W (hW : Kp wr W) => refPut_any (.slice xq nq xcq) _ (k : Int) W (HN.out.un.kp hW) HUN1)
                      rw [hk2] at c0
                      have HKD := Lib.hid hk2
                      obtain ⟨NM, hNM⟩ : ∃ NM, (ats (F m) X).name = NM := ⟨_, rfl⟩
                      have HNM := Lib.hid hNM
                      rw [hNM] at c1
                      clear HT1 e9 hk2 HUN1 hNM
                      go_wp2_with fail
                      refine (HPUT.out _ ((Kp.refl _).alloc _)).mono ?_; rintro _ w3 ⟨⟨r, rfl, o3⟩, k3⟩
                      have bx := (Bx.new wr 37 #[.int .i64 2, .int .i64 NM, .slice xp np xcp, .slice xq nq xcq, .slice xh nh xch]).kp k3
                      have HKW : Hid (Kp wr w3) := ((Kp.refl wr).alloc _).trans k3
                      have d3 := bx.cell 3
                      have f3 := bx.frozen 3
                      have bx2 := bx.set 3 r
                      have HK4 : Hid (Kp wr (w3.setCell ⟨wr.heap.size, 3, none⟩ r)) := HKW.out.setNew (Nat.le_refl _) r
                      have HAR := Lib.hid (o3.apart (v := .slice (some ⟨gb, 0, none⟩) WN cv) (fun g hg => by cases hg; simp; omega))
                      have r3 : RI (w3.setCell ⟨wr.heap.size, 3, none⟩ r) r (putN (ats (F m) X).un (k : Int)) := o3.ri.grown9 (v := .slice (some ⟨wr.heap.size, 0, none⟩) 0 0) ⟨rfl, rfl, rfl, by simp, fun z hz hne => heap_setCell_other w3 ⟨wr.heap.size, 3, none⟩ z r (fun e => hne (by rw [e]; rfl))⟩ (o3.apart (fun g hg => by cases hg; simp))
                      have HR3 := Lib.hid r3
                      obtain ⟨xr, nr, xcr, rfl⟩ := o3.ri.sl
                      have HO4 := Lib.hid (HOO.out.kp HK4.out)
                      clear HPUT o3 k3 r3 bx
                      go_wp2_with fail
                      obtain ⟨d0, d1, d2, d4, d5⟩ : _ ∧ _ ∧ _ ∧ _ ∧ _ := ⟨bx2.cell 0, bx2.cell 1, bx2.cell 2, bx2.cell 3, bx2.cell 4⟩
                      have hl2 := HK4.out.cell h1
                      have hth := HO4.out.there X (by omega)
                      have j0 := (hth 0 (by omega)).2
                      have j1 := (hth 1 (by omega)).2
                      have j2 := (hth 2 (by omega)).2
                      have j3 := (hth 3 (by omega)).2
                      have j4 := (hth 4 (by omega)).2
                      have q0 := HK4.out.cell c0
                      have q1 := HK4.out.cell c1
                      have q2 := HK4.out.cell c2
                      have q3 := HK4.out.cell c3
                      have q4 := HK4.out.cell c4
                      rw [Nat.add_zero] at j0
                      have hst := HO4.out.stored X (by omega) (toldN (ats (F m) X) k) (.slice xp np xcp) (.slice xr nr xcr) (.slice xh nh xch) ⟨HN.out.pub.kp HK4.out, HR3.out, HN.out.hash.kp HK4.out⟩ HAA.out.1 HAR.out HAA.out.2
                      rw [← E9.out] at hst
                      have hnc : nodC (toldN (ats (F m) X) k) (.slice xp np xcp) (.slice xr nr xcr) (.slice xh nh xch) = [.int .i64 2, .int .i64 NM, .slice xp np xcp, .slice xr nr xcr, .slice xh nh xch] := by
                        rw [← HNM.out, ← HKD.out]; rfl
                      rw [hnc] at hst
                      have HST := Lib.hid hst
                      have HKF := Lib.hid (And.intro (hkp.trans HK4.out) hkp.size)
                      have HSZ : Hid (gb < (w3.setCell ⟨wr.heap.size, 3, none⟩ (.slice xr nr xcr)).heap.size) := Nat.lt_of_lt_of_le hgb HK4.out.size
                      have HRI := Lib.hid (HRR.out.kp HK4.out)
                      clear hth hst hnc HO4 HK4 HKW HR3 HAR HN HAA HRR HOO HNAT h1 c0 c1 c2 c3 c4 hkp hgb E9 HKD HNM bx2 d3 f3
                      obtain ⟨W4, hW4⟩ : ∃ W4, w3.setCell ⟨wr.heap.size, 3, none⟩ (.slice xr nr xcr) = W4 := ⟨_, rfl⟩
                      simp only [hW4] at *
                      go_region
                      clear d0 d1 d2 d4 d5 hl2 j0 j1 j2 j3 j4 q0 q1 q2 q3 q4
                      go_wp2_with fail
                      have hfin := HST.out
                      go_roundw
                      case rel => exact ⟨m + 1, by omega, by go_num, hfin.1.kp (Kp.refl _).drew, (HRI.out.grown9 (v := .slice (some ⟨gb, 0, none⟩) WN cv) hfin.2 HAPV.out).kp (Kp.refl _).drew, (Kp.grown (v := .slice (some ⟨gb, 0, none⟩) WN cv) HKF.out.1 hfin.2 (fun k hk => by cases hk; exact b1)).drew, Nat.lt_of_lt_of_le HSZ.out hfin.2.size⟩
                      case measure => simp [intOf]; omega
                    · have e9 : F (m + 1) = F m := by rw [HT1]; exact if_neg hk2
                      have hkb2 : ((ats (F m) X).kind == 2) = false := beq_eq_false_iff_ne.2 hk2
                      have HE9 := Lib.hid e9
                      have HKK := Lib.hid (And.intro hkp hgb)
                      generalize (ats (F m) X).kind = KD at *
                      generalize (ats (F m) X).name = NM at *
                      clear HT1 e9 hkp
                      go_wp2_with fail
                      go_roundw
                      case rel => exact ⟨m + 1, by omega, by go_num, by rw [HE9.out]; exact HOO.out.kp ((Kp.refl _).alloc _), HRR.out.kp ((Kp.refl _).alloc _), HKK.out.1.alloc _, by simp; have := HKK.out.2; omega⟩
                      case measure => simp [intOf]; omega
                  · obtain rfl : m = K9 := by omega
                    rw [HTE.out] at ho
                    have O5 := Lib.hid (And.intro ho hkp)
                    clear HT HTL HQ2 HGD HTE hri ho hkp
                    go_wp2_with fail
                    go_ret3
                    exact ⟨⟨_, by rw [HE.out.1, HE.out.2.2, hgk9.out] <;> rfl, by rw [HE.out.2.1]; exact O5.out.1.nl, fun _ => by rw [HE.out.2.1]; exact O5.out.1⟩, O5.out.2⟩
          · obtain rfl : k = L := by omega
            have hgk9 := Lib.hid hgk
            have hke : ((k : Int) == (k : Int)) = true := beq_self_eq_true _
            clear hpre H2
            by_cases hg : k = 1024
            · have HE := Lib.hid (HERR.out (by rw [hgk]; exact hg))
              clear HERR HOK HR HGAP hgk HL
              subst hg
              go_wp2_with fail
              refine HL0.out.mono ?_; rintro _ _ ⟨rfl, rfl⟩
              go_wp2_with fail
              go_ret3
              exact ⟨⟨_, by rw [HE.out.1, HE.out.2.2] <;> rfl, by rw [HE.out.2.1]; exact HU.out, fun h => by rw [HE.out.1] at h; exact absurd h (by decide)⟩, Kp.refl _⟩
            · have HE := Lib.hid (HOK.out (by rw [hgk]; exact hg))
              obtain ⟨x1, x2, x3, x4, x5⟩ := HR.out.wide
              have hK' := HR.out.gap1024 (by rw [hgk]; exact hg)
              have hunl := HR.out.un_len
              rw [hgk] at x3
              have HPT := Lib.hid (fun W v (h : NL W v ((wideT t).set (2 * k) (leafN name pub))) => refPathT_any v _ (wK t K) k W h hK' (by rw [List.length_set]; exact x1) x3)
              obtain ⟨y1, y2, y3⟩ := path_in (t := (wideT t).set (2 * k) (leafN name pub)) (i := k) hK' (by rw [List.length_set]; exact x1) x3
              have hpl : pathT ((wideT t).set (2 * k) (leafN name pub)) k = pathT (wideT t) k := pathT_len (List.length_set ..) k
              have hadd : addT t name pub = (pathT ((wideT t).set (2 * k) (leafN name pub)) k).foldl (fun o x => toldT o k x) ((wideT t).set (2 * k) (leafN name pub)) := by
                rw [hpl]; unfold addT; rw [hgk]
              have hwl : (wideT t).length ≤ 100000 ∧ 2 * k < (wideT t).length := by
                have := p2_le hK'
                have := p2_succ (wK t K)
                have := p2_pos (wK t K)
                omega
              have hnd : ∀ m, m < wK t K → ats (((pathT ((wideT t).set (2 * k) (leafN name pub)) k).take m).foldl (fun o x => toldT o k x) ((wideT t).set (2 * k) (leafN name pub))) ((pathT ((wideT t).set (2 * k) (leafN name pub)) k).getD m 0) = ats t ((pathT ((wideT t).set (2 * k) (leafN name pub)) k).getD m 0) := fun m hm => by
                have hnn : (pathT ((wideT t).set (2 * k) (leafN name pub)) k).Nodup := by rw [y1]; exact path_nodup _ _
                have hml : m < (pathT ((wideT t).set (2 * k) (leafN name pub)) k).length := by rw [y3]; exact hm
                have hge : (pathT ((wideT t).set (2 * k) (leafN name pub)) k).getD m 0 = (pathT ((wideT t).set (2 * k) (leafN name pub)) k)[m] := by rw [List.getD_eq_getElem?_getD, List.getElem?_eq_getElem hml]; rfl
                rw [told_at9 _ _ _ _ (hnn.sublist (List.take_sublist _ _)) (fun y hy => by
                  obtain ⟨j, hj, rfl⟩ := List.getElem_of_mem (List.mem_of_mem_take hy)
                  have := y2 j hj
                  rwa [List.getD_eq_getElem?_getD, List.getElem?_eq_getElem hj] at this), if_neg, ats_set _ _ _ _ hwl.2, if_neg, x4]
                · rw [hge]
                  have := path_odd (K := wK t K) (i := k) (x := (pathT ((wideT t).set (2 * k) (leafN name pub)) k)[m]) (by rw [← y1]; exact List.getElem_mem hml)
                  omega
                · rintro ⟨hmem, _⟩
                  rw [hge] at hmem
                  obtain ⟨j, hj, e⟩ := List.getElem_of_mem hmem
                  rw [List.length_take] at hj
                  rw [List.getElem_take] at e
                  exact (List.pairwise_iff_getElem.1 hnn) j m (by omega) hml (by omega) e
              have hwide : ((gapN t = lvs t → wideT t = t ++ List.replicate (t.length + 1) blankN) ∧ (gapN t ≠ lvs t → wideT t = t)) := by
                unfold wideT
                exact ⟨fun h => if_pos h, fun h => if_neg h⟩
              rw [hgk, hLh.out, hNh.out] at hwide
              have HT : Hid (∀ m, m < wK t K → ((pathT ((wideT t).set (2 * k) (leafN name pub)) k).take (m + 1)).foldl (fun o x => toldT o k x) ((wideT t).set (2 * k) (leafN name pub)) = toldT (((pathT ((wideT t).set (2 * k) (leafN name pub)) k).take m).foldl (fun o x => toldT o k x) ((wideT t).set (2 * k) (leafN name pub))) k ((pathT ((wideT t).set (2 * k) (leafN name pub)) k).getD m 0)) := fun m hm => take_foldl _ _ _ m 0 (by rw [y3]; exact hm)
              have HTE : Hid (((pathT ((wideT t).set (2 * k) (leafN name pub)) k).take (wK t K)).foldl (fun o x => toldT o k x) ((wideT t).set (2 * k) (leafN name pub)) = addT t name pub) := by
                unfold Hid
                rw [hadd, List.take_of_length_le (by rw [y3]; exact Nat.le_refl _)]
              have HT0 : Hid (((pathT ((wideT t).set (2 * k) (leafN name pub)) k).take 0).foldl (fun o x => toldT o k x) ((wideT t).set (2 * k) (leafN name pub)) = (wideT t).set (2 * k) (leafN name pub)) := rfl
              have HTL : Hid (∀ m, (((pathT ((wideT t).set (2 * k) (leafN name pub)) k).take m).foldl (fun o x => toldT o k x) ((wideT t).set (2 * k) (leafN name pub))).length = (wideT t).length) := fun m => by rw [told_len, List.length_set]
              have HGD := Lib.hid (fun m h => getD_map_int (pathT ((wideT t).set (2 * k) (leafN name pub)) k) m h)
              have HML : Hid (((pathT ((wideT t).set (2 * k) (leafN name pub)) k).map fun (n : Nat) => (n : Int)).length = wK t K) := by unfold Hid; rw [List.length_map, y3]
              have HQ2 : Hid (∀ m, m < wK t K → (pathT ((wideT t).set (2 * k) (leafN name pub)) k).getD m 0 < (wideT t).length) := fun m hm => by
                have := y2 m (by rw [y3]; exact hm)
                rwa [List.length_set] at this
              obtain ⟨F, hF⟩ : ∃ F : Nat → List Nod, F = fun m => ((pathT ((wideT t).set (2 * k) (leafN name pub)) k).take m).foldl (fun o x => toldT o k x) ((wideT t).set (2 * k) (leafN name pub)) := ⟨_, rfl⟩
              have hFm : ∀ m, ((pathT ((wideT t).set (2 * k) (leafN name pub)) k).take m).foldl (fun o x => toldT o k x) ((wideT t).set (2 * k) (leafN name pub)) = F m := fun m => by rw [hF]
              simp only [hFm] at HT HT0 HTE HTL hnd
              have HUN : Hid (∀ m, m < wK t K → (ats (F m) ((pathT ((wideT t).set (2 * k) (leafN name pub)) k).getD m 0)).un.length ≤ 100000) := fun m hm => by
                rw [hnd m hm]
                have := hunl ((pathT ((wideT t).set (2 * k) (leafN name pub)) k).getD m 0)
                omega
              rw [y3] at HGD
              clear hF hFm hadd hpl y1 y2 y3 hnd hunl x2 x4 x5
              generalize (pathT ((wideT t).set (2 * k) (leafN name pub)) k).map (fun (n : Nat) => (n : Int)) = PI at *
              generalize pathT ((wideT t).set (2 * k) (leafN name pub)) k = PT at *
              obtain ⟨T0, hT0⟩ : ∃ T0, (wideT t).set (2 * k) (leafN name pub) = T0 := ⟨_, rfl⟩
              have HT0E := Lib.hid hT0
              rw [hT0] at HPT HT0
              clear hT0
              generalize addT t name pub = OUT at *
              obtain ⟨x1', hwl1, hwl2⟩ := And.intro x1 hwl
              clear x1 hwl x1'
              obtain ⟨WT, hWT⟩ : ∃ WT, wideT t = WT := ⟨_, rfl⟩
              rw [hWT] at hwide hwl1 hwl2 HTL HQ2 HT0E
              obtain ⟨K9, hK9⟩ : ∃ K9, wK t K = K9 := ⟨_, rfl⟩
              rw [hK9] at hK' x3 HT HTE HGD HML HQ2 HUN
              clear hWT hK9 x3
              have i2 : IntKind.i64.wrap (2 * (k : Int)) = ((2 * k : Nat) : Int) := by rw [IntWalk.i64_in _ (by omega)]; omega
              have hkI : ¬ (k : Int) = 1024 := by omega
              have hkb : ((k : Int) == 1024) = false := beq_eq_false_iff_ne.2 hkI
              have HW9 := Lib.hid (hwide.1 rfl)
              have ik3 : IntKind.i64.wrap (2 * (N : Int)) = ((2 * N : Nat) : Int) := by rw [IntWalk.i64_in _ (by omega)]; omega
              have ik4 : IntKind.i64.wrap (((2 * N : Nat) : Int) + 1) = ((2 * N + 1 : Nat) : Int) := by rw [IntWalk.i64_in _ (by omega)]; omega
              clear hwide HERR HOK HR HGAP hgk
              go_wp2_with fail
              refine HL0.out.mono ?_; rintro _ _ ⟨rfl, rfl⟩
              go_wp2_with (at_builtin; refine wpList_append_nodes (o := ⟨some 51, _, _, _, _, _⟩) S rfl _ _ rfl w.heap.size _ [] rfl (NO.empty 37 w) _ t rfl (HU.out.apart ((Kp.refl _).alloc _) (fun g hg => by cases hg; exact Nat.le_refl _)) (by have := hNh.out; simp; omega) (by simp) ?_; intro v1 w1 o1 g1 _; have k1 : Kp w w1 := Kp.grown ((Kp.refl _).alloc _) g1 (fun k hk => by cases hk; exact Nat.le_refl _); rw [List.nil_append] at o1)
              have k1h := Lib.hid k1
              have O1 := Lib.hid (And.intro o1 k1)
              clear o1 g1 k1
              go_loopw [13] (fun v wr => ∃ m, m ≤ N + 1 ∧ NO 37 wr w.heap.size v (t ++ List.replicate m blankN) ∧ Kp w wr) (fun v _ => 2 * N + 1 - (match v with | .slice _ n _ => n | _ => 0))
              case atStart => exact ⟨0, Nat.zero_le _, by simpa using O1.out.1, O1.out.2⟩
              case round =>
                obtain ⟨m, hm, o, kk⟩ := hrel
                have HL1 := Lib.hid (HL.out wr kk)
                have hlen9 : (t ++ List.replicate m blankN).length = N + m := by rw [List.length_append, List.length_replicate, hNh.out]
                obtain ⟨av, cv, e9, _, _⟩ := o.nl.shape
                subst e9
                rw [hlen9] at o ⊢
                have OK := Lib.hid (And.intro o kk)
                by_cases hlt : m < N + 1
                · have hcI : ((N + m : Nat) : Int) < ((2 * N + 1 : Nat) : Int) := by omega
                  have hsz := kk.size
                  have HNB : Hid (NAp (wr.alloc (.cells #[.int .i64 0, .int .i64 0, .slice none 0 0, .slice none 0 0, .slice none 0 0] 37)) (.slice av (N + m) cv) (.slice (some ⟨wr.heap.size, 0, none⟩) 1 1) [blankN]) := (NL.lit1 wr 37 blankN (.slice none 0 0) (.slice none 0 0) (.slice none 0 0) ⟨rd_nil9 _, RI.nil _, rd_nil9 _⟩).apart_blank blank_ats
                  have HRP := Lib.hid (rep_succ t m)
                  generalize t ++ List.replicate m blankN = TM at *
                  clear O1 k1h HL HL0 HT HTE HT0 HTL HGD HML HQ2 HUN HT0E HW9
                  go_wp2_with (first
                    | (go_at_call 22; refine HL1.out.mono ?_; rintro _ _ ⟨rfl, rfl⟩)
                    | (at_builtin; refine wpList_append_nodes (o := ⟨some 68, _, _, _, _, _⟩) S rfl _ _ rfl w.heap.size _ TM rfl (OK.out.1.kp ((Kp.refl wr).alloc _)) _ [blankN] rfl HNB.out (by simp; omega) (by simp; omega) ?_; intro v5 w5 o5 g5 _; have k5 : Kp w w5 := Kp.grown (OK.out.2.alloc _) g5 OK.out.1.own_ge))
                  rw [HRP.out] at o5
                  have hl10 : (t ++ List.replicate (m + 1) blankN).length = N + (m + 1) := by rw [List.length_append, List.length_replicate, hNh.out]
                  obtain ⟨av5, cv5, e9, _, _⟩ := o5.nl.shape
                  rw [hl10] at e9
                  subst e9
                  have O9 := Lib.hid (And.intro o5 k5)
                  clear o5 k5 g5 o kk
                  go_roundw
                  case rel => exact ⟨m + 1, by omega, O9.out.1, O9.out.2⟩
                  case measure => show 2 * N + 1 - (N + (m + 1)) < 2 * N + 1 - (N + m); omega
                · obtain rfl : m = N + 1 := by omega
                  have hcI : ¬ ((N + (N + 1) : Nat) : Int) < ((2 * N + 1 : Nat) : Int) := by omega
                  clear o kk O1 k1h HL HL0
                  rw [← HW9.out] at OK
                  go_wp2_with fail
                  refine HL1.out.mono ?_; rintro _ _ ⟨rfl, rfl⟩
                  obtain ⟨o, kk⟩ := OK.out
                  clear OK HL1 hlen9
                  obtain ⟨gb, cb, ef, b1, b2, b3, b4, _⟩ := o.form (by omega)
                  simp only [Value.slice.injEq] at ef
                  obtain ⟨rfl, hnv, rfl⟩ := ef
                  rw [hnv] at o ⊢
                  have hcW : ¬ ((WT.length : Nat) : Int) < ((2 * N + 1 : Nat) : Int) := by omega
                  clear hnv
                  obtain ⟨WN, hWN⟩ : ∃ WN, WT.length = WN := ⟨_, rfl⟩
                  rw [hWN] at o b3 hwl1 hwl2 HTL HQ2 hcW ⊢
                  have i3 : ((2 * k : Nat) : Int) < (WN : Int) := by omega
                  have HVV := Lib.hid (hV.out.kp kk)
                  have HAP := Lib.hid (hV.out.apart (v := .slice (some ⟨gb, 0, none⟩) WN cv) (fun g hg => by cases hg; exact b1))
                  have kkh := Lib.hid kk
                  obtain ⟨K2, hK2⟩ : ∃ K2, 2 * k = K2 := ⟨_, rfl⟩
                  rw [hK2] at i2 i3 hwl2 HT0E
                  clear hK2
                  go_wp2_with (refine wpList_store_node infoNode5 rfl rfl (.tmp 75) (.tmp 74) rfl w.heap.size gb cv WN WT o K2 (by omega) (leafN name pub) (.slice ap pub.length cp) (.slice none 0 0) (.slice none 0 0) rfl rfl ⟨HVV.out, RI.nil _, rd_nil9 _⟩ HAP.out (Apart.nil _ _ _) (Apart.nil _ _ _) ?_; intro w5 o5 g5)
                  have k5 : Kp w w5 := Kp.grown (v := .slice (some ⟨gb, 0, none⟩) WN cv) kk g5 (fun k hk => by cases hk; exact b1)
                  have b25 : gb < w5.heap.size := Nat.lt_of_lt_of_le b2 g5.size
                  rw [HT0E.out] at o5
                  have K5 := Lib.hid k5
                  clear o g5 kk kkh
                  go_wp2_with fail
                  refine (HPT.out w5 _ o5.nl).mono ?_; rintro _ w2 ⟨⟨pv, rfl, o2⟩, k2⟩
                  have HAPV := Lib.hid (o2.apart (v := .slice (some ⟨gb, 0, none⟩) WN cv) (fun g hg => by cases hg; exact b25))
                  have r2 := o2.ri
                  obtain ⟨ap2, cp2, e2, p2, s2⟩ := r2.shape
                  subst e2
                  rw [HML.out] at r2 p2 HAPV ⊢
                  have HR2 := Lib.hid r2
                  have HO := Lib.hid (o5.kp k2)
                  have HK := Lib.hid (k5.trans k2)
                  have b2w := Nat.lt_of_lt_of_le b25 k2.size
                  clear HPT o5 o2 r2 k5 k2 K5 b2 b25
                  go_wp2_with fail
                  go_loopw [15] (fun x wr => ∃ m : Nat, m ≤ K9 ∧ x = .int .i64 (m : Int) ∧ NO 37 wr w.heap.size (.slice (some ⟨gb, 0, none⟩) WN cv) (F m) ∧ RI wr (.slice ap2 K9 cp2) PI ∧ Kp w wr ∧ gb < wr.heap.size) (fun x _ => (K9 - (intOf x).toNat))
                  case atStart => exact ⟨0, Nat.zero_le _, rfl, by rw [HT0.out]; exact HO.out, HR2.out, HK.out, b2w⟩
                  case round =>
                    obtain ⟨m, hm, rfl, ho, hri, hkp, hgb⟩ := hrel
                    by_cases hlt : m < K9
                    · obtain ⟨g1, o1, rfl, _, hc1⟩ := hri.at m hlt
                      have h1 := hc1 m hlt
                      rw [HGD.out m hlt] at h1
                      have hin := HQ2.out m hlt
                      have HT1 := HT.out m hlt
                      have HL1 := HTL.out m
                      have HUN1 := HUN.out m hlt
                      have i1 : IntKind.i64.wrap ((m : Int) + 1) = (m : Int) + 1 := IntWalk.i64_in _ (by omega)
                      have i4 : ((PT.getD m 0 : Nat) : Int) < (WN : Int) := by omega
                      have i5 : (m : Int) < (K9 : Int) := by omega
                      obtain ⟨gb', cb', ee, _, _, _, _, hat⟩ := ho.form (by omega)
                      simp only [Value.slice.injEq, Option.some.injEq, Addr.mk.injEq] at ee
                      obtain ⟨⟨rfl, _, _⟩, hw9, rfl⟩ := ee
                      clear hw9
                      obtain ⟨p, q, hh, hn, a1, a2, a3⟩ := hat (PT.getD m 0) (by omega)
                      have c0 := hn.kind
                      have c1 := hn.name
                      have c2 := hn.pubC
                      have c3 := hn.unC
                      have c4 := hn.hashC
                      have HN := Lib.hid hn.2
                      have HAA := Lib.hid (And.intro a1 a3)
                      have HRR := Lib.hid hri
                      have HOO := Lib.hid ho
                      have HNAT := Lib.hid hn
                      obtain ⟨xp, np, xcp, rfl⟩ := rd_sl9 hn.2.pub
                      obtain ⟨xq, nq, xcq, rfl⟩ := hn.2.un.sl
                      obtain ⟨xh, nh, xch, rfl⟩ := rd_sl9 hn.2.hash
                      clear HT HTL HQ2 HGD hc1 HT0 HTE HO HR2 HK HUN hat hn a1 a2 a3 hri ho
                      generalize PT.getD m 0 = X at *
                      by_cases hk2 : (ats (F m) X).kind = 2
                      · have e9 : F (m + 1) = (F m).set X (toldN (ats (F m) X) k) := by rw [HT1]; exact if_pos hk2
                        have E9 := Lib.hid e9
                        have HPUT := Lib.hid (fun W (hW : Kp wr W) => refPut_any (.slice xq nq xcq) _ (k : Int) W (HN.out.un.kp hW) HUN1)
                        rw [hk2] at c0
                        have HKD := Lib.hid hk2
                        obtain ⟨NM, hNM⟩ : ∃ NM, (ats (F m) X).name = NM := ⟨_, rfl⟩
                        have HNM := Lib.hid hNM
                        rw [hNM] at c1
                        clear HT1 e9 hk2 HUN1 hNM
                        go_wp2_with fail
                        refine (HPUT.out _ ((Kp.refl _).alloc _)).mono ?_; rintro _ w3 ⟨⟨r, rfl, o3⟩, k3⟩
                        have bx := (Bx.new wr 37 #[.int .i64 2, .int .i64 NM, .slice xp np xcp, .slice xq nq xcq, .slice xh nh xch]).kp k3
                        have HKW : Hid (Kp wr w3) := ((Kp.refl wr).alloc _).trans k3
                        have d3 := bx.cell 3
                        have f3 := bx.frozen 3
                        have bx2 := bx.set 3 r
                        have HK4 : Hid (Kp wr (w3.setCell ⟨wr.heap.size, 3, none⟩ r)) := HKW.out.setNew (Nat.le_refl _) r
                        have HAR := Lib.hid (o3.apart (v := .slice (some ⟨gb, 0, none⟩) WN cv) (fun g hg => by cases hg; simp; omega))
                        have r3 : RI (w3.setCell ⟨wr.heap.size, 3, none⟩ r) r (putN (ats (F m) X).un (k : Int)) := o3.ri.grown9 (v := .slice (some ⟨wr.heap.size, 0, none⟩) 0 0) ⟨rfl, rfl, rfl, by simp, fun z hz hne => heap_setCell_other w3 ⟨wr.heap.size, 3, none⟩ z r (fun e => hne (by rw [e]; rfl))⟩ (o3.apart (fun g hg => by cases hg; simp))
                        have HR3 := Lib.hid r3
                        obtain ⟨xr, nr, xcr, rfl⟩ := o3.ri.sl
                        have HO4 := Lib.hid (HOO.out.kp HK4.out)
                        clear HPUT o3 k3 r3 bx
                        go_wp2_with fail
                        obtain ⟨d0, d1, d2, d4, d5⟩ : _ ∧ _ ∧ _ ∧ _ ∧ _ := ⟨bx2.cell 0, bx2.cell 1, bx2.cell 2, bx2.cell 3, bx2.cell 4⟩
                        have hl2 := HK4.out.cell h1
                        have hth := HO4.out.there X (by omega)
                        have j0 := (hth 0 (by omega)).2
                        have j1 := (hth 1 (by omega)).2
                        have j2 := (hth 2 (by omega)).2
                        have j3 := (hth 3 (by omega)).2
                        have j4 := (hth 4 (by omega)).2
                        have q0 := HK4.out.cell c0
                        have q1 := HK4.out.cell c1
                        have q2 := HK4.out.cell c2
                        have q3 := HK4.out.cell c3
                        have q4 := HK4.out.cell c4
                        rw [Nat.add_zero] at j0
                        have hst := HO4.out.stored X (by omega) (toldN (ats (F m) X) k) (.slice xp np xcp) (.slice xr nr xcr) (.slice xh nh xch) ⟨HN.out.pub.kp HK4.out, HR3.out, HN.out.hash.kp HK4.out⟩ HAA.out.1 HAR.out HAA.out.2
                        rw [← E9.out] at hst
                        have hnc : nodC (toldN (ats (F m) X) k) (.slice xp np xcp) (.slice xr nr xcr) (.slice xh nh xch) = [.int .i64 2, .int .i64 NM, .slice xp np xcp, .slice xr nr xcr, .slice xh nh xch] := by
                          rw [← HNM.out, ← HKD.out]; rfl
                        rw [hnc] at hst
                        have HST := Lib.hid hst
                        have HKF := Lib.hid (And.intro (hkp.trans HK4.out) hkp.size)
                        have HSZ : Hid (gb < (w3.setCell ⟨wr.heap.size, 3, none⟩ (.slice xr nr xcr)).heap.size) := Nat.lt_of_lt_of_le hgb HK4.out.size
                        have HRI := Lib.hid (HRR.out.kp HK4.out)
                        clear hth hst hnc HO4 HK4 HKW HR3 HAR HN HAA HRR HOO HNAT h1 c0 c1 c2 c3 c4 hkp hgb E9 HKD HNM bx2 d3 f3
                        obtain ⟨W4, hW4⟩ : ∃ W4, w3.setCell ⟨wr.heap.size, 3, none⟩ (.slice xr nr xcr) = W4 := ⟨_, rfl⟩
                        simp only [hW4] at *
                        go_region
                        clear d0 d1 d2 d4 d5 hl2 j0 j1 j2 j3 j4 q0 q1 q2 q3 q4
                        go_wp2_with fail
                        have hfin := HST.out
                        go_roundw
                        case rel => exact ⟨m + 1, by omega, by go_num, hfin.1.kp (Kp.refl _).drew, (HRI.out.grown9 (v := .slice (some ⟨gb, 0, none⟩) WN cv) hfin.2 HAPV.out).kp (Kp.refl _).drew, (Kp.grown (v := .slice (some ⟨gb, 0, none⟩) WN cv) HKF.out.1 hfin.2 (fun k hk => by cases hk; exact b1)).drew, Nat.lt_of_lt_of_le HSZ.out hfin.2.size⟩
                        case measure => simp [intOf]; omega
                      · have e9 : F (m + 1) = F m := by rw [HT1]; exact if_neg hk2
                        have hkb2 : ((ats (F m) X).kind == 2) = false := beq_eq_false_iff_ne.2 hk2
                        have HE9 := Lib.hid e9
                        have HKK := Lib.hid (And.intro hkp hgb)
                        generalize (ats (F m) X).kind = KD at *
                        generalize (ats (F m) X).name = NM at *
                        clear HT1 e9 hkp
                        go_wp2_with fail
                        go_roundw
                        case rel => exact ⟨m + 1, by omega, by go_num, by rw [HE9.out]; exact HOO.out.kp ((Kp.refl _).alloc _), HRR.out.kp ((Kp.refl _).alloc _), HKK.out.1.alloc _, by simp; have := HKK.out.2; omega⟩
                        case measure => simp [intOf]; omega
                    · obtain rfl : m = K9 := by omega
                      rw [HTE.out] at ho
                      have O5 := Lib.hid (And.intro ho hkp)
                      clear HT HTL HQ2 HGD HTE hri ho hkp
                      go_wp2_with fail
                      go_ret3
                      exact ⟨⟨_, by rw [HE.out.1, HE.out.2.2, hgk9.out] <;> rfl, by rw [HE.out.2.1]; exact O5.out.1.nl, fun _ => by rw [HE.out.2.1]; exact O5.out.1⟩, O5.out.2⟩
  · have e1 : addE t name pub = 1 := by unfold addE; rw [if_neg hm]
    obtain ⟨e2, e3⟩ := add_no 1 e1 (by decide)
    rw [e1, e2, e3]
    rw [decide_eq_false hm] at HM
    clear hv hr hm e1 e2 e3 HL z2
    go_enter Tryz.func26, Tryz.ntmps26
    go_wp2_with fail
    refine HM.out.mono ?_; rintro _ _ ⟨rfl, rfl⟩
    go_wp2_with fail
    refine HF.out.mono ?_; rintro _ _ ⟨rfl, rfl⟩
    go_wp2_with fail
    go_ret3
    exact ⟨⟨_, rfl, HU.out, fun h => absurd h (by decide)⟩, Kp.refl _⟩
theorem refAddN_any (u v : Value) (t : List Nod) (K : Nat) (name : Int) (pub : List UInt8) (w : World) (hu : NL w u t) (hv : Rd w v pub) (hr : RightK t K) :
    Calls Tryz.prog 26 #[u, .int .i64 name, v] w fun e w' => (∃ r, e = .returned (.tuple #[r, .int .i64 (addI t name pub), .int .i64 (addE t name pub)]) ∧ NL w' r (addV t name pub)) ∧ Kp w w' :=
  (refAddN_own u v t K name pub w hu hv hr).mono fun _ _ ⟨⟨r, h1, h2, _⟩, h3⟩ => ⟨⟨r, h1, h2⟩, h3⟩
end Go.Proofs.YtobldbodafaajaaGreatDoor

/- pyxref08: Ints, In, of integers of any sign; pyxref09: SameNode, Same, Small, May, Used. -/
set_option linter.unusedVariables false
set_option linter.unusedSimpArgs false
namespace Go.Proofs.YtobldbodafaajaaGreatDoor
open Go.RowKit

set_option maxHeartbeats 1000000 in
theorem refIntsI_any (u v : Value) (l m : List Int) (w : World) (hu : RI w u l) (hv : RI w v m) :
    Calls Tryz.prog 50 #[u, v] w fun e w' => e = .returned (.bool (decide (l = m))) ∧ Kp w w' := by
  obtain ⟨a1, c1, rfl, p1, s1⟩ := hu.shape
  obtain ⟨a2, c2, rfl, p2, s2⟩ := hv.shape
  unfold maxLen at s1 s2
  by_cases hlen : l.length = m.length
  · have HEQ : Hid (∀ k, k < l.length → l.getD k 0 ≠ m.getD k 0 → decide (l = m) = false) := fun k hk hne => decide_eq_false (fun h => hne (by rw [h]))
    have HALL : Hid ((∀ k, k < l.length → l.getD k 0 = m.getD k 0) → decide (l = m) = true) := fun h => by
      refine decide_eq_true (List.ext_getElem hlen fun k h1 h2 => ?_)
      have := h k h1
      rwa [List.getD_eq_getElem?_getD, List.getElem?_eq_getElem h1, List.getD_eq_getElem?_getD, List.getElem?_eq_getElem h2] at this
    generalize decide (l = m) = b at *
    have HU := Lib.hid hu
    have HV := Lib.hid hv
    rw [← hlen] at HV p2 ⊢
    obtain ⟨N, hN⟩ : ∃ N, l.length = N := ⟨_, rfl⟩
    rw [hN] at HU HV p1 p2 HEQ HALL ⊢
    clear hu hv hlen hN
    go_enter Tryz.func50, Tryz.ntmps50
    go_wp2_with fail
    go_loopw [5] (fun i wr => ∃ k : Nat, k ≤ N ∧ i = .int .i64 (k : Int) ∧ (∀ t, t < k → l.getD t 0 = m.getD t 0) ∧ Kp w wr) (fun i _ => (N - (intOf i).toNat))
    case atStart => exact ⟨0, Nat.zero_le _, rfl, fun t h => by omega, Kp.refl _⟩
    case round =>
      obtain ⟨k, hk, rfl, hpre, hkp⟩ := hrel
      by_cases hlt : k < N
      · obtain ⟨g1, o1, rfl, _, hc1⟩ := HU.out.at k hlt
        obtain ⟨g2, o2, rfl, _, hc2⟩ := HV.out.at k hlt
        have h1 := hkp.cell (hc1 k hlt)
        have h2 := hkp.cell (hc2 k hlt)
        have HEQ2 := HEQ.out k hlt
        have HPRE : Hid (l.getD k 0 = m.getD k 0 → ∀ t, t < k + 1 → l.getD t 0 = m.getD t 0) := fun he t ht => by
          rcases Nat.lt_or_eq_of_le (Nat.lt_succ_iff.1 ht) with h3 | h3
          · exact hpre t h3
          · rw [h3]; exact he
        have i1 : IntKind.i64.wrap ((k : Int) + 1) = (k : Int) + 1 := IntWalk.i64_in _ (by omega)
        have KK := Lib.hid hkp
        clear hc1 hc2 HALL HEQ hpre hkp
        generalize l.getD k 0 = X at *
        generalize m.getD k 0 = Y at *
        by_cases hxy : X = Y
        · have HP := Lib.hid (HPRE.out hxy)
          subst hxy
          clear HEQ2 HPRE
          go_wp2_with fail
          go_region
          go_wp2_with fail
          go_roundw
          case rel => exact ⟨k + 1, by omega, by go_num, HP.out, KK.out.drew⟩
          case measure => simp [intOf]; omega
        · have HB := Lib.hid (HEQ2 hxy)
          have hne2 : (X == Y) = false := beq_eq_false_iff_ne.2 hxy
          clear HEQ2 HPRE
          go_wp2_with fail
          go_region
          go_wp2_with fail
          go_ret
          exact ⟨by rw [HB.out] <;> rfl, KK.out.drew⟩
      · obtain rfl : k = N := by omega
        have HB := Lib.hid (HALL.out hpre)
        have KK := Lib.hid hkp
        clear HALL HEQ hpre hkp
        go_wp2_with fail
        go_ret
        exact ⟨by rw [HB.out] <;> rfl, KK.out⟩
  · have e : decide (l = m) = false := decide_eq_false (fun h => hlen (by rw [h]))
    have hne : ¬ (l.length : Int) = (m.length : Int) := by omega
    have hne2 : ((l.length : Int) == (m.length : Int)) = false := beq_eq_false_iff_ne.2 hne
    rw [e]
    clear hu hv e hlen
    go_enter Tryz.func50, Tryz.ntmps50
    go_wp2_with fail
    go_ret
    exact ⟨rfl, Kp.refl _⟩

set_option maxHeartbeats 1000000 in
theorem refInI_any (u : Value) (l : List Int) (n : Int) (w : World) (hu : RI w u l) :
    Calls Tryz.prog 69 #[u, .int .i64 n] w fun e w' => e = .returned (.bool (decide (n ∈ l))) ∧ w = w' := by
  obtain ⟨a1, c1, rfl, p1, s1⟩ := hu.shape
  unfold maxLen at s1
  have HYES : Hid (∀ k, k < l.length → l.getD k 0 = n → decide (n ∈ l) = true) := fun k hk he => by
    rw [List.getD_eq_getElem?_getD, List.getElem?_eq_getElem hk] at he
    exact decide_eq_true (by rw [← he]; exact List.getElem_mem hk)
  have HNO : Hid ((∀ k, k < l.length → l.getD k 0 ≠ n) → decide (n ∈ l) = false) := fun h => by
    refine decide_eq_false fun h2 => ?_
    obtain ⟨k, hk, e⟩ := List.getElem_of_mem h2
    refine h k hk ?_
    rw [List.getD_eq_getElem?_getD, List.getElem?_eq_getElem hk]
    exact e
  generalize decide (n ∈ l) = b at *
  have HU := Lib.hid hu
  obtain ⟨N, hN⟩ : ∃ N, l.length = N := ⟨_, rfl⟩
  rw [hN] at HU p1 HYES HNO ⊢
  clear hu hN
  go_enter Tryz.func69, Tryz.ntmps69
  go_wp2_with fail
  go_loop [5] (fun i => ∃ k : Nat, k ≤ N ∧ i = .int .i64 (k : Int) ∧ (∀ t, t < k → l.getD t 0 ≠ n)) (fun i => (N - (intOf i).toNat))
  case atStart => exact ⟨0, Nat.zero_le _, rfl, fun t h => by omega⟩
  case round =>
    obtain ⟨k, hk, rfl, hpre⟩ := hrel
    by_cases hlt : k < N
    · obtain ⟨g1, o1, rfl, _, hc1⟩ := HU.out.at k hlt
      have h1 := hc1 k hlt
      have HY2 := HYES.out k hlt
      have HPRE : Hid (l.getD k 0 ≠ n → ∀ t, t < k + 1 → l.getD t 0 ≠ n) := fun he t ht => by
        rcases Nat.lt_or_eq_of_le (Nat.lt_succ_iff.1 ht) with h3 | h3
        · exact hpre t h3
        · rw [h3]; exact he
      have i1 : IntKind.i64.wrap ((k : Int) + 1) = (k : Int) + 1 := IntWalk.i64_in _ (by omega)
      clear hc1 HYES HNO hpre
      generalize l.getD k 0 = X at *
      by_cases hxy : X = n
      · have HB := Lib.hid (HY2 hxy)
        subst hxy
        clear HY2 HPRE
        go_wp2_with fail
        go_ret
        exact ⟨by rw [HB.out] <;> rfl, rfl⟩
      · have HP := Lib.hid (HPRE.out hxy)
        have hne2 : (X == n) = false := beq_eq_false_iff_ne.2 hxy
        clear HY2 HPRE
        go_wp2_with fail
        go_round
        case rel => exact ⟨k + 1, by omega, by go_num, HP.out⟩
        case measure => simp [intOf]; omega
    · obtain rfl : k = N := by omega
      have HB := Lib.hid (HNO.out hpre)
      clear HYES HNO hpre
      go_wp2_with fail
      go_ret
      exact ⟨by rw [HB.out] <;> rfl, rfl⟩

set_option maxHeartbeats 2000000 in
theorem refSameNode_any (u v : Value) (a b : Nod) (w : World) (hu : NV w u a) (hv : NV w v b) :
    Calls Tryz.prog 20 #[u, v] w fun e w' => Tells e (a = b) ∧ Kp w w' := by
  obtain ⟨p1, u1, h1, rfl, i1⟩ := hu
  obtain ⟨p2, u2, h2, rfl, i2⟩ := hv
  have HI := Lib.hid (fun W (hW : Kp w W) => refIntsI_any u1 u2 a.un b.un W (i1.un.kp hW) (i2.un.kp hW))
  have HP := Lib.hid (fun W (hW : Kp w W) => same_any p1 p2 a.pub b.pub W (i1.pub.kp hW) (i2.pub.kp hW))
  have HH := Lib.hid (fun W (hW : Kp w W) => same_any h1 h2 a.hash b.hash W (i1.hash.kp hW) (i2.hash.kp hW))
  have HB := Lib.hid (Nod.eq_iff a b)
  obtain ⟨xp1, np1, cp1, rfl⟩ := rd_sl9 i1.pub
  obtain ⟨xu1, nu1, cu1, rfl⟩ := i1.un.sl
  obtain ⟨xh1, nh1, ch1, rfl⟩ := rd_sl9 i1.hash
  obtain ⟨xp2, np2, cp2, rfl⟩ := rd_sl9 i2.pub
  obtain ⟨xu2, nu2, cu2, rfl⟩ := i2.un.sl
  obtain ⟨xh2, nh2, ch2, rfl⟩ := rd_sl9 i2.hash
  obtain ⟨k1, n1, pu1, un1, ha1⟩ := a
  obtain ⟨k2, n2, pu2, un2, ha2⟩ := b
  simp only [nodC] at HI HP HH HB ⊢
  generalize ((⟨k1, n1, pu1, un1, ha1⟩ : Nod) = ⟨k2, n2, pu2, un2, ha2⟩) = EQ at *
  have hpl : ∀ (b : Bool) (p : Prop) [Decidable p], decide p = b → (p ↔ b = true) := fun b p _ h => by rw [← h]; simp
  obtain ⟨bu, hbu⟩ : ∃ bu, decide (un1 = un2) = bu := ⟨_, rfl⟩
  obtain ⟨bp, hbp⟩ : ∃ bp, decide (pu1 = pu2) = bp := ⟨_, rfl⟩
  obtain ⟨bh, hbh⟩ : ∃ bh, decide (ha1 = ha2) = bh := ⟨_, rfl⟩
  rw [hbu] at HI
  rw [hbp] at HP
  rw [hbh] at HH
  have HB2 : Hid (EQ ↔ k1 = k2 ∧ n1 = n2 ∧ bp = true ∧ bu = true ∧ bh = true) := by
    rw [← hpl bp _ hbp, ← hpl bu _ hbu, ← hpl bh _ hbh]
    exact HB.out
  clear i1 i2 HB hpl hbu hbp hbh
  have KK : Hid (Kp w ((w.alloc (.cells #[.int .i64 k1, .int .i64 n1, .slice xp1 np1 cp1, .slice xu1 nu1 cu1, .slice xh1 nh1 ch1] 37)).alloc (.cells #[.int .i64 k2, .int .i64 n2, .slice xp2 np2 cp2, .slice xu2 nu2 cu2, .slice xh2 nh2 ch2] 37))) := ((Kp.refl w).alloc _).alloc _
  cases bu
  · have HN : Hid (¬ EQ) := fun e => by have := (HB2.out.1 e).2.2.2.1; cases this
    clear HB2
    go_enter Tryz.func20, Tryz.ntmps20
    go_wp2_with fail
    refine (HI.out _ KK.out).mono ?_; rintro _ w1 ⟨rfl, k1'⟩
    have K1 := Lib.hid (KK.out.trans k1')
    clear k1'
    go_wp2_with fail
    go_ret
    exact ⟨Tells.no HN.out, K1.out⟩
  · have HC : ∀ W, Bx W w.heap.size 37 #[.int .i64 k1, .int .i64 n1, .slice xp1 np1 cp1, .slice xu1 nu1 cu1, .slice xh1 nh1 ch1] → Bx W (w.heap.size + 1) 37 #[.int .i64 k2, .int .i64 n2, .slice xp2 np2 cp2, .slice xu2 nu2 cu2, .slice xh2 nh2 ch2] →
        (W.cell? ⟨w.heap.size, 0, none⟩ = some (.int .i64 k1) ∧ W.cell? ⟨w.heap.size, 1, none⟩ = some (.int .i64 n1) ∧ W.cell? ⟨w.heap.size, 2, none⟩ = some (.slice xp1 np1 cp1) ∧ W.cell? ⟨w.heap.size, 4, none⟩ = some (.slice xh1 nh1 ch1)) ∧
        (W.cell? ⟨w.heap.size + 1, 0, none⟩ = some (.int .i64 k2) ∧ W.cell? ⟨w.heap.size + 1, 1, none⟩ = some (.int .i64 n2) ∧ W.cell? ⟨w.heap.size + 1, 2, none⟩ = some (.slice xp2 np2 cp2) ∧ W.cell? ⟨w.heap.size + 1, 4, none⟩ = some (.slice xh2 nh2 ch2)) :=
      fun W b1 b2 => ⟨⟨b1.cell 0, b1.cell 1, b1.cell 2, b1.cell 4⟩, ⟨b2.cell 0, b2.cell 1, b2.cell 2, b2.cell 4⟩⟩
    have HBX : Hid (∀ W, Kp ((w.alloc (.cells #[.int .i64 k1, .int .i64 n1, .slice xp1 np1 cp1, .slice xu1 nu1 cu1, .slice xh1 nh1 ch1] 37)).alloc (.cells #[.int .i64 k2, .int .i64 n2, .slice xp2 np2 cp2, .slice xu2 nu2 cu2, .slice xh2 nh2 ch2] 37)) W →
        (W.cell? ⟨w.heap.size, 0, none⟩ = some (.int .i64 k1) ∧ W.cell? ⟨w.heap.size, 1, none⟩ = some (.int .i64 n1) ∧ W.cell? ⟨w.heap.size, 2, none⟩ = some (.slice xp1 np1 cp1) ∧ W.cell? ⟨w.heap.size, 4, none⟩ = some (.slice xh1 nh1 ch1)) ∧
        (W.cell? ⟨w.heap.size + 1, 0, none⟩ = some (.int .i64 k2) ∧ W.cell? ⟨w.heap.size + 1, 1, none⟩ = some (.int .i64 n2) ∧ W.cell? ⟨w.heap.size + 1, 2, none⟩ = some (.slice xp2 np2 cp2) ∧ W.cell? ⟨w.heap.size + 1, 4, none⟩ = some (.slice xh2 nh2 ch2))) := fun W hW => by
      have b1 := (Bx.new w 37 #[.int .i64 k1, .int .i64 n1, .slice xp1 np1 cp1, .slice xu1 nu1 cu1, .slice xh1 nh1 ch1]).kp (((Kp.refl _).alloc _).trans hW)
      have b2 := Bx.new (w.alloc (.cells #[.int .i64 k1, .int .i64 n1, .slice xp1 np1 cp1, .slice xu1 nu1 cu1, .slice xh1 nh1 ch1] 37)) 37 #[.int .i64 k2, .int .i64 n2, .slice xp2 np2 cp2, .slice xu2 nu2 cu2, .slice xh2 nh2 ch2]
      have e : (w.alloc (.cells #[.int .i64 k1, .int .i64 n1, .slice xp1 np1 cp1, .slice xu1 nu1 cu1, .slice xh1 nh1 ch1] 37)).heap.size = w.heap.size + 1 := by simp
      rw [e] at b2
      exact HC W b1 (b2.kp hW)
    clear HC
    by_cases hk : k1 = k2
    · by_cases hn : n1 = n2
      · subst hk
        subst hn
        cases bp
        · have HN : Hid (¬ EQ) := fun e => by have := (HB2.out.1 e).2.2.1; cases this
          clear HB2
          go_enter Tryz.func20, Tryz.ntmps20
          go_wp2_with fail
          refine (HI.out _ KK.out).mono ?_; rintro _ w1 ⟨rfl, k1'⟩
          obtain ⟨⟨d1, d2, d3, d4⟩, ⟨f1, f2, f3, f4⟩⟩ := HBX.out w1 k1'
          have K1 := Lib.hid (KK.out.trans k1')
          clear k1' HBX
          go_wp2_with fail
          refine (HP.out _ K1.out).mono ?_; rintro _ _ ⟨rfl, rfl⟩
          go_wp2_with fail
          go_ret
          exact ⟨Tells.no HN.out, K1.out⟩
        · have HBB : Hid (EQ ↔ bh = true) := ⟨fun e => (HB2.out.1 e).2.2.2.2, fun e => HB2.out.2 ⟨rfl, rfl, rfl, rfl, e⟩⟩
          clear HB2
          go_enter Tryz.func20, Tryz.ntmps20
          go_wp2_with fail
          refine (HI.out _ KK.out).mono ?_; rintro _ w1 ⟨rfl, k1'⟩
          obtain ⟨⟨d1, d2, d3, d4⟩, ⟨f1, f2, f3, f4⟩⟩ := HBX.out w1 k1'
          have K1 := Lib.hid (KK.out.trans k1')
          clear k1' HBX
          go_wp2_with fail
          refine (HP.out _ K1.out).mono ?_; rintro _ _ ⟨rfl, rfl⟩
          go_wp2_with fail
          refine (HH.out _ K1.out).mono ?_; rintro _ _ ⟨rfl, rfl⟩
          go_wp2_with fail
          go_ret
          exact ⟨⟨bh, rfl, HBB.out.symm⟩, K1.out⟩
      · have HN : Hid (¬ EQ) := fun e => hn (HB2.out.1 e).2.1
        have hnb : (n1 == n2) = false := beq_eq_false_iff_ne.2 hn
        subst hk
        clear HB2
        go_enter Tryz.func20, Tryz.ntmps20
        go_wp2_with fail
        refine (HI.out _ KK.out).mono ?_; rintro _ w1 ⟨rfl, k1'⟩
        obtain ⟨⟨d1, d2, d3, d4⟩, ⟨f1, f2, f3, f4⟩⟩ := HBX.out w1 k1'
        have K1 := Lib.hid (KK.out.trans k1')
        clear k1' HBX
        go_wp2_with fail
        go_ret
        exact ⟨Tells.no HN.out, K1.out⟩
    · have HN : Hid (¬ EQ) := fun e => hk (HB2.out.1 e).1
      have hkb : (k1 == k2) = false := beq_eq_false_iff_ne.2 hk
      clear HB2
      go_enter Tryz.func20, Tryz.ntmps20
      go_wp2_with fail
      refine (HI.out _ KK.out).mono ?_; rintro _ w1 ⟨rfl, k1'⟩
      obtain ⟨⟨d1, d2, d3, d4⟩, ⟨f1, f2, f3, f4⟩⟩ := HBX.out w1 k1'
      have K1 := Lib.hid (KK.out.trans k1')
      clear k1' HBX
      go_wp2_with fail
      go_ret
      exact ⟨Tells.no HN.out, K1.out⟩
end Go.Proofs.YtobldbodafaajaaGreatDoor

/- pyxref09: Same, Small, May, Used, Resolve. -/
set_option linter.unusedVariables false
set_option linter.unusedSimpArgs false
namespace Go.Proofs.YtobldbodafaajaaGreatDoor
open Go.RowKit

set_option maxHeartbeats 2000000 in
theorem refSameT_any (u v : Value) (t s : List Nod) (w : World) (hu : NL w u t) (hv : NL w v s) :
    Calls Tryz.prog 17 #[u, v] w fun e w' => Tells e (t = s) ∧ Kp w w' := by
  obtain ⟨a1, c1, rfl, p1, s1⟩ := hu.shape
  obtain ⟨a2, c2, rfl, p2, s2⟩ := hv.shape
  unfold maxLen at s1 s2
  by_cases hlen : t.length = s.length
  · have HEQ : Hid (∀ k, k < t.length → ¬ ats t k = ats s k → ¬ t = s) := fun k hk hne h => hne (by rw [h])
    have HALL : Hid ((∀ k, k < t.length → ats t k = ats s k) → t = s) := fun h => ats_ext hlen fun x => by
      by_cases hx : x < t.length
      · exact h x hx
      · rw [ats_over (by omega), ats_over (by omega)]
    have HSN := Lib.hid (fun (a b : Nod) u v W (h1 : NV W u a) (h2 : NV W v b) => refSameNode_any u v a b W h1 h2)
    have HU := Lib.hid hu
    have HV := Lib.hid hv
    rw [← hlen] at HV p2 ⊢
    obtain ⟨N, hN⟩ : ∃ N, t.length = N := ⟨_, rfl⟩
    rw [hN] at HU HV p1 p2 HEQ HALL ⊢
    generalize (t = s) = EQ at *
    clear hu hv hlen hN
    go_enter Tryz.func17, Tryz.ntmps17
    go_wp2_with fail
    go_loopw [5] (fun i wr => ∃ k : Nat, k ≤ N ∧ i = .int .i64 (k : Int) ∧ (∀ j, j < k → ats t j = ats s j) ∧ Kp w wr) (fun i _ => (N - (intOf i).toNat))
    case atStart => exact ⟨0, Nat.zero_le _, rfl, fun t h => by omega, Kp.refl _⟩
    case round =>
      obtain ⟨k, hk, rfl, hpre, hkp⟩ := hrel
      by_cases hlt : k < N
      · obtain ⟨g1, o1, rfl, _, hc1⟩ := HU.out.at k hlt
        obtain ⟨g2, o2, rfl, _, hc2⟩ := HV.out.at k hlt
        obtain ⟨x1, y1, z1, n1⟩ := hc1 k hlt
        obtain ⟨x2, y2, z2, n2⟩ := hc2 k hlt
        have m1 := n1.kp hkp
        have m2 := n2.kp hkp
        obtain ⟨c10, c11, c12, c13, c14⟩ := And.intro m1.kind (And.intro m1.name (And.intro m1.pubC (And.intro m1.unC m1.hashC)))
        obtain ⟨c20, c21, c22, c23, c24⟩ := And.intro m2.kind (And.intro m2.name (And.intro m2.pubC (And.intro m2.unC m2.hashC)))
        have HC := Lib.hid (fun W (hW : Kp wr W) => HSN.out (ats t k) (ats s k) _ _ W ⟨x1, y1, z1, rfl, m1.2.kp hW⟩ ⟨x2, y2, z2, rfl, m2.2.kp hW⟩)
        simp only [nodC] at HC
        have HEQ2 := HEQ.out k hlt
        have HPRE : Hid (ats t k = ats s k → ∀ j, j < k + 1 → ats t j = ats s j) := fun he j hj => by
          rcases Nat.lt_or_eq_of_le (Nat.lt_succ_iff.1 hj) with h3 | h3
          · exact hpre j h3
          · rw [h3]; exact he
        have i1 : IntKind.i64.wrap ((k : Int) + 1) = (k : Int) + 1 := IntWalk.i64_in _ (by omega)
        have i2 : (k : Int) < (N : Int) := by omega
        have KK := Lib.hid hkp
        have M1 := Lib.hid m1
        have M2 := Lib.hid m2
        obtain ⟨xa, na, ca, rfl⟩ := rd_sl9 m1.2.pub
        obtain ⟨xb, nb, cb, rfl⟩ := m1.2.un.sl
        obtain ⟨xc, nc, cc, rfl⟩ := rd_sl9 m1.2.hash
        obtain ⟨xd, nd', cd, rfl⟩ := rd_sl9 m2.2.pub
        obtain ⟨xe, ne, ce, rfl⟩ := m2.2.un.sl
        obtain ⟨xf, nf, cf, rfl⟩ := rd_sl9 m2.2.hash
        clear hc1 hc2 HALL HEQ hpre hkp n1 n2 m1 m2 HSN M1 M2
        generalize (ats t k = ats s k) = E1 at *
        generalize (ats t k) = A1 at *
        generalize (ats s k) = A2 at *
        go_wp2_with fail
        go_region_with (go_at_call 20; refine (HC.out _ (by first | exact Kp.refl _ | exact (Kp.refl _).drew)).mono ?_; rintro e9 w9 ⟨t9, k9⟩; obtain ⟨b9, rfl, h9⟩ := t9)
        all_goals
          have K9 := Lib.hid (KK.out.trans (((Kp.refl wr).drew).trans k9))
          cases b9
          · have HB := Lib.hid (HEQ2 fun e => by have := h9.2 e; cases this)
            clear h9 HEQ2 HPRE HC k9
            go_wp2_with fail
            go_ret
            first | exact ⟨Tells.no HB.out, K9.out⟩ | exact ⟨Tells.no HB.out, K9.out.drew⟩
          · have HP := Lib.hid (HPRE.out (h9.1 rfl))
            clear h9 HEQ2 HPRE HC k9
            go_wp2_with fail
            go_roundw
            case rel => first | exact ⟨k + 1, by omega, by go_num, HP.out, K9.out⟩ | exact ⟨k + 1, by omega, by go_num, HP.out, K9.out.drew⟩
            case measure => simp [intOf]; omega
      · obtain rfl : k = N := by omega
        have HB := Lib.hid (HALL.out hpre)
        have KK := Lib.hid hkp
        clear HALL HEQ hpre hkp
        go_wp2_with fail
        go_ret
        exact ⟨Tells.yes HB.out, KK.out⟩
  · have hne : ¬ (t.length : Int) = (s.length : Int) := by omega
    have hne2 : ((t.length : Int) == (s.length : Int)) = false := beq_eq_false_iff_ne.2 hne
    have HN : Hid (¬ t = s) := fun h => hlen (by rw [h])
    clear hu hv hlen
    go_enter Tryz.func17, Tryz.ntmps17
    go_wp2_with fail
    go_ret
    exact ⟨Tells.no HN.out, Kp.refl _⟩

set_option maxHeartbeats 2000000 in
theorem refSmall_any (u : Value) (t : List Nod) (m : Nat) (w : World) (hu : NL w u t) (hm : m ≤ 100000) :
    Calls Tryz.prog 27 #[u, .int .i64 (m : Int)] w fun e w' => Tells e (smallP t m) ∧ w = w' := by
  obtain ⟨a1, c1, rfl, p1, s1⟩ := hu.shape
  by_cases hlen : t.length ≤ m
  · have HEQ : Hid (∀ k, k < t.length → ¬ ((ats t k).pub.length ≤ 40 ∧ (ats t k).hash.length ≤ 40 ∧ (ats t k).un.length ≤ m) → ¬ smallP t m) := fun k hk hne h => hne (by
      rw [ats_get hk]
      exact h.2 _ (List.getElem_mem hk))
    have HALL : Hid ((∀ k, k < t.length → ((ats t k).pub.length ≤ 40 ∧ (ats t k).hash.length ≤ 40 ∧ (ats t k).un.length ≤ m)) → smallP t m) := fun h => ⟨hlen, fun n hn => by
      obtain ⟨k, hk, rfl⟩ := List.getElem_of_mem hn
      have := h k hk
      rwa [ats_get hk] at this⟩
    have HU := Lib.hid hu
    obtain ⟨N, hN⟩ : ∃ N, t.length = N := ⟨_, rfl⟩
    rw [hN] at HU p1 HEQ HALL hlen ⊢
    generalize smallP t m = SP at *
    clear hu hN
    go_enter Tryz.func27, Tryz.ntmps27
    go_wp2_with fail
    go_loop [5] (fun i => ∃ k : Nat, k ≤ N ∧ i = .int .i64 (k : Int) ∧ (∀ j, j < k → ((ats t j).pub.length ≤ 40 ∧ (ats t j).hash.length ≤ 40 ∧ (ats t j).un.length ≤ m))) (fun i => (N - (intOf i).toNat))
    case atStart => exact ⟨0, Nat.zero_le _, rfl, fun t h => by omega⟩
    case round =>
      obtain ⟨k, hk, rfl, hpre⟩ := hrel
      by_cases hlt : k < N
      · obtain ⟨g1, o1, rfl, _, hc1⟩ := HU.out.at k hlt
        obtain ⟨x1, y1, z1, n1⟩ := hc1 k hlt
        have c2 := n1.pubC
        have c3 := n1.unC
        have c4 := n1.hashC
        obtain ⟨xa, ca, rfl, _, _⟩ := n1.2.pub.shape
        obtain ⟨xb, cb, rfl, _, _⟩ := n1.2.un.shape
        obtain ⟨xc, cc, rfl, _, _⟩ := n1.2.hash.shape
        have HEQ2 := HEQ.out k hlt
        have HPRE : Hid (((ats t k).pub.length ≤ 40 ∧ (ats t k).hash.length ≤ 40 ∧ (ats t k).un.length ≤ m) → ∀ j, j < k + 1 → ((ats t j).pub.length ≤ 40 ∧ (ats t j).hash.length ≤ 40 ∧ (ats t j).un.length ≤ m)) := fun he j hj => by
          rcases Nat.lt_or_eq_of_le (Nat.lt_succ_iff.1 hj) with h3 | h3
          · exact hpre j h3
          · rw [h3]; exact he
        have i1 : IntKind.i64.wrap ((k : Int) + 1) = (k : Int) + 1 := IntWalk.i64_in _ (by omega)
        have i2 : (k : Int) < (N : Int) := by omega
        clear hc1 HALL HEQ hpre n1
        generalize (ats t k).pub.length = P at *
        generalize (ats t k).hash.length = H at *
        generalize (ats t k).un.length = U at *
        by_cases h1 : P ≤ 40
        · have h1b : ¬ (40 : Int) < (P : Int) := by omega
          by_cases h2 : H ≤ 40
          · have h2b : ¬ (40 : Int) < (H : Int) := by omega
            by_cases h3 : U ≤ m
            · have h3b : ¬ (m : Int) < (U : Int) := by omega
              have HP := Lib.hid (HPRE.out ⟨h1, h2, h3⟩)
              clear HEQ2 HPRE
              go_wp2_with fail
              go_round
              case rel => exact ⟨k + 1, by omega, by go_num, HP.out⟩
              case measure => simp [intOf]; omega
            · have h3b : (m : Int) < (U : Int) := by omega
              have HB := Lib.hid (HEQ2 fun h => h3 h.2.2)
              clear HEQ2 HPRE
              go_wp2_with fail
              go_ret
              exact ⟨Tells.no HB.out, rfl⟩
          · have h2b : (40 : Int) < (H : Int) := by omega
            have HB := Lib.hid (HEQ2 fun h => h2 h.2.1)
            clear HEQ2 HPRE
            go_wp2_with fail
            go_ret
            exact ⟨Tells.no HB.out, rfl⟩
        · have h1b : (40 : Int) < (P : Int) := by omega
          have HB := Lib.hid (HEQ2 fun h => h1 h.1)
          clear HEQ2 HPRE
          go_wp2_with fail
          go_ret
          exact ⟨Tells.no HB.out, rfl⟩
      · obtain rfl : k = N := by omega
        have HB := Lib.hid (HALL.out hpre)
        clear HALL HEQ hpre
        go_wp2_with fail
        go_ret
        exact ⟨Tells.yes HB.out, rfl⟩
  · have hne : (m : Int) < (t.length : Int) := by omega
    have HN : Hid (¬ smallP t m) := fun h => hlen h.1
    clear hu hlen
    go_enter Tryz.func27, Tryz.ntmps27
    go_wp2_with fail
    go_ret
    exact ⟨Tells.no HN.out, rfl⟩

set_option maxHeartbeats 1000000 in
theorem refMayT_any (u : Value) (t : List Nod) (m : Nat) (w : World) (hu : NL w u t) (hm : m ≤ 100000) :
    Calls Tryz.prog 7 #[u, .int .i64 (m : Int)] w fun e w' => Tells e (smallP t m ∧ RightP t) ∧ Kp w w' := by
  have HS := Lib.hid (refSmall_any u t m w hu hm)
  have HR : Hid (smallP t m → Calls Tryz.prog 28 #[u] w fun e w' => Tells e (RightP t) ∧ Kp w w') := fun h => refRightT_any u t w hu (by have := h.1; omega)
  obtain ⟨a1, c1, rfl, p1, s1⟩ := hu.shape
  clear hu
  generalize smallP t m = SP at *
  generalize RightP t = RP at *
  go_enter Tryz.func7, Tryz.ntmps7
  go_wp2_with fail
  refine HS.out.mono ?_; rintro _ _ ⟨⟨b, rfl, hb⟩, rfl⟩
  cases b
  · have HN : Hid (¬ (SP ∧ RP)) := fun h => by have := hb.2 h.1; cases this
    clear hb HR
    go_wp2_with fail
    go_ret
    exact ⟨Tells.no HN.out, Kp.refl _⟩
  · have hsp := hb.1 rfl
    have HR2 := Lib.hid (HR.out hsp)
    have HB := Lib.hid hsp
    clear hb HR hsp
    go_wp2_with fail
    refine HR2.out.mono ?_; rintro _ w2 ⟨⟨b, rfl, hb⟩, k2⟩
    have HBB : Hid (b = true ↔ SP ∧ RP) := ⟨fun h => ⟨HB.out, hb.1 h⟩, fun h => hb.2 h.2⟩
    clear hb
    go_wp2_with fail
    go_ret
    exact ⟨⟨b, rfl, HBB.out⟩, k2⟩

set_option maxHeartbeats 2000000 in
/-- A node that isn't blank: it, and the leaves of its Un. -/
theorem refResolve_full (u : Value) (t : List Nod) (K j q : Nat) (w : World) (hu : NL w u t) (hr : RightK t K) (hj : j ≤ K) (hq : q < 2 ^ (K - j)) (hk : (ats t (nd j q)).kind ≠ 0) :
    Calls Tryz.prog 84 #[u, .int .i64 ((nd j q : Nat) : Int)] w fun e w' => (∃ r, e = .returned r ∧ OI 3 w' w.heap.size r (((nd j q : Nat) : Int) :: (ats t (nd j q)).un.map (2 * ·))) ∧ Kp w w' := by
  have S := s1ints
  obtain ⟨_, s2, s3⟩ := nd_small hr.le hj hq
  have hun := fun i hi => hr.unAt s2 s3 i hi
  have hul := hr.un_len (nd j q)
  have hx : nd j q < t.length := by rw [hr.len]; exact nd_lt hj hq
  obtain ⟨a, c, rfl, p1, s1⟩ := hu.shape
  obtain ⟨b, off, rfl, hb, hc⟩ := hu.at (nd j q) hx
  obtain ⟨p, uu, h, hn⟩ := hc (nd j q) hx
  have c0 := hn.kind
  have HC := Lib.hid (fun W (hW : Kp w W) => (hn.kp hW).unC)
  have HR := Lib.hid hn.2.un
  obtain ⟨aq, cq, rfl, u1, u2⟩ := hn.2.un.shape
  unfold maxLen at u2
  have hz1 := hr.small.1
  generalize nd j q = X at *
  have HV : Hid (∀ k, k < (ats t X).un.length → 0 ≤ (ats t X).un.getD k 0 ∧ (ats t X).un.getD k 0 ≤ 2047) := fun k hk => by
    have hg : (ats t X).un.getD k 0 = (ats t X).un[k] := by rw [List.getD_eq_getElem?_getD, List.getElem?_eq_getElem hk]; rfl
    obtain ⟨v, e, _, h3⟩ := hun _ (List.getElem_mem hk)
    rw [hg, e]
    have := RightK.lt_of (t := t) (x := 2 * v) (by rw [h3]; decide)
    omega
  have HT : Hid (∀ k, k < (ats t X).un.length → ((X : Int) :: ((ats t X).un.take (k + 1)).map (2 * ·)) = ((X : Int) :: ((ats t X).un.take k).map (2 * ·)) ++ [2 * (ats t X).un.getD k 0]) := fun k hk => by
    rw [List.take_succ_eq_append_getElem hk, List.map_append, List.getD_eq_getElem?_getD, List.getElem?_eq_getElem hk]
    rfl
  have HTE : Hid (((X : Int) :: ((ats t X).un.take (ats t X).un.length).map (2 * ·)) = ((X : Int) :: (ats t X).un.map (2 * ·))) := by unfold Hid; rw [List.take_length]
  have HTL : Hid (∀ k, ((X : Int) :: ((ats t X).un.take k).map (2 * ·)).length ≤ 1025) := fun k => by
    rw [List.length_cons, List.length_map, List.length_take]; omega
  have hxb : ((ats t X).kind == 0) = false := beq_eq_false_iff_ne.2 hk
  obtain ⟨N, hN⟩ : ∃ N, t.length = N := ⟨_, rfl⟩
  rw [hN] at p1 hx hz1 ⊢
  have i2 : (X : Int) < (N : Int) := by omega
  have i2b : decide ((N : Int) ≤ (X : Int)) = false := decide_eq_false (by omega)
  have i2c : ¬ (N : Int) ≤ (X : Int) := by omega
  generalize (ats t X).kind = KD at *
  generalize (ats t X).un = UN at *
  obtain ⟨U, hU⟩ : ∃ U, UN.length = U := ⟨_, rfl⟩
  rw [hU] at HC HR HV HT HTE u1 hul
  clear hu hr hj hq hc hn hN hun hU s2 s3 hb hz1
  obtain ⟨F, hF⟩ : ∃ F : Nat → List Int, F = fun k => ((X : Int) :: (UN.take k).map (2 * ·)) := ⟨_, rfl⟩
  have hFk : ∀ k, ((X : Int) :: (UN.take k).map (2 * ·)) = F k := fun k => by rw [hF]
  have HF0 : Hid ([(X : Int)] = F 0) := by unfold Hid; rw [hF]; rfl
  simp only [hFk] at HT HTE HTL
  generalize ((X : Int) :: UN.map (2 * ·)) = OUT at *
  clear hF hFk
  go_enter Tryz.func84, Tryz.ntmps84
  go_wp2_with fail
  have HST : Hid (OI 3 (w.alloc (.cells #[.int .i64 (X : Int)] 3)) w.heap.size (.slice (some ⟨w.heap.size, 0, none⟩) 1 1) (F 0)) := by
    rw [← HF0.out]
    exact RI.lit w 3 #[.int .i64 (X : Int)] [(X : Int)] 1 rfl (by omega) rfl
  go_loopw [5, 6] (fun v i wr => ∃ k : Nat, k ≤ U ∧ i = .int .i64 (k : Int) ∧ OI 3 wr w.heap.size v (F k) ∧ Kp w wr) (fun _ i _ => (U - (intOf i).toNat))
  case atStart => exact ⟨0, Nat.zero_le _, rfl, HST.out, (Kp.refl _).alloc _⟩
  case round =>
    obtain ⟨k, hk, rfl, ho, hkp⟩ := hrel
    have c3 := HC.out wr hkp
    have i1 : IntKind.i64.wrap ((k : Int) + 1) = (k : Int) + 1 := IntWalk.i64_in _ (by omega)
    by_cases hlt : k < U
    · obtain ⟨g1, o1, rfl, _, hc1⟩ := (HR.out.kp hkp).at k hlt
      have d1 := hc1 k hlt
      obtain ⟨v0, v1⟩ := HV.out k hlt
      have HT1 := Lib.hid (HT.out k hlt)
      have hfl := HTL.out k
      have hsz := hkp.size
      have i4 : IntKind.i64.wrap (2 * UN.getD k 0) = 2 * UN.getD k 0 := IntWalk.i64_in _ (by omega)
      clear HC HR HV HT HTE HTL hc1 HF0 HST
      generalize UN.getD k 0 = V at *
      generalize F k = FK at *
      go_wp2_with (at_builtin; refine wpList_append_i (o := ⟨some 48, _, _, _, _, _⟩) S rfl _ _ rfl w.heap.size _ FK rfl (ho.kp ((Kp.refl wr).alloc _)) _ [2 * V] rfl (OI.lit1 wr 3 (2 * V)) (by simp; omega) (by simp; omega) ?_; intro v5 w5 o5 g5; have k5 : Kp w w5 := Kp.grown (hkp.alloc _) g5 ho.own_ge)
      go_roundw
      case rel => exact ⟨k + 1, by omega, by go_num, by rw [HT1.out]; exact o5, k5⟩
      case measure => simp [intOf]; omega
    · obtain rfl : k = U := by omega
      rw [HTE.out] at ho
      have HO := Lib.hid (And.intro ho hkp)
      obtain ⟨a5, n5, c5, rfl⟩ := ho.ri.sl
      clear ho hkp HTE HT HTL HV HF0 HST HC HR
      go_wp2_with fail
      go_ret
      exact ⟨⟨_, rfl, HO.out.1⟩, HO.out.2⟩

theorem rising_len2 {l : List Int} (lo : Int) (n : Nat) (h : l.Pairwise (· < ·)) (hl : ∀ i ∈ l, lo ≤ i ∧ i < lo + n) : l.length ≤ n := by
  have key : ∀ k (hk : k < l.length), lo + (k : Int) ≤ l[k] := by
    intro k
    induction k with
    | zero => intro hk; have := (hl _ (List.getElem_mem hk)).1; omega
    | succ k ih =>
      intro hk
      have h1 := ih (by omega)
      have h2 := (List.pairwise_iff_getElem.1 h) k (k + 1) (by omega) hk (by omega)
      omega
  by_cases h0 : l.length = 0
  · omega
  · have h1 := key (l.length - 1) (by omega)
    have h2 := (hl _ (List.getElem_mem (show l.length - 1 < l.length by omega))).2
    omega
theorem res_len {t : List Nod} {K : Nat} (h : RightK t K) : ∀ (j q : Nat), j ≤ K → q < 2 ^ (K - j) → (resF t j q).length ≤ 2 ^ (j + 1) := by
  have hfull : ∀ (j q : Nat), j ≤ K → q < 2 ^ (K - j) → (((nd j q : Nat) : Int) :: (ats t (nd j q)).un.map (2 * ·)).length ≤ 2 ^ (j + 1) := by
    intro j q hj hq
    obtain ⟨_, s2, s3⟩ := nd_small h.le hj hq
    have hp := p2_succ j
    have hp1 := p2_pos j
    rw [List.length_cons, List.length_map]
    have : (ats t (nd j q)).un.length ≤ 2 ^ j := by
      rcases h.okA (nd j q) with h1 | ⟨h1, h2, h3, h4, h5⟩
      · rw [h1]; exact Nat.zero_le _
      · by_cases e : (ats t (nd j q)).kind = 1
        · rw [h4 e]; exact Nat.zero_le _
        · have h6 := (h5 (by omega)).2
          obtain ⟨l1, l2⟩ := lv_nd s2 s3
          rw [l1, l2] at h6
          refine rising_len2 ((2 ^ j * q : Nat) : Int) _ h6.1 fun i hi => ?_
          have := h6.2 i hi
          omega
    omega
  intro j
  induction j with
  | zero =>
    intro q hj hq
    unfold resF
    split
    · exact Nat.zero_le _
    · exact hfull 0 q hj hq
  | succ j ih =>
    intro q hj hq
    have e9 : K - j = (K - (j + 1)) + 1 := by omega
    have hp := p2_succ (K - (j + 1))
    rw [← e9] at hp
    show (if (ats t (nd (j + 1) q)).kind = 0 then _ else _ : List Int).length ≤ _
    split
    · rw [List.length_append]
      have h1 := ih (2 * q) (by omega) (by omega)
      have h2 := ih (2 * q + 1) (by omega) (by omega)
      have h3 := p2_succ (j + 1)
      omega
    · exact hfull (j + 1) q hj hq

set_option maxHeartbeats 2000000 in
theorem refResolve_nd (u : Value) (t : List Nod) (K : Nat) (hr : RightK t K) : ∀ (j q : Nat) (w : World), NL w u t → j ≤ K → q < 2 ^ (K - j) →
    Calls Tryz.prog 84 #[u, .int .i64 ((nd j q : Nat) : Int)] w fun e w' => (∃ r, e = .returned r ∧ OI 3 w' w.heap.size r (resF t j q)) ∧ Kp w w' := by
  intro j
  induction j with
  | zero =>
    intro q w hu hj hq
    by_cases hk : (ats t (nd 0 q)).kind = 0
    · have e : resF t 0 q = [] := by unfold resF; rw [if_pos hk]
      rw [e]
      have hx : nd 0 q < t.length := by rw [hr.len]; exact nd_lt hj hq
      obtain ⟨a, c, rfl, p1, s1⟩ := hu.shape
      obtain ⟨b, off, rfl, hb, hc⟩ := hu.at (nd 0 q) hx
      obtain ⟨p, uu, h, hn⟩ := hc (nd 0 q) hx
      have c0 := hn.kind
      rw [hk] at c0
      have i2 : ((nd 0 q : Nat) : Int) < (t.length : Int) := by omega
      have i3 := tmod2 (nd 0 q)
      have i4 : ((nd 0 q : Nat) : Int) % 2 = 0 := by have := nd_even q; omega
      rw [i4] at i3
      generalize nd 0 q = X at *
      generalize t.length = N at *
      clear hc hn hu hr e hb hq hj i4
      go_enter Tryz.func84, Tryz.ntmps84
      go_wp2_with fail
      go_ret
      exact ⟨⟨_, rfl, OI.nil _ _ _⟩, Kp.refl _⟩
    · have e : resF t 0 q = (((nd 0 q : Nat) : Int) :: (ats t (nd 0 q)).un.map (2 * ·)) := by unfold resF; rw [if_neg hk]
      rw [e]
      exact refResolve_full u t K 0 q w hu hr hj hq hk
  | succ j ih =>
    intro q w hu hj hq
    by_cases hk : (ats t (nd (j + 1) q)).kind = 0
    · have S := s1ints
      have e : resF t (j + 1) q = resF t j (2 * q) ++ resF t j (2 * q + 1) := by
        show (if (ats t (nd (j + 1) q)).kind = 0 then _ else _) = _
        rw [if_pos hk]
      rw [e]
      have e9 : K - j = (K - (j + 1)) + 1 := by omega
      have hp := p2_succ (K - (j + 1))
      rw [← e9] at hp
      have H1 := Lib.hid (fun W (hW : Kp w W) => ih (2 * q) W (hu.kp hW) (by omega) (by omega))
      have H2 := Lib.hid (fun W (hW : Kp w W) => ih (2 * q + 1) W (hu.kp hW) (by omega) (by omega))
      obtain ⟨_, s2, s3⟩ := nd_small hr.le hj hq
      obtain ⟨f1, f2, f3⟩ := ch_yes (j := j) (q := q) s2 s3
      have HLF := Lib.hid (refLeft_any ((nd (j + 1) q : Nat) : Int) w)
      have HRT := Lib.hid (refRight_any ((nd (j + 1) q : Nat) : Int) w)
      rw [f1, f2] at HLF
      rw [f1, f3] at HRT
      have hlen : (resF t j (2 * q)).length + (resF t j (2 * q + 1)).length ≤ 1000000 := by
        have h1 := res_len hr j (2 * q) (by omega) (by omega)
        have h2 := res_len hr j (2 * q + 1) (by omega) (by omega)
        have h3 : 2 ^ (j + 1) ≤ 1024 := p2_le (by have := hr.le; omega)
        omega
      have hx : nd (j + 1) q < t.length := by rw [hr.len]; exact nd_lt hj hq
      obtain ⟨a, c, rfl, p1, s1⟩ := hu.shape
      obtain ⟨b, off, rfl, hb, hc⟩ := hu.at (nd (j + 1) q) hx
      obtain ⟨p, uu, h, hn⟩ := hc (nd (j + 1) q) hx
      have c0 := hn.kind
      rw [hk] at c0
      have i2 : ((nd (j + 1) q : Nat) : Int) < (t.length : Int) := by omega
      have i3 := tmod2 (nd (j + 1) q)
      have i4 : ((nd (j + 1) q : Nat) : Int) % 2 = 1 := by have := nd_odd j q; omega
      rw [i4] at i3
      generalize nd (j + 1) q = X at *
      generalize nd j (2 * q) = XL at *
      generalize nd j (2 * q + 1) = XR at *
      generalize resF t j (2 * q) = RL9 at *
      generalize resF t j (2 * q + 1) = RR9 at *
      generalize t.length = N at *
      clear hc hn hu hr e hb hq hj i4 e9 hp s2 s3 f1 f2 f3 ih hx
      go_enter Tryz.func84, Tryz.ntmps84
      go_wp2_with fail
      refine HLF.out.mono ?_; rintro _ _ ⟨rfl, rfl⟩
      go_wp2_with fail
      refine HRT.out.mono ?_; rintro _ _ ⟨rfl, rfl⟩
      clear HLF HRT
      go_wp2_with fail
      refine (H1.out w (Kp.refl _)).mono ?_; rintro _ w1 ⟨⟨r1, rfl, o1⟩, k1⟩
      have K1 := Lib.hid k1
      have O1 := Lib.hid o1
      obtain ⟨x5, n5, c5, rfl⟩ := o1.ri.sl
      clear H1 o1
      go_wp2_with fail
      refine (H2.out w1 K1.out).mono ?_; rintro _ w2 ⟨⟨r2, rfl, o2⟩, k2⟩
      have hsz := (K1.out.trans k2).size
      go_wp2_with (at_builtin; refine wpList_append_i (o := ⟨some 69, _, _, _, _, _⟩) S rfl _ _ rfl w.heap.size _ RL9 rfl (O1.out.kp k2) _ RR9 rfl o2.ri hlen (by omega) ?_; intro v5 w5 o5 g5; have k5 : Kp w w5 := Kp.grown (K1.out.trans k2) g5 O1.out.own_ge)
      have O5 := Lib.hid (And.intro o5 k5)
      obtain ⟨x6, n6, c6, rfl⟩ := o5.ri.sl
      clear H2 o2 k2 o5 g5 k5 O1
      go_wp2_with fail
      go_ret
      exact ⟨⟨_, rfl, O5.out.1⟩, O5.out.2⟩
    · have e : resF t (j + 1) q = (((nd (j + 1) q : Nat) : Int) :: (ats t (nd (j + 1) q)).un.map (2 * ·)) := by
        show (if (ats t (nd (j + 1) q)).kind = 0 then _ else _) = _
        rw [if_neg hk]
      rw [e]
      exact refResolve_full u t K (j + 1) q w hu hr hj hq hk
set_option maxHeartbeats 1000000 in
theorem refResolve_any (u : Value) (t : List Nod) (K : Nat) (x : Int) (w : World) (hu : NL w u t) (hr : RightK t K) :
    Calls Tryz.prog 84 #[u, .int .i64 x] w fun e w' => (∃ r, e = .returned r ∧ OI 3 w' w.heap.size r (resV t x)) ∧ Kp w w' := by
  by_cases h0 : 0 ≤ x
  · obtain ⟨y, rfl⟩ := Int.eq_ofNat_of_zero_le h0
    by_cases h1 : y < t.length
    · obtain ⟨j, q, rfl, hj, hq⟩ := nd_of K y (by rw [← hr.len]; exact h1)
      rw [res_nd hr hj hq]
      exact refResolve_nd u t K hr j q w hu hj hq
    · have e : resV t (y : Int) = [] := if_neg (by omega)
      have i1 : ¬ (y : Int) < 0 := by omega
      have i2 : (t.length : Int) ≤ (y : Int) := by omega
      rw [e]
      obtain ⟨a, c, rfl, p1, s1⟩ := hu.shape
      clear hu hr e h1
      go_enter Tryz.func84, Tryz.ntmps84
      go_wp2_with fail
      go_ret
      exact ⟨⟨_, rfl, OI.nil _ _ _⟩, Kp.refl _⟩
  · have e : resV t x = [] := if_neg (fun h => h0 h.1)
    have i1 : x < 0 := by omega
    rw [e]
    obtain ⟨a, c, rfl, p1, s1⟩ := hu.shape
    clear hu hr e
    go_enter Tryz.func84, Tryz.ntmps84
    go_wp2_with fail
    go_ret
    exact ⟨⟨_, rfl, OI.nil _ _ _⟩, Kp.refl _⟩
end Go.Proofs.YtobldbodafaajaaGreatDoor

import Derived.Test.YtigpgcjbpoaclaaGreatDoorB3
import Derived.Test.YtigpgcjbpoaclaaGreatDoorB5
import Derived.Test.YtigpgcjbpoaclaaGreatDoorB6
import Derived.Test.YtigpgcjbpoaclaaGreatDoorB21
import Derived.Test.YtigpgcjbpoaclaaGreatDoorB22
import Derived.RangeFuncBox
import Derived.WalkMore
set_option linter.unusedVariables false
set_option linter.unusedSimpArgs false
namespace Go.Proofs.YtigpgcjbpoaclaaGreatDoor
open Go.RowKit
def Bx (w : World) (b : Nat) (T : TypeId) (cs : Array Value) : Prop := w.heap[b]? = some (.cells cs T (0, 0))
theorem Bx.kp {w w' : World} {b : Nat} {T : TypeId} {cs : Array Value} (h : Bx w b T cs) (k : Kp w w') : Bx w' b T cs :=
  (Below.block k b (Array.getElem?_eq_some_iff.1 h).1).trans h
theorem Bx.cell {w : World} {b : Nat} {T : TypeId} {cs : Array Value} (h : Bx w b T cs) (j : Nat) : w.cell? ⟨b, j, none⟩ = cs[j]? := cell_of_row w b j cs T (0, 0) h
theorem Bx.frozen {w : World} {b : Nat} {T : TypeId} {cs : Array Value} (h : Bx w b T cs) (j : Nat) : w.frozen? ⟨b, j, none⟩ = false := frozen_of_row w b j cs T h
theorem Bx.new (w : World) (T : TypeId) (cs : Array Value) : Bx (w.alloc (.cells cs T)) w.heap.size T cs := heap_alloc_new w _
theorem Bx.set {w : World} {b : Nat} {T : TypeId} {cs : Array Value} (h : Bx w b T cs) (j : Nat) (v : Value) : Bx (w.setCell ⟨b, j, none⟩ v) b T (cs.setIfInBounds j v) := heap_setCell_same w b j cs T v h
theorem Kp.setNew {w w' : World} (h : Kp w w') {b j : Nat} (hb : w.heap.size ≤ b) (v : Value) : Kp w (w'.setCell ⟨b, j, none⟩ v) := Below.setCell h hb v
theorem Bx.setCells {b : Nat} {T : TypeId} : ∀ (vs : List Value) (o : Nat) (w : World) (cs : Array Value), Bx w b T cs → o + vs.length ≤ cs.size →
    ∃ cs' : Array Value, Bx (w.setCells b o vs) b T cs' ∧ cs'.size = cs.size ∧ ∀ k, cs'[k]? = if o ≤ k ∧ k < o + vs.length then vs[k - o]? else cs[k]?
  | [], o, w, cs, h, _ => ⟨cs, h, rfl, fun k => by rw [if_neg (by simp only [List.length_nil]; omega)]⟩
  | v :: vs, o, w, cs, h, hl => by
    simp only [List.length_cons] at hl
    obtain ⟨cs', h2, h3, h4⟩ := Bx.setCells vs (o + 1) (w.setCell ⟨b, o, none⟩ v) (cs.setIfInBounds o v) (h.set o v) (by rw [Array.size_setIfInBounds]; omega)
    refine ⟨cs', h2, by rw [h3, Array.size_setIfInBounds], fun k => ?_⟩
    rw [h4 k]
    simp only [List.length_cons]
    by_cases h5 : o + 1 ≤ k ∧ k < o + 1 + vs.length
    · rw [if_pos h5, if_pos ⟨by omega, by omega⟩, show k - o = (k - (o + 1)) + 1 by omega, List.getElem?_cons_succ]
    · rw [if_neg h5, Array.getElem?_setIfInBounds]
      by_cases h6 : o = k
      · subst h6
        rw [if_pos rfl, if_pos (by omega), if_pos ⟨by omega, by omega⟩, Nat.sub_self]
        rfl
      · rw [if_neg h6, if_neg (by omega)]
theorem Bx.fill {w : World} {b : Nat} {T : TypeId} {cs : Array Value} (h : Bx w b T cs) (vs : Array Value) (hl : vs.size = cs.size) : Bx (w.setCells b 0 vs.toList) b T vs := by
  obtain ⟨cs', h1, h2, h3⟩ := Bx.setCells vs.toList 0 w cs h (by rw [Array.length_toList]; omega)
  have e : cs' = vs := by
    refine Array.ext_getElem? fun k => ?_
    rw [h3 k, Array.length_toList]
    split
    · rw [Nat.sub_zero, Array.getElem?_toList]
    · next hk => rw [Array.getElem?_eq_none (by omega), Array.getElem?_eq_none (by omega)]
  exact e ▸ h1
theorem Bx.there {w : World} {b : Nat} {T : TypeId} {cs : Array Value} (h : Bx w b T cs) : w.there b 0 cs.size := fun j hj => by
  rw [Nat.zero_add, h.cell j]
  exact ⟨by simp [hj], h.frozen j⟩
theorem Kp.setCells {w w' : World} (h : Kp w w') {b : Nat} (hb : w.heap.size ≤ b) : ∀ (vs : List Value) (o : Nat), Kp w (w'.setCells b o vs) := by
  intro vs
  induction vs generalizing w' with
  | nil => intro o; exact h
  | cons v vs ih => intro o; exact ih (h.setNew hb v) (o + 1)
structure NX (e ei : TypeId) (w : World) (B : Nat) (v : Value) (t : List Nod) (P U H : Nat → Value) (S : Nat → Prop) : Prop where
  mk ::
  row : ∃ us : List Value, w.ownsRow B e 5 v t.length us ∧ (∀ z ∈ us, z.oneCell' = true) ∧ ∀ i, i < t.length → ∀ f, f < 5 → us[i * 5 + f]? = (nodC (ats t i) (P i) (U i) (H i))[f]?
  ins : ∀ i, i < t.length → NIn w (ats t i) (P i) (U i) (H i)
  apv : ∀ i, i < t.length → Apart v (P i) ∧ Apart v (U i) ∧ Apart v (H i)
  own : ∀ i, i < t.length → S i → OI ei w B (U i) (ats t i).un
  sep : ∀ i, i < t.length → S i → ∀ g, (U i).ownBlock = some g → v.ownBlock ≠ some g ∧ ∀ j, j < t.length → Apart (U i) (P j) ∧ Apart (U i) (H j) ∧ (i ≠ j → Apart (U i) (U j))
  inj : ∀ i j, i < t.length → j < t.length → S i → S j → ∀ g, (U i).ownBlock = some g → (U j).ownBlock = some g → i = j
theorem grown_set9 (w : World) (g o : Nat) : ∀ (vs : List Value) (o : Nat), w.grownBy (w.setCells g o vs) (some g) := by
  intro vs
  induction vs generalizing w with
  | nil => exact fun o => ⟨rfl, rfl, rfl, Nat.le_refl _, fun _ _ _ => rfl⟩
  | cons v vs ih =>
    intro o
    have g2 := ih (w.setCell ⟨g, o, none⟩ v) (o + 1)
    refine ⟨g2.os, g2.tape, g2.output, by show w.heap.size ≤ ((w.setCell ⟨g, o, none⟩ v).setCells g (o + 1) vs).heap.size; have := g2.size; simpa using this, fun k hk hn => (g2.block k (by simpa using hk) hn).trans ?_⟩
    exact Below.heap_setCell w _ _ k (fun e => hn (by rw [e]))
def Free (Z : Nat → Prop) (v : Value) : Prop := ∀ x n c, v = .slice (some x) n c → 0 < n → ¬ Z x.block
theorem Free.mono {Z Z' : Nat → Prop} {v : Value} (h : Free Z v) (hz : ∀ k, Z' k → Z k) : Free Z' v := fun x n c e h0 hk => h x n c e h0 (hz _ hk)
theorem Rd.inside {w : World} {v : Value} {l : List UInt8} (h : Rd w v l) : ∀ x n c, v = .slice (some x) n c → 0 < n → x.block < w.heap.size := fun x n c e h0 => by
  obtain ⟨a', c', e', h1, h2, h3, h4⟩ := h
  rw [e] at e'
  simp only [Value.slice.injEq] at e'
  obtain ⟨rfl, rfl, rfl⟩ := e'
  have hb := World.block_lt_of_cell? w _ (h4 x rfl 0 h0)
  rwa [add_block9] at hb
theorem Rd.stepF {A B : World} {Y : Nat → Prop} {v : Value} {l : List UInt8} (h : Rd A v l) (hs : Step Y A B) (hf : Free Y v) : Rd B v l := by
  obtain ⟨a, c, e, h1, h2, h3, h4⟩ := h
  subst e
  refine ⟨a, c, rfl, h1, h2, h3, fun x hx i hi => ?_⟩
  have hc := h4 x hx i hi
  subst hx
  exact hs.cell hc (by rw [add_block9]; exact hf x _ c rfl (by omega))
def Tells (e : Ending) (p : Prop) : Prop := ∃ b, e = .returned (.bool b) ∧ (b = true ↔ p)
theorem Tells.no {p : Prop} (h : ¬ p) : Tells (.returned (.bool false)) p := ⟨false, rfl, fun h => (by cases h), fun e => absurd e h⟩
theorem Tells.yes {p : Prop} (h : p) : Tells (.returned (.bool true)) p := ⟨true, rfl, fun _ => h, fun _ => rfl⟩
theorem results_cell_tmp {P : Program} {fn : Func} {p q : Tmp} {ty : TypeId} (h : fn.results = #[.cell p ty, .tmp q]) (tmps : Array Value) (w : World) (g : Nat) (t : TypeId) (cs : Array Value) (fr : Nat × Nat) (d : TypeDesc) (v : Value)
    (hp : tmps.getD p undef = .pointer (some ⟨g, 0, none⟩)) (hg : w.heap[g]? = some (.cells cs t fr))
    (hu : P.underlying ty = some d) (hd : (match d with | .struct _ | .array _ _ => true | _ => false) = true) (hi : (P.info? ty).map (·.size) = some cs.size) (hq : tmps.getD q undef = v) :
    (results fn tmps).run P w = .ok (.tuple #[.agg cs, v]) w := by
  have hp' : tmps[p]?.getD undef = .pointer (some ⟨g, 0, none⟩) := by simpa using hp
  have hq' : tmps[q]?.getD undef = v := by simpa using hq
  simp [results, h, hp', hq', asAddr, run_loadVar_row w g t ty cs fr d hg hu hd hi]
theorem wpList_store_row {P : Program} {ops : Array Oper} {rest : List Oper} {o : Oper} {a : Act} {w : World} {Q : Exit → Act → World → Prop} (hgd : o.guard = none) (hd : o.dst = none) (ty : TypeId) (x y : Operand) (ho : o.op = .store ty x y)
    (g : Nat) (T : TypeId) (cs vs : Array Value) (hx : a.eval x = .pointer (some ⟨g, 0, none⟩)) (hy : a.eval y = .agg vs) (hb : Bx w g T cs) (hl : vs.size = cs.size) (hone : ∀ z ∈ vs.toList, z.oneCell' = true) (hi : (P.info? ty).map (·.size) = some vs.size)
    (h : ∀ w', Bx w' g T vs → w.grownBy w' (some g) → (∀ w0, Kp w0 w → w0.heap.size ≤ g → Kp w0 w') → wpList P ops Q rest a w') : wpList P ops Q (o :: rest) a w := by
  refine wpList_store_mid hgd ty x y ho g 0 vs hx hy (by rw [hl]; exact hb.there) hi (all_oneCell_toArray (cs := vs.toList) hone) ?_
  rw [hd]
  exact h _ (hb.fill vs hl) (grown_set9 w g 0 vs.toList 0) fun w0 k hg => k.setCells hg vs.toList 0
set_option maxHeartbeats 1000000 in
theorem mathWidth_same (n : Int) (w : World) : Calls Tryz.prog 21 #[.int .i64 n] w fun e w' => e = .returned (.tuple #[.int .i64 (widV n), .int .i64 (widE n)]) ∧ w = w' := by
  have HT := Lib.hid (isSize_any n w)
  by_cases ht : isTB n = true
  · have h1 := isTB_bounds ht
    have h2 : IntKind.i64.wrap (2 * n) = 2 * n := IntWalk.i64_in _ (by omega)
    have h3 : IntKind.i64.wrap (2 * n - 1) = 2 * n - 1 := IntWalk.i64_in _ (by omega)
    rw [show widV n = 2 * n - 1 from if_pos ht, show widE n = 0 from if_pos ht]
    rw [ht] at HT
    clear ht h1
    go_enter Tryz.func21, Tryz.ntmps21
    go_wp2_with fail
    refine HT.out.mono ?_; rintro _ _ ⟨rfl, rfl⟩
    go_wp2_with fail
    go_ret2
    exact ⟨rfl, rfl⟩
  · have ht2 : isTB n = false := by rw [Bool.eq_false_iff]; exact ht
    rw [show widV n = 0 from if_neg ht, show widE n = 1 from if_neg ht]
    rw [ht2] at HT
    clear ht ht2
    go_enter Tryz.func21, Tryz.ntmps21
    go_wp2_with fail
    refine HT.out.mono ?_; rintro _ _ ⟨rfl, rfl⟩
    go_wp2_with fail
    go_ret2
    exact ⟨rfl, rfl⟩
theorem p2_big {k : Nat} (h : k ≤ 10) : ((2 ^ k : Nat) : Int) ≤ 1024 ∧ 1 ≤ ((2 ^ k : Nat) : Int) := by have := p2_le h; have := p2_pos k; omega
theorem shl_one (k : Nat) (h : k ≤ 10) : IntKind.i64.wrap (1 * 2 ^ k) = ((2 ^ k : Nat) : Int) := by
  have h1 := p2_big h
  have e : (1 : Int) * 2 ^ k = ((2 ^ k : Nat) : Int) := by push_cast; omega
  rw [e]
  exact IntWalk.i64_in _ (by omega)
theorem shl_pow (k : Nat) (h : k ≤ 10) : IntKind.i64.wrap (2 ^ k) = ((2 ^ k : Nat) : Int) := by
  have := shl_one k h
  rwa [Int.one_mul] at this
theorem shl_neg (k : Nat) (h : k ≤ 10) : IntKind.i64.wrap (-1 * 2 ^ k) = -((2 ^ k : Nat) : Int) := by
  have h1 := p2_big h
  have e : (-1 : Int) * 2 ^ k = -((2 ^ k : Nat) : Int) := by push_cast; omega
  rw [e]
  exact IntWalk.i64_in _ (by omega)
set_option maxHeartbeats 1000000 in
theorem child_yes (j q : Nat) (s : Int) (w : World) (hj : j + 1 ≤ 10) (hq : q < 2 ^ (10 - (j + 1))) (hs : s = 1 ∨ s = -1) (hT : Tab w) :
    Calls Tryz.prog 52 #[.int .i64 ((nd (j + 1) q : Nat) : Int), .int .i64 s] w fun e w' => e = .returned (.tuple #[.int .i64 (((nd (j + 1) q : Nat) : Int) + s * ((2 ^ j : Nat) : Int)), .int .i64 0]) ∧ w = w' := by
  have HL := Lib.hid (mathLevel_same ((nd (j + 1) q : Nat) : Int) w hT)
  rw [levV_nd hj hq] at HL
  have hx := (small_iff ((nd (j + 1) q : Nat) : Int)).2 ⟨j + 1, q, rfl, hj, hq⟩
  obtain ⟨b1, b2⟩ := p2_big (k := j) (by omega)
  have e1 : IntKind.i64.wrap (((j + 1 : Nat) : Int) - 1) = (j : Int) := by rw [IntWalk.i64_in _ (by omega)]; omega
  have e0 : ¬ ((j + 1 : Nat) : Int) = 0 := by omega
  have e0' : (((j + 1 : Nat) : Int) == 0) = false := beq_eq_false_iff_ne.2 e0
  have e3 : IntKind.i64.wrap (s * 2 ^ j) = s * ((2 ^ j : Nat) : Int) := by
    rcases hs with rfl | rfl
    · rw [shl_one j (by omega)]; omega
    · rw [shl_neg j (by omega)]; omega
  have e4 : IntKind.i64.wrap (((nd (j + 1) q : Nat) : Int) + s * ((2 ^ j : Nat) : Int)) = ((nd (j + 1) q : Nat) : Int) + s * ((2 ^ j : Nat) : Int) := IntWalk.i64_in _ (by rcases hs with rfl | rfl <;> omega)
  have e5 : ((j : Int)).toNat = j := Int.toNat_natCast j
  have e6 : (j : Int) ≤ 64 := by omega
  generalize s * ((2 ^ j : Nat) : Int) = M at *
  generalize ((j + 1 : Nat) : Int) = J1 at *
  generalize ((nd (j + 1) q : Nat) : Int) = X at *
  clear hx hq hj hT b1 b2 hs
  go_enter Tryz.func52, Tryz.ntmps52
  go_wp2_with fail
  refine HL.out.mono ?_; rintro _ _ ⟨rfl, rfl⟩
  go_wp2_with fail
  go_ret2
  exact ⟨rfl, rfl⟩
set_option maxHeartbeats 1000000 in
theorem child_no (x s : Int) (w : World) (h : levV x = 0) (hT : Tab w) :
    Calls Tryz.prog 52 #[.int .i64 x, .int .i64 s] w fun e w' => e = .returned (.tuple #[.int .i64 0, .int .i64 1]) ∧ w = w' := by
  have HL := Lib.hid (mathLevel_same x w hT)
  rw [h] at HL
  clear h hT
  go_enter Tryz.func52, Tryz.ntmps52
  go_wp2_with fail
  refine HL.out.mono ?_; rintro _ _ ⟨rfl, rfl⟩
  go_wp2_with fail
  go_ret2
  exact ⟨rfl, rfl⟩
theorem level_cases (x : Int) : levV x = 0 ∨ ∃ j q, x = ((nd (j + 1) q : Nat) : Int) ∧ j + 1 ≤ 10 ∧ q < 2 ^ (10 - (j + 1)) := by
  by_cases h : okN x
  · obtain ⟨j, q, rfl, hj, hq⟩ := (small_iff x).1 h
    cases j with
    | zero => exact .inl (levV_nd hj hq)
    | succ j => exact .inr ⟨j, q, rfl, hj, hq⟩
  · exact .inl (levV_no h)
set_option maxHeartbeats 1000000 in
theorem mathLeft_same (x : Int) (w : World) (hT : Tab w) : Calls Tryz.prog 39 #[.int .i64 x] w fun e w' => e = .returned (.tuple #[.int .i64 (lefV x), .int .i64 (chE x)]) ∧ w = w' := by
  have H : Hid (Calls Tryz.prog 52 #[.int .i64 x, .int .i64 (-1)] w fun e w' => e = .returned (.tuple #[.int .i64 (lefV x), .int .i64 (chE x)]) ∧ w = w') := by
    rcases level_cases x with h | ⟨j, q, rfl, hj, hq⟩
    · have h1 : lefV x = 0 := if_pos h
      have h2 : chE x = 1 := if_pos h
      rw [h1, h2]
      exact child_no x (-1) w h hT
    · obtain ⟨h1, h2, _⟩ := ch_yes hj hq
      obtain ⟨h3, h4⟩ := nd_left j q
      have := child_yes j q (-1) w hj hq (.inr rfl) hT
      rw [h1, h2]
      rwa [show ((nd (j + 1) q : Nat) : Int) + -1 * ((2 ^ j : Nat) : Int) = ((nd j (2 * q) : Nat) : Int) by omega] at this
  clear hT
  go_enter Tryz.func39, Tryz.ntmps39
  go_wp2_with fail
  refine H.out.mono ?_; rintro _ _ ⟨rfl, rfl⟩
  go_wp2_with fail
  go_ret2
  exact ⟨rfl, rfl⟩
set_option maxHeartbeats 1000000 in
theorem parent_any (j q : Nat) (w : World) (hj : j < 10) (hq : q < 2 ^ (10 - j)) (hT : Tab w) :
    Calls Tryz.prog 50 #[.int .i64 ((nd j q : Nat) : Int)] w fun e w' => e = .returned (.int .i64 ((nd (j + 1) (q / 2) : Nat) : Int)) ∧ w = w' := by
  have HL := Lib.hid (mathLevel_same ((nd j q : Nat) : Int) w hT)
  rw [levV_nd (by omega) hq] at HL
  have hx := (small_iff ((nd j q : Nat) : Int)).2 ⟨j, q, rfl, by omega, hq⟩
  obtain ⟨b1, b2⟩ := p2_big (k := j) (by omega)
  have e1 := shl_pow j (by omega)
  have e2 : IntKind.i64.wrap (2 * ((2 ^ j : Nat) : Int)) = ((2 ^ (j + 1) : Nat) : Int) := by rw [p2_succ, IntWalk.i64_in _ (by omega)]; omega
  have e3 := bits_and_i64_nat8 (nd j q) (2 ^ (j + 1)) (by omega) (by rw [p2_succ]; omega)
  rw [side_bit] at e3
  have e5 : ((j : Int)).toNat = j := Int.toNat_natCast j
  have e6 : (j : Int) ≤ 64 := by omega
  by_cases h : q % 2 = 0
  · have h1 := up_left j q h
    have e4 : IntKind.i64.wrap (((nd j q : Nat) : Int) + ((2 ^ j : Nat) : Int)) = ((nd (j + 1) (q / 2) : Nat) : Int) := by rw [IntWalk.i64_in _ (by omega)]; omega
    rw [if_pos h] at e3
    generalize ((nd (j + 1) (q / 2) : Nat) : Int) = Y at *
    generalize ((2 ^ (j + 1) : Nat) : Int) = B at *
    generalize ((nd j q : Nat) : Int) = X at *
    generalize ((2 ^ j : Nat) : Int) = A at *
    clear hx hq hj hT b1 b2 h h1
    go_enter Tryz.func50, Tryz.ntmps50
    go_wp2_with fail
    refine HL.out.mono ?_; rintro _ _ ⟨rfl, rfl⟩
    go_wp2_with fail
    go_ret
    exact ⟨rfl, rfl⟩
  · obtain ⟨h1, h2⟩ := up_right j q h
    have e4 : IntKind.i64.wrap (((nd j q : Nat) : Int) - ((2 ^ j : Nat) : Int)) = ((nd (j + 1) (q / 2) : Nat) : Int) := by rw [IntWalk.i64_in _ (by omega)]; omega
    rw [if_neg h] at e3
    have e7 : (((2 ^ (j + 1) : Nat) : Int) == 0) = false := beq_eq_false_iff_ne.2 (by have := p2_pos (j + 1); omega)
    generalize ((nd (j + 1) (q / 2) : Nat) : Int) = Y at *
    generalize ((2 ^ (j + 1) : Nat) : Int) = B at *
    generalize ((nd j q : Nat) : Int) = X at *
    generalize ((2 ^ j : Nat) : Int) = A at *
    clear hx hq hj hT b1 b2 h h1 h2
    go_enter Tryz.func50, Tryz.ntmps50
    go_wp2_with fail
    refine HL.out.mono ?_; rintro _ _ ⟨rfl, rfl⟩
    go_wp2_with fail
    go_ret
    exact ⟨rfl, rfl⟩
set_option maxHeartbeats 1000000 in
theorem root_any (n : Int) (w : World) (hn : -9223372036854775807 ≤ n ∧ n ≤ 9223372036854775807) : Calls Tryz.prog 61 #[.int .i64 n] w fun e w' => e = .returned (.int .i64 (n - 1)) ∧ w = w' := by
  have e1 : IntKind.i64.wrap (n - 1) = n - 1 := IntWalk.i64_in _ (by omega)
  go_enter Tryz.func61, Tryz.ntmps61
  go_wp2_with fail
  go_ret
  exact ⟨rfl, rfl⟩
set_option maxHeartbeats 1000000 in
theorem hasParent_any (x n : Int) (w : World) : Calls Tryz.prog 49 #[.int .i64 x, .int .i64 n] w fun e w' => e = .returned (.int .i64 (paE x n)) ∧ w = w' := by
  have HN := Lib.hid (isNode_any x n w)
  by_cases h : inB x n = true
  · rw [h] at HN
    have hb : 1 ≤ n ∧ n ≤ 1024 := isTB_bounds (by unfold inB at h; simp at h; exact h.1)
    have HR := Lib.hid (root_any n w (by omega))
    by_cases hr : x = n - 1
    · rw [show paE x n = 11 by unfold paE; rw [if_pos h, if_pos hr]]
      have hr2 : (x == n - 1) = true := by rw [hr]; exact beq_self_eq_true _
      clear h hb hr
      go_enter Tryz.func49, Tryz.ntmps49
      go_wp2_with fail
      refine HN.out.mono ?_; rintro _ _ ⟨rfl, rfl⟩
      go_wp2_with fail
      refine HR.out.mono ?_; rintro _ _ ⟨rfl, rfl⟩
      go_wp2_with fail
      go_ret
      exact ⟨rfl, rfl⟩
    · rw [show paE x n = 0 by unfold paE; rw [if_pos h, if_neg hr]]
      have hr2 : (x == n - 1) = false := beq_eq_false_iff_ne.2 hr
      clear h hb hr
      go_enter Tryz.func49, Tryz.ntmps49
      go_wp2_with fail
      refine HN.out.mono ?_; rintro _ _ ⟨rfl, rfl⟩
      go_wp2_with fail
      refine HR.out.mono ?_; rintro _ _ ⟨rfl, rfl⟩
      go_wp2_with fail
      go_ret
      exact ⟨rfl, rfl⟩
  · rw [show paE x n = 1 from if_neg h]
    have h2 : inB x n = false := by rw [Bool.eq_false_iff]; exact h
    rw [h2] at HN
    clear h h2
    go_enter Tryz.func49, Tryz.ntmps49
    go_wp2_with fail
    refine HN.out.mono ?_; rintro _ _ ⟨rfl, rfl⟩
    go_wp2_with fail
    go_ret
    exact ⟨rfl, rfl⟩
theorem pa_cases (x n : Int) : (paE x n ≠ 0 ∧ paV x n = 0 ∧ siV x n = 0) ∨ ∃ K j q, K ≤ 10 ∧ j < K ∧ q < 2 ^ (K - j) ∧ x = ((nd j q : Nat) : Int) ∧ n = ((2 ^ K : Nat) : Int) := by
  by_cases h : inB x n = true
  · obtain ⟨K, j, q, hK, rfl, rfl, hj, hq⟩ := (inB_iff x n).1 h
    by_cases hjK : j < K
    · exact .inr ⟨K, j, q, hK, hjK, hq, rfl, rfl⟩
    · obtain rfl : j = K := by omega
      obtain rfl : q = 0 := by simpa using hq
      obtain ⟨e1, e2, e3⟩ := pa_root hK
      exact .inl ⟨by rw [e1]; decide, e2, e3⟩
  · obtain ⟨e1, e2, e3⟩ := pa_no h
    exact .inl ⟨by rw [e1]; decide, e2, e3⟩
theorem q_big {K j q : Nat} (hK : K ≤ 10) (hq : q < 2 ^ (K - j)) : q < 2 ^ (10 - j) := Nat.lt_of_lt_of_le hq (Nat.pow_le_pow_right (by omega) (by omega))
set_option maxHeartbeats 1000000 in
theorem mathParent_same (x n : Int) (w : World) (hT : Tab w) : Calls Tryz.prog 37 #[.int .i64 x, .int .i64 n] w fun e w' => e = .returned (.tuple #[.int .i64 (paV x n), .int .i64 (paE x n)]) ∧ w = w' := by
  have HP := Lib.hid (hasParent_any x n w)
  rcases pa_cases x n with ⟨h1, h2, _⟩ | ⟨K, j, q, hK, hj, hq, rfl, rfl⟩
  · rw [h2]
    have h3 : (paE x n == 0) = false := beq_eq_false_iff_ne.2 h1
    generalize paE x n = E at *
    clear h2 hT
    go_enter Tryz.func37, Tryz.ntmps37
    go_wp2_with fail
    refine HP.out.mono ?_; rintro _ _ ⟨rfl, rfl⟩
    go_wp2_with fail
    go_ret2
    exact ⟨rfl, rfl⟩
  · obtain ⟨e1, e2, _⟩ := pa_yes hK hj hq
    rw [e1] at HP
    rw [e1, e2]
    have HQ := Lib.hid (parent_any j q w (by omega) (q_big hK hq) hT)
    generalize ((2 ^ K : Nat) : Int) = N at *
    generalize ((nd j q : Nat) : Int) = X at *
    clear e1 e2 hT hq hj
    go_enter Tryz.func37, Tryz.ntmps37
    go_wp2_with fail
    refine HP.out.mono ?_; rintro _ _ ⟨rfl, rfl⟩
    go_wp2_with fail
    refine HQ.out.mono ?_; rintro _ _ ⟨rfl, rfl⟩
    go_wp2_with fail
    go_ret2
    exact ⟨rfl, rfl⟩
end Go.Proofs.YtigpgcjbpoaclaaGreatDoor

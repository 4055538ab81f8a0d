/- pyxref05.lock: a block, locked by the words. -/
import Derived.Test.YtdcbljfacmidjaaGreatAesA
import Derived.RegionTactic
import Derived.BigRegion
set_option linter.unusedVariables false
set_option linter.unusedSimpArgs false
namespace Go.Proofs.YtdcbljfacmidjaaGreat
open Go.RowKit

theorem tab_at (n : Nat) (f : Nat → UInt8) (i : Nat) (h : i < n) : (tab n f)[i]? = some (f i) := by simp [tab, h]
theorem mix_part (A B : List UInt8) (i j : Nat) (h : A.length = B.length) (hi : i ≤ A.length) (hj : i ≤ j) : (mixB A B i).getD j 0 = A.getD j 0 := by
  unfold mixB
  have hl : (B.take i).length = i := by simp; omega
  rw [List.getD_eq_getElem?_getD, List.getElem?_append_right (by omega), hl, List.getElem?_drop, List.getD_eq_getElem?_getD, show i + (j - i) = j by omega]
/-- One byte of what comes to stand in a row told by f. -/
theorem mix_tab (A : List UInt8) (n : Nat) (f : Nat → UInt8) (i : Nat) (h : A.length = n) (hi : i < n) : (mixB A (tab n f) i).set i (f i) = mixB A (tab n f) (i + 1) :=
  mixB_set _ _ i (by rw [h, tab_length]) (by omega) _ (tab_at n f i hi)
theorem mix_len (A : List UInt8) (n : Nat) (f : Nat → UInt8) (i : Nat) (h : A.length = n) (hi : i ≤ n) : (mixB A (tab n f) i).length = n := by
  rw [mixB_length _ _ i (by rw [h, tab_length]) (by omega), h]
theorem mix_end (A : List UInt8) (n : Nat) (f : Nat → UInt8) (h : A.length = n) : mixB A (tab n f) n = tab n f := by
  have := mixB_all A (tab n f) (by rw [h, tab_length])
  rwa [tab_length] at this
theorem mix_none (A B : List UInt8) : mixB A B 0 = A := by simp [mixB]
theorem ow_put5 {e : TypeId} {w : World} {B g n c : Nat} {l : List UInt8} (h : Ow e w B (.slice (some ⟨g, 0, none⟩) n c) l) (i : Nat) (hi : i < l.length) (x : UInt8) :
    w.cell? ⟨g, i, none⟩ = some (.int .u8 ((l.getD i 0).toNat : Int)) ∧ w.frozen? ⟨g, i, none⟩ = false ∧ Ow e (w.setCell ⟨g, i, none⟩ (.int .u8 (x.toNat : Int))) B (.slice (some ⟨g, 0, none⟩) n c) (l.set i x) := by
  have hn : n = l.length := by
    rcases h.shape with ⟨h0, h1⟩ | ⟨g', c', h0, _⟩
    · cases h0
    · simp only [Value.slice.injEq] at h0; exact h0.2.1
  subst hn
  refine ⟨?_, h.frozenAt i, ?_⟩
  · rw [World.ownsRow.cellAt h i (by omega), byteCells_get l i hi, List.getD_eq_getElem?_getD, List.getElem?_eq_getElem hi]
    rfl
  · have h2 := (World.ownsRow.stored h i (.int .u8 (x.toNat : Int))).1
    unfold Ow
    rw [List.length_set]
    have e : Lib.byteCells (l.set i x) = (Lib.byteCells l).set i (.int .u8 (x.toNat : Int)) := by simp [Lib.byteCells, List.map_set]
    rw [e]
    simpa using h2
theorem Ow.aside {e : TypeId} {w : World} {B g n c k : Nat} {l : List UInt8} (h : Ow e w B (.slice (some ⟨g, 0, none⟩) n c) l) (hk : k ≠ g) (i : Nat) (v : Value) : Ow e (w.setCell ⟨k, i, none⟩ v) B (.slice (some ⟨g, 0, none⟩) n c) l := by
  refine ⟨h.1, ?_⟩
  rcases h.2 with hn | ⟨g', cap, cur, e', hb, hg, rest⟩
  · exact .inl hn
  · have e2 := e'
    simp only [Value.slice.injEq, Option.some.injEq, Addr.mk.injEq] at e'
    obtain ⟨⟨rfl, _⟩, _⟩ := e'
    exact .inr ⟨g, cap, cur, e2, hb, (Below.heap_setCell w ⟨k, i, none⟩ v g (fun e3 => hk e3.symm)).trans hg, rest⟩
theorem By.ow5 {e : TypeId} {w : World} {B g n : Nat} {l : List UInt8} (h : By e w g l) (hB : B ≤ g) (hn : n = l.length) (hm : n ≤ 1000000) : Ow e w B (.slice (some ⟨g, 0, none⟩) n n) l := by
  subst hn
  exact ⟨by rw [byteCells_length]; simp, .inr ⟨g, l.length, _, rfl, hB, h, Nat.le_refl _, by unfold maxLen; omega, by simp [Lib.byteCells], by rw [Nat.mul_one, List.toList_toArray]; exact List.take_of_length_le (by rw [byteCells_length]; exact Nat.le_refl _)⟩⟩
theorem col_fact (c r k m j : Nat) (x : Int) (hx : x = (k : Int)) (hc : c < 4) (hr : r < 4) (hk : k < 4) (hm : (r + k) % 4 = m) (hj : 4 * c + m = j) :
    IntKind.i64.wrap ((r : Int) + x) = (r : Int) + x ∧ ((r : Int) + x).tmod 4 = (m : Int) ∧ ((r : Int) + x) % 4 = (m : Int) ∧ 4 * (c : Int) + (m : Int) = (j : Int) ∧ IntKind.i64.wrap (j : Int) = j ∧ (j : Int) < 16 ∧ j < 16 := by
  have hm4 : m < 4 := by omega
  refine ⟨IntWalk.i64_in _ (by omega), ?_, by omega, by omega, IntWalk.i64_in _ (by omega), by omega, by omega⟩
  rw [Int.tmod_eq_emod_of_nonneg (by omega)]
  omega
theorem col_first (c r i : Nat) (hc : c < 4) (hr : r < 4) (hi : 4 * c + r = i) :
    IntKind.i64.wrap (4 * (c : Int)) = 4 * (c : Int) ∧ 4 * (c : Int) + (r : Int) = (i : Int) ∧ IntKind.i64.wrap (i : Int) = i ∧ (i : Int) < 16 ∧ i < 16 :=
  ⟨IntWalk.i64_in _ (by omega), by omega, IntWalk.i64_in _ (by omega), by omega, by omega⟩
theorem from_at (c r : Nat) (hc : c < 4) (hr : r < 4) : 4 * ((c + r) % 4) + r = from' (4 * c + r) := by
  unfold from'
  rw [show (4 * c + r) / 4 = c by omega, show (4 * c + r) % 4 = r by omega]

set_option maxRecDepth 100000 in
set_option maxHeartbeats 4000000 in
theorem refLock_any (vw vb : Value) (K b : List UInt8) (bx : Nat) (w : World) (hw : Rd w vw K) (hK : K.length = 176) (hX : By 5 w bx boxRow) (hb : Rd w vb b) (hb16 : b.length = 16) :
    Calls Tryz.prog 54 #[vw, .slice (some ⟨bx, 0, none⟩) 256 256, vb] w fun e w' => (∃ r, e = .returned r ∧ Ow 5 w' w.heap.size r (lockL K b)) ∧ Kp w w' := by
  have U := u8
  obtain ⟨aw, cw, rfl, h1, h2⟩ := hw.shape
  obtain ⟨ab, cb, rfl, h3, h4⟩ := hb.shape
  rw [hK] at hw h1 ⊢
  rw [hb16] at hb h3 ⊢
  obtain ⟨gw, ow', rfl, hgw, hcw⟩ := hw.at 0 (by omega)
  obtain ⟨gb, ob, rfl, hgb, hcb⟩ := hb.at 0 (by omega)
  have HW := Lib.hid hcw
  have HB := Lib.hid hcb
  have HX := Lib.hid hX
  have hbx := hX.lt
  clear hcw hcb hX hw hb
  have HR : Hid ((List.replicate 16 (0 : UInt8)).length = 16) := List.length_replicate
  have HL : Hid (lockTo K b 10 = lockL K b) := rfl
  have HL0 : Hid (tab 16 (fun i => b.getD i 0 ^^^ K.getD (16 * 0 + i) 0) = lockTo K b 0) := rfl
  go_enter Tryz.func54, Tryz.ntmps54
  go_wp2_with (at_make; refine wpList_make_fresh (z := .int .u8 0) (b := 1) Tryz.underlying22 Tryz.info5 rfl (by decide) rfl _ _ rfl 16 rfl rfl (by omega) ?_; intro w1 hw1; have hB0 : By 5 w1 w.heap.size (List.replicate 16 0) := (by rw [hw1]; exact By.fresh _ _ _); have k0 : Kp w w1 := (by rw [hw1]; exact (Kp.refl _).alloc _); clear hw1)
  have hB0' : By 5 w1 w.heap.size (mixB (List.replicate 16 0) (tab 16 (fun i => b.getD i 0 ^^^ K.getD (16 * 0 + i) 0)) 0) := by rw [mix_none]; exact hB0
  clear hB0
  go_loopw [8] (fun p wr => ∃ i : Nat, i ≤ 16 ∧ p = .int .i64 i ∧ By 5 wr w.heap.size (mixB (List.replicate 16 0) (tab 16 (fun i => b.getD i 0 ^^^ K.getD (16 * 0 + i) 0)) i) ∧ Kp w wr) (fun p _ => 16 - (intOf p).toNat)
  case atStart => exact ⟨0, by omega, rfl, hB0', k0⟩
  case round =>
    clear hB0' k0
    obtain ⟨i, hi, rfl, hB, hk⟩ := hrel
    by_cases hlt : i < 16
    · have q1 : (i : Int) < 16 := by omega
      have q2 : (i : Int) < 176 := by omega
      have hn := mix_tab (List.replicate 16 0) 16 (fun i => b.getD i 0 ^^^ K.getD (16 * 0 + i) 0) i HR.out hlt
      have c0 := hB.cell i (by rw [mix_len _ _ _ _ HR.out hi]; exact hlt)
      have f0 := hB.frozen i
      have c1 := hk.cell (HB.out i hlt)
      have c2 := hk.cell (HW.out i (by omega))
      have hx := b8_xor (b.getD i 0) (K.getD (16 * 0 + i) 0)
      rw [show 16 * 0 + i = i by omega] at hn hx
      generalize hM : mixB (List.replicate 16 0) (tab 16 (fun i => b.getD i 0 ^^^ K.getD (16 * 0 + i) 0)) = M at *
      generalize b.getD i 0 = X1 at *
      generalize K.getD i 0 = X2 at *
      generalize X1 ^^^ X2 = Y at *
      have HN := Lib.hid hn
      clear hn hM
      go_wp2_with fail
      go_region
      all_goals
        go_wp2_with fail
        go_roundw
        case rel => exact ⟨i + 1, by omega, by go_num, hB.set i _ HN.out, (Below.setCell hk (p := ⟨w.heap.size, i, none⟩) (Nat.le_refl _) _).drew⟩
        case measure => simp [intOf]; omega
    · obtain rfl : i = 16 := by omega
      rw [mix_end _ _ _ HR.out, HL0.out] at hB
      clear hlt hi
      go_wp2_with fail
      rw [show ((16 : Nat) : Int) = (16 : Int) from rfl]
      go_loopw [9] (fun p wr => ∃ n : Nat, 1 ≤ n ∧ n ≤ 11 ∧ p = .int .i64 n ∧ By 5 wr w.heap.size (lockTo K b (n - 1)) ∧ Kp w wr) (fun p _ => 11 - (intOf p).toNat)
      case atStart => exact ⟨1, by omega, by omega, rfl, hB, hk⟩
      case round =>
        clear hB hk
        obtain ⟨n, h1n, hn, rfl, hB, hk⟩ := hrel
        by_cases hlt : n ≤ 10
        · have q1 : (n : Int) ≤ 10 := by omega
          have hS16 := lockTo_length K b (n - 1)
          have hst : lockTo K b n = addS (if n < 10 then mixS (subS (lockTo K b (n - 1))) else subS (lockTo K b (n - 1))) K n := by
            obtain ⟨m, rfl⟩ : ∃ m, n = m + 1 := ⟨n - 1, by omega⟩
            rfl
          have HST := Lib.hid hst
          clear hst
          generalize hS : lockTo K b (n - 1) = S at *
          have hgs : w.heap.size < wr.heap.size := hB.lt
          clear hS
          go_wp2_with (at_make; refine wpList_make_fresh (z := .int .u8 0) (b := 1) Tryz.underlying22 Tryz.info5 rfl (by decide) rfl _ _ rfl 16 rfl rfl (by omega) ?_; intro w1 hw1; have hT0 : By 5 w1 wr.heap.size (List.replicate 16 0) := (by rw [hw1]; exact By.fresh _ _ _); have hB1 : By 5 w1 w.heap.size S := (by rw [hw1]; exact hB.kp ((Kp.refl _).alloc _)); have k1 : Kp w w1 := (by rw [hw1]; exact hk.alloc _); have hs1 : wr.heap.size < w1.heap.size := (by rw [hw1]; simp); clear hw1)
          obtain ⟨gt, hgt⟩ : ∃ g, wr.heap.size = g := ⟨_, rfl⟩
          rw [hgt] at hT0 hs1 hgs ⊢
          clear hB hk hgt
          have hT0' : By 5 w1 gt (mixB (List.replicate 16 0) (subS S) (4 * 0)) := by rw [Nat.mul_zero, mix_none]; exact hT0
          clear hT0
          have hne : gt ≠ w.heap.size := by omega
          go_loopw [11] (fun p wr => ∃ c : Nat, c ≤ 4 ∧ p = .int .i64 c ∧ By 5 wr gt (mixB (List.replicate 16 0) (subS S) (4 * c)) ∧ By 5 wr w.heap.size S ∧ Kp w wr) (fun p _ => 4 - (intOf p).toNat)
          case atStart => exact ⟨0, by omega, rfl, hT0', hB1, k1⟩
          case round =>
            clear hT0' hB1 k1 hs1
            obtain ⟨c, hc4, rfl, hT, hB, hk⟩ := hrel
            by_cases hltc : c < 4
            · have qc : (c : Int) < 4 := by omega
              go_wp2_with fail
              go_loopw [12] (fun p wr => ∃ r : Nat, r ≤ 4 ∧ p = .int .i64 r ∧ By 5 wr gt (mixB (List.replicate 16 0) (subS S) (4 * c + r)) ∧ By 5 wr w.heap.size S ∧ Kp w wr) (fun p _ => 4 - (intOf p).toNat)
              case atStart => exact ⟨0, by omega, rfl, hT, hB, hk⟩
              case round =>
                clear hT hB hk
                obtain ⟨r, hr4, rfl, hT, hB, hk⟩ := hrel
                by_cases hltr : r < 4
                · have qr : (r : Int) < 4 := by omega
                  have hfr := from_at c r hltc hltr
                  obtain ⟨i, hi⟩ : ∃ i, 4 * c + r = i := ⟨_, rfl⟩
                  obtain ⟨m, hm⟩ : ∃ m, (c + r) % 4 = m := ⟨_, rfl⟩
                  obtain ⟨p, hp⟩ : ∃ p, 4 * m + r = p := ⟨_, rfl⟩
                  rw [hi, hm, hp] at hfr
                  rw [hi] at hT
                  have hi16 : i < 16 := by omega
                  have hp16 : p < 16 := by omega
                  have hn := mix_tab (List.replicate 16 0) 16 (fun m => boxB (S.getD (from' m) 0)) i HR.out hi16
                  rw [← hfr] at hn
                  have c0 := hT.cell i (by unfold subS; rw [mix_len _ _ _ _ HR.out (by omega)]; exact hi16)
                  have f0 := hT.frozen i
                  have c1 := hB.cell p (by rw [hS16]; exact hp16)
                  have c2 := (HX.out.kp hk).cell (S.getD p 0).toNat (by rw [boxRow_length]; exact u8_lt _)
                  rw [boxRow_get] at c2
                  have hul := u8_lt (S.getD p 0)
                  have i6 : ((S.getD p 0).toNat : Int) < 256 := by omega
                  have i7 : IntKind.i64.wrap ((S.getD p 0).toNat : Int) = ((S.getD p 0).toNat : Int) := IntWalk.i64_in _ (by omega)
                  have hn' : (mixB (List.replicate 16 0) (subS S) i).set i (boxB (S.getD p 0)) = mixB (List.replicate 16 0) (subS S) (i + 1) := hn
                  have HNX := Lib.hid (show 4 * c + (r + 1) = i + 1 by omega)
                  generalize mixB (List.replicate 16 0) (subS S) = M at *
                  generalize S.getD p 0 = X1 at *
                  generalize boxB X1 = Y at *
                  have HN := Lib.hid hn'
                  have e1 : IntKind.i64.wrap (4 * (c : Int)) = 4 * (c : Int) := IntWalk.i64_in _ (by omega)
                  have e2 : 4 * (c : Int) + (r : Int) = (i : Int) := by omega
                  have e3 : IntKind.i64.wrap (i : Int) = i := IntWalk.i64_in _ (by omega)
                  have e4 : IntKind.i64.wrap ((c : Int) + (r : Int)) = (c : Int) + (r : Int) := IntWalk.i64_in _ (by omega)
                  have e5 : ((c : Int) + (r : Int)).tmod 4 = (m : Int) := by rw [Int.tmod_eq_emod_of_nonneg (by omega)]; omega
                  have e6 : ((c : Int) + (r : Int)) % 4 = (m : Int) := by omega
                  have e7 : IntKind.i64.wrap (4 * (m : Int)) = 4 * (m : Int) := IntWalk.i64_in _ (by omega)
                  have e8 : 4 * (m : Int) + (r : Int) = (p : Int) := by omega
                  have e9 : IntKind.i64.wrap (p : Int) = p := IntWalk.i64_in _ (by omega)
                  have u1 : (i : Int) < 16 := by omega
                  have u2 : (p : Int) < 16 := by omega
                  clear hn hn' hi hm hp hfr hul
                  go_wp2_with fail
                  go_roundw
                  case rel => exact ⟨r + 1, by omega, by go_num, by rw [HNX.out]; exact hT.set i _ HN.out, (Below.heap_setCell _ ⟨gt, i, none⟩ _ w.heap.size (by show w.heap.size ≠ gt; omega)).trans hB, Below.setCell hk (p := ⟨gt, i, none⟩) (by show w.heap.size ≤ gt; omega) _⟩
                  case measure => simp [intOf]; omega
                · obtain rfl : r = 4 := by omega
                  rw [show 4 * c + 4 = 4 * (c + 1) by omega] at hT
                  go_wp2_with fail
                  go_roundw
                  case rel => exact ⟨c + 1, by omega, by go_num, hT, hB, hk⟩
                  case measure => simp [intOf]; omega
            · obtain rfl : c = 4 := by omega
              have hT' : By 5 wr gt (subS S) := by
                have := hT
                unfold subS at this ⊢
                rw [mix_end _ _ _ HR.out] at this
                exact this
              clear hT hltc hc4
              have hT16 := subS_length S
              have hM16 := mixS_length (subS S)
              have HST2 := HST
              generalize hTT : subS S = T at *
              have HTT := Lib.hid hTT
              clear hTT
              have hTB : gt < wr.heap.size := hT'.lt
              go_wp2_with (at_builtin; refine wpList_append_ow U rfl _ _ rfl wr.heap.size _ [] rfl (Ow.lit wr _ _ 0 #[] [] (Nat.le_refl _) rfl (by omega) rfl) _ T rfl ((hT'.rdAll (n := 16) (c := 16) (by rw [hT16]) (Nat.le_refl _) (by unfold maxLen; omega)).kp ((Kp.refl _).alloc _)) (by rw [hT16]; simp) (by simp) ?_; intro v2 w2 ho2 hg2 _)
              obtain ⟨B, hBB⟩ : ∃ B, wr.heap.size = B := ⟨_, rfl⟩
              have hk2 : Kp wr w2 := Kp.grown ((Kp.refl wr).alloc _) hg2 (fun k e => by cases e; exact Nat.le_refl _)
              have hT2 := hT'.kp hk2
              have hB2 := hB.kp hk2
              have hkw := hk.trans hk2
              have ho2' : Ow 5 w2 B v2 T := by rw [← hBB]; simpa using ho2
              rw [hBB] at hTB
              clear hg2 ho2 hT' hB hk hk2
              obtain ⟨gu, cu, rfl, z1, z2, z3, z4⟩ := ow_some5 ho2' (by omega)
              rw [hT16] at ho2' z3 ⊢
              have hut : gt ≠ gu := by omega
              have hus : w.heap.size ≠ gu := by omega
              clear hBB
              have ho3 : Ow 5 w2 B (.slice (some ⟨gu, 0, none⟩) 16 cu) (mixB T (mixS T) (4 * 0)) := by rw [Nat.mul_zero, mix_none]; exact ho2'
              clear ho2'
              by_cases hn10 : n < 10
              · have qn : (n : Int) < 10 := by omega
                go_loopw [14] (fun p wr => ∃ c : Nat, c ≤ 4 ∧ p = .int .i64 c ∧ Ow 5 wr B (.slice (some ⟨gu, 0, none⟩) 16 cu) (mixB T (mixS T) (4 * c)) ∧ By 5 wr gt T ∧ By 5 wr w.heap.size S ∧ Kp w wr) (fun p _ => 4 - (intOf p).toNat)
                case atStart => exact ⟨0, by omega, rfl, ho3, hT2, hB2, hkw⟩
                case round =>
                  clear ho3 hT2 hB2 hkw
                  obtain ⟨c, hc4, rfl, hU, hT, hB, hk⟩ := hrel
                  by_cases hltc : c < 4
                  · have qc : (c : Int) < 4 := by omega
                    go_wp2_with fail
                    go_loopw [15] (fun p wr => ∃ r : Nat, r ≤ 4 ∧ p = .int .i64 r ∧ Ow 5 wr B (.slice (some ⟨gu, 0, none⟩) 16 cu) (mixB T (mixS T) (4 * c + r)) ∧ By 5 wr gt T ∧ By 5 wr w.heap.size S ∧ Kp w wr) (fun p _ => 4 - (intOf p).toNat)
                    case atStart => exact ⟨0, by omega, rfl, hU, hT, hB, hk⟩
                    case round =>
                      clear hU hT hB hk
                      obtain ⟨r, hr4, rfl, hU, hT, hB, hk⟩ := hrel
                      by_cases hltr : r < 4
                      · have qr : (r : Int) < 4 := by omega
                        have hcol := mixS_col T c r hltc hltr
                        have hmn : (mixB T (mixS T) (4 * c + r)).set (4 * c + r) ((mixS T).getD (4 * c + r) 0) = mixB T (mixS T) (4 * c + r + 1) := by
                          refine mixB_set _ _ (4 * c + r) (by rw [hT16, hM16]) (by omega) _ ?_
                          rw [List.getD_eq_getElem?_getD, List.getElem?_eq_getElem (by rw [hM16]; omega)]
                          rfl
                        have hmg : (mixB T (mixS T) (4 * c + r)).length = 16 := by rw [mixB_length _ _ _ (by rw [hT16, hM16]) (by omega), hT16]
                        rw [hcol] at hmn
                        obtain ⟨m1, hm1⟩ : ∃ m, (r + 1) % 4 = m := ⟨_, rfl⟩
                        obtain ⟨m2, hm2⟩ : ∃ m, (r + 2) % 4 = m := ⟨_, rfl⟩
                        obtain ⟨m3, hm3⟩ : ∃ m, (r + 3) % 4 = m := ⟨_, rfl⟩
                        obtain ⟨i, hi⟩ : ∃ i, 4 * c + r = i := ⟨_, rfl⟩
                        obtain ⟨j1, hj1⟩ : ∃ j, 4 * c + m1 = j := ⟨_, rfl⟩
                        obtain ⟨j2, hj2⟩ : ∃ j, 4 * c + m2 = j := ⟨_, rfl⟩
                        obtain ⟨j3, hj3⟩ : ∃ j, 4 * c + m3 = j := ⟨_, rfl⟩
                        obtain ⟨a1, t1, s1, b1, d1, u1, n1⟩ := col_fact c r 1 m1 j1 1 rfl hltc hltr (by decide) hm1 hj1
                        obtain ⟨a2, t2, s2, b2, d2, u2, n2⟩ := col_fact c r 2 m2 j2 2 rfl hltc hltr (by decide) hm2 hj2
                        obtain ⟨a3, t3, s3, b3, d3, u3, n3⟩ := col_fact c r 3 m3 j3 3 rfl hltc hltr (by decide) hm3 hj3
                        obtain ⟨e1, e2, e3, u0, hi16⟩ := col_first c r i hltc hltr hi
                        rw [hm1, hm2, hm3] at hmn
                        rw [hi] at hmg hU
                        rw [hi, hj1, hj2, hj3] at hmn
                        obtain ⟨c0, f0, hU2⟩ := ow_put5 hU i (by rw [hmg]; exact hi16) (mix4 (T.getD i 0) (T.getD j1 0) (T.getD j2 0) (T.getD j3 0))
                        rw [hmn] at hU2
                        have k0 := hT.cell i (by rw [hT16]; exact hi16)
                        have k1 := hT.cell j1 (by rw [hT16]; exact n1)
                        have k2 := hT.cell j2 (by rw [hT16]; exact n2)
                        have k3 := hT.cell j3 (by rw [hT16]; exact n3)
                        have x1 := b8_xor (mulB (T.getD i 0) 2) (mulB (T.getD j1 0) 3)
                        have x2 := b8_xor (mulB (T.getD i 0) 2 ^^^ mulB (T.getD j1 0) 3) (T.getD j2 0)
                        have x3 := b8_xor (mulB (T.getD i 0) 2 ^^^ mulB (T.getD j1 0) 3 ^^^ T.getD j2 0) (T.getD j3 0)
                        rw [show mulB (T.getD i 0) 2 ^^^ mulB (T.getD j1 0) 3 ^^^ T.getD j2 0 ^^^ T.getD j3 0 = mix4 (T.getD i 0) (T.getD j1 0) (T.getD j2 0) (T.getD j3 0) from rfl] at x3
                        have HM2 : Hid (∀ W, Calls Tryz.prog 78 #[.int .u8 ((T.getD i 0).toNat : Int), .int .u8 2] W fun e w' => e = .returned (.int .u8 ((mulB (T.getD i 0) 2).toNat : Int)) ∧ W = w') := fun W => refMul_any (T.getD i 0) 2 W
                        have HM3 : Hid (∀ W, Calls Tryz.prog 78 #[.int .u8 ((T.getD j1 0).toNat : Int), .int .u8 3] W fun e w' => e = .returned (.int .u8 ((mulB (T.getD j1 0) 3).toNat : Int)) ∧ W = w') := fun W => refMul_any (T.getD j1 0) 3 W
                        have HNX := Lib.hid (show 4 * c + (r + 1) = i + 1 by rw [← hi]; rfl)
                        have hgw : w.heap.size ≤ gu := by clear hm1 hm2 hm3 hj1 hj2 hj3 s1 s2 s3 t1 t2 t3; omega
                        generalize mix4 (T.getD i 0) (T.getD j1 0) (T.getD j2 0) (T.getD j3 0) = Y at *
                        generalize (mixB T (mixS T) i).getD i 0 = Y0 at *
                        generalize mulB (T.getD i 0) 2 ^^^ mulB (T.getD j1 0) 3 ^^^ T.getD j2 0 = Y2 at *
                        generalize mulB (T.getD i 0) 2 ^^^ mulB (T.getD j1 0) 3 = Y1 at *
                        generalize mulB (T.getD i 0) 2 = D1 at *
                        generalize mulB (T.getD j1 0) 3 = D2 at *
                        generalize T.getD i 0 = X0 at *
                        generalize T.getD j1 0 = X1 at *
                        generalize T.getD j2 0 = X2 at *
                        generalize T.getD j3 0 = X3 at *
                        have hsc : ∀ j V, wr.cell? ⟨gt, j, none⟩ = some V → ((wr.setCell ⟨gu, i, none⟩ (.int .u8 (Y.toNat : Int))).drew).cell? ⟨gt, j, none⟩ = some V := fun j V h => (cell_same5 (Below.heap_setCell wr ⟨gu, i, none⟩ (.int .u8 (Y.toNat : Int)) gt hut) j).trans h
                        have KD : Hid (wr.drew.cell? ⟨gt, i, none⟩ = some (.int .u8 (X0.toNat : Int)) ∧ wr.drew.cell? ⟨gt, j1, none⟩ = some (.int .u8 (X1.toNat : Int)) ∧ wr.drew.cell? ⟨gt, j2, none⟩ = some (.int .u8 (X2.toNat : Int)) ∧ wr.drew.cell? ⟨gt, j3, none⟩ = some (.int .u8 (X3.toNat : Int))) := ⟨k0, k1, k2, k3⟩
                        have KS := Lib.hid (And.intro (hsc _ _ k0) (And.intro (hsc _ _ k1) (And.intro (hsc _ _ k2) (hsc _ _ k3))))
                        have hT2 : By 5 ((wr.setCell ⟨gu, i, none⟩ (.int .u8 (Y.toNat : Int))).drew) gt T := (Below.heap_setCell wr ⟨gu, i, none⟩ _ gt hut).trans hT
                        have hB2 : By 5 ((wr.setCell ⟨gu, i, none⟩ (.int .u8 (Y.toNat : Int))).drew) w.heap.size S := (Below.heap_setCell wr ⟨gu, i, none⟩ _ w.heap.size hus).trans hB
                        have hk2 : Kp w ((wr.setCell ⟨gu, i, none⟩ (.int .u8 (Y.toNat : Int))).drew) := (Below.setCell hk (p := ⟨gu, i, none⟩) hgw _).drew
                        have hU3 : Ow 5 ((wr.setCell ⟨gu, i, none⟩ (.int .u8 (Y.toNat : Int))).drew) B (.slice (some ⟨gu, 0, none⟩) 16 cu) (mixB T (mixS T) (i + 1)) := hU2
                        clear hi hj1 hj2 hj3 hm1 hm2 hm3 hmn hmg hcol hU hU2 hT hB hk hsc
                        have HT2 := Lib.hid hT2
                        have HB2 := Lib.hid hB2
                        have HK2 := Lib.hid hk2
                        have HU3 := Lib.hid hU3
                        clear hT2 hB2 hk2 hU3
                        go_wp2_with fail
                        go_region_held3 (fun W => W.cell? ⟨gt, i, none⟩ = some (.int .u8 (X0.toNat : Int)) ∧ W.cell? ⟨gt, j1, none⟩ = some (.int .u8 (X1.toNat : Int)) ∧ W.cell? ⟨gt, j2, none⟩ = some (.int .u8 (X2.toNat : Int)) ∧ W.cell? ⟨gt, j3, none⟩ = some (.int .u8 (X3.toNat : Int)))
                          (first
                            | (with_reducible exact KD.out)
                            | (with_reducible exact KS.out))
                          (first
                            | (go_at_call 78; (with_reducible refine (HM2.out _).mono ?_); rintro _ _ ⟨rfl, rfl⟩)
                            | (go_at_call 78; (with_reducible refine (HM3.out _).mono ?_); rintro _ _ ⟨rfl, rfl⟩))
                        all_goals
                          go_wp2_with fail
                          go_roundw
                          case rel => exact ⟨r + 1, by omega, by go_num, by rw [HNX.out]; exact HU3.out, HT2.out, HB2.out, HK2.out⟩
                          case measure => simp [intOf]; omega
                      · obtain rfl : r = 4 := by omega
                        rw [show 4 * c + 4 = 4 * (c + 1) by omega] at hU
                        go_wp2_with fail
                        go_roundw
                        case rel => exact ⟨c + 1, by omega, by go_num, hU, hT, hB, hk⟩
                        case measure => simp [intOf]; omega
                  · obtain rfl : c = 4 := by omega
                    rw [show 4 * 4 = 16 from rfl, show mixS T = tab 16 (fun m => mix4 (at4 T m 0) (at4 T m 1) (at4 T m 2) (at4 T m 3)) from rfl, mix_end _ _ _ hT16, show tab 16 (fun m => mix4 (at4 T m 0) (at4 T m 1) (at4 T m 2) (at4 T m 3)) = mixS T from rfl] at hU
                    have HLEN := Lib.hid hM16
                    generalize mixS T = V at *
                    clear hltc hc4 hT
                    go_wp2_with fail
                    rw [show ((4 : Nat) : Int) = (4 : Int) from rfl]
                    have hB0 : By 5 wr w.heap.size (mixB S (addS V K n) 0) := by rw [mix_none]; exact hB
                    go_loopw [16] (fun p wr => ∃ i : Nat, i ≤ 16 ∧ p = .int .i64 i ∧ By 5 wr w.heap.size (mixB S (addS V K n) i) ∧ Ow 5 wr B (.slice (some ⟨gu, 0, none⟩) 16 cu) V ∧ Kp w wr) (fun p _ => 16 - (intOf p).toNat)
                    case atStart => exact ⟨0, by omega, rfl, hB0, hU, hk⟩
                    case round =>
                      clear hB hB0 hU hk
                      obtain ⟨i, hi, rfl, hB, hU, hk⟩ := hrel
                      by_cases hlti : i < 16
                      · have qi : (i : Int) < 16 := by omega
                        have hn1 : (mixB S (addS V K n) i).set i (V.getD i 0 ^^^ K.getD (16 * n + i) 0) = mixB S (addS V K n) (i + 1) := mix_tab S 16 (fun i => V.getD i 0 ^^^ K.getD (16 * n + i) 0) i hS16 hlti
                        have c0 := hB.cell i (by rw [show addS V K n = tab 16 (fun i => V.getD i 0 ^^^ K.getD (16 * n + i) 0) from rfl, mix_len _ _ _ _ hS16 hi]; exact hlti)
                        have f0 := hB.frozen i
                        have c1 := (ow_put5 hU i (by rw [HLEN.out]; exact hlti) 0).1
                        obtain ⟨j, hj⟩ : ∃ j, 16 * n + i = j := ⟨_, rfl⟩
                        have c2 := hk.cell (HW.out j (by omega))
                        rw [hj] at hn1
                        have hx := b8_xor (V.getD i 0) (K.getD j 0)
                        generalize hM : mixB S (addS V K n) = M at *
                        generalize V.getD i 0 = X1 at *
                        generalize K.getD j 0 = X2 at *
                        generalize X1 ^^^ X2 = Y at *
                        have HN1 := Lib.hid hn1
                        have e1 : IntKind.i64.wrap (16 * (n : Int)) = 16 * (n : Int) := IntWalk.i64_in _ (by omega)
                        have e2 : 16 * (n : Int) + (i : Int) = (j : Int) := by omega
                        have e3 : IntKind.i64.wrap (j : Int) = j := IntWalk.i64_in _ (by omega)
                        have u1 : (j : Int) < 176 := by omega
                        clear hn1 hM hj
                        go_wp2_with fail
                        go_region
                        all_goals
                          go_wp2_with fail
                          go_roundw
                          case rel => exact ⟨i + 1, by omega, by go_num, hB.set i _ HN1.out, (hU.aside (k := w.heap.size) (by omega) i _).kp (Kp.refl _).drew, (Below.setCell hk (p := ⟨w.heap.size, i, none⟩) (Nat.le_refl _) _).drew⟩
                          case measure => simp [intOf]; omega
                      · obtain rfl : i = 16 := by omega
                        have hB2 : By 5 wr w.heap.size (lockTo K b (n + 1 - 1)) := by
                          rw [show n + 1 - 1 = n by omega, HST.out]
                          have := hB
                          rw [show addS V K n = tab 16 (fun i => V.getD i 0 ^^^ K.getD (16 * n + i) 0) from rfl, mix_end _ _ _ hS16] at this
                          rw [if_pos hn10]; exact this
                        clear hB hU
                        go_wp2_with fail
                        go_roundw
                        case rel => exact ⟨n + 1, by omega, by omega, by go_num, hB2, hk⟩
                        case measure => simp [intOf]; omega
              · have qn : ¬ (n : Int) < 10 := by omega
                go_loopw [14] (fun p wr => p = .int .i64 0 ∧ Ow 5 wr B (.slice (some ⟨gu, 0, none⟩) 16 cu) (mixB T (mixS T) (4 * 0)) ∧ By 5 wr w.heap.size S ∧ Kp w wr) (fun p _ => 0)
                case atStart => exact ⟨rfl, ho3, hB2, hkw⟩
                case round =>
                  clear ho3 hT2 hB2 hkw
                  obtain ⟨rfl, hU, hB, hk⟩ := hrel
                  rw [Nat.mul_zero, mix_none] at hU
                  have HLEN := Lib.hid hT16
                  go_wp2_with fail
                  have hB0 : By 5 wr w.heap.size (mixB S (addS T K n) 0) := by rw [mix_none]; exact hB
                  go_loopw [16] (fun p wr => ∃ i : Nat, i ≤ 16 ∧ p = .int .i64 i ∧ By 5 wr w.heap.size (mixB S (addS T K n) i) ∧ Ow 5 wr B (.slice (some ⟨gu, 0, none⟩) 16 cu) T ∧ Kp w wr) (fun p _ => 16 - (intOf p).toNat)
                  case atStart => exact ⟨0, by omega, rfl, hB0, hU, hk⟩
                  case round =>
                    clear hB hB0 hU hk
                    obtain ⟨i, hi, rfl, hB, hU, hk⟩ := hrel
                    by_cases hlti : i < 16
                    · have qi : (i : Int) < 16 := by omega
                      have hn1 : (mixB S (addS T K n) i).set i (T.getD i 0 ^^^ K.getD (16 * n + i) 0) = mixB S (addS T K n) (i + 1) := mix_tab S 16 (fun i => T.getD i 0 ^^^ K.getD (16 * n + i) 0) i hS16 hlti
                      have c0 := hB.cell i (by rw [show addS T K n = tab 16 (fun i => T.getD i 0 ^^^ K.getD (16 * n + i) 0) from rfl, mix_len _ _ _ _ hS16 hi]; exact hlti)
                      have f0 := hB.frozen i
                      have c1 := (ow_put5 hU i (by rw [HLEN.out]; exact hlti) 0).1
                      obtain ⟨j, hj⟩ : ∃ j, 16 * n + i = j := ⟨_, rfl⟩
                      have c2 := hk.cell (HW.out j (by omega))
                      rw [hj] at hn1
                      have hx := b8_xor (T.getD i 0) (K.getD j 0)
                      generalize hM : mixB S (addS T K n) = M at *
                      generalize T.getD i 0 = X1 at *
                      generalize K.getD j 0 = X2 at *
                      generalize X1 ^^^ X2 = Y at *
                      have HN1 := Lib.hid hn1
                      have e1 : IntKind.i64.wrap (16 * (n : Int)) = 16 * (n : Int) := IntWalk.i64_in _ (by omega)
                      have e2 : 16 * (n : Int) + (i : Int) = (j : Int) := by omega
                      have e3 : IntKind.i64.wrap (j : Int) = j := IntWalk.i64_in _ (by omega)
                      have u1 : (j : Int) < 176 := by omega
                      clear hn1 hM hj
                      go_wp2_with fail
                      go_region
                      all_goals
                        go_wp2_with fail
                        go_roundw
                        case rel => exact ⟨i + 1, by omega, by go_num, hB.set i _ HN1.out, (hU.aside (k := w.heap.size) (by omega) i _).kp (Kp.refl _).drew, (Below.setCell hk (p := ⟨w.heap.size, i, none⟩) (Nat.le_refl _) _).drew⟩
                        case measure => simp [intOf]; omega
                    · obtain rfl : i = 16 := by omega
                      have hB2 : By 5 wr w.heap.size (lockTo K b (n + 1 - 1)) := by
                        rw [show n + 1 - 1 = n by omega, HST.out]
                        have := hB
                        rw [show addS T K n = tab 16 (fun i => T.getD i 0 ^^^ K.getD (16 * n + i) 0) from rfl, mix_end _ _ _ hS16] at this
                        rw [if_neg hn10]; exact this
                      clear hB hU
                      go_wp2_with fail
                      go_roundw
                      case rel => exact ⟨n + 1, by omega, by omega, by go_num, hB2, hk⟩
                      case measure => simp [intOf]; omega
        · obtain rfl : n = 11 := by omega
          have hB' : By 5 wr w.heap.size (lockL K b) := by rw [← HL.out]; exact hB
          have HLL := lockL_length K b
          have ho : Ow 5 wr w.heap.size (.slice (some ⟨w.heap.size, 0, none⟩) 16 16) (lockL K b) := By.ow5 hB' (Nat.le_refl _) (by rw [HLL]) (by omega)
          clear hB hB'
          go_wp2_with fail
          go_ret
          exact ⟨⟨_, rfl, ho⟩, hk⟩
end Go.Proofs.YtdcbljfacmidjaaGreat

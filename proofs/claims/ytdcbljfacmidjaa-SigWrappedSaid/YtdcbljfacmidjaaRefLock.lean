/- pyxref05.lock: a block, locked by the words. -/
import Derived.Test.YtdcbljfacmidjaaAesA
import Derived.RegionTactic
import Derived.BigRegion
set_option linter.unusedVariables false
set_option linter.unusedSimpArgs false
namespace Go.Proofs.Ytdcbljfacmidjaa
open Go.RowKit

theorem tab_at (n : Nat) (f : Nat → UInt8) (i : Nat) (h : i < n) : (tab n f)[i]? = some (f i) := by simp [tab, h]
theorem mix_part (A B : List UInt8) (i j : Nat) (h : A.length = B.length) (hi : i ≤ A.length) (hj : i ≤ j) : (mixB A B i).getD j 0 = A.getD j 0 := by
  unfold mixB
  have hl : (B.take i).length = i := by simp; omega
  rw [List.getD_eq_getElem?_getD, List.getElem?_append_right (by omega), hl, List.getElem?_drop, List.getD_eq_getElem?_getD, show i + (j - i) = j by omega]
/-- One byte of what comes to stand in a row told by f. -/
theorem mix_tab (A : List UInt8) (n : Nat) (f : Nat → UInt8) (i : Nat) (h : A.length = n) (hi : i < n) : (mixB A (tab n f) i).set i (f i) = mixB A (tab n f) (i + 1) :=
  mixB_set _ _ i (by rw [h, tab_length]) (by omega) _ (tab_at n f i hi)
theorem mix_len (A : List UInt8) (n : Nat) (f : Nat → UInt8) (i : Nat) (h : A.length = n) (hi : i ≤ n) : (mixB A (tab n f) i).length = n := by
  rw [mixB_length _ _ i (by rw [h, tab_length]) (by omega), h]
theorem mix_end (A : List UInt8) (n : Nat) (f : Nat → UInt8) (h : A.length = n) : mixB A (tab n f) n = tab n f := by
  have := mixB_all A (tab n f) (by rw [h, tab_length])
  rwa [tab_length] at this
theorem mix_none (A B : List UInt8) : mixB A B 0 = A := by simp [mixB]
theorem ow_put5 {e : TypeId} {w : World} {B g n c : Nat} {l : List UInt8} (h : Ow e w B (.slice (some ⟨g, 0, none⟩) n c) l) (i : Nat) (hi : i < l.length) (x : UInt8) :
    w.cell? ⟨g, i, none⟩ = some (.int .u8 ((l.getD i 0).toNat : Int)) ∧ w.frozen? ⟨g, i, none⟩ = false ∧ Ow e (w.setCell ⟨g, i, none⟩ (.int .u8 (x.toNat : Int))) B (.slice (some ⟨g, 0, none⟩) n c) (l.set i x) := by
  have hn : n = l.length := by
    rcases h.shape with ⟨h0, h1⟩ | ⟨g', c', h0, _⟩
    · cases h0
    · simp only [Value.slice.injEq] at h0; exact h0.2.1
  subst hn
  refine ⟨?_, h.frozenAt i, ?_⟩
  · rw [World.ownsRow.cellAt h i (by omega), byteCells_get l i hi, List.getD_eq_getElem?_getD, List.getElem?_eq_getElem hi]
    rfl
  · have h2 := (World.ownsRow.stored h i (.int .u8 (x.toNat : Int))).1
    unfold Ow
    rw [List.length_set]
    have e : Lib.byteCells (l.set i x) = (Lib.byteCells l).set i (.int .u8 (x.toNat : Int)) := by simp [Lib.byteCells, List.map_set]
    rw [e]
    simpa using h2
theorem Ow.aside {e : TypeId} {w : World} {B g n c k : Nat} {l : List UInt8} (h : Ow e w B (.slice (some ⟨g, 0, none⟩) n c) l) (hk : k ≠ g) (i : Nat) (v : Value) : Ow e (w.setCell ⟨k, i, none⟩ v) B (.slice (some ⟨g, 0, none⟩) n c) l := by
  refine ⟨h.1, ?_⟩
  rcases h.2 with hn | ⟨g', cap, cur, e', hb, hg, rest⟩
  · exact .inl hn
  · have e2 := e'
    simp only [Value.slice.injEq, Option.some.injEq, Addr.mk.injEq] at e'
    obtain ⟨⟨rfl, _⟩, _⟩ := e'
    exact .inr ⟨g, cap, cur, e2, hb, (Below.heap_setCell w ⟨k, i, none⟩ v g (fun e3 => hk e3.symm)).trans hg, rest⟩
theorem By.ow5 {e : TypeId} {w : World} {B g n : Nat} {l : List UInt8} (h : By e w g l) (hB : B ≤ g) (hn : n = l.length) (hm : n ≤ 1000000) : Ow e w B (.slice (some ⟨g, 0, none⟩) n n) l := by
  subst hn
  exact ⟨by rw [byteCells_length]; simp, .inr ⟨g, l.length, _, rfl, hB, h, Nat.le_refl _, by unfold maxLen; omega, by simp [Lib.byteCells], by rw [Nat.mul_one, List.toList_toArray]; exact List.take_of_length_le (by rw [byteCells_length]; exact Nat.le_refl _)⟩⟩
theorem col_fact (c r k m j : Nat) (x : Int) (hx : x = (k : Int)) (hc : c < 4) (hr : r < 4) (hk : k < 4) (hm : (r + k) % 4 = m) (hj : 4 * c + m = j) :
    IntKind.i64.wrap ((r : Int) + x) = (r : Int) + x ∧ ((r : Int) + x).tmod 4 = (m : Int) ∧ ((r : Int) + x) % 4 = (m : Int) ∧ 4 * (c : Int) + (m : Int) = (j : Int) ∧ IntKind.i64.wrap (j : Int) = j ∧ (j : Int) < 16 ∧ j < 16 := by
  have hm4 : m < 4 := by omega
  refine ⟨IntWalk.i64_in _ (by omega), ?_, by omega, by omega, IntWalk.i64_in _ (by omega), by omega, by omega⟩
  rw [Int.tmod_eq_emod_of_nonneg (by omega)]
  omega
theorem col_first (c r i : Nat) (hc : c < 4) (hr : r < 4) (hi : 4 * c + r = i) :
    IntKind.i64.wrap (4 * (c : Int)) = 4 * (c : Int) ∧ 4 * (c : Int) + (r : Int) = (i : Int) ∧ IntKind.i64.wrap (i : Int) = i ∧ (i : Int) < 16 ∧ i < 16 :=
  ⟨IntWalk.i64_in _ (by omega), by omega, IntWalk.i64_in _ (by omega), by omega, by omega⟩
theorem from_at (c r : Nat) (hc : c < 4) (hr : r < 4) : 4 * ((c + r) % 4) + r = from' (4 * c + r) := by
  unfold from'
  rw [show (4 * c + r) / 4 = c by omega, show (4 * c + r) % 4 = r by omega]

end Go.Proofs.Ytdcbljfacmidjaa

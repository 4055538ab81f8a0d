/- Slices of one-cell values (rows of rows): what they hold. Nothing of a dump. -/
import Derived.Test.YtcomgbneacbncaaDoorOpen
set_option linter.unusedVariables false
set_option linter.unusedSimpArgs false
namespace Go.Proofs.YtcomgbneacbncaaDoor
open Go.RowKit Go.ChangeShapes Go.WideShapes Go.Deep

/-- The slice value v holds the values us, a cell each. -/
def Vals (w : World) (v : Value) (us : List Value) : Prop :=
  ∃ a c, v = .slice a us.length c ∧ us.length ≤ c ∧ c ≤ maxLen ∧ (a = none → c = 0) ∧
    ∀ x, a = some x → ∀ i, (h : i < us.length) → w.cell? (x.add i) = some (us[i]'h)
theorem Vals.kp {w w' : World} {v : Value} {us : List Value} (h : Vals w v us) (k : Kp w w') : Vals w' v us := by
  obtain ⟨a, c, rfl, h1, h2, h3, h4⟩ := h
  exact ⟨a, c, rfl, h1, h2, h3, fun x hx i hi => k.cell (h4 x hx i hi)⟩
theorem Vals.shape {w : World} {v : Value} {us : List Value} (h : Vals w v us) : ∃ a c, v = .slice a us.length c ∧ us.length ≤ c ∧ c ≤ maxLen := by
  obtain ⟨a, c, e, h1, h2, _⟩ := h
  exact ⟨a, c, e, h1, h2⟩
theorem Vals.nil (w : World) : Vals w (.slice none 0 0) [] := ⟨none, 0, rfl, Nat.le_refl _, Nat.zero_le _, fun _ => rfl, fun x hx => by cases hx⟩
theorem Vals.at {w : World} {a : Option Addr} {n c : Nat} {us : List Value} (h : Vals w (.slice a n c) us) (k : Nat) (hk : k < n) :
    ∃ b off, a = some ⟨b, off, none⟩ ∧ b < w.heap.size ∧ ∀ i, i < n → w.cell? ⟨b, off + i, none⟩ = some (us.getD i (.bool false)) := by
  obtain ⟨a', c', e, h1, h2, h3, h4⟩ := h
  simp only [Value.slice.injEq] at e
  obtain ⟨rfl, rfl, rfl⟩ := e
  cases a with
  | none => have := h3 rfl; omega
  | some x =>
    obtain ⟨b, off, spot⟩ := x
    have h0 := h4 _ rfl 0 (by omega)
    have hs : spot = none := by simpa [Addr.add] using World.cell?_spot h0
    subst hs
    refine ⟨b, off, rfl, World.block_lt_of_cell? w _ h0, fun i hi => ?_⟩
    have := h4 _ rfl i hi
    rw [List.getD_eq_getElem?_getD, List.getElem?_eq_getElem hi, Option.getD_some, ← this]
    congr 1
    unfold Addr.add
    split <;> simp_all
/-- A row of values of the call's own. -/
theorem Vals.own {w : World} {B : Nat} {e : TypeId} {v : Value} {us : List Value} (h : w.ownsRow B e 1 v us.length us) : Vals w v us := by
  rcases h.2 with ⟨rfl, h0⟩ | ⟨g, cap, cur, rfl, hb, hg, hn, hm, hs, ht⟩
  · exact ⟨none, 0, by rw [h0], by omega, Nat.zero_le _, fun _ => rfl, fun x hx => by cases hx⟩
  · refine ⟨_, cap, rfl, hn, hm, fun h => (by cases h), fun x hx i hi => ?_⟩
    cases hx
    have e : (⟨g, 0, none⟩ : Addr).add i = ⟨g, i, none⟩ := by unfold Addr.add; split <;> simp_all
    rw [e, cell_of_row w g i _ _ _ hg]
    have hx : us[i]? = some us[i] := List.getElem?_eq_getElem hi
    rw [← hx, ← ht, List.getElem?_take_of_lt (by omega)]
    simp

/-- The slice value v holds rows of bytes. -/
def RL (w : World) (v : Value) (ls : List (List UInt8)) : Prop := ∃ us, Vals w v us ∧ us.length = ls.length ∧ ∀ i, i < ls.length → Rd w (us.getD i (.bool false)) (ls.getD i [])
theorem RL.kp {w w' : World} {v : Value} {ls : List (List UInt8)} (h : RL w v ls) (k : Kp w w') : RL w' v ls := by
  obtain ⟨us, h1, h2, h3⟩ := h
  exact ⟨us, h1.kp k, h2, fun i hi => (h3 i hi).kp k⟩
theorem RL.shape {w : World} {v : Value} {ls : List (List UInt8)} (h : RL w v ls) : ∃ a c, v = .slice a ls.length c ∧ ls.length ≤ c ∧ c ≤ maxLen := by
  obtain ⟨us, h1, h2, h3⟩ := h
  rw [← h2]
  exact h1.shape
theorem RL.nil (w : World) : RL w (.slice none 0 0) [] := ⟨[], Vals.nil w, rfl, fun i hi => by simp at hi⟩
theorem RL.at {w : World} {a : Option Addr} {n c : Nat} {ls : List (List UInt8)} (h : RL w (.slice a n c) ls) (k : Nat) (hk : k < n) :
    ∃ b off, a = some ⟨b, off, none⟩ ∧ b < w.heap.size ∧ ∀ i, i < n → ∃ u, w.cell? ⟨b, off + i, none⟩ = some u ∧ Rd w u (ls.getD i []) := by
  obtain ⟨us, h1, h2, h3⟩ := h
  obtain ⟨b, off, ha, hb, hc⟩ := h1.at k hk
  have hn : n = us.length := by
    obtain ⟨a', c', e, _⟩ := h1.shape
    simp only [Value.slice.injEq] at e
    exact e.2.1
  exact ⟨b, off, ha, hb, fun i hi => ⟨_, hc i hi, h3 i (by omega)⟩⟩
theorem RL.cons {w : World} {B : Nat} {e : TypeId} {v u : Value} {l : List UInt8} {us : List Value} {ls : List (List UInt8)} (h : w.ownsRow B e 1 v (u :: us).length (u :: us)) (hu : Rd w u l) (hl : us.length = ls.length)
    (hr : ∀ i, i < ls.length → Rd w (us.getD i (.bool false)) (ls.getD i [])) : RL w v (l :: ls) := by
  refine ⟨u :: us, Vals.own h, by simp [hl], fun i hi => ?_⟩
  cases i with
  | zero => simpa using hu
  | succ i => simpa using hr i (by simpa using hi)

section
variable {H : Type} {enc : TypeId × Value → H} {P : Program} {w : World} {base : Nat} {spare : Nat → Bool} {held : Bool}
theorem RL.of_cells {t t2 e : TypeId} {fuel : Nat} {cs : List Value} {x : DataW H × List MemPlace} (ht : P.underlying t = some (.slice t2)) (hc2 : P.cellsOf t2 = 1) (ht2 : P.underlying t2 = some (.slice e)) (he : P.underlying e = some (.int .u8)) (hc : P.cellsOf e = 1)
    (h : DataW.trod enc P w base spare held fuel t cs = some x) : ∃ v ls, cs = [v] ∧ RL w v ls := by
  rcases open_slice ht h with ⟨hcs, _⟩ | ⟨x, len, cap, m, k, D, Pl, hcs, _, hl, hm, hmm, _, hi⟩
  · exact ⟨_, [], hcs, RL.nil w⟩
  · have hlm : len ≤ m := by rw [hmm]; split <;> omega
    have hone : ∀ i, i < len → ∃ y : Value × List UInt8, w.cell? (x.add i) = some y.1 ∧ Rd w y.1 y.2 := by
      intro i hin
      obtain ⟨cs', hcell, htr⟩ := hi i (by omega)
      rw [hc2] at hcell
      obtain ⟨_, hcl, hat⟩ := World.cells?_some hcell
      obtain ⟨u, l, rfl, hr⟩ := Rd.of_cells ht2 he hc htr
      refine ⟨(u, l), ?_, hr⟩
      have := hat 0 (by omega)
      simpa [Addr.add] using this
    obtain ⟨ys, hys, hq⟩ := @choose_list (Value × List UInt8) ⟨(.bool false, [])⟩ len (fun i y => w.cell? (x.add i) = some y.1 ∧ Rd w y.1 y.2) hone (.bool false, [])
    have hg : ∀ i, i < len → (ys.map (·.1)).getD i (.bool false) = (ys.getD i (.bool false, [])).1 ∧ (ys.map (·.2)).getD i [] = (ys.getD i (.bool false, [])).2 := fun i hi => by
      simp [List.getD_eq_getElem?_getD, List.getElem?_map, List.getElem?_eq_getElem (show i < ys.length by omega)]
    refine ⟨_, ys.map (·.2), hcs, ys.map (·.1), ⟨some x, cap, by simp [hys], by simp; omega, hm, fun h => (by cases h), fun y hy i hi => ?_⟩, by simp, fun i hi => ?_⟩
    · cases hy
      simp only [List.length_map, hys] at hi
      rw [(hq i hi).1]
      have := (hg i hi).1
      rw [List.getD_eq_getElem?_getD, List.getElem?_eq_getElem (by simpa [hys] using hi)] at this
      rw [← this]
      rfl
    · simp only [List.length_map, hys] at hi
      rw [(hg i hi).1, (hg i hi).2]
      exact (hq i hi).2
theorem RL.of_arg {t t2 e : TypeId} {v : Value} {d : DataW H} {p : List MemPlace} {r : Reach} {b0 : Nat} (ht : P.underlying t = some (.slice t2)) (hc2 : P.cellsOf t2 = 1) (ht2 : P.underlying t2 = some (.slice e)) (he : P.underlying e = some (.int .u8)) (hc : P.cellsOf e = 1)
    (hv : Value.okWide P w r b0 t v) (h : DataW.Trod enc P w base spare held t v d p) : ∃ ls, RL w v ls := by
  obtain ⟨a, n, c, rfl⟩ := okWide_slice ht hv
  obtain ⟨fuel, h⟩ := h
  obtain ⟨u, ls, e, hr⟩ := RL.of_cells ht hc2 ht2 he hc h
  simp [Value.cells] at e
  subst e
  exact ⟨ls, hr⟩
end
end Go.Proofs.YtcomgbneacbncaaDoor

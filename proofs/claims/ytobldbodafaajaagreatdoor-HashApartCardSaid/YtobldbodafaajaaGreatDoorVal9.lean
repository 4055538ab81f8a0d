/- Arguments, opened: slices of bytes, slices of those. Nothing of a dump. -/
import Derived.Test.YtobldbodafaajaaGreatDoorBase
import Derived.ProofKit
import Derived.Deep.Slices
import Derived.Lib.SmallJoins
set_option linter.unusedVariables false
set_option linter.unusedSimpArgs false
namespace Go.Proofs.YtobldbodafaajaaGreatDoor
open Go.RowKit Go.ChangeShapes Go.WideShapes Go.Deep

section
variable {H : Type} {enc : TypeId × Value → H} {P : Program} {w : World} {base : Nat} {spare : Nat → Bool} {held : Bool}

/-- A list of rows in memory. -/
def RdL (w : World) (v : Value) (ls : List (List UInt8)) : Prop :=
  ∃ a c, v = .slice a ls.length c ∧ ls.length ≤ c ∧ c ≤ maxLen ∧
    (0 < ls.length → ∃ b off, a = some ⟨b, off, none⟩ ∧ b < w.heap.size ∧ ∀ i, i < ls.length → ∃ u, w.cell? ⟨b, off + i, none⟩ = some u ∧ Rd w u (ls.getD i []))

theorem byte_wf {n : Int} (h : (Lit.int .u8 n).wf = true) : 0 ≤ n ∧ n < 256 := by
  have := bounds_u8 h
  omega

theorem Rd.of_cells {t e : TypeId} {fuel : Nat} {cs : List Value} {x : DataW H × List MemPlace} (ht : P.underlying t = some (.slice e)) (he : P.underlying e = some (.int .u8)) (hc : P.cellsOf e = 1)
    (h : DataW.trod enc P w base spare held fuel t cs = some x) : ∃ v l, cs = [v] ∧ Rd w v l := by
  rcases open_ints ht he hc h with ⟨rfl, _⟩ | ⟨a, len, cap, zs, rfl, _, hl, hm, hz, _, hcell, hwz⟩
  · exact ⟨_, [], rfl, none, 0, rfl, Nat.le_refl _, Nat.zero_le _, fun _ => rfl, fun y hy => by cases hy⟩
  · have hzl : len ≤ zs.length := by rw [hz]; split <;> omega
    have hlen : ((zs.take len).map fun z => UInt8.ofNat z.toNat).length = len := by simp; omega
    refine ⟨_, (zs.take len).map fun z => UInt8.ofNat z.toNat, rfl, some a, cap, by rw [hlen], by omega, hm, fun h => (by cases h), fun y hy i hi => ?_⟩
    cases hy
    rw [hlen] at hi
    rw [hcell i (by omega)]
    have hzi : i < zs.length := by omega
    have hw := byte_wf (hwz (zs[i]'hzi) (List.getElem_mem hzi))
    simp [List.getD_eq_getElem?_getD, List.getElem?_eq_getElem hzi]
    omega

theorem Rd.of_one {t e : TypeId} {fuel : Nat} {v : Value} {x : DataW H × List MemPlace} (ht : P.underlying t = some (.slice e)) (he : P.underlying e = some (.int .u8)) (hc : P.cellsOf e = 1)
    (h : DataW.trod enc P w base spare held fuel t [v] = some x) : ∃ l, Rd w v l := by
  obtain ⟨v', l, e, h⟩ := Rd.of_cells ht he hc h
  cases e
  exact ⟨l, h⟩

theorem Rd.of_arg {t e : TypeId} {a : Option Addr} {n c : Nat} {d : DataW H} {p : List MemPlace} (ht : P.underlying t = some (.slice e)) (he : P.underlying e = some (.int .u8)) (hc : P.cellsOf e = 1)
    (h : DataW.Trod enc P w base spare held t (.slice a n c) d p) : ∃ l, Rd w (.slice a n c) l := by
  obtain ⟨fuel, h⟩ := h
  exact Rd.of_one ht he hc h

theorem choose_list {α : Type} [Inhabited α] (n : Nat) (Q : Nat → α → Prop) (h : ∀ i, i < n → ∃ x, Q i x) (d : α) : ∃ l : List α, l.length = n ∧ ∀ i, i < n → Q i (l.getD i d) := by
  induction n with
  | zero => exact ⟨[], rfl, fun i hi => by omega⟩
  | succ n ih =>
    obtain ⟨l, hl, hq⟩ := ih fun i hi => h i (by omega)
    obtain ⟨x, hx⟩ := h n (by omega)
    refine ⟨l ++ [x], by simp [hl], fun i hi => ?_⟩
    rcases Nat.lt_or_ge i n with h1 | h1
    · rw [List.getD_eq_getElem?_getD, List.getElem?_append_left (by omega), ← List.getD_eq_getElem?_getD]
      exact hq i h1
    · have : i = n := by omega
      subst this
      rw [List.getD_eq_getElem?_getD, List.getElem?_append_right (by omega), hl, Nat.sub_self]
      exact hx

theorem RdL.of_arg {t t2 e : TypeId} {a : Option Addr} {n c : Nat} {d : DataW H} {p : List MemPlace} (ht : P.underlying t = some (.slice t2)) (hc2 : P.cellsOf t2 = 1) (ht2 : P.underlying t2 = some (.slice e)) (he : P.underlying e = some (.int .u8)) (hc : P.cellsOf e = 1)
    (h : DataW.Trod enc P w base spare held t (.slice a n c) d p) : ∃ ls, RdL w (.slice a n c) ls := by
  obtain ⟨fuel, h⟩ := h
  rcases open_slice ht h with ⟨hcs, _⟩ | ⟨x, len, cap, m, k, D, Pl, hcs, _, hl, hm, hmm, _, hi⟩
  · simp [Value.cells] at hcs
    obtain ⟨rfl, rfl, rfl⟩ := hcs
    exact ⟨[], none, 0, rfl, Nat.le_refl _, Nat.zero_le _, fun h => by simp at h⟩
  · simp [Value.cells] at hcs
    obtain ⟨rfl, rfl, rfl⟩ := hcs
    have hlm : n ≤ m := by rw [hmm]; split <;> omega
    have hone : ∀ i, i < n → ∃ l, ∃ u, w.cell? (x.add i) = some u ∧ Rd w u l := by
      intro i hin
      obtain ⟨cs', hcell, htr⟩ := hi i (by omega)
      rw [hc2] at hcell
      obtain ⟨_, hcl, hat⟩ := World.cells?_some hcell
      obtain ⟨u, l, rfl, hr⟩ := Rd.of_cells ht2 he hc htr
      refine ⟨l, u, ?_, hr⟩
      have := hat 0 (by omega)
      simpa [Addr.add] using this
    obtain ⟨ls, hls, hq⟩ := choose_list n (fun i l => ∃ u, w.cell? (x.add i) = some u ∧ Rd w u l) hone []
    refine ⟨ls, some x, c, by rw [hls], by omega, hm, fun hpos => ?_⟩
    obtain ⟨b, off, spot⟩ := x
    obtain ⟨u0, h0, _⟩ := hq 0 (by omega)
    have hs : spot = none := by simpa [Addr.add] using World.cell?_spot h0
    subst hs
    refine ⟨b, off, rfl, World.block_lt_of_cell? w _ h0, fun i hin => ?_⟩
    obtain ⟨u, hu, hr⟩ := hq i (by omega)
    have hadd : (⟨b, off, none⟩ : Addr).add i = ⟨b, off + i, none⟩ := by unfold Addr.add; split <;> simp_all
    rw [hadd] at hu
    exact ⟨u, hu, hr⟩

/-- A struct of five one-cell fields, by value. -/
theorem open_agg5 {r : Reach} {b0 : Nat} {t : TypeId} {f0 f1 f2 f3 f4 : Field} {v : Value} {d : DataW H} {p : List MemPlace} (hs : P.underlying t = some (.struct #[f0, f1, f2, f3, f4])) (hone : oneCellFields P #[f0, f1, f2, f3, f4] = true) (hC : P.cellsOf t = 5)
    (hv : Value.okWide P w r b0 t v) (h : DataW.Trod enc P w base spare held t v d p) :
    ∃ (v0 v1 v2 v3 v4 : Value) (y0 y1 y2 y3 y4 : DataW H × List MemPlace) (n : Nat), v = .agg #[v0, v1, v2, v3, v4] ∧
      DataW.trod enc P w base spare held n f0.type [v0] = some y0 ∧ DataW.trod enc P w base spare held n f1.type [v1] = some y1 ∧ DataW.trod enc P w base spare held n f2.type [v2] = some y2 ∧ DataW.trod enc P w base spare held n f3.type [v3] = some y3 ∧ DataW.trod enc P w base spare held n f4.type [v4] = some y4 := by
  obtain ⟨cs, rfl, hsz⟩ := okWide_struct hs hv
  obtain ⟨l⟩ := cs
  match l, hsz.trans hC with
  | [c0, c1, c2, c3, c4], _ =>
    obtain ⟨fuel, hf⟩ := h
    obtain ⟨xs, n, _, hx, _, hlen, hg⟩ := DataW.trod_struct hs hf
    obtain ⟨o0, k0⟩ := hone_of hone 0 f0 rfl
    obtain ⟨o1, k1⟩ := hone_of hone 1 f1 rfl
    obtain ⟨o2, k2⟩ := hone_of hone 2 f2 rfl
    obtain ⟨o3, k3⟩ := hone_of hone 3 f3 rfl
    obtain ⟨o4, k4⟩ := hone_of hone 4 f4 rfl
    match xs, hlen with
    | [y0, y1, y2, y3, y4], _ =>
      exact ⟨c0, c1, c2, c3, c4, y0, y1, y2, y3, y4, n, rfl, by simpa [Value.cells, o0, k0] using hg 0 f0 rfl, by simpa [Value.cells, o1, k1] using hg 1 f1 rfl, by simpa [Value.cells, o2, k2] using hg 2 f2 rfl, by simpa [Value.cells, o3, k3] using hg 3 f3 rfl, by simpa [Value.cells, o4, k4] using hg 4 f4 rfl⟩
end
end Go.Proofs.YtobldbodafaajaaGreatDoor

/- Slices of one-cell values (rows of rows): what they hold. Nothing of a dump. -/
set_option linter.unusedVariables false
set_option linter.unusedSimpArgs false
namespace Go.Proofs.YtobldbodafaajaaGreatDoor
open Go.RowKit Go.ChangeShapes Go.WideShapes Go.Deep

/-- The slice value v holds the values us, a cell each. -/
def Vals (w : World) (v : Value) (us : List Value) : Prop :=
  ∃ a c, v = .slice a us.length c ∧ us.length ≤ c ∧ c ≤ maxLen ∧ (a = none → c = 0) ∧
    ∀ x, a = some x → ∀ i, (h : i < us.length) → w.cell? (x.add i) = some (us[i]'h)
theorem Vals.kp {w w' : World} {v : Value} {us : List Value} (h : Vals w v us) (k : Kp w w') : Vals w' v us := by
  obtain ⟨a, c, rfl, h1, h2, h3, h4⟩ := h
  exact ⟨a, c, rfl, h1, h2, h3, fun x hx i hi => k.cell (h4 x hx i hi)⟩
theorem Vals.shape {w : World} {v : Value} {us : List Value} (h : Vals w v us) : ∃ a c, v = .slice a us.length c ∧ us.length ≤ c ∧ c ≤ maxLen := by
  obtain ⟨a, c, e, h1, h2, _⟩ := h
  exact ⟨a, c, e, h1, h2⟩
theorem Vals.nil (w : World) : Vals w (.slice none 0 0) [] := ⟨none, 0, rfl, Nat.le_refl _, Nat.zero_le _, fun _ => rfl, fun x hx => by cases hx⟩
theorem Vals.at {w : World} {a : Option Addr} {n c : Nat} {us : List Value} (h : Vals w (.slice a n c) us) (k : Nat) (hk : k < n) :
    ∃ b off, a = some ⟨b, off, none⟩ ∧ b < w.heap.size ∧ ∀ i, i < n → w.cell? ⟨b, off + i, none⟩ = some (us.getD i (.bool false)) := by
  obtain ⟨a', c', e, h1, h2, h3, h4⟩ := h
  simp only [Value.slice.injEq] at e
  obtain ⟨rfl, rfl, rfl⟩ := e
  cases a with
  | none => have := h3 rfl; omega
  | some x =>
    obtain ⟨b, off, spot⟩ := x
    have h0 := h4 _ rfl 0 (by omega)
    have hs : spot = none := by simpa [Addr.add] using World.cell?_spot h0
    subst hs
    refine ⟨b, off, rfl, World.block_lt_of_cell? w _ h0, fun i hi => ?_⟩
    have := h4 _ rfl i hi
    rw [List.getD_eq_getElem?_getD, List.getElem?_eq_getElem hi, Option.getD_some, ← this]
    congr 1
    unfold Addr.add
    split <;> simp_all
/-- A row of values of the call's own. -/
theorem Vals.own {w : World} {B : Nat} {e : TypeId} {v : Value} {us : List Value} (h : w.ownsRow B e 1 v us.length us) : Vals w v us := by
  rcases h.2 with ⟨rfl, h0⟩ | ⟨g, cap, cur, rfl, hb, hg, hn, hm, hs, ht⟩
  · exact ⟨none, 0, by rw [h0], by omega, Nat.zero_le _, fun _ => rfl, fun x hx => by cases hx⟩
  · refine ⟨_, cap, rfl, hn, hm, fun h => (by cases h), fun x hx i hi => ?_⟩
    cases hx
    have e : (⟨g, 0, none⟩ : Addr).add i = ⟨g, i, none⟩ := by unfold Addr.add; split <;> simp_all
    rw [e, cell_of_row w g i _ _ _ hg]
    have hx : us[i]? = some us[i] := List.getElem?_eq_getElem hi
    rw [← hx, ← ht, List.getElem?_take_of_lt (by omega)]
    simp

/-- The slice value v holds rows of bytes. -/
def RL (w : World) (v : Value) (ls : List (List UInt8)) : Prop := ∃ us, Vals w v us ∧ us.length = ls.length ∧ ∀ i, i < ls.length → Rd w (us.getD i (.bool false)) (ls.getD i [])
theorem RL.kp {w w' : World} {v : Value} {ls : List (List UInt8)} (h : RL w v ls) (k : Kp w w') : RL w' v ls := by
  obtain ⟨us, h1, h2, h3⟩ := h
  exact ⟨us, h1.kp k, h2, fun i hi => (h3 i hi).kp k⟩
theorem RL.shape {w : World} {v : Value} {ls : List (List UInt8)} (h : RL w v ls) : ∃ a c, v = .slice a ls.length c ∧ ls.length ≤ c ∧ c ≤ maxLen := by
  obtain ⟨us, h1, h2, h3⟩ := h
  rw [← h2]
  exact h1.shape
theorem RL.nil (w : World) : RL w (.slice none 0 0) [] := ⟨[], Vals.nil w, rfl, fun i hi => by simp at hi⟩
theorem RL.at {w : World} {a : Option Addr} {n c : Nat} {ls : List (List UInt8)} (h : RL w (.slice a n c) ls) (k : Nat) (hk : k < n) :
    ∃ b off, a = some ⟨b, off, none⟩ ∧ b < w.heap.size ∧ ∀ i, i < n → ∃ u, w.cell? ⟨b, off + i, none⟩ = some u ∧ Rd w u (ls.getD i []) := by
  obtain ⟨us, h1, h2, h3⟩ := h
  obtain ⟨b, off, ha, hb, hc⟩ := h1.at k hk
  have hn : n = us.length := by
    obtain ⟨a', c', e, _⟩ := h1.shape
    simp only [Value.slice.injEq] at e
    exact e.2.1
  exact ⟨b, off, ha, hb, fun i hi => ⟨_, hc i hi, h3 i (by omega)⟩⟩
theorem RL.cons {w : World} {B : Nat} {e : TypeId} {v u : Value} {l : List UInt8} {us : List Value} {ls : List (List UInt8)} (h : w.ownsRow B e 1 v (u :: us).length (u :: us)) (hu : Rd w u l) (hl : us.length = ls.length)
    (hr : ∀ i, i < ls.length → Rd w (us.getD i (.bool false)) (ls.getD i [])) : RL w v (l :: ls) := by
  refine ⟨u :: us, Vals.own h, by simp [hl], fun i hi => ?_⟩
  cases i with
  | zero => simpa using hu
  | succ i => simpa using hr i (by simpa using hi)

section
variable {H : Type} {enc : TypeId × Value → H} {P : Program} {w : World} {base : Nat} {spare : Nat → Bool} {held : Bool}
theorem RL.of_cells {t t2 e : TypeId} {fuel : Nat} {cs : List Value} {x : DataW H × List MemPlace} (ht : P.underlying t = some (.slice t2)) (hc2 : P.cellsOf t2 = 1) (ht2 : P.underlying t2 = some (.slice e)) (he : P.underlying e = some (.int .u8)) (hc : P.cellsOf e = 1)
    (h : DataW.trod enc P w base spare held fuel t cs = some x) : ∃ v ls, cs = [v] ∧ RL w v ls := by
  rcases open_slice ht h with ⟨hcs, _⟩ | ⟨x, len, cap, m, k, D, Pl, hcs, _, hl, hm, hmm, _, hi⟩
  · exact ⟨_, [], hcs, RL.nil w⟩
  · have hlm : len ≤ m := by rw [hmm]; split <;> omega
    have hone : ∀ i, i < len → ∃ y : Value × List UInt8, w.cell? (x.add i) = some y.1 ∧ Rd w y.1 y.2 := by
      intro i hin
      obtain ⟨cs', hcell, htr⟩ := hi i (by omega)
      rw [hc2] at hcell
      obtain ⟨_, hcl, hat⟩ := World.cells?_some hcell
      obtain ⟨u, l, rfl, hr⟩ := Rd.of_cells ht2 he hc htr
      refine ⟨(u, l), ?_, hr⟩
      have := hat 0 (by omega)
      simpa [Addr.add] using this
    obtain ⟨ys, hys, hq⟩ := @choose_list (Value × List UInt8) ⟨(.bool false, [])⟩ len (fun i y => w.cell? (x.add i) = some y.1 ∧ Rd w y.1 y.2) hone (.bool false, [])
    have hg : ∀ i, i < len → (ys.map (·.1)).getD i (.bool false) = (ys.getD i (.bool false, [])).1 ∧ (ys.map (·.2)).getD i [] = (ys.getD i (.bool false, [])).2 := fun i hi => by
      simp [List.getD_eq_getElem?_getD, List.getElem?_map, List.getElem?_eq_getElem (show i < ys.length by omega)]
    refine ⟨_, ys.map (·.2), hcs, ys.map (·.1), ⟨some x, cap, by simp [hys], by simp; omega, hm, fun h => (by cases h), fun y hy i hi => ?_⟩, by simp, fun i hi => ?_⟩
    · cases hy
      simp only [List.length_map, hys] at hi
      rw [(hq i hi).1]
      have := (hg i hi).1
      rw [List.getD_eq_getElem?_getD, List.getElem?_eq_getElem (by simpa [hys] using hi)] at this
      rw [← this]
      rfl
    · simp only [List.length_map, hys] at hi
      rw [(hg i hi).1, (hg i hi).2]
      exact (hq i hi).2
theorem RL.of_arg {t t2 e : TypeId} {v : Value} {d : DataW H} {p : List MemPlace} {r : Reach} {b0 : Nat} (ht : P.underlying t = some (.slice t2)) (hc2 : P.cellsOf t2 = 1) (ht2 : P.underlying t2 = some (.slice e)) (he : P.underlying e = some (.int .u8)) (hc : P.cellsOf e = 1)
    (hv : Value.okWide P w r b0 t v) (h : DataW.Trod enc P w base spare held t v d p) : ∃ ls, RL w v ls := by
  obtain ⟨a, n, c, rfl⟩ := okWide_slice ht hv
  obtain ⟨fuel, h⟩ := h
  obtain ⟨u, ls, e, hr⟩ := RL.of_cells ht hc2 ht2 he hc h
  simp [Value.cells] at e
  subst e
  exact ⟨ls, hr⟩
end
end Go.Proofs.YtobldbodafaajaaGreatDoor

/- append of rows of one-cell values, onto memory of the call's own. Nothing of a dump. -/
set_option linter.unusedVariables false
set_option linter.unusedSimpArgs false
namespace Go.Proofs.YtobldbodafaajaaGreatDoor
open Go.RowKit

/-- The type t is a slice of e, an element of which is one cell of at most 64 bytes. -/
structure S1 (P : Program) (t e : TypeId) : Prop where
  ht : P.underlying t = some (.slice e)
  hi : ∃ i z, P.info? e = some i ∧ i.zero = some z ∧ i.size = 1 ∧ i.bytes ≤ 64 ∧ z.cells.size = 1
theorem S1.mk' {P : Program} {t e : TypeId} {z : Value} {b : Nat} (ht : P.underlying t = some (.slice e)) (h : (P.info? e).map (fun i => (i.zero, i.size, i.bytes)) = some (some z, 1, b)) (hb : b ≤ 64) (hz : z.cells.size = 1) : S1 P t e := by
  obtain ⟨i, hi, hz0, hz1, hz2⟩ := info_parts h
  exact ⟨ht, i, z, hi, hz0, hz1, by omega, hz⟩
theorem wpList_append_vals {P : Program} {w : World} {t e : TypeId} (S : S1 P t e) {ops : Array Oper} {rest : List Oper} {o : Oper} {a : Act} {Q : Exit → Act → World → Prop} (hgd : o.guard = none) (s x : Operand)
    (ho : o.op = .call { callee := .builtin .append, args := #[s, x], argTypes := #[t, t] })
    (B : Nat) (v : Value) (us : List Value) (hs : a.eval s = v) (hown : w.ownsRow B e 1 v us.length us) (u : Value) (ms : List Value) (hx : a.eval x = u) (hu : Vals w u ms) (h1 : ∀ z ∈ ms, z.oneCell' = true)
    (hlen : us.length + ms.length ≤ 1000000000000) (hbase : B ≤ w.heap.size)
    (h : ∀ v' w', w'.ownsRow B e 1 v' (us ++ ms).length (us ++ ms) → w.grownBy w' v.ownBlock → wpList P ops Q rest (a.put o.dst v') w') : wpList P ops Q (o :: rest) a w := by
  obtain ⟨i, z, hi, hz, hsize, hby, hzc⟩ := S.hi
  obtain ⟨ad, c, rfl, hc, hm, hnil, hcell⟩ := hu
  cases ad with
  | none =>
    have hc0 := hnil rfl
    have hm0 : ms = [] := List.eq_nil_of_length_eq_zero (by omega)
    subst hm0
    subst hc0
    refine wpList_append_own_none hgd s x t ho B e i 1 S.ht hi v us.length us hs hown hx ?_
    exact h v w (by simpa using hown) ⟨rfl, rfl, rfl, Nat.le_refl _, fun _ _ _ => rfl⟩
  | some ad =>
    refine wpList_append_own w hgd s x t ho B e i z 1 i.bytes S.ht hi hz hsize rfl hzc (by decide) v us.length us hs hown ad ms.length c ms hx (by omega) (fun j y hj => ?_) h1 (by unfold maxLen; omega) ?_ hbase
      (fun v' w' h1 h2 h3 => h v' w' (by rw [List.length_append]; exact h1) h2)
    · have hjl : j < ms.length := (List.getElem?_eq_some_iff.1 hj).1
      rw [List.getElem?_eq_getElem hjl] at hj
      cases hj
      exact hcell ad rfl j hjl
    · have := Nat.mul_le_mul hlen hby
      omega
/-- append(v, u...) as in wpList_append_ow, behind a guard that said yes. -/
theorem wp_append_ow {P : Program} {w : World} {t e : TypeId} (U : U8 P t e) {o : Oper} {a : Act} {K : Act → World → Prop} {Q : Exit → Act → World → Prop} (s x : Operand)
    (ho : o.op = .call { callee := .builtin .append, args := #[s, x], argTypes := #[t, t] })
    (B : Nat) (v : Value) (l : List UInt8) (hs : a.eval s = v) (hown : Ow e w B v l) (u : Value) (m : List UInt8) (hx : a.eval x = u) (hu : Rd w u m)
    (hlen : l.length + m.length ≤ 140737488355328) (hbase : B ≤ w.heap.size)
    (h : ∀ v' w', Ow e w' B v' (l ++ m) → w.grownBy w' v.ownBlock → (v' = .slice none 0 0 → l = [] ∧ m = []) → K (a.put o.dst v') w') : o.wp P a w K Q := by
  obtain ⟨i, hi, hz, hsize, hby⟩ := U.hi
  obtain ⟨ad, c, rfl, hc, hm, hnil, hcell⟩ := hu
  cases ad with
  | none =>
    have hc0 := hnil rfl
    have hm0 : m = [] := List.eq_nil_of_length_eq_zero (by omega)
    subst hm0
    subst hc0
    have hrun := run_append_owned_none (P := P) (w := w) B t o.type e i 1 U.ht hi v l.length (Lib.byteCells l) hown
    have h' := h v w (by simpa using hown) ⟨rfl, rfl, rfl, Nat.le_refl _, fun _ _ _ => rfl⟩ (fun e => by
      subst e
      rcases hown.shape with ⟨_, h⟩ | ⟨g, c, h, _⟩
      · exact ⟨h, rfl⟩
      · cases h)
    unfold Oper.wp
    simp [execOp, ho, resolve, invoke, builtin, hs, hx, hrun, Result.andThen]
    exact h'
  | some ad =>
    refine wp_append_own w s x t ho B e i (.int .u8 0) 1 1 U.ht hi hz hsize hby rfl (by decide) v l.length (Lib.byteCells l) hs hown ad m.length c (Lib.byteCells m) hx (by rw [byteCells_length]; omega) (fun j z hj => ?_) (fun z hz => ?_) (by unfold maxLen; omega) (by omega) hbase
      (fun v' w' h1 h2 h3 => h v' w' (by unfold Ow; rw [List.length_append, byteCells_append]; exact h1) h2 (fun e => ?_))
    · have hjl : j < m.length := by
        have := (List.getElem?_eq_some_iff.1 hj).1
        rwa [byteCells_length] at this
      rw [byteCells_get m j hjl] at hj
      cases hj
      exact hcell ad rfl j hjl
    · obtain ⟨b, _, rfl⟩ := List.mem_map.1 hz
      rfl
    · obtain ⟨e1, e2⟩ := h3.1 e
      subst e1
      rcases hown.shape with ⟨_, h⟩ | ⟨g, c, h, _⟩
      · exact ⟨h, List.eq_nil_of_length_eq_zero e2⟩
      · cases h
theorem Rd.one {w : World} {v : Value} {l : List UInt8} (h : Rd w v l) : v.oneCell' = true := by
  obtain ⟨a, c, rfl, _⟩ := h.shape
  rfl
/-- A literal of one value. -/
theorem own_lit1 (w : World) (e : TypeId) (u : Value) : (w.alloc (.cells #[u] e)).ownsRow w.heap.size e 1 (.slice (some ⟨w.heap.size, 0, none⟩) 1 1) [u].length [u] :=
  World.ownsRow_lit w #[u] 1 (Nat.le_refl _) (by unfold maxLen; omega) rfl
end Go.Proofs.YtobldbodafaajaaGreatDoor

/- Slices of ints that tell nodes. Nothing of a dump. -/
set_option linter.unusedVariables false
set_option linter.unusedSimpArgs false
namespace Go.Proofs.YtobldbodafaajaaGreatDoor
open Go.RowKit

def iv (n : Nat) : Value := .int .i64 (n : Int)
/-- The slice value v reads as the numbers l. -/
def RN (w : World) (v : Value) (l : List Nat) : Prop := Vals w v (l.map iv)
/-- v holds l in memory of the call's own. -/
def ON (e : TypeId) (w : World) (B : Nat) (v : Value) (l : List Nat) : Prop := w.ownsRow B e 1 v (l.map iv).length (l.map iv)
theorem RN.kp {w w' : World} {v : Value} {l : List Nat} (h : RN w v l) (k : Kp w w') : RN w' v l := Vals.kp h k
theorem RN.nil (w : World) : RN w (.slice none 0 0) [] := Vals.nil w
theorem RN.shape {w : World} {v : Value} {l : List Nat} (h : RN w v l) : ∃ a c, v = .slice a l.length c ∧ l.length ≤ c ∧ c ≤ maxLen := by
  have := Vals.shape h
  rwa [List.length_map] at this
theorem RN.at {w : World} {a : Option Addr} {n c : Nat} {l : List Nat} (h : RN w (.slice a n c) l) (k : Nat) (hk : k < n) :
    ∃ b off, a = some ⟨b, off, none⟩ ∧ b < w.heap.size ∧ ∀ i, i < n → w.cell? ⟨b, off + i, none⟩ = some (.int .i64 ((l.getD i 0 : Nat) : Int)) := by
  obtain ⟨b, off, ha, hb, hc⟩ := Vals.at h k hk
  have hn : n = l.length := by
    obtain ⟨a', c', e, _⟩ := h.shape
    simp only [Value.slice.injEq] at e
    exact e.2.1
  refine ⟨b, off, ha, hb, fun i hi => ?_⟩
  rw [hc i hi, List.getD_eq_getElem?_getD, List.getElem?_map, List.getElem?_eq_getElem (by omega), List.getD_eq_getElem?_getD, List.getElem?_eq_getElem (by omega)]
  rfl
theorem ON.rn {e : TypeId} {w : World} {B : Nat} {v : Value} {l : List Nat} (h : ON e w B v l) : RN w v l := Vals.own h
theorem ON.nil (e : TypeId) (w : World) (B : Nat) : ON e w B (.slice none 0 0) [] := World.ownsRow_nil _ _ _ _
theorem ON.kp {e : TypeId} {w w' : World} {B : Nat} {v : Value} {l : List Nat} (h : ON e w B v l) (k : Kp w w') : ON e w' B v l := by
  refine ⟨h.1, ?_⟩
  rcases h.2 with hn | ⟨g, cap, cur, rfl, hb, hg, rest⟩
  · exact .inl hn
  · exact .inr ⟨g, cap, cur, rfl, hb, (Below.block k g (Array.getElem?_eq_some_iff.1 hg).1).trans hg, rest⟩
theorem ON.own_ge {e : TypeId} {w : World} {B : Nat} {v : Value} {l : List Nat} (h : ON e w B v l) : ∀ k, v.ownBlock = some k → B ≤ k := fun k hk => (World.ownsRow.lt h k hk).1
theorem RN.sl {w : World} {v : Value} {l : List Nat} (h : RN w v l) : ∃ a n c, v = .slice a n c := by
  obtain ⟨a, c, e, _⟩ := h.shape
  exact ⟨_, _, _, e⟩
/-- A literal of one number. -/
theorem ON.lit1 (w : World) (e : TypeId) (n : Nat) : RN (w.alloc (.cells #[.int .i64 (n : Int)] e)) (.slice (some ⟨w.heap.size, 0, none⟩) 1 1) [n] :=
  Vals.own (own_lit1 w e (iv n))
theorem RN.lit (w : World) (e : TypeId) (cs : Array Value) (l : List Nat) (n : Nat) (hn : l.length = n) (hm : n ≤ 1000000) (hc : cs.toList = l.map iv) :
    RN (w.alloc (.cells cs e)) (.slice (some ⟨w.heap.size, 0, none⟩) n n) l := by
  subst hn
  have hl : (l.map iv).length = l.length := List.length_map ..
  have h2 : (w.alloc (.cells cs e)).ownsRow w.heap.size e 1 (.slice (some ⟨w.heap.size, 0, none⟩) l.length l.length) l.length (l.map iv) := by
    rw [← hc]
    exact World.ownsRow_lit w cs l.length (Nat.le_refl _) (by unfold maxLen; omega) (by rw [← Array.length_toList, hc, hl]; omega)
  rw [← hl] at h2
  have h3 := Vals.own h2
  rw [hl] at h3
  exact h3
/-- The first numbers of a slice. -/
theorem RN.pre {w : World} {a : Option Addr} {n c : Nat} {l : List Nat} (h : RN w (.slice a n c) l) (k : Nat) (hk : k ≤ n) : RN w (.slice a k c) (l.take k) := by
  obtain ⟨a', c', e, h1, h2, h3, h4⟩ := h
  simp only [Value.slice.injEq] at e
  obtain ⟨rfl, rfl, rfl⟩ := e
  rw [List.length_map] at hk h1
  have hl : ((l.take k).map iv).length = k := by simp; omega
  refine ⟨a, c, by rw [hl], by omega, h2, h3, fun x hx i hi => ?_⟩
  rw [hl] at hi
  have h5 := h4 x hx i (by rw [List.length_map]; omega)
  rw [h5]
  simp
/-- append(v, n), v a row of the call's own. -/
theorem wpList_append_n {P : Program} {w : World} {t e : TypeId} (S : S1 P t e) {ops : Array Oper} {rest : List Oper} {o : Oper} {a : Act} {Q : Exit → Act → World → Prop} (hgd : o.guard = none) (s x : Operand)
    (ho : o.op = .call { callee := .builtin .append, args := #[s, x], argTypes := #[t, t] })
    (B : Nat) (v : Value) (l : List Nat) (hs : a.eval s = v) (hown : ON e w B v l) (u : Value) (n : Nat) (hx : a.eval x = u) (hu : RN w u [n]) (hlen : l.length ≤ 1000000) (hbase : B ≤ w.heap.size)
    (h : ∀ v' w', ON e w' B v' (l ++ [n]) → w.grownBy w' v.ownBlock → wpList P ops Q rest (a.put o.dst v') w') : wpList P ops Q (o :: rest) a w := by
  refine wpList_append_vals S hgd s x ho B v (l.map iv) hs hown u [iv n] hx hu (fun z hz => by simp at hz; subst hz; rfl) (by rw [List.length_map]; simp; omega) hbase (fun v' w' h1 h2 => h v' w' ?_ h2)
  unfold ON
  rw [List.map_append]
  exact h1
end Go.Proofs.YtobldbodafaajaaGreatDoor

/- Slices of integers of any sign. Nothing of a dump. -/
set_option linter.unusedVariables false
set_option linter.unusedSimpArgs false
namespace Go.Proofs.YtobldbodafaajaaGreatDoor
open Go.RowKit

def nI (n : Int) : Value := .int .i64 n
/-- The slice value v reads as the integers l. -/
def RI (w : World) (v : Value) (l : List Int) : Prop := Vals w v (l.map nI)
/-- v holds l in memory of the call's own. -/
def OI (e : TypeId) (w : World) (B : Nat) (v : Value) (l : List Int) : Prop := w.ownsRow B e 1 v (l.map nI).length (l.map nI)
theorem RI.kp {w w' : World} {v : Value} {l : List Int} (h : RI w v l) (k : Kp w w') : RI w' v l := Vals.kp h k
theorem RI.nil (w : World) : RI w (.slice none 0 0) [] := Vals.nil w
theorem RI.shape {w : World} {v : Value} {l : List Int} (h : RI w v l) : ∃ a c, v = .slice a l.length c ∧ l.length ≤ c ∧ c ≤ maxLen := by
  have := Vals.shape h
  rwa [List.length_map] at this
theorem RI.sl {w : World} {v : Value} {l : List Int} (h : RI w v l) : ∃ a n c, v = .slice a n c := by
  obtain ⟨a, c, e, _⟩ := h.shape
  exact ⟨_, _, _, e⟩
theorem RI.at {w : World} {a : Option Addr} {n c : Nat} {l : List Int} (h : RI w (.slice a n c) l) (k : Nat) (hk : k < n) :
    ∃ b off, a = some ⟨b, off, none⟩ ∧ b < w.heap.size ∧ ∀ i, i < n → w.cell? ⟨b, off + i, none⟩ = some (.int .i64 (l.getD i 0)) := by
  obtain ⟨b, off, ha, hb, hc⟩ := Vals.at h k hk
  have hn : n = l.length := by
    obtain ⟨a', c', e, _⟩ := h.shape
    simp only [Value.slice.injEq] at e
    exact e.2.1
  refine ⟨b, off, ha, hb, fun i hi => ?_⟩
  rw [hc i hi, List.getD_eq_getElem?_getD, List.getElem?_map, List.getElem?_eq_getElem (by omega), List.getD_eq_getElem?_getD, List.getElem?_eq_getElem (by omega)]
  rfl
theorem RN.ri {w : World} {v : Value} {l : List Nat} (h : RN w v l) : RI w v (l.map fun (n : Nat) => (n : Int)) := by
  unfold RI
  rw [List.map_map]
  exact h
theorem RI.rn {w : World} {v : Value} {l : List Nat} (h : RI w v (l.map fun (n : Nat) => (n : Int))) : RN w v l := by
  unfold RI at h
  rw [List.map_map] at h
  exact h
theorem ON.oi {e : TypeId} {w : World} {B : Nat} {v : Value} {l : List Nat} (h : ON e w B v l) : OI e w B v (l.map fun (n : Nat) => (n : Int)) := by
  unfold OI
  rw [List.map_map]
  exact h
theorem OI.ri {e : TypeId} {w : World} {B : Nat} {v : Value} {l : List Int} (h : OI e w B v l) : RI w v l := Vals.own h
theorem OI.nil (e : TypeId) (w : World) (B : Nat) : OI e w B (.slice none 0 0) [] := World.ownsRow_nil _ _ _ _
theorem ownsRow_kp9 {w w' : World} {B C : Nat} {e : TypeId} {n : Nat} {v : Value} {us : List Value} (h : w.ownsRow B e C v n us) (k : Kp w w') : w'.ownsRow B e C v n us := by
  refine ⟨h.1, ?_⟩
  rcases h.2 with hn | ⟨g, cap, cur, rfl, hb, hg, rest⟩
  · exact .inl hn
  · exact .inr ⟨g, cap, cur, rfl, hb, (Below.block k g (Array.getElem?_eq_some_iff.1 hg).1).trans hg, rest⟩
theorem OI.kp {e : TypeId} {w w' : World} {B : Nat} {v : Value} {l : List Int} (h : OI e w B v l) (k : Kp w w') : OI e w' B v l := ownsRow_kp9 h k
theorem OI.mono {e : TypeId} {w : World} {B C : Nat} {v : Value} {l : List Int} (h : OI e w B v l) (hb : C ≤ B) : OI e w C v l := by
  refine ⟨h.1, ?_⟩
  rcases h.2 with hn | ⟨g, cap, cur, e1, h1, rest⟩
  · exact .inl hn
  · exact .inr ⟨g, cap, cur, e1, by omega, rest⟩
theorem OI.lt {e : TypeId} {w : World} {B : Nat} {v : Value} {l : List Int} (h : OI e w B v l) : ∀ k, v.ownBlock = some k → B ≤ k ∧ k < w.heap.size := fun k hk => World.ownsRow.lt h k hk
theorem RI.lit (w : World) (e : TypeId) (cs : Array Value) (l : List Int) (n : Nat) (hn : l.length = n) (hm : n ≤ 1000000) (hc : cs.toList = l.map nI) :
    OI e (w.alloc (.cells cs e)) w.heap.size (.slice (some ⟨w.heap.size, 0, none⟩) n n) l := by
  subst hn
  have hl : (l.map nI).length = l.length := List.length_map ..
  unfold OI
  rw [hl]
  have h2 : (w.alloc (.cells cs e)).ownsRow w.heap.size e 1 (.slice (some ⟨w.heap.size, 0, none⟩) l.length l.length) l.length cs.toList :=
    World.ownsRow_lit w cs l.length (Nat.le_refl _) (by unfold maxLen; omega) (by rw [← Array.length_toList, hc, hl]; omega)
  rw [hc] at h2
  exact h2
theorem RI.pre {w : World} {a : Option Addr} {n c : Nat} {l : List Int} (h : RI w (.slice a n c) l) (k : Nat) (hk : k ≤ n) : RI w (.slice a k c) (l.take k) := by
  obtain ⟨a', c', e, h1, h2, h3, h4⟩ := h
  simp only [Value.slice.injEq] at e
  obtain ⟨rfl, rfl, rfl⟩ := e
  rw [List.length_map] at hk h1
  have hl : ((l.take k).map nI).length = k := by simp; omega
  refine ⟨a, c, by rw [hl], by omega, h2, h3, fun x hx i hi => ?_⟩
  rw [hl] at hi
  have h5 := h4 x hx i (by rw [List.length_map]; omega)
  rw [h5]
  simp
/-- append(v, u...): v a row of the call's own; where the row lies then. -/
theorem wpList_append_i {P : Program} {w : World} {t e : TypeId} (S : S1 P t e) {ops : Array Oper} {rest : List Oper} {o : Oper} {a : Act} {Q : Exit → Act → World → Prop} (hgd : o.guard = none) (s x : Operand)
    (ho : o.op = .call { callee := .builtin .append, args := #[s, x], argTypes := #[t, t] })
    (B : Nat) (v : Value) (l : List Int) (hs : a.eval s = v) (hown : OI e w B v l) (u : Value) (m : List Int) (hx : a.eval x = u) (hu : RI w u m) (hlen : l.length + m.length ≤ 1000000) (hbase : B ≤ w.heap.size)
    (h : ∀ v' w', OI e w' B v' (l ++ m) → w.grownBy w' v.ownBlock → wpList P ops Q rest (a.put o.dst v') w') : wpList P ops Q (o :: rest) a w := by
  refine wpList_append_vals S hgd s x ho B v (l.map nI) hs hown u (m.map nI) hx hu (fun z hz => ?_) (by rw [List.length_map, List.length_map]; omega) hbase (fun v' w' h1 h2 => h v' w' ?_ h2)
  · obtain ⟨n, _, rfl⟩ := List.mem_map.1 hz
    rfl
  · unfold OI
    rw [List.map_append]
    exact h1
end Go.Proofs.YtobldbodafaajaaGreatDoor

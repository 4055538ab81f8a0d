/- Arguments, opened: arrays of integers; how many bytes rows of rows may have (the reach). -/
import Derived.Test.YtpbhikpcbfldgaaVals
import Derived.OpenShut
import Derived.SizedLaws
set_option linter.unusedVariables false
set_option linter.unusedSimpArgs false
namespace Go.Proofs.Ytpbhikpcbfldgaa
open Go.RowKit Go.ChangeShapes Go.WideShapes Go.Deep

section
variable {H : Type} {enc : TypeId × Value → H} {P : Program} {w : World} {base : Nat} {spare : Nat → Bool} {held : Bool}
theorem arr_ints {t e : TypeId} {n : Nat} {k : IntKind} {v : Value} {d : DataW H} {p : List MemPlace} {r : Reach} {b0 : Nat} (ht : P.underlying t = some (.array n e)) (he : P.underlying e = some (.int k)) (hc : P.cellsOf e = 1) (hct : P.cellsOf t = n)
    (hv : Value.okWide P w r b0 t v) (h : DataW.Trod enc P w base spare held t v d p) : ∃ zs : List Int, v = .agg (zs.map (Value.int k)).toArray ∧ zs.length = n ∧ ∀ z ∈ zs, (Lit.int k z).wf = true := by
  simp only [Value.okWide, ht] at hv
  obtain ⟨cs, rfl, _⟩ := hv
  obtain ⟨fuel, h⟩ := h
  obtain ⟨xs, m, _, _, hl, hxl, hi⟩ := DataW.trod_array ht h
  rw [hct] at hl
  simp only [Value.cells] at hl hi
  have key : ∀ i, i < n → ∃ y : Int, cs.toList[i]? = some (.int k y) ∧ (Lit.int k y).wf = true := fun i h8 => by
    have h1 := hi i h8
    have hlt : i < cs.toList.length := by omega
    rw [hc, Nat.mul_one, List.drop_eq_getElem_cons hlt, List.take_succ_cons, List.take_zero, List.getElem?_eq_getElem (by omega)] at h1
    obtain ⟨y, hy, _, hw⟩ := DataW.trod_int he h1
    cases hy' : cs.toList[i]'hlt
    all_goals rw [hy'] at hy
    all_goals simp at hy
    obtain ⟨rfl, rfl⟩ := hy
    exact ⟨_, by rw [List.getElem?_eq_getElem hlt, hy'], hw⟩
  obtain ⟨zs, hzl, hq⟩ := choose_list n (fun i (y : Int) => cs.toList[i]? = some (.int k y) ∧ (Lit.int k y).wf = true) key 0
  refine ⟨zs, ?_, hzl, fun z hz => ?_⟩
  · congr 1
    apply Array.ext'
    apply List.ext_getElem?
    intro i
    rcases Nat.lt_or_ge i n with h0 | h0
    · rw [(hq i h0).1]
      simp [List.getD_eq_getElem?_getD, List.getElem?_eq_getElem (show i < zs.length by omega)]
    · rw [List.getElem?_eq_none (by omega), List.getElem?_eq_none (by simp; omega)]
  · obtain ⟨i, hi', rfl⟩ := List.getElem_of_mem hz
    have := (hq i (by omega)).2
    rwa [List.getD_eq_getElem?_getD, List.getElem?_eq_getElem hi'] at this
theorem arr2_ints {t e : TypeId} {k : IntKind} {v : Value} {d : DataW H} {p : List MemPlace} {r : Reach} {b0 : Nat} (ht : P.underlying t = some (.array 2 e)) (he : P.underlying e = some (.int k)) (hc : P.cellsOf e = 1) (hct : P.cellsOf t = 2)
    (hv : Value.okWide P w r b0 t v) (h : DataW.Trod enc P w base spare held t v d p) : ∃ x y : Int, v = .agg #[.int k x, .int k y] ∧ (Lit.int k x).wf = true ∧ (Lit.int k y).wf = true := by
  obtain ⟨zs, rfl, hl, hz⟩ := arr_ints ht he hc hct hv h
  match zs, hl with
  | [x, y], _ => exact ⟨x, y, rfl, hz x (by simp), hz y (by simp)⟩

/-- How long a row is that was read, where its weight is known. -/
theorem Rd.weighs {t e : TypeId} {fuel : Nat} {v : Value} {l : List UInt8} {x : DataW H × List MemPlace} (ht : P.underlying t = some (.slice e)) (hb : P.bytesOf e = 1) (hr : Rd w v l)
    (h : DataW.trod enc P w base spare held fuel t [v] = some x) (B : Nat) (hx : ∀ n ∈ x.1.weights P t, n ≤ B) : l.length ≤ B := by
  obtain ⟨a, c, rfl, _, _⟩ := hr.shape
  rcases open_slice ht h with ⟨hcs, _⟩ | ⟨y, len, cap, m, k, D, Pl, hcs, _, hl, hm, hmm, hxd, hi⟩
  · simp at hcs
    omega
  · simp at hcs
    obtain ⟨rfl, rfl, rfl⟩ := hcs
    have := hx ((l.length + (m - l.length)) * 1) (by rw [hxd]; simp [DataW.weights, ht, hb])
    omega
theorem weights_all {P : Program} {e : TypeId} {d : DataW H} : ∀ {ds : List (DataW H)}, d ∈ ds → ∀ n ∈ d.weights P e, n ∈ DataW.weightsAll P e ds
  | d0 :: ds, hd, n, hn => by
    simp only [DataW.weightsAll, List.mem_append]
    rcases List.mem_cons.1 hd with rfl | hd
    · exact .inl hn
    · exact .inr (weights_all hd n hn)
  | [], hd, _, _ => by simp at hd
theorem RL.of_sized {t t2 e : TypeId} {v : Value} {d : DataW H} {p : List MemPlace} {r : Reach} {b0 : Nat} (ht : P.underlying t = some (.slice t2)) (hc2 : P.cellsOf t2 = 1) (ht2 : P.underlying t2 = some (.slice e)) (he : P.underlying e = some (.int .u8)) (hc : P.cellsOf e = 1) (hb : P.bytesOf e = 1)
    (hv : Value.okWide P w r b0 t v) (h : DataW.Trod enc P w base spare held t v d p) (B : Nat) (hd : ∀ n ∈ d.weights P t, n ≤ B) : ∃ ls, RL w v ls ∧ ∀ i, i < ls.length → (ls.getD i []).length ≤ B := by
  obtain ⟨a, n, c, rfl⟩ := okWide_slice ht hv
  obtain ⟨fuel, h⟩ := h
  rcases open_slice ht h with ⟨hcs, _⟩ | ⟨x, len, cap, m, k, D, Pl, hcs, _, hl, hm, hmm, hxd, hi⟩
  · simp [Value.cells] at hcs
    obtain ⟨rfl, rfl, rfl⟩ := hcs
    exact ⟨[], RL.nil w, fun i hi => by simp at hi⟩
  · simp [Value.cells] at hcs
    obtain ⟨rfl, rfl, rfl⟩ := hcs
    simp only [Prod.mk.injEq] at hxd
    obtain ⟨rfl, _⟩ := hxd
    have hlm : n ≤ m := by rw [hmm]; split <;> omega
    have hone : ∀ i, i < n → ∃ y : Value × List UInt8, w.cell? (x.add i) = some y.1 ∧ Rd w y.1 y.2 ∧ y.2.length ≤ B := by
      intro i hin
      obtain ⟨cs', hcell, htr⟩ := hi i (by omega)
      rw [hc2] at hcell
      obtain ⟨_, hcl, hat⟩ := World.cells?_some hcell
      obtain ⟨u, l, rfl, hr⟩ := Rd.of_cells ht2 he hc htr
      refine ⟨(u, l), ?_, hr, Rd.weighs ht2 hb hr htr B (fun z hz => hd z ?_)⟩
      · have := hat 0 (by omega)
        simpa [Addr.add] using this
      · simp only [DataW.weights, ht]
        refine List.mem_cons_of_mem _ (List.mem_append_left _ (weights_all (d := D i) ?_ z hz))
        exact List.mem_map.2 ⟨i, List.mem_range.2 hin, rfl⟩
    obtain ⟨ys, hys, hq⟩ := @choose_list (Value × List UInt8) ⟨(.bool false, [])⟩ n (fun i y => w.cell? (x.add i) = some y.1 ∧ Rd w y.1 y.2 ∧ y.2.length ≤ B) hone (.bool false, [])
    have hg : ∀ i, i < n → (ys.map (·.1)).getD i (.bool false) = (ys.getD i (.bool false, [])).1 ∧ (ys.map (·.2)).getD i [] = (ys.getD i (.bool false, [])).2 := fun i hi => by
      simp [List.getD_eq_getElem?_getD, List.getElem?_map, List.getElem?_eq_getElem (show i < ys.length by omega)]
    refine ⟨ys.map (·.2), ⟨ys.map (·.1), ⟨some x, c, by simp [hys], by simp; omega, hm, fun h => (by cases h), fun y hy i hi => ?_⟩, by simp, fun i hi => ?_⟩, fun i hi => ?_⟩
    · cases hy
      simp only [List.length_map, hys] at hi
      rw [(hq i hi).1]
      have := (hg i hi).1
      rw [List.getD_eq_getElem?_getD, List.getElem?_eq_getElem (by simpa [hys] using hi)] at this
      rw [← this]
      rfl
    · simp only [List.length_map, hys] at hi
      rw [(hg i hi).1, (hg i hi).2]
      exact (hq i hi).2.1
    · simp only [List.length_map, hys] at hi
      rw [(hg i hi).2]
      exact (hq i hi).2.2
theorem weights_reach {ts : List TypeId} {ds : List (DataW H)} (h : (DataW.weightsEach P ts ds).all (· ≤ reachBytes) = true) {j : Nat} {t : TypeId} {d : DataW H} (ht : ts[j]? = some t) (hd : ds[j]? = some d) : ∀ n ∈ d.weights P t, n ≤ 140737488351232 := fun n hn => by
  have := List.all_eq_true.1 h n (DataW.weights_mem_each ht hd n hn)
  have hr : reachBytes = 140737488351232 := rfl
  rw [hr] at this
  simpa using this
end
end Go.Proofs.Ytpbhikpcbfldgaa

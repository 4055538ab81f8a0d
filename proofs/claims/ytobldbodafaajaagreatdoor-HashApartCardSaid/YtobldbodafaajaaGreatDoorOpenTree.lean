/- Arguments, opened: rows of integers, rows of nodes. Nothing of a dump. -/
import Derived.Test.YtobldbodafaajaaGreatDoorTreePl9
import Derived.Deep.Fields
set_option linter.unusedVariables false
set_option linter.unusedSimpArgs false
namespace Go.Proofs.YtobldbodafaajaaGreatDoor
open Go.RowKit Go.ChangeShapes Go.WideShapes Go.Deep

instance : Inhabited Nod := ⟨blankN⟩
section
variable {H : Type} {enc : TypeId × Value → H} {P : Program} {w : World} {base : Nat} {spare : Nat → Bool} {held : Bool}
theorem RI.of_one {t e : TypeId} {fuel : Nat} {v : Value} {x : DataW H × List MemPlace} (ht : P.underlying t = some (.slice e)) (he : P.underlying e = some (.int .i64)) (hc : P.cellsOf e = 1)
    (h : DataW.trod enc P w base spare held fuel t [v] = some x) : ∃ l, RI w v l := by
  rcases open_ints ht he hc h with ⟨hcs, _⟩ | ⟨a, len, cap, zs, hcs, _, hl, hm, hz, _, hcell, _⟩
  · cases hcs
    exact ⟨[], RI.nil w⟩
  · cases hcs
    have hzl : len ≤ zs.length := by rw [hz]; split <;> omega
    have hlen : ((zs.take len).map nI).length = len := by simp; omega
    refine ⟨zs.take len, some a, cap, by rw [hlen], by rw [hlen]; exact hl, hm, fun h => (by cases h), fun y hy i hi => ?_⟩
    cases hy
    rw [hlen] at hi
    rw [hcell i (by omega)]
    simp [nI, List.getD_eq_getElem?_getD, List.getElem?_eq_getElem (show i < zs.length by omega)]

/-- A row of nodes, as it came in. -/
theorem NL.of_cells {t e : TypeId} {f0 f1 f2 f3 f4 : Field} {fuel : Nat} {cs : List Value} {x : DataW H × List MemPlace} {eb ei : TypeId} (ht : P.underlying t = some (.slice e)) (he : P.underlying e = some (.struct #[f0, f1, f2, f3, f4]))
    (hone : oneCellFields P #[f0, f1, f2, f3, f4] = true) (hC : P.cellsOf e = 5) (h0 : P.underlying f0.type = some (.int .i64)) (h1 : P.underlying f1.type = some (.int .i64)) (h2 : P.underlying f2.type = some (.slice eb)) (h3 : P.underlying f3.type = some (.slice ei)) (h4 : P.underlying f4.type = some (.slice eb))
    (hb : P.underlying eb = some (.int .u8)) (hbc : P.cellsOf eb = 1) (hi : P.underlying ei = some (.int .i64)) (hic : P.cellsOf ei = 1)
    (h : DataW.trod enc P w base spare held fuel t cs = some x) : ∃ v l, cs = [v] ∧ NL w v l := by
  rcases open_slice ht h with ⟨hcs, _⟩ | ⟨a, len, cap, m, n, D, Pl, hcs, _, hl, hm, hmm, _, hel⟩
  · exact ⟨_, [], hcs, NL.nil w⟩
  · have hlm : len ≤ m := by rw [hmm]; split <;> omega
    rw [hC] at hel
    have key : ∀ i, i < len → ∃ nd : Nod, ∃ p u q, (w.cell? (a.add (i * 5)) = some (.int .i64 nd.kind) ∧ w.cell? ((a.add (i * 5)).add 1) = some (.int .i64 nd.name) ∧ w.cell? ((a.add (i * 5)).add 2) = some p ∧ w.cell? ((a.add (i * 5)).add 3) = some u ∧ w.cell? ((a.add (i * 5)).add 4) = some q) ∧ NIn w nd p u q := by
      intro i hil
      obtain ⟨cs', hcc, htr⟩ := hel i (by omega)
      obtain ⟨_, hl5, hat⟩ := World.cells?_some hcc
      obtain ⟨xs, n', _, _, _, hxs, hg⟩ := DataW.trod_struct he htr
      obtain ⟨o0, k0⟩ := hone_of hone 0 f0 rfl
      obtain ⟨o1, k1⟩ := hone_of hone 1 f1 rfl
      obtain ⟨o2, k2⟩ := hone_of hone 2 f2 rfl
      obtain ⟨o3, k3⟩ := hone_of hone 3 f3 rfl
      obtain ⟨o4, k4⟩ := hone_of hone 4 f4 rfl
      match cs', hl5 with
      | [c0, c1, c2, c3, c4], _ =>
        have hxl : xs.length = 5 := hxs
        match xs, hxl with
        | [y0, y1, y2, y3, y4], _ =>
          have g0 : DataW.trod enc P w base spare held n' f0.type [c0] = some y0 := by simpa [o0, k0] using hg 0 f0 rfl
          have g1 : DataW.trod enc P w base spare held n' f1.type [c1] = some y1 := by simpa [o1, k1] using hg 1 f1 rfl
          have g2 : DataW.trod enc P w base spare held n' f2.type [c2] = some y2 := by simpa [o2, k2] using hg 2 f2 rfl
          have g3 : DataW.trod enc P w base spare held n' f3.type [c3] = some y3 := by simpa [o3, k3] using hg 3 f3 rfl
          have g4 : DataW.trod enc P w base spare held n' f4.type [c4] = some y4 := by simpa [o4, k4] using hg 4 f4 rfl
          obtain ⟨n0, e0, _, _⟩ := DataW.trod_int h0 g0
          obtain ⟨n1, e1, _, _⟩ := DataW.trod_int h1 g1
          cases e0
          cases e1
          obtain ⟨l2, r2⟩ := Rd.of_one h2 hb hbc g2
          obtain ⟨l3, r3⟩ := RI.of_one h3 hi hic g3
          obtain ⟨l4, r4⟩ := Rd.of_one h4 hb hbc g4
          refine ⟨⟨n0, n1, l2, l3, l4⟩, c2, c3, c4, ⟨?_, hat 1 (by omega), hat 2 (by omega), hat 3 (by omega), hat 4 (by omega)⟩, r2, r3, r4⟩
          have := hat 0 (by omega)
          rwa [show (a.add (i * 5)).add 0 = a.add (i * 5) by unfold Addr.add; split <;> simp_all] at this
    obtain ⟨l, hll, hlq⟩ := choose_list len _ key blankN
    refine ⟨_, l, by rw [hcs, hll], some a, cap, rfl, by omega, hm, fun h => (by cases h), fun h0 => ?_⟩
    rw [hll] at h0
    obtain ⟨b, off, spot⟩ := a
    obtain ⟨p, u, q, ⟨hc0, _⟩, _⟩ := hlq 0 h0
    have hs : spot = none := by simpa [Addr.add] using World.cell?_spot hc0
    subst hs
    refine ⟨b, off, rfl, World.block_lt_of_cell? w _ hc0, fun i hi => ?_⟩
    rw [hll] at hi
    obtain ⟨p, u, q, ⟨d0, d1, d2, d3, d4⟩, hin⟩ := hlq i hi
    simp only [Addr.add_mid] at d0 d1 d2 d3 d4
    refine ⟨p, u, q, fun j v hj => ?_, hin⟩
    have hj5 : j < 5 := (List.getElem?_eq_some_iff.1 hj).1
    match j, hj5 with
    | 0, _ => cases hj; exact d0
    | 1, _ => cases hj; exact d1
    | 2, _ => cases hj; exact d2
    | 3, _ => cases hj; exact d3
    | 4, _ => cases hj; exact d4
end
end Go.Proofs.YtobldbodafaajaaGreatDoor

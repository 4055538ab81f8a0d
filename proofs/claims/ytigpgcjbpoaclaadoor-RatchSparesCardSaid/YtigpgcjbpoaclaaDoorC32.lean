import Derived.Test.YtigpgcjbpoaclaaDoorC7
import Derived.Test.YtigpgcjbpoaclaaDoorC29
import Derived.Deep.RegionLaw
import Derived.Deep.Upon
import Derived.ArgAppend
import Derived.Deep.Fields
set_option linter.unusedVariables false
set_option linter.unusedSimpArgs false
namespace Go.Proofs.YtigpgcjbpoaclaaDoor
open Go.RowKit
def RZ (Z : Nat → Prop) (w : World) (v : Value) (l : List UInt8) : Prop := Rd w v l ∧ Free Z v
theorem RZ.solid {Z Z' : Nat → Prop} {w : World} {v : Value} {l : List UInt8} (h : RZ Z w v l) (hz : ∀ g, Z' g → Z g ∨ ¬ Solid w g) : RZ Z' w v l := ⟨h.1, h.2.solid h.1.solid hz⟩
theorem RZ.step {Z : Nat → Prop} {w w' : World} {v : Value} {l : List UInt8} (h : RZ Z w v l) (hs : Step Z w w') : RZ Z w' v l := ⟨h.1.stepF hs h.2, h.2⟩
theorem RZ.of {w : World} {v : Value} {l : List UInt8} (h : Rd w v l) : RZ noB w v l := ⟨h, Free.none v⟩
theorem RZ.one {Z : Nat → Prop} {w : World} {v : Value} {l : List UInt8} (h : RZ Z w v l) : v.oneCell' = true := by
  obtain ⟨a, c, rfl, _⟩ := h.1.shape
  rfl
section
variable {α : Type} {S : Sh α} {P : Program} {t e : TypeId}
theorem GZ.se13' {Z : Nat → Prop} {w : World} {B : Nat} {v : Value} {t : List α} (h : GZ S e Z w B v t) : SE S Z w v t := by
  by_cases h0 : 0 < t.length
  · obtain ⟨g, c, rfl, hb, hg, h1, h2, h3⟩ := h.form h0
    refine ⟨_, c, rfl, h1, h2, fun h => (by cases h), fun _ => ⟨g, 0, rfl, hg, fun i x hx => ?_⟩⟩
    rw [Nat.zero_add]
    obtain ⟨vs, r1, r2⟩ := h3 i x hx
    exact ⟨vs, r1, S.mono r2 fun _ h => .inr h⟩
  · have ht : t = [] := List.eq_nil_of_length_eq_zero (by omega)
    subst ht
    obtain ⟨us, h1, _⟩ := h
    rcases h1.2 with ⟨rfl, _⟩ | ⟨g, cap, cur, rfl, hb, hg, hn, hm, hs, ht⟩
    · exact SE.nil Z w
    · exact ⟨_, cap, rfl, hn, hm, fun h => (by cases h), fun h => absurd h (by simp)⟩
theorem sz_of_owns {Z : Nat → Prop} {w w' : World} {v : Value} {us : List Value} {t : List α} (h1 : w'.ownsRow w.heap.size e S.k v t.length us) (h2 : ∀ z ∈ us, z.oneCell' = true) (hk : Kp w w') (hZ : ∀ g, Z g → g < w.heap.size)
    (h3 : ∀ i x, t[i]? = some x → ∃ vs, (∀ f, f < S.k → us[i * S.k + f]? = vs[f]?) ∧ S.R Z w vs x) : SZ S Z w' v t := by
  have hg : GZ S e Z w' w.heap.size v t := ⟨us, h1, h2, fun i x hx => by
    obtain ⟨vs, a1, a2⟩ := h3 i x hx
    refine ⟨vs, a1, S.mono (S.step (S.fresh a2) (Step.of_kp hk)) fun g hg => hg.elim (fun hg => .inr ?_) fun hg => .inl hg⟩
    exact (World.ownsRow.lt h1 g hg.symm).1⟩
  refine ⟨hg.se13', fun x n c e h0 hz => ?_⟩
  have h4 := (hg.lt x.block (by rw [e]; rfl)).1
  have h5 := hZ _ hz
  omega
theorem run_append_full {Z : Nat → Prop} (K : SK P t e S.k) (w : World) (ty : TypeId) (a : Option Addr) (n : Nat) (ts ms : List α) (u : Value) (hs : SZ S Z w (.slice a n n) ts) (hu : SZ S Z w u ms) (hZ : ∀ g, Z g → g < w.heap.size) (hlen : ts.length + ms.length ≤ 1000000) :
    ∃ v' w', (Builtin.append_ #[t, t] ty #[.slice a n n, u]).run P w = .ok v' w' ∧ SZ S Z w' v' (ts ++ ms) ∧ Kp w w' := by
  obtain ⟨i, z, hi, hz, hsize, hby, hzc⟩ := K.hi
  have hs0 := hs
  have hs := hs.1
  obtain ⟨a', c', e', hc', hm', hn', hcell'⟩ := hs
  simp only [Value.slice.injEq] at e'
  obtain ⟨rfl, rfl, rfl⟩ := e'
  obtain ⟨ad, c, rfl, hc, hm, hnil, hcell⟩ := hu.1
  have hbt : (ts.length + ms.length) * i.bytes ≤ 140737488355328 := by
    have := Nat.mul_le_mul hlen hby
    omega
  by_cases h0 : 0 < ms.length
  · obtain ⟨b, off, rfl, _, hn⟩ := hcell h0
    obtain ⟨news, n1, n2, n3, n4⟩ := SE.flat hn
    have news4 : ∀ j y, news[j]? = some y → w.cell? ((⟨b, off, none⟩ : Addr).add j) = some y := fun j y hj => by rw [Addr.add_mid]; exact n3 j y hj
    cases a with
    | none =>
      have hl0 : ts.length = 0 := hn' rfl
      have ht0 : ts = [] := List.eq_nil_of_length_eq_zero hl0
      subst ht0
      obtain ⟨v', w', hr, k1, k2, _⟩ := run_append_own (P := P) w w.heap.size t ty e i z S.k i.bytes K.ht hi hz hsize rfl hzc S.pos (.slice none 0 0) 0 [] (World.ownsRow_nil w _ e S.k) ⟨b, off, none⟩ ms.length c news n1 news4 n2 (by unfold maxLen; simp at hlen; omega) (by simpa using hbt) (Nat.le_refl _)
      have hk : Kp w w' := Kp.grown (v := .slice none 0 0) (Kp.refl _) k2 (by intro k hk; simp [Value.ownBlock] at hk)
      refine ⟨v', w', hr, ?_, hk⟩
      exact sz_of_owns (us := news) (by simpa using k1) n2 hk hZ n4
    | some a0 =>
      by_cases ht : 0 < ts.length
      · obtain ⟨b0, off0, e0, _, hn0⟩ := hcell' ht
        simp only [Option.some.injEq] at e0
        subst e0
        obtain ⟨olds, o1, o2, o3, o4⟩ := SE.flat hn0
        obtain ⟨v', w', hr, k1, k2⟩ := run_append_arg_grows (P := P) w t ty e i z S.k i.bytes K.ht hi hz hsize rfl hzc S.pos ⟨b0, off0, none⟩ ts.length ts.length olds o1 (fun j y hj => by rw [Addr.add_mid]; exact o3 j y hj) ⟨b, off, none⟩ ms.length c news n1 news4 (by omega) (by unfold maxLen; omega) hbt
        have hk : Kp w w' := Kp.grown (v := .slice none 0 0) (Kp.refl _) k2 (by intro k hk; simp [Value.ownBlock] at hk)
        refine ⟨v', w', hr, sz_of_owns (us := olds ++ news) (by rw [List.length_append]; exact k1) (fun y hy => (List.mem_append.1 hy).elim (o2 y) (n2 y)) hk hZ (fun j y hj => ?_), hk⟩
        by_cases hjl : j < ts.length
        · rw [List.getElem?_append_left hjl] at hj
          obtain ⟨vs, a1, a2⟩ := o4 j y hj
          refine ⟨vs, fun f hf => ?_, a2⟩
          have h5 : (j + 1) * S.k ≤ ts.length * S.k := Nat.mul_le_mul_right _ hjl
          rw [Nat.add_mul, Nat.one_mul] at h5
          rw [List.getElem?_append_left (by rw [o1]; omega)]
          exact a1 f hf
        · rw [List.getElem?_append_right (by omega)] at hj
          obtain ⟨vs, a1, a2⟩ := n4 (j - ts.length) y hj
          refine ⟨vs, fun f hf => ?_, a2⟩
          have h5 : ts.length * S.k ≤ j * S.k := Nat.mul_le_mul_right _ (by omega)
          rw [List.getElem?_append_right (by rw [o1]; omega), o1, ← a1 f hf, Nat.sub_mul]
          congr 1
          omega
      · have ht0 : ts = [] := List.eq_nil_of_length_eq_zero (by omega)
        subst ht0
        obtain ⟨v', w', hr, k1, k2⟩ := run_append_arg_grows (P := P) w t ty e i z S.k i.bytes K.ht hi hz hsize rfl hzc S.pos a0 0 0 [] (by simp) (fun j y hj => by simp at hj) ⟨b, off, none⟩ ms.length c news n1 news4 (by omega) (by unfold maxLen; simp at hlen; omega) (by simpa using hbt)
        have hk : Kp w w' := Kp.grown (v := .slice none 0 0) (Kp.refl _) k2 (by intro k hk; simp [Value.ownBlock] at hk)
        exact ⟨v', w', hr, sz_of_owns (us := news) (by simpa using k1) n2 hk hZ n4, hk⟩
  · have hm0 : ms = [] := List.eq_nil_of_length_eq_zero (by omega)
    subst hm0
    rw [List.append_nil]
    have hsrc : Src P i.size t (.slice ad 0 c) 0 [] w := by
      cases ad with
      | none =>
        have hc0 := hnil rfl
        subst hc0
        exact Src.ofNil w K.ht 0
      | some ad => exact Src.ofSlice w K.ht ad 0 c [] (by simp) (fun j y hj => by simp at hj) (by simp)
    exact ⟨_, w, run_append_nothing w t t ty e i K.ht hi a ts.length ts.length (Nat.le_refl _) _ hsrc, hs0, Kp.refl _⟩
theorem wpList_append_full {Z : Nat → Prop} (K : SK P t e S.k) {w : World} {ops : Array Oper} {rest : List Oper} {o : Oper} {a : Act} {Q : Exit → Act → World → Prop} (hgd : o.guard = none) (s x : Operand)
    (ho : o.op = .call { callee := .builtin .append, args := #[s, x], argTypes := #[t, t] }) (ad : Option Addr) (n : Nat) (ts ms : List α) (hs : a.eval s = .slice ad n n) (hts : SZ S Z w (.slice ad n n) ts) (u : Value) (hx : a.eval x = u) (hu : SZ S Z w u ms) (hZ : ∀ g, Z g → g < w.heap.size) (hlen : ts.length + ms.length ≤ 1000000)
    (h : ∀ v' w', SZ S Z w' v' (ts ++ ms) → Kp w w' → wpList P ops Q rest (a.put o.dst v') w') : wpList P ops Q (o :: rest) a w := by
  refine wpList_plain hgd fun K' hK' => ?_
  obtain ⟨v', w', hrun, h1, h2⟩ := run_append_full K w o.type ad n ts ms u hts hu hZ hlen
  unfold Oper.wp
  simp [execOp, ho, resolve, invoke, builtin, hs, hx, hrun, Result.andThen]
  exact hK' _ _ (h v' w' h1 h2)
theorem step_append_full {Z : Nat → Prop} (K : SK P t e S.k) {w : World} {ops : Array Oper} {o : Oper} {a : Act} {K' : Act → World → Prop} {Q : Exit → Act → World → Prop} {E : Prop} (hg : o.guard = none) (s x : Operand)
    (ho : o.op = .call { callee := .builtin .append, args := #[s, x], argTypes := #[t, t] }) (ad : Option Addr) (n : Nat) (ts ms : List α) (hs : a.eval s = .slice ad n n) (hts : SZ S Z w (.slice ad n n) ts) (u : Value) (hx : a.eval x = u) (hu : SZ S Z w u ms) (hZ : ∀ g, Z g → g < w.heap.size) (hlen : ts.length + ms.length ≤ 1000000)
    (h : ∀ v' w', SZ S Z w' v' (ts ++ ms) → Kp w w' → K' (a.put o.dst v') w') : if Region.wanted o (yielded ops a.tmps) = true then Oper.wp P o a w K' Q else E := by
  have hw : Region.wanted o (yielded ops a.tmps) = true := by simp [Region.wanted, hg]
  rw [if_pos hw]
  obtain ⟨v', w', hrun, h1, h2⟩ := run_append_full K w o.type ad n ts ms u hts hu hZ hlen
  have hK2 := h v' w' h1 h2
  unfold Oper.wp
  simp [execOp, ho, resolve, invoke, builtin, hs, hx, hrun, Result.andThen]
  exact hK2
end
end Go.Proofs.YtigpgcjbpoaclaaDoor
namespace Go.Proofs.YtigpgcjbpoaclaaDoor
open Go.RowKit Go.ChangeShapes Go.WideShapes Go.Deep
section
variable {H : Type} {enc : TypeId × Value → H} {P : Program} {w : World} {base : Nat} {spare : Nat → Bool} {held : Bool}
theorem GL.of_cells {α : Type} (S : Sh α) (d : α) {t e : TypeId} {fuel : Nat} {cs : List Value} {x : DataW H × List MemPlace} (ht : P.underlying t = some (.slice e)) (hC : P.cellsOf e = S.k)
    (helem : ∀ n' cs' x', DataW.trod enc P w base spare held n' e cs' = some x' → cs'.length = S.k → ∃ y, S.R noB w cs' y)
    (h : DataW.trod enc P w base spare held fuel t cs = some x) : ∃ v l, cs = [v] ∧ GL S w v l := by
  haveI : Inhabited α := ⟨d⟩
  rcases open_slice ht h with ⟨hcs, _⟩ | ⟨a, len, cap, m, n, D, Pl, hcs, _, hl, hm, hmm, _, hel⟩
  · exact ⟨_, [], hcs, GL.nil w⟩
  · have hlm : len ≤ m := by rw [hmm]; split <;> omega
    rw [hC] at hel
    have key : ∀ i, i < len → ∃ y : α, ∃ vs : List Value, vs.length = S.k ∧ (∀ j z, vs[j]? = some z → w.cell? ((a.add (i * S.k)).add j) = some z) ∧ S.R noB w vs y := by
      intro i hil
      obtain ⟨cs', hcc, htr⟩ := hel i (by omega)
      obtain ⟨_, hlk, hat⟩ := World.cells?_some hcc
      obtain ⟨y, hy⟩ := helem _ _ _ htr hlk
      refine ⟨y, cs', hlk, fun j z hj => ?_, hy⟩
      have hjl := (List.getElem?_eq_some_iff.1 hj).1
      rw [hat j (by omega)]
      exact hj
    obtain ⟨l, hll, hlq⟩ := choose_list len _ key d
    refine ⟨_, l, by rw [hcs, hll], some a, cap, rfl, by omega, hm, fun h => (by cases h), fun h0 => ?_⟩
    rw [hll] at h0
    obtain ⟨b, off, spot⟩ := a
    obtain ⟨vs, k1, k2, _⟩ := hlq 0 h0
    have hp := S.pos
    have hc0 := k2 0 vs[0] (List.getElem?_eq_getElem (by omega))
    have hs : spot = none := by simpa [Addr.add] using World.cell?_spot hc0
    subst hs
    have hbl := World.block_lt_of_cell? w _ hc0
    simp only [Addr.add_mid] at hbl
    refine ⟨b, off, rfl, hbl, fun i y hy => ?_⟩
    have hi : i < len := by rw [← hll]; exact (List.getElem?_eq_some_iff.1 hy).1
    obtain ⟨vs, k1, k2, k3⟩ := hlq i hi
    have ey : l.getD i d = y := by rw [List.getD_eq_getElem?_getD, hy]; rfl
    refine ⟨vs, fun j z hj => ?_, by rw [← ey]; exact k3⟩
    have := k2 j z hj
    simpa only [Addr.add_mid] using this
end
end Go.Proofs.YtigpgcjbpoaclaaDoor

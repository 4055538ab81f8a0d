import Derived.Test.YtigpgcjbpoaclaaDoorC2
import Derived.OpenShut
import Derived.SizedLaws
set_option linter.unusedVariables false
set_option linter.unusedSimpArgs false
namespace Go.Proofs.YtigpgcjbpoaclaaDoor
open Go.RowKit Go.ChangeShapes Go.WideShapes Go.Deep
def Vals (w : World) (v : Value) (us : List Value) : Prop :=
  ∃ a c, v = .slice a us.length c ∧ us.length ≤ c ∧ c ≤ maxLen ∧ (a = none → c = 0) ∧
    ∀ x, a = some x → ∀ i, (h : i < us.length) → w.cell? (x.add i) = some (us[i]'h)
theorem Vals.kp {w w' : World} {v : Value} {us : List Value} (h : Vals w v us) (k : Kp w w') : Vals w' v us := by
  obtain ⟨a, c, rfl, h1, h2, h3, h4⟩ := h
  exact ⟨a, c, rfl, h1, h2, h3, fun x hx i hi => k.cell (h4 x hx i hi)⟩
theorem Vals.shape {w : World} {v : Value} {us : List Value} (h : Vals w v us) : ∃ a c, v = .slice a us.length c ∧ us.length ≤ c ∧ c ≤ maxLen := by
  obtain ⟨a, c, e, h1, h2, _⟩ := h
  exact ⟨a, c, e, h1, h2⟩
theorem Vals.at {w : World} {a : Option Addr} {n c : Nat} {us : List Value} (h : Vals w (.slice a n c) us) (k : Nat) (hk : k < n) :
    ∃ b off, a = some ⟨b, off, none⟩ ∧ b < w.heap.size ∧ ∀ i, i < n → w.cell? ⟨b, off + i, none⟩ = some (us.getD i (.bool false)) := by
  obtain ⟨a', c', e, h1, h2, h3, h4⟩ := h
  simp only [Value.slice.injEq] at e
  obtain ⟨rfl, rfl, rfl⟩ := e
  cases a with
  | none => have := h3 rfl; omega
  | some x =>
    obtain ⟨b, off, spot⟩ := x
    have h0 := h4 _ rfl 0 (by omega)
    have hs : spot = none := by simpa [Addr.add] using World.cell?_spot h0
    subst hs
    refine ⟨b, off, rfl, World.block_lt_of_cell? w _ h0, fun i hi => ?_⟩
    have := h4 _ rfl i hi
    rw [List.getD_eq_getElem?_getD, List.getElem?_eq_getElem hi, Option.getD_some, ← this]
    congr 1
    unfold Addr.add
    split <;> simp_all
theorem Vals.own {w : World} {B : Nat} {e : TypeId} {v : Value} {us : List Value} (h : w.ownsRow B e 1 v us.length us) : Vals w v us := by
  rcases h.2 with ⟨rfl, h0⟩ | ⟨g, cap, cur, rfl, hb, hg, hn, hm, hs, ht⟩
  · exact ⟨none, 0, by rw [h0], by omega, Nat.zero_le _, fun _ => rfl, fun x hx => by cases hx⟩
  · refine ⟨_, cap, rfl, hn, hm, fun h => (by cases h), fun x hx i hi => ?_⟩
    cases hx
    have e : (⟨g, 0, none⟩ : Addr).add i = ⟨g, i, none⟩ := by unfold Addr.add; split <;> simp_all
    rw [e, cell_of_row w g i _ _ _ hg]
    have hx : us[i]? = some us[i] := List.getElem?_eq_getElem hi
    rw [← hx, ← ht, List.getElem?_take_of_lt (by omega)]
    simp
def RL (w : World) (v : Value) (ls : List (List UInt8)) : Prop := ∃ us, Vals w v us ∧ us.length = ls.length ∧ ∀ i, i < ls.length → Rd w (us.getD i (.bool false)) (ls.getD i [])
theorem RL.kp {w w' : World} {v : Value} {ls : List (List UInt8)} (h : RL w v ls) (k : Kp w w') : RL w' v ls := by
  obtain ⟨us, h1, h2, h3⟩ := h
  exact ⟨us, h1.kp k, h2, fun i hi => (h3 i hi).kp k⟩
theorem RL.shape {w : World} {v : Value} {ls : List (List UInt8)} (h : RL w v ls) : ∃ a c, v = .slice a ls.length c ∧ ls.length ≤ c ∧ c ≤ maxLen := by
  obtain ⟨us, h1, h2, h3⟩ := h
  rw [← h2]
  exact h1.shape
theorem RL.at {w : World} {a : Option Addr} {n c : Nat} {ls : List (List UInt8)} (h : RL w (.slice a n c) ls) (k : Nat) (hk : k < n) :
    ∃ b off, a = some ⟨b, off, none⟩ ∧ b < w.heap.size ∧ ∀ i, i < n → ∃ u, w.cell? ⟨b, off + i, none⟩ = some u ∧ Rd w u (ls.getD i []) := by
  obtain ⟨us, h1, h2, h3⟩ := h
  obtain ⟨b, off, ha, hb, hc⟩ := h1.at k hk
  have hn : n = us.length := by
    obtain ⟨a', c', e, _⟩ := h1.shape
    simp only [Value.slice.injEq] at e
    exact e.2.1
  exact ⟨b, off, ha, hb, fun i hi => ⟨_, hc i hi, h3 i (by omega)⟩⟩
theorem RL.cons {w : World} {B : Nat} {e : TypeId} {v u : Value} {l : List UInt8} {us : List Value} {ls : List (List UInt8)} (h : w.ownsRow B e 1 v (u :: us).length (u :: us)) (hu : Rd w u l) (hl : us.length = ls.length)
    (hr : ∀ i, i < ls.length → Rd w (us.getD i (.bool false)) (ls.getD i [])) : RL w v (l :: ls) := by
  refine ⟨u :: us, Vals.own h, by simp [hl], fun i hi => ?_⟩
  cases i with
  | zero => simpa using hu
  | succ i => simpa using hr i (by simpa using hi)
section
variable {H : Type} {enc : TypeId × Value → H} {P : Program} {w : World} {base : Nat} {spare : Nat → Bool} {held : Bool}
end
end Go.Proofs.YtigpgcjbpoaclaaDoor
namespace Go.Proofs.YtigpgcjbpoaclaaDoor
open Go.RowKit
structure S1 (P : Program) (t e : TypeId) : Prop where
  ht : P.underlying t = some (.slice e)
  hi : ∃ i z, P.info? e = some i ∧ i.zero = some z ∧ i.size = 1 ∧ i.bytes ≤ 64 ∧ z.cells.size = 1
theorem S1.mk' {P : Program} {t e : TypeId} {z : Value} {b : Nat} (ht : P.underlying t = some (.slice e)) (h : (P.info? e).map (fun i => (i.zero, i.size, i.bytes)) = some (some z, 1, b)) (hb : b ≤ 64) (hz : z.cells.size = 1) : S1 P t e := by
  obtain ⟨i, hi, hz0, hz1, hz2⟩ := info_parts h
  exact ⟨ht, i, z, hi, hz0, hz1, by omega, hz⟩
theorem wpList_append_vals {P : Program} {w : World} {t e : TypeId} (S : S1 P t e) {ops : Array Oper} {rest : List Oper} {o : Oper} {a : Act} {Q : Exit → Act → World → Prop} (hgd : o.guard = none) (s x : Operand)
    (ho : o.op = .call { callee := .builtin .append, args := #[s, x], argTypes := #[t, t] })
    (B : Nat) (v : Value) (us : List Value) (hs : a.eval s = v) (hown : w.ownsRow B e 1 v us.length us) (u : Value) (ms : List Value) (hx : a.eval x = u) (hu : Vals w u ms) (h1 : ∀ z ∈ ms, z.oneCell' = true)
    (hlen : us.length + ms.length ≤ 1000000000000) (hbase : B ≤ w.heap.size)
    (h : ∀ v' w', w'.ownsRow B e 1 v' (us ++ ms).length (us ++ ms) → w.grownBy w' v.ownBlock → wpList P ops Q rest (a.put o.dst v') w') : wpList P ops Q (o :: rest) a w := by
  obtain ⟨i, z, hi, hz, hsize, hby, hzc⟩ := S.hi
  obtain ⟨ad, c, rfl, hc, hm, hnil, hcell⟩ := hu
  cases ad with
  | none =>
    have hc0 := hnil rfl
    have hm0 : ms = [] := List.eq_nil_of_length_eq_zero (by omega)
    subst hm0
    subst hc0
    refine wpList_append_own_none hgd s x t ho B e i 1 S.ht hi v us.length us hs hown hx ?_
    exact h v w (by simpa using hown) ⟨rfl, rfl, rfl, Nat.le_refl _, fun _ _ _ => rfl⟩
  | some ad =>
    refine wpList_append_own w hgd s x t ho B e i z 1 i.bytes S.ht hi hz hsize rfl hzc (by decide) v us.length us hs hown ad ms.length c ms hx (by omega) (fun j y hj => ?_) h1 (by unfold maxLen; omega) ?_ hbase
      (fun v' w' h1 h2 h3 => h v' w' (by rw [List.length_append]; exact h1) h2)
    · have hjl : j < ms.length := (List.getElem?_eq_some_iff.1 hj).1
      rw [List.getElem?_eq_getElem hjl] at hj
      cases hj
      exact hcell ad rfl j hjl
    · have := Nat.mul_le_mul hlen hby
      omega
theorem Rd.one {w : World} {v : Value} {l : List UInt8} (h : Rd w v l) : v.oneCell' = true := by
  obtain ⟨a, c, rfl, _⟩ := h.shape
  rfl
theorem own_lit1 (w : World) (e : TypeId) (u : Value) : (w.alloc (.cells #[u] e)).ownsRow w.heap.size e 1 (.slice (some ⟨w.heap.size, 0, none⟩) 1 1) [u].length [u] :=
  World.ownsRow_lit w #[u] 1 (Nat.le_refl _) (by unfold maxLen; omega) rfl
end Go.Proofs.YtigpgcjbpoaclaaDoor
namespace Go.Proofs.YtigpgcjbpoaclaaDoor
open Go.RowKit Go.ChangeShapes Go.WideShapes Go.Deep
section
variable {H : Type} {enc : TypeId × Value → H} {P : Program} {w : World} {base : Nat} {spare : Nat → Bool} {held : Bool}
theorem open_lay {t : TypeId} {fs : Array Field} {N : Nat} {v : Value} {d : DataW H} {p : List MemPlace} {r : Reach} {b0 : Nat} (hs : P.underlying t = some (.struct fs)) (hC : P.cellsOf t = N)
    (hv : Value.okWide P w r b0 t v) (h : DataW.Trod enc P w base spare held t v d p) :
    ∃ (cs : List Value) (xs : List (DataW H × List MemPlace)) (n : Nat), v = .agg cs.toArray ∧ cs.length = N ∧ d = .agg (xs.map (·.1)) ∧ xs.length = fs.size ∧
      ∀ (i : Nat) (f : Field), fs[i]? = some f → DataW.trod enc P w base spare held n f.type ((cs.drop f.offset).take (P.cellsOf f.type)) = xs[i]? := by
  obtain ⟨cs, rfl, hsz⟩ := okWide_struct hs hv
  obtain ⟨l⟩ := cs
  obtain ⟨fuel, hf⟩ := h
  obtain ⟨xs, n, _, hx, _, hlen, hg⟩ := DataW.trod_struct hs hf
  simp only [Prod.mk.injEq] at hx
  exact ⟨l, xs, n, rfl, hsz.trans hC, hx.1, hlen, hg⟩
end
end Go.Proofs.YtigpgcjbpoaclaaDoor

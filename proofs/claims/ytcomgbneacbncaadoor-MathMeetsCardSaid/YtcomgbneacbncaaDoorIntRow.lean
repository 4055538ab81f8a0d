/- Slices of ints that tell nodes. Nothing of a dump. -/
import Derived.Test.YtcomgbneacbncaaDoorValsApp
set_option linter.unusedVariables false
set_option linter.unusedSimpArgs false
namespace Go.Proofs.YtcomgbneacbncaaDoor
open Go.RowKit

def iv (n : Nat) : Value := .int .i64 (n : Int)
/-- The slice value v reads as the numbers l. -/
def RN (w : World) (v : Value) (l : List Nat) : Prop := Vals w v (l.map iv)
/-- v holds l in memory of the call's own. -/
def ON (e : TypeId) (w : World) (B : Nat) (v : Value) (l : List Nat) : Prop := w.ownsRow B e 1 v (l.map iv).length (l.map iv)
theorem RN.kp {w w' : World} {v : Value} {l : List Nat} (h : RN w v l) (k : Kp w w') : RN w' v l := Vals.kp h k
theorem RN.nil (w : World) : RN w (.slice none 0 0) [] := Vals.nil w
theorem RN.shape {w : World} {v : Value} {l : List Nat} (h : RN w v l) : ∃ a c, v = .slice a l.length c ∧ l.length ≤ c ∧ c ≤ maxLen := by
  have := Vals.shape h
  rwa [List.length_map] at this
theorem RN.at {w : World} {a : Option Addr} {n c : Nat} {l : List Nat} (h : RN w (.slice a n c) l) (k : Nat) (hk : k < n) :
    ∃ b off, a = some ⟨b, off, none⟩ ∧ b < w.heap.size ∧ ∀ i, i < n → w.cell? ⟨b, off + i, none⟩ = some (.int .i64 ((l.getD i 0 : Nat) : Int)) := by
  obtain ⟨b, off, ha, hb, hc⟩ := Vals.at h k hk
  have hn : n = l.length := by
    obtain ⟨a', c', e, _⟩ := h.shape
    simp only [Value.slice.injEq] at e
    exact e.2.1
  refine ⟨b, off, ha, hb, fun i hi => ?_⟩
  rw [hc i hi, List.getD_eq_getElem?_getD, List.getElem?_map, List.getElem?_eq_getElem (by omega), List.getD_eq_getElem?_getD, List.getElem?_eq_getElem (by omega)]
  rfl
theorem ON.rn {e : TypeId} {w : World} {B : Nat} {v : Value} {l : List Nat} (h : ON e w B v l) : RN w v l := Vals.own h
theorem ON.nil (e : TypeId) (w : World) (B : Nat) : ON e w B (.slice none 0 0) [] := World.ownsRow_nil _ _ _ _
theorem ON.kp {e : TypeId} {w w' : World} {B : Nat} {v : Value} {l : List Nat} (h : ON e w B v l) (k : Kp w w') : ON e w' B v l := by
  refine ⟨h.1, ?_⟩
  rcases h.2 with hn | ⟨g, cap, cur, rfl, hb, hg, rest⟩
  · exact .inl hn
  · exact .inr ⟨g, cap, cur, rfl, hb, (Below.block k g (Array.getElem?_eq_some_iff.1 hg).1).trans hg, rest⟩
theorem ON.own_ge {e : TypeId} {w : World} {B : Nat} {v : Value} {l : List Nat} (h : ON e w B v l) : ∀ k, v.ownBlock = some k → B ≤ k := fun k hk => (World.ownsRow.lt h k hk).1
theorem RN.sl {w : World} {v : Value} {l : List Nat} (h : RN w v l) : ∃ a n c, v = .slice a n c := by
  obtain ⟨a, c, e, _⟩ := h.shape
  exact ⟨_, _, _, e⟩
/-- A literal of one number. -/
theorem ON.lit1 (w : World) (e : TypeId) (n : Nat) : RN (w.alloc (.cells #[.int .i64 (n : Int)] e)) (.slice (some ⟨w.heap.size, 0, none⟩) 1 1) [n] :=
  Vals.own (own_lit1 w e (iv n))
theorem RN.lit (w : World) (e : TypeId) (cs : Array Value) (l : List Nat) (n : Nat) (hn : l.length = n) (hm : n ≤ 1000000) (hc : cs.toList = l.map iv) :
    RN (w.alloc (.cells cs e)) (.slice (some ⟨w.heap.size, 0, none⟩) n n) l := by
  subst hn
  have hl : (l.map iv).length = l.length := List.length_map ..
  have h2 : (w.alloc (.cells cs e)).ownsRow w.heap.size e 1 (.slice (some ⟨w.heap.size, 0, none⟩) l.length l.length) l.length (l.map iv) := by
    rw [← hc]
    exact World.ownsRow_lit w cs l.length (Nat.le_refl _) (by unfold maxLen; omega) (by rw [← Array.length_toList, hc, hl]; omega)
  rw [← hl] at h2
  have h3 := Vals.own h2
  rw [hl] at h3
  exact h3
/-- The first numbers of a slice. -/
theorem RN.pre {w : World} {a : Option Addr} {n c : Nat} {l : List Nat} (h : RN w (.slice a n c) l) (k : Nat) (hk : k ≤ n) : RN w (.slice a k c) (l.take k) := by
  obtain ⟨a', c', e, h1, h2, h3, h4⟩ := h
  simp only [Value.slice.injEq] at e
  obtain ⟨rfl, rfl, rfl⟩ := e
  rw [List.length_map] at hk h1
  have hl : ((l.take k).map iv).length = k := by simp; omega
  refine ⟨a, c, by rw [hl], by omega, h2, h3, fun x hx i hi => ?_⟩
  rw [hl] at hi
  have h5 := h4 x hx i (by rw [List.length_map]; omega)
  rw [h5]
  simp
/-- append(v, n), v a row of the call's own. -/
theorem wpList_append_n {P : Program} {w : World} {t e : TypeId} (S : S1 P t e) {ops : Array Oper} {rest : List Oper} {o : Oper} {a : Act} {Q : Exit → Act → World → Prop} (hgd : o.guard = none) (s x : Operand)
    (ho : o.op = .call { callee := .builtin .append, args := #[s, x], argTypes := #[t, t] })
    (B : Nat) (v : Value) (l : List Nat) (hs : a.eval s = v) (hown : ON e w B v l) (u : Value) (n : Nat) (hx : a.eval x = u) (hu : RN w u [n]) (hlen : l.length ≤ 1000000) (hbase : B ≤ w.heap.size)
    (h : ∀ v' w', ON e w' B v' (l ++ [n]) → w.grownBy w' v.ownBlock → wpList P ops Q rest (a.put o.dst v') w') : wpList P ops Q (o :: rest) a w := by
  refine wpList_append_vals S hgd s x ho B v (l.map iv) hs hown u [iv n] hx hu (fun z hz => by simp at hz; subst hz; rfl) (by rw [List.length_map]; simp; omega) hbase (fun v' w' h1 h2 => h v' w' ?_ h2)
  unfold ON
  rw [List.map_append]
  exact h1
end Go.Proofs.YtcomgbneacbncaaDoor

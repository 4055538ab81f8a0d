/- Rows of rows of the call's own: append of one row. Nothing of a dump. -/
import Derived.Test.YtfnkcdcbjcoefaaValsApp
import Derived.Maps.AppendAt
set_option linter.unusedVariables false
set_option linter.unusedSimpArgs false
namespace Go.Proofs.Ytfnkcdcbjcoefaa
open Go.RowKit

/-- What reads in a block that an append leaves, reads so behind it. -/
theorem Rd.away {w w' : World} {g n c : Nat} {l : List UInt8} {row : Option Nat} (h : Rd w (.slice (some ⟨g, 0, none⟩) n c) l) (hg : w.grownBy w' row) (hne : row ≠ some g) : Rd w' (.slice (some ⟨g, 0, none⟩) n c) l := by
  obtain ⟨a, c', e, h1, h2, h3, h4⟩ := h
  simp only [Value.slice.injEq] at e
  obtain ⟨rfl, rfl, rfl⟩ := e
  refine ⟨_, c, rfl, h1, h2, h3, fun x hx i hi => ?_⟩
  have hc := h4 x hx i hi
  cases hx
  have hb := World.block_lt_of_cell? w _ hc
  have e : (⟨g, 0, none⟩ : Addr).add i = ⟨g, 0 + i, none⟩ := by unfold Addr.add; split <;> simp_all
  rw [e] at hc hb ⊢
  exact (World.cell?_of_block (w := w) (hg.block g hb (fun e2 => hne e2.symm))).trans hc
/-- v holds, in memory made since B, the rows ls, each in a block of its own. -/
def RO (e : TypeId) (w : World) (B : Nat) (v : Value) (ls : List (List UInt8)) : Prop :=
  ∃ us, w.ownsRow B e 1 v us.length us ∧ us.length = ls.length ∧ ∀ i, i < ls.length → ∃ g c, us.getD i (.bool false) = .slice (some ⟨g, 0, none⟩) (ls.getD i []).length c ∧ g < w.heap.size ∧ v.ownBlock ≠ some g ∧ Rd w (.slice (some ⟨g, 0, none⟩) (ls.getD i []).length c) (ls.getD i [])
theorem RO.nil (e : TypeId) (w : World) (B : Nat) : RO e w B (.slice none 0 0) [] := ⟨[], World.ownsRow_nil _ _ _ _, rfl, fun i hi => by simp at hi⟩
theorem ownsRow_kp {w w' : World} {B : Nat} {e : TypeId} {n : Nat} {v : Value} {us : List Value} (h : w.ownsRow B e 1 v n us) (k : Kp w w') : w'.ownsRow B e 1 v n us := by
  refine ⟨h.1, ?_⟩
  rcases h.2 with hn | ⟨g, cap, cur, rfl, hb, hg, rest⟩
  · exact .inl hn
  · exact .inr ⟨g, cap, cur, rfl, hb, (Below.block k g (Array.getElem?_eq_some_iff.1 hg).1).trans hg, rest⟩
theorem RO.kp {e : TypeId} {w w' : World} {B : Nat} {v : Value} {ls : List (List UInt8)} (h : RO e w B v ls) (k : Kp w w') : RO e w' B v ls := by
  obtain ⟨us, h1, h2, h3⟩ := h
  refine ⟨us, ownsRow_kp h1 k, h2, fun i hi => ?_⟩
  obtain ⟨g, c, e1, e2, e3, e4⟩ := h3 i hi
  exact ⟨g, c, e1, Nat.lt_of_lt_of_le e2 k.size, e3, e4.kp k⟩
theorem RO.rl {e : TypeId} {w : World} {B : Nat} {v : Value} {ls : List (List UInt8)} (h : RO e w B v ls) : RL w v ls := by
  obtain ⟨us, h1, h2, h3⟩ := h
  refine ⟨us, Vals.own h1, h2, fun i hi => ?_⟩
  obtain ⟨g, c, e1, _, _, e4⟩ := h3 i hi
  rw [e1]
  exact e4
theorem RO.lt {e : TypeId} {w : World} {B : Nat} {v : Value} {ls : List (List UInt8)} (h : RO e w B v ls) : ∀ k, v.ownBlock = some k → B ≤ k ∧ k < w.heap.size := by
  obtain ⟨us, h1, _, _⟩ := h
  exact fun k hk => World.ownsRow.lt h1 k hk
/-- append(v, u): u a row in a block that isn't v's. -/
theorem wpList_append_row {P : Program} {w : World} {t e : TypeId} (S : S1 P t e) {ops : Array Oper} {rest : List Oper} {o : Oper} {a : Act} {Q : Exit → Act → World → Prop} (hgd : o.guard = none) (s x : Operand)
    (ho : o.op = .call { callee := .builtin .append, args := #[s, x], argTypes := #[t, t] })
    (B : Nat) (v : Value) (ls : List (List UInt8)) (hs : a.eval s = v) (hown : RO e w B v ls) (g c b : Nat) (l : List UInt8) (hx : a.eval x = .slice (some ⟨b, 0, none⟩) 1 1) (hb : w.cell? ⟨b, 0, none⟩ = some (.slice (some ⟨g, 0, none⟩) l.length c))
    (hu : Rd w (.slice (some ⟨g, 0, none⟩) l.length c) l) (hgw : g < w.heap.size) (hne : v.ownBlock ≠ some g)
    (hlen : ls.length ≤ 1000000) (hbase : B ≤ w.heap.size)
    (h : ∀ v' w', RO e w' B v' (ls ++ [l]) → w.grownBy w' v.ownBlock → wpList P ops Q rest (a.put o.dst v') w') : wpList P ops Q (o :: rest) a w := by
  obtain ⟨i, z, hi, hz, hsize, hby, hzc⟩ := S.hi
  obtain ⟨us, h1, h2, h3⟩ := hown
  refine wpList_append_own_at w hgd s x t ho B e i z 1 i.bytes S.ht hi hz hsize rfl hzc (by decide) v us.length us hs h1 ⟨b, 0, none⟩ 1 1 [.slice (some ⟨g, 0, none⟩) l.length c] hx rfl (fun j y hj => ?_) (fun y hy => ?_) (by unfold maxLen; omega) ?_ hbase
    (fun v' w' k1 k2 _ k4 => h v' w' ⟨us ++ [.slice (some ⟨g, 0, none⟩) l.length c], by rw [List.length_append]; exact k1, by simp [h2], fun j hj => ?_⟩ k2)
  · have : j = 0 := by
      have := (List.getElem?_eq_some_iff.1 hj).1
      simp at this
      exact this
    subst this
    simp at hj
    subst hj
    exact hb
  · simp at hy
    subst hy
    rfl
  · have := Nat.mul_le_mul (show us.length + 1 ≤ 1000001 by omega) hby
    omega
  · have hsz := k2.size
    have key : ∀ g', g' < w.heap.size → v.ownBlock ≠ some g' → v'.ownBlock ≠ some g' := fun g' hg' hn e2 => by
      rcases k4 with k4 | k4
      · exact hn (k4.symm.trans e2)
      · rw [k4] at e2
        cases e2
        omega
    by_cases hlt : j < ls.length
    · obtain ⟨g', c', e1, e2, e3, e4⟩ := h3 j hlt
      have el : (ls ++ [l]).getD j [] = ls.getD j [] := by rw [List.getD_eq_getElem?_getD, List.getElem?_append_left hlt, List.getD_eq_getElem?_getD]
      have eu : (us ++ [Value.slice (some ⟨g, 0, none⟩) l.length c]).getD j (.bool false) = us.getD j (.bool false) := by rw [List.getD_eq_getElem?_getD, List.getElem?_append_left (by omega), List.getD_eq_getElem?_getD]
      rw [el, eu]
      exact ⟨g', c', e1, by omega, key g' e2 e3, e4.away k2 e3⟩
    · have hj2 : j = ls.length := by simp at hj; omega
      subst hj2
      have el : (ls ++ [l]).getD ls.length [] = l := by simp
      have eu : (us ++ [Value.slice (some ⟨g, 0, none⟩) l.length c]).getD ls.length (.bool false) = .slice (some ⟨g, 0, none⟩) l.length c := by rw [← h2]; simp
      rw [el, eu]
      exact ⟨g, c, rfl, by omega, key g hgw hne, hu.away k2 hne⟩
end Go.Proofs.Ytfnkcdcbjcoefaa

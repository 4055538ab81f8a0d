import Derived.Test.YtigpgcjbpoaclaaDoorC3
import Derived.Test.YtigpgcjbpoaclaaDoorC5
import Derived.Test.YtigpgcjbpoaclaaDoorC7
import Derived.Test.YtigpgcjbpoaclaaDoorC25
import Derived.Test.YtigpgcjbpoaclaaDoorC30
import Derived.RangeFuncBox
import Derived.Maps.OwnIn
import Derived.WalkMore
set_option linter.unusedVariables false
set_option linter.unusedSimpArgs false
namespace Go.Proofs.YtigpgcjbpoaclaaDoor
open Go.RowKit
def Tells (e : Ending) (p : Prop) : Prop := ∃ b, e = .returned (.bool b) ∧ (b = true ↔ p)
theorem Tells.no {p : Prop} (h : ¬ p) : Tells (.returned (.bool false)) p := ⟨false, rfl, fun h => (by cases h), fun e => absurd e h⟩
theorem Tells.yes {p : Prop} (h : p) : Tells (.returned (.bool true)) p := ⟨true, rfl, fun _ => h, fun _ => rfl⟩
theorem results_cell_tmp {P : Program} {fn : Func} {p q : Tmp} {ty : TypeId} (h : fn.results = #[.cell p ty, .tmp q]) (tmps : Array Value) (w : World) (g : Nat) (t : TypeId) (cs : Array Value) (fr : Nat × Nat) (d : TypeDesc) (v : Value)
    (hp : tmps.getD p undef = .pointer (some ⟨g, 0, none⟩)) (hg : w.heap[g]? = some (.cells cs t fr))
    (hu : P.underlying ty = some d) (hd : (match d with | .struct _ | .array _ _ => true | _ => false) = true) (hi : (P.info? ty).map (·.size) = some cs.size) (hq : tmps.getD q undef = v) :
    (results fn tmps).run P w = .ok (.tuple #[.agg cs, v]) w := by
  have hp' : tmps[p]?.getD undef = .pointer (some ⟨g, 0, none⟩) := by simpa using hp
  have hq' : tmps[q]?.getD undef = v := by simpa using hq
  simp [results, h, hp', hq', asAddr, run_loadVar_row w g t ty cs fr d hg hu hd hi]
theorem wpList_store_row {P : Program} {ops : Array Oper} {rest : List Oper} {o : Oper} {a : Act} {w : World} {Q : Exit → Act → World → Prop} (hgd : o.guard = none) (hd : o.dst = none) (ty : TypeId) (x y : Operand) (ho : o.op = .store ty x y)
    (g : Nat) (T : TypeId) (cs vs : Array Value) (hx : a.eval x = .pointer (some ⟨g, 0, none⟩)) (hy : a.eval y = .agg vs) (hb : Bx w g T cs) (hl : vs.size = cs.size) (hone : ∀ z ∈ vs.toList, z.oneCell' = true) (hi : (P.info? ty).map (·.size) = some vs.size)
    (h : ∀ w', Bx w' g T vs → w.grownBy w' (some g) → (∀ w0, Kp w0 w → w0.heap.size ≤ g → Kp w0 w') → wpList P ops Q rest a w') : wpList P ops Q (o :: rest) a w := by
  refine wpList_store_mid hgd ty x y ho g 0 vs hx hy (by rw [hl]; exact hb.there) hi (all_oneCell_toArray (cs := vs.toList) hone) ?_
  rw [hd]
  exact h _ (hb.fill vs hl) (grown_set9 w g 0 vs.toList 0) fun w0 k hg => k.setCells hg vs.toList 0
theorem AnyIf.two {F : Fence} {n : Nat} {P : Program} {ops : Array Oper} {Q : Exit → Act → World → Prop} {md : Region.Mode} {S : World → Prop} (i j : Nat) {o u : Oper} {fuel : Nat} {listed : Array Bool} {a : Act} {w : World} (hi : ops[i]? = some o) (hj : ops[j]? = some u) (hr : Region.ready md ops listed = [i, j])
    (h1 : ∀ K : Act → World → Prop, (∀ a' w', S w' → AnyIf F n P md ops Q S fuel (listed.setIfInBounds i true) a' w' → K a' w') → if Region.wanted o (yielded ops a.tmps) = true then Oper.wpIn F n P o a w K Q else (∀ f, o.about P w a.eval = some f → F.fn f) ∧ K (a.put o.dst undef) w)
    (h2 : ∀ K : Act → World → Prop, (∀ a' w', S w' → AnyIf F n P md ops Q S fuel (listed.setIfInBounds j true) a' w' → K a' w') → if Region.wanted u (yielded ops a.tmps) = true then Oper.wpIn F n P u a w K Q else (∀ f, u.about P w a.eval = some f → F.fn f) ∧ K (a.put u.dst undef) w) :
    AnyIf F n P md ops Q S (fuel + 1) listed a w := by
  refine ⟨fun h0 => (by rw [h0] at hr; cases hr), fun k hk => ?_⟩
  rw [hr] at hk
  have hk2 : k = i ∨ k = j := by simpa using hk
  rcases hk2 with rfl | rfl
  · exact wpOpIn_step hi (fun K' hK => h1 K' (fun a' w' hs hw => hK a' w' ⟨hs, hw⟩))
  · exact wpOpIn_step hj (fun K' hK => h2 K' (fun a' w' hs hw => hK a' w' ⟨hs, hw⟩))
end Go.Proofs.YtigpgcjbpoaclaaDoor

import Derived.Test.YtigpgcjbpoaclaaDoorC5
set_option linter.unusedVariables false
set_option linter.unusedSimpArgs false
namespace Go.Proofs.YtigpgcjbpoaclaaDoor
open Go.RowKit
section
variable {F : Fence} {n : Nat} {P : Program} {ops : Array Oper} {Q : Exit → Act → World → Prop} {md : Region.Mode} {S : World → Prop}
structure Calm (P : Program) (ops : Array Oper) (S : World → Prop) (o : Oper) (v : Value) (a : Act) : Prop where
  nodefer : ∀ c, o.op ≠ .defer c
  about : ∀ w, o.about P w a.eval = none
  yields : (Region.wanted o (yielded ops a.tmps) = true ∧ ∀ w, S w → (execOp a.eval o).run P w = .ok (.value v) w) ∨ (Region.wanted o (yielded ops a.tmps) = false ∧ v = undef)
def noDefer (ops : Array Oper) : Bool := ops.all fun o => match o.op with | .defer _ => false | _ => true
theorem noDefer_spec (h : noDefer ops = true) {j : Nat} {o : Oper} (hj : ops[j]? = some o) : ∀ c, o.op ≠ .defer c := fun c e => by
  have := Array.all_eq_true_iff_forall_mem.1 h o (Array.mem_of_getElem? hj)
  rw [e] at this
  cases this
theorem Calm.put {o oj : Oper} {v : Value} {a : Act} (h : Calm P ops S o v a) (hs : ∀ cs b, o.op ≠ .select cs b) (u : Value) (hap : ∀ d, oj.dst = some d → d ∉ o.looksAt ops) : Calm P ops S o v (a.put oj.dst u) := by
  obtain ⟨h1, h2, h3⟩ := h
  refine ⟨h1, fun w => (about_put o w a oj.dst u hap).trans (h2 w), ?_⟩
  rw [wanted_put o a oj.dst u hap, execOp_put o hs a oj.dst u hap]
  exact h3
theorem Calm.run {o : Oper} {i : Nat} {v : Value} {a : Act} {w : World} {K : Act → World → Prop} (h : Calm P ops S o v a) (hi : ops[i]? = some o) (hS : S w) (hK : K (a.put o.dst v) w) : wpOpIn F n P ops Q i K a w := by
  have hab : ∀ f, o.about P w a.eval = some f → F.fn f := fun f hf => by rw [h.about w] at hf; cases hf
  unfold wpOpIn
  simp only [hi]
  rcases h.yields with ⟨hw, hv⟩ | ⟨hw, rfl⟩
  · rw [if_pos hw]
    exact ⟨hab, by rw [Oper.semAt_plain F _ _ h.nodefer, hv w hS]; exact hK⟩
  · rw [if_neg (by rw [hw]; decide)]
    exact ⟨hab, hK⟩
theorem Calm.later {j : Nat} {o oj : Oper} {v : Value} {a : Act} {w : World} {K : Act → World → Prop} (h : Calm P ops S o v a) (hnd : noDefer ops = true) (hns : Region.noSelect ops = true) {i : Nat} (hi : ops[i]? = some o) (hj : ops[j]? = some oj)
    (hap : o.apart ops oj = true) (hQ : ∀ c a w, Q (.panic c) (a.put o.dst v) w → Q (.panic c) a w) (hh : wpOpIn F n P ops Q j K (a.put o.dst v) w) :
    wpOpIn F n P ops Q j (fun a' w' => Calm P ops S o v a' ∧ K (a'.put o.dst v) w') a w := by
  obtain ⟨p1, p2, p3⟩ := Oper.apart_spec hap
  have hsj := fun cs b => Region.noSelect_spec hns j oj cs b hj
  have hsi := fun cs b => Region.noSelect_spec hns i o cs b hi
  have hd := noDefer_spec hnd hj
  have back : ∀ u w', K ((a.put o.dst v).put oj.dst u) w' → Calm P ops S o v (a.put oj.dst u) ∧ K ((a.put oj.dst u).put o.dst v) w' := fun u w' hk => ⟨h.put hsi u p3, by rw [← Act.put_comm a v u p2]; exact hk⟩
  unfold wpOpIn at *
  simp only [hj] at *
  rw [wanted_put oj a o.dst v p1, about_put oj w a o.dst v p1] at hh
  by_cases hw : Region.wanted oj (yielded ops a.tmps) = true
  · rw [if_pos hw] at hh ⊢
    unfold Oper.wpIn at *
    rw [Oper.semAt_plain F _ _ hd, about_put oj w a o.dst v p1, execOp_put oj hsj a o.dst v p1] at hh
    refine ⟨hh.1, ?_⟩
    rw [Oper.semAt_plain F _ _ hd]
    have h2 := hh.2
    obtain ⟨r, hr⟩ : ∃ r, (execOp a.eval oj).run P w = r := ⟨_, rfl⟩
    rw [hr] at h2 ⊢
    match r, h2 with
    | .ok (.value u) w', h2 => exact back u w' h2
    | .ok .skip w', h2 => exact back undef w' h2
    | .ok (.defer d) w', h2 =>
      refine ⟨Calm.put (a := { a with defers := d :: a.defers }) (oj := oj) ⟨h.nodefer, h.about, h.yields⟩ hsi undef p3, ?_⟩
      rw [← Act.put_comm _ v undef p2, ← Act.put_defers]
      exact h2
    | .ok (.enter f args) w', h2 =>
      refine ⟨h2.1, h2.2.mono fun e w'' he => ?_⟩
      match e, he with
      | .returned u, he => exact back u w'' he
      | .panicked c, he => exact hQ _ _ _ he
      | .outgrown, he => exact he
    | .ok (.row row args) w', h2 => exact ⟨h2.1, h2.2.mono fun u w'' he => back u w'' he⟩
    | .ok (.round l f tmps assign body) w', h2 =>
      refine ⟨h2.1, h2.2.mono fun e w'' he => ?_⟩
      match e, he with
      | .returned u, he => exact back u w'' he
      | .panicked c, he => exact hQ _ _ _ he
      | .outgrown, he => exact he
    | .halt (.panic u) w', h2 => exact hQ _ _ _ h2
  · rw [if_neg hw] at hh ⊢
    exact ⟨hh.1, back undef w hh.2⟩
def AnyIf (F : Fence) (n : Nat) (P : Program) (md : Region.Mode) (ops : Array Oper) (Q : Exit → Act → World → Prop) (S : World → Prop) : Nat → Array Bool → Act → World → Prop
  | 0, listed, a, w => Region.ready md ops listed = [] ∧ Q .normal a w
  | fuel + 1, listed, a, w =>
    (Region.ready md ops listed = [] → Q .normal a w) ∧
    ∀ i ∈ Region.ready md ops listed, wpOpIn F n P ops Q i (fun a' w' => S w' ∧ AnyIf F n P md ops Q S fuel (listed.setIfInBounds i true) a' w') a w
theorem AnyIf.any : ∀ (fuel : Nat) (listed : Array Bool) (a : Act) (w : World), AnyIf F n P md ops Q S fuel listed a w → wpAnyIn F n P md ops Q fuel listed a w
  | 0, _, _, _, h => h
  | fuel + 1, _, _, _, h => ⟨h.1, fun i hi => wpOpIn_mono (fun a' w' h' => AnyIf.any fuel _ a' w' h'.2) (h.2 i hi)⟩
theorem AnyIf.first {i : Nat} {o : Oper} {v : Value} (hnd : noDefer ops = true) (hns : Region.noSelect ops = true) (hi : ops[i]? = some o) (hQ : ∀ c a w, Q (.panic c) (a.put o.dst v) w → Q (.panic c) a w) :
    ∀ (fuel : Nat) (listed : Array Bool) (a : Act) (w : World),
      (∀ j oj, ops[j]? = some oj → j ≠ i → listed.getD j true = false → (∀ e ∈ oj.after, Region.binds md e = true → e.on ≠ i) → o.apart ops oj = true) →
      i ∈ Region.ready md ops listed → Calm P ops S o v a → S w → AnyIf F n P md ops Q S fuel (listed.setIfInBounds i true) (a.put o.dst v) w → AnyIf F n P md ops Q S (fuel + 1) listed a w
  | fuel, listed, a, w, hfree, hr, hy, hS, H => by
    refine ⟨fun h => (by rw [h] at hr; cases hr), fun j hj => ?_⟩
    by_cases hji : j = i
    · subst hji
      exact hy.run hi hS ⟨hS, H⟩
    · have hj' := ready_mono (i := i) hj hji
      match fuel, H with
      | 0, H => rw [H.1] at hj'; cases hj'
      | fuel + 1, H =>
        obtain ⟨hjun, oj, hoj, hall⟩ := mem_ready.1 hj
        have hnot : ∀ e ∈ oj.after, Region.binds md e = true → e.on ≠ i := fun e he hb heq => by
          have h1 := hall e he hb
          have h0 := (mem_ready.1 hr).1
          rw [heq] at h1
          rcases Nat.lt_or_ge i listed.size with h' | h'
          · simp [h'] at h0 h1; rw [h0] at h1; cases h1
          · simp [Array.getElem?_eq_none h'] at h1
        refine wpOpIn_mono ?_ (hy.later hnd hns hi hoj (hfree j oj hoj hji hjun hnot) hQ (H.2 j hj'))
        rintro a' w' ⟨hy', hS', H'⟩
        refine ⟨hS', AnyIf.first hnd hns hi hQ fuel (listed.setIfInBounds j true) a' w' (fun k ok hk hki hun hno => ?_) (ready_mono hr (Ne.symm hji)) hy' hS' ?_⟩
        · refine hfree k ok hk hki ?_ hno
          by_cases hjk : j = k
          · subst hjk; exact hjun
          · rwa [getD_set_ne true hjk] at hun
        · rw [Array.setIfInBounds_comm _ _ hji]
          exact H'
theorem region_if {id : Nat} {a : Act} {w : World} (hm : P.follows .mixedOrders = true) (h : AnyIf F n P .any ops Q S ops.size (Array.replicate ops.size false) a w.drew) : (Code.region id ops true).wpIn F n P Q a w :=
  wpIn_region_any hm (AnyIf.any _ _ _ _ h)
theorem AnyIf.take (i : Nat) (v : Value) {o : Oper} {fuel : Nat} {listed : Array Bool} {a : Act} {w : World} (hi : ops[i]? = some o) (hnd : noDefer ops = true) (hns : Region.noSelect ops = true) (hf : Region.free md ops listed i = true)
    (hr : (Region.ready md ops listed).contains i = true) (hQ : ∀ c a w, Q (.panic c) (a.put o.dst v) w → Q (.panic c) a w) (hS : S w) (hy : Calm P ops S o v a)
    (h : AnyIf F n P md ops Q S fuel (listed.setIfInBounds i true) (a.put o.dst v) w) : AnyIf F n P md ops Q S (fuel + 1) listed a w :=
  AnyIf.first hnd hns hi hQ fuel listed a w (Region.free_spec hi hf) (by simpa using hr) hy hS h
theorem AnyIf.one (i : Nat) {o : Oper} {fuel : Nat} {listed : Array Bool} {a : Act} {w : World} (hi : ops[i]? = some o) (hr : Region.ready md ops listed = [i])
    (h : ∀ K : Act → World → Prop, (∀ a' w', S w' → AnyIf F n P md ops Q S fuel (listed.setIfInBounds i true) a' w' → K a' w') → if Region.wanted o (yielded ops a.tmps) = true then Oper.wpIn F n P o a w K Q else (∀ f, o.about P w a.eval = some f → F.fn f) ∧ K (a.put o.dst undef) w) :
    AnyIf F n P md ops Q S (fuel + 1) listed a w := by
  refine ⟨fun h0 => (by rw [h0] at hr; cases hr), fun j hj => ?_⟩
  rw [hr] at hj
  obtain rfl : j = i := by simpa using hj
  exact wpOpIn_step hi (fun K' hK => h K' (fun a' w' hs hw => hK a' w' ⟨hs, hw⟩))
theorem AnyIf.done {fuel : Nat} {listed : Array Bool} {a : Act} {w : World} (hr : Region.ready md ops listed = []) (h : Q .normal a w) : AnyIf F n P md ops Q S fuel listed a w := by
  cases fuel with
  | zero => exact ⟨hr, h⟩
  | succ fuel => exact ⟨fun _ => h, fun i hi => by rw [hr] at hi; cases hi⟩
end
def leads (v : Value) (k : Nat) : Prop := ∃ x n c, v = .slice (some x) n c ∧ 0 < n ∧ x.block = k
end Go.Proofs.YtigpgcjbpoaclaaDoor

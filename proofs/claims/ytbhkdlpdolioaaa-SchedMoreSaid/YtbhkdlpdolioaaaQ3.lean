import Derived.Test.YtbhkdlpdolioaaaQ1
import Derived.Test.YtbhkdlpdolioaaaQ2
import Derived.Deep.QuietTactic
import Derived.BigQuiet
import Derived.Maps.AppendAt
import Derived.Deep.MidRow
import Derived.Test.YtbhkdlpdolioaaaRows
import Derived.WalkSpells
import Derived.Lib.Hide
import Derived.Outline
import Derived.Lib.SmallJoins
import Derived.ProofKit
import Derived.OpenShut
set_option linter.unusedVariables false
set_option linter.unusedSimpArgs false
namespace Go.Proofs.Ytbhkdlpdolioaaa
open Go.RowKit
theorem aci {P : Program} {f : FuncId} {args : Array Value} {w : World} {n : Nat} {v : Value}
  (h : Calls P f args (w.drewN n) fun e w' => e = .returned v ∧ w.drewN n = w') : Calls P f args (w.drewN n) fun e w'' => e = .returned v ∧ ∃ m, w'' = w.drewN m :=
 h.mono fun _ _ ⟨he, hm⟩ => ⟨he, n, hm.symm⟩
theorem Kp.drewN {a b : World} (h : Kp a b) (n : Nat) : Kp a (b.drewN n) := by
 induction n with
 | zero => exact h
 | succ n ih => exact ih.drew
def Yes (w : World) (e : Ending) (w' : World) : Prop := e = .returned (.bool true) ∧ Kp w w'
structure S1 (P : Program) (t e : TypeId) : Prop where
 ht : P.underlying t = some (.slice e)
 hi : ∃ i z, P.info? e = some i ∧ i.zero = some z ∧ i.size = 1 ∧ i.bytes ≤ 64 ∧ z.cells.size = 1
theorem S1.mk' {P : Program} {t e : TypeId} {z : Value} {b : Nat} (ht : P.underlying t = some (.slice e)) (h : (P.info? e).map (fun i => (i.zero, i.size, i.bytes)) = some (some z, 1, b)) (hb : b ≤ 64) (hz : z.cells.size = 1) : S1 P t e := by
 obtain ⟨i, hi, hz0, hz1, hz2⟩ := info_parts h;exact ⟨ht, i, z, hi, hz0, hz1, by omega, hz⟩
theorem aca {P : Program} {w : World} {t e : TypeId} (S : S1 P t e) {ops : Array Oper} {rest : List Oper} {o : Oper} {a : Act} {Q : Exit → Act → World → Prop} (hgd : o.guard = none) (s x : Operand)
    (ho : o.op = .call { callee := .builtin .append, args := #[s, x], argTypes := #[t, t] })
    (B : Nat) (v : Value) (us : List Value) (hs : a.eval s = v) (hown : w.ownsRow B e 1 v us.length us) (u : Value) (ms : List Value) (hx : a.eval x = u) (hu : Vals w u ms) (h1 : ∀ z ∈ ms, z.oneCell' = true)
    (hlen : us.length + ms.length ≤ 1000000000000) (hbase : B ≤ w.heap.size)
    (h : ∀ v' w', w'.ownsRow B e 1 v' (us ++ ms).length (us ++ ms) → w.grownBy w' v.ownBlock → wpList P ops Q rest (a.put o.dst v') w') : wpList P ops Q (o :: rest) a w := by
  obtain ⟨i, z, hi, hz, hsize, hby, hzc⟩ := S.hi
  obtain ⟨ad, c, rfl, hc, hm, hnil, hcell⟩ := hu
  cases ad with
  | none =>
    have hc0 := hnil rfl
    have hm0 : ms = [] := List.eq_nil_of_length_eq_zero (by omega)
    subst hm0
    subst hc0
    refine wpList_append_own_none hgd s x t ho B e i 1 S.ht hi v us.length us hs hown hx ?_
    exact h v w (by simpa using hown) ⟨rfl, rfl, rfl, Nat.le_refl _, fun _ _ _ => rfl⟩
  | some ad =>
    refine wpList_append_own w hgd s x t ho B e i z 1 i.bytes S.ht hi hz hsize rfl hzc (by decide) v us.length us hs hown ad ms.length c ms hx (by omega) (fun j y hj => ?_) h1 (by unfold maxLen; omega) ?_ hbase
      (fun v' w' h1 h2 h3 => h v' w' (by rw [List.length_append]; exact h1) h2)
    · have hjl : j < ms.length := (List.getElem?_eq_some_iff.1 hj).1
      rw [List.getElem?_eq_getElem hjl] at hj
      cases hj
      exact hcell ad rfl j hjl
    · have := Nat.mul_le_mul hlen hby
      omega
theorem abL {P : Program} {w : World} {t e : TypeId} (U : U8 P t e) {o : Oper} {a : Act} {K : Act → World → Prop} {Q : Exit → Act → World → Prop} (s x : Operand)
    (ho : o.op = .call { callee := .builtin .append, args := #[s, x], argTypes := #[t, t] })
    (B : Nat) (v : Value) (l : List UInt8) (hs : a.eval s = v) (hown : Ow e w B v l) (u : Value) (m : List UInt8) (hx : a.eval x = u) (hu : Rd w u m)
    (hlen : l.length + m.length ≤ 140737488355328) (hbase : B ≤ w.heap.size)
    (h : ∀ v' w', Ow e w' B v' (l ++ m) → w.grownBy w' v.ownBlock → (v' = .slice none 0 0 → l = [] ∧ m = []) → K (a.put o.dst v') w') : o.wp P a w K Q := by
  obtain ⟨i, hi, hz, hsize, hby⟩ := U.hi
  obtain ⟨ad, c, rfl, hc, hm, hnil, hcell⟩ := hu
  cases ad with
  | none =>
    have hc0 := hnil rfl
    have hm0 : m = [] := List.eq_nil_of_length_eq_zero (by omega)
    subst hm0
    subst hc0
    have hrun := run_append_owned_none (P := P) (w := w) B t o.type e i 1 U.ht hi v l.length (Lib.byteCells l) hown
    have h' := h v w (by simpa using hown) ⟨rfl, rfl, rfl, Nat.le_refl _, fun _ _ _ => rfl⟩ (fun e => by
      subst e
      rcases hown.shape with ⟨_, h⟩ | ⟨g, c, h, _⟩
      · exact ⟨h, rfl⟩
      · cases h)
    unfold Oper.wp
    simp [execOp, ho, resolve, invoke, builtin, hs, hx, hrun, Result.andThen]
    exact h'
  | some ad =>
    refine wp_append_own w s x t ho B e i (.int .u8 0) 1 1 U.ht hi hz hsize hby rfl (by decide) v l.length (Lib.byteCells l) hs hown ad m.length c (Lib.byteCells m) hx (by rw [aak]; omega) (fun j z hj => ?_) (fun z hz => ?_) (by unfold maxLen; omega) (by omega) hbase
      (fun v' w' h1 h2 h3 => h v' w' (by unfold Ow; rw [List.length_append, aaI]; exact h1) h2 (fun e => ?_))
    · have hjl : j < m.length := by
        have := (List.getElem?_eq_some_iff.1 hj).1
        rwa [aak] at this
      rw [aaP m j hjl] at hj
      cases hj
      exact hcell ad rfl j hjl
    · obtain ⟨b, _, rfl⟩ := List.mem_map.1 hz
      rfl
    · obtain ⟨e1, e2⟩ := h3.1 e
      subst e1
      rcases hown.shape with ⟨_, h⟩ | ⟨g, c, h, _⟩
      · exact ⟨h, List.eq_nil_of_length_eq_zero e2⟩
      · cases h
theorem Rd.one {w : World} {v : Value} {l : List UInt8} (h : Rd w v l) : v.oneCell' = true := by
 obtain ⟨a, c, rfl, _⟩ := h.shape;rfl
theorem abP (w : World) (e : TypeId) (u : Value) : (w.alloc (.cells #[u] e)).ownsRow w.heap.size e 1 (.slice (some ⟨w.heap.size, 0, none⟩) 1 1) [u].length [u] :=
 World.ownsRow_lit w #[u] 1 (Nat.le_refl _) (by unfold maxLen; omega) rfl
theorem ae2 {w w' : World} {B : Nat} {e : TypeId} {n : Nat} {v : Value} {us : List Value} (h : w.ownsRow B e 1 v n us) (k : Kp w w') : w'.ownsRow B e 1 v n us := by
 refine ⟨h.1, ?_⟩;rcases h.2 with hn | ⟨g, cap, cur, rfl, hb, hg, rest⟩
 ·exact .inl hn
 ·exact .inr ⟨g, cap, cur, rfl, hb, (Below.block k g (Array.getElem?_eq_some_iff.1 hg).1).trans hg, rest⟩
def iv (n : Nat) : Value := .int .i64 (n : Int)
def RN (w : World) (v : Value) (l : List Nat) : Prop := Vals w v (l.map iv)
def isTB (n : Int) : Bool := (List.range 11).any fun k => decide (n = ((2 ^ k : Nat) : Int))
def okN (x : Int) : Prop := 0 ≤ x ∧ x ≤ 2046
instance (x : Int) : Decidable (okN x) := by unfold okN; infer_instance
def okC (a b n : Int) : Prop := isTB n = true ∧ 0 ≤ a ∧ 0 ≤ b ∧ a < n ∧ b < n
instance (a b n : Int) : Decidable (okC a b n) := by unfold okC; infer_instance
structure Nod where
 mk ::
 kind : Int
 name : Int
 pub : List UInt8
 un : List Int
 hash : List UInt8
theorem Nod.eq_iff (a b : Nod) : a = b ↔ a.kind = b.kind ∧ a.name = b.name ∧ a.pub = b.pub ∧ a.un = b.un ∧ a.hash = b.hash := by
 cases a; cases b; simp
instance : DecidableEq Nod := fun a b => decidable_of_iff _ (Nod.eq_iff a b).symm
def agT : Nod := ⟨0, 0, [], [], []⟩
def ats (t : List Nod) (x : Nat) : Nod := t.getD x agT
def lvs (t : List Nod) : Nat := (t.length + 1) / 2
def mayP (name : Int) (pub : List UInt8) : Prop := 0 ≤ name ∧ name ≤ 65535 ∧ pub.length = 32
instance (name : Int) (pub : List UInt8) : Decidable (mayP name pub) := by unfold mayP; infer_instance
def agj (t : List Nod) (i : Int) : Prop := 0 ≤ i ∧ i < lvs t ∧ (ats t (2 * i.toNat)).kind = 1
instance (t : List Nod) (i : Int) : Decidable (agj t i) := by unfold agj; infer_instance
def agU (t : List Nod) (f : Nat) : Prop := ∀ i, f ≤ i → i < lvs t → (ats t (2 * i)).kind = 0
instance (t : List Nod) (f : Nat) : Decidable (agU t f) :=
 decidable_of_iff (∀ i, i < lvs t → f ≤ i → (ats t (2 * i)).kind = 0) ⟨fun h i h1 h2 => h i h2 h1, fun h i h1 h2 => h i h2 h1⟩
theorem wf64 {n : Int} (h : (Lit.int .i64 n).wf = true) : -9223372036854775808 ≤ n ∧ n ≤ 9223372036854775807 := by
 have := bounds_i64 h;omega
theorem wf32 {n : Int} (h : (Lit.int .u32 n).wf = true) : 0 ≤ n ∧ n ≤ 4294967295 := by
 have := bounds_u32 h;omega
theorem wf8 {n : Int} (h : (Lit.int .u8 n).wf = true) : 0 ≤ n ∧ n ≤ 255 := by
 have := bounds_u8 h;omega
end Go.Proofs.Ytbhkdlpdolioaaa

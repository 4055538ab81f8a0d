import Derived.WalkKit
import Derived.Laws.AppendOwnNone
import Derived.Laws.IdiomStrings
import Derived.Laws.BytesArg
import Derived.Laws.BitsLemmas
import Derived.Lib.UnsafeStr
set_option linter.unusedVariables false
set_option linter.unusedSimpArgs false
namespace Go.Proofs.YtigpgcjbpoaclaaDoor
open Go.RowKit
def Kp (w w' : World) : Prop := Below w.heap.size w w'
theorem Kp.refl (w : World) : Kp w w := Below.refl _ _
theorem Kp.trans {a b c : World} (h : Kp a b) (k : Kp b c) : Kp a c := Below.trans h (Below.mono k h.size)
theorem Kp.drew {a b : World} (h : Kp a b) : Kp a b.drew := Below.drew h
theorem Kp.alloc {a b : World} (h : Kp a b) (o : Obj) : Kp a (b.alloc o) := Below.alloc h h.size o
theorem Kp.cell {w w' : World} (h : Kp w w') {p : Addr} {v : Value} (hv : w.cell? p = some v) : w'.cell? p = some v :=
  (Below.cell h (World.block_lt_of_cell? w p hv)).trans hv
def Rd (w : World) (v : Value) (l : List UInt8) : Prop :=
  ∃ a c, v = .slice a l.length c ∧ l.length ≤ c ∧ c ≤ maxLen ∧ (a = none → c = 0) ∧
    ∀ x, a = some x → ∀ i, (h : i < l.length) → w.cell? (x.add i) = some (.int .u8 ((l[i]'h).toNat : Int))
theorem Rd.kp {w w' : World} {v : Value} {l : List UInt8} (h : Rd w v l) (k : Kp w w') : Rd w' v l := by
  obtain ⟨a, c, rfl, h1, h2, h3, h4⟩ := h
  exact ⟨a, c, rfl, h1, h2, h3, fun x hx i hi => k.cell (h4 x hx i hi)⟩
theorem Rd.at {w : World} {a : Option Addr} {n c : Nat} {l : List UInt8} (h : Rd w (.slice a n c) l) (k : Nat) (hk : k < n) :
    ∃ b off, a = some ⟨b, off, none⟩ ∧ b < w.heap.size ∧ ∀ i, i < n → w.cell? ⟨b, off + i, none⟩ = some (.int .u8 ((l.getD i 0).toNat : Int)) := by
  obtain ⟨a', c', e, h1, h2, h3, h4⟩ := h
  simp only [Value.slice.injEq] at e
  obtain ⟨rfl, rfl, rfl⟩ := e
  cases a with
  | none => have := h3 rfl; omega
  | some x =>
    obtain ⟨b, off, spot⟩ := x
    have h0 := h4 _ rfl 0 (by omega)
    have hs : spot = none := by simpa [Addr.add] using World.cell?_spot h0
    subst hs
    refine ⟨b, off, rfl, World.block_lt_of_cell? w _ h0, fun i hi => ?_⟩
    have := h4 _ rfl i hi
    rw [List.getD_eq_getElem?_getD, List.getElem?_eq_getElem hi, Option.getD_some, ← this]
    congr 1
    unfold Addr.add
    split <;> simp_all
theorem Rd.len {w : World} {a : Option Addr} {n c : Nat} {l : List UInt8} (h : Rd w (.slice a n c) l) : n = l.length ∧ n ≤ c ∧ c ≤ maxLen := by
  obtain ⟨a', c', e, h1, h2, h3, h4⟩ := h
  simp only [Value.slice.injEq] at e
  obtain ⟨rfl, rfl, rfl⟩ := e
  exact ⟨rfl, h1, h2⟩
theorem Rd.shape {w : World} {v : Value} {l : List UInt8} (h : Rd w v l) : ∃ a c, v = .slice a l.length c ∧ l.length ≤ c ∧ c ≤ maxLen := by
  obtain ⟨a', c', e, h1, h2, h3, h4⟩ := h
  exact ⟨_, _, e, h1, h2⟩
def val (l : List UInt8) : Nat := l.foldl (fun n b => 256 * n + b.toNat) 0
theorem snoc_take (l : List UInt8) (k : Nat) (h : k < l.length) : l.take (k + 1) = l.take k ++ [l.getD k 0] := by
  rw [List.take_succ_eq_append_getElem h, List.getD_eq_getElem?_getD, List.getElem?_eq_getElem h]; rfl
def be : Nat → Nat → List UInt8
  | 0, _ => []
  | w + 1, n => be w (n / 256) ++ [UInt8.ofNat n]
theorem be_length : ∀ w n, (be w n).length = w
  | 0, _ => rfl
  | w + 1, n => by simp [be, be_length w]
theorem run_string_rd {P : Program} (w : World) (src dst e : TypeId) (v : Value) (l : List UInt8) (h : Rd w v l) (hs : P.underlying src = some (.slice e)) (he : P.underlying e = some (.int .u8)) (hd : P.underlying dst = some .string) :
    (convert src dst v).run P w = .ok (.string ⟨l.toArray⟩) w := by
  obtain ⟨a, c, rfl, h1, h2, h3, h4⟩ := h
  cases a with
  | none =>
    have hl : l = [] := by have := h3 rfl; exact List.eq_nil_of_length_eq_zero (by omega)
    subst hl
    rw [run_convert_bytes_nil w src e hs he _ _ dst hd]
    rfl
  | some x => exact run_convert_bytes_back w src dst e x c l hs he hd (h4 x rfl)
theorem be_cons : ∀ t n, be (t + 1) n = UInt8.ofNat (n / 256 ^ t) :: be t n
  | 0, n => by simp [be]
  | t + 1, n => by
    rw [be, be_cons t (n / 256), be, List.cons_append, Nat.div_div_eq_div_mul, Nat.pow_succ, Nat.mul_comm 256]
def Ow (e : TypeId) (w : World) (B : Nat) (v : Value) (l : List UInt8) : Prop := w.ownsRow B e 1 v l.length (Lib.byteCells l)
theorem byteCells_length (l : List UInt8) : (Lib.byteCells l).length = l.length := by simp [Lib.byteCells]
theorem byteCells_get (l : List UInt8) (i : Nat) (h : i < l.length) : (Lib.byteCells l)[i]? = some (.int .u8 ((l[i]'h).toNat : Int)) := by
  simp [Lib.byteCells, List.getElem?_map, List.getElem?_eq_getElem h]
theorem byteCells_append (l m : List UInt8) : Lib.byteCells (l ++ m) = Lib.byteCells l ++ Lib.byteCells m := by simp [Lib.byteCells]
theorem Ow.shape {e : TypeId} {w : World} {B : Nat} {v : Value} {l : List UInt8} (h : Ow e w B v l) :
    (v = .slice none 0 0 ∧ l = []) ∨ ∃ g c, v = .slice (some ⟨g, 0, none⟩) l.length c ∧ B ≤ g ∧ g < w.heap.size ∧ l.length ≤ c ∧ c ≤ maxLen := by
  rcases h.2 with ⟨rfl, h0⟩ | ⟨g, cap, cur, rfl, hb, hg, hn, hm, _⟩
  · exact .inl ⟨rfl, List.eq_nil_of_length_eq_zero h0⟩
  · exact .inr ⟨g, cap, rfl, hb, (Array.getElem?_eq_some_iff.1 hg).1, hn, hm⟩
theorem Ow.rd {e : TypeId} {w : World} {B : Nat} {v : Value} {l : List UInt8} (h : Ow e w B v l) : Rd w v l := by
  rcases h.shape with ⟨rfl, rfl⟩ | ⟨g, c, rfl, _, _, hc, hm⟩
  · exact ⟨none, 0, rfl, Nat.le_refl _, Nat.zero_le _, fun _ => rfl, fun x hx => by cases hx⟩
  · refine ⟨_, c, rfl, hc, hm, fun h => (by cases h), fun x hx i hi => ?_⟩
    cases hx
    have := World.ownsRow.cellAt h i (by omega)
    rw [byteCells_get l i hi] at this
    rw [← this]
    congr 1
    unfold Addr.add
    split <;> simp_all
theorem Ow.kp {e : TypeId} {w w' : World} {B : Nat} {v : Value} {l : List UInt8} (h : Ow e w B v l) (k : Kp w w') : Ow e w' B v l := by
  refine ⟨h.1, ?_⟩
  rcases h.2 with hn | ⟨g, cap, cur, rfl, hb, hg, rest⟩
  · exact .inl hn
  · exact .inr ⟨g, cap, cur, rfl, hb, (Below.block k g (Array.getElem?_eq_some_iff.1 hg).1).trans hg, rest⟩
theorem Ow.mono {e : TypeId} {w : World} {B B' : Nat} {v : Value} {l : List UInt8} (h : Ow e w B v l) (hb : B' ≤ B) : Ow e w B' v l := by
  refine ⟨h.1, ?_⟩
  rcases h.2 with hn | ⟨g, cap, cur, rfl, hb', rest⟩
  · exact .inl hn
  · exact .inr ⟨g, cap, cur, rfl, Nat.le_trans hb hb', rest⟩
theorem Ow.nil (e : TypeId) (w : World) (B : Nat) : Ow e w B (.slice none 0 0) [] := World.ownsRow_nil _ _ _ _
theorem Kp.grown {w0 w w' : World} {v : Value} (h : Kp w0 w) (hg : w.grownBy w' v.ownBlock) (hv : ∀ k, v.ownBlock = some k → w0.heap.size ≤ k) : Kp w0 w' :=
  Below.grown h hg h.size hv
theorem Ow.own_ge {e : TypeId} {w : World} {B : Nat} {v : Value} {l : List UInt8} (h : Ow e w B v l) : ∀ k, v.ownBlock = some k → B ≤ k := fun k hk => (World.ownsRow.lt h k hk).1
theorem Rd.cut {w : World} {a : Option Addr} {n c : Nat} {l : List UInt8} (h : Rd w (.slice a n c) l) (lo hi : Nat) (h1 : lo ≤ hi) (h2 : hi ≤ n) (a' : Option Addr) (n' c' : Nat)
    (ha : a' = if c = lo then a else a.map (·.add lo)) (hn : n' = hi - lo) (hc : c' = c - lo) : Rd w (.slice a' n' c') ((l.drop lo).take (hi - lo)) := by
  obtain ⟨a0, c0, e, e1, e2, e3, e4⟩ := h
  simp only [Value.slice.injEq] at e
  obtain ⟨rfl, rfl, rfl⟩ := e
  subst ha hn hc
  have hl : ((l.drop lo).take (hi - lo)).length = hi - lo := by simp; omega
  refine ⟨_, c - lo, by rw [hl], by omega, by omega, fun h => ?_, fun x hx i hi' => ?_⟩
  · split at h
    · have := e3 h; omega
    · cases a with
      | none => have := e3 rfl; omega
      | some y => simp at h
  · rw [hl] at hi'
    split at hx
    · omega
    · cases a with
      | none => have := e3 rfl; omega
      | some y =>
        simp only [Option.map_some, Option.some.injEq] at hx
        subst hx
        have hy := e4 y rfl (lo + i) (by omega)
        have hadd : (y.add lo).add i = y.add (lo + i) := by
          unfold Addr.add
          by_cases h0 : lo = 0 <;> by_cases h1 : i = 0 <;> simp [h0, h1, Nat.add_assoc]
        rw [hadd, hy]
        simp
structure U8 (P : Program) (t e : TypeId) : Prop where
  ht : P.underlying t = some (.slice e)
  hi : ∃ i, P.info? e = some i ∧ i.zero = some (.int .u8 0) ∧ i.size = 1 ∧ i.bytes = 1
theorem U8.mk' {P : Program} {t e : TypeId} (ht : P.underlying t = some (.slice e)) (h : (P.info? e).map (fun i => (i.zero, i.size, i.bytes)) = some (some (.int .u8 0), 1, 1)) : U8 P t e := by
  obtain ⟨i, hi, hz0, hz1, hz2⟩ := info_parts h
  exact ⟨ht, i, hi, hz0, hz1, hz2⟩
theorem wpList_append_ow {P : Program} {w : World} {t e : TypeId} (U : U8 P t e) {ops : Array Oper} {rest : List Oper} {o : Oper} {a : Act} {Q : Exit → Act → World → Prop} (hgd : o.guard = none) (s x : Operand)
    (ho : o.op = .call { callee := .builtin .append, args := #[s, x], argTypes := #[t, t] })
    (B : Nat) (v : Value) (l : List UInt8) (hs : a.eval s = v) (hown : Ow e w B v l) (u : Value) (m : List UInt8) (hx : a.eval x = u) (hu : Rd w u m)
    (hlen : l.length + m.length ≤ 140737488355328) (hbase : B ≤ w.heap.size)
    (h : ∀ v' w', Ow e w' B v' (l ++ m) → w.grownBy w' v.ownBlock → (v' = .slice none 0 0 → l = [] ∧ m = []) → wpList P ops Q rest (a.put o.dst v') w') : wpList P ops Q (o :: rest) a w := by
  obtain ⟨i, hi, hz, hsize, hby⟩ := U.hi
  obtain ⟨ad, c, rfl, hc, hm, hnil, hcell⟩ := hu
  cases ad with
  | none =>
    have hc0 := hnil rfl
    have hm0 : m = [] := List.eq_nil_of_length_eq_zero (by omega)
    subst hm0
    subst hc0
    refine wpList_append_own_none hgd s x t ho B e i 1 U.ht hi v l.length (Lib.byteCells l) hs hown hx ?_
    refine h v w (by simpa using hown) ⟨rfl, rfl, rfl, Nat.le_refl _, fun _ _ _ => rfl⟩ (fun e => ?_)
    subst e
    rcases hown.shape with ⟨_, h⟩ | ⟨g, c, h, _⟩
    · exact ⟨h, rfl⟩
    · cases h
  | some ad =>
    refine wpList_append_own w hgd s x t ho B e i (.int .u8 0) 1 1 U.ht hi hz hsize hby rfl (by decide) v l.length (Lib.byteCells l) hs hown ad m.length c (Lib.byteCells m) hx (by rw [byteCells_length]; omega) (fun j z hj => ?_) (fun z hz => ?_) (by unfold maxLen; omega) (by omega) hbase
      (fun v' w' h1 h2 h3 => h v' w' (by unfold Ow; rw [List.length_append, byteCells_append]; exact h1) h2 (fun e => ?_))
    · have hjl : j < m.length := by
        have := (List.getElem?_eq_some_iff.1 hj).1
        rwa [byteCells_length] at this
      rw [byteCells_get m j hjl] at hj
      cases hj
      exact hcell ad rfl j hjl
    · obtain ⟨b, _, rfl⟩ := List.mem_map.1 hz
      rfl
    · obtain ⟨e1, e2⟩ := h3.1 e
      subst e1
      rcases hown.shape with ⟨_, h⟩ | ⟨g, c, h, _⟩
      · exact ⟨h, List.eq_nil_of_length_eq_zero e2⟩
      · cases h
theorem Rd.cutAt {w : World} {b off n c : Nat} {l : List UInt8} (h : Rd w (.slice (some ⟨b, off, none⟩) n c) l) (lo k : Nat) (h1 : lo + k ≤ n) (h2 : lo < c) :
    Rd w (.slice (some ⟨b, off + lo, none⟩) k (c - lo)) ((l.drop lo).take k) := by
  have := h.cut lo (lo + k) (by omega) h1 _ k (c - lo) rfl (by omega) rfl
  rw [if_neg (by omega)] at this
  have e : (⟨b, off, none⟩ : Addr).add lo = ⟨b, off + lo, none⟩ := by unfold Addr.add; split <;> simp_all
  simpa [e] using this
theorem Ow.lit (w : World) (e : TypeId) (B n : Nat) (cs : Array Value) (l : List UInt8) (hB : B ≤ w.heap.size) (hn : l.length = n) (hm : n ≤ 1000000) (hc : cs.toList = Lib.byteCells l) :
    Ow e (w.alloc (.cells cs e)) B (.slice (some ⟨w.heap.size, 0, none⟩) n n) l := by
  subst hn
  unfold Ow
  rw [← hc]
  exact World.ownsRow_lit w cs l.length hB (by unfold maxLen; omega) (by rw [← Array.length_toList, hc, byteCells_length]; omega)
end Go.Proofs.YtigpgcjbpoaclaaDoor

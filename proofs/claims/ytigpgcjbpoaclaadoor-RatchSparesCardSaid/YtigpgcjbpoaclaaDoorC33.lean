import Derived.Test.YtigpgcjbpoaclaaDoorC2
import Derived.Test.YtigpgcjbpoaclaaDoorC6
import Derived.Test.YtigpgcjbpoaclaaDoorC28
import Derived.Test.YtigpgcjbpoaclaaDoorC31
import Derived.Test.YtigpgcjbpoaclaaDoorC32
set_option linter.unusedVariables false
set_option linter.unusedSimpArgs false
namespace Go.Proofs.YtigpgcjbpoaclaaDoor
open Go.RowKit
theorem three_one {a b c : Value} (ha : a.oneCell' = true) (hb : b.oneCell' = true) (hc : c.oneCell' = true) : ∀ z ∈ [a, b, c], z.oneCell' = true := by
  intro z hz
  simp only [List.mem_cons, List.not_mem_nil, or_false] at hz
  rcases hz with rfl | rfl | rfl
  · exact ha
  · exact hb
  · exact hc
def shLk : Sh Lk where
  k := 3
  pos := by decide
  R := fun Z w vs x => ∃ p q, vs = [.int .i64 x.pos, p, q] ∧ RZ Z w p x.key ∧ RZ Z w q x.non
  len := fun ⟨_, _, e, _⟩ => by rw [e]; rfl
  one := fun ⟨_, _, e, h1, h2⟩ => by rw [e]; exact three_one rfl h1.one h2.one
  solid := fun ⟨p, q, e, h1, h2⟩ hz => ⟨p, q, e, h1.solid hz, h2.solid hz⟩
  step := fun ⟨p, q, e, h1, h2⟩ hs => ⟨p, q, e, h1.step hs, h2.step hs⟩
theorem lk_at {Z : Nat → Prop} {w : World} {b o : Nat} {vs : List Value} {x : Lk} (hr : w.rangeAt b o vs) (h : shLk.R Z w vs x) : ∃ p q, w.cell? ⟨b, o, none⟩ = some (.int .i64 x.pos) ∧ w.cell? ⟨b, o + 1, none⟩ = some p ∧ w.cell? ⟨b, o + 2, none⟩ = some q ∧ RZ Z w p x.key ∧ RZ Z w q x.non := by
  obtain ⟨p, q, rfl, h1, h2⟩ := h
  exact ⟨p, q, hr 0 _ rfl, hr 1 _ rfl, hr 2 _ rfl, h1, h2⟩
def LL (w : World) (v : Value) (l : List Lk) : Prop := GL shLk w v l
theorem LL.kp {w w' : World} {v : Value} {l : List Lk} (h : LL w v l) (k : Kp w w') : LL w' v l := GL.kp h k
theorem LL.node {w : World} {v : Value} {l : List Lk} (h : LL w v l) {i : Nat} (hi : i < l.length) :
    ∃ b off c p q, v = .slice (some ⟨b, off, none⟩) l.length c ∧ b < w.heap.size ∧ w.cell? ⟨b, off + i * 3, none⟩ = some (.int .i64 (lkAt l i).pos) ∧ w.cell? ⟨b, off + i * 3 + 1, none⟩ = some p ∧ w.cell? ⟨b, off + i * 3 + 2, none⟩ = some q ∧ Rd w p (lkAt l i).key ∧ Rd w q (lkAt l i).non := by
  obtain ⟨a, c, rfl, h1, h2⟩ := SE.shape h
  obtain ⟨b, off, rfl, hb, hc⟩ := SE.at h (by omega)
  obtain ⟨vs, r1, r2⟩ := hc i _ (lkAt_of hi)
  obtain ⟨p, q, d0, d1, d2, d3, d4⟩ := lk_at r1 r2
  exact ⟨b, off, c, p, q, rfl, hb, d0, d1, d2, d3.1, d4.1⟩
structure LIn (w : World) (x y : Value) (k : Lk) : Prop where
  mk ::
  key : Rd w x k.key
  non : Rd w y k.non
theorem LIn.kp {w w' : World} {x y : Value} {k : Lk} (h : LIn w x y k) (kp : Kp w w') : LIn w' x y k := ⟨h.key.kp kp, h.non.kp kp⟩
structure CIn (w : World) (x y : Value) (c : Ch) : Prop where
  mk ::
  sec : Rd w x c.sec
  spare : LL w y c.spare
theorem CIn.kp {w w' : World} {x y : Value} {c : Ch} (h : CIn w x y c) (kp : Kp w w') : CIn w' x y c := ⟨h.sec.kp kp, h.spare.kp kp⟩
theorem LIn.none (w : World) : LIn w (.slice none 0 0) (.slice none 0 0) noLk := ⟨rd_nil w, rd_nil w⟩
theorem LL.shape {w : World} {v : Value} {l : List Lk} (h : LL w v l) : ∃ a c, v = .slice a l.length c ∧ l.length ≤ c ∧ c ≤ maxLen := SE.shape h
theorem SE.litY {α : Type} {S : Sh α} {Z : Nat → Prop} {w : World} {vs : List Value} {x : α} {cs : Array Value} (e : TypeId) (h : S.R Z w vs x) (hc : cs.toList = vs) : SE S Z (w.alloc (.cells cs e)) (.slice (some ⟨w.heap.size, 0, none⟩) 1 1) [x] := by
  refine ⟨_, 1, rfl, Nat.le_refl _, by unfold maxLen; omega, fun h => (by cases h), fun _ => ⟨w.heap.size, 0, rfl, by simp, fun i y hy => ?_⟩⟩
  have hi : i < 1 := (List.getElem?_eq_some_iff.1 hy).1
  obtain rfl : i = 0 := by omega
  cases hy
  refine ⟨vs, fun j z hj => ?_, S.step h (Step.of_kp ((Kp.refl w).alloc _))⟩
  have hb := (Bx.new w e cs).cell j
  subst hc
  rw [show 0 + 0 * S.k + j = j by omega, hb, ← Array.getElem?_toList]
  exact hj
theorem SE.cut {α : Type} {S : Sh α} {Z : Nat → Prop} {w : World} {b off n c : Nat} {t : List α} (h : SE S Z w (.slice (some ⟨b, off, none⟩) n c) t) (k : Nat) (hk : k ≤ n) (a' : Option Addr) (ha : k < n → a' = some ⟨b, off + k * S.k, none⟩) (hc : a' = none → c - k = 0) : SE S Z w (.slice a' (n - k) (c - k)) (t.drop k) := by
  obtain ⟨a0, c', e, h1, h2, h3, h4⟩ := h
  simp only [Value.slice.injEq] at e
  obtain ⟨rfl, rfl, rfl⟩ := e
  have hl : (t.drop k).length = t.length - k := by rw [List.length_drop]
  refine ⟨a', c - k, by rw [hl], by omega, by omega, hc, fun h0 => ?_⟩
  rw [hl] at h0
  obtain ⟨b', o', ha', hb, hi⟩ := h4 (by omega)
  simp only [Option.some.injEq, Addr.mk.injEq] at ha'
  obtain ⟨rfl, rfl, _⟩ := ha'
  refine ⟨b, off + k * S.k, ha (by omega), hb, fun i x hx => ?_⟩
  rw [List.getElem?_drop] at hx
  obtain ⟨vs, r1, r2⟩ := hi (k + i) x hx
  refine ⟨vs, fun j z hj => ?_, r2⟩
  have := r1 j z hj
  rwa [Nat.add_mul, ← Nat.add_assoc] at this
theorem Rd.stepNew {w w' : World} {v : Value} {l : List UInt8} {b : Nat} (h : Rd w v l) (hg : w.grownBy w' (some b)) (hn : Newer (b + 1) v) : Rd w' v l :=
  h.step (grown_step hg) fun c o n m e e2 => by have := hn c (by rw [e]; rfl); cases e2; omega
theorem GZ.se13 {α : Type} {S : Sh α} {Z : Nat → Prop} {e : TypeId} {w : World} {B : Nat} {v : Value} {t : List α} (h : GZ S e Z w B v t) : SE S Z w v t := by
  by_cases h0 : 0 < t.length
  · obtain ⟨g, c, rfl, hb, hg, h1, h2, h3⟩ := h.form h0
    refine ⟨_, c, rfl, h1, h2, fun h => (by cases h), fun _ => ⟨g, 0, rfl, hg, fun i x hx => ?_⟩⟩
    rw [Nat.zero_add]
    obtain ⟨vs, r1, r2⟩ := h3 i x hx
    exact ⟨vs, r1, S.mono r2 fun _ h => .inr h⟩
  · have ht : t = [] := List.eq_nil_of_length_eq_zero (by omega)
    subst ht
    obtain ⟨us, h1, _⟩ := h
    rcases h1.2 with ⟨rfl, _⟩ | ⟨g, cap, cur, rfl, hb, hg, hn, hm, hs, ht⟩
    · exact SE.nil Z w
    · exact ⟨_, cap, rfl, hn, hm, fun h => (by cases h), fun h => absurd h (by simp)⟩
theorem RZ.kp13 {Z : Nat → Prop} {w w' : World} {v : Value} {l : List UInt8} (h : RZ Z w v l) (k : Kp w w') : RZ Z w' v l := h.step (Step.of_kp k)
theorem Newer.free {B : Nat} {v : Value} {Z : Nat → Prop} (h : Newer B v) (hz : ∀ g, Z g → g < B) : Free Z v := fun x n c e h0 hk => by
  have h1 := h x.block (by rw [e]; rfl)
  have h2 := hz _ hk
  omega
theorem stored3 {w : World} {g : Nat} {T : TypeId} {a0 a1 a2 : Value} (hb : Bx w g T #[a0, a1, a2]) (v0 v1 v2 : Value) :
    Bx (((w.setCell ⟨g, 0, none⟩ v0).setCell ⟨g, 1, none⟩ v1).setCell ⟨g, 2, none⟩ v2) g T #[v0, v1, v2]
    ∧ w.grownBy (((w.setCell ⟨g, 0, none⟩ v0).setCell ⟨g, 1, none⟩ v1).setCell ⟨g, 2, none⟩ v2) (some g)
    ∧ ∀ w0, Kp w0 w → w0.heap.size ≤ g → Kp w0 (((w.setCell ⟨g, 0, none⟩ v0).setCell ⟨g, 1, none⟩ v1).setCell ⟨g, 2, none⟩ v2) :=
  ⟨hb.fill #[v0, v1, v2] rfl, grown_set9 w g 0 [v0, v1, v2] 0, fun w0 k hg => k.setCells hg [v0, v1, v2] 0⟩
theorem cell_grown {w w' : World} {g b o : Nat} {v : Value} (h : w.cell? ⟨b, o, none⟩ = some v) (hg : w.grownBy w' (some g)) (hn : b ≠ g) : w'.cell? ⟨b, o, none⟩ = some v :=
  (World.cell?_of_block (w := w) (hg.block b (World.block_lt_of_cell? w _ h) (fun e => hn (by cases e; rfl)))).trans h
theorem Bx.grow {w w' : World} {b g : Nat} {T : TypeId} {cs : Array Value} (h : Bx w b T cs) (hg : w.grownBy w' (some g)) (hn : b ≠ g) : Bx w' b T cs :=
  (hg.block b (Array.getElem?_eq_some_iff.1 h).1 (fun e => hn (by cases e; rfl))).trans h
theorem results_cell1 {P : Program} {fn : Func} {p : Tmp} {ty : TypeId} (h : fn.results = #[.cell p ty]) (tmps : Array Value) (w : World) (g : Nat) (t : TypeId) (cs : Array Value) (fr : Nat × Nat) (d : TypeDesc)
    (hp : tmps.getD p undef = .pointer (some ⟨g, 0, none⟩)) (hg : w.heap[g]? = some (.cells cs t fr))
    (hu : P.underlying ty = some d) (hd : (match d with | .struct _ | .array _ _ => true | _ => false) = true) (hi : (P.info? ty).map (·.size) = some cs.size) :
    (results fn tmps).run P w = .ok (.agg cs) w := by
  have hp' : tmps[p]?.getD undef = .pointer (some ⟨g, 0, none⟩) := by simpa using hp
  simp [results, h, hp', asAddr, run_loadVar_row w g t ty cs fr d hg hu hd hi]
theorem results_cct {P : Program} {fn : Func} {p p2 q : Tmp} {ty ty2 : TypeId} (h : fn.results = #[.cell p ty, .cell p2 ty2, .tmp q]) (tmps : Array Value) (w : World) (g g2 : Nat) (t t2 : TypeId) (cs cs2 : Array Value) (fr fr2 : Nat × Nat) (d d2 : TypeDesc) (v : Value)
    (hp : tmps.getD p undef = .pointer (some ⟨g, 0, none⟩)) (hg : w.heap[g]? = some (.cells cs t fr)) (hp2 : tmps.getD p2 undef = .pointer (some ⟨g2, 0, none⟩)) (hg2 : w.heap[g2]? = some (.cells cs2 t2 fr2))
    (hu : P.underlying ty = some d) (hd : (match d with | .struct _ | .array _ _ => true | _ => false) = true) (hi : (P.info? ty).map (·.size) = some cs.size)
    (hu2 : P.underlying ty2 = some d2) (hd2 : (match d2 with | .struct _ | .array _ _ => true | _ => false) = true) (hi2 : (P.info? ty2).map (·.size) = some cs2.size) (hq : tmps.getD q undef = v) :
    (results fn tmps).run P w = .ok (.tuple #[.agg cs, .agg cs2, v]) w := by
  have hp' : tmps[p]?.getD undef = .pointer (some ⟨g, 0, none⟩) := by simpa using hp
  have hp2' : tmps[p2]?.getD undef = .pointer (some ⟨g2, 0, none⟩) := by simpa using hp2
  have hq' : tmps[q]?.getD undef = v := by simpa using hq
  simp [results, h, hp', hp2', hq', asAddr, run_loadVar_row w g t ty cs fr d hg hu hd hi, run_loadVar_row w g2 t2 ty2 cs2 fr2 d2 hg2 hu2 hd2 hi2]
theorem Rd.kept13 {w w' : World} {g : Nat} {T : TypeId} {n : Int} {a1 a2 : Option Addr} {m1 c1 m2 c2 : Nat} {v : Value} {l : List UInt8} (h : Rd w v l) (hb : Bx w g T #[.int .i64 n, .slice a1 m1 c1, .slice a2 m2 c2]) (hg : w.grownBy w' (some g)) : Rd w' v l := by
  refine h.stepF (grown_step hg) fun x m c e h0 hk => ?_
  obtain ⟨a', c', e', h1, h2, h3, h4⟩ := h
  rw [e] at e'
  simp only [Value.slice.injEq] at e'
  obtain ⟨rfl, rfl, rfl⟩ := e'
  have hc := h4 x rfl 0 h0
  have hx : x.block = g := by cases hk; rfl
  have hb' : w.heap[(x.add 0).block]? = some (.cells #[.int .i64 n, .slice a1 m1 c1, .slice a2 m2 c2] T (0, 0)) := by rw [add_block9, hx]; exact hb
  unfold World.cell? at hc
  rw [hb'] at hc
  dsimp only at hc
  split at hc
  · cases hc
  · next hsp =>
    generalize (x.add 0).off = q at hc
    match q, hc with
    | 0, hc => cases hc
    | 1, hc => cases hc
    | 2, hc => cases hc
    | q + 3, hc => simp at hc
end Go.Proofs.YtigpgcjbpoaclaaDoor
namespace Go.Proofs.YtigpgcjbpoaclaaDoor
open Go.RowKit Go.ChangeShapes Go.WideShapes Go.Deep
section
variable {H : Type} {enc : TypeId × Value → H} {P : Program} {w : World} {base : Nat} {spare : Nat → Bool} {held : Bool}
theorem open_lay_1_1_1 {t : TypeId} {f0 f1 f2 : Field} {v : Value} {d : DataW H} {p : List MemPlace} {r : Reach} {b0 : Nat} (hs : P.underlying t = some (.struct #[f0, f1, f2])) (hC : P.cellsOf t = 3)
    (hl : [(f0.offset, P.cellsOf f0.type), (f1.offset, P.cellsOf f1.type), (f2.offset, P.cellsOf f2.type)] = ([(0, 1), (1, 1), (2, 1)] : List (Nat × Nat)))
    (hv : Value.okWide P w r b0 t v) (h : DataW.Trod enc P w base spare held t v d p) :
    ∃ (c0 c1 c2 : Value) (y0 y1 y2 : DataW H × List MemPlace) (n : Nat), v = .agg #[c0, c1, c2] ∧ d = .agg [y0.1, y1.1, y2.1] ∧ DataW.trod enc P w base spare held n f0.type [c0] = some y0 ∧ DataW.trod enc P w base spare held n f1.type [c1] = some y1 ∧ DataW.trod enc P w base spare held n f2.type [c2] = some y2 := by
  obtain ⟨cs, xs, n, rfl, hcl, rfl, hxl, hg⟩ := open_lay hs hC hv h
  simp only [List.cons.injEq, Prod.mk.injEq, and_true] at hl
  obtain ⟨⟨o0, k0⟩, ⟨o1, k1⟩, ⟨o2, k2⟩⟩ := hl
  match cs, hcl, xs, (show xs.length = 3 from hxl) with
  | [c0, c1, c2], _, [y0, y1, y2], _ =>
    exact ⟨c0, c1, c2, y0, y1, y2, n, rfl, rfl, by simpa [o0, k0] using hg 0 f0 rfl, by simpa [o1, k1] using hg 1 f1 rfl, by simpa [o2, k2] using hg 2 f2 rfl⟩
theorem three_of {e : TypeId} {f0 f1 f2 : Field} (he : P.underlying e = some (.struct #[f0, f1, f2])) (hone : oneCellFields P #[f0, f1, f2] = true) {n : Nat} {cs : List Value} {x : DataW H × List MemPlace}
    (h : DataW.trod enc P w base spare held n e cs = some x) (hl : cs.length = 3) :
    ∃ c0 c1 c2 n' y0 y1 y2, cs = [c0, c1, c2] ∧ DataW.trod enc P w base spare held n' f0.type [c0] = some y0 ∧ DataW.trod enc P w base spare held n' f1.type [c1] = some y1 ∧ DataW.trod enc P w base spare held n' f2.type [c2] = some y2 := by
  obtain ⟨xs, n', _, _, _, hxs, hg⟩ := DataW.trod_struct he h
  obtain ⟨o0, k0⟩ := hone_of hone 0 f0 rfl
  obtain ⟨o1, k1⟩ := hone_of hone 1 f1 rfl
  obtain ⟨o2, k2⟩ := hone_of hone 2 f2 rfl
  match cs, hl with
  | [c0, c1, c2], _ =>
    match xs, (show xs.length = 3 from hxs) with
    | [y0, y1, y2], _ =>
      have g0 : DataW.trod enc P w base spare held n' f0.type [c0] = some y0 := by simpa [o0, k0] using hg 0 f0 rfl
      have g1 : DataW.trod enc P w base spare held n' f1.type [c1] = some y1 := by simpa [o1, k1] using hg 1 f1 rfl
      have g2 : DataW.trod enc P w base spare held n' f2.type [c2] = some y2 := by simpa [o2, k2] using hg 2 f2 rfl
      exact ⟨c0, c1, c2, n', y0, y1, y2, rfl, g0, g1, g2⟩
theorem LL.of_cells {t e eb : TypeId} {f0 f1 f2 : Field} {fuel : Nat} {cs : List Value} {x : DataW H × List MemPlace} (ht : P.underlying t = some (.slice e)) (he : P.underlying e = some (.struct #[f0, f1, f2]))
    (hone : oneCellFields P #[f0, f1, f2] = true) (hC : P.cellsOf e = 3) (h0 : P.underlying f0.type = some (.int .i64)) (h1 : P.underlying f1.type = some (.slice eb)) (h2 : P.underlying f2.type = some (.slice eb)) (hb : P.underlying eb = some (.int .u8)) (hbc : P.cellsOf eb = 1)
    (h : DataW.trod enc P w base spare held fuel t cs = some x) : ∃ v l, cs = [v] ∧ LL w v l := by
  refine GL.of_cells shLk noLk ht hC (fun n' cs' x' htr hl => ?_) h
  obtain ⟨c0, c1, c2, n2, y0, y1, y2, rfl, g0, g1, g2⟩ := three_of he hone htr hl
  obtain ⟨n0, e0, _, _⟩ := DataW.trod_int h0 g0
  cases e0
  obtain ⟨l1, r1⟩ := Rd.of_one h1 hb hbc g1
  obtain ⟨l2, r2⟩ := Rd.of_one h2 hb hbc g2
  exact ⟨⟨n0, l1, l2⟩, c1, c2, rfl, RZ.of r1, RZ.of r2⟩
end
end Go.Proofs.YtigpgcjbpoaclaaDoor

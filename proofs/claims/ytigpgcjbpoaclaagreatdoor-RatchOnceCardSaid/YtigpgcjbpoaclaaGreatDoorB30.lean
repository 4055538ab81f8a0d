import Derived.Test.YtigpgcjbpoaclaaGreatDoorB2
import Derived.Test.YtigpgcjbpoaclaaGreatDoorB3
import Derived.Test.YtigpgcjbpoaclaaGreatDoorB22
import Derived.Test.YtigpgcjbpoaclaaGreatDoorB25
import Derived.Test.YtigpgcjbpoaclaaGreatDoorB26
import Derived.Test.YtigpgcjbpoaclaaGreatDoorB27
import Derived.Deep.RegionLaw
import Derived.Deep.Upon
import Derived.ArgAppend
import Derived.OpenShut
import Derived.SizedLaws
import Derived.Deep.Fields
set_option linter.unusedVariables false
set_option linter.unusedSimpArgs false
namespace Go.Proofs.YtigpgcjbpoaclaaGreatDoor
open Go.RowKit
structure Sd where
  node : Int
  seed : List UInt8
def RZ (Z : Nat → Prop) (w : World) (v : Value) (l : List UInt8) : Prop := Rd w v l ∧ Free Z v
theorem RZ.mono {Z Z' : Nat → Prop} {w : World} {v : Value} {l : List UInt8} (h : RZ Z w v l) (hz : ∀ g, Z' g → Z g) : RZ Z' w v l := ⟨h.1, h.2.mono hz⟩
theorem RZ.solid {Z Z' : Nat → Prop} {w : World} {v : Value} {l : List UInt8} (h : RZ Z w v l) (hz : ∀ g, Z' g → Z g ∨ ¬ Solid w g) : RZ Z' w v l := ⟨h.1, h.2.solid h.1.solid hz⟩
theorem RZ.step {Z : Nat → Prop} {w w' : World} {v : Value} {l : List UInt8} (h : RZ Z w v l) (hs : Step Z w w') : RZ Z w' v l := ⟨h.1.stepF hs h.2, h.2⟩
theorem RZ.one {Z : Nat → Prop} {w : World} {v : Value} {l : List UInt8} (h : RZ Z w v l) : v.oneCell' = true := by
  obtain ⟨a, c, rfl, _⟩ := h.1.shape
  rfl
theorem two_one {a b : Value} (ha : a.oneCell' = true) (hb : b.oneCell' = true) : ∀ z ∈ [a, b], z.oneCell' = true := by
  intro z hz
  simp only [List.mem_cons, List.not_mem_nil, or_false] at hz
  rcases hz with rfl | rfl
  · exact ha
  · exact hb
def shSd : Sh Sd where
  k := 2
  pos := by decide
  R := fun Z w vs x => ∃ q, vs = [.int .i64 x.node, q] ∧ RZ Z w q x.seed
  len := fun ⟨_, e, _⟩ => by rw [e]; rfl
  one := fun ⟨_, e, h⟩ => by rw [e]; exact two_one rfl h.one
  solid := fun ⟨q, e, h⟩ hz => ⟨q, e, h.solid hz⟩
  step := fun ⟨q, e, h⟩ hs => ⟨q, e, h.step hs⟩
def SL (w : World) (v : Value) (l : List Sd) : Prop := GL shSd w v l
theorem three_one {a b c : Value} (ha : a.oneCell' = true) (hb : b.oneCell' = true) (hc : c.oneCell' = true) : ∀ z ∈ [a, b, c], z.oneCell' = true := by
  intro z hz
  simp only [List.mem_cons, List.not_mem_nil, or_false] at hz
  rcases hz with rfl | rfl | rfl
  · exact ha
  · exact hb
  · exact hc
def shLk : Sh Lk where
  k := 3
  pos := by decide
  R := fun Z w vs x => ∃ p q, vs = [.int .i64 x.pos, p, q] ∧ RZ Z w p x.key ∧ RZ Z w q x.non
  len := fun ⟨_, _, e, _⟩ => by rw [e]; rfl
  one := fun ⟨_, _, e, h1, h2⟩ => by rw [e]; exact three_one rfl h1.one h2.one
  solid := fun ⟨p, q, e, h1, h2⟩ hz => ⟨p, q, e, h1.solid hz, h2.solid hz⟩
  step := fun ⟨p, q, e, h1, h2⟩ hs => ⟨p, q, e, h1.step hs, h2.step hs⟩
theorem lk_at {Z : Nat → Prop} {w : World} {b o : Nat} {vs : List Value} {x : Lk} (hr : w.rangeAt b o vs) (h : shLk.R Z w vs x) : ∃ p q, w.cell? ⟨b, o, none⟩ = some (.int .i64 x.pos) ∧ w.cell? ⟨b, o + 1, none⟩ = some p ∧ w.cell? ⟨b, o + 2, none⟩ = some q ∧ RZ Z w p x.key ∧ RZ Z w q x.non := by
  obtain ⟨p, q, rfl, h1, h2⟩ := h
  exact ⟨p, q, hr 0 _ rfl, hr 1 _ rfl, hr 2 _ rfl, h1, h2⟩
def LL (w : World) (v : Value) (l : List Lk) : Prop := GL shLk w v l
theorem LL.kp {w w' : World} {v : Value} {l : List Lk} (h : LL w v l) (k : Kp w w') : LL w' v l := GL.kp h k
theorem LL.node {w : World} {v : Value} {l : List Lk} (h : LL w v l) {i : Nat} (hi : i < l.length) :
    ∃ b off c p q, v = .slice (some ⟨b, off, none⟩) l.length c ∧ b < w.heap.size ∧ w.cell? ⟨b, off + i * 3, none⟩ = some (.int .i64 (lkAt l i).pos) ∧ w.cell? ⟨b, off + i * 3 + 1, none⟩ = some p ∧ w.cell? ⟨b, off + i * 3 + 2, none⟩ = some q ∧ Rd w p (lkAt l i).key ∧ Rd w q (lkAt l i).non := by
  obtain ⟨a, c, rfl, h1, h2⟩ := SE.shape h
  obtain ⟨b, off, rfl, hb, hc⟩ := SE.at h (by omega)
  obtain ⟨vs, r1, r2⟩ := hc i _ (lkAt_of hi)
  obtain ⟨p, q, d0, d1, d2, d3, d4⟩ := lk_at r1 r2
  exact ⟨b, off, c, p, q, rfl, hb, d0, d1, d2, d3.1, d4.1⟩
structure LIn (w : World) (x y : Value) (k : Lk) : Prop where
  mk ::
  key : Rd w x k.key
  non : Rd w y k.non
theorem LIn.kp {w w' : World} {x y : Value} {k : Lk} (h : LIn w x y k) (kp : Kp w w') : LIn w' x y k := ⟨h.key.kp kp, h.non.kp kp⟩
structure CIn (w : World) (x y : Value) (c : Ch) : Prop where
  mk ::
  sec : Rd w x c.sec
  spare : LL w y c.spare
theorem CIn.kp {w w' : World} {x y : Value} {c : Ch} (h : CIn w x y c) (kp : Kp w w') : CIn w' x y c := ⟨h.sec.kp kp, h.spare.kp kp⟩
theorem LIn.none (w : World) : LIn w (.slice none 0 0) (.slice none 0 0) noLk := ⟨rd_nil w, rd_nil w⟩
theorem LL.shape {w : World} {v : Value} {l : List Lk} (h : LL w v l) : ∃ a c, v = .slice a l.length c ∧ l.length ≤ c ∧ c ≤ maxLen := SE.shape h
theorem SE.litY {α : Type} {S : Sh α} {Z : Nat → Prop} {w : World} {vs : List Value} {x : α} {cs : Array Value} (e : TypeId) (h : S.R Z w vs x) (hc : cs.toList = vs) : SE S Z (w.alloc (.cells cs e)) (.slice (some ⟨w.heap.size, 0, none⟩) 1 1) [x] := by
  refine ⟨_, 1, rfl, Nat.le_refl _, by unfold maxLen; omega, fun h => (by cases h), fun _ => ⟨w.heap.size, 0, rfl, by simp, fun i y hy => ?_⟩⟩
  have hi : i < 1 := (List.getElem?_eq_some_iff.1 hy).1
  obtain rfl : i = 0 := by omega
  cases hy
  refine ⟨vs, fun j z hj => ?_, S.step h (Step.of_kp ((Kp.refl w).alloc _))⟩
  have hb := (Bx.new w e cs).cell j
  subst hc
  rw [show 0 + 0 * S.k + j = j by omega, hb, ← Array.getElem?_toList]
  exact hj
theorem SE.cut {α : Type} {S : Sh α} {Z : Nat → Prop} {w : World} {b off n c : Nat} {t : List α} (h : SE S Z w (.slice (some ⟨b, off, none⟩) n c) t) (k : Nat) (hk : k ≤ n) (a' : Option Addr) (ha : k < n → a' = some ⟨b, off + k * S.k, none⟩) (hc : a' = none → c - k = 0) : SE S Z w (.slice a' (n - k) (c - k)) (t.drop k) := by
  obtain ⟨a0, c', e, h1, h2, h3, h4⟩ := h
  simp only [Value.slice.injEq] at e
  obtain ⟨rfl, rfl, rfl⟩ := e
  have hl : (t.drop k).length = t.length - k := by rw [List.length_drop]
  refine ⟨a', c - k, by rw [hl], by omega, by omega, hc, fun h0 => ?_⟩
  rw [hl] at h0
  obtain ⟨b', o', ha', hb, hi⟩ := h4 (by omega)
  simp only [Option.some.injEq, Addr.mk.injEq] at ha'
  obtain ⟨rfl, rfl, _⟩ := ha'
  refine ⟨b, off + k * S.k, ha (by omega), hb, fun i x hx => ?_⟩
  rw [List.getElem?_drop] at hx
  obtain ⟨vs, r1, r2⟩ := hi (k + i) x hx
  refine ⟨vs, fun j z hj => ?_, r2⟩
  have := r1 j z hj
  rwa [Nat.add_mul, ← Nat.add_assoc] at this
theorem Rd.stepNew {w w' : World} {v : Value} {l : List UInt8} {b : Nat} (h : Rd w v l) (hg : w.grownBy w' (some b)) (hn : Newer (b + 1) v) : Rd w' v l :=
  h.step (grown_step hg) fun c o n m e e2 => by have := hn c (by rw [e]; rfl); cases e2; omega
theorem GZ.se13 {α : Type} {S : Sh α} {Z : Nat → Prop} {e : TypeId} {w : World} {B : Nat} {v : Value} {t : List α} (h : GZ S e Z w B v t) : SE S Z w v t := by
  by_cases h0 : 0 < t.length
  · obtain ⟨g, c, rfl, hb, hg, h1, h2, h3⟩ := h.form h0
    refine ⟨_, c, rfl, h1, h2, fun h => (by cases h), fun _ => ⟨g, 0, rfl, hg, fun i x hx => ?_⟩⟩
    rw [Nat.zero_add]
    obtain ⟨vs, r1, r2⟩ := h3 i x hx
    exact ⟨vs, r1, S.mono r2 fun _ h => .inr h⟩
  · have ht : t = [] := List.eq_nil_of_length_eq_zero (by omega)
    subst ht
    obtain ⟨us, h1, _⟩ := h
    rcases h1.2 with ⟨rfl, _⟩ | ⟨g, cap, cur, rfl, hb, hg, hn, hm, hs, ht⟩
    · exact SE.nil Z w
    · exact ⟨_, cap, rfl, hn, hm, fun h => (by cases h), fun h => absurd h (by simp)⟩
theorem RZ.kp13 {Z : Nat → Prop} {w w' : World} {v : Value} {l : List UInt8} (h : RZ Z w v l) (k : Kp w w') : RZ Z w' v l := h.step (Step.of_kp k)
theorem Newer.free {B : Nat} {v : Value} {Z : Nat → Prop} (h : Newer B v) (hz : ∀ g, Z g → g < B) : Free Z v := fun x n c e h0 hk => by
  have h1 := h x.block (by rw [e]; rfl)
  have h2 := hz _ hk
  omega
theorem Rd.free_old {w : World} {v : Value} {l : List UInt8} {Z : Nat → Prop} (h : Rd w v l) (hz : ∀ g, Z g → w.heap.size ≤ g) : Free Z v := fun x n c e h0 hk => by
  have h1 := h.inside x n c e h0
  have h2 := hz _ hk
  omega
theorem stored3 {w : World} {g : Nat} {T : TypeId} {a0 a1 a2 : Value} (hb : Bx w g T #[a0, a1, a2]) (v0 v1 v2 : Value) :
    Bx (((w.setCell ⟨g, 0, none⟩ v0).setCell ⟨g, 1, none⟩ v1).setCell ⟨g, 2, none⟩ v2) g T #[v0, v1, v2]
    ∧ w.grownBy (((w.setCell ⟨g, 0, none⟩ v0).setCell ⟨g, 1, none⟩ v1).setCell ⟨g, 2, none⟩ v2) (some g)
    ∧ ∀ w0, Kp w0 w → w0.heap.size ≤ g → Kp w0 (((w.setCell ⟨g, 0, none⟩ v0).setCell ⟨g, 1, none⟩ v1).setCell ⟨g, 2, none⟩ v2) :=
  ⟨hb.fill #[v0, v1, v2] rfl, grown_set9 w g 0 [v0, v1, v2] 0, fun w0 k hg => k.setCells hg [v0, v1, v2] 0⟩
theorem cell_grown {w w' : World} {g b o : Nat} {v : Value} (h : w.cell? ⟨b, o, none⟩ = some v) (hg : w.grownBy w' (some g)) (hn : b ≠ g) : w'.cell? ⟨b, o, none⟩ = some v :=
  (World.cell?_of_block (w := w) (hg.block b (World.block_lt_of_cell? w _ h) (fun e => hn (by cases e; rfl)))).trans h
theorem Bx.grow {w w' : World} {b g : Nat} {T : TypeId} {cs : Array Value} (h : Bx w b T cs) (hg : w.grownBy w' (some g)) (hn : b ≠ g) : Bx w' b T cs :=
  (hg.block b (Array.getElem?_eq_some_iff.1 h).1 (fun e => hn (by cases e; rfl))).trans h
theorem results_cell1 {P : Program} {fn : Func} {p : Tmp} {ty : TypeId} (h : fn.results = #[.cell p ty]) (tmps : Array Value) (w : World) (g : Nat) (t : TypeId) (cs : Array Value) (fr : Nat × Nat) (d : TypeDesc)
    (hp : tmps.getD p undef = .pointer (some ⟨g, 0, none⟩)) (hg : w.heap[g]? = some (.cells cs t fr))
    (hu : P.underlying ty = some d) (hd : (match d with | .struct _ | .array _ _ => true | _ => false) = true) (hi : (P.info? ty).map (·.size) = some cs.size) :
    (results fn tmps).run P w = .ok (.agg cs) w := by
  have hp' : tmps[p]?.getD undef = .pointer (some ⟨g, 0, none⟩) := by simpa using hp
  simp [results, h, hp', asAddr, run_loadVar_row w g t ty cs fr d hg hu hd hi]
theorem results_cct {P : Program} {fn : Func} {p p2 q : Tmp} {ty ty2 : TypeId} (h : fn.results = #[.cell p ty, .cell p2 ty2, .tmp q]) (tmps : Array Value) (w : World) (g g2 : Nat) (t t2 : TypeId) (cs cs2 : Array Value) (fr fr2 : Nat × Nat) (d d2 : TypeDesc) (v : Value)
    (hp : tmps.getD p undef = .pointer (some ⟨g, 0, none⟩)) (hg : w.heap[g]? = some (.cells cs t fr)) (hp2 : tmps.getD p2 undef = .pointer (some ⟨g2, 0, none⟩)) (hg2 : w.heap[g2]? = some (.cells cs2 t2 fr2))
    (hu : P.underlying ty = some d) (hd : (match d with | .struct _ | .array _ _ => true | _ => false) = true) (hi : (P.info? ty).map (·.size) = some cs.size)
    (hu2 : P.underlying ty2 = some d2) (hd2 : (match d2 with | .struct _ | .array _ _ => true | _ => false) = true) (hi2 : (P.info? ty2).map (·.size) = some cs2.size) (hq : tmps.getD q undef = v) :
    (results fn tmps).run P w = .ok (.tuple #[.agg cs, .agg cs2, v]) w := by
  have hp' : tmps[p]?.getD undef = .pointer (some ⟨g, 0, none⟩) := by simpa using hp
  have hp2' : tmps[p2]?.getD undef = .pointer (some ⟨g2, 0, none⟩) := by simpa using hp2
  have hq' : tmps[q]?.getD undef = v := by simpa using hq
  simp [results, h, hp', hp2', hq', asAddr, run_loadVar_row w g t ty cs fr d hg hu hd hi, run_loadVar_row w g2 t2 ty2 cs2 fr2 d2 hg2 hu2 hd2 hi2]
section
variable {α : Type} {S : Sh α} {P : Program} {t e : TypeId}
theorem GZ.se13' {Z : Nat → Prop} {w : World} {B : Nat} {v : Value} {t : List α} (h : GZ S e Z w B v t) : SE S Z w v t := by
  by_cases h0 : 0 < t.length
  · obtain ⟨g, c, rfl, hb, hg, h1, h2, h3⟩ := h.form h0
    refine ⟨_, c, rfl, h1, h2, fun h => (by cases h), fun _ => ⟨g, 0, rfl, hg, fun i x hx => ?_⟩⟩
    rw [Nat.zero_add]
    obtain ⟨vs, r1, r2⟩ := h3 i x hx
    exact ⟨vs, r1, S.mono r2 fun _ h => .inr h⟩
  · have ht : t = [] := List.eq_nil_of_length_eq_zero (by omega)
    subst ht
    obtain ⟨us, h1, _⟩ := h
    rcases h1.2 with ⟨rfl, _⟩ | ⟨g, cap, cur, rfl, hb, hg, hn, hm, hs, ht⟩
    · exact SE.nil Z w
    · exact ⟨_, cap, rfl, hn, hm, fun h => (by cases h), fun h => absurd h (by simp)⟩
theorem sz_of_owns {Z : Nat → Prop} {w w' : World} {v : Value} {us : List Value} {t : List α} (h1 : w'.ownsRow w.heap.size e S.k v t.length us) (h2 : ∀ z ∈ us, z.oneCell' = true) (hk : Kp w w') (hZ : ∀ g, Z g → g < w.heap.size)
    (h3 : ∀ i x, t[i]? = some x → ∃ vs, (∀ f, f < S.k → us[i * S.k + f]? = vs[f]?) ∧ S.R Z w vs x) : SZ S Z w' v t := by
  have hg : GZ S e Z w' w.heap.size v t := ⟨us, h1, h2, fun i x hx => by
    obtain ⟨vs, a1, a2⟩ := h3 i x hx
    refine ⟨vs, a1, S.mono (S.step (S.fresh a2) (Step.of_kp hk)) fun g hg => hg.elim (fun hg => .inr ?_) fun hg => .inl hg⟩
    exact (World.ownsRow.lt h1 g hg.symm).1⟩
  refine ⟨hg.se13', fun x n c e h0 hz => ?_⟩
  have h4 := (hg.lt x.block (by rw [e]; rfl)).1
  have h5 := hZ _ hz
  omega
theorem run_append_full {Z : Nat → Prop} (K : SK P t e S.k) (w : World) (ty : TypeId) (a : Option Addr) (n : Nat) (ts ms : List α) (u : Value) (hs : SZ S Z w (.slice a n n) ts) (hu : SZ S Z w u ms) (hZ : ∀ g, Z g → g < w.heap.size) (hlen : ts.length + ms.length ≤ 1000000) :
    ∃ v' w', (Builtin.append_ #[t, t] ty #[.slice a n n, u]).run P w = .ok v' w' ∧ SZ S Z w' v' (ts ++ ms) ∧ Kp w w' := by
  obtain ⟨i, z, hi, hz, hsize, hby, hzc⟩ := K.hi
  have hs0 := hs
  have hs := hs.1
  obtain ⟨a', c', e', hc', hm', hn', hcell'⟩ := hs
  simp only [Value.slice.injEq] at e'
  obtain ⟨rfl, rfl, rfl⟩ := e'
  obtain ⟨ad, c, rfl, hc, hm, hnil, hcell⟩ := hu.1
  have hbt : (ts.length + ms.length) * i.bytes ≤ 140737488355328 := by
    have := Nat.mul_le_mul hlen hby
    omega
  by_cases h0 : 0 < ms.length
  · obtain ⟨b, off, rfl, _, hn⟩ := hcell h0
    obtain ⟨news, n1, n2, n3, n4⟩ := SE.flat hn
    have news4 : ∀ j y, news[j]? = some y → w.cell? ((⟨b, off, none⟩ : Addr).add j) = some y := fun j y hj => by rw [Addr.add_mid]; exact n3 j y hj
    cases a with
    | none =>
      have hl0 : ts.length = 0 := hn' rfl
      have ht0 : ts = [] := List.eq_nil_of_length_eq_zero hl0
      subst ht0
      obtain ⟨v', w', hr, k1, k2, _⟩ := run_append_own (P := P) w w.heap.size t ty e i z S.k i.bytes K.ht hi hz hsize rfl hzc S.pos (.slice none 0 0) 0 [] (World.ownsRow_nil w _ e S.k) ⟨b, off, none⟩ ms.length c news n1 news4 n2 (by unfold maxLen; simp at hlen; omega) (by simpa using hbt) (Nat.le_refl _)
      have hk : Kp w w' := Kp.grown (v := .slice none 0 0) (Kp.refl _) k2 (by intro k hk; simp [Value.ownBlock] at hk)
      refine ⟨v', w', hr, ?_, hk⟩
      exact sz_of_owns (us := news) (by simpa using k1) n2 hk hZ n4
    | some a0 =>
      by_cases ht : 0 < ts.length
      · obtain ⟨b0, off0, e0, _, hn0⟩ := hcell' ht
        simp only [Option.some.injEq] at e0
        subst e0
        obtain ⟨olds, o1, o2, o3, o4⟩ := SE.flat hn0
        obtain ⟨v', w', hr, k1, k2⟩ := run_append_arg_grows (P := P) w t ty e i z S.k i.bytes K.ht hi hz hsize rfl hzc S.pos ⟨b0, off0, none⟩ ts.length ts.length olds o1 (fun j y hj => by rw [Addr.add_mid]; exact o3 j y hj) ⟨b, off, none⟩ ms.length c news n1 news4 (by omega) (by unfold maxLen; omega) hbt
        have hk : Kp w w' := Kp.grown (v := .slice none 0 0) (Kp.refl _) k2 (by intro k hk; simp [Value.ownBlock] at hk)
        refine ⟨v', w', hr, sz_of_owns (us := olds ++ news) (by rw [List.length_append]; exact k1) (fun y hy => (List.mem_append.1 hy).elim (o2 y) (n2 y)) hk hZ (fun j y hj => ?_), hk⟩
        by_cases hjl : j < ts.length
        · rw [List.getElem?_append_left hjl] at hj
          obtain ⟨vs, a1, a2⟩ := o4 j y hj
          refine ⟨vs, fun f hf => ?_, a2⟩
          have h5 : (j + 1) * S.k ≤ ts.length * S.k := Nat.mul_le_mul_right _ hjl
          rw [Nat.add_mul, Nat.one_mul] at h5
          rw [List.getElem?_append_left (by rw [o1]; omega)]
          exact a1 f hf
        · rw [List.getElem?_append_right (by omega)] at hj
          obtain ⟨vs, a1, a2⟩ := n4 (j - ts.length) y hj
          refine ⟨vs, fun f hf => ?_, a2⟩
          have h5 : ts.length * S.k ≤ j * S.k := Nat.mul_le_mul_right _ (by omega)
          rw [List.getElem?_append_right (by rw [o1]; omega), o1, ← a1 f hf, Nat.sub_mul]
          congr 1
          omega
      · have ht0 : ts = [] := List.eq_nil_of_length_eq_zero (by omega)
        subst ht0
        obtain ⟨v', w', hr, k1, k2⟩ := run_append_arg_grows (P := P) w t ty e i z S.k i.bytes K.ht hi hz hsize rfl hzc S.pos a0 0 0 [] (by simp) (fun j y hj => by simp at hj) ⟨b, off, none⟩ ms.length c news n1 news4 (by omega) (by unfold maxLen; simp at hlen; omega) (by simpa using hbt)
        have hk : Kp w w' := Kp.grown (v := .slice none 0 0) (Kp.refl _) k2 (by intro k hk; simp [Value.ownBlock] at hk)
        exact ⟨v', w', hr, sz_of_owns (us := news) (by simpa using k1) n2 hk hZ n4, hk⟩
  · have hm0 : ms = [] := List.eq_nil_of_length_eq_zero (by omega)
    subst hm0
    rw [List.append_nil]
    have hsrc : Src P i.size t (.slice ad 0 c) 0 [] w := by
      cases ad with
      | none =>
        have hc0 := hnil rfl
        subst hc0
        exact Src.ofNil w K.ht 0
      | some ad => exact Src.ofSlice w K.ht ad 0 c [] (by simp) (fun j y hj => by simp at hj) (by simp)
    exact ⟨_, w, run_append_nothing w t t ty e i K.ht hi a ts.length ts.length (Nat.le_refl _) _ hsrc, hs0, Kp.refl _⟩
theorem wpList_append_full {Z : Nat → Prop} (K : SK P t e S.k) {w : World} {ops : Array Oper} {rest : List Oper} {o : Oper} {a : Act} {Q : Exit → Act → World → Prop} (hgd : o.guard = none) (s x : Operand)
    (ho : o.op = .call { callee := .builtin .append, args := #[s, x], argTypes := #[t, t] }) (ad : Option Addr) (n : Nat) (ts ms : List α) (hs : a.eval s = .slice ad n n) (hts : SZ S Z w (.slice ad n n) ts) (u : Value) (hx : a.eval x = u) (hu : SZ S Z w u ms) (hZ : ∀ g, Z g → g < w.heap.size) (hlen : ts.length + ms.length ≤ 1000000)
    (h : ∀ v' w', SZ S Z w' v' (ts ++ ms) → Kp w w' → wpList P ops Q rest (a.put o.dst v') w') : wpList P ops Q (o :: rest) a w := by
  refine wpList_plain hgd fun K' hK' => ?_
  obtain ⟨v', w', hrun, h1, h2⟩ := run_append_full K w o.type ad n ts ms u hts hu hZ hlen
  unfold Oper.wp
  simp [execOp, ho, resolve, invoke, builtin, hs, hx, hrun, Result.andThen]
  exact hK' _ _ (h v' w' h1 h2)
theorem step_append_full {Z : Nat → Prop} (K : SK P t e S.k) {w : World} {ops : Array Oper} {o : Oper} {a : Act} {K' : Act → World → Prop} {Q : Exit → Act → World → Prop} {E : Prop} (hg : o.guard = none) (s x : Operand)
    (ho : o.op = .call { callee := .builtin .append, args := #[s, x], argTypes := #[t, t] }) (ad : Option Addr) (n : Nat) (ts ms : List α) (hs : a.eval s = .slice ad n n) (hts : SZ S Z w (.slice ad n n) ts) (u : Value) (hx : a.eval x = u) (hu : SZ S Z w u ms) (hZ : ∀ g, Z g → g < w.heap.size) (hlen : ts.length + ms.length ≤ 1000000)
    (h : ∀ v' w', SZ S Z w' v' (ts ++ ms) → Kp w w' → K' (a.put o.dst v') w') : if Region.wanted o (yielded ops a.tmps) = true then Oper.wp P o a w K' Q else E := by
  have hw : Region.wanted o (yielded ops a.tmps) = true := by simp [Region.wanted, hg]
  rw [if_pos hw]
  obtain ⟨v', w', hrun, h1, h2⟩ := run_append_full K w o.type ad n ts ms u hts hu hZ hlen
  have hK2 := h v' w' h1 h2
  unfold Oper.wp
  simp [execOp, ho, resolve, invoke, builtin, hs, hx, hrun, Result.andThen]
  exact hK2
end
theorem Rd.kept13 {w w' : World} {g : Nat} {T : TypeId} {n : Int} {a1 a2 : Option Addr} {m1 c1 m2 c2 : Nat} {v : Value} {l : List UInt8} (h : Rd w v l) (hb : Bx w g T #[.int .i64 n, .slice a1 m1 c1, .slice a2 m2 c2]) (hg : w.grownBy w' (some g)) : Rd w' v l := by
  refine h.stepF (grown_step hg) fun x m c e h0 hk => ?_
  obtain ⟨a', c', e', h1, h2, h3, h4⟩ := h
  rw [e] at e'
  simp only [Value.slice.injEq] at e'
  obtain ⟨rfl, rfl, rfl⟩ := e'
  have hc := h4 x rfl 0 h0
  have hx : x.block = g := by cases hk; rfl
  have hb' : w.heap[(x.add 0).block]? = some (.cells #[.int .i64 n, .slice a1 m1 c1, .slice a2 m2 c2] T (0, 0)) := by rw [add_block9, hx]; exact hb
  unfold World.cell? at hc
  rw [hb'] at hc
  dsimp only at hc
  split at hc
  · cases hc
  · next hsp =>
    generalize (x.add 0).off = q at hc
    match q, hc with
    | 0, hc => cases hc
    | 1, hc => cases hc
    | 2, hc => cases hc
    | q + 3, hc => simp at hc
end Go.Proofs.YtigpgcjbpoaclaaGreatDoor
namespace Go.Proofs.YtigpgcjbpoaclaaGreatDoor
open Go.RowKit Go.ChangeShapes Go.WideShapes Go.Deep
instance : Inhabited Nod := ⟨blankN⟩
section
variable {H : Type} {enc : TypeId × Value → H} {P : Program} {w : World} {base : Nat} {spare : Nat → Bool} {held : Bool}
theorem RI.of_one {t e : TypeId} {fuel : Nat} {v : Value} {x : DataW H × List MemPlace} (ht : P.underlying t = some (.slice e)) (he : P.underlying e = some (.int .i64)) (hc : P.cellsOf e = 1)
    (h : DataW.trod enc P w base spare held fuel t [v] = some x) : ∃ l, RI w v l := by
  rcases open_ints ht he hc h with ⟨hcs, _⟩ | ⟨a, len, cap, zs, hcs, _, hl, hm, hz, _, hcell, _⟩
  · cases hcs
    exact ⟨[], RI.nil w⟩
  · cases hcs
    have hzl : len ≤ zs.length := by rw [hz]; split <;> omega
    have hlen : ((zs.take len).map nI).length = len := by simp; omega
    refine ⟨zs.take len, some a, cap, by rw [hlen], by rw [hlen]; exact hl, hm, fun h => (by cases h), fun y hy i hi => ?_⟩
    cases hy
    rw [hlen] at hi
    rw [hcell i (by omega)]
    simp [nI, List.getD_eq_getElem?_getD, List.getElem?_eq_getElem (show i < zs.length by omega)]
end
end Go.Proofs.YtigpgcjbpoaclaaGreatDoor

import Derived.Test.YtigpgcjbpoaclaaDoorC7
import Derived.Maps.AppendAt
import Derived.Deep.MidRow
set_option linter.unusedVariables false
set_option linter.unusedSimpArgs false
namespace Go.Proofs.YtigpgcjbpoaclaaDoor
open Go.RowKit
def Solid (w : World) (g : Nat) : Prop := ∃ cs t fr, w.heap[g]? = some (.cells cs t fr)
theorem Solid.lt {w : World} {g : Nat} (h : Solid w g) : g < w.heap.size := by
  obtain ⟨_, _, _, h⟩ := h
  exact (Array.getElem?_eq_some_iff.1 h).1
theorem Solid.of_cell {w : World} {a : Addr} {v : Value} (h : w.cell? a = some v) : Solid w a.block := by
  unfold World.cell? at h
  split at h
  · next c t fr e => exact ⟨c, t, fr, e⟩
  · cases h
theorem Rd.solid {w : World} {v : Value} {l : List UInt8} (h : Rd w v l) : ∀ x n c, v = .slice (some x) n c → 0 < n → Solid w x.block := fun x n c e h0 => by
  obtain ⟨a', c', e', h1, h2, h3, h4⟩ := h
  rw [e] at e'
  simp only [Value.slice.injEq] at e'
  obtain ⟨rfl, rfl, rfl⟩ := e'
  have hb := Solid.of_cell (h4 x rfl 0 h0)
  rwa [add_block9] at hb
theorem Free.solid {Z Z' : Nat → Prop} {w : World} {v : Value} (h : Free Z v) (hs : ∀ x n c, v = .slice (some x) n c → 0 < n → Solid w x.block) (hz : ∀ g, Z' g → Z g ∨ ¬ Solid w g) : Free Z' v := fun x n c e h0 hk =>
  (hz _ hk).elim (h x n c e h0) fun hn => hn (hs x n c e h0)
structure Sh (α : Type) where
  mk ::
  k : Nat
  pos : 0 < k
  R : (Nat → Prop) → World → List Value → α → Prop
  len : ∀ {Z w vs x}, R Z w vs x → vs.length = k
  one : ∀ {Z w vs x}, R Z w vs x → ∀ z ∈ vs, z.oneCell' = true
  solid : ∀ {Z Z' w vs x}, R Z w vs x → (∀ g, Z' g → Z g ∨ ¬ Solid w g) → R Z' w vs x
  step : ∀ {Z w w' vs x}, R Z w vs x → Step Z w w' → R Z w' vs x
theorem Sh.mono {α : Type} (S : Sh α) {Z Z' : Nat → Prop} {w : World} {vs : List Value} {x : α} (h : S.R Z w vs x) (hz : ∀ g, Z' g → Z g) : S.R Z' w vs x := S.solid h fun g hg => .inl (hz g hg)
theorem Sh.fresh {α : Type} (S : Sh α) {Z : Nat → Prop} {w : World} {vs : List Value} {x : α} (h : S.R Z w vs x) : S.R (fun g => Z g ∨ w.heap.size ≤ g) w vs x :=
  S.solid h fun g hg => hg.imp id fun hg hs => by have := hs.lt; omega
def noB : Nat → Prop := fun _ => False
theorem Kp.step {w w' : World} (h : Kp w w') : Step noB w w' := ⟨h.os, h.tape, h.output, h.size, fun k hk _ => h.block k hk⟩
theorem grown_step {w w' : World} {r : Option Nat} (h : w.grownBy w' r) : Step (fun g => some g = r) w w' := ⟨h.os, h.tape, h.output, h.size, fun k hk hn => h.block k hk hn⟩
def SE {α : Type} (S : Sh α) (Z : Nat → Prop) (w : World) (v : Value) (t : List α) : Prop :=
  ∃ a c, v = .slice a t.length c ∧ t.length ≤ c ∧ c ≤ maxLen ∧ (a = none → c = 0) ∧
    (0 < t.length → ∃ b off, a = some ⟨b, off, none⟩ ∧ b < w.heap.size ∧ ∀ i x, t[i]? = some x → ∃ vs, w.rangeAt b (off + i * S.k) vs ∧ S.R Z w vs x)
def SZ {α : Type} (S : Sh α) (Z : Nat → Prop) (w : World) (v : Value) (t : List α) : Prop := SE S Z w v t ∧ Free Z v
def GL {α : Type} (S : Sh α) (w : World) (v : Value) (t : List α) : Prop := SE S noB w v t
section
variable {α : Type} {S : Sh α}
theorem Free.none (v : Value) : Free noB v := fun _ _ _ _ _ h => h
theorem SE.shape {Z : Nat → Prop} {w : World} {v : Value} {t : List α} (h : SE S Z w v t) : ∃ a c, v = .slice a t.length c ∧ t.length ≤ c ∧ c ≤ maxLen := by
  obtain ⟨a, c, e, h1, h2, _⟩ := h
  exact ⟨a, c, e, h1, h2⟩
theorem SE.sl {Z : Nat → Prop} {w : World} {v : Value} {t : List α} (h : SE S Z w v t) : ∃ a n c, v = .slice a n c := by
  obtain ⟨a, c, e, _⟩ := h
  exact ⟨_, _, _, e⟩
theorem SE.nil (Z : Nat → Prop) (w : World) : SE S Z w (.slice none 0 0) [] := ⟨none, 0, rfl, Nat.le_refl _, Nat.zero_le _, fun _ => rfl, fun h => absurd h (by simp)⟩
theorem GL.nil (w : World) : GL S w (.slice none 0 0) [] := SE.nil _ w
theorem SE.at {Z : Nat → Prop} {w : World} {a : Option Addr} {n c : Nat} {t : List α} (h : SE S Z w (.slice a n c) t) (hk : 0 < n) :
    ∃ b off, a = some ⟨b, off, none⟩ ∧ b < w.heap.size ∧ ∀ i x, t[i]? = some x → ∃ vs, w.rangeAt b (off + i * S.k) vs ∧ S.R Z w vs x := by
  obtain ⟨a', c', e, h1, h2, h3, h4⟩ := h
  simp only [Value.slice.injEq] at e
  obtain ⟨rfl, rfl, rfl⟩ := e
  exact h4 hk
theorem SE.mono {Z Z' : Nat → Prop} {w : World} {v : Value} {t : List α} (h : SE S Z w v t) (hz : ∀ g, Z' g → Z g) : SE S Z' w v t := by
  obtain ⟨a, c, e, h1, h2, h3, h4⟩ := h
  refine ⟨a, c, e, h1, h2, h3, fun h0 => ?_⟩
  obtain ⟨b, off, ha, hb, hi⟩ := h4 h0
  refine ⟨b, off, ha, hb, fun i x hx => ?_⟩
  obtain ⟨vs, r1, r2⟩ := hi i x hx
  exact ⟨vs, r1, S.mono r2 hz⟩
theorem SE.solidly {Z Z' : Nat → Prop} {w : World} {v : Value} {t : List α} (h : SE S Z w v t) (hz : ∀ g, Z' g → Z g ∨ ¬ Solid w g) : SE S Z' w v t := by
  obtain ⟨a, c, e, h1, h2, h3, h4⟩ := h
  refine ⟨a, c, e, h1, h2, h3, fun h0 => ?_⟩
  obtain ⟨b, off, ha, hb, hi⟩ := h4 h0
  refine ⟨b, off, ha, hb, fun i x hx => ?_⟩
  obtain ⟨vs, r1, r2⟩ := hi i x hx
  exact ⟨vs, r1, S.solid r2 hz⟩
theorem SZ.mono {Z Z' : Nat → Prop} {w : World} {v : Value} {t : List α} (h : SZ S Z w v t) (hz : ∀ g, Z' g → Z g) : SZ S Z' w v t := ⟨h.1.mono hz, h.2.mono hz⟩
theorem SE.inside {Z : Nat → Prop} {w : World} {v : Value} {t : List α} (h : SE S Z w v t) : ∀ x n c, v = .slice (some x) n c → 0 < n → x.block < w.heap.size := fun x n c e h0 => by
  obtain ⟨a', c', e', h1, h2, h3, h4⟩ := h
  rw [e] at e'
  simp only [Value.slice.injEq] at e'
  obtain ⟨rfl, rfl, rfl⟩ := e'
  obtain ⟨b, off, ha, hb, _⟩ := h4 h0
  simp only [Option.some.injEq] at ha
  subst ha
  exact hb
theorem SE.sol {Z : Nat → Prop} {w : World} {v : Value} {t : List α} (h : SE S Z w v t) : ∀ x n c, v = .slice (some x) n c → 0 < n → Solid w x.block := fun x n c e h0 => by
  obtain ⟨a', c', e', h1, h2, h3, h4⟩ := h
  rw [e] at e'
  simp only [Value.slice.injEq] at e'
  obtain ⟨rfl, rfl, rfl⟩ := e'
  obtain ⟨b, off, ha, hb, hi⟩ := h4 h0
  simp only [Option.some.injEq] at ha
  subst ha
  obtain ⟨vs, r1, r2⟩ := hi 0 _ (List.getElem?_eq_getElem h0)
  have hl := S.len r2
  have hp := S.pos
  have := Solid.of_cell (r1 0 _ (List.getElem?_eq_getElem (by omega)))
  exact this
theorem SZ.solidly {Z Z' : Nat → Prop} {w : World} {v : Value} {t : List α} (h : SZ S Z w v t) (hz : ∀ g, Z' g → Z g ∨ ¬ Solid w g) : SZ S Z' w v t := ⟨h.1.solidly hz, h.2.solid h.1.sol hz⟩
theorem SZ.step {Z : Nat → Prop} {w w' : World} {v : Value} {t : List α} (h : SZ S Z w v t) (hs : Step Z w w') : SZ S Z w' v t := by
  obtain ⟨⟨a, c, e, h1, h2, h3, h4⟩, hf⟩ := h
  refine ⟨⟨a, c, e, h1, h2, h3, fun h0 => ?_⟩, hf⟩
  obtain ⟨b, off, ha, hb, hi⟩ := h4 h0
  refine ⟨b, off, ha, Nat.lt_of_lt_of_le hb hs.size, fun i x hx => ?_⟩
  obtain ⟨vs, r1, r2⟩ := hi i x hx
  subst ha
  have hnz : ¬ Z b := hf _ _ _ e h0
  exact ⟨vs, fun j z hj => hs.cell (r1 j z hj) hnz, S.step r2 hs⟩
theorem GL.kp {w w' : World} {v : Value} {t : List α} (h : GL S w v t) (k : Kp w w') : GL S w' v t := (SZ.step (Z := noB) ⟨h, Free.none v⟩ k.step).1
theorem SE.pre {Z : Nat → Prop} {w : World} {a : Option Addr} {n c : Nat} {t : List α} (h : SE S Z w (.slice a n c) t) (k : Nat) (hk : k ≤ n) : SE S Z w (.slice a k c) (t.take k) := by
  obtain ⟨a', c', e, h1, h2, h3, h4⟩ := h
  simp only [Value.slice.injEq] at e
  obtain ⟨rfl, rfl, rfl⟩ := e
  have hl : (t.take k).length = k := by rw [List.length_take]; omega
  refine ⟨a, c, by rw [hl], by omega, h2, h3, fun h0 => ?_⟩
  rw [hl] at h0
  obtain ⟨b, off, ha, hb, hi⟩ := h4 (by omega)
  refine ⟨b, off, ha, hb, fun i x hx => hi i x ?_⟩
  rw [List.getElem?_take] at hx
  split at hx
  · exact hx
  · cases hx
def GZ (S : Sh α) (e : TypeId) (Z : Nat → Prop) (w : World) (B : Nat) (v : Value) (t : List α) : Prop :=
  ∃ us : List Value, w.ownsRow B e S.k v t.length us ∧ (∀ z ∈ us, z.oneCell' = true) ∧
    ∀ i x, t[i]? = some x → ∃ vs, (∀ f, f < S.k → us[i * S.k + f]? = vs[f]?) ∧ S.R (fun g => some g = v.ownBlock ∨ Z g) w vs x
section
variable {Z : Nat → Prop}
theorem GZ.lt {e : TypeId} {w : World} {B : Nat} {v : Value} {t : List α} (h : GZ S e Z w B v t) : ∀ k, v.ownBlock = some k → B ≤ k ∧ k < w.heap.size := by
  obtain ⟨us, h1, _⟩ := h
  exact fun k hk => World.ownsRow.lt h1 k hk
theorem GZ.kp {e : TypeId} {w w' : World} {B : Nat} {v : Value} {t : List α} (h : GZ S e Z w B v t) (k : Kp w w') : GZ S e Z w' B v t := by
  obtain ⟨us, h1, h2, h3⟩ := h
  refine ⟨us, ownsRow_kp9 h1 k, h2, fun i x hx => ?_⟩
  obtain ⟨vs, a1, a2⟩ := h3 i x hx
  exact ⟨vs, a1, S.step a2 ⟨k.os, k.tape, k.output, k.size, fun b hb _ => k.block b hb⟩⟩
theorem GZ.solidly {e : TypeId} {w : World} {B : Nat} {v : Value} {t : List α} {Z' : Nat → Prop} (h : GZ S e Z w B v t) (hz : ∀ g, Z' g → some g = v.ownBlock ∨ Z g ∨ ¬ Solid w g) : GZ S e Z' w B v t := by
  obtain ⟨us, h1, h2, h3⟩ := h
  refine ⟨us, h1, h2, fun i x hx => ?_⟩
  obtain ⟨vs, a1, a2⟩ := h3 i x hx
  exact ⟨vs, a1, S.solid a2 fun g hg => hg.elim (fun h => .inl (.inl h)) fun h => (hz g h).elim (fun h => .inl (.inl h)) fun h => h.imp .inr id⟩
theorem GZ.step {e : TypeId} {w w' : World} {B : Nat} {v : Value} {t : List α} {Y : Nat → Prop} (h : GZ S e Z w B v t) (hs : Step Y w w') (hY : ∀ g, Y g → Z g ∨ ¬ Solid w g) (hv : ∀ g, v.ownBlock = some g → ¬ Y g) : GZ S e Z w' B v t := by
  have h' : GZ S e (fun g => Z g ∨ Y g) w B v t := h.solidly fun g hg => hg.elim (fun h => .inr (.inl h)) fun h => (hY g h).elim (fun h => .inr (.inl h)) fun h => .inr (.inr h)
  obtain ⟨us, h1, h2, h3⟩ := h'
  refine ⟨us, ⟨h1.1, ?_⟩, h2, fun i x hx => ?_⟩
  · rcases h1.2 with hn | ⟨g, cap, cur, e1, hb, hgg, rest⟩
    · exact .inl hn
    · exact .inr ⟨g, cap, cur, e1, hb, (hs.block g (Array.getElem?_eq_some_iff.1 hgg).1 (hv g (by rw [e1]; rfl))).trans hgg, rest⟩
  · obtain ⟨vs, a1, a2⟩ := h3 i x hx
    exact ⟨vs, a1, S.mono (S.step a2 (hs.mono fun g hg => .inr (.inr hg))) fun g hg => hg.imp id .inl⟩
theorem GZ.form {e : TypeId} {w : World} {B : Nat} {v : Value} {t : List α} (h : GZ S e Z w B v t) (h0 : 0 < t.length) :
    ∃ g c, v = .slice (some ⟨g, 0, none⟩) t.length c ∧ B ≤ g ∧ g < w.heap.size ∧ t.length ≤ c ∧ c ≤ maxLen ∧
      ∀ i x, t[i]? = some x → ∃ vs, w.rangeAt g (i * S.k) vs ∧ S.R (fun b => some b = v.ownBlock ∨ Z b) w vs x := by
  obtain ⟨us, h1, h2, h3⟩ := h
  have hlt := fun k hk => World.ownsRow.lt h1 k hk
  rcases id h1.2 with ⟨_, hn⟩ | ⟨g, cap, cur, rfl, hb, hg, hn, hm, hs, ht⟩
  · omega
  · refine ⟨g, cap, rfl, hb, (hlt g rfl).2, hn, hm, fun i x hx => ?_⟩
    obtain ⟨vs, a1, a2⟩ := h3 i x hx
    have hil : i < t.length := (List.getElem?_eq_some_iff.1 hx).1
    refine ⟨vs, fun j z hj => ?_, a2⟩
    have hjl : j < S.k := by rw [← S.len a2]; exact (List.getElem?_eq_some_iff.1 hj).1
    have hm2 : i * S.k + j < t.length * S.k := by
      have h5 : (i + 1) * S.k ≤ t.length * S.k := Nat.mul_le_mul_right _ hil
      rw [Nat.add_mul, Nat.one_mul] at h5
      omega
    rw [h1.cellAt (i * S.k + j) hm2, a1 j hjl]
    exact hj
theorem GZ.gl {e : TypeId} {w : World} {B : Nat} {v : Value} {t : List α} (h : GZ S e Z w B v t) : GL S w v t := by
  by_cases h0 : 0 < t.length
  · obtain ⟨g, c, rfl, hb, hg, h1, h2, h3⟩ := h.form h0
    refine ⟨_, c, rfl, h1, h2, fun h => (by cases h), fun _ => ⟨g, 0, rfl, hg, fun i x hx => ?_⟩⟩
    rw [Nat.zero_add]
    obtain ⟨vs, r1, r2⟩ := h3 i x hx
    exact ⟨vs, r1, S.mono r2 fun _ h => h.elim⟩
  · have ht : t = [] := List.eq_nil_of_length_eq_zero (by omega)
    subst ht
    obtain ⟨us, h1, _⟩ := h
    rcases h1.2 with ⟨rfl, _⟩ | ⟨g, cap, cur, rfl, hb, hg, hn, hm, hs, ht⟩
    · exact GL.nil w
    · exact ⟨_, cap, rfl, hn, hm, fun h => (by cases h), fun h => absurd h (by simp)⟩
theorem GZ.nil (e : TypeId) (w : World) (B : Nat) : GZ S e Z w B (.slice none 0 0) [] := ⟨[], World.ownsRow_nil _ _ _ _, fun z hz => by simp at hz, fun i x hx => by simp at hx⟩
theorem GZ.empty (e : TypeId) (w : World) : GZ S e Z (w.alloc (.cells #[] e)) w.heap.size (.slice (some ⟨w.heap.size, 0, none⟩) 0 0) [] :=
  ⟨[], World.ownsRow_lit w #[] 0 (Nat.le_refl _) (by unfold maxLen; omega) (by simp), fun z hz => by simp at hz, fun i x hx => by simp at hx⟩
theorem GZ.len {e : TypeId} {w : World} {B g n c : Nat} {t : List α} (h : GZ S e Z w B (.slice (some ⟨g, 0, none⟩) n c) t) : t.length = n := by
  obtain ⟨us, h1, _⟩ := h
  rcases h1.2 with ⟨e, _⟩ | ⟨g', cap, cur, e, _⟩
  · simp at e
  · simp only [Value.slice.injEq] at e; exact e.2.1.symm
theorem GZ.there {e : TypeId} {w : World} {B g c n : Nat} {t : List α} (h : GZ S e Z w B (.slice (some ⟨g, 0, none⟩) n c) t) (i : Nat) (hi : i < t.length) : w.there g (i * S.k) S.k := by
  have hn := h.len
  obtain ⟨us, h1, h2, h3⟩ := h
  subst hn
  intro j hj
  refine ⟨?_, h1.frozenAt _⟩
  have h5 : (i + 1) * S.k ≤ t.length * S.k := Nat.mul_le_mul_right _ hi
  rw [Nat.add_mul, Nat.one_mul] at h5
  rw [h1.cellAt (i * S.k + j) (by omega), List.getElem?_eq_getElem (by rw [h1.1]; omega)]
  rfl
theorem GZ.stored {e : TypeId} {w : World} {B g c n : Nat} {t : List α} (h : GZ S e Z w B (.slice (some ⟨g, 0, none⟩) n c) t) (i : Nat) (hi : i < t.length) (m : α) (vs : List Value) (hin : S.R (fun b => b = g ∨ Z b) w vs m) :
    GZ S e Z (w.setCells g (i * S.k) vs) B (.slice (some ⟨g, 0, none⟩) n c) (t.set i m) ∧ w.grownBy (w.setCells g (i * S.k) vs) (some g) := by
  have hn := h.len
  obtain ⟨us, k1, k2, k3⟩ := h
  subst hn
  have hul := k1.1
  have ek := S.len hin
  have h5 : (i + 1) * S.k ≤ t.length * S.k := Nat.mul_le_mul_right _ hi
  rw [Nat.add_mul, Nat.one_mul] at h5
  obtain ⟨ys, y1, y2, y3, y4⟩ := ownsRow_setCells vs (i * S.k) w us k1 (by rw [hul, ek]; exact h5)
  have st : Step (fun b => some b = (Value.slice (some ⟨g, 0, none⟩) t.length c).ownBlock ∨ Z b) w (w.setCells g (i * S.k) vs) := ⟨y2.os, y2.tape, y2.output, y2.size, fun k hk hn => y2.block k hk (fun e => hn (.inl e))⟩
  refine ⟨⟨ys, by rw [List.length_set]; exact y1, fun z hz => ?_, fun k x hx => ?_⟩, y2⟩
  · obtain ⟨k, hk⟩ := List.getElem?_of_mem hz
    rw [y4] at hk
    split at hk
    · exact S.one hin z (List.mem_of_getElem? hk)
    · exact k2 z (List.mem_of_getElem? hk)
  · rw [List.getElem?_set] at hx
    by_cases e1 : i = k
    · subst e1
      rw [if_pos rfl, if_pos hi] at hx
      cases hx
      refine ⟨vs, fun f hf => ?_, S.step (S.mono hin fun b hb => hb.imp (fun e => by cases e; rfl) id) st⟩
      rw [y4, ek, if_pos ⟨by omega, by omega⟩, Nat.add_sub_cancel_left]
    · rw [if_neg e1] at hx
      obtain ⟨vs', a1, a2⟩ := k3 k x hx
      refine ⟨vs', fun f hf => ?_, S.step a2 st⟩
      rw [y4, ek, if_neg, a1 f hf]
      rintro ⟨q1, q2⟩
      rcases Nat.lt_or_gt_of_ne e1 with h6 | h6
      · have := Nat.mul_le_mul_right S.k (show i + 1 ≤ k from h6)
        rw [Nat.add_mul, Nat.one_mul] at this
        omega
      · have := Nat.mul_le_mul_right S.k (show k + 1 ≤ i from h6)
        rw [Nat.add_mul, Nat.one_mul] at this
        omega
end
structure SK (P : Program) (t e : TypeId) (k : Nat) : Prop where
  mk ::
  ht : P.underlying t = some (.slice e)
  hi : ∃ i z, P.info? e = some i ∧ i.zero = some z ∧ i.size = k ∧ i.bytes ≤ 128 ∧ z.cells.size = k
theorem SK.mk' {P : Program} {t e : TypeId} {z : Value} {b k : Nat} (ht : P.underlying t = some (.slice e)) (h : (P.info? e).map (fun i => (i.zero, i.size, i.bytes)) = some (some z, k, b)) (hb : b ≤ 128) (hz : z.cells.size = k) : SK P t e k := by
  obtain ⟨i, hi, hz0, hz1, hz2⟩ := info_parts h
  exact ⟨ht, i, z, hi, hz0, hz1, by omega, hz⟩
theorem SE.flat {Z : Nat → Prop} {w : World} {b off : Nat} {t : List α} (h : ∀ i x, t[i]? = some x → ∃ vs, w.rangeAt b (off + i * S.k) vs ∧ S.R Z w vs x) :
    ∃ us : List Value, us.length = t.length * S.k ∧ (∀ z ∈ us, z.oneCell' = true) ∧ (∀ j z, us[j]? = some z → w.cell? ⟨b, off + j, none⟩ = some z) ∧
      ∀ i x, t[i]? = some x → ∃ vs, (∀ f, f < S.k → us[i * S.k + f]? = vs[f]?) ∧ S.R Z w vs x := by
  have key : ∀ n, n ≤ t.length → ∃ us : List Value, us.length = n * S.k ∧ (∀ z ∈ us, z.oneCell' = true) ∧ (∀ j z, us[j]? = some z → w.cell? ⟨b, off + j, none⟩ = some z) ∧
      ∀ i x, i < n → t[i]? = some x → ∃ vs, (∀ f, f < S.k → us[i * S.k + f]? = vs[f]?) ∧ S.R Z w vs x := by
    intro n
    induction n with
    | zero => exact fun _ => ⟨[], by simp, fun z hz => by simp at hz, fun j z hj => by simp at hj, fun i x hi => by omega⟩
    | succ n ih =>
      intro hn
      obtain ⟨us, l1, l2, l3, l4⟩ := ih (by omega)
      obtain ⟨vs, hc, hr⟩ := h n t[n] (List.getElem?_eq_getElem (by omega))
      have ek := S.len hr
      refine ⟨us ++ vs, by rw [List.length_append, l1, ek, Nat.add_mul, Nat.one_mul], fun z hz => ?_, fun j z hj => ?_, fun i x hi hx => ?_⟩
      · rcases List.mem_append.1 hz with hz | hz
        · exact l2 z hz
        · exact S.one hr z hz
      · by_cases hjl : j < us.length
        · rw [List.getElem?_append_left hjl] at hj
          exact l3 j z hj
        · rw [List.getElem?_append_right (by omega)] at hj
          have := hc _ z hj
          rw [l1] at this hjl
          rwa [show off + n * S.k + (j - n * S.k) = off + j by omega] at this
      · by_cases hin2 : i < n
        · obtain ⟨vs', a1, a2⟩ := l4 i x hin2 hx
          refine ⟨vs', fun f hf => ?_, a2⟩
          have h5 : (i + 1) * S.k ≤ n * S.k := Nat.mul_le_mul_right _ hin2
          rw [Nat.add_mul, Nat.one_mul] at h5
          rw [List.getElem?_append_left (by rw [l1]; omega)]
          exact a1 f hf
        · have : i = n := by omega
          subst this
          rw [List.getElem?_eq_getElem (by omega)] at hx
          cases hx
          refine ⟨vs, fun f hf => ?_, hr⟩
          rw [List.getElem?_append_right (by rw [l1]; omega), l1, Nat.add_sub_cancel_left]
  obtain ⟨us, l1, l2, l3, l4⟩ := key t.length (Nat.le_refl _)
  exact ⟨us, l1, l2, l3, fun i x hx => l4 i x (List.getElem?_eq_some_iff.1 hx).1 hx⟩
theorem Sh.moved {Z : Nat → Prop} {w w' : World} {v v' : Value} {vs : List Value} {x : α} (h : S.R (fun g => some g = v.ownBlock ∨ Z g) w vs x) (hg : w.grownBy w' v.ownBlock) (hk : v'.ownBlock = v.ownBlock ∨ v'.ownBlock = some w.heap.size) :
    S.R (fun g => some g = v'.ownBlock ∨ Z g) w' vs x := by
  have h1 := S.fresh h
  have h2 : S.R (fun g => (some g = v.ownBlock ∨ Z g) ∨ w.heap.size ≤ g) w' vs x := S.step h1 ⟨hg.os, hg.tape, hg.output, hg.size, fun k hk hn => hg.block k hk (fun e => hn (.inl (.inl e)))⟩
  refine S.mono h2 fun g e => ?_
  rcases e with e | e
  · rcases hk with hk | hk
    · exact .inl (.inl (by rw [← hk]; exact e))
    · rw [hk] at e
      simp only [Option.some.injEq] at e
      exact .inr (by omega)
  · exact .inl (.inr e)
theorem wpList_append_z {Z : Nat → Prop} {P : Program} {w : World} {t e : TypeId} (K : SK P t e S.k) {ops : Array Oper} {rest : List Oper} {o : Oper} {a : Act} {Q : Exit → Act → World → Prop} (hgd : o.guard = none) (s x : Operand)
    (ho : o.op = .call { callee := .builtin .append, args := #[s, x], argTypes := #[t, t] })
    (B : Nat) (v : Value) (ts : List α) (hs : a.eval s = v) (hown : GZ S e Z w B v ts) (u : Value) (ms : List α) (hx : a.eval x = u) (hu : SE S (fun g => some g = v.ownBlock ∨ Z g) w u ms) (hlen : ts.length + ms.length ≤ 1000000) (hbase : B ≤ w.heap.size)
    (h : ∀ v' w', GZ S e Z w' B v' (ts ++ ms) → w.grownBy w' v.ownBlock → (v'.ownBlock = v.ownBlock ∨ v'.ownBlock = some w.heap.size) → wpList P ops Q rest (a.put o.dst v') w') : wpList P ops Q (o :: rest) a w := by
  obtain ⟨i, z, hi, hz, hsize, hby, hzc⟩ := K.hi
  obtain ⟨us, h1, h2, h3⟩ := hown
  obtain ⟨ad, c, rfl, hc, hm, hnil, hcell⟩ := hu
  have hbt : (ts.length + ms.length) * i.bytes ≤ 140737488355328 := by
    have := Nat.mul_le_mul hlen hby
    omega
  by_cases h0 : 0 < ms.length
  · obtain ⟨b, off, rfl, _, hn⟩ := hcell h0
    obtain ⟨news, n1, n2, n3, n4⟩ := SE.flat hn
    refine wpList_append_own_at w hgd s x t ho B e i z S.k i.bytes K.ht hi hz hsize rfl hzc S.pos v ts.length us hs h1 ⟨b, off, none⟩ ms.length c news hx n1 (fun j y hj => ?_) n2 (by unfold maxLen; omega) hbt hbase
      (fun v' w' k1 k2 _ k4 => h v' w' ⟨us ++ news, by rw [List.length_append]; exact k1, fun y hy => ?_, fun j y hj => ?_⟩ k2 k4)
    · rw [Addr.add_mid]
      exact n3 j y hj
    · rcases List.mem_append.1 hy with hy | hy
      · exact h2 y hy
      · exact n2 y hy
    · have hul := h1.1
      by_cases hjl : j < ts.length
      · rw [List.getElem?_append_left hjl] at hj
        obtain ⟨vs, a1, a2⟩ := h3 j y hj
        refine ⟨vs, fun f hf => ?_, Sh.moved a2 k2 k4⟩
        have h5 : (j + 1) * S.k ≤ ts.length * S.k := Nat.mul_le_mul_right _ hjl
        rw [Nat.add_mul, Nat.one_mul] at h5
        rw [List.getElem?_append_left (by rw [hul]; omega)]
        exact a1 f hf
      · rw [List.getElem?_append_right (by omega)] at hj
        obtain ⟨vs, a1, a2⟩ := n4 (j - ts.length) y hj
        refine ⟨vs, fun f hf => ?_, Sh.moved a2 k2 k4⟩
        have h5 : ts.length * S.k ≤ j * S.k := Nat.mul_le_mul_right _ (by omega)
        rw [List.getElem?_append_right (by rw [hul]; omega), hul, ← a1 f hf, Nat.sub_mul]
        congr 1
        omega
  · have hm0 : ms = [] := List.eq_nil_of_length_eq_zero (by omega)
    subst hm0
    cases ad with
    | none =>
      have hc0 := hnil rfl
      subst hc0
      refine wpList_append_own_none hgd s x t ho B e i S.k K.ht hi v ts.length us hs h1 hx ?_
      exact h v w ⟨us, by simpa using h1, h2, by simpa using h3⟩ ⟨rfl, rfl, rfl, Nat.le_refl _, fun _ _ _ => rfl⟩ (.inl rfl)
    | some ad =>
      refine wpList_append_own_at w hgd s x t ho B e i z S.k i.bytes K.ht hi hz hsize rfl hzc S.pos v ts.length us hs h1 ad 0 c [] hx (by simp) (fun j y hj => by simp at hj) (fun y hy => by simp at hy) (by unfold maxLen; omega) (by simpa using hbt) hbase
        (fun v' w' k1 k2 _ k4 => h v' w' ⟨us, by simpa using k1, h2, fun j y hj => ?_⟩ k2 k4)
      rw [List.append_nil] at hj
      obtain ⟨vs, a1, a2⟩ := h3 j y hj
      exact ⟨vs, a1, Sh.moved a2 k2 k4⟩
end
end Go.Proofs.YtigpgcjbpoaclaaDoor

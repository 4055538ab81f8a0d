import Derived.Test.YtigpgcjbpoaclaaGreatDoorB22
import Derived.Test.YtigpgcjbpoaclaaGreatDoorB31
import Derived.Test.YtigpgcjbpoaclaaGreatDoorB33
import Derived.Test.YtigpgcjbpoaclaaGreatDoorB40
import Derived.Maps.OwnIn
set_option linter.unusedVariables false
set_option linter.unusedSimpArgs false
namespace Go.Proofs.YtigpgcjbpoaclaaGreatDoor
open Go.RowKit Go.Shelf
attribute [local go_sem] Oper.semAt_some
section
variable {α : Type} {S : Sh α} {Z : Nat → Prop} {P : Program} {w : World} {t e : TypeId} {F : Fence} {nF : Nat}
theorem wpIn_append_z1 (K : SK P t e S.k) {o : Oper} {a : Act} {Kq : Act → World → Prop} {Q : Exit → Act → World → Prop} (s x : Operand)
    (ho : o.op = .call { callee := .builtin .append, args := #[s, x], argTypes := #[t, t] })
    (B : Nat) (v : Value) (ts : List α) (hown : GZ S e Z w B v ts) (u : Value) (y : α) (hu : SE S (fun g => some g = v.ownBlock ∨ Z g) w u [y]) (hlen : ts.length + 1 ≤ 1000000) (hbase : B ≤ w.heap.size) (hs : a.eval s = v) (hx : a.eval x = u)
    (h : ∀ v' w', GZ S e Z w' B v' (ts ++ [y]) → w.grownBy w' v.ownBlock → (v'.ownBlock = v.ownBlock ∨ v'.ownBlock = some w.heap.size) → Kq (a.put o.dst v') w') : Oper.wpIn F nF P o a w Kq Q := by
  obtain ⟨i, z, hi, hz, hsize, hby, hzc⟩ := K.hi
  obtain ⟨us, h1, h2, h3⟩ := hown
  obtain ⟨ad, c, rfl, hc, hm, hnil, hcell⟩ := hu
  have hbt : (ts.length + 1) * i.bytes ≤ 140737488355328 := by
    have := Nat.mul_le_mul hlen hby
    omega
  obtain ⟨b, off, rfl, _, hn⟩ := hcell (by simp)
  obtain ⟨news, n1, n2, n3, n4⟩ := SE.flat hn
  obtain ⟨v', w', hrun, k1, k2, _, k4⟩ := run_append_own_at (P := P) w B t o.type e i z S.k i.bytes K.ht hi hz hsize rfl hzc S.pos v ts.length us h1 ⟨b, off, none⟩ 1 c news n1 (fun j y hj => by rw [Addr.add_mid]; exact n3 j y hj) n2 (by unfold maxLen; omega) hbt hbase
  have hK2 := h v' w' ⟨us ++ news, by rw [List.length_append]; exact k1, fun y hy => ?_, fun j y hj => ?_⟩ k2 k4
  · unfold Oper.wpIn
    refine ⟨by simp [Oper.about, ho, resolve, Target.leads, Sem.run_pure], ?_⟩
    rw [Oper.semAt_plain F _ _ (by rw [ho]; intro c hc'; cases hc')]
    simp [execOp, ho, resolve, invoke, builtin, hs, hx, hrun, Result.andThen]
    exact hK2
  · rcases List.mem_append.1 hy with hy | hy
    · exact h2 y hy
    · exact n2 y hy
  · have hul := h1.1
    by_cases hjl : j < ts.length
    · rw [List.getElem?_append_left hjl] at hj
      obtain ⟨vs, a1, a2⟩ := h3 j y hj
      refine ⟨vs, fun f hf => ?_, Sh.moved a2 k2 k4⟩
      have h5 : (j + 1) * S.k ≤ ts.length * S.k := Nat.mul_le_mul_right _ hjl
      rw [Nat.add_mul, Nat.one_mul] at h5
      rw [List.getElem?_append_left (by rw [hul]; omega)]
      exact a1 f hf
    · rw [List.getElem?_append_right (by omega)] at hj
      obtain ⟨vs, a1, a2⟩ := n4 (j - ts.length) y hj
      refine ⟨vs, fun f hf => ?_, Sh.moved a2 k2 k4⟩
      have h5 : ts.length * S.k ≤ j * S.k := Nat.mul_le_mul_right _ (by omega)
      rw [List.getElem?_append_right (by rw [hul]; omega), hul, ← a1 f hf, Nat.sub_mul]
      congr 1
      omega
end
theorem results_cc {P : Program} {fn : Func} {p p2 : Tmp} {ty ty2 : TypeId} (h : fn.results = #[.cell p ty, .cell p2 ty2]) (tmps : Array Value) (w : World) (g g2 : Nat) (t t2 : TypeId) (cs cs2 : Array Value) (fr fr2 : Nat × Nat) (d d2 : TypeDesc)
    (hp : tmps.getD p undef = .pointer (some ⟨g, 0, none⟩)) (hg : w.heap[g]? = some (.cells cs t fr)) (hp2 : tmps.getD p2 undef = .pointer (some ⟨g2, 0, none⟩)) (hg2 : w.heap[g2]? = some (.cells cs2 t2 fr2))
    (hu : P.underlying ty = some d) (hd : (match d with | .struct _ | .array _ _ => true | _ => false) = true) (hi : (P.info? ty).map (·.size) = some cs.size)
    (hu2 : P.underlying ty2 = some d2) (hd2 : (match d2 with | .struct _ | .array _ _ => true | _ => false) = true) (hi2 : (P.info? ty2).map (·.size) = some cs2.size) :
    (results fn tmps).run P w = .ok (.tuple #[.agg cs, .agg cs2]) w := by
  have hp' : tmps[p]?.getD undef = .pointer (some ⟨g, 0, none⟩) := by simpa using hp
  have hp2' : tmps[p2]?.getD undef = .pointer (some ⟨g2, 0, none⟩) := by simpa using hp2
  simp [results, h, hp', hp2', asAddr, run_loadVar_row w g t ty cs fr d hg hu hd hi, run_loadVar_row w g2 t2 ty2 cs2 fr2 d2 hg2 hu2 hd2 hi2]
def inB13 (H : Nat) : Nat → Prop := fun g => H ≤ g ∧ g < H + 6
structure AhSt (w0 : World) (cc : Array Value) (M n : Nat) (s : List UInt8) (i : Nat) (Y : Nat → Prop) (A : World) (o : Value) : Prop where
  mk ::
  ch : Bx A w0.heap.size 25 cc
  pl : Bx A (w0.heap.size + 1) 3 #[.int .i64 ((M : Int) + (n : Int))]
  r1 : Bx A (w0.heap.size + 2) 25 #[.int .i64 0, .slice none 0 0, .slice none 0 0]
  r2 : Bx A (w0.heap.size + 3) 43 #[.int .i64 0, .slice none 0 0, .slice none 0 0]
  box : Bx A (w0.heap.size + 4) 23 #[o]
  row : GZ shLk 43 (fun g => Y g ∨ g < w0.heap.size + 6) A (w0.heap.size + 6) o (passB s M i)
  apt : ∀ g, o.ownBlock = some g → ¬ Y g
  kp : Kp w0 A
  sz : w0.heap.size + 6 ≤ A.heap.size
theorem GZ.under13 {α : Type} {S : Sh α} {e : TypeId} {A A' : World} {C : Nat} {v : Value} {t : List α} {Y Y' Q : Nat → Prop} (h : GZ S e (fun g => Y g ∨ Q g) A C v t) (hs : Step Y A A') (hg : Grew Y Y' A A') (ha : ∀ g, v.ownBlock = some g → ¬ Y g) : GZ S e (fun g => Y' g ∨ Q g) A' C v t := by
  have h1 : GZ S e (fun g => (Y g ∨ Q g) ∨ A.heap.size ≤ g) A C v t := h.solidly fun g hg => hg.elim (fun h => .inr (.inl h)) fun h => .inr (.inr fun hs => by have := hs.lt; omega)
  have h2 : GZ S e (fun g => (Y g ∨ Q g) ∨ A.heap.size ≤ g) A' C v t := h1.step hs (fun g hg => .inl (.inl (.inl hg))) ha
  refine h2.solidly fun g hg' => ?_
  rcases hg' with h3 | h3
  · rcases hg g h3 with h4 | h4
    · exact .inr (.inl (.inl (.inl h4)))
    · exact .inr (.inl (.inr h4.1))
  · exact .inr (.inl (.inl (.inr h3)))
theorem AhSt.to {w0 : World} {cc : Array Value} {M n i : Nat} {s : List UInt8} {Y Y' : Nat → Prop} {A A' : World} {o : Value} (h : AhSt w0 cc M n s i Y A o) (hY : ∀ k, Y k → w0.heap.size + 6 ≤ k ∧ k < A.heap.size) (hs : Step Y A A') (hg : Grew Y Y' A A') : AhSt w0 cc M n s i Y' A' o := by
  obtain ⟨b1, b2, b3, b4, b5, b6, b7, b8, b9⟩ := h
  have nB : ∀ g, g < w0.heap.size + 6 → ¬ Y g := fun g hg h => by have := (hY _ h).1; omega
  refine ⟨(hs.block _ (Array.getElem?_eq_some_iff.1 b1).1 (nB _ (by omega))).trans b1, (hs.block _ (Array.getElem?_eq_some_iff.1 b2).1 (nB _ (by omega))).trans b2, (hs.block _ (Array.getElem?_eq_some_iff.1 b3).1 (nB _ (by omega))).trans b3, (hs.block _ (Array.getElem?_eq_some_iff.1 b4).1 (nB _ (by omega))).trans b4, (hs.block _ (Array.getElem?_eq_some_iff.1 b5).1 (nB _ (by omega))).trans b5, b6.under13 hs hg b7, fun g hgv h => ?_, Below.trans b8 (hs.below b8.size (fun k hk => by have := (hY k hk).1; omega)), Nat.le_trans b9 hs.size⟩
  rcases hg g h with h5 | h5
  · exact b7 g hgv h5
  · have := (b6.lt g hgv).2; omega
theorem AhSt.minds {w0 : World} {cc : Array Value} {M n i : Nat} {s : List UInt8} (hle : Prop) : Minds (w0.heap.size + 6) (fun Y A => hle ∧ ∃ o, AhSt w0 cc M n s i Y A o) := by
  rintro Y Y' A A' ⟨hl, o, h⟩ hY hs hg
  exact ⟨hl, o, h.to hY hs hg⟩
theorem AhSt.on {w0 : World} {cc : Array Value} {M n i : Nat} {s : List UInt8} {Y : Nat → Prop} {A A' : World} {o : Value} (h : AhSt w0 cc M n s i Y A o) (hY : ∀ k, Y k → w0.heap.size + 6 ≤ k ∧ k < A.heap.size) (k : Kp A A') : AhSt w0 cc M n s i Y A' o :=
  h.to hY (Step.of_kp k) fun k hk => .inl hk
theorem AhSt.next {w0 A Al w1 : World} {cc : Array Value} {M n i : Nat} {s : List UInt8} {Y Y' R : Nat → Prop} {o v' : Value} (h : AhSt w0 cc M n s i Y A o) (hY : ∀ k, Y k → w0.heap.size + 6 ≤ k ∧ k < A.heap.size) (hY' : ∀ k, Y' k → Y k) (hR : ∀ k, R k → k < w0.heap.size + 6 ∧ k ≠ w0.heap.size + 4) (hk : Kp A Al)
    (ho : GZ shLk 43 (fun g => Y' g ∨ g < w0.heap.size + 6) w1 (w0.heap.size + 6) v' (passB s M (i + 1))) (hg : Al.grownBy w1 o.ownBlock) (hat : v'.ownBlock = o.ownBlock ∨ v'.ownBlock = some Al.heap.size) :
    w1.frozen? ⟨w0.heap.size + 4, 0, none⟩ = false ∧ w1.cell? ⟨w0.heap.size + 4, 0, none⟩ = some o ∧ AhSt w0 cc M n s (i + 1) Y' (w1.setCell ⟨w0.heap.size + 4, 0, none⟩ v') v' ∧ Held (fun k => Y k ∨ R k) A (w1.setCell ⟨w0.heap.size + 4, 0, none⟩ v') := by
  have hl := h.on hY hk
  obtain ⟨b1, b2, b3, b4, b5, b6, b7, b8, b9⟩ := hl
  have hob : ∀ g, o.ownBlock = some g → w0.heap.size + 6 ≤ g ∧ g < A.heap.size := h.row.lt
  have nb : ∀ g, g < w0.heap.size + 6 → some g ≠ o.ownBlock := fun g hg e => by have := (hob g e.symm).1; omega
  have old : ∀ {g : Nat} {T : TypeId} {cs : Array Value}, Bx Al g T cs → g < w0.heap.size + 6 → Bx w1 g T cs := fun hb hlt => (hg.block _ (Array.getElem?_eq_some_iff.1 hb).1 (nb _ hlt)).trans hb
  have hb1 := old b5 (by omega)
  have hst : Step (fun k => k = w0.heap.size + 4) w1 (w1.setCell ⟨w0.heap.size + 4, 0, none⟩ v') := (Step.refl _ _).setCell _ _ (.inr rfl)
  have keep : ∀ {g : Nat} {T : TypeId} {cs : Array Value}, Bx w1 g T cs → g ≠ w0.heap.size + 4 → Bx (w1.setCell ⟨w0.heap.size + 4, 0, none⟩ v') g T cs := fun hb hne => (hst.block _ (Array.getElem?_eq_some_iff.1 hb).1 hne).trans hb
  have hsz : A.heap.size ≤ w1.heap.size := Nat.le_trans hk.size hg.size
  have hv' : ∀ g, v'.ownBlock = some g → w0.heap.size + 6 ≤ g ∧ ¬ Y g := fun g e => by
    rcases hat with e2 | e2
    · rw [e2] at e
      exact ⟨(hob g e).1, h.apt g e⟩
    · rw [e2] at e
      simp only [Option.some.injEq] at e
      refine ⟨by omega, fun hy => ?_⟩
      have := (hY g hy).2
      have := hk.size
      omega
  have k1 : Kp w0 w1 := Kp.grown (v := o) b8 hg (fun k hk => by have := (hob k hk).1; omega)
  refine ⟨hb1.frozen 0, ?_, ⟨keep (old b1 (by omega)) (by omega), keep (old b2 (by omega)) (by omega), keep (old b3 (by omega)) (by omega), keep (old b4 (by omega)) (by omega), hb1.set 0 v', ho.step hst (fun g hg => .inl (.inr (by omega))) (fun g e hgb => by have := (hv' g e).1; omega), fun g e h2 => (hv' g e).2 (hY' g h2), Below.trans k1 (hst.below k1.size (fun k hk => by omega)), Nat.le_trans h.sz (Nat.le_trans hsz hst.size)⟩, ⟨Nat.le_trans hsz hst.size, fun k hk' hr => ?_⟩⟩
  · have := hb1.cell 0
    simpa using this
  · have h5 : k ≠ w0.heap.size + 4 ∧ some k ≠ o.ownBlock := by
      rcases hr with h6 | h6
      · exact ⟨fun e => by have := (hY k h6).1; omega, fun e => h.apt k e.symm h6⟩
      · exact ⟨(hR k h6).2, nb k (hR k h6).1⟩
    exact (hst.block k (by omega) h5.1).trans ((hg.block k (Nat.lt_of_lt_of_le hk' hk.size) h5.2).trans (hk.block k hk'))
structure AhOut (w0 : World) (M n : Nat) (s : List UInt8) (y : Value) (Y : Nat → Prop) (A : World) (o u : Value) : Prop where
  mk ::
  st : AhSt w0 #[.int .i64 ((M : Int) + (n : Int) + 1), u, y] M n s (n + 1) Y A o
  rd : Rd A u (onB s M (n + 1))
  far : ∀ k, leads u k → ¬ Y k ∧ ¬ inB13 w0.heap.size k
theorem AhOut.minds {w0 : World} {M n : Nat} {s : List UInt8} {y : Value} (hle : Prop) : Minds (w0.heap.size + 6) (fun Y A => hle ∧ ∃ o u, AhOut w0 M n s y Y A o u) := by
  rintro Y Y' A A' ⟨hl, o, u, h⟩ hY hs hg
  refine ⟨hl, o, u, h.st.to hY hs hg, h.rd.stepF hs (fun x n c e h0 hk => (h.far _ ⟨x, n, c, e, h0, rfl⟩).1 hk), fun k hk => ⟨fun h2 => ?_, (h.far k hk).2⟩⟩
  rcases hg k h2 with h3 | h3
  · exact (h.far k hk).1 h3
  · have := h.rd.leads_lt13 k hk; omega
theorem Rd.gone13 {w w' : World} {D : Nat} {o : Obj} {v : Value} {l : List UInt8} (h : Rd w v l) (hd : w.heap[D]? = some o) (ho : o.isCells = false) (hs : Step (fun k => k = D) w w') : Rd w' v l := h.turn hd ho hs
theorem not_solid13 {w : World} {D : Nat} {o : Obj} (hd : w.heap[D]? = some o) (ho : o.isCells = false) : ¬ Solid w D := by
  rintro ⟨cs, t, fr, e⟩
  rw [hd] at e
  cases e
  cases ho
theorem SZ.gone13 {α : Type} {S : Sh α} {Z : Nat → Prop} {w w' : World} {D : Nat} {o : Obj} {v : Value} {l : List α} (h : SZ S Z w v l) (hd : w.heap[D]? = some o) (ho : o.isCells = false) (hs : Step (fun k => k = D) w w') : SZ S Z w' v l :=
  (SZ.step (Z := fun g => Z g ∨ g = D) (SZ.solidly h fun g hg => hg.imp id fun hg => by rw [hg]; exact not_solid13 hd ho) (hs.mono fun g hg => .inr hg)).mono fun _ h => .inl h
theorem wp_calm13 {P : Program} {c : Code} {K : Act → World → Prop} {Q : Exit → Act → World → Prop} {a : Act} {w : World} (h : c.wp P (Exit.then K fun _ _ _ => False) a w) : c.wp P (Exit.then K Q) a w :=
  Code.wp_mono (fun e a w h => by cases e <;> first | exact h | exact h.elim) h
structure Later13 (p : Prop) : Prop where
  out : p
theorem later13 {p : Prop} {F Q : Option Addr → Nat → World → Prop} (ways : Later13 (∀ a c W, F a c W → Q a c W) → p) (rest : ∀ a c W, F a c W → Q a c W) : p := ways ⟨rest⟩
theorem AhSt.left {w0 A : World} {M n : Nat} {s : List UInt8} {Y Y' R : Nat → Prop} {o u x0 x y : Value} {p : Int} (h : AhSt w0 #[x0, x, y] M n s (n + 1) Y A o) (hY : ∀ k, Y k → w0.heap.size + 6 ≤ k ∧ k < A.heap.size) (hu : Rd A u (onB s M (n + 1))) (hlu : ∀ k, leads u k → Y k ∨ k < w0.heap.size) (hY' : ∀ k, Y' k → Y k ∧ ¬ leads u k) (hR : ∀ k, R k → k ≠ w0.heap.size) (hp : p = (M : Int) + (n : Int) + 1) :
    AhOut w0 M n s y Y' ((A.setCell ⟨w0.heap.size, 0, none⟩ (.int .i64 p)).setCell ⟨w0.heap.size, 1, none⟩ u) o u ∧ Held (fun k => Y k ∨ R k) A ((A.setCell ⟨w0.heap.size, 0, none⟩ (.int .i64 p)).setCell ⟨w0.heap.size, 1, none⟩ u) := by
  subst hp
  have hst : Step (fun k => k = w0.heap.size) A ((A.setCell ⟨w0.heap.size, 0, none⟩ (.int .i64 ((M : Int) + (n : Int) + 1))).setCell ⟨w0.heap.size, 1, none⟩ u) := ((Step.refl (fun k => k = w0.heap.size) A).setCell ⟨w0.heap.size, 0, none⟩ _ (.inr rfl)).setCell ⟨w0.heap.size, 1, none⟩ u (.inr rfl)
  have hc := (h.ch.set 0 (.int .i64 ((M : Int) + (n : Int) + 1))).set 1 u
  generalize (A.setCell ⟨w0.heap.size, 0, none⟩ (.int .i64 ((M : Int) + (n : Int) + 1))).setCell ⟨w0.heap.size, 1, none⟩ u = B at *
  obtain ⟨b1, b2, b3, b4, b5, b6, b7, b8, b9⟩ := h
  have keep : ∀ {g : Nat} {T : TypeId} {cs : Array Value}, Bx A g T cs → g ≠ w0.heap.size → Bx B g T cs := fun hb hne => (hst.block _ (Array.getElem?_eq_some_iff.1 hb).1 hne).trans hb
  have hrow : GZ shLk 43 (fun g => Y g ∨ g < w0.heap.size + 6) B (w0.heap.size + 6) o (passB s M (n + 1)) := b6.step hst (fun g hg => .inl (.inr (by omega))) (fun g e hgb => by have := (b6.lt g e).1; omega)
  refine ⟨⟨⟨hc, keep b2 (by omega), keep b3 (by omega), keep b4 (by omega), keep b5 (by omega), hrow.solidly fun g hg => .inr (.inl (hg.imp (fun h => (hY' g h).1) id)), fun g e h2 => b7 g e (hY' g h2).1, Below.trans b8 (hst.below b8.size (fun k hk => by omega)), Nat.le_trans b9 hst.size⟩, hu.stepF hst (fun x n c e h0 hk => ?_), fun k hk => ⟨fun h2 => (hY' k h2).2 hk, fun h2 => ?_⟩⟩, Held.of_step hst (fun k hk e => ?_)⟩
  · rcases hlu _ ⟨x, n, c, e, h0, rfl⟩ with h1 | h1
    · have := (hY _ h1).1; omega
    · omega
  · rcases hlu k hk with h1 | h1
    · have := (hY _ h1).1; have := h2.2; omega
    · have := h2.1; omega
  · rcases hk with h1 | h1
    · have := (hY _ h1).1; omega
    · exact hR k h1 e
set_option maxRecDepth 100000 in
set_option maxHeartbeats 4000000 in
theorem ratchAhead_any (x y : Value) (c : Ch) (M n : Nat) (Z : Nat → Prop) (w : World) (hrx : Rd w x c.sec) (hsy : SZ shLk Z w y c.spare) (hZ : ∀ g, Z g → g < w.heap.size) (hc : c.ok) (hM : c.next = (M : Int)) (hn : n ≤ 100) (hMn : M + n + 1 ≤ 4294967294) :
    Calls Tryz.prog 33 #[.agg #[.int .i64 (M : Int), x, y], .int .i64 ((M : Int) + (n : Int))] w fun e w' => (∃ x' y' p q, e = .returned (.tuple #[.agg #[.int .i64 ((M : Int) + (n : Int) + 1), x', y'], .agg #[.int .i64 ((M : Int) + (n : Int)), p, q]]) ∧ Rd w' x' (onB c.sec M (n + 1)) ∧ SZ shLk Z w' y' (lastL (c.spare ++ passB c.sec M n)) ∧ LIn w' p q (lockB (onB c.sec M n) (M + n))) ∧ Kp w w' := by
  have hsec := hc.sec
  have HPL := Lib.hid (fun W (hW : Kp w W) => ratchPlaces_any (M : Int) x y W hrx.sl (SE.sl hsy.1))
  have HSH := Lib.hid (fun b W (hW : Kp w W) (hb0 : W.cell? ⟨b, 0, none⟩ = some (.int .i64 (M : Int))) (hb1 : W.cell? ⟨b, 1, none⟩ = some x) => ratchPlaces_hands x c.sec M (n + 2) b W (hrx.kp hW) hsec hb0 hb1 (by omega))
  have HX := Lib.hid hrx
  have HLK := Lib.hid (fun W u (i : Nat) (hi : i ≤ n) (hW : Rd W u (onB c.sec M i)) => ratchLockOf_any u (onB c.sec M i) (M + i) W hW (by rw [onB_length c.sec M hsec i]; omega) (by omega))
  have HWI := Lib.hid (fun W u v (l : List Lk) (hu : SZ shLk (fun g => Z g ∨ inB13 w.heap.size g) W u c.spare) (hv : SZ shLk (fun g => Z g ∨ inB13 w.heap.size g) W v l) (hW : w.heap.size + 6 ≤ W.heap.size) (hl : l.length ≤ 200) => ratchWith_any u v c.spare l _ W hu hv (fun g hg => by rcases hg with h1 | h1; (have h2 := hZ _ h1; omega); (have h2 := h1.2; omega)) (by have := hc.few; omega))
  have HSP : Hid (∀ W, Kp w W → SZ shLk (fun g => Z g ∨ inB13 w.heap.size g) W y c.spare) := fun W hW => (SZ.step (SZ.olds13 hsy) (Step.of_kp hW)).mono fun g hg => hg.imp id fun h => h.1
  have HZZ := Lib.hid hZ
  obtain ⟨a1, n1, c1, rfl⟩ := hrx.sl
  obtain ⟨a2, n2, c2, rfl⟩ := SE.sl hsy.1
  generalize c.sec = SB at *
  generalize c.spare = SP at *
  clear hrx hsy hZ hc hM hsec
  refine (callsIn_wide (n := 4)).1 ?_
  refine callsIn_of_wp_marks Tryz.func33 rfl trivial ?_ rfl
  refine wpIn_wide.2 ?_
  simp only [Tryz.ntmps33, List.append_toArray, List.size_toArray, List.length_nil, List.length_cons, Nat.reduceAdd, Nat.reduceSub, Array.replicate_succ, Array.replicate_zero, List.push_toArray, List.nil_append, List.cons_append]
  obtain ⟨w2, hw2⟩ : ∃ x, ((((w.alloc (.cells #[.int .i64 (M : Int), .slice a1 n1 c1, .slice a2 n2 c2] 25)).alloc (.cells #[.int .i64 ((M : Int) + (n : Int))] 3)).alloc (.cells #[.int .i64 0, .slice none 0 0, .slice none 0 0] 25)).alloc (.cells #[.int .i64 0, .slice none 0 0, .slice none 0 0] 43)).alloc (.cells #[.slice none 0 0] 23) = x := ⟨_, rfl⟩
  have hs2 : w2.heap.size = w.heap.size + 5 := by rw [← hw2]; simp
  have hk2 : Kp w w2 := by rw [← hw2]; exact (((((Kp.refl _).alloc _).alloc _).alloc _).alloc _).alloc _
  have hb0 : Bx w2 w.heap.size 25 #[.int .i64 (M : Int), .slice a1 n1 c1, .slice a2 n2 c2] := by rw [← hw2]; exact (Bx.new w _ _).kp (((((Kp.refl _).alloc _).alloc _).alloc _).alloc _)
  have d0 := hb0.cell 0
  have d1 := hb0.cell 1
  have d2 := hb0.cell 2
  simp only [List.getElem?_toArray, List.getElem?_cons_zero, List.getElem?_cons_succ] at d0 d1 d2
  have HW2 := Lib.hid hw2
  go_wp2_with (first | (rw [HW2.out]) | fail)
  simp only [show w.heap.size + 1 + 1 + 1 + 1 = w.heap.size + 4 from rfl, show w.heap.size + 1 + 1 + 1 = w.heap.size + 3 from rfl, show w.heap.size + 1 + 1 = w.heap.size + 2 from rfl]
  refine (HPL.out w2 hk2).mono ?_; rintro _ w3 ⟨rfl, hw3⟩
  have hs3 : w3.heap.size = w.heap.size + 6 := by rw [← hw3]; simp [hs2]
  have hk3 : Kp w2 w3 := by rw [← hw3]; exact (Kp.refl _).alloc _
  have hb5 : Bx w3 w2.heap.size 25 #[.int .i64 (M : Int), .slice a1 n1 c1, .slice a2 n2 c2] := by rw [← hw3]; exact Bx.new w2 _ _
  have HSE := Lib.hid (HSH.out w2.heap.size w3 (hk2.trans hk3) (by have := hb5.cell 0; simpa using this) (by have := hb5.cell 1; simpa using this))
  have HI0 : Hid (AhSt w #[.int .i64 (M : Int), .slice a1 n1 c1, .slice a2 n2 c2] M n SB 0 (fun _ => False) w3 (.slice none 0 0)) := by
    have g1 : Bx w2 (w.heap.size + 1) 3 #[.int .i64 ((M : Int) + (n : Int))] := by
      have := (Bx.new (w.alloc (.cells #[.int .i64 (M : Int), .slice a1 n1 c1, .slice a2 n2 c2] 25)) 3 #[.int .i64 ((M : Int) + (n : Int))]).kp ((((Kp.refl _).alloc (.cells #[.int .i64 0, .slice none 0 0, .slice none 0 0] 25)).alloc (.cells #[.int .i64 0, .slice none 0 0, .slice none 0 0] 43)).alloc (.cells #[.slice none 0 0] 23))
      rw [World.size_alloc] at this
      rw [← hw2]; exact this
    have g2 : Bx w2 (w.heap.size + 2) 25 #[.int .i64 0, .slice none 0 0, .slice none 0 0] := by
      have := (Bx.new ((w.alloc (.cells #[.int .i64 (M : Int), .slice a1 n1 c1, .slice a2 n2 c2] 25)).alloc (.cells #[.int .i64 ((M : Int) + (n : Int))] 3)) 25 #[.int .i64 0, .slice none 0 0, .slice none 0 0]).kp (((Kp.refl _).alloc (.cells #[.int .i64 0, .slice none 0 0, .slice none 0 0] 43)).alloc (.cells #[.slice none 0 0] 23))
      rw [World.size_alloc, World.size_alloc] at this
      rw [← hw2]; exact this
    have g3 : Bx w2 (w.heap.size + 3) 43 #[.int .i64 0, .slice none 0 0, .slice none 0 0] := by
      have := (Bx.new (((w.alloc (.cells #[.int .i64 (M : Int), .slice a1 n1 c1, .slice a2 n2 c2] 25)).alloc (.cells #[.int .i64 ((M : Int) + (n : Int))] 3)).alloc (.cells #[.int .i64 0, .slice none 0 0, .slice none 0 0] 25)) 43 #[.int .i64 0, .slice none 0 0, .slice none 0 0]).kp ((Kp.refl _).alloc (.cells #[.slice none 0 0] 23))
      rw [World.size_alloc, World.size_alloc, World.size_alloc] at this
      rw [← hw2]; exact this
    have g4 : Bx w2 (w.heap.size + 4) 23 #[.slice none 0 0] := by
      have := Bx.new ((((w.alloc (.cells #[.int .i64 (M : Int), .slice a1 n1 c1, .slice a2 n2 c2] 25)).alloc (.cells #[.int .i64 ((M : Int) + (n : Int))] 3)).alloc (.cells #[.int .i64 0, .slice none 0 0, .slice none 0 0] 25)).alloc (.cells #[.int .i64 0, .slice none 0 0, .slice none 0 0] 43)) 23 #[.slice none 0 0]
      rw [World.size_alloc, World.size_alloc, World.size_alloc, World.size_alloc] at this
      rw [← hw2]; exact this
    exact ⟨hb0.kp hk3, g1.kp hk3, g2.kp hk3, g3.kp hk3, g4.kp hk3, GZ.nil _ _ _, fun g hg => (by cases hg), hk2.trans hk3, by rw [hs3]; exact Nat.le_refl _⟩
  have HZ : Hid (w2.heap.size = w.heap.size + 5 ∧ w3.heap.size = w.heap.size + 6) := ⟨hs2, hs3⟩
  have K3 := Lib.hid (hk2.trans hk3)
  have hE : ∀ args w, (callFunc 57 args).run Tryz.prog w = .ok (.enter 57 args) w := enters_of Tryz.func57 (by kernel_rfl) rfl
  clear hw3 hb0 hk2 hk3 HPL HSH hs2 hs3 hb5 d0 d1 d2 hw2 HW2
  go_wp2_with fail
  obtain ⟨VL, hVL⟩ : ∃ VL : Nat → Prop, (fun k => leads (.slice a1 n1 c1) k) = VL := ⟨_, rfl⟩
  have hVL' : ∀ k, leads (.slice a1 n1 c1) k ↔ VL k := fun k => by rw [← hVL]
  have hVLT : ∀ k, VL k → k < w.heap.size := fun k hk => HX.out.leads_lt13 k ((hVL' k).2 hk)
  obtain ⟨R, hR⟩ : ∃ R : Nat → Prop, (fun k => k = w2.heap.size ∨ leads (.slice a1 n1 c1) k) = R := ⟨_, rfl⟩
  have HRB : Hid (∀ k, R k → k < w.heap.size + 6 ∧ ¬ (w.heap.size ≤ k ∧ k < w.heap.size + 5)) := fun k hk => by
    have := HZ.out
    rw [← hR] at hk
    rcases hk with rfl | hk
    · omega
    · have := hVLT k ((hVL' k).1 hk); omega
  have HVR : Hid (∀ k, leads (.slice a1 n1 c1) k → R k) := fun k hk => by rw [← hR]; exact .inr hk
  have HVT : Hid (∀ k, leads (.slice a1 n1 c1) k → k < w.heap.size) := fun k hk => HX.out.leads_lt13 k hk
  rw [hR] at HSE
  clear hR hVL hVL' hVLT VL
  have hRb : ∀ k, R k → k < w3.heap.size := fun k hk => by have := (HRB.out k hk).1; have := HZ.out; omega
  have e6 : w.heap.size + 6 = w3.heap.size := HZ.out.2.symm
  refine wp_range_handsGA (gf := 57) (lb := #[.pointer (some ⟨w2.heap.size, 0, none⟩)]) rfl hE (Kp.refl w3) hRb HSE.out ?sz
      (fun i Y A => i ≤ n + 1 ∧ ∃ o, AhSt w #[.int .i64 (M : Int), .slice a1 n1 c1, .slice a2 n2 c2] M n SB i Y A o) (fun e i Y A => e = .exit 0 ∧ ∃ o u, AhOut w M n SB (.slice a2 n2 c2) Y A o u) ?mI ?mIx ?IN ?Tl ?TT ?h0
      (fun v a' _ => ∃ (p : Int) (u : Value), v = #[.int .i64 p, u] ∧ a' = { tmps := #[.agg #[.int .i64 (M : Int), .slice a1 n1 c1, .slice a2 n2 c2], .int .i64 ((M : Int) + (n : Int)), .pointer (some ⟨w.heap.size, 0, none⟩), .pointer (some ⟨w.heap.size + 1, 0, none⟩), .pointer (some ⟨w.heap.size + 2, 0, none⟩), .pointer (some ⟨w.heap.size + 3, 0, none⟩), .pointer (some ⟨w.heap.size + 4, 0, none⟩), .int .i64 p, u, undef, .agg #[.int .i64 (M : Int), .slice a1 n1 c1, .slice a2 n2 c2], .func (.func 57) #[] #[.pointer (some ⟨w2.heap.size, 0, none⟩)], .int .i64 p, u, undef, undef, undef, undef, undef, undef, undef, undef, undef, undef, undef, undef, undef, undef, undef, undef, undef, undef, undef, undef, undef, undef, undef, undef, undef, undef, undef, undef], defers := [] })
      (fun _ _ _ _ _ _ h _ _ => h) ?assign ?body ?done ?stop
  case mI => intro i; rw [← e6]; exact AhSt.minds _
  case mIx => intro e i; rw [← e6]; exact AhOut.minds _
  case sz => rintro i v Y A ⟨u, rfl, _⟩; rfl
  case IN => rintro Y A ⟨h, _⟩; omega
  case Tl =>
    rintro i v Y A ⟨u, rfl, _, h⟩ k hk
    exact (h k (leadsA_two.1 hk)).imp id (HVR.out k)
  case TT =>
    rintro i v Yi Y A A' l o ⟨u, e, hr, hv⟩ hyy _ _ hl hs
    exact ⟨u, e, hr.turn hl rfl hs, fun k hk => (hv k hk).imp (hyy k) id⟩
  case h0 => exact ⟨Nat.zero_le _, _, HI0.out⟩
  case assign =>
    rintro l i Y Yi v A Kk hI ⟨u, rfl, hu, _⟩ hK
    obtain ⟨a9, n9, c9, rfl⟩ := hu.sl
    gi_wp2
    exact hK _ _ (Kp.refl _) ⟨_, _, rfl, rfl⟩
  case body =>
    rintro l i Y v a' A hi ⟨hiL, o, hI⟩ hyb hRA ⟨u, rfl, hrd, hlu⟩ ⟨p, u', hpu, rfl⟩
    simp only [Array.mk.injEq, List.cons.injEq, Value.int.injEq, true_and, and_true] at hpu
    obtain ⟨rfl, rfl⟩ := hpu
    obtain ⟨a9, n9, c9, rfl⟩ := hrd.sl
    have cP := hI.pl.cell 0
    have cB := hI.box.cell 0
    have c0 := hI.ch.cell 0
    have c1' := hI.ch.cell 1
    have f0 := hI.ch.frozen 0
    have f1 := hI.ch.frozen 1
    simp only [List.getElem?_toArray, List.getElem?_cons_zero, List.getElem?_cons_succ] at cP cB c0 c1'
    have hyb' : ∀ k, Y k → w.heap.size + 6 ≤ k ∧ k < A.heap.size := fun k hk => by rw [e6]; exact hyb k hk
    have HI := Lib.hid hI
    have HYB := Lib.hid hyb'
    have HRD := Lib.hid hrd
    have HLU := Lib.hid hlu
    have hmx : Tryz.prog.follows .mixedOrders = true := by kernel_rfl
    have hls : Tryz.prog.follows .lateStores = true := by kernel_rfl
    clear hI hyb hyb' hRA hrd hlu
    by_cases hle : i ≤ n
    · have i3 : ¬ (M : Int) + (n : Int) < (M : Int) + (i : Int) := by omega
      have HCK := Lib.hid (HLK.out A.drew (.slice a9 n9 c9) i hle (HRD.out.kp (Kp.refl A).drew))
      have i7 : ((M + i : Nat) : Int) = (M : Int) + (i : Int) := by omega
      have HLP : Hid ((lockB (onB SB M i) (M + i)).pos = (M : Int) + (i : Int)) := i7
      have HPS : Hid (passB SB M i ++ [lockB (onB SB M i) (M + i)] = passB SB M (i + 1)) := rfl
      have HLEN : Hid ((passB SB M i).length + 1 ≤ 1000000) := by unfold Hid; rw [passB_length]; omega
      rw [i7] at HCK
      clear c0 c1' f0 f1 i7
      gi_wp2
      have cd : A.drew.cell? ⟨w.heap.size + 4, 0, none⟩ = some o := cB
      refine region_if (S := fun _ => True) hmx ?_
      refine AnyIf.take 1 (.slice a9 n9 c9) rfl (by kernel_rfl) (by kernel_rfl) (by kernel_rfl) (by kernel_rfl) (fun _ _ _ h => h) trivial ⟨fun c e => (by cases e), fun _ => rfl, .inl ⟨rfl, fun W' hW' => ?_⟩⟩ ?_
      · go_simp
      refine AnyIf.take 2 (.int .i64 ((M : Int) + (i : Int))) rfl (by kernel_rfl) (by kernel_rfl) (by kernel_rfl) (by kernel_rfl) (fun _ _ _ h => h) trivial ⟨fun c e => (by cases e), fun _ => rfl, .inl ⟨rfl, fun W' hW' => ?_⟩⟩ ?_
      · go_simp
      go_simp
      refine AnyIf.two 0 3 rfl rfl (by kernel_rfl) (fun K2 hK => ?_) (fun K2 hK => ?_)
      · go_simp
        refine hK _ _ trivial ?_
        clear hK K2
        refine AnyIf.one 3 rfl (by kernel_rfl) (fun K2 hK => ?_)
        go_simp
        gi_wp2_with (refine ⟨trivial, ?_⟩; gi_at_call 46; refine (CallsIn.inRound l (callsIn_wide.2 HCK.out)).mono ?_; rintro _ w9 ⟨⟨p9, q9, rfl, l9, mp9, mq9⟩, k9⟩)
        obtain ⟨b1, m1, d1, rfl⟩ := l9.key.sl
        obtain ⟨b2, m2, d2, rfl⟩ := l9.non.sl
        refine hK _ _ trivial ?_
        clear hK K2
        refine AnyIf.one 4 rfl (by kernel_rfl) (fun K2 hK => ?_)
        go_simp
        refine hK _ _ trivial ?_
        clear hK K2
        refine AnyIf.one 5 rfl (by kernel_rfl) (fun K2 hK => ?_)
        rw [if_pos (by rfl)]
        have KL : Hid (Kp A (w9.alloc (.cells #[.int .i64 ((M : Int) + (i : Int)), .slice b1 m1 d1, .slice b2 m2 d2] 43))) := ((Kp.refl A).drew.trans k9).alloc _
        have hav : ∀ g, (some g = o.ownBlock ∨ ((Y g ∧ ¬ leadsA #[.int .i64 ((M : Int) + (i : Int)), .slice a9 n9 c9] g) ∨ g < w.heap.size + 6)) → g < A.drew.heap.size := fun g hg => by
          show g < A.heap.size
          rcases hg with h1 | h1 | h1
          · exact (HI.out.row.lt g h1.symm).2
          · exact (HYB.out g h1.1).2
          · have := HI.out.sz; omega
        have HLIT : SE shLk (fun g => some g = o.ownBlock ∨ ((Y g ∧ ¬ leadsA #[.int .i64 ((M : Int) + (i : Int)), .slice a9 n9 c9] g) ∨ g < w.heap.size + 6)) (w9.alloc (.cells #[.int .i64 ((M : Int) + (i : Int)), .slice b1 m1 d1, .slice b2 m2 d2] 43)) (.slice (some ⟨w9.heap.size, 0, none⟩) 1 1) [lockB (onB SB M i) (M + i)] :=
          SE.litY (S := shLk) 43 ⟨_, _, by rw [HLP.out], ⟨l9.key, mp9.free hav⟩, ⟨l9.non, mq9.free hav⟩⟩ rfl
        have HROW : GZ shLk 43 (fun g => (Y g ∧ ¬ leadsA #[.int .i64 ((M : Int) + (i : Int)), .slice a9 n9 c9] g) ∨ g < w.heap.size + 6) (w9.alloc (.cells #[.int .i64 ((M : Int) + (i : Int)), .slice b1 m1 d1, .slice b2 m2 d2] 43)) (w.heap.size + 6) o (passB SB M i) := (HI.out.row.solidly fun g hg => .inr (.inl (hg.imp And.left id))).kp KL.out
        refine wpIn_append_z1 (S := shLk) lkKc _ _ rfl (w.heap.size + 6) o (passB SB M i) HROW _ (lockB (onB SB M i) (M + i)) HLIT HLEN.out (Nat.le_trans HI.out.sz KL.out.size) rfl rfl ?_
        intro v' w8 o8 g8 h8
        rw [HPS.out] at o8
        obtain ⟨a8, n8, c8, rfl⟩ := SE.sl o8.gl
        obtain ⟨fz, cx, hI8, hH8⟩ := HI.out.next (R := R) HYB.out (fun k hk => hk.1) (fun k hk => by have h1 := HRB.out k hk; omega) KL.out o8 g8 h8
        refine hK _ _ trivial ?_
        clear hK K2
        refine AnyIf.one 6 rfl (by kernel_rfl) (fun K2 hK => ?_)
        go_simp
        refine hK _ _ trivial ?_
        clear hK K2
        refine AnyIf.done (by kernel_rfl) ?_
        exact ⟨hH8, .inl ⟨rfl, by omega, _, hI8⟩⟩
      · go_simp
        gi_wp2_with (refine ⟨trivial, ?_⟩; gi_at_call 46; refine (CallsIn.inRound l (callsIn_wide.2 HCK.out)).mono ?_; rintro _ w9 ⟨⟨p9, q9, rfl, l9, mp9, mq9⟩, k9⟩)
        obtain ⟨b1, m1, d1, rfl⟩ := l9.key.sl
        obtain ⟨b2, m2, d2, rfl⟩ := l9.non.sl
        refine hK _ _ trivial ?_
        clear hK K2
        refine AnyIf.two 0 4 rfl rfl (by kernel_rfl) (fun K2 hK => ?_) (fun K2 hK => ?_)
        · have cd9 : w9.cell? ⟨w.heap.size + 4, 0, none⟩ = some o := k9.cell cd
          go_simp
          refine hK _ _ trivial ?_
          clear hK K2
          refine AnyIf.one 4 rfl (by kernel_rfl) (fun K2 hK => ?_)
          go_simp
          refine hK _ _ trivial ?_
          clear hK K2
          refine AnyIf.one 5 rfl (by kernel_rfl) (fun K2 hK => ?_)
          rw [if_pos (by rfl)]
          have KL : Hid (Kp A (w9.alloc (.cells #[.int .i64 ((M : Int) + (i : Int)), .slice b1 m1 d1, .slice b2 m2 d2] 43))) := ((Kp.refl A).drew.trans k9).alloc _
          have hav : ∀ g, (some g = o.ownBlock ∨ ((Y g ∧ ¬ leadsA #[.int .i64 ((M : Int) + (i : Int)), .slice a9 n9 c9] g) ∨ g < w.heap.size + 6)) → g < A.drew.heap.size := fun g hg => by
            show g < A.heap.size
            rcases hg with h1 | h1 | h1
            · exact (HI.out.row.lt g h1.symm).2
            · exact (HYB.out g h1.1).2
            · have := HI.out.sz; omega
          have HLIT : SE shLk (fun g => some g = o.ownBlock ∨ ((Y g ∧ ¬ leadsA #[.int .i64 ((M : Int) + (i : Int)), .slice a9 n9 c9] g) ∨ g < w.heap.size + 6)) (w9.alloc (.cells #[.int .i64 ((M : Int) + (i : Int)), .slice b1 m1 d1, .slice b2 m2 d2] 43)) (.slice (some ⟨w9.heap.size, 0, none⟩) 1 1) [lockB (onB SB M i) (M + i)] :=
            SE.litY (S := shLk) 43 ⟨_, _, by rw [HLP.out], ⟨l9.key, mp9.free hav⟩, ⟨l9.non, mq9.free hav⟩⟩ rfl
          have HROW : GZ shLk 43 (fun g => (Y g ∧ ¬ leadsA #[.int .i64 ((M : Int) + (i : Int)), .slice a9 n9 c9] g) ∨ g < w.heap.size + 6) (w9.alloc (.cells #[.int .i64 ((M : Int) + (i : Int)), .slice b1 m1 d1, .slice b2 m2 d2] 43)) (w.heap.size + 6) o (passB SB M i) := (HI.out.row.solidly fun g hg => .inr (.inl (hg.imp And.left id))).kp KL.out
          refine wpIn_append_z1 (S := shLk) lkKc _ _ rfl (w.heap.size + 6) o (passB SB M i) HROW _ (lockB (onB SB M i) (M + i)) HLIT HLEN.out (Nat.le_trans HI.out.sz KL.out.size) rfl rfl ?_
          intro v' w8 o8 g8 h8
          rw [HPS.out] at o8
          obtain ⟨a8, n8, c8, rfl⟩ := SE.sl o8.gl
          obtain ⟨fz, cx, hI8, hH8⟩ := HI.out.next (R := R) HYB.out (fun k hk => hk.1) (fun k hk => by have h1 := HRB.out k hk; omega) KL.out o8 g8 h8
          refine hK _ _ trivial ?_
          clear hK K2
          refine AnyIf.one 6 rfl (by kernel_rfl) (fun K2 hK => ?_)
          go_simp
          refine hK _ _ trivial ?_
          clear hK K2
          refine AnyIf.done (by kernel_rfl) ?_
          exact ⟨hH8, .inl ⟨rfl, by omega, _, hI8⟩⟩
        · go_simp
          refine hK _ _ trivial ?_
          clear hK K2
          have cd9 : (w9.alloc (.cells #[.int .i64 ((M : Int) + (i : Int)), .slice b1 m1 d1, .slice b2 m2 d2] 43)).cell? ⟨w.heap.size + 4, 0, none⟩ = some o := ((Kp.refl w9).alloc _).cell (k9.cell cd)
          refine AnyIf.one 0 rfl (by kernel_rfl) (fun K2 hK => ?_)
          go_simp
          refine hK _ _ trivial ?_
          clear hK K2
          refine AnyIf.one 5 rfl (by kernel_rfl) (fun K2 hK => ?_)
          rw [if_pos (by rfl)]
          have KL : Hid (Kp A (w9.alloc (.cells #[.int .i64 ((M : Int) + (i : Int)), .slice b1 m1 d1, .slice b2 m2 d2] 43))) := ((Kp.refl A).drew.trans k9).alloc _
          have hav : ∀ g, (some g = o.ownBlock ∨ ((Y g ∧ ¬ leadsA #[.int .i64 ((M : Int) + (i : Int)), .slice a9 n9 c9] g) ∨ g < w.heap.size + 6)) → g < A.drew.heap.size := fun g hg => by
            show g < A.heap.size
            rcases hg with h1 | h1 | h1
            · exact (HI.out.row.lt g h1.symm).2
            · exact (HYB.out g h1.1).2
            · have := HI.out.sz; omega
          have HLIT : SE shLk (fun g => some g = o.ownBlock ∨ ((Y g ∧ ¬ leadsA #[.int .i64 ((M : Int) + (i : Int)), .slice a9 n9 c9] g) ∨ g < w.heap.size + 6)) (w9.alloc (.cells #[.int .i64 ((M : Int) + (i : Int)), .slice b1 m1 d1, .slice b2 m2 d2] 43)) (.slice (some ⟨w9.heap.size, 0, none⟩) 1 1) [lockB (onB SB M i) (M + i)] :=
            SE.litY (S := shLk) 43 ⟨_, _, by rw [HLP.out], ⟨l9.key, mp9.free hav⟩, ⟨l9.non, mq9.free hav⟩⟩ rfl
          have HROW : GZ shLk 43 (fun g => (Y g ∧ ¬ leadsA #[.int .i64 ((M : Int) + (i : Int)), .slice a9 n9 c9] g) ∨ g < w.heap.size + 6) (w9.alloc (.cells #[.int .i64 ((M : Int) + (i : Int)), .slice b1 m1 d1, .slice b2 m2 d2] 43)) (w.heap.size + 6) o (passB SB M i) := (HI.out.row.solidly fun g hg => .inr (.inl (hg.imp And.left id))).kp KL.out
          refine wpIn_append_z1 (S := shLk) lkKc _ _ rfl (w.heap.size + 6) o (passB SB M i) HROW _ (lockB (onB SB M i) (M + i)) HLIT HLEN.out (Nat.le_trans HI.out.sz KL.out.size) rfl rfl ?_
          intro v' w8 o8 g8 h8
          rw [HPS.out] at o8
          obtain ⟨a8, n8, c8, rfl⟩ := SE.sl o8.gl
          obtain ⟨fz, cx, hI8, hH8⟩ := HI.out.next (R := R) HYB.out (fun k hk => hk.1) (fun k hk => by have h1 := HRB.out k hk; omega) KL.out o8 g8 h8
          refine hK _ _ trivial ?_
          clear hK K2
          refine AnyIf.one 6 rfl (by kernel_rfl) (fun K2 hK => ?_)
          go_simp
          refine hK _ _ trivial ?_
          clear hK K2
          refine AnyIf.done (by kernel_rfl) ?_
          exact ⟨hH8, .inl ⟨rfl, by omega, _, hI8⟩⟩
    · obtain rfl : i = n + 1 := by omega
      have i3 : (M : Int) + (n : Int) < (M : Int) + ((n + 1 : Nat) : Int) := by omega
      have HIO := Lib.hid (HI.out.left (R := R) (Y' := fun k => Y k ∧ ¬ leadsA #[.int .i64 ((M : Int) + ((n + 1 : Nat) : Int)), .slice a9 n9 c9] k) HYB.out HRD.out (fun k hk => (HLU.out k hk).imp id (HVT.out k)) (fun k hk => ⟨hk.1, fun h => hk.2 (leadsA_two.2 h)⟩) (fun k hk => by have h1 := HRB.out k hk; omega) (p := (M : Int) + ((n : Int) + 1)) (by omega))
      gi_wp2
      exact ⟨HIO.out.2, .inr ⟨_, rfl, rfl, _, _, HIO.out.1⟩⟩
  case done => rintro D Y W hD hYD hYb ⟨h, _⟩ hd; omega
  case stop =>
    rintro D e i Y W hD hYD hYb hi ⟨rfl, o, u, hO⟩ hd
    rename_i Qp Kk hKk
    obtain ⟨ao, co, rfl, po, so⟩ := SE.shape hO.st.row.gl
    have hpl := passB_length SB M (n + 1)
    obtain ⟨bo, oo, rfl, _, _⟩ := SE.at hO.st.row.gl (by omega)
    have HOU := Lib.hid hO
    obtain ⟨N1, hN1⟩ : ∃ N1, (passB SB M (n + 1)).length = N1 := ⟨_, rfl⟩
    rw [hN1] at hpl po HOU
    have c6 := HOU.out.st.box.cell 0
    have c2' := HOU.out.st.ch.cell 2
    simp only [List.getElem?_toArray, List.getElem?_cons_zero, List.getElem?_cons_succ] at c6 c2'
    have HD := Lib.hid hd
    have i1 : IntKind.i64.wrap ((N1 : Int) - 1) = (n : Int) := by rw [IntWalk.i64_in _ (by omega)]; omega
    have i2 : (n : Int) ≤ (co : Int) := by omega
    have hrow := HOU.out.st.row
    have hpre : SZ shLk (fun g => Z g ∨ inB13 w.heap.size g) W (.slice (some ⟨bo, oo, none⟩) n co) (passB SB M n) := by
      have h1 := SE.pre (hrow.solidly (Z' := fun g => Z g ∨ inB13 w.heap.size g) fun g hg => .inr (.inl (.inr (by rcases hg with h1 | h1; (have := HZZ.out _ h1; omega); exact h1.2)))).se13 n (by omega)
      have h2 : (passB SB M (n + 1)).take n = passB SB M n := by
        show (passB SB M n ++ [_]).take n = _
        rw [List.take_left' (passB_length SB M n)]
      rw [h2] at h1
      refine ⟨h1, fun x m d e h0 hz => ?_⟩
      have h3 := (hrow.lt bo rfl).1
      simp only [Value.slice.injEq] at e
      have h4 := e.1
      simp only [Option.some.injEq] at h4
      rw [← h4] at hz
      rcases hz with h5 | h5
      · have := HZZ.out _ h5; show False; simp at this; omega
      · have := h5.2; simp at this; omega
    have HPRE := Lib.hid hpre
    clear hO hpre hd
    go_wp2_with fail
    have HWS := Lib.hid (HWI.out W.drew _ _ (passB SB M n) (HSP.out _ (HOU.out.st.kp.trans (Kp.refl W).drew)) (HPRE.out.kp13 (Kp.refl W).drew) HOU.out.st.sz (by rw [passB_length]; omega))
    have d6 : W.drew.cell? ⟨w.heap.size + 4, 0, none⟩ = some (.slice (some ⟨bo, oo, none⟩) N1 co) := c6
    have d2 : W.drew.cell? ⟨w.heap.size, 2, none⟩ = some (.slice a2 n2 c2) := c2'
    refine later13 (Q := ?QL) (F := fun a9 c9 w9 => Bx w9 w.heap.size 25 #[.int .i64 ((M : Int) + (n : Int) + 1), u, .slice a2 n2 c2] ∧ Kp W w9 ∧ SZ shLk (fun g => Z g ∨ inB13 w.heap.size g) w9 (.slice a9 (lastL (SP ++ passB SB M n)).length c9) (lastL (SP ++ passB SB M n))) ?ways ?rest
    case ways =>
      intro key
      refine wp_calm13 ?_
      first | (go_region_with (first | (go_at_call 47; refine HWS.out.mono ?_; rintro _ w9 ⟨⟨v9, rfl, l9⟩, k9⟩; obtain ⟨a9, c9, rfl, p9, s9⟩ := SE.shape l9.1; have B9 : Hid (Bx w9 w.heap.size 25 #[.int .i64 ((M : Int) + (n : Int) + 1), u, .slice a2 n2 c2]) := (HOU.out.st.ch.kp (Kp.refl W).drew).kp k9; have K9 : Hid (Kp W w9) := (Kp.refl W).drew.trans k9; have L9 := Lib.hid l9; have e2 := B9.out.cell 2; have f2 := B9.out.frozen 2; simp only [List.getElem?_toArray, List.getElem?_cons_zero, List.getElem?_cons_succ] at e2; clear l9 k9))) | fail
      all_goals exact key.out a9 c9 w9 ⟨B9.out, K9.out, L9.out⟩
    case rest =>
      rintro a9 c9 w9 ⟨b9, k9, l9⟩
      obtain ⟨LN, hLN⟩ : ∃ x, (lastL (SP ++ passB SB M n)).length = x := ⟨_, rfl⟩
      rw [hLN] at l9 ⊢
      obtain ⟨w10, hw10⟩ : ∃ x, w9.setCell ⟨w.heap.size, 2, none⟩ (.slice a9 LN c9) = x := ⟨_, rfl⟩
      have b10 : Bx w10 w.heap.size 25 #[.int .i64 ((M : Int) + (n : Int) + 1), u, .slice a9 LN c9] := by rw [← hw10]; exact b9.set 2 _
      have g10 : w9.grownBy w10 (some w.heap.size) := by rw [← hw10]; exact grown_set9 w9 w.heap.size 0 [.slice a9 LN c9] 2
      have k10 : Kp w w10 := by rw [← hw10]; exact (HOU.out.st.kp.trans k9).setNew (Nat.le_refl _) _
      have r2 := (HOU.out.st.r1.kp k9).grow g10 (by omega)
      have r3 := (HOU.out.st.r2.kp k9).grow g10 (by omega)
      have hbx := (HOU.out.st.box.kp k9).grow g10 (by omega)
      have hst10 : Step (fun g => Z g ∨ inB13 w.heap.size g) w9 w10 := (grown_step g10).mono fun g hg => .inr (by cases hg; exact ⟨Nat.le_refl _, by omega⟩)
      have l10 := l9.step hst10
      have u10 : Rd w10 u (onB SB M (n + 1)) := (HOU.out.rd.kp k9).stepF (grown_step g10) fun x m d e h0 hk => (HOU.out.far _ ⟨x, m, d, e, h0, rfl⟩).2 (by have h7 : x.block = w.heap.size := Option.some.inj hk; exact ⟨by omega, by omega⟩)
      have hse : SE shLk (fun g => Z g ∨ inB13 w.heap.size g) W (.slice (some ⟨bo, oo, none⟩) N1 co) (passB SB M (n + 1)) := (hrow.solidly (Z' := fun g => Z g ∨ inB13 w.heap.size g) fun g hg => .inr (.inl (.inr (by rcases hg with h1 | h1; (have := HZZ.out _ h1; omega); exact h1.2)))).se13
      obtain ⟨b', o', eb, _, hcs⟩ := SE.at hse (by omega)
      simp only [Option.some.injEq, Addr.mk.injEq, and_true] at eb
      obtain ⟨rfl, rfl⟩ := eb
      obtain ⟨vs, v1, v2⟩ := hcs n (lockB (onB SB M n) (M + n)) (passB_get SB M (n + 1) n (by omega))
      obtain ⟨p, q, m0, m1, m2, rp, rq⟩ := lk_at v1 v2
      have hbo := (hrow.lt bo rfl).1
      have keep : ∀ {o : Nat} {v : Value}, W.cell? ⟨bo, o, none⟩ = some v → w10.cell? ⟨bo, o, none⟩ = some v := fun h => cell_grown (k9.cell h) g10 (by omega)
      have m0' := keep m0
      have m1' := keep m1
      have m2' := keep m2
      have rp10 := (rp.kp13 k9).step hst10
      have rq10 := (rq.kp13 k9).step hst10
      have hd10 : w10.heap[D]? = some (.deferred (some [])) := by
        have h1 := (k9.block D (Array.getElem?_eq_some_iff.1 HD.out).1).trans HD.out
        exact (g10.block D (Array.getElem?_eq_some_iff.1 h1).1 (fun e => by cases e; have := HZ.out; omega)).trans h1
      have HPP : Hid ((lockB (onB SB M n) (M + n)).pos = (M : Int) + (n : Int)) := by show ((M + n : Nat) : Int) = _; omega
      rw [HPP.out] at m0'
      obtain ⟨ap, np, cp, rfl⟩ := rp.1.sl
      obtain ⟨aq, nq, cq, rfl⟩ := rq.1.sl
      have e0 := b10.cell 0
      have e1 := b10.cell 1
      have e2 := b10.cell 2
      have e6 := hbx.cell 0
      simp only [List.getElem?_toArray, List.getElem?_cons_zero, List.getElem?_cons_succ] at e0 e1 e2 e6
      obtain ⟨au, nu, cu, rfl⟩ := u10.sl
      have i3 : (n : Int) < (N1 : Int) := by omega
      clear hcs v1 v2 m0 m1 m2 keep
      go_wp2_with fail
      rw [hw10]
      have x0 := r2.cell 0
      have x1 := r2.cell 1
      have x2 := r2.cell 2
      have xf := r2.there
      have x3 := (xf 0 (by decide)).2
      have x4 := (xf 1 (by decide)).2
      have x5 := (xf 2 (by decide)).2
      rw [Nat.zero_add] at x3 x4 x5
      simp only [List.getElem?_toArray, List.getElem?_cons_zero, List.getElem?_cons_succ] at x0 x1 x2
      have i4 : (n : Int) < (n : Int) + 1 := by omega
      obtain ⟨ba, ga, ka⟩ := stored3 r2 (.int .i64 ((M : Int) + (n : Int) + 1)) (.slice au nu cu) (.slice a9 LN c9)
      obtain ⟨wA, hwA⟩ : ∃ x, ((w10.setCell ⟨w.heap.size + 2, 0, none⟩ (.int .i64 ((M : Int) + (n : Int) + 1))).setCell ⟨w.heap.size + 2, 1, none⟩ (.slice au nu cu)).setCell ⟨w.heap.size + 2, 2, none⟩ (.slice a9 LN c9) = x := ⟨_, rfl⟩
      rw [hwA] at ba ga ka
      have q3A : Bx wA (w.heap.size + 3) 43 #[.int .i64 0, .slice none 0 0, .slice none 0 0] := r3.grow ga (by omega)
      obtain ⟨bb, gb, kb⟩ := stored3 q3A (.int .i64 ((M : Int) + (n : Int))) (.slice ap np cp) (.slice aq nq cq)
      obtain ⟨wB, hwB⟩ : ∃ x, ((wA.setCell ⟨w.heap.size + 3, 0, none⟩ (.int .i64 ((M : Int) + (n : Int)))).setCell ⟨w.heap.size + 3, 1, none⟩ (.slice ap np cp)).setCell ⟨w.heap.size + 3, 2, none⟩ (.slice aq nq cq) = x := ⟨_, rfl⟩
      rw [hwB] at bb gb kb
      have HS : Hid (∀ W' : World, Bx W' w.heap.size 25 #[.int .i64 ((M : Int) + (n : Int) + 1), .slice au nu cu, .slice a9 LN c9] → Bx W' (w.heap.size + 4) 23 #[.slice (some ⟨bo, oo, none⟩) N1 co] → (W'.cell? ⟨bo, oo + n * 3, none⟩ = some (.int .i64 ((M : Int) + (n : Int))) ∧ W'.cell? ⟨bo, oo + n * 3 + 1, none⟩ = some (.slice ap np cp) ∧ W'.cell? ⟨bo, oo + n * 3 + 2, none⟩ = some (.slice aq nq cq)) →
        W'.drew.cell? ⟨w.heap.size, 0, none⟩ = some (.int .i64 ((M : Int) + (n : Int) + 1)) ∧ W'.drew.cell? ⟨w.heap.size, 1, none⟩ = some (.slice au nu cu) ∧ W'.drew.cell? ⟨w.heap.size, 2, none⟩ = some (.slice a9 LN c9) ∧ W'.drew.cell? ⟨w.heap.size + 4, 0, none⟩ = some (.slice (some ⟨bo, oo, none⟩) N1 co) ∧ W'.drew.cell? ⟨bo, oo + n * 3, none⟩ = some (.int .i64 ((M : Int) + (n : Int))) ∧ W'.drew.cell? ⟨bo, oo + n * 3 + 1, none⟩ = some (.slice ap np cp) ∧ W'.drew.cell? ⟨bo, oo + n * 3 + 2, none⟩ = some (.slice aq nq cq)) := fun W' h1 h2 h3 => ⟨h1.cell 0, h1.cell 1, h1.cell 2, h2.cell 0, h3.1, h3.2.1, h3.2.2⟩
      have S0 := Lib.hid (HS.out w10 b10 hbx ⟨m0', m1', m2'⟩)
      have b10A := b10.grow ga (by omega)
      have hbxA := hbx.grow ga (by omega)
      have dA := And.intro (cell_grown m0' ga (by omega)) (And.intro (cell_grown m1' ga (by omega)) (cell_grown m2' ga (by omega)))
      have S1 := Lib.hid (HS.out wA b10A hbxA dA)
      have S2 := Lib.hid (HS.out _ (b10A.grow gb (by omega)) (hbxA.grow gb (by omega)) ⟨cell_grown dA.1 gb (by omega), cell_grown dA.2.1 gb (by omega), cell_grown dA.2.2 gb (by omega)⟩)
      have z0 := q3A.cell 0
      have z1 := q3A.cell 1
      have z2 := q3A.cell 2
      have zf := q3A.there
      have z3 := (zf 0 (by decide)).2
      have z4 := (zf 1 (by decide)).2
      have z5 := (zf 2 (by decide)).2
      rw [Nat.zero_add] at z3 z4 z5
      simp only [List.getElem?_toArray, List.getElem?_cons_zero, List.getElem?_cons_succ] at z0 z1 z2
      clear xf dA b10A hbxA zf
      refine wp_calm13 ?_
      go_region_held3 (fun W' => W'.cell? ⟨w.heap.size, 0, none⟩ = some (.int .i64 ((M : Int) + (n : Int) + 1)) ∧ W'.cell? ⟨w.heap.size, 1, none⟩ = some (.slice au nu cu) ∧ W'.cell? ⟨w.heap.size, 2, none⟩ = some (.slice a9 LN c9) ∧ W'.cell? ⟨w.heap.size + 4, 0, none⟩ = some (.slice (some ⟨bo, oo, none⟩) N1 co) ∧ W'.cell? ⟨bo, oo + n * 3, none⟩ = some (.int .i64 ((M : Int) + (n : Int))) ∧ W'.cell? ⟨bo, oo + n * 3 + 1, none⟩ = some (.slice ap np cp) ∧ W'.cell? ⟨bo, oo + n * 3 + 2, none⟩ = some (.slice aq nq cq))
        (first | (with_reducible exact S2.out) | (with_reducible exact S1.out) | exact S0.out)
        (first | fail)
      have sA : Step (fun g => Z g ∨ inB13 w.heap.size g) w10 wA := (grown_step ga).mono fun g hg => .inr (by have h7 : g = w.heap.size + 2 := Option.some.inj hg; exact ⟨by omega, by omega⟩)
      have sB : Step (fun g => Z g ∨ inB13 w.heap.size g) wA wB := (grown_step gb).mono fun g hg => .inr (by have h7 : g = w.heap.size + 3 := Option.some.inj hg; exact ⟨by omega, by omega⟩)
      have lB : SZ shLk Z wB (.slice a9 LN c9) (lastL (SP ++ passB SB M n)) := ((l10.step sA).step sB).mono fun g hg => .inl hg
      have uB : Rd wB (.slice au nu cu) (onB SB M (n + 1)) := (u10.stepF (grown_step ga) fun x m d e h0 hk => (HOU.out.far _ ⟨x, m, d, e, h0, rfl⟩).2 (by have h7 : x.block = w.heap.size + 2 := Option.some.inj hk; exact ⟨by omega, by omega⟩)).stepF (grown_step gb) fun x m d e h0 hk => (HOU.out.far _ ⟨x, m, d, e, h0, rfl⟩).2 (by have h7 : x.block = w.heap.size + 3 := Option.some.inj hk; exact ⟨by omega, by omega⟩)
      have pB := (rp10.step sA).step sB
      have qB := (rq10.step sA).step sB
      have baB := ba.grow gb (by omega)
      have kB : Kp w wB := kb w (ka w k10 (by omega)) (by omega)
      have dA : wA.heap[D]? = some (.deferred (some [])) := (ga.block D (Array.getElem?_eq_some_iff.1 hd10).1 (fun e => by have h7 : D = w.heap.size + 2 := Option.some.inj e; have := HZ.out; omega)).trans hd10
      have dB : wB.drew.heap[D]? = some (.deferred (some [])) := (gb.block D (Array.getElem?_eq_some_iff.1 dA).1 (fun e => by have h7 : D = w.heap.size + 3 := Option.some.inj e; have := HZ.out; omega)).trans dA
      have HF := Lib.hid (And.intro lB (And.intro uB (And.intro pB (And.intro qB (And.intro baB (And.intro bb (And.intro kB dB)))))))
      have hDlt : D ≠ w.heap.size + 2 ∧ D ≠ w.heap.size + 3 := by have := HZ.out; omega
      clear S0 S1 S2 HS sA sB lB uB pB qB baB bb kB dA dB x0 x1 x2 x3 x4 x5 z0 z1 z2 z3 z4 z5 e0 e1 e2 e6 m0' m1' m2' ga gb ka kb ba hwA hwB hw10 b10 r2 r3 hbx u10 rp10 rq10 rp rq l9 l10 hst10 q3A
      all_goals (
        go_wp2_with fail
        obtain ⟨lB, uB, pB, qB, baB, bB, kB, dB⟩ := HF.out
        have hst : Step (fun k => k = D) wB.drew (wB.drew.putObj D (.deferred none)) := (Step.refl _ _).putObj _ _ (.inr rfl)
        have hkd : Kp wB wB.drew := (Kp.refl wB).drew
        refine ⟨by simp, .inl ⟨_, _, rfl, run_takeDeferred dB, ?_⟩⟩
        refine ⟨_, results_cc rfl _ _ (w.heap.size + 2) (w.heap.size + 3) _ _ _ _ (0, 0) (0, 0) _ _ rfl ((hst.block _ (Array.getElem?_eq_some_iff.1 (baB.kp hkd)).1 (fun e => hDlt.1 e.symm)).trans (baB.kp hkd)) rfl ((hst.block _ (Array.getElem?_eq_some_iff.1 (bB.kp hkd)).1 (fun e => hDlt.2 e.symm)).trans (bB.kp hkd)) Tryz.underlying25 rfl infoCh3c Tryz.underlying43 rfl infoLk3c, ⟨.slice au nu cu, .slice a9 LN c9, .slice ap np cp, .slice aq nq cq, rfl, (uB.kp hkd).gone13 dB rfl hst, (lB.kp13 hkd).gone13 dB rfl hst, ⟨(pB.1.kp hkd).gone13 dB rfl hst, (qB.1.kp hkd).gone13 dB rfl hst⟩⟩, Below.trans (kB.trans hkd) (hst.below (kB.trans hkd).size (fun k hk => by have := HZ.out; omega))⟩)
end Go.Proofs.YtigpgcjbpoaclaaGreatDoor

import Derived.Test.YtigpgcjbpoaclaaGreatDoorB22
import Derived.Test.YtigpgcjbpoaclaaGreatDoorB34
import Derived.Test.YtigpgcjbpoaclaaGreatDoorB35
import Derived.Test.YtigpgcjbpoaclaaGreatDoorB36
import Derived.Test.YtigpgcjbpoaclaaGreatDoorB38
import Derived.Test.YtigpgcjbpoaclaaGreatDoorB42
import Derived.Test.YtigpgcjbpoaclaaGreatDoorB44
import Derived.Maps.AppendAt
set_option linter.unusedVariables false
set_option linter.unusedSimpArgs false
namespace Go.Proofs.YtigpgcjbpoaclaaGreatDoor
open Go.RowKit
def zc3 : Array Value := #[.int .i64 0, .slice none 0 0, .slice none 0 0]
theorem keep_two (w : World) (T1 T2 : TypeId) (a b : Array Value) : Bx ((w.alloc (.cells a T1)).alloc (.cells b T2)) w.heap.size T1 a ∧ Bx ((w.alloc (.cells a T1)).alloc (.cells b T2)) (w.heap.size + 1) T2 b ∧ Kp w ((w.alloc (.cells a T1)).alloc (.cells b T2)) := by
  refine ⟨(Bx.new w _ _).kp ((Kp.refl _).alloc _), ?_, ((Kp.refl _).alloc _).alloc _⟩
  have := Bx.new (w.alloc (.cells a T1)) T2 b
  rwa [World.size_alloc] at this
theorem cells3 {w : World} {g : Nat} {T : TypeId} {a b c : Value} (h : Bx w g T #[a, b, c]) : w.cell? ⟨g, 0, none⟩ = some a ∧ w.cell? ⟨g, 1, none⟩ = some b ∧ w.cell? ⟨g, 2, none⟩ = some c := ⟨h.cell 0, h.cell 1, h.cell 2⟩
structure Later7 (p : Prop) : Prop where
  out : p
theorem later7 {p : Prop} {F Q : Nat → Nat → Value → Value → Value → Value → World → Prop} (ways : Later7 (∀ g g' x y p q W, F g g' x y p q W → Q g g' x y p q W) → p) (rest : ∀ g g' x y p q W, F g g' x y p q W → Q g g' x y p q W) : p := ways ⟨rest⟩
structure CB (w : World) (g : Nat) (c : Ch) : Prop where
  mk ::
  ex : ∃ a1 n1 c1 a2 c2, Bx w g 25 #[.int .i64 c.next, .slice a1 n1 c1, .slice a2 c.spare.length c2] ∧ CIn w (.slice a1 n1 c1) (.slice a2 c.spare.length c2) c
theorem CIn.shapes {w : World} {x y : Value} {c : Ch} (h : CIn w x y c) : ∃ a1 n1 c1 a2 c2, x = .slice a1 n1 c1 ∧ y = .slice a2 c.spare.length c2 := by
  obtain ⟨a1, n1, c1, rfl⟩ := h.sec.sl
  obtain ⟨a2, c2, rfl, _, _⟩ := h.spare.shape
  exact ⟨_, _, _, _, _, rfl, rfl⟩
theorem LIn.shapes {w : World} {x y : Value} {k : Lk} (h : LIn w x y k) : ∃ a1 c1 a2 c2, x = .slice a1 k.key.length c1 ∧ y = .slice a2 k.non.length c2 := by
  obtain ⟨a1, c1, rfl, _, _⟩ := h.key.shape
  obtain ⟨a2, c2, rfl, _, _⟩ := h.non.shape
  exact ⟨_, _, _, _, rfl, rfl⟩
theorem RZ.kept13 {Z : Nat → Prop} {w w' : World} {g : Nat} {T : TypeId} {n : Int} {a1 a2 : Option Addr} {m1 c1 m2 c2 : Nat} {v : Value} {l : List UInt8} (h : RZ Z w v l) (hb : Bx w g T #[.int .i64 n, .slice a1 m1 c1, .slice a2 m2 c2]) (hg : w.grownBy w' (some g)) : RZ Z w' v l := ⟨h.1.kept13 hb hg, h.2⟩
theorem SZ.kept13 {Z : Nat → Prop} {w w' : World} {g : Nat} {T : TypeId} {n : Int} {a1 a2 : Option Addr} {c1 c2 : Nat} {v : Value} {l : List Lk} (h : SZ shLk Z w v l) (hl : ∀ x ∈ l, x.key.length ≠ 0) (hb : Bx w g T #[.int .i64 n, .slice a1 0 c1, .slice a2 0 c2]) (hg : w.grownBy w' (some g)) : SZ shLk Z w' v l := by
  obtain ⟨⟨a, c, e, h1, h2, h3, h4⟩, hf⟩ := h
  refine ⟨⟨a, c, e, h1, h2, h3, fun h0 => ?_⟩, hf⟩
  obtain ⟨b, off, ha, hbs, hi⟩ := h4 h0
  refine ⟨b, off, ha, Nat.lt_of_lt_of_le hbs hg.size, fun i x hx => ?_⟩
  obtain ⟨vs, r1, p, q, rfl, k1, k2⟩ := hi i x hx
  have hx0 := hl x (List.mem_of_getElem? hx)
  have hne : b ≠ g := by
    intro hbg
    subst hbg
    have d1 : w.cell? ⟨b, off + i * shLk.k + 1, none⟩ = some p := r1 1 _ rfl
    obtain ⟨a', c', e', _⟩ := k1.1
    generalize off + i * shLk.k + 1 = o at d1
    match o, d1 with
    | 0, d1 => rw [hb.cell 0] at d1; simp at d1; rw [← d1] at e'; cases e'
    | 1, d1 => rw [hb.cell 1] at d1; simp at d1; rw [← d1] at e'; simp only [Value.slice.injEq] at e'; exact hx0 e'.2.1.symm
    | 2, d1 => rw [hb.cell 2] at d1; simp at d1; rw [← d1] at e'; simp only [Value.slice.injEq] at e'; exact hx0 e'.2.1.symm
    | o + 3, d1 =>
      unfold World.cell? at d1
      have hb' : w.heap[b]? = some (.cells #[.int .i64 n, .slice a1 0 c1, .slice a2 0 c2] T (0, 0)) := hb
      rw [hb'] at d1
      dsimp only at d1
      split at d1
      · cases d1
      · simp at d1
  exact ⟨[.int .i64 x.pos, p, q], fun j z hz => cell_grown (r1 j z hz) hg hne, p, q, rfl, k1.kept13 hb hg, k2.kept13 hb hg⟩
structure CZ (Z : Nat → Prop) (w : World) (x y : Value) (c : Ch) : Prop where
  mk ::
  sec : RZ Z w x c.sec
  spare : SZ shLk Z w y c.spare
section
variable {Z Z' : Nat → Prop} {w w' : World} {x y : Value} {c : Ch}
theorem CZ.cin (h : CZ Z w x y c) : CIn w x y c := ⟨h.sec.1, h.spare.1.mono fun _ hg => hg.elim⟩
theorem CZ.kp (h : CZ Z w x y c) (k : Kp w w') : CZ Z w' x y c := ⟨h.sec.step (Step.of_kp k), h.spare.step (Step.of_kp k)⟩
theorem CZ.step (h : CZ Z w x y c) (k : Step Z w w') : CZ Z w' x y c := ⟨h.sec.step k, h.spare.step k⟩
theorem CZ.mono (h : CZ Z w x y c) (hz : ∀ g, Z' g → Z g) : CZ Z' w x y c := ⟨h.sec.mono hz, h.spare.mono hz⟩
theorem CZ.olds (h : CZ Z w x y c) : CZ (fun g => Z g ∨ w.heap.size ≤ g) w x y c := ⟨h.sec.solid fun g hg => hg.imp id fun hg hs => by have := hs.lt; omega, SZ.olds13 h.spare⟩
theorem CIn.cz (h : CIn w x y c) : CZ (fun g => w.heap.size ≤ g) w x y c := ⟨⟨h.sec, h.sec.free_old fun g hg => hg⟩, GL.old13 h.spare⟩
theorem CZ.put (h : CZ Z w x y c) {g : Nat} (hg : w.grownBy w' (some g)) (hz : Z g) : CZ Z w' x y c := h.step ((grown_step hg).mono fun k hk => by have h7 : k = g := Option.some.inj hk; rw [h7]; exact hz)
theorem CZ.moved {v v' : Value} (h : CZ (fun g => some g = v.ownBlock ∨ Z g) w x y c) (hg : w.grownBy w' v.ownBlock) (hk : v'.ownBlock = v.ownBlock ∨ v'.ownBlock = some w.heap.size) : CZ (fun g => some g = v'.ownBlock ∨ Z g) w' x y c := by
  refine (h.olds.step ⟨hg.os, hg.tape, hg.output, hg.size, fun k hk hn => hg.block k hk (fun e => hn (.inl (.inl e)))⟩).mono fun g e => ?_
  rcases e with e | e
  · rcases hk with hk | hk
    · exact .inl (.inl (by rw [← hk]; exact e))
    · rw [hk] at e
      simp only [Option.some.injEq] at e
      exact .inr (by omega)
  · exact .inl (.inr e)
theorem CZ.shapes (h : CZ Z w x y c) : ∃ a1 n1 c1 a2 c2, x = .slice a1 n1 c1 ∧ y = .slice a2 c.spare.length c2 := h.cin.shapes
end
theorem Bx.moved {w w' : World} {b : Nat} {T : TypeId} {cs : Array Value} {v : Value} (h : Bx w b T cs) (hg : w.grownBy w' v.ownBlock) (hn : ∀ k, v.ownBlock = some k → b ≠ k) : Bx w' b T cs :=
  (hg.block b (Array.getElem?_eq_some_iff.1 h).1 (fun e => hn b e.symm rfl)).trans h
theorem intS1 : S1 Tryz.prog 50 3 := S1.mk' (z := .int .i64 0) (b := 8) Tryz.underlying50 (by kernel_rfl) (by decide) rfl
theorem wpList_append_iat {P : Program} {w : World} {t e : TypeId} (S : S1 P t e) {ops : Array Oper} {rest : List Oper} {o : Oper} {a : Act} {Q : Exit → Act → World → Prop} (hgd : o.guard = none) (s x : Operand)
    (ho : o.op = .call { callee := .builtin .append, args := #[s, x], argTypes := #[t, t] })
    (B : Nat) (v : Value) (l : List Int) (hs : a.eval s = v) (hown : OI e w B v l) (ad : Addr) (n : Int) (hx : a.eval x = .slice (some ad) 1 1) (hu : w.cell? (ad.add 0) = some (.int .i64 n)) (hlen : l.length + 1 ≤ 1000000) (hbase : B ≤ w.heap.size)
    (h : ∀ v' w', OI e w' B v' (l ++ [n]) → w.grownBy w' v.ownBlock → (v'.ownBlock = v.ownBlock ∨ v'.ownBlock = some w.heap.size) → wpList P ops Q rest (a.put o.dst v') w') : wpList P ops Q (o :: rest) a w := by
  obtain ⟨i, z, hi, hz, hsize, hby, hzc⟩ := S.hi
  unfold OI at hown
  rw [List.length_map] at hown
  refine wpList_append_own_at _ hgd s x t ho B e i z 1 i.bytes S.ht hi hz hsize rfl hzc (by decide) v l.length (l.map nI) hs hown ad 1 1 [.int .i64 n] hx rfl (fun j y hj => ?_) (fun y hy => ?_) (by unfold maxLen; omega) ?_ hbase
    (fun v' w' h1 h2 _ h4 => h v' w' (by unfold OI; rw [List.map_append, List.length_append, List.length_map]; exact h1) h2 h4)
  · have hj0 : j = 0 := by have := (List.getElem?_eq_some_iff.1 hj).1; simp at this; exact this
    subst hj0
    cases hj
    exact hu
  · rw [List.mem_singleton] at hy
    subst hy
    rfl
  · have := Nat.mul_le_mul (show l.length + 1 ≤ 1000000 from hlen) hby
    omega
theorem OI.kept {e : TypeId} {w w' : World} {B : Nat} {v : Value} {l : List Int} {row : Option Nat} (h : OI e w B v l) (hg : w.grownBy w' row) (hne : v.ownBlock = none ∨ v.ownBlock ≠ row) : OI e w' B v l := World.ownsRow.kept h hg hne
theorem OI.keptAt {e : TypeId} {w w' : World} {B g : Nat} {v : Value} {l : List Int} (h : OI e w B v l) (hg : w.grownBy w' (some g)) (hn : g < B) : OI e w' B v l := by
  refine h.kept hg ?_
  cases hob : v.ownBlock with
  | none => exact .inl rfl
  | some k =>
    refine .inr fun e => ?_
    have h1 := (h.lt k hob).1
    have h2 : k = g := Option.some.inj e
    omega
structure LaterW (p : Prop) : Prop where
  out : p
theorem laterW {p : Prop} {F Q : World → Prop} (ways : LaterW (∀ W, F W → Q W) → p) (rest : ∀ W, F W → Q W) : p := ways ⟨rest⟩
theorem had_step {T : List Int} {A : Int} {j : Nat} (h : j < T.length) : A ∈ T.take (j + 1) ↔ A ∈ T.take j ∨ T.getD j 0 = A := by
  rw [List.take_add_one, List.getElem?_eq_getElem h, List.mem_append, List.getD_eq_getElem?_getD, List.getElem?_eq_getElem h]
  simp [eq_comm]
set_option maxRecDepth 100000 in
set_option maxHeartbeats 2000000 in
theorem onceLock_any (x0 x y v : Value) (send : List UInt8) (a : Nat) (w : World) (h : Rd w v send) (hs : send.length = 32) (ha : a < 1000) :
    Calls Tryz.prog 20 #[.agg #[x0, x, y], v, .int .i64 a] w fun e w' => (∃ p q, e = .returned (.agg #[.int .i64 a, p, q]) ∧ LIn w' p q (lockB (onB (secD send 0 0) 0 a) a)) ∧ Kp w w' := by
  obtain ⟨w1, hw1⟩ : ∃ w1, (w.alloc (.cells #[x0, x, y] 25)).alloc (.cells #[.int .i64 0, .slice none 0 0, .slice none 0 0] 43) = w1 := ⟨_, rfl⟩
  have h2 := keep_two w 25 43 #[x0, x, y] #[.int .i64 0, .slice none 0 0, .slice none 0 0]
  rw [hw1] at h2
  have hsz : w1.heap.size = w.heap.size + 2 := by rw [← hw1]; simp
  have hL : leafE send 1 0 = 0 ∧ leafR send 1 0 = secD send 0 0 := leaf_yes (send := send) (K := 0) (q := 0) hs (by omega) (by decide)
  have HLF := Lib.hid (refLeaf13_any v send 1 0 w1 (h.kp h2.2.2) (by omega) (by omega))
  rw [hL.1, hL.2] at HLF
  obtain ⟨S, hS⟩ : ∃ S, secD send 0 0 = S := ⟨_, rfl⟩
  have hSl : S.length = 32 := by rw [← hS]; exact secD_length _ _ _
  rw [hS] at HLF ⊢
  have HNX := Lib.hid (fun W u j (hj : j < a) (hr : Rd W u (onB S 0 j)) => refNext13_any u (onB S 0 j) j W hr (by rw [onB_length S 0 hSl]; omega) (by omega))
  have HLK := Lib.hid (fun W u (hr : Rd W u (onB S 0 a)) => refLock13_any u (onB S 0 a) a W hr (by rw [onB_length S 0 hSl]; omega) (by omega))
  have HS : Hid (∀ j, nxtB (onB S 0 j) j = onB S 0 (j + 1)) := fun j => by show _ = nxtB (onB S 0 j) (0 + j); rw [Nat.zero_add]
  have HB := Lib.hid h2.2.1
  have K1 := Lib.hid h2.2.2
  have HSZ := Lib.hid hsz
  have HW := Lib.hid hw1
  have H0 : Hid (onB S 0 0 = S) := rfl
  obtain ⟨a1, n1, c1, rfl⟩ := h.sl
  clear h h2 hL hw1 hsz hSl hS hs
  go_enter Tryz.func20, Tryz.ntmps20
  go_wp2_with (first | (rw [HW.out]) | fail)
  refine HLF.out.mono ?_
  rintro _ w2 ⟨⟨u2, rfl, r2, _⟩, k2⟩
  obtain ⟨p2, q2, s2, rfl⟩ := r2.sl
  have K2 := Lib.hid k2
  have R2 := Lib.hid r2
  clear r2 k2
  go_wp2_with fail
  go_loopw [7, 9] (fun s n wr => ∃ j : Nat, j ≤ a ∧ n = .int .i64 (j : Int) ∧ Rd wr s (onB S 0 j) ∧ Kp w1 wr) (fun _ n _ => a - (intOf n).toNat)
  case atStart => exact ⟨0, Nat.zero_le _, rfl, by rw [H0.out]; exact R2.out, K2.out⟩
  case round =>
    obtain ⟨j, hj, rfl, hr, hkp⟩ := hrel
    have KR := Lib.hid hkp
    have RR := Lib.hid hr
    obtain ⟨p4, q4, s4, rfl⟩ := hr.sl
    clear hr hkp
    by_cases hlt : j < a
    · have i1 : (j : Int) < (a : Int) := by omega
      have i2 : (j : Int) < 1000 := by omega
      have i3 : IntKind.i64.wrap ((j : Int) + 1) = (j : Int) + 1 := IntWalk.i64_in _ (by omega)
      have HLT := Lib.hid hlt
      go_wp2_with fail
      refine (HNX.out _ _ j HLT.out RR.out).mono ?_
      rintro _ w3 ⟨⟨u3, rfl, r3, _⟩, k3⟩
      rw [HS.out] at r3
      have K3 := Lib.hid (KR.out.trans k3)
      have R3 := Lib.hid r3
      clear r3 k3
      go_wp2_with fail
      go_roundw
      case rel => exact ⟨j + 1, HLT.out, by go_num, R3.out, K3.out⟩
      case measure => have := HLT.out; simp [intOf]; omega
    · obtain rfl : j = a := by omega
      go_wp2_with fail
      refine (HLK.out _ _ RR.out).mono ?_
      rintro _ w4 ⟨⟨p, q, rfl, l4, m4, m5⟩, k4⟩
      have hsz : w.heap.size + 2 ≤ wr.heap.size := by rw [← HSZ.out]; exact KR.out.size
      obtain ⟨a5, c5, a6, c6, rfl, rfl⟩ := l4.shapes
      have B4 := Lib.hid ((HB.out.kp KR.out).kp k4)
      have K4 := Lib.hid (K1.out.trans (KR.out.trans k4))
      have L4 := Lib.hid l4
      have M4 := Lib.hid (m4.mono hsz)
      have M5 := Lib.hid (m5.mono hsz)
      clear l4 m4 m5 k4 hsz
      go_wp2_with (refine wpList_store_row rfl rfl 43 (.tmp 6) (.tmp 29) rfl (w.heap.size + 1) 43 _ #[.int .i64 j, .slice a5 _ c5, .slice a6 _ c6] rfl rfl B4.out rfl (three_one rfl rfl rfl) infoLk3 ?_; intro w5 b5 g5 kp5)
      have K5 := kp5 _ K4.out (Nat.le_succ _)
      refine bodyPost_ret (results_cell1 rfl _ _ (w.heap.size + 1) _ _ (0, 0) _ rfl b5 Tryz.underlying43 rfl infoLk3) rfl ?_
      exact ⟨⟨_, _, rfl, L4.out.key.stepNew g5 M4.out, L4.out.non.stepNew g5 M5.out⟩, K5⟩
end Go.Proofs.YtigpgcjbpoaclaaGreatDoor

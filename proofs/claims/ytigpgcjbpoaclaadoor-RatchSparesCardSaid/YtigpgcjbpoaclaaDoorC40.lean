import Derived.Test.YtigpgcjbpoaclaaDoorC26
import Derived.Test.YtigpgcjbpoaclaaDoorC35
import Derived.Test.YtigpgcjbpoaclaaDoorC39
import Derived.Deep.RegionHeld3
set_option linter.unusedVariables false
set_option linter.unusedSimpArgs false
namespace Go.Proofs.YtigpgcjbpoaclaaDoor
open Go.RowKit
set_option maxRecDepth 100000 in
set_option maxHeartbeats 3000000 in
theorem ratchCopiedLock_any (x y : Value) (k : Lk) (w : World) (h : LIn w x y k) (hl : k.key.length ≤ 10000 ∧ k.non.length ≤ 10000) :
    Calls Tryd.prog 29 #[.agg #[.int .i64 k.pos, x, y]] w fun e w' => (∃ x' y', e = .returned (.agg #[.int .i64 k.pos, x', y']) ∧ LIn w' x' y' k ∧ Newer w.heap.size x' ∧ Newer w.heap.size y') ∧ Kp w w' := by
  have HCK := Lib.hid (fun W (hW : Kp w W) => clone_any x k.key W (h.key.kp hW) (by omega))
  have HCN := Lib.hid (fun W (hW : Kp w W) => clone_any y k.non W (h.non.kp hW) (by omega))
  have HM : Hid (∀ W x y, Rd W x k.key → Rd W y k.non → LIn W x y k) := fun W x y h1 h2 => ⟨h1, h2⟩
  obtain ⟨a1, n1, c1, rfl⟩ := h.key.sl
  obtain ⟨a2, n2, c2, rfl⟩ := h.non.sl
  generalize k.key = KB at *
  generalize k.non = NB at *
  generalize k.pos = X at *
  obtain ⟨w1, hw1⟩ : ∃ w1, (w.alloc (.cells #[.int .i64 X, .slice a1 n1 c1, .slice a2 n2 c2] 37)).alloc (.cells #[.int .i64 0, .slice none 0 0, .slice none 0 0] 37) = w1 := ⟨_, rfl⟩
  have hb : Bx w1 w.heap.size 37 #[.int .i64 X, .slice a1 n1 c1, .slice a2 n2 c2] := by rw [← hw1]; exact (Bx.new w _ _).kp ((Kp.refl _).alloc _)
  have hb2 : Bx w1 (w.heap.size + 1) 37 #[.int .i64 0, .slice none 0 0, .slice none 0 0] := by
    rw [← hw1]
    have := Bx.new (w.alloc (.cells #[.int .i64 X, .slice a1 n1 c1, .slice a2 n2 c2] 37)) 37 #[.int .i64 0, .slice none 0 0, .slice none 0 0]
    rwa [World.size_alloc] at this
  have K1 : Hid (Kp w w1) := by unfold Hid; rw [← hw1]; exact ((Kp.refl _).alloc _).alloc _
  have HSZ : Hid (w1.heap.size = w.heap.size + 2) := by unfold Hid; rw [← hw1]; simp
  have HB := Lib.hid hb
  have HR := Lib.hid hb2
  have HS : Hid (∀ W, Bx W w.heap.size 37 #[.int .i64 X, .slice a1 n1 c1, .slice a2 n2 c2] → W.cell? ⟨w.heap.size, 0, none⟩ = some (.int .i64 X) ∧ W.cell? ⟨w.heap.size, 1, none⟩ = some (.slice a1 n1 c1) ∧ W.cell? ⟨w.heap.size, 2, none⟩ = some (.slice a2 n2 c2)) := fun W hW => ⟨hW.cell 0, hW.cell 1, hW.cell 2⟩
  have S0 := Lib.hid (HS.out w1 hb)
  have HW := Lib.hid hw1
  clear h hl hb hb2 hw1
  go_enter Tryd.func29, Tryd.ntmps29
  go_wp2_with (first | (rw [HW.out]) | fail)
  go_region_held3 (fun W => W.cell? ⟨w.heap.size, 0, none⟩ = some (.int .i64 X) ∧ W.cell? ⟨w.heap.size, 1, none⟩ = some (.slice a1 n1 c1) ∧ W.cell? ⟨w.heap.size, 2, none⟩ = some (.slice a2 n2 c2))
    (first | (with_reducible exact S5.out) | (with_reducible exact S3.out) | (with_reducible exact S2.out) | exact S0.out)
    (first
      | (go_at_call 43; refine (HCN.out _ K2.out).mono ?_; rintro _ w3 ⟨u3, rfl, o3, k3⟩; obtain ⟨a4, n4, c4, rfl⟩ := o3.rd.sl; have K3 := Lib.hid (K2.out.trans k3); have B3 := Lib.hid (B2.out.kp k3); have R3 := Lib.hid (R2.out.kp k3); have S3 := Lib.hid (HS.out _ B3.out); have O3 := Lib.hid o3; have O23 := Lib.hid (O2.out.rd.kp k3); have HT5 := Lib.hid (stored3 R3.out (.int .i64 X) (.slice a3 n3 c3) (.slice a4 n4 c4)); have S5 := Lib.hid (HS.out _ (B3.out.grow HT5.out.2.1 (by omega))); have hth := R3.out.there; have j0 := R3.out.cell 0; have j1 := R3.out.cell 1; have j2 := R3.out.cell 2; have f0 := (hth 0 (by decide)).2; have f1 := (hth 1 (by decide)).2; have f2 := (hth 2 (by decide)).2; clear hth; rw [Nat.zero_add] at f0 f1 f2; simp only [List.getElem?_toArray, List.getElem?_cons_zero, List.getElem?_cons_succ] at j0 j1 j2; clear k3 o3)
      | (go_at_call 43; refine (HCK.out _ (by first | exact K1.out | exact K1.out.trans (Kp.refl _).drew)).mono ?_; rintro _ w2 ⟨u2, rfl, o2, k2⟩; obtain ⟨a3, n3, c3, rfl⟩ := o2.rd.sl; have K2 : Hid (Kp w w2) := (by first | exact K1.out.trans k2 | exact (K1.out.trans (Kp.refl _).drew).trans k2); have B2 : Hid (Bx w2 w.heap.size 37 #[.int .i64 X, .slice a1 n1 c1, .slice a2 n2 c2]) := (by first | exact HB.out.kp k2 | exact (HB.out.kp (Kp.refl _).drew).kp k2); have R2 : Hid (Bx w2 (w.heap.size + 1) 37 #[.int .i64 0, .slice none 0 0, .slice none 0 0]) := (by first | exact HR.out.kp k2 | exact (HR.out.kp (Kp.refl _).drew).kp k2); have S2 := Lib.hid (HS.out _ B2.out); have O2 := Lib.hid o2; clear k2 o2))
  obtain ⟨w5, hw5⟩ : ∃ x, ((w3.setCell ⟨w.heap.size + 1, 0, none⟩ (.int .i64 X)).setCell ⟨w.heap.size + 1, 1, none⟩ (.slice a3 n3 c3)).setCell ⟨w.heap.size + 1, 2, none⟩ (.slice a4 n4 c4) = x := ⟨_, rfl⟩
  have h5 := HT5.out
  rw [hw5] at h5 ⊢
  obtain ⟨b5, g5, kp5⟩ := h5
  have M2 : Newer (w.heap.size + 1 + 1) (.slice a3 n3 c3) := fun g hg => by have h1 := O2.out.newer13 g hg; have h2 := HSZ.out; first | omega | (simp at h1; omega)
  have M3 : Newer (w.heap.size + 1 + 1) (.slice a4 n4 c4) := fun g hg => by have h1 := O3.out.newer13 g hg; have h2 := HSZ.out; have h3 := (Array.getElem?_eq_some_iff.1 R2.out).1; omega
  have K5 := kp5 w K3.out (Nat.le_succ _)
  have R5 := HM.out _ _ _ (O23.out.stepNew g5 M2) (O3.out.rd.stepNew g5 M3)
  clear hw5 S0 S2 S3 S5 HT5 j0 j1 j2 f0 f1 f2 HCK HCN HS
  go_wp2_with fail
  refine bodyPost_ret (results_cell1 rfl _ _ (w.heap.size + 1) _ _ (0, 0) _ rfl b5 Tryd.underlying37 rfl infoLk3c) rfl ?_
  exact ⟨⟨_, _, rfl, R5, M2.mono (by omega), M3.mono (by omega)⟩, K5⟩
theorem lkKc : SK Tryd.prog 32 37 3 := SK.mk' (b := 56) Tryd.underlying32 (z := .agg #[.int .i64 0, .slice none 0 0, .slice none 0 0]) (by kernel_rfl) (by decide) rfl
theorem GL.old13 {α : Type} {S : Sh α} {w : World} {v : Value} {l : List α} (h : GL S w v l) : SZ S (fun g => w.heap.size ≤ g) w v l :=
  ⟨SE.solidly h fun g hg => .inr fun hs => by have := hs.lt; omega, fun x n c e h0 hk => by have := SE.inside h x n c e h0; omega⟩
theorem SZ.olds13 {α : Type} {S : Sh α} {Z : Nat → Prop} {w : World} {v : Value} {l : List α} (h : SZ S Z w v l) : SZ S (fun g => Z g ∨ w.heap.size ≤ g) w v l :=
  ⟨h.1.solidly fun g hg => hg.imp id fun hg hs => by have := hs.lt; omega, fun x n c e h0 hk => hk.elim (fun hk => h.2 x n c e h0 hk) fun hk => by have := h.1.inside x n c e h0; omega⟩
set_option maxHeartbeats 1000000 in
theorem cloneLk_any (v : Value) (t : List Lk) (Z : Nat → Prop) (w : World) (hv : SZ shLk Z w v t) (hl : t.length ≤ 100000) :
    Calls Tryd.prog 44 #[v] w fun e w' => (∃ v', e = .returned v' ∧ GZ shLk 37 (fun g => Z g ∨ w.heap.size < g) w' w.heap.size v' t) ∧ Kp w w' := by
  have q : ∀ (w : World) (a : Option Addr) (n c n' c' : Nat), (binOp .eql 32 (.slice a n c) (.slice none n' c')).run Tryd.prog w = .ok (.bool a.isNone) w := fun w a n c n' c' => Lib.run_eql_slice_nil w _ _ a n c n' c' Tryd.underlying32
  obtain ⟨a, c, rfl, hc, hm, hnil, hcell⟩ := id hv.1
  cases a with
  | none =>
    have hc0 := hnil rfl
    have hl0 : t = [] := List.eq_nil_of_length_eq_zero (by omega)
    subst hl0 hc0
    clear hv hcell hnil
    go_enter Tryd.func44, Tryd.ntmps44
    go_wp2_with fail
    go_ret
    exact ⟨⟨_, rfl, GZ.nil _ _ _⟩, Kp.refl _⟩
  | some a =>
    have HV : Hid (SE shLk (fun g => some g = (Value.slice (some ⟨w.heap.size, 0, none⟩) 0 0).ownBlock ∨ (Z g ∨ w.heap.size < g)) (w.alloc (.cells #[] 37)) (.slice (some a) t.length c) t) :=
      (SZ.step (SZ.olds13 hv) (Step.of_kp ((Kp.refl w).alloc _))).1.mono fun g hg => hg.elim (fun e => by simp [Value.ownBlock] at e; exact .inr (by omega)) fun h => h.imp id fun h => by omega
    have hlen : ([] : List Lk).length + t.length ≤ 1000000 := by simp; omega
    clear hv hcell hnil
    go_enter Tryd.func44, Tryd.ntmps44
    go_wp2_with (at_builtin; refine wpList_append_z (S := shLk) (Z := fun g => Z g ∨ w.heap.size < g) lkKc rfl _ _ rfl w.heap.size _ [] rfl (GZ.empty _ w) _ t rfl HV.out hlen (by simp) ?_; intro v' w' o' g' _)
    go_ret
    exact ⟨⟨_, rfl, by simpa using o'⟩, Kp.grown (v := .slice (some ⟨w.heap.size, 0, none⟩) 0 0) ((Kp.refl _).alloc _) g' (by intro k hk; simp [Value.ownBlock] at hk; omega)⟩
def leads13 (v : Value) (k : Nat) : Prop := ∃ x n c, v = .slice (some x) n c ∧ 0 < n ∧ x.block = k
def cpB (Z : Nat → Prop) (H : Nat) : Nat → Prop := fun g => Z g ∨ g = H ∨ g = H + 1
theorem GZ.sz13 {α : Type} {S : Sh α} {Z Z' : Nat → Prop} {e : TypeId} {w : World} {B : Nat} {v : Value} {t : List α} (h : GZ S e Z' w B v t) (hz : ∀ g, Z g → Z' g) (hB : ∀ g, Z g → g < B) : SZ S Z w v t := by
  have h1 : GZ S e Z w B v t := h.solidly fun g hg => .inr (.inl (hz g hg))
  exact ⟨h1.se13, fun x n c e h0 hk => by
    have h2 := (h1.lt x.block (by rw [e]; rfl)).1
    have h3 := hB _ hk
    omega⟩
theorem lk_set {l : List Lk} {j : Nat} (h : j < l.length) : l.set j (lkAt l j) = l := by
  have e : lkAt l j = l[j] := by unfold lkAt; rw [List.getD_eq_getElem?_getD, List.getElem?_eq_getElem h]; rfl
  rw [e, List.set_getElem_self]
theorem GZ.lk13 {e : TypeId} {Z : Nat → Prop} {w : World} {B g n c : Nat} {t : List Lk} (h : GZ shLk e Z w B (.slice (some ⟨g, 0, none⟩) n c) t) {k : Nat} (hk : k < t.length) :
    ∃ p q, w.cell? ⟨g, k * 3, none⟩ = some (.int .i64 (lkAt t k).pos) ∧ w.cell? ⟨g, k * 3 + 1, none⟩ = some p ∧ w.cell? ⟨g, k * 3 + 2, none⟩ = some q ∧ Rd w p (lkAt t k).key ∧ Rd w q (lkAt t k).non ∧ w.frozen? ⟨g, k * 3, none⟩ = false ∧ w.frozen? ⟨g, k * 3 + 1, none⟩ = false ∧ w.frozen? ⟨g, k * 3 + 2, none⟩ = false := by
  obtain ⟨g', c', e', _, _, _, _, h65⟩ := h.form (by omega)
  simp only [Value.slice.injEq, Option.some.injEq, Addr.mk.injEq, and_true] at e'
  obtain ⟨rfl, _⟩ := e'
  obtain ⟨vs, r1, r2⟩ := h65 k _ (lkAt_of hk)
  obtain ⟨p, q, d0, d1, d2, d3, d4⟩ := lk_at r1 r2
  have hth := h.there k hk
  exact ⟨p, q, d0, d1, d2, d3.1, d4.1, (hth 0 (by decide)).2, (hth 1 (by decide)).2, (hth 2 (by decide)).2⟩
set_option maxRecDepth 100000 in
set_option maxHeartbeats 3000000 in
theorem ratchCopied_any (x y : Value) (c : Ch) (Z : Nat → Prop) (w : World) (h1 : Rd w x c.sec) (h2 : SZ shLk Z w y c.spare) (hZ : ∀ g, Z g → g < w.heap.size) (hs : c.sec.length ≤ 10000) (hl : c.spare.length ≤ 10000) (hk : ∀ k, k < c.spare.length → (lkAt c.spare k).key.length ≤ 10000 ∧ (lkAt c.spare k).non.length ≤ 10000) :
    Calls Tryd.prog 28 #[.agg #[.int .i64 c.next, x, y]] w fun e w' => (∃ x' y', e = .returned (.agg #[.int .i64 c.next, x', y']) ∧ Rd w' x' c.sec ∧ SZ shLk Z w' y' c.spare) ∧ Kp w w' := by
  have HCS := Lib.hid (fun W (hW : Kp w W) => clone_any x c.sec W (h1.kp hW) (by omega))
  have HCL := Lib.hid (fun W (hW : Kp w W) => cloneLk_any y c.spare (fun g => Z g ∨ w.heap.size ≤ g) W (SZ.step (SZ.olds13 h2) (Step.of_kp hW)) (by omega))
  have HLK := Lib.hid (fun k (hk2 : k < c.spare.length) W x y (hW : LIn W x y (lkAt c.spare k)) => ratchCopiedLock_any x y (lkAt c.spare k) W hW (hk k hk2))
  have HSET := Lib.hid (fun k (hk : k < c.spare.length) => lk_set hk)
  obtain ⟨a1, n1, c1, rfl⟩ := h1.sl
  obtain ⟨a2, n2, c2, rfl⟩ := SE.sl h2.1
  have HZZ := Lib.hid hZ
  generalize c.sec = SB at *
  generalize c.next = X at *
  generalize c.spare = SP at *
  obtain ⟨N, hN⟩ : ∃ N, SP.length = N := ⟨_, rfl⟩
  have HN := Lib.hid hN
  obtain ⟨w1, hw1⟩ : ∃ w1, (w.alloc (.cells #[.int .i64 X, .slice a1 n1 c1, .slice a2 n2 c2] 34)).alloc (.cells #[.int .i64 0, .slice none 0 0, .slice none 0 0] 34) = w1 := ⟨_, rfl⟩
  have hb : Bx w1 w.heap.size 34 #[.int .i64 X, .slice a1 n1 c1, .slice a2 n2 c2] := by rw [← hw1]; exact (Bx.new w _ _).kp ((Kp.refl _).alloc _)
  have hb2 : Bx w1 (w.heap.size + 1) 34 #[.int .i64 0, .slice none 0 0, .slice none 0 0] := by
    rw [← hw1]
    have := Bx.new (w.alloc (.cells #[.int .i64 X, .slice a1 n1 c1, .slice a2 n2 c2] 34)) 34 #[.int .i64 0, .slice none 0 0, .slice none 0 0]
    rwa [World.size_alloc] at this
  have K1 : Hid (Kp w w1) := by unfold Hid; rw [← hw1]; exact ((Kp.refl _).alloc _).alloc _
  have HSZ : Hid (w1.heap.size = w.heap.size + 2) := by unfold Hid; rw [← hw1]; simp
  have HB := Lib.hid hb
  have HR := Lib.hid hb2
  have d1 := hb.cell 1
  simp only [List.getElem?_toArray, List.getElem?_cons_zero, List.getElem?_cons_succ] at d1
  have HW := Lib.hid hw1
  have hl2 : N ≤ 10000 := by omega
  clear h1 h2 hZ hs hk hl hN hb hb2 hw1
  go_enter Tryd.func28, Tryd.ntmps28
  go_wp2_with (first | (rw [HW.out]) | fail)
  refine (HCS.out w1 K1.out).mono ?_; rintro _ w2 ⟨u2, rfl, o2, k2⟩
  obtain ⟨a3, n3, c3, rfl⟩ := o2.rd.sl
  have B2 := Lib.hid (HB.out.kp k2)
  have R2 := Lib.hid (HR.out.kp k2)
  have K2 := Lib.hid (K1.out.trans k2)
  have O2 := Lib.hid o2.rd
  have M2 : Hid (Newer (w.heap.size + 1 + 1) (.slice a3 n3 c3)) := fun g hg => by have h1 := o2.newer13 g hg; have h2 := HSZ.out; omega
  obtain ⟨w3, hw3⟩ : ∃ x, w2.setCell ⟨w.heap.size, 1, none⟩ (.slice a3 n3 c3) = x := ⟨_, rfl⟩
  have B3 : Hid (Bx w3 w.heap.size 34 #[.int .i64 X, .slice a3 n3 c3, .slice a2 n2 c2]) := by unfold Hid; rw [← hw3]; exact B2.out.set 1 _
  have G3 : Hid (w2.grownBy w3 (some w.heap.size)) := by unfold Hid; rw [← hw3]; exact grown_set9 w2 w.heap.size 0 [.slice a3 n3 c3] 1
  have K3 : Hid (Kp w w3) := by unfold Hid; rw [← hw3]; exact K2.out.setNew (Nat.le_refl _) _
  have R3 := Lib.hid (R2.out.grow G3.out (by omega))
  have O3 := Lib.hid (O2.out.stepNew G3.out (M2.out.mono (by omega)))
  have e1 := B2.out.cell 1
  have e1f := B2.out.frozen 1
  have e2 := B3.out.cell 2
  simp only [List.getElem?_toArray, List.getElem?_cons_zero, List.getElem?_cons_succ] at e1 e2
  clear k2 o2 d1
  go_wp2_with fail
  refine (HCL.out w3 K3.out).mono ?_; rintro _ w4 ⟨⟨u4, rfl, o4⟩, k4⟩
  obtain ⟨a4, c4, rfl, p4, s4⟩ := SE.shape o4.gl
  rw [HN.out] at p4 o4 ⊢
  have B4 := Lib.hid (B3.out.kp k4)
  have R4 := Lib.hid (R3.out.kp k4)
  have K4 := Lib.hid (K3.out.trans k4)
  have O4 := Lib.hid (O3.out.kp k4)
  have HLT4 := Lib.hid o4.lt
  have HS3 := Lib.hid (Array.getElem?_eq_some_iff.1 R3.out).1
  obtain ⟨w5, hw5⟩ : ∃ x, w4.setCell ⟨w.heap.size, 2, none⟩ (.slice a4 N c4) = x := ⟨_, rfl⟩
  have B5 : Hid (Bx w5 w.heap.size 34 #[.int .i64 X, .slice a3 n3 c3, .slice a4 N c4]) := by unfold Hid; rw [← hw5]; exact B4.out.set 2 _
  have G5 : Hid (w4.grownBy w5 (some w.heap.size)) := by unfold Hid; rw [← hw5]; exact grown_set9 w4 w.heap.size 0 [.slice a4 N c4] 2
  have K5 : Hid (Kp w w5) := by unfold Hid; rw [← hw5]; exact K4.out.setNew (Nat.le_refl _) _
  have R5 := Lib.hid (R4.out.grow G5.out (by omega))
  have O5 := Lib.hid (O4.out.stepNew G5.out (M2.out.mono (by omega)))
  have Q5 : Hid (GZ shLk 37 (cpB Z w.heap.size) w5 w3.heap.size (.slice a4 N c4) SP) :=
    GZ.solidly (Z := fun g => (Z g ∨ w.heap.size ≤ g) ∨ w3.heap.size < g) (o4.step (grown_step G5.out) (fun g hg => .inl (.inl (.inr (by cases hg; exact Nat.le_refl _)))) (fun g hg hh => by have h1 := (HLT4.out g hg).1; cases hh; have := HS3.out; omega)) (fun g hg => .inr (.inl (.inl (by rcases hg with h | h | h; exact .inl h; exact .inr (by omega); exact .inr (by omega)))))
  have f2 := B4.out.cell 2
  have f2f := B4.out.frozen 2
  have f3 := B5.out.cell 2
  simp only [List.getElem?_toArray, List.getElem?_cons_zero, List.getElem?_cons_succ] at f2 f3
  have HSZ5 : Hid (w3.heap.size ≤ w5.heap.size) := Nat.le_trans k4.size G5.out.size
  have HLD : Hid (∀ g, (Value.slice a4 N c4).ownBlock = some g → ¬ leads13 (.slice a3 n3 c3) g) := fun g hg ⟨x, n, c, e, h0, hx⟩ => by
    have h1 := (HLT4.out g hg).1
    have h2 := O3.out.inside x n c e h0
    omega
  clear k4 o4 e1 e1f e2 hw3
  go_wp2_with fail
  clear f2 f2f f3 hw5
  go_loopw [16] (fun i wr => ∃ k : Nat, k ≤ N ∧ i = .int .i64 (k : Int) ∧ GZ shLk 37 (cpB Z w.heap.size) wr w3.heap.size (.slice a4 N c4) SP ∧ Bx wr w.heap.size 34 #[.int .i64 X, .slice a3 n3 c3, .slice a4 N c4] ∧ Bx wr (w.heap.size + 1) 34 #[.int .i64 0, .slice none 0 0, .slice none 0 0] ∧ Rd wr (.slice a3 n3 c3) SB ∧ Kp w wr ∧ w3.heap.size ≤ wr.heap.size) (fun i _ => (N - (intOf i).toNat))
  case atStart => exact ⟨0, Nat.zero_le _, rfl, Q5.out, B5.out, R5.out, O5.out, K5.out, HSZ5.out⟩
  case round =>
    obtain ⟨k, hk, rfl, hq, hb, hr, ho, hkp, hsz⟩ := hrel
    have QK := Lib.hid hq
    have BK := Lib.hid hb
    have RK := Lib.hid hr
    have OK := Lib.hid ho
    have KK := Lib.hid hkp
    have SK := Lib.hid hsz
    clear hq hb hr ho hkp hsz
    by_cases hlt : k < N
    · obtain ⟨g, cg, eg, g1, g2, _, _, _⟩ := QK.out.form (by rw [HN.out]; omega)
      rw [HN.out] at eg
      simp only [Value.slice.injEq] at eg
      obtain ⟨rfl, _, rfl⟩ := eg
      have hkl : k < SP.length := by rw [HN.out]; exact hlt
      obtain ⟨p, q, e0, e1, e2, rp, rq, _, _, _⟩ := QK.out.lk13 hkl
      have HP := Lib.hid (LIn.mk (k := lkAt SP k) rp rq)
      have HGE : Hid (w3.heap.size ≤ g ∧ g < wr.heap.size) := ⟨g1, g2⟩
      have HKL := Lib.hid hkl
      obtain ⟨ap, np, cp, rfl⟩ := rp.sl
      obtain ⟨aq, nq, cq, rfl⟩ := rq.sl
      have HLKK := Lib.hid (HLK.out k hkl)
      have HSETK := Lib.hid (HSET.out k hkl)
      have i1 : IntKind.i64.wrap ((k : Int) + 1) = (k : Int) + 1 := IntWalk.i64_in _ (by omega)
      have i2 : (k : Int) < (N : Int) := by omega
      have HPOS : Hid ((lkAt SP k).pos = (lkAt SP k).pos) := rfl
      have HR3 : Hid (∀ W x y, LIn W x y (lkAt SP k) → Newer (wr.heap.size) x → Newer wr.heap.size y → Kp wr W → shLk.R (fun b => b = g ∨ cpB Z w.heap.size b) W [.int .i64 (lkAt SP k).pos, x, y] (lkAt SP k)) := fun W x y h1 h2 h3 h4 => by
        have hz : ∀ b, (b = g ∨ cpB Z w.heap.size b) → b < wr.heap.size := fun b hb => by
          have h5 := HGE.out.2
          have h6 := (Array.getElem?_eq_some_iff.1 RK.out).1
          rcases hb with rfl | hb | rfl | rfl
          · omega
          · have h7 := HZZ.out _ hb; omega
          · omega
          · omega
        exact ⟨x, y, rfl, ⟨h1.key, h2.free hz⟩, ⟨h1.non, h3.free hz⟩⟩
      generalize (lkAt SP k).pos = XP at *
      obtain ⟨WQ, hWQ⟩ : ∃ x, wr.alloc (.cells #[.int .i64 XP, .slice ap np cp, .slice aq nq cq] 37) = x := ⟨_, rfl⟩
      have KQ : Hid (Kp wr WQ) := by unfold Hid; rw [← hWQ]; exact (Kp.refl _).alloc _
      have TQ : Hid (Bx WQ wr.heap.size 37 #[.int .i64 XP, .slice ap np cp, .slice aq nq cq]) := by unfold Hid; rw [← hWQ]; exact Bx.new wr _ _
      have BQ := Lib.hid (BK.out.kp KQ.out)
      have HS : Hid (∀ W, Bx W w.heap.size 34 #[.int .i64 X, .slice a3 n3 c3, .slice (some ⟨g, 0, none⟩) N c4] → Bx W wr.heap.size 37 #[.int .i64 XP, .slice ap np cp, .slice aq nq cq] → W.cell? ⟨w.heap.size, 2, none⟩ = some (.slice (some ⟨g, 0, none⟩) N c4) ∧ W.cell? ⟨wr.heap.size, 0, none⟩ = some (.int .i64 XP) ∧ W.cell? ⟨wr.heap.size, 1, none⟩ = some (.slice ap np cp) ∧ W.cell? ⟨wr.heap.size, 2, none⟩ = some (.slice aq nq cq)) := fun W h1 h2 => ⟨h1.cell 2, h2.cell 0, h2.cell 1, h2.cell 2⟩
      have S0 := Lib.hid (HS.out WQ BQ.out TQ.out)
      have HWQ := Lib.hid hWQ
      obtain ⟨q5, hq5⟩ : ∃ x, wr.heap.size = x := ⟨_, rfl⟩
      have HQ5 := Lib.hid hq5
      rw [hq5] at HS S0 TQ
      clear rp rq g1 g2 hWQ hkl HLK HSET hq5
      go_wp2_with (first | (rw [HWQ.out]) | fail)
      try rw [HQ5.out]
      go_region_held3 (fun W => W.cell? ⟨w.heap.size, 2, none⟩ = some (.slice (some ⟨g, 0, none⟩) N c4) ∧ W.cell? ⟨q5, 0, none⟩ = some (.int .i64 XP) ∧ W.cell? ⟨q5, 1, none⟩ = some (.slice ap np cp) ∧ W.cell? ⟨q5, 2, none⟩ = some (.slice aq nq cq))
        (first | (with_reducible exact S5.out) | (with_reducible exact S3.out) | exact S0.out)
        (first
          | (go_at_call 29; refine (HLKK.out _ _ _ (by first | exact HP.out.kp KQ.out | exact HP.out.kp (KQ.out.trans (Kp.refl _).drew))).mono ?_; rintro _ w8 ⟨⟨x8, y8, rfl, l8, mx8, my8⟩, k8⟩; obtain ⟨a8, n8, c8, rfl⟩ := l8.key.sl; obtain ⟨a9, n9, c9, rfl⟩ := l8.non.sl; have K8 : Hid (Kp WQ w8) := (by first | exact k8 | exact (Kp.refl WQ).drew.trans k8); have B8 := Lib.hid (BQ.out.kp K8.out); have T8 := Lib.hid (TQ.out.kp K8.out); have S3 := Lib.hid (HS.out _ B8.out T8.out); have hst := (QK.out.kp (KQ.out.trans K8.out)).stored k HKL.out (lkAt SP k) [.int .i64 XP, .slice a8 n8 c8, .slice a9 n9 c9] (HR3.out _ _ _ l8 (mx8.mono KQ.out.size) (my8.mono KQ.out.size) (KQ.out.trans K8.out)); rw [HSETK.out] at hst; have HST := Lib.hid hst; have S5 : Hid ((((w8.setCell ⟨g, k * 3, none⟩ (.int .i64 XP)).setCell ⟨g, k * 3 + 1, none⟩ (.slice a8 n8 c8)).setCell ⟨g, k * 3 + 2, none⟩ (.slice a9 n9 c9)).cell? ⟨w.heap.size, 2, none⟩ = some (.slice (some ⟨g, 0, none⟩) N c4) ∧ (((w8.setCell ⟨g, k * 3, none⟩ (.int .i64 XP)).setCell ⟨g, k * 3 + 1, none⟩ (.slice a8 n8 c8)).setCell ⟨g, k * 3 + 2, none⟩ (.slice a9 n9 c9)).cell? ⟨q5, 0, none⟩ = some (.int .i64 XP) ∧ (((w8.setCell ⟨g, k * 3, none⟩ (.int .i64 XP)).setCell ⟨g, k * 3 + 1, none⟩ (.slice a8 n8 c8)).setCell ⟨g, k * 3 + 2, none⟩ (.slice a9 n9 c9)).cell? ⟨q5, 1, none⟩ = some (.slice ap np cp) ∧ (((w8.setCell ⟨g, k * 3, none⟩ (.int .i64 XP)).setCell ⟨g, k * 3 + 1, none⟩ (.slice a8 n8 c8)).setCell ⟨g, k * 3 + 2, none⟩ (.slice a9 n9 c9)).cell? ⟨q5, 2, none⟩ = some (.slice aq nq cq)) := HS.out _ (B8.out.grow hst.2 (by have h1 := HGE.out.1; have h2 := HS3.out; omega)) (T8.out.grow hst.2 (by have h1 := HGE.out.2; have h2 := HQ5.out; omega)); obtain ⟨p9, q9, j0, j1, j2, _, _, f0, f1, f2⟩ := (QK.out.kp (KQ.out.trans K8.out)).lk13 HKL.out; clear k8 l8 mx8 my8 hst))
      have hfin := HST.out
      have hl5 := HLD.out g rfl
      have KF : Hid (Kp w (((w8.setCell ⟨g, k * 3, none⟩ (.int .i64 XP)).setCell ⟨g, k * 3 + 1, none⟩ (.slice a8 n8 c8)).setCell ⟨g, k * 3 + 2, none⟩ (.slice a9 n9 c9))) := Kp.grown (v := .slice (some ⟨g, 0, none⟩) N c4) (KK.out.trans (KQ.out.trans K8.out)) hfin.2 (by intro m hm; have h1 := HGE.out.1; have h2 := HS3.out; simp [Value.ownBlock] at hm; omega)
      have BF := Lib.hid (B8.out.grow hfin.2 (by have h1 := HGE.out.1; have h2 := HS3.out; omega))
      have RF := Lib.hid ((RK.out.kp (KQ.out.trans K8.out)).grow hfin.2 (by have h1 := HGE.out.1; have h2 := HS3.out; omega))
      have OF := Lib.hid ((OK.out.kp (KQ.out.trans K8.out)).stepF (grown_step hfin.2) (fun x n c e h0 hk => hl5 ⟨x, n, c, e, h0, by cases hk; rfl⟩))
      have SF := Lib.hid (Nat.le_trans SK.out (Nat.le_trans (KQ.out.trans K8.out).size hfin.2.size))
      have QF := Lib.hid hfin.1
      clear S0 S3 S5 j0 j1 j2 f0 f1 f2 hfin HST HS
      go_wp2_with fail
      go_roundw
      case rel => exact ⟨k + 1, by omega, by first | rfl | (rw [i1]; rfl) | go_num, QF.out, BF.out, RF.out, OF.out, KF.out, SF.out⟩
      case measure => simp [intOf]; omega
    · obtain rfl : k = N := by omega
      have i2 : ¬ (k : Int) < (k : Int) := by omega
      have d0 := BK.out.cell 0
      have d1 := BK.out.cell 1
      have d2 := BK.out.cell 2
      simp only [List.getElem?_toArray, List.getElem?_cons_zero, List.getElem?_cons_succ] at d0 d1 d2
      go_wp2_with (first | (refine wpList_store_row rfl rfl 34 (.tmp 2) (.tmp 28) rfl (w.heap.size + 1) 34 _ #[.int .i64 X, .slice a3 n3 c3, .slice a4 k c4] rfl rfl RK.out rfl (three_one rfl rfl rfl) infoCh3c ?_; intro w9 b9 g9 kp9) | fail)
      refine bodyPost_ret (results_cell1 rfl _ _ (w.heap.size + 1) _ _ (0, 0) _ rfl b9 Tryd.underlying34 rfl infoCh3c) rfl ?_
      exact ⟨⟨_, _, rfl, OK.out.stepNew g9 (M2.out), (QK.out.step (grown_step g9) (fun b hb => .inl (.inr (.inr (by cases hb; rfl)))) (fun b hb hh => by have h1 := (QK.out.lt b hb).1; cases hh; have := HS3.out; omega)).sz13 (fun g hg => .inl hg) (fun g hg => by have h1 := HZZ.out g hg; have h2 := HS3.out; omega)⟩, kp9 _ KK.out (Nat.le_succ _)⟩
end Go.Proofs.YtigpgcjbpoaclaaDoor

/- append of bytes, onto memory of the call's own: where the row lies then. Nothing of a dump. -/
import Derived.Test.YtacgafefefhmeaaMacAll
import Derived.Maps.AppendAt
import Derived.Test.YtacgafefefhmeaaKdfAll
import Derived.Lib.SmallJoins
import Derived.RegionTactic
import Derived.BigRegion
set_option linter.unusedVariables false
set_option linter.unusedSimpArgs false
namespace Go.Proofs.Ytacgafefefhmeaa
open Go.RowKit

theorem wpList_append_at {P : Program} {w : World} {t e : TypeId} (U : U8 P t e) {ops : Array Oper} {rest : List Oper} {o : Oper} {a : Act} {Q : Exit → Act → World → Prop} (hgd : o.guard = none) (s x : Operand)
    (ho : o.op = .call { callee := .builtin .append, args := #[s, x], argTypes := #[t, t] })
    (B : Nat) (v : Value) (l : List UInt8) (hs : a.eval s = v) (hown : Ow e w B v l) (u : Value) (m : List UInt8) (hx : a.eval x = u) (hu : Rd w u m)
    (hlen : l.length + m.length ≤ 140737488355328) (hbase : B ≤ w.heap.size)
    (h : ∀ v' w', Ow e w' B v' (l ++ m) → w.grownBy w' v.ownBlock → (v'.ownBlock = v.ownBlock ∨ v'.ownBlock = some w.heap.size) → wpList P ops Q rest (a.put o.dst v') w') : wpList P ops Q (o :: rest) a w := by
  obtain ⟨i, hi, hz, hsize, hby⟩ := U.hi
  obtain ⟨ad, c, rfl, hc, hm, hnil, hcell⟩ := hu
  cases ad with
  | none =>
    have hc0 := hnil rfl
    have hm0 : m = [] := List.eq_nil_of_length_eq_zero (by omega)
    subst hm0
    subst hc0
    refine wpList_append_own_none hgd s x t ho B e i 1 U.ht hi v l.length (Lib.byteCells l) hs hown hx ?_
    exact h v w (by simpa using hown) ⟨rfl, rfl, rfl, Nat.le_refl _, fun _ _ _ => rfl⟩ (.inl rfl)
  | some ad =>
    refine wpList_append_own_at _ hgd s x t ho B e i (.int .u8 0) 1 1 U.ht hi hz hsize hby rfl (by decide) v l.length (Lib.byteCells l) hs hown ad m.length c (Lib.byteCells m) hx (by rw [byteCells_length]; omega) (fun j z hj => ?_) (fun z hz => ?_) (by unfold maxLen; omega) (by omega) hbase
      (fun v' w' h1 h2 _ h4 => h v' w' (by unfold Ow; rw [List.length_append, byteCells_append]; exact h1) h2 h4)
    · have hjl : j < m.length := by
        have := (List.getElem?_eq_some_iff.1 hj).1
        rwa [byteCells_length] at this
      rw [byteCells_get m j hjl] at hj
      cases hj
      exact hcell ad rfl j hjl
    · obtain ⟨b, _, rfl⟩ := List.mem_map.1 hz
      rfl
/-- What a call's own row holds, behind an append onto another one. -/
theorem Ow.kept {e : TypeId} {w w' : World} {B : Nat} {v : Value} {l : List UInt8} {row : Option Nat} (h : Ow e w B v l) (hg : w.grownBy w' row) (hne : v.ownBlock = none ∨ v.ownBlock ≠ row) : Ow e w' B v l :=
  World.ownsRow.kept h hg hne
end Go.Proofs.Ytacgafefefhmeaa

/- The document's examples, at the head of all statements of layer 4: shown. -/
set_option linter.unusedVariables false
set_option linter.unusedSimpArgs false
namespace Go.Proofs.Ytacgafefefhmeaa
open Go.RowKit

theorem rd_marked4 (w : World) (T : TypeId) (l : List UInt8) (hl : l.length ≤ 1000000) : Rd (w.alloc (.cells (Lib.byteCells l).toArray T (l.length, l.length + 1))) (.slice (some ⟨w.heap.size, 0, none⟩) l.length l.length) l := by
  refine ⟨_, l.length, rfl, Nat.le_refl _, by unfold maxLen; omega, fun h => (by cases h), fun x hx i hi => ?_⟩
  cases hx
  have hg := heap_alloc_new w (.cells (Lib.byteCells l).toArray T (l.length, l.length + 1))
  have e : (⟨w.heap.size, 0, none⟩ : Addr).add i = ⟨w.heap.size, i, none⟩ := by unfold Addr.add; split <;> simp_all
  rw [e, cell_of_row _ _ i _ _ _ hg]
  simp [Lib.byteCells, hi]

def pwB : List UInt8 := [112, 97, 115, 115, 119, 111, 114, 100]
def stB : List UInt8 := [115, 97, 108, 116]
def saltB : List UInt8 := [0, 1, 2, 3, 4, 5, 6, 7, 8, 9, 10, 11, 12]
def pass1B : List UInt8 := [18, 15, 182, 207, 252, 248, 179, 44, 67, 231, 34, 82, 86, 196, 248, 55, 168, 101, 72, 201, 44, 204, 53, 72, 8, 5, 152, 124, 183, 11, 225, 123]
def pass2B : List UInt8 := [174, 77, 12, 149, 175, 107, 70, 211, 45, 10, 223, 249, 40, 240, 109, 208, 42, 48, 63, 142, 243, 194, 81, 223, 214, 226, 216, 90, 149, 71, 76, 67]
def extB : List UInt8 := [7, 119, 9, 54, 44, 46, 50, 223, 13, 220, 63, 13, 196, 123, 186, 99, 144, 182, 199, 59, 181, 15, 156, 49, 34, 236, 132, 74, 215, 194, 179, 229]
theorem pass1_shown : passR pwB stB 1 32 = pass1B := by decide +kernel
theorem pass2_shown : passR pwB stB 2 32 = pass2B := by decide +kernel
theorem ext_shown : macB saltB (List.replicate 22 11) = extB := by decide +kernel
theorem saltB_take (i : Nat) (h : i < 13) : saltB.take i ++ [UInt8.ofNat i] = saltB.take (i + 1) := by
  have : ∀ i : Fin 13, saltB.take i.1 ++ [UInt8.ofNat i.1] = saltB.take (i.1 + 1) := by decide
  exact this ⟨i, h⟩
theorem u8_ofNat' (j : Nat) (h : j ≤ 255) : IntKind.u8.wrap (j : Int) = ((UInt8.ofNat j).toNat : Int) := by
  rw [IntKind.wrap_u8, UInt8.toNat_ofNat']
  omega

theorem rd_pw (w : World) (T : TypeId) (g : Nat) (hg : g = w.heap.size) : Rd (w.alloc (.cells #[.int .u8 112, .int .u8 97, .int .u8 115, .int .u8 115, .int .u8 119, .int .u8 111, .int .u8 114, .int .u8 100] T (8, 9))) (.slice (some ⟨g, 0, none⟩) 8 8) pwB := by
  subst hg
  exact rd_marked4 w T pwB (by decide)
theorem rd_st (w : World) (T : TypeId) (g : Nat) (hg : g = w.heap.size) : Rd (w.alloc (.cells #[.int .u8 115, .int .u8 97, .int .u8 108, .int .u8 116] T (4, 5))) (.slice (some ⟨g, 0, none⟩) 4 4) stB := by
  subst hg
  exact rd_marked4 w T stB (by decide)
theorem pw_conv (w : World) : (convert 22 22 (.slice (some ⟨w.heap.size, 0, none⟩) 8 8)).run Try.prog (w.alloc (.cells #[.int .u8 112, .int .u8 97, .int .u8 115, .int .u8 115, .int .u8 119, .int .u8 111, .int .u8 114, .int .u8 100] 5)) =
      .ok (.slice (some ⟨w.heap.size, 0, none⟩) 8 8) (w.alloc (.cells #[.int .u8 112, .int .u8 97, .int .u8 115, .int .u8 115, .int .u8 119, .int .u8 111, .int .u8 114, .int .u8 100] 5 (8, 9))) ∧
    (convert 22 22 (.slice (some ⟨w.heap.size + 1, 0, none⟩) 4 4)).run Try.prog ((w.alloc (.cells #[.int .u8 112, .int .u8 97, .int .u8 115, .int .u8 115, .int .u8 119, .int .u8 111, .int .u8 114, .int .u8 100] 5 (8, 9))).alloc (.cells #[.int .u8 115, .int .u8 97, .int .u8 108, .int .u8 116] 5)) =
      .ok (.slice (some ⟨w.heap.size + 1, 0, none⟩) 4 4) ((w.alloc (.cells #[.int .u8 112, .int .u8 97, .int .u8 115, .int .u8 115, .int .u8 119, .int .u8 111, .int .u8 114, .int .u8 100] 5 (8, 9))).alloc (.cells #[.int .u8 115, .int .u8 97, .int .u8 108, .int .u8 116] 5 (4, 5))) := by
  have h1 := Lib.run_convert_bytes_const (P := Try.prog) w 22 5 #[.int .u8 112, .int .u8 97, .int .u8 115, .int .u8 115, .int .u8 119, .int .u8 111, .int .u8 114, .int .u8 100] 8 8 Try.underlying22 Try.underlying5
  have h2 := Joins.run_convert_bytes_const_at (P := Try.prog) (w.alloc (.cells #[.int .u8 112, .int .u8 97, .int .u8 115, .int .u8 115, .int .u8 119, .int .u8 111, .int .u8 114, .int .u8 100] 5 (8, 9))) 22 5 #[.int .u8 115, .int .u8 97, .int .u8 108, .int .u8 116] 4 4 (w.heap.size + 1) (by simp) Try.underlying22 Try.underlying5
  exact ⟨h1, h2⟩
/-- Behind an append a row parts from another one that it parted from. -/
theorem own_ne {e : TypeId} {w : World} {B n : Nat} {v1 v2 v3 : Value} {l : List UInt8} (h : Ow e w B v1 l) (hne : v1.ownBlock ≠ v2.ownBlock) (hn : w.heap.size ≤ n) (h3 : v3.ownBlock = v2.ownBlock ∨ v3.ownBlock = some n) : v3.ownBlock ≠ v1.ownBlock := by
  intro e2
  rcases h3 with h3 | h3
  · exact hne (e2.symm.trans h3)
  · have := (World.ownsRow.lt h n (e2.symm.trans h3)).2
    omega

theorem own_some {v2 v3 : Value} {n : Nat} (h3 : v3.ownBlock = v2.ownBlock ∨ v3.ownBlock = some n) (h : v2.ownBlock ≠ none) : v3.ownBlock ≠ none := by
  rcases h3 with h3 | h3
  · rw [h3]; exact h
  · rw [h3]; simp

set_option maxRecDepth 100000 in
set_option maxHeartbeats 4000000 in
theorem shownKdf_any (w : World) : Calls Try.prog 8 #[] w fun e w' => e = .returned (.bool true) ∧ Kp w w' := by
  have U := u8
  go_enter Try.func8, Try.ntmps8
  go_wp2_with fail
  obtain ⟨W0, hW0⟩ : ∃ W0, (w.alloc (.cells #[] 5)).alloc (.cells #[] 5) = W0 := ⟨_, rfl⟩
  have h1 : Ow 5 W0 w.heap.size (.slice (some ⟨w.heap.size, 0, none⟩) 0 0) [] := by rw [← hW0]; exact (Ow.lit w 5 w.heap.size 0 #[] [] (Nat.le_refl _) rfl (by decide) rfl).kp ((Kp.refl _).alloc _)
  have h2 : Ow 5 W0 w.heap.size (.slice (some ⟨w.heap.size + 1, 0, none⟩) 0 0) [] := by
    have := Ow.lit (w.alloc (.cells #[] 5)) 5 w.heap.size 0 #[] [] (by simp) rfl (by decide) rfl
    rw [World.size_alloc, hW0] at this
    exact this
  have k0 : Kp w W0 := by rw [← hW0]; exact ((Kp.refl _).alloc _).alloc _
  rw [hW0]
  clear hW0
  go_loopw [1, 2, 3] (fun v1 v2 p wr => ∃ i : Nat, i ≤ 22 ∧ p = .int .i64 i ∧ Ow 5 wr w.heap.size v1 (saltB.take i) ∧ Ow 5 wr w.heap.size v2 (List.replicate i 11) ∧ v1.ownBlock ≠ v2.ownBlock ∧ v1.ownBlock ≠ none ∧ v2.ownBlock ≠ none ∧ Kp w wr) (fun _ _ p _ => 22 - (intOf p).toNat)
  case atStart => exact ⟨0, by omega, rfl, h1, h2, by simp [Value.ownBlock], by simp [Value.ownBlock], by simp [Value.ownBlock], k0⟩
  case round =>
    clear h1 h2 k0
    obtain ⟨i, hi, rfl, o1, o2, hne, hn1, hn2, hkp⟩ := hrel
    obtain ⟨wo, rfl⟩ : ∃ wo, wo = wr := ⟨_, rfl⟩
    have hsz := hkp.size
    by_cases hlt : i < 22
    · have hq : (i : Int) < 22 := by omega
      have hrep : List.replicate (i + 1) (11 : UInt8) = List.replicate i 11 ++ [11] := List.replicate_succ'
      have HRP := Lib.hid hrep
      obtain ⟨L, hL⟩ : ∃ L, List.replicate i (11 : UInt8) = L := ⟨_, rfl⟩
      have hll : L.length ≤ 22 := by rw [← hL]; simp; omega
      rw [hL] at o2 HRP
      have hsl : (saltB.take i).length ≤ 13 := by rw [List.length_take]; exact Nat.min_le_right _ _
      have HNE := Lib.hid (And.intro hne (And.intro hn1 hn2))
      clear hL hrep hne hn1 hn2
      by_cases h13 : i < 13
      · have hq2 : (i : Int) < 13 := by omega
        have hst := saltB_take i h13
        have hb := u8_ofNat' i (by omega)
        obtain ⟨x, hx⟩ : ∃ x, UInt8.ofNat i = x := ⟨_, rfl⟩
        obtain ⟨S, hS⟩ : ∃ S, saltB.take i = S := ⟨_, rfl⟩
        rw [hx] at hb hst
        rw [hS] at hst o1 hsl
        have HST := Lib.hid hst
        clear hst hx hS
        go_wp2_with (at_builtin; first
          | (refine wpList_append_at (o := ⟨some 20, _, _, _, _, _⟩) U rfl _ _ rfl w.heap.size _ L rfl (o2.kp ((Kp.refl _).alloc _)) _ [11] rfl (Rd.box wo 5 _ 11 rfl) (by simp; omega) (by simp; omega) ?_; intro v3 x3 o3 g3 a3; have o13 := (o1.kp ((Kp.refl _).alloc _)).kept g3 (.inr HNE.out.1); have k3 : Kp w x3 := Kp.grown (hkp.alloc _) g3 o2.own_ge; have hs3 := g3.size; rw [World.size_alloc] at a3 hs3; have h31 := own_ne o1 HNE.out.1 (Nat.le_succ _) a3)
          | (refine wpList_append_at (o := ⟨some 27, _, _, _, _, _⟩) U rfl _ _ rfl w.heap.size _ S rfl (o13.kp ((Kp.refl _).alloc _)) _ [x] rfl (Rd.box x3 5 _ x rfl) (by simp; omega) (k3.alloc _).size ?_; intro v4 x4 o4 g4 a4; have o34 := (o3.kp ((Kp.refl _).alloc _)).kept g4 (.inr h31); have HK4 := Lib.hid (show Kp w x4 from Kp.grown (k3.alloc _) g4 o1.own_ge); rw [World.size_alloc] at a4; have hx3 : v4.ownBlock ≠ v3.ownBlock := own_ne o3 h31 (Nat.le_succ _) a4; have hn4 := own_some a4 HNE.out.2.1; have hn3 := own_some a3 HNE.out.2.2))
        go_roundw
        case rel => exact ⟨i + 1, by omega, by go_num, by rw [← HST.out]; exact o4, by rw [HRP.out]; exact o34, hx3, hn4, hn3, HK4.out⟩
        case measure => simp [intOf]; omega
      · have hq2 : ¬ (i : Int) < 13 := by omega
        have hst : saltB.take i = saltB.take (i + 1) := by rw [List.take_of_length_le (show saltB.length ≤ i by show 13 ≤ i; omega), List.take_of_length_le (show saltB.length ≤ i + 1 by show 13 ≤ i + 1; omega)]
        have HST := Lib.hid hst
        clear hst
        go_wp2_with (at_builtin; refine wpList_append_at (o := ⟨some 20, _, _, _, _, _⟩) U rfl _ _ rfl w.heap.size _ L rfl (o2.kp ((Kp.refl _).alloc _)) _ [11] rfl (Rd.box wo 5 _ 11 rfl) (by simp; omega) (by simp; omega) ?_; intro v3 x3 o3 g3 a3; have o13 := (o1.kp ((Kp.refl _).alloc _)).kept g3 (.inr HNE.out.1); have k3 := Lib.hid (show Kp w x3 from Kp.grown (hkp.alloc _) g3 o2.own_ge); rw [World.size_alloc] at a3; have h31 := own_ne o1 HNE.out.1 (Nat.le_succ _) a3; have hn3 := own_some a3 HNE.out.2.2)
        go_roundw
        case rel => exact ⟨i + 1, by omega, by go_num, by rw [← HST.out]; exact o13, by rw [HRP.out]; exact o3, h31.symm, HNE.out.2.1, hn3, k3.out⟩
        case measure => simp [intOf]; omega
    · obtain rfl : i = 22 := by omega
      have hsal : saltB.take 22 = saltB := rfl
      rw [hsal] at o1
      have R1 := Lib.hid o1.rd
      have R2 := Lib.hid o2.rd
      have CV := Lib.hid (pw_conv)
      obtain ⟨hcv1, hcv2⟩ := CV.out wo
      clear o1 o2 hne hn1 hn2 hsal
      go_wp2_with fail
      clear hcv1 hcv2
      refine (pass_any _ _ pwB stB 1 32 _ ((rd_pw wo _ _ rfl).kp ((Kp.refl _).alloc _)) (rd_st _ _ _ (by simp)) (by decide) (by decide)).mono ?_
      rw [pass1_shown, show passE 1 32 = 0 from rfl]
      rintro e w1 ⟨⟨v1, rfl, p1⟩, k1⟩
      obtain ⟨a1, n1, c1, rfl⟩ := p1.rd.sl
      have K1 : Kp wo w1 := (((Kp.refl wo).alloc _).alloc _).trans k1
      clear k1
      obtain ⟨hcv1, hcv2⟩ := CV.out w1
      go_wp2_with fail
      clear hcv1 hcv2
      refine (pass_any _ _ pwB stB 2 32 _ ((rd_pw w1 _ _ rfl).kp ((Kp.refl _).alloc _)) (rd_st _ _ _ (by simp)) (by decide) (by decide)).mono ?_
      rw [pass2_shown, show passE 2 32 = 0 from rfl]
      rintro e w2 ⟨⟨v2, rfl, p2⟩, k2⟩
      obtain ⟨a2, n2, c2, rfl⟩ := p2.rd.sl
      have K12 : Kp w1 w2 := (((Kp.refl w1).alloc _).alloc _).trans k2
      have K2 := K1.trans K12
      clear k2
      go_wp2_with fail
      refine (extract_any _ _ saltB (List.replicate 22 11) _ (R1.out.kp K2) (R2.out.kp K2) (by decide) (by decide)).mono ?_
      rw [ext_shown]
      rintro e w3 ⟨⟨v3, rfl, p3⟩, k3⟩
      obtain ⟨a3, n3, c3, rfl⟩ := p3.rd.sl
      go_wp2_with fail
      refine (expand_any _ _ extB [240, 241] 40 _ (p3.rd.kp ((Kp.refl _).alloc _)) (Ow.lit w3 5 0 2 _ _ (Nat.zero_le _) rfl (by decide) rfl).rd (by decide) (by decide)).mono ?_
      rw [show expE 40 = 0 from rfl]
      rintro e w4 ⟨⟨v4, rfl, p4⟩, k4⟩
      have hl4 : (expR extB [240, 241] 40).length = 40 := firstB_length _ (expT_length _ _) 40
      obtain ⟨a4, c4, rfl, _, _⟩ := p4.rd.shape
      rw [hl4]
      have K4 := (K2.trans k3).trans (((Kp.refl w3).alloc _).trans k4)
      have K24 := k3.trans (((Kp.refl w3).alloc _).trans k4)
      clear hl4 k4 k3 p3
      go_wp2_with fail
      refine (derive_any _ _ (List.replicate 22 11) _ (R2.out.kp K4) (by decide) (by decide)).mono ?_
      rintro e w5 ⟨⟨v5, rfl, p5⟩, k5⟩
      have hl5 := firstB_length (expT (List.replicate 22 11) (labI (⟨#[120]⟩ : ByteArray).data.toList [] 32)) (expT_length _ _) 32
      obtain ⟨a5, c5, rfl, _, _⟩ := p5.rd.shape
      rw [show (expL (List.replicate 22 11) (labI (⟨#[120]⟩ : ByteArray).data.toList [] 32) 32).length = 32 from hl5]
      have K5 := K4.trans k5
      have K25 := K24.trans k5
      clear hl5
      go_wp2_with fail
      refine (extract_any _ _ saltB (List.replicate 22 11) _ (R1.out.kp K5) (R2.out.kp K5) (by decide) (by decide)).mono ?_
      rw [ext_shown]
      rintro e w6 ⟨⟨v6, rfl, p6⟩, k6⟩
      go_wp2_with fail
      refine (refText_at _ extB _ p6.rd (by decide) ⟨#[48, 55, 55, 55, 48, 57, 51, 54, 50, 99, 50, 101, 51, 50, 100, 102, 48, 100, 100, 99, 51, 102, 48, 100, 99, 52, 55, 98, 98, 97, 54, 51, 57, 48, 98, 54, 99, 55, 51, 98, 98, 53, 48, 102, 57, 99, 51, 49, 50, 50, 101, 99, 56, 52, 52, 97, 100, 55, 99, 50, 98, 51, 101, 53]⟩ (by decide)).mono ?_
      rintro e w7 ⟨rfl, k7⟩
      have K57 := k6.trans k7
      go_wp2_with fail
      refine (refText_at _ pass1B _ (((p1.rd.kp K12).kp K25).kp K57) (by decide) ⟨#[49, 50, 48, 102, 98, 54, 99, 102, 102, 99, 102, 56, 98, 51, 50, 99, 52, 51, 101, 55, 50, 50, 53, 50, 53, 54, 99, 52, 102, 56, 51, 55, 97, 56, 54, 53, 52, 56, 99, 57, 50, 99, 99, 99, 51, 53, 52, 56, 48, 56, 48, 53, 57, 56, 55, 99, 98, 55, 48, 98, 101, 49, 55, 98]⟩ (by decide)).mono ?_
      rintro e w8 ⟨rfl, k8⟩
      go_wp2_with fail
      refine (refText_at _ pass2B _ (((p2.rd.kp K25).kp K57).kp k8) (by decide) ⟨#[97, 101, 52, 100, 48, 99, 57, 53, 97, 102, 54, 98, 52, 54, 100, 51, 50, 100, 48, 97, 100, 102, 102, 57, 50, 56, 102, 48, 54, 100, 100, 48, 50, 97, 51, 48, 51, 102, 56, 101, 102, 51, 99, 50, 53, 49, 100, 102, 100, 54, 101, 50, 100, 56, 53, 97, 57, 53, 52, 55, 52, 99, 52, 51]⟩ (by decide)).mono ?_
      rintro e w9 ⟨rfl, k9⟩
      go_wp2_with fail
      go_ret
      exact ⟨rfl, (((hkp.trans K5).trans K57).trans k8).trans k9⟩
end Go.Proofs.Ytacgafefefhmeaa

/- pyxref04: Extract, Expand. -/
set_option linter.unusedVariables false
set_option linter.unusedSimpArgs false
namespace Go.Proofs.Ytacgafefefhmeaa
open Go.RowKit

theorem Rd.grown {w w' : World} {v : Value} {l : List UInt8} {r : Option Nat} (h : Rd w v l) (hg : w.grownBy w' r) (hx : In (fun b => some b ≠ r) v) : Rd w' v l :=
  h.held (R := fun b => some b ≠ r) ⟨hg.size, fun k hk hr => hg.block k hk hr⟩ hx

theorem Rd.takes {w : World} {a : Option Addr} {m c : Nat} {l : List UInt8} (h : Rd w (.slice a m c) l) (n : Nat) (hn : n ≤ m) : Rd w (.slice a n c) (l.take n) := by
  obtain ⟨a', c', e, h1, h2, h3, h4⟩ := h
  simp only [Value.slice.injEq] at e
  obtain ⟨rfl, rfl, rfl⟩ := e
  have hl : (l.take n).length = n := by rw [List.length_take]; omega
  exact ⟨a, c, by rw [hl], by omega, h2, h3, fun x hx i hi => by rw [h4 x hx i (by omega), List.getElem_take]⟩

theorem refExtract_any (vs vk : Value) (s k : List UInt8) (w : World) (hs : Rd w vs s) (hk : Rd w vk k) (hsl : s.length ≤ 2000) (hkl : k.length ≤ 1900) :
    Calls Try.prog 17 #[vs, vk] w fun e w' => (∃ v, e = .returned v ∧ Ow 5 w' w.heap.size v (macB s k)) ∧ Kp w w' := by
  go_enter Try.func17, Try.ntmps17
  go_wp2_with fail
  refine (refMac_sum vs vk s k _ hs hk hsl hkl).mono ?_
  rintro e w1 ⟨⟨v, rfl, o1⟩, k1⟩
  go_wp2_with fail
  go_ret
  exact ⟨⟨_, rfl, o1⟩, k1⟩

theorem be_one (j : Nat) : be 1 j = [UInt8.ofNat j] := by simp [be]
theorem u8_ofNat (j : Nat) (h : j ≤ 255) : IntKind.u8.wrap (j : Int) = ((UInt8.ofNat j).toNat : Int) := by
  rw [IntKind.wrap_u8, UInt8.toNat_ofNat']
  omega

set_option maxRecDepth 100000 in
set_option maxHeartbeats 2000000 in
theorem refExpand_yes (vk vi : Value) (k info : List UInt8) (n : Nat) (w : World) (hk : Rd w vk k) (hi : Rd w vi info) (hkl : k.length ≤ 2000) (hil : info.length ≤ 1800) (hn : n ≤ 8160) :
    Calls Try.prog 10 #[vk, vi, .int .i64 n] w fun e w' => (∃ v, e = .returned (.tuple #[v, .int .i64 0]) ∧ Rd w' v (expL k info n)) ∧ Kp w w' := by
  have U := u8
  obtain ⟨ai, ci, rfl, _, _⟩ := hi.shape
  have d1 : decide ((n : Int) < 0) = false := by simp
  have d2 : decide (8160 < (n : Int)) = false := by simp; omega
  have HC := Lib.hid (catB_length (expT k info) (expT_length k info))
  have HS : Hid (∀ j, catB (expT k info) (j + 1) = catB (expT k info) j ++ expT k info j) := fun _ => rfl
  have HT := Lib.hid (expT_length k info)
  have HP := Lib.hid (expP_length k info)
  have HX := Lib.hid (expT_step k info)
  have HE : Hid (∀ j, expP k info (j + 1) = expT k info j) := fun _ => rfl
  have HF := Lib.hid (fun j h => firstB_eq (expT k info) (expT_length k info) n j h)
  go_enter Try.func10, Try.ntmps10
  go_wp2_with fail
  go_loopw [8, 9, 10] (fun vo vt p wr => ∃ j : Nat, 32 * j < n + 32 ∧ p = .int .i64 ((j : Int) + 1) ∧ Ow 5 wr w.heap.size vo (catB (expT k info) j) ∧ Rd wr vt (expP k info j) ∧ Kp w wr) (fun _ _ p _ => 300 - (intOf p).toNat)
  case atStart => exact ⟨0, by omega, rfl, Ow.nil _ _ _, rd_nil _, Kp.refl _⟩
  case round =>
    obtain ⟨j, hj, rfl, ho, ht, hkp⟩ := hrel
    have hsz := hkp.size
    obtain ⟨ao, co, rfl, q1, q2⟩ := ho.rd.shape
    have hcl := HC.out j
    unfold maxLen at q2
    rw [hcl] at ho q1 ⊢
    by_cases hlt : 32 * j < n
    · have hq : 32 * (j : Int) < (n : Int) := by omega
      have hp := HP.out j
      have hx := HX.out j
      have hs := HS.out j
      have he := HE.out j
      have htl := HT.out j
      have hjl : j + 1 ≤ 255 := by omega
      have hb := u8_ofNat (j + 1) hjl
      have hb1 := be_one (j + 1)
      rw [Int.natCast_add, Int.natCast_one] at hb
      rw [hb1] at hx
      obtain ⟨x, hxx⟩ : ∃ x, UInt8.ofNat (j + 1) = x := ⟨_, rfl⟩
      rw [hxx] at hb hx
      obtain ⟨T, hT⟩ : ∃ T, expP k info j = T := ⟨_, rfl⟩
      obtain ⟨L, hL⟩ : ∃ L, catB (expT k info) j = L := ⟨_, rfl⟩
      rw [hT] at ht hp hx
      rw [hL] at ho hcl hs
      have HXX := Lib.hid hx
      have HSS := Lib.hid hs
      have HEE := Lib.hid he
      have HTL := Lib.hid htl
      have hiw := hi.kp hkp
      have hkw := hk.kp hkp
      clear hx hs he hb1 hT hL htl
      go_wp2_with (at_builtin; first
        | (refine wpList_append_ow (o := ⟨some 26, _, _, _, _, _⟩) U rfl _ _ rfl wr.heap.size _ _ rfl (Ow.lit wr 5 wr.heap.size 0 #[] [] (Nat.le_refl _) rfl (by decide) rfl) _ T rfl (ht.kp ((Kp.refl _).alloc _)) (by simp; omega) (by simp) ?_; intro v1 x1 o1 g1 _; have k1 : Kp wr x1 := Kp.grown ((Kp.refl wr).alloc _) g1 (by intro k e; cases e; exact Nat.le_refl _); rw [List.nil_append] at o1)
        | (refine wpList_append_ow (o := ⟨some 28, _, _, _, _, _⟩) U rfl _ _ rfl wr.heap.size _ _ rfl o1 _ info rfl (hiw.kp k1) (by omega) k1.size ?_; intro v2 x2 o2 g2 _; have k2 : Kp wr x2 := Kp.grown k1 g2 o1.own_ge)
        | (refine wpList_append_ow (o := ⟨some 32, _, _, _, _, _⟩) U rfl _ _ rfl wr.heap.size _ _ rfl (o2.kp ((Kp.refl _).alloc _)) _ [x] rfl (Rd.box x2 5 _ x rfl) (by rw [List.length_append]; simp; omega) (k2.alloc _).size ?_; intro v3 x3 o3 g3 _; have k3 : Kp wr x3 := Kp.grown (k2.alloc _) g3 o2.own_ge))
      have hl3 : (T ++ info ++ [x]).length ≤ 1900 := by rw [List.length_append, List.length_append]; simp; omega
      refine (refMac_sum vk v3 k (T ++ info ++ [x]) _ (hkw.kp k3) o3.rd hkl hl3).mono ?_
      rw [← HXX.out]
      rintro e x4 ⟨⟨v4, rfl, o4⟩, k4⟩
      have k4' := k3.trans k4
      go_wp2_with (at_builtin; first
        | (refine wpList_append_ow (o := ⟨some 38, _, _, _, _, _⟩) U rfl _ _ rfl w.heap.size _ L rfl (ho.kp k4') _ (expT k info j) rfl o4.rd (by rw [HTL.out]; omega) (hkp.trans k4').size ?_; intro v5 x5 o5 g5 _; have hr5 := o4.rd.grown g5 (fun b o n' c e e2 => by have h1 := o4.own_ge b (by rw [e]; rfl); have h2 := ho.lt b e2.symm; have h3 := k3.size; omega); have k5 : Kp w x5 := Kp.grown (hkp.trans k4') g5 ho.own_ge))
      go_roundw
      case rel => exact ⟨j + 1, by omega, by go_num, by rw [HSS.out]; exact o5, by rw [HEE.out]; exact hr5, k5⟩
      case measure => simp [intOf]; omega
    · have hq : ¬ 32 * (j : Int) < (n : Int) := by omega
      have hfe := HF.out j (by omega)
      have HFE := Lib.hid hfe
      clear hfe ht
      have hnj : (n : Int) ≤ 32 * (j : Int) := by omega
      have hnc : (n : Int) ≤ (co : Int) := by omega
      go_wp2_with fail
      go_ret2
      exact ⟨⟨_, rfl, by rw [show expL k info n = (catB (expT k info) j).take n from HFE.out]; exact ho.rd.takes n (by omega)⟩, hkp⟩

set_option maxHeartbeats 1000000 in
theorem refExpand_any (vk vi : Value) (k info : List UInt8) (n : Int) (w : World) (hk : Rd w vk k) (hi : Rd w vi info) (hkl : k.length ≤ 2000) (hil : info.length ≤ 1800) :
    Calls Try.prog 10 #[vk, vi, .int .i64 n] w fun e w' => (∃ v, e = .returned (.tuple #[v, .int .i64 (expE n)]) ∧ Rd w' v (expR k info n)) ∧ Kp w w' := by
  by_cases h1 : n < 0
  · have hno := exp_no k info (.inl h1)
    rw [hno.1, hno.2]
    have d1 : decide (n < 0) = true := by simp [h1]
    go_enter Try.func10, Try.ntmps10
    go_wp2_with fail
    go_ret2
    exact ⟨⟨_, rfl, rd_nil _⟩, Kp.refl _⟩
  · by_cases h2 : 8160 < n
    · have hno := exp_no k info (.inr h2)
      rw [hno.1, hno.2]
      have d1 : decide (n < 0) = false := by simp; omega
      have d2 : decide (8160 < n) = true := by simp [h2]
      go_enter Try.func10, Try.ntmps10
      go_wp2_with fail
      go_ret2
      exact ⟨⟨_, rfl, rd_nil _⟩, Kp.refl _⟩
    · obtain ⟨n, rfl⟩ := Int.eq_ofNat_of_zero_le (show 0 ≤ n by omega)
      have hyes := exp_yes k info (show (n : Int) ≤ 8160 by omega)
      rw [hyes.1, hyes.2]
      exact refExpand_yes vk vi k info n w hk hi hkl hil (by omega)

set_option maxHeartbeats 2000000 in
theorem refLabel_any (vk : Value) (s : ByteArray) (vc : Value) (k ctx : List UInt8) (n : Int) (w : World) (hk : Rd w vk k) (hc : Rd w vc ctx) (hs : s.size ≤ 300) (hcl : ctx.length ≤ 1400) (hkl : k.length ≤ 2000) :
    Calls Try.prog 12 #[vk, .string s, vc, .int .i64 n] w fun e w' => (∃ v, e = .returned (.tuple #[v, .int .i64 (expE n)]) ∧ Rd w' v (labR k s.data.toList ctx n)) ∧ Kp w w' := by
  have U := u8
  have hsl : s.data.toList.length = s.size := rfl
  by_cases h1 : n < 0
  · have hno := exp_no k (labI s.data.toList ctx n.toNat) (.inl h1)
    unfold labR
    rw [hno.1, hno.2]
    have d1 : decide (n < 0) = true := by simp [h1]
    go_enter Try.func12, Try.ntmps12
    go_wp2_with fail
    go_ret2
    exact ⟨⟨_, rfl, rd_nil _⟩, Kp.refl _⟩
  · by_cases h2 : 8160 < n
    · have hno := exp_no k (labI s.data.toList ctx n.toNat) (.inr h2)
      unfold labR
      rw [hno.1, hno.2]
      have d1 : decide (n < 0) = false := by simp; omega
      have d2 : decide (8160 < n) = true := by simp [h2]
      go_enter Try.func12, Try.ntmps12
      go_wp2_with fail
      go_ret2
      exact ⟨⟨_, rfl, rd_nil _⟩, Kp.refl _⟩
    · obtain ⟨n, rfl⟩ := Int.eq_ofNat_of_zero_le (show 0 ≤ n by omega)
      have hll := labI_length s.data.toList ctx n (by omega) hcl
      have HR : Hid (labR k s.data.toList ctx n = expR k (labI s.data.toList ctx n) n) := rfl
      have hok : numOk (n : Int) 2 := ⟨by omega, by omega, by omega, by have : (256 : Int) ^ (2 : Int).toNat = 65536 := by decide
                                                                        omega⟩
      have e1 := num_yes hok
      have e1b : numB (n : Int) 2 = be 2 n := by rw [e1.2]; rfl
      have hnum := Lib.hid (fun W => refNum_any n 2 W (by omega))
      rw [e1.1, e1b] at hnum
      have e3 := row_ok (x := mlsB ++ s.data.toList) (by rw [List.length_append, hsl]; simp [mlsB]; omega)
      have e2 := row_ok (x := ctx) (by omega)
      have hrow1 := Lib.hid (fun W v hW => refRow_any v (mlsB ++ s.data.toList) W hW)
      have hrow2 := Lib.hid (fun W hW => refRow_any vc ctx W hW)
      rw [e3.1] at hrow1
      rw [e2.1] at hrow2
      have hcv := fun W (S : ByteArray) => Lib.run_convert_string_bytes (P := Try.prog) W 9 22 5 S Try.underlying9 Try.underlying22 Try.underlying5
      have HI : Hid (labI s.data.toList ctx n = be 2 n ++ rowB (mlsB ++ s.data.toList) ++ rowB ctx) := rfl
      have hln : (be 2 n).length = 2 := be_length _ _
      have hl2 : (be 2 n).length + (rowB (mlsB ++ s.data.toList)).length + (rowB ctx).length ≤ 1800 := by rw [HI.out, List.length_append, List.length_append] at hll; exact hll
      have hsz : (⟨#[77, 76, 83, 32, 49, 46, 48, 32]⟩ ++ s : ByteArray).size = 8 + s.size := by rw [ByteArray.size_append]; rfl
      have hdt : (⟨#[77, 76, 83, 32, 49, 46, 48, 32]⟩ ++ s : ByteArray).data.toList = mlsB ++ s.data.toList := by rw [ByteArray.data_append, Array.toList_append]; rfl
      have hrb := Lib.hid (fun W => show Rd (Lib.bytesWorld W 5 (⟨#[77, 76, 83, 32, 49, 46, 48, 32]⟩ ++ s)) (.slice (some ⟨W.heap.size, 0, none⟩) (8 + s.size) (grownCap W (8 + s.size) 0 5)) (mlsB ++ s.data.toList) from by
        have := rd_bytesWorld W 5 (⟨#[77, 76, 83, 32, 49, 46, 48, 32]⟩ ++ s) (by rw [hsz]; omega)
        rw [hdt, hsz] at this
        exact this)
      have hkb := Lib.hid (fun W => kp_bytesWorld W 5 (⟨#[77, 76, 83, 32, 49, 46, 48, 32]⟩ ++ s))
      have HD := Lib.hid hsz
      have d1 : decide ((n : Int) < 0) = false := by simp
      have d2 : decide (8160 < (n : Int)) = false := by simp; omega
      have HL2 := Lib.hid hl2
      have HX := Lib.hid (fun W v5 (hk' : Rd W vk k) (h5 : Rd W v5 (labI s.data.toList ctx n)) => refExpand_any vk v5 k (labI s.data.toList ctx n) n W hk' h5 hkl hll)
      clear hok e1 e1b e3 e2 hll hsz hdt hl2 hln
      rw [HR.out]
      go_enter Try.func12, Try.ntmps12
      go_wp2_with (first
        | (go_at_call 26; refine (hnum.out _).mono ?_; rintro e w1 ⟨v1, rfl, o1, k1⟩; obtain ⟨a1, n1, c1, rfl⟩ := o1.rd.sl))
      refine (hrow1.out _ _ (hrb.out w1)).mono ?_
      rintro e w2 ⟨v2, rfl, o2, k2⟩
      obtain ⟨a2, n2, c2, rfl⟩ := o2.rd.sl
      have kb := (hkb.out w1).trans k2
      have hs2 := kb.size
      have hcc := (hc.kp k1).kp kb
      go_wp2_with fail
      refine (hrow2.out _ hcc).mono ?_
      rintro e w3 ⟨v3, rfl, o3, k3⟩
      obtain ⟨a3, n3, c3, rfl⟩ := o3.rd.sl
      have k13 := kb.trans k3
      have kw3 := k1.trans k13
      have r2 := o2.rd.kp k3
      have o13 := o1.kp k13
      have hb1 : ∀ b, (Value.slice a1 n1 c1).ownBlock = some b → b < w2.heap.size := fun b e => by have := o1.lt b e; omega
      go_wp2_with (at_builtin; first
        | (refine wpList_append_ow (o := ⟨some 42, _, _, _, _, _⟩) U rfl _ _ rfl w.heap.size _ (be 2 n) rfl o13 _ (rowB (mlsB ++ s.data.toList)) rfl r2 (by have := HL2.out; omega) kw3.size ?_; intro v4 w4 o4 g4 _; have r3 := o3.rd.grown g4 (fun b o n' c' e e2 => by have h1 := o3.own_ge b (by rw [e]; rfl); have h2 := hb1 b e2.symm; omega); have k4 : Kp w w4 := Kp.grown kw3 g4 o1.own_ge)
        | (refine wpList_append_ow (o := ⟨some 44, _, _, _, _, _⟩) U rfl _ _ rfl w.heap.size _ (be 2 n ++ rowB (mlsB ++ s.data.toList)) rfl o4 _ (rowB ctx) rfl r3 (by have := HL2.out; rw [List.length_append]; omega) k4.size ?_; intro v5 w5 o5 g5 _; have k5 : Kp w w5 := Kp.grown k4 g5 o4.own_ge))
      refine (HX.out _ _ (hk.kp k5) (by rw [HI.out]; exact o5.rd)).mono ?_
      rintro e w6 ⟨⟨v6, rfl, r6⟩, k6⟩
      go_wp2_with fail
      go_ret2
      exact ⟨⟨_, rfl, r6⟩, k5.trans k6⟩

set_option maxHeartbeats 1000000 in
theorem refDerive_any (vk : Value) (s : ByteArray) (k : List UInt8) (w : World) (hk : Rd w vk k) (hs : s.size ≤ 300) (hkl : k.length ≤ 2000) :
    Calls Try.prog 14 #[vk, .string s] w fun e w' => (∃ v, e = .returned (.tuple #[v, .int .i64 0]) ∧ Rd w' v (expL k (labI s.data.toList [] 32) 32)) ∧ Kp w w' := by
  have HL := Lib.hid (refLabel_any vk s (.slice none 0 0) k [] 32 w hk (rd_nil w) hs (by simp) hkl)
  have e1 : expE 32 = 0 := rfl
  have e2 : labR k s.data.toList [] 32 = expL k (labI s.data.toList [] 32) 32 := rfl
  rw [e1, e2] at HL
  go_enter Try.func14, Try.ntmps14
  go_wp2_with (first | (go_at_call 12; refine HL.out.mono ?_; rintro e w1 ⟨⟨v1, rfl, o1⟩, k1⟩; obtain ⟨a1, n1, c1, rfl⟩ := o1.sl))
  go_ret2
  exact ⟨⟨_, rfl, o1⟩, k1⟩
end Go.Proofs.Ytacgafefefhmeaa

/- pyxref04.Pass. -/
set_option linter.unusedVariables false
set_option linter.unusedSimpArgs false
namespace Go.Proofs.Ytacgafefefhmeaa
open Go.RowKit

set_option maxRecDepth 100000 in
set_option maxHeartbeats 4000000 in
theorem refPass_yes (vk vi : Value) (k info : List UInt8) (r n : Nat) (w : World) (hk : Rd w vk k) (hi : Rd w vi info) (hkl : k.length ≤ 2000) (hil : info.length ≤ 1800) (hr1 : 1 ≤ r) (hr2 : (r : Int) ≤ 1048576) (hn : n ≤ 1024) :
    Calls Try.prog 19 #[vk, vi, .int .i64 r, .int .i64 n] w fun e w' => (∃ v, e = .returned (.tuple #[v, .int .i64 0]) ∧ Rd w' v (passL k info r n)) ∧ Kp w w' := by
  have U := u8
  obtain ⟨ai, ci, rfl, _, _⟩ := hi.shape
  have d1 : decide ((r : Int) < 1) = false := by simp; omega
  have d2 : decide (1048576 < (r : Int)) = false := by simp; omega
  have d3 : decide ((n : Int) < 0) = false := by simp
  have d4 : decide (1024 < (n : Int)) = false := by simp; omega
  have HC := Lib.hid (catB_length (passU k info r) (passU_length k info r))
  have HS : Hid (∀ j, catB (passU k info r) (j + 1) = catB (passU k info r) j ++ passU k info r j) := fun _ => rfl
  have HF := Lib.hid (fun j h => firstB_eq (passU k info r) (passU_length k info r) n j h)
  have HT := Lib.hid (fun t h j => tagN_length k t h j)
  have HM := Lib.hid (fun t h j => mixT_length k t h j)
  have HN : Hid (∀ t j, mixT k t (j + 1) = xorL (mixT k t j) (tagN k t (j + 1))) := fun _ _ => rfl
  have HG : Hid (∀ t j, tagN k t (j + 1) = macB k (tagN k t j)) := fun _ _ => rfl
  have HB := Lib.hid (fun b => macB_length k b)
  have HU : Hid (∀ j, passU k info r j = mixT k (macB k (info ++ be 4 (j + 1))) (r - 1)) := fun _ => rfl
  have hnum : Hid (∀ (W : World) (j : Nat), (j : Int) ≤ 100 → Calls Try.prog 26 #[.int .i64 ((j : Int) + 1), .int .i64 4] W fun e w' => ∃ v, e = .returned (.tuple #[v, .int .i64 0]) ∧ Ow 5 w' W.heap.size v (be 4 (j + 1)) ∧ Kp W w') := fun W j hj => by
    have hok : numOk ((j : Int) + 1) 4 := ⟨by omega, by omega, by omega, by have : (256 : Int) ^ (4 : Int).toNat = 4294967296 := by decide
                                                                            omega⟩
    have e1 := num_yes hok
    have e2 : numB ((j : Int) + 1) 4 = be 4 (j + 1) := by rw [e1.2]; rfl
    have := refNum_any ((j : Int) + 1) 4 W (by omega)
    rw [e1.1, e2] at this
    exact this
  go_enter Try.func19, Try.ntmps19
  go_wp2_with fail
  go_loopw [10, 11] (fun vo p wr => ∃ j : Nat, 32 * j < n + 32 ∧ p = .int .i64 ((j : Int) + 1) ∧ Ow 5 wr w.heap.size vo (catB (passU k info r) j) ∧ Kp w wr) (fun _ p _ => 300 - (intOf p).toNat)
  case atStart => exact ⟨0, by omega, rfl, Ow.nil _ _ _, Kp.refl _⟩
  case round =>
    obtain ⟨wo, rfl⟩ : ∃ wo, wo = wr := ⟨_, rfl⟩
    obtain ⟨j, hj, rfl, ho, hkp⟩ := hrel
    have hsz := hkp.size
    obtain ⟨ao, co, rfl, q1, q2⟩ := ho.rd.shape
    have hcl := HC.out j
    unfold maxLen at q2
    rw [hcl] at ho q1 ⊢
    by_cases hlt : 32 * j < n
    · have hq : 32 * (j : Int) < (n : Int) := by omega
      have hs := HS.out j
      have hu := HU.out j
      have hb := HB.out (info ++ be 4 (j + 1))
      have hbl := be_length 4 (j + 1)
      have hjb : (j : Int) ≤ 100 := by omega
      have HNJ := Lib.hid (fun W => hnum.out W j hjb)
      have hiw := hi.kp hkp
      have hkw := hk.kp hkp
      obtain ⟨t, ht⟩ : ∃ t, macB k (info ++ be 4 (j + 1)) = t := ⟨_, rfl⟩
      rw [ht] at hu hb
      have HTT := Lib.hid ht
      have HUU := Lib.hid hu
      have HSS := Lib.hid hs
      have HT' := Lib.hid (HT.out t hb)
      have HM' := Lib.hid (HM.out t hb)
      obtain ⟨L, hL⟩ : ∃ L, catB (passU k info r) j = L := ⟨_, rfl⟩
      rw [hL] at ho hcl
      have HLL := Lib.hid hL
      clear ht hu hs hL
      obtain ⟨P, hP⟩ : ∃ P, be 4 (j + 1) = P := ⟨_, rfl⟩
      rw [hP] at hbl HTT HNJ
      clear hP
      go_wp2_with (first
        | (go_at_call 26; refine (HNJ.out _).mono ?_; rintro e x0 ⟨v0, rfl, o0, k0⟩; obtain ⟨a0, n0, c0, rfl⟩ := o0.rd.sl)
        | (at_builtin; first
          | (refine wpList_append_ow (o := ⟨some 46, _, _, _, _, _⟩) U rfl _ _ rfl x0.heap.size _ _ rfl (Ow.lit x0 5 x0.heap.size 0 #[] [] (Nat.le_refl _) rfl (by decide) rfl) _ info rfl ((hiw.kp k0).kp ((Kp.refl _).alloc _)) (by simp; omega) (by simp) ?_; intro v1 x1 o1 g1 _; have k1 : Kp x0 x1 := Kp.grown ((Kp.refl x0).alloc _) g1 (by intro k e; cases e; exact Nat.le_refl _); rw [List.nil_append] at o1)
          | (refine wpList_append_ow (o := ⟨some 48, _, _, _, _, _⟩) U rfl _ _ rfl x0.heap.size _ _ rfl o1 _ P rfl (o0.rd.kp k1) (by omega) k1.size ?_; intro v2 x2 o2 g2 _; have k2 : Kp x0 x2 := Kp.grown k1 g2 o1.own_ge)))
      refine (refMac_sum vk v2 k (info ++ P) _ (hkw.kp (k0.trans k2)) o2.rd hkl (by rw [List.length_append]; omega)).mono ?_
      rw [HTT.out]
      rintro e x3 ⟨⟨v3, rfl, o3⟩, k3⟩
      have k03 := (k0.trans k2).trans k3
      go_wp2_with (at_builtin; refine wpList_append_ow (o := ⟨some 52, _, _, _, _, _⟩) U rfl _ _ rfl x3.heap.size _ _ rfl (Ow.lit x3 5 x3.heap.size 0 #[] [] (Nat.le_refl _) rfl (by decide) rfl) _ t rfl (o3.rd.kp ((Kp.refl _).alloc _)) (by simp; omega) (by simp) ?_; intro v4 x4 o4 g4 _; have k4 : Kp x3 x4 := Kp.grown ((Kp.refl x3).alloc _) g4 (by intro k e; cases e; exact Nat.le_refl _); rw [List.nil_append] at o4)
      obtain ⟨g, c, rfl, hg1, hg2, hg3, hg4⟩ := ow_some o4 (by omega)
      unfold maxLen at hg4
      rw [hb] at hg3 o4 ⊢
      have o4' : Ow 5 x4 x3.heap.size (.slice (some ⟨g, 0, none⟩) 32 c) (mixT k t 0) := o4
      have r4 : Rd x4 v3 (tagN k t 0) := o3.rd.kp k4
      have k04 := k03.trans k4
      have hgw : wo.heap.size ≤ g := by have := k03.size; omega
      clear o4
      go_loopw [14, 16] (fun v p W => ∃ q : Nat, q + 1 ≤ r ∧ p = .int .i64 ((q : Int) + 1) ∧ Rd W v (tagN k t q) ∧ Ow 5 W x3.heap.size (.slice (some ⟨g, 0, none⟩) 32 c) (mixT k t q) ∧ Kp wo W ∧ x4.heap.size ≤ W.heap.size) (fun _ p _ => r - (intOf p).toNat)
      case atStart => exact ⟨0, by omega, rfl, r4, o4', k04, Nat.le_refl _⟩
      case round =>
        clear r4 o4' k04
        obtain ⟨q, hqr, rfl, hr, hso, hkq, hzq⟩ := hrel
        obtain ⟨wq, rfl⟩ : ∃ wq, wq = wr := ⟨_, rfl⟩
        by_cases hlt3 : q + 1 < r
        · have hji : (q : Int) + 1 < (r : Int) := by omega
          have hT1 := HT'.out (q + 1)
          have hMj := HM'.out q
          have hMn := HM'.out (q + 1)
          have hNj := HN.out t q
          have hGj := HG.out t q
          have hTj := HT'.out q
          go_wp2_with fail
          refine (refMac_sum vk _ k (tagN k t q) _ (hkw.kp hkq) hr hkl (by omega)).mono ?_
          rintro e x5 ⟨⟨v5, rfl, o5⟩, k5⟩
          rw [← hGj] at o5
          obtain ⟨M, hM⟩ : ∃ M, mixT k t q = M := ⟨_, rfl⟩
          obtain ⟨X, hX⟩ : ∃ X, mixT k t (q + 1) = X := ⟨_, rfl⟩
          obtain ⟨V, hV⟩ : ∃ V, tagN k t (q + 1) = V := ⟨_, rfl⟩
          rw [hV] at o5 hT1 hNj
          rw [hM] at hso hMj hNj
          rw [hX] at hMn hNj
          have HX := Lib.hid hX
          have HV := Lib.hid hV
          have HZ := Lib.hid (fun k hk => mixB_set M X k (by omega) hk)
          have HA := Lib.hid (fun k hk => mixB_at M X k (by omega) hk)
          have HXG := Lib.hid (fun k hk => xorL_get M V k hk (by omega))
          rw [← hNj] at HXG
          have ho2 := hso.kp k5
          have hm00 := mixB_zero M X
          have hmall : mixB M X 32 = X := by rw [← hMn]; exact mixB_all M X (by omega)
          have HMA := Lib.hid hmall
          have HML := Lib.hid (fun k hk => mixB_length M X k (by omega) hk)
          rw [← hm00] at ho2
          obtain ⟨g2, c2, e2, hb2, hg22, hq1, hq2⟩ := ow_some o5 (by omega)
          rw [hT1] at e2
          subst e2
          rw [hT1] at hq1
          unfold maxLen at hq2
          have hsz2 := k5.size
          have kk2 := hkq.trans k5
          clear hM hX hV hNj hGj hmall hm00 hso hr
          go_wp2_with fail
          go_loopw [17] (fun p W => ∃ i : Nat, i ≤ 32 ∧ p = .int .i64 i ∧ Ow 5 W x3.heap.size (.slice (some ⟨g, 0, none⟩) 32 c) (mixB M X i) ∧ Rd W (.slice (some ⟨g2, 0, none⟩) 32 c2) V ∧ Kp wo W ∧ x4.heap.size ≤ W.heap.size) (fun p _ => 32 - (intOf p).toNat)
          case atStart => exact ⟨0, by omega, rfl, ho2, o5.rd, kk2, by omega⟩
          case round =>
            clear ho2 o5 kk2
            obtain ⟨i, hi32, rfl, ho3, hr, hkq2, hzq2⟩ := hrel
            by_cases hlt2 : i < 32
            · have hki : (i : Int) < 32 := by omega
              have hml := HML.out i (by omega)
              have hml32 : (mixB M X i).length = 32 := by omega
              rw [← hml32] at ho3
              obtain ⟨c1, f1, o6, _, hgl⟩ := ow_set ho3 i (by omega) (M.getD i 0 ^^^ V.getD i 0) (M.getD i 0) (HA.out i (by omega))
              rw [HZ.out i (by omega) _ (HXG.out i (by omega)), hml32] at o6
              obtain ⟨_, _, e5, _, hcell⟩ := hr.at i (by omega)
              cases e5
              have hc2 := hcell i (by omega)
              simp only [Nat.zero_add] at hc2
              have hne : g2 ≠ g := by omega
              have hxo := ub8_xor (M.getD i 0) (V.getD i 0)
              generalize hmx : M.getD i 0 = mx at *
              generalize hux : V.getD i 0 = ux at *
              clear hml hml32 ho3 hcell hmx hux
              generalize hz : mx ^^^ ux = z at *
              clear hz
              have hrs : Rd (wr.setCell ⟨g, i, none⟩ (.int .u8 (z.toNat : Int))) (.slice (some ⟨g2, 0, none⟩) 32 c2) V := rd_same hr ((Same.refl (fun b => b = g) wr).setCell _ _ rfl) (fun b o c e => by simp only [Value.slice.injEq, Option.some.injEq, Addr.mk.injEq] at e; omega)
              go_wp2_with fail
              go_region
              go_wp2_with fail
              go_roundw
              case rel => exact ⟨i + 1, by omega, by go_num, o6.kp (Kp.refl _).drew, hrs.kp (Kp.refl _).drew, (Below.setCell (p := ⟨g, i, none⟩) hkq2 hgw _).drew, by simpa using hzq2⟩
              case measure => simp [intOf]; omega
            · obtain rfl : i = 32 := by omega
              go_wp2_with fail
              go_roundw
              case rel => exact ⟨q + 1, by omega, by go_num, by rw [HV.out]; exact hr, by rw [HX.out, ← HMA.out]; exact ho3, hkq2, hzq2⟩
              case measure => simp [intOf]; omega
        · obtain rfl : r = q + 1 := by omega
          have hnr : ¬ (q : Int) + 1 < ((q + 1 : Nat) : Int) := by omega
          have hu2 := HUU.out
          rw [Nat.add_sub_cancel] at hu2
          rw [← hu2] at hso
          have hpl : (passU k info (q + 1) j).length = 32 := passU_length _ _ _ _
          have o9 := ho.kp hkq
          obtain ⟨pL, hpL⟩ : ∃ pL, passU k info (q + 1) j = pL := ⟨_, rfl⟩
          rw [hpL] at hso hpl
          have HPL := Lib.hid hpL
          clear hpL hu2
          go_wp2_with (at_builtin; refine wpList_append_ow U rfl _ _ rfl w.heap.size _ L rfl o9 _ pL rfl hso.rd (by omega) (hkp.trans hkq).size ?_; intro v7 x7 o7 g7 _; have HK7 := Lib.hid (show Kp w x7 from Kp.grown (hkp.trans hkq) g7 ho.own_ge))
          go_roundw
          case rel => exact ⟨j + 1, by omega, by go_num, by rw [HSS.out, HLL.out, HPL.out]; exact o7, HK7.out⟩
          case measure => simp [intOf]; omega
    · have hq : ¬ 32 * (j : Int) < (n : Int) := by omega
      have hfe := HF.out j (by omega)
      have HFE := Lib.hid hfe
      clear hfe
      have hnj : (n : Int) ≤ 32 * (j : Int) := by omega
      have hnc : (n : Int) ≤ (co : Int) := by omega
      go_wp2_with fail
      go_ret2
      exact ⟨⟨_, rfl, by rw [show passL k info r n = (catB (passU k info r) j).take n from HFE.out]; exact ho.rd.takes n (by omega)⟩, hkp⟩

set_option maxHeartbeats 1000000 in
theorem refPass_any (vk vi : Value) (k info : List UInt8) (r n : Int) (w : World) (hk : Rd w vk k) (hi : Rd w vi info) (hkl : k.length ≤ 2000) (hil : info.length ≤ 1800) :
    Calls Try.prog 19 #[vk, vi, .int .i64 r, .int .i64 n] w fun e w' => (∃ v, e = .returned (.tuple #[v, .int .i64 (passE r n)]) ∧ Rd w' v (passR k info r n)) ∧ Kp w w' := by
  by_cases h1 : r < 1 ∨ 1048576 < r ∨ n < 0 ∨ 1024 < n
  · have hno := pass_no k info h1
    rw [hno.1, hno.2]
    by_cases q1 : r < 1
    · have d1 : decide (r < 1) = true := by simp; omega
      go_enter Try.func19, Try.ntmps19
      go_wp2_with fail
      go_ret2
      exact ⟨⟨_, rfl, rd_nil _⟩, Kp.refl _⟩
    · by_cases q2 : 1048576 < r
      · have d1 : decide (r < 1) = false := by simp; omega
        have d2 : decide (1048576 < r) = true := by simp; omega
        go_enter Try.func19, Try.ntmps19
        go_wp2_with fail
        go_ret2
        exact ⟨⟨_, rfl, rd_nil _⟩, Kp.refl _⟩
      · by_cases q3 : n < 0
        · have d1 : decide (r < 1) = false := by simp; omega
          have d2 : decide (1048576 < r) = false := by simp; omega
          have d3 : decide (n < 0) = true := by simp; omega
          go_enter Try.func19, Try.ntmps19
          go_wp2_with fail
          go_ret2
          exact ⟨⟨_, rfl, rd_nil _⟩, Kp.refl _⟩
        · have d1 : decide (r < 1) = false := by simp; omega
          have d2 : decide (1048576 < r) = false := by simp; omega
          have d3 : decide (n < 0) = false := by simp; omega
          have d4 : decide (1024 < n) = true := by simp; omega
          go_enter Try.func19, Try.ntmps19
          go_wp2_with fail
          go_ret2
          exact ⟨⟨_, rfl, rd_nil _⟩, Kp.refl _⟩
  · obtain ⟨n, rfl⟩ := Int.eq_ofNat_of_zero_le (show 0 ≤ n by omega)
    obtain ⟨r, rfl⟩ := Int.eq_ofNat_of_zero_le (show 0 ≤ r by omega)
    have hyes := pass_yes k info (show 1 ≤ r by omega) (show (r : Int) ≤ 1048576 by omega) (show (n : Int) ≤ 1024 by omega)
    rw [hyes.1, hyes.2]
    exact refPass_yes vk vi k info r n w hk hi hkl hil (by omega) (by omega) (by omega)
end Go.Proofs.Ytacgafefefhmeaa

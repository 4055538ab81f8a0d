import Derived.Test.YtbhkdlpdolioaaaQ15
import Derived.Test.YtbhkdlpdolioaaaQ28
import Derived.Test.YtbhkdlpdolioaaaQ35
set_option linter.unusedVariables false
set_option linter.unusedSimpArgs false
namespace Go.Proofs.Ytbhkdlpdolioaaa
open Go.RowKit
theorem aaN (v : Value) (l : List UInt8) (w : World) (h : Rd w v l) :
  Calls Try.prog 41 #[v] w fun e w' => (∃ u, e = .returned u ∧ Ow 5 w' w.heap.size u (rowB l)) ∧ Kp w w' := by
 have HR := Lib.hid (aa9 v l w h);obtain ⟨a, n, c, rfl⟩ := h.sl;clear h;go_enter Try.func41, Try.ntmps41;go_wp2_with fail;refine HR.out.mono ?_;rintro _ w1 ⟨u, rfl, o1, k1⟩;go_wp2_with fail;go_ret;exact ⟨⟨_, rfl, o1⟩, k1⟩
theorem aaZ (vk vc : Value) (s : ByteArray) (k c : List UInt8) (w : World) (hk : Rd w vk k) (hc : Rd w vc c) (hs : s.size ≤ 300) (hcl : c.length ≤ 1400) (hkl : k.length ≤ 2000) :
  Calls Try.prog 43 #[vk, .string s, vc] w fun e w' => (∃ u, e = .returned u ∧ Rd w' u (oneS k s c) ∧ aaD w.heap.size u) ∧ Kp w w' := by
 have HL := Lib.hid (abN vk s vc k c 32 w hk hc hs hcl hkl);have HM : Hid (labR k s.data.toList c 32 = oneS k s c) := rfl;rw [HM.out] at HL;obtain ⟨a1, n1, c1, rfl⟩ := hk.sl;obtain ⟨a2, n2, c2, rfl⟩ := hc.sl;clear hk hc;go_enter Try.func43, Try.ntmps43;go_wp2_with fail;refine HL.out.mono ?_;rintro _ w1 ⟨⟨u, rfl, o1, n1⟩, k1⟩;go_wp2_with fail;go_ret;exact ⟨⟨_, rfl, o1, n1⟩, k1⟩
theorem aec (vk : Value) (s : ByteArray) (k : List UInt8) (w : World) (hk : Rd w vk k) (hs : s.size ≤ 300) (hkl : k.length ≤ 2000) :
  Calls Try.prog 33 #[vk, .string s] w fun e w' => (∃ u, e = .returned u ∧ Rd w' u (oneS k s []) ∧ aaD w.heap.size u) ∧ Kp w w' := by
 have HL := Lib.hid (adG vk s k w hk hs hkl);have HM : Hid (expL k (labI s.data.toList [] 32) 32 = oneS k s []) := rfl;rw [HM.out] at HL;obtain ⟨a1, n1, c1, rfl⟩ := hk.sl;clear hk;go_enter Try.func33, Try.ntmps33;go_wp2_with fail;refine HL.out.mono ?_;rintro _ w1 ⟨⟨u, rfl, o1, n1⟩, k1⟩;go_wp2_with fail;go_ret;exact ⟨⟨_, rfl, o1, n1⟩, k1⟩
set_option maxHeartbeats 1000000 in
theorem adH (va vb vc : Value) (a b c : List UInt8) (w : World) (ha : Rd w va a) (hb : Rd w vb b) (hc : Rd w vc c) (hcl : c.length ≤ 1400) (hal : a.length ≤ 1000) (hbl : b.length ≤ 1000) :
  Calls Try.prog 15 #[va, vb, vc] w fun e w' => (∃ v, e = .returned (.tuple #[v, .int .i64 (agE a b)]) ∧ Rd w' v (agR a b aar c)) ∧ Kp w w' := by
 have HX := Lib.hid (aaY va vb a b w ha hb (by omega) (by omega));have HL := Lib.hid (fun W v (k : Kp w W) (h : Rd W v (macB a b)) => aaZ v vc aar (macB a b) c W h (hc.kp k) (by decide) hcl (by rw [aaA]; omega));obtain ⟨a1, c1, rfl, _, q1⟩ := ha.shape;obtain ⟨a2, c2, rfl, _, q2⟩ := hb.shape;obtain ⟨a3, n3, c3, rfl⟩ := hc.sl;by_cases h1 : a.length = 32
 ·by_cases h2 : b.length = 32
  ·rw [(abj h1 h2 aar c).1, (abj h1 h2 aar c).2]
   rw [h1] at HX ⊢;rw [h2] at HX ⊢;unfold aar at *;clear ha hb hc h1 h2;go_enter Try.func15, Try.ntmps15;go_wp2_with fail;refine HX.out.mono ?_;rintro _ w1 ⟨⟨v1, rfl, o1⟩, k1⟩;obtain ⟨a4, n4, c4, rfl⟩ := o1.rd.sl;go_wp2_with fail;refine (HL.out _ _ k1 o1.rd).mono ?_;rintro _ w2 ⟨⟨v2, rfl, o2, _⟩, k2⟩;go_wp2_with fail;go_ret2;exact ⟨⟨_, rfl, o2⟩, k1.trans k2⟩
  ·rw [(ac1 (fun h => h2 h.2) aar c).1, (ac1 (fun h => h2 h.2) aar c).2]
   rw [h1];have d2 : ¬ (b.length : Int) = 32 := by omega
   clear ha hb hc h1 h2;go_enter Try.func15, Try.ntmps15;go_wp2_with fail;go_ret2;exact ⟨⟨_, rfl, aas _⟩, Kp.refl _⟩
 ·rw [(ac1 (fun h => h1 h.1) aar c).1, (ac1 (fun h => h1 h.1) aar c).2]
  have d1 : ¬ (a.length : Int) = 32 := by omega
  clear ha hb hc h1;go_enter Try.func15, Try.ntmps15;go_wp2_with fail;go_ret2;exact ⟨⟨_, rfl, aas _⟩, Kp.refl _⟩
set_option maxRecDepth 100000 in
set_option maxHeartbeats 2000000 in
theorem adI (v : Value) (ls : List (List UInt8)) (w : World) (h : RL w v ls) (hn : ls.length ≤ 1000) (hl : ∀ k, k < ls.length → (ls.getD k []).length ≤ 2000) :
  Calls Try.prog 21 #[v] w fun e w' => (∃ v, e = .returned v ∧ Rd w' v (shF ls ls.length)) ∧ Kp w w' := by
 obtain ⟨a, c, rfl, h1, h2⟩ := h.shape;unfold maxLen at h2;have HS : Hid (∀ k, shF ls (k + 1) = macB (shF ls k) (oneS (ls.getD k []) aaL (be 2 k))) := fun _ => rfl
 have HSL := Lib.hid (acr ls);have HZ := Lib.hid (afv ls);have HLL := Lib.hid hl;clear hl;go_enter Try.func21, Try.ntmps21;go_wp2_with (at_make; refine aal (z := .int .u8 0) (b := 1) Try.underlying22 Try.info5 rfl (by decide) rfl _ _ rfl 32 rfl rfl (by omega) ?_; intro w1 hw1; have o1 : Hid (Rd w1 (.slice (some ⟨w.heap.size, 0, none⟩) 32 32) (shF ls 0)) := (by rw [hw1]; exact (HZ.out w).rd); have k1 : Hid (Kp w w1) := (by rw [hw1]; exact (Kp.refl w).alloc _); clear hw1)
 go_loopw [3, 4] (fun v i wr => ∃ k : Nat, k ≤ ls.length ∧ i = .int .i64 k ∧ Rd wr v (shF ls k) ∧ Kp w wr) (fun _ i _ => ls.length - (intOf i).toNat)
 case atStart => exact ⟨0, by omega, rfl, o1.out, k1.out⟩
 case round =>
  obtain ⟨k, hk, rfl, ho, hkp⟩ := hrel;by_cases hlt : k < ls.length
  ·obtain ⟨b, off, rfl, _, hcell⟩ := h.at k hlt
   obtain ⟨u, hcu, hru⟩ := hcell k hlt;have hcu' := hkp.cell hcu;have HR := Lib.hid (hru.kp hkp);obtain ⟨au, nu, cu, rfl⟩ := hru.sl;have HNUM := Lib.hid (fun W => abu (k : Int) 2 W (by omega));rw [(adC (show k ≤ 1000 by omega)).1, (adC (show k ≤ 1000 by omega)).2] at HNUM;have hlx := HLL.out k hlt;have hsn := HS.out k;have hsl := HSL.out k;have hb2 : (be 2 k).length = 2 := aag _ _;have HO := Lib.hid ho;obtain ⟨ao, no, co, rfl⟩ := ho.sl;generalize shF ls k = Y at *;generalize ls.getD k [] = X at *;generalize be 2 k = Z at *;have HPL := Lib.hid (aap X aaL Z);have HL := Lib.hid (fun W v (kW : Kp wr W) (k' : Rd W v Z) => aaZ (.slice au nu cu) v aaL X Z W (HR.out.kp kW) k' (by decide) (by omega) hlx);have HX := Lib.hid (fun W v (kW : Kp wr W) (k' : Rd W v (oneS X aaL Z)) => aaY (.slice ao no co) v Y (oneS X aaL Z) W (HO.out.kp kW) k' (by omega) (by rw [HPL.out]; omega));rw [← hsn] at HX;unfold aaL at *;have i1 : (k : Int) < (ls.length : Int) := by omega
   have i2 : ¬ (k : Int) < 0 := by omega
   clear hcell hru hcu ho hsn HS HSL HLL HZ o1 k1 h;go_wp2_with (first
    | (go_at_call 40; refine (HNUM.out _).mono ?_; rintro _ w2 ⟨v2, rfl, o2, k2⟩; obtain ⟨a2, n2, c2, rfl⟩ := o2.rd.sl; have hcu2 := k2.cell hcu')
    | (go_at_call 43; refine (HL.out _ _ k2 o2.rd).mono ?_; rintro _ w3 ⟨⟨v3, rfl, o3, _⟩, k3⟩; obtain ⟨a3, n3, c3, rfl⟩ := o3.sl)
    | (go_at_call 31; refine (HX.out _ _ (k2.trans k3) o3).mono ?_; rintro _ w4 ⟨⟨v4, rfl, o4⟩, k4⟩; obtain ⟨a4, n4, c4, rfl⟩ := o4.rd.sl; have k24 := hkp.trans (k2.trans k3)))
   go_roundw
   case rel => exact ⟨k + 1, by omega, by go_num, o4.rd, k24.trans k4⟩
   case measure => simp [intOf]; omega
  ·obtain rfl : k = ls.length := by omega
   go_wp2_with fail;go_ret;exact ⟨⟨_, rfl, ho⟩, hkp⟩
set_option maxRecDepth 100000 in
set_option maxHeartbeats 2000000 in
theorem ac3 (vg vt vl : Value) (g t l : List UInt8) (n : Int) (w : World) (hg : Rd w vg g) (ht : Rd w vt t) (hl : Rd w vl l) (hn : -9223372036854775808 ≤ n ∧ n ≤ 9223372036854775807) (h1 : g.length ≤ 255) (h2 : t.length = 32) (h3 : l.length = 32) (h4 : abt n 6) :
  Calls Try.prog 13 #[vg, .int .i64 n, vt, vl] w fun e w' => (∃ v, e = .returned (.tuple #[v, .int .i64 0]) ∧ Ow 5 w' w.heap.size v (rowB g ++ numB n 6 ++ (rowB t ++ rowB l))) ∧ Kp w w' := by
 have U := u8;have HN := Lib.hid (abu n 6 w hn);rw [(aaS h4).1] at HN;have HG := Lib.hid (fun W (k : Kp w W) => aaN vg g W (hg.kp k));have HT := Lib.hid (fun W (k : Kp w W) => aaN vt t W (ht.kp k));have HL := Lib.hid (fun W (k : Kp w W) => aaN vl l W (hl.kp k));have p1 := aaM (l := g) (by omega);have p2 := aaM (l := t) (by omega);have p3 := aaM (l := l) (by omega);have p4 : (numB n 6).length ≤ 6 := by rw [(aaS h4).2, aag]; decide
 have HP : Hid ((rowB g).length ≤ 300 ∧ (rowB t).length ≤ 300 ∧ (rowB l).length ≤ 300 ∧ (numB n 6).length ≤ 6) := ⟨by omega, by omega, by omega, p4⟩;obtain ⟨a1, c1, rfl, _, q1⟩ := hg.shape;obtain ⟨a2, c2, rfl, _, _⟩ := ht.shape;obtain ⟨a3, c3, rfl, _, _⟩ := hl.shape;unfold maxLen at q1;have d1 : ¬ (255 : Int) < (g.length : Int) := by omega
 rw [h2] at HT ⊢;rw [h3] at HL ⊢;generalize rowB g = RG at *;generalize rowB t = RT at *;generalize rowB l = RL' at *;generalize numB n 6 = RN at *;clear hg ht hl h1 h2 h3 h4 p1 p2 p3 p4;go_enter Try.func13, Try.ntmps13;go_wp2_with fail;refine HN.out.mono ?_;rintro _ w1 ⟨v1, rfl, o1, k1⟩;obtain ⟨a4, n4, c4, rfl⟩ := o1.rd.sl;have O1 := Lib.hid (o1.kp ((Kp.refl _).alloc (.cells #[] 5)));have KA : Hid (Kp w (w1.alloc (.cells #[] 5))) := k1.alloc _;have OA : Hid (Ow 5 (w1.alloc (.cells #[] 5)) w.heap.size (.slice (some ⟨w1.heap.size, 0, none⟩) 0 0) []) := Ow.lit w1 5 w.heap.size 0 #[] [] k1.size rfl (by decide) rfl;have HSA : Hid ((w1.alloc (.cells #[] 5)).heap.size = w1.heap.size + 1) := by unfold Hid; rw [World.size_alloc]
 go_wp2_with (first
  | (at_builtin; refine aaa (o := ⟨some 47, _, _, _, _, _⟩) U rfl _ _ rfl w.heap.size _ (RG ++ RN ++ RT) rfl o9 _ RL' rfl o10.rd (by have := HP.out; simp only [List.length_append]; omega) K10.size ?_; intro v11 w11 o11 g11 _; have K11 := Lib.hid (show Kp w w11 from Kp.grown K10 g11 o9.own_ge); rw [List.append_assoc] at o11)
  | (at_builtin; refine aaa (o := ⟨some 44, _, _, _, _, _⟩) U rfl _ _ rfl w.heap.size _ (RG ++ RN) rfl o6' _ RT rfl o7.rd (by have := HP.out; simp only [List.length_append]; omega) K7.size ?_; intro v8 w8 o8 g8 _; obtain ⟨a8, n8, c8, rfl⟩ := o8.rd.sl; have K8 : Kp w w8 := Kp.grown K7 g8 o6'.own_ge)
  | (at_builtin; refine aaa (o := ⟨some 40, _, _, _, _, _⟩) U rfl _ _ rfl w.heap.size _ RG rfl o5 _ RN rfl O5.out (by have := HP.out; omega) K5.size ?_; intro v6 w6 o6 g6 _; obtain ⟨a6, n6, c6, rfl⟩ := o6.rd.sl; have K6 : Kp w w6 := Kp.grown K5 g6 o5.own_ge)
  | (at_builtin; refine aaa (o := ⟨some 38, _, _, _, _, _⟩) U rfl _ _ rfl w.heap.size _ [] rfl (OA.out.kp k3) _ RG rfl o3.rd (by have := HP.out; simp; omega) K3.size ?_; intro v5 w5 o5 g5 _; obtain ⟨a5, n5, c5, rfl⟩ := o5.rd.sl; rw [List.nil_append] at o5; have K5 : Kp w w5 := Kp.grown K3 g5 OA.out.own_ge; have O5 : Hid (Rd w5 (.slice a4 n4 c4) RN) := (O1.out.kp k3).rd.grown g5 (fun b o n' c e e2 => by have h1 := (World.ownsRow.lt O1.out b (by rw [e]; rfl)).2; cases e2; have := (World.ownsRow.lt o1 w1.heap.size (by rw [e]; rfl)).2; omega))
  | (go_at_call 41; refine (HL.out _ K8).mono ?_; rintro _ w10 ⟨⟨v10, rfl, o10⟩, k10⟩; obtain ⟨x10, y10, z10, rfl⟩ := o10.rd.sl; have K10 := K8.trans k10; have o9 := o8.kp k10)
  | (go_at_call 41; refine (HT.out _ K6).mono ?_; rintro _ w7 ⟨⟨v7, rfl, o7⟩, k7⟩; obtain ⟨x7, y7, z7, rfl⟩ := o7.rd.sl; have K7 := K6.trans k7; have o6' := o6.kp k7)
  | (go_at_call 41; refine (HG.out _ KA.out).mono ?_; rintro _ w3 ⟨⟨v3, rfl, o3⟩, k3⟩; obtain ⟨x3, y3, z3, rfl⟩ := o3.rd.sl; have K3 := KA.out.trans k3))
 go_ret2;exact ⟨⟨_, rfl, o11⟩, K11.out⟩
theorem ac4 (vg vt vl : Value) (g t l : List UInt8) (n : Int) (w : World) (hg : Rd w vg g) (ht : Rd w vt t) (hl : Rd w vl l) (hn : -9223372036854775808 ≤ n ∧ n ≤ 9223372036854775807) :
  Calls Try.prog 13 #[vg, .int .i64 n, vt, vl] w fun e w' => (∃ v, e = .returned (.tuple #[v, .int .i64 (ctxE g n t l)]) ∧ Ow 5 w' w.heap.size v (ctxB g n t l)) ∧ Kp w w' := by
 by_cases h : g.length ≤ 255 ∧ t.length = 32 ∧ l.length = 32 ∧ abt n 6
 ·rw [(ab0 h).1, (ab0 h).2]
  exact ac3 vg vt vl g t l n w hg ht hl hn h.1 h.2.1 h.2.2.1 h.2.2.2
 ·rw [(aea h).1, (aea h).2]
  have HN := Lib.hid (abu n 6 w hn);obtain ⟨a1, c1, rfl, _, q1⟩ := hg.shape;obtain ⟨a2, c2, rfl, _, q2⟩ := ht.shape;obtain ⟨a3, c3, rfl, _, q3⟩ := hl.shape;unfold maxLen at q1 q2 q3;have fin : ∀ (e : Ending) (w1 : World), e = .returned (.tuple #[.slice none 0 0, .int .i64 1]) ∧ Kp w w1 → (∃ v, e = .returned (.tuple #[v, .int .i64 1]) ∧ Ow 5 w1 w.heap.size v []) ∧ Kp w w1 := fun e w1 h => ⟨⟨_, h.1, Ow.nil _ _ _⟩, h.2⟩
  suffices h0 : Calls Try.prog 13 #[.slice a1 g.length c1, .int .i64 n, .slice a2 t.length c2, .slice a3 l.length c3] w fun e w1 => e = .returned (.tuple #[.slice none 0 0, .int .i64 1]) ∧ Kp w w1 from h0.mono fin
  clear hg ht hl fin;by_cases h4 : abt n 6
  ·rw [(aaS h4).1] at HN
   by_cases h1 : g.length ≤ 255
   ·have d1 : ¬ (255 : Int) < (g.length : Int) := by omega
    by_cases h2 : t.length = 32
    ·have d3 : ((l.length : Int) != 32) = true := bne_iff_ne.2 fun e => h ⟨h1, h2, by omega, h4⟩
     rw [h2];clear h h1 h2 h4;go_enter Try.func13, Try.ntmps13;go_wp2_with fail;refine HN.out.mono ?_;rintro _ w1 ⟨v1, rfl, o1, k1⟩;go_wp2_with fail;go_ret2;exact ⟨rfl, k1⟩
    ·have d2 : ((t.length : Int) != 32) = true := bne_iff_ne.2 (by omega)
     clear h h1 h2 h4;go_enter Try.func13, Try.ntmps13;go_wp2_with fail;refine HN.out.mono ?_;rintro _ w1 ⟨v1, rfl, o1, k1⟩;go_wp2_with fail;go_ret2;exact ⟨rfl, k1⟩
   ·have d1 : (255 : Int) < (g.length : Int) := by omega
    clear h h1 h4;go_enter Try.func13, Try.ntmps13;go_wp2_with fail;refine HN.out.mono ?_;rintro _ w1 ⟨v1, rfl, o1, k1⟩;go_wp2_with fail;go_ret2;exact ⟨rfl, k1⟩
  ·rw [(acA h4).1] at HN
   clear h h4;go_enter Try.func13, Try.ntmps13;go_wp2_with fail;refine HN.out.mono ?_;rintro _ w1 ⟨v1, rfl, o1, k1⟩;go_wp2_with fail;go_ret2;exact ⟨rfl, k1⟩
end Go.Proofs.Ytbhkdlpdolioaaa

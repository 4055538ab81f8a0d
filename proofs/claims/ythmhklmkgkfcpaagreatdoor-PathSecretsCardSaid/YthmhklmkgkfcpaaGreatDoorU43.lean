import Derived.Test.YthmhklmkgkfcpaaGreatDoorU20
import Derived.Test.YthmhklmkgkfcpaaGreatDoorU30
import Derived.Test.YthmhklmkgkfcpaaGreatDoorU40
import Derived.Deep.RegionHeld3
set_option linter.unusedVariables false
set_option linter.unusedSimpArgs false
set_option maxHeartbeats 8000000
set_option maxRecDepth 100000
namespace Go.Proofs.YthmhklmkgkfcpaaGreatDoor
open Go.RowKit
structure arD (p:Prop):Prop where
 out:p
theorem arF {p:Prop}{F Q:Nat→Value→Value→World→Prop}(ways:arD (∀ g v v' W,F g v v' W→Q g v v' W)→p)(rest:∀ g v v' W,F g v v' W→Q g v v' W):p:=ways ⟨rest⟩
theorem aow:(Tryz.prog.info? 27).map (·.size)=some 2:=by kernel_rfl
theorem arG {l:List St}{j:Nat}(h:j<l.length):l.set j (stAt l j)=l:=by
 have e:stAt l j=l[j]:=by unfold stAt;rw[List.getD_eq_getElem?_getD,List.getElem?_eq_getElem h];rfl
 rw[e,List.set_getElem_self]
theorem arH {l:List Se}{j:Nat}(h:j<l.length):l.set j (seAt l j)=l:=by
 have e:seAt l j=l[j]:=by unfold seAt;rw[List.getD_eq_getElem?_getD,List.getElem?_eq_getElem h];rfl
 rw[e,List.set_getElem_self]
theorem SZ.nodeSt {Z:Nat→Prop}{w:World}{v:Value}{l:List St}(h:SZ shSt Z w v l){i:Nat}(hi:i<l.length):
  ∃ b off c p q,v=.slice (some ⟨b,off,none⟩) l.length c∧b<w.heap.size∧∀ W,Kp w W→W.cell? ⟨b,off+i*2,none⟩=some p∧W.cell? ⟨b,off+i*2+1,none⟩=some q∧RZ Z W p (stAt l i).pub∧SZ shSe Z W q (stAt l i).fors:=by
 obtain ⟨a,c,rfl,h1,h2⟩:=SE.shape h.1;obtain ⟨b,off,rfl,hb,hc⟩:=SE.at h.1 (by omega);obtain ⟨vs,r1,r2⟩:=hc i l[i] (List.getElem?_eq_getElem hi);obtain ⟨p,q,d0,d1,d2,d3⟩:=aqa r1 r2;have e:stAt l i=l[i]:=by unfold stAt;rw[List.getD_eq_getElem?_getD,List.getElem?_eq_getElem hi];rfl
 rw[e];exact ⟨b,off,c,p,q,rfl,hb,fun W k=>⟨k.cell d0,k.cell d1,d2.kp k,d3.kp k⟩⟩
theorem SZ.nodeSe {Z:Nat→Prop}{w:World}{v:Value}{l:List Se}(h:SZ shSe Z w v l){i:Nat}(hi:i<l.length):
  ∃ b off c p q,v=.slice (some ⟨b,off,none⟩) l.length c∧b<w.heap.size∧∀ W,Kp w W→W.cell? ⟨b,off+i*2,none⟩=some p∧W.cell? ⟨b,off+i*2+1,none⟩=some q∧RZ Z W p (seAt l i).half∧RZ Z W q (seAt l i).b:=by
 obtain ⟨a,c,rfl,h1,h2⟩:=SE.shape h.1;obtain ⟨b,off,rfl,hb,hc⟩:=SE.at h.1 (by omega);obtain ⟨vs,r1,r2⟩:=hc i l[i] (List.getElem?_eq_getElem hi);obtain ⟨p,q,d0,d1,d2,d3⟩:=ap9 r1 r2;have e:seAt l i=l[i]:=by unfold seAt;rw[List.getD_eq_getElem?_getD,List.getElem?_eq_getElem hi];rfl
 rw[e];exact ⟨b,off,c,p,q,rfl,hb,fun W k=>⟨k.cell d0,k.cell d1,d2.kp k,d3.kp k⟩⟩
structure LenIs (p:Pa)(M:Nat):Prop where
 out:p.step.length=M
theorem ahE (x y : Value) (p : Pa) (Z : Nat → Prop) (w : World) (hx : RZ Z w x p.pub) (hy : SZ shSt Z w y p.step) (hZ : ∀ g, Z g → g < w.heap.size) (hl : p.step.length ≤ 10000) (hpl : p.pub.length ≤ 10000)
    (hsl : ∀ j, j < p.step.length → (stAt p.step j).pub.length ≤ 10000 ∧ (stAt p.step j).fors.length ≤ 10000 ∧ ∀ k, k < (stAt p.step j).fors.length → (seAt (stAt p.step j).fors k).half.length ≤ 10000 ∧ (seAt (stAt p.step j).fors k).b.length ≤ 10000) :
    Calls Tryz.prog 72 #[.agg #[x, y]] w fun e w' => (∃ x' y', e = .returned (.agg #[x', y']) ∧ RZ Z w' x' p.pub ∧ SZ shSt Z w' y' p.step) ∧ Kp w w' := by
  have HX := Lib.hid hx
  have HY := Lib.hid hy
  have HYO := Lib.hid hy.olds
  have HZ := Lib.hid hZ
  have HSL := Lib.hid hsl
  have HCB := Lib.hid (fun W (v : Value) (l : List UInt8) (hv : Rd W v l) (hl : l.length ≤ 10000) => agB v l W hv (by omega))
  have HCT := Lib.hid (fun W (v : Value) (t : List St) (Z : Nat → Prop) (hv : SZ shSt Z W v t) (hl : t.length ≤ 10000) => ak8 v t Z W hv (by omega))
  have HCE := Lib.hid (fun W (v : Value) (t : List Se) (Z : Nat → Prop) (hv : SZ shSe Z W v t) (hl : t.length ≤ 10000) => ak9 v t Z W hv (by omega))
  obtain ⟨ax, nx, cx, rfl⟩ := aac hx.1
  obtain ⟨ay, cy, rfl, p1, s1⟩ := SE.shape hy.1
  clear hx hy hZ hsl
  go_enter Tryz.func72, Tryz.ntmps72
  go_wp2_with fail
  obtain ⟨w1, hw1⟩ : ∃ w1, (w.alloc (.cells #[.slice ax nx cx, .slice ay p.step.length cy] 27)).alloc (.cells #[.slice none 0 0, .slice none 0 0] 27) = w1 := ⟨_, rfl⟩
  have HB : Hid (Bx w1 w.heap.size 27 #[.slice ax nx cx, .slice ay p.step.length cy]) := by unfold Hid; rw [← hw1]; exact (Bx.new w _ _).kp ((Kp.refl _).alloc _)
  have HRB : Hid (Bx w1 (w.heap.size + 1) 27 #[.slice none 0 0, .slice none 0 0]) := by
    unfold Hid
    have := Bx.new (w.alloc (.cells #[.slice ax nx cx, .slice ay p.step.length cy] 27)) 27 #[.slice none 0 0, .slice none 0 0]
    rw [World.size_alloc] at this
    rw [← hw1]; exact this
  have K1 : Hid (Kp w w1) := by unfold Hid; rw [← hw1]; exact ((Kp.refl _).alloc _).alloc _
  rw [hw1]
  clear hw1
  have HMX : Hid (∀ n, p.step.length = n → p.step.length = n) := fun n h => h
  generalize hM : p.step.length = M at *
  have HMM := Lib.hid hM
  have HLI : LenIs p M := ⟨hM⟩
  obtain ⟨Z1, hZ1⟩ : ∃ Z1 : Nat → Prop, Z1 = fun k => k = w.heap.size + 1 ∨ Z k := ⟨_, rfl⟩
  have HZ1 : Hid ((∀ g, Z1 g → Z g ∨ w.heap.size ≤ g) ∧ (∀ g, Z1 g → g < w1.heap.size) ∧ (∀ g, Z g → Z1 g) ∧ Z1 (w.heap.size + 1)) := by
    have := (Array.getElem?_eq_some_iff.1 HRB.out).1
    unfold Hid
    rw [hZ1]
    exact ⟨fun g hg => hg.elim (fun e => .inr (by omega)) .inl, fun g hg => hg.elim (fun e => by omega) fun hg => by have := HZ.out g hg; omega, fun g hg => .inr hg, .inl rfl⟩
  clear hZ1
  have HS : Hid (∀ W, Kp w1 W → W.cell? ⟨w.heap.size, 0, none⟩ = some (.slice ax nx cx) ∧ W.cell? ⟨w.heap.size, 1, none⟩ = some (.slice ay M cy)) := fun W hW => ⟨(HB.out.kp hW).cell 0, (HB.out.kp hW).cell 1⟩
  have KD : Hid (Kp w1 w1.drew) := (Kp.refl w1).drew
  have KZ0 : Hid (Kp w1 (w1.alloc (.cells #[.slice none 0 0, .slice none 0 0] 27)).drew) := ((Kp.refl w1).alloc _).drew
  have arJ := Lib.hid (HS.out _ KD.out)
  have S0 := Lib.hid (HS.out _ KZ0.out)
  have HT0 : Hid (Bx (w1.alloc (.cells #[.slice none 0 0, .slice none 0 0] 27)).drew w1.heap.size 27 #[.slice none 0 0, .slice none 0 0]) := (Bx.new w1 _ _).kp (Kp.refl _).drew
  obtain ⟨e0, e1⟩ := HS.out w1 (Kp.refl _)
  clear hM
  refine arF (Q := ?QL) (F := fun g v v' W => Bx W g 27 #[v, v'] ∧ Kp w1 W ∧ w1.heap.size ≤ g ∧ g < W.heap.size ∧ Rd W v p.pub ∧ aaN w1.heap.size v ∧ GZ shSt 74 Z1 W w1.heap.size v' p.step ∧ (∀ k, v'.ownBlock = some k → k ≠ g) ∧ Free (fun k => v'.ownBlock = some k) v) ?ways ?rest
  case ways =>
    intro key
    go_region_held3 (fun W => W.cell? ⟨w.heap.size, 0, none⟩ = some (.slice ax nx cx) ∧ W.cell? ⟨w.heap.size, 1, none⟩ = some (.slice ay M cy))
      (first | with_reducible exact S0.out | with_reducible exact arJ.out | with_reducible exact S2.out | with_reducible exact S2z.out | with_reducible exact S3.out | with_reducible exact S3z.out | with_reducible exact S4.out | with_reducible exact S5.out | fail)
      (first
        | (go_at_call 121; refine (HCT.out _ _ p.step (fun g => Z g ∨ w.heap.size ≤ g) (by first | exact HYO.out.kp (K1.out.trans K2.out) | exact HYO.out.kp (K1.out.trans K2z.out)) (by rw [HMM.out]; exact hl)).mono ?_; rintro _ w3 ⟨⟨v3, rfl, o3⟩, k3⟩; obtain ⟨a3, n3, c3, rfl⟩ := SE.sl o3.gl; have K3 : Hid (Kp w1 w3) := (by first | exact K2.out.trans k3 | exact K2z.out.trans k3); have S3 := Lib.hid (HS.out _ K3.out); have O3 := Lib.hid o3; have S3z := Lib.hid (HS.out _ (K3.out.alloc (.cells #[.slice none 0 0, .slice none 0 0] 27))); have S4 := Lib.hid (HS.out _ (K3.out.alloc (.cells #[.slice a2 n2 c2, .slice a3 n3 c3] 27))); have HK3 : Hid (Rd w3 (.slice a2 n2 c2) p.pub) := (by first | exact O2.out.rd.kp k3 | exact (O2.out.rd.kp ((Kp.refl w2).alloc _)).kp k3);
            (try (have HT3 : Hid (Bx w3 w2.heap.size 27 #[.slice none 0 0, .slice none 0 0]) := HT2z.out.kp k3; have HG3 : Hid (w1.heap.size ≤ w2.heap.size ∧ w2.heap.size < w3.heap.size) := ⟨K2.out.size, (Array.getElem?_eq_some_iff.1 HT3.out).1⟩; have HOW : Hid (∀ k, (Value.slice a3 n3 c3).ownBlock = some k → k ≠ w2.heap.size) := (fun k hk e => by have := (o3.lt k hk).1; simp at this; omega); have HT5 := Lib.hid (afu HT3.out (.slice a2 n2 c2) (.slice a3 n3 c3)); have S5 := Lib.hid (HS.out _ (HT5.out.2.2 w1 K3.out HG3.out.1)); have hth := HT3.out.there; have j0 := HT3.out.cell 0; have j1 := HT3.out.cell 1; have f0 := (hth 0 (by decide)).2; have f1 := (hth 1 (by decide)).2; clear hth; rw [Nat.zero_add] at f0 f1; simp only [List.getElem?_toArray, List.getElem?_cons_zero, List.getElem?_cons_succ] at j0 j1));
            (try (have HT3 : Hid (Bx w3 w1.heap.size 27 #[.slice none 0 0, .slice none 0 0]) := HTC.out.kp k3; have HG3 : Hid (w1.heap.size ≤ w1.heap.size ∧ w1.heap.size < w3.heap.size) := ⟨Nat.le_refl _, (Array.getElem?_eq_some_iff.1 HT3.out).1⟩; have HOW : Hid (∀ k, (Value.slice a3 n3 c3).ownBlock = some k → k ≠ w1.heap.size) := (fun k hk e => by have := (o3.lt k hk).1; have := (Array.getElem?_eq_some_iff.1 HTC.out).1; omega); have HT5 := Lib.hid (afu HT3.out (.slice a2 n2 c2) (.slice a3 n3 c3)); have S5 := Lib.hid (HS.out _ (HT5.out.2.2 w1 K3.out HG3.out.1)); have hth := HT3.out.there; have j0 := HT3.out.cell 0; have j1 := HT3.out.cell 1; have f0 := (hth 0 (by decide)).2; have f1 := (hth 1 (by decide)).2; clear hth; rw [Nat.zero_add] at f0 f1; simp only [List.getElem?_toArray, List.getElem?_cons_zero, List.getElem?_cons_succ] at j0 j1)))
        | (go_at_call 109; refine (HCB.out _ _ p.pub (by first | exact HX.out.1.kp (K1.out.trans KD.out) | exact HX.out.1.kp (K1.out.trans KZ0.out)) hpl).mono ?_; rintro _ w2 ⟨v2, rfl, o2, k2⟩; obtain ⟨a2, n2, c2, rfl⟩ := aac o2.rd; have K2 : Hid (Kp w1 w2) := (by first | exact KD.out.trans k2 | exact KZ0.out.trans k2); have O2 := Lib.hid o2; have NW2 : Hid (aaN w1.heap.size (.slice a2 n2 c2)) := (fun g hg => by have := (World.ownsRow.lt o2 g hg).1; first | exact this | (simp at this; omega)); have S2 := Lib.hid (HS.out _ K2.out); have K2z : Hid (Kp w1 (w2.alloc (.cells #[.slice none 0 0, .slice none 0 0] 27))) := K2.out.alloc _; have S2z := Lib.hid (HS.out _ K2z.out); have HT2z : Hid (Bx (w2.alloc (.cells #[.slice none 0 0, .slice none 0 0] 27)) w2.heap.size 27 #[.slice none 0 0, .slice none 0 0]) := Bx.new w2 _ _; try (have HTC : Hid (Bx w2 w1.heap.size 27 #[.slice none 0 0, .slice none 0 0]) := HT0.out.kp k2)))
    all_goals (
      obtain ⟨u2, hu2⟩ : ∃ x, Value.slice a2 n2 c2 = x := ⟨_, rfl⟩
      obtain ⟨u3, hu3⟩ : ∃ x, Value.slice a3 n3 c3 = x := ⟨_, rfl⟩
      first
        | (obtain ⟨gT, hgT⟩ : ∃ x, w3.heap.size = x := ⟨_, rfl⟩
           obtain ⟨wF, hwF⟩ : ∃ x, w3.alloc (.cells #[.slice a2 n2 c2, .slice a3 n3 c3] 27) = x := ⟨_, rfl⟩
           have hF : Bx wF gT 27 #[u2, u3] ∧ Kp w1 wF ∧ w1.heap.size ≤ gT ∧ gT < wF.heap.size ∧ Rd wF u2 p.pub ∧ aaN w1.heap.size u2 ∧ GZ shSt 74 Z1 wF w1.heap.size u3 p.step ∧ (∀ k, u3.ownBlock = some k → k ≠ gT) ∧ Free (fun k => u3.ownBlock = some k) u2 := by
             rw [← hwF, ← hgT, ← hu2, ← hu3]
             exact ⟨Bx.new w3 _ _, K3.out.alloc _, K3.out.size, by simp, HK3.out.kp ((Kp.refl w3).alloc _), NW2.out, ((O3.out.solidly fun g hg => .inr (.inl (.inl (HZ1.out.1 g hg)))).mono (by first | exact K2.out.size | exact K2z.out.size)).kp ((Kp.refl w3).alloc _), fun k hk e => by have := (O3.out.lt k hk).2; omega, aeX (w := w2) O2.out.rd.inside fun g hg => by have := (O3.out.lt g hg).1; first | exact this | (simp at this; omega)⟩
           rw [hwF, hgT, hu2, hu3]
           exact key.out gT u2 u3 wF hF)
        | (obtain ⟨gT, hgT⟩ : ∃ x, w2.heap.size = x := ⟨_, rfl⟩
           obtain ⟨wF, hwF⟩ : ∃ x, (w3.setCell ⟨w2.heap.size, 0, none⟩ (.slice a2 n2 c2)).setCell ⟨w2.heap.size, 1, none⟩ (.slice a3 n3 c3) = x := ⟨_, rfl⟩
           have h5 := HT5.out
           have hS5 := h5.2.1
           have hF : Bx wF gT 27 #[u2, u3] ∧ Kp w1 wF ∧ w1.heap.size ≤ gT ∧ gT < wF.heap.size ∧ Rd wF u2 p.pub ∧ aaN w1.heap.size u2 ∧ GZ shSt 74 Z1 wF w1.heap.size u3 p.step ∧ (∀ k, u3.ownBlock = some k → k ≠ gT) ∧ Free (fun k => u3.ownBlock = some k) u2 := by
             rw [← hwF, ← hgT, ← hu2, ← hu3]
             refine ⟨h5.1, h5.2.2 w1 K3.out HG3.out.1, HG3.out.1, Nat.lt_of_lt_of_le HG3.out.2 hS5.size, HK3.out.step8 hS5 (fun g e => by subst e; exact NoB8.box HT3.out (fun j z hj => by
               match j with
               | 0 => cases hj; exact fun n e => by cases e
               | 1 => cases hj; exact fun n e => by cases e
               | j + 2 => simp at hj)), NW2.out, ?_, HOW.out, aeX (w := w2) O2.out.rd.inside fun g hg => by have := (O3.out.lt g hg).1; first | exact this | (simp at this; omega)⟩
             exact ((O3.out.step (Y := fun g => g = w2.heap.size) hS5 (fun g e => .inl (.inl (.inr (by have := K1.out.size; have := HG3.out.1; omega)))) (fun g hg e => HOW.out g hg e)).solidly fun g hg => .inr (.inl (.inl (HZ1.out.1 g hg)))).mono (by first | exact K2.out.size | exact K2z.out.size)
           rw [hwF, hgT, hu2, hu3]
           exact key.out gT u2 u3 wF hF)
        | (obtain ⟨gT, hgT⟩ : ∃ x, w1.heap.size = x := ⟨_, rfl⟩
           obtain ⟨wF, hwF⟩ : ∃ x, (w3.setCell ⟨w1.heap.size, 0, none⟩ (.slice a2 n2 c2)).setCell ⟨w1.heap.size, 1, none⟩ (.slice a3 n3 c3) = x := ⟨_, rfl⟩
           have h5 := HT5.out
           have hS5 := h5.2.1
           have hF : Bx wF gT 27 #[u2, u3] ∧ Kp w1 wF ∧ w1.heap.size ≤ gT ∧ gT < wF.heap.size ∧ Rd wF u2 p.pub ∧ aaN w1.heap.size u2 ∧ GZ shSt 74 Z1 wF w1.heap.size u3 p.step ∧ (∀ k, u3.ownBlock = some k → k ≠ gT) ∧ Free (fun k => u3.ownBlock = some k) u2 := by
             rw [← hwF, ← hgT, ← hu2, ← hu3]
             refine ⟨h5.1, h5.2.2 w1 K3.out HG3.out.1, HG3.out.1, Nat.lt_of_lt_of_le HG3.out.2 hS5.size, HK3.out.step8 hS5 (fun g e => by subst e; exact NoB8.box HT3.out (fun j z hj => by
               match j with
               | 0 => cases hj; exact fun n e => by cases e
               | 1 => cases hj; exact fun n e => by cases e
               | j + 2 => simp at hj)), NW2.out, ?_, HOW.out, aeX (w := w2) O2.out.rd.inside fun g hg => by have := (O3.out.lt g hg).1; first | exact this | (simp at this; omega)⟩
             exact ((O3.out.step (Y := fun g => g = w1.heap.size) hS5 (fun g e => .inl (.inl (.inr (by have := K1.out.size; have := HG3.out.1; omega)))) (fun g hg e => HOW.out g hg e)).solidly fun g hg => .inr (.inl (.inl (HZ1.out.1 g hg)))).mono (by first | exact K2.out.size | exact K2z.out.size)
           rw [hwF, hgT, hu2, hu3]
           exact key.out gT u2 u3 wF hF))
  case rest =>
    rintro g v v' W ⟨hb, hk, hge, hgl, hrd, hnw, hgz, hne, hfv⟩
    obtain ⟨av, nv, cv, rfl⟩ := aac hrd
    obtain ⟨a', c', rfl, arL, s3⟩ := SE.shape hgz.gl
    rw [HMM.out] at *
    have HG := Lib.hid (And.intro hge hgl)
    have HNE := Lib.hid hne
    have HFV := Lib.hid hfv
    have HLT : Hid (∀ k, (Value.slice a' M c').ownBlock = some k → w1.heap.size ≤ k ∧ k < W.heap.size) := hgz.lt
    have HST : Hid (Bx W g 27 #[.slice av nv cv, .slice a' M c'] ∧ Rd W (.slice av nv cv) p.pub ∧ GZ shSt 74 Z1 W w1.heap.size (.slice a' M c') p.step ∧ Kp w1 W) := ⟨hb, hrd, hgz, hk⟩
    have HNW := Lib.hid hnw
    have HWZ : Hid (w.heap.size + 2 ≤ w1.heap.size) := by have := (Array.getElem?_eq_some_iff.1 HRB.out).1; unfold Hid; omega
    have HYN := Lib.hid (fun j (hj : j < M) => HSL.out j hj)
    obtain ⟨e0w, e1w⟩ := HS.out W hk
    clear hb hk hge hgl hrd hnw hgz hne hfv KD KZ0 arJ S0 HT0 e0 e1 HSL
    go_wp2_with fail
    go_loopw [19] (fun z wr => ∃ j : Nat, j ≤ M ∧ z = .int .i64 (j : Int) ∧ Bx wr g 27 #[.slice av nv cv, .slice a' M c'] ∧ Rd wr (.slice av nv cv) p.pub ∧ GZ shSt 74 Z1 wr w1.heap.size (.slice a' M c') p.step ∧ Kp w1 wr ∧ W.heap.size ≤ wr.heap.size) (fun z _ => (M - (intOf z).toNat))
    case atStart => exact ⟨0, Nat.zero_le _, rfl, HST.out.1, HST.out.2.1, HST.out.2.2.1, HST.out.2.2.2, Nat.le_refl _⟩
    case round =>
      obtain ⟨j, hj, rfl, hb, hrd, hgz, hk, hsz⟩ := hrel
      have HI := Lib.hid (And.intro hb (And.intro hrd (And.intro hgz (And.intro hk hsz))))
      clear hb hrd hgz hk hsz e0w e1w
      by_cases hlt : j < M
      · have hM2 : p.step.length = M := HLI.out
        have hjl : j < p.step.length := by omega
        obtain ⟨by', oy, cy', px, qx, ey, _, hnd⟩ := SZ.nodeSt HYO.out hjl
        rw [hM2] at ey
        cases ey
        have HND := Lib.hid hnd
        have KR := Lib.hid (K1.out.trans HI.out.2.2.2.1)
        obtain ⟨dp, dq, hpx, hqx⟩ := hnd wr KR.out
        obtain ⟨apx, npx, cpx, rfl⟩ := aac hpx.1
        obtain ⟨aqx, nqx, cqx, rfl⟩ := SE.sl hqx.1
        obtain ⟨gv, cv', ev, gv1, gv2, gv3, gv4, gv5⟩ := HI.out.2.2.1.form (by omega)
        rw [hM2] at ev
        cases ev
        have HGV : Hid (w1.heap.size ≤ gv ∧ gv < W.heap.size) := HLT.out gv rfl
        obtain ⟨WQ, hWQ⟩ : ∃ x, wr.alloc (.cells #[.slice apx npx cpx, .slice aqx nqx cqx] 74) = x := ⟨_, rfl⟩
        have KQ : Hid (Kp wr WQ) := by unfold Hid; rw [← hWQ]; exact (Kp.refl _).alloc _
        have HTQ : Hid (Bx WQ wr.heap.size 74 #[.slice apx npx cpx, .slice aqx nqx cqx]) := by unfold Hid; rw [← hWQ]; exact Bx.new wr _ _
        have HSQ : Hid (WQ.heap.size = wr.heap.size + 1) := by unfold Hid; rw [← hWQ]; exact World.size_alloc _ _
        have dq1 := HTQ.out.cell 1
        have i4 : (j : Int) < (M : Int) := by omega
        simp only [List.getElem?_toArray, List.getElem?_cons_zero, List.getElem?_cons_succ] at dq1
        clear hnd hpx hqx gv1 gv2 gv3 gv4 gv5 s1 s3
        go_wp2_with fail
        try rw [hWQ]
        have hp2 := HND.out WQ (KR.out.trans KQ.out)
        refine (HCE.out WQ _ (stAt p.step j).fors _ hp2.2.2.2 (HYN.out j hlt).2.1).mono ?_; rintro _ w6 ⟨⟨v6, rfl, o6⟩, k6⟩
        obtain ⟨a6, c6, rfl, p6, s6⟩ := SE.shape o6.gl
        obtain ⟨aq2, cq2, eq2, pq2, sq2⟩ := SE.shape hp2.2.2.2.1
        cases eq2
        clear hp2
        have O6 : Hid (GZ shSe 92 (fun b => b = gv ∨ Z1 b) w6 WQ.heap.size (.slice a6 (stAt p.step j).fors.length c6) (stAt p.step j).fors) := o6.solidly fun b hb => .inr (.inl (.inl (hb.elim (fun e => .inr (by have := HGV.out.1; have := HWZ.out; omega)) fun hb => HZ1.out.1 b hb)))
        have HL6 : Hid (∀ k, (Value.slice a6 (stAt p.step j).fors.length c6).ownBlock = some k → WQ.heap.size ≤ k ∧ k < w6.heap.size) := o6.lt
        have K6 := Lib.hid k6
        have HFN := Lib.hid (HYN.out j hlt).2.2
        have HQX : Hid (SZ shSe (fun g => Z g ∨ w.heap.size ≤ g) WQ (.slice aqx (stAt p.step j).fors.length cqx) (stAt p.step j).fors) := (HND.out WQ (KR.out.trans KQ.out)).2.2.2
        have HPX : Hid (RZ (fun g => Z g ∨ w.heap.size ≤ g) WQ (.slice apx npx cpx) (stAt p.step j).pub) := (HND.out WQ (KR.out.trans KQ.out)).2.2.1
        have HPL := Lib.hid (HYN.out j hlt).1
        have hl6 := (HYN.out j hlt).2.1
        generalize hFL : (stAt p.step j).fors = FL at *
        generalize hPJ : (stAt p.step j).pub = PJ at *
        have HTS : Hid (∀ W, Kp WQ W → W.cell? ⟨wr.heap.size, 0, none⟩ = some (.slice apx npx cpx) ∧ W.cell? ⟨wr.heap.size, 1, none⟩ = some (.slice aqx FL.length cqx)) := fun W hW => ⟨(HTQ.out.kp hW).cell 0, (HTQ.out.kp hW).cell 1⟩
        have HFG := Lib.hid (And.intro hFL hPJ)
        generalize hL : FL.length = L at *
        have HLL := Lib.hid hL
        obtain ⟨d60, d61⟩ := HTS.out w6 K6.out
        generalize hq5 : wr.heap.size = q5 at *
        clear hFL hPJ hL o6 k6 dp dq dq1 s6 sq2 HND
        go_wp2_with fail
        go_loopw [30] (fun z wi => ∃ m : Nat, m ≤ L ∧ z = .int .i64 (m : Int) ∧ GZ shSe 92 (fun b => b = gv ∨ Z1 b) wi WQ.heap.size (.slice a6 L c6) FL ∧ Kp WQ wi) (fun z _ => (L - (intOf z).toNat))
        case atStart => exact ⟨0, Nat.zero_le _, rfl, O6.out, K6.out⟩
        case round =>
          obtain ⟨m, hm, rfl, ho, hk⟩ := hrel
          have HO := Lib.hid (And.intro ho hk)
          clear ho hk d60 d61
          by_cases hlm : m < L
          · have hLL : FL.length = L := HLL.out
            have hmL : m < FL.length := by omega
            obtain ⟨bs, os, cs, hx, bx, es, _, hnd⟩ := SZ.nodeSe HQX.out hmL
            rw [hLL] at es
            cases es
            obtain ⟨dh, db, hhx, hbx⟩ := hnd _ HO.out.2
            obtain ⟨ahx, nhx, chx, rfl⟩ := aac hhx.1
            obtain ⟨abx, nbx, cbx, rfl⟩ := aac hbx.1
            obtain ⟨g6, c6', e6, h61, h62, h63, h64, h65⟩ := HO.out.1.form (by omega)
            rw [hLL] at e6
            cases e6
            have HG6 : Hid (WQ.heap.size ≤ g6 ∧ g6 < wr.heap.size) := ⟨h61, h62⟩
            clear h61 h62 h63 h64 h65
            have im : (m : Int) < (L : Int) := by omega
            obtain ⟨WR, hWR⟩ : ∃ x, wr.alloc (.cells #[.slice ahx nhx chx, .slice abx nbx cbx] 92) = x := ⟨_, rfl⟩
            have KR8 : Hid (Kp wr WR) := by unfold Hid; rw [← hWR]; exact (Kp.refl _).alloc _
            have HT8 : Hid (Bx WR wr.heap.size 92 #[.slice ahx nhx chx, .slice abx nbx cbx]) := by unfold Hid; rw [← hWR]; exact Bx.new wr _ _
            have HSR : Hid (WR.heap.size = wr.heap.size + 1) := by unfold Hid; rw [← hWR]; exact World.size_alloc _ _
            have HH := Lib.hid hhx.1
            have HBB := Lib.hid hbx.1
            have HOR := Lib.hid (HO.out.1.kp KR8.out)
            have HKR := Lib.hid (HO.out.2.trans KR8.out)
            have HHL := Lib.hid (HFN.out m hlm)
            have HML : Hid (m < FL.length) := hmL
            generalize hq8 : wr.heap.size = q8 at *
            have HSS : Hid (∀ W, Kp WR W → W.cell? ⟨q8, 0, none⟩ = some (.slice ahx nhx chx) ∧ W.cell? ⟨q8, 1, none⟩ = some (.slice abx nbx cbx)) := fun W hW => ⟨(HT8.out.kp hW).cell 0, (HT8.out.kp hW).cell 1⟩
            have S0 := Lib.hid (HSS.out _ (Kp.refl WR))
            have S0d := Lib.hid (HSS.out _ ((Kp.refl WR).drew))
            clear hnd hhx hbx hmL
            go_wp2_with fail
            try rw [hWR]
            go_region_held3 (fun W => W.cell? ⟨q8, 0, none⟩ = some (.slice ahx nhx chx) ∧ W.cell? ⟨q8, 1, none⟩ = some (.slice abx nbx cbx))
              (first | with_reducible exact S0.out | with_reducible exact S0d.out | with_reducible exact S2.out | with_reducible exact S3.out | with_reducible exact S4.out | fail)
              (first
                | (go_at_call 109; refine (HCB.out _ _ (seAt FL m).b (HBB.out.kp (KR8.out.trans KK2.out)) HHL.out.2).mono ?_; rintro _ w3 ⟨v3, rfl, o3, k3⟩; obtain ⟨a3, n3, c3, rfl⟩ := aac o3.rd; have KK3 : Hid (Kp WR w3) := KK2.out.trans k3; have S3 := Lib.hid (HSS.out _ KK3.out)
                   have hg3 := HOR.out.kp KK3.out
                   obtain ⟨g6', c6', e6', _, _, _, _, h65⟩ := hg3.form (Nat.lt_of_le_of_lt (Nat.zero_le m) HML.out)
                   obtain ⟨vs6, r61, r62⟩ := h65 m _ (List.getElem?_eq_getElem HML.out)
                   have eg6 : g6' = g6 := by simp only [Value.slice.injEq, Option.some.injEq, Addr.mk.injEq, and_true] at e6'; exact e6'.1.symm
                   obtain ⟨p6', q6', j0', j1', _, _⟩ := ap9 r61 r62
                   have j0 : w3.cell? ⟨g6, m * 2, none⟩ = some p6' := eg6 ▸ j0'
                   have j1 : w3.cell? ⟨g6, m * 2 + 1, none⟩ = some q6' := eg6 ▸ j1'
                   have hth := hg3.there m HML.out
                   have f0 : w3.frozen? ⟨g6, m * 2, none⟩ = false := (hth 0 (by decide)).2
                   have f1 : w3.frozen? ⟨g6, m * 2 + 1, none⟩ = false := (hth 1 (by decide)).2
                   have hst := hg3.stored m HML.out (seAt FL m) [.slice a2 n2 c2, .slice a3 n3 c3] ⟨_, _, rfl, ⟨O2.out.rd.kp k3, aaX (C := WR.heap.size) O2.out.own_ge fun b hb => hb.elim (fun e => by have := HG6.out.2; have := HSR.out; omega) fun hb => hb.elim (fun e => by have := HGV.out.2; have := HI.out.2.2.2.2; have := HSQ.out; have := HKR.out.size; omega) fun hb => by have := HZ1.out.2.1 b hb; have := HGV.out; have := HI.out.2.2.2.2; have := HSQ.out; have := HKR.out.size; omega⟩, ⟨o3.rd, aaX (C := WR.heap.size) (fun k hk => Nat.le_trans KK2.out.size (o3.own_ge k hk)) fun b hb => hb.elim (fun e => by have := HG6.out.2; have := HSR.out; omega) fun hb => hb.elim (fun e => by have := HGV.out.2; have := HI.out.2.2.2.2; have := HSQ.out; have := HKR.out.size; omega) fun hb => by have := HZ1.out.2.1 b hb; have := HGV.out; have := HI.out.2.2.2.2; have := HSQ.out; have := HKR.out.size; omega⟩⟩
                   rw [arH HML.out] at hst
                   have HSTD := Lib.hid hst
                   have HB4 := Lib.hid ((HT8.out.kp KK3.out).grown hst.2 (fun e => by cases e; exact Nat.lt_irrefl _ HG6.out.2))
                   have S4 : Hid (((w3.setCell ⟨g6, m * 2, none⟩ (.slice a2 n2 c2)).setCell ⟨g6, m * 2 + 1, none⟩ (.slice a3 n3 c3)).cell? ⟨q8, 0, none⟩ = some (.slice ahx nhx chx) ∧ ((w3.setCell ⟨g6, m * 2, none⟩ (.slice a2 n2 c2)).setCell ⟨g6, m * 2 + 1, none⟩ (.slice a3 n3 c3)).cell? ⟨q8, 1, none⟩ = some (.slice abx nbx cbx)) := ⟨HB4.out.cell 0, HB4.out.cell 1⟩
                   clear hst hth h65 r61 r62 hg3 j0' j1' e6' eg6)
                | (go_at_call 109; refine (HCB.out _ _ (seAt FL m).half (by first | exact HH.out.kp KR8.out | exact HH.out.kp (KR8.out.trans (Kp.refl _).drew)) HHL.out.1).mono ?_; rintro _ w2 ⟨v2, rfl, o2, k2⟩; obtain ⟨a2, n2, c2, rfl⟩ := aac o2.rd; have KK2 : Hid (Kp WR w2) := (by first | exact k2 | exact (Kp.refl WR).drew.trans k2); have O2 := Lib.hid (Ow.mono o2 (Nat.le_refl _)); have S2 := Lib.hid (HSS.out _ KK2.out)))
            all_goals (
              clear S0 S0d S2 S3 S4 j0 j1 f0 f1
              go_wp2_with fail
              have hfin := HSTD.out
              go_roundw
              case rel => exact ⟨m + 1, by omega, by go_num, (by first | exact hfin.1 | exact hfin.1.kp (Kp.refl _).drew), (by first | exact Kp.grown (v := .slice (some ⟨g6, 0, none⟩) L c6) (HKR.out.trans KK3.out) hfin.2 (fun k hk => by cases hk; exact HG6.out.1) | exact (Kp.grown (v := .slice (some ⟨g6, 0, none⟩) L c6) (HKR.out.trans KK3.out) hfin.2 (fun k hk => by cases hk; exact HG6.out.1)).drew)⟩
              case measure => simp [intOf]; omega)
          · obtain rfl : m = L := by omega
            have hn1 : ¬ (m : Int) < (m : Int) := by omega
            have KO := Lib.hid (KQ.out.trans HO.out.2)
            have HGX := Lib.hid (HI.out.2.2.1.kp KO.out)
            have HBG := Lib.hid (HI.out.1.kp KO.out)
            have HTO := Lib.hid (HTQ.out.kp HO.out.2)
            have HSS : Hid (∀ W, Kp wr W → W.cell? ⟨g, 1, none⟩ = some (.slice (some ⟨gv, 0, none⟩) M c') ∧ W.cell? ⟨q5, 0, none⟩ = some (.slice apx npx cpx)) := fun W hW => ⟨(HBG.out.kp hW).cell 1, (HTO.out.kp hW).cell 0⟩
            have S0 := Lib.hid (HSS.out _ (Kp.refl wr))
            have S0d := Lib.hid (HSS.out _ ((Kp.refl wr).drew))
            have HJL : Hid (j < p.step.length) := hjl
            have HXO := Lib.hid (HPX.out.1.kp HO.out.2)
            clear hjl
            go_wp2_with fail
            go_region_held3 (fun W => W.cell? ⟨g, 1, none⟩ = some (.slice (some ⟨gv, 0, none⟩) M c') ∧ W.cell? ⟨q5, 0, none⟩ = some (.slice apx npx cpx))
              (first | with_reducible exact S0.out | with_reducible exact S0d.out | with_reducible exact S3.out | with_reducible exact S4.out | fail)
              (first | (go_at_call 109; refine (HCB.out _ _ PJ (by first | exact HXO.out | exact HXO.out.kp (Kp.refl _).drew) HPL.out).mono ?_; rintro _ w3 ⟨v3, rfl, o3, k3⟩; obtain ⟨a3, n3, c3, rfl⟩ := aac o3.rd; have KK3 : Hid (Kp wr w3) := (by first | exact k3 | exact (Kp.refl wr).drew.trans k3); have S3 := Lib.hid (HSS.out _ KK3.out); have hg3 := HGX.out.kp KK3.out; obtain ⟨gv', cv', ev', _, _, _, _, h65⟩ := hg3.form (Nat.lt_of_le_of_lt (Nat.zero_le j) HJL.out); obtain ⟨vs6, r61, r62⟩ := h65 j _ (List.getElem?_eq_getElem HJL.out); obtain ⟨p6', q6', j0', j1', _, _⟩ := aqa r61 r62; have egv : gv' = gv := (by simp only [Value.slice.injEq, Option.some.injEq, Addr.mk.injEq, and_true] at ev'; exact ev'.1.symm); have j0 : w3.cell? ⟨gv, j * 2, none⟩ = some p6' := egv ▸ j0'; have j1 : w3.cell? ⟨gv, j * 2 + 1, none⟩ = some q6' := egv ▸ j1'; have hth := hg3.there j HJL.out; have f0 : w3.frozen? ⟨gv, j * 2, none⟩ = false := (hth 0 (by decide)).2; have f1 : w3.frozen? ⟨gv, j * 2 + 1, none⟩ = false := (hth 1 (by decide)).2; have hst := hg3.stored j HJL.out (stAt p.step j) [.slice a3 n3 c3, .slice a6 m c6] ⟨_, _, rfl, by rw [HFG.out.2]; exact ⟨o3.rd, aaX (C := wr.heap.size) (fun k hk => (by have := o3.own_ge k hk; first | exact this | (simp at this; omega))) fun b hb => hb.elim (fun e => by have := HGV.out.2; have := HI.out.2.2.2.2; have := HSQ.out; have := HO.out.2.size; omega) fun hb => by have := HZ1.out.2.1 b hb; have := HGV.out; have := HI.out.2.2.2.2; have := HSQ.out; have := HO.out.2.size; omega⟩, by rw [HFG.out.1]; exact ⟨(HO.out.1.kp KK3.out).se, aaX (C := WQ.heap.size) (fun k hk => (HO.out.1.lt k hk).1) fun b hb => hb.elim (fun e => by have := HGV.out.2; have := HI.out.2.2.2.2; have := HSQ.out; omega) fun hb => by have := HZ1.out.2.1 b hb; have := HGV.out; have := HI.out.2.2.2.2; have := HSQ.out; omega⟩⟩; rw [arG HJL.out] at hst; have HSTD := Lib.hid hst; have HB4 := Lib.hid ((HBG.out.kp KK3.out).grown hst.2 (fun e => HNE.out gv rfl (by cases e; rfl))); have HB5 := Lib.hid ((HTO.out.kp KK3.out).grown hst.2 (fun e => by cases e; have := HGV.out.2; have := HI.out.2.2.2.2; omega)); have S4 : Hid (((w3.setCell ⟨gv, j * 2, none⟩ (.slice a3 n3 c3)).setCell ⟨gv, j * 2 + 1, none⟩ (.slice a6 m c6)).cell? ⟨g, 1, none⟩ = some (.slice (some ⟨gv, 0, none⟩) M c') ∧ ((w3.setCell ⟨gv, j * 2, none⟩ (.slice a3 n3 c3)).setCell ⟨gv, j * 2 + 1, none⟩ (.slice a6 m c6)).cell? ⟨q5, 0, none⟩ = some (.slice apx npx cpx)) := ⟨HB4.out.cell 1, HB5.out.cell 0⟩; clear hst hth h65 r61 r62 hg3 j0' j1' ev' egv))
            all_goals (
              clear S0 S0d S3 S4 j0 j1 f0 f1
              go_wp2_with fail
              have hfin := HSTD.out
              have hsp : Step (fun k => (Value.slice (some ⟨gv, 0, none⟩) M c').ownBlock = some k) _ _ := ⟨hfin.2.os, hfin.2.tape, hfin.2.output, hfin.2.size, fun q hq hn => hfin.2.block q hq fun e => hn (by cases e; rfl)⟩
              have hrd := (HI.out.2.1.kp (KO.out.trans KK3.out)).stepF hsp HFV.out
              have hkp := Kp.grown (v := .slice (some ⟨gv, 0, none⟩) M c') (HI.out.2.2.2.1.trans (KO.out.trans KK3.out)) hfin.2 (fun k hk => by cases hk; exact HGV.out.1)
              have hszf := hfin.2.size
              have hs2 := KK3.out.size
              have hs3 := KO.out.size
              have hs4 := HI.out.2.2.2.2
              go_roundw
              case rel => exact ⟨j + 1, by omega, by go_num, (by first | exact HB4.out | exact HB4.out.kp (Kp.refl _).drew), (by first | exact hrd | exact hrd.kp (Kp.refl _).drew), (by first | exact hfin.1 | exact hfin.1.kp (Kp.refl _).drew), (by first | exact hkp | exact hkp.drew), (by first | omega | (simp; omega))⟩
              case measure => simp [intOf]; omega)
      · obtain rfl : j = M := by omega
        have h1 : ¬ (j : Int) < (j : Int) := by omega
        have e3 := HI.out.1.cell 0
        have e4 := HI.out.1.cell 1
        simp only [List.getElem?_toArray, List.getElem?_cons_zero, List.getElem?_cons_succ] at e3 e4
        have HRBR := Lib.hid (HRB.out.kp HI.out.2.2.2.1)
        have HFP : Hid (RZ Z1 wr (.slice av nv cv) p.pub) := ⟨HI.out.2.1, aaX HNW.out HZ1.out.2.1⟩
        have HGP : Hid (SZ shSt Z1 wr (.slice a' j c') p.step) := ⟨HI.out.2.2.1.se, aaX (C := w1.heap.size) (fun k hk => (HI.out.2.2.1.lt k hk).1) HZ1.out.2.1⟩
        go_wp2_with (refine aam rfl rfl 27 (.tmp 2) (.tmp 56) rfl (w.heap.size + 1) 27 _ #[.slice av nv cv, .slice a' j c'] rfl rfl HRBR.out rfl (ago rfl rfl) aow ?_; intro wq hbq gq hkq)
        have SG : Hid (Step Z1 wr wq) := ⟨gq.os, gq.tape, gq.output, gq.size, fun q hq hn => gq.block q hq fun e => hn (by cases e; exact HZ1.out.2.2.2)⟩
        refine bodyPost_ret (results_cell_row (P := Tryz.prog) rfl _ _ (w.heap.size + 1) _ _ (0, 0) _ rfl hbq Tryz.underlying27 rfl aow) rfl ?_
        exact ⟨⟨_, _, rfl, (HFP.out.step SG.out).mono HZ1.out.2.2.1, (HGP.out.step SG.out).mono HZ1.out.2.2.1⟩, hkq w (K1.out.trans HI.out.2.2.2.1) (Nat.le_succ _)⟩
end Go.Proofs.YthmhklmkgkfcpaaGreatDoor

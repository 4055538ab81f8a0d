/- hash.copied. -/
import Derived.Test.YtobldbodafaajaaGreatDoorTreeRow10
set_option linter.unusedVariables false
set_option linter.unusedSimpArgs false
namespace Go.Proofs.YtobldbodafaajaaGreatDoor
open Go.RowKit

set_option maxRecDepth 100000 in
set_option maxHeartbeats 4000000 in
theorem hashCopied_any (u : Value) (t : List Nod) (w : World) (hu : NL w u t) (h0 : 0 < t.length) (hl : t.length ≤ 100000) (hb : ∀ i, i < t.length → (ats t i).pub.length ≤ 1000 ∧ (ats t i).un.length ≤ 100000 ∧ (ats t i).hash.length ≤ 1000) :
    Calls Tryz.prog 42 #[u] w fun e w' => (∃ v P U H, e = .returned v ∧ NX 37 3 w' w.heap.size v t P U H (fun _ => True)) ∧ Kp w w' := by
  have HC := Lib.hid (cloneN_any u t w hu h0 (by omega))
  have HCP := Lib.hid (fun (v : Value) (l : List UInt8) (W : World) (h : Rd W v l) (hl : l.length ≤ 1000) => clone_any v l W h (by omega))
  have HCI := Lib.hid (fun (v : Value) (l : List Int) (W : World) (h : RI W v l) (hl : l.length ≤ 100000) => cloneI_any v l W h (by omega))
  have HU := Lib.hid hu
  obtain ⟨a, c, rfl, p1, s1⟩ := hu.shape
  have HB := Lib.hid hb
  have HSAME := Lib.hid (fun i hi => set_same9 t i hi)
  obtain ⟨N, hN⟩ : ∃ N, t.length = N := ⟨_, rfl⟩
  have HN := Lib.hid hN
  rw [hN] at HC HU HB h0 hl p1 ⊢
  have hlI : (N : Int) ≤ 100000 := by omega
  have HP1 := Lib.hid (And.intro p1 s1)
  clear hu hb hN hl p1 s1
  go_enter Tryz.func42, Tryz.ntmps42
  go_wp2_with fail
  refine HC.out.mono ?_; rintro _ w1 ⟨⟨v1, us, rfl, r1, r2, r3⟩, k1⟩
  obtain ⟨P, U, H, r4⟩ := choose9 (R := fun i p u h => (∀ f, f < 5 → us[i * 5 + f]? = (nodC (ats t i) p u h)[f]?) ∧ NIn w (ats t i) p u h) r3
  obtain ⟨g, c1, rfl, hg0, hg1⟩ : ∃ g c1, v1 = .slice (some ⟨g, 0, none⟩) N c1 ∧ w.heap.size ≤ g ∧ g < w1.heap.size ∧ N ≤ c1 := by
    rcases id r1.2 with ⟨_, e⟩ | ⟨g, cap, cur, e, e1, e2, e3, _⟩
    · omega
    · exact ⟨g, cap, e, e1, (Array.getElem?_eq_some_iff.1 e2).1, e3⟩
  have hstart : Hid (∃ P U H, NX 37 3 w1 w.heap.size (.slice (some ⟨g, 0, none⟩) N c1) t P U H (fun j => j < 0)) := by
    refine ⟨P, U, H, ⟨us, by rw [HN.out]; exact r1, r2, fun i hi => ?_⟩, fun i hi => ?_, fun i hi => ?_, fun i hi hs => absurd hs (Nat.not_lt_zero _), fun i hi hs => absurd hs (Nat.not_lt_zero _), fun i j hi hj hs => absurd hs (Nat.not_lt_zero _)⟩
    · rw [HN.out] at hi; exact (r4 i hi).1
    · rw [HN.out] at hi; exact (r4 i hi).2.kp k1
    · rw [HN.out] at hi
      have h4 := (r4 i hi).2
      exact ⟨h4.pub.apart (fun g' hg' => by cases hg'; exact hg0), h4.un.apart (fun g' hg' => by cases hg'; exact hg0), h4.hash.apart (fun g' hg' => by cases hg'; exact hg0)⟩
  have HK1 := Lib.hid k1
  have HG := Lib.hid (And.intro hg0 hg1.1)
  have hNc := hg1.2
  clear r1 r2 r3 r4 k1 HC hg0 hg1 P U H us
  go_wp2_with fail
  go_loopw [10] (fun x wr => ∃ k : Nat, k ≤ N ∧ x = .int .i64 (k : Int) ∧ (∃ P U H, NX 37 3 wr w.heap.size (.slice (some ⟨g, 0, none⟩) N c1) t P U H (fun j => j < k)) ∧ Kp w wr ∧ g < wr.heap.size) (fun x _ => (N - (intOf x).toNat))
  case atStart => exact ⟨0, Nat.zero_le _, rfl, hstart.out, HK1.out, HG.out.2⟩
  case round =>
    obtain ⟨k, hk, rfl, ⟨P, U, H, hx⟩, hkp, hgr⟩ := hrel
    by_cases hlt : k < N
    · obtain ⟨b, off, rfl, _, hcc⟩ := HU.out.at k hlt
      obtain ⟨p, q, h, hn⟩ := hcc k hlt
      have hn' := hn.kp hkp
      have d0 := hn'.kind
      have d1 := hn'.name
      have d2 := hn'.pubC
      have d3 := hn'.unC
      have d4 := hn'.hashC
      obtain ⟨b1, b2, b3⟩ := HB.out k hlt
      have HIN := Lib.hid hn.2
      have HBB := Lib.hid (And.intro b1 (And.intro b2 b3))
      obtain ⟨xp, np, xcp, rfl⟩ := rd_sl9 hn'.2.pub
      obtain ⟨xq, nq, xcq, rfl⟩ := hn'.2.un.sl
      obtain ⟨xh, nh, xch, rfl⟩ := rd_sl9 hn'.2.hash
      have HX := Lib.hid hx
      have HKP := Lib.hid (And.intro hkp hgr)
      have i1 : IntKind.i64.wrap ((k : Int) + 1) = (k : Int) + 1 := IntWalk.i64_in _ (by omega)
      have i2 : (k : Int) < (N : Int) := by omega
      clear hcc hn hn' hx hkp hgr b1 b2 b3
      go_wp2_with fail
      refine (HCP.out (.slice xp np xcp) _ _ (HIN.out.pub.kp (HKP.out.1.alloc _)) HBB.out.1).mono ?_
      rintro _ w3 ⟨p', rfl, o3, k3⟩
      have HNX1 : Hid (∃ P U H, NX 37 3 (w3.setCells g (k * 5 + 2) [p']) w.heap.size (.slice (some ⟨g, 0, none⟩) N c1) t P U H (fun j => j < k)) := ⟨_, _, _,
        HX.out.clonePub (((Kp.refl wr).alloc _).trans k3) (by rw [HN.out]; exact hlt) (Nat.lt_irrefl k) o3 (by simp) HKP.out.2⟩
      have HTH1 : Hid (w3.there g (k * 5 + 2) 1) := (HX.out.kp (((Kp.refl wr).alloc _).trans k3)).there k (by rw [HN.out]; exact hlt) 2 (by omega)
      have hbx := (Bx.new wr 37 #[.int .i64 (ats t k).kind, .int .i64 (ats t k).name, .slice xp np xcp, .slice xq nq xcq, .slice xh nh xch]).kp k3
      have HBX1 : Hid (Bx (w3.setCells g (k * 5 + 2) [p']) wr.heap.size 37 #[.int .i64 (ats t k).kind, .int .i64 (ats t k).name, .slice xp np xcp, .slice xq nq xcq, .slice xh nh xch]) := hbx.grown (grown_set9 w3 g 0 _ _) (fun e => by have := HKP.out.2; simp at e; omega)
      have HKP1 : Hid (Kp w (w3.setCells g (k * 5 + 2) [p'])) := (HKP.out.1.trans (((Kp.refl wr).alloc _).trans k3)).setCells HG.out.1 _ _
      have HSZ1 : Hid (wr.heap.size < (w3.setCells g (k * 5 + 2) [p']).heap.size) := Nat.lt_of_lt_of_le (Array.getElem?_eq_some_iff.1 hbx).1 (grown_set9 w3 g 0 _ _).size
      obtain ⟨yp, mp, ycp, rfl⟩ := rd_sl9 o3.rd
      clear o3 k3 hbx
      go_wp2_with (refine wpList_store_cell9 rfl rfl 25 (.tmp 21) (.tmp 19) rfl g (k * 5 + 2) (.slice yp mp ycp) rfl rfl rfl HTH1.out size1_bytes ?_; intro W4 hW4; rw [← hW4] at HNX1 HBX1 HKP1 HSZ1; have c3 := HBX1.out.cell 3; have c4 := HBX1.out.cell 4; clear hW4)
      refine (HCI.out (.slice xq nq xcq) _ W4 (HIN.out.un.kp HKP1.out) HBB.out.2.1).mono ?_
      rintro _ w5 ⟨u', rfl, o5, k5⟩
      obtain ⟨P1, U1, H1, hx1⟩ := HNX1.out
      have hgW : g < W4.heap.size := Nat.lt_trans HKP.out.2 HSZ1.out
      have HNX2 : Hid (∃ P U H, NX 37 3 (w5.setCells g (k * 5 + 3) [u']) w.heap.size (.slice (some ⟨g, 0, none⟩) N c1) t P U H (fun j => j < k + 1)) := ⟨_, _, _, hx1.cloneUn k5 (by rw [HN.out]; exact hlt) (fun j hj hjk => by omega) o5 (Nat.le_refl _) hgW HKP1.out.size⟩
      have HTH2 : Hid (w5.there g (k * 5 + 3) 1) := (hx1.kp k5).there k (by rw [HN.out]; exact hlt) 3 (by omega)
      have hbx := HBX1.out.kp k5
      have HBX2 : Hid (Bx (w5.setCells g (k * 5 + 3) [u']) wr.heap.size 37 #[.int .i64 (ats t k).kind, .int .i64 (ats t k).name, .slice xp np xcp, .slice xq nq xcq, .slice xh nh xch]) := hbx.grown (grown_set9 w5 g 0 _ _) (fun e => by have := HKP.out.2; simp at e; omega)
      have HKP2 : Hid (Kp w (w5.setCells g (k * 5 + 3) [u'])) := (HKP1.out.trans k5).setCells HG.out.1 _ _
      have HSZ2 : Hid (wr.heap.size < (w5.setCells g (k * 5 + 3) [u']).heap.size) := Nat.lt_of_lt_of_le (Array.getElem?_eq_some_iff.1 hbx).1 (grown_set9 w5 g 0 _ _).size
      obtain ⟨yq, mq, ycq, rfl⟩ := o5.ri.sl
      clear o5 k5 hbx hx1 hgW HNX1 HBX1 HKP1 HSZ1 HTH1 c3 c4
      go_wp2_with (refine wpList_store_cell9 rfl rfl 35 (.tmp 28) (.tmp 26) rfl g (k * 5 + 3) (.slice yq mq ycq) rfl rfl rfl HTH2.out size1_ints ?_; intro W6 hW6; rw [← hW6] at HNX2 HBX2 HKP2 HSZ2; have c4 := HBX2.out.cell 4; clear hW6)
      refine (HCP.out (.slice xh nh xch) _ W6 (HIN.out.hash.kp HKP2.out) HBB.out.2.2).mono ?_
      rintro _ w7 ⟨h', rfl, o7, k7⟩
      obtain ⟨P2, U2, H2, hx2⟩ := HNX2.out
      have hgW : g < W6.heap.size := Nat.lt_trans HKP.out.2 HSZ2.out
      have HNX3 : Hid (∃ P U H, NX 37 3 (w7.setCells g (k * 5 + 4) [h']) w.heap.size (.slice (some ⟨g, 0, none⟩) N c1) t P U H (fun j => j < k + 1)) := ⟨_, _, _, hx2.cloneHash k7 (by rw [HN.out]; exact hlt) o7 (Nat.le_refl _) hgW⟩
      have HTH3 : Hid (w7.there g (k * 5 + 4) 1) := (hx2.kp k7).there k (by rw [HN.out]; exact hlt) 4 (by omega)
      have HKP3 : Hid (Kp w (w7.setCells g (k * 5 + 4) [h'])) := (HKP2.out.trans k7).setCells HG.out.1 _ _
      have HSZ3 : Hid (g < (w7.setCells g (k * 5 + 4) [h']).heap.size) := Nat.lt_of_lt_of_le hgW (Nat.le_trans k7.size (grown_set9 w7 g 0 _ _).size)
      obtain ⟨yh, mh, ych, rfl⟩ := rd_sl9 o7.rd
      clear o7 k7 hx2 hgW HNX2 HBX2 HKP2 HSZ2 HTH2 c4
      go_wp2_with (refine wpList_store_cell9 rfl rfl 25 (.tmp 35) (.tmp 33) rfl g (k * 5 + 4) (.slice yh mh ych) rfl rfl rfl HTH3.out size1_bytes ?_; intro W8 hW8; rw [← hW8] at HNX3 HKP3 HSZ3; clear hW8)
      go_roundw
      case rel => exact ⟨k + 1, by omega, by go_num, HNX3.out, HKP3.out, HSZ3.out⟩
      case measure => simp [intOf]; omega
    · obtain rfl : k = N := by omega
      have HX := Lib.hid hx
      have HKP := Lib.hid hkp
      have i2 : ¬ (k : Int) < (k : Int) := by omega
      have HNN := Lib.hid HN.out
      clear hx hkp hgr
      go_wp2_with fail
      go_ret
      exact ⟨⟨_, rfl, P, U, H, HX.out.weak (fun i hi _ => by rw [HN.out] at hi; exact hi)⟩, HKP.out⟩
end Go.Proofs.YtobldbodafaajaaGreatDoor

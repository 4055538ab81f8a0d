/- pyxlaw09: half, others. -/
import Derived.Test.YtnpobcggadojkaaGreatDoorRefTree9
import Derived.Test.YtnpobcggadojkaaGreatDoorByteRow
import Derived.Test.YtnpobcggadojkaaGreatDoorTreePl9
set_option linter.unusedVariables false
set_option linter.unusedSimpArgs false
namespace Go.Proofs.YtnpobcggadojkaaGreatDoor
open Go.RowKit

def halfB (b : UInt8) : List UInt8 := List.replicate 32 b
theorem halfB_length (b : UInt8) : (halfB b).length = 32 := by unfold halfB; simp
theorem fill9 (b : UInt8) (k : Nat) (h : k < 32) : (List.replicate k b ++ List.replicate (32 - k) 0).set k b = List.replicate (k + 1) b ++ List.replicate (32 - (k + 1)) 0 := by
  rw [List.set_append_right _ _ (by simp), List.length_replicate, Nat.sub_self, show 32 - k = (32 - (k + 1)) + 1 by omega, List.replicate_succ, List.set_cons_zero, List.replicate_succ', List.append_assoc]
  rfl
set_option maxHeartbeats 2000000 in
theorem half9_any (b : UInt8) (w : World) : Calls Tryz.prog 28 #[.int .u8 (b.toNat : Int)] w fun e w' => (∃ r, e = .returned r ∧ Rd w' r (halfB b)) ∧ Kp w w' := by
  have HF : Hid (By 5 (w.alloc (.cells (Array.replicate 32 (.int .u8 0)) 5)) w.heap.size (List.replicate 0 b ++ List.replicate (32 - 0) 0)) := By.fresh _ _ _
  have H11 := Lib.hid (fill9 b)
  go_enter Tryz.func28, Tryz.ntmps28
  go_wp2_with (at_make; refine wpList_make_fresh (z := .int .u8 0) (b := 1) Tryz.underlying23 Tryz.info5 rfl (by decide) rfl _ _ rfl 32 rfl rfl (by omega) ?_; intro w1 hw1; have hg1 : By 5 w1 w.heap.size (List.replicate 0 b ++ List.replicate (32 - 0) 0) := (by rw [hw1]; exact HF.out); have hk1 : Kp w w1 := (by rw [hw1]; exact (Kp.refl w).alloc _); clear hw1)
  go_loopw [4] (fun i wr => ∃ k : Nat, k ≤ 32 ∧ i = .int .i64 k ∧ By 5 wr w.heap.size (List.replicate k b ++ List.replicate (32 - k) 0) ∧ Kp w wr) (fun i _ => 32 - (intOf i).toNat)
  case atStart => exact ⟨0, by omega, rfl, hg1, hk1⟩
  case round =>
    clear hg1 hk1
    obtain ⟨k, hk, rfl, hB, hkp⟩ := hrel
    by_cases hlt : k < 32
    · have hl : (List.replicate k b ++ List.replicate (32 - k) 0).length = 32 := by simp; omega
      have c0 := hB.cell k (by rw [hl]; exact hlt)
      have f0 := hB.frozen k
      have HS := Lib.hid (H11.out k hlt)
      have q : (k : Int) < 32 := by omega
      generalize (List.replicate k b ++ List.replicate (32 - k) 0) = L at *
      clear hl
      go_wp2_with fail
      go_roundw
      case rel => exact ⟨k + 1, by omega, by go_num, hB.set k b HS.out, Below.setCell hkp (Nat.le_refl _) _⟩
      case measure => simp [intOf]; omega
    · obtain rfl : k = 32 := by omega
      have hB20 : By 5 wr w.heap.size (halfB b) := by unfold halfB; simpa using hB
      have HR := Lib.hid (hB20.rdAll (n := 32) (c := 32) (halfB_length b).symm (Nat.le_refl _) (by unfold maxLen; omega))
      have KK := Lib.hid hkp
      clear hB hB20 hkp
      go_wp2_with fail
      go_ret
      exact ⟨⟨_, rfl, HR.out⟩, KK.out⟩

theorem others_stop {a b : List Nod} {but : Int} {k : Nat} (ha : lvs a ≤ k) (hb : lvs b ≤ k) (h : ∀ i : Nat, i < k → (i : Int) ≠ but → ats a (2 * i) = ats b (2 * i)) : othersP a b but := fun i hi => by
  by_cases hk : i < k
  · exact h i hk hi
  · rw [ats_over (by unfold lvs at ha; omega), ats_over (by unfold lvs at hb; omega)]
theorem lvs_blank {t : List Nod} {k : Nat} (h : ¬ k < lvs t) : ats t (2 * k) = blankN := ats_over (by unfold lvs at h; omega)

set_option maxRecDepth 100000 in
set_option maxHeartbeats 8000000 in
theorem others9_any (u v : Value) (a b : List Nod) (but : Int) (w : World) (hu : NL w u a) (hv : NL w v b) (hla : a.length ≤ 100000) (hlb : b.length ≤ 100000) :
    Calls Tryz.prog 29 #[u, v, .int .i64 but] w fun e w' => Tells e (othersP a b but) ∧ Kp w w' := by
  have HLA := Lib.hid (fun W (hW : Kp w W) => refLvs_any u a W (hu.kp hW) hla)
  have HLB := Lib.hid (fun W (hW : Kp w W) => refLvs_any v b W (hv.kp hW) hlb)
  have hma := lvs_max (t := a) hla
  have hmb := lvs_max (t := b) hlb
  have HU := Lib.hid hu
  have HV := Lib.hid hv
  obtain ⟨aa, ca, rfl, pa, sa⟩ := hu.shape
  obtain ⟨ab, cb, rfl, pb, sb⟩ := hv.shape
  have HSN := Lib.hid (fun (n m : Nod) u v W (h1 : NV W u n) (h2 : NV W v m) => refSameNode_any u v n m W h1 h2)
  have HSTOP := Lib.hid (fun k h1 h2 h3 => others_stop (a := a) (b := b) (but := but) (k := k) h1 h2 h3)
  have HNO : Hid (∀ k : Nat, (k : Int) ≠ but → ¬ ats a (2 * k) = ats b (2 * k) → ¬ othersP a b but) := fun k h1 h2 h => h2 (h k h1)
  have HA2 := Lib.hid (fun k h => lvs_two (t := a) (k := k) h)
  have HB2 := Lib.hid (fun k h => lvs_two (t := b) (k := k) h)
  have HABL := Lib.hid (fun k h => lvs_blank (t := a) (k := k) h)
  have HBBL := Lib.hid (fun k h => lvs_blank (t := b) (k := k) h)
  obtain ⟨NA, hNA⟩ : ∃ NA, a.length = NA := ⟨_, rfl⟩
  obtain ⟨NB, hNB⟩ : ∃ NB, b.length = NB := ⟨_, rfl⟩
  rw [hNA] at HLA HU pa hla HA2 ⊢
  rw [hNB] at HLB HV pb hlb HB2 ⊢
  generalize lvs a = LA at *
  generalize lvs b = LB at *
  generalize othersP a b but = OP at *
  clear hu hv hNA hNB
  go_enter Tryz.func29, Tryz.ntmps29
  go_wp2_with fail
  go_loopw [7] (fun i wr => ∃ k : Nat, (k ≤ LA ∨ k ≤ LB) ∧ i = .int .i64 (k : Int) ∧ (∀ j : Nat, j < k → (j : Int) ≠ but → ats a (2 * j) = ats b (2 * j)) ∧ Kp w wr) (fun i _ => (LA + LB - (intOf i).toNat))
  case atStart => exact ⟨0, .inl (Nat.zero_le _), rfl, fun j h => by omega, Kp.refl _⟩
  case round =>
    obtain ⟨k, hk, rfl, hpre, hkp⟩ := hrel
    by_cases hlt : k < LA ∨ k < LB
    · have i1 : IntKind.i64.wrap ((k : Int) + 1) = (k : Int) + 1 := IntWalk.i64_in _ (by omega)
      have i2 : IntKind.i64.wrap (2 * (k : Int)) = ((2 * k : Nat) : Int) := by rw [IntWalk.i64_in _ (by omega)]; omega
      have HPRE : Hid (((k : Int) ≠ but → ats a (2 * k) = ats b (2 * k)) → ∀ j : Nat, j < k + 1 → (j : Int) ≠ but → ats a (2 * j) = ats b (2 * j)) := fun he j hj => by
        rcases Nat.lt_or_eq_of_le (Nat.lt_succ_iff.1 hj) with h3 | h3
        · exact hpre j h3
        · rw [h3]; exact he
      have HNO2 := HNO.out k
      have KK := Lib.hid hkp
      have HA3 := HA2.out k
      have HB3 := HB2.out k
      have HABL3 := HABL.out k
      have HBBL3 := HBBL.out k
      have HLT : Hid (k < LA ∨ k < LB) := hlt
      have hm : k < LA + LB := by omega
      clear HNO HSTOP hpre HA2 HB2 HABL HBBL hkp hk
      by_cases hka : k < LA
      · by_cases hkb : k < LB
        · by_cases hle : LA < LB
          · have hlmI : (k : Int) < (LA : Int) := by omega
            have hlmJ : (k : Int) < (LB : Int) := by omega
            have hleI : (LA : Int) < (LB : Int) := by omega
            have hka := HA3 (by omega)
            obtain ⟨ga, oa, eea, _, hca⟩ := HU.out.at (2 * k) hka
            obtain ⟨pa, qa, ha, hna⟩ := hca (2 * k) hka
            subst eea
            have na := hna.kp KK.out
            have va := Lib.hid na.2
            have i3a : ((2 * k : Nat) : Int) < (NA : Int) := by omega
            clear hca hna
            have hkb := HB3 (by omega)
            obtain ⟨gb, ob, eeb, _, hcb⟩ := HV.out.at (2 * k) hkb
            obtain ⟨pb, qb, hb, hnb⟩ := hcb (2 * k) hkb
            subst eeb
            have nb := hnb.kp KK.out
            have vb := Lib.hid nb.2
            have i3b : ((2 * k : Nat) : Int) < (NB : Int) := by omega
            clear hcb hnb
            have L1 := Lib.hid (HLA.out wr KK.out)
            have L2 := Lib.hid (HLB.out wr KK.out)
            have M1 : Hid (∀ W, Kp wr W → Calls Tryz.prog 32 #[(.slice (some ⟨ga, oa, none⟩) NA ca)] W fun e w' => e = .returned (.int .i64 ((LA : Nat) : Int)) ∧ (w'.cell? ⟨ga, oa + 2 * k * 5, none⟩ = some (.int .i64 (ats a (2 * k)).kind) ∧ w'.cell? ⟨ga, oa + 2 * k * 5 + 1, none⟩ = some (.int .i64 (ats a (2 * k)).name) ∧ w'.cell? ⟨ga, oa + 2 * k * 5 + 2, none⟩ = some pa ∧ w'.cell? ⟨ga, oa + 2 * k * 5 + 3, none⟩ = some qa ∧ w'.cell? ⟨ga, oa + 2 * k * 5 + 4, none⟩ = some ha) ∧ W = w') := fun W hW => by
              refine (HLA.out W (KK.out.trans hW)).mono ?_
              rintro _ _ ⟨rfl, rfl⟩
              exact ⟨rfl, ⟨hW.cell na.kind, hW.cell na.name, hW.cell na.pubC, hW.cell na.unC, hW.cell na.hashC⟩, rfl⟩
            have M2 : Hid (∀ W, Kp wr W → Calls Tryz.prog 32 #[(.slice (some ⟨gb, ob, none⟩) NB cb)] W fun e w' => e = .returned (.int .i64 ((LB : Nat) : Int)) ∧ (w'.cell? ⟨gb, ob + 2 * k * 5, none⟩ = some (.int .i64 (ats b (2 * k)).kind) ∧ w'.cell? ⟨gb, ob + 2 * k * 5 + 1, none⟩ = some (.int .i64 (ats b (2 * k)).name) ∧ w'.cell? ⟨gb, ob + 2 * k * 5 + 2, none⟩ = some pb ∧ w'.cell? ⟨gb, ob + 2 * k * 5 + 3, none⟩ = some qb ∧ w'.cell? ⟨gb, ob + 2 * k * 5 + 4, none⟩ = some hb) ∧ W = w') := fun W hW => by
              refine (HLB.out W (KK.out.trans hW)).mono ?_
              rintro _ _ ⟨rfl, rfl⟩
              exact ⟨rfl, ⟨hW.cell nb.kind, hW.cell nb.name, hW.cell nb.pubC, hW.cell nb.unC, hW.cell nb.hashC⟩, rfl⟩
            have HC := Lib.hid (fun W (hW : Kp wr W) => HSN.out (ats a (2 * k)) (ats b (2 * k)) _ _ W (⟨pa, qa, ha, rfl, va.out.kp hW⟩) (⟨pb, qb, hb, rfl, vb.out.kp hW⟩))
            simp only [nodC] at HC
            obtain ⟨xa1, na1, ca1, rfl⟩ := rd_sl9 na.2.pub
            obtain ⟨xa2, na2, ca2, rfl⟩ := na.2.un.sl
            obtain ⟨xa3, na3, ca3, rfl⟩ := rd_sl9 na.2.hash
            obtain ⟨xb1, nb1, cb1, rfl⟩ := rd_sl9 nb.2.pub
            obtain ⟨xb2, nb2, cb2, rfl⟩ := nb.2.un.sl
            obtain ⟨xb3, nb3, cb3, rfl⟩ := rd_sl9 nb.2.hash
            clear HSN HA3 HB3 HABL3 HBBL3 HLA HLB HU HV HLT hlt na va hka nb vb hkb
            generalize ((ats a (2 * k)) = (ats b (2 * k))) = EQ at *
            generalize (ats a (2 * k)) = A1 at *
            generalize (ats b (2 * k)) = B1 at *
            generalize 2 * k = K2 at *
            by_cases hbut : (k : Int) = but
            · have HP := Lib.hid (HPRE.out fun h => absurd hbut h)
              subst hbut
              clear HPRE HNO2 HC
              go_wp2_with fail
              refine L1.out.mono ?_; rintro _ _ ⟨rfl, rfl⟩
              go_wp2_with fail
              refine L2.out.mono ?_; rintro _ _ ⟨rfl, rfl⟩
              clear L1 L2
              go_wp2_with fail
              refine (M1.out _ (by repeat (first | exact Kp.refl _ | refine Kp.setNew ?_ (by simp) _ | refine Kp.alloc ?_ _))).mono ?_
              rintro _ _ ⟨rfl, ⟨ca0, ca4, ca5, ca6, ca7⟩, rfl⟩
              go_wp2_with fail
              refine (M2.out _ (by repeat (first | exact Kp.refl _ | refine Kp.setNew ?_ (by simp) _ | refine Kp.alloc ?_ _))).mono ?_
              rintro _ _ ⟨rfl, ⟨cb0, cb4, cb5, cb6, cb7⟩, rfl⟩
              clear M1 M2
              go_wp2_with fail
              go_roundw
              case rel => exact ⟨k + 1, by omega, by go_num, HP.out, by repeat (first | exact KK.out | refine Kp.setNew ?_ (by simp; have := KK.out.size; omega) _ | refine Kp.alloc ?_ _)⟩
              case measure => simp [intOf]; omega
            · have hbb : ((k : Int) == but) = false := beq_eq_false_iff_ne.2 hbut
              go_wp2_with fail
              refine L1.out.mono ?_; rintro _ _ ⟨rfl, rfl⟩
              go_wp2_with fail
              refine L2.out.mono ?_; rintro _ _ ⟨rfl, rfl⟩
              clear L1 L2
              go_wp2_with fail
              refine (M1.out _ (by repeat (first | exact Kp.refl _ | refine Kp.setNew ?_ (by simp) _ | refine Kp.alloc ?_ _))).mono ?_
              rintro _ _ ⟨rfl, ⟨ca0, ca4, ca5, ca6, ca7⟩, rfl⟩
              go_wp2_with fail
              refine (M2.out _ (by repeat (first | exact Kp.refl _ | refine Kp.setNew ?_ (by simp) _ | refine Kp.alloc ?_ _))).mono ?_
              rintro _ _ ⟨rfl, ⟨cb0, cb4, cb5, cb6, cb7⟩, rfl⟩
              clear M1 M2
              go_wp2_with fail
              refine (HC.out _ (by repeat (first | exact Kp.refl _ | refine Kp.setNew ?_ (by simp) _ | refine Kp.alloc ?_ _))).mono ?_
              rintro _ w9 ⟨⟨b9, rfl, h9⟩, k9⟩
              have K9 : Hid (Kp w w9) := by
                refine Kp.trans ?_ k9
                repeat (first | exact KK.out | refine Kp.setNew ?_ (by simp; have := KK.out.size; omega) _ | refine Kp.alloc ?_ _)
              clear k9 HC
              cases b9
              · have HB := Lib.hid (HNO2 hbut fun e => by have := h9.2 e; cases this)
                clear h9 HNO2 HPRE
                go_wp2_with fail
                go_ret
                exact ⟨Tells.no HB.out, K9.out⟩
              · have HP := Lib.hid (HPRE.out fun _ => h9.1 rfl)
                clear h9 HNO2 HPRE
                go_wp2_with fail
                go_roundw
                case rel => exact ⟨k + 1, by omega, by go_num, HP.out, K9.out⟩
                case measure => simp [intOf]; omega
          · have hlmI : (k : Int) < (LA : Int) := by omega
            have hlmJ : (k : Int) < (LB : Int) := by omega
            have hleI : ¬ (LA : Int) < (LB : Int) := by omega
            have hka := HA3 (by omega)
            obtain ⟨ga, oa, eea, _, hca⟩ := HU.out.at (2 * k) hka
            obtain ⟨pa, qa, ha, hna⟩ := hca (2 * k) hka
            subst eea
            have na := hna.kp KK.out
            have va := Lib.hid na.2
            have i3a : ((2 * k : Nat) : Int) < (NA : Int) := by omega
            clear hca hna
            have hkb := HB3 (by omega)
            obtain ⟨gb, ob, eeb, _, hcb⟩ := HV.out.at (2 * k) hkb
            obtain ⟨pb, qb, hb, hnb⟩ := hcb (2 * k) hkb
            subst eeb
            have nb := hnb.kp KK.out
            have vb := Lib.hid nb.2
            have i3b : ((2 * k : Nat) : Int) < (NB : Int) := by omega
            clear hcb hnb
            have L1 := Lib.hid (HLA.out wr KK.out)
            have L2 := Lib.hid (HLB.out wr KK.out)
            have M1 : Hid (∀ W, Kp wr W → Calls Tryz.prog 32 #[(.slice (some ⟨ga, oa, none⟩) NA ca)] W fun e w' => e = .returned (.int .i64 ((LA : Nat) : Int)) ∧ (w'.cell? ⟨ga, oa + 2 * k * 5, none⟩ = some (.int .i64 (ats a (2 * k)).kind) ∧ w'.cell? ⟨ga, oa + 2 * k * 5 + 1, none⟩ = some (.int .i64 (ats a (2 * k)).name) ∧ w'.cell? ⟨ga, oa + 2 * k * 5 + 2, none⟩ = some pa ∧ w'.cell? ⟨ga, oa + 2 * k * 5 + 3, none⟩ = some qa ∧ w'.cell? ⟨ga, oa + 2 * k * 5 + 4, none⟩ = some ha) ∧ W = w') := fun W hW => by
              refine (HLA.out W (KK.out.trans hW)).mono ?_
              rintro _ _ ⟨rfl, rfl⟩
              exact ⟨rfl, ⟨hW.cell na.kind, hW.cell na.name, hW.cell na.pubC, hW.cell na.unC, hW.cell na.hashC⟩, rfl⟩
            have M2 : Hid (∀ W, Kp wr W → Calls Tryz.prog 32 #[(.slice (some ⟨gb, ob, none⟩) NB cb)] W fun e w' => e = .returned (.int .i64 ((LB : Nat) : Int)) ∧ (w'.cell? ⟨gb, ob + 2 * k * 5, none⟩ = some (.int .i64 (ats b (2 * k)).kind) ∧ w'.cell? ⟨gb, ob + 2 * k * 5 + 1, none⟩ = some (.int .i64 (ats b (2 * k)).name) ∧ w'.cell? ⟨gb, ob + 2 * k * 5 + 2, none⟩ = some pb ∧ w'.cell? ⟨gb, ob + 2 * k * 5 + 3, none⟩ = some qb ∧ w'.cell? ⟨gb, ob + 2 * k * 5 + 4, none⟩ = some hb) ∧ W = w') := fun W hW => by
              refine (HLB.out W (KK.out.trans hW)).mono ?_
              rintro _ _ ⟨rfl, rfl⟩
              exact ⟨rfl, ⟨hW.cell nb.kind, hW.cell nb.name, hW.cell nb.pubC, hW.cell nb.unC, hW.cell nb.hashC⟩, rfl⟩
            have HC := Lib.hid (fun W (hW : Kp wr W) => HSN.out (ats a (2 * k)) (ats b (2 * k)) _ _ W (⟨pa, qa, ha, rfl, va.out.kp hW⟩) (⟨pb, qb, hb, rfl, vb.out.kp hW⟩))
            simp only [nodC] at HC
            obtain ⟨xa1, na1, ca1, rfl⟩ := rd_sl9 na.2.pub
            obtain ⟨xa2, na2, ca2, rfl⟩ := na.2.un.sl
            obtain ⟨xa3, na3, ca3, rfl⟩ := rd_sl9 na.2.hash
            obtain ⟨xb1, nb1, cb1, rfl⟩ := rd_sl9 nb.2.pub
            obtain ⟨xb2, nb2, cb2, rfl⟩ := nb.2.un.sl
            obtain ⟨xb3, nb3, cb3, rfl⟩ := rd_sl9 nb.2.hash
            clear HSN HA3 HB3 HABL3 HBBL3 HLA HLB HU HV HLT hlt na va hka nb vb hkb
            generalize ((ats a (2 * k)) = (ats b (2 * k))) = EQ at *
            generalize (ats a (2 * k)) = A1 at *
            generalize (ats b (2 * k)) = B1 at *
            generalize 2 * k = K2 at *
            by_cases hbut : (k : Int) = but
            · have HP := Lib.hid (HPRE.out fun h => absurd hbut h)
              subst hbut
              clear HPRE HNO2 HC
              go_wp2_with fail
              refine L1.out.mono ?_; rintro _ _ ⟨rfl, rfl⟩
              go_wp2_with fail
              refine L2.out.mono ?_; rintro _ _ ⟨rfl, rfl⟩
              clear L1 L2
              go_wp2_with fail
              refine (M1.out _ (by repeat (first | exact Kp.refl _ | refine Kp.setNew ?_ (by simp) _ | refine Kp.alloc ?_ _))).mono ?_
              rintro _ _ ⟨rfl, ⟨ca0, ca4, ca5, ca6, ca7⟩, rfl⟩
              go_wp2_with fail
              refine (M2.out _ (by repeat (first | exact Kp.refl _ | refine Kp.setNew ?_ (by simp) _ | refine Kp.alloc ?_ _))).mono ?_
              rintro _ _ ⟨rfl, ⟨cb0, cb4, cb5, cb6, cb7⟩, rfl⟩
              clear M1 M2
              go_wp2_with fail
              go_roundw
              case rel => exact ⟨k + 1, by omega, by go_num, HP.out, by repeat (first | exact KK.out | refine Kp.setNew ?_ (by simp; have := KK.out.size; omega) _ | refine Kp.alloc ?_ _)⟩
              case measure => simp [intOf]; omega
            · have hbb : ((k : Int) == but) = false := beq_eq_false_iff_ne.2 hbut
              go_wp2_with fail
              refine L1.out.mono ?_; rintro _ _ ⟨rfl, rfl⟩
              go_wp2_with fail
              refine L2.out.mono ?_; rintro _ _ ⟨rfl, rfl⟩
              clear L1 L2
              go_wp2_with fail
              refine (M1.out _ (by repeat (first | exact Kp.refl _ | refine Kp.setNew ?_ (by simp) _ | refine Kp.alloc ?_ _))).mono ?_
              rintro _ _ ⟨rfl, ⟨ca0, ca4, ca5, ca6, ca7⟩, rfl⟩
              go_wp2_with fail
              refine (M2.out _ (by repeat (first | exact Kp.refl _ | refine Kp.setNew ?_ (by simp) _ | refine Kp.alloc ?_ _))).mono ?_
              rintro _ _ ⟨rfl, ⟨cb0, cb4, cb5, cb6, cb7⟩, rfl⟩
              clear M1 M2
              go_wp2_with fail
              refine (HC.out _ (by repeat (first | exact Kp.refl _ | refine Kp.setNew ?_ (by simp) _ | refine Kp.alloc ?_ _))).mono ?_
              rintro _ w9 ⟨⟨b9, rfl, h9⟩, k9⟩
              have K9 : Hid (Kp w w9) := by
                refine Kp.trans ?_ k9
                repeat (first | exact KK.out | refine Kp.setNew ?_ (by simp; have := KK.out.size; omega) _ | refine Kp.alloc ?_ _)
              clear k9 HC
              cases b9
              · have HB := Lib.hid (HNO2 hbut fun e => by have := h9.2 e; cases this)
                clear h9 HNO2 HPRE
                go_wp2_with fail
                go_ret
                exact ⟨Tells.no HB.out, K9.out⟩
              · have HP := Lib.hid (HPRE.out fun _ => h9.1 rfl)
                clear h9 HNO2 HPRE
                go_wp2_with fail
                go_roundw
                case rel => exact ⟨k + 1, by omega, by go_num, HP.out, K9.out⟩
                case measure => simp [intOf]; omega
        · have hlmI : (k : Int) < (LA : Int) := by omega
          have hlmJ : ¬ (k : Int) < (LB : Int) := by omega
          have hleI : ¬ (LA : Int) < (LB : Int) := by omega
          have hka := HA3 (by omega)
          obtain ⟨ga, oa, eea, _, hca⟩ := HU.out.at (2 * k) hka
          obtain ⟨pa, qa, ha, hna⟩ := hca (2 * k) hka
          subst eea
          have na := hna.kp KK.out
          have va := Lib.hid na.2
          have i3a : ((2 * k : Nat) : Int) < (NA : Int) := by omega
          clear hca hna
          have eb := HBBL3 (by omega)
          have L1 := Lib.hid (HLA.out wr KK.out)
          have L2 := Lib.hid (HLB.out wr KK.out)
          have M1 : Hid (∀ W, Kp wr W → Calls Tryz.prog 32 #[(.slice (some ⟨ga, oa, none⟩) NA ca)] W fun e w' => e = .returned (.int .i64 ((LA : Nat) : Int)) ∧ (w'.cell? ⟨ga, oa + 2 * k * 5, none⟩ = some (.int .i64 (ats a (2 * k)).kind) ∧ w'.cell? ⟨ga, oa + 2 * k * 5 + 1, none⟩ = some (.int .i64 (ats a (2 * k)).name) ∧ w'.cell? ⟨ga, oa + 2 * k * 5 + 2, none⟩ = some pa ∧ w'.cell? ⟨ga, oa + 2 * k * 5 + 3, none⟩ = some qa ∧ w'.cell? ⟨ga, oa + 2 * k * 5 + 4, none⟩ = some ha) ∧ W = w') := fun W hW => by
            refine (HLA.out W (KK.out.trans hW)).mono ?_
            rintro _ _ ⟨rfl, rfl⟩
            exact ⟨rfl, ⟨hW.cell na.kind, hW.cell na.name, hW.cell na.pubC, hW.cell na.unC, hW.cell na.hashC⟩, rfl⟩
          have M2 : Hid (∀ W, Kp wr W → Calls Tryz.prog 32 #[(.slice ab NB cb)] W fun e w' => e = .returned (.int .i64 ((LB : Nat) : Int)) ∧ W = w') := fun W hW => by
            refine (HLB.out W (KK.out.trans hW)).mono ?_
            rintro _ _ ⟨rfl, rfl⟩
            exact ⟨rfl, rfl⟩
          have HC := Lib.hid (fun W (hW : Kp wr W) => HSN.out (ats a (2 * k)) blankN _ _ W (⟨pa, qa, ha, rfl, va.out.kp hW⟩) (NV.blank W))
          simp only [nodC] at HC
          rw [eb] at HNO2 HPRE
          obtain ⟨xa1, na1, ca1, rfl⟩ := rd_sl9 na.2.pub
          obtain ⟨xa2, na2, ca2, rfl⟩ := na.2.un.sl
          obtain ⟨xa3, na3, ca3, rfl⟩ := rd_sl9 na.2.hash
          clear HSN HA3 HB3 HABL3 HBBL3 HLA HLB HU HV HLT hlt na va hka eb
          generalize ((ats a (2 * k)) = blankN) = EQ at *
          generalize (ats a (2 * k)) = A1 at *
          generalize 2 * k = K2 at *
          by_cases hbut : (k : Int) = but
          · have HP := Lib.hid (HPRE.out fun h => absurd hbut h)
            subst hbut
            clear HPRE HNO2 HC
            go_wp2_with fail
            refine L1.out.mono ?_; rintro _ _ ⟨rfl, rfl⟩
            go_wp2_with fail
            refine L2.out.mono ?_; rintro _ _ ⟨rfl, rfl⟩
            clear L1 L2
            go_wp2_with fail
            refine (M1.out _ (by repeat (first | exact Kp.refl _ | refine Kp.setNew ?_ (by simp) _ | refine Kp.alloc ?_ _))).mono ?_
            rintro _ _ ⟨rfl, ⟨ca0, ca4, ca5, ca6, ca7⟩, rfl⟩
            go_wp2_with fail
            refine (M2.out _ (by repeat (first | exact Kp.refl _ | refine Kp.setNew ?_ (by simp) _ | refine Kp.alloc ?_ _))).mono ?_
            rintro _ _ ⟨rfl, rfl⟩
            clear M1 M2
            go_wp2_with fail
            go_roundw
            case rel => exact ⟨k + 1, by omega, by go_num, HP.out, by repeat (first | exact KK.out | refine Kp.setNew ?_ (by simp; have := KK.out.size; omega) _ | refine Kp.alloc ?_ _)⟩
            case measure => simp [intOf]; omega
          · have hbb : ((k : Int) == but) = false := beq_eq_false_iff_ne.2 hbut
            go_wp2_with fail
            refine L1.out.mono ?_; rintro _ _ ⟨rfl, rfl⟩
            go_wp2_with fail
            refine L2.out.mono ?_; rintro _ _ ⟨rfl, rfl⟩
            clear L1 L2
            go_wp2_with fail
            refine (M1.out _ (by repeat (first | exact Kp.refl _ | refine Kp.setNew ?_ (by simp) _ | refine Kp.alloc ?_ _))).mono ?_
            rintro _ _ ⟨rfl, ⟨ca0, ca4, ca5, ca6, ca7⟩, rfl⟩
            go_wp2_with fail
            refine (M2.out _ (by repeat (first | exact Kp.refl _ | refine Kp.setNew ?_ (by simp) _ | refine Kp.alloc ?_ _))).mono ?_
            rintro _ _ ⟨rfl, rfl⟩
            clear M1 M2
            go_wp2_with fail
            refine (HC.out _ (by repeat (first | exact Kp.refl _ | refine Kp.setNew ?_ (by simp) _ | refine Kp.alloc ?_ _))).mono ?_
            rintro _ w9 ⟨⟨b9, rfl, h9⟩, k9⟩
            have K9 : Hid (Kp w w9) := by
              refine Kp.trans ?_ k9
              repeat (first | exact KK.out | refine Kp.setNew ?_ (by simp; have := KK.out.size; omega) _ | refine Kp.alloc ?_ _)
            clear k9 HC
            cases b9
            · have HB := Lib.hid (HNO2 hbut fun e => by have := h9.2 e; cases this)
              clear h9 HNO2 HPRE
              go_wp2_with fail
              go_ret
              exact ⟨Tells.no HB.out, K9.out⟩
            · have HP := Lib.hid (HPRE.out fun _ => h9.1 rfl)
              clear h9 HNO2 HPRE
              go_wp2_with fail
              go_roundw
              case rel => exact ⟨k + 1, by omega, by go_num, HP.out, K9.out⟩
              case measure => simp [intOf]; omega
      · have hkb : k < LB := by omega
        have hlmI : ¬ (k : Int) < (LA : Int) := by omega
        have hlmJ : (k : Int) < (LB : Int) := by omega
        have hleI : (LA : Int) < (LB : Int) := by omega
        have ea := HABL3 (by omega)
        have hkb := HB3 (by omega)
        obtain ⟨gb, ob, eeb, _, hcb⟩ := HV.out.at (2 * k) hkb
        obtain ⟨pb, qb, hb, hnb⟩ := hcb (2 * k) hkb
        subst eeb
        have nb := hnb.kp KK.out
        have vb := Lib.hid nb.2
        have i3b : ((2 * k : Nat) : Int) < (NB : Int) := by omega
        clear hcb hnb
        have L1 := Lib.hid (HLA.out wr KK.out)
        have L2 := Lib.hid (HLB.out wr KK.out)
        have M1 : Hid (∀ W, Kp wr W → Calls Tryz.prog 32 #[(.slice aa NA ca)] W fun e w' => e = .returned (.int .i64 ((LA : Nat) : Int)) ∧ W = w') := fun W hW => by
          refine (HLA.out W (KK.out.trans hW)).mono ?_
          rintro _ _ ⟨rfl, rfl⟩
          exact ⟨rfl, rfl⟩
        have M2 : Hid (∀ W, Kp wr W → Calls Tryz.prog 32 #[(.slice (some ⟨gb, ob, none⟩) NB cb)] W fun e w' => e = .returned (.int .i64 ((LB : Nat) : Int)) ∧ (w'.cell? ⟨gb, ob + 2 * k * 5, none⟩ = some (.int .i64 (ats b (2 * k)).kind) ∧ w'.cell? ⟨gb, ob + 2 * k * 5 + 1, none⟩ = some (.int .i64 (ats b (2 * k)).name) ∧ w'.cell? ⟨gb, ob + 2 * k * 5 + 2, none⟩ = some pb ∧ w'.cell? ⟨gb, ob + 2 * k * 5 + 3, none⟩ = some qb ∧ w'.cell? ⟨gb, ob + 2 * k * 5 + 4, none⟩ = some hb) ∧ W = w') := fun W hW => by
          refine (HLB.out W (KK.out.trans hW)).mono ?_
          rintro _ _ ⟨rfl, rfl⟩
          exact ⟨rfl, ⟨hW.cell nb.kind, hW.cell nb.name, hW.cell nb.pubC, hW.cell nb.unC, hW.cell nb.hashC⟩, rfl⟩
        have HC := Lib.hid (fun W (hW : Kp wr W) => HSN.out blankN (ats b (2 * k)) _ _ W (NV.blank W) (⟨pb, qb, hb, rfl, vb.out.kp hW⟩))
        simp only [nodC] at HC
        rw [ea] at HNO2 HPRE
        obtain ⟨xb1, nb1, cb1, rfl⟩ := rd_sl9 nb.2.pub
        obtain ⟨xb2, nb2, cb2, rfl⟩ := nb.2.un.sl
        obtain ⟨xb3, nb3, cb3, rfl⟩ := rd_sl9 nb.2.hash
        clear HSN HA3 HB3 HABL3 HBBL3 HLA HLB HU HV HLT hlt ea nb vb hkb
        generalize (blankN = (ats b (2 * k))) = EQ at *
        generalize (ats b (2 * k)) = B1 at *
        generalize 2 * k = K2 at *
        by_cases hbut : (k : Int) = but
        · have HP := Lib.hid (HPRE.out fun h => absurd hbut h)
          subst hbut
          clear HPRE HNO2 HC
          go_wp2_with fail
          refine L1.out.mono ?_; rintro _ _ ⟨rfl, rfl⟩
          go_wp2_with fail
          refine L2.out.mono ?_; rintro _ _ ⟨rfl, rfl⟩
          clear L1 L2
          go_wp2_with fail
          refine (M1.out _ (by repeat (first | exact Kp.refl _ | refine Kp.setNew ?_ (by simp) _ | refine Kp.alloc ?_ _))).mono ?_
          rintro _ _ ⟨rfl, rfl⟩
          go_wp2_with fail
          refine (M2.out _ (by repeat (first | exact Kp.refl _ | refine Kp.setNew ?_ (by simp) _ | refine Kp.alloc ?_ _))).mono ?_
          rintro _ _ ⟨rfl, ⟨cb0, cb4, cb5, cb6, cb7⟩, rfl⟩
          clear M1 M2
          go_wp2_with fail
          go_roundw
          case rel => exact ⟨k + 1, by omega, by go_num, HP.out, by repeat (first | exact KK.out | refine Kp.setNew ?_ (by simp; have := KK.out.size; omega) _ | refine Kp.alloc ?_ _)⟩
          case measure => simp [intOf]; omega
        · have hbb : ((k : Int) == but) = false := beq_eq_false_iff_ne.2 hbut
          go_wp2_with fail
          refine L1.out.mono ?_; rintro _ _ ⟨rfl, rfl⟩
          go_wp2_with fail
          refine L2.out.mono ?_; rintro _ _ ⟨rfl, rfl⟩
          clear L1 L2
          go_wp2_with fail
          refine (M1.out _ (by repeat (first | exact Kp.refl _ | refine Kp.setNew ?_ (by simp) _ | refine Kp.alloc ?_ _))).mono ?_
          rintro _ _ ⟨rfl, rfl⟩
          go_wp2_with fail
          refine (M2.out _ (by repeat (first | exact Kp.refl _ | refine Kp.setNew ?_ (by simp) _ | refine Kp.alloc ?_ _))).mono ?_
          rintro _ _ ⟨rfl, ⟨cb0, cb4, cb5, cb6, cb7⟩, rfl⟩
          clear M1 M2
          go_wp2_with fail
          refine (HC.out _ (by repeat (first | exact Kp.refl _ | refine Kp.setNew ?_ (by simp) _ | refine Kp.alloc ?_ _))).mono ?_
          rintro _ w9 ⟨⟨b9, rfl, h9⟩, k9⟩
          have K9 : Hid (Kp w w9) := by
            refine Kp.trans ?_ k9
            repeat (first | exact KK.out | refine Kp.setNew ?_ (by simp; have := KK.out.size; omega) _ | refine Kp.alloc ?_ _)
          clear k9 HC
          cases b9
          · have HB := Lib.hid (HNO2 hbut fun e => by have := h9.2 e; cases this)
            clear h9 HNO2 HPRE
            go_wp2_with fail
            go_ret
            exact ⟨Tells.no HB.out, K9.out⟩
          · have HP := Lib.hid (HPRE.out fun _ => h9.1 rfl)
            clear h9 HNO2 HPRE
            go_wp2_with fail
            go_roundw
            case rel => exact ⟨k + 1, by omega, by go_num, HP.out, K9.out⟩
            case measure => simp [intOf]; omega
    · have HB := Lib.hid (HSTOP.out k (by omega) (by omega) hpre)
      have KK := Lib.hid hkp
      have L1 := Lib.hid (HLA.out wr hkp)
      have L2 := Lib.hid (HLB.out wr hkp)
      have x1 : ¬ (k : Int) < (LA : Int) := by omega
      have x2 : ¬ (k : Int) < (LB : Int) := by omega
      clear HNO HSTOP hpre HA2 HB2 HABL HBBL hkp HLA HLB hk hlt
      by_cases hle : (LA : Int) < (LB : Int)
      · go_wp2_with fail
        refine L1.out.mono ?_; rintro _ _ ⟨rfl, rfl⟩
        go_wp2_with fail
        refine L2.out.mono ?_; rintro _ _ ⟨rfl, rfl⟩
        go_wp2_with fail
        go_ret
        exact ⟨Tells.yes HB.out, KK.out⟩
      · go_wp2_with fail
        refine L1.out.mono ?_; rintro _ _ ⟨rfl, rfl⟩
        go_wp2_with fail
        refine L2.out.mono ?_; rintro _ _ ⟨rfl, rfl⟩
        go_wp2_with fail
        go_ret
        exact ⟨Tells.yes HB.out, KK.out⟩
end Go.Proofs.YtnpobcggadojkaaGreatDoor

/- tree.isThere, blankPath. -/
import Derived.Test.YtnpobcggadojkaaGreatDoorTreeIt9
import Derived.Test.YtnpobcggadojkaaGreatDoorRefTree9
import Derived.Test.YtnpobcggadojkaaGreatDoorTreePl9
set_option linter.unusedVariables false
set_option linter.unusedSimpArgs false
namespace Go.Proofs.YtnpobcggadojkaaGreatDoor
open Go.RowKit

set_option maxHeartbeats 1000000 in
theorem treeIsThere_any (u : Value) (t : List Nod) (K : Nat) (i : Int) (w : World) (hu : NL w u t) (hr : RightK t K) :
    Calls Tryz.prog 60 #[u, .int .i64 i] w fun e w' => e = .returned (.bool (decide (thereP t i))) ∧ w = w' := by
  obtain ⟨z1, z2, z3⟩ := hr.small
  have HS := Lib.hid (treeSize_any u t w hu (by omega))
  rw [(sizeN_len hr.le hr.len).1] at HS
  have hlv := hr.lv
  have hp2 := p2_le hr.le
  obtain ⟨a, c, rfl, p1, s1⟩ := hu.shape
  by_cases h0 : 0 ≤ i
  · obtain ⟨k, rfl⟩ := Int.eq_ofNat_of_zero_le h0
    by_cases h1 : k < 2 ^ K
    · have hk2 : 2 * k < t.length := by omega
      obtain ⟨b, off, rfl, _, hc⟩ := hu.at (2 * k) hk2
      obtain ⟨p, q, h, hn⟩ := hc (2 * k) hk2
      have d0 := hn.kind
      have hb : ((ats t (2 * k)).kind != 0) = decide (thereP t (k : Int)) := by
        by_cases hk : (ats t (2 * k)).kind = 0
        · rw [hk, decide_eq_false (fun h => by have := (hr.there_iff k).1 h; rw [hk] at this; cases this)]; rfl
        · have h1 : (ats t (2 * k)).kind = 1 := by
            rcases hr.even k with e | e
            · rw [e] at hk; exact absurd rfl hk
            · exact e.1
          rw [decide_eq_true ((hr.there_iff k).2 h1), h1]; rfl
      have i1 : IntKind.i64.wrap (2 * (k : Int)) = ((2 * k : Nat) : Int) := by rw [IntWalk.i64_in _ (by omega)]; omega
      have i2 : ((2 * k : Nat) : Int) < (t.length : Int) := by omega
      have i3 : (k : Int) < ((2 ^ K : Nat) : Int) := by omega
      generalize decide (thereP t (k : Int)) = BO at *
      generalize t.length = N at *
      generalize ((2 ^ K : Nat) : Int) = NN at *
      generalize (ats t (2 * k)).kind = KD at *
      generalize 2 * k = K2 at *
      clear hu hr hc hn h1 h0 z1 z2 z3 hlv hp2 hk2
      go_enter Tryz.func60, Tryz.ntmps60
      go_wp2_with fail
      refine HS.out.mono ?_; rintro _ _ ⟨rfl, rfl⟩
      go_wp2_with fail
      go_ret
      exact ⟨by rw [← hb] <;> rfl, rfl⟩
    · rw [decide_eq_false (show ¬ thereP t (k : Int) from fun h => by have := h.2.1; omega)]
      have i3 : ¬ (k : Int) < ((2 ^ K : Nat) : Int) := by omega
      generalize ((2 ^ K : Nat) : Int) = NN at *
      clear hu hr h1 z1 z2 z3 hlv hp2
      go_enter Tryz.func60, Tryz.ntmps60
      go_wp2_with fail
      refine HS.out.mono ?_; rintro _ _ ⟨rfl, rfl⟩
      go_wp2_with fail
      go_ret
      exact ⟨rfl, rfl⟩
  · rw [decide_eq_false (show ¬ thereP t i from fun h => h0 h.1)]
    clear hu hr z1 z2 z3 hlv hp2
    generalize ((2 ^ K : Nat) : Int) = NN at *
    go_enter Tryz.func60, Tryz.ntmps60
    go_wp2_with fail
    go_ret
    exact ⟨rfl, rfl⟩

theorem ON.apart9 {e : TypeId} {w : World} {B : Nat} {v u : Value} {l : List Nat} (h : ON e w B u l) (hv : ∀ g, v.ownBlock = some g → g < B) : Apart v u := h.oi.apart hv
theorem grown_trans9 {A B C : World} {r : Option Nat} (h : A.grownBy B r) (k : B.grownBy C r) : A.grownBy C r := ⟨k.os.trans h.os, k.tape.trans h.tape, k.output.trans h.output, Nat.le_trans h.size k.size, fun i hi hn => (k.block i (Nat.lt_of_lt_of_le hi h.size) hn).trans (h.block i hi hn)⟩
theorem kp_grown9 {A B : World} (h : Kp A B) (row : Option Nat) : A.grownBy B row := ⟨h.os, h.tape, h.output, h.size, fun k hk _ => h.block k hk⟩
set_option maxHeartbeats 2000000 in
theorem treeBlankPath_any (g N c B : Nat) (t : List Nod) (K i : Nat) (w : World) (ho : NO 57 w B (.slice (some ⟨g, 0, none⟩) N c) t) (hK : K ≤ 10) (hl : t.length = 2 ^ (K + 1) - 1) (hi : i < 2 ^ K) (hT : Tab w) :
    Calls Tryz.prog 62 #[.slice (some ⟨g, 0, none⟩) N c, .int .i64 (i : Int)] w fun e w' => e = .returned (.tuple #[]) ∧ NO 57 w' B (.slice (some ⟨g, 0, none⟩) N c) (blankT t i) ∧ w.grownBy w' (some g) := by
  have hp := p2_le hK
  have hp2 := p2_succ K
  have hp1 := p2_pos K
  obtain ⟨q1, q2, q3⟩ := path_in hK hl hi
  have HP := Lib.hid (treePath_any _ t K i w ho.nl hK hl hi hT)
  rw [← q1] at HP
  obtain ⟨gb, cb, e0, b1, b2, b3, b4, _⟩ := ho.form (by omega)
  simp only [Value.slice.injEq, Option.some.injEq, Addr.mk.injEq, and_true] at e0
  obtain ⟨rfl, hNt, rfl⟩ := e0
  have hl6 : (t.length : Int) ≤ 1000000 := by omega
  have HQ2 := Lib.hid q2
  have HT : Hid (∀ k, k < (pathT t i).length → ((pathT t i).take (k + 1)).foldl (fun o x => o.set x blankN) t = (((pathT t i).take k).foldl (fun o x => o.set x blankN) t).set ((pathT t i).getD k 0) blankN) := fun k hk => take_foldl _ _ _ k 0 hk
  have HT0 : Hid (((pathT t i).take 0).foldl (fun o x => o.set x blankN) t = t) := rfl
  have HTE : Hid (((pathT t i).take (pathT t i).length).foldl (fun o x => o.set x blankN) t = blankT t i) := by unfold Hid; rw [List.take_length]; rfl
  have HTL : Hid (∀ k, (((pathT t i).take k).foldl (fun o x => o.set x blankN) t).length = t.length) := fun k => blank_len _ _
  obtain ⟨F, hF⟩ : ∃ F : Nat → List Nod, F = fun k => ((pathT t i).take k).foldl (fun o x => o.set x blankN) t := ⟨_, rfl⟩
  have hFk : ∀ k, ((pathT t i).take k).foldl (fun o x => o.set x blankN) t = F k := fun k => by rw [hF]
  simp only [hFk] at HT HT0 HTE HTL
  generalize blankT t i = OUT at *
  generalize pathT t i = PT at *
  have HO := Lib.hid ho
  rw [← hNt] at HTL HQ2 hl6 b3
  rw [q3] at HT HTE HQ2
  have HPL := Lib.hid q3
  have HB2 := Lib.hid b2
  clear ho q1 q2 q3 hF hFk hp2 hp1 hi hl hNt b4 b2
  go_enter Tryz.func62, Tryz.ntmps62
  go_wp2_with fail
  refine HP.out.mono ?_; rintro _ w2 ⟨⟨pv, rfl, o2⟩, k2⟩
  have HAP := Lib.hid (o2.apart9 (v := .slice (some ⟨g, 0, none⟩) N c) (fun g' hg => by cases hg; exact HB2.out))
  have r2 := ON.rn o2
  obtain ⟨ap, cp, e2, p2, s2⟩ := r2.ri.shape
  rw [List.length_map, HPL.out] at e2 p2
  subst e2
  have HR2 := Lib.hid r2
  have HO2 := Lib.hid (HO.out.kp k2)
  have HK := Lib.hid k2
  clear HP o2 r2 k2 HO
  go_wp2_with fail
  go_loopw [10] (fun x wr => ∃ k : Nat, k ≤ K ∧ x = .int .i64 (k : Int) ∧ NO 57 wr B (.slice (some ⟨g, 0, none⟩) N c) (F k) ∧ RN wr (.slice ap K cp) PT ∧ w.grownBy wr (some g)) (fun x _ => (K - (intOf x).toNat))
  case atStart => exact ⟨0, Nat.zero_le _, rfl, by rw [HT0.out]; exact HO2.out, HR2.out, kp_grown9 HK.out _⟩
  case round =>
    obtain ⟨k, hk, rfl, ho, hri, hgw⟩ := hrel
    by_cases hlt : k < K
    · obtain ⟨g1, o1, rfl, _, hc1⟩ := hri.ri.at k hlt
      have h1 := hc1 k hlt
      rw [getD_map_int PT k (by rw [HPL.out]; exact hlt)] at h1
      have hin := HQ2.out k hlt
      have HT1 := Lib.hid (HT.out k hlt)
      have HL1 := HTL.out k
      have i1 : IntKind.i64.wrap ((k : Int) + 1) = (k : Int) + 1 := IntWalk.i64_in _ (by omega)
      have i5 : (k : Int) < (K : Int) := by omega
      have HRI := Lib.hid hri
      have HGW := Lib.hid hgw
      have HO5 := Lib.hid ho
      have HLEN := Lib.hid HL1
      generalize PT.getD k 0 = X at *
      have i4 : (X : Int) < (N : Int) := by omega
      clear hc1 hri hgw ho HL1
      go_wp2_with (refine wpList_store_node infoNode5 rfl rfl (.tmp 17) (.tmp 16) rfl B g c N (F k) HO5.out X (by rw [HLEN.out]; exact hin) blankN (.slice none 0 0) (.slice none 0 0) (.slice none 0 0) rfl rfl ⟨rd_nil9 _, RI.nil _, rd_nil9 _⟩ (Apart.nil _ _ _) (Apart.nil _ _ _) (Apart.nil _ _ _) ?_; intro w5 o5 g5; rw [← HT1.out] at o5; have O5 := Lib.hid (And.intro o5 (And.intro (RI.rn (HRI.out.ri.grown9 (v := .slice (some ⟨g, 0, none⟩) N c) g5 HAP.out)) (grown_trans9 HGW.out g5))); clear o5 g5)
      go_roundw
      case rel => exact ⟨k + 1, by omega, by go_num, O5.out.1, O5.out.2.1, O5.out.2.2⟩
      case measure => simp [intOf]; omega
    · obtain rfl : k = K := by omega
      rw [HTE.out] at ho
      have HO5 := Lib.hid (And.intro ho hgw)
      have i5 : ¬ (k : Int) < (k : Int) := by omega
      clear ho hgw hri
      go_wp2_with fail
      refine bodyPost_end (results_none rfl _ _ _) rfl ?_
      exact ⟨rfl, HO5.out.1, HO5.out.2⟩
end Go.Proofs.YtnpobcggadojkaaGreatDoor

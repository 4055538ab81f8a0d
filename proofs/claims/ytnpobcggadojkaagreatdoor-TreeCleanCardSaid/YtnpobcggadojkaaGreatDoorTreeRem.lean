/- tree.Remove. -/
import Derived.Test.YtnpobcggadojkaaGreatDoorTreeUpd
import Derived.Test.YtnpobcggadojkaaGreatDoorTreeShrunk
import Derived.Test.YtnpobcggadojkaaGreatDoorTreeIt9
set_option linter.unusedVariables false
set_option linter.unusedSimpArgs false
namespace Go.Proofs.YtnpobcggadojkaaGreatDoor
open Go.RowKit

theorem only_iff9 {t : List Nod} {K k : Nat} (hr : RightK t K) (hk : (ats t (2 * k)).kind = 1) : (∀ m, m < (nbL t (2 ^ K * 0) (2 ^ K)).length → (((nbL t (2 ^ K * 0) (2 ^ K)).getD m 0 : Nat) : Int) = (k : Int)) ↔ emptyP (goneT t k) 0 := by
  obtain ⟨_, _, _, _, z5, _⟩ := hr.forAll
  rw [z5, hr.gone_left hk]
  constructor
  · intro h j hjk hj1
    have hjl : j < lvs t := by
      have := (hr.there_iff j).2 hj1
      have := this.2.1
      omega
    obtain ⟨m, hm, e⟩ := nbL_of (t := t) (a := 0) (n := lvs t) (i := j) (by omega) (by omega) (by rw [hj1]; decide)
    have := h m hm
    rw [e] at this
    omega
  · intro h m hm
    obtain ⟨_, _, a3⟩ := nbL_at (t := t) (a := 0) (n := lvs t) (i := m) hm
    have : (nbL t 0 (lvs t)).getD m 0 = k := by
      refine Decidable.byContradiction fun hne => h _ hne ?_
      rcases hr.even ((nbL t 0 (lvs t)).getD m 0) with e | e
      · rw [e] at a3; exact absurd rfl a3
      · exact e.1
    omega
set_option maxHeartbeats 2000000 in
theorem treeRemove_any (u : Value) (t : List Nod) (K : Nat) (i : Int) (w : World) (hu : NL w u t) (hr : RightK t K) (hi : -9223372036854775808 ≤ i ∧ i ≤ 9223372036854775807) (hT : Tab w) :
    Calls Tryz.prog 24 #[u, .int .i64 i] w fun e w' => (∃ r, e = .returned (.tuple #[r, .int .i64 (remE t i)]) ∧ NL w' r (remV t i)) ∧ Kp w w' := by
  obtain ⟨z1, z2, z3⟩ := hr.small
  have HC := Lib.hid (treeCopied_any u t w hu z3 (by omega) hr.bounds)
  have HTH := Lib.hid (fun W (hW : Kp w W) => treeIsThere_any u t K i W (hu.kp hW) hr)
  have HON := Lib.hid (fun W (hW : Kp w W) => treeIsOnly_any u t K i W (hu.kp hW) hr (hT.kp hW))
  have HTAB := Lib.hid hT
  obtain ⟨a, n, c, rfl⟩ := hu.sl
  by_cases hth : thereP t i
  · rw [decide_eq_true hth] at HTH
    obtain ⟨k, rfl, hk, hkind, hk2⟩ := there_nat hr hth
    have hiff := only_iff9 hr hkind
    by_cases hem : emptyP (goneT t k) 0
    · rw [decide_eq_true (hiff.2 hem)] at HON
      have e1 : remE t (k : Int) = 13 := by unfold remE; rw [if_pos hth, Int.toNat_natCast, if_pos hem]
      have e2 : remV t (k : Int) = t := by unfold remV; rw [e1]; rfl
      rw [e1, e2]
      clear hu hr hth e1 e2 z2 z1 hT hiff hem hk hk2 hkind
      go_enter Tryz.func24, Tryz.ntmps24
      go_wp2_with fail
      refine HC.out.mono ?_; rintro _ w1 ⟨⟨r, P, U, H, rfl, hx⟩, k1⟩
      have HF := Lib.hid (And.intro hx.no.nl k1)
      obtain ⟨ar, nr, cr, rfl⟩ := hx.no.nl.sl
      clear hx k1 HC
      go_wp2_with fail
      refine (HTH.out w1 HF.out.2).mono ?_; rintro _ _ ⟨rfl, rfl⟩
      go_wp2_with fail
      refine (HON.out w1 HF.out.2).mono ?_; rintro _ w2 ⟨rfl, k2⟩
      have HF2 := Lib.hid (And.intro (HF.out.1.kp k2) (HF.out.2.trans k2))
      clear k2
      go_wp2_with fail
      go_ret2
      exact ⟨⟨_, rfl, HF2.out.1⟩, HF2.out.2⟩
    · rw [decide_eq_false (fun h => hem (hiff.1 h))] at HON
      have e1 : remE t (k : Int) = 0 := by unfold remE; rw [if_pos hth, Int.toNat_natCast, if_neg hem]
      have e2 : remV t (k : Int) = shrinkT 11 (goneT t k) := by unfold remV; rw [e1, if_pos rfl, Int.toNat_natCast]
      rw [e1, e2]
      have hout : blankT (t.set (2 * k) blankN) k = goneT t k := blank_leaf9 hr.le hr.len hk _
      have HBP := Lib.hid (fun g c B W (ho : NO 57 W B (.slice (some ⟨g, 0, none⟩) t.length c) (t.set (2 * k) blankN)) hTW => treeBlankPath_any g t.length c B _ K k W ho hr.le (by rw [List.length_set]; exact hr.len) hk hTW)
      rw [hout] at HBP
      have HSH := Lib.hid (fun v W (hv : NL W v (goneT t k)) hTW => treeShrunk_any v (goneT t k) K W hv hr.le (by rw [RightK.goneLen]; exact hr.len) hTW)
      generalize shrinkT 11 (goneT t k) = OUT at *
      generalize goneT t k = GT at *
      have i2 : IntKind.i64.wrap (2 * (k : Int)) = ((2 * k : Nat) : Int) := by rw [IntWalk.i64_in _ (by omega)]; omega
      have i3 : ((2 * k : Nat) : Int) < (t.length : Int) := by omega
      have HK2 := Lib.hid hk2
      obtain ⟨N, hN⟩ : ∃ N, t.length = N := ⟨_, rfl⟩
      have HN := Lib.hid hN
      rw [hN] at i3 HK2 HBP z3
      generalize 2 * k = K2 at *
      clear hu hr hth e1 e2 z2 z1 hT hiff hem hk hk2 hkind hN hout
      go_enter Tryz.func24, Tryz.ntmps24
      go_wp2_with fail
      refine HC.out.mono ?_; rintro _ w1 ⟨⟨r, P, U, H, rfl, hx⟩, k1⟩
      obtain ⟨g, cb, rfl, b1, b2, b3, _⟩ := hx.no.form (by rw [HN.out]; exact z3)
      rw [HN.out] at hx b3 ⊢
      have HX := Lib.hid hx.no
      have HK1 := Lib.hid k1
      have HG := Lib.hid (And.intro b1 b2)
      clear hx k1 HC b1 b2
      go_wp2_with fail
      refine (HTH.out w1 HK1.out).mono ?_; rintro _ _ ⟨rfl, rfl⟩
      go_wp2_with fail
      refine (HON.out w1 HK1.out).mono ?_; rintro _ w2 ⟨rfl, k2⟩
      have HO2 := Lib.hid (HX.out.kp k2)
      have HKW2 := Lib.hid (HK1.out.trans k2)
      clear k2 HTH HON
      go_wp2_with (refine wpList_store_node infoNode5 rfl rfl (.tmp 22) (.tmp 21) rfl w.heap.size g cb N t HO2.out K2 (by rw [HN.out]; exact HK2.out) blankN (.slice none 0 0) (.slice none 0 0) (.slice none 0 0) rfl rfl ⟨rd_nil9 _, RI.nil _, rd_nil9 _⟩ (Apart.nil _ _ _) (Apart.nil _ _ _) (Apart.nil _ _ _) ?_; intro w5 o5 g5; have O5 := Lib.hid o5; have k5 := Lib.hid (Kp.grown (v := .slice (some ⟨g, 0, none⟩) N cb) HKW2.out g5 (fun k hk => by cases hk; exact HG.out.1)); clear o5 g5)
      refine (HBP.out g cb w.heap.size w5 O5.out (HTAB.out.kp k5.out)).mono ?_; rintro _ w6 ⟨rfl, o6, g6⟩
      have K6 := Lib.hid (Kp.grown (v := .slice (some ⟨g, 0, none⟩) N cb) k5.out g6 (fun k hk => by cases hk; exact HG.out.1))
      have O6 := Lib.hid o6.nl
      clear o6 g6 HBP
      go_wp2_with fail
      refine (HSH.out _ w6 O6.out (HTAB.out.kp K6.out)).mono ?_; rintro _ w7 ⟨⟨r, rfl, hr7⟩, k7⟩
      have HF := Lib.hid (And.intro hr7 (K6.out.trans k7))
      obtain ⟨ar, nr, cr, rfl⟩ := hr7.sl
      clear hr7 k7
      go_wp2_with fail
      go_ret2
      exact ⟨⟨_, rfl, HF.out.1⟩, HF.out.2⟩
  · rw [decide_eq_false hth] at HTH
    have e1 : remE t i = 11 := by unfold remE; rw [if_neg hth]
    have e2 : remV t i = t := by unfold remV; rw [e1]; rfl
    rw [e1, e2]
    clear hu hr hth e1 e2 z2 z1 hT
    go_enter Tryz.func24, Tryz.ntmps24
    go_wp2_with fail
    refine HC.out.mono ?_; rintro _ w1 ⟨⟨r, P, U, H, rfl, hx⟩, k1⟩
    have HF := Lib.hid (And.intro hx.no.nl k1)
    obtain ⟨ar, nr, cr, rfl⟩ := hx.no.nl.sl
    clear hx k1 HC
    go_wp2_with fail
    refine (HTH.out w1 HF.out.2).mono ?_; rintro _ _ ⟨rfl, rfl⟩
    go_wp2_with fail
    go_ret2
    exact ⟨⟨_, rfl, HF.out.1⟩, HF.out.2⟩
end Go.Proofs.YtnpobcggadojkaaGreatDoor

/- tree.Update. -/
import Derived.Test.YtnpobcggadojkaaGreatDoorTreeBlank
import Derived.Test.YtnpobcggadojkaaGreatDoorTreeRow9
import Derived.Test.YtnpobcggadojkaaGreatDoorRefTree9
set_option linter.unusedVariables false
set_option linter.unusedSimpArgs false
namespace Go.Proofs.YtnpobcggadojkaaGreatDoor
open Go.RowKit

theorem RightK.bounds {t : List Nod} {K : Nat} (h : RightK t K) : ∀ i, i < t.length → (ats t i).pub.length ≤ 1000 ∧ (ats t i).un.length ≤ 100000 ∧ (ats t i).hash.length ≤ 1000 := fun i hi => by
  have h1 := h.un_len i
  rcases h.okA i with e | ⟨_, h2, h3, _⟩
  · rw [e]; exact ⟨by decide, by decide, by decide⟩
  · have := h2.2.2
    refine ⟨by omega, by omega, by omega⟩
theorem blank_leaf9 {t : List Nod} {K k : Nat} (hK : K ≤ 10) (hl : t.length = 2 ^ (K + 1) - 1) (hk : k < 2 ^ K) (m : Nod) : blankT (t.set (2 * k) m) k = (blankT t k).set (2 * k) m := by
  have hl2 : (t.set (2 * k) m).length = 2 ^ (K + 1) - 1 := by rw [List.length_set, hl]
  obtain ⟨e1, f1, _⟩ := path_in hK hl hk
  obtain ⟨e2, _, _⟩ := path_in hK hl2 hk
  have h1 := p2_succ K
  have hb : (blankT t k).length = t.length := RightK.blankLen k
  have hmem : ∀ y ∈ pathN K 0 k, y < t.length := fun y hy => by rw [hl]; exact path_lt hk hy
  refine ats_ext ?_ fun x => ?_
  · rw [List.length_set, hb]
    unfold blankT
    rw [blank_len, List.length_set]
  · rw [ats_set _ _ _ _ (by rw [hb]; omega)]
    unfold blankT
    rw [e2, e1, blank_at _ _ _ (fun y hy => by rw [List.length_set]; exact hmem y hy), blank_at _ _ _ hmem, ats_set _ _ _ _ (by omega)]
    by_cases hx : x ∈ pathN K 0 k
    · have := path_odd hx
      rw [if_pos hx, if_pos hx, if_neg (by omega)]
    · rw [if_neg hx, if_neg hx]
set_option maxHeartbeats 2000000 in
theorem treeUpdate_any (u v : Value) (t : List Nod) (K : Nat) (i : Int) (pub : List UInt8) (w : World) (hu : NL w u t) (hv : Rd w v pub) (hr : RightK t K) (hi : -9223372036854775808 ≤ i ∧ i ≤ 9223372036854775807) (hT : Tab w) :
    Calls Tryz.prog 26 #[u, .int .i64 i, v] w fun e w' => (∃ r, e = .returned (.tuple #[r, .int .i64 (updE t i pub)]) ∧ NL w' r (updV t i pub)) ∧ Kp w w' := by
  obtain ⟨z1, z2, z3⟩ := hr.small
  have HC := Lib.hid (treeCopied_any u t w hu z3 (by omega) hr.bounds)
  have HH := Lib.hid (fun W (hW : Kp w W) => treeIsHalf_any v pub W (hv.kp hW))
  have HTH := Lib.hid (fun W (hW : Kp w W) => treeIsThere_any u t K i W (hu.kp hW) hr)
  have HV := Lib.hid hv
  obtain ⟨ap, cp, rfl, _, _⟩ := hv.shape
  by_cases h32 : pub.length = 32
  · rw [decide_eq_true h32] at HH
    by_cases hth : thereP t i
    · have e1 : updE t i pub = 0 := by unfold updE; rw [if_pos h32, if_pos hth]
      obtain ⟨k, rfl, hk, hkind, hk2⟩ := there_nat hr hth
      have e2 : updV t (k : Int) pub = updT t k pub := by unfold updV; rw [e1, if_pos rfl, Int.toNat_natCast]
      rw [e1, e2]
      rw [decide_eq_true hth] at HTH
      have hNL := fun (name : Int) W (hW : Kp w W) => treeNewLeaf_any name (.slice ap pub.length cp) pub W (HV.out.kp hW) (by omega)
      have HNL := Lib.hid hNL
      have hout : blankT (t.set (2 * k) (leafN (ats t (2 * k)).name pub)) k = updT t k pub := blank_leaf9 hr.le hr.len hk _
      have HBP := Lib.hid (fun g c B W (ho : NO 57 W B (.slice (some ⟨g, 0, none⟩) t.length c) (t.set (2 * k) (leafN (ats t (2 * k)).name pub))) hTW => treeBlankPath_any g t.length c B _ K k W ho hr.le (by rw [List.length_set]; exact hr.len) hk hTW)
      rw [hout] at HBP
      have HTAB := Lib.hid hT
      generalize updT t k pub = OUT at *
      have i2 : IntKind.i64.wrap (2 * (k : Int)) = ((2 * k : Nat) : Int) := by rw [IntWalk.i64_in _ (by omega)]; omega
      have i3 : ((2 * k : Nat) : Int) < (t.length : Int) := by omega
      obtain ⟨a, c, rfl, p1, s1⟩ := hu.shape
      obtain ⟨b, off, rfl, _, hc⟩ := hu.at (2 * k) hk2
      obtain ⟨p, q, h, hn⟩ := hc (2 * k) hk2
      have HCN : Hid (∀ W, Kp w W → W.cell? ⟨b, off + 2 * k * 5 + 1, none⟩ = some (.int .i64 (ats t (2 * k)).name)) := fun W hW => hW.cell hn.name
      rw [h32] at HV HNL HH ⊢
      have HK2 := Lib.hid hk2
      obtain ⟨N, hN⟩ : ∃ N, t.length = N := ⟨_, rfl⟩
      have HN := Lib.hid hN
      rw [hN] at p1 i3 HK2 HTH HC HBP z3 ⊢
      generalize (ats t (2 * k)).name = NM at *
      generalize 2 * k = K2 at *
      clear hu hv hr h32 hth e1 e2 hc hn hN z2 z1 hkind hT hk2 hNL hout hk
      go_enter Tryz.func26, Tryz.ntmps26
      go_wp2_with fail
      refine HC.out.mono ?_; rintro _ w1 ⟨⟨r, P, U, H, rfl, hx⟩, k1⟩
      obtain ⟨g, cb, rfl, b1, b2, b3, _⟩ := hx.no.form (by rw [HN.out]; exact z3)
      rw [HN.out] at hx b3 ⊢
      have HX := Lib.hid hx.no
      have HK1 := Lib.hid k1
      have HG := Lib.hid (And.intro b1 b2)
      clear hx k1 HC b1 b2
      go_wp2_with fail
      refine (HH.out w1 HK1.out).mono ?_; rintro _ _ ⟨rfl, rfl⟩
      go_wp2_with fail
      refine (HTH.out w1 HK1.out).mono ?_; rintro _ _ ⟨rfl, rfl⟩
      have c1 := HCN.out w1 HK1.out
      clear HH HTH HCN
      go_wp2_with fail
      refine (HNL.out NM w1 HK1.out).mono ?_; rintro _ w2 ⟨⟨p, rfl, o2⟩, k2⟩
      have HO2 := Lib.hid (HX.out.kp k2)
      have HRD := Lib.hid o2.rd
      have HAP := Lib.hid (apart_new (u := .slice (some ⟨g, 0, none⟩) N cb) (C := w1.heap.size) o2.own_ge (fun g' hg => by cases hg; exact HG.out.2))
      have HK2' := Lib.hid k2
      obtain ⟨yp, mp, ycp, rfl⟩ := rd_sl9 o2.rd
      clear o2 k2 HNL c1
      go_wp2_with (refine wpList_store_node infoNode5 rfl rfl (.tmp 31) (.tmp 30) rfl w.heap.size g cb N t HO2.out K2 (by rw [HN.out]; exact HK2.out) (leafN NM pub) (.slice yp mp ycp) (.slice none 0 0) (.slice none 0 0) rfl rfl ⟨HRD.out, RI.nil _, rd_nil9 _⟩ HAP.out (Apart.nil _ _ _) (Apart.nil _ _ _) ?_; intro w5 o5 g5; have O5 := Lib.hid o5; have k5 := Lib.hid (Kp.grown (v := .slice (some ⟨g, 0, none⟩) N cb) (HK1.out.trans HK2'.out) g5 (fun k hk => by cases hk; exact HG.out.1)); clear o5 g5)
      refine (HBP.out g cb w.heap.size w5 O5.out (HTAB.out.kp k5.out)).mono ?_; rintro _ w6 ⟨rfl, o6, g6⟩
      have HF := Lib.hid (And.intro o6.nl (Kp.grown (v := .slice (some ⟨g, 0, none⟩) N cb) k5.out g6 (fun k hk => by cases hk; exact HG.out.1)))
      clear o6 g6 HBP
      go_wp2_with fail
      go_ret2
      exact ⟨⟨_, rfl, HF.out.1⟩, HF.out.2⟩
    · have e1 : updE t i pub = 11 := by unfold updE; rw [if_pos h32, if_neg hth]
      have e2 : updV t i pub = t := by unfold updV; rw [e1]; rfl
      rw [e1, e2]
      rw [decide_eq_false hth] at HTH
      obtain ⟨a, n, c, rfl⟩ := hu.sl
      rw [h32]
      rw [h32] at HH
      clear hu hv hr h32 hth e1 e2 z2 z1 hT
      go_enter Tryz.func26, Tryz.ntmps26
      go_wp2_with fail
      refine HC.out.mono ?_; rintro _ w1 ⟨⟨r, P, U, H, rfl, hx⟩, k1⟩
      have HF := Lib.hid (And.intro hx.no.nl k1)
      obtain ⟨ar, nr, cr, rfl⟩ := hx.no.nl.sl
      clear hx k1 HC
      go_wp2_with fail
      refine (HH.out w1 HF.out.2).mono ?_; rintro _ _ ⟨rfl, rfl⟩
      go_wp2_with fail
      refine (HTH.out w1 HF.out.2).mono ?_; rintro _ _ ⟨rfl, rfl⟩
      go_wp2_with fail
      go_ret2
      exact ⟨⟨_, rfl, HF.out.1⟩, HF.out.2⟩
  · rw [decide_eq_false h32] at HH
    have e1 : updE t i pub = 1 := by unfold updE; rw [if_neg h32]
    have e2 : updV t i pub = t := by unfold updV; rw [e1]; rfl
    rw [e1, e2]
    obtain ⟨a, n, c, rfl⟩ := hu.sl
    clear hu hv hr h32 e1 e2 z2 z1 hT
    go_enter Tryz.func26, Tryz.ntmps26
    go_wp2_with fail
    refine HC.out.mono ?_; rintro _ w1 ⟨⟨r, P, U, H, rfl, hx⟩, k1⟩
    have HF := Lib.hid (And.intro hx.no.nl k1)
    obtain ⟨ar, nr, cr, rfl⟩ := hx.no.nl.sl
    clear hx k1 HC
    go_wp2_with fail
    refine (HH.out w1 HF.out.2).mono ?_; rintro _ _ ⟨rfl, rfl⟩
    go_wp2_with fail
    go_ret2
    exact ⟨⟨_, rfl, HF.out.1⟩, HF.out.2⟩
end Go.Proofs.YtnpobcggadojkaaGreatDoor

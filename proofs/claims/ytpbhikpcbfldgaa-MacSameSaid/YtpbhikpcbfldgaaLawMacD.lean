/- MacSame. -/
import Derived.Test.YtpbhikpcbfldgaaLawMacA
set_option linter.unusedVariables false
set_option linter.unusedSimpArgs false
namespace Go.Proofs.Ytpbhikpcbfldgaa
open Go.RowKit

theorem mac_same_at (u v : Value) (l m : List UInt8) (b : Bool) (w : World) (h : Rd w u l) (h' : Rd w v m) (hb : decide (l = m) = b) :
    Calls Try.prog 17 #[u, v] w fun e w' => e = .returned (.bool b) ∧ Kp w w' := by
  have := mac_same u v l m w h h'
  rw [hb] at this
  exact this
/-- A byte in a row of the call's own, stored. -/
theorem Ow.setAt {e : TypeId} {w : World} {B g n c : Nat} {l : List UInt8} (h : Ow e w B (.slice (some ⟨g, 0, none⟩) n c) l) (i : Nat) (hi : i < l.length) (x y : UInt8) (hy : l.getD i 0 = y) :
    w.cell? ⟨g, i, none⟩ = some (.int .u8 (y.toNat : Int)) ∧ w.frozen? ⟨g, i, none⟩ = false ∧ Ow e (w.setCell ⟨g, i, none⟩ (.int .u8 (x.toNat : Int))) B (.slice (some ⟨g, 0, none⟩) n c) (l.set i x) ∧ B ≤ g ∧ n = l.length := by
  have hn : n = l.length := by
    rcases h.shape with ⟨h0, h1⟩ | ⟨g', c', h0, _⟩
    · cases h0
    · simp only [Value.slice.injEq] at h0; exact h0.2.1
  subst hn
  subst hy
  refine ⟨?_, h.frozenAt i, ?_, (World.ownsRow.lt h g rfl).1, rfl⟩
  · rw [World.ownsRow.cellAt h i (by omega), byteCells_get l i hi, List.getD_eq_getElem?_getD, List.getElem?_eq_getElem hi]
    rfl
  · have h2 := (World.ownsRow.stored h i (.int .u8 (x.toNat : Int))).1
    unfold Ow
    rw [List.length_set]
    have e : Lib.byteCells (l.set i x) = (Lib.byteCells l).set i (.int .u8 (x.toNat : Int)) := by simp [Lib.byteCells, List.map_set]
    rw [e]
    exact h2
theorem Ow.some {e : TypeId} {w : World} {B : Nat} {v : Value} {l : List UInt8} (h : Ow e w B v l) (hp : 0 < l.length) : ∃ g c, v = .slice (some ⟨g, 0, none⟩) l.length c ∧ B ≤ g ∧ g < w.heap.size ∧ l.length ≤ c ∧ c ≤ maxLen := by
  rcases h.shape with ⟨_, h0⟩ | h
  · rw [h0] at hp; simp at hp
  · exact h
theorem set_same (l : List UInt8) (i : Nat) (hi : i < l.length) (x : UInt8) : (l = l.set i (l.getD i 0 ^^^ x)) ↔ x = 0 := by
  constructor
  · intro h
    have := congrArg (fun m => m.getD i 0) h
    simp only [List.getD_eq_getElem?_getD, List.getElem?_set_self hi, List.getElem?_eq_getElem hi, Option.getD_some] at this
    have h2 : l[i] ^^^ (l[i] ^^^ x) = l[i] ^^^ l[i] := by rw [← this]
    rw [← UInt8.xor_assoc, UInt8.xor_self, UInt8.zero_xor] at h2
    exact h2
  · rintro rfl
    rw [UInt8.xor_zero, List.getD_eq_getElem?_getD, List.getElem?_eq_getElem hi]
    simp

set_option maxRecDepth 100000 in
set_option maxHeartbeats 4000000 in
theorem macSame_walk (va : Value) (la : List UInt8) (at' by' : Int) (w : World) (ha : Rd w va la) (h0 : 0 ≤ at') (h1 : at' < 65536) (b0 : 0 ≤ by') (b1 : by' < 256) :
    Calls Try.prog 5 #[va, .int .u16 at', .int .u8 by'] w (Yes w) := by
  have U := u8
  obtain ⟨a1, c1, rfl, p1, q1⟩ := ha.shape
  unfold maxLen at q1
  obtain ⟨N, rfl⟩ := Int.eq_ofNat_of_zero_le h0
  obtain ⟨X, hX⟩ : ∃ X : UInt8, by' = (X.toNat : Int) := ⟨UInt8.ofNat by'.toNat, by simp; omega⟩
  subst hX
  have hN : (N : Int) ≤ 65535 := by omega
  clear h0 h1 b0 b1
  by_cases h1 : la.length ≤ 300
  · have h1' : ¬ (300 < (la.length : Int)) := by omega
    have n1 : decide (la = la ++ [X]) = false := decide_eq_false (fun e => by have := congrArg List.length e; simp at this)
    have n2 : decide (la ++ [X] = la) = false := decide_eq_false (fun e => by have := congrArg List.length e; simp at this)
    have N1 := Lib.hid n1
    have N2 := Lib.hid n2
    clear n1 n2
    by_cases hz : la.length = 0
    · have hz' : ((la.length : Int) == 0) = true := by rw [hz]; rfl
      have hla : la = [] := List.eq_nil_of_length_eq_zero hz
      have HLA := Lib.hid hla
      have n6 : decide (([] : List UInt8) = la) = true := decide_eq_true hla.symm
      have N6 := Lib.hid n6
      clear hla n6 hz
      go_enter Try.func5, Try.ntmps5
      go_wp2_with fail
      refine (shownMac_any _).mono ?_
      rintro e w1 ⟨rfl, k1⟩
      go_wp2_with (first
        | (at_builtin; refine wpList_append_ow U rfl (.tmp 16) (.tmp 17) rfl w1.heap.size (.slice (some ⟨w1.heap.size, 0, none⟩) 0 0) [] rfl (Ow.lit w1 5 w1.heap.size 0 #[] [] (Nat.le_refl _) rfl (by decide) rfl) _ la rfl ((ha.kp k1).kp ((Kp.refl _).alloc _)) (by simp; omega) (by simp) ?_; intro v2 w2 o2 g2 _; have k2 : Kp w1 w2 := Kp.grown ((Kp.refl w1).alloc _) g2 (by intro k e; cases e; exact Nat.le_refl _); rw [List.nil_append] at o2)
        | (at_builtin; refine wpList_append_ow U rfl (.tmp 18) (.tmp 20) rfl w1.heap.size v2 la rfl (o2.kp ((Kp.refl _).alloc _)) _ [X] rfl (Ow.lit w2 5 0 1 _ _ (Nat.zero_le _) rfl (by decide) rfl).rd (by simp; omega) (by have := k2.size; simp; omega) ?_; intro v3 w3 o3 g3 _; have k3 : Kp w1 w3 := Kp.grown (k2.alloc _) g3 o2.own_ge))
      have k13 := k1.trans k3
      refine (mac_same_at _ _ la (la ++ [X]) false _ (ha.kp k13) o3.rd N1.out).mono ?_
      rintro e w4 ⟨rfl, k4⟩
      go_wp2_with fail
      refine (mac_same_at _ _ (la ++ [X]) la false _ (o3.rd.kp k4) (ha.kp (k13.trans k4)) N2.out).mono ?_
      rintro e w5 ⟨rfl, k5⟩
      have k15 := (k13.trans k4).trans k5
      go_wp2_with (at_builtin; go_guarded; go_must (refine wp_append_ow U (.tmp 32) (.tmp 33) rfl w5.heap.size (.slice (some ⟨w5.heap.size, 0, none⟩) 0 0) [] rfl (Ow.lit w5 5 w5.heap.size 0 #[] [] (Nat.le_refl _) rfl (by decide) rfl) _ la rfl ((ha.kp k15).kp ((Kp.refl _).alloc _)) (by simp; omega) (by simp) ?_; intro v6 w6 o6 g6 _; have k6 : Kp w5 w6 := Kp.grown ((Kp.refl w5).alloc _) g6 (by intro k e; cases e; exact Nat.le_refl _); rw [List.nil_append] at o6))
      have k16 := k15.trans k6
      refine (mac_same_at _ _ la la true _ (ha.kp k16) o6.rd (decide_eq_true rfl)).mono ?_
      rintro e w7 ⟨rfl, k7⟩
      have k17 := k16.trans k7
      go_wp2_with fail
      refine (mac_same_at _ _ [] la true _ (rd_nil _) (ha.kp k17) N6.out).mono ?_
      rintro e w8 ⟨rfl, k8⟩
      go_wp2_with fail
      go_ret
      exact ⟨rfl, k17.trans k8⟩
    · have hz' : ((la.length : Int) == 0) = false := by simp; intro h; exact hz (by rw [h]; rfl)
      have hpos : 0 < la.length := by omega
      obtain ⟨i, hi⟩ : ∃ i : Nat, i = N % la.length := ⟨_, rfl⟩
      have hil : i < la.length := by rw [hi]; exact Nat.mod_lt _ hpos
      have hit : (N : Int).tmod (la.length : Int) = (i : Int) := by rw [hi, Int.tmod_eq_emod_of_nonneg (by omega)]; rfl
      have hie : (N : Int) % (la.length : Int) = (i : Int) := by rw [hi]; rfl
      have HI := Lib.hid hi
      have hil' : (i : Int) < (la.length : Int) := by omega
      obtain ⟨x, hx⟩ : ∃ x, la.getD i 0 = x := ⟨_, rfl⟩
      have hs := set_same la i hil X
      rw [hx] at hs
      have hxo := ub8_xor x X
      obtain ⟨z, hz2⟩ : ∃ z, x ^^^ X = z := ⟨_, rfl⟩
      rw [hz2] at hs hxo
      obtain ⟨b, hb, n4, n5⟩ : ∃ b : Bool, ((X.toNat : Int) == 0) = b ∧ decide (la = la.set i z) = b ∧ decide (la.set i z = la) = b := by
        by_cases h : X = 0
        · exact ⟨true, by rw [h]; rfl, decide_eq_true (hs.2 h), decide_eq_true (hs.2 h).symm⟩
        · refine ⟨false, ?_, decide_eq_false (fun e => h (hs.1 e)), decide_eq_false (fun e => h (hs.1 e.symm))⟩
          have : X.toNat ≠ 0 := fun e => h (UInt8.toNat_inj.1 e)
          simp
          exact this
      have HXO := Lib.hid hxo
      have HXX := Lib.hid hx
      have N4 := Lib.hid n4
      have N5 := Lib.hid n5
      have hHIT := Lib.hid hit
      have hHIE := Lib.hid hie
      have HB0 := Lib.hid hb
      clear hi hz hxo hs hx hz2 n4 n5 hit hie hb
      go_enter Try.func5, Try.ntmps5
      go_wp2_with fail
      refine (shownMac_any _).mono ?_
      rintro e w1 ⟨rfl, k1⟩
      go_wp2_with (first
        | (at_builtin; refine wpList_append_ow U rfl (.tmp 16) (.tmp 17) rfl w1.heap.size (.slice (some ⟨w1.heap.size, 0, none⟩) 0 0) [] rfl (Ow.lit w1 5 w1.heap.size 0 #[] [] (Nat.le_refl _) rfl (by decide) rfl) _ la rfl ((ha.kp k1).kp ((Kp.refl _).alloc _)) (by simp; omega) (by simp) ?_; intro v2 w2 o2 g2 _; have k2 : Kp w1 w2 := Kp.grown ((Kp.refl w1).alloc _) g2 (by intro k e; cases e; exact Nat.le_refl _); rw [List.nil_append] at o2)
        | (at_builtin; refine wpList_append_ow U rfl (.tmp 18) (.tmp 20) rfl w1.heap.size v2 la rfl (o2.kp ((Kp.refl _).alloc _)) _ [X] rfl (Ow.lit w2 5 0 1 _ _ (Nat.zero_le _) rfl (by decide) rfl).rd (by simp; omega) (by have := k2.size; simp; omega) ?_; intro v3 w3 o3 g3 _; have k3 : Kp w1 w3 := Kp.grown (k2.alloc _) g3 o2.own_ge))
      have k13 := k1.trans k3
      refine (mac_same_at _ _ la (la ++ [X]) false _ (ha.kp k13) o3.rd N1.out).mono ?_
      rintro e w4 ⟨rfl, k4⟩
      go_wp2_with fail
      refine (mac_same_at _ _ (la ++ [X]) la false _ (o3.rd.kp k4) (ha.kp (k13.trans k4)) N2.out).mono ?_
      rintro e w5 ⟨rfl, k5⟩
      have k15 := (k13.trans k4).trans k5
      go_wp2_with (at_builtin; go_guarded; go_must (refine wp_append_ow U (.tmp 32) (.tmp 33) rfl w5.heap.size (.slice (some ⟨w5.heap.size, 0, none⟩) 0 0) [] rfl (Ow.lit w5 5 w5.heap.size 0 #[] [] (Nat.le_refl _) rfl (by decide) rfl) _ la rfl ((ha.kp k15).kp ((Kp.refl _).alloc _)) (by simp; omega) (by simp) ?_; intro v6 w6 o6 g6 _; have k6 : Kp w5 w6 := Kp.grown ((Kp.refl w5).alloc _) g6 (by intro k e; cases e; exact Nat.le_refl _); rw [List.nil_append] at o6))
      have k16 := k15.trans k6
      refine (mac_same_at _ _ la la true _ (ha.kp k16) o6.rd (decide_eq_true rfl)).mono ?_
      rintro e w7 ⟨rfl, k7⟩
      have k17 := k16.trans k7
      go_wp2_with (at_builtin; refine wpList_append_ow U rfl (.tmp 46) (.tmp 47) rfl w7.heap.size (.slice (some ⟨w7.heap.size, 0, none⟩) 0 0) [] rfl (Ow.lit w7 5 w7.heap.size 0 #[] [] (Nat.le_refl _) rfl (by decide) rfl) _ la rfl ((ha.kp k17).kp ((Kp.refl _).alloc _)) (by simp; omega) (by simp) ?_; intro v8 w8 o8 g8 _; have k8 : Kp w7 w8 := Kp.grown ((Kp.refl w7).alloc _) g8 (by intro k e; cases e; exact Nat.le_refl _); rw [List.nil_append] at o8; obtain ⟨g, c, rfl, _, _, pc, qc⟩ := o8.some hpos; obtain ⟨s1, s2, s3, s4, _⟩ := o8.setAt i hil z x HXX.out; have hb := HB0.out; have hit := hHIT.out; have hie := hHIE.out; have hxo := HXO.out)
      have k19 : Kp w (w8.setCell ⟨g, i, none⟩ (.int .u8 (z.toNat : Int))) := Below.setCell (k17.trans k8) (Nat.le_trans k17.size s4) _
      refine (mac_same_at _ _ la (la.set i z) b _ (ha.kp k19) s3.rd N4.out).mono ?_
      rintro e w10 ⟨rfl, k10⟩
      go_wp2_with fail
      refine (mac_same_at _ _ (la.set i z) la b _ (s3.rd.kp k10) (ha.kp (k19.trans k10)) N5.out).mono ?_
      rintro e w11 ⟨rfl, k11⟩
      cases b
      all_goals
        go_wp2_with fail
        go_ret
        exact ⟨rfl, (k19.trans k10).trans k11⟩
  · have h1' : (300 < (la.length : Int)) := by omega
    clear h1
    go_enter Try.func5, Try.ntmps5
    go_wp2_with fail
    refine (shownMac_any _).mono ?_
    rintro e w1 ⟨rfl, k1⟩
    go_wp2_with fail
    go_ret
    exact ⟨rfl, k1⟩
end Go.Proofs.Ytpbhikpcbfldgaa

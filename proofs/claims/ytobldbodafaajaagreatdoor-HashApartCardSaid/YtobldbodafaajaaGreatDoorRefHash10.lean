/- pyxref10: two, row, Node. -/
import Derived.Test.YtobldbodafaajaaGreatDoorHashPl10
import Derived.Test.YtobldbodafaajaaGreatDoorTreePl9
import Derived.Test.YtobldbodafaajaaGreatDoorByt9
import Derived.Test.YtobldbodafaajaaGreatDoorVal9
import Derived.Deep.RegionHeld3
import Derived.Test.YtobldbodafaajaaGreatDoorShaB10
import Derived.Test.YtobldbodafaajaaGreatDoorRefTree9
set_option linter.unusedVariables false
set_option linter.unusedSimpArgs false
namespace Go.Proofs.YtobldbodafaajaaGreatDoor
open Go.RowKit

theorem step_append_any {P : Program} {t e : TypeId} (U : U8 P t e) {ops : Array Oper} {o : Oper} {a : Act} {w : World} {K : Act → World → Prop} {Q : Exit → Act → World → Prop} {E : Prop}
    (hg : o.guard = none) (s x : Operand) (hop : o.op = Op.call { callee := Callee.builtin Builtin.append, args := #[s, x], argTypes := #[t, t] })
    (B : Nat) (v : Value) (l : List UInt8) (hs : a.eval s = v) (hown : Ow e w B v l) (u : Value) (m : List UInt8) (hx : a.eval x = u) (hu : Rd w u m)
    (hlen : l.length + m.length ≤ 140737488355328) (hbase : B ≤ w.heap.size)
    (hK : ∀ v' w', Ow e w' B v' (l ++ m) → w.grownBy w' v.ownBlock → K (a.put o.dst v') w') :
    if Region.wanted o (yielded ops a.tmps) = true then Oper.wp P o a w K Q else E := by
  rw [if_pos (by simp [Region.wanted, hg])]
  exact wp_append_ow U s x hop B v l hs hown u m hx hu hlen hbase (fun v' w' h1 h2 _ => hK v' w' h1 h2)
theorem rd_sl10 {w : World} {v : Value} {l : List UInt8} (h : Rd w v l) : ∃ a n c, v = .slice a n c := by
  obtain ⟨a, c, e, _⟩ := h.shape
  exact ⟨_, _, _, e⟩
set_option maxHeartbeats 1000000 in
theorem refTwo_any (n : Nat) (w : World) (hn : n ≤ 65535) :
    Calls Tryz.prog 41 #[.int .i64 (n : Int)] w fun e w' => (∃ r, e = .returned r ∧ Ow 5 w' w.heap.size r (be 2 n)) ∧ Kp w w' := by
  have e1 : (n : Int).tdiv 256 = ((n / 256 : Nat) : Int) := by rw [Int.tdiv_eq_ediv_of_nonneg (by omega)]; omega
  have e2 : (n : Int).tmod 256 = ((n % 256 : Nat) : Int) := by rw [Int.tmod_eq_emod_of_nonneg (by omega)]; omega
  have e3 : IntKind.i64.wrap ((n / 256 : Nat) : Int) = ((n / 256 : Nat) : Int) := IntWalk.i64_in _ (by omega)
  have e4 : IntKind.u8.wrap ((n / 256 : Nat) : Int) = ((n / 256 : Nat) : Int) := by simp [IntKind.wrap, IntKind.signed, IntKind.bits]; omega
  have e5 : IntKind.u8.wrap ((n % 256 : Nat) : Int) = ((n % 256 : Nat) : Int) := by simp [IntKind.wrap, IntKind.signed, IntKind.bits]
  have e6 : IntKind.i64.wrap ((n % 256 : Nat) : Int) = ((n % 256 : Nat) : Int) := IntWalk.i64_in _ (by omega)
  have HB : Hid (#[(.int .u8 ((n / 256 : Nat) : Int) : Value), .int .u8 ((n % 256 : Nat) : Int)].toList = Lib.byteCells (be 2 n)) := by
    unfold Hid
    have h1 : (UInt8.ofNat (n / 256)).toNat = n / 256 := by simp; omega
    have h2 : (UInt8.ofNat n).toNat = n % 256 := by simp
    rw [be_cons, be_cons]
    simp only [Lib.byteCells, be, Nat.pow_one, Nat.pow_zero, Nat.div_one, List.map_cons, List.map_nil, h1, h2]
  generalize ((n / 256 : Nat) : Int) = X at *
  generalize ((n % 256 : Nat) : Int) = Y at *
  go_enter Tryz.func41, Tryz.ntmps41
  go_wp2_with fail
  go_ret
  exact ⟨⟨_, rfl, Ow.lit w _ _ 2 _ _ (Nat.le_refl _) (be_length 2 n) (by omega) HB.out⟩, (Kp.refl _).alloc _⟩
set_option maxHeartbeats 1000000 in
theorem refRow10_any (v : Value) (l : List UInt8) (w : World) (h : Rd w v l) :
    Calls Tryz.prog 36 #[v] w fun e w' => (∃ r, e = .returned r ∧ Ow 5 w' w.heap.size r (rowB l)) ∧ Kp w w' := by
  have HR := Lib.hid (refRow_any v l w h)
  obtain ⟨a, c, rfl, _, _⟩ := h.shape
  go_enter Tryz.func36, Tryz.ntmps36
  go_wp2_with fail
  refine HR.out.mono ?_; rintro _ w1 ⟨r, rfl, o1, k1⟩
  obtain ⟨a1, n1, c1, rfl⟩ := rd_sl10 o1.rd
  go_wp2_with fail
  go_ret
  exact ⟨⟨_, rfl, o1⟩, k1⟩
set_option maxRecDepth 100000 in
set_option maxHeartbeats 12000000 in
theorem refNode10_any (v : Value) (n : Nod) (w : World) (hv : NV w v n) (hn : TidyN n) :
    Calls Tryz.prog 14 #[v] w fun e w' => (∃ r, e = .returned r ∧ Ow 5 w' w.heap.size r (nodeB n)) ∧ Kp w w' := by
  have U := u8
  obtain ⟨p, u, h, rfl, ip, iu, ih⟩ := hv
  obtain ⟨kk, nm, pub, un, hash⟩ := n
  obtain ⟨hk, hnm, hpub, hhash, hunl, hun⟩ := hn
  simp only at hk hnm hpub hhash hunl hun ip iu ih
  obtain ⟨ap, np, cp, rfl⟩ := rd_sl10 ip
  obtain ⟨ah, nh, ch, rfl⟩ := rd_sl10 ih
  obtain ⟨au, nu, cu, rfl⟩ := iu.sl
  simp only [nodC]
  obtain ⟨N, rfl⟩ := Int.eq_ofNat_of_zero_le hnm.1
  have lp := rowB_le (x := pub) (by omega)
  have lh := rowB_le (x := hash) (by omega)
  obtain ⟨W0, hW0⟩ : ∃ W0 : Int → World, W0 = fun kk => w.alloc (.cells #[.int .i64 kk, .int .i64 (N : Int), .slice ap np cp, .slice au nu cu, .slice ah nh ch] 37) := ⟨_, rfl⟩
  have HK0 : Hid (∀ kk, Kp w (W0 kk) ∧ (W0 kk).heap.size = w.heap.size + 1) := fun kk => by rw [hW0]; exact ⟨(Kp.refl _).alloc _, by simp⟩
  have HC0 : Hid (∀ kk, (W0 kk).rangeAt w.heap.size 0 [.int .i64 kk, .int .i64 (N : Int), .slice ap np cp, .slice au nu cu, .slice ah nh ch]) := fun kk => by
    rw [hW0]
    intro j v hv
    rw [cell_of_row _ _ (0 + j) _ _ _ (heap_alloc_new w _)]
    simpa using hv
  have HS : Hid (∀ kk W, Kp (W0 kk) W → W.cell? ⟨w.heap.size, 2, none⟩ = some (.slice ap np cp) ∧ W.cell? ⟨w.heap.size, 4, none⟩ = some (.slice ah nh ch)) := fun kk W hW => ⟨hW.cell (HC0.out kk 2 _ rfl), hW.cell (HC0.out kk 4 _ rfl)⟩
  have HU : Hid (∀ kk W, Kp (W0 kk) W → W.cell? ⟨w.heap.size, 3, none⟩ = some (.slice au nu cu) ∧ W.cell? ⟨w.heap.size, 0, none⟩ = some (.int .i64 kk)) := fun kk W hW => ⟨hW.cell (HC0.out kk 3 _ rfl), hW.cell (HC0.out kk 0 _ rfl)⟩
  have HP : Hid (∀ kk W, Kp (W0 kk) W → Calls Tryz.prog 36 #[.slice ap np cp] W fun e w' => (∃ r, e = .returned r ∧ Ow 5 w' W.heap.size r (rowB pub)) ∧ Kp W w') := fun kk W hW => refRow10_any _ pub W (ip.kp ((HK0.out kk).1.trans hW))
  have HH : Hid (∀ kk W, Kp (W0 kk) W → Calls Tryz.prog 36 #[.slice ah nh ch] W fun e w' => (∃ r, e = .returned r ∧ Ow 5 w' W.heap.size r (rowB hash)) ∧ Kp W w') := fun kk W hW => refRow10_any _ hash W (ih.kp ((HK0.out kk).1.trans hW))
  have HIU : Hid (∀ kk W, Kp (W0 kk) W → RI W (.slice au nu cu) un) := fun kk W hW => iu.kp ((HK0.out kk).1.trans hW)
  have HT := Lib.hid (fun W => refTwo_any N W (by omega))
  have HW0 : Hid (∀ kk, w.alloc (.cells #[.int .i64 kk, .int .i64 (N : Int), .slice ap np cp, .slice au nu cu, .slice ah nh ch] 37) = W0 kk) := fun kk => by rw [hW0]
  clear hW0 HC0 ip iu ih
  rcases hk with rfl | rfl | rfl
  · go_enter Tryz.func14, Tryz.ntmps14
    go_wp2_with fail
    go_ret
    refine ⟨⟨_, rfl, ?_⟩, ((Kp.refl _).alloc _).alloc _⟩
    have := Ow.lit (w.alloc (.cells #[.int .i64 0, .int .i64 (N : Int), .slice ap np cp, .slice au nu cu, .slice ah nh ch] 37)) 5 w.heap.size 1 #[.int .u8 0] [0] (by simp) rfl (by omega) rfl
    rwa [World.size_alloc] at this
  · have HS := Lib.hid (HS.out 1); have HP := Lib.hid (HP.out 1); have HH := Lib.hid (HH.out 1); have HU := Lib.hid (HU.out 1); have HW1 := HW0.out 1
    obtain ⟨kw, hs0⟩ := HK0.out 1
    have HN : Hid (nodeB ⟨1, (N : Int), pub, un, hash⟩ = [1] ++ be 2 N ++ rowB pub ++ rowB hash) := rfl
    rw [HN.out]
    obtain ⟨W0, hW0⟩ : ∃ X, W0 1 = X := ⟨_, rfl⟩
    rw [hW0] at kw hs0 HS HP HH HU HW1
    have HZ := Lib.hid (And.intro kw hs0)
    have HW := Lib.hid HW1
    clear HK0 HIU hW0 HW0 HW1 kw hs0
    go_enter Tryz.func14, Tryz.ntmps14
    go_wp2_with fail
    rw [HW.out]
    refine (HT.out _).mono ?_; rintro _ w2 ⟨⟨r2, rfl, o2⟩, k2⟩
    have o1 := Ow.lit W0 5 W0.heap.size 1 #[.int .u8 1] [1] (Nat.le_refl _) rfl (by omega) rfl
    rw [HZ.out.2] at o1
    have K2 : Hid (Kp W0 w2) := ((Kp.refl W0).alloc _).trans k2
    have o12 := o1.kp k2
    go_wp2_with (at_builtin; refine wpList_append_ow U rfl _ _ rfl (w.heap.size + 1) _ [1] rfl o12 _ (be 2 N) rfl o2.rd (by simp [be_length]) (by have := K2.out.size; have := HZ.out.2; omega) ?_; intro v3 w3 o3 g3 _; have K3 : Hid (Kp W0 w3) := Kp.grown K2.out g3 (by rw [HZ.out.2]; exact o12.own_ge); have c0 := (HU.out _ K3.out).2)
    rw [← HZ.out.2] at o3
    clear o1 o12 o2 k2 g3 K2 c0
    have S3 := Lib.hid (HS.out _ K3.out.drew)
    go_region_held3 (fun W => W.cell? ⟨w.heap.size, 2, none⟩ = some (.slice ap np cp) ∧ W.cell? ⟨w.heap.size, 4, none⟩ = some (.slice ah nh ch))
      (first | with_reducible exact S3.out | with_reducible exact S4.out | with_reducible exact S5.out | with_reducible exact S6.out | with_reducible exact S7.out)
      (first
        | (refine step_append_any U rfl (.tmp 25) (.tmp 28) rfl W0.heap.size _ _ rfl o56 _ _ rfl o6.rd (by simp only [List.length_append, List.length_cons, List.length_nil, be_length]; omega) K6.out.size ?_; intro v7 w7 o7 g7; have K7 := Lib.hid (Kp.grown K6.out g7 o56.own_ge); have S7 := Lib.hid (HS.out _ K7.out))
        | (go_at_call 36; refine (HH.out _ K5.out).mono ?_; rintro _ w6 ⟨⟨r6, rfl, o6⟩, k6⟩; have K6 := Lib.hid (K5.out.trans k6); have S6 := Lib.hid (HS.out _ K6.out); have o56 := o5.kp k6)
        | (refine step_append_any U rfl (.tmp 21) (.tmp 24) rfl W0.heap.size _ _ rfl o34 _ _ rfl o4.rd (by simp only [List.length_append, List.length_cons, List.length_nil, be_length]; omega) K4.out.size ?_; intro v5 w5 o5 g5; have K5 := Lib.hid (Kp.grown K4.out g5 o34.own_ge); have S5 := Lib.hid (HS.out _ K5.out))
        | (go_at_call 36; refine (HP.out _ K3.out.drew).mono ?_; rintro _ w4 ⟨⟨r4, rfl, o4⟩, k4⟩; have K4 := Lib.hid (K3.out.drew.trans k4); have S4 := Lib.hid (HS.out _ K4.out); have o34 := o3.kp ((Kp.refl _).drew.trans k4)))
    have c0 := (HU.out _ K7.out).2
    go_wp2_with fail
    go_ret
    have hz := HZ.out
    exact ⟨⟨_, rfl, o7.mono (by omega)⟩, hz.1.trans K7.out⟩
  · have HS := Lib.hid (HS.out 2); have HP := Lib.hid (HP.out 2); have HH := Lib.hid (HH.out 2); have HU := Lib.hid (HU.out 2); have HIU := Lib.hid (HIU.out 2); have HW1 := HW0.out 2
    obtain ⟨kw, hs0⟩ := HK0.out 2
    obtain ⟨L7, hL7⟩ : ∃ L7, L7 = [2] ++ rowB pub ++ rowB hash := ⟨_, rfl⟩
    have HN : Hid (nodeB ⟨2, (N : Int), pub, un, hash⟩ = L7 ++ rowB (unB un)) := by unfold Hid; rw [hL7]; rfl
    have HL7 := Lib.hid hL7
    have HLL : Hid (L7.length ≤ 200) := by unfold Hid; rw [hL7]; simp only [List.length_append, List.length_cons, List.length_nil]; omega
    clear hL7
    rw [HN.out]
    obtain ⟨W0, hW0⟩ : ∃ X, W0 2 = X := ⟨_, rfl⟩
    rw [hW0] at kw hs0 HS HP HH HU HIU HW1
    have HZ := Lib.hid (And.intro kw hs0)
    have HW := Lib.hid HW1
    clear HK0 hW0 HW0 HW1 kw hs0 HT
    go_enter Tryz.func14, Tryz.ntmps14
    go_wp2_with fail
    rw [HW.out]
    have o3 := Ow.lit W0 5 W0.heap.size 1 #[.int .u8 2] [2] (Nat.le_refl _) rfl (by omega) rfl
    have K3 : Hid (Kp W0 (W0.alloc (.cells #[.int .u8 2] 5))) := (Kp.refl W0).alloc _
    generalize W0.alloc (.cells #[.int .u8 2] 5) = w3 at *
    obtain ⟨v3, hv3⟩ : ∃ v3, Value.slice (some ⟨w.heap.size + 1, 0, none⟩) 1 1 = v3 := ⟨_, rfl⟩
    rw [HZ.out.2, hv3, ← HZ.out.2] at o3
    rw [hv3]
    clear hv3
    have S3 := Lib.hid (HS.out _ K3.out.drew)
    go_region_held3 (fun W => W.cell? ⟨w.heap.size, 2, none⟩ = some (.slice ap np cp) ∧ W.cell? ⟨w.heap.size, 4, none⟩ = some (.slice ah nh ch))
      (first | with_reducible exact S3.out | with_reducible exact S4.out | with_reducible exact S5.out | with_reducible exact S6.out | with_reducible exact S7.out)
      (first
        | (refine step_append_any U rfl (.tmp 25) (.tmp 28) rfl W0.heap.size _ _ rfl o56 _ _ rfl o6.rd (by simp only [List.length_append, List.length_cons, List.length_nil, be_length]; omega) K6.out.size ?_; intro v7 w7 o7 g7; have K7 := Lib.hid (Kp.grown K6.out g7 o56.own_ge); have S7 := Lib.hid (HS.out _ K7.out))
        | (go_at_call 36; refine (HH.out _ K5.out).mono ?_; rintro _ w6 ⟨⟨r6, rfl, o6⟩, k6⟩; have K6 := Lib.hid (K5.out.trans k6); have S6 := Lib.hid (HS.out _ K6.out); have o56 := o5.kp k6)
        | (refine step_append_any U rfl (.tmp 21) (.tmp 24) rfl W0.heap.size _ _ rfl o34 _ _ rfl o4.rd (by simp only [List.length_append, List.length_cons, List.length_nil, be_length]; omega) K4.out.size ?_; intro v5 w5 o5 g5; have K5 := Lib.hid (Kp.grown K4.out g5 o34.own_ge); have S5 := Lib.hid (HS.out _ K5.out))
        | (go_at_call 36; refine (HP.out _ K3.out.drew).mono ?_; rintro _ w4 ⟨⟨r4, rfl, o4⟩, k4⟩; have K4 := Lib.hid (K3.out.drew.trans k4); have S4 := Lib.hid (HS.out _ K4.out); have o34 := o3.kp ((Kp.refl _).drew.trans k4)))
    have c0 := (HU.out _ K7.out).2
    rw [← HL7.out] at o7
    obtain ⟨kz, zs⟩ := HZ.out
    have HZ7 := Lib.hid (And.intro kz (show w.heap.size ≤ W0.heap.size by omega))
    have HUU : Hid (∀ W, Kp w7 W → W.cell? ⟨w.heap.size, 3, none⟩ = some (.slice au nu cu) ∧ RI W (.slice au nu cu) un) := fun W hW => ⟨(HU.out _ (K7.out.trans hW)).1, HIU.out _ (K7.out.trans hW)⟩
    have hul := hunl
    obtain ⟨_, cu', eu, _, _⟩ := (HUU.out _ (Kp.refl _)).2.shape
    simp only [Value.slice.injEq] at eu
    obtain ⟨-, enu, -⟩ := eu
    obtain ⟨UL, hUL⟩ : ∃ UL, un.length = UL := ⟨_, rfl⟩
    rw [hUL] at enu hul
    rw [enu] at HUU ⊢
    have HT : Hid (∀ (i : Nat) W, i < UL → Calls Tryz.prog 41 #[.int .i64 (un.getD i 0)] W fun e w' => (∃ r, e = .returned r ∧ Ow 5 w' W.heap.size r (be 2 (un.getD i 0).toNat)) ∧ Kp W w') := fun i W hi => by
      have hm : un.getD i 0 ∈ un := by rw [List.getD_eq_getElem?_getD, List.getElem?_eq_getElem (by omega)]; exact List.getElem_mem _
      obtain ⟨h0, h1⟩ := hun _ hm
      have h2 : un.getD i 0 = ((un.getD i 0).toNat : Int) := by omega
      rw [h2]
      have := refTwo_any (un.getD i 0).toNat W (by omega)
      rwa [Int.toNat_natCast]
    have HTK : Hid (∀ i, i < UL → unB (un.take (i + 1)) = unB (un.take i) ++ be 2 (un.getD i 0).toNat) := fun i hi => by
      rw [← unB_snoc]
      congr 1
      rw [List.take_add_one, List.getD_eq_getElem?_getD, List.getElem?_eq_getElem (by omega)]; rfl
    have HTE : Hid (un.take UL = un) := by unfold Hid; rw [← hUL]; exact List.take_length
    have HUL : Hid (∀ i, (unB (un.take i)).length ≤ 200) := fun i => by rw [unB_length, List.length_take]; omega
    have HUE : Hid ((unB un).length ≤ 200) := by unfold Hid; rw [unB_length]; omega
    clear HN HL7 hUL hun hunl HU HIU kz zs HZ enu hpub hhash
    have cu0 := (HUU.out _ (Kp.refl _)).1
    go_wp2_with fail
    clear cu0 c0
    go_loopw [4, 5] (fun v x wr => ∃ i : Nat, i ≤ UL ∧ x = .int .i64 (i : Int) ∧ Ow 5 wr w7.heap.size v (unB (un.take i)) ∧ Kp w7 wr) (fun _ x _ => (UL - (intOf x).toNat))
    case atStart => exact ⟨0, Nat.zero_le _, rfl, by rw [List.take_zero]; exact Ow.nil _ _ _, Kp.refl _⟩
    case round =>
      obtain ⟨i, hi, rfl, ho, hkp⟩ := hrel
      have cu1 := (HUU.out _ hkp).1
      by_cases hlt : i < UL
      · obtain ⟨gu, ou, rfl, _, hcu⟩ := (HUU.out _ hkp).2.at i hlt
        have cu2 := hcu i hlt
        have i1 : IntKind.i64.wrap ((i : Int) + 1) = (i : Int) + 1 := IntWalk.i64_in _ (by omega)
        have i3 : (i : Int) < (UL : Int) := by omega
        have HTi := Lib.hid (HT.out i wr hlt)
        have HTK1 := Lib.hid (HTK.out i hlt)
        have KR := Lib.hid hkp
        have HO := Lib.hid ho
        have hle := HUL.out i
        generalize un.getD i 0 = X at *
        obtain ⟨UB, hUB⟩ : ∃ UB, unB (un.take i) = UB := ⟨_, rfl⟩
        rw [hUB] at HO HTK1 hle
        clear hcu hkp ho HT HTK hUB HUL HUE HTE HUU
        go_wp2_with fail
        refine HTi.out.mono ?_; rintro _ w8 ⟨⟨r8, rfl, o8⟩, k8⟩
        go_wp2_with (at_builtin; refine wpList_append_ow U rfl _ _ rfl w7.heap.size _ UB rfl (HO.out.kp k8) _ _ rfl o8.rd (by rw [be_length]; omega) (KR.out.trans k8).size ?_; intro v9 w9 o9 g9 _; have K9 := Lib.hid (Kp.grown (KR.out.trans k8) g9 HO.out.own_ge))
        go_roundw
        case rel => exact ⟨i + 1, by omega, by go_num, by rw [HTK1.out]; exact o9, K9.out⟩
        case measure => simp [intOf]; omega
      · obtain rfl : i = UL := by omega
        rw [HTE.out] at ho
        have KR := Lib.hid hkp
        have HR := Lib.hid (refRow10_any _ (unB un) wr ho.rd)
        have lr := rowB_le (x := unB un) (by have := HUE.out; omega)
        have lu := HUE.out
        have lL := HLL.out
        have hle : ¬ (i : Int) < (i : Int) := by omega
        obtain ⟨av, nv, cv, rfl⟩ := rd_sl10 ho.rd
        have o78 := o7.kp hkp
        clear hkp ho HT HTK HUL HUE HTE HUU
        go_wp2_with fail
        refine HR.out.mono ?_; rintro _ w8 ⟨⟨r8, rfl, o8⟩, k8⟩
        have o79 := o78.kp k8
        go_wp2_with (at_builtin; refine wpList_append_ow U rfl _ _ rfl W0.heap.size _ L7 rfl o79 _ _ rfl o8.rd (by omega) ((K7.out.trans KR.out).trans k8).size ?_; intro v9 w9 o9 g9 _; have K9 := Lib.hid (Kp.grown ((K7.out.trans KR.out).trans k8) g9 o79.own_ge))
        go_ret
        exact ⟨⟨_, rfl, o9.mono HZ7.out.2⟩, HZ7.out.1.trans K9.out⟩
end Go.Proofs.YtobldbodafaajaaGreatDoor

/- pyxref10: digest. -/
set_option linter.unusedVariables false
set_option linter.unusedSimpArgs false
namespace Go.Proofs.YtobldbodafaajaaGreatDoor
open Go.RowKit

theorem kp_drew10 (A : World) : Kp A A.drew := Kp.drew (a := A) (b := A) (Kp.refl A)
/-- A tidy tree's node, where it is read. -/
theorem NL.node {w : World} {v : Value} {t : List Nod} (h : NL w v t) {x : Nat} (hx : x < t.length) :
    ∃ b off c p u q, v = .slice (some ⟨b, off, none⟩) t.length c ∧ NAt w b (off + x * 5) (ats t x) p u q := by
  obtain ⟨a, c, rfl, h1, h2⟩ := h.shape
  obtain ⟨b, off, rfl, _, hi⟩ := h.at x hx
  obtain ⟨p, u, q, hn⟩ := hi x hx
  exact ⟨b, off, c, p, u, q, rfl, hn⟩
theorem TidyT.lt {t : List Nod} {K : Nat} (h : TidyT t K) {j q : Nat} (hj : j ≤ K) (hq : q < 2 ^ (K - j)) : nd j q < t.length ∧ nd j q ≤ 2046 := by
  have h1 := nd_lt hj hq
  have h2 := nd_small h.le hj hq
  rw [h.len]
  exact ⟨h1, h2.1⟩
set_option maxRecDepth 100000 in
set_option maxHeartbeats 6000000 in
theorem digest10_leaf (vt vg : Value) (t : List Nod) (g : List Int) (K q : Nat) (w : World) (hT : TidyT t K) (ht : NL w vt t) (hg : RI w vg g) (hq : q < 2 ^ K) :
    Calls Tryz.prog 32 #[vt, .int .i64 ((nd 0 q : Nat) : Int), vg] w fun e w' => (∃ r, e = .returned r ∧ Ow 5 w' w.heap.size r (digF t g 0 q)) ∧ Kp w w' := by
  have U := u8
  obtain ⟨x1, x2⟩ := hT.lt (j := 0) (Nat.zero_le _) (by simpa using hq)
  have hk := p2_le hT.le
  obtain ⟨b, off, c, p, u, h, rfl, hn⟩ := ht.node x1
  have HNI := Lib.hid hn.2
  obtain ⟨c0, c1, c2, c3, c4⟩ := And.intro hn.kind (And.intro hn.name (And.intro hn.pubC (And.intro hn.unC hn.hashC)))
  have HTD := Lib.hid (hT.node (nd 0 q))
  have HIN := Lib.hid (fun W (hW : Kp w W) => refInI_any vg g (q : Int) W (hg.kp hW))
  have HTW := Lib.hid (fun W => refTwo_any q W (by omega))
  have hx0 : nd 0 q = 2 * q := nd_leaf q
  have HD : Hid (digF t g 0 q = digest ([1] ++ be 2 q ++ nodeB (if (q : Int) ∈ g then blankN else ats t (nd 0 q)))) := rfl
  rw [HD.out]
  have e1 : ((nd 0 q : Nat) : Int).tmod 2 = 0 := tmod2_even q
  have e2 : ((nd 0 q : Nat) : Int).tdiv 2 = (q : Int) := by rw [hx0, Int.tdiv_eq_ediv_of_nonneg (by omega)]; omega
  have e3 : IntKind.i64.wrap (q : Int) = (q : Int) := IntWalk.i64_in _ (by omega)
  have e4 : ((nd 0 q : Nat) : Int) < (t.length : Int) := by omega
  obtain ⟨ag, ng, cg, rfl⟩ := hg.sl
  obtain ⟨ap, np, cp, rfl⟩ := rd_sl9 hn.2.pub
  obtain ⟨au, nu, cu, rfl⟩ := hn.2.un.sl
  obtain ⟨ah, nh, ch, rfl⟩ := rd_sl9 hn.2.hash
  clear hT ht hg hn hx0 hq
  generalize nd 0 q = X at *
  generalize t.length = TL at *
  generalize ats t X = m at *
  by_cases hin : (q : Int) ∈ g
  · rw [decide_eq_true hin] at HIN
    rw [if_pos hin]
    clear hin
    go_enter Tryz.func32, Tryz.ntmps32
    go_wp2_with fail
    refine (HIN.out _ ((Kp.refl w).alloc _)).mono ?_; rintro _ _ ⟨rfl, rfl⟩
    go_wp2_with fail
    obtain ⟨WB, hWB⟩ : ∃ WB, w.alloc (.cells #[.int .i64 0, .int .i64 0, .slice none 0 0, .slice none 0 0, .slice none 0 0] 37) = WB := ⟨_, rfl⟩
    rw [hWB]
    have HBX : Hid (Bx WB w.heap.size 37 #[.int .i64 0, .int .i64 0, .slice none 0 0, .slice none 0 0, .slice none 0 0]) := by rw [← hWB]; exact Bx.new _ _ _
    have HZ : Hid (Kp w WB ∧ WB.heap.size = w.heap.size + 1) := by rw [← hWB]; exact ⟨(Kp.refl _).alloc _, by simp⟩
    have HND : Hid (∀ W, Kp WB W → Calls Tryz.prog 14 #[.agg #[.int .i64 0, .int .i64 0, .slice none 0 0, .slice none 0 0, .slice none 0 0]] W fun e w' => (∃ r, e = .returned r ∧ Ow 5 w' W.heap.size r (nodeB blankN)) ∧ Kp W w') := fun W hW => refNode10_any _ blankN W (NV.blank W) TidyN.blank
    have HNL : Hid ((nodeB blankN).length ≤ 300) := (nodeB_len TidyN.blank).1
    clear hWB HNI HTD HIN
    have HS : Hid (∀ W, Kp WB W → W.cell? ⟨w.heap.size, 0, none⟩ = some (.int .i64 0) ∧ W.cell? ⟨w.heap.size, 1, none⟩ = some (.int .i64 0) ∧ W.cell? ⟨w.heap.size, 2, none⟩ = some (.slice none 0 0) ∧ W.cell? ⟨w.heap.size, 3, none⟩ = some (.slice none 0 0) ∧ W.cell? ⟨w.heap.size, 4, none⟩ = some (.slice none 0 0)) := fun W hW => ⟨(HBX.out.kp hW).cell 0, (HBX.out.kp hW).cell 1, (HBX.out.kp hW).cell 2, (HBX.out.kp hW).cell 3, (HBX.out.kp hW).cell 4⟩
    have HL : Hid (∀ W : World, Ow 5 (W.alloc (.cells #[.int .u8 1] 5)) W.heap.size (.slice (some ⟨W.heap.size, 0, none⟩) 1 1) [1]) := fun W => Ow.lit W _ _ 1 _ [1] (Nat.le_refl _) rfl (by omega) rfl
    have KB : Hid (Kp WB WB.drew) := kp_drew10 WB
    have KA : Hid (Kp WB (WB.alloc (.cells #[.int .u8 1] 5)).drew) := (((Kp.refl WB).alloc _)).drew
    have S0 := Lib.hid (HS.out _ KB.out)
    have SA := Lib.hid (HS.out _ KA.out)
    go_region_held3 (fun W => W.cell? ⟨w.heap.size, 0, none⟩ = some (.int .i64 0) ∧ W.cell? ⟨w.heap.size, 1, none⟩ = some (.int .i64 0) ∧ W.cell? ⟨w.heap.size, 2, none⟩ = some (.slice none 0 0) ∧ W.cell? ⟨w.heap.size, 3, none⟩ = some (.slice none 0 0) ∧ W.cell? ⟨w.heap.size, 4, none⟩ = some (.slice none 0 0))
      (first | with_reducible exact S0.out | with_reducible exact SA.out | with_reducible exact S4.out | with_reducible exact SB.out | with_reducible exact S5.out | with_reducible exact S6.out | with_reducible exact S8.out | with_reducible exact S9.out)
      (first
        | (go_at_call 24; refine (refSum_own _ _ _ o8.rd (by rw [List.length_append, List.length_append, be_length]; have := HNL.out; simp only [List.length_cons, List.length_nil]; omega)).mono ?_; rintro _ w9 ⟨⟨r9, rfl, o9⟩, k9⟩; have K9 := Lib.hid (K8.out.trans k9); have S9 := Lib.hid (HS.out _ K9.out))
        | (refine step_append_any U rfl (.tmp 32) (.tmp 34) rfl WB.heap.size _ _ rfl (o5.kp k6) _ _ rfl o6.rd (by rw [List.length_append, be_length]; have := HNL.out; simp only [List.length_cons, List.length_nil]; omega) K6.out.size ?_; intro v8 w8 o8 g8; have K8 := Lib.hid (Kp.grown K6.out g8 o5.own_ge); have S8 := Lib.hid (HS.out _ K8.out))
        | (go_at_call 14; refine (HND.out _ K5.out).mono ?_; rintro _ w6 ⟨⟨r6, rfl, o6⟩, k6⟩; have K6 := Lib.hid (K5.out.trans k6); have S6 := Lib.hid (HS.out _ K6.out))
        | (refine step_append_any U rfl (.tmp 28) (.tmp 31) rfl WB.heap.size _ _ rfl o1A _ _ rfl o4.rd (by rw [be_length]; simp only [List.length_cons, List.length_nil]; omega) K4.out.size ?_; intro v5 w5 o5 g5; have K5 := Lib.hid (Kp.grown K4.out g5 o1A.own_ge); have S5 := Lib.hid (HS.out _ K5.out))
        | (refine step_append_any U rfl (.tmp 28) (.tmp 31) rfl WB.heap.size _ _ rfl o1B _ _ rfl (o4.rd.kp ((Kp.refl _).alloc _)) (by rw [be_length]; simp only [List.length_cons, List.length_nil]; omega) (K4.out.alloc _).size ?_; intro v5 w5 o5 g5; have K5 := Lib.hid (Kp.grown (K4.out.alloc _) g5 o1B.own_ge); have S5 := Lib.hid (HS.out _ K5.out))
        | (go_at_call 41; refine (HTW.out (WB.alloc (.cells #[.int .u8 1] 5)).drew).mono ?_; rintro _ w4 ⟨⟨r4, rfl, o4⟩, k4⟩; have K4 := Lib.hid (KA.out.trans k4); have S4 := Lib.hid (HS.out _ K4.out); have o1A := ((HL.out WB).kp (kp_drew10 _)).kp k4)
        | (go_at_call 41; refine (HTW.out WB.drew).mono ?_; rintro _ w4 ⟨⟨r4, rfl, o4⟩, k4⟩; have K4 := Lib.hid (KB.out.trans k4); have S4 := Lib.hid (HS.out _ K4.out); have SB := Lib.hid (HS.out _ (K4.out.alloc (.cells #[.int .u8 1] 5))); have o1B := (HL.out w4).mono K4.out.size))
    all_goals
      go_wp2_with fail
      go_ret
      exact ⟨⟨_, rfl, o9.mono (by have := K8.out.size; have := HZ.out.2; omega)⟩, HZ.out.1.trans K9.out⟩
  · rw [decide_eq_false hin] at HIN
    rw [if_neg hin]
    clear hin
    go_enter Tryz.func32, Tryz.ntmps32
    go_wp2_with fail
    refine (HIN.out _ ((Kp.refl w).alloc _)).mono ?_; rintro _ _ ⟨rfl, rfl⟩
    go_wp2_with fail
    obtain ⟨WB, hWB⟩ : ∃ WB, w.alloc (.cells #[.int .i64 m.kind, .int .i64 m.name, .slice ap np cp, .slice au nu cu, .slice ah nh ch] 37) = WB := ⟨_, rfl⟩
    rw [hWB]
    have HBX : Hid (Bx WB w.heap.size 37 #[.int .i64 m.kind, .int .i64 m.name, .slice ap np cp, .slice au nu cu, .slice ah nh ch]) := by rw [← hWB]; exact Bx.new _ _ _
    have HZ : Hid (Kp w WB ∧ WB.heap.size = w.heap.size + 1) := by rw [← hWB]; exact ⟨(Kp.refl _).alloc _, by simp⟩
    have HND : Hid (∀ W, Kp WB W → Calls Tryz.prog 14 #[.agg #[.int .i64 m.kind, .int .i64 m.name, .slice ap np cp, .slice au nu cu, .slice ah nh ch]] W fun e w' => (∃ r, e = .returned r ∧ Ow 5 w' W.heap.size r (nodeB m)) ∧ Kp W w') := fun W hW => refNode10_any _ m W ⟨_, _, _, rfl, HNI.out.kp (HZ.out.1.trans hW)⟩ HTD.out
    have HNL : Hid ((nodeB m).length ≤ 300) := (nodeB_len HTD.out).1
    clear hWB HNI HTD HIN
    have HS : Hid (∀ W, Kp WB W → W.cell? ⟨w.heap.size, 0, none⟩ = some (.int .i64 m.kind) ∧ W.cell? ⟨w.heap.size, 1, none⟩ = some (.int .i64 m.name) ∧ W.cell? ⟨w.heap.size, 2, none⟩ = some (.slice ap np cp) ∧ W.cell? ⟨w.heap.size, 3, none⟩ = some (.slice au nu cu) ∧ W.cell? ⟨w.heap.size, 4, none⟩ = some (.slice ah nh ch)) := fun W hW => ⟨(HBX.out.kp hW).cell 0, (HBX.out.kp hW).cell 1, (HBX.out.kp hW).cell 2, (HBX.out.kp hW).cell 3, (HBX.out.kp hW).cell 4⟩
    have HL : Hid (∀ W : World, Ow 5 (W.alloc (.cells #[.int .u8 1] 5)) W.heap.size (.slice (some ⟨W.heap.size, 0, none⟩) 1 1) [1]) := fun W => Ow.lit W _ _ 1 _ [1] (Nat.le_refl _) rfl (by omega) rfl
    have KB : Hid (Kp WB WB.drew) := kp_drew10 WB
    have KA : Hid (Kp WB (WB.alloc (.cells #[.int .u8 1] 5)).drew) := (((Kp.refl WB).alloc _)).drew
    have S0 := Lib.hid (HS.out _ KB.out)
    have SA := Lib.hid (HS.out _ KA.out)
    go_region_held3 (fun W => W.cell? ⟨w.heap.size, 0, none⟩ = some (.int .i64 m.kind) ∧ W.cell? ⟨w.heap.size, 1, none⟩ = some (.int .i64 m.name) ∧ W.cell? ⟨w.heap.size, 2, none⟩ = some (.slice ap np cp) ∧ W.cell? ⟨w.heap.size, 3, none⟩ = some (.slice au nu cu) ∧ W.cell? ⟨w.heap.size, 4, none⟩ = some (.slice ah nh ch))
      (first | with_reducible exact S0.out | with_reducible exact SA.out | with_reducible exact S4.out | with_reducible exact SB.out | with_reducible exact S5.out | with_reducible exact S6.out | with_reducible exact S8.out | with_reducible exact S9.out)
      (first
        | (go_at_call 24; refine (refSum_own _ _ _ o8.rd (by rw [List.length_append, List.length_append, be_length]; have := HNL.out; simp only [List.length_cons, List.length_nil]; omega)).mono ?_; rintro _ w9 ⟨⟨r9, rfl, o9⟩, k9⟩; have K9 := Lib.hid (K8.out.trans k9); have S9 := Lib.hid (HS.out _ K9.out))
        | (refine step_append_any U rfl (.tmp 32) (.tmp 34) rfl WB.heap.size _ _ rfl (o5.kp k6) _ _ rfl o6.rd (by rw [List.length_append, be_length]; have := HNL.out; simp only [List.length_cons, List.length_nil]; omega) K6.out.size ?_; intro v8 w8 o8 g8; have K8 := Lib.hid (Kp.grown K6.out g8 o5.own_ge); have S8 := Lib.hid (HS.out _ K8.out))
        | (go_at_call 14; refine (HND.out _ K5.out).mono ?_; rintro _ w6 ⟨⟨r6, rfl, o6⟩, k6⟩; have K6 := Lib.hid (K5.out.trans k6); have S6 := Lib.hid (HS.out _ K6.out))
        | (refine step_append_any U rfl (.tmp 28) (.tmp 31) rfl WB.heap.size _ _ rfl o1A _ _ rfl o4.rd (by rw [be_length]; simp only [List.length_cons, List.length_nil]; omega) K4.out.size ?_; intro v5 w5 o5 g5; have K5 := Lib.hid (Kp.grown K4.out g5 o1A.own_ge); have S5 := Lib.hid (HS.out _ K5.out))
        | (refine step_append_any U rfl (.tmp 28) (.tmp 31) rfl WB.heap.size _ _ rfl o1B _ _ rfl (o4.rd.kp ((Kp.refl _).alloc _)) (by rw [be_length]; simp only [List.length_cons, List.length_nil]; omega) (K4.out.alloc _).size ?_; intro v5 w5 o5 g5; have K5 := Lib.hid (Kp.grown (K4.out.alloc _) g5 o1B.own_ge); have S5 := Lib.hid (HS.out _ K5.out))
        | (go_at_call 41; refine (HTW.out (WB.alloc (.cells #[.int .u8 1] 5)).drew).mono ?_; rintro _ w4 ⟨⟨r4, rfl, o4⟩, k4⟩; have K4 := Lib.hid (KA.out.trans k4); have S4 := Lib.hid (HS.out _ K4.out); have o1A := ((HL.out WB).kp (kp_drew10 _)).kp k4)
        | (go_at_call 41; refine (HTW.out WB.drew).mono ?_; rintro _ w4 ⟨⟨r4, rfl, o4⟩, k4⟩; have K4 := Lib.hid (KB.out.trans k4); have S4 := Lib.hid (HS.out _ K4.out); have SB := Lib.hid (HS.out _ (K4.out.alloc (.cells #[.int .u8 1] 5))); have o1B := (HL.out w4).mono K4.out.size))
    all_goals
      go_wp2_with fail
      go_ret
      exact ⟨⟨_, rfl, o9.mono (by have := K8.out.size; have := HZ.out.2; omega)⟩, HZ.out.1.trans K9.out⟩
end Go.Proofs.YtobldbodafaajaaGreatDoor

/- pyxref10: digest, at a node over others. -/
set_option linter.unusedVariables false
set_option linter.unusedSimpArgs false
namespace Go.Proofs.YtobldbodafaajaaGreatDoor
open Go.RowKit

theorem kid10 {K j q : Nat} (hj : j + 1 ≤ K) (hq : q < 2 ^ (K - (j + 1))) : 2 * q < 2 ^ (K - j) ∧ 2 * q + 1 < 2 ^ (K - j) := by
  have e : K - j = (K - (j + 1)) + 1 := by omega
  rw [e, p2_succ]
  omega
theorem filter_take_succ (l : List Int) (g : List Int) (i : Nat) (h : i < l.length) :
    (l.take (i + 1)).filter (fun i => decide (i ∉ g)) = (l.take i).filter (fun i => decide (i ∉ g)) ++ (if l.getD i 0 ∈ g then [] else [l.getD i 0]) := by
  rw [List.take_add_one, List.getElem?_eq_getElem h, List.filter_append, List.getD_eq_getElem?_getD, List.getElem?_eq_getElem h]
  simp only [Option.toList_some, Option.getD_some]
  by_cases hx : l[i] ∈ g
  · rw [if_pos hx]; simp [hx]
  · rw [if_neg hx]; simp [hx]
set_option maxRecDepth 100000 in
set_option maxHeartbeats 6000000 in
theorem digest10_step (t : List Nod) (K j : Nat) (hT : TidyT t K) (hj : j + 1 ≤ K)
    (IH : ∀ (q : Nat) (w : World) (vt vg : Value) (g : List Int), NL w vt t → RI w vg g → q < 2 ^ (K - j) → Calls Tryz.prog 32 #[vt, .int .i64 ((nd j q : Nat) : Int), vg] w fun e w' => (∃ r, e = .returned r ∧ Ow 5 w' w.heap.size r (digF t g j q)) ∧ Kp w w')
    (q : Nat) (w : World) (vt vg : Value) (g : List Int) (ht : NL w vt t) (hg : RI w vg g) (hq : q < 2 ^ (K - (j + 1))) :
    Calls Tryz.prog 32 #[vt, .int .i64 ((nd (j + 1) q : Nat) : Int), vg] w fun e w' => (∃ r, e = .returned r ∧ Ow 5 w' w.heap.size r (digF t g (j + 1) q)) ∧ Kp w w' := by
  have U := u8
  have S := s1ints
  obtain ⟨x1, x2⟩ := hT.lt hj hq
  obtain ⟨b, off, c, p, u, h, rfl, hn⟩ := ht.node x1
  have HNI := Lib.hid hn.2
  obtain ⟨c0, c1, c2, c3, c4⟩ := And.intro hn.kind (And.intro hn.name (And.intro hn.pubC (And.intro hn.unC hn.hashC)))
  have HTD := Lib.hid (hT.node (nd (j + 1) q))
  have HIN := Lib.hid (fun W (n : Int) (hW : Kp w W) => refInI_any vg g n W (hg.kp hW))
  have HD : Hid (digF t g (j + 1) q = digest ([2] ++ nodeB (lessN (ats t (nd (j + 1) q)) g) ++ rowB (digF t g j (2 * q)) ++ rowB (digF t g j (2 * q + 1)))) := rfl
  rw [HD.out]
  have e1 : ((nd (j + 1) q : Nat) : Int).tmod 2 = 1 := tmod2_odd j q
  have e4 : ((nd (j + 1) q : Nat) : Int) < (t.length : Int) := by omega
  obtain ⟨k1, k2⟩ := kid10 hj hq
  obtain ⟨_, y1, y2⟩ := nd_small hT.le hj hq
  obtain ⟨f1, f2, f3⟩ := ch_yes (j := j) (q := q) y1 y2
  have HLE := Lib.hid (fun W => refLeft_any ((nd (j + 1) q : Nat) : Int) W)
  have HRI := Lib.hid (fun W => refRight_any ((nd (j + 1) q : Nat) : Int) W)
  rw [f1, f2] at HLE
  rw [f1, f3] at HRI
  have HDL := Lib.hid (fun W (hW : Kp w W) => IH (2 * q) W _ vg g (ht.kp hW) (hg.kp hW) k1)
  have HDR := Lib.hid (fun W (hW : Kp w W) => IH (2 * q + 1) W _ vg g (ht.kp hW) (hg.kp hW) k2)
  have HLL := Lib.hid (digF_len t g j (2 * q))
  have HLR := Lib.hid (digF_len t g j (2 * q + 1))
  obtain ⟨ag, ng, cg, rfl⟩ := hg.sl
  obtain ⟨ap, np, cp, rfl⟩ := rd_sl9 hn.2.pub
  obtain ⟨ah, nh, ch, rfl⟩ := rd_sl9 hn.2.hash
  have hunl := HTD.out.unl
  obtain ⟨au, cu, eu, pu, _⟩ := hn.2.un.shape
  subst eu
  have HFT := Lib.hid (filter_take_succ (ats t (nd (j + 1) q)).un g)
  obtain ⟨F, hF⟩ : ∃ F : Nat → List Int, F = fun i => ((ats t (nd (j + 1) q)).un.take i).filter (fun i => decide (i ∉ g)) := ⟨_, rfl⟩
  have hFi : ∀ i, ((ats t (nd (j + 1) q)).un.take i).filter (fun i => decide (i ∉ g)) = F i := fun i => by rw [hF]
  have HFE : Hid (lessN (ats t (nd (j + 1) q)) g = ⟨(ats t (nd (j + 1) q)).kind, (ats t (nd (j + 1) q)).name, (ats t (nd (j + 1) q)).pub, F (ats t (nd (j + 1) q)).un.length, (ats t (nd (j + 1) q)).hash⟩) := by
    unfold Hid lessN
    rw [hF]
    simp only [List.take_length]
  have HTL := Lib.hid (HTD.out.less g)
  have HFL : Hid (∀ i, (F i).length ≤ 100) := fun i => by rw [hF]; exact Nat.le_trans (List.length_filter_le _ _) (by rw [List.length_take]; omega)
  have HF0 : Hid (F 0 = []) := by rw [hF]; rfl
  simp only [hFi] at HFT
  generalize digF t g j (2 * q) = DL at *
  generalize digF t g j (2 * q + 1) = DR at *
  clear hT ht hg hn hq IH k1 k2 y1 y2 f1 f2 f3 hF hFi
  generalize nd j (2 * q) = XL at *
  generalize nd j (2 * q + 1) = XR at *
  generalize nd (j + 1) q = X at *
  generalize t.length = TL at *
  generalize ats t X = m at *
  obtain ⟨UL, hUL⟩ : ∃ UL, m.un.length = UL := ⟨_, rfl⟩
  rw [hUL] at c3 HFT HFE pu hunl HNI
  have HUN := Lib.hid (fun W (hW : Kp w W) => (HNI.out.un.kp hW))
  have HNL : Hid ((nodeB (lessN m g)).length ≤ 300) := (nodeB_len HTL.out).1
  rw [HFE.out] at HTL HNL ⊢
  clear HFE hUL
  go_enter Tryz.func32, Tryz.ntmps32
  go_wp2_with fail
  obtain ⟨WB, hWB⟩ : ∃ WB, w.alloc (.cells #[.int .i64 m.kind, .int .i64 m.name, .slice ap np cp, .slice au UL cu, .slice ah nh ch] 37) = WB := ⟨_, rfl⟩
  rw [hWB]
  have HBX : Hid (Bx WB w.heap.size 37 #[.int .i64 m.kind, .int .i64 m.name, .slice ap np cp, .slice au UL cu, .slice ah nh ch]) := by rw [← hWB]; exact Bx.new _ _ _
  have HZ : Hid (Kp w WB ∧ WB.heap.size = w.heap.size + 1) := by rw [← hWB]; exact ⟨(Kp.refl _).alloc _, by simp⟩
  clear hWB c0 c1 c2 c3 c4
  go_loopw [8, 9] (fun v x wr => ∃ i : Nat, i ≤ UL ∧ x = .int .i64 (i : Int) ∧ OI 3 wr WB.heap.size v (F i) ∧ Kp WB wr) (fun _ x _ => (UL - (intOf x).toNat))
  case atStart => exact ⟨0, Nat.zero_le _, rfl, by rw [HF0.out]; exact OI.nil _ _ _, Kp.refl _⟩
  case round =>
    obtain ⟨i, hi, rfl, ho, hkp⟩ := hrel
    have d3 := (HBX.out.kp hkp).cell 3
    have f3 := (HBX.out.kp hkp).frozen 3
    have KR := Lib.hid hkp
    have HO := Lib.hid ho
    by_cases hlt : i < UL
    · obtain ⟨gu, ou, rfl, _, hcu⟩ := (HUN.out _ (HZ.out.1.trans hkp)).at i hlt
      have cu2 := hcu i hlt
      have i1 : IntKind.i64.wrap ((i : Int) + 1) = (i : Int) + 1 := IntWalk.i64_in _ (by omega)
      have i3 : (i : Int) < (UL : Int) := by omega
      have HFTi := Lib.hid (HFT.out i hlt)
      have HINi := Lib.hid (HIN.out wr (m.un.getD i 0) (HZ.out.1.trans hkp))
      have HFLi := HFL.out i
      generalize m.un.getD i 0 = Y at *
      clear hcu hkp ho HFT HUN HIN HFL HF0
      by_cases hy : Y ∈ g
      · rw [decide_eq_true hy] at HINi
        rw [if_pos hy, List.append_nil] at HFTi
        clear hy
        go_wp2_with fail
        refine HINi.out.mono ?_; rintro _ _ ⟨rfl, rfl⟩
        go_wp2_with fail
        go_roundw
        case rel => exact ⟨i + 1, by omega, by go_num, by rw [HFTi.out]; exact HO.out, KR.out⟩
        case measure => simp [intOf]; omega
      · rw [decide_eq_false hy] at HINi
        rw [if_neg hy] at HFTi
        clear hy
        go_wp2_with fail
        refine HINi.out.mono ?_; rintro _ _ ⟨rfl, rfl⟩
        go_wp2_with (at_builtin; refine wpList_append_i S rfl _ _ rfl WB.heap.size _ (F i) rfl (HO.out.kp ((Kp.refl _).alloc _)) _ [Y] rfl (RI.lit wr 3 #[.int .i64 Y] [Y] 1 rfl (by omega) rfl).ri (by simp; omega) (KR.out.alloc _).size ?_; intro v9 w9 o9 g9; have K9 := Lib.hid (Kp.grown (KR.out.alloc _) g9 (fun k hk => (OI.lt HO.out k hk).1)))
        go_roundw
        case rel => exact ⟨i + 1, by omega, by go_num, by rw [HFTi.out]; exact o9, K9.out⟩
        case measure => simp [intOf]; omega
    · obtain rfl : i = UL := by omega
      have hle : ¬ (i : Int) < (i : Int) := by omega
      obtain ⟨av, nv, cv, rfl⟩ := ho.ri.sl
      obtain ⟨hz1, hz2⟩ := HZ.out
      have bx2 := (HBX.out.kp hkp).set 3 (.slice av nv cv)
      have HK4 : Hid (Kp w (wr.setCell ⟨w.heap.size, 3, none⟩ (.slice av nv cv))) := (hz1.trans hkp).setNew (Nat.le_refl _) _
      have r3 : RI (wr.setCell ⟨w.heap.size, 3, none⟩ (.slice av nv cv)) (.slice av nv cv) (F i) := ho.ri.grown9 (v := .slice (some ⟨w.heap.size, 0, none⟩) 0 0) ⟨rfl, rfl, rfl, by simp, fun z hz hne => heap_setCell_other wr ⟨w.heap.size, 3, none⟩ z (.slice av nv cv) (fun e => hne (by rw [e]; rfl))⟩ (ho.apart (fun g hg => by cases hg; show w.heap.size < WB.heap.size; omega))
      have HSZ : Hid (w.heap.size ≤ (wr.setCell ⟨w.heap.size, 3, none⟩ (.slice av nv cv)).heap.size) := HK4.out.size
      have HNV : Hid (NV (wr.setCell ⟨w.heap.size, 3, none⟩ (.slice av nv cv)) (.agg #[.int .i64 m.kind, .int .i64 m.name, .slice ap np cp, .slice av nv cv, .slice ah nh ch]) ⟨m.kind, m.name, m.pub, F i, m.hash⟩) := ⟨_, _, _, rfl, ⟨HNI.out.pub.kp HK4.out, r3, HNI.out.hash.kp HK4.out⟩⟩
      have HB2 := Lib.hid bx2
      simp only [List.setIfInBounds_toArray, List.set_cons_succ, List.set_cons_zero] at HB2
      clear hkp ho HFT HUN HIN HFL HF0 HO KR hz1 hz2 bx2 r3 HBX HZ hle hlt hi
      have hle : ¬ (i : Int) < (i : Int) := by omega
      go_wp2_with fail
      obtain ⟨WS, hWS⟩ : ∃ WS, wr.setCell ⟨w.heap.size, 3, none⟩ (.slice av nv cv) = WS := ⟨_, rfl⟩
      rw [hWS] at HK4 HNV HB2 HSZ ⊢
      clear hWS
      refine (HLE.out _).mono ?_; rintro _ _ ⟨rfl, rfl⟩
      go_wp2_with fail
      refine (HRI.out _).mono ?_; rintro _ _ ⟨rfl, rfl⟩
      go_wp2_with fail
      refine (HDL.out _ HK4.out).mono ?_; rintro _ w2 ⟨⟨r2, rfl, o2⟩, k2⟩
      clear HLE HRI HDL
      go_wp2_with fail
      refine (refRow10_any _ DL w2 o2.rd).mono ?_; rintro _ w3 ⟨⟨r3, rfl, o3⟩, k3⟩
      have K3 := Lib.hid (Kp.trans k2 k3)
      clear o2 k2 k3
      go_wp2_with fail
      refine (HDR.out _ (HK4.out.trans K3.out)).mono ?_; rintro _ w4 ⟨⟨r4, rfl, o4⟩, k4⟩
      go_wp2_with fail
      refine (refRow10_any _ DR w4 o4.rd).mono ?_; rintro _ w5 ⟨⟨r5, rfl, o5⟩, k5⟩
      have K5 := Lib.hid (K3.out.trans (Kp.trans k4 k5))
      have o35 := o3.kp (Kp.trans k4 k5)
      have hl3 := rowB_le (x := DL) (by have := HLL.out; omega)
      have hl5 := rowB_le (x := DR) (by have := HLR.out; omega)
      have d0 := (HB2.out.kp (K5.out.alloc (.cells #[.int .u8 2] 5))).cell 0
      have d1 := (HB2.out.kp (K5.out.alloc (.cells #[.int .u8 2] 5))).cell 1
      have d2 := (HB2.out.kp (K5.out.alloc (.cells #[.int .u8 2] 5))).cell 2
      have d3' := (HB2.out.kp (K5.out.alloc (.cells #[.int .u8 2] 5))).cell 3
      have d4 := (HB2.out.kp (K5.out.alloc (.cells #[.int .u8 2] 5))).cell 4
      simp only [List.getElem?_toArray, List.getElem?_cons_zero, List.getElem?_cons_succ] at d0 d1 d2 d3' d4
      clear o3 o4 k4 k5 K3 HDR d3 f3
      go_wp2_with fail
      refine (refNode10_any _ _ _ (HNV.out.kp (K5.out.alloc _)) HTL.out).mono ?_; rintro _ w6 ⟨⟨r6, rfl, o6⟩, k6⟩
      have K6 := Lib.hid (Kp.trans (K5.out.alloc (.cells #[.int .u8 2] 5)) k6)
      have k56 := Kp.trans ((Kp.refl w5).alloc (.cells #[.int .u8 2] 5)) k6
      have o1 := ((Ow.lit w5 5 w5.heap.size 1 #[.int .u8 2] [2] (Nat.le_refl _) rfl (by omega) rfl).kp k6)
      have K56 := Lib.hid k56
      have hnl := HNL.out
      have hll := HLL.out
      have hlr := HLR.out
      clear d0 d1 d2 d3' d4 k6 k56
      go_wp2_with (first
        | (at_builtin; refine wpList_append_ow U rfl _ _ rfl w5.heap.size _ _ rfl o8 _ (rowB DR) rfl (o5.kp K8.out).rd (by simp only [List.length_append, List.length_cons, List.length_nil]; omega) K8.out.size ?_; intro v9 w9 o9 g9 _; have K9 := Lib.hid (Kp.grown K8.out g9 o8.own_ge))
        | (at_builtin; refine wpList_append_ow U rfl _ _ rfl w5.heap.size _ _ rfl o7 _ (rowB DL) rfl (o35.kp K7.out).rd (by simp only [List.length_append, List.length_cons, List.length_nil]; omega) K7.out.size ?_; intro v8 w8 o8 g8 _; have K8 := Lib.hid (Kp.grown K7.out g8 o7.own_ge))
        | (at_builtin; refine wpList_append_ow U rfl _ _ rfl w5.heap.size _ [2] rfl o1 _ (nodeB ⟨m.kind, m.name, m.pub, F i, m.hash⟩) rfl o6.rd (by simp only [List.length_append, List.length_cons, List.length_nil]; omega) K56.out.size ?_; intro v7 w7 o7 g7 _; have K7 := Lib.hid (Kp.grown K56.out g7 o1.own_ge)))
      refine (refSum_own _ _ _ o9.rd (by simp only [List.length_append, List.length_cons, List.length_nil]; omega)).mono ?_; rintro _ wA ⟨⟨rA, rfl, oA⟩, kA⟩
      go_wp2_with fail
      go_ret
      have KE := HK4.out.trans (K5.out.trans (K9.out.trans kA))
      exact ⟨⟨_, rfl, oA.mono (Nat.le_trans HSZ.out (Nat.le_trans K5.out.size K9.out.size))⟩, KE⟩
theorem digest10_any (t : List Nod) (K : Nat) (hT : TidyT t K) : ∀ (j q : Nat) (w : World) (vt vg : Value) (g : List Int), j ≤ K → NL w vt t → RI w vg g → q < 2 ^ (K - j) →
    Calls Tryz.prog 32 #[vt, .int .i64 ((nd j q : Nat) : Int), vg] w fun e w' => (∃ r, e = .returned r ∧ Ow 5 w' w.heap.size r (digF t g j q)) ∧ Kp w w'
  | 0, q, w, vt, vg, g, _, ht, hg, hq => digest10_leaf vt vg t g K q w hT ht hg (by simpa using hq)
  | j + 1, q, w, vt, vg, g, hj, ht, hg, hq => digest10_step t K j hT hj (fun q w vt vg g ht hg hq => digest10_any t K hT j q w vt vg g (by omega) ht hg hq) q w vt vg g ht hg hq
end Go.Proofs.YtobldbodafaajaaGreatDoor

/- pyxref10: Tree, Above. -/
set_option linter.unusedVariables false
set_option linter.unusedSimpArgs false
namespace Go.Proofs.YtobldbodafaajaaGreatDoor
open Go.RowKit

theorem TidyT.at {t : List Nod} {K : Nat} (h : TidyT t K) {x : Nat} (hx : x < t.length) : ∃ j q, x = nd j q ∧ j ≤ K ∧ q < 2 ^ (K - j) := nd_of K x (by rw [← h.len]; exact hx)
set_option maxHeartbeats 1000000 in
theorem refTree10_any (vt : Value) (t : List Nod) (K : Nat) (x : Int) (w : World) (hT : TidyT t K) (ht : NL w vt t) :
    Calls Tryz.prog 9 #[vt, .int .i64 x] w fun e w' => (∃ r, e = .returned (.tuple #[r, .int .i64 (treE t x)]) ∧ Rd w' r (treV t x)) ∧ Kp w w' := by
  by_cases h : 0 ≤ x ∧ x < t.length
  · have e1 : treE t x = 0 := if_pos h
    have e2 : treV t x = digF t [] (lev x.toNat) (qOf x.toNat) := if_pos e1
    rw [e1, e2]
    obtain ⟨X, rfl⟩ := Int.eq_ofNat_of_zero_le h.1
    have hX : X < t.length := by omega
    obtain ⟨j, q, rfl, hj, hq⟩ := hT.at hX
    have hs := nd_small hT.le hj hq
    rw [Int.toNat_natCast, lev_nd j q (by omega), qOf_nd j q (by omega)]
    have HD := Lib.hid (digest10_any t K hT j q w vt (.slice none 0 0) [] hj ht (RI.nil w) hq)
    obtain ⟨a, c, rfl, h1, h2⟩ := ht.shape
    have h0 : ¬ ((nd j q : Nat) : Int) < 0 := by omega
    have h3 : ¬ (t.length : Int) ≤ ((nd j q : Nat) : Int) := by omega
    clear h ht e1 e2 hX hs hj hq hT
    go_enter Tryz.func9, Tryz.ntmps9
    go_wp2_with fail
    refine HD.out.mono ?_; rintro _ w1 ⟨⟨r, rfl, o⟩, k⟩
    obtain ⟨ar, nr, cr, rfl⟩ := rd_sl10 o.rd
    go_wp2_with fail
    go_ret2
    exact ⟨⟨_, rfl, o.rd⟩, k⟩
  · have e1 : treE t x = 1 := if_neg h
    have e2 : treV t x = [] := if_neg (by rw [e1]; decide)
    rw [e1, e2]
    obtain ⟨a, c, rfl, h1, h2⟩ := ht.shape
    by_cases h0 : x < 0
    · clear h e1 e2 ht
      go_enter Tryz.func9, Tryz.ntmps9
      go_wp2_with fail
      go_ret2
      exact ⟨⟨_, rfl, rd_nil9 _⟩, Kp.refl _⟩
    · have h3 : (t.length : Int) ≤ x := by omega
      clear h e1 e2 ht
      go_enter Tryz.func9, Tryz.ntmps9
      go_wp2_with fail
      go_ret2
      exact ⟨⟨_, rfl, rd_nil9 _⟩, Kp.refl _⟩
set_option maxRecDepth 100000 in
set_option maxHeartbeats 6000000 in
theorem above10_yes (vt : Value) (t : List Nod) (K j q : Nat) (side : Int) (w : World) (hT : TidyT t K) (ht : NL w vt t) (hj : j + 1 ≤ K) (hq : q < 2 ^ (K - (j + 1))) (hs : side = 0 ∨ side = 1) (hk2 : (ats t (nd (j + 1) q)).kind = 2) :
    Calls Tryz.prog 11 #[vt, .int .i64 ((nd (j + 1) q : Nat) : Int), .int .i64 side] w fun e w' => (∃ r, e = .returned (.tuple #[r, .int .i64 0]) ∧ Ow 5 w' w.heap.size r (digest ([3] ++ rowB (ats t (nd (j + 1) q)).pub ++ rowB (ats t (nd (j + 1) q)).hash ++ rowB (digF t (ats t (nd (j + 1) q)).un j (othQ side q))))) ∧ Kp w w' := by
  have U := u8
  obtain ⟨x1, x2⟩ := hT.lt hj hq
  obtain ⟨b, off, c, p, u, h, rfl, hn⟩ := ht.node x1
  have HNI := Lib.hid hn.2
  obtain ⟨c0, c1, c2, c3, c4⟩ := And.intro hn.kind (And.intro hn.name (And.intro hn.pubC (And.intro hn.unC hn.hashC)))
  rw [hk2] at c0
  have HTD := Lib.hid (hT.node (nd (j + 1) q))
  obtain ⟨k1, k2⟩ := kid10 hj hq
  obtain ⟨_, y1, y2⟩ := nd_small hT.le hj hq
  obtain ⟨f1, f2, f3⟩ := ch_yes (j := j) (q := q) y1 y2
  have HLE := Lib.hid (fun W => refLeft_any ((nd (j + 1) q : Nat) : Int) W)
  have HRI := Lib.hid (fun W => refRight_any ((nd (j + 1) q : Nat) : Int) W)
  rw [f1, f2] at HLE
  rw [f1, f3] at HRI
  have HDG : Hid (∀ W vg, Kp w W → RI W vg (ats t (nd (j + 1) q)).un → Calls Tryz.prog 32 #[.slice (some ⟨b, off, none⟩) t.length c, .int .i64 ((nd j (othQ side q) : Nat) : Int), vg] W fun e w' => (∃ r, e = .returned r ∧ Ow 5 w' W.heap.size r (digF t (ats t (nd (j + 1) q)).un j (othQ side q))) ∧ Kp W w') := fun W vg hW hg =>
    digest10_any t K hT j (othQ side q) W _ vg _ (by omega) (ht.kp hW) hg (by unfold othQ; split <;> assumption)
  have HDL := Lib.hid (digF_len t (ats t (nd (j + 1) q)).un j (othQ side q))
  obtain ⟨ap, np, cp, rfl⟩ := rd_sl9 hn.2.pub
  obtain ⟨ah, nh, ch, rfl⟩ := rd_sl9 hn.2.hash
  obtain ⟨au, nu, cu, rfl⟩ := hn.2.un.sl
  have lp := rowB_le (x := (ats t (nd (j + 1) q)).pub) (by have := HTD.out.pub; omega)
  have lh := rowB_le (x := (ats t (nd (j + 1) q)).hash) (by have := HTD.out.hash; omega)
  have lp2 := HTD.out.pub
  have lh2 := HTD.out.hash
  have z1 : ¬ ((nd (j + 1) q : Nat) : Int) < 0 := by omega
  have z2 : ¬ (t.length : Int) ≤ ((nd (j + 1) q : Nat) : Int) := by omega
  have z5 : ((nd (j + 1) q : Nat) : Int) < (t.length : Int) := by omega
  clear HTD
  generalize digF t (ats t (nd (j + 1) q)).un j (othQ side q) = DG at *
  have lr := rowB_le (x := DG) (by have := HDL.out; omega)
  have HLN : Hid ((rowB (ats t (nd (j + 1) q)).pub).length ≤ 42 ∧ (rowB (ats t (nd (j + 1) q)).hash).length ≤ 42 ∧ (rowB DG).length ≤ 40) := ⟨by omega, by omega, by have := HDL.out; omega⟩
  obtain ⟨OX, hOX⟩ : ∃ OX, nd j (othQ side q) = OX := ⟨_, rfl⟩
  rw [hOX] at HDG
  have HOX : Hid ((side = 0 → nd j (2 * q + 1) = OX) ∧ (side = 1 → nd j (2 * q) = OX)) := by
    rw [← hOX]
    exact ⟨fun h => by rw [h]; rfl, fun h => by rw [h]; rfl⟩
  clear hT ht hn hq k1 k2 y1 y2 f1 f2 f3 hj lp lh lp2 lh2 lr HDL hOX
  generalize nd j (2 * q) = XL at *
  generalize nd j (2 * q + 1) = XR at *
  generalize nd (j + 1) q = X at *
  generalize t.length = TL at *
  generalize ats t X = m at *
  rcases hs with rfl | rfl
  · have hx := HOX.out.1 rfl
    subst hx
    go_enter Tryz.func11, Tryz.ntmps11
    go_wp2_with fail
    refine (HLE.out _).mono ?_; rintro _ _ ⟨rfl, rfl⟩
    go_wp2_with fail
    refine (HRI.out _).mono ?_; rintro _ _ ⟨rfl, rfl⟩
    go_wp2_with fail
    obtain ⟨WA, hWA⟩ : ∃ WA, w.alloc (.cells #[.int .i64 2, .int .i64 m.name, .slice ap np cp, .slice au nu cu, .slice ah nh ch] 37) = WA := ⟨_, rfl⟩
    rw [hWA]
    have HBX : Hid (Bx WA w.heap.size 37 #[.int .i64 2, .int .i64 m.name, .slice ap np cp, .slice au nu cu, .slice ah nh ch]) := by rw [← hWA]; exact Bx.new _ _ _
    have HZA : Hid (Kp w WA) := by rw [← hWA]; exact (Kp.refl _).alloc _
    clear hWA HLE HRI c0 c1 c2 c3 c4
    refine (HDG.out _ _ HZA.out (HNI.out.un.kp HZA.out)).mono ?_; rintro _ w2 ⟨⟨r2, rfl, o2⟩, k2⟩
    go_wp2_with fail
    refine (refRow10_any _ DG w2 o2.rd).mono ?_; rintro _ WB ⟨⟨r3, rfl, o3⟩, k3⟩
    have kAB : Kp WA WB := Kp.trans k2 k3
    have HZ : Hid (Kp w WB) := HZA.out.trans kAB
    have HROW : Hid (∀ W, Kp WB W → Rd W r3 (rowB DG)) := fun W hW => o3.rd.kp hW
    have HS : Hid (∀ W, Kp WB W → W.cell? ⟨w.heap.size, 2, none⟩ = some (.slice ap np cp) ∧ W.cell? ⟨w.heap.size, 4, none⟩ = some (.slice ah nh ch)) := fun W hW => ⟨((HBX.out.kp kAB).kp hW).cell 2, ((HBX.out.kp kAB).kp hW).cell 4⟩
    have HP : Hid (∀ W, Kp WB W → Calls Tryz.prog 36 #[.slice ap np cp] W fun e w' => (∃ r, e = .returned r ∧ Ow 5 w' W.heap.size r (rowB m.pub)) ∧ Kp W w') := fun W hW => refRow10_any _ m.pub W (HNI.out.pub.kp (HZ.out.trans hW))
    have HH : Hid (∀ W, Kp WB W → Calls Tryz.prog 36 #[.slice ah nh ch] W fun e w' => (∃ r, e = .returned r ∧ Ow 5 w' W.heap.size r (rowB m.hash)) ∧ Kp W w') := fun W hW => refRow10_any _ m.hash W (HNI.out.hash.kp (HZ.out.trans hW))
    have HL : Hid (∀ W : World, Ow 5 (W.alloc (.cells #[.int .u8 3] 5)) W.heap.size (.slice (some ⟨W.heap.size, 0, none⟩) 1 1) [3]) := fun W => Ow.lit W _ _ 1 _ [3] (Nat.le_refl _) rfl (by omega) rfl
    have KB : Hid (Kp WB WB.drew) := kp_drew10 WB
    have KA : Hid (Kp WB (WB.alloc (.cells #[.int .u8 3] 5)).drew) := (((Kp.refl WB).alloc _)).drew
    have S0 := Lib.hid (HS.out _ KB.out)
    have SA := Lib.hid (HS.out _ KA.out)
    have SC := (HS.out _ (Kp.refl WB))
    clear o2 o3 k2 k3 HDG HBX HZA HNI kAB HOX
    go_wp2_with fail
    clear SC
    go_region_held3 (fun W => W.cell? ⟨w.heap.size, 2, none⟩ = some (.slice ap np cp) ∧ W.cell? ⟨w.heap.size, 4, none⟩ = some (.slice ah nh ch))
      (first | with_reducible exact S0.out | with_reducible exact SA.out | with_reducible exact S4.out | with_reducible exact SB.out | with_reducible exact S5.out | with_reducible exact S6.out | with_reducible exact S7.out | with_reducible exact S8.out | with_reducible exact S9.out)
      (first
        | (go_at_call 24; refine (refSum_own _ _ _ o8.rd (by simp only [List.length_append, List.length_cons, List.length_nil]; have := HLN.out; omega)).mono ?_; rintro _ w9 ⟨⟨r9, rfl, o9⟩, k9⟩; have K9 := Lib.hid (K8.out.trans k9); have S9 := Lib.hid (HS.out _ K9.out))
        | (refine step_append_any U rfl (.tmp 64) (.tmp 65) rfl WB.heap.size _ _ rfl o7 _ _ rfl (HROW.out _ K7.out) (by simp only [List.length_append, List.length_cons, List.length_nil]; have := HLN.out; omega) K7.out.size ?_; intro v8 w8 o8 g8; have K8 := Lib.hid (Kp.grown K7.out g8 o7.own_ge); have S8 := Lib.hid (HS.out _ K8.out))
        | (refine step_append_any U rfl (.tmp 60) (.tmp 63) rfl WB.heap.size _ _ rfl (o5.kp k6) _ _ rfl o6.rd (by simp only [List.length_append, List.length_cons, List.length_nil]; have := HLN.out; omega) K6.out.size ?_; intro v7 w7 o7 g7; have K7 := Lib.hid (Kp.grown K6.out g7 o5.own_ge); have S7 := Lib.hid (HS.out _ K7.out))
        | (go_at_call 36; refine (HH.out _ K5.out).mono ?_; rintro _ w6 ⟨⟨r6, rfl, o6⟩, k6⟩; have K6 := Lib.hid (K5.out.trans k6); have S6 := Lib.hid (HS.out _ K6.out))
        | (refine step_append_any U rfl (.tmp 56) (.tmp 59) rfl WB.heap.size _ _ rfl o1A _ _ rfl o4.rd (by simp only [List.length_append, List.length_cons, List.length_nil]; have := HLN.out; omega) K4.out.size ?_; intro v5 w5 o5 g5; have K5 := Lib.hid (Kp.grown K4.out g5 o1A.own_ge); have S5 := Lib.hid (HS.out _ K5.out))
        | (refine step_append_any U rfl (.tmp 56) (.tmp 59) rfl WB.heap.size _ _ rfl o1B _ _ rfl (o4.rd.kp ((Kp.refl _).alloc _)) (by simp only [List.length_append, List.length_cons, List.length_nil]; have := HLN.out; omega) (K4.out.alloc _).size ?_; intro v5 w5 o5 g5; have K5 := Lib.hid (Kp.grown (K4.out.alloc _) g5 o1B.own_ge); have S5 := Lib.hid (HS.out _ K5.out))
        | (go_at_call 36; refine (HP.out (WB.alloc (.cells #[.int .u8 3] 5)).drew KA.out).mono ?_; rintro _ w4 ⟨⟨r4, rfl, o4⟩, k4⟩; have K4 := Lib.hid (KA.out.trans k4); have S4 := Lib.hid (HS.out _ K4.out); have o1A := ((HL.out WB).kp (kp_drew10 _)).kp k4)
        | (go_at_call 36; refine (HP.out WB.drew KB.out).mono ?_; rintro _ w4 ⟨⟨r4, rfl, o4⟩, k4⟩; have K4 := Lib.hid (KB.out.trans k4); have S4 := Lib.hid (HS.out _ K4.out); have SB := Lib.hid (HS.out _ (K4.out.alloc (.cells #[.int .u8 3] 5))); have o1B := (HL.out w4).mono K4.out.size))
    all_goals
      go_wp2_with fail
      go_ret2
      exact ⟨⟨_, rfl, o9.mono (HZ.out.trans K8.out).size⟩, HZ.out.trans K9.out⟩
  · have hx := HOX.out.2 rfl
    subst hx
    go_enter Tryz.func11, Tryz.ntmps11
    go_wp2_with fail
    refine (HLE.out _).mono ?_; rintro _ _ ⟨rfl, rfl⟩
    go_wp2_with fail
    obtain ⟨WA, hWA⟩ : ∃ WA, w.alloc (.cells #[.int .i64 2, .int .i64 m.name, .slice ap np cp, .slice au nu cu, .slice ah nh ch] 37) = WA := ⟨_, rfl⟩
    rw [hWA]
    have HBX : Hid (Bx WA w.heap.size 37 #[.int .i64 2, .int .i64 m.name, .slice ap np cp, .slice au nu cu, .slice ah nh ch]) := by rw [← hWA]; exact Bx.new _ _ _
    have HZA : Hid (Kp w WA) := by rw [← hWA]; exact (Kp.refl _).alloc _
    clear hWA HLE HRI c0 c1 c2 c3 c4
    refine (HDG.out _ _ HZA.out (HNI.out.un.kp HZA.out)).mono ?_; rintro _ w2 ⟨⟨r2, rfl, o2⟩, k2⟩
    go_wp2_with fail
    refine (refRow10_any _ DG w2 o2.rd).mono ?_; rintro _ WB ⟨⟨r3, rfl, o3⟩, k3⟩
    have kAB : Kp WA WB := Kp.trans k2 k3
    have HZ : Hid (Kp w WB) := HZA.out.trans kAB
    have HROW : Hid (∀ W, Kp WB W → Rd W r3 (rowB DG)) := fun W hW => o3.rd.kp hW
    have HS : Hid (∀ W, Kp WB W → W.cell? ⟨w.heap.size, 2, none⟩ = some (.slice ap np cp) ∧ W.cell? ⟨w.heap.size, 4, none⟩ = some (.slice ah nh ch)) := fun W hW => ⟨((HBX.out.kp kAB).kp hW).cell 2, ((HBX.out.kp kAB).kp hW).cell 4⟩
    have HP : Hid (∀ W, Kp WB W → Calls Tryz.prog 36 #[.slice ap np cp] W fun e w' => (∃ r, e = .returned r ∧ Ow 5 w' W.heap.size r (rowB m.pub)) ∧ Kp W w') := fun W hW => refRow10_any _ m.pub W (HNI.out.pub.kp (HZ.out.trans hW))
    have HH : Hid (∀ W, Kp WB W → Calls Tryz.prog 36 #[.slice ah nh ch] W fun e w' => (∃ r, e = .returned r ∧ Ow 5 w' W.heap.size r (rowB m.hash)) ∧ Kp W w') := fun W hW => refRow10_any _ m.hash W (HNI.out.hash.kp (HZ.out.trans hW))
    have HL : Hid (∀ W : World, Ow 5 (W.alloc (.cells #[.int .u8 3] 5)) W.heap.size (.slice (some ⟨W.heap.size, 0, none⟩) 1 1) [3]) := fun W => Ow.lit W _ _ 1 _ [3] (Nat.le_refl _) rfl (by omega) rfl
    have KB : Hid (Kp WB WB.drew) := kp_drew10 WB
    have KA : Hid (Kp WB (WB.alloc (.cells #[.int .u8 3] 5)).drew) := (((Kp.refl WB).alloc _)).drew
    have S0 := Lib.hid (HS.out _ KB.out)
    have SA := Lib.hid (HS.out _ KA.out)
    have SC := (HS.out _ (Kp.refl WB))
    clear o2 o3 k2 k3 HDG HBX HZA HNI kAB HOX
    go_wp2_with fail
    clear SC
    go_region_held3 (fun W => W.cell? ⟨w.heap.size, 2, none⟩ = some (.slice ap np cp) ∧ W.cell? ⟨w.heap.size, 4, none⟩ = some (.slice ah nh ch))
      (first | with_reducible exact S0.out | with_reducible exact SA.out | with_reducible exact S4.out | with_reducible exact SB.out | with_reducible exact S5.out | with_reducible exact S6.out | with_reducible exact S7.out | with_reducible exact S8.out | with_reducible exact S9.out)
      (first
        | (go_at_call 24; refine (refSum_own _ _ _ o8.rd (by simp only [List.length_append, List.length_cons, List.length_nil]; have := HLN.out; omega)).mono ?_; rintro _ w9 ⟨⟨r9, rfl, o9⟩, k9⟩; have K9 := Lib.hid (K8.out.trans k9); have S9 := Lib.hid (HS.out _ K9.out))
        | (refine step_append_any U rfl (.tmp 64) (.tmp 65) rfl WB.heap.size _ _ rfl o7 _ _ rfl (HROW.out _ K7.out) (by simp only [List.length_append, List.length_cons, List.length_nil]; have := HLN.out; omega) K7.out.size ?_; intro v8 w8 o8 g8; have K8 := Lib.hid (Kp.grown K7.out g8 o7.own_ge); have S8 := Lib.hid (HS.out _ K8.out))
        | (refine step_append_any U rfl (.tmp 60) (.tmp 63) rfl WB.heap.size _ _ rfl (o5.kp k6) _ _ rfl o6.rd (by simp only [List.length_append, List.length_cons, List.length_nil]; have := HLN.out; omega) K6.out.size ?_; intro v7 w7 o7 g7; have K7 := Lib.hid (Kp.grown K6.out g7 o5.own_ge); have S7 := Lib.hid (HS.out _ K7.out))
        | (go_at_call 36; refine (HH.out _ K5.out).mono ?_; rintro _ w6 ⟨⟨r6, rfl, o6⟩, k6⟩; have K6 := Lib.hid (K5.out.trans k6); have S6 := Lib.hid (HS.out _ K6.out))
        | (refine step_append_any U rfl (.tmp 56) (.tmp 59) rfl WB.heap.size _ _ rfl o1A _ _ rfl o4.rd (by simp only [List.length_append, List.length_cons, List.length_nil]; have := HLN.out; omega) K4.out.size ?_; intro v5 w5 o5 g5; have K5 := Lib.hid (Kp.grown K4.out g5 o1A.own_ge); have S5 := Lib.hid (HS.out _ K5.out))
        | (refine step_append_any U rfl (.tmp 56) (.tmp 59) rfl WB.heap.size _ _ rfl o1B _ _ rfl (o4.rd.kp ((Kp.refl _).alloc _)) (by simp only [List.length_append, List.length_cons, List.length_nil]; have := HLN.out; omega) (K4.out.alloc _).size ?_; intro v5 w5 o5 g5; have K5 := Lib.hid (Kp.grown (K4.out.alloc _) g5 o1B.own_ge); have S5 := Lib.hid (HS.out _ K5.out))
        | (go_at_call 36; refine (HP.out (WB.alloc (.cells #[.int .u8 3] 5)).drew KA.out).mono ?_; rintro _ w4 ⟨⟨r4, rfl, o4⟩, k4⟩; have K4 := Lib.hid (KA.out.trans k4); have S4 := Lib.hid (HS.out _ K4.out); have o1A := ((HL.out WB).kp (kp_drew10 _)).kp k4)
        | (go_at_call 36; refine (HP.out WB.drew KB.out).mono ?_; rintro _ w4 ⟨⟨r4, rfl, o4⟩, k4⟩; have K4 := Lib.hid (KB.out.trans k4); have S4 := Lib.hid (HS.out _ K4.out); have SB := Lib.hid (HS.out _ (K4.out.alloc (.cells #[.int .u8 3] 5))); have o1B := (HL.out w4).mono K4.out.size))
    all_goals
      go_wp2_with fail
      go_ret2
      exact ⟨⟨_, rfl, o9.mono (HZ.out.trans K8.out).size⟩, HZ.out.trans K9.out⟩
set_option maxHeartbeats 1000000 in
theorem refAbove_own (vt : Value) (t : List Nod) (K : Nat) (x side : Int) (w : World) (hT : TidyT t K) (ht : NL w vt t) :
    Calls Tryz.prog 11 #[vt, .int .i64 x, .int .i64 side] w fun e w' => (∃ r, e = .returned (.tuple #[r, .int .i64 (aboE t x side)]) ∧ Ow 5 w' w.heap.size r (aboV t x side)) ∧ Kp w w' := by
  by_cases h : 0 ≤ x ∧ x < t.length ∧ 0 ≤ side ∧ side ≤ 1
  · obtain ⟨X, rfl⟩ := Int.eq_ofNat_of_zero_le h.1
    have hX : X < t.length := by omega
    by_cases hk : (ats t X).kind = 2
    · have e1 : aboE t (X : Int) side = 0 := by unfold aboE; rw [if_pos h, Int.toNat_natCast, if_pos hk]
      have e2 : aboV t (X : Int) side = aboT t X side := by unfold aboV; rw [if_pos e1, Int.toNat_natCast]
      rw [e1, e2]
      obtain ⟨j, q, rfl, hj, hq⟩ := hT.at hX
      have hs := nd_small hT.le hj hq
      cases j with
      | zero => have h1 := hT.par _ hk; have h2 := nd_even q; omega
      | succ j =>
        unfold aboT
        rw [lev_nd (j + 1) q (by omega), qOf_nd (j + 1) q (by omega), Nat.add_sub_cancel]
        exact above10_yes vt t K j q side w hT ht hj hq (by omega) hk
    · have e1 : aboE t (X : Int) side = 11 := by unfold aboE; rw [if_pos h, Int.toNat_natCast, if_neg hk]
      have e2 : aboV t (X : Int) side = [] := if_neg (by rw [e1]; decide)
      rw [e1, e2]
      obtain ⟨b, off, c, p, u, hh, rfl, hn⟩ := ht.node hX
      obtain ⟨c0, c1, c2, c3, c4⟩ := And.intro hn.kind (And.intro hn.name (And.intro hn.pubC (And.intro hn.unC hn.hashC)))
      obtain ⟨ap, np, cp, rfl⟩ := rd_sl9 hn.2.pub
      obtain ⟨ah, nh, ch, rfl⟩ := rd_sl9 hn.2.hash
      obtain ⟨au, nu, cu, rfl⟩ := hn.2.un.sl
      have z1 : ¬ (X : Int) < 0 := by omega
      have z2 : ¬ (t.length : Int) ≤ (X : Int) := by omega
      have z3 : ¬ side < 0 := by omega
      have z4 : ¬ 1 < side := by omega
      have z5 : (X : Int) < (t.length : Int) := by omega
      have z6 : ((ats t X).kind == 2) = false := beq_eq_false_iff_ne.2 hk
      clear h hT ht hn e1 e2
      generalize t.length = TL at *
      generalize ats t X = m at *
      go_enter Tryz.func11, Tryz.ntmps11
      go_wp2_with fail
      go_ret2
      exact ⟨⟨_, rfl, Ow.nil _ _ _⟩, (Kp.refl _).alloc _⟩
  · have e1 : aboE t x side = 1 := if_neg h
    have e2 : aboV t x side = [] := if_neg (by rw [e1]; decide)
    rw [e1, e2]
    obtain ⟨a, c, rfl, h1, h2⟩ := ht.shape
    clear ht e1 e2
    by_cases h0 : x < 0
    · clear h
      go_enter Tryz.func11, Tryz.ntmps11
      go_wp2_with fail
      go_ret2
      exact ⟨⟨_, rfl, Ow.nil _ _ _⟩, Kp.refl _⟩
    · by_cases h3 : (t.length : Int) ≤ x
      · clear h
        go_enter Tryz.func11, Tryz.ntmps11
        go_wp2_with fail
        go_ret2
        exact ⟨⟨_, rfl, Ow.nil _ _ _⟩, Kp.refl _⟩
      · by_cases h4 : side < 0
        · clear h
          go_enter Tryz.func11, Tryz.ntmps11
          go_wp2_with fail
          go_ret2
          exact ⟨⟨_, rfl, Ow.nil _ _ _⟩, Kp.refl _⟩
        · have h5 : 1 < side := by omega
          clear h
          go_enter Tryz.func11, Tryz.ntmps11
          go_wp2_with fail
          go_ret2
          exact ⟨⟨_, rfl, Ow.nil _ _ _⟩, Kp.refl _⟩
theorem refAbove_any (vt : Value) (t : List Nod) (K : Nat) (x side : Int) (w : World) (hT : TidyT t K) (ht : NL w vt t) :
    Calls Tryz.prog 11 #[vt, .int .i64 x, .int .i64 side] w fun e w' => (∃ r, e = .returned (.tuple #[r, .int .i64 (aboE t x side)]) ∧ Rd w' r (aboV t x side)) ∧ Kp w w' :=
  (refAbove_own vt t K x side w hT ht).mono fun e w' ⟨⟨v', he, ho⟩, hk⟩ => ⟨⟨v', he, ho.rd⟩, hk⟩
end Go.Proofs.YtobldbodafaajaaGreatDoor

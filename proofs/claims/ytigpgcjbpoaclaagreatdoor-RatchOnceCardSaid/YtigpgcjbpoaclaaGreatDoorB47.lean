import Derived.Test.YtigpgcjbpoaclaaGreatDoorB45
import Derived.Test.YtigpgcjbpoaclaaGreatDoorB46
import Derived.Deep.RegionHeld3
set_option linter.unusedVariables false
set_option linter.unusedSimpArgs false
namespace Go.Proofs.YtigpgcjbpoaclaaGreatDoor
open Go.RowKit
set_option maxRecDepth 100000 in
set_option maxHeartbeats 20000000 in
theorem ratchOnce_walk (v vl : Value) (send : List UInt8) (l : List Int) (w : World) (h : Rd w v send) (hl : RI w vl l) (hT : Tab w) :
    Calls Tryz.prog 5 #[v, vl] w fun e w' => e = .returned (.bool true) ∧ Kp w w' := by
  have HV := Lib.hid h
  have HI := Lib.hid hl
  obtain ⟨a1, c1, rfl, hc1, hm1⟩ := h.shape
  obtain ⟨a2, c2, rfl, hc2, hm2⟩ := hl.shape
  have HTB := Lib.hid hT
  have HSH := Lib.hid (fun W (k : Kp w W) => shownRatch_any W (HTB.out.kp k))
  obtain ⟨N, hN⟩ : ∃ n, l.length = n := ⟨_, rfl⟩
  rw [hN] at hc2 HI ⊢
  have HN := Lib.hid hN
  unfold maxLen at hm1 hm2
  clear hT hl hN
  by_cases hs : send.length = 32
  · by_cases hn : N ≤ 20
    · have hL : leafE send 1 0 = 0 ∧ leafR send 1 0 = secD send 0 0 := leaf_yes (send := send) (K := 0) (q := 0) hs (by omega) (by decide)
      have HST := Lib.hid (fun W (k : Kp w W) => ratchStart_any _ send 1 0 W (HV.out.kp k) (by omega) (by omega) (HTB.out.kp k))
      rw [hL.1, show startC send 1 0 = ⟨0, secD send 0 0, []⟩ by unfold startC; rw [hL.2]] at HST
      have HLOCK := Lib.hid (fun W x0 x y (a : Nat) (k : Kp w W) (ha : a < 1000) => onceLock_any x0 x y _ send a W (HV.out.kp k) hs ha)
      have hSl : (secD send 0 0).length = 32 := secD_length _ _ _
      obtain ⟨S, hS⟩ : ∃ S, secD send 0 0 = S := ⟨_, rfl⟩
      rw [hS] at HST HLOCK hSl
      rw [hs] at HV HST HLOCK ⊢
      have HON := Lib.hid (Onc.start S hSl)
      have HR := Lib.hid (fun W x y (C : Ch) (h : CIn W x y C) => refRight13_any x y C W h)
      have HSM := Lib.hid (fun W x y x' y' (C : Ch) (h : CIn W x y C) (h' : CIn W x' y' C) => refSame13_any x y x' y' C C W h h')
      have HSK := Lib.hid (fun W x y x' y' (K : Lk) (h : LIn W x y K) (h' : LIn W x' y' K) => refSameLock_any x y x' y' K K W h h')
      have HXL : Hid (∀ (K : Lk) W x y, LIn W x y K → ∃ a1 n1 c1 a2 n2 c2, x = .slice a1 n1 c1 ∧ y = .slice a2 n2 c2) := fun K W x y h => by obtain ⟨a, b, c, d, e, f⟩ := h.shapes; exact ⟨_, _, _, _, _, _, e, f⟩
      have hNN : N ≤ 20 := hn
      have HNN := Lib.hid hNN
      clear h hL hs hS hSl hn
      go_enter Tryz.func5, Tryz.ntmps5
      go_wp2_with fail
      refine (HSH.out _ (Kp.refl _)).mono ?_
      rintro _ w2 ⟨rfl, k2⟩
      have K2 := Lib.hid k2
      clear k2
      go_wp2_with fail
      refine (HST.out _ K2.out).mono ?_
      rintro _ w3 ⟨⟨x3, y3, rfl, c3⟩, k3⟩
      obtain ⟨d1, d2, d3, d4, d5, rfl, rfl⟩ := c3.shapes
      simp only [List.length_nil] at c3 ⊢
      have K3 := Lib.hid (K2.out.trans k3)
      have C3 := Lib.hid c3
      clear k3 c3
      go_wp2_with fail
      go_loopw [8, 9] (fun tv iv wr => ∃ (i : Nat) (T : List Int) (c : Ch) (x y : Value), i ≤ N ∧ iv = .int .i64 (i : Int) ∧ OI 3 wr (w3.heap.size + 1) tv T ∧ T.length ≤ i ∧ Bx wr w3.heap.size 25 #[.int .i64 c.next, x, y] ∧ CZ (fun g => some g = tv.ownBlock ∨ g = w3.heap.size) wr x y c ∧ Onc S c T ∧ c.next ≤ 21 * (i : Int) ∧ Kp w wr) (fun _ iv _ => (N - (intOf iv).toNat))
      case atStart =>
        have k4 := (keep_two w3 25 3 #[.int .i64 0, .slice d1 d2 d3, .slice d4 0 d5] #[])
        have h5 := RI.lit (w3.alloc (.cells #[.int .i64 0, .slice d1 d2 d3, .slice d4 0 d5] 25)) 3 #[] [] 0 rfl (by omega) rfl
        rw [World.size_alloc] at h5
        refine ⟨0, [], ⟨0, S, []⟩, _, _, Nat.zero_le _, rfl, h5, Nat.le_refl _, k4.1, (C3.out.cz.kp k4.2.2).mono (fun g hg => ?_), HON.out, by show (0 : Int) ≤ _; omega, K3.out.trans k4.2.2⟩
        rcases hg with h | h
        · have h7 : g = w3.heap.size + 1 := Option.some.inj h
          omega
        · omega
      case round =>
        obtain ⟨i, T, c, x, y, hi, rfl, ho, hTi, hb, hc, hon, hnx, hkp⟩ := hrel
        have hok := hon.ok
        have hlo := hok.lo
        have hhi := hok.hi
        obtain ⟨e1, e2, e3, e4, e5, rfl, rfl⟩ := hc.shapes
        obtain ⟨t1, t2, rfl, _, _⟩ := ho.ri.shape
        obtain ⟨NX, hNX⟩ : ∃ n, c.next = n := ⟨_, rfl⟩
        obtain ⟨SL, hSL⟩ : ∃ n, c.spare.length = n := ⟨_, rfl⟩
        obtain ⟨TL, hTL⟩ : ∃ n, T.length = n := ⟨_, rfl⟩
        rw [hNX, hSL] at hb
        rw [hSL] at hc
        rw [hNX] at hlo hhi hnx
        rw [hTL] at ho hc hTi ⊢
        have KR := Lib.hid hkp
        have OR := Lib.hid ho
        have BR := Lib.hid hb
        have CR := Lib.hid hc
        have ONR := Lib.hid hon
        have HNX := Lib.hid hNX
        have HSL := Lib.hid hSL
        have HTL := Lib.hid hTL
        have HTI := Lib.hid hTi
        have HNB := Lib.hid hnx
        have HLH := Lib.hid (And.intro hlo hhi)
        clear hkp ho hb hc hNX hSL hTL hTi hnx
        by_cases hlt : i < N
        · have i1 : (i : Int) < (N : Int) := by omega
          have i2 : IntKind.i64.wrap ((i : Int) + 1) = (i : Int) + 1 := IntWalk.i64_in _ (by omega)
          have i5 : IntKind.i64.wrap (NX + 20) = NX + 20 := IntWalk.i64_in _ (by omega)
          obtain ⟨g1, o1, rfl, _, hcl⟩ := HI.out.at i hlt
          have hci := hcl i hlt
          obtain ⟨A, hA⟩ : ∃ z, l.getD i 0 = z := ⟨_, rfl⟩
          rw [hA] at hci
          have HCI := Lib.hid hci
          have HLT := Lib.hid hlt
          clear hcl hci hA hlt
          have HS11 : Hid (∀ W, Kp wr W → W.cell? ⟨g1, o1 + i, none⟩ = some (.int .i64 A) ∧ W.cell? ⟨w3.heap.size, 0, none⟩ = some (.int .i64 NX)) := fun W hW => ⟨hW.cell (KR.out.cell HCI.out), (BR.out.kp hW).cell 0⟩
          by_cases hbig : NX + 20 < A
          · go_wp2_with fail
            refine wp_region_held_drew (S := fun W => W.cell? ⟨g1, o1 + i, none⟩ = some (.int .i64 A) ∧ W.cell? ⟨w3.heap.size, 0, none⟩ = some (.int .i64 NX)) (by kernel_rfl) (HS11.out _ (Kp.refl _).drew) (fun hHeld => ?_)
            obtain ⟨wb, hwb⟩ : ∃ x, wr.drew = x := ⟨_, rfl⟩
            have KB : Hid (Kp wr wb) := by unfold Hid; rw [← hwb]; exact (Kp.refl _).drew
            rw [hwb] at hHeld ⊢
            clear hwb
            refine wpAnyH_take (i := 0) (oi := ⟨some 39, _, _, _, _, _⟩) (v := ?_) rfl (by kernel_rfl) (by kernel_rfl) (by kernel_rfl) (fun _ _ _ h => h) (Or.inl ⟨by kernel_rfl, ?_⟩) (by assumption) ?_
            rotate_left
            focus ((intro w hSw; (try dsimp only at hSw); go_simp); (try with_reducible rfl); done)
            simp only [Act.put, List.setIfInBounds_toArray, List.set_cons_zero, List.set_cons_succ]
            refine wpAnyH_take (i := 1) (oi := ⟨some 40, _, _, _, _, _⟩) (v := ?_) rfl (by kernel_rfl) (by kernel_rfl) (by kernel_rfl) (fun _ _ _ h => h) (Or.inl ⟨by kernel_rfl, ?_⟩) (by assumption) ?_
            rotate_left
            focus ((intro w hSw; (try dsimp only at hSw); go_simp); (try with_reducible rfl); done)
            simp only [Act.put, List.setIfInBounds_toArray, List.set_cons_zero, List.set_cons_succ]
            refine wpAnyH_take (i := 2) (oi := ⟨some 41, _, _, _, _, _⟩) (v := ?_) rfl (by kernel_rfl) (by kernel_rfl) (by kernel_rfl) (fun _ _ _ h => h) (Or.inl ⟨by kernel_rfl, ?_⟩) (by assumption) ?_
            rotate_left
            focus ((intro w hSw; (try dsimp only at hSw); go_simp); (try with_reducible rfl); done)
            simp only [Act.put, List.setIfInBounds_toArray, List.set_cons_zero, List.set_cons_succ]
            refine wpAnyH_take (i := 3) (oi := ⟨some 42, _, _, _, _, _⟩) (v := ?_) rfl (by kernel_rfl) (by kernel_rfl) (by kernel_rfl) (fun _ _ _ h => h) (Or.inl ⟨by kernel_rfl, ?_⟩) (by assumption) ?_
            rotate_left
            focus ((intro w hSw; (try dsimp only at hSw); go_simp); (try with_reducible rfl); done)
            simp only [Act.put, List.setIfInBounds_toArray, List.set_cons_zero, List.set_cons_succ]
            refine wpAnyH_take (i := 4) (oi := ⟨some 43, _, _, _, _, _⟩) (v := ?_) rfl (by kernel_rfl) (by kernel_rfl) (by kernel_rfl) (fun _ _ _ h => h) (Or.inl ⟨by kernel_rfl, ?_⟩) (by assumption) ?_
            rotate_left
            focus ((intro w hSw; (try dsimp only at hSw); go_simp); (try with_reducible rfl); done)
            simp only [Act.put, List.setIfInBounds_toArray, List.set_cons_zero, List.set_cons_succ]
            refine wpAnyH_take (i := 5) (oi := ⟨some 44, _, _, _, _, _⟩) (v := ?_) rfl (by kernel_rfl) (by kernel_rfl) (by kernel_rfl) (fun _ _ _ h => h) (Or.inl ⟨by kernel_rfl, ?_⟩) (by assumption) ?_
            rotate_left
            focus ((intro w hSw; (try dsimp only at hSw); go_simp); (try with_reducible rfl); done)
            simp only [Act.put, List.setIfInBounds_toArray, List.set_cons_zero, List.set_cons_succ]
            refine wpAnyH_take (i := 6) (oi := ⟨some 45, _, _, _, _, _⟩) (v := ?_) rfl (by kernel_rfl) (by kernel_rfl) (by kernel_rfl) (fun _ _ _ h => h) (Or.inl ⟨by kernel_rfl, ?_⟩) (by assumption) ?_
            rotate_left
            focus ((intro w hSw; (try dsimp only at hSw); go_simp); (try with_reducible rfl); done)
            simp only [Act.put, List.setIfInBounds_toArray, List.set_cons_zero, List.set_cons_succ]
            refine wpAnyH_take (i := 7) (oi := ⟨some 46, _, _, _, _, _⟩) (v := ?_) rfl (by kernel_rfl) (by kernel_rfl) (by kernel_rfl) (fun _ _ _ h => h) (Or.inl ⟨by kernel_rfl, ?_⟩) (by assumption) ?_
            rotate_left
            focus ((intro w hSw; (try dsimp only at hSw); go_simp); (try with_reducible rfl); done)
            simp only [Act.put, List.setIfInBounds_toArray, List.set_cons_zero, List.set_cons_succ]
            refine wpAnyH_done (by kernel_rfl) ?_ _
            clear hHeld
            go_wp2_with fail
            go_ret
            exact ⟨rfl, KR.out.trans KB.out⟩
          go_wp2_with fail
          refine wp_region_held_drew (S := fun W => W.cell? ⟨g1, o1 + i, none⟩ = some (.int .i64 A) ∧ W.cell? ⟨w3.heap.size, 0, none⟩ = some (.int .i64 NX)) (by kernel_rfl) (HS11.out _ (Kp.refl _).drew) (fun hHeld => ?_)
          obtain ⟨wb, hwb⟩ : ∃ x, wr.drew = x := ⟨_, rfl⟩
          have KB : Hid (Kp wr wb) := by unfold Hid; rw [← hwb]; exact (Kp.refl _).drew
          rw [hwb] at hHeld ⊢
          clear hwb
          refine wpAnyH_take (i := 0) (oi := ⟨some 39, _, _, _, _, _⟩) (v := ?_) rfl (by kernel_rfl) (by kernel_rfl) (by kernel_rfl) (fun _ _ _ h => h) (Or.inl ⟨by kernel_rfl, ?_⟩) (by assumption) ?_
          rotate_left
          focus ((intro w hSw; (try dsimp only at hSw); go_simp); (try with_reducible rfl); done)
          simp only [Act.put, List.setIfInBounds_toArray, List.set_cons_zero, List.set_cons_succ]
          refine wpAnyH_take (i := 1) (oi := ⟨some 40, _, _, _, _, _⟩) (v := ?_) rfl (by kernel_rfl) (by kernel_rfl) (by kernel_rfl) (fun _ _ _ h => h) (Or.inl ⟨by kernel_rfl, ?_⟩) (by assumption) ?_
          rotate_left
          focus ((intro w hSw; (try dsimp only at hSw); go_simp); (try with_reducible rfl); done)
          simp only [Act.put, List.setIfInBounds_toArray, List.set_cons_zero, List.set_cons_succ]
          refine wpAnyH_take (i := 2) (oi := ⟨some 41, _, _, _, _, _⟩) (v := ?_) rfl (by kernel_rfl) (by kernel_rfl) (by kernel_rfl) (fun _ _ _ h => h) (Or.inl ⟨by kernel_rfl, ?_⟩) (by assumption) ?_
          rotate_left
          focus ((intro w hSw; (try dsimp only at hSw); go_simp); (try with_reducible rfl); done)
          simp only [Act.put, List.setIfInBounds_toArray, List.set_cons_zero, List.set_cons_succ]
          refine wpAnyH_take (i := 3) (oi := ⟨some 42, _, _, _, _, _⟩) (v := ?_) rfl (by kernel_rfl) (by kernel_rfl) (by kernel_rfl) (fun _ _ _ h => h) (Or.inl ⟨by kernel_rfl, ?_⟩) (by assumption) ?_
          rotate_left
          focus ((intro w hSw; (try dsimp only at hSw); go_simp); (try with_reducible rfl); done)
          simp only [Act.put, List.setIfInBounds_toArray, List.set_cons_zero, List.set_cons_succ]
          refine wpAnyH_take (i := 4) (oi := ⟨some 43, _, _, _, _, _⟩) (v := ?_) rfl (by kernel_rfl) (by kernel_rfl) (by kernel_rfl) (fun _ _ _ h => h) (Or.inl ⟨by kernel_rfl, ?_⟩) (by assumption) ?_
          rotate_left
          focus ((intro w hSw; (try dsimp only at hSw); go_simp); (try with_reducible rfl); done)
          simp only [Act.put, List.setIfInBounds_toArray, List.set_cons_zero, List.set_cons_succ]
          refine wpAnyH_take (i := 5) (oi := ⟨some 44, _, _, _, _, _⟩) (v := ?_) rfl (by kernel_rfl) (by kernel_rfl) (by kernel_rfl) (fun _ _ _ h => h) (Or.inl ⟨by kernel_rfl, ?_⟩) (by assumption) ?_
          rotate_left
          focus ((intro w hSw; (try dsimp only at hSw); go_simp); (try with_reducible rfl); done)
          simp only [Act.put, List.setIfInBounds_toArray, List.set_cons_zero, List.set_cons_succ]
          refine wpAnyH_take (i := 6) (oi := ⟨some 45, _, _, _, _, _⟩) (v := ?_) rfl (by kernel_rfl) (by kernel_rfl) (by kernel_rfl) (fun _ _ _ h => h) (Or.inl ⟨by kernel_rfl, ?_⟩) (by assumption) ?_
          rotate_left
          focus ((intro w hSw; (try dsimp only at hSw); go_simp); (try with_reducible rfl); done)
          simp only [Act.put, List.setIfInBounds_toArray, List.set_cons_zero, List.set_cons_succ]
          refine wpAnyH_take (i := 7) (oi := ⟨some 46, _, _, _, _, _⟩) (v := ?_) rfl (by kernel_rfl) (by kernel_rfl) (by kernel_rfl) (fun _ _ _ h => h) (Or.inl ⟨by kernel_rfl, ?_⟩) (by assumption) ?_
          rotate_left
          focus ((intro w hSw; (try dsimp only at hSw); go_simp); (try with_reducible rfl); done)
          simp only [Act.put, List.setIfInBounds_toArray, List.set_cons_zero, List.set_cons_succ]
          refine wpAnyH_done (by kernel_rfl) ?_ _
          clear hHeld
          have KW := Lib.hid (KR.out.trans KB.out)
          have OB := Lib.hid (OR.out.kp KB.out)
          have BB := Lib.hid (BR.out.kp KB.out)
          have CB := Lib.hid (CR.out.kp KB.out)
          have HS13 : Hid (∀ W, Kp wb W → W.cell? ⟨w3.heap.size, 0, none⟩ = some (.int .i64 NX) ∧ W.cell? ⟨w3.heap.size, 1, none⟩ = some (.slice e1 e2 e3) ∧ W.cell? ⟨w3.heap.size, 2, none⟩ = some (.slice e4 SL e5) ∧ W.cell? ⟨g1, o1 + i, none⟩ = some (.int .i64 A)) := fun W hW => ⟨(BB.out.kp hW).cell 0, (BB.out.kp hW).cell 1, (BB.out.kp hW).cell 2, hW.cell (KW.out.cell HCI.out)⟩
          have HTK := Lib.hid (fun W (k : Kp wb W) => ratchTake_z _ _ c A (fun g => some g = (Value.slice t1 TL t2).ownBlock ∨ g = w3.heap.size) W (CB.out.sec.1.kp k) (CB.out.spare.step (Step.of_kp k)) (fun g hg => by
            have hs := k.size
            rcases hg with h | h
            · have := (OB.out.lt g h.symm).2
              omega
            · have := (Array.getElem?_eq_some_iff.1 BB.out).1
              omega) hok)
          unfold TakenZ at HTK
          have hdok := takC_ok hok A
          have hbad := fun h => tak_bad (c := c) (a := A) h
          have htook := fun h => hon.took (a := A) h
          have hhad := fun h => hon.had (a := A) h
          have hnext := hon.next (a := A) (m := 20) (by have := HNX.out; omega) (by omega)
          have hzero := fun h => takE_zero (c := c) (a := A) h
          obtain ⟨E, hE⟩ : ∃ z, takE c A = z := ⟨_, rfl⟩
          obtain ⟨D, hD⟩ : ∃ z, takC c A = z := ⟨_, rfl⟩
          obtain ⟨K, hK⟩ : ∃ z, takL c A = z := ⟨_, rfl⟩
          rw [hE] at HTK hbad htook hhad hzero
          rw [hD] at HTK hdok hbad htook hnext
          rw [hK] at HTK hbad htook
          obtain ⟨DX, hDX⟩ : ∃ z, D.next = z := ⟨_, rfl⟩
          obtain ⟨KX, hKX⟩ : ∃ z, K.pos = z := ⟨_, rfl⟩
          rw [hDX, hKX, HNX.out] at HTK
          rw [hDX, HNX.out] at hnext
          have HKEY : Hid (∀ z ∈ D.spare, z.key.length ≠ 0) := fun z hz => by obtain ⟨j, hj, rfl⟩ := List.mem_iff_getElem.1 hz; have h1 := (hdok.each j hj).2.2.1; have h2 := lkAt_of hj; rw [List.getElem?_eq_getElem hj, Option.some.injEq] at h2; rw [h2, h1]; decide
          have HDOK := Lib.hid hdok
          have HBAD := Lib.hid hbad
          have HTOOK := Lib.hid htook
          have HHAD := Lib.hid hhad
          have HNEXT := Lib.hid hnext
          have HZERO := Lib.hid hzero
          have HDX := Lib.hid hDX
          have HKX := Lib.hid hKX
          have HBG : Hid (A ≤ NX + 20) := by unfold Hid; omega
          have HON2 := Lib.hid hon
          clear hdok hbad htook hhad hnext hzero hE hD hK hDX hKX hon hok hlo hhi
          go_wp2_with fail
          clear hbig
          refine later7 (Q := ?Q1) (F := fun g g1 x y p q W => Bx W g 25 #[.int .i64 0, .slice none 0 0, .slice none 0 0] ∧ Bx W g1 43 #[.int .i64 0, .slice none 0 0, .slice none 0 0] ∧ g ≠ g1 ∧ wb.heap.size ≤ g ∧ wb.heap.size ≤ g1 ∧ Kp wb W ∧ CZ (fun g => some g = (Value.slice t1 TL t2).ownBlock ∨ g = w3.heap.size) W x y D ∧ LIn W p q K) ?ways1 ?rest1
          case ways1 =>
            intro key
            refine wp_region_held_drew (S := fun W => W.cell? ⟨w3.heap.size, 0, none⟩ = some (.int .i64 NX) ∧ W.cell? ⟨w3.heap.size, 1, none⟩ = some (.slice e1 e2 e3) ∧ W.cell? ⟨w3.heap.size, 2, none⟩ = some (.slice e4 SL e5) ∧ W.cell? ⟨g1, o1 + i, none⟩ = some (.int .i64 A)) (by kernel_rfl) (HS13.out _ (Kp.refl _).drew) (fun hHeld => ?_)
            obtain ⟨v0, hv0⟩ : ∃ x, wb.drew = x := ⟨_, rfl⟩
            have Kv0 : Hid (Kp wb v0) := by unfold Hid; rw [← hv0]; exact (Kp.refl _).drew
            rw [hv0] at hHeld ⊢
            clear hv0
            refine wpAnyH_take (i := 0) (oi := ⟨some 49, _, _, _, _, _⟩) (v := ?_) rfl (by kernel_rfl) (by kernel_rfl) (by kernel_rfl) (fun _ _ _ h => h) (Or.inl ⟨by kernel_rfl, ?_⟩) (by assumption) ?_
            rotate_left
            focus ((intro w hSw; (try dsimp only at hSw); go_simp); (try with_reducible rfl); done)
            simp only [Act.put, List.setIfInBounds_toArray, List.set_cons_zero, List.set_cons_succ]
            refine wpAnyH_take (i := 1) (oi := ⟨some 50, _, _, _, _, _⟩) (v := ?_) rfl (by kernel_rfl) (by kernel_rfl) (by kernel_rfl) (fun _ _ _ h => h) (Or.inl ⟨by kernel_rfl, ?_⟩) (by assumption) ?_
            rotate_left
            focus ((intro w hSw; (try dsimp only at hSw); go_simp); (try with_reducible rfl); done)
            simp only [Act.put, List.setIfInBounds_toArray, List.set_cons_zero, List.set_cons_succ]
            refine wpAnyH_take (i := 2) (oi := ⟨some 51, _, _, _, _, _⟩) (v := ?_) rfl (by kernel_rfl) (by kernel_rfl) (by kernel_rfl) (fun _ _ _ h => h) (Or.inl ⟨by kernel_rfl, ?_⟩) (by assumption) ?_
            rotate_left
            focus ((intro w hSw; (try dsimp only at hSw); go_simp); (try with_reducible rfl); done)
            simp only [Act.put, List.setIfInBounds_toArray, List.set_cons_zero, List.set_cons_succ]
            refine wpAnyH_take (i := 3) (oi := ⟨some 52, _, _, _, _, _⟩) (v := ?_) rfl (by kernel_rfl) (by kernel_rfl) (by kernel_rfl) (fun _ _ _ h => h) (Or.inl ⟨by kernel_rfl, ?_⟩) (by assumption) ?_
            rotate_left
            focus ((intro w hSw; (try dsimp only at hSw); go_simp); (try with_reducible rfl); done)
            simp only [Act.put, List.setIfInBounds_toArray, List.set_cons_zero, List.set_cons_succ]
            refine wpAnyH_take (i := 4) (oi := ⟨some 53, _, _, _, _, _⟩) (v := ?_) rfl (by kernel_rfl) (by kernel_rfl) (by kernel_rfl) (fun _ _ _ h => h) (Or.inl ⟨by kernel_rfl, ?_⟩) (by assumption) ?_
            rotate_left
            focus ((intro w hSw; (try dsimp only at hSw); go_simp); (try with_reducible rfl); done)
            simp only [Act.put, List.setIfInBounds_toArray, List.set_cons_zero, List.set_cons_succ]
            refine wpAnyH_ready (rs := [5, 10, 11]) (by kernel_rfl) (by simp) ?_
            refine AllReadyH.cons rfl (fun K hK => ?_) (AllReadyH.cons rfl (fun K hK => ?_) (AllReadyH.cons rfl (fun K hK => ?_) (AllReadyH.nil)))
            · go_simp
              refine (HTK.out _ Kv0.out).mono ?_
              rintro _ v1 ⟨x9, y9, p9, q9, rfl, ⟨cs9, cp9⟩, l9, k9⟩
              have c9 := CZ.mk cs9 cp9
              clear cs9 cp9
              have Kv1 := Lib.hid (Kv0.out.trans k9)
              have Cv1 := Lib.hid c9
              have Lv1 := Lib.hid l9
              clear c9 l9 k9
              refine hK.out _ _ (HS13.out _ (Kv1.out)) (fun hHeld => ?_)
              clear hK K
              try simp only [Act.put, List.setIfInBounds_toArray, List.set_cons_zero, List.set_cons_succ]
              refine wpAnyH_take (i := 6) (oi := ⟨some 48, _, _, _, _, _⟩) (v := ?_) rfl (by kernel_rfl) (by kernel_rfl) (by kernel_rfl) (fun _ _ _ h => h) (Or.inl ⟨by kernel_rfl, ?_⟩) (by assumption) ?_
              rotate_left
              focus ((intro w hSw; (try dsimp only at hSw); go_simp); (try with_reducible rfl); done)
              simp only [Act.put, List.setIfInBounds_toArray, List.set_cons_zero, List.set_cons_succ]
              refine wpAnyH_take (i := 7) (oi := ⟨some 55, _, _, _, _, _⟩) (v := ?_) rfl (by kernel_rfl) (by kernel_rfl) (by kernel_rfl) (fun _ _ _ h => h) (Or.inl ⟨by kernel_rfl, ?_⟩) (by assumption) ?_
              rotate_left
              focus ((intro w hSw; (try dsimp only at hSw); go_simp); (try with_reducible rfl); done)
              simp only [Act.put, List.setIfInBounds_toArray, List.set_cons_zero, List.set_cons_succ]
              refine wpAnyH_take (i := 8) (oi := ⟨some 56, _, _, _, _, _⟩) (v := ?_) rfl (by kernel_rfl) (by kernel_rfl) (by kernel_rfl) (fun _ _ _ h => h) (Or.inl ⟨by kernel_rfl, ?_⟩) (by assumption) ?_
              rotate_left
              focus ((intro w hSw; (try dsimp only at hSw); go_simp); (try with_reducible rfl); done)
              simp only [Act.put, List.setIfInBounds_toArray, List.set_cons_zero, List.set_cons_succ]
              refine wpAnyH_take (i := 9) (oi := ⟨some 57, _, _, _, _, _⟩) (v := ?_) rfl (by kernel_rfl) (by kernel_rfl) (by kernel_rfl) (fun _ _ _ h => h) (Or.inl ⟨by kernel_rfl, ?_⟩) (by assumption) ?_
              rotate_left
              focus ((intro w hSw; (try dsimp only at hSw); go_simp); (try with_reducible rfl); done)
              simp only [Act.put, List.setIfInBounds_toArray, List.set_cons_zero, List.set_cons_succ]
              refine wpAnyH_ready (rs := [10, 11]) (by kernel_rfl) (by simp) ?_
              refine AllReadyH.cons rfl (fun K hK => ?_) (AllReadyH.cons rfl (fun K hK => ?_) (AllReadyH.nil))
              · go_simp
                refine hK.out _ _ (HS13.out _ (Kv1.out.alloc _)) (fun hHeld => ?_)
                clear hK K
                try simp only [Act.put, List.setIfInBounds_toArray, List.set_cons_zero, List.set_cons_succ]
                obtain ⟨v2, hv2⟩ : ∃ x, v1.alloc (.cells #[.int .i64 0, .slice none 0 0, .slice none 0 0] 25) = x := ⟨_, rfl⟩
                have k9 : Kp v1 v2 := by rw [← hv2]; exact (Kp.refl _).alloc _
                have Bv2_10 : Hid (Bx v2 v1.heap.size 25 #[.int .i64 0, .slice none 0 0, .slice none 0 0]) := by unfold Hid; rw [← hv2]; exact Bx.new v1 _ _
                have Kv2 := Lib.hid (Kv1.out.trans k9)
                have Cv2 := Lib.hid (Cv1.out.kp k9)
                have Lv2 := Lib.hid (Lv1.out.kp k9)
                rw [hv2] at hHeld ⊢
                clear k9 hv2
                refine wpAnyH_ready (rs := [11]) (by kernel_rfl) (by simp) ?_
                refine AllReadyH.cons rfl (fun K hK => ?_) (AllReadyH.nil)
                · have Nv3_10 := Lib.hid (Array.getElem?_eq_some_iff.1 Bv2_10.out).1
                  go_simp
                  refine hK.out _ _ (HS13.out _ (Kv2.out.alloc _)) (fun hHeld => ?_)
                  clear hK K
                  try simp only [Act.put, List.setIfInBounds_toArray, List.set_cons_zero, List.set_cons_succ]
                  obtain ⟨v3, hv3⟩ : ∃ x, v2.alloc (.cells #[.int .i64 0, .slice none 0 0, .slice none 0 0] 43) = x := ⟨_, rfl⟩
                  have k9 : Kp v2 v3 := by rw [← hv3]; exact (Kp.refl _).alloc _
                  have Bv3_11 : Hid (Bx v3 v2.heap.size 43 #[.int .i64 0, .slice none 0 0, .slice none 0 0]) := by unfold Hid; rw [← hv3]; exact Bx.new v2 _ _
                  have Bv3_10 := Lib.hid (Bv2_10.out.kp k9)
                  have Kv3 := Lib.hid (Kv2.out.trans k9)
                  have Cv3 := Lib.hid (Cv2.out.kp k9)
                  have Lv3 := Lib.hid (Lv2.out.kp k9)
                  rw [hv3] at hHeld ⊢
                  clear k9 hv3
                  have hF := And.intro Bv3_10.out (And.intro Bv3_11.out (And.intro (show v1.heap.size ≠ v2.heap.size by have h5 := Nv3_10.out; omega) (And.intro (Kv1.out.size) (And.intro (Kv2.out.size) (And.intro Kv3.out (And.intro Cv3.out Lv3.out))))))
                  clear hHeld
                  obtain ⟨G1, hG1⟩ : ∃ x, v1.heap.size = x := ⟨_, rfl⟩
                  obtain ⟨G2, hG2⟩ : ∃ x, v2.heap.size = x := ⟨_, rfl⟩
                  rw [hG1, hG2] at hF ⊢
                  exact key.out _ _ _ _ _ _ _ hF
              · go_simp
                refine hK.out _ _ (HS13.out _ (Kv1.out.alloc _)) (fun hHeld => ?_)
                clear hK K
                try simp only [Act.put, List.setIfInBounds_toArray, List.set_cons_zero, List.set_cons_succ]
                obtain ⟨v4, hv4⟩ : ∃ x, v1.alloc (.cells #[.int .i64 0, .slice none 0 0, .slice none 0 0] 43) = x := ⟨_, rfl⟩
                have k9 : Kp v1 v4 := by rw [← hv4]; exact (Kp.refl _).alloc _
                have Bv4_11 : Hid (Bx v4 v1.heap.size 43 #[.int .i64 0, .slice none 0 0, .slice none 0 0]) := by unfold Hid; rw [← hv4]; exact Bx.new v1 _ _
                have Kv4 := Lib.hid (Kv1.out.trans k9)
                have Cv4 := Lib.hid (Cv1.out.kp k9)
                have Lv4 := Lib.hid (Lv1.out.kp k9)
                rw [hv4] at hHeld ⊢
                clear k9 hv4
                refine wpAnyH_ready (rs := [10]) (by kernel_rfl) (by simp) ?_
                refine AllReadyH.cons rfl (fun K hK => ?_) (AllReadyH.nil)
                · have Nv5_11 := Lib.hid (Array.getElem?_eq_some_iff.1 Bv4_11.out).1
                  go_simp
                  refine hK.out _ _ (HS13.out _ (Kv4.out.alloc _)) (fun hHeld => ?_)
                  clear hK K
                  try simp only [Act.put, List.setIfInBounds_toArray, List.set_cons_zero, List.set_cons_succ]
                  obtain ⟨v5, hv5⟩ : ∃ x, v4.alloc (.cells #[.int .i64 0, .slice none 0 0, .slice none 0 0] 25) = x := ⟨_, rfl⟩
                  have k9 : Kp v4 v5 := by rw [← hv5]; exact (Kp.refl _).alloc _
                  have Bv5_10 : Hid (Bx v5 v4.heap.size 25 #[.int .i64 0, .slice none 0 0, .slice none 0 0]) := by unfold Hid; rw [← hv5]; exact Bx.new v4 _ _
                  have Bv5_11 := Lib.hid (Bv4_11.out.kp k9)
                  have Kv5 := Lib.hid (Kv4.out.trans k9)
                  have Cv5 := Lib.hid (Cv4.out.kp k9)
                  have Lv5 := Lib.hid (Lv4.out.kp k9)
                  rw [hv5] at hHeld ⊢
                  clear k9 hv5
                  have hF := And.intro Bv5_10.out (And.intro Bv5_11.out (And.intro (show v4.heap.size ≠ v1.heap.size by have h5 := Nv5_11.out; omega) (And.intro (Kv4.out.size) (And.intro (Kv1.out.size) (And.intro Kv5.out (And.intro Cv5.out Lv5.out))))))
                  clear hHeld
                  obtain ⟨G1, hG1⟩ : ∃ x, v4.heap.size = x := ⟨_, rfl⟩
                  obtain ⟨G2, hG2⟩ : ∃ x, v1.heap.size = x := ⟨_, rfl⟩
                  rw [hG1, hG2] at hF ⊢
                  exact key.out _ _ _ _ _ _ _ hF
            · go_simp
              refine hK.out _ _ (HS13.out _ (Kv0.out.alloc _)) (fun hHeld => ?_)
              clear hK K
              try simp only [Act.put, List.setIfInBounds_toArray, List.set_cons_zero, List.set_cons_succ]
              obtain ⟨v6, hv6⟩ : ∃ x, v0.alloc (.cells #[.int .i64 0, .slice none 0 0, .slice none 0 0] 25) = x := ⟨_, rfl⟩
              have k9 : Kp v0 v6 := by rw [← hv6]; exact (Kp.refl _).alloc _
              have Bv6_10 : Hid (Bx v6 v0.heap.size 25 #[.int .i64 0, .slice none 0 0, .slice none 0 0]) := by unfold Hid; rw [← hv6]; exact Bx.new v0 _ _
              have Kv6 := Lib.hid (Kv0.out.trans k9)
              rw [hv6] at hHeld ⊢
              clear k9 hv6
              refine wpAnyH_ready (rs := [5, 11]) (by kernel_rfl) (by simp) ?_
              refine AllReadyH.cons rfl (fun K hK => ?_) (AllReadyH.cons rfl (fun K hK => ?_) (AllReadyH.nil))
              · go_simp
                refine (HTK.out _ Kv6.out).mono ?_
                rintro _ v7 ⟨x9, y9, p9, q9, rfl, ⟨cs9, cp9⟩, l9, k9⟩
                have c9 := CZ.mk cs9 cp9
                clear cs9 cp9
                have Kv7 := Lib.hid (Kv6.out.trans k9)
                have Bv7_10 := Lib.hid (Bv6_10.out.kp k9)
                have Cv7 := Lib.hid c9
                have Lv7 := Lib.hid l9
                clear c9 l9 k9
                refine hK.out _ _ (HS13.out _ (Kv7.out)) (fun hHeld => ?_)
                clear hK K
                try simp only [Act.put, List.setIfInBounds_toArray, List.set_cons_zero, List.set_cons_succ]
                refine wpAnyH_take (i := 6) (oi := ⟨some 48, _, _, _, _, _⟩) (v := ?_) rfl (by kernel_rfl) (by kernel_rfl) (by kernel_rfl) (fun _ _ _ h => h) (Or.inl ⟨by kernel_rfl, ?_⟩) (by assumption) ?_
                rotate_left
                focus ((intro w hSw; (try dsimp only at hSw); go_simp); (try with_reducible rfl); done)
                simp only [Act.put, List.setIfInBounds_toArray, List.set_cons_zero, List.set_cons_succ]
                refine wpAnyH_take (i := 7) (oi := ⟨some 55, _, _, _, _, _⟩) (v := ?_) rfl (by kernel_rfl) (by kernel_rfl) (by kernel_rfl) (fun _ _ _ h => h) (Or.inl ⟨by kernel_rfl, ?_⟩) (by assumption) ?_
                rotate_left
                focus ((intro w hSw; (try dsimp only at hSw); go_simp); (try with_reducible rfl); done)
                simp only [Act.put, List.setIfInBounds_toArray, List.set_cons_zero, List.set_cons_succ]
                refine wpAnyH_take (i := 8) (oi := ⟨some 56, _, _, _, _, _⟩) (v := ?_) rfl (by kernel_rfl) (by kernel_rfl) (by kernel_rfl) (fun _ _ _ h => h) (Or.inl ⟨by kernel_rfl, ?_⟩) (by assumption) ?_
                rotate_left
                focus ((intro w hSw; (try dsimp only at hSw); go_simp); (try with_reducible rfl); done)
                simp only [Act.put, List.setIfInBounds_toArray, List.set_cons_zero, List.set_cons_succ]
                refine wpAnyH_take (i := 9) (oi := ⟨some 57, _, _, _, _, _⟩) (v := ?_) rfl (by kernel_rfl) (by kernel_rfl) (by kernel_rfl) (fun _ _ _ h => h) (Or.inl ⟨by kernel_rfl, ?_⟩) (by assumption) ?_
                rotate_left
                focus ((intro w hSw; (try dsimp only at hSw); go_simp); (try with_reducible rfl); done)
                simp only [Act.put, List.setIfInBounds_toArray, List.set_cons_zero, List.set_cons_succ]
                refine wpAnyH_ready (rs := [11]) (by kernel_rfl) (by simp) ?_
                refine AllReadyH.cons rfl (fun K hK => ?_) (AllReadyH.nil)
                · have Nv8_10 := Lib.hid (Array.getElem?_eq_some_iff.1 Bv7_10.out).1
                  go_simp
                  refine hK.out _ _ (HS13.out _ (Kv7.out.alloc _)) (fun hHeld => ?_)
                  clear hK K
                  try simp only [Act.put, List.setIfInBounds_toArray, List.set_cons_zero, List.set_cons_succ]
                  obtain ⟨v8, hv8⟩ : ∃ x, v7.alloc (.cells #[.int .i64 0, .slice none 0 0, .slice none 0 0] 43) = x := ⟨_, rfl⟩
                  have k9 : Kp v7 v8 := by rw [← hv8]; exact (Kp.refl _).alloc _
                  have Bv8_11 : Hid (Bx v8 v7.heap.size 43 #[.int .i64 0, .slice none 0 0, .slice none 0 0]) := by unfold Hid; rw [← hv8]; exact Bx.new v7 _ _
                  have Bv8_10 := Lib.hid (Bv7_10.out.kp k9)
                  have Kv8 := Lib.hid (Kv7.out.trans k9)
                  have Cv8 := Lib.hid (Cv7.out.kp k9)
                  have Lv8 := Lib.hid (Lv7.out.kp k9)
                  rw [hv8] at hHeld ⊢
                  clear k9 hv8
                  have hF := And.intro Bv8_10.out (And.intro Bv8_11.out (And.intro (show v0.heap.size ≠ v7.heap.size by have h5 := Nv8_10.out; omega) (And.intro (Kv0.out.size) (And.intro (Kv7.out.size) (And.intro Kv8.out (And.intro Cv8.out Lv8.out))))))
                  clear hHeld
                  obtain ⟨G1, hG1⟩ : ∃ x, v0.heap.size = x := ⟨_, rfl⟩
                  obtain ⟨G2, hG2⟩ : ∃ x, v7.heap.size = x := ⟨_, rfl⟩
                  rw [hG1, hG2] at hF ⊢
                  exact key.out _ _ _ _ _ _ _ hF
              · have Nv9_10 := Lib.hid (Array.getElem?_eq_some_iff.1 Bv6_10.out).1
                go_simp
                refine hK.out _ _ (HS13.out _ (Kv6.out.alloc _)) (fun hHeld => ?_)
                clear hK K
                try simp only [Act.put, List.setIfInBounds_toArray, List.set_cons_zero, List.set_cons_succ]
                obtain ⟨v9, hv9⟩ : ∃ x, v6.alloc (.cells #[.int .i64 0, .slice none 0 0, .slice none 0 0] 43) = x := ⟨_, rfl⟩
                have k9 : Kp v6 v9 := by rw [← hv9]; exact (Kp.refl _).alloc _
                have Bv9_11 : Hid (Bx v9 v6.heap.size 43 #[.int .i64 0, .slice none 0 0, .slice none 0 0]) := by unfold Hid; rw [← hv9]; exact Bx.new v6 _ _
                have Bv9_10 := Lib.hid (Bv6_10.out.kp k9)
                have Kv9 := Lib.hid (Kv6.out.trans k9)
                rw [hv9] at hHeld ⊢
                clear k9 hv9
                refine wpAnyH_ready (rs := [5]) (by kernel_rfl) (by simp) ?_
                refine AllReadyH.cons rfl (fun K hK => ?_) (AllReadyH.nil)
                · go_simp
                  refine (HTK.out _ Kv9.out).mono ?_
                  rintro _ v10 ⟨x9, y9, p9, q9, rfl, ⟨cs9, cp9⟩, l9, k9⟩
                  have c9 := CZ.mk cs9 cp9
                  clear cs9 cp9
                  have Kv10 := Lib.hid (Kv9.out.trans k9)
                  have Bv10_10 := Lib.hid (Bv9_10.out.kp k9)
                  have Bv10_11 := Lib.hid (Bv9_11.out.kp k9)
                  have Cv10 := Lib.hid c9
                  have Lv10 := Lib.hid l9
                  clear c9 l9 k9
                  refine hK.out _ _ (HS13.out _ (Kv10.out)) (fun hHeld => ?_)
                  clear hK K
                  try simp only [Act.put, List.setIfInBounds_toArray, List.set_cons_zero, List.set_cons_succ]
                  refine wpAnyH_take (i := 6) (oi := ⟨some 48, _, _, _, _, _⟩) (v := ?_) rfl (by kernel_rfl) (by kernel_rfl) (by kernel_rfl) (fun _ _ _ h => h) (Or.inl ⟨by kernel_rfl, ?_⟩) (by assumption) ?_
                  rotate_left
                  focus ((intro w hSw; (try dsimp only at hSw); go_simp); (try with_reducible rfl); done)
                  simp only [Act.put, List.setIfInBounds_toArray, List.set_cons_zero, List.set_cons_succ]
                  refine wpAnyH_take (i := 7) (oi := ⟨some 55, _, _, _, _, _⟩) (v := ?_) rfl (by kernel_rfl) (by kernel_rfl) (by kernel_rfl) (fun _ _ _ h => h) (Or.inl ⟨by kernel_rfl, ?_⟩) (by assumption) ?_
                  rotate_left
                  focus ((intro w hSw; (try dsimp only at hSw); go_simp); (try with_reducible rfl); done)
                  simp only [Act.put, List.setIfInBounds_toArray, List.set_cons_zero, List.set_cons_succ]
                  refine wpAnyH_take (i := 8) (oi := ⟨some 56, _, _, _, _, _⟩) (v := ?_) rfl (by kernel_rfl) (by kernel_rfl) (by kernel_rfl) (fun _ _ _ h => h) (Or.inl ⟨by kernel_rfl, ?_⟩) (by assumption) ?_
                  rotate_left
                  focus ((intro w hSw; (try dsimp only at hSw); go_simp); (try with_reducible rfl); done)
                  simp only [Act.put, List.setIfInBounds_toArray, List.set_cons_zero, List.set_cons_succ]
                  refine wpAnyH_take (i := 9) (oi := ⟨some 57, _, _, _, _, _⟩) (v := ?_) rfl (by kernel_rfl) (by kernel_rfl) (by kernel_rfl) (fun _ _ _ h => h) (Or.inl ⟨by kernel_rfl, ?_⟩) (by assumption) ?_
                  rotate_left
                  focus ((intro w hSw; (try dsimp only at hSw); go_simp); (try with_reducible rfl); done)
                  simp only [Act.put, List.setIfInBounds_toArray, List.set_cons_zero, List.set_cons_succ]
                  have hF := And.intro Bv10_10.out (And.intro Bv10_11.out (And.intro (show v0.heap.size ≠ v6.heap.size by have h5 := Nv9_10.out; omega) (And.intro (Kv0.out.size) (And.intro (Kv6.out.size) (And.intro Kv10.out (And.intro Cv10.out Lv10.out))))))
                  clear hHeld
                  obtain ⟨G1, hG1⟩ : ∃ x, v0.heap.size = x := ⟨_, rfl⟩
                  obtain ⟨G2, hG2⟩ : ∃ x, v6.heap.size = x := ⟨_, rfl⟩
                  rw [hG1, hG2] at hF ⊢
                  exact key.out _ _ _ _ _ _ _ hF
            · go_simp
              refine hK.out _ _ (HS13.out _ (Kv0.out.alloc _)) (fun hHeld => ?_)
              clear hK K
              try simp only [Act.put, List.setIfInBounds_toArray, List.set_cons_zero, List.set_cons_succ]
              obtain ⟨v11, hv11⟩ : ∃ x, v0.alloc (.cells #[.int .i64 0, .slice none 0 0, .slice none 0 0] 43) = x := ⟨_, rfl⟩
              have k9 : Kp v0 v11 := by rw [← hv11]; exact (Kp.refl _).alloc _
              have Bv11_11 : Hid (Bx v11 v0.heap.size 43 #[.int .i64 0, .slice none 0 0, .slice none 0 0]) := by unfold Hid; rw [← hv11]; exact Bx.new v0 _ _
              have Kv11 := Lib.hid (Kv0.out.trans k9)
              rw [hv11] at hHeld ⊢
              clear k9 hv11
              refine wpAnyH_ready (rs := [5, 10]) (by kernel_rfl) (by simp) ?_
              refine AllReadyH.cons rfl (fun K hK => ?_) (AllReadyH.cons rfl (fun K hK => ?_) (AllReadyH.nil))
              · go_simp
                refine (HTK.out _ Kv11.out).mono ?_
                rintro _ v12 ⟨x9, y9, p9, q9, rfl, ⟨cs9, cp9⟩, l9, k9⟩
                have c9 := CZ.mk cs9 cp9
                clear cs9 cp9
                have Kv12 := Lib.hid (Kv11.out.trans k9)
                have Bv12_11 := Lib.hid (Bv11_11.out.kp k9)
                have Cv12 := Lib.hid c9
                have Lv12 := Lib.hid l9
                clear c9 l9 k9
                refine hK.out _ _ (HS13.out _ (Kv12.out)) (fun hHeld => ?_)
                clear hK K
                try simp only [Act.put, List.setIfInBounds_toArray, List.set_cons_zero, List.set_cons_succ]
                refine wpAnyH_take (i := 6) (oi := ⟨some 48, _, _, _, _, _⟩) (v := ?_) rfl (by kernel_rfl) (by kernel_rfl) (by kernel_rfl) (fun _ _ _ h => h) (Or.inl ⟨by kernel_rfl, ?_⟩) (by assumption) ?_
                rotate_left
                focus ((intro w hSw; (try dsimp only at hSw); go_simp); (try with_reducible rfl); done)
                simp only [Act.put, List.setIfInBounds_toArray, List.set_cons_zero, List.set_cons_succ]
                refine wpAnyH_take (i := 7) (oi := ⟨some 55, _, _, _, _, _⟩) (v := ?_) rfl (by kernel_rfl) (by kernel_rfl) (by kernel_rfl) (fun _ _ _ h => h) (Or.inl ⟨by kernel_rfl, ?_⟩) (by assumption) ?_
                rotate_left
                focus ((intro w hSw; (try dsimp only at hSw); go_simp); (try with_reducible rfl); done)
                simp only [Act.put, List.setIfInBounds_toArray, List.set_cons_zero, List.set_cons_succ]
                refine wpAnyH_take (i := 8) (oi := ⟨some 56, _, _, _, _, _⟩) (v := ?_) rfl (by kernel_rfl) (by kernel_rfl) (by kernel_rfl) (fun _ _ _ h => h) (Or.inl ⟨by kernel_rfl, ?_⟩) (by assumption) ?_
                rotate_left
                focus ((intro w hSw; (try dsimp only at hSw); go_simp); (try with_reducible rfl); done)
                simp only [Act.put, List.setIfInBounds_toArray, List.set_cons_zero, List.set_cons_succ]
                refine wpAnyH_take (i := 9) (oi := ⟨some 57, _, _, _, _, _⟩) (v := ?_) rfl (by kernel_rfl) (by kernel_rfl) (by kernel_rfl) (fun _ _ _ h => h) (Or.inl ⟨by kernel_rfl, ?_⟩) (by assumption) ?_
                rotate_left
                focus ((intro w hSw; (try dsimp only at hSw); go_simp); (try with_reducible rfl); done)
                simp only [Act.put, List.setIfInBounds_toArray, List.set_cons_zero, List.set_cons_succ]
                refine wpAnyH_ready (rs := [10]) (by kernel_rfl) (by simp) ?_
                refine AllReadyH.cons rfl (fun K hK => ?_) (AllReadyH.nil)
                · have Nv13_11 := Lib.hid (Array.getElem?_eq_some_iff.1 Bv12_11.out).1
                  go_simp
                  refine hK.out _ _ (HS13.out _ (Kv12.out.alloc _)) (fun hHeld => ?_)
                  clear hK K
                  try simp only [Act.put, List.setIfInBounds_toArray, List.set_cons_zero, List.set_cons_succ]
                  obtain ⟨v13, hv13⟩ : ∃ x, v12.alloc (.cells #[.int .i64 0, .slice none 0 0, .slice none 0 0] 25) = x := ⟨_, rfl⟩
                  have k9 : Kp v12 v13 := by rw [← hv13]; exact (Kp.refl _).alloc _
                  have Bv13_10 : Hid (Bx v13 v12.heap.size 25 #[.int .i64 0, .slice none 0 0, .slice none 0 0]) := by unfold Hid; rw [← hv13]; exact Bx.new v12 _ _
                  have Bv13_11 := Lib.hid (Bv12_11.out.kp k9)
                  have Kv13 := Lib.hid (Kv12.out.trans k9)
                  have Cv13 := Lib.hid (Cv12.out.kp k9)
                  have Lv13 := Lib.hid (Lv12.out.kp k9)
                  rw [hv13] at hHeld ⊢
                  clear k9 hv13
                  have hF := And.intro Bv13_10.out (And.intro Bv13_11.out (And.intro (show v12.heap.size ≠ v0.heap.size by have h5 := Nv13_11.out; omega) (And.intro (Kv12.out.size) (And.intro (Kv0.out.size) (And.intro Kv13.out (And.intro Cv13.out Lv13.out))))))
                  clear hHeld
                  obtain ⟨G1, hG1⟩ : ∃ x, v12.heap.size = x := ⟨_, rfl⟩
                  obtain ⟨G2, hG2⟩ : ∃ x, v0.heap.size = x := ⟨_, rfl⟩
                  rw [hG1, hG2] at hF ⊢
                  exact key.out _ _ _ _ _ _ _ hF
              · have Nv14_11 := Lib.hid (Array.getElem?_eq_some_iff.1 Bv11_11.out).1
                go_simp
                refine hK.out _ _ (HS13.out _ (Kv11.out.alloc _)) (fun hHeld => ?_)
                clear hK K
                try simp only [Act.put, List.setIfInBounds_toArray, List.set_cons_zero, List.set_cons_succ]
                obtain ⟨v14, hv14⟩ : ∃ x, v11.alloc (.cells #[.int .i64 0, .slice none 0 0, .slice none 0 0] 25) = x := ⟨_, rfl⟩
                have k9 : Kp v11 v14 := by rw [← hv14]; exact (Kp.refl _).alloc _
                have Bv14_10 : Hid (Bx v14 v11.heap.size 25 #[.int .i64 0, .slice none 0 0, .slice none 0 0]) := by unfold Hid; rw [← hv14]; exact Bx.new v11 _ _
                have Bv14_11 := Lib.hid (Bv11_11.out.kp k9)
                have Kv14 := Lib.hid (Kv11.out.trans k9)
                rw [hv14] at hHeld ⊢
                clear k9 hv14
                refine wpAnyH_ready (rs := [5]) (by kernel_rfl) (by simp) ?_
                refine AllReadyH.cons rfl (fun K hK => ?_) (AllReadyH.nil)
                · go_simp
                  refine (HTK.out _ Kv14.out).mono ?_
                  rintro _ v15 ⟨x9, y9, p9, q9, rfl, ⟨cs9, cp9⟩, l9, k9⟩
                  have c9 := CZ.mk cs9 cp9
                  clear cs9 cp9
                  have Kv15 := Lib.hid (Kv14.out.trans k9)
                  have Bv15_11 := Lib.hid (Bv14_11.out.kp k9)
                  have Bv15_10 := Lib.hid (Bv14_10.out.kp k9)
                  have Cv15 := Lib.hid c9
                  have Lv15 := Lib.hid l9
                  clear c9 l9 k9
                  refine hK.out _ _ (HS13.out _ (Kv15.out)) (fun hHeld => ?_)
                  clear hK K
                  try simp only [Act.put, List.setIfInBounds_toArray, List.set_cons_zero, List.set_cons_succ]
                  refine wpAnyH_take (i := 6) (oi := ⟨some 48, _, _, _, _, _⟩) (v := ?_) rfl (by kernel_rfl) (by kernel_rfl) (by kernel_rfl) (fun _ _ _ h => h) (Or.inl ⟨by kernel_rfl, ?_⟩) (by assumption) ?_
                  rotate_left
                  focus ((intro w hSw; (try dsimp only at hSw); go_simp); (try with_reducible rfl); done)
                  simp only [Act.put, List.setIfInBounds_toArray, List.set_cons_zero, List.set_cons_succ]
                  refine wpAnyH_take (i := 7) (oi := ⟨some 55, _, _, _, _, _⟩) (v := ?_) rfl (by kernel_rfl) (by kernel_rfl) (by kernel_rfl) (fun _ _ _ h => h) (Or.inl ⟨by kernel_rfl, ?_⟩) (by assumption) ?_
                  rotate_left
                  focus ((intro w hSw; (try dsimp only at hSw); go_simp); (try with_reducible rfl); done)
                  simp only [Act.put, List.setIfInBounds_toArray, List.set_cons_zero, List.set_cons_succ]
                  refine wpAnyH_take (i := 8) (oi := ⟨some 56, _, _, _, _, _⟩) (v := ?_) rfl (by kernel_rfl) (by kernel_rfl) (by kernel_rfl) (fun _ _ _ h => h) (Or.inl ⟨by kernel_rfl, ?_⟩) (by assumption) ?_
                  rotate_left
                  focus ((intro w hSw; (try dsimp only at hSw); go_simp); (try with_reducible rfl); done)
                  simp only [Act.put, List.setIfInBounds_toArray, List.set_cons_zero, List.set_cons_succ]
                  refine wpAnyH_take (i := 9) (oi := ⟨some 57, _, _, _, _, _⟩) (v := ?_) rfl (by kernel_rfl) (by kernel_rfl) (by kernel_rfl) (fun _ _ _ h => h) (Or.inl ⟨by kernel_rfl, ?_⟩) (by assumption) ?_
                  rotate_left
                  focus ((intro w hSw; (try dsimp only at hSw); go_simp); (try with_reducible rfl); done)
                  simp only [Act.put, List.setIfInBounds_toArray, List.set_cons_zero, List.set_cons_succ]
                  have hF := And.intro Bv15_10.out (And.intro Bv15_11.out (And.intro (show v11.heap.size ≠ v0.heap.size by have h5 := Nv14_11.out; omega) (And.intro (Kv11.out.size) (And.intro (Kv0.out.size) (And.intro Kv15.out (And.intro Cv15.out Lv15.out))))))
                  clear hHeld
                  obtain ⟨G1, hG1⟩ : ∃ x, v11.heap.size = x := ⟨_, rfl⟩
                  obtain ⟨G2, hG2⟩ : ∃ x, v0.heap.size = x := ⟨_, rfl⟩
                  rw [hG1, hG2] at hF ⊢
                  exact key.out _ _ _ _ _ _ _ hF
          case rest1 =>
            rintro G10 G11 x14 y14 p14 q14 w14 ⟨b10, b11, hne, hg, hg1, k14, c14, l14⟩
            obtain ⟨ya, yb, yc, yd, yf, rfl, rfl⟩ := c14.shapes
            obtain ⟨q1, q2, q3, q4, q5, q6, rfl, rfl⟩ := HXL.out _ _ _ _ l14
            obtain ⟨DL, hDL⟩ : ∃ z, D.spare.length = z := ⟨_, rfl⟩
            rw [hDL] at c14 ⊢
            have K14 := Lib.hid k14
            have B10 := Lib.hid b10
            have B11 := Lib.hid b11
            have C14 := Lib.hid c14
            have L14 := Lib.hid l14
            have HG := Lib.hid hg
            have HG1 := Lib.hid hg1
            have HNE := Lib.hid hne
            have hHeld := HS13.out _ K14.out
            clear b10 b11 hne hg hg1 k14 c14 l14 HTK hDL
            refine laterW (Q := ?Q2) (F := fun W => Bx W G10 25 #[.int .i64 DX, .slice ya yb yc, .slice yd DL yf] ∧ Bx W G11 43 #[.int .i64 KX, .slice q1 q2 q3, .slice q4 q5 q6] ∧ Kp wb W ∧ CZ (fun g => some g = (Value.slice t1 TL t2).ownBlock ∨ g = w3.heap.size) W (.slice ya yb yc) (.slice yd DL yf) D ∧ LIn W (.slice q1 q2 q3) (.slice q4 q5 q6) K) ?ways2 ?rest2
            case ways2 =>
              intro key
              refine wpAnyH_ready (rs := [12]) (by kernel_rfl) (by simp) ?_
              refine AllReadyH.cons rfl (fun K hK => ?_) (AllReadyH.nil)
              · obtain ⟨x0, x1, x2⟩ := cells3 B10.out
                have x3 := B10.out.frozen 0
                have x4 := B10.out.frozen 1
                have x5 := B10.out.frozen 2
                obtain ⟨sb, sg, sk⟩ := stored3 B10.out (.int .i64 DX) (.slice ya yb yc) (.slice yd DL yf)
                go_simp
                refine hK.out _ _ (HS13.out _ (sk wb K14.out (HG.out))) (fun hHeld => ?_)
                clear hK K
                try simp only [Act.put, List.setIfInBounds_toArray, List.set_cons_zero, List.set_cons_succ]
                have Kv10 := Lib.hid (sk wb K14.out (HG.out))
                obtain ⟨v1, hv1⟩ : ∃ x, ((w14.setCell ⟨G10, 0, none⟩ (.int .i64 DX)).setCell ⟨G10, 1, none⟩ (.slice ya yb yc)).setCell ⟨G10, 2, none⟩ (.slice yd DL yf) = x := ⟨_, rfl⟩
                rw [hv1] at hHeld sb sg sk Kv10 ⊢
                have Cv1 := Lib.hid (CZ.mk (C14.out.sec.kept13 B10.out sg) (C14.out.spare.kept13 HKEY.out B10.out sg))
                have Lv1 := Lib.hid (LIn.mk (L14.out.key.kept13 B10.out sg) (L14.out.non.kept13 B10.out sg))
                have Bv1_11 := Lib.hid (B11.out.grow sg (by have h5 := HNE.out; omega))
                have Bv1_10 := Lib.hid sb
                clear x0 x1 x2 x3 x4 x5 sb sg sk hv1
                refine wpAnyH_ready (rs := [13]) (by kernel_rfl) (by simp) ?_
                refine AllReadyH.cons rfl (fun K hK => ?_) (AllReadyH.nil)
                · obtain ⟨x0, x1, x2⟩ := cells3 Bv1_11.out
                  have x3 := Bv1_11.out.frozen 0
                  have x4 := Bv1_11.out.frozen 1
                  have x5 := Bv1_11.out.frozen 2
                  obtain ⟨sb, sg, sk⟩ := stored3 Bv1_11.out (.int .i64 KX) (.slice q1 q2 q3) (.slice q4 q5 q6)
                  go_simp
                  refine hK.out _ _ (HS13.out _ (sk wb Kv10.out (HG1.out))) (fun hHeld => ?_)
                  clear hK K
                  try simp only [Act.put, List.setIfInBounds_toArray, List.set_cons_zero, List.set_cons_succ]
                  have Kv20 := Lib.hid (sk wb Kv10.out (HG1.out))
                  obtain ⟨v2, hv2⟩ : ∃ x, ((v1.setCell ⟨G11, 0, none⟩ (.int .i64 KX)).setCell ⟨G11, 1, none⟩ (.slice q1 q2 q3)).setCell ⟨G11, 2, none⟩ (.slice q4 q5 q6) = x := ⟨_, rfl⟩
                  rw [hv2] at hHeld sb sg sk Kv20 ⊢
                  have Cv2 := Lib.hid (CZ.mk (Cv1.out.sec.kept13 Bv1_11.out sg) (Cv1.out.spare.kept13 HKEY.out Bv1_11.out sg))
                  have Lv2 := Lib.hid (LIn.mk (Lv1.out.key.kept13 Bv1_11.out sg) (Lv1.out.non.kept13 Bv1_11.out sg))
                  have Bv2_10 := Lib.hid (Bv1_10.out.grow sg (by have h5 := HNE.out; omega))
                  have Bv2_11 := Lib.hid sb
                  clear x0 x1 x2 x3 x4 x5 sb sg sk hv2
                  refine wpAnyH_take (i := 14) (oi := ⟨some 12, _, _, _, _, _⟩) (v := ?_) rfl (by kernel_rfl) (by kernel_rfl) (by kernel_rfl) (fun _ _ _ h => h) (Or.inl ⟨by kernel_rfl, ?_⟩) (by assumption) ?_
                  rotate_left
                  focus ((intro w hSw; (try dsimp only at hSw); go_simp); (try with_reducible rfl); done)
                  simp only [Act.put, List.setIfInBounds_toArray, List.set_cons_zero, List.set_cons_succ]
                  refine wpAnyH_done (by kernel_rfl) ?_ _
                  have hF := And.intro Bv2_10.out (And.intro Bv2_11.out (And.intro Kv20.out (And.intro Cv2.out Lv2.out)))
                  clear hHeld
                  exact key.out _ hF
            case rest2 =>
              rintro w20 ⟨b20, b21, k20, c20, l20⟩
              have K20 := Lib.hid k20
              have B20 := Lib.hid b20
              have B21 := Lib.hid b21
              have C20 := Lib.hid c20
              have L20 := Lib.hid l20
              have KA := Lib.hid (KW.out.trans K20.out)
              have BG := Lib.hid (BB.out.kp K20.out)
              have OG := Lib.hid (OB.out.kp K20.out)
              have CG := Lib.hid (CB.out.kp K20.out)
              have HRD := Lib.hid (HR.out w20 _ _ D c20.cin)
              rw [HDX.out] at HRD
              obtain ⟨s0, s1, s2⟩ := cells3 b20
              clear b20 b21 k20 c20 l20 hHeld
              go_wp2_with fail
              refine HRD.out.mono ?_
              rintro _ w21 ⟨⟨bb, rfl, hb⟩, k21⟩
              obtain rfl : bb = true := hb.2 HDOK.out
              have K21 := Lib.hid k21
              clear hb k21 s0 s1 s2 HRD
              by_cases hE0 : E = 0
              · subst hE0
                have KX1 := Lib.hid (KA.out.trans K21.out)
                go_wp2_with fail
                go_loopw [13, 14] (fun hv jv wq => ∃ j : Nat, j ≤ TL ∧ jv = .int .i64 (j : Int) ∧ hv = .bool (decide (A ∈ T.take j)) ∧ Kp w21 wq) (fun _ jv _ => (TL - (intOf jv).toNat))
                case atStart => exact ⟨0, Nat.zero_le _, rfl, by simp, Kp.refl _⟩
                case round =>
                  obtain ⟨j, hj, rfl, rfl, hkj⟩ := hrel
                  have KJ := Lib.hid hkj
                  clear hkj
                  obtain ⟨wj, hwj⟩ : ∃ x : World, x = wr := ⟨_, rfl⟩
                  subst hwj
                  by_cases hjt : j < TL
                  · have j1 : (j : Int) < (TL : Int) := by omega
                    have j2 : IntKind.i64.wrap ((j : Int) + 1) = (j : Int) + 1 := IntWalk.i64_in _ (by have := HTI.out; omega)
                    have hst := had_step (T := T) (A := A) (j := j) (by rw [HTL.out]; exact hjt)
                    obtain ⟨b7, o7, rfl, _, hc7⟩ := (OG.out.kp (K21.out.trans KJ.out)).ri.at j hjt
                    have h7 := hc7 j hjt
                    obtain ⟨TJ, hTJ⟩ : ∃ z, T.getD j 0 = z := ⟨_, rfl⟩
                    rw [hTJ] at h7 hst
                    obtain ⟨hd, hhd⟩ : ∃ b, decide (A ∈ T.take j) = b := ⟨_, rfl⟩
                    rw [hhd]
                    have HS20 : Hid (∀ W, Kp wj W → W.cell? ⟨b7, o7 + j, none⟩ = some (.int .i64 TJ) ∧ W.cell? ⟨g1, o1 + i, none⟩ = some (.int .i64 A)) := fun W hW => ⟨hW.cell h7, hW.cell (KJ.out.cell (KX1.out.cell HCI.out))⟩
                    have HST20 := Lib.hid hst
                    have HHD := Lib.hid hhd
                    have HJT := Lib.hid hjt
                    clear hc7 h7 hTJ hst hhd hjt
                    cases hd
                    · by_cases hq : TJ = A
                      · have j3 : (TJ == A) = true := beq_iff_eq.2 hq
                        have HQ := Lib.hid hq
                        clear hq
                        go_wp2_with fail
                        refine wp_region_held_drew (S := fun W => W.cell? ⟨b7, o7 + j, none⟩ = some (.int .i64 TJ) ∧ W.cell? ⟨g1, o1 + i, none⟩ = some (.int .i64 A)) (by kernel_rfl) (HS20.out _ (Kp.refl _).drew) (fun hHeld => ?_)
                        obtain ⟨wu, hwu⟩ : ∃ x, wj.drew = x := ⟨_, rfl⟩
                        have KU : Hid (Kp wj wu) := by unfold Hid; rw [← hwu]; exact (Kp.refl _).drew
                        rw [hwu] at hHeld ⊢
                        clear hwu
                        refine wpAnyH_take (i := 0) (oi := ⟨some 77, _, _, _, _, _⟩) (v := ?_) rfl (by kernel_rfl) (by kernel_rfl) (by kernel_rfl) (fun _ _ _ h => h) (Or.inl ⟨by kernel_rfl, ?_⟩) (by assumption) ?_
                        rotate_left
                        focus ((intro w hSw; (try dsimp only at hSw); go_simp); (try with_reducible rfl); done)
                        simp only [Act.put, List.setIfInBounds_toArray, List.set_cons_zero, List.set_cons_succ]
                        refine wpAnyH_take (i := 1) (oi := ⟨some 78, _, _, _, _, _⟩) (v := ?_) rfl (by kernel_rfl) (by kernel_rfl) (by kernel_rfl) (fun _ _ _ h => h) (Or.inl ⟨by kernel_rfl, ?_⟩) (by assumption) ?_
                        rotate_left
                        focus ((intro w hSw; (try dsimp only at hSw); go_simp); (try with_reducible rfl); done)
                        simp only [Act.put, List.setIfInBounds_toArray, List.set_cons_zero, List.set_cons_succ]
                        refine wpAnyH_take (i := 2) (oi := ⟨some 79, _, _, _, _, _⟩) (v := ?_) rfl (by kernel_rfl) (by kernel_rfl) (by kernel_rfl) (fun _ _ _ h => h) (Or.inl ⟨by kernel_rfl, ?_⟩) (by assumption) ?_
                        rotate_left
                        focus ((intro w hSw; (try dsimp only at hSw); go_simp); (try with_reducible rfl); done)
                        simp only [Act.put, List.setIfInBounds_toArray, List.set_cons_zero, List.set_cons_succ]
                        refine wpAnyH_take (i := 3) (oi := ⟨some 80, _, _, _, _, _⟩) (v := ?_) rfl (by kernel_rfl) (by kernel_rfl) (by kernel_rfl) (fun _ _ _ h => h) (Or.inl ⟨by kernel_rfl, ?_⟩) (by assumption) ?_
                        rotate_left
                        focus ((intro w hSw; (try dsimp only at hSw); go_simp); (try with_reducible rfl); done)
                        simp only [Act.put, List.setIfInBounds_toArray, List.set_cons_zero, List.set_cons_succ]
                        refine wpAnyH_take (i := 4) (oi := ⟨some 81, _, _, _, _, _⟩) (v := ?_) rfl (by kernel_rfl) (by kernel_rfl) (by kernel_rfl) (fun _ _ _ h => h) (Or.inl ⟨by kernel_rfl, ?_⟩) (by assumption) ?_
                        rotate_left
                        focus ((intro w hSw; (try dsimp only at hSw); go_simp); (try with_reducible rfl); done)
                        simp only [Act.put, List.setIfInBounds_toArray, List.set_cons_zero, List.set_cons_succ]
                        refine wpAnyH_take (i := 5) (oi := ⟨some 82, _, _, _, _, _⟩) (v := ?_) rfl (by kernel_rfl) (by kernel_rfl) (by kernel_rfl) (fun _ _ _ h => h) (Or.inl ⟨by kernel_rfl, ?_⟩) (by assumption) ?_
                        rotate_left
                        focus ((intro w hSw; (try dsimp only at hSw); go_simp); (try with_reducible rfl); done)
                        simp only [Act.put, List.setIfInBounds_toArray, List.set_cons_zero, List.set_cons_succ]
                        refine wpAnyH_take (i := 6) (oi := ⟨some 83, _, _, _, _, _⟩) (v := ?_) rfl (by kernel_rfl) (by kernel_rfl) (by kernel_rfl) (fun _ _ _ h => h) (Or.inl ⟨by kernel_rfl, ?_⟩) (by assumption) ?_
                        rotate_left
                        focus ((intro w hSw; (try dsimp only at hSw); go_simp); (try with_reducible rfl); done)
                        simp only [Act.put, List.setIfInBounds_toArray, List.set_cons_zero, List.set_cons_succ]
                        refine wpAnyH_take (i := 7) (oi := ⟨some 84, _, _, _, _, _⟩) (v := ?_) rfl (by kernel_rfl) (by kernel_rfl) (by kernel_rfl) (fun _ _ _ h => h) (Or.inl ⟨by kernel_rfl, ?_⟩) (by assumption) ?_
                        rotate_left
                        focus ((intro w hSw; (try dsimp only at hSw); go_simp); (try with_reducible rfl); done)
                        simp only [Act.put, List.setIfInBounds_toArray, List.set_cons_zero, List.set_cons_succ]
                        refine wpAnyH_take (i := 8) (oi := ⟨some 85, _, _, _, _, _⟩) (v := ?_) rfl (by kernel_rfl) (by kernel_rfl) (by kernel_rfl) (fun _ _ _ h => h) (Or.inl ⟨by kernel_rfl, ?_⟩) (by assumption) ?_
                        rotate_left
                        focus ((intro w hSw; (try dsimp only at hSw); go_simp); (try with_reducible rfl); done)
                        simp only [Act.put, List.setIfInBounds_toArray, List.set_cons_zero, List.set_cons_succ]
                        refine wpAnyH_take (i := 9) (oi := ⟨some 86, _, _, _, _, _⟩) (v := ?_) rfl (by kernel_rfl) (by kernel_rfl) (by kernel_rfl) (fun _ _ _ h => h) (Or.inl ⟨by kernel_rfl, ?_⟩) (by assumption) ?_
                        rotate_left
                        focus ((intro w hSw; (try dsimp only at hSw); go_simp); (try with_reducible rfl); done)
                        simp only [Act.put, List.setIfInBounds_toArray, List.set_cons_zero, List.set_cons_succ]
                        refine wpAnyH_take (i := 10) (oi := ⟨some 87, _, _, _, _, _⟩) (v := ?_) rfl (by kernel_rfl) (by kernel_rfl) (by kernel_rfl) (fun _ _ _ h => h) (Or.inl ⟨by kernel_rfl, ?_⟩) (by assumption) ?_
                        rotate_left
                        focus ((intro w hSw; (try dsimp only at hSw); go_simp); (try with_reducible rfl); done)
                        simp only [Act.put, List.setIfInBounds_toArray, List.set_cons_zero, List.set_cons_succ]
                        refine wpAnyH_take (i := 11) (oi := ⟨some 88, _, _, _, _, _⟩) (v := ?_) rfl (by kernel_rfl) (by kernel_rfl) (by kernel_rfl) (fun _ _ _ h => h) (Or.inl ⟨by kernel_rfl, ?_⟩) (by assumption) ?_
                        rotate_left
                        focus ((intro w hSw; (try dsimp only at hSw); go_simp); (try with_reducible rfl); done)
                        simp only [Act.put, List.setIfInBounds_toArray, List.set_cons_zero, List.set_cons_succ]
                        refine wpAnyH_take (i := 12) (oi := ⟨some 13, _, _, _, _, _⟩) (v := ?_) rfl (by kernel_rfl) (by kernel_rfl) (by kernel_rfl) (fun _ _ _ h => h) (Or.inl ⟨by kernel_rfl, ?_⟩) (by assumption) ?_
                        rotate_left
                        focus ((intro w hSw; (try dsimp only at hSw); go_simp); (try with_reducible rfl); done)
                        simp only [Act.put, List.setIfInBounds_toArray, List.set_cons_zero, List.set_cons_succ]
                        refine wpAnyH_done (by kernel_rfl) ?_ _
                        clear hHeld
                        go_wp2_with fail
                        go_roundw
                        case rel => exact ⟨j + 1, by have := HJT.out; omega, by first | rfl | go_num, by congr 1; exact (decide_eq_true (HST20.out.2 (.inr HQ.out))).symm, KJ.out.trans KU.out⟩
                        case measure => have := HJT.out; simp [intOf]; omega
                      · have j3 : (TJ == A) = false := beq_eq_false_iff_ne.2 hq
                        have HQ := Lib.hid hq
                        clear hq
                        go_wp2_with fail
                        refine wp_region_held_drew (S := fun W => W.cell? ⟨b7, o7 + j, none⟩ = some (.int .i64 TJ) ∧ W.cell? ⟨g1, o1 + i, none⟩ = some (.int .i64 A)) (by kernel_rfl) (HS20.out _ (Kp.refl _).drew) (fun hHeld => ?_)
                        obtain ⟨wu, hwu⟩ : ∃ x, wj.drew = x := ⟨_, rfl⟩
                        have KU : Hid (Kp wj wu) := by unfold Hid; rw [← hwu]; exact (Kp.refl _).drew
                        rw [hwu] at hHeld ⊢
                        clear hwu
                        refine wpAnyH_take (i := 0) (oi := ⟨some 77, _, _, _, _, _⟩) (v := ?_) rfl (by kernel_rfl) (by kernel_rfl) (by kernel_rfl) (fun _ _ _ h => h) (Or.inl ⟨by kernel_rfl, ?_⟩) (by assumption) ?_
                        rotate_left
                        focus ((intro w hSw; (try dsimp only at hSw); go_simp); (try with_reducible rfl); done)
                        simp only [Act.put, List.setIfInBounds_toArray, List.set_cons_zero, List.set_cons_succ]
                        refine wpAnyH_take (i := 1) (oi := ⟨some 78, _, _, _, _, _⟩) (v := ?_) rfl (by kernel_rfl) (by kernel_rfl) (by kernel_rfl) (fun _ _ _ h => h) (Or.inl ⟨by kernel_rfl, ?_⟩) (by assumption) ?_
                        rotate_left
                        focus ((intro w hSw; (try dsimp only at hSw); go_simp); (try with_reducible rfl); done)
                        simp only [Act.put, List.setIfInBounds_toArray, List.set_cons_zero, List.set_cons_succ]
                        refine wpAnyH_take (i := 2) (oi := ⟨some 79, _, _, _, _, _⟩) (v := ?_) rfl (by kernel_rfl) (by kernel_rfl) (by kernel_rfl) (fun _ _ _ h => h) (Or.inl ⟨by kernel_rfl, ?_⟩) (by assumption) ?_
                        rotate_left
                        focus ((intro w hSw; (try dsimp only at hSw); go_simp); (try with_reducible rfl); done)
                        simp only [Act.put, List.setIfInBounds_toArray, List.set_cons_zero, List.set_cons_succ]
                        refine wpAnyH_take (i := 3) (oi := ⟨some 80, _, _, _, _, _⟩) (v := ?_) rfl (by kernel_rfl) (by kernel_rfl) (by kernel_rfl) (fun _ _ _ h => h) (Or.inl ⟨by kernel_rfl, ?_⟩) (by assumption) ?_
                        rotate_left
                        focus ((intro w hSw; (try dsimp only at hSw); go_simp); (try with_reducible rfl); done)
                        simp only [Act.put, List.setIfInBounds_toArray, List.set_cons_zero, List.set_cons_succ]
                        refine wpAnyH_take (i := 4) (oi := ⟨some 81, _, _, _, _, _⟩) (v := ?_) rfl (by kernel_rfl) (by kernel_rfl) (by kernel_rfl) (fun _ _ _ h => h) (Or.inl ⟨by kernel_rfl, ?_⟩) (by assumption) ?_
                        rotate_left
                        focus ((intro w hSw; (try dsimp only at hSw); go_simp); (try with_reducible rfl); done)
                        simp only [Act.put, List.setIfInBounds_toArray, List.set_cons_zero, List.set_cons_succ]
                        refine wpAnyH_take (i := 5) (oi := ⟨some 82, _, _, _, _, _⟩) (v := ?_) rfl (by kernel_rfl) (by kernel_rfl) (by kernel_rfl) (fun _ _ _ h => h) (Or.inl ⟨by kernel_rfl, ?_⟩) (by assumption) ?_
                        rotate_left
                        focus ((intro w hSw; (try dsimp only at hSw); go_simp); (try with_reducible rfl); done)
                        simp only [Act.put, List.setIfInBounds_toArray, List.set_cons_zero, List.set_cons_succ]
                        refine wpAnyH_take (i := 6) (oi := ⟨some 83, _, _, _, _, _⟩) (v := ?_) rfl (by kernel_rfl) (by kernel_rfl) (by kernel_rfl) (fun _ _ _ h => h) (Or.inl ⟨by kernel_rfl, ?_⟩) (by assumption) ?_
                        rotate_left
                        focus ((intro w hSw; (try dsimp only at hSw); go_simp); (try with_reducible rfl); done)
                        simp only [Act.put, List.setIfInBounds_toArray, List.set_cons_zero, List.set_cons_succ]
                        refine wpAnyH_take (i := 7) (oi := ⟨some 84, _, _, _, _, _⟩) (v := ?_) rfl (by kernel_rfl) (by kernel_rfl) (by kernel_rfl) (fun _ _ _ h => h) (Or.inl ⟨by kernel_rfl, ?_⟩) (by assumption) ?_
                        rotate_left
                        focus ((intro w hSw; (try dsimp only at hSw); go_simp); (try with_reducible rfl); done)
                        simp only [Act.put, List.setIfInBounds_toArray, List.set_cons_zero, List.set_cons_succ]
                        refine wpAnyH_take (i := 8) (oi := ⟨some 85, _, _, _, _, _⟩) (v := ?_) rfl (by kernel_rfl) (by kernel_rfl) (by kernel_rfl) (fun _ _ _ h => h) (Or.inl ⟨by kernel_rfl, ?_⟩) (by assumption) ?_
                        rotate_left
                        focus ((intro w hSw; (try dsimp only at hSw); go_simp); (try with_reducible rfl); done)
                        simp only [Act.put, List.setIfInBounds_toArray, List.set_cons_zero, List.set_cons_succ]
                        refine wpAnyH_take (i := 9) (oi := ⟨some 86, _, _, _, _, _⟩) (v := ?_) rfl (by kernel_rfl) (by kernel_rfl) (by kernel_rfl) (fun _ _ _ h => h) (Or.inl ⟨by kernel_rfl, ?_⟩) (by assumption) ?_
                        rotate_left
                        focus ((intro w hSw; (try dsimp only at hSw); go_simp); (try with_reducible rfl); done)
                        simp only [Act.put, List.setIfInBounds_toArray, List.set_cons_zero, List.set_cons_succ]
                        refine wpAnyH_take (i := 10) (oi := ⟨some 87, _, _, _, _, _⟩) (v := ?_) rfl (by kernel_rfl) (by kernel_rfl) (by kernel_rfl) (fun _ _ _ h => h) (Or.inl ⟨by kernel_rfl, ?_⟩) (by assumption) ?_
                        rotate_left
                        focus ((intro w hSw; (try dsimp only at hSw); go_simp); (try with_reducible rfl); done)
                        simp only [Act.put, List.setIfInBounds_toArray, List.set_cons_zero, List.set_cons_succ]
                        refine wpAnyH_take (i := 11) (oi := ⟨some 88, _, _, _, _, _⟩) (v := ?_) rfl (by kernel_rfl) (by kernel_rfl) (by kernel_rfl) (fun _ _ _ h => h) (Or.inl ⟨by kernel_rfl, ?_⟩) (by assumption) ?_
                        rotate_left
                        focus ((intro w hSw; (try dsimp only at hSw); go_simp); (try with_reducible rfl); done)
                        simp only [Act.put, List.setIfInBounds_toArray, List.set_cons_zero, List.set_cons_succ]
                        refine wpAnyH_take (i := 12) (oi := ⟨some 13, _, _, _, _, _⟩) (v := ?_) rfl (by kernel_rfl) (by kernel_rfl) (by kernel_rfl) (fun _ _ _ h => h) (Or.inl ⟨by kernel_rfl, ?_⟩) (by assumption) ?_
                        rotate_left
                        focus ((intro w hSw; (try dsimp only at hSw); go_simp); (try with_reducible rfl); done)
                        simp only [Act.put, List.setIfInBounds_toArray, List.set_cons_zero, List.set_cons_succ]
                        refine wpAnyH_done (by kernel_rfl) ?_ _
                        clear hHeld
                        go_wp2_with fail
                        go_roundw
                        case rel => exact ⟨j + 1, by have := HJT.out; omega, by first | rfl | go_num, by congr 1; exact (decide_eq_false fun h => (HST20.out.1 h).elim (of_decide_eq_false HHD.out) HQ.out).symm, KJ.out.trans KU.out⟩
                        case measure => have := HJT.out; simp [intOf]; omega
                    · go_wp2_with fail
                      refine wp_region_held_drew (S := fun W => W.cell? ⟨b7, o7 + j, none⟩ = some (.int .i64 TJ) ∧ W.cell? ⟨g1, o1 + i, none⟩ = some (.int .i64 A)) (by kernel_rfl) (HS20.out _ (Kp.refl _).drew) (fun hHeld => ?_)
                      obtain ⟨wu, hwu⟩ : ∃ x, wj.drew = x := ⟨_, rfl⟩
                      have KU : Hid (Kp wj wu) := by unfold Hid; rw [← hwu]; exact (Kp.refl _).drew
                      rw [hwu] at hHeld ⊢
                      clear hwu
                      refine wpAnyH_take (i := 0) (oi := ⟨some 77, _, _, _, _, _⟩) (v := ?_) rfl (by kernel_rfl) (by kernel_rfl) (by kernel_rfl) (fun _ _ _ h => h) (Or.inl ⟨by kernel_rfl, ?_⟩) (by assumption) ?_
                      rotate_left
                      focus ((intro w hSw; (try dsimp only at hSw); go_simp); (try with_reducible rfl); done)
                      simp only [Act.put, List.setIfInBounds_toArray, List.set_cons_zero, List.set_cons_succ]
                      refine wpAnyH_take (i := 1) (oi := ⟨some 78, _, _, _, _, _⟩) (v := ?_) rfl (by kernel_rfl) (by kernel_rfl) (by kernel_rfl) (fun _ _ _ h => h) (Or.inl ⟨by kernel_rfl, ?_⟩) (by assumption) ?_
                      rotate_left
                      focus ((intro w hSw; (try dsimp only at hSw); go_simp); (try with_reducible rfl); done)
                      simp only [Act.put, List.setIfInBounds_toArray, List.set_cons_zero, List.set_cons_succ]
                      refine wpAnyH_take (i := 2) (oi := ⟨some 79, _, _, _, _, _⟩) (v := undef) rfl (by kernel_rfl) (by kernel_rfl) (by kernel_rfl) (fun _ _ _ h => h) (Or.inr ⟨by kernel_rfl, rfl⟩) (by assumption) ?_
                      simp only [Act.put, List.setIfInBounds_toArray, List.set_cons_zero, List.set_cons_succ]
                      refine wpAnyH_take (i := 3) (oi := ⟨some 80, _, _, _, _, _⟩) (v := undef) rfl (by kernel_rfl) (by kernel_rfl) (by kernel_rfl) (fun _ _ _ h => h) (Or.inr ⟨by kernel_rfl, rfl⟩) (by assumption) ?_
                      simp only [Act.put, List.setIfInBounds_toArray, List.set_cons_zero, List.set_cons_succ]
                      refine wpAnyH_take (i := 4) (oi := ⟨some 81, _, _, _, _, _⟩) (v := undef) rfl (by kernel_rfl) (by kernel_rfl) (by kernel_rfl) (fun _ _ _ h => h) (Or.inr ⟨by kernel_rfl, rfl⟩) (by assumption) ?_
                      simp only [Act.put, List.setIfInBounds_toArray, List.set_cons_zero, List.set_cons_succ]
                      refine wpAnyH_take (i := 5) (oi := ⟨some 82, _, _, _, _, _⟩) (v := undef) rfl (by kernel_rfl) (by kernel_rfl) (by kernel_rfl) (fun _ _ _ h => h) (Or.inr ⟨by kernel_rfl, rfl⟩) (by assumption) ?_
                      simp only [Act.put, List.setIfInBounds_toArray, List.set_cons_zero, List.set_cons_succ]
                      refine wpAnyH_take (i := 6) (oi := ⟨some 83, _, _, _, _, _⟩) (v := undef) rfl (by kernel_rfl) (by kernel_rfl) (by kernel_rfl) (fun _ _ _ h => h) (Or.inr ⟨by kernel_rfl, rfl⟩) (by assumption) ?_
                      simp only [Act.put, List.setIfInBounds_toArray, List.set_cons_zero, List.set_cons_succ]
                      refine wpAnyH_take (i := 7) (oi := ⟨some 84, _, _, _, _, _⟩) (v := undef) rfl (by kernel_rfl) (by kernel_rfl) (by kernel_rfl) (fun _ _ _ h => h) (Or.inr ⟨by kernel_rfl, rfl⟩) (by assumption) ?_
                      simp only [Act.put, List.setIfInBounds_toArray, List.set_cons_zero, List.set_cons_succ]
                      refine wpAnyH_take (i := 8) (oi := ⟨some 85, _, _, _, _, _⟩) (v := undef) rfl (by kernel_rfl) (by kernel_rfl) (by kernel_rfl) (fun _ _ _ h => h) (Or.inr ⟨by kernel_rfl, rfl⟩) (by assumption) ?_
                      simp only [Act.put, List.setIfInBounds_toArray, List.set_cons_zero, List.set_cons_succ]
                      refine wpAnyH_take (i := 9) (oi := ⟨some 86, _, _, _, _, _⟩) (v := undef) rfl (by kernel_rfl) (by kernel_rfl) (by kernel_rfl) (fun _ _ _ h => h) (Or.inr ⟨by kernel_rfl, rfl⟩) (by assumption) ?_
                      simp only [Act.put, List.setIfInBounds_toArray, List.set_cons_zero, List.set_cons_succ]
                      refine wpAnyH_take (i := 10) (oi := ⟨some 87, _, _, _, _, _⟩) (v := undef) rfl (by kernel_rfl) (by kernel_rfl) (by kernel_rfl) (fun _ _ _ h => h) (Or.inr ⟨by kernel_rfl, rfl⟩) (by assumption) ?_
                      simp only [Act.put, List.setIfInBounds_toArray, List.set_cons_zero, List.set_cons_succ]
                      refine wpAnyH_take (i := 11) (oi := ⟨some 88, _, _, _, _, _⟩) (v := ?_) rfl (by kernel_rfl) (by kernel_rfl) (by kernel_rfl) (fun _ _ _ h => h) (Or.inl ⟨by kernel_rfl, ?_⟩) (by assumption) ?_
                      rotate_left
                      focus ((intro w hSw; (try dsimp only at hSw); go_simp); (try with_reducible rfl); done)
                      simp only [Act.put, List.setIfInBounds_toArray, List.set_cons_zero, List.set_cons_succ]
                      refine wpAnyH_take (i := 12) (oi := ⟨some 13, _, _, _, _, _⟩) (v := ?_) rfl (by kernel_rfl) (by kernel_rfl) (by kernel_rfl) (fun _ _ _ h => h) (Or.inl ⟨by kernel_rfl, ?_⟩) (by assumption) ?_
                      rotate_left
                      focus ((intro w hSw; (try dsimp only at hSw); go_simp); (try with_reducible rfl); done)
                      simp only [Act.put, List.setIfInBounds_toArray, List.set_cons_zero, List.set_cons_succ]
                      refine wpAnyH_done (by kernel_rfl) ?_ _
                      clear hHeld
                      go_wp2_with fail
                      go_roundw
                      case rel => exact ⟨j + 1, by have := HJT.out; omega, by first | rfl | go_num, by congr 1; exact (decide_eq_true (HST20.out.2 (.inl (of_decide_eq_true HHD.out)))).symm, KJ.out.trans KU.out⟩
                      case measure => have := HJT.out; simp [intOf]; omega
                  · obtain rfl : j = TL := by omega
                    have htk : T.take j = T := List.take_of_length_le (by rw [HTL.out]; exact Nat.le_refl _)
                    rw [htk]
                    clear htk
                    have KY := Lib.hid (K21.out.trans KJ.out)
                    have KZ := Lib.hid (KX1.out.trans KJ.out)
                    have HS21 : Hid (∀ W, Kp wj W → W.cell? ⟨G11, 0, none⟩ = some (.int .i64 KX) ∧ W.cell? ⟨G11, 1, none⟩ = some (.slice q1 q2 q3) ∧ W.cell? ⟨G11, 2, none⟩ = some (.slice q4 q5 q6) ∧ W.cell? ⟨w3.heap.size, 0, none⟩ = some (.int .i64 NX) ∧ W.cell? ⟨w3.heap.size, 1, none⟩ = some (.slice e1 e2 e3) ∧ W.cell? ⟨w3.heap.size, 2, none⟩ = some (.slice e4 SL e5) ∧ W.cell? ⟨g1, o1 + i, none⟩ = some (.int .i64 A)) := fun W hW => ⟨(B21.out.kp (KY.out.trans hW)).cell 0, (B21.out.kp (KY.out.trans hW)).cell 1, (B21.out.kp (KY.out.trans hW)).cell 2, (BG.out.kp (KY.out.trans hW)).cell 0, (BG.out.kp (KY.out.trans hW)).cell 1, (BG.out.kp (KY.out.trans hW)).cell 2, hW.cell (KZ.out.cell HCI.out)⟩
                    have hnot : decide (A ∈ T) = false := decide_eq_false fun h => absurd (HHAD.out h) (by decide)
                    rw [hnot]
                    clear hnot
                    have HLK := Lib.hid (fun W (k : Kp wj W) => HLOCK.out W (.int .i64 NX) (.slice e1 e2 e3) (.slice e4 SL e5) A.toNat (KZ.out.trans k) (by have h1 := (HZERO.out (by first | rfl | trivial)).1; have h2 := HBG.out; have h3 := HNB.out; omega))
                    rw [Int.toNat_of_nonneg (HZERO.out (by first | rfl | trivial)).1.1, ← (HTOOK.out (by first | rfl | trivial)).1] at HLK
                    have HSKK := Lib.hid (fun W x y (k : Kp wj W) (h : LIn W x y K) => HSK.out W _ _ x y K (L20.out.kp (KY.out.trans k)) h)
                    rw [HKX.out] at HSKK
                    have hKA : KX = A := by rw [← HKX.out, (HTOOK.out (by first | rfl | trivial)).1]; exact Int.toNat_of_nonneg (HZERO.out (by first | rfl | trivial)).1.1
                    rw [hKA] at HSKK HS21
                    go_wp2_with fail
                    refine wp_region_held_drew (S := fun W => W.cell? ⟨G11, 0, none⟩ = some (.int .i64 A) ∧ W.cell? ⟨G11, 1, none⟩ = some (.slice q1 q2 q3) ∧ W.cell? ⟨G11, 2, none⟩ = some (.slice q4 q5 q6) ∧ W.cell? ⟨w3.heap.size, 0, none⟩ = some (.int .i64 NX) ∧ W.cell? ⟨w3.heap.size, 1, none⟩ = some (.slice e1 e2 e3) ∧ W.cell? ⟨w3.heap.size, 2, none⟩ = some (.slice e4 SL e5) ∧ W.cell? ⟨g1, o1 + i, none⟩ = some (.int .i64 A)) (by kernel_rfl) (by first | exact HS21.out _ K31.out | exact HS21.out _ K30.out | exact HS21.out _ (Kp.refl _).drew) (fun hHeld => ?_)
                    obtain ⟨wu, hwu⟩ : ∃ x, wj.drew = x := ⟨_, rfl⟩
                    have KU : Hid (Kp wj wu) := by unfold Hid; rw [← hwu]; exact (Kp.refl _).drew
                    rw [hwu] at hHeld ⊢
                    clear hwu
                    refine wpAnyH_take (i := 0) (oi := ⟨some 89, _, _, _, _, _⟩) (v := ?_) rfl (by kernel_rfl) (by kernel_rfl) (by kernel_rfl) (fun _ _ _ h => h) (Or.inl ⟨by kernel_rfl, ?_⟩) (by assumption) ?_
                    rotate_left
                    focus ((intro w hSw; (try dsimp only at hSw); go_simp); (try with_reducible rfl); done)
                    simp only [Act.put, List.setIfInBounds_toArray, List.set_cons_zero, List.set_cons_succ]
                    refine wpAnyH_take (i := 1) (oi := ⟨some 90, _, _, _, _, _⟩) (v := ?_) rfl (by kernel_rfl) (by kernel_rfl) (by kernel_rfl) (fun _ _ _ h => h) (Or.inl ⟨by kernel_rfl, ?_⟩) (by assumption) ?_
                    rotate_left
                    focus ((intro w hSw; (try dsimp only at hSw); go_simp); (try with_reducible rfl); done)
                    simp only [Act.put, List.setIfInBounds_toArray, List.set_cons_zero, List.set_cons_succ]
                    refine wpAnyH_take (i := 2) (oi := ⟨some 91, _, _, _, _, _⟩) (v := ?_) rfl (by kernel_rfl) (by kernel_rfl) (by kernel_rfl) (fun _ _ _ h => h) (Or.inl ⟨by kernel_rfl, ?_⟩) (by assumption) ?_
                    rotate_left
                    focus ((intro w hSw; (try dsimp only at hSw); go_simp); (try with_reducible rfl); done)
                    simp only [Act.put, List.setIfInBounds_toArray, List.set_cons_zero, List.set_cons_succ]
                    refine wpAnyH_take (i := 3) (oi := ⟨some 92, _, _, _, _, _⟩) (v := ?_) rfl (by kernel_rfl) (by kernel_rfl) (by kernel_rfl) (fun _ _ _ h => h) (Or.inl ⟨by kernel_rfl, ?_⟩) (by assumption) ?_
                    rotate_left
                    focus ((intro w hSw; (try dsimp only at hSw); go_simp); (try with_reducible rfl); done)
                    simp only [Act.put, List.setIfInBounds_toArray, List.set_cons_zero, List.set_cons_succ]
                    refine wpAnyH_take (i := 4) (oi := ⟨some 93, _, _, _, _, _⟩) (v := ?_) rfl (by kernel_rfl) (by kernel_rfl) (by kernel_rfl) (fun _ _ _ h => h) (Or.inl ⟨by kernel_rfl, ?_⟩) (by assumption) ?_
                    rotate_left
                    focus ((intro w hSw; (try dsimp only at hSw); go_simp); (try with_reducible rfl); done)
                    simp only [Act.put, List.setIfInBounds_toArray, List.set_cons_zero, List.set_cons_succ]
                    refine wpAnyH_take (i := 5) (oi := ⟨some 94, _, _, _, _, _⟩) (v := ?_) rfl (by kernel_rfl) (by kernel_rfl) (by kernel_rfl) (fun _ _ _ h => h) (Or.inl ⟨by kernel_rfl, ?_⟩) (by assumption) ?_
                    rotate_left
                    focus ((intro w hSw; (try dsimp only at hSw); go_simp); (try with_reducible rfl); done)
                    simp only [Act.put, List.setIfInBounds_toArray, List.set_cons_zero, List.set_cons_succ]
                    refine wpAnyH_take (i := 6) (oi := ⟨some 95, _, _, _, _, _⟩) (v := ?_) rfl (by kernel_rfl) (by kernel_rfl) (by kernel_rfl) (fun _ _ _ h => h) (Or.inl ⟨by kernel_rfl, ?_⟩) (by assumption) ?_
                    rotate_left
                    focus ((intro w hSw; (try dsimp only at hSw); go_simp); (try with_reducible rfl); done)
                    simp only [Act.put, List.setIfInBounds_toArray, List.set_cons_zero, List.set_cons_succ]
                    refine wpAnyH_take (i := 7) (oi := ⟨some 96, _, _, _, _, _⟩) (v := ?_) rfl (by kernel_rfl) (by kernel_rfl) (by kernel_rfl) (fun _ _ _ h => h) (Or.inl ⟨by kernel_rfl, ?_⟩) (by assumption) ?_
                    rotate_left
                    focus ((intro w hSw; (try dsimp only at hSw); go_simp); (try with_reducible rfl); done)
                    simp only [Act.put, List.setIfInBounds_toArray, List.set_cons_zero, List.set_cons_succ]
                    refine wpAnyH_take (i := 8) (oi := ⟨some 97, _, _, _, _, _⟩) (v := ?_) rfl (by kernel_rfl) (by kernel_rfl) (by kernel_rfl) (fun _ _ _ h => h) (Or.inl ⟨by kernel_rfl, ?_⟩) (by assumption) ?_
                    rotate_left
                    focus ((intro w hSw; (try dsimp only at hSw); go_simp); (try with_reducible rfl); done)
                    simp only [Act.put, List.setIfInBounds_toArray, List.set_cons_zero, List.set_cons_succ]
                    refine wpAnyH_take (i := 9) (oi := ⟨some 98, _, _, _, _, _⟩) (v := ?_) rfl (by kernel_rfl) (by kernel_rfl) (by kernel_rfl) (fun _ _ _ h => h) (Or.inl ⟨by kernel_rfl, ?_⟩) (by assumption) ?_
                    rotate_left
                    focus ((intro w hSw; (try dsimp only at hSw); go_simp); (try with_reducible rfl); done)
                    simp only [Act.put, List.setIfInBounds_toArray, List.set_cons_zero, List.set_cons_succ]
                    refine wpAnyH_take (i := 10) (oi := ⟨some 99, _, _, _, _, _⟩) (v := ?_) rfl (by kernel_rfl) (by kernel_rfl) (by kernel_rfl) (fun _ _ _ h => h) (Or.inl ⟨by kernel_rfl, ?_⟩) (by assumption) ?_
                    rotate_left
                    focus ((intro w hSw; (try dsimp only at hSw); go_simp); (try with_reducible rfl); done)
                    simp only [Act.put, List.setIfInBounds_toArray, List.set_cons_zero, List.set_cons_succ]
                    refine wpAnyH_take (i := 11) (oi := ⟨some 100, _, _, _, _, _⟩) (v := ?_) rfl (by kernel_rfl) (by kernel_rfl) (by kernel_rfl) (fun _ _ _ h => h) (Or.inl ⟨by kernel_rfl, ?_⟩) (by assumption) ?_
                    rotate_left
                    focus ((intro w hSw; (try dsimp only at hSw); go_simp); (try with_reducible rfl); done)
                    simp only [Act.put, List.setIfInBounds_toArray, List.set_cons_zero, List.set_cons_succ]
                    refine wpAnyH_ready (rs := [12]) (by kernel_rfl) (by simp) ?_
                    refine AllReadyH.cons (o := ⟨some 101, _, _, _, _, _⟩) rfl (fun K hK => ?_) AllReadyH.nil
                    go_simp
                    refine (HLK.out _ KU.out).mono ?_; rintro _ w30 ⟨⟨p30, q30, rfl, l30⟩, k30⟩; obtain ⟨r1, r2, r3, r4, r5, r6, rfl, rfl⟩ := HXL.out _ _ _ _ l30; have K30 := Lib.hid (KU.out.trans k30); have L30 := Lib.hid l30; clear l30 k30
                    refine hK.out _ _ (by first | exact HS21.out _ K31.out | exact HS21.out _ K30.out | exact HS21.out _ (Kp.refl _).drew) (fun hHeld => ?_)
                    clear hK K
                    try simp only [Act.put, List.setIfInBounds_toArray, List.set_cons_zero, List.set_cons_succ]
                    refine wpAnyH_ready (rs := [13]) (by kernel_rfl) (by simp) ?_
                    refine AllReadyH.cons (o := ⟨some 102, _, _, _, _, _⟩) rfl (fun K hK => ?_) AllReadyH.nil
                    go_simp
                    refine (HSKK.out _ _ _ K30.out L30.out).mono ?_; rintro _ w31 ⟨⟨bb, rfl, hb⟩, k31⟩; obtain rfl : bb = true := (by first | exact hb.2 rfl | exact hb.2 trivial); have K31 := Lib.hid (K30.out.trans k31); clear hb k31
                    refine hK.out _ _ (by first | exact HS21.out _ K31.out | exact HS21.out _ K30.out | exact HS21.out _ (Kp.refl _).drew) (fun hHeld => ?_)
                    clear hK K
                    try simp only [Act.put, List.setIfInBounds_toArray, List.set_cons_zero, List.set_cons_succ]
                    refine wpAnyH_take (i := 14) (oi := ⟨some 103, _, _, _, _, _⟩) (v := ?_) rfl (by kernel_rfl) (by kernel_rfl) (by kernel_rfl) (fun _ _ _ h => h) (Or.inl ⟨by kernel_rfl, ?_⟩) (by assumption) ?_
                    rotate_left
                    focus ((intro w hSw; (try dsimp only at hSw); go_simp); (try with_reducible rfl); done)
                    simp only [Act.put, List.setIfInBounds_toArray, List.set_cons_zero, List.set_cons_succ]
                    refine wpAnyH_take (i := 15) (oi := ⟨some 104, _, _, _, _, _⟩) (v := ?_) rfl (by kernel_rfl) (by kernel_rfl) (by kernel_rfl) (fun _ _ _ h => h) (Or.inl ⟨by kernel_rfl, ?_⟩) (by assumption) ?_
                    rotate_left
                    focus ((intro w hSw; (try dsimp only at hSw); go_simp); (try with_reducible rfl); done)
                    simp only [Act.put, List.setIfInBounds_toArray, List.set_cons_zero, List.set_cons_succ]
                    refine wpAnyH_take (i := 16) (oi := ⟨some 105, _, _, _, _, _⟩) (v := ?_) rfl (by kernel_rfl) (by kernel_rfl) (by kernel_rfl) (fun _ _ _ h => h) (Or.inl ⟨by kernel_rfl, ?_⟩) (by assumption) ?_
                    rotate_left
                    focus ((intro w hSw; (try dsimp only at hSw); go_simp); (try with_reducible rfl); done)
                    simp only [Act.put, List.setIfInBounds_toArray, List.set_cons_zero, List.set_cons_succ]
                    refine wpAnyH_take (i := 17) (oi := ⟨some 106, _, _, _, _, _⟩) (v := ?_) rfl (by kernel_rfl) (by kernel_rfl) (by kernel_rfl) (fun _ _ _ h => h) (Or.inl ⟨by kernel_rfl, ?_⟩) (by assumption) ?_
                    rotate_left
                    focus ((intro w hSw; (try dsimp only at hSw); go_simp); (try with_reducible rfl); done)
                    simp only [Act.put, List.setIfInBounds_toArray, List.set_cons_zero, List.set_cons_succ]
                    refine wpAnyH_take (i := 18) (oi := ⟨some 107, _, _, _, _, _⟩) (v := ?_) rfl (by kernel_rfl) (by kernel_rfl) (by kernel_rfl) (fun _ _ _ h => h) (Or.inl ⟨by kernel_rfl, ?_⟩) (by assumption) ?_
                    rotate_left
                    focus ((intro w hSw; (try dsimp only at hSw); go_simp); (try with_reducible rfl); done)
                    simp only [Act.put, List.setIfInBounds_toArray, List.set_cons_zero, List.set_cons_succ]
                    refine wpAnyH_take (i := 19) (oi := ⟨some 108, _, _, _, _, _⟩) (v := ?_) rfl (by kernel_rfl) (by kernel_rfl) (by kernel_rfl) (fun _ _ _ h => h) (Or.inl ⟨by kernel_rfl, ?_⟩) (by assumption) ?_
                    rotate_left
                    focus ((intro w hSw; (try dsimp only at hSw); go_simp); (try with_reducible rfl); done)
                    simp only [Act.put, List.setIfInBounds_toArray, List.set_cons_zero, List.set_cons_succ]
                    refine wpAnyH_take (i := 20) (oi := ⟨some 109, _, _, _, _, _⟩) (v := undef) rfl (by kernel_rfl) (by kernel_rfl) (by kernel_rfl) (fun _ _ _ h => h) (Or.inr ⟨by kernel_rfl, rfl⟩) (by assumption) ?_
                    simp only [Act.put, List.setIfInBounds_toArray, List.set_cons_zero, List.set_cons_succ]
                    refine wpAnyH_take (i := 21) (oi := ⟨some 110, _, _, _, _, _⟩) (v := undef) rfl (by kernel_rfl) (by kernel_rfl) (by kernel_rfl) (fun _ _ _ h => h) (Or.inr ⟨by kernel_rfl, rfl⟩) (by assumption) ?_
                    simp only [Act.put, List.setIfInBounds_toArray, List.set_cons_zero, List.set_cons_succ]
                    refine wpAnyH_take (i := 22) (oi := ⟨some 111, _, _, _, _, _⟩) (v := ?_) rfl (by kernel_rfl) (by kernel_rfl) (by kernel_rfl) (fun _ _ _ h => h) (Or.inl ⟨by kernel_rfl, ?_⟩) (by assumption) ?_
                    rotate_left
                    focus ((intro w hSw; (try dsimp only at hSw); go_simp); (try with_reducible rfl); done)
                    simp only [Act.put, List.setIfInBounds_toArray, List.set_cons_zero, List.set_cons_succ]
                    refine wpAnyH_take (i := 23) (oi := ⟨some 112, _, _, _, _, _⟩) (v := ?_) rfl (by kernel_rfl) (by kernel_rfl) (by kernel_rfl) (fun _ _ _ h => h) (Or.inl ⟨by kernel_rfl, ?_⟩) (by assumption) ?_
                    rotate_left
                    focus ((intro w hSw; (try dsimp only at hSw); go_simp); (try with_reducible rfl); done)
                    simp only [Act.put, List.setIfInBounds_toArray, List.set_cons_zero, List.set_cons_succ]
                    refine wpAnyH_done (by kernel_rfl) ?_ _
                    clear hHeld
                    have KV := Lib.hid (KY.out.trans K31.out)
                    have BT := Lib.hid (B20.out.kp KV.out)
                    have BS := Lib.hid (BG.out.kp KV.out)
                    have CT := Lib.hid (C20.out.kp KV.out)
                    have OT := Lib.hid (OG.out.kp KV.out)
                    have KT := Lib.hid (KA.out.trans KV.out)
                    have s9 := KT.out.cell HCI.out
                    have HLEN : Hid (T.length + 1 ≤ 1000000) := by unfold Hid; have := HTI.out; have := HTL.out; have := HNN.out; have := HLT.out; omega
                    have HBS : Hid (w3.heap.size + 1 ≤ (w31.alloc (.cells #[.int .i64 A] 3)).heap.size) := by unfold Hid; rw [World.size_alloc]; have := (Array.getElem?_eq_some_iff.1 BS.out).1; omega
                    have OA := Lib.hid (OT.out.kp ((Kp.refl w31).alloc (.cells #[.int .i64 A] 3)))
                    have HAC : Hid ((w31.alloc (.cells #[.int .i64 A] 3)).cell? ((⟨w31.heap.size, 0, none⟩ : Addr).add 0) = some (.int .i64 A)) := (Bx.new w31 3 #[.int .i64 A]).cell 0
                    have HOW : Hid (∀ k, (Value.slice t1 j t2).ownBlock = some k → w3.heap.size + 1 ≤ k ∧ k < wb.heap.size) := OB.out.lt
                    have BT2 := Lib.hid (BT.out.kp ((Kp.refl w31).alloc (.cells #[.int .i64 A] 3)))
                    have BS2 := Lib.hid (BS.out.kp ((Kp.refl w31).alloc (.cells #[.int .i64 A] 3)))
                    have CT2 := Lib.hid (CT.out.kp ((Kp.refl w31).alloc (.cells #[.int .i64 A] 3)))
                    have KT2 := Lib.hid (KT.out.alloc (.cells #[.int .i64 A] 3))
                    have HW3 := Lib.hid (KR.out.size)
                    go_wp2_with (first
                      | (at_builtin; refine wpList_append_iat (o := ⟨some 121, _, _, _, _, _⟩) intS1 rfl _ _ rfl (w3.heap.size + 1) _ T rfl OA.out ⟨w31.heap.size, 0, none⟩ A rfl HAC.out HLEN.out HBS.out ?_; intro vt w40 o40 g40 h40; have BT4 := Lib.hid (BT2.out.moved g40 (fun k hk e => by have h1 := HOW.out k hk; have h2 := HG.out; omega)); have BS4 := Lib.hid (BS2.out.moved g40 (fun k hk e => by have h1 := HOW.out k hk; omega)); have CT4 := Lib.hid (CT2.out.moved g40 h40); have KT4 : Hid (Kp w w40) := Kp.grown KT2.out g40 (fun k hk => by have h1 := HOW.out k hk; have h2 := K3.out.size; omega); have OT4 := Lib.hid o40; obtain ⟨z0, z1, z2⟩ := cells3 BT4.out; clear o40 g40 h40)
                      | (refine wpList_store_row rfl rfl 25 (.tmp 6) (.tmp 122) rfl w3.heap.size 25 _ #[.int .i64 DX, .slice ya yb yc, .slice yd DL yf] rfl rfl BS4.out rfl (three_one rfl rfl rfl) infoCh3 ?_; intro w50 b50 g50 kp50)
                      | fail)
                    have c50 := CT4.out.put g50 (.inr rfl)
                    have o50 := OT4.out.keptAt g50 (Nat.lt_succ_self _)
                    have k50 := kp50 w KT4.out K3.out.size
                    rw [← HDX.out] at b50
                    go_roundw
                    case rel => exact ⟨i + 1, T ++ [A], D, _, _, HLT.out, by go_num, o50, by have := HTI.out; have := HTL.out; simp; omega, b50, c50, (HTOOK.out (by first | rfl | trivial)).2, by have h1 := HNEXT.out; have h2 := HNB.out; have h3 := HDX.out; omega, k50⟩
                    case measure => have := HLT.out; simp [intOf]; omega
              · have hq0 : (E == 0) = false := beq_eq_false_iff_ne.2 hE0
                have hq1 : (E != 0) = true := bne_iff_ne.2 hE0
                have hDc : D = c := (HBAD.out hE0).1
                have HSD := Lib.hid (refSame13_any _ _ _ _ D c w21 (C20.out.cin.kp K21.out) (CG.out.cin.kp K21.out))
                rw [HDX.out, HNX.out] at HSD
                have HONX : Hid (Onc S D T) := by unfold Hid; rw [hDc]; exact HON2.out
                obtain ⟨s0, s1, s2⟩ := cells3 (B20.out.kp K21.out)
                obtain ⟨s3, s4, s5⟩ := cells3 (BG.out.kp K21.out)
                go_wp2_with fail
                refine HSD.out.mono ?_
                rintro _ w22 ⟨⟨bb, rfl, hb⟩, k22⟩
                obtain rfl : bb = true := hb.2 hDc
                have K22 := Lib.hid (K21.out.trans k22)
                clear hb k22 s0 s1 s2 s3 s4 s5 hDc HSD
                go_wp2_with fail
                have KX1 := Lib.hid (KA.out.trans K22.out)
                skip
                go_loopw [13, 14] (fun hv jv wq => ∃ j : Nat, j ≤ TL ∧ jv = .int .i64 (j : Int) ∧ hv = .bool (decide (A ∈ T.take j)) ∧ Kp w22 wq) (fun _ jv _ => (TL - (intOf jv).toNat))
                case atStart => exact ⟨0, Nat.zero_le _, rfl, by simp, Kp.refl _⟩
                case round =>
                  obtain ⟨j, hj, rfl, rfl, hkj⟩ := hrel
                  have KJ := Lib.hid hkj
                  clear hkj
                  obtain ⟨wj, hwj⟩ : ∃ x : World, x = wr := ⟨_, rfl⟩
                  subst hwj
                  by_cases hjt : j < TL
                  · have j1 : (j : Int) < (TL : Int) := by omega
                    have j2 : IntKind.i64.wrap ((j : Int) + 1) = (j : Int) + 1 := IntWalk.i64_in _ (by have := HTI.out; omega)
                    have hst := had_step (T := T) (A := A) (j := j) (by rw [HTL.out]; exact hjt)
                    obtain ⟨b7, o7, rfl, _, hc7⟩ := (OG.out.kp (K22.out.trans KJ.out)).ri.at j hjt
                    have h7 := hc7 j hjt
                    obtain ⟨TJ, hTJ⟩ : ∃ z, T.getD j 0 = z := ⟨_, rfl⟩
                    rw [hTJ] at h7 hst
                    obtain ⟨hd, hhd⟩ : ∃ b, decide (A ∈ T.take j) = b := ⟨_, rfl⟩
                    rw [hhd]
                    have HS20 : Hid (∀ W, Kp wj W → W.cell? ⟨b7, o7 + j, none⟩ = some (.int .i64 TJ) ∧ W.cell? ⟨g1, o1 + i, none⟩ = some (.int .i64 A)) := fun W hW => ⟨hW.cell h7, hW.cell (KJ.out.cell (KX1.out.cell HCI.out))⟩
                    have HST20 := Lib.hid hst
                    have HHD := Lib.hid hhd
                    have HJT := Lib.hid hjt
                    clear hc7 h7 hTJ hst hhd hjt
                    cases hd
                    · by_cases hq : TJ = A
                      · have j3 : (TJ == A) = true := beq_iff_eq.2 hq
                        have HQ := Lib.hid hq
                        clear hq
                        go_wp2_with fail
                        refine wp_region_held_drew (S := fun W => W.cell? ⟨b7, o7 + j, none⟩ = some (.int .i64 TJ) ∧ W.cell? ⟨g1, o1 + i, none⟩ = some (.int .i64 A)) (by kernel_rfl) (HS20.out _ (Kp.refl _).drew) (fun hHeld => ?_)
                        obtain ⟨wu, hwu⟩ : ∃ x, wj.drew = x := ⟨_, rfl⟩
                        have KU : Hid (Kp wj wu) := by unfold Hid; rw [← hwu]; exact (Kp.refl _).drew
                        rw [hwu] at hHeld ⊢
                        clear hwu
                        refine wpAnyH_take (i := 0) (oi := ⟨some 77, _, _, _, _, _⟩) (v := ?_) rfl (by kernel_rfl) (by kernel_rfl) (by kernel_rfl) (fun _ _ _ h => h) (Or.inl ⟨by kernel_rfl, ?_⟩) (by assumption) ?_
                        rotate_left
                        focus ((intro w hSw; (try dsimp only at hSw); go_simp); (try with_reducible rfl); done)
                        simp only [Act.put, List.setIfInBounds_toArray, List.set_cons_zero, List.set_cons_succ]
                        refine wpAnyH_take (i := 1) (oi := ⟨some 78, _, _, _, _, _⟩) (v := ?_) rfl (by kernel_rfl) (by kernel_rfl) (by kernel_rfl) (fun _ _ _ h => h) (Or.inl ⟨by kernel_rfl, ?_⟩) (by assumption) ?_
                        rotate_left
                        focus ((intro w hSw; (try dsimp only at hSw); go_simp); (try with_reducible rfl); done)
                        simp only [Act.put, List.setIfInBounds_toArray, List.set_cons_zero, List.set_cons_succ]
                        refine wpAnyH_take (i := 2) (oi := ⟨some 79, _, _, _, _, _⟩) (v := ?_) rfl (by kernel_rfl) (by kernel_rfl) (by kernel_rfl) (fun _ _ _ h => h) (Or.inl ⟨by kernel_rfl, ?_⟩) (by assumption) ?_
                        rotate_left
                        focus ((intro w hSw; (try dsimp only at hSw); go_simp); (try with_reducible rfl); done)
                        simp only [Act.put, List.setIfInBounds_toArray, List.set_cons_zero, List.set_cons_succ]
                        refine wpAnyH_take (i := 3) (oi := ⟨some 80, _, _, _, _, _⟩) (v := ?_) rfl (by kernel_rfl) (by kernel_rfl) (by kernel_rfl) (fun _ _ _ h => h) (Or.inl ⟨by kernel_rfl, ?_⟩) (by assumption) ?_
                        rotate_left
                        focus ((intro w hSw; (try dsimp only at hSw); go_simp); (try with_reducible rfl); done)
                        simp only [Act.put, List.setIfInBounds_toArray, List.set_cons_zero, List.set_cons_succ]
                        refine wpAnyH_take (i := 4) (oi := ⟨some 81, _, _, _, _, _⟩) (v := ?_) rfl (by kernel_rfl) (by kernel_rfl) (by kernel_rfl) (fun _ _ _ h => h) (Or.inl ⟨by kernel_rfl, ?_⟩) (by assumption) ?_
                        rotate_left
                        focus ((intro w hSw; (try dsimp only at hSw); go_simp); (try with_reducible rfl); done)
                        simp only [Act.put, List.setIfInBounds_toArray, List.set_cons_zero, List.set_cons_succ]
                        refine wpAnyH_take (i := 5) (oi := ⟨some 82, _, _, _, _, _⟩) (v := ?_) rfl (by kernel_rfl) (by kernel_rfl) (by kernel_rfl) (fun _ _ _ h => h) (Or.inl ⟨by kernel_rfl, ?_⟩) (by assumption) ?_
                        rotate_left
                        focus ((intro w hSw; (try dsimp only at hSw); go_simp); (try with_reducible rfl); done)
                        simp only [Act.put, List.setIfInBounds_toArray, List.set_cons_zero, List.set_cons_succ]
                        refine wpAnyH_take (i := 6) (oi := ⟨some 83, _, _, _, _, _⟩) (v := ?_) rfl (by kernel_rfl) (by kernel_rfl) (by kernel_rfl) (fun _ _ _ h => h) (Or.inl ⟨by kernel_rfl, ?_⟩) (by assumption) ?_
                        rotate_left
                        focus ((intro w hSw; (try dsimp only at hSw); go_simp); (try with_reducible rfl); done)
                        simp only [Act.put, List.setIfInBounds_toArray, List.set_cons_zero, List.set_cons_succ]
                        refine wpAnyH_take (i := 7) (oi := ⟨some 84, _, _, _, _, _⟩) (v := ?_) rfl (by kernel_rfl) (by kernel_rfl) (by kernel_rfl) (fun _ _ _ h => h) (Or.inl ⟨by kernel_rfl, ?_⟩) (by assumption) ?_
                        rotate_left
                        focus ((intro w hSw; (try dsimp only at hSw); go_simp); (try with_reducible rfl); done)
                        simp only [Act.put, List.setIfInBounds_toArray, List.set_cons_zero, List.set_cons_succ]
                        refine wpAnyH_take (i := 8) (oi := ⟨some 85, _, _, _, _, _⟩) (v := ?_) rfl (by kernel_rfl) (by kernel_rfl) (by kernel_rfl) (fun _ _ _ h => h) (Or.inl ⟨by kernel_rfl, ?_⟩) (by assumption) ?_
                        rotate_left
                        focus ((intro w hSw; (try dsimp only at hSw); go_simp); (try with_reducible rfl); done)
                        simp only [Act.put, List.setIfInBounds_toArray, List.set_cons_zero, List.set_cons_succ]
                        refine wpAnyH_take (i := 9) (oi := ⟨some 86, _, _, _, _, _⟩) (v := ?_) rfl (by kernel_rfl) (by kernel_rfl) (by kernel_rfl) (fun _ _ _ h => h) (Or.inl ⟨by kernel_rfl, ?_⟩) (by assumption) ?_
                        rotate_left
                        focus ((intro w hSw; (try dsimp only at hSw); go_simp); (try with_reducible rfl); done)
                        simp only [Act.put, List.setIfInBounds_toArray, List.set_cons_zero, List.set_cons_succ]
                        refine wpAnyH_take (i := 10) (oi := ⟨some 87, _, _, _, _, _⟩) (v := ?_) rfl (by kernel_rfl) (by kernel_rfl) (by kernel_rfl) (fun _ _ _ h => h) (Or.inl ⟨by kernel_rfl, ?_⟩) (by assumption) ?_
                        rotate_left
                        focus ((intro w hSw; (try dsimp only at hSw); go_simp); (try with_reducible rfl); done)
                        simp only [Act.put, List.setIfInBounds_toArray, List.set_cons_zero, List.set_cons_succ]
                        refine wpAnyH_take (i := 11) (oi := ⟨some 88, _, _, _, _, _⟩) (v := ?_) rfl (by kernel_rfl) (by kernel_rfl) (by kernel_rfl) (fun _ _ _ h => h) (Or.inl ⟨by kernel_rfl, ?_⟩) (by assumption) ?_
                        rotate_left
                        focus ((intro w hSw; (try dsimp only at hSw); go_simp); (try with_reducible rfl); done)
                        simp only [Act.put, List.setIfInBounds_toArray, List.set_cons_zero, List.set_cons_succ]
                        refine wpAnyH_take (i := 12) (oi := ⟨some 13, _, _, _, _, _⟩) (v := ?_) rfl (by kernel_rfl) (by kernel_rfl) (by kernel_rfl) (fun _ _ _ h => h) (Or.inl ⟨by kernel_rfl, ?_⟩) (by assumption) ?_
                        rotate_left
                        focus ((intro w hSw; (try dsimp only at hSw); go_simp); (try with_reducible rfl); done)
                        simp only [Act.put, List.setIfInBounds_toArray, List.set_cons_zero, List.set_cons_succ]
                        refine wpAnyH_done (by kernel_rfl) ?_ _
                        clear hHeld
                        go_wp2_with fail
                        go_roundw
                        case rel => exact ⟨j + 1, by have := HJT.out; omega, by first | rfl | go_num, by congr 1; exact (decide_eq_true (HST20.out.2 (.inr HQ.out))).symm, KJ.out.trans KU.out⟩
                        case measure => have := HJT.out; simp [intOf]; omega
                      · have j3 : (TJ == A) = false := beq_eq_false_iff_ne.2 hq
                        have HQ := Lib.hid hq
                        clear hq
                        go_wp2_with fail
                        refine wp_region_held_drew (S := fun W => W.cell? ⟨b7, o7 + j, none⟩ = some (.int .i64 TJ) ∧ W.cell? ⟨g1, o1 + i, none⟩ = some (.int .i64 A)) (by kernel_rfl) (HS20.out _ (Kp.refl _).drew) (fun hHeld => ?_)
                        obtain ⟨wu, hwu⟩ : ∃ x, wj.drew = x := ⟨_, rfl⟩
                        have KU : Hid (Kp wj wu) := by unfold Hid; rw [← hwu]; exact (Kp.refl _).drew
                        rw [hwu] at hHeld ⊢
                        clear hwu
                        refine wpAnyH_take (i := 0) (oi := ⟨some 77, _, _, _, _, _⟩) (v := ?_) rfl (by kernel_rfl) (by kernel_rfl) (by kernel_rfl) (fun _ _ _ h => h) (Or.inl ⟨by kernel_rfl, ?_⟩) (by assumption) ?_
                        rotate_left
                        focus ((intro w hSw; (try dsimp only at hSw); go_simp); (try with_reducible rfl); done)
                        simp only [Act.put, List.setIfInBounds_toArray, List.set_cons_zero, List.set_cons_succ]
                        refine wpAnyH_take (i := 1) (oi := ⟨some 78, _, _, _, _, _⟩) (v := ?_) rfl (by kernel_rfl) (by kernel_rfl) (by kernel_rfl) (fun _ _ _ h => h) (Or.inl ⟨by kernel_rfl, ?_⟩) (by assumption) ?_
                        rotate_left
                        focus ((intro w hSw; (try dsimp only at hSw); go_simp); (try with_reducible rfl); done)
                        simp only [Act.put, List.setIfInBounds_toArray, List.set_cons_zero, List.set_cons_succ]
                        refine wpAnyH_take (i := 2) (oi := ⟨some 79, _, _, _, _, _⟩) (v := ?_) rfl (by kernel_rfl) (by kernel_rfl) (by kernel_rfl) (fun _ _ _ h => h) (Or.inl ⟨by kernel_rfl, ?_⟩) (by assumption) ?_
                        rotate_left
                        focus ((intro w hSw; (try dsimp only at hSw); go_simp); (try with_reducible rfl); done)
                        simp only [Act.put, List.setIfInBounds_toArray, List.set_cons_zero, List.set_cons_succ]
                        refine wpAnyH_take (i := 3) (oi := ⟨some 80, _, _, _, _, _⟩) (v := ?_) rfl (by kernel_rfl) (by kernel_rfl) (by kernel_rfl) (fun _ _ _ h => h) (Or.inl ⟨by kernel_rfl, ?_⟩) (by assumption) ?_
                        rotate_left
                        focus ((intro w hSw; (try dsimp only at hSw); go_simp); (try with_reducible rfl); done)
                        simp only [Act.put, List.setIfInBounds_toArray, List.set_cons_zero, List.set_cons_succ]
                        refine wpAnyH_take (i := 4) (oi := ⟨some 81, _, _, _, _, _⟩) (v := ?_) rfl (by kernel_rfl) (by kernel_rfl) (by kernel_rfl) (fun _ _ _ h => h) (Or.inl ⟨by kernel_rfl, ?_⟩) (by assumption) ?_
                        rotate_left
                        focus ((intro w hSw; (try dsimp only at hSw); go_simp); (try with_reducible rfl); done)
                        simp only [Act.put, List.setIfInBounds_toArray, List.set_cons_zero, List.set_cons_succ]
                        refine wpAnyH_take (i := 5) (oi := ⟨some 82, _, _, _, _, _⟩) (v := ?_) rfl (by kernel_rfl) (by kernel_rfl) (by kernel_rfl) (fun _ _ _ h => h) (Or.inl ⟨by kernel_rfl, ?_⟩) (by assumption) ?_
                        rotate_left
                        focus ((intro w hSw; (try dsimp only at hSw); go_simp); (try with_reducible rfl); done)
                        simp only [Act.put, List.setIfInBounds_toArray, List.set_cons_zero, List.set_cons_succ]
                        refine wpAnyH_take (i := 6) (oi := ⟨some 83, _, _, _, _, _⟩) (v := ?_) rfl (by kernel_rfl) (by kernel_rfl) (by kernel_rfl) (fun _ _ _ h => h) (Or.inl ⟨by kernel_rfl, ?_⟩) (by assumption) ?_
                        rotate_left
                        focus ((intro w hSw; (try dsimp only at hSw); go_simp); (try with_reducible rfl); done)
                        simp only [Act.put, List.setIfInBounds_toArray, List.set_cons_zero, List.set_cons_succ]
                        refine wpAnyH_take (i := 7) (oi := ⟨some 84, _, _, _, _, _⟩) (v := ?_) rfl (by kernel_rfl) (by kernel_rfl) (by kernel_rfl) (fun _ _ _ h => h) (Or.inl ⟨by kernel_rfl, ?_⟩) (by assumption) ?_
                        rotate_left
                        focus ((intro w hSw; (try dsimp only at hSw); go_simp); (try with_reducible rfl); done)
                        simp only [Act.put, List.setIfInBounds_toArray, List.set_cons_zero, List.set_cons_succ]
                        refine wpAnyH_take (i := 8) (oi := ⟨some 85, _, _, _, _, _⟩) (v := ?_) rfl (by kernel_rfl) (by kernel_rfl) (by kernel_rfl) (fun _ _ _ h => h) (Or.inl ⟨by kernel_rfl, ?_⟩) (by assumption) ?_
                        rotate_left
                        focus ((intro w hSw; (try dsimp only at hSw); go_simp); (try with_reducible rfl); done)
                        simp only [Act.put, List.setIfInBounds_toArray, List.set_cons_zero, List.set_cons_succ]
                        refine wpAnyH_take (i := 9) (oi := ⟨some 86, _, _, _, _, _⟩) (v := ?_) rfl (by kernel_rfl) (by kernel_rfl) (by kernel_rfl) (fun _ _ _ h => h) (Or.inl ⟨by kernel_rfl, ?_⟩) (by assumption) ?_
                        rotate_left
                        focus ((intro w hSw; (try dsimp only at hSw); go_simp); (try with_reducible rfl); done)
                        simp only [Act.put, List.setIfInBounds_toArray, List.set_cons_zero, List.set_cons_succ]
                        refine wpAnyH_take (i := 10) (oi := ⟨some 87, _, _, _, _, _⟩) (v := ?_) rfl (by kernel_rfl) (by kernel_rfl) (by kernel_rfl) (fun _ _ _ h => h) (Or.inl ⟨by kernel_rfl, ?_⟩) (by assumption) ?_
                        rotate_left
                        focus ((intro w hSw; (try dsimp only at hSw); go_simp); (try with_reducible rfl); done)
                        simp only [Act.put, List.setIfInBounds_toArray, List.set_cons_zero, List.set_cons_succ]
                        refine wpAnyH_take (i := 11) (oi := ⟨some 88, _, _, _, _, _⟩) (v := ?_) rfl (by kernel_rfl) (by kernel_rfl) (by kernel_rfl) (fun _ _ _ h => h) (Or.inl ⟨by kernel_rfl, ?_⟩) (by assumption) ?_
                        rotate_left
                        focus ((intro w hSw; (try dsimp only at hSw); go_simp); (try with_reducible rfl); done)
                        simp only [Act.put, List.setIfInBounds_toArray, List.set_cons_zero, List.set_cons_succ]
                        refine wpAnyH_take (i := 12) (oi := ⟨some 13, _, _, _, _, _⟩) (v := ?_) rfl (by kernel_rfl) (by kernel_rfl) (by kernel_rfl) (fun _ _ _ h => h) (Or.inl ⟨by kernel_rfl, ?_⟩) (by assumption) ?_
                        rotate_left
                        focus ((intro w hSw; (try dsimp only at hSw); go_simp); (try with_reducible rfl); done)
                        simp only [Act.put, List.setIfInBounds_toArray, List.set_cons_zero, List.set_cons_succ]
                        refine wpAnyH_done (by kernel_rfl) ?_ _
                        clear hHeld
                        go_wp2_with fail
                        go_roundw
                        case rel => exact ⟨j + 1, by have := HJT.out; omega, by first | rfl | go_num, by congr 1; exact (decide_eq_false fun h => (HST20.out.1 h).elim (of_decide_eq_false HHD.out) HQ.out).symm, KJ.out.trans KU.out⟩
                        case measure => have := HJT.out; simp [intOf]; omega
                    · go_wp2_with fail
                      refine wp_region_held_drew (S := fun W => W.cell? ⟨b7, o7 + j, none⟩ = some (.int .i64 TJ) ∧ W.cell? ⟨g1, o1 + i, none⟩ = some (.int .i64 A)) (by kernel_rfl) (HS20.out _ (Kp.refl _).drew) (fun hHeld => ?_)
                      obtain ⟨wu, hwu⟩ : ∃ x, wj.drew = x := ⟨_, rfl⟩
                      have KU : Hid (Kp wj wu) := by unfold Hid; rw [← hwu]; exact (Kp.refl _).drew
                      rw [hwu] at hHeld ⊢
                      clear hwu
                      refine wpAnyH_take (i := 0) (oi := ⟨some 77, _, _, _, _, _⟩) (v := ?_) rfl (by kernel_rfl) (by kernel_rfl) (by kernel_rfl) (fun _ _ _ h => h) (Or.inl ⟨by kernel_rfl, ?_⟩) (by assumption) ?_
                      rotate_left
                      focus ((intro w hSw; (try dsimp only at hSw); go_simp); (try with_reducible rfl); done)
                      simp only [Act.put, List.setIfInBounds_toArray, List.set_cons_zero, List.set_cons_succ]
                      refine wpAnyH_take (i := 1) (oi := ⟨some 78, _, _, _, _, _⟩) (v := ?_) rfl (by kernel_rfl) (by kernel_rfl) (by kernel_rfl) (fun _ _ _ h => h) (Or.inl ⟨by kernel_rfl, ?_⟩) (by assumption) ?_
                      rotate_left
                      focus ((intro w hSw; (try dsimp only at hSw); go_simp); (try with_reducible rfl); done)
                      simp only [Act.put, List.setIfInBounds_toArray, List.set_cons_zero, List.set_cons_succ]
                      refine wpAnyH_take (i := 2) (oi := ⟨some 79, _, _, _, _, _⟩) (v := undef) rfl (by kernel_rfl) (by kernel_rfl) (by kernel_rfl) (fun _ _ _ h => h) (Or.inr ⟨by kernel_rfl, rfl⟩) (by assumption) ?_
                      simp only [Act.put, List.setIfInBounds_toArray, List.set_cons_zero, List.set_cons_succ]
                      refine wpAnyH_take (i := 3) (oi := ⟨some 80, _, _, _, _, _⟩) (v := undef) rfl (by kernel_rfl) (by kernel_rfl) (by kernel_rfl) (fun _ _ _ h => h) (Or.inr ⟨by kernel_rfl, rfl⟩) (by assumption) ?_
                      simp only [Act.put, List.setIfInBounds_toArray, List.set_cons_zero, List.set_cons_succ]
                      refine wpAnyH_take (i := 4) (oi := ⟨some 81, _, _, _, _, _⟩) (v := undef) rfl (by kernel_rfl) (by kernel_rfl) (by kernel_rfl) (fun _ _ _ h => h) (Or.inr ⟨by kernel_rfl, rfl⟩) (by assumption) ?_
                      simp only [Act.put, List.setIfInBounds_toArray, List.set_cons_zero, List.set_cons_succ]
                      refine wpAnyH_take (i := 5) (oi := ⟨some 82, _, _, _, _, _⟩) (v := undef) rfl (by kernel_rfl) (by kernel_rfl) (by kernel_rfl) (fun _ _ _ h => h) (Or.inr ⟨by kernel_rfl, rfl⟩) (by assumption) ?_
                      simp only [Act.put, List.setIfInBounds_toArray, List.set_cons_zero, List.set_cons_succ]
                      refine wpAnyH_take (i := 6) (oi := ⟨some 83, _, _, _, _, _⟩) (v := undef) rfl (by kernel_rfl) (by kernel_rfl) (by kernel_rfl) (fun _ _ _ h => h) (Or.inr ⟨by kernel_rfl, rfl⟩) (by assumption) ?_
                      simp only [Act.put, List.setIfInBounds_toArray, List.set_cons_zero, List.set_cons_succ]
                      refine wpAnyH_take (i := 7) (oi := ⟨some 84, _, _, _, _, _⟩) (v := undef) rfl (by kernel_rfl) (by kernel_rfl) (by kernel_rfl) (fun _ _ _ h => h) (Or.inr ⟨by kernel_rfl, rfl⟩) (by assumption) ?_
                      simp only [Act.put, List.setIfInBounds_toArray, List.set_cons_zero, List.set_cons_succ]
                      refine wpAnyH_take (i := 8) (oi := ⟨some 85, _, _, _, _, _⟩) (v := undef) rfl (by kernel_rfl) (by kernel_rfl) (by kernel_rfl) (fun _ _ _ h => h) (Or.inr ⟨by kernel_rfl, rfl⟩) (by assumption) ?_
                      simp only [Act.put, List.setIfInBounds_toArray, List.set_cons_zero, List.set_cons_succ]
                      refine wpAnyH_take (i := 9) (oi := ⟨some 86, _, _, _, _, _⟩) (v := undef) rfl (by kernel_rfl) (by kernel_rfl) (by kernel_rfl) (fun _ _ _ h => h) (Or.inr ⟨by kernel_rfl, rfl⟩) (by assumption) ?_
                      simp only [Act.put, List.setIfInBounds_toArray, List.set_cons_zero, List.set_cons_succ]
                      refine wpAnyH_take (i := 10) (oi := ⟨some 87, _, _, _, _, _⟩) (v := undef) rfl (by kernel_rfl) (by kernel_rfl) (by kernel_rfl) (fun _ _ _ h => h) (Or.inr ⟨by kernel_rfl, rfl⟩) (by assumption) ?_
                      simp only [Act.put, List.setIfInBounds_toArray, List.set_cons_zero, List.set_cons_succ]
                      refine wpAnyH_take (i := 11) (oi := ⟨some 88, _, _, _, _, _⟩) (v := ?_) rfl (by kernel_rfl) (by kernel_rfl) (by kernel_rfl) (fun _ _ _ h => h) (Or.inl ⟨by kernel_rfl, ?_⟩) (by assumption) ?_
                      rotate_left
                      focus ((intro w hSw; (try dsimp only at hSw); go_simp); (try with_reducible rfl); done)
                      simp only [Act.put, List.setIfInBounds_toArray, List.set_cons_zero, List.set_cons_succ]
                      refine wpAnyH_take (i := 12) (oi := ⟨some 13, _, _, _, _, _⟩) (v := ?_) rfl (by kernel_rfl) (by kernel_rfl) (by kernel_rfl) (fun _ _ _ h => h) (Or.inl ⟨by kernel_rfl, ?_⟩) (by assumption) ?_
                      rotate_left
                      focus ((intro w hSw; (try dsimp only at hSw); go_simp); (try with_reducible rfl); done)
                      simp only [Act.put, List.setIfInBounds_toArray, List.set_cons_zero, List.set_cons_succ]
                      refine wpAnyH_done (by kernel_rfl) ?_ _
                      clear hHeld
                      go_wp2_with fail
                      go_roundw
                      case rel => exact ⟨j + 1, by have := HJT.out; omega, by first | rfl | go_num, by congr 1; exact (decide_eq_true (HST20.out.2 (.inl (of_decide_eq_true HHD.out)))).symm, KJ.out.trans KU.out⟩
                      case measure => have := HJT.out; simp [intOf]; omega
                  · obtain rfl : j = TL := by omega
                    have htk : T.take j = T := List.take_of_length_le (by rw [HTL.out]; exact Nat.le_refl _)
                    rw [htk]
                    clear htk
                    have KY := Lib.hid (K22.out.trans KJ.out)
                    have KZ := Lib.hid (KX1.out.trans KJ.out)
                    have HS21 : Hid (∀ W, Kp wj W → W.cell? ⟨G11, 0, none⟩ = some (.int .i64 KX) ∧ W.cell? ⟨G11, 1, none⟩ = some (.slice q1 q2 q3) ∧ W.cell? ⟨G11, 2, none⟩ = some (.slice q4 q5 q6) ∧ W.cell? ⟨w3.heap.size, 0, none⟩ = some (.int .i64 NX) ∧ W.cell? ⟨w3.heap.size, 1, none⟩ = some (.slice e1 e2 e3) ∧ W.cell? ⟨w3.heap.size, 2, none⟩ = some (.slice e4 SL e5) ∧ W.cell? ⟨g1, o1 + i, none⟩ = some (.int .i64 A)) := fun W hW => ⟨(B21.out.kp (KY.out.trans hW)).cell 0, (B21.out.kp (KY.out.trans hW)).cell 1, (B21.out.kp (KY.out.trans hW)).cell 2, (BG.out.kp (KY.out.trans hW)).cell 0, (BG.out.kp (KY.out.trans hW)).cell 1, (BG.out.kp (KY.out.trans hW)).cell 2, hW.cell (KZ.out.cell HCI.out)⟩
                    obtain ⟨hv, hhv⟩ : ∃ b, decide (A ∈ T) = b := ⟨_, rfl⟩
                    rw [hhv]
                    cases hv
                    · clear hhv
                      go_wp2_with fail
                      refine wp_region_held_drew (S := fun W => W.cell? ⟨G11, 0, none⟩ = some (.int .i64 KX) ∧ W.cell? ⟨G11, 1, none⟩ = some (.slice q1 q2 q3) ∧ W.cell? ⟨G11, 2, none⟩ = some (.slice q4 q5 q6) ∧ W.cell? ⟨w3.heap.size, 0, none⟩ = some (.int .i64 NX) ∧ W.cell? ⟨w3.heap.size, 1, none⟩ = some (.slice e1 e2 e3) ∧ W.cell? ⟨w3.heap.size, 2, none⟩ = some (.slice e4 SL e5) ∧ W.cell? ⟨g1, o1 + i, none⟩ = some (.int .i64 A)) (by kernel_rfl) (HS21.out _ (Kp.refl _).drew) (fun hHeld => ?_)
                      obtain ⟨wu, hwu⟩ : ∃ x, wj.drew = x := ⟨_, rfl⟩
                      have KU : Hid (Kp wj wu) := by unfold Hid; rw [← hwu]; exact (Kp.refl _).drew
                      rw [hwu] at hHeld ⊢
                      clear hwu
                      refine wpAnyH_take (i := 0) (oi := ⟨some 89, _, _, _, _, _⟩) (v := ?_) rfl (by kernel_rfl) (by kernel_rfl) (by kernel_rfl) (fun _ _ _ h => h) (Or.inl ⟨by kernel_rfl, ?_⟩) (by assumption) ?_
                      rotate_left
                      focus ((intro w hSw; (try dsimp only at hSw); go_simp); (try with_reducible rfl); done)
                      simp only [Act.put, List.setIfInBounds_toArray, List.set_cons_zero, List.set_cons_succ]
                      refine wpAnyH_take (i := 1) (oi := ⟨some 90, _, _, _, _, _⟩) (v := ?_) rfl (by kernel_rfl) (by kernel_rfl) (by kernel_rfl) (fun _ _ _ h => h) (Or.inl ⟨by kernel_rfl, ?_⟩) (by assumption) ?_
                      rotate_left
                      focus ((intro w hSw; (try dsimp only at hSw); go_simp); (try with_reducible rfl); done)
                      simp only [Act.put, List.setIfInBounds_toArray, List.set_cons_zero, List.set_cons_succ]
                      refine wpAnyH_take (i := 2) (oi := ⟨some 91, _, _, _, _, _⟩) (v := ?_) rfl (by kernel_rfl) (by kernel_rfl) (by kernel_rfl) (fun _ _ _ h => h) (Or.inl ⟨by kernel_rfl, ?_⟩) (by assumption) ?_
                      rotate_left
                      focus ((intro w hSw; (try dsimp only at hSw); go_simp); (try with_reducible rfl); done)
                      simp only [Act.put, List.setIfInBounds_toArray, List.set_cons_zero, List.set_cons_succ]
                      refine wpAnyH_take (i := 3) (oi := ⟨some 92, _, _, _, _, _⟩) (v := undef) rfl (by kernel_rfl) (by kernel_rfl) (by kernel_rfl) (fun _ _ _ h => h) (Or.inr ⟨by kernel_rfl, rfl⟩) (by assumption) ?_
                      simp only [Act.put, List.setIfInBounds_toArray, List.set_cons_zero, List.set_cons_succ]
                      refine wpAnyH_take (i := 4) (oi := ⟨some 93, _, _, _, _, _⟩) (v := undef) rfl (by kernel_rfl) (by kernel_rfl) (by kernel_rfl) (fun _ _ _ h => h) (Or.inr ⟨by kernel_rfl, rfl⟩) (by assumption) ?_
                      simp only [Act.put, List.setIfInBounds_toArray, List.set_cons_zero, List.set_cons_succ]
                      refine wpAnyH_take (i := 5) (oi := ⟨some 94, _, _, _, _, _⟩) (v := undef) rfl (by kernel_rfl) (by kernel_rfl) (by kernel_rfl) (fun _ _ _ h => h) (Or.inr ⟨by kernel_rfl, rfl⟩) (by assumption) ?_
                      simp only [Act.put, List.setIfInBounds_toArray, List.set_cons_zero, List.set_cons_succ]
                      refine wpAnyH_take (i := 6) (oi := ⟨some 95, _, _, _, _, _⟩) (v := undef) rfl (by kernel_rfl) (by kernel_rfl) (by kernel_rfl) (fun _ _ _ h => h) (Or.inr ⟨by kernel_rfl, rfl⟩) (by assumption) ?_
                      simp only [Act.put, List.setIfInBounds_toArray, List.set_cons_zero, List.set_cons_succ]
                      refine wpAnyH_take (i := 7) (oi := ⟨some 96, _, _, _, _, _⟩) (v := undef) rfl (by kernel_rfl) (by kernel_rfl) (by kernel_rfl) (fun _ _ _ h => h) (Or.inr ⟨by kernel_rfl, rfl⟩) (by assumption) ?_
                      simp only [Act.put, List.setIfInBounds_toArray, List.set_cons_zero, List.set_cons_succ]
                      refine wpAnyH_take (i := 8) (oi := ⟨some 97, _, _, _, _, _⟩) (v := undef) rfl (by kernel_rfl) (by kernel_rfl) (by kernel_rfl) (fun _ _ _ h => h) (Or.inr ⟨by kernel_rfl, rfl⟩) (by assumption) ?_
                      simp only [Act.put, List.setIfInBounds_toArray, List.set_cons_zero, List.set_cons_succ]
                      refine wpAnyH_take (i := 9) (oi := ⟨some 98, _, _, _, _, _⟩) (v := undef) rfl (by kernel_rfl) (by kernel_rfl) (by kernel_rfl) (fun _ _ _ h => h) (Or.inr ⟨by kernel_rfl, rfl⟩) (by assumption) ?_
                      simp only [Act.put, List.setIfInBounds_toArray, List.set_cons_zero, List.set_cons_succ]
                      refine wpAnyH_take (i := 10) (oi := ⟨some 99, _, _, _, _, _⟩) (v := undef) rfl (by kernel_rfl) (by kernel_rfl) (by kernel_rfl) (fun _ _ _ h => h) (Or.inr ⟨by kernel_rfl, rfl⟩) (by assumption) ?_
                      simp only [Act.put, List.setIfInBounds_toArray, List.set_cons_zero, List.set_cons_succ]
                      refine wpAnyH_take (i := 11) (oi := ⟨some 100, _, _, _, _, _⟩) (v := undef) rfl (by kernel_rfl) (by kernel_rfl) (by kernel_rfl) (fun _ _ _ h => h) (Or.inr ⟨by kernel_rfl, rfl⟩) (by assumption) ?_
                      simp only [Act.put, List.setIfInBounds_toArray, List.set_cons_zero, List.set_cons_succ]
                      refine wpAnyH_take (i := 12) (oi := ⟨some 101, _, _, _, _, _⟩) (v := undef) rfl (by kernel_rfl) (by kernel_rfl) (by kernel_rfl) (fun _ _ _ h => h) (Or.inr ⟨by kernel_rfl, rfl⟩) (by assumption) ?_
                      simp only [Act.put, List.setIfInBounds_toArray, List.set_cons_zero, List.set_cons_succ]
                      refine wpAnyH_take (i := 13) (oi := ⟨some 102, _, _, _, _, _⟩) (v := undef) rfl (by kernel_rfl) (by kernel_rfl) (by kernel_rfl) (fun _ _ _ h => h) (Or.inr ⟨by kernel_rfl, rfl⟩) (by assumption) ?_
                      simp only [Act.put, List.setIfInBounds_toArray, List.set_cons_zero, List.set_cons_succ]
                      refine wpAnyH_take (i := 14) (oi := ⟨some 103, _, _, _, _, _⟩) (v := undef) rfl (by kernel_rfl) (by kernel_rfl) (by kernel_rfl) (fun _ _ _ h => h) (Or.inr ⟨by kernel_rfl, rfl⟩) (by assumption) ?_
                      simp only [Act.put, List.setIfInBounds_toArray, List.set_cons_zero, List.set_cons_succ]
                      refine wpAnyH_take (i := 15) (oi := ⟨some 104, _, _, _, _, _⟩) (v := undef) rfl (by kernel_rfl) (by kernel_rfl) (by kernel_rfl) (fun _ _ _ h => h) (Or.inr ⟨by kernel_rfl, rfl⟩) (by assumption) ?_
                      simp only [Act.put, List.setIfInBounds_toArray, List.set_cons_zero, List.set_cons_succ]
                      refine wpAnyH_take (i := 16) (oi := ⟨some 105, _, _, _, _, _⟩) (v := ?_) rfl (by kernel_rfl) (by kernel_rfl) (by kernel_rfl) (fun _ _ _ h => h) (Or.inl ⟨by kernel_rfl, ?_⟩) (by assumption) ?_
                      rotate_left
                      focus ((intro w hSw; (try dsimp only at hSw); go_simp); (try with_reducible rfl); done)
                      simp only [Act.put, List.setIfInBounds_toArray, List.set_cons_zero, List.set_cons_succ]
                      refine wpAnyH_take (i := 17) (oi := ⟨some 106, _, _, _, _, _⟩) (v := ?_) rfl (by kernel_rfl) (by kernel_rfl) (by kernel_rfl) (fun _ _ _ h => h) (Or.inl ⟨by kernel_rfl, ?_⟩) (by assumption) ?_
                      rotate_left
                      focus ((intro w hSw; (try dsimp only at hSw); go_simp); (try with_reducible rfl); done)
                      simp only [Act.put, List.setIfInBounds_toArray, List.set_cons_zero, List.set_cons_succ]
                      refine wpAnyH_take (i := 18) (oi := ⟨some 107, _, _, _, _, _⟩) (v := ?_) rfl (by kernel_rfl) (by kernel_rfl) (by kernel_rfl) (fun _ _ _ h => h) (Or.inl ⟨by kernel_rfl, ?_⟩) (by assumption) ?_
                      rotate_left
                      focus ((intro w hSw; (try dsimp only at hSw); go_simp); (try with_reducible rfl); done)
                      simp only [Act.put, List.setIfInBounds_toArray, List.set_cons_zero, List.set_cons_succ]
                      refine wpAnyH_take (i := 19) (oi := ⟨some 108, _, _, _, _, _⟩) (v := ?_) rfl (by kernel_rfl) (by kernel_rfl) (by kernel_rfl) (fun _ _ _ h => h) (Or.inl ⟨by kernel_rfl, ?_⟩) (by assumption) ?_
                      rotate_left
                      focus ((intro w hSw; (try dsimp only at hSw); go_simp); (try with_reducible rfl); done)
                      simp only [Act.put, List.setIfInBounds_toArray, List.set_cons_zero, List.set_cons_succ]
                      refine wpAnyH_take (i := 20) (oi := ⟨some 109, _, _, _, _, _⟩) (v := undef) rfl (by kernel_rfl) (by kernel_rfl) (by kernel_rfl) (fun _ _ _ h => h) (Or.inr ⟨by kernel_rfl, rfl⟩) (by assumption) ?_
                      simp only [Act.put, List.setIfInBounds_toArray, List.set_cons_zero, List.set_cons_succ]
                      refine wpAnyH_take (i := 21) (oi := ⟨some 110, _, _, _, _, _⟩) (v := undef) rfl (by kernel_rfl) (by kernel_rfl) (by kernel_rfl) (fun _ _ _ h => h) (Or.inr ⟨by kernel_rfl, rfl⟩) (by assumption) ?_
                      simp only [Act.put, List.setIfInBounds_toArray, List.set_cons_zero, List.set_cons_succ]
                      refine wpAnyH_take (i := 22) (oi := ⟨some 111, _, _, _, _, _⟩) (v := ?_) rfl (by kernel_rfl) (by kernel_rfl) (by kernel_rfl) (fun _ _ _ h => h) (Or.inl ⟨by kernel_rfl, ?_⟩) (by assumption) ?_
                      rotate_left
                      focus ((intro w hSw; (try dsimp only at hSw); go_simp); (try with_reducible rfl); done)
                      simp only [Act.put, List.setIfInBounds_toArray, List.set_cons_zero, List.set_cons_succ]
                      refine wpAnyH_take (i := 23) (oi := ⟨some 112, _, _, _, _, _⟩) (v := ?_) rfl (by kernel_rfl) (by kernel_rfl) (by kernel_rfl) (fun _ _ _ h => h) (Or.inl ⟨by kernel_rfl, ?_⟩) (by assumption) ?_
                      rotate_left
                      focus ((intro w hSw; (try dsimp only at hSw); go_simp); (try with_reducible rfl); done)
                      simp only [Act.put, List.setIfInBounds_toArray, List.set_cons_zero, List.set_cons_succ]
                      refine wpAnyH_done (by kernel_rfl) ?_ _
                      clear hHeld
                      have KV := Lib.hid (KY.out.trans KU.out)
                      have BT := Lib.hid (B20.out.kp KV.out)
                      have BS := Lib.hid (BG.out.kp KV.out)
                      have CT := Lib.hid (C20.out.kp KV.out)
                      have OT := Lib.hid (OG.out.kp KV.out)
                      have KT := Lib.hid (KA.out.trans KV.out)
                      obtain ⟨z0, z1, z2⟩ := cells3 BT.out
                      go_wp2_with (first | (refine wpList_store_row rfl rfl 25 (.tmp 6) (.tmp 122) rfl w3.heap.size 25 _ #[.int .i64 DX, .slice ya yb yc, .slice yd DL yf] rfl rfl BS.out rfl (three_one rfl rfl rfl) infoCh3 ?_; intro w50 b50 g50 kp50) | fail)
                      have c50 := CT.out.put g50 (.inr rfl)
                      have o50 := OT.out.keptAt g50 (Nat.lt_succ_self _)
                      have k50 := kp50 w KT.out K3.out.size
                      rw [← HDX.out] at b50
                      go_roundw
                      case rel => exact ⟨i + 1, T, D, _, _, HLT.out, by go_num, o50, by have := HTI.out; have := HTL.out; simp; omega, b50, c50, HONX.out, by have h1 := HNEXT.out; have h2 := HNB.out; have h3 := HDX.out; omega, k50⟩
                      case measure => have := HLT.out; simp [intOf]; omega
                    · have hE9 : E = 9 := HHAD.out (of_decide_eq_true hhv)
                      subst hE9
                      clear hhv
                      go_wp2_with fail
                      refine wp_region_held_drew (S := fun W => W.cell? ⟨G11, 0, none⟩ = some (.int .i64 KX) ∧ W.cell? ⟨G11, 1, none⟩ = some (.slice q1 q2 q3) ∧ W.cell? ⟨G11, 2, none⟩ = some (.slice q4 q5 q6) ∧ W.cell? ⟨w3.heap.size, 0, none⟩ = some (.int .i64 NX) ∧ W.cell? ⟨w3.heap.size, 1, none⟩ = some (.slice e1 e2 e3) ∧ W.cell? ⟨w3.heap.size, 2, none⟩ = some (.slice e4 SL e5) ∧ W.cell? ⟨g1, o1 + i, none⟩ = some (.int .i64 A)) (by kernel_rfl) (HS21.out _ (Kp.refl _).drew) (fun hHeld => ?_)
                      obtain ⟨wu, hwu⟩ : ∃ x, wj.drew = x := ⟨_, rfl⟩
                      have KU : Hid (Kp wj wu) := by unfold Hid; rw [← hwu]; exact (Kp.refl _).drew
                      rw [hwu] at hHeld ⊢
                      clear hwu
                      refine wpAnyH_take (i := 0) (oi := ⟨some 89, _, _, _, _, _⟩) (v := ?_) rfl (by kernel_rfl) (by kernel_rfl) (by kernel_rfl) (fun _ _ _ h => h) (Or.inl ⟨by kernel_rfl, ?_⟩) (by assumption) ?_
                      rotate_left
                      focus ((intro w hSw; (try dsimp only at hSw); go_simp); (try with_reducible rfl); done)
                      simp only [Act.put, List.setIfInBounds_toArray, List.set_cons_zero, List.set_cons_succ]
                      refine wpAnyH_take (i := 1) (oi := ⟨some 90, _, _, _, _, _⟩) (v := ?_) rfl (by kernel_rfl) (by kernel_rfl) (by kernel_rfl) (fun _ _ _ h => h) (Or.inl ⟨by kernel_rfl, ?_⟩) (by assumption) ?_
                      rotate_left
                      focus ((intro w hSw; (try dsimp only at hSw); go_simp); (try with_reducible rfl); done)
                      simp only [Act.put, List.setIfInBounds_toArray, List.set_cons_zero, List.set_cons_succ]
                      refine wpAnyH_take (i := 2) (oi := ⟨some 91, _, _, _, _, _⟩) (v := ?_) rfl (by kernel_rfl) (by kernel_rfl) (by kernel_rfl) (fun _ _ _ h => h) (Or.inl ⟨by kernel_rfl, ?_⟩) (by assumption) ?_
                      rotate_left
                      focus ((intro w hSw; (try dsimp only at hSw); go_simp); (try with_reducible rfl); done)
                      simp only [Act.put, List.setIfInBounds_toArray, List.set_cons_zero, List.set_cons_succ]
                      refine wpAnyH_take (i := 3) (oi := ⟨some 92, _, _, _, _, _⟩) (v := undef) rfl (by kernel_rfl) (by kernel_rfl) (by kernel_rfl) (fun _ _ _ h => h) (Or.inr ⟨by kernel_rfl, rfl⟩) (by assumption) ?_
                      simp only [Act.put, List.setIfInBounds_toArray, List.set_cons_zero, List.set_cons_succ]
                      refine wpAnyH_take (i := 4) (oi := ⟨some 93, _, _, _, _, _⟩) (v := undef) rfl (by kernel_rfl) (by kernel_rfl) (by kernel_rfl) (fun _ _ _ h => h) (Or.inr ⟨by kernel_rfl, rfl⟩) (by assumption) ?_
                      simp only [Act.put, List.setIfInBounds_toArray, List.set_cons_zero, List.set_cons_succ]
                      refine wpAnyH_take (i := 5) (oi := ⟨some 94, _, _, _, _, _⟩) (v := undef) rfl (by kernel_rfl) (by kernel_rfl) (by kernel_rfl) (fun _ _ _ h => h) (Or.inr ⟨by kernel_rfl, rfl⟩) (by assumption) ?_
                      simp only [Act.put, List.setIfInBounds_toArray, List.set_cons_zero, List.set_cons_succ]
                      refine wpAnyH_take (i := 6) (oi := ⟨some 95, _, _, _, _, _⟩) (v := undef) rfl (by kernel_rfl) (by kernel_rfl) (by kernel_rfl) (fun _ _ _ h => h) (Or.inr ⟨by kernel_rfl, rfl⟩) (by assumption) ?_
                      simp only [Act.put, List.setIfInBounds_toArray, List.set_cons_zero, List.set_cons_succ]
                      refine wpAnyH_take (i := 7) (oi := ⟨some 96, _, _, _, _, _⟩) (v := undef) rfl (by kernel_rfl) (by kernel_rfl) (by kernel_rfl) (fun _ _ _ h => h) (Or.inr ⟨by kernel_rfl, rfl⟩) (by assumption) ?_
                      simp only [Act.put, List.setIfInBounds_toArray, List.set_cons_zero, List.set_cons_succ]
                      refine wpAnyH_take (i := 8) (oi := ⟨some 97, _, _, _, _, _⟩) (v := undef) rfl (by kernel_rfl) (by kernel_rfl) (by kernel_rfl) (fun _ _ _ h => h) (Or.inr ⟨by kernel_rfl, rfl⟩) (by assumption) ?_
                      simp only [Act.put, List.setIfInBounds_toArray, List.set_cons_zero, List.set_cons_succ]
                      refine wpAnyH_take (i := 9) (oi := ⟨some 98, _, _, _, _, _⟩) (v := undef) rfl (by kernel_rfl) (by kernel_rfl) (by kernel_rfl) (fun _ _ _ h => h) (Or.inr ⟨by kernel_rfl, rfl⟩) (by assumption) ?_
                      simp only [Act.put, List.setIfInBounds_toArray, List.set_cons_zero, List.set_cons_succ]
                      refine wpAnyH_take (i := 10) (oi := ⟨some 99, _, _, _, _, _⟩) (v := undef) rfl (by kernel_rfl) (by kernel_rfl) (by kernel_rfl) (fun _ _ _ h => h) (Or.inr ⟨by kernel_rfl, rfl⟩) (by assumption) ?_
                      simp only [Act.put, List.setIfInBounds_toArray, List.set_cons_zero, List.set_cons_succ]
                      refine wpAnyH_take (i := 11) (oi := ⟨some 100, _, _, _, _, _⟩) (v := undef) rfl (by kernel_rfl) (by kernel_rfl) (by kernel_rfl) (fun _ _ _ h => h) (Or.inr ⟨by kernel_rfl, rfl⟩) (by assumption) ?_
                      simp only [Act.put, List.setIfInBounds_toArray, List.set_cons_zero, List.set_cons_succ]
                      refine wpAnyH_take (i := 12) (oi := ⟨some 101, _, _, _, _, _⟩) (v := undef) rfl (by kernel_rfl) (by kernel_rfl) (by kernel_rfl) (fun _ _ _ h => h) (Or.inr ⟨by kernel_rfl, rfl⟩) (by assumption) ?_
                      simp only [Act.put, List.setIfInBounds_toArray, List.set_cons_zero, List.set_cons_succ]
                      refine wpAnyH_take (i := 13) (oi := ⟨some 102, _, _, _, _, _⟩) (v := undef) rfl (by kernel_rfl) (by kernel_rfl) (by kernel_rfl) (fun _ _ _ h => h) (Or.inr ⟨by kernel_rfl, rfl⟩) (by assumption) ?_
                      simp only [Act.put, List.setIfInBounds_toArray, List.set_cons_zero, List.set_cons_succ]
                      refine wpAnyH_take (i := 14) (oi := ⟨some 103, _, _, _, _, _⟩) (v := undef) rfl (by kernel_rfl) (by kernel_rfl) (by kernel_rfl) (fun _ _ _ h => h) (Or.inr ⟨by kernel_rfl, rfl⟩) (by assumption) ?_
                      simp only [Act.put, List.setIfInBounds_toArray, List.set_cons_zero, List.set_cons_succ]
                      refine wpAnyH_take (i := 15) (oi := ⟨some 104, _, _, _, _, _⟩) (v := undef) rfl (by kernel_rfl) (by kernel_rfl) (by kernel_rfl) (fun _ _ _ h => h) (Or.inr ⟨by kernel_rfl, rfl⟩) (by assumption) ?_
                      simp only [Act.put, List.setIfInBounds_toArray, List.set_cons_zero, List.set_cons_succ]
                      refine wpAnyH_take (i := 16) (oi := ⟨some 105, _, _, _, _, _⟩) (v := ?_) rfl (by kernel_rfl) (by kernel_rfl) (by kernel_rfl) (fun _ _ _ h => h) (Or.inl ⟨by kernel_rfl, ?_⟩) (by assumption) ?_
                      rotate_left
                      focus ((intro w hSw; (try dsimp only at hSw); go_simp); (try with_reducible rfl); done)
                      simp only [Act.put, List.setIfInBounds_toArray, List.set_cons_zero, List.set_cons_succ]
                      refine wpAnyH_take (i := 17) (oi := ⟨some 106, _, _, _, _, _⟩) (v := ?_) rfl (by kernel_rfl) (by kernel_rfl) (by kernel_rfl) (fun _ _ _ h => h) (Or.inl ⟨by kernel_rfl, ?_⟩) (by assumption) ?_
                      rotate_left
                      focus ((intro w hSw; (try dsimp only at hSw); go_simp); (try with_reducible rfl); done)
                      simp only [Act.put, List.setIfInBounds_toArray, List.set_cons_zero, List.set_cons_succ]
                      refine wpAnyH_take (i := 18) (oi := ⟨some 107, _, _, _, _, _⟩) (v := ?_) rfl (by kernel_rfl) (by kernel_rfl) (by kernel_rfl) (fun _ _ _ h => h) (Or.inl ⟨by kernel_rfl, ?_⟩) (by assumption) ?_
                      rotate_left
                      focus ((intro w hSw; (try dsimp only at hSw); go_simp); (try with_reducible rfl); done)
                      simp only [Act.put, List.setIfInBounds_toArray, List.set_cons_zero, List.set_cons_succ]
                      refine wpAnyH_take (i := 19) (oi := ⟨some 108, _, _, _, _, _⟩) (v := ?_) rfl (by kernel_rfl) (by kernel_rfl) (by kernel_rfl) (fun _ _ _ h => h) (Or.inl ⟨by kernel_rfl, ?_⟩) (by assumption) ?_
                      rotate_left
                      focus ((intro w hSw; (try dsimp only at hSw); go_simp); (try with_reducible rfl); done)
                      simp only [Act.put, List.setIfInBounds_toArray, List.set_cons_zero, List.set_cons_succ]
                      refine wpAnyH_take (i := 20) (oi := ⟨some 109, _, _, _, _, _⟩) (v := ?_) rfl (by kernel_rfl) (by kernel_rfl) (by kernel_rfl) (fun _ _ _ h => h) (Or.inl ⟨by kernel_rfl, ?_⟩) (by assumption) ?_
                      rotate_left
                      focus ((intro w hSw; (try dsimp only at hSw); go_simp); (try with_reducible rfl); done)
                      simp only [Act.put, List.setIfInBounds_toArray, List.set_cons_zero, List.set_cons_succ]
                      refine wpAnyH_take (i := 21) (oi := ⟨some 110, _, _, _, _, _⟩) (v := ?_) rfl (by kernel_rfl) (by kernel_rfl) (by kernel_rfl) (fun _ _ _ h => h) (Or.inl ⟨by kernel_rfl, ?_⟩) (by assumption) ?_
                      rotate_left
                      focus ((intro w hSw; (try dsimp only at hSw); go_simp); (try with_reducible rfl); done)
                      simp only [Act.put, List.setIfInBounds_toArray, List.set_cons_zero, List.set_cons_succ]
                      refine wpAnyH_take (i := 22) (oi := ⟨some 111, _, _, _, _, _⟩) (v := ?_) rfl (by kernel_rfl) (by kernel_rfl) (by kernel_rfl) (fun _ _ _ h => h) (Or.inl ⟨by kernel_rfl, ?_⟩) (by assumption) ?_
                      rotate_left
                      focus ((intro w hSw; (try dsimp only at hSw); go_simp); (try with_reducible rfl); done)
                      simp only [Act.put, List.setIfInBounds_toArray, List.set_cons_zero, List.set_cons_succ]
                      refine wpAnyH_take (i := 23) (oi := ⟨some 112, _, _, _, _, _⟩) (v := ?_) rfl (by kernel_rfl) (by kernel_rfl) (by kernel_rfl) (fun _ _ _ h => h) (Or.inl ⟨by kernel_rfl, ?_⟩) (by assumption) ?_
                      rotate_left
                      focus ((intro w hSw; (try dsimp only at hSw); go_simp); (try with_reducible rfl); done)
                      simp only [Act.put, List.setIfInBounds_toArray, List.set_cons_zero, List.set_cons_succ]
                      refine wpAnyH_done (by kernel_rfl) ?_ _
                      clear hHeld
                      have KV := Lib.hid (KY.out.trans KU.out)
                      have BT := Lib.hid (B20.out.kp KV.out)
                      have BS := Lib.hid (BG.out.kp KV.out)
                      have CT := Lib.hid (C20.out.kp KV.out)
                      have OT := Lib.hid (OG.out.kp KV.out)
                      have KT := Lib.hid (KA.out.trans KV.out)
                      obtain ⟨z0, z1, z2⟩ := cells3 BT.out
                      go_wp2_with (first | (refine wpList_store_row rfl rfl 25 (.tmp 6) (.tmp 122) rfl w3.heap.size 25 _ #[.int .i64 DX, .slice ya yb yc, .slice yd DL yf] rfl rfl BS.out rfl (three_one rfl rfl rfl) infoCh3 ?_; intro w50 b50 g50 kp50) | fail)
                      have c50 := CT.out.put g50 (.inr rfl)
                      have o50 := OT.out.keptAt g50 (Nat.lt_succ_self _)
                      have k50 := kp50 w KT.out K3.out.size
                      rw [← HDX.out] at b50
                      go_roundw
                      case rel => exact ⟨i + 1, T, D, _, _, HLT.out, by go_num, o50, by have := HTI.out; have := HTL.out; simp; omega, b50, c50, HONX.out, by have h1 := HNEXT.out; have h2 := HNB.out; have h3 := HDX.out; omega, k50⟩
                      case measure => have := HLT.out; simp [intOf]; omega
        · obtain rfl : i = N := by omega
          have i1 : ¬ (i : Int) < (i : Int) := by omega
          go_wp2_with fail
          go_ret
          exact ⟨rfl, KR.out⟩
    · have i1 : 20 < (N : Int) := by omega
      go_enter Tryz.func5, Tryz.ntmps5
      go_wp2_with fail
      refine (HSH.out _ (Kp.refl _)).mono ?_
      rintro _ w2 ⟨rfl, k2⟩
      go_wp2_with fail
      go_ret
      exact ⟨rfl, k2⟩
  · have i1 : (send.length : Int) ≠ 32 := by omega
    go_enter Tryz.func5, Tryz.ntmps5
    go_wp2_with fail
    refine (HSH.out _ (Kp.refl _)).mono ?_
    rintro _ w2 ⟨rfl, k2⟩
    go_wp2_with fail
    go_ret
    exact ⟨rfl, k2⟩
end Go.Proofs.YtigpgcjbpoaclaaGreatDoor

import Derived.Test.YtigpgcjbpoaclaaDoorB42
import Derived.Deep.RegionHeld3
set_option linter.unusedVariables false
set_option linter.unusedSimpArgs false
namespace Go.Proofs.YtigpgcjbpoaclaaDoor
open Go.RowKit
set_option maxRecDepth 100000 in
set_option maxHeartbeats 4000000 in
theorem ratchSecrets_walk (v : Value) (send : List UInt8) (n i k : Nat) (w : World) (h : Rd w v send) (hn : n ≤ 255) (hi : i ≤ 255) (hk : k ≤ 255) (hT : Tab w) :
    Calls Tryd.prog 5 #[.agg #[v, .int .u8 n, .int .u8 i, .int .u8 k]] w fun e w' => e = .returned (.bool true) ∧ Kp w w' := by
  have HV := Lib.hid h
  obtain ⟨a1, c1, rfl, _, _⟩ := h.shape
  have HTB := Lib.hid hT
  clear hT
  have HSH := Lib.hid (fun W (k : Kp w W) => shownRatch_any W (HTB.out.kp k))
  obtain ⟨J, hJ⟩ : ∃ J, n % 5 = J := ⟨_, rfl⟩
  have hJ5 : J ≤ 4 := by omega
  have hJi : (n : Int) % 5 = (J : Int) := by omega
  have hJt : (n : Int).tmod 5 = (J : Int) := by rw [Int.tmod_eq_emod_of_nonneg (by omega)]; exact hJi
  obtain ⟨T, hT⟩ : ∃ T, k % 20 = T := ⟨_, rfl⟩
  have hT19 : T ≤ 19 := by omega
  have hTi : (k : Int) % 20 = (T : Int) := by omega
  have hTt : (k : Int).tmod 20 = (T : Int) := by rw [Int.tmod_eq_emod_of_nonneg (by omega)]; exact hTi
  obtain ⟨M, hM⟩ : ∃ M, 2 ^ J = M := ⟨_, rfl⟩
  have hM32 : M ≤ 16 := by rw [← hM]; exact Nat.le_trans (Nat.pow_le_pow_right (n := 2) (by omega) hJ5) (by decide)
  have hM1 : 1 ≤ M := by rw [← hM]; exact p2_pos J
  obtain ⟨Q, hQ⟩ : ∃ Q, i % M = Q := ⟨_, rfl⟩
  have hQM : Q < M := by rw [← hQ]; exact Nat.mod_lt _ hM1
  have hQi : (i : Int) % (M : Int) = (Q : Int) := by rw [← hQ]; exact (Int.natCast_emod i M).symm
  have hQt : (i : Int).tmod (M : Int) = (Q : Int) := by rw [Int.tmod_eq_emod_of_nonneg (by omega)]; exact hQi
  obtain ⟨w1, hw1⟩ : ∃ w1, w.alloc (.cells #[.slice a1 send.length c1, .int .u8 n, .int .u8 i, .int .u8 k] 43) = w1 := ⟨_, rfl⟩
  have B1 : Hid (Bx w1 w.heap.size 43 #[.slice a1 send.length c1, .int .u8 n, .int .u8 i, .int .u8 k]) := by rw [← hw1]; exact Bx.new w _ _
  have K1 : Hid (Kp w w1) := by rw [← hw1]; exact (Kp.refl _).alloc _
  have HW := Lib.hid hw1
  have s0 := B1.out.cell 0
  have s1 := B1.out.cell 1
  have s2 := B1.out.cell 2
  have s3 := B1.out.cell 3
  simp only [List.getElem?_toArray, List.getElem?_cons_zero, List.getElem?_cons_succ] at s0 s1 s2 s3
  have HP : Hid (∀ j, j ≤ J → 2 ^ j ≤ 16) := fun j hj => Nat.le_trans (Nat.pow_le_pow_right (n := 2) (by omega) (show j ≤ 4 by omega)) (by decide)
  have HST := Lib.hid (fun W (kp : Kp w W) => ratchStart_any _ send (M : Int) (Q : Int) W (HV.out.kp kp) (by omega) (by omega) (HTB.out.kp kp))
  have HLE : Hid (send.length = 32 → leafE send (M : Int) (Q : Int) = 0 ∧ startC send (M : Int) (Q : Int) = ⟨0, secD send J Q, []⟩) := fun hs => by
    have hl := leaf_yes (send := send) (K := J) (q := Q) hs (by omega) (by rw [hM]; exact hQM)
    rw [hM] at hl
    exact ⟨hl.1, by unfold startC; rw [hl.2]⟩
  have HSL := Lib.hid (secD_length send J Q)
  have HJ := Lib.hid hJ5
  have HM16 : Hid (1 ≤ M ∧ M ≤ 16) := ⟨hM1, hM32⟩
  have HMJ := Lib.hid hM
  clear h hJ hT hQ hw1
  go_enter Tryd.func5, Tryd.ntmps5
  go_wp2_with (first | (rw [HW.out]) | fail)
  refine (HSH.out _ (by first | exact K1.out | exact K2.out | exact K3.out | exact K4.out | exact K5.out | exact K6.out | exact K7.out | exact K8.out | exact K9.out | exact KK.out | exact Kp.refl _)).mono ?_
  rintro _ w2 ⟨rfl, k2⟩
  have K2 := Lib.hid (K1.out.trans k2)
  clear k2 s0 s1 s2 s3 B1 HW
  go_wp2_with fail
  go_loop [8, 9] (fun m j => ∃ d : Nat, d ≤ J ∧ m = .int .i64 ((2 ^ d : Nat) : Int) ∧ j = .int .i64 (d : Int)) (fun _ j => (J - (intOf j).toNat))
  case atStart => exact ⟨0, Nat.zero_le _, rfl, rfl⟩
  case round =>
    obtain ⟨d, hd, rfl, rfl⟩ := hrel
    have hp := HP.out d hd
    by_cases hlt : d < J
    · have i1 : (d : Int) < (J : Int) := by omega
      have i2 : IntKind.i64.wrap (2 * ((2 ^ d : Nat) : Int)) = ((2 ^ (d + 1) : Nat) : Int) := by
        rw [p2_succ]
        generalize 2 ^ d = P at *
        rw [IntWalk.i64_in _ (by omega)]
        omega
      have i3 : IntKind.i64.wrap ((d : Int) + 1) = (d : Int) + 1 := IntWalk.i64_in _ (by omega)
      obtain ⟨P, hP⟩ : ∃ P, 2 ^ d = P := ⟨_, rfl⟩
      obtain ⟨P2, hP2⟩ : ∃ P, 2 ^ (d + 1) = P := ⟨_, rfl⟩
      have HP2 := Lib.hid hP2
      rw [hP] at i2 ⊢
      rw [hP2] at i2
      clear hP hP2 hp hM
      go_wp2_with fail
      go_round
      case rel => exact ⟨d + 1, by omega, by rw [HP2.out], by go_num⟩
      case measure => simp [intOf]; omega
    · obtain rfl : d = J := by omega
      rw [hM]
      clear hp hM
      by_cases hs : send.length = 32
      · rw [hs] at HST ⊢
        obtain ⟨hE, hC⟩ := HLE.out hs
        rw [hE, hC] at HST
        generalize secD send d Q = S at *
        have HXC : Hid (∀ (j : Int) (s : List UInt8) W x y, CIn W x y ⟨j, s, []⟩ → ∃ a1 c1 a2 c2, x = .slice a1 s.length c1 ∧ y = .slice a2 0 c2) := fun j s W x y h => by
          obtain ⟨p, q, e, _⟩ := h.sec.shape
          obtain ⟨p2, q2, e2, _⟩ := h.spare.shape
          exact ⟨_, _, _, _, e, e2⟩
        have HXL : Hid (∀ (K : Lk) W x y, LIn W x y K → ∃ a1 n1 c1 a2 n2 c2, x = .slice a1 n1 c1 ∧ y = .slice a2 n2 c2) := fun K W x y h => by obtain ⟨a, b, c, d, e, f⟩ := h.shapes; exact ⟨_, _, _, _, _, _, e, f⟩
        clear hs hE hC HLE
        go_wp2_with fail
        refine (HST.out _ K2.out).mono ?_
        rintro _ w3 ⟨⟨x3, y3, rfl, c3⟩, k3⟩
        obtain ⟨d1, d3, d4, d6, rfl, rfl⟩ := HXC.out _ _ _ _ _ c3
        rw [HSL.out]
        have C3 : Hid (CIn w3 (.slice d1 32 d3) (.slice d4 0 d6) ⟨0, S, []⟩) := by have := c3; rwa [HSL.out] at this
        have K3 := Lib.hid (K2.out.trans k3)
        clear c3 k3
        have B3 := Lib.hid (Bx.new w3 34 #[.int .i64 0, .slice none 0 0, .slice none 0 0])
        have KB := Lib.hid ((Kp.refl w3).alloc (.cells #[.int .i64 0, .slice none 0 0, .slice none 0 0] 34))
        obtain ⟨BB, hBB⟩ : ∃ b, w3.heap.size = b := ⟨_, rfl⟩
        go_wp2_with fail
        have D4 := Lib.hid (Bx.new w3 34 #[.int .i64 0, .slice d1 32 d3, .slice d4 0 d6])
        have K34 := Lib.hid ((Kp.refl w3).alloc (.cells #[.int .i64 0, .slice d1 32 d3, .slice d4 0 d6] 34))
        rw [hBB] at D4
        have HTK := Lib.hid (fun (j : Nat) (s : List UInt8) (hj : j ≤ 100) (hs : s.length = 32) W x y (h : CIn W x y ⟨(j : Int), s, []⟩) (ok : (⟨(j : Int), s, []⟩ : Ch).ok) => ratchTake_any x y ⟨(j : Int), s, []⟩ (j : Int) W h ok (by omega))
        unfold TakenR at HTK
        have HOKJ : Hid (∀ (j : Nat) (s : List UInt8), j ≤ 100 → s.length = 32 → (⟨(j : Int), s, []⟩ : Ch).ok) := fun j s hj hs => ⟨by show (0 : Int) ≤ j; omega, by show (j : Int) ≤ _; omega, hs, by simp, fun i hi => by simp at hi, fun i hi => by simp at hi⟩
        have HON := Lib.hid (fun j => onB_length S 0 HSL.out j)
        have HRT := Lib.hid (fun (j : Nat) (s : List UInt8) W x y (h : CIn W x y ⟨(j : Int), s, []⟩) => refRight13_any x y ⟨(j : Int), s, []⟩ W h)
        have C4 := Lib.hid (C3.out.kp K34.out)
        have K4 := Lib.hid (K3.out.trans K34.out)
        have HBW : Hid (w.heap.size ≤ BB) := by rw [← hBB]; exact K3.out.size
        clear C3 K34 B3 KB
        go_loopw [12] (fun i wr => ∃ (j : Nat) (p1 : Option Addr) (p3 : Nat) (p4 : Option Addr) (p6 : Nat), j ≤ T ∧ i = .int .i64 (j : Int) ∧ Bx wr BB 34 #[.int .i64 (j : Int), .slice p1 32 p3, .slice p4 0 p6] ∧ CIn wr (.slice p1 32 p3) (.slice p4 0 p6) ⟨(j : Int), onB S 0 j, []⟩ ∧ Kp w wr) (fun i _ => (T - (intOf i).toNat))
        case atStart => exact ⟨0, _, _, _, _, Nat.zero_le _, rfl, D4.out, C4.out, K4.out⟩
        case round =>
          obtain ⟨j, p1, p3, p4, p6, hj, rfl, hb, hc, hkp⟩ := hrel
          have BJ := Lib.hid hb
          have CJ := Lib.hid hc
          have KJ := Lib.hid hkp
          have hsl := HON.out j
          obtain ⟨t0, t1, t2⟩ := cells3 hb
          clear hb hc hkp
          by_cases hlt : j < T
          · have i3 : IntKind.i64.wrap ((j : Int) + 1) = (j : Int) + 1 := IntWalk.i64_in _ (by omega)
            have i4 : (j : Int) < (T : Int) := by omega
            have hok := HOKJ.out j (onB S 0 j) (by omega) hsl
            have HT := Lib.hid (HTK.out j (onB S 0 j) (by omega) hsl wr _ _ CJ.out hok)
            obtain ⟨f0, f1, f2⟩ := tak_one (onB S 0 j) j hsl (by omega)
            rw [f0, f1, f2] at HT
            have HNXT := Lib.hid (fun W (hW : Rd W (.slice p1 32 p3) (onB S 0 j)) => refNext13_any (.slice p1 32 p3) (onB S 0 j) j W hW (by omega) (by omega))
            have HLCK := Lib.hid (fun W (hW : Rd W (.slice p1 32 p3) (onB S 0 j)) => refLock13_any (.slice p1 32 p3) (onB S 0 j) j W hW (by omega) (by omega))
            have HSLK := Lib.hid (fun W x y x' y' (h : LIn W x y (lockB (onB S 0 j) j)) (h' : LIn W x' y' (lockB (onB S 0 j) j)) => refSameLock_any x y x' y' _ _ W h h')
            have HLP : Hid ((lockB (onB S 0 j) j).pos = (j : Int)) := rfl
            have HNL := Lib.hid (nxtB_length (onB S 0 j) j)
            have HSUC : Hid (nxtB (onB S 0 j) j = onB S 0 (j + 1)) := by show nxtB (onB S 0 j) j = nxtB (onB S 0 j) (0 + j); rw [Nat.zero_add]
            rw [HLP.out] at HT HSLK
            have HCJ : Hid (∀ W, CIn W (.slice p1 32 p3) (.slice p4 0 p6) ⟨(j : Int), onB S 0 j, []⟩ → Rd W (.slice p1 32 p3) (onB S 0 j)) := fun W h => h.sec
            have HXN : Hid (∀ W x y, CIn W x y ⟨(j : Int) + 1, nxtB (onB S 0 j) j, []⟩ → ∃ a1 c1 a2 c2, x = .slice a1 32 c1 ∧ y = .slice a2 0 c2) := fun W x y h => by have := HXC.out _ _ _ _ _ h; rwa [HNL.out] at this
            have HXR : Hid (∀ W x y, CIn W x y ⟨(j : Int) + 1, nxtB (onB S 0 j) j, []⟩ → Rd W x (nxtB (onB S 0 j) j)) := fun W x y h => h.sec
            clear f0 f1 f2 hok hsl
            generalize lockB (onB S 0 j) j = LK at *
            generalize hNX : nxtB (onB S 0 j) j = NXT at *
            generalize onB S 0 j = SJ at *
            go_wp2_with fail
            refine HT.out.mono ?_
            rintro _ w5 ⟨x5, y5, p5, q5, rfl, c5, l5, k5⟩
            obtain ⟨e1, e3, e4, e6, rfl, rfl⟩ := HXN.out _ _ _ c5
            obtain ⟨g1, g2, g3, g4, g5, g6, rfl, rfl⟩ := HXL.out _ _ _ _ l5
            have C5 := Lib.hid c5
            have L5 := Lib.hid l5
            have K5 := Lib.hid k5
            clear c5 l5 k5 t0 t1 t2
            have KT := Lib.hid (keep_two w5 34 37 zc3 zc3)
            unfold zc3 at KT
            go_wp2_with (first
              | (refine wpList_store_row rfl rfl 34 (.tmp 13) (.tmp 78) rfl w5.heap.size 34 _ #[.int .i64 ((j : Int) + 1), .slice e1 32 e3, .slice e4 0 e6] rfl rfl KT.out.1 rfl (three_one rfl rfl rfl) infoCh3 ?_; intro w6 bc1 gc1 hc1; have KC1 := Lib.hid (hc1 w5 KT.out.2.2 (Nat.le_refl _)); have BL1 := Lib.hid (KT.out.2.1.grow gc1 (by omega)); have BC1 := Lib.hid bc1; clear bc1 gc1 hc1)
              | (refine wpList_store_row rfl rfl 37 (.tmp 14) (.tmp 79) rfl (w5.heap.size + 1) 37 _ #[.int .i64 (j : Int), .slice g1 g2 g3, .slice g4 g5 g6] rfl rfl BL1.out rfl (three_one rfl rfl rfl) infoLk3 ?_; intro w7 bl2 gl2 hl2; have KC2 := Lib.hid (hl2 w5 KC1.out (by omega)); have BC2 := Lib.hid (BC1.out.grow gl2 (by omega)); have BL2 := Lib.hid bl2; clear bl2 gl2 hl2; skip)
              | fail)
            have K57 := Lib.hid KC2.out
            have K7 := Lib.hid (K5.out.trans KC2.out)
            have D7 := Lib.hid BC2.out
            have E7 := Lib.hid BL2.out
            have B7 := Lib.hid (BJ.out.kp K7.out)
            have C7 := Lib.hid (C5.out.kp K57.out)
            have L7 := Lib.hid (L5.out.kp K57.out)
            have CJ7 := Lib.hid (CJ.out.kp K7.out)
            have RS7 := Lib.hid (HXR.out _ _ _ C7.out)
            clear KT KC1 BL1 BC1 KC2 BC2 BL2
            have HCC : Hid (∀ W, Kp w7 W → W.cell? ⟨w5.heap.size, 0, none⟩ = some (.int .i64 ((j : Int) + 1)) ∧ W.cell? ⟨w5.heap.size, 1, none⟩ = some (.slice e1 32 e3) ∧ W.cell? ⟨w5.heap.size, 2, none⟩ = some (.slice e4 0 e6) ∧ W.cell? ⟨w5.heap.size + 1, 0, none⟩ = some (.int .i64 (j : Int)) ∧ W.cell? ⟨w5.heap.size + 1, 1, none⟩ = some (.slice g1 g2 g3) ∧ W.cell? ⟨w5.heap.size + 1, 2, none⟩ = some (.slice g4 g5 g6) ∧ W.cell? ⟨BB, 0, none⟩ = some (.int .i64 (j : Int)) ∧ W.cell? ⟨BB, 1, none⟩ = some (.slice p1 32 p3) ∧ W.cell? ⟨BB, 2, none⟩ = some (.slice p4 0 p6) ∧ (convert 22 9 (.slice e1 32 e3)).run Tryd.prog W = .ok (.string ⟨NXT.toArray⟩) W) := fun W hW => ⟨(D7.out.kp hW).cell 0, (D7.out.kp hW).cell 1, (D7.out.kp hW).cell 2, (E7.out.kp hW).cell 0, (E7.out.kp hW).cell 1, (E7.out.kp hW).cell 2, (B7.out.kp hW).cell 0, (B7.out.kp hW).cell 1, (B7.out.kp hW).cell 2, run_string_rd W 22 9 5 _ _ (RS7.out.kp hW) Tryd.underlying22 Tryd.underlying5 Tryd.underlying9⟩
            have KD7 : Hid (Kp w7 w7.drew) := (Kp.refl w7).drew
            have S7 := Lib.hid (HCC.out _ KD7.out)
            go_wp2_with fail
            refine wp_region_held_drew (S := fun W => W.cell? ⟨w5.heap.size, 0, none⟩ = some (.int .i64 ((j : Int) + 1)) ∧ W.cell? ⟨w5.heap.size, 1, none⟩ = some (.slice e1 32 e3) ∧ W.cell? ⟨w5.heap.size, 2, none⟩ = some (.slice e4 0 e6) ∧ W.cell? ⟨w5.heap.size + 1, 0, none⟩ = some (.int .i64 (j : Int)) ∧ W.cell? ⟨w5.heap.size + 1, 1, none⟩ = some (.slice g1 g2 g3) ∧ W.cell? ⟨w5.heap.size + 1, 2, none⟩ = some (.slice g4 g5 g6) ∧ W.cell? ⟨BB, 0, none⟩ = some (.int .i64 (j : Int)) ∧ W.cell? ⟨BB, 1, none⟩ = some (.slice p1 32 p3) ∧ W.cell? ⟨BB, 2, none⟩ = some (.slice p4 0 p6) ∧ (convert 22 9 (.slice e1 32 e3)).run Tryd.prog W = .ok (.string ⟨NXT.toArray⟩) W) (by kernel_rfl) (by first | exact S10.out | exact S9.out | exact S8.out | exact S7.out) (fun hHeld => ?_)
            refine wpAnyH_take (i := 0) (oi := ⟨some 81, _, _, _, _, _⟩) (v := ?_) rfl (by kernel_rfl) (by kernel_rfl) (by kernel_rfl) (fun _ _ _ h => h) (Or.inl ⟨by kernel_rfl, ?_⟩) (by assumption) ?_
            rotate_left
            focus ((intro w hSw; (try dsimp only at hSw); go_simp); (try with_reducible rfl); done)
            simp only [Act.put, List.setIfInBounds_toArray, List.set_cons_zero, List.set_cons_succ]
            refine wpAnyH_take (i := 1) (oi := ⟨some 82, _, _, _, _, _⟩) (v := ?_) rfl (by kernel_rfl) (by kernel_rfl) (by kernel_rfl) (fun _ _ _ h => h) (Or.inl ⟨by kernel_rfl, ?_⟩) (by assumption) ?_
            rotate_left
            focus ((intro w hSw; (try dsimp only at hSw); go_simp); (try with_reducible rfl); done)
            simp only [Act.put, List.setIfInBounds_toArray, List.set_cons_zero, List.set_cons_succ]
            refine wpAnyH_take (i := 2) (oi := ⟨some 83, _, _, _, _, _⟩) (v := ?_) rfl (by kernel_rfl) (by kernel_rfl) (by kernel_rfl) (fun _ _ _ h => h) (Or.inl ⟨by kernel_rfl, ?_⟩) (by assumption) ?_
            rotate_left
            focus ((intro w hSw; (try dsimp only at hSw); go_simp); (try with_reducible rfl); done)
            simp only [Act.put, List.setIfInBounds_toArray, List.set_cons_zero, List.set_cons_succ]
            refine wpAnyH_take (i := 3) (oi := ⟨some 84, _, _, _, _, _⟩) (v := ?_) rfl (by kernel_rfl) (by kernel_rfl) (by kernel_rfl) (fun _ _ _ h => h) (Or.inl ⟨by kernel_rfl, ?_⟩) (by assumption) ?_
            rotate_left
            focus ((intro w hSw; (try dsimp only at hSw); go_simp); (try with_reducible rfl); done)
            simp only [Act.put, List.setIfInBounds_toArray, List.set_cons_zero, List.set_cons_succ]
            refine wpAnyH_take (i := 4) (oi := ⟨some 85, _, _, _, _, _⟩) (v := ?_) rfl (by kernel_rfl) (by kernel_rfl) (by kernel_rfl) (fun _ _ _ h => h) (Or.inl ⟨by kernel_rfl, ?_⟩) (by assumption) ?_
            rotate_left
            focus ((intro w hSw; (try dsimp only at hSw); go_simp); (try with_reducible rfl); done)
            simp only [Act.put, List.setIfInBounds_toArray, List.set_cons_zero, List.set_cons_succ]
            refine wpAnyH_take (i := 5) (oi := ⟨some 86, _, _, _, _, _⟩) (v := ?_) rfl (by kernel_rfl) (by kernel_rfl) (by kernel_rfl) (fun _ _ _ h => h) (Or.inl ⟨by kernel_rfl, ?_⟩) (by assumption) ?_
            rotate_left
            focus ((intro w hSw; (try dsimp only at hSw); go_simp); (try with_reducible rfl); done)
            simp only [Act.put, List.setIfInBounds_toArray, List.set_cons_zero, List.set_cons_succ]
            refine wpAnyH_take (i := 6) (oi := ⟨some 87, _, _, _, _, _⟩) (v := ?_) rfl (by kernel_rfl) (by kernel_rfl) (by kernel_rfl) (fun _ _ _ h => h) (Or.inl ⟨by kernel_rfl, ?_⟩) (by assumption) ?_
            rotate_left
            focus ((intro w hSw; (try dsimp only at hSw); go_simp); (try with_reducible rfl); done)
            simp only [Act.put, List.setIfInBounds_toArray, List.set_cons_zero, List.set_cons_succ]
            refine wpAnyH_take (i := 7) (oi := ⟨some 88, _, _, _, _, _⟩) (v := ?_) rfl (by kernel_rfl) (by kernel_rfl) (by kernel_rfl) (fun _ _ _ h => h) (Or.inl ⟨by kernel_rfl, ?_⟩) (by assumption) ?_
            rotate_left
            focus ((intro w hSw; (try dsimp only at hSw); go_simp); (try with_reducible rfl); done)
            simp only [Act.put, List.setIfInBounds_toArray, List.set_cons_zero, List.set_cons_succ]
            refine wpAnyH_take (i := 8) (oi := ⟨some 89, _, _, _, _, _⟩) (v := ?_) rfl (by kernel_rfl) (by kernel_rfl) (by kernel_rfl) (fun _ _ _ h => h) (Or.inl ⟨by kernel_rfl, ?_⟩) (by assumption) ?_
            rotate_left
            focus ((intro w hSw; (try dsimp only at hSw); go_simp); (try with_reducible rfl); done)
            simp only [Act.put, List.setIfInBounds_toArray, List.set_cons_zero, List.set_cons_succ]
            refine wpAnyH_take (i := 9) (oi := ⟨some 90, _, _, _, _, _⟩) (v := ?_) rfl (by kernel_rfl) (by kernel_rfl) (by kernel_rfl) (fun _ _ _ h => h) (Or.inl ⟨by kernel_rfl, ?_⟩) (by assumption) ?_
            rotate_left
            focus ((intro w hSw; (try dsimp only at hSw); go_simp); (try with_reducible rfl); done)
            simp only [Act.put, List.setIfInBounds_toArray, List.set_cons_zero, List.set_cons_succ]
            refine wpAnyH_take (i := 10) (oi := ⟨some 91, _, _, _, _, _⟩) (v := ?_) rfl (by kernel_rfl) (by kernel_rfl) (by kernel_rfl) (fun _ _ _ h => h) (Or.inl ⟨by kernel_rfl, ?_⟩) (by assumption) ?_
            rotate_left
            focus ((intro w hSw; (try dsimp only at hSw); go_simp); (try with_reducible rfl); done)
            simp only [Act.put, List.setIfInBounds_toArray, List.set_cons_zero, List.set_cons_succ]
            refine wpAnyH_take (i := 11) (oi := ⟨some 92, _, _, _, _, _⟩) (v := ?_) rfl (by kernel_rfl) (by kernel_rfl) (by kernel_rfl) (fun _ _ _ h => h) (Or.inl ⟨by kernel_rfl, ?_⟩) (by assumption) ?_
            rotate_left
            focus ((intro w hSw; (try dsimp only at hSw); go_simp); (try with_reducible rfl); done)
            simp only [Act.put, List.setIfInBounds_toArray, List.set_cons_zero, List.set_cons_succ]
            refine wpAnyH_take (i := 12) (oi := ⟨some 93, _, _, _, _, _⟩) (v := ?_) rfl (by kernel_rfl) (by kernel_rfl) (by kernel_rfl) (fun _ _ _ h => h) (Or.inl ⟨by kernel_rfl, ?_⟩) (by assumption) ?_
            rotate_left
            focus ((intro w hSw; (try dsimp only at hSw); go_simp); (try with_reducible rfl); done)
            simp only [Act.put, List.setIfInBounds_toArray, List.set_cons_zero, List.set_cons_succ]
            refine wpAnyH_take (i := 13) (oi := ⟨some 94, _, _, _, _, _⟩) (v := ?_) rfl (by kernel_rfl) (by kernel_rfl) (by kernel_rfl) (fun _ _ _ h => h) (Or.inl ⟨by kernel_rfl, ?_⟩) (by assumption) ?_
            rotate_left
            focus ((intro w hSw; (try dsimp only at hSw); go_simp); (try with_reducible rfl); done)
            simp only [Act.put, List.setIfInBounds_toArray, List.set_cons_zero, List.set_cons_succ]
            refine wpAnyH_take (i := 14) (oi := ⟨some 95, _, _, _, _, _⟩) (v := ?_) rfl (by kernel_rfl) (by kernel_rfl) (by kernel_rfl) (fun _ _ _ h => h) (Or.inl ⟨by kernel_rfl, ?_⟩) (by assumption) ?_
            rotate_left
            focus ((intro w hSw; (try dsimp only at hSw); go_simp); (try with_reducible rfl); done)
            simp only [Act.put, List.setIfInBounds_toArray, List.set_cons_zero, List.set_cons_succ]
            refine wpAnyH_take (i := 15) (oi := ⟨some 96, _, _, _, _, _⟩) (v := ?_) rfl (by kernel_rfl) (by kernel_rfl) (by kernel_rfl) (fun _ _ _ h => h) (Or.inl ⟨by kernel_rfl, ?_⟩) (by assumption) ?_
            rotate_left
            focus ((intro w hSw; (try dsimp only at hSw); go_simp); (try with_reducible rfl); done)
            simp only [Act.put, List.setIfInBounds_toArray, List.set_cons_zero, List.set_cons_succ]
            refine wpAnyH_take (i := 16) (oi := ⟨some 97, _, _, _, _, _⟩) (v := ?_) rfl (by kernel_rfl) (by kernel_rfl) (by kernel_rfl) (fun _ _ _ h => h) (Or.inl ⟨by kernel_rfl, ?_⟩) (by assumption) ?_
            rotate_left
            focus ((intro w hSw; (try dsimp only at hSw); go_simp); (try with_reducible rfl); done)
            simp only [Act.put, List.setIfInBounds_toArray, List.set_cons_zero, List.set_cons_succ]
            refine wpAnyH_take (i := 17) (oi := ⟨some 98, _, _, _, _, _⟩) (v := ?_) rfl (by kernel_rfl) (by kernel_rfl) (by kernel_rfl) (fun _ _ _ h => h) (Or.inl ⟨by kernel_rfl, ?_⟩) (by assumption) ?_
            rotate_left
            focus ((intro w hSw; (try dsimp only at hSw); go_simp); (try with_reducible rfl); done)
            simp only [Act.put, List.setIfInBounds_toArray, List.set_cons_zero, List.set_cons_succ]
            refine wpAnyH_take (i := 18) (oi := ⟨some 99, _, _, _, _, _⟩) (v := ?_) rfl (by kernel_rfl) (by kernel_rfl) (by kernel_rfl) (fun _ _ _ h => h) (Or.inl ⟨by kernel_rfl, ?_⟩) (by assumption) ?_
            rotate_left
            focus ((intro w hSw; (try dsimp only at hSw); go_simp); (try with_reducible rfl); done)
            simp only [Act.put, List.setIfInBounds_toArray, List.set_cons_zero, List.set_cons_succ]
            refine wpAnyH_take (i := 19) (oi := ⟨some 100, _, _, _, _, _⟩) (v := ?_) rfl (by kernel_rfl) (by kernel_rfl) (by kernel_rfl) (fun _ _ _ h => h) (Or.inl ⟨by kernel_rfl, ?_⟩) (by assumption) ?_
            rotate_left
            focus ((intro w hSw; (try dsimp only at hSw); go_simp); (try with_reducible rfl); done)
            simp only [Act.put, List.setIfInBounds_toArray, List.set_cons_zero, List.set_cons_succ]
            refine wpAnyH_take (i := 20) (oi := ⟨some 101, _, _, _, _, _⟩) (v := ?_) rfl (by kernel_rfl) (by kernel_rfl) (by kernel_rfl) (fun _ _ _ h => h) (Or.inl ⟨by kernel_rfl, ?_⟩) (by assumption) ?_
            rotate_left
            focus ((intro w hSw; (try dsimp only at hSw); go_simp); (try with_reducible rfl); done)
            simp only [Act.put, List.setIfInBounds_toArray, List.set_cons_zero, List.set_cons_succ]
            refine wpAnyH_take (i := 21) (oi := ⟨some 102, _, _, _, _, _⟩) (v := ?_) rfl (by kernel_rfl) (by kernel_rfl) (by kernel_rfl) (fun _ _ _ h => h) (Or.inl ⟨by kernel_rfl, ?_⟩) (by assumption) ?_
            rotate_left
            focus ((intro w hSw; (try dsimp only at hSw); go_simp); (try with_reducible rfl); done)
            simp only [Act.put, List.setIfInBounds_toArray, List.set_cons_zero, List.set_cons_succ]
            refine wpAnyH_take (i := 22) (oi := ⟨some 103, _, _, _, _, _⟩) (v := ?_) rfl (by kernel_rfl) (by kernel_rfl) (by kernel_rfl) (fun _ _ _ h => h) (Or.inl ⟨by kernel_rfl, ?_⟩) (by assumption) ?_
            rotate_left
            focus ((intro w hSw; (try dsimp only at hSw); go_simp); (try with_reducible rfl); done)
            simp only [Act.put, List.setIfInBounds_toArray, List.set_cons_zero, List.set_cons_succ]
            refine wpAnyH_take (i := 23) (oi := ⟨some 104, _, _, _, _, _⟩) (v := ?_) rfl (by kernel_rfl) (by kernel_rfl) (by kernel_rfl) (fun _ _ _ h => h) (Or.inl ⟨by kernel_rfl, ?_⟩) (by assumption) ?_
            rotate_left
            focus ((intro w hSw; (try dsimp only at hSw); go_simp); (try with_reducible rfl); done)
            simp only [Act.put, List.setIfInBounds_toArray, List.set_cons_zero, List.set_cons_succ]
            refine wpAnyH_take (i := 24) (oi := ⟨some 105, _, _, _, _, _⟩) (v := ?_) rfl (by kernel_rfl) (by kernel_rfl) (by kernel_rfl) (fun _ _ _ h => h) (Or.inl ⟨by kernel_rfl, ?_⟩) (by assumption) ?_
            rotate_left
            focus ((intro w hSw; (try dsimp only at hSw); go_simp); (try with_reducible rfl); done)
            simp only [Act.put, List.setIfInBounds_toArray, List.set_cons_zero, List.set_cons_succ]
            refine wpAnyH_take (i := 25) (oi := ⟨some 106, _, _, _, _, _⟩) (v := ?_) rfl (by kernel_rfl) (by kernel_rfl) (by kernel_rfl) (fun _ _ _ h => h) (Or.inl ⟨by kernel_rfl, ?_⟩) (by assumption) ?_
            rotate_left
            focus ((intro w hSw; (try dsimp only at hSw); go_simp); (try with_reducible rfl); done)
            simp only [Act.put, List.setIfInBounds_toArray, List.set_cons_zero, List.set_cons_succ]
            refine wpAnyH_take (i := 26) (oi := ⟨some 107, _, _, _, _, _⟩) (v := ?_) rfl (by kernel_rfl) (by kernel_rfl) (by kernel_rfl) (fun _ _ _ h => h) (Or.inl ⟨by kernel_rfl, ?_⟩) (by assumption) ?_
            rotate_left
            focus ((intro w hSw; (try dsimp only at hSw); go_simp); (try with_reducible rfl); done)
            simp only [Act.put, List.setIfInBounds_toArray, List.set_cons_zero, List.set_cons_succ]
            refine wpAnyH_take (i := 27) (oi := ⟨some 108, _, _, _, _, _⟩) (v := ?_) rfl (by kernel_rfl) (by kernel_rfl) (by kernel_rfl) (fun _ _ _ h => h) (Or.inl ⟨by kernel_rfl, ?_⟩) (by assumption) ?_
            rotate_left
            focus ((intro w hSw; (try dsimp only at hSw); go_simp); (try with_reducible rfl); done)
            simp only [Act.put, List.setIfInBounds_toArray, List.set_cons_zero, List.set_cons_succ]
            refine wpAnyH_ready (rs := [28]) (by kernel_rfl) (by simp) ?_
            refine AllReadyH.cons (o := ⟨some 109, _, _, _, _, _⟩) rfl (fun K hK => ?_) AllReadyH.nil
            go_simp
            (go_at_call 16; refine (HNXT.out _ (HCJ.out _ (CJ7.out.kp KD7.out))).mono ?_; rintro _ w8 ⟨⟨u8, rfl, r8, _⟩, k8⟩; have K8 := Lib.hid (KD7.out.trans k8); have S8 := Lib.hid (HCC.out _ K8.out); have cv8 := run_string_rd w8 22 9 5 _ _ r8 Tryd.underlying22 Tryd.underlying5 Tryd.underlying9; obtain ⟨m1, m2, m3, rfl⟩ := r8.sl; clear r8 k8)
            refine hK.out _ _ (by first | exact S10.out | exact S9.out | exact S8.out | exact S7.out) (fun hHeld => ?_)
            clear hK K
            try simp only [Act.put, List.setIfInBounds_toArray, List.set_cons_zero, List.set_cons_succ]
            refine wpAnyH_ready (rs := [29]) (by kernel_rfl) (by simp) ?_
            refine AllReadyH.cons (o := ⟨some 110, _, _, _, _, _⟩) rfl (fun K hK => ?_) AllReadyH.nil
            go_simp
            skip
            refine hK.out _ _ (by first | exact S10.out | exact S9.out | exact S8.out | exact S7.out) (fun hHeld => ?_)
            clear hK K
            try simp only [Act.put, List.setIfInBounds_toArray, List.set_cons_zero, List.set_cons_succ]
            refine wpAnyH_take (i := 30) (oi := ⟨some 111, _, _, _, _, _⟩) (v := ?_) rfl (by kernel_rfl) (by kernel_rfl) (by kernel_rfl) (fun _ _ _ h => h) (Or.inl ⟨by kernel_rfl, ?_⟩) (by assumption) ?_
            rotate_left
            focus ((intro w hSw; (try dsimp only at hSw); go_simp); (try with_reducible rfl); done)
            simp only [Act.put, List.setIfInBounds_toArray, List.set_cons_zero, List.set_cons_succ]
            refine wpAnyH_take (i := 31) (oi := ⟨some 112, _, _, _, _, _⟩) (v := ?_) rfl (by kernel_rfl) (by kernel_rfl) (by kernel_rfl) (fun _ _ _ h => h) (Or.inl ⟨by kernel_rfl, ?_⟩) (by assumption) ?_
            rotate_left
            focus ((intro w hSw; (try dsimp only at hSw); go_simp); (try with_reducible rfl); done)
            simp only [Act.put, List.setIfInBounds_toArray, List.set_cons_zero, List.set_cons_succ]
            refine wpAnyH_take (i := 32) (oi := ⟨some 113, _, _, _, _, _⟩) (v := ?_) rfl (by kernel_rfl) (by kernel_rfl) (by kernel_rfl) (fun _ _ _ h => h) (Or.inl ⟨by kernel_rfl, ?_⟩) (by assumption) ?_
            rotate_left
            focus ((intro w hSw; (try dsimp only at hSw); go_simp); (try with_reducible rfl); done)
            simp only [Act.put, List.setIfInBounds_toArray, List.set_cons_zero, List.set_cons_succ]
            refine wpAnyH_take (i := 33) (oi := ⟨some 114, _, _, _, _, _⟩) (v := ?_) rfl (by kernel_rfl) (by kernel_rfl) (by kernel_rfl) (fun _ _ _ h => h) (Or.inl ⟨by kernel_rfl, ?_⟩) (by assumption) ?_
            rotate_left
            focus ((intro w hSw; (try dsimp only at hSw); go_simp); (try with_reducible rfl); done)
            simp only [Act.put, List.setIfInBounds_toArray, List.set_cons_zero, List.set_cons_succ]
            refine wpAnyH_take (i := 34) (oi := ⟨some 115, _, _, _, _, _⟩) (v := ?_) rfl (by kernel_rfl) (by kernel_rfl) (by kernel_rfl) (fun _ _ _ h => h) (Or.inl ⟨by kernel_rfl, ?_⟩) (by assumption) ?_
            rotate_left
            focus ((intro w hSw; (try dsimp only at hSw); go_simp); (try with_reducible rfl); done)
            simp only [Act.put, List.setIfInBounds_toArray, List.set_cons_zero, List.set_cons_succ]
            refine wpAnyH_take (i := 35) (oi := ⟨some 116, _, _, _, _, _⟩) (v := ?_) rfl (by kernel_rfl) (by kernel_rfl) (by kernel_rfl) (fun _ _ _ h => h) (Or.inl ⟨by kernel_rfl, ?_⟩) (by assumption) ?_
            rotate_left
            focus ((intro w hSw; (try dsimp only at hSw); go_simp); (try with_reducible rfl); done)
            simp only [Act.put, List.setIfInBounds_toArray, List.set_cons_zero, List.set_cons_succ]
            refine wpAnyH_take (i := 36) (oi := ⟨some 117, _, _, _, _, _⟩) (v := ?_) rfl (by kernel_rfl) (by kernel_rfl) (by kernel_rfl) (fun _ _ _ h => h) (Or.inl ⟨by kernel_rfl, ?_⟩) (by assumption) ?_
            rotate_left
            focus ((intro w hSw; (try dsimp only at hSw); go_simp); (try with_reducible rfl); done)
            simp only [Act.put, List.setIfInBounds_toArray, List.set_cons_zero, List.set_cons_succ]
            refine wpAnyH_ready (rs := [37]) (by kernel_rfl) (by simp) ?_
            refine AllReadyH.cons (o := ⟨some 118, _, _, _, _, _⟩) rfl (fun K hK => ?_) AllReadyH.nil
            go_simp
            (go_at_call 17; refine (HLCK.out _ (HCJ.out _ (CJ7.out.kp K8.out))).mono ?_; rintro _ w9 ⟨⟨x9, y9, rfl, l9, _, _⟩, k9⟩; have K9 := Lib.hid (K8.out.trans k9); have S9 := Lib.hid (HCC.out _ K9.out); have L9 := Lib.hid l9; obtain ⟨o1, o2, o3, o4, o5, o6, rfl, rfl⟩ := HXL.out _ _ _ _ l9; clear l9 k9 cv8)
            refine hK.out _ _ (by first | exact S10.out | exact S9.out | exact S8.out | exact S7.out) (fun hHeld => ?_)
            clear hK K
            try simp only [Act.put, List.setIfInBounds_toArray, List.set_cons_zero, List.set_cons_succ]
            refine wpAnyH_ready (rs := [38]) (by kernel_rfl) (by simp) ?_
            refine AllReadyH.cons (o := ⟨some 119, _, _, _, _, _⟩) rfl (fun K hK => ?_) AllReadyH.nil
            go_simp
            (go_at_call 14; refine (HSLK.out _ _ _ _ _ (L7.out.kp K9.out) L9.out).mono ?_; rintro _ w10 ⟨⟨bb, rfl, hb⟩, k10⟩; obtain rfl : bb = true := (by first | exact hb.2 trivial | exact hb.2 rfl); have K10 := Lib.hid (K9.out.trans k10); have S10 := Lib.hid (HCC.out _ K10.out); clear hb k10)
            refine hK.out _ _ (by first | exact S10.out | exact S9.out | exact S8.out | exact S7.out) (fun hHeld => ?_)
            clear hK K
            try simp only [Act.put, List.setIfInBounds_toArray, List.set_cons_zero, List.set_cons_succ]
            refine wpAnyH_take (i := 39) (oi := ⟨some 120, _, _, _, _, _⟩) (v := ?_) rfl (by kernel_rfl) (by kernel_rfl) (by kernel_rfl) (fun _ _ _ h => h) (Or.inl ⟨by kernel_rfl, ?_⟩) (by assumption) ?_
            rotate_left
            focus ((intro w hSw; (try dsimp only at hSw); go_simp); (try with_reducible rfl); done)
            simp only [Act.put, List.setIfInBounds_toArray, List.set_cons_zero, List.set_cons_succ]
            refine wpAnyH_take (i := 40) (oi := ⟨some 121, _, _, _, _, _⟩) (v := ?_) rfl (by kernel_rfl) (by kernel_rfl) (by kernel_rfl) (fun _ _ _ h => h) (Or.inl ⟨by kernel_rfl, ?_⟩) (by assumption) ?_
            rotate_left
            focus ((intro w hSw; (try dsimp only at hSw); go_simp); (try with_reducible rfl); done)
            simp only [Act.put, List.setIfInBounds_toArray, List.set_cons_zero, List.set_cons_succ]
            refine wpAnyH_done (by kernel_rfl) ?_ _
            have B10 := Lib.hid (B7.out.kp K10.out)
            have C10 := Lib.hid (C7.out.kp K10.out)
            have KW10 := Lib.hid (KJ.out.trans (K7.out.trans K10.out))
            have hJ1 : ((j + 1 : Nat) : Int) = (j : Int) + 1 := by omega
            have HJ1 := Lib.hid hJ1
            clear hJ1
            obtain ⟨r0, r1, r2⟩ := cells3 (D7.out.kp K10.out)
            clear hHeld S10 S9 S8 S7 HCC HNXT HLCK HSLK HT
            go_wp2_with (first
              | (refine wpList_store_row rfl rfl 34 (.tmp 10) (.tmp 122) rfl BB 34 _ #[.int .i64 ((j : Int) + 1), .slice e1 32 e3, .slice e4 0 e6] rfl rfl B10.out rfl (three_one rfl rfl rfl) infoCh3 ?_; intro w11 b11 g11 h11; have K11 := Lib.hid (h11 w KW10.out HBW.out); have D11 := Lib.hid b11; have C11 : Hid (CIn w11 (.slice e1 32 e3) (.slice e4 0 e6) ⟨(j : Int) + 1, NXT, []⟩) := ⟨Rd.kept13 C10.out.sec B10.out g11, LL.nil_any C10.out.spare⟩; clear b11 g11 h11)
              | fail)
            go_round
            case rel =>
              refine ⟨j + 1, e1, e3, e4, e6, by omega, by go_num, ?_, ?_, K11.out⟩
              · rw [HJ1.out]; exact D11.out
              · rw [← HSUC.out, HJ1.out]; exact C11.out
            case measure => simp [intOf]; omega
          · obtain rfl : j = T := by omega
            have hr := HRT.out j (onB S 0 j) wr _ _ CJ.out
            dsimp only at hr
            have HR := Lib.hid hr
            have HOK := Lib.hid (HOKJ.out j (onB S 0 j) (by omega) hsl)
            clear hr
            go_wp2_with fail
            refine HR.out.mono ?_
            rintro _ w5 ⟨⟨bb, rfl, hb⟩, k5⟩
            obtain rfl : bb = true := hb.2 HOK.out
            have K5 := Lib.hid k5
            clear hb k5
            go_wp2_with fail
            go_ret
            exact ⟨rfl, KJ.out.trans K5.out⟩
      · have q1 : ¬ (send.length : Int) = 32 := by omega
        clear hs
        go_wp2_with fail
        go_ret
        exact ⟨rfl, K2.out⟩
theorem ratchSecrets_int (v : Value) (send : List UInt8) (n i k : Int) (w : World) (h : Rd w v send) (hn : 0 ≤ n ∧ n ≤ 255) (hi : 0 ≤ i ∧ i ≤ 255) (hk : 0 ≤ k ∧ k ≤ 255) (hT : Tab w) :
    Calls Tryd.prog 5 #[.agg #[v, .int .u8 n, .int .u8 i, .int .u8 k]] w fun e w' => e = .returned (.bool true) ∧ Kp w w' := by
  obtain ⟨n, rfl⟩ := Int.eq_ofNat_of_zero_le hn.1
  obtain ⟨i, rfl⟩ := Int.eq_ofNat_of_zero_le hi.1
  obtain ⟨k, rfl⟩ := Int.eq_ofNat_of_zero_le hk.1
  exact ratchSecrets_walk v send n i k w h (by omega) (by omega) (by omega) hT
end Go.Proofs.YtigpgcjbpoaclaaDoor

/- pyxref05: Block, Stream. -/
import Derived.Test.YtdcbljfacmidjaaGreatRefLock
import Derived.Test.YtdcbljfacmidjaaGreatAesB
import Derived.Test.YtdcbljfacmidjaaGreatBytAll
import Derived.Test.YtdcbljfacmidjaaGreatShaC
import Derived.Maps.AppendAt
import Derived.Deep.RegionHeld3
set_option linter.unusedVariables false
set_option linter.unusedSimpArgs false
namespace Go.Proofs.YtdcbljfacmidjaaGreat
open Go.RowKit

/-- append onto memory of the call's own, as one step of a region that draws its order; where the row lies then. -/
theorem step_append_at5 {P : Program} {t e : TypeId} (U : U8 P t e) {ops : Array Oper} {o : Oper} {a : Act} {w : World} {K : Act → World → Prop} {Q : Exit → Act → World → Prop} {E : Prop}
    (hg : o.guard = none) (s x : Operand) (hop : o.op = Op.call { callee := Callee.builtin Builtin.append, args := #[s, x], argTypes := #[t, t] })
    (B : Nat) (v : Value) (l : List UInt8) (hs : a.eval s = v) (hown : Ow e w B v l) (ad : Addr) (n c : Nat) (m : List UInt8) (hx : a.eval x = .slice (some ad) n c) (hu : Rd w (.slice (some ad) n c) m)
    (hlen : l.length + m.length ≤ 140737488355328) (hbase : B ≤ w.heap.size)
    (hK : ∀ v' w', Ow e w' B v' (l ++ m) → w.grownBy w' v.ownBlock → (v'.ownBlock = v.ownBlock ∨ v'.ownBlock = some w.heap.size) → K (a.put o.dst v') w') :
    if Region.wanted o (yielded ops a.tmps) = true then Oper.wp P o a w K Q else E := by
  have hw : Region.wanted o (yielded ops a.tmps) = true := by simp [Region.wanted, hg]
  rw [if_pos hw]
  obtain ⟨i, hi, hz, hsize, hby⟩ := U.hi
  obtain ⟨hn, _, _⟩ := hu.len
  subst hn
  obtain ⟨a', c', e', h1, h2, h3, h4⟩ := hu
  simp only [Value.slice.injEq] at e'
  obtain ⟨rfl, _, rfl⟩ := e'
  obtain ⟨v', w', hrun, k1, k2, _, k4⟩ := run_append_own_at (P := P) (w := w) B t o.type e i (.int .u8 0) 1 1 U.ht hi hz hsize hby rfl (by decide) v l.length (Lib.byteCells l) hown ad m.length c (Lib.byteCells m) (by rw [byteCells_length]; omega) (fun j z hj => by
    have hjl : j < m.length := by
      have := (List.getElem?_eq_some_iff.1 hj).1
      rwa [byteCells_length] at this
    rw [byteCells_get m j hjl] at hj
    cases hj
    exact h4 ad rfl j hjl) (fun z hz => by
    obtain ⟨b, _, rfl⟩ := List.mem_map.1 hz
    rfl) (by unfold maxLen; omega) (by omega) hbase
  have hK2 := hK v' w' (by unfold Ow; rw [List.length_append, byteCells_append]; exact k1) k2 k4
  unfold Oper.wp
  simp [execOp, hop, resolve, invoke, builtin, hs, hx, hrun, Result.andThen]
  exact hK2

theorem grown_cell5 {w w' : World} {row : Option Nat} {p : Addr} {v : Value} (hg : w.grownBy w' row) (hc : w.cell? p = some v) (hne : row ≠ some p.block) : w'.cell? p = some v :=
  (World.cell?_of_block (w := w) (hg.block p.block (World.block_lt_of_cell? w _ hc) (fun e => hne e.symm))).trans hc
theorem strL_take (K nonce b : List UInt8) (j : Nat) (h : j < b.length) : (strL K nonce b).take (j + 1) = (strL K nonce b).take j ++ [strF K nonce b j] := by
  rw [snoc_take _ _ (by rw [strL_length]; exact h), strL_get _ _ _ _ h]

set_option maxRecDepth 100000 in
set_option maxHeartbeats 4000000 in
theorem refStream_any5 (u1 u2 u3 : Value) (key nonce b : List UInt8) (w : World) (hu1 : Rd w u1 key) (hu2 : Rd w u2 nonce) (hu3 : Rd w u3 b) (hbl : b.length ≤ 1000000) :
    Calls Tryz.prog 30 #[u1, u2, u3] w fun e w' => (∃ r, e = .returned (.tuple #[r, .int .i64 (strE key nonce)]) ∧ Rd w' r (strR key nonce b)) ∧ Kp w w' := by
  have U := u8
  obtain ⟨a1, c1, rfl, h1, h2⟩ := hu1.shape
  obtain ⟨a2, c2, rfl, h3, h4⟩ := hu2.shape
  obtain ⟨a3, c3, rfl, h5, h6⟩ := hu3.shape
  by_cases hk : key.length = 16
  · by_cases hn : nonce.length = 12
    · have e0 : strE key nonce = 0 := if_pos ⟨hk, hn⟩
      have r0 : strR key nonce b = strL (keysL key) nonce b := if_pos ⟨hk, hn⟩
      rw [e0, r0]
      by_cases hb0 : b.length = 0
      · have hbn : b = [] := List.eq_nil_of_length_eq_zero hb0
        subst hbn
        have hs0 : strL (keysL key) nonce [] = [] := rfl
        rw [hs0, hk, hn, List.length_nil]
        go_enter Tryz.func30, Tryz.ntmps30
        go_wp2_with fail
        go_ret2
        exact ⟨⟨_, rfl, Rd.nil _⟩, Kp.refl _⟩
      · obtain ⟨gb, ob, rfl, hgb, hcb⟩ := hu3.at 0 (by omega)
        have HCB := Lib.hid hcb
        have HKR : Hid (∀ bx W, Kp w W → By 5 W bx boxRow → Calls Tryz.prog 53 #[.slice a1 key.length c1, .slice (some ⟨bx, 0, none⟩) 256 256] W fun e w' => (∃ r, e = .returned r ∧ Ow 5 w' W.heap.size r (keysL key)) ∧ Kp W w') := fun bx W h1 h2 => refKeysRow_any _ key bx W (hu1.kp h1) hk h2
        have HKL := Lib.hid (keysL_length hk)
        rw [hk] at HKR h1 ⊢
        have HN2 := Lib.hid hu2
        rw [hn] at HN2 h3 ⊢
        have HN := Lib.hid hn
        obtain ⟨len, hlen⟩ : ∃ n, b.length = n := ⟨_, rfl⟩
        have HSL := Lib.hid (strL_length (keysL key) nonce b)
        have HST := Lib.hid (strL_take (keysL key) nonce b)
        rw [hlen] at HCB HSL HST h5 hbl hb0 ⊢
        have HDEF : Hid (∀ j, strF (keysL key) nonce b j = b.getD j 0 ^^^ (lockL (keysL key) (ctrB nonce (j / 16))).getD (j % 16) 0) := fun _ => rfl
        have HLL : Hid (∀ x, (lockL (keysL key) x).length = 16) := lockL_length (keysL key)
        generalize keysL key = K at *
        have hl0 : ((len : Int) == 0) = false := beq_eq_false_iff_ne.2 (by omega)
        have hl1 : ¬ (len : Int) = 0 := by omega
        clear hu1 hu2 hu3 hcb e0 r0 hk hn hb0
        go_enter Tryz.func30, Tryz.ntmps30
        go_wp2_with fail
        refine (boxes_any w).mono ?_; rintro _ w1 ⟨⟨rfl, hX⟩, k1⟩
        go_wp2_with fail
        refine (HKR.out w.heap.size w1 k1 hX).mono ?_; rintro _ w2 ⟨⟨r, rfl, ho⟩, k2⟩
        have HRK := Lib.hid ho.rd
        have HX := Lib.hid (hX.kp k2)
        have HK2 := Lib.hid (k1.trans k2)
        clear HKR hX k1 k2 ho hl0 hl1
        go_wp2_with fail
        go_loopw [8, 11] (fun v p wr => ∃ (q : Nat) (x : Value), 16 * q ≤ len + 15 ∧ x = v ∧ p = .int .i64 (16 * q : Nat) ∧ Ow 5 wr w2.heap.size v ((strL K nonce b).take (min (16 * q) len)) ∧ Kp w2 wr) (fun _ p _ => len + 16 - (intOf p).toNat)
        case atStart => exact ⟨0, _, by omega, rfl, rfl, by rw [Nat.mul_zero, Nat.zero_min, List.take_zero]; exact Ow.nil _ _ _, Kp.refl _⟩
        case round =>
          obtain ⟨q, v, hq, rfl, rfl, hO, hk⟩ := hrel
          obtain ⟨f, hf⟩ : ∃ f, 16 * q = f := ⟨_, rfl⟩
          rw [hf] at hq hO ⊢
          by_cases hlt : f < len
          · have q1 : (f : Int) < (len : Int) := by omega
            have e1 : (f : Int).tdiv 16 = (q : Int) := by rw [Int.tdiv_eq_ediv_of_nonneg (by omega)]; omega
            have e2 : (f : Int) / 16 = (q : Int) := by omega
            have e3 : IntKind.i64.wrap ((q : Int) + 1) = (q : Int) + 1 := IntWalk.i64_in _ (by omega)
            have e4 : IntKind.i64.wrap (q : Int) = (q : Int) := IntWalk.i64_in _ (by omega)
            have hnk : numOk ((q : Int) + 1) 4 := by
              unfold numOk
              refine ⟨by omega, by omega, by omega, ?_⟩
              show (q : Int) + 1 < 4294967296
              omega
            have hnum := refNum_any ((q : Int) + 1) 4 wr (by omega)
            rw [(num_yes hnk).1, (num_yes hnk).2, show ((4 : Int)).toNat = 4 from rfl, show ((q : Int) + 1).toNat = q + 1 by omega] at hnum
            have HNUM := Lib.hid hnum
            have HBL := Lib.hid (be_length 4 (q + 1))
            have HCL : Hid ((ctrB nonce q).length = 16) := by rw [Hid, ctrB_length, HN.out]
            have HCT : Hid (nonce ++ be 4 (q + 1) = ctrB nonce q) := rfl
            have hmf : min f len = f := by omega
            rw [hmf] at hO
            have HO := Lib.hid hO
            have hkw := HK2.out.trans hk
            clear hnum hnk hmf hO
            go_wp2_with fail
            refine HNUM.out.mono ?_; rintro _ w5 ⟨v5, rfl, ho5, k5⟩
            have h5 := ho5.rd
            clear HNUM ho5
            go_wp2_with (at_builtin; first
              | (refine wpList_append_ow (o := ⟨some 49, _, _, _, _, _⟩) U rfl _ _ rfl w5.heap.size _ [] rfl (Ow.lit w5 _ _ 0 #[] [] (Nat.le_refl _) rfl (by omega) rfl) _ nonce rfl (HN2.out.kp ((hkw.trans k5).alloc _)) (by rw [HN.out]; simp) (by simp) ?_; intro v6 w6 ho6 hg6 _; have k6 : Kp w5 w6 := Kp.grown ((Kp.refl w5).alloc _) hg6 (fun k e => by cases e; exact Nat.le_refl _); have ho6' : Ow 5 w6 w5.heap.size v6 nonce := (by simpa using ho6); have h56 := h5.kp k6; clear ho6 hg6)
              | (refine wpList_append_ow (o := ⟨some 51, _, _, _, _, _⟩) U rfl _ _ rfl w5.heap.size v6 nonce rfl ho6' _ (be 4 (q + 1)) rfl h56 (by rw [HN.out, HBL.out]; decide) k6.size ?_; intro v7 w7 ho7 hg7 _; have k7 : Kp w5 w7 := Kp.grown k6 hg7 ho6'.own_ge; rw [HCT.out] at ho7; clear hg7 ho6' h56))
            have k57 := k5.trans k7
            refine (refLock_any r v7 K (ctrB nonce q) w.heap.size w7 (HRK.out.kp (hk.trans k57)) HKL.out (HX.out.kp (hk.trans k57)) ho7.rd HCL.out).mono ?_; rintro _ w8 ⟨⟨vs, rfl, ho8⟩, k8⟩
            obtain ⟨gs, cs, rfl, y1, y2, y3, y4⟩ := ow_some5 ho8 (by rw [HLL.out]; omega)
            have hrs := ho8.rd
            rw [HLL.out] at hrs y3 ⊢
            obtain ⟨bs, os, hbo, hblt, hcs⟩ := hrs.at 0 (by omega)
            cases hbo
            have hv8 : v.ownBlock ≠ some gs := fun e => by
              have := (World.ownsRow.lt (w := wr) HO.out gs e).2
              have := k57.size
              omega
            have ho9 := HO.out.kp (k57.trans k8)
            have hk9 := hk.trans (k57.trans k8)
            have hkw9 : Kp w w8 := HK2.out.trans hk9
            have HCS : Hid (∀ i, i < 16 → w8.cell? ⟨gs, i, none⟩ = some (.int .u8 (((lockL K (ctrB nonce q)).getD i 0).toNat : Int))) := fun i hi => by
              have := hcs i hi
              rwa [Nat.zero_add] at this
            clear hcs hrs ho8 ho7 k57 k8 k7 k6 k5 hk h5 HO hkw
            go_wp2_with fail
            go_loopw [8, 15] (fun v p wr => ∃ (i : Nat) (x : Value), f ≤ i ∧ i ≤ len ∧ i ≤ f + 16 ∧ x = v ∧ p = .int .i64 i ∧ Ow 5 wr w2.heap.size v ((strL K nonce b).take i) ∧ Kp w2 wr ∧ v.ownBlock ≠ some gs ∧ Hid (∀ i, i < 16 → wr.cell? ⟨gs, i, none⟩ = some (.int .u8 (((lockL K (ctrB nonce q)).getD i 0).toNat : Int))) ∧ gs < wr.heap.size) (fun _ p _ => f + 16 - (intOf p).toNat)
            case atStart => exact ⟨f, _, by omega, by omega, by omega, rfl, rfl, ho9, hk9, hv8, HCS, y2⟩
            case round =>
              clear ho9 hk9 hv8 HCS y2 y3 y4 hblt hkw9
              obtain ⟨i, v, hi1, hi2, hi3, rfl, rfl, hO, hkp, hv, hcs, hgs⟩ := hrel
              have i0 : IntKind.i64.wrap ((f : Int) + 16) = (f : Int) + 16 := IntWalk.i64_in _ (by omega)
              by_cases hi16 : i < f + 16
              · have d1 : (i : Int) < (f : Int) + 16 := by omega
                by_cases hil : i < len
                · have d2 : (i : Int) < (len : Int) := by omega
                  obtain ⟨k, hk'⟩ : ∃ k, i - f = k := ⟨_, rfl⟩
                  have hk16 : k < 16 := by omega
                  have d3 : (i : Int) - (f : Int) = (k : Int) := by omega
                  have d4 : IntKind.i64.wrap (k : Int) = k := IntWalk.i64_in _ (by omega)
                  have d5 : (k : Int) < 16 := by omega
                  have c1 := (HK2.out.trans hkp).cell (HCB.out i hil)
                  have c2 := hcs.out k hk16
                  have hx := b8_xor (b.getD i 0) ((lockL K (ctrB nonce q)).getD k 0)
                  have hdef := HDEF.out i
                  rw [show i / 16 = q by omega, show i % 16 = k by omega] at hdef
                  rw [← hdef] at hx
                  have hst := HST.out i hil
                  have htl : ((strL K nonce b).take i).length ≤ 1000000 := by rw [List.length_take]; omega
                  have hneb : v.ownBlock ≠ some gb := fun e => by
                    have := (World.ownsRow.lt (w := wr) hO gb e).1
                    have := HK2.out.size
                    omega
                  generalize strF K nonce b i = Y at *
                  have HCS0 := hcs
                  generalize hL1 : (strL K nonce b).take (i + 1) = L1 at *
                  have HL1 := Lib.hid hL1
                  generalize (strL K nonce b).take i = L0 at *
                  generalize b.getD i 0 = X1 at *
                  generalize (lockL K (ctrB nonce q)).getD k 0 = X2 at *
                  have HS1 := Lib.hid hst
                  have HC1 : Hid (∀ W, Kp wr W → W.cell? ⟨gb, ob + i, none⟩ = some (.int .u8 (X1.toNat : Int)) ∧ W.cell? ⟨gs, k, none⟩ = some (.int .u8 (X2.toNat : Int))) := fun W hW => ⟨hW.cell c1, hW.cell c2⟩
                  have hkz := hkp.size
                  clear hst hdef hk' hcs hL1
                  go_wp2_with fail
                  go_region_held3 (fun W => W.cell? ⟨gb, ob + i, none⟩ = some (.int .u8 (X1.toNat : Int)) ∧ W.cell? ⟨gs, k, none⟩ = some (.int .u8 (X2.toNat : Int)))
                    (first
                      | exact HC1.out _ (Kp.refl _).drew
                      | exact HC1.out _ ((Kp.refl _).alloc _).drew
                      | exact cb9)
                    (first
                      | (refine step_append_at5 U rfl (.tmp 66) (.tmp 78) rfl w2.heap.size _ _ rfl (hO.kp ((Kp.refl _).alloc _).drew) _ 1 1 [Y] rfl ((Rd.box wr _ _ Y rfl).kp (Kp.refl _).drew) (by simp; omega) (by simp; omega) ?_; intro v' w9 ho9 hg9 ha9; have cb9 : w9.cell? ⟨gb, ob + i, none⟩ = some (.int .u8 (X1.toNat : Int)) ∧ w9.cell? ⟨gs, k, none⟩ = some (.int .u8 (X2.toNat : Int)) := ⟨grown_cell5 hg9 (HC1.out _ ((Kp.refl _).alloc _).drew).1 hneb, grown_cell5 hg9 (HC1.out _ ((Kp.refl _).alloc _).drew).2 hv⟩))
                  all_goals
                    have hk10 : Kp w2 w9 := Kp.grown ((hkp.alloc _).drew) hg9 hO.own_ge
                    have hgz := hg9.size
                    have hv10 : v'.ownBlock ≠ some gs := fun e => by
                      rcases ha9 with h | h
                      · exact hv (h.symm.trans e)
                      · rw [h] at e
                        simp at e
                        omega
                    have hgs10 : gs < w9.heap.size := by
                      simp at hgz
                      omega
                    have HCS10 : Hid (∀ i, i < 16 → w9.cell? ⟨gs, i, none⟩ = some (.int .u8 (((lockL K (ctrB nonce q)).getD i 0).toNat : Int))) := fun j hj => grown_cell5 hg9 (((Kp.refl wr).alloc _).drew.cell (HCS0.out j hj)) hv
                    rw [← HS1.out] at ho9
                    clear cb9 hg9 ha9 hgz
                    go_wp2_with fail
                    go_roundw
                    case rel => exact ⟨i + 1, _, by omega, by omega, by omega, rfl, by go_num, by rw [HL1.out]; exact ho9, hk10, hv10, HCS10, hgs10⟩
                    case measure => simp [intOf]; omega
                · have d2 : ¬ (i : Int) < (len : Int) := by omega
                  have hO9 : Ow 5 wr w2.heap.size v ((strL K nonce b).take (min (16 * (q + 1)) len)) := by rw [show min (16 * (q + 1)) len = i by omega]; exact hO
                  have e9 : IntKind.i64.wrap ((f : Int) + 16) = ((16 * (q + 1) : Nat) : Int) := by rw [IntWalk.i64_in _ (by omega)]; omega
                  have HQ := Lib.hid (show 16 * (q + 1) ≤ len + 15 by omega)
                  have HF := Lib.hid hf
                  clear hO hf hcs
                  go_wp2_with fail
                  go_roundw
                  case rel => exact ⟨q + 1, _, HQ.out, rfl, congrArg (Value.int .i64) (by have := HF.out; omega), hO9, hkp⟩
                  case measure => have := HF.out; have := HQ.out; simp [intOf]; omega
              · have d1 : ¬ (i : Int) < (f : Int) + 16 := by omega
                have hO9 : Ow 5 wr w2.heap.size v ((strL K nonce b).take (min (16 * (q + 1)) len)) := by rw [show min (16 * (q + 1)) len = i by omega]; exact hO
                have e9 : IntKind.i64.wrap ((f : Int) + 16) = ((16 * (q + 1) : Nat) : Int) := by rw [IntWalk.i64_in _ (by omega)]; omega
                have HQ := Lib.hid (show 16 * (q + 1) ≤ len + 15 by omega)
                have HF := Lib.hid hf
                clear hO hf hcs
                go_wp2_with fail
                go_roundw
                case rel => exact ⟨q + 1, _, HQ.out, rfl, congrArg (Value.int .i64) (by have := HF.out; omega), hO9, hkp⟩
                case measure => have := HF.out; have := HQ.out; simp [intOf]; omega
          · have hq2 : ¬ (f : Int) < (len : Int) := by omega
            have hO2 : Ow 5 wr w2.heap.size v (strL K nonce b) := by
              rw [show min f len = len by omega, List.take_of_length_le (by rw [HSL.out]; exact Nat.le_refl _)] at hO
              exact hO
            have hkf := HK2.out.trans hk
            clear hO
            go_wp2_with fail
            go_ret2
            exact ⟨⟨_, rfl, hO2.rd⟩, hkf⟩
    · have e0 : strE key nonce = 1 := if_neg (fun h => hn h.2)
      have r0 : strR key nonce b = [] := if_neg (fun h => hn h.2)
      rw [e0, r0]
      have hb2 : ((nonce.length : Int) == 12) = false := beq_eq_false_iff_ne.2 (by omega)
      have hb3 : ¬ (nonce.length : Int) = 12 := by omega
      rw [hk]
      go_enter Tryz.func30, Tryz.ntmps30
      go_wp2_with fail
      go_ret2
      exact ⟨⟨_, rfl, Rd.nil _⟩, Kp.refl _⟩
  · have e0 : strE key nonce = 1 := if_neg (fun h => hk h.1)
    have r0 : strR key nonce b = [] := if_neg (fun h => hk h.1)
    rw [e0, r0]
    have hb2 : ((key.length : Int) == 16) = false := beq_eq_false_iff_ne.2 (by omega)
    have hb3 : ¬ (key.length : Int) = 16 := by omega
    go_enter Tryz.func30, Tryz.ntmps30
    go_wp2_with fail
    go_ret2
    exact ⟨⟨_, rfl, Rd.nil _⟩, Kp.refl _⟩
end Go.Proofs.YtdcbljfacmidjaaGreat

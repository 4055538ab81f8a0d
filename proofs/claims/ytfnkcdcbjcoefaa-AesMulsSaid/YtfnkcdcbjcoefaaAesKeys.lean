/- aes.Keys. -/
import Derived.Test.YtfnkcdcbjcoefaaAesCipher
import Derived.Test.YtfnkcdcbjcoefaaRowsOwn
import Derived.Test.YtfnkcdcbjcoefaaRow2
import Derived.Test.YtfnkcdcbjcoefaaOneCell
set_option linter.unusedVariables false
set_option linter.unusedSimpArgs false
namespace Go.Proofs.Ytfnkcdcbjcoefaa
open Go.RowKit

/-- What Keys answers. -/
def keyE (key : List UInt8) : Int := if key.length = 16 then 0 else 1
def rowsK (K : List UInt8) (n : Nat) : List (List UInt8) := (List.range n).map (rowK K)
def keyR (key : List UInt8) : List (List UInt8) := if key.length = 16 then rowsK (keysL key) 11 else []
theorem rowsK_next (K : List UInt8) (n : Nat) : rowsK K (n + 1) = rowsK K n ++ [rowK K n] := by simp [rowsK, List.range_succ]
theorem rowsK_length (K : List UInt8) (n : Nat) : (rowsK K n).length = n := by simp [rowsK]
theorem row_info : (Try.prog.info? 22).map (fun i => (i.zero, i.size, i.bytes)) = some (some (.slice none 0 0), 1, 24) := by kernel_rfl
theorem rows1 : S1 Try.prog 24 22 := S1.mk' Try.underlying24 row_info (by decide) rfl
/-- A row of an array of rows, by value. -/
theorem index_row (K : List UInt8) (n : Nat) (W : World) (hK : K.length = 176) (hn : n < 11) : (Instr.index 52 (.agg (bcells K)) (.int .i64 n)).run Try.prog W = .ok (.agg (bcells (rowK K n))) W := by
  have hr : (0 ≤ (n : Int) ∧ (n : Int) < (11 : Int)) := by omega
  have hagg : (isAgg 51).run Try.prog W = .ok true W := by
    unfold isAgg
    rw [Sem.run_bind, run_underlying Try.underlying51 W]
    rfl
  have hsz : (sizeOf 51).run Try.prog W = .ok 16 W := by
    have h : (Try.prog.info? 51).map (·.size) = some 16 := by kernel_rfl
    cases hq : Try.prog.info? 51 with
    | none => rw [hq] at h; cases h
    | some ie =>
      rw [hq] at h
      have : ie.size = 16 := by simpa using h
      simp [sizeOf, typeInfo, hq, this]
  have he : (bcells K).extract (n * 16) (n * 16 + 16) = bcells (rowK K n) := by
    apply Array.ext'
    rw [Array.toList_extract]
    unfold bcells rowK Lib.byteCells
    simp [List.map_take, List.map_drop, Nat.mul_comm, List.extract_eq_take_drop]
  simp [Instr.index, run_underlying Try.underlying52, asIntOf, hr, go_sem, part, hagg, hsz, he, Sem.run_bind]
  intro h
  omega

set_option maxRecDepth 100000 in
set_option maxHeartbeats 2000000 in
theorem aesKeys_any (u : Value) (key : List UInt8) (w : World) (hu : Rd w u key) :
    Calls Try.prog 10 #[u] w fun e w' => (∃ r, e = .returned (.tuple #[r, .int .i64 (keyE key)]) ∧ RL w' r (keyR key)) ∧ Kp w w' := by
  obtain ⟨a1, c1, rfl, h1, h2⟩ := hu.shape
  by_cases hk : key.length = 16
  · have e0 : keyE key = 0 := if_pos hk
    have r0 : keyR key = rowsK (keysL key) 11 := if_pos hk
    rw [e0, r0]
    have HKL := Lib.hid (keysL_length hk)
    have HNC := Lib.hid (newCipher_any _ key w hu hk)
    rw [hk] at HNC h1 ⊢
    have HN := Lib.hid (rowsK_next (keysL key))
    have HIX : Hid (∀ n : Nat, n < 11 → ∀ W, (Instr.index 52 (.agg (Lib.byteCells (keysL key)).toArray) (.int .i64 n)).run Try.prog W = .ok (.agg (bcells (rowK (keysL key) n))) W) := fun n hn W => index_row _ n W HKL.out hn
    have HRL : Hid (∀ n, n < 11 → (rowK (keysL key) n).length = 16) := fun n hn => rowK_length (by rw [HKL.out]; omega)
    have HL0 : Hid (rowsK (keysL key) 0 = []) := rfl
    have HLL : Hid (∀ n, (rowsK (keysL key) n).length = n) := rowsK_length _
    have SR := rows1
    generalize rowsK (keysL key) = F at *
    generalize keysL key = K at *
    clear e0 r0
    go_enter Try.func10, Try.ntmps10
    go_wp2_with fail
    refine HNC.out.mono ?_; rintro _ w1 ⟨⟨gc, bx, rfl, hC, hgc, hbx⟩, k1⟩
    have hrg : w1.rangeAt gc 1 (Lib.byteCells K) := fun j v hv => by
      have hj : j < K.length := by
        have := (List.getElem?_eq_some_iff.1 hv).1
        rwa [byteCells_length] at this
      have := hC.rows j hj
      rw [byteCells_get K j hj] at hv
      cases hv
      rw [this, List.getD_eq_getElem?_getD, List.getElem?_eq_getElem hj]
      rfl
    have hi52 : (Try.prog.info? 52).map (·.size) = some 176 := by kernel_rfl
    go_wp2_with (refine wpList_load_mid (cs := Lib.byteCells K) rfl 52 (.tmp 13) rfl gc 1 rfl _ hrg Try.underlying52 rfl (by rw [byteCells_length, HKL.out]; exact hi52) ?_)
    go_loopw [4, 15] (fun v p wr => ∃ (n : Nat) (x : Value), n ≤ 11 ∧ p = .int .i64 n ∧ x = v ∧ RO 22 wr w.heap.size v (F n) ∧ Kp w wr) (fun _ p _ => 11 - (intOf p).toNat)
    case atStart => exact ⟨0, _, by omega, rfl, rfl, by rw [HL0.out]; exact RO.nil _ _ _, k1⟩
    case round =>
      clear hrg hi52 hC k1 HNC hu
      obtain ⟨n, v, hn, rfl, rfl, hR, hkp⟩ := hrel
      by_cases hlt : n < 11
      · have q1 : (n : Int) < 11 := by omega
        have hix := HIX.out n hlt
        have hrl := HRL.out n hlt
        have hnx := Lib.hid (HN.out n)
        generalize hX : rowK K n = X at *
        have hle := hkp.size
        have HRO := Lib.hid hR
        have hll := HLL.out n
        clear hX hR
        go_wp2_with (first
          | (refine wpList_store_by (by kernel_rfl) rfl rfl (.tmp 6) (.tmp 17) rfl wr.heap.size (List.replicate 16 0) X rfl rfl (By.made _ _ _ _ rfl) (by decide) hrl ?_; intro w2 hB2 hbut))
        have hk2 : Kp wr w2 := hbut.below ((Kp.refl wr).alloc _) (Nat.le_refl _)
        have hs2 : wr.heap.size < w2.heap.size := hB2.lt
        clear hbut
        refine (clone_any _ X w2 (hB2.rdAll (by omega) (Nat.le_refl _) (by unfold maxLen; omega)) (by omega)).mono ?_; rintro _ w3 ⟨u, rfl, ho3, hk3⟩
        rcases ho3.shape with ⟨_, h0⟩ | ⟨g, c, rfl, hg1, hg2, hg3, hg4⟩
        · rw [h0] at hrl; simp at hrl
        · have hrd := ho3.rd
          have hne : v.ownBlock ≠ some g := fun e => by have := (HRO.out.lt g e).2; omega
          have hk03 : Kp wr w3 := hk2.trans hk3
          have hro := HRO.out.kp (hk03.alloc (.cells #[.slice (some ⟨g, 0, none⟩) X.length c] 22))
          have hlt' : ∀ k, v.ownBlock = some k → w.heap.size ≤ k := fun k hk => (HRO.out.lt k hk).1
          have hkw : Kp w (w3.alloc (.cells #[.slice (some ⟨g, 0, none⟩) X.length c] 22)) := (hkp.trans hk03).alloc _
          clear hkp hB2 ho3 hrl
          go_wp2_with (at_builtin; refine wpList_append_row SR rfl _ _ rfl w.heap.size v (F n) rfl hro g c w3.heap.size X rfl (One.new _ w3 _).cell (hrd.kp ((Kp.refl _).alloc _)) (by simp; omega) hne (by rw [hll]; omega) hkw.size ?_; intro v' w4 hro4 hgr)
          rw [← hnx.out] at hro4
          have hk4 : Kp w w4 := Kp.grown hkw hgr hlt'
          clear hgr hkw hro
          go_roundw
          case rel => exact ⟨n + 1, _, by omega, by go_num, rfl, hro4, hk4⟩
          case measure => simp [intOf]; omega
      · obtain rfl : n = 11 := by omega
        go_wp2_with fail
        go_ret2
        exact ⟨⟨_, rfl, hR.rl⟩, hkp⟩
  · have e0 : keyE key = 1 := if_neg hk
    have r0 : keyR key = [] := if_neg hk
    rw [e0, r0]
    have hb2 : ((key.length : Int) == 16) = false := beq_eq_false_iff_ne.2 (by omega)
    have hb3 : ¬ (key.length : Int) = 16 := by omega
    go_enter Try.func10, Try.ntmps10
    go_wp2_with fail
    go_ret2
    exact ⟨⟨_, rfl, RL.nil _⟩, Kp.refl _⟩
end Go.Proofs.Ytfnkcdcbjcoefaa

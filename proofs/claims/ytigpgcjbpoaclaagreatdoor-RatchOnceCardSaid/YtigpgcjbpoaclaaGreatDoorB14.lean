import Derived.Test.YtigpgcjbpoaclaaGreatDoorB2
import Derived.Test.YtigpgcjbpoaclaaGreatDoorB13
set_option linter.unusedVariables false
set_option linter.unusedSimpArgs false
namespace Go.Proofs.YtigpgcjbpoaclaaGreatDoor
open Go.RowKit
theorem padded_length (l : List UInt8) : (padded l).length = l.length + 9 + fill l.length := by unfold padded; rw [List.length_append, pad_length]; omega
theorem padded_whole (l : List UInt8) : (padded l).length = 64 * ((padded l).length / 64) := by
  have := pad_whole l.length
  have h : (padded l).length = l.length + (pad l.length).length := by unfold padded; rw [List.length_append]
  omega
theorem blocks_succ (s : S8) (l : List UInt8) (k : Nat) : blocks s l (k + 1) = comp keyL (blocks s l k) ((l.drop (64 * k)).take 64) := by rw [blocks]
theorem padOf_nat (n : Nat) (h : n ≤ 2000) : padOf (n : Int) = pad n := by
  unfold padOf
  rw [if_pos (by omega), Int.toNat_natCast]
theorem step_int (x : Int) (s : S8) (v : Value) (all : List UInt8) (at' : Nat) (gk ck : Nat) (k : List UInt32) (w : World) (h : Rd w v all) (hl : at' + 64 ≤ all.length) (hk : Arr 99 w gk k) (hkl : k.length = 64) (hx : x = at') :
    Calls Tryz.prog 95 #[.agg (wcells s.list), v, .int .i64 x, .slice (some ⟨gk, 0, none⟩) 64 ck] w fun e w' => e = .returned (.agg (wcells (comp k s ((all.drop at').take 64)).list)) ∧ Kp w w' := by
  subst hx
  exact step_any s v all at' gk ck k w h hl hk hkl
theorem bytes4_rest (x : UInt32) : ∃ b0 b1 b2 b3 : UInt8, bytes4 x = [b0, b1, b2, b3] ∧ IntKind.u8.wrap (u x / 16777216) = (b0.toNat : Int) ∧ IntKind.u8.wrap (u x / 65536 % 256) = (b1.toNat : Int) ∧ IntKind.u8.wrap (u x / 256 % 256) = (b2.toNat : Int) ∧ IntKind.u8.wrap (u x % 256) = (b3.toNat : Int) := by
  refine ⟨_, _, _, _, rfl, ?_, ?_, ?_, ?_⟩ <;> rw [IntKind.wrap_u8] <;> unfold u <;> simp
set_option maxRecDepth 100000 in
set_option maxHeartbeats 2000000 in
theorem refSum_own (v : Value) (l : List UInt8) (w : World) (h : Rd w v l) (hl : l.length ≤ 2000) :
    Calls Tryz.prog 84 #[v] w fun e w' => (∃ v', e = .returned v' ∧ Ow 5 w' w.heap.size v' (digest l)) ∧ Kp w w' := by
  have U := u8
  obtain ⟨a, c, rfl, h1, h2⟩ := h.shape
  unfold maxLen at h2
  have hpl := padded_length l
  have hpw := padded_whole l
  have hfl := fill_lt l.length
  obtain ⟨P, hP⟩ : ∃ P, padded l = P := ⟨_, rfl⟩
  have hPP : l ++ pad l.length = P := hP
  have hdg : digest l = (blocks startS P (P.length / 64)).bytes := by unfold digest; rw [hP]
  rw [hdg]
  rw [hP] at hpl hpw
  obtain ⟨N, hN⟩ : ∃ N, P.length / 64 = N := ⟨_, rfl⟩
  rw [hN] at hpw ⊢
  have HP := Lib.hid hPP
  have HL := Lib.hid hpw
  have hN2 : N ≤ 40 := by omega
  have hPL : P.length ≤ 2600 := by omega
  have hpo := padOf_nat l.length hl
  have HPO := Lib.hid hpo
  have hlb := hl
  clear hdg hP hPP hpw hpl hN hpo hfl
  go_enter Tryz.func84, Tryz.ntmps84
  go_wp2_with (first
    | (at_builtin; refine wpList_append_ow U rfl _ _ rfl w.heap.size _ _ rfl (Ow.lit w 5 w.heap.size 0 #[] [] (Nat.le_refl _) rfl (by decide) rfl) _ l rfl (h.kp ((Kp.refl w).alloc _)) ?c1 ?c2 ?_; rotate_right; intro v1 w1 ho1 hg1 _
       have hk1 : Kp w w1 := Kp.grown ((Kp.refl w).alloc _) hg1 (by intro k e; cases e; exact Nat.le_refl _)
       clear hg1)
    | (go_at_call 92; refine (refPad_any _ _).mono ?_; rintro e w2 ⟨⟨vp, rfl, hrp⟩, hk2⟩; rw [HPO.out] at hrp)
    | (at_builtin; refine wpList_append_ow U rfl _ _ rfl w.heap.size _ _ rfl (ho1.kp hk2) _ (pad l.length) rfl hrp ?c3 ?c4 ?_; rotate_right; intro v2 w3 ho2 hg2 _
       have hk3 : Kp w w3 := Kp.grown (hk1.trans hk2) hg2 ho1.own_ge
       rw [List.nil_append, HP.out] at ho2
       clear hg2))
  case c1 => simp; omega
  case c2 => simp
  case c3 => have := fill_lt l.length; have := pad_length l.length; simp; omega
  case c4 => exact (hk1.trans hk2).size
  refine (refKeys_any _).mono ?_
  rintro e w4 ⟨⟨gk, rfl, hA, _⟩, hk4⟩
  go_wp2_with fail
  refine (refStart_any _).mono ?_
  rintro e w5 ⟨rfl, hk5⟩
  have hA5 := hA.kp hk5
  have hr5 := (ho2.rd.kp hk4).kp hk5
  have hkp5 : Kp w w5 := (hk3.trans hk4).trans hk5
  clear hA hk4 hk5 ho2 hk3 ho1 hk1 hk2 hrp
  obtain ⟨a2, c2, rfl, hq1, hq2⟩ := hr5.shape
  unfold maxLen at hq2
  go_wp2_with (refine wpList_store_arr' (by kernel_rfl) rfl rfl (.tmp 5) (.tmp 17) rfl w5.heap.size (zeros 8) startS.list rfl rfl (Arr.new _ _ _ _ rfl) rfl rfl ?_; intro w6 hR6 hbut)
  have hk6 : Kp w5 w6 := hbut.below ((Kp.refl w5).alloc _) (Nat.le_refl _)
  clear hbut
  go_loopw [6] (fun i wr => ∃ k : Nat, k ≤ N ∧ i = .int .i64 (64 * (k : Int)) ∧ Arr 119 wr w5.heap.size (blocks startS P k).list ∧ Kp w5 wr) (fun i _ => (64 * N - (intOf i).toNat))
  case atStart => exact ⟨0, by omega, rfl, hR6, hk6⟩
  case round =>
    clear hR6 hk6
    obtain ⟨k, hkN, rfl, hR, hk⟩ := hrel
    by_cases hlt : k < N
    · have hcond : 64 * (k : Int) < (P.length : Int) := by rw [HL.out]; omega
      have HS := Lib.hid (step_int (64 * (k : Int)) (blocks startS P k) (.slice a2 P.length c2) P (64 * k) gk 64 keyL wr (hr5.kp hk) (by rw [HL.out]; omega) (hA5.kp hk) rfl (by simp))
      rw [← blocks_succ] at HS
      obtain ⟨s', hs'⟩ : ∃ s', blocks startS P (k + 1) = s' := ⟨_, rfl⟩
      rw [hs'] at HS
      have HS' := Lib.hid hs'
      clear hs'
      generalize blocks startS P k = s at *
      go_wp2_with (refine wpList_load_arr Tryz.underlying119 (by kernel_rfl) rfl (.tmp 5) rfl w5.heap.size s.list rfl hR rfl ?_)
      refine HS.out.mono ?_
      rintro e w7 ⟨rfl, hk7⟩
      have hR7 := hR.kp hk7
      have hk8 : Kp w5 w7 := hk.trans hk7
      clear hR hk hk7
      go_wp2_with (refine wpList_store_arr' (by kernel_rfl) rfl rfl (.tmp 5) (.tmp 28) rfl w5.heap.size s.list s'.list rfl rfl hR7 rfl rfl ?_; intro w8 hR8 hbut)
      go_roundw
      case rel => exact ⟨k + 1, by omega, by congr 1, by rw [HS'.out]; exact hR8, hbut.below hk8 (Nat.le_refl _)⟩
      case measure => simp [intOf]; omega
    · obtain rfl : k = N := by omega
      have hcond : ¬ 64 * (k : Int) < (P.length : Int) := by rw [HL.out]; omega
      obtain ⟨s, hsn⟩ : ∃ s, blocks startS P k = s := ⟨_, rfl⟩
      rw [hsn] at hR
      have HSN := Lib.hid hsn
      clear hsn
      go_wp2_with fail
      rename World => wA
      go_loopw [7, 8] (fun v i wq => ∃ j : Nat, j ≤ 8 ∧ i = .int .i64 j ∧ Ow 5 wq wA.heap.size v (bytesTo s j) ∧ Kp wA wq) (fun _ i _ => (8 - intOf i).toNat)
      case atStart => exact ⟨0, by omega, rfl, Ow.nil _ _ _, Kp.refl _⟩
      case round =>
        obtain ⟨j, hj, rfl, hown, hkq⟩ := hrel
        by_cases hlt2 : j < 8
        · have cb := (hR.kp hkq).cell j hlt2
          have hs := bytesTo_succ s j hlt2
          have hlen := bytesTo_length s j (by omega)
          generalize s.list.getD j 0 = x at *
          obtain ⟨b0, b1, b2, b3, h4, v0, v1', v2', v3⟩ := bytes4_rest x
          rw [h4] at hs
          generalize bytesTo s j = L at *
          have HS := Lib.hid hs
          have HLn := Lib.hid hlen
          have q : (j : Int) < 8 := by omega
          clear hs hlen h4 hcond
          go_wp2_with fail
          have u0 := u_nonneg x
          have u1 := u_lt x
          have w0 : IntKind.u32.wrap ((u x).tdiv 16777216) = u x / 16777216 := by rw [Int.tdiv_eq_ediv_of_nonneg u0]; exact wraps_u32 _ (by omega) (by omega)
          have w1' : IntKind.u32.wrap ((u x).tdiv 65536) = u x / 65536 := by rw [Int.tdiv_eq_ediv_of_nonneg u0]; exact wraps_u32 _ (by omega) (by omega)
          have w2' : IntKind.u32.wrap ((u x).tdiv 256) = u x / 256 := by rw [Int.tdiv_eq_ediv_of_nonneg u0]; exact wraps_u32 _ (by omega) (by omega)
          have m1 : (u x / 65536).tmod 256 = u x / 65536 % 256 := Int.tmod_eq_emod_of_nonneg (by omega)
          have m2 : (u x / 256).tmod 256 = u x / 256 % 256 := Int.tmod_eq_emod_of_nonneg (by omega)
          have m3 : (u x).tmod 256 = u x % 256 := Int.tmod_eq_emod_of_nonneg u0
          clear u0 u1
          have hblt : w5.heap.size < wr.heap.size := World.block_lt_of_cell? wr _ cb
          go_region_held3 (fun W => W.cell? ⟨w5.heap.size, j, none⟩ = some (.int .u32 (u x)))
            (first
              | exact cb
              | exact (((Kp.refl wr).alloc _).drew).cell cb
              | exact (((Kp.refl wr).drew).alloc _).cell cb
              | exact (Kp.grown (((Kp.refl wr).alloc _).drew) hg9 (fun k e => absurd e (by simp))).cell cb
              | (exact cb9)
              | trace_state)
            (first
              | (refine step_append_ow U rfl (.tmp 33) (.tmp 56) rfl wA.heap.size _ _ rfl (hown.kp ((Kp.refl _).alloc _).drew) _ 4 4 [b0, b1, b2, b3] rfl ((Ow.lit wr 5 0 4 _ _ (Nat.zero_le _) rfl (by decide) rfl).kp (Kp.refl _).drew).rd (by rw [HLn.out]; simp; omega) (by have := hkq.size; simp; omega) ?_; intro v' w9 ho9 hg9; have cb9 : w9.cell? ⟨w5.heap.size, j, none⟩ = some (.int .u32 (u x)) := (Below.cell (Kp.grown (hkq.alloc _).drew hg9 hown.own_ge) (p := ⟨w5.heap.size, j, none⟩) (Arr.lt hR)).trans ((hR.cell j hlt2).trans (by have := (hR.kp hkq).cell j hlt2; rw [cb] at this; exact this.symm))))
          all_goals
            go_wp2_with fail
            go_roundw
            case rel => exact ⟨j + 1, by omega, by go_num, by rw [HS.out]; exact ho9, Kp.grown (hkq.alloc _).drew hg9 hown.own_ge⟩
            case measure => simp [intOf]; omega
        · obtain rfl : j = 8 := by omega
          go_wp2_with fail
          go_ret
          exact ⟨⟨_, rfl, by rw [HSN.out]; exact hown.mono (hkp5.trans hk).size⟩, (hkp5.trans hk).trans hkq⟩
theorem blocks_prefix (s : S8) (l m : List UInt8) : ∀ k, 64 * k ≤ l.length → blocks s (l ++ m) k = blocks s l k
  | 0, _ => rfl
  | k + 1, h => by
    rw [blocks_succ, blocks_succ, blocks_prefix s l m k (by omega), List.drop_append_of_le_length (by omega), List.take_append_of_le_length (by simp; omega)]
theorem blocks_add (s : S8) (P : List UInt8) (a : Nat) : ∀ k, blocks (blocks s P a) (P.drop (64 * a)) k = blocks s P (a + k)
  | 0 => rfl
  | k + 1 => by
    rw [blocks_succ, blocks_add s P a k, List.drop_drop, show a + (k + 1) = (a + k) + 1 by omega, blocks_succ, show 64 * a + 64 * k = 64 * (a + k) by omega]
theorem digest_split (l : List UInt8) (N M : Nat) (hN : N = l.length / 64) (hM : 64 * M = (l.drop (64 * N) ++ pad l.length).length) :
    digest l = (blocks (blocks startS l N) (l.drop (64 * N) ++ pad l.length) M).bytes := by
  have h1 : (padded l).length = 64 * (N + M) := by
    unfold padded
    rw [List.length_append] at hM ⊢
    rw [List.length_drop] at hM
    omega
  have h2 : (padded l).length / 64 = N + M := by omega
  have h3 : l.drop (64 * N) ++ pad l.length = (padded l).drop (64 * N) := by
    unfold padded
    rw [List.drop_append_of_le_length (by omega)]
  unfold digest
  rw [h2, h3, ← blocks_add]
  have h4 : blocks startS (padded l) N = blocks startS l N := blocks_prefix _ _ _ _ (by omega)
  rw [h4]
theorem tail_whole (l : List UInt8) (N : Nat) (hN : N = l.length / 64) : 64 * ((l.drop (64 * N) ++ pad l.length).length / 64) = (l.drop (64 * N) ++ pad l.length).length := by
  have := pad_whole l.length
  rw [List.length_append, List.length_drop]
  omega
end Go.Proofs.YtigpgcjbpoaclaaGreatDoor

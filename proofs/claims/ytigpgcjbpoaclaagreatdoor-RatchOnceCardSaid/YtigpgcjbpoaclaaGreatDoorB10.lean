import Derived.Test.YtigpgcjbpoaclaaGreatDoorB7
import Derived.Test.YtigpgcjbpoaclaaGreatDoorB8
import Derived.StillTailTactics
import Derived.Outline
import Derived.WalkSpells
import Derived.Deep.RegionHeld3
set_option linter.unusedVariables false
set_option linter.unusedSimpArgs false
namespace Go.Proofs.YtigpgcjbpoaclaaGreatDoor
open Go.RowKit
attribute [local go_sem] u_wrap u_add u_xor u_and u_or u_shl u_shr
def zeros (n : Nat) : List UInt32 := List.replicate n 0
theorem zeros_length (n : Nat) : (zeros n).length = n := by simp [zeros]
theorem sched_length (l : List UInt8) : ∀ t, (sched l t).length = t
  | 0 => rfl
  | t + 1 => by simp [sched, sched_length l t]
def upto (l : List UInt8) (t : Nat) : List UInt32 := sched l t ++ zeros (64 - t)
theorem upto_length (l : List UInt8) (t : Nat) (h : t ≤ 64) : (upto l t).length = 64 := by simp [upto, sched_length, zeros_length]; omega
theorem upto_set (l : List UInt8) (t : Nat) (h : t < 64) : (upto l t).set t (nextWord l (sched l t) t) = upto l (t + 1) := by
  unfold upto zeros
  rw [List.set_append_right _ _ (by rw [sched_length]; omega), sched_length, Nat.sub_self, show 64 - t = (64 - (t + 1)) + 1 by omega, List.replicate_succ]
  simp [sched]
theorem upto_get (l : List UInt8) (t i : Nat) (h : i < t) : (upto l t).getD i 0 = (sched l t).getD i 0 := by
  unfold upto
  rw [List.getD_eq_getElem?_getD, List.getElem?_append_left (by rw [sched_length]; exact h), List.getD_eq_getElem?_getD]
theorem upto_all (l : List UInt8) : upto l 64 = sched l 64 := by simp [upto, zeros]
theorem wcells_zeros (n : Nat) : wcells (zeros n) = Array.replicate n (.int .u32 0) := by
  apply Array.ext'
  simp [wcells, zeros, wcell, u]
theorem wraps_u32 (n : Int) (h₀ : 0 ≤ n) (h₁ : n < 2 ^ 32) : IntKind.u32.wrap n = n := by rw [IntKind.wrap_u32]; omega
theorem word_ors (a b c d : UInt8) :
    (IntKind.u32.wrap (ub a) = ub a ∧ IntKind.u32.wrap (ub b) = ub b ∧ IntKind.u32.wrap (ub c) = ub c ∧ IntKind.u32.wrap (ub d) = ub d) ∧
    (IntKind.u32.wrap (ub a * 16777216) = ub a * 16777216 ∧ IntKind.u32.wrap (ub b * 65536) = ub b * 65536 ∧ IntKind.u32.wrap (ub c * 256) = ub c * 256) ∧
    (bits .or .u32 (ub a * 16777216) (ub b * 65536) = ub a * 16777216 + ub b * 65536 ∧
     bits .or .u32 (ub a * 16777216 + ub b * 65536) (ub c * 256) = ub a * 16777216 + ub b * 65536 + ub c * 256 ∧
     bits .or .u32 (ub a * 16777216 + ub b * 65536 + ub c * 256) (ub d) = u (wordOf a b c d)) := by
  have hs := wordOf_sum a b c d
  have a0 := ub_nonneg a
  have b0 := ub_nonneg b
  have c0 := ub_nonneg c
  have d0 := ub_nonneg d
  have a1 := ub_lt a
  have b1 := ub_lt b
  have c1 := ub_lt c
  have d1 := ub_lt d
  refine ⟨⟨wraps_u32 _ (by omega) (by omega), wraps_u32 _ (by omega) (by omega), wraps_u32 _ (by omega) (by omega), wraps_u32 _ (by omega) (by omega)⟩,
    ⟨wraps_u32 _ (by omega) (by omega), wraps_u32 _ (by omega) (by omega), wraps_u32 _ (by omega) (by omega)⟩, ?_, ?_, ?_⟩
  · exact bits_join .u32 32 (by decide) wraps_u32 24 _ _ (by omega) (by omega) (by omega) (by omega) (by omega) (by omega)
  · exact bits_join .u32 32 (by decide) wraps_u32 16 _ _ (by omega) (by omega) (by omega) (by omega) (by omega) (by omega)
  · rw [bits_join .u32 32 (by decide) wraps_u32 8 _ _ (by omega) (by omega) (by omega) (by omega) (by omega) (by omega), hs]
def got (W : World) (p : Addr) : Value := (W.cell? p).getD undef
def So (T : TypeId) (w : World) (g : Nat) (L : List UInt32) (t : Nat) (W : World) : Prop := ∃ x, Arr T W (g + 1) (L.set t x) ∧ Arr T W g (zeros 64) ∧ Below g w W
theorem So.start {T : TypeId} {w W : World} {g : Nat} {L : List UInt32} {t : Nat} (ht : t < L.length) (h : Arr T W (g + 1) L) (h0 : Arr T W g (zeros 64)) (hk : Below g w W) : So T w g L t W :=
  ⟨L[t], by rw [List.set_getElem_self]; exact h, h0, hk⟩
theorem So.drewN {T : TypeId} {w W : World} {g : Nat} {L : List UInt32} {t : Nat} (h : So T w g L t W) (n : Nat) : So T w g L t (W.drewN n) := by
  obtain ⟨x, h1, h2, h3⟩ := h
  exact ⟨x, h1.drewN n, h2.drewN n, h3.trans ((Kp.refl W).drewN n |>.mono (by have := h2.lt; omega))⟩
theorem So.drew {T : TypeId} {w W : World} {g : Nat} {L : List UInt32} {t : Nat} (h : So T w g L t W) : So T w g L t W.drew := h.drewN 1
theorem So.set {T : TypeId} {w W : World} {g : Nat} {L : List UInt32} {t : Nat} (h : So T w g L t W) (y : UInt32) : So T w g L t (W.setCell ⟨g + 1, t, none⟩ (.int .u32 (u y))) := by
  obtain ⟨x, h1, h2, h3⟩ := h
  refine ⟨y, ?_, h2.other _ _ (by simp), h3.setCell (p := ⟨g + 1, t, none⟩) (by simp) _⟩
  have := h1.set t y _ rfl
  rwa [List.set_set] at this
theorem So.facts {T : TypeId} {w W : World} {g : Nat} {L : List UInt32} {t : Nat} (ht : t < L.length) (h16 : 16 ≤ t) (x2 x7 x15 x16 : UInt32) (e2 : L.getD (t - 2) 0 = x2) (e7 : L.getD (t - 7) 0 = x7) (e15 : L.getD (t - 15) 0 = x15) (e16 : L.getD (t - 16) 0 = x16)
    (h : So T w g L t W) : W.cell? ⟨g + 1, t - 2, none⟩ = some (.int .u32 (u x2)) ∧ W.cell? ⟨g + 1, t - 7, none⟩ = some (.int .u32 (u x7)) ∧ W.cell? ⟨g + 1, t - 15, none⟩ = some (.int .u32 (u x15)) ∧ W.cell? ⟨g + 1, t - 16, none⟩ = some (.int .u32 (u x16)) ∧
      W.cell? ⟨g + 1, t, none⟩ = some (got W ⟨g + 1, t, none⟩) ∧ W.frozen? ⟨g + 1, t, none⟩ = false ∧ So T w g L t W := by
  have h' := h
  obtain ⟨x, h1, h2, h3⟩ := h'
  have hl : (L.set t x).length = L.length := by simp
  have k : ∀ i, i < t → W.cell? ⟨g + 1, i, none⟩ = some (.int .u32 (u (L.getD i 0))) := fun i hi => by
    have := h1.cell i (by rw [hl]; omega)
    rw [this, List.getD_eq_getElem?_getD, List.getElem?_set_ne (by omega), List.getD_eq_getElem?_getD]
  subst e2 e7 e15 e16
  refine ⟨k _ (by omega), k _ (by omega), k _ (by omega), k _ (by omega), ?_, h1.frozen t (by omega), h⟩
  have := h1.cell t (by omega)
  unfold got
  rw [this]
  rfl
set_option maxRecDepth 100000 in
set_option maxHeartbeats 1000000 in
theorem schedule_any (v : Value) (l : List UInt8) (w : World) (h : Rd w v l) (hl : l.length = 64) :
    Calls Tryz.prog 112 #[v] w fun e w' => e = .returned (.agg (wcells (sched l 64))) ∧ Kp w w' := by
  obtain ⟨a, c, rfl, h1, h2⟩ := h.shape
  rw [hl] at h h1 ⊢
  unfold maxLen at h2
  obtain ⟨b, off, rfl, hb, hc⟩ := h.row (by omega)
  go_enter Tryz.func112, Tryz.ntmps112
  go_wp2_with fail
  go_loopw [7] (fun i wr => ∃ t : Nat, t ≤ 16 ∧ i = .int .i64 t ∧ Arr 125 wr w.heap.size (zeros 64) ∧ Arr 125 wr (w.heap.size + 1) (upto l t) ∧ Kp w wr) (fun i _ => 16 - (intOf i).toNat)
  case atStart =>
    refine ⟨0, by omega, rfl, ?_, ?_, ((Kp.refl w).alloc _).alloc _⟩
    · exact (Arr.new _ _ _ (zeros 64) rfl).alloc _
    · have := Arr.new 125 (w.alloc (.cells (wcells (zeros 64)) 125)) (wcells (zeros 64)) (upto l 0) rfl
      rw [World.size_alloc] at this
      exact this
  case round =>
    obtain ⟨t, ht, rfl, hA0, hA, hk⟩ := hrel
    by_cases hlt : t < 16
    · have c0 := hk.cell (hc (4 * t) (by omega))
      have c1 := hk.cell (hc (4 * t + 1) (by omega))
      have c2 := hk.cell (hc (4 * t + 2) (by omega))
      have c3 := hk.cell (hc (4 * t + 3) (by omega))
      have hn : nextWord l (sched l t) t = wordOf (l.getD (4 * t) 0) (l.getD (4 * t + 1) 0) (l.getD (4 * t + 2) 0) (l.getD (4 * t + 3) 0) := by unfold nextWord; rw [if_pos hlt]
      have hset := (upto_set l t (by omega))
      rw [hn] at hset
      have hA' := hA.set t (wordOf (l.getD (4 * t) 0) (l.getD (4 * t + 1) 0) (l.getD (4 * t + 2) 0) (l.getD (4 * t + 3) 0)) _ rfl
      rw [hset] at hA'
      have hA0' := hA0.other ⟨w.heap.size + 1, t, none⟩ (.int .u32 (u (wordOf (l.getD (4 * t) 0) (l.getD (4 * t + 1) 0) (l.getD (4 * t + 2) 0) (l.getD (4 * t + 3) 0)))) (by simp)
      have hk' := Below.setCell hk (p := ⟨w.heap.size + 1, t, none⟩) (by simp) (.int .u32 (u (wordOf (l.getD (4 * t) 0) (l.getD (4 * t + 1) 0) (l.getD (4 * t + 2) 0) (l.getD (4 * t + 3) 0))))
      have ca := hA.cell t (by rw [upto_length l t (by omega)]; omega)
      have cf := hA.frozen t (by rw [upto_length l t (by omega)]; omega)
      generalize l.getD (4 * t) 0 = x0 at *
      generalize l.getD (4 * t + 1) 0 = x1 at *
      generalize l.getD (4 * t + 2) 0 = x2 at *
      generalize l.getD (4 * t + 3) 0 = x3 at *
      obtain ⟨⟨v0, v1, v2, v3⟩, ⟨m0, m1, m2⟩, o1, o2, o3⟩ := word_ors x0 x1 x2 x3
      simp only [← Nat.add_assoc] at c1 c2 c3
      have H := Lib.hid hset
      have e4 : 4 * t + 4 - 4 * t = 4 := by omega
      clear hc hset hn
      go_wp2_with fail
      rw [e4]
      have ht64 : (t : Int) < 64 := by omega
      go_still_tail 24, (by kernel_rfl)
      go_wp2_with fail
      go_roundw
      case rel => exact ⟨t + 1, by omega, by go_num, hA0'.drew, hA'.drew, hk'.drew⟩
      case measure => simp [intOf]; omega
    · obtain rfl : t = 16 := by omega
      clear hc hlt ht
      go_wp2_with fail
      go_loopw [6] (fun i wr => ∃ t : Nat, 16 ≤ t ∧ t ≤ 64 ∧ i = .int .i64 t ∧ Arr 125 wr w.heap.size (zeros 64) ∧ Arr 125 wr (w.heap.size + 1) (upto l t) ∧ Kp w wr) (fun i _ => 64 - (intOf i).toNat)
      case atStart => exact ⟨16, by omega, by omega, rfl, hA0, hA, hk⟩
      case round =>
        clear hA0 hA hk
        obtain ⟨t, h16, ht, rfl, hA0, hA, hk⟩ := hrel
        by_cases hlt : t < 64
        · have hlen := upto_length l t (by omega)
          have hn : nextWord l (sched l t) t = wadd (wadd (wadd (small 17 19 10 ((upto l t).getD (t - 2) 0)) ((upto l t).getD (t - 7) 0)) (small 7 18 3 ((upto l t).getD (t - 15) 0))) ((upto l t).getD (t - 16) 0) := by
            unfold nextWord
            rw [if_neg (by omega), upto_get l t _ (by omega), upto_get l t _ (by omega), upto_get l t _ (by omega), upto_get l t _ (by omega)]
          have hset := (upto_set l t (by omega))
          rw [hn] at hset
          obtain ⟨x2, e2⟩ : ∃ x, (upto l t).getD (t - 2) 0 = x := ⟨_, rfl⟩
          obtain ⟨x7, e7⟩ : ∃ x, (upto l t).getD (t - 7) 0 = x := ⟨_, rfl⟩
          obtain ⟨x15, e15⟩ : ∃ x, (upto l t).getD (t - 15) 0 = x := ⟨_, rfl⟩
          obtain ⟨x16, e16⟩ : ∃ x, (upto l t).getD (t - 16) 0 = x := ⟨_, rfl⟩
          rw [e2, e7, e15, e16] at hset
          have F : ∀ W, So 125 w w.heap.size (upto l t) t W → _ := fun W h => So.facts (by omega) h16 x2 x7 x15 x16 e2 e7 e15 e16 h
          have HF := Lib.hid F
          have S0 : So 125 w w.heap.size (upto l t) t wr := So.start (by omega) hA hA0 hk
          have i2 : IntKind.i64.wrap ((t : Int) - 2) = (t : Int) - 2 := IntWalk.i64_in _ (by omega)
          have i7 : IntKind.i64.wrap ((t : Int) - 7) = (t : Int) - 7 := IntWalk.i64_in _ (by omega)
          have i15 : IntKind.i64.wrap ((t : Int) - 15) = (t : Int) - 15 := IntWalk.i64_in _ (by omega)
          have i16 : IntKind.i64.wrap ((t : Int) - 16) = (t : Int) - 16 := IntWalk.i64_in _ (by omega)
          have n2 : ((t : Int) - 2).toNat = t - 2 := by omega
          have n7 : ((t : Int) - 7).toNat = t - 7 := by omega
          have n15 : ((t : Int) - 15).toNat = t - 15 := by omega
          have n16 : ((t : Int) - 16).toNat = t - 16 := by omega
          have p2 : (2 : Int) ≤ (t : Int) := by omega
          have p7 : (7 : Int) ≤ (t : Int) := by omega
          have p15 : (15 : Int) ≤ (t : Int) := by omega
          have p16 : (16 : Int) ≤ (t : Int) := by omega
          have q2 : (t : Int) - 2 < 64 := by omega
          have q7 : (t : Int) - 7 < 64 := by omega
          have q15 : (t : Int) - 15 < 64 := by omega
          have q16 : (t : Int) - 16 < 64 := by omega
          have q : (t : Int) < 64 := by omega
          have H := Lib.hid hset
          clear hset hn hlen F e2 e7 e15 e16
          go_wp2_with fail
          go_region_held3 (fun W => W.cell? ⟨w.heap.size + 1, t - 2, none⟩ = some (.int .u32 (u x2)) ∧ W.cell? ⟨w.heap.size + 1, t - 7, none⟩ = some (.int .u32 (u x7)) ∧ W.cell? ⟨w.heap.size + 1, t - 15, none⟩ = some (.int .u32 (u x15)) ∧ W.cell? ⟨w.heap.size + 1, t - 16, none⟩ = some (.int .u32 (u x16)) ∧ W.cell? ⟨w.heap.size + 1, t, none⟩ = some (got W ⟨w.heap.size + 1, t, none⟩) ∧ W.frozen? ⟨w.heap.size + 1, t, none⟩ = false ∧ So 125 w w.heap.size (upto l t) t W)
            (first
              | (with_reducible exact HF.out _ (S0.drew))
              | (with_reducible exact HF.out _ (S0.drewN _))
              | (with_reducible exact HF.out _ ((S0.drewN _).set _)))
            (first
              | (go_at_call 117; (with_reducible refine (shifted_1 _ _).mono ?_); rintro e w' ⟨rfl, n, rfl⟩)
              | (go_at_call 117; (with_reducible refine (shifted_0 _ _).mono ?_); rintro e w' ⟨rfl, n, rfl⟩))
          all_goals
            go_wp2_with fail
            go_roundw
            case rel =>
              repeat apply Exists.intro
              refine ⟨?_, rfl⟩
              exact ⟨t + 1, by omega, by omega, by go_num, (hA0.drewN _).other _ _ (by simp), (hA.drewN _).setTo t _ H.out, Below.setCell (hk.drewN _) (by simp) _⟩
            case measure => simp [intOf]; omega
        · obtain rfl : t = 64 := by omega
          rw [upto_all] at hA
          have hle := hk.size
          go_wp2_with (first
            | (refine wpList_load_arr Tryz.underlying125 (by kernel_rfl) rfl (.tmp 3) rfl (w.heap.size + 1) (sched l 64) rfl hA (sched_length l 64) ?_)
            | (refine wpList_store_arr (by kernel_rfl) rfl (.tmp 2) (.tmp 69) rfl w.heap.size (zeros 64) (sched l 64) rfl rfl hA0 (zeros_length 64) (sched_length l 64) ?_))
          refine bodyPost_ret (results_arr Tryz.underlying125 (by kernel_rfl) rfl _ _ w.heap.size (sched l 64) rfl (hA0.setRow _) (sched_length l 64)) rfl ?_
          exact ⟨rfl, below_setRow hk (Nat.le_refl _) _⟩
end Go.Proofs.YtigpgcjbpoaclaaGreatDoor

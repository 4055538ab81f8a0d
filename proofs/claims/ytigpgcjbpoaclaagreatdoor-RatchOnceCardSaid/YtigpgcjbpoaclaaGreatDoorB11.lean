import Derived.Test.YtigpgcjbpoaclaaGreatDoorB7
import Derived.Test.YtigpgcjbpoaclaaGreatDoorB10
set_option linter.unusedVariables false
set_option linter.unusedSimpArgs false
namespace Go.Proofs.YtigpgcjbpoaclaaGreatDoor
open Go.RowKit
attribute [local go_sem] u_wrap u_add u_xor u_and u_or u_shl u_shr
theorem u_not (x : UInt32) : bits .xor .u32 IntKind.u32.max (u x) = u (wnot x) := by
  have : IntKind.u32.max = u 0xffffffff := by decide
  rw [this, u_xor]
  rfl
attribute [local go_sem] u_not
def mix (A B : List UInt32) (i : Nat) : List UInt32 := B.take i ++ A.drop i
theorem mix_length (A B : List UInt32) (i : Nat) (h : A.length = B.length) (hi : i ≤ A.length) : (mix A B i).length = A.length := by simp [mix]; omega
theorem mix_set (A B : List UInt32) (i : Nat) (h : A.length = B.length) (hi : i < A.length) (x : UInt32) (hx : B.getD i 0 = x) : (mix A B i).set i x = mix A B (i + 1) := by
  unfold mix
  have hb : i < B.length := by omega
  have hl : (B.take i).length = i := by simp; omega
  rw [List.getD_eq_getElem?_getD, List.getElem?_eq_getElem hb] at hx
  rw [List.set_append_right _ _ (by omega), hl, Nat.sub_self, List.drop_eq_getElem_cons hi, List.set_cons_zero, List.take_succ_eq_append_getElem hb, List.append_assoc]
  simp only [Option.getD_some] at hx
  rw [hx]
  rfl
theorem mix_get (A B : List UInt32) (i : Nat) (h : A.length = B.length) (hi : i < A.length) : (mix A B i).getD i 0 = A.getD i 0 := by
  unfold mix
  have hl : (B.take i).length = i := by simp; omega
  rw [List.getD_eq_getElem?_getD, List.getElem?_append_right (by omega), hl, Nat.sub_self, List.drop_eq_getElem_cons hi, List.getD_eq_getElem?_getD, List.getElem?_eq_getElem hi]
  rfl
theorem add_get (s r : S8) (i : Nat) (h : i < 8) : (s.add r).list.getD i 0 = wadd (s.list.getD i 0) (r.list.getD i 0) := by
  match i, h with
  | 0, _ => rfl
  | 1, _ => rfl
  | 2, _ => rfl
  | 3, _ => rfl
  | 4, _ => rfl
  | 5, _ => rfl
  | 6, _ => rfl
  | 7, _ => rfl
theorem u32_info : ∃ ie, Tryz.prog.info? 99 = some ie ∧ ie.size = 1 := by
  have h : (Tryz.prog.info? 99).map (·.size) = some 1 := by kernel_rfl
  cases hq : Tryz.prog.info? 99 with
  | none => rw [hq] at h; cases h
  | some ie => rw [hq] at h; exact ⟨ie, rfl, by simpa using h⟩
set_option maxRecDepth 100000 in
set_option maxHeartbeats 2000000 in
theorem behind_any (s : S8) (v : Value) (l : List UInt8) (gk : Nat) (k : List UInt32) (w : World) (h : Rd w v l) (hl : l.length = 64) (hk : Arr 125 w gk k) (hkl : k.length = 64) :
    Calls Tryz.prog 104 #[.agg (wcells s.list), v, .pointer (some ⟨gk, 0, none⟩)] w fun e w' => e = .returned (.agg (wcells (comp k s l).list)) ∧ Kp w w' := by
  obtain ⟨a, c, rfl, h1, h2⟩ := h.shape
  rw [hl] at h h1 ⊢
  have HL := Lib.hid hl
  have HKL := Lib.hid hkl
  clear hl hkl
  go_enter Tryz.func104, Tryz.ntmps104
  go_wp2_with fail
  refine (schedule_any _ l _ (h.kp (((Kp.refl _).alloc _).alloc _)) HL.out).mono ?_
  rintro e w1 ⟨rfl, hk1⟩
  have hB : Arr 119 w1 w.heap.size s.list := ((Arr.new _ w (wcells s.list) s.list rfl).alloc _).kp hk1
  have hR : Arr 119 w1 (w.heap.size + 1) (zeros 8) := by
    have := Arr.new 119 (w.alloc (.cells (wcells s.list) 119)) (wcells (zeros 8)) (zeros 8) rfl
    rw [World.size_alloc] at this
    exact this.kp hk1
  have hkw : Kp w w1 := (((Kp.refl w).alloc _).alloc _).trans hk1
  have hkk := hk.kp hkw
  go_wp2_with (first
    | (refine wpList_store_arr' (by kernel_rfl) rfl rfl (.tmp 7) (.tmp 24) rfl w1.heap.size (zeros 64) (sched l 64) rfl rfl (Arr.new _ _ _ _ rfl) (zeros_length 64) (sched_length l 64) ?_; intro w2 hW hbut))
  have hB2 := hbut.arr (hB.alloc _) (by have := hB.lt; omega)
  have hR2 := hbut.arr (hR.alloc _) (by have := hR.lt; omega)
  have hk2 := hbut.arr (hkk.alloc _) (by have := hkk.lt; omega)
  have hkp2 : Kp w w2 := hbut.below (hkw.alloc _) (hkw.size)
  clear hbut hB hR hkk hkw hk1 hk h
  have c0 : w2.cell? ⟨w.heap.size, 0, none⟩ = some (.int .u32 (u s.a)) := hB2.cell 0 (Nat.lt_of_sub_eq_succ rfl)
  have c1 : w2.cell? ⟨w.heap.size, 1, none⟩ = some (.int .u32 (u s.b)) := hB2.cell 1 (Nat.lt_of_sub_eq_succ rfl)
  have c2 : w2.cell? ⟨w.heap.size, 2, none⟩ = some (.int .u32 (u s.c)) := hB2.cell 2 (Nat.lt_of_sub_eq_succ rfl)
  have c3 : w2.cell? ⟨w.heap.size, 3, none⟩ = some (.int .u32 (u s.d)) := hB2.cell 3 (Nat.lt_of_sub_eq_succ rfl)
  have c4 : w2.cell? ⟨w.heap.size, 4, none⟩ = some (.int .u32 (u s.e)) := hB2.cell 4 (Nat.lt_of_sub_eq_succ rfl)
  have c5 : w2.cell? ⟨w.heap.size, 5, none⟩ = some (.int .u32 (u s.f)) := hB2.cell 5 (Nat.lt_of_sub_eq_succ rfl)
  have c6 : w2.cell? ⟨w.heap.size, 6, none⟩ = some (.int .u32 (u s.g)) := hB2.cell 6 (Nat.lt_of_sub_eq_succ rfl)
  have c7 : w2.cell? ⟨w.heap.size, 7, none⟩ = some (.int .u32 (u s.h)) := hB2.cell 7 (Nat.lt_of_sub_eq_succ rfl)
  go_quiet (fail)
  clear c0 c1 c2 c3 c4 c5 c6 c7
  go_wp2_with fail
  obtain ⟨w3, hw3⟩ : ∃ w3, w2.drewN nq = w3 := ⟨_, rfl⟩
  have hB3 := hB2.drewN nq
  have hR3 := hR2.drewN nq
  have hk3 := hk2.drewN nq
  have hW3 := hW.drewN nq
  have hkp3 : Kp w (w2.drewN nq) := hkp2.drewN nq
  rw [hw3] at hB3 hR3 hk3 hW3 hkp3 ⊢
  clear hw3 hB2 hR2 hk2 hW hkp2
  have HKL2 := HKL.out
  have HWL := sched_length l 64
  go_loopw [8, 9, 10, 11, 12, 13, 14, 15, 41] (fun sa sb sc sd se sf sg sh i wr => ∃ t : Nat, t ≤ 64 ∧ i = .int .i64 t ∧ (∃ r, r = rnds k (sched l 64) s t ∧ sa = .int .u32 (u r.a) ∧ sb = .int .u32 (u r.b) ∧ sc = .int .u32 (u r.c) ∧ sd = .int .u32 (u r.d) ∧ se = .int .u32 (u r.e) ∧ sf = .int .u32 (u r.f) ∧ sg = .int .u32 (u r.g) ∧ sh = .int .u32 (u r.h)) ∧ ∃ n, wr = w3.drewN n) (fun _ _ _ _ _ _ _ _ i _ => 64 - (intOf i).toNat)
  case atStart => exact ⟨0, by omega, rfl, ⟨s, rfl, rfl, rfl, rfl, rfl, rfl, rfl, rfl, rfl⟩, 0, rfl⟩
  case round =>
    obtain ⟨t, ht, rfl, ⟨r, hr, rfl, rfl, rfl, rfl, rfl, rfl, rfl, rfl⟩, n, rfl⟩ := hrel
    by_cases hlt : t < 64
    · have ck := (hk3.drewN n).cell t (by omega)
      have cw := (hW3.drewN n).cell t (by omega)
      have HR := Lib.hid hr
      have q : (t : Int) < 64 := by omega
      obtain ⟨wn, hwn⟩ : ∃ wn, w3.drewN n = wn := ⟨_, rfl⟩
      rw [hwn] at ck cw ⊢
      have HWN := Lib.hid hwn
      clear hr HKL2 HWL hwn
      have hsg : IntKind.u32.signed = false := rfl
      go_wp2_with ((go_at_call 113; refine (turned_a _ _).mono ?_; rintro e w' ⟨rfl, rfl⟩))
      go_quiet ((go_at_call 113; exact quiet_left (turned_e _ _)))
      go_wp2_with ((go_at_call 113; refine (turned_a _ _).mono ?_; rintro e w' ⟨rfl, rfl⟩))
      go_roundw
      case rel => exact ⟨t + 1, by omega, by go_num, ⟨rnd r (k.getD t 0) ((sched l 64).getD t 0), by rw [HR.out]; rfl, rfl, rfl, rfl, rfl, rfl, rfl, rfl, rfl⟩, n + nq, by rw [← HWN.out, World.drewN_drewN]⟩
      case measure => simp [intOf]; omega
    · obtain rfl : t = 64 := by omega
      have HR := Lib.hid hr
      have hB4 := hB3.drewN n
      have hR4 := hR3.drewN n
      have hkp4 : Kp w (w3.drewN n) := hkp3.drewN n
      obtain ⟨w4, hw4⟩ : ∃ w4, w3.drewN n = w4 := ⟨_, rfl⟩
      rw [hw4] at hB4 hR4 hkp4 ⊢
      clear hr HKL2 HWL hw4 hB3 hR3 hkp3 hk3 hW3 ht hlt
      go_wp2_with fail
      go_loopw [105] (fun i wr => ∃ t : Nat, t ≤ 8 ∧ i = .int .i64 t ∧ Arr 119 wr w.heap.size (mix s.list (s.add r).list t) ∧ Arr 119 wr (w.heap.size + 1) (zeros 8) ∧ Kp w wr) (fun i _ => 8 - (intOf i).toNat)
      case atStart => exact ⟨0, by omega, rfl, hB4, hR4, hkp4⟩
      case round =>
        clear hB4 hR4 hkp4
        obtain ⟨i, hi, rfl, hB, hR, hkp⟩ := hrel
        by_cases hlt : i < 8
        · have cb := hB.cell i (by rw [mix_length s.list (s.add r).list i rfl hi]; exact hlt)
          have cf := hB.frozen i (by rw [mix_length s.list (s.add r).list i rfl hi]; exact hlt)
          rw [mix_get s.list (s.add r).list i rfl hlt] at cb
          have hs := mix_set s.list (s.add r).list i rfl hlt _ (add_get s r i hlt)
          have hidx : ∀ W, (Instr.index 119 (.agg (wcells r.list)) (.int .i64 i)).run Tryz.prog W = .ok (.int .u32 (u (r.list.getD i 0))) W := fun W => by
            obtain ⟨ie, hie, hsz⟩ := u32_info
            exact run_index_arr W 119 99 8 ie _ Tryz.underlying119 hie hsz Tryz.underlying99 rfl _ rfl i hlt _ (wcells_get r.list i hlt)
          have hidx' : ∀ W, (Instr.index 119 (.agg #[.int .u32 (u r.a), .int .u32 (u r.b), .int .u32 (u r.c), .int .u32 (u r.d), .int .u32 (u r.e), .int .u32 (u r.f), .int .u32 (u r.g), .int .u32 (u r.h)]) (.int .i64 i)).run Tryz.prog W = .ok (.int .u32 (u (r.list.getD i 0))) W := hidx
          generalize s.list.getD i 0 = x at *
          generalize r.list.getD i 0 = y at *
          have HS := Lib.hid hs
          have q : (i : Int) < 8 := by omega
          clear hs hidx
          go_wp2_with fail
          go_roundw
          case rel => exact ⟨i + 1, by omega, by go_num, hB.setTo i _ HS.out, hR.other _ _ (by simp), Below.setCell hkp (by simp) _⟩
          case measure => simp [intOf]; omega
        · obtain rfl : i = 8 := by omega
          have hm : mix s.list (s.add r).list 8 = (s.add r).list := rfl
          rw [hm] at hB
          clear hm
          go_wp2_with (first
            | (refine wpList_load_arr Tryz.underlying119 (by kernel_rfl) rfl (.tmp 3) rfl w.heap.size (s.add r).list rfl hB rfl ?_)
            | (refine wpList_store_arr' (by kernel_rfl) rfl rfl (.tmp 6) (.tmp 116) rfl (w.heap.size + 1) (zeros 8) (s.add r).list rfl rfl hR rfl rfl ?_; intro w5 hR5 hbut))
          refine bodyPost_ret (results_arr Tryz.underlying119 (by kernel_rfl) rfl _ _ (w.heap.size + 1) (s.add r).list rfl hR5 rfl) rfl ?_
          exact ⟨by rw [HR.out]; rfl, hbut.below hkp (by omega)⟩
attribute [local go_sem] u_wrap u_add u_xor u_and u_or u_shl u_shr u_not u_shr3 u_shr10
set_option maxRecDepth 100000 in
set_option maxHeartbeats 2000000 in
theorem step_any (s : S8) (v : Value) (all : List UInt8) (at' : Nat) (gk ck : Nat) (k : List UInt32) (w : World) (h : Rd w v all) (hl : at' + 64 ≤ all.length) (hk : Arr 99 w gk k) (hkl : k.length = 64) :
    Calls Tryz.prog 95 #[.agg (wcells s.list), v, .int .i64 at', .slice (some ⟨gk, 0, none⟩) 64 ck] w fun e w' => e = .returned (.agg (wcells (comp k s ((all.drop at').take 64)).list)) ∧ Kp w w' := by
  obtain ⟨l, hL⟩ : ∃ l, (all.drop at').take 64 = l := ⟨_, rfl⟩
  rw [hL]
  have HKL := Lib.hid hkl
  have HLL := Lib.hid hL
  clear hL hkl
  go_enter Tryz.func95, Tryz.ntmps95
  go_wp2_with ((at_make; (refine wpList_make_fresh (z := .int .u32 0) (b := 4) Tryz.underlying117 (by kernel_rfl) rfl (by decide) rfl _ _ rfl 64 rfl rfl (by decide) ?_); intro w1 hw1; have HW1 := Lib.hid hw1; clear hw1))
  have hR : Arr 119 ((w.alloc (.cells (wcells s.list) 119)).alloc (.cells (wcells (zeros 8)) 119)) (w.heap.size + 1) (zeros 8) := by
    have := Arr.new 119 (w.alloc (.cells (wcells s.list) 119)) (wcells (zeros 8)) (zeros 8) rfl
    rw [World.size_alloc] at this
    exact this
  have hB0 : Arr 119 w1 w.heap.size s.list := by rw [HW1.out]; exact ((Arr.new _ w _ s.list rfl).alloc _).alloc _
  have hR0 : Arr 119 w1 (w.heap.size + 1) (zeros 8) := by rw [HW1.out]; exact hR.alloc _
  have hW0 : Arr 99 w1 (w.heap.size + 1 + 1) (upto l 0) := by
    rw [HW1.out]
    have := Arr.new 99 ((w.alloc (.cells (wcells s.list) 119)).alloc (.cells (wcells (zeros 8)) 119)) (wcells (zeros 64)) (upto l 0) rfl
    rw [World.size_alloc, World.size_alloc, wcells_zeros] at this
    exact this
  have hK0 : Kp w w1 := by rw [HW1.out]; exact (((Kp.refl w).alloc _).alloc _).alloc _
  clear hR
  go_loopw [10] (fun i wr => ∃ t : Nat, t ≤ 16 ∧ i = .int .i64 t ∧ Arr 119 wr w.heap.size s.list ∧ Arr 119 wr (w.heap.size + 1) (zeros 8) ∧ Arr 99 wr (w.heap.size + 1 + 1) (upto l t) ∧ Kp w wr) (fun i _ => 16 - (intOf i).toNat)
  case atStart => exact ⟨0, by omega, rfl, hB0, hR0, hW0, hK0⟩
  case round =>
    clear hB0 hR0 hW0 hK0 HW1
    obtain ⟨t, ht, rfl, hB, hR, hW, hkp⟩ := hrel
    by_cases hlt : t < 16
    · have hg : ∀ j, j < 64 → l.getD j 0 = all.getD (at' + j) 0 := fun j hj => by
        rw [← HLL.out, List.getD_eq_getElem?_getD, List.getElem?_take_of_lt hj, List.getElem?_drop, List.getD_eq_getElem?_getD]
      have hn : nextWord l (sched l t) t = wordOf (all.getD (at' + 4 * t) 0) (all.getD (at' + 4 * t + 1) 0) (all.getD (at' + 4 * t + 2) 0) (all.getD (at' + 4 * t + 3) 0) := by
        unfold nextWord
        rw [if_pos hlt, hg _ (by omega), hg _ (by omega), hg _ (by omega), hg _ (by omega)]
        simp only [Nat.add_assoc]
      have hset := (upto_set l t (by omega))
      rw [hn] at hset
      have HS := Lib.hid hset
      have hlen := upto_length l t (by omega)
      have hlenm : all.length ≤ maxLen := by
        obtain ⟨a, c, _, h1, h2⟩ := h.shape
        omega
      unfold maxLen at hlenm
      clear hg hn hset
      go_wp2_with fail
      refine (word_int _ v all (at' + 4 * t) _ (h.kp hkp) (by omega) (by simp)).mono ?_
      rintro e w' ⟨rfl, n, rfl⟩
      have ca := (hW.drewN n).cell t (by omega)
      have cf := (hW.drewN n).frozen t (by omega)
      have q : (t : Int) < 64 := by omega
      clear hlen
      go_wp2_with fail
      go_roundw
      case rel => exact ⟨t + 1, by omega, by go_num, (hB.drewN n).other _ _ (by simp; omega), (hR.drewN n).other _ _ (by simp), (hW.drewN n).setTo t _ HS.out, Below.setCell (hkp.drewN n) (by simp; omega) _⟩
      case measure => simp [intOf]; omega
    · obtain rfl : t = 16 := by omega
      clear ht hlt
      go_wp2_with fail
      go_loopw [11] (fun i wr => ∃ t : Nat, 16 ≤ t ∧ t ≤ 64 ∧ i = .int .i64 t ∧ Arr 119 wr w.heap.size s.list ∧ Arr 119 wr (w.heap.size + 1) (zeros 8) ∧ Arr 99 wr (w.heap.size + 1 + 1) (upto l t) ∧ Kp w wr) (fun i _ => 64 - (intOf i).toNat)
      case atStart => exact ⟨16, by omega, by omega, rfl, hB, hR, hW, hkp⟩
      case round =>
        clear hB hR hW hkp
        obtain ⟨t, h16, ht, rfl, hB, hR, hW, hkp⟩ := hrel
        by_cases hlt : t < 64
        · have hlen := upto_length l t (by omega)
          have hn : nextWord l (sched l t) t = wadd (wadd (wadd (small 17 19 10 ((upto l t).getD (t - 2) 0)) ((upto l t).getD (t - 7) 0)) (small 7 18 3 ((upto l t).getD (t - 15) 0))) ((upto l t).getD (t - 16) 0) := by
            unfold nextWord
            rw [if_neg (by omega), upto_get l t _ (by omega), upto_get l t _ (by omega), upto_get l t _ (by omega), upto_get l t _ (by omega)]
          have hset := (upto_set l t (by omega))
          rw [hn] at hset
          have c2 := hW.cell (t - 2) (by omega)
          have c7 := hW.cell (t - 7) (by omega)
          have c15 := hW.cell (t - 15) (by omega)
          have c16 := hW.cell (t - 16) (by omega)
          have ca := hW.cell t (by omega)
          have cf := hW.frozen t (by omega)
          generalize (upto l t).getD (t - 2) 0 = x2 at *
          generalize (upto l t).getD (t - 7) 0 = x7 at *
          generalize (upto l t).getD (t - 15) 0 = x15 at *
          generalize (upto l t).getD (t - 16) 0 = x16 at *
          have i2 : IntKind.i64.wrap ((t : Int) - 2) = (t : Int) - 2 := IntWalk.i64_in _ (by omega)
          have i7 : IntKind.i64.wrap ((t : Int) - 7) = (t : Int) - 7 := IntWalk.i64_in _ (by omega)
          have i15 : IntKind.i64.wrap ((t : Int) - 15) = (t : Int) - 15 := IntWalk.i64_in _ (by omega)
          have i16 : IntKind.i64.wrap ((t : Int) - 16) = (t : Int) - 16 := IntWalk.i64_in _ (by omega)
          have n2 : ((t : Int) - 2).toNat = t - 2 := by omega
          have n7 : ((t : Int) - 7).toNat = t - 7 := by omega
          have n15 : ((t : Int) - 15).toNat = t - 15 := by omega
          have n16 : ((t : Int) - 16).toNat = t - 16 := by omega
          have p2 : (2 : Int) ≤ (t : Int) := by omega
          have p7 : (7 : Int) ≤ (t : Int) := by omega
          have p15 : (15 : Int) ≤ (t : Int) := by omega
          have p16 : (16 : Int) ≤ (t : Int) := by omega
          have q2 : (t : Int) - 2 < 64 := by omega
          have q7 : (t : Int) - 7 < 64 := by omega
          have q15 : (t : Int) - 15 < 64 := by omega
          have q16 : (t : Int) - 16 < 64 := by omega
          have q : (t : Int) < 64 := by omega
          have HS := Lib.hid hset
          clear hset hn hlen
          go_wp2_with ((go_at_call 100; refine (turn_int _ _ _ (by decide) (by decide)).mono ?_; rintro e w' ⟨rfl, rfl⟩))
          go_still_tail 18, (by kernel_rfl)
          go_wp2_with fail
          go_roundw
          case rel =>
            repeat apply Exists.intro
            refine ⟨?_, rfl⟩
            exact ⟨t + 1, by omega, by omega, by go_num, (hB.other _ _ (by simp; omega)).drew, (hR.other _ _ (by simp)).drew, (hW.setTo t _ HS.out).drew, (Below.setCell hkp (by simp; omega) _).drew⟩
          case measure => simp [intOf]; omega
        · obtain rfl : t = 64 := by omega
          rw [upto_all] at hW
          have c0 : wr.cell? ⟨w.heap.size, 0, none⟩ = some (.int .u32 (u s.a)) := hB.cell 0 (Nat.lt_of_sub_eq_succ rfl)
          have c1 : wr.cell? ⟨w.heap.size, 1, none⟩ = some (.int .u32 (u s.b)) := hB.cell 1 (Nat.lt_of_sub_eq_succ rfl)
          have c2 : wr.cell? ⟨w.heap.size, 2, none⟩ = some (.int .u32 (u s.c)) := hB.cell 2 (Nat.lt_of_sub_eq_succ rfl)
          have c3 : wr.cell? ⟨w.heap.size, 3, none⟩ = some (.int .u32 (u s.d)) := hB.cell 3 (Nat.lt_of_sub_eq_succ rfl)
          have c4 : wr.cell? ⟨w.heap.size, 4, none⟩ = some (.int .u32 (u s.e)) := hB.cell 4 (Nat.lt_of_sub_eq_succ rfl)
          have c5 : wr.cell? ⟨w.heap.size, 5, none⟩ = some (.int .u32 (u s.f)) := hB.cell 5 (Nat.lt_of_sub_eq_succ rfl)
          have c6 : wr.cell? ⟨w.heap.size, 6, none⟩ = some (.int .u32 (u s.g)) := hB.cell 6 (Nat.lt_of_sub_eq_succ rfl)
          have c7 : wr.cell? ⟨w.heap.size, 7, none⟩ = some (.int .u32 (u s.h)) := hB.cell 7 (Nat.lt_of_sub_eq_succ rfl)
          have hk3 := hk.kp hkp
          clear h hl hk
          go_wp2_with fail
          have C := Lib.hid (And.intro c0 (And.intro c1 (And.intro c2 (And.intro c3 (And.intro c4 (And.intro c5 (And.intro c6 c7)))))))
          clear c0 c1 c2 c3 c4 c5 c6 c7
          have HKL2 := HKL.out
          have HWL := sched_length l 64
          go_loopw [16, 17, 18, 19, 20, 21, 22, 23, 24] (fun sa sb sc sd se sf sg sh i wq => ∃ t : Nat, t ≤ 64 ∧ i = .int .i64 t ∧ (∃ r, r = rnds k (sched l 64) s t ∧ sa = .int .u32 (u r.a) ∧ sb = .int .u32 (u r.b) ∧ sc = .int .u32 (u r.c) ∧ sd = .int .u32 (u r.d) ∧ se = .int .u32 (u r.e) ∧ sf = .int .u32 (u r.f) ∧ sg = .int .u32 (u r.g) ∧ sh = .int .u32 (u r.h)) ∧ ∃ n, wq = wr.drewN n) (fun _ _ _ _ _ _ _ _ i _ => 64 - (intOf i).toNat)
          case atStart => exact ⟨0, by omega, rfl, ⟨s, rfl, rfl, rfl, rfl, rfl, rfl, rfl, rfl, rfl⟩, 0, rfl⟩
          case round =>
            obtain ⟨t, ht, rfl, ⟨r, hr, rfl, rfl, rfl, rfl, rfl, rfl, rfl, rfl⟩, n, rfl⟩ := hrel
            by_cases hlt : t < 64
            · have ck := (hk3.drewN n).cell t (by omega)
              have cw := (hW.drewN n).cell t (by omega)
              have HR := Lib.hid hr
              have q : (t : Int) < 64 := by omega
              obtain ⟨wn, hwn⟩ : ∃ wn, wr.drewN n = wn := ⟨_, rfl⟩
              rw [hwn] at ck cw ⊢
              have HWN := Lib.hid hwn
              clear hr HKL2 HWL hwn
              have hsg : IntKind.u32.signed = false := rfl
              go_wp2_with fail
              go_quiet ((go_at_call 100; exact quiet_left (turn_int _ _ _ (by decide) (by decide))))
              go_wp2_with ((go_at_call 100; refine (turn_int _ _ _ (by decide) (by decide)).mono ?_; rintro e w' ⟨rfl, rfl⟩))
              go_roundw
              case rel =>
                repeat apply Exists.intro
                refine ⟨?_, rfl⟩
                exact ⟨t + 1, by omega, by go_num, ⟨rnd r (k.getD t 0) ((sched l 64).getD t 0), by rw [HR.out]; rfl, rfl, rfl, rfl, rfl, rfl, rfl, rfl, rfl⟩, n + nq, by rw [← HWN.out, World.drewN_drewN]⟩
              case measure => simp [intOf]; omega
            · obtain rfl : t = 64 := by omega
              have HR := Lib.hid hr
              clear hr HKL2 HWL
              obtain ⟨c0, c1, c2, c3, c4, c5, c6, c7⟩ := C.out
              go_wp2_with ((refine wpList_store_arr' (by kernel_rfl) rfl rfl (.tmp 8) (.tmp 206) rfl (w.heap.size + 1) (zeros 8) (s.add r).list rfl rfl (hR.drewN n) rfl rfl ?_; intro w5 hR5 hbut))
              refine bodyPost_ret (results_arr Tryz.underlying119 (by kernel_rfl) rfl _ _ (w.heap.size + 1) (s.add r).list rfl hR5 rfl) rfl ?_
              exact ⟨by rw [HR.out]; rfl, hbut.below (hkp.drewN n) (by omega)⟩
end Go.Proofs.YtigpgcjbpoaclaaGreatDoor

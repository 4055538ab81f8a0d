import Derived.Test.YtigpgcjbpoaclaaDoorC12
import Derived.Test.YtigpgcjbpoaclaaDoorC13
set_option linter.unusedVariables false
set_option linter.unusedSimpArgs false
namespace Go.Proofs.YtigpgcjbpoaclaaDoor
open Go.RowKit
attribute [local go_sem] u_wrap u_add u_xor u_and u_or u_shl u_shr
theorem u_not (x : UInt32) : bits .xor .u32 IntKind.u32.max (u x) = u (wnot x) := by
  have : IntKind.u32.max = u 0xffffffff := by decide
  rw [this, u_xor]
  rfl
attribute [local go_sem] u_not
def mix (A B : List UInt32) (i : Nat) : List UInt32 := B.take i ++ A.drop i
theorem mix_length (A B : List UInt32) (i : Nat) (h : A.length = B.length) (hi : i ≤ A.length) : (mix A B i).length = A.length := by simp [mix]; omega
theorem mix_set (A B : List UInt32) (i : Nat) (h : A.length = B.length) (hi : i < A.length) (x : UInt32) (hx : B.getD i 0 = x) : (mix A B i).set i x = mix A B (i + 1) := by
  unfold mix
  have hb : i < B.length := by omega
  have hl : (B.take i).length = i := by simp; omega
  rw [List.getD_eq_getElem?_getD, List.getElem?_eq_getElem hb] at hx
  rw [List.set_append_right _ _ (by omega), hl, Nat.sub_self, List.drop_eq_getElem_cons hi, List.set_cons_zero, List.take_succ_eq_append_getElem hb, List.append_assoc]
  simp only [Option.getD_some] at hx
  rw [hx]
  rfl
theorem mix_get (A B : List UInt32) (i : Nat) (h : A.length = B.length) (hi : i < A.length) : (mix A B i).getD i 0 = A.getD i 0 := by
  unfold mix
  have hl : (B.take i).length = i := by simp; omega
  rw [List.getD_eq_getElem?_getD, List.getElem?_append_right (by omega), hl, Nat.sub_self, List.drop_eq_getElem_cons hi, List.getD_eq_getElem?_getD, List.getElem?_eq_getElem hi]
  rfl
theorem add_get (s r : S8) (i : Nat) (h : i < 8) : (s.add r).list.getD i 0 = wadd (s.list.getD i 0) (r.list.getD i 0) := by
  match i, h with
  | 0, _ => rfl
  | 1, _ => rfl
  | 2, _ => rfl
  | 3, _ => rfl
  | 4, _ => rfl
  | 5, _ => rfl
  | 6, _ => rfl
  | 7, _ => rfl
theorem u32_info : ∃ ie, Tryd.prog.info? 86 = some ie ∧ ie.size = 1 := by
  have h : (Tryd.prog.info? 86).map (·.size) = some 1 := by kernel_rfl
  cases hq : Tryd.prog.info? 86 with
  | none => rw [hq] at h; cases h
  | some ie => rw [hq] at h; exact ⟨ie, rfl, by simpa using h⟩
set_option maxRecDepth 100000 in
set_option maxHeartbeats 2000000 in
theorem behind_any (s : S8) (v : Value) (l : List UInt8) (gk : Nat) (k : List UInt32) (w : World) (h : Rd w v l) (hl : l.length = 64) (hk : Arr 117 w gk k) (hkl : k.length = 64) :
    Calls Tryd.prog 92 #[.agg (wcells s.list), v, .pointer (some ⟨gk, 0, none⟩)] w fun e w' => e = .returned (.agg (wcells (comp k s l).list)) ∧ Kp w w' := by
  obtain ⟨a, c, rfl, h1, h2⟩ := h.shape
  rw [hl] at h h1 ⊢
  have HL := Lib.hid hl
  have HKL := Lib.hid hkl
  clear hl hkl
  go_enter Tryd.func92, Tryd.ntmps92
  go_wp2_with fail
  refine (schedule_any _ l _ (h.kp (((Kp.refl _).alloc _).alloc _)) HL.out).mono ?_
  rintro e w1 ⟨rfl, hk1⟩
  have hB : Arr 87 w1 w.heap.size s.list := ((Arr.new _ w (wcells s.list) s.list rfl).alloc _).kp hk1
  have hR : Arr 87 w1 (w.heap.size + 1) (zeros 8) := by
    have := Arr.new 87 (w.alloc (.cells (wcells s.list) 87)) (wcells (zeros 8)) (zeros 8) rfl
    rw [World.size_alloc] at this
    exact this.kp hk1
  have hkw : Kp w w1 := (((Kp.refl w).alloc _).alloc _).trans hk1
  have hkk := hk.kp hkw
  go_wp2_with (first
    | (refine wpList_store_arr' (by kernel_rfl) rfl rfl (.tmp 7) (.tmp 24) rfl w1.heap.size (zeros 64) (sched l 64) rfl rfl (Arr.new _ _ _ _ rfl) (zeros_length 64) (sched_length l 64) ?_; intro w2 hW hbut))
  have hB2 := hbut.arr (hB.alloc _) (by have := hB.lt; omega)
  have hR2 := hbut.arr (hR.alloc _) (by have := hR.lt; omega)
  have hk2 := hbut.arr (hkk.alloc _) (by have := hkk.lt; omega)
  have hkp2 : Kp w w2 := hbut.below (hkw.alloc _) (hkw.size)
  clear hbut hB hR hkk hkw hk1 hk h
  have c0 : w2.cell? ⟨w.heap.size, 0, none⟩ = some (.int .u32 (u s.a)) := hB2.cell 0 (Nat.lt_of_sub_eq_succ rfl)
  have c1 : w2.cell? ⟨w.heap.size, 1, none⟩ = some (.int .u32 (u s.b)) := hB2.cell 1 (Nat.lt_of_sub_eq_succ rfl)
  have c2 : w2.cell? ⟨w.heap.size, 2, none⟩ = some (.int .u32 (u s.c)) := hB2.cell 2 (Nat.lt_of_sub_eq_succ rfl)
  have c3 : w2.cell? ⟨w.heap.size, 3, none⟩ = some (.int .u32 (u s.d)) := hB2.cell 3 (Nat.lt_of_sub_eq_succ rfl)
  have c4 : w2.cell? ⟨w.heap.size, 4, none⟩ = some (.int .u32 (u s.e)) := hB2.cell 4 (Nat.lt_of_sub_eq_succ rfl)
  have c5 : w2.cell? ⟨w.heap.size, 5, none⟩ = some (.int .u32 (u s.f)) := hB2.cell 5 (Nat.lt_of_sub_eq_succ rfl)
  have c6 : w2.cell? ⟨w.heap.size, 6, none⟩ = some (.int .u32 (u s.g)) := hB2.cell 6 (Nat.lt_of_sub_eq_succ rfl)
  have c7 : w2.cell? ⟨w.heap.size, 7, none⟩ = some (.int .u32 (u s.h)) := hB2.cell 7 (Nat.lt_of_sub_eq_succ rfl)
  go_quiet (fail)
  clear c0 c1 c2 c3 c4 c5 c6 c7
  go_wp2_with fail
  obtain ⟨w3, hw3⟩ : ∃ w3, w2.drewN nq = w3 := ⟨_, rfl⟩
  have hB3 := hB2.drewN nq
  have hR3 := hR2.drewN nq
  have hk3 := hk2.drewN nq
  have hW3 := hW.drewN nq
  have hkp3 : Kp w (w2.drewN nq) := hkp2.drewN nq
  rw [hw3] at hB3 hR3 hk3 hW3 hkp3 ⊢
  clear hw3 hB2 hR2 hk2 hW hkp2
  have HKL2 := HKL.out
  have HWL := sched_length l 64
  go_loopw [8, 9, 10, 11, 12, 13, 14, 15, 41] (fun sa sb sc sd se sf sg sh i wr => ∃ t : Nat, t ≤ 64 ∧ i = .int .i64 t ∧ (∃ r, r = rnds k (sched l 64) s t ∧ sa = .int .u32 (u r.a) ∧ sb = .int .u32 (u r.b) ∧ sc = .int .u32 (u r.c) ∧ sd = .int .u32 (u r.d) ∧ se = .int .u32 (u r.e) ∧ sf = .int .u32 (u r.f) ∧ sg = .int .u32 (u r.g) ∧ sh = .int .u32 (u r.h)) ∧ ∃ n, wr = w3.drewN n) (fun _ _ _ _ _ _ _ _ i _ => 64 - (intOf i).toNat)
  case atStart => exact ⟨0, by omega, rfl, ⟨s, rfl, rfl, rfl, rfl, rfl, rfl, rfl, rfl, rfl⟩, 0, rfl⟩
  case round =>
    obtain ⟨t, ht, rfl, ⟨r, hr, rfl, rfl, rfl, rfl, rfl, rfl, rfl, rfl⟩, n, rfl⟩ := hrel
    by_cases hlt : t < 64
    · have ck := (hk3.drewN n).cell t (by omega)
      have cw := (hW3.drewN n).cell t (by omega)
      have HR := Lib.hid hr
      have q : (t : Int) < 64 := by omega
      obtain ⟨wn, hwn⟩ : ∃ wn, w3.drewN n = wn := ⟨_, rfl⟩
      rw [hwn] at ck cw ⊢
      have HWN := Lib.hid hwn
      clear hr HKL2 HWL hwn
      have hsg : IntKind.u32.signed = false := rfl
      go_wp2_with ((go_at_call 101; refine (turned_a _ _).mono ?_; rintro e w' ⟨rfl, rfl⟩))
      go_quiet ((go_at_call 101; exact quiet_left (turned_e _ _)))
      go_wp2_with ((go_at_call 101; refine (turned_a _ _).mono ?_; rintro e w' ⟨rfl, rfl⟩))
      go_roundw
      case rel => exact ⟨t + 1, by omega, by go_num, ⟨rnd r (k.getD t 0) ((sched l 64).getD t 0), by rw [HR.out]; rfl, rfl, rfl, rfl, rfl, rfl, rfl, rfl, rfl⟩, n + nq, by rw [← HWN.out, World.drewN_drewN]⟩
      case measure => simp [intOf]; omega
    · obtain rfl : t = 64 := by omega
      have HR := Lib.hid hr
      have hB4 := hB3.drewN n
      have hR4 := hR3.drewN n
      have hkp4 : Kp w (w3.drewN n) := hkp3.drewN n
      obtain ⟨w4, hw4⟩ : ∃ w4, w3.drewN n = w4 := ⟨_, rfl⟩
      rw [hw4] at hB4 hR4 hkp4 ⊢
      clear hr HKL2 HWL hw4 hB3 hR3 hkp3 hk3 hW3 ht hlt
      go_wp2_with fail
      go_loopw [105] (fun i wr => ∃ t : Nat, t ≤ 8 ∧ i = .int .i64 t ∧ Arr 87 wr w.heap.size (mix s.list (s.add r).list t) ∧ Arr 87 wr (w.heap.size + 1) (zeros 8) ∧ Kp w wr) (fun i _ => 8 - (intOf i).toNat)
      case atStart => exact ⟨0, by omega, rfl, hB4, hR4, hkp4⟩
      case round =>
        clear hB4 hR4 hkp4
        obtain ⟨i, hi, rfl, hB, hR, hkp⟩ := hrel
        by_cases hlt : i < 8
        · have cb := hB.cell i (by rw [mix_length s.list (s.add r).list i rfl hi]; exact hlt)
          have cf := hB.frozen i (by rw [mix_length s.list (s.add r).list i rfl hi]; exact hlt)
          rw [mix_get s.list (s.add r).list i rfl hlt] at cb
          have hs := mix_set s.list (s.add r).list i rfl hlt _ (add_get s r i hlt)
          have hidx : ∀ W, (Instr.index 87 (.agg (wcells r.list)) (.int .i64 i)).run Tryd.prog W = .ok (.int .u32 (u (r.list.getD i 0))) W := fun W => by
            obtain ⟨ie, hie, hsz⟩ := u32_info
            exact run_index_arr W 87 86 8 ie _ Tryd.underlying87 hie hsz Tryd.underlying86 rfl _ rfl i hlt _ (wcells_get r.list i hlt)
          have hidx' : ∀ W, (Instr.index 87 (.agg #[.int .u32 (u r.a), .int .u32 (u r.b), .int .u32 (u r.c), .int .u32 (u r.d), .int .u32 (u r.e), .int .u32 (u r.f), .int .u32 (u r.g), .int .u32 (u r.h)]) (.int .i64 i)).run Tryd.prog W = .ok (.int .u32 (u (r.list.getD i 0))) W := hidx
          generalize s.list.getD i 0 = x at *
          generalize r.list.getD i 0 = y at *
          have HS := Lib.hid hs
          have q : (i : Int) < 8 := by omega
          clear hs hidx
          go_wp2_with fail
          go_roundw
          case rel => exact ⟨i + 1, by omega, by go_num, hB.setTo i _ HS.out, hR.other _ _ (by simp), Below.setCell hkp (by simp) _⟩
          case measure => simp [intOf]; omega
        · obtain rfl : i = 8 := by omega
          have hm : mix s.list (s.add r).list 8 = (s.add r).list := rfl
          rw [hm] at hB
          clear hm
          go_wp2_with (first
            | (refine wpList_load_arr Tryd.underlying87 (by kernel_rfl) rfl (.tmp 3) rfl w.heap.size (s.add r).list rfl hB rfl ?_)
            | (refine wpList_store_arr' (by kernel_rfl) rfl rfl (.tmp 6) (.tmp 116) rfl (w.heap.size + 1) (zeros 8) (s.add r).list rfl rfl hR rfl rfl ?_; intro w5 hR5 hbut))
          refine bodyPost_ret (results_arr Tryd.underlying87 (by kernel_rfl) rfl _ _ (w.heap.size + 1) (s.add r).list rfl hR5 rfl) rfl ?_
          exact ⟨by rw [HR.out]; rfl, hbut.below hkp (by omega)⟩
end Go.Proofs.YtigpgcjbpoaclaaDoor

/- ShaBlocks. -/
import Derived.Test.YtgialijhnghdgaaLawE
namespace Go.Proofs.Ytgialijhnghdgaa
open Go.RowKit

theorem wordOf_bytes (x : UInt32) : wordOf (UInt8.ofNat (x.toNat / 16777216)) (UInt8.ofNat (x.toNat / 65536)) (UInt8.ofNat (x.toNat / 256)) (UInt8.ofNat x.toNat) = x := by
  apply UInt32.toNat_inj.1
  have h := x.toNat_lt
  unfold wordOf
  rw [UInt32.toNat_ofNat']
  simp
  omega
theorem bytes_get (s : S8) (i : Nat) (h : i < 8) : s.bytes.getD (4 * i) 0 = UInt8.ofNat ((s.list.getD i 0).toNat / 16777216) ∧ s.bytes.getD (4 * i + 1) 0 = UInt8.ofNat ((s.list.getD i 0).toNat / 65536) ∧
    s.bytes.getD (4 * i + 2) 0 = UInt8.ofNat ((s.list.getD i 0).toNat / 256) ∧ s.bytes.getD (4 * i + 3) 0 = UInt8.ofNat (s.list.getD i 0).toNat := by
  match i, h with
  | 0, _ => exact ⟨rfl, rfl, rfl, rfl⟩
  | 1, _ => exact ⟨rfl, rfl, rfl, rfl⟩
  | 2, _ => exact ⟨rfl, rfl, rfl, rfl⟩
  | 3, _ => exact ⟨rfl, rfl, rfl, rfl⟩
  | 4, _ => exact ⟨rfl, rfl, rfl, rfl⟩
  | 5, _ => exact ⟨rfl, rfl, rfl, rfl⟩
  | 6, _ => exact ⟨rfl, rfl, rfl, rfl⟩
  | 7, _ => exact ⟨rfl, rfl, rfl, rfl⟩

theorem rd_some {w : World} {v : Value} {l : List UInt8} (h : Rd w v l) (hl : 0 < l.length) : ∃ b off c, v = .slice (some ⟨b, off, none⟩) l.length c ∧ l.length ≤ c ∧ c ≤ maxLen := by
  obtain ⟨a, c, rfl, h1, h2⟩ := h.shape
  obtain ⟨b, off, rfl, _, _⟩ := h.at 0 hl
  exact ⟨b, off, c, rfl, h1, h2⟩

/-- Eight words laid, as one step. -/
def set8w (w : World) (g : Nat) (r : S8) : World :=
  ((((((((w.setCell ⟨g, 0, none⟩ (.int .u32 (u r.a))).setCell ⟨g, 1, none⟩ (.int .u32 (u r.b))).setCell ⟨g, 2, none⟩ (.int .u32 (u r.c))).setCell ⟨g, 3, none⟩ (.int .u32 (u r.d))).setCell ⟨g, 4, none⟩ (.int .u32 (u r.e))).setCell ⟨g, 5, none⟩ (.int .u32 (u r.f))).setCell ⟨g, 6, none⟩ (.int .u32 (u r.g))).setCell ⟨g, 7, none⟩ (.int .u32 (u r.h)))
theorem set8w_eq (w : World) (g : Nat) (r : S8) : ((((((((w.setCell ⟨g, 0, none⟩ (.int .u32 (u r.a))).setCell ⟨g, 1, none⟩ (.int .u32 (u r.b))).setCell ⟨g, 2, none⟩ (.int .u32 (u r.c))).setCell ⟨g, 3, none⟩ (.int .u32 (u r.d))).setCell ⟨g, 4, none⟩ (.int .u32 (u r.e))).setCell ⟨g, 5, none⟩ (.int .u32 (u r.f))).setCell ⟨g, 6, none⟩ (.int .u32 (u r.g))).setCell ⟨g, 7, none⟩ (.int .u32 (u r.h))) = set8w w g r := rfl
theorem set8w_all {T : TypeId} {a w : World} {g gR : Nat} {z s : S8} (hz : Arr T w g z.list) (hR : Arr T w gR s.list) (hne : gR ≠ g) (hk : Kp a w) (hg : a.heap.size ≤ g) (r : S8) :
    Arr T (set8w w g r) g r.list ∧ Arr T (set8w w g r) gR s.list ∧ Kp a (set8w w g r) :=
  ⟨hz.set8 r, arr_other8 hR hne _ _ _ _ _ _ _ _, below_set8 hk hg _ _ _ _ _ _ _ _⟩
theorem cells8 (T : TypeId) (r : S8) : Obj.cells #[.int .u32 (u r.a), .int .u32 (u r.b), .int .u32 (u r.c), .int .u32 (u r.d), .int .u32 (u r.e), .int .u32 (u r.f), .int .u32 (u r.g), .int .u32 (u r.h)] T = Obj.cells (wcells r.list) T := rfl

set_option maxRecDepth 100000 in
set_option maxHeartbeats 4000000 in
theorem shaBlocks_walk (v : Value) (l : List UInt8) (w : World) (h : Rd w v l) :
    Calls Try.prog 5 #[v] w (Yes w) := by
  have U := u8
  obtain ⟨a, c, rfl, h1, h2⟩ := h.shape
  unfold maxLen at h2
  by_cases hl : l.length ≤ 1000
  · have hl2 : ¬ (1000 < (l.length : Int)) := by omega
    have hpl := padded_length l
    have hpw := padded_whole l
    have hfl := fill_lt l.length
    obtain ⟨P, hP⟩ : ∃ P, padded l = P := ⟨_, rfl⟩
    have hPP : l ++ pad l.length = P := hP
    have hdg : digest l = (blocks startS P (P.length / 64)).bytes := by unfold digest; rw [hP]
    rw [hP] at hpl hpw
    obtain ⟨N, hN⟩ : ∃ N, P.length / 64 = N := ⟨_, rfl⟩
    rw [hN] at hpw hdg
    have hN2 : N ≤ 40 := by omega
    have t1 : (P.length : Int) % 64 = 0 := by omega
    have t2 : ¬ (P.length : Int) < (l.length : Int) + 9 := by omega
    have t3 : ¬ (l.length : Int) + 72 < (P.length : Int) := by omega
    have t4 : (P.length : Int) ≤ 2000 := by omega
    have hP1 : 0 < P.length := by omega
    have HP := Lib.hid hPP
    have HL := Lib.hid hpw
    have HDG := Lib.hid hdg
    have HPO := Lib.hid (padOf_nat l.length (by omega))
    have hpl2 := pad_length l.length
    have B1 := Lib.hid (And.intro hfl hpl2)
    clear hP hPP hpw hpl hN hdg hfl hpl2
    go_enter Try.func5, Try.ntmps5
    go_wp2_with fail
    refine (shown_any _).mono ?_
    rintro e w1 ⟨rfl, k1⟩
    go_wp2_with (at_builtin; refine wpList_append_ow U rfl _ _ rfl w.heap.size _ _ rfl (Ow.lit w1 5 w.heap.size 0 #[] [] k1.size rfl (by decide) rfl) _ l rfl (h.kp (k1.alloc _)) ?d1 ?d2 ?_; rotate_right; intro v2 w2 o2 g2 _; have k2 : Kp w w2 := Kp.grown (k1.alloc _) g2 (by intro k e; cases e; exact k1.size); clear g2)
    case d1 => simp; omega
    case d2 => have := k1.size; simp; omega
    refine (pad_any _ _).mono ?_
    rintro e w3 ⟨⟨v3, rfl, r3⟩, k3⟩
    rw [HPO.out] at r3
    go_wp2_with (at_builtin; refine wpList_append_ow U rfl _ _ rfl w.heap.size _ _ rfl (o2.kp k3) _ (pad l.length) rfl r3 ?d3 ?d4 ?_; rotate_right; intro v4 w4 o4 g4 _; have k4 : Kp w w4 := Kp.grown (k2.trans k3) g4 o2.own_ge; clear g4; rw [List.nil_append, HP.out] at o4; obtain ⟨b, off, c4, rfl, hc41, hc42⟩ := rd_some o4.rd hP1)
    case d3 => have := B1.out; simp; omega
    case d4 => exact (k2.trans k3).size
    refine (start_any _).mono ?_
    rintro e w5 ⟨rfl, k5⟩
    have r5 := o4.rd.kp k5
    have kw5 : Kp w w5 := k4.trans k5
    unfold maxLen at hc42
    clear o4 k4 k5 o2 r3 k3 k2
    go_wp2_with (refine wpList_store_arr' (by kernel_rfl) rfl rfl (.tmp 5) (.tmp 43) rfl w5.heap.size (zeros 8) startS.list rfl rfl (Arr.new _ _ _ _ rfl) rfl rfl ?_; intro w6 hR6 hbut; have hk6 : Kp w5 w6 := hbut.below ((Kp.refl w5).alloc _) (Nat.le_refl _); clear hbut)
    go_loopw [6] (fun i wr => ∃ k : Nat, k ≤ N ∧ i = .int .i64 (64 * (k : Int)) ∧ Arr 28 wr w5.heap.size (blocks startS P k).list ∧ Kp w5 wr) (fun i _ => (64 * N - (intOf i).toNat))
    case atStart => exact ⟨0, by omega, rfl, hR6, hk6⟩
    case round =>
      clear hR6 hk6
      obtain ⟨k, hkN, rfl, hR, hk⟩ := hrel
      by_cases hlt : k < N
      · have hcond : 64 * (k : Int) < (P.length : Int) := by rw [HL.out]; omega
        have hle : 64 * (k : Int) + 64 ≤ (P.length : Int) := by rw [HL.out]; omega
        have hlen := HL.out
        have hcc : ¬ c4 = 64 * k := by omega
        have hle2 : 64 * k + 64 ≤ c4 := by omega
        have hbl : ((P.drop (64 * k)).take 64).length = 64 := by rw [List.length_take, List.length_drop]; omega
        have hcut := (r5.kp hk).cutAt (64 * k) 64 (by omega) (by omega)
        have hbs := blocks_succ startS P k
        obtain ⟨s, hs⟩ : ∃ s, blocks startS P k = s := ⟨_, rfl⟩
        obtain ⟨s', hs'⟩ : ∃ s', blocks startS P (k + 1) = s' := ⟨_, rfl⟩
        rw [hs, hs'] at hbs
        rw [hs] at hR
        have hblk := block_64 s (.slice (some ⟨b, off + 64 * k, none⟩) 64 (c4 - 64 * k)) ((P.drop (64 * k)).take 64)
        rw [← hbs] at hblk
        have C := Lib.hid (fun w h => hblk w h hbl)
        have HS' := Lib.hid hs'
        have e64 : 64 * k + 64 - 64 * k = 64 := by omega
        obtain ⟨c0, c1, c2, c3, c4', c5, c6, c7⟩ := hR.cells8
        have hRa : Arr 28 (wr.alloc (.cells #[.int .u32 0, .int .u32 0, .int .u32 0, .int .u32 0, .int .u32 0, .int .u32 0, .int .u32 0, .int .u32 0] 28)) w5.heap.size s.list := hR.alloc _
        obtain ⟨d0, d1, d2, d3, d4, d5, d6, d7⟩ := hRa.cells8
        clear hs hs' hbs hblk hbl hlen
        go_wp2_with fail
        have z1 : IntKind.i64.wrap (64 * (k : Int) + 64) = 64 * (k : Int) + 64 := by rw [IntKind.wrap_i64]; omega
        have z2 : (0 : Int) ≤ 64 * (k : Int) := by omega
        have z3 : (0 : Int) ≤ 64 * (k : Int) + 64 := by omega
        have z4 : 64 * (k : Int) ≤ 64 * (k : Int) + 64 := by omega
        have z5 : 64 * (k : Int) + 64 ≤ (c4 : Int) := by omega
        have z6 : (64 * (k : Int)).toNat = 64 * k := by omega
        have z7 : (64 * (k : Int) + 64).toNat = 64 * k + 64 := by omega
        go_region_with (go_at_call 14; refine (C.out _ (hcut.kp (by first | exact (Kp.refl _).drew | exact ((Kp.refl _).alloc _).drew))).mono ?_; rintro e w7 ⟨rfl, hk7⟩; rw [agg8]; first | (have hz7 : Arr 28 w7 wr.heap.size zeroS.list := ((Arr.new 28 wr _ zeroS.list rfl).drew).kp hk7; obtain ⟨e0, e1, e2, e3, e4, e5, e6, e7⟩ := hz7.cells8; obtain ⟨f0, f1, f2, f3, f4, f5, f6, f7⟩ := hz7.frozen8) | skip)
        all_goals (first
          | (rw [set8w_eq w7 wr.heap.size s']
             obtain ⟨hX, hR8, hk8⟩ := set8w_all hz7 (hRa.drew.kp hk7) (by have := hR.lt; omega) (((hk.alloc _).drew).trans hk7) hk.size s'
             generalize set8w w7 wr.heap.size s' = W at hX hR8 hk8 ⊢)
          | (rw [cells8]
             have hX : Arr 28 (w7.alloc (.cells (wcells s'.list) 28)) w7.heap.size s'.list := Arr.new _ w7 _ s'.list rfl
             have hR8 : Arr 28 (w7.alloc (.cells (wcells s'.list) 28)) w5.heap.size s.list := (hR.drew.kp hk7).alloc _
             have hk8 : Kp w5 (w7.alloc (.cells (wcells s'.list) 28)) := (hk.drew.trans hk7).alloc _
             generalize (w7.alloc (.cells (wcells s'.list) 28)) = W at hX hR8 hk8 ⊢))
        all_goals
          go_wp2_with (first
            | (refine wpList_load_arr Try.underlying28 (by kernel_rfl) rfl (.tmp 7) rfl _ s'.list rfl hX rfl ?_)
            | (refine wpList_store_arr' (by kernel_rfl) rfl rfl (.tmp 5) (.tmp 62) rfl w5.heap.size s.list s'.list rfl rfl hR8 rfl rfl ?_; intro w8 hR9 hbut8; have hk9 : Kp w5 w8 := hbut8.below hk8 (Nat.le_refl _)))
        all_goals
          go_roundw
        all_goals (first
          | exact ⟨k + 1, by omega, by congr 1, by rw [HS'.out]; exact hR9, hk9⟩
          | (simp [intOf]; omega))
      · obtain rfl : k = N := by omega
        have hcond : ¬ (64 * (k : Int) < (P.length : Int)) := by rw [HL.out]; omega
        obtain ⟨s, hs⟩ : ∃ s, blocks startS P k = s := ⟨_, rfl⟩
        have hdg := HDG.out
        rw [hs] at hR hdg
        have hbg := bytes_get s
        rw [← hdg] at hbg
        have HB := Lib.hid hbg
        clear hs hdg hbg HDG
        go_wp2_with fail
        refine (sum_32 _ l _ (h.kp (kw5.trans hk)) (by omega)).mono ?_
        rintro e w9 ⟨⟨a9, c9, rfl, r9⟩, k9⟩
        have hR9 := hR.kp k9
        have kw9 : Kp w w9 := (kw5.trans hk).trans k9
        obtain ⟨b9, off9, rfl, hb9, hcell9⟩ := r9.row (by omega)
        obtain ⟨_, hc91, hc92⟩ := r9.len
        unfold maxLen at hc92
        have HC := Lib.hid hcell9
        clear hcell9 hR
        go_wp2_with fail
        go_loopw [10] (fun i wq => (∃ j : Nat, j ≤ 8 ∧ i = .int .i64 j) ∧ ∃ n, wq = w9.drewN n) (fun i _ => (8 - intOf i).toNat)
        case atStart => exact ⟨⟨0, by omega, rfl⟩, 0, rfl⟩
        case round =>
          obtain ⟨⟨j, hj, rfl⟩, n, rfl⟩ := hrel
          by_cases hlt2 : j < 8
          · obtain ⟨g0, g1, g2, g3⟩ := HB.out j hlt2
            have q0 := HC.out (4 * j) (by omega)
            have q1 := HC.out (4 * j + 1) (by omega)
            have q2 := HC.out (4 * j + 2) (by omega)
            have q3 := HC.out (4 * j + 3) (by omega)
            rw [g0] at q0
            rw [g1] at q1
            rw [g2] at q2
            rw [g3] at q3
            have ch := hR9.cell j hlt2
            generalize s.list.getD j 0 = x at *
            have hwo := wordOf_bytes x
            generalize UInt8.ofNat (x.toNat / 16777216) = x0 at *
            generalize UInt8.ofNat (x.toNat / 65536) = x1 at *
            generalize UInt8.ofNat (x.toNat / 256) = x2 at *
            generalize UInt8.ofNat x.toNat = x3 at *
            have hsum := wordOf_sum x0 x1 x2 x3
            rw [hwo] at hsum
            have b0 := ub_nonneg x0
            have b1 := ub_nonneg x1
            have b2 := ub_nonneg x2
            have b3 := ub_nonneg x3
            have d0 := ub_lt x0
            have d1 := ub_lt x1
            have d2 := ub_lt x2
            have d3 := ub_lt x3
            have v0 := wraps_u32 (ub x0) (by omega) (by omega)
            have v1 := wraps_u32 (ub x1) (by omega) (by omega)
            have v2' := wraps_u32 (ub x2) (by omega) (by omega)
            have v3' := wraps_u32 (ub x3) (by omega) (by omega)
            have m0 := wraps_u32 (ub x0 * 16777216) (by omega) (by omega)
            have m1 := wraps_u32 (ub x1 * 65536) (by omega) (by omega)
            have m2 := wraps_u32 (ub x2 * 256) (by omega) (by omega)
            have s1 := wraps_u32 (ub x0 * 16777216 + ub x1 * 65536) (by omega) (by omega)
            have s2 := wraps_u32 (ub x0 * 16777216 + ub x1 * 65536 + ub x2 * 256) (by omega) (by omega)
            have s3 : IntKind.u32.wrap (ub x0 * 16777216 + ub x1 * 65536 + ub x2 * 256 + ub x3) = u x := by rw [hsum, u_wrap]
            have z0 : IntKind.i64.wrap (4 * (j : Int)) = 4 * (j : Int) := by rw [IntKind.wrap_i64]; omega
            have z1 : IntKind.i64.wrap (4 * (j : Int) + 1) = 4 * (j : Int) + 1 := by rw [IntKind.wrap_i64]; omega
            have z2 : IntKind.i64.wrap (4 * (j : Int) + 2) = 4 * (j : Int) + 2 := by rw [IntKind.wrap_i64]; omega
            have z3 : IntKind.i64.wrap (4 * (j : Int) + 3) = 4 * (j : Int) + 3 := by rw [IntKind.wrap_i64]; omega
            have n0 : (0 : Int) ≤ 4 * (j : Int) := by omega
            have n1 : (0 : Int) ≤ 4 * (j : Int) + 1 := by omega
            have n2 : (0 : Int) ≤ 4 * (j : Int) + 2 := by omega
            have n3 : (0 : Int) ≤ 4 * (j : Int) + 3 := by omega
            have t0 : (4 * (j : Int)).toNat = 4 * j := by omega
            have t1' : (4 * (j : Int) + 1).toNat = 4 * j + 1 := by omega
            have t2' : (4 * (j : Int) + 2).toNat = 4 * j + 2 := by omega
            have t3' : (4 * (j : Int) + 3).toNat = 4 * j + 3 := by omega
            have l0 : 4 * (j : Int) < 32 := by omega
            have l1 : 4 * (j : Int) + 1 < 32 := by omega
            have l2 : 4 * (j : Int) + 2 < 32 := by omega
            have l3 : 4 * (j : Int) + 3 < 32 := by omega
            have q8 : (j : Int) < 8 := by omega
            obtain ⟨wn, hwn⟩ : ∃ wn, w9.drewN n = wn := ⟨_, rfl⟩
            have hdr : Dr w9 wn := ⟨n, hwn.symm⟩
            have q0' := hdr.cell q0
            have q1' := hdr.cell q1
            have q2' := hdr.cell q2
            have q3' := hdr.cell q3
            have ch' := hdr.cell ch
            have HW := Lib.hid hwn
            rw [hwn]
            clear hwn hdr q0 q1 q2 q3 ch hwo hsum g0 g1 g2 g3 b0 b1 b2 b3 d0 d1 d2 d3
            go_wp2_with fail
            go_quiet (fail)
            go_wp2_with fail
            go_roundw
            case rel => exact ⟨⟨j + 1, by omega, by go_num⟩, n + nq, by rw [← HW.out, World.drewN_drewN]⟩
            case measure => simp [intOf]; omega
          · obtain rfl : j = 8 := by omega
            go_wp2_with fail
            go_ret
            exact ⟨rfl, kw9.drewN n⟩
  · have hl2 : 1000 < (l.length : Int) := by omega
    go_enter Try.func5, Try.ntmps5
    go_wp2_with fail
    refine (shown_any _).mono ?_
    rintro e w1 ⟨rfl, k1⟩
    go_wp2_with fail
    go_ret
    exact ⟨rfl, k1⟩
end Go.Proofs.Ytgialijhnghdgaa

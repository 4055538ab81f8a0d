import Derived.Test.YtigpgcjbpoaclaaDoorC23
import Derived.Test.YtigpgcjbpoaclaaDoorC27
import Derived.Test.YtigpgcjbpoaclaaDoorC28
import Derived.Test.YtigpgcjbpoaclaaDoorC31
import Derived.Test.YtigpgcjbpoaclaaDoorC33
import Derived.Test.YtigpgcjbpoaclaaDoorC34
import Derived.Maps.OwnIn
set_option linter.unusedVariables false
set_option linter.unusedSimpArgs false
namespace Go.Proofs.YtigpgcjbpoaclaaDoor
open Go.RowKit
theorem num4_own {a : Nat} (h : a ≤ 4294967295) : numE (a : Int) 4 = 0 ∧ numB (a : Int) 4 = be 4 a := by
  have h4 : numOk (a : Int) 4 := ⟨by omega, by omega, by omega, (by have : (256 : Int) ^ (4 : Int).toNat = 4294967296 := (by decide); omega)⟩
  have := num_yes h4
  exact ⟨this.1, by rw [this.2]; rfl⟩
theorem Ow.newer13 {e : TypeId} {w : World} {B : Nat} {v : Value} {l : List UInt8} (h : Ow e w B v l) : Newer B v := fun g hg => (World.ownsRow.lt h g hg).1
set_option maxHeartbeats 1000000 in
theorem ratchDerived_any (v : Value) (s : ByteArray) (k : List UInt8) (w : World) (hv : Rd w v k) (hs : s.size ≤ 300) (hkl : k.length ≤ 2000) :
    Calls Tryd.prog 41 #[v, .string s] w fun e w' => (∃ u, e = .returned u ∧ Ow 5 w' w.heap.size u (partB k s [] 32)) ∧ Kp w w' := by
  have HL := Lib.hid (derive_any v s k w hv hs hkl)
  have HM : Hid (expL k (labI s.data.toList [] 32) 32 = partB k s [] 32) := rfl
  rw [HM.out] at HL
  obtain ⟨a1, n1, c1, rfl⟩ := hv.sl
  clear hv
  go_enter Tryd.func41, Tryd.ntmps41
  go_wp2_with fail
  refine HL.out.mono ?_
  rintro _ w1 ⟨⟨u, rfl, o1⟩, k1⟩
  obtain ⟨a2, n2, c2, rfl⟩ := o1.rd.sl
  go_wp2_with fail
  go_ret
  exact ⟨⟨_, rfl, o1⟩, k1⟩
set_option maxHeartbeats 1000000 in
theorem ratchLabelled_any (v : Value) (s : ByteArray) (k : List UInt8) (a n : Nat) (w : World) (hv : Rd w v k) (hs : s.size ≤ 300) (hkl : k.length ≤ 2000) (ha : a ≤ 4294967295) (hn : (n : Int) ≤ 8160) :
    Calls Tryd.prog 56 #[v, .string s, .int .i64 a, .int .i64 n] w fun e w' => (∃ u, e = .returned u ∧ Ow 5 w' w.heap.size u (partB k s (be 4 a) n)) ∧ Kp w w' := by
  have HN := Lib.hid (num_any (a : Int) 4 w (by omega))
  rw [(num4_own ha).1, (num4_own ha).2] at HN
  have HP := Lib.hid (fun W vc (kk : Kp w W) (hc : Rd W vc (be 4 a)) => label_any v s vc k (be 4 a) (n : Int) W (hv.kp kk) hc hs (by rw [be_length]; omega) hkl (by omega))
  rw [(partB_lab k s (be 4 a) n hn).1, (partB_lab k s (be 4 a) n hn).2] at HP
  obtain ⟨a1, n1, c1, rfl⟩ := hv.sl
  generalize partB k s (be 4 a) n = PB at *
  generalize be 4 a = Z at *
  clear hv
  go_enter Tryd.func56, Tryd.ntmps56
  go_wp2_with fail
  refine HN.out.mono ?_
  rintro _ w1 ⟨v1, rfl, o1, k1⟩
  obtain ⟨a2, n2, c2, rfl⟩ := o1.rd.sl
  go_wp2_with fail
  refine (HP.out _ _ k1 o1.rd).mono ?_
  rintro _ w2 ⟨⟨u, rfl, o2⟩, k2⟩
  obtain ⟨a3, n3, c3, rfl⟩ := o2.rd.sl
  go_wp2_with fail
  go_ret
  exact ⟨⟨_, rfl, o2.mono k1.size⟩, k1.trans k2⟩
theorem infoCh3c : (Tryd.prog.info? 34).map (·.size) = some (#[Value.int .i64 0, .slice none 0 0, .slice none 0 0] : Array Value).size := by kernel_rfl
theorem infoLk3c : (Tryd.prog.info? 37).map (·.size) = some (#[Value.int .i64 0, .slice none 0 0, .slice none 0 0] : Array Value).size := by kernel_rfl
set_option maxHeartbeats 2000000 in
theorem ratchLockOf_any (v : Value) (s : List UInt8) (a : Nat) (w : World) (h : Rd w v s) (hl : s.length ≤ 2000) (ha : a ≤ 4294967295) :
    Calls Tryd.prog 46 #[v, .int .i64 a] w fun e w' => (∃ x y, e = .returned (.agg #[.int .i64 a, x, y]) ∧ LIn w' x y (lockB s a) ∧ Newer w.heap.size x ∧ Newer w.heap.size y) ∧ Kp w w' := by
  obtain ⟨w1, hw1⟩ : ∃ w1, w.alloc (.cells #[.int .i64 0, .slice none 0 0, .slice none 0 0] 37) = w1 := ⟨_, rfl⟩
  have hb : Bx w1 w.heap.size 37 #[.int .i64 0, .slice none 0 0, .slice none 0 0] := by rw [← hw1]; exact Bx.new w _ _
  have hk1 : Kp w w1 := by rw [← hw1]; exact (Kp.refl _).alloc _
  have HP := Lib.hid (fun W (k : Kp w W) => ratchLabelled_any v keyS s a 32 W (h.kp k) (by decide) hl ha (by decide))
  have HQ := Lib.hid (fun W (k : Kp w W) => ratchLabelled_any v nonceS s a 12 W (h.kp k) (by decide) hl ha (by decide))
  have HM : Hid (∀ W x y, Rd W x (partB s keyS (be 4 a) 32) → Rd W y (partB s nonceS (be 4 a) 12) → LIn W x y (lockB s a)) := fun W x y h1 h2 => ⟨h1, h2⟩
  obtain ⟨a1, n1, c1, rfl⟩ := h.sl
  generalize partB s keyS (be 4 a) 32 = KB at *
  generalize partB s nonceS (be 4 a) 12 = NB at *
  unfold keyS at HP
  unfold nonceS at HQ
  have HB := Lib.hid hb
  have HSZ : Hid (w1.heap.size = w.heap.size + 1) := by rw [← hw1]; exact World.size_alloc _ _
  have K1 := Lib.hid hk1
  have HW := Lib.hid hw1
  clear h hb hk1 hw1
  go_enter Tryd.func46, Tryd.ntmps46
  go_wp2_with fail
  rw [HW.out]
  refine (HP.out _ K1.out).mono ?_
  rintro _ w3 ⟨⟨u3, rfl, o3⟩, k3⟩
  obtain ⟨a3, n3, c3, rfl⟩ := o3.rd.sl
  have K3 := Lib.hid (K1.out.trans k3)
  go_wp2_with fail
  refine (HQ.out _ K3.out).mono ?_
  rintro _ w4 ⟨⟨u4, rfl, o4⟩, k4⟩
  obtain ⟨a4, n4, c4, rfl⟩ := o4.rd.sl
  have B4 := Lib.hid (HB.out.kp (k3.trans k4))
  have K4 := Lib.hid (K3.out.trans k4)
  have R3 := Lib.hid (o3.rd.kp k4)
  have R4 := Lib.hid o4.rd
  have hs3 := k3.size
  have M3 : Hid (Newer (w.heap.size + 1) (.slice a3 n3 c3)) := fun g hg => by have h1 := o3.newer13 g hg; have h2 := HSZ.out; omega
  have M4 : Hid (Newer (w.heap.size + 1) (.slice a4 n4 c4)) := fun g hg => by have h1 := o4.newer13 g hg; have h2 := HSZ.out; omega
  clear K1 K3 k3 k4 o3 o4 HSZ hs3
  go_wp2_with (refine wpList_store_row rfl rfl 37 (.tmp 4) (.tmp 12) rfl w.heap.size 37 _ #[.int .i64 a, .slice a3 n3 c3, .slice a4 n4 c4] rfl rfl B4.out rfl (three_one rfl rfl rfl) infoLk3c ?_; intro w5 b5 g5 kp5)
  have K5 := kp5 _ K4.out (Nat.le_refl _)
  refine bodyPost_ret (results_cell1 rfl _ _ w.heap.size _ _ (0, 0) _ rfl b5 Tryd.underlying37 rfl infoLk3c) rfl ?_
  exact ⟨⟨_, _, rfl, HM.out _ _ _ (R3.out.stepNew g5 M3.out) (R4.out.stepNew g5 M4.out), M3.out.mono (Nat.le_succ _), M4.out.mono (Nat.le_succ _)⟩, K5⟩
end Go.Proofs.YtigpgcjbpoaclaaDoor
namespace Go.Proofs.YtigpgcjbpoaclaaDoor
open Go.RowKit Go.Shelf
attribute [local go_sem] Oper.semAt_some
theorem Rd.heldL13 {R : Nat → Prop} {A B : World} {v : Value} {l : List UInt8} (h : Rd A v l) (hs : Held R A B) (hx : ∀ k, leads v k → R k) : Rd B v l := by
  obtain ⟨a, c, e, h1, h2, h3, h4⟩ := h
  subst e
  refine ⟨a, c, rfl, h1, h2, h3, fun x hx' i hi => ?_⟩
  have hc := h4 x hx' i hi
  subst hx'
  exact hs.cell hc (by rw [add_block9]; exact hx _ ⟨x, _, c, rfl, by omega, rfl⟩)
theorem Rd.leads_lt13 {A : World} {v : Value} {l : List UInt8} (h : Rd A v l) : ∀ k, leads v k → k < A.heap.size := by
  rintro k ⟨x, n, c, e, h0, rfl⟩
  exact h.inside x n c e h0
theorem Ow.leads_lt13 {e : TypeId} {A : World} {B : Nat} {v : Value} {l : List UInt8} (h : Ow e A B v l) : ∀ k, leads v k → B ≤ k ∧ k < A.heap.size := by
  rintro k ⟨x, n, c, rfl, h0, rfl⟩
  exact World.ownsRow.lt h _ rfl
theorem leadsA_two {i : Int} {u : Value} {k : Nat} : leadsA #[.int .i64 i, u] k ↔ leads u k := by
  constructor
  · rintro ⟨x, hx, h⟩
    simp only [List.mem_cons, List.not_mem_nil, or_false] at hx
    rcases hx with rfl | rfl
    · obtain ⟨_, _, _, e, _⟩ := h; cases e
    · exact h
  · intro h
    exact ⟨u, by simp, h⟩
theorem least_ex13 (Q : Nat → Prop) : (∃ n, Q n) → ∃ n, Q n ∧ ∀ m, Q m → n ≤ m := by
  rintro ⟨n, hn⟩
  induction n using Nat.strongRecOn with
  | ind n ih =>
    by_cases h : ∃ m, m < n ∧ Q m
    · obtain ⟨m, h1, h2⟩ := h
      exact ih m h1 h2
    · exact ⟨n, hn, fun m hm => Nat.le_of_not_lt fun hlt => h ⟨m, hlt, hm⟩⟩
open Classical in
noncomputable def leastQ (Q : Nat → Prop) : Nat := if h : ∃ n, Q n then Classical.choose (least_ex13 Q h) else 0
theorem leastQ_at {Q : Nat → Prop} (h : ∃ n, Q n) : Q (leastQ Q) ∧ ∀ m, Q m → leastQ Q ≤ m := by
  unfold leastQ
  rw [dif_pos h]
  exact Classical.choose_spec (least_ex13 Q h)
set_option maxHeartbeats 1000000 in
theorem ratchPlaces_any (n : Int) (x y : Value) (w : World) (hx : ∃ a n c, x = .slice a n c) (hy : ∃ a n c, y = .slice a n c) :
    Calls Tryd.prog 45 #[.agg #[.int .i64 n, x, y]] w fun e w' => e = .returned (.func (.func 55) #[] #[.pointer (some ⟨w.heap.size, 0, none⟩)]) ∧ w.alloc (.cells #[.int .i64 n, x, y] 34) = w' := by
  obtain ⟨a1, n1, c1, rfl⟩ := hx
  obtain ⟨a2, n2, c2, rfl⟩ := hy
  go_enter Tryd.func45, Tryd.ntmps45
  go_wp2_with fail
  go_ret
  exact ⟨rfl, rfl⟩
def PlT (s : List UInt8) (M : Nat) (x : Value) (i : Nat) (v : Array Value) (Y : Nat → Prop) (A : World) : Prop := ∃ u, v = #[.int .i64 ((M : Int) + (i : Int)), u] ∧ Rd A u (onB s M i) ∧ ∀ k, leads u k → Y k ∨ leads x k
set_option maxRecDepth 100000 in
set_option maxHeartbeats 4000000 in
theorem ratchPlaces_hands (x : Value) (s : List UInt8) (M N b : Nat) (w : World) (hx : Rd w x s) (hs : s.length = 32) (hb0 : w.cell? ⟨b, 0, none⟩ = some (.int .i64 (M : Int))) (hb1 : w.cell? ⟨b, 1, none⟩ = some x) (hMN : M + N ≤ 4294967296) :
    HandsGA Tryd.prog 55 #[.pointer (some ⟨b, 0, none⟩)] (PlT s M x) N (fun k => k = b ∨ leads x k) w := by
  intro l J Jx W hh hl1 hl2 hJ hJx hJN hY h0
  have hN0 : 0 < N := Nat.pos_of_ne_zero (fun e => by subst e; exact hJN _ _ h0)
  have hbw0 := hh.cell hb0 (.inl rfl)
  have hbw1 := hh.cell hb1 (.inl rfl)
  have hvW : Rd W x s := hx.heldL13 hh (fun k h => .inr h)
  have HJ := Lib.hid hJ
  have HY := Lib.hid hY
  have HJN := Lib.hid hJN
  have HB := Lib.hid hMN
  have HD := Lib.hid (fun W (u : Value) i (hi : i < N) (hu : Rd W u (onB s M i)) => ratchLabelled_any u nextS (onB s M i) (M + i) 32 W hu (by decide) (by rw [onB_length s M hs i]; omega) (by omega) (by decide))
  have HS : Hid (∀ i, partB (onB s M i) nextS (be 4 (M + i)) 32 = onB s M (i + 1)) := fun i => rfl
  have HI7 : Hid (∀ i : Nat, ((M + i : Nat) : Int) = (M : Int) + (i : Int)) := fun i => by omega
  simp only [HI7.out] at HD
  unfold nextS at HD HS
  obtain ⟨a0, n0, c0, rfl⟩ := hx.sl
  generalize hV0 : Value.slice a0 n0 c0 = v at *
  obtain ⟨RL, hRL⟩ : ∃ RL : Nat → Value → Value → World → Prop, (fun (i : Nat) (p q : Value) (wr : World) => ∃ Y : Nat → Prop, q = .int .i64 ((M : Int) + (i : Int)) ∧ Rd wr p (onB s M i) ∧ (∀ k, leads p k → Y k ∨ leads v k) ∧ Held (fun k => k = b ∨ leads v k) w wr ∧ J i Y wr ∧ (∀ j, Y j → W.heap.size ≤ j ∧ j < wr.heap.size) ∧ W.heap.size ≤ wr.heap.size) = RL := ⟨_, rfl⟩
  have HRL : Hid (∀ i p q wr, RL i p q wr ↔ ∃ Y : Nat → Prop, q = .int .i64 ((M : Int) + (i : Int)) ∧ Rd wr p (onB s M i) ∧ (∀ k, leads p k → Y k ∨ leads v k) ∧ Held (fun k => k = b ∨ leads v k) w wr ∧ J i Y wr ∧ (∀ j, Y j → W.heap.size ≤ j ∧ j < wr.heap.size) ∧ W.heap.size ≤ wr.heap.size) := fun i p q wr => by rw [← hRL]
  have HSTART : Hid (RL 0 v (.int .i64 (M : Int)) W) := (HRL.out _ _ _ _).2 ⟨_, by simp, hvW, fun k hk => .inr hk, hh, h0, fun _ h => h.elim, Nat.le_refl _⟩
  clear hRL hJ hY hJN hb0 hb1 hx hh h0 hvW hs hMN
  subst hV0
  refine (callsIn_wide (n := 5)).1 ?_
  refine callsIn_of_wp Tryd.func55 rfl trivial ?_ rfl
  simp only [Tryd.ntmps55, List.append_toArray, List.append_nil, List.size_toArray, List.length_cons, List.length_nil, Nat.reduceAdd, Nat.reduceSub, Array.replicate_succ, Array.replicate_zero, List.push_toArray, List.nil_append, List.cons_append]
  gi_wp2
  gi_loopw [3, 4] (fun p q wr => ∃ i : Nat, i < N ∧ RL i p q wr) (fun p q wr => leastQ fun d => ∃ i : Nat, i < N ∧ d = N - i ∧ RL i p q wr)
  case atStart => exact ⟨0, hN0, HSTART.out⟩
  case round =>
    clear hbw0 hbw1
    obtain ⟨i, hi, hm, hr⟩ : ∃ i, i < N ∧ (leastQ fun d => ∃ i : Nat, i < N ∧ d = N - i ∧ RL i u3 u4 wr) = N - i ∧ RL i u3 u4 wr := by
      obtain ⟨i0, h1, h2⟩ := hrel
      obtain ⟨⟨i, h3, h4, h5⟩, _⟩ := leastQ_at (Q := fun d => ∃ i : Nat, i < N ∧ d = N - i ∧ RL i u3 u4 wr) ⟨_, i0, h1, rfl, h2⟩
      exact ⟨i, h3, h4, h5⟩
    have HM := Lib.hid hm
    obtain ⟨Y, rfl, rd, hl, hh, hj, hyb, hsz⟩ := (HRL.out _ _ _ _).1 hr
    obtain ⟨a3, n3, c3, rfl⟩ := rd.sl
    obtain ⟨fn, tmps, assign, body, hy, hR⟩ := HY.out i Y wr _ 4 hi hj hyb hh ⟨_, rfl, rd, hl⟩
    have hmx : Tryd.prog.follows .mixedOrders = true := by kernel_rfl
    have hls : Tryd.prog.follows .lateStores = true := by kernel_rfl
    have i6 : IntKind.i64.wrap ((M : Int) + (i : Int) + 1) = (M : Int) + ((i : Int) + 1) := by have := HB.out; rw [IntWalk.i64_in _ (by omega)]; omega
    clear hrel hm hr
    gi_wp2
    have RD := Lib.hid rd
    have HH := Lib.hid (And.intro hh (And.intro hyb (And.intro hsz hl)))
    clear hh hyb hsz hl hj rd
    refine hR.mono ?_
    rintro e w2 ⟨hh2, (⟨rfl, hj2⟩ | ⟨rfl, hx2⟩)⟩
    · have rd2 : Rd w2 (.slice a3 n3 c3) (onB s M i) := RD.out.heldL13 hh2 fun k hk => (HH.out.2.2.2 k hk).imp id .inr
      have hw2 : Held (fun k => k = b ∨ leads (.slice a0 n0 c0) k) w w2 := HH.out.1.trans (hh2.mono fun _ h => .inr h)
      have HX := Lib.hid (And.intro hw2 (And.intro hj2 hh2.size))
      have RD2 := Lib.hid rd2
      have HDI := Lib.hid (HD.out w2 _ i hi RD2.out)
      clear hy hR hw2 hj2 hh2 rd2
      gi_wp2_with (refine ⟨trivial, ?_⟩; gi_at_call 56; refine (callsIn_wide.2 HDI.out).mono ?_; rintro e w3 ⟨⟨v3, rfl, o3⟩, k3⟩; rw [HS.out] at o3; obtain ⟨a9, n9, c9, rfl⟩ := o3.rd.sl)
      obtain ⟨q2, q3, q4⟩ := HX.out
      obtain ⟨_, p3, p4, p5⟩ := HH.out
      have hiN : i + 1 < N := by
        rcases Nat.lt_or_eq_of_le (Nat.succ_le_of_lt hi) with h | h
        · exact h
        · rw [show i + 1 = N from h] at q3
          exact absurd q3 (HJN.out _ _)
      have hrl : RL (i + 1) (.slice a9 n9 c9) (.int .i64 ((M : Int) + ((i : Int) + 1))) w3 := (HRL.out _ _ _ _).2 ⟨fun k => (Y k ∧ ¬ leadsA #[.int .i64 ((M : Int) + (i : Int)), .slice a3 n3 c3] k) ∨ leads (.slice a9 n9 c9) k, by rw [show ((i + 1 : Nat) : Int) = (i : Int) + 1 from by omega], o3.rd, fun k hk => .inl (.inr hk), q2.trans (Held.of_kp k3),
        HJ.out (i + 1) _ _ w2 w3 q3 (fun k hk => ⟨(p3 k hk.1).1, Nat.lt_of_lt_of_le (p3 k hk.1).2 q4⟩) (Step.of_kp k3) (fun k hk => hk.imp id fun h => o3.leads_lt13 k h),
        fun k hk => hk.elim (fun h => ⟨(p3 k h.1).1, Nat.lt_of_lt_of_le (p3 k h.1).2 (Nat.le_trans q4 k3.size)⟩) (fun h => ⟨Nat.le_trans (Nat.le_trans p4 q4) (o3.leads_lt13 k h).1, (o3.leads_lt13 k h).2⟩), Nat.le_trans p4 (Nat.le_trans q4 k3.size)⟩
      refine ⟨⟨i + 1, hiN, hrl⟩, ?_⟩
      rw [HM.out]
      have := (leastQ_at (Q := fun d => ∃ t : Nat, t < N ∧ d = N - t ∧ RL t (.slice a9 n9 c9) (.int .i64 ((M : Int) + ((i : Int) + 1))) w3) ⟨_, i + 1, hiN, rfl, hrl⟩).2 _ ⟨i + 1, hiN, rfl, hrl⟩
      omega
    · clear hy hR
      gi_wp2
      refine bodyPost_end (results_none rfl _ _ _) rfl ?_
      exact ⟨⟨_, rfl⟩, _, fun j h => ⟨(HH.out.2.1 j h.1).1, Nat.lt_of_lt_of_le (HH.out.2.1 j h.1).2 hh2.size⟩, .inr ⟨i, hi, hx2⟩⟩
end Go.Proofs.YtigpgcjbpoaclaaDoor

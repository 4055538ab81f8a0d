import Derived.Test.YtigpgcjbpoaclaaGreatDoorB2
import Derived.Test.YtigpgcjbpoaclaaGreatDoorB3
import Derived.Test.YtigpgcjbpoaclaaGreatDoorB5
import Derived.Test.YtigpgcjbpoaclaaGreatDoorB7
import Derived.Test.YtigpgcjbpoaclaaGreatDoorB17
import Derived.RegionTactic
import Derived.BigRegion
set_option linter.unusedVariables false
set_option linter.unusedSimpArgs false
namespace Go.Proofs.YtigpgcjbpoaclaaGreatDoor
open Go.RowKit
theorem One.same {T : TypeId} {X : Nat → Prop} {w w' : World} {p : Nat} {v : Value} (h : One T w p v) (k : Same X w w') (hx : ¬ X p) : One T w' p v := (k.block p h.lt hx).trans h
theorem mac_pad1 (i n c : Nat) (x y : UInt8) (p o g : Nat) (T1 T2 : TypeId) (m : List UInt8) (w : World) (hi : i < m.length) (hn : m.length = n) (hp : One T1 w p (.int .u8 (y.toNat : Int))) (ho : One T2 w o (.slice (some ⟨g, 0, none⟩) n c)) (hg : By 5 w g m) (hnm : n ≤ 1000000) :
    Calls Tryz.prog 115 #[.int .i64 i, .int .u8 (x.toNat : Int), .pointer (some ⟨p, 0, none⟩), .pointer (some ⟨o, 0, none⟩)] w fun e w' => e = .returned (.tuple #[]) ∧ w.setCell ⟨g, i, none⟩ (.int .u8 ((x ^^^ y).toNat : Int)) = w' := by
  have cp := hp.cell
  have co := ho.cell
  have cg := hg.cell i hi
  have fg := hg.frozen i
  have hb := ub8_xor x y
  have hin : i < n := by omega
  obtain ⟨z, hz⟩ : ∃ z : Int, z = ((x ^^^ y).toNat : Int) := ⟨_, rfl⟩
  rw [← hz] at hb ⊢
  clear hz hn
  go_enter Tryz.func115, Tryz.ntmps115
  go_wp2_with fail
  go_end0
  exact ⟨rfl, rfl⟩
theorem xorB_set (l : List UInt8) (y : UInt8) (k : Nat) (h : k < l.length) : (mixB (List.replicate l.length 0) (xorB l y) k).set k (l.getD k 0 ^^^ y) = mixB (List.replicate l.length 0) (xorB l y) (k + 1) :=
  mixB_set _ _ k (by simp [xorB_length]) (by simpa using h) _ (xorB_get l y k h)
set_option maxHeartbeats 1000000 in
theorem mac_each_pad (v : Value) (l : List UInt8) (y : UInt8) (p o g c : Nat) (T1 T2 : TypeId) (w w3 : World) (h : Rd w v l) (hl : l.length ≤ 1000000) (hk : Kp w w3) (hgw : w.heap.size ≤ g)
    (hp : One T1 w3 p (.int .u8 (y.toNat : Int))) (ho : One T2 w3 o (.slice (some ⟨g, 0, none⟩) l.length c)) (hpg : p ≠ g) (hog : o ≠ g) (hg : By 5 w3 g (List.replicate l.length 0)) :
    Calls Tryz.prog 114 #[v, .func (.func 115) #[] #[.pointer (some ⟨p, 0, none⟩), .pointer (some ⟨o, 0, none⟩)]] w3 fun e w' => e = .returned (.tuple #[]) ∧ By 5 w' g (xorB l y) ∧ Same (fun k => k = g) w3 w' ∧ Kp w w' := by
  obtain ⟨a, cc, rfl, h1, h2⟩ := h.shape
  unfold maxLen at h2
  have HS := Lib.hid (xorB_set l y)
  have hall : mixB (List.replicate l.length 0) (xorB l y) l.length = xorB l y := by
    have := mixB_all (List.replicate l.length 0) (xorB l y) (by simp [xorB_length])
    rwa [xorB_length] at this
  have HA := Lib.hid hall
  have h00 : mixB (List.replicate l.length 0) (xorB l y) 0 = List.replicate l.length 0 := by simp [mixB]
  have hg0 : By 5 w3 g (mixB (List.replicate l.length 0) (xorB l y) 0) := by rw [h00]; exact hg
  have HL : Hid (∀ k, k ≤ l.length → (mixB (List.replicate l.length 0) (xorB l y) k).length = l.length) := fun k hk => by
    rw [mixB_length _ _ _ (by simp [xorB_length]) (by simpa using hk)]; simp
  clear hall h00 hg
  go_enter Tryz.func114, Tryz.ntmps114
  go_wp2_with fail
  go_loopw [8] (fun i wr => ∃ k : Nat, k ≤ l.length ∧ i = .int .i64 k ∧ By 5 wr g (mixB (List.replicate l.length 0) (xorB l y) k) ∧ Same (fun k => k = g) w3 wr ∧ Kp w wr) (fun i _ => (l.length - (intOf i).toNat))
  case atStart => exact ⟨0, by omega, rfl, hg0, Same.refl _ _, hk⟩
  case round =>
    clear hg0
    obtain ⟨k, hkl, rfl, hB, hS, hkp⟩ := hrel
    by_cases hlt : k < l.length
    · obtain ⟨b, off, rfl, _, hcell⟩ := h.at k hlt
      have hc0 := hkp.cell (hcell k hlt)
      have hpr := hp.same hS hpg
      have hor := ho.same hS hog
      have HX := Lib.hid (mac_pad1 k l.length c (l.getD k 0) y p o g T1 T2 _ wr (by rw [HL.out k hkl]; exact hlt) (HL.out k hkl) hpr hor hB hl)
      have hst := HS.out k hlt
      have HST := Lib.hid hst
      clear hst hcell
      generalize hx : l.getD k 0 = x at *
      clear hx
      go_wp2_with (go_at_call 115; refine HX.out.mono ?_; rintro e w4 ⟨rfl, rfl⟩)
      go_roundw
      case rel => exact ⟨k + 1, by omega, by go_num, hB.set k _ HST.out, hS.setCell _ _ rfl, Below.setCell hkp hgw _⟩
      case measure => simp [intOf]; omega
    · obtain rfl : k = l.length := by omega
      go_wp2_with fail
      go_end0
      exact ⟨rfl, by rw [← HA.out]; exact hB, hS, hkp⟩
set_option maxHeartbeats 1000000 in
theorem mac_padded (v : Value) (l : List UInt8) (y : UInt8) (w : World) (h : Rd w v l) (hl : l.length ≤ 1000000) :
    Calls Tryz.prog 108 #[v, .int .u8 (y.toNat : Int)] w fun e w' => (∃ g, e = .returned (.slice (some ⟨g, 0, none⟩) l.length l.length) ∧ By 5 w' g (xorB l y) ∧ w.heap.size ≤ g) ∧ Kp w w' := by
  obtain ⟨a, cc, rfl, h1, h2⟩ := h.shape
  unfold maxLen at h2
  have hp0 : One 5 (w.alloc (.cells #[.int .u8 (y.toNat : Int)] 5)) w.heap.size (.int .u8 (y.toNat : Int)) := One.new _ _ _
  have hf0 : ∀ W, W = (w.alloc (.cells #[.int .u8 (y.toNat : Int)] 5)).alloc (.cells (Array.replicate l.length (.int .u8 0)) 5) → By 5 W (w.heap.size + 1) (List.replicate l.length 0) := fun W hW => by
    subst hW
    have := By.fresh 5 (w.alloc (.cells #[.int .u8 (y.toNat : Int)] 5)) l.length
    rwa [World.size_alloc] at this
  have HF := Lib.hid hf0
  have HP := Lib.hid hp0
  clear hf0 hp0
  go_enter Tryz.func108, Tryz.ntmps108
  go_wp2_with (at_make; refine wpList_make_fresh (z := .int .u8 0) (b := 1) Tryz.underlying22 Tryz.info5 rfl (by decide) rfl _ _ rfl l.length rfl rfl hl ?_; intro w1 hw1; have hg1 := HF.out w1 hw1; have hp1 : One 5 w1 w.heap.size (.int .u8 (y.toNat : Int)) := (by rw [hw1]; exact HP.out.kp ((Kp.refl _).alloc _)); have hk1 : Kp w w1 := (by rw [hw1]; exact ((Kp.refl w).alloc _).alloc _); have hs1 := hg1.lt; clear hw1)
  have ho3 : One 22 (w1.alloc (.cells #[.slice (some ⟨w.heap.size + 1, 0, none⟩) l.length l.length] 22)) w1.heap.size (.slice (some ⟨w.heap.size + 1, 0, none⟩) l.length l.length) := One.new _ _ _
  refine (mac_each_pad _ l y w.heap.size w1.heap.size (w.heap.size + 1) l.length _ _ w _ h hl (hk1.alloc _) (by omega) (hp1.kp ((Kp.refl _).alloc _)) ho3 (by omega) (by omega) (hg1.kp ((Kp.refl _).alloc _))).mono ?_
  rintro e w4 ⟨rfl, hg4, hS4, hk4⟩
  have ho4 := (ho3.same hS4 (by omega)).cell
  clear ho3
  go_wp2_with fail
  go_ret
  exact ⟨⟨_, rfl, hg4, by omega⟩, hk4⟩
end Go.Proofs.YtigpgcjbpoaclaaGreatDoor
namespace Go.Proofs.YtigpgcjbpoaclaaGreatDoor
open Go.RowKit Go.Shelf
attribute [local go_sem] Oper.semAt_some
set_option maxHeartbeats 1000000 in
theorem places_any (k : Nat) (w : World) :
    Calls Tryz.prog 90 #[.int .i64 k] w fun e w' => e = .returned (.func (.func 97) #[] #[.pointer (some ⟨w.heap.size, 0, none⟩)]) ∧ w.alloc (.cells #[.int .i64 k] 3) = w' := by
  go_enter Tryz.func90, Tryz.ntmps90
  go_wp2
  go_ret
  exact ⟨rfl, rfl⟩
set_option maxRecDepth 100000 in
set_option maxHeartbeats 4000000 in
theorem places_hands (k N b : Nat) (w : World) (hk : 1 ≤ k ∧ k ≤ 6) (hN : 256 ^ k = N + 1) (hw : w.cell? ⟨b, 0, none⟩ = some (.int .i64 k)) :
    Hands Tryz.prog 97 #[.pointer (some ⟨b, 0, none⟩)] (fun i v _ A => Rd A v (be k (i + 1))) N (fun j => j = b) w := by
  intro l J Jx W hh hl1 hl2 hJ hJx hY h0
  have hbw := hh.cell hw rfl
  have HJ := Lib.hid hJ
  have HY := Lib.hid hY
  have hbb : b < w.heap.size := World.block_lt_of_cell? w _ hw
  have hbig : (N : Int) ≤ 281474976710656 := by
    have h2 : 256 ^ k ≤ 256 ^ 6 := Nat.pow_le_pow_right (by omega) hk.2
    have h3 : (256 : Nat) ^ 6 = 281474976710656 := by decide
    omega
  have HN : Hid (∀ i, i < N → numE ((i : Int) + 1) k = 0 ∧ numB ((i : Int) + 1) k = be k (i + 1)) := fun i hi => by
    obtain ⟨h1, h2⟩ := num_yes (n := (i : Int) + 1) (w := k) ⟨by omega, by omega, by omega, by
      have := (pow256 (i + 1) k).2 (by omega)
      simpa using this⟩
    refine ⟨h1, h2.trans ?_⟩
    congr 1
  have HE : Hid (numE ((N : Int) + 1) k = 1) := by
    refine (num_no (n := (N : Int) + 1) (w := k) (fun h => ?_)).1
    have := (pow256 (N + 1) k).1 (by simpa using h.2.2.2)
    omega
  have HH := Lib.hid (And.intro hw hbb)
  have HHeld := Lib.hid hh
  clear hJ hY hN hw
  refine (callsIn_wide (n := 5)).1 ?_
  refine callsIn_of_wp Tryz.func97 rfl trivial ?_ rfl
  simp only [Tryz.ntmps97, List.append_toArray, List.append_nil, List.size_toArray, List.length_cons, List.length_nil, Nat.reduceAdd, Nat.reduceSub, Array.replicate_succ, Array.replicate_zero, List.push_toArray, List.nil_append, List.cons_append]
  gi_wp2
  gi_loopw [3] (fun p wr => ∃ (i : Nat) (Y : Nat → Prop), i ≤ N ∧ p = .int .i64 ((i : Int) + 1) ∧ wr.cell? ⟨b, 0, none⟩ = some (.int .i64 k) ∧ Held (fun j => j = b) w wr ∧ J i Y wr ∧ (∀ j, Y j → W.heap.size ≤ j ∧ j < wr.heap.size) ∧ W.heap.size ≤ wr.heap.size) (fun p _ => N + 1 - (intOf p).toNat)
  case atStart => exact ⟨0, _, by omega, rfl, hbw, HHeld.out, h0, fun _ h => h.elim, Nat.le_refl _⟩
  case round =>
    clear hbw h0
    obtain ⟨i, Y, hi, rfl, hb, hhw, hj, hyb, hsz⟩ := hrel
    have hmx : Tryz.prog.follows .mixedOrders = true := by kernel_rfl
    have hls : Tryz.prog.follows .lateStores = true := by kernel_rfl
    by_cases hlt : i < N
    · obtain ⟨e1, e2⟩ := HN.out i hlt
      gi_wp2_with (refine ⟨trivial, ?_⟩; gi_at_call 68; refine (callsIn_wide.2 (num_any ((i : Int) + 1) k _ (by omega))).mono ?_; rintro e w1 ⟨v1, rfl, o1, k1⟩; rw [e2] at o1; have hj1 := HJ.out i Y Y wr w1 hj hyb (Step.of_kp k1) (fun _ h => .inl h); have hb1 := k1.cell hb; have hyb1 : ∀ j, Y j → W.heap.size ≤ j ∧ j < w1.heap.size := (fun j h => ⟨(hyb j h).1, Nat.lt_of_lt_of_le (hyb j h).2 k1.size⟩); have hw1 := hhw.trans (Held.of_kp k1); have hs1 := k1.size; obtain ⟨fn, tmps, assign, body, hy, hR⟩ := HY.out i Y w1 v1 4 hlt hj1 hyb1 hw1 o1.rd)
      clear hj hb hyb hhw o1
      refine hR.mono ?_
      rintro e w2 ⟨hh2, (⟨rfl, hj2⟩ | ⟨rfl, hx2⟩)⟩
      · have hb2 := hh2.cell hb1 (.inr rfl)
        clear hy hR hb1
        gi_wp2
        go_roundw
        case rel => exact ⟨i + 1, Y, by omega, by go_num, hb2, hw1.trans (hh2.mono (fun _ h => .inr h)), hj2, fun j h => ⟨(hyb1 j h).1, Nat.lt_of_lt_of_le (hyb1 j h).2 hh2.size⟩, by have := hh2.size; omega⟩
        case measure => simp [intOf]; omega
      · clear hy hR hb1
        gi_wp2
        refine bodyPost_ret (results_none rfl _ _ _) rfl ?_
        exact ⟨⟨_, rfl⟩, Y, fun j h => ⟨(hyb1 j h).1, Nat.lt_of_lt_of_le (hyb1 j h).2 hh2.size⟩, .inr ⟨i, hlt, hx2⟩⟩
    · obtain rfl : i = N := by omega
      have e1 := HE.out
      gi_wp2_with (refine ⟨trivial, ?_⟩; gi_at_call 68; refine (callsIn_wide.2 (num_any ((i : Int) + 1) k _ (by omega))).mono ?_; rintro e w1 ⟨v1, rfl, o1, k1⟩)
      refine ⟨fun _ h => (by cases h), ?_⟩
      gi_wp2
      refine bodyPost_ret (results_none rfl _ _ _) rfl ?_
      exact ⟨⟨_, rfl⟩, Y, fun j h => ⟨(hyb j h).1, Nat.lt_of_lt_of_le (hyb j h).2 k1.size⟩, .inl (HJ.out i Y Y wr w1 hj hyb (Step.of_kp k1) (fun _ h => .inl h))⟩
end Go.Proofs.YtigpgcjbpoaclaaGreatDoor

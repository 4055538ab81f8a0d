import Derived.Test.YtigpgcjbpoaclaaGreatDoorB18
import Derived.Test.YtigpgcjbpoaclaaGreatDoorB19
import Derived.Test.YtigpgcjbpoaclaaGreatDoorB22
set_option linter.unusedVariables false
set_option linter.unusedSimpArgs false
namespace Go.Proofs.YtigpgcjbpoaclaaGreatDoor
open Go.RowKit Go.Shelf
attribute [local go_sem] Oper.semAt_some
def In (p : Nat → Prop) (v : Value) : Prop := ∀ b o n c, v = .slice (some ⟨b, o, none⟩) n c → p b
theorem Rd.step {Y : Nat → Prop} {A B : World} {v : Value} {l : List UInt8} (h : Rd A v l) (hs : Step Y A B) (hx : In (fun b => ¬ Y b) v) : Rd B v l :=
  h.held (R := fun b => ¬ Y b) ⟨hs.size, fun k hk hr => hs.block k hk hr⟩ hx
theorem Rd.heldAll {w B : World} {v : Value} {l : List UInt8} (h : Rd w v l) (hs : Held (fun j => j < w.heap.size) w B) : Rd B v l := by
  obtain ⟨a, c, rfl, h1, h2, h3, h4⟩ := h
  exact ⟨a, c, rfl, h1, h2, h3, fun x hx i hi => hs.cell (h4 x hx i hi) (World.block_lt_of_cell? w _ (h4 x hx i hi))⟩
theorem One.heldAll {T : TypeId} {w B : World} {p : Nat} {v : Value} (h : One T w p v) (hs : Held (fun j => j < w.heap.size) w B) : One T B p v := h.held hs h.lt
theorem RL.lit3 {w : World} {T : TypeId} {v1 v2 v3 : Value} {l1 l2 l3 : List UInt8} (h1 : Rd w v1 l1) (h2 : Rd w v2 l2) (h3 : Rd w v3 l3) : RL (w.alloc (.cells #[v1, v2, v3] T)) (.slice (some ⟨w.heap.size, 0, none⟩) 3 3) [l1, l2, l3] :=
  RL.cons (us := [v2, v3]) (ls := [l2, l3]) (World.ownsRow_lit w #[v1, v2, v3] 3 (Nat.le_refl _) (by unfold maxLen; omega) rfl) (h1.kp ((Kp.refl _).alloc _)) rfl (fun i hi => by
    have hi2 : i < 2 := by simpa using hi
    match i, hi2 with
    | 0, _ => exact h2.kp ((Kp.refl _).alloc _)
    | 1, _ => exact h3.kp ((Kp.refl _).alloc _))
set_option maxHeartbeats 1000000 in
theorem expanded_any (vk vi : Value) (k info : List UInt8) (w : World) (hk : Rd w vk k) (hkl : k.length ≤ 2000) (hv : ∃ a n c, vi = .slice a n c) :
    Calls Tryz.prog 82 #[vk, vi] w fun e w' => (∃ gK, e = .returned (.func (.func 89) #[] #[.pointer (some ⟨w.heap.size, 0, none⟩), .pointer (some ⟨w.heap.size + 1, 0, none⟩)]) ∧
      One 22 w' w.heap.size (.slice (some ⟨gK, 0, none⟩) 64 64) ∧ One 22 w' (w.heap.size + 1) vi ∧ By 5 w' gK (keyB k)) ∧ Kp w w' := by
  obtain ⟨ai, ni, ci, rfl⟩ := hv
  obtain ⟨ak, ck, rfl, _, _⟩ := hk.shape
  have HA : Hid (One 22 (w.alloc (.cells #[.slice ak k.length ck] 22)) w.heap.size (.slice ak k.length ck)) := One.new _ _ _
  have HB : Hid (One 22 ((w.alloc (.cells #[.slice ak k.length ck] 22)).alloc (.cells #[.slice ai ni ci] 22)) (w.heap.size + 1) (.slice ai ni ci)) := by
    have := One.new 22 (w.alloc (.cells #[.slice ak k.length ck] 22)) (.slice ai ni ci)
    rwa [World.size_alloc] at this
  go_enter Tryz.func82, Tryz.ntmps82
  go_wp2_with (go_at_call 88; refine (mac_key _ k _ (hk.kp (((Kp.refl w).alloc _).alloc _)) hkl).mono ?_; rintro e w1 ⟨⟨gK, rfl, b1, hge⟩, k1⟩; have h1 := (HA.out.kp ((Kp.refl _).alloc _)).kp k1; have h2 := HB.out.kp k1; have c1 := h1.cell; have f1 := h1.frozen)
  go_ret
  rw [World.size_alloc, World.size_alloc] at hge
  have hst : Step (fun k => k = w.heap.size) w1 (w1.setCell ⟨w.heap.size, 0, none⟩ (.slice (some ⟨gK, 0, none⟩) 64 64)) := (Step.refl _ w1).setCell _ _ (.inr rfl)
  exact ⟨⟨gK, rfl, h1.set _, h2.step hst (by omega), (hst.block gK b1.lt (by omega)).trans b1⟩, Below.setCell (Below.trans (((Kp.refl w).alloc _).alloc _) (k1.mono (by simp; omega))) (by simp) _⟩
set_option maxRecDepth 100000 in
set_option maxHeartbeats 4000000 in
theorem expanded_hands (b1 b2 gK : Nat) (vi : Value) (k info : List UInt8) (w : World) (h1 : One 22 w b1 (.slice (some ⟨gK, 0, none⟩) 64 64)) (h2 : One 22 w b2 vi) (h3 : By 5 w gK (keyB k)) (h4 : Rd w vi info)
    (hkl : k.length ≤ 2000) (hil : info.length ≤ 1800) :
    Hands Tryz.prog 89 #[.pointer (some ⟨b1, 0, none⟩), .pointer (some ⟨b2, 0, none⟩)] (fun i v Y A => Rd A v (expT k info i) ∧ In Y v) 255 (fun j => j < w.heap.size) w := by
  intro l J Jx W hh hl1 hl2 hJ hJx hY h0
  have HJ := Lib.hid hJ
  have HJx := Lib.hid hJx
  have HY := Lib.hid hY
  have HK := Lib.hid (keyB_length k)
  have HP := Lib.hid (expP_length k info)
  have HS : Hid (∀ i, macB (keyB k) (expP k info i ++ info ++ be 1 (i + 1)) = expT k info i) := fun i => by rw [macB_key, expT_step]
  have HE : Hid (∀ i, expP k info (i + 1) = expT k info i) := fun _ => rfl
  have HB := Lib.hid (fun i => be_length 1 (i + 1))
  have hw := hh.size
  obtain ⟨ai, ci, rfl, qi1, qi2⟩ := h4.shape
  have HI : Hid (One 22 w b2 (.slice ai info.length ci) ∧ Rd w (.slice ai info.length ci) info ∧ One 22 w b1 (.slice (some ⟨gK, 0, none⟩) 64 64) ∧ Rd w (.slice (some ⟨gK, 0, none⟩) 64 64) (keyB k)) :=
    ⟨h2, h4, h1, h3.rdAll (by rw [HK.out]) (Nat.le_refl _) (by unfold maxLen; omega)⟩
  clear hJ hJx hY h1 h2 h3 h4
  refine (callsIn_wide (n := 4)).1 ?_
  refine callsIn_of_wp_marks Tryz.func89 rfl trivial ?_ rfl
  refine wpIn_wide.2 ?_
  simp only [Tryz.ntmps89, List.append_toArray, List.append_nil, List.size_toArray, List.length_cons, List.length_nil, Nat.reduceAdd, Nat.reduceSub, Array.replicate_succ, Array.replicate_zero, List.push_toArray, List.nil_append, List.cons_append]
  go_wp2_with (go_at_call 90; refine (places_any 1 _).mono ?_; rintro e w1 ⟨rfl, hw1⟩)
  have hs1 : w1.heap.size = W.heap.size + 3 := by rw [← hw1]; simp
  have e3 : One 113 w1 W.heap.size (.func (.yield l) #[] #[]) := by rw [← hw1]; exact ((One.new _ _ _).kp ((Kp.refl _).alloc _)).kp ((Kp.refl _).alloc _)
  have e4 : One 22 w1 (W.heap.size + 1) (.slice none 0 0) := by
    have := (One.new 22 (W.alloc (.cells #[.func (.yield l) #[] #[]] 113)) (.slice none 0 0)).kp ((Kp.refl _).alloc (.cells #[.int .i64 ((1 : Nat) : Int)] 3))
    rw [World.size_alloc, hw1] at this
    exact this
  have e5 : One 3 w1 (W.heap.size + 1 + 1) (.int .i64 ((1 : Nat) : Int)) := by
    have := One.new 3 ((W.alloc (.cells #[.func (.yield l) #[] #[]] 113)).alloc (.cells #[.slice none 0 0] 22)) (.int .i64 ((1 : Nat) : Int))
    rw [World.size_alloc, World.size_alloc, hw1] at this
    exact this
  have kW : Kp W w1 := by rw [← hw1]; exact (((Kp.refl W).alloc _).alloc _).alloc _
  clear hw1
  refine wp_range_hands (R := fun j => j = W.heap.size + 1 + 1) rfl (enters_of Tryz.func97 (by kernel_rfl) rfl) (Kp.refl _) (fun j hj => by omega) (places_hands 1 255 (W.heap.size + 1 + 1) w1 (by omega) rfl e5.cell) rfl
    (fun i Y A => ∃ Yo, J i Yo A ∧ (∀ j, Y j → Yo j) ∧ (∀ j, Yo j → W.heap.size ≤ j ∧ j < A.heap.size) ∧ Yo W.heap.size ∧ Yo (W.heap.size + 1) ∧ Yo (W.heap.size + 1 + 1) ∧ One 113 A W.heap.size (.func (.yield l) #[] #[]) ∧
      (∃ v, One 22 A (W.heap.size + 1) v ∧ Rd A v (expP k info i) ∧ In (fun b => Yo b ∧ ¬ Y b) v) ∧ Held (fun j => j < w.heap.size) w A)
    (fun c i Y A => c = .ret ∧ ∃ Yo, Jx i Yo A ∧ (∀ j, Y j → Yo j) ∧ (∀ j, Yo j → W.heap.size ≤ j ∧ j < A.heap.size) ∧ Yo W.heap.size)
    ?mI ?mIx ?TT ⟨fun j => W.heap.size ≤ j ∧ j < w1.heap.size, HJ.out 0 _ _ W w1 h0 (fun _ h => h.elim) (Step.of_kp kW) (fun j hj => .inr hj), fun _ h => h.elim, fun _ h => h, by omega, by omega, by omega, e3, ⟨_, e4, rd_nil _, fun b o n c e => by cases e⟩, hh.trans (Held.of_kp kW)⟩
    (fun v a' _ => a' = { tmps := #[.func (.yield l) #[] #[], .pointer (some ⟨b1, 0, none⟩), .pointer (some ⟨b2, 0, none⟩), .pointer (some ⟨W.heap.size, 0, none⟩), .pointer (some ⟨W.heap.size + 1, 0, none⟩), v, .func (.func 97) #[] #[.pointer (some ⟨W.heap.size + 1 + 1, 0, none⟩)], v, undef, undef, undef, undef, undef, undef, undef, undef, undef, undef], defers := [] })
    (fun _ _ _ _ _ _ h _ _ => h) ?assign ?body ?done ?stop
  case mI =>
    rintro i Y Y' A B ⟨Yo, hj, hyo, hyb, y3, y4, y5, o3, ⟨v, o4, hr, hv⟩, hR⟩ hY hs hg
    have hsz := hs.size
    have hn : ∀ j, Y j → W.heap.size + 3 ≤ j := fun j h => by have := (hY j h).1; omega
    refine ⟨fun j => Yo j ∨ Y' j, HJ.out i Yo _ A B hj hyb (hs.mono hyo) (fun j h => h.elim .inl (fun h => (hg j h).imp (hyo j) id)), fun j h => .inr h, fun j h => ?_, .inl y3, .inl y4, .inl y5, o3.step hs (fun e => by have := hn _ e; omega), ⟨v, o4.step hs (fun e => by have := hn _ e; omega), hr.step hs (fun b o n c e => (hv b o n c e).2), fun b o n c e => ⟨.inl (hv b o n c e).1, fun h => ?_⟩⟩, hR.trans (Held.of_step hs (fun j hj h => by have := hn j h; omega))⟩
    · rcases h with h | h
      · have := hyb j h; omega
      · rcases hg j h with h | h
        · have := hyb j (hyo j h); omega
        · have := (hyb _ y3).2; omega
    · rcases hg b h with h | h
      · exact (hv b o n c e).2 h
      · have := (hyb b (hv b o n c e).1).2; omega
  case mIx =>
    rintro c i Y Y' A B ⟨hc, Yo, hj, hyo, hyb, y3⟩ hY hs hg
    have hsz := hs.size
    refine ⟨hc, fun j => Yo j ∨ Y' j, HJx.out i Yo _ A B hj hyb (hs.mono hyo) (fun j h => h.elim .inl (fun h => (hg j h).imp (hyo j) id)), fun j h => .inr h, fun j h => ?_, .inl y3⟩
    rcases h with h | h
    · have := hyb j h; omega
    · rcases hg j h with h | h
      · have := hyb j (hyo j h); omega
      · have := (hyb _ y3).2; omega
  case TT =>
    rintro i v Yi Y A A' l' o hr _ _ _ hl hs
    exact hr.turn hl rfl hs
  case assign =>
    intro l' i Y Yi v A K hI hT hK
    gi_wp2
    exact hK _ _ (Kp.refl _) rfl
  case body =>
    rintro l' i Y v a' A hi ⟨Yo, hj, hyo, hyb, y3, y4, y5, o3, ⟨vb, o4, hr, hvb⟩, hR⟩ hYb hRA hT rfl
    obtain ⟨i1, i2, i3, i4⟩ := HI.out
    obtain ⟨av, cv, rfl, _, _⟩ := hT.shape
    obtain ⟨ab, cb, rfl, _, _⟩ := hr.shape
    obtain ⟨nv, hnv⟩ : ∃ nv, (be 1 (i + 1)).length = nv := ⟨_, rfl⟩
    obtain ⟨nb, hnb⟩ : ∃ nb, (expP k info i).length = nb := ⟨_, rfl⟩
    rw [hnv] at hT ⊢
    rw [hnb] at hr o4 hvb
    clear hnv hnb
    have p1 := (i3.heldAll hR).cell
    have p2 := (i1.heldAll hR).cell
    have p3 := o3.cell
    have p4 := o4.cell
    have f4 := o4.frozen
    have hfl : ([expP k info i, info, be 1 (i + 1)] : List (List UInt8)).flatten = expP k info i ++ info ++ be 1 (i + 1) := by simp
    have hT1 := HS.out i
    have q0 := HP.out i
    have q3 := HB.out i
    have hfll : ([expP k info i, info, be 1 (i + 1)] : List (List UInt8)).flatten.length ≤ 1900 := by rw [hfl, List.length_append, List.length_append, q3]; omega
    have hmac := Lib.hid (fun T => mac_all (.slice (some ⟨gK, 0, none⟩) 64 64) (.slice (some ⟨A.heap.size, 0, none⟩) 3 3) (keyB k) [expP k info i, info, be 1 (i + 1)] (A.alloc (.cells #[.slice ab nb cb, .slice ai info.length ci, .slice av nv cv] T)) ((i4.heldAll hR).kp ((Kp.refl _).alloc _)) (RL.lit3 hr (i2.heldAll hR) hT) (by rw [HK.out]; omega) hfll (by simp))
    rw [hfl, hT1] at hmac
    have HYat : ∀ (T : TypeId) (w3 : World) (a c : _), Ow 5 w3 (A.heap.size + 1) (.slice a 32 c) (expT k info i) → Kp (A.alloc (.cells #[.slice ab nb cb, .slice ai info.length ci, .slice av nv cv] T)) w3 → ∀ m, ∃ Y2 : Nat → Prop, (∀ j, Yo j → Y2 j) ∧ (∀ j, Y2 j → W.heap.size ≤ j ∧ j < w3.heap.size) ∧ In (fun b => Y2 b ∧ ¬ Y b) (.slice a 32 c) ∧ Rd (w3.setCell ⟨W.heap.size + 1, 0, none⟩ (.slice a 32 c)) (.slice a 32 c) (expT k info i) ∧
        Step Yo A (w3.setCell ⟨W.heap.size + 1, 0, none⟩ (.slice a 32 c)) ∧
        YieldAt Fence.wide m Tryz.prog l #[.slice a 32 c] (w3.setCell ⟨W.heap.size + 1, 0, none⟩ (.slice a 32 c)) fun e B => Held (fun j => Y2 j ∨ j < w.heap.size) (w3.setCell ⟨W.heap.size + 1, 0, none⟩ (.slice a 32 c)) B ∧ ((e = .returned (.bool true) ∧ J (i + 1) Y2 B) ∨ (e = .returned (.bool false) ∧ Jx i Y2 B)) := by
      intro T w3 a c ow kp m
      have hkA : Kp A w3 := ((Kp.refl A).alloc _).trans kp
      have hzA := kp.size
      rw [World.size_alloc] at hzA
      have hst : Step Yo A (w3.setCell ⟨W.heap.size + 1, 0, none⟩ (.slice a 32 c)) := (Step.of_kp hkA).setCell _ _ (.inr y4)
      have hin : In (fun b => (Yo b ∨ (A.heap.size ≤ b ∧ b < w3.heap.size)) ∧ ¬ Y b) (.slice a 32 c) := fun b o n c' e => by
        have e2 : (Value.slice a 32 c).ownBlock = some b := by rw [e]; rfl
        have h1 := ow.own_ge b e2
        have h2 := ow.lt b e2
        exact ⟨.inr (by omega), fun h => by have := (hyb b (hyo b h)).2; omega⟩
      have hrd : Rd (w3.setCell ⟨W.heap.size + 1, 0, none⟩ (.slice a 32 c)) (.slice a 32 c) (expT k info i) :=
        ow.rd.step (Y := fun b => b = W.heap.size + 1) ((Step.refl _ _).setCell _ _ (.inr rfl)) (fun b o n c' e h => by
          have e2 : (Value.slice a 32 c).ownBlock = some b := by rw [e]; rfl
          have h1 := ow.own_ge b e2
          have h2 := (hyb _ y4).2
          omega)
      have hbd : ∀ j, (Yo j ∨ (A.heap.size ≤ j ∧ j < w3.heap.size)) → W.heap.size ≤ j ∧ j < w3.heap.size := fun j h => by
        have := (hyb _ y4).2
        rcases h with h | h
        · have := hyb j h; omega
        · omega
      refine ⟨fun j => Yo j ∨ (A.heap.size ≤ j ∧ j < w3.heap.size), fun j h => .inl h, hbd, hin, hrd, hst, ?_⟩
      refine HY.out i _ _ _ m hi (HJ.out i Yo _ A _ hj hyb hst (fun j h => h.imp id (fun h => by simpa using h))) (fun j h => by simpa using hbd j h) (hR.trans (Held.of_step hst (fun j hj h => by have := hyb j h; omega))) ⟨hrd, fun b o n c' e => (hin b o n c' e).1⟩
    have HYA := Lib.hid HYat
    clear hT1 q0 q3 hfl hfll hT HYat
    gi_wp2_with (refine ⟨trivial, ?_⟩; gi_at_call 91; refine (CallsIn.inRound l' (callsIn_wide.2 (hmac.out _))).mono ?_; rintro e w3 ⟨⟨a3, c3, rfl, ow⟩, k3⟩; rw [World.size_alloc] at ow; have d4 := ((o4.kp ((Kp.refl A).alloc _)).kp k3); have d3 := ((o3.kp ((Kp.refl A).alloc _)).kp k3).cell; have d4c := d4.cell; have d4f := d4.frozen; obtain ⟨Y2, g1, g2, g3, g4, g5, fn, tmps, assign, body, hy, hRd⟩ := HYA.out _ w3 a3 c3 ow k3 3)
    have hz3 := k3.size
    rw [World.size_alloc] at hz3
    have hy4 := (hyb _ y4).2
    have hkA : Kp A w3 := ((Kp.refl A).alloc _).trans k3
    obtain ⟨W4, hW4⟩ : ∃ W4, w3.setCell ⟨W.heap.size + 1, 0, none⟩ (.slice a3 32 c3) = W4 := ⟨_, rfl⟩
    have o44 : One 22 W4 (W.heap.size + 1) (.slice a3 32 c3) := by rw [← hW4]; exact d4.set _
    have hA4 : ∀ j, j < A.heap.size → j ≠ W.heap.size + 1 → W4.heap[j]? = A.heap[j]? := fun j h1 h2 => by
      rw [← hW4]
      exact (Below.heap_setCell w3 _ _ j (by simpa using h2)).trans (hkA.block j h1)
    have o34 : One 113 W4 W.heap.size (.func (.yield l) #[] #[]) := (hA4 _ o3.lt (by omega)).trans o3
    have hz4 : W4.heap.size = w3.heap.size := by rw [← hW4]; simp
    rw [hW4] at hRd g4 g5 ⊢
    have hNY : ∀ j, Y j → W.heap.size + 3 ≤ j := fun j h => by have := (hYb j h).1; omega
    have hEE := HE.out i
    clear d4c d4f p1 p2 p3 p4 f4 hy d3 d4 hmac HYA hr hvb o4 o3 ow
    refine RoundIn.mono (F := Fence.wide.inRound l') hRd ?_
    rintro e B ⟨hB, (⟨rfl, hj2⟩ | ⟨rfl, hx2⟩)⟩
    · have hzB := hB.size
      have hfin : Held (fun j => Y j ∨ j = W.heap.size + 1 + 1) A B := ⟨by omega, fun j hj h => (hB.block j (by omega) (.inl (h.elim (fun h => g1 j (hyo j h)) (fun h => g1 j (h ▸ y5))))).trans (hA4 j hj (h.elim (fun h => by have := hNY j h; omega) (fun h => by omega)))⟩
      have hR2 : Held (fun j => j < w.heap.size) w B := (hR.trans (Held.of_step g5 (fun j hj h => by have := hyb j h; omega))).trans (hB.mono (fun j h => .inr h))
      have o4B := o44.held hB (.inl (g1 _ y4))
      have o3B := o34.held hB (.inl (g1 _ y3))
      have hrB : Rd B (.slice a3 32 c3) (expT k info i) := g4.held hB (fun b o n c e => .inl (g3 b o n c e).1)
      clear hB g4 g5 hA4 hRd
      gi_wp2
      exact .inl ⟨Y2, hj2, fun j h => g1 j (hyo j h), fun j h => by have := g2 j h; omega, g1 _ y3, g1 _ y4, g1 _ y5, _, o4B, hrB, g3⟩
    · have hzB := hB.size
      have hfin : Held (fun j => Y j ∨ j = W.heap.size + 1 + 1) A B := ⟨by omega, fun j hj h => (hB.block j (by omega) (.inl (h.elim (fun h => g1 j (hyo j h)) (fun h => g1 j (h ▸ y5))))).trans (hA4 j hj (h.elim (fun h => by have := hNY j h; omega) (fun h => by omega)))⟩
      clear hB g4 g5 hA4 hRd
      gi_wp2
      exact ⟨hfin, .inr ⟨_, rfl, rfl, Y2, hx2, fun j h => g1 j (hyo j h), fun j h => by have := g2 j h; omega, g1 _ y3⟩⟩
  case done =>
    rintro D Y W2 hD hYD hYb ⟨Yo, hj, hyo, hyb, y3, y4, y5, _⟩ hd
    go_wp2
    refine ⟨by simp, .inl ⟨_, _, rfl, run_takeDeferred hd, ?_⟩⟩
    refine ⟨_, results_none rfl _ _ _, ⟨_, rfl⟩, Yo, fun j h => by have := hyb j h; rw [size_putObj]; omega, .inl (HJ.out _ Yo Yo W2 _ hj hyb ((Step.refl _ _).putObj _ _ (.inr (hyo _ hYD))) (fun _ h => .inl h))⟩
  case stop =>
    rintro D c i Y W2 hD hYD hYb hi ⟨rfl, Yo, hx, hyo, hyb, y3⟩ hd
    go_wp2
    refine ⟨by simp, .inl ⟨_, _, rfl, run_takeDeferred hd, ?_⟩⟩
    refine ⟨_, results_none rfl _ _ _, ⟨_, rfl⟩, Yo, fun j h => by have := hyb j h; rw [size_putObj]; omega, .inr ⟨i, hi, HJx.out _ Yo Yo W2 _ hx hyb ((Step.refl _ _).putObj _ _ (.inr (hyo _ hYD))) (fun _ h => .inl h)⟩⟩
end Go.Proofs.YtigpgcjbpoaclaaGreatDoor

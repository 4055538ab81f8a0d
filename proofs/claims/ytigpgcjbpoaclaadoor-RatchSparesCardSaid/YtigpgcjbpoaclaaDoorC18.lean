import Derived.Test.YtigpgcjbpoaclaaDoorC15
import Derived.Test.YtigpgcjbpoaclaaDoorC17
set_option linter.unusedVariables false
set_option linter.unusedSimpArgs false
namespace Go.Proofs.YtigpgcjbpoaclaaDoor
open Go.RowKit Go.Shelf
attribute [local go_sem] Oper.semAt_some
theorem same_set8 {X : Nat → Prop} {A w : World} (h : Same X A w) {g : Nat} (hg : X g) (v0 v1 v2 v3 v4 v5 v6 v7 : Value) :
    Same X A ((((((((w.setCell ⟨g, 0, none⟩ v0).setCell ⟨g, 1, none⟩ v1).setCell ⟨g, 2, none⟩ v2).setCell ⟨g, 3, none⟩ v3).setCell ⟨g, 4, none⟩ v4).setCell ⟨g, 5, none⟩ v5).setCell ⟨g, 6, none⟩ v6).setCell ⟨g, 7, none⟩ v7) :=
  (((((((h.setCell ⟨g, 0, none⟩ v0 hg).setCell ⟨g, 1, none⟩ v1 hg).setCell ⟨g, 2, none⟩ v2 hg).setCell ⟨g, 3, none⟩ v3 hg).setCell ⟨g, 4, none⟩ v4 hg).setCell ⟨g, 5, none⟩ v5 hg).setCell ⟨g, 6, none⟩ v6 hg).setCell ⟨g, 7, none⟩ v7 hg
theorem arr_other8 {T : TypeId} {w : World} {k g : Nat} {l : List UInt32} (h : Arr T w k l) (hne : k ≠ g) (v0 v1 v2 v3 v4 v5 v6 v7 : Value) :
    Arr T ((((((((w.setCell ⟨g, 0, none⟩ v0).setCell ⟨g, 1, none⟩ v1).setCell ⟨g, 2, none⟩ v2).setCell ⟨g, 3, none⟩ v3).setCell ⟨g, 4, none⟩ v4).setCell ⟨g, 5, none⟩ v5).setCell ⟨g, 6, none⟩ v6).setCell ⟨g, 7, none⟩ v7) k l :=
  (((((((h.other ⟨g, 0, none⟩ v0 hne).other ⟨g, 1, none⟩ v1 hne).other ⟨g, 2, none⟩ v2 hne).other ⟨g, 3, none⟩ v3 hne).other ⟨g, 4, none⟩ v4 hne).other ⟨g, 5, none⟩ v5 hne).other ⟨g, 6, none⟩ v6 hne).other ⟨g, 7, none⟩ v7 hne
theorem pair0 (w : World) (T : TypeId) (x y : Value) : (w.alloc (.cells #[x, y] T)).cell? ⟨w.heap.size, 0, none⟩ = some x := by rw [cell_of_row _ _ 0 _ _ _ (heap_alloc_new w _)]; rfl
theorem pair1 (w : World) (T : TypeId) (x y : Value) : (w.alloc (.cells #[x, y] T)).cell? ⟨w.heap.size, 1, none⟩ = some y := by rw [cell_of_row _ _ 1 _ _ _ (heap_alloc_new w _)]; rfl
theorem ow_putObj {e : TypeId} {w : World} {B : Nat} {v : Value} {l : List UInt8} (h : Ow e w B v l) {D : Nat} (hD : D < B) (o : Obj) : Ow e (w.putObj D o) B v l := by
  refine ⟨h.1, ?_⟩
  rcases h.2 with hn | ⟨g, cap, cur, hv, hb, hg, rest⟩
  · exact .inl hn
  · exact .inr ⟨g, cap, cur, hv, hb, (World.putObj_heap_other (by omega)).trans hg, rest⟩
theorem size_put (w : World) (D : Nat) (o : Obj) : (w.putObj D o).heap.size = w.heap.size := by
  simp [World.putObj]
theorem rd_same {X : Nat → Prop} {A B : World} {v : Value} {l : List UInt8} (h : Rd A v l) (hs : Same X A B) (hx : ∀ b o c, v = .slice (some ⟨b, o, none⟩) l.length c → ¬ X b) : Rd B v l := by
  obtain ⟨a, c, rfl, h1, h2, h3, h4⟩ := h
  refine ⟨a, c, rfl, h1, h2, h3, fun x hx' i hi => ?_⟩
  have hc := h4 x hx' i hi
  subst hx'
  obtain ⟨b, o, spot⟩ := x
  have hsp := World.cell?_spot (h4 _ rfl 0 (by omega))
  have hsp' : spot = none := by simpa [Addr.add] using hsp
  subst hsp'
  exact (World.cell?_of_block (w := A) (hs.block _ (World.block_lt_of_cell? A _ hc) (by
    have : ((⟨b, o, none⟩ : Addr).add i).block = b := by unfold Addr.add; split <;> rfl
    rw [this]
    exact hx b o c rfl))).trans hc
theorem chunk_rd {w : World} {a : Option Addr} {n c : Nat} {l : List UInt8} (h : Rd w (.slice a n c) l) (i : Nat) (hi : 64 * i + 64 ≤ n) : Rd w (chunkV a i) ((l.drop (64 * i)).take 64) := by
  obtain ⟨b, o, rfl, _, _⟩ := h.at 0 (by omega)
  obtain ⟨hn, hnc, hcm⟩ := h.len
  have h1 := h.cutAt (64 * i) 64 hi (by omega)
  obtain ⟨a', c', e, e1, e2, e3, e4⟩ := h1
  have hl : ((l.drop (64 * i)).take 64).length = 64 := by simp; omega
  simp only [Value.slice.injEq] at e
  obtain ⟨rfl, _, rfl⟩ := e
  exact ⟨some ⟨b, o + 64 * i, none⟩, 64, by rw [hl]; rfl, by rw [hl]; exact Nat.le_refl _, by unfold maxLen; omega, fun h => (by cases h), e4⟩
set_option maxRecDepth 100000 in
set_option maxHeartbeats 4000000 in
theorem sum_own (v : Value) (l : List UInt8) (w : World) (h : Rd w v l) (hl : l.length ≤ 2000) :
    Calls Tryd.prog 86 #[v] w fun e w' => (∃ v', e = .returned v' ∧ Ow 5 w' w.heap.size v' (digest l)) ∧ Kp w w' := by
  have U := u8
  obtain ⟨a, c, rfl, h1, h2⟩ := h.shape
  unfold maxLen at h2
  obtain ⟨N, hN⟩ : ∃ N, l.length / 64 = N := ⟨_, rfl⟩
  have hwh : (l.length : Int) - (l.length : Int) % 64 = 64 * (N : Int) := by omega
  have hwh2 : (l.length : Int) - (l.length : Int).tmod 64 = 64 * (N : Int) := by rw [Int.tmod_eq_emod_of_nonneg (by omega)]; exact hwh
  have hN64 : 64 * N ≤ l.length := by omega
  have HN := Lib.hid hN
  clear hN
  refine (callsIn_wide (n := 6)).1 ?_
  refine callsIn_of_wp_marks Tryd.func86 rfl trivial ?_ rfl
  refine wpIn_wide.2 ?_
  simp only [Tryd.ntmps86, List.append_toArray, List.size_toArray, List.length_cons, List.length_nil, Nat.reduceAdd, Nat.reduceSub, Array.replicate_succ, Array.replicate_zero, List.push_toArray, List.nil_append, List.cons_append]
  go_wp2_with fail
  refine (keys_any _).mono ?_
  rintro e w1 ⟨rfl, hk1⟩
  go_wp2_with (refine wpList_store_arr' (by kernel_rfl) rfl rfl (.tmp 3) (.tmp 8) rfl w1.heap.size (zeros 64) keyL rfl rfl (Arr.new _ _ _ _ rfl) (zeros_length 64) rfl ?_; intro w2 hA2 hbut)
  have hkp2 : Kp w w2 := hbut.below (hk1.alloc _) hk1.size
  clear hbut
  refine (start_any _).mono ?_
  rintro e w3 ⟨rfl, hk3⟩
  have hA3 := hA2.kp hk3
  have hkp3 : Kp w w3 := hkp2.trans hk3
  clear hA2 hkp2 hk3
  go_wp2_with (refine wpList_store_arr' (by kernel_rfl) rfl rfl (.tmp 4) (.tmp 9) rfl w3.heap.size (zeros 8) startS.list rfl rfl (Arr.new _ _ _ _ rfl) rfl rfl ?_; intro w4 hR4 hbut4)
  have hA4 := hbut4.arr (hA3.alloc _) (by have := hA3.lt; omega)
  have hkp4 : Kp w w4 := hbut4.below (hkp3.alloc _) hkp3.size
  have hlt4 := hA4.lt
  have hlt4' := hR4.lt
  have hne : w3.heap.size ≠ w1.heap.size := by have := hA3.lt; omega
  have hle3 := hkp3.size
  clear hbut4 hA3 hkp3
  refine (chunk_any a (64 * N) c w4).mono ?_
  rintro e w5 ⟨rfl, hw5⟩
  have hb5 : Kp w4 w5 := by rw [← hw5]; exact ((Kp.refl _).alloc _).alloc _
  have hs5 : w5.heap.size = w4.heap.size + 2 := by rw [← hw5]; simp
  have hcb : w5.cell? ⟨w4.heap.size, 0, none⟩ = some (.slice a (64 * N) c) := by
    rw [← hw5, cell_of_row _ _ 0 _ _ _ ((Below.heap_alloc _ _ _ (by simp)).trans (heap_alloc_new w4 _))]; rfl
  have hcn : w5.cell? ⟨w4.heap.size + 1, 0, none⟩ = some (.int .i64 64) := by
    have := heap_alloc_new (w4.alloc (.cells #[.slice a (64 * N) c] 22)) (.cells #[.int .i64 64] 3)
    rw [World.size_alloc, hw5] at this
    rw [cell_of_row _ _ 0 _ _ _ this]; rfl
  have hA5 := hA4.kp hb5
  have hR5 := hR4.kp hb5
  have hkp5 : Kp w w5 := hkp4.trans hb5
  clear hw5 hA4 hR4 hkp4 hb5
  go_wp2_with fail
  refine wpIn_wide.1 (wpIn_range_on (F := Fence.wide) (n := 6) rfl (by omega) (gf := 99) (lb := #[.pointer (some ⟨w4.heap.size, 0, none⟩), .pointer (some ⟨w4.heap.size + 1, 0, none⟩)]) rfl trivial (enters_of Tryd.func99 (by kernel_rfl) rfl) (encs := fun i => #[chunkV a i]) (N := N) (X := fun k => k = w3.heap.size) (by omega)
    (chunk_it (6 - 1) (by omega) _ w5 a N c _ _ hcb hcn (fun e => by omega) (fun e => by omega) (by omega) (by unfold maxLen; omega) (fun h0 => by obtain ⟨b, o, e, _⟩ := h.at 0 (by omega); exact ⟨b, o, e⟩)) (fun _ => rfl)
    (fun i A => Arr 87 A w3.heap.size (blocks startS l i).list ∧ Arr 117 A w1.heap.size keyL ∧ Kp w A)
    (fun i A B h hb => ⟨h.1.below hb (by omega), h.2.1.below hb (by omega), Below.trans h.2.2 (hb.mono (by have := hkp5.size; omega))⟩)
    ⟨hR5, hA5, hkp5⟩ ?a1 ?assign ?body ?done)
  case assign =>
    intro l' i W K hK
    gi_wp2
    exact hK
  case body =>
    clear hR5 hA5 hcb hcn
    rintro l' i W ⟨hR, hA, hK⟩ hi
    have hpre : Rd w (.slice a (64 * N) c) (l.take (64 * N)) := by
      by_cases h0 : c = 0
      · have hl0 : l = [] := List.eq_nil_of_length_eq_zero (by omega)
        subst hl0
        have hN0 : 64 * N = 0 := by simp at hN64; omega
        rw [hN0]
        simpa using h
      · have := h.cut 0 (64 * N) (by omega) hN64 _ (64 * N) c rfl rfl rfl
        rw [if_neg h0] at this
        have e : a.map (fun x => x.add 0) = a := by cases a <;> simp [Addr.add]
        simpa [e] using this
    have hrd := chunk_rd hpre i (by omega)
    have hch : ((l.take (64 * N)).drop (64 * i)).take 64 = (l.drop (64 * i)).take 64 := by
      rw [List.drop_take, List.take_take, Nat.min_eq_left (by omega)]
    rw [hch] at hrd
    have hbs := blocks_succ startS l i
    have hbl : ((l.drop (64 * i)).take 64).length = 64 := by simp; omega
    obtain ⟨s, hs⟩ : ∃ s, blocks startS l i = s := ⟨_, rfl⟩
    obtain ⟨s', hs'⟩ : ∃ s', blocks startS l (i + 1) = s' := ⟨_, rfl⟩
    rw [hs'] at hbs ⊢
    rw [hs] at hbs hR
    have HS := Lib.hid (behind_any s (chunkV a i) ((l.drop (64 * i)).take 64) w1.heap.size keyL)
    rw [← hbs] at HS
    have HB := Lib.hid hbl
    obtain ⟨c0, c1, c2, c3, c4, c5, c6, c7⟩ := hR.cells8
    generalize chunkV a i = cv at *
    clear hs hs' hbs hbl hch hpre
    gi_wp2_with (refine ⟨trivial, ?_⟩; gi_at_call 92; refine (CallsIn.inRound l' (callsIn_wide.2 (HS.out _ (hrd.kp hK) HB.out hA rfl))).mono ?_; rintro e w7 ⟨rfl, hk7⟩; rw [agg8]; have hR7 := hR.kp hk7; obtain ⟨e0, e1, e2, e3, e4, e5, e6, e7⟩ := hR7.cells8; obtain ⟨f0, f1, f2, f3, f4, f5, f6, f7⟩ := hR7.frozen8)
    exact ⟨same_set8 (X := fun k => k = w3.heap.size) (Same.of_kp hk7) rfl _ _ _ _ _ _ _ _, hR7.set8 s', arr_other8 (hA.kp hk7) (Ne.symm hne) _ _ _ _ _ _ _ _, below_set8 (hK.trans hk7) hle3 _ _ _ _ _ _ _ _⟩
  case done =>
    clear hR5 hA5 hcb hcn
    rintro D W hD ⟨hR, hA, hK⟩ hd
    obtain ⟨s, hs⟩ : ∃ s, blocks startS l N = s := ⟨_, rfl⟩
    rw [hs] at hR
    have hpo := padOf_nat l.length hl
    have HPO := Lib.hid hpo
    have HSN := Lib.hid hs
    clear hs hpo
    obtain ⟨t1, ht1⟩ : ∃ t, l.drop (64 * N) = t := ⟨_, rfl⟩
    have htl : t1.length = l.length - 64 * N := by rw [← ht1]; simp
    have HT := Lib.hid ht1
    have hcut : ∃ a', Rd w (.slice a' (l.length - 64 * N) (c - 64 * N)) t1 ∧ a' = (if c = 64 * N then a else a.map (·.add (64 * N))) := by
      refine ⟨_, ?_, rfl⟩
      have := h.cut (64 * N) l.length hN64 (Nat.le_refl _) _ (l.length - 64 * N) (c - 64 * N) rfl rfl rfl
      rw [ht1, List.take_of_length_le (by omega)] at this
      exact this
    obtain ⟨a', hcut, ha'⟩ := hcut
    have hML := tail_whole l N HN.out.symm
    have hsplit := digest_split l N ((l.drop (64 * N) ++ pad l.length).length / 64) HN.out.symm hML
    rw [ht1] at hML hsplit
    obtain ⟨T, hTT⟩ : ∃ T, t1 ++ pad l.length = T := ⟨_, rfl⟩
    rw [hTT] at hML hsplit
    obtain ⟨M, hM⟩ : ∃ M, T.length / 64 = M := ⟨_, rfl⟩
    rw [hM] at hML hsplit
    have HML := Lib.hid hML.symm
    have HTM := Lib.hid hTT
    have HSP := Lib.hid hsplit
    clear ht1 hML hsplit hTT hM
    by_cases hcap : c = 64 * N
    · subst hcap
      rw [if_pos rfl] at ha'
      subst ha'
      rw [show l.length - 64 * N = 0 by omega, Nat.sub_self] at hcut
      have hM := pad_length l.length
      have hfl := fill_lt l.length
      have hpb : (pad l.length).length ≤ 100 := by omega
      have hpb2 : 0 < (pad l.length).length := by omega
      clear hM hfl
      go_wp2_with fail
      refine wp_region_noPanic ?_
      go_region_with (first
        | (go_at_call 93; refine (pad_any _ _).mono ?_; rintro e w6 ⟨⟨vp, rfl, hrp⟩, hk6⟩; rw [HPO.out] at hrp; obtain ⟨ap, cp, rfl, hp1, hp2⟩ := hrp.shape)
        | (go_at_call 77; refine (concat_any w6.heap.size 2 _ _ t1 (pad l.length) _ (pair0 _ _ _ _) (pair1 _ _ _ _) ((hcut.kp ((hK.drew.trans hk6).alloc _))) (hrp.kp ((Kp.refl _).alloc _)) (by omega) (by omega)).mono ?_; rintro e w7 ⟨⟨vc, rfl, hoc⟩, hk7⟩; rw [HTM.out] at hoc; obtain ⟨ac, cc, rfl, hcc1, hcc2⟩ := hoc.rd.shape; rw [HML.out] at hoc hcc1 ⊢)
        | (go_at_call 91; refine (chunk_any _ _ _ _).mono ?_; rintro e w8 ⟨rfl, hw8⟩))
      · refine NoPanic.normal ?_
        have hk78 : Kp w7 w8 := by rw [← hw8]; exact ((Kp.refl _).alloc _).alloc _
        have hs8 : w8.heap.size = w7.heap.size + 2 := by rw [← hw8]; simp
        have hcb : w8.cell? ⟨w7.heap.size, 0, none⟩ = some (.slice ac (64 * M) cc) := by
          rw [← hw8, cell_of_row _ _ 0 _ _ _ ((Below.heap_alloc _ _ _ (by simp)).trans (heap_alloc_new w7 _))]; rfl
        have hcn : w8.cell? ⟨w7.heap.size + 1, 0, none⟩ = some (.int .i64 64) := by
          have := heap_alloc_new (w7.alloc (.cells #[.slice ac (64 * M) cc] 22)) (.cells #[.int .i64 64] 3)
          rw [World.size_alloc, hw8] at this
          rw [cell_of_row _ _ 0 _ _ _ this]; rfl
        have hkW : Kp W w8 := ((((Kp.refl W).drew.trans hk6).alloc _).trans hk7).trans hk78
        have hrT : Rd w8 (.slice ac (64 * M) cc) T := hoc.rd.kp hk78
        have hR8 := hR.kp hkW
        have hA8 := hA.kp hkW
        have hK8 : Kp w w8 := hK.trans hkW
        have hd8 := (hkW.block D (Array.getElem?_eq_some_iff.1 hd).1).trans hd
        have hDW : D < W.heap.size := (Array.getElem?_eq_some_iff.1 hd).1
        have hW8 := hkW.size
        have hR8lt := hR8.lt
        have hA8lt := hA8.lt
        have hRW := hR.lt
        have hz1 := hk6.size
        have hz2 := hk7.size
        have h67 : W.heap.size ≤ w7.heap.size := by simp at hz1 hz2; omega
        have hoc_blk : ∀ b o, ac = some ⟨b, o, none⟩ → w3.heap.size < b := fun b o e => by
          have := hoc.own_ge b (by rw [e]; rfl)
          simp at this hz1
          omega
        have HOC := Lib.hid hoc_blk
        clear hoc hw8 hk6 hk7 hrp hk78 hoc_blk
        go_wp2_with fail
        refine wpIn_wide.1 (wpIn_range_on (F := Fence.wide) (n := 6) rfl (by omega) (gf := 99) (lb := #[.pointer (some ⟨w7.heap.size, 0, none⟩), .pointer (some ⟨w7.heap.size + 1, 0, none⟩)]) rfl trivial (enters_of Tryd.func99 (by kernel_rfl) rfl) (encs := fun i => #[chunkV ac i]) (N := M) (X := fun k => k = w3.heap.size) (by omega)
          (chunk_it (6 - 1) (by omega) _ w8 ac M cc _ _ hcb hcn (fun e => by omega) (fun e => by omega) hcc1 hcc2 (fun h0 => by obtain ⟨b, o, e, _⟩ := hrT.at 0 (by omega); exact ⟨b, o, e⟩)) (fun _ => rfl)
          (fun i A => Arr 87 A w3.heap.size (blocks s T i).list ∧ Arr 117 A w1.heap.size keyL ∧ Kp w A ∧ A.heap[D]? = some (.deferred (some [])) ∧ Same (fun k => k = w3.heap.size) w8 A)
          (fun i A B h hb => ⟨h.1.below hb (by omega), h.2.1.below hb (by omega), Below.trans h.2.2.1 (hb.mono (by have := hK8.size; omega)), (hb.block D (by omega)).trans h.2.2.2.1, Nat.le_trans h.2.2.2.2.size hb.size, fun k hk hn => (hb.block k hk).trans (h.2.2.2.2.block k hk hn)⟩)
          ⟨hR8, hA8, hK8, hd8, Same.refl _ _⟩ ?a11 ?assign1 ?body1 ?done21)
        case assign1 =>
          intro l' i W K hK
          gi_wp2
          exact hK
        case body1 =>
          clear hR8 hA8 hcb hcn hd8
          rintro l' i W9 ⟨hR9, hA9, hK9, hd9, hsm⟩ hi
          obtain ⟨sv, hsv⟩ : ∃ x, blocks s T i = x := ⟨_, rfl⟩
          obtain ⟨s', hs'⟩ : ∃ s', blocks s T (i + 1) = s' := ⟨_, rfl⟩
          have hbs := blocks_succ s T i
          have hTl := HML.out
          have hbl : ((T.drop (64 * i)).take 64).length = 64 := by rw [List.length_take, List.length_drop]; omega
          obtain ⟨b1, o1, hac, _⟩ := hrT.at 0 (by omega)
          have hb1 := HOC.out b1 o1 hac
          have hrd9 : Rd W9 (chunkV ac i) ((T.drop (64 * i)).take 64) := rd_same (chunk_rd hrT i (by omega)) hsm (fun b o' c' e => by rw [hac] at e; simp [chunkV] at e; omega)
          rw [hs', hsv] at hbs
          rw [hs']
          rw [hsv] at hR9
          have HS := Lib.hid (behind_any sv (chunkV ac i) ((T.drop (64 * i)).take 64) w1.heap.size keyL)
          rw [← hbs] at HS
          have HB := Lib.hid hbl
          obtain ⟨c0, c1, c2, c3, c4, c5, c6, c7⟩ := hR9.cells8
          generalize chunkV ac i = cv at *
          clear hs' hsv hbs hbl hTl
          gi_wp2_with (refine ⟨trivial, ?_⟩; gi_at_call 92; refine (CallsIn.inRound l' (callsIn_wide.2 (HS.out _ hrd9 HB.out hA9 rfl))).mono ?_; rintro e wz ⟨rfl, hkz⟩; rw [agg8]; have hRz := hR9.kp hkz; obtain ⟨e0, e1, e2, e3, e4, e5, e6, e7⟩ := hRz.cells8; obtain ⟨f0, f1, f2, f3, f4, f5, f6, f7⟩ := hRz.frozen8)
          have hsz : Same (fun k => k = w3.heap.size) W9 _ := same_set8 (X := fun k => k = w3.heap.size) (Same.of_kp hkz) (g := w3.heap.size) rfl (.int .u32 (u s'.a)) (.int .u32 (u s'.b)) (.int .u32 (u s'.c)) (.int .u32 (u s'.d)) (.int .u32 (u s'.e)) (.int .u32 (u s'.f)) (.int .u32 (u s'.g)) (.int .u32 (u s'.h))
          exact ⟨hsz, hRz.set8 s', arr_other8 (hA9.kp hkz) (Ne.symm hne) _ _ _ _ _ _ _ _, below_set8 (hK9.trans hkz) hle3 _ _ _ _ _ _ _ _, (hsz.block D (by have := hsm.size; omega) (by omega)).trans hd9, hsm.trans hsz⟩
        case done21 =>
          clear hR8 hA8 hcb hcn hd8
          rintro D2 W9 hD2 ⟨hR9, hA9, hK9, hd9, hsm⟩ hd29
          have hdg := HSP.out
          rw [HSN.out] at hdg
          obtain ⟨sv, hsv⟩ : ∃ x, blocks s T M = x := ⟨_, rfl⟩
          rw [hsv] at hR9 hdg
          have HDG := Lib.hid hdg
          have hDW2 : D2 < W9.heap.size := (Array.getElem?_eq_some_iff.1 hd29).1
          have hDW9 : D < W9.heap.size := (Array.getElem?_eq_some_iff.1 hd9).1
          clear hsv hdg
          go_wp2_with (first
            | (refine wpList_load_arr Tryd.underlying87 (by kernel_rfl) rfl (.tmp 4) rfl w3.heap.size sv.list rfl hR9 rfl ?_)
            | (go_at_call 94; refine (wordBytes_any sv _).mono ?_; rintro e wz ⟨⟨vz, rfl, hoz⟩, hkz⟩))
          have hdz2 := (hkz.block D2 hDW2).trans hd29
          have hdz := (hkz.block D hDW9).trans hd9
          refine ⟨by simp, .inl ⟨_, _, rfl, run_takeDeferred hdz2, ?_⟩⟩
          refine ⟨by simp, .inl ⟨_, _, rfl, run_takeDeferred ((World.putObj_heap_other (by omega)).trans hdz), ?_⟩⟩
          refine ⟨_, results_tmp rfl _ _ _, ⟨_, rfl, ?_⟩, ?_⟩
          · rw [HDG.out]
            exact (ow_putObj (ow_putObj hoz hDW2 _) hDW9 _).mono hK9.size
          · have hw9 := hK9.size
            have hwz := hkz.size
            exact put_below (put_below (hK9.trans hkz) (by omega) (by omega) _) (by have := hkp5.size; omega) (by rw [size_put]; omega) _
      · refine NoPanic.normal ?_
        have hk78 : Kp w7 w8 := by rw [← hw8]; exact ((Kp.refl _).alloc _).alloc _
        have hs8 : w8.heap.size = w7.heap.size + 2 := by rw [← hw8]; simp
        have hcb : w8.cell? ⟨w7.heap.size, 0, none⟩ = some (.slice ac (64 * M) cc) := by
          rw [← hw8, cell_of_row _ _ 0 _ _ _ ((Below.heap_alloc _ _ _ (by simp)).trans (heap_alloc_new w7 _))]; rfl
        have hcn : w8.cell? ⟨w7.heap.size + 1, 0, none⟩ = some (.int .i64 64) := by
          have := heap_alloc_new (w7.alloc (.cells #[.slice ac (64 * M) cc] 22)) (.cells #[.int .i64 64] 3)
          rw [World.size_alloc, hw8] at this
          rw [cell_of_row _ _ 0 _ _ _ this]; rfl
        have hkW : Kp W w8 := ((((Kp.refl W).drew.trans hk6).alloc _).trans hk7).trans hk78
        have hrT : Rd w8 (.slice ac (64 * M) cc) T := hoc.rd.kp hk78
        have hR8 := hR.kp hkW
        have hA8 := hA.kp hkW
        have hK8 : Kp w w8 := hK.trans hkW
        have hd8 := (hkW.block D (Array.getElem?_eq_some_iff.1 hd).1).trans hd
        have hDW : D < W.heap.size := (Array.getElem?_eq_some_iff.1 hd).1
        have hW8 := hkW.size
        have hR8lt := hR8.lt
        have hA8lt := hA8.lt
        have hRW := hR.lt
        have hz1 := hk6.size
        have hz2 := hk7.size
        have h67 : W.heap.size ≤ w7.heap.size := by simp at hz1 hz2; omega
        have hoc_blk : ∀ b o, ac = some ⟨b, o, none⟩ → w3.heap.size < b := fun b o e => by
          have := hoc.own_ge b (by rw [e]; rfl)
          simp at this hz1
          omega
        have HOC := Lib.hid hoc_blk
        clear hoc hw8 hk6 hk7 hrp hk78 hoc_blk
        go_wp2_with fail
        refine wpIn_wide.1 (wpIn_range_on (F := Fence.wide) (n := 6) rfl (by omega) (gf := 99) (lb := #[.pointer (some ⟨w7.heap.size, 0, none⟩), .pointer (some ⟨w7.heap.size + 1, 0, none⟩)]) rfl trivial (enters_of Tryd.func99 (by kernel_rfl) rfl) (encs := fun i => #[chunkV ac i]) (N := M) (X := fun k => k = w3.heap.size) (by omega)
          (chunk_it (6 - 1) (by omega) _ w8 ac M cc _ _ hcb hcn (fun e => by omega) (fun e => by omega) hcc1 hcc2 (fun h0 => by obtain ⟨b, o, e, _⟩ := hrT.at 0 (by omega); exact ⟨b, o, e⟩)) (fun _ => rfl)
          (fun i A => Arr 87 A w3.heap.size (blocks s T i).list ∧ Arr 117 A w1.heap.size keyL ∧ Kp w A ∧ A.heap[D]? = some (.deferred (some [])) ∧ Same (fun k => k = w3.heap.size) w8 A)
          (fun i A B h hb => ⟨h.1.below hb (by omega), h.2.1.below hb (by omega), Below.trans h.2.2.1 (hb.mono (by have := hK8.size; omega)), (hb.block D (by omega)).trans h.2.2.2.1, Nat.le_trans h.2.2.2.2.size hb.size, fun k hk hn => (hb.block k hk).trans (h.2.2.2.2.block k hk hn)⟩)
          ⟨hR8, hA8, hK8, hd8, Same.refl _ _⟩ ?a12 ?assign2 ?body2 ?done22)
        case assign2 =>
          intro l' i W K hK
          gi_wp2
          exact hK
        case body2 =>
          clear hR8 hA8 hcb hcn hd8
          rintro l' i W9 ⟨hR9, hA9, hK9, hd9, hsm⟩ hi
          obtain ⟨sv, hsv⟩ : ∃ x, blocks s T i = x := ⟨_, rfl⟩
          obtain ⟨s', hs'⟩ : ∃ s', blocks s T (i + 1) = s' := ⟨_, rfl⟩
          have hbs := blocks_succ s T i
          have hTl := HML.out
          have hbl : ((T.drop (64 * i)).take 64).length = 64 := by rw [List.length_take, List.length_drop]; omega
          obtain ⟨b1, o1, hac, _⟩ := hrT.at 0 (by omega)
          have hb1 := HOC.out b1 o1 hac
          have hrd9 : Rd W9 (chunkV ac i) ((T.drop (64 * i)).take 64) := rd_same (chunk_rd hrT i (by omega)) hsm (fun b o' c' e => by rw [hac] at e; simp [chunkV] at e; omega)
          rw [hs', hsv] at hbs
          rw [hs']
          rw [hsv] at hR9
          have HS := Lib.hid (behind_any sv (chunkV ac i) ((T.drop (64 * i)).take 64) w1.heap.size keyL)
          rw [← hbs] at HS
          have HB := Lib.hid hbl
          obtain ⟨c0, c1, c2, c3, c4, c5, c6, c7⟩ := hR9.cells8
          generalize chunkV ac i = cv at *
          clear hs' hsv hbs hbl hTl
          gi_wp2_with (refine ⟨trivial, ?_⟩; gi_at_call 92; refine (CallsIn.inRound l' (callsIn_wide.2 (HS.out _ hrd9 HB.out hA9 rfl))).mono ?_; rintro e wz ⟨rfl, hkz⟩; rw [agg8]; have hRz := hR9.kp hkz; obtain ⟨e0, e1, e2, e3, e4, e5, e6, e7⟩ := hRz.cells8; obtain ⟨f0, f1, f2, f3, f4, f5, f6, f7⟩ := hRz.frozen8)
          have hsz : Same (fun k => k = w3.heap.size) W9 _ := same_set8 (X := fun k => k = w3.heap.size) (Same.of_kp hkz) (g := w3.heap.size) rfl (.int .u32 (u s'.a)) (.int .u32 (u s'.b)) (.int .u32 (u s'.c)) (.int .u32 (u s'.d)) (.int .u32 (u s'.e)) (.int .u32 (u s'.f)) (.int .u32 (u s'.g)) (.int .u32 (u s'.h))
          exact ⟨hsz, hRz.set8 s', arr_other8 (hA9.kp hkz) (Ne.symm hne) _ _ _ _ _ _ _ _, below_set8 (hK9.trans hkz) hle3 _ _ _ _ _ _ _ _, (hsz.block D (by have := hsm.size; omega) (by omega)).trans hd9, hsm.trans hsz⟩
        case done22 =>
          clear hR8 hA8 hcb hcn hd8
          rintro D2 W9 hD2 ⟨hR9, hA9, hK9, hd9, hsm⟩ hd29
          have hdg := HSP.out
          rw [HSN.out] at hdg
          obtain ⟨sv, hsv⟩ : ∃ x, blocks s T M = x := ⟨_, rfl⟩
          rw [hsv] at hR9 hdg
          have HDG := Lib.hid hdg
          have hDW2 : D2 < W9.heap.size := (Array.getElem?_eq_some_iff.1 hd29).1
          have hDW9 : D < W9.heap.size := (Array.getElem?_eq_some_iff.1 hd9).1
          clear hsv hdg
          go_wp2_with (first
            | (refine wpList_load_arr Tryd.underlying87 (by kernel_rfl) rfl (.tmp 4) rfl w3.heap.size sv.list rfl hR9 rfl ?_)
            | (go_at_call 94; refine (wordBytes_any sv _).mono ?_; rintro e wz ⟨⟨vz, rfl, hoz⟩, hkz⟩))
          have hdz2 := (hkz.block D2 hDW2).trans hd29
          have hdz := (hkz.block D hDW9).trans hd9
          refine ⟨by simp, .inl ⟨_, _, rfl, run_takeDeferred hdz2, ?_⟩⟩
          refine ⟨by simp, .inl ⟨_, _, rfl, run_takeDeferred ((World.putObj_heap_other (by omega)).trans hdz), ?_⟩⟩
          refine ⟨_, results_tmp rfl _ _ _, ⟨_, rfl, ?_⟩, ?_⟩
          · rw [HDG.out]
            exact (ow_putObj (ow_putObj hoz hDW2 _) hDW9 _).mono hK9.size
          · have hw9 := hK9.size
            have hwz := hkz.size
            exact put_below (put_below (hK9.trans hkz) (by omega) (by omega) _) (by have := hkp5.size; omega) (by rw [size_put]; omega) _
    · rw [if_neg hcap] at ha'
      cases a with
      | none =>
        obtain ⟨_, _, e, _, _, h3, _⟩ := h
        cases e
        have := h3 rfl
        omega
      | some x =>
      simp only [Option.map_some] at ha'
      subst ha'
      have hM := pad_length l.length
      have hfl := fill_lt l.length
      have hpb : (pad l.length).length ≤ 100 := by omega
      have hpb2 : 0 < (pad l.length).length := by omega
      clear hM hfl
      go_wp2_with fail
      refine wp_region_noPanic ?_
      go_region_with (first
        | (go_at_call 93; refine (pad_any _ _).mono ?_; rintro e w6 ⟨⟨vp, rfl, hrp⟩, hk6⟩; rw [HPO.out] at hrp; obtain ⟨ap, cp, rfl, hp1, hp2⟩ := hrp.shape)
        | (go_at_call 77; refine (concat_any w6.heap.size 2 _ _ t1 (pad l.length) _ (pair0 _ _ _ _) (pair1 _ _ _ _) ((hcut.kp ((hK.drew.trans hk6).alloc _))) (hrp.kp ((Kp.refl _).alloc _)) (by omega) (by omega)).mono ?_; rintro e w7 ⟨⟨vc, rfl, hoc⟩, hk7⟩; rw [HTM.out] at hoc; obtain ⟨ac, cc, rfl, hcc1, hcc2⟩ := hoc.rd.shape; rw [HML.out] at hoc hcc1 ⊢)
        | (go_at_call 91; refine (chunk_any _ _ _ _).mono ?_; rintro e w8 ⟨rfl, hw8⟩))
      · refine NoPanic.normal ?_
        have hk78 : Kp w7 w8 := by rw [← hw8]; exact ((Kp.refl _).alloc _).alloc _
        have hs8 : w8.heap.size = w7.heap.size + 2 := by rw [← hw8]; simp
        have hcb : w8.cell? ⟨w7.heap.size, 0, none⟩ = some (.slice ac (64 * M) cc) := by
          rw [← hw8, cell_of_row _ _ 0 _ _ _ ((Below.heap_alloc _ _ _ (by simp)).trans (heap_alloc_new w7 _))]; rfl
        have hcn : w8.cell? ⟨w7.heap.size + 1, 0, none⟩ = some (.int .i64 64) := by
          have := heap_alloc_new (w7.alloc (.cells #[.slice ac (64 * M) cc] 22)) (.cells #[.int .i64 64] 3)
          rw [World.size_alloc, hw8] at this
          rw [cell_of_row _ _ 0 _ _ _ this]; rfl
        have hkW : Kp W w8 := ((((Kp.refl W).drew.trans hk6).alloc _).trans hk7).trans hk78
        have hrT : Rd w8 (.slice ac (64 * M) cc) T := hoc.rd.kp hk78
        have hR8 := hR.kp hkW
        have hA8 := hA.kp hkW
        have hK8 : Kp w w8 := hK.trans hkW
        have hd8 := (hkW.block D (Array.getElem?_eq_some_iff.1 hd).1).trans hd
        have hDW : D < W.heap.size := (Array.getElem?_eq_some_iff.1 hd).1
        have hW8 := hkW.size
        have hR8lt := hR8.lt
        have hA8lt := hA8.lt
        have hRW := hR.lt
        have hz1 := hk6.size
        have hz2 := hk7.size
        have h67 : W.heap.size ≤ w7.heap.size := by simp at hz1 hz2; omega
        have hoc_blk : ∀ b o, ac = some ⟨b, o, none⟩ → w3.heap.size < b := fun b o e => by
          have := hoc.own_ge b (by rw [e]; rfl)
          simp at this hz1
          omega
        have HOC := Lib.hid hoc_blk
        clear hoc hw8 hk6 hk7 hrp hk78 hoc_blk
        go_wp2_with fail
        refine wpIn_wide.1 (wpIn_range_on (F := Fence.wide) (n := 6) rfl (by omega) (gf := 99) (lb := #[.pointer (some ⟨w7.heap.size, 0, none⟩), .pointer (some ⟨w7.heap.size + 1, 0, none⟩)]) rfl trivial (enters_of Tryd.func99 (by kernel_rfl) rfl) (encs := fun i => #[chunkV ac i]) (N := M) (X := fun k => k = w3.heap.size) (by omega)
          (chunk_it (6 - 1) (by omega) _ w8 ac M cc _ _ hcb hcn (fun e => by omega) (fun e => by omega) hcc1 hcc2 (fun h0 => by obtain ⟨b, o, e, _⟩ := hrT.at 0 (by omega); exact ⟨b, o, e⟩)) (fun _ => rfl)
          (fun i A => Arr 87 A w3.heap.size (blocks s T i).list ∧ Arr 117 A w1.heap.size keyL ∧ Kp w A ∧ A.heap[D]? = some (.deferred (some [])) ∧ Same (fun k => k = w3.heap.size) w8 A)
          (fun i A B h hb => ⟨h.1.below hb (by omega), h.2.1.below hb (by omega), Below.trans h.2.2.1 (hb.mono (by have := hK8.size; omega)), (hb.block D (by omega)).trans h.2.2.2.1, Nat.le_trans h.2.2.2.2.size hb.size, fun k hk hn => (hb.block k hk).trans (h.2.2.2.2.block k hk hn)⟩)
          ⟨hR8, hA8, hK8, hd8, Same.refl _ _⟩ ?a13 ?assign3 ?body3 ?done23)
        case assign3 =>
          intro l' i W K hK
          gi_wp2
          exact hK
        case body3 =>
          clear hR8 hA8 hcb hcn hd8
          rintro l' i W9 ⟨hR9, hA9, hK9, hd9, hsm⟩ hi
          obtain ⟨sv, hsv⟩ : ∃ x, blocks s T i = x := ⟨_, rfl⟩
          obtain ⟨s', hs'⟩ : ∃ s', blocks s T (i + 1) = s' := ⟨_, rfl⟩
          have hbs := blocks_succ s T i
          have hTl := HML.out
          have hbl : ((T.drop (64 * i)).take 64).length = 64 := by rw [List.length_take, List.length_drop]; omega
          obtain ⟨b1, o1, hac, _⟩ := hrT.at 0 (by omega)
          have hb1 := HOC.out b1 o1 hac
          have hrd9 : Rd W9 (chunkV ac i) ((T.drop (64 * i)).take 64) := rd_same (chunk_rd hrT i (by omega)) hsm (fun b o' c' e => by rw [hac] at e; simp [chunkV] at e; omega)
          rw [hs', hsv] at hbs
          rw [hs']
          rw [hsv] at hR9
          have HS := Lib.hid (behind_any sv (chunkV ac i) ((T.drop (64 * i)).take 64) w1.heap.size keyL)
          rw [← hbs] at HS
          have HB := Lib.hid hbl
          obtain ⟨c0, c1, c2, c3, c4, c5, c6, c7⟩ := hR9.cells8
          generalize chunkV ac i = cv at *
          clear hs' hsv hbs hbl hTl
          gi_wp2_with (refine ⟨trivial, ?_⟩; gi_at_call 92; refine (CallsIn.inRound l' (callsIn_wide.2 (HS.out _ hrd9 HB.out hA9 rfl))).mono ?_; rintro e wz ⟨rfl, hkz⟩; rw [agg8]; have hRz := hR9.kp hkz; obtain ⟨e0, e1, e2, e3, e4, e5, e6, e7⟩ := hRz.cells8; obtain ⟨f0, f1, f2, f3, f4, f5, f6, f7⟩ := hRz.frozen8)
          have hsz : Same (fun k => k = w3.heap.size) W9 _ := same_set8 (X := fun k => k = w3.heap.size) (Same.of_kp hkz) (g := w3.heap.size) rfl (.int .u32 (u s'.a)) (.int .u32 (u s'.b)) (.int .u32 (u s'.c)) (.int .u32 (u s'.d)) (.int .u32 (u s'.e)) (.int .u32 (u s'.f)) (.int .u32 (u s'.g)) (.int .u32 (u s'.h))
          exact ⟨hsz, hRz.set8 s', arr_other8 (hA9.kp hkz) (Ne.symm hne) _ _ _ _ _ _ _ _, below_set8 (hK9.trans hkz) hle3 _ _ _ _ _ _ _ _, (hsz.block D (by have := hsm.size; omega) (by omega)).trans hd9, hsm.trans hsz⟩
        case done23 =>
          clear hR8 hA8 hcb hcn hd8
          rintro D2 W9 hD2 ⟨hR9, hA9, hK9, hd9, hsm⟩ hd29
          have hdg := HSP.out
          rw [HSN.out] at hdg
          obtain ⟨sv, hsv⟩ : ∃ x, blocks s T M = x := ⟨_, rfl⟩
          rw [hsv] at hR9 hdg
          have HDG := Lib.hid hdg
          have hDW2 : D2 < W9.heap.size := (Array.getElem?_eq_some_iff.1 hd29).1
          have hDW9 : D < W9.heap.size := (Array.getElem?_eq_some_iff.1 hd9).1
          clear hsv hdg
          go_wp2_with (first
            | (refine wpList_load_arr Tryd.underlying87 (by kernel_rfl) rfl (.tmp 4) rfl w3.heap.size sv.list rfl hR9 rfl ?_)
            | (go_at_call 94; refine (wordBytes_any sv _).mono ?_; rintro e wz ⟨⟨vz, rfl, hoz⟩, hkz⟩))
          have hdz2 := (hkz.block D2 hDW2).trans hd29
          have hdz := (hkz.block D hDW9).trans hd9
          refine ⟨by simp, .inl ⟨_, _, rfl, run_takeDeferred hdz2, ?_⟩⟩
          refine ⟨by simp, .inl ⟨_, _, rfl, run_takeDeferred ((World.putObj_heap_other (by omega)).trans hdz), ?_⟩⟩
          refine ⟨_, results_tmp rfl _ _ _, ⟨_, rfl, ?_⟩, ?_⟩
          · rw [HDG.out]
            exact (ow_putObj (ow_putObj hoz hDW2 _) hDW9 _).mono hK9.size
          · have hw9 := hK9.size
            have hwz := hkz.size
            exact put_below (put_below (hK9.trans hkz) (by omega) (by omega) _) (by have := hkp5.size; omega) (by rw [size_put]; omega) _
      · refine NoPanic.normal ?_
        have hk78 : Kp w7 w8 := by rw [← hw8]; exact ((Kp.refl _).alloc _).alloc _
        have hs8 : w8.heap.size = w7.heap.size + 2 := by rw [← hw8]; simp
        have hcb : w8.cell? ⟨w7.heap.size, 0, none⟩ = some (.slice ac (64 * M) cc) := by
          rw [← hw8, cell_of_row _ _ 0 _ _ _ ((Below.heap_alloc _ _ _ (by simp)).trans (heap_alloc_new w7 _))]; rfl
        have hcn : w8.cell? ⟨w7.heap.size + 1, 0, none⟩ = some (.int .i64 64) := by
          have := heap_alloc_new (w7.alloc (.cells #[.slice ac (64 * M) cc] 22)) (.cells #[.int .i64 64] 3)
          rw [World.size_alloc, hw8] at this
          rw [cell_of_row _ _ 0 _ _ _ this]; rfl
        have hkW : Kp W w8 := ((((Kp.refl W).drew.trans hk6).alloc _).trans hk7).trans hk78
        have hrT : Rd w8 (.slice ac (64 * M) cc) T := hoc.rd.kp hk78
        have hR8 := hR.kp hkW
        have hA8 := hA.kp hkW
        have hK8 : Kp w w8 := hK.trans hkW
        have hd8 := (hkW.block D (Array.getElem?_eq_some_iff.1 hd).1).trans hd
        have hDW : D < W.heap.size := (Array.getElem?_eq_some_iff.1 hd).1
        have hW8 := hkW.size
        have hR8lt := hR8.lt
        have hA8lt := hA8.lt
        have hRW := hR.lt
        have hz1 := hk6.size
        have hz2 := hk7.size
        have h67 : W.heap.size ≤ w7.heap.size := by simp at hz1 hz2; omega
        have hoc_blk : ∀ b o, ac = some ⟨b, o, none⟩ → w3.heap.size < b := fun b o e => by
          have := hoc.own_ge b (by rw [e]; rfl)
          simp at this hz1
          omega
        have HOC := Lib.hid hoc_blk
        clear hoc hw8 hk6 hk7 hrp hk78 hoc_blk
        go_wp2_with fail
        refine wpIn_wide.1 (wpIn_range_on (F := Fence.wide) (n := 6) rfl (by omega) (gf := 99) (lb := #[.pointer (some ⟨w7.heap.size, 0, none⟩), .pointer (some ⟨w7.heap.size + 1, 0, none⟩)]) rfl trivial (enters_of Tryd.func99 (by kernel_rfl) rfl) (encs := fun i => #[chunkV ac i]) (N := M) (X := fun k => k = w3.heap.size) (by omega)
          (chunk_it (6 - 1) (by omega) _ w8 ac M cc _ _ hcb hcn (fun e => by omega) (fun e => by omega) hcc1 hcc2 (fun h0 => by obtain ⟨b, o, e, _⟩ := hrT.at 0 (by omega); exact ⟨b, o, e⟩)) (fun _ => rfl)
          (fun i A => Arr 87 A w3.heap.size (blocks s T i).list ∧ Arr 117 A w1.heap.size keyL ∧ Kp w A ∧ A.heap[D]? = some (.deferred (some [])) ∧ Same (fun k => k = w3.heap.size) w8 A)
          (fun i A B h hb => ⟨h.1.below hb (by omega), h.2.1.below hb (by omega), Below.trans h.2.2.1 (hb.mono (by have := hK8.size; omega)), (hb.block D (by omega)).trans h.2.2.2.1, Nat.le_trans h.2.2.2.2.size hb.size, fun k hk hn => (hb.block k hk).trans (h.2.2.2.2.block k hk hn)⟩)
          ⟨hR8, hA8, hK8, hd8, Same.refl _ _⟩ ?a14 ?assign4 ?body4 ?done24)
        case assign4 =>
          intro l' i W K hK
          gi_wp2
          exact hK
        case body4 =>
          clear hR8 hA8 hcb hcn hd8
          rintro l' i W9 ⟨hR9, hA9, hK9, hd9, hsm⟩ hi
          obtain ⟨sv, hsv⟩ : ∃ x, blocks s T i = x := ⟨_, rfl⟩
          obtain ⟨s', hs'⟩ : ∃ s', blocks s T (i + 1) = s' := ⟨_, rfl⟩
          have hbs := blocks_succ s T i
          have hTl := HML.out
          have hbl : ((T.drop (64 * i)).take 64).length = 64 := by rw [List.length_take, List.length_drop]; omega
          obtain ⟨b1, o1, hac, _⟩ := hrT.at 0 (by omega)
          have hb1 := HOC.out b1 o1 hac
          have hrd9 : Rd W9 (chunkV ac i) ((T.drop (64 * i)).take 64) := rd_same (chunk_rd hrT i (by omega)) hsm (fun b o' c' e => by rw [hac] at e; simp [chunkV] at e; omega)
          rw [hs', hsv] at hbs
          rw [hs']
          rw [hsv] at hR9
          have HS := Lib.hid (behind_any sv (chunkV ac i) ((T.drop (64 * i)).take 64) w1.heap.size keyL)
          rw [← hbs] at HS
          have HB := Lib.hid hbl
          obtain ⟨c0, c1, c2, c3, c4, c5, c6, c7⟩ := hR9.cells8
          generalize chunkV ac i = cv at *
          clear hs' hsv hbs hbl hTl
          gi_wp2_with (refine ⟨trivial, ?_⟩; gi_at_call 92; refine (CallsIn.inRound l' (callsIn_wide.2 (HS.out _ hrd9 HB.out hA9 rfl))).mono ?_; rintro e wz ⟨rfl, hkz⟩; rw [agg8]; have hRz := hR9.kp hkz; obtain ⟨e0, e1, e2, e3, e4, e5, e6, e7⟩ := hRz.cells8; obtain ⟨f0, f1, f2, f3, f4, f5, f6, f7⟩ := hRz.frozen8)
          have hsz : Same (fun k => k = w3.heap.size) W9 _ := same_set8 (X := fun k => k = w3.heap.size) (Same.of_kp hkz) (g := w3.heap.size) rfl (.int .u32 (u s'.a)) (.int .u32 (u s'.b)) (.int .u32 (u s'.c)) (.int .u32 (u s'.d)) (.int .u32 (u s'.e)) (.int .u32 (u s'.f)) (.int .u32 (u s'.g)) (.int .u32 (u s'.h))
          exact ⟨hsz, hRz.set8 s', arr_other8 (hA9.kp hkz) (Ne.symm hne) _ _ _ _ _ _ _ _, below_set8 (hK9.trans hkz) hle3 _ _ _ _ _ _ _ _, (hsz.block D (by have := hsm.size; omega) (by omega)).trans hd9, hsm.trans hsz⟩
        case done24 =>
          clear hR8 hA8 hcb hcn hd8
          rintro D2 W9 hD2 ⟨hR9, hA9, hK9, hd9, hsm⟩ hd29
          have hdg := HSP.out
          rw [HSN.out] at hdg
          obtain ⟨sv, hsv⟩ : ∃ x, blocks s T M = x := ⟨_, rfl⟩
          rw [hsv] at hR9 hdg
          have HDG := Lib.hid hdg
          have hDW2 : D2 < W9.heap.size := (Array.getElem?_eq_some_iff.1 hd29).1
          have hDW9 : D < W9.heap.size := (Array.getElem?_eq_some_iff.1 hd9).1
          clear hsv hdg
          go_wp2_with (first
            | (refine wpList_load_arr Tryd.underlying87 (by kernel_rfl) rfl (.tmp 4) rfl w3.heap.size sv.list rfl hR9 rfl ?_)
            | (go_at_call 94; refine (wordBytes_any sv _).mono ?_; rintro e wz ⟨⟨vz, rfl, hoz⟩, hkz⟩))
          have hdz2 := (hkz.block D2 hDW2).trans hd29
          have hdz := (hkz.block D hDW9).trans hd9
          refine ⟨by simp, .inl ⟨_, _, rfl, run_takeDeferred hdz2, ?_⟩⟩
          refine ⟨by simp, .inl ⟨_, _, rfl, run_takeDeferred ((World.putObj_heap_other (by omega)).trans hdz), ?_⟩⟩
          refine ⟨_, results_tmp rfl _ _ _, ⟨_, rfl, ?_⟩, ?_⟩
          · rw [HDG.out]
            exact (ow_putObj (ow_putObj hoz hDW2 _) hDW9 _).mono hK9.size
          · have hw9 := hK9.size
            have hwz := hkz.size
            exact put_below (put_below (hK9.trans hkz) (by omega) (by omega) _) (by have := hkp5.size; omega) (by rw [size_put]; omega) _
theorem sum_any (v : Value) (l : List UInt8) (w : World) (h : Rd w v l) (hl : l.length ≤ 2000) :
    Calls Tryd.prog 86 #[v] w fun e w' => (∃ v', e = .returned v' ∧ Rd w' v' (digest l)) ∧ Kp w w' :=
  (sum_own v l w h hl).mono fun e w' ⟨⟨v', he, ho⟩, hk⟩ => ⟨⟨v', he, ho.rd⟩, hk⟩
end Go.Proofs.YtigpgcjbpoaclaaDoor

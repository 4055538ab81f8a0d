/- KdfLabels (written by gen/kdf2.py). -/
import Derived.Test.YtacgafefefhmeaaLawKdfA
set_option linter.unusedVariables false
set_option linter.unusedSimpArgs false
namespace Go.Proofs.Ytacgafefefhmeaa
open Go.RowKit

theorem bytes_ext {a b : ByteArray} (h : a.data.toList = b.data.toList) : a = b := by
  cases a; cases b
  simp only [ByteArray.mk.injEq]
  exact Array.ext' h
theorem toList_dat (s : ByteArray) : s.toList = s.data.toList := by
  have h : ∀ n (s : ByteArray) i r, s.size - i = n → ByteArray.toList.loop s i r = r.reverse ++ s.data.toList.drop i := by
    intro n
    induction n with
    | zero =>
      intro s i r h
      unfold ByteArray.toList.loop
      rw [if_neg (by omega), List.drop_eq_nil_of_le (by rw [Array.length_toList]; show s.size ≤ i; omega), List.append_nil]
    | succ n ih =>
      intro s i r h
      unfold ByteArray.toList.loop
      rw [if_pos (by omega), ih s (i + 1) _ (by omega)]
      have hi : i < s.data.toList.length := by rw [Array.length_toList]; show i < s.size; omega
      rw [List.drop_eq_getElem_cons hi, List.reverse_cons, List.append_assoc]
      congr 2
      have : i < s.size := by omega
      simp [ByteArray.get!, getElem!_pos, this]
  exact (h _ s 0 [] rfl).trans (by simp)
theorem row_inj {x y m n : List UInt8} (hx : x.length ≤ 1000000) (hy : y.length ≤ 1000000) (h : rowB x ++ m = rowB y ++ n) : x = y ∧ m = n := by
  have h1 := (tr_at (b := rowB x ++ m) (p := 0) (most := 1000000) (x := x) (more := m) (by omega) (by omega) rfl).1
  have h2 := (tr_at (b := rowB x ++ m) (p := 0) (most := 1000000) (x := y) (more := n) (by omega) (by omega) h).1
  have e : x = y := h1.symm.trans h2
  subst e
  exact ⟨rfl, List.append_cancel_left h⟩
theorem labI_inj (a b x y : List UInt8) (ha : a.length ≤ 100) (hb : b.length ≤ 100) (hx : x.length ≤ 100) (hy : y.length ≤ 100) : labI a x 32 = labI b y 32 ↔ a = b ∧ x = y := by
  constructor
  · intro h
    unfold labI at h
    rw [List.append_assoc, List.append_assoc] at h
    have h1 := List.append_cancel_left h
    have hm : mlsB.length = 8 := rfl
    obtain ⟨e1, e2⟩ := row_inj (by rw [List.length_append, hm]; omega) (by rw [List.length_append, hm]; omega) h1
    obtain ⟨e3, _⟩ := row_inj (x := x) (y := y) (m := []) (n := []) (by omega) (by omega) (by simpa using e2)
    exact ⟨List.append_cancel_left e1, e3⟩
  · rintro ⟨rfl, rfl⟩
    rfl
theorem labI_num (a x : List UInt8) : ¬ labI a x 32 = labI a x 33 := by
  intro h
  unfold labI at h
  rw [List.append_assoc, List.append_assoc] at h
  have h1 := congrArg (List.take 2) h
  rw [List.take_left' (be_length _ _), List.take_left' (be_length _ _)] at h1
  exact absurd h1 (by decide)

set_option maxHeartbeats 2000000 in
theorem told_any (s : ByteArray) (vc : Value) (ctx : List UInt8) (n : Nat) (w : World) (hc : Rd w vc ctx) (hs : s.size ≤ 100) (hcl : ctx.length ≤ 100) (hn : n ≤ 100) :
    Calls Try.prog 20 #[.string s, vc, .int .i64 n] w fun e w' => (∃ v, e = .returned v ∧ Ow 5 w' w.heap.size v (labI s.data.toList ctx n)) ∧ Kp w w' := by
  have U := u8
  have hsl : s.data.toList.length = s.size := rfl
  have hll := labI_length s.data.toList ctx n (by omega) (by omega)
  have hok : numOk (n : Int) 2 := ⟨by omega, by omega, by omega, by have : (256 : Int) ^ (2 : Int).toNat = 65536 := by decide
                                                                    omega⟩
  have e1 := num_yes hok
  have e1b : numB (n : Int) 2 = be 2 n := by rw [e1.2]; rfl
  have hnum := Lib.hid (fun W => refNum_any n 2 W (by omega))
  rw [e1.1, e1b] at hnum
  have e3 := row_ok (x := mlsB ++ s.data.toList) (by rw [List.length_append, hsl]; simp [mlsB]; omega)
  have e2 := row_ok (x := ctx) (by omega)
  have hrow1 := Lib.hid (fun W v hW => refRow_any v (mlsB ++ s.data.toList) W hW)
  have hrow2 := Lib.hid (fun W hW => refRow_any vc ctx W hW)
  rw [e3.1] at hrow1
  rw [e2.1] at hrow2
  have hcv := fun W (S : ByteArray) => Lib.run_convert_string_bytes (P := Try.prog) W 9 22 5 S Try.underlying9 Try.underlying22 Try.underlying5
  have HI : Hid (labI s.data.toList ctx n = be 2 n ++ rowB (mlsB ++ s.data.toList) ++ rowB ctx) := rfl
  have hl2 : (be 2 n).length + (rowB (mlsB ++ s.data.toList)).length + (rowB ctx).length ≤ 1800 := by rw [HI.out, List.length_append, List.length_append] at hll; exact hll
  have hsz : (⟨#[77, 76, 83, 32, 49, 46, 48, 32]⟩ ++ s : ByteArray).size = 8 + s.size := by rw [ByteArray.size_append]; rfl
  have hdt : (⟨#[77, 76, 83, 32, 49, 46, 48, 32]⟩ ++ s : ByteArray).data.toList = mlsB ++ s.data.toList := by rw [ByteArray.data_append, Array.toList_append]; rfl
  have hrb := Lib.hid (fun W => show Rd (Lib.bytesWorld W 5 (⟨#[77, 76, 83, 32, 49, 46, 48, 32]⟩ ++ s)) (.slice (some ⟨W.heap.size, 0, none⟩) (8 + s.size) (grownCap W (8 + s.size) 0 5)) (mlsB ++ s.data.toList) from by
    have := rd_bytesWorld W 5 (⟨#[77, 76, 83, 32, 49, 46, 48, 32]⟩ ++ s) (by rw [hsz]; omega)
    rw [hdt, hsz] at this
    exact this)
  have hkb := Lib.hid (fun W => kp_bytesWorld W 5 (⟨#[77, 76, 83, 32, 49, 46, 48, 32]⟩ ++ s))
  have HD := Lib.hid hsz
  have HL2 := Lib.hid hl2
  clear hok e1 e1b e3 e2 hll hsz hdt hl2
  go_enter Try.func20, Try.ntmps20
  go_wp2_with (first
    | (go_at_call 26; refine (hnum.out _).mono ?_; rintro e w1 ⟨v1, rfl, o1, k1⟩; obtain ⟨a1, n1, c1, rfl⟩ := o1.rd.sl))
  refine (hrow1.out _ _ (hrb.out w1)).mono ?_
  rintro e w2 ⟨v2, rfl, o2, k2⟩
  obtain ⟨a2, n2, c2, rfl⟩ := o2.rd.sl
  have kb := (hkb.out w1).trans k2
  have hs2 := kb.size
  have hcc := (hc.kp k1).kp kb
  go_wp2_with fail
  refine (hrow2.out _ hcc).mono ?_
  rintro e w3 ⟨v3, rfl, o3, k3⟩
  obtain ⟨a3, n3, c3, rfl⟩ := o3.rd.sl
  have k13 := kb.trans k3
  have kw3 := k1.trans k13
  have r2 := o2.rd.kp k3
  have o13 := o1.kp k13
  have hb1 : ∀ b, (Value.slice a1 n1 c1).ownBlock = some b → b < w2.heap.size := fun b e => by have := o1.lt b e; omega
  go_wp2_with (at_builtin; first
    | (refine wpList_append_ow (o := ⟨some 32, _, _, _, _, _⟩) U rfl _ _ rfl w.heap.size _ (be 2 n) rfl o13 _ (rowB (mlsB ++ s.data.toList)) rfl r2 (by have := HL2.out; omega) kw3.size ?_; intro v4 w4 o4 g4 _; have r3 := o3.rd.grown g4 (fun b o n' c' e e2 => by have h1 := o3.own_ge b (by rw [e]; rfl); have h2 := hb1 b e2.symm; omega); have k4 : Kp w w4 := Kp.grown kw3 g4 o1.own_ge)
    | (refine wpList_append_ow (o := ⟨some 34, _, _, _, _, _⟩) U rfl _ _ rfl w.heap.size _ (be 2 n ++ rowB (mlsB ++ s.data.toList)) rfl o4 _ (rowB ctx) rfl r3 (by have := HL2.out; rw [List.length_append]; omega) k4.size ?_; intro v5 w5 o5 g5 _; have k5 : Kp w w5 := Kp.grown k4 g5 o4.own_ge))
  go_ret
  exact ⟨⟨_, rfl, by rw [HI.out]; exact o5⟩, k5⟩

theorem told_at (s : ByteArray) (vc : Value) (ctx : List UInt8) (n : Nat) (N : Int) (w : World) (hN : (n : Int) = N) (hc : Rd w vc ctx) (hs : s.size ≤ 100) (hcl : ctx.length ≤ 100) (hn : n ≤ 100) :
    Calls Try.prog 20 #[.string s, vc, .int .i64 N] w fun e w' => (∃ v, e = .returned v ∧ Ow 5 w' w.heap.size v (labI s.data.toList ctx n)) ∧ Kp w w' := by
  subst hN
  exact told_any s vc ctx n w hc hs hcl hn

set_option maxRecDepth 100000 in
set_option maxHeartbeats 4000000 in
theorem kdfLabels_walk (vs vx vy : Value) (a b : ByteArray) (l lx ly : List UInt8) (w : World) (rs : Rd w vs l) (rx : Rd w vx lx) (ry : Rd w vy ly) :
    Calls Try.prog 6 #[.agg #[vs, .string a, .string b, vx, vy]] w (Yes w) := by
  obtain ⟨a1, c1, e1, p1, q1⟩ := rs.shape
  obtain ⟨a2, c2, e2, p2, q2⟩ := rx.shape
  obtain ⟨a3, c3, e3, p3, q3⟩ := ry.shape
  unfold maxLen at q1 q2 q3
  subst e1
  subst e2
  subst e3
  by_cases h0 : 100 < l.length
  · have q1 : 100 < (l.length : Int) := by omega
    go_enter Try.func6, Try.ntmps6
    go_wp2_with fail
    refine (shownKdf_any _).mono ?_
    rintro e w1 ⟨rfl, k1⟩
    have k1' := ((Kp.refl w).alloc _).trans k1
    go_wp2_with fail
    go_ret
    exact ⟨rfl, k1'⟩
  · by_cases h1 : 100 < a.size
    · have q1 : ¬ (100 < (l.length : Int)) := by omega
      have q2 : 100 < (a.size : Int) := by omega
      go_enter Try.func6, Try.ntmps6
      go_wp2_with fail
      refine (shownKdf_any _).mono ?_
      rintro e w1 ⟨rfl, k1⟩
      have k1' := ((Kp.refl w).alloc _).trans k1
      go_wp2_with fail
      go_ret
      exact ⟨rfl, k1'⟩
    · by_cases h2 : 100 < b.size
      · have q1 : ¬ (100 < (l.length : Int)) := by omega
        have q2 : ¬ (100 < (a.size : Int)) := by omega
        have q3 : 100 < (b.size : Int) := by omega
        go_enter Try.func6, Try.ntmps6
        go_wp2_with fail
        refine (shownKdf_any _).mono ?_
        rintro e w1 ⟨rfl, k1⟩
        have k1' := ((Kp.refl w).alloc _).trans k1
        go_wp2_with fail
        go_ret
        exact ⟨rfl, k1'⟩
      · by_cases h3 : 100 < lx.length
        · have q1 : ¬ (100 < (l.length : Int)) := by omega
          have q2 : ¬ (100 < (a.size : Int)) := by omega
          have q3 : ¬ (100 < (b.size : Int)) := by omega
          have q4 : 100 < (lx.length : Int) := by omega
          go_enter Try.func6, Try.ntmps6
          go_wp2_with fail
          refine (shownKdf_any _).mono ?_
          rintro e w1 ⟨rfl, k1⟩
          have k1' := ((Kp.refl w).alloc _).trans k1
          go_wp2_with fail
          go_ret
          exact ⟨rfl, k1'⟩
        · by_cases h4 : 100 < ly.length
          · have q1 : ¬ (100 < (l.length : Int)) := by omega
            have q2 : ¬ (100 < (a.size : Int)) := by omega
            have q3 : ¬ (100 < (b.size : Int)) := by omega
            have q4 : ¬ (100 < (lx.length : Int)) := by omega
            have q5 : 100 < (ly.length : Int) := by omega
            go_enter Try.func6, Try.ntmps6
            go_wp2_with fail
            refine (shownKdf_any _).mono ?_
            rintro e w1 ⟨rfl, k1⟩
            have k1' := ((Kp.refl w).alloc _).trans k1
            go_wp2_with fail
            go_ret
            exact ⟨rfl, k1'⟩
          · have q1 : ¬ (100 < (l.length : Int)) := by omega
            have q2 : ¬ (100 < (a.size : Int)) := by omega
            have q3 : ¬ (100 < (b.size : Int)) := by omega
            have q4 : ¬ (100 < (lx.length : Int)) := by omega
            have q5 : ¬ (100 < (ly.length : Int)) := by omega
            have LL := labI_length a.data.toList lx 32 (show a.size ≤ 300 by omega) (by omega)
            have EY : expE 32 = 0 ∧ expR l (labI a.data.toList lx 32) 32 = expL l (labI a.data.toList lx 32) 32 := exp_yes l (labI a.data.toList lx 32) (n := 32) (by decide)
            have LY : expE 32 = 0 ∧ labR l a.data.toList lx 32 = expL l (labI a.data.toList lx 32) 32 := EY
            have PO := Lib.hid (show decide (labI a.data.toList lx 32 = labI a.data.toList lx 33) = false from decide_eq_false (labI_num _ _))
            have PI := labI_inj a.data.toList b.data.toList lx ly (show a.size ≤ 100 by omega) (show b.size ≤ 100 by omega) (by omega) (by omega)
            by_cases hs : a = b
            · subst hs
              by_cases hx : lx = ly
              · subst hx
                have PQ := Lib.hid (show decide (labI a.data.toList lx 32 = labI a.data.toList lx 32) = true from decide_eq_true rfl)
                clear PI
                go_enter Try.func6, Try.ntmps6
                go_wp2_with fail
                refine (shownKdf_any _).mono ?_
                rintro e w1 ⟨rfl, k1⟩
                have k1' := ((Kp.refl w).alloc _).trans k1
                go_wp2_with fail
                have r9 := told_at a (.slice a2 lx.length c2) lx 32 32 _ rfl (by exact rx.kp k1') (by omega) (by omega) (by decide)
                refine r9.mono ?_
                rintro e w2 ⟨⟨v2, rfl, o2⟩, k2⟩
                have K2 := k1'.trans k2
                go_wp2_with fail
                refine (told_at a (.slice a3 lx.length c3) lx 32 32 _ rfl (ry.kp K2) (by omega) (by omega) (by decide)).mono ?_
                rintro e w3 ⟨⟨v3, rfl, o3⟩, k3⟩
                have K3 := K2.trans k3
                go_wp2_with fail
                refine (told_at a (.slice a2 lx.length c2) lx 33 33 _ rfl (rx.kp K3) (by omega) (by omega) (by decide)).mono ?_
                rintro e w4 ⟨⟨v4, rfl, o4⟩, k4⟩
                have K4 := K3.trans k4
                go_wp2_with fail
                refine (label_any (.slice a1 l.length c1) a (.slice a2 lx.length c2) l lx 32 _ (rs.kp K4) (rx.kp K4) (by omega) (by omega) (by omega) (by omega)).mono ?_
                rw [LY.1, LY.2]
                rintro e w5 ⟨⟨v5, rfl, o5⟩, k5⟩
                have K5 := K4.trans k5
                have K25 := (k3.trans k4).trans k5
                go_wp2_with fail
                refine (expand_any (.slice a1 l.length c1) v2 l (labI a.data.toList lx 32) 32 _ (rs.kp K5) (o2.rd.kp K25) (by omega) LL).mono ?_
                rw [EY.1, EY.2]
                rintro e w6 ⟨⟨v6, rfl, o6⟩, k6⟩
                have K6 := K5.trans k6
                go_wp2_with fail
                refine (same_at _ _ lx lx true _ (rx.kp K6) (ry.kp K6) (by simp [*])).mono ?_
                rintro e w7 ⟨rfl, rfl⟩
                go_wp2_with fail
                refine (same_at _ _ _ _ true _ (o5.rd.kp k6) o6.rd (decide_eq_true rfl)).mono ?_
                rintro e w7 ⟨rfl, rfl⟩
                go_wp2_with fail
                refine (same_at _ _ _ _ true _ (o2.rd.kp (K25.trans k6)) (o3.rd.kp ((k4.trans k5).trans k6)) (decide_eq_true rfl)).mono ?_
                rintro e w7 ⟨rfl, rfl⟩
                go_wp2_with fail
                refine (same_at _ _ _ _ false _ (o2.rd.kp (K25.trans k6)) (o4.rd.kp (k5.trans k6)) PO.out).mono ?_
                rintro e w7 ⟨rfl, rfl⟩
                go_wp2_with fail
                go_ret
                exact ⟨rfl, K6⟩
              · have PQ := Lib.hid (show decide (labI a.data.toList lx 32 = labI a.data.toList ly 32) = false from decide_eq_false (fun h => hx (PI.1 h).2))
                clear PI
                go_enter Try.func6, Try.ntmps6
                go_wp2_with fail
                refine (shownKdf_any _).mono ?_
                rintro e w1 ⟨rfl, k1⟩
                have k1' := ((Kp.refl w).alloc _).trans k1
                go_wp2_with fail
                have r9 := told_at a (.slice a2 lx.length c2) lx 32 32 _ rfl (by exact rx.kp k1') (by omega) (by omega) (by decide)
                refine r9.mono ?_
                rintro e w2 ⟨⟨v2, rfl, o2⟩, k2⟩
                have K2 := k1'.trans k2
                go_wp2_with fail
                refine (told_at a (.slice a3 ly.length c3) ly 32 32 _ rfl (ry.kp K2) (by omega) (by omega) (by decide)).mono ?_
                rintro e w3 ⟨⟨v3, rfl, o3⟩, k3⟩
                have K3 := K2.trans k3
                go_wp2_with fail
                refine (told_at a (.slice a2 lx.length c2) lx 33 33 _ rfl (rx.kp K3) (by omega) (by omega) (by decide)).mono ?_
                rintro e w4 ⟨⟨v4, rfl, o4⟩, k4⟩
                have K4 := K3.trans k4
                go_wp2_with fail
                refine (label_any (.slice a1 l.length c1) a (.slice a2 lx.length c2) l lx 32 _ (rs.kp K4) (rx.kp K4) (by omega) (by omega) (by omega) (by omega)).mono ?_
                rw [LY.1, LY.2]
                rintro e w5 ⟨⟨v5, rfl, o5⟩, k5⟩
                have K5 := K4.trans k5
                have K25 := (k3.trans k4).trans k5
                go_wp2_with fail
                refine (expand_any (.slice a1 l.length c1) v2 l (labI a.data.toList lx 32) 32 _ (rs.kp K5) (o2.rd.kp K25) (by omega) LL).mono ?_
                rw [EY.1, EY.2]
                rintro e w6 ⟨⟨v6, rfl, o6⟩, k6⟩
                have K6 := K5.trans k6
                go_wp2_with fail
                refine (same_at _ _ lx ly false _ (rx.kp K6) (ry.kp K6) (by simp [*])).mono ?_
                rintro e w7 ⟨rfl, rfl⟩
                go_wp2_with fail
                refine (same_at _ _ _ _ true _ (o5.rd.kp k6) o6.rd (decide_eq_true rfl)).mono ?_
                rintro e w7 ⟨rfl, rfl⟩
                go_wp2_with fail
                refine (same_at _ _ _ _ false _ (o2.rd.kp (K25.trans k6)) (o3.rd.kp ((k4.trans k5).trans k6)) PQ.out).mono ?_
                rintro e w7 ⟨rfl, rfl⟩
                go_wp2_with fail
                refine (same_at _ _ _ _ false _ (o2.rd.kp (K25.trans k6)) (o4.rd.kp (k5.trans k6)) PO.out).mono ?_
                rintro e w7 ⟨rfl, rfl⟩
                go_wp2_with fail
                go_ret
                exact ⟨rfl, K6⟩
            · have PQ := Lib.hid (show decide (labI a.data.toList lx 32 = labI b.data.toList ly 32) = false from decide_eq_false (fun h => hs (bytes_ext (PI.1 h).1)))
              have hs2 : ¬ a.toList = b.toList := fun h => hs (bytes_ext (by rw [← toList_dat, ← toList_dat]; exact h))
              clear PI
              go_enter Try.func6, Try.ntmps6
              go_wp2_with fail
              refine (shownKdf_any _).mono ?_
              rintro e w1 ⟨rfl, k1⟩
              have k1' := ((Kp.refl w).alloc _).trans k1
              go_wp2_with fail
              have r9 := told_at a (.slice a2 lx.length c2) lx 32 32 _ rfl (by exact rx.kp k1') (by omega) (by omega) (by decide)
              refine r9.mono ?_
              rintro e w2 ⟨⟨v2, rfl, o2⟩, k2⟩
              have K2 := k1'.trans k2
              go_wp2_with fail
              refine (told_at b (.slice a3 ly.length c3) ly 32 32 _ rfl (ry.kp K2) (by omega) (by omega) (by decide)).mono ?_
              rintro e w3 ⟨⟨v3, rfl, o3⟩, k3⟩
              have K3 := K2.trans k3
              go_wp2_with fail
              refine (told_at a (.slice a2 lx.length c2) lx 33 33 _ rfl (rx.kp K3) (by omega) (by omega) (by decide)).mono ?_
              rintro e w4 ⟨⟨v4, rfl, o4⟩, k4⟩
              have K4 := K3.trans k4
              go_wp2_with fail
              refine (label_any (.slice a1 l.length c1) a (.slice a2 lx.length c2) l lx 32 _ (rs.kp K4) (rx.kp K4) (by omega) (by omega) (by omega) (by omega)).mono ?_
              rw [LY.1, LY.2]
              rintro e w5 ⟨⟨v5, rfl, o5⟩, k5⟩
              have K5 := K4.trans k5
              have K25 := (k3.trans k4).trans k5
              go_wp2_with fail
              refine (expand_any (.slice a1 l.length c1) v2 l (labI a.data.toList lx 32) 32 _ (rs.kp K5) (o2.rd.kp K25) (by omega) LL).mono ?_
              rw [EY.1, EY.2]
              rintro e w6 ⟨⟨v6, rfl, o6⟩, k6⟩
              have K6 := K5.trans k6
              go_wp2_with fail
              refine (same_at _ _ _ _ true _ (o5.rd.kp k6) o6.rd (decide_eq_true rfl)).mono ?_
              rintro e w7 ⟨rfl, rfl⟩
              go_wp2_with fail
              refine (same_at _ _ _ _ false _ (o2.rd.kp (K25.trans k6)) (o3.rd.kp ((k4.trans k5).trans k6)) PQ.out).mono ?_
              rintro e w7 ⟨rfl, rfl⟩
              go_wp2_with fail
              refine (same_at _ _ _ _ false _ (o2.rd.kp (K25.trans k6)) (o4.rd.kp (k5.trans k6)) PO.out).mono ?_
              rintro e w7 ⟨rfl, rfl⟩
              go_wp2_with fail
              go_ret
              exact ⟨rfl, K6⟩
end Go.Proofs.Ytacgafefefhmeaa

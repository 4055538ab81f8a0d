import Derived.Test.YtigpgcjbpoaclaaGreatDoorB2
import Derived.Test.YtigpgcjbpoaclaaGreatDoorB25
import Derived.Test.YtigpgcjbpoaclaaGreatDoorB28
set_option linter.unusedVariables false
set_option linter.unusedSimpArgs false
namespace Go.Proofs.YtigpgcjbpoaclaaGreatDoor
open Go.RowKit
theorem Rd.grown {w w' : World} {v : Value} {l : List UInt8} {r : Option Nat} (h : Rd w v l) (hg : w.grownBy w' r) (hx : In (fun b => some b ≠ r) v) : Rd w' v l :=
  h.held (R := fun b => some b ≠ r) ⟨hg.size, fun k hk hr => hg.block k hk hr⟩ hx
theorem Rd.takes {w : World} {a : Option Addr} {m c : Nat} {l : List UInt8} (h : Rd w (.slice a m c) l) (n : Nat) (hn : n ≤ m) : Rd w (.slice a n c) (l.take n) := by
  obtain ⟨a', c', e, h1, h2, h3, h4⟩ := h
  simp only [Value.slice.injEq] at e
  obtain ⟨rfl, rfl, rfl⟩ := e
  have hl : (l.take n).length = n := by rw [List.length_take]; omega
  exact ⟨a, c, by rw [hl], by omega, h2, h3, fun x hx i hi => by rw [h4 x hx i (by omega), List.getElem_take]⟩
theorem be_one (j : Nat) : be 1 j = [UInt8.ofNat j] := by simp [be]
theorem u8_ofNat (j : Nat) (h : j ≤ 255) : IntKind.u8.wrap (j : Int) = ((UInt8.ofNat j).toNat : Int) := by
  rw [IntKind.wrap_u8, UInt8.toNat_ofNat']
  omega
set_option maxRecDepth 100000 in
set_option maxHeartbeats 2000000 in
theorem refExpand_yes (vk vi : Value) (k info : List UInt8) (n : Nat) (w : World) (hk : Rd w vk k) (hi : Rd w vi info) (hkl : k.length ≤ 2000) (hil : info.length ≤ 1800) (hn : n ≤ 8160) :
    Calls Tryz.prog 67 #[vk, vi, .int .i64 n] w fun e w' => (∃ v, e = .returned (.tuple #[v, .int .i64 0]) ∧ Rd w' v (expL k info n) ∧ Newer w.heap.size v) ∧ Kp w w' := by
  have U := u8
  obtain ⟨ai, ci, rfl, _, _⟩ := hi.shape
  have d1 : decide ((n : Int) < 0) = false := by simp
  have d2 : decide (8160 < (n : Int)) = false := by simp; omega
  have HC := Lib.hid (catB_length (expT k info) (expT_length k info))
  have HS : Hid (∀ j, catB (expT k info) (j + 1) = catB (expT k info) j ++ expT k info j) := fun _ => rfl
  have HT := Lib.hid (expT_length k info)
  have HP := Lib.hid (expP_length k info)
  have HX := Lib.hid (expT_step k info)
  have HE : Hid (∀ j, expP k info (j + 1) = expT k info j) := fun _ => rfl
  have HF := Lib.hid (fun j h => firstB_eq (expT k info) (expT_length k info) n j h)
  go_enter Tryz.func67, Tryz.ntmps67
  go_wp2_with fail
  go_loopw [8, 9, 10] (fun vo vt p wr => ∃ j : Nat, 32 * j < n + 32 ∧ p = .int .i64 ((j : Int) + 1) ∧ Ow 5 wr w.heap.size vo (catB (expT k info) j) ∧ Rd wr vt (expP k info j) ∧ Kp w wr) (fun _ _ p _ => 300 - (intOf p).toNat)
  case atStart => exact ⟨0, by omega, rfl, Ow.nil _ _ _, rd_nil _, Kp.refl _⟩
  case round =>
    obtain ⟨j, hj, rfl, ho, ht, hkp⟩ := hrel
    have hsz := hkp.size
    obtain ⟨ao, co, rfl, q1, q2⟩ := ho.rd.shape
    have hcl := HC.out j
    unfold maxLen at q2
    rw [hcl] at ho q1 ⊢
    by_cases hlt : 32 * j < n
    · have hq : 32 * (j : Int) < (n : Int) := by omega
      have hp := HP.out j
      have hx := HX.out j
      have hs := HS.out j
      have he := HE.out j
      have htl := HT.out j
      have hjl : j + 1 ≤ 255 := by omega
      have hb := u8_ofNat (j + 1) hjl
      have hb1 := be_one (j + 1)
      rw [Int.natCast_add, Int.natCast_one] at hb
      rw [hb1] at hx
      obtain ⟨x, hxx⟩ : ∃ x, UInt8.ofNat (j + 1) = x := ⟨_, rfl⟩
      rw [hxx] at hb hx
      obtain ⟨T, hT⟩ : ∃ T, expP k info j = T := ⟨_, rfl⟩
      obtain ⟨L, hL⟩ : ∃ L, catB (expT k info) j = L := ⟨_, rfl⟩
      rw [hT] at ht hp hx
      rw [hL] at ho hcl hs
      have HXX := Lib.hid hx
      have HSS := Lib.hid hs
      have HEE := Lib.hid he
      have HTL := Lib.hid htl
      have hiw := hi.kp hkp
      have hkw := hk.kp hkp
      clear hx hs he hb1 hT hL htl
      go_wp2_with (at_builtin; first
        | (refine wpList_append_ow (o := ⟨some 26, _, _, _, _, _⟩) U rfl _ _ rfl wr.heap.size _ _ rfl (Ow.lit wr 5 wr.heap.size 0 #[] [] (Nat.le_refl _) rfl (by decide) rfl) _ T rfl (ht.kp ((Kp.refl _).alloc _)) (by simp; omega) (by simp) ?_; intro v1 x1 o1 g1 _; have k1 : Kp wr x1 := Kp.grown ((Kp.refl wr).alloc _) g1 (by intro k e; cases e; exact Nat.le_refl _); rw [List.nil_append] at o1)
        | (refine wpList_append_ow (o := ⟨some 28, _, _, _, _, _⟩) U rfl _ _ rfl wr.heap.size _ _ rfl o1 _ info rfl (hiw.kp k1) (by omega) k1.size ?_; intro v2 x2 o2 g2 _; have k2 : Kp wr x2 := Kp.grown k1 g2 o1.own_ge)
        | (refine wpList_append_ow (o := ⟨some 32, _, _, _, _, _⟩) U rfl _ _ rfl wr.heap.size _ _ rfl (o2.kp ((Kp.refl _).alloc _)) _ [x] rfl (Rd.box x2 5 _ x rfl) (by rw [List.length_append]; simp; omega) (k2.alloc _).size ?_; intro v3 x3 o3 g3 _; have k3 : Kp wr x3 := Kp.grown (k2.alloc _) g3 o2.own_ge))
      have hl3 : (T ++ info ++ [x]).length ≤ 1900 := by rw [List.length_append, List.length_append]; simp; omega
      refine (refMac_sum vk v3 k (T ++ info ++ [x]) _ (hkw.kp k3) o3.rd hkl hl3).mono ?_
      rw [← HXX.out]
      rintro e x4 ⟨⟨v4, rfl, o4⟩, k4⟩
      have k4' := k3.trans k4
      go_wp2_with (at_builtin; first
        | (refine wpList_append_ow (o := ⟨some 38, _, _, _, _, _⟩) U rfl _ _ rfl w.heap.size _ L rfl (ho.kp k4') _ (expT k info j) rfl o4.rd (by rw [HTL.out]; omega) (hkp.trans k4').size ?_; intro v5 x5 o5 g5 _; have hr5 := o4.rd.grown g5 (fun b o n' c e e2 => by have h1 := o4.own_ge b (by rw [e]; rfl); have h2 := ho.lt b e2.symm; have h3 := k3.size; omega); have k5 : Kp w x5 := Kp.grown (hkp.trans k4') g5 ho.own_ge))
      go_roundw
      case rel => exact ⟨j + 1, by omega, by go_num, by rw [HSS.out]; exact o5, by rw [HEE.out]; exact hr5, k5⟩
      case measure => simp [intOf]; omega
    · have hq : ¬ 32 * (j : Int) < (n : Int) := by omega
      have hfe := HF.out j (by omega)
      have HFE := Lib.hid hfe
      clear hfe ht
      have hnj : (n : Int) ≤ 32 * (j : Int) := by omega
      have hnc : (n : Int) ≤ (co : Int) := by omega
      go_wp2_with fail
      go_ret2
      exact ⟨⟨_, rfl, by rw [show expL k info n = (catB (expT k info) j).take n from HFE.out]; exact ho.rd.takes n (by omega), fun g hg => ho.own_ge g (by cases ao with | none => exact hg | some x => exact hg)⟩, hkp⟩
set_option maxHeartbeats 1000000 in
theorem refExpand_new (vk vi : Value) (k info : List UInt8) (n : Int) (w : World) (hk : Rd w vk k) (hi : Rd w vi info) (hkl : k.length ≤ 2000) (hil : info.length ≤ 1800) :
    Calls Tryz.prog 67 #[vk, vi, .int .i64 n] w fun e w' => (∃ v, e = .returned (.tuple #[v, .int .i64 (expE n)]) ∧ Rd w' v (expR k info n) ∧ Newer w.heap.size v) ∧ Kp w w' := by
  by_cases h1 : n < 0
  · have hno := exp_no k info (.inl h1)
    rw [hno.1, hno.2]
    have d1 : decide (n < 0) = true := by simp [h1]
    go_enter Tryz.func67, Tryz.ntmps67
    go_wp2_with fail
    go_ret2
    exact ⟨⟨_, rfl, rd_nil _, Newer.nil _ _ _⟩, Kp.refl _⟩
  · by_cases h2 : 8160 < n
    · have hno := exp_no k info (.inr h2)
      rw [hno.1, hno.2]
      have d1 : decide (n < 0) = false := by simp; omega
      have d2 : decide (8160 < n) = true := by simp [h2]
      go_enter Tryz.func67, Tryz.ntmps67
      go_wp2_with fail
      go_ret2
      exact ⟨⟨_, rfl, rd_nil _, Newer.nil _ _ _⟩, Kp.refl _⟩
    · obtain ⟨n, rfl⟩ := Int.eq_ofNat_of_zero_le (show 0 ≤ n by omega)
      have hyes := exp_yes k info (show (n : Int) ≤ 8160 by omega)
      rw [hyes.1, hyes.2]
      exact refExpand_yes vk vi k info n w hk hi hkl hil (by omega)
set_option maxHeartbeats 2000000 in
theorem refLabel_new (vk : Value) (s : ByteArray) (vc : Value) (k ctx : List UInt8) (n : Int) (w : World) (hk : Rd w vk k) (hc : Rd w vc ctx) (hs : s.size ≤ 300) (hcl : ctx.length ≤ 1400) (hkl : k.length ≤ 2000) :
    Calls Tryz.prog 56 #[vk, .string s, vc, .int .i64 n] w fun e w' => (∃ v, e = .returned (.tuple #[v, .int .i64 (expE n)]) ∧ Rd w' v (labR k s.data.toList ctx n) ∧ Newer w.heap.size v) ∧ Kp w w' := by
  have U := u8
  have hsl : s.data.toList.length = s.size := rfl
  by_cases h1 : n < 0
  · have hno := exp_no k (labI s.data.toList ctx n.toNat) (.inl h1)
    unfold labR
    rw [hno.1, hno.2]
    have d1 : decide (n < 0) = true := by simp [h1]
    go_enter Tryz.func56, Tryz.ntmps56
    go_wp2_with fail
    go_ret2
    exact ⟨⟨_, rfl, rd_nil _, Newer.nil _ _ _⟩, Kp.refl _⟩
  · by_cases h2 : 8160 < n
    · have hno := exp_no k (labI s.data.toList ctx n.toNat) (.inr h2)
      unfold labR
      rw [hno.1, hno.2]
      have d1 : decide (n < 0) = false := by simp; omega
      have d2 : decide (8160 < n) = true := by simp [h2]
      go_enter Tryz.func56, Tryz.ntmps56
      go_wp2_with fail
      go_ret2
      exact ⟨⟨_, rfl, rd_nil _, Newer.nil _ _ _⟩, Kp.refl _⟩
    · obtain ⟨n, rfl⟩ := Int.eq_ofNat_of_zero_le (show 0 ≤ n by omega)
      have hll := labI_length s.data.toList ctx n (by omega) hcl
      have HR : Hid (labR k s.data.toList ctx n = expR k (labI s.data.toList ctx n) n) := rfl
      have hok : numOk (n : Int) 2 := ⟨by omega, by omega, by omega, by have : (256 : Int) ^ (2 : Int).toNat = 65536 := by decide
                                                                        omega⟩
      have e1 := num_yes hok
      have e1b : numB (n : Int) 2 = be 2 n := by rw [e1.2]; rfl
      have hnum := Lib.hid (fun W => refNum_any n 2 W (by omega))
      rw [e1.1, e1b] at hnum
      have e3 := row_ok (x := mlsB ++ s.data.toList) (by rw [List.length_append, hsl]; simp [mlsB]; omega)
      have e2 := row_ok (x := ctx) (by omega)
      have hrow1 := Lib.hid (fun W v hW => refRow_any v (mlsB ++ s.data.toList) W hW)
      have hrow2 := Lib.hid (fun W hW => refRow_any vc ctx W hW)
      rw [e3.1] at hrow1
      rw [e2.1] at hrow2
      have hcv := fun W (S : ByteArray) => Lib.run_convert_string_bytes (P := Tryz.prog) W 9 22 5 S Tryz.underlying9 Tryz.underlying22 Tryz.underlying5
      have HI : Hid (labI s.data.toList ctx n = be 2 n ++ rowB (mlsB ++ s.data.toList) ++ rowB ctx) := rfl
      have hln : (be 2 n).length = 2 := be_length _ _
      have hl2 : (be 2 n).length + (rowB (mlsB ++ s.data.toList)).length + (rowB ctx).length ≤ 1800 := by rw [HI.out, List.length_append, List.length_append] at hll; exact hll
      have hsz : (⟨#[77, 76, 83, 32, 49, 46, 48, 32]⟩ ++ s : ByteArray).size = 8 + s.size := by rw [ByteArray.size_append]; rfl
      have hdt : (⟨#[77, 76, 83, 32, 49, 46, 48, 32]⟩ ++ s : ByteArray).data.toList = mlsB ++ s.data.toList := by rw [ByteArray.data_append, Array.toList_append]; rfl
      have hrb := Lib.hid (fun W => show Rd (Lib.bytesWorld W 5 (⟨#[77, 76, 83, 32, 49, 46, 48, 32]⟩ ++ s)) (.slice (some ⟨W.heap.size, 0, none⟩) (8 + s.size) (grownCap W (8 + s.size) 0 5)) (mlsB ++ s.data.toList) from by
        have := rd_bytesWorld W 5 (⟨#[77, 76, 83, 32, 49, 46, 48, 32]⟩ ++ s) (by rw [hsz]; omega)
        rw [hdt, hsz] at this
        exact this)
      have hkb := Lib.hid (fun W => kp_bytesWorld W 5 (⟨#[77, 76, 83, 32, 49, 46, 48, 32]⟩ ++ s))
      have HD := Lib.hid hsz
      have d1 : decide ((n : Int) < 0) = false := by simp
      have d2 : decide (8160 < (n : Int)) = false := by simp; omega
      have HL2 := Lib.hid hl2
      have HX := Lib.hid (fun W v5 (hk' : Rd W vk k) (h5 : Rd W v5 (labI s.data.toList ctx n)) => refExpand_new vk v5 k (labI s.data.toList ctx n) n W hk' h5 hkl hll)
      clear hok e1 e1b e3 e2 hll hsz hdt hl2 hln
      rw [HR.out]
      go_enter Tryz.func56, Tryz.ntmps56
      go_wp2_with (first
        | (go_at_call 48; refine (hnum.out _).mono ?_; rintro e w1 ⟨v1, rfl, o1, k1⟩; obtain ⟨a1, n1, c1, rfl⟩ := o1.rd.sl))
      refine (hrow1.out _ _ (hrb.out w1)).mono ?_
      rintro e w2 ⟨v2, rfl, o2, k2⟩
      obtain ⟨a2, n2, c2, rfl⟩ := o2.rd.sl
      have kb := (hkb.out w1).trans k2
      have hs2 := kb.size
      have hcc := (hc.kp k1).kp kb
      go_wp2_with fail
      refine (hrow2.out _ hcc).mono ?_
      rintro e w3 ⟨v3, rfl, o3, k3⟩
      obtain ⟨a3, n3, c3, rfl⟩ := o3.rd.sl
      have k13 := kb.trans k3
      have kw3 := k1.trans k13
      have r2 := o2.rd.kp k3
      have o13 := o1.kp k13
      have hb1 : ∀ b, (Value.slice a1 n1 c1).ownBlock = some b → b < w2.heap.size := fun b e => by have := o1.lt b e; omega
      go_wp2_with (at_builtin; first
        | (refine wpList_append_ow (o := ⟨some 42, _, _, _, _, _⟩) U rfl _ _ rfl w.heap.size _ (be 2 n) rfl o13 _ (rowB (mlsB ++ s.data.toList)) rfl r2 (by have := HL2.out; omega) kw3.size ?_; intro v4 w4 o4 g4 _; have r3 := o3.rd.grown g4 (fun b o n' c' e e2 => by have h1 := o3.own_ge b (by rw [e]; rfl); have h2 := hb1 b e2.symm; omega); have k4 : Kp w w4 := Kp.grown kw3 g4 o1.own_ge)
        | (refine wpList_append_ow (o := ⟨some 44, _, _, _, _, _⟩) U rfl _ _ rfl w.heap.size _ (be 2 n ++ rowB (mlsB ++ s.data.toList)) rfl o4 _ (rowB ctx) rfl r3 (by have := HL2.out; rw [List.length_append]; omega) k4.size ?_; intro v5 w5 o5 g5 _; have k5 : Kp w w5 := Kp.grown k4 g5 o4.own_ge))
      refine (HX.out _ _ (hk.kp k5) (by rw [HI.out]; exact o5.rd)).mono ?_
      rintro e w6 ⟨⟨v6, rfl, r6, n6⟩, k6⟩
      go_wp2_with fail
      go_ret2
      exact ⟨⟨_, rfl, r6, n6.kp k5⟩, k5.trans k6⟩
end Go.Proofs.YtigpgcjbpoaclaaGreatDoor

/- pyxref04: Extract, Expand. -/
import Derived.Test.YtdcbljfacmidjaaGreatKdfAll
import Derived.Test.YtdcbljfacmidjaaGreatMacAll
import Derived.RegionTactic
import Derived.BigRegion
import Derived.Maps.AppendAt
import Derived.Lib.SmallJoins
set_option linter.unusedVariables false
set_option linter.unusedSimpArgs false
namespace Go.Proofs.YtdcbljfacmidjaaGreat
open Go.RowKit

theorem Rd.grown {w w' : World} {v : Value} {l : List UInt8} {r : Option Nat} (h : Rd w v l) (hg : w.grownBy w' r) (hx : In (fun b => some b ≠ r) v) : Rd w' v l :=
  h.held (R := fun b => some b ≠ r) ⟨hg.size, fun k hk hr => hg.block k hk hr⟩ hx

theorem Rd.takes {w : World} {a : Option Addr} {m c : Nat} {l : List UInt8} (h : Rd w (.slice a m c) l) (n : Nat) (hn : n ≤ m) : Rd w (.slice a n c) (l.take n) := by
  obtain ⟨a', c', e, h1, h2, h3, h4⟩ := h
  simp only [Value.slice.injEq] at e
  obtain ⟨rfl, rfl, rfl⟩ := e
  have hl : (l.take n).length = n := by rw [List.length_take]; omega
  exact ⟨a, c, by rw [hl], by omega, h2, h3, fun x hx i hi => by rw [h4 x hx i (by omega), List.getElem_take]⟩

theorem be_one (j : Nat) : be 1 j = [UInt8.ofNat j] := by simp [be]
theorem u8_ofNat (j : Nat) (h : j ≤ 255) : IntKind.u8.wrap (j : Int) = ((UInt8.ofNat j).toNat : Int) := by
  rw [IntKind.wrap_u8, UInt8.toNat_ofNat']
  omega

set_option maxRecDepth 100000 in
set_option maxHeartbeats 2000000 in
theorem refExpand_yes (vk vi : Value) (k info : List UInt8) (n : Nat) (w : World) (hk : Rd w vk k) (hi : Rd w vi info) (hkl : k.length ≤ 2000) (hil : info.length ≤ 1800) (hn : n ≤ 8160) :
    Calls Tryz.prog 48 #[vk, vi, .int .i64 n] w fun e w' => (∃ v, e = .returned (.tuple #[v, .int .i64 0]) ∧ Rd w' v (expL k info n)) ∧ Kp w w' := by
  have U := u8
  obtain ⟨ai, ci, rfl, _, _⟩ := hi.shape
  have d1 : decide ((n : Int) < 0) = false := by simp
  have d2 : decide (8160 < (n : Int)) = false := by simp; omega
  have HC := Lib.hid (catB_length (expT k info) (expT_length k info))
  have HS : Hid (∀ j, catB (expT k info) (j + 1) = catB (expT k info) j ++ expT k info j) := fun _ => rfl
  have HT := Lib.hid (expT_length k info)
  have HP := Lib.hid (expP_length k info)
  have HX := Lib.hid (expT_step k info)
  have HE : Hid (∀ j, expP k info (j + 1) = expT k info j) := fun _ => rfl
  have HF := Lib.hid (fun j h => firstB_eq (expT k info) (expT_length k info) n j h)
  go_enter Tryz.func48, Tryz.ntmps48
  go_wp2_with fail
  go_loopw [8, 9, 10] (fun vo vt p wr => ∃ j : Nat, 32 * j < n + 32 ∧ p = .int .i64 ((j : Int) + 1) ∧ Ow 5 wr w.heap.size vo (catB (expT k info) j) ∧ Rd wr vt (expP k info j) ∧ Kp w wr) (fun _ _ p _ => 300 - (intOf p).toNat)
  case atStart => exact ⟨0, by omega, rfl, Ow.nil _ _ _, rd_nil _, Kp.refl _⟩
  case round =>
    obtain ⟨j, hj, rfl, ho, ht, hkp⟩ := hrel
    have hsz := hkp.size
    obtain ⟨ao, co, rfl, q1, q2⟩ := ho.rd.shape
    have hcl := HC.out j
    unfold maxLen at q2
    rw [hcl] at ho q1 ⊢
    by_cases hlt : 32 * j < n
    · have hq : 32 * (j : Int) < (n : Int) := by omega
      have hp := HP.out j
      have hx := HX.out j
      have hs := HS.out j
      have he := HE.out j
      have htl := HT.out j
      have hjl : j + 1 ≤ 255 := by omega
      have hb := u8_ofNat (j + 1) hjl
      have hb1 := be_one (j + 1)
      rw [Int.natCast_add, Int.natCast_one] at hb
      rw [hb1] at hx
      obtain ⟨x, hxx⟩ : ∃ x, UInt8.ofNat (j + 1) = x := ⟨_, rfl⟩
      rw [hxx] at hb hx
      obtain ⟨T, hT⟩ : ∃ T, expP k info j = T := ⟨_, rfl⟩
      obtain ⟨L, hL⟩ : ∃ L, catB (expT k info) j = L := ⟨_, rfl⟩
      rw [hT] at ht hp hx
      rw [hL] at ho hcl hs
      have HXX := Lib.hid hx
      have HSS := Lib.hid hs
      have HEE := Lib.hid he
      have HTL := Lib.hid htl
      have hiw := hi.kp hkp
      have hkw := hk.kp hkp
      clear hx hs he hb1 hT hL htl
      go_wp2_with (at_builtin; first
        | (refine wpList_append_ow (o := ⟨some 26, _, _, _, _, _⟩) U rfl _ _ rfl wr.heap.size _ _ rfl (Ow.lit wr 5 wr.heap.size 0 #[] [] (Nat.le_refl _) rfl (by decide) rfl) _ T rfl (ht.kp ((Kp.refl _).alloc _)) (by simp; omega) (by simp) ?_; intro v1 x1 o1 g1 _; have k1 : Kp wr x1 := Kp.grown ((Kp.refl wr).alloc _) g1 (by intro k e; cases e; exact Nat.le_refl _); rw [List.nil_append] at o1)
        | (refine wpList_append_ow (o := ⟨some 28, _, _, _, _, _⟩) U rfl _ _ rfl wr.heap.size _ _ rfl o1 _ info rfl (hiw.kp k1) (by omega) k1.size ?_; intro v2 x2 o2 g2 _; have k2 : Kp wr x2 := Kp.grown k1 g2 o1.own_ge)
        | (refine wpList_append_ow (o := ⟨some 32, _, _, _, _, _⟩) U rfl _ _ rfl wr.heap.size _ _ rfl (o2.kp ((Kp.refl _).alloc _)) _ [x] rfl (Rd.box x2 5 _ x rfl) (by rw [List.length_append]; simp; omega) (k2.alloc _).size ?_; intro v3 x3 o3 g3 _; have k3 : Kp wr x3 := Kp.grown (k2.alloc _) g3 o2.own_ge))
      have hl3 : (T ++ info ++ [x]).length ≤ 1900 := by rw [List.length_append, List.length_append]; simp; omega
      refine (refMac_sum vk v3 k (T ++ info ++ [x]) _ (hkw.kp k3) o3.rd hkl hl3).mono ?_
      rw [← HXX.out]
      rintro e x4 ⟨⟨v4, rfl, o4⟩, k4⟩
      have k4' := k3.trans k4
      go_wp2_with (at_builtin; first
        | (refine wpList_append_ow (o := ⟨some 38, _, _, _, _, _⟩) U rfl _ _ rfl w.heap.size _ L rfl (ho.kp k4') _ (expT k info j) rfl o4.rd (by rw [HTL.out]; omega) (hkp.trans k4').size ?_; intro v5 x5 o5 g5 _; have hr5 := o4.rd.grown g5 (fun b o n' c e e2 => by have h1 := o4.own_ge b (by rw [e]; rfl); have h2 := ho.lt b e2.symm; have h3 := k3.size; omega); have k5 : Kp w x5 := Kp.grown (hkp.trans k4') g5 ho.own_ge))
      go_roundw
      case rel => exact ⟨j + 1, by omega, by go_num, by rw [HSS.out]; exact o5, by rw [HEE.out]; exact hr5, k5⟩
      case measure => simp [intOf]; omega
    · have hq : ¬ 32 * (j : Int) < (n : Int) := by omega
      have hfe := HF.out j (by omega)
      have HFE := Lib.hid hfe
      clear hfe ht
      have hnj : (n : Int) ≤ 32 * (j : Int) := by omega
      have hnc : (n : Int) ≤ (co : Int) := by omega
      go_wp2_with fail
      go_ret2
      exact ⟨⟨_, rfl, by rw [show expL k info n = (catB (expT k info) j).take n from HFE.out]; exact ho.rd.takes n (by omega)⟩, hkp⟩

set_option maxHeartbeats 1000000 in
theorem refExpand_any (vk vi : Value) (k info : List UInt8) (n : Int) (w : World) (hk : Rd w vk k) (hi : Rd w vi info) (hkl : k.length ≤ 2000) (hil : info.length ≤ 1800) :
    Calls Tryz.prog 48 #[vk, vi, .int .i64 n] w fun e w' => (∃ v, e = .returned (.tuple #[v, .int .i64 (expE n)]) ∧ Rd w' v (expR k info n)) ∧ Kp w w' := by
  by_cases h1 : n < 0
  · have hno := exp_no k info (.inl h1)
    rw [hno.1, hno.2]
    have d1 : decide (n < 0) = true := by simp [h1]
    go_enter Tryz.func48, Tryz.ntmps48
    go_wp2_with fail
    go_ret2
    exact ⟨⟨_, rfl, rd_nil _⟩, Kp.refl _⟩
  · by_cases h2 : 8160 < n
    · have hno := exp_no k info (.inr h2)
      rw [hno.1, hno.2]
      have d1 : decide (n < 0) = false := by simp; omega
      have d2 : decide (8160 < n) = true := by simp [h2]
      go_enter Tryz.func48, Tryz.ntmps48
      go_wp2_with fail
      go_ret2
      exact ⟨⟨_, rfl, rd_nil _⟩, Kp.refl _⟩
    · obtain ⟨n, rfl⟩ := Int.eq_ofNat_of_zero_le (show 0 ≤ n by omega)
      have hyes := exp_yes k info (show (n : Int) ≤ 8160 by omega)
      rw [hyes.1, hyes.2]
      exact refExpand_yes vk vi k info n w hk hi hkl hil (by omega)

set_option maxHeartbeats 2000000 in
theorem refLabel_any (vk : Value) (s : ByteArray) (vc : Value) (k ctx : List UInt8) (n : Int) (w : World) (hk : Rd w vk k) (hc : Rd w vc ctx) (hs : s.size ≤ 300) (hcl : ctx.length ≤ 1400) (hkl : k.length ≤ 2000) :
    Calls Tryz.prog 27 #[vk, .string s, vc, .int .i64 n] w fun e w' => (∃ v, e = .returned (.tuple #[v, .int .i64 (expE n)]) ∧ Rd w' v (labR k s.data.toList ctx n)) ∧ Kp w w' := by
  have U := u8
  have hsl : s.data.toList.length = s.size := rfl
  by_cases h1 : n < 0
  · have hno := exp_no k (labI s.data.toList ctx n.toNat) (.inl h1)
    unfold labR
    rw [hno.1, hno.2]
    have d1 : decide (n < 0) = true := by simp [h1]
    go_enter Tryz.func27, Tryz.ntmps27
    go_wp2_with fail
    go_ret2
    exact ⟨⟨_, rfl, rd_nil _⟩, Kp.refl _⟩
  · by_cases h2 : 8160 < n
    · have hno := exp_no k (labI s.data.toList ctx n.toNat) (.inr h2)
      unfold labR
      rw [hno.1, hno.2]
      have d1 : decide (n < 0) = false := by simp; omega
      have d2 : decide (8160 < n) = true := by simp [h2]
      go_enter Tryz.func27, Tryz.ntmps27
      go_wp2_with fail
      go_ret2
      exact ⟨⟨_, rfl, rd_nil _⟩, Kp.refl _⟩
    · obtain ⟨n, rfl⟩ := Int.eq_ofNat_of_zero_le (show 0 ≤ n by omega)
      have hll := labI_length s.data.toList ctx n (by omega) hcl
      have HR : Hid (labR k s.data.toList ctx n = expR k (labI s.data.toList ctx n) n) := rfl
      have hok : numOk (n : Int) 2 := ⟨by omega, by omega, by omega, by have : (256 : Int) ^ (2 : Int).toNat = 65536 := by decide
                                                                        omega⟩
      have e1 := num_yes hok
      have e1b : numB (n : Int) 2 = be 2 n := by rw [e1.2]; rfl
      have hnum := Lib.hid (fun W => refNum_any n 2 W (by omega))
      rw [e1.1, e1b] at hnum
      have e3 := row_ok (x := mlsB ++ s.data.toList) (by rw [List.length_append, hsl]; simp [mlsB]; omega)
      have e2 := row_ok (x := ctx) (by omega)
      have hrow1 := Lib.hid (fun W v hW => refRow_any v (mlsB ++ s.data.toList) W hW)
      have hrow2 := Lib.hid (fun W hW => refRow_any vc ctx W hW)
      rw [e3.1] at hrow1
      rw [e2.1] at hrow2
      have hcv := fun W (S : ByteArray) => Lib.run_convert_string_bytes (P := Tryz.prog) W 9 22 5 S Tryz.underlying9 Tryz.underlying22 Tryz.underlying5
      have HI : Hid (labI s.data.toList ctx n = be 2 n ++ rowB (mlsB ++ s.data.toList) ++ rowB ctx) := rfl
      have hln : (be 2 n).length = 2 := be_length _ _
      have hl2 : (be 2 n).length + (rowB (mlsB ++ s.data.toList)).length + (rowB ctx).length ≤ 1800 := by rw [HI.out, List.length_append, List.length_append] at hll; exact hll
      have hsz : (⟨#[77, 76, 83, 32, 49, 46, 48, 32]⟩ ++ s : ByteArray).size = 8 + s.size := by rw [ByteArray.size_append]; rfl
      have hdt : (⟨#[77, 76, 83, 32, 49, 46, 48, 32]⟩ ++ s : ByteArray).data.toList = mlsB ++ s.data.toList := by rw [ByteArray.data_append, Array.toList_append]; rfl
      have hrb := Lib.hid (fun W => show Rd (Lib.bytesWorld W 5 (⟨#[77, 76, 83, 32, 49, 46, 48, 32]⟩ ++ s)) (.slice (some ⟨W.heap.size, 0, none⟩) (8 + s.size) (grownCap W (8 + s.size) 0 5)) (mlsB ++ s.data.toList) from by
        have := rd_bytesWorld W 5 (⟨#[77, 76, 83, 32, 49, 46, 48, 32]⟩ ++ s) (by rw [hsz]; omega)
        rw [hdt, hsz] at this
        exact this)
      have hkb := Lib.hid (fun W => kp_bytesWorld W 5 (⟨#[77, 76, 83, 32, 49, 46, 48, 32]⟩ ++ s))
      have HD := Lib.hid hsz
      have d1 : decide ((n : Int) < 0) = false := by simp
      have d2 : decide (8160 < (n : Int)) = false := by simp; omega
      have HL2 := Lib.hid hl2
      have HX := Lib.hid (fun W v5 (hk' : Rd W vk k) (h5 : Rd W v5 (labI s.data.toList ctx n)) => refExpand_any vk v5 k (labI s.data.toList ctx n) n W hk' h5 hkl hll)
      clear hok e1 e1b e3 e2 hll hsz hdt hl2 hln
      rw [HR.out]
      go_enter Tryz.func27, Tryz.ntmps27
      go_wp2_with (first
        | (go_at_call 46; refine (hnum.out _).mono ?_; rintro e w1 ⟨v1, rfl, o1, k1⟩; obtain ⟨a1, n1, c1, rfl⟩ := o1.rd.sl))
      refine (hrow1.out _ _ (hrb.out w1)).mono ?_
      rintro e w2 ⟨v2, rfl, o2, k2⟩
      obtain ⟨a2, n2, c2, rfl⟩ := o2.rd.sl
      have kb := (hkb.out w1).trans k2
      have hs2 := kb.size
      have hcc := (hc.kp k1).kp kb
      go_wp2_with fail
      refine (hrow2.out _ hcc).mono ?_
      rintro e w3 ⟨v3, rfl, o3, k3⟩
      obtain ⟨a3, n3, c3, rfl⟩ := o3.rd.sl
      have k13 := kb.trans k3
      have kw3 := k1.trans k13
      have r2 := o2.rd.kp k3
      have o13 := o1.kp k13
      have hb1 : ∀ b, (Value.slice a1 n1 c1).ownBlock = some b → b < w2.heap.size := fun b e => by have := o1.lt b e; omega
      go_wp2_with (at_builtin; first
        | (refine wpList_append_ow (o := ⟨some 42, _, _, _, _, _⟩) U rfl _ _ rfl w.heap.size _ (be 2 n) rfl o13 _ (rowB (mlsB ++ s.data.toList)) rfl r2 (by have := HL2.out; omega) kw3.size ?_; intro v4 w4 o4 g4 _; have r3 := o3.rd.grown g4 (fun b o n' c' e e2 => by have h1 := o3.own_ge b (by rw [e]; rfl); have h2 := hb1 b e2.symm; omega); have k4 : Kp w w4 := Kp.grown kw3 g4 o1.own_ge)
        | (refine wpList_append_ow (o := ⟨some 44, _, _, _, _, _⟩) U rfl _ _ rfl w.heap.size _ (be 2 n ++ rowB (mlsB ++ s.data.toList)) rfl o4 _ (rowB ctx) rfl r3 (by have := HL2.out; rw [List.length_append]; omega) k4.size ?_; intro v5 w5 o5 g5 _; have k5 : Kp w w5 := Kp.grown k4 g5 o4.own_ge))
      refine (HX.out _ _ (hk.kp k5) (by rw [HI.out]; exact o5.rd)).mono ?_
      rintro e w6 ⟨⟨v6, rfl, r6⟩, k6⟩
      go_wp2_with fail
      go_ret2
      exact ⟨⟨_, rfl, r6⟩, k5.trans k6⟩

end Go.Proofs.YtdcbljfacmidjaaGreat

/- pyxref04.Pass. -/
set_option linter.unusedVariables false
set_option linter.unusedSimpArgs false
namespace Go.Proofs.YtdcbljfacmidjaaGreat
open Go.RowKit

end Go.Proofs.YtdcbljfacmidjaaGreat

/- append of bytes, onto memory of the call's own: where the row lies then. Nothing of a dump. -/
set_option linter.unusedVariables false
set_option linter.unusedSimpArgs false
namespace Go.Proofs.YtdcbljfacmidjaaGreat
open Go.RowKit

theorem wpList_append_at {P : Program} {w : World} {t e : TypeId} (U : U8 P t e) {ops : Array Oper} {rest : List Oper} {o : Oper} {a : Act} {Q : Exit → Act → World → Prop} (hgd : o.guard = none) (s x : Operand)
    (ho : o.op = .call { callee := .builtin .append, args := #[s, x], argTypes := #[t, t] })
    (B : Nat) (v : Value) (l : List UInt8) (hs : a.eval s = v) (hown : Ow e w B v l) (u : Value) (m : List UInt8) (hx : a.eval x = u) (hu : Rd w u m)
    (hlen : l.length + m.length ≤ 140737488355328) (hbase : B ≤ w.heap.size)
    (h : ∀ v' w', Ow e w' B v' (l ++ m) → w.grownBy w' v.ownBlock → (v'.ownBlock = v.ownBlock ∨ v'.ownBlock = some w.heap.size) → wpList P ops Q rest (a.put o.dst v') w') : wpList P ops Q (o :: rest) a w := by
  obtain ⟨i, hi, hz, hsize, hby⟩ := U.hi
  obtain ⟨ad, c, rfl, hc, hm, hnil, hcell⟩ := hu
  cases ad with
  | none =>
    have hc0 := hnil rfl
    have hm0 : m = [] := List.eq_nil_of_length_eq_zero (by omega)
    subst hm0
    subst hc0
    refine wpList_append_own_none hgd s x t ho B e i 1 U.ht hi v l.length (Lib.byteCells l) hs hown hx ?_
    exact h v w (by simpa using hown) ⟨rfl, rfl, rfl, Nat.le_refl _, fun _ _ _ => rfl⟩ (.inl rfl)
  | some ad =>
    refine wpList_append_own_at _ hgd s x t ho B e i (.int .u8 0) 1 1 U.ht hi hz hsize hby rfl (by decide) v l.length (Lib.byteCells l) hs hown ad m.length c (Lib.byteCells m) hx (by rw [byteCells_length]; omega) (fun j z hj => ?_) (fun z hz => ?_) (by unfold maxLen; omega) (by omega) hbase
      (fun v' w' h1 h2 _ h4 => h v' w' (by unfold Ow; rw [List.length_append, byteCells_append]; exact h1) h2 h4)
    · have hjl : j < m.length := by
        have := (List.getElem?_eq_some_iff.1 hj).1
        rwa [byteCells_length] at this
      rw [byteCells_get m j hjl] at hj
      cases hj
      exact hcell ad rfl j hjl
    · obtain ⟨b, _, rfl⟩ := List.mem_map.1 hz
      rfl
/-- What a call's own row holds, behind an append onto another one. -/
theorem Ow.kept {e : TypeId} {w w' : World} {B : Nat} {v : Value} {l : List UInt8} {row : Option Nat} (h : Ow e w B v l) (hg : w.grownBy w' row) (hne : v.ownBlock = none ∨ v.ownBlock ≠ row) : Ow e w' B v l :=
  World.ownsRow.kept h hg hne
end Go.Proofs.YtdcbljfacmidjaaGreat

/- The document's examples, at the head of all statements of layer 4: shown. -/
set_option linter.unusedVariables false
set_option linter.unusedSimpArgs false
namespace Go.Proofs.YtdcbljfacmidjaaGreat
open Go.RowKit

theorem rd_marked4 (w : World) (T : TypeId) (l : List UInt8) (hl : l.length ≤ 1000000) : Rd (w.alloc (.cells (Lib.byteCells l).toArray T (l.length, l.length + 1))) (.slice (some ⟨w.heap.size, 0, none⟩) l.length l.length) l := by
  refine ⟨_, l.length, rfl, Nat.le_refl _, by unfold maxLen; omega, fun h => (by cases h), fun x hx i hi => ?_⟩
  cases hx
  have hg := heap_alloc_new w (.cells (Lib.byteCells l).toArray T (l.length, l.length + 1))
  have e : (⟨w.heap.size, 0, none⟩ : Addr).add i = ⟨w.heap.size, i, none⟩ := by unfold Addr.add; split <;> simp_all
  rw [e, cell_of_row _ _ i _ _ _ hg]
  simp [Lib.byteCells, hi]

def pwB : List UInt8 := [112, 97, 115, 115, 119, 111, 114, 100]
def stB : List UInt8 := [115, 97, 108, 116]
def saltB : List UInt8 := [0, 1, 2, 3, 4, 5, 6, 7, 8, 9, 10, 11, 12]
def pass1B : List UInt8 := [18, 15, 182, 207, 252, 248, 179, 44, 67, 231, 34, 82, 86, 196, 248, 55, 168, 101, 72, 201, 44, 204, 53, 72, 8, 5, 152, 124, 183, 11, 225, 123]
def pass2B : List UInt8 := [174, 77, 12, 149, 175, 107, 70, 211, 45, 10, 223, 249, 40, 240, 109, 208, 42, 48, 63, 142, 243, 194, 81, 223, 214, 226, 216, 90, 149, 71, 76, 67]
def extB : List UInt8 := [7, 119, 9, 54, 44, 46, 50, 223, 13, 220, 63, 13, 196, 123, 186, 99, 144, 182, 199, 59, 181, 15, 156, 49, 34, 236, 132, 74, 215, 194, 179, 229]
theorem pass1_shown : passR pwB stB 1 32 = pass1B := by decide +kernel
theorem pass2_shown : passR pwB stB 2 32 = pass2B := by decide +kernel
theorem ext_shown : macB saltB (List.replicate 22 11) = extB := by decide +kernel
theorem saltB_take (i : Nat) (h : i < 13) : saltB.take i ++ [UInt8.ofNat i] = saltB.take (i + 1) := by
  have : ∀ i : Fin 13, saltB.take i.1 ++ [UInt8.ofNat i.1] = saltB.take (i.1 + 1) := by decide
  exact this ⟨i, h⟩
theorem u8_ofNat' (j : Nat) (h : j ≤ 255) : IntKind.u8.wrap (j : Int) = ((UInt8.ofNat j).toNat : Int) := by
  rw [IntKind.wrap_u8, UInt8.toNat_ofNat']
  omega

theorem rd_pw (w : World) (T : TypeId) (g : Nat) (hg : g = w.heap.size) : Rd (w.alloc (.cells #[.int .u8 112, .int .u8 97, .int .u8 115, .int .u8 115, .int .u8 119, .int .u8 111, .int .u8 114, .int .u8 100] T (8, 9))) (.slice (some ⟨g, 0, none⟩) 8 8) pwB := by
  subst hg
  exact rd_marked4 w T pwB (by decide)
theorem rd_st (w : World) (T : TypeId) (g : Nat) (hg : g = w.heap.size) : Rd (w.alloc (.cells #[.int .u8 115, .int .u8 97, .int .u8 108, .int .u8 116] T (4, 5))) (.slice (some ⟨g, 0, none⟩) 4 4) stB := by
  subst hg
  exact rd_marked4 w T stB (by decide)
theorem pw_conv (w : World) : (convert 22 22 (.slice (some ⟨w.heap.size, 0, none⟩) 8 8)).run Tryz.prog (w.alloc (.cells #[.int .u8 112, .int .u8 97, .int .u8 115, .int .u8 115, .int .u8 119, .int .u8 111, .int .u8 114, .int .u8 100] 5)) =
      .ok (.slice (some ⟨w.heap.size, 0, none⟩) 8 8) (w.alloc (.cells #[.int .u8 112, .int .u8 97, .int .u8 115, .int .u8 115, .int .u8 119, .int .u8 111, .int .u8 114, .int .u8 100] 5 (8, 9))) ∧
    (convert 22 22 (.slice (some ⟨w.heap.size + 1, 0, none⟩) 4 4)).run Tryz.prog ((w.alloc (.cells #[.int .u8 112, .int .u8 97, .int .u8 115, .int .u8 115, .int .u8 119, .int .u8 111, .int .u8 114, .int .u8 100] 5 (8, 9))).alloc (.cells #[.int .u8 115, .int .u8 97, .int .u8 108, .int .u8 116] 5)) =
      .ok (.slice (some ⟨w.heap.size + 1, 0, none⟩) 4 4) ((w.alloc (.cells #[.int .u8 112, .int .u8 97, .int .u8 115, .int .u8 115, .int .u8 119, .int .u8 111, .int .u8 114, .int .u8 100] 5 (8, 9))).alloc (.cells #[.int .u8 115, .int .u8 97, .int .u8 108, .int .u8 116] 5 (4, 5))) := by
  have h1 := Lib.run_convert_bytes_const (P := Tryz.prog) w 22 5 #[.int .u8 112, .int .u8 97, .int .u8 115, .int .u8 115, .int .u8 119, .int .u8 111, .int .u8 114, .int .u8 100] 8 8 Tryz.underlying22 Tryz.underlying5
  have h2 := Joins.run_convert_bytes_const_at (P := Tryz.prog) (w.alloc (.cells #[.int .u8 112, .int .u8 97, .int .u8 115, .int .u8 115, .int .u8 119, .int .u8 111, .int .u8 114, .int .u8 100] 5 (8, 9))) 22 5 #[.int .u8 115, .int .u8 97, .int .u8 108, .int .u8 116] 4 4 (w.heap.size + 1) (by simp) Tryz.underlying22 Tryz.underlying5
  exact ⟨h1, h2⟩
/-- Behind an append a row parts from another one that it parted from. -/
theorem own_ne {e : TypeId} {w : World} {B n : Nat} {v1 v2 v3 : Value} {l : List UInt8} (h : Ow e w B v1 l) (hne : v1.ownBlock ≠ v2.ownBlock) (hn : w.heap.size ≤ n) (h3 : v3.ownBlock = v2.ownBlock ∨ v3.ownBlock = some n) : v3.ownBlock ≠ v1.ownBlock := by
  intro e2
  rcases h3 with h3 | h3
  · exact hne (e2.symm.trans h3)
  · have := (World.ownsRow.lt h n (e2.symm.trans h3)).2
    omega

theorem own_some {v2 v3 : Value} {n : Nat} (h3 : v3.ownBlock = v2.ownBlock ∨ v3.ownBlock = some n) (h : v2.ownBlock ≠ none) : v3.ownBlock ≠ none := by
  rcases h3 with h3 | h3
  · rw [h3]; exact h
  · rw [h3]; simp

end Go.Proofs.YtdcbljfacmidjaaGreat

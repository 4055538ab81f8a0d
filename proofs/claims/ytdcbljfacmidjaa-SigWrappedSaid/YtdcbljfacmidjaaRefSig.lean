/- pyxref07: Public, tag, Sign, Verify; pyxlaw07.told. -/
import Derived.Test.YtdcbljfacmidjaaSigPlain
import Derived.Test.YtdcbljfacmidjaaKdfRef
import Derived.Test.YtdcbljfacmidjaaMacAll
set_option linter.unusedVariables false
set_option linter.unusedSimpArgs false
namespace Go.Proofs.Ytdcbljfacmidjaa
open Go.RowKit

set_option maxHeartbeats 1000000 in
theorem refPublic_any (u : Value) (seed : List UInt8) (w : World) (hu : Rd w u seed) :
    Calls Try.prog 9 #[u] w fun e w' => (∃ r, e = .returned (.tuple #[r, .int .i64 (pubE seed)]) ∧ Rd w' r (pubR seed)) ∧ Kp w w' := by
  obtain ⟨a1, c1, rfl, h1, h2⟩ := hu.shape
  by_cases hk : seed.length = 32
  · obtain ⟨e0, e1⟩ := pub_yes hk
    rw [e0, e1]
    have HL : Hid (Calls Try.prog 21 #[.slice a1 seed.length c1, .string ⟨#[112, 117, 98, 108, 105, 99]⟩, .slice none 0 0, .int .i64 32] w fun e w' => (∃ v, e = .returned (.tuple #[v, .int .i64 0]) ∧ Rd w' v (pubB seed)) ∧ Kp w w') := refLabel_any _ ⟨#[112, 117, 98, 108, 105, 99]⟩ _ seed [] 32 w hu (rd_nil w) (by decide) (by simp) (by omega)
    rw [hk] at HL h1 ⊢
    clear hu hk e0 e1
    go_enter Try.func9, Try.ntmps9
    go_wp2_with fail
    refine HL.out.mono ?_; rintro _ w1 ⟨⟨v1, rfl, r1⟩, k1⟩
    obtain ⟨a, n, c, rfl⟩ := r1.sl
    go_wp2_with fail
    go_ret2
    exact ⟨⟨_, rfl, r1⟩, k1⟩
  · obtain ⟨e0, e1⟩ := pub_no hk
    rw [e0, e1]
    have hb2 : ((seed.length : Int) == 32) = false := beq_eq_false_iff_ne.2 (by omega)
    have hb3 : ¬ (seed.length : Int) = 32 := by omega
    go_enter Try.func9, Try.ntmps9
    go_wp2_with fail
    go_ret2
    exact ⟨⟨_, rfl, rd_nil _⟩, Kp.refl _⟩

set_option maxHeartbeats 2000000 in
theorem refSigTag_any (vk : Value) (s : ByteArray) (vb : Value) (k b : List UInt8) (w : World) (hk : Rd w vk k) (hb : Rd w vb b) (hs : s.size ≤ 300) (hbl : b.length ≤ 1400) (hkl : k.length ≤ 2000) :
    Calls Try.prog 23 #[vk, .string s, vb] w fun e w' => (∃ v, e = .returned v ∧ Rd w' v (sigB k s.data.toList b)) ∧ Kp w w' := by
  have U := u8
  have hsl : s.data.toList.length = s.size := rfl
  have hll := signedB_length s.data.toList b (by omega) hbl
  have e3 := row_ok (x := mlsB ++ s.data.toList) (by rw [List.length_append, hsl]; simp [mlsB]; omega)
  have e2 := row_ok (x := b) (by omega)
  have hrow1 := Lib.hid (fun W v hW => refRow_any v (mlsB ++ s.data.toList) W hW)
  have hrow2 := Lib.hid (fun W hW => refRow_any vb b W hW)
  rw [e3.1] at hrow1
  rw [e2.1] at hrow2
  have hcv := fun W (S : ByteArray) => Lib.run_convert_string_bytes (P := Try.prog) W 9 22 5 S Try.underlying9 Try.underlying22 Try.underlying5
  have HI : Hid (rowB (mlsB ++ s.data.toList) ++ rowB b = signedB s.data.toList b) := rfl
  have hl2 : (rowB (mlsB ++ s.data.toList)).length + (rowB b).length ≤ 1800 := by rw [← List.length_append, HI.out]; exact hll
  have hsz : (⟨#[77, 76, 83, 32, 49, 46, 48, 32]⟩ ++ s : ByteArray).size = 8 + s.size := by rw [ByteArray.size_append]; rfl
  have hdt : (⟨#[77, 76, 83, 32, 49, 46, 48, 32]⟩ ++ s : ByteArray).data.toList = mlsB ++ s.data.toList := by rw [ByteArray.data_append, Array.toList_append]; rfl
  have hrb := Lib.hid (fun W => show Rd (Lib.bytesWorld W 5 (⟨#[77, 76, 83, 32, 49, 46, 48, 32]⟩ ++ s)) (.slice (some ⟨W.heap.size, 0, none⟩) (8 + s.size) (grownCap W (8 + s.size) 0 5)) (mlsB ++ s.data.toList) from by
    have := rd_bytesWorld W 5 (⟨#[77, 76, 83, 32, 49, 46, 48, 32]⟩ ++ s) (by rw [hsz]; omega)
    rw [hdt, hsz] at this
    exact this)
  have hkb := Lib.hid (fun W => kp_bytesWorld W 5 (⟨#[77, 76, 83, 32, 49, 46, 48, 32]⟩ ++ s))
  have HD := Lib.hid hsz
  have HX : Hid (∀ W v, Kp w W → Rd W v (signedB s.data.toList b) → Calls Try.prog 17 #[vk, v] W fun e w' => (∃ r, e = .returned r ∧ Rd w' r (sigB k s.data.toList b)) ∧ Kp W w') := fun W v hW hv => by
    refine (refMac_sum vk v k _ W (hk.kp hW) hv hkl (by omega)).mono ?_
    rintro _ w' ⟨⟨r, rfl, o⟩, kk⟩
    exact ⟨⟨r, rfl, o.rd⟩, kk⟩
  have HBB := Lib.hid hb
  obtain ⟨L, hL⟩ : ∃ L, rowB (mlsB ++ s.data.toList) = L := ⟨_, rfl⟩
  obtain ⟨M, hM⟩ : ∃ M, rowB b = M := ⟨_, rfl⟩
  obtain ⟨T, hT⟩ : ∃ T, sigB k s.data.toList b = T := ⟨_, rfl⟩
  obtain ⟨S, hS⟩ : ∃ S, signedB s.data.toList b = S := ⟨_, rfl⟩
  rw [hL] at hrow1 HI hl2
  rw [hM] at hrow2 HI hl2
  rw [hS] at HI HX
  rw [hT] at HX ⊢
  have HL2 := Lib.hid hl2
  obtain ⟨ab, nb, cb, rfl⟩ := hb.sl
  clear hb e2 e3 hsl hll hl2 hL hM hT hS hdt hsz hbl hkl hk
  go_enter Try.func23, Try.ntmps23
  go_wp2_with fail
  refine (hrow1.out _ _ (hrb.out w)).mono ?_
  rintro e w2 ⟨v2, rfl, o2, k2⟩
  obtain ⟨a2, n2, c2, rfl⟩ := o2.rd.sl
  have kb := (hkb.out w).trans k2
  go_wp2_with fail
  refine (hrow2.out _ (HBB.out.kp kb)).mono ?_
  rintro e w3 ⟨v3, rfl, o3, k3⟩
  obtain ⟨a3, n3, c3, rfl⟩ := o3.rd.sl
  have kw3 := kb.trans k3
  have r2 := o2.rd.kp k3
  have r3 := o3.rd
  clear o2 o3 k2 k3
  go_wp2_with (at_builtin; first
    | (refine wpList_append_ow (o := ⟨some 26, _, _, _, _, _⟩) U rfl _ _ rfl w3.heap.size _ [] rfl (Ow.lit w3 _ _ 0 #[] [] (Nat.le_refl _) rfl (by omega) rfl) _ L rfl (r2.kp ((Kp.refl _).alloc _)) (by have := HL2.out; simp; omega) (by simp) ?_; intro v4 w4 o4 g4 _; have k4 : Kp w3 w4 := Kp.grown ((Kp.refl w3).alloc _) g4 (fun k e => by cases e; exact Nat.le_refl _); have o4' : Ow 5 w4 w3.heap.size v4 L := (by simpa using o4); clear o4 g4)
    | (refine wpList_append_ow (o := ⟨some 28, _, _, _, _, _⟩) U rfl _ _ rfl w3.heap.size v4 L rfl o4' _ M rfl (r3.kp k4) (by have := HL2.out; omega) k4.size ?_; intro v5 w5 o5 g5 _; have k5 : Kp w w5 := kw3.trans (Kp.grown k4 g5 o4'.own_ge); rw [HI.out] at o5))
  refine (HX.out _ _ k5 o5.rd).mono ?_
  rintro e w6 ⟨⟨v6, rfl, r6⟩, k6⟩
  go_wp2_with fail
  go_ret
  exact ⟨⟨_, rfl, r6⟩, k5.trans k6⟩

set_option maxHeartbeats 2000000 in
theorem toldSig_any (s : ByteArray) (vb : Value) (b : List UInt8) (w : World) (hb : Rd w vb b) (hs : s.size ≤ 300) (hbl : b.length ≤ 1400) :
    Calls Try.prog 18 #[.string s, vb] w fun e w' => (∃ v, e = .returned v ∧ Rd w' v (signedB s.data.toList b)) ∧ Kp w w' := by
  have U := u8
  have hsl : s.data.toList.length = s.size := rfl
  have hll := signedB_length s.data.toList b (by omega) hbl
  have e3 := row_ok (x := mlsB ++ s.data.toList) (by rw [List.length_append, hsl]; simp [mlsB]; omega)
  have e2 := row_ok (x := b) (by omega)
  have hrow1 := Lib.hid (fun W v hW => refRow_any v (mlsB ++ s.data.toList) W hW)
  have hrow2 := Lib.hid (fun W hW => refRow_any vb b W hW)
  rw [e3.1] at hrow1
  rw [e2.1] at hrow2
  have hcv := fun W (S : ByteArray) => Lib.run_convert_string_bytes (P := Try.prog) W 9 22 5 S Try.underlying9 Try.underlying22 Try.underlying5
  have HI : Hid (rowB (mlsB ++ s.data.toList) ++ rowB b = signedB s.data.toList b) := rfl
  have hl2 : (rowB (mlsB ++ s.data.toList)).length + (rowB b).length ≤ 1800 := by rw [← List.length_append, HI.out]; exact hll
  have hsz : (⟨#[77, 76, 83, 32, 49, 46, 48, 32]⟩ ++ s : ByteArray).size = 8 + s.size := by rw [ByteArray.size_append]; rfl
  have hdt : (⟨#[77, 76, 83, 32, 49, 46, 48, 32]⟩ ++ s : ByteArray).data.toList = mlsB ++ s.data.toList := by rw [ByteArray.data_append, Array.toList_append]; rfl
  have hrb := Lib.hid (fun W => show Rd (Lib.bytesWorld W 5 (⟨#[77, 76, 83, 32, 49, 46, 48, 32]⟩ ++ s)) (.slice (some ⟨W.heap.size, 0, none⟩) (8 + s.size) (grownCap W (8 + s.size) 0 5)) (mlsB ++ s.data.toList) from by
    have := rd_bytesWorld W 5 (⟨#[77, 76, 83, 32, 49, 46, 48, 32]⟩ ++ s) (by rw [hsz]; omega)
    rw [hdt, hsz] at this
    exact this)
  have hkb := Lib.hid (fun W => kp_bytesWorld W 5 (⟨#[77, 76, 83, 32, 49, 46, 48, 32]⟩ ++ s))
  have HD := Lib.hid hsz
  have HBB := Lib.hid hb
  obtain ⟨L, hL⟩ : ∃ L, rowB (mlsB ++ s.data.toList) = L := ⟨_, rfl⟩
  obtain ⟨M, hM⟩ : ∃ M, rowB b = M := ⟨_, rfl⟩
  obtain ⟨S, hS⟩ : ∃ S, signedB s.data.toList b = S := ⟨_, rfl⟩
  rw [hL] at hrow1 HI hl2
  rw [hM] at hrow2 HI hl2
  rw [hS] at HI ⊢
  have HL2 := Lib.hid hl2
  obtain ⟨ab, nb, cb, rfl⟩ := hb.sl
  clear hb e2 e3 hsl hll hl2 hL hM hS hdt hsz hbl
  go_enter Try.func18, Try.ntmps18
  go_wp2_with fail
  refine (hrow1.out _ _ (hrb.out w)).mono ?_
  rintro e w2 ⟨v2, rfl, o2, k2⟩
  obtain ⟨a2, n2, c2, rfl⟩ := o2.rd.sl
  have kb := (hkb.out w).trans k2
  go_wp2_with fail
  refine (hrow2.out _ (HBB.out.kp kb)).mono ?_
  rintro e w3 ⟨v3, rfl, o3, k3⟩
  obtain ⟨a3, n3, c3, rfl⟩ := o3.rd.sl
  have kw3 := kb.trans k3
  have r2 := o2.rd.kp k3
  have r3 := o3.rd
  clear o2 o3 k2 k3
  go_wp2_with (at_builtin; first
    | (refine wpList_append_ow (o := ⟨some 23, _, _, _, _, _⟩) U rfl _ _ rfl w3.heap.size _ [] rfl (Ow.lit w3 _ _ 0 #[] [] (Nat.le_refl _) rfl (by omega) rfl) _ L rfl (r2.kp ((Kp.refl _).alloc _)) (by have := HL2.out; simp; omega) (by simp) ?_; intro v4 w4 o4 g4 _; have k4 : Kp w3 w4 := Kp.grown ((Kp.refl w3).alloc _) g4 (fun k e => by cases e; exact Nat.le_refl _); have o4' : Ow 5 w4 w3.heap.size v4 L := (by simpa using o4); clear o4 g4)
    | (refine wpList_append_ow (o := ⟨some 25, _, _, _, _, _⟩) U rfl _ _ rfl w3.heap.size v4 L rfl o4' _ M rfl (r3.kp k4) (by have := HL2.out; omega) k4.size ?_; intro v5 w5 o5 g5 _; have k5 : Kp w w5 := kw3.trans (Kp.grown k4 g5 o4'.own_ge); rw [HI.out] at o5))
  go_ret
  exact ⟨⟨_, rfl, o5.rd⟩, k5⟩
end Go.Proofs.Ytdcbljfacmidjaa

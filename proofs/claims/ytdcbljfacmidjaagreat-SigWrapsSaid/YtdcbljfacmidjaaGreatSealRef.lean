/- What is sealed, in plain words: halves, tags, nonces. Nothing of a dump. -/
import Derived.Test.YtdcbljfacmidjaaGreatKdfAll
import Derived.Test.YtdcbljfacmidjaaGreatAesB
import Derived.Test.YtdcbljfacmidjaaGreatKdfRef
import Derived.Test.YtdcbljfacmidjaaGreatRefStream
import Derived.Deep.RegionHeld3
import Derived.Test.YtdcbljfacmidjaaGreatRefLock
set_option linter.unusedVariables false
set_option linter.unusedSimpArgs false
namespace Go.Proofs.YtdcbljfacmidjaaGreat
open Go.RowKit

def lockS : List UInt8 := [108, 111, 99, 107]
def tagS : List UInt8 := [116, 97, 103]
/-- A key's halves. -/
def halfL (key : List UInt8) : List UInt8 := labR key lockS [] 16
def halfT (key : List UInt8) : List UInt8 := labR key tagS [] 32
theorem halfL_length (key : List UInt8) : (halfL key).length = 16 := by
  exact (congrArg List.length (exp_yes (n := 16) key (labI lockS [] 16) (by omega)).2).trans (firstB_length _ (expT_length _ _) 16)
theorem halfT_length (key : List UInt8) : (halfT key).length = 32 := by
  exact (congrArg List.length (exp_yes (n := 32) key (labI tagS [] 32) (by omega)).2).trans (firstB_length _ (expT_length _ _) 32)
def halE (key : List UInt8) : Int := if key.length = 32 then 0 else 1
def halA (key : List UInt8) : List UInt8 := if key.length = 32 then halfL key else []
def halB (key : List UInt8) : List UInt8 := if key.length = 32 then halfT key else []

/-- What is tagged: a row of what bytes belong to, the nonce, the bytes. -/
def toldB (nonce aad s : List UInt8) : List UInt8 := rowB aad ++ (nonce ++ s)
def tagB (key nonce aad s : List UInt8) : List UInt8 := macB (halfT key) (toldB nonce aad s)
theorem tagB_length (key nonce aad s : List UInt8) : (tagB key nonce aad s).length = 32 := macB_length _ _
/-- The bytes, locked. -/
def lockedB (key nonce b : List UInt8) : List UInt8 := strL (keysL (halfL key)) nonce b
def sealB (key nonce aad b : List UInt8) : List UInt8 := lockedB key nonce b ++ tagB key nonce aad (lockedB key nonce b)
def okK (key nonce : List UInt8) : Prop := key.length = 32 ∧ nonce.length = 12
instance (key nonce : List UInt8) : Decidable (okK key nonce) := by unfold okK; infer_instance
def sealE (key nonce : List UInt8) : Int := if okK key nonce then 0 else 1
def sealR (key nonce aad b : List UInt8) : List UInt8 := if okK key nonce then sealB key nonce aad b else []
/-- What Open answers. -/
def openE (key nonce aad b : List UInt8) : Int :=
  if okK key nonce then (if b.length < 32 then 3 else if tagB key nonce aad (b.take (b.length - 32)) = b.drop (b.length - 32) then 0 else 5) else 1
def openR (key nonce aad b : List UInt8) : List UInt8 := if openE key nonce aad b = 0 then lockedB key nonce (b.take (b.length - 32)) else []
theorem lockedB_length (key nonce b : List UInt8) : (lockedB key nonce b).length = b.length := strL_length _ _ _
theorem sealB_length (key nonce aad b : List UInt8) : (sealB key nonce aad b).length = b.length + 32 := by
  unfold sealB
  rw [List.length_append, lockedB_length, tagB_length]
theorem sealB_parts (key nonce aad b : List UInt8) : (sealB key nonce aad b).take b.length = lockedB key nonce b ∧ (sealB key nonce aad b).drop b.length = tagB key nonce aad (lockedB key nonce b) := by
  unfold sealB
  have h := lockedB_length key nonce b
  exact ⟨by rw [List.take_append_of_le_length (by omega), List.take_of_length_le (by omega)], by rw [List.drop_append_of_le_length (by omega), List.drop_eq_nil_of_le (by omega), List.nil_append]⟩
/-- The stream of a stream is the bytes. -/
theorem strL_back (K nonce b : List UInt8) : strL K nonce (strL K nonce b) = b := by
  refine get_ext b.length _ _ (by rw [strL_length, strL_length]) rfl fun j hj => ?_
  rw [strL_get _ _ _ _ (by rw [strL_length]; exact hj)]
  unfold strF
  rw [strL_get _ _ _ _ hj]
  unfold strF
  rw [UInt8.xor_assoc, UInt8.xor_self, UInt8.xor_zero]
/-- What is sealed is opened. -/
theorem open_seal {key nonce : List UInt8} (aad b : List UInt8) (h : okK key nonce) : openE key nonce aad (sealB key nonce aad b) = 0 ∧ openR key nonce aad (sealB key nonce aad b) = b := by
  have hl := sealB_length key nonce aad b
  obtain ⟨p1, p2⟩ := sealB_parts key nonce aad b
  have he : openE key nonce aad (sealB key nonce aad b) = 0 := by
    unfold openE
    rw [if_pos h, if_neg (by omega), hl, Nat.add_sub_cancel, p1, p2, if_pos rfl]
  refine ⟨he, ?_⟩
  unfold openR
  rw [if_pos he, hl, Nat.add_sub_cancel, p1]
  exact strL_back _ _ _
/-- What Open takes, Seal answers. -/
theorem seal_open {key nonce aad b : List UInt8} (h : openE key nonce aad b = 0) : okK key nonce ∧ sealB key nonce aad (openR key nonce aad b) = b := by
  have h0 := h
  unfold openE at h
  by_cases hk : okK key nonce
  · rw [if_pos hk] at h
    by_cases hl : b.length < 32
    · rw [if_pos hl] at h; cases h
    · rw [if_neg hl] at h
      by_cases ht : tagB key nonce aad (b.take (b.length - 32)) = b.drop (b.length - 32)
      · refine ⟨hk, ?_⟩
        unfold openR sealB
        rw [if_pos h0]
        have hs : lockedB key nonce (lockedB key nonce (b.take (b.length - 32))) = b.take (b.length - 32) := strL_back _ _ _
        rw [hs, ht, List.take_append_drop]
      · rw [if_neg ht] at h; cases h
  · rw [if_neg hk] at h; cases h

/-- A nonce of a base and a number. -/
def atOk (base : List UInt8) (n : Int) : Prop := base.length = 12 ∧ 0 ≤ n ∧ n ≤ 4294967295
instance (base : List UInt8) (n : Int) : Decidable (atOk base n) := by unfold atOk; infer_instance
def atF (base : List UInt8) (n : Nat) (j : Nat) : UInt8 := if j < 8 then base.getD j 0 else base.getD j 0 ^^^ (be 4 n).getD (j - 8) 0
def atL (base : List UInt8) (n : Nat) : List UInt8 := tab 12 (atF base n)
def atE (base : List UInt8) (n : Int) : Int := if atOk base n then 0 else 1
def atR (base : List UInt8) (n : Int) : List UInt8 := if atOk base n then atL base n.toNat else []
theorem atL_length (base : List UInt8) (n : Nat) : (atL base n).length = 12 := tab_length _ _
theorem atL_get (base : List UInt8) (n j : Nat) (h : j < 12) : (atL base n).getD j 0 = atF base n j := tab_get _ _ _ h
theorem xor_same {x y : UInt8} (b : UInt8) (h : b ^^^ x = b ^^^ y) : x = y := by
  have := congrArg (b ^^^ ·) h
  simpa [← UInt8.xor_assoc] using this
/-- The nonces of two numbers are the same just if these are. -/
theorem atL_inj (base : List UInt8) (n m : Nat) (hn : n < 4294967296) (hm : m < 4294967296) : atL base n = atL base m ↔ n = m := by
  constructor
  · intro h
    have hb : be 4 n = be 4 m := by
      refine get_ext 4 _ _ (be_length 4 n) (be_length 4 m) fun i hi => ?_
      have e := congrArg (fun l => l.getD (8 + i) 0) h
      rw [atL_get _ _ _ (by omega), atL_get _ _ _ (by omega)] at e
      unfold atF at e
      rw [if_neg (by omega), if_neg (by omega), Nat.add_sub_cancel_left] at e
      exact xor_same _ e
    rw [← val_be 4 n (by omega), ← val_be 4 m (by omega), hb]
  · intro h; rw [h]
/-- A nonce of a nonce, by the same number, is the base. -/
theorem atL_back (base : List UInt8) (n : Nat) (hb : base.length = 12) : atL (atL base n) n = base := by
  refine get_ext 12 _ _ (atL_length _ _) hb fun j hj => ?_
  rw [atL_get _ _ _ hj]
  unfold atF
  rw [atL_get _ _ _ hj]
  unfold atF
  by_cases h : j < 8
  · rw [if_pos h, if_pos h]
  · rw [if_neg h, if_neg h, UInt8.xor_assoc, UInt8.xor_self, UInt8.xor_zero]
end Go.Proofs.YtdcbljfacmidjaaGreat

/- pyxref06: Halves, tag, Seal, Open. -/
set_option linter.unusedVariables false
set_option linter.unusedSimpArgs false
namespace Go.Proofs.YtdcbljfacmidjaaGreat
open Go.RowKit

set_option maxHeartbeats 1000000 in
theorem refHalves_any (u : Value) (key : List UInt8) (w : World) (hu : Rd w u key) :
    Calls Tryz.prog 29 #[u] w fun e w' => (∃ a b, e = .returned (.tuple #[a, b, .int .i64 (halE key)]) ∧ Rd w' a (halA key) ∧ Rd w' b (halB key)) ∧ Kp w w' := by
  obtain ⟨a1, c1, rfl, h1, h2⟩ := hu.shape
  by_cases hk : key.length = 32
  · have e0 : halE key = 0 := if_pos hk
    have e1 : halA key = labR key lockS [] 16 := if_pos hk
    have e2 : halB key = labR key tagS [] 32 := if_pos hk
    rw [e0, e1, e2]
    have HL1 : Hid (∀ W, Kp w W → Calls Tryz.prog 27 #[.slice a1 key.length c1, .string ⟨#[108, 111, 99, 107]⟩, .slice none 0 0, .int .i64 16] W fun e w' => (∃ v, e = .returned (.tuple #[v, .int .i64 0]) ∧ Rd w' v (labR key lockS [] 16)) ∧ Kp W w') := fun W hW => refLabel_any _ ⟨#[108, 111, 99, 107]⟩ _ key [] 16 W (hu.kp hW) (Rd.nil W) (by decide) (by simp) (by omega)
    have HL2 : Hid (∀ W, Kp w W → Calls Tryz.prog 27 #[.slice a1 key.length c1, .string ⟨#[116, 97, 103]⟩, .slice none 0 0, .int .i64 32] W fun e w' => (∃ v, e = .returned (.tuple #[v, .int .i64 0]) ∧ Rd w' v (labR key tagS [] 32)) ∧ Kp W w') := fun W hW => refLabel_any _ ⟨#[116, 97, 103]⟩ _ key [] 32 W (hu.kp hW) (Rd.nil W) (by decide) (by simp) (by omega)
    rw [hk] at HL1 HL2 h1 ⊢
    clear hu hk e0 e1 e2
    go_enter Tryz.func29, Tryz.ntmps29
    go_wp2_with fail
    refine (HL1.out w (Kp.refl w)).mono ?_; rintro _ w1 ⟨⟨v1, rfl, r1⟩, k1⟩
    go_wp2_with fail
    refine (HL2.out w1 k1).mono ?_; rintro _ w2 ⟨⟨v2, rfl, r2⟩, k2⟩
    have r1' := r1.kp k2
    go_wp2_with fail
    go_ret3
    exact ⟨⟨_, _, rfl, r1', r2⟩, k1.trans k2⟩
  · have e0 : halE key = 1 := if_neg hk
    have e1 : halA key = [] := if_neg hk
    have e2 : halB key = [] := if_neg hk
    rw [e0, e1, e2]
    have hb2 : ((key.length : Int) == 32) = false := beq_eq_false_iff_ne.2 (by omega)
    have hb3 : ¬ (key.length : Int) = 32 := by omega
    go_enter Tryz.func29, Tryz.ntmps29
    go_wp2_with fail
    go_ret3
    exact ⟨⟨_, _, rfl, Rd.nil _, Rd.nil _⟩, Kp.refl _⟩

set_option maxHeartbeats 1000000 in
theorem refTag_any (u1 u2 u3 u4 : Value) (key nonce aad b : List UInt8) (w : World) (h1 : Rd w u1 key) (h2 : Rd w u2 nonce) (h3 : Rd w u3 aad) (h4 : Rd w u4 b) (hkl : key.length ≤ 2000) (hl : nonce.length + aad.length + b.length ≤ 1800) :
    Calls Tryz.prog 31 #[u1, u2, u3, u4] w fun e w' => (∃ r, e = .returned r ∧ Ow 5 w' w.heap.size r (macB key (toldB nonce aad b))) ∧ Kp w w' := by
  obtain ⟨a2, n2, c2, rfl⟩ := h2.sl
  obtain ⟨a4, n4, c4, rfl⟩ := h4.sl
  have hrow := (row_ok (x := aad) (by omega)).1
  have hlen := row_len (x := aad) (by omega)
  have hle := lenBytes_le aad.length
  have HROW := Lib.hid (refRow_any u3 aad w h3)
  rw [hrow] at HROW
  have HF : Hid ([rowB aad, nonce, b].flatten = toldB nonce aad b) := by simp [Hid, toldB]
  have hfl : ([rowB aad, nonce, b].flatten).length ≤ 1900 := by
    rw [HF.out]
    unfold toldB
    rw [List.length_append, List.length_append]
    omega
  have HFL := Lib.hid hfl
  clear hrow hlen hle hfl
  go_enter Tryz.func31, Tryz.ntmps31
  go_wp2_with fail
  refine HROW.out.mono ?_; rintro _ w1 ⟨v1, rfl, r1, k1⟩
  have h1' := h1.kp k1
  obtain ⟨a5, n5, c5, rfl⟩ := r1.rd.sl
  have HRL := Lib.hid (RL.lit3 (w := w1) (T := 22) r1.rd (h2.kp k1) (h4.kp k1))
  clear h1 h2 h3 h4 r1 HROW
  go_wp2_with fail
  refine (refMac_all _ _ key [rowB aad, nonce, b] _ (h1'.kp ((Kp.refl _).alloc _)) HRL.out hkl HFL.out (by simp)).mono ?_
  rw [HF.out]
  rintro _ w2 ⟨⟨r, rfl, ho⟩, k2⟩
  have hsz := k1.size
  have ho2 := ho.mono (B' := w.heap.size) (by simp; omega)
  have hk2 := (k1.alloc _).trans k2
  clear ho
  go_wp2_with fail
  go_ret
  exact ⟨⟨_, rfl, ho2⟩, hk2⟩
end Go.Proofs.YtdcbljfacmidjaaGreat

/- pyxref06: Seal, Open. -/
set_option linter.unusedVariables false
set_option linter.unusedSimpArgs false
namespace Go.Proofs.YtdcbljfacmidjaaGreat
open Go.RowKit

theorem hal_yes {key : List UInt8} (h : key.length = 32) : halE key = 0 ∧ halA key = halfL key ∧ halB key = halfT key := ⟨if_pos h, if_pos h, if_pos h⟩
theorem hal_no {key : List UInt8} (h : ¬ key.length = 32) : halE key = 1 ∧ halA key = [] ∧ halB key = [] := ⟨if_neg h, if_neg h, if_neg h⟩
theorem str_half {key nonce : List UInt8} (b : List UInt8) (h : nonce.length = 12) : strE (halfL key) nonce = 0 ∧ strR (halfL key) nonce b = lockedB key nonce b :=
  ⟨if_pos ⟨halfL_length key, h⟩, if_pos ⟨halfL_length key, h⟩⟩

set_option maxRecDepth 100000 in
set_option maxHeartbeats 2000000 in
theorem refSeal_any (u1 u2 u3 u4 : Value) (key nonce aad b : List UInt8) (w : World) (h1 : Rd w u1 key) (h2 : Rd w u2 nonce) (h3 : Rd w u3 aad) (h4 : Rd w u4 b) (hl : aad.length + b.length ≤ 1700) :
    Calls Tryz.prog 17 #[u1, u2, u3, u4] w fun e w' => (∃ r, e = .returned (.tuple #[r, .int .i64 (sealE key nonce)]) ∧ Rd w' r (sealR key nonce aad b)) ∧ Kp w w' := by
  have U := u8
  obtain ⟨a2, c2, rfl, p2, s2⟩ := h2.shape
  have HH := Lib.hid (refHalves_any u1 key w h1)
  by_cases hk : key.length = 32
  · obtain ⟨e1, e2, e3⟩ := hal_yes hk
    rw [e1, e2, e3] at HH
    by_cases hn : nonce.length = 12
    · have e4 : sealE key nonce = 0 := if_pos ⟨hk, hn⟩
      have e5 : sealR key nonce aad b = sealB key nonce aad b := if_pos ⟨hk, hn⟩
      rw [e4, e5]
      obtain ⟨e6, e7⟩ := str_half (key := key) b hn
      have HS : Hid (∀ W v, Kp w W → Rd W v (halfL key) → Calls Tryz.prog 30 #[v, .slice a2 nonce.length c2, u4] W fun e w' => (∃ r, e = .returned (.tuple #[r, .int .i64 0]) ∧ Rd w' r (lockedB key nonce b)) ∧ Kp W w') := fun W v hW hv => by
        rw [← e6, ← e7]
        exact refStream_any5 _ _ _ _ nonce b W hv (h2.kp hW) (h4.kp hW) (by omega)
      have HLL := lockedB_length key nonce b
      have HT : Hid (∀ W v s, Kp w W → Rd W v (halfT key) → Rd W s (lockedB key nonce b) → Calls Tryz.prog 31 #[v, .slice a2 nonce.length c2, u3, s] W fun e w' => (∃ r, e = .returned r ∧ Ow 5 w' W.heap.size r (tagB key nonce aad (lockedB key nonce b))) ∧ Kp W w') := fun W v s hW hv hs =>
        refTag_any _ _ _ _ (halfT key) nonce aad _ W hv (h2.kp hW) (h3.kp hW) hs (by rw [halfT_length]; omega) (by omega)
      have HD : Hid (lockedB key nonce b ++ tagB key nonce aad (lockedB key nonce b) = sealB key nonce aad b) := rfl
      have HTL := tagB_length key nonce aad (lockedB key nonce b)
      rw [hn] at HS HT p2 ⊢
      have hll : (lockedB key nonce b).length ≤ 1700 := by omega
      generalize tagB key nonce aad (lockedB key nonce b) = T at *
      generalize lockedB key nonce b = L at *
      generalize sealB key nonce aad b = R at *
      clear h1 h2 h3 h4 e1 e2 e3 e4 e5 e6 e7 hk hn HLL
      go_enter Tryz.func17, Tryz.ntmps17
      go_wp2_with fail
      refine HH.out.mono ?_; rintro _ w1 ⟨⟨x, y, rfl, r1, r2⟩, k1⟩
      have K1 := Lib.hid k1
      have R2 := Lib.hid r2
      have R1 := Lib.hid r1
      clear HH k1 r1 r2
      go_wp2_with fail
      refine (HS.out w1 x K1.out R1.out).mono ?_; rintro _ w2 ⟨⟨s, rfl, r3⟩, k2⟩
      have K2 := Lib.hid k2
      have R3 := Lib.hid r3
      clear HS k2 r3
      have HLN := Lib.hid hll
      have HTN := Lib.hid HTL
      clear hll HTL
      obtain ⟨as3, ns3, cs3, rfl⟩ := R3.out.sl
      go_wp2_with (at_builtin; first
        | (refine wpList_append_ow (o := ⟨some 38, _, _, _, _, _⟩) U rfl _ _ rfl w2.heap.size _ [] rfl (Ow.lit w2 _ _ 0 #[] [] (Nat.le_refl _) rfl (by omega) rfl) _ L rfl (R3.out.kp ((Kp.refl _).alloc _)) (by have := HLN.out; simp; omega) (by simp) ?_; intro v4 w4 ho4 hg4 _; have k4 : Kp w2 w4 := Kp.grown ((Kp.refl w2).alloc _) hg4 (fun k e => by cases e; exact Nat.le_refl _); have ho4' : Ow 5 w4 w2.heap.size v4 L := (by simpa using ho4); clear ho4 hg4))
      have K4 := Lib.hid k4
      refine (HT.out w4 y _ (K1.out.trans (K2.out.trans k4)) ((R2.out.kp K2.out).kp k4) (R3.out.kp k4)).mono ?_; rintro _ w5 ⟨⟨t, rfl, ho5⟩, k5⟩
      have r5 := ho5.rd
      have ho6 := ho4'.kp k5
      have hk5 := k4.trans k5
      obtain ⟨as5, ns5, cs5, rfl⟩ := r5.sl
      clear ho4' ho5 k5 k4
      go_wp2_with (at_builtin; first
        | (refine wpList_append_ow (o := ⟨some 45, _, _, _, _, _⟩) U rfl _ _ rfl w2.heap.size v4 L rfl ho6 _ T rfl r5 (by have := HLN.out; have := HTN.out; omega) hk5.size ?_; intro v7 w7 ho7 hg7 _; have k7 : Kp w2 w7 := Kp.grown hk5 hg7 ho6.own_ge; rw [HD.out] at ho7))
      go_ret2
      exact ⟨⟨_, rfl, ho7.rd⟩, (K1.out.trans K2.out).trans k7⟩
    · have e4 : sealE key nonce = 1 := if_neg (fun h => hn h.2)
      have e5 : sealR key nonce aad b = [] := if_neg (fun h => hn h.2)
      rw [e4, e5]
      have hb2 : ((nonce.length : Int) == 12) = false := beq_eq_false_iff_ne.2 (by omega)
      have hb3 : ¬ (nonce.length : Int) = 12 := by omega
      go_enter Tryz.func17, Tryz.ntmps17
      go_wp2_with fail
      refine HH.out.mono ?_; rintro _ w1 ⟨⟨x, y, rfl, r1, r2⟩, k1⟩
      clear r1 r2
      go_wp2_with fail
      go_ret2
      exact ⟨⟨_, rfl, Rd.nil _⟩, k1⟩
  · obtain ⟨e1, e2, e3⟩ := hal_no hk
    rw [e1, e2, e3] at HH
    have e4 : sealE key nonce = 1 := if_neg (fun h => hk h.1)
    have e5 : sealR key nonce aad b = [] := if_neg (fun h => hk h.1)
    rw [e4, e5]
    go_enter Tryz.func17, Tryz.ntmps17
    go_wp2_with fail
    refine HH.out.mono ?_; rintro _ w1 ⟨⟨x, y, rfl, r1, r2⟩, k1⟩
    clear r1 r2
    go_wp2_with fail
    go_ret2
    exact ⟨⟨_, rfl, Rd.nil _⟩, k1⟩
end Go.Proofs.YtdcbljfacmidjaaGreat

/- pyxref06.Open. -/
set_option linter.unusedVariables false
set_option linter.unusedSimpArgs false
namespace Go.Proofs.YtdcbljfacmidjaaGreat
open Go.RowKit

/-- The first bytes of a slice. -/
theorem Rd.pre6 {w : World} {a : Option Addr} {n c : Nat} {l : List UInt8} (h : Rd w (.slice a n c) l) (k : Nat) (hk : k ≤ n) : Rd w (.slice a k c) (l.take k) := by
  obtain ⟨a', c', e, h1, h2, h3, h4⟩ := h
  simp only [Value.slice.injEq] at e
  obtain ⟨rfl, rfl, rfl⟩ := e
  have hl : (l.take k).length = k := by simp; omega
  refine ⟨a, c, by rw [hl], by omega, h2, h3, fun x hx i hi => ?_⟩
  rw [hl] at hi
  rw [h4 x hx i (by omega), List.getElem_take]
/-- The last bytes of a slice. -/
theorem Rd.post6 {w : World} {g o n c : Nat} {l : List UInt8} (h : Rd w (.slice (some ⟨g, o, none⟩) n c) l) (k m : Nat) (hk : k + m = n) (hc : k < c) : Rd w (.slice (some ⟨g, o + k, none⟩) m (c - k)) (l.drop k) := by
  have := h.cutAt k m (by omega) hc
  have hl := h.len.1
  rwa [List.take_of_length_le (by rw [List.length_drop]; omega)] at this

set_option maxRecDepth 100000 in
set_option maxHeartbeats 2000000 in
theorem refOpen_any (u1 u2 u3 u4 : Value) (key nonce aad b : List UInt8) (w : World) (h1 : Rd w u1 key) (h2 : Rd w u2 nonce) (h3 : Rd w u3 aad) (h4 : Rd w u4 b) (hl : aad.length + b.length ≤ 1700) :
    Calls Tryz.prog 19 #[u1, u2, u3, u4] w fun e w' => (∃ r, e = .returned (.tuple #[r, .int .i64 (openE key nonce aad b)]) ∧ Rd w' r (openR key nonce aad b)) ∧ Kp w w' := by
  obtain ⟨a2, c2, rfl, p2, s2⟩ := h2.shape
  obtain ⟨a4, c4, rfl, p4, s4⟩ := h4.shape
  have HH := Lib.hid (refHalves_any u1 key w h1)
  by_cases hk : key.length = 32
  · obtain ⟨e1, e2, e3⟩ := hal_yes hk
    rw [e1, e2, e3] at HH
    by_cases hn : nonce.length = 12
    · have hok : okK key nonce := ⟨hk, hn⟩
      by_cases hs : b.length < 32
      · have e4 : openE key nonce aad b = 3 := by unfold openE; rw [if_pos hok, if_pos hs]
        have e5 : openR key nonce aad b = [] := by unfold openR; rw [e4]; rfl
        rw [e4, e5, hn]
        have q0 : (b.length : Int) < 32 := by omega
        go_enter Tryz.func19, Tryz.ntmps19
        go_wp2_with fail
        refine HH.out.mono ?_; rintro _ w1 ⟨⟨x, y, rfl, r1, r2⟩, k1⟩
        clear r1 r2
        go_wp2_with fail
        go_ret2
        exact ⟨⟨_, rfl, Rd.nil _⟩, k1⟩
      · obtain ⟨n, hnn⟩ : ∃ n, b.length - 32 = n := ⟨_, rfl⟩
        have hbl : b.length = n + 32 := by omega
        obtain ⟨g4, o4, rfl, _, _⟩ := h4.at 0 (by omega)
        have e4 : openE key nonce aad b = if tagB key nonce aad (b.take n) = b.drop n then 0 else 5 := by unfold openE; rw [if_pos hok, if_neg hs, hnn]
        have e5 : openR key nonce aad b = if tagB key nonce aad (b.take n) = b.drop n then lockedB key nonce (b.take n) else [] := by
          unfold openR
          rw [e4, hnn]
          by_cases ht : tagB key nonce aad (b.take n) = b.drop n
          · rw [if_pos ht, if_pos rfl, if_pos ht]
          · rw [if_neg ht, if_neg (by decide), if_neg ht]
        have hln : (b.take n).length = n := by rw [List.length_take]; omega
        have HA := Lib.hid (h4.pre6 n (by omega))
        have HZ := Lib.hid (h4.post6 n 32 (by omega) (by omega))
        obtain ⟨e6, e7⟩ := str_half (key := key) (b.take n) hn
        have HS : Hid (∀ W v, Kp w W → Rd W v (halfL key) → Calls Tryz.prog 30 #[v, .slice a2 nonce.length c2, .slice (some ⟨g4, o4, none⟩) n c4] W fun e w' => (∃ r, e = .returned (.tuple #[r, .int .i64 0]) ∧ Rd w' r (lockedB key nonce (b.take n))) ∧ Kp W w') := fun W v hW hv => by
          rw [← e6, ← e7]
          exact refStream_any5 _ _ _ _ nonce (b.take n) W hv (h2.kp hW) (HA.out.kp hW) (by omega)
        have HT : Hid (∀ W v, Kp w W → Rd W v (halfT key) → Calls Tryz.prog 31 #[v, .slice a2 nonce.length c2, u3, .slice (some ⟨g4, o4, none⟩) n c4] W fun e w' => (∃ r, e = .returned r ∧ Ow 5 w' W.heap.size r (tagB key nonce aad (b.take n))) ∧ Kp W w') := fun W v hW hv =>
          refTag_any _ _ _ _ (halfT key) nonce aad _ W hv (h2.kp hW) (h3.kp hW) (HA.out.kp hW) (by rw [halfT_length]; omega) (by omega)
        rw [e4, e5]
        have hdec : ∀ (bb : Bool), decide (tagB key nonce aad (b.take n) = b.drop n) = bb → (if tagB key nonce aad (b.take n) = b.drop n then (0 : Int) else 5) = (if bb then 0 else 5) ∧ (if tagB key nonce aad (b.take n) = b.drop n then lockedB key nonce (b.take n) else []) = (if bb then lockedB key nonce (b.take n) else []) := by
          rintro _ rfl
          by_cases ht : tagB key nonce aad (b.take n) = b.drop n
          · simp [ht]
          · simp [ht]
        obtain ⟨bb, hbb⟩ : ∃ bb, decide (tagB key nonce aad (b.take n) = b.drop n) = bb := ⟨_, rfl⟩
        rw [(hdec bb hbb).1, (hdec bb hbb).2]
        have HSM : Hid (∀ W v, Kp w W → Rd W v (tagB key nonce aad (b.take n)) → Calls Tryz.prog 9 #[v, .slice (some ⟨g4, o4 + n, none⟩) 32 (c4 - n)] W fun e w' => e = .returned (.bool bb) ∧ W = w') := fun W v hW hv => by
          have := same_any v _ _ _ W hv (HZ.out.kp hW)
          rwa [hbb] at this
        rw [hn] at HS HT p2 ⊢
        clear HA HZ
        obtain ⟨m, hm⟩ : ∃ m, b.length = m := ⟨_, rfl⟩
        rw [hm] at p4 ⊢
        rw [hm] at hbl
        have i0 : IntKind.i64.wrap ((m : Int) - 32) = (n : Int) := by rw [IntWalk.i64_in _ (by omega)]; omega
        have i2 : (n : Int) ≤ (c4 : Int) := by omega
        have i3 : (n : Int) ≤ (m : Int) := by omega
        have i4 : ¬ (m : Int) < 32 := by omega
        have i5 : (0 : Int) ≤ (n : Int) := by omega
        have i6 : (m : Int) ≤ (c4 : Int) := by omega
        have i7 : (0 : Int) ≤ (m : Int) := by omega
        have i8 : m - n = 32 := by omega
        have i9 : ((m : Int) - (n : Int)).toNat = 32 := by omega
        have i10 : (m : Int) - (n : Int) = 32 := by omega
        clear hm
        generalize tagB key nonce aad (b.take n) = T at *
        generalize lockedB key nonce (b.take n) = L at *
        clear h1 h2 h3 h4 e1 e2 e3 e4 e5 e6 e7 hk hn hdec hbb hok hs hnn hln hbl
        go_enter Tryz.func19, Tryz.ntmps19
        go_wp2_with fail
        refine HH.out.mono ?_; rintro _ w1 ⟨⟨x, y, rfl, r1, r2⟩, k1⟩
        have K1 := Lib.hid k1
        have R1 := Lib.hid r1
        have R2 := Lib.hid r2
        clear HH k1 r1 r2
        go_wp2_with fail
        go_region_held3 (fun _ => True) (exact trivial)
          (first
            | (go_at_call 31; refine (HT.out _ y (K1.out.drew) (R2.out.kp (Kp.refl _).drew)).mono ?_; rintro _ w2 ⟨⟨v, rfl, r3⟩, k2⟩)
            | (go_at_call 9; refine (HSM.out _ v ((K1.out.drew).trans k2) r3.rd).mono ?_; rintro _ _ ⟨rfl, rfl⟩))
        all_goals
          have K2 := Lib.hid (((Kp.refl w1).drew).trans k2)
          clear r3 k2
          cases bb
          · go_wp2_with fail
            go_ret2
            exact ⟨⟨_, rfl, Rd.nil _⟩, K1.out.trans K2.out⟩
          · go_wp2_with fail
            refine (HS.out _ x (K1.out.trans K2.out) (R1.out.kp K2.out)).mono ?_; rintro _ w4 ⟨⟨z, rfl, r4⟩, k4⟩
            have R4 := Lib.hid r4
            have K4 := Lib.hid k4
            clear r4 k4
            go_wp2_with fail
            go_ret2
            exact ⟨⟨_, rfl, R4.out⟩, (K1.out.trans K2.out).trans K4.out⟩
    · have e4 : openE key nonce aad b = 1 := if_neg (fun h => hn h.2)
      have e5 : openR key nonce aad b = [] := by unfold openR; rw [e4]; rfl
      rw [e4, e5]
      have hb2 : ((nonce.length : Int) == 12) = false := beq_eq_false_iff_ne.2 (by omega)
      have hb3 : ¬ (nonce.length : Int) = 12 := by omega
      go_enter Tryz.func19, Tryz.ntmps19
      go_wp2_with fail
      refine HH.out.mono ?_; rintro _ w1 ⟨⟨x, y, rfl, r1, r2⟩, k1⟩
      clear r1 r2
      go_wp2_with fail
      go_ret2
      exact ⟨⟨_, rfl, Rd.nil _⟩, k1⟩
  · obtain ⟨e1, e2, e3⟩ := hal_no hk
    rw [e1, e2, e3] at HH
    have e4 : openE key nonce aad b = 1 := if_neg (fun h => hk h.1)
    have e5 : openR key nonce aad b = [] := by unfold openR; rw [e4]; rfl
    rw [e4, e5]
    go_enter Tryz.func19, Tryz.ntmps19
    go_wp2_with fail
    refine HH.out.mono ?_; rintro _ w1 ⟨⟨x, y, rfl, r1, r2⟩, k1⟩
    clear r1 r2
    go_wp2_with fail
    go_ret2
    exact ⟨⟨_, rfl, Rd.nil _⟩, k1⟩
end Go.Proofs.YtdcbljfacmidjaaGreat

/- pyxref06.At: a nonce of a number. -/
set_option linter.unusedVariables false
set_option linter.unusedSimpArgs false
namespace Go.Proofs.YtdcbljfacmidjaaGreat
open Go.RowKit

theorem atL_sets (base : List UInt8) (n : Nat) (h : base.length = 12) :
    (((base.set 8 (base.getD 8 0 ^^^ (be 4 n).getD 0 0)).set 9 (base.getD 9 0 ^^^ (be 4 n).getD 1 0)).set 10 (base.getD 10 0 ^^^ (be 4 n).getD 2 0)).set 11 (base.getD 11 0 ^^^ (be 4 n).getD 3 0) = atL base n := by
  refine get_ext 12 _ _ (by simp [h]) (atL_length _ _) fun j hj => ?_
  rw [atL_get _ _ _ hj, set_getD _ _ _ _ (by simp [h]), set_getD _ _ _ _ (by simp [h]), set_getD _ _ _ _ (by simp [h]), set_getD _ _ _ _ (by simp [h])]
  unfold atF
  by_cases e : j < 8
  · rw [if_pos e, if_neg (by omega), if_neg (by omega), if_neg (by omega), if_neg (by omega)]
  · rw [if_neg e]
    have : j = 8 ∨ j = 9 ∨ j = 10 ∨ j = 11 := by omega
    rcases this with rfl | rfl | rfl | rfl <;> simp
theorem be_bytes (n : Nat) (hn : (n : Int) ≤ 4294967295) :
    (n : Int) / 16777216 = (((be 4 n).getD 0 0).toNat : Int) ∧ (n : Int) / 65536 % 256 = (((be 4 n).getD 1 0).toNat : Int) ∧
    (n : Int) / 256 % 256 = (((be 4 n).getD 2 0).toNat : Int) ∧ (n : Int) % 256 = (((be 4 n).getD 3 0).toNat : Int) := by
  have g : ∀ k, k < 4 → (be 4 n).getD k 0 = UInt8.ofNat (n / 256 ^ (4 - 1 - k)) := fun k hk => by
    rw [List.getD_eq_getElem?_getD, be_get 4 n k hk]
    rfl
  rw [g 0 (by omega), g 1 (by omega), g 2 (by omega), g 3 (by omega)]
  simp only [UInt8.toNat_ofNat']
  refine ⟨?_, ?_, ?_, ?_⟩ <;> simp <;> omega
theorem u8_self (x : UInt8) : IntKind.u8.wrap (x.toNat : Int) = (x.toNat : Int) := u8_wraps _ (u8_lt x)

/-- Four stores, one behind the other. -/
theorem put4 {e : TypeId} {w w0 : World} {B g c : Nat} {base : List UInt8} (h : Ow e w B (.slice (some ⟨g, 0, none⟩) 12 c) base) (hb : base.length = 12) (hk : Kp w0 w) (hg : w0.heap.size ≤ g) (B0 B1 B2 B3 Y0 Y1 Y2 Y3 : UInt8)
    (h0 : base.getD 8 0 = B0) (h1 : base.getD 9 0 = B1) (h2 : base.getD 10 0 = B2) (h3 : base.getD 11 0 = B3) :
    w.cell? ⟨g, 8, none⟩ = some (.int .u8 (B0.toNat : Int)) ∧ w.frozen? ⟨g, 8, none⟩ = false ∧ (w.setCell ⟨g, 8, none⟩ (.int .u8 (Y0.toNat : Int))).cell? ⟨g, 9, none⟩ = some (.int .u8 (B1.toNat : Int)) ∧ (w.setCell ⟨g, 8, none⟩ (.int .u8 (Y0.toNat : Int))).frozen? ⟨g, 9, none⟩ = false ∧ ((w.setCell ⟨g, 8, none⟩ (.int .u8 (Y0.toNat : Int))).setCell ⟨g, 9, none⟩ (.int .u8 (Y1.toNat : Int))).cell? ⟨g, 10, none⟩ = some (.int .u8 (B2.toNat : Int)) ∧ ((w.setCell ⟨g, 8, none⟩ (.int .u8 (Y0.toNat : Int))).setCell ⟨g, 9, none⟩ (.int .u8 (Y1.toNat : Int))).frozen? ⟨g, 10, none⟩ = false ∧ (((w.setCell ⟨g, 8, none⟩ (.int .u8 (Y0.toNat : Int))).setCell ⟨g, 9, none⟩ (.int .u8 (Y1.toNat : Int))).setCell ⟨g, 10, none⟩ (.int .u8 (Y2.toNat : Int))).cell? ⟨g, 11, none⟩ = some (.int .u8 (B3.toNat : Int)) ∧ (((w.setCell ⟨g, 8, none⟩ (.int .u8 (Y0.toNat : Int))).setCell ⟨g, 9, none⟩ (.int .u8 (Y1.toNat : Int))).setCell ⟨g, 10, none⟩ (.int .u8 (Y2.toNat : Int))).frozen? ⟨g, 11, none⟩ = false ∧
    Hid (Rd ((((w.setCell ⟨g, 8, none⟩ (.int .u8 (Y0.toNat : Int))).setCell ⟨g, 9, none⟩ (.int .u8 (Y1.toNat : Int))).setCell ⟨g, 10, none⟩ (.int .u8 (Y2.toNat : Int))).setCell ⟨g, 11, none⟩ (.int .u8 (Y3.toNat : Int))) (.slice (some ⟨g, 0, none⟩) 12 c) ((((base.set 8 Y0).set 9 Y1).set 10 Y2).set 11 Y3) ∧ Kp w0 ((((w.setCell ⟨g, 8, none⟩ (.int .u8 (Y0.toNat : Int))).setCell ⟨g, 9, none⟩ (.int .u8 (Y1.toNat : Int))).setCell ⟨g, 10, none⟩ (.int .u8 (Y2.toNat : Int))).setCell ⟨g, 11, none⟩ (.int .u8 (Y3.toNat : Int)))) := by
  obtain ⟨c8, f8, o8⟩ := ow_put5 h 8 (by omega) Y0
  obtain ⟨c9, f9, o9⟩ := ow_put5 o8 9 (by rw [List.length_set]; omega) Y1
  obtain ⟨c10, f10, o10⟩ := ow_put5 o9 10 (by rw [List.length_set, List.length_set]; omega) Y2
  obtain ⟨c11, f11, o11⟩ := ow_put5 o10 11 (by rw [List.length_set, List.length_set, List.length_set]; omega) Y3
  rw [h0] at c8
  rw [set_getD _ _ _ _ (by omega), if_neg (by omega), h1] at c9
  rw [set_getD _ _ _ _ (by rw [List.length_set]; omega), if_neg (by omega), set_getD _ _ _ _ (by omega), if_neg (by omega), h2] at c10
  rw [set_getD _ _ _ _ (by rw [List.length_set, List.length_set]; omega), if_neg (by omega), set_getD _ _ _ _ (by rw [List.length_set]; omega), if_neg (by omega), set_getD _ _ _ _ (by omega), if_neg (by omega), h3] at c11
  exact ⟨c8, f8, c9, f9, c10, f10, c11, f11, o11.rd, Below.setCell (Below.setCell (Below.setCell (Below.setCell hk (p := ⟨g, 8, none⟩) hg _) (p := ⟨g, 9, none⟩) hg _) (p := ⟨g, 10, none⟩) hg _) (p := ⟨g, 11, none⟩) hg _⟩

end Go.Proofs.YtdcbljfacmidjaaGreat

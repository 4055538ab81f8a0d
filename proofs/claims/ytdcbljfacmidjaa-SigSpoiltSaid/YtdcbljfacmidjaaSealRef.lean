/- What is sealed, in plain words: halves, tags, nonces. Nothing of a dump. -/
import Derived.Test.YtdcbljfacmidjaaKdfAll
import Derived.Test.YtdcbljfacmidjaaAesB
import Derived.Test.YtdcbljfacmidjaaKdfRef
import Derived.Test.YtdcbljfacmidjaaRefStream
import Derived.Deep.RegionHeld3
import Derived.Test.YtdcbljfacmidjaaRefLock
set_option linter.unusedVariables false
set_option linter.unusedSimpArgs false
namespace Go.Proofs.Ytdcbljfacmidjaa
open Go.RowKit

def lockS : List UInt8 := [108, 111, 99, 107]
def tagS : List UInt8 := [116, 97, 103]
/-- A key's halves. -/
def halfL (key : List UInt8) : List UInt8 := labR key lockS [] 16
def halfT (key : List UInt8) : List UInt8 := labR key tagS [] 32
theorem halfL_length (key : List UInt8) : (halfL key).length = 16 := by
  exact (congrArg List.length (exp_yes (n := 16) key (labI lockS [] 16) (by omega)).2).trans (firstB_length _ (expT_length _ _) 16)
theorem halfT_length (key : List UInt8) : (halfT key).length = 32 := by
  exact (congrArg List.length (exp_yes (n := 32) key (labI tagS [] 32) (by omega)).2).trans (firstB_length _ (expT_length _ _) 32)
def halE (key : List UInt8) : Int := if key.length = 32 then 0 else 1
def halA (key : List UInt8) : List UInt8 := if key.length = 32 then halfL key else []
def halB (key : List UInt8) : List UInt8 := if key.length = 32 then halfT key else []

/-- What is tagged: a row of what bytes belong to, the nonce, the bytes. -/
def toldB (nonce aad s : List UInt8) : List UInt8 := rowB aad ++ (nonce ++ s)
def tagB (key nonce aad s : List UInt8) : List UInt8 := macB (halfT key) (toldB nonce aad s)
theorem tagB_length (key nonce aad s : List UInt8) : (tagB key nonce aad s).length = 32 := macB_length _ _
/-- The bytes, locked. -/
def lockedB (key nonce b : List UInt8) : List UInt8 := strL (keysL (halfL key)) nonce b
def sealB (key nonce aad b : List UInt8) : List UInt8 := lockedB key nonce b ++ tagB key nonce aad (lockedB key nonce b)
def okK (key nonce : List UInt8) : Prop := key.length = 32 ∧ nonce.length = 12
instance (key nonce : List UInt8) : Decidable (okK key nonce) := by unfold okK; infer_instance
def sealE (key nonce : List UInt8) : Int := if okK key nonce then 0 else 1
def sealR (key nonce aad b : List UInt8) : List UInt8 := if okK key nonce then sealB key nonce aad b else []
/-- What Open answers. -/
def openE (key nonce aad b : List UInt8) : Int :=
  if okK key nonce then (if b.length < 32 then 3 else if tagB key nonce aad (b.take (b.length - 32)) = b.drop (b.length - 32) then 0 else 5) else 1
def openR (key nonce aad b : List UInt8) : List UInt8 := if openE key nonce aad b = 0 then lockedB key nonce (b.take (b.length - 32)) else []
theorem lockedB_length (key nonce b : List UInt8) : (lockedB key nonce b).length = b.length := strL_length _ _ _
theorem sealB_length (key nonce aad b : List UInt8) : (sealB key nonce aad b).length = b.length + 32 := by
  unfold sealB
  rw [List.length_append, lockedB_length, tagB_length]
theorem sealB_parts (key nonce aad b : List UInt8) : (sealB key nonce aad b).take b.length = lockedB key nonce b ∧ (sealB key nonce aad b).drop b.length = tagB key nonce aad (lockedB key nonce b) := by
  unfold sealB
  have h := lockedB_length key nonce b
  exact ⟨by rw [List.take_append_of_le_length (by omega), List.take_of_length_le (by omega)], by rw [List.drop_append_of_le_length (by omega), List.drop_eq_nil_of_le (by omega), List.nil_append]⟩
/-- The stream of a stream is the bytes. -/
theorem strL_back (K nonce b : List UInt8) : strL K nonce (strL K nonce b) = b := by
  refine get_ext b.length _ _ (by rw [strL_length, strL_length]) rfl fun j hj => ?_
  rw [strL_get _ _ _ _ (by rw [strL_length]; exact hj)]
  unfold strF
  rw [strL_get _ _ _ _ hj]
  unfold strF
  rw [UInt8.xor_assoc, UInt8.xor_self, UInt8.xor_zero]
/-- What is sealed is opened. -/
theorem open_seal {key nonce : List UInt8} (aad b : List UInt8) (h : okK key nonce) : openE key nonce aad (sealB key nonce aad b) = 0 ∧ openR key nonce aad (sealB key nonce aad b) = b := by
  have hl := sealB_length key nonce aad b
  obtain ⟨p1, p2⟩ := sealB_parts key nonce aad b
  have he : openE key nonce aad (sealB key nonce aad b) = 0 := by
    unfold openE
    rw [if_pos h, if_neg (by omega), hl, Nat.add_sub_cancel, p1, p2, if_pos rfl]
  refine ⟨he, ?_⟩
  unfold openR
  rw [if_pos he, hl, Nat.add_sub_cancel, p1]
  exact strL_back _ _ _
/-- What Open takes, Seal answers. -/
theorem seal_open {key nonce aad b : List UInt8} (h : openE key nonce aad b = 0) : okK key nonce ∧ sealB key nonce aad (openR key nonce aad b) = b := by
  have h0 := h
  unfold openE at h
  by_cases hk : okK key nonce
  · rw [if_pos hk] at h
    by_cases hl : b.length < 32
    · rw [if_pos hl] at h; cases h
    · rw [if_neg hl] at h
      by_cases ht : tagB key nonce aad (b.take (b.length - 32)) = b.drop (b.length - 32)
      · refine ⟨hk, ?_⟩
        unfold openR sealB
        rw [if_pos h0]
        have hs : lockedB key nonce (lockedB key nonce (b.take (b.length - 32))) = b.take (b.length - 32) := strL_back _ _ _
        rw [hs, ht, List.take_append_drop]
      · rw [if_neg ht] at h; cases h
  · rw [if_neg hk] at h; cases h

/-- A nonce of a base and a number. -/
def atOk (base : List UInt8) (n : Int) : Prop := base.length = 12 ∧ 0 ≤ n ∧ n ≤ 4294967295
instance (base : List UInt8) (n : Int) : Decidable (atOk base n) := by unfold atOk; infer_instance
def atF (base : List UInt8) (n : Nat) (j : Nat) : UInt8 := if j < 8 then base.getD j 0 else base.getD j 0 ^^^ (be 4 n).getD (j - 8) 0
def atL (base : List UInt8) (n : Nat) : List UInt8 := tab 12 (atF base n)
def atE (base : List UInt8) (n : Int) : Int := if atOk base n then 0 else 1
def atR (base : List UInt8) (n : Int) : List UInt8 := if atOk base n then atL base n.toNat else []
theorem atL_length (base : List UInt8) (n : Nat) : (atL base n).length = 12 := tab_length _ _
theorem atL_get (base : List UInt8) (n j : Nat) (h : j < 12) : (atL base n).getD j 0 = atF base n j := tab_get _ _ _ h
theorem xor_same {x y : UInt8} (b : UInt8) (h : b ^^^ x = b ^^^ y) : x = y := by
  have := congrArg (b ^^^ ·) h
  simpa [← UInt8.xor_assoc] using this
/-- The nonces of two numbers are the same just if these are. -/
theorem atL_inj (base : List UInt8) (n m : Nat) (hn : n < 4294967296) (hm : m < 4294967296) : atL base n = atL base m ↔ n = m := by
  constructor
  · intro h
    have hb : be 4 n = be 4 m := by
      refine get_ext 4 _ _ (be_length 4 n) (be_length 4 m) fun i hi => ?_
      have e := congrArg (fun l => l.getD (8 + i) 0) h
      rw [atL_get _ _ _ (by omega), atL_get _ _ _ (by omega)] at e
      unfold atF at e
      rw [if_neg (by omega), if_neg (by omega), Nat.add_sub_cancel_left] at e
      exact xor_same _ e
    rw [← val_be 4 n (by omega), ← val_be 4 m (by omega), hb]
  · intro h; rw [h]
/-- A nonce of a nonce, by the same number, is the base. -/
theorem atL_back (base : List UInt8) (n : Nat) (hb : base.length = 12) : atL (atL base n) n = base := by
  refine get_ext 12 _ _ (atL_length _ _) hb fun j hj => ?_
  rw [atL_get _ _ _ hj]
  unfold atF
  rw [atL_get _ _ _ hj]
  unfold atF
  by_cases h : j < 8
  · rw [if_pos h, if_pos h]
  · rw [if_neg h, if_neg h, UInt8.xor_assoc, UInt8.xor_self, UInt8.xor_zero]
end Go.Proofs.Ytdcbljfacmidjaa

/- pyxref06: Halves, tag, Seal, Open. -/
set_option linter.unusedVariables false
set_option linter.unusedSimpArgs false
namespace Go.Proofs.Ytdcbljfacmidjaa
open Go.RowKit

end Go.Proofs.Ytdcbljfacmidjaa

/- pyxref06: Seal, Open. -/
set_option linter.unusedVariables false
set_option linter.unusedSimpArgs false
namespace Go.Proofs.Ytdcbljfacmidjaa
open Go.RowKit

theorem hal_yes {key : List UInt8} (h : key.length = 32) : halE key = 0 ∧ halA key = halfL key ∧ halB key = halfT key := ⟨if_pos h, if_pos h, if_pos h⟩
theorem hal_no {key : List UInt8} (h : ¬ key.length = 32) : halE key = 1 ∧ halA key = [] ∧ halB key = [] := ⟨if_neg h, if_neg h, if_neg h⟩
theorem str_half {key nonce : List UInt8} (b : List UInt8) (h : nonce.length = 12) : strE (halfL key) nonce = 0 ∧ strR (halfL key) nonce b = lockedB key nonce b :=
  ⟨if_pos ⟨halfL_length key, h⟩, if_pos ⟨halfL_length key, h⟩⟩

end Go.Proofs.Ytdcbljfacmidjaa

/- pyxref06.Open. -/
set_option linter.unusedVariables false
set_option linter.unusedSimpArgs false
namespace Go.Proofs.Ytdcbljfacmidjaa
open Go.RowKit

/-- The first bytes of a slice. -/
theorem Rd.pre6 {w : World} {a : Option Addr} {n c : Nat} {l : List UInt8} (h : Rd w (.slice a n c) l) (k : Nat) (hk : k ≤ n) : Rd w (.slice a k c) (l.take k) := by
  obtain ⟨a', c', e, h1, h2, h3, h4⟩ := h
  simp only [Value.slice.injEq] at e
  obtain ⟨rfl, rfl, rfl⟩ := e
  have hl : (l.take k).length = k := by simp; omega
  refine ⟨a, c, by rw [hl], by omega, h2, h3, fun x hx i hi => ?_⟩
  rw [hl] at hi
  rw [h4 x hx i (by omega), List.getElem_take]
/-- The last bytes of a slice. -/
theorem Rd.post6 {w : World} {g o n c : Nat} {l : List UInt8} (h : Rd w (.slice (some ⟨g, o, none⟩) n c) l) (k m : Nat) (hk : k + m = n) (hc : k < c) : Rd w (.slice (some ⟨g, o + k, none⟩) m (c - k)) (l.drop k) := by
  have := h.cutAt k m (by omega) hc
  have hl := h.len.1
  rwa [List.take_of_length_le (by rw [List.length_drop]; omega)] at this

end Go.Proofs.Ytdcbljfacmidjaa

/- pyxref06.At: a nonce of a number. -/
set_option linter.unusedVariables false
set_option linter.unusedSimpArgs false
namespace Go.Proofs.Ytdcbljfacmidjaa
open Go.RowKit

theorem atL_sets (base : List UInt8) (n : Nat) (h : base.length = 12) :
    (((base.set 8 (base.getD 8 0 ^^^ (be 4 n).getD 0 0)).set 9 (base.getD 9 0 ^^^ (be 4 n).getD 1 0)).set 10 (base.getD 10 0 ^^^ (be 4 n).getD 2 0)).set 11 (base.getD 11 0 ^^^ (be 4 n).getD 3 0) = atL base n := by
  refine get_ext 12 _ _ (by simp [h]) (atL_length _ _) fun j hj => ?_
  rw [atL_get _ _ _ hj, set_getD _ _ _ _ (by simp [h]), set_getD _ _ _ _ (by simp [h]), set_getD _ _ _ _ (by simp [h]), set_getD _ _ _ _ (by simp [h])]
  unfold atF
  by_cases e : j < 8
  · rw [if_pos e, if_neg (by omega), if_neg (by omega), if_neg (by omega), if_neg (by omega)]
  · rw [if_neg e]
    have : j = 8 ∨ j = 9 ∨ j = 10 ∨ j = 11 := by omega
    rcases this with rfl | rfl | rfl | rfl <;> simp
theorem be_bytes (n : Nat) (hn : (n : Int) ≤ 4294967295) :
    (n : Int) / 16777216 = (((be 4 n).getD 0 0).toNat : Int) ∧ (n : Int) / 65536 % 256 = (((be 4 n).getD 1 0).toNat : Int) ∧
    (n : Int) / 256 % 256 = (((be 4 n).getD 2 0).toNat : Int) ∧ (n : Int) % 256 = (((be 4 n).getD 3 0).toNat : Int) := by
  have g : ∀ k, k < 4 → (be 4 n).getD k 0 = UInt8.ofNat (n / 256 ^ (4 - 1 - k)) := fun k hk => by
    rw [List.getD_eq_getElem?_getD, be_get 4 n k hk]
    rfl
  rw [g 0 (by omega), g 1 (by omega), g 2 (by omega), g 3 (by omega)]
  simp only [UInt8.toNat_ofNat']
  refine ⟨?_, ?_, ?_, ?_⟩ <;> simp <;> omega
theorem u8_self (x : UInt8) : IntKind.u8.wrap (x.toNat : Int) = (x.toNat : Int) := u8_wraps _ (u8_lt x)

/-- Four stores, one behind the other. -/
theorem put4 {e : TypeId} {w w0 : World} {B g c : Nat} {base : List UInt8} (h : Ow e w B (.slice (some ⟨g, 0, none⟩) 12 c) base) (hb : base.length = 12) (hk : Kp w0 w) (hg : w0.heap.size ≤ g) (B0 B1 B2 B3 Y0 Y1 Y2 Y3 : UInt8)
    (h0 : base.getD 8 0 = B0) (h1 : base.getD 9 0 = B1) (h2 : base.getD 10 0 = B2) (h3 : base.getD 11 0 = B3) :
    w.cell? ⟨g, 8, none⟩ = some (.int .u8 (B0.toNat : Int)) ∧ w.frozen? ⟨g, 8, none⟩ = false ∧ (w.setCell ⟨g, 8, none⟩ (.int .u8 (Y0.toNat : Int))).cell? ⟨g, 9, none⟩ = some (.int .u8 (B1.toNat : Int)) ∧ (w.setCell ⟨g, 8, none⟩ (.int .u8 (Y0.toNat : Int))).frozen? ⟨g, 9, none⟩ = false ∧ ((w.setCell ⟨g, 8, none⟩ (.int .u8 (Y0.toNat : Int))).setCell ⟨g, 9, none⟩ (.int .u8 (Y1.toNat : Int))).cell? ⟨g, 10, none⟩ = some (.int .u8 (B2.toNat : Int)) ∧ ((w.setCell ⟨g, 8, none⟩ (.int .u8 (Y0.toNat : Int))).setCell ⟨g, 9, none⟩ (.int .u8 (Y1.toNat : Int))).frozen? ⟨g, 10, none⟩ = false ∧ (((w.setCell ⟨g, 8, none⟩ (.int .u8 (Y0.toNat : Int))).setCell ⟨g, 9, none⟩ (.int .u8 (Y1.toNat : Int))).setCell ⟨g, 10, none⟩ (.int .u8 (Y2.toNat : Int))).cell? ⟨g, 11, none⟩ = some (.int .u8 (B3.toNat : Int)) ∧ (((w.setCell ⟨g, 8, none⟩ (.int .u8 (Y0.toNat : Int))).setCell ⟨g, 9, none⟩ (.int .u8 (Y1.toNat : Int))).setCell ⟨g, 10, none⟩ (.int .u8 (Y2.toNat : Int))).frozen? ⟨g, 11, none⟩ = false ∧
    Hid (Rd ((((w.setCell ⟨g, 8, none⟩ (.int .u8 (Y0.toNat : Int))).setCell ⟨g, 9, none⟩ (.int .u8 (Y1.toNat : Int))).setCell ⟨g, 10, none⟩ (.int .u8 (Y2.toNat : Int))).setCell ⟨g, 11, none⟩ (.int .u8 (Y3.toNat : Int))) (.slice (some ⟨g, 0, none⟩) 12 c) ((((base.set 8 Y0).set 9 Y1).set 10 Y2).set 11 Y3) ∧ Kp w0 ((((w.setCell ⟨g, 8, none⟩ (.int .u8 (Y0.toNat : Int))).setCell ⟨g, 9, none⟩ (.int .u8 (Y1.toNat : Int))).setCell ⟨g, 10, none⟩ (.int .u8 (Y2.toNat : Int))).setCell ⟨g, 11, none⟩ (.int .u8 (Y3.toNat : Int)))) := by
  obtain ⟨c8, f8, o8⟩ := ow_put5 h 8 (by omega) Y0
  obtain ⟨c9, f9, o9⟩ := ow_put5 o8 9 (by rw [List.length_set]; omega) Y1
  obtain ⟨c10, f10, o10⟩ := ow_put5 o9 10 (by rw [List.length_set, List.length_set]; omega) Y2
  obtain ⟨c11, f11, o11⟩ := ow_put5 o10 11 (by rw [List.length_set, List.length_set, List.length_set]; omega) Y3
  rw [h0] at c8
  rw [set_getD _ _ _ _ (by omega), if_neg (by omega), h1] at c9
  rw [set_getD _ _ _ _ (by rw [List.length_set]; omega), if_neg (by omega), set_getD _ _ _ _ (by omega), if_neg (by omega), h2] at c10
  rw [set_getD _ _ _ _ (by rw [List.length_set, List.length_set]; omega), if_neg (by omega), set_getD _ _ _ _ (by rw [List.length_set]; omega), if_neg (by omega), set_getD _ _ _ _ (by omega), if_neg (by omega), h3] at c11
  exact ⟨c8, f8, c9, f9, c10, f10, c11, f11, o11.rd, Below.setCell (Below.setCell (Below.setCell (Below.setCell hk (p := ⟨g, 8, none⟩) hg _) (p := ⟨g, 9, none⟩) hg _) (p := ⟨g, 10, none⟩) hg _) (p := ⟨g, 11, none⟩) hg _⟩

end Go.Proofs.Ytdcbljfacmidjaa

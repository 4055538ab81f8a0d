/- What is signed, and wrapped, in plain words. Nothing of a dump. -/
import Derived.Test.YtdcbljfacmidjaaGreatSealRef
set_option linter.unusedVariables false
set_option linter.unusedSimpArgs false
namespace Go.Proofs.YtdcbljfacmidjaaGreat
open Go.RowKit

def pubS : List UInt8 := [112, 117, 98, 108, 105, 99]
def keyS : List UInt8 := [107, 101, 121]
def nonceS : List UInt8 := [110, 111, 110, 99, 101]
/-- A seed's public half. -/
def pubB (seed : List UInt8) : List UInt8 := labR seed pubS [] 32
theorem lab32_length (k l c : List UInt8) : (labR k l c 32).length = 32 :=
  (congrArg List.length (exp_yes (n := 32) k (labI l c 32) (by omega)).2).trans (firstB_length _ (expT_length _ _) 32)
theorem lab12_length (k l c : List UInt8) : (labR k l c 12).length = 12 :=
  (congrArg List.length (exp_yes (n := 12) k (labI l c 12) (by omega)).2).trans (firstB_length _ (expT_length _ _) 12)
theorem pubB_length (seed : List UInt8) : (pubB seed).length = 32 := lab32_length _ _ _
def pubE (seed : List UInt8) : Int := if seed.length = 32 then 0 else 1
def pubR (seed : List UInt8) : List UInt8 := if seed.length = 32 then pubB seed else []
theorem pub_yes {s : List UInt8} (h : s.length = 32) : pubE s = 0 ∧ pubR s = pubB s := ⟨if_pos h, if_pos h⟩
theorem pub_no {s : List UInt8} (h : ¬ s.length = 32) : pubE s = 1 ∧ pubR s = [] := ⟨if_neg h, if_neg h⟩

/-- What is signed: the row of the label, and the row of the bytes. -/
def signedB (label b : List UInt8) : List UInt8 := rowB (mlsB ++ label) ++ rowB b
def sigB (pub label b : List UInt8) : List UInt8 := macB pub (signedB label b)
theorem sigB_length (pub label b : List UInt8) : (sigB pub label b).length = 32 := macB_length _ _
def signR (seed label b : List UInt8) : List UInt8 := if seed.length = 32 then sigB (pubB seed) label b else []
def verE (pub label b sign : List UInt8) : Int := if pub.length = 32 then (if sigB pub label b = sign then 0 else 5) else 1
theorem signedB_length (label b : List UInt8) (hl : label.length ≤ 300) (hb : b.length ≤ 1400) : (signedB label b).length ≤ 1800 := by
  have h5 : mlsB.length = 8 := rfl
  have h6 : (mlsB ++ label).length = 8 + label.length := by rw [List.length_append, h5]
  have h1 := row_len (x := mlsB ++ label) (by omega)
  have h2 := row_len (x := b) (by omega)
  have h3 := lenBytes_le (mlsB ++ label).length
  have h4 := lenBytes_le b.length
  unfold signedB
  rw [List.length_append, h1, h2]
  omega
/-- Rows with something behind them tell where they end. -/
theorem row_cut {x y s t : List UInt8} (hx : x.length ≤ 1000000) (hy : y.length ≤ 1000000) (h : rowB x ++ s = rowB y ++ t) : x = y ∧ s = t := by
  have e : x = y := by
    rcases List.append_eq_append_iff.1 h with ⟨a, h1, _⟩ | ⟨a, h1, _⟩
    · exact (row_begins (by omega) (by omega) ⟨a, h1⟩).symm
    · exact row_begins (by omega) (by omega) ⟨a, h1⟩
  subst e
  exact ⟨rfl, List.append_cancel_left h⟩
theorem signedB_inj {l m b c : List UInt8} (hl : l.length ≤ 1000) (hm : m.length ≤ 1000) (hb : b.length ≤ 100000) (hc : c.length ≤ 100000) (h : signedB l b = signedB m c) : l = m ∧ b = c := by
  have h5 : mlsB.length = 8 := rfl
  unfold signedB at h
  obtain ⟨e1, e2⟩ := row_cut (by rw [List.length_append]; omega) (by rw [List.length_append]; omega) h
  have e3 : rowB b ++ [] = rowB c ++ [] := by rw [e2]
  exact ⟨List.append_cancel_left e1, (row_cut (by omega) (by omega) e3).1⟩

/-- The secret that wraps; the key and the nonce made of it. -/
def secB (pub half : List UInt8) : List UInt8 := macB pub half
def wkB (pub half info : List UInt8) : List UInt8 := labR (secB pub half) keyS info 32
def wnB (pub half info : List UInt8) : List UInt8 := labR (secB pub half) nonceS info 12
theorem wk_ok (pub half info : List UInt8) : okK (wkB pub half info) (wnB pub half info) := ⟨lab32_length _ _ _, lab12_length _ _ _⟩
def okW (pub once : List UInt8) : Prop := once.length = 32 ∧ pub.length = 32
instance (pub once : List UInt8) : Decidable (okW pub once) := by unfold okW; infer_instance
def wrapE (pub once : List UInt8) : Int := if okW pub once then 0 else 1
def wrapH (pub once : List UInt8) : List UInt8 := if okW pub once then pubB once else []
def wrapped (pub half info b : List UInt8) : List UInt8 := sealB (wkB pub half info) (wnB pub half info) [] b
def wrapR (pub once info b : List UInt8) : List UInt8 := if okW pub once then wrapped pub (pubB once) info b else []
def unE (seed half info b : List UInt8) : Int := if okW half seed then openE (wkB (pubB seed) half info) (wnB (pubB seed) half info) [] b else 1
def unR (seed half info b : List UInt8) : List UInt8 := if okW half seed then openR (wkB (pubB seed) half info) (wnB (pubB seed) half info) [] b else []
theorem wrapped_length (pub half info b : List UInt8) : (wrapped pub half info b).length = b.length + 32 := sealB_length _ _ _ _
theorem wrap_yes {pub once : List UInt8} (info b : List UInt8) (h : okW pub once) : wrapE pub once = 0 ∧ wrapH pub once = pubB once ∧ wrapR pub once info b = wrapped pub (pubB once) info b := ⟨if_pos h, if_pos h, if_pos h⟩
theorem wrap_no {pub once : List UInt8} (info b : List UInt8) (h : ¬ okW pub once) : wrapE pub once = 1 ∧ wrapH pub once = [] ∧ wrapR pub once info b = [] := ⟨if_neg h, if_neg h, if_neg h⟩
theorem un_yes {seed half : List UInt8} (info b : List UInt8) (h : okW half seed) : unE seed half info b = openE (wkB (pubB seed) half info) (wnB (pubB seed) half info) [] b ∧ unR seed half info b = openR (wkB (pubB seed) half info) (wnB (pubB seed) half info) [] b := ⟨if_pos h, if_pos h⟩
theorem un_no {seed half : List UInt8} (info b : List UInt8) (h : ¬ okW half seed) : unE seed half info b = 1 ∧ unR seed half info b = [] := ⟨if_neg h, if_neg h⟩
/-- What is wrapped for a seed's public half is unwrapped by it. -/
theorem un_wrapped {seed half : List UInt8} (info b : List UInt8) (hs : seed.length = 32) (hh : half.length = 32) : unE seed half info (wrapped (pubB seed) half info b) = 0 ∧ unR seed half info (wrapped (pubB seed) half info b) = b := by
  obtain ⟨e1, e2⟩ := un_yes (seed := seed) (half := half) info (wrapped (pubB seed) half info b) ⟨hs, hh⟩
  rw [e1, e2]
  exact open_seal [] b (wk_ok _ _ _)
end Go.Proofs.YtdcbljfacmidjaaGreat

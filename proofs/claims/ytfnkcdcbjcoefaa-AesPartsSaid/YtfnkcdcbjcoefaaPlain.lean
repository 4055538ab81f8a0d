/- What the document says of byt's calls, as plain functions. Nothing of a dump. -/
import Derived.Test.YtfnkcdcbjcoefaaBase
set_option linter.unusedVariables false
set_option linter.unusedSimpArgs false
namespace Go.Proofs.Ytfnkcdcbjcoefaa

def numOk (n w : Int) : Prop := 1 ≤ w ∧ w ≤ 7 ∧ 0 ≤ n ∧ n < 256 ^ w.toNat
instance (n w : Int) : Decidable (numOk n w) := by unfold numOk; infer_instance
def numE (n w : Int) : Int := if numOk n w then 0 else 1
def numB (n w : Int) : List UInt8 := if numOk n w then be w.toNat n.toNat else []

/-- TakeNum's error, number and place. -/
def tnE (b : List UInt8) (at' w : Int) : Int := if w < 1 ∨ 7 < w ∨ at' < 0 ∨ b.length < at' then 1 else if b.length - at' < w then 3 else 0
def tnN (b : List UInt8) (at' w : Int) : Int := if tnE b at' w = 0 then val ((b.drop at'.toNat).take w.toNat) else 0
def tnP (b : List UInt8) (at' w : Int) : Int := if tnE b at' w = 0 then at' + w else 0

def lenE (n : Int) : Int := if n < 0 ∨ 1073741823 < n then 1 else 0
/-- The bytes of a length. -/
def lenBytes (n : Nat) : List UInt8 := if n < 64 then be 1 n else if n < 16384 then be 2 (n + 16384) else be 4 (n + 2147483648)
def lenB (n : Int) : List UInt8 := if lenE n = 0 then lenBytes n.toNat else []

/-- How many bytes a length has, by its first byte. -/
def widthOf (c : Nat) : Nat := if c < 64 then 1 else if c < 128 then 2 else 4
/-- The number that a length's bytes tell. -/
def lenOf (w : Nat) (l : List UInt8) : Int := if w = 1 then val l else if w = 2 then val l - 16384 else val l - 2147483648
def tlE (b : List UInt8) (at' : Int) : Int :=
  if at' < 0 ∨ b.length < at' then 1 else if (b.length : Int) = at' then 3 else
  let c := (b.getD at'.toNat 0).toNat
  if 192 ≤ c then 2 else if b.length - at' < widthOf c then 3 else
  let n := lenOf (widthOf c) ((b.drop at'.toNat).take (widthOf c))
  if (widthOf c = 2 ∧ n < 64) ∨ (widthOf c = 4 ∧ n < 16384) then 2 else 0
def tlN (b : List UInt8) (at' : Int) : Int := if tlE b at' = 0 then let c := (b.getD at'.toNat 0).toNat; lenOf (widthOf c) ((b.drop at'.toNat).take (widthOf c)) else 0
def tlP (b : List UInt8) (at' : Int) : Int := if tlE b at' = 0 then at' + widthOf (b.getD at'.toNat 0).toNat else 0

def rowE (x : List UInt8) : Int := lenE x.length
def rowB (x : List UInt8) : List UInt8 := if rowE x = 0 then lenBytes x.length ++ x else []

def trE (b : List UInt8) (at' most : Int) : Int := if tlE b at' ≠ 0 then tlE b at' else if most < tlN b at' then 4 else if b.length - tlP b at' < tlN b at' then 3 else 0
def trB (b : List UInt8) (at' most : Int) : List UInt8 := if trE b at' most = 0 then (b.drop (tlP b at').toNat).take (tlN b at').toNat else []
def trP (b : List UInt8) (at' most : Int) : Int := if trE b at' most = 0 then tlP b at' + tlN b at' else 0

def optB (is : Bool) (x : List UInt8) : List UInt8 := if is then 1 :: x else [0]
def toE (b : List UInt8) (at' : Int) : Int := if at' < 0 ∨ b.length < at' then 1 else if (b.length : Int) = at' then 3 else if 1 < (b.getD at'.toNat 0).toNat then 2 else 0
def toV (b : List UInt8) (at' : Int) : Bool := decide (toE b at' = 0 ∧ b.getD at'.toNat 0 = 1)
def toP (b : List UInt8) (at' : Int) : Int := if toE b at' = 0 then at' + 1 else 0

theorem num_yes {n w : Int} (h : numOk n w) : numE n w = 0 ∧ numB n w = be w.toNat n.toNat := by simp [numE, numB, h]
theorem num_no {n w : Int} (h : ¬ numOk n w) : numE n w = 1 ∧ numB n w = [] := by simp [numE, numB, h]
theorem tn_arg {b : List UInt8} {at' w : Int} (h : w < 1 ∨ 7 < w ∨ at' < 0 ∨ (b.length : Int) < at') : tnE b at' w = 1 ∧ tnN b at' w = 0 ∧ tnP b at' w = 0 := by
  have : tnE b at' w = 1 := by unfold tnE; rw [if_pos h]
  simp [tnN, tnP, this]
theorem tn_short {b : List UInt8} {at' w : Int} (h : ¬ (w < 1 ∨ 7 < w ∨ at' < 0 ∨ (b.length : Int) < at')) (h' : b.length - at' < w) : tnE b at' w = 3 ∧ tnN b at' w = 0 ∧ tnP b at' w = 0 := by
  have : tnE b at' w = 3 := by unfold tnE; rw [if_neg h, if_pos h']
  simp [tnN, tnP, this]
theorem tn_yes {b : List UInt8} {at' w : Int} (h : ¬ (w < 1 ∨ 7 < w ∨ at' < 0 ∨ (b.length : Int) < at')) (h' : ¬ b.length - at' < w) :
    tnE b at' w = 0 ∧ tnN b at' w = val ((b.drop at'.toNat).take w.toNat) ∧ tnP b at' w = at' + w := by
  have : tnE b at' w = 0 := by unfold tnE; rw [if_neg h, if_neg h']
  simp [tnN, tnP, this]

theorem tl_not {b : List UInt8} {at' x : Int} (h : tlE b at' = x) (hx : x ≠ 0) : tlN b at' = 0 ∧ tlP b at' = 0 ∧ tlE b at' = x := by
  simp [tlN, tlP, h, hx]
theorem tl_arg {b : List UInt8} {at' : Int} (h : at' < 0 ∨ (b.length : Int) < at') : tlN b at' = 0 ∧ tlP b at' = 0 ∧ tlE b at' = 1 :=
  tl_not (by unfold tlE; rw [if_pos h]) (by decide)
theorem tl_end {b : List UInt8} : tlN b b.length = 0 ∧ tlP b b.length = 0 ∧ tlE b b.length = 3 :=
  tl_not (by unfold tlE; rw [if_neg (by omega), if_pos rfl]) (by decide)
theorem tlE_in {b : List UInt8} {p : Nat} (hp : p < b.length) : tlE b p = if 192 ≤ (b.getD p 0).toNat then 2 else if (b.length : Int) - p < widthOf (b.getD p 0).toNat then 3 else
    if (widthOf (b.getD p 0).toNat = 2 ∧ lenOf (widthOf (b.getD p 0).toNat) ((b.drop p).take (widthOf (b.getD p 0).toNat)) < 64) ∨
      (widthOf (b.getD p 0).toNat = 4 ∧ lenOf (widthOf (b.getD p 0).toNat) ((b.drop p).take (widthOf (b.getD p 0).toNat)) < 16384) then 2 else 0 := by
  unfold tlE
  rw [if_neg (by omega), if_neg (by omega)]
  rfl
theorem tl_form {b : List UInt8} {p : Nat} (hp : p < b.length) (h : 192 ≤ (b.getD p 0).toNat) : tlN b p = 0 ∧ tlP b p = 0 ∧ tlE b p = 2 :=
  tl_not (by rw [tlE_in hp, if_pos h]) (by decide)
theorem tl_short {b : List UInt8} {p : Nat} (hp : p < b.length) (h : (b.getD p 0).toNat < 192) (h' : (b.length : Int) - p < widthOf (b.getD p 0).toNat) : tlN b p = 0 ∧ tlP b p = 0 ∧ tlE b p = 3 :=
  tl_not (by rw [tlE_in hp, if_neg (by omega), if_pos h']) (by decide)
/-- One byte. -/
theorem tl_one {b : List UInt8} {p : Nat} (hp : p < b.length) (h : (b.getD p 0).toNat < 64) : tlN b p = (b.getD p 0).toNat ∧ tlP b p = p + 1 ∧ tlE b p = 0 := by
  have hw : widthOf (b.getD p 0).toNat = 1 := by simp only [widthOf, if_pos h]
  have e : tlE b p = 0 := by rw [tlE_in hp, if_neg (by omega), hw, if_neg (by omega), if_neg (by omega)]
  have ht : (b.drop p).take 1 = [b.getD p 0] := by
    rw [List.drop_eq_getElem_cons hp, List.take_succ_cons, List.take_zero, List.getD_eq_getElem?_getD, List.getElem?_eq_getElem hp]; rfl
  refine ⟨?_, ?_, e⟩
  · unfold tlN
    rw [if_pos e]
    simp only [Int.toNat_natCast, hw, lenOf, if_pos, ht]
    simp [val]
  · unfold tlP
    rw [if_pos e, Int.toNat_natCast, hw]; rfl
/-- Two bytes. -/
theorem tl_two {b : List UInt8} {p : Nat} (hp : p < b.length) (h : 64 ≤ (b.getD p 0).toNat) (h' : (b.getD p 0).toNat < 128) (hl : p + 2 ≤ b.length) :
    (val ((b.drop p).take 2) < 16448 → tlN b p = 0 ∧ tlP b p = 0 ∧ tlE b p = 2) ∧
    (16448 ≤ val ((b.drop p).take 2) → tlN b p = (val ((b.drop p).take 2) : Int) - 16384 ∧ tlP b p = p + 2 ∧ tlE b p = 0) := by
  have hw : widthOf (b.getD p 0).toNat = 2 := by simp only [widthOf]; rw [if_neg (by omega), if_pos h']
  have hL : lenOf 2 ((b.drop p).take 2) = (val ((b.drop p).take 2) : Int) - 16384 := rfl
  refine ⟨fun hv => tl_not (by rw [tlE_in hp, if_neg (by omega), hw, if_neg (by omega), hL, if_pos (by omega)]) (by decide), fun hv => ?_⟩
  have e : tlE b p = 0 := by rw [tlE_in hp, if_neg (by omega), hw, if_neg (by omega), hL, if_neg (by omega)]
  refine ⟨?_, ?_, e⟩
  · unfold tlN
    rw [if_pos e]
    simp only [Int.toNat_natCast, hw, hL]
  · unfold tlP
    rw [if_pos e, Int.toNat_natCast, hw]; rfl
/-- Four bytes. -/
theorem tl_four {b : List UInt8} {p : Nat} (hp : p < b.length) (h : 128 ≤ (b.getD p 0).toNat) (h' : (b.getD p 0).toNat < 192) (hl : p + 4 ≤ b.length) :
    (val ((b.drop p).take 4) < 2147500032 → tlN b p = 0 ∧ tlP b p = 0 ∧ tlE b p = 2) ∧
    (2147500032 ≤ val ((b.drop p).take 4) → tlN b p = (val ((b.drop p).take 4) : Int) - 2147483648 ∧ tlP b p = p + 4 ∧ tlE b p = 0) := by
  have hw : widthOf (b.getD p 0).toNat = 4 := by simp only [widthOf]; rw [if_neg (by omega), if_neg (by omega)]
  have hL : lenOf 4 ((b.drop p).take 4) = (val ((b.drop p).take 4) : Int) - 2147483648 := rfl
  refine ⟨fun hv => tl_not (by rw [tlE_in hp, if_neg (by omega), hw, if_neg (by omega), hL, if_pos (by omega)]) (by decide), fun hv => ?_⟩
  have e : tlE b p = 0 := by rw [tlE_in hp, if_neg (by omega), hw, if_neg (by omega), hL, if_neg (by omega)]
  refine ⟨?_, ?_, e⟩
  · unfold tlN
    rw [if_pos e]
    simp only [Int.toNat_natCast, hw, hL]
  · unfold tlP
    rw [if_pos e, Int.toNat_natCast, hw]; rfl
theorem width_two {b : List UInt8} {p : Nat} (h : 64 ≤ (b.getD p 0).toNat) (h' : (b.getD p 0).toNat < 128) : widthOf (b.getD p 0).toNat = 2 := by simp only [widthOf]; rw [if_neg (by omega), if_pos h']
theorem width_four {b : List UInt8} {p : Nat} (h : 128 ≤ (b.getD p 0).toNat) : widthOf (b.getD p 0).toNat = 4 := by simp only [widthOf]; rw [if_neg (by omega), if_neg (by omega)]
/-- The value of two or four bytes, by the first. -/
theorem val_cons (c : UInt8) (t : List UInt8) : val (c :: t) = c.toNat * 256 ^ t.length + val t := by
  refine snocRec (P := fun t => val (c :: t) = c.toNat * 256 ^ t.length + val t) (by simp [val]) (fun t b ih => ?_) t
  rw [← List.cons_append, val_snoc, val_snoc, ih, List.length_append, List.length_singleton, Nat.pow_succ, ← Nat.mul_assoc]
  omega
theorem val_range {b : List UInt8} {p : Nat} (k : Nat) (hl : p + (k + 1) ≤ b.length) : (b.getD p 0).toNat * 256 ^ k ≤ val ((b.drop p).take (k + 1)) ∧ val ((b.drop p).take (k + 1)) < ((b.getD p 0).toNat + 1) * 256 ^ k := by
  have hp : p < b.length := by omega
  rw [List.drop_eq_getElem_cons hp, List.take_succ_cons, val_cons, List.getD_eq_getElem?_getD, List.getElem?_eq_getElem hp]
  have hk : (List.take k (b.drop (p + 1))).length = k := by simp; omega
  have := val_lt (List.take k (b.drop (p + 1)))
  rw [hk] at this ⊢
  rw [Nat.add_mul]
  simp
  omega
theorem tr_bad {l : List UInt8} {at' most : Int} (h : tlE l at' ≠ 0) : trE l at' most = tlE l at' ∧ trB l at' most = [] ∧ trP l at' most = 0 := by
  have e : trE l at' most = tlE l at' := if_pos h
  simp [trB, trP, e, h]
theorem tr_big {l : List UInt8} {at' most : Int} (h : tlE l at' = 0) (h1 : most < tlN l at') : trE l at' most = 4 ∧ trB l at' most = [] ∧ trP l at' most = 0 := by
  have e : trE l at' most = 4 := by unfold trE; rw [if_neg (by omega), if_pos h1]
  simp [trB, trP, e]
theorem tr_short {l : List UInt8} {at' most : Int} (h : tlE l at' = 0) (h1 : ¬ most < tlN l at') (h2 : l.length - tlP l at' < tlN l at') : trE l at' most = 3 ∧ trB l at' most = [] ∧ trP l at' most = 0 := by
  have e : trE l at' most = 3 := by unfold trE; rw [if_neg (by omega), if_neg h1, if_pos h2]
  simp [trB, trP, e]
theorem tr_yes {l : List UInt8} {at' most : Int} (h : tlE l at' = 0) (h1 : ¬ most < tlN l at') (h2 : ¬ l.length - tlP l at' < tlN l at') :
    trE l at' most = 0 ∧ trB l at' most = (l.drop (tlP l at').toNat).take (tlN l at').toNat ∧ trP l at' most = tlP l at' + tlN l at' := by
  have e : trE l at' most = 0 := by unfold trE; rw [if_neg (by omega), if_neg h1, if_neg h2]
  simp [trB, trP, e]

/-- What a length that is taken is, and where its end. -/
theorem tl_bounds (l : List UInt8) (at' : Int) (h : tlE l at' = 0) : 0 ≤ tlN l at' ∧ tlN l at' ≤ 1073741823 ∧ 1 ≤ tlP l at' ∧ tlP l at' ≤ l.length := by
  by_cases h1 : at' < 0 ∨ (l.length : Int) < at'
  · rw [(tl_arg h1).2.2] at h; simp at h
  obtain ⟨p, rfl⟩ := Int.eq_ofNat_of_zero_le (show 0 ≤ at' by omega)
  by_cases h2 : p = l.length
  · subst h2; rw [tl_end.2.2] at h; simp at h
  have hp : p < l.length := by omega
  by_cases h3 : 192 ≤ (l.getD p 0).toNat
  · rw [(tl_form hp h3).2.2] at h; simp at h
  by_cases h4 : (l.length : Int) - p < widthOf (l.getD p 0).toNat
  · rw [(tl_short hp (by omega) h4).2.2] at h; simp at h
  by_cases c1 : (l.getD p 0).toNat < 64
  · obtain ⟨e1, e2, _⟩ := tl_one hp c1
    omega
  by_cases c2 : (l.getD p 0).toNat < 128
  · rw [width_two (by omega) c2] at h4
    have E := tl_two hp (by omega) c2 (by omega)
    have hv := val_range (b := l) (p := p) 1 (by omega)
    rw [show 1 + 1 = 2 from rfl, Nat.pow_one] at hv
    rcases Nat.lt_or_ge (val ((l.drop p).take 2)) 16448 with h5 | h5
    · rw [(E.1 h5).2.2] at h; simp at h
    · obtain ⟨e1, e2, _⟩ := E.2 h5
      omega
  · rw [width_four (by omega)] at h4
    have E := tl_four hp (by omega) (by omega) (by omega)
    have hv := val_range (b := l) (p := p) 3 (by omega)
    rw [show 3 + 1 = 4 from rfl, show 256 ^ 3 = 16777216 from by decide] at hv
    rcases Nat.lt_or_ge (val ((l.drop p).take 4)) 2147500032 with h5 | h5
    · rw [(E.1 h5).2.2] at h; simp at h
    · obtain ⟨e1, e2, _⟩ := E.2 h5
      omega

end Go.Proofs.Ytfnkcdcbjcoefaa

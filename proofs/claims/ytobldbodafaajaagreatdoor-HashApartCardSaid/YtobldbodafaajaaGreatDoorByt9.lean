/- What the document says of byt's calls, as plain functions. Nothing of a dump. -/
import Derived.Test.YtobldbodafaajaaGreatDoorBase
import Derived.Test.YtobldbodafaajaaGreatDoorRows
import Derived.WalkSpells
import Derived.Lib.Hide
import Derived.Outline
import Derived.Deep.QuietTactic
import Derived.BigQuiet
set_option linter.unusedVariables false
set_option linter.unusedSimpArgs false
namespace Go.Proofs.YtobldbodafaajaaGreatDoor

def numOk (n w : Int) : Prop := 1 ≤ w ∧ w ≤ 7 ∧ 0 ≤ n ∧ n < 256 ^ w.toNat
instance (n w : Int) : Decidable (numOk n w) := by unfold numOk; infer_instance
def numE (n w : Int) : Int := if numOk n w then 0 else 1
def numB (n w : Int) : List UInt8 := if numOk n w then be w.toNat n.toNat else []

/-- TakeNum's error, number and place. -/
def tnE (b : List UInt8) (at' w : Int) : Int := if w < 1 ∨ 7 < w ∨ at' < 0 ∨ b.length < at' then 1 else if b.length - at' < w then 3 else 0
def tnN (b : List UInt8) (at' w : Int) : Int := if tnE b at' w = 0 then val ((b.drop at'.toNat).take w.toNat) else 0
def tnP (b : List UInt8) (at' w : Int) : Int := if tnE b at' w = 0 then at' + w else 0

def lenE (n : Int) : Int := if n < 0 ∨ 1073741823 < n then 1 else 0
/-- The bytes of a length. -/
def lenBytes (n : Nat) : List UInt8 := if n < 64 then be 1 n else if n < 16384 then be 2 (n + 16384) else be 4 (n + 2147483648)
def lenB (n : Int) : List UInt8 := if lenE n = 0 then lenBytes n.toNat else []

/-- How many bytes a length has, by its first byte. -/
def widthOf (c : Nat) : Nat := if c < 64 then 1 else if c < 128 then 2 else 4
/-- The number that a length's bytes tell. -/
def lenOf (w : Nat) (l : List UInt8) : Int := if w = 1 then val l else if w = 2 then val l - 16384 else val l - 2147483648
def tlE (b : List UInt8) (at' : Int) : Int :=
  if at' < 0 ∨ b.length < at' then 1 else if (b.length : Int) = at' then 3 else
  let c := (b.getD at'.toNat 0).toNat
  if 192 ≤ c then 2 else if b.length - at' < widthOf c then 3 else
  let n := lenOf (widthOf c) ((b.drop at'.toNat).take (widthOf c))
  if (widthOf c = 2 ∧ n < 64) ∨ (widthOf c = 4 ∧ n < 16384) then 2 else 0
def tlN (b : List UInt8) (at' : Int) : Int := if tlE b at' = 0 then let c := (b.getD at'.toNat 0).toNat; lenOf (widthOf c) ((b.drop at'.toNat).take (widthOf c)) else 0
def tlP (b : List UInt8) (at' : Int) : Int := if tlE b at' = 0 then at' + widthOf (b.getD at'.toNat 0).toNat else 0

def rowE (x : List UInt8) : Int := lenE x.length
def rowB (x : List UInt8) : List UInt8 := if rowE x = 0 then lenBytes x.length ++ x else []

def trE (b : List UInt8) (at' most : Int) : Int := if tlE b at' ≠ 0 then tlE b at' else if most < tlN b at' then 4 else if b.length - tlP b at' < tlN b at' then 3 else 0
def trB (b : List UInt8) (at' most : Int) : List UInt8 := if trE b at' most = 0 then (b.drop (tlP b at').toNat).take (tlN b at').toNat else []
def trP (b : List UInt8) (at' most : Int) : Int := if trE b at' most = 0 then tlP b at' + tlN b at' else 0

def optB (is : Bool) (x : List UInt8) : List UInt8 := if is then 1 :: x else [0]
def toE (b : List UInt8) (at' : Int) : Int := if at' < 0 ∨ b.length < at' then 1 else if (b.length : Int) = at' then 3 else if 1 < (b.getD at'.toNat 0).toNat then 2 else 0
def toV (b : List UInt8) (at' : Int) : Bool := decide (toE b at' = 0 ∧ b.getD at'.toNat 0 = 1)
def toP (b : List UInt8) (at' : Int) : Int := if toE b at' = 0 then at' + 1 else 0

theorem num_yes {n w : Int} (h : numOk n w) : numE n w = 0 ∧ numB n w = be w.toNat n.toNat := by simp [numE, numB, h]
theorem num_no {n w : Int} (h : ¬ numOk n w) : numE n w = 1 ∧ numB n w = [] := by simp [numE, numB, h]
theorem tn_arg {b : List UInt8} {at' w : Int} (h : w < 1 ∨ 7 < w ∨ at' < 0 ∨ (b.length : Int) < at') : tnE b at' w = 1 ∧ tnN b at' w = 0 ∧ tnP b at' w = 0 := by
  have : tnE b at' w = 1 := by unfold tnE; rw [if_pos h]
  simp [tnN, tnP, this]
theorem tn_short {b : List UInt8} {at' w : Int} (h : ¬ (w < 1 ∨ 7 < w ∨ at' < 0 ∨ (b.length : Int) < at')) (h' : b.length - at' < w) : tnE b at' w = 3 ∧ tnN b at' w = 0 ∧ tnP b at' w = 0 := by
  have : tnE b at' w = 3 := by unfold tnE; rw [if_neg h, if_pos h']
  simp [tnN, tnP, this]
theorem tn_yes {b : List UInt8} {at' w : Int} (h : ¬ (w < 1 ∨ 7 < w ∨ at' < 0 ∨ (b.length : Int) < at')) (h' : ¬ b.length - at' < w) :
    tnE b at' w = 0 ∧ tnN b at' w = val ((b.drop at'.toNat).take w.toNat) ∧ tnP b at' w = at' + w := by
  have : tnE b at' w = 0 := by unfold tnE; rw [if_neg h, if_neg h']
  simp [tnN, tnP, this]

theorem tl_not {b : List UInt8} {at' x : Int} (h : tlE b at' = x) (hx : x ≠ 0) : tlN b at' = 0 ∧ tlP b at' = 0 ∧ tlE b at' = x := by
  simp [tlN, tlP, h, hx]
theorem tl_arg {b : List UInt8} {at' : Int} (h : at' < 0 ∨ (b.length : Int) < at') : tlN b at' = 0 ∧ tlP b at' = 0 ∧ tlE b at' = 1 :=
  tl_not (by unfold tlE; rw [if_pos h]) (by decide)
theorem tl_end {b : List UInt8} : tlN b b.length = 0 ∧ tlP b b.length = 0 ∧ tlE b b.length = 3 :=
  tl_not (by unfold tlE; rw [if_neg (by omega), if_pos rfl]) (by decide)
theorem tlE_in {b : List UInt8} {p : Nat} (hp : p < b.length) : tlE b p = if 192 ≤ (b.getD p 0).toNat then 2 else if (b.length : Int) - p < widthOf (b.getD p 0).toNat then 3 else
    if (widthOf (b.getD p 0).toNat = 2 ∧ lenOf (widthOf (b.getD p 0).toNat) ((b.drop p).take (widthOf (b.getD p 0).toNat)) < 64) ∨
      (widthOf (b.getD p 0).toNat = 4 ∧ lenOf (widthOf (b.getD p 0).toNat) ((b.drop p).take (widthOf (b.getD p 0).toNat)) < 16384) then 2 else 0 := by
  unfold tlE
  rw [if_neg (by omega), if_neg (by omega)]
  rfl
theorem tl_form {b : List UInt8} {p : Nat} (hp : p < b.length) (h : 192 ≤ (b.getD p 0).toNat) : tlN b p = 0 ∧ tlP b p = 0 ∧ tlE b p = 2 :=
  tl_not (by rw [tlE_in hp, if_pos h]) (by decide)
theorem tl_short {b : List UInt8} {p : Nat} (hp : p < b.length) (h : (b.getD p 0).toNat < 192) (h' : (b.length : Int) - p < widthOf (b.getD p 0).toNat) : tlN b p = 0 ∧ tlP b p = 0 ∧ tlE b p = 3 :=
  tl_not (by rw [tlE_in hp, if_neg (by omega), if_pos h']) (by decide)
/-- One byte. -/
theorem tl_one {b : List UInt8} {p : Nat} (hp : p < b.length) (h : (b.getD p 0).toNat < 64) : tlN b p = (b.getD p 0).toNat ∧ tlP b p = p + 1 ∧ tlE b p = 0 := by
  have hw : widthOf (b.getD p 0).toNat = 1 := by simp only [widthOf, if_pos h]
  have e : tlE b p = 0 := by rw [tlE_in hp, if_neg (by omega), hw, if_neg (by omega), if_neg (by omega)]
  have ht : (b.drop p).take 1 = [b.getD p 0] := by
    rw [List.drop_eq_getElem_cons hp, List.take_succ_cons, List.take_zero, List.getD_eq_getElem?_getD, List.getElem?_eq_getElem hp]; rfl
  refine ⟨?_, ?_, e⟩
  · unfold tlN
    rw [if_pos e]
    simp only [Int.toNat_natCast, hw, lenOf, if_pos, ht]
    simp [val]
  · unfold tlP
    rw [if_pos e, Int.toNat_natCast, hw]; rfl
/-- Two bytes. -/
theorem tl_two {b : List UInt8} {p : Nat} (hp : p < b.length) (h : 64 ≤ (b.getD p 0).toNat) (h' : (b.getD p 0).toNat < 128) (hl : p + 2 ≤ b.length) :
    (val ((b.drop p).take 2) < 16448 → tlN b p = 0 ∧ tlP b p = 0 ∧ tlE b p = 2) ∧
    (16448 ≤ val ((b.drop p).take 2) → tlN b p = (val ((b.drop p).take 2) : Int) - 16384 ∧ tlP b p = p + 2 ∧ tlE b p = 0) := by
  have hw : widthOf (b.getD p 0).toNat = 2 := by simp only [widthOf]; rw [if_neg (by omega), if_pos h']
  have hL : lenOf 2 ((b.drop p).take 2) = (val ((b.drop p).take 2) : Int) - 16384 := rfl
  refine ⟨fun hv => tl_not (by rw [tlE_in hp, if_neg (by omega), hw, if_neg (by omega), hL, if_pos (by omega)]) (by decide), fun hv => ?_⟩
  have e : tlE b p = 0 := by rw [tlE_in hp, if_neg (by omega), hw, if_neg (by omega), hL, if_neg (by omega)]
  refine ⟨?_, ?_, e⟩
  · unfold tlN
    rw [if_pos e]
    simp only [Int.toNat_natCast, hw, hL]
  · unfold tlP
    rw [if_pos e, Int.toNat_natCast, hw]; rfl
/-- Four bytes. -/
theorem tl_four {b : List UInt8} {p : Nat} (hp : p < b.length) (h : 128 ≤ (b.getD p 0).toNat) (h' : (b.getD p 0).toNat < 192) (hl : p + 4 ≤ b.length) :
    (val ((b.drop p).take 4) < 2147500032 → tlN b p = 0 ∧ tlP b p = 0 ∧ tlE b p = 2) ∧
    (2147500032 ≤ val ((b.drop p).take 4) → tlN b p = (val ((b.drop p).take 4) : Int) - 2147483648 ∧ tlP b p = p + 4 ∧ tlE b p = 0) := by
  have hw : widthOf (b.getD p 0).toNat = 4 := by simp only [widthOf]; rw [if_neg (by omega), if_neg (by omega)]
  have hL : lenOf 4 ((b.drop p).take 4) = (val ((b.drop p).take 4) : Int) - 2147483648 := rfl
  refine ⟨fun hv => tl_not (by rw [tlE_in hp, if_neg (by omega), hw, if_neg (by omega), hL, if_pos (by omega)]) (by decide), fun hv => ?_⟩
  have e : tlE b p = 0 := by rw [tlE_in hp, if_neg (by omega), hw, if_neg (by omega), hL, if_neg (by omega)]
  refine ⟨?_, ?_, e⟩
  · unfold tlN
    rw [if_pos e]
    simp only [Int.toNat_natCast, hw, hL]
  · unfold tlP
    rw [if_pos e, Int.toNat_natCast, hw]; rfl
theorem width_two {b : List UInt8} {p : Nat} (h : 64 ≤ (b.getD p 0).toNat) (h' : (b.getD p 0).toNat < 128) : widthOf (b.getD p 0).toNat = 2 := by simp only [widthOf]; rw [if_neg (by omega), if_pos h']
theorem width_four {b : List UInt8} {p : Nat} (h : 128 ≤ (b.getD p 0).toNat) : widthOf (b.getD p 0).toNat = 4 := by simp only [widthOf]; rw [if_neg (by omega), if_neg (by omega)]
/-- The value of two or four bytes, by the first. -/
theorem val_cons (c : UInt8) (t : List UInt8) : val (c :: t) = c.toNat * 256 ^ t.length + val t := by
  refine snocRec (P := fun t => val (c :: t) = c.toNat * 256 ^ t.length + val t) (by simp [val]) (fun t b ih => ?_) t
  rw [← List.cons_append, val_snoc, val_snoc, ih, List.length_append, List.length_singleton, Nat.pow_succ, ← Nat.mul_assoc]
  omega
theorem val_range {b : List UInt8} {p : Nat} (k : Nat) (hl : p + (k + 1) ≤ b.length) : (b.getD p 0).toNat * 256 ^ k ≤ val ((b.drop p).take (k + 1)) ∧ val ((b.drop p).take (k + 1)) < ((b.getD p 0).toNat + 1) * 256 ^ k := by
  have hp : p < b.length := by omega
  rw [List.drop_eq_getElem_cons hp, List.take_succ_cons, val_cons, List.getD_eq_getElem?_getD, List.getElem?_eq_getElem hp]
  have hk : (List.take k (b.drop (p + 1))).length = k := by simp; omega
  have := val_lt (List.take k (b.drop (p + 1)))
  rw [hk] at this ⊢
  rw [Nat.add_mul]
  simp
  omega
theorem tr_bad {l : List UInt8} {at' most : Int} (h : tlE l at' ≠ 0) : trE l at' most = tlE l at' ∧ trB l at' most = [] ∧ trP l at' most = 0 := by
  have e : trE l at' most = tlE l at' := if_pos h
  simp [trB, trP, e, h]
theorem tr_big {l : List UInt8} {at' most : Int} (h : tlE l at' = 0) (h1 : most < tlN l at') : trE l at' most = 4 ∧ trB l at' most = [] ∧ trP l at' most = 0 := by
  have e : trE l at' most = 4 := by unfold trE; rw [if_neg (by omega), if_pos h1]
  simp [trB, trP, e]
theorem tr_short {l : List UInt8} {at' most : Int} (h : tlE l at' = 0) (h1 : ¬ most < tlN l at') (h2 : l.length - tlP l at' < tlN l at') : trE l at' most = 3 ∧ trB l at' most = [] ∧ trP l at' most = 0 := by
  have e : trE l at' most = 3 := by unfold trE; rw [if_neg (by omega), if_neg h1, if_pos h2]
  simp [trB, trP, e]
theorem tr_yes {l : List UInt8} {at' most : Int} (h : tlE l at' = 0) (h1 : ¬ most < tlN l at') (h2 : ¬ l.length - tlP l at' < tlN l at') :
    trE l at' most = 0 ∧ trB l at' most = (l.drop (tlP l at').toNat).take (tlN l at').toNat ∧ trP l at' most = tlP l at' + tlN l at' := by
  have e : trE l at' most = 0 := by unfold trE; rw [if_neg (by omega), if_neg h1, if_neg h2]
  simp [trB, trP, e]

/-- What a length that is taken is, and where its end. -/
theorem tl_bounds (l : List UInt8) (at' : Int) (h : tlE l at' = 0) : 0 ≤ tlN l at' ∧ tlN l at' ≤ 1073741823 ∧ 1 ≤ tlP l at' ∧ tlP l at' ≤ l.length := by
  by_cases h1 : at' < 0 ∨ (l.length : Int) < at'
  · rw [(tl_arg h1).2.2] at h; simp at h
  obtain ⟨p, rfl⟩ := Int.eq_ofNat_of_zero_le (show 0 ≤ at' by omega)
  by_cases h2 : p = l.length
  · subst h2; rw [tl_end.2.2] at h; simp at h
  have hp : p < l.length := by omega
  by_cases h3 : 192 ≤ (l.getD p 0).toNat
  · rw [(tl_form hp h3).2.2] at h; simp at h
  by_cases h4 : (l.length : Int) - p < widthOf (l.getD p 0).toNat
  · rw [(tl_short hp (by omega) h4).2.2] at h; simp at h
  by_cases c1 : (l.getD p 0).toNat < 64
  · obtain ⟨e1, e2, _⟩ := tl_one hp c1
    omega
  by_cases c2 : (l.getD p 0).toNat < 128
  · rw [width_two (by omega) c2] at h4
    have E := tl_two hp (by omega) c2 (by omega)
    have hv := val_range (b := l) (p := p) 1 (by omega)
    rw [show 1 + 1 = 2 from rfl, Nat.pow_one] at hv
    rcases Nat.lt_or_ge (val ((l.drop p).take 2)) 16448 with h5 | h5
    · rw [(E.1 h5).2.2] at h; simp at h
    · obtain ⟨e1, e2, _⟩ := E.2 h5
      omega
  · rw [width_four (by omega)] at h4
    have E := tl_four hp (by omega) (by omega) (by omega)
    have hv := val_range (b := l) (p := p) 3 (by omega)
    rw [show 3 + 1 = 4 from rfl, show 256 ^ 3 = 16777216 from by decide] at hv
    rcases Nat.lt_or_ge (val ((l.drop p).take 4)) 2147500032 with h5 | h5
    · rw [(E.1 h5).2.2] at h; simp at h
    · obtain ⟨e1, e2, _⟩ := E.2 h5
      omega

end Go.Proofs.YtobldbodafaajaaGreatDoor

/- pyxref01.Same; bytes in slices at this dump. -/
set_option linter.unusedVariables false
set_option linter.unusedSimpArgs false
namespace Go.Proofs.YtobldbodafaajaaGreatDoor
open Go.RowKit

theorem same_any (u v : Value) (l m : List UInt8) (w : World) (h : Rd w u l) (h' : Rd w v m) :
    Calls Tryz.prog 12 #[u, v] w fun e w' => e = .returned (.bool (decide (l = m))) ∧ w = w' := by
  have c1 := run_string_rd w 25 9 5 u l h Tryz.underlying25 Tryz.underlying5 Tryz.underlying9
  have c2 := run_string_rd w 25 9 5 v m h' Tryz.underlying25 Tryz.underlying5 Tryz.underlying9
  go_enter Tryz.func12, Tryz.ntmps12
  go_wp2
  go_ret
  exact ⟨by simp [Bool.beq_eq_decide_eq], rfl⟩

theorem Tryz.info5 : (Tryz.prog.info? 5).map (fun i => (i.zero, i.size, i.bytes)) = some (some (.int .u8 0), 1, 1) := by kernel_rfl

theorem u8 : U8 Tryz.prog 25 5 := U8.mk' Tryz.underlying25 Tryz.info5
end Go.Proofs.YtobldbodafaajaaGreatDoor

/- Contracts of byt's numbers. -/
set_option linter.unusedVariables false
set_option linter.unusedSimpArgs false
namespace Go.Proofs.YtobldbodafaajaaGreatDoor
open Go.RowKit

theorem set_mid (z u : Value) (c : List Value) (m : Nat) : (List.replicate (m + 1) z ++ c).set m u = List.replicate m z ++ u :: c := by
  rw [List.set_append_left _ _ (by simp), List.replicate_succ', List.set_append_right _ _ (by simp)]
  simp

set_option maxHeartbeats 400000 in
theorem highestFirst_any (n : Int) (k : Nat) (w : World) (h0 : 0 ≤ n) (h1 : 1 ≤ k) (h7 : k ≤ 7) :
    Calls Tryz.prog 95 #[.int .i64 n, .int .i64 k] w fun e w' => ∃ v, e = .returned v ∧ Ow 5 w' w.heap.size v (be k n.toNat) ∧ Kp w w' := by
  obtain ⟨i0, hi, hz0, hz1, hz2⟩ := info_parts Tryz.info5
  obtain ⟨n, rfl⟩ := Int.eq_ofNat_of_zero_le h0
  rw [Int.toNat_natCast]
  go_enter Tryz.func95, Tryz.ntmps95
  go_wp2_with (at_make; refine wpList_make_full _ rfl _ _ 25 rfl w.heap.size 5 i0 (.int .u8 0) 1 Tryz.underlying25 hi hz0 hz1 _ _ _ _ k rfl rfl rfl rfl ?b1 ?b2 ?b3 ?_)
  case b1 => rw [hz2]; omega
  case b2 => unfold maxLen; omega
  case b3 => exact Nat.le_refl _
  intro w1 hown hgr
  rw [toList_madeCells_one] at hown
  generalize hB : w.heap.size = B at *
  have HB := Lib.hid hB
  clear hB
  have hk1 : Below B w w1 := Below.grown (Below.refl B w) hgr (by rw [HB.out]; exact Nat.le_refl _) (by simp)
  clear hgr
  go_wp2
  go_loopw [0, 6] (fun x i wr => ∃ j : Nat, j ≤ k ∧ i = .int .i64 ((j : Int) - 1) ∧ x = .int .i64 ((n / 256 ^ (k - j) : Nat) : Int) ∧ wr.ownsRow B 5 1 (.slice (some ⟨B, 0, none⟩) k k) k (List.replicate j (.int .u8 0) ++ Lib.byteCells (be (k - j) n)) ∧ Below B w wr) (fun _ i _ => (intOf i + 1).toNat)
  case atStart => exact ⟨k, Nat.le_refl _, rfl, by simp, by simpa [be, Lib.byteCells] using hown, hk1⟩
  case round =>
    obtain ⟨j, hj, rfl, rfl, hown, hbel⟩ := hrel
    cases j with
    | zero =>
      go_wp2
      go_ret
      refine ⟨_, rfl, ?_, hbel.mono (by rw [HB.out]; exact Nat.le_refl _)⟩
      have hl : (be k n).length = k := be_length _ _
      unfold Ow
      rw [HB.out, hl]
      simpa using hown
    | succ j =>
      have hcell : wr.cell? ⟨B, j, none⟩ = some (.int .u8 0) := by
        rw [hown.cellAt j (by omega), List.getElem?_append_left (by simp)]
        simp
      have hfr := hown.frozenAt j
      rw [show ((j + 1 : Nat) : Int) - 1 = j from by omega]
      generalize hX : n / 256 ^ (k - (j + 1)) = X at *
      have HX := Lib.hid hX
      clear hX
      have hown1 := Lib.hid hown
      clear hown
      go_wp2
      go_roundw
      case rel =>
        obtain ⟨t, ht⟩ : ∃ t, t = k - (j + 1) := ⟨_, rfl⟩
        have hx := HX.out
        have ho := hown1.out
        rw [← ht] at hx ho
        have ht1 : k - j = t + 1 := by omega
        refine ⟨j, by omega, rfl, ?_, ?_, hbel.setCell (Nat.le_refl _) _⟩
        · rw [ht1, Nat.pow_succ, ← Nat.div_div_eq_div_mul, hx]; rfl
        · have h2 := (ho.stored j (.int .u8 ((X : Int) % 256))).1
          rw [set_mid] at h2
          rw [ht1, be_cons, hx]
          have e : Value.int .u8 ((X : Int) % 256) = .int .u8 ((UInt8.ofNat X).toNat : Int) := by simp
          rw [e] at h2 ⊢
          exact h2
      case measure => simp [intOf]
end Go.Proofs.YtobldbodafaajaaGreatDoor

/- Contracts of byt.Num, TakeNum. -/
set_option linter.unusedVariables false
set_option linter.unusedSimpArgs false
namespace Go.Proofs.YtobldbodafaajaaGreatDoor
open Go.RowKit

theorem isWidth_any (x : Int) (w : World) :
    Calls Tryz.prog 94 #[.int .i64 x] w fun e w' => e = .returned (.bool (decide (1 ≤ x ∧ x ≤ 7))) ∧ w = w' := by
  by_cases h1 : 1 ≤ x
  · have e : decide (1 ≤ x ∧ x ≤ 7) = decide (x ≤ 7) := by simp [h1]
    rw [e]
    go_enter Tryz.func94, Tryz.ntmps94
    go_wp2
    go_ret
    exact ⟨rfl, rfl⟩
  · have e : decide (1 ≤ x ∧ x ≤ 7) = false := by simp [h1]
    go_enter Tryz.func94, Tryz.ntmps94
    go_wp2
    go_ret
    exact ⟨by simp, rfl⟩

theorem pow8 (k : Nat) : (2 : Int) ^ (8 * k) = ((256 ^ k : Nat) : Int) := by
  rw [Nat.pow_mul' 2 8 k |> fun _ => show (256 : Nat) ^ k = 2 ^ (8 * k) from by rw [Nat.pow_mul]]
  push_cast; rfl
theorem pow256 (n k : Nat) : (n : Int) < 256 ^ (k : Int).toNat ↔ n < 256 ^ k := by
  rw [Int.toNat_natCast, ← Int.ofNat_lt, Int.natCast_pow]; rfl
theorem shr_zero (n k : Nat) (h : n < 256 ^ k) : ((n : Int) / 2 ^ (8 * k) != 0) = false := by
  rw [pow8, ← Int.natCast_ediv, Nat.div_eq_of_lt h]; rfl
theorem shr_pos (n k : Nat) (h : ¬ n < 256 ^ k) : ((n : Int) / 2 ^ (8 * k) != 0) = true := by
  rw [pow8, ← Int.natCast_ediv, bne_iff_ne]
  have : 0 < n / 256 ^ k := Nat.div_pos (by omega) (Nat.pos_of_ne_zero (by simp))
  omega

set_option maxHeartbeats 400000 in
theorem num_any (n k : Int) (w : World) (hn : -9223372036854775808 ≤ n ∧ n ≤ 9223372036854775807) :
    Calls Tryz.prog 72 #[.int .i64 n, .int .i64 k] w fun e w' => ∃ v, e = .returned (.tuple #[v, .int .i64 (numE n k)]) ∧ Ow 5 w' w.heap.size v (numB n k) ∧ Kp w w' := by
  by_cases h1 : 1 ≤ k ∧ k ≤ 7
  · have d1 : decide (1 ≤ k ∧ k ≤ 7) = true := by simp [h1]
    obtain ⟨k1, k7⟩ := h1
    by_cases h2 : n < 0
    · obtain ⟨e1, e2⟩ := num_no (n := n) (w := k) (by unfold numOk; omega)
      rw [e1, e2]
      have d2 : decide (n < 0) = true := by simp [h2]
      go_enter Tryz.func72, Tryz.ntmps72
      go_wp2_with (go_at_call 94; refine (isWidth_any _ _).mono ?_; rintro e w' ⟨rfl, rfl⟩)
      go_ret2
      exact ⟨_, rfl, Ow.nil _ _ _, Kp.refl _⟩
    · obtain ⟨n, rfl⟩ := Int.eq_ofNat_of_zero_le (show 0 ≤ n by omega)
      obtain ⟨k, rfl⟩ := Int.eq_ofNat_of_zero_le (show 0 ≤ k by omega)
      have d2 : decide ((n : Int) < 0) = false := by simp
      by_cases h3 : n < 256 ^ k
      · obtain ⟨e1, e2⟩ := num_yes (n := n) (w := k) ⟨k1, k7, by omega, (pow256 n k).2 h3⟩
        have E1 := Lib.hid e1
        have E2 := Lib.hid e2
        have d3 := shr_zero n k h3
        clear e1 e2 h3
        go_enter Tryz.func72, Tryz.ntmps72
        go_wp2_with (first | (go_at_call 94; refine (isWidth_any _ _).mono ?_; rintro e w' ⟨rfl, rfl⟩) | (go_at_call 95; refine (highestFirst_any _ _ _ (by omega) (by omega) (by omega)).mono ?_; rintro e w' ⟨v, rfl, ho, hk⟩))
        go_ret2
        rw [E1.out, E2.out]
        exact ⟨_, rfl, by simpa using ho, hk⟩
      · obtain ⟨e1, e2⟩ := num_no (n := n) (w := k) (fun h => h3 ((pow256 n k).1 h.2.2.2))
        rw [e1, e2]
        have d3 := shr_pos n k h3
        clear e1 e2 h3
        go_enter Tryz.func72, Tryz.ntmps72
        go_wp2_with (first | (go_at_call 94; refine (isWidth_any _ _).mono ?_; rintro e w' ⟨rfl, rfl⟩))
        go_ret2
        exact ⟨_, rfl, Ow.nil _ _ _, Kp.refl _⟩
  · have d1 : decide (1 ≤ k ∧ k ≤ 7) = false := by simp [h1]
    obtain ⟨e1, e2⟩ := num_no (n := n) (w := k) (by unfold numOk; omega)
    rw [e1, e2]
    go_enter Tryz.func72, Tryz.ntmps72
    go_wp2_with (go_at_call 94; refine (isWidth_any _ _).mono ?_; rintro e w' ⟨rfl, rfl⟩)
    go_ret2
    exact ⟨_, rfl, Ow.nil _ _ _, Kp.refl _⟩

end Go.Proofs.YtobldbodafaajaaGreatDoor

/- Contracts of the document's own answers: numbers. -/
set_option linter.unusedVariables false
set_option linter.unusedSimpArgs false
namespace Go.Proofs.YtobldbodafaajaaGreatDoor
open Go.RowKit

set_option maxHeartbeats 400000 in
theorem power_any (k : Int) (w : World) (h : k ≤ 7) :
    Calls Tryz.prog 112 #[.int .i64 k] w fun e w' => e = .returned (.int .i64 (pw k.toNat)) ∧ w = w' := by
  by_cases h0 : 0 ≤ k
  · obtain ⟨k, rfl⟩ := Int.eq_ofNat_of_zero_le h0
    rw [Int.toNat_natCast]
    go_enter Tryz.func112, Tryz.ntmps112
    go_wp2
    go_loop [3, 4] (fun n i => ∃ j : Nat, j ≤ k ∧ i = .int .i64 j ∧ n = .int .i64 (pw j)) (fun _ i => k - (intOf i).toNat)
    case atStart => exact ⟨0, Nat.zero_le _, rfl, rfl⟩
    case round =>
      obtain ⟨j, hj, rfl, rfl⟩ := hrel
      by_cases hlt : j < k
      · have hb := pw_le6 j (by omega)
        have hs := Lib.hid (pw_succ j)
        go_wp2
        go_round
        case rel => exact ⟨j + 1, by omega, by go_num, by rw [hs.out]; go_num⟩
        case measure => simp [intOf]; omega
      · go_wp2
        go_ret
        have : j = k := by omega
        subst this
        exact ⟨rfl, rfl⟩
  · have e : k.toNat = 0 := by omega
    rw [e]
    go_enter Tryz.func112, Tryz.ntmps112
    go_wp2
    refine wp_loop_rounds 1 ?_
    rw [rounds_succ]
    go_wp2
    go_ret
    exact ⟨rfl, rfl⟩

theorem be_high (k t n : Nat) (h : t < k) : be (k - t) (n / pw t) = be (k - (t + 1)) (n / pw (t + 1)) ++ [UInt8.ofNat (n / pw t)] := by
  obtain ⟨m, rfl⟩ : ∃ m, k = t + 1 + m := ⟨k - (t + 1), by omega⟩
  rw [show t + 1 + m - t = m + 1 from by omega, show t + 1 + m - (t + 1) = m from by omega, be, pw_succ, Nat.mul_comm 256, ← Nat.div_div_eq_div_mul]

set_option maxHeartbeats 800000 in
theorem refNum_any (n k : Int) (w : World) (hn : -9223372036854775808 ≤ n ∧ n ≤ 9223372036854775807) :
    Calls Tryz.prog 101 #[.int .i64 n, .int .i64 k] w fun e w' => ∃ v, e = .returned (.tuple #[v, .int .i64 (numE n k)]) ∧ Ow 5 w' w.heap.size v (numB n k) ∧ Kp w w' := by
  have U := u8
  by_cases h1 : numOk n k
  · obtain ⟨e1, e2⟩ := num_yes h1
    have E1 := Lib.hid e1
    have E2 := Lib.hid e2
    clear e1 e2
    obtain ⟨k1, k7, n0, hlt⟩ := h1
    obtain ⟨n, rfl⟩ := Int.eq_ofNat_of_zero_le n0
    obtain ⟨k, rfl⟩ := Int.eq_ofNat_of_zero_le (show 0 ≤ k by omega)
    have hlt' : n < pw k := (pow256 n k).1 hlt
    clear hlt
    have hdk : decide (pw k ≤ n) = false := by simp; omega
    generalize hB : w.heap.size = B at *
    have HB := Lib.hid hB
    clear hB
    go_enter Tryz.func101, Tryz.ntmps101
    go_wp2_with (go_at_call 112; refine (power_any _ _ k7).mono ?_; rintro e w' ⟨rfl, rfl⟩; rw [Int.toNat_natCast])
    go_loopw [6, 7] (fun v i wr => ∃ t : Nat, t ≤ k ∧ i = .int .i64 ((t : Int) - 1) ∧ Ow 5 wr B v (be (k - t) (n / pw t)) ∧ Below B w wr) (fun _ i _ => (intOf i + 1).toNat)
    case atStart => exact ⟨k, Nat.le_refl _, rfl, by rw [Nat.sub_self]; exact Ow.nil _ _ _, Below.refl _ _⟩
    case round =>
      obtain ⟨t, ht, rfl, hown, hbel⟩ := hrel
      cases t with
      | zero =>
        go_wp2_with fail
        go_ret2
        rw [E1.out, E2.out]
        exact ⟨_, rfl, by simpa [pw] using hown, hbel.mono (by rw [HB.out]; exact Nat.le_refl _)⟩
      | succ t =>
        rw [show ((t + 1 : Nat) : Int) - 1 = t from by omega]
        have hp := pw_pos t
        have hb := pw_le t (by omega)
        have hB := hbel.size
        have hBw : B ≤ wr.heap.size := by rw [← HB.out]; exact hB
        obtain ⟨q, hq⟩ : ∃ q : Nat, q = n / pw t := ⟨_, rfl⟩
        have hqn : q ≤ n := by rw [hq]; exact Nat.div_le_self _ _
        have hd : (n : Int) / (pw t : Int) = (q : Int) := by rw [hq]; rfl
        have HQ := Lib.hid hq
        clear hq
        go_wp2_with (first
          | (go_at_call 112; refine (power_any _ _ (by omega)).mono ?_; rintro e w' ⟨rfl, rfl⟩; rw [Int.toNat_natCast])
          | (at_builtin; refine wpList_append_ow U rfl _ _ rfl B _ _ rfl (hown.kp ((Kp.refl _).alloc _)) _ [UInt8.ofNat q] rfl ?c1 ?c2 ?c3 ?_))
        case c1 => exact Rd.box _ _ _ _ (by simp)
        case c2 => rw [be_length]; simp; omega
        case c3 => simp; omega
        intro v' w1 hown1 hg _
        have hb1 : Below B w w1 := Below.grown' (hbel.alloc hBw _) hg (by simp; omega) (hown.kp ((Kp.refl _).alloc _))
        clear hg hown
        go_wp2
        go_roundw
        case rel => exact ⟨t, by omega, rfl, by rw [be_high k t n (by omega), ← HQ.out]; exact hown1, hb1⟩
        case measure => simp [intOf]
  · obtain ⟨e1, e2⟩ := num_no h1
    rw [e1, e2]
    clear e1 e2
    by_cases h2 : k < 1
    · have d2 : decide (k < 1) = true := by simp [h2]
      go_enter Tryz.func101, Tryz.ntmps101
      go_wp2_with fail
      go_ret2
      exact ⟨_, rfl, Ow.nil _ _ _, Kp.refl _⟩
    · have d2 : decide (k < 1) = false := by simp [h2]
      by_cases h3 : 7 < k
      · have d3 : decide (7 < k) = true := by simp [h3]
        go_enter Tryz.func101, Tryz.ntmps101
        go_wp2_with fail
        go_ret2
        exact ⟨_, rfl, Ow.nil _ _ _, Kp.refl _⟩
      · have d3 : decide (7 < k) = false := by simp [h3]
        by_cases h4 : n < 0
        · have d4 : decide (n < 0) = true := by simp [h4]
          go_enter Tryz.func101, Tryz.ntmps101
          go_wp2_with fail
          go_ret2
          exact ⟨_, rfl, Ow.nil _ _ _, Kp.refl _⟩
        · have d4 : decide (n < 0) = false := by simp [h4]
          obtain ⟨n, rfl⟩ := Int.eq_ofNat_of_zero_le (show 0 ≤ n by omega)
          obtain ⟨k, rfl⟩ := Int.eq_ofNat_of_zero_le (show 0 ≤ k by omega)
          have hge : pw k ≤ n := by
            rcases Nat.lt_or_ge n (pw k) with h | h
            · exact absurd ⟨by omega, by omega, by omega, (pow256 n k).2 h⟩ h1
            · exact h
          have d5 : decide (pw k ≤ n) = true := by simp [hge]
          clear h1
          go_enter Tryz.func101, Tryz.ntmps101
          go_wp2_with (go_at_call 112; refine (power_any _ _ (by omega)).mono ?_; rintro e w' ⟨rfl, rfl⟩; rw [Int.toNat_natCast])
          go_ret2
          exact ⟨_, rfl, Ow.nil _ _ _, Kp.refl _⟩

end Go.Proofs.YtobldbodafaajaaGreatDoor

/- Contracts of lengths: byt.Len, TakeLen, and the document's own. -/
set_option linter.unusedVariables false
set_option linter.unusedSimpArgs false
namespace Go.Proofs.YtobldbodafaajaaGreatDoor
open Go.RowKit

theorem mark0 (n : Int) (w : World) (h : n < 64) :
    Calls Tryz.prog 111 #[.int .i64 n] w fun e w' => e = .returned (.int .i64 0) ∧ w = w' := by
  go_enter Tryz.func111, Tryz.ntmps111
  go_wp2
  go_ret
  exact ⟨rfl, rfl⟩
theorem mark1 (n : Int) (w : World) (h0 : 64 ≤ n) (h : n < 16384) :
    Calls Tryz.prog 111 #[.int .i64 n] w fun e w' => e = .returned (.int .i64 1) ∧ w = w' := by
  go_enter Tryz.func111, Tryz.ntmps111
  go_wp2
  go_ret
  exact ⟨rfl, rfl⟩
theorem mark2 (n : Int) (w : World) (h0 : 16384 ≤ n) :
    Calls Tryz.prog 111 #[.int .i64 n] w fun e w' => e = .returned (.int .i64 2) ∧ w = w' := by
  go_enter Tryz.func111, Tryz.ntmps111
  go_wp2
  go_ret
  exact ⟨rfl, rfl⟩

theorem u8_or_high (x m : Int) (h0 : 0 ≤ x) (h1 : x < 64) (hm : m = 0 ∨ m = 64 ∨ m = 128) : bits .or .u8 x m = x + m := by
  have hc : bits .or .u8 x m = bits .or .u8 m x := by simp only [bits, BitVec.or_comm]
  rw [hc, bits_join .u8 8 (by decide) wraps_u8 6 m x (by omega) (by omega) (by omega) h0 (by omega) (by omega)]
  omega

theorem be_head (k n : Nat) : ∃ t, be (k + 1) n = UInt8.ofNat (n / 256 ^ k) :: t := ⟨_, be_cons k n⟩

/-- The highest byte raised by m. -/
theorem be_raise (k n m : Nat) (h : n / 256 ^ k + m < 256) : be (k + 1) (n + m * 256 ^ k) = UInt8.ofNat (n / 256 ^ k + m) :: be k n := by
  rw [be_cons, Nat.add_mul_div_right _ _ (Nat.pow_pos (by decide))]
  congr 1
  have h2 : ∀ k n m, be k (n + m * 256 ^ k) = be k n := by
    intro k
    induction k with
    | zero => intro n m; rfl
    | succ k ih =>
      intro n m
      rw [be, be, show n + m * 256 ^ (k + 1) = n + 256 * (m * 256 ^ k) from by rw [Nat.pow_succ, ← Nat.mul_assoc, Nat.mul_comm 256],
        Nat.add_mul_div_left _ _ (by decide), ih]
      congr 2
      apply UInt8.toNat_inj.1
      simp
  exact h2 k n m

theorem Ow.set0 {w : World} {B : Nat} {v : Value} {k' n' : Nat} (h : Ow 5 w B v (be k' n')) (k n m : Nat) (hm : n / 256 ^ k + m < 256) (hk : k' = k + 1 := by rfl) (hn : n' = n := by first | rfl | simp) :
    ∃ g c, v = .slice (some ⟨g, 0, none⟩) (k + 1) c ∧ B ≤ g ∧ w.cell? ⟨g, 0, none⟩ = some (.int .u8 ((n / 256 ^ k : Nat) : Int)) ∧ w.frozen? ⟨g, 0, none⟩ = false ∧
      Ow 5 (w.setCell ⟨g, 0, none⟩ (.int .u8 ((n / 256 ^ k + m : Nat) : Int))) B v (be (k + 1) (n + m * 256 ^ k)) := by
  subst hk hn
  rcases h.shape with ⟨_, h0⟩ | ⟨g, c, rfl, hg, _, hc, hcm⟩
  · have := congrArg List.length h0
    rw [be_length] at this
    simp at this
  · have hl : (be (k + 1) n').length = k + 1 := be_length _ _
    refine ⟨g, c, by rw [hl], hg, ?_, h.frozenAt 0, ?_⟩
    · rw [h.cellAt 0 (by rw [hl]; omega), be_cons]
      have : n' / 256 ^ k % 256 = n' / 256 ^ k := Nat.mod_eq_of_lt (by omega)
      simp [Lib.byteCells, this]
    · have h2 := (h.stored 0 (.int .u8 ((n' / 256 ^ k + m : Nat) : Int))).1
      unfold Ow
      rw [be_length, be_raise k n' m hm]
      rw [be_length, be_cons] at h2
      generalize n' / 256 ^ k = q at *
      have : (q + m) % 256 = q + m := Nat.mod_eq_of_lt hm
      have e : Lib.byteCells (UInt8.ofNat (q + m) :: be k n') = (Lib.byteCells (UInt8.ofNat q :: be k n')).set 0 (.int .u8 ((q + m : Nat) : Int)) := by
        simp only [Lib.byteCells, List.map_cons, List.set_cons_zero, UInt8.toNat_ofNat', Nat.reducePow, this]
      rw [e, List.length_cons, be_length]
      exact h2

theorem highestFirst_int (n k : Int) (w : World) (h0 : 0 ≤ n) (h1 : 1 ≤ k) (h7 : k ≤ 7) :
    Calls Tryz.prog 95 #[.int .i64 n, .int .i64 k] w fun e w' => ∃ v, e = .returned v ∧ Ow 5 w' w.heap.size v (be k.toNat n.toNat) ∧ Kp w w' := by
  obtain ⟨k, rfl⟩ := Int.eq_ofNat_of_zero_le (show 0 ≤ k by omega)
  exact highestFirst_any n k w h0 (by omega) (by omega)

set_option maxHeartbeats 400000 in
theorem len_any (n : Int) (w : World) :
    Calls Tryz.prog 96 #[.int .i64 n] w fun e w' => ∃ v, e = .returned (.tuple #[v, .int .i64 (lenE n)]) ∧ Ow 5 w' w.heap.size v (lenB n) ∧ Kp w w' := by
  by_cases h1 : n < 0
  · have d1 : decide (n < 0) = true := by simp [h1]
    have e1 : lenE n = 1 := if_pos (.inl h1)
    have e2 : lenB n = [] := by simp [lenB, e1]
    rw [e1, e2]
    clear e1 e2
    go_enter Tryz.func96, Tryz.ntmps96
    go_wp2_with fail
    go_ret2
    exact ⟨_, rfl, Ow.nil _ _ _, Kp.refl _⟩
  · have d1 : decide (n < 0) = false := by simp [h1]
    by_cases h2 : 1073741823 < n
    · have d2 : decide (1073741823 < n) = true := by simp [h2]
      have e1 : lenE n = 1 := if_pos (.inr h2)
      have e2 : lenB n = [] := by simp [lenB, e1]
      rw [e1, e2]
      clear e1 e2
      go_enter Tryz.func96, Tryz.ntmps96
      go_wp2_with fail
      go_ret2
      exact ⟨_, rfl, Ow.nil _ _ _, Kp.refl _⟩
    · have d2 : decide (1073741823 < n) = false := by simp [h2]
      obtain ⟨n, rfl⟩ := Int.eq_ofNat_of_zero_le (show 0 ≤ n by omega)
      have e1 : lenE n = 0 := if_neg (by omega)
      have e2 : lenB n = lenBytes n := by simp [lenB, e1]
      rw [e1, e2]
      clear e1 e2
      by_cases h3 : n < 64
      · have HE : Hid (lenBytes n = be 1 (n + 0 * 256 ^ 0)) := by show lenBytes n = be 1 (n + 0 * 256 ^ 0); simp [lenBytes, h3]
        have hor : bits .or .u8 (n : Int) 0 = n := by rw [u8_or_high _ _ (by omega) (by omega) (by omega)]; omega
        go_enter Tryz.func96, Tryz.ntmps96
        go_wp2_with (first | (go_at_call 111; refine (mark0 _ _ (by omega)).mono ?_; rintro e w' ⟨rfl, rfl⟩) | (go_at_call 95; refine (highestFirst_int _ 1 _ (by omega) (by omega) (by omega)).mono ?_; rintro e w1 ⟨v, rfl, ho, hk⟩; obtain ⟨g, c, rfl, hg, hcell, hfr, ho2⟩ := ho.set0 0 n 0 (by simp; omega); simp at hcell))
        go_ret2
        refine ⟨_, rfl, ?_, Below.setCell hk hg _⟩
        rw [HE.out]
        simpa using ho2
      · by_cases h4 : n < 16384
        · have HE : Hid (lenBytes n = be 2 (n + 64 * 256 ^ 1)) := by show lenBytes n = be 2 (n + 64 * 256 ^ 1); simp [lenBytes, h3, h4]
          have hor : bits .or .u8 ((n : Int) / 256) 64 = (n : Int) / 256 + 64 := u8_or_high _ _ (by omega) (by omega) (by omega)
          go_enter Tryz.func96, Tryz.ntmps96
          go_wp2_with (first | (go_at_call 111; refine (mark1 _ _ (by omega) (by omega)).mono ?_; rintro e w' ⟨rfl, rfl⟩) | (go_at_call 95; refine (highestFirst_int _ 2 _ (by omega) (by omega) (by omega)).mono ?_; rintro e w1 ⟨v, rfl, ho, hk⟩; obtain ⟨g, c, rfl, hg, hcell, hfr, ho2⟩ := ho.set0 1 n 64 (by omega); simp at hcell))
          go_ret2
          refine ⟨_, rfl, ?_, Below.setCell hk hg _⟩
          rw [HE.out]
          simpa using ho2
        · have HE : Hid (lenBytes n = be 4 (n + 128 * 256 ^ 3)) := by show lenBytes n = be 4 (n + 128 * 256 ^ 3); simp [lenBytes, h3, h4]
          have hor : bits .or .u8 ((n : Int) / 16777216) 128 = (n : Int) / 16777216 + 128 := u8_or_high _ _ (by omega) (by omega) (by omega)
          go_enter Tryz.func96, Tryz.ntmps96
          go_wp2_with (first | (go_at_call 111; refine (mark2 _ _ (by omega)).mono ?_; rintro e w' ⟨rfl, rfl⟩) | (go_at_call 95; refine (highestFirst_int _ 4 _ (by omega) (by omega) (by omega)).mono ?_; rintro e w1 ⟨v, rfl, ho, hk⟩; obtain ⟨g, c, rfl, hg, hcell, hfr, ho2⟩ := ho.set0 3 n 128 (by omega); simp at hcell))
          go_ret2
          refine ⟨_, rfl, ?_, Below.setCell hk hg _⟩
          rw [HE.out]
          simpa using ho2
end Go.Proofs.YtobldbodafaajaaGreatDoor

/- byt.TakeLen. -/
set_option linter.unusedVariables false
set_option linter.unusedSimpArgs false
namespace Go.Proofs.YtobldbodafaajaaGreatDoor
open Go.RowKit

def TL (l : List UInt8) (at' : Int) (w : World) (e : Ending) (w' : World) : Prop :=
  e = .returned (.tuple #[.int .i64 (tlN l at'), .int .i64 (tlP l at'), .int .i64 (tlE l at')]) ∧ Kp w w'

end Go.Proofs.YtobldbodafaajaaGreatDoor

/- Rows, and what may lack: byt's, and the document's own answers. -/
set_option linter.unusedVariables false
set_option linter.unusedSimpArgs false
namespace Go.Proofs.YtobldbodafaajaaGreatDoor
open Go.RowKit

set_option maxHeartbeats 400000 in
theorem refLen_any (n : Int) (w : World) :
    Calls Tryz.prog 86 #[.int .i64 n] w fun e w' => ∃ v, e = .returned (.tuple #[v, .int .i64 (lenE n)]) ∧ Ow 5 w' w.heap.size v (lenB n) ∧ Kp w w' := by
  by_cases h1 : n < 0
  · have d1 : decide (n < 0) = true := by simp [h1]
    have e1 : lenE n = 1 := if_pos (.inl h1)
    have e2 : lenB n = [] := by simp [lenB, e1]
    rw [e1, e2]
    clear e1 e2
    go_enter Tryz.func86, Tryz.ntmps86
    go_wp2_with fail
    go_ret2
    exact ⟨_, rfl, Ow.nil _ _ _, Kp.refl _⟩
  · have d1 : decide (n < 0) = false := by simp [h1]
    by_cases h2 : 1073741823 < n
    · have d2 : decide (1073741823 < n) = true := by simp [h2]
      have e1 : lenE n = 1 := if_pos (.inr h2)
      have e2 : lenB n = [] := by simp [lenB, e1]
      rw [e1, e2]
      clear e1 e2
      go_enter Tryz.func86, Tryz.ntmps86
      go_wp2_with fail
      go_ret2
      exact ⟨_, rfl, Ow.nil _ _ _, Kp.refl _⟩
    · have d2 : decide (1073741823 < n) = false := by simp [h2]
      obtain ⟨n, rfl⟩ := Int.eq_ofNat_of_zero_le (show 0 ≤ n by omega)
      have e1 : lenE n = 0 := if_neg (by omega)
      have e2 : lenB n = lenBytes n := by simp [lenB, e1]
      rw [e1, e2]
      clear e1 e2
      by_cases h3 : n < 64
      · have HE := Lib.hid (show lenBytes n = be 1 n by simp [lenBytes, h3])
        go_enter Tryz.func86, Tryz.ntmps86
        go_wp2_with fail
        go_ret2
        rw [HE.out]
        exact ⟨_, rfl, Ow.lit w _ _ _ _ _ (Nat.le_refl _) rfl (by omega) (by simp [Lib.byteCells, be]; omega), (Kp.refl _).alloc _⟩
      · by_cases h4 : n < 16384
        · have HE := Lib.hid (show lenBytes n = be 2 (n + 16384) by simp [lenBytes, h3, h4])
          go_enter Tryz.func86, Tryz.ntmps86
          go_wp2_with fail
          go_ret2
          rw [HE.out]
          refine ⟨_, rfl, Ow.lit w _ _ _ _ _ (Nat.le_refl _) rfl (by omega) ?_, (Kp.refl _).alloc _⟩
          simp [Lib.byteCells, be]
          omega
        · have HE := Lib.hid (show lenBytes n = be 4 (n + 2147483648) by simp [lenBytes, h3, h4])
          have HN := Lib.hid (num_yes (n := (2147483648 + n : Int)) (w := 4) ⟨by omega, by omega, by omega, by rw [show (256 : Int) ^ (4 : Int).toNat = 4294967296 from by decide]; omega⟩)
          go_enter Tryz.func86, Tryz.ntmps86
          go_wp2_with (go_at_call 101; refine (refNum_any _ _ _ (by omega)).mono ?_; rintro e w' ⟨v, rfl, ho, hk⟩; obtain ⟨h1, h2⟩ := HN.out; rw [h1]; rw [h2] at ho; clear h1 h2)
          go_ret2
          rw [HE.out]
          refine ⟨_, rfl, ?_, hk⟩
          rw [show (2147483648 + (n : Int)).toNat = n + 2147483648 from by omega] at ho
          exact ho

/-- append(head, x...), and what stays. -/
theorem row_end {w w1 w2 : World} {v : Value} {v' : Value} {l x : List UInt8} (ho : Ow 5 w1 w.heap.size v l) (hk : Kp w w1) (hg : w1.grownBy w2 v.ownBlock) : Kp w w2 :=
  Kp.grown hk hg ho.own_ge

theorem lenBytes_le (n : Nat) : (lenBytes n).length ≤ 4 := by
  unfold lenBytes
  split
  · rw [be_length]; omega
  · split <;> (rw [be_length]; omega)

set_option maxHeartbeats 400000 in
theorem row_any (v : Value) (l : List UInt8) (w : World) (h : Rd w v l) :
    Calls Tryz.prog 74 #[v] w fun e w' => ∃ u, e = .returned (.tuple #[u, .int .i64 (rowE l)]) ∧ Ow 5 w' w.heap.size u (rowB l) ∧ Kp w w' := by
  have U := u8
  obtain ⟨a, c, rfl, hc, hm⟩ := h.shape
  by_cases h1 : 1073741823 < l.length
  · have e0 : lenE l.length = 1 := if_pos (.inr (by omega))
    have e1 : rowE l = 1 := e0
    have e2 : rowB l = [] := by simp [rowB, e1]
    rw [e1, e2]
    have E0 := Lib.hid e0
    clear e0 e1 e2
    go_enter Tryz.func74, Tryz.ntmps74
    go_wp2_with (go_at_call 96; refine (len_any _ _).mono ?_; rintro e w1 ⟨u, rfl, ho, hk⟩; rw [E0.out])
    go_ret2
    exact ⟨_, rfl, Ow.nil _ _ _, hk⟩
  · have e0 : lenE l.length = 0 := if_neg (by omega)
    have e1 : rowE l = 0 := e0
    have e2 : rowB l = lenBytes l.length ++ l := by simp [rowB, e1]
    have e3 : lenB l.length = lenBytes l.length := by simp [lenB, e0]
    rw [e1, e2]
    have E0 := Lib.hid e0
    have E3 := Lib.hid e3
    clear e0 e1 e2 e3
    go_enter Tryz.func74, Tryz.ntmps74
    go_wp2_with (first
      | (go_at_call 96; refine (len_any _ _).mono ?_; rintro e w1 ⟨u, rfl, ho, hk⟩; rw [E0.out]; rw [E3.out] at ho)
      | (at_builtin; refine wpList_append_ow U rfl _ _ rfl w.heap.size _ _ rfl ho _ l rfl (h.kp hk) ?c1 hk.size ?_; rotate_right; intro v' w2 ho2 hg _))
    case c1 => have := lenBytes_le l.length; omega
    go_ret2
    exact ⟨_, rfl, ho2, Kp.grown hk hg ho.own_ge⟩

set_option maxHeartbeats 400000 in
theorem refRow_any (v : Value) (l : List UInt8) (w : World) (h : Rd w v l) :
    Calls Tryz.prog 53 #[v] w fun e w' => ∃ u, e = .returned (.tuple #[u, .int .i64 (rowE l)]) ∧ Ow 5 w' w.heap.size u (rowB l) ∧ Kp w w' := by
  have U := u8
  obtain ⟨a, c, rfl, hc, hm⟩ := h.shape
  by_cases h1 : 1073741823 < l.length
  · have e0 : lenE l.length = 1 := if_pos (.inr (by omega))
    have e1 : rowE l = 1 := e0
    have e2 : rowB l = [] := by simp [rowB, e1]
    rw [e1, e2]
    have E0 := Lib.hid e0
    clear e0 e1 e2
    go_enter Tryz.func53, Tryz.ntmps53
    go_wp2_with (go_at_call 86; refine (refLen_any _ _).mono ?_; rintro e w1 ⟨u, rfl, ho, hk⟩; rw [E0.out])
    go_ret2
    exact ⟨_, rfl, Ow.nil _ _ _, hk⟩
  · have e0 : lenE l.length = 0 := if_neg (by omega)
    have e1 : rowE l = 0 := e0
    have e2 : rowB l = lenBytes l.length ++ l := by simp [rowB, e1]
    have e3 : lenB l.length = lenBytes l.length := by simp [lenB, e0]
    rw [e1, e2]
    have E0 := Lib.hid e0
    have E3 := Lib.hid e3
    clear e0 e1 e2 e3
    go_enter Tryz.func53, Tryz.ntmps53
    go_wp2_with (first
      | (go_at_call 86; refine (refLen_any _ _).mono ?_; rintro e w1 ⟨u, rfl, ho, hk⟩; rw [E0.out]; rw [E3.out] at ho)
      | (at_builtin; refine wpList_append_ow U rfl _ _ rfl w.heap.size _ _ rfl ho _ l rfl (h.kp hk) ?c1 hk.size ?_; rotate_right; intro v' w2 ho2 hg _))
    case c1 => have := lenBytes_le l.length; omega
    go_ret2
    exact ⟨_, rfl, ho2, Kp.grown hk hg ho.own_ge⟩
end Go.Proofs.YtobldbodafaajaaGreatDoor

/- Rows taken, and what may lack. -/
set_option linter.unusedVariables false
set_option linter.unusedSimpArgs false
namespace Go.Proofs.YtobldbodafaajaaGreatDoor
open Go.RowKit

set_option maxHeartbeats 400000 in
theorem clone_any (v : Value) (l : List UInt8) (w : World) (h : Rd w v l) (hl : l.length ≤ 1099511627776) :
    Calls Tryz.prog 76 #[v] w fun e w' => ∃ u, e = .returned u ∧ Ow 5 w' w.heap.size u l ∧ Kp w w' := by
  have U := u8
  have q : ∀ (w : World) (a : Option Addr) (n c n' c' : Nat), (binOp .eql 25 (.slice a n c) (.slice none n' c')).run Tryz.prog w = .ok (.bool a.isNone) w := fun w a n c n' c' => Lib.run_eql_slice_nil w _ _ a n c n' c' Tryz.underlying25
  obtain ⟨a, c, rfl, hc, hm, hnil, hcell⟩ := id h
  cases a with
  | none =>
    have hc0 := hnil rfl
    have hl0 : l = [] := List.eq_nil_of_length_eq_zero (by omega)
    subst hl0 hc0
    go_enter Tryz.func76, Tryz.ntmps76
    go_wp2_with fail
    go_ret
    exact ⟨_, rfl, Ow.nil _ _ _, Kp.refl _⟩
  | some a =>
    go_enter Tryz.func76, Tryz.ntmps76
    go_wp2_with (at_builtin; refine wpList_append_ow U rfl _ _ rfl w.heap.size _ [] rfl (Ow.lit w _ _ 0 #[] [] (Nat.le_refl _) rfl (by omega) rfl) _ l rfl (h.kp ((Kp.refl _).alloc _)) ?c1 ?c2 ?_; rotate_right; intro v' w2 ho2 hg _)
    case c1 => simp; omega
    case c2 => simp
    go_ret
    exact ⟨_, rfl, by simpa using ho2, Kp.grown (v := .slice (some ⟨w.heap.size, 0, none⟩) 0 0) ((Kp.refl _).alloc _) hg (by intro k hk; simp [Value.ownBlock] at hk; omega)⟩

def TR (l : List UInt8) (at' most : Int) (w : World) (e : Ending) (w' : World) : Prop :=
  ∃ u, e = .returned (.tuple #[u, .int .i64 (trP l at' most), .int .i64 (trE l at' most)]) ∧ Ow 5 w' w.heap.size u (trB l at' most) ∧ Kp w w'

end Go.Proofs.YtobldbodafaajaaGreatDoor

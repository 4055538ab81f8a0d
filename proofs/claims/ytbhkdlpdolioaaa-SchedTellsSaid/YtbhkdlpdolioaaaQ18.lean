import Derived.Test.YtbhkdlpdolioaaaQ1
import Derived.Test.YtbhkdlpdolioaaaQ3
import Derived.Test.YtbhkdlpdolioaaaQ7
import Derived.Test.YtbhkdlpdolioaaaQ15
import Derived.Test.YtbhkdlpdolioaaaQ17
set_option linter.unusedVariables false
set_option linter.unusedSimpArgs false
namespace Go.Proofs.Ytbhkdlpdolioaaa
open Go.RowKit
theorem aas (w : World) : Rd w (.slice none 0 0) [] := ⟨none, 0, rfl, Nat.le_refl _, Nat.zero_le _, fun _ => rfl, fun x hx => by cases hx⟩
theorem aaf (l : List UInt8) : (aaj l).length = 32 := adV _
theorem abY (u v : Value) (l m : List UInt8) (b : Bool) (w : World) (h : Rd w u l) (h' : Rd w v m) (hb : decide (l = m) = b) :
  Calls Try.prog 18 #[u, v] w fun e w' => e = .returned (.bool b) ∧ w = w' := by
 have := aam u v l m w h h';rw [hb] at this;exact this
theorem agN (v : Value) (l : List UInt8) (w : World) (h : Rd w v l) (hl : l.length ≤ 2000) :
  Calls Try.prog 48 #[v] w fun e w' => (∃ a c, e = .returned (.slice a 32 c) ∧ Rd w' (.slice a 32 c) (aaj l)) ∧ Kp w w' := by
 refine (agt v l w h hl).mono ?_;rintro e w' ⟨⟨v', rfl, hr⟩, hk⟩;obtain ⟨a, c, rfl, _, _⟩ := hr.shape;rw [aaf] at hr ⊢;exact ⟨⟨a, c, rfl, hr⟩, hk⟩
theorem agu (v : Value) (l : List UInt8) (w : World) (h : Rd w v l) (hl : l.length ≤ 2000) :
  Calls Try.prog 48 #[v] w fun e w' => (∃ a c, e = .returned (.slice a 32 c) ∧ Ow 5 w' w.heap.size (.slice a 32 c) (aaj l)) ∧ Kp w w' := by
 refine (adx v l w h hl).mono ?_;rintro e w' ⟨⟨v', rfl, hr⟩, hk⟩;obtain ⟨a, c, rfl, _, _⟩ := hr.rd.shape;rw [aaf] at hr ⊢;exact ⟨⟨a, c, rfl, hr⟩, hk⟩
theorem abv (k : List UInt8) : (keyB k).length = 64 := by
 unfold keyB;split
 ·exact acJ _ (by rw [aaf]; omega)
 ·exact acJ _ (by omega)
set_option maxHeartbeats 1000000 in
theorem afo (v : Value) (l : List UInt8) (w : World) (h : Rd w v l) (hl : l.length ≤ 2000) :
  Calls Try.prog 90 #[v] w fun e w' => (∃ g, e = .returned (.slice (some ⟨g, 0, none⟩) 64 64) ∧ By 5 w' g (keyB l) ∧ w.heap.size ≤ g) ∧ Kp w w' := by
 have U := u8;obtain ⟨a, c, rfl, h1, h2⟩ := h.shape;unfold maxLen at h2;have HF : Hid (∀ W : World, By 5 (W.alloc (.cells (Array.replicate 64 (.int .u8 0)) 5)) W.heap.size (List.replicate 64 0)) := fun W => By.fresh _ _ _
 have hb : ∀ k : List UInt8, k.length ≤ 64 → k ++ (List.replicate 64 (0 : UInt8)).drop k.length = blkB k := fun k hk => by unfold blkB; rw [List.drop_replicate]
 have HB := Lib.hid hb;clear hb;by_cases hlt : 64 < l.length
 ·have hK : keyB l = blkB (aaj l) := by unfold keyB; rw [if_pos hlt]
  have HK := Lib.hid hK;have HD := Lib.hid (aaf l);have hlt' : 64 < (l.length : Int) := by omega
  clear hK;go_enter Try.func90, Try.ntmps90;go_wp2_with fail;refine (agN _ l _ h hl).mono ?_;rintro e w1 ⟨⟨a1, c1, rfl, r1⟩, k1⟩;go_wp2_with (first
   | (at_make; refine aal (z := .int .u8 0) (b := 1) Try.underlying22 Try.info5 rfl (by decide) rfl _ _ rfl 64 rfl rfl (by omega) ?_; intro w2 hw2; have hg2 : By 5 w2 w1.heap.size (List.replicate 64 0) := (by rw [hw2]; exact HF w1); have hk2 : Kp w1 w2 := (by rw [hw2]; exact (Kp.refl _).alloc _); clear hw2)
   | (refine abK U rfl (.tmp 10) (.tmp 11) rfl 5 w1.heap.size _ (aaj l) (List.replicate 64 0) 64 64 rfl rfl hg2 (by simp) (r1.kp hk2) (by rw [HD.out]; omega) ?_; intro w3 hg3 hbut))
  go_ret;rw [HB.out _ (by rw [HD.out]; omega)] at hg3;refine ⟨⟨_, rfl, by rw [HK.out]; exact hg3, k1.size⟩, hbut.below (k1.trans hk2) k1.size⟩
 ·have hK : keyB l = blkB l := by unfold keyB; rw [if_neg hlt]
  have HK := Lib.hid hK;have hlt' : ¬ 64 < (l.length : Int) := by omega
  clear hK;go_enter Try.func90, Try.ntmps90;go_wp2_with (first
   | (at_make; refine aal (z := .int .u8 0) (b := 1) Try.underlying22 Try.info5 rfl (by decide) rfl _ _ rfl 64 rfl rfl (by omega) ?_; intro w2 hw2; have hg2 : By 5 w2 w.heap.size (List.replicate 64 0) := (by rw [hw2]; exact HF w); have hk2 : Kp w w2 := (by rw [hw2]; exact (Kp.refl _).alloc _); clear hw2)
   | (refine abK U rfl (.tmp 10) (.tmp 11) rfl 5 w.heap.size _ l (List.replicate 64 0) 64 64 rfl rfl hg2 (by simp) (h.kp hk2) (by omega) ?_; intro w3 hg3 hbut))
  go_ret;rw [HB.out _ (by omega)] at hg3;refine ⟨⟨_, rfl, by rw [HK.out]; exact hg3, Nat.le_refl _⟩, hbut.below hk2 (Nat.le_refl _)⟩
end Go.Proofs.Ytbhkdlpdolioaaa
namespace Go.Proofs.Ytbhkdlpdolioaaa
def abt (n w : Int) : Prop := 1 ≤ w ∧ w ≤ 7 ∧ 0 ≤ n ∧ n < 256 ^ w.toNat
instance (n w : Int) : Decidable (abt n w) := by unfold abt; infer_instance
def numE (n w : Int) : Int := if abt n w then 0 else 1
def numB (n w : Int) : List UInt8 := if abt n w then be w.toNat n.toNat else []
def lenE (n : Int) : Int := if n < 0 ∨ 1073741823 < n then 1 else 0
def aad (n : Nat) : List UInt8 := if n < 64 then be 1 n else if n < 16384 then be 2 (n + 16384) else be 4 (n + 2147483648)
def lenB (n : Int) : List UInt8 := if lenE n = 0 then aad n.toNat else []
def aaw (c : Nat) : Nat := if c < 64 then 1 else if c < 128 then 2 else 4
def aek (w : Nat) (l : List UInt8) : Int := if w = 1 then val l else if w = 2 then val l - 16384 else val l - 2147483648
def tlE (b : List UInt8) (at' : Int) : Int :=
 if at' < 0 ∨ b.length < at' then 1 else if (b.length : Int) = at' then 3 else
 let c := (b.getD at'.toNat 0).toNat
 if 192 ≤ c then 2 else if b.length - at' < aaw c then 3 else
 let n := aek (aaw c) ((b.drop at'.toNat).take (aaw c))
 if (aaw c = 2 ∧ n < 64) ∨ (aaw c = 4 ∧ n < 16384) then 2 else 0
def tlN (b : List UInt8) (at' : Int) : Int := if tlE b at' = 0 then let c := (b.getD at'.toNat 0).toNat; aek (aaw c) ((b.drop at'.toNat).take (aaw c)) else 0
def tlP (b : List UInt8) (at' : Int) : Int := if tlE b at' = 0 then at' + aaw (b.getD at'.toNat 0).toNat else 0
def rowE (x : List UInt8) : Int := lenE x.length
def rowB (x : List UInt8) : List UInt8 := if rowE x = 0 then aad x.length ++ x else []
def trE (b : List UInt8) (at' most : Int) : Int := if tlE b at' ≠ 0 then tlE b at' else if most < tlN b at' then 4 else if b.length - tlP b at' < tlN b at' then 3 else 0
def trB (b : List UInt8) (at' most : Int) : List UInt8 := if trE b at' most = 0 then (b.drop (tlP b at').toNat).take (tlN b at').toNat else []
def trP (b : List UInt8) (at' most : Int) : Int := if trE b at' most = 0 then tlP b at' + tlN b at' else 0
theorem aaS {n w : Int} (h : abt n w) : numE n w = 0 ∧ numB n w = be w.toNat n.toNat := by simp [numE, numB, h]
theorem acA {n w : Int} (h : ¬ abt n w) : numE n w = 1 ∧ numB n w = [] := by simp [numE, numB, h]
theorem agf {b : List UInt8} {at' x : Int} (h : tlE b at' = x) (hx : x ≠ 0) : tlN b at' = 0 ∧ tlP b at' = 0 ∧ tlE b at' = x := by
 simp [tlN, tlP, h, hx]
theorem ad1 {b : List UInt8} {p : Nat} (hp : p < b.length) : tlE b p = if 192 ≤ (b.getD p 0).toNat then 2 else if (b.length : Int) - p < aaw (b.getD p 0).toNat then 3 else
  if (aaw (b.getD p 0).toNat = 2 ∧ aek (aaw (b.getD p 0).toNat) ((b.drop p).take (aaw (b.getD p 0).toNat)) < 64) ∨
   (aaw (b.getD p 0).toNat = 4 ∧ aek (aaw (b.getD p 0).toNat) ((b.drop p).take (aaw (b.getD p 0).toNat)) < 16384) then 2 else 0 := by
 unfold tlE;rw [if_neg (by omega), if_neg (by omega)];rfl
theorem agO {b : List UInt8} {p : Nat} (hp : p < b.length) (h : (b.getD p 0).toNat < 64) : tlN b p = (b.getD p 0).toNat ∧ tlP b p = p + 1 ∧ tlE b p = 0 := by
 have hw : aaw (b.getD p 0).toNat = 1 := by simp only [aaw, if_pos h]
 have e : tlE b p = 0 := by rw [ad1 hp, if_neg (by omega), hw, if_neg (by omega), if_neg (by omega)]
 have ht : (b.drop p).take 1 = [b.getD p 0] := by
  rw [List.drop_eq_getElem_cons hp, List.take_succ_cons, List.take_zero, List.getD_eq_getElem?_getD, List.getElem?_eq_getElem hp]; rfl
 refine ⟨?_, ?_, e⟩
 ·unfold tlN
  rw [if_pos e];simp only [Int.toNat_natCast, hw, aek, if_pos, ht];simp [val]
 ·unfold tlP
  rw [if_pos e, Int.toNat_natCast, hw]; rfl
theorem agP {b : List UInt8} {p : Nat} (hp : p < b.length) (h : 64 ≤ (b.getD p 0).toNat) (h' : (b.getD p 0).toNat < 128) (hl : p + 2 ≤ b.length) :
  (val ((b.drop p).take 2) < 16448 → tlN b p = 0 ∧ tlP b p = 0 ∧ tlE b p = 2) ∧
  (16448 ≤ val ((b.drop p).take 2) → tlN b p = (val ((b.drop p).take 2) : Int) - 16384 ∧ tlP b p = p + 2 ∧ tlE b p = 0) := by
 have hw : aaw (b.getD p 0).toNat = 2 := by simp only [aaw]; rw [if_neg (by omega), if_pos h']
 have hL : aek 2 ((b.drop p).take 2) = (val ((b.drop p).take 2) : Int) - 16384 := rfl;refine ⟨fun hv => agf (by rw [ad1 hp, if_neg (by omega), hw, if_neg (by omega), hL, if_pos (by omega)]) (by decide), fun hv => ?_⟩;have e : tlE b p = 0 := by rw [ad1 hp, if_neg (by omega), hw, if_neg (by omega), hL, if_neg (by omega)]
 refine ⟨?_, ?_, e⟩
 ·unfold tlN
  rw [if_pos e];simp only [Int.toNat_natCast, hw, hL]
 ·unfold tlP
  rw [if_pos e, Int.toNat_natCast, hw]; rfl
theorem agv {b : List UInt8} {p : Nat} (hp : p < b.length) (h : 128 ≤ (b.getD p 0).toNat) (h' : (b.getD p 0).toNat < 192) (hl : p + 4 ≤ b.length) :
  (val ((b.drop p).take 4) < 2147500032 → tlN b p = 0 ∧ tlP b p = 0 ∧ tlE b p = 2) ∧
  (2147500032 ≤ val ((b.drop p).take 4) → tlN b p = (val ((b.drop p).take 4) : Int) - 2147483648 ∧ tlP b p = p + 4 ∧ tlE b p = 0) := by
 have hw : aaw (b.getD p 0).toNat = 4 := by simp only [aaw]; rw [if_neg (by omega), if_neg (by omega)]
 have hL : aek 4 ((b.drop p).take 4) = (val ((b.drop p).take 4) : Int) - 2147483648 := rfl;refine ⟨fun hv => agf (by rw [ad1 hp, if_neg (by omega), hw, if_neg (by omega), hL, if_pos (by omega)]) (by decide), fun hv => ?_⟩;have e : tlE b p = 0 := by rw [ad1 hp, if_neg (by omega), hw, if_neg (by omega), hL, if_neg (by omega)]
 refine ⟨?_, ?_, e⟩
 ·unfold tlN
  rw [if_pos e];simp only [Int.toNat_natCast, hw, hL]
 ·unfold tlP
  rw [if_pos e, Int.toNat_natCast, hw]; rfl
theorem tr_big {l : List UInt8} {at' most : Int} (h : tlE l at' = 0) (h1 : most < tlN l at') : trE l at' most = 4 ∧ trB l at' most = [] ∧ trP l at' most = 0 := by
 have e : trE l at' most = 4 := by unfold trE; rw [if_neg (by omega), if_pos h1]
 simp [trB, trP, e]
theorem agQ {l : List UInt8} {at' most : Int} (h : tlE l at' = 0) (h1 : ¬ most < tlN l at') (h2 : ¬ l.length - tlP l at' < tlN l at') :
  trE l at' most = 0 ∧ trB l at' most = (l.drop (tlP l at').toNat).take (tlN l at').toNat ∧ trP l at' most = tlP l at' + tlN l at' := by
 have e : trE l at' most = 0 := by unfold trE; rw [if_neg (by omega), if_neg h1, if_neg h2]
 simp [trB, trP, e]
end Go.Proofs.Ytbhkdlpdolioaaa
namespace Go.Proofs.Ytbhkdlpdolioaaa
open Go.RowKit
def catB (B : Nat → List UInt8) : Nat → List UInt8
 | 0 => []
 | i + 1 => catB B i ++ B i
theorem abd (B : Nat → List UInt8) (h : ∀ i, (B i).length = 32) : ∀ N, (catB B N).length = 32 * N
 | 0 => rfl
 | N + 1 => by rw [catB, List.length_append, abd B h N, h N]; omega
theorem ael (B : Nat → List UInt8) (i k : Nat) : ∃ r, catB B (i + k) = catB B i ++ r := by
 induction k with
 | zero => exact ⟨[], by simp⟩
 | succ k ih => obtain ⟨r, hr⟩ := ih; exact ⟨r ++ B (i + k), by rw [← Nat.add_assoc, catB, hr, List.append_assoc]⟩
def ab8 (B : Nat → List UInt8) (n : Nat) : List UInt8 := (catB B ((n + 31) / 32)).take n
theorem acP (B : Nat → List UInt8) (h : ∀ i, (B i).length = 32) (n N : Nat) (hn : n ≤ 32 * N) : ab8 B n = (catB B N).take n := by
 obtain ⟨r, hr⟩ := ael B ((n + 31) / 32) (N - (n + 31) / 32);have hle : (n + 31) / 32 ≤ N := by omega
 rw [show (n + 31) / 32 + (N - (n + 31) / 32) = N by omega] at hr;rw [hr, List.take_append_of_le_length (by rw [abd B h]; omega)];rfl
theorem abw (B : Nat → List UInt8) (h : ∀ i, (B i).length = 32) (n : Nat) : (ab8 B n).length = n := by
 unfold ab8;rw [List.length_take, abd B h];omega
theorem aem (B : Nat → List UInt8) (h : ∀ i, (B i).length = 32) (n i j : Nat) (hj : j < 32) (hn : 32 * i + (j + 1) = n) : catB B i ++ (B i).take (j + 1) = ab8 B n := by
 have e : n - 32 * i = j + 1 := by omega
 have hl := abd B h i;rw [acP B h n (i + 1) (by omega), catB, List.take_append, hl, e, List.take_of_length_le (l := catB B i) (by omega)]
theorem aen (B : Nat → List UInt8) : ab8 B 0 = [] := rfl
theorem agD (B : Nat → List UInt8) (h : ∀ i, (B i).length = 32) : ab8 B 32 = B 0 := by
 rw [acP B h 32 1 (by omega), catB, catB, List.nil_append, List.take_of_length_le (by rw [h]; omega)]
theorem aaA (k b : List UInt8) : (macB k b).length = 32 := aaf _
theorem af0 (k : List UInt8) : keyB (keyB k) = keyB k := by
 have h := abv k;obtain ⟨K, hK⟩ : ∃ K, keyB k = K := ⟨_, rfl⟩;rw [hK] at h ⊢;unfold keyB blkB;rw [if_neg (by omega), h];simp
theorem af1 (k b : List UInt8) : macB (keyB k) b = macB k b := by unfold macB; rw [af0]
def expT (k info : List UInt8) : Nat → List UInt8
 | 0 => macB k (info ++ be 1 1)
 | i + 1 => macB k (expT k info i ++ info ++ be 1 (i + 2))
theorem aaK (k info : List UInt8) : ∀ i, (expT k info i).length = 32
 | 0 => aaA _ _
 | _ + 1 => aaA _ _
def expP (k info : List UInt8) : Nat → List UInt8
 | 0 => []
 | i + 1 => expT k info i
theorem ad2 (k info : List UInt8) (i : Nat) : expT k info i = macB k (expP k info i ++ info ++ be 1 (i + 1)) := by
 cases i with
 | zero => simp [expT, expP]
 | succ i => rfl
theorem acQ (k info : List UInt8) : ∀ i, (expP k info i).length ≤ 32
 | 0 => by simp [expP]
 | i + 1 => by rw [expP, aaK]; omega
def expL (k info : List UInt8) (n : Nat) : List UInt8 := ab8 (expT k info) n
end Go.Proofs.Ytbhkdlpdolioaaa

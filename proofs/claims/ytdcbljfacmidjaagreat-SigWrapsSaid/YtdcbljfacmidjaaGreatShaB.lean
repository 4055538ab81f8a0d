/- The rounds' keys as the code reckons them: cube roots of primes. Plain. -/
import Derived.Test.YtdcbljfacmidjaaGreatSha
import Derived.Test.YtdcbljfacmidjaaGreatProg
import Derived.IntWalk
import Derived.Lib.Hide
import Derived.Outline
import Derived.WalkSpells
import Derived.Test.YtdcbljfacmidjaaGreatRange
import Derived.Laws.Rows
import Derived.Test.YtdcbljfacmidjaaGreatShaA
import Derived.Deep.RegionHeld3
set_option linter.unusedVariables false
set_option linter.unusedSimpArgs false
namespace Go.Proofs.YtdcbljfacmidjaaGreat
open Go.RowKit

def nextRoot (n x : Nat) : Nat := (2 * x + n / (x * x)) / 3
def croot : Nat → Nat → Nat → Nat
  | 0, _, x => x
  | f + 1, n, x => if x ≤ nextRoot n x then x else croot f n (nextRoot n x)
def croots (n : Nat) : Nat := croot 2097152 n 2097152
theorem croot_stop (f n x : Nat) (h : x ≤ nextRoot n x) : croot f n x = x := by
  cases f with
  | zero => rfl
  | succ f => simp [croot, h]
theorem croot_go (f n x : Nat) (hf : x ≤ f) (h : ¬ x ≤ nextRoot n x) : ∃ g, nextRoot n x ≤ g ∧ croot g n (nextRoot n x) = croot f n x := by
  cases f with
  | zero => omega
  | succ f => exact ⟨f, by omega, by simp [croot, h]⟩
theorem nextRoot_pos (n x : Nat) (h0 : 1 ≤ n) (hx : 1 ≤ x) : 1 ≤ nextRoot n x := by
  unfold nextRoot
  by_cases h : x = 1
  · subst h
    simp
    omega
  · generalize n / (x * x) = d
    omega
theorem croot_range : ∀ (f n x : Nat), 1 ≤ n → 1 ≤ x → 1 ≤ croot f n x ∧ croot f n x ≤ x
  | 0, n, x, _, h => ⟨h, Nat.le_refl _⟩
  | f + 1, n, x, h0, h => by
    unfold croot
    split
    · exact ⟨h, Nat.le_refl _⟩
    · have := croot_range f n (nextRoot n x) h0 (nextRoot_pos n x h0 h)
      omega
/-- The first 32 bits behind the point of p's cube root. -/
def rootN (p : Nat) : Nat := p * 18014398509481984
def restN (p : Nat) : Nat := rootN p - croots (rootN p) * croots (rootN p) * croots (rootN p)
def bitsN (p : Nat) : Nat := croots (rootN p) * 16384 + restN p * 16384 / (3 * croots (rootN p) * croots (rootN p))
def rootW (p : Nat) : UInt32 := UInt32.ofNat (bitsN p)
/-- What makes the sums stay in their bounds: of every number up to 311. -/
def fits (p : Nat) : Bool := decide (croots (rootN p) * croots (rootN p) * croots (rootN p) ≤ rootN p) && decide (restN p < 281474976710656)
theorem fits_all : ∀ p : Fin 312, p.val = 0 ∨ fits p.val = true := by decide +kernel

/-- The sieve: what is marked, and the keys so far. -/
def mark : Nat → Nat → Nat → List Bool → List Bool
  | 0, _, _, D => D
  | f + 1, p, n, D => if n < 312 then mark f p (n + p) (D.set n true) else D
theorem mark_end (f p n : Nat) (D : List Bool) (h : ¬ n < 312) : mark f p n D = D := by
  cases f with
  | zero => rfl
  | succ f => simp [mark, h]
theorem mark_go (f p n : Nat) (D : List Bool) (h : n < 312) (hp : 1 ≤ p) (hf : 312 ≤ f + n) : ∃ g, 312 ≤ g + (n + p) ∧ mark g p (n + p) (D.set n true) = mark f p n D := by
  cases f with
  | zero => omega
  | succ f => exact ⟨f, by omega, by simp [mark, h]⟩
theorem mark_length : ∀ (f p n : Nat) (D : List Bool), (mark f p n D).length = D.length
  | 0, _, _, _ => rfl
  | f + 1, p, n, D => by
    unfold mark
    split
    · rw [mark_length f]; simp
    · rfl
/-- The sieve: what is marked, and the primes so far. -/
structure Sieve where
  D : List Bool
  ps : List Nat
def sieveStep (p : Nat) (s : Sieve) : Sieve := if s.D.getD p false then s else ⟨mark 312 p (p * p) s.D, s.ps ++ [p]⟩
/-- Before p's turn. -/
def sieve : Nat → Sieve
  | 0 => ⟨List.replicate 312 false, []⟩
  | p + 1 => if p < 2 then sieve p else sieveStep p (sieve p)
theorem sieve_length : ∀ p, (sieve p).D.length = 312
  | 0 => List.length_replicate
  | p + 1 => by
    unfold sieve
    split
    · exact sieve_length p
    · unfold sieveStep
      split
      · exact sieve_length p
      · rw [mark_length]; exact sieve_length p
def primeAt (i : Nat) : Nat := (sieve 312).ps.getD i 0
theorem primes_64 : (sieve 312).ps.length = 64 := by decide +kernel
theorem keys_eq : (List.range 64).map (fun i => rootW (primeAt i)) = keyL := by decide +kernel
theorem primeAt_small : ∀ i : Fin 64, 1 ≤ primeAt i.val ∧ primeAt i.val < 312 := by decide +kernel
theorem sieve_next : ∀ p : Fin 312, (sieve p.val).D.getD p.val false = true ∨ p.val < 2 ∨ (primeAt (sieve p.val).ps.length = p.val ∧ (sieve p.val).ps.length < 64) := by decide +kernel
theorem sieve_skip (p : Nat) (h : (sieve p).D.getD p false = true) (h2 : 2 ≤ p) : sieve (p + 1) = sieve p := by
  rw [sieve, if_neg (by omega), sieveStep, if_pos h]
theorem sieve_take (p : Nat) (h : (sieve p).D.getD p false = false) (h2 : 2 ≤ p) : sieve (p + 1) = ⟨mark 312 p (p * p) (sieve p).D, (sieve p).ps ++ [p]⟩ := by
  rw [sieve, if_neg (by omega), sieveStep, if_neg (by rw [h]; decide)]
end Go.Proofs.YtdcbljfacmidjaaGreat

/- sha.cubeRoot, sha.rootBits. -/
set_option linter.unusedVariables false
set_option linter.unusedSimpArgs false
namespace Go.Proofs.YtdcbljfacmidjaaGreat
open Go.RowKit

theorem u64_in (x : Int) (h0 : 0 ≤ x) (h1 : x < 18446744073709551616) : IntKind.u64.wrap x = x := by
  simp [IntKind.wrap, IntKind.bits, IntKind.signed]; omega

set_option maxHeartbeats 1000000 in
theorem cubeRoot_any (n : Nat) (w : World) (h0 : 1 ≤ n) (h1 : (n : Int) < 9223372036854775808) :
    Calls Tryz.prog 102 #[.int .u64 n] w fun e w' => e = .returned (.int .u64 (croots n)) ∧ w = w' := by
  obtain ⟨R, hR⟩ : ∃ R, croots n = R := ⟨_, rfl⟩
  rw [hR]
  unfold croots at hR
  have HR := Lib.hid hR
  clear hR
  go_enter Tryz.func102, Tryz.ntmps102
  go_wp2_with fail
  go_loopw [3] (fun x wr => (∃ k : Nat, x = .int .u64 k ∧ 1 ≤ k ∧ (k : Int) ≤ 2097152 ∧ ∃ f, k ≤ f ∧ croot f n k = R) ∧ wr = w) (fun x _ => (intOf x).toNat)
  case atStart => exact ⟨⟨2097152, rfl, by decide, by decide, 2097152, Nat.le_refl _, HR.out⟩, rfl⟩
  case round =>
    obtain ⟨⟨k, rfl, hk1, hk2, f, hf, hc⟩, rfl⟩ := hrel
    have HC := Lib.hid hc
    have hkk : (1 : Int) ≤ (k : Int) * (k : Int) := by
      have := Nat.mul_le_mul hk1 hk1
      have h2 : ((1 * 1 : Nat) : Int) ≤ ((k * k : Nat) : Int) := by omega
      rwa [Int.natCast_mul] at h2
    have hkk2 : (k : Int) * (k : Int) ≤ 4398046511104 := by
      have h2 := Int.mul_le_mul hk2 hk2 (by omega) (by omega)
      exact h2
    have hne : ¬ (k : Int) * (k : Int) = 0 := by omega
    have m1 : IntKind.u64.wrap (2 * (k : Int)) = 2 * (k : Int) := u64_in _ (by omega) (by omega)
    have m2 : IntKind.u64.wrap ((k : Int) * (k : Int)) = (k : Int) * (k : Int) := u64_in _ (by omega) (by omega)
    have hd0 : 0 ≤ (n : Int) / ((k : Int) * (k : Int)) := Int.ediv_nonneg (by omega) (by omega)
    have hd1 : (n : Int) / ((k : Int) * (k : Int)) ≤ (n : Int) := Int.ediv_le_self _ (by omega)
    have m3 : IntKind.u64.wrap (2 * (k : Int) + (n : Int) / ((k : Int) * (k : Int))) = 2 * (k : Int) + (n : Int) / ((k : Int) * (k : Int)) := u64_in _ (by omega) (by omega)
    have m0 : IntKind.u64.wrap ((n : Int) / ((k : Int) * (k : Int))) = (n : Int) / ((k : Int) * (k : Int)) := u64_in _ (by omega) (by omega)
    have hq : (2 * (k : Int) + (n : Int) / ((k : Int) * (k : Int))).tdiv 3 = ((nextRoot n k : Nat) : Int) := by
      rw [Int.tdiv_eq_ediv_of_nonneg (by omega)]
      unfold nextRoot
      simp
    have hq1 := nextRoot_pos n k h0 hk1
    have hq2 : ((nextRoot n k : Nat) : Int) < 18446744073709551616 := by
      rw [← hq, Int.tdiv_eq_ediv_of_nonneg (by omega)]
      omega
    have m5 : IntKind.u64.wrap ((nextRoot n k : Nat) : Int) = ((nextRoot n k : Nat) : Int) := u64_in _ (by omega) hq2
    obtain ⟨q, hqq⟩ : ∃ q, nextRoot n k = q := ⟨_, rfl⟩
    rw [hqq] at hq hq1 m5
    have HQ := Lib.hid hqq
    have B := Lib.hid (And.intro hk2 (And.intro hkk2 h1))
    clear hc hk2 hkk2 h1 HR hd1 hq2 hqq
    by_cases hge : k ≤ q
    · go_wp2_with fail
      go_ret
      exact ⟨by rw [← HC.out, croot_stop f n k (by rw [HQ.out]; exact hge)]; rfl, rfl⟩
    · go_wp2_with fail
      go_roundw
      case rel =>
        obtain ⟨g, hg1, hg2⟩ := croot_go f n k hf (by rw [HQ.out]; exact hge)
        have := B.out.1
        rw [HQ.out] at hg1 hg2
        exact ⟨⟨q, rfl, hq1, by omega, g, hg1, hg2.trans HC.out⟩, trivial⟩
      case measure => simp [intOf]; omega

set_option maxHeartbeats 1000000 in
theorem rootBits_any (p : Nat) (w : World) (h0 : 1 ≤ p) (h1 : p < 312) :
    Calls Tryz.prog 98 #[.int .u64 p] w fun e w' => e = .returned (.int .u32 (u (rootW p))) ∧ w = w' := by
  have hfit : fits p = true := (fits_all ⟨p, h1⟩).resolve_left (by simp; omega)
  unfold fits at hfit
  simp only [Bool.and_eq_true, decide_eq_true_eq] at hfit
  obtain ⟨hf1, hf2⟩ := hfit
  have hN : ((rootN p : Nat) : Int) = (p : Int) * 18014398509481984 := by unfold rootN; simp
  have hr := croot_range 2097152 (rootN p) 2097152 (by unfold rootN; omega) (by decide)
  have hw : rootW p = UInt32.ofNat (bitsN p) := rfl
  have hb : bitsN p = croots (rootN p) * 16384 + restN p * 16384 / (3 * croots (rootN p) * croots (rootN p)) := rfl
  have hre : restN p = rootN p - croots (rootN p) * croots (rootN p) * croots (rootN p) := rfl
  change 1 ≤ croots (rootN p) ∧ croots (rootN p) ≤ 2097152 at hr
  have hNb : ((rootN p : Nat) : Int) < 9223372036854775808 := by rw [hN]; omega
  have hN1 : 1 ≤ rootN p := by unfold rootN; omega
  have HC := Lib.hid (cubeRoot_any (rootN p))
  rw [hb] at hw
  generalize croots (rootN p) = x at *
  generalize rootN p = N at *
  generalize restN p = r at *
  clear hb
  have hx1 : (1 : Int) ≤ (x : Int) := by omega
  have hx2 : (x : Int) ≤ 2097152 := by omega
  have hxx : (1 : Int) ≤ (x : Int) * (x : Int) := by
    have := Nat.mul_le_mul hr.1 hr.1
    have h2 : ((1 * 1 : Nat) : Int) ≤ ((x * x : Nat) : Int) := by omega
    rwa [Int.natCast_mul] at h2
  have hxx2 : (x : Int) * (x : Int) ≤ 4398046511104 := by
    have h2 := Int.mul_le_mul hx2 hx2 (by omega) (by omega)
    exact h2
  have hx3 : (x : Int) * (x : Int) * (x : Int) ≤ (N : Int) := by
    have h2 : ((x * x * x : Nat) : Int) ≤ ((N : Nat) : Int) := by omega
    rwa [Int.natCast_mul, Int.natCast_mul] at h2
  have hx30 : 0 ≤ (x : Int) * (x : Int) * (x : Int) := Int.mul_nonneg (by omega) (by omega)
  have h3xx : 3 * (x : Int) * (x : Int) = 3 * ((x : Int) * (x : Int)) := by rw [Int.mul_assoc]
  have A : IntKind.u64.wrap ((p : Int) * 18014398509481984) = (N : Int) := by rw [← hN]; exact u64_in _ (by omega) (by omega)
  have X2 : IntKind.u64.wrap ((x : Int) * (x : Int)) = (x : Int) * (x : Int) := u64_in _ (by omega) (by omega)
  have X3 : IntKind.u64.wrap ((x : Int) * (x : Int) * (x : Int)) = (x : Int) * (x : Int) * (x : Int) := u64_in _ hx30 (by omega)
  have hrr : (r : Int) = (N : Int) - (x : Int) * (x : Int) * (x : Int) := by
    have : ((x * x * x : Nat) : Int) = (x : Int) * (x : Int) * (x : Int) := by rw [Int.natCast_mul, Int.natCast_mul]
    omega
  have R : IntKind.u64.wrap ((N : Int) - (x : Int) * (x : Int) * (x : Int)) = (r : Int) := by rw [← hrr]; exact u64_in _ (by omega) (by omega)
  have S1 : IntKind.u64.wrap ((x : Int) * 16384) = (x : Int) * 16384 := u64_in _ (by omega) (by omega)
  have S2 : IntKind.u64.wrap ((r : Int) * 16384) = (r : Int) * 16384 := u64_in _ (by omega) (by omega)
  have T1 : IntKind.u64.wrap (3 * (x : Int)) = 3 * (x : Int) := u64_in _ (by omega) (by omega)
  have T2 : IntKind.u64.wrap (3 * (x : Int) * (x : Int)) = 3 * (x : Int) * (x : Int) := u64_in _ (by omega) (by omega)
  have hne : ¬ (3 * (x : Int) * (x : Int) = 0) := by omega
  have hd0 : 0 ≤ (r : Int) * 16384 / (3 * (x : Int) * (x : Int)) := Int.ediv_nonneg (by omega) (by omega)
  have hd1 : (r : Int) * 16384 / (3 * (x : Int) * (x : Int)) ≤ (r : Int) * 16384 := Int.ediv_le_self _ (by omega)
  have hT : ((r : Int) * 16384).tdiv (3 * (x : Int) * (x : Int)) = (r : Int) * 16384 / (3 * (x : Int) * (x : Int)) := Int.tdiv_eq_ediv_of_nonneg (by omega)
  obtain ⟨d, hd⟩ : ∃ d : Nat, r * 16384 / (3 * x * x) = d := ⟨_, rfl⟩
  have hdi : (r : Int) * 16384 / (3 * (x : Int) * (x : Int)) = (d : Int) := by rw [← hd]; simp
  rw [hdi] at hd0 hd1 hT
  rw [hd] at hw
  have D1 : IntKind.u64.wrap (d : Int) = (d : Int) := u64_in _ (by omega) (by omega)
  have D2 : IntKind.u64.wrap ((x : Int) * 16384 + (d : Int)) = (x : Int) * 16384 + (d : Int) := u64_in _ (by omega) (by omega)
  have U : IntKind.u32.wrap ((x : Int) * 16384 + (d : Int)) = u (rootW p) := by
    rw [hw, u_ofNat, IntKind.wrap_u32]
    simp
  have H1 := Lib.hid hNb
  have H2 := Lib.hid hN1
  have hxx0 : 0 ≤ (x : Int) * (x : Int) := by omega
  have hp0 : 0 ≤ (p : Int) := by omega
  clear hNb hN1 hx2 hxx2 hx3 hf1 hf2 hN hw hre hr hrr h3xx hd hd1
  go_enter Tryz.func98, Tryz.ntmps98
  go_wp2_with fail
  refine (HC.out _ H2.out H1.out).mono ?_
  rintro e w' ⟨rfl, rfl⟩
  go_wp2_with fail
  go_ret
  exact ⟨rfl, rfl⟩
end Go.Proofs.YtdcbljfacmidjaaGreat

/- sha.primes: the primes below 312, one by one. -/
set_option linter.unusedVariables false
set_option linter.unusedSimpArgs false
namespace Go.Proofs.YtdcbljfacmidjaaGreat
open Go.RowKit Go.Shelf

attribute [local go_sem] Oper.semAt_some

/-- Block g holds just these bools. -/
def Br (T : TypeId) (w : World) (g : Nat) (l : List Bool) : Prop := w.heap[g]? = some (.cells (l.map Value.bool).toArray T (0, 0))
theorem Br.lt {T : TypeId} {w : World} {g : Nat} {l : List Bool} (h : Br T w g l) : g < w.heap.size := (Array.getElem?_eq_some_iff.1 h).1
theorem Br.cell {T : TypeId} {w : World} {g : Nat} {l : List Bool} (h : Br T w g l) (i : Nat) (hi : i < l.length) : w.cell? ⟨g, i, none⟩ = some (.bool (l.getD i false)) := by
  rw [cell_of_row w g i _ T _ h]
  simp [hi]
theorem Br.frozen {T : TypeId} {w : World} {g : Nat} {l : List Bool} (h : Br T w g l) (i : Nat) : w.frozen? ⟨g, i, none⟩ = false := by
  have h' := h
  unfold Br at h'
  simp [World.frozen?, h']
theorem Br.set {T : TypeId} {w : World} {g : Nat} {l : List Bool} (h : Br T w g l) (i : Nat) (x : Bool) : Br T (w.setCell ⟨g, i, none⟩ (.bool x)) g (l.set i x) := by
  have h' := h
  unfold Br at h' ⊢
  obtain ⟨hlt, heq⟩ := Array.getElem?_eq_some_iff.1 h'
  simp [World.setCell, hlt, Array.getElem_modify, heq, List.map_set]
theorem Br.new (T : TypeId) (w : World) (cs : Array Value) (l : List Bool) (h : cs = (l.map Value.bool).toArray) : Br T (w.alloc (.cells cs T)) w.heap.size l := by
  subst h
  exact heap_alloc_new w _

theorem zero_bools (w : World) : (zeroValue 123).run Tryz.prog w = .ok (.agg (List.replicate 312 (Value.bool false)).toArray) w := by kernel_rfl
attribute [local go_sem] zero_bools

set_option maxRecDepth 100000 in
set_option maxHeartbeats 4000000 in
theorem primes_it (m : Nat) (hm : 1 ≤ m) (X : Nat → Prop) (w : World) (hX : ∀ k, X k → k < w.heap.size) :
    Iterates Fence.wide m Tryz.prog 97 #[] (fun i => #[.int .u64 (primeAt i)]) 64 X w := by
  intro l J W hb hl1 hl2 hJ hY h0
  have HJ := Lib.hid hJ
  have HY := Lib.hid hY
  have HX := Lib.hid hX
  clear hJ hY hX
  refine callsIn_of_wp Tryz.func97 rfl trivial ?_ rfl
  simp only [Tryz.ntmps97, List.append_toArray, List.append_nil, List.size_toArray, List.length_cons, List.length_nil, Nat.reduceAdd, Nat.reduceSub, Array.replicate_succ, Array.replicate_zero, List.push_toArray, List.nil_append, List.cons_append]
  gi_wp2
  have hD0 : Br 123 (W.alloc (.cells (List.replicate 312 (Value.bool false)).toArray 123)) W.heap.size (sieve 2).D := Br.new _ _ _ _ rfl
  gi_loopw [3] (fun p wr => ∃ q : Nat, 2 ≤ q ∧ q ≤ 312 ∧ p = .int .u64 q ∧ Br 123 wr W.heap.size (sieve q).D ∧ J (sieve q).ps.length wr) (fun p _ => 312 - (intOf p).toNat)
  case atStart => exact ⟨2, by omega, by omega, rfl, hD0, HJ.out _ _ _ h0 ((Below.refl _ W).alloc (Nat.le_refl _) _)⟩
  case round =>
    clear hD0
    obtain ⟨q, hq1, hq2, rfl, hD, hj⟩ := hrel
    by_cases hlt : q < 312
    · have hlen := sieve_length q
      have hc := hD.cell q (by omega)
      have hqi : (q : Int) < 312 := by omega
      rcases hdv : (sieve q).D.getD q false with _ | _
      · have hnext := (sieve_next ⟨q, hlt⟩).resolve_left (by rw [hdv]; decide)
        have hn2 := hnext.resolve_left (by simp; omega)
        obtain ⟨hp, h64⟩ := hn2
        simp only at hp h64
        obtain ⟨fn, tmps, assign, body, hy, hR⟩ := HY.out (sieve q).ps.length wr h64 hj
        rw [hp] at hy
        have HT := Lib.hid (sieve_take q hdv hq1)
        have HP := Lib.hid hp
        rw [hdv] at hc
        have HD := Lib.hid hdv
        have HL := Lib.hid hlen
        clear hdv hp hnext h64 hlen
        gi_wp2
        refine hR.mono ?_
        rintro e W3 ⟨rfl, hj3, hs3⟩
        have hD3 : Br 123 W3 W.heap.size (sieve q).D :=
          (hs3.block _ hD.lt (fun h => h.elim (fun e => by omega) (fun hx => by have := HX.out _ hx; have := hb.size; omega))).trans hD
        clear hR hs3 hD hj hc
        have hqq0 : 0 ≤ (q : Int) * (q : Int) := Int.mul_nonneg (by omega) (by omega)
        have hqq : (q : Int) * (q : Int) ≤ 97344 := by
          have h2 := Int.mul_le_mul (show (q : Int) ≤ 312 by omega) (show (q : Int) ≤ 312 by omega) (by omega) (by omega)
          exact h2
        have hmul : IntKind.u64.wrap ((q : Int) * (q : Int)) = ((q * q : Nat) : Int) := by rw [u64_in _ (by omega) (by omega)]; simp
        obtain ⟨M, hM⟩ : ∃ M, mark 312 q (q * q) (sieve q).D = M := ⟨_, rfl⟩
        have hqn : ((q * q : Nat) : Int) ≤ 97344 := by rw [Int.natCast_mul]; exact hqq
        obtain ⟨k0, hk0⟩ : ∃ k, q * q = k := ⟨_, rfl⟩
        have HT2 : Hid (sieve (q + 1) = ⟨M, (sieve q).ps ++ [q]⟩) := Lib.hid (by rw [HT.out, hM])
        rw [hk0] at hmul hM hqn
        have HM := Lib.hid hM
        clear hk0 hM hqq hqq0 HT
        gi_wp2
        gi_loopw [4] (fun x wq => ∃ k : Nat, (k : Int) ≤ 100000 ∧ x = .int .u64 k ∧ (∃ f D', Br 123 wq W.heap.size D' ∧ D'.length = 312 ∧ mark f q k D' = M ∧ 312 ≤ f + k) ∧ J ((sieve q).ps.length + 1) wq) (fun x _ => 312 - (intOf x).toNat)
        case atStart => exact ⟨k0, by omega, rfl, ⟨312, (sieve q).D, hD3, HL.out, HM.out, by omega⟩, hj3⟩
        case round =>
          clear hD3 hj3 HM hmul hqn
          obtain ⟨k, hkb, rfl, ⟨f, D', hB, hl, hm, hf⟩, hj⟩ := hrel
          by_cases hlt2 : k < 312
          · have hc := hB.cell k (by omega)
            have hfz := hB.frozen k
            have hki : (k : Int) < 312 := by omega
            have hadd : IntKind.u64.wrap ((k : Int) + (q : Int)) = (k : Int) + (q : Int) := u64_in _ (by omega) (by omega)
            have HM := Lib.hid hm
            have HL2 := Lib.hid hl
            clear hm hl
            gi_wp2
            go_roundw
            case rel =>
              obtain ⟨g, hg1, hg2⟩ := mark_go f q k D' hlt2 (by omega) hf
              exact ⟨k + q, by omega, by simp, ⟨g, D'.set k true, hB.set k true, by rw [List.length_set]; exact HL2.out, hg2.trans HM.out, hg1⟩, HJ.out _ _ _ hj ((Below.refl _ _).setCell (by simp) _)⟩
            case measure => simp [intOf]; omega
          · have HE := Lib.hid ((mark_end f q k D' hlt2).symm.trans hm)
            have hge : ¬ (k : Int) < 312 := by omega
            clear hm hl
            gi_wp2
            go_roundw
            case rel =>
              refine ⟨q + 1, by omega, by omega, by simp, ?_, ?_⟩
              · rw [HT2.out, ← HE.out]; exact hB
              · rw [HT2.out]; simpa using hj
            case measure => simp [intOf]; omega
      · have HS := Lib.hid (sieve_skip q hdv hq1)
        rw [hdv] at hc
        clear hdv hlen
        gi_wp2
        go_roundw
        case rel => exact ⟨q + 1, by omega, by omega, by simp, by rw [HS.out]; exact hD, by rw [HS.out]; exact hj⟩
        case measure => simp [intOf]; omega
    · have h312 : q = 312 := by omega
      have hj' : J 64 wr := by rw [h312, primes_64] at hj; exact hj
      have hge : ¬ (q : Int) < 312 := by omega
      clear h312 hj hq2
      gi_wp2
      go_end0
      exact ⟨⟨_, rfl⟩, hj'⟩
end Go.Proofs.YtdcbljfacmidjaaGreat

/- sha.keys: the rounds' keys. -/
set_option linter.unusedVariables false
set_option linter.unusedSimpArgs false
namespace Go.Proofs.YtdcbljfacmidjaaGreat
open Go.RowKit Go.Shelf

attribute [local go_sem] Oper.semAt_some

set_option maxRecDepth 100000 in
set_option maxHeartbeats 4000000 in
theorem keys_any (w : World) : Calls Tryz.prog 89 #[] w fun e w' => e = .returned (.agg (wcells keyL)) ∧ Kp w w' := by
  refine (callsIn_wide (n := 4)).1 ?_
  refine callsIn_of_wp_marks Tryz.func89 rfl trivial ?_ rfl
  refine wpIn_wide.2 ?_
  simp only [Tryz.ntmps89, List.append_toArray, List.size_toArray, List.length_nil, Nat.reduceSub, Array.replicate_succ, Array.replicate_zero, List.push_toArray, List.nil_append, List.cons_append]
  go_wp2
  obtain ⟨W0, hW0⟩ : ∃ W0, ((w.alloc (.cells (wcells (zeros 64)) 110)).alloc (.cells (wcells (zeros 64)) 110)).alloc (.cells #[.int .i64 0] 3) = W0 := ⟨_, rfl⟩
  change Code.wp Tryz.prog _ _ _ (((w.alloc (.cells (wcells (zeros 64)) 110)).alloc (.cells (wcells (zeros 64)) 110)).alloc (.cells #[.int .i64 0] 3))
  rw [hW0]
  have hs0 : W0.heap.size = w.heap.size + 3 := by rw [← hW0]; simp
  have hR : Arr 110 W0 w.heap.size (zeros 64) := by rw [← hW0]; exact ((Arr.new _ w _ _ rfl).alloc _).alloc _
  have hA : Arr 110 W0 (w.heap.size + 1) (zeros 64) := by
    have := (Arr.new 110 (w.alloc (.cells (wcells (zeros 64)) 110)) (wcells (zeros 64)) (zeros 64) rfl).alloc (.cells #[.int .i64 0] 3)
    rw [World.size_alloc, hW0] at this
    exact this
  have hI : W0.cell? ⟨w.heap.size + 1 + 1, 0, none⟩ = some (.int .i64 0) ∧ W0.frozen? ⟨w.heap.size + 1 + 1, 0, none⟩ = false := by
    have := heap_alloc_new ((w.alloc (.cells (wcells (zeros 64)) 110)).alloc (.cells (wcells (zeros 64)) 110)) (.cells #[.int .i64 0] 3)
    rw [World.size_alloc, World.size_alloc, hW0] at this
    exact ⟨by rw [cell_of_row W0 _ 0 _ _ _ this]; rfl, by simp [World.frozen?, this]⟩
  have hK : Kp w W0 := by rw [← hW0]; exact (((Kp.refl w).alloc _).alloc _).alloc _
  clear hW0
  refine wpIn_wide.1 (wpIn_range_on (F := Fence.wide) (n := 4) rfl (by omega) (gf := 97) (lb := #[]) rfl trivial (enters_of Tryz.func97 (by kernel_rfl) rfl) (encs := fun i => #[.int .u64 (primeAt i)]) (N := 64) (X := fun k => k = w.heap.size + 1 ∨ k = w.heap.size + 1 + 1) (by omega)
    (primes_it (4 - 1) (by omega) _ W0 (by omega)) (fun _ => rfl)
    (fun i A => Arr 110 A w.heap.size (zeros 64) ∧ Arr 110 A (w.heap.size + 1) (mix (zeros 64) keyL i) ∧ A.cell? ⟨w.heap.size + 1 + 1, 0, none⟩ = some (.int .i64 i) ∧ A.frozen? ⟨w.heap.size + 1 + 1, 0, none⟩ = false ∧ Kp w A)
    (fun i A B h hb => ⟨h.1.below hb (by omega), h.2.1.below hb (by omega), (hb.cell (p := ⟨w.heap.size + 1 + 1, 0, none⟩) (by simp; omega)).trans h.2.2.1, (hb.frozen (p := ⟨w.heap.size + 1 + 1, 0, none⟩) (by simp; omega)).trans h.2.2.2.1, Below.trans h.2.2.2.2 (hb.mono (by omega))⟩)
    ⟨hR, hA, hI.1, hI.2, hK⟩
    (fun i => { tmps := #[.pointer (some ⟨w.heap.size, 0, none⟩), .pointer (some ⟨w.heap.size + 1, 0, none⟩), .pointer (some ⟨w.heap.size + 1 + 1, 0, none⟩), .int .u64 (primeAt i), .int .u64 (primeAt i), undef, undef, undef, undef, undef, undef, undef], defers := [] }) ?assign ?body ?done)
  case assign =>
    intro l i W K hK
    gi_wp2
    exact hK
  case body =>
    rintro l i W ⟨hR, hA, hc, hf, hK⟩ hi
    obtain ⟨hp1, hp2⟩ := primeAt_small ⟨i, hi⟩
    simp only at hp1 hp2
    have hkey : keyL.getD i 0 = rootW (primeAt i) := by
      rw [← keys_eq, List.getD_eq_getElem?_getD, List.getElem?_map, List.getElem?_range hi]
      rfl
    have hlen : (mix (zeros 64) keyL i).length = 64 := by rw [mix_length (zeros 64) keyL i (by simp [zeros_length]; rfl) (by rw [zeros_length]; omega), zeros_length]
    have hset := mix_set (zeros 64) keyL i (by simp [zeros_length]; rfl) (by rw [zeros_length]; omega) _ hkey
    have ca := hA.cell i (by omega)
    have cf := hA.frozen i (by omega)
    generalize primeAt i = p at *
    have hii : (i : Int) < 64 := by omega
    have HS := Lib.hid hset
    clear hset hkey hlen
    have hmx : Tryz.prog.follows .mixedOrders = true := by kernel_rfl
    gi_wp2
    gi_region_with_o (refine ⟨trivial, ?_⟩; gi_at_call 98; refine (CallsIn.inRound l (callsIn_wide.2 (rootBits_any p _ hp1 hp2))).mono ?_; rintro e w' ⟨rfl, rfl⟩)
    all_goals gi_wp2
    all_goals exact ⟨(((Same.refl _ W).setCell ⟨w.heap.size + 1, i, none⟩ _ (.inl rfl)).setCell ⟨w.heap.size + 1 + 1, 0, none⟩ _ (.inr rfl)).drew, ((hR.other _ _ (by simp)).other _ _ (by simp; omega)).drew, ((hA.setTo i _ HS.out).other _ _ (by simp)).drew, (Below.setCell (Below.setCell hK (by simp) _) (by simp; omega) _).drew⟩
  case done =>
    rintro D W hD ⟨hR, hA, hc, hf, hK⟩ hd
    have hm : mix (zeros 64) keyL 64 = keyL := rfl
    rw [hm] at hA
    clear hm
    go_wp2_with (first
      | (refine wpList_load_arr Tryz.underlying110 (by kernel_rfl) rfl (.tmp 1) rfl (w.heap.size + 1) keyL rfl hA rfl ?_)
      | (refine wpList_store_arr' (by kernel_rfl) rfl rfl (.tmp 0) (.tmp 11) rfl w.heap.size (zeros 64) keyL rfl rfl hR (zeros_length 64) rfl ?_; intro w5 hR5 hbut))
    have hd5 := (hbut.other D (by omega)).trans hd
    refine ⟨by simp, .inl ⟨_, _, rfl, run_takeDeferred hd5, ?_⟩⟩
    exact ⟨_, results_arr Tryz.underlying110 (by kernel_rfl) rfl _ _ w.heap.size keyL rfl ((World.putObj_heap_other (by omega)).trans hR5) rfl, rfl, put_below (hbut.below hK (Nat.le_refl _)) (by omega) (by rw [hbut.size]; exact hK.size) _⟩
end Go.Proofs.YtdcbljfacmidjaaGreat

/- sha.Start, sha.Key, sha.Block; the document's own. -/
set_option linter.unusedVariables false
set_option linter.unusedSimpArgs false
namespace Go.Proofs.YtdcbljfacmidjaaGreat
open Go.RowKit

set_option maxHeartbeats 1000000 in
theorem start_any (w : World) : Calls Tryz.prog 90 #[] w fun e w' => e = .returned (.agg (wcells startS.list)) ∧ Kp w w' := by
  go_enter Tryz.func90, Tryz.ntmps90
  have hA : Arr 96 (w.alloc (.cells (wcells (zeros 8)) 96)) w.heap.size (zeros 8) := Arr.new _ w _ _ rfl
  go_wp2_with ((refine wpList_store_arr' (by kernel_rfl) rfl rfl (.tmp 0) (.tmp 1) rfl w.heap.size (zeros 8) startS.list rfl rfl hA rfl rfl ?_; intro w5 hR5 hbut))
  refine bodyPost_ret (results_arr Tryz.underlying96 (by kernel_rfl) rfl _ _ w.heap.size startS.list rfl hR5 rfl) rfl ?_
  exact ⟨rfl, hbut.below ((Kp.refl w).alloc _) (Nat.le_refl _)⟩

set_option maxHeartbeats 1000000 in
theorem refStart_any (w : World) : Calls Tryz.prog 75 #[] w fun e w' => e = .returned (.agg (wcells startS.list)) ∧ Kp w w' := by
  go_enter Tryz.func75, Tryz.ntmps75
  have hA : Arr 96 (w.alloc (.cells (wcells (zeros 8)) 96)) w.heap.size (zeros 8) := Arr.new _ w _ _ rfl
  go_wp2_with ((refine wpList_store_arr' (by kernel_rfl) rfl rfl (.tmp 0) (.tmp 1) rfl w.heap.size (zeros 8) startS.list rfl rfl hA rfl rfl ?_; intro w5 hR5 hbut))
  refine bodyPost_ret (results_arr Tryz.underlying96 (by kernel_rfl) rfl _ _ w.heap.size startS.list rfl hR5 rfl) rfl ?_
  exact ⟨rfl, hbut.below ((Kp.refl w).alloc _) (Nat.le_refl _)⟩

set_option maxRecDepth 100000 in
set_option maxHeartbeats 1000000 in
/-- A row of 64 words, new. -/
theorem refKeys_any (w : World) : Calls Tryz.prog 74 #[] w fun e w' => (∃ g, e = .returned (.slice (some ⟨g, 0, none⟩) 64 64) ∧ Arr 95 w' g keyL ∧ w.heap.size ≤ g) ∧ Kp w w' := by
  go_enter Tryz.func74, Tryz.ntmps74
  go_wp2
  go_ret
  exact ⟨⟨w.heap.size, rfl, Arr.new _ w _ _ rfl, Nat.le_refl _⟩, (Kp.refl w).alloc _⟩

def keyOf (i : Int) : UInt32 := if 0 ≤ i ∧ i < 64 then keyL.getD i.toNat 0 else 0

end Go.Proofs.YtdcbljfacmidjaaGreat

/- sha.Block; the document's own; the document's Key. -/
set_option linter.unusedVariables false
set_option linter.unusedSimpArgs false
namespace Go.Proofs.YtdcbljfacmidjaaGreat
open Go.RowKit

section
variable {P : Program}
/-- An array in memory, and a number beside it. -/
theorem results_arr_int {T ty e : TypeId} {n : Nat} (hu : P.underlying ty = some (.array n e)) (hi : (P.info? ty).map (·.size) = some n) {fn : Func} {p q : Tmp} (hr : fn.results = #[.cell p ty, .tmp q]) (tmps : Array Value) (w : World) (g : Nat) (l : List UInt32) (v : Value)
    (hp : tmps.getD p undef = .pointer (some ⟨g, 0, none⟩)) (hq : tmps.getD q undef = v) (h : Arr T w g l) (hl : l.length = n) : (results fn tmps).run P w = .ok (.tuple #[.agg (wcells l), v]) w := by
  have hp' : tmps[p]?.getD undef = .pointer (some ⟨g, 0, none⟩) := by simpa using hp
  have hq' : tmps[q]?.getD undef = v := by simpa using hq
  simp [results, hr, hp', hq', asAddr, run_loadVar_row w g T ty (wcells l) (0, 0) _ h hu rfl (by rw [hi, wcells_size, hl])]
end

/-- Eight words in memory, cell by cell. -/
theorem Arr.cells8 {T : TypeId} {w : World} {g : Nat} {s : S8} (h : Arr T w g s.list) :
    w.cell? ⟨g, 0, none⟩ = some (.int .u32 (u s.a)) ∧ w.cell? ⟨g, 1, none⟩ = some (.int .u32 (u s.b)) ∧ w.cell? ⟨g, 2, none⟩ = some (.int .u32 (u s.c)) ∧ w.cell? ⟨g, 3, none⟩ = some (.int .u32 (u s.d)) ∧
    w.cell? ⟨g, 4, none⟩ = some (.int .u32 (u s.e)) ∧ w.cell? ⟨g, 5, none⟩ = some (.int .u32 (u s.f)) ∧ w.cell? ⟨g, 6, none⟩ = some (.int .u32 (u s.g)) ∧ w.cell? ⟨g, 7, none⟩ = some (.int .u32 (u s.h)) :=
  ⟨h.cell 0 (Nat.lt_of_sub_eq_succ rfl), h.cell 1 (Nat.lt_of_sub_eq_succ rfl), h.cell 2 (Nat.lt_of_sub_eq_succ rfl), h.cell 3 (Nat.lt_of_sub_eq_succ rfl), h.cell 4 (Nat.lt_of_sub_eq_succ rfl), h.cell 5 (Nat.lt_of_sub_eq_succ rfl), h.cell 6 (Nat.lt_of_sub_eq_succ rfl), h.cell 7 (Nat.lt_of_sub_eq_succ rfl)⟩
theorem Arr.frozen8 {T : TypeId} {w : World} {g : Nat} {s : S8} (h : Arr T w g s.list) :
    w.frozen? ⟨g, 0, none⟩ = false ∧ w.frozen? ⟨g, 1, none⟩ = false ∧ w.frozen? ⟨g, 2, none⟩ = false ∧ w.frozen? ⟨g, 3, none⟩ = false ∧ w.frozen? ⟨g, 4, none⟩ = false ∧ w.frozen? ⟨g, 5, none⟩ = false ∧ w.frozen? ⟨g, 6, none⟩ = false ∧ w.frozen? ⟨g, 7, none⟩ = false :=
  ⟨h.frozen 0 (Nat.lt_of_sub_eq_succ rfl), h.frozen 1 (Nat.lt_of_sub_eq_succ rfl), h.frozen 2 (Nat.lt_of_sub_eq_succ rfl), h.frozen 3 (Nat.lt_of_sub_eq_succ rfl), h.frozen 4 (Nat.lt_of_sub_eq_succ rfl), h.frozen 5 (Nat.lt_of_sub_eq_succ rfl), h.frozen 6 (Nat.lt_of_sub_eq_succ rfl), h.frozen 7 (Nat.lt_of_sub_eq_succ rfl)⟩
/-- Eight words laid, one by one. -/
theorem Arr.set8 {T : TypeId} {w : World} {g : Nat} {s : S8} (h : Arr T w g s.list) (r : S8) :
    Arr T ((((((((w.setCell ⟨g, 0, none⟩ (.int .u32 (u r.a))).setCell ⟨g, 1, none⟩ (.int .u32 (u r.b))).setCell ⟨g, 2, none⟩ (.int .u32 (u r.c))).setCell ⟨g, 3, none⟩ (.int .u32 (u r.d))).setCell ⟨g, 4, none⟩ (.int .u32 (u r.e))).setCell ⟨g, 5, none⟩ (.int .u32 (u r.f))).setCell ⟨g, 6, none⟩ (.int .u32 (u r.g))).setCell ⟨g, 7, none⟩ (.int .u32 (u r.h))) g r.list :=
  (((((((h.set 0 r.a _ rfl).set 1 r.b _ rfl).set 2 r.c _ rfl).set 3 r.d _ rfl).set 4 r.e _ rfl).set 5 r.f _ rfl).set 6 r.g _ rfl).set 7 r.h _ rfl
theorem below_set8 {B : Nat} {a w : World} (h : Below B a w) {g : Nat} (hg : B ≤ g) (v0 v1 v2 v3 v4 v5 v6 v7 : Value) :
    Below B a ((((((((w.setCell ⟨g, 0, none⟩ v0).setCell ⟨g, 1, none⟩ v1).setCell ⟨g, 2, none⟩ v2).setCell ⟨g, 3, none⟩ v3).setCell ⟨g, 4, none⟩ v4).setCell ⟨g, 5, none⟩ v5).setCell ⟨g, 6, none⟩ v6).setCell ⟨g, 7, none⟩ v7) :=
  (((((((h.setCell (p := ⟨g, 0, none⟩) hg _).setCell (p := ⟨g, 1, none⟩) hg _).setCell (p := ⟨g, 2, none⟩) hg _).setCell (p := ⟨g, 3, none⟩) hg _).setCell (p := ⟨g, 4, none⟩) hg _).setCell (p := ⟨g, 5, none⟩) hg _).setCell (p := ⟨g, 6, none⟩) hg _).setCell (p := ⟨g, 7, none⟩) hg _
/-- Eight words, written out. -/
theorem agg8 (r : S8) : Value.agg (wcells r.list) = .agg #[.int .u32 (u r.a), .int .u32 (u r.b), .int .u32 (u r.c), .int .u32 (u r.d), .int .u32 (u r.e), .int .u32 (u r.f), .int .u32 (u r.g), .int .u32 (u r.h)] := rfl
def zeroS : S8 := ⟨0, 0, 0, 0, 0, 0, 0, 0⟩

def blockS (s : S8) (l : List UInt8) : S8 := if l.length = 64 then comp keyL s l else s
def blockE (l : List UInt8) : Int := if l.length = 64 then 0 else 1

end Go.Proofs.YtdcbljfacmidjaaGreat

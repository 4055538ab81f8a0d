import Derived.Test.YtigpgcjbpoaclaaGreatDoorB1
import Derived.Deep.QuietTactic
import Derived.BigQuiet
import Derived.Test.YtigpgcjbpoaclaaGreatDoorRows
import Derived.WalkSpells
import Derived.Lib.Hide
import Derived.Outline
import Derived.Laws.AppendOwn
import Derived.Deep.RegionLaw
import Derived.Laws.Rows
import Derived.Laws.Tables
import Derived.ProofKit
import Derived.Deep.Slices
import Derived.Lib.SmallJoins
import Derived.OpenShut
set_option linter.unusedVariables false
set_option linter.unusedSimpArgs false
namespace Go.Proofs.YtigpgcjbpoaclaaGreatDoor
open Go.RowKit
theorem quiet_left {P : Program} {f : FuncId} {args : Array Value} {w : World} {n : Nat} {v : Value}
    (h : Calls P f args (w.drewN n) fun e w' => e = .returned v ∧ w.drewN n = w') : Calls P f args (w.drewN n) fun e w'' => e = .returned v ∧ ∃ m, w'' = w.drewN m :=
  h.mono fun _ _ ⟨he, hm⟩ => ⟨he, n, hm.symm⟩
theorem Kp.drewN {a b : World} (h : Kp a b) (n : Nat) : Kp a (b.drewN n) := by
  induction n with
  | zero => exact h
  | succ n ih => exact ih.drew
end Go.Proofs.YtigpgcjbpoaclaaGreatDoor
namespace Go.Proofs.YtigpgcjbpoaclaaGreatDoor
def wadd (x y : UInt32) : UInt32 := x + y
def wxor (x y : UInt32) : UInt32 := x ^^^ y
def wand (x y : UInt32) : UInt32 := x &&& y
def wor (x y : UInt32) : UInt32 := x ||| y
def wnot (x : UInt32) : UInt32 := wxor 0xffffffff x
def wshl (k : Nat) (x : UInt32) : UInt32 := UInt32.ofNat (x.toNat * 2 ^ k)
def wshr (k : Nat) (x : UInt32) : UInt32 := UInt32.ofNat (x.toNat / 2 ^ k)
def rotr (k : Nat) (x : UInt32) : UInt32 := wor (wshr k x) (wshl (32 - k) x)
def big (i j k : Nat) (x : UInt32) : UInt32 := wxor (wxor (rotr i x) (rotr j x)) (rotr k x)
def small (i j k : Nat) (x : UInt32) : UInt32 := wxor (wxor (rotr i x) (rotr j x)) (wshr k x)
def wordOf (a b c d : UInt8) : UInt32 := UInt32.ofNat (16777216 * a.toNat + 65536 * b.toNat + 256 * c.toNat + d.toNat)
def nextWord (l : List UInt8) (w : List UInt32) (t : Nat) : UInt32 :=
  if t < 16 then wordOf (l.getD (4 * t) 0) (l.getD (4 * t + 1) 0) (l.getD (4 * t + 2) 0) (l.getD (4 * t + 3) 0)
  else wadd (wadd (wadd (small 17 19 10 (w.getD (t - 2) 0)) (w.getD (t - 7) 0)) (small 7 18 3 (w.getD (t - 15) 0))) (w.getD (t - 16) 0)
def sched (l : List UInt8) : Nat → List UInt32
  | 0 => []
  | t + 1 => sched l t ++ [nextWord l (sched l t) t]
structure S8 where
  a : UInt32
  b : UInt32
  c : UInt32
  d : UInt32
  e : UInt32
  f : UInt32
  g : UInt32
  h : UInt32
deriving DecidableEq
def S8.list (s : S8) : List UInt32 := [s.a, s.b, s.c, s.d, s.e, s.f, s.g, s.h]
def t1 (s : S8) (k w : UInt32) : UInt32 := wadd (wadd (wadd (wadd s.h (big 6 11 25 s.e)) (wxor (wand s.e s.f) (wand (wnot s.e) s.g))) k) w
def t2 (s : S8) : UInt32 := wadd (big 2 13 22 s.a) (wxor (wxor (wand s.a s.b) (wand s.a s.c)) (wand s.b s.c))
def rnd (s : S8) (k w : UInt32) : S8 := ⟨wadd (t1 s k w) (t2 s), s.a, s.b, s.c, wadd s.d (t1 s k w), s.e, s.f, s.g⟩
def rnds (k w : List UInt32) (s : S8) : Nat → S8
  | 0 => s
  | t + 1 => rnd (rnds k w s t) (k.getD t 0) (w.getD t 0)
def S8.add (s r : S8) : S8 := ⟨wadd s.a r.a, wadd s.b r.b, wadd s.c r.c, wadd s.d r.d, wadd s.e r.e, wadd s.f r.f, wadd s.g r.g, wadd s.h r.h⟩
def comp (k : List UInt32) (s : S8) (l : List UInt8) : S8 := s.add (rnds k (sched l 64) s 64)
def startS : S8 := ⟨0x6a09e667, 0xbb67ae85, 0x3c6ef372, 0xa54ff53a, 0x510e527f, 0x9b05688c, 0x1f83d9ab, 0x5be0cd19⟩
def keyL : List UInt32 := [
    0x428a2f98, 0x71374491, 0xb5c0fbcf, 0xe9b5dba5, 0x3956c25b, 0x59f111f1, 0x923f82a4, 0xab1c5ed5,
    0xd807aa98, 0x12835b01, 0x243185be, 0x550c7dc3, 0x72be5d74, 0x80deb1fe, 0x9bdc06a7, 0xc19bf174,
    0xe49b69c1, 0xefbe4786, 0x0fc19dc6, 0x240ca1cc, 0x2de92c6f, 0x4a7484aa, 0x5cb0a9dc, 0x76f988da,
    0x983e5152, 0xa831c66d, 0xb00327c8, 0xbf597fc7, 0xc6e00bf3, 0xd5a79147, 0x06ca6351, 0x14292967,
    0x27b70a85, 0x2e1b2138, 0x4d2c6dfc, 0x53380d13, 0x650a7354, 0x766a0abb, 0x81c2c92e, 0x92722c85,
    0xa2bfe8a1, 0xa81a664b, 0xc24b8b70, 0xc76c51a3, 0xd192e819, 0xd6990624, 0xf40e3585, 0x106aa070,
    0x19a4c116, 0x1e376c08, 0x2748774c, 0x34b0bcb5, 0x391c0cb3, 0x4ed8aa4a, 0x5b9cca4f, 0x682e6ff3,
    0x748f82ee, 0x78a5636f, 0x84c87814, 0x8cc70208, 0x90befffa, 0xa4506ceb, 0xbef9a3f7, 0xc67178f2]
def fill (n : Nat) : Nat := (119 - n % 64) % 64
def pad (n : Nat) : List UInt8 := 128 :: List.replicate (fill n) 0 ++ be 8 (8 * n)
def blocks (s : S8) (l : List UInt8) : Nat → S8
  | 0 => s
  | k + 1 => comp keyL (blocks s l k) ((l.drop (64 * k)).take 64)
def padded (l : List UInt8) : List UInt8 := l ++ pad l.length
def bytes4 (x : UInt32) : List UInt8 := [UInt8.ofNat (x.toNat / 16777216), UInt8.ofNat (x.toNat / 65536), UInt8.ofNat (x.toNat / 256), UInt8.ofNat x.toNat]
def S8.bytes (s : S8) : List UInt8 := s.list.flatMap bytes4
def digest (l : List UInt8) : List UInt8 := (blocks startS (padded l) ((padded l).length / 64)).bytes
def u (x : UInt32) : Int := (x.toNat : Int)
theorem u_nonneg (x : UInt32) : 0 ≤ u x := Int.natCast_nonneg _
theorem u_lt (x : UInt32) : u x < 4294967296 := by unfold u; have := x.toNat_lt; omega
theorem u_of (n : Nat) (h : n < 4294967296) : u (UInt32.ofNat n) = n := by
  unfold u
  rw [UInt32.toNat_ofNat']
  congr 1
  exact Nat.mod_eq_of_lt h
theorem u_ofNat (n : Nat) : u (UInt32.ofNat n) = (n : Int) % 4294967296 := by
  unfold u
  rw [UInt32.toNat_ofNat']
  simp
theorem u_wrap (x : UInt32) : IntKind.u32.wrap (u x) = u x := by rw [IntKind.wrap_u32]; have := u_nonneg x; have := u_lt x; omega
theorem u_add (x y : UInt32) : IntKind.u32.wrap (u x + u y) = u (wadd x y) := by
  rw [IntKind.wrap_u32]
  unfold u wadd
  rw [UInt32.toNat_add]
  simp
theorem u32_bv (x : UInt32) : BitVec.ofInt IntKind.u32.bits (u x) = x.toBitVec := by
  unfold u
  rw [BitVec.ofInt_natCast]
  apply BitVec.eq_of_toNat_eq
  simp [IntKind.bits]
theorem u_xor (x y : UInt32) : bits .xor .u32 (u x) (u y) = u (wxor x y) := by
  simp only [bits, u32_bv]
  change IntKind.u32.wrap (u (x ^^^ y)) = _
  exact u_wrap _
theorem u_and (x y : UInt32) : bits .and .u32 (u x) (u y) = u (wand x y) := by
  simp only [bits, u32_bv]
  change IntKind.u32.wrap (u (x &&& y)) = _
  exact u_wrap _
theorem u_or (x y : UInt32) : bits .or .u32 (u x) (u y) = u (wor x y) := by
  simp only [bits, u32_bv]
  change IntKind.u32.wrap (u (x ||| y)) = _
  exact u_wrap _
theorem u_shl (k : Nat) (x : UInt32) : IntKind.u32.wrap (u x * 2 ^ k) = u (wshl k x) := by
  rw [IntKind.wrap_u32]
  unfold wshl
  rw [u_ofNat]
  unfold u
  simp
theorem u_shr (k : Nat) (x : UInt32) : u x / 2 ^ k = u (wshr k x) := by
  unfold wshr
  have h := x.toNat_lt
  have h2 : x.toNat / 2 ^ k ≤ x.toNat := Nat.div_le_self _ _
  rw [u_of _ (by omega)]
  unfold u
  simp
theorem u_shr3 (x : UInt32) : u x / 8 = u (wshr 3 x) := u_shr 3 x
theorem u_shr10 (x : UInt32) : u x / 1024 = u (wshr 10 x) := u_shr 10 x
theorem wor_comm (x y : UInt32) : wor x y = wor y x := by unfold wor; exact UInt32.or_comm x y
end Go.Proofs.YtigpgcjbpoaclaaGreatDoor
namespace Go.Proofs.YtigpgcjbpoaclaaGreatDoor
open Go.RowKit
theorem same_any (u v : Value) (l m : List UInt8) (w : World) (h : Rd w u l) (h' : Rd w v m) :
    Calls Tryz.prog 12 #[u, v] w fun e w' => e = .returned (.bool (decide (l = m))) ∧ w = w' := by
  have c1 := run_string_rd w 22 9 5 u l h Tryz.underlying22 Tryz.underlying5 Tryz.underlying9
  have c2 := run_string_rd w 22 9 5 v m h' Tryz.underlying22 Tryz.underlying5 Tryz.underlying9
  go_enter Tryz.func12, Tryz.ntmps12
  go_wp2
  go_ret
  exact ⟨by simp [Bool.beq_eq_decide_eq], rfl⟩
theorem Tryz.info5 : (Tryz.prog.info? 5).map (fun i => (i.zero, i.size, i.bytes)) = some (some (.int .u8 0), 1, 1) := by kernel_rfl
theorem u8 : U8 Tryz.prog 22 5 := U8.mk' Tryz.underlying22 Tryz.info5
def nextRoot (n x : Nat) : Nat := (2 * x + n / (x * x)) / 3
def croot : Nat → Nat → Nat → Nat
  | 0, _, x => x
  | f + 1, n, x => if x ≤ nextRoot n x then x else croot f n (nextRoot n x)
def croots (n : Nat) : Nat := croot 2097152 n 2097152
theorem croot_stop (f n x : Nat) (h : x ≤ nextRoot n x) : croot f n x = x := by
  cases f with
  | zero => rfl
  | succ f => simp [croot, h]
theorem croot_go (f n x : Nat) (hf : x ≤ f) (h : ¬ x ≤ nextRoot n x) : ∃ g, nextRoot n x ≤ g ∧ croot g n (nextRoot n x) = croot f n x := by
  cases f with
  | zero => omega
  | succ f => exact ⟨f, by omega, by simp [croot, h]⟩
theorem nextRoot_pos (n x : Nat) (h0 : 1 ≤ n) (hx : 1 ≤ x) : 1 ≤ nextRoot n x := by
  unfold nextRoot
  by_cases h : x = 1
  · subst h
    simp
    omega
  · generalize n / (x * x) = d
    omega
theorem croot_range : ∀ (f n x : Nat), 1 ≤ n → 1 ≤ x → 1 ≤ croot f n x ∧ croot f n x ≤ x
  | 0, n, x, _, h => ⟨h, Nat.le_refl _⟩
  | f + 1, n, x, h0, h => by
    unfold croot
    split
    · exact ⟨h, Nat.le_refl _⟩
    · have := croot_range f n (nextRoot n x) h0 (nextRoot_pos n x h0 h)
      omega
def rootN (p : Nat) : Nat := p * 18014398509481984
def restN (p : Nat) : Nat := rootN p - croots (rootN p) * croots (rootN p) * croots (rootN p)
def bitsN (p : Nat) : Nat := croots (rootN p) * 16384 + restN p * 16384 / (3 * croots (rootN p) * croots (rootN p))
def rootW (p : Nat) : UInt32 := UInt32.ofNat (bitsN p)
def fits (p : Nat) : Bool := decide (croots (rootN p) * croots (rootN p) * croots (rootN p) ≤ rootN p) && decide (restN p < 281474976710656)
theorem fits_all : ∀ p : Fin 312, p.val = 0 ∨ fits p.val = true := by decide +kernel
def mark : Nat → Nat → Nat → List Bool → List Bool
  | 0, _, _, D => D
  | f + 1, p, n, D => if n < 312 then mark f p (n + p) (D.set n true) else D
theorem mark_end (f p n : Nat) (D : List Bool) (h : ¬ n < 312) : mark f p n D = D := by
  cases f with
  | zero => rfl
  | succ f => simp [mark, h]
theorem mark_go (f p n : Nat) (D : List Bool) (h : n < 312) (hp : 1 ≤ p) (hf : 312 ≤ f + n) : ∃ g, 312 ≤ g + (n + p) ∧ mark g p (n + p) (D.set n true) = mark f p n D := by
  cases f with
  | zero => omega
  | succ f => exact ⟨f, by omega, by simp [mark, h]⟩
theorem mark_length : ∀ (f p n : Nat) (D : List Bool), (mark f p n D).length = D.length
  | 0, _, _, _ => rfl
  | f + 1, p, n, D => by
    unfold mark
    split
    · rw [mark_length f]; simp
    · rfl
structure Sieve where
  D : List Bool
  ps : List Nat
def sieveStep (p : Nat) (s : Sieve) : Sieve := if s.D.getD p false then s else ⟨mark 312 p (p * p) s.D, s.ps ++ [p]⟩
def sieve : Nat → Sieve
  | 0 => ⟨List.replicate 312 false, []⟩
  | p + 1 => if p < 2 then sieve p else sieveStep p (sieve p)
theorem sieve_length : ∀ p, (sieve p).D.length = 312
  | 0 => List.length_replicate
  | p + 1 => by
    unfold sieve
    split
    · exact sieve_length p
    · unfold sieveStep
      split
      · exact sieve_length p
      · rw [mark_length]; exact sieve_length p
def primeAt (i : Nat) : Nat := (sieve 312).ps.getD i 0
theorem primes_64 : (sieve 312).ps.length = 64 := by decide +kernel
theorem keys_eq : (List.range 64).map (fun i => rootW (primeAt i)) = keyL := by decide +kernel
theorem primeAt_small : ∀ i : Fin 64, 1 ≤ primeAt i.val ∧ primeAt i.val < 312 := by decide +kernel
theorem sieve_next : ∀ p : Fin 312, (sieve p.val).D.getD p.val false = true ∨ p.val < 2 ∨ (primeAt (sieve p.val).ps.length = p.val ∧ (sieve p.val).ps.length < 64) := by decide +kernel
theorem sieve_skip (p : Nat) (h : (sieve p).D.getD p false = true) (h2 : 2 ≤ p) : sieve (p + 1) = sieve p := by
  rw [sieve, if_neg (by omega), sieveStep, if_pos h]
theorem sieve_take (p : Nat) (h : (sieve p).D.getD p false = false) (h2 : 2 ≤ p) : sieve (p + 1) = ⟨mark 312 p (p * p) (sieve p).D, (sieve p).ps ++ [p]⟩ := by
  rw [sieve, if_neg (by omega), sieveStep, if_neg (by rw [h]; decide)]
theorem step_append_ow {P : Program} {t e : TypeId} (U : U8 P t e) {ops : Array Oper} {o : Oper} {a : Act} {w : World} {K : Act → World → Prop} {Q : Exit → Act → World → Prop} {E : Prop}
    (hg : o.guard = none) (s x : Operand) (hop : o.op = Op.call { callee := Callee.builtin Builtin.append, args := #[s, x], argTypes := #[t, t] })
    (B : Nat) (v : Value) (l : List UInt8) (hs : a.eval s = v) (hown : Ow e w B v l) (ad : Addr) (n c : Nat) (m : List UInt8) (hx : a.eval x = .slice (some ad) n c) (hu : Rd w (.slice (some ad) n c) m)
    (hlen : l.length + m.length ≤ 140737488355328) (hbase : B ≤ w.heap.size)
    (hK : ∀ v' w', Ow e w' B v' (l ++ m) → w.grownBy w' v.ownBlock → K (a.put o.dst v') w') :
    if Region.wanted o (yielded ops a.tmps) = true then Oper.wp P o a w K Q else E := by
  have hw : Region.wanted o (yielded ops a.tmps) = true := by simp [Region.wanted, hg]
  rw [if_pos hw]
  obtain ⟨i, hi, hz, hsize, hby⟩ := U.hi
  obtain ⟨hn, _, _⟩ := hu.len
  subst hn
  obtain ⟨a', c', e', h1, h2, h3, h4⟩ := hu
  simp only [Value.slice.injEq] at e'
  obtain ⟨rfl, _, rfl⟩ := e'
  refine wp_append_own w s x t hop B e i (.int .u8 0) 1 1 U.ht hi hz hsize hby rfl (by decide) v l.length (Lib.byteCells l) hs hown ad m.length c (Lib.byteCells m) hx (by rw [byteCells_length]; omega) (fun j z hj => ?_) (fun z hz => ?_) (by unfold maxLen; omega) (by omega) hbase
    (fun v' w' h1 h2 _ => hK v' w' (by unfold Ow; rw [List.length_append, byteCells_append]; exact h1) h2)
  · have hjl : j < m.length := by
      have := (List.getElem?_eq_some_iff.1 hj).1
      rwa [byteCells_length] at this
    rw [byteCells_get m j hjl] at hj
    cases hj
    exact h4 ad rfl j hjl
  · obtain ⟨b, _, rfl⟩ := List.mem_map.1 hz
    rfl
end Go.Proofs.YtigpgcjbpoaclaaGreatDoor
namespace Go.Proofs.YtigpgcjbpoaclaaGreatDoor
def numOk (n w : Int) : Prop := 1 ≤ w ∧ w ≤ 7 ∧ 0 ≤ n ∧ n < 256 ^ w.toNat
instance (n w : Int) : Decidable (numOk n w) := by unfold numOk; infer_instance
def numE (n w : Int) : Int := if numOk n w then 0 else 1
def numB (n w : Int) : List UInt8 := if numOk n w then be w.toNat n.toNat else []
def lenE (n : Int) : Int := if n < 0 ∨ 1073741823 < n then 1 else 0
def lenBytes (n : Nat) : List UInt8 := if n < 64 then be 1 n else if n < 16384 then be 2 (n + 16384) else be 4 (n + 2147483648)
def lenB (n : Int) : List UInt8 := if lenE n = 0 then lenBytes n.toNat else []
def widthOf (c : Nat) : Nat := if c < 64 then 1 else if c < 128 then 2 else 4
def lenOf (w : Nat) (l : List UInt8) : Int := if w = 1 then val l else if w = 2 then val l - 16384 else val l - 2147483648
def tlE (b : List UInt8) (at' : Int) : Int :=
  if at' < 0 ∨ b.length < at' then 1 else if (b.length : Int) = at' then 3 else
  let c := (b.getD at'.toNat 0).toNat
  if 192 ≤ c then 2 else if b.length - at' < widthOf c then 3 else
  let n := lenOf (widthOf c) ((b.drop at'.toNat).take (widthOf c))
  if (widthOf c = 2 ∧ n < 64) ∨ (widthOf c = 4 ∧ n < 16384) then 2 else 0
def tlN (b : List UInt8) (at' : Int) : Int := if tlE b at' = 0 then let c := (b.getD at'.toNat 0).toNat; lenOf (widthOf c) ((b.drop at'.toNat).take (widthOf c)) else 0
def tlP (b : List UInt8) (at' : Int) : Int := if tlE b at' = 0 then at' + widthOf (b.getD at'.toNat 0).toNat else 0
def rowE (x : List UInt8) : Int := lenE x.length
def rowB (x : List UInt8) : List UInt8 := if rowE x = 0 then lenBytes x.length ++ x else []
theorem num_yes {n w : Int} (h : numOk n w) : numE n w = 0 ∧ numB n w = be w.toNat n.toNat := by simp [numE, numB, h]
theorem num_no {n w : Int} (h : ¬ numOk n w) : numE n w = 1 ∧ numB n w = [] := by simp [numE, numB, h]
end Go.Proofs.YtigpgcjbpoaclaaGreatDoor
namespace Go.Proofs.YtigpgcjbpoaclaaGreatDoor
open Go.RowKit
def One (T : TypeId) (w : World) (p : Nat) (v : Value) : Prop := w.heap[p]? = some (.cells #[v] T (0, 0))
theorem One.new (T : TypeId) (w : World) (v : Value) : One T (w.alloc (.cells #[v] T)) w.heap.size v := heap_alloc_new w _
theorem One.lt {T : TypeId} {w : World} {p : Nat} {v : Value} (h : One T w p v) : p < w.heap.size := (Array.getElem?_eq_some_iff.1 h).1
theorem One.cell {T : TypeId} {w : World} {p : Nat} {v : Value} (h : One T w p v) : w.cell? ⟨p, 0, none⟩ = some v := by
  rw [cell_of_row w p 0 _ T _ h]; rfl
theorem One.frozen {T : TypeId} {w : World} {p : Nat} {v : Value} (h : One T w p v) : w.frozen? ⟨p, 0, none⟩ = false := by
  have h' := h
  unfold One at h'
  simp [World.frozen?, h']
theorem One.kp {T : TypeId} {w w' : World} {p : Nat} {v : Value} (h : One T w p v) (k : Kp w w') : One T w' p v := (k.block p h.lt).trans h
theorem One.set {T : TypeId} {w : World} {p : Nat} {v : Value} (h : One T w p v) (u : Value) : One T (w.setCell ⟨p, 0, none⟩ u) p u := by
  have h' := h
  unfold One at h' ⊢
  obtain ⟨hlt, heq⟩ := Array.getElem?_eq_some_iff.1 h'
  simp [World.setCell, hlt, Array.getElem_modify, heq]
end Go.Proofs.YtigpgcjbpoaclaaGreatDoor
namespace Go.Proofs.YtigpgcjbpoaclaaGreatDoor
open Go.RowKit Go.ChangeShapes Go.WideShapes Go.Deep
section
variable {H : Type} {enc : TypeId × Value → H} {P : Program} {w : World} {base : Nat} {spare : Nat → Bool} {held : Bool}
theorem byte_wf {n : Int} (h : (Lit.int .u8 n).wf = true) : 0 ≤ n ∧ n < 256 := by
  have := bounds_u8 h
  omega
theorem Rd.of_cells {t e : TypeId} {fuel : Nat} {cs : List Value} {x : DataW H × List MemPlace} (ht : P.underlying t = some (.slice e)) (he : P.underlying e = some (.int .u8)) (hc : P.cellsOf e = 1)
    (h : DataW.trod enc P w base spare held fuel t cs = some x) : ∃ v l, cs = [v] ∧ Rd w v l := by
  rcases open_ints ht he hc h with ⟨rfl, _⟩ | ⟨a, len, cap, zs, rfl, _, hl, hm, hz, _, hcell, hwz⟩
  · exact ⟨_, [], rfl, none, 0, rfl, Nat.le_refl _, Nat.zero_le _, fun _ => rfl, fun y hy => by cases hy⟩
  · have hzl : len ≤ zs.length := by rw [hz]; split <;> omega
    have hlen : ((zs.take len).map fun z => UInt8.ofNat z.toNat).length = len := by simp; omega
    refine ⟨_, (zs.take len).map fun z => UInt8.ofNat z.toNat, rfl, some a, cap, by rw [hlen], by omega, hm, fun h => (by cases h), fun y hy i hi => ?_⟩
    cases hy
    rw [hlen] at hi
    rw [hcell i (by omega)]
    have hzi : i < zs.length := by omega
    have hw := byte_wf (hwz (zs[i]'hzi) (List.getElem_mem hzi))
    simp [List.getD_eq_getElem?_getD, List.getElem?_eq_getElem hzi]
    omega
theorem Rd.of_one {t e : TypeId} {fuel : Nat} {v : Value} {x : DataW H × List MemPlace} (ht : P.underlying t = some (.slice e)) (he : P.underlying e = some (.int .u8)) (hc : P.cellsOf e = 1)
    (h : DataW.trod enc P w base spare held fuel t [v] = some x) : ∃ l, Rd w v l := by
  obtain ⟨v', l, e, h⟩ := Rd.of_cells ht he hc h
  cases e
  exact ⟨l, h⟩
theorem Rd.of_arg {t e : TypeId} {a : Option Addr} {n c : Nat} {d : DataW H} {p : List MemPlace} (ht : P.underlying t = some (.slice e)) (he : P.underlying e = some (.int .u8)) (hc : P.cellsOf e = 1)
    (h : DataW.Trod enc P w base spare held t (.slice a n c) d p) : ∃ l, Rd w (.slice a n c) l := by
  obtain ⟨fuel, h⟩ := h
  exact Rd.of_one ht he hc h
end
end Go.Proofs.YtigpgcjbpoaclaaGreatDoor
namespace Go.Proofs.YtigpgcjbpoaclaaGreatDoor
theorem row_ok {x : List UInt8} (h : x.length ≤ 1073741823) : rowE x = 0 ∧ rowB x = lenBytes x.length ++ x := by
  have e : rowE x = 0 := if_neg (by omega)
  simp [rowB, e]
theorem row_len {x : List UInt8} (h : x.length ≤ 1073741823) : (rowB x).length = (lenBytes x.length).length + x.length := by rw [(row_ok h).2, List.length_append]
end Go.Proofs.YtigpgcjbpoaclaaGreatDoor
namespace Go.Proofs.YtigpgcjbpoaclaaGreatDoor
open Go.RowKit
def Newer (B : Nat) (v : Value) : Prop := ∀ g, v.ownBlock = some g → B ≤ g
theorem Newer.nil (B n c : Nat) : Newer B (.slice none n c) := fun g h => by cases h
theorem Newer.mono {B C : Nat} {v : Value} (h : Newer B v) (hc : C ≤ B) : Newer C v := fun g hg => Nat.le_trans hc (h g hg)
theorem Newer.kp {w w' : World} {v : Value} (h : Newer w'.heap.size v) (k : Kp w w') : Newer w.heap.size v := h.mono k.size
end Go.Proofs.YtigpgcjbpoaclaaGreatDoor

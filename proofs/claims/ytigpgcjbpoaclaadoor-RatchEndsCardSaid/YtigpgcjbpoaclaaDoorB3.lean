import Derived.Test.YtigpgcjbpoaclaaDoorB2
import Derived.Deep.QuietTactic
import Derived.BigQuiet
import Derived.OpenShut
import Derived.SizedLaws
set_option linter.unusedVariables false
set_option linter.unusedSimpArgs false
namespace Go.Proofs.YtigpgcjbpoaclaaDoor
def wadd (x y : UInt32) : UInt32 := x + y
def wxor (x y : UInt32) : UInt32 := x ^^^ y
def wand (x y : UInt32) : UInt32 := x &&& y
def wor (x y : UInt32) : UInt32 := x ||| y
def wnot (x : UInt32) : UInt32 := wxor 0xffffffff x
def wshl (k : Nat) (x : UInt32) : UInt32 := UInt32.ofNat (x.toNat * 2 ^ k)
def wshr (k : Nat) (x : UInt32) : UInt32 := UInt32.ofNat (x.toNat / 2 ^ k)
def rotr (k : Nat) (x : UInt32) : UInt32 := wor (wshr k x) (wshl (32 - k) x)
def big (i j k : Nat) (x : UInt32) : UInt32 := wxor (wxor (rotr i x) (rotr j x)) (rotr k x)
def small (i j k : Nat) (x : UInt32) : UInt32 := wxor (wxor (rotr i x) (rotr j x)) (wshr k x)
def wordOf (a b c d : UInt8) : UInt32 := UInt32.ofNat (16777216 * a.toNat + 65536 * b.toNat + 256 * c.toNat + d.toNat)
def nextWord (l : List UInt8) (w : List UInt32) (t : Nat) : UInt32 :=
  if t < 16 then wordOf (l.getD (4 * t) 0) (l.getD (4 * t + 1) 0) (l.getD (4 * t + 2) 0) (l.getD (4 * t + 3) 0)
  else wadd (wadd (wadd (small 17 19 10 (w.getD (t - 2) 0)) (w.getD (t - 7) 0)) (small 7 18 3 (w.getD (t - 15) 0))) (w.getD (t - 16) 0)
def sched (l : List UInt8) : Nat → List UInt32
  | 0 => []
  | t + 1 => sched l t ++ [nextWord l (sched l t) t]
structure S8 where
  a : UInt32
  b : UInt32
  c : UInt32
  d : UInt32
  e : UInt32
  f : UInt32
  g : UInt32
  h : UInt32
deriving DecidableEq
def S8.list (s : S8) : List UInt32 := [s.a, s.b, s.c, s.d, s.e, s.f, s.g, s.h]
def t1 (s : S8) (k w : UInt32) : UInt32 := wadd (wadd (wadd (wadd s.h (big 6 11 25 s.e)) (wxor (wand s.e s.f) (wand (wnot s.e) s.g))) k) w
def t2 (s : S8) : UInt32 := wadd (big 2 13 22 s.a) (wxor (wxor (wand s.a s.b) (wand s.a s.c)) (wand s.b s.c))
def rnd (s : S8) (k w : UInt32) : S8 := ⟨wadd (t1 s k w) (t2 s), s.a, s.b, s.c, wadd s.d (t1 s k w), s.e, s.f, s.g⟩
def rnds (k w : List UInt32) (s : S8) : Nat → S8
  | 0 => s
  | t + 1 => rnd (rnds k w s t) (k.getD t 0) (w.getD t 0)
def S8.add (s r : S8) : S8 := ⟨wadd s.a r.a, wadd s.b r.b, wadd s.c r.c, wadd s.d r.d, wadd s.e r.e, wadd s.f r.f, wadd s.g r.g, wadd s.h r.h⟩
def comp (k : List UInt32) (s : S8) (l : List UInt8) : S8 := s.add (rnds k (sched l 64) s 64)
def startS : S8 := ⟨0x6a09e667, 0xbb67ae85, 0x3c6ef372, 0xa54ff53a, 0x510e527f, 0x9b05688c, 0x1f83d9ab, 0x5be0cd19⟩
def keyL : List UInt32 := [
    0x428a2f98, 0x71374491, 0xb5c0fbcf, 0xe9b5dba5, 0x3956c25b, 0x59f111f1, 0x923f82a4, 0xab1c5ed5,
    0xd807aa98, 0x12835b01, 0x243185be, 0x550c7dc3, 0x72be5d74, 0x80deb1fe, 0x9bdc06a7, 0xc19bf174,
    0xe49b69c1, 0xefbe4786, 0x0fc19dc6, 0x240ca1cc, 0x2de92c6f, 0x4a7484aa, 0x5cb0a9dc, 0x76f988da,
    0x983e5152, 0xa831c66d, 0xb00327c8, 0xbf597fc7, 0xc6e00bf3, 0xd5a79147, 0x06ca6351, 0x14292967,
    0x27b70a85, 0x2e1b2138, 0x4d2c6dfc, 0x53380d13, 0x650a7354, 0x766a0abb, 0x81c2c92e, 0x92722c85,
    0xa2bfe8a1, 0xa81a664b, 0xc24b8b70, 0xc76c51a3, 0xd192e819, 0xd6990624, 0xf40e3585, 0x106aa070,
    0x19a4c116, 0x1e376c08, 0x2748774c, 0x34b0bcb5, 0x391c0cb3, 0x4ed8aa4a, 0x5b9cca4f, 0x682e6ff3,
    0x748f82ee, 0x78a5636f, 0x84c87814, 0x8cc70208, 0x90befffa, 0xa4506ceb, 0xbef9a3f7, 0xc67178f2]
def fill (n : Nat) : Nat := (119 - n % 64) % 64
def pad (n : Nat) : List UInt8 := 128 :: List.replicate (fill n) 0 ++ be 8 (8 * n)
def blocks (s : S8) (l : List UInt8) : Nat → S8
  | 0 => s
  | k + 1 => comp keyL (blocks s l k) ((l.drop (64 * k)).take 64)
def padded (l : List UInt8) : List UInt8 := l ++ pad l.length
def bytes4 (x : UInt32) : List UInt8 := [UInt8.ofNat (x.toNat / 16777216), UInt8.ofNat (x.toNat / 65536), UInt8.ofNat (x.toNat / 256), UInt8.ofNat x.toNat]
def S8.bytes (s : S8) : List UInt8 := s.list.flatMap bytes4
def digest (l : List UInt8) : List UInt8 := (blocks startS (padded l) ((padded l).length / 64)).bytes
def u (x : UInt32) : Int := (x.toNat : Int)
theorem u_nonneg (x : UInt32) : 0 ≤ u x := Int.natCast_nonneg _
theorem u_lt (x : UInt32) : u x < 4294967296 := by unfold u; have := x.toNat_lt; omega
theorem u_of (n : Nat) (h : n < 4294967296) : u (UInt32.ofNat n) = n := by
  unfold u
  rw [UInt32.toNat_ofNat']
  congr 1
  exact Nat.mod_eq_of_lt h
theorem u_ofNat (n : Nat) : u (UInt32.ofNat n) = (n : Int) % 4294967296 := by
  unfold u
  rw [UInt32.toNat_ofNat']
  simp
theorem u_wrap (x : UInt32) : IntKind.u32.wrap (u x) = u x := by rw [IntKind.wrap_u32]; have := u_nonneg x; have := u_lt x; omega
theorem u_add (x y : UInt32) : IntKind.u32.wrap (u x + u y) = u (wadd x y) := by
  rw [IntKind.wrap_u32]
  unfold u wadd
  rw [UInt32.toNat_add]
  simp
theorem u32_bv (x : UInt32) : BitVec.ofInt IntKind.u32.bits (u x) = x.toBitVec := by
  unfold u
  rw [BitVec.ofInt_natCast]
  apply BitVec.eq_of_toNat_eq
  simp [IntKind.bits]
theorem u_xor (x y : UInt32) : bits .xor .u32 (u x) (u y) = u (wxor x y) := by
  simp only [bits, u32_bv]
  change IntKind.u32.wrap (u (x ^^^ y)) = _
  exact u_wrap _
theorem u_and (x y : UInt32) : bits .and .u32 (u x) (u y) = u (wand x y) := by
  simp only [bits, u32_bv]
  change IntKind.u32.wrap (u (x &&& y)) = _
  exact u_wrap _
theorem u_or (x y : UInt32) : bits .or .u32 (u x) (u y) = u (wor x y) := by
  simp only [bits, u32_bv]
  change IntKind.u32.wrap (u (x ||| y)) = _
  exact u_wrap _
theorem u_shl (k : Nat) (x : UInt32) : IntKind.u32.wrap (u x * 2 ^ k) = u (wshl k x) := by
  rw [IntKind.wrap_u32]
  unfold wshl
  rw [u_ofNat]
  unfold u
  simp
theorem u_shr (k : Nat) (x : UInt32) : u x / 2 ^ k = u (wshr k x) := by
  unfold wshr
  have h := x.toNat_lt
  have h2 : x.toNat / 2 ^ k ≤ x.toNat := Nat.div_le_self _ _
  rw [u_of _ (by omega)]
  unfold u
  simp
theorem u_shr3 (x : UInt32) : u x / 8 = u (wshr 3 x) := u_shr 3 x
theorem u_shr10 (x : UInt32) : u x / 1024 = u (wshr 10 x) := u_shr 10 x
theorem wor_comm (x y : UInt32) : wor x y = wor y x := by unfold wor; exact UInt32.or_comm x y
end Go.Proofs.YtigpgcjbpoaclaaDoor
namespace Go.Proofs.YtigpgcjbpoaclaaDoor
open Go.RowKit
def nextRoot (n x : Nat) : Nat := (2 * x + n / (x * x)) / 3
def croot : Nat → Nat → Nat → Nat
  | 0, _, x => x
  | f + 1, n, x => if x ≤ nextRoot n x then x else croot f n (nextRoot n x)
def croots (n : Nat) : Nat := croot 2097152 n 2097152
theorem croot_stop (f n x : Nat) (h : x ≤ nextRoot n x) : croot f n x = x := by
  cases f with
  | zero => rfl
  | succ f => simp [croot, h]
theorem croot_go (f n x : Nat) (hf : x ≤ f) (h : ¬ x ≤ nextRoot n x) : ∃ g, nextRoot n x ≤ g ∧ croot g n (nextRoot n x) = croot f n x := by
  cases f with
  | zero => omega
  | succ f => exact ⟨f, by omega, by simp [croot, h]⟩
theorem nextRoot_pos (n x : Nat) (h0 : 1 ≤ n) (hx : 1 ≤ x) : 1 ≤ nextRoot n x := by
  unfold nextRoot
  by_cases h : x = 1
  · subst h
    simp
    omega
  · generalize n / (x * x) = d
    omega
theorem croot_range : ∀ (f n x : Nat), 1 ≤ n → 1 ≤ x → 1 ≤ croot f n x ∧ croot f n x ≤ x
  | 0, n, x, _, h => ⟨h, Nat.le_refl _⟩
  | f + 1, n, x, h0, h => by
    unfold croot
    split
    · exact ⟨h, Nat.le_refl _⟩
    · have := croot_range f n (nextRoot n x) h0 (nextRoot_pos n x h0 h)
      omega
def rootN (p : Nat) : Nat := p * 18014398509481984
def restN (p : Nat) : Nat := rootN p - croots (rootN p) * croots (rootN p) * croots (rootN p)
def bitsN (p : Nat) : Nat := croots (rootN p) * 16384 + restN p * 16384 / (3 * croots (rootN p) * croots (rootN p))
def rootW (p : Nat) : UInt32 := UInt32.ofNat (bitsN p)
def fits (p : Nat) : Bool := decide (croots (rootN p) * croots (rootN p) * croots (rootN p) ≤ rootN p) && decide (restN p < 281474976710656)
theorem fits_all : ∀ p : Fin 312, p.val = 0 ∨ fits p.val = true := by decide +kernel
def mark : Nat → Nat → Nat → List Bool → List Bool
  | 0, _, _, D => D
  | f + 1, p, n, D => if n < 312 then mark f p (n + p) (D.set n true) else D
theorem mark_end (f p n : Nat) (D : List Bool) (h : ¬ n < 312) : mark f p n D = D := by
  cases f with
  | zero => rfl
  | succ f => simp [mark, h]
theorem mark_go (f p n : Nat) (D : List Bool) (h : n < 312) (hp : 1 ≤ p) (hf : 312 ≤ f + n) : ∃ g, 312 ≤ g + (n + p) ∧ mark g p (n + p) (D.set n true) = mark f p n D := by
  cases f with
  | zero => omega
  | succ f => exact ⟨f, by omega, by simp [mark, h]⟩
theorem mark_length : ∀ (f p n : Nat) (D : List Bool), (mark f p n D).length = D.length
  | 0, _, _, _ => rfl
  | f + 1, p, n, D => by
    unfold mark
    split
    · rw [mark_length f]; simp
    · rfl
structure Sieve where
  D : List Bool
  ps : List Nat
def sieveStep (p : Nat) (s : Sieve) : Sieve := if s.D.getD p false then s else ⟨mark 312 p (p * p) s.D, s.ps ++ [p]⟩
def sieve : Nat → Sieve
  | 0 => ⟨List.replicate 312 false, []⟩
  | p + 1 => if p < 2 then sieve p else sieveStep p (sieve p)
theorem sieve_length : ∀ p, (sieve p).D.length = 312
  | 0 => List.length_replicate
  | p + 1 => by
    unfold sieve
    split
    · exact sieve_length p
    · unfold sieveStep
      split
      · exact sieve_length p
      · rw [mark_length]; exact sieve_length p
def primeAt (i : Nat) : Nat := (sieve 312).ps.getD i 0
theorem primes_64 : (sieve 312).ps.length = 64 := by decide +kernel
theorem keys_eq : (List.range 64).map (fun i => rootW (primeAt i)) = keyL := by decide +kernel
theorem primeAt_small : ∀ i : Fin 64, 1 ≤ primeAt i.val ∧ primeAt i.val < 312 := by decide +kernel
theorem sieve_next : ∀ p : Fin 312, (sieve p.val).D.getD p.val false = true ∨ p.val < 2 ∨ (primeAt (sieve p.val).ps.length = p.val ∧ (sieve p.val).ps.length < 64) := by decide +kernel
theorem sieve_skip (p : Nat) (h : (sieve p).D.getD p false = true) (h2 : 2 ≤ p) : sieve (p + 1) = sieve p := by
  rw [sieve, if_neg (by omega), sieveStep, if_pos h]
theorem sieve_take (p : Nat) (h : (sieve p).D.getD p false = false) (h2 : 2 ≤ p) : sieve (p + 1) = ⟨mark 312 p (p * p) (sieve p).D, (sieve p).ps ++ [p]⟩ := by
  rw [sieve, if_neg (by omega), sieveStep, if_neg (by rw [h]; decide)]
end Go.Proofs.YtigpgcjbpoaclaaDoor
namespace Go.Proofs.YtigpgcjbpoaclaaDoor
open Go.RowKit Go.ChangeShapes Go.WideShapes Go.Deep
def Vals (w : World) (v : Value) (us : List Value) : Prop :=
  ∃ a c, v = .slice a us.length c ∧ us.length ≤ c ∧ c ≤ maxLen ∧ (a = none → c = 0) ∧
    ∀ x, a = some x → ∀ i, (h : i < us.length) → w.cell? (x.add i) = some (us[i]'h)
theorem Vals.kp {w w' : World} {v : Value} {us : List Value} (h : Vals w v us) (k : Kp w w') : Vals w' v us := by
  obtain ⟨a, c, rfl, h1, h2, h3, h4⟩ := h
  exact ⟨a, c, rfl, h1, h2, h3, fun x hx i hi => k.cell (h4 x hx i hi)⟩
theorem Vals.shape {w : World} {v : Value} {us : List Value} (h : Vals w v us) : ∃ a c, v = .slice a us.length c ∧ us.length ≤ c ∧ c ≤ maxLen := by
  obtain ⟨a, c, e, h1, h2, _⟩ := h
  exact ⟨a, c, e, h1, h2⟩
theorem Vals.at {w : World} {a : Option Addr} {n c : Nat} {us : List Value} (h : Vals w (.slice a n c) us) (k : Nat) (hk : k < n) :
    ∃ b off, a = some ⟨b, off, none⟩ ∧ b < w.heap.size ∧ ∀ i, i < n → w.cell? ⟨b, off + i, none⟩ = some (us.getD i (.bool false)) := by
  obtain ⟨a', c', e, h1, h2, h3, h4⟩ := h
  simp only [Value.slice.injEq] at e
  obtain ⟨rfl, rfl, rfl⟩ := e
  cases a with
  | none => have := h3 rfl; omega
  | some x =>
    obtain ⟨b, off, spot⟩ := x
    have h0 := h4 _ rfl 0 (by omega)
    have hs : spot = none := by simpa [Addr.add] using World.cell?_spot h0
    subst hs
    refine ⟨b, off, rfl, World.block_lt_of_cell? w _ h0, fun i hi => ?_⟩
    have := h4 _ rfl i hi
    rw [List.getD_eq_getElem?_getD, List.getElem?_eq_getElem hi, Option.getD_some, ← this]
    congr 1
    unfold Addr.add
    split <;> simp_all
theorem Vals.own {w : World} {B : Nat} {e : TypeId} {v : Value} {us : List Value} (h : w.ownsRow B e 1 v us.length us) : Vals w v us := by
  rcases h.2 with ⟨rfl, h0⟩ | ⟨g, cap, cur, rfl, hb, hg, hn, hm, hs, ht⟩
  · exact ⟨none, 0, by rw [h0], by omega, Nat.zero_le _, fun _ => rfl, fun x hx => by cases hx⟩
  · refine ⟨_, cap, rfl, hn, hm, fun h => (by cases h), fun x hx i hi => ?_⟩
    cases hx
    have e : (⟨g, 0, none⟩ : Addr).add i = ⟨g, i, none⟩ := by unfold Addr.add; split <;> simp_all
    rw [e, cell_of_row w g i _ _ _ hg]
    have hx : us[i]? = some us[i] := List.getElem?_eq_getElem hi
    rw [← hx, ← ht, List.getElem?_take_of_lt (by omega)]
    simp
def RL (w : World) (v : Value) (ls : List (List UInt8)) : Prop := ∃ us, Vals w v us ∧ us.length = ls.length ∧ ∀ i, i < ls.length → Rd w (us.getD i (.bool false)) (ls.getD i [])
theorem RL.kp {w w' : World} {v : Value} {ls : List (List UInt8)} (h : RL w v ls) (k : Kp w w') : RL w' v ls := by
  obtain ⟨us, h1, h2, h3⟩ := h
  exact ⟨us, h1.kp k, h2, fun i hi => (h3 i hi).kp k⟩
theorem RL.shape {w : World} {v : Value} {ls : List (List UInt8)} (h : RL w v ls) : ∃ a c, v = .slice a ls.length c ∧ ls.length ≤ c ∧ c ≤ maxLen := by
  obtain ⟨us, h1, h2, h3⟩ := h
  rw [← h2]
  exact h1.shape
theorem RL.at {w : World} {a : Option Addr} {n c : Nat} {ls : List (List UInt8)} (h : RL w (.slice a n c) ls) (k : Nat) (hk : k < n) :
    ∃ b off, a = some ⟨b, off, none⟩ ∧ b < w.heap.size ∧ ∀ i, i < n → ∃ u, w.cell? ⟨b, off + i, none⟩ = some u ∧ Rd w u (ls.getD i []) := by
  obtain ⟨us, h1, h2, h3⟩ := h
  obtain ⟨b, off, ha, hb, hc⟩ := h1.at k hk
  have hn : n = us.length := by
    obtain ⟨a', c', e, _⟩ := h1.shape
    simp only [Value.slice.injEq] at e
    exact e.2.1
  exact ⟨b, off, ha, hb, fun i hi => ⟨_, hc i hi, h3 i (by omega)⟩⟩
theorem RL.cons {w : World} {B : Nat} {e : TypeId} {v u : Value} {l : List UInt8} {us : List Value} {ls : List (List UInt8)} (h : w.ownsRow B e 1 v (u :: us).length (u :: us)) (hu : Rd w u l) (hl : us.length = ls.length)
    (hr : ∀ i, i < ls.length → Rd w (us.getD i (.bool false)) (ls.getD i [])) : RL w v (l :: ls) := by
  refine ⟨u :: us, Vals.own h, by simp [hl], fun i hi => ?_⟩
  cases i with
  | zero => simpa using hu
  | succ i => simpa using hr i (by simpa using hi)
section
variable {H : Type} {enc : TypeId × Value → H} {P : Program} {w : World} {base : Nat} {spare : Nat → Bool} {held : Bool}
end
end Go.Proofs.YtigpgcjbpoaclaaDoor
namespace Go.Proofs.YtigpgcjbpoaclaaDoor
open Go.RowKit
structure S1 (P : Program) (t e : TypeId) : Prop where
  ht : P.underlying t = some (.slice e)
  hi : ∃ i z, P.info? e = some i ∧ i.zero = some z ∧ i.size = 1 ∧ i.bytes ≤ 64 ∧ z.cells.size = 1
theorem S1.mk' {P : Program} {t e : TypeId} {z : Value} {b : Nat} (ht : P.underlying t = some (.slice e)) (h : (P.info? e).map (fun i => (i.zero, i.size, i.bytes)) = some (some z, 1, b)) (hb : b ≤ 64) (hz : z.cells.size = 1) : S1 P t e := by
  obtain ⟨i, hi, hz0, hz1, hz2⟩ := info_parts h
  exact ⟨ht, i, z, hi, hz0, hz1, by omega, hz⟩
theorem wpList_append_vals {P : Program} {w : World} {t e : TypeId} (S : S1 P t e) {ops : Array Oper} {rest : List Oper} {o : Oper} {a : Act} {Q : Exit → Act → World → Prop} (hgd : o.guard = none) (s x : Operand)
    (ho : o.op = .call { callee := .builtin .append, args := #[s, x], argTypes := #[t, t] })
    (B : Nat) (v : Value) (us : List Value) (hs : a.eval s = v) (hown : w.ownsRow B e 1 v us.length us) (u : Value) (ms : List Value) (hx : a.eval x = u) (hu : Vals w u ms) (h1 : ∀ z ∈ ms, z.oneCell' = true)
    (hlen : us.length + ms.length ≤ 1000000000000) (hbase : B ≤ w.heap.size)
    (h : ∀ v' w', w'.ownsRow B e 1 v' (us ++ ms).length (us ++ ms) → w.grownBy w' v.ownBlock → wpList P ops Q rest (a.put o.dst v') w') : wpList P ops Q (o :: rest) a w := by
  obtain ⟨i, z, hi, hz, hsize, hby, hzc⟩ := S.hi
  obtain ⟨ad, c, rfl, hc, hm, hnil, hcell⟩ := hu
  cases ad with
  | none =>
    have hc0 := hnil rfl
    have hm0 : ms = [] := List.eq_nil_of_length_eq_zero (by omega)
    subst hm0
    subst hc0
    refine wpList_append_own_none hgd s x t ho B e i 1 S.ht hi v us.length us hs hown hx ?_
    exact h v w (by simpa using hown) ⟨rfl, rfl, rfl, Nat.le_refl _, fun _ _ _ => rfl⟩
  | some ad =>
    refine wpList_append_own w hgd s x t ho B e i z 1 i.bytes S.ht hi hz hsize rfl hzc (by decide) v us.length us hs hown ad ms.length c ms hx (by omega) (fun j y hj => ?_) h1 (by unfold maxLen; omega) ?_ hbase
      (fun v' w' h1 h2 h3 => h v' w' (by rw [List.length_append]; exact h1) h2)
    · have hjl : j < ms.length := (List.getElem?_eq_some_iff.1 hj).1
      rw [List.getElem?_eq_getElem hjl] at hj
      cases hj
      exact hcell ad rfl j hjl
    · have := Nat.mul_le_mul hlen hby
      omega
theorem Rd.one {w : World} {v : Value} {l : List UInt8} (h : Rd w v l) : v.oneCell' = true := by
  obtain ⟨a, c, rfl, _⟩ := h.shape
  rfl
theorem own_lit1 (w : World) (e : TypeId) (u : Value) : (w.alloc (.cells #[u] e)).ownsRow w.heap.size e 1 (.slice (some ⟨w.heap.size, 0, none⟩) 1 1) [u].length [u] :=
  World.ownsRow_lit w #[u] 1 (Nat.le_refl _) (by unfold maxLen; omega) rfl
end Go.Proofs.YtigpgcjbpoaclaaDoor
namespace Go.Proofs.YtigpgcjbpoaclaaDoor
open Go.RowKit Go.ChangeShapes Go.WideShapes Go.Deep
section
variable {H : Type} {enc : TypeId × Value → H} {P : Program} {w : World} {base : Nat} {spare : Nat → Bool} {held : Bool}
theorem open_lay {t : TypeId} {fs : Array Field} {N : Nat} {v : Value} {d : DataW H} {p : List MemPlace} {r : Reach} {b0 : Nat} (hs : P.underlying t = some (.struct fs)) (hC : P.cellsOf t = N)
    (hv : Value.okWide P w r b0 t v) (h : DataW.Trod enc P w base spare held t v d p) :
    ∃ (cs : List Value) (xs : List (DataW H × List MemPlace)) (n : Nat), v = .agg cs.toArray ∧ cs.length = N ∧ d = .agg (xs.map (·.1)) ∧ xs.length = fs.size ∧
      ∀ (i : Nat) (f : Field), fs[i]? = some f → DataW.trod enc P w base spare held n f.type ((cs.drop f.offset).take (P.cellsOf f.type)) = xs[i]? := by
  obtain ⟨cs, rfl, hsz⟩ := okWide_struct hs hv
  obtain ⟨l⟩ := cs
  obtain ⟨fuel, hf⟩ := h
  obtain ⟨xs, n, _, hx, _, hlen, hg⟩ := DataW.trod_struct hs hf
  simp only [Prod.mk.injEq] at hx
  exact ⟨l, xs, n, rfl, hsz.trans hC, hx.1, hlen, hg⟩
end
end Go.Proofs.YtigpgcjbpoaclaaDoor

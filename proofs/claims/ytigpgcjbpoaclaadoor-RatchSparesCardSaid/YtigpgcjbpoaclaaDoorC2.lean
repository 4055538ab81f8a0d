import Derived.Test.YtigpgcjbpoaclaaDoorC1
import Derived.Deep.QuietTactic
import Derived.BigQuiet
import Derived.Test.YtigpgcjbpoaclaaDoorRows
import Derived.WalkSpells
import Derived.Lib.Hide
import Derived.Outline
import Derived.ProofKit
import Derived.Deep.Slices
import Derived.Lib.SmallJoins
import Derived.OpenShut
set_option linter.unusedVariables false
set_option linter.unusedSimpArgs false
namespace Go.Proofs.YtigpgcjbpoaclaaDoor
open Go.RowKit
theorem quiet_left {P : Program} {f : FuncId} {args : Array Value} {w : World} {n : Nat} {v : Value}
    (h : Calls P f args (w.drewN n) fun e w' => e = .returned v ∧ w.drewN n = w') : Calls P f args (w.drewN n) fun e w'' => e = .returned v ∧ ∃ m, w'' = w.drewN m :=
  h.mono fun _ _ ⟨he, hm⟩ => ⟨he, n, hm.symm⟩
theorem Kp.drewN {a b : World} (h : Kp a b) (n : Nat) : Kp a (b.drewN n) := by
  induction n with
  | zero => exact h
  | succ n ih => exact ih.drew
end Go.Proofs.YtigpgcjbpoaclaaDoor
namespace Go.Proofs.YtigpgcjbpoaclaaDoor
def wadd (x y : UInt32) : UInt32 := x + y
def wxor (x y : UInt32) : UInt32 := x ^^^ y
def wand (x y : UInt32) : UInt32 := x &&& y
def wor (x y : UInt32) : UInt32 := x ||| y
def wnot (x : UInt32) : UInt32 := wxor 0xffffffff x
def wshl (k : Nat) (x : UInt32) : UInt32 := UInt32.ofNat (x.toNat * 2 ^ k)
def wshr (k : Nat) (x : UInt32) : UInt32 := UInt32.ofNat (x.toNat / 2 ^ k)
def rotr (k : Nat) (x : UInt32) : UInt32 := wor (wshr k x) (wshl (32 - k) x)
def big (i j k : Nat) (x : UInt32) : UInt32 := wxor (wxor (rotr i x) (rotr j x)) (rotr k x)
def small (i j k : Nat) (x : UInt32) : UInt32 := wxor (wxor (rotr i x) (rotr j x)) (wshr k x)
def wordOf (a b c d : UInt8) : UInt32 := UInt32.ofNat (16777216 * a.toNat + 65536 * b.toNat + 256 * c.toNat + d.toNat)
def nextWord (l : List UInt8) (w : List UInt32) (t : Nat) : UInt32 :=
  if t < 16 then wordOf (l.getD (4 * t) 0) (l.getD (4 * t + 1) 0) (l.getD (4 * t + 2) 0) (l.getD (4 * t + 3) 0)
  else wadd (wadd (wadd (small 17 19 10 (w.getD (t - 2) 0)) (w.getD (t - 7) 0)) (small 7 18 3 (w.getD (t - 15) 0))) (w.getD (t - 16) 0)
def sched (l : List UInt8) : Nat → List UInt32
  | 0 => []
  | t + 1 => sched l t ++ [nextWord l (sched l t) t]
structure S8 where
  a : UInt32
  b : UInt32
  c : UInt32
  d : UInt32
  e : UInt32
  f : UInt32
  g : UInt32
  h : UInt32
deriving DecidableEq
def S8.list (s : S8) : List UInt32 := [s.a, s.b, s.c, s.d, s.e, s.f, s.g, s.h]
def t1 (s : S8) (k w : UInt32) : UInt32 := wadd (wadd (wadd (wadd s.h (big 6 11 25 s.e)) (wxor (wand s.e s.f) (wand (wnot s.e) s.g))) k) w
def t2 (s : S8) : UInt32 := wadd (big 2 13 22 s.a) (wxor (wxor (wand s.a s.b) (wand s.a s.c)) (wand s.b s.c))
def rnd (s : S8) (k w : UInt32) : S8 := ⟨wadd (t1 s k w) (t2 s), s.a, s.b, s.c, wadd s.d (t1 s k w), s.e, s.f, s.g⟩
def rnds (k w : List UInt32) (s : S8) : Nat → S8
  | 0 => s
  | t + 1 => rnd (rnds k w s t) (k.getD t 0) (w.getD t 0)
def S8.add (s r : S8) : S8 := ⟨wadd s.a r.a, wadd s.b r.b, wadd s.c r.c, wadd s.d r.d, wadd s.e r.e, wadd s.f r.f, wadd s.g r.g, wadd s.h r.h⟩
def comp (k : List UInt32) (s : S8) (l : List UInt8) : S8 := s.add (rnds k (sched l 64) s 64)
def startS : S8 := ⟨0x6a09e667, 0xbb67ae85, 0x3c6ef372, 0xa54ff53a, 0x510e527f, 0x9b05688c, 0x1f83d9ab, 0x5be0cd19⟩
def keyL : List UInt32 := [
    0x428a2f98, 0x71374491, 0xb5c0fbcf, 0xe9b5dba5, 0x3956c25b, 0x59f111f1, 0x923f82a4, 0xab1c5ed5,
    0xd807aa98, 0x12835b01, 0x243185be, 0x550c7dc3, 0x72be5d74, 0x80deb1fe, 0x9bdc06a7, 0xc19bf174,
    0xe49b69c1, 0xefbe4786, 0x0fc19dc6, 0x240ca1cc, 0x2de92c6f, 0x4a7484aa, 0x5cb0a9dc, 0x76f988da,
    0x983e5152, 0xa831c66d, 0xb00327c8, 0xbf597fc7, 0xc6e00bf3, 0xd5a79147, 0x06ca6351, 0x14292967,
    0x27b70a85, 0x2e1b2138, 0x4d2c6dfc, 0x53380d13, 0x650a7354, 0x766a0abb, 0x81c2c92e, 0x92722c85,
    0xa2bfe8a1, 0xa81a664b, 0xc24b8b70, 0xc76c51a3, 0xd192e819, 0xd6990624, 0xf40e3585, 0x106aa070,
    0x19a4c116, 0x1e376c08, 0x2748774c, 0x34b0bcb5, 0x391c0cb3, 0x4ed8aa4a, 0x5b9cca4f, 0x682e6ff3,
    0x748f82ee, 0x78a5636f, 0x84c87814, 0x8cc70208, 0x90befffa, 0xa4506ceb, 0xbef9a3f7, 0xc67178f2]
def fill (n : Nat) : Nat := (119 - n % 64) % 64
def pad (n : Nat) : List UInt8 := 128 :: List.replicate (fill n) 0 ++ be 8 (8 * n)
def blocks (s : S8) (l : List UInt8) : Nat → S8
  | 0 => s
  | k + 1 => comp keyL (blocks s l k) ((l.drop (64 * k)).take 64)
def padded (l : List UInt8) : List UInt8 := l ++ pad l.length
def bytes4 (x : UInt32) : List UInt8 := [UInt8.ofNat (x.toNat / 16777216), UInt8.ofNat (x.toNat / 65536), UInt8.ofNat (x.toNat / 256), UInt8.ofNat x.toNat]
def S8.bytes (s : S8) : List UInt8 := s.list.flatMap bytes4
def digest (l : List UInt8) : List UInt8 := (blocks startS (padded l) ((padded l).length / 64)).bytes
def u (x : UInt32) : Int := (x.toNat : Int)
theorem u_nonneg (x : UInt32) : 0 ≤ u x := Int.natCast_nonneg _
theorem u_lt (x : UInt32) : u x < 4294967296 := by unfold u; have := x.toNat_lt; omega
theorem u_of (n : Nat) (h : n < 4294967296) : u (UInt32.ofNat n) = n := by
  unfold u
  rw [UInt32.toNat_ofNat']
  congr 1
  exact Nat.mod_eq_of_lt h
theorem u_ofNat (n : Nat) : u (UInt32.ofNat n) = (n : Int) % 4294967296 := by
  unfold u
  rw [UInt32.toNat_ofNat']
  simp
theorem u_wrap (x : UInt32) : IntKind.u32.wrap (u x) = u x := by rw [IntKind.wrap_u32]; have := u_nonneg x; have := u_lt x; omega
theorem u_add (x y : UInt32) : IntKind.u32.wrap (u x + u y) = u (wadd x y) := by
  rw [IntKind.wrap_u32]
  unfold u wadd
  rw [UInt32.toNat_add]
  simp
theorem u32_bv (x : UInt32) : BitVec.ofInt IntKind.u32.bits (u x) = x.toBitVec := by
  unfold u
  rw [BitVec.ofInt_natCast]
  apply BitVec.eq_of_toNat_eq
  simp [IntKind.bits]
theorem u_xor (x y : UInt32) : bits .xor .u32 (u x) (u y) = u (wxor x y) := by
  simp only [bits, u32_bv]
  change IntKind.u32.wrap (u (x ^^^ y)) = _
  exact u_wrap _
theorem u_and (x y : UInt32) : bits .and .u32 (u x) (u y) = u (wand x y) := by
  simp only [bits, u32_bv]
  change IntKind.u32.wrap (u (x &&& y)) = _
  exact u_wrap _
theorem u_or (x y : UInt32) : bits .or .u32 (u x) (u y) = u (wor x y) := by
  simp only [bits, u32_bv]
  change IntKind.u32.wrap (u (x ||| y)) = _
  exact u_wrap _
theorem u_shl (k : Nat) (x : UInt32) : IntKind.u32.wrap (u x * 2 ^ k) = u (wshl k x) := by
  rw [IntKind.wrap_u32]
  unfold wshl
  rw [u_ofNat]
  unfold u
  simp
theorem u_shr (k : Nat) (x : UInt32) : u x / 2 ^ k = u (wshr k x) := by
  unfold wshr
  have h := x.toNat_lt
  have h2 : x.toNat / 2 ^ k ≤ x.toNat := Nat.div_le_self _ _
  rw [u_of _ (by omega)]
  unfold u
  simp
theorem wor_comm (x y : UInt32) : wor x y = wor y x := by unfold wor; exact UInt32.or_comm x y
end Go.Proofs.YtigpgcjbpoaclaaDoor
namespace Go.Proofs.YtigpgcjbpoaclaaDoor
open Go.RowKit
theorem same_any (u v : Value) (l m : List UInt8) (w : World) (h : Rd w u l) (h' : Rd w v m) :
    Calls Tryd.prog 10 #[u, v] w fun e w' => e = .returned (.bool (decide (l = m))) ∧ w = w' := by
  have c1 := run_string_rd w 22 9 5 u l h Tryd.underlying22 Tryd.underlying5 Tryd.underlying9
  have c2 := run_string_rd w 22 9 5 v m h' Tryd.underlying22 Tryd.underlying5 Tryd.underlying9
  go_enter Tryd.func10, Tryd.ntmps10
  go_wp2
  go_ret
  exact ⟨by simp [Bool.beq_eq_decide_eq], rfl⟩
theorem Tryd.info5 : (Tryd.prog.info? 5).map (fun i => (i.zero, i.size, i.bytes)) = some (some (.int .u8 0), 1, 1) := by kernel_rfl
theorem u8 : U8 Tryd.prog 22 5 := U8.mk' Tryd.underlying22 Tryd.info5
end Go.Proofs.YtigpgcjbpoaclaaDoor
namespace Go.Proofs.YtigpgcjbpoaclaaDoor
open Go.RowKit Go.ChangeShapes Go.WideShapes Go.Deep
section
variable {H : Type} {enc : TypeId × Value → H} {P : Program} {w : World} {base : Nat} {spare : Nat → Bool} {held : Bool}
theorem byte_wf {n : Int} (h : (Lit.int .u8 n).wf = true) : 0 ≤ n ∧ n < 256 := by
  have := bounds_u8 h
  omega
theorem Rd.of_cells {t e : TypeId} {fuel : Nat} {cs : List Value} {x : DataW H × List MemPlace} (ht : P.underlying t = some (.slice e)) (he : P.underlying e = some (.int .u8)) (hc : P.cellsOf e = 1)
    (h : DataW.trod enc P w base spare held fuel t cs = some x) : ∃ v l, cs = [v] ∧ Rd w v l := by
  rcases open_ints ht he hc h with ⟨rfl, _⟩ | ⟨a, len, cap, zs, rfl, _, hl, hm, hz, _, hcell, hwz⟩
  · exact ⟨_, [], rfl, none, 0, rfl, Nat.le_refl _, Nat.zero_le _, fun _ => rfl, fun y hy => by cases hy⟩
  · have hzl : len ≤ zs.length := by rw [hz]; split <;> omega
    have hlen : ((zs.take len).map fun z => UInt8.ofNat z.toNat).length = len := by simp; omega
    refine ⟨_, (zs.take len).map fun z => UInt8.ofNat z.toNat, rfl, some a, cap, by rw [hlen], by omega, hm, fun h => (by cases h), fun y hy i hi => ?_⟩
    cases hy
    rw [hlen] at hi
    rw [hcell i (by omega)]
    have hzi : i < zs.length := by omega
    have hw := byte_wf (hwz (zs[i]'hzi) (List.getElem_mem hzi))
    simp [List.getD_eq_getElem?_getD, List.getElem?_eq_getElem hzi]
    omega
theorem Rd.of_one {t e : TypeId} {fuel : Nat} {v : Value} {x : DataW H × List MemPlace} (ht : P.underlying t = some (.slice e)) (he : P.underlying e = some (.int .u8)) (hc : P.cellsOf e = 1)
    (h : DataW.trod enc P w base spare held fuel t [v] = some x) : ∃ l, Rd w v l := by
  obtain ⟨v', l, e, h⟩ := Rd.of_cells ht he hc h
  cases e
  exact ⟨l, h⟩
theorem choose_list {α : Type} [Inhabited α] (n : Nat) (Q : Nat → α → Prop) (h : ∀ i, i < n → ∃ x, Q i x) (d : α) : ∃ l : List α, l.length = n ∧ ∀ i, i < n → Q i (l.getD i d) := by
  induction n with
  | zero => exact ⟨[], rfl, fun i hi => by omega⟩
  | succ n ih =>
    obtain ⟨l, hl, hq⟩ := ih fun i hi => h i (by omega)
    obtain ⟨x, hx⟩ := h n (by omega)
    refine ⟨l ++ [x], by simp [hl], fun i hi => ?_⟩
    rcases Nat.lt_or_ge i n with h1 | h1
    · rw [List.getD_eq_getElem?_getD, List.getElem?_append_left (by omega), ← List.getD_eq_getElem?_getD]
      exact hq i h1
    · have : i = n := by omega
      subst this
      rw [List.getD_eq_getElem?_getD, List.getElem?_append_right (by omega), hl, Nat.sub_self]
      exact hx
end
end Go.Proofs.YtigpgcjbpoaclaaDoor
namespace Go.Proofs.YtigpgcjbpoaclaaDoor
open Go.RowKit
def Newer (B : Nat) (v : Value) : Prop := ∀ g, v.ownBlock = some g → B ≤ g
theorem Newer.nil (B n c : Nat) : Newer B (.slice none n c) := fun g h => by cases h
theorem Newer.mono {B C : Nat} {v : Value} (h : Newer B v) (hc : C ≤ B) : Newer C v := fun g hg => Nat.le_trans hc (h g hg)
theorem Newer.kp {w w' : World} {v : Value} (h : Newer w'.heap.size v) (k : Kp w w') : Newer w.heap.size v := h.mono k.size
theorem wf8 {n : Int} (h : (Lit.int .u8 n).wf = true) : 0 ≤ n ∧ n ≤ 255 := by
  have := bounds_u8 h
  omega
end Go.Proofs.YtigpgcjbpoaclaaDoor

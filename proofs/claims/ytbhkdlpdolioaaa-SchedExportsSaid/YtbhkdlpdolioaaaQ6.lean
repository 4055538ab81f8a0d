import Derived.Test.YtbhkdlpdolioaaaQ3
import Derived.Deep.QuietTactic
import Derived.BigQuiet
import Derived.Laws.Rows
import Derived.Laws.Tables
set_option linter.unusedVariables false
set_option linter.unusedSimpArgs false
namespace Go.Proofs.Ytbhkdlpdolioaaa
def wadd (x y : UInt32) : UInt32 := x + y
def wxor (x y : UInt32) : UInt32 := x ^^^ y
def wand (x y : UInt32) : UInt32 := x &&& y
def wor (x y : UInt32) : UInt32 := x ||| y
def wnot (x : UInt32) : UInt32 := wxor 0xffffffff x
def wshl (k : Nat) (x : UInt32) : UInt32 := UInt32.ofNat (x.toNat * 2 ^ k)
def wshr (k : Nat) (x : UInt32) : UInt32 := UInt32.ofNat (x.toNat / 2 ^ k)
def rotr (k : Nat) (x : UInt32) : UInt32 := wor (wshr k x) (wshl (32 - k) x)
def big (i j k : Nat) (x : UInt32) : UInt32 := wxor (wxor (rotr i x) (rotr j x)) (rotr k x)
def ads (i j k : Nat) (x : UInt32) : UInt32 := wxor (wxor (rotr i x) (rotr j x)) (wshr k x)
def abG (a b c d : UInt8) : UInt32 := UInt32.ofNat (16777216 * a.toNat + 65536 * b.toNat + 256 * c.toNat + d.toNat)
def aaW (l : List UInt8) (w : List UInt32) (t : Nat) : UInt32 :=
 if t < 16 then abG (l.getD (4 * t) 0) (l.getD (4 * t + 1) 0) (l.getD (4 * t + 2) 0) (l.getD (4 * t + 3) 0)
 else wadd (wadd (wadd (ads 17 19 10 (w.getD (t - 2) 0)) (w.getD (t - 7) 0)) (ads 7 18 3 (w.getD (t - 15) 0))) (w.getD (t - 16) 0)
def sched (l : List UInt8) : Nat → List UInt32
 | 0 => []
 | t + 1 => sched l t ++ [aaW l (sched l t) t]
structure S8 where
 a : UInt32
 b : UInt32
 c : UInt32
 d : UInt32
 e : UInt32
 f : UInt32
 g : UInt32
 h : UInt32
deriving DecidableEq
def S8.list (s : S8) : List UInt32 := [s.a, s.b, s.c, s.d, s.e, s.f, s.g, s.h]
def t1 (s : S8) (k w : UInt32) : UInt32 := wadd (wadd (wadd (wadd s.h (big 6 11 25 s.e)) (wxor (wand s.e s.f) (wand (wnot s.e) s.g))) k) w
def t2 (s : S8) : UInt32 := wadd (big 2 13 22 s.a) (wxor (wxor (wand s.a s.b) (wand s.a s.c)) (wand s.b s.c))
def rnd (s : S8) (k w : UInt32) : S8 := ⟨wadd (t1 s k w) (t2 s), s.a, s.b, s.c, wadd s.d (t1 s k w), s.e, s.f, s.g⟩
def rnds (k w : List UInt32) (s : S8) : Nat → S8
 | 0 => s
 | t + 1 => rnd (rnds k w s t) (k.getD t 0) (w.getD t 0)
def S8.add (s r : S8) : S8 := ⟨wadd s.a r.a, wadd s.b r.b, wadd s.c r.c, wadd s.d r.d, wadd s.e r.e, wadd s.f r.f, wadd s.g r.g, wadd s.h r.h⟩
def comp (k : List UInt32) (s : S8) (l : List UInt8) : S8 := s.add (rnds k (sched l 64) s 64)
def aaE : S8 := ⟨0x6a09e667, 0xbb67ae85, 0x3c6ef372, 0xa54ff53a, 0x510e527f, 0x9b05688c, 0x1f83d9ab, 0x5be0cd19⟩
def keyL : List UInt32 := [
 0x428a2f98, 0x71374491, 0xb5c0fbcf, 0xe9b5dba5, 0x3956c25b, 0x59f111f1, 0x923f82a4, 0xab1c5ed5,
 0xd807aa98, 0x12835b01, 0x243185be, 0x550c7dc3, 0x72be5d74, 0x80deb1fe, 0x9bdc06a7, 0xc19bf174,
 0xe49b69c1, 0xefbe4786, 0x0fc19dc6, 0x240ca1cc, 0x2de92c6f, 0x4a7484aa, 0x5cb0a9dc, 0x76f988da,
 0x983e5152, 0xa831c66d, 0xb00327c8, 0xbf597fc7, 0xc6e00bf3, 0xd5a79147, 0x06ca6351, 0x14292967,
 0x27b70a85, 0x2e1b2138, 0x4d2c6dfc, 0x53380d13, 0x650a7354, 0x766a0abb, 0x81c2c92e, 0x92722c85,
 0xa2bfe8a1, 0xa81a664b, 0xc24b8b70, 0xc76c51a3, 0xd192e819, 0xd6990624, 0xf40e3585, 0x106aa070,
 0x19a4c116, 0x1e376c08, 0x2748774c, 0x34b0bcb5, 0x391c0cb3, 0x4ed8aa4a, 0x5b9cca4f, 0x682e6ff3,
 0x748f82ee, 0x78a5636f, 0x84c87814, 0x8cc70208, 0x90befffa, 0xa4506ceb, 0xbef9a3f7, 0xc67178f2]
def fill (n : Nat) : Nat := (119 - n % 64) % 64
def pad (n : Nat) : List UInt8 := 128 :: List.replicate (fill n) 0 ++ be 8 (8 * n)
def aan (s : S8) (l : List UInt8) : Nat → S8
 | 0 => s
 | k + 1 => comp keyL (aan s l k) ((l.drop (64 * k)).take 64)
def aba (l : List UInt8) : List UInt8 := l ++ pad l.length
def ac7 (x : UInt32) : List UInt8 := [UInt8.ofNat (x.toNat / 16777216), UInt8.ofNat (x.toNat / 65536), UInt8.ofNat (x.toNat / 256), UInt8.ofNat x.toNat]
def S8.bytes (s : S8) : List UInt8 := s.list.flatMap ac7
def aaj (l : List UInt8) : List UInt8 := (aan aaE (aba l) ((aba l).length / 64)).bytes
def u (x : UInt32) : Int := (x.toNat : Int)
theorem aeF (x : UInt32) : 0 ≤ u x := Int.natCast_nonneg _
theorem u_lt (x : UInt32) : u x < 4294967296 := by unfold u; have := x.toNat_lt; omega
theorem u_of (n : Nat) (h : n < 4294967296) : u (UInt32.ofNat n) = n := by
 unfold u;rw [UInt32.toNat_ofNat'];congr 1
 exact Nat.mod_eq_of_lt h
theorem ae7 (n : Nat) : u (UInt32.ofNat n) = (n : Int) % 4294967296 := by
 unfold u;rw [UInt32.toNat_ofNat'];simp
theorem acH (x : UInt32) : IntKind.u32.wrap (u x) = u x := by rw [IntKind.wrap_u32]; have := aeF x; have := u_lt x; omega
theorem afK (x y : UInt32) : IntKind.u32.wrap (u x + u y) = u (wadd x y) := by
 rw [IntKind.wrap_u32];unfold u wadd;rw [UInt32.toNat_add];simp
theorem ae8 (x : UInt32) : BitVec.ofInt IntKind.u32.bits (u x) = x.toBitVec := by
 unfold u;rw [BitVec.ofInt_natCast];apply BitVec.eq_of_toNat_eq;simp [IntKind.bits]
theorem ae9 (x y : UInt32) : bits .xor .u32 (u x) (u y) = u (wxor x y) := by
 simp only [bits, ae8];change IntKind.u32.wrap (u (x ^^^ y)) = _;exact acH _
theorem afL (x y : UInt32) : bits .and .u32 (u x) (u y) = u (wand x y) := by
 simp only [bits, ae8];change IntKind.u32.wrap (u (x &&& y)) = _;exact acH _
theorem u_or (x y : UInt32) : bits .or .u32 (u x) (u y) = u (wor x y) := by
 simp only [bits, ae8];change IntKind.u32.wrap (u (x ||| y)) = _;exact acH _
theorem afa (k : Nat) (x : UInt32) : IntKind.u32.wrap (u x * 2 ^ k) = u (wshl k x) := by
 rw [IntKind.wrap_u32];unfold wshl;rw [ae7];unfold u;simp
theorem adM (k : Nat) (x : UInt32) : u x / 2 ^ k = u (wshr k x) := by
 unfold wshr;have h := x.toNat_lt;have h2 : x.toNat / 2 ^ k ≤ x.toNat := Nat.div_le_self _ _;rw [u_of _ (by omega)];unfold u;simp
theorem agH (x : UInt32) : u x / 8 = u (wshr 3 x) := adM 3 x
theorem agk (x : UInt32) : u x / 1024 = u (wshr 10 x) := adM 10 x
theorem afM (x y : UInt32) : wor x y = wor y x := by unfold wor; exact UInt32.or_comm x y
end Go.Proofs.Ytbhkdlpdolioaaa
namespace Go.Proofs.Ytbhkdlpdolioaaa
open Go.RowKit
def afb (x : UInt32) : Value := .int .u32 (u x)
def aae (l : List UInt32) : Array Value := (l.map afb).toArray
def Arr (T : TypeId) (w : World) (g : Nat) (l : List UInt32) : Prop := w.heap[g]? = some (.cells (aae l) T (0, 0))
theorem abb (l : List UInt32) : (aae l).size = l.length := by simp [aae]
theorem acj (l : List UInt32) (i : Nat) (h : i < l.length) : (aae l)[i]? = some (.int .u32 (u (l.getD i 0))) := by
 simp [aae, afb, h]
theorem Arr.lt {T : TypeId} {w : World} {g : Nat} {l : List UInt32} (h : Arr T w g l) : g < w.heap.size := (Array.getElem?_eq_some_iff.1 h).1
theorem Arr.cell {T : TypeId} {w : World} {g : Nat} {l : List UInt32} (h : Arr T w g l) (i : Nat) (hi : i < l.length) : w.cell? ⟨g, i, none⟩ = some (.int .u32 (u (l.getD i 0))) := by
 rw [cell_of_row w g i _ T _ h, acj l i hi]
theorem Arr.frozen {T : TypeId} {w : World} {g : Nat} {l : List UInt32} (h : Arr T w g l) (i : Nat) (hi : i < l.length) : w.frozen? ⟨g, i, none⟩ = false := by
 have h' := h;unfold Arr at h';simp [World.frozen?, h']
theorem Arr.kp {T : TypeId} {w w' : World} {g : Nat} {l : List UInt32} (h : Arr T w g l) (k : Kp w w') : Arr T w' g l :=
 (k.block g h.lt).trans h
theorem Arr.below {T : TypeId} {w w' : World} {g B : Nat} {l : List UInt32} (h : Arr T w g l) (k : Below B w w') (hg : g < B) : Arr T w' g l :=
 (k.block g hg).trans h
theorem Arr.drewN {T : TypeId} {w : World} {g : Nat} {l : List UInt32} (h : Arr T w g l) (n : Nat) : Arr T (w.drewN n) g l := h.kp ((Kp.refl w).drewN n)
theorem Arr.drew {T : TypeId} {w : World} {g : Nat} {l : List UInt32} (h : Arr T w g l) : Arr T w.drew g l := h
theorem Arr.alloc {T : TypeId} {w : World} {g : Nat} {l : List UInt32} (h : Arr T w g l) (o : Obj) : Arr T (w.alloc o) g l := (Below.heap_alloc w o g h.lt).trans h
theorem Arr.new (T : TypeId) (w : World) (cs : Array Value) (l : List UInt32) (h : cs = aae l) : Arr T (w.alloc (.cells cs T)) w.heap.size l := by
 subst h;exact heap_alloc_new w _
theorem aeQ (l : List UInt32) (i : Nat) (x : UInt32) : (aae l).setIfInBounds i (afb x) = aae (l.set i x) := by
 apply Array.ext';simp [aae, List.map_set]
theorem Arr.set {T : TypeId} {w : World} {g : Nat} {l : List UInt32} (h : Arr T w g l) (i : Nat) (x : UInt32) (v : Value) (hv : v = .int .u32 (u x)) : Arr T (w.setCell ⟨g, i, none⟩ v) g (l.set i x) := by
 subst hv;have h' := h;unfold Arr at h' ⊢;obtain ⟨hlt, heq⟩ := Array.getElem?_eq_some_iff.1 h';have e := aeQ l i x;unfold afb at e;simp [World.setCell, hlt, Array.getElem_modify, heq, e]
theorem Arr.setTo {T : TypeId} {w : World} {g : Nat} {l m : List UInt32} (h : Arr T w g l) (i : Nat) (x : UInt32) (hm : l.set i x = m) : Arr T (w.setCell ⟨g, i, none⟩ (.int .u32 (u x))) g m := hm ▸ h.set i x _ rfl
theorem Arr.other {T : TypeId} {w : World} {g : Nat} {l : List UInt32} (h : Arr T w g l) (a : Addr) (v : Value) (hne : g ≠ a.block) : Arr T (w.setCell a v) g l :=
 (Below.heap_setCell w a v g hne).trans h
section
variable {P : Program}
theorem aao {T ty e : TypeId} {n : Nat} (hu : P.underlying ty = some (.array n e)) (hi : (P.info? ty).map (·.size) = some n) {ops : Array Oper} {rest : List Oper} {o : Oper} {a : Act} {w : World} {Q : Exit → Act → World → Prop} (hgd : o.guard = none) (x : Operand) (ho : o.op = .load ty x)
  (g : Nat) (l : List UInt32) (hx : a.eval x = .pointer (some ⟨g, 0, none⟩)) (h : Arr T w g l) (hl : l.length = n)
  (hK : wpList P ops Q rest (a.put o.dst (.agg (aae l))) w) : wpList P ops Q (o :: rest) a w :=
 wpList_load_row hgd ty x ho g hx T (aae l) (0, 0) _ h hu rfl (by rw [hi, abb, hl]) hK
theorem aeR (l : List UInt32) : (aae l).all (·.oneCell') = true := by
 rw [Array.all_eq_true_iff_forall_mem];intro v hv;simp only [aae, List.mem_toArray, List.mem_map] at hv;obtain ⟨x, _, rfl⟩ := hv;rfl
theorem Arr.setRow {T : TypeId} {w : World} {g : Nat} {l : List UInt32} (h : Arr T w g l) (m : List UInt32) : Arr T (w.setRow g (aae m)) g m := by
 unfold Arr at h ⊢;obtain ⟨hlt, heq⟩ := Array.getElem?_eq_some_iff.1 h;simp [World.setRow, hlt, Array.getElem_modify, heq]
theorem setRow_other (w : World) (g k : Nat) (cs : Array Value) (h : k ≠ g) : (w.setRow g cs).heap[k]? = w.heap[k]? := by
 simp only [World.setRow];rw [Array.getElem?_modify, if_neg (Ne.symm h)]
theorem Arr.setRow_other {T : TypeId} {w : World} {g k : Nat} {l : List UInt32} (h : Arr T w k l) (cs : Array Value) (hne : k ≠ g) : Arr T (w.setRow g cs) k l :=
 (Go.Proofs.Ytbhkdlpdolioaaa.setRow_other w g k cs hne).trans h
theorem acy {B : Nat} {a w : World} (h : Below B a w) {g : Nat} (hg : B ≤ g) (cs : Array Value) : Below B a (w.setRow g cs) :=
 ⟨h.os, h.tape, h.output, by simpa [World.setRow] using h.size, fun k hk => (setRow_other w g k cs (by omega)).trans (h.block k hk)⟩
theorem abC {T ty : TypeId} {n : Nat} (hi : (P.info? ty).map (·.size) = some n) {ops : Array Oper} {rest : List Oper} {o : Oper} {a : Act} {w : World} {Q : Exit → Act → World → Prop} (hgd : o.guard = none) (x y : Operand) (ho : o.op = .store ty x y)
  (g : Nat) (l m : List UInt32) (hx : a.eval x = .pointer (some ⟨g, 0, none⟩)) (hy : a.eval y = .agg (aae m)) (h : Arr T w g l) (hl : l.length = n) (hm : m.length = n)
  (hK : wpList P ops Q rest (a.put o.dst undef) (w.setRow g (aae m))) : wpList P ops Q (o :: rest) a w :=
 wpList_store_row hgd ty x y ho g (aae m) hx hy T (aae l) h (by rw [hi, abb, hm]) (by rw [abb, abb, hl, hm]) (aeR m) hK
theorem aal {t e : TypeId} {z : Value} {b : Nat} (ht : P.underlying t = some (.slice e)) (hinfo : (P.info? e).map (fun i => (i.zero, i.size, i.bytes)) = some (some z, 1, b)) (hz : z.cells = #[z]) (hb : b ≤ 8)
  {ops : Array Oper} {rest : List Oper} {o : Oper} {a : Act} {w : World} {Q : Exit → Act → World → Prop} (hg : o.guard = none) (l c : Operand) (hop : o.op = Op.makeSlice t l c) (n : Nat) (hl : a.eval l = .int .i64 n) (hc : a.eval c = .int .i64 n) (hn : n ≤ 1000000)
  (hK : ∀ W, W = w.alloc (.cells (Array.replicate n z) e) → wpList P ops Q rest (a.put o.dst (.slice (some ⟨w.heap.size, 0, none⟩) n n)) W) : wpList P ops Q (o :: rest) a w := by
 obtain ⟨i, hi, hz0, hz1, hz2⟩ := info_parts hinfo;refine wpList_plain hg fun K hK' => ?_
 have hbb : (i.bytes : Int) * (n : Int) ≤ 281474976710656 := by
  rw [hz2];have h := Nat.mul_le_mul hb hn;have h2 : ((b * n : Nat) : Int) ≤ ((8 * 1000000 : Nat) : Int) := by omega
  rw [Int.natCast_mul] at h2;omega
 have hr := run_make (P := P) w t e i z ht hi hz0 .i64 .i64 n n (by omega) (Int.le_refl _) hbb (by omega);have hm : madeCells #[z] n = Array.replicate n z := by
  apply Array.ext';rw [toList_madeCells_one];simp
 rw [hz, hz1, Int.toNat_natCast, Nat.mul_one, hm] at hr;unfold Oper.wp;simp [execOp, hop, hl, hc, hr, Result.andThen];exact hK' _ _ (hK _ rfl)
structure But (g : Nat) (w W : World) : Prop where
 below : ∀ {B : Nat} {a : World}, Below B a w → B ≤ g → Below B a W
 arr : ∀ {T : TypeId} {k : Nat} {l : List UInt32}, Arr T w k l → k ≠ g → Arr T W k l
 size : W.heap.size = w.heap.size
 other : ∀ k, k ≠ g → W.heap[k]? = w.heap[k]?
theorem But.setRow (g : Nat) (w : World) (cs : Array Value) : But g w (w.setRow g cs) := ⟨fun h hb => acy h hb cs, fun h hne => h.setRow_other cs hne, by simp [World.setRow], fun k hk => Go.Proofs.Ytbhkdlpdolioaaa.setRow_other w g k cs hk⟩
theorem aai {T ty : TypeId} {n : Nat} (hi : (P.info? ty).map (·.size) = some n) {ops : Array Oper} {rest : List Oper} {o : Oper} {a : Act} {w : World} {Q : Exit → Act → World → Prop} (hgd : o.guard = none) (hd : o.dst = none) (x y : Operand) (ho : o.op = .store ty x y)
  (g : Nat) (l m : List UInt32) (hx : a.eval x = .pointer (some ⟨g, 0, none⟩)) (hy : a.eval y = .agg (aae m)) (h : Arr T w g l) (hl : l.length = n) (hm : m.length = n)
  (hK : ∀ W, Arr T W g m → But g w W → wpList P ops Q rest a W) : wpList P ops Q (o :: rest) a w :=
 abC hi hgd x y ho g l m hx hy h hl hm (by rw [hd]; exact hK _ (h.setRow m) (But.setRow g w _))
theorem aaV {T ty e : TypeId} {n : Nat} (hu : P.underlying ty = some (.array n e)) (hi : (P.info? ty).map (·.size) = some n) {fn : Func} {p : Tmp} (hr : fn.results = #[.cell p ty]) (tmps : Array Value) (w : World) (g : Nat) (l : List UInt32)
  (hp : tmps.getD p undef = .pointer (some ⟨g, 0, none⟩)) (h : Arr T w g l) (hl : l.length = n) : (results fn tmps).run P w = .ok (.agg (aae l)) w :=
 results_cell_row hr tmps w g T (aae l) (0, 0) _ hp h hu rfl (by rw [hi, abb, hl])
end
def aaz (n x : Nat) : Nat := (2 * x + n / (x * x)) / 3
def acL : Nat → Nat → Nat → Nat
 | 0, _, x => x
 | f + 1, n, x => if x ≤ aaz n x then x else acL f n (aaz n x)
def aaH (n : Nat) : Nat := acL 2097152 n 2097152
theorem aeT (f n x : Nat) (h : x ≤ aaz n x) : acL f n x = x := by
 cases f with
 | zero => rfl
 | succ f => simp [acL, h]
theorem afT (f n x : Nat) (hf : x ≤ f) (h : ¬ x ≤ aaz n x) : ∃ g, aaz n x ≤ g ∧ acL g n (aaz n x) = acL f n x := by
 cases f with
 | zero => omega
 | succ f => exact ⟨f, by omega, by simp [acL, h]⟩
theorem acz (n x : Nat) (h0 : 1 ≤ n) (hx : 1 ≤ x) : 1 ≤ aaz n x := by
 unfold aaz;by_cases h : x = 1
 ·subst h
  simp;omega
 ·generalize n / (x * x) = d
  omega
theorem acM : ∀ (f n x : Nat), 1 ≤ n → 1 ≤ x → 1 ≤ acL f n x ∧ acL f n x ≤ x
  | 0, n, x, _, h => ⟨h, Nat.le_refl _⟩
  | f + 1, n, x, h0, h => by
    unfold acL
    split
    · exact ⟨h, Nat.le_refl _⟩
    · have := acM f n (aaz n x) h0 (acz n x h0 h)
      omega
def aaO (p : Nat) : Nat := p * 18014398509481984
def afi (p : Nat) : Nat := aaO p - aaH (aaO p) * aaH (aaO p) * aaH (aaO p)
def agn (p : Nat) : Nat := aaH (aaO p) * 16384 + afi p * 16384 / (3 * aaH (aaO p) * aaH (aaO p))
def afj (p : Nat) : UInt32 := UInt32.ofNat (agn p)
def fits (p : Nat) : Bool := decide (aaH (aaO p) * aaH (aaO p) * aaH (aaO p) ≤ aaO p) && decide (afi p < 281474976710656)
theorem afU : ∀ p : Fin 312, p.val = 0 ∨ fits p.val = true := by decide +kernel
def mark : Nat → Nat → Nat → List Bool → List Bool
 | 0, _, _, D => D
 | f + 1, p, n, D => if n < 312 then mark f p (n + p) (D.set n true) else D
theorem afV (f p n : Nat) (D : List Bool) (h : ¬ n < 312) : mark f p n D = D := by
 cases f with
 | zero => rfl
 | succ f => simp [mark, h]
theorem ago (f p n : Nat) (D : List Bool) (h : n < 312) (hp : 1 ≤ p) (hf : 312 ≤ f + n) : ∃ g, 312 ≤ g + (n + p) ∧ mark g p (n + p) (D.set n true) = mark f p n D := by
 cases f with
 | zero => omega
 | succ f => exact ⟨f, by omega, by simp [mark, h]⟩
theorem acN : ∀ (f p n : Nat) (D : List Bool), (mark f p n D).length = D.length
  | 0, _, _, _ => rfl
  | f + 1, p, n, D => by
    unfold mark
    split
    · rw [acN f]; simp
    · rfl
structure agp where
 D : List Bool
 ps : List Nat
def ab3 (p : Nat) (s : agp) : agp := if s.D.getD p false then s else ⟨mark 312 p (p * p) s.D, s.ps ++ [p]⟩
def aaR : Nat → agp
 | 0 => ⟨List.replicate 312 false, []⟩
 | p + 1 => if p < 2 then aaR p else ab3 p (aaR p)
theorem abf : ∀ p, (aaR p).D.length = 312
  | 0 => List.length_replicate
  | p + 1 => by
    unfold aaR
    split
    · exact abf p
    · unfold ab3
      split
      · exact abf p
      · rw [acN]; exact abf p
def abn (i : Nat) : Nat := (aaR 312).ps.getD i 0
theorem afk : (aaR 312).ps.length = 64 := by decide +kernel
theorem agq : (List.range 64).map (fun i => afj (abn i)) = keyL := by decide +kernel
theorem adu : ∀ i : Fin 64, 1 ≤ abn i.val ∧ abn i.val < 312 := by decide +kernel
theorem aeU : ∀ p : Fin 312, (aaR p.val).D.getD p.val false = true ∨ p.val < 2 ∨ (abn (aaR p.val).ps.length = p.val ∧ (aaR p.val).ps.length < 64) := by decide +kernel
theorem aeV (p : Nat) (h : (aaR p).D.getD p false = true) (h2 : 2 ≤ p) : aaR (p + 1) = aaR p := by
 rw [aaR, if_neg (by omega), ab3, if_pos h]
theorem aeW (p : Nat) (h : (aaR p).D.getD p false = false) (h2 : 2 ≤ p) : aaR (p + 1) = ⟨mark 312 p (p * p) (aaR p).D, (aaR p).ps ++ [p]⟩ := by
 rw [aaR, if_neg (by omega), ab3, if_neg (by rw [h]; decide)]
end Go.Proofs.Ytbhkdlpdolioaaa

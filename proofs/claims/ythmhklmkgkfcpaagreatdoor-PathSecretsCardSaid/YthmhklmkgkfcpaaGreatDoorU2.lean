import Derived.Test.YthmhklmkgkfcpaaGreatDoorU1
import Derived.Deep.QuietTactic
import Derived.BigQuiet
import Derived.Laws.Rows
import Derived.Laws.Tables
import Derived.Test.YthmhklmkgkfcpaaGreatDoorRows
import Derived.WalkSpells
import Derived.Lib.Hide
import Derived.Outline
import Derived.Laws.PanicsMore
import Derived.StillTailTactics
import Derived.Deep.RegionHeld3
import Derived.ProofKit
import Derived.OpenShut
set_option linter.unusedVariables false
set_option linter.unusedSimpArgs false
set_option maxHeartbeats 8000000
set_option maxRecDepth 100000
namespace Go.Proofs.YthmhklmkgkfcpaaGreatDoor
open Go.RowKit
theorem ae6 {P:Program}{f:FuncId}{args:Array Value}{w:World}{n:Nat}{v:Value}
  (h:Calls P f args (w.drewN n) fun e w'=>e=.returned v∧w.drewN n=w'):Calls P f args (w.drewN n) fun e w''=>e=.returned v∧∃ m,w''=w.drewN m:=
 h.mono fun _ _ ⟨he,hm⟩=>⟨he,n,hm.symm⟩
theorem Kp.drewN {a b:World}(h:Kp a b)(n:Nat):Kp a (b.drewN n):=by
 induction n with
 | zero=>exact h
 | succ n ih=>exact ih.drew
def Yes (w:World)(e:Ending)(w':World):Prop:=e=.returned (.bool true)∧Kp w w'
end Go.Proofs.YthmhklmkgkfcpaaGreatDoor
namespace Go.Proofs.YthmhklmkgkfcpaaGreatDoor
def wadd (x y:UInt32):UInt32:=x+y
def wxor (x y:UInt32):UInt32:=x ^^^ y
def wand (x y:UInt32):UInt32:=x &&& y
def wor (x y:UInt32):UInt32:=x ||| y
def wnot (x:UInt32):UInt32:=wxor 0xffffffff x
def wshl (k:Nat)(x:UInt32):UInt32:=UInt32.ofNat (x.toNat*2 ^ k)
def wshr (k:Nat)(x:UInt32):UInt32:=UInt32.ofNat (x.toNat / 2 ^ k)
def rotr (k:Nat)(x:UInt32):UInt32:=wor (wshr k x) (wshl (32 - k) x)
def big (i j k:Nat)(x:UInt32):UInt32:=wxor (wxor (rotr i x) (rotr j x)) (rotr k x)
def small (i j k:Nat)(x:UInt32):UInt32:=wxor (wxor (rotr i x) (rotr j x)) (wshr k x)
def adQ (a b c d:UInt8):UInt32:=UInt32.ofNat (16777216*a.toNat+65536*b.toNat+256*c.toNat+d.toNat)
def ab6 (l:List UInt8)(w:List UInt32)(t:Nat):UInt32:=
 if t<16 then adQ (l.getD (4*t) 0) (l.getD (4*t+1) 0) (l.getD (4*t+2) 0) (l.getD (4*t+3) 0)
 else wadd (wadd (wadd (small 17 19 10 (w.getD (t - 2) 0)) (w.getD (t - 7) 0)) (small 7 18 3 (w.getD (t - 15) 0))) (w.getD (t - 16) 0)
def acx (l:List UInt8):Nat→List UInt32
 | 0=>[]
 | t+1=>acx l t++[ab6 l (acx l t) t]
structure S8 where
 a:UInt32
 b:UInt32
 c:UInt32
 d:UInt32
 e:UInt32
 f:UInt32
 g:UInt32
 h:UInt32
deriving DecidableEq
def S8.list (s:S8):List UInt32:=[s.a,s.b,s.c,s.d,s.e,s.f,s.g,s.h]
def t1 (s:S8)(k w:UInt32):UInt32:=wadd (wadd (wadd (wadd s.h (big 6 11 25 s.e)) (wxor (wand s.e s.f) (wand (wnot s.e) s.g))) k) w
def t2 (s:S8):UInt32:=wadd (big 2 13 22 s.a) (wxor (wxor (wand s.a s.b) (wand s.a s.c)) (wand s.b s.c))
def rnd (s:S8)(k w:UInt32):S8:=⟨wadd (t1 s k w) (t2 s),s.a,s.b,s.c,wadd s.d (t1 s k w),s.e,s.f,s.g⟩
def rnds (k w:List UInt32)(s:S8):Nat→S8
 | 0=>s
 | t+1=>rnd (rnds k w s t) (k.getD t 0) (w.getD t 0)
def S8.add (s r:S8):S8:=⟨wadd s.a r.a,wadd s.b r.b,wadd s.c r.c,wadd s.d r.d,wadd s.e r.e,wadd s.f r.f,wadd s.g r.g,wadd s.h r.h⟩
def comp (k:List UInt32)(s:S8)(l:List UInt8):S8:=s.add (rnds k (acx l 64) s 64)
def abm:S8:=⟨0x6a09e667,0xbb67ae85,0x3c6ef372,0xa54ff53a,0x510e527f,0x9b05688c,0x1f83d9ab,0x5be0cd19⟩
def keyL:List UInt32:=[
 0x428a2f98,0x71374491,0xb5c0fbcf,0xe9b5dba5,0x3956c25b,0x59f111f1,0x923f82a4,0xab1c5ed5,
 0xd807aa98,0x12835b01,0x243185be,0x550c7dc3,0x72be5d74,0x80deb1fe,0x9bdc06a7,0xc19bf174,
 0xe49b69c1,0xefbe4786,0x0fc19dc6,0x240ca1cc,0x2de92c6f,0x4a7484aa,0x5cb0a9dc,0x76f988da,
 0x983e5152,0xa831c66d,0xb00327c8,0xbf597fc7,0xc6e00bf3,0xd5a79147,0x06ca6351,0x14292967,
 0x27b70a85,0x2e1b2138,0x4d2c6dfc,0x53380d13,0x650a7354,0x766a0abb,0x81c2c92e,0x92722c85,
 0xa2bfe8a1,0xa81a664b,0xc24b8b70,0xc76c51a3,0xd192e819,0xd6990624,0xf40e3585,0x106aa070,
 0x19a4c116,0x1e376c08,0x2748774c,0x34b0bcb5,0x391c0cb3,0x4ed8aa4a,0x5b9cca4f,0x682e6ff3,
 0x748f82ee,0x78a5636f,0x84c87814,0x8cc70208,0x90befffa,0xa4506ceb,0xbef9a3f7,0xc67178f2]
def fill (n:Nat):Nat:=(119 - n % 64) % 64
def pad (n:Nat):List UInt8:=128 :: List.replicate (fill n) 0++be 8 (8*n)
def aaD (s:S8)(l:List UInt8):Nat→S8
 | 0=>s
 | k+1=>comp keyL (aaD s l k) ((l.drop (64*k)).take 64)
def acy (l:List UInt8):List UInt8:=l++pad l.length
def ahN (x:UInt32):List UInt8:=[UInt8.ofNat (x.toNat / 16777216),UInt8.ofNat (x.toNat / 65536),UInt8.ofNat (x.toNat / 256),UInt8.ofNat x.toNat]
def S8.bytes (s:S8):List UInt8:=s.list.flatMap ahN
def aaI (l:List UInt8):List UInt8:=(aaD abm (acy l) ((acy l).length / 64)).bytes
def arO (x:UInt32):Int:=(x.toNat:Int)
theorem alg (x:UInt32):0≤arO x:=Int.natCast_nonneg _
theorem u_lt (x:UInt32):arO x<4294967296:=by unfold arO;have:=x.toNat_lt;omega
theorem u_of (n:Nat)(h:n<4294967296):arO (UInt32.ofNat n)=n:=by
 unfold arO;rw[UInt32.toNat_ofNat'];congr 1
 exact Nat.mod_eq_of_lt h
theorem anf (n:Nat):arO (UInt32.ofNat n)=(n:Int) % 4294967296:=by
 unfold arO;rw[UInt32.toNat_ofNat'];simp
theorem agr (x:UInt32):IntKind.u32.wrap (arO x)=arO x:=by rw[IntKind.wrap_u32];have:=alg x;have:=u_lt x;omega
theorem aoI (x y:UInt32):IntKind.u32.wrap (arO x+arO y)=arO (wadd x y):=by
 rw[IntKind.wrap_u32];unfold arO wadd;rw[UInt32.toNat_add];simp
theorem ang (x:UInt32):BitVec.ofInt IntKind.u32.bits (arO x)=x.toBitVec:=by
 unfold arO;rw[BitVec.ofInt_natCast];apply BitVec.eq_of_toNat_eq;simp[IntKind.bits]
theorem anh (x y:UInt32):bits .xor .u32 (arO x) (arO y)=arO (wxor x y):=by
 simp only[bits,ang];change IntKind.u32.wrap (arO (x ^^^ y))=_;exact agr _
theorem aoJ (x y:UInt32):bits .and .u32 (arO x) (arO y)=arO (wand x y):=by
 simp only[bits,ang];change IntKind.u32.wrap (arO (x &&& y))=_;exact agr _
theorem u_or (x y:UInt32):bits .or .u32 (arO x) (arO y)=arO (wor x y):=by
 simp only[bits,ang];change IntKind.u32.wrap (arO (x ||| y))=_;exact agr _
theorem ani (k:Nat)(x:UInt32):IntKind.u32.wrap (arO x*2 ^ k)=arO (wshl k x):=by
 rw[IntKind.wrap_u32];unfold wshl;rw[anf];unfold arO;simp
theorem ajd (k:Nat)(x:UInt32):arO x / 2 ^ k=arO (wshr k x):=by
 unfold wshr;have h:=x.toNat_lt;have h2:x.toNat / 2 ^ k≤x.toNat:=Nat.div_le_self _ _;rw[u_of _ (by omega)];unfold arO;simp
theorem arf (x:UInt32):arO x / 8=arO (wshr 3 x):=ajd 3 x
theorem aqe (x:UInt32):arO x / 1024=arO (wshr 10 x):=ajd 10 x
theorem aoK (x y:UInt32):wor x y=wor y x:=by unfold wor;exact UInt32.or_comm x y
end Go.Proofs.YthmhklmkgkfcpaaGreatDoor
namespace Go.Proofs.YthmhklmkgkfcpaaGreatDoor
open Go.RowKit
def anj (x:UInt32):Value:=.int .u32 (arO x)
def aal (l:List UInt32):Array Value:=(l.map anj).toArray
def Arr (T:TypeId)(w:World)(g:Nat)(l:List UInt32):Prop:=w.heap[g]?=some (.cells (aal l) T (0,0))
theorem acz (l:List UInt32):(aal l).size=l.length:=by simp[aal]
theorem afc (l:List UInt32)(i:Nat)(h:i<l.length):(aal l)[i]?=some (.int .u32 (arO (l.getD i 0))):=by
 simp[aal,anj,h]
theorem Arr.lt {T:TypeId}{w:World}{g:Nat}{l:List UInt32}(h:Arr T w g l):g<w.heap.size:=(Array.getElem?_eq_some_iff.1 h).1
theorem Arr.cell {T:TypeId}{w:World}{g:Nat}{l:List UInt32}(h:Arr T w g l)(i:Nat)(hi:i<l.length):w.cell? ⟨g,i,none⟩=some (.int .u32 (arO (l.getD i 0))):=by
 rw[cell_of_row w g i _ T _ h,afc l i hi]
theorem Arr.frozen {T:TypeId}{w:World}{g:Nat}{l:List UInt32}(h:Arr T w g l)(i:Nat)(hi:i<l.length):w.frozen? ⟨g,i,none⟩=false:=by
 have h':=h;unfold Arr at h';simp[World.frozen?,h']
theorem Arr.kp {T:TypeId}{w w':World}{g:Nat}{l:List UInt32}(h:Arr T w g l)(k:Kp w w'):Arr T w' g l:=
 (k.block g h.lt).trans h
theorem Arr.below {T:TypeId}{w w':World}{g B:Nat}{l:List UInt32}(h:Arr T w g l)(k:Below B w w')(hg:g<B):Arr T w' g l:=
 (k.block g hg).trans h
theorem Arr.drewN {T:TypeId}{w:World}{g:Nat}{l:List UInt32}(h:Arr T w g l)(n:Nat):Arr T (w.drewN n) g l:=h.kp ((Kp.refl w).drewN n)
theorem Arr.drew {T:TypeId}{w:World}{g:Nat}{l:List UInt32}(h:Arr T w g l):Arr T w.drew g l:=h
theorem Arr.alloc {T:TypeId}{w:World}{g:Nat}{l:List UInt32}(h:Arr T w g l)(o:Obj):Arr T (w.alloc o) g l:=(Below.heap_alloc w o g h.lt).trans h
theorem Arr.new (T:TypeId)(w:World)(cs:Array Value)(l:List UInt32)(h:cs=aal l):Arr T (w.alloc (.cells cs T)) w.heap.size l:=by
 subst h;exact heap_alloc_new w _
theorem alR (l:List UInt32)(i:Nat)(x:UInt32):(aal l).setIfInBounds i (anj x)=aal (l.set i x):=by
 apply Array.ext';simp[aal,List.map_set]
theorem Arr.set {T:TypeId}{w:World}{g:Nat}{l:List UInt32}(h:Arr T w g l)(i:Nat)(x:UInt32)(v:Value)(hv:v=.int .u32 (arO x)):Arr T (w.setCell ⟨g,i,none⟩ v) g (l.set i x):=by
 subst hv;have h':=h;unfold Arr at h' ⊢;obtain ⟨hlt,heq⟩:=Array.getElem?_eq_some_iff.1 h';have e:=alR l i x;unfold anj at e;simp[World.setCell,hlt,Array.getElem_modify,heq,e]
theorem Arr.setTo {T:TypeId}{w:World}{g:Nat}{l m:List UInt32}(h:Arr T w g l)(i:Nat)(x:UInt32)(hm:l.set i x=m):Arr T (w.setCell ⟨g,i,none⟩ (.int .u32 (arO x))) g m:=hm▸h.set i x _ rfl
theorem Arr.other {T:TypeId}{w:World}{g:Nat}{l:List UInt32}(h:Arr T w g l)(a:Addr)(v:Value)(hne:g≠a.block):Arr T (w.setCell a v) g l:=
 (Below.heap_setCell w a v g hne).trans h
section
variable {P : Program}
theorem aaF {T ty e:TypeId}{n:Nat}(hu:P.underlying ty=some (.array n e))(hi:(P.info? ty).map (·.size)=some n){ops:Array Oper}{rest:List Oper}{o:Oper}{a:Act}{w:World}{Q:Exit→Act→World→Prop}(hgd:o.guard=none)(x:Operand)(ho:o.op=.load ty x)
  (g:Nat) (l:List UInt32) (hx:a.eval x=.pointer (some ⟨g,0,none⟩)) (h:Arr T w g l) (hl:l.length=n)
  (hK:wpList P ops Q rest (a.put o.dst (.agg (aal l))) w):wpList P ops Q (o :: rest) a w:=
 wpList_load_row hgd ty x ho g hx T (aal l) (0,0) _ h hu rfl (by rw[hi,acz,hl]) hK
theorem alS (l:List UInt32):(aal l).all (·.oneCell')=true:=by
 rw[Array.all_eq_true_iff_forall_mem];intro v hv;simp only[aal,List.mem_toArray,List.mem_map] at hv;obtain ⟨x,_,rfl⟩:=hv;rfl
theorem Arr.setRow {T:TypeId}{w:World}{g:Nat}{l:List UInt32}(h:Arr T w g l)(m:List UInt32):Arr T (w.setRow g (aal m)) g m:=by
 unfold Arr at h ⊢;obtain ⟨hlt,heq⟩:=Array.getElem?_eq_some_iff.1 h;simp[World.setRow,hlt,Array.getElem_modify,heq]
theorem setRow_other (w:World)(g k:Nat)(cs:Array Value)(h:k≠g):(w.setRow g cs).heap[k]?=w.heap[k]?:=by
 simp only[World.setRow];rw[Array.getElem?_modify,if_neg (Ne.symm h)]
theorem Arr.setRow_other {T:TypeId}{w:World}{g k:Nat}{l:List UInt32}(h:Arr T w k l)(cs:Array Value)(hne:k≠g):Arr T (w.setRow g cs) k l:=
 (Go.Proofs.YthmhklmkgkfcpaaGreatDoor.setRow_other w g k cs hne).trans h
theorem below_setRow {B:Nat}{a w:World}(h:Below B a w){g:Nat}(hg:B≤g)(cs:Array Value):Below B a (w.setRow g cs):=
 ⟨h.os,h.tape,h.output,by simpa [World.setRow] using h.size,fun k hk=>(setRow_other w g k cs (by omega)).trans (h.block k hk)⟩
theorem adF {T ty:TypeId}{n:Nat}(hi:(P.info? ty).map (·.size)=some n){ops:Array Oper}{rest:List Oper}{o:Oper}{a:Act}{w:World}{Q:Exit→Act→World→Prop}(hgd:o.guard=none)(x y:Operand)(ho:o.op=.store ty x y)
  (g:Nat) (l m:List UInt32) (hx:a.eval x=.pointer (some ⟨g,0,none⟩)) (hy:a.eval y=.agg (aal m)) (h:Arr T w g l) (hl:l.length=n) (hm:m.length=n)
  (hK:wpList P ops Q rest (a.put o.dst undef) (w.setRow g (aal m))):wpList P ops Q (o :: rest) a w:=
 wpList_store_row hgd ty x y ho g (aal m) hx hy T (aal l) h (by rw[hi,acz,hm]) (by rw[acz,acz,hl,hm]) (alS m) hK
theorem aaT {t e:TypeId}{z:Value}{b:Nat}(ht:P.underlying t=some (.slice e))(hinfo:(P.info? e).map (fun i=>(i.zero,i.size,i.bytes))=some (some z,1,b))(hz:z.cells=#[z])(hb:b≤8)
  {ops:Array Oper} {rest:List Oper} {o:Oper} {a:Act} {w:World} {Q:Exit→Act→World→Prop} (hg:o.guard=none) (l c:Operand) (hop:o.op=Op.makeSlice t l c) (n:Nat) (hl:a.eval l=.int .i64 n) (hc:a.eval c=.int .i64 n) (hn:n≤1000000)
  (hK:∀ W,W=w.alloc (.cells (Array.replicate n z) e)→wpList P ops Q rest (a.put o.dst (.slice (some ⟨w.heap.size,0,none⟩) n n)) W):wpList P ops Q (o :: rest) a w:=by
 obtain ⟨i,hi,hz0,hz1,hz2⟩:=info_parts hinfo;refine wpList_plain hg fun K hK'=>?_
 have hbb:(i.bytes:Int)*(n:Int)≤281474976710656:=by
  rw[hz2];have h:=Nat.mul_le_mul hb hn;have h2:((b*n:Nat):Int)≤((8*1000000:Nat):Int):=by omega
  rw[Int.natCast_mul] at h2;omega
 have hr:=run_make (P:=P) w t e i z ht hi hz0 .i64 .i64 n n (by omega) (Int.le_refl _) hbb (by omega);have hm:madeCells #[z] n=Array.replicate n z:=by
  apply Array.ext';rw[toList_madeCells_one];simp
 rw[hz,hz1,Int.toNat_natCast,Nat.mul_one,hm] at hr;unfold Oper.wp;simp[execOp,hop,hl,hc,hr,Result.andThen];exact hK' _ _ (hK _ rfl)
structure But (g:Nat)(w W:World):Prop where
 below:∀ {B:Nat} {a:World},Below B a w→B≤g→Below B a W
 arr:∀ {T:TypeId} {k:Nat} {l:List UInt32},Arr T w k l→k≠g→Arr T W k l
 size:W.heap.size=w.heap.size
 other:∀ k,k≠g→W.heap[k]?=w.heap[k]?
theorem But.setRow (g:Nat)(w:World)(cs:Array Value):But g w (w.setRow g cs):=⟨fun h hb=>below_setRow h hb cs,fun h hne=>h.setRow_other cs hne,by simp[World.setRow],fun k hk=>Go.Proofs.YthmhklmkgkfcpaaGreatDoor.setRow_other w g k cs hk⟩
theorem aaq {T ty:TypeId}{n:Nat}(hi:(P.info? ty).map (·.size)=some n){ops:Array Oper}{rest:List Oper}{o:Oper}{a:Act}{w:World}{Q:Exit→Act→World→Prop}(hgd:o.guard=none)(hd:o.dst=none)(x y:Operand)(ho:o.op=.store ty x y)
  (g:Nat) (l m:List UInt32) (hx:a.eval x=.pointer (some ⟨g,0,none⟩)) (hy:a.eval y=.agg (aal m)) (h:Arr T w g l) (hl:l.length=n) (hm:m.length=n)
  (hK:∀ W,Arr T W g m→But g w W→wpList P ops Q rest a W):wpList P ops Q (o :: rest) a w:=
 adF hi hgd x y ho g l m hx hy h hl hm (by rw[hd];exact hK _ (h.setRow m) (But.setRow g w _))
theorem abZ {T ty e:TypeId}{n:Nat}(hu:P.underlying ty=some (.array n e))(hi:(P.info? ty).map (·.size)=some n){fn:Func}{p:Tmp}(hr:fn.results=#[.cell p ty])(tmps:Array Value)(w:World)(g:Nat)(l:List UInt32)
  (hp:tmps.getD p undef=.pointer (some ⟨g,0,none⟩)) (h:Arr T w g l) (hl:l.length=n):(results fn tmps).run P w=.ok (.agg (aal l)) w:=
 results_cell_row hr tmps w g T (aal l) (0,0) _ hp h hu rfl (by rw[hi,acz,hl])
end
def By (T:TypeId)(w:World)(g:Nat)(l:List UInt8):Prop:=w.heap[g]?=some (.cells (Lib.byteCells l).toArray T (0,0))
theorem By.lt {T:TypeId}{w:World}{g:Nat}{l:List UInt8}(h:By T w g l):g<w.heap.size:=(Array.getElem?_eq_some_iff.1 h).1
theorem By.cell {T:TypeId}{w:World}{g:Nat}{l:List UInt8}(h:By T w g l)(i:Nat)(hi:i<l.length):w.cell? ⟨g,i,none⟩=some (.int .u8 ((l.getD i 0).toNat:Int)):=by
 rw[cell_of_row w g i _ T _ h];simp[Lib.byteCells,hi]
theorem By.frozen {T:TypeId}{w:World}{g:Nat}{l:List UInt8}(h:By T w g l)(i:Nat):w.frozen? ⟨g,i,none⟩=false:=by
 have h':=h;unfold By at h';simp[World.frozen?,h']
theorem By.kp {T:TypeId}{w w':World}{g:Nat}{l:List UInt8}(h:By T w g l)(k:Kp w w'):By T w' g l:=(k.block g h.lt).trans h
theorem By.set {T:TypeId}{w:World}{g:Nat}{l m:List UInt8}(h:By T w g l)(i:Nat)(x:UInt8)(hm:l.set i x=m):By T (w.setCell ⟨g,i,none⟩ (.int .u8 (x.toNat:Int))) g m:=by
 subst hm;have h':=h;unfold By at h' ⊢;obtain ⟨hlt,heq⟩:=Array.getElem?_eq_some_iff.1 h';simp[World.setCell,hlt,Array.getElem_modify,heq,Lib.byteCells,List.map_set]
theorem By.rd {T:TypeId}{w:World}{g n c:Nat}{l:List UInt8}(h:By T w g l)(hn:n≤l.length)(hc:n≤c)(hm:c≤maxLen):Rd w (.slice (some ⟨g,0,none⟩) n c) (l.take n):=by
 have e:(l.take n).length=n:=by simp;omega
 refine ⟨some ⟨g,0,none⟩,c,by rw[e],by rw[e];exact hc,hm,fun h=>(by cases h),fun x hx i hi=>?_⟩;cases hx;rw[e] at hi;have:=h.cell i (by omega);rw[List.getElem_take];rw[List.getD_eq_getElem?_getD,List.getElem?_eq_getElem (by omega)] at this;rw[← Option.getD_some (a:=l[i]) (b:=0),← this];congr 1
 unfold Addr.add;split <;> simp_all
theorem By.rdAll {T:TypeId}{w:World}{g n c:Nat}{l:List UInt8}(h:By T w g l)(hn:n=l.length)(hc:n≤c)(hm:c≤maxLen):Rd w (.slice (some ⟨g,0,none⟩) n c) l:=by
 have:=h.rd (n:=n) (by omega) hc hm;rwa [List.take_of_length_le (by omega)] at this
theorem By.fresh (T:TypeId)(w:World)(n:Nat):By T (w.alloc (.cells (Array.replicate n (.int .u8 0)) T)) w.heap.size (List.replicate n 0):=by
 have:=heap_alloc_new w (.cells (Array.replicate n (.int .u8 0)) T);unfold By;rw[this];simp[Lib.byteCells]
def mixB (A B:List UInt8)(i:Nat):List UInt8:=B.take i++A.drop i
theorem aaV (A B:List UInt8)(i:Nat)(h:A.length=B.length)(hi:i≤A.length):(mixB A B i).length=A.length:=by simp[mixB];omega
theorem acn (A B:List UInt8)(i:Nat)(h:A.length=B.length)(hi:i<A.length)(x:UInt8)(hx:B[i]?=some x):(mixB A B i).set i x=mixB A B (i+1):=by
 unfold mixB;have hb:i<B.length:=by omega
 have hl:(B.take i).length=i:=by simp;omega
 rw[List.getElem?_eq_getElem hb] at hx;rw[List.set_append_right _ _ (by omega),hl,Nat.sub_self,List.drop_eq_getElem_cons hi,List.set_cons_zero,List.take_succ_eq_append_getElem hb,List.append_assoc];cases hx;rfl
theorem adg (A B:List UInt8)(h:A.length=B.length):mixB A B B.length=B:=by
 unfold mixB;rw[List.take_of_length_le (Nat.le_refl _),List.drop_eq_nil_of_le (by omega),List.append_nil]
theorem ank:∀ (w N k:Nat),k<w→(be w N)[k]?=some (UInt8.ofNat (N / 256 ^ (w - 1 - k)))
 | 0,_,k,h=>by omega
 | w+1,N,0,_=>by rw[aeo];simp
 | w+1,N,k+1,h=>by
  rw[aeo,List.getElem?_cons_succ,ank w N k (by omega)]
  congr 4
  omega
theorem afd (n:Nat):fill n<64:=by unfold fill;omega
theorem acs (n:Nat):(pad n).length=9+fill n:=by simp[pad,aak];omega
theorem aje (n:Nat):(n+(pad n).length) % 64=0:=by rw[acs];unfold fill;omega
theorem aqf (n k:Nat)(h:k<8):(pad n)[1+fill n+k]?=some (UInt8.ofNat (8*n / 256 ^ (7 - k))):=by
 have e:(128 :: List.replicate (fill n) 0:List UInt8).length=1+fill n:=by simp;omega
 have hp:pad n=(128 :: List.replicate (fill n) 0)++be 8 (8*n):=rfl;rw[hp,List.getElem?_append_right (by omega),e,show 1+fill n+k - (1+fill n)=k by omega,ank 8 _ k h]
theorem anl (n:Nat):(List.replicate (9+fill n) (0:UInt8)).set 0 128=mixB (List.replicate (9+fill n) 0) (pad n) (1+fill n):=by
 have e:(128 :: List.replicate (fill n) 0:List UInt8).length=1+fill n:=by simp;omega
 have hp:pad n=(128 :: List.replicate (fill n) 0)++be 8 (8*n):=rfl;unfold mixB;rw[hp,List.take_append_of_le_length (by omega),List.take_of_length_le (by omega),List.drop_replicate,show 9+fill n=(fill n+8)+1 by omega,List.replicate_succ,List.set_cons_zero,show fill n+8+1 - (1+fill n)=8 by omega,List.cons_append,List.replicate_append_replicate]
def ajf (n:Int):List UInt8:=if 0≤n∧n≤1125899906842624 then pad n.toNat else []
theorem af6 (u v:Value)(l m:List UInt8)(w:World)(h:Rd w u l)(h':Rd w v m):
  Calls Tryz.prog 29 #[u,v] w fun e w'=>e=.returned (.bool (decide (l=m)))∧w=w':=by
 have c1:=aeC w 24 9 5 u l h Tryz.underlying24 Tryz.underlying5 Tryz.underlying9;have c2:=aeC w 24 9 5 v m h' Tryz.underlying24 Tryz.underlying5 Tryz.underlying9;go_enter Tryz.func29,Tryz.ntmps29;go_wp2;go_ret;exact ⟨by simp[Bool.beq_eq_decide_eq],rfl⟩
theorem Tryz.info5:(Tryz.prog.info? 5).map (fun i=>(i.zero,i.size,i.bytes))=some (some (.int .u8 0),1,1):=by kernel_rfl
theorem arN:U8 Tryz.prog 24 5:=U8.mk' Tryz.underlying24 Tryz.info5
def abb (n x:Nat):Nat:=(2*x+n / (x*x)) / 3
def agt:Nat→Nat→Nat→Nat
 | 0,_,x=>x
 | f+1,n,x=>if x≤abb n x then x else agt f n (abb n x)
def abA (n:Nat):Nat:=agt 2097152 n 2097152
theorem alU (f n x:Nat)(h:x≤abb n x):agt f n x=x:=by
 cases f with
 | zero=>rfl
 | succ f=>simp[agt,h]
theorem aoP (f n x:Nat)(hf:x≤f)(h:¬x≤abb n x):∃ g,abb n x≤g∧agt g n (abb n x)=agt f n x:=by
 cases f with
 | zero=>omega
 | succ f=>exact ⟨f,by omega,by simp[agt,h]⟩
theorem afA (n x:Nat)(h0:1≤n)(hx:1≤x):1≤abb n x:=by
 unfold abb;by_cases h:x=1
 ·subst h
  simp;omega
 ·generalize n / (x*x)=d
  omega
theorem agu:∀ (f n x:Nat),1≤n→1≤x→1≤agt f n x∧agt f n x≤x
 | 0,n,x,_,h=>⟨h,Nat.le_refl _⟩
 | f+1,n,x,h0,h=>by
  unfold agt
  split
  ·exact ⟨h,Nat.le_refl _⟩
  ·have:=agu f n (abb n x) h0 (afA n x h0 h)
   omega
def abJ (p:Nat):Nat:=p*18014398509481984
def anp (p:Nat):Nat:=abJ p - abA (abJ p)*abA (abJ p)*abA (abJ p)
def aqg (p:Nat):Nat:=abA (abJ p)*16384+anp p*16384 / (3*abA (abJ p)*abA (abJ p))
def anq (p:Nat):UInt32:=UInt32.ofNat (aqg p)
def fits (p:Nat):Bool:=decide (abA (abJ p)*abA (abJ p)*abA (abJ p)≤abJ p) && decide (anp p<281474976710656)
theorem aoQ:∀ p:Fin 312,p.val=0∨fits p.val=true:=by decide +kernel
def mark:Nat→Nat→Nat→List Bool→List Bool
 | 0,_,_,D=>D
 | f+1,p,n,D=>if n<312 then mark f p (n+p) (D.set n true) else D
theorem aoR (f p n:Nat)(D:List Bool)(h:¬n<312):mark f p n D=D:=by
 cases f with
 | zero=>rfl
 | succ f=>simp[mark,h]
theorem aqh (f p n:Nat)(D:List Bool)(h:n<312)(hp:1≤p)(hf:312≤f+n):∃ g,312≤g+(n+p)∧mark g p (n+p) (D.set n true)=mark f p n D:=by
 cases f with
 | zero=>omega
 | succ f=>exact ⟨f,by omega,by simp[mark,h]⟩
theorem agv:∀ (f p n:Nat) (D:List Bool),(mark f p n D).length=D.length
 | 0,_,_,_=>rfl
 | f+1,p,n,D=>by
  unfold mark
  split
  ·rw[agv f];simp
  ·rfl
structure aqi where
 D:List Bool
 ps:List Nat
def aeF (p:Nat)(s:aqi):aqi:=if s.D.getD p false then s else ⟨mark 312 p (p*p) s.D,s.ps++[p]⟩
def abN:Nat→aqi
 | 0=>⟨List.replicate 312 false,[]⟩
 | p+1=>if p<2 then abN p else aeF p (abN p)
theorem acK:∀ p,(abN p).D.length=312
 | 0=>List.length_replicate
 | p+1=>by
  unfold abN
  split
  ·exact acK p
  ·unfold aeF
   split
   ·exact acK p
   ·rw[agv];exact acK p
def acW (i:Nat):Nat:=(abN 312).ps.getD i 0
theorem anr:(abN 312).ps.length=64:=by decide +kernel
theorem aqj:(List.range 64).map (fun i=>anq (acW i))=keyL:=by decide +kernel
theorem ail:∀ i:Fin 64,1≤acW i.val∧acW i.val<312:=by decide +kernel
theorem alV:∀ p:Fin 312,(abN p.val).D.getD p.val false=true∨p.val<2∨(acW (abN p.val).ps.length=p.val∧(abN p.val).ps.length<64):=by decide +kernel
theorem alW (p:Nat)(h:(abN p).D.getD p false=true)(h2:2≤p):abN (p+1)=abN p:=by
 rw[abN,if_neg (by omega),aeF,if_pos h]
theorem alX (p:Nat)(h:(abN p).D.getD p false=false)(h2:2≤p):abN (p+1)=⟨mark 312 p (p*p) (abN p).D,(abN p).ps++[p]⟩:=by
 rw[abN,if_neg (by omega),aeF,if_neg (by rw[h];decide)]
theorem adh {P:Program}(w:World)(t e:TypeId)(n:Nat)(ie:TypeInfo)(d:TypeDesc)(h:P.underlying t=some (.array n e))(hi:P.info? e=some ie)(hs:ie.size=1)(hd:P.underlying e=some d)
  (hp:(match d with | .struct _ | .array _ _=>true | _=>false)=false) (cs:Array Value) (hn:cs.size=n) (i:Nat) (hlt:i<n) (v:Value) (hv:cs[i]?=some v):
  (Instr.index t (.agg cs) (.int .i64 i)).run P w=.ok v w:=by
 have hr:(0≤(i:Int)∧(i:Int)<(n:Int)):=by omega
 have hagg:(isAgg e).run P w=.ok false w:=by
  unfold isAgg;rw[Sem.run_bind,run_underlying hd w];cases d <;> simp_all
 simp[Instr.index,run_underlying h,asIntOf,hr,go_sem,part,sizeOf,typeInfo,hi,hs,hagg,hv,Sem.run_bind];intro hge;omega
def xorB (l:List UInt8)(x:UInt8):List UInt8:=l.map fun b=>b ^^^ x
def blkB (l:List UInt8):List UInt8:=l++List.replicate (64 - l.length) 0
def keyB (k:List UInt8):List UInt8:=blkB (if 64<k.length then aaI k else k)
def macB (k b:List UInt8):List UInt8:=aaI (xorB (keyB k) 92++aaI (xorB (keyB k) 54++b))
theorem abH (l:List UInt8)(x:UInt8):(xorB l x).length=l.length:=by simp[xorB]
theorem aoW (l:List UInt8)(x:UInt8)(i:Nat)(h:i<l.length):(xorB l x)[i]?=some (l.getD i 0 ^^^ x):=by
 simp[xorB,List.getD_eq_getElem?_getD,List.getElem?_eq_getElem h]
theorem akk (l m:List UInt8)(x:UInt8):xorB (l++m) x=xorB l x++xorB m x:=by simp[xorB]
theorem agw (l:List UInt8)(h:l.length≤64):(blkB l).length=64:=by simp[blkB];omega
theorem akl (x y:UInt8):bits .xor .u8 (x.toNat:Int) (y.toNat:Int)=((x ^^^ y).toNat:Int):=by
 have e:∀ z:UInt8,BitVec.ofInt IntKind.u8.bits (z.toNat:Int)=z.toBitVec:=fun z=>by
  rw[BitVec.ofInt_natCast];apply BitVec.eq_of_toNat_eq;simp[IntKind.bits]
 simp only[bits,e];change IntKind.u8.wrap (((x ^^^ y).toNat:Nat):Int)=_;rw[IntKind.wrap_u8];have:=(x ^^^ y).toNat_lt;omega
theorem ari (x y:UInt8):bits .or .u8 (x.toNat:Int) (y.toNat:Int)=((x ||| y).toNat:Int):=by
 have e:∀ z:UInt8,BitVec.ofInt IntKind.u8.bits (z.toNat:Int)=z.toBitVec:=fun z=>by
  rw[BitVec.ofInt_natCast];apply BitVec.eq_of_toNat_eq;simp[IntKind.bits]
 simp only[bits,e];change IntKind.u8.wrap (((x ||| y).toNat:Nat):Int)=_;rw[IntKind.wrap_u8];have:=(x ||| y).toNat_lt;omega
theorem aoX (a b:UInt8):a ||| b=0↔a=0∧b=0:=by
 constructor
 ·intro h
  have h':a.toBitVec ||| b.toBitVec=0#8:=by rw[← UInt8.toBitVec_or,h];rfl
  constructor
  ·apply UInt8.toBitVec_inj.1
   exact (BitVec.or_eq_zero_iff.1 h').1
  ·apply UInt8.toBitVec_inj.1
   exact (BitVec.or_eq_zero_iff.1 h').2
 ·rintro ⟨rfl,rfl⟩;rfl
theorem anv (a b:UInt8):a ^^^ b=0↔a=b:=by
 constructor
 ·intro h
  have:a ^^^ b ^^^ b=0 ^^^ b:=by rw[h]
  rw[UInt8.xor_assoc,UInt8.xor_self,UInt8.xor_zero,UInt8.zero_xor] at this;exact this
 ·rintro rfl;exact UInt8.xor_self
def orT (l m:List UInt8):Nat→UInt8
 | 0=>0
 | k+1=>orT l m k ||| (l.getD k 0 ^^^ m.getD k 0)
theorem alk (l m:List UInt8):∀ k,k≤l.length→k≤m.length→(orT l m k=0↔l.take k=m.take k)
 | 0,_,_=>by simp[orT]
 | k+1,h,h'=>by
  rw[orT,aoX,anv,alk l m k (by omega) (by omega),aeB l k (by omega),aeB m k (by omega)]
  constructor
  ·rintro ⟨a,b⟩;rw[a,b]
  ·intro e
   have:=List.append_inj e (by simp;omega)
   exact ⟨this.1,by simpa using this.2⟩
theorem aqm (l m:List UInt8)(h:l.length=m.length):decide (orT l m l.length=0)=decide (l=m):=by
 have:=alk l m l.length (Nat.le_refl _) (by omega);rw[List.take_length,h,List.take_length,← h] at this;exact decide_eq_decide.2 this
theorem aqo (z u:Value)(c:List Value)(m:Nat):(List.replicate (m+1) z++c).set m u=List.replicate m z++u :: c:=by
 rw[List.set_append_left _ _ (by simp),List.replicate_succ',List.set_append_right _ _ (by simp)];simp
theorem adG (n:Int)(k:Nat)(w:World)(h0:0≤n)(h1:1≤k)(h7:k≤7):
  Calls Tryz.prog 135 #[.int .i64 n,.int .i64 k] w fun e w'=>∃ v,e=.returned v∧Ow 5 w' w.heap.size v (be k n.toNat)∧Kp w w':=by
 obtain ⟨i0,hi,hz0,hz1,hz2⟩:=info_parts Tryz.info5;obtain ⟨n,rfl⟩:=Int.eq_ofNat_of_zero_le h0;rw[Int.toNat_natCast];go_enter Tryz.func135,Tryz.ntmps135;go_wp2_with (at_make;refine wpList_make_full _ rfl _ _ 24 rfl w.heap.size 5 i0 (.int .u8 0) 1 Tryz.underlying24 hi hz0 hz1 _ _ _ _ k rfl rfl rfl rfl ?b1 ?b2 ?b3 ?_)
 case b1=>rw[hz2];omega
 case b2=>unfold maxLen;omega
 case b3=>exact Nat.le_refl _
 intro w1 hown hgr;rw[toList_madeCells_one] at hown;generalize hB:w.heap.size=B at *;have HB:=Lib.hid hB;clear hB;have hk1:Below B w w1:=Below.grown (Below.refl B w) hgr (by rw[HB.out];exact Nat.le_refl _) (by simp);clear hgr;go_wp2;go_loopw[0,6] (fun x i wr=>∃ j:Nat,j≤k∧i=.int .i64 ((j:Int) - 1)∧x=.int .i64 ((n / 256 ^ (k - j):Nat):Int)∧wr.ownsRow B 5 1 (.slice (some ⟨B,0,none⟩) k k) k (List.replicate j (.int .u8 0)++Lib.byteCells (be (k - j) n))∧Below B w wr) (fun _ i _=>(intOf i+1).toNat)
 case atStart=>exact ⟨k,Nat.le_refl _,rfl,by simp,by simpa [be,Lib.byteCells] using hown,hk1⟩
 case round=>
  obtain ⟨j,hj,rfl,rfl,hown,hbel⟩:=hrel;cases j with
  | zero=>
   go_wp2;go_ret;refine ⟨_,rfl,?_,hbel.mono (by rw[HB.out];exact Nat.le_refl _)⟩;have hl:(be k n).length=k:=aak _ _;unfold Ow;rw[HB.out,hl];simpa using hown
  | succ j=>
   have hcell:wr.cell? ⟨B,j,none⟩=some (.int .u8 0):=by
    rw[hown.cellAt j (by omega),List.getElem?_append_left (by simp)];simp
   have hfr:=hown.frozenAt j;rw[show ((j+1:Nat):Int) - 1=j from by omega];generalize hX:n / 256 ^ (k - (j+1))=X at *;have HX:=Lib.hid hX;clear hX;have hown1:=Lib.hid hown;clear hown;go_wp2;go_roundw
   case rel=>
    obtain ⟨t,ht⟩:∃ t,t=k - (j+1):=⟨_,rfl⟩;have hx:=HX.out;have ho:=hown1.out;rw[← ht] at hx ho;have ht1:k - j=t+1:=by omega
    refine ⟨j,by omega,rfl,?_,?_,hbel.setCell (Nat.le_refl _) _⟩
    ·rw[ht1,Nat.pow_succ,← Nat.div_div_eq_div_mul,hx];rfl
    ·have h2:=(ho.stored j (.int .u8 ((X:Int) % 256))).1
     rw[aqo] at h2;rw[ht1,aeo,hx];have e:Value.int .u8 ((X:Int) % 256)=.int .u8 ((UInt8.ofNat X).toNat:Int):=by simp
     rw[e] at h2 ⊢;exact h2
   case measure=>simp[intOf]
theorem alD (x:Nat)(h:x<256):IntKind.u8.wrap (x:Int)=x:=by rw[IntKind.wrap_u8];omega
theorem u8_or (x y:Nat)(hx:x<256)(hy:y<256):bits .or .u8 (x:Int) (y:Int)=((x ||| y:Nat):Int):=by
 have hlt:x ||| y<256:=Nat.or_lt_two_pow (n:=8) hx hy
 change IntKind.u8.wrap (((BitVec.ofInt 8 (x:Int) ||| BitVec.ofInt 8 (y:Int)).toNat:Nat):Int)=_;rw[BitVec.ofInt_natCast,BitVec.ofInt_natCast,BitVec.toNat_or,BitVec.toNat_ofNat,BitVec.toNat_ofNat,Nat.mod_eq_of_lt hx,Nat.mod_eq_of_lt hy,alD _ hlt]
theorem apS (x y:Nat)(hx:x<256)(hy:y<256):bits .xor .u8 (x:Int) (y:Int)=((x ^^^ y:Nat):Int):=by
 have hlt:x ^^^ y<256:=xor_lt hx hy;change IntKind.u8.wrap (((BitVec.ofInt 8 (x:Int) ^^^ BitVec.ofInt 8 (y:Int)).toNat:Nat):Int)=_;rw[BitVec.ofInt_natCast,BitVec.ofInt_natCast,BitVec.toNat_xor,BitVec.toNat_ofNat,BitVec.toNat_ofNat,Nat.mod_eq_of_lt hx,Nat.mod_eq_of_lt hy,alD _ hlt]
theorem abw (x y:UInt8):bits .xor .u8 (x.toNat:Int) (y.toNat:Int)=((x ^^^ y).toNat:Int):=by
 rw[apS _ _ (adH x) (adH y),UInt8.toNat_xor]
theorem amu:allB 256 (fun x=>Nat.beq ((x*2) % 256 ^^^ (x / 128)*27) (gm x 2))=true:=by decide +kernel
theorem act (x:UInt8)(w:World):Calls Tryz.prog 240 #[.int .u8 (x.toNat:Int)] w fun e w'=>e=.returned (.int .u8 ((mulB x 2).toNat:Int))∧w=w':=by
 have hx:=adH x;have h:=Nat.eq_of_beq_eq_true (aaB amu x.toNat hx);have e1:IntKind.u8.wrap ((x.toNat:Int)*2)=((x.toNat*2 % 256:Nat):Int):=by rw[IntKind.wrap_u8];omega
 have e2:(x.toNat:Int) / 128=((x.toNat / 128:Nat):Int):=by omega
 have e3:IntKind.u8.wrap (((x.toNat / 128:Nat):Int)*27)=((x.toNat / 128*27:Nat):Int):=by rw[IntKind.wrap_u8];omega
 have e4:=apS (x.toNat*2 % 256) (x.toNat / 128*27) (by omega) (by omega);rw[h] at e4;have hm:=acN x 2;rw[show (2:UInt8).toNat=2 from rfl] at hm;rw[← hm] at e4;generalize (mulB x 2).toNat=M at *;generalize x.toNat*2 % 256=A at *;generalize hB:x.toNat / 128=B at *;generalize B*27=C at *;generalize x.toNat=X at *;clear h hm hx hB;go_enter Tryz.func240,Tryz.ntmps240;go_wp2;go_ret;exact ⟨rfl,rfl⟩
theorem aqM:allB 5 (fun n=>allB 256 fun x=>Nat.beq ((x*2 ^ n) % 256 ||| x / 2 ^ (8 - n)) ((x*2 ^ n) % 256 ^^^ x / 2 ^ (8 - n)))=true:=by decide +kernel
def aiP (x:UInt8)(n:Nat):UInt8:=UInt8.ofNat (afl x.toNat n)
theorem apu (x:UInt8)(n:Nat):afl x.toNat n<256:=xor_lt (Nat.mod_lt _ (by omega)) (Nat.lt_of_le_of_lt (Nat.div_le_self _ _) (adH x))
theorem ajQ (x:UInt8)(n:Nat):(aiP x n).toNat=afl x.toNat n:=by
 unfold aiP;rw[UInt8.toNat_ofNat',Nat.mod_eq_of_lt (apu x n)]
theorem apw (x:Int)(h0:0≤x)(h1:x<2 ^ 64):bits .and .u64 x 7=x % 8:=
 bits_mask .u64 64 (by decide) (fun n h0 h1=>by simp[IntKind.wrap,IntKind.bits,IntKind.signed];omega) 3 (by decide) x h0 h1
theorem aof (x:UInt8)(i:Nat)(w:World)(h1:i<5):
  Calls Tryz.prog 270 #[.int .u8 (x.toNat:Int),.int .i64 i] w fun e w'=>e=.returned (.int .u8 ((aiP x i).toNat:Int))∧w=w':=by
 have hx:=adH x;have hL:=ajQ x i;have hor:=Nat.eq_of_beq_eq_true (aaB (aaB aqM i h1) x.toNat hx);rw[show (x.toNat*2 ^ i) % 256 ^^^ x.toNat / 2 ^ (8 - i)=afl x.toNat i from rfl,← hL] at hor;generalize (aiP x i).toNat=L at *;generalize x.toNat=X at *;have w1:IntKind.u64.wrap (i:Int)=i:=by simp[IntKind.wrap,IntKind.bits,IntKind.signed];omega
 have w2:=apw (i:Int) (by omega) (by omega);rw[show (i:Int) % 8=i by omega] at w2;have w3:IntKind.u64.wrap (8 - (i:Int))=8 - i:=by simp[IntKind.wrap,IntKind.bits,IntKind.signed];omega
 have e1:(8 - (i:Int)).toNat=8 - i:=by omega
 have hp:(X:Int)*2 ^ i=((X*2 ^ i:Nat):Int):=by rw[Int.natCast_mul,Int.natCast_pow];rfl
 have hs:(X:Int) / 2 ^ (8 - i)=((X / 2 ^ (8 - i):Nat):Int):=by rw[Int.natCast_ediv,Int.natCast_pow];rfl
 have hl:IntKind.u8.wrap ((X:Int)*2 ^ i)=((X*2 ^ i % 256:Nat):Int):=by rw[hp,IntKind.wrap_u8];omega
 have hq:X / 2 ^ (8 - i)<256:=Nat.lt_of_le_of_lt (Nat.div_le_self _ _) hx;have hb:=u8_or (X*2 ^ i % 256) (X / 2 ^ (8 - i)) (by omega) hq;rw[hor] at hb;obtain ⟨P,hP⟩:∃ P,X*2 ^ i % 256=P:=⟨_,rfl⟩;obtain ⟨Q,hQ⟩:∃ Q,X / 2 ^ (8 - i)=Q:=⟨_,rfl⟩;rw[hP] at hl hb;rw[hQ] at hs hb;clear hor hp hP hQ hL hq;go_enter Tryz.func270,Tryz.ntmps270;go_wp2;go_ret;exact ⟨rfl,rfl⟩
def acp (y:UInt8):Nat→UInt8
 | 0=>99
 | n+1=>acp y n ^^^ aiP y n
theorem amv:allB 256 (fun x=>Nat.beq (99 ^^^ afl x 0 ^^^ afl x 1 ^^^ afl x 2 ^^^ afl x 3 ^^^ afl x 4) (ahk x))=true:=by decide +kernel
theorem aiQ (y:UInt8):acp y 5=adI y:=by
 apply afC;rw[agX];simp only[acp,UInt8.toNat_xor,ajQ];exact Nat.eq_of_beq_eq_true (aaB amv y.toNat (adH y))
theorem ah9 (y:UInt8)(w:World):Calls Tryz.prog 263 #[.int .u8 (y.toNat:Int)] w fun e w'=>e=.returned (.int .u8 ((adI y).toNat:Int))∧w=w':=by
 have H5:=Lib.hid (aiQ y);go_enter Tryz.func263,Tryz.ntmps263;go_wp2_with fail;go_loopw[3,5] (fun o p wr=>(∃ (i:Nat),i≤5∧p=.int .i64 i∧o=.int .u8 ((acp y i).toNat:Int))∧w=wr) (fun _ p _=>5 - (intOf p).toNat)
 case atStart=>exact ⟨⟨0,by omega,rfl,rfl⟩,rfl⟩
 case round=>
  obtain ⟨⟨i,hi,rfl,rfl⟩,rfl⟩:=hrel;by_cases hlt:i<5
  ·have hq:(i:Int)<5:=by omega
   have hx:=abw (acp y i) (aiP y i);have hr:=aof y i w hlt;have HX:Hid (acp y i ^^^ aiP y i=acp y (i+1)):=rfl;generalize acp y i ^^^ aiP y i=Z at *;generalize acp y i=U at *;generalize aiP y i=V at *;go_wp2_with (go_at_call 270;refine hr.mono ?_;rintro _ _ ⟨rfl,rfl⟩)
   go_roundw
   case rel=>exact ⟨⟨i+1,by omega,by go_num,by rw[HX.out]⟩,trivial⟩
   case measure=>simp[intOf];omega
  ·obtain rfl:i=5:=by omega
   rw[H5.out];go_wp2_with fail;go_ret;exact ⟨rfl,rfl⟩
theorem wf8 {n:Int}(h:(Lit.int .u8 n).wf=true):0≤n∧n≤255:=by
 have:=bounds_u8 h;omega
end Go.Proofs.YthmhklmkgkfcpaaGreatDoor

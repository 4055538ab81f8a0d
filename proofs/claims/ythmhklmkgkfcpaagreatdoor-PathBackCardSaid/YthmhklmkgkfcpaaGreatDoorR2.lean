import Derived.Test.YthmhklmkgkfcpaaGreatDoorR1
import Derived.Deep.QuietTactic
import Derived.BigQuiet
import Derived.Laws.Rows
import Derived.Laws.Tables
import Derived.Test.YthmhklmkgkfcpaaGreatDoorRows
import Derived.WalkSpells
import Derived.Lib.Hide
import Derived.Outline
import Derived.Laws.PanicsMore
import Derived.ProofKit
import Derived.OpenShut
set_option linter.unusedVariables false
set_option linter.unusedSimpArgs false
set_option maxHeartbeats 8000000
set_option maxRecDepth 100000
namespace Go.Proofs.YthmhklmkgkfcpaaGreatDoor
open Go.RowKit
theorem afg {P:Program}{f:FuncId}{args:Array Value}{w:World}{n:Nat}{v:Value}
  (h:Calls P f args (w.drewN n) fun e w'=>e=.returned v∧w.drewN n=w'):Calls P f args (w.drewN n) fun e w''=>e=.returned v∧∃ m,w''=w.drewN m:=
 h.mono fun _ _ ⟨he,hm⟩=>⟨he,n,hm.symm⟩
theorem Kp.drewN {a b:World}(h:Kp a b)(n:Nat):Kp a (b.drewN n):=by
 induction n with
 | zero=>exact h
 | succ n ih=>exact ih.drew
def Yes (w:World)(e:Ending)(w':World):Prop:=e=.returned (.bool true)∧Kp w w'
end Go.Proofs.YthmhklmkgkfcpaaGreatDoor
namespace Go.Proofs.YthmhklmkgkfcpaaGreatDoor
def wadd (x y:UInt32):UInt32:=x+y
def wxor (x y:UInt32):UInt32:=x ^^^ y
def wand (x y:UInt32):UInt32:=x &&& y
def wor (x y:UInt32):UInt32:=x ||| y
def wnot (x:UInt32):UInt32:=wxor 0xffffffff x
def wshl (k:Nat)(x:UInt32):UInt32:=UInt32.ofNat (x.toNat*2 ^ k)
def wshr (k:Nat)(x:UInt32):UInt32:=UInt32.ofNat (x.toNat / 2 ^ k)
def rotr (k:Nat)(x:UInt32):UInt32:=wor (wshr k x) (wshl (32 - k) x)
def big (i j k:Nat)(x:UInt32):UInt32:=wxor (wxor (rotr i x) (rotr j x)) (rotr k x)
def small (i j k:Nat)(x:UInt32):UInt32:=wxor (wxor (rotr i x) (rotr j x)) (wshr k x)
def adT (a b c d:UInt8):UInt32:=UInt32.ofNat (16777216*a.toNat+65536*b.toNat+256*c.toNat+d.toNat)
def ab7 (l:List UInt8)(w:List UInt32)(t:Nat):UInt32:=
 if t<16 then adT (l.getD (4*t) 0) (l.getD (4*t+1) 0) (l.getD (4*t+2) 0) (l.getD (4*t+3) 0)
 else wadd (wadd (wadd (small 17 19 10 (w.getD (t - 2) 0)) (w.getD (t - 7) 0)) (small 7 18 3 (w.getD (t - 15) 0))) (w.getD (t - 16) 0)
def acE (l:List UInt8):Nat→List UInt32
 | 0=>[]
 | t+1=>acE l t++[ab7 l (acE l t) t]
structure S8 where
 a:UInt32
 b:UInt32
 c:UInt32
 d:UInt32
 e:UInt32
 f:UInt32
 g:UInt32
 h:UInt32
deriving DecidableEq
def S8.list (s:S8):List UInt32:=[s.a,s.b,s.c,s.d,s.e,s.f,s.g,s.h]
def t1 (s:S8)(k w:UInt32):UInt32:=wadd (wadd (wadd (wadd s.h (big 6 11 25 s.e)) (wxor (wand s.e s.f) (wand (wnot s.e) s.g))) k) w
def t2 (s:S8):UInt32:=wadd (big 2 13 22 s.a) (wxor (wxor (wand s.a s.b) (wand s.a s.c)) (wand s.b s.c))
def rnd (s:S8)(k w:UInt32):S8:=⟨wadd (t1 s k w) (t2 s),s.a,s.b,s.c,wadd s.d (t1 s k w),s.e,s.f,s.g⟩
def rnds (k w:List UInt32)(s:S8):Nat→S8
 | 0=>s
 | t+1=>rnd (rnds k w s t) (k.getD t 0) (w.getD t 0)
def S8.add (s r:S8):S8:=⟨wadd s.a r.a,wadd s.b r.b,wadd s.c r.c,wadd s.d r.d,wadd s.e r.e,wadd s.f r.f,wadd s.g r.g,wadd s.h r.h⟩
def comp (k:List UInt32)(s:S8)(l:List UInt8):S8:=s.add (rnds k (acE l 64) s 64)
def abp:S8:=⟨0x6a09e667,0xbb67ae85,0x3c6ef372,0xa54ff53a,0x510e527f,0x9b05688c,0x1f83d9ab,0x5be0cd19⟩
def keyL:List UInt32:=[
 0x428a2f98,0x71374491,0xb5c0fbcf,0xe9b5dba5,0x3956c25b,0x59f111f1,0x923f82a4,0xab1c5ed5,
 0xd807aa98,0x12835b01,0x243185be,0x550c7dc3,0x72be5d74,0x80deb1fe,0x9bdc06a7,0xc19bf174,
 0xe49b69c1,0xefbe4786,0x0fc19dc6,0x240ca1cc,0x2de92c6f,0x4a7484aa,0x5cb0a9dc,0x76f988da,
 0x983e5152,0xa831c66d,0xb00327c8,0xbf597fc7,0xc6e00bf3,0xd5a79147,0x06ca6351,0x14292967,
 0x27b70a85,0x2e1b2138,0x4d2c6dfc,0x53380d13,0x650a7354,0x766a0abb,0x81c2c92e,0x92722c85,
 0xa2bfe8a1,0xa81a664b,0xc24b8b70,0xc76c51a3,0xd192e819,0xd6990624,0xf40e3585,0x106aa070,
 0x19a4c116,0x1e376c08,0x2748774c,0x34b0bcb5,0x391c0cb3,0x4ed8aa4a,0x5b9cca4f,0x682e6ff3,
 0x748f82ee,0x78a5636f,0x84c87814,0x8cc70208,0x90befffa,0xa4506ceb,0xbef9a3f7,0xc67178f2]
def fill (n:Nat):Nat:=(119 - n % 64) % 64
def pad (n:Nat):List UInt8:=128 :: List.replicate (fill n) 0++be 8 (8*n)
def aaB (s:S8)(l:List UInt8):Nat→S8
 | 0=>s
 | k+1=>comp keyL (aaB s l k) ((l.drop (64*k)).take 64)
def acF (l:List UInt8):List UInt8:=l++pad l.length
def ahV (x:UInt32):List UInt8:=[UInt8.ofNat (x.toNat / 16777216),UInt8.ofNat (x.toNat / 65536),UInt8.ofNat (x.toNat / 256),UInt8.ofNat x.toNat]
def S8.bytes (s:S8):List UInt8:=s.list.flatMap ahV
def aaK (l:List UInt8):List UInt8:=(aaB abp (acF l) ((acF l).length / 64)).bytes
def ar6 (x:UInt32):Int:=(x.toNat:Int)
theorem alv (x:UInt32):0≤ar6 x:=Int.natCast_nonneg _
theorem u_lt (x:UInt32):ar6 x<4294967296:=by unfold ar6;have:=x.toNat_lt;omega
theorem u_of (n:Nat)(h:n<4294967296):ar6 (UInt32.ofNat n)=n:=by
 unfold ar6;rw[UInt32.toNat_ofNat'];congr 1
 exact Nat.mod_eq_of_lt h
theorem anx (n:Nat):ar6 (UInt32.ofNat n)=(n:Int) % 4294967296:=by
 unfold ar6;rw[UInt32.toNat_ofNat'];simp
theorem agA (x:UInt32):IntKind.u32.wrap (ar6 x)=ar6 x:=by rw[IntKind.wrap_u32];have:=alv x;have:=u_lt x;omega
theorem aoY (x y:UInt32):IntKind.u32.wrap (ar6 x+ar6 y)=ar6 (wadd x y):=by
 rw[IntKind.wrap_u32];unfold ar6 wadd;rw[UInt32.toNat_add];simp
theorem anz (x:UInt32):BitVec.ofInt IntKind.u32.bits (ar6 x)=x.toBitVec:=by
 unfold ar6;rw[BitVec.ofInt_natCast];apply BitVec.eq_of_toNat_eq;simp[IntKind.bits]
theorem anA (x y:UInt32):bits .xor .u32 (ar6 x) (ar6 y)=ar6 (wxor x y):=by
 simp only[bits,anz];change IntKind.u32.wrap (ar6 (x ^^^ y))=_;exact agA _
theorem aoZ (x y:UInt32):bits .and .u32 (ar6 x) (ar6 y)=ar6 (wand x y):=by
 simp only[bits,anz];change IntKind.u32.wrap (ar6 (x &&& y))=_;exact agA _
theorem u_or (x y:UInt32):bits .or .u32 (ar6 x) (ar6 y)=ar6 (wor x y):=by
 simp only[bits,anz];change IntKind.u32.wrap (ar6 (x ||| y))=_;exact agA _
theorem anB (k:Nat)(x:UInt32):IntKind.u32.wrap (ar6 x*2 ^ k)=ar6 (wshl k x):=by
 rw[IntKind.wrap_u32];unfold wshl;rw[anx];unfold ar6;simp
theorem ajs (k:Nat)(x:UInt32):ar6 x / 2 ^ k=ar6 (wshr k x):=by
 unfold wshr;have h:=x.toNat_lt;have h2:x.toNat / 2 ^ k≤x.toNat:=Nat.div_le_self _ _;rw[u_of _ (by omega)];unfold ar6;simp
theorem arz (x:UInt32):ar6 x / 8=ar6 (wshr 3 x):=ajs 3 x
theorem aqB (x:UInt32):ar6 x / 1024=ar6 (wshr 10 x):=ajs 10 x
theorem ao0 (x y:UInt32):wor x y=wor y x:=by unfold wor;exact UInt32.or_comm x y
end Go.Proofs.YthmhklmkgkfcpaaGreatDoor
namespace Go.Proofs.YthmhklmkgkfcpaaGreatDoor
open Go.RowKit
def anC (x:UInt32):Value:=.int .u32 (ar6 x)
def aal (l:List UInt32):Array Value:=(l.map anC).toArray
def Arr (T:TypeId)(w:World)(g:Nat)(l:List UInt32):Prop:=w.heap[g]?=some (.cells (aal l) T (0,0))
theorem acG (l:List UInt32):(aal l).size=l.length:=by simp[aal]
theorem afl (l:List UInt32)(i:Nat)(h:i<l.length):(aal l)[i]?=some (.int .u32 (ar6 (l.getD i 0))):=by
 simp[aal,anC,h]
theorem Arr.lt {T:TypeId}{w:World}{g:Nat}{l:List UInt32}(h:Arr T w g l):g<w.heap.size:=(Array.getElem?_eq_some_iff.1 h).1
theorem Arr.cell {T:TypeId}{w:World}{g:Nat}{l:List UInt32}(h:Arr T w g l)(i:Nat)(hi:i<l.length):w.cell? ⟨g,i,none⟩=some (.int .u32 (ar6 (l.getD i 0))):=by
 rw[cell_of_row w g i _ T _ h,afl l i hi]
theorem Arr.frozen {T:TypeId}{w:World}{g:Nat}{l:List UInt32}(h:Arr T w g l)(i:Nat)(hi:i<l.length):w.frozen? ⟨g,i,none⟩=false:=by
 have h':=h;unfold Arr at h';simp[World.frozen?,h']
theorem Arr.kp {T:TypeId}{w w':World}{g:Nat}{l:List UInt32}(h:Arr T w g l)(k:Kp w w'):Arr T w' g l:=
 (k.block g h.lt).trans h
theorem Arr.below {T:TypeId}{w w':World}{g B:Nat}{l:List UInt32}(h:Arr T w g l)(k:Below B w w')(hg:g<B):Arr T w' g l:=
 (k.block g hg).trans h
theorem Arr.drewN {T:TypeId}{w:World}{g:Nat}{l:List UInt32}(h:Arr T w g l)(n:Nat):Arr T (w.drewN n) g l:=h.kp ((Kp.refl w).drewN n)
theorem Arr.drew {T:TypeId}{w:World}{g:Nat}{l:List UInt32}(h:Arr T w g l):Arr T w.drew g l:=h
theorem Arr.alloc {T:TypeId}{w:World}{g:Nat}{l:List UInt32}(h:Arr T w g l)(o:Obj):Arr T (w.alloc o) g l:=(Below.heap_alloc w o g h.lt).trans h
theorem Arr.new (T:TypeId)(w:World)(cs:Array Value)(l:List UInt32)(h:cs=aal l):Arr T (w.alloc (.cells cs T)) w.heap.size l:=by
 subst h;exact heap_alloc_new w _
theorem al4 (l:List UInt32)(i:Nat)(x:UInt32):(aal l).setIfInBounds i (anC x)=aal (l.set i x):=by
 apply Array.ext';simp[aal,List.map_set]
theorem Arr.set {T:TypeId}{w:World}{g:Nat}{l:List UInt32}(h:Arr T w g l)(i:Nat)(x:UInt32)(v:Value)(hv:v=.int .u32 (ar6 x)):Arr T (w.setCell ⟨g,i,none⟩ v) g (l.set i x):=by
 subst hv;have h':=h;unfold Arr at h' ⊢;obtain ⟨hlt,heq⟩:=Array.getElem?_eq_some_iff.1 h';have e:=al4 l i x;unfold anC at e;simp[World.setCell,hlt,Array.getElem_modify,heq,e]
theorem Arr.setTo {T:TypeId}{w:World}{g:Nat}{l m:List UInt32}(h:Arr T w g l)(i:Nat)(x:UInt32)(hm:l.set i x=m):Arr T (w.setCell ⟨g,i,none⟩ (.int .u32 (ar6 x))) g m:=hm▸h.set i x _ rfl
theorem Arr.other {T:TypeId}{w:World}{g:Nat}{l:List UInt32}(h:Arr T w g l)(a:Addr)(v:Value)(hne:g≠a.block):Arr T (w.setCell a v) g l:=
 (Below.heap_setCell w a v g hne).trans h
section
variable {P : Program}
theorem aaF {T ty e:TypeId}{n:Nat}(hu:P.underlying ty=some (.array n e))(hi:(P.info? ty).map (·.size)=some n){ops:Array Oper}{rest:List Oper}{o:Oper}{a:Act}{w:World}{Q:Exit→Act→World→Prop}(hgd:o.guard=none)(x:Operand)(ho:o.op=.load ty x)
  (g:Nat) (l:List UInt32) (hx:a.eval x=.pointer (some ⟨g,0,none⟩)) (h:Arr T w g l) (hl:l.length=n)
  (hK:wpList P ops Q rest (a.put o.dst (.agg (aal l))) w):wpList P ops Q (o :: rest) a w:=
 wpList_load_row hgd ty x ho g hx T (aal l) (0,0) _ h hu rfl (by rw[hi,acG,hl]) hK
theorem al5 (l:List UInt32):(aal l).all (·.oneCell')=true:=by
 rw[Array.all_eq_true_iff_forall_mem];intro v hv;simp only[aal,List.mem_toArray,List.mem_map] at hv;obtain ⟨x,_,rfl⟩:=hv;rfl
theorem Arr.setRow {T:TypeId}{w:World}{g:Nat}{l:List UInt32}(h:Arr T w g l)(m:List UInt32):Arr T (w.setRow g (aal m)) g m:=by
 unfold Arr at h ⊢;obtain ⟨hlt,heq⟩:=Array.getElem?_eq_some_iff.1 h;simp[World.setRow,hlt,Array.getElem_modify,heq]
theorem setRow_other (w:World)(g k:Nat)(cs:Array Value)(h:k≠g):(w.setRow g cs).heap[k]?=w.heap[k]?:=by
 simp only[World.setRow];rw[Array.getElem?_modify,if_neg (Ne.symm h)]
theorem Arr.setRow_other {T:TypeId}{w:World}{g k:Nat}{l:List UInt32}(h:Arr T w k l)(cs:Array Value)(hne:k≠g):Arr T (w.setRow g cs) k l:=
 (Go.Proofs.YthmhklmkgkfcpaaGreatDoor.setRow_other w g k cs hne).trans h
theorem below_setRow {B:Nat}{a w:World}(h:Below B a w){g:Nat}(hg:B≤g)(cs:Array Value):Below B a (w.setRow g cs):=
 ⟨h.os,h.tape,h.output,by simpa [World.setRow] using h.size,fun k hk=>(setRow_other w g k cs (by omega)).trans (h.block k hk)⟩
theorem adI {T ty:TypeId}{n:Nat}(hi:(P.info? ty).map (·.size)=some n){ops:Array Oper}{rest:List Oper}{o:Oper}{a:Act}{w:World}{Q:Exit→Act→World→Prop}(hgd:o.guard=none)(x y:Operand)(ho:o.op=.store ty x y)
  (g:Nat) (l m:List UInt32) (hx:a.eval x=.pointer (some ⟨g,0,none⟩)) (hy:a.eval y=.agg (aal m)) (h:Arr T w g l) (hl:l.length=n) (hm:m.length=n)
  (hK:wpList P ops Q rest (a.put o.dst undef) (w.setRow g (aal m))):wpList P ops Q (o :: rest) a w:=
 wpList_store_row hgd ty x y ho g (aal m) hx hy T (aal l) h (by rw[hi,acG,hm]) (by rw[acG,acG,hl,hm]) (al5 m) hK
theorem aaX {t e:TypeId}{z:Value}{b:Nat}(ht:P.underlying t=some (.slice e))(hinfo:(P.info? e).map (fun i=>(i.zero,i.size,i.bytes))=some (some z,1,b))(hz:z.cells=#[z])(hb:b≤8)
  {ops:Array Oper} {rest:List Oper} {o:Oper} {a:Act} {w:World} {Q:Exit→Act→World→Prop} (hg:o.guard=none) (l c:Operand) (hop:o.op=Op.makeSlice t l c) (n:Nat) (hl:a.eval l=.int .i64 n) (hc:a.eval c=.int .i64 n) (hn:n≤1000000)
  (hK:∀ W,W=w.alloc (.cells (Array.replicate n z) e)→wpList P ops Q rest (a.put o.dst (.slice (some ⟨w.heap.size,0,none⟩) n n)) W):wpList P ops Q (o :: rest) a w:=by
 obtain ⟨i,hi,hz0,hz1,hz2⟩:=info_parts hinfo;refine wpList_plain hg fun K hK'=>?_
 have hbb:(i.bytes:Int)*(n:Int)≤281474976710656:=by
  rw[hz2];have h:=Nat.mul_le_mul hb hn;have h2:((b*n:Nat):Int)≤((8*1000000:Nat):Int):=by omega
  rw[Int.natCast_mul] at h2;omega
 have hr:=run_make (P:=P) w t e i z ht hi hz0 .i64 .i64 n n (by omega) (Int.le_refl _) hbb (by omega);have hm:madeCells #[z] n=Array.replicate n z:=by
  apply Array.ext';rw[toList_madeCells_one];simp
 rw[hz,hz1,Int.toNat_natCast,Nat.mul_one,hm] at hr;unfold Oper.wp;simp[execOp,hop,hl,hc,hr,Result.andThen];exact hK' _ _ (hK _ rfl)
structure But (g:Nat)(w W:World):Prop where
 below:∀ {B:Nat} {a:World},Below B a w→B≤g→Below B a W
 arr:∀ {T:TypeId} {k:Nat} {l:List UInt32},Arr T w k l→k≠g→Arr T W k l
 size:W.heap.size=w.heap.size
 other:∀ k,k≠g→W.heap[k]?=w.heap[k]?
theorem But.setRow (g:Nat)(w:World)(cs:Array Value):But g w (w.setRow g cs):=⟨fun h hb=>below_setRow h hb cs,fun h hne=>h.setRow_other cs hne,by simp[World.setRow],fun k hk=>Go.Proofs.YthmhklmkgkfcpaaGreatDoor.setRow_other w g k cs hk⟩
theorem aas {T ty:TypeId}{n:Nat}(hi:(P.info? ty).map (·.size)=some n){ops:Array Oper}{rest:List Oper}{o:Oper}{a:Act}{w:World}{Q:Exit→Act→World→Prop}(hgd:o.guard=none)(hd:o.dst=none)(x y:Operand)(ho:o.op=.store ty x y)
  (g:Nat) (l m:List UInt32) (hx:a.eval x=.pointer (some ⟨g,0,none⟩)) (hy:a.eval y=.agg (aal m)) (h:Arr T w g l) (hl:l.length=n) (hm:m.length=n)
  (hK:∀ W,Arr T W g m→But g w W→wpList P ops Q rest a W):wpList P ops Q (o :: rest) a w:=
 adI hi hgd x y ho g l m hx hy h hl hm (by rw[hd];exact hK _ (h.setRow m) (But.setRow g w _))
theorem abX {T ty e:TypeId}{n:Nat}(hu:P.underlying ty=some (.array n e))(hi:(P.info? ty).map (·.size)=some n){fn:Func}{p:Tmp}(hr:fn.results=#[.cell p ty])(tmps:Array Value)(w:World)(g:Nat)(l:List UInt32)
  (hp:tmps.getD p undef=.pointer (some ⟨g,0,none⟩)) (h:Arr T w g l) (hl:l.length=n):(results fn tmps).run P w=.ok (.agg (aal l)) w:=
 results_cell_row hr tmps w g T (aal l) (0,0) _ hp h hu rfl (by rw[hi,acG,hl])
end
theorem ab8 (u v:Value)(l m:List UInt8)(w:World)(h:Rd w u l)(h':Rd w v m):
  Calls Tryz.prog 29 #[u,v] w fun e w'=>e=.returned (.bool (decide (l=m)))∧w=w':=by
 have c1:=aeH w 24 9 5 u l h Tryz.underlying24 Tryz.underlying5 Tryz.underlying9;have c2:=aeH w 24 9 5 v m h' Tryz.underlying24 Tryz.underlying5 Tryz.underlying9;go_enter Tryz.func29,Tryz.ntmps29;go_wp2;go_ret;exact ⟨by simp[Bool.beq_eq_decide_eq],rfl⟩
theorem Tryz.info5:(Tryz.prog.info? 5).map (fun i=>(i.zero,i.size,i.bytes))=some (some (.int .u8 0),1,1):=by kernel_rfl
theorem ar5:U8 Tryz.prog 24 5:=U8.mk' Tryz.underlying24 Tryz.info5
def abd (n x:Nat):Nat:=(2*x+n / (x*x)) / 3
def agC:Nat→Nat→Nat→Nat
 | 0,_,x=>x
 | f+1,n,x=>if x≤abd n x then x else agC f n (abd n x)
def abB (n:Nat):Nat:=agC 2097152 n 2097152
theorem al7 (f n x:Nat)(h:x≤abd n x):agC f n x=x:=by
 cases f with
 | zero=>rfl
 | succ f=>simp[agC,h]
theorem ao6 (f n x:Nat)(hf:x≤f)(h:¬x≤abd n x):∃ g,abd n x≤g∧agC g n (abd n x)=agC f n x:=by
 cases f with
 | zero=>omega
 | succ f=>exact ⟨f,by omega,by simp[agC,h]⟩
theorem afH (n x:Nat)(h0:1≤n)(hx:1≤x):1≤abd n x:=by
 unfold abd;by_cases h:x=1
 ·subst h
  simp;omega
 ·generalize n / (x*x)=d
  omega
theorem agD:∀ (f n x:Nat),1≤n→1≤x→1≤agC f n x∧agC f n x≤x
 | 0,n,x,_,h=>⟨h,Nat.le_refl _⟩
 | f+1,n,x,h0,h=>by
  unfold agC
  split
  ·exact ⟨h,Nat.le_refl _⟩
  ·have:=agD f n (abd n x) h0 (afH n x h0 h)
   omega
def abK (p:Nat):Nat:=p*18014398509481984
def anI (p:Nat):Nat:=abK p - abB (abK p)*abB (abK p)*abB (abK p)
def aqD (p:Nat):Nat:=abB (abK p)*16384+anI p*16384 / (3*abB (abK p)*abB (abK p))
def anJ (p:Nat):UInt32:=UInt32.ofNat (aqD p)
def fits (p:Nat):Bool:=decide (abB (abK p)*abB (abK p)*abB (abK p)≤abK p) && decide (anI p<281474976710656)
theorem ao7:∀ p:Fin 312,p.val=0∨fits p.val=true:=by decide +kernel
def mark:Nat→Nat→Nat→List Bool→List Bool
 | 0,_,_,D=>D
 | f+1,p,n,D=>if n<312 then mark f p (n+p) (D.set n true) else D
theorem ao8 (f p n:Nat)(D:List Bool)(h:¬n<312):mark f p n D=D:=by
 cases f with
 | zero=>rfl
 | succ f=>simp[mark,h]
theorem aqE (f p n:Nat)(D:List Bool)(h:n<312)(hp:1≤p)(hf:312≤f+n):∃ g,312≤g+(n+p)∧mark g p (n+p) (D.set n true)=mark f p n D:=by
 cases f with
 | zero=>omega
 | succ f=>exact ⟨f,by omega,by simp[mark,h]⟩
theorem agE:∀ (f p n:Nat) (D:List Bool),(mark f p n D).length=D.length
 | 0,_,_,_=>rfl
 | f+1,p,n,D=>by
  unfold mark
  split
  ·rw[agE f];simp
  ·rfl
structure aqF where
 D:List Bool
 ps:List Nat
def aeL (p:Nat)(s:aqF):aqF:=if s.D.getD p false then s else ⟨mark 312 p (p*p) s.D,s.ps++[p]⟩
def abN:Nat→aqF
 | 0=>⟨List.replicate 312 false,[]⟩
 | p+1=>if p<2 then abN p else aeL p (abN p)
theorem acS:∀ p,(abN p).D.length=312
 | 0=>List.length_replicate
 | p+1=>by
  unfold abN
  split
  ·exact acS p
  ·unfold aeL
   split
   ·exact acS p
   ·rw[agE];exact acS p
def ac5 (i:Nat):Nat:=(abN 312).ps.getD i 0
theorem anK:(abN 312).ps.length=64:=by decide +kernel
theorem aqG:(List.range 64).map (fun i=>anJ (ac5 i))=keyL:=by decide +kernel
theorem aiz:∀ i:Fin 64,1≤ac5 i.val∧ac5 i.val<312:=by decide +kernel
theorem al8:∀ p:Fin 312,(abN p.val).D.getD p.val false=true∨p.val<2∨(ac5 (abN p.val).ps.length=p.val∧(abN p.val).ps.length<64):=by decide +kernel
theorem al9 (p:Nat)(h:(abN p).D.getD p false=true)(h2:2≤p):abN (p+1)=abN p:=by
 rw[abN,if_neg (by omega),aeL,if_pos h]
theorem ama (p:Nat)(h:(abN p).D.getD p false=false)(h2:2≤p):abN (p+1)=⟨mark 312 p (p*p) (abN p).D,(abN p).ps++[p]⟩:=by
 rw[abN,if_neg (by omega),aeL,if_neg (by rw[h];decide)]
theorem adm {P:Program}(w:World)(t e:TypeId)(n:Nat)(ie:TypeInfo)(d:TypeDesc)(h:P.underlying t=some (.array n e))(hi:P.info? e=some ie)(hs:ie.size=1)(hd:P.underlying e=some d)
  (hp:(match d with | .struct _ | .array _ _=>true | _=>false)=false) (cs:Array Value) (hn:cs.size=n) (i:Nat) (hlt:i<n) (v:Value) (hv:cs[i]?=some v):
  (Instr.index t (.agg cs) (.int .i64 i)).run P w=.ok v w:=by
 have hr:(0≤(i:Int)∧(i:Int)<(n:Int)):=by omega
 have hagg:(isAgg e).run P w=.ok false w:=by
  unfold isAgg;rw[Sem.run_bind,run_underlying hd w];cases d <;> simp_all
 simp[Instr.index,run_underlying h,asIntOf,hr,go_sem,part,sizeOf,typeInfo,hi,hs,hagg,hv,Sem.run_bind];intro hge;omega
theorem aqL (z u:Value)(c:List Value)(m:Nat):(List.replicate (m+1) z++c).set m u=List.replicate m z++u :: c:=by
 rw[List.set_append_left _ _ (by simp),List.replicate_succ',List.set_append_right _ _ (by simp)];simp
theorem adJ (n:Int)(k:Nat)(w:World)(h0:0≤n)(h1:1≤k)(h7:k≤7):
  Calls Tryz.prog 135 #[.int .i64 n,.int .i64 k] w fun e w'=>∃ v,e=.returned v∧Ow 5 w' w.heap.size v (be k n.toNat)∧Kp w w':=by
 obtain ⟨i0,hi,hz0,hz1,hz2⟩:=info_parts Tryz.info5;obtain ⟨n,rfl⟩:=Int.eq_ofNat_of_zero_le h0;rw[Int.toNat_natCast];go_enter Tryz.func135,Tryz.ntmps135;go_wp2_with (at_make;refine wpList_make_full _ rfl _ _ 24 rfl w.heap.size 5 i0 (.int .u8 0) 1 Tryz.underlying24 hi hz0 hz1 _ _ _ _ k rfl rfl rfl rfl ?b1 ?b2 ?b3 ?_)
 case b1=>rw[hz2];omega
 case b2=>unfold maxLen;omega
 case b3=>exact Nat.le_refl _
 intro w1 hown hgr;rw[toList_madeCells_one] at hown;generalize hB:w.heap.size=B at *;have HB:=Lib.hid hB;clear hB;have hk1:Below B w w1:=Below.grown (Below.refl B w) hgr (by rw[HB.out];exact Nat.le_refl _) (by simp);clear hgr;go_wp2;go_loopw[0,6] (fun x i wr=>∃ j:Nat,j≤k∧i=.int .i64 ((j:Int) - 1)∧x=.int .i64 ((n / 256 ^ (k - j):Nat):Int)∧wr.ownsRow B 5 1 (.slice (some ⟨B,0,none⟩) k k) k (List.replicate j (.int .u8 0)++Lib.byteCells (be (k - j) n))∧Below B w wr) (fun _ i _=>(intOf i+1).toNat)
 case atStart=>exact ⟨k,Nat.le_refl _,rfl,by simp,by simpa [be,Lib.byteCells] using hown,hk1⟩
 case round=>
  obtain ⟨j,hj,rfl,rfl,hown,hbel⟩:=hrel;cases j with
  | zero=>
   go_wp2;go_ret;refine ⟨_,rfl,?_,hbel.mono (by rw[HB.out];exact Nat.le_refl _)⟩;have hl:(be k n).length=k:=aak _ _;unfold Ow;rw[HB.out,hl];simpa using hown
  | succ j=>
   have hcell:wr.cell? ⟨B,j,none⟩=some (.int .u8 0):=by
    rw[hown.cellAt j (by omega),List.getElem?_append_left (by simp)];simp
   have hfr:=hown.frozenAt j;rw[show ((j+1:Nat):Int) - 1=j from by omega];generalize hX:n / 256 ^ (k - (j+1))=X at *;have HX:=Lib.hid hX;clear hX;have hown1:=Lib.hid hown;clear hown;go_wp2;go_roundw
   case rel=>
    obtain ⟨t,ht⟩:∃ t,t=k - (j+1):=⟨_,rfl⟩;have hx:=HX.out;have ho:=hown1.out;rw[← ht] at hx ho;have ht1:k - j=t+1:=by omega
    refine ⟨j,by omega,rfl,?_,?_,hbel.setCell (Nat.le_refl _) _⟩
    ·rw[ht1,Nat.pow_succ,← Nat.div_div_eq_div_mul,hx];rfl
    ·have h2:=(ho.stored j (.int .u8 ((X:Int) % 256))).1
     rw[aqL] at h2;rw[ht1,aer,hx];have e:Value.int .u8 ((X:Int) % 256)=.int .u8 ((UInt8.ofNat X).toNat:Int):=by simp
     rw[e] at h2 ⊢;exact h2
   case measure=>simp[intOf]
end Go.Proofs.YthmhklmkgkfcpaaGreatDoor
namespace Go.Proofs.YthmhklmkgkfcpaaGreatDoor
def mulB (a b:UInt8):UInt8:=UInt8.ofNat (gm a.toNat b.toNat)
def boxB (x:UInt8):UInt8:=UInt8.ofNat (boxN x.toNat)
theorem adK (a:UInt8):a.toNat<256:=a.toNat_lt
theorem acV (a b:UInt8):(mulB a b).toNat=gm a.toNat b.toNat:=by
 unfold mulB;rw[UInt8.toNat_ofNat',Nat.mod_eq_of_lt (amg (adK a))]
theorem alD (a:UInt8):(boxB a).toNat=boxN a.toNat:=by
 unfold boxB;rw[UInt8.toNat_ofNat',Nat.mod_eq_of_lt (arJ (adK a))]
theorem afJ {a b:UInt8}(h:a.toNat=b.toNat):a=b:=UInt8.toNat_inj.1 h
theorem agO (a b:UInt8):mulB a b=mulB b a:=afJ (by rw[acV,acV,agN (adK a) (adK b)])
theorem aiE (a b c:UInt8):mulB a (b ^^^ c)=mulB a b ^^^ mulB a c:=afJ (by rw[acV,UInt8.toNat_xor,UInt8.toNat_xor,acV,acV,ads])
theorem an2 (a b c:UInt8):mulB (a ^^^ b) c=mulB a c ^^^ mulB b c:=by rw[agO,aiE,agO c a,agO c b]
theorem alE (a:UInt8):mulB a 1=a:=afJ (by rw[acV];exact ajR (adK a))
def mix4 (a b c d:UInt8):UInt8:=mulB a 2 ^^^ mulB b 3 ^^^ c ^^^ d
def tab (n:Nat)(f:Nat→UInt8):List UInt8:=(List.range n).map f
theorem aba (n:Nat)(f:Nat→UInt8):(tab n f).length=n:=by simp[tab]
theorem adt (n:Nat)(f:Nat→UInt8)(i:Nat)(h:i<n):(tab n f).getD i 0=f i:=by simp[tab,List.getD_eq_getElem?_getD,h]
theorem an3 (n:Nat)(l:List UInt8)(h:l.length=n):tab n (fun i=>l.getD i 0)=l:=by
 apply List.ext_getElem
 ·rw[aba,h]
 ·intro i h1 h2
  have:=adt n (fun i=>l.getD i 0) i (by rw[aba] at h1;exact h1);rw[List.getD_eq_getElem?_getD,List.getElem?_eq_getElem h1] at this;simp only[Option.getD_some] at this;rw[this,List.getD_eq_getElem?_getD,List.getElem?_eq_getElem h2];rfl
theorem afv (n:Nat)(l m:List UInt8)(h1:l.length=n)(h2:m.length=n)(h:∀ i,i<n→l.getD i 0=m.getD i 0):l=m:=by
 rw[← an3 n l h1,← an3 n m h2];unfold tab;apply List.map_congr_left;intro i hi;exact h i (by simpa using hi)
def an4 (m:Nat):Nat:=4*((m / 4+m % 4) % 4)+m % 4
def subS (s:List UInt8):List UInt8:=tab 16 fun m=>boxB (s.getD (an4 m) 0)
def at4 (t:List UInt8)(m k:Nat):UInt8:=t.getD (4*(m / 4)+(m % 4+k) % 4) 0
def mixS (t:List UInt8):List UInt8:=tab 16 fun m=>mix4 (at4 t m 0) (at4 t m 1) (at4 t m 2) (at4 t m 3)
def addS (s w:List UInt8)(n:Nat):List UInt8:=tab 16 fun i=>s.getD i 0 ^^^ w.getD (16*n+i) 0
def an5 (w s:List UInt8)(n:Nat):List UInt8:=addS (if n<10 then mixS (subS s) else subS s) w n
def acJ (w b:List UInt8):Nat→List UInt8
 | 0=>addS b w 0
 | n+1=>an5 w (acJ w b n) (n+1)
def aiF (w b:List UInt8):List UInt8:=acJ w b 10
theorem agP (s w:List UInt8)(n:Nat):(addS s w n).length=16:=aba _ _
theorem aeV (w b:List UInt8)(n:Nat):(acJ w b n).length=16:=by
 cases n with
 | zero=>exact agP _ _ _
 | succ n=>exact agP _ _ _
theorem ajS (w b:List UInt8):(aiF w b).length=16:=aeV _ _ _
def rcon:Nat→UInt8
 | 0=>1
 | n+1=>mulB (rcon n) 2
def afw (w:List UInt8):UInt8:=
 let m:=w.length;let i:=m / 4;let k:=m % 4
 let x:=if i % 4=0 then boxB (w.getD (4*i - 4+(k+1) % 4) 0) else w.getD (4*i - 4+k) 0
 let x:=if i % 4=0∧k=0 then x ^^^ rcon (i / 4 - 1) else x
 w.getD (4*i - 16+k) 0 ^^^ x
def acq (key:List UInt8):Nat→List UInt8
 | 0=>key
 | n+1=>acq key n++[afw (acq key n)]
def adY (key:List UInt8):List UInt8:=acq key 160
theorem abu (key:List UInt8):∀ n,(acq key n).length=key.length+n
 | 0=>rfl
 | n+1=>by rw[acq,List.length_append,abu key n];rfl
end Go.Proofs.YthmhklmkgkfcpaaGreatDoor
namespace Go.Proofs.YthmhklmkgkfcpaaGreatDoor
open Go.RowKit
theorem alP (x:Nat)(h:x<256):IntKind.u8.wrap (x:Int)=x:=by rw[IntKind.wrap_u8];omega
theorem u8_or (x y:Nat)(hx:x<256)(hy:y<256):bits .or .u8 (x:Int) (y:Int)=((x ||| y:Nat):Int):=by
 have hlt:x ||| y<256:=Nat.or_lt_two_pow (n:=8) hx hy
 change IntKind.u8.wrap (((BitVec.ofInt 8 (x:Int) ||| BitVec.ofInt 8 (y:Int)).toNat:Nat):Int)=_;rw[BitVec.ofInt_natCast,BitVec.ofInt_natCast,BitVec.toNat_or,BitVec.toNat_ofNat,BitVec.toNat_ofNat,Nat.mod_eq_of_lt hx,Nat.mod_eq_of_lt hy,alP _ hlt]
theorem aqg (x y:Nat)(hx:x<256)(hy:y<256):bits .xor .u8 (x:Int) (y:Int)=((x ^^^ y:Nat):Int):=by
 have hlt:x ^^^ y<256:=xor_lt hx hy;change IntKind.u8.wrap (((BitVec.ofInt 8 (x:Int) ^^^ BitVec.ofInt 8 (y:Int)).toNat:Nat):Int)=_;rw[BitVec.ofInt_natCast,BitVec.ofInt_natCast,BitVec.toNat_xor,BitVec.toNat_ofNat,BitVec.toNat_ofNat,Nat.mod_eq_of_lt hx,Nat.mod_eq_of_lt hy,alP _ hlt]
end Go.Proofs.YthmhklmkgkfcpaaGreatDoor
namespace Go.Proofs.YthmhklmkgkfcpaaGreatDoor
def ar2:Nat→Nat
 | 0=>1
 | i+1=>gm (ar2 i) 3
theorem ahD:∀ i,ar2 i<256
 | 0=>by decide
 | i+1=>amg (ahD i)
theorem aot (i:Nat):∀ j,ar2 (i+j)=gm (ar2 i) (ar2 j)
 | 0=>by
  show ar2 i=gm (ar2 i) 1
  rw[ajR (ahD i)]
 | j+1=>by
  show gm (ar2 (i+j)) 3=gm (ar2 i) (gm (ar2 j) 3)
  rw[aot i j,alB (ahD i) (ahD j) (by omega)]
theorem aqh:ar2 255=1:=by decide +kernel
theorem arQ {i:Nat}(h:i<255):invN (ar2 i)=ar2 ((255 - i) % 255):=by
 refine (ami (ahD i) (ahD _) ?_).symm;by_cases h0:i=0
 ·subst h0
  show gm 1 (ar2 0)=1
  exact ajR (by omega)
 ·rw[Nat.mod_eq_of_lt (by omega),← aot,show i+(255 - i)=255 by omega,aqh]
def walk:Nat→Nat→Nat→Bool
 | 0,_,_=>false
 | n+1,c,x=>Nat.beq c x || walk n (gm c 3) x
theorem aj4 (x:Nat):∀ n i,walk n (ar2 i) x=true→∃ j,j<i+n∧ar2 j=x
 | 0,i,h=>by cases h
 | n+1,i,h=>by
  rw[walk,Bool.or_eq_true] at h
  rcases h with h | h
  ·exact ⟨i,by omega,Nat.eq_of_beq_eq_true h⟩
  ·obtain ⟨j,h1,h2⟩:=aj4 x n (i+1) h
   exact ⟨j,by omega,h2⟩
theorem apO:allB 256 (fun x=>Nat.beq x 0 || walk 255 1 x)=true:=by decide +kernel
theorem aq5 {x:Nat}(h:x<256)(h0:x≠0):∃ i,i<255∧ar2 i=x:=by
 have:=aaA apO x h;rw[Bool.or_eq_true] at this;rcases this with h1 | h1
 ·exact absurd (Nat.eq_of_beq_eq_true h1) h0
 ·obtain ⟨j,h1,h2⟩:=aj4 x 255 0 h1
  exact ⟨j,by omega,h2⟩
def p3B (i:Nat):UInt8:=UInt8.ofNat (ar2 i)
theorem ag6 (i:Nat):(p3B i).toNat=ar2 i:=by
 unfold p3B;rw[UInt8.toNat_ofNat'];have:=ahD i;omega
theorem apP (i:Nat):p3B (i+1)=mulB (p3B i) 3:=afJ (by rw[acV,ag6,ag6];rfl)
def adL (x:UInt8):UInt8:=UInt8.ofNat (aht x.toNat)
theorem aq6 {x:Nat}(h:x<256):aht x<256:=by
 have:=aaA alC x h;rw[Bool.and_eq_true] at this;have:=Nat.le_of_ble_eq_true this.1;omega
theorem ag7 (x:UInt8):(adL x).toNat=aht x.toNat:=by
 unfold adL;rw[UInt8.toNat_ofNat'];have:=aq6 (adK x);omega
theorem aou {i:Nat}(h:i<255):adL (p3B ((255 - i) % 255))=boxB (p3B i):=afJ (by rw[ag7,alD,ag6,ag6,boxN,arQ h])
theorem amH:adL 0=boxB 0:=afJ (by rw[ag7,alD];show aht 0=aht (invN 0);rw[apn])
def ag8 (k:Nat)(l:List UInt8):Prop:=l.length=256∧l.getD 0 0=boxB 0∧∀ i,i<k→l.getD (ar2 i) 0=boxB (p3B i)
theorem p3_ne {i:Nat}(h:i<255):ar2 i≠0:=fun h0=>by
 have h1:gm (ar2 i) (ar2 (255 - i))=1:=by rw[← aot,show i+(255 - i)=255 by omega,aqh]
 rw[h0,agN (by omega) (ahD _),an0] at h1;cases h1
theorem ag8.begin:ag8 0 ((List.replicate 256 (0:UInt8)).set 0 (adL 0)):=⟨by rw[List.length_set,List.length_replicate],by rw[← amH];rfl,fun i h=>by omega⟩
theorem ag8.next {k:Nat}{l:List UInt8}(h:ag8 k l)(hk:k<255):ag8 (k+1) (l.set (ar2 k) (adL (p3B ((255 - k) % 255)))):=by
 obtain ⟨h1,h2,h3⟩:=h;have hp:=ahD k;have hn:=p3_ne hk;rw[aou hk];have hget:∀ j,(l.set (ar2 k) (boxB (p3B k))).getD j 0=if j=ar2 k then boxB (p3B k) else l.getD j 0:=fun j=>by
  by_cases e:j=ar2 k
  ·subst e
   simp[List.getD_eq_getElem?_getD,h1,hp]
  ·rw[if_neg e]
   simp[List.getD_eq_getElem?_getD,List.getElem?_set,Ne.symm e]
 refine ⟨by simp[h1],by rw[hget,if_neg (Ne.symm hn),h2],fun i hi=>?_⟩;rw[hget];by_cases e:ar2 i=ar2 k
 ·rw[if_pos e]
  unfold p3B;rw[e]
 ·rw[if_neg e]
  by_cases hik:i=k
  ·subst hik;exact absurd rfl e
  ·exact h3 i (by omega)
def ael:List UInt8:=tab 256 fun i=>boxB (UInt8.ofNat i)
theorem adC:ael.length=256:=aba _ _
theorem aij (x:UInt8):ael.getD x.toNat 0=boxB x:=by
 have h:=adt 256 (fun i=>boxB (UInt8.ofNat i)) x.toNat (adK x);have e:UInt8.ofNat x.toNat=x:=afJ (by rw[UInt8.toNat_ofNat'];have:=adK x;omega);exact h.trans (by simp only[e])
theorem ag8.all {l:List UInt8}(h:ag8 255 l):l=ael:=by
 obtain ⟨h1,h2,h3⟩:=h;refine afv 256 _ _ h1 adC fun i hi=>?_
 have hr:ael.getD i 0=boxB (UInt8.ofNat i):=adt 256 (fun i=>boxB (UInt8.ofNat i)) i hi;rw[hr];by_cases h0:i=0
 ·subst h0;exact h2
 ·obtain ⟨j,hj,rfl⟩:=aq5 hi h0
  exact h3 j hj
end Go.Proofs.YthmhklmkgkfcpaaGreatDoor
namespace Go.Proofs.YthmhklmkgkfcpaaGreatDoor
open Go.RowKit
theorem abz (x y:UInt8):bits .xor .u8 (x.toNat:Int) (y.toNat:Int)=((x ^^^ y).toNat:Int):=by
 rw[aqg _ _ (adK x) (adK y),UInt8.toNat_xor]
theorem amI:allB 256 (fun x=>Nat.beq ((x*2) % 256 ^^^ (x / 128)*27) (gm x 2))=true:=by decide +kernel
theorem acA (x:UInt8)(w:World):Calls Tryz.prog 240 #[.int .u8 (x.toNat:Int)] w fun e w'=>e=.returned (.int .u8 ((mulB x 2).toNat:Int))∧w=w':=by
 have hx:=adK x;have h:=Nat.eq_of_beq_eq_true (aaA amI x.toNat hx);have e1:IntKind.u8.wrap ((x.toNat:Int)*2)=((x.toNat*2 % 256:Nat):Int):=by rw[IntKind.wrap_u8];omega
 have e2:(x.toNat:Int) / 128=((x.toNat / 128:Nat):Int):=by omega
 have e3:IntKind.u8.wrap (((x.toNat / 128:Nat):Int)*27)=((x.toNat / 128*27:Nat):Int):=by rw[IntKind.wrap_u8];omega
 have e4:=aqg (x.toNat*2 % 256) (x.toNat / 128*27) (by omega) (by omega);rw[h] at e4;have hm:=acV x 2;rw[show (2:UInt8).toNat=2 from rfl] at hm;rw[← hm] at e4;generalize (mulB x 2).toNat=M at *;generalize x.toNat*2 % 256=A at *;generalize hB:x.toNat / 128=B at *;generalize B*27=C at *;generalize x.toNat=X at *;clear h hm hx hB;go_enter Tryz.func240,Tryz.ntmps240;go_wp2;go_ret;exact ⟨rfl,rfl⟩
theorem aq7:allB 5 (fun n=>allB 256 fun x=>Nat.beq ((x*2 ^ n) % 256 ||| x / 2 ^ (8 - n)) ((x*2 ^ n) % 256 ^^^ x / 2 ^ (8 - n)))=true:=by decide +kernel
def ai0 (x:UInt8)(n:Nat):UInt8:=UInt8.ofNat (afu x.toNat n)
theorem apQ (x:UInt8)(n:Nat):afu x.toNat n<256:=xor_lt (Nat.mod_lt _ (by omega)) (Nat.lt_of_le_of_lt (Nat.div_le_self _ _) (adK x))
theorem aj5 (x:UInt8)(n:Nat):(ai0 x n).toNat=afu x.toNat n:=by
 unfold ai0;rw[UInt8.toNat_ofNat',Nat.mod_eq_of_lt (apQ x n)]
theorem apR (x:Int)(h0:0≤x)(h1:x<2 ^ 64):bits .and .u64 x 7=x % 8:=
 bits_mask .u64 64 (by decide) (fun n h0 h1=>by simp[IntKind.wrap,IntKind.bits,IntKind.signed];omega) 3 (by decide) x h0 h1
theorem aov (x:UInt8)(i:Nat)(w:World)(h1:i<5):
  Calls Tryz.prog 270 #[.int .u8 (x.toNat:Int),.int .i64 i] w fun e w'=>e=.returned (.int .u8 ((ai0 x i).toNat:Int))∧w=w':=by
 have hx:=adK x;have hL:=aj5 x i;have hor:=Nat.eq_of_beq_eq_true (aaA (aaA aq7 i h1) x.toNat hx);rw[show (x.toNat*2 ^ i) % 256 ^^^ x.toNat / 2 ^ (8 - i)=afu x.toNat i from rfl,← hL] at hor;generalize (ai0 x i).toNat=L at *;generalize x.toNat=X at *;have w1:IntKind.u64.wrap (i:Int)=i:=by simp[IntKind.wrap,IntKind.bits,IntKind.signed];omega
 have w2:=apR (i:Int) (by omega) (by omega);rw[show (i:Int) % 8=i by omega] at w2;have w3:IntKind.u64.wrap (8 - (i:Int))=8 - i:=by simp[IntKind.wrap,IntKind.bits,IntKind.signed];omega
 have e1:(8 - (i:Int)).toNat=8 - i:=by omega
 have hp:(X:Int)*2 ^ i=((X*2 ^ i:Nat):Int):=by rw[Int.natCast_mul,Int.natCast_pow];rfl
 have hs:(X:Int) / 2 ^ (8 - i)=((X / 2 ^ (8 - i):Nat):Int):=by rw[Int.natCast_ediv,Int.natCast_pow];rfl
 have hl:IntKind.u8.wrap ((X:Int)*2 ^ i)=((X*2 ^ i % 256:Nat):Int):=by rw[hp,IntKind.wrap_u8];omega
 have hq:X / 2 ^ (8 - i)<256:=Nat.lt_of_le_of_lt (Nat.div_le_self _ _) hx;have hb:=u8_or (X*2 ^ i % 256) (X / 2 ^ (8 - i)) (by omega) hq;rw[hor] at hb;obtain ⟨P,hP⟩:∃ P,X*2 ^ i % 256=P:=⟨_,rfl⟩;obtain ⟨Q,hQ⟩:∃ Q,X / 2 ^ (8 - i)=Q:=⟨_,rfl⟩;rw[hP] at hl hb;rw[hQ] at hs hb;clear hor hp hP hQ hL hq;go_enter Tryz.func270,Tryz.ntmps270;go_wp2;go_ret;exact ⟨rfl,rfl⟩
def acv (y:UInt8):Nat→UInt8
 | 0=>99
 | n+1=>acv y n ^^^ ai0 y n
theorem amJ:allB 256 (fun x=>Nat.beq (99 ^^^ afu x 0 ^^^ afu x 1 ^^^ afu x 2 ^^^ afu x 3 ^^^ afu x 4) (aht x))=true:=by decide +kernel
theorem ai1 (y:UInt8):acv y 5=adL y:=by
 apply afJ;rw[ag7];simp only[acv,UInt8.toNat_xor,aj5];exact Nat.eq_of_beq_eq_true (aaA amJ y.toNat (adK y))
theorem aik (y:UInt8)(w:World):Calls Tryz.prog 263 #[.int .u8 (y.toNat:Int)] w fun e w'=>e=.returned (.int .u8 ((adL y).toNat:Int))∧w=w':=by
 have H5:=Lib.hid (ai1 y);go_enter Tryz.func263,Tryz.ntmps263;go_wp2_with fail;go_loopw[3,5] (fun o p wr=>(∃ (i:Nat),i≤5∧p=.int .i64 i∧o=.int .u8 ((acv y i).toNat:Int))∧w=wr) (fun _ p _=>5 - (intOf p).toNat)
 case atStart=>exact ⟨⟨0,by omega,rfl,rfl⟩,rfl⟩
 case round=>
  obtain ⟨⟨i,hi,rfl,rfl⟩,rfl⟩:=hrel;by_cases hlt:i<5
  ·have hq:(i:Int)<5:=by omega
   have hx:=abz (acv y i) (ai0 y i);have hr:=aov y i w hlt;have HX:Hid (acv y i ^^^ ai0 y i=acv y (i+1)):=rfl;generalize acv y i ^^^ ai0 y i=Z at *;generalize acv y i=U at *;generalize ai0 y i=V at *;go_wp2_with (go_at_call 270;refine hr.mono ?_;rintro _ _ ⟨rfl,rfl⟩)
   go_roundw
   case rel=>exact ⟨⟨i+1,by omega,by go_num,by rw[HX.out]⟩,trivial⟩
   case measure=>simp[intOf];omega
  ·obtain rfl:i=5:=by omega
   rw[H5.out];go_wp2_with fail;go_ret;exact ⟨rfl,rfl⟩
theorem wf8 {n:Int}(h:(Lit.int .u8 n).wf=true):0≤n∧n≤255:=by
 have:=bounds_u8 h;omega
end Go.Proofs.YthmhklmkgkfcpaaGreatDoor

import Derived.Test.YthmhklmkgkfcpaaGreatDoorX1
import Derived.Laws.PanicsMore
import Derived.StillTailTactics
import Derived.Deep.RegionHeld3
import Derived.Deep.WholeRow
set_option linter.all false
set_option maxHeartbeats 8000000
set_option maxRecDepth 100000
namespace Go.Proofs.YthmhklmkgkfcpaaGreatDoor
open Go.Proofs.Tryz Go.RowKit
variable {B g n:Nat}{K:List UInt8}{Q:Exit->Act->World->Prop}{T c e:TypeId}{a:Act}{b:Array Oper}{l:List UInt32}{o:Oper}{rest:List Oper}{w w':World}
def dj (x y:UInt32):UInt32:=x+y
def ji (x y:UInt32):UInt32:=x ^^^ y
def lx (x y:UInt32):UInt32:=x &&& y
def wor (x y:UInt32):UInt32:=x ||| y
def uo (x:UInt32):UInt32:=ji 0xffffffff x
def rc (k:Nat)(x:UInt32):UInt32:=UInt32.ofNat (x.toNat*2 ^ k)
def ly (k:Nat)(x:UInt32):UInt32:=UInt32.ofNat (x.toNat / 2 ^ k)
def jE (k:Nat)(x:UInt32):UInt32:=wor (ly k x) (rc (32 - k) x)
def big (i j k:Nat)(x:UInt32):UInt32:=ji (ji (jE i x) (jE j x)) (jE k x)
def small (i j k:Nat)(x:UInt32):UInt32:=ji (ji (jE i x) (jE j x)) (ly k x)
def il (a b c d:UInt8):UInt32:=UInt32.ofNat (16777216*a.toNat+65536*b.toNat+256*c.toNat+d.toNat)
def iK (l:List UInt8)(w:List UInt32)(t:Nat):UInt32:=
 if t<16 then il (l.getD (4*t) 0) (l.getD (4*t+1) 0) (l.getD (4*t+2) 0) (l.getD (4*t+3) 0)
 else dj (dj (dj (small 17 19 10 (w.getD (t - 2) 0)) (w.getD (t - 7) 0)) (small 7 18 3 (w.getD (t - 15) 0))) (w.getD (t - 16) 0)
def dJ (l:List UInt8):Nat->List UInt32
 | 0=>[]
 | t+1=>dJ l t++[iK l (dJ l t) t]
structure S8 where
 a:UInt32
 b:UInt32
 c:UInt32
 d:UInt32
 e:UInt32
 f:UInt32
 g:UInt32
 h:UInt32
deriving DecidableEq
def S8.list (s:S8):List UInt32:=[s.a,s.b,s.c,s.d,s.e,s.f,s.g,s.h]
def bV (s:S8)(k w:UInt32):UInt32:=dj (dj (dj (dj s.h (big 6 11 25 s.e)) (ji (lx s.e s.f) (lx (uo s.e) s.g))) k) w
def t2 (s:S8):UInt32:=dj (big 2 13 22 s.a) (ji (ji (lx s.a s.b) (lx s.a s.c)) (lx s.b s.c))
def rnd (s:S8)(k w:UInt32):S8:=⟨dj (bV s k w) (t2 s),s.a,s.b,s.c,dj s.d (bV s k w),s.e,s.f,s.g⟩
def oS (k w:List UInt32)(s:S8):Nat->S8
 | 0=>s
 | t+1=>rnd (oS k w s t) (k.getD t 0) (w.getD t 0)
def S8.add (s r:S8):S8:=⟨dj s.a r.a,dj s.b r.b,dj s.c r.c,dj s.d r.d,dj s.e r.e,dj s.f r.f,dj s.g r.g,dj s.h r.h⟩
def mK (k:List UInt32)(s:S8)(l:List UInt8):S8:=s.add (oS k (dJ l 64) s 64)
def dK:S8:=⟨0x6a09e667,0xbb67ae85,0x3c6ef372,0xa54ff53a,0x510e527f,0x9b05688c,0x1f83d9ab,0x5be0cd19⟩
def dd:List UInt32:=[
 0x428a2f98,0x71374491,0xb5c0fbcf,0xe9b5dba5,0x3956c25b,0x59f111f1,0x923f82a4,0xab1c5ed5,
 0xd807aa98,0x12835b01,0x243185be,0x550c7dc3,0x72be5d74,0x80deb1fe,0x9bdc06a7,0xc19bf174,
 0xe49b69c1,0xefbe4786,0x0fc19dc6,0x240ca1cc,0x2de92c6f,0x4a7484aa,0x5cb0a9dc,0x76f988da,
 0x983e5152,0xa831c66d,0xb00327c8,0xbf597fc7,0xc6e00bf3,0xd5a79147,0x06ca6351,0x14292967,
 0x27b70a85,0x2e1b2138,0x4d2c6dfc,0x53380d13,0x650a7354,0x766a0abb,0x81c2c92e,0x92722c85,
 0xa2bfe8a1,0xa81a664b,0xc24b8b70,0xc76c51a3,0xd192e819,0xd6990624,0xf40e3585,0x106aa070,
 0x19a4c116,0x1e376c08,0x2748774c,0x34b0bcb5,0x391c0cb3,0x4ed8aa4a,0x5b9cca4f,0x682e6ff3,
 0x748f82ee,0x78a5636f,0x84c87814,0x8cc70208,0x90befffa,0xa4506ceb,0xbef9a3f7,0xc67178f2]
def fill (n:Nat):Nat:=(119 - n % 64) % 64
def pad (n:Nat):List UInt8:=128 :: List.replicate (fill n) 0++be 8 (8*n)
def bI (s:S8)(l:List UInt8):Nat->S8
 | 0=>s
 | k+1=>mK dd (bI s l k) ((l.drop (64*k)).take 64)
def fA (l:List UInt8):List UInt8:=l++pad l.length
def lz (x:UInt32):List UInt8:=[UInt8.ofNat (x.toNat / 16777216),UInt8.ofNat (x.toNat / 65536),UInt8.ofNat (x.toNat / 256),UInt8.ofNat x.toNat]
def S8.bytes (s:S8):List UInt8:=s.list.flatMap lz
def bJ (l:List UInt8):List UInt8:=(bI dK (fA l) ((fA l).length / 64)).bytes
def aa (x:UInt32):Int:=(x.toNat:Int)
theorem uq (x:UInt32):0<=aa x:=Int.natCast_nonneg _
theorem ur (x:UInt32):aa x<4294967296:=by unfold aa;have:=x.toNat_lt;omega
theorem ut (n:Nat)(h:n<4294967296):aa (UInt32.ofNat n)=n:=by
 unfold aa;rw[UInt32.toNat_ofNat'];congr 1
 exact Lo h
theorem uv (n:Nat):aa (UInt32.ofNat n)=(n:Int) % 4294967296:=by
 unfold aa;rw[UInt32.toNat_ofNat'];simp
theorem kn (x:UInt32):IntKind.u32.wrap (aa x)=aa x:=by rw[Mx];have:=uq x;have:=ur x;omega
theorem oT (x y:UInt32):IntKind.u32.wrap (aa x+aa y)=aa (dj x y):=by
 rw[Mx];unfold aa dj;rw[UInt32.toNat_add];simp
theorem re (x:UInt32):BitVec.ofInt IntKind.u32.bits (aa x)=x.toBitVec:=by
 unfold aa;rw[Ls];apply Nw;simp[IntKind.bits]
theorem mL (x y:UInt32):bits .xor .u32 (aa x) (aa y)=aa (ji x y):=by
 simp only[bits,re];change IntKind.u32.wrap (aa (x ^^^ y))=_;exact kn _
theorem oU (x y:UInt32):bits .and .u32 (aa x) (aa y)=aa (lx x y):=by
 simp only[bits,re];change IntKind.u32.wrap (aa (x &&& y))=_;exact kn _
theorem oV (x y:UInt32):bits .or .u32 (aa x) (aa y)=aa (wor x y):=by
 simp only[bits,re];change IntKind.u32.wrap (aa (x ||| y))=_;exact kn _
theorem mM (k:Nat)(x:UInt32):IntKind.u32.wrap (aa x*2 ^ k)=aa (rc k x):=by
 rw[Mx];unfold rc;rw[uv];unfold aa;simp
theorem jF (k:Nat)(x:UInt32):aa x / 2 ^ k=aa (ly k x):=by
 unfold ly;have h:=x.toNat_lt;have a:x.toNat / 2 ^ k<=x.toNat:=Nm _ _;rw[ut _ (by omega)];unfold aa;simp
theorem AG (x:UInt32):aa x / 8=aa (ly 3 x):=jF 3 x
theorem AH (x:UInt32):aa x / 1024=aa (ly 10 x):=jF 10 x
theorem AI (x y:UInt32):wor x y=wor y x:=by unfold wor;exact UInt32.or_comm x y
def mN (x:UInt32):Value:=.int .u32 (aa x)
def aY (l:List UInt32):Array Value:=(l.map mN).toArray
def Arr (T:TypeId)(w:World)(g:Nat)(l:List UInt32):Prop:=w.heap[g]?=some (.cells (aY l) T (0,0))
theorem mO (l:List UInt32):(aY l).size=l.length:=by simp[aY]
theorem rg (l:List UInt32)(i:Nat)(h:i<l.length):(aY l)[i]?=some (.int .u32 (aa (l.getD i 0))):=by
 simp[aY,mN,h]
theorem Arr.lt (h:Arr T w g l):g<w.heap.size:=(JK.1 h).1
theorem Arr.cell (h:Arr T w g l)(i:Nat)(a:i<l.length):w.cell? ⟨g,i,none⟩=some (.int .u32 (aa (l.getD i 0))):=by
 rw[cell_of_row w g i _ T _ h,rg l i a]
theorem Arr.frozen (h:Arr T w g l)(i:Nat)(b:i<l.length):w.frozen? ⟨g,i,none⟩=false:=by
 have a:=h;unfold Arr at a;simp[World.frozen?,a]
theorem Arr.kp (h:Arr T w g l)(k:Kp w w'):Arr T w' g l:=
 (k.block g h.lt).trans h
theorem Arr.below (h:Arr T w g l)(k:Below B w w')(a:g<B):Arr T w' g l:=
 (k.block g a).trans h
theorem Arr.drewN (h:Arr T w g l)(n:Nat):Arr T (w.drewN n) g l:=h.kp ((NQ w).drewN n)
theorem Arr.drew (h:Arr T w g l):Arr T w.drew g l:=h
theorem Arr.alloc (h:Arr T w g l)(o:Obj):Arr T (w.alloc o) g l:=(Below.heap_alloc w o g h.lt).trans h
theorem Arr.new (T:TypeId)(w:World)(cs:Array Value)(l:List UInt32)(h:cs=aY l):Arr T (w.alloc (.cells cs T)) w.heap.size l:=by
 subst h;exact heap_alloc_new w _
def Of:=@Arr.new
theorem AJ (l:List UInt32)(i:Nat)(x:UInt32):(aY l).setIfInBounds i (mN x)=aY (l.set i x):=by
 apply Array.ext';simp[aY,List.map_set]
theorem Arr.set (h:Arr T w g l)(i:Nat)(x:UInt32)(v:Value)(d:v=.int .u32 (aa x)):Arr T (w.setCell ⟨g,i,none⟩ v) g (l.set i x):=by
 subst d;have c:=h;unfold Arr at c ⊢;obtain⟨a,b⟩:=JK.1 c;have e:=AJ l i x;unfold mN at e;simp[World.setCell,a,Mm,b,e]
theorem Arr.setTo {m:List UInt32}(h:Arr T w g l)(i:Nat)(x:UInt32)(a:l.set i x=m):Arr T (w.setCell ⟨g,i,none⟩ (.int .u32 (aa x))) g m:=a▸h.set i x _ rfl
theorem Arr.other (h:Arr T w g l)(a:Addr)(v:Value)(b:g≠a.block):Arr T (w.setCell a v) g l:=
 (Below.heap_setCell w a v g b).trans h
section
variable {P : Program}
theorem jj (i:P.underlying c=some (.array n e))(m:(P.info? c).map (·.size)=some n)(d:o.guard=none)(x:Operand)(j:o.op=.load c x)
  (g:Nat) (l:List UInt32) (f:a.eval x=.pointer (some ⟨g,0,none⟩)) (h:Arr T w g l) (k:l.length=n)
  (p:wpList P b Q rest (a.put o.dst (.agg (aY l))) w):wpList P b Q (o :: rest) a w:=
 wpList_load_row d c x j g f T (aY l) (0,0) _ h i rfl (by rw[m,mO,k]) p
theorem AK (l:List UInt32):(aY l).all (·.oneCell')=true:=by
 rw[Mg];intro v a;simp only[aY,List.mem_toArray,KN] at a;obtain⟨x,_,rfl⟩:=a;rfl
theorem Arr.setRow (h:Arr T w g l)(m:List UInt32):Arr T (w.setRow g (aY m)) g m:=by
 unfold Arr at h ⊢;obtain⟨a,b⟩:=JK.1 h;simp[World.setRow,a,Mm,b]
theorem setRow_other (w:World)(g k:Nat)(cs:Array Value)(h:k≠g):(w.setRow g cs).heap[k]?=w.heap[k]?:=by
 simp only[World.setRow];rw[Array.getElem?_modify,if_neg (NK h)]
theorem Arr.setRow_other {k:Nat}(h:Arr T w k l)(cs:Array Value)(a:k≠g):Arr T (w.setRow g cs) k l:=
 (Go.Proofs.YthmhklmkgkfcpaaGreatDoor.setRow_other w g k cs a).trans h
theorem below_setRow {a:World}(h:Below B a w)(c:B<=g)(cs:Array Value):Below B a (w.setRow g cs):=
 ⟨h.os,h.tape,h.output,by simpa [World.setRow] using h.size,λk b=>(setRow_other w g k cs (by omega)).trans (h.block k b)⟩
theorem uw (p:(P.info? c).map (·.size)=some n)(d:o.guard=none)(x y:Operand)(j:o.op=.store c x y)
  (g:Nat) (l m:List UInt32) (i:a.eval x=.pointer (some ⟨g,0,none⟩)) (f:a.eval y=.agg (aY m)) (h:Arr T w g l) (k:l.length=n) (e:m.length=n)
  (q:wpList P b Q rest (a.put o.dst undef) (w.setRow g (aY m))):wpList P b Q (o :: rest) a w:=
 wpList_store_row d c x y j g (aY m) i f T (aY l) h (by rw[p,mO,e]) (by rw[mO,mO,k,e]) (AK m) q
theorem jk {t:TypeId}{z:Value}{b:Nat}(u:P.underlying t=some (.slice e))(d:(P.info? e).map (λi=>(i.zero,i.size,i.bytes))=some (some z,1,b))(s:z.cells=#[z])(D:b<=8)
  {f:Array Oper}      (B:o.guard=none) (l c:Operand) (m:o.op=Op.makeSlice t l c) (n:Nat) (y:a.eval l=.int .i64 n) (C:a.eval c=.int .i64 n) (v:n<=1000000)
  (E:∀ W,W=w.alloc (.cells (Array.replicate n z) e)->wpList P f Q rest (a.put o.dst (.slice (some ⟨w.heap.size,0,none⟩) n n)) W):wpList P f Q (o :: rest) a w:=by
 obtain⟨i,A,k,j,g⟩:=info_parts d;refine wpList_plain B λK q=>?_
 have p:(i.bytes:Int)*(n:Int)<=281474976710656:=by
  rw[g];have h:=LS D v;have F:((b*n:Nat):Int)<=((8*1000000:Nat):Int):=by omega
  rw[LB] at F;omega
 have r:=run_make (P:=P) w t e i z u A k .i64 .i64 n n (by omega) (Int.le_refl _) p (by omega);have x:madeCells #[z] n=Array.replicate n z:=by
  apply Array.ext';rw[toList_madeCells_one];simp
 rw[s,j,JX,NB,x] at r;unfold Oper.wp;simp[execOp,m,y,C,r,Result.andThen];exact q _ _ (E _ rfl)
structure But (g:Nat)(w W:World):Prop where
 below:∀ {B:Nat} {a:World},Below B a w->B<=g->Below B a W
 arr:∀ {T:TypeId} {k:Nat} {l:List UInt32},Arr T w k l->k≠g->Arr T W k l
 size:W.heap.size=w.heap.size
 other:∀ k,k≠g->W.heap[k]?=w.heap[k]?
theorem But.setRow (g:Nat)(w:World)(cs:Array Value):But g w (w.setRow g cs):=⟨λh c=>below_setRow h c cs,λh a=>h.setRow_other cs a,by simp[World.setRow],λk b=>Go.Proofs.YthmhklmkgkfcpaaGreatDoor.setRow_other w g k cs b⟩
theorem iL {d:TypeId}(p:(P.info? d).map (·.size)=some n)(c:o.guard=none)(q:o.dst=none)(x y:Operand)(i:o.op=.store d x y)
  (g:Nat) (l m:List UInt32) (f:a.eval x=.pointer (some ⟨g,0,none⟩)) (e:a.eval y=.agg (aY m)) (h:Arr T w g l) (k:l.length=n) (j:m.length=n)
  (r:∀ W,Arr T W g m->But g w W->wpList P b Q rest a W):wpList P b Q (o :: rest) a w:=
 uw p c x y i g l m f e h k j (by rw[q];exact r _ (h.setRow m) (But.setRow g w _))
theorem lA {a:TypeId}(c:P.underlying a=some (.array n e))(j:(P.info? a).map (·.size)=some n){b:Func}{p:Tmp}(d:b.results=#[.cell p a])(tmps:Array Value)(w:World)(g:Nat)(l:List UInt32)
  (f:tmps.getD p undef=.pointer (some ⟨g,0,none⟩)) (h:Arr T w g l) (i:l.length=n):(results b tmps).run P w=.ok (.agg (aY l)) w:=
 results_cell_row d tmps w g T (aY l) (0,0) _ f h c rfl (by rw[j,mO,i])
end
def By (T:TypeId)(w:World)(g:Nat)(l:List UInt8):Prop:=w.heap[g]?=some (.cells (Lib.byteCells l).toArray T (0,0))
theorem By.lt {l:List UInt8}(h:By T w g l):g<w.heap.size:=(JK.1 h).1
theorem By.cell {l:List UInt8}(h:By T w g l)(i:Nat)(a:i<l.length):w.cell? ⟨g,i,none⟩=some (.int .u8 ((l.getD i 0).toNat:Int)):=by
 rw[cell_of_row w g i _ T _ h];simp[Lib.byteCells,a]
theorem By.frozen {l:List UInt8}(h:By T w g l)(i:Nat):w.frozen? ⟨g,i,none⟩=false:=by
 have a:=h;unfold By at a;simp[World.frozen?,a]
theorem By.kp {l:List UInt8}(h:By T w g l)(k:Kp w w'):By T w' g l:=(k.block g h.lt).trans h
theorem By.set {l m:List UInt8}(h:By T w g l)(i:Nat)(x:UInt8)(d:l.set i x=m):By T (w.setCell ⟨g,i,none⟩ (.int .u8 (x.toNat:Int))) g m:=by
 subst d;have c:=h;unfold By at c ⊢;obtain⟨a,b⟩:=JK.1 c;simp[World.setCell,a,Mm,b,Lib.byteCells,List.map_set]
theorem By.rd {c:Nat}{l:List UInt8}(h:By T w g l)(m:n<=l.length)(k:n<=c)(f:c<=maxLen):Rd w (.slice (some ⟨g,0,none⟩) n c) (l.take n):=by
 have e:(l.take n).length=n:=by simp;omega
 refine⟨some ⟨g,0,none⟩,c,by rw[e],by rw[e];exact k,f,λh=>(by cases h),λx d i j=>?_⟩;cases d;rw[e] at j;have:=h.cell i (by omega);rw[MG];rw[JF,JG (by omega)] at this;rw[<-Mt (a:=l[i]) (b:=0),<-this];congr 1
 unfold Addr.add;split <;> simp_all
theorem By.rdAll {c:Nat}{l:List UInt8}(h:By T w g l)(d:n=l.length)(b:n<=c)(a:c<=maxLen):Rd w (.slice (some ⟨g,0,none⟩) n c) l:=by
 have:=h.rd (n:=n) (by omega) b a;rwa [Ku (by omega)] at this
theorem By.fresh (T:TypeId)(w:World)(n:Nat):By T (w.alloc (.cells (Array.replicate n (.int .u8 0)) T)) w.heap.size (List.replicate n 0):=by
 have:=heap_alloc_new w (.cells (Array.replicate n (.int .u8 0)) T);unfold By;rw[this];simp[Lib.byteCells]
def aM (A B:List UInt8)(i:Nat):List UInt8:=B.take i++A.drop i
theorem fX (A B:List UInt8)(i:Nat)(h:A.length=B.length)(a:i<=A.length):(aM A B i).length=A.length:=by simp[aM];omega
theorem io (A B:List UInt8)(i:Nat)(h:A.length=B.length)(d:i<A.length)(x:UInt8)(a:B[i]?=some x):(aM A B i).set i x=aM A B (i+1):=by
 unfold aM;have b:i<B.length:=by omega
 have c:(B.take i).length=i:=by simp;omega
 rw[JG b] at a;rw[MR _ _ (by omega),c,Mq,LK d,JM,JZ b,LQ];cases a;rfl
theorem jG (A B:List UInt8)(h:A.length=B.length):aM A B B.length=B:=by
 unfold aM;rw[Ku (JO _),MN (by omega),Lr]
theorem rj:∀ (w N k:Nat),k<w->(be w N)[k]?=some (UInt8.ofNat (N / 256 ^ (w - 1 - k)))
 | 0,_,k,h=>by omega
 | w+1,N,0,_=>by rw[jc];simp
 | w+1,N,k+1,h=>by
  rw[jc,JU,rj w N k (by omega)]
  congr 4
  omega
theorem lB (n:Nat):fill n<64:=by unfold fill;omega
theorem lC (n:Nat):(pad n).length=9+fill n:=by simp[pad,bq];omega
theorem ux (n:Nat):(n+(pad n).length) % 64=0:=by rw[lC];unfold fill;omega
theorem AL (n k:Nat)(h:k<8):(pad n)[1+fill n+k]?=some (UInt8.ofNat (8*n / 256 ^ (7 - k))):=by
 have e:(128 :: List.replicate (fill n) 0:List UInt8).length=1+fill n:=by simp;omega
 have a:pad n=(128 :: List.replicate (fill n) 0)++be 8 (8*n):=rfl;rw[a,Kn (by omega),e,show 1+fill n+k - (1+fill n)=k by omega,rj 8 _ k h]
theorem AM (n:Nat):(List.replicate (9+fill n) (0:UInt8)).set 0 128=aM (List.replicate (9+fill n) 0) (pad n) (1+fill n):=by
 have e:(128 :: List.replicate (fill n) 0:List UInt8).length=1+fill n:=by simp;omega
 have a:pad n=(128 :: List.replicate (fill n) 0)++be 8 (8*n):=rfl;unfold aM;rw[a,LW (by omega),Ku (by omega),List.drop_replicate,show 9+fill n=(fill n+8)+1 by omega,List.replicate_succ,JM,show fill n+8+1 - (1+fill n)=8 by omega,Ll,List.replicate_append_replicate]
def jH (n:Int):List UInt8:=if 0<=n/\n<=1125899906842624 then pad n.toNat else []
def fB (n x:Nat):Nat:=(2*x+n / (x*x)) / 3
def iq:Nat->Nat->Nat->Nat
 | 0,_,x=>x
 | f+1,n,x=>if x<=fB n x then x else iq f n (fB n x)
def ej (n:Nat):Nat:=iq 2097152 n 2097152
theorem AW (f n x:Nat)(h:x<=fB n x):iq f n x=x:=by
 cases f with
 | zero=>rfl
 | succ f=>simp[iq,h]
theorem AX (f n x:Nat)(a:x<=f)(h:¬x<=fB n x):∃ g,fB n x<=g/\iq g n (fB n x)=iq f n x:=by
 cases f with
 | zero=>omega
 | succ f=>exact⟨f,by omega,by simp[iq,h]⟩
theorem uE (n x:Nat)(b:1<=n)(a:1<=x):1<=fB n x:=by
 unfold fB;by_cases h:x=1
 ·subst h
  simp;omega
 ·generalize n / (x*x)=d
  omega
theorem uF:∀ (f n x:Nat),1<=n->1<=x->1<=iq f n x/\iq f n x<=x
 | 0,n,x,_,h=>⟨h,JO _⟩
 | f+1,n,x,h0,h=>by
  unfold iq
  split
  ·exact⟨h,JO _⟩
  ·have:=uF f n (fB n x) h0 (uE n x h0 h)
   omega
def cQ (p:Nat):Nat:=p*18014398509481984
def mP (p:Nat):Nat:=cQ p - ej (cQ p)*ej (cQ p)*ej (cQ p)
def rl (p:Nat):Nat:=ej (cQ p)*16384+mP p*16384 / (3*ej (cQ p)*ej (cQ p))
def mQ (p:Nat):UInt32:=UInt32.ofNat (rl p)
def rm (p:Nat):Bool:=decide (ej (cQ p)*ej (cQ p)*ej (cQ p)<=cQ p) && decide (mP p<281474976710656)
theorem AY:∀ p:Fin 312,p.val=0\/rm p.val=true:=by decide +kernel
def gJ:Nat->Nat->Nat->List Bool->List Bool
 | 0,_,_,D=>D
 | f+1,p,n,D=>if n<312 then gJ f p (n+p) (D.set n true) else D
theorem AZ (f p n:Nat)(D:List Bool)(h:¬n<312):gJ f p n D=D:=by
 cases f with
 | zero=>rfl
 | succ f=>simp[gJ,h]
theorem Ba (f p n:Nat)(D:List Bool)(h:n<312)(a:1<=p)(b:312<=f+n):∃ g,312<=g+(n+p)/\gJ g p (n+p) (D.set n true)=gJ f p n D:=by
 cases f with
 | zero=>omega
 | succ f=>exact⟨f,by omega,by simp[gJ,h]⟩
theorem uG:∀ (f p n:Nat) (D:List Bool),(gJ f p n D).length=D.length
 | 0,_,_,_=>rfl
 | f+1,p,n,D=>by
  unfold gJ
  split
  ·rw[uG f];simp
  ·rfl
structure ru where
 D:List Bool
 ps:List Nat
def oW (p:Nat)(s:ru):ru:=if s.D.getD p false then s else ⟨gJ 312 p (p*p) s.D,s.ps++[p]⟩
def cW:Nat->ru
 | 0=>⟨List.replicate 312 false,[]⟩
 | p+1=>if p<2 then cW p else oW p (cW p)
theorem oX:∀ p,(cW p).D.length=312
 | 0=>Lb
 | p+1=>by
  unfold cW
  split
  ·exact oX p
  ·unfold oW
   split
   ·exact oX p
   ·rw[uG];exact oX p
def iM (i:Nat):Nat:=(cW 312).ps.getD i 0
theorem Bb:(cW 312).ps.length=64:=by decide +kernel
theorem Bc:(List.range 64).map (λi=>mQ (iM i))=dd:=by decide +kernel
theorem Bd:∀ i:Fin 64,1<=iM i.val/\iM i.val<312:=by decide +kernel
theorem Be:∀ p:Fin 312,(cW p.val).D.getD p.val false=true\/p.val<2\/(iM (cW p.val).ps.length=p.val/\(cW p.val).ps.length<64):=by decide +kernel
theorem Bf (p:Nat)(h:(cW p).D.getD p false=true)(a:2<=p):cW (p+1)=cW p:=by
 rw[cW,if_neg (by omega),oW,if_pos h]
theorem Bg (p:Nat)(h:(cW p).D.getD p false=false)(a:2<=p):cW (p+1)=⟨gJ 312 p (p*p) (cW p).D,(cW p).ps++[p]⟩:=by
 rw[cW,if_neg (by omega),oW,if_neg (by rw[h];decide)]
theorem rx {P:Program}(w:World)(t e:TypeId)(n:Nat)(b:TypeInfo)(d:TypeDesc)(h:P.underlying t=some (.array n e))(k:P.info? e=some b)(f:b.size=1)(m:P.underlying e=some d)
  (o:(match d with|.struct _|.array _ _=>true|_=>false)=false) (cs:Array Value) (p:cs.size=n) (i:Nat) (j:i<n) (v:Value) (c:cs[i]?=some v):
  (Instr.index t (.agg cs) (.int .i64 i)).run P w=.ok v w:=by
 have g:(0<=(i:Int)/\(i:Int)<(n:Int)):=by omega
 have a:(isAgg e).run P w=.ok false w:=by
  unfold isAgg;rw[Sem.run_bind,run_underlying m w];cases d <;> simp_all
 simp[Instr.index,run_underlying h,asIntOf,g,go_sem,part,sizeOf,typeInfo,k,f,a,c,Sem.run_bind];intro l;omega
def cJ (K:List UInt8)(n:Nat):List UInt8:=(K.drop (16*n)).take 16
theorem it (h:16*n+16<=K.length):(cJ K n).length=16:=by simp[cJ];omega
theorem gd {j:Nat}(a:j<16):(cJ K n).getD j 0=K.getD (16*n+j) 0:=by
 unfold cJ;rw[JF,Mk a,MA,JF]
structure rS (row:List UInt8)(r:UInt8)(N:List UInt8):Prop where
 len:N.length=16
 low:∀ j,j<4->N.getD j 0=row.getD j 0 ^^^ bY (row.getD (12+(j+1) % 4) 0) ^^^ (if j=0 then r else 0)
 high:∀ j,4<=j->j<16->N.getD j 0=row.getD j 0 ^^^ N.getD (j - 4) 0
theorem vZ (key:List UInt8)(n:Nat):∀ d i,i<key.length+n->(dM key (n+d)).getD i 0=(dM key n).getD i 0
 | 0,i,_=>rfl
 | d+1,i,h=>by
  show(dM key (n+d)++[fu (dM key (n+d))]).getD i 0=_
  rw[JF,Kt (by rw[kx];omega),<-JF,vZ key n d i h]
theorem nJ {key:List UInt8}(h:key.length=16):(cU key).length=176:=by rw[cU,kx,h]
theorem rT {key:List UInt8}(h:key.length=16)(k i:Nat)(a:k<=160)(b:i<16+k):(cU key).getD i 0=(dM key k).getD i 0:=by
 have:=vZ key k (160 - k) i (by omega);rwa [show k+(160 - k)=160 by omega] at this
theorem CL {key:List UInt8}(h:key.length=16)(k:Nat)(a:k<160):(cU key).getD (16+k) 0=fu (dM key k):=by
 rw[rT h (k+1) (16+k) (by omega) (by omega),dM,JF,Kn (by rw[kx];omega),kx,h,Mq];rfl
theorem CM {key:List UInt8}(h:key.length=16):cJ (cU key) 0=key:=by
 refine lI 16 _ _ (it (by rw[nJ h];omega)) h λi a=>?_
 rw[gd a,rT h 0 _ (by omega) (by omega)];simp[dM]
theorem CN {key:List UInt8}(h:key.length=16)(n:Nat)(m:n<10):rS (cJ (cU key) n) (eB n) (cJ (cU key) (n+1)):=by
 have e:∀ j,j<16->(cU key).getD (16*(n+1)+j) 0=fu (dM key (16*n+j)):=λj a=>by
  rw[<-CL h (16*n+j) (by omega)];congr 1
  omega
 have f:∀ j,j<16->(dM key (16*n+j)).length=16*(n+1)+j:=λj a=>by rw[kx,h];omega
 have b:∀ j i,j<16->i<16*(n+1)+j->(dM key (16*n+j)).getD i 0=(cU key).getD i 0:=λj i a o=>(rT h (16*n+j) i (by omega) (by omega)).symm
 refine⟨it (by rw[nJ h];omega),λj a=>?_,λj p a=>?_⟩
 ·rw[gd (by omega),gd (by omega),gd (by omega),e j (by omega)]
  unfold fu;simp only[f j (by omega)];have l:(16*(n+1)+j) / 4=4*(n+1):=by omega
  have k:(16*(n+1)+j) % 4=j:=by omega
  have d:4*(n+1) % 4=0:=by omega
  rw[l,k];simp only[d,if_true,true_and];have g:4*(n+1) / 4 - 1=n:=by omega
  rw[g,b j _ (by omega) (by omega),b j _ (by omega) (by omega),show 4*(4*(n+1)) - 16+j=16*n+j by omega,show 4*(4*(n+1)) - 4+(j+1) % 4=16*n+(12+(j+1) % 4) by omega];by_cases c:j=0
  ·rw[if_pos c,if_pos c,UInt8.xor_assoc]
  ·rw[if_neg c,if_neg c,UInt8.xor_zero]
 ·rw[gd (by omega),gd (by omega),gd (by omega),e j (by omega)]
  unfold fu;simp only[f j (by omega)];have d:¬(16*(n+1)+j) / 4 % 4=0:=by omega
  simp only[d,if_false,false_and];rw[b j _ (by omega) (by omega),b j _ (by omega) (by omega),show 4*((16*(n+1)+j) / 4) - 16+(16*(n+1)+j) % 4=16*n+j by omega,show 4*((16*(n+1)+j) / 4) - 4+(16*(n+1)+j) % 4=16*(n+1)+(j - 4) by omega]
theorem nL (A B:List UInt8)(i j:Nat)(h:A.length=B.length)(c:i<=A.length):(aM A B i).getD j 0=if j<i then B.getD j 0 else A.getD j 0:=by
 unfold aM;have b:(B.take i).length=i:=by simp;omega
 by_cases a:j<i
 ·rw[if_pos a,JF,Kt (by omega),Mk a,JF]
 ·rw[if_neg a,JF,Kn (by omega),b,MA,JF,show i+(j - i)=j by omega]
def eH (row:List UInt8):List UInt8:=tab 16 λj=>row.getD j 0 ^^^ bY (row.getD (12+(j+1) % 4) 0)
theorem lJ (row:List UInt8):(eH row).length=16:=ft _ _
theorem CP (row:List UInt8)(j:Nat)(h:j<16):(eH row)[j]?=some (row.getD j 0 ^^^ bY (row.getD (12+(j+1) % 4) 0)):=by simp[eH,tab,h]
theorem CR {row N:List UInt8}{r:UInt8}(a:row.length=16)(h:rS row r N):(aM row (eH row) 4).set 0 ((eH row).getD 0 0 ^^^ r)=aM row N 4:=by
 have e:(aM row (eH row) 4).length=16:=by rw[fX _ _ 4 (by rw[a,lJ]) (by omega),a]
 have d:(aM row N 4).length=16:=by rw[fX _ _ 4 (by rw[a,h.len]) (by omega),a]
 refine lI 16 _ _ (by rw[Km,e]) d λi f=>?_
 rw[nL row N 4 i (by rw[a,h.len]) (by omega)];by_cases c:i=0
 ·subst c
  rw[JF,List.getElem?_set_self (by omega),if_pos (by omega),h.low 0 (by omega),if_pos rfl];show(eH row).getD 0 0 ^^^ r=_
  unfold eH;rw[iT 16 _ 0 (by omega)]
 ·rw[JF,List.getElem?_set_ne (by omega),<-JF,nL row (eH row) 4 i (by rw[a,lJ]) (by omega)]
  by_cases b:i<4
  ·rw[if_pos b,if_pos b,h.low i b,if_neg c,UInt8.xor_zero]
   unfold eH;rw[iT 16 _ i (by omega)]
  ·rw[if_neg b,if_neg b]
theorem qa {v:Value}{l:List UInt8}(h:Ow e w B v l)(a:0<l.length):∃ g c,v=.slice (some ⟨g,0,none⟩) l.length c/\B<=g/\g<w.heap.size/\l.length<=c/\c<=maxLen:=by
 rcases h.shape with⟨_,h0⟩|h
 ·rw[h0] at a;simp at a
 ·exact h
theorem yf (x:UInt8)(w:World):Calls prog 227 #[.int .u8 (x.toNat:Int)] w λe w'=>e=.returned (.int .u8 ((cN x).toNat:Int))/\w=w':=by
 rw[pY];exact EP x.toNat w (dx x)
theorem yg (h:w'.heap[g]?=w.heap[g]?)(i:Nat):w'.cell? ⟨g,i,none⟩=w.cell? ⟨g,i,none⟩:=by
 simp[World.cell?,h]
theorem EY (n:Nat)(f:Nat->UInt8):tab (n+1) f=tab n f++[f n]:=by simp[tab,List.range_succ]
theorem EZ (w:World):Calls prog 187 #[] w λe w'=>(e=.returned (.slice (some ⟨w.heap.size,0,none⟩) 256 256)/\By 5 w' w.heap.size fQ)/\Kp w w':=by
 have U:=aj;have af:=JE (λn=>ft n p3B);have ae:=JE (λn=>EY n p3B);have F:=JE (λn i h=>iT n p3B i h);have ah:=JE ye;have HF:=JE (λk l h=>fH.next (k:=k) (l:=l) h);have H0:Hid (fH 0 ((List.replicate 256 (0:UInt8)).set 0 (cN 0))):=fH.begin;obtain⟨L0,D⟩:∃ L,(List.replicate 256 (0:UInt8)).set 0 (cN 0)=L:=⟨_,rfl⟩;rw[D] at H0;have ai:=JE D;have ag:Hid (∀ W,Calls prog 227 #[.int .u8 0] W λe w'=>e=.returned (.int .u8 ((cN 0).toNat:Int))/\W=w'):=λW=>yf 0 W
 have HR:Hid ((List.replicate 256 (0:UInt8)).length=256):=Lb;clear D;go_enter func187,ntmps187;go_wp2_with(first
  | (at_make;refine jk (z:=.int .u8 0) (b:=1) underlying24 Og rfl (by decide) rfl _ _ rfl 256 rfl rfl (by omega) ?_;intro K g;have q:By 5 K w.heap.size (List.replicate 256 0):=(by rw[g];exact By.fresh _ _ _);have k0:Kp w K:=(by rw[g];exact(NQ _).alloc _);have O:w.heap.size+1=K.heap.size:=(by rw[g];simp);clear g;have c0:=q.cell 0 (by rw[HR.out];omega);have f0:=q.frozen 0)
  | (go_at_call 227;refine(ag.out _).mono ?_;rintro _ _ ⟨rfl,rfl⟩))
 have c:=q.set 0 (cN 0) ai.out;have y:=Below.setCell k0 (p:=⟨w.heap.size,0,none⟩) (by simp) (.int .u8 ((cN 0).toNat:Int));obtain⟨w2,u⟩:∃ w2,K.setCell ⟨w.heap.size,0,none⟩ (.int .u8 ((cN 0).toNat:Int))=w2:=⟨_,rfl⟩;have N:w2.heap.size=w.heap.size+1:=by rw[<-u,O];simp[World.setCell]
 have r:K.heap.size=w2.heap.size:=by omega
 rw[u] at c y ⊢;have o:Kp w w2:=y;have ap:Hid (tab 1 p3B=[1]):=rfl;rw[r];clear q c0 f0 k0 O r u ai ag HR y;go_loopw[2,3] (λvp p wr=>∃ n:Nat,1<=n/\n<=255/\p=.int .i64 n/\Ow 5 wr (w.heap.size+1) vp (tab n p3B)/\By 5 wr w.heap.size L0/\Kp w wr/\w.heap.size+1<=wr.heap.size) (λ_ p _=>255 - (intOf p).toNat)
 case atStart=>exact⟨1,by omega,by omega,rfl,by rw[ap.out];exact NT w2 5 (w.heap.size+1) 1 _ [1] (by omega) rfl (by decide) rfl,c.kp ((NQ _).alloc _),o.alloc _,by simp;omega⟩
 case round=>
  clear c o N;obtain⟨n,h1,hn,rfl,s,c,hk,hs⟩:=hrel;have I:=af.out n;obtain⟨f,cp,rfl,q1,q2,q3,q4⟩:=qa s (by omega);rw[I] at s q3 ⊢;unfold maxLen at q4;by_cases j:n<255
  ·have hq:(n:Int)<255:=by omega
   have ax:IntKind.i64.wrap ((n:Int) - 1)=(n:Int) - 1:=JI _ (by omega);have aw:((n:Int) - 1).toNat=n - 1:=by omega
   have av:0<=(n:Int) - 1:=by omega
   have au:(n:Int) - 1<(n:Int):=by omega
   obtain⟨b,ak,B,t,a⟩:=s.rd.at 0 (by omega);cases B;have A:=a (n - 1) (by omega);rw[F.out n (n - 1) (by omega)] at A;have an:wr.cell? ⟨f,n - 1,none⟩=some (.int .u8 ((p3B (n - 1)).toNat:Int)):=by rw[Lf] at A;exact A
   have hp:=ah.out (n - 1);rw[show n - 1+1=n by omega] at hp;have H:=pV (p3B (n - 1)) 3 wr;rw[<-hp] at H;have HM:Hid (Calls prog 228 #[.int .u8 ((p3B (n - 1)).toNat:Int),.int .u8 3] wr λe w'=>e=.returned (.int .u8 ((p3B n).toNat:Int))/\wr=w'):=H;have M:=ae.out n;generalize p3B (n - 1)=X at *;generalize p3B n=Y at *;generalize tab n p3B=T at *;have HN:=JE M;have HT:=JE I;clear hp H a A M I;go_wp2_with(first
    | (go_at_call 228;refine HM.out.mono ?_;rintro _ _ ⟨rfl,rfl⟩)
    | (at_builtin;refine bw U rfl _ _ rfl (w.heap.size+1) _ _ rfl (s.kp ((NQ _).alloc _)) _ [Y] rfl (Rd.box _ _ _ Y rfl) ?c1 ?c2 ?_;rotate_right;intro v' w2 Q hg _))
   case c1=>rw[HT.out];simp;omega
   case c2=>simp;omega
   rw[<-HN.out] at Q;have o:Kp w w2:=NS (hk.alloc _) hg (λk e=>by have:=s.own_ge k e;omega);have E:By 5 w2 w.heap.size L0:=(hg.block w.heap.size (by have:=c.lt;simp;omega) (λe=>by have:=s.own_ge _ e.symm;omega)).trans (c.kp ((NQ wr).alloc _));have P:=hg.size;have al:w.heap.size+1<=w2.heap.size:=by rw[JY] at P;omega
   clear HM an c hk hs P hg;go_roundw
   case rel=>exact⟨n+1,by omega,by omega,by go_num,Q,E,o,al⟩
   case measure=>simp[intOf];omega
  ·obtain rfl:n=255:=by omega
   obtain⟨b,ak,B,t,a⟩:=s.rd.at 0 (by omega);cases B;have hP:∀ i,i<255->wr.cell? ⟨f,i,none⟩=some (.int .u8 ((p3B i).toNat:Int)):=λi hi=>by
    have A:=a i hi;rw[F.out 255 i hi,Lf] at A;exact A
   have J:=JE hP;have ar:w.heap.size≠f:=by omega
   have S:f≠w.heap.size:=by omega
   clear a j s hn h1 I hP af ae F ah;go_wp2_with fail;rw[show((255:Nat):Int)=(255:Int) from rfl];go_loopw[4] (λp d=>∃ (k:Nat) (l:List UInt8),k<=255/\p=.int .i64 k/\Hid (fH k l)/\By 5 d w.heap.size l/\Hid (∀ i,i<255->d.cell? ⟨f,i,none⟩=some (.int .u8 ((p3B i).toNat:Int)))/\Kp w d) (λp _=>255 - (intOf p).toNat)
   case atStart=>exact⟨0,L0,by omega,rfl,H0,c,J,hk⟩
   case round=>
    clear c J hk hs q2 t;obtain⟨d,rfl⟩:∃ d,d=wr:=⟨_,rfl⟩;obtain⟨k,l,hk,rfl,G,c,J,ab⟩:=hrel;by_cases j:k<255
    ·have R:=JE (HF.out k l G.out j)
     have am:l.length=256:=G.out.1;have c1:=J.out k j;obtain⟨m,H⟩:∃ m,(255 - k) % 255=m:=⟨_,rfl⟩;have x:m<255:=by omega
     have c2:=J.out m x;have hX:=lY k;have C:=gX k;have ht:=yf (p3B m) d.drew;rw[H,<-hX] at R;rw[<-hX] at C;have c3:=c.cell (p3B k).toNat (by rw[am];exact C);have f3:=c.frozen (p3B k).toNat;have i1:IntKind.i64.wrap (255 - (k:Int))=255 - (k:Int):=JI _ (by omega);have i2:(255 - (k:Int)).tmod 255=(m:Int):=by rw[Kv (by omega)];omega
     have i3:(255 - (k:Int)) % 255=(m:Int):=by omega
     have i4:(m:Int)<255:=by omega
     have i5:(k:Int)<255:=by omega
     have i6:((p3B k).toNat:Int)<256:=by omega
     have i7:IntKind.i64.wrap ((p3B k).toNat:Int)=((p3B k).toNat:Int):=JI _ (by omega);have E:=(c.kp (NQ d).drew).set (p3B k).toNat (cN (p3B m)) rfl;have v:∀ i V,d.cell? ⟨f,i,none⟩=some V->(d.drew.setCell ⟨w.heap.size,(p3B k).toNat,none⟩ (.int .u8 ((cN (p3B m)).toNat:Int))).cell? ⟨f,i,none⟩=some V:=λi V h=>(yg (Below.heap_setCell d.drew ⟨w.heap.size,(p3B k).toNat,none⟩ (.int .u8 ((cN (p3B m)).toNat:Int)) f S) i).trans h
     have aq:Hid (∀ i,i<255->(d.drew.setCell ⟨w.heap.size,(p3B k).toNat,none⟩ (.int .u8 ((cN (p3B m)).toNat:Int))).cell? ⟨f,i,none⟩=some (.int .u8 ((p3B i).toNat:Int))):=λi hi=>v i _ (J.out i hi)
     have HS:=JE v;have aa:=Below.setCell ab.drew (p:=⟨w.heap.size,(p3B k).toNat,none⟩) (by simp) (.int .u8 ((cN (p3B m)).toNat:Int));have az:d.drew.cell? ⟨w.heap.size,(p3B k).toNat,none⟩=_:=c3;have ay:d.drew.frozen? ⟨w.heap.size,(p3B k).toNat,none⟩=_:=f3;have i8:0<=(m:Int):=by omega
     clear H hX C v c3 f3;have aB:Hid (aV k<256):=gX k;generalize hZ:cN (p3B m)=Z at *;generalize hY:p3B m=Y at *;generalize ad:p3B k=X at *;generalize ao:l.set X.toNat Z=l2 at *;have HZ:=JE hZ;have HY:=JE hY;have aA:=JE ad;clear hZ hY ad ao;go_wp2_with fail;go_region_held3 (λW=>W.cell? ⟨f,k,none⟩=some (.int .u8 (X.toNat:Int))/\W.cell? ⟨f,m,none⟩=some (.int .u8 (Y.toNat:Int)))
      (first
       | exact⟨c1,c2⟩
       | exact⟨HS.out _ _ c1,HS.out _ _ c2⟩)
      (first
       | (go_at_call 227;refine ht.mono ?_;rintro _ _ ⟨rfl,rfl⟩))
     all_goals
      go_wp2_with fail;go_roundw
      case rel=>exact⟨k+1,l2,by omega,by go_num,R,E,aq,aa⟩
      case measure=>simp[intOf];omega
    ·obtain rfl:k=255:=by omega
     have I:=G.out.all;rw[I] at c;go_wp2_with fail;go_ret;exact⟨⟨rfl,c⟩,ab⟩
theorem Fh (W:List UInt8)(i k:Nat)(a:W.length=4*i+k)(e:k<4):
  (i % 4≠0->W.getD (4*i - 16+k) 0 ^^^ W.getD (4*i - 4+k) 0=fu W) /\
  (i % 4=0->k≠0->W.getD (4*i - 16+k) 0 ^^^ bY (W.getD (4*i - 4+(k+1) % 4) 0)=fu W) /\
  (i % 4=0->k=0->W.getD (4*i - 16+k) 0 ^^^ (bY (W.getD (4*i - 4+(k+1) % 4) 0) ^^^ eB (i / 4 - 1))=fu W):=by
 have d:(4*i+k) / 4=i:=by omega
 have c:(4*i+k) % 4=k:=by omega
 refine⟨λh=>?_,λh b=>?_,λh b=>?_⟩
 ·unfold fu
  simp only[a,d,c,h,if_false,false_and]
 ·unfold fu
  simp only[a,d,c,h,b,if_true,if_false,and_false]
 ·unfold fu
  simp only[a,d,c];rw[if_pos ⟨h,b⟩,if_pos h]
theorem Fi (v:Value)(key:List UInt8)(bx:Nat)(w:World)(hv:Rd w v key)(a:key.length=16)(hX:By 5 w bx fQ):
  Calls prog 188 #[v,.slice (some ⟨bx,0,none⟩) 256 256] w λe w'=>(∃ r,e=.returned r/\Ow 5 w' w.heap.size r (cU key))/\Kp w w':=by
 have U:=aj;obtain⟨av,cv,rfl,h1,h2⟩:=hv.shape;rw[a] at hv h1 ⊢;have HK:=JE a;have HL:Hid (∀ n,(dM key n).length=16+n):=λn=>by rw[kx,a]
 have HT:Hid (∀ n,dM key n++[fu (dM key n)]=dM key (n+1)):=λn=>rfl
 have af:Hid (dM key 160=cU key):=rfl;have ag:Hid (dM key 0=key):=rfl;generalize hF:dM key=F at *;generalize cU key=K at *;clear hF;go_enter func188,ntmps188;go_wp2_with(at_builtin;refine bw U rfl _ _ rfl w.heap.size _ [] rfl (NT w _ _ 0 #[] [] (JO _) rfl (by omega) rfl) _ key rfl (hv.kp ((NQ _).alloc _)) (by rw[HK.out];simp) (by simp) ?_;intro v1 w1 S X _)
 have W:Kp w w1:=NS ((NQ w).alloc _) X (λk e=>by cases e;exact JO _);have E:Ow 5 w1 w.heap.size v1 (F 0):=by rw[ag.out];simpa using S
 have an:=hX.lt;clear X S hv h1 h2;go_loopw[5,6,7] (λv r p wr=>∃ (i:Nat) (x:Value),4<=i/\i<=44/\p=.int .i64 i/\x=v/\r=.int .u8 ((eB ((i - 1) / 4)).toNat:Int)/\Ow 5 wr w.heap.size v (F (4*i - 16))/\Kp w wr) (λ_ _ p _=>44 - (intOf p).toNat)
 case atStart=>exact⟨4,_,by omega,by omega,rfl,rfl,rfl,E,W⟩
 case round=>
  clear E W;obtain⟨i,x,h4,hi,rfl,rfl,rfl,j,a⟩:=hrel;by_cases al:i<44
  ·have q1:(i:Int)<44:=by omega
   have w1:IntKind.i64.wrap (4*(i:Int))=4*(i:Int):=JI _ (by omega);have w2:IntKind.i64.wrap (4*(i:Int) - 4)=4*(i:Int) - 4:=JI _ (by omega);have w3:IntKind.i64.wrap (4*(i:Int) - 16)=4*(i:Int) - 16:=JI _ (by omega);have t:(i:Int).tmod 4=((i % 4:Nat):Int):=by rw[Kv (by omega)];omega
   have d:(i:Int) % 4=((i % 4:Nat):Int):=by omega
   go_wp2_with fail;go_loopw[5,8] (λv p wr=>∃ (k:Nat) (x:Value),k<=4/\p=.int .i64 k/\x=v/\Ow 5 wr w.heap.size v (F (4*i - 16+k))/\Kp w wr) (λ_ p _=>4 - (intOf p).toNat)
   case atStart=>exact⟨0,_,by omega,rfl,rfl,j,a⟩
   case round=>
    clear j a;obtain⟨k,x,am,rfl,rfl,j,a⟩:=hrel;by_cases T:k<4
    ·have qk:(k:Int)<4:=by omega
     obtain⟨n,hn⟩:∃ n,4*i - 16+k=n:=⟨_,rfl⟩;have V:=HL.out n;rw[hn] at j;have A:4*i - 16+(k+1)=n+1:=by omega
     have y:=JE A;have u:=HT.out n;obtain⟨P,O,M⟩:=Fh (F n) i k (by rw[V];omega) T;rw[hn] at P O M;obtain⟨N,hN⟩:∃ N,16+n=N:=⟨_,rfl⟩;rw[hN] at V;obtain⟨p1,R⟩:∃ p,4*i - 4+k=p:=⟨_,rfl⟩;obtain⟨m,hm⟩:∃ m,(k+1) % 4=m:=⟨_,rfl⟩;obtain⟨aV,Q⟩:∃ p,4*i - 4+m=p:=⟨_,rfl⟩;rw[R] at P;rw[hm,Q] at O M;have L:=JE j.own_ge;obtain⟨g,c,rfl,g1,g2,g3,g4⟩:=qa j (by omega);obtain⟨b,ak,ad,ai,h⟩:=j.rd.at 0 (by omega);cases ad;have c1:=h p1 (by omega);have c2:=h n (by omega);have c3:=h aV (by omega);rw[Lf] at c1 c2 c3;have c4:=(hX.kp a).cell ((F n).getD aV 0).toNat (by rw[og];exact dx _);rw[pZ] at c4;have aa:=dx ((F n).getD aV 0);have i6:(((F n).getD aV 0).toNat:Int)<256:=by omega
     have i7:IntKind.i64.wrap (((F n).getD aV 0).toNat:Int)=(((F n).getD aV 0).toNat:Int):=JI _ (by omega);have x1:=cz ((F n).getD n 0) ((F n).getD p1 0);have x2:=cz ((F n).getD n 0) (bY ((F n).getD aV 0));have x3:=cz (bY ((F n).getD aV 0)) (eB ((i - 1) / 4));have x4:=cz ((F n).getD n 0) (bY ((F n).getD aV 0) ^^^ eB ((i - 1) / 4));rw[V] at j g3 ⊢;have HN:=JE V;unfold maxLen at g4;have e1:4*(i:Int) - 4+(k:Int)=(p1:Int):=by omega
     have e2:4*(i:Int) - 16+(k:Int)=(n:Int):=by omega
     have e3:4*(i:Int) - 4+(m:Int)=(aV:Int):=by omega
     have v1:IntKind.i64.wrap (p1:Int)=p1:=JI _ (by omega);have v2:IntKind.i64.wrap (n:Int)=n:=JI _ (by omega);have v3:IntKind.i64.wrap (aV:Int)=aV:=JI _ (by omega);have v4:IntKind.i64.wrap ((k:Int)+1)=(k:Int)+1:=JI _ (by omega);have v5:((k:Int)+1).tmod 4=(m:Int):=by rw[Kv (by omega)];omega
     have v6:((k:Int)+1) % 4=(m:Int):=by omega
     have u1:(p1:Int)<(N:Int):=by omega
     have u2:(n:Int)<(N:Int):=by omega
     have u3:(aV:Int)<(N:Int):=by omega
     have ao:N<=176:=by omega
     clear h V hN R Q hm hn;by_cases q:i % 4=0
     ·rw[q] at t d
      by_cases D:k=0
      ·have f:=M q D
       rw[show i / 4 - 1=(i - 1) / 4 by omega] at f;rw[f] at x4;have G:((k:Int)==0)=true:=by rw[D];rfl
       clear D;generalize (F n).getD aV 0=X3 at *;generalize (F n).getD p1 0=X1 at *;generalize (F n).getD n 0=X2 at *;generalize bY X3 ^^^ eB ((i - 1) / 4)=Z at *;generalize bY X3=X4 at *;generalize C:fu (F n)=Y at *;have HY:=JE u;clear P O M x1 x2 C f u;go_wp2_with(at_builtin;refine bw U rfl _ _ rfl w.heap.size _ _ rfl (j.kp ((NQ _).alloc _)) _ [Y] rfl (Rd.box _ _ _ Y rfl) (by rw[HN.out];simp;omega) (a.alloc _).size ?_;intro v' w2 l H _)
       rw[HY.out] at l;have B:Kp w w2:=NS (a.alloc _) H L.out;clear H j a;go_roundw
       case rel=>exact⟨k+1,_,by omega,by go_num,rfl,by rw[y.out];exact l,B⟩
       case measure=>simp[intOf];omega
      ·have f:=O q D
       rw[f] at x2;have G:¬(k:Int)=0:=by omega
       have ah:((k:Int)==0)=false:=JL.2 G;generalize (F n).getD aV 0=X3 at *;generalize (F n).getD p1 0=X1 at *;generalize (F n).getD n 0=X2 at *;generalize bY X3=X4 at *;generalize C:fu (F n)=Y at *;have HY:=JE u;clear P O M x1 x3 x4 C f u;go_wp2_with(at_builtin;refine bw U rfl _ _ rfl w.heap.size _ _ rfl (j.kp ((NQ _).alloc _)) _ [Y] rfl (Rd.box _ _ _ Y rfl) (by rw[HN.out];simp;omega) (a.alloc _).size ?_;intro v' w2 l H _)
       rw[HY.out] at l;have B:Kp w w2:=NS (a.alloc _) H L.out;clear H j a;go_roundw
       case rel=>exact⟨k+1,_,by omega,by go_num,rfl,by rw[y.out];exact l,B⟩
       case measure=>simp[intOf];omega
     ·have f:=P q
      rw[f] at x1;have s:¬((i % 4:Nat):Int)=0:=by omega
      have I:(((i % 4:Nat):Int)==0)=false:=JL.2 s;obtain⟨im,o⟩:∃ m,i % 4=m:=⟨_,rfl⟩;rw[o] at t d s I;generalize (F n).getD p1 0=X1 at *;generalize (F n).getD n 0=X2 at *;generalize C:fu (F n)=Y at *;have HY:=JE u;clear P O M x2 x3 x4 c3 c4 aa i6 i7 C f u o;go_wp2_with(at_builtin;refine bw U rfl _ _ rfl w.heap.size _ _ rfl (j.kp ((NQ _).alloc _)) _ [Y] rfl (Rd.box _ _ _ Y rfl) (by rw[HN.out];simp;omega) (a.alloc _).size ?_;intro v' w2 l H _)
      rw[HY.out] at l;have B:Kp w w2:=NS (a.alloc _) H L.out;clear H j a;go_roundw
      case rel=>exact⟨k+1,_,by omega,by go_num,rfl,by rw[y.out];exact l,B⟩
      case measure=>simp[intOf];omega
    ·obtain rfl:k=4:=by omega
     have A:4*(i+1) - 16=4*i - 16+4:=by omega
     have y:=JE A;have ae:=JE (pV (eB ((i - 1) / 4)) 2 wr);by_cases q:i % 4=0
     ·have z:bd (eB ((i - 1) / 4)) 2=eB ((i+1 - 1) / 4):=by
       rw[show(i+1 - 1) / 4=(i - 1) / 4+1 by omega];rfl
      have J:=JE z;generalize bd (eB ((i - 1) / 4)) 2=R2 at *;generalize eB ((i - 1) / 4)=R1 at *;have s:(((i % 4:Nat):Int)==0)=true:=by rw[q];rfl
      obtain⟨im,o⟩:∃ m,i % 4=m:=⟨_,rfl⟩;rw[o] at t d s;clear q o z A;go_wp2_with(go_at_call 228;refine ae.out.mono ?_;rintro _ _ ⟨rfl,rfl⟩)
      go_roundw
      case rel=>exact⟨i+1,_,by omega,by omega,by go_num,rfl,by rw[J.out],by rw[y.out];exact j,a⟩
      case measure=>simp[intOf];omega
     ·have z:eB ((i - 1) / 4)=eB ((i+1 - 1) / 4):=by rw[show(i+1 - 1) / 4=(i - 1) / 4 by omega]
      have J:=JE z;generalize eB ((i - 1) / 4)=R1 at *;have s:¬((i % 4:Nat):Int)=0:=by omega
      have I:(((i % 4:Nat):Int)==0)=false:=JL.2 s;obtain⟨im,o⟩:∃ m,i % 4=m:=⟨_,rfl⟩;rw[o] at t d s I;clear q o z A;go_wp2_with fail;go_roundw
      case rel=>exact⟨i+1,_,by omega,by omega,by go_num,rfl,by rw[J.out],by rw[y.out];exact j,a⟩
      case measure=>simp[intOf];omega
  ·obtain rfl:i=44:=by omega
   have ab:Ow 5 wr w.heap.size x K:=by rw[<-af.out];exact j
   clear j;go_wp2_with fail;go_ret;exact⟨⟨_,rfl,ab⟩,a⟩
theorem Fj (i:Nat):p3B i ^^^ bd (p3B i) 2=p3B (i+1):=by
 rw[ye,show(3:UInt8)=1 ^^^ 2 by decide,rO,vW]
def eL:List UInt8:=tab 255 p3B
theorem kO:eL.length=255:=ft _ _
theorem Fk (i:Nat)(h:i<255):eL[i]?=some (p3B i):=by simp[eL,tab,h]
def bF (l:List UInt8):Array Value:=(Lib.byteCells l).toArray
theorem jx (l:List UInt8):(bF l).size=l.length:=by simp[bF,cO]
theorem Fl (l:List UInt8)(i:Nat)(h:i<l.length):(bF l)[i]?=some (.int .u8 ((l.getD i 0).toNat:Int)):=by
 simp[bF,Lib.byteCells,h]
theorem By.new (T:TypeId)(w:World)(l:List UInt8):By T (w.alloc (.cells (bF l) T)) w.heap.size l:=heap_alloc_new w _
theorem Fm:∀ w,(zeroValue 282).run prog w=.ok (.agg (bF (List.replicate 255 0))) w:=(zero_of_info (n:=255) (by kernel_rfl)).1
theorem Fo:∀ w,(zeroValue 283).run prog w=.ok (.agg (bF (List.replicate 256 0))) w:=(zero_of_info (n:=256) (by kernel_rfl)).1
theorem Fp:∃ a,prog.info? 5=some a/\a.size=1:=by
 have h:(prog.info? 5).map (·.size)=some 1:=by kernel_rfl
 cases hq:prog.info? 5 with
 | none=>rw[hq] at h;cases h
 | some a=>rw[hq] at h;exact⟨a,rfl,by simpa using h⟩
section
variable {P : Program}
theorem qe (i:P.underlying c=some (.array n e))(m:(P.info? c).map (·.size)=some n)(d:o.guard=none)(x:Operand)(j:o.op=.load c x)
  (g:Nat) (l:List UInt8) (f:a.eval x=.pointer (some ⟨g,0,none⟩)) (h:By T w g l) (k:l.length=n)
  (p:wpList P b Q rest (a.put o.dst (.agg (bF l))) w):wpList P b Q (o :: rest) a w:=
 wpList_load_row d c x j g f T (bF l) (0,0) _ h i rfl (by rw[m,jx,k]) p
theorem Fq (l:List UInt8):(bF l).all (·.oneCell')=true:=by
 rw[Mg];intro v a;simp only[bF,Lib.byteCells,List.mem_toArray,KN] at a;obtain⟨x,_,rfl⟩:=a;rfl
theorem By.setRow {l:List UInt8}(h:By T w g l)(m:List UInt8):By T (w.setRow g (bF m)) g m:=by
 unfold By at h ⊢;obtain⟨a,b⟩:=JK.1 h;simp[World.setRow,a,Mm,b,bF]
theorem sS (p:(P.info? c).map (·.size)=some n)(d:o.guard=none)(q:o.dst=none)(x y:Operand)(j:o.op=.store c x y)
  (g:Nat) (l m:List UInt8) (i:a.eval x=.pointer (some ⟨g,0,none⟩)) (f:a.eval y=.agg (bF m)) (h:By T w g l) (k:l.length=n) (e:m.length=n)
  (r:∀ W,By T W g m->But g w W->wpList P b Q rest a W):wpList P b Q (o :: rest) a w:=
 wpList_store_row d c x y j g (bF m) i f T (bF l) h (by rw[p,jx,e]) (by rw[jx,jx,k,e]) (Fq m) (by rw[q];exact r _ (h.setRow m) (But.setRow g w _))
end
theorem Fr (w:World):Calls prog 238 #[] w λe w'=>(∃ g,e=.returned (.pointer (some ⟨g,0,none⟩))/\By 283 w' g fQ/\w.heap.size<=g)/\Kp w w':=by
 have z1:=Fm;have z2:=Fo;have P0:By 282 (w.alloc (.cells (bF (List.replicate 255 0)) 282)) w.heap.size (aM (List.replicate 255 0) eL 0):=by
  rw[show aM (List.replicate 255 (0:UInt8)) eL 0=List.replicate 255 0 by simp[aM]];exact By.new _ w _
 have HN:Hid (∀ i,i<255->(aM (List.replicate 255 0) eL i).set i (p3B i)=aM (List.replicate 255 0) eL (i+1)):=λi r=>
  io _ _ i (by rw[kO,Lb]) (by rw[Lb];exact r) _ (Fk i r)
 have HL:Hid (∀ i,i<=255->(aM (List.replicate 255 0) eL i).length=255):=λi r=>by
  rw[fX _ _ i (by rw[kO,Lb]) (by rw[Lb];exact r),Lb]
 have HA:Hid (aM (List.replicate 255 0) eL 255=eL):=jG _ _ (by rw[kO,Lb]);obtain⟨Z,B⟩:∃ Z,bF (List.replicate 255 (0:UInt8))=Z:=⟨_,rfl⟩;obtain⟨Y,s⟩:∃ Y,bF (List.replicate 256 (0:UInt8))=Y:=⟨_,rfl⟩;have ae:Z.size=255:=by rw[<-B,jx];rfl
 have af:Y.size=256:=by rw[<-s,jx];rfl
 rw[B] at z1 P0;rw[s] at z2;generalize hM:aM (List.replicate 255 0) eL=M at *;have HY:=JE s;clear B hM s;go_enter func238,ntmps238;go_wp2_with fail;go_loopw[2,7] (λx p wr=>∃ i:Nat,i<=255/\p=.int .i64 i/\x=.int .u8 ((p3B i).toNat:Int)/\By 282 wr w.heap.size (M i)/\Kp w wr/\w.heap.size<wr.heap.size) (λ_ p _=>255 - (intOf p).toNat)
 case atStart=>exact⟨0,by omega,rfl,rfl,P0,(NQ _).alloc _,by simp⟩
 case round=>
  clear P0;obtain⟨i,r,rfl,rfl,d,G,hs⟩:=hrel;by_cases b:i<255
  ·have hq:(i:Int)<255:=by omega
   have hn:=HN.out i b;have hc:=d.cell i (by rw[HL.out i r];exact b);have hf:=d.frozen i;have hd:=lZ (p3B i) (wr.setCell ⟨w.heap.size,i,none⟩ (.int .u8 ((p3B i).toNat:Int)));have hx:=cz (p3B i) (bd (p3B i) 2);rw[Fj] at hx;have o:=d.set i (p3B i) hn;have P:=Below.setCell G (p:=⟨w.heap.size,i,none⟩) (by simp) (.int .u8 ((p3B i).toNat:Int));have K:w.heap.size<(wr.setCell ⟨w.heap.size,i,none⟩ (.int .u8 ((p3B i).toNat:Int))).heap.size:=by simpa using hs
   obtain⟨V,T⟩:∃ V,p3B (i+1)=V:=⟨_,rfl⟩;rw[T] at hx;have HV:=JE T;clear T;generalize bd (p3B i) 2=D at *;generalize p3B i=U at *;generalize E:wr.setCell ⟨w.heap.size,i,none⟩ (.int .u8 (U.toNat:Int))=W at *;have HW:=JE E;clear hn E;go_wp2_with(go_at_call 240;rw[HW.out];refine hd.mono ?_;rintro _ _ ⟨rfl,rfl⟩)
   go_roundw
   case rel=>exact⟨i+1,by omega,by go_num,by rw[HV.out],o,P,K⟩
   case measure=>simp[intOf];omega
  ·obtain rfl:i=255:=by omega
   rw[HA.out] at d;obtain⟨a,A⟩:∃ a,wr.heap.size=a:=⟨_,rfl⟩;have F:By 283 (wr.alloc (.cells Y 283)) a (List.replicate 256 0):=by
    rw[<-HY.out,<-A];exact By.new _ wr _
   have P1:=d.kp ((NQ wr).alloc (.cells Y 283));have k1:Kp w (wr.alloc (.cells Y 283)):=G.alloc _;have L:a<(wr.alloc (.cells Y 283)).heap.size:=F.lt;have c0:=F.cell 0 (by decide);have f0:=F.frozen 0;have B1:=F.set 0 (cN 0) rfl;have u:=yj 0 (wr.alloc (.cells Y 283));have I:=Below.setCell k1 (p:=⟨a,0,none⟩) (by show w.heap.size<=a;omega) (.int .u8 ((cN 0).toNat:Int));have H:By 282 ((wr.alloc (.cells Y 283)).setCell ⟨a,0,none⟩ (.int .u8 ((cN 0).toNat:Int))) w.heap.size eL:=
    (Below.heap_setCell _ ⟨a,0,none⟩ _ w.heap.size (by show w.heap.size≠a;omega)).trans P1
   have HF:=JE (λk l h=>fH.next (k:=k) (l:=l) h);have H0:Hid (fH 0 ((List.replicate 256 (0:UInt8)).set 0 (cN 0))):=fH.begin;generalize (List.replicate 256 (0:UInt8)).set 0 (cN 0)=L0 at *;generalize E:wr.alloc (.cells Y 283)=W1 at *;have HW:=JE E;have N:w.heap.size≠a:=by omega
   have y:w.heap.size<=a:=by omega
   obtain⟨W2,C⟩:∃ W2,W1.setCell ⟨a,0,none⟩ (.int .u8 ((cN 0).toNat:Int))=W2:=⟨_,rfl⟩;rw[C] at B1 I H;go_wp2_with fail;refine u.mono ?_;rintro _ _ ⟨rfl,rfl⟩;clear z1 z2;go_wp2_with(refine qe underlying282 (by kernel_rfl) rfl (.tmp 1) rfl w.heap.size eL rfl H kO ?_)
   clear E HW P1 k1 L c0 f0 A F u C HN HL HA HY d G hs;go_loopw[21] (λp f=>∃ (k:Nat) (l:List UInt8),k<=255/\p=.int .i64 k/\Hid (fH k l)/\By 283 f a l/\By 282 f w.heap.size eL/\Kp w f) (λp _=>255 - (intOf p).toNat)
   case atStart=>exact⟨0,L0,by omega,rfl,H0,B1,H,I⟩
   case round=>
    clear B1 H I;obtain⟨f,rfl⟩:∃ f,f=wr:=⟨_,rfl⟩;obtain⟨k,l,G,rfl,q,t,d,j⟩:=hrel;by_cases b:k<255
    ·have v:=JE (HF.out k l q.out b)
     have O:l.length=256:=q.out.1;obtain⟨m,hm⟩:∃ m,(255 - k) % 255=m:=⟨_,rfl⟩;have c:m<255:=by omega
     have c2:=d.cell m (by rw[kO];exact c);rw[show eL.getD m 0=p3B m from iT 255 p3B m c] at c2;have S:=lY k;have n:=gX k;have ht:=yj (p3B m) f;rw[hm,<-S] at v;rw[<-S] at n;have c3:=t.cell (p3B k).toNat (by rw[O];exact n);have f3:=t.frozen (p3B k).toNat;have i1:IntKind.i64.wrap (255 - (k:Int))=255 - (k:Int):=JI _ (by omega);have i2:(255 - (k:Int)).tmod 255=(m:Int):=by rw[Kv (by omega)];omega
     have i3:(255 - (k:Int)) % 255=(m:Int):=by omega
     have i4:(m:Int)<255:=by omega
     have i5:(k:Int)<255:=by omega
     have i6:((p3B k).toNat:Int)<256:=by omega
     have i8:0<=(m:Int):=by omega
     have ad:∀ W,(Instr.index 282 (.agg (bF eL)) (.int .i64 k)).run prog W=.ok (.int .u8 ((p3B k).toNat:Int)) W:=λW=>by
      obtain⟨ie,Q,J⟩:=Fp;have hg:=Fl eL k (by rw[kO];exact b);rw[show eL.getD k 0=p3B k from iT 255 p3B k b] at hg;exact rx W 282 5 255 ie _ underlying282 Q J underlying5 rfl _ (by rw[jx,kO]) k b _ hg
     have ab:=t.set (p3B k).toNat (cN (p3B m)) rfl;have o:By 282 (f.setCell ⟨a,(p3B k).toNat,none⟩ (.int .u8 ((cN (p3B m)).toNat:Int))) w.heap.size eL:=(Below.heap_setCell f ⟨a,_,none⟩ _ w.heap.size N).trans d;have z:=Below.setCell j (p:=⟨a,(p3B k).toNat,none⟩) y (.int .u8 ((cN (p3B m)).toNat:Int));clear hm S n;generalize B:cN (p3B m)=Z at *;generalize s:p3B m=Y at *;generalize R:p3B k=X at *;generalize aa:l.set X.toNat Z=l2 at *;clear B s R aa d t j;go_wp2_with(go_at_call 263;refine ht.mono ?_;rintro _ _ ⟨rfl,rfl⟩)
     go_roundw
     case rel=>exact⟨k+1,l2,by omega,by go_num,v,ab,o,z⟩
     case measure=>simp[intOf];omega
    ·obtain rfl:k=255:=by omega
     have hl:=q.out.all;rw[hl] at t;go_wp2_with fail;go_ret;exact⟨⟨_,rfl,t,y⟩,j⟩

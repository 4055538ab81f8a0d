import Derived.Test.YthmhklmkgkfcpaaGreatDoorT1
import Derived.Test.YthmhklmkgkfcpaaGreatDoorT2
import Derived.Laws.Rows
import Derived.Laws.Tables
import Derived.Laws.PanicsMore
import Derived.StillTailTactics
import Derived.Deep.RegionHeld3
import Derived.Deep.WholeRow
set_option linter.unusedVariables false
set_option linter.unusedSimpArgs false
set_option maxHeartbeats 8000000
set_option maxRecDepth 100000
namespace Go.Proofs.YthmhklmkgkfcpaaGreatDoor
open Go.RowKit
def anv (x:UInt32):Value:=.int .u32 (ar1 x)
def aam (l:List UInt32):Array Value:=(l.map anv).toArray
def Arr (T:TypeId)(w:World)(g:Nat)(l:List UInt32):Prop:=w.heap[g]?=some (.cells (aam l) T (0,0))
theorem acC (l:List UInt32):(aam l).size=l.length:=by simp[aam]
theorem afk (l:List UInt32)(i:Nat)(h:i<l.length):(aam l)[i]?=some (.int .u32 (ar1 (l.getD i 0))):=by
 simp[aam,anv,h]
theorem Arr.lt {T:TypeId}{w:World}{g:Nat}{l:List UInt32}(h:Arr T w g l):g<w.heap.size:=(Array.getElem?_eq_some_iff.1 h).1
theorem Arr.cell {T:TypeId}{w:World}{g:Nat}{l:List UInt32}(h:Arr T w g l)(i:Nat)(hi:i<l.length):w.cell? ⟨g,i,none⟩=some (.int .u32 (ar1 (l.getD i 0))):=by
 rw[cell_of_row w g i _ T _ h,afk l i hi]
theorem Arr.frozen {T:TypeId}{w:World}{g:Nat}{l:List UInt32}(h:Arr T w g l)(i:Nat)(hi:i<l.length):w.frozen? ⟨g,i,none⟩=false:=by
 have h':=h;unfold Arr at h';simp[World.frozen?,h']
theorem Arr.kp {T:TypeId}{w w':World}{g:Nat}{l:List UInt32}(h:Arr T w g l)(k:Kp w w'):Arr T w' g l:=
 (k.block g h.lt).trans h
theorem Arr.below {T:TypeId}{w w':World}{g B:Nat}{l:List UInt32}(h:Arr T w g l)(k:Below B w w')(hg:g<B):Arr T w' g l:=
 (k.block g hg).trans h
theorem Arr.drewN {T:TypeId}{w:World}{g:Nat}{l:List UInt32}(h:Arr T w g l)(n:Nat):Arr T (w.drewN n) g l:=h.kp ((Kp.refl w).drewN n)
theorem Arr.drew {T:TypeId}{w:World}{g:Nat}{l:List UInt32}(h:Arr T w g l):Arr T w.drew g l:=h
theorem Arr.alloc {T:TypeId}{w:World}{g:Nat}{l:List UInt32}(h:Arr T w g l)(o:Obj):Arr T (w.alloc o) g l:=(Below.heap_alloc w o g h.lt).trans h
theorem Arr.new (T:TypeId)(w:World)(cs:Array Value)(l:List UInt32)(h:cs=aam l):Arr T (w.alloc (.cells cs T)) w.heap.size l:=by
 subst h;exact heap_alloc_new w _
theorem al0 (l:List UInt32)(i:Nat)(x:UInt32):(aam l).setIfInBounds i (anv x)=aam (l.set i x):=by
 apply Array.ext';simp[aam,List.map_set]
theorem Arr.set {T:TypeId}{w:World}{g:Nat}{l:List UInt32}(h:Arr T w g l)(i:Nat)(x:UInt32)(v:Value)(hv:v=.int .u32 (ar1 x)):Arr T (w.setCell ⟨g,i,none⟩ v) g (l.set i x):=by
 subst hv;have h':=h;unfold Arr at h' ⊢;obtain ⟨hlt,heq⟩:=Array.getElem?_eq_some_iff.1 h';have e:=al0 l i x;unfold anv at e;simp[World.setCell,hlt,Array.getElem_modify,heq,e]
theorem Arr.setTo {T:TypeId}{w:World}{g:Nat}{l m:List UInt32}(h:Arr T w g l)(i:Nat)(x:UInt32)(hm:l.set i x=m):Arr T (w.setCell ⟨g,i,none⟩ (.int .u32 (ar1 x))) g m:=hm▸h.set i x _ rfl
theorem Arr.other {T:TypeId}{w:World}{g:Nat}{l:List UInt32}(h:Arr T w g l)(a:Addr)(v:Value)(hne:g≠a.block):Arr T (w.setCell a v) g l:=
 (Below.heap_setCell w a v g hne).trans h
section
variable {P : Program}
theorem aaC {T ty e:TypeId}{n:Nat}(hu:P.underlying ty=some (.array n e))(hi:(P.info? ty).map (·.size)=some n){ops:Array Oper}{rest:List Oper}{o:Oper}{a:Act}{w:World}{Q:Exit→Act→World→Prop}(hgd:o.guard=none)(x:Operand)(ho:o.op=.load ty x)
  (g:Nat) (l:List UInt32) (hx:a.eval x=.pointer (some ⟨g,0,none⟩)) (h:Arr T w g l) (hl:l.length=n)
  (hK:wpList P ops Q rest (a.put o.dst (.agg (aam l))) w):wpList P ops Q (o :: rest) a w:=
 wpList_load_row hgd ty x ho g hx T (aam l) (0,0) _ h hu rfl (by rw[hi,acC,hl]) hK
theorem al1 (l:List UInt32):(aam l).all (·.oneCell')=true:=by
 rw[Array.all_eq_true_iff_forall_mem];intro v hv;simp only[aam,List.mem_toArray,List.mem_map] at hv;obtain ⟨x,_,rfl⟩:=hv;rfl
theorem Arr.setRow {T:TypeId}{w:World}{g:Nat}{l:List UInt32}(h:Arr T w g l)(m:List UInt32):Arr T (w.setRow g (aam m)) g m:=by
 unfold Arr at h ⊢;obtain ⟨hlt,heq⟩:=Array.getElem?_eq_some_iff.1 h;simp[World.setRow,hlt,Array.getElem_modify,heq]
theorem setRow_other (w:World)(g k:Nat)(cs:Array Value)(h:k≠g):(w.setRow g cs).heap[k]?=w.heap[k]?:=by
 simp only[World.setRow];rw[Array.getElem?_modify,if_neg (Ne.symm h)]
theorem Arr.setRow_other {T:TypeId}{w:World}{g k:Nat}{l:List UInt32}(h:Arr T w k l)(cs:Array Value)(hne:k≠g):Arr T (w.setRow g cs) k l:=
 (Go.Proofs.YthmhklmkgkfcpaaGreatDoor.setRow_other w g k cs hne).trans h
theorem below_setRow {B:Nat}{a w:World}(h:Below B a w){g:Nat}(hg:B≤g)(cs:Array Value):Below B a (w.setRow g cs):=
 ⟨h.os,h.tape,h.output,by simpa [World.setRow] using h.size,fun k hk=>(setRow_other w g k cs (by omega)).trans (h.block k hk)⟩
theorem adJ {T ty:TypeId}{n:Nat}(hi:(P.info? ty).map (·.size)=some n){ops:Array Oper}{rest:List Oper}{o:Oper}{a:Act}{w:World}{Q:Exit→Act→World→Prop}(hgd:o.guard=none)(x y:Operand)(ho:o.op=.store ty x y)
  (g:Nat) (l m:List UInt32) (hx:a.eval x=.pointer (some ⟨g,0,none⟩)) (hy:a.eval y=.agg (aam m)) (h:Arr T w g l) (hl:l.length=n) (hm:m.length=n)
  (hK:wpList P ops Q rest (a.put o.dst undef) (w.setRow g (aam m))):wpList P ops Q (o :: rest) a w:=
 wpList_store_row hgd ty x y ho g (aam m) hx hy T (aam l) h (by rw[hi,acC,hm]) (by rw[acC,acC,hl,hm]) (al1 m) hK
theorem aaS {t e:TypeId}{z:Value}{b:Nat}(ht:P.underlying t=some (.slice e))(hinfo:(P.info? e).map (fun i=>(i.zero,i.size,i.bytes))=some (some z,1,b))(hz:z.cells=#[z])(hb:b≤8)
  {ops:Array Oper} {rest:List Oper} {o:Oper} {a:Act} {w:World} {Q:Exit→Act→World→Prop} (hg:o.guard=none) (l c:Operand) (hop:o.op=Op.makeSlice t l c) (n:Nat) (hl:a.eval l=.int .i64 n) (hc:a.eval c=.int .i64 n) (hn:n≤1000000)
  (hK:∀ W,W=w.alloc (.cells (Array.replicate n z) e)→wpList P ops Q rest (a.put o.dst (.slice (some ⟨w.heap.size,0,none⟩) n n)) W):wpList P ops Q (o :: rest) a w:=by
 obtain ⟨i,hi,hz0,hz1,hz2⟩:=info_parts hinfo;refine wpList_plain hg fun K hK'=>?_
 have hbb:(i.bytes:Int)*(n:Int)≤281474976710656:=by
  rw[hz2];have h:=Nat.mul_le_mul hb hn;have h2:((b*n:Nat):Int)≤((8*1000000:Nat):Int):=by omega
  rw[Int.natCast_mul] at h2;omega
 have hr:=run_make (P:=P) w t e i z ht hi hz0 .i64 .i64 n n (by omega) (Int.le_refl _) hbb (by omega);have hm:madeCells #[z] n=Array.replicate n z:=by
  apply Array.ext';rw[toList_madeCells_one];simp
 rw[hz,hz1,Int.toNat_natCast,Nat.mul_one,hm] at hr;unfold Oper.wp;simp[execOp,hop,hl,hc,hr,Result.andThen];exact hK' _ _ (hK _ rfl)
structure But (g:Nat)(w W:World):Prop where
 below:∀ {B:Nat} {a:World},Below B a w→B≤g→Below B a W
 arr:∀ {T:TypeId} {k:Nat} {l:List UInt32},Arr T w k l→k≠g→Arr T W k l
 size:W.heap.size=w.heap.size
 other:∀ k,k≠g→W.heap[k]?=w.heap[k]?
theorem But.setRow (g:Nat)(w:World)(cs:Array Value):But g w (w.setRow g cs):=⟨fun h hb=>below_setRow h hb cs,fun h hne=>h.setRow_other cs hne,by simp[World.setRow],fun k hk=>Go.Proofs.YthmhklmkgkfcpaaGreatDoor.setRow_other w g k cs hk⟩
theorem aar {T ty:TypeId}{n:Nat}(hi:(P.info? ty).map (·.size)=some n){ops:Array Oper}{rest:List Oper}{o:Oper}{a:Act}{w:World}{Q:Exit→Act→World→Prop}(hgd:o.guard=none)(hd:o.dst=none)(x y:Operand)(ho:o.op=.store ty x y)
  (g:Nat) (l m:List UInt32) (hx:a.eval x=.pointer (some ⟨g,0,none⟩)) (hy:a.eval y=.agg (aam m)) (h:Arr T w g l) (hl:l.length=n) (hm:m.length=n)
  (hK:∀ W,Arr T W g m→But g w W→wpList P ops Q rest a W):wpList P ops Q (o :: rest) a w:=
 adJ hi hgd x y ho g l m hx hy h hl hm (by rw[hd];exact hK _ (h.setRow m) (But.setRow g w _))
theorem abV {T ty e:TypeId}{n:Nat}(hu:P.underlying ty=some (.array n e))(hi:(P.info? ty).map (·.size)=some n){fn:Func}{p:Tmp}(hr:fn.results=#[.cell p ty])(tmps:Array Value)(w:World)(g:Nat)(l:List UInt32)
  (hp:tmps.getD p undef=.pointer (some ⟨g,0,none⟩)) (h:Arr T w g l) (hl:l.length=n):(results fn tmps).run P w=.ok (.agg (aam l)) w:=
 results_cell_row hr tmps w g T (aam l) (0,0) _ hp h hu rfl (by rw[hi,acC,hl])
end
def By (T:TypeId)(w:World)(g:Nat)(l:List UInt8):Prop:=w.heap[g]?=some (.cells (Lib.byteCells l).toArray T (0,0))
theorem By.lt {T:TypeId}{w:World}{g:Nat}{l:List UInt8}(h:By T w g l):g<w.heap.size:=(Array.getElem?_eq_some_iff.1 h).1
theorem By.cell {T:TypeId}{w:World}{g:Nat}{l:List UInt8}(h:By T w g l)(i:Nat)(hi:i<l.length):w.cell? ⟨g,i,none⟩=some (.int .u8 ((l.getD i 0).toNat:Int)):=by
 rw[cell_of_row w g i _ T _ h];simp[Lib.byteCells,hi]
theorem By.frozen {T:TypeId}{w:World}{g:Nat}{l:List UInt8}(h:By T w g l)(i:Nat):w.frozen? ⟨g,i,none⟩=false:=by
 have h':=h;unfold By at h';simp[World.frozen?,h']
theorem By.kp {T:TypeId}{w w':World}{g:Nat}{l:List UInt8}(h:By T w g l)(k:Kp w w'):By T w' g l:=(k.block g h.lt).trans h
theorem By.set {T:TypeId}{w:World}{g:Nat}{l m:List UInt8}(h:By T w g l)(i:Nat)(x:UInt8)(hm:l.set i x=m):By T (w.setCell ⟨g,i,none⟩ (.int .u8 (x.toNat:Int))) g m:=by
 subst hm;have h':=h;unfold By at h' ⊢;obtain ⟨hlt,heq⟩:=Array.getElem?_eq_some_iff.1 h';simp[World.setCell,hlt,Array.getElem_modify,heq,Lib.byteCells,List.map_set]
theorem By.rd {T:TypeId}{w:World}{g n c:Nat}{l:List UInt8}(h:By T w g l)(hn:n≤l.length)(hc:n≤c)(hm:c≤maxLen):Rd w (.slice (some ⟨g,0,none⟩) n c) (l.take n):=by
 have e:(l.take n).length=n:=by simp;omega
 refine ⟨some ⟨g,0,none⟩,c,by rw[e],by rw[e];exact hc,hm,fun h=>(by cases h),fun x hx i hi=>?_⟩;cases hx;rw[e] at hi;have:=h.cell i (by omega);rw[List.getElem_take];rw[List.getD_eq_getElem?_getD,List.getElem?_eq_getElem (by omega)] at this;rw[← Option.getD_some (a:=l[i]) (b:=0),← this];congr 1
 unfold Addr.add;split <;> simp_all
theorem By.rdAll {T:TypeId}{w:World}{g n c:Nat}{l:List UInt8}(h:By T w g l)(hn:n=l.length)(hc:n≤c)(hm:c≤maxLen):Rd w (.slice (some ⟨g,0,none⟩) n c) l:=by
 have:=h.rd (n:=n) (by omega) hc hm;rwa [List.take_of_length_le (by omega)] at this
theorem By.fresh (T:TypeId)(w:World)(n:Nat):By T (w.alloc (.cells (Array.replicate n (.int .u8 0)) T)) w.heap.size (List.replicate n 0):=by
 have:=heap_alloc_new w (.cells (Array.replicate n (.int .u8 0)) T);unfold By;rw[this];simp[Lib.byteCells]
def mixB (A B:List UInt8)(i:Nat):List UInt8:=B.take i++A.drop i
theorem aaV (A B:List UInt8)(i:Nat)(h:A.length=B.length)(hi:i≤A.length):(mixB A B i).length=A.length:=by simp[mixB];omega
theorem acm (A B:List UInt8)(i:Nat)(h:A.length=B.length)(hi:i<A.length)(x:UInt8)(hx:B[i]?=some x):(mixB A B i).set i x=mixB A B (i+1):=by
 unfold mixB;have hb:i<B.length:=by omega
 have hl:(B.take i).length=i:=by simp;omega
 rw[List.getElem?_eq_getElem hb] at hx;rw[List.set_append_right _ _ (by omega),hl,Nat.sub_self,List.drop_eq_getElem_cons hi,List.set_cons_zero,List.take_succ_eq_append_getElem hb,List.append_assoc];cases hx;rfl
theorem adi (A B:List UInt8)(h:A.length=B.length):mixB A B B.length=B:=by
 unfold mixB;rw[List.take_of_length_le (Nat.le_refl _),List.drop_eq_nil_of_le (by omega),List.append_nil]
theorem anw:∀ (w N k:Nat),k<w→(be w N)[k]?=some (UInt8.ofNat (N / 256 ^ (w - 1 - k)))
 | 0,_,k,h=>by omega
 | w+1,N,0,_=>by rw[aew];simp
 | w+1,N,k+1,h=>by
  rw[aew,List.getElem?_cons_succ,anw w N k (by omega)]
  congr 4
  omega
theorem afl (n:Nat):fill n<64:=by unfold fill;omega
theorem acs (n:Nat):(pad n).length=9+fill n:=by simp[pad,aak];omega
theorem ajq (n:Nat):(n+(pad n).length) % 64=0:=by rw[acs];unfold fill;omega
theorem aqu (n k:Nat)(h:k<8):(pad n)[1+fill n+k]?=some (UInt8.ofNat (8*n / 256 ^ (7 - k))):=by
 have e:(128 :: List.replicate (fill n) 0:List UInt8).length=1+fill n:=by simp;omega
 have hp:pad n=(128 :: List.replicate (fill n) 0)++be 8 (8*n):=rfl;rw[hp,List.getElem?_append_right (by omega),e,show 1+fill n+k - (1+fill n)=k by omega,anw 8 _ k h]
theorem anx (n:Nat):(List.replicate (9+fill n) (0:UInt8)).set 0 128=mixB (List.replicate (9+fill n) 0) (pad n) (1+fill n):=by
 have e:(128 :: List.replicate (fill n) 0:List UInt8).length=1+fill n:=by simp;omega
 have hp:pad n=(128 :: List.replicate (fill n) 0)++be 8 (8*n):=rfl;unfold mixB;rw[hp,List.take_append_of_le_length (by omega),List.take_of_length_le (by omega),List.drop_replicate,show 9+fill n=(fill n+8)+1 by omega,List.replicate_succ,List.set_cons_zero,show fill n+8+1 - (1+fill n)=8 by omega,List.cons_append,List.replicate_append_replicate]
def ajr (n:Int):List UInt8:=if 0≤n∧n≤1125899906842624 then pad n.toNat else []
theorem adj {P:Program}(w:World)(t e:TypeId)(n:Nat)(ie:TypeInfo)(d:TypeDesc)(h:P.underlying t=some (.array n e))(hi:P.info? e=some ie)(hs:ie.size=1)(hd:P.underlying e=some d)
  (hp:(match d with | .struct _ | .array _ _=>true | _=>false)=false) (cs:Array Value) (hn:cs.size=n) (i:Nat) (hlt:i<n) (v:Value) (hv:cs[i]?=some v):
  (Instr.index t (.agg cs) (.int .i64 i)).run P w=.ok v w:=by
 have hr:(0≤(i:Int)∧(i:Int)<(n:Int)):=by omega
 have hagg:(isAgg e).run P w=.ok false w:=by
  unfold isAgg;rw[Sem.run_bind,run_underlying hd w];cases d <;> simp_all
 simp[Instr.index,run_underlying h,asIntOf,hr,go_sem,part,sizeOf,typeInfo,hi,hs,hagg,hv,Sem.run_bind];intro hge;omega
def xorB (l:List UInt8)(x:UInt8):List UInt8:=l.map fun b=>b ^^^ x
def blkB (l:List UInt8):List UInt8:=l++List.replicate (64 - l.length) 0
def keyB (k:List UInt8):List UInt8:=blkB (if 64<k.length then aaH k else k)
def macB (k b:List UInt8):List UInt8:=aaH (xorB (keyB k) 92++aaH (xorB (keyB k) 54++b))
theorem abD (l:List UInt8)(x:UInt8):(xorB l x).length=l.length:=by simp[xorB]
theorem apa (l:List UInt8)(x:UInt8)(i:Nat)(h:i<l.length):(xorB l x)[i]?=some (l.getD i 0 ^^^ x):=by
 simp[xorB,List.getD_eq_getElem?_getD,List.getElem?_eq_getElem h]
theorem akx (l m:List UInt8)(x:UInt8):xorB (l++m) x=xorB l x++xorB m x:=by simp[xorB]
theorem agz (l:List UInt8)(h:l.length≤64):(blkB l).length=64:=by simp[blkB];omega
theorem aky (x y:UInt8):bits .xor .u8 (x.toNat:Int) (y.toNat:Int)=((x ^^^ y).toNat:Int):=by
 have e:∀ z:UInt8,BitVec.ofInt IntKind.u8.bits (z.toNat:Int)=z.toBitVec:=fun z=>by
  rw[BitVec.ofInt_natCast];apply BitVec.eq_of_toNat_eq;simp[IntKind.bits]
 simp only[bits,e];change IntKind.u8.wrap (((x ^^^ y).toNat:Nat):Int)=_;rw[IntKind.wrap_u8];have:=(x ^^^ y).toNat_lt;omega
theorem ary (x y:UInt8):bits .or .u8 (x.toNat:Int) (y.toNat:Int)=((x ||| y).toNat:Int):=by
 have e:∀ z:UInt8,BitVec.ofInt IntKind.u8.bits (z.toNat:Int)=z.toBitVec:=fun z=>by
  rw[BitVec.ofInt_natCast];apply BitVec.eq_of_toNat_eq;simp[IntKind.bits]
 simp only[bits,e];change IntKind.u8.wrap (((x ||| y).toNat:Nat):Int)=_;rw[IntKind.wrap_u8];have:=(x ||| y).toNat_lt;omega
theorem apb (a b:UInt8):a ||| b=0↔a=0∧b=0:=by
 constructor
 ·intro h
  have h':a.toBitVec ||| b.toBitVec=0#8:=by rw[← UInt8.toBitVec_or,h];rfl
  constructor
  ·apply UInt8.toBitVec_inj.1
   exact (BitVec.or_eq_zero_iff.1 h').1
  ·apply UInt8.toBitVec_inj.1
   exact (BitVec.or_eq_zero_iff.1 h').2
 ·rintro ⟨rfl,rfl⟩;rfl
theorem anI (a b:UInt8):a ^^^ b=0↔a=b:=by
 constructor
 ·intro h
  have:a ^^^ b ^^^ b=0 ^^^ b:=by rw[h]
  rw[UInt8.xor_assoc,UInt8.xor_self,UInt8.xor_zero,UInt8.zero_xor] at this;exact this
 ·rintro rfl;exact UInt8.xor_self
def orT (l m:List UInt8):Nat→UInt8
 | 0=>0
 | k+1=>orT l m k ||| (l.getD k 0 ^^^ m.getD k 0)
theorem alx (l m:List UInt8):∀ k,k≤l.length→k≤m.length→(orT l m k=0↔l.take k=m.take k)
 | 0,_,_=>by simp[orT]
 | k+1,h,h'=>by
  rw[orT,apb,anI,alx l m k (by omega) (by omega),aeL l k (by omega),aeL m k (by omega)]
  constructor
  ·rintro ⟨a,b⟩;rw[a,b]
  ·intro e
   have:=List.append_inj e (by simp;omega)
   exact ⟨this.1,by simpa using this.2⟩
theorem aqC (l m:List UInt8)(h:l.length=m.length):decide (orT l m l.length=0)=decide (l=m):=by
 have:=alx l m l.length (Nat.le_refl _) (by omega);rw[List.take_length,h,List.take_length,← h] at this;exact decide_eq_decide.2 this
theorem apK (i:Nat):p3B i ^^^ mulB (p3B i) 2=p3B (i+1):=by
 rw[apH,show (3:UInt8)=1 ^^^ 2 by decide,aiB,alC]
def abP:List UInt8:=tab 255 p3B
theorem abc:abP.length=255:=aa6 _ _
theorem amF (i:Nat)(h:i<255):abP[i]?=some (p3B i):=by simp[abP,tab,h]
def aax (l:List UInt8):Array Value:=(Lib.byteCells l).toArray
theorem abd (l:List UInt8):(aax l).size=l.length:=by simp[aax,aaf]
theorem amG (l:List UInt8)(i:Nat)(h:i<l.length):(aax l)[i]?=some (.int .u8 ((l.getD i 0).toNat:Int)):=by
 simp[aax,Lib.byteCells,h]
theorem By.new (T:TypeId)(w:World)(l:List UInt8):By T (w.alloc (.cells (aax l) T)) w.heap.size l:=heap_alloc_new w _
theorem aq3:∀ w,(zeroValue 282).run Tryz.prog w=.ok (.agg (aax (List.replicate 255 0))) w:=(zero_of_info (n:=255) (by kernel_rfl)).1
theorem aq4:∀ w,(zeroValue 283).run Tryz.prog w=.ok (.agg (aax (List.replicate 256 0))) w:=(zero_of_info (n:=256) (by kernel_rfl)).1
theorem aq5:∃ ie,Tryz.prog.info? 5=some ie∧ie.size=1:=by
 have h:(Tryz.prog.info? 5).map (·.size)=some 1:=by kernel_rfl
 cases hq:Tryz.prog.info? 5 with
 | none=>rw[hq] at h;cases h
 | some ie=>rw[hq] at h;exact ⟨ie,rfl,by simpa using h⟩
section
variable {P : Program}
theorem ab8 {T ty e:TypeId}{n:Nat}(hu:P.underlying ty=some (.array n e))(hi:(P.info? ty).map (·.size)=some n){ops:Array Oper}{rest:List Oper}{o:Oper}{a:Act}{w:World}{Q:Exit→Act→World→Prop}(hgd:o.guard=none)(x:Operand)(ho:o.op=.load ty x)
  (g:Nat) (l:List UInt8) (hx:a.eval x=.pointer (some ⟨g,0,none⟩)) (h:By T w g l) (hl:l.length=n)
  (hK:wpList P ops Q rest (a.put o.dst (.agg (aax l))) w):wpList P ops Q (o :: rest) a w:=
 wpList_load_row hgd ty x ho g hx T (aax l) (0,0) _ h hu rfl (by rw[hi,abd,hl]) hK
theorem amH (l:List UInt8):(aax l).all (·.oneCell')=true:=by
 rw[Array.all_eq_true_iff_forall_mem];intro v hv;simp only[aax,Lib.byteCells,List.mem_toArray,List.mem_map] at hv;obtain ⟨x,_,rfl⟩:=hv;rfl
theorem By.setRow {T:TypeId}{w:World}{g:Nat}{l:List UInt8}(h:By T w g l)(m:List UInt8):By T (w.setRow g (aax m)) g m:=by
 unfold By at h ⊢;obtain ⟨hlt,heq⟩:=Array.getElem?_eq_some_iff.1 h;simp[World.setRow,hlt,Array.getElem_modify,heq,aax]
theorem acK {T ty:TypeId}{n:Nat}(hi:(P.info? ty).map (·.size)=some n){ops:Array Oper}{rest:List Oper}{o:Oper}{a:Act}{w:World}{Q:Exit→Act→World→Prop}(hgd:o.guard=none)(hd:o.dst=none)(x y:Operand)(ho:o.op=.store ty x y)
  (g:Nat) (l m:List UInt8) (hx:a.eval x=.pointer (some ⟨g,0,none⟩)) (hy:a.eval y=.agg (aax m)) (h:By T w g l) (hl:l.length=n) (hm:m.length=n)
  (hK:∀ W,By T W g m→But g w W→wpList P ops Q rest a W):wpList P ops Q (o :: rest) a w:=
 wpList_store_row hgd ty x y ho g (aax m) hx hy T (aax l) h (by rw[hi,abd,hm]) (by rw[abd,abd,hl,hm]) (amH m) (by rw[hd];exact hK _ (h.setRow m) (But.setRow g w _))
end
theorem aj2 (w:World):Calls Tryz.prog 238 #[] w fun e w'=>(∃ g,e=.returned (.pointer (some ⟨g,0,none⟩))∧By 283 w' g aeq∧w.heap.size≤g)∧Kp w w':=by
 have z1:=aq3;have z2:=aq4;have P0:By 282 (w.alloc (.cells (aax (List.replicate 255 0)) 282)) w.heap.size (mixB (List.replicate 255 0) abP 0):=by
  rw[show mixB (List.replicate 255 (0:UInt8)) abP 0=List.replicate 255 0 by simp[mixB]];exact By.new _ w _
 have HN:Hid (∀ i,i<255→(mixB (List.replicate 255 0) abP i).set i (p3B i)=mixB (List.replicate 255 0) abP (i+1)):=fun i hi=>
  acm _ _ i (by rw[abc,List.length_replicate]) (by rw[List.length_replicate];exact hi) _ (amF i hi)
 have HL:Hid (∀ i,i≤255→(mixB (List.replicate 255 0) abP i).length=255):=fun i hi=>by
  rw[aaV _ _ i (by rw[abc,List.length_replicate]) (by rw[List.length_replicate];exact hi),List.length_replicate]
 have HA:Hid (mixB (List.replicate 255 0) abP 255=abP):=adi _ _ (by rw[abc,List.length_replicate]);obtain ⟨Z,hZ⟩:∃ Z,aax (List.replicate 255 (0:UInt8))=Z:=⟨_,rfl⟩;obtain ⟨Y,hY⟩:∃ Y,aax (List.replicate 256 (0:UInt8))=Y:=⟨_,rfl⟩;have hZs:Z.size=255:=by rw[← hZ,abd];rfl
 have hYs:Y.size=256:=by rw[← hY,abd];rfl
 rw[hZ] at z1 P0;rw[hY] at z2;generalize hM:mixB (List.replicate 255 0) abP=M at *;have HY:=Lib.hid hY;clear hZ hM hY;go_enter Tryz.func238,Tryz.ntmps238;go_wp2_with fail;go_loopw[2,7] (fun x p wr=>∃ i:Nat,i≤255∧p=.int .i64 i∧x=.int .u8 ((p3B i).toNat:Int)∧By 282 wr w.heap.size (M i)∧Kp w wr∧w.heap.size<wr.heap.size) (fun _ p _=>255 - (intOf p).toNat)
 case atStart=>exact ⟨0,by omega,rfl,rfl,P0,(Kp.refl _).alloc _,by simp⟩
 case round=>
  clear P0;obtain ⟨i,hi,rfl,rfl,hP,hk,hs⟩:=hrel;by_cases hlt:i<255
  ·have hq:(i:Int)<255:=by omega
   have hn:=HN.out i hlt;have hc:=hP.cell i (by rw[HL.out i hi];exact hlt);have hf:=hP.frozen i;have hd:=acu (p3B i) (wr.setCell ⟨w.heap.size,i,none⟩ (.int .u8 ((p3B i).toNat:Int)));have hx:=abs (p3B i) (mulB (p3B i) 2);rw[apK] at hx;have hP2:=hP.set i (p3B i) hn;have hk2:=Below.setCell hk (p:=⟨w.heap.size,i,none⟩) (by simp) (.int .u8 ((p3B i).toNat:Int));have hs2:w.heap.size<(wr.setCell ⟨w.heap.size,i,none⟩ (.int .u8 ((p3B i).toNat:Int))).heap.size:=by simpa using hs
   obtain ⟨V,hV⟩:∃ V,p3B (i+1)=V:=⟨_,rfl⟩;rw[hV] at hx;have HV:=Lib.hid hV;clear hV;generalize mulB (p3B i) 2=D at *;generalize p3B i=U at *;generalize hW:wr.setCell ⟨w.heap.size,i,none⟩ (.int .u8 (U.toNat:Int))=W at *;have HW:=Lib.hid hW;clear hn hW;go_wp2_with (go_at_call 240;rw[HW.out];refine hd.mono ?_;rintro _ _ ⟨rfl,rfl⟩)
   go_roundw
   case rel=>exact ⟨i+1,by omega,by go_num,by rw[HV.out],hP2,hk2,hs2⟩
   case measure=>simp[intOf];omega
  ·obtain rfl:i=255:=by omega
   rw[HA.out] at hP;obtain ⟨gb,hgb⟩:∃ gb,wr.heap.size=gb:=⟨_,rfl⟩;have B0:By 283 (wr.alloc (.cells Y 283)) gb (List.replicate 256 0):=by
    rw[← HY.out,← hgb];exact By.new _ wr _
   have P1:=hP.kp ((Kp.refl wr).alloc (.cells Y 283));have k1:Kp w (wr.alloc (.cells Y 283)):=hk.alloc _;have hs1:gb<(wr.alloc (.cells Y 283)).heap.size:=B0.lt;have c0:=B0.cell 0 (by decide);have f0:=B0.frozen 0;have B1:=B0.set 0 (adQ 0) rfl;have hsp:=aii 0 (wr.alloc (.cells Y 283));have k2:=Below.setCell k1 (p:=⟨gb,0,none⟩) (by show w.heap.size≤gb;omega) (.int .u8 ((adQ 0).toNat:Int));have P2:By 282 ((wr.alloc (.cells Y 283)).setCell ⟨gb,0,none⟩ (.int .u8 ((adQ 0).toNat:Int))) w.heap.size abP:=
    (Below.heap_setCell _ ⟨gb,0,none⟩ _ w.heap.size (by show w.heap.size≠gb;omega)).trans P1
   have HF:=Lib.hid (fun k l h=>ag0.next (k:=k) (l:=l) h);have H0:Hid (ag0 0 ((List.replicate 256 (0:UInt8)).set 0 (adQ 0))):=ag0.begin;generalize (List.replicate 256 (0:UInt8)).set 0 (adQ 0)=L0 at *;generalize hW:wr.alloc (.cells Y 283)=W1 at *;have HW:=Lib.hid hW;have hne:w.heap.size≠gb:=by omega
   have hle:w.heap.size≤gb:=by omega
   obtain ⟨W2,hW2⟩:∃ W2,W1.setCell ⟨gb,0,none⟩ (.int .u8 ((adQ 0).toNat:Int))=W2:=⟨_,rfl⟩;rw[hW2] at B1 k2 P2;go_wp2_with fail;refine hsp.mono ?_;rintro _ _ ⟨rfl,rfl⟩;clear z1 z2;go_wp2_with (refine ab8 Tryz.underlying282 (by kernel_rfl) rfl (.tmp 1) rfl w.heap.size abP rfl P2 abc ?_)
   clear hW HW P1 k1 hs1 c0 f0 hgb B0 hsp hW2 HN HL HA HY hP hk hs;go_loopw[21] (fun p wt=>∃ (k:Nat) (l:List UInt8),k≤255∧p=.int .i64 k∧Hid (ag0 k l)∧By 283 wt gb l∧By 282 wt w.heap.size abP∧Kp w wt) (fun p _=>255 - (intOf p).toNat)
   case atStart=>exact ⟨0,L0,by omega,rfl,H0,B1,P2,k2⟩
   case round=>
    clear B1 P2 k2;obtain ⟨wt,rfl⟩:∃ wt,wt=wr:=⟨_,rfl⟩;obtain ⟨k,l,hk,rfl,HBX,hB,hP,hkp⟩:=hrel;by_cases hlt:k<255
    ·have hnx:=Lib.hid (HF.out k l HBX.out hlt)
     have hll:l.length=256:=HBX.out.1;obtain ⟨m,hm⟩:∃ m,(255 - k) % 255=m:=⟨_,rfl⟩;have hm255:m<255:=by omega
     have c2:=hP.cell m (by rw[abc];exact hm255);rw[show abP.getD m 0=p3B m from adp 255 p3B m hm255] at c2;have hX:=agY k;have hXl:=ahB k;have ht:=aii (p3B m) wt;rw[hm,← hX] at hnx;rw[← hX] at hXl;have c3:=hB.cell (p3B k).toNat (by rw[hll];exact hXl);have f3:=hB.frozen (p3B k).toNat;have i1:IntKind.i64.wrap (255 - (k:Int))=255 - (k:Int):=IntWalk.i64_in _ (by omega);have i2:(255 - (k:Int)).tmod 255=(m:Int):=by rw[Int.tmod_eq_emod_of_nonneg (by omega)];omega
     have i3:(255 - (k:Int)) % 255=(m:Int):=by omega
     have i4:(m:Int)<255:=by omega
     have i5:(k:Int)<255:=by omega
     have i6:((p3B k).toNat:Int)<256:=by omega
     have i8:0≤(m:Int):=by omega
     have hidx:∀ W,(Instr.index 282 (.agg (aax abP)) (.int .i64 k)).run Tryz.prog W=.ok (.int .u8 ((p3B k).toNat:Int)) W:=fun W=>by
      obtain ⟨ie,hie,hsz⟩:=aq5;have hg:=amG abP k (by rw[abc];exact hlt);rw[show abP.getD k 0=p3B k from adp 255 p3B k hlt] at hg;exact adj W 282 5 255 ie _ Tryz.underlying282 hie hsz Tryz.underlying5 rfl _ (by rw[abd,abc]) k hlt _ hg
     have hB2:=hB.set (p3B k).toNat (adQ (p3B m)) rfl;have hP2:By 282 (wt.setCell ⟨gb,(p3B k).toNat,none⟩ (.int .u8 ((adQ (p3B m)).toNat:Int))) w.heap.size abP:=(Below.heap_setCell wt ⟨gb,_,none⟩ _ w.heap.size hne).trans hP;have hkp2:=Below.setCell hkp (p:=⟨gb,(p3B k).toNat,none⟩) hle (.int .u8 ((adQ (p3B m)).toNat:Int));clear hm hX hXl;generalize hZ:adQ (p3B m)=Z at *;generalize hY:p3B m=Y at *;generalize hXX:p3B k=X at *;generalize hL2:l.set X.toNat Z=l2 at *;clear hZ hY hXX hL2 hP hB hkp;go_wp2_with (go_at_call 263;refine ht.mono ?_;rintro _ _ ⟨rfl,rfl⟩)
     go_roundw
     case rel=>exact ⟨k+1,l2,by omega,by go_num,hnx,hB2,hP2,hkp2⟩
     case measure=>simp[intOf];omega
    ·obtain rfl:k=255:=by omega
     have hl:=HBX.out.all;rw[hl] at hB;go_wp2_with fail;go_ret;exact ⟨⟨_,rfl,hB,hle⟩,hkp⟩
end Go.Proofs.YthmhklmkgkfcpaaGreatDoor

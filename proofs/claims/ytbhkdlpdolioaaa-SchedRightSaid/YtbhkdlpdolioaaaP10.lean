import Derived.Test.YtbhkdlpdolioaaaP8
import Derived.Laws.PanicsMore
set_option linter.unusedVariables false
set_option linter.unusedSimpArgs false
set_option maxHeartbeats 8000000
set_option maxRecDepth 100000
namespace Go.Proofs.Ytbhkdlpdolioaaa
open Go.RowKit
def By (T:TypeId)(w:World)(g:Nat)(l:List UInt8):Prop:=w.heap[g]?=some (.cells (Lib.byteCells l).toArray T (0,0))
theorem By.lt {T:TypeId}{w:World}{g:Nat}{l:List UInt8}(h:By T w g l):g<w.heap.size:=(Array.getElem?_eq_some_iff.1 h).1
theorem By.cell {T:TypeId}{w:World}{g:Nat}{l:List UInt8}(h:By T w g l)(i:Nat)(hi:i<l.length):w.cell? ⟨g,i,none⟩=some (.int .u8 ((l.getD i 0).toNat:Int)):=by
 rw[cell_of_row w g i _ T _ h];simp[Lib.byteCells,hi]
theorem By.frozen {T:TypeId}{w:World}{g:Nat}{l:List UInt8}(h:By T w g l)(i:Nat):w.frozen? ⟨g,i,none⟩=false:=by
 have h':=h;unfold By at h';simp[World.frozen?,h']
theorem By.kp {T:TypeId}{w w':World}{g:Nat}{l:List UInt8}(h:By T w g l)(k:Kp w w'):By T w' g l:=(k.block g h.lt).trans h
theorem By.set {T:TypeId}{w:World}{g:Nat}{l m:List UInt8}(h:By T w g l)(i:Nat)(x:UInt8)(hm:l.set i x=m):By T (w.setCell ⟨g,i,none⟩ (.int .u8 (x.toNat:Int))) g m:=by
 subst hm;have h':=h;unfold By at h' ⊢;obtain ⟨hlt,heq⟩:=Array.getElem?_eq_some_iff.1 h';simp[World.setCell,hlt,Array.getElem_modify,heq,Lib.byteCells,List.map_set]
theorem By.rd {T:TypeId}{w:World}{g n c:Nat}{l:List UInt8}(h:By T w g l)(hn:n≤l.length)(hc:n≤c)(hm:c≤maxLen):Rd w (.slice (some ⟨g,0,none⟩) n c) (l.take n):=by
 have e:(l.take n).length=n:=by simp;omega
 refine ⟨some ⟨g,0,none⟩,c,by rw[e],by rw[e];exact hc,hm,fun h=>(by cases h),fun x hx i hi=>?_⟩;cases hx;rw[e] at hi;have:=h.cell i (by omega);rw[List.getElem_take];rw[List.getD_eq_getElem?_getD,List.getElem?_eq_getElem (by omega)] at this;rw[← Option.getD_some (a:=l[i]) (b:=0),← this];congr 1
 unfold Addr.add;split <;> simp_all
theorem By.rdAll {T:TypeId}{w:World}{g n c:Nat}{l:List UInt8}(h:By T w g l)(hn:n=l.length)(hc:n≤c)(hm:c≤maxLen):Rd w (.slice (some ⟨g,0,none⟩) n c) l:=by
 have:=h.rd (n:=n) (by omega) hc hm;rwa [List.take_of_length_le (by omega)] at this
theorem By.fresh (T:TypeId)(w:World)(n:Nat):By T (w.alloc (.cells (Array.replicate n (.int .u8 0)) T)) w.heap.size (List.replicate n 0):=by
 have:=heap_alloc_new w (.cells (Array.replicate n (.int .u8 0)) T);unfold By;rw[this];simp[Lib.byteCells]
def mixB (A B:List UInt8)(i:Nat):List UInt8:=B.take i++A.drop i
theorem acc (A B:List UInt8)(i:Nat)(h:A.length=B.length)(hi:i≤A.length):(mixB A B i).length=A.length:=by simp[mixB];omega
theorem adP (A B:List UInt8)(i:Nat)(h:A.length=B.length)(hi:i<A.length)(x:UInt8)(hx:B[i]?=some x):(mixB A B i).set i x=mixB A B (i+1):=by
 unfold mixB;have hb:i<B.length:=by omega
 have hl:(B.take i).length=i:=by simp;omega
 rw[List.getElem?_eq_getElem hb] at hx;rw[List.set_append_right _ _ (by omega),hl,Nat.sub_self,List.drop_eq_getElem_cons hi,List.set_cons_zero,List.take_succ_eq_append_getElem hb,List.append_assoc];cases hx;rfl
theorem adQ (A B:List UInt8)(h:A.length=B.length):mixB A B B.length=B:=by
 unfold mixB;rw[List.take_of_length_le (Nat.le_refl _),List.drop_eq_nil_of_le (by omega),List.append_nil]
theorem aes:∀ (w N k:Nat),k<w→(be w N)[k]?=some (UInt8.ofNat (N / 256 ^ (w - 1 - k)))
 | 0,_,k,h=>by omega
 | w+1,N,0,_=>by rw[abx];simp
 | w+1,N,k+1,h=>by
  rw[abx,List.getElem?_cons_succ,aes w N k (by omega)]
  congr 4
  omega
theorem abR (n:Nat):fill n<64:=by unfold fill;omega
theorem aaU (n:Nat):(pad n).length=9+fill n:=by simp[pad,aae];omega
theorem ac4 (n:Nat):(n+(pad n).length) % 64=0:=by rw[aaU];unfold fill;omega
theorem afA (n k:Nat)(h:k<8):(pad n)[1+fill n+k]?=some (UInt8.ofNat (8*n / 256 ^ (7 - k))):=by
 have e:(128 :: List.replicate (fill n) 0:List UInt8).length=1+fill n:=by simp;omega
 have hp:pad n=(128 :: List.replicate (fill n) 0)++be 8 (8*n):=rfl;rw[hp,List.getElem?_append_right (by omega),e,show 1+fill n+k - (1+fill n)=k by omega,aes 8 _ k h]
theorem aet (n:Nat):(List.replicate (9+fill n) (0:UInt8)).set 0 128=mixB (List.replicate (9+fill n) 0) (pad n) (1+fill n):=by
 have e:(128 :: List.replicate (fill n) 0:List UInt8).length=1+fill n:=by simp;omega
 have hp:pad n=(128 :: List.replicate (fill n) 0)++be 8 (8*n):=rfl;unfold mixB;rw[hp,List.take_append_of_le_length (by omega),List.take_of_length_le (by omega),List.drop_replicate,show 9+fill n=(fill n+8)+1 by omega,List.replicate_succ,List.set_cons_zero,show fill n+8+1 - (1+fill n)=8 by omega,List.cons_append,List.replicate_append_replicate]
def ac5 (n:Int):List UInt8:=if 0≤n∧n≤1125899906842624 then pad n.toNat else []
theorem abD {P:Program}(w:World)(t e:TypeId)(n:Nat)(ie:TypeInfo)(d:TypeDesc)(h:P.underlying t=some (.array n e))(hi:P.info? e=some ie)(hs:ie.size=1)(hd:P.underlying e=some d)
  (hp:(match d with | .struct _ | .array _ _=>true | _=>false)=false) (cs:Array Value) (hn:cs.size=n) (i:Nat) (hlt:i<n) (v:Value) (hv:cs[i]?=some v):
  (Instr.index t (.agg cs) (.int .i64 i)).run P w=.ok v w:=by
 have hr:(0≤(i:Int)∧(i:Int)<(n:Int)):=by omega
 have hagg:(isAgg e).run P w=.ok false w:=by
  unfold isAgg;rw[Sem.run_bind,run_underlying hd w];cases d <;> simp_all
 simp[Instr.index,run_underlying h,asIntOf,hr,go_sem,part,sizeOf,typeInfo,hi,hs,hagg,hv,Sem.run_bind];intro hge;omega
end Go.Proofs.Ytbhkdlpdolioaaa

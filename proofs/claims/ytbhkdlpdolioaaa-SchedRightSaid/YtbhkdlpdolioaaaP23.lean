import Derived.Test.YtbhkdlpdolioaaaP10
import Derived.Laws.CopyOwn
set_option linter.unusedVariables false
set_option linter.unusedSimpArgs false
set_option maxHeartbeats 8000000
set_option maxRecDepth 100000
namespace Go.Proofs.Ytbhkdlpdolioaaa
open Go.RowKit
def xorB (l:List UInt8)(x:UInt8):List UInt8:=l.map fun b=>b ^^^ x
def blkB (l:List UInt8):List UInt8:=l++List.replicate (64 - l.length) 0
def keyB (k:List UInt8):List UInt8:=blkB (if 64<k.length then aam k else k)
def macB (k b:List UInt8):List UInt8:=aam (xorB (keyB k) 92++aam (xorB (keyB k) 54++b))
theorem aaA (l:List UInt8)(x:UInt8):(xorB l x).length=l.length:=by simp[xorB]
theorem ae0 (l:List UInt8)(x:UInt8)(i:Nat)(h:i<l.length):(xorB l x)[i]?=some (l.getD i 0 ^^^ x):=by
 simp[xorB,List.getD_eq_getElem?_getD,List.getElem?_eq_getElem h]
theorem adu (l m:List UInt8)(x:UInt8):xorB (l++m) x=xorB l x++xorB m x:=by simp[xorB]
theorem acd (l:List UInt8)(h:l.length≤64):(blkB l).length=64:=by simp[blkB];omega
theorem adv (x y:UInt8):bits .xor .u8 (x.toNat:Int) (y.toNat:Int)=((x ^^^ y).toNat:Int):=by
 have e:∀ z:UInt8,BitVec.ofInt IntKind.u8.bits (z.toNat:Int)=z.toBitVec:=fun z=>by
  rw[BitVec.ofInt_natCast];apply BitVec.eq_of_toNat_eq;simp[IntKind.bits]
 simp only[bits,e];change IntKind.u8.wrap (((x ^^^ y).toNat:Nat):Int)=_;rw[IntKind.wrap_u8];have:=(x ^^^ y).toNat_lt;omega
theorem afW (x y:UInt8):bits .or .u8 (x.toNat:Int) (y.toNat:Int)=((x ||| y).toNat:Int):=by
 have e:∀ z:UInt8,BitVec.ofInt IntKind.u8.bits (z.toNat:Int)=z.toBitVec:=fun z=>by
  rw[BitVec.ofInt_natCast];apply BitVec.eq_of_toNat_eq;simp[IntKind.bits]
 simp only[bits,e];change IntKind.u8.wrap (((x ||| y).toNat:Nat):Int)=_;rw[IntKind.wrap_u8];have:=(x ||| y).toNat_lt;omega
theorem ae1 (a b:UInt8):a ||| b=0↔a=0∧b=0:=by
 constructor
 ·intro h
  have h':a.toBitVec ||| b.toBitVec=0#8:=by rw[← UInt8.toBitVec_or,h];rfl
  constructor
  ·apply UInt8.toBitVec_inj.1
   exact (BitVec.or_eq_zero_iff.1 h').1
  ·apply UInt8.toBitVec_inj.1
   exact (BitVec.or_eq_zero_iff.1 h').2
 ·rintro ⟨rfl,rfl⟩;rfl
theorem aeu (a b:UInt8):a ^^^ b=0↔a=b:=by
 constructor
 ·intro h
  have:a ^^^ b ^^^ b=0 ^^^ b:=by rw[h]
  rw[UInt8.xor_assoc,UInt8.xor_self,UInt8.xor_zero,UInt8.zero_xor] at this;exact this
 ·rintro rfl;exact UInt8.xor_self
def orT (l m:List UInt8):Nat→UInt8
 | 0=>0
 | k+1=>orT l m k ||| (l.getD k 0 ^^^ m.getD k 0)
theorem adR (l m:List UInt8):∀ k,k≤l.length→k≤m.length→(orT l m k=0↔l.take k=m.take k)
 | 0,_,_=>by simp[orT]
 | k+1,h,h'=>by
  rw[orT,ae1,aeu,adR l m k (by omega) (by omega),abA l k (by omega),abA m k (by omega)]
  constructor
  ·rintro ⟨a,b⟩;rw[a,b]
  ·intro e
   have:=List.append_inj e (by simp;omega)
   exact ⟨this.1,by simpa using this.2⟩
theorem afB (l m:List UInt8)(h:l.length=m.length):decide (orT l m l.length=0)=decide (l=m):=by
 have:=adR l m l.length (Nat.le_refl _) (by omega);rw[List.take_length,h,List.take_length,← h] at this;exact decide_eq_decide.2 this
theorem abp {P:Program}{w:World}{t e:TypeId}(U:U8 P t e){ops:Array Oper}{rest:List Oper}{o:Oper}{a:Act}{Q:Exit→Act→World→Prop}(hgd:o.guard=none)(d s:Operand)
  (ho:o.op=.call { callee:=.builtin .copy,args:=#[d,s],argTypes:=#[t,t] })
  (T:TypeId) (g:Nat) (v:Value) (l m:List UInt8) (c n:Nat) (hd:a.eval d=.slice (some ⟨g,0,none⟩) n c) (hs:a.eval s=v) (hg:By T w g m) (hn:m.length=n) (hr:Rd w v l) (hl:l.length≤n)
  (h:∀ w',By T w' g (l++m.drop l.length)→But g w w'→wpList P ops Q rest (a.put o.dst (.int .i64 (l.length:Int))) w'):wpList P ops Q (o :: rest) a w:=by
 obtain ⟨i,hi,hz,hsize,hby⟩:=U.hi;have hsz:(P.info? e).map (·.size)=some 1:=by rw[hi];simp[hsize]
 obtain ⟨x,cc,rfl,h1,h2,h3,h4⟩:=hr;subst hn;by_cases h0:l=[]
 ·subst h0
  refine wpList_copy_nothing hgd d s t t ho e U.ht hsz _ _ _ _ _ _ hd hs (by simp) ?_;exact h w (by simpa using hg) ⟨fun h _=>h,fun h _=>h,rfl,fun _ _=>rfl⟩
 ·cases x with
  | none=>
   have:=h3 rfl;have:l.length=0:=by omega
   exact absurd (List.eq_nil_of_length_eq_zero this) h0
  | some x=>
   refine wpList_copy_own hgd d s t t ho e U.ht hsz g 0 _ _ x _ _ hd hs _ _ hg (Lib.byteCells l) (by rw[aaj];exact (Nat.min_eq_left hl).symm) (fun j af9 hj=>?_) (by simp[Lib.byteCells];omega) (fun af9 hu=>?_) ?_
   ·have hjl:j<l.length:=by
     have:=(List.getElem?_eq_some_iff.1 hj).1;rwa [aaj] at this
    rw[aaS l j hjl] at hj;cases hj;exact h4 x rfl j hjl
   ·obtain ⟨b,_,rfl⟩:=List.mem_map.1 hu
    rfl
   ·have e1:(goInt (Lib.byteCells l).length)=.int .i64 (l.length:Int):=by rw[aaj];rfl
    rw[e1];refine h _ ?_ (But.setRow g w _);have hlt:=(Array.getElem?_eq_some_iff.1 hg);unfold By;rw[setRow_heap w g _ _ T _ hg];congr 2
    simp[Lib.byteCells,List.map_drop]
end Go.Proofs.Ytbhkdlpdolioaaa

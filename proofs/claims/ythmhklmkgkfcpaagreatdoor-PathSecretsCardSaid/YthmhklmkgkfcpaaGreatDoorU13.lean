import Derived.Test.YthmhklmkgkfcpaaGreatDoorU1
import Derived.Test.YthmhklmkgkfcpaaGreatDoorU2
import Derived.Laws.CopyOwn
import Derived.Deep.WholeRow
import Derived.RegionTactic
import Derived.BigRegion
import Derived.Deep.RegionWith
set_option linter.unusedVariables false
set_option linter.unusedSimpArgs false
set_option maxHeartbeats 8000000
set_option maxRecDepth 100000
namespace Go.Proofs.YthmhklmkgkfcpaaGreatDoor
open Go.RowKit
theorem abO {P:Program}{w:World}{t e:TypeId}(U:U8 P t e){ops:Array Oper}{rest:List Oper}{o:Oper}{a:Act}{Q:Exit→Act→World→Prop}(hgd:o.guard=none)(d s:Operand)
  (ho:o.op=.call { callee:=.builtin .copy,args:=#[d,s],argTypes:=#[t,t] })
  (T:TypeId) (g:Nat) (v:Value) (l m:List UInt8) (c n:Nat) (hd:a.eval d=.slice (some ⟨g,0,none⟩) n c) (hs:a.eval s=v) (hg:By T w g m) (hn:m.length=n) (hr:Rd w v l) (hl:l.length≤n)
  (h:∀ w',By T w' g (l++m.drop l.length)→But g w w'→wpList P ops Q rest (a.put o.dst (.int .i64 (l.length:Int))) w'):wpList P ops Q (o :: rest) a w:=by
 obtain ⟨i,hi,hz,hsize,hby⟩:=U.hi;have hsz:(P.info? e).map (·.size)=some 1:=by rw[hi];simp[hsize]
 obtain ⟨x,cc,rfl,h1,h2,h3,h4⟩:=hr;subst hn;by_cases h0:l=[]
 ·subst h0
  refine wpList_copy_nothing hgd d s t t ho e U.ht hsz _ _ _ _ _ _ hd hs (by simp) ?_;exact h w (by simpa using hg) ⟨fun h _=>h,fun h _=>h,rfl,fun _ _=>rfl⟩
 ·cases x with
  | none=>
   have:=h3 rfl;have:l.length=0:=by omega
   exact absurd (List.eq_nil_of_length_eq_zero this) h0
  | some x=>
   refine wpList_copy_own hgd d s t t ho e U.ht hsz g 0 _ _ x _ _ hd hs _ _ hg (Lib.byteCells l) (by rw[aaf];exact (Nat.min_eq_left hl).symm) (fun j arO hj=>?_) (by simp[Lib.byteCells];omega) (fun arO hu=>?_) ?_
   ·have hjl:j<l.length:=by
     have:=(List.getElem?_eq_some_iff.1 hj).1;rwa [aaf] at this
    rw[aaO l j hjl] at hj;cases hj;exact h4 x rfl j hjl
   ·obtain ⟨b,_,rfl⟩:=List.mem_map.1 hu
    rfl
   ·have e1:(goInt (Lib.byteCells l).length)=.int .i64 (l.length:Int):=by rw[aaf];rfl
    rw[e1];refine h _ ?_ (But.setRow g w _);have hlt:=(Array.getElem?_eq_some_iff.1 hg);unfold By;rw[setRow_heap w g _ _ T _ hg];congr 2
    simp[Lib.byteCells,List.map_drop]
end Go.Proofs.YthmhklmkgkfcpaaGreatDoor
namespace Go.Proofs.YthmhklmkgkfcpaaGreatDoor
def rowK (K:List UInt8)(n:Nat):List UInt8:=(K.drop (16*n)).take 16
theorem aaW {K:List UInt8}{n:Nat}(h:16*n+16≤K.length):(rowK K n).length=16:=by simp[rowK];omega
theorem abt {K:List UInt8}{n j:Nat}(hj:j<16):(rowK K n).getD j 0=K.getD (16*n+j) 0:=by
 unfold rowK;rw[List.getD_eq_getElem?_getD,List.getElem?_take_of_lt hj,List.getElem?_drop,List.getD_eq_getElem?_getD]
structure aqy (row:List UInt8)(r:UInt8)(N:List UInt8):Prop where
 len:N.length=16
 low:∀ j,j<4→N.getD j 0=row.getD j 0 ^^^ boxB (row.getD (12+(j+1) % 4) 0) ^^^ (if j=0 then r else 0)
 high:∀ j,4≤j→j<16→N.getD j 0=row.getD j 0 ^^^ N.getD (j - 4) 0
theorem ah0 (key:List UInt8)(n:Nat):∀ d i,i<key.length+n→(acm key (n+d)).getD i 0=(acm key n).getD i 0
 | 0,i,_=>rfl
 | d+1,i,h=>by
  show (acm key (n+d)++[afn (acm key (n+d))]).getD i 0=_
  rw[List.getD_eq_getElem?_getD,List.getElem?_append_left (by rw[abs];omega),← List.getD_eq_getElem?_getD,ah0 key n d i h]
theorem acO {key:List UInt8}(h:key.length=16):(adV key).length=176:=by rw[adV,abs,h]
theorem agH {key:List UInt8}(h:key.length=16)(k i:Nat)(hk:k≤160)(hi:i<16+k):(adV key).getD i 0=(acm key k).getD i 0:=by
 have:=ah0 key k (160 - k) i (by omega);rwa [show k+(160 - k)=160 by omega] at this
theorem al7 {key:List UInt8}(h:key.length=16)(k:Nat)(hk:k<160):(adV key).getD (16+k) 0=afn (acm key k):=by
 rw[agH h (k+1) (16+k) (by omega) (by omega),acm,List.getD_eq_getElem?_getD,List.getElem?_append_right (by rw[abs];omega),abs,h,Nat.sub_self];rfl
theorem aku {key:List UInt8}(h:key.length=16):rowK (adV key) 0=key:=by
 refine afm 16 _ _ (aaW (by rw[acO h];omega)) h fun i hi=>?_
 rw[abt hi,agH h 0 _ (by omega) (by omega)];simp[acm]
theorem anO {key:List UInt8}(h:key.length=16)(n:Nat)(hn:n<10):aqy (rowK (adV key) n) (rcon n) (rowK (adV key) (n+1)):=by
 have hm:∀ j,j<16→(adV key).getD (16*(n+1)+j) 0=afn (acm key (16*n+j)):=fun j hj=>by
  rw[← al7 h (16*n+j) (by omega)];congr 1
  omega
 have hl:∀ j,j<16→(acm key (16*n+j)).length=16*(n+1)+j:=fun j hj=>by rw[abs,h];omega
 have hg:∀ j i,j<16→i<16*(n+1)+j→(acm key (16*n+j)).getD i 0=(adV key).getD i 0:=fun j i hj hi=>(agH h (16*n+j) i (by omega) (by omega)).symm
 refine ⟨aaW (by rw[acO h];omega),fun j hj=>?_,fun j h4 hj=>?_⟩
 ·rw[abt (by omega),abt (by omega),abt (by omega),hm j (by omega)]
  unfold afn;simp only[hl j (by omega)];have e1:(16*(n+1)+j) / 4=4*(n+1):=by omega
  have e2:(16*(n+1)+j) % 4=j:=by omega
  have c1:4*(n+1) % 4=0:=by omega
  rw[e1,e2];simp only[c1,if_true,true_and];have e3:4*(n+1) / 4 - 1=n:=by omega
  rw[e3,hg j _ (by omega) (by omega),hg j _ (by omega) (by omega),show 4*(4*(n+1)) - 16+j=16*n+j by omega,show 4*(4*(n+1)) - 4+(j+1) % 4=16*n+(12+(j+1) % 4) by omega];by_cases h0:j=0
  ·rw[if_pos h0,if_pos h0,UInt8.xor_assoc]
  ·rw[if_neg h0,if_neg h0,UInt8.xor_zero]
 ·rw[abt (by omega),abt (by omega),abt (by omega),hm j (by omega)]
  unfold afn;simp only[hl j (by omega)];have c1:¬(16*(n+1)+j) / 4 % 4=0:=by omega
  simp only[c1,if_false,false_and];rw[hg j _ (by omega) (by omega),hg j _ (by omega) (by omega),show 4*((16*(n+1)+j) / 4) - 16+(16*(n+1)+j) % 4=16*n+j by omega,show 4*((16*(n+1)+j) / 4) - 4+(16*(n+1)+j) % 4=16*(n+1)+(j - 4) by omega]
theorem adW (A B:List UInt8)(i j:Nat)(h:A.length=B.length)(hi:i≤A.length):(mixB A B i).getD j 0=if j<i then B.getD j 0 else A.getD j 0:=by
 unfold mixB;have hl:(B.take i).length=i:=by simp;omega
 by_cases hj:j<i
 ·rw[if_pos hj,List.getD_eq_getElem?_getD,List.getElem?_append_left (by omega),List.getElem?_take_of_lt hj,List.getD_eq_getElem?_getD]
 ·rw[if_neg hj,List.getD_eq_getElem?_getD,List.getElem?_append_right (by omega),hl,List.getElem?_drop,List.getD_eq_getElem?_getD,show i+(j - i)=j by omega]
def adp (row:List UInt8):List UInt8:=tab 16 fun j=>row.getD j 0 ^^^ boxB (row.getD (12+(j+1) % 4) 0)
theorem abI (row:List UInt8):(adp row).length=16:=aa7 _ _
theorem al8 (row:List UInt8)(j:Nat)(h:j<16):(adp row)[j]?=some (row.getD j 0 ^^^ boxB (row.getD (12+(j+1) % 4) 0)):=by simp[adp,tab,h]
theorem anP {row N:List UInt8}{r:UInt8}(hr:row.length=16)(h:aqy row r N):(mixB row (adp row) 4).set 0 ((adp row).getD 0 0 ^^^ r)=mixB row N 4:=by
 have h1:(mixB row (adp row) 4).length=16:=by rw[aaV _ _ 4 (by rw[hr,abI]) (by omega),hr]
 have h2:(mixB row N 4).length=16:=by rw[aaV _ _ 4 (by rw[hr,h.len]) (by omega),hr]
 refine afm 16 _ _ (by rw[List.length_set,h1]) h2 fun i hi=>?_
 rw[adW row N 4 i (by rw[hr,h.len]) (by omega)];by_cases h0:i=0
 ·subst h0
  rw[List.getD_eq_getElem?_getD,List.getElem?_set_self (by omega),if_pos (by omega),h.low 0 (by omega),if_pos rfl];show (adp row).getD 0 0 ^^^ r=_
  unfold adp;rw[ado 16 _ 0 (by omega)]
 ·rw[List.getD_eq_getElem?_getD,List.getElem?_set_ne (by omega),← List.getD_eq_getElem?_getD,adW row (adp row) 4 i (by rw[hr,abI]) (by omega)]
  by_cases h4:i<4
  ·rw[if_pos h4,if_pos h4,h.low i h4,if_neg h0,UInt8.xor_zero]
   unfold adp;rw[ado 16 _ i (by omega)]
  ·rw[if_neg h4,if_neg h4]
end Go.Proofs.YthmhklmkgkfcpaaGreatDoor
namespace Go.Proofs.YthmhklmkgkfcpaaGreatDoor
open Go.RowKit
def ctrB (nonce:List UInt8)(q:Nat):List UInt8:=nonce++be 4 (q+1)
def strF (K nonce b:List UInt8)(j:Nat):UInt8:=b.getD j 0 ^^^ (air K (ctrB nonce (j / 16))).getD (j % 16) 0
def strL (K nonce b:List UInt8):List UInt8:=tab b.length (strF K nonce b)
def strE (key nonce:List UInt8):Int:=if key.length=16∧nonce.length=12 then 0 else 1
def strR (key nonce b:List UInt8):List UInt8:=if key.length=16∧nonce.length=12 then strL (adV key) nonce b else []
theorem acD (K nonce b:List UInt8):(strL K nonce b).length=b.length:=aa7 _ _
theorem akv (nonce:List UInt8)(q:Nat):(ctrB nonce q).length=nonce.length+4:=by simp[ctrB,aak]
theorem alr (K nonce b:List UInt8)(j:Nat)(h:j<b.length):(strL K nonce b).getD j 0=strF K nonce b j:=ado _ _ _ h
theorem anQ (K nonce b:List UInt8)(j:Nat)(h:j<b.length):(strL K nonce b)[j]?=some (strF K nonce b j):=by simp[strL,tab,h]
theorem agI {P:Program}{w:World}{t e:TypeId}(U:U8 P t e){ops:Array Oper}{rest:List Oper}{o:Oper}{a:Act}{Q:Exit→Act→World→Prop}(hgd:o.guard=none)(d s:Operand)
  (ho:o.op=.call { callee:=.builtin .copy,args:=#[d,s],argTypes:=#[t,t] })
  (T:TypeId) (g off:Nat) (v:Value) (l m:List UInt8) (c n:Nat) (hd:a.eval d=.slice (some ⟨g,off,none⟩) n c) (hs:a.eval s=v) (hg:By T w g m) (hr:Rd w v l) (hl:l.length≤n) (h0:0<l.length) (hm:off+l.length≤m.length)
  (h:∀ w',By T w' g (m.take off++(l++m.drop (off+l.length)))→But g w w'→wpList P ops Q rest (a.put o.dst (.int .i64 (l.length:Int))) w'):wpList P ops Q (o :: rest) a w:=by
 obtain ⟨i,hi,hz,hsize,hby⟩:=U.hi
 have hsz:(P.info? e).map (·.size)=some 1:=by rw[hi];simp[hsize]
 obtain ⟨x,cc,rfl,h1,h2,h3,h4⟩:=hr
 cases x with
 | none=>
  have:=h3 rfl
  omega
 | some x=>
  refine wpList_copy_own hgd d s t t ho e U.ht hsz g off _ _ x _ _ hd hs _ _ hg (Lib.byteCells l) (by rw[aaf];exact (Nat.min_eq_left hl).symm) (fun j arO hj=>?_) (by simp[Lib.byteCells];omega) (fun arO hu=>?_) ?_
  ·have hjl:j<l.length:=by
    have:=(List.getElem?_eq_some_iff.1 hj).1
    rwa [aaf] at this
   rw[aaO l j hjl] at hj
   cases hj
   exact h4 x rfl j hjl
  ·obtain ⟨b,_,rfl⟩:=List.mem_map.1 hu
   rfl
  ·have e1:(goInt (Lib.byteCells l).length)=.int .i64 (l.length:Int):=by rw[aaf];rfl
   rw[e1]
   refine h _ ?_ (But.setRow g w _)
   unfold By
   rw[setRow_heap w g _ _ T _ hg]
   congr 2
   simp[Lib.byteCells,List.map_drop,List.map_take]
theorem apy (i:Nat):p3B i ^^^ mulB (p3B i) 2=p3B (i+1):=by
 rw[aps,show (3:UInt8)=1 ^^^ 2 by decide,aiq,alq]
def abT:List UInt8:=tab 255 p3B
theorem abf:abT.length=255:=aa7 _ _
theorem amw (i:Nat)(h:i<255):abT[i]?=some (p3B i):=by simp[abT,tab,h]
def aaA (l:List UInt8):Array Value:=(Lib.byteCells l).toArray
theorem abg (l:List UInt8):(aaA l).size=l.length:=by simp[aaA,aaf]
theorem amx (l:List UInt8)(i:Nat)(h:i<l.length):(aaA l)[i]?=some (.int .u8 ((l.getD i 0).toNat:Int)):=by
 simp[aaA,Lib.byteCells,h]
theorem By.new (T:TypeId)(w:World)(l:List UInt8):By T (w.alloc (.cells (aaA l) T)) w.heap.size l:=heap_alloc_new w _
theorem aqN:∀ w,(zeroValue 282).run Tryz.prog w=.ok (.agg (aaA (List.replicate 255 0))) w:=(zero_of_info (n:=255) (by kernel_rfl)).1
theorem aqO:∀ w,(zeroValue 283).run Tryz.prog w=.ok (.agg (aaA (List.replicate 256 0))) w:=(zero_of_info (n:=256) (by kernel_rfl)).1
theorem aqP:∃ ie,Tryz.prog.info? 5=some ie∧ie.size=1:=by
 have h:(Tryz.prog.info? 5).map (·.size)=some 1:=by kernel_rfl
 cases hq:Tryz.prog.info? 5 with
 | none=>rw[hq] at h;cases h
 | some ie=>rw[hq] at h;exact ⟨ie,rfl,by simpa using h⟩
section
variable {P : Program}
theorem ab9 {T ty e:TypeId}{n:Nat}(hu:P.underlying ty=some (.array n e))(hi:(P.info? ty).map (·.size)=some n){ops:Array Oper}{rest:List Oper}{o:Oper}{a:Act}{w:World}{Q:Exit→Act→World→Prop}(hgd:o.guard=none)(x:Operand)(ho:o.op=.load ty x)
  (g:Nat) (l:List UInt8) (hx:a.eval x=.pointer (some ⟨g,0,none⟩)) (h:By T w g l) (hl:l.length=n)
  (hK:wpList P ops Q rest (a.put o.dst (.agg (aaA l))) w):wpList P ops Q (o :: rest) a w:=
 wpList_load_row hgd ty x ho g hx T (aaA l) (0,0) _ h hu rfl (by rw[hi,abg,hl]) hK
theorem amy (l:List UInt8):(aaA l).all (·.oneCell')=true:=by
 rw[Array.all_eq_true_iff_forall_mem];intro v hv;simp only[aaA,Lib.byteCells,List.mem_toArray,List.mem_map] at hv;obtain ⟨x,_,rfl⟩:=hv;rfl
theorem By.setRow {T:TypeId}{w:World}{g:Nat}{l:List UInt8}(h:By T w g l)(m:List UInt8):By T (w.setRow g (aaA m)) g m:=by
 unfold By at h ⊢;obtain ⟨hlt,heq⟩:=Array.getElem?_eq_some_iff.1 h;simp[World.setRow,hlt,Array.getElem_modify,heq,aaA]
theorem acH {T ty:TypeId}{n:Nat}(hi:(P.info? ty).map (·.size)=some n){ops:Array Oper}{rest:List Oper}{o:Oper}{a:Act}{w:World}{Q:Exit→Act→World→Prop}(hgd:o.guard=none)(hd:o.dst=none)(x y:Operand)(ho:o.op=.store ty x y)
  (g:Nat) (l m:List UInt8) (hx:a.eval x=.pointer (some ⟨g,0,none⟩)) (hy:a.eval y=.agg (aaA m)) (h:By T w g l) (hl:l.length=n) (hm:m.length=n)
  (hK:∀ W,By T W g m→But g w W→wpList P ops Q rest a W):wpList P ops Q (o :: rest) a w:=
 wpList_store_row hgd ty x y ho g (aaA m) hx hy T (aaA l) h (by rw[hi,abg,hm]) (by rw[abg,abg,hl,hm]) (amy m) (by rw[hd];exact hK _ (h.setRow m) (But.setRow g w _))
end
theorem ajR (w:World):Calls Tryz.prog 238 #[] w fun e w'=>(∃ g,e=.returned (.pointer (some ⟨g,0,none⟩))∧By 283 w' g aei∧w.heap.size≤g)∧Kp w w':=by
 have z1:=aqN;have z2:=aqO;have P0:By 282 (w.alloc (.cells (aaA (List.replicate 255 0)) 282)) w.heap.size (mixB (List.replicate 255 0) abT 0):=by
  rw[show mixB (List.replicate 255 (0:UInt8)) abT 0=List.replicate 255 0 by simp[mixB]];exact By.new _ w _
 have HN:Hid (∀ i,i<255→(mixB (List.replicate 255 0) abT i).set i (p3B i)=mixB (List.replicate 255 0) abT (i+1)):=fun i hi=>
  acn _ _ i (by rw[abf,List.length_replicate]) (by rw[List.length_replicate];exact hi) _ (amw i hi)
 have HL:Hid (∀ i,i≤255→(mixB (List.replicate 255 0) abT i).length=255):=fun i hi=>by
  rw[aaV _ _ i (by rw[abf,List.length_replicate]) (by rw[List.length_replicate];exact hi),List.length_replicate]
 have HA:Hid (mixB (List.replicate 255 0) abT 255=abT):=adg _ _ (by rw[abf,List.length_replicate]);obtain ⟨Z,hZ⟩:∃ Z,aaA (List.replicate 255 (0:UInt8))=Z:=⟨_,rfl⟩;obtain ⟨Y,hY⟩:∃ Y,aaA (List.replicate 256 (0:UInt8))=Y:=⟨_,rfl⟩;have hZs:Z.size=255:=by rw[← hZ,abg];rfl
 have hYs:Y.size=256:=by rw[← hY,abg];rfl
 rw[hZ] at z1 P0;rw[hY] at z2;generalize hM:mixB (List.replicate 255 0) abT=M at *;have HY:=Lib.hid hY;clear hZ hM hY;go_enter Tryz.func238,Tryz.ntmps238;go_wp2_with fail;go_loopw[2,7] (fun x p wr=>∃ i:Nat,i≤255∧p=.int .i64 i∧x=.int .u8 ((p3B i).toNat:Int)∧By 282 wr w.heap.size (M i)∧Kp w wr∧w.heap.size<wr.heap.size) (fun _ p _=>255 - (intOf p).toNat)
 case atStart=>exact ⟨0,by omega,rfl,rfl,P0,(Kp.refl _).alloc _,by simp⟩
 case round=>
  clear P0;obtain ⟨i,hi,rfl,rfl,hP,hk,hs⟩:=hrel;by_cases hlt:i<255
  ·have hq:(i:Int)<255:=by omega
   have hn:=HN.out i hlt;have hc:=hP.cell i (by rw[HL.out i hi];exact hlt);have hf:=hP.frozen i;have hd:=act (p3B i) (wr.setCell ⟨w.heap.size,i,none⟩ (.int .u8 ((p3B i).toNat:Int)));have hx:=abw (p3B i) (mulB (p3B i) 2);rw[apy] at hx;have hP2:=hP.set i (p3B i) hn;have hk2:=Below.setCell hk (p:=⟨w.heap.size,i,none⟩) (by simp) (.int .u8 ((p3B i).toNat:Int));have hs2:w.heap.size<(wr.setCell ⟨w.heap.size,i,none⟩ (.int .u8 ((p3B i).toNat:Int))).heap.size:=by simpa using hs
   obtain ⟨V,hV⟩:∃ V,p3B (i+1)=V:=⟨_,rfl⟩;rw[hV] at hx;have HV:=Lib.hid hV;clear hV;generalize mulB (p3B i) 2=D at *;generalize p3B i=U at *;generalize hW:wr.setCell ⟨w.heap.size,i,none⟩ (.int .u8 (U.toNat:Int))=W at *;have HW:=Lib.hid hW;clear hn hW;go_wp2_with (go_at_call 240;rw[HW.out];refine hd.mono ?_;rintro _ _ ⟨rfl,rfl⟩)
   go_roundw
   case rel=>exact ⟨i+1,by omega,by go_num,by rw[HV.out],hP2,hk2,hs2⟩
   case measure=>simp[intOf];omega
  ·obtain rfl:i=255:=by omega
   rw[HA.out] at hP;obtain ⟨gb,hgb⟩:∃ gb,wr.heap.size=gb:=⟨_,rfl⟩;have B0:By 283 (wr.alloc (.cells Y 283)) gb (List.replicate 256 0):=by
    rw[← HY.out,← hgb];exact By.new _ wr _
   have P1:=hP.kp ((Kp.refl wr).alloc (.cells Y 283));have k1:Kp w (wr.alloc (.cells Y 283)):=hk.alloc _;have hs1:gb<(wr.alloc (.cells Y 283)).heap.size:=B0.lt;have c0:=B0.cell 0 (by decide);have f0:=B0.frozen 0;have B1:=B0.set 0 (adI 0) rfl;have hsp:=ah9 0 (wr.alloc (.cells Y 283));have k2:=Below.setCell k1 (p:=⟨gb,0,none⟩) (by show w.heap.size≤gb;omega) (.int .u8 ((adI 0).toNat:Int));have P2:By 282 ((wr.alloc (.cells Y 283)).setCell ⟨gb,0,none⟩ (.int .u8 ((adI 0).toNat:Int))) w.heap.size abT:=
    (Below.heap_setCell _ ⟨gb,0,none⟩ _ w.heap.size (by show w.heap.size≠gb;omega)).trans P1
   have HF:=Lib.hid (fun k l h=>agY.next (k:=k) (l:=l) h);have H0:Hid (agY 0 ((List.replicate 256 (0:UInt8)).set 0 (adI 0))):=agY.begin;generalize (List.replicate 256 (0:UInt8)).set 0 (adI 0)=L0 at *;generalize hW:wr.alloc (.cells Y 283)=W1 at *;have HW:=Lib.hid hW;have hne:w.heap.size≠gb:=by omega
   have hle:w.heap.size≤gb:=by omega
   obtain ⟨W2,hW2⟩:∃ W2,W1.setCell ⟨gb,0,none⟩ (.int .u8 ((adI 0).toNat:Int))=W2:=⟨_,rfl⟩;rw[hW2] at B1 k2 P2;go_wp2_with fail;refine hsp.mono ?_;rintro _ _ ⟨rfl,rfl⟩;clear z1 z2;go_wp2_with (refine ab9 Tryz.underlying282 (by kernel_rfl) rfl (.tmp 1) rfl w.heap.size abT rfl P2 abf ?_)
   clear hW HW P1 k1 hs1 c0 f0 hgb B0 hsp hW2 HN HL HA HY hP hk hs;go_loopw[21] (fun p wt=>∃ (k:Nat) (l:List UInt8),k≤255∧p=.int .i64 k∧Hid (agY k l)∧By 283 wt gb l∧By 282 wt w.heap.size abT∧Kp w wt) (fun p _=>255 - (intOf p).toNat)
   case atStart=>exact ⟨0,L0,by omega,rfl,H0,B1,P2,k2⟩
   case round=>
    clear B1 P2 k2;obtain ⟨wt,rfl⟩:∃ wt,wt=wr:=⟨_,rfl⟩;obtain ⟨k,l,hk,rfl,HBX,hB,hP,hkp⟩:=hrel;by_cases hlt:k<255
    ·have hnx:=Lib.hid (HF.out k l HBX.out hlt)
     have hll:l.length=256:=HBX.out.1;obtain ⟨m,hm⟩:∃ m,(255 - k) % 255=m:=⟨_,rfl⟩;have hm255:m<255:=by omega
     have c2:=hP.cell m (by rw[abf];exact hm255);rw[show abT.getD m 0=p3B m from ado 255 p3B m hm255] at c2;have hX:=agW k;have hXl:=ahu k;have ht:=ah9 (p3B m) wt;rw[hm,← hX] at hnx;rw[← hX] at hXl;have c3:=hB.cell (p3B k).toNat (by rw[hll];exact hXl);have f3:=hB.frozen (p3B k).toNat;have i1:IntKind.i64.wrap (255 - (k:Int))=255 - (k:Int):=IntWalk.i64_in _ (by omega);have i2:(255 - (k:Int)).tmod 255=(m:Int):=by rw[Int.tmod_eq_emod_of_nonneg (by omega)];omega
     have i3:(255 - (k:Int)) % 255=(m:Int):=by omega
     have i4:(m:Int)<255:=by omega
     have i5:(k:Int)<255:=by omega
     have i6:((p3B k).toNat:Int)<256:=by omega
     have i8:0≤(m:Int):=by omega
     have hidx:∀ W,(Instr.index 282 (.agg (aaA abT)) (.int .i64 k)).run Tryz.prog W=.ok (.int .u8 ((p3B k).toNat:Int)) W:=fun W=>by
      obtain ⟨ie,hie,hsz⟩:=aqP;have hg:=amx abT k (by rw[abf];exact hlt);rw[show abT.getD k 0=p3B k from ado 255 p3B k hlt] at hg;exact adh W 282 5 255 ie _ Tryz.underlying282 hie hsz Tryz.underlying5 rfl _ (by rw[abg,abf]) k hlt _ hg
     have hB2:=hB.set (p3B k).toNat (adI (p3B m)) rfl;have hP2:By 282 (wt.setCell ⟨gb,(p3B k).toNat,none⟩ (.int .u8 ((adI (p3B m)).toNat:Int))) w.heap.size abT:=(Below.heap_setCell wt ⟨gb,_,none⟩ _ w.heap.size hne).trans hP;have hkp2:=Below.setCell hkp (p:=⟨gb,(p3B k).toNat,none⟩) hle (.int .u8 ((adI (p3B m)).toNat:Int));clear hm hX hXl;generalize hZ:adI (p3B m)=Z at *;generalize hY:p3B m=Y at *;generalize hXX:p3B k=X at *;generalize hL2:l.set X.toNat Z=l2 at *;clear hZ hY hXX hL2 hP hB hkp;go_wp2_with (go_at_call 263;refine ht.mono ?_;rintro _ _ ⟨rfl,rfl⟩)
     go_roundw
     case rel=>exact ⟨k+1,l2,by omega,by go_num,hnx,hB2,hP2,hkp2⟩
     case measure=>simp[intOf];omega
    ·obtain rfl:k=255:=by omega
     have hl:=HBX.out.all;rw[hl] at hB;go_wp2_with fail;go_ret;exact ⟨⟨_,rfl,hB,hle⟩,hkp⟩
structure arx (p:Prop):Prop where
 out:p
theorem later {G p:Prop}(ways:arx G→p)(rest:arx G):p:=ways rest
structure Wr (g:Nat)(A B:World):Prop where
 os:B.os=A.os
 tape:B.tape=A.tape
 output:B.output=A.output
 size:A.heap.size≤B.heap.size
 block:∀ k,k<A.heap.size→k≠g→B.heap[k]?=A.heap[k]?
theorem Wr.refl (g:Nat)(A:World):Wr g A A:=⟨rfl,rfl,rfl,Nat.le_refl _,fun _ _ _=>rfl⟩
theorem Wr.trans {g:Nat}{A B C:World}(h:Wr g A B)(k:Wr g B C):Wr g A C:=
 ⟨k.os.trans h.os,k.tape.trans h.tape,k.output.trans h.output,Nat.le_trans h.size k.size,fun i hi hy=>(k.block i (Nat.lt_of_lt_of_le hi h.size) hy).trans (h.block i hi hy)⟩
theorem Wr.of_kp {g:Nat}{A B:World}(h:Kp A B):Wr g A B:=⟨h.os,h.tape,h.output,h.size,fun k hk _=>h.block k hk⟩
theorem Wr.setCell {g:Nat}{A B:World}(h:Wr g A B)(i:Nat)(v:Value):Wr g A (B.setCell ⟨g,i,none⟩ v):=
 ⟨h.os,h.tape,h.output,by simpa using h.size,fun k hk hn=>(Below.heap_setCell B ⟨g,i,none⟩ v k hn).trans (h.block k hk hn)⟩
theorem Wr.drew {g:Nat}{A B:World}(h:Wr g A B):Wr g A B.drew:=h.trans (Wr.of_kp (Kp.refl B).drew)
theorem Wr.below {g n:Nat}{A B:World}(h:Wr g A B)(hn:n≤A.heap.size)(hg:n≤g):Below n A B:=
 ⟨h.os,h.tape,h.output,h.size,fun k hk=>h.block k (by omega) (by omega)⟩
theorem Wr.cell {g:Nat}{A B:World}(h:Wr g A B){p:Addr}{v:Value}(hv:A.cell? p=some v)(hp:p.block≠g):B.cell? p=some v:=
 (World.cell?_of_block (w:=A) (h.block p.block (World.block_lt_of_cell? A p hv) hp)).trans hv
theorem Wr.by {g k:Nat}{A B:World}{T:TypeId}{l:List UInt8}(h:Wr g A B)(hb:By T A k l)(hk:k≠g):By T B k l:=(h.block k hb.lt hk).trans hb
theorem By.drew {T:TypeId}{w:World}{g:Nat}{l:List UInt8}(h:By T w g l):By T w.drew g l:=h
theorem By.made (T:TypeId)(w:World)(cs:Array Value)(l:List UInt8)(h:cs=aaA l):By T (w.alloc (.cells cs T)) w.heap.size l:=by
 subst h;exact By.new T w l
def Lies (w:World)(b o:Nat)(l:List UInt8):Prop:=∀ i,i<l.length→w.cell? ⟨b,o+i,none⟩=some (.int .u8 ((l.getD i 0).toNat:Int))
theorem Lies.wr {g b o:Nat}{A B:World}{l:List UInt8}(h:Lies A b o l)(k:Wr g A B)(hb:b≠g):Lies B b o l:=fun i hi=>k.cell (h i hi) hb
theorem Lies.kp {b o:Nat}{A B:World}{l:List UInt8}(h:Lies A b o l)(k:Kp A B):Lies B b o l:=fun i hi=>k.cell (h i hi)
theorem aeZ (A B:List UInt8)(i j:Nat)(h:A.length=B.length)(hi:i≤A.length)(hj:i≤j):(mixB A B i).getD j 0=A.getD j 0:=by
 unfold mixB;have hl:(B.take i).length=i:=by simp;omega
 rw[List.getD_eq_getElem?_getD,List.getElem?_append_right (by omega),hl,List.getElem?_drop,List.getD_eq_getElem?_getD,show i+(j - i)=j by omega]
def addR (s r:List UInt8):List UInt8:=tab 16 fun i=>s.getD i 0 ^^^ r.getD i 0
theorem adA (s r:List UInt8):(addR s r).length=16:=aa7 _ _
theorem alE (n:Nat)(f:Nat→UInt8)(i:Nat)(h:i<n):(tab n f)[i]?=some (f i):=by simp[tab,h]
theorem akR (gs gr o:Nat)(s r:List UInt8)(w:World)(hs:s.length=16)(hr:r.length=16)(hne:gr≠gs)(hB:By 231 w gs s)(hR:Lies w gr o r):
  Calls Tryz.prog 241 #[.pointer (some ⟨gs,0,none⟩),.pointer (some ⟨gr,o,none⟩)] w fun e w'=>e=.returned (.tuple #[])∧By 231 w' gs (addR s r)∧Wr gs w w':=by
 have HN:Hid (∀ i,i<16→(mixB s (addR s r) i).set i (s.getD i 0 ^^^ r.getD i 0)=mixB s (addR s r) (i+1)):=fun i hi=>
  acn _ _ i (by rw[adA,hs]) (by rw[hs];exact hi) _ (alE 16 _ i hi)
 have HG:Hid (∀ i,i<16→(mixB s (addR s r) i).getD i 0=s.getD i 0):=fun i hi=>aeZ _ _ i i (by rw[adA,hs]) (by omega) (Nat.le_refl _)
 have HL:Hid (∀ i,i≤16→(mixB s (addR s r) i).length=16):=fun i hi=>by rw[aaV _ _ i (by rw[adA,hs]) (by omega),hs]
 have HA:Hid (mixB s (addR s r) 16=addR s r):=adg _ _ (by rw[adA,hs]);have hB0:By 231 w gs (mixB s (addR s r) 0):=by rw[show mixB s (addR s r) 0=s by simp[mixB]];exact hB
 generalize hM:mixB s (addR s r)=M at *;generalize addR s r=X at *;clear hM hB;go_enter Tryz.func241,Tryz.ntmps241;go_wp2_with fail;go_loopw[5] (fun p wr=>∃ i:Nat,i≤16∧p=.int .i64 i∧By 231 wr gs (M i)∧Wr gs w wr) (fun p _=>16 - (intOf p).toNat)
 case atStart=>exact ⟨0,by omega,rfl,hB0,Wr.refl _ _⟩
 case round=>
  clear hB0;obtain ⟨i,hi,rfl,hB,hw⟩:=hrel;by_cases hlt:i<16
  ·have hq:(i:Int)<16:=by omega
   have c1:=hB.cell i (by rw[HL.out i hi];exact hlt);have f1:=hB.frozen i;rw[HG.out i hlt] at c1;have c2:=(hR.wr hw hne) i (by omega);have hx:=abw (s.getD i 0) (r.getD i 0);have hn:=HN.out i hlt;generalize s.getD i 0=U at *;generalize r.getD i 0=V at *;generalize U ^^^ V=Z at *;have HZ:=Lib.hid hn;clear hn;go_wp2_with fail;go_region
   all_goals
    go_wp2_with fail;go_roundw
    case rel=>exact ⟨i+1,by omega,by go_num,(hB.set i _ HZ.out).drew,(hw.setCell i _).drew⟩
    case measure=>simp[intOf];omega
  ·obtain rfl:i=16:=by omega
   rw[HA.out] at hB;go_wp2_with fail;go_end0
   exact ⟨rfl,hB,hw⟩
theorem aog:∀ i,i<16→(5*i) % 16=anM i:=by
 have:∀ i:Fin 16,(5*i.1) % 16=anM i.1:=by decide
 exact fun i hi=>this ⟨i,hi⟩
theorem acI (s:List UInt8):(subS s).length=16:=aa7 _ _
theorem apz (gc gs bx:Nat)(s:List UInt8)(w:World)(hs:s.length=16)(hcs:gc≠gs)(hbs:bx≠gs)(hC:w.cell? ⟨gc,0,none⟩=some (.pointer (some ⟨bx,0,none⟩)))(hX:By 283 w bx aei)(hB:By 231 w gs s):
  Calls Tryz.prog 242 #[.pointer (some ⟨gc,0,none⟩),.pointer (some ⟨gs,0,none⟩)] w fun e w'=>e=.returned (.tuple #[])∧By 231 w' gs (subS s)∧Wr gs w w':=by
 have HN:Hid (∀ i,i<16→(mixB s (subS s) i).set i (boxB (s.getD (anM i) 0))=mixB s (subS s) (i+1)):=fun i hi=>
  acn _ _ i (by rw[acI,hs]) (by rw[hs];exact hi) _ (alE 16 _ i hi)
 have HL:Hid (∀ i,i≤16→(mixB s (subS s) i).length=16):=fun i hi=>by rw[aaV _ _ i (by rw[acI,hs]) (by omega),hs]
 have HA:Hid (mixB s (subS s) 16=subS s):=adg _ _ (by rw[acI,hs]);have h0:mixB s (subS s) 0=s:=by simp[mixB]
 generalize hM:mixB s (subS s)=M at *;generalize subS s=X at *;have H0:=Lib.hid h0;clear hM h0;go_enter Tryz.func242,Tryz.ntmps242;go_wp2_with (first
  | (refine ab9 Tryz.underlying231 (by kernel_rfl) rfl (.tmp 7) rfl gs s rfl hB hs ?_)
  | (refine acH (by kernel_rfl) rfl rfl (.tmp 4) (.tmp 8) rfl w.heap.size (List.replicate 16 0) s rfl rfl (By.made _ _ _ _ rfl) (by decide) hs ?_;intro w1 hO hbut))
 have k1:Kp w w1:=hbut.below ((Kp.refl w).alloc _) (Nat.le_refl _);have hso:gs<w.heap.size:=hB.lt;have hB1:=hB.kp k1;have hC1:=k1.cell hC;have hX1:=hX.kp k1;rw[← H0.out] at hB1;clear hbut hB hC hX;have hog:w.heap.size≠gs:=by omega
 go_loopw[9] (fun p wr=>∃ i:Nat,i≤16∧p=.int .i64 i∧By 231 wr gs (M i)∧Wr gs w1 wr) (fun p _=>16 - (intOf p).toNat)
 case atStart=>exact ⟨0,by omega,rfl,hB1,Wr.refl _ _⟩
 case round=>
  clear hB1;obtain ⟨i,hi,rfl,hB,hw⟩:=hrel;by_cases hlt:i<16
  ·have hq:(i:Int)<16:=by omega
   have hg:=hB.cell i (by rw[HL.out i hi];exact hlt);have f1:=hB.frozen i;have c1:=hw.cell hC1 hcs;obtain ⟨m,hm⟩:∃ m,anM i=m:=⟨_,rfl⟩
   have h5:=aog i hlt;rw[hm] at h5;have hm16:m<16:=by omega
   have c2:=(hw.by hO hog).cell m (by omega);have hn:=HN.out i hlt;rw[hm] at hn;have c3:=(hw.by hX1 hbs).cell (s.getD m 0).toNat (by rw[adz];exact adH _);rw[ah8] at c3;have hxl:=adH (s.getD m 0);have hx2:((s.getD m 0).toNat:Int)<256:=by omega
   generalize s.getD m 0=U at *;generalize boxB U=Z at *;have HZ:=Lib.hid hn;have i1:IntKind.i64.wrap (5*(i:Int))=5*(i:Int):=IntWalk.i64_in _ (by omega);have i2:(5*(i:Int)).tmod 16=(m:Int):=by rw[Int.tmod_eq_emod_of_nonneg (by omega)];omega
   have i3:(5*(i:Int)) % 16=(m:Int):=by omega
   have i4:(m:Int)<16:=by omega
   have i5:0≤(m:Int):=by omega
   clear hn hm h5;go_wp2_with fail;go_region
   all_goals
    go_wp2_with fail;go_roundw
    case rel=>exact ⟨i+1,by omega,by go_num,by first | exact hB.set i _ HZ.out | exact (hB.set i _ HZ.out).drew,by first | exact hw.setCell i _ | exact (hw.setCell i _).drew⟩
    case measure=>simp[intOf];omega
  ·obtain rfl:i=16:=by omega
   rw[HA.out] at hB;go_wp2_with fail;go_end0
   exact ⟨rfl,hB,(Wr.of_kp k1).trans hw⟩
theorem agc (a b c d:UInt8):mix4 a b c d=a ^^^ (a ^^^ b ^^^ c ^^^ d ^^^ mulB (a ^^^ b) 2):=by
 unfold mix4;rw[show (3:UInt8)=1 ^^^ 2 by decide,aiq,alq,anK];have:∀ x y z arO v w:UInt8,x ^^^ (y ^^^ z) ^^^ arO ^^^ v=w ^^^ (w ^^^ y ^^^ arO ^^^ v ^^^ (x ^^^ z)):=by
  intro x y z arO v w;have e:w ^^^ (w ^^^ y ^^^ arO ^^^ v ^^^ (x ^^^ z))=(w ^^^ w) ^^^ (x ^^^ (y ^^^ z) ^^^ arO ^^^ v):=by ac_rfl
  rw[e,UInt8.xor_self,UInt8.zero_xor]
 exact this _ _ _ _ _ _
theorem aqQ (a b c d:UInt8):mix4 b c d a=b ^^^ (a ^^^ b ^^^ c ^^^ d ^^^ mulB (b ^^^ c) 2)∧mix4 c d a b=c ^^^ (a ^^^ b ^^^ c ^^^ d ^^^ mulB (c ^^^ d) 2)∧mix4 d a b c=d ^^^ (a ^^^ b ^^^ c ^^^ d ^^^ mulB (d ^^^ a) 2):=by
 rw[agc,agc,agc,show b ^^^ c ^^^ d ^^^ a=a ^^^ b ^^^ c ^^^ d by ac_rfl,show c ^^^ d ^^^ a ^^^ b=a ^^^ b ^^^ c ^^^ d by ac_rfl,show d ^^^ a ^^^ b ^^^ c=a ^^^ b ^^^ c ^^^ d by ac_rfl];exact ⟨rfl,rfl,rfl⟩
theorem agd (l:List UInt8)(i j:Nat)(x:UInt8)(hi:i<l.length):(l.set i x).getD j 0=if j=i then x else l.getD j 0:=by
 by_cases e:j=i
 ·subst e
  simp[List.getD_eq_getElem?_getD,hi]
 ·rw[if_neg e]
  simp[List.getD_eq_getElem?_getD,List.getElem?_set,Ne.symm e]
def agZ (t:List UInt8)(i:Nat)(l:List UInt8):Prop:=l.length=16∧∀ m,m<16→l.getD m 0=if m<i then (mixS t).getD m 0 else t.getD m 0
theorem agZ.begin {t:List UInt8}(h:t.length=16):agZ t 0 t:=⟨h,fun m _=>by rw[if_neg (by omega)]⟩
theorem age (t:List UInt8)(n k:Nat)(hn:n<4)(hk:k<4):(mixS t).getD (4*n+k) 0=mix4 (t.getD (4*n+k) 0) (t.getD (4*n+(k+1) % 4) 0) (t.getD (4*n+(k+2) % 4) 0) (t.getD (4*n+(k+3) % 4) 0):=by
 unfold mixS;rw[ado 16 _ (4*n+k) (by omega)];unfold at4;rw[show (4*n+k) / 4=n by omega,show (4*n+k) % 4=k by omega,Nat.add_zero,Nat.mod_eq_of_lt hk]
theorem agZ.next {t l:List UInt8}{n:Nat}(h:agZ t (4*n) l)(hn:n<4)(a b c d:UInt8)(ha:t.getD (4*n) 0=a)(hb:t.getD (4*n+1) 0=b)(hc:t.getD (4*n+2) 0=c)(hd:t.getD (4*n+3) 0=d):
  agZ t (4*(n+1)) ((((l.set (4*n) (mix4 a b c d)).set (4*n+1) (mix4 b c d a)).set (4*n+2) (mix4 c d a b)).set (4*n+3) (mix4 d a b c)):=by
 obtain ⟨h1,h2⟩:=h;refine ⟨by simp[h1],fun m hm=>?_⟩;have k0:=age t n 0 hn (by omega);have k1:=age t n 1 hn (by omega);have k2:=age t n 2 hn (by omega);have k3:=age t n 3 hn (by omega);simp only[Nat.add_zero,Nat.zero_add,Nat.reduceAdd,Nat.reduceMod,ha,hb,hc,hd] at k0 k1 k2 k3;rw[agd _ _ _ _ (by simp[h1];omega),agd _ _ _ _ (by simp[h1];omega),agd _ _ _ _ (by simp[h1];omega),agd _ _ _ _ (by rw[h1];omega),h2 m hm];by_cases e3:m=4*n+3
 ·subst e3;rw[if_pos rfl,if_pos (by omega),k3]
 ·rw[if_neg e3]
  by_cases e2:m=4*n+2
  ·subst e2;rw[if_pos rfl,if_pos (by omega),k2]
  ·rw[if_neg e2]
   by_cases e1:m=4*n+1
   ·subst e1;rw[if_pos rfl,if_pos (by omega),k1]
   ·rw[if_neg e1]
    by_cases e0:m=4*n
    ·subst e0;rw[if_pos rfl,if_pos (by omega),k0]
    ·rw[if_neg e0]
     by_cases hlt:m<4*n
     ·rw[if_pos hlt,if_pos (by omega)]
     ·rw[if_neg hlt,if_neg (by omega)]
theorem agZ.all {t l:List UInt8}(h:agZ t (4*4) l):l=mixS t:=
 afm 16 _ _ h.1 (aa7 _ _) fun i hi=>by rw[h.2 i hi,if_pos (by omega)]
theorem akS (t:List UInt8):(mixS t).length=16:=aa7 _ _
theorem amz {P:Program}{T ty e:TypeId}{n:Nat}(hu:P.underlying ty=some (.array n e))(hi:(P.info? ty).map (·.size)=some n){fn:Func}{p:Tmp}(hr:fn.results=#[.cell p ty])(tmps:Array Value)(w:World)(g:Nat)(l:List UInt8)
  (hp:tmps.getD p undef=.pointer (some ⟨g,0,none⟩)) (h:By T w g l) (hl:l.length=n):(results fn tmps).run P w=.ok (.agg (aaA l)) w:=
 results_cell_row hr tmps w g T (aaA l) (0,0) _ hp h hu rfl (by rw[hi,abg,hl])
theorem apA (gc bx:Nat)(row N:List UInt8)(r:UInt8)(w:World)(hr:row.length=16)(hN:aqy row r N)(hC:w.cell? ⟨gc,0,none⟩=some (.pointer (some ⟨bx,0,none⟩)))(hX:By 283 w bx aei):
  Calls Tryz.prog 239 #[.pointer (some ⟨gc,0,none⟩),.agg (aaA row),.int .u8 (r.toNat:Int)] w fun e w'=>e=.returned (.agg (aaA N))∧Kp w w':=by
 have HSet:=Lib.hid (anP hr hN);have H1:Hid (∀ i,i<4→(mixB row (adp row) i).set i (row.getD i 0 ^^^ boxB (row.getD (12+(i+1) % 4) 0))=mixB row (adp row) (i+1)):=fun i hi=>acn _ _ i (by rw[hr,abI]) (by omega) _ (al8 row i (by omega))
 have G1:Hid (∀ i j,i≤4→i≤j→(mixB row (adp row) i).getD j 0=row.getD j 0):=fun i j hi hj=>aeZ _ _ i j (by rw[hr,abI]) (by omega) hj
 have L1:Hid (∀ i,i≤4→(mixB row (adp row) i).length=16):=fun i hi=>by rw[aaV _ _ i (by rw[hr,abI]) (by omega),hr]
 have Z1:Hid ((mixB row (adp row) 4).getD 0 0=(adp row).getD 0 0):=by
  refine (adW _ _ 4 0 (by rw[hr,abI]) (by omega)).trans ?_;rw[if_pos (by omega)]
 have h0:mixB row (adp row) 0=row:=by simp[mixB]
 have H2:Hid (∀ i,i<12→(mixB row N (i+4)).set (i+4) (row.getD (i+4) 0 ^^^ N.getD i 0)=mixB row N (i+1+4)):=fun i hi=>by
  have hh:=hN.high (i+4) (by omega) (by omega);rw[Nat.add_sub_cancel] at hh;rw[show i+1+4=i+4+1 by omega];refine acn _ _ (i+4) (by rw[hr,hN.len]) (by omega) _ ?_;rw[← hh,List.getD_eq_getElem?_getD,List.getElem?_eq_getElem (by rw[hN.len];omega)];rfl
 have G2:Hid (∀ i,i<12→(mixB row N (i+4)).getD (i+4) 0=row.getD (i+4) 0∧(mixB row N (i+4)).getD i 0=N.getD i 0):=fun i hi=>by
  rw[adW _ _ (i+4) _ (by rw[hr,hN.len]) (by omega),adW _ _ (i+4) _ (by rw[hr,hN.len]) (by omega),if_neg (by omega),if_pos (by omega)];exact ⟨rfl,rfl⟩
 have L2:Hid (∀ i,i≤12→(mixB row N (i+4)).length=16):=fun i hi=>by rw[aaV _ _ (i+4) (by rw[hr,hN.len]) (by omega),hr]
 have A2:Hid (mixB row N (12+4)=N):=by
  have:=adg row N (by rw[hr,hN.len]);rw[hN.len] at this;exact this
 have B0:By 231 (w.alloc (.cells (aaA row) 231)) w.heap.size (mixB row (adp row) 0):=by
  rw[h0];exact By.new _ w row
 generalize adp row=M at *;have LN:=hN.len;clear hN h0;go_enter Tryz.func239,Tryz.ntmps239;go_wp2_with fail;have B1:=B0.kp ((Kp.refl _).alloc (.cells (aaA (List.replicate 16 0)) 231));have R1:=By.new 231 (w.alloc (.cells (aaA row) 231)) (List.replicate 16 0);rw[World.size_alloc] at R1;have k1:Kp w ((w.alloc (.cells (aaA row) 231)).alloc (.cells (aaA (List.replicate 16 0)) 231)):=((Kp.refl w).alloc _).alloc _;have e16:aaA (List.replicate 16 0)=#[Value.int IntKind.u8 0,Value.int IntKind.u8 0,Value.int IntKind.u8 0,Value.int IntKind.u8 0,Value.int IntKind.u8 0,Value.int IntKind.u8 0,Value.int IntKind.u8 0,Value.int IntKind.u8 0,Value.int IntKind.u8 0,Value.int IntKind.u8 0,Value.int IntKind.u8 0,Value.int IntKind.u8 0,Value.int IntKind.u8 0,Value.int IntKind.u8 0,Value.int IntKind.u8 0,Value.int IntKind.u8 0]:=rfl;rw[e16] at B1 R1 k1;obtain ⟨W1,hW1⟩:∃ W,(w.alloc (.cells (aaA row) 231)).alloc (.cells #[Value.int IntKind.u8 0,Value.int IntKind.u8 0,Value.int IntKind.u8 0,Value.int IntKind.u8 0,Value.int IntKind.u8 0,Value.int IntKind.u8 0,Value.int IntKind.u8 0,Value.int IntKind.u8 0,Value.int IntKind.u8 0,Value.int IntKind.u8 0,Value.int IntKind.u8 0,Value.int IntKind.u8 0,Value.int IntKind.u8 0,Value.int IntKind.u8 0,Value.int IntKind.u8 0,Value.int IntKind.u8 0] 231)=W:=⟨_,rfl⟩;rw[hW1] at B1 R1 k1 ⊢;have C1:=k1.cell hC;have X1:=hX.kp k1;have hbw:bx<w.heap.size:=hX.lt;have hcw:gc<w.heap.size:=World.block_lt_of_cell? w _ hC;clear hW1 e16 B0 hC hX;go_loopw[11] (fun p wr=>∃ i:Nat,i≤4∧p=.int .i64 i∧By 231 wr w.heap.size (mixB row M i)∧Wr w.heap.size W1 wr) (fun p _=>4 - (intOf p).toNat)
 case atStart=>exact ⟨0,by omega,rfl,B1,Wr.refl _ _⟩
 case round=>
  clear B1;obtain ⟨i,hi,rfl,hB,hw⟩:=hrel;by_cases hlt:i<4
  ·have hq:(i:Int)<4:=by omega
   have hq16:(i:Int)<16:=by omega
   obtain ⟨m,hm⟩:∃ m,(i+1) % 4=m:=⟨_,rfl⟩;have hm4:m<4:=by omega
   have c1:=hB.cell i (by rw[L1.out i hi];omega);rw[G1.out i i hi (Nat.le_refl _)] at c1;have c2:=hB.cell (12+m) (by rw[L1.out i hi];omega);rw[G1.out i (12+m) hi (by omega)] at c2;have f1:=hB.frozen i;have c3:=hw.cell C1 (by show gc≠w.heap.size;omega);have c4:=(hw.by X1 (by omega)).cell (row.getD (12+m) 0).toNat (by rw[adz];exact adH _);rw[ah8] at c4;have hn:=H1.out i hlt;rw[hm] at hn;have hx:=abw (row.getD i 0) (boxB (row.getD (12+m) 0));have hxl:=adH (row.getD (12+m) 0);have hx2:((row.getD (12+m) 0).toNat:Int)<256:=by omega
   generalize row.getD (12+m) 0=U at *;generalize row.getD i 0=V at *;generalize boxB U=Z at *;generalize V ^^^ Z=Y at *;have HN:=Lib.hid hn;have i1:IntKind.i64.wrap ((i:Int)+1)=(i:Int)+1:=IntWalk.i64_in _ (by omega);have i2:((i:Int)+1).tmod 4=(m:Int):=by rw[Int.tmod_eq_emod_of_nonneg (by omega)];omega
   have i3:((i:Int)+1) % 4=(m:Int):=by omega
   have i4:(m:Int)<4:=by omega
   have i5:0≤(m:Int):=by omega
   clear hn hm hxl;go_wp2_with fail;go_region
   all_goals
    go_wp2_with fail;go_roundw
    case rel=>exact ⟨i+1,by omega,by go_num,(hB.set i _ HN.out).drew,(hw.setCell i _).drew⟩
    case measure=>simp[intOf];omega
  ·obtain rfl:i=4:=by omega
   have c0:=hB.cell 0 (by rw[L1.out 4 hi];omega);rw[Z1.out] at c0;have f0:=hB.frozen 0;have hx:=abw (M.getD 0 0) r;have hB2:=hB.set 0 _ HSet.out;have hw2:=hw.setCell 0 (.int .u8 ((M.getD 0 0 ^^^ r).toNat:Int));generalize M.getD 0 0 ^^^ r=Y at *;generalize M.getD 0 0=V at *;clear HSet H1 G1 L1 Z1 hB hw;go_wp2_with fail;generalize wr.setCell ⟨w.heap.size,0,none⟩ (.int .u8 (Y.toNat:Int))=W2 at *;clear c0 f0 hx;go_loopw[38] (fun p wr=>∃ i:Nat,i≤12∧p=.int .i64 i∧By 231 wr w.heap.size (mixB row N (i+4))∧Wr w.heap.size W1 wr) (fun p _=>12 - (intOf p).toNat)
   case atStart=>exact ⟨0,by omega,rfl,hB2,hw2⟩
   case round=>
    clear hB2 hw2;obtain ⟨i,hi,rfl,hB,hw⟩:=hrel;by_cases hlt:i<12
    ·have hq:(i:Int)<12:=by omega
     have hq2:(i:Int)<16:=by omega
     have hq3:(i:Int)+4<16:=by omega
     have c1:=hB.cell (i+4) (by rw[L2.out i hi];omega);have c2:=hB.cell i (by rw[L2.out i hi];omega);obtain ⟨g1,g2⟩:=G2.out i hlt;rw[g1] at c1;rw[g2] at c2;have f1:=hB.frozen (i+4);have hn:=H2.out i hlt;have hx:=abw (row.getD (i+4) 0) (N.getD i 0);generalize row.getD (i+4) 0=U at *;generalize N.getD i 0=V at *;generalize U ^^^ V=Y at *;have HN:=Lib.hid hn;have i1:IntKind.i64.wrap ((i:Int)+4)=(i:Int)+4:=IntWalk.i64_in _ (by omega);have i2:((i:Int)+4).toNat=i+4:=by omega
     have i3:(0:Int)≤(i:Int)+4:=by omega
     clear hn g1 g2;go_wp2_with fail;go_region
     all_goals
      go_wp2_with fail;go_roundw
      case rel=>exact ⟨i+1,by omega,by go_num,(hB.set (i+4) _ HN.out).drew,(hw.setCell (i+4) _).drew⟩
      case measure=>simp[intOf];omega
    ·obtain rfl:i=12:=by omega
     rw[A2.out] at hB;have hR:=hw.by R1 (by omega);have hk:Kp w wr:=Below.trans (show Below w.heap.size w W1 from k1) (hw.below k1.size (Nat.le_refl _));clear hlt hi hw R1 k1;go_wp2_with (first
      | (refine ab9 Tryz.underlying231 (by kernel_rfl) rfl (.tmp 4) rfl w.heap.size N rfl hB LN ?_)
      | (refine acH (by kernel_rfl) rfl rfl (.tmp 6) (.tmp 51) rfl (w.heap.size+1) (List.replicate 16 0) N rfl rfl hR (by decide) LN ?_;intro w5 hR5 hbut))
     refine bodyPost_ret (amz Tryz.underlying231 (by kernel_rfl) rfl _ _ (w.heap.size+1) N rfl hR5 LN) rfl ?_;exact ⟨rfl,hbut.below hk (by omega)⟩
end Go.Proofs.YthmhklmkgkfcpaaGreatDoor

import Derived.Test.YthmhklmkgkfcpaaGreatDoorT1
import Derived.Test.YthmhklmkgkfcpaaGreatDoorT2
import Derived.Test.YthmhklmkgkfcpaaGreatDoorT7
import Derived.Test.YthmhklmkgkfcpaaGreatDoorT10
import Derived.Test.YthmhklmkgkfcpaaGreatDoorT12
import Derived.Laws.CopyOwn
import Derived.RegionTactic
import Derived.BigRegion
import Derived.Deep.RegionWith
set_option linter.unusedVariables false
set_option linter.unusedSimpArgs false
set_option maxHeartbeats 8000000
set_option maxRecDepth 100000
namespace Go.Proofs.YthmhklmkgkfcpaaGreatDoor
open Go.RowKit
theorem abj (w:World):Rd w (.slice none 0 0) []:=⟨none,0,rfl,Nat.le_refl _,Nat.zero_le _,fun _=>rfl,fun x hx=>by cases hx⟩
theorem aaP (l:List UInt8):(aaH l).length=32:=afI _
theorem arB (v:Value)(l:List UInt8)(w:World)(h:Rd w v l)(hl:l.length≤2000):
  Calls Tryz.prog 211 #[v] w fun e w'=>(∃ a c,e=.returned (.slice a 32 c)∧Rd w' (.slice a 32 c) (aaH l))∧Kp w w':=by
 refine (aqD v l w h hl).mono ?_;rintro e w' ⟨⟨v',rfl,hr⟩,hk⟩;obtain ⟨a,c,rfl,_,_⟩:=hr.shape;rw[aaP] at hr ⊢;exact ⟨⟨a,c,rfl,hr⟩,hk⟩
theorem anK (v:Value)(l:List UInt8)(w:World)(h:Rd w v l)(hl:l.length≤2000):
  Calls Tryz.prog 211 #[v] w fun e w'=>(∃ a c,e=.returned (.slice a 32 c)∧Ow 5 w' w.heap.size (.slice a 32 c) (aaH l))∧Kp w w':=by
 refine (anJ v l w h hl).mono ?_;rintro e w' ⟨⟨v',rfl,hr⟩,hk⟩;obtain ⟨a,c,rfl,_,_⟩:=hr.rd.shape;rw[aaP] at hr ⊢;exact ⟨⟨a,c,rfl,hr⟩,hk⟩
theorem abM {P:Program}{w:World}{t e:TypeId}(U:U8 P t e){ops:Array Oper}{rest:List Oper}{o:Oper}{a:Act}{Q:Exit→Act→World→Prop}(hgd:o.guard=none)(d s:Operand)
  (ho:o.op=.call { callee:=.builtin .copy,args:=#[d,s],argTypes:=#[t,t] })
  (T:TypeId) (g:Nat) (v:Value) (l m:List UInt8) (c n:Nat) (hd:a.eval d=.slice (some ⟨g,0,none⟩) n c) (hs:a.eval s=v) (hg:By T w g m) (hn:m.length=n) (hr:Rd w v l) (hl:l.length≤n)
  (h:∀ w',By T w' g (l++m.drop l.length)→But g w w'→wpList P ops Q rest (a.put o.dst (.int .i64 (l.length:Int))) w'):wpList P ops Q (o :: rest) a w:=by
 obtain ⟨i,hi,hz,hsize,hby⟩:=U.hi;have hsz:(P.info? e).map (·.size)=some 1:=by rw[hi];simp[hsize]
 obtain ⟨x,cc,rfl,h1,h2,h3,h4⟩:=hr;subst hn;by_cases h0:l=[]
 ·subst h0
  refine wpList_copy_nothing hgd d s t t ho e U.ht hsz _ _ _ _ _ _ hd hs (by simp) ?_;exact h w (by simpa using hg) ⟨fun h _=>h,fun h _=>h,rfl,fun _ _=>rfl⟩
 ·cases x with
  | none=>
   have:=h3 rfl;have:l.length=0:=by omega
   exact absurd (List.eq_nil_of_length_eq_zero this) h0
  | some x=>
   refine wpList_copy_own hgd d s t t ho e U.ht hsz g 0 _ _ x _ _ hd hs _ _ hg (Lib.byteCells l) (by rw[aaf];exact (Nat.min_eq_left hl).symm) (fun j ar1 hj=>?_) (by simp[Lib.byteCells];omega) (fun ar1 hu=>?_) ?_
   ·have hjl:j<l.length:=by
     have:=(List.getElem?_eq_some_iff.1 hj).1;rwa [aaf] at this
    rw[aaO l j hjl] at hj;cases hj;exact h4 x rfl j hjl
   ·obtain ⟨b,_,rfl⟩:=List.mem_map.1 hu
    rfl
   ·have e1:(goInt (Lib.byteCells l).length)=.int .i64 (l.length:Int):=by rw[aaf];rfl
    rw[e1];refine h _ ?_ (But.setRow g w _);have hlt:=(Array.getElem?_eq_some_iff.1 hg);unfold By;rw[setRow_heap w g _ _ T _ hg];congr 2
    simp[Lib.byteCells,List.map_drop]
theorem adl (k:List UInt8):(keyB k).length=64:=by
 unfold keyB;split
 ·exact agz _ (by rw[aaP];omega)
 ·exact agz _ (by omega)
theorem anL (v:Value)(l:List UInt8)(w:World)(h:Rd w v l)(hl:l.length≤2000):
  Calls Tryz.prog 197 #[v] w fun e w'=>(∃ g,e=.returned (.slice (some ⟨g,0,none⟩) 64 64)∧By 5 w' g (keyB l)∧w.heap.size≤g)∧Kp w w':=by
 have U:=ar0;obtain ⟨a,c,rfl,h1,h2⟩:=h.shape;unfold maxLen at h2;have HF:Hid (∀ W:World,By 5 (W.alloc (.cells (Array.replicate 64 (.int .u8 0)) 5)) W.heap.size (List.replicate 64 0)):=fun W=>By.fresh _ _ _
 have hb:∀ k:List UInt8,k.length≤64→k++(List.replicate 64 (0:UInt8)).drop k.length=blkB k:=fun k hk=>by unfold blkB;rw[List.drop_replicate]
 have HB:=Lib.hid hb;clear hb;by_cases hlt:64<l.length
 ·have hK:keyB l=blkB (aaH l):=by unfold keyB;rw[if_pos hlt]
  have HK:=Lib.hid hK;have HD:=Lib.hid (aaP l);have hlt':64<(l.length:Int):=by omega
  clear hK;go_enter Tryz.func197,Tryz.ntmps197;go_wp2_with fail;refine (arB _ l _ h hl).mono ?_;rintro e w1 ⟨⟨a1,c1,rfl,r1⟩,k1⟩;go_wp2_with (first
   | (at_make;refine aaS (z:=.int .u8 0) (b:=1) Tryz.underlying24 Tryz.info5 rfl (by decide) rfl _ _ rfl 64 rfl rfl (by omega) ?_;intro w2 hw2;have hg2:By 5 w2 w1.heap.size (List.replicate 64 0):=(by rw[hw2];exact HF w1);have hk2:Kp w1 w2:=(by rw[hw2];exact (Kp.refl _).alloc _);clear hw2)
   | (refine abM U rfl (.tmp 10) (.tmp 11) rfl 5 w1.heap.size _ (aaH l) (List.replicate 64 0) 64 64 rfl rfl hg2 (by simp) (r1.kp hk2) (by rw[HD.out];omega) ?_;intro w3 hg3 hbut))
  go_ret;rw[HB.out _ (by rw[HD.out];omega)] at hg3;refine ⟨⟨_,rfl,by rw[HK.out];exact hg3,k1.size⟩,hbut.below (k1.trans hk2) k1.size⟩
 ·have hK:keyB l=blkB l:=by unfold keyB;rw[if_neg hlt]
  have HK:=Lib.hid hK;have hlt':¬64<(l.length:Int):=by omega
  clear hK;go_enter Tryz.func197,Tryz.ntmps197;go_wp2_with (first
   | (at_make;refine aaS (z:=.int .u8 0) (b:=1) Tryz.underlying24 Tryz.info5 rfl (by decide) rfl _ _ rfl 64 rfl rfl (by omega) ?_;intro w2 hw2;have hg2:By 5 w2 w.heap.size (List.replicate 64 0):=(by rw[hw2];exact HF w);have hk2:Kp w w2:=(by rw[hw2];exact (Kp.refl _).alloc _);clear hw2)
   | (refine abM U rfl (.tmp 10) (.tmp 11) rfl 5 w.heap.size _ l (List.replicate 64 0) 64 64 rfl rfl hg2 (by simp) (h.kp hk2) (by omega) ?_;intro w3 hg3 hbut))
  go_ret;rw[HB.out _ (by omega)] at hg3;refine ⟨⟨_,rfl,by rw[HK.out];exact hg3,Nat.le_refl _⟩,hbut.below hk2 (Nat.le_refl _)⟩
def catB (B:Nat→List UInt8):Nat→List UInt8
 | 0=>[]
 | i+1=>catB B i++B i
theorem acE (B:Nat→List UInt8)(h:∀ i,(B i).length=32):∀ N,(catB B N).length=32*N
 | 0=>rfl
 | N+1=>by rw[catB,List.length_append,acE B h N,h N];omega
theorem akA (B:Nat→List UInt8)(i k:Nat):∃ r,catB B (i+k)=catB B i++r:=by
 induction k with
 | zero=>exact ⟨[],by simp⟩
 | succ k ih=>obtain ⟨r,hr⟩:=ih;exact ⟨r++B (i+k),by rw[← Nat.add_assoc,catB,hr,List.append_assoc]⟩
def aeV (B:Nat→List UInt8)(n:Nat):List UInt8:=(catB B ((n+31) / 32)).take n
theorem agB (B:Nat→List UInt8)(h:∀ i,(B i).length=32)(n N:Nat)(hn:n≤32*N):aeV B n=(catB B N).take n:=by
 obtain ⟨r,hr⟩:=akA B ((n+31) / 32) (N - (n+31) / 32);have hle:(n+31) / 32≤N:=by omega
 rw[show (n+31) / 32+(N - (n+31) / 32)=N by omega] at hr;rw[hr,List.take_append_of_le_length (by rw[acE B h];omega)];rfl
theorem abN (B:Nat→List UInt8)(h:∀ i,(B i).length=32)(n:Nat):(aeV B n).length=n:=by
 unfold aeV;rw[List.length_take,acE B h];omega
theorem akB (B:Nat→List UInt8)(h:∀ i,(B i).length=32)(n i j:Nat)(hj:j<32)(hn:32*i+(j+1)=n):catB B i++(B i).take (j+1)=aeV B n:=by
 have e:n - 32*i=j+1:=by omega
 have hl:=acE B h i;rw[agB B h n (i+1) (by omega),catB,List.take_append,hl,e,List.take_of_length_le (l:=catB B i) (by omega)]
theorem akC (B:Nat→List UInt8):aeV B 0=[]:=rfl
theorem arf (B:Nat→List UInt8)(h:∀ i,(B i).length=32):aeV B 32=B 0:=by
 rw[agB B h 32 1 (by omega),catB,catB,List.nil_append,List.take_of_length_le (by rw[h];omega)]
theorem adm (k b:List UInt8):(macB k b).length=32:=aaP _
theorem apd (k:List UInt8):keyB (keyB k)=keyB k:=by
 have h:=adl k;obtain ⟨K,hK⟩:∃ K,keyB k=K:=⟨_,rfl⟩;rw[hK] at h ⊢;unfold keyB blkB;rw[if_neg (by omega),h];simp
theorem ape (k b:List UInt8):macB (keyB k) b=macB k b:=by unfold macB;rw[apd]
def expT (k info:List UInt8):Nat→List UInt8
 | 0=>macB k (info++be 1 1)
 | i+1=>macB k (expT k info i++info++be 1 (i+2))
theorem aba (k info:List UInt8):∀ i,(expT k info i).length=32
 | 0=>adm _ _
 | _+1=>adm _ _
def expP (k info:List UInt8):Nat→List UInt8
 | 0=>[]
 | i+1=>expT k info i
theorem ajE (k info:List UInt8)(i:Nat):expT k info i=macB k (expP k info i++info++be 1 (i+1)):=by
 cases i with
 | zero=>simp[expT,expP]
 | succ i=>rfl
theorem agC (k info:List UInt8):∀ i,(expP k info i).length≤32
 | 0=>by simp[expP]
 | i+1=>by rw[expP,aba];omega
def expL (k info:List UInt8)(n:Nat):List UInt8:=aeV (expT k info) n
end Go.Proofs.YthmhklmkgkfcpaaGreatDoor
namespace Go.Proofs.YthmhklmkgkfcpaaGreatDoor
def rowK (K:List UInt8)(n:Nat):List UInt8:=(K.drop (16*n)).take 16
theorem aaW {K:List UInt8}{n:Nat}(h:16*n+16≤K.length):(rowK K n).length=16:=by simp[rowK];omega
theorem abq {K:List UInt8}{n j:Nat}(hj:j<16):(rowK K n).getD j 0=K.getD (16*n+j) 0:=by
 unfold rowK;rw[List.getD_eq_getElem?_getD,List.getElem?_take_of_lt hj,List.getElem?_drop,List.getD_eq_getElem?_getD]
structure aqN (row:List UInt8)(r:UInt8)(N:List UInt8):Prop where
 len:N.length=16
 low:∀ j,j<4→N.getD j 0=row.getD j 0 ^^^ boxB (row.getD (12+(j+1) % 4) 0) ^^^ (if j=0 then r else 0)
 high:∀ j,4≤j→j<16→N.getD j 0=row.getD j 0 ^^^ N.getD (j - 4) 0
theorem aia (key:List UInt8)(n:Nat):∀ d i,i<key.length+n→(acl key (n+d)).getD i 0=(acl key n).getD i 0
 | 0,i,_=>rfl
 | d+1,i,h=>by
  show (acl key (n+d)++[afv (acl key (n+d))]).getD i 0=_
  rw[List.getD_eq_getElem?_getD,List.getElem?_append_left (by rw[abp];omega),← List.getD_eq_getElem?_getD,aia key n d i h]
theorem acR {key:List UInt8}(h:key.length=16):(ad1 key).length=176:=by rw[ad1,abp,h]
theorem agK {key:List UInt8}(h:key.length=16)(k i:Nat)(hk:k≤160)(hi:i<16+k):(ad1 key).getD i 0=(acl key k).getD i 0:=by
 have:=aia key k (160 - k) i (by omega);rwa [show k+(160 - k)=160 by omega] at this
theorem amg {key:List UInt8}(h:key.length=16)(k:Nat)(hk:k<160):(ad1 key).getD (16+k) 0=afv (acl key k):=by
 rw[agK h (k+1) (16+k) (by omega) (by omega),acl,List.getD_eq_getElem?_getD,List.getElem?_append_right (by rw[abp];omega),abp,h,Nat.sub_self];rfl
theorem akH {key:List UInt8}(h:key.length=16):rowK (ad1 key) 0=key:=by
 refine afu 16 _ _ (aaW (by rw[acR h];omega)) h fun i hi=>?_
 rw[abq hi,agK h 0 _ (by omega) (by omega)];simp[acl]
theorem an0 {key:List UInt8}(h:key.length=16)(n:Nat)(hn:n<10):aqN (rowK (ad1 key) n) (rcon n) (rowK (ad1 key) (n+1)):=by
 have hm:∀ j,j<16→(ad1 key).getD (16*(n+1)+j) 0=afv (acl key (16*n+j)):=fun j hj=>by
  rw[← amg h (16*n+j) (by omega)];congr 1
  omega
 have hl:∀ j,j<16→(acl key (16*n+j)).length=16*(n+1)+j:=fun j hj=>by rw[abp,h];omega
 have hg:∀ j i,j<16→i<16*(n+1)+j→(acl key (16*n+j)).getD i 0=(ad1 key).getD i 0:=fun j i hj hi=>(agK h (16*n+j) i (by omega) (by omega)).symm
 refine ⟨aaW (by rw[acR h];omega),fun j hj=>?_,fun j h4 hj=>?_⟩
 ·rw[abq (by omega),abq (by omega),abq (by omega),hm j (by omega)]
  unfold afv;simp only[hl j (by omega)];have e1:(16*(n+1)+j) / 4=4*(n+1):=by omega
  have e2:(16*(n+1)+j) % 4=j:=by omega
  have c1:4*(n+1) % 4=0:=by omega
  rw[e1,e2];simp only[c1,if_true,true_and];have e3:4*(n+1) / 4 - 1=n:=by omega
  rw[e3,hg j _ (by omega) (by omega),hg j _ (by omega) (by omega),show 4*(4*(n+1)) - 16+j=16*n+j by omega,show 4*(4*(n+1)) - 4+(j+1) % 4=16*n+(12+(j+1) % 4) by omega];by_cases h0:j=0
  ·rw[if_pos h0,if_pos h0,UInt8.xor_assoc]
  ·rw[if_neg h0,if_neg h0,UInt8.xor_zero]
 ·rw[abq (by omega),abq (by omega),abq (by omega),hm j (by omega)]
  unfold afv;simp only[hl j (by omega)];have c1:¬(16*(n+1)+j) / 4 % 4=0:=by omega
  simp only[c1,if_false,false_and];rw[hg j _ (by omega) (by omega),hg j _ (by omega) (by omega),show 4*((16*(n+1)+j) / 4) - 16+(16*(n+1)+j) % 4=16*n+j by omega,show 4*((16*(n+1)+j) / 4) - 4+(16*(n+1)+j) % 4=16*(n+1)+(j - 4) by omega]
theorem ad2 (A B:List UInt8)(i j:Nat)(h:A.length=B.length)(hi:i≤A.length):(mixB A B i).getD j 0=if j<i then B.getD j 0 else A.getD j 0:=by
 unfold mixB;have hl:(B.take i).length=i:=by simp;omega
 by_cases hj:j<i
 ·rw[if_pos hj,List.getD_eq_getElem?_getD,List.getElem?_append_left (by omega),List.getElem?_take_of_lt hj,List.getD_eq_getElem?_getD]
 ·rw[if_neg hj,List.getD_eq_getElem?_getD,List.getElem?_append_right (by omega),hl,List.getElem?_drop,List.getD_eq_getElem?_getD,show i+(j - i)=j by omega]
def adq (row:List UInt8):List UInt8:=tab 16 fun j=>row.getD j 0 ^^^ boxB (row.getD (12+(j+1) % 4) 0)
theorem abF (row:List UInt8):(adq row).length=16:=aa6 _ _
theorem amh (row:List UInt8)(j:Nat)(h:j<16):(adq row)[j]?=some (row.getD j 0 ^^^ boxB (row.getD (12+(j+1) % 4) 0)):=by simp[adq,tab,h]
theorem an1 {row N:List UInt8}{r:UInt8}(hr:row.length=16)(h:aqN row r N):(mixB row (adq row) 4).set 0 ((adq row).getD 0 0 ^^^ r)=mixB row N 4:=by
 have h1:(mixB row (adq row) 4).length=16:=by rw[aaV _ _ 4 (by rw[hr,abF]) (by omega),hr]
 have h2:(mixB row N 4).length=16:=by rw[aaV _ _ 4 (by rw[hr,h.len]) (by omega),hr]
 refine afu 16 _ _ (by rw[List.length_set,h1]) h2 fun i hi=>?_
 rw[ad2 row N 4 i (by rw[hr,h.len]) (by omega)];by_cases h0:i=0
 ·subst h0
  rw[List.getD_eq_getElem?_getD,List.getElem?_set_self (by omega),if_pos (by omega),h.low 0 (by omega),if_pos rfl];show (adq row).getD 0 0 ^^^ r=_
  unfold adq;rw[adp 16 _ 0 (by omega)]
 ·rw[List.getD_eq_getElem?_getD,List.getElem?_set_ne (by omega),← List.getD_eq_getElem?_getD,ad2 row (adq row) 4 i (by rw[hr,abF]) (by omega)]
  by_cases h4:i<4
  ·rw[if_pos h4,if_pos h4,h.low i h4,if_neg h0,UInt8.xor_zero]
   unfold adq;rw[adp 16 _ i (by omega)]
  ·rw[if_neg h4,if_neg h4]
end Go.Proofs.YthmhklmkgkfcpaaGreatDoor
namespace Go.Proofs.YthmhklmkgkfcpaaGreatDoor
open Go.RowKit
def ctrB (nonce:List UInt8)(q:Nat):List UInt8:=nonce++be 4 (q+1)
def strF (K nonce b:List UInt8)(j:Nat):UInt8:=b.getD j 0 ^^^ (aiC K (ctrB nonce (j / 16))).getD (j % 16) 0
def strL (K nonce b:List UInt8):List UInt8:=tab b.length (strF K nonce b)
def strE (key nonce:List UInt8):Int:=if key.length=16∧nonce.length=12 then 0 else 1
def strR (key nonce b:List UInt8):List UInt8:=if key.length=16∧nonce.length=12 then strL (ad1 key) nonce b else []
theorem acG (K nonce b:List UInt8):(strL K nonce b).length=b.length:=aa6 _ _
theorem akI (nonce:List UInt8)(q:Nat):(ctrB nonce q).length=nonce.length+4:=by simp[ctrB,aak]
theorem alD (K nonce b:List UInt8)(j:Nat)(h:j<b.length):(strL K nonce b).getD j 0=strF K nonce b j:=adp _ _ _ h
theorem an2 (K nonce b:List UInt8)(j:Nat)(h:j<b.length):(strL K nonce b)[j]?=some (strF K nonce b j):=by simp[strL,tab,h]
theorem agL {P:Program}{w:World}{t e:TypeId}(U:U8 P t e){ops:Array Oper}{rest:List Oper}{o:Oper}{a:Act}{Q:Exit→Act→World→Prop}(hgd:o.guard=none)(d s:Operand)
  (ho:o.op=.call { callee:=.builtin .copy,args:=#[d,s],argTypes:=#[t,t] })
  (T:TypeId) (g off:Nat) (v:Value) (l m:List UInt8) (c n:Nat) (hd:a.eval d=.slice (some ⟨g,off,none⟩) n c) (hs:a.eval s=v) (hg:By T w g m) (hr:Rd w v l) (hl:l.length≤n) (h0:0<l.length) (hm:off+l.length≤m.length)
  (h:∀ w',By T w' g (m.take off++(l++m.drop (off+l.length)))→But g w w'→wpList P ops Q rest (a.put o.dst (.int .i64 (l.length:Int))) w'):wpList P ops Q (o :: rest) a w:=by
 obtain ⟨i,hi,hz,hsize,hby⟩:=U.hi
 have hsz:(P.info? e).map (·.size)=some 1:=by rw[hi];simp[hsize]
 obtain ⟨x,cc,rfl,h1,h2,h3,h4⟩:=hr
 cases x with
 | none=>
  have:=h3 rfl
  omega
 | some x=>
  refine wpList_copy_own hgd d s t t ho e U.ht hsz g off _ _ x _ _ hd hs _ _ hg (Lib.byteCells l) (by rw[aaf];exact (Nat.min_eq_left hl).symm) (fun j ar1 hj=>?_) (by simp[Lib.byteCells];omega) (fun ar1 hu=>?_) ?_
  ·have hjl:j<l.length:=by
    have:=(List.getElem?_eq_some_iff.1 hj).1
    rwa [aaf] at this
   rw[aaO l j hjl] at hj
   cases hj
   exact h4 x rfl j hjl
  ·obtain ⟨b,_,rfl⟩:=List.mem_map.1 hu
   rfl
  ·have e1:(goInt (Lib.byteCells l).length)=.int .i64 (l.length:Int):=by rw[aaf];rfl
   rw[e1]
   refine h _ ?_ (But.setRow g w _)
   unfold By
   rw[setRow_heap w g _ _ T _ hg]
   congr 2
   simp[Lib.byteCells,List.map_drop,List.map_take]
structure arN (p:Prop):Prop where
 out:p
theorem later {G p:Prop}(ways:arN G→p)(rest:arN G):p:=ways rest
structure Wr (g:Nat)(A B:World):Prop where
 os:B.os=A.os
 tape:B.tape=A.tape
 output:B.output=A.output
 size:A.heap.size≤B.heap.size
 block:∀ k,k<A.heap.size→k≠g→B.heap[k]?=A.heap[k]?
theorem Wr.refl (g:Nat)(A:World):Wr g A A:=⟨rfl,rfl,rfl,Nat.le_refl _,fun _ _ _=>rfl⟩
theorem Wr.trans {g:Nat}{A B C:World}(h:Wr g A B)(k:Wr g B C):Wr g A C:=
 ⟨k.os.trans h.os,k.tape.trans h.tape,k.output.trans h.output,Nat.le_trans h.size k.size,fun i hi hy=>(k.block i (Nat.lt_of_lt_of_le hi h.size) hy).trans (h.block i hi hy)⟩
theorem Wr.of_kp {g:Nat}{A B:World}(h:Kp A B):Wr g A B:=⟨h.os,h.tape,h.output,h.size,fun k hk _=>h.block k hk⟩
theorem Wr.setCell {g:Nat}{A B:World}(h:Wr g A B)(i:Nat)(v:Value):Wr g A (B.setCell ⟨g,i,none⟩ v):=
 ⟨h.os,h.tape,h.output,by simpa using h.size,fun k hk hn=>(Below.heap_setCell B ⟨g,i,none⟩ v k hn).trans (h.block k hk hn)⟩
theorem Wr.drew {g:Nat}{A B:World}(h:Wr g A B):Wr g A B.drew:=h.trans (Wr.of_kp (Kp.refl B).drew)
theorem Wr.below {g n:Nat}{A B:World}(h:Wr g A B)(hn:n≤A.heap.size)(hg:n≤g):Below n A B:=
 ⟨h.os,h.tape,h.output,h.size,fun k hk=>h.block k (by omega) (by omega)⟩
theorem Wr.cell {g:Nat}{A B:World}(h:Wr g A B){p:Addr}{v:Value}(hv:A.cell? p=some v)(hp:p.block≠g):B.cell? p=some v:=
 (World.cell?_of_block (w:=A) (h.block p.block (World.block_lt_of_cell? A p hv) hp)).trans hv
theorem Wr.by {g k:Nat}{A B:World}{T:TypeId}{l:List UInt8}(h:Wr g A B)(hb:By T A k l)(hk:k≠g):By T B k l:=(h.block k hb.lt hk).trans hb
theorem By.drew {T:TypeId}{w:World}{g:Nat}{l:List UInt8}(h:By T w g l):By T w.drew g l:=h
theorem By.made (T:TypeId)(w:World)(cs:Array Value)(l:List UInt8)(h:cs=aax l):By T (w.alloc (.cells cs T)) w.heap.size l:=by
 subst h;exact By.new T w l
def Lies (w:World)(b o:Nat)(l:List UInt8):Prop:=∀ i,i<l.length→w.cell? ⟨b,o+i,none⟩=some (.int .u8 ((l.getD i 0).toNat:Int))
theorem Lies.wr {g b o:Nat}{A B:World}{l:List UInt8}(h:Lies A b o l)(k:Wr g A B)(hb:b≠g):Lies B b o l:=fun i hi=>k.cell (h i hi) hb
theorem Lies.kp {b o:Nat}{A B:World}{l:List UInt8}(h:Lies A b o l)(k:Kp A B):Lies B b o l:=fun i hi=>k.cell (h i hi)
theorem ae7 (A B:List UInt8)(i j:Nat)(h:A.length=B.length)(hi:i≤A.length)(hj:i≤j):(mixB A B i).getD j 0=A.getD j 0:=by
 unfold mixB;have hl:(B.take i).length=i:=by simp;omega
 rw[List.getD_eq_getElem?_getD,List.getElem?_append_right (by omega),hl,List.getElem?_drop,List.getD_eq_getElem?_getD,show i+(j - i)=j by omega]
def addR (s r:List UInt8):List UInt8:=tab 16 fun i=>s.getD i 0 ^^^ r.getD i 0
theorem adC (s r:List UInt8):(addR s r).length=16:=aa6 _ _
theorem alM (n:Nat)(f:Nat→UInt8)(i:Nat)(h:i<n):(tab n f)[i]?=some (f i):=by simp[tab,h]
theorem ak3 (gs gr o:Nat)(s r:List UInt8)(w:World)(hs:s.length=16)(hr:r.length=16)(hne:gr≠gs)(hB:By 231 w gs s)(hR:Lies w gr o r):
  Calls Tryz.prog 241 #[.pointer (some ⟨gs,0,none⟩),.pointer (some ⟨gr,o,none⟩)] w fun e w'=>e=.returned (.tuple #[])∧By 231 w' gs (addR s r)∧Wr gs w w':=by
 have HN:Hid (∀ i,i<16→(mixB s (addR s r) i).set i (s.getD i 0 ^^^ r.getD i 0)=mixB s (addR s r) (i+1)):=fun i hi=>
  acm _ _ i (by rw[adC,hs]) (by rw[hs];exact hi) _ (alM 16 _ i hi)
 have HG:Hid (∀ i,i<16→(mixB s (addR s r) i).getD i 0=s.getD i 0):=fun i hi=>ae7 _ _ i i (by rw[adC,hs]) (by omega) (Nat.le_refl _)
 have HL:Hid (∀ i,i≤16→(mixB s (addR s r) i).length=16):=fun i hi=>by rw[aaV _ _ i (by rw[adC,hs]) (by omega),hs]
 have HA:Hid (mixB s (addR s r) 16=addR s r):=adi _ _ (by rw[adC,hs]);have hB0:By 231 w gs (mixB s (addR s r) 0):=by rw[show mixB s (addR s r) 0=s by simp[mixB]];exact hB
 generalize hM:mixB s (addR s r)=M at *;generalize addR s r=X at *;clear hM hB;go_enter Tryz.func241,Tryz.ntmps241;go_wp2_with fail;go_loopw[5] (fun p wr=>∃ i:Nat,i≤16∧p=.int .i64 i∧By 231 wr gs (M i)∧Wr gs w wr) (fun p _=>16 - (intOf p).toNat)
 case atStart=>exact ⟨0,by omega,rfl,hB0,Wr.refl _ _⟩
 case round=>
  clear hB0;obtain ⟨i,hi,rfl,hB,hw⟩:=hrel;by_cases hlt:i<16
  ·have hq:(i:Int)<16:=by omega
   have c1:=hB.cell i (by rw[HL.out i hi];exact hlt);have f1:=hB.frozen i;rw[HG.out i hlt] at c1;have c2:=(hR.wr hw hne) i (by omega);have hx:=abs (s.getD i 0) (r.getD i 0);have hn:=HN.out i hlt;generalize s.getD i 0=U at *;generalize r.getD i 0=V at *;generalize U ^^^ V=Z at *;have HZ:=Lib.hid hn;clear hn;go_wp2_with fail;go_region
   all_goals
    go_wp2_with fail;go_roundw
    case rel=>exact ⟨i+1,by omega,by go_num,(hB.set i _ HZ.out).drew,(hw.setCell i _).drew⟩
    case measure=>simp[intOf];omega
  ·obtain rfl:i=16:=by omega
   rw[HA.out] at hB;go_wp2_with fail;go_end0
   exact ⟨rfl,hB,hw⟩
theorem aos:∀ i,i<16→(5*i) % 16=anY i:=by
 have:∀ i:Fin 16,(5*i.1) % 16=anY i.1:=by decide
 exact fun i hi=>this ⟨i,hi⟩
theorem acL (s:List UInt8):(subS s).length=16:=aa6 _ _
theorem apL (gc gs bx:Nat)(s:List UInt8)(w:World)(hs:s.length=16)(hcs:gc≠gs)(hbs:bx≠gs)(hC:w.cell? ⟨gc,0,none⟩=some (.pointer (some ⟨bx,0,none⟩)))(hX:By 283 w bx aeq)(hB:By 231 w gs s):
  Calls Tryz.prog 242 #[.pointer (some ⟨gc,0,none⟩),.pointer (some ⟨gs,0,none⟩)] w fun e w'=>e=.returned (.tuple #[])∧By 231 w' gs (subS s)∧Wr gs w w':=by
 have HN:Hid (∀ i,i<16→(mixB s (subS s) i).set i (boxB (s.getD (anY i) 0))=mixB s (subS s) (i+1)):=fun i hi=>
  acm _ _ i (by rw[acL,hs]) (by rw[hs];exact hi) _ (alM 16 _ i hi)
 have HL:Hid (∀ i,i≤16→(mixB s (subS s) i).length=16):=fun i hi=>by rw[aaV _ _ i (by rw[acL,hs]) (by omega),hs]
 have HA:Hid (mixB s (subS s) 16=subS s):=adi _ _ (by rw[acL,hs]);have h0:mixB s (subS s) 0=s:=by simp[mixB]
 generalize hM:mixB s (subS s)=M at *;generalize subS s=X at *;have H0:=Lib.hid h0;clear hM h0;go_enter Tryz.func242,Tryz.ntmps242;go_wp2_with (first
  | (refine ab8 Tryz.underlying231 (by kernel_rfl) rfl (.tmp 7) rfl gs s rfl hB hs ?_)
  | (refine acK (by kernel_rfl) rfl rfl (.tmp 4) (.tmp 8) rfl w.heap.size (List.replicate 16 0) s rfl rfl (By.made _ _ _ _ rfl) (by decide) hs ?_;intro w1 hO hbut))
 have k1:Kp w w1:=hbut.below ((Kp.refl w).alloc _) (Nat.le_refl _);have hso:gs<w.heap.size:=hB.lt;have hB1:=hB.kp k1;have hC1:=k1.cell hC;have hX1:=hX.kp k1;rw[← H0.out] at hB1;clear hbut hB hC hX;have hog:w.heap.size≠gs:=by omega
 go_loopw[9] (fun p wr=>∃ i:Nat,i≤16∧p=.int .i64 i∧By 231 wr gs (M i)∧Wr gs w1 wr) (fun p _=>16 - (intOf p).toNat)
 case atStart=>exact ⟨0,by omega,rfl,hB1,Wr.refl _ _⟩
 case round=>
  clear hB1;obtain ⟨i,hi,rfl,hB,hw⟩:=hrel;by_cases hlt:i<16
  ·have hq:(i:Int)<16:=by omega
   have hg:=hB.cell i (by rw[HL.out i hi];exact hlt);have f1:=hB.frozen i;have c1:=hw.cell hC1 hcs;obtain ⟨m,hm⟩:∃ m,anY i=m:=⟨_,rfl⟩
   have h5:=aos i hlt;rw[hm] at h5;have hm16:m<16:=by omega
   have c2:=(hw.by hO hog).cell m (by omega);have hn:=HN.out i hlt;rw[hm] at hn;have c3:=(hw.by hX1 hbs).cell (s.getD m 0).toNat (by rw[adB];exact adP _);rw[aih] at c3;have hxl:=adP (s.getD m 0);have hx2:((s.getD m 0).toNat:Int)<256:=by omega
   generalize s.getD m 0=U at *;generalize boxB U=Z at *;have HZ:=Lib.hid hn;have i1:IntKind.i64.wrap (5*(i:Int))=5*(i:Int):=IntWalk.i64_in _ (by omega);have i2:(5*(i:Int)).tmod 16=(m:Int):=by rw[Int.tmod_eq_emod_of_nonneg (by omega)];omega
   have i3:(5*(i:Int)) % 16=(m:Int):=by omega
   have i4:(m:Int)<16:=by omega
   have i5:0≤(m:Int):=by omega
   clear hn hm h5;go_wp2_with fail;go_region
   all_goals
    go_wp2_with fail;go_roundw
    case rel=>exact ⟨i+1,by omega,by go_num,by first | exact hB.set i _ HZ.out | exact (hB.set i _ HZ.out).drew,by first | exact hw.setCell i _ | exact (hw.setCell i _).drew⟩
    case measure=>simp[intOf];omega
  ·obtain rfl:i=16:=by omega
   rw[HA.out] at hB;go_wp2_with fail;go_end0
   exact ⟨rfl,hB,(Wr.of_kp k1).trans hw⟩
theorem agf (a b c d:UInt8):mix4 a b c d=a ^^^ (a ^^^ b ^^^ c ^^^ d ^^^ mulB (a ^^^ b) 2):=by
 unfold mix4;rw[show (3:UInt8)=1 ^^^ 2 by decide,aiB,alC,anW];have:∀ x y z ar1 v w:UInt8,x ^^^ (y ^^^ z) ^^^ ar1 ^^^ v=w ^^^ (w ^^^ y ^^^ ar1 ^^^ v ^^^ (x ^^^ z)):=by
  intro x y z ar1 v w;have e:w ^^^ (w ^^^ y ^^^ ar1 ^^^ v ^^^ (x ^^^ z))=(w ^^^ w) ^^^ (x ^^^ (y ^^^ z) ^^^ ar1 ^^^ v):=by ac_rfl
  rw[e,UInt8.xor_self,UInt8.zero_xor]
 exact this _ _ _ _ _ _
theorem aq6 (a b c d:UInt8):mix4 b c d a=b ^^^ (a ^^^ b ^^^ c ^^^ d ^^^ mulB (b ^^^ c) 2)∧mix4 c d a b=c ^^^ (a ^^^ b ^^^ c ^^^ d ^^^ mulB (c ^^^ d) 2)∧mix4 d a b c=d ^^^ (a ^^^ b ^^^ c ^^^ d ^^^ mulB (d ^^^ a) 2):=by
 rw[agf,agf,agf,show b ^^^ c ^^^ d ^^^ a=a ^^^ b ^^^ c ^^^ d by ac_rfl,show c ^^^ d ^^^ a ^^^ b=a ^^^ b ^^^ c ^^^ d by ac_rfl,show d ^^^ a ^^^ b ^^^ c=a ^^^ b ^^^ c ^^^ d by ac_rfl];exact ⟨rfl,rfl,rfl⟩
theorem agh (l:List UInt8)(i j:Nat)(x:UInt8)(hi:i<l.length):(l.set i x).getD j 0=if j=i then x else l.getD j 0:=by
 by_cases e:j=i
 ·subst e
  simp[List.getD_eq_getElem?_getD,hi]
 ·rw[if_neg e]
  simp[List.getD_eq_getElem?_getD,List.getElem?_set,Ne.symm e]
def ag1 (t:List UInt8)(i:Nat)(l:List UInt8):Prop:=l.length=16∧∀ m,m<16→l.getD m 0=if m<i then (mixS t).getD m 0 else t.getD m 0
theorem ag1.begin {t:List UInt8}(h:t.length=16):ag1 t 0 t:=⟨h,fun m _=>by rw[if_neg (by omega)]⟩
theorem agi (t:List UInt8)(n k:Nat)(hn:n<4)(hk:k<4):(mixS t).getD (4*n+k) 0=mix4 (t.getD (4*n+k) 0) (t.getD (4*n+(k+1) % 4) 0) (t.getD (4*n+(k+2) % 4) 0) (t.getD (4*n+(k+3) % 4) 0):=by
 unfold mixS;rw[adp 16 _ (4*n+k) (by omega)];unfold at4;rw[show (4*n+k) / 4=n by omega,show (4*n+k) % 4=k by omega,Nat.add_zero,Nat.mod_eq_of_lt hk]
theorem ag1.next {t l:List UInt8}{n:Nat}(h:ag1 t (4*n) l)(hn:n<4)(a b c d:UInt8)(ha:t.getD (4*n) 0=a)(hb:t.getD (4*n+1) 0=b)(hc:t.getD (4*n+2) 0=c)(hd:t.getD (4*n+3) 0=d):
  ag1 t (4*(n+1)) ((((l.set (4*n) (mix4 a b c d)).set (4*n+1) (mix4 b c d a)).set (4*n+2) (mix4 c d a b)).set (4*n+3) (mix4 d a b c)):=by
 obtain ⟨h1,h2⟩:=h;refine ⟨by simp[h1],fun m hm=>?_⟩;have k0:=agi t n 0 hn (by omega);have k1:=agi t n 1 hn (by omega);have k2:=agi t n 2 hn (by omega);have k3:=agi t n 3 hn (by omega);simp only[Nat.add_zero,Nat.zero_add,Nat.reduceAdd,Nat.reduceMod,ha,hb,hc,hd] at k0 k1 k2 k3;rw[agh _ _ _ _ (by simp[h1];omega),agh _ _ _ _ (by simp[h1];omega),agh _ _ _ _ (by simp[h1];omega),agh _ _ _ _ (by rw[h1];omega),h2 m hm];by_cases e3:m=4*n+3
 ·subst e3;rw[if_pos rfl,if_pos (by omega),k3]
 ·rw[if_neg e3]
  by_cases e2:m=4*n+2
  ·subst e2;rw[if_pos rfl,if_pos (by omega),k2]
  ·rw[if_neg e2]
   by_cases e1:m=4*n+1
   ·subst e1;rw[if_pos rfl,if_pos (by omega),k1]
   ·rw[if_neg e1]
    by_cases e0:m=4*n
    ·subst e0;rw[if_pos rfl,if_pos (by omega),k0]
    ·rw[if_neg e0]
     by_cases hlt:m<4*n
     ·rw[if_pos hlt,if_pos (by omega)]
     ·rw[if_neg hlt,if_neg (by omega)]
theorem ag1.all {t l:List UInt8}(h:ag1 t (4*4) l):l=mixS t:=
 afu 16 _ _ h.1 (aa6 _ _) fun i hi=>by rw[h.2 i hi,if_pos (by omega)]
theorem ak4 (t:List UInt8):(mixS t).length=16:=aa6 _ _
theorem amI {P:Program}{T ty e:TypeId}{n:Nat}(hu:P.underlying ty=some (.array n e))(hi:(P.info? ty).map (·.size)=some n){fn:Func}{p:Tmp}(hr:fn.results=#[.cell p ty])(tmps:Array Value)(w:World)(g:Nat)(l:List UInt8)
  (hp:tmps.getD p undef=.pointer (some ⟨g,0,none⟩)) (h:By T w g l) (hl:l.length=n):(results fn tmps).run P w=.ok (.agg (aax l)) w:=
 results_cell_row hr tmps w g T (aax l) (0,0) _ hp h hu rfl (by rw[hi,abd,hl])
theorem apM (gc bx:Nat)(row N:List UInt8)(r:UInt8)(w:World)(hr:row.length=16)(hN:aqN row r N)(hC:w.cell? ⟨gc,0,none⟩=some (.pointer (some ⟨bx,0,none⟩)))(hX:By 283 w bx aeq):
  Calls Tryz.prog 239 #[.pointer (some ⟨gc,0,none⟩),.agg (aax row),.int .u8 (r.toNat:Int)] w fun e w'=>e=.returned (.agg (aax N))∧Kp w w':=by
 have HSet:=Lib.hid (an1 hr hN);have H1:Hid (∀ i,i<4→(mixB row (adq row) i).set i (row.getD i 0 ^^^ boxB (row.getD (12+(i+1) % 4) 0))=mixB row (adq row) (i+1)):=fun i hi=>acm _ _ i (by rw[hr,abF]) (by omega) _ (amh row i (by omega))
 have G1:Hid (∀ i j,i≤4→i≤j→(mixB row (adq row) i).getD j 0=row.getD j 0):=fun i j hi hj=>ae7 _ _ i j (by rw[hr,abF]) (by omega) hj
 have L1:Hid (∀ i,i≤4→(mixB row (adq row) i).length=16):=fun i hi=>by rw[aaV _ _ i (by rw[hr,abF]) (by omega),hr]
 have Z1:Hid ((mixB row (adq row) 4).getD 0 0=(adq row).getD 0 0):=by
  refine (ad2 _ _ 4 0 (by rw[hr,abF]) (by omega)).trans ?_;rw[if_pos (by omega)]
 have h0:mixB row (adq row) 0=row:=by simp[mixB]
 have H2:Hid (∀ i,i<12→(mixB row N (i+4)).set (i+4) (row.getD (i+4) 0 ^^^ N.getD i 0)=mixB row N (i+1+4)):=fun i hi=>by
  have hh:=hN.high (i+4) (by omega) (by omega);rw[Nat.add_sub_cancel] at hh;rw[show i+1+4=i+4+1 by omega];refine acm _ _ (i+4) (by rw[hr,hN.len]) (by omega) _ ?_;rw[← hh,List.getD_eq_getElem?_getD,List.getElem?_eq_getElem (by rw[hN.len];omega)];rfl
 have G2:Hid (∀ i,i<12→(mixB row N (i+4)).getD (i+4) 0=row.getD (i+4) 0∧(mixB row N (i+4)).getD i 0=N.getD i 0):=fun i hi=>by
  rw[ad2 _ _ (i+4) _ (by rw[hr,hN.len]) (by omega),ad2 _ _ (i+4) _ (by rw[hr,hN.len]) (by omega),if_neg (by omega),if_pos (by omega)];exact ⟨rfl,rfl⟩
 have L2:Hid (∀ i,i≤12→(mixB row N (i+4)).length=16):=fun i hi=>by rw[aaV _ _ (i+4) (by rw[hr,hN.len]) (by omega),hr]
 have A2:Hid (mixB row N (12+4)=N):=by
  have:=adi row N (by rw[hr,hN.len]);rw[hN.len] at this;exact this
 have B0:By 231 (w.alloc (.cells (aax row) 231)) w.heap.size (mixB row (adq row) 0):=by
  rw[h0];exact By.new _ w row
 generalize adq row=M at *;have LN:=hN.len;clear hN h0;go_enter Tryz.func239,Tryz.ntmps239;go_wp2_with fail;have B1:=B0.kp ((Kp.refl _).alloc (.cells (aax (List.replicate 16 0)) 231));have R1:=By.new 231 (w.alloc (.cells (aax row) 231)) (List.replicate 16 0);rw[World.size_alloc] at R1;have k1:Kp w ((w.alloc (.cells (aax row) 231)).alloc (.cells (aax (List.replicate 16 0)) 231)):=((Kp.refl w).alloc _).alloc _;have e16:aax (List.replicate 16 0)=#[Value.int IntKind.u8 0,Value.int IntKind.u8 0,Value.int IntKind.u8 0,Value.int IntKind.u8 0,Value.int IntKind.u8 0,Value.int IntKind.u8 0,Value.int IntKind.u8 0,Value.int IntKind.u8 0,Value.int IntKind.u8 0,Value.int IntKind.u8 0,Value.int IntKind.u8 0,Value.int IntKind.u8 0,Value.int IntKind.u8 0,Value.int IntKind.u8 0,Value.int IntKind.u8 0,Value.int IntKind.u8 0]:=rfl;rw[e16] at B1 R1 k1;obtain ⟨W1,hW1⟩:∃ W,(w.alloc (.cells (aax row) 231)).alloc (.cells #[Value.int IntKind.u8 0,Value.int IntKind.u8 0,Value.int IntKind.u8 0,Value.int IntKind.u8 0,Value.int IntKind.u8 0,Value.int IntKind.u8 0,Value.int IntKind.u8 0,Value.int IntKind.u8 0,Value.int IntKind.u8 0,Value.int IntKind.u8 0,Value.int IntKind.u8 0,Value.int IntKind.u8 0,Value.int IntKind.u8 0,Value.int IntKind.u8 0,Value.int IntKind.u8 0,Value.int IntKind.u8 0] 231)=W:=⟨_,rfl⟩;rw[hW1] at B1 R1 k1 ⊢;have C1:=k1.cell hC;have X1:=hX.kp k1;have hbw:bx<w.heap.size:=hX.lt;have hcw:gc<w.heap.size:=World.block_lt_of_cell? w _ hC;clear hW1 e16 B0 hC hX;go_loopw[11] (fun p wr=>∃ i:Nat,i≤4∧p=.int .i64 i∧By 231 wr w.heap.size (mixB row M i)∧Wr w.heap.size W1 wr) (fun p _=>4 - (intOf p).toNat)
 case atStart=>exact ⟨0,by omega,rfl,B1,Wr.refl _ _⟩
 case round=>
  clear B1;obtain ⟨i,hi,rfl,hB,hw⟩:=hrel;by_cases hlt:i<4
  ·have hq:(i:Int)<4:=by omega
   have hq16:(i:Int)<16:=by omega
   obtain ⟨m,hm⟩:∃ m,(i+1) % 4=m:=⟨_,rfl⟩;have hm4:m<4:=by omega
   have c1:=hB.cell i (by rw[L1.out i hi];omega);rw[G1.out i i hi (Nat.le_refl _)] at c1;have c2:=hB.cell (12+m) (by rw[L1.out i hi];omega);rw[G1.out i (12+m) hi (by omega)] at c2;have f1:=hB.frozen i;have c3:=hw.cell C1 (by show gc≠w.heap.size;omega);have c4:=(hw.by X1 (by omega)).cell (row.getD (12+m) 0).toNat (by rw[adB];exact adP _);rw[aih] at c4;have hn:=H1.out i hlt;rw[hm] at hn;have hx:=abs (row.getD i 0) (boxB (row.getD (12+m) 0));have hxl:=adP (row.getD (12+m) 0);have hx2:((row.getD (12+m) 0).toNat:Int)<256:=by omega
   generalize row.getD (12+m) 0=U at *;generalize row.getD i 0=V at *;generalize boxB U=Z at *;generalize V ^^^ Z=Y at *;have HN:=Lib.hid hn;have i1:IntKind.i64.wrap ((i:Int)+1)=(i:Int)+1:=IntWalk.i64_in _ (by omega);have i2:((i:Int)+1).tmod 4=(m:Int):=by rw[Int.tmod_eq_emod_of_nonneg (by omega)];omega
   have i3:((i:Int)+1) % 4=(m:Int):=by omega
   have i4:(m:Int)<4:=by omega
   have i5:0≤(m:Int):=by omega
   clear hn hm hxl;go_wp2_with fail;go_region
   all_goals
    go_wp2_with fail;go_roundw
    case rel=>exact ⟨i+1,by omega,by go_num,(hB.set i _ HN.out).drew,(hw.setCell i _).drew⟩
    case measure=>simp[intOf];omega
  ·obtain rfl:i=4:=by omega
   have c0:=hB.cell 0 (by rw[L1.out 4 hi];omega);rw[Z1.out] at c0;have f0:=hB.frozen 0;have hx:=abs (M.getD 0 0) r;have hB2:=hB.set 0 _ HSet.out;have hw2:=hw.setCell 0 (.int .u8 ((M.getD 0 0 ^^^ r).toNat:Int));generalize M.getD 0 0 ^^^ r=Y at *;generalize M.getD 0 0=V at *;clear HSet H1 G1 L1 Z1 hB hw;go_wp2_with fail;generalize wr.setCell ⟨w.heap.size,0,none⟩ (.int .u8 (Y.toNat:Int))=W2 at *;clear c0 f0 hx;go_loopw[38] (fun p wr=>∃ i:Nat,i≤12∧p=.int .i64 i∧By 231 wr w.heap.size (mixB row N (i+4))∧Wr w.heap.size W1 wr) (fun p _=>12 - (intOf p).toNat)
   case atStart=>exact ⟨0,by omega,rfl,hB2,hw2⟩
   case round=>
    clear hB2 hw2;obtain ⟨i,hi,rfl,hB,hw⟩:=hrel;by_cases hlt:i<12
    ·have hq:(i:Int)<12:=by omega
     have hq2:(i:Int)<16:=by omega
     have hq3:(i:Int)+4<16:=by omega
     have c1:=hB.cell (i+4) (by rw[L2.out i hi];omega);have c2:=hB.cell i (by rw[L2.out i hi];omega);obtain ⟨g1,g2⟩:=G2.out i hlt;rw[g1] at c1;rw[g2] at c2;have f1:=hB.frozen (i+4);have hn:=H2.out i hlt;have hx:=abs (row.getD (i+4) 0) (N.getD i 0);generalize row.getD (i+4) 0=U at *;generalize N.getD i 0=V at *;generalize U ^^^ V=Y at *;have HN:=Lib.hid hn;have i1:IntKind.i64.wrap ((i:Int)+4)=(i:Int)+4:=IntWalk.i64_in _ (by omega);have i2:((i:Int)+4).toNat=i+4:=by omega
     have i3:(0:Int)≤(i:Int)+4:=by omega
     clear hn g1 g2;go_wp2_with fail;go_region
     all_goals
      go_wp2_with fail;go_roundw
      case rel=>exact ⟨i+1,by omega,by go_num,(hB.set (i+4) _ HN.out).drew,(hw.setCell (i+4) _).drew⟩
      case measure=>simp[intOf];omega
    ·obtain rfl:i=12:=by omega
     rw[A2.out] at hB;have hR:=hw.by R1 (by omega);have hk:Kp w wr:=Below.trans (show Below w.heap.size w W1 from k1) (hw.below k1.size (Nat.le_refl _));clear hlt hi hw R1 k1;go_wp2_with (first
      | (refine ab8 Tryz.underlying231 (by kernel_rfl) rfl (.tmp 4) rfl w.heap.size N rfl hB LN ?_)
      | (refine acK (by kernel_rfl) rfl rfl (.tmp 6) (.tmp 51) rfl (w.heap.size+1) (List.replicate 16 0) N rfl rfl hR (by decide) LN ?_;intro w5 hR5 hbut))
     refine bodyPost_ret (amI Tryz.underlying231 (by kernel_rfl) rfl _ _ (w.heap.size+1) N rfl hR5 LN) rfl ?_;exact ⟨rfl,hbut.below hk (by omega)⟩
end Go.Proofs.YthmhklmkgkfcpaaGreatDoor

import Derived.Test.YthmhklmkgkfcpaaGreatDoorR1
import Derived.Test.YthmhklmkgkfcpaaGreatDoorR2
import Derived.Test.YthmhklmkgkfcpaaGreatDoorR5
import Derived.Test.YthmhklmkgkfcpaaGreatDoorR8
import Derived.Test.YthmhklmkgkfcpaaGreatDoorR9
import Derived.Test.YthmhklmkgkfcpaaGreatDoorR12
import Derived.Test.YthmhklmkgkfcpaaGreatDoorR15
import Derived.Test.YthmhklmkgkfcpaaGreatDoorR16
set_option linter.unusedVariables false
set_option linter.unusedSimpArgs false
set_option maxHeartbeats 8000000
set_option maxRecDepth 100000
namespace Go.Proofs.YthmhklmkgkfcpaaGreatDoor
def aef (n w:Int):Prop:=1≤w∧w≤7∧0≤n∧n<256 ^ w.toNat
instance (n w:Int):Decidable (aef n w):=by unfold aef;infer_instance
def numE (n w:Int):Int:=if aef n w then 0 else 1
def numB (n w:Int):List UInt8:=if aef n w then be w.toNat n.toNat else []
def lenE (n:Int):Int:=if n<0∨1073741823<n then 1 else 0
def aau (n:Nat):List UInt8:=if n<64 then be 1 n else if n<16384 then be 2 (n+16384) else be 4 (n+2147483648)
def lenB (n:Int):List UInt8:=if lenE n=0 then aau n.toNat else []
def adR (c:Nat):Nat:=if c<64 then 1 else if c<128 then 2 else 4
def ary (w:Nat)(l:List UInt8):Int:=if w=1 then val l else if w=2 then val l - 16384 else val l - 2147483648
def tlE (b:List UInt8)(at':Int):Int:=
 if at'<0∨b.length<at' then 1 else if (b.length:Int)=at' then 3 else
 let c:=(b.getD at'.toNat 0).toNat
 if 192≤c then 2 else if b.length - at'<adR c then 3 else
 let n:=ary (adR c) ((b.drop at'.toNat).take (adR c))
 if (adR c=2∧n<64)∨(adR c=4∧n<16384) then 2 else 0
def tlN (b:List UInt8)(at':Int):Int:=if tlE b at'=0 then let c:=(b.getD at'.toNat 0).toNat;ary (adR c) ((b.drop at'.toNat).take (adR c)) else 0
def tlP (b:List UInt8)(at':Int):Int:=if tlE b at'=0 then at'+adR (b.getD at'.toNat 0).toNat else 0
def rowE (x:List UInt8):Int:=lenE x.length
def rowB (x:List UInt8):List UInt8:=if rowE x=0 then aau x.length++x else []
theorem adS {n w:Int}(h:aef n w):numE n w=0∧numB n w=be w.toNat n.toNat:=by simp[numE,numB,h]
theorem ahT {n w:Int}(h:¬aef n w):numE n w=1∧numB n w=[]:=by simp[numE,numB,h]
theorem agy (n:Nat):(aau n).length=if n<64 then 1 else if n<16384 then 2 else 4:=by
 unfold aau;split
 ·exact aak _ _
 ·split <;> exact aak _ _
theorem ahU {x:List UInt8}(h:x.length≤1073741823):rowE x=0∧rowB x=aau x.length++x:=by
 have e:rowE x=0:=if_neg (by omega);simp[rowB,e]
theorem agz {x:List UInt8}(h:x.length≤1073741823):(rowB x).length=(aau x.length).length+x.length:=by rw[(ahU h).2,List.length_append]
end Go.Proofs.YthmhklmkgkfcpaaGreatDoor
namespace Go.Proofs.YthmhklmkgkfcpaaGreatDoor
open Go.RowKit
def unB (l:List Int):List UInt8:=l.flatMap fun i=>be 2 i.toNat
def adn (n:Nod):List UInt8:=
 if n.kind=1 then [1]++be 2 n.name.toNat++rowB n.pub++rowB n.hash
 else if n.kind=2 then [2]++rowB n.pub++rowB n.hash++rowB (unB n.un)
 else [0]
structure ado (n:Nod):Prop where
 kind:n.kind=0∨n.kind=1∨n.kind=2
 name:0≤n.name∧n.name≤65535
 pub:n.pub.length≤40
 hash:n.hash.length≤40
 unl:n.un.length≤100
 un:∀ i∈n.un,0≤i∧i≤1023
theorem afo (l:List Int):(unB l).length=2*l.length:=by
 unfold unB
 induction l with
 | nil=>rfl
 | cons a l ih=>rw[List.flatMap_cons,List.length_append,ih,aak,List.length_cons];omega
theorem apc (l:List Int)(i:Int):unB (l++[i])=unB l++be 2 i.toNat:=by
 unfold unB;rw[List.flatMap_append];simp
theorem adW {x:List UInt8}(h:x.length≤1000):(rowB x).length≤x.length+2:=by
 rw[agz (by omega),agy];split
 ·omega
 ·rw[if_pos (by omega)];omega
theorem aeM {n:Nod}(h:ado n):(adn n).length≤300∧1≤(adn n).length:=by
 have h1:=adW (x:=n.pub) (by have:=h.pub;omega);have h2:=adW (x:=n.hash) (by have:=h.hash;omega);have h3:=adW (x:=unB n.un) (by rw[afo];have:=h.unl;omega);have h4:=h.pub;have h5:=h.hash;have h6:=h.unl;rw[afo] at h3;unfold adn;split
 ·simp only[List.length_append,aak,List.length_cons,List.length_nil];omega
 ·split
  ·simp only[List.length_append,List.length_cons,List.length_nil];omega
  ·simp
def afp (n:Nod)(g:List Int):Nod:=⟨n.kind,n.name,n.pub,n.un.filter fun i=>decide (i∉g),n.hash⟩
theorem ado.less {n:Nod}(h:ado n)(g:List Int):ado (afp n g):=
 ⟨h.kind,h.name,h.pub,h.hash,Nat.le_trans (List.length_filter_le _ _) h.unl,fun i hi=>h.un i (List.mem_filter.1 hi).1⟩
theorem ado.blank:ado aao:=⟨.inl rfl,by decide,by decide,by decide,by decide,fun i hi=>by cases hi⟩
def digF (t:List Nod)(g:List Int):Nat→Nat→List UInt8
 | 0,q=>aaK ([1]++be 2 q++adn (if (q:Int)∈g then aao else ats t (nd 0 q)))
 | j+1,q=>aaK ([2]++adn (afp (ats t (nd (j+1) q)) g)++rowB (digF t g j (2*q))++rowB (digF t g j (2*q+1)))
theorem ahZ (l:List UInt8):(aaK l).length=32:=by
 unfold aaK;exact afI _
theorem aiA (t:List Nod)(g:List Int)(j q:Nat):(digF t g j q).length=32:=by
 cases j <;> exact ahZ _
structure aa3 (t:List Nod)(K:Nat):Prop where
 le:K≤10
 len:t.length=2 ^ (K+1) - 1
 node:∀ x,ado (ats t x)
 par:∀ x,(ats t x).kind=2→x % 2=1
def aboE (t:List Nod)(x side:Int):Int:=
 if 0≤x∧x<t.length∧0≤side∧side≤1 then (if (ats t x.toNat).kind=2 then 0 else 11) else 1
def othQ (side:Int)(q:Nat):Nat:=if side=0 then 2*q+1 else 2*q
def aboT (t:List Nod)(x:Nat)(side:Int):List UInt8:=
 aaK ([3]++rowB (ats t x).pub++rowB (ats t x).hash++rowB (digF t (ats t x).un (lev x - 1) (othQ side (qOf x))))
def aboV (t:List Nod)(x side:Int):List UInt8:=if aboE t x side=0 then aboT t x.toNat side else []
def ac6 (n:Nod)(h:List UInt8):Nod:=⟨n.kind,n.name,n.pub,n.un,h⟩
def layS (i:Nat)(s:List Nod × List UInt8)(x:Nat):List Nod × List UInt8:=
 if (ats s.1 x).kind=2 then
  (s.1.set x (ac6 (ats s.1 x) s.2),aboV (s.1.set x (ac6 (ats s.1 x) s.2)) (x:Int) (if x<2*i then 1 else 0))
 else s
def layD (t:List Nod)(i:Nat):List Nod × List UInt8:=(aav t i).reverse.foldl (layS i) (t,[])
def layE (t:List Nod)(i:Int):Int:=if aar t i then 0 else 11
def layV (t:List Nod)(i:Int):List Nod:=
 if aar t i then (layD t i.toNat).1.set (2*i.toNat) (ac6 (ats (layD t i.toNat).1 (2*i.toNat)) (layD t i.toNat).2) else t
def xorB (l:List UInt8)(x:UInt8):List UInt8:=l.map fun b=>b ^^^ x
def blkB (l:List UInt8):List UInt8:=l++List.replicate (64 - l.length) 0
def keyB (k:List UInt8):List UInt8:=blkB (if 64<k.length then aaK k else k)
def macB (k b:List UInt8):List UInt8:=aaK (xorB (keyB k) 92++aaK (xorB (keyB k) 54++b))
theorem abH (l:List UInt8)(x:UInt8):(xorB l x).length=l.length:=by simp[xorB]
theorem apd (l:List UInt8)(x:UInt8)(i:Nat)(h:i<l.length):(xorB l x)[i]?=some (l.getD i 0 ^^^ x):=by
 simp[xorB,List.getD_eq_getElem?_getD,List.getElem?_eq_getElem h]
theorem akz (l m:List UInt8)(x:UInt8):xorB (l++m) x=xorB l x++xorB m x:=by simp[xorB]
theorem agF (l:List UInt8)(h:l.length≤64):(blkB l).length=64:=by simp[blkB];omega
theorem akA (x y:UInt8):bits .xor .u8 (x.toNat:Int) (y.toNat:Int)=((x ^^^ y).toNat:Int):=by
 have e:∀ z:UInt8,BitVec.ofInt IntKind.u8.bits (z.toNat:Int)=z.toBitVec:=fun z=>by
  rw[BitVec.ofInt_natCast];apply BitVec.eq_of_toNat_eq;simp[IntKind.bits]
 simp only[bits,e];change IntKind.u8.wrap (((x ^^^ y).toNat:Nat):Int)=_;rw[IntKind.wrap_u8];have:=(x ^^^ y).toNat_lt;omega
theorem arC (x y:UInt8):bits .or .u8 (x.toNat:Int) (y.toNat:Int)=((x ||| y).toNat:Int):=by
 have e:∀ z:UInt8,BitVec.ofInt IntKind.u8.bits (z.toNat:Int)=z.toBitVec:=fun z=>by
  rw[BitVec.ofInt_natCast];apply BitVec.eq_of_toNat_eq;simp[IntKind.bits]
 simp only[bits,e];change IntKind.u8.wrap (((x ||| y).toNat:Nat):Int)=_;rw[IntKind.wrap_u8];have:=(x ||| y).toNat_lt;omega
theorem ape (a b:UInt8):a ||| b=0↔a=0∧b=0:=by
 constructor
 ·intro h
  have h':a.toBitVec ||| b.toBitVec=0#8:=by rw[← UInt8.toBitVec_or,h];rfl
  constructor
  ·apply UInt8.toBitVec_inj.1
   exact (BitVec.or_eq_zero_iff.1 h').1
  ·apply UInt8.toBitVec_inj.1
   exact (BitVec.or_eq_zero_iff.1 h').2
 ·rintro ⟨rfl,rfl⟩;rfl
theorem anO (a b:UInt8):a ^^^ b=0↔a=b:=by
 constructor
 ·intro h
  have:a ^^^ b ^^^ b=0 ^^^ b:=by rw[h]
  rw[UInt8.xor_assoc,UInt8.xor_self,UInt8.xor_zero,UInt8.zero_xor] at this;exact this
 ·rintro rfl;exact UInt8.xor_self
def orT (l m:List UInt8):Nat→UInt8
 | 0=>0
 | k+1=>orT l m k ||| (l.getD k 0 ^^^ m.getD k 0)
theorem alz (l m:List UInt8):∀ k,k≤l.length→k≤m.length→(orT l m k=0↔l.take k=m.take k)
 | 0,_,_=>by simp[orT]
 | k+1,h,h'=>by
  rw[orT,ape,anO,alz l m k (by omega) (by omega),aeG l k (by omega),aeG m k (by omega)]
  constructor
  ·rintro ⟨a,b⟩;rw[a,b]
  ·intro e
   have:=List.append_inj e (by simp;omega)
   exact ⟨this.1,by simpa using this.2⟩
theorem aqJ (l m:List UInt8)(h:l.length=m.length):decide (orT l m l.length=0)=decide (l=m):=by
 have:=alz l m l.length (Nat.le_refl _) (by omega);rw[List.take_length,h,List.take_length,← h] at this;exact decide_eq_decide.2 this
theorem abq (w:World):Rd w (.slice none 0 0) []:=⟨none,0,rfl,Nat.le_refl _,Nat.zero_le _,fun _=>rfl,fun x hx=>by cases hx⟩
theorem aaT (l:List UInt8):(aaK l).length=32:=afI _
theorem arG (v:Value)(l:List UInt8)(w:World)(h:Rd w v l)(hl:l.length≤2000):
  Calls Tryz.prog 211 #[v] w fun e w'=>(∃ a c,e=.returned (.slice a 32 c)∧Rd w' (.slice a 32 c) (aaK l))∧Kp w w':=by
 refine (aqK v l w h hl).mono ?_;rintro e w' ⟨⟨v',rfl,hr⟩,hk⟩;obtain ⟨a,c,rfl,_,_⟩:=hr.shape;rw[aaT] at hr ⊢;exact ⟨⟨a,c,rfl,hr⟩,hk⟩
theorem anQ (v:Value)(l:List UInt8)(w:World)(h:Rd w v l)(hl:l.length≤2000):
  Calls Tryz.prog 211 #[v] w fun e w'=>(∃ a c,e=.returned (.slice a 32 c)∧Ow 5 w' w.heap.size (.slice a 32 c) (aaK l))∧Kp w w':=by
 refine (anP v l w h hl).mono ?_;rintro e w' ⟨⟨v',rfl,hr⟩,hk⟩;obtain ⟨a,c,rfl,_,_⟩:=hr.rd.shape;rw[aaT] at hr ⊢;exact ⟨⟨a,c,rfl,hr⟩,hk⟩
theorem adp (k:List UInt8):(keyB k).length=64:=by
 unfold keyB;split
 ·exact agF _ (by rw[aaT];omega)
 ·exact agF _ (by omega)
theorem anR (v:Value)(l:List UInt8)(w:World)(h:Rd w v l)(hl:l.length≤2000):
  Calls Tryz.prog 197 #[v] w fun e w'=>(∃ g,e=.returned (.slice (some ⟨g,0,none⟩) 64 64)∧By 5 w' g (keyB l)∧w.heap.size≤g)∧Kp w w':=by
 have U:=ar5;obtain ⟨a,c,rfl,h1,h2⟩:=h.shape;unfold maxLen at h2;have HF:Hid (∀ W:World,By 5 (W.alloc (.cells (Array.replicate 64 (.int .u8 0)) 5)) W.heap.size (List.replicate 64 0)):=fun W=>By.fresh _ _ _
 have hb:∀ k:List UInt8,k.length≤64→k++(List.replicate 64 (0:UInt8)).drop k.length=blkB k:=fun k hk=>by unfold blkB;rw[List.drop_replicate]
 have HB:=Lib.hid hb;clear hb;by_cases hlt:64<l.length
 ·have hK:keyB l=blkB (aaK l):=by unfold keyB;rw[if_pos hlt]
  have HK:=Lib.hid hK;have HD:=Lib.hid (aaT l);have hlt':64<(l.length:Int):=by omega
  clear hK;go_enter Tryz.func197,Tryz.ntmps197;go_wp2_with fail;refine (arG _ l _ h hl).mono ?_;rintro e w1 ⟨⟨a1,c1,rfl,r1⟩,k1⟩;go_wp2_with (first
   | (at_make;refine aaX (z:=.int .u8 0) (b:=1) Tryz.underlying24 Tryz.info5 rfl (by decide) rfl _ _ rfl 64 rfl rfl (by omega) ?_;intro w2 hw2;have hg2:By 5 w2 w1.heap.size (List.replicate 64 0):=(by rw[hw2];exact HF w1);have hk2:Kp w1 w2:=(by rw[hw2];exact (Kp.refl _).alloc _);clear hw2)
   | (refine abO U rfl (.tmp 10) (.tmp 11) rfl 5 w1.heap.size _ (aaK l) (List.replicate 64 0) 64 64 rfl rfl hg2 (by simp) (r1.kp hk2) (by rw[HD.out];omega) ?_;intro w3 hg3 hbut))
  go_ret;rw[HB.out _ (by rw[HD.out];omega)] at hg3;refine ⟨⟨_,rfl,by rw[HK.out];exact hg3,k1.size⟩,hbut.below (k1.trans hk2) k1.size⟩
 ·have hK:keyB l=blkB l:=by unfold keyB;rw[if_neg hlt]
  have HK:=Lib.hid hK;have hlt':¬64<(l.length:Int):=by omega
  clear hK;go_enter Tryz.func197,Tryz.ntmps197;go_wp2_with (first
   | (at_make;refine aaX (z:=.int .u8 0) (b:=1) Tryz.underlying24 Tryz.info5 rfl (by decide) rfl _ _ rfl 64 rfl rfl (by omega) ?_;intro w2 hw2;have hg2:By 5 w2 w.heap.size (List.replicate 64 0):=(by rw[hw2];exact HF w);have hk2:Kp w w2:=(by rw[hw2];exact (Kp.refl _).alloc _);clear hw2)
   | (refine abO U rfl (.tmp 10) (.tmp 11) rfl 5 w.heap.size _ l (List.replicate 64 0) 64 64 rfl rfl hg2 (by simp) (h.kp hk2) (by omega) ?_;intro w3 hg3 hbut))
  go_ret;rw[HB.out _ (by omega)] at hg3;refine ⟨⟨_,rfl,by rw[HK.out];exact hg3,Nat.le_refl _⟩,hbut.below hk2 (Nat.le_refl _)⟩
def catB (B:Nat→List UInt8):Nat→List UInt8
 | 0=>[]
 | i+1=>catB B i++B i
theorem acI (B:Nat→List UInt8)(h:∀ i,(B i).length=32):∀ N,(catB B N).length=32*N
 | 0=>rfl
 | N+1=>by rw[catB,List.length_append,acI B h N,h N];omega
theorem akC (B:Nat→List UInt8)(i k:Nat):∃ r,catB B (i+k)=catB B i++r:=by
 induction k with
 | zero=>exact ⟨[],by simp⟩
 | succ k ih=>obtain ⟨r,hr⟩:=ih;exact ⟨r++B (i+k),by rw[← Nat.add_assoc,catB,hr,List.append_assoc]⟩
def aeQ (B:Nat→List UInt8)(n:Nat):List UInt8:=(catB B ((n+31) / 32)).take n
theorem agH (B:Nat→List UInt8)(h:∀ i,(B i).length=32)(n N:Nat)(hn:n≤32*N):aeQ B n=(catB B N).take n:=by
 obtain ⟨r,hr⟩:=akC B ((n+31) / 32) (N - (n+31) / 32);have hle:(n+31) / 32≤N:=by omega
 rw[show (n+31) / 32+(N - (n+31) / 32)=N by omega] at hr;rw[hr,List.take_append_of_le_length (by rw[acI B h];omega)];rfl
theorem abP (B:Nat→List UInt8)(h:∀ i,(B i).length=32)(n:Nat):(aeQ B n).length=n:=by
 unfold aeQ;rw[List.length_take,acI B h];omega
theorem akD (B:Nat→List UInt8)(h:∀ i,(B i).length=32)(n i j:Nat)(hj:j<32)(hn:32*i+(j+1)=n):catB B i++(B i).take (j+1)=aeQ B n:=by
 have e:n - 32*i=j+1:=by omega
 have hl:=acI B h i;rw[agH B h n (i+1) (by omega),catB,List.take_append,hl,e,List.take_of_length_le (l:=catB B i) (by omega)]
theorem akE (B:Nat→List UInt8):aeQ B 0=[]:=rfl
theorem ark (B:Nat→List UInt8)(h:∀ i,(B i).length=32):aeQ B 32=B 0:=by
 rw[agH B h 32 1 (by omega),catB,catB,List.nil_append,List.take_of_length_le (by rw[h];omega)]
theorem adq (k b:List UInt8):(macB k b).length=32:=aaT _
theorem apg (k:List UInt8):keyB (keyB k)=keyB k:=by
 have h:=adp k;obtain ⟨K,hK⟩:∃ K,keyB k=K:=⟨_,rfl⟩;rw[hK] at h ⊢;unfold keyB blkB;rw[if_neg (by omega),h];simp
theorem aph (k b:List UInt8):macB (keyB k) b=macB k b:=by unfold macB;rw[apg]
def expT (k info:List UInt8):Nat→List UInt8
 | 0=>macB k (info++be 1 1)
 | i+1=>macB k (expT k info i++info++be 1 (i+2))
theorem abe (k info:List UInt8):∀ i,(expT k info i).length=32
 | 0=>adq _ _
 | _+1=>adq _ _
def expP (k info:List UInt8):Nat→List UInt8
 | 0=>[]
 | i+1=>expT k info i
theorem ajH (k info:List UInt8)(i:Nat):expT k info i=macB k (expP k info i++info++be 1 (i+1)):=by
 cases i with
 | zero=>simp[expT,expP]
 | succ i=>rfl
theorem agI (k info:List UInt8):∀ i,(expP k info i).length≤32
 | 0=>by simp[expP]
 | i+1=>by rw[expP,abe];omega
def expL (k info:List UInt8)(n:Nat):List UInt8:=aeQ (expT k info) n
theorem aab.tidy {t:List Nod}{K:Nat}(h:aab t K)(hs:adQ t 40):aa3 t K:=by
 have hk:∀ x,(ats t x).kind=2→x % 2=1:=fun x hx=>by
  rcases h.okA x with h1 | ⟨h1,_⟩
  ·rw[h1] at hx;cases hx
  ·omega
 refine ⟨h.le,h.len,fun x=>?_,hk⟩;by_cases hx:x<t.length
 ·rcases h.okA x with h1 | ⟨h1,⟨h2,h3,h4⟩,h5,h6,h7⟩
  ·rw[h1];exact ado.blank
  ·have hm:ats t x∈t:=by rw[aes hx];exact List.getElem_mem hx
   obtain ⟨s1,s2,s3⟩:=hs.2 _ hm;refine ⟨by omega,⟨h2,h3⟩,s1,s2,by omega,fun i hi=>?_⟩;obtain ⟨j,q,rfl,hj,hq⟩:=ait K x (by rw[← h.len];exact hx);obtain ⟨_,y1,y2⟩:=abn h.le hj hq;obtain ⟨k,rfl,hkq,hk1⟩:=h.unAt y1 y2 i hi;have hk2:2*k<t.length:=by
    refine Nat.lt_of_not_le fun hle=>?_
    rw[acR hle] at hk1;cases hk1
   have hl:=h.len2;have hp:=acd h.le;omega
 ·rw[acR (by omega)];exact ado.blank
theorem ado.hashed {n:Nod}(h:ado n){b:List UInt8}(hb:b.length≤40):ado (ac6 n b):=⟨h.kind,h.name,h.pub,hb,h.unl,h.un⟩
theorem aa3.hashed {t:List Nod}{K:Nat}(h:aa3 t K)(x:Nat){b:List UInt8}(hb:b.length≤40)(hx:x<t.length):aa3 (t.set x (ac6 (ats t x) b)) K:=by
 refine ⟨h.le,by rw[List.length_set];exact h.len,fun y=>?_,fun y hy=>?_⟩
 ·rw[abl _ _ _ _ hx]
  split
  ·exact (h.node x).hashed hb
  ·exact h.node y
 ·rw[abl _ _ _ _ hx] at hy
  split at hy
  ·next e=>subst e;exact h.par _ hy
  ·exact h.par y hy
theorem alG {t ar6:List Nod}(hk:∀ i,(ats ar6 i).kind=(ats t i).kind){a b:Int}{l:List Int}(h:unP t a b l):unP ar6 a b l:=
 ⟨h.1,fun i hi=>by rw[hk];exact h.2 i hi⟩
theorem aab.hashed {t:List Nod}{K:Nat}(h:aab t K)(x:Nat){b:List UInt8}(hb:b.length=0∨b.length=32)(hx:x<t.length)(hne:(ats t x).kind≠0):aab (t.set x (ac6 (ats t x) b)) K:=by
 have hA:=abl t x (ac6 (ats t x) b);have hk:∀ y,(ats (t.set x (ac6 (ats t x) b)) y).kind=(ats t y).kind:=fun y=>by
  rw[hA y hx];split
  ·next e=>subst e;rfl
  ·rfl
 have hn:∀ y,(ats (t.set x (ac6 (ats t x) b)) y).name=(ats t y).name:=fun y=>by
  rw[hA y hx];split
  ·next e=>subst e;rfl
  ·rfl
 refine ⟨h.le,by rw[List.length_set];exact h.len,fun y hy=>?_,fun y z hyz hz h1 h2=>?_,?_⟩
 ·rw[List.length_set] at hy
  by_cases e:y=x
  ·subst e
   rcases h.okA y with h1 | ⟨h1,h2,h3,h4,h5⟩
   ·rw[h1] at hne;exact absurd rfl hne
   ·refine .inr ?_
    rw[hA y hx,if_pos rfl];exact ⟨h1,h2,hb,h4,fun e2=>⟨(h5 e2).1,alG hk (h5 e2).2⟩⟩
  ·have e2:ats (t.set x (ac6 (ats t x) b)) y=ats t y:=by rw[hA y hx,if_neg e]
   rcases h.okA y with h1 | ⟨h1,h2,h3,h4,h5⟩
   ·exact .inl (e2.trans h1)
   ·refine .inr ?_
    rw[e2];exact ⟨h1,h2,h3,h4,fun e3=>⟨(h5 e3).1,alG hk (h5 e3).2⟩⟩
 ·rw[hk] at h1 h2
  rw[hn,hn];rw[List.length_set] at hz;exact h.one y z hyz hz h1 h2
 ·obtain ⟨y,hy,h1⟩:=h.used
  exact ⟨y,by rw[List.length_set];exact hy,by rw[hk];exact h1⟩
theorem aqY (t:List Nod)(x side:Int):(aboV t x side).length=0∨(aboV t x side).length=32:=by
 unfold aboV;split
 ·exact .inr (ahZ _)
 ·exact .inl rfl
theorem amm {t:List Nod}{K i:Nat}{s:List Nod × List UInt8}{x:Nat}(hx:x<t.length)(h1:aa3 s.1 K)(h2:s.1.length=t.length)(h3:s.2.length=0∨s.2.length=32):
  aa3 (layS i s x).1 K∧(layS i s x).1.length=t.length∧((layS i s x).2.length=0∨(layS i s x).2.length=32)∧(aab s.1 K→aab (layS i s x).1 K):=by
 unfold layS;split
 ·next hk=>
  refine ⟨h1.hashed x (by omega) (by omega),by rw[List.length_set];exact h2,aqY _ _ _,fun hr=>hr.hashed x h3 (by omega) (by rw[hk];decide)⟩
 ·exact ⟨h1,h2,h3,fun h=>h⟩
theorem afz {t:List Nod}{K i:Nat}:∀ (l:List Nat) (s:List Nod × List UInt8),(∀ x∈l,x<t.length)→aa3 s.1 K→s.1.length=t.length→(s.2.length=0∨s.2.length=32) →
  aa3 (l.foldl (layS i) s).1 K∧(l.foldl (layS i) s).1.length=t.length∧((l.foldl (layS i) s).2.length=0∨(l.foldl (layS i) s).2.length=32)∧(aab s.1 K→aab (l.foldl (layS i) s).1 K)
 | [],s,_,h1,h2,h3=>⟨h1,h2,h3,fun h=>h⟩
 | x :: l,s,hl,h1,h2,h3=>by
  obtain ⟨g1,g2,g3,g4⟩:=amm (i:=i) (hl x (by simp)) h1 h2 h3
  obtain ⟨f1,f2,f3,f4⟩:=afz (i:=i) l (layS i s x) (fun y hy=>hl y (by simp[hy])) g1 g2 g3
  exact ⟨f1,f2,f3,fun h=>f4 (g4 h)⟩
theorem agX {t:List Nod}{K i:Nat}(hK:K≤10)(hl:t.length=2 ^ (K+1) - 1)(hi:i<2 ^ K):aav t i=aag K 0 i∧(∀ k,k<(aav t i).length→(aav t i).getD k 0<t.length)∧(aav t i).length=K:=by
 have e1:lvs t=2 ^ K:=by
  have:=aam K;have:=aaC K;unfold lvs;omega
 have e2:aav t i=aag K 0 i:=by
  unfold aav lgT;rw[e1,anq hK]
 refine ⟨e2,fun k hk=>?_,by rw[e2,acc];rfl⟩;rw[List.getD_eq_getElem?_getD,List.getElem?_eq_getElem hk,hl];refine abm hi ?_;rw[← e2];exact List.getElem_mem hk
theorem afO (l:List Nat)(k:Nat)(h:k<l.length):(l.map fun (n:Nat)=>(n:Int)).getD k 0=((l.getD k 0:Nat):Int):=by
 rw[List.getD_eq_getElem?_getD,List.getElem?_map,List.getElem?_eq_getElem h,List.getD_eq_getElem?_getD,List.getElem?_eq_getElem h];rfl
theorem afA {α β:Type}(f:β→α→β)(b:β)(l:List α)(k:Nat)(d:α)(h:k<l.length):(l.take (k+1)).foldl f b=f ((l.take k).foldl f b) (l.getD k d):=by
 rw[List.take_succ_eq_append_getElem h,List.foldl_append,List.getD_eq_getElem?_getD,List.getElem?_eq_getElem h];rfl
theorem acL:(Tryz.prog.info? 81).map (·.size)=some 5:=by kernel_rfl
theorem aoi {i:Nat}{s:List Nod × List UInt8}{x:Nat}(hx:x<s.1.length)(y:Nat):(ats (layS i s x).1 y).kind=(ats s.1 y).kind:=by
 unfold layS;split
 ·show (ats (s.1.set x _) y).kind=_
  rw[abl _ _ _ _ hx];split
  ·next e=>subst e;rfl
  ·rfl
 ·rfl
theorem alH {i:Nat}{s:List Nod × List UInt8}{x:Nat}:(layS i s x).1.length=s.1.length:=by
 unfold layS;split
 ·exact List.length_set ..
 ·rfl
theorem ajY {i:Nat}:∀ (l:List Nat) (s:List Nod × List UInt8),(∀ x∈l,x<s.1.length)→∀ y,(ats (l.foldl (layS i) s).1 y).kind=(ats s.1 y).kind
 | [],s,_,y=>rfl
 | x :: l,s,h,y=>by
  show (ats (l.foldl (layS i) (layS i s x)).1 y).kind=_
  rw[ajY l (layS i s x) (fun z hz=>by rw[alH];exact h z (by simp[hz])) y,aoi (h x (by simp)) y]
theorem aid {t:List Nod}{K i:Nat}(hr:aab t K)(hT:aa3 t K)(hi:i<2 ^ K):
  aa3 (layD t i).1 K∧(layD t i).1.length=t.length∧((layD t i).2.length=0∨(layD t i).2.length=32)∧aab (layD t i).1 K∧∀ y,(ats (layD t i).1 y).kind=(ats t y).kind:=by
 obtain ⟨_,q2,_⟩:=agX hr.le hr.len hi;have hm:∀ x∈(aav t i).reverse,x<t.length:=fun x hx=>by
  obtain ⟨k,hk,rfl⟩:=List.getElem_of_mem (List.mem_reverse.1 hx);have:=q2 k hk;rwa [List.getD_eq_getElem?_getD,List.getElem?_eq_getElem hk] at this
 obtain ⟨f1,f2,f3,f4⟩:=afz (t:=t) (K:=K) (i:=i) (aav t i).reverse (t,[]) hm hT rfl (.inl rfl);exact ⟨f1,f2,f3,f4 hr,ajY _ _ hm⟩
theorem amo {t:List Nod}{K:Nat}(hr:aab t K)(hT:aa3 t K)(i:Int):aab (layV t i) K∧aa3 (layV t i) K∧(layV t i).length=t.length:=by
 by_cases h:aar t i
 ·obtain ⟨k,rfl⟩:=Int.eq_ofNat_of_zero_le h.1
  have h2:=h.2.1;rw[hr.lv] at h2;have hl:=hr.len2;obtain ⟨d1,d2,d3,d4,d5⟩:=aid hr hT (show k<2 ^ K by omega);have hk:=(hr.there_iff k).1 h;have e:layV t (k:Int)=(layD t k).1.set (2*k) (ac6 (ats (layD t k).1 (2*k)) (layD t k).2):=by
   unfold layV;rw[if_pos h,Int.toNat_natCast]
  rw[e];refine ⟨d4.hashed (2*k) d3 (by omega) (by rw[d5,hk];decide),d1.hashed (2*k) (by omega) (by omega),by rw[List.length_set];exact d2⟩
 ·have e:layV t i=t:=if_neg h
  rw[e];exact ⟨hr,hT,rfl⟩
theorem aab.over {t ar6:List Nod}{K:Nat}(h:aab t K)(hl:ar6.length=t.length)(hy:∀ y,ats ar6 y=ats t y∨(y % 2=1∧(ats ar6 y=aao∨∃ p:List UInt8,p.length=32∧ats ar6 y=⟨2,0,p,[],[]⟩))):aab ar6 K:=by
 have hev:∀ i,ats ar6 (2*i)=ats t (2*i):=fun i=>by
  rcases hy (2*i) with e | ⟨e,_⟩
  ·exact e
  ·omega
 have h1:∀ y,(ats ar6 y).kind=1→ats ar6 y=ats t y:=fun y hk=>by
  rcases hy y with e | ⟨_,e | ⟨p,_,e⟩⟩
  ·exact e
  ·rw[e] at hk;cases hk
  ·rw[e] at hk;cases hk
 refine ⟨h.le,hl.trans h.len,fun y hyl=>?_,fun x y hxy hyl k1 k2=>?_,?_⟩
 ·rcases hy y with e | ⟨ho,e | ⟨p,hp,e⟩⟩
  ·rcases h.okA y with h2 | ⟨a1,a2,a3,a4,a5⟩
   ·exact .inl (e.trans h2)
   ·refine .inr ?_
    rw[e];exact ⟨a1,a2,a3,a4,fun e2=>⟨(a5 e2).1,(a5 e2).2.1,fun i hi=>by
     have:=(a5 e2).2.2 i hi;rw[hev];exact this⟩⟩
  ·exact .inl e
  ·refine .inr ?_
   rw[e];refine ⟨?_,⟨Int.le_refl 0,show (0:Int)≤65535 by decide,hp⟩,.inl rfl,fun e2=>rfl,fun _=>⟨rfl,List.Pairwise.nil,fun i hi=>by cases hi⟩⟩;show (2:Int)=1+(y:Int) % 2
   omega
 ·have e1:=h1 x k1
  have e2:=h1 y k2;rw[e1] at k1 ⊢;rw[e2] at k2 ⊢;exact h.one x y hxy (hl▸hyl) k1 k2
 ·obtain ⟨x,hx,k⟩:=h.used
  refine ⟨x,hl▸hx,?_⟩;have he:x % 2=0:=by
   rcases h.okA x with e | ⟨e,_⟩
   ·rw[e] at k;cases k
   ·omega
  rcases hy x with e | ⟨ho,_⟩
  ·rw[e];exact k
  ·omega
theorem aa3.over {t ar6:List Nod}{K:Nat}(h:aa3 t K)(hl:ar6.length=t.length)(hy:∀ y,ats ar6 y=ats t y∨(y % 2=1∧(ats ar6 y=aao∨∃ p:List UInt8,p.length=32∧ats ar6 y=⟨2,0,p,[],[]⟩))):aa3 ar6 K:=by
 refine ⟨h.le,hl.trans h.len,fun y=>?_,fun y hk=>?_⟩
 ·rcases hy y with e | ⟨_,e | ⟨p,hp,e⟩⟩
  ·rw[e];exact h.node y
  ·rw[e];exact ado.blank
  ·rw[e]
   exact ⟨.inr (.inr rfl),⟨Int.le_refl 0,show (0:Int)≤65535 by decide⟩,by simp only[hp];decide,Nat.zero_le _,Nat.zero_le _,fun i hi=>by cases hi⟩
 ·rcases hy y with e | ⟨ho,_⟩
  ·rw[e] at hk;exact h.par y hk
  ·exact ho
theorem aab.small {t:List Nod}{K:Nat}(h:aab t K):t.length≤2047∧t.length=2*2 ^ K - 1∧0<t.length:=by
 have h1:=h.len2;have h2:=acd h.le;have h3:=aaC K;omega
theorem acl {t:List Nod}{K:Nat}{i:Int}(h:aab t K)(hi:aar t i):∃ k:Nat,i=(k:Int)∧k<2 ^ K∧(ats t (2*k)).kind=1∧2*k<t.length:=by
 obtain ⟨h1,h2,h3⟩:=hi;obtain ⟨k,rfl⟩:=Int.eq_ofNat_of_zero_le h1;rw[Int.toNat_natCast] at h3;have:=h.lv;exact ⟨k,rfl,by omega,h3,aiL (by omega)⟩
end Go.Proofs.YthmhklmkgkfcpaaGreatDoor

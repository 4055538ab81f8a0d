import Derived.Test.YthmhklmkgkfcpaaGreatDoorW0
import Derived.Deep.QuietTactic
import Derived.BigQuiet
import Derived.Test.YthmhklmkgkfcpaaGreatDoorRows
import Derived.WalkSpells
import Derived.Lib.Hide
import Derived.Outline
import Derived.ProofKit
import Derived.OpenShut
set_option linter.all false
set_option maxHeartbeats 8000000
set_option maxRecDepth 100000
namespace Go.Proofs.YthmhklmkgkfcpaaGreatDoor
open Go.Proofs.Tryz Go.RowKit
variable {B a b c n x y:Nat}{P:Program}{e t:TypeId}{l:List UInt8}{v:Value}{w w' w0:World}
def Kp (w w':World):Prop:=Below w.heap.size w w'
theorem Kp.refl (w:World):Kp w w:=Below.refl _ _
theorem Kp.trans {a b c:World}(h:Kp a b)(k:Kp b c):Kp a c:=Below.trans h (Below.mono k h.size)
theorem Kp.drew {a b:World}(h:Kp a b):Kp a b.drew:=Below.drew h
theorem Kp.alloc {a b:World}(h:Kp a b)(o:Obj):Kp a (b.alloc o):=Below.alloc h h.size o
theorem Kp.cell (h:Kp w w'){p:Addr}(a:w.cell? p=some v):w'.cell? p=some v:=
 (Below.cell h (Jz w p a)).trans a
def Rd (w:World)(v:Value)(l:List UInt8):Prop:=
 ∃ a c,v=.slice a l.length c/\l.length<=c/\c<=maxLen/\(a=none->c=0) /\
  ∀ x,a=some x->∀ i,(h:i<l.length)->w.cell? (x.add i)=some (.int .u8 ((l[i]'h).toNat:Int))
theorem Rd.kp (h:Rd w v l)(k:Kp w w'):Rd w' v l:=by
 obtain⟨a,c,rfl,j,g,f,e⟩:=h;exact⟨a,c,rfl,j,g,f,λx b i d=>k.cell (e x b i d)⟩
theorem Rd.at {a:Option Addr}(h:Rd w (.slice a n c) l)(k:Nat)(q:k<n):
  ∃ b d,a=some ⟨b,d,none⟩/\b<w.heap.size/\∀ i,i<n->w.cell? ⟨b,d+i,none⟩=some (.int .u8 ((l.getD i 0).toNat:Int)):=by
 obtain⟨u,t,e,s,r,p,j⟩:=h
 simp only[Ji] at e
 obtain⟨rfl,rfl,rfl⟩:=e
 cases a with
 | none=>have:=p rfl;omega
 | some x=>
  obtain⟨b,d,f⟩:=x
  have m:=j _ rfl 0 (by omega)
  have o:f=none:=by simpa [Addr.add] using Mk m
  subst o
  refine⟨b,d,rfl,Jz w _ m,λi g=>?_⟩
  have:=j _ rfl i g
  rw[IU,IV g,LA,<-this]
  congr 1
  unfold Addr.add
  split <;> simp_all
theorem Rd.len {a:Option Addr}(h:Rd w (.slice a n c) l):n=l.length/\n<=c/\c<=maxLen:=by
 obtain⟨j,i,e,d,b,g,f⟩:=h;simp only[Ji] at e;obtain⟨rfl,rfl,rfl⟩:=e;exact⟨rfl,d,b⟩
theorem Rd.shape (h:Rd w v l):∃ a c,v=.slice a l.length c/\l.length<=c/\c<=maxLen:=by
 obtain⟨j,i,e,d,b,g,f⟩:=h;exact⟨_,_,e,d,b⟩
def val (l:List UInt8):Nat:=l.foldl (λn b=>256*n+b.toNat) 0
theorem ma (l:List UInt8)(k:Nat)(h:k<l.length):l.take (k+1)=l.take k++[l.getD k 0]:=by
 rw[Jp h,IU,IV h];rfl
def be:Nat->Nat->List UInt8
 | 0,_=>[]
 | w+1,n=>be w (n / 256)++[UInt8.ofNat n]
theorem bl:∀ w n,(be w n).length=w
 | 0,_=>rfl
 | w+1,n=>by simp[be,bl w]
theorem sZ (w:World)(b d e:TypeId)(v:Value)(l:List UInt8)(h:Rd w v l)(f:P.underlying b=some (.slice e))(g:P.underlying e=some (.int .u8))(i:P.underlying d=some .string):
  (convert b d v).run P w=.ok (.string ⟨l.toArray⟩) w:=by
 obtain⟨a,c,rfl,o,n,m,k⟩:=h
 cases a with
 | none=>
  have j:l=[]:=by have:=m rfl;exact Ju (by omega)
  subst j
  rw[run_convert_bytes_nil w b e f g _ _ d i]
  rfl
 | some x=>exact run_convert_bytes_back w b d e x c l f g i (k x rfl)
theorem zi (n:Int)(b:0<=n)(a:n<2 ^ 63):IntKind.i64.wrap n=n:=by rw[Ml];omega
theorem iU:∀ t n,be (t+1) n=UInt8.ofNat (n / 256 ^ t) :: be t n
 | 0,n=>by simp[be]
 | t+1,n=>by
  rw[be,iU t (n / 256),be,Kc,Kl,LQ,Lm 256]
def Ow (e:TypeId)(w:World)(B:Nat)(v:Value)(l:List UInt8):Prop:=w.ownsRow B e 1 v l.length (Lib.byteCells l)
theorem cG (l:List UInt8):(Lib.byteCells l).length=l.length:=by simp[Lib.byteCells]
theorem gd (l:List UInt8)(i:Nat)(h:i<l.length):(Lib.byteCells l)[i]?=some (.int .u8 ((l[i]'h).toNat:Int)):=by
 simp[Lib.byteCells,JQ,IV h]
theorem mb (l m:List UInt8):Lib.byteCells (l++m)=Lib.byteCells l++Lib.byteCells m:=by simp[Lib.byteCells]
theorem Ow.shape (h:Ow e w B v l):
  (v=.slice none 0 0/\l=[])\/∃ g c,v=.slice (some ⟨g,0,none⟩) l.length c/\B<=g/\g<w.heap.size/\l.length<=c/\c<=maxLen:=by
 rcases h.2 with⟨rfl,h0⟩|⟨g,cap,cur,rfl,hb,hg,hn,hm,_⟩
 ·exact .inl ⟨rfl,Ju h0⟩
 ·exact .inr ⟨g,cap,rfl,hb,(IX.1 hg).1,hn,hm⟩
theorem Ow.rd (h:Ow e w B v l):Rd w v l:=by
 rcases h.shape with⟨rfl,rfl⟩|⟨g,c,rfl,_,_,hc,hm⟩
 ·exact⟨none,0,rfl,Ja _,Jl _,λ_=>rfl,λx a=>by cases a⟩
 ·refine⟨_,c,rfl,hc,hm,λh=>(by cases h),λx a i b=>?_⟩
  cases a;have:=World.ownsRow.cellAt h i (by omega);rw[gd l i b] at this;rw[<-this];congr 1
  unfold Addr.add;split <;> simp_all
theorem Ow.kp (h:Ow e w B v l)(k:Kp w w'):Ow e w' B v l:=by
 refine⟨h.1,?_⟩;rcases h.2 with d|⟨g,b,a,rfl,f,c,rest⟩
 ·exact .inl d
 ·exact .inr ⟨g,b,a,rfl,f,(Below.block k g (IX.1 c).1).trans c,rest⟩
theorem Ow.mono {B':Nat}(h:Ow e w B v l)(f:B'<=B):Ow e w B' v l:=by
 refine⟨h.1,?_⟩;rcases h.2 with d|⟨g,c,b,rfl,a,rest⟩
 ·exact .inl d
 ·exact .inr ⟨g,c,b,rfl,Js f a,rest⟩
theorem Ow.nil (e:TypeId)(w:World)(B:Nat):Ow e w B (.slice none 0 0) []:=MA _ _ _ _
theorem Kp.grown (h:Kp w0 w)(b:w.grownBy w' v.ownBlock)(a:∀ k,v.ownBlock=some k->w0.heap.size<=k):Kp w0 w':=
 Below.grown h b h.size a
theorem Ow.own_ge (h:Ow e w B v l):∀ k,v.ownBlock=some k->B<=k:=λk a=>(JP h k a).1
theorem Rd.cut {a:Option Addr}(h:Rd w (.slice a n c) l)(b d:Nat)(o:b<=d)(A:d<=n)(q:Option Addr)(n' p:Nat)
  (u:q=if c=b then a else a.map (·.add b)) (s:n'=d - b) (t:p=c - b):Rd w (.slice q n' p) ((l.drop b).take (d - b)):=by
 obtain⟨E,D,e,C,B,k,z⟩:=h;simp only[Ji] at e;obtain⟨rfl,rfl,rfl⟩:=e;subst u s t;have m:((l.drop b).take (d - b)).length=d - b:=by simp;omega
 refine⟨_,c - b,by rw[m],by omega,by omega,λh=>?_,λx g i j=>?_⟩
 ·split at h
  ·have:=k h;omega
  ·cases a with
   | none=>have:=k rfl;omega
   | some y=>simp at h
 ·rw[m] at j
  split at g
  ·omega
  ·cases a with
   | none=>have:=k rfl;omega
   | some y=>
    simp only[Option.map_some,JL] at g;subst g;have r:=z y rfl (b+i) (by omega);have f:(y.add b).add i=y.add (b+i):=by
     unfold Addr.add;by_cases v:b=0 <;> by_cases o:i=0 <;> simp[v,o,Lv]
    rw[f,r];simp
structure U8 (P:Program)(t e:TypeId):Prop where
 ht:P.underlying t=some (.slice e)
 hi:∃ i,P.info? e=some i/\i.zero=some (.int .u8 0)/\i.size=1/\i.bytes=1
theorem U8.mk' (d:P.underlying t=some (.slice e))(h:(P.info? e).map (λi=>(i.zero,i.size,i.bytes))=some (some (.int .u8 0),1,1)):U8 P t e:=by
 obtain⟨i,f,c,b,a⟩:=info_parts h;exact⟨d,i,f,c,b,a⟩
theorem Rd.box (w:World)(e:TypeId)(x:Int)(b:UInt8)(h:x=b.toNat):Rd (w.alloc (.cells #[.int .u8 x] e)) (.slice (some ⟨w.heap.size,0,none⟩) 1 1) [b]:=by
 subst h;refine⟨_,1,rfl,Ja _,by unfold maxLen;omega,λh=>(by cases h),λy c i a=>?_⟩;cases c;have:i=0:=by simp at a;exact a
 subst this;simp[Addr.add,World.cell?,-World.alloc_eq,World.alloc]
theorem bz (U:U8 P t e){q:Array Oper}{rest:List Oper}{o:Oper}{a:Act}{Q:Exit->Act->World->Prop}(A:o.guard=none)(s x:Operand)
  (K:o.op=.call { callee:=.builtin .append,args:=#[s,x],argTypes:=#[t,t] })
  (B:Nat) (v:Value) (l:List UInt8) (J:a.eval s=v) (d:Ow e w B v l) (u:Value) (m:List UInt8) (I:a.eval x=u) (N:Rd w u m)
  (L:l.length+m.length<=140737488355328) (n:B<=w.heap.size)
  (h:∀ p w',Ow e w' B p (l++m)->w.grownBy w' v.ownBlock->(p=.slice none 0 0->l=[]/\m=[])->wpList P q Q rest (a.put o.dst p) w'):wpList P q Q (o :: rest) a w:=by
 obtain⟨i,M,D,f,H⟩:=U.hi
 obtain⟨C,c,rfl,X,W,r,k⟩:=N
 cases C with
 | none=>
  have G:=r rfl
  have E:m=[]:=Ju (by omega)
  subst E
  subst G
  refine wpList_append_own_none A s x t K B e i 1 U.ht M v l.length (Lib.byteCells l) J d I ?_
  refine h v w (by simpa using d) ⟨rfl,rfl,rfl,Ja _,λ_ _ _=>rfl⟩ (λe=>?_)
  subst e
  rcases d.shape with⟨_,h⟩|⟨g,c,h,_⟩
  ·exact⟨h,rfl⟩
  ·cases h
 | some C=>
  refine wpList_append_own w A s x t K B e i (.int .u8 0) 1 1 U.ht M D f H rfl (by decide) v l.length (Lib.byteCells l) J d C m.length c (Lib.byteCells m) I (by rw[cG];omega) (λj z F=>?_) (λz D=>?_) (by unfold maxLen;omega) (by omega) n
   (λp w' S R O=>h p w' (by unfold Ow;rw[Jc,mb];exact S) R (λe=>?_))
  ·have y:j<m.length:=by
    have:=(JH.1 F).1
    rwa [cG] at this
   rw[gd m j y] at F
   cases F
   exact k C rfl j y
  ·obtain⟨b,_,rfl⟩:=JO.1 D
   rfl
  ·obtain⟨V,T⟩:=O.1 e
   subst V
   rcases d.shape with⟨_,h⟩|⟨g,c,h,_⟩
   ·exact⟨h,Ju T⟩
   ·cases h
theorem Below.grown' (h:Below B w0 w)(b:w.grownBy w' v.ownBlock)(c:B<=w.heap.size)(a:Ow e w B v l):Below B w0 w':=
 Below.grown h b c a.own_ge
def pw (k:Nat):Nat:=256 ^ k
theorem zj (k:Nat):0<pw k:=Nat.pow_pos (by decide)
theorem ta (k:Nat):pw (k+1)=256*pw k:=by unfold pw;rw[LQ];omega
theorem zk (k:Nat)(h:k<=6):pw k<=281474976710656:=by
 have b:256 ^ k<=256 ^ 6:=Kd (by omega) h;have a:(256:Nat) ^ 6=281474976710656:=by decide
 unfold pw;omega
theorem zl (k:Nat)(h:k<=7):pw k<=72057594037927936:=by
 have b:256 ^ k<=256 ^ 7:=Kd (by omega) h;have a:(256:Nat) ^ 7=72057594037927936:=by decide
 unfold pw;omega
theorem Rd.cutAt {d:Nat}(h:Rd w (.slice (some ⟨b,d,none⟩) n c) l)(a k:Nat)(f:a+k<=n)(g:a<c):
  Rd w (.slice (some ⟨b,d+a,none⟩) k (c - a)) ((l.drop a).take k):=by
 have:=h.cut a (a+k) (by omega) f _ k (c - a) rfl (by omega) rfl;rw[if_neg (by omega)] at this;have e:(⟨b,d,none⟩:Addr).add a=⟨b,d+a,none⟩:=by unfold Addr.add;split <;> simp_all
 simpa [e] using this
theorem Ow.lit (w:World)(e:TypeId)(B n:Nat)(cs:Array Value)(l:List UInt8)(c:B<=w.heap.size)(b:l.length=n)(d:n<=1000000)(a:cs.toList=Lib.byteCells l):
  Ow e (w.alloc (.cells cs e)) B (.slice (some ⟨w.heap.size,0,none⟩) n n) l:=by
 subst b;unfold Ow;rw[<-a];exact Ku w cs l.length c (by unfold maxLen;omega) (by rw[<-Mn,a,cG];omega)
theorem qj {f:FuncId}{args:Array Value}
  (h:Calls P f args (w.drewN n) λe w'=>e=.returned v/\w.drewN n=w'):Calls P f args (w.drewN n) λe a=>e=.returned v/\∃ m,a=w.drewN m:=
 h.mono λ_ _ ⟨c,b⟩=>⟨c,n,b.symm⟩
theorem Kp.drewN {a b:World}(h:Kp a b)(n:Nat):Kp a (b.drewN n):=by
 induction n with
 | zero=>exact h
 | succ n ih=>exact ih.drew
def Yes (w:World)(e:Ending)(w':World):Prop:=e=.returned (.bool true)/\Kp w w'
def eE (n w:Int):Prop:=1<=w/\w<=7/\0<=n/\n<256 ^ w.toNat
instance (n w:Int):Decidable (eE n w):=by unfold eE;infer_instance
def gV (n w:Int):Int:=if eE n w then 0 else 1
def fs (n w:Int):List UInt8:=if eE n w then be w.toNat n.toNat else []
def eL (n:Int):Int:=if n<0\/1073741823<n then 1 else 0
def cM (n:Nat):List UInt8:=if n<64 then be 1 n else if n<16384 then be 2 (n+16384) else be 4 (n+2147483648)
def dI (n:Int):List UInt8:=if eL n=0 then cM n.toNat else []
def jx (c:Nat):Nat:=if c<64 then 1 else if c<128 then 2 else 4
def tT (w:Nat)(l:List UInt8):Int:=if w=1 then val l else if w=2 then val l - 16384 else val l - 2147483648
def tlE (b:List UInt8)(at':Int):Int:=
 if at'<0\/b.length<at' then 1 else if (b.length:Int)=at' then 3 else
 let c:=(b.getD at'.toNat 0).toNat
 if 192<=c then 2 else if b.length - at'<jx c then 3 else
 let n:=tT (jx c) ((b.drop at'.toNat).take (jx c))
 if (jx c=2/\n<64)\/(jx c=4/\n<16384) then 2 else 0
def tlN (b:List UInt8)(at':Int):Int:=if tlE b at'=0 then let c:=(b.getD at'.toNat 0).toNat;tT (jx c) ((b.drop at'.toNat).take (jx c)) else 0
def tlP (b:List UInt8)(at':Int):Int:=if tlE b at'=0 then at'+jx (b.getD at'.toNat 0).toNat else 0
def iy (x:List UInt8):Int:=eL x.length
def aI (x:List UInt8):List UInt8:=if iy x=0 then cM x.length++x else []
theorem iz {n w:Int}(h:eE n w):gV n w=0/\fs n w=be w.toNat n.toNat:=by simp[gV,fs,h]
theorem li {n w:Int}(h:¬eE n w):gV n w=1/\fs n w=[]:=by simp[gV,fs,h]
theorem Aj (n:Nat):(cM n).length=if n<64 then 1 else if n<16384 then 2 else 4:=by
 unfold cM;split
 ·exact bl _ _
 ·split <;> exact bl _ _
theorem jU {x:List UInt8}(h:x.length<=1073741823):iy x=0/\aI x=cM x.length++x:=by
 have e:iy x=0:=if_neg (by omega);simp[aI,e]
theorem lj {x:List UInt8}(h:x.length<=1073741823):(aI x).length=(cM x.length).length+x.length:=by rw[(jU h).2,Jc]
def cY (x y:UInt32):UInt32:=x+y
def iZ (x y:UInt32):UInt32:=x ^^^ y
def lk (x y:UInt32):UInt32:=x &&& y
def wor (x y:UInt32):UInt32:=x ||| y
def tU (x:UInt32):UInt32:=iZ 0xffffffff x
def qK (k:Nat)(x:UInt32):UInt32:=UInt32.ofNat (x.toNat*2 ^ k)
def ll (k:Nat)(x:UInt32):UInt32:=UInt32.ofNat (x.toNat / 2 ^ k)
def jy (k:Nat)(x:UInt32):UInt32:=wor (ll k x) (qK (32 - k) x)
def big (i j k:Nat)(x:UInt32):UInt32:=iZ (iZ (jy i x) (jy j x)) (jy k x)
def small (i j k:Nat)(x:UInt32):UInt32:=iZ (iZ (jy i x) (jy j x)) (ll k x)
def gW (a b c d:UInt8):UInt32:=UInt32.ofNat (16777216*a.toNat+65536*b.toNat+256*c.toNat+d.toNat)
def iA (l:List UInt8)(w:List UInt32)(t:Nat):UInt32:=
 if t<16 then gW (l.getD (4*t) 0) (l.getD (4*t+1) 0) (l.getD (4*t+2) 0) (l.getD (4*t+3) 0)
 else cY (cY (cY (small 17 19 10 (w.getD (t - 2) 0)) (w.getD (t - 7) 0)) (small 7 18 3 (w.getD (t - 15) 0))) (w.getD (t - 16) 0)
def dz (l:List UInt8):Nat->List UInt32
 | 0=>[]
 | t+1=>dz l t++[iA l (dz l t) t]
structure S8 where
 a:UInt32
 b:UInt32
 c:UInt32
 d:UInt32
 e:UInt32
 f:UInt32
 g:UInt32
 h:UInt32
deriving DecidableEq
def S8.list (s:S8):List UInt32:=[s.a,s.b,s.c,s.d,s.e,s.f,s.g,s.h]
def t1 (s:S8)(k w:UInt32):UInt32:=cY (cY (cY (cY s.h (big 6 11 25 s.e)) (iZ (lk s.e s.f) (lk (tU s.e) s.g))) k) w
def t2 (s:S8):UInt32:=cY (big 2 13 22 s.a) (iZ (iZ (lk s.a s.b) (lk s.a s.c)) (lk s.b s.c))
def rnd (s:S8)(k w:UInt32):S8:=⟨cY (t1 s k w) (t2 s),s.a,s.b,s.c,cY s.d (t1 s k w),s.e,s.f,s.g⟩
def oK (k w:List UInt32)(s:S8):Nat->S8
 | 0=>s
 | t+1=>rnd (oK k w s t) (k.getD t 0) (w.getD t 0)
def S8.add (s r:S8):S8:=⟨cY s.a r.a,cY s.b r.b,cY s.c r.c,cY s.d r.d,cY s.e r.e,cY s.f r.f,cY s.g r.g,cY s.h r.h⟩
def mD (k:List UInt32)(s:S8)(l:List UInt8):S8:=s.add (oK k (dz l 64) s 64)
def dA:S8:=⟨0x6a09e667,0xbb67ae85,0x3c6ef372,0xa54ff53a,0x510e527f,0x9b05688c,0x1f83d9ab,0x5be0cd19⟩
def cT:List UInt32:=[
 0x428a2f98,0x71374491,0xb5c0fbcf,0xe9b5dba5,0x3956c25b,0x59f111f1,0x923f82a4,0xab1c5ed5,
 0xd807aa98,0x12835b01,0x243185be,0x550c7dc3,0x72be5d74,0x80deb1fe,0x9bdc06a7,0xc19bf174,
 0xe49b69c1,0xefbe4786,0x0fc19dc6,0x240ca1cc,0x2de92c6f,0x4a7484aa,0x5cb0a9dc,0x76f988da,
 0x983e5152,0xa831c66d,0xb00327c8,0xbf597fc7,0xc6e00bf3,0xd5a79147,0x06ca6351,0x14292967,
 0x27b70a85,0x2e1b2138,0x4d2c6dfc,0x53380d13,0x650a7354,0x766a0abb,0x81c2c92e,0x92722c85,
 0xa2bfe8a1,0xa81a664b,0xc24b8b70,0xc76c51a3,0xd192e819,0xd6990624,0xf40e3585,0x106aa070,
 0x19a4c116,0x1e376c08,0x2748774c,0x34b0bcb5,0x391c0cb3,0x4ed8aa4a,0x5b9cca4f,0x682e6ff3,
 0x748f82ee,0x78a5636f,0x84c87814,0x8cc70208,0x90befffa,0xa4506ceb,0xbef9a3f7,0xc67178f2]
def fill (n:Nat):Nat:=(119 - n % 64) % 64
def pad (n:Nat):List UInt8:=128 :: List.replicate (fill n) 0++be 8 (8*n)
def bE (s:S8)(l:List UInt8):Nat->S8
 | 0=>s
 | k+1=>mD cT (bE s l k) ((l.drop (64*k)).take 64)
def ft (l:List UInt8):List UInt8:=l++pad l.length
def lm (x:UInt32):List UInt8:=[UInt8.ofNat (x.toNat / 16777216),UInt8.ofNat (x.toNat / 65536),UInt8.ofNat (x.toNat / 256),UInt8.ofNat x.toNat]
def S8.bytes (s:S8):List UInt8:=s.list.flatMap lm
def bF (l:List UInt8):List UInt8:=(bE dA (ft l) ((ft l).length / 64)).bytes
def aa (x:UInt32):Int:=(x.toNat:Int)
theorem tV (x:UInt32):0<=aa x:=Int.natCast_nonneg _
theorem tW (x:UInt32):aa x<4294967296:=by unfold aa;have:=x.toNat_lt;omega
theorem tX (n:Nat)(h:n<4294967296):aa (UInt32.ofNat n)=n:=by
 unfold aa;rw[UInt32.toNat_ofNat'];congr 1
 exact Ke h
theorem tY (n:Nat):aa (UInt32.ofNat n)=(n:Int) % 4294967296:=by
 unfold aa;rw[UInt32.toNat_ofNat'];simp
theorem jV (x:UInt32):IntKind.u32.wrap (aa x)=aa x:=by rw[LG];have:=tV x;have:=tW x;omega
theorem oL (x y:UInt32):IntKind.u32.wrap (aa x+aa y)=aa (cY x y):=by
 rw[LG];unfold aa cY;rw[UInt32.toNat_add];simp
theorem qL (x:UInt32):BitVec.ofInt IntKind.u32.bits (aa x)=x.toBitVec:=by
 unfold aa;rw[Kh];apply MC;simp[IntKind.bits]
theorem mE (x y:UInt32):bits .xor .u32 (aa x) (aa y)=aa (iZ x y):=by
 simp only[bits,qL];change IntKind.u32.wrap (aa (x ^^^ y))=_;exact jV _
theorem oM (x y:UInt32):bits .and .u32 (aa x) (aa y)=aa (lk x y):=by
 simp only[bits,qL];change IntKind.u32.wrap (aa (x &&& y))=_;exact jV _
theorem oN (x y:UInt32):bits .or .u32 (aa x) (aa y)=aa (wor x y):=by
 simp only[bits,qL];change IntKind.u32.wrap (aa (x ||| y))=_;exact jV _
theorem mF (k:Nat)(x:UInt32):IntKind.u32.wrap (aa x*2 ^ k)=aa (qK k x):=by
 rw[LG];unfold qK;rw[tY];unfold aa;simp
theorem jz (k:Nat)(x:UInt32):aa x / 2 ^ k=aa (ll k x):=by
 unfold ll;have h:=x.toNat_lt;have a:x.toNat / 2 ^ k<=x.toNat:=Mt _ _;rw[tX _ (by omega)];unfold aa;simp
theorem Ak (x:UInt32):aa x / 8=aa (ll 3 x):=jz 3 x
theorem Al (x:UInt32):aa x / 1024=aa (ll 10 x):=jz 10 x
theorem Am (x y:UInt32):wor x y=wor y x:=by unfold wor;exact UInt32.or_comm x y
theorem jc (u v:Value)(l m:List UInt8)(w:World)(h:Rd w u l)(a:Rd w v m):
  Calls prog 29 #[u,v] w λe w'=>e=.returned (.bool (decide (l=m)))/\w=w':=by
 have c:=sZ w 24 9 5 u l h underlying24 underlying5 underlying9;have b:=sZ w 24 9 5 v m a underlying24 underlying5 underlying9;go_enter func29,ntmps29;go_wp2;go_ret;exact⟨by simp[Bool.beq_eq_decide_eq],rfl⟩
theorem info5:(prog.info? 5).map (λi=>(i.zero,i.size,i.bytes))=some (some (.int .u8 0),1,1):=by kernel_rfl
theorem aj:U8 prog 24 5:=U8.mk' underlying24 info5
def fu (n x:Nat):Nat:=(2*x+n / (x*x)) / 3
def gY:Nat->Nat->Nat->Nat
 | 0,_,x=>x
 | f+1,n,x=>if x<=fu n x then x else gY f n (fu n x)
def dQ (n:Nat):Nat:=gY 2097152 n 2097152
theorem AB (f n x:Nat)(h:x<=fu n x):gY f n x=x:=by
 cases f with
 | zero=>rfl
 | succ f=>simp[gY,h]
theorem AC (f n x:Nat)(a:x<=f)(h:¬x<=fu n x):∃ g,fu n x<=g/\gY g n (fu n x)=gY f n x:=by
 cases f with
 | zero=>omega
 | succ f=>exact⟨f,by omega,by simp[gY,h]⟩
theorem ui (n x:Nat)(b:1<=n)(a:1<=x):1<=fu n x:=by
 unfold fu;by_cases h:x=1
 ·subst h
  simp;omega
 ·generalize n / (x*x)=d
  omega
theorem uj:∀ (f n x:Nat),1<=n->1<=x->1<=gY f n x/\gY f n x<=x
 | 0,n,x,_,h=>⟨h,Ja _⟩
 | f+1,n,x,h0,h=>by
  unfold gY
  split
  ·exact⟨h,Ja _⟩
  ·have:=uj f n (fu n x) h0 (ui n x h0 h)
   omega
def cH (p:Nat):Nat:=p*18014398509481984
def mJ (p:Nat):Nat:=cH p - dQ (cH p)*dQ (cH p)*dQ (cH p)
def qP (p:Nat):Nat:=dQ (cH p)*16384+mJ p*16384 / (3*dQ (cH p)*dQ (cH p))
def mK (p:Nat):UInt32:=UInt32.ofNat (qP p)
def qQ (p:Nat):Bool:=decide (dQ (cH p)*dQ (cH p)*dQ (cH p)<=cH p) && decide (mJ p<281474976710656)
theorem AD:∀ p:Fin 312,p.val=0\/qQ p.val=true:=by decide +kernel
def gz:Nat->Nat->Nat->List Bool->List Bool
 | 0,_,_,D=>D
 | f+1,p,n,D=>if n<312 then gz f p (n+p) (D.set n true) else D
theorem AF (f p n:Nat)(D:List Bool)(h:¬n<312):gz f p n D=D:=by
 cases f with
 | zero=>rfl
 | succ f=>simp[gz,h]
theorem AG (f p n:Nat)(D:List Bool)(h:n<312)(a:1<=p)(b:312<=f+n):∃ g,312<=g+(n+p)/\gz g p (n+p) (D.set n true)=gz f p n D:=by
 cases f with
 | zero=>omega
 | succ f=>exact⟨f,by omega,by simp[gz,h]⟩
theorem uk:∀ (f p n:Nat) (D:List Bool),(gz f p n D).length=D.length
 | 0,_,_,_=>rfl
 | f+1,p,n,D=>by
  unfold gz
  split
  ·rw[uk f];simp
  ·rfl
structure qR where
 D:List Bool
 ps:List Nat
def oO (p:Nat)(s:qR):qR:=if s.D.getD p false then s else ⟨gz 312 p (p*p) s.D,s.ps++[p]⟩
def cN:Nat->qR
 | 0=>⟨List.replicate 312 false,[]⟩
 | p+1=>if p<2 then cN p else oO p (cN p)
theorem oP:∀ p,(cN p).D.length=312
 | 0=>JT
 | p+1=>by
  unfold cN
  split
  ·exact oP p
  ·unfold oO
   split
   ·exact oP p
   ·rw[uk];exact oP p
def iC (i:Nat):Nat:=(cN 312).ps.getD i 0
theorem AH:(cN 312).ps.length=64:=by decide +kernel
theorem AI:(List.range 64).map (λi=>mK (iC i))=cT:=by decide +kernel
theorem AJ:∀ i:Fin 64,1<=iC i.val/\iC i.val<312:=by decide +kernel
theorem AK:∀ p:Fin 312,(cN p.val).D.getD p.val false=true\/p.val<2\/(iC (cN p.val).ps.length=p.val/\(cN p.val).ps.length<64):=by decide +kernel
theorem AL (p:Nat)(h:(cN p).D.getD p false=true)(a:2<=p):cN (p+1)=cN p:=by
 rw[cN,if_neg (by omega),oO,if_pos h]
theorem AM (p:Nat)(h:(cN p).D.getD p false=false)(a:2<=p):cN (p+1)=⟨gz 312 p (p*p) (cN p).D,(cN p).ps++[p]⟩:=by
 rw[cN,if_neg (by omega),oO,if_neg (by rw[h];decide)]
theorem BD (z u:Value)(c:List Value)(m:Nat):(List.replicate (m+1) z++c).set m u=List.replicate m z++u :: c:=by
 rw[List.set_append_left _ _ (by simp),Mi,LY _ _ (by simp)];simp
theorem uN (n:Int)(k:Nat)(w:World)(G:0<=n)(K:1<=k)(J:k<=7):
  Calls prog 135 #[.int .i64 n,.int .i64 k] w λe w'=>∃ v,e=.returned v/\Ow 5 w' w.heap.size v (be k n.toNat)/\Kp w w':=by
 obtain⟨A,E,l,h,g⟩:=info_parts info5;obtain⟨n,rfl⟩:=Jq G;rw[Jm];go_enter func135,ntmps135;go_wp2_with(at_make;refine wpList_make_full _ rfl _ _ 24 rfl w.heap.size 5 A (.int .u8 0) 1 underlying24 E l h _ _ _ _ k rfl rfl rfl rfl ?b1 ?b2 ?b3 ?_)
 case b1=>rw[g];omega
 case b2=>unfold maxLen;omega
 case b3=>exact Ja _
 intro z a f;rw[toList_madeCells_one] at a;generalize y:w.heap.size=B at *;have r:=Lib.hid y;clear y;have o:Below B w z:=Below.grown (Below.refl B w) f (by rw[r.out];exact Ja _) (by simp);clear f;go_wp2;go_loopw[0,6] (λx i wr=>∃ j:Nat,j<=k/\i=.int .i64 ((j:Int) - 1)/\x=.int .i64 ((n / 256 ^ (k - j):Nat):Int)/\wr.ownsRow B 5 1 (.slice (some ⟨B,0,none⟩) k k) k (List.replicate j (.int .u8 0)++Lib.byteCells (be (k - j) n))/\Below B w wr) (λ_ i _=>(intOf i+1).toNat)
 case atStart=>exact⟨k,Ja _,rfl,by simp,by simpa [be,Lib.byteCells] using a,o⟩
 case round=>
  obtain⟨j,I,rfl,rfl,a,b⟩:=hrel;cases j with
  | zero=>
   go_wp2;go_ret;refine⟨_,rfl,?_,b.mono (by rw[r.out];exact Ja _)⟩;have D:(be k n).length=k:=bl _ _;unfold Ow;rw[r.out,D];simpa using a
  | succ j=>
   have p:wr.cell? ⟨B,j,none⟩=some (.int .u8 0):=by
    rw[a.cellAt j (by omega),JE (by simp)];simp
   have F:=a.frozenAt j;rw[show((j+1:Nat):Int) - 1=j from by omega];generalize u:n / 256 ^ (k - (j+1))=X at *;have H:=Lib.hid u;clear u;have c:=Lib.hid a;clear a;go_wp2;go_roundw
   case rel=>
    obtain⟨t,C⟩:∃ t,t=k - (j+1):=⟨_,rfl⟩;have m:=H.out;have s:=c.out;rw[<-C] at m s;have d:k - j=t+1:=by omega
    refine⟨j,by omega,rfl,?_,?_,b.setCell (Ja _) _⟩
    ·rw[d,LQ,<-Kl,m];rfl
    ·have q:=(s.stored j (.int .u8 ((X:Int) % 256))).1
     rw[BD] at q;rw[d,iU,m];have e:Value.int .u8 ((X:Int) % 256)=.int .u8 ((UInt8.ofNat X).toNat:Int):=by simp
     rw[e] at q ⊢;exact q
   case measure=>simp[intOf]
theorem pa (x:Int)(w:World):
  Calls prog 134 #[.int .i64 x] w λe w'=>e=.returned (.bool (decide (1<=x/\x<=7)))/\w=w':=by
 by_cases a:1<=x
 ·have e:decide (1<=x/\x<=7)=decide (x<=7):=by simp[a]
  rw[e];go_enter func134,ntmps134;go_wp2;go_ret;exact⟨rfl,rfl⟩
 ·have e:decide (1<=x/\x<=7)=false:=by simp[a]
  go_enter func134,ntmps134;go_wp2;go_ret;exact⟨by simp,rfl⟩
theorem uO (k:Nat):(2:Int) ^ (8*k)=((256 ^ k:Nat):Int):=by
 rw[Nat.pow_mul' 2 8 k |> λ_=>show(256:Nat) ^ k=2 ^ (8*k) from by rw[Nat.pow_mul]];push_cast;rfl
theorem lz (n k:Nat):(n:Int)<256 ^ (k:Int).toNat↔n<256 ^ k:=by
 rw[Jm,<-Int.ofNat_lt,Mv];rfl
theorem BE (n k:Nat)(h:n<256 ^ k):((n:Int) / 2 ^ (8*k) != 0)=false:=by
 rw[uO,<-MH,LB h];rfl
theorem BF (n k:Nat)(h:¬n<256 ^ k):((n:Int) / 2 ^ (8*k) != 0)=true:=by
 rw[uO,<-MH,KX];have:0<n / 256 ^ k:=Nat.div_pos (by omega) (Nat.pos_of_ne_zero (by simp));omega
theorem jY (n k:Int)(w:World)(s:-9223372036854775808<=n/\n<=9223372036854775807):
  Calls prog 100 #[.int .i64 n,.int .i64 k] w λe w'=>∃ v,e=.returned (.tuple #[v,.int .i64 (gV n k)])/\Ow 5 w' w.heap.size v (fs n k)/\Kp w w':=by
 by_cases d:1<=k/\k<=7
 ·have p:decide (1<=k/\k<=7)=true:=by simp[d]
  obtain⟨g,f⟩:=d;by_cases l:n<0
  ·obtain⟨b,a⟩:=li (n:=n) (w:=k) (by unfold eE;omega)
   rw[b,a];have o:decide (n<0)=true:=by simp[l]
   go_enter func100,ntmps100;go_wp2_with(go_at_call 134;refine(pa _ _).mono ?_;rintro e w' ⟨rfl,rfl⟩)
   go_ret2;exact⟨_,rfl,Ow.nil _ _ _,Kp.refl _⟩
  ·obtain⟨n,rfl⟩:=Jq (show 0<=n by omega)
   obtain⟨k,rfl⟩:=Jq (show 0<=k by omega);have o:decide ((n:Int)<0)=false:=by simp
   by_cases c:n<256 ^ k
   ·obtain⟨b,a⟩:=iz (n:=n) (w:=k) ⟨g,f,by omega,(lz n k).2 c⟩
    have r:=Lib.hid b;have q:=Lib.hid a;have m:=BE n k c;clear b a c;go_enter func100,ntmps100;go_wp2_with(first|(go_at_call 134;refine(pa _ _).mono ?_;rintro e w' ⟨rfl,rfl⟩)|(go_at_call 135;refine(uN _ _ _ (by omega) (by omega) (by omega)).mono ?_;rintro e w' ⟨v,rfl,i,j⟩))
    go_ret2;rw[r.out,q.out];exact⟨_,rfl,by simpa using i,j⟩
   ·obtain⟨b,a⟩:=li (n:=n) (w:=k) (λh=>c ((lz n k).1 h.2.2.2))
    rw[b,a];have m:=BF n k c;clear b a c;go_enter func100,ntmps100;go_wp2_with(first|(go_at_call 134;refine(pa _ _).mono ?_;rintro e w' ⟨rfl,rfl⟩))
    go_ret2;exact⟨_,rfl,Ow.nil _ _ _,Kp.refl _⟩
 ·have p:decide (1<=k/\k<=7)=false:=by simp[d]
  obtain⟨b,a⟩:=li (n:=n) (w:=k) (by unfold eE;omega);rw[b,a];go_enter func100,ntmps100;go_wp2_with(go_at_call 134;refine(pa _ _).mono ?_;rintro e w' ⟨rfl,rfl⟩)
  go_ret2;exact⟨_,rfl,Ow.nil _ _ _,Kp.refl _⟩
def dr:Nat->(Nat->Bool)->Bool
 | 0,_=>true
 | n+1,p=>p n && dr n p
theorem dK {p:Nat->Bool}(h:dr n p=true):∀ i,i<n->p i=true:=by
 induction n with
 | zero=>intro i a;omega
 | succ n ih=>
  intro i a
  rw[dr,Ld] at h
  by_cases e:i=n
  ·subst e;exact h.1
  ·exact ih h.2 i (by omega)
def xtN (x:Nat):Nat:=bif Nat.ble 256 (2*x) then (2*x) ^^^ 283 else 2*x
def eF:Nat->Nat->Nat->Nat->Nat
 | 0,out,_,_=>out
 | k+1,out,x,y=>eF k (bif Nat.beq (y % 2) 1 then out ^^^ x else out) (xtN x) (y / 2)
def gm (a b:Nat):Nat:=eF 8 0 a b
theorem xor_lt (b:x<256)(a:y<256):x ^^^ y<256:=Nat.xor_lt_two_pow (n:=8) b a
theorem BY:dr 256 (λx=>Nat.ble (xtN x) 255)=true:=by decide +kernel
theorem pj (h:x<256):xtN x<256:=by
 have:=dK BY x h;have:=Kr this;omega
theorem BZ:dr 8 (λk=>dr 256 λx=>Nat.blt x (2 ^ k) || !(Nat.blt x (2 ^ (k+1))) || (Nat.beq x ((x - 2 ^ k) ^^^ 2 ^ k) && Nat.blt (x - 2 ^ k) (2 ^ k)))=true:=by decide +kernel
theorem Ca (k x:Nat)(d:k<8)(c:x<256)(f:2 ^ k<=x)(e:x<2 ^ (k+1)):x=(x - 2 ^ k) ^^^ 2 ^ k/\x - 2 ^ k<2 ^ k:=by
 have h:=dK (dK BZ k d) x c;have b:Nat.blt x (2 ^ k)=false:=by
  cases h3:Nat.blt x (2 ^ k)
  ·rfl
  ·have:=Kr h3;omega
 have a:Nat.blt x (2 ^ (k+1))=true:=Nat.ble_eq_true_of_le e;simp only[b,a,Bool.not_true,Bool.or_false,Bool.false_or,Ld] at h;exact⟨JZ h.1,Kr h.2⟩
theorem mX {f g:Nat->Nat}(d:∀ x y,x<256->y<256->f (x ^^^ y)=f x ^^^ f y)(c:∀ x y,x<256->y<256->g (x ^^^ y)=g x ^^^ g y)(h:∀ k,k<8->f (2 ^ k)=g (2 ^ k)):∀ x,x<256->f x=g x:=by
 have n:f 0=0:=by have:=d 0 0 (by omega) (by omega);simpa using this
 have m:g 0=0:=by have:=c 0 0 (by omega) (by omega);simpa using this
 have key:∀ k,k<=8->∀ x,x<2 ^ k->f x=g x:=by
  intro k;induction k with
  | zero=>
   intro _ x a;obtain rfl:x=0:=by simpa using a
   rw[n,m]
  | succ k ih=>
   intro l x a;have o:2 ^ (k+1)<=2 ^ 8:=Kd (by omega) l;by_cases b:x<2 ^ k
   ·exact ih (by omega) x b
   ·obtain⟨e,j⟩:=Ca k x (by omega) (by omega) (by omega) a
    have i:(2:Nat) ^ k<256:=by have:2 ^ k<2 ^ 8:=Nat.pow_lt_pow_right (by omega) (by omega);omega
    rw[e,d _ _ (by omega) i,c _ _ (by omega) i,ih (by omega) _ j,h k (by omega)]
 exact λx a=>key 8 (Ja _) x a
theorem Cb:dr 256 (λx=>dr 256 λy=>Nat.beq (xtN (x ^^^ y)) (xtN x ^^^ xtN y))=true:=by decide +kernel
theorem Cc (b:x<256)(a:y<256):xtN (x ^^^ y)=xtN x ^^^ xtN y:=JZ (dK (dK Cb x b) y a)
theorem uZ (a b c d:Nat):(a ^^^ b) ^^^ (c ^^^ d)=(a ^^^ c) ^^^ (b ^^^ d):=by
 rw[Me,Me,<-Me b,Nat.xor_comm b c,Me]
theorem va:∀ k out x y,out<256->x<256->eF k out x y<256
 | 0,_,_,_,h,_=>h
 | k+1,out,x,y,h,hx=>by
  refine va k _ _ _ ?_ (pj hx)
  cases Nat.beq (y % 2) 1
  ·exact h
  ·exact xor_lt h hx
theorem vd:∀ k o1 o2 x1 x2 y,x1<256->x2<256->eF k (o1 ^^^ o2) (x1 ^^^ x2) y=eF k o1 x1 y ^^^ eF k o2 x2 y
 | 0,_,_,_,_,_,_,_=>rfl
 | k+1,o1,o2,x1,x2,y,h1,h2=>by
  show eF k (bif Nat.beq (y % 2) 1 then o1 ^^^ o2 ^^^ (x1 ^^^ x2) else o1 ^^^ o2) (xtN (x1 ^^^ x2)) (y / 2)=eF k (bif Nat.beq (y % 2) 1 then o1 ^^^ x1 else o1) (xtN x1) (y / 2) ^^^ eF k (bif Nat.beq (y % 2) 1 then o2 ^^^ x2 else o2) (xtN x2) (y / 2)
  rw[Cc h1 h2,<-vd k _ _ _ _ _ (pj h1) (pj h2)]
  cases Nat.beq (y % 2) 1
  ·rfl
  ·simp only[cond_true];rw[uZ]
theorem Cd (y z:Nat):Nat.beq ((y ^^^ z) % 2) 1=xor (Nat.beq (y % 2) 1) (Nat.beq (z % 2) 1):=by
 have h:(y ^^^ z) % 2=(y % 2 ^^^ z % 2):=by
  have:=Nat.xor_mod_two_pow (a:=y) (b:=z) (n:=1);simpa using this
 rw[h];rcases Nat.mod_two_eq_zero_or_one y with d|d <;> rcases Nat.mod_two_eq_zero_or_one z with c|c <;> rw[d,c] <;> rfl
theorem Ce (y z:Nat):(y ^^^ z) / 2=y / 2 ^^^ z / 2:=by
 have:=Nat.xor_div_two_pow (a:=y) (b:=z) (n:=1);simpa using this
theorem vf:∀ k o1 o2 x y z,eF k (o1 ^^^ o2) x (y ^^^ z)=eF k o1 x y ^^^ eF k o2 x z
 | 0,_,_,_,_,_=>rfl
 | k+1,o1,o2,x,y,z=>by
  show eF k (bif Nat.beq ((y ^^^ z) % 2) 1 then o1 ^^^ o2 ^^^ x else o1 ^^^ o2) (xtN x) ((y ^^^ z) / 2)=eF k (bif Nat.beq (y % 2) 1 then o1 ^^^ x else o1) (xtN x) (y / 2) ^^^ eF k (bif Nat.beq (z % 2) 1 then o2 ^^^ x else o2) (xtN x) (z / 2)
  rw[Ce,Cd,<-vf]
  cases Nat.beq (y % 2) 1 <;> cases Nat.beq (z % 2) 1
  ·rfl
  ·simp only[Bool.false_xor,cond_true,cond_false];rw[Me]
  ·simp only[Bool.xor_false,cond_true,cond_false];rw[Me,Me,Nat.xor_comm o2 x]
  ·simp only[Bool.xor_self,cond_true,cond_false];rw[uZ,MS,Nat.xor_zero]
theorem lC (c:a<256):gm a b<256:=va 8 0 a b (by omega) c
theorem kh (a b c:Nat)(e:a<256)(d:b<256):gm (a ^^^ b) c=gm a c ^^^ gm b c:=by
 have:=vd 8 0 0 a b c e d;rwa [MS] at this
theorem jg (a b c:Nat):gm a (b ^^^ c)=gm a b ^^^ gm a c:=by
 have:=vf 8 0 0 a b c;rwa [MS] at this
theorem Cf:dr 8 (λi=>dr 8 λj=>Nat.beq (gm (2 ^ i) (2 ^ j)) (gm (2 ^ j) (2 ^ i)))=true:=by decide +kernel
theorem Cg {k:Nat}(h:k<8):2 ^ k<256:=by have:2 ^ k<2 ^ 8:=Nat.pow_lt_pow_right (by omega) h;omega
theorem mY (l:a<256)(k:b<256):gm a b=gm b a:=by
 refine mX (f:=λx=>gm x b) (g:=λx=>gm b x) (λx y d c=>kh x y b d c) (λx y _ _=>jg b x y) (λi h=>?_) a l;refine mX (f:=λx=>gm (2 ^ i) x) (g:=λx=>gm x (2 ^ i)) (λx y _ _=>jg _ x y) (λx y d c=>kh x y _ d c) (λj e=>?_) b k;exact JZ (dK (dK Cf i h) j e)
theorem Ch:dr 8 (λi=>dr 8 λj=>dr 8 λk=>Nat.beq (gm (gm (2 ^ i) (2 ^ j)) (2 ^ k)) (gm (2 ^ i) (gm (2 ^ j) (2 ^ k))))=true:=by decide +kernel
theorem vj (q:a<256)(p:b<256)(o:c<256):gm (gm a b) c=gm a (gm b c):=by
 refine mX (f:=λx=>gm (gm x b) c) (g:=λx=>gm x (gm b c)) (λx y e d=>by show gm (gm (x ^^^ y) b) c=_;rw[kh x y b e d,kh _ _ c (lC e) (lC d)]) (λx y e d=>kh x y _ e d) (λi h=>?_) a q;have l:=Cg h;refine mX (f:=λx=>gm (gm (2 ^ i) x) c) (g:=λx=>gm (2 ^ i) (gm x c)) (λx y e d=>by show gm (gm _ (x ^^^ y)) c=_;rw[jg,kh _ _ c (lC l) (lC l)]) (λx y e d=>by show gm _ (gm (x ^^^ y) c)=_;rw[kh x y c e d,jg]) (λj n=>?_) b p;refine mX (f:=λx=>gm (gm (2 ^ i) (2 ^ j)) x) (g:=λx=>gm (2 ^ i) (gm (2 ^ j) x)) (λx y _ _=>jg _ x y) (λx y _ _=>by show gm _ (gm _ (x ^^^ y))=_;rw[jg,jg]) (λk m=>?_) c o;exact JZ (dK (dK (dK Ch i h) j n) k m)
theorem Ci:dr 256 (λx=>Nat.beq (gm x 1) x)=true:=by decide +kernel
theorem mZ (b:a<256):gm a 1=a:=JZ (dK Ci a b)
theorem vl (a:Nat):gm a 0=0:=by have:=jg a 0 0;rwa [MS,MS] at this
def eQ (a:Nat):Nat:=
 let a2:=gm a a;let a3:=gm a2 a;let a6:=gm a3 a3;let a12:=gm a6 a6;let a15:=gm a12 a3;let a30:=gm a15 a15;let a60:=gm a30 a30;let a63:=gm a60 a3
 let a126:=gm a63 a63;let a127:=gm a126 a;gm a127 a127
theorem vm:dr 256 (λx=>Nat.ble (eQ x) 255 && (Nat.beq x 0 || (Nat.beq (gm x (eQ x)) 1 && Nat.ble 1 (eQ x))))=true:=by decide +kernel
theorem vn (b:a<256):eQ a<256:=by
 have:=dK vm a b;rw[Ld] at this;have:=Kr this.1;omega
theorem Cj (c:a<256)(e:a≠0):gm a (eQ a)=1/\eQ a≠0:=by
 have h:=dK vm a c;rw[Ld,MO,Ld] at h;rcases h.2 with b|⟨b,d⟩
 ·exact absurd (JZ b) e
 ·exact⟨JZ b,by have:=Kr d;omega⟩
theorem Ck:eQ 0=0:=by decide +kernel
theorem Cl (c:a<256)(d:b<256)(h:gm a b=1):b=eQ a:=by
 have f:a≠0:=by
  rintro rfl;rw[mY c d,vl] at h;omega
 have e:=vn c;calc b=gm b 1:=(mZ d).symm
  _=gm b (gm a (eQ a)):=by rw[(Cj c f).1]
  _=gm (gm b a) (eQ a):=(vj d c e).symm
  _=gm 1 (eQ a):=by rw[mY d c,h]
  _=gm (eQ a) 1:=mY (by omega) e
  _=eQ a:=mZ e
def cZ (x n:Nat):Nat:=(x*2 ^ n) % 256 ^^^ x / 2 ^ (8 - n)
def fT (y:Nat):Nat:=y ^^^ cZ y 1 ^^^ cZ y 2 ^^^ cZ y 3 ^^^ cZ y 4 ^^^ 99
def nz (x:Nat):Nat:=fT (eQ x)
theorem vq:dr 256 (λx=>Nat.ble (fT x) 255 && dr x (λy=>!(Nat.beq (fT x) (fT y))))=true:=by decide +kernel
theorem Cm (b:a<256):nz a<256:=by
 have h:=dK vq (eQ a) (vn b);rw[Ld] at h;have:=Kr h.1;unfold nz;omega
def ba (B:Nat)(v:Value):Prop:=∀ g,v.ownBlock=some g->B<=g
theorem ba.nil (B n c:Nat):ba B (.slice none n c):=λg h=>by cases h
theorem ba.mono {C:Nat}(h:ba B v)(b:C<=B):ba C v:=λg a=>Js b (h g a)
theorem ba.kp (h:ba w'.heap.size v)(k:Kp w w'):ba w.heap.size v:=h.mono k.size

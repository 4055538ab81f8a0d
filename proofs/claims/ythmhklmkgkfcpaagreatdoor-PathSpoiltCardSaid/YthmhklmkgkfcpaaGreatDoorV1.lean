import Derived.Test.YthmhklmkgkfcpaaGreatDoorV0
import Derived.Deep.QuietTactic
import Derived.BigQuiet
import Derived.Laws.Rows
import Derived.Laws.Tables
import Derived.Test.YthmhklmkgkfcpaaGreatDoorRows
import Derived.WalkSpells
import Derived.Lib.Hide
import Derived.Outline
import Derived.Laws.PanicsMore
import Derived.StillTailTactics
import Derived.Deep.RegionHeld3
import Derived.ProofKit
import Derived.OpenShut
set_option linter.all false
set_option maxHeartbeats 8000000
set_option maxRecDepth 100000
namespace Go.Proofs.YthmhklmkgkfcpaaGreatDoor
open Go.Proofs.Tryz Go.RowKit
variable {B a b c d g i k n x y:Nat}{P:Program}{Q:Exit->Act->World->Prop}{T e t:TypeId}{l:List UInt8}{o:Oper}{v:Value}{w w' w0:World}
def Kp (w w':World):Prop:=Below w.heap.size w w'
theorem Kp.refl (w:World):Kp w w:=Below.refl _ _
theorem Kp.trans {a b c:World}(h:Kp a b)(k:Kp b c):Kp a c:=Below.trans h (Below.mono k h.size)
theorem Kp.drew {a b:World}(h:Kp a b):Kp a b.drew:=Below.drew h
theorem Kp.alloc {a b:World}(h:Kp a b)(o:Obj):Kp a (b.alloc o):=Below.alloc h h.size o
theorem Kp.cell (h:Kp w w'){p:Addr}(a:w.cell? p=some v):w'.cell? p=some v:=
 (Below.cell h (Jb w p a)).trans a
def Rd (w:World)(v:Value)(l:List UInt8):Prop:=
 ∃ a c,v=.slice a l.length c/\l.length<=c/\c<=maxLen/\(a=none->c=0) /\
  ∀ x,a=some x->∀ i,(h:i<l.length)->w.cell? (x.add i)=some (.int .u8 ((l[i]'h).toNat:Int))
theorem Rd.kp (h:Rd w v l)(k:Kp w w'):Rd w' v l:=by
 obtain⟨a,c,rfl,j,g,f,e⟩:=h;exact⟨a,c,rfl,j,g,f,λx b i d=>k.cell (e x b i d)⟩
theorem Rd.at {a:Option Addr}(h:Rd w (.slice a n c) l)(k:Nat)(q:k<n):
  ∃ b d,a=some ⟨b,d,none⟩/\b<w.heap.size/\∀ i,i<n->w.cell? ⟨b,d+i,none⟩=some (.int .u8 ((l.getD i 0).toNat:Int)):=by
 obtain⟨u,t,e,s,r,p,j⟩:=h
 simp only[IG] at e
 obtain⟨rfl,rfl,rfl⟩:=e
 cases a with
 | none=>have:=p rfl;omega
 | some x=>
  obtain⟨b,d,f⟩:=x
  have m:=j _ rfl 0 (by omega)
  have o:f=none:=by simpa [Addr.add] using Lu m
  subst o
  refine⟨b,d,rfl,Jb w _ m,λi g=>?_⟩
  have:=j _ rfl i g
  rw[Iw,Iy g,Lh,<-this]
  congr 1
  unfold Addr.add
  split <;> simp_all
theorem Rd.len {a:Option Addr}(h:Rd w (.slice a n c) l):n=l.length/\n<=c/\c<=maxLen:=by
 obtain⟨j,i,e,d,b,g,f⟩:=h;simp only[IG] at e;obtain⟨rfl,rfl,rfl⟩:=e;exact⟨rfl,d,b⟩
theorem Rd.shape (h:Rd w v l):∃ a c,v=.slice a l.length c/\l.length<=c/\c<=maxLen:=by
 obtain⟨j,i,e,d,b,g,f⟩:=h;exact⟨_,_,e,d,b⟩
def val (l:List UInt8):Nat:=l.foldl (λn b=>256*n+b.toNat) 0
theorem nH (l:List UInt8)(k:Nat)(h:k<l.length):l.take (k+1)=l.take k++[l.getD k 0]:=by
 rw[IP h,Iw,Iy h];rfl
def be:Nat->Nat->List UInt8
 | 0,_=>[]
 | w+1,n=>be w (n / 256)++[UInt8.ofNat n]
theorem bT:∀ w n,(be w n).length=w
 | 0,_=>rfl
 | w+1,n=>by simp[be,bT w]
theorem sr (w:World)(b d e:TypeId)(v:Value)(l:List UInt8)(h:Rd w v l)(f:P.underlying b=some (.slice e))(g:P.underlying e=some (.int .u8))(i:P.underlying d=some .string):
  (convert b d v).run P w=.ok (.string ⟨l.toArray⟩) w:=by
 obtain⟨a,c,rfl,o,n,m,k⟩:=h
 cases a with
 | none=>
  have j:l=[]:=by have:=m rfl;exact IX (by omega)
  subst j
  rw[run_convert_bytes_nil w b e f g _ _ d i]
  rfl
 | some x=>exact run_convert_bytes_back w b d e x c l f g i (k x rfl)
theorem jy:∀ t n,be (t+1) n=UInt8.ofNat (n / 256 ^ t) :: be t n
 | 0,n=>by simp[be]
 | t+1,n=>by
  rw[be,jy t (n / 256),be,JG,JS,Ls,Ks 256]
def Ow (e:TypeId)(w:World)(B:Nat)(v:Value)(l:List UInt8):Prop:=w.ownsRow B e 1 v l.length (Lib.byteCells l)
theorem cX (l:List UInt8):(Lib.byteCells l).length=l.length:=by simp[Lib.byteCells]
theorem iz (l:List UInt8)(i:Nat)(h:i<l.length):(Lib.byteCells l)[i]?=some (.int .u8 ((l[i]'h).toNat:Int)):=by
 simp[Lib.byteCells,Jt,Iy h]
theorem pL (l m:List UInt8):Lib.byteCells (l++m)=Lib.byteCells l++Lib.byteCells m:=by simp[Lib.byteCells]
theorem Ow.shape (h:Ow e w B v l):
  (v=.slice none 0 0/\l=[])\/∃ g c,v=.slice (some ⟨g,0,none⟩) l.length c/\B<=g/\g<w.heap.size/\l.length<=c/\c<=maxLen:=by
 rcases h.2 with⟨rfl,h0⟩|⟨g,cap,cur,rfl,hb,hg,hn,hm,_⟩
 ·exact .inl ⟨rfl,IX h0⟩
 ·exact .inr ⟨g,cap,rfl,hb,(Iz.1 hg).1,hn,hm⟩
theorem Ow.rd (h:Ow e w B v l):Rd w v l:=by
 rcases h.shape with⟨rfl,rfl⟩|⟨g,c,rfl,_,_,hc,hm⟩
 ·exact⟨none,0,rfl,IB _,IO _,λ_=>rfl,λx a=>by cases a⟩
 ·refine⟨_,c,rfl,hc,hm,λh=>(by cases h),λx a i b=>?_⟩
  cases a;have:=World.ownsRow.cellAt h i (by omega);rw[iz l i b] at this;rw[<-this];congr 1
  unfold Addr.add;split <;> simp_all
theorem Ow.kp (h:Ow e w B v l)(k:Kp w w'):Ow e w' B v l:=by
 refine⟨h.1,?_⟩;rcases h.2 with d|⟨g,b,a,rfl,f,c,rest⟩
 ·exact .inl d
 ·exact .inr ⟨g,b,a,rfl,f,(Below.block k g (Iz.1 c).1).trans c,rest⟩
theorem Ow.mono (h:Ow e w B v l)(i:d<=B):Ow e w d v l:=by
 refine⟨h.1,?_⟩;rcases h.2 with f|⟨g,c,b,rfl,a,rest⟩
 ·exact .inl f
 ·exact .inr ⟨g,c,b,rfl,IU i a,rest⟩
theorem Ow.nil (e:TypeId)(w:World)(B:Nat):Ow e w B (.slice none 0 0) []:=LZ _ _ _ _
theorem Kp.grown (h:Kp w0 w)(b:w.grownBy w' v.ownBlock)(a:∀ k,v.ownBlock=some k->w0.heap.size<=k):Kp w0 w':=
 Below.grown h b h.size a
theorem Ow.own_ge (h:Ow e w B v l):∀ k,v.ownBlock=some k->B<=k:=λk a=>(Jw h k a).1
theorem Rd.cut {a:Option Addr}(h:Rd w (.slice a n c) l)(b d:Nat)(o:b<=d)(A:d<=n)(q:Option Addr)(n' p:Nat)
  (u:q=if c=b then a else a.map (·.add b)) (s:n'=d - b) (t:p=c - b):Rd w (.slice q n' p) ((l.drop b).take (d - b)):=by
 obtain⟨E,D,e,C,B,k,z⟩:=h;simp only[IG] at e;obtain⟨rfl,rfl,rfl⟩:=e;subst u s t;have m:((l.drop b).take (d - b)).length=d - b:=by simp;omega
 refine⟨_,c - b,by rw[m],by omega,by omega,λh=>?_,λx g i j=>?_⟩
 ·split at h
  ·have:=k h;omega
  ·cases a with
   | none=>have:=k rfl;omega
   | some y=>simp at h
 ·rw[m] at j
  split at g
  ·omega
  ·cases a with
   | none=>have:=k rfl;omega
   | some y=>
    simp only[Option.map_some,Jo] at g;subst g;have r:=z y rfl (b+i) (by omega);have f:(y.add b).add i=y.add (b+i):=by
     unfold Addr.add;by_cases v:b=0 <;> by_cases o:i=0 <;> simp[v,o,Kw]
    rw[f,r];simp
structure U8 (P:Program)(t e:TypeId):Prop where
 ht:P.underlying t=some (.slice e)
 hi:∃ i,P.info? e=some i/\i.zero=some (.int .u8 0)/\i.size=1/\i.bytes=1
theorem U8.mk' (d:P.underlying t=some (.slice e))(h:(P.info? e).map (λi=>(i.zero,i.size,i.bytes))=some (some (.int .u8 0),1,1)):U8 P t e:=by
 obtain⟨i,f,c,b,a⟩:=info_parts h;exact⟨d,i,f,c,b,a⟩
theorem Rd.box (w:World)(e:TypeId)(x:Int)(b:UInt8)(h:x=b.toNat):Rd (w.alloc (.cells #[.int .u8 x] e)) (.slice (some ⟨w.heap.size,0,none⟩) 1 1) [b]:=by
 subst h;refine⟨_,1,rfl,IB _,by unfold maxLen;omega,λh=>(by cases h),λy c i a=>?_⟩;cases c;have:i=0:=by simp at a;exact a
 subst this;simp[Addr.add,World.cell?,-World.alloc_eq,World.alloc]
theorem cj (U:U8 P t e){q:Array Oper}{rest:List Oper}{a:Act}(A:o.guard=none)(s x:Operand)
  (K:o.op=.call { callee:=.builtin .append,args:=#[s,x],argTypes:=#[t,t] })
  (B:Nat) (v:Value) (l:List UInt8) (J:a.eval s=v) (d:Ow e w B v l) (u:Value) (m:List UInt8) (I:a.eval x=u) (N:Rd w u m)
  (L:l.length+m.length<=140737488355328) (n:B<=w.heap.size)
  (h:∀ p w',Ow e w' B p (l++m)->w.grownBy w' v.ownBlock->(p=.slice none 0 0->l=[]/\m=[])->wpList P q Q rest (a.put o.dst p) w'):wpList P q Q (o :: rest) a w:=by
 obtain⟨i,M,D,f,H⟩:=U.hi
 obtain⟨C,c,rfl,X,W,r,k⟩:=N
 cases C with
 | none=>
  have G:=r rfl
  have E:m=[]:=IX (by omega)
  subst E
  subst G
  refine wpList_append_own_none A s x t K B e i 1 U.ht M v l.length (Lib.byteCells l) J d I ?_
  refine h v w (by simpa using d) ⟨rfl,rfl,rfl,IB _,λ_ _ _=>rfl⟩ (λe=>?_)
  subst e
  rcases d.shape with⟨_,h⟩|⟨g,c,h,_⟩
  ·exact⟨h,rfl⟩
  ·cases h
 | some C=>
  refine wpList_append_own w A s x t K B e i (.int .u8 0) 1 1 U.ht M D f H rfl (by decide) v l.length (Lib.byteCells l) J d C m.length c (Lib.byteCells m) I (by rw[cX];omega) (λj z F=>?_) (λz D=>?_) (by unfold maxLen;omega) (by omega) n
   (λp w' S R O=>h p w' (by unfold Ow;rw[IE,pL];exact S) R (λe=>?_))
  ·have y:j<m.length:=by
    have:=(Jk.1 F).1
    rwa [cX] at this
   rw[iz m j y] at F
   cases F
   exact k C rfl j y
  ·obtain⟨b,_,rfl⟩:=Ju.1 D
   rfl
  ·obtain⟨V,T⟩:=O.1 e
   subst V
   rcases d.shape with⟨_,h⟩|⟨g,c,h,_⟩
   ·exact⟨h,IX T⟩
   ·cases h
theorem Below.grown' (h:Below B w0 w)(b:w.grownBy w' v.ownBlock)(c:B<=w.heap.size)(a:Ow e w B v l):Below B w0 w':=
 Below.grown h b c a.own_ge
def pw (k:Nat):Nat:=256 ^ k
theorem yI (k:Nat):0<pw k:=Nat.pow_pos (by decide)
theorem su (k:Nat):pw (k+1)=256*pw k:=by unfold pw;rw[Ls];omega
theorem yJ (k:Nat)(h:k<=6):pw k<=281474976710656:=by
 have b:256 ^ k<=256 ^ 6:=JH (by omega) h;have a:(256:Nat) ^ 6=281474976710656:=by decide
 unfold pw;omega
theorem yK (k:Nat)(h:k<=7):pw k<=72057594037927936:=by
 have b:256 ^ k<=256 ^ 7:=JH (by omega) h;have a:(256:Nat) ^ 7=72057594037927936:=by decide
 unfold pw;omega
theorem Rd.cutAt (h:Rd w (.slice (some ⟨b,d,none⟩) n c) l)(a k:Nat)(f:a+k<=n)(g:a<c):
  Rd w (.slice (some ⟨b,d+a,none⟩) k (c - a)) ((l.drop a).take k):=by
 have:=h.cut a (a+k) (by omega) f _ k (c - a) rfl (by omega) rfl;rw[if_neg (by omega)] at this;have e:(⟨b,d,none⟩:Addr).add a=⟨b,d+a,none⟩:=by unfold Addr.add;split <;> simp_all
 simpa [e] using this
theorem Ow.lit (w:World)(e:TypeId)(B n:Nat)(cs:Array Value)(l:List UInt8)(c:B<=w.heap.size)(b:l.length=n)(d:n<=1000000)(a:cs.toList=Lib.byteCells l):
  Ow e (w.alloc (.cells cs e)) B (.slice (some ⟨w.heap.size,0,none⟩) n n) l:=by
 subst b;unfold Ow;rw[<-a];exact JW w cs l.length c (by unfold maxLen;omega) (by rw[<-LK,a,cX];omega)
theorem pM {f:FuncId}{args:Array Value}
  (h:Calls P f args (w.drewN n) λe w'=>e=.returned v/\w.drewN n=w'):Calls P f args (w.drewN n) λe a=>e=.returned v/\∃ m,a=w.drewN m:=
 h.mono λ_ _ ⟨c,b⟩=>⟨c,n,b.symm⟩
theorem Kp.drewN {a b:World}(h:Kp a b)(n:Nat):Kp a (b.drewN n):=by
 induction n with
 | zero=>exact h
 | succ n ih=>exact ih.drew
def Yes (w:World)(e:Ending)(w':World):Prop:=e=.returned (.bool true)/\Kp w w'
def cK (x y:UInt32):UInt32:=x+y
def iF (x y:UInt32):UInt32:=x ^^^ y
def kq (x y:UInt32):UInt32:=x &&& y
def wor (x y:UInt32):UInt32:=x ||| y
def td (x:UInt32):UInt32:=iF 0xffffffff x
def qk (k:Nat)(x:UInt32):UInt32:=UInt32.ofNat (x.toNat*2 ^ k)
def kr (k:Nat)(x:UInt32):UInt32:=UInt32.ofNat (x.toNat / 2 ^ k)
def ja (k:Nat)(x:UInt32):UInt32:=wor (kr k x) (qk (32 - k) x)
def big (i j k:Nat)(x:UInt32):UInt32:=iF (iF (ja i x) (ja j x)) (ja k x)
def small (i j k:Nat)(x:UInt32):UInt32:=iF (iF (ja i x) (ja j x)) (kr k x)
def gw (a b c d:UInt8):UInt32:=UInt32.ofNat (16777216*a.toNat+65536*b.toNat+256*c.toNat+d.toNat)
def gU (l:List UInt8)(w:List UInt32)(t:Nat):UInt32:=
 if t<16 then gw (l.getD (4*t) 0) (l.getD (4*t+1) 0) (l.getD (4*t+2) 0) (l.getD (4*t+3) 0)
 else cK (cK (cK (small 17 19 10 (w.getD (t - 2) 0)) (w.getD (t - 7) 0)) (small 7 18 3 (w.getD (t - 15) 0))) (w.getD (t - 16) 0)
def de (l:List UInt8):Nat->List UInt32
 | 0=>[]
 | t+1=>de l t++[gU l (de l t) t]
structure S8 where
 a:UInt32
 b:UInt32
 c:UInt32
 d:UInt32
 e:UInt32
 f:UInt32
 g:UInt32
 h:UInt32
deriving DecidableEq
def S8.list (s:S8):List UInt32:=[s.a,s.b,s.c,s.d,s.e,s.f,s.g,s.h]
def t1 (s:S8)(k w:UInt32):UInt32:=cK (cK (cK (cK s.h (big 6 11 25 s.e)) (iF (kq s.e s.f) (kq (td s.e) s.g))) k) w
def t2 (s:S8):UInt32:=cK (big 2 13 22 s.a) (iF (iF (kq s.a s.b) (kq s.a s.c)) (kq s.b s.c))
def rnd (s:S8)(k w:UInt32):S8:=⟨cK (t1 s k w) (t2 s),s.a,s.b,s.c,cK s.d (t1 s k w),s.e,s.f,s.g⟩
def nY (k w:List UInt32)(s:S8):Nat->S8
 | 0=>s
 | t+1=>rnd (nY k w s t) (k.getD t 0) (w.getD t 0)
def S8.add (s r:S8):S8:=⟨cK s.a r.a,cK s.b r.b,cK s.c r.c,cK s.d r.d,cK s.e r.e,cK s.f r.f,cK s.g r.g,cK s.h r.h⟩
def lM (k:List UInt32)(s:S8)(l:List UInt8):S8:=s.add (nY k (de l 64) s 64)
def df:S8:=⟨0x6a09e667,0xbb67ae85,0x3c6ef372,0xa54ff53a,0x510e527f,0x9b05688c,0x1f83d9ab,0x5be0cd19⟩
def cG:List UInt32:=[
 0x428a2f98,0x71374491,0xb5c0fbcf,0xe9b5dba5,0x3956c25b,0x59f111f1,0x923f82a4,0xab1c5ed5,
 0xd807aa98,0x12835b01,0x243185be,0x550c7dc3,0x72be5d74,0x80deb1fe,0x9bdc06a7,0xc19bf174,
 0xe49b69c1,0xefbe4786,0x0fc19dc6,0x240ca1cc,0x2de92c6f,0x4a7484aa,0x5cb0a9dc,0x76f988da,
 0x983e5152,0xa831c66d,0xb00327c8,0xbf597fc7,0xc6e00bf3,0xd5a79147,0x06ca6351,0x14292967,
 0x27b70a85,0x2e1b2138,0x4d2c6dfc,0x53380d13,0x650a7354,0x766a0abb,0x81c2c92e,0x92722c85,
 0xa2bfe8a1,0xa81a664b,0xc24b8b70,0xc76c51a3,0xd192e819,0xd6990624,0xf40e3585,0x106aa070,
 0x19a4c116,0x1e376c08,0x2748774c,0x34b0bcb5,0x391c0cb3,0x4ed8aa4a,0x5b9cca4f,0x682e6ff3,
 0x748f82ee,0x78a5636f,0x84c87814,0x8cc70208,0x90befffa,0xa4506ceb,0xbef9a3f7,0xc67178f2]
def fill (n:Nat):Nat:=(119 - n % 64) % 64
def pad (n:Nat):List UInt8:=128 :: List.replicate (fill n) 0++be 8 (8*n)
def bE (s:S8)(l:List UInt8):Nat->S8
 | 0=>s
 | k+1=>lM cG (bE s l k) ((l.drop (64*k)).take 64)
def eQ (l:List UInt8):List UInt8:=l++pad l.length
def ks (x:UInt32):List UInt8:=[UInt8.ofNat (x.toNat / 16777216),UInt8.ofNat (x.toNat / 65536),UInt8.ofNat (x.toNat / 256),UInt8.ofNat x.toNat]
def S8.bytes (s:S8):List UInt8:=s.list.flatMap ks
def bH (l:List UInt8):List UInt8:=(bE df (eQ l) ((eQ l).length / 64)).bytes
def aa (x:UInt32):Int:=(x.toNat:Int)
theorem te (x:UInt32):0<=aa x:=Int.natCast_nonneg _
theorem tf (x:UInt32):aa x<4294967296:=by unfold aa;have:=x.toNat_lt;omega
theorem tg (n:Nat)(h:n<4294967296):aa (UInt32.ofNat n)=n:=by
 unfold aa;rw[UInt32.toNat_ofNat'];congr 1
 exact JO h
theorem th (n:Nat):aa (UInt32.ofNat n)=(n:Int) % 4294967296:=by
 unfold aa;rw[UInt32.toNat_ofNat'];simp
theorem jD (x:UInt32):IntKind.u32.wrap (aa x)=aa x:=by rw[Ll];have:=te x;have:=tf x;omega
theorem nZ (x y:UInt32):IntKind.u32.wrap (aa x+aa y)=aa (cK x y):=by
 rw[Ll];unfold aa cK;rw[UInt32.toNat_add];simp
theorem ql (x:UInt32):BitVec.ofInt IntKind.u32.bits (aa x)=x.toBitVec:=by
 unfold aa;rw[JX];apply Mc;simp[IntKind.bits]
theorem lN (x y:UInt32):bits .xor .u32 (aa x) (aa y)=aa (iF x y):=by
 simp only[bits,ql];change IntKind.u32.wrap (aa (x ^^^ y))=_;exact jD _
theorem oa (x y:UInt32):bits .and .u32 (aa x) (aa y)=aa (kq x y):=by
 simp only[bits,ql];change IntKind.u32.wrap (aa (x &&& y))=_;exact jD _
theorem od (x y:UInt32):bits .or .u32 (aa x) (aa y)=aa (wor x y):=by
 simp only[bits,ql];change IntKind.u32.wrap (aa (x ||| y))=_;exact jD _
theorem lO (k:Nat)(x:UInt32):IntKind.u32.wrap (aa x*2 ^ k)=aa (qk k x):=by
 rw[Ll];unfold qk;rw[th];unfold aa;simp
theorem jb (k:Nat)(x:UInt32):aa x / 2 ^ k=aa (kr k x):=by
 unfold kr;have h:=x.toNat_lt;have a:x.toNat / 2 ^ k<=x.toNat:=Mm _ _;rw[tg _ (by omega)];unfold aa;simp
theorem zN (x:UInt32):aa x / 8=aa (kr 3 x):=jb 3 x
theorem zO (x:UInt32):aa x / 1024=aa (kr 10 x):=jb 10 x
theorem zP (x y:UInt32):wor x y=wor y x:=by unfold wor;exact UInt32.or_comm x y
def lP (x:UInt32):Value:=.int .u32 (aa x)
def aX (l:List UInt32):Array Value:=(l.map lP).toArray
def Arr (T:TypeId)(w:World)(g:Nat)(l:List UInt32):Prop:=w.heap[g]?=some (.cells (aX l) T (0,0))
theorem lQ (l:List UInt32):(aX l).size=l.length:=by simp[aX]
theorem qm (l:List UInt32)(i:Nat)(h:i<l.length):(aX l)[i]?=some (.int .u32 (aa (l.getD i 0))):=by
 simp[aX,lP,h]
theorem Arr.lt {l:List UInt32}(h:Arr T w g l):g<w.heap.size:=(Iz.1 h).1
theorem Arr.cell {l:List UInt32}(h:Arr T w g l)(i:Nat)(a:i<l.length):w.cell? ⟨g,i,none⟩=some (.int .u32 (aa (l.getD i 0))):=by
 rw[cell_of_row w g i _ T _ h,qm l i a]
theorem Arr.frozen {l:List UInt32}(h:Arr T w g l)(i:Nat)(b:i<l.length):w.frozen? ⟨g,i,none⟩=false:=by
 have a:=h;unfold Arr at a;simp[World.frozen?,a]
theorem Arr.kp {l:List UInt32}(h:Arr T w g l)(k:Kp w w'):Arr T w' g l:=
 (k.block g h.lt).trans h
theorem Arr.below {l:List UInt32}(h:Arr T w g l)(k:Below B w w')(a:g<B):Arr T w' g l:=
 (k.block g a).trans h
theorem Arr.drewN {l:List UInt32}(h:Arr T w g l)(n:Nat):Arr T (w.drewN n) g l:=h.kp ((Kp.refl w).drewN n)
theorem Arr.drew {l:List UInt32}(h:Arr T w g l):Arr T w.drew g l:=h
theorem Arr.alloc {l:List UInt32}(h:Arr T w g l)(o:Obj):Arr T (w.alloc o) g l:=(Below.heap_alloc w o g h.lt).trans h
theorem Arr.new (T:TypeId)(w:World)(cs:Array Value)(l:List UInt32)(h:cs=aX l):Arr T (w.alloc (.cells cs T)) w.heap.size l:=by
 subst h;exact heap_alloc_new w _
theorem zQ (l:List UInt32)(i:Nat)(x:UInt32):(aX l).setIfInBounds i (lP x)=aX (l.set i x):=by
 apply Array.ext';simp[aX,List.map_set]
theorem Arr.set {l:List UInt32}(h:Arr T w g l)(i:Nat)(x:UInt32)(v:Value)(d:v=.int .u32 (aa x)):Arr T (w.setCell ⟨g,i,none⟩ v) g (l.set i x):=by
 subst d;have c:=h;unfold Arr at c ⊢;obtain⟨a,b⟩:=Iz.1 c;have e:=zQ l i x;unfold lP at e;simp[World.setCell,a,La,b,e]
theorem Arr.setTo {l m:List UInt32}(h:Arr T w g l)(i:Nat)(x:UInt32)(a:l.set i x=m):Arr T (w.setCell ⟨g,i,none⟩ (.int .u32 (aa x))) g m:=a▸h.set i x _ rfl
theorem Arr.other {l:List UInt32}(h:Arr T w g l)(a:Addr)(v:Value)(b:g≠a.block):Arr T (w.setCell a v) g l:=
 (Below.heap_setCell w a v g b).trans h
section
variable {P : Program}
theorem iG {c:TypeId}(i:P.underlying c=some (.array n e))(m:(P.info? c).map (·.size)=some n){b:Array Oper}{rest:List Oper}{a:Act}(d:o.guard=none)(x:Operand)(j:o.op=.load c x)
  (g:Nat) (l:List UInt32) (f:a.eval x=.pointer (some ⟨g,0,none⟩)) (h:Arr T w g l) (k:l.length=n)
  (p:wpList P b Q rest (a.put o.dst (.agg (aX l))) w):wpList P b Q (o :: rest) a w:=
 wpList_load_row d c x j g f T (aX l) (0,0) _ h i rfl (by rw[m,lQ,k]) p
theorem zR (l:List UInt32):(aX l).all (·.oneCell')=true:=by
 rw[Kv];intro v a;simp only[aX,List.mem_toArray,Ju] at a;obtain⟨x,_,rfl⟩:=a;rfl
theorem Arr.setRow {l:List UInt32}(h:Arr T w g l)(m:List UInt32):Arr T (w.setRow g (aX m)) g m:=by
 unfold Arr at h ⊢;obtain⟨a,b⟩:=Iz.1 h;simp[World.setRow,a,La,b]
theorem setRow_other (w:World)(g k:Nat)(cs:Array Value)(h:k≠g):(w.setRow g cs).heap[k]?=w.heap[k]?:=by
 simp only[World.setRow];rw[Array.getElem?_modify,if_neg (Mt h)]
theorem Arr.setRow_other {l:List UInt32}(h:Arr T w k l)(cs:Array Value)(a:k≠g):Arr T (w.setRow g cs) k l:=
 (Go.Proofs.YthmhklmkgkfcpaaGreatDoor.setRow_other w g k cs a).trans h
theorem below_setRow {a:World}(h:Below B a w)(c:B<=g)(cs:Array Value):Below B a (w.setRow g cs):=
 ⟨h.os,h.tape,h.output,by simpa [World.setRow] using h.size,λk b=>(setRow_other w g k cs (by omega)).trans (h.block k b)⟩
theorem ti {c:TypeId}(p:(P.info? c).map (·.size)=some n){b:Array Oper}{rest:List Oper}{a:Act}(d:o.guard=none)(x y:Operand)(j:o.op=.store c x y)
  (g:Nat) (l m:List UInt32) (i:a.eval x=.pointer (some ⟨g,0,none⟩)) (f:a.eval y=.agg (aX m)) (h:Arr T w g l) (k:l.length=n) (e:m.length=n)
  (q:wpList P b Q rest (a.put o.dst undef) (w.setRow g (aX m))):wpList P b Q (o :: rest) a w:=
 wpList_store_row d c x y j g (aX m) i f T (aX l) h (by rw[p,lQ,e]) (by rw[lQ,lQ,k,e]) (zR m) q
theorem kt {z:Value}(u:P.underlying t=some (.slice e))(d:(P.info? e).map (λi=>(i.zero,i.size,i.bytes))=some (some z,1,b))(s:z.cells=#[z])(D:b<=8)
  {f:Array Oper} {rest:List Oper}  {a:Act}   (B:o.guard=none) (l c:Operand) (m:o.op=Op.makeSlice t l c) (n:Nat) (y:a.eval l=.int .i64 n) (C:a.eval c=.int .i64 n) (v:n<=1000000)
  (E:∀ W,W=w.alloc (.cells (Array.replicate n z) e)->wpList P f Q rest (a.put o.dst (.slice (some ⟨w.heap.size,0,none⟩) n n)) W):wpList P f Q (o :: rest) a w:=by
 obtain⟨i,A,k,j,g⟩:=info_parts d;refine wpList_plain B λK q=>?_
 have p:(i.bytes:Int)*(n:Int)<=281474976710656:=by
  rw[g];have h:=Kc D v;have F:((b*n:Nat):Int)<=((8*1000000:Nat):Int):=by omega
  rw[Ky] at F;omega
 have r:=run_make (P:=P) w t e i z u A k .i64 .i64 n n (by omega) (Int.le_refl _) p (by omega);have x:madeCells #[z] n=Array.replicate n z:=by
  apply Array.ext';rw[toList_madeCells_one];simp
 rw[s,j,IM,Mk,x] at r;unfold Oper.wp;simp[execOp,m,y,C,r,Result.andThen];exact q _ _ (E _ rfl)
structure But (g:Nat)(w W:World):Prop where
 below:∀ {B:Nat} {a:World},Below B a w->B<=g->Below B a W
 arr:∀ {T:TypeId} {k:Nat} {l:List UInt32},Arr T w k l->k≠g->Arr T W k l
 size:W.heap.size=w.heap.size
 other:∀ k,k≠g->W.heap[k]?=w.heap[k]?
theorem But.setRow (g:Nat)(w:World)(cs:Array Value):But g w (w.setRow g cs):=⟨λh c=>below_setRow h c cs,λh a=>h.setRow_other cs a,by simp[World.setRow],λk b=>Go.Proofs.YthmhklmkgkfcpaaGreatDoor.setRow_other w g k cs b⟩
theorem gV {d:TypeId}(p:(P.info? d).map (·.size)=some n){b:Array Oper}{rest:List Oper}{a:Act}(c:o.guard=none)(q:o.dst=none)(x y:Operand)(i:o.op=.store d x y)
  (g:Nat) (l m:List UInt32) (f:a.eval x=.pointer (some ⟨g,0,none⟩)) (e:a.eval y=.agg (aX m)) (h:Arr T w g l) (k:l.length=n) (j:m.length=n)
  (r:∀ W,Arr T W g m->But g w W->wpList P b Q rest a W):wpList P b Q (o :: rest) a w:=
 ti p c x y i g l m f e h k j (by rw[q];exact r _ (h.setRow m) (But.setRow g w _))
theorem ku {a:TypeId}(c:P.underlying a=some (.array n e))(j:(P.info? a).map (·.size)=some n){b:Func}{p:Tmp}(d:b.results=#[.cell p a])(tmps:Array Value)(w:World)(g:Nat)(l:List UInt32)
  (f:tmps.getD p undef=.pointer (some ⟨g,0,none⟩)) (h:Arr T w g l) (i:l.length=n):(results b tmps).run P w=.ok (.agg (aX l)) w:=
 results_cell_row d tmps w g T (aX l) (0,0) _ f h c rfl (by rw[j,lQ,i])
end
def By (T:TypeId)(w:World)(g:Nat)(l:List UInt8):Prop:=w.heap[g]?=some (.cells (Lib.byteCells l).toArray T (0,0))
theorem By.lt (h:By T w g l):g<w.heap.size:=(Iz.1 h).1
theorem By.cell (h:By T w g l)(i:Nat)(a:i<l.length):w.cell? ⟨g,i,none⟩=some (.int .u8 ((l.getD i 0).toNat:Int)):=by
 rw[cell_of_row w g i _ T _ h];simp[Lib.byteCells,a]
theorem By.frozen (h:By T w g l)(i:Nat):w.frozen? ⟨g,i,none⟩=false:=by
 have a:=h;unfold By at a;simp[World.frozen?,a]
theorem By.kp (h:By T w g l)(k:Kp w w'):By T w' g l:=(k.block g h.lt).trans h
theorem By.set {m:List UInt8}(h:By T w g l)(i:Nat)(x:UInt8)(d:l.set i x=m):By T (w.setCell ⟨g,i,none⟩ (.int .u8 (x.toNat:Int))) g m:=by
 subst d;have c:=h;unfold By at c ⊢;obtain⟨a,b⟩:=Iz.1 c;simp[World.setCell,a,La,b,Lib.byteCells,List.map_set]
theorem By.rd (h:By T w g l)(m:n<=l.length)(k:n<=c)(f:c<=maxLen):Rd w (.slice (some ⟨g,0,none⟩) n c) (l.take n):=by
 have e:(l.take n).length=n:=by simp;omega
 refine⟨some ⟨g,0,none⟩,c,by rw[e],by rw[e];exact k,f,λh=>(by cases h),λx d i j=>?_⟩;cases d;rw[e] at j;have:=h.cell i (by omega);rw[Lr];rw[Iw,Iy (by omega)] at this;rw[<-Lh (a:=l[i]) (b:=0),<-this];congr 1
 unfold Addr.add;split <;> simp_all
theorem By.rdAll (h:By T w g l)(d:n=l.length)(b:n<=c)(a:c<=maxLen):Rd w (.slice (some ⟨g,0,none⟩) n c) l:=by
 have:=h.rd (n:=n) (by omega) b a;rwa [Jm (by omega)] at this
theorem By.fresh (T:TypeId)(w:World)(n:Nat):By T (w.alloc (.cells (Array.replicate n (.int .u8 0)) T)) w.heap.size (List.replicate n 0):=by
 have:=heap_alloc_new w (.cells (Array.replicate n (.int .u8 0)) T);unfold By;rw[this];simp[Lib.byteCells]
def aP (A B:List UInt8)(i:Nat):List UInt8:=B.take i++A.drop i
theorem gx (A B:List UInt8)(i:Nat)(h:A.length=B.length)(a:i<=A.length):(aP A B i).length=A.length:=by simp[aP];omega
theorem iH (A B:List UInt8)(i:Nat)(h:A.length=B.length)(d:i<A.length)(x:UInt8)(a:B[i]?=some x):(aP A B i).set i x=aP A B (i+1):=by
 unfold aP;have b:i<B.length:=by omega
 have c:(B.take i).length=i:=by simp;omega
 rw[Iy b] at a;rw[Lz _ _ (by omega),c,Lb,Kx d,Je,IP b,Kb];cases a;rfl
theorem jE (A B:List UInt8)(h:A.length=B.length):aP A B B.length=B:=by
 unfold aP;rw[Jm (IB _),Lw (by omega),JV]
theorem qn:∀ (w N k:Nat),k<w->(be w N)[k]?=some (UInt8.ofNat (N / 256 ^ (w - 1 - k)))
 | 0,_,k,h=>by omega
 | w+1,N,0,_=>by rw[jy];simp
 | w+1,N,k+1,h=>by
  rw[jy,IK,qn w N k (by omega)]
  congr 4
  omega
theorem kw (n:Nat):fill n<64:=by unfold fill;omega
theorem kx (n:Nat):(pad n).length=9+fill n:=by simp[pad,bT];omega
theorem tj (n:Nat):(n+(pad n).length) % 64=0:=by rw[kx];unfold fill;omega
theorem zS (n k:Nat)(h:k<8):(pad n)[1+fill n+k]?=some (UInt8.ofNat (8*n / 256 ^ (7 - k))):=by
 have e:(128 :: List.replicate (fill n) 0:List UInt8).length=1+fill n:=by simp;omega
 have a:pad n=(128 :: List.replicate (fill n) 0)++be 8 (8*n):=rfl;rw[a,Jd (by omega),e,show 1+fill n+k - (1+fill n)=k by omega,qn 8 _ k h]
theorem zT (n:Nat):(List.replicate (9+fill n) (0:UInt8)).set 0 128=aP (List.replicate (9+fill n) 0) (pad n) (1+fill n):=by
 have e:(128 :: List.replicate (fill n) 0:List UInt8).length=1+fill n:=by simp;omega
 have a:pad n=(128 :: List.replicate (fill n) 0)++be 8 (8*n):=rfl;unfold aP;rw[a,Kf (by omega),Jm (by omega),List.drop_replicate,show 9+fill n=(fill n+8)+1 by omega,List.replicate_succ,Je,show fill n+8+1 - (1+fill n)=8 by omega,JG,List.replicate_append_replicate]
def jc (n:Int):List UInt8:=if 0<=n/\n<=1125899906842624 then pad n.toNat else []
theorem lR (u v:Value)(l m:List UInt8)(w:World)(h:Rd w u l)(a:Rd w v m):
  Calls prog 29 #[u,v] w λe w'=>e=.returned (.bool (decide (l=m)))/\w=w':=by
 have c:=sr w 24 9 5 u l h underlying24 underlying5 underlying9;have b:=sr w 24 9 5 v m a underlying24 underlying5 underlying9;go_enter func29,ntmps29;go_wp2;go_ret;exact⟨by simp[Bool.beq_eq_decide_eq],rfl⟩
theorem info5:(prog.info? 5).map (λi=>(i.zero,i.size,i.bytes))=some (some (.int .u8 0),1,1):=by kernel_rfl
theorem ag:U8 prog 24 5:=U8.mk' underlying24 info5
def eR (n x:Nat):Nat:=(2*x+n / (x*x)) / 3
def gy:Nat->Nat->Nat->Nat
 | 0,_,x=>x
 | f+1,n,x=>if x<=eR n x then x else gy f n (eR n x)
def dy (n:Nat):Nat:=gy 2097152 n 2097152
theorem Ad (f n x:Nat)(h:x<=eR n x):gy f n x=x:=by
 cases f with
 | zero=>rfl
 | succ f=>simp[gy,h]
theorem Ae (f n x:Nat)(a:x<=f)(h:¬x<=eR n x):∃ g,eR n x<=g/\gy g n (eR n x)=gy f n x:=by
 cases f with
 | zero=>omega
 | succ f=>exact⟨f,by omega,by simp[gy,h]⟩
theorem tv (n x:Nat)(b:1<=n)(a:1<=x):1<=eR n x:=by
 unfold eR;by_cases h:x=1
 ·subst h
  simp;omega
 ·generalize n / (x*x)=d
  omega
theorem tx:∀ (f n x:Nat),1<=n->1<=x->1<=gy f n x/\gy f n x<=x
 | 0,n,x,_,h=>⟨h,IB _⟩
 | f+1,n,x,h0,h=>by
  unfold gy
  split
  ·exact⟨h,IB _⟩
  ·have:=tx f n (eR n x) h0 (tv n x h0 h)
   omega
def bZ (p:Nat):Nat:=p*18014398509481984
def lS (p:Nat):Nat:=bZ p - dy (bZ p)*dy (bZ p)*dy (bZ p)
def qp (p:Nat):Nat:=dy (bZ p)*16384+lS p*16384 / (3*dy (bZ p)*dy (bZ p))
def lU (p:Nat):UInt32:=UInt32.ofNat (qp p)
def qq (p:Nat):Bool:=decide (dy (bZ p)*dy (bZ p)*dy (bZ p)<=bZ p) && decide (lS p<281474976710656)
theorem Af:∀ p:Fin 312,p.val=0\/qq p.val=true:=by decide +kernel
def fQ:Nat->Nat->Nat->List Bool->List Bool
 | 0,_,_,D=>D
 | f+1,p,n,D=>if n<312 then fQ f p (n+p) (D.set n true) else D
theorem Ag (f p n:Nat)(D:List Bool)(h:¬n<312):fQ f p n D=D:=by
 cases f with
 | zero=>rfl
 | succ f=>simp[fQ,h]
theorem Ah (f p n:Nat)(D:List Bool)(h:n<312)(a:1<=p)(b:312<=f+n):∃ g,312<=g+(n+p)/\fQ g p (n+p) (D.set n true)=fQ f p n D:=by
 cases f with
 | zero=>omega
 | succ f=>exact⟨f,by omega,by simp[fQ,h]⟩
theorem tz:∀ (f p n:Nat) (D:List Bool),(fQ f p n D).length=D.length
 | 0,_,_,_=>rfl
 | f+1,p,n,D=>by
  unfold fQ
  split
  ·rw[tz f];simp
  ·rfl
structure qr where
 D:List Bool
 ps:List Nat
def og (p:Nat)(s:qr):qr:=if s.D.getD p false then s else ⟨fQ 312 p (p*p) s.D,s.ps++[p]⟩
def cz:Nat->qr
 | 0=>⟨List.replicate 312 false,[]⟩
 | p+1=>if p<2 then cz p else og p (cz p)
theorem om:∀ p,(cz p).D.length=312
 | 0=>JD
 | p+1=>by
  unfold cz
  split
  ·exact om p
  ·unfold og
   split
   ·exact om p
   ·rw[tz];exact om p
def gW (i:Nat):Nat:=(cz 312).ps.getD i 0
theorem Ai:(cz 312).ps.length=64:=by decide +kernel
theorem Aj:(List.range 64).map (λi=>lU (gW i))=cG:=by decide +kernel
theorem Ak:∀ i:Fin 64,1<=gW i.val/\gW i.val<312:=by decide +kernel
theorem Al:∀ p:Fin 312,(cz p.val).D.getD p.val false=true\/p.val<2\/(gW (cz p.val).ps.length=p.val/\(cz p.val).ps.length<64):=by decide +kernel
theorem Am (p:Nat)(h:(cz p).D.getD p false=true)(a:2<=p):cz (p+1)=cz p:=by
 rw[cz,if_neg (by omega),og,if_pos h]
theorem An (p:Nat)(h:(cz p).D.getD p false=false)(a:2<=p):cz (p+1)=⟨fQ 312 p (p*p) (cz p).D,(cz p).ps++[p]⟩:=by
 rw[cz,if_neg (by omega),og,if_neg (by rw[h];decide)]
theorem qt (w:World)(t e:TypeId)(n:Nat)(b:TypeInfo)(d:TypeDesc)(h:P.underlying t=some (.array n e))(k:P.info? e=some b)(f:b.size=1)(m:P.underlying e=some d)
  (o:(match d with|.struct _|.array _ _=>true|_=>false)=false) (cs:Array Value) (p:cs.size=n) (i:Nat) (j:i<n) (v:Value) (c:cs[i]?=some v):
  (Instr.index t (.agg cs) (.int .i64 i)).run P w=.ok v w:=by
 have g:(0<=(i:Int)/\(i:Int)<(n:Int)):=by omega
 have a:(isAgg e).run P w=.ok false w:=by
  unfold isAgg;rw[Sem.run_bind,run_underlying m w];cases d <;> simp_all
 simp[Instr.index,run_underlying h,asIntOf,g,go_sem,part,sizeOf,typeInfo,k,f,a,c,Sem.run_bind];intro l;omega
def bG (l:List UInt8)(x:UInt8):List UInt8:=l.map λb=>b ^^^ x
def gZ (l:List UInt8):List UInt8:=l++List.replicate (64 - l.length) 0
def bN (k:List UInt8):List UInt8:=gZ (if 64<k.length then bH k else k)
def eh (k b:List UInt8):List UInt8:=bH (bG (bN k) 92++bH (bG (bN k) 54++b))
theorem jF (l:List UInt8)(x:UInt8):(bG l x).length=l.length:=by simp[bG]
theorem AF (l:List UInt8)(x:UInt8)(i:Nat)(h:i<l.length):(bG l x)[i]?=some (l.getD i 0 ^^^ x):=by
 simp[bG,Iw,Iy h]
theorem AG (l m:List UInt8)(x:UInt8):bG (l++m) x=bG l x++bG m x:=by simp[bG]
theorem tI (l:List UInt8)(h:l.length<=64):(gZ l).length=64:=by simp[gZ];omega
theorem qC (x y:UInt8):bits .xor .u8 (x.toNat:Int) (y.toNat:Int)=((x ^^^ y).toNat:Int):=by
 have e:∀ z:UInt8,BitVec.ofInt IntKind.u8.bits (z.toNat:Int)=z.toBitVec:=λz=>by
  rw[JX];apply Mc;simp[IntKind.bits]
 simp only[bits,e];change IntKind.u8.wrap (((x ^^^ y).toNat:Nat):Int)=_;rw[JQ];have:=(x ^^^ y).toNat_lt;omega
theorem AH (x y:UInt8):bits .or .u8 (x.toNat:Int) (y.toNat:Int)=((x ||| y).toNat:Int):=by
 have e:∀ z:UInt8,BitVec.ofInt IntKind.u8.bits (z.toNat:Int)=z.toBitVec:=λz=>by
  rw[JX];apply Mc;simp[IntKind.bits]
 simp only[bits,e];change IntKind.u8.wrap (((x ||| y).toNat:Nat):Int)=_;rw[JQ];have:=(x ||| y).toNat_lt;omega
theorem AI (a b:UInt8):a ||| b=0↔a=0/\b=0:=by
 constructor
 ·intro h
  have c:a.toBitVec ||| b.toBitVec=0#8:=by rw[<-UInt8.toBitVec_or,h];rfl
  constructor
  ·apply UInt8.toBitVec_inj.1
   exact(BitVec.or_eq_zero_iff.1 c).1
  ·apply UInt8.toBitVec_inj.1
   exact(BitVec.or_eq_zero_iff.1 c).2
 ·rintro⟨rfl,rfl⟩;rfl
theorem AJ (a b:UInt8):a ^^^ b=0↔a=b:=by
 constructor
 ·intro h
  have:a ^^^ b ^^^ b=0 ^^^ b:=by rw[h]
  rw[Mn,Ma,UInt8.xor_zero,UInt8.zero_xor] at this;exact this
 ·rintro rfl;exact Ma
def orT (l m:List UInt8):Nat->UInt8
 | 0=>0
 | k+1=>orT l m k ||| (l.getD k 0 ^^^ m.getD k 0)
theorem tJ (l m:List UInt8):∀ k,k<=l.length->k<=m.length->(orT l m k=0↔l.take k=m.take k)
 | 0,_,_=>by simp[orT]
 | k+1,h,h'=>by
  rw[orT,AI,AJ,tJ l m k (by omega) (by omega),nH l k (by omega),nH m k (by omega)]
  constructor
  ·rintro⟨a,b⟩;rw[a,b]
  ·intro e
   have:=List.append_inj e (by simp;omega)
   exact⟨this.1,by simpa using this.2⟩
theorem AK (l m:List UInt8)(h:l.length=m.length):decide (orT l m l.length=0)=decide (l=m):=by
 have:=tJ l m l.length (IB _) (by omega);rw[Jz,h,Jz,<-h] at this;exact decide_eq_decide.2 this
theorem Be (z u:Value)(c:List Value)(m:Nat):(List.replicate (m+1) z++c).set m u=List.replicate m z++u :: c:=by
 rw[List.set_append_left _ _ (by simp),LH,Lz _ _ (by simp)];simp
theorem ue (n:Int)(k:Nat)(w:World)(G:0<=n)(K:1<=k)(J:k<=7):
  Calls prog 135 #[.int .i64 n,.int .i64 k] w λe w'=>∃ v,e=.returned v/\Ow 5 w' w.heap.size v (be k n.toNat)/\Kp w w':=by
 obtain⟨A,E,l,h,g⟩:=info_parts info5;obtain⟨n,rfl⟩:=IR G;rw[IM];go_enter func135,ntmps135;go_wp2_with(at_make;refine wpList_make_full _ rfl _ _ 24 rfl w.heap.size 5 A (.int .u8 0) 1 underlying24 E l h _ _ _ _ k rfl rfl rfl rfl ?b1 ?b2 ?b3 ?_)
 case b1=>rw[g];omega
 case b2=>unfold maxLen;omega
 case b3=>exact IB _
 intro z a f;rw[toList_madeCells_one] at a;generalize y:w.heap.size=B at *;have r:=Lib.hid y;clear y;have o:Below B w z:=Below.grown (Below.refl B w) f (by rw[r.out];exact IB _) (by simp);clear f;go_wp2;go_loopw[0,6] (λx i wr=>∃ j:Nat,j<=k/\i=.int .i64 ((j:Int) - 1)/\x=.int .i64 ((n / 256 ^ (k - j):Nat):Int)/\wr.ownsRow B 5 1 (.slice (some ⟨B,0,none⟩) k k) k (List.replicate j (.int .u8 0)++Lib.byteCells (be (k - j) n))/\Below B w wr) (λ_ i _=>(intOf i+1).toNat)
 case atStart=>exact⟨k,IB _,rfl,by simp,by simpa [be,Lib.byteCells] using a,o⟩
 case round=>
  obtain⟨j,I,rfl,rfl,a,b⟩:=hrel;cases j with
  | zero=>
   go_wp2;go_ret;refine⟨_,rfl,?_,b.mono (by rw[r.out];exact IB _)⟩;have D:(be k n).length=k:=bT _ _;unfold Ow;rw[r.out,D];simpa using a
  | succ j=>
   have p:wr.cell? ⟨B,j,none⟩=some (.int .u8 0):=by
    rw[a.cellAt j (by omega),Jh (by simp)];simp
   have F:=a.frozenAt j;rw[show((j+1:Nat):Int) - 1=j from by omega];generalize u:n / 256 ^ (k - (j+1))=X at *;have H:=Lib.hid u;clear u;have c:=Lib.hid a;clear a;go_wp2;go_roundw
   case rel=>
    obtain⟨t,C⟩:∃ t,t=k - (j+1):=⟨_,rfl⟩;have m:=H.out;have s:=c.out;rw[<-C] at m s;have d:k - j=t+1:=by omega
    refine⟨j,by omega,rfl,?_,?_,b.setCell (IB _) _⟩
    ·rw[d,Ls,<-JS,m];rfl
    ·have q:=(s.stored j (.int .u8 ((X:Int) % 256))).1
     rw[Be] at q;rw[d,jy,m];have e:Value.int .u8 ((X:Int) % 256)=.int .u8 ((UInt8.ofNat X).toNat:Int):=by simp
     rw[e] at q ⊢;exact q
   case measure=>simp[intOf]
def dr:Nat->(Nat->Bool)->Bool
 | 0,_=>true
 | n+1,p=>p n && dr n p
theorem dD {p:Nat->Bool}(h:dr n p=true):∀ i,i<n->p i=true:=by
 induction n with
 | zero=>intro i a;omega
 | succ n ih=>
  intro i a
  rw[dr,Kt] at h
  by_cases e:i=n
  ·subst e;exact h.1
  ·exact ih h.2 i (by omega)
def xtN (x:Nat):Nat:=bif Nat.ble 256 (2*x) then (2*x) ^^^ 283 else 2*x
def eS:Nat->Nat->Nat->Nat->Nat
 | 0,out,_,_=>out
 | k+1,out,x,y=>eS k (bif Nat.beq (y % 2) 1 then out ^^^ x else out) (xtN x) (y / 2)
def gm (a b:Nat):Nat:=eS 8 0 a b
theorem xor_lt (b:x<256)(a:y<256):x ^^^ y<256:=Nat.xor_lt_two_pow (n:=8) b a
theorem BC:dr 256 (λx=>Nat.ble (xtN x) 255)=true:=by decide +kernel
theorem qN (h:x<256):xtN x<256:=by
 have:=dD BC x h;have:=Kl this;omega
theorem BD:dr 8 (λk=>dr 256 λx=>Nat.blt x (2 ^ k) || !(Nat.blt x (2 ^ (k+1))) || (Nat.beq x ((x - 2 ^ k) ^^^ 2 ^ k) && Nat.blt (x - 2 ^ k) (2 ^ k)))=true:=by decide +kernel
theorem BE (k x:Nat)(d:k<8)(c:x<256)(f:2 ^ k<=x)(e:x<2 ^ (k+1)):x=(x - 2 ^ k) ^^^ 2 ^ k/\x - 2 ^ k<2 ^ k:=by
 have h:=dD (dD BD k d) x c;have b:Nat.blt x (2 ^ k)=false:=by
  cases h3:Nat.blt x (2 ^ k)
  ·rfl
  ·have:=Kl h3;omega
 have a:Nat.blt x (2 ^ (k+1))=true:=Nat.ble_eq_true_of_le e;simp only[b,a,Bool.not_true,Bool.or_false,Bool.false_or,Kt] at h;exact⟨JI h.1,Kl h.2⟩
theorem mj {f g:Nat->Nat}(d:∀ x y,x<256->y<256->f (x ^^^ y)=f x ^^^ f y)(c:∀ x y,x<256->y<256->g (x ^^^ y)=g x ^^^ g y)(h:∀ k,k<8->f (2 ^ k)=g (2 ^ k)):∀ x,x<256->f x=g x:=by
 have n:f 0=0:=by have:=d 0 0 (by omega) (by omega);simpa using this
 have m:g 0=0:=by have:=c 0 0 (by omega) (by omega);simpa using this
 have key:∀ k,k<=8->∀ x,x<2 ^ k->f x=g x:=by
  intro k;induction k with
  | zero=>
   intro _ x a;obtain rfl:x=0:=by simpa using a
   rw[n,m]
  | succ k ih=>
   intro l x a;have o:2 ^ (k+1)<=2 ^ 8:=JH (by omega) l;by_cases b:x<2 ^ k
   ·exact ih (by omega) x b
   ·obtain⟨e,j⟩:=BE k x (by omega) (by omega) (by omega) a
    have i:(2:Nat) ^ k<256:=by have:2 ^ k<2 ^ 8:=Nat.pow_lt_pow_right (by omega) (by omega);omega
    rw[e,d _ _ (by omega) i,c _ _ (by omega) i,ih (by omega) _ j,h k (by omega)]
 exact λx a=>key 8 (IB _) x a
theorem BF:dr 256 (λx=>dr 256 λy=>Nat.beq (xtN (x ^^^ y)) (xtN x ^^^ xtN y))=true:=by decide +kernel
theorem BG (b:x<256)(a:y<256):xtN (x ^^^ y)=xtN x ^^^ xtN y:=JI (dD (dD BF x b) y a)
theorem uv (a b c d:Nat):(a ^^^ b) ^^^ (c ^^^ d)=(a ^^^ c) ^^^ (b ^^^ d):=by
 rw[LB,LB,<-LB b,Nat.xor_comm b c,LB]
theorem ux:∀ k out x y,out<256->x<256->eS k out x y<256
 | 0,_,_,_,h,_=>h
 | k+1,out,x,y,h,hx=>by
  refine ux k _ _ _ ?_ (qN hx)
  cases Nat.beq (y % 2) 1
  ·exact h
  ·exact xor_lt h hx
theorem uy:∀ k o1 o2 x1 x2 y,x1<256->x2<256->eS k (o1 ^^^ o2) (x1 ^^^ x2) y=eS k o1 x1 y ^^^ eS k o2 x2 y
 | 0,_,_,_,_,_,_,_=>rfl
 | k+1,o1,o2,x1,x2,y,h1,h2=>by
  show eS k (bif Nat.beq (y % 2) 1 then o1 ^^^ o2 ^^^ (x1 ^^^ x2) else o1 ^^^ o2) (xtN (x1 ^^^ x2)) (y / 2)=eS k (bif Nat.beq (y % 2) 1 then o1 ^^^ x1 else o1) (xtN x1) (y / 2) ^^^ eS k (bif Nat.beq (y % 2) 1 then o2 ^^^ x2 else o2) (xtN x2) (y / 2)
  rw[BG h1 h2,<-uy k _ _ _ _ _ (qN h1) (qN h2)]
  cases Nat.beq (y % 2) 1
  ·rfl
  ·simp only[cond_true];rw[uv]
theorem BH (y z:Nat):Nat.beq ((y ^^^ z) % 2) 1=xor (Nat.beq (y % 2) 1) (Nat.beq (z % 2) 1):=by
 have h:(y ^^^ z) % 2=(y % 2 ^^^ z % 2):=by
  have:=Nat.xor_mod_two_pow (a:=y) (b:=z) (n:=1);simpa using this
 rw[h];rcases Nat.mod_two_eq_zero_or_one y with d|d <;> rcases Nat.mod_two_eq_zero_or_one z with c|c <;> rw[d,c] <;> rfl
theorem BI (y z:Nat):(y ^^^ z) / 2=y / 2 ^^^ z / 2:=by
 have:=Nat.xor_div_two_pow (a:=y) (b:=z) (n:=1);simpa using this
theorem uz:∀ k o1 o2 x y z,eS k (o1 ^^^ o2) x (y ^^^ z)=eS k o1 x y ^^^ eS k o2 x z
 | 0,_,_,_,_,_=>rfl
 | k+1,o1,o2,x,y,z=>by
  show eS k (bif Nat.beq ((y ^^^ z) % 2) 1 then o1 ^^^ o2 ^^^ x else o1 ^^^ o2) (xtN x) ((y ^^^ z) / 2)=eS k (bif Nat.beq (y % 2) 1 then o1 ^^^ x else o1) (xtN x) (y / 2) ^^^ eS k (bif Nat.beq (z % 2) 1 then o2 ^^^ x else o2) (xtN x) (z / 2)
  rw[BI,BH,<-uz]
  cases Nat.beq (y % 2) 1 <;> cases Nat.beq (z % 2) 1
  ·rfl
  ·simp only[Bool.false_xor,cond_true,cond_false];rw[LB]
  ·simp only[Bool.xor_false,cond_true,cond_false];rw[LB,LB,Nat.xor_comm o2 x]
  ·simp only[Bool.xor_self,cond_true,cond_false];rw[uv,Ms,Nat.xor_zero]
theorem kO (c:a<256):gm a b<256:=ux 8 0 a b (by omega) c
theorem jI (a b c:Nat)(e:a<256)(d:b<256):gm (a ^^^ b) c=gm a c ^^^ gm b c:=by
 have:=uy 8 0 0 a b c e d;rwa [Ms] at this
theorem iL (a b c:Nat):gm a (b ^^^ c)=gm a b ^^^ gm a c:=by
 have:=uz 8 0 0 a b c;rwa [Ms] at this
theorem BJ:dr 8 (λi=>dr 8 λj=>Nat.beq (gm (2 ^ i) (2 ^ j)) (gm (2 ^ j) (2 ^ i)))=true:=by decide +kernel
theorem BK (h:k<8):2 ^ k<256:=by have:2 ^ k<2 ^ 8:=Nat.pow_lt_pow_right (by omega) h;omega
theorem mm (l:a<256)(k:b<256):gm a b=gm b a:=by
 refine mj (f:=λx=>gm x b) (g:=λx=>gm b x) (λx y d c=>jI x y b d c) (λx y _ _=>iL b x y) (λi h=>?_) a l;refine mj (f:=λx=>gm (2 ^ i) x) (g:=λx=>gm x (2 ^ i)) (λx y _ _=>iL _ x y) (λx y d c=>jI x y _ d c) (λj e=>?_) b k;exact JI (dD (dD BJ i h) j e)
theorem BL:dr 8 (λi=>dr 8 λj=>dr 8 λk=>Nat.beq (gm (gm (2 ^ i) (2 ^ j)) (2 ^ k)) (gm (2 ^ i) (gm (2 ^ j) (2 ^ k))))=true:=by decide +kernel
theorem uA (q:a<256)(p:b<256)(o:c<256):gm (gm a b) c=gm a (gm b c):=by
 refine mj (f:=λx=>gm (gm x b) c) (g:=λx=>gm x (gm b c)) (λx y e d=>by show gm (gm (x ^^^ y) b) c=_;rw[jI x y b e d,jI _ _ c (kO e) (kO d)]) (λx y e d=>jI x y _ e d) (λi h=>?_) a q;have l:=BK h;refine mj (f:=λx=>gm (gm (2 ^ i) x) c) (g:=λx=>gm (2 ^ i) (gm x c)) (λx y e d=>by show gm (gm _ (x ^^^ y)) c=_;rw[iL,jI _ _ c (kO l) (kO l)]) (λx y e d=>by show gm _ (gm (x ^^^ y) c)=_;rw[jI x y c e d,iL]) (λj n=>?_) b p;refine mj (f:=λx=>gm (gm (2 ^ i) (2 ^ j)) x) (g:=λx=>gm (2 ^ i) (gm (2 ^ j) x)) (λx y _ _=>iL _ x y) (λx y _ _=>by show gm _ (gm _ (x ^^^ y))=_;rw[iL,iL]) (λk m=>?_) c o;exact JI (dD (dD (dD BL i h) j n) k m)
theorem BM:dr 256 (λx=>Nat.beq (gm x 1) x)=true:=by decide +kernel
theorem mn (b:a<256):gm a 1=a:=JI (dD BM a b)
theorem uB (a:Nat):gm a 0=0:=by have:=iL a 0 0;rwa [Ms,Ms] at this
def eB (a:Nat):Nat:=
 let a2:=gm a a;let a3:=gm a2 a;let a6:=gm a3 a3;let a12:=gm a6 a6;let a15:=gm a12 a3;let a30:=gm a15 a15;let a60:=gm a30 a30;let a63:=gm a60 a3
 let a126:=gm a63 a63;let a127:=gm a126 a;gm a127 a127
theorem uC:dr 256 (λx=>Nat.ble (eB x) 255 && (Nat.beq x 0 || (Nat.beq (gm x (eB x)) 1 && Nat.ble 1 (eB x))))=true:=by decide +kernel
theorem uD (b:a<256):eB a<256:=by
 have:=dD uC a b;rw[Kt] at this;have:=Kl this.1;omega
theorem BN (c:a<256)(e:a≠0):gm a (eB a)=1/\eB a≠0:=by
 have h:=dD uC a c;rw[Kt,Mo,Kt] at h;rcases h.2 with b|⟨b,d⟩
 ·exact absurd (JI b) e
 ·exact⟨JI b,by have:=Kl d;omega⟩
theorem BP:eB 0=0:=by decide +kernel
theorem BQ (c:a<256)(d:b<256)(h:gm a b=1):b=eB a:=by
 have f:a≠0:=by
  rintro rfl;rw[mm c d,uB] at h;omega
 have e:=uD c;calc b=gm b 1:=(mn d).symm
  _=gm b (gm a (eB a)):=by rw[(BN c f).1]
  _=gm (gm b a) (eB a):=(uA d c e).symm
  _=gm 1 (eB a):=by rw[mm d c,h]
  _=gm (eB a) 1:=mm (by omega) e
  _=eB a:=mn e
def fy (x n:Nat):Nat:=(x*2 ^ n) % 256 ^^^ x / 2 ^ (8 - n)
def ig (y:Nat):Nat:=y ^^^ fy y 1 ^^^ fy y 2 ^^^ fy y 3 ^^^ fy y 4 ^^^ 99
def mr (x:Nat):Nat:=ig (eB x)
theorem uE:dr 256 (λx=>Nat.ble (ig x) 255 && dr x (λy=>!(Nat.beq (ig x) (ig y))))=true:=by decide +kernel
theorem BR (b:a<256):mr a<256:=by
 have h:=dD uE (eB a) (uD b);rw[Kt] at h;have:=Kl h.1;unfold mr;omega
def bF (a b:UInt8):UInt8:=UInt8.ofNat (gm a.toNat b.toNat)
def dg (x:UInt8):UInt8:=UInt8.ofNat (mr x.toNat)
theorem ej (a:UInt8):a.toNat<256:=a.toNat_lt
theorem jk (a b:UInt8):(bF a b).toNat=gm a.toNat b.toNat:=by
 unfold bF;rw[Ko,JO (kO (ej a))]
theorem uF (a:UInt8):(dg a).toNat=mr a.toNat:=by
 unfold dg;rw[Ko,JO (BR (ej a))]
theorem jl {a b:UInt8}(h:a.toNat=b.toNat):a=b:=UInt8.toNat_inj.1 h
theorem qO (a b:UInt8):bF a b=bF b a:=jl (by rw[jk,jk,mm (ej a) (ej b)])
theorem qP (a b c:UInt8):bF a (b ^^^ c)=bF a b ^^^ bF a c:=jl (by rw[jk,Mp,Mp,jk,jk,iL])
theorem BS (a b c:UInt8):bF (a ^^^ b) c=bF a c ^^^ bF b c:=by rw[qO,qP,qO c a,qO c b]
theorem uG (a:UInt8):bF a 1=a:=jl (by rw[jk];exact mn (ej a))
def eU (a b c d:UInt8):UInt8:=bF a 2 ^^^ bF b 3 ^^^ c ^^^ d
def tab (n:Nat)(f:Nat->UInt8):List UInt8:=(List.range n).map f
theorem gA (n:Nat)(f:Nat->UInt8):(tab n f).length=n:=by simp[tab]
theorem iM (n:Nat)(f:Nat->UInt8)(i:Nat)(h:i<n):(tab n f).getD i 0=f i:=by simp[tab,Iw,h]
theorem uH (n:Nat)(l:List UInt8)(h:l.length=n):tab n (λi=>l.getD i 0)=l:=by
 apply LI
 ·rw[gA,h]
 ·intro i a b
  have:=iM n (λi=>l.getD i 0) i (by rw[gA] at a;exact a);rw[Iw,Iy a] at this;simp only[Lh] at this;rw[this,Iw,Iy b];rfl
theorem kP (n:Nat)(l m:List UInt8)(c:l.length=n)(b:m.length=n)(h:∀ i,i<n->l.getD i 0=m.getD i 0):l=m:=by
 rw[<-uH n l c,<-uH n m b];unfold tab;apply LL;intro i a;exact h i (by simpa using a)
def mu (m:Nat):Nat:=4*((m / 4+m % 4) % 4)+m % 4
def eC (s:List UInt8):List UInt8:=tab 16 λm=>dg (s.getD (mu m) 0)
def at4 (t:List UInt8)(m k:Nat):UInt8:=t.getD (4*(m / 4)+(m % 4+k) % 4) 0
def ii (t:List UInt8):List UInt8:=tab 16 λm=>eU (at4 t m 0) (at4 t m 1) (at4 t m 2) (at4 t m 3)
def jJ (s w:List UInt8)(n:Nat):List UInt8:=tab 16 λi=>s.getD i 0 ^^^ w.getD (16*n+i) 0
def qQ (w s:List UInt8)(n:Nat):List UInt8:=jJ (if n<10 then ii (eC s) else eC s) w n
def eV (w b:List UInt8):Nat->List UInt8
 | 0=>jJ b w 0
 | n+1=>qQ w (eV w b n) (n+1)
def iN (w b:List UInt8):List UInt8:=eV w b 10
theorem uI (s w:List UInt8)(n:Nat):(jJ s w n).length=16:=gA _ _
theorem uJ (w b:List UInt8)(n:Nat):(eV w b n).length=16:=by
 cases n with
 | zero=>exact uI _ _ _
 | succ n=>exact uI _ _ _
theorem BT (w b:List UInt8):(iN w b).length=16:=uJ _ _ _
def jK:Nat->UInt8
 | 0=>1
 | n+1=>bF (jK n) 2
def kQ (w:List UInt8):UInt8:=
 let m:=w.length;let i:=m / 4;let k:=m % 4
 let x:=if i % 4=0 then dg (w.getD (4*i - 4+(k+1) % 4) 0) else w.getD (4*i - 4+k) 0
 let x:=if i % 4=0/\k=0 then x ^^^ jK (i / 4 - 1) else x
 w.getD (4*i - 16+k) 0 ^^^ x
def eJ (key:List UInt8):Nat->List UInt8
 | 0=>key
 | n+1=>eJ key n++[kQ (eJ key n)]
def eD (key:List UInt8):List UInt8:=eJ key 160
theorem kR (key:List UInt8):∀ n,(eJ key n).length=key.length+n
 | 0=>rfl
 | n+1=>by rw[eJ,IE,kR key n];rfl
theorem vY (x:Nat)(h:x<256):IntKind.u8.wrap (x:Int)=x:=by rw[JQ];omega
theorem Eg (x y:Nat)(c:x<256)(b:y<256):bits .or .u8 (x:Int) (y:Int)=((x ||| y:Nat):Int):=by
 have a:x ||| y<256:=Nat.or_lt_two_pow (n:=8) c b
 change IntKind.u8.wrap (((BitVec.ofInt 8 (x:Int) ||| BitVec.ofInt 8 (y:Int)).toNat:Nat):Int)=_;rw[JX,JX,BitVec.toNat_or,Ln,Ln,JO c,JO b,vY _ a]
theorem vZ (x y:Nat)(c:x<256)(b:y<256):bits .xor .u8 (x:Int) (y:Int)=((x ^^^ y:Nat):Int):=by
 have a:x ^^^ y<256:=xor_lt c b;change IntKind.u8.wrap (((BitVec.ofInt 8 (x:Int) ^^^ BitVec.ofInt 8 (y:Int)).toNat:Nat):Int)=_;rw[JX,JX,BitVec.toNat_xor,Ln,Ln,JO c,JO b,vY _ a]
def aW:Nat->Nat
 | 0=>1
 | i+1=>gm (aW i) 3
theorem iw:∀ i,aW i<256
 | 0=>by decide
 | i+1=>kO (iw i)
theorem rE (i:Nat):∀ j,aW (i+j)=gm (aW i) (aW j)
 | 0=>by
  show aW i=gm (aW i) 1
  rw[mn (iw i)]
 | j+1=>by
  show gm (aW (i+j)) 3=gm (aW i) (gm (aW j) 3)
  rw[rE i j,uA (iw i) (iw j) (by omega)]
theorem we:aW 255=1:=by decide +kernel
theorem Eh (h:i<255):eB (aW i)=aW ((255 - i) % 255):=by
 refine(BQ (iw i) (iw _) ?_).symm;by_cases a:i=0
 ·subst a
  show gm 1 (aW 0)=1
  exact mn (by omega)
 ·rw[JO (by omega),<-rE,show i+(255 - i)=255 by omega,we]
def pn:Nat->Nat->Nat->Bool
 | 0,_,_=>false
 | n+1,c,x=>Nat.beq c x || pn n (gm c 3) x
theorem wg (x:Nat):∀ n i,pn n (aW i) x=true->∃ j,j<i+n/\aW j=x
 | 0,i,h=>by cases h
 | n+1,i,h=>by
  rw[pn,Mo] at h
  rcases h with h|h
  ·exact⟨i,by omega,JI h⟩
  ·obtain⟨j,h1,h2⟩:=wg x n (i+1) h
   exact⟨j,by omega,h2⟩
theorem Ei:dr 256 (λx=>Nat.beq x 0 || pn 255 1 x)=true:=by decide +kernel
theorem Ej (h:x<256)(c:x≠0):∃ i,i<255/\aW i=x:=by
 have:=dD Ei x h;rw[Mo] at this;rcases this with a|a
 ·exact absurd (JI a) c
 ·obtain⟨j,a,b⟩:=wg x 255 0 a
  exact⟨j,by omega,b⟩
def p3B (i:Nat):UInt8:=UInt8.ofNat (aW i)
theorem mY (i:Nat):(p3B i).toNat=aW i:=by
 unfold p3B;rw[Ko];have:=iw i;omega
theorem Ek (i:Nat):p3B (i+1)=bF (p3B i) 3:=jl (by rw[jk,mY,mY];rfl)
def em (x:UInt8):UInt8:=UInt8.ofNat (ig x.toNat)
theorem El (h:x<256):ig x<256:=by
 have:=dD uE x h;rw[Kt] at this;have:=Kl this.1;omega
theorem rF (x:UInt8):(em x).toNat=ig x.toNat:=by
 unfold em;rw[Ko];have:=El (ej x);omega
theorem Em (h:i<255):em (p3B ((255 - i) % 255))=dg (p3B i):=jl (by rw[rF,uF,mY,mY,mr,Eh h])
theorem En:em 0=dg 0:=jl (by rw[rF,uF];show ig 0=ig (eB 0);rw[BP])
def gG (k:Nat)(l:List UInt8):Prop:=l.length=256/\l.getD 0 0=dg 0/\∀ i,i<k->l.getD (aW i) 0=dg (p3B i)
theorem Eo (h:i<255):aW i≠0:=λb=>by
 have a:gm (aW i) (aW (255 - i))=1:=by rw[<-rE,show i+(255 - i)=255 by omega,we]
 rw[b,mm (by omega) (iw _),uB] at a;cases a
theorem gG.begin:gG 0 ((List.replicate 256 (0:UInt8)).set 0 (em 0)):=⟨by rw[IW,JD],by rw[<-En];rfl,λi h=>by omega⟩
theorem gG.next (h:gG k l)(c:k<255):gG (k+1) (l.set (aW k) (em (p3B ((255 - k) % 255)))):=by
 obtain⟨d,n,m⟩:=h;have f:=iw k;have g:=Eo c;rw[Em c];have a:∀ j,(l.set (aW k) (dg (p3B k))).getD j 0=if j=aW k then dg (p3B k) else l.getD j 0:=λj=>by
  by_cases e:j=aW k
  ·subst e
   simp[Iw,d,f]
  ·rw[if_neg e]
   simp[Iw,Kh,Mt e]
 refine⟨by simp[d],by rw[a,if_neg (Mt g),n],λi o=>?_⟩;rw[a];by_cases e:aW i=aW k
 ·rw[if_pos e]
  unfold p3B;rw[e]
 ·rw[if_neg e]
  by_cases b:i=k
  ·subst b;exact absurd rfl e
  ·exact m i (by omega)
def ix:List UInt8:=tab 256 λi=>dg (UInt8.ofNat i)
theorem rG:ix.length=256:=gA _ _
theorem wj (x:UInt8):ix.getD x.toNat 0=dg x:=by
 have h:=iM 256 (λi=>dg (UInt8.ofNat i)) x.toNat (ej x);have e:UInt8.ofNat x.toNat=x:=jl (by rw[Ko];have:=ej x;omega);exact h.trans (by simp only[e])
theorem gG.all (h:gG 255 l):l=ix:=by
 obtain⟨g,f,e⟩:=h;refine kP 256 _ _ g rG λi a=>?_
 have c:ix.getD i 0=dg (UInt8.ofNat i):=iM 256 (λi=>dg (UInt8.ofNat i)) i a;rw[c];by_cases b:i=0
 ·subst b;exact f
 ·obtain⟨j,d,rfl⟩:=Ej a b
  exact e j d
theorem da (x y:UInt8):bits .xor .u8 (x.toNat:Int) (y.toNat:Int)=((x ^^^ y).toNat:Int):=by
 rw[vZ _ _ (ej x) (ej y),Mp]
theorem Ep:dr 256 (λx=>Nat.beq ((x*2) % 256 ^^^ (x / 128)*27) (gm x 2))=true:=by decide +kernel
theorem lj (x:UInt8)(w:World):Calls prog 240 #[.int .u8 (x.toNat:Int)] w λe w'=>e=.returned (.int .u8 ((bF x 2).toNat:Int))/\w=w':=by
 have b:=ej x;have h:=JI (dD Ep x.toNat b);have i:IntKind.u8.wrap ((x.toNat:Int)*2)=((x.toNat*2 % 256:Nat):Int):=by rw[JQ];omega
 have g:(x.toNat:Int) / 128=((x.toNat / 128:Nat):Int):=by omega
 have f:IntKind.u8.wrap (((x.toNat / 128:Nat):Int)*27)=((x.toNat / 128*27:Nat):Int):=by rw[JQ];omega
 have c:=vZ (x.toNat*2 % 256) (x.toNat / 128*27) (by omega) (by omega);rw[h] at c;have a:=jk x 2;rw[show(2:UInt8).toNat=2 from rfl] at a;rw[<-a] at c;generalize (bF x 2).toNat=M at *;generalize x.toNat*2 % 256=A at *;generalize d:x.toNat / 128=B at *;generalize B*27=C at *;generalize x.toNat=X at *;clear h a b d;go_enter func240,ntmps240;go_wp2;go_ret;exact⟨rfl,rfl⟩
theorem Er:dr 5 (λn=>dr 256 λx=>Nat.beq ((x*2 ^ n) % 256 ||| x / 2 ^ (8 - n)) ((x*2 ^ n) % 256 ^^^ x / 2 ^ (8 - n)))=true:=by decide +kernel
def iQ (x:UInt8)(n:Nat):UInt8:=UInt8.ofNat (fy x.toNat n)
theorem Es (x:UInt8)(n:Nat):fy x.toNat n<256:=xor_lt (Mj _ (by omega)) (LW (Mm _ _) (ej x))
theorem wl (x:UInt8)(n:Nat):(iQ x n).toNat=fy x.toNat n:=by
 unfold iQ;rw[Ko,JO (Es x n)]
theorem Et (x:Int)(b:0<=x)(a:x<2 ^ 64):bits .and .u64 x 7=x % 8:=
 bits_mask .u64 64 (by decide) (λn b a=>by simp[IntKind.wrap,IntKind.bits,IntKind.signed];omega) 3 (by decide) x b a
theorem Eu (x:UInt8)(i:Nat)(w:World)(m:i<5):
  Calls prog 270 #[.int .u8 (x.toNat:Int),.int .i64 i] w λe w'=>e=.returned (.int .u8 ((iQ x i).toNat:Int))/\w=w':=by
 have c:=ej x;have j:=wl x i;have a:=JI (dD (dD Er i m) x.toNat c);rw[show(x.toNat*2 ^ i) % 256 ^^^ x.toNat / 2 ^ (8 - i)=fy x.toNat i from rfl,<-j] at a;generalize (iQ x i).toNat=L at *;generalize x.toNat=X at *;have o:IntKind.u64.wrap (i:Int)=i:=by simp[IntKind.wrap,IntKind.bits,IntKind.signed];omega
 have w2:=Et (i:Int) (by omega) (by omega);rw[show(i:Int) % 8=i by omega] at w2;have n:IntKind.u64.wrap (8 - (i:Int))=8 - i:=by simp[IntKind.wrap,IntKind.bits,IntKind.signed];omega
 have p:(8 - (i:Int)).toNat=8 - i:=by omega
 have f:(X:Int)*2 ^ i=((X*2 ^ i:Nat):Int):=by rw[Ky,Int.natCast_pow];rfl
 have k:(X:Int) / 2 ^ (8 - i)=((X / 2 ^ (8 - i):Nat):Int):=by rw[Int.natCast_ediv,Int.natCast_pow];rfl
 have l:IntKind.u8.wrap ((X:Int)*2 ^ i)=((X*2 ^ i % 256:Nat):Int):=by rw[f,JQ];omega
 have d:X / 2 ^ (8 - i)<256:=LW (Mm _ _) c;have b:=Eg (X*2 ^ i % 256) (X / 2 ^ (8 - i)) (by omega) d;rw[a] at b;obtain⟨P,h⟩:∃ P,X*2 ^ i % 256=P:=⟨_,rfl⟩;obtain⟨Q,g⟩:∃ Q,X / 2 ^ (8 - i)=Q:=⟨_,rfl⟩;rw[h] at l b;rw[g] at k b;clear a f h g j d;go_enter func270,ntmps270;go_wp2;go_ret;exact⟨rfl,rfl⟩
def iR (y:UInt8):Nat->UInt8
 | 0=>99
 | n+1=>iR y n ^^^ iQ y n
theorem Ev:dr 256 (λx=>Nat.beq (99 ^^^ fy x 0 ^^^ fy x 1 ^^^ fy x 2 ^^^ fy x 3 ^^^ fy x 4) (ig x))=true:=by decide +kernel
theorem Ew (y:UInt8):iR y 5=em y:=by
 apply jl;rw[rF];simp only[iR,Mp,wl];exact JI (dD Ev y.toNat (ej y))
theorem wo (y:UInt8)(w:World):Calls prog 263 #[.int .u8 (y.toNat:Int)] w λe w'=>e=.returned (.int .u8 ((em y).toNat:Int))/\w=w':=by
 have d:=Lib.hid (Ew y);go_enter func263,ntmps263;go_wp2_with fail;go_loopw[3,5] (λo p wr=>(∃ (i:Nat),i<=5/\p=.int .i64 i/\o=.int .u8 ((iR y i).toNat:Int))/\w=wr) (λ_ p _=>5 - (intOf p).toNat)
 case atStart=>exact⟨⟨0,by omega,rfl,rfl⟩,rfl⟩
 case round=>
  obtain⟨⟨i,h,rfl,rfl⟩,rfl⟩:=hrel;by_cases a:i<5
  ·have g:(i:Int)<5:=by omega
   have f:=da (iR y i) (iQ y i);have b:=Eu y i w a;have c:Hid (iR y i ^^^ iQ y i=iR y (i+1)):=rfl;generalize iR y i ^^^ iQ y i=Z at *;generalize iR y i=U at *;generalize iQ y i=V at *;go_wp2_with(go_at_call 270;refine b.mono ?_;rintro _ _ ⟨rfl,rfl⟩)
   go_roundw
   case rel=>exact⟨⟨i+1,by omega,by go_num,by rw[c.out]⟩,trivial⟩
   case measure=>simp[intOf];omega
  ·obtain rfl:i=5:=by omega
   rw[d.out];go_wp2_with fail;go_ret;exact⟨rfl,rfl⟩
theorem wf8 {n:Int}(h:(Lit.int .u8 n).wf=true):0<=n/\n<=255:=by
 have:=bounds_u8 h;omega

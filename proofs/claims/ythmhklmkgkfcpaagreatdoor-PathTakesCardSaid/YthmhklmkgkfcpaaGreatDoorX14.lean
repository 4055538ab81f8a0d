import Derived.Test.YthmhklmkgkfcpaaGreatDoorX12
set_option linter.all false
set_option maxHeartbeats 8000000
set_option maxRecDepth 100000
namespace Go.Proofs.YthmhklmkgkfcpaaGreatDoor
open Go.Proofs.Tryz Go.RowKit
variable {T:TypeId}{a half key l once pub s seed:List UInt8}{c n p:Nat}{v:Value}{w w':World}
def dU:List UInt8:=[77,76,83,32,49,46,48,32]
def dr (label ctx:List UInt8)(n:Nat):List UInt8:=be 2 n++aO (dU++label)++aO ctx
def cC (k label ctx:List UInt8)(n:Int):List UInt8:=iS k (dr label ctx n.toNat) n
theorem rM (l a:List UInt8)(n:Nat)(e:l.length<=300)(f:a.length<=1400):(dr l a n).length<=1800:=by
 have d:=lq (x:=dU++l) (by rw[JQ];simp[dU];omega);have c:=lq (x:=a) (by omega);have i:=ks (dU++l).length;have h:=ks a.length;have b:dU.length=8:=rfl;have g:(dU++l).length=8+l.length:=by rw[JQ,b]
 unfold dr;rw[JQ,JQ,bq,d,c];omega
theorem vJ (w:World)(e:TypeId)(s:ByteArray):Kp w (Lib.bytesWorld w e s):=
 ⟨rfl,rfl,rfl,by rw[Lib.bytesWorld_size];omega,λk a=>Lib.bytesWorld_at_old w e s k a⟩
theorem vK (w:World)(e:TypeId)(s:ByteArray)(h:s.size<=1000000):Rd (Lib.bytesWorld w e s) (.slice (some ⟨w.heap.size,0,none⟩) s.size (grownCap w s.size 0 e)) s.data.toList:=by
 have a:s.data.toList.length=s.size:=rfl;refine⟨_,_,by rw[a],by rw[a];exact grownCap_ge w _ _ _,grownCap_le_maxLen w _ _ _ (by unfold maxLen;omega),λh=>(by cases h),λx b i c=>?_⟩;cases b;have d:(⟨w.heap.size,0,none⟩:Addr).add i=⟨w.heap.size,i,none⟩:=by unfold Addr.add;split <;> simp_all
 rw[d,Lib.bytesWorld_cell w e s i (by omega),JF,JG c];rfl
theorem RL.lits4 {d c b a:Value}{j g f e:List UInt8}(o:Rd w d j)(n:Rd w c g)(m:Rd w b f)(l:Rd w a e):RL (w.alloc (.cells #[d,c,b,a] T)) (.slice (some ⟨w.heap.size,0,none⟩) 4 4) [j,g,f,e]:=
 RL.cons (us:=[c,b,a]) (ls:=[g,f,e]) (LJ w #[d,c,b,a] 4 (JO _) (by unfold maxLen;omega) rfl) (o.kp ((NQ _).alloc _)) rfl (λi k=>by
  have h:i<3:=by simpa using k
  match i,h with
  | 0,_=>exact n.kp ((NQ _).alloc _)
  | 1,_=>exact m.kp ((NQ _).alloc _)
  | 2,_=>exact l.kp ((NQ _).alloc _))
theorem Rd.sl (h:Rd w v l):∃ a n c,v=.slice a n c:=by
 obtain⟨a,c,e,_⟩:=h.shape;exact⟨_,_,_,e⟩
theorem Cq (s:ByteArray)(A:Value)(a:List UInt8)(n:Nat)(w:World)(F:Rd w A a)(E:s.size<=300)(y:a.length<=1400)(T:(n:Int)<=65535):
  Calls prog 136 #[.string s,A,.int .i64 n] w λe w'=>(∃ v,e=.returned (.tuple #[v,.int .i64 0])/\Ow 5 w' w.heap.size v (dr s.data.toList a n))/\Kp w w':=by
 obtain⟨ai,Z,rfl,_,_⟩:=F.shape;have c:=JE (λW=>kr n 2 W (by omega));have l:eQ (n:Int) 2:=⟨by omega,by omega,by omega,by have:(256:Int) ^ (2:Int).toNat=65536:=(by decide);omega⟩;have z:=iJ l;have o:fy (n:Int) 2=be 2 n:=by rw[z.2];rfl
 have b:=JE (λW Y=>rK (.slice ai a.length Z) a W Y);have H:=(kj (x:=a) (by omega)).1;have f:s.data.toList.length=s.size:=rfl;have G:=kj (x:=dU++s.data.toList) (by rw[JQ,f];simp[dU];omega);have h:fd ((8:Int)+s.size)=0:=by unfold fd;rw[if_neg (by omega)]
 have m:dT ((8:Int)+s.size)++(dU++s.data.toList)=aO (dU++s.data.toList):=by
  rw[G.2,JQ,f];unfold dT;rw[if_pos h];congr 2
 have d:=JE (λW=>rJ ((8:Int)+s.size) W);rw[z.1,o] at c;rw[H] at b;rw[h] at d;have X:=λW (S:ByteArray)=>Lib.run_convert_string_bytes (P:=prog) W 9 24 5 S underlying9 underlying24 underlying5
 have R:(s.size:Int)<=300:=by omega
 have HO:=JE (JN m E);clear l z o H G h m E T;go_enter func136,ntmps136;go_wp2_with(first|(go_at_call 100;refine(c.out _).mono ?_;rintro e w1 ⟨v1,rfl,D,t⟩;obtain⟨a1,M,c1,rfl⟩:=D.rd.sl)|(go_at_call 166;refine(b.out _ (F.kp t)).mono ?_;rintro e w2 ⟨v2,rfl,C,r⟩;obtain⟨a2,L,c2,rfl⟩:=C.rd.sl)|(go_at_call 167;refine(d.out _).mono ?_;rintro e p ⟨v3,rfl,B,q⟩;obtain⟨a3,K,c3,rfl⟩:=B.rd.sl))
 have i:=vJ p 5 (⟨#[77,76,83,32,49,46,48,32]⟩++s);have j:(⟨#[77,76,83,32,49,46,48,32]⟩++s:ByteArray).size=8+s.size:=by rw[ByteArray.size_append];rfl
 have u:(⟨#[77,76,83,32,49,46,48,32]⟩++s:ByteArray).data.toList=dU++s.data.toList:=by rw[ByteArray.data_append,Array.toList_append];rfl
 have k:=vK p 5 (⟨#[77,76,83,32,49,46,48,32]⟩++s) (by rw[j];omega);rw[u,j] at k;have g:([be 2 n,dT ((8:Int)+s.size),dU++s.data.toList,aO a]:List (List UInt8)).flatten=dr s.data.toList a n:=by
  unfold dr;rw[<-HO.out.1];simp only[LY,Ng,Lr,LQ]
 have U:=rM s.data.toList a n (by rw[f];omega) y;have V:2<=(dr s.data.toList a n).length:=by unfold dr;rw[JQ,JQ,bq];omega
 refine(lF _ [be 2 n,dT ((8:Int)+s.size),dU++s.data.toList,aO a] _ (RL.lits4 (((D.rd.kp r).kp q).kp i) (B.rd.kp i) k ((C.rd.kp q).kp i)) (by rw[g];omega) (by rw[g];omega) (by simp)).mono ?_;rw[g];rintro e I ⟨⟨v5,rfl,J⟩,Q⟩;go_wp2_with fail;go_ret2;have O:Kp w I:=((((t.trans r).trans q).trans i).trans ((NQ _).alloc _)).trans Q;have N:=((((t.trans r).trans q).trans i).trans ((NQ _).alloc (.cells #[.slice a1 M c1,.slice a3 K c3,.slice (some ⟨p.heap.size,0,none⟩) (8+s.size) (grownCap p (8+s.size) 0 5),.slice a2 L c2] 24))).size;exact⟨⟨_,rfl,J.mono N⟩,O⟩
theorem Cr (s:ByteArray)(f:Value)(d:List UInt8)(n:Int)(w:World)(k:Rd w f d)(j:n<0\/65535<n)(c:-9223372036854775808<=n/\n<=9223372036854775807):
  Calls prog 136 #[.string s,f,.int .i64 n] w λe w'=>e=.returned (.tuple #[.slice none 0 0,.int .i64 1])/\Kp w w':=by
 obtain⟨u,r,rfl,_,_⟩:=k.shape;have a:=JE (λW=>kr n 2 W c);have b:¬eQ n 2:=λh=>by
  have p:=h.2.2.2;have:(256:Int) ^ (2:Int).toNat=65536:=by decide
  have q:=h.2.2.1;omega
 rw[(ln b).1] at a;clear b j c;go_enter func136,ntmps136;go_wp2_with(first|(go_at_call 100;refine(a.out _).mono ?_;rintro e l ⟨m,rfl,g,i⟩;obtain⟨v,o,t,rfl⟩:=g.rd.sl))
 go_ret2;exact⟨rfl,i⟩
theorem pq (g:Value)(s:ByteArray)(h:Value)(k a:List UInt8)(n:Int)(w:World)(z:Rd w g k)(r:Rd w h a)(y:s.size<=300)(f:a.length<=1400)(j:k.length<=2000)(b:-9223372036854775808<=n/\n<=9223372036854775807):
  Calls prog 101 #[g,.string s,h,.int .i64 n] w λe w'=>(∃ v,e=.returned (.tuple #[v,.int .i64 (fC n)])/\Ow 5 w' w.heap.size v (cC k s.data.toList a n))/\Kp w w':=by
 have x:s.data.toList.length=s.size:=rfl;by_cases m:n<0\/65535<n
 ·have d:=kt k (dr s.data.toList a n.toNat) (n:=n) (by omega)
  have o:=JE (Cr s h a n w r m b);unfold cC;rw[d.1,d.2];clear m b;go_enter func101,ntmps101;go_wp2_with(first|(go_at_call 136;refine o.out.mono ?_;rintro e t ⟨rfl,c⟩))
  go_ret2;exact⟨⟨_,rfl,NR _ _ _⟩,c⟩
 ·obtain⟨n,rfl⟩:=Kc (show 0<=n by omega)
  have o:=JE (Cq s h a n w r y f (by omega));have i:=rM s.data.toList a n (by omega) f;have C:Hid (cC k s.data.toList a n=iS k (dr s.data.toList a n) n):=rfl;rw[C.out];generalize dr s.data.toList a n=I at *;have B:=JE (λW v5 (l:Rd W g k) (A:Rd W v5 I)=>Cp g v5 k I n W l A j i);clear m b;go_enter func101,ntmps101;go_wp2_with(first|(go_at_call 136;refine o.out.mono ?_;rintro e t ⟨⟨E,rfl,q⟩,c⟩;obtain⟨L,G,J,rfl⟩:=q.rd.sl)|(go_at_call 137;refine(B.out _ _ (z.kp c) q.rd).mono ?_;rintro e w2 ⟨⟨D,rfl,p⟩,u⟩;obtain⟨K,F,H,rfl⟩:=p.rd.sl))
  go_ret2;exact⟨⟨_,rfl,p.mono c.size⟩,c.trans u⟩
theorem Ct (a:Value)(s:ByteArray)(k:List UInt8)(w:World)(h:Rd w a k)(g:s.size<=300)(b:k.length<=2000):
  Calls prog 140 #[a,.string s] w λe w'=>(∃ v,e=.returned (.tuple #[v,.int .i64 0])/\Ow 5 w' w.heap.size v (iR k (dr s.data.toList [] 32) 32))/\Kp w w':=by
 have d:=JE (pq a s (.slice none 0 0) k [] 32 w h (cI w) g (by simp) b (by omega));have j:fC 32=0:=rfl;have i:cC k s.data.toList [] 32=iR k (dr s.data.toList [] 32) 32:=rfl;rw[j,i] at d;go_enter func140,ntmps140;go_wp2_with(first|(go_at_call 101;refine d.out.mono ?_;rintro e l ⟨⟨m,rfl,c⟩,f⟩;obtain⟨p,n,o,rfl⟩:=c.rd.sl))
 go_ret2;exact⟨⟨_,rfl,c⟩,f⟩
def lK:List UInt8:=[108,111,99,107]
def lM:List UInt8:=[116,97,103]
def gg (key:List UInt8):List UInt8:=cC key lK [] 16
def fD (key:List UInt8):List UInt8:=cC key lM [] 32
theorem wg (key:List UInt8):(gg key).length=16:=by
 exact(congrArg List.length (lG (n:=16) key (dr lK [] 16) (by omega)).2).trans (nA _ (jn _ _) 16)
theorem pt (key:List UInt8):(fD key).length=32:=by
 exact(congrArg List.length (lG (n:=32) key (dr lM [] 32) (by omega)).2).trans (nA _ (jn _ _) 32)
def iU (key:List UInt8):Int:=if key.length=32 then 0 else 1
def iV (key:List UInt8):List UInt8:=if key.length=32 then gg key else []
def iW (key:List UInt8):List UInt8:=if key.length=32 then fD key else []
def nM (nonce aad s:List UInt8):List UInt8:=aO aad++(nonce++s)
def cD (key nonce aad s:List UInt8):List UInt8:=et (fD key) (nM nonce aad s)
theorem wj (key a b s:List UInt8):(cD key a b s).length=32:=nC _ _
def cm (key nonce b:List UInt8):List UInt8:=bN (cU (gg key)) nonce b
def fj (key nonce aad b:List UInt8):List UInt8:=cm key nonce b++cD key nonce aad (cm key nonce b)
def okK (key nonce:List UInt8):Prop:=key.length=32/\nonce.length=12
instance (key nonce:List UInt8):Decidable (okK key nonce):=by unfold okK;infer_instance
def js (key nonce:List UInt8):Int:=if okK key nonce then 0 else 1
def jt (key nonce aad b:List UInt8):List UInt8:=if okK key nonce then fj key nonce aad b else []
def dO (key nonce aad b:List UInt8):Int:=
 if okK key nonce then (if b.length<32 then 3 else if cD key nonce aad (b.take (b.length - 32))=b.drop (b.length - 32) then 0 else 5) else 1
def dG (key nonce aad b:List UInt8):List UInt8:=if dO key nonce aad b=0 then cm key nonce (b.take (b.length - 32)) else []
theorem py (key a b:List UInt8):(cm key a b).length=b.length:=ky _ _ _
theorem rV (key a c b:List UInt8):(fj key a c b).length=b.length+32:=by
 unfold fj;rw[JQ,py,wj]
theorem CW (key a c b:List UInt8):(fj key a c b).take b.length=cm key a b/\(fj key a c b).drop b.length=cD key a c (cm key a b):=by
 unfold fj;have h:=py key a b;exact⟨by rw[LW (by omega),Ku (by omega)],by rw[LX (by omega),MN (by omega),La]⟩
theorem CX (K a b:List UInt8):bN K a (bN K a b)=b:=by
 refine lI b.length _ _ (by rw[ky,ky]) rfl λj c=>?_
 rw[rU _ _ _ _ (by rw[ky];exact c)];unfold fN;rw[rU _ _ _ _ c];unfold fN;rw[UInt8.xor_assoc,UInt8.xor_self,UInt8.xor_zero]
theorem CY (c b:List UInt8)(h:okK key a):dO key a c (fj key a c b)=0/\dG key a c (fj key a c b)=b:=by
 have d:=rV key a c b;obtain⟨p1,p2⟩:=CW key a c b;have e:dO key a c (fj key a c b)=0:=by
  unfold dO;rw[if_pos h,if_neg (by omega),d,LR,p1,p2,if_pos rfl]
 refine⟨e,?_⟩;unfold dG;rw[if_pos e,d,LR,p1];exact CX _ _ _
def wl (base:List UInt8)(n:Int):Prop:=base.length=12/\0<=n/\n<=4294967295
instance (base:List UInt8) (n:Int):Decidable (wl base n):=by unfold wl;infer_instance
def pubS:List UInt8:=[112,117,98,108,105,99]
def CZ:List UInt8:=[107,101,121]
def Da:List UInt8:=[110,111,110,99,101]
def aI (seed:List UInt8):List UInt8:=cC seed pubS [] 32
theorem nN (k l c:List UInt8):(cC k l c 32).length=32:=
 (congrArg List.length (lG (n:=32) k (dr l c 32) (by omega)).2).trans (nA _ (jn _ _) 32)
theorem Db (k l c:List UInt8):(cC k l c 12).length=12:=
 (congrArg List.length (lG (n:=12) k (dr l c 12) (by omega)).2).trans (nA _ (jn _ _) 12)
theorem gO (seed:List UInt8):(aI seed).length=32:=nN _ _ _
def fO (seed:List UInt8):Int:=if seed.length=32 then 0 else 1
def dX (seed:List UInt8):List UInt8:=if seed.length=32 then aI seed else []
theorem eC (h:s.length=32):fO s=0/\dX s=aI s:=⟨if_pos h,if_pos h⟩
theorem iw (h:¬s.length=32):fO s=1/\dX s=[]:=⟨if_neg h,if_neg h⟩
def iX (pub half:List UInt8):List UInt8:=et pub half
def wkB (pub half info:List UInt8):List UInt8:=cC (iX pub half) CZ info 32
def wnB (pub half info:List UInt8):List UInt8:=cC (iX pub half) Da info 12
theorem nO (pub half info:List UInt8):okK (wkB pub half info) (wnB pub half info):=⟨nN _ _ _,Db _ _ _⟩
def okW (pub once:List UInt8):Prop:=once.length=32/\pub.length=32
instance (pub once:List UInt8):Decidable (okW pub once):=by unfold okW;infer_instance
def pz (pub once:List UInt8):Int:=if okW pub once then 0 else 1
def ix (pub once:List UInt8):List UInt8:=if okW pub once then aI once else []
def iy (pub half info b:List UInt8):List UInt8:=fj (wkB pub half info) (wnB pub half info) [] b
def iz (pub once info b:List UInt8):List UInt8:=if okW pub once then iy pub (aI once) info b else []
def unE (seed half info b:List UInt8):Int:=if okW half seed then dO (wkB (aI seed) half info) (wnB (aI seed) half info) [] b else 1
def unR (seed half info b:List UInt8):List UInt8:=if okW half seed then dG (wkB (aI seed) half info) (wnB (aI seed) half info) [] b else []
theorem pA (info b:List UInt8)(h:okW pub once):pz pub once=0/\ix pub once=aI once/\iz pub once info b=iy pub (aI once) info b:=⟨if_pos h,if_pos h,if_pos h⟩
theorem pB (info b:List UInt8)(h:¬okW pub once):pz pub once=1/\ix pub once=[]/\iz pub once info b=[]:=⟨if_neg h,if_neg h,if_neg h⟩
theorem rW (info b:List UInt8)(h:okW half seed):unE seed half info b=dO (wkB (aI seed) half info) (wnB (aI seed) half info) [] b/\unR seed half info b=dG (wkB (aI seed) half info) (wnB (aI seed) half info) [] b:=⟨if_pos h,if_pos h⟩
theorem pC (info b:List UInt8)(h:¬okW half seed):unE seed half info b=1/\unR seed half info b=[]:=⟨if_neg h,if_neg h⟩
theorem Dc (info b:List UInt8)(a:seed.length=32)(c:half.length=32):unE seed half info (iy (aI seed) half info b)=0/\unR seed half info (iy (aI seed) half info b)=b:=by
 obtain⟨e,d⟩:=rW (seed:=seed) (half:=half) info (iy (aI seed) half info b) ⟨a,c⟩;rw[e,d];exact CY [] b (nO _ _ _)
theorem Rd.grown {r:Option Nat}(h:Rd w v l)(a:w.grownBy w' r)(c:In (λb=>some b≠r) v):Rd w' v l:=
 h.held (R:=λb=>some b≠r) ⟨a.size,λk e d=>a.block k e d⟩ c
theorem Rd.takes {a:Option Addr}{m:Nat}(h:Rd w (.slice a m c) l)(n:Nat)(k:n<=m):Rd w (.slice a n c) (l.take n):=by
 obtain⟨r,q,e,p,j,g,f⟩:=h;simp only[JR] at e;obtain⟨rfl,rfl,rfl⟩:=e;have d:(l.take n).length=n:=by rw[Ki];omega
 exact⟨a,c,by rw[d],by omega,j,g,λx b i o=>by rw[f x b i (by omega),MG]⟩
theorem Ey (j:Nat):be 1 j=[UInt8.ofNat j]:=by simp[be]
theorem Ez (j:Nat)(h:j<=255):IntKind.u8.wrap (j:Int)=((UInt8.ofNat j).toNat:Int):=by
 rw[LC,Mb];omega
theorem EA (s Q:Value)(k info:List UInt8)(n:Nat)(w:World)(hk:Rd w s k)(V:Rd w Q info)(G:k.length<=2000)(af:info.length<=1800)(hn:n<=8160):
  Calls prog 112 #[s,Q,.int .i64 n] w λe w'=>(∃ v,e=.returned (.tuple #[v,.int .i64 0])/\Rd w' v (iR k info n)/\ba w.heap.size v)/\Kp w w':=by
 have U:=aj;obtain⟨ai,ci,rfl,_,_⟩:=V.shape;have d1:decide ((n:Int)<0)=false:=by simp
 have d2:decide (8160<(n:Int))=false:=by simp;omega
 have HC:=JE (nz (dC k info) (jn k info));have HS:Hid (∀ j,dw (dC k info) (j+1)=dw (dC k info) j++dC k info j):=λ_=>rfl
 have HT:=JE (jn k info);have HP:=JE (vf k info);have HX:=JE (vd k info);have HE:Hid (∀ j,fq k info (j+1)=dC k info j):=λ_=>rfl
 have HF:=JE (λj h=>rE (dC k info) (jn k info) n j h);go_enter func112,ntmps112;go_wp2_with fail;go_loopw[8,9,10] (λvo vt p wr=>∃ j:Nat,32*j<n+32/\p=.int .i64 ((j:Int)+1)/\Ow 5 wr w.heap.size vo (dw (dC k info) j)/\Rd wr vt (fq k info j)/\Kp w wr) (λ_ _ p _=>300 - (intOf p).toNat)
 case atStart=>exact⟨0,by omega,rfl,NR _ _ _,cI _,NQ _⟩
 case round=>
  obtain⟨j,hj,rfl,d,B,a⟩:=hrel;have aa:=a.size;obtain⟨ao,co,rfl,q1,q2⟩:=d.rd.shape;have q:=HC.out j;unfold maxLen at q2;rw[q] at d q1 ⊢;by_cases ae:32*j<n
  ·have hq:32*(j:Int)<(n:Int):=by omega
   have hp:=HP.out j;have i:=HX.out j;have C:=HS.out j;have X:=HE.out j;have l:=HT.out j;have H:j+1<=255:=by omega
   have Y:=Ez (j+1) H;have r:=Ey (j+1);rw[Int.natCast_add,Int.natCast_one] at Y;rw[r] at i;obtain⟨x,A⟩:∃ x,UInt8.ofNat (j+1)=x:=⟨_,rfl⟩;rw[A] at Y i;obtain⟨T,Z⟩:∃ T,fq k info j=T:=⟨_,rfl⟩;obtain⟨L,hL⟩:∃ L,dw (dC k info) j=L:=⟨_,rfl⟩;rw[Z] at B hp i;rw[hL] at d q C;have J:=JE i;have M:=JE C;have O:=JE X;have K:=JE l;have I:=V.kp a;have F:=hk.kp a;clear i C X r Z hL l;go_wp2_with(at_builtin;first
    | (refine bw (o:=⟨some 26,_,_,_,_,_⟩) U rfl _ _ rfl wr.heap.size _ _ rfl (NT wr 5 wr.heap.size 0 #[] [] (JO _) rfl (by decide) rfl) _ T rfl (B.kp ((NQ _).alloc _)) (by simp;omega) (by simp) ?_;intro v1 x1 u g1 _;have z:Kp wr x1:=NS ((NQ wr).alloc _) g1 (by intro k e;cases e;exact JO _);rw[La] at u)
    | (refine bw (o:=⟨some 28,_,_,_,_,_⟩) U rfl _ _ rfl wr.heap.size _ _ rfl u _ info rfl (I.kp z) (by omega) z.size ?_;intro v2 P R g2 _;have S:Kp wr P:=NS z g2 u.own_ge)
    | (refine bw (o:=⟨some 32,_,_,_,_,_⟩) U rfl _ _ rfl wr.heap.size _ _ rfl (R.kp ((NQ _).alloc _)) _ [x] rfl (Rd.box P 5 _ x rfl) (by rw[JQ];simp;omega) (S.alloc _).size ?_;intro v3 x3 o3 g3 _;have y:Kp wr x3:=NS (S.alloc _) g3 R.own_ge))
   have E:(T++info++[x]).length<=1900:=by rw[JQ,JQ];simp;omega
   refine(sJ s v3 k (T++info++[x]) _ (F.kp y) o3.rd G E).mono ?_;rw[<-J.out];rintro e x4 ⟨⟨v4,rfl,t⟩,k4⟩;have f:=y.trans k4;go_wp2_with(at_builtin;first
    | (refine bw (o:=⟨some 38,_,_,_,_,_⟩) U rfl _ _ rfl w.heap.size _ L rfl (d.kp f) _ (dC k info j) rfl t.rd (by rw[K.out];omega) (a.trans f).size ?_;intro v5 x5 o5 g5 _;have D:=t.rd.grown g5 (λb o n' c e e2=>by have h1:=t.own_ge b (by rw[e];rfl);have h2:=d.lt b e2.symm;have h3:=y.size;omega);have k5:Kp w x5:=NS (a.trans f) g5 d.own_ge))
   go_roundw
   case rel=>exact⟨j+1,by omega,by go_num,by rw[M.out];exact o5,by rw[O.out];exact D,k5⟩
   case measure=>simp[intOf];omega
  ·have hq:¬32*(j:Int)<(n:Int):=by omega
   have m:=HF.out j (by omega);have N:=JE m;clear m B;have ab:(n:Int)<=32*(j:Int):=by omega
   have ad:(n:Int)<=(co:Int):=by omega
   go_wp2_with fail;go_ret2;exact⟨⟨_,rfl,by rw[show iR k info n=(dw (dC k info) j).take n from N.out];exact d.rd.takes n (by omega),λg W=>d.own_ge g (by cases ao with|none=>exact W|some x=>exact W)⟩,a⟩
theorem EB (c d:Value)(k info:List UInt8)(n:Int)(w:World)(j:Rd w c k)(l:Rd w d info)(f:k.length<=2000)(g:info.length<=1800):
  Calls prog 112 #[c,d,.int .i64 n] w λe w'=>(∃ v,e=.returned (.tuple #[v,.int .i64 (fC n)])/\Rd w' v (iS k info n)/\ba w.heap.size v)/\Kp w w':=by
 by_cases i:n<0
 ·have a:=kt k info (.inl i)
  rw[a.1,a.2];have m:decide (n<0)=true:=by simp[i]
  go_enter func112,ntmps112;go_wp2_with fail;go_ret2;exact⟨⟨_,rfl,cI _,ba.nil _ _ _⟩,NQ _⟩
 ·by_cases h:8160<n
  ·have a:=kt k info (.inr h)
   rw[a.1,a.2];have m:decide (n<0)=false:=by simp;omega
   have o:decide (8160<n)=true:=by simp[h]
   go_enter func112,ntmps112;go_wp2_with fail;go_ret2;exact⟨⟨_,rfl,cI _,ba.nil _ _ _⟩,NQ _⟩
  ·obtain⟨n,rfl⟩:=Kc (show 0<=n by omega)
   have b:=lG k info (show(n:Int)<=8160 by omega);rw[b.1,b.2];exact EA c d k info n w j l f g (by omega)
theorem sK (u:Value)(s:ByteArray)(A:Value)(k a:List UInt8)(n:Int)(w:World)(hk:Rd w u k)(hc:Rd w A a)(hs:s.size<=300)(M:a.length<=1400)(J:k.length<=2000):
  Calls prog 63 #[u,.string s,A,.int .i64 n] w λe w'=>(∃ v,e=.returned (.tuple #[v,.int .i64 (fC n)])/\Rd w' v (cC k s.data.toList a n)/\ba w.heap.size v)/\Kp w w':=by
 have U:=aj;have G:s.data.toList.length=s.size:=rfl;by_cases T:n<0
 ·have f:=kt k (dr s.data.toList a n.toNat) (.inl T)
  unfold cC;rw[f.1,f.2];have d1:decide (n<0)=true:=by simp[T]
  go_enter func63,ntmps63;go_wp2_with fail;go_ret2;exact⟨⟨_,rfl,cI _,ba.nil _ _ _⟩,NQ _⟩
 ·by_cases R:8160<n
  ·have f:=kt k (dr s.data.toList a n.toNat) (.inr R)
   unfold cC;rw[f.1,f.2];have d1:decide (n<0)=false:=by simp;omega
   have d2:decide (8160<n)=true:=by simp[R]
   go_enter func63,ntmps63;go_wp2_with fail;go_ret2;exact⟨⟨_,rfl,cI _,ba.nil _ _ _⟩,NQ _⟩
  ·obtain⟨n,rfl⟩:=Kc (show 0<=n by omega)
   have h:=rM s.data.toList a n (by omega) M;have HR:Hid (cC k s.data.toList a n=iS k (dr s.data.toList a n) n):=rfl;have m:eQ (n:Int) 2:=⟨by omega,by omega,by omega,by have:(256:Int) ^ (2:Int).toNat=65536:=(by decide);omega⟩;have V:=iJ m;have r:fy (n:Int) 2=be 2 n:=by rw[V.2];rfl
   have i:=JE (λW=>rG n 2 W (by omega));rw[V.1,r] at i;have e3:=kj (x:=dU++s.data.toList) (by rw[JQ,G];simp[dU];omega);have z:=kj (x:=a) (by omega);have d:=JE (λW v Q=>pn v (dU++s.data.toList) W Q);have c:=JE (λW Q=>pn A a W Q);rw[e3.1] at d;rw[z.1] at c;have ab:=λW (S:ByteArray)=>Lib.run_convert_string_bytes (P:=prog) W 9 24 5 S underlying9 underlying24 underlying5
   have HI:Hid (dr s.data.toList a n=be 2 n++aO (dU++s.data.toList)++aO a):=rfl;have I:(be 2 n).length=2:=bq _ _;have p:(be 2 n).length+(aO (dU++s.data.toList)).length+(aO a).length<=1800:=by rw[HI.out,JQ,JQ] at h;exact h
   have g:(⟨#[77,76,83,32,49,46,48,32]⟩++s:ByteArray).size=8+s.size:=by rw[ByteArray.size_append];rfl
   have q:(⟨#[77,76,83,32,49,46,48,32]⟩++s:ByteArray).data.toList=dU++s.data.toList:=by rw[ByteArray.data_append,Array.toList_append];rfl
   have H:=JE (λW=>show Rd (Lib.bytesWorld W 5 (⟨#[77,76,83,32,49,46,48,32]⟩++s)) (.slice (some ⟨W.heap.size,0,none⟩) (8+s.size) (grownCap W (8+s.size) 0 5)) (dU++s.data.toList) from by
    have:=vK W 5 (⟨#[77,76,83,32,49,46,48,32]⟩++s) (by rw[g];omega);rw[q,g] at this;exact this)
   have K:=JE (λW=>vJ W 5 (⟨#[77,76,83,32,49,46,48,32]⟩++s));have HD:=JE g;have d1:decide ((n:Int)<0)=false:=by simp
   have d2:decide (8160<(n:Int))=false:=by simp;omega
   have t:=JE p;have HX:=JE (λW B (L:Rd W u k) (h5:Rd W B (dr s.data.toList a n))=>EB u B k (dr s.data.toList a n) n W L h5 J h);clear m V r e3 z h g q p I;rw[HR.out];go_enter func63,ntmps63;go_wp2_with(first
    | (go_at_call 62;refine(i.out _).mono ?_;rintro e X ⟨v1,rfl,y,k1⟩;obtain⟨a1,n1,c1,rfl⟩:=y.rd.sl))
   refine(d.out _ _ (H.out X)).mono ?_;rintro e w2 ⟨v2,rfl,Z,k2⟩;obtain⟨a2,n2,c2,rfl⟩:=Z.rd.sl;have E:=(K.out X).trans k2;have aa:=E.size;have N:=(hc.kp k1).kp E;go_wp2_with fail;refine(c.out _ N).mono ?_;rintro e w3 ⟨v3,rfl,C,k3⟩;obtain⟨a3,n3,c3,rfl⟩:=C.rd.sl;have l:=E.trans k3;have j:=k1.trans l;have r2:=Z.rd.kp k3;have D:=y.kp l;have O:∀ b,(Value.slice a1 n1 c1).ownBlock=some b->b<w2.heap.size:=λb e=>by have:=y.lt b e;omega
   go_wp2_with(at_builtin;first
    | (refine bw (o:=⟨some 42,_,_,_,_,_⟩) U rfl _ _ rfl w.heap.size _ (be 2 n) rfl D _ (aO (dU++s.data.toList)) rfl r2 (by have:=t.out;omega) j.size ?_;intro v4 w4 Y g4 _;have r3:=C.rd.grown g4 (λb o n' c' e z=>by have T:=C.own_ge b (by rw[e];rfl);have R:=O b z.symm;omega);have k4:Kp w w4:=NS j g4 y.own_ge)
    | (refine bw (o:=⟨some 44,_,_,_,_,_⟩) U rfl _ _ rfl w.heap.size _ (be 2 n++aO (dU++s.data.toList)) rfl Y _ (aO a) rfl r3 (by have:=t.out;rw[JQ];omega) k4.size ?_;intro B w5 o5 g5 _;have F:Kp w w5:=NS k4 g5 Y.own_ge))
   refine(HX.out _ _ (hk.kp F) (by rw[HI.out];exact o5.rd)).mono ?_;rintro e w6 ⟨⟨v6,rfl,r6,n6⟩,k6⟩;go_wp2_with fail;go_ret2;exact⟨⟨_,rfl,r6,n6.kp F⟩,F.trans k6⟩
theorem pS (b:Value)(s:ByteArray)(c:Value)(k a:List UInt8)(n:Int)(w:World)(h:Rd w b k)(i:Rd w c a)(g:s.size<=300)(f:a.length<=1400)(d:k.length<=2000):
  Calls prog 63 #[b,.string s,c,.int .i64 n] w λe w'=>(∃ v,e=.returned (.tuple #[v,.int .i64 (fC n)])/\Rd w' v (cC k s.data.toList a n))/\Kp w w':=
 (sK b s c k a n w h i g f d).mono λe w' ⟨⟨v,m,l,_⟩,j⟩=>⟨⟨v,m,l⟩,j⟩
theorem EC (a:Value)(s:ByteArray)(k:List UInt8)(w:World)(i:Rd w a k)(h:s.size<=300)(c:k.length<=2000):
  Calls prog 81 #[a,.string s] w λe w'=>(∃ v,e=.returned (.tuple #[v,.int .i64 0])/\Rd w' v (iR k (dr s.data.toList [] 32) 32)/\ba w.heap.size v)/\Kp w w':=by
 have f:=JE (sK a s (.slice none 0 0) k [] 32 w i (cI w) h (by simp) c);have l:fC 32=0:=rfl;have j:cC k s.data.toList [] 32=iR k (dr s.data.toList [] 32) 32:=rfl;rw[l,j] at f;go_enter func81,ntmps81;go_wp2_with(first|(go_at_call 63;refine f.out.mono ?_;rintro e m ⟨⟨n,rfl,d,b⟩,g⟩;obtain⟨q,o,p,rfl⟩:=d.sl))
 go_ret2;exact⟨⟨_,rfl,d,b⟩,g⟩
theorem xU (p:Nat)(T:TypeId)(c:Value)(s:ByteArray)(key:List UInt8)(n:Int)(w:World)(h:One T w p c)(d:Rd w c key)(b:key.length<=2000)(g:s.size<=300)(a:-9223372036854775808<=n/\n<=9223372036854775807):
  Calls prog 237 #[.string s,.int .i64 n,.pointer (some ⟨p,0,none⟩)] w λe w'=>(∃ v,e=.returned (.tuple #[v,.int .i64 (fC n)])/\Rd w' v (cC key s.data.toList [] n))/\Kp w w':=by
 have k:=JE (pq c s (.slice none 0 0) key [] n w d (cI w) g (by simp) b a);obtain⟨r,m,q,rfl⟩:=d.sl;have o:=h.cell;clear h d b g a;go_enter func237,ntmps237;go_wp2_with fail;refine k.out.mono ?_;rintro _ l ⟨⟨v,rfl,f⟩,j⟩;have i:=f.rd;clear f;go_wp2_with fail;go_ret2;exact⟨⟨_,rfl,i⟩,j⟩
theorem xV (aa:Value)(key:List UInt8)(w:World)(h:Rd w aa key):
  Calls prog 202 #[aa] w λe w'=>(∃ a b,e=.returned (.tuple #[a,b,.int .i64 (iU key)])/\Rd w' a (iV key)/\Rd w' b (iW key))/\Kp w w':=by
 obtain⟨m,l,rfl,z,C⟩:=h.shape;by_cases c:key.length=32
 ·have k:iU key=0:=if_pos c
  have j:iV key=cC key lK [] 16:=if_pos c;have i:iW key=cC key lM [] 32:=if_pos c;rw[k,j,i];have q:=JE (Oh 24 w (.slice m key.length l));have g:Hid (∀ W,Kp (w.alloc (.cells #[.slice m key.length l] 24)) W->Calls prog 237 #[.string ⟨#[108,111,99,107]⟩,.int .i64 16,.pointer (some ⟨w.heap.size,0,none⟩)] W λe w'=>(∃ v,e=.returned (.tuple #[v,.int .i64 0])/\Rd w' v (cC key lK [] 16))/\Kp W w'):=λW d=>xU _ _ _ ⟨#[108,111,99,107]⟩ key 16 W (q.out.kp d) (h.kp (((NQ w).alloc _).trans d)) (by omega) (by decide) (by omega)
  have f:Hid (∀ W,Kp (w.alloc (.cells #[.slice m key.length l] 24)) W->Calls prog 237 #[.string ⟨#[116,97,103]⟩,.int .i64 32,.pointer (some ⟨w.heap.size,0,none⟩)] W λe w'=>(∃ v,e=.returned (.tuple #[v,.int .i64 0])/\Rd w' v (cC key lM [] 32))/\Kp W w'):=λW d=>xU _ _ _ ⟨#[116,97,103]⟩ key 32 W (q.out.kp d) (h.kp (((NQ w).alloc _).trans d)) (by omega) (by decide) (by omega)
  clear q;rw[c] at g f z ⊢;clear h c k j i;go_enter func202,ntmps202;go_wp2_with fail;refine(g.out _ (NQ _)).mono ?_;rintro _ r ⟨⟨B,rfl,t⟩,p⟩;go_wp2_with fail;refine(f.out r p).mono ?_;rintro _ w2 ⟨⟨A,rfl,s⟩,o⟩;have n:=t.kp o;have u:=(((NQ w).alloc (.cells #[.slice m 32 l] 24)).trans p).trans o;clear p o;go_wp2_with fail;go_ret3
  exact⟨⟨_,_,rfl,n,s⟩,u⟩
 ·have k:iU key=1:=if_neg c
  have j:iV key=[]:=if_neg c;have i:iW key=[]:=if_neg c;rw[k,j,i];have y:((key.length:Int)==32)=false:=JL.2 (by omega);have x:¬(key.length:Int)=32:=by omega
  go_enter func202,ntmps202;go_wp2_with fail;go_ret3
  exact⟨⟨_,_,rfl,cI _,cI _⟩,(NQ _).alloc _⟩
theorem EN (d v:Value)(k:List UInt8)(ls:List (List UInt8))(w:World)(l:Rd w d k)(h:RL w v ls)(b:k.length<=2000)(j:ls.flatten.length<=1900)(i:ls.length<1000000):
  Calls prog 204 #[d,v] w λe w'=>(∃ a c,e=.returned (.slice a 32 c)/\Ow 5 w' w.heap.size (.slice a 32 c) (et k ls.flatten))/\Kp w w':=by
 go_enter func204,ntmps204;go_wp2_with fail;refine(vG _ _ k ls _ l h b j i).mono ?_;rintro e m ⟨⟨o,n,rfl,f⟩,g⟩;go_wp2_with fail;go_ret;exact⟨⟨_,_,rfl,f⟩,g⟩
structure kH (w:World)(p q r:Nat)(own row nonce:List UInt8):Prop where
 mk ::
 one:∃ T v,One T w p v/\Rd w v own
 two:∃ T v,One T w q v/\Rd w v row
 three:∃ T v,One T w r v/\Rd w v nonce
theorem kH.kp {q r:Nat}{own row:List UInt8}(h:kH w p q r own row a)(k:Kp w w'):kH w' p q r own row a:=by
 obtain⟨⟨o,d,l,g⟩,⟨n,c,j,f⟩,⟨m,b,i,e⟩⟩:=h;exact⟨⟨o,d,l.kp k,g.kp k⟩,⟨n,c,j.kp k,f.kp k⟩,⟨m,b,i.kp k,e.kp k⟩⟩
def nZ (p q r:Nat):Value:=.func (.func 203) #[] #[.pointer (some ⟨p,0,none⟩),.pointer (some ⟨q,0,none⟩),.pointer (some ⟨r,0,none⟩)]
theorem xW (p q r:Nat)(vs:Value)(own row b s:List UInt8)(w:World)(h:kH w p q r own row b)(f:Rd w vs s)(d:own.length<=2000)(F:row.length+b.length+s.length<=1900):
  Calls prog 203 #[vs,.pointer (some ⟨p,0,none⟩),.pointer (some ⟨q,0,none⟩),.pointer (some ⟨r,0,none⟩)] w λe w'=>(∃ a c,e=.returned (.slice a 32 c)/\Rd w' (.slice a 32 c) (et own (row++(b++s))))/\Kp w w':=by
 obtain⟨⟨X,z,o,j⟩,⟨W,M,n,i⟩,⟨V,L,m,g⟩⟩:=h;have P:=o.cell;have O:=n.cell;have N:=m.cell;have u:Hid (([row,b,s]:List (List UInt8)).flatten=row++(b++s)):=by simp[Hid]
 have t:=JE (EN z (.slice (some ⟨w.heap.size,0,none⟩) 3 3) own [row,b,s] _ (j.kp ((NQ _).alloc _)) (RL.lit3 (T:=24) i g f) d (by rw[u.out];simp;omega) (by simp));rw[u.out] at t;obtain⟨J,Q,S,rfl⟩:=j.sl;obtain⟨y,D,I,rfl⟩:=i.sl;obtain⟨x,C,H,rfl⟩:=g.sl;obtain⟨v,B,G,rfl⟩:=f.sl;clear o n m j i g f d F;go_enter func203,ntmps203;go_wp2_with fail;refine t.out.mono ?_;rintro e K ⟨⟨U,R,rfl,k⟩,l⟩;have E:=((NQ w).alloc (.cells #[.slice y D I,.slice x C H,.slice v B G] 24)).trans l;have A:=k.rd;clear k l;go_wp2_with fail;go_ret;exact⟨⟨_,_,rfl,A⟩,E⟩
theorem xX (u1 u2 u3:Value)(key c d:List UInt8)(w:World)(A:Rd w u1 key)(t:Rd w u2 c)(z:Rd w u3 d)(h:key.length=32)(y:c.length=12)(hl:d.length<=1700):
  Calls prog 172 #[u1,u2,u3] w λe w'=>(∃ v p q r,e=.returned (.tuple #[v,nZ p q r,.int .i64 0])/\Rd w' v (gg key)/\kH w' p q r (fD key) (aO d) c)/\Kp w w':=by
 unfold nZ;obtain⟨C,B,rfl,p2,s2⟩:=t.shape;have I:Hid (∀ W,Kp w W->Calls prog 202 #[u1] W λe w'=>(∃ a b,e=.returned (.tuple #[a,b,.int .i64 0])/\Rd w' a (gg key)/\Rd w' b (fD key))/\Kp W w'):=λW s=>by
  have:=xV u1 key W (A.kp s);rwa [show iU key=0 from if_pos h,show iV key=gg key from if_pos h,show iW key=fD key from if_pos h] at this
 have f:=(kj (x:=d) (by omega)).1;have H:Hid (∀ W,Kp w W->Calls prog 166 #[u3] W λe w'=>∃ aa,e=.returned (.tuple #[aa,.int .i64 0])/\Ow 5 w' W.heap.size aa (aO d)/\Kp W w'):=λW s=>by
  have:=rK u3 d W (z.kp s);rwa [f] at this
 have J:=JE t;have u:=JE (Oh 24 w (.slice C c.length B));rw[y] at J u p2 ⊢;clear A t z f h y;go_enter func172,ntmps172;go_wp2_with fail;refine(I.out _ ((NQ w).alloc _)).mono ?_;rintro _ j ⟨⟨a,b,rfl,l,k⟩,o⟩;have i:=JE (((NQ w).alloc (.cells #[.slice C 12 B] 24)).trans o);have G:=JE (u.out.kp o);have E:=JE l;have D:=JE k;have F:=JE (λT=>Oh T j b);obtain⟨X,nb,cb,rfl⟩:=k.sl;obtain⟨Y,na,ca,rfl⟩:=l.sl;clear u o l k;go_wp2_with fail;refine(H.out _ (i.out.alloc _)).mono ?_;rintro _ w2 ⟨Z,rfl,m,n⟩;have g:Kp j w2:=((NQ j).alloc _).trans n;have N:=JE ((F.out _).kp n);have O:=JE (G.out.kp g);have P:=JE (i.out.trans g);have V:=JE (E.out.kp g);have U:=JE (D.out.kp g);have S:=JE m.rd;have R:=JE (J.out.kp (i.out.trans g));obtain⟨K,L,M,rfl⟩:=m.rd.sl;have Q:=JE (Oh 24 w2 (.slice K L M));clear m n g F G i E D H I;go_wp2_with fail;go_ret3
 exact⟨⟨_,_,_,_,rfl,V.out.kp ((NQ _).alloc _),⟨_,_,N.out.kp ((NQ _).alloc _),U.out.kp ((NQ _).alloc _)⟩,⟨_,_,Q.out,S.out.kp ((NQ _).alloc _)⟩,⟨_,_,O.out.kp ((NQ _).alloc _),R.out.kp ((NQ _).alloc _)⟩⟩,P.out.alloc _⟩
theorem xY (u1 u2 u3:Value)(key c i:List UInt8)(w:World)(n:Rd w u1 key)(m:Rd w u2 c)(s:Rd w u3 i)(d:¬okK key c):
  Calls prog 172 #[u1,u2,u3] w λe w'=>e=.returned (.tuple #[.slice none 0 0,.nilFunc,.int .i64 1])/\Kp w w':=by
 obtain⟨u,t,rfl,p2,A⟩:=m.shape;by_cases g:c.length=12
 ·have f:¬key.length=32:=λh=>d ⟨h,g⟩
  have o:Hid (∀ W,Kp w W->Calls prog 202 #[u1] W λe w'=>(∃ a b,e=.returned (.tuple #[a,b,.int .i64 1])/\Rd w' a []/\Rd w' b [])/\Kp W w'):=λW r=>by
   have:=xV u1 key W (n.kp r);rwa [show iU key=1 from if_neg f,show iV key=[] from if_neg f,show iW key=[] from if_neg f] at this
  rw[g] at p2 ⊢;clear n m s f d g;go_enter func172,ntmps172;go_wp2_with fail;refine(o.out _ ((NQ w).alloc _)).mono ?_;rintro _ z ⟨⟨a,b,rfl,k,j⟩,l⟩;have v:=JE (((NQ w).alloc (.cells #[.slice u 12 t] 24)).trans l);obtain⟨x,B,D,rfl⟩:=j.sl;obtain⟨y,C,E,rfl⟩:=k.sl;clear l k j o;go_wp2_with fail;go_ret3
  exact⟨rfl,v.out.alloc _⟩
 ·have q:((c.length:Int)==12)=false:=JL.2 (by omega)
  have p:¬(c.length:Int)=12:=by omega
  go_enter func172,ntmps172;go_wp2_with fail;go_ret3
  exact⟨rfl,(NQ _).alloc _⟩
theorem yu (aa:Value)(key:List UInt8)(w:World)(g:Rd w aa key):
  Calls prog 152 #[aa] w λe w'=>(∃ a b,e=.returned (.tuple #[a,b,.int .i64 (iU key)])/\Rd w' a (iV key)/\Rd w' b (iW key))/\Kp w w':=by
 obtain⟨p,o,rfl,x,A⟩:=g.shape;by_cases c:key.length=32
 ·have j:iU key=0:=if_pos c
  have i:iV key=cC key lK [] 16:=if_pos c;have h:iW key=cC key lM [] 32:=if_pos c;rw[j,i,h];have f:Hid (∀ W,Kp w W->Calls prog 63 #[.slice p key.length o,.string ⟨#[108,111,99,107]⟩,.slice none 0 0,.int .i64 16] W λe w'=>(∃ v,e=.returned (.tuple #[v,.int .i64 0])/\Rd w' v (cC key lK [] 16))/\Kp W w'):=λW l=>pS _ ⟨#[108,111,99,107]⟩ _ key [] 16 W (g.kp l) (Rd.nil W) (by decide) (by simp) (by omega)
  have d:Hid (∀ W,Kp w W->Calls prog 63 #[.slice p key.length o,.string ⟨#[116,97,103]⟩,.slice none 0 0,.int .i64 32] W λe w'=>(∃ v,e=.returned (.tuple #[v,.int .i64 0])/\Rd w' v (cC key lM [] 32))/\Kp W w'):=λW l=>pS _ ⟨#[116,97,103]⟩ _ key [] 32 W (g.kp l) (Rd.nil W) (by decide) (by simp) (by omega)
  rw[c] at f d x ⊢;clear g c j i h;go_enter func152,ntmps152;go_wp2_with fail;refine(f.out w (NQ w)).mono ?_;rintro _ q ⟨⟨z,rfl,s⟩,n⟩;go_wp2_with fail;refine(d.out q n).mono ?_;rintro _ w2 ⟨⟨y,rfl,r⟩,m⟩;have k:=s.kp m;go_wp2_with fail;go_ret3
  exact⟨⟨_,_,rfl,k,r⟩,n.trans m⟩
 ·have j:iU key=1:=if_neg c
  have i:iV key=[]:=if_neg c;have h:iW key=[]:=if_neg c;rw[j,i,h];have u:((key.length:Int)==32)=false:=JL.2 (by omega);have t:¬(key.length:Int)=32:=by omega
  go_enter func152,ntmps152;go_wp2_with fail;go_ret3
  exact⟨⟨_,_,rfl,Rd.nil _,Rd.nil _⟩,NQ _⟩
theorem yv (u1 u2 u3 u4:Value)(key a c b:List UInt8)(w:World)(y:Rd w u1 key)(p:Rd w u2 a)(v:Rd w u3 c)(o:Rd w u4 b)(m:key.length<=2000)(H:a.length+c.length+b.length<=1800):
  Calls prog 154 #[u1,u2,u3,u4] w λe w'=>(∃ r,e=.returned r/\Ow 5 w' w.heap.size r (et key (nM a c b)))/\Kp w w':=by
 obtain⟨N,G,K,rfl⟩:=p.sl;obtain⟨M,F,J,rfl⟩:=o.sl;have f:=(kj (x:=c) (by omega)).1;have h:=lq (x:=c) (by omega);have l:=ks c.length;have d:=JE (pn u3 c w v);rw[f] at d;have z:Hid ([aO c,a,b].flatten=nM a c b):=by simp[Hid,nM]
 have i:([aO c,a,b].flatten).length<=1900:=by
  rw[z.out];unfold nM;rw[JQ,JQ];omega
 have t:=JE i;clear f h l i;go_enter func154,ntmps154;go_wp2_with fail;refine d.out.mono ?_;rintro _ A ⟨D,rfl,j,g⟩;have q:=y.kp g;obtain⟨L,E,I,rfl⟩:=j.rd.sl;have s:=JE (RL.lit3 (w:=A) (T:=24) j.rd (p.kp g) (o.kp g));clear y p v o j d;go_wp2_with fail;refine(Ex _ _ key [aO c,a,b] _ (q.kp ((NQ _).alloc _)) s.out m t.out (by simp)).mono ?_;rw[z.out];rintro _ w2 ⟨⟨r,rfl,u⟩,B⟩;have C:=g.size;have k:=u.mono (B':=w.heap.size) (by simp;omega);have n:=(g.alloc _).trans B;clear u;go_wp2_with fail;go_ret;exact⟨⟨_,rfl,k⟩,n⟩
theorem yw (h:key.length=32):iU key=0/\iV key=gg key/\iW key=fD key:=⟨if_pos h,if_pos h,if_pos h⟩
theorem yx (h:¬key.length=32):iU key=1/\iV key=[]/\iW key=[]:=⟨if_neg h,if_neg h,if_neg h⟩
theorem qp (b:List UInt8)(h:a.length=12):jq (gg key) a=0/\jr (gg key) a b=cm key a b:=
 ⟨if_pos ⟨wg key,h⟩,if_pos ⟨wg key,h⟩⟩
theorem FX (u1 u2 u3 u4:Value)(key a c b:List UInt8)(w:World)(h1:Rd w u1 key)(J:Rd w u2 a)(h3:Rd w u3 c)(h4:Rd w u4 b)(hl:c.length+b.length<=1700):
  Calls prog 114 #[u1,u2,u3,u4] w λe w'=>(∃ r,e=.returned (.tuple #[r,.int .i64 (js key a)])/\Rd w' r (jt key a c b)/\ba w.heap.size r)/\Kp w w':=by
 have U:=aj;obtain⟨a2,c2,rfl,p2,s2⟩:=J.shape;have z:=JE (yu u1 key w h1);by_cases j:key.length=32
 ·obtain⟨N,M,K⟩:=yw j
  rw[N,M,K] at z;by_cases i:a.length=12
  ·have u:js key a=0:=if_pos ⟨j,i⟩
   have q:jt key a c b=fj key a c b:=if_pos ⟨j,i⟩;rw[u,q];obtain⟨e6,e7⟩:=qp (key:=key) b i;have HS:Hid (∀ W v,Kp w W->Rd W v (gg key)->Calls prog 153 #[v,.slice a2 a.length c2,u4] W λe w'=>(∃ r,e=.returned (.tuple #[r,.int .i64 0])/\Rd w' r (cm key a b))/\Kp W w'):=λW v G X=>by
    rw[<-e6,<-e7];exact yt _ _ _ _ a b W X (J.kp G) (h4.kp G) (by omega)
   have ab:=py key a b;have HT:Hid (∀ W v s,Kp w W->Rd W v (fD key)->Rd W s (cm key a b)->Calls prog 154 #[v,.slice a2 a.length c2,u3,s] W λe w'=>(∃ r,e=.returned r/\Ow 5 w' W.heap.size r (cD key a c (cm key a b)))/\Kp W w'):=λW v s G X hs=>
    yv _ _ _ _ (fD key) a c _ W X (J.kp G) (h3.kp G) hs (by rw[pt];omega) (by omega)
   have HD:Hid (cm key a b++cD key a c (cm key a b)=fj key a c b):=rfl;have H:=wj key a c (cm key a b);rw[i] at HS HT p2 ⊢;have D:(cm key a b).length<=1700:=by omega
   generalize cD key a c (cm key a b)=T at *;generalize cm key a b=L at *;generalize fj key a c b=R at *;clear h1 J h3 h4 N M K u q e6 e7 j i ab;go_enter func114,ntmps114;go_wp2_with fail;refine z.out.mono ?_;rintro _ S ⟨⟨x,y,rfl,m,l⟩,p⟩;have P:=JE p;have R2:=JE l;have R1:=JE m;clear z p m l;go_wp2_with fail;refine(HS.out S x P.out R1.out).mono ?_;rintro _ w2 ⟨⟨s,rfl,r3⟩,k2⟩;have O:=JE k2;have Z:=JE r3;clear HS k2 r3;have I:=JE D;have aa:=JE H;clear D H;obtain⟨al,ae,ai,rfl⟩:=Z.out.sl;go_wp2_with(at_builtin;first
    | (refine bw (o:=⟨some 38,_,_,_,_,_⟩) U rfl _ _ rfl w2.heap.size _ [] rfl (NT w2 _ _ 0 #[] [] (JO _) rfl (by omega) rfl) _ L rfl (Z.out.kp ((NQ _).alloc _)) (by have:=I.out;simp;omega) (by simp) ?_;intro v4 Q C F _;have n:Kp w2 Q:=NS ((NQ w2).alloc _) F (λk e=>by cases e;exact JO _);have d:Ow 5 Q w2.heap.size v4 L:=(by simpa using C);clear C F))
   have K4:=JE n;refine(HT.out Q y _ (P.out.trans (O.out.trans n)) ((R2.out.kp O.out).kp n) (Z.out.kp n)).mono ?_;rintro _ w5 ⟨⟨t,rfl,B⟩,V⟩;have r5:=B.rd;have A:=d.kp V;have E:=n.trans V;obtain⟨ak,ad,ah,rfl⟩:=r5.sl;clear d B V n;go_wp2_with(at_builtin;first
    | (refine bw (o:=⟨some 45,_,_,_,_,_⟩) U rfl _ _ rfl w2.heap.size v4 L rfl A _ T rfl r5 (by have:=I.out;have:=aa.out;omega) E.size ?_;intro v7 w7 f Y _;have k7:Kp w2 w7:=NS E Y A.own_ge;rw[HD.out] at f))
   go_ret2;exact⟨⟨_,rfl,f.rd,ba.kp (w':=w2) (λg hg=>f.own_ge g hg) (P.out.trans O.out)⟩,(P.out.trans O.out).trans k7⟩
  ·have u:js key a=1:=if_neg (λh=>i h.2)
   have q:jt key a c b=[]:=if_neg (λh=>i h.2);rw[u,q];have ag:((a.length:Int)==12)=false:=JL.2 (by omega);have af:¬(a.length:Int)=12:=by omega
   go_enter func114,ntmps114;go_wp2_with fail;refine z.out.mono ?_;rintro _ S ⟨⟨x,y,rfl,m,l⟩,p⟩;clear m l;go_wp2_with fail;go_ret2;exact⟨⟨_,rfl,Rd.nil _,ba.nil _ _ _⟩,p⟩
 ·obtain⟨N,M,K⟩:=yx j
  rw[N,M,K] at z;have u:js key a=1:=if_neg (λh=>j h.1);have q:jt key a c b=[]:=if_neg (λh=>j h.1);rw[u,q];go_enter func114,ntmps114;go_wp2_with fail;refine z.out.mono ?_;rintro _ S ⟨⟨x,y,rfl,m,l⟩,p⟩;clear m l;go_wp2_with fail;go_ret2;exact⟨⟨_,rfl,Rd.nil _,ba.nil _ _ _⟩,p⟩
theorem Rd.pre6 {a:Option Addr}(h:Rd w (.slice a n c) l)(k:Nat)(o:k<=n):Rd w (.slice a k c) (l.take k):=by
 obtain⟨r,q,e,p,m,j,g⟩:=h;simp only[JR] at e;obtain⟨rfl,rfl,rfl⟩:=e;have b:(l.take k).length=k:=by simp;omega
 refine⟨a,c,by rw[b],by omega,m,j,λx d i f=>?_⟩;rw[b] at f;rw[g x d i (by omega),MG]
theorem Rd.post6 {g o:Nat}(h:Rd w (.slice (some ⟨g,o,none⟩) n c) l)(k m:Nat)(d:k+m=n)(a:k<c):Rd w (.slice (some ⟨g,o+k,none⟩) m (c - k)) (l.drop k):=by
 have:=h.cutAt k m (by omega) a;have b:=h.len.1;rwa [Ku (by rw[LG];omega)] at this
theorem FY (u1 u2 u3 u4:Value)(key a c b:List UInt8)(w:World)(h1:Rd w u1 key)(I:Rd w u2 a)(h3:Rd w u3 c)(E:Rd w u4 b)(hl:c.length+b.length<=1700):
  Calls prog 160 #[u1,u2,u3,u4] w λe w'=>(∃ r,e=.returned (.tuple #[r,.int .i64 (dO key a c b)])/\Rd w' r (dG key a c b))/\Kp w w':=by
 obtain⟨a2,c2,rfl,p2,s2⟩:=I.shape;obtain⟨a4,F,rfl,p4,s4⟩:=E.shape;have u:=JE (yu u1 key w h1);by_cases C:key.length=32
 ·obtain⟨M,K,J⟩:=yw C
  rw[M,K,J] at u;by_cases A:a.length=12
  ·have s:okK key a:=⟨C,A⟩
   by_cases Q:b.length<32
   ·have d:dO key a c b=3:=by unfold dO;rw[if_pos s,if_pos Q]
    have p:dG key a c b=[]:=by unfold dG;rw[d];rfl
    rw[d,p,A];have q0:(b.length:Int)<32:=by omega
    go_enter func160,ntmps160;go_wp2_with fail;refine u.out.mono ?_;rintro _ H ⟨⟨x,y,rfl,k,j⟩,l⟩;clear k j;go_wp2_with fail;go_ret2;exact⟨⟨_,rfl,Rd.nil _⟩,l⟩
   ·obtain⟨n,t⟩:∃ n,b.length - 32=n:=⟨_,rfl⟩
    have D:b.length=n+32:=by omega
    obtain⟨U,O,rfl,_,_⟩:=E.at 0 (by omega);have d:dO key a c b=if cD key a c (b.take n)=b.drop n then 0 else 5:=by unfold dO;rw[if_pos s,if_neg Q,t]
    have p:dG key a c b=if cD key a c (b.take n)=b.drop n then cm key a (b.take n) else []:=by
     unfold dG;rw[d,t];by_cases q:cD key a c (b.take n)=b.drop n
     ·rw[if_pos q,if_pos rfl,if_pos q]
     ·rw[if_neg q,if_neg (by decide),if_neg q]
    have S:(b.take n).length=n:=by rw[Ki];omega
    have X:=JE (E.pre6 n (by omega));have HZ:=JE (E.post6 n 32 (by omega) (by omega));obtain⟨e6,e7⟩:=qp (key:=key) (b.take n) A;have HS:Hid (∀ W v,Kp w W->Rd W v (gg key)->Calls prog 153 #[v,.slice a2 a.length c2,.slice (some ⟨U,O,none⟩) n F] W λe w'=>(∃ r,e=.returned (.tuple #[r,.int .i64 0])/\Rd w' r (cm key a (b.take n)))/\Kp W w'):=λW v o B=>by
     rw[<-e6,<-e7];exact yt _ _ _ _ a (b.take n) W B (I.kp o) (X.out.kp o) (by omega)
    have HT:Hid (∀ W v,Kp w W->Rd W v (fD key)->Calls prog 154 #[v,.slice a2 a.length c2,u3,.slice (some ⟨U,O,none⟩) n F] W λe w'=>(∃ r,e=.returned r/\Ow 5 w' W.heap.size r (cD key a c (b.take n)))/\Kp W w'):=λW v o B=>
     yv _ _ _ _ (fD key) a c _ W B (I.kp o) (h3.kp o) (X.out.kp o) (by rw[pt];omega) (by omega)
    rw[d,p];have f:∀ (g:Bool),decide (cD key a c (b.take n)=b.drop n)=g->(if cD key a c (b.take n)=b.drop n then (0:Int) else 5)=(if g then 0 else 5)/\(if cD key a c (b.take n)=b.drop n then cm key a (b.take n) else [])=(if g then cm key a (b.take n) else []):=by
     rintro _ rfl;by_cases q:cD key a c (b.take n)=b.drop n
     ·simp[q]
     ·simp[q]
    obtain⟨g,i⟩:∃ g,decide (cD key a c (b.take n)=b.drop n)=g:=⟨_,rfl⟩;rw[(f g i).1,(f g i).2];have V:Hid (∀ W v,Kp w W->Rd W v (cD key a c (b.take n))->Calls prog 29 #[v,.slice (some ⟨U,O+n,none⟩) 32 (F - n)] W λe w'=>e=.returned (.bool g)/\W=w'):=λW v o B=>by
     have:=fM v _ _ _ W B (HZ.out.kp o);rwa [i] at this
    rw[A] at HS HT p2 ⊢;clear X HZ;obtain⟨m,R⟩:∃ m,b.length=m:=⟨_,rfl⟩;rw[R] at p4 ⊢;rw[R] at D;have i0:IntKind.i64.wrap ((m:Int) - 32)=(n:Int):=by rw[JI _ (by omega)];omega
    have i2:(n:Int)<=(F:Int):=by omega
    have i3:(n:Int)<=(m:Int):=by omega
    have i4:¬(m:Int)<32:=by omega
    have i5:(0:Int)<=(n:Int):=by omega
    have i6:(m:Int)<=(F:Int):=by omega
    have i7:(0:Int)<=(m:Int):=by omega
    have i8:m - n=32:=by omega
    have i9:((m:Int) - (n:Int)).toNat=32:=by omega
    have aa:(m:Int) - (n:Int)=32:=by omega
    clear R;generalize cD key a c (b.take n)=T at *;generalize cm key a (b.take n)=L at *;clear h1 I h3 E M K J d p e6 e7 C A f i s Q t S D;go_enter func160,ntmps160;go_wp2_with fail;refine u.out.mono ?_;rintro _ H ⟨⟨x,y,rfl,k,j⟩,l⟩;have G:=JE l;have R1:=JE k;have R2:=JE j;clear u l k j;go_wp2_with fail;go_region_held3 (λ_=>True) (exact trivial)
     (first
      | (go_at_call 154;refine(HT.out _ y (G.out.drew) (R2.out.kp (NQ _).drew)).mono ?_;rintro _ w2 ⟨⟨v,rfl,Z⟩,P⟩)
      | (go_at_call 29;refine(V.out _ v ((G.out.drew).trans P) Z.rd).mono ?_;rintro _ _ ⟨rfl,rfl⟩))
    all_goals
     have N:=JE (((NQ H).drew).trans P);clear Z P;cases g
     ·go_wp2_with fail
      go_ret2;exact⟨⟨_,rfl,Rd.nil _⟩,G.out.trans N.out⟩
     ·go_wp2_with fail
      refine(HS.out _ x (G.out.trans N.out) (R1.out.kp N.out)).mono ?_;rintro _ w4 ⟨⟨z,rfl,Y⟩,k4⟩;have R4:=JE Y;have K4:=JE k4;clear Y k4;go_wp2_with fail;go_ret2;exact⟨⟨_,rfl,R4.out⟩,(G.out.trans N.out).trans K4.out⟩
  ·have d:dO key a c b=1:=if_neg (λh=>A h.2)
   have p:dG key a c b=[]:=by unfold dG;rw[d];rfl
   rw[d,p];have ad:((a.length:Int)==12)=false:=JL.2 (by omega);have ab:¬(a.length:Int)=12:=by omega
   go_enter func160,ntmps160;go_wp2_with fail;refine u.out.mono ?_;rintro _ H ⟨⟨x,y,rfl,k,j⟩,l⟩;clear k j;go_wp2_with fail;go_ret2;exact⟨⟨_,rfl,Rd.nil _⟩,l⟩
 ·obtain⟨M,K,J⟩:=yx C
  rw[M,K,J] at u;have d:dO key a c b=1:=if_neg (λh=>C h.1);have p:dG key a c b=[]:=by unfold dG;rw[d];rfl
  rw[d,p];go_enter func160,ntmps160;go_wp2_with fail;refine u.out.mono ?_;rintro _ H ⟨⟨x,y,rfl,k,j⟩,l⟩;clear k j;go_wp2_with fail;go_ret2;exact⟨⟨_,rfl,Rd.nil _⟩,l⟩
theorem FZ (i n:Nat)(x y z:UInt8)(p o b a c:Nat)(s r:TypeId)(w:World)(u:i<n)(t:n<=c)(q:c<=maxLen)(j:One s w p (.int .u8 (z.toNat:Int)))(k:One r w o (.slice (some ⟨b,a,none⟩) n c))
  (f:w.cell? ⟨b,a+i,none⟩=some (.int .u8 (y.toNat:Int))) (d:UInt8) (h:z ||| (x ^^^ y)=d):
  Calls prog 261 #[.int .i64 i,.int .u8 (x.toNat:Int),.pointer (some ⟨p,0,none⟩),.pointer (some ⟨o,0,none⟩)] w λe w'=>e=.returned (.tuple #[])/\∃ n,w'=(w.setCell ⟨p,0,none⟩ (.int .u8 (d.toNat:Int))).drewN n:=by
 have B:=j.cell;have A:=j.frozen;have C:=k.cell;have v:=rC x y;have g:=BA z (x ^^^ y);rw[h] at g;unfold maxLen at q;have l:(i:Int)<(n:Int):=by omega
 have m:(0:Int)<=(i:Int):=by omega
 generalize d.toNat=Z at *;generalize (x ^^^ y).toNat=D at *;clear h;go_enter func261,ntmps261;go_wp2_with fail;go_region
 all_goals
  go_end0
  exact⟨rfl,1,rfl⟩
theorem Ga (l m:List UInt8)(k:Nat):orT l m k ||| (l.getD k 0 ^^^ m.getD k 0)=orT l m (k+1):=rfl
theorem One.drewN (h:One T w p v)(n:Nat):One T (w.drewN n) p v:=h.kp ((NQ w).drewN n)
theorem Gb (v aa:Value)(l m:List UInt8)(p o:Nat)(s H:TypeId)(w j:World)(h:Rd w v l)(C:Rd w aa m)(r:l.length=m.length)(M:Kp w j)(t:w.heap.size<=p)
  (D:One s j p (.int .u8 0)) (K:One H j o aa) (y:o≠p):
  Calls prog 260 #[v,.func (.func 261) #[] #[.pointer (some ⟨p,0,none⟩),.pointer (some ⟨o,0,none⟩)]] j λe w'=>e=.returned (.tuple #[])/\One s w' p (.int .u8 ((orT l m l.length).toNat:Int))/\Kp w w':=by
 obtain⟨a,W,rfl,V,O⟩:=h.shape;obtain⟨X,P,rfl,B,A⟩:=C.shape;unfold maxLen at O;have S:=JE r;have G:One s j p (.int .u8 ((orT l m 0).toNat:Int)):=D;have E:l.length<=m.length:=by omega
 clear r D;go_enter func260,ntmps260;go_wp2_with fail;go_loopw[8] (λi wr=>∃ k:Nat,k<=l.length/\i=.int .i64 k/\One s wr p (.int .u8 ((orT l m k).toNat:Int))/\bg (λk=>k=p) j wr/\Kp w wr) (λi _=>(l.length - (intOf i).toNat))
 case atStart=>exact⟨0,by omega,rfl,G,bg.refl _ _,M⟩
 case round=>
  clear G;obtain⟨k,L,rfl,z,F,f⟩:=hrel;by_cases q:k<l.length
  ·obtain⟨b,I,rfl,_,d⟩:=h.at k q
   obtain⟨Q,n,rfl,_,c⟩:=C.at k (by omega);have N:=f.cell (d k q);have g:=f.cell (c k (by omega));have u:=K.same F y;have R:=JE (FZ k m.length (l.getD k 0) (m.getD k 0) (orT l m k) p o Q n P s H wr (by omega) B A z u g _ (Ga l m k));clear d c g;generalize J:l.getD k 0=x at *;clear J;go_wp2_with(go_at_call 261;refine R.out.mono ?_;rintro e T ⟨rfl,U,rfl⟩)
   go_roundw
   case rel=>exact⟨k+1,by omega,by go_num,(z.set _).drewN _,(F.setCell _ _ rfl).drewN _,Kp.drewN (Below.setCell f t _) _⟩
   case measure=>simp[intOf];omega
  ·obtain rfl:k=l.length:=by omega
   go_wp2_with fail;go_end0
   exact⟨rfl,z,f⟩
theorem Gc (aa v:Value)(l m:List UInt8)(w:World)(h:Rd w aa l)(q:Rd w v m):
  Calls prog 233 #[aa,v] w λe w'=>e=.returned (.bool (decide (l=m)))/\Kp w w':=by
 obtain⟨a,c,rfl,C,r⟩:=h.shape;obtain⟨i,g,rfl,s,o⟩:=q.shape;unfold maxLen at r o;have d:One 24 (w.alloc (.cells #[.slice i m.length g] 24)) w.heap.size (.slice i m.length g):=Oh _ _ _;have y:=JE d;have D:=d.cell;clear d;by_cases b:l.length=m.length
 ·have u:((l.length:Int) != (m.length:Int))=false:=by simp[b]
  have t:(l.length != m.length)=false:=by simp[b]
  have A:=JE (BE l m b);have z:=JE b;clear b;go_enter func233,ntmps233;go_wp2_with fail;have k:One 5 ((w.alloc (.cells #[.slice i m.length g] 24)).alloc (.cells #[.int .u8 0] 5)) (w.heap.size+1) (.int .u8 0):=by
   have:=Oh 5 (w.alloc (.cells #[.slice i m.length g] 24)) (.int .u8 0);rwa [JY] at this
  refine(Gb _ _ l m (w.heap.size+1) w.heap.size _ _ w _ h q z.out (((NQ _).alloc _).alloc _) (by omega) k (y.out.kp ((NQ _).alloc _)) (by omega)).mono ?_;rintro e B ⟨rfl,j,n⟩;have E:=j.cell;have p:((((orT l m l.length).toNat:Nat):Int)==0)=decide (l=m):=by
   rw[<-A.out,Bool.eq_iff_iff];simp[<-UInt8.toNat_inj]
  generalize (orT l m l.length).toNat=Z at *;have x:=JE p;clear p;go_wp2_with fail;go_ret;exact⟨by rw[<-x.out];rfl,n⟩
 ·have u:((l.length:Int) != (m.length:Int))=true:=by simp;omega
  have t:(l.length != m.length)=true:=by simp[b]
  have f:decide (l=m)=false:=Kb (λe=>b (by rw[e]));rw[f];clear f b;go_enter func233,ntmps233;go_wp2_with fail;go_ret;exact⟨rfl,(NQ _).alloc _⟩
theorem Gd (u1 u2 u3 u4:Value)(key d f b:List UInt8)(w:World)(t:Rd w u1 key)(j:Rd w u2 d)(o:Rd w u3 f)(F:Rd w u4 b)(hl:f.length+b.length<=1700):
  Calls prog 139 #[u1,u2,u3,u4] w λe w'=>(∃ r,e=.returned (.tuple #[r,.int .i64 (js key d)])/\Rd w' r (jt key d f b)/\ba w.heap.size r)/\Kp w w':=by
 by_cases h:okK key d
 ·obtain⟨n,i⟩:=h
  have l:js key d=0:=if_pos ⟨n,i⟩;have k:jt key d f b=fj key d f b:=if_pos ⟨n,i⟩;rw[l,k];obtain⟨X,V⟩:=qp (key:=key) b i;have u:=JE (xX u1 u2 u3 key d f w t j o n i (by omega));have HS:Hid (∀ W v,Kp w W->Rd W v (gg key)->Calls prog 173 #[v,u2,u4] W λe w'=>(∃ r,e=.returned (.tuple #[r,.int .i64 0])/\Rd w' r (cm key d b))/\Kp W w'):=λW v U C=>by
   rw[<-X,<-V];exact yr _ _ _ _ d b W C (j.kp U) (F.kp U) (by omega)
  have J:=py key d b;have D:=lq (x:=f) (by omega);have E:=ks f.length;have HT:Hid (∀ W v p q r,kH W p q r (fD key) (aO f) d->Rd W v (cm key d b)->Calls prog 203 #[v,.pointer (some ⟨p,0,none⟩),.pointer (some ⟨q,0,none⟩),.pointer (some ⟨r,0,none⟩)] W λe w'=>(∃ a c,e=.returned (.slice a 32 c)/\Rd w' (.slice a 32 c) (cD key d f (cm key d b)))/\Kp W w'):=λW v p q r ht C=>
   xW p q r v (fD key) (aO f) d _ W ht C (by rw[pt];omega) (by omega)
  have K:Hid (([cm key d b,cD key d f (cm key d b)]:List (List UInt8)).flatten=fj key d f b):=by simp[Hid,fj]
  have HL:=JE (rV key d f b);have M:Hid (b.length<=1700):=by unfold Hid;omega
  generalize cD key d f (cm key d b)=T at *;generalize cm key d b=L at *;generalize fj key d f b=R at *;clear t j o F l k X V n i J D E hl;go_enter func139,ntmps139;go_wp2_with fail;refine u.out.mono ?_;rintro _ O ⟨⟨x,p,q,r,rfl,Q,bV⟩,m⟩;unfold nZ;have H:=JE m;have R1:=JE Q;have Z:=JE bV;clear u m Q bV;go_wp2_with fail;refine(HS.out O x H.out R1.out).mono ?_;rintro _ w2 ⟨⟨s,rfl,y⟩,B⟩;obtain⟨a3,n3,c3,rfl⟩:=y.sl;have Y:=JE (Z.out.kp B);have K2:=JE (H.out.trans B);have G:=JE y;clear HS B y Z R1 H;go_wp2_with fail;refine(HT.out w2 _ p q r Y.out G.out).mono ?_;rintro _ N ⟨⟨ab,aa,rfl,P⟩,A⟩;have K3:=JE (K2.out.trans A);have I:=JE (RL.lit2 (w:=N) (T:=24) (G.out.kp A) P);clear HT A P Y G K2;go_wp2_with fail;refine(lF _ _ _ I.out (by rw[K.out,HL.out];omega) (by rw[K.out,HL.out];have:=M.out;omega) (by simp)).mono ?_;rw[K.out];rintro _ w4 ⟨⟨v,rfl,z⟩,S⟩;have r5:=z.rd;have n5:ba w.heap.size v:=ba.kp (w':=N.alloc _) (λg hg=>z.own_ge g hg) (K3.out.alloc _);have k5:=(K3.out.alloc _).trans S;clear z S;go_wp2_with fail;go_ret2;exact⟨⟨_,rfl,r5,n5⟩,k5⟩
 ·have l:js key d=1:=if_neg h
  have k:jt key d f b=[]:=if_neg h;rw[l,k];have u:=JE (xY u1 u2 u3 key d f w t j o h);clear t j o F l k h;go_enter func139,ntmps139;go_wp2_with fail;refine u.out.mono ?_;rintro _ O ⟨rfl,m⟩;go_wp2_with fail;go_ret2;exact⟨⟨_,rfl,Rd.nil _,ba.nil _ _ _⟩,m⟩
theorem Ge (u1 u2 u3 u4:Value)(key d f b:List UInt8)(w:World)(E:Rd w u1 key)(A:Rd w u2 d)(D:Rd w u3 f)(t:Rd w u4 b)(hl:f.length+b.length<=1700):
  Calls prog 194 #[u1,u2,u3,u4] w λe w'=>(∃ r,e=.returned (.tuple #[r,.int .i64 (dO key d f b)])/\Rd w' r (dG key d f b))/\Kp w w':=by
 by_cases g:okK key d
 ·obtain⟨V,K⟩:=id g
  have H:=JE (xX u1 u2 u3 key d f w E A D V K (by omega));obtain⟨a4,F,rfl,p4,s4⟩:=t.shape;by_cases P:b.length<32
  ·have i:dO key d f b=3:=by unfold dO;rw[if_pos g,if_pos P]
   have o:dG key d f b=[]:=by unfold dG;rw[i];rfl
   rw[i,o];have q0:IntKind.i64.wrap ((b.length:Int) - 32)=(b.length:Int) - 32:=JI _ (by omega);have q1:(b.length:Int) - 32<0:=by omega
   clear E A D t i o g V K hl;go_enter func194,ntmps194;go_wp2_with fail;refine H.out.mono ?_;rintro _ I ⟨⟨x,p,q,r,rfl,J,bV⟩,u⟩;unfold nZ;clear J bV;go_wp2_with fail;go_ret2;exact⟨⟨_,rfl,Rd.nil _⟩,u⟩
  ·obtain⟨n,s⟩:∃ n,b.length - 32=n:=⟨_,rfl⟩
   have C:b.length=n+32:=by omega
   obtain⟨X,M,rfl,_,_⟩:=t.at 0 (by omega);have i:dO key d f b=if cD key d f (b.take n)=b.drop n then 0 else 5:=by unfold dO;rw[if_pos g,if_neg P,s]
   have o:dG key d f b=if cD key d f (b.take n)=b.drop n then cm key d (b.take n) else []:=by
    unfold dG;rw[i,s];by_cases k:cD key d f (b.take n)=b.drop n
    ·rw[if_pos k,if_pos rfl,if_pos k]
    ·rw[if_neg k,if_neg (by decide),if_neg k]
   have S:(b.take n).length=n:=by rw[Ki];omega
   have HA:=JE (t.pre6 n (by omega));have HZ:=JE (t.post6 n 32 (by omega) (by omega));obtain⟨e6,e7⟩:=qp (key:=key) (b.take n) K;have Q:=lq (x:=f) (by omega);have U:=ks f.length;have HS:Hid (∀ W v,Kp w W->Rd W v (gg key)->Calls prog 173 #[v,u2,.slice (some ⟨X,M,none⟩) n F] W λe w'=>(∃ r,e=.returned (.tuple #[r,.int .i64 0])/\Rd w' r (cm key d (b.take n)))/\Kp W w'):=λW v y O=>by
    rw[<-e6,<-e7];exact yr _ _ _ _ d (b.take n) W O (A.kp y) (HA.out.kp y) (by omega)
   have HT:Hid (∀ W p q r,Kp w W->kH W p q r (fD key) (aO f) d->Calls prog 203 #[.slice (some ⟨X,M,none⟩) n F,.pointer (some ⟨p,0,none⟩),.pointer (some ⟨q,0,none⟩),.pointer (some ⟨r,0,none⟩)] W λe w'=>(∃ a c,e=.returned (.slice a 32 c)/\Rd w' (.slice a 32 c) (cD key d f (b.take n)))/\Kp W w'):=λW p q r y k=>
    xW p q r _ (fD key) (aO f) d _ W k (HA.out.kp y) (by rw[pt];omega) (by omega)
   rw[i,o];have h:∀ (j:Bool),decide (cD key d f (b.take n)=b.drop n)=j->(if cD key d f (b.take n)=b.drop n then (0:Int) else 5)=(if j then 0 else 5)/\(if cD key d f (b.take n)=b.drop n then cm key d (b.take n) else [])=(if j then cm key d (b.take n) else []):=by
    rintro _ rfl;by_cases k:cD key d f (b.take n)=b.drop n
    ·simp[k]
    ·simp[k]
   obtain⟨j,l⟩:∃ j,decide (cD key d f (b.take n)=b.drop n)=j:=⟨_,rfl⟩;rw[(h j l).1,(h j l).2];have G:Hid (∀ W v,Kp w W->Rd W v (cD key d f (b.take n))->Calls prog 233 #[v,.slice (some ⟨X,M+n,none⟩) 32 (F - n)] W λe w'=>e=.returned (.bool j)/\Kp W w'):=λW v y O=>by
    have:=Gc v _ _ _ W O (HZ.out.kp y);rwa [l] at this
   clear HA HZ;obtain⟨m,R⟩:∃ m,b.length=m:=⟨_,rfl⟩;rw[R] at p4 ⊢;rw[R] at C;have i0:IntKind.i64.wrap ((m:Int) - 32)=(n:Int):=by rw[JI _ (by omega)];omega
   have i2:(n:Int)<=(F:Int):=by omega
   have i3:(n:Int)<=(m:Int):=by omega
   have i4:¬(m:Int)<32:=by omega
   have i5:(0:Int)<=(n:Int):=by omega
   have i6:(m:Int)<=(F:Int):=by omega
   have i7:(0:Int)<=(m:Int):=by omega
   have i8:m - n=32:=by omega
   have i9:((m:Int) - (n:Int)).toNat=32:=by omega
   have ab:(m:Int) - (n:Int)=32:=by omega
   have aa:¬(n:Int)<0:=by omega
   clear R;generalize cD key d f (b.take n)=T at *;generalize cm key d (b.take n)=L at *;clear E A D t i o e6 e7 V K h l g P s S C Q U hl;go_enter func194,ntmps194;go_wp2_with fail;refine H.out.mono ?_;rintro _ I ⟨⟨x,p,q,r,rfl,J,bV⟩,u⟩;unfold nZ;have K1:=JE u;have R1:=JE J;have T1:=JE bV;clear H u J bV;go_wp2_with fail;go_region
   go_wp2_with fail;refine(HT.out _ p q r (K1.out.drew) (T1.out.kp (NQ _).drew)).mono ?_;rintro _ w2 ⟨⟨ae,ad,rfl,r3⟩,B⟩;have B:Kp I w2:=((NQ I).drew).trans B;have Z:=JE (K1.out.trans B);have R2:=JE (R1.out.kp B);have R3:=JE r3;clear r3 B K1 R1 T1 HT;go_wp2_with fail;refine(G.out _ _ Z.out R3.out).mono ?_;rintro _ w3 ⟨rfl,N⟩;have Y:=JE (Z.out.trans N);have R4:=JE (R2.out.kp N);clear N Z R2 R3 G;cases j
   ·go_wp2_with fail
    go_ret2;exact⟨⟨_,rfl,Rd.nil _⟩,Y.out⟩
   ·go_wp2_with fail
    refine(HS.out _ x Y.out R4.out).mono ?_;rintro _ w4 ⟨⟨z,rfl,r4⟩,k4⟩;have R5:=JE r4;have K4:=JE (Y.out.trans k4);clear r4 k4;go_wp2_with fail;go_ret2;exact⟨⟨_,rfl,R5.out⟩,K4.out⟩
 ·have i:dO key d f b=1:=if_neg g
  have o:dG key d f b=[]:=by unfold dG;rw[i];rfl
  rw[i,o];have H:=JE (xY u1 u2 u3 key d f w E A D g);clear E A D t i o g;go_enter func194,ntmps194;go_wp2_with fail;refine H.out.mono ?_;rintro _ I ⟨rfl,u⟩;go_wp2_with fail;go_ret2;exact⟨⟨_,rfl,Rd.nil _⟩,u⟩
theorem yy (h f:Value)(s:ByteArray)(k a:List UInt8)(n:Int)(w:World)(m:Rd w h k)(l:Rd w f a)(r:s.size<=300)(d:a.length<=1400)(c:k.length<=2000)(b:-9223372036854775808<=n/\n<=9223372036854775807):
  Calls prog 131 #[.agg #[h,f],.string s,.int .i64 n] w λe w'=>(∃ v,e=.returned (.tuple #[v,.int .i64 (fC n)])/\Rd w' v (cC k s.data.toList a n)/\ba w.heap.size v)/\Kp w w':=by
 have D:Hid (∀ W,Kp w W->Calls prog 101 #[h,.string s,f,.int .i64 n] W λe w'=>(∃ v,e=.returned (.tuple #[v,.int .i64 (fC n)])/\Ow 5 w' W.heap.size v (cC k s.data.toList a n))/\Kp W w'):=λW t=>pq h s f k a n W (m.kp t) (l.kp t) r d c b
 obtain⟨z,p,x,rfl⟩:=m.sl;obtain⟨y,o,u,rfl⟩:=l.sl;clear m l r d c b;go_enter func131,ntmps131;go_wp2_with fail;refine(D.out _ ((NQ _).alloc _)).mono ?_;rintro _ E ⟨⟨v,rfl,i⟩,q⟩;have A:=i.rd;have j:ba w.heap.size v:=ba.kp (w':=w.alloc (.cells #[.slice z p x,.slice y o u] 184)) (λg B=>i.own_ge g B) ((NQ _).alloc _);have C:=((NQ w).alloc (.cells #[.slice z p x,.slice y o u] 184)).trans q;clear i q;go_wp2_with fail;go_ret2;exact⟨⟨_,rfl,A,j⟩,C⟩
theorem yz (c b:Value)(s:ByteArray)(k a:List UInt8)(n:Int)(w:World)(i:Rd w c k)(h:Rd w b a)(j:s.size<=300)(g:a.length<=1400)(f:k.length<=2000)(d:-9223372036854775808<=n/\n<=9223372036854775807):
  Calls prog 131 #[.agg #[c,b],.string s,.int .i64 n] w λe w'=>(∃ v,e=.returned (.tuple #[v,.int .i64 (fC n)])/\Rd w' v (cC k s.data.toList a n))/\Kp w w':=
 (yy c b s k a n w i h j g f d).mono λe w' ⟨⟨v,i,h,_⟩,l⟩=>⟨⟨v,i,h⟩,l⟩
theorem qq (aa:Value)(seed:List UInt8)(w:World)(c:Rd w aa seed):
  Calls prog 93 #[aa] w λe w'=>(∃ r,e=.returned (.tuple #[r,.int .i64 (fO seed)])/\Rd w' r (dX seed)/\ba w.heap.size r)/\Kp w w':=by
 obtain⟨l,k,rfl,j,n⟩:=c.shape;by_cases a:seed.length=32
 ·rw[(eC a).1,(eC a).2]
  have d:Hid (Calls prog 131 #[.agg #[.slice l seed.length k,.slice none 0 0],.string ⟨#[112,117,98,108,105,99]⟩,.int .i64 32] w λe w'=>(∃ v,e=.returned (.tuple #[v,.int .i64 0])/\Rd w' v (aI seed)/\ba w.heap.size v)/\Kp w w'):=
   yy _ _ ⟨#[112,117,98,108,105,99]⟩ seed [] 32 w c (cI w) (by decide) (by simp) (by omega) (by omega)
  rw[a] at d j ⊢;clear c a;go_enter func93,ntmps93;go_wp2_with fail;refine d.out.mono ?_;rintro _ m ⟨⟨v,rfl,f,b⟩,g⟩;clear d;go_wp2_with fail;go_ret2;exact⟨⟨_,rfl,f,b⟩,g⟩
 ·rw[(iw a).1,(iw a).2]
  have i:((seed.length:Int)==32)=false:=JL.2 (by omega);have h:¬(seed.length:Int)=32:=by omega
  go_enter func93,ntmps93;go_wp2_with fail;go_ret2;exact⟨⟨_,rfl,cI _,ba.nil _ _ _⟩,NQ _⟩
theorem Gf (aa:Value)(seed:List UInt8)(w:World)(a:Rd w aa seed):
  Calls prog 93 #[aa] w λe w'=>(∃ r,e=.returned (.tuple #[r,.int .i64 (fO seed)])/\Rd w' r (dX seed))/\Kp w w':=
 (qq aa seed w a).mono λe w' ⟨⟨v,d,c,_⟩,b⟩=>⟨⟨v,d,c⟩,b⟩
theorem yA (aa v i:Value)(pub half info:List UInt8)(w:World)(m:Rd w aa pub)(l:Rd w v half)(g:Rd w i info)(p:pub.length=32)(q:half.length=32)(d:info.length<=1400):
  Calls prog 138 #[aa,v,i] w λe w'=>(∃ a b,e=.returned (.tuple #[a,b,.int .i64 0])/\Rd w' a (wkB pub half info)/\Rd w' b (wnB pub half info))/\Kp w w':=by
 obtain⟨Q,O,rfl,p1,X⟩:=m.shape;obtain⟨P,N,rfl,p2,V⟩:=l.shape;obtain⟨J,F,I,rfl⟩:=g.sl;have B:Hid (Calls prog 171 #[.slice Q pub.length O,.slice P half.length N] w λe w'=>(∃ a c,e=.returned (.slice a 32 c)/\Ow 5 w' w.heap.size (.slice a 32 c) (iX pub half))/\Kp w w'):=Cf _ _ pub half w m l (by omega) (by omega);have n:(iX pub half).length=32:=nC _ _;have L:Hid (∀ W s,Kp w W->Rd W s (iX pub half)->Calls prog 131 #[.agg #[s,.slice J F I],.string ⟨#[107,101,121]⟩,.int .i64 32] W λe w'=>(∃ r,e=.returned (.tuple #[r,.int .i64 0])/\Rd w' r (wkB pub half info))/\Kp W w'):=λW s t o=>
  yz s _ ⟨#[107,101,121]⟩ _ info 32 W o (g.kp t) (by decide) d (by omega) (by omega)
 have K:Hid (∀ W s,Kp w W->Rd W s (iX pub half)->Calls prog 131 #[.agg #[s,.slice J F I],.string ⟨#[110,111,110,99,101]⟩,.int .i64 12] W λe w'=>(∃ r,e=.returned (.tuple #[r,.int .i64 0])/\Rd w' r (wnB pub half info))/\Kp W w'):=λW s t o=>
  yz s _ ⟨#[110,111,110,99,101]⟩ _ info 12 W o (g.kp t) (by decide) d (by omega) (by omega)
 rw[p,q] at B;rw[p] at p1 ⊢;rw[q] at p2 ⊢;clear m l g p q d n;have M:∀ (H:Fn) (first f:Array Value) (w:World),(Instr.makeFunc H first f).run prog w=.ok (.func H first f) w:=λ_ _ _ _=>rfl
 go_enter func138,ntmps138;go_wp2_with fail;refine B.out.mono ?_;rintro _ U ⟨⟨x,y,rfl,E⟩,G⟩;have A:=JE G;have h:=JE E.rd;clear B E G;go_wp2_with fail;refine(L.out _ _ A.out h.out).mono ?_;rintro _ w2 ⟨⟨a,rfl,D⟩,k⟩;have z:=JE (A.out.trans k);have u:=JE D;have h:=JE (h.out.kp k);clear L D k A;go_wp2_with fail;refine(K.out _ _ z.out h.out).mono ?_;rintro _ T ⟨⟨b,rfl,C⟩,j⟩;have S:=JE (z.out.trans j);have R:=JE C;have u:=JE (u.out.kp j);clear K C j z;go_wp2_with fail;go_ret3
 exact⟨⟨_,_,rfl,u.out,R.out⟩,S.out⟩
theorem yB (aa v i:Value)(pub half:List UInt8)(w:World)(c:Rd w aa pub)(b:Rd w v half)(a:¬(pub.length=32/\half.length=32)):
  Calls prog 138 #[aa,v,i] w λe w'=>e=.returned (.tuple #[.slice none 0 0,.slice none 0 0,.int .i64 1])/\Kp w w':=by
 obtain⟨p,n,rfl,p1,k⟩:=c.shape;obtain⟨o,m,rfl,p2,j⟩:=b.shape;by_cases d:pub.length=32
 ·have l:¬half.length=32:=λh=>a ⟨d,h⟩
  have g:((half.length:Int)==32)=false:=JL.2 (by omega);have f:¬(half.length:Int)=32:=by omega
  rw[d] at p1 ⊢;clear c b d a;go_enter func138,ntmps138;go_wp2_with fail;go_ret3
  exact⟨rfl,NQ _⟩
 ·have g:((pub.length:Int)==32)=false:=JL.2 (by omega)
  have f:¬(pub.length:Int)=32:=by omega
  clear c b a;go_enter func138,ntmps138;go_wp2_with fail;go_ret3
  exact⟨rfl,NQ _⟩
theorem Gg (u1 u2 u3 u4:Value)(pub once info b:List UInt8)(w:World)(E:Rd w u1 pub)(I:Rd w u2 once)(H:Rd w u3 info)(G:Rd w u4 b)(d:info.length<=1400)(t:b.length<=1600):
  Calls prog 102 #[u1,u2,u3,u4] w λe w'=>(∃ x y,e=.returned (.tuple #[x,y,.int .i64 (pz pub once)])/\Rd w' x (ix pub once)/\Rd w' y (iz pub once info b)/\ba w.heap.size x/\ba w.heap.size y)/\Kp w w':=by
 have l:=JE (qq u2 once w I);by_cases c:once.length=32
 ·rw[(eC c).1,(eC c).2] at l
  by_cases A:pub.length=32
  ·obtain⟨j,i,g⟩:=pA (pub:=pub) (once:=once) info b ⟨c,A⟩
   rw[j,i,g];have F:Hid (∀ W v,Kp w W->Rd W v (aI once)->Calls prog 138 #[u1,v,u3] W λe w'=>(∃ a b,e=.returned (.tuple #[a,b,.int .i64 0])/\Rd w' a (wkB pub (aI once) info)/\Rd w' b (wnB pub (aI once) info))/\Kp W w'):=λW v B K=>
    yA u1 v u3 pub _ info W (E.kp B) K (H.kp B) A (gO _) d
   have S:Hid (∀ W k n,Kp w W->Rd W k (wkB pub (aI once) info)->Rd W n (wnB pub (aI once) info)->Calls prog 139 #[k,n,.slice none 0 0,u4] W λe w'=>(∃ r,e=.returned (.tuple #[r,.int .i64 0])/\Rd w' r (iy pub (aI once) info b)/\ba W.heap.size r)/\Kp W w'):=λW k n B U T=>by
    have:=Gd k n (.slice none 0 0) u4 _ _ [] b W U T (cI W) (G.kp B) (by simp;omega);rwa [show js (wkB pub (aI once) info) (wnB pub (aI once) info)=0 from if_pos (nO _ _ _),show jt (wkB pub (aI once) info) (wnB pub (aI once) info) [] b=iy pub (aI once) info b from if_pos (nO _ _ _)] at this
   clear E I H G d t c A j i g;go_enter func102,ntmps102;go_wp2_with fail;refine l.out.mono ?_;rintro _ M ⟨⟨p,rfl,m,q⟩,s⟩;have u:=JE s;have f:=JE m;clear l m s;go_wp2_with fail;refine(F.out _ _ u.out f.out).mono ?_;rintro _ w2 ⟨⟨k,n,rfl,P,O⟩,z⟩;have C:=JE (u.out.trans z);have f:=JE (f.out.kp z);have R:=JE P;have Q:=JE O;clear F P O z u;go_wp2_with fail;refine(S.out _ _ _ C.out R.out Q.out).mono ?_;rintro _ Y ⟨⟨o,rfl,N,D⟩,J⟩;have L:=JE (D.kp C.out);have X:=JE (C.out.trans J);have f:=JE (f.out.kp J);have V:=JE N;clear S N J C R Q D;go_wp2_with fail;go_ret3
   exact⟨⟨_,_,rfl,f.out,V.out,q,L.out⟩,X.out⟩
  ·obtain⟨j,i,g⟩:=pB (pub:=pub) (once:=once) info b (λh=>A h.2)
   rw[j,i,g];have F:Hid (∀ W v,Kp w W->Rd W v (aI once)->Calls prog 138 #[u1,v,u3] W λe w'=>e=.returned (.tuple #[.slice none 0 0,.slice none 0 0,.int .i64 1])/\Kp W w'):=λW v B K=>
    yB u1 v u3 pub _ W (E.kp B) K (λh=>A h.1)
   clear E I H G d t c A j i g;go_enter func102,ntmps102;go_wp2_with fail;refine l.out.mono ?_;rintro _ M ⟨⟨p,rfl,m,q⟩,s⟩;have u:=JE s;have f:=JE m;clear l m s;go_wp2_with fail;refine(F.out _ _ u.out f.out).mono ?_;rintro _ w2 ⟨rfl,z⟩;have C:=JE (u.out.trans z);clear F z u f;go_wp2_with fail;go_ret3
   exact⟨⟨_,_,rfl,cI _,cI _,ba.nil _ _ _,ba.nil _ _ _⟩,C.out⟩
 ·obtain⟨j,i,g⟩:=pB (pub:=pub) (once:=once) info b (λh=>c h.1)
  rw[j,i,g];rw[(iw c).1,(iw c).2] at l;clear E I H G d t c j i g;go_enter func102,ntmps102;go_wp2_with fail;refine l.out.mono ?_;rintro _ M ⟨⟨p,rfl,m,q⟩,s⟩;clear l m;go_wp2_with fail;go_ret3
  exact⟨⟨_,_,rfl,cI _,cI _,ba.nil _ _ _,ba.nil _ _ _⟩,s⟩
theorem Gh (u1 u2 u3 u4:Value)(seed half info b:List UInt8)(w:World)(F:Rd w u1 seed)(y:Rd w u2 half)(D:Rd w u3 info)(C:Rd w u4 b)(d:info.length<=1400)(m:b.length<=1600):
  Calls prog 159 #[u1,u2,u3,u4] w λe w'=>(∃ x,e=.returned (.tuple #[x,.int .i64 (unE seed half info b)])/\Rd w' x (unR seed half info b))/\Kp w w':=by
 have i:=JE (Gf u1 seed w F);by_cases c:seed.length=32
 ·rw[(eC c).1,(eC c).2] at i
  by_cases s:half.length=32
  ·obtain⟨g,f⟩:=rW (seed:=seed) (half:=half) info b ⟨c,s⟩
   rw[g,f];have B:Hid (∀ W v,Kp w W->Rd W v (aI seed)->Calls prog 138 #[v,u2,u3] W λe w'=>(∃ a b,e=.returned (.tuple #[a,b,.int .i64 0])/\Rd w' a (wkB (aI seed) half info)/\Rd w' b (wnB (aI seed) half info))/\Kp W w'):=λW v t G=>
    yA v u2 u3 _ half info W G (y.kp t) (D.kp t) (gO _) s d
   have O:Hid (∀ W k n,Kp w W->Rd W k (wkB (aI seed) half info)->Rd W n (wnB (aI seed) half info)->Calls prog 194 #[k,n,.slice none 0 0,u4] W λe w'=>(∃ r,e=.returned (.tuple #[r,.int .i64 (dO (wkB (aI seed) half info) (wnB (aI seed) half info) [] b)])/\Rd w' r (dG (wkB (aI seed) half info) (wnB (aI seed) half info) [] b))/\Kp W w'):=λW k n t Q P=>
    Ge k n (.slice none 0 0) u4 _ _ [] b W Q P (cI W) (C.kp t) (by simp;omega)
   generalize dO (wkB (aI seed) half info) (wnB (aI seed) half info) [] b=E at *;generalize dG (wkB (aI seed) half info) (wnB (aI seed) half info) [] b=R at *;clear F y D C d m c s g f;go_enter func159,ntmps159;go_wp2_with fail;refine i.out.mono ?_;rintro _ H ⟨⟨p,rfl,j⟩,l⟩;have q:=JE l;have z:=JE j;clear i j l;go_wp2_with fail;refine(B.out _ _ q.out z.out).mono ?_;rintro _ w2 ⟨⟨k,n,rfl,K,J⟩,u⟩;have A:=JE (q.out.trans u);have N:=JE K;have M:=JE J;clear B K J u q z;go_wp2_with fail;refine(O.out _ _ _ A.out N.out M.out).mono ?_;rintro _ U ⟨⟨o,rfl,I⟩,L⟩;have T:=JE (A.out.trans L);have S:=JE I;clear O I L A N M;go_wp2_with fail;go_ret2;exact⟨⟨_,rfl,S.out⟩,T.out⟩
  ·obtain⟨g,f⟩:=pC (seed:=seed) (half:=half) info b (λh=>s h.2)
   rw[g,f];have B:Hid (∀ W v,Kp w W->Rd W v (aI seed)->Calls prog 138 #[v,u2,u3] W λe w'=>e=.returned (.tuple #[.slice none 0 0,.slice none 0 0,.int .i64 1])/\Kp W w'):=λW v t G=>
    yB v u2 u3 _ half W G (y.kp t) (λh=>s h.2)
   clear F y D C d m c s g f;go_enter func159,ntmps159;go_wp2_with fail;refine i.out.mono ?_;rintro _ H ⟨⟨p,rfl,j⟩,l⟩;have q:=JE l;have z:=JE j;clear i j l;go_wp2_with fail;refine(B.out _ _ q.out z.out).mono ?_;rintro _ w2 ⟨rfl,u⟩;have A:=JE (q.out.trans u);clear B u q z;go_wp2_with fail;go_ret2;exact⟨⟨_,rfl,cI _⟩,A.out⟩
 ·obtain⟨g,f⟩:=pC (seed:=seed) (half:=half) info b (λh=>c h.1)
  rw[g,f];rw[(iw c).1,(iw c).2] at i;clear F y D C d m c g f;go_enter func159,ntmps159;go_wp2_with fail;refine i.out.mono ?_;rintro _ H ⟨⟨p,rfl,j⟩,l⟩;clear i j;go_wp2_with fail;go_ret2;exact⟨⟨_,rfl,cI _⟩,l⟩
theorem tt (aa:Value)(seed:List UInt8)(w:World)(g:Rd w aa seed):
  Calls prog 50 #[aa] w λe w'=>(∃ r,e=.returned (.tuple #[r,.int .i64 (fO seed)])/\Rd w' r (dX seed)/\ba w.heap.size r)/\Kp w w':=by
 obtain⟨q,p,rfl,o,u⟩:=g.shape;by_cases b:seed.length=32
 ·obtain⟨f,d⟩:=eC b
  rw[f,d];have i:Hid (Calls prog 63 #[.slice q seed.length p,.string ⟨#[112,117,98,108,105,99]⟩,.slice none 0 0,.int .i64 32] w λe w'=>(∃ v,e=.returned (.tuple #[v,.int .i64 0])/\Rd w' v (aI seed)/\ba w.heap.size v)/\Kp w w'):=sK _ ⟨#[112,117,98,108,105,99]⟩ _ seed [] 32 w g (cI w) (by decide) (by simp) (by omega);rw[b] at i o ⊢;clear g b f d;go_enter func50,ntmps50;go_wp2_with fail;refine i.out.mono ?_;rintro _ s ⟨⟨t,rfl,h,j⟩,k⟩;obtain⟨a,n,c,rfl⟩:=h.sl;go_wp2_with fail;go_ret2;exact⟨⟨_,rfl,h,j⟩,k⟩
 ·obtain⟨f,d⟩:=iw b
  rw[f,d];have m:((seed.length:Int)==32)=false:=JL.2 (by omega);have l:¬(seed.length:Int)=32:=by omega
  go_enter func50,ntmps50;go_wp2_with fail;go_ret2;exact⟨⟨_,rfl,cI _,ba.nil _ _ _⟩,NQ _⟩
theorem zm (aa:Value)(seed:List UInt8)(w:World)(a:Rd w aa seed):
  Calls prog 50 #[aa] w λe w'=>(∃ r,e=.returned (.tuple #[r,.int .i64 (fO seed)])/\Rd w' r (dX seed))/\Kp w w':=
 (tt aa seed w a).mono λe w' ⟨⟨v,d,c,_⟩,b⟩=>⟨⟨v,d,c⟩,b⟩
theorem zn (aa v i:Value)(pub half info:List UInt8)(w:World)(z:Rd w aa pub)(y:Rd w v half)(m:Rd w i info)(A:pub.length<=2000)(F:half.length<=1800)(c:info.length<=1400):
  Calls prog 113 #[aa,v,i] w λe w'=>(∃ a b,e=.returned (.tuple #[a,b])/\Rd w' a (wkB pub half info)/\Rd w' b (wnB pub half info))/\Kp w w':=by
 have B:Hid (Calls prog 151 #[aa,v] w λe w'=>(∃ r,e=.returned r/\Rd w' r (iX pub half))/\Kp w w'):=by
  refine(sJ aa v pub half w z y A (by omega)).mono ?_;rintro _ w' ⟨⟨r,rfl,o⟩,E⟩;exact⟨⟨r,rfl,o.rd⟩,E⟩
 have k:(iX pub half).length=32:=nC _ _;have D:Hid (∀ W s,Kp w W->Rd W s (iX pub half)->Calls prog 63 #[s,.string ⟨#[107,101,121]⟩,i,.int .i64 32] W λe w'=>(∃ r,e=.returned (.tuple #[r,.int .i64 0])/\Rd w' r (wkB pub half info))/\Kp W w'):=λW s n l=>
  pS s ⟨#[107,101,121]⟩ i _ info 32 W l (m.kp n) (by decide) c (by omega)
 have C:Hid (∀ W s,Kp w W->Rd W s (iX pub half)->Calls prog 63 #[s,.string ⟨#[110,111,110,99,101]⟩,i,.int .i64 12] W λe w'=>(∃ r,e=.returned (.tuple #[r,.int .i64 0])/\Rd w' r (wnB pub half info))/\Kp W w'):=λW s n l=>
  pS s ⟨#[110,111,110,99,101]⟩ i _ info 12 W l (m.kp n) (by decide) c (by omega)
 clear z y m A F c k;go_enter func113,ntmps113;go_wp2_with fail;refine B.out.mono ?_;rintro _ L ⟨⟨s,rfl,u⟩,x⟩;have t:=JE x;have d:=JE u;clear B u x;go_wp2_with fail;refine(D.out _ _ t.out d.out).mono ?_;rintro _ w2 ⟨⟨a,rfl,g⟩,j⟩;have q:=JE (t.out.trans j);have p:=JE g;have d:=JE (d.out.kp j);obtain⟨J,N,P,rfl⟩:=g.sl;clear D g j t;go_wp2_with fail;refine(C.out _ _ q.out d.out).mono ?_;rintro _ K ⟨⟨b,rfl,f⟩,h⟩;have H:=JE (q.out.trans h);have G:=JE f;have p:=JE (p.out.kp h);obtain⟨I,M,O,rfl⟩:=f.sl;clear C f h q;go_wp2_with fail;go_ret2;exact⟨⟨_,_,rfl,p.out,G.out⟩,H.out⟩
theorem JB (u1 u2 u3 u4:Value)(pub once info b:List UInt8)(w:World)(F:Rd w u1 pub)(O:Rd w u2 once)(N:Rd w u3 info)(M:Rd w u4 b)(t:info.length<=1400)(E:b.length<=1600):
  Calls prog 64 #[u1,u2,u3,u4] w λe w'=>(∃ x y,e=.returned (.tuple #[x,y,.int .i64 (pz pub once)])/\Rd w' x (ix pub once)/\Rd w' y (iz pub once info b)/\ba w.heap.size x/\ba w.heap.size y)/\Kp w w':=by
 obtain⟨Z,Y,rfl,p1,s1⟩:=F.shape;have c:=JE (tt u2 once w O);by_cases g:once.length=32
 ·rw[(eC g).1,(eC g).2] at c
  by_cases u:pub.length=32
  ·obtain⟨m,l,j⟩:=pA (pub:=pub) (once:=once) info b ⟨g,u⟩
   rw[m,l,j];have I:Hid (∀ W v,Kp w W->Rd W v (aI once)->Calls prog 113 #[.slice Z pub.length Y,v,u3] W λe w'=>(∃ a b,e=.returned (.tuple #[a,b])/\Rd w' a (wkB pub (aI once) info)/\Rd w' b (wnB pub (aI once) info))/\Kp W w'):=λW v z S=>
    zn _ v u3 pub _ info W (F.kp z) S (N.kp z) (by omega) (by rw[gO];omega) t
   have R:Hid (∀ W k n,Kp w W->Rd W k (wkB pub (aI once) info)->Rd W n (wnB pub (aI once) info)->Calls prog 114 #[k,n,.slice none 0 0,u4] W λe w'=>(∃ r,e=.returned (.tuple #[r,.int .i64 0])/\Rd w' r (iy pub (aI once) info b)/\ba W.heap.size r)/\Kp W w'):=λW k n z U T=>by
    have:=FX k n (.slice none 0 0) u4 _ _ [] b W U T (cI W) (M.kp z) (by simp;omega);rwa [show js (wkB pub (aI once) info) (wnB pub (aI once) info)=0 from if_pos (nO _ _ _),show jt (wkB pub (aI once) info) (wnB pub (aI once) info) [] b=iy pub (aI once) info b from if_pos (nO _ _ _)] at this
   rw[u] at I p1 ⊢;clear F O N M t E g u m l j;go_enter func64,ntmps64;go_wp2_with fail;refine c.out.mono ?_;rintro _ J ⟨⟨p,rfl,d,f⟩,i⟩;have H:=JE i;have q:=JE d;obtain⟨x1,n1,d1,rfl⟩:=d.sl;clear c d i;go_wp2_with fail;refine(I.out _ _ H.out q.out).mono ?_;rintro _ w2 ⟨⟨k,n,rfl,L,K⟩,D⟩;have A:=JE (H.out.trans D);have q:=JE (q.out.kp D);have Q:=JE L;have P:=JE K;clear I L K D H;go_wp2_with fail;refine(R.out _ _ _ A.out Q.out P.out).mono ?_;rintro _ w3 ⟨⟨o,rfl,B,s⟩,C⟩;have G:=JE (s.kp A.out);have K3:=JE (A.out.trans C);have q:=JE (q.out.kp C);have R4:=JE B;obtain⟨x4,n4,d4,rfl⟩:=B.sl;clear R B C A Q P s;go_wp2_with fail;go_ret3
   exact⟨⟨_,_,rfl,q.out,R4.out,f,G.out⟩,K3.out⟩
  ·obtain⟨m,l,j⟩:=pB (pub:=pub) (once:=once) info b (λh=>u h.2)
   rw[m,l,j];have X:((pub.length:Int)==32)=false:=JL.2 (by omega);have V:¬(pub.length:Int)=32:=by omega
   go_enter func64,ntmps64;go_wp2_with fail;refine c.out.mono ?_;rintro _ J ⟨⟨p,rfl,d,f⟩,i⟩;clear c d;go_wp2_with fail;go_ret3
   exact⟨⟨_,_,rfl,cI _,cI _,ba.nil _ _ _,ba.nil _ _ _⟩,i⟩
 ·obtain⟨m,l,j⟩:=pB (pub:=pub) (once:=once) info b (λh=>g h.1)
  rw[m,l,j];rw[(iw g).1,(iw g).2] at c;go_enter func64,ntmps64;go_wp2_with fail;refine c.out.mono ?_;rintro _ J ⟨⟨p,rfl,d,f⟩,i⟩;clear c d;go_wp2_with fail;go_ret3
  exact⟨⟨_,_,rfl,cI _,cI _,ba.nil _ _ _,ba.nil _ _ _⟩,i⟩
theorem Ij (u1 u2 u3 u4:Value)(seed half info b:List UInt8)(w:World)(J:Rd w u1 seed)(u:Rd w u2 half)(I:Rd w u3 info)(H:Rd w u4 b)(l:info.length<=1400)(t:b.length<=1600):
  Calls prog 123 #[u1,u2,u3,u4] w λe w'=>(∃ x,e=.returned (.tuple #[x,.int .i64 (unE seed half info b)])/\Rd w' x (unR seed half info b))/\Kp w w':=by
 obtain⟨V,U,rfl,p2,s2⟩:=u.shape;have c:=JE (zm u1 seed w J);by_cases d:seed.length=32
 ·rw[(eC d).1,(eC d).2] at c
  by_cases m:half.length=32
  ·obtain⟨j,i⟩:=rW (seed:=seed) (half:=half) info b ⟨d,m⟩
   rw[j,i];have A:Hid (∀ W v,Kp w W->Rd W v (aI seed)->Calls prog 113 #[v,.slice V half.length U,u3] W λe w'=>(∃ a b,e=.returned (.tuple #[a,b])/\Rd w' a (wkB (aI seed) half info)/\Rd w' b (wnB (aI seed) half info))/\Kp W w'):=λW v q O=>
    zn v _ u3 _ half info W O (u.kp q) (I.kp q) (by rw[gO];omega) (by omega) l
   have N:Hid (∀ W k n,Kp w W->Rd W k (wkB (aI seed) half info)->Rd W n (wnB (aI seed) half info)->Calls prog 160 #[k,n,.slice none 0 0,u4] W λe w'=>(∃ r,e=.returned (.tuple #[r,.int .i64 (dO (wkB (aI seed) half info) (wnB (aI seed) half info) [] b)])/\Rd w' r (dG (wkB (aI seed) half info) (wnB (aI seed) half info) [] b))/\Kp W w'):=λW k n q Q P=>
    FY k n (.slice none 0 0) u4 _ _ [] b W Q P (cI W) (H.kp q) (by simp;omega)
   generalize dO (wkB (aI seed) half info) (wnB (aI seed) half info) [] b=E at *;generalize dG (wkB (aI seed) half info) (wnB (aI seed) half info) [] b=R at *;rw[m] at A p2 ⊢;clear J u I H l t d m j i;go_enter func123,ntmps123;go_wp2_with fail;refine c.out.mono ?_;rintro _ B ⟨⟨p,rfl,f⟩,g⟩;have z:=JE g;have M:=JE f;clear c f g;go_wp2_with fail;refine(A.out _ _ z.out M.out).mono ?_;rintro _ w2 ⟨⟨k,n,rfl,D,C⟩,G⟩;have y:=JE (z.out.trans G);have L:=JE D;have K:=JE C;clear A D C G z M;go_wp2_with fail;refine(N.out _ _ _ y.out L.out K.out).mono ?_;rintro _ w3 ⟨⟨o,rfl,s⟩,F⟩;have Y:=JE (y.out.trans F);have X:=JE s;obtain⟨Z,n4,d4,rfl⟩:=s.sl;clear N s F y L K;go_wp2_with fail;go_ret2;exact⟨⟨_,rfl,X.out⟩,Y.out⟩
  ·obtain⟨j,i⟩:=pC (seed:=seed) (half:=half) info b (λh=>m h.2)
   rw[j,i];have T:((half.length:Int)==32)=false:=JL.2 (by omega);have S:¬(half.length:Int)=32:=by omega
   go_enter func123,ntmps123;go_wp2_with fail;refine c.out.mono ?_;rintro _ B ⟨⟨p,rfl,f⟩,g⟩;clear c f;go_wp2_with fail;go_ret2;exact⟨⟨_,rfl,cI _⟩,g⟩
 ·obtain⟨j,i⟩:=pC (seed:=seed) (half:=half) info b (λh=>d h.1)
  rw[j,i];rw[(iw d).1,(iw d).2] at c;go_enter func123,ntmps123;go_wp2_with fail;refine c.out.mono ?_;rintro _ B ⟨⟨p,rfl,f⟩,g⟩;clear c f;go_wp2_with fail;go_ret2;exact⟨⟨_,rfl,cI _⟩,g⟩
theorem zo (aa:Value)(seed:List UInt8)(w:World)(h:Rd w aa seed):
  Calls prog 33 #[aa] w λe w'=>(∃ r,e=.returned r/\Rd w' r (dX seed)/\ba w.heap.size r)/\Kp w w':=by
 have d:=JE (tt aa seed w h);go_enter func33,ntmps33;go_wp2_with fail;refine d.out.mono ?_;rintro _ j ⟨⟨p,rfl,b,f⟩,g⟩;have i:=JE b;obtain⟨a,n,c,rfl⟩:=b.sl;clear d b;go_wp2_with fail;go_ret;exact⟨⟨_,rfl,i.out,f⟩,g⟩
theorem Ik (aa:Value)(seed:List UInt8)(w:World)(a:Rd w aa seed):
  Calls prog 33 #[aa] w λe w'=>(∃ r,e=.returned r/\Rd w' r (dX seed))/\Kp w w':=
 (zo aa seed w a).mono λe w' ⟨⟨v,d,c,_⟩,b⟩=>⟨⟨v,d,c⟩,b⟩

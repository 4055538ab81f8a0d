import Derived.Test.YtbhkdlpdolioaaaP4
import Derived.Deep.QuietTactic
import Derived.BigQuiet
set_option linter.unusedVariables false
set_option linter.unusedSimpArgs false
set_option maxHeartbeats 8000000
set_option maxRecDepth 100000
namespace Go.Proofs.Ytbhkdlpdolioaaa
def wadd (x y:UInt32):UInt32:=x+y
def wxor (x y:UInt32):UInt32:=x ^^^ y
def wand (x y:UInt32):UInt32:=x &&& y
def wor (x y:UInt32):UInt32:=x ||| y
def wnot (x:UInt32):UInt32:=wxor 0xffffffff x
def wshl (k:Nat)(x:UInt32):UInt32:=UInt32.ofNat (x.toNat*2 ^ k)
def wshr (k:Nat)(x:UInt32):UInt32:=UInt32.ofNat (x.toNat / 2 ^ k)
def rotr (k:Nat)(x:UInt32):UInt32:=wor (wshr k x) (wshl (32 - k) x)
def big (i j k:Nat)(x:UInt32):UInt32:=wxor (wxor (rotr i x) (rotr j x)) (rotr k x)
def acO (i j k:Nat)(x:UInt32):UInt32:=wxor (wxor (rotr i x) (rotr j x)) (wshr k x)
def abl (a b c d:UInt8):UInt32:=UInt32.ofNat (16777216*a.toNat+65536*b.toNat+256*c.toNat+d.toNat)
def aaJ (l:List UInt8)(w:List UInt32)(t:Nat):UInt32:=
 if t<16 then abl (l.getD (4*t) 0) (l.getD (4*t+1) 0) (l.getD (4*t+2) 0) (l.getD (4*t+3) 0)
 else wadd (wadd (wadd (acO 17 19 10 (w.getD (t - 2) 0)) (w.getD (t - 7) 0)) (acO 7 18 3 (w.getD (t - 15) 0))) (w.getD (t - 16) 0)
def sched (l:List UInt8):Nat→List UInt32
 | 0=>[]
 | t+1=>sched l t++[aaJ l (sched l t) t]
structure S8 where
 a:UInt32
 b:UInt32
 c:UInt32
 d:UInt32
 e:UInt32
 f:UInt32
 g:UInt32
 h:UInt32
deriving DecidableEq
def S8.list (s:S8):List UInt32:=[s.a,s.b,s.c,s.d,s.e,s.f,s.g,s.h]
def t1 (s:S8)(k w:UInt32):UInt32:=wadd (wadd (wadd (wadd s.h (big 6 11 25 s.e)) (wxor (wand s.e s.f) (wand (wnot s.e) s.g))) k) w
def af7 (s:S8):UInt32:=wadd (big 2 13 22 s.a) (wxor (wxor (wand s.a s.b) (wand s.a s.c)) (wand s.b s.c))
def rnd (s:S8)(k w:UInt32):S8:=⟨wadd (t1 s k w) (af7 s),s.a,s.b,s.c,wadd s.d (t1 s k w),s.e,s.f,s.g⟩
def rnds (k w:List UInt32)(s:S8):Nat→S8
 | 0=>s
 | t+1=>rnd (rnds k w s t) (k.getD t 0) (w.getD t 0)
def S8.add (s r:S8):S8:=⟨wadd s.a r.a,wadd s.b r.b,wadd s.c r.c,wadd s.d r.d,wadd s.e r.e,wadd s.f r.f,wadd s.g r.g,wadd s.h r.h⟩
def comp (k:List UInt32)(s:S8)(l:List UInt8):S8:=s.add (rnds k (sched l 64) s 64)
def aav:S8:=⟨0x6a09e667,0xbb67ae85,0x3c6ef372,0xa54ff53a,0x510e527f,0x9b05688c,0x1f83d9ab,0x5be0cd19⟩
def keyL:List UInt32:=[
 0x428a2f98,0x71374491,0xb5c0fbcf,0xe9b5dba5,0x3956c25b,0x59f111f1,0x923f82a4,0xab1c5ed5,
 0xd807aa98,0x12835b01,0x243185be,0x550c7dc3,0x72be5d74,0x80deb1fe,0x9bdc06a7,0xc19bf174,
 0xe49b69c1,0xefbe4786,0x0fc19dc6,0x240ca1cc,0x2de92c6f,0x4a7484aa,0x5cb0a9dc,0x76f988da,
 0x983e5152,0xa831c66d,0xb00327c8,0xbf597fc7,0xc6e00bf3,0xd5a79147,0x06ca6351,0x14292967,
 0x27b70a85,0x2e1b2138,0x4d2c6dfc,0x53380d13,0x650a7354,0x766a0abb,0x81c2c92e,0x92722c85,
 0xa2bfe8a1,0xa81a664b,0xc24b8b70,0xc76c51a3,0xd192e819,0xd6990624,0xf40e3585,0x106aa070,
 0x19a4c116,0x1e376c08,0x2748774c,0x34b0bcb5,0x391c0cb3,0x4ed8aa4a,0x5b9cca4f,0x682e6ff3,
 0x748f82ee,0x78a5636f,0x84c87814,0x8cc70208,0x90befffa,0xa4506ceb,0xbef9a3f7,0xc67178f2]
def fill (n:Nat):Nat:=(119 - n % 64) % 64
def pad (n:Nat):List UInt8:=128 :: List.replicate (fill n) 0++be 8 (8*n)
def aaf (s:S8)(l:List UInt8):Nat→S8
 | 0=>s
 | k+1=>comp keyL (aaf s l k) ((l.drop (64*k)).take 64)
def aaV (l:List UInt8):List UInt8:=l++pad l.length
def acw (x:UInt32):List UInt8:=[UInt8.ofNat (x.toNat / 16777216),UInt8.ofNat (x.toNat / 65536),UInt8.ofNat (x.toNat / 256),UInt8.ofNat x.toNat]
def S8.bytes (s:S8):List UInt8:=s.list.flatMap acw
def aam (l:List UInt8):List UInt8:=(aaf aav (aaV l) ((aaV l).length / 64)).bytes
def af9 (x:UInt32):Int:=(x.toNat:Int)
theorem adO (x:UInt32):0≤af9 x:=Int.natCast_nonneg _
theorem u_lt (x:UInt32):af9 x<4294967296:=by unfold af9;have:=x.toNat_lt;omega
theorem u_of (n:Nat)(h:n<4294967296):af9 (UInt32.ofNat n)=n:=by
 unfold af9;rw[UInt32.toNat_ofNat'];congr 1
 exact Nat.mod_eq_of_lt h
theorem aen (n:Nat):af9 (UInt32.ofNat n)=(n:Int) % 4294967296:=by
 unfold af9;rw[UInt32.toNat_ofNat'];simp
theorem acb (x:UInt32):IntKind.u32.wrap (af9 x)=af9 x:=by rw[IntKind.wrap_u32];have:=adO x;have:=u_lt x;omega
theorem aeX (x y:UInt32):IntKind.u32.wrap (af9 x+af9 y)=af9 (wadd x y):=by
 rw[IntKind.wrap_u32];unfold af9 wadd;rw[UInt32.toNat_add];simp
theorem aeo (x:UInt32):BitVec.ofInt IntKind.u32.bits (af9 x)=x.toBitVec:=by
 unfold af9;rw[BitVec.ofInt_natCast];apply BitVec.eq_of_toNat_eq;simp[IntKind.bits]
theorem aep (x y:UInt32):bits .xor .u32 (af9 x) (af9 y)=af9 (wxor x y):=by
 simp only[bits,aeo];change IntKind.u32.wrap (af9 (x ^^^ y))=_;exact acb _
theorem aeY (x y:UInt32):bits .and .u32 (af9 x) (af9 y)=af9 (wand x y):=by
 simp only[bits,aeo];change IntKind.u32.wrap (af9 (x &&& y))=_;exact acb _
theorem u_or (x y:UInt32):bits .or .u32 (af9 x) (af9 y)=af9 (wor x y):=by
 simp only[bits,aeo];change IntKind.u32.wrap (af9 (x ||| y))=_;exact acb _
theorem aeq (k:Nat)(x:UInt32):IntKind.u32.wrap (af9 x*2 ^ k)=af9 (wshl k x):=by
 rw[IntKind.wrap_u32];unfold wshl;rw[aen];unfold af9;simp
theorem ac3 (k:Nat)(x:UInt32):af9 x / 2 ^ k=af9 (wshr k x):=by
 unfold wshr;have h:=x.toNat_lt;have h2:x.toNat / 2 ^ k≤x.toNat:=Nat.div_le_self _ _;rw[u_of _ (by omega)];unfold af9;simp
theorem afV (x:UInt32):af9 x / 8=af9 (wshr 3 x):=ac3 3 x
theorem afz (x:UInt32):af9 x / 1024=af9 (wshr 10 x):=ac3 10 x
theorem aeZ (x y:UInt32):wor x y=wor y x:=by unfold wor;exact UInt32.or_comm x y
end Go.Proofs.Ytbhkdlpdolioaaa
namespace Go.Proofs.Ytbhkdlpdolioaaa
open Go.RowKit
def aat (n x:Nat):Nat:=(2*x+n / (x*x)) / 3
def acf:Nat→Nat→Nat→Nat
 | 0,_,x=>x
 | f+1,n,x=>if x≤aat n x then x else acf f n (aat n x)
def aay (n:Nat):Nat:=acf 2097152 n 2097152
theorem ad5 (f n x:Nat)(h:x≤aat n x):acf f n x=x:=by
 cases f with
 | zero=>rfl
 | succ f=>simp[acf,h]
theorem ae7 (f n x:Nat)(hf:x≤f)(h:¬x≤aat n x):∃ g,aat n x≤g∧acf g n (aat n x)=acf f n x:=by
 cases f with
 | zero=>omega
 | succ f=>exact ⟨f,by omega,by simp[acf,h]⟩
theorem ab4 (n x:Nat)(h0:1≤n)(hx:1≤x):1≤aat n x:=by
 unfold aat;by_cases h:x=1
 ·subst h
  simp;omega
 ·generalize n / (x*x)=d
  omega
theorem acg:∀ (f n x:Nat),1≤n→1≤x→1≤acf f n x∧acf f n x≤x
 | 0,n,x,_,h=>⟨h,Nat.le_refl _⟩
 | f+1,n,x,h0,h=>by
  unfold acf
  split
  ·exact ⟨h,Nat.le_refl _⟩
  ·have:=acg f n (aat n x) h0 (ab4 n x h0 h)
   omega
def aaD (p:Nat):Nat:=p*18014398509481984
def aey (p:Nat):Nat:=aaD p - aay (aaD p)*aay (aaD p)*aay (aaD p)
def afC (p:Nat):Nat:=aay (aaD p)*16384+aey p*16384 / (3*aay (aaD p)*aay (aaD p))
def aez (p:Nat):UInt32:=UInt32.ofNat (afC p)
def fits (p:Nat):Bool:=decide (aay (aaD p)*aay (aaD p)*aay (aaD p)≤aaD p) && decide (aey p<281474976710656)
theorem ae8:∀ p:Fin 312,p.val=0∨fits p.val=true:=by decide +kernel
def mark:Nat→Nat→Nat→List Bool→List Bool
 | 0,_,_,D=>D
 | f+1,p,n,D=>if n<312 then mark f p (n+p) (D.set n true) else D
theorem ae9 (f p n:Nat)(D:List Bool)(h:¬n<312):mark f p n D=D:=by
 cases f with
 | zero=>rfl
 | succ f=>simp[mark,h]
theorem afD (f p n:Nat)(D:List Bool)(h:n<312)(hp:1≤p)(hf:312≤f+n):∃ g,312≤g+(n+p)∧mark g p (n+p) (D.set n true)=mark f p n D:=by
 cases f with
 | zero=>omega
 | succ f=>exact ⟨f,by omega,by simp[mark,h]⟩
theorem ach:∀ (f p n:Nat) (D:List Bool),(mark f p n D).length=D.length
 | 0,_,_,_=>rfl
 | f+1,p,n,D=>by
  unfold mark
  split
  ·rw[ach f];simp
  ·rfl
structure afE where
 D:List Bool
 ps:List Nat
def abC (p:Nat)(s:afE):afE:=if s.D.getD p false then s else ⟨mark 312 p (p*p) s.D,s.ps++[p]⟩
def aaF:Nat→afE
 | 0=>⟨List.replicate 312 false,[]⟩
 | p+1=>if p<2 then aaF p else abC p (aaF p)
theorem aa0:∀ p,(aaF p).D.length=312
 | 0=>List.length_replicate
 | p+1=>by
  unfold aaF
  split
  ·exact aa0 p
  ·unfold abC
   split
   ·exact aa0 p
   ·rw[ach];exact aa0 p
def aa3 (i:Nat):Nat:=(aaF 312).ps.getD i 0
theorem aeA:(aaF 312).ps.length=64:=by decide +kernel
theorem afF:(List.range 64).map (fun i=>aez (aa3 i))=keyL:=by decide +kernel
theorem acQ:∀ i:Fin 64,1≤aa3 i.val∧aa3 i.val<312:=by decide +kernel
theorem ad6:∀ p:Fin 312,(aaF p.val).D.getD p.val false=true∨p.val<2∨(aa3 (aaF p.val).ps.length=p.val∧(aaF p.val).ps.length<64):=by decide +kernel
theorem ad7 (p:Nat)(h:(aaF p).D.getD p false=true)(h2:2≤p):aaF (p+1)=aaF p:=by
 rw[aaF,if_neg (by omega),abC,if_pos h]
theorem ad8 (p:Nat)(h:(aaF p).D.getD p false=false)(h2:2≤p):aaF (p+1)=⟨mark 312 p (p*p) (aaF p).D,(aaF p).ps++[p]⟩:=by
 rw[aaF,if_neg (by omega),abC,if_neg (by rw[h];decide)]
end Go.Proofs.Ytbhkdlpdolioaaa

import Derived.Test.YthmhklmkgkfcpaaGreatDoorT1
import Derived.Deep.QuietTactic
import Derived.BigQuiet
import Derived.Test.YthmhklmkgkfcpaaGreatDoorRows
import Derived.WalkSpells
import Derived.Lib.Hide
import Derived.Outline
import Derived.ProofKit
import Derived.OpenShut
set_option linter.unusedVariables false
set_option linter.unusedSimpArgs false
set_option maxHeartbeats 8000000
set_option maxRecDepth 100000
namespace Go.Proofs.YthmhklmkgkfcpaaGreatDoor
open Go.RowKit
theorem afe {P:Program}{f:FuncId}{args:Array Value}{w:World}{n:Nat}{v:Value}
  (h:Calls P f args (w.drewN n) fun e w'=>e=.returned v∧w.drewN n=w'):Calls P f args (w.drewN n) fun e w''=>e=.returned v∧∃ m,w''=w.drewN m:=
 h.mono fun _ _ ⟨he,hm⟩=>⟨he,n,hm.symm⟩
theorem Kp.drewN {a b:World}(h:Kp a b)(n:Nat):Kp a (b.drewN n):=by
 induction n with
 | zero=>exact h
 | succ n ih=>exact ih.drew
def Yes (w:World)(e:Ending)(w':World):Prop:=e=.returned (.bool true)∧Kp w w'
end Go.Proofs.YthmhklmkgkfcpaaGreatDoor
namespace Go.Proofs.YthmhklmkgkfcpaaGreatDoor
def wadd (x y:UInt32):UInt32:=x+y
def wxor (x y:UInt32):UInt32:=x ^^^ y
def wand (x y:UInt32):UInt32:=x &&& y
def wor (x y:UInt32):UInt32:=x ||| y
def wnot (x:UInt32):UInt32:=wxor 0xffffffff x
def wshl (k:Nat)(x:UInt32):UInt32:=UInt32.ofNat (x.toNat*2 ^ k)
def wshr (k:Nat)(x:UInt32):UInt32:=UInt32.ofNat (x.toNat / 2 ^ k)
def rotr (k:Nat)(x:UInt32):UInt32:=wor (wshr k x) (wshl (32 - k) x)
def big (i j k:Nat)(x:UInt32):UInt32:=wxor (wxor (rotr i x) (rotr j x)) (rotr k x)
def small (i j k:Nat)(x:UInt32):UInt32:=wxor (wxor (rotr i x) (rotr j x)) (wshr k x)
def adW (a b c d:UInt8):UInt32:=UInt32.ofNat (16777216*a.toNat+65536*b.toNat+256*c.toNat+d.toNat)
def ab6 (l:List UInt8)(w:List UInt32)(t:Nat):UInt32:=
 if t<16 then adW (l.getD (4*t) 0) (l.getD (4*t+1) 0) (l.getD (4*t+2) 0) (l.getD (4*t+3) 0)
 else wadd (wadd (wadd (small 17 19 10 (w.getD (t - 2) 0)) (w.getD (t - 7) 0)) (small 7 18 3 (w.getD (t - 15) 0))) (w.getD (t - 16) 0)
def acA (l:List UInt8):Nat→List UInt32
 | 0=>[]
 | t+1=>acA l t++[ab6 l (acA l t) t]
structure S8 where
 a:UInt32
 b:UInt32
 c:UInt32
 d:UInt32
 e:UInt32
 f:UInt32
 g:UInt32
 h:UInt32
deriving DecidableEq
def S8.list (s:S8):List UInt32:=[s.a,s.b,s.c,s.d,s.e,s.f,s.g,s.h]
def arV (s:S8)(k w:UInt32):UInt32:=wadd (wadd (wadd (wadd s.h (big 6 11 25 s.e)) (wxor (wand s.e s.f) (wand (wnot s.e) s.g))) k) w
def t2 (s:S8):UInt32:=wadd (big 2 13 22 s.a) (wxor (wxor (wand s.a s.b) (wand s.a s.c)) (wand s.b s.c))
def rnd (s:S8)(k w:UInt32):S8:=⟨wadd (arV s k w) (t2 s),s.a,s.b,s.c,wadd s.d (arV s k w),s.e,s.f,s.g⟩
def rnds (k w:List UInt32)(s:S8):Nat→S8
 | 0=>s
 | t+1=>rnd (rnds k w s t) (k.getD t 0) (w.getD t 0)
def S8.add (s r:S8):S8:=⟨wadd s.a r.a,wadd s.b r.b,wadd s.c r.c,wadd s.d r.d,wadd s.e r.e,wadd s.f r.f,wadd s.g r.g,wadd s.h r.h⟩
def comp (k:List UInt32)(s:S8)(l:List UInt8):S8:=s.add (rnds k (acA l 64) s 64)
def abi:S8:=⟨0x6a09e667,0xbb67ae85,0x3c6ef372,0xa54ff53a,0x510e527f,0x9b05688c,0x1f83d9ab,0x5be0cd19⟩
def keyL:List UInt32:=[
 0x428a2f98,0x71374491,0xb5c0fbcf,0xe9b5dba5,0x3956c25b,0x59f111f1,0x923f82a4,0xab1c5ed5,
 0xd807aa98,0x12835b01,0x243185be,0x550c7dc3,0x72be5d74,0x80deb1fe,0x9bdc06a7,0xc19bf174,
 0xe49b69c1,0xefbe4786,0x0fc19dc6,0x240ca1cc,0x2de92c6f,0x4a7484aa,0x5cb0a9dc,0x76f988da,
 0x983e5152,0xa831c66d,0xb00327c8,0xbf597fc7,0xc6e00bf3,0xd5a79147,0x06ca6351,0x14292967,
 0x27b70a85,0x2e1b2138,0x4d2c6dfc,0x53380d13,0x650a7354,0x766a0abb,0x81c2c92e,0x92722c85,
 0xa2bfe8a1,0xa81a664b,0xc24b8b70,0xc76c51a3,0xd192e819,0xd6990624,0xf40e3585,0x106aa070,
 0x19a4c116,0x1e376c08,0x2748774c,0x34b0bcb5,0x391c0cb3,0x4ed8aa4a,0x5b9cca4f,0x682e6ff3,
 0x748f82ee,0x78a5636f,0x84c87814,0x8cc70208,0x90befffa,0xa4506ceb,0xbef9a3f7,0xc67178f2]
def fill (n:Nat):Nat:=(119 - n % 64) % 64
def pad (n:Nat):List UInt8:=128 :: List.replicate (fill n) 0++be 8 (8*n)
def aaA (s:S8)(l:List UInt8):Nat→S8
 | 0=>s
 | k+1=>comp keyL (aaA s l k) ((l.drop (64*k)).take 64)
def acB (l:List UInt8):List UInt8:=l++pad l.length
def ahV (x:UInt32):List UInt8:=[UInt8.ofNat (x.toNat / 16777216),UInt8.ofNat (x.toNat / 65536),UInt8.ofNat (x.toNat / 256),UInt8.ofNat x.toNat]
def S8.bytes (s:S8):List UInt8:=s.list.flatMap ahV
def aaH (l:List UInt8):List UInt8:=(aaA abi (acB l) ((acB l).length / 64)).bytes
def ar1 (x:UInt32):Int:=(x.toNat:Int)
theorem alt (x:UInt32):0≤ar1 x:=Int.natCast_nonneg _
theorem u_lt (x:UInt32):ar1 x<4294967296:=by unfold ar1;have:=x.toNat_lt;omega
theorem u_of (n:Nat)(h:n<4294967296):ar1 (UInt32.ofNat n)=n:=by
 unfold ar1;rw[UInt32.toNat_ofNat'];congr 1
 exact Nat.mod_eq_of_lt h
theorem anr (n:Nat):ar1 (UInt32.ofNat n)=(n:Int) % 4294967296:=by
 unfold ar1;rw[UInt32.toNat_ofNat'];simp
theorem agu (x:UInt32):IntKind.u32.wrap (ar1 x)=ar1 x:=by rw[IntKind.wrap_u32];have:=alt x;have:=u_lt x;omega
theorem aoV (x y:UInt32):IntKind.u32.wrap (ar1 x+ar1 y)=ar1 (wadd x y):=by
 rw[IntKind.wrap_u32];unfold ar1 wadd;rw[UInt32.toNat_add];simp
theorem ans (x:UInt32):BitVec.ofInt IntKind.u32.bits (ar1 x)=x.toBitVec:=by
 unfold ar1;rw[BitVec.ofInt_natCast];apply BitVec.eq_of_toNat_eq;simp[IntKind.bits]
theorem ant (x y:UInt32):bits .xor .u32 (ar1 x) (ar1 y)=ar1 (wxor x y):=by
 simp only[bits,ans];change IntKind.u32.wrap (ar1 (x ^^^ y))=_;exact agu _
theorem aoW (x y:UInt32):bits .and .u32 (ar1 x) (ar1 y)=ar1 (wand x y):=by
 simp only[bits,ans];change IntKind.u32.wrap (ar1 (x &&& y))=_;exact agu _
theorem u_or (x y:UInt32):bits .or .u32 (ar1 x) (ar1 y)=ar1 (wor x y):=by
 simp only[bits,ans];change IntKind.u32.wrap (ar1 (x ||| y))=_;exact agu _
theorem anu (k:Nat)(x:UInt32):IntKind.u32.wrap (ar1 x*2 ^ k)=ar1 (wshl k x):=by
 rw[IntKind.wrap_u32];unfold wshl;rw[anr];unfold ar1;simp
theorem ajp (k:Nat)(x:UInt32):ar1 x / 2 ^ k=ar1 (wshr k x):=by
 unfold wshr;have h:=x.toNat_lt;have h2:x.toNat / 2 ^ k≤x.toNat:=Nat.div_le_self _ _;rw[u_of _ (by omega)];unfold ar1;simp
theorem arv (x:UInt32):ar1 x / 8=ar1 (wshr 3 x):=ajp 3 x
theorem aqt (x:UInt32):ar1 x / 1024=ar1 (wshr 10 x):=ajp 10 x
theorem aoX (x y:UInt32):wor x y=wor y x:=by unfold wor;exact UInt32.or_comm x y
end Go.Proofs.YthmhklmkgkfcpaaGreatDoor
namespace Go.Proofs.YthmhklmkgkfcpaaGreatDoor
open Go.RowKit
theorem acn (u v:Value)(l m:List UInt8)(w:World)(h:Rd w u l)(h':Rd w v m):
  Calls Tryz.prog 29 #[u,v] w fun e w'=>e=.returned (.bool (decide (l=m)))∧w=w':=by
 have c1:=aeM w 24 9 5 u l h Tryz.underlying24 Tryz.underlying5 Tryz.underlying9;have c2:=aeM w 24 9 5 v m h' Tryz.underlying24 Tryz.underlying5 Tryz.underlying9;go_enter Tryz.func29,Tryz.ntmps29;go_wp2;go_ret;exact ⟨by simp[Bool.beq_eq_decide_eq],rfl⟩
theorem Tryz.info5:(Tryz.prog.info? 5).map (fun i=>(i.zero,i.size,i.bytes))=some (some (.int .u8 0),1,1):=by kernel_rfl
theorem ar0:U8 Tryz.prog 24 5:=U8.mk' Tryz.underlying24 Tryz.info5
def aa9 (n x:Nat):Nat:=(2*x+n / (x*x)) / 3
def agw:Nat→Nat→Nat→Nat
 | 0,_,x=>x
 | f+1,n,x=>if x≤aa9 n x then x else agw f n (aa9 n x)
def aby (n:Nat):Nat:=agw 2097152 n 2097152
theorem al4 (f n x:Nat)(h:x≤aa9 n x):agw f n x=x:=by
 cases f with
 | zero=>rfl
 | succ f=>simp[agw,h]
theorem ao3 (f n x:Nat)(hf:x≤f)(h:¬x≤aa9 n x):∃ g,aa9 n x≤g∧agw g n (aa9 n x)=agw f n x:=by
 cases f with
 | zero=>omega
 | succ f=>exact ⟨f,by omega,by simp[agw,h]⟩
theorem afH (n x:Nat)(h0:1≤n)(hx:1≤x):1≤aa9 n x:=by
 unfold aa9;by_cases h:x=1
 ·subst h
  simp;omega
 ·generalize n / (x*x)=d
  omega
theorem agx:∀ (f n x:Nat),1≤n→1≤x→1≤agw f n x∧agw f n x≤x
 | 0,n,x,_,h=>⟨h,Nat.le_refl _⟩
 | f+1,n,x,h0,h=>by
  unfold agw
  split
  ·exact ⟨h,Nat.le_refl _⟩
  ·have:=agx f n (aa9 n x) h0 (afH n x h0 h)
   omega
def abG (p:Nat):Nat:=p*18014398509481984
def anC (p:Nat):Nat:=abG p - aby (abG p)*aby (abG p)*aby (abG p)
def aqv (p:Nat):Nat:=aby (abG p)*16384+anC p*16384 / (3*aby (abG p)*aby (abG p))
def anD (p:Nat):UInt32:=UInt32.ofNat (aqv p)
def fits (p:Nat):Bool:=decide (aby (abG p)*aby (abG p)*aby (abG p)≤abG p) && decide (anC p<281474976710656)
theorem ao4:∀ p:Fin 312,p.val=0∨fits p.val=true:=by decide +kernel
def mark:Nat→Nat→Nat→List Bool→List Bool
 | 0,_,_,D=>D
 | f+1,p,n,D=>if n<312 then mark f p (n+p) (D.set n true) else D
theorem ao5 (f p n:Nat)(D:List Bool)(h:¬n<312):mark f p n D=D:=by
 cases f with
 | zero=>rfl
 | succ f=>simp[mark,h]
theorem aqw (f p n:Nat)(D:List Bool)(h:n<312)(hp:1≤p)(hf:312≤f+n):∃ g,312≤g+(n+p)∧mark g p (n+p) (D.set n true)=mark f p n D:=by
 cases f with
 | zero=>omega
 | succ f=>exact ⟨f,by omega,by simp[mark,h]⟩
theorem agy:∀ (f p n:Nat) (D:List Bool),(mark f p n D).length=D.length
 | 0,_,_,_=>rfl
 | f+1,p,n,D=>by
  unfold mark
  split
  ·rw[agy f];simp
  ·rfl
structure aqy where
 D:List Bool
 ps:List Nat
def aeQ (p:Nat)(s:aqy):aqy:=if s.D.getD p false then s else ⟨mark 312 p (p*p) s.D,s.ps++[p]⟩
def abL:Nat→aqy
 | 0=>⟨List.replicate 312 false,[]⟩
 | p+1=>if p<2 then abL p else aeQ p (abL p)
theorem acN:∀ p,(abL p).D.length=312
 | 0=>List.length_replicate
 | p+1=>by
  unfold abL
  split
  ·exact acN p
  ·unfold aeQ
   split
   ·exact acN p
   ·rw[agy];exact acN p
def ac0 (i:Nat):Nat:=(abL 312).ps.getD i 0
theorem anE:(abL 312).ps.length=64:=by decide +kernel
theorem aqz:(List.range 64).map (fun i=>anD (ac0 i))=keyL:=by decide +kernel
theorem aiw:∀ i:Fin 64,1≤ac0 i.val∧ac0 i.val<312:=by decide +kernel
theorem al5:∀ p:Fin 312,(abL p.val).D.getD p.val false=true∨p.val<2∨(ac0 (abL p.val).ps.length=p.val∧(abL p.val).ps.length<64):=by decide +kernel
theorem al6 (p:Nat)(h:(abL p).D.getD p false=true)(h2:2≤p):abL (p+1)=abL p:=by
 rw[abL,if_neg (by omega),aeQ,if_pos h]
theorem al7 (p:Nat)(h:(abL p).D.getD p false=false)(h2:2≤p):abL (p+1)=⟨mark 312 p (p*p) (abL p).D,(abL p).ps++[p]⟩:=by
 rw[abL,if_neg (by omega),aeQ,if_neg (by rw[h];decide)]
theorem aqE (z u:Value)(c:List Value)(m:Nat):(List.replicate (m+1) z++c).set m u=List.replicate m z++u :: c:=by
 rw[List.set_append_left _ _ (by simp),List.replicate_succ',List.set_append_right _ _ (by simp)];simp
theorem adK (n:Int)(k:Nat)(w:World)(h0:0≤n)(h1:1≤k)(h7:k≤7):
  Calls Tryz.prog 135 #[.int .i64 n,.int .i64 k] w fun e w'=>∃ v,e=.returned v∧Ow 5 w' w.heap.size v (be k n.toNat)∧Kp w w':=by
 obtain ⟨i0,hi,hz0,hz1,hz2⟩:=info_parts Tryz.info5;obtain ⟨n,rfl⟩:=Int.eq_ofNat_of_zero_le h0;rw[Int.toNat_natCast];go_enter Tryz.func135,Tryz.ntmps135;go_wp2_with (at_make;refine wpList_make_full _ rfl _ _ 24 rfl w.heap.size 5 i0 (.int .u8 0) 1 Tryz.underlying24 hi hz0 hz1 _ _ _ _ k rfl rfl rfl rfl ?b1 ?b2 ?b3 ?_)
 case b1=>rw[hz2];omega
 case b2=>unfold maxLen;omega
 case b3=>exact Nat.le_refl _
 intro w1 hown hgr;rw[toList_madeCells_one] at hown;generalize hB:w.heap.size=B at *;have HB:=Lib.hid hB;clear hB;have hk1:Below B w w1:=Below.grown (Below.refl B w) hgr (by rw[HB.out];exact Nat.le_refl _) (by simp);clear hgr;go_wp2;go_loopw[0,6] (fun x i wr=>∃ j:Nat,j≤k∧i=.int .i64 ((j:Int) - 1)∧x=.int .i64 ((n / 256 ^ (k - j):Nat):Int)∧wr.ownsRow B 5 1 (.slice (some ⟨B,0,none⟩) k k) k (List.replicate j (.int .u8 0)++Lib.byteCells (be (k - j) n))∧Below B w wr) (fun _ i _=>(intOf i+1).toNat)
 case atStart=>exact ⟨k,Nat.le_refl _,rfl,by simp,by simpa [be,Lib.byteCells] using hown,hk1⟩
 case round=>
  obtain ⟨j,hj,rfl,rfl,hown,hbel⟩:=hrel;cases j with
  | zero=>
   go_wp2;go_ret;refine ⟨_,rfl,?_,hbel.mono (by rw[HB.out];exact Nat.le_refl _)⟩;have hl:(be k n).length=k:=aak _ _;unfold Ow;rw[HB.out,hl];simpa using hown
  | succ j=>
   have hcell:wr.cell? ⟨B,j,none⟩=some (.int .u8 0):=by
    rw[hown.cellAt j (by omega),List.getElem?_append_left (by simp)];simp
   have hfr:=hown.frozenAt j;rw[show ((j+1:Nat):Int) - 1=j from by omega];generalize hX:n / 256 ^ (k - (j+1))=X at *;have HX:=Lib.hid hX;clear hX;have hown1:=Lib.hid hown;clear hown;go_wp2;go_roundw
   case rel=>
    obtain ⟨t,ht⟩:∃ t,t=k - (j+1):=⟨_,rfl⟩;have hx:=HX.out;have ho:=hown1.out;rw[← ht] at hx ho;have ht1:k - j=t+1:=by omega
    refine ⟨j,by omega,rfl,?_,?_,hbel.setCell (Nat.le_refl _) _⟩
    ·rw[ht1,Nat.pow_succ,← Nat.div_div_eq_div_mul,hx];rfl
    ·have h2:=(ho.stored j (.int .u8 ((X:Int) % 256))).1
     rw[aqE] at h2;rw[ht1,aew,hx];have e:Value.int .u8 ((X:Int) % 256)=.int .u8 ((UInt8.ofNat X).toNat:Int):=by simp
     rw[e] at h2 ⊢;exact h2
   case measure=>simp[intOf]
theorem alL (x:Nat)(h:x<256):IntKind.u8.wrap (x:Int)=x:=by rw[IntKind.wrap_u8];omega
theorem u8_or (x y:Nat)(hx:x<256)(hy:y<256):bits .or .u8 (x:Int) (y:Int)=((x ||| y:Nat):Int):=by
 have hlt:x ||| y<256:=Nat.or_lt_two_pow (n:=8) hx hy
 change IntKind.u8.wrap (((BitVec.ofInt 8 (x:Int) ||| BitVec.ofInt 8 (y:Int)).toNat:Nat):Int)=_;rw[BitVec.ofInt_natCast,BitVec.ofInt_natCast,BitVec.toNat_or,BitVec.toNat_ofNat,BitVec.toNat_ofNat,Nat.mod_eq_of_lt hx,Nat.mod_eq_of_lt hy,alL _ hlt]
theorem ap9 (x y:Nat)(hx:x<256)(hy:y<256):bits .xor .u8 (x:Int) (y:Int)=((x ^^^ y:Nat):Int):=by
 have hlt:x ^^^ y<256:=xor_lt hx hy;change IntKind.u8.wrap (((BitVec.ofInt 8 (x:Int) ^^^ BitVec.ofInt 8 (y:Int)).toNat:Nat):Int)=_;rw[BitVec.ofInt_natCast,BitVec.ofInt_natCast,BitVec.toNat_xor,BitVec.toNat_ofNat,BitVec.toNat_ofNat,Nat.mod_eq_of_lt hx,Nat.mod_eq_of_lt hy,alL _ hlt]
theorem abs (x y:UInt8):bits .xor .u8 (x.toNat:Int) (y.toNat:Int)=((x ^^^ y).toNat:Int):=by
 rw[ap9 _ _ (adP x) (adP y),UInt8.toNat_xor]
theorem amD:allB 256 (fun x=>Nat.beq ((x*2) % 256 ^^^ (x / 128)*27) (gm x 2))=true:=by decide +kernel
theorem acu (x:UInt8)(w:World):Calls Tryz.prog 240 #[.int .u8 (x.toNat:Int)] w fun e w'=>e=.returned (.int .u8 ((mulB x 2).toNat:Int))∧w=w':=by
 have hx:=adP x;have h:=Nat.eq_of_beq_eq_true (aay amD x.toNat hx);have e1:IntKind.u8.wrap ((x.toNat:Int)*2)=((x.toNat*2 % 256:Nat):Int):=by rw[IntKind.wrap_u8];omega
 have e2:(x.toNat:Int) / 128=((x.toNat / 128:Nat):Int):=by omega
 have e3:IntKind.u8.wrap (((x.toNat / 128:Nat):Int)*27)=((x.toNat / 128*27:Nat):Int):=by rw[IntKind.wrap_u8];omega
 have e4:=ap9 (x.toNat*2 % 256) (x.toNat / 128*27) (by omega) (by omega);rw[h] at e4;have hm:=acQ x 2;rw[show (2:UInt8).toNat=2 from rfl] at hm;rw[← hm] at e4;generalize (mulB x 2).toNat=M at *;generalize x.toNat*2 % 256=A at *;generalize hB:x.toNat / 128=B at *;generalize B*27=C at *;generalize x.toNat=X at *;clear h hm hx hB;go_enter Tryz.func240,Tryz.ntmps240;go_wp2;go_ret;exact ⟨rfl,rfl⟩
theorem aq1:allB 5 (fun n=>allB 256 fun x=>Nat.beq ((x*2 ^ n) % 256 ||| x / 2 ^ (8 - n)) ((x*2 ^ n) % 256 ^^^ x / 2 ^ (8 - n)))=true:=by decide +kernel
def aiY (x:UInt8)(n:Nat):UInt8:=UInt8.ofNat (aft x.toNat n)
theorem apI (x:UInt8)(n:Nat):aft x.toNat n<256:=xor_lt (Nat.mod_lt _ (by omega)) (Nat.lt_of_le_of_lt (Nat.div_le_self _ _) (adP x))
theorem aj1 (x:UInt8)(n:Nat):(aiY x n).toNat=aft x.toNat n:=by
 unfold aiY;rw[UInt8.toNat_ofNat',Nat.mod_eq_of_lt (apI x n)]
theorem apJ (x:Int)(h0:0≤x)(h1:x<2 ^ 64):bits .and .u64 x 7=x % 8:=
 bits_mask .u64 64 (by decide) (fun n h0 h1=>by simp[IntKind.wrap,IntKind.bits,IntKind.signed];omega) 3 (by decide) x h0 h1
theorem aor (x:UInt8)(i:Nat)(w:World)(h1:i<5):
  Calls Tryz.prog 270 #[.int .u8 (x.toNat:Int),.int .i64 i] w fun e w'=>e=.returned (.int .u8 ((aiY x i).toNat:Int))∧w=w':=by
 have hx:=adP x;have hL:=aj1 x i;have hor:=Nat.eq_of_beq_eq_true (aay (aay aq1 i h1) x.toNat hx);rw[show (x.toNat*2 ^ i) % 256 ^^^ x.toNat / 2 ^ (8 - i)=aft x.toNat i from rfl,← hL] at hor;generalize (aiY x i).toNat=L at *;generalize x.toNat=X at *;have w1:IntKind.u64.wrap (i:Int)=i:=by simp[IntKind.wrap,IntKind.bits,IntKind.signed];omega
 have w2:=apJ (i:Int) (by omega) (by omega);rw[show (i:Int) % 8=i by omega] at w2;have w3:IntKind.u64.wrap (8 - (i:Int))=8 - i:=by simp[IntKind.wrap,IntKind.bits,IntKind.signed];omega
 have e1:(8 - (i:Int)).toNat=8 - i:=by omega
 have hp:(X:Int)*2 ^ i=((X*2 ^ i:Nat):Int):=by rw[Int.natCast_mul,Int.natCast_pow];rfl
 have hs:(X:Int) / 2 ^ (8 - i)=((X / 2 ^ (8 - i):Nat):Int):=by rw[Int.natCast_ediv,Int.natCast_pow];rfl
 have hl:IntKind.u8.wrap ((X:Int)*2 ^ i)=((X*2 ^ i % 256:Nat):Int):=by rw[hp,IntKind.wrap_u8];omega
 have hq:X / 2 ^ (8 - i)<256:=Nat.lt_of_le_of_lt (Nat.div_le_self _ _) hx;have hb:=u8_or (X*2 ^ i % 256) (X / 2 ^ (8 - i)) (by omega) hq;rw[hor] at hb;obtain ⟨P,hP⟩:∃ P,X*2 ^ i % 256=P:=⟨_,rfl⟩;obtain ⟨Q,hQ⟩:∃ Q,X / 2 ^ (8 - i)=Q:=⟨_,rfl⟩;rw[hP] at hl hb;rw[hQ] at hs hb;clear hor hp hP hQ hL hq;go_enter Tryz.func270,Tryz.ntmps270;go_wp2;go_ret;exact ⟨rfl,rfl⟩
def acp (y:UInt8):Nat→UInt8
 | 0=>99
 | n+1=>acp y n ^^^ aiY y n
theorem amE:allB 256 (fun x=>Nat.beq (99 ^^^ aft x 0 ^^^ aft x 1 ^^^ aft x 2 ^^^ aft x 3 ^^^ aft x 4) (ahp x))=true:=by decide +kernel
theorem aiZ (y:UInt8):acp y 5=adQ y:=by
 apply afJ;rw[agZ];simp only[acp,UInt8.toNat_xor,aj1];exact Nat.eq_of_beq_eq_true (aay amE y.toNat (adP y))
theorem aii (y:UInt8)(w:World):Calls Tryz.prog 263 #[.int .u8 (y.toNat:Int)] w fun e w'=>e=.returned (.int .u8 ((adQ y).toNat:Int))∧w=w':=by
 have H5:=Lib.hid (aiZ y);go_enter Tryz.func263,Tryz.ntmps263;go_wp2_with fail;go_loopw[3,5] (fun o p wr=>(∃ (i:Nat),i≤5∧p=.int .i64 i∧o=.int .u8 ((acp y i).toNat:Int))∧w=wr) (fun _ p _=>5 - (intOf p).toNat)
 case atStart=>exact ⟨⟨0,by omega,rfl,rfl⟩,rfl⟩
 case round=>
  obtain ⟨⟨i,hi,rfl,rfl⟩,rfl⟩:=hrel;by_cases hlt:i<5
  ·have hq:(i:Int)<5:=by omega
   have hx:=abs (acp y i) (aiY y i);have hr:=aor y i w hlt;have HX:Hid (acp y i ^^^ aiY y i=acp y (i+1)):=rfl;generalize acp y i ^^^ aiY y i=Z at *;generalize acp y i=U at *;generalize aiY y i=V at *;go_wp2_with (go_at_call 270;refine hr.mono ?_;rintro _ _ ⟨rfl,rfl⟩)
   go_roundw
   case rel=>exact ⟨⟨i+1,by omega,by go_num,by rw[HX.out]⟩,trivial⟩
   case measure=>simp[intOf];omega
  ·obtain rfl:i=5:=by omega
   rw[H5.out];go_wp2_with fail;go_ret;exact ⟨rfl,rfl⟩
theorem wf64 {n:Int}(h:(Lit.int .i64 n).wf=true):-9223372036854775808≤n∧n≤9223372036854775807:=by
 have:=bounds_i64 h;omega
end Go.Proofs.YthmhklmkgkfcpaaGreatDoor

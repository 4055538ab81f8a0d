import Derived.Test.YthmhklmkgkfcpaaGreatDoorX2
import Derived.Test.YthmhklmkgkfcpaaGreatDoorProg
import Derived.IntWalk
set_option linter.all false
set_option maxHeartbeats 8000000
set_option maxRecDepth 100000
namespace Go.Proofs.YthmhklmkgkfcpaaGreatDoor
open Go.Proofs.Tryz Go.RowKit
variable {L:List UInt32}{T:TypeId}{W w:World}{g t:Nat}{l:List Bool}
attribute [local go_sem] kn oT mL oU oV mM jF
theorem AN (x:Int)(b:0<=x)(a:x<2 ^ 64):bits .and .u64 x 31=x % 32:=
 bits_mask .u64 64 (by decide) (λn d c=>by simp[IntKind.wrap,IntKind.bits,IntKind.signed];omega) 5 (by decide) x b a
theorem AO (i:Nat)(c:0<i)(b:i<32):bits .and .u64 (IntKind.u64.wrap (-(i:Int))) 31=32 - (i:Int):=by
 have a:IntKind.u64.wrap (-(i:Int))=18446744073709551616 - i:=by
  simp[IntKind.wrap,IntKind.bits,IntKind.signed];omega
 rw[a,AN _ (by omega) (by omega)];omega
theorem uy (i:Nat)(x:UInt32)(w:World)(b:0<i)(a:i<32):
  Calls prog 273 #[.int .u32 (aa x),.int .i64 (-(i:Int))] w λe w'=>e=.returned (.int .u32 (aa (jE i x)))/\w=w':=by
 have c:=AO i b a;have f:(32 - (i:Int)).toNat=32 - i:=by omega
 have d:IntKind.u64.wrap (32 - (32 - (i:Int)))=i:=by simp[IntKind.wrap,IntKind.bits,IntKind.signed];omega
 go_enter func273,ntmps273;go_wp2;go_ret;exact⟨by rw[AI];rfl,rfl⟩
theorem uz (i j k:Nat)(x:UInt32)(w:World)(c:0<i/\i<32)(b:0<j/\j<32)(a:0<k/\k<32):
  Calls prog 268 #[.int .u32 (aa x),.int .i64 i,.int .i64 j,.int .i64 k] w λe w'=>e=.returned (.int .u32 (aa (big i j k x)))/\w=w':=by
 have n:∀ i:Nat,i<32->IntKind.i64.wrap (-(i:Int)) = -i:=λi h=>by rw[Nf];omega
 have r:=n i c.2;have q:=n j b.2;have p:=n k a.2;obtain⟨o,m⟩:=c;obtain⟨l,g⟩:=b;obtain⟨f,d⟩:=a;clear n;go_enter func268,ntmps268;go_wp2_with((go_at_call 273;refine(uy _ _ _ (by assumption) (by assumption)).mono ?_;rintro e w' ⟨rfl,rfl⟩))
 go_ret;exact⟨rfl,rfl⟩
theorem AP (x:UInt32)(w:World):Calls prog 268 #[.int .u32 (aa x),.int .i64 6,.int .i64 11,.int .i64 25] w λe w'=>e=.returned (.int .u32 (aa (big 6 11 25 x)))/\w=w':=
 uz 6 11 25 x w (by decide) (by decide) (by decide)
theorem uA (x:UInt32)(w:World):Calls prog 268 #[.int .u32 (aa x),.int .i64 2,.int .i64 13,.int .i64 22] w λe w'=>e=.returned (.int .u32 (aa (big 2 13 22 x)))/\w=w':=
 uz 2 13 22 x w (by decide) (by decide) (by decide)
theorem uB (i j k:Nat)(x:UInt32)(w:World)(b:0<i/\i<32)(a:0<j/\j<32)(f:0<k/\k<32):
  Calls prog 272 #[.int .u32 (aa x),.int .i64 i,.int .i64 j,.int .i64 k] w λe w'=>e=.returned (.int .u32 (aa (small i j k x)))/\∃ n,w'=w.drewN n:=by
 have n:∀ i:Nat,i<32->IntKind.i64.wrap (-(i:Int)) = -i:=λi h=>by rw[Nf];omega
 have q:=n i b.2;have p:=n j a.2;have r:=jF k x;obtain⟨o,m⟩:=b;obtain⟨l,g⟩:=a;obtain⟨d,c⟩:=f;clear n;go_enter func272,ntmps272;go_wp2;go_quiet ((go_at_call 273;exact qH (uy _ _ _ (by assumption) (by assumption))))
 go_wp2;go_ret;exact⟨rfl,_,rfl⟩
theorem AQ (x:UInt32)(w:World):Calls prog 272 #[.int .u32 (aa x),.int .i64 17,.int .i64 19,.int .i64 10] w λe w'=>e=.returned (.int .u32 (aa (small 17 19 10 x)))/\∃ n,w'=w.drewN n:=
 uB 17 19 10 x w (by decide) (by decide) (by decide)
theorem AR (x:UInt32)(w:World):Calls prog 272 #[.int .u32 (aa x),.int .i64 7,.int .i64 18,.int .i64 3] w λe w'=>e=.returned (.int .u32 (aa (small 7 18 3 x)))/\∃ n,w'=w.drewN n:=
 uB 7 18 3 x w (by decide) (by decide) (by decide)
theorem AS (i:Nat)(x:UInt32)(w:World)(d:0<i)(c:i<32):
  Calls prog 258 #[.int .u32 (aa x),.int .u32 i] w λe w'=>e=.returned (.int .u32 (aa (jE i x)))/\w=w':=by
 have f:IntKind.u32.wrap (32 - (i:Int))=32 - i:=by rw[Mx];omega
 have g:(32 - (i:Int)).toNat=32 - i:=by omega
 have a:=jF i x;have b:=mM (32 - i) x;go_enter func258,ntmps258;go_wp2;go_ret;exact⟨rfl,rfl⟩
def ub (b:UInt8):Int:=(b.toNat:Int)
theorem jI (b:UInt8):0<=ub b:=Int.natCast_nonneg _
theorem jJ (b:UInt8):ub b<256:=by unfold ub;have:=b.toNat_lt;omega
theorem uC (a b c d:UInt8):ub a*16777216+ub b*65536+ub c*256+ub d=aa (il a b c d):=by
 unfold il ub;have:=a.toNat_lt;have:=b.toNat_lt;have:=c.toNat_lt;have:=d.toNat_lt;rw[ut _ (by omega)];omega
theorem Rd.row {a:Option Addr}{n c:Nat}{l:List UInt8}(h:Rd w (.slice a n c) l)(e:0<n):
 ∃ b d,a=some ⟨b,d,none⟩/\b<w.heap.size/\∀ i,i<n->w.cell? ⟨b,d+i,none⟩=some (.int .u8 (ub (l.getD i 0))):=h.at 0 e
theorem AT (v:Value)(l:List UInt8)(d:Nat)(w:World)(h:Rd w v l)(Z:d+4<=l.length):
  Calls prog 257 #[v,.int .i64 d] w λe w'=>e=.returned (.int .u32 (aa (il (l.getD d 0) (l.getD (d+1) 0) (l.getD (d+2) 0) (l.getD (d+3) 0))))/\∃ n,w'=w.drewN n:=by
 obtain⟨a,c,rfl,q,p⟩:=h.shape;unfold maxLen at p;obtain⟨b,o,rfl,hb,j⟩:=h.row (by omega);have c0:=j d (by omega);have c1:=j (d+1) (by omega);have c2:=j (d+2) (by omega);have c3:=j (d+3) (by omega);have m:=uC (l.getD d 0) (l.getD (d+1) 0) (l.getD (d+2) 0) (l.getD (d+3) 0);generalize l.getD d 0=g at *;generalize l.getD (d+1) 0=f at *;generalize l.getD (d+2) 0=i at *;generalize l.getD (d+3) 0=k at *;have B:=jI g;have A:=jI f;have z:=jI i;have y:=jI k;have u:=jJ g;have t:=jJ f;have s:=jJ i;have r:=jJ k;clear j;have Y:(d:Int)<(l.length:Int):=by omega
 have X:(d:Int)+1<(l.length:Int):=by omega
 have V:(d:Int)+2<(l.length:Int):=by omega
 have U:(d:Int)+3<(l.length:Int):=by omega
 have N:(0:Int)<=(d:Int)+1:=by omega
 have M:(0:Int)<=(d:Int)+2:=by omega
 have L:(0:Int)<=(d:Int)+3:=by omega
 have T:IntKind.i64.wrap ((d:Int)+1)=(d:Int)+1:=JI _ (by omega);have S:IntKind.i64.wrap ((d:Int)+2)=(d:Int)+2:=JI _ (by omega);have R:IntKind.i64.wrap ((d:Int)+3)=(d:Int)+3:=JI _ (by omega);have bV:((d:Int)+1).toNat=d+1:=by omega
 have t2:((d:Int)+2).toNat=d+2:=by omega
 have G:((d:Int)+3).toNat=d+3:=by omega
 have W:∀ x:Int,0<=x->x<4294967296->IntKind.u32.wrap x=x:=λx h0 q=>by rw[Mx];omega
 have F:=W (ub g) (by omega) (by omega);have E:=W (ub f) (by omega) (by omega);have D:=W (ub i) (by omega) (by omega);have C:=W (ub k) (by omega) (by omega);have Q:=W (ub g*16777216) (by omega) (by omega);have P:=W (ub f*65536) (by omega) (by omega);have O:=W (ub i*256) (by omega) (by omega);have K:=W (ub g*16777216+ub f*65536) (by omega) (by omega);have J:=W (ub g*16777216+ub f*65536+ub i*256) (by omega) (by omega);have I:=W (ub g*16777216+ub f*65536+ub i*256+ub k) (by omega) (by omega);have H:=JE m;clear W m B A z y u t s r;go_enter func257,ntmps257;go_wp2;go_quiet (fail)
 go_wp2;go_ret;exact⟨by rw[<-H.out];rfl,_,rfl⟩
theorem rk (n:Int)(x:UInt32)(w:World)(a:0<n)(b:n<32):
  Calls prog 258 #[.int .u32 (aa x),.int .u32 n] w λe w'=>e=.returned (.int .u32 (aa (jE n.toNat x)))/\w=w':=by
 obtain⟨i,rfl⟩:=Kc (Int.le_of_lt a);rw[JX];exact AS i x w (by omega) (by omega)
theorem AU (x:Int)(v:Value)(l:List UInt8)(a:Nat)(w:World)(h:Rd w v l)(c:a+4<=l.length)(b:x=a):
  Calls prog 257 #[v,.int .i64 x] w λe w'=>e=.returned (.int .u32 (aa (il (l.getD a 0) (l.getD (a+1) 0) (l.getD (a+2) 0) (l.getD (a+3) 0))))/\∃ n,w'=w.drewN n:=by
 subst b;exact AT v l a w h c
theorem uD (n:Int)(w:World):
  Calls prog 249 #[.int .i64 n] w λe w'=>(∃ v,e=.returned v/\Rd w' v (jH n))/\Kp w w':=by
 by_cases m:0<=n/\n<=1125899906842624
 ·have D:jH n=pad n.toNat:=if_pos m
  rw[D];clear D;obtain⟨m,S⟩:=m;obtain⟨n,rfl⟩:=Kc m;rw[JX];obtain⟨f,I⟩:∃ f,fill n=f:=⟨_,rfl⟩;have H:=lB n;have G:=lC n;have j:=AM n;have c:=AL n;have t:(119 - (n:Int) % 64).tmod 64=(f:Int):=by
   rw[Kv (by omega),<-I];unfold fill;omega
  rw[I] at H G j c;have s:(119 - (n:Int) % 64) % 64=(f:Int):=by rw[<-t,Kv (by omega)]
  have V:=JE c;have B:=JE G;have U:=JE j;have HB:=JE S;have W:IntKind.i64.wrap (8*(n:Int))=8*(n:Int):=by rw[Nf];omega
  clear I c G j;go_enter func249,ntmps249;have J:((9+f:Nat):Int)=1+(f:Int)+8:=by omega
  have P:=JE J;clear J;go_wp2_with(at_make;refine jk (z:=.int .u8 0) (b:=1) underlying24 Og rfl (by decide) rfl _ _ rfl (9+f) (by rw[P.out];rfl) (by rw[P.out];rfl) (by omega) ?_;intro C o;have l:=JE o;clear o;have d:By 5 C w.heap.size (List.replicate (9+f) 0):=(by rw[l.out];exact By.fresh _ _ _);have r:Kp w C:=(by rw[l.out];exact(NQ w).alloc _);have O:=d.cell 0 (by simp;omega);have N:=d.frozen 0)
  have u:By 5 (C.setCell ⟨w.heap.size,0,none⟩ (.int .u8 128)) w.heap.size (aM (List.replicate (9+f) 0) (pad n) (1+f)):=d.set 0 128 U.out;have q:Kp w (C.setCell ⟨w.heap.size,0,none⟩ (.int .u8 128)):=Below.setCell r (by simp) _;clear d r O N l t s;go_loopw[22] (λi wr=>∃ k:Nat,k<=8/\i=.int .i64 k/\By 5 wr w.heap.size (aM (List.replicate (9+f) 0) (pad n) (1+f+k))/\Kp w wr) (λi _=>8 - (intOf i).toNat)
  case atStart=>exact⟨0,by omega,rfl,u,q⟩
  case round=>
   clear u q;obtain⟨k,Y,rfl,y,p⟩:=hrel;by_cases F:k<8
   ·have a:=io (List.replicate (9+f) 0) (pad n) (1+f+k) (by rw[B.out];simp) (by simp;omega) _ (V.out k F)
    have g:(aM (List.replicate (9+f) 0) (pad n) (1+f+k)).length=9+f:=by rw[fX _ _ _ (by rw[B.out];simp) (by simp;omega)];simp
    have O:=y.cell (1+f+k) (by rw[g];omega);have N:=y.frozen (1+f+k);have e1:(8*(7 - (k:Int))).toNat=8*(7 - k):=by omega
    have T:(8*(n:Int)) / 2 ^ (8*(7 - k))=((8*n / 256 ^ (7 - k):Nat):Int):=by
     have:(256:Nat) ^ (7 - k)=2 ^ (8*(7 - k)):=by rw[Nat.pow_mul]
     rw[this];simp
    obtain⟨X,M⟩:∃ X,8*n / 256 ^ (7 - k)=X:=⟨_,rfl⟩;rw[M] at T a;have K:((UInt8.ofNat X).toNat:Int)=(X:Int) % 256:=by simp
    have R:(1+(f:Int)+(k:Int))<9+(f:Int):=by omega
    have Q:(1+(f:Int)+(k:Int)).toNat=1+f+k:=by omega
    have H7:(0:Int)<=7 - (k:Int):=by omega
    have A:=JE (JN a K);clear a M g K;go_wp2_with fail;go_roundw
    case rel=>
     refine⟨k+1,by omega,by go_num,?_,Below.setCell p (by simp) _⟩;have h:=y.set (1+f+k) (UInt8.ofNat X) A.out.1;rw[A.out.2] at h;exact h
    case measure=>simp[intOf];omega
   ·obtain rfl:k=8:=by omega
    have L:aM (List.replicate (9+f) 0) (pad n) (1+f+8)=pad n:=by
     rw[show 1+f+8=(pad n).length by rw[B.out];omega];exact jG _ _ (by rw[B.out];simp)
    rw[L] at y;clear L;go_wp2_with fail;go_ret;exact⟨⟨_,rfl,y.rdAll (by rw[B.out]) (JO _) (by unfold maxLen;omega)⟩,p⟩
 ·have D:jH n=[]:=if_neg m
  rw[D];by_cases h:n<0
  ·go_enter func249,ntmps249
   go_wp2;go_ret;exact⟨⟨_,rfl,none,0,rfl,JO _,JW _,λ_=>rfl,λx E=>by cases E⟩,NQ _⟩
  ·have Z:1125899906842624<n:=by omega
   clear m;go_enter func249,ntmps249;go_wp2;go_ret;exact⟨⟨_,rfl,none,0,rfl,JO _,JW _,λ_=>rfl,λx E=>by cases E⟩,NQ _⟩
theorem AV (n:Int)(w:World):
  Calls prog 223 #[.int .i64 n] w λe w'=>(∃ v,e=.returned v/\Rd w' v (jH n))/\Kp w w':=by
 have U:=aj;by_cases t:0<=n/\n<=1125899906842624
 ·have s:jH n=pad n.toNat:=if_pos t
  rw[s];clear s;obtain⟨t,S⟩:=t;obtain⟨n,rfl⟩:=Kc t;rw[JX];obtain⟨f,D⟩:∃ f,fill n=f:=⟨_,rfl⟩;have H:=lB n;have z:∀ k:Nat,k<=f->(((n:Int)+((k:Int)+1)+8) % 64=0↔k=f):=λk J=>by
   have:f=(119 - n % 64) % 64:=D.symm;omega
  have s:pad n=128 :: List.replicate f 0++be 8 (8*n):=by unfold pad;rw[D]
  rw[D] at H;have C:=JE z;have W:=JE s;have HB:=JE S;have hw:IntKind.i64.wrap (8*(n:Int))=8*(n:Int):=by rw[Nf];omega
  clear D z s;go_enter func223,ntmps223;go_wp2_with fail;go_loopw[3] (λv wr=>∃ k:Nat,k<=f/\Ow 5 wr w.heap.size v (128 :: List.replicate k 0)/\Kp w wr) (λv wr=>f - (match v with|.slice _ n _=>n - 1|_=>0))
  case atStart=>exact⟨0,by omega,NT w 5 w.heap.size 1 _ [128] (JO _) rfl (by decide) rfl,(NQ w).alloc _⟩
  case round=>
   obtain⟨k,J,d,g⟩:=hrel;obtain⟨a,c,rfl,B,A⟩:=d.rd.shape;have P:(128 :: List.replicate k 0:List UInt8).length=k+1:=by simp
   rw[P] at d B ⊢;unfold maxLen at A;by_cases p:k<f
   ·have u:¬((n:Int)+((k:Int)+1)+8) % 64=0:=by rw[C.out k J];omega
    go_wp2_with(at_builtin;refine bw U rfl _ _ rfl w.heap.size _ _ rfl (d.kp ((NQ _).alloc _)) _ [0] rfl (Rd.box _ _ _ 0 rfl) ?c1 ?c2 ?_;rotate_right;intro M w2 l G _)
    case c1=>simp;omega
    case c2=>have:=g.size;simp;omega
    have R:(128 :: List.replicate k 0++[0]:List UInt8)=128 :: List.replicate (k+1) 0:=by rw[Nc,Ll]
    rw[R] at l;go_roundw
    case rel=>exact⟨k+1,by omega,l,NS (g.alloc _) G d.own_ge⟩
    case measure=>
     obtain⟨a',c',rfl,_,_⟩:=l.rd.shape;simp;omega
   ·obtain rfl:k=f:=by omega
    have u:((n:Int)+((k:Int)+1)+8) % 64=0:=(C.out k (JO _)).2 rfl;clear p;go_wp2_with fail;go_loopw[3,5] (λv i wr=>∃ j:Nat,j<=8/\i=.int .i64 (56 - 8*(j:Int))/\Ow 5 wr w.heap.size v (128 :: List.replicate k 0++(be 8 (8*n)).take j)/\Kp w wr) (λ_ i _=>(64+intOf i).toNat)
    case atStart=>exact⟨0,by omega,rfl,by rw[LZ,Lr];exact d,g⟩
    case round=>
     clear d g u B A;obtain⟨j,hj,rfl,d,g⟩:=hrel;by_cases p:j<8
     ·have T:(8*(n:Int)) / 2 ^ (56 - 8*j)=((8*n / 256 ^ (7 - j):Nat):Int):=by
       have:(256:Nat) ^ (7 - j)=2 ^ (56 - 8*j):=by rw[show 56 - 8*j=8*(7 - j) by omega,Nat.pow_mul]
       rw[this];simp
      have e1:(56 - 8*(j:Int)).toNat=56 - 8*j:=by omega
      have Q:0<=56 - 8*(j:Int):=by omega
      have m:=rj 8 (8*n) j p;have o:(be 8 (8*n)).take (j+1)=(be 8 (8*n)).take j++[UInt8.ofNat (8*n / 256 ^ (7 - j))]:=by
       have r:j<(be 8 (8*n)).length:=by rw[bq];exact p
       rw[JZ r];rw[JG r] at m;rw[Ms m]
      obtain⟨X,K⟩:∃ X,8*n / 256 ^ (7 - j)=X:=⟨_,rfl⟩;rw[K] at T o;obtain⟨E,q⟩:∃ b:UInt8,UInt8.ofNat X=b:=⟨_,rfl⟩;have N:(X:Int) % 256=(E.toNat:Int):=by rw[<-q];simp
      rw[q] at o;have y:(128 :: List.replicate k 0++(be 8 (8*n)).take j:List UInt8).length<=100:=by simp[bq];omega
      have V:=JE o;obtain⟨L,I⟩:∃ L,(128 :: List.replicate k 0++(be 8 (8*n)).take j:List UInt8)=L:=⟨_,rfl⟩;rw[I] at d y;have Y:=JE I;have O:IntKind.u8.wrap (X:Int)=(E.toNat:Int):=by rw[LC,N]
      have Z:=JE q;clear o m K I q;go_wp2_with(at_builtin;refine bw U rfl _ _ rfl w.heap.size _ _ rfl (d.kp ((NQ _).alloc _)) _ [E] rfl (Rd.box _ _ _ E rfl) ?c1 ?c2 ?_;rotate_right;intro M w2 l G _)
      case c1=>simp;omega
      case c2=>have:=g.size;simp;omega
      go_roundw
      case rel=>exact⟨j+1,by omega,by congr 1;omega,by rw[V.out,<-LQ,Y.out];exact l,NS (g.alloc _) G d.own_ge⟩
      case measure=>simp[intOf];omega
     ·obtain rfl:j=8:=by omega
      rw[Ku (by rw[bq];exact JO _)] at d;rw[<-W.out] at d;go_wp2_with fail;go_ret;exact⟨⟨_,rfl,d.rd⟩,g⟩
 ·have s:jH n=[]:=if_neg t
  rw[s];by_cases h:n<0
  ·go_enter func223,ntmps223
   go_wp2;go_ret;exact⟨⟨_,rfl,none,0,rfl,JO _,JW _,λ_=>rfl,λx F=>by cases F⟩,NQ _⟩
  ·have h2:1125899906842624<n:=by omega
   clear t;go_enter func223,ntmps223;go_wp2;go_ret;exact⟨⟨_,rfl,none,0,rfl,JO _,JW _,λ_=>rfl,λx F=>by cases F⟩,NQ _⟩
theorem fe (x:Int)(b:0<=x)(a:x<18446744073709551616):IntKind.u64.wrap x=x:=by
 simp[IntKind.wrap,IntKind.bits,IntKind.signed];omega
theorem Bh (n:Nat)(w:World)(G:1<=n)(v:(n:Int)<9223372036854775808):
  Calls prog 271 #[.int .u64 n] w λe w'=>e=.returned (.int .u64 (ej n))/\w=w':=by
 obtain⟨R,o⟩:∃ R,ej n=R:=⟨_,rfl⟩;rw[o];unfold ej at o;have y:=JE o;clear o;go_enter func271,ntmps271;go_wp2_with fail;go_loopw[3] (λx wr=>(∃ k:Nat,x=.int .u64 k/\1<=k/\(k:Int)<=2097152/\∃ f,k<=f/\iq f n k=R)/\wr=w) (λx _=>(intOf x).toNat)
 case atStart=>exact⟨⟨2097152,rfl,by decide,by decide,2097152,JO _,y.out⟩,rfl⟩
 case round=>
  obtain⟨⟨k,rfl,d,a,f,E,u⟩,rfl⟩:=hrel;have z:=JE u;have D:(1:Int)<=(k:Int)*(k:Int):=by
   have:=LS d d;have r:((1*1:Nat):Int)<=((k*k:Nat):Int):=by omega
   rwa [LB] at r
  have b:(k:Int)*(k:Int)<=4398046511104:=by
   have r:=Int.mul_le_mul a a (by omega) (by omega);exact r
  have C:¬(k:Int)*(k:Int)=0:=by omega
  have J:IntKind.u64.wrap (2*(k:Int))=2*(k:Int):=fe _ (by omega) (by omega);have I:IntKind.u64.wrap ((k:Int)*(k:Int))=(k:Int)*(k:Int):=fe _ (by omega) (by omega);have F:0<=(n:Int) / ((k:Int)*(k:Int)):=Int.ediv_nonneg (by omega) (by omega);have p:(n:Int) / ((k:Int)*(k:Int))<=(n:Int):=Int.ediv_le_self _ (by omega);have H:IntKind.u64.wrap (2*(k:Int)+(n:Int) / ((k:Int)*(k:Int)))=2*(k:Int)+(n:Int) / ((k:Int)*(k:Int)):=fe _ (by omega) (by omega);have K:IntKind.u64.wrap ((n:Int) / ((k:Int)*(k:Int)))=(n:Int) / ((k:Int)*(k:Int)):=fe _ (by omega) (by omega);have t:(2*(k:Int)+(n:Int) / ((k:Int)*(k:Int))).tdiv 3=((fB n k:Nat):Int):=by
   rw[Kx (by omega)];unfold fB;simp
  have i:=uE n k G d;have h:((fB n k:Nat):Int)<18446744073709551616:=by
   rw[<-t,Kx (by omega)];omega
  have A:IntKind.u64.wrap ((fB n k:Nat):Int)=((fB n k:Nat):Int):=fe _ (by omega) h;obtain⟨q,c⟩:∃ q,fB n k=q:=⟨_,rfl⟩;rw[c] at t i A;have s:=JE c;have B:=JE (JN a (JN b v));clear u a b v y p h c;by_cases j:k<=q
  ·go_wp2_with fail
   go_ret;exact⟨by rw[<-z.out,AW f n k (by rw[s.out];exact j)];rfl,rfl⟩
  ·go_wp2_with fail
   go_roundw
   case rel=>
    obtain⟨g,m,l⟩:=AX f n k E (by rw[s.out];exact j);have:=B.out.1;rw[s.out] at m l;exact⟨⟨q,rfl,i,by omega,g,m,l.trans z.out⟩,trivial⟩
   case measure=>simp[intOf];omega
theorem Bi (p:Nat)(w:World)(M:1<=p)(I:p<312):
  Calls prog 265 #[.int .u64 p] w λe w'=>e=.returned (.int .u32 (aa (mQ p)))/\w=w':=by
 have a:rm p=true:=(AY ⟨p,I⟩).resolve_left (by simp;omega);unfold rm at a;simp only[LV,decide_eq_true_eq] at a;obtain⟨t,s⟩:=a;have z:((cQ p:Nat):Int)=(p:Int)*18014398509481984:=by unfold cQ;simp
 have n:=uF 2097152 (cQ p) 2097152 (by unfold cQ;omega) (by decide);have m:mQ p=UInt32.ofNat (rl p):=rfl;have C:rl p=ej (cQ p)*16384+mP p*16384 / (3*ej (cQ p)*ej (cQ p)):=rfl;have q:mP p=cQ p - ej (cQ p)*ej (cQ p)*ej (cQ p):=rfl;change 1<=ej (cQ p)/\ej (cQ p)<=2097152 at n;have i:((cQ p:Nat):Int)<9223372036854775808:=by rw[z];omega
 have j:1<=cQ p:=by unfold cQ;omega
 have J:=JE (Bh (cQ p));rw[C] at m;generalize ej (cQ p)=x at *;generalize cQ p=N at *;generalize mP p=r at *;clear C;have E:(1:Int)<=(x:Int):=by omega
 have b:(x:Int)<=2097152:=by omega
 have D:(1:Int)<=(x:Int)*(x:Int):=by
  have:=LS n.1 n.1;have l:((1*1:Nat):Int)<=((x*x:Nat):Int):=by omega
  rwa [LB] at l
 have c:(x:Int)*(x:Int)<=4398046511104:=by
  have l:=Int.mul_le_mul b b (by omega) (by omega);exact l
 have o:(x:Int)*(x:Int)*(x:Int)<=(N:Int):=by
  have l:((x*x*x:Nat):Int)<=(N:Int):=by omega
  rwa [LB,LB] at l
 have f:0<=(x:Int)*(x:Int)*(x:Int):=Int.mul_nonneg (by omega) (by omega);have k:3*(x:Int)*(x:Int)=3*((x:Int)*(x:Int)):=by rw[Int.mul_assoc]
 have A:IntKind.u64.wrap ((p:Int)*18014398509481984)=(N:Int):=by rw[<-z];exact fe _ (by omega) (by omega)
 have P:IntKind.u64.wrap ((x:Int)*(x:Int))=(x:Int)*(x:Int):=fe _ (by omega) (by omega);have O:IntKind.u64.wrap ((x:Int)*(x:Int)*(x:Int))=(x:Int)*(x:Int)*(x:Int):=fe _ f (by omega);have g:(r:Int)=(N:Int) - (x:Int)*(x:Int)*(x:Int):=by
  have:((x*x*x:Nat):Int)=(x:Int)*(x:Int)*(x:Int):=by rw[LB,LB]
  omega
 have R:IntKind.u64.wrap ((N:Int) - (x:Int)*(x:Int)*(x:Int))=(r:Int):=by rw[<-g];exact fe _ (by omega) (by omega)
 have V:IntKind.u64.wrap ((x:Int)*16384)=(x:Int)*16384:=fe _ (by omega) (by omega);have T:IntKind.u64.wrap ((r:Int)*16384)=(r:Int)*16384:=fe _ (by omega) (by omega);have S:IntKind.u64.wrap (3*(x:Int))=3*(x:Int):=fe _ (by omega) (by omega);have Q:IntKind.u64.wrap (3*(x:Int)*(x:Int))=3*(x:Int)*(x:Int):=fe _ (by omega) (by omega);have G:¬(3*(x:Int)*(x:Int)=0):=by omega
 have v:0<=(r:Int)*16384 / (3*(x:Int)*(x:Int)):=Int.ediv_nonneg (by omega) (by omega);have h:(r:Int)*16384 / (3*(x:Int)*(x:Int))<=(r:Int)*16384:=Int.ediv_le_self _ (by omega);have H:((r:Int)*16384).tdiv (3*(x:Int)*(x:Int))=(r:Int)*16384 / (3*(x:Int)*(x:Int)):=Kx (by omega);obtain⟨d,y⟩:∃ d:Nat,r*16384 / (3*x*x)=d:=⟨_,rfl⟩;have u:(r:Int)*16384 / (3*(x:Int)*(x:Int))=(d:Int):=by rw[<-y];simp
 rw[u] at v h H;rw[y] at m;have X:IntKind.u64.wrap (d:Int)=(d:Int):=fe _ (by omega) (by omega);have W:IntKind.u64.wrap ((x:Int)*16384+(d:Int))=(x:Int)*16384+(d:Int):=fe _ (by omega) (by omega);have U:IntKind.u32.wrap ((x:Int)*16384+(d:Int))=aa (mQ p):=by
  rw[m,uv,Mx];simp
 have L:=JE i;have K:=JE j;have B:0<=(x:Int)*(x:Int):=by omega
 have F:0<=(p:Int):=by omega
 clear i j b c o t s z m q n g k y h;go_enter func265,ntmps265;go_wp2_with fail;refine(J.out _ K.out L.out).mono ?_;rintro e w' ⟨rfl,rfl⟩;go_wp2_with fail;go_ret;exact⟨rfl,rfl⟩
section
open Go.Shelf
attribute [local go_sem] Oper.semAt_some
def Br (T:TypeId)(w:World)(g:Nat)(l:List Bool):Prop:=w.heap[g]?=some (.cells (l.map Value.bool).toArray T (0,0))
theorem Br.lt (h:Br T w g l):g<w.heap.size:=(JK.1 h).1
theorem Br.cell (h:Br T w g l)(i:Nat)(a:i<l.length):w.cell? ⟨g,i,none⟩=some (.bool (l.getD i false)):=by
 rw[cell_of_row w g i _ T _ h];simp[a]
theorem Br.frozen (h:Br T w g l)(i:Nat):w.frozen? ⟨g,i,none⟩=false:=by
 have a:=h;unfold Br at a;simp[World.frozen?,a]
theorem Br.set (h:Br T w g l)(i:Nat)(x:Bool):Br T (w.setCell ⟨g,i,none⟩ (.bool x)) g (l.set i x):=by
 have c:=h;unfold Br at c ⊢;obtain⟨a,b⟩:=JK.1 c;simp[World.setCell,a,Mm,b,List.map_set]
theorem Br.new (T:TypeId)(w:World)(cs:Array Value)(l:List Bool)(h:cs=(l.map Value.bool).toArray):Br T (w.alloc (.cells cs T)) w.heap.size l:=by
 subst h;exact heap_alloc_new w _
theorem Bj (m:Nat)(z:1<=m)(X:Nat->Prop)(w:World)(hX:∀ k,X k->k<w.heap.size):
  qN Fence.wide m prog 264 #[] (λi=>#[.int .u64 (iM i)]) 64 X w:=by
 intro l J W hb af ae hJ hY h0;have HJ:=JE hJ;have HY:=JE hY;have HX:=JE hX;clear hJ hY hX;refine callsIn_of_wp func264 rfl trivial ?_ rfl;simp only[ntmps264,Lj,Lr,Lk,Ka,Kf,Nat.reduceAdd,Nat.reduceSub,Lg,Lh,Lq,La,Ll];gi_wp2
 have E:Br 292 (W.alloc (.cells (List.replicate 312 (Value.bool false)).toArray 292)) W.heap.size (cW 2).D:=Br.new _ _ _ _ rfl;gi_loopw [3] (λp wr=>∃ q:Nat,2<=q/\q<=312/\p=.int .u64 q/\Br 292 wr W.heap.size (cW q).D/\J (cW q).ps.length wr) (λp _=>312 - (intOf p).toNat)
 case atStart=>exact⟨2,by omega,by omega,rfl,E,HJ.out _ _ _ h0 ((Below.refl _ W).alloc (JO _) _)⟩
 case round=>
  clear E;obtain⟨q,y,P,rfl,F,c⟩:=hrel;by_cases R:q<312
  ·have b:=oX q
   have I:=F.cell q (by omega);have ad:(q:Int)<312:=by omega
   rcases hdv:(cW q).D.getD q false with _|_
   ·have a:=(Be ⟨q,R⟩).resolve_left (by rw[hdv];decide)
    have Q:=a.resolve_left (by simp;omega);obtain⟨H,o⟩:=Q;simp only at H o;obtain⟨fn,tmps,N,ab,hy,hR⟩:=HY.out (cW q).ps.length wr o c;rw[H] at hy;have HT:=JE (Bg q hdv y);have HP:=JE H;rw[hdv] at I;have HD:=JE hdv;have HL:=JE b;clear hdv H a o b;gi_wp2
    refine hR.mono ?_;rintro e W3 ⟨rfl,B,s⟩;have C:Br 292 W3 W.heap.size (cW q).D:=
     (s.block _ F.lt (λh=>h.elim (λe=>by omega) (λhx=>by have:=HX.out _ hx;have:=hb.size;omega))).trans F
    clear hR s F c I;have t:0<=(q:Int)*(q:Int):=Int.mul_nonneg (by omega) (by omega);have u:(q:Int)*(q:Int)<=97344:=by
     have h2:=Int.mul_le_mul (show(q:Int)<=312 by omega) (show(q:Int)<=312 by omega) (by omega) (by omega);exact h2
    have d:IntKind.u64.wrap ((q:Int)*(q:Int))=((q*q:Nat):Int):=by rw[fe _ (by omega) (by omega)];simp
    obtain⟨M,K⟩:∃ M,gJ 312 q (q*q) (cW q).D=M:=⟨_,rfl⟩;have v:((q*q:Nat):Int)<=97344:=by rw[LB];exact u
    obtain⟨k0,A⟩:∃ k,q*q=k:=⟨_,rfl⟩;have G:Hid (cW (q+1)=⟨M,(cW q).ps++[q]⟩):=JE (by rw[HT.out,K]);rw[A] at d K v;have O:=JE K;clear A K u t HT;gi_wp2
    gi_loopw [4] (λx wq=>∃ k:Nat,(k:Int)<=100000/\x=.int .u64 k/\(∃ f r,Br 292 wq W.heap.size r/\r.length=312/\gJ f q k r=M/\312<=f+k)/\J ((cW q).ps.length+1) wq) (λx _=>312 - (intOf x).toNat)
    case atStart=>exact⟨k0,by omega,rfl,⟨312,(cW q).D,C,HL.out,O.out,by omega⟩,B⟩
    case round=>
     clear C B O d v;obtain⟨k,ah,rfl,⟨f,r,L,S,z,hf⟩,c⟩:=hrel;by_cases j:k<312
     ·have I:=L.cell k (by omega)
      have ai:=L.frozen k;have ag:(k:Int)<312:=by omega
      have aa:IntKind.u64.wrap ((k:Int)+(q:Int))=(k:Int)+(q:Int):=fe _ (by omega) (by omega);have O:=JE z;have Z:=JE S;clear z S;gi_wp2
      go_roundw
      case rel=>
       obtain⟨g,Y,V⟩:=Ba f q k r j (by omega) hf;exact⟨k+q,by omega,by simp,⟨g,r.set k true,L.set k true,by rw[Km];exact Z.out,V.trans O.out,Y⟩,HJ.out _ _ _ c ((Below.refl _ _).setCell (by simp) _)⟩
      case measure=>simp[intOf];omega
     ·have HE:=JE ((AZ f q k r j).symm.trans z)
      have U:¬(k:Int)<312:=by omega
      clear z S;gi_wp2
      go_roundw
      case rel=>
       refine⟨q+1,by omega,by omega,by simp,?_,?_⟩
       ·rw[G.out,<-HE.out];exact L
       ·rw[G.out];simpa using c
      case measure=>simp[intOf];omega
   ·have HS:=JE (Bf q hdv y)
    rw[hdv] at I;clear hdv b;gi_wp2
    go_roundw
    case rel=>exact⟨q+1,by omega,by omega,by simp,by rw[HS.out];exact F,by rw[HS.out];exact c⟩
    case measure=>simp[intOf];omega
  ·have n:q=312:=by omega
   have T:J 64 wr:=by rw[n,Bb] at c;exact c
   have U:¬(q:Int)<312:=by omega
   clear n c P;gi_wp2
   go_end0
   exact⟨⟨_,rfl⟩,T⟩
end
attribute [local go_sem] kn oT mL oU oV mM jF
def bf (n:Nat):List UInt32:=List.replicate n 0
theorem iN (n:Nat):(bf n).length=n:=by simp[bf]
theorem ir (l:List UInt8):∀ t,(dJ l t).length=t
 | 0=>rfl
 | t+1=>by simp[dJ,ir l t]
def bR (l:List UInt8)(t:Nat):List UInt32:=dJ l t++bf (64 - t)
theorem mR (l:List UInt8)(t:Nat)(h:t<=64):(bR l t).length=64:=by simp[bR,ir,iN];omega
theorem oY (l:List UInt8)(t:Nat)(h:t<64):(bR l t).set t (iK l (dJ l t) t)=bR l (t+1):=by
 unfold bR bf;rw[MR _ _ (by rw[ir];omega),ir,Mq,show 64 - t=(64 - (t+1))+1 by omega,List.replicate_succ];simp[dJ]
theorem jK (l:List UInt8)(t i:Nat)(h:i<t):(bR l t).getD i 0=(dJ l t).getD i 0:=by
 unfold bR;rw[JF,Kt (by rw[ir];exact h),JF]
theorem uH (l:List UInt8):bR l 64=dJ l 64:=by simp[bR,bf]
theorem Bk (n:Nat):aY (bf n)=Array.replicate n (.int .u32 0):=by
 apply Array.ext';simp[aY,bf,mN,aa]
theorem fY (n:Int)(b:0<=n)(a:n<2 ^ 32):IntKind.u32.wrap n=n:=by rw[Mx];omega
theorem Bl (a b c d:UInt8):
  (IntKind.u32.wrap (ub a)=ub a/\IntKind.u32.wrap (ub b)=ub b/\IntKind.u32.wrap (ub c)=ub c/\IntKind.u32.wrap (ub d)=ub d) /\
  (IntKind.u32.wrap (ub a*16777216)=ub a*16777216/\IntKind.u32.wrap (ub b*65536)=ub b*65536/\IntKind.u32.wrap (ub c*256)=ub c*256) /\
  (bits .or .u32 (ub a*16777216) (ub b*65536)=ub a*16777216+ub b*65536 /\
   bits .or .u32 (ub a*16777216+ub b*65536) (ub c*256)=ub a*16777216+ub b*65536+ub c*256 /\
   bits .or .u32 (ub a*16777216+ub b*65536+ub c*256) (ub d)=aa (il a b c d)):=by
 have e:=uC a b c d;have m:=jI a;have k:=jI b;have i:=jI c;have g:=jI d;have l:=jJ a;have j:=jJ b;have h:=jJ c;have f:=jJ d;refine⟨⟨fY _ (by omega) (by omega),fY _ (by omega) (by omega),fY _ (by omega) (by omega),fY _ (by omega) (by omega)⟩,
  ⟨fY _ (by omega) (by omega),fY _ (by omega) (by omega),fY _ (by omega) (by omega)⟩,?_,?_,?_⟩
 ·exact bits_join .u32 32 (by decide) fY 24 _ _ (by omega) (by omega) (by omega) (by omega) (by omega) (by omega)
 ·exact bits_join .u32 32 (by decide) fY 16 _ _ (by omega) (by omega) (by omega) (by omega) (by omega) (by omega)
 ·rw[bits_join .u32 32 (by decide) fY 8 _ _ (by omega) (by omega) (by omega) (by omega) (by omega) (by omega),e]
def got (W:World)(p:Addr):Value:=(W.cell? p).getD undef
def So (T:TypeId)(w:World)(g:Nat)(L:List UInt32)(t:Nat)(W:World):Prop:=∃ x,Arr T W (g+1) (L.set t x)/\Arr T W g (bf 64)/\Below g w W
theorem So.start (c:t<L.length)(h:Arr T W (g+1) L)(b:Arr T W g (bf 64))(a:Below g w W):So T w g L t W:=
 ⟨L[t],by rw[Mz];exact h,b,a⟩
theorem So.drewN (h:So T w g L t W)(n:Nat):So T w g L t (W.drewN n):=by
 obtain⟨x,c,a,b⟩:=h;exact⟨x,c.drewN n,a.drewN n,b.trans ((NQ W).drewN n |>.mono (by have:=a.lt;omega))⟩
theorem So.drew (h:So T w g L t W):So T w g L t W.drew:=h.drewN 1
theorem So.set (h:So T w g L t W)(y:UInt32):So T w g L t (W.setCell ⟨g+1,t,none⟩ (.int .u32 (aa y))):=by
 obtain⟨x,c,b,a⟩:=h;refine⟨y,?_,b.other _ _ (by simp),a.setCell (p:=⟨g+1,t,none⟩) (by simp) _⟩;have:=c.set t y _ rfl;rwa [List.set_set] at this
theorem So.facts (q:t<L.length)(m:16<=t)(j f b a:UInt32)(p:L.getD (t - 2) 0=j)(o:L.getD (t - 7) 0=f)(e:L.getD (t - 15) 0=b)(d:L.getD (t - 16) 0=a)
  (h:So T w g L t W):W.cell? ⟨g+1,t - 2,none⟩=some (.int .u32 (aa j))/\W.cell? ⟨g+1,t - 7,none⟩=some (.int .u32 (aa f))/\W.cell? ⟨g+1,t - 15,none⟩=some (.int .u32 (aa b))/\W.cell? ⟨g+1,t - 16,none⟩=some (.int .u32 (aa a)) /\
   W.cell? ⟨g+1,t,none⟩=some (got W ⟨g+1,t,none⟩)/\W.frozen? ⟨g+1,t,none⟩=false/\So T w g L t W:=by
 have n:=h;obtain⟨x,c,u,s⟩:=n;have l:(L.set t x).length=L.length:=by simp
 have k:∀ i,i<t->W.cell? ⟨g+1,i,none⟩=some (.int .u32 (aa (L.getD i 0))):=λi r=>by
  have:=c.cell i (by rw[l];omega);rw[this,JF,List.getElem?_set_ne (by omega),JF]
 subst p o e d;refine⟨k _ (by omega),k _ (by omega),k _ (by omega),k _ (by omega),?_,c.frozen t (by omega),h⟩;have:=c.cell t (by omega);unfold got;rw[this];rfl
theorem Bm (v:Value)(l:List UInt8)(w:World)(h:Rd w v l)(hl:l.length=64):
  Calls prog 267 #[v] w λe w'=>e=.returned (.agg (aY (dJ l 64)))/\Kp w w':=by
 obtain⟨a,c,rfl,h1,h2⟩:=h.shape;rw[hl] at h h1 ⊢;unfold maxLen at h2;obtain⟨b,V,rfl,hb,r⟩:=h.row (by omega);go_enter func267,ntmps267;go_wp2_with fail;go_loopw[7] (λi wr=>∃ t:Nat,t<=16/\i=.int .i64 t/\Arr 264 wr w.heap.size (bf 64)/\Arr 264 wr (w.heap.size+1) (bR l t)/\Kp w wr) (λi _=>16 - (intOf i).toNat)
 case atStart=>
  refine⟨0,by omega,rfl,?_,?_,((NQ w).alloc _).alloc _⟩
  ·exact(Of _ _ _ (bf 64) rfl).alloc _
  ·have:=Of 264 (w.alloc (.cells (aY (bf 64)) 264)) (aY (bf 64)) (bR l 0) rfl
   rw[JY] at this;exact this
 case round=>
  obtain⟨t,N,rfl,f,j,g⟩:=hrel;by_cases k:t<16
  ·have c0:=g.cell (r (4*t) (by omega))
   have c1:=g.cell (r (4*t+1) (by omega));have c2:=g.cell (r (4*t+2) (by omega));have c3:=g.cell (r (4*t+3) (by omega));have y:iK l (dJ l t) t=il (l.getD (4*t) 0) (l.getD (4*t+1) 0) (l.getD (4*t+2) 0) (l.getD (4*t+3) 0):=by unfold iK;rw[if_pos k]
   have d:=(oY l t (by omega));rw[y] at d;have B:=j.set t (il (l.getD (4*t) 0) (l.getD (4*t+1) 0) (l.getD (4*t+2) 0) (l.getD (4*t+3) 0)) _ rfl;rw[d] at B;have A:=f.other ⟨w.heap.size+1,t,none⟩ (.int .u32 (aa (il (l.getD (4*t) 0) (l.getD (4*t+1) 0) (l.getD (4*t+2) 0) (l.getD (4*t+3) 0)))) (by simp);have D:=Below.setCell g (p:=⟨w.heap.size+1,t,none⟩) (by simp) (.int .u32 (aa (il (l.getD (4*t) 0) (l.getD (4*t+1) 0) (l.getD (4*t+2) 0) (l.getD (4*t+3) 0))));have ca:=j.cell t (by rw[mR l t (by omega)];omega);have cf:=j.frozen t (by rw[mR l t (by omega)];omega);generalize l.getD (4*t) 0=Q at *;generalize l.getD (4*t+1) 0=P at *;generalize l.getD (4*t+2) 0=C at *;generalize l.getD (4*t+3) 0=O at *;obtain⟨⟨v0,v1,v2,v3⟩,⟨m0,m1,m2⟩,o1,o2,o3⟩:=Bl Q P C O;simp only[<-Mn] at c1 c2 c3;have H:=JE d;have e4:4*t+4 - 4*t=4:=by omega
   clear r d y;go_wp2_with fail;rw[e4];have M:(t:Int)<64:=by omega
   go_still_tail 24,(by kernel_rfl)
   go_wp2_with fail;go_roundw
   case rel=>exact⟨t+1,by omega,by go_num,A.drew,B.drew,D.drew⟩
   case measure=>simp[intOf];omega
  ·obtain rfl:t=16:=by omega
   clear r k N;go_wp2_with fail;go_loopw[6] (λi wr=>∃ t:Nat,16<=t/\t<=64/\i=.int .i64 t/\Arr 264 wr w.heap.size (bf 64)/\Arr 264 wr (w.heap.size+1) (bR l t)/\Kp w wr) (λi _=>64 - (intOf i).toNat)
   case atStart=>exact⟨16,by omega,by omega,rfl,f,j,g⟩
   case round=>
    clear f j g;obtain⟨t,E,N,rfl,f,j,g⟩:=hrel;by_cases k:t<64
    ·have z:=mR l t (by omega)
     have y:iK l (dJ l t) t=dj (dj (dj (small 17 19 10 ((bR l t).getD (t - 2) 0)) ((bR l t).getD (t - 7) 0)) (small 7 18 3 ((bR l t).getD (t - 15) 0))) ((bR l t).getD (t - 16) 0):=by
      unfold iK;rw[if_neg (by omega),jK l t _ (by omega),jK l t _ (by omega),jK l t _ (by omega),jK l t _ (by omega)]
     have d:=(oY l t (by omega));rw[y] at d;obtain⟨C,I⟩:∃ x,(bR l t).getD (t - 2) 0=x:=⟨_,rfl⟩;obtain⟨L,G⟩:∃ x,(bR l t).getD (t - 7) 0=x:=⟨_,rfl⟩;obtain⟨u,o⟩:∃ x,(bR l t).getD (t - 15) 0=x:=⟨_,rfl⟩;obtain⟨s,m⟩:∃ x,(bR l t).getD (t - 16) 0=x:=⟨_,rfl⟩;rw[I,G,o,m] at d;have F:∀ W,So 264 w w.heap.size (bR l t) t W->_:=λW h=>So.facts (by omega) E C L u s I G o m h
     have K:=JE F;have J:So 264 w w.heap.size (bR l t) t wr:=So.start (by omega) j f g;have i2:IntKind.i64.wrap ((t:Int) - 2)=(t:Int) - 2:=JI _ (by omega);have i7:IntKind.i64.wrap ((t:Int) - 7)=(t:Int) - 7:=JI _ (by omega);have ab:IntKind.i64.wrap ((t:Int) - 15)=(t:Int) - 15:=JI _ (by omega);have Z:IntKind.i64.wrap ((t:Int) - 16)=(t:Int) - 16:=JI _ (by omega);have n2:((t:Int) - 2).toNat=t - 2:=by omega
     have n7:((t:Int) - 7).toNat=t - 7:=by omega
     have Y:((t:Int) - 15).toNat=t - 15:=by omega
     have X:((t:Int) - 16).toNat=t - 16:=by omega
     have p2:(2:Int)<=(t:Int):=by omega
     have p7:(7:Int)<=(t:Int):=by omega
     have U:(15:Int)<=(t:Int):=by omega
     have T:(16:Int)<=(t:Int):=by omega
     have q2:(t:Int) - 2<64:=by omega
     have q7:(t:Int) - 7<64:=by omega
     have S:(t:Int) - 15<64:=by omega
     have R:(t:Int) - 16<64:=by omega
     have q:(t:Int)<64:=by omega
     have H:=JE d;clear d y z F I G o m;go_wp2_with fail;go_region_held3 (λW=>W.cell? ⟨w.heap.size+1,t - 2,none⟩=some (.int .u32 (aa C))/\W.cell? ⟨w.heap.size+1,t - 7,none⟩=some (.int .u32 (aa L))/\W.cell? ⟨w.heap.size+1,t - 15,none⟩=some (.int .u32 (aa u))/\W.cell? ⟨w.heap.size+1,t - 16,none⟩=some (.int .u32 (aa s))/\W.cell? ⟨w.heap.size+1,t,none⟩=some (got W ⟨w.heap.size+1,t,none⟩)/\W.frozen? ⟨w.heap.size+1,t,none⟩=false/\So 264 w w.heap.size (bR l t) t W)
      (first
       | (with_reducible exact K.out _ (J.drew))
       | (with_reducible exact K.out _ (J.drewN _))
       | (with_reducible exact K.out _ ((J.drewN _).set _)))
      (first
       | (go_at_call 272;(with_reducible refine(AQ _ _).mono ?_);rintro e w' ⟨rfl,n,rfl⟩)
       | (go_at_call 272;(with_reducible refine(AR _ _).mono ?_);rintro e w' ⟨rfl,n,rfl⟩))
     all_goals
      go_wp2_with fail;go_roundw
      case rel=>
       repeat apply Exists.intro
       refine⟨?_,rfl⟩;exact⟨t+1,by omega,by omega,by go_num,(f.drewN _).other _ _ (by simp),(j.drewN _).setTo t _ H.out,Below.setCell (g.drewN _) (by simp) _⟩
      case measure=>simp[intOf];omega
    ·obtain rfl:t=64:=by omega
     rw[uH] at j;have ad:=g.size;go_wp2_with(first
      | (refine jj underlying264 (by kernel_rfl) rfl (.tmp 3) rfl (w.heap.size+1) (dJ l 64) rfl j (ir l 64) ?_)
      | (refine uw (by kernel_rfl) rfl (.tmp 2) (.tmp 69) rfl w.heap.size (bf 64) (dJ l 64) rfl rfl f (iN 64) (ir l 64) ?_))
     refine bodyPost_ret (lA underlying264 (by kernel_rfl) rfl _ _ w.heap.size (dJ l 64) rfl (f.setRow _) (ir l 64)) rfl ?_;exact⟨rfl,below_setRow g (JO _) _⟩
theorem uI (x:UInt32):bits .xor .u32 IntKind.u32.max (aa x)=aa (uo x):=by
 have:IntKind.u32.max=aa 0xffffffff:=by decide
 rw[this,mL];rfl
attribute [local go_sem] uI
def mix (A B:List UInt32)(i:Nat):List UInt32:=B.take i++A.drop i
theorem ry (A B:List UInt32)(i:Nat)(h:A.length=B.length)(a:i<=A.length):(mix A B i).length=A.length:=by simp[mix];omega
theorem uJ (A B:List UInt32)(i:Nat)(h:A.length=B.length)(d:i<A.length)(x:UInt32)(a:B.getD i 0=x):(mix A B i).set i x=mix A B (i+1):=by
 unfold mix;have b:i<B.length:=by omega
 have c:(B.take i).length=i:=by simp;omega
 rw[JF,JG b] at a;rw[MR _ _ (by omega),c,Mq,LK d,JM,JZ b,LQ];simp only[Mt] at a;rw[a];rfl
theorem Bn (A B:List UInt32)(i:Nat)(h:A.length=B.length)(a:i<A.length):(mix A B i).getD i 0=A.getD i 0:=by
 unfold mix;have b:(B.take i).length=i:=by simp;omega
 rw[JF,Kn (by omega),b,Mq,LK a,JF,JG a];rfl
theorem Bo (s r:S8)(i:Nat)(h:i<8):(s.add r).list.getD i 0=dj (s.list.getD i 0) (r.list.getD i 0):=by
 match i,h with
 | 0,_=>rfl
 | 1,_=>rfl
 | 2,_=>rfl
 | 3,_=>rfl
 | 4,_=>rfl
 | 5,_=>rfl
 | 6,_=>rfl
 | 7,_=>rfl
theorem uK:∃ a,prog.info? 247=some a/\a.size=1:=by
 have h:(prog.info? 247).map (·.size)=some 1:=by kernel_rfl
 cases hq:prog.info? 247 with
 | none=>rw[hq] at h;cases h
 | some a=>rw[hq] at h;exact⟨a,rfl,by simpa using h⟩
theorem mS (s:S8)(v:Value)(l:List UInt8)(gk:Nat)(k:List UInt32)(w:World)(h:Rd w v l)(hl:l.length=64)(hk:Arr 264 w gk k)(S:k.length=64):
  Calls prog 248 #[.agg (aY s.list),v,.pointer (some ⟨gk,0,none⟩)] w λe w'=>e=.returned (.agg (aY (mK k s l).list))/\Kp w w':=by
 obtain⟨a,c,rfl,h1,h2⟩:=h.shape;rw[hl] at h h1 ⊢;have HL:=JE hl;have ag:=JE S;clear hl S;go_enter func248,ntmps248;go_wp2_with fail;refine(Bm _ l _ (h.kp (((NQ _).alloc _).alloc _)) HL.out).mono ?_;rintro e X ⟨rfl,A⟩;have B:Arr 252 X w.heap.size s.list:=((Of _ w (aY s.list) s.list rfl).alloc _).kp A;have O:Arr 252 X (w.heap.size+1) (bf 8):=by
  have:=Of 252 (w.alloc (.cells (aY s.list) 252)) (aY (bf 8)) (bf 8) rfl;rw[JY] at this;exact this.kp A
 have z:Kp w X:=(((NQ w).alloc _).alloc _).trans A;have G:=hk.kp z;go_wp2_with(first
  | (refine iL (by kernel_rfl) rfl rfl (.tmp 7) (.tmp 24) rfl X.heap.size (bf 64) (dJ l 64) rfl rfl (Of _ _ _ _ rfl) (iN 64) (ir l 64) ?_;intro w2 hW j))
 have m:=j.arr (B.alloc _) (by have:=B.lt;omega);have U:=j.arr (O.alloc _) (by have:=O.lt;omega);have T:=j.arr (G.alloc _) (by have:=G.lt;omega);have C:Kp w w2:=j.below (z.alloc _) (z.size);clear j B O G z A hk h;have c0:w2.cell? ⟨w.heap.size,0,none⟩=some (.int .u32 (aa s.a)):=m.cell 0 (Kj rfl);have c1:w2.cell? ⟨w.heap.size,1,none⟩=some (.int .u32 (aa s.b)):=m.cell 1 (Kj rfl);have c2:w2.cell? ⟨w.heap.size,2,none⟩=some (.int .u32 (aa s.c)):=m.cell 2 (Kj rfl);have c3:w2.cell? ⟨w.heap.size,3,none⟩=some (.int .u32 (aa s.d)):=m.cell 3 (Kj rfl);have c4:w2.cell? ⟨w.heap.size,4,none⟩=some (.int .u32 (aa s.e)):=m.cell 4 (Kj rfl);have c5:w2.cell? ⟨w.heap.size,5,none⟩=some (.int .u32 (aa s.f)):=m.cell 5 (Kj rfl);have c6:w2.cell? ⟨w.heap.size,6,none⟩=some (.int .u32 (aa s.g)):=m.cell 6 (Kj rfl);have c7:w2.cell? ⟨w.heap.size,7,none⟩=some (.int .u32 (aa s.h)):=m.cell 7 (Kj rfl);go_quiet (fail)
 clear c0 c1 c2 c3 c4 c5 c6 c7;go_wp2_with fail;obtain⟨N,Q⟩:∃ N,w2.drewN nq=N:=⟨_,rfl⟩;have M:=m.drewN nq;have K:=U.drewN nq;have H:=T.drewN nq;have I:=hW.drewN nq;have u:Kp w (w2.drewN nq):=C.drewN nq;rw[Q] at M K H I u ⊢;clear Q m U T hW C;have E:=ag.out;have V:=ir l 64;go_loopw[8,9,10,11,12,13,14,15,41] (λsa sb sc sd se sf sg sh i wr=>∃ t:Nat,t<=64/\i=.int .i64 t/\(∃ r,r=oS k (dJ l 64) s t/\sa=.int .u32 (aa r.a)/\sb=.int .u32 (aa r.b)/\sc=.int .u32 (aa r.c)/\sd=.int .u32 (aa r.d)/\se=.int .u32 (aa r.e)/\sf=.int .u32 (aa r.f)/\sg=.int .u32 (aa r.g)/\sh=.int .u32 (aa r.h))/\∃ n,wr=N.drewN n) (λ_ _ _ _ _ _ _ _ i _=>64 - (intOf i).toNat)
 case atStart=>exact⟨0,by omega,rfl,⟨s,rfl,rfl,rfl,rfl,rfl,rfl,rfl,rfl,rfl⟩,0,rfl⟩
 case round=>
  obtain⟨t,ht,rfl,⟨r,Y,rfl,rfl,rfl,rfl,rfl,rfl,rfl,rfl⟩,n,rfl⟩:=hrel;by_cases o:t<64
  ·have ck:=(H.drewN n).cell t (by omega)
   have cw:=(I.drewN n).cell t (by omega);have HR:=JE Y;have q:(t:Int)<64:=by omega
   obtain⟨wn,F⟩:∃ wn,N.drewN n=wn:=⟨_,rfl⟩;rw[F] at ck cw ⊢;have af:=JE F;clear Y E V F;have ah:IntKind.u32.signed=false:=rfl;go_wp2_with((go_at_call 268;refine(uA _ _).mono ?_;rintro e w' ⟨rfl,rfl⟩))
   go_quiet ((go_at_call 268;exact qH (AP _ _)))
   go_wp2_with((go_at_call 268;refine(uA _ _).mono ?_;rintro e w' ⟨rfl,rfl⟩))
   go_roundw
   case rel=>exact⟨t+1,by omega,by go_num,⟨rnd r (k.getD t 0) ((dJ l 64).getD t 0),by rw[HR.out];rfl,rfl,rfl,rfl,rfl,rfl,rfl,rfl,rfl⟩,n+nq,by rw[<-af.out,World.drewN_drewN]⟩
   case measure=>simp[intOf];omega
  ·obtain rfl:t=64:=by omega
   have HR:=JE Y;have L:=M.drewN n;have J:=K.drewN n;have p:Kp w (N.drewN n):=u.drewN n;obtain⟨w4,P⟩:∃ w4,N.drewN n=w4:=⟨_,rfl⟩;rw[P] at L J p ⊢;clear Y E V P M K u H I ht o;go_wp2_with fail;go_loopw[105] (λi wr=>∃ t:Nat,t<=8/\i=.int .i64 t/\Arr 252 wr w.heap.size (mix s.list (s.add r).list t)/\Arr 252 wr (w.heap.size+1) (bf 8)/\Kp w wr) (λi _=>8 - (intOf i).toNat)
   case atStart=>exact⟨0,by omega,rfl,L,J,p⟩
   case round=>
    clear L J p;obtain⟨i,hi,rfl,B,O,R⟩:=hrel;by_cases o:i<8
    ·have cb:=B.cell i (by rw[ry s.list (s.add r).list i rfl hi];exact o)
     have cf:=B.frozen i (by rw[ry s.list (s.add r).list i rfl hi];exact o);rw[Bn s.list (s.add r).list i rfl o] at cb;have hs:=uJ s.list (s.add r).list i rfl o _ (Bo s r i o);have D:∀ W,(Instr.index 252 (.agg (aY r.list)) (.int .i64 i)).run prog W=.ok (.int .u32 (aa (r.list.getD i 0))) W:=λW=>by
      obtain⟨ie,ab,Z⟩:=uK;exact rx W 252 247 8 ie _ underlying252 ab Z underlying247 rfl _ rfl i o _ (rg r.list i o)
     have ad:∀ W,(Instr.index 252 (.agg #[.int .u32 (aa r.a),.int .u32 (aa r.b),.int .u32 (aa r.c),.int .u32 (aa r.d),.int .u32 (aa r.e),.int .u32 (aa r.f),.int .u32 (aa r.g),.int .u32 (aa r.h)]) (.int .i64 i)).run prog W=.ok (.int .u32 (aa (r.list.getD i 0))) W:=D;generalize s.list.getD i 0=x at *;generalize r.list.getD i 0=y at *;have HS:=JE hs;have q:(i:Int)<8:=by omega
     clear hs D;go_wp2_with fail;go_roundw
     case rel=>exact⟨i+1,by omega,by go_num,B.setTo i _ HS.out,O.other _ _ (by simp),Below.setCell R (by simp) _⟩
     case measure=>simp[intOf];omega
    ·obtain rfl:i=8:=by omega
     have hm:mix s.list (s.add r).list 8=(s.add r).list:=rfl;rw[hm] at B;clear hm;go_wp2_with(first
      | (refine jj underlying252 (by kernel_rfl) rfl (.tmp 3) rfl w.heap.size (s.add r).list rfl B rfl ?_)
      | (refine iL (by kernel_rfl) rfl rfl (.tmp 6) (.tmp 116) rfl (w.heap.size+1) (bf 8) (s.add r).list rfl rfl O rfl rfl ?_;intro w5 ae j))
     refine bodyPost_ret (lA underlying252 (by kernel_rfl) rfl _ _ (w.heap.size+1) (s.add r).list rfl ae rfl) rfl ?_;exact⟨by rw[HR.out];rfl,j.below R (by omega)⟩
section
open Go.Shelf
attribute [local go_sem] Oper.semAt_some
theorem Bp (w:World):Calls prog 245 #[] w λe w'=>e=.returned (.agg (aY dd))/\Kp w w':=by
 refine(callsIn_wide (n:=4)).1 ?_;refine callsIn_of_wp_marks func245 rfl trivial ?_ rfl;refine wpIn_wide.2 ?_;simp only[ntmps245,Lj,Lk,Kf,Nat.reduceSub,Lg,Lh,Lq,La,Ll];go_wp2;obtain⟨c,a⟩:∃ c,((w.alloc (.cells (aY (bf 64)) 264)).alloc (.cells (aY (bf 64)) 264)).alloc (.cells #[.int .i64 0] 3)=c:=⟨_,rfl⟩;change Code.wp prog _ _ _ (((w.alloc (.cells (aY (bf 64)) 264)).alloc (.cells (aY (bf 64)) 264)).alloc (.cells #[.int .i64 0] 3));rw[a];have z:c.heap.size=w.heap.size+3:=by rw[<-a];simp
 have s:Arr 264 c w.heap.size (bf 64):=by rw[<-a];exact((Of _ w _ _ rfl).alloc _).alloc _
 have j:Arr 264 c (w.heap.size+1) (bf 64):=by
  have:=(Of 264 (w.alloc (.cells (aY (bf 64)) 264)) (aY (bf 64)) (bf 64) rfl).alloc (.cells #[.int .i64 0] 3);rw[JY,a] at this;exact this
 have y:c.cell? ⟨w.heap.size+1+1,0,none⟩=some (.int .i64 0)/\c.frozen? ⟨w.heap.size+1+1,0,none⟩=false:=by
  have:=heap_alloc_new ((w.alloc (.cells (aY (bf 64)) 264)).alloc (.cells (aY (bf 64)) 264)) (.cells #[.int .i64 0] 3);rw[JY,JY,a] at this;exact⟨by rw[cell_of_row c _ 0 _ _ _ this];rfl,by simp[World.frozen?,this]⟩
 have g:Kp w c:=by rw[<-a];exact(((NQ w).alloc _).alloc _).alloc _
 clear a;refine wpIn_wide.1 (kZ (F:=Fence.wide) (n:=4) rfl (by omega) (gf:=264) (lb:=#[]) rfl trivial (enters_of func264 (by kernel_rfl) rfl) (encs:=λi=>#[.int .u64 (iM i)]) (N:=64) (X:=λk=>k=w.heap.size+1\/k=w.heap.size+1+1) (by omega)
  (Bj (4 - 1) (by omega) _ c (by omega)) (λ_=>rfl)
  (λi A=>Arr 264 A w.heap.size (bf 64)/\Arr 264 A (w.heap.size+1) (mix (bf 64) dd i)/\A.cell? ⟨w.heap.size+1+1,0,none⟩=some (.int .i64 i)/\A.frozen? ⟨w.heap.size+1+1,0,none⟩=false/\Kp w A)
  (λi A B h r=>⟨h.1.below r (by omega),h.2.1.below r (by omega),(r.cell (p:=⟨w.heap.size+1+1,0,none⟩) (by simp;omega)).trans h.2.2.1,(r.frozen (p:=⟨w.heap.size+1+1,0,none⟩) (by simp;omega)).trans h.2.2.2.1,Below.trans h.2.2.2.2 (r.mono (by omega))⟩)
  ⟨s,j,y.1,y.2,g⟩
  (λi=>{ tmps:=#[.pointer (some ⟨w.heap.size,0,none⟩),.pointer (some ⟨w.heap.size+1,0,none⟩),.pointer (some ⟨w.heap.size+1+1,0,none⟩),.int .u64 (iM i),.int .u64 (iM i),undef,undef,undef,undef,undef,undef,undef],defers:=[] }) ?assign ?body ?done)
 case assign=>
  intro l i W K g;gi_wp2
  exact g
 case body=>
  rintro l i W ⟨s,j,I,G,g⟩ x;obtain⟨o,m⟩:=Bd ⟨i,x⟩;simp only at o m;have f:dd.getD i 0=mQ (iM i):=by
   rw[<-Bc,JF,KX,Mr x];rfl
  have q:(mix (bf 64) dd i).length=64:=by rw[ry (bf 64) dd i (by simp[iN];rfl) (by rw[iN];omega),iN]
  have d:=uJ (bf 64) dd i (by simp[iN];rfl) (by rw[iN];omega) _ f;have P:=j.cell i (by omega);have O:=j.frozen i (by omega);generalize iM i=p at *;have E:(i:Int)<64:=by omega
  have J:=JE d;clear d f q;have C:prog.follows .mixedOrders=true:=by kernel_rfl
  gi_wp2
  gi_region_with_o (refine⟨trivial,?_⟩;gi_at_call 265;refine(CallsIn.inRound l (callsIn_wide.2 (Bi p _ o m))).mono ?_;rintro e w' ⟨rfl,rfl⟩)
  all_goals gi_wp2
  all_goals exact⟨(((bg.refl _ W).setCell ⟨w.heap.size+1,i,none⟩ _ (.inl rfl)).setCell ⟨w.heap.size+1+1,0,none⟩ _ (.inr rfl)).drew,((s.other _ _ (by simp)).other _ _ (by simp;omega)).drew,((j.setTo i _ J.out).other _ _ (by simp)).drew,(Below.setCell (Below.setCell g (by simp) _) (by simp;omega) _).drew⟩
 case done=>
  rintro D W M ⟨s,j,I,G,g⟩ H;have v:mix (bf 64) dd 64=dd:=rfl;rw[v] at j;clear v;go_wp2_with(first
   | (refine jj underlying264 (by kernel_rfl) rfl (.tmp 1) rfl (w.heap.size+1) dd rfl j rfl ?_)
   | (refine iL (by kernel_rfl) rfl rfl (.tmp 0) (.tmp 11) rfl w.heap.size (bf 64) dd rfl rfl s (iN 64) rfl ?_;intro L u b))
  have t:=(b.other D (by omega)).trans H;refine⟨by simp,.inl ⟨_,_,rfl,run_takeDeferred t,?_⟩⟩;exact⟨_,lA underlying264 (by kernel_rfl) rfl _ _ w.heap.size dd rfl ((World.putObj_heap_other (by omega)).trans u) rfl,rfl,je (b.below g (JO _)) (by omega) (by rw[b.size];exact g.size) _⟩
end
attribute [local go_sem] kn oT mL oU oV mM jF uI AG AH
theorem Bq (s:S8)(v:Value)(o:List UInt8)(p:Nat)(gk ck:Nat)(k:List UInt32)(w:World)(h:Rd w v o)(hl:p+64<=o.length)(hk:Arr 247 w gk k)(K:k.length=64):
  Calls prog 226 #[.agg (aY s.list),v,.int .i64 p,.slice (some ⟨gk,0,none⟩) 64 ck] w λe w'=>e=.returned (.agg (aY (mK k s ((o.drop p).take 64)).list))/\Kp w w':=by
 obtain⟨l,Z⟩:∃ l,(o.drop p).take 64=l:=⟨_,rfl⟩;rw[Z];have ae:=JE K;have ad:=JE Z;clear Z K;go_enter func226,ntmps226;go_wp2_with((at_make;(refine jk (z:=.int .u32 0) (b:=4) underlying250 (by kernel_rfl) rfl (by decide) rfl _ _ rfl 64 rfl rfl (by decide) ?_);intro S I;have B:=JE I;clear I))
 have E:Arr 252 ((w.alloc (.cells (aY s.list) 252)).alloc (.cells (aY (bf 8)) 252)) (w.heap.size+1) (bf 8):=by
  have:=Of 252 (w.alloc (.cells (aY s.list) 252)) (aY (bf 8)) (bf 8) rfl;rw[JY] at this;exact this
 have Q:Arr 252 S w.heap.size s.list:=by rw[B.out];exact((Of _ w _ s.list rfl).alloc _).alloc _
 have O:Arr 252 S (w.heap.size+1) (bf 8):=by rw[B.out];exact E.alloc _
 have N:Arr 247 S (w.heap.size+1+1) (bR l 0):=by
  rw[B.out];have:=Of 247 ((w.alloc (.cells (aY s.list) 252)).alloc (.cells (aY (bf 8)) 252)) (aY (bf 64)) (bR l 0) rfl;rw[JY,JY,Bk] at this;exact this
 have P:Kp w S:=by rw[B.out];exact(((NQ w).alloc _).alloc _).alloc _
 clear E;go_loopw[10] (λi wr=>∃ t:Nat,t<=16/\i=.int .i64 t/\Arr 252 wr w.heap.size s.list/\Arr 252 wr (w.heap.size+1) (bf 8)/\Arr 247 wr (w.heap.size+1+1) (bR l t)/\Kp w wr) (λi _=>16 - (intOf i).toNat)
 case atStart=>exact⟨0,by omega,rfl,Q,O,N,P⟩
 case round=>
  clear Q O N P B;obtain⟨t,W,rfl,y,E,x,u⟩:=hrel;by_cases D:t<16
  ·have L:∀ j,j<64->l.getD j 0=o.getD (p+j) 0:=λj hj=>by
    rw[<-ad.out,JF,Mk hj,MA,JF]
   have J:iK l (dJ l t) t=il (o.getD (p+4*t) 0) (o.getD (p+4*t+1) 0) (o.getD (p+4*t+2) 0) (o.getD (p+4*t+3) 0):=by
    unfold iK;rw[if_pos D,L _ (by omega),L _ (by omega),L _ (by omega),L _ (by omega)];simp only[Mn]
   have m:=(oY l t (by omega));rw[J] at m;have HS:=JE m;have A:=mR l t (by omega);have H:o.length<=maxLen:=by
    obtain⟨a,c,_,h1,h2⟩:=h.shape;omega
   unfold maxLen at H;clear L J m;go_wp2_with fail;refine(AU _ v o (p+4*t) _ (h.kp u) (by omega) (by simp)).mono ?_;rintro e w' ⟨rfl,n,rfl⟩;have ca:=(x.drewN n).cell t (by omega);have cf:=(x.drewN n).frozen t (by omega);have q:(t:Int)<64:=by omega
   clear A;go_wp2_with fail;go_roundw
   case rel=>exact⟨t+1,by omega,by go_num,(y.drewN n).other _ _ (by simp;omega),(E.drewN n).other _ _ (by simp),(x.drewN n).setTo t _ HS.out,Below.setCell (u.drewN n) (by simp;omega) _⟩
   case measure=>simp[intOf];omega
  ·obtain rfl:t=16:=by omega
   clear W D;go_wp2_with fail;go_loopw[11] (λi wr=>∃ t:Nat,16<=t/\t<=64/\i=.int .i64 t/\Arr 252 wr w.heap.size s.list/\Arr 252 wr (w.heap.size+1) (bf 8)/\Arr 247 wr (w.heap.size+1+1) (bR l t)/\Kp w wr) (λi _=>64 - (intOf i).toNat)
   case atStart=>exact⟨16,by omega,by omega,rfl,y,E,x,u⟩
   case round=>
    clear y E x u;obtain⟨t,aq,W,rfl,y,E,x,u⟩:=hrel;by_cases D:t<64
    ·have A:=mR l t (by omega)
     have J:iK l (dJ l t) t=dj (dj (dj (small 17 19 10 ((bR l t).getD (t - 2) 0)) ((bR l t).getD (t - 7) 0)) (small 7 18 3 ((bR l t).getD (t - 15) 0))) ((bR l t).getD (t - 16) 0):=by
      unfold iK;rw[if_neg (by omega),jK l t _ (by omega),jK l t _ (by omega),jK l t _ (by omega),jK l t _ (by omega)]
     have m:=(oY l t (by omega));rw[J] at m;have V:=x.cell (t - 2) (by omega);have U:=x.cell (t - 7) (by omega);have au:=x.cell (t - 15) (by omega);have ar:=x.cell (t - 16) (by omega);have ca:=x.cell t (by omega);have cf:=x.frozen t (by omega);generalize (bR l t).getD (t - 2) 0=x2 at *;generalize (bR l t).getD (t - 7) 0=x7 at *;generalize (bR l t).getD (t - 15) 0=ag at *;generalize (bR l t).getD (t - 16) 0=af at *;have i2:IntKind.i64.wrap ((t:Int) - 2)=(t:Int) - 2:=JI _ (by omega);have i7:IntKind.i64.wrap ((t:Int) - 7)=(t:Int) - 7:=JI _ (by omega);have ao:IntKind.i64.wrap ((t:Int) - 15)=(t:Int) - 15:=JI _ (by omega);have an:IntKind.i64.wrap ((t:Int) - 16)=(t:Int) - 16:=JI _ (by omega);have n2:((t:Int) - 2).toNat=t - 2:=by omega
     have n7:((t:Int) - 7).toNat=t - 7:=by omega
     have am:((t:Int) - 15).toNat=t - 15:=by omega
     have al:((t:Int) - 16).toNat=t - 16:=by omega
     have p2:(2:Int)<=(t:Int):=by omega
     have p7:(7:Int)<=(t:Int):=by omega
     have ak:(15:Int)<=(t:Int):=by omega
     have aj:(16:Int)<=(t:Int):=by omega
     have q2:(t:Int) - 2<64:=by omega
     have q7:(t:Int) - 7<64:=by omega
     have ai:(t:Int) - 15<64:=by omega
     have ah:(t:Int) - 16<64:=by omega
     have q:(t:Int)<64:=by omega
     have HS:=JE m;clear m J A;go_wp2_with((go_at_call 258;refine(rk _ _ _ (by decide) (by decide)).mono ?_;rintro e w' ⟨rfl,rfl⟩))
     go_still_tail 18,(by kernel_rfl)
     go_wp2_with fail;go_roundw
     case rel=>
      repeat apply Exists.intro
      refine⟨?_,rfl⟩;exact⟨t+1,by omega,by omega,by go_num,(y.other _ _ (by simp;omega)).drew,(E.other _ _ (by simp)).drew,(x.setTo t _ HS.out).drew,(Below.setCell u (by simp;omega) _).drew⟩
     case measure=>simp[intOf];omega
    ·obtain rfl:t=64:=by omega
     rw[uH] at x;have c0:wr.cell? ⟨w.heap.size,0,none⟩=some (.int .u32 (aa s.a)):=y.cell 0 (Kj rfl);have c1:wr.cell? ⟨w.heap.size,1,none⟩=some (.int .u32 (aa s.b)):=y.cell 1 (Kj rfl);have V:wr.cell? ⟨w.heap.size,2,none⟩=some (.int .u32 (aa s.c)):=y.cell 2 (Kj rfl);have c3:wr.cell? ⟨w.heap.size,3,none⟩=some (.int .u32 (aa s.d)):=y.cell 3 (Kj rfl);have c4:wr.cell? ⟨w.heap.size,4,none⟩=some (.int .u32 (aa s.e)):=y.cell 4 (Kj rfl);have c5:wr.cell? ⟨w.heap.size,5,none⟩=some (.int .u32 (aa s.f)):=y.cell 5 (Kj rfl);have c6:wr.cell? ⟨w.heap.size,6,none⟩=some (.int .u32 (aa s.g)):=y.cell 6 (Kj rfl);have U:wr.cell? ⟨w.heap.size,7,none⟩=some (.int .u32 (aa s.h)):=y.cell 7 (Kj rfl);have X:=hk.kp u;clear h hl hk;go_wp2_with fail;have C:=JE (JN c0 (JN c1 (JN V (JN c3 (JN c4 (JN c5 (JN c6 U)))))));clear c0 c1 V c3 c4 c5 c6 U;have F:=ae.out;have R:=ir l 64;go_loopw[16,17,18,19,20,21,22,23,24] (λsa sb sc sd se sf sg sh i wq=>∃ t:Nat,t<=64/\i=.int .i64 t/\(∃ r,r=oS k (dJ l 64) s t/\sa=.int .u32 (aa r.a)/\sb=.int .u32 (aa r.b)/\sc=.int .u32 (aa r.c)/\sd=.int .u32 (aa r.d)/\se=.int .u32 (aa r.e)/\sf=.int .u32 (aa r.f)/\sg=.int .u32 (aa r.g)/\sh=.int .u32 (aa r.h))/\∃ n,wq=wr.drewN n) (λ_ _ _ _ _ _ _ _ i _=>64 - (intOf i).toNat)
     case atStart=>exact⟨0,by omega,rfl,⟨s,rfl,rfl,rfl,rfl,rfl,rfl,rfl,rfl,rfl⟩,0,rfl⟩
     case round=>
      obtain⟨t,W,rfl,⟨r,T,rfl,rfl,rfl,rfl,rfl,rfl,rfl,rfl⟩,n,rfl⟩:=hrel;by_cases D:t<64
      ·have ck:=(X.drewN n).cell t (by omega)
       have cw:=(x.drewN n).cell t (by omega);have HR:=JE T;have q:(t:Int)<64:=by omega
       obtain⟨wn,G⟩:∃ wn,wr.drewN n=wn:=⟨_,rfl⟩;rw[G] at ck cw ⊢;have ab:=JE G;clear T F R G;have ap:IntKind.u32.signed=false:=rfl;go_wp2_with fail;go_quiet ((go_at_call 258;exact qH (rk _ _ _ (by decide) (by decide))))
       go_wp2_with((go_at_call 258;refine(rk _ _ _ (by decide) (by decide)).mono ?_;rintro e w' ⟨rfl,rfl⟩))
       go_roundw
       case rel=>
        repeat apply Exists.intro
        refine⟨?_,rfl⟩;exact⟨t+1,by omega,by go_num,⟨rnd r (k.getD t 0) ((dJ l 64).getD t 0),by rw[HR.out];rfl,rfl,rfl,rfl,rfl,rfl,rfl,rfl,rfl⟩,n+nq,by rw[<-ab.out,World.drewN_drewN]⟩
       case measure=>simp[intOf];omega
      ·obtain rfl:t=64:=by omega
       have HR:=JE T;clear T F R;obtain⟨c0,c1,V,c3,c4,c5,c6,U⟩:=C.out;go_wp2_with((refine iL (by kernel_rfl) rfl rfl (.tmp 8) (.tmp 206) rfl (w.heap.size+1) (bf 8) (s.add r).list rfl rfl (E.drewN n) rfl rfl ?_;intro w5 Y M))
       refine bodyPost_ret (lA underlying252 (by kernel_rfl) rfl _ _ (w.heap.size+1) (s.add r).list rfl Y rfl) rfl ?_;exact⟨by rw[HR.out];rfl,M.below (u.drewN n) (by omega)⟩
theorem Bs (w:World):Calls prog 246 #[] w λe w'=>e=.returned (.agg (aY dK.list))/\Kp w w':=by
 go_enter func246,ntmps246;have c:Arr 252 (w.alloc (.cells (aY (bf 8)) 252)) w.heap.size (bf 8):=Of _ w _ _ rfl;go_wp2_with((refine iL (by kernel_rfl) rfl rfl (.tmp 0) (.tmp 1) rfl w.heap.size (bf 8) dK.list rfl rfl c rfl rfl ?_;intro d b a))
 refine bodyPost_ret (lA underlying252 (by kernel_rfl) rfl _ _ w.heap.size dK.list rfl b rfl) rfl ?_;exact⟨rfl,a.below ((NQ w).alloc _) (JO _)⟩
theorem Bt (w:World):Calls prog 225 #[] w λe w'=>e=.returned (.agg (aY dK.list))/\Kp w w':=by
 go_enter func225,ntmps225;have c:Arr 252 (w.alloc (.cells (aY (bf 8)) 252)) w.heap.size (bf 8):=Of _ w _ _ rfl;go_wp2_with((refine iL (by kernel_rfl) rfl rfl (.tmp 0) (.tmp 1) rfl w.heap.size (bf 8) dK.list rfl rfl c rfl rfl ?_;intro d b a))
 refine bodyPost_ret (lA underlying252 (by kernel_rfl) rfl _ _ w.heap.size dK.list rfl b rfl) rfl ?_;exact⟨rfl,a.below ((NQ w).alloc _) (JO _)⟩
theorem Bu (w:World):Calls prog 224 #[] w λe w'=>(∃ g,e=.returned (.slice (some ⟨g,0,none⟩) 64 64)/\Arr 247 w' g dd/\w.heap.size<=g)/\Kp w w':=by
 go_enter func224,ntmps224;go_wp2;go_ret;exact⟨⟨w.heap.size,rfl,Of _ w _ _ rfl,JO _⟩,(NQ w).alloc _⟩
def jL (i:Int):UInt32:=if 0<=i/\i<64 then dd.getD i.toNat 0 else 0
section
variable {P : Program}
end
theorem Arr.cells8 {s:S8}(h:Arr T w g s.list):
  w.cell? ⟨g,0,none⟩=some (.int .u32 (aa s.a))/\w.cell? ⟨g,1,none⟩=some (.int .u32 (aa s.b))/\w.cell? ⟨g,2,none⟩=some (.int .u32 (aa s.c))/\w.cell? ⟨g,3,none⟩=some (.int .u32 (aa s.d)) /\
  w.cell? ⟨g,4,none⟩=some (.int .u32 (aa s.e))/\w.cell? ⟨g,5,none⟩=some (.int .u32 (aa s.f))/\w.cell? ⟨g,6,none⟩=some (.int .u32 (aa s.g))/\w.cell? ⟨g,7,none⟩=some (.int .u32 (aa s.h)):=
 ⟨h.cell 0 (Kj rfl),h.cell 1 (Kj rfl),h.cell 2 (Kj rfl),h.cell 3 (Kj rfl),h.cell 4 (Kj rfl),h.cell 5 (Kj rfl),h.cell 6 (Kj rfl),h.cell 7 (Kj rfl)⟩
theorem Arr.frozen8 {s:S8}(h:Arr T w g s.list):
  w.frozen? ⟨g,0,none⟩=false/\w.frozen? ⟨g,1,none⟩=false/\w.frozen? ⟨g,2,none⟩=false/\w.frozen? ⟨g,3,none⟩=false/\w.frozen? ⟨g,4,none⟩=false/\w.frozen? ⟨g,5,none⟩=false/\w.frozen? ⟨g,6,none⟩=false/\w.frozen? ⟨g,7,none⟩=false:=
 ⟨h.frozen 0 (Kj rfl),h.frozen 1 (Kj rfl),h.frozen 2 (Kj rfl),h.frozen 3 (Kj rfl),h.frozen 4 (Kj rfl),h.frozen 5 (Kj rfl),h.frozen 6 (Kj rfl),h.frozen 7 (Kj rfl)⟩
theorem Arr.set8 {s:S8}(h:Arr T w g s.list)(r:S8):
  Arr T ((((((((w.setCell ⟨g,0,none⟩ (.int .u32 (aa r.a))).setCell ⟨g,1,none⟩ (.int .u32 (aa r.b))).setCell ⟨g,2,none⟩ (.int .u32 (aa r.c))).setCell ⟨g,3,none⟩ (.int .u32 (aa r.d))).setCell ⟨g,4,none⟩ (.int .u32 (aa r.e))).setCell ⟨g,5,none⟩ (.int .u32 (aa r.f))).setCell ⟨g,6,none⟩ (.int .u32 (aa r.g))).setCell ⟨g,7,none⟩ (.int .u32 (aa r.h))) g r.list:=
 (((((((h.set 0 r.a _ rfl).set 1 r.b _ rfl).set 2 r.c _ rfl).set 3 r.d _ rfl).set 4 r.e _ rfl).set 5 r.f _ rfl).set 6 r.g _ rfl).set 7 r.h _ rfl
theorem mT {B:Nat}{a:World}(h:Below B a w)(b:B<=g)(l k j i f e d c:Value):
  Below B a ((((((((w.setCell ⟨g,0,none⟩ l).setCell ⟨g,1,none⟩ k).setCell ⟨g,2,none⟩ j).setCell ⟨g,3,none⟩ i).setCell ⟨g,4,none⟩ f).setCell ⟨g,5,none⟩ e).setCell ⟨g,6,none⟩ d).setCell ⟨g,7,none⟩ c):=
 (((((((h.setCell (p:=⟨g,0,none⟩) b _).setCell (p:=⟨g,1,none⟩) b _).setCell (p:=⟨g,2,none⟩) b _).setCell (p:=⟨g,3,none⟩) b _).setCell (p:=⟨g,4,none⟩) b _).setCell (p:=⟨g,5,none⟩) b _).setCell (p:=⟨g,6,none⟩) b _).setCell (p:=⟨g,7,none⟩) b _
theorem mU (r:S8):Value.agg (aY r.list)=.agg #[.int .u32 (aa r.a),.int .u32 (aa r.b),.int .u32 (aa r.c),.int .u32 (aa r.d),.int .u32 (aa r.e),.int .u32 (aa r.f),.int .u32 (aa r.g),.int .u32 (aa r.h)]:=rfl
def jM (s:S8)(i:Nat):List UInt8:=(s.list.take i).flatMap lz
theorem rz (s:S8)(i:Nat)(h:i<8):jM s (i+1)=jM s i++lz (s.list.getD i 0):=by
 unfold jM;have a:i<s.list.length:=h;rw[JZ a,List.flatMap_append,JF,JG a];simp
theorem oZ (s:S8):∀ i,i<=8->(jM s i).length=4*i
 | 0,_=>rfl
 | i+1,h=>by rw[rz s i h,JQ,oZ s i (by omega)];simp[lz];omega
theorem uL (s:S8):s.bytes.length=32:=oZ s 8 (by omega)
theorem Bv (x:UInt32):∃ d c b a:UInt8,lz x=[d,c,b,a]/\IntKind.u8.wrap (aa x / 16777216)=(d.toNat:Int)/\IntKind.u8.wrap (aa x / 65536)=(c.toNat:Int)/\IntKind.u8.wrap (aa x / 256)=(b.toNat:Int)/\IntKind.u8.wrap (aa x)=(a.toNat:Int):=by
 refine⟨_,_,_,_,rfl,?_,?_,?_,?_⟩ <;> rw[LC] <;> unfold aa <;> simp
theorem pa (s:S8)(w:World):
  Calls prog 250 #[.agg (aY s.list)] w λe w'=>(∃ v,e=.returned v/\Ow 5 w' w.heap.size v s.bytes)/\Kp w w':=by
 have U:=aj;obtain⟨B,D,j,h,g⟩:=info_parts Og;have q:B.bytes=1:=g;have r:=JE q;clear q g;have p:Arr 252 (w.alloc (.cells (aY s.list) 252)) w.heap.size s.list:=Of _ w _ s.list rfl;go_enter func250,ntmps250;go_wp2_with(first
  | (at_make;refine wpList_make_own _ rfl _ _ 24 rfl w.heap.size 5 B (.int .u8 0) 1 underlying24 D j h _ _ _ 32 rfl rfl rfl ?b1 ?b2 ?b3 ?_;rotate_right;intro t a n;have d:Kp (w.alloc (.cells (aY s.list) 252)) t:=Below.grown (Below.refl _ _) n (JO _) (λk e=>by cases e);have o:=p.kp d;clear n)
  | (refine jj underlying252 (by kernel_rfl) rfl (.tmp 1) rfl w.heap.size s.list rfl o rfl ?_))
 case b1=>rw[r.out];omega
 case b2=>unfold maxLen;omega
 case b3=>simp
 have l:Ow 5 t w.heap.size (.slice (some ⟨w.heap.size+1,0,none⟩) 0 32) []:=by
  rw[JY] at a;exact a
 have m:Kp w t:=((NQ w).alloc _).trans d;clear a d p o j h D r;go_loopw[3,8] (λv i wr=>∃ k:Nat,k<=8/\i=.int .i64 k/\Ow 5 wr w.heap.size v (jM s k)/\Kp w wr) (λ_ i _=>8 - (intOf i).toNat)
 case atStart=>exact⟨0,by omega,rfl,l,m⟩
 case round=>
  clear l m;obtain⟨k,Q,rfl,a,f⟩:=hrel;by_cases c:k<8
  ·have C:∀ W,(Instr.index 252 (.agg (aY s.list)) (.int .i64 k)).run prog W=.ok (.int .u32 (aa (s.list.getD k 0))) W:=λW=>by
    obtain⟨F,A,u⟩:=uK;exact rx W 252 247 8 F _ underlying252 A u underlying247 rfl _ rfl k c _ (rg s.list k c)
   have y:=rz s k c;have b:=oZ s k (by omega);generalize s.list.getD k 0=x at *;obtain⟨H,b1,b2,b3,E,O,N,M,K⟩:=Bv x;rw[E] at y;generalize jM s k=L at *;have I:=JE y;have J:=JE b;clear y b E;generalize aY s.list=cs at *;go_wp2_with(at_builtin;refine bw U rfl _ _ rfl w.heap.size _ _ rfl (a.kp ((NQ _).alloc _)) _ [H,b1,b2,b3] rfl (NT _ 5 0 4 _ _ (JW _) rfl (by decide) rfl).rd ?c1 ?c2 ?_;rotate_right;intro P w2 z G _)
   case c1=>rw[J.out];simp;omega
   case c2=>have:=f.size;simp;omega
   go_roundw
   case rel=>exact⟨k+1,by omega,by go_num,by rw[I.out];exact z,NS (f.alloc _) G a.own_ge⟩
   case measure=>simp[intOf];omega
  ·obtain rfl:k=8:=by omega
   go_wp2_with fail;go_ret;exact⟨⟨_,rfl,a⟩,f⟩
section
open Go.Shelf
attribute [local go_sem] Oper.semAt_some
theorem rD (a:Option Addr)(n c:Nat)(w:World):
  Calls prog 247 #[.slice a n c,.int .i64 64] w λe w'=>e=.returned (.func (.func 266) #[] #[.pointer (some ⟨w.heap.size,0,none⟩),.pointer (some ⟨w.heap.size+1,0,none⟩)]) /\
   (w.alloc (.cells #[.slice a n c] 24)).alloc (.cells #[.int .i64 64] 3)=w':=by
 go_enter func247,ntmps247;go_wp2;go_ret;exact⟨rfl,rfl⟩
def dn (a:Option Addr)(i:Nat):Value:=
 match a with
 | some ⟨b,o,_⟩=>.slice (some ⟨b,o+64*i,none⟩) 64 64
 | none=>undef
theorem uT {X:Nat->Prop}{A B:World}(h:bg X A B){p:Addr}{v:Value}(a:A.cell? p=some v)(b:¬X p.block):B.cell? p=some v:=
 (Mc (w:=A) (h.block p.block (Kl A p a) b)).trans a
theorem mW (m:Nat)(hm:1<=m)(X:Nat->Prop)(w:World)(a:Option Addr)(N c n j:Nat)(d:w.cell? ⟨n,0,none⟩=some (.slice a (64*N) c))(g:w.cell? ⟨j,0,none⟩=some (.int .i64 64))
  (D:¬X n) (C:¬X j) (hc:64*N<=c) (B:c<=maxLen) (I:0<N->∃ b o,a=some ⟨b,o,none⟩):
  qN Fence.wide m prog 266 #[.pointer (some ⟨n,0,none⟩),.pointer (some ⟨j,0,none⟩)] (λi=>#[dn a i]) N X w:=by
 intro l J W H V U M K O;have HJ:=JE M;have Z:=JE K;have q:=(H.cell (p:=⟨n,0,none⟩) (Kl w _ d)).trans d;have r:=(H.cell (p:=⟨j,0,none⟩) (Kl w _ g)).trans g;have t:n≠l:=by have:=Kl w _ d;simp at this;omega
 have s:j≠l:=by have:=Kl w _ g;simp at this;omega
 have R:=JE (JN t s);have HA:=JE I;unfold maxLen at B;clear M K d g t s I;refine callsIn_of_wp func266 rfl trivial ?_ rfl;simp only[ntmps266,Lj,Lk,Ka,Kf,Nat.reduceAdd,Nat.reduceSub,Lg,Lh,Lq,La,Ll];gi_wp2
 gi_loopw [4] (λp wr=>∃ k:Nat,k<=N/\p=.int .i64 (64*(k:Int))/\wr.cell? ⟨n,0,none⟩=some (.slice a (64*N) c)/\wr.cell? ⟨j,0,none⟩=some (.int .i64 64)/\J k wr) (λp _=>64*N - (intOf p).toNat)
 case atStart=>exact⟨0,by omega,rfl,q,r,O⟩
 case round=>
  clear q r O;obtain⟨k,hk,rfl,d,g,A⟩:=hrel;by_cases y:k<N
  ·obtain⟨b,o,rfl⟩:=HA.out (by omega)
   have F:64*(k:Int)<64*(N:Int):=by omega
   have S:¬c=64*k:=by omega
   have e1:64*N - 64*k=64*(N - k):=by omega
   have T:64*(k:Int)+64<=64*(N:Int):=by omega
   have G:64*k+64<=c:=by omega
   have Y:64*k+64 - 64*k=64:=by omega
   gi_wp2
   gi_region
   obtain⟨fn,tmps,u,P,E,L⟩:=Z.out k wr.drew y (HJ.out _ _ _ A ((Below.refl _ _).drew));simp only[dn] at E;gi_wp2
   refine L.mono ?_;rintro e Q ⟨rfl,z,f⟩;have v:Q.cell? ⟨n,0,none⟩=some (.slice (some ⟨b,o,none⟩) (64*N) c):=uT f d (λh=>h.elim (λe=>R.out.1 e) D);have x:Q.cell? ⟨j,0,none⟩=some (.int .i64 64):=uT f g (λh=>h.elim (λe=>R.out.2 e) C);clear d g A f L E;gi_wp2
   go_roundw
   case rel=>exact⟨k+1,by omega,by congr 1,v,x,z⟩
   case measure=>simp[intOf];omega
  ·gi_wp2
   go_end0
   obtain rfl:k=N:=by omega
   exact⟨⟨_,rfl⟩,A⟩

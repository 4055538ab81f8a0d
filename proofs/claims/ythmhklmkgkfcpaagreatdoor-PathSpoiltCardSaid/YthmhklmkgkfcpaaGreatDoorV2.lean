import Derived.Test.YthmhklmkgkfcpaaGreatDoorV1
import Derived.Test.YthmhklmkgkfcpaaGreatDoorProg
import Derived.IntWalk
set_option linter.all false
set_option maxHeartbeats 8000000
set_option maxRecDepth 100000
namespace Go.Proofs.YthmhklmkgkfcpaaGreatDoor
open Go.Proofs.Tryz Go.RowKit
variable {L:List UInt32}{T:TypeId}{W w:World}{g t:Nat}
attribute [local go_sem] jD nZ lN oa od lO jb
theorem zU (x:Int)(b:0<=x)(a:x<2 ^ 64):bits .and .u64 x 31=x % 32:=
 bits_mask .u64 64 (by decide) (λn d c=>by simp[IntKind.wrap,IntKind.bits,IntKind.signed];omega) 5 (by decide) x b a
theorem zV (i:Nat)(c:0<i)(b:i<32):bits .and .u64 (IntKind.u64.wrap (-(i:Int))) 31=32 - (i:Int):=by
 have a:IntKind.u64.wrap (-(i:Int))=18446744073709551616 - i:=by
  simp[IntKind.wrap,IntKind.bits,IntKind.signed];omega
 rw[a,zU _ (by omega) (by omega)];omega
theorem tk (i:Nat)(x:UInt32)(w:World)(b:0<i)(a:i<32):
  Calls prog 273 #[.int .u32 (aa x),.int .i64 (-(i:Int))] w λe w'=>e=.returned (.int .u32 (aa (ja i x)))/\w=w':=by
 have c:=zV i b a;have f:(32 - (i:Int)).toNat=32 - i:=by omega
 have d:IntKind.u64.wrap (32 - (32 - (i:Int)))=i:=by simp[IntKind.wrap,IntKind.bits,IntKind.signed];omega
 go_enter func273,ntmps273;go_wp2;go_ret;exact⟨by rw[zP];rfl,rfl⟩
theorem tl (i j k:Nat)(x:UInt32)(w:World)(c:0<i/\i<32)(b:0<j/\j<32)(a:0<k/\k<32):
  Calls prog 268 #[.int .u32 (aa x),.int .i64 i,.int .i64 j,.int .i64 k] w λe w'=>e=.returned (.int .u32 (aa (big i j k x)))/\w=w':=by
 have n:∀ i:Nat,i<32->IntKind.i64.wrap (-(i:Int)) = -i:=λi h=>by rw[Mi];omega
 have r:=n i c.2;have q:=n j b.2;have p:=n k a.2;obtain⟨o,m⟩:=c;obtain⟨l,g⟩:=b;obtain⟨f,d⟩:=a;clear n;go_enter func268,ntmps268;go_wp2_with((go_at_call 273;refine(tk _ _ _ (by assumption) (by assumption)).mono ?_;rintro e w' ⟨rfl,rfl⟩))
 go_ret;exact⟨rfl,rfl⟩
theorem zW (x:UInt32)(w:World):Calls prog 268 #[.int .u32 (aa x),.int .i64 6,.int .i64 11,.int .i64 25] w λe w'=>e=.returned (.int .u32 (aa (big 6 11 25 x)))/\w=w':=
 tl 6 11 25 x w (by decide) (by decide) (by decide)
theorem tp (x:UInt32)(w:World):Calls prog 268 #[.int .u32 (aa x),.int .i64 2,.int .i64 13,.int .i64 22] w λe w'=>e=.returned (.int .u32 (aa (big 2 13 22 x)))/\w=w':=
 tl 2 13 22 x w (by decide) (by decide) (by decide)
theorem tq (i j k:Nat)(x:UInt32)(w:World)(b:0<i/\i<32)(a:0<j/\j<32)(f:0<k/\k<32):
  Calls prog 272 #[.int .u32 (aa x),.int .i64 i,.int .i64 j,.int .i64 k] w λe w'=>e=.returned (.int .u32 (aa (small i j k x)))/\∃ n,w'=w.drewN n:=by
 have n:∀ i:Nat,i<32->IntKind.i64.wrap (-(i:Int)) = -i:=λi h=>by rw[Mi];omega
 have q:=n i b.2;have p:=n j a.2;have r:=jb k x;obtain⟨o,m⟩:=b;obtain⟨l,g⟩:=a;obtain⟨d,c⟩:=f;clear n;go_enter func272,ntmps272;go_wp2;go_quiet ((go_at_call 273;exact pM (tk _ _ _ (by assumption) (by assumption))))
 go_wp2;go_ret;exact⟨rfl,_,rfl⟩
theorem zX (x:UInt32)(w:World):Calls prog 272 #[.int .u32 (aa x),.int .i64 17,.int .i64 19,.int .i64 10] w λe w'=>e=.returned (.int .u32 (aa (small 17 19 10 x)))/\∃ n,w'=w.drewN n:=
 tq 17 19 10 x w (by decide) (by decide) (by decide)
theorem zY (x:UInt32)(w:World):Calls prog 272 #[.int .u32 (aa x),.int .i64 7,.int .i64 18,.int .i64 3] w λe w'=>e=.returned (.int .u32 (aa (small 7 18 3 x)))/\∃ n,w'=w.drewN n:=
 tq 7 18 3 x w (by decide) (by decide) (by decide)
theorem zZ (i:Nat)(x:UInt32)(w:World)(d:0<i)(c:i<32):
  Calls prog 258 #[.int .u32 (aa x),.int .u32 i] w λe w'=>e=.returned (.int .u32 (aa (ja i x)))/\w=w':=by
 have f:IntKind.u32.wrap (32 - (i:Int))=32 - i:=by rw[Ll];omega
 have g:(32 - (i:Int)).toNat=32 - i:=by omega
 have a:=jb i x;have b:=lO (32 - i) x;go_enter func258,ntmps258;go_wp2;go_ret;exact⟨rfl,rfl⟩
def ub (b:UInt8):Int:=(b.toNat:Int)
theorem jd (b:UInt8):0<=ub b:=Int.natCast_nonneg _
theorem je (b:UInt8):ub b<256:=by unfold ub;have:=b.toNat_lt;omega
theorem tt (a b c d:UInt8):ub a*16777216+ub b*65536+ub c*256+ub d=aa (gw a b c d):=by
 unfold gw ub;have:=a.toNat_lt;have:=b.toNat_lt;have:=c.toNat_lt;have:=d.toNat_lt;rw[tg _ (by omega)];omega
theorem Rd.row {a:Option Addr}{n c:Nat}{l:List UInt8}(h:Rd w (.slice a n c) l)(e:0<n):
 ∃ b d,a=some ⟨b,d,none⟩/\b<w.heap.size/\∀ i,i<n->w.cell? ⟨b,d+i,none⟩=some (.int .u8 (ub (l.getD i 0))):=h.at 0 e
theorem Aa (v:Value)(l:List UInt8)(d:Nat)(w:World)(h:Rd w v l)(Z:d+4<=l.length):
  Calls prog 257 #[v,.int .i64 d] w λe w'=>e=.returned (.int .u32 (aa (gw (l.getD d 0) (l.getD (d+1) 0) (l.getD (d+2) 0) (l.getD (d+3) 0))))/\∃ n,w'=w.drewN n:=by
 obtain⟨a,c,rfl,q,p⟩:=h.shape;unfold maxLen at p;obtain⟨b,o,rfl,hb,j⟩:=h.row (by omega);have c0:=j d (by omega);have c1:=j (d+1) (by omega);have c2:=j (d+2) (by omega);have c3:=j (d+3) (by omega);have m:=tt (l.getD d 0) (l.getD (d+1) 0) (l.getD (d+2) 0) (l.getD (d+3) 0);generalize l.getD d 0=g at *;generalize l.getD (d+1) 0=f at *;generalize l.getD (d+2) 0=i at *;generalize l.getD (d+3) 0=k at *;have B:=jd g;have A:=jd f;have z:=jd i;have y:=jd k;have u:=je g;have t:=je f;have s:=je i;have r:=je k;clear j;have Y:(d:Int)<(l.length:Int):=by omega
 have X:(d:Int)+1<(l.length:Int):=by omega
 have V:(d:Int)+2<(l.length:Int):=by omega
 have U:(d:Int)+3<(l.length:Int):=by omega
 have N:(0:Int)<=(d:Int)+1:=by omega
 have M:(0:Int)<=(d:Int)+2:=by omega
 have L:(0:Int)<=(d:Int)+3:=by omega
 have T:IntKind.i64.wrap ((d:Int)+1)=(d:Int)+1:=IA _ (by omega);have S:IntKind.i64.wrap ((d:Int)+2)=(d:Int)+2:=IA _ (by omega);have R:IntKind.i64.wrap ((d:Int)+3)=(d:Int)+3:=IA _ (by omega);have t1:((d:Int)+1).toNat=d+1:=by omega
 have t2:((d:Int)+2).toNat=d+2:=by omega
 have G:((d:Int)+3).toNat=d+3:=by omega
 have W:∀ x:Int,0<=x->x<4294967296->IntKind.u32.wrap x=x:=λx h0 q=>by rw[Ll];omega
 have F:=W (ub g) (by omega) (by omega);have E:=W (ub f) (by omega) (by omega);have D:=W (ub i) (by omega) (by omega);have C:=W (ub k) (by omega) (by omega);have Q:=W (ub g*16777216) (by omega) (by omega);have P:=W (ub f*65536) (by omega) (by omega);have O:=W (ub i*256) (by omega) (by omega);have K:=W (ub g*16777216+ub f*65536) (by omega) (by omega);have J:=W (ub g*16777216+ub f*65536+ub i*256) (by omega) (by omega);have I:=W (ub g*16777216+ub f*65536+ub i*256+ub k) (by omega) (by omega);have H:=Lib.hid m;clear W m B A z y u t s r;go_enter func257,ntmps257;go_wp2;go_quiet (fail)
 go_wp2;go_ret;exact⟨by rw[<-H.out];rfl,_,rfl⟩
theorem qo (n:Int)(x:UInt32)(w:World)(a:0<n)(b:n<32):
  Calls prog 258 #[.int .u32 (aa x),.int .u32 n] w λe w'=>e=.returned (.int .u32 (aa (ja n.toNat x)))/\w=w':=by
 obtain⟨i,rfl⟩:=IR (Int.le_of_lt a);rw[IM];exact zZ i x w (by omega) (by omega)
theorem Ab (x:Int)(v:Value)(l:List UInt8)(a:Nat)(w:World)(h:Rd w v l)(c:a+4<=l.length)(b:x=a):
  Calls prog 257 #[v,.int .i64 x] w λe w'=>e=.returned (.int .u32 (aa (gw (l.getD a 0) (l.getD (a+1) 0) (l.getD (a+2) 0) (l.getD (a+3) 0))))/\∃ n,w'=w.drewN n:=by
 subst b;exact Aa v l a w h c
theorem tu (n:Int)(w:World):
  Calls prog 249 #[.int .i64 n] w λe w'=>(∃ v,e=.returned v/\Rd w' v (jc n))/\Kp w w':=by
 by_cases m:0<=n/\n<=1125899906842624
 ·have D:jc n=pad n.toNat:=if_pos m
  rw[D];clear D;obtain⟨m,S⟩:=m;obtain⟨n,rfl⟩:=IR m;rw[IM];obtain⟨f,I⟩:∃ f,fill n=f:=⟨_,rfl⟩;have H:=kw n;have G:=kx n;have j:=zT n;have c:=zS n;have t:(119 - (n:Int) % 64).tmod 64=(f:Int):=by
   rw[Ji (by omega),<-I];unfold fill;omega
  rw[I] at H G j c;have s:(119 - (n:Int) % 64) % 64=(f:Int):=by rw[<-t,Ji (by omega)]
  have V:=Lib.hid c;have B:=Lib.hid G;have U:=Lib.hid j;have HB:=Lib.hid S;have W:IntKind.i64.wrap (8*(n:Int))=8*(n:Int):=by rw[Mi];omega
  clear I c G j;go_enter func249,ntmps249;have J:((9+f:Nat):Int)=1+(f:Int)+8:=by omega
  have P:=Lib.hid J;clear J;go_wp2_with(at_make;refine kt (z:=.int .u8 0) (b:=1) underlying24 info5 rfl (by decide) rfl _ _ rfl (9+f) (by rw[P.out];rfl) (by rw[P.out];rfl) (by omega) ?_;intro C o;have l:=Lib.hid o;clear o;have d:By 5 C w.heap.size (List.replicate (9+f) 0):=(by rw[l.out];exact By.fresh _ _ _);have r:Kp w C:=(by rw[l.out];exact(Kp.refl w).alloc _);have O:=d.cell 0 (by simp;omega);have N:=d.frozen 0)
  have u:By 5 (C.setCell ⟨w.heap.size,0,none⟩ (.int .u8 128)) w.heap.size (aP (List.replicate (9+f) 0) (pad n) (1+f)):=d.set 0 128 U.out;have q:Kp w (C.setCell ⟨w.heap.size,0,none⟩ (.int .u8 128)):=Below.setCell r (by simp) _;clear d r O N l t s;go_loopw[22] (λi wr=>∃ k:Nat,k<=8/\i=.int .i64 k/\By 5 wr w.heap.size (aP (List.replicate (9+f) 0) (pad n) (1+f+k))/\Kp w wr) (λi _=>8 - (intOf i).toNat)
  case atStart=>exact⟨0,by omega,rfl,u,q⟩
  case round=>
   clear u q;obtain⟨k,Y,rfl,y,p⟩:=hrel;by_cases F:k<8
   ·have a:=iH (List.replicate (9+f) 0) (pad n) (1+f+k) (by rw[B.out];simp) (by simp;omega) _ (V.out k F)
    have g:(aP (List.replicate (9+f) 0) (pad n) (1+f+k)).length=9+f:=by rw[gx _ _ _ (by rw[B.out];simp) (by simp;omega)];simp
    have O:=y.cell (1+f+k) (by rw[g];omega);have N:=y.frozen (1+f+k);have e1:(8*(7 - (k:Int))).toNat=8*(7 - k):=by omega
    have T:(8*(n:Int)) / 2 ^ (8*(7 - k))=((8*n / 256 ^ (7 - k):Nat):Int):=by
     have:(256:Nat) ^ (7 - k)=2 ^ (8*(7 - k)):=by rw[Nat.pow_mul]
     rw[this];simp
    obtain⟨X,M⟩:∃ X,8*n / 256 ^ (7 - k)=X:=⟨_,rfl⟩;rw[M] at T a;have K:((UInt8.ofNat X).toNat:Int)=(X:Int) % 256:=by simp
    have R:(1+(f:Int)+(k:Int))<9+(f:Int):=by omega
    have Q:(1+(f:Int)+(k:Int)).toNat=1+f+k:=by omega
    have H7:(0:Int)<=7 - (k:Int):=by omega
    have A:=Lib.hid (IC a K);clear a M g K;go_wp2_with fail;go_roundw
    case rel=>
     refine⟨k+1,by omega,by go_num,?_,Below.setCell p (by simp) _⟩;have h:=y.set (1+f+k) (UInt8.ofNat X) A.out.1;rw[A.out.2] at h;exact h
    case measure=>simp[intOf];omega
   ·obtain rfl:k=8:=by omega
    have L:aP (List.replicate (9+f) 0) (pad n) (1+f+8)=pad n:=by
     rw[show 1+f+8=(pad n).length by rw[B.out];omega];exact jE _ _ (by rw[B.out];simp)
    rw[L] at y;clear L;go_wp2_with fail;go_ret;exact⟨⟨_,rfl,y.rdAll (by rw[B.out]) (IB _) (by unfold maxLen;omega)⟩,p⟩
 ·have D:jc n=[]:=if_neg m
  rw[D];by_cases h:n<0
  ·go_enter func249,ntmps249
   go_wp2;go_ret;exact⟨⟨_,rfl,none,0,rfl,IB _,IO _,λ_=>rfl,λx E=>by cases E⟩,Kp.refl _⟩
  ·have Z:1125899906842624<n:=by omega
   clear m;go_enter func249,ntmps249;go_wp2;go_ret;exact⟨⟨_,rfl,none,0,rfl,IB _,IO _,λ_=>rfl,λx E=>by cases E⟩,Kp.refl _⟩
theorem Ac (n:Int)(w:World):
  Calls prog 223 #[.int .i64 n] w λe w'=>(∃ v,e=.returned v/\Rd w' v (jc n))/\Kp w w':=by
 have U:=ag;by_cases t:0<=n/\n<=1125899906842624
 ·have s:jc n=pad n.toNat:=if_pos t
  rw[s];clear s;obtain⟨t,S⟩:=t;obtain⟨n,rfl⟩:=IR t;rw[IM];obtain⟨f,D⟩:∃ f,fill n=f:=⟨_,rfl⟩;have H:=kw n;have z:∀ k:Nat,k<=f->(((n:Int)+((k:Int)+1)+8) % 64=0↔k=f):=λk J=>by
   have:f=(119 - n % 64) % 64:=D.symm;omega
  have s:pad n=128 :: List.replicate f 0++be 8 (8*n):=by unfold pad;rw[D]
  rw[D] at H;have C:=Lib.hid z;have W:=Lib.hid s;have HB:=Lib.hid S;have hw:IntKind.i64.wrap (8*(n:Int))=8*(n:Int):=by rw[Mi];omega
  clear D z s;go_enter func223,ntmps223;go_wp2_with fail;go_loopw[3] (λv wr=>∃ k:Nat,k<=f/\Ow 5 wr w.heap.size v (128 :: List.replicate k 0)/\Kp w wr) (λv wr=>f - (match v with|.slice _ n _=>n - 1|_=>0))
  case atStart=>exact⟨0,by omega,Ow.lit w 5 w.heap.size 1 _ [128] (IB _) rfl (by decide) rfl,(Kp.refl w).alloc _⟩
  case round=>
   obtain⟨k,J,d,g⟩:=hrel;obtain⟨a,c,rfl,B,A⟩:=d.rd.shape;have P:(128 :: List.replicate k 0:List UInt8).length=k+1:=by simp
   rw[P] at d B ⊢;unfold maxLen at A;by_cases p:k<f
   ·have u:¬((n:Int)+((k:Int)+1)+8) % 64=0:=by rw[C.out k J];omega
    go_wp2_with(at_builtin;refine cj U rfl _ _ rfl w.heap.size _ _ rfl (d.kp ((Kp.refl _).alloc _)) _ [0] rfl (Rd.box _ _ _ 0 rfl) ?c1 ?c2 ?_;rotate_right;intro M w2 l G _)
    case c1=>simp;omega
    case c2=>have:=g.size;simp;omega
    have R:(128 :: List.replicate k 0++[0]:List UInt8)=128 :: List.replicate (k+1) 0:=by rw[LH,JG]
    rw[R] at l;go_roundw
    case rel=>exact⟨k+1,by omega,l,Kp.grown (g.alloc _) G d.own_ge⟩
    case measure=>
     obtain⟨a',c',rfl,_,_⟩:=l.rd.shape;simp;omega
   ·obtain rfl:k=f:=by omega
    have u:((n:Int)+((k:Int)+1)+8) % 64=0:=(C.out k (IB _)).2 rfl;clear p;go_wp2_with fail;go_loopw[3,5] (λv i wr=>∃ j:Nat,j<=8/\i=.int .i64 (56 - 8*(j:Int))/\Ow 5 wr w.heap.size v (128 :: List.replicate k 0++(be 8 (8*n)).take j)/\Kp w wr) (λ_ i _=>(64+intOf i).toNat)
    case atStart=>exact⟨0,by omega,rfl,by rw[Lq,JV];exact d,g⟩
    case round=>
     clear d g u B A;obtain⟨j,hj,rfl,d,g⟩:=hrel;by_cases p:j<8
     ·have T:(8*(n:Int)) / 2 ^ (56 - 8*j)=((8*n / 256 ^ (7 - j):Nat):Int):=by
       have:(256:Nat) ^ (7 - j)=2 ^ (56 - 8*j):=by rw[show 56 - 8*j=8*(7 - j) by omega,Nat.pow_mul]
       rw[this];simp
      have e1:(56 - 8*(j:Int)).toNat=56 - 8*j:=by omega
      have Q:0<=56 - 8*(j:Int):=by omega
      have m:=qn 8 (8*n) j p;have o:(be 8 (8*n)).take (j+1)=(be 8 (8*n)).take j++[UInt8.ofNat (8*n / 256 ^ (7 - j))]:=by
       have r:j<(be 8 (8*n)).length:=by rw[bT];exact p
       rw[IP r];rw[Iy r] at m;rw[Ld m]
      obtain⟨X,K⟩:∃ X,8*n / 256 ^ (7 - j)=X:=⟨_,rfl⟩;rw[K] at T o;obtain⟨E,q⟩:∃ b:UInt8,UInt8.ofNat X=b:=⟨_,rfl⟩;have N:(X:Int) % 256=(E.toNat:Int):=by rw[<-q];simp
      rw[q] at o;have y:(128 :: List.replicate k 0++(be 8 (8*n)).take j:List UInt8).length<=100:=by simp[bT];omega
      have V:=Lib.hid o;obtain⟨L,I⟩:∃ L,(128 :: List.replicate k 0++(be 8 (8*n)).take j:List UInt8)=L:=⟨_,rfl⟩;rw[I] at d y;have Y:=Lib.hid I;have O:IntKind.u8.wrap (X:Int)=(E.toNat:Int):=by rw[JQ,N]
      have Z:=Lib.hid q;clear o m K I q;go_wp2_with(at_builtin;refine cj U rfl _ _ rfl w.heap.size _ _ rfl (d.kp ((Kp.refl _).alloc _)) _ [E] rfl (Rd.box _ _ _ E rfl) ?c1 ?c2 ?_;rotate_right;intro M w2 l G _)
      case c1=>simp;omega
      case c2=>have:=g.size;simp;omega
      go_roundw
      case rel=>exact⟨j+1,by omega,by congr 1;omega,by rw[V.out,<-Kb,Y.out];exact l,Kp.grown (g.alloc _) G d.own_ge⟩
      case measure=>simp[intOf];omega
     ·obtain rfl:j=8:=by omega
      rw[Jm (by rw[bT];exact IB _)] at d;rw[<-W.out] at d;go_wp2_with fail;go_ret;exact⟨⟨_,rfl,d.rd⟩,g⟩
 ·have s:jc n=[]:=if_neg t
  rw[s];by_cases h:n<0
  ·go_enter func223,ntmps223
   go_wp2;go_ret;exact⟨⟨_,rfl,none,0,rfl,IB _,IO _,λ_=>rfl,λx F=>by cases F⟩,Kp.refl _⟩
  ·have h2:1125899906842624<n:=by omega
   clear t;go_enter func223,ntmps223;go_wp2;go_ret;exact⟨⟨_,rfl,none,0,rfl,IB _,IO _,λ_=>rfl,λx F=>by cases F⟩,Kp.refl _⟩
theorem ez (x:Int)(b:0<=x)(a:x<18446744073709551616):IntKind.u64.wrap x=x:=by
 simp[IntKind.wrap,IntKind.bits,IntKind.signed];omega
theorem Ao (n:Nat)(w:World)(G:1<=n)(v:(n:Int)<9223372036854775808):
  Calls prog 271 #[.int .u64 n] w λe w'=>e=.returned (.int .u64 (dy n))/\w=w':=by
 obtain⟨R,o⟩:∃ R,dy n=R:=⟨_,rfl⟩;rw[o];unfold dy at o;have y:=Lib.hid o;clear o;go_enter func271,ntmps271;go_wp2_with fail;go_loopw[3] (λx wr=>(∃ k:Nat,x=.int .u64 k/\1<=k/\(k:Int)<=2097152/\∃ f,k<=f/\gy f n k=R)/\wr=w) (λx _=>(intOf x).toNat)
 case atStart=>exact⟨⟨2097152,rfl,by decide,by decide,2097152,IB _,y.out⟩,rfl⟩
 case round=>
  obtain⟨⟨k,rfl,d,a,f,E,u⟩,rfl⟩:=hrel;have z:=Lib.hid u;have D:(1:Int)<=(k:Int)*(k:Int):=by
   have:=Kc d d;have r:((1*1:Nat):Int)<=((k*k:Nat):Int):=by omega
   rwa [Ky] at r
  have b:(k:Int)*(k:Int)<=4398046511104:=by
   have r:=Int.mul_le_mul a a (by omega) (by omega);exact r
  have C:¬(k:Int)*(k:Int)=0:=by omega
  have J:IntKind.u64.wrap (2*(k:Int))=2*(k:Int):=ez _ (by omega) (by omega);have I:IntKind.u64.wrap ((k:Int)*(k:Int))=(k:Int)*(k:Int):=ez _ (by omega) (by omega);have F:0<=(n:Int) / ((k:Int)*(k:Int)):=Int.ediv_nonneg (by omega) (by omega);have p:(n:Int) / ((k:Int)*(k:Int))<=(n:Int):=Int.ediv_le_self _ (by omega);have H:IntKind.u64.wrap (2*(k:Int)+(n:Int) / ((k:Int)*(k:Int)))=2*(k:Int)+(n:Int) / ((k:Int)*(k:Int)):=ez _ (by omega) (by omega);have K:IntKind.u64.wrap ((n:Int) / ((k:Int)*(k:Int)))=(n:Int) / ((k:Int)*(k:Int)):=ez _ (by omega) (by omega);have t:(2*(k:Int)+(n:Int) / ((k:Int)*(k:Int))).tdiv 3=((eR n k:Nat):Int):=by
   rw[Jp (by omega)];unfold eR;simp
  have i:=tv n k G d;have h:((eR n k:Nat):Int)<18446744073709551616:=by
   rw[<-t,Jp (by omega)];omega
  have A:IntKind.u64.wrap ((eR n k:Nat):Int)=((eR n k:Nat):Int):=ez _ (by omega) h;obtain⟨q,c⟩:∃ q,eR n k=q:=⟨_,rfl⟩;rw[c] at t i A;have s:=Lib.hid c;have B:=Lib.hid (IC a (IC b v));clear u a b v y p h c;by_cases j:k<=q
  ·go_wp2_with fail
   go_ret;exact⟨by rw[<-z.out,Ad f n k (by rw[s.out];exact j)];rfl,rfl⟩
  ·go_wp2_with fail
   go_roundw
   case rel=>
    obtain⟨g,m,l⟩:=Ae f n k E (by rw[s.out];exact j);have:=B.out.1;rw[s.out] at m l;exact⟨⟨q,rfl,i,by omega,g,m,l.trans z.out⟩,trivial⟩
   case measure=>simp[intOf];omega
theorem Ap (p:Nat)(w:World)(M:1<=p)(I:p<312):
  Calls prog 265 #[.int .u64 p] w λe w'=>e=.returned (.int .u32 (aa (lU p)))/\w=w':=by
 have a:qq p=true:=(Af ⟨p,I⟩).resolve_left (by simp;omega);unfold qq at a;simp only[Kt,decide_eq_true_eq] at a;obtain⟨t,s⟩:=a;have z:((bZ p:Nat):Int)=(p:Int)*18014398509481984:=by unfold bZ;simp
 have n:=tx 2097152 (bZ p) 2097152 (by unfold bZ;omega) (by decide);have m:lU p=UInt32.ofNat (qp p):=rfl;have C:qp p=dy (bZ p)*16384+lS p*16384 / (3*dy (bZ p)*dy (bZ p)):=rfl;have q:lS p=bZ p - dy (bZ p)*dy (bZ p)*dy (bZ p):=rfl;change 1<=dy (bZ p)/\dy (bZ p)<=2097152 at n;have i:((bZ p:Nat):Int)<9223372036854775808:=by rw[z];omega
 have j:1<=bZ p:=by unfold bZ;omega
 have J:=Lib.hid (Ao (bZ p));rw[C] at m;generalize dy (bZ p)=x at *;generalize bZ p=N at *;generalize lS p=r at *;clear C;have E:(1:Int)<=(x:Int):=by omega
 have b:(x:Int)<=2097152:=by omega
 have D:(1:Int)<=(x:Int)*(x:Int):=by
  have:=Kc n.1 n.1;have l:((1*1:Nat):Int)<=((x*x:Nat):Int):=by omega
  rwa [Ky] at l
 have c:(x:Int)*(x:Int)<=4398046511104:=by
  have l:=Int.mul_le_mul b b (by omega) (by omega);exact l
 have o:(x:Int)*(x:Int)*(x:Int)<=(N:Int):=by
  have l:((x*x*x:Nat):Int)<=(N:Int):=by omega
  rwa [Ky,Ky] at l
 have f:0<=(x:Int)*(x:Int)*(x:Int):=Int.mul_nonneg (by omega) (by omega);have k:3*(x:Int)*(x:Int)=3*((x:Int)*(x:Int)):=by rw[Int.mul_assoc]
 have A:IntKind.u64.wrap ((p:Int)*18014398509481984)=(N:Int):=by rw[<-z];exact ez _ (by omega) (by omega)
 have P:IntKind.u64.wrap ((x:Int)*(x:Int))=(x:Int)*(x:Int):=ez _ (by omega) (by omega);have O:IntKind.u64.wrap ((x:Int)*(x:Int)*(x:Int))=(x:Int)*(x:Int)*(x:Int):=ez _ f (by omega);have g:(r:Int)=(N:Int) - (x:Int)*(x:Int)*(x:Int):=by
  have:((x*x*x:Nat):Int)=(x:Int)*(x:Int)*(x:Int):=by rw[Ky,Ky]
  omega
 have R:IntKind.u64.wrap ((N:Int) - (x:Int)*(x:Int)*(x:Int))=(r:Int):=by rw[<-g];exact ez _ (by omega) (by omega)
 have V:IntKind.u64.wrap ((x:Int)*16384)=(x:Int)*16384:=ez _ (by omega) (by omega);have T:IntKind.u64.wrap ((r:Int)*16384)=(r:Int)*16384:=ez _ (by omega) (by omega);have S:IntKind.u64.wrap (3*(x:Int))=3*(x:Int):=ez _ (by omega) (by omega);have Q:IntKind.u64.wrap (3*(x:Int)*(x:Int))=3*(x:Int)*(x:Int):=ez _ (by omega) (by omega);have G:¬(3*(x:Int)*(x:Int)=0):=by omega
 have v:0<=(r:Int)*16384 / (3*(x:Int)*(x:Int)):=Int.ediv_nonneg (by omega) (by omega);have h:(r:Int)*16384 / (3*(x:Int)*(x:Int))<=(r:Int)*16384:=Int.ediv_le_self _ (by omega);have H:((r:Int)*16384).tdiv (3*(x:Int)*(x:Int))=(r:Int)*16384 / (3*(x:Int)*(x:Int)):=Jp (by omega);obtain⟨d,y⟩:∃ d:Nat,r*16384 / (3*x*x)=d:=⟨_,rfl⟩;have u:(r:Int)*16384 / (3*(x:Int)*(x:Int))=(d:Int):=by rw[<-y];simp
 rw[u] at v h H;rw[y] at m;have X:IntKind.u64.wrap (d:Int)=(d:Int):=ez _ (by omega) (by omega);have W:IntKind.u64.wrap ((x:Int)*16384+(d:Int))=(x:Int)*16384+(d:Int):=ez _ (by omega) (by omega);have U:IntKind.u32.wrap ((x:Int)*16384+(d:Int))=aa (lU p):=by
  rw[m,th,Ll];simp
 have L:=Lib.hid i;have K:=Lib.hid j;have B:0<=(x:Int)*(x:Int):=by omega
 have F:0<=(p:Int):=by omega
 clear i j b c o t s z m q n g k y h;go_enter func265,ntmps265;go_wp2_with fail;refine(J.out _ K.out L.out).mono ?_;rintro e w' ⟨rfl,rfl⟩;go_wp2_with fail;go_ret;exact⟨rfl,rfl⟩
def aZ (n:Nat):List UInt32:=List.replicate n 0
theorem gX (n:Nat):(aZ n).length=n:=by simp[aZ]
theorem gz (l:List UInt8):∀ t,(de l t).length=t
 | 0=>rfl
 | t+1=>by simp[de,gz l t]
def bK (l:List UInt8)(t:Nat):List UInt32:=de l t++aZ (64 - t)
theorem lW (l:List UInt8)(t:Nat)(h:t<=64):(bK l t).length=64:=by simp[bK,gz,gX];omega
theorem oo (l:List UInt8)(t:Nat)(h:t<64):(bK l t).set t (gU l (de l t) t)=bK l (t+1):=by
 unfold bK aZ;rw[Lz _ _ (by rw[gz];omega),gz,Lb,show 64 - t=(64 - (t+1))+1 by omega,List.replicate_succ];simp[de]
theorem jf (l:List UInt8)(t i:Nat)(h:i<t):(bK l t).getD i 0=(de l t).getD i 0:=by
 unfold bK;rw[Iw,Jh (by rw[gz];exact h),Iw]
theorem tA (l:List UInt8):bK l 64=de l 64:=by simp[bK,aZ]
theorem Ar (n:Nat):aX (aZ n)=Array.replicate n (.int .u32 0):=by
 apply Array.ext';simp[aX,aZ,lP,aa]
theorem fw (n:Int)(b:0<=n)(a:n<2 ^ 32):IntKind.u32.wrap n=n:=by rw[Ll];omega
theorem As (a b c d:UInt8):
  (IntKind.u32.wrap (ub a)=ub a/\IntKind.u32.wrap (ub b)=ub b/\IntKind.u32.wrap (ub c)=ub c/\IntKind.u32.wrap (ub d)=ub d) /\
  (IntKind.u32.wrap (ub a*16777216)=ub a*16777216/\IntKind.u32.wrap (ub b*65536)=ub b*65536/\IntKind.u32.wrap (ub c*256)=ub c*256) /\
  (bits .or .u32 (ub a*16777216) (ub b*65536)=ub a*16777216+ub b*65536 /\
   bits .or .u32 (ub a*16777216+ub b*65536) (ub c*256)=ub a*16777216+ub b*65536+ub c*256 /\
   bits .or .u32 (ub a*16777216+ub b*65536+ub c*256) (ub d)=aa (gw a b c d)):=by
 have e:=tt a b c d;have m:=jd a;have k:=jd b;have i:=jd c;have g:=jd d;have l:=je a;have j:=je b;have h:=je c;have f:=je d;refine⟨⟨fw _ (by omega) (by omega),fw _ (by omega) (by omega),fw _ (by omega) (by omega),fw _ (by omega) (by omega)⟩,
  ⟨fw _ (by omega) (by omega),fw _ (by omega) (by omega),fw _ (by omega) (by omega)⟩,?_,?_,?_⟩
 ·exact bits_join .u32 32 (by decide) fw 24 _ _ (by omega) (by omega) (by omega) (by omega) (by omega) (by omega)
 ·exact bits_join .u32 32 (by decide) fw 16 _ _ (by omega) (by omega) (by omega) (by omega) (by omega) (by omega)
 ·rw[bits_join .u32 32 (by decide) fw 8 _ _ (by omega) (by omega) (by omega) (by omega) (by omega) (by omega),e]
def got (W:World)(p:Addr):Value:=(W.cell? p).getD undef
def So (T:TypeId)(w:World)(g:Nat)(L:List UInt32)(t:Nat)(W:World):Prop:=∃ x,Arr T W (g+1) (L.set t x)/\Arr T W g (aZ 64)/\Below g w W
theorem So.start (c:t<L.length)(h:Arr T W (g+1) L)(b:Arr T W g (aZ 64))(a:Below g w W):So T w g L t W:=
 ⟨L[t],by rw[Lo];exact h,b,a⟩
theorem So.drewN (h:So T w g L t W)(n:Nat):So T w g L t (W.drewN n):=by
 obtain⟨x,c,a,b⟩:=h;exact⟨x,c.drewN n,a.drewN n,b.trans ((Kp.refl W).drewN n |>.mono (by have:=a.lt;omega))⟩
theorem So.drew (h:So T w g L t W):So T w g L t W.drew:=h.drewN 1
theorem So.set (h:So T w g L t W)(y:UInt32):So T w g L t (W.setCell ⟨g+1,t,none⟩ (.int .u32 (aa y))):=by
 obtain⟨x,c,b,a⟩:=h;refine⟨y,?_,b.other _ _ (by simp),a.setCell (p:=⟨g+1,t,none⟩) (by simp) _⟩;have:=c.set t y _ rfl;rwa [List.set_set] at this
theorem So.facts (q:t<L.length)(m:16<=t)(j f b a:UInt32)(p:L.getD (t - 2) 0=j)(o:L.getD (t - 7) 0=f)(e:L.getD (t - 15) 0=b)(d:L.getD (t - 16) 0=a)
  (h:So T w g L t W):W.cell? ⟨g+1,t - 2,none⟩=some (.int .u32 (aa j))/\W.cell? ⟨g+1,t - 7,none⟩=some (.int .u32 (aa f))/\W.cell? ⟨g+1,t - 15,none⟩=some (.int .u32 (aa b))/\W.cell? ⟨g+1,t - 16,none⟩=some (.int .u32 (aa a)) /\
   W.cell? ⟨g+1,t,none⟩=some (got W ⟨g+1,t,none⟩)/\W.frozen? ⟨g+1,t,none⟩=false/\So T w g L t W:=by
 have n:=h;obtain⟨x,c,u,s⟩:=n;have l:(L.set t x).length=L.length:=by simp
 have k:∀ i,i<t->W.cell? ⟨g+1,i,none⟩=some (.int .u32 (aa (L.getD i 0))):=λi r=>by
  have:=c.cell i (by rw[l];omega);rw[this,Iw,List.getElem?_set_ne (by omega),Iw]
 subst p o e d;refine⟨k _ (by omega),k _ (by omega),k _ (by omega),k _ (by omega),?_,c.frozen t (by omega),h⟩;have:=c.cell t (by omega);unfold got;rw[this];rfl
theorem At (v:Value)(l:List UInt8)(w:World)(h:Rd w v l)(hl:l.length=64):
  Calls prog 267 #[v] w λe w'=>e=.returned (.agg (aX (de l 64)))/\Kp w w':=by
 obtain⟨a,c,rfl,h1,h2⟩:=h.shape;rw[hl] at h h1 ⊢;unfold maxLen at h2;obtain⟨b,V,rfl,hb,r⟩:=h.row (by omega);go_enter func267,ntmps267;go_wp2_with fail;go_loopw[7] (λi wr=>∃ t:Nat,t<=16/\i=.int .i64 t/\Arr 264 wr w.heap.size (aZ 64)/\Arr 264 wr (w.heap.size+1) (bK l t)/\Kp w wr) (λi _=>16 - (intOf i).toNat)
 case atStart=>
  refine⟨0,by omega,rfl,?_,?_,((Kp.refl w).alloc _).alloc _⟩
  ·exact(Arr.new _ _ _ (aZ 64) rfl).alloc _
  ·have:=Arr.new 264 (w.alloc (.cells (aX (aZ 64)) 264)) (aX (aZ 64)) (bK l 0) rfl
   rw[IQ] at this;exact this
 case round=>
  obtain⟨t,N,rfl,f,j,g⟩:=hrel;by_cases k:t<16
  ·have c0:=g.cell (r (4*t) (by omega))
   have c1:=g.cell (r (4*t+1) (by omega));have c2:=g.cell (r (4*t+2) (by omega));have c3:=g.cell (r (4*t+3) (by omega));have y:gU l (de l t) t=gw (l.getD (4*t) 0) (l.getD (4*t+1) 0) (l.getD (4*t+2) 0) (l.getD (4*t+3) 0):=by unfold gU;rw[if_pos k]
   have d:=(oo l t (by omega));rw[y] at d;have B:=j.set t (gw (l.getD (4*t) 0) (l.getD (4*t+1) 0) (l.getD (4*t+2) 0) (l.getD (4*t+3) 0)) _ rfl;rw[d] at B;have A:=f.other ⟨w.heap.size+1,t,none⟩ (.int .u32 (aa (gw (l.getD (4*t) 0) (l.getD (4*t+1) 0) (l.getD (4*t+2) 0) (l.getD (4*t+3) 0)))) (by simp);have D:=Below.setCell g (p:=⟨w.heap.size+1,t,none⟩) (by simp) (.int .u32 (aa (gw (l.getD (4*t) 0) (l.getD (4*t+1) 0) (l.getD (4*t+2) 0) (l.getD (4*t+3) 0))));have ca:=j.cell t (by rw[lW l t (by omega)];omega);have cf:=j.frozen t (by rw[lW l t (by omega)];omega);generalize l.getD (4*t) 0=Q at *;generalize l.getD (4*t+1) 0=P at *;generalize l.getD (4*t+2) 0=C at *;generalize l.getD (4*t+3) 0=O at *;obtain⟨⟨v0,v1,v2,v3⟩,⟨m0,m1,m2⟩,o1,o2,o3⟩:=As Q P C O;simp only[<-Kw] at c1 c2 c3;have H:=Lib.hid d;have e4:4*t+4 - 4*t=4:=by omega
   clear r d y;go_wp2_with fail;rw[e4];have M:(t:Int)<64:=by omega
   go_still_tail 24,(by kernel_rfl)
   go_wp2_with fail;go_roundw
   case rel=>exact⟨t+1,by omega,by go_num,A.drew,B.drew,D.drew⟩
   case measure=>simp[intOf];omega
  ·obtain rfl:t=16:=by omega
   clear r k N;go_wp2_with fail;go_loopw[6] (λi wr=>∃ t:Nat,16<=t/\t<=64/\i=.int .i64 t/\Arr 264 wr w.heap.size (aZ 64)/\Arr 264 wr (w.heap.size+1) (bK l t)/\Kp w wr) (λi _=>64 - (intOf i).toNat)
   case atStart=>exact⟨16,by omega,by omega,rfl,f,j,g⟩
   case round=>
    clear f j g;obtain⟨t,E,N,rfl,f,j,g⟩:=hrel;by_cases k:t<64
    ·have z:=lW l t (by omega)
     have y:gU l (de l t) t=cK (cK (cK (small 17 19 10 ((bK l t).getD (t - 2) 0)) ((bK l t).getD (t - 7) 0)) (small 7 18 3 ((bK l t).getD (t - 15) 0))) ((bK l t).getD (t - 16) 0):=by
      unfold gU;rw[if_neg (by omega),jf l t _ (by omega),jf l t _ (by omega),jf l t _ (by omega),jf l t _ (by omega)]
     have d:=(oo l t (by omega));rw[y] at d;obtain⟨C,I⟩:∃ x,(bK l t).getD (t - 2) 0=x:=⟨_,rfl⟩;obtain⟨L,G⟩:∃ x,(bK l t).getD (t - 7) 0=x:=⟨_,rfl⟩;obtain⟨u,o⟩:∃ x,(bK l t).getD (t - 15) 0=x:=⟨_,rfl⟩;obtain⟨s,m⟩:∃ x,(bK l t).getD (t - 16) 0=x:=⟨_,rfl⟩;rw[I,G,o,m] at d;have F:∀ W,So 264 w w.heap.size (bK l t) t W->_:=λW h=>So.facts (by omega) E C L u s I G o m h
     have K:=Lib.hid F;have J:So 264 w w.heap.size (bK l t) t wr:=So.start (by omega) j f g;have i2:IntKind.i64.wrap ((t:Int) - 2)=(t:Int) - 2:=IA _ (by omega);have i7:IntKind.i64.wrap ((t:Int) - 7)=(t:Int) - 7:=IA _ (by omega);have ab:IntKind.i64.wrap ((t:Int) - 15)=(t:Int) - 15:=IA _ (by omega);have Z:IntKind.i64.wrap ((t:Int) - 16)=(t:Int) - 16:=IA _ (by omega);have n2:((t:Int) - 2).toNat=t - 2:=by omega
     have n7:((t:Int) - 7).toNat=t - 7:=by omega
     have Y:((t:Int) - 15).toNat=t - 15:=by omega
     have X:((t:Int) - 16).toNat=t - 16:=by omega
     have p2:(2:Int)<=(t:Int):=by omega
     have p7:(7:Int)<=(t:Int):=by omega
     have U:(15:Int)<=(t:Int):=by omega
     have T:(16:Int)<=(t:Int):=by omega
     have q2:(t:Int) - 2<64:=by omega
     have q7:(t:Int) - 7<64:=by omega
     have S:(t:Int) - 15<64:=by omega
     have R:(t:Int) - 16<64:=by omega
     have q:(t:Int)<64:=by omega
     have H:=Lib.hid d;clear d y z F I G o m;go_wp2_with fail;go_region_held3 (λW=>W.cell? ⟨w.heap.size+1,t - 2,none⟩=some (.int .u32 (aa C))/\W.cell? ⟨w.heap.size+1,t - 7,none⟩=some (.int .u32 (aa L))/\W.cell? ⟨w.heap.size+1,t - 15,none⟩=some (.int .u32 (aa u))/\W.cell? ⟨w.heap.size+1,t - 16,none⟩=some (.int .u32 (aa s))/\W.cell? ⟨w.heap.size+1,t,none⟩=some (got W ⟨w.heap.size+1,t,none⟩)/\W.frozen? ⟨w.heap.size+1,t,none⟩=false/\So 264 w w.heap.size (bK l t) t W)
      (first
       | (with_reducible exact K.out _ (J.drew))
       | (with_reducible exact K.out _ (J.drewN _))
       | (with_reducible exact K.out _ ((J.drewN _).set _)))
      (first
       | (go_at_call 272;(with_reducible refine(zX _ _).mono ?_);rintro e w' ⟨rfl,n,rfl⟩)
       | (go_at_call 272;(with_reducible refine(zY _ _).mono ?_);rintro e w' ⟨rfl,n,rfl⟩))
     all_goals
      go_wp2_with fail;go_roundw
      case rel=>
       repeat apply Exists.intro
       refine⟨?_,rfl⟩;exact⟨t+1,by omega,by omega,by go_num,(f.drewN _).other _ _ (by simp),(j.drewN _).setTo t _ H.out,Below.setCell (g.drewN _) (by simp) _⟩
      case measure=>simp[intOf];omega
    ·obtain rfl:t=64:=by omega
     rw[tA] at j;have ad:=g.size;go_wp2_with(first
      | (refine iG underlying264 (by kernel_rfl) rfl (.tmp 3) rfl (w.heap.size+1) (de l 64) rfl j (gz l 64) ?_)
      | (refine ti (by kernel_rfl) rfl (.tmp 2) (.tmp 69) rfl w.heap.size (aZ 64) (de l 64) rfl rfl f (gX 64) (gz l 64) ?_))
     refine bodyPost_ret (ku underlying264 (by kernel_rfl) rfl _ _ w.heap.size (de l 64) rfl (f.setRow _) (gz l 64)) rfl ?_;exact⟨rfl,below_setRow g (IB _) _⟩
theorem tB (x:UInt32):bits .xor .u32 IntKind.u32.max (aa x)=aa (td x):=by
 have:IntKind.u32.max=aa 0xffffffff:=by decide
 rw[this,lN];rfl
attribute [local go_sem] tB
def mix (A B:List UInt32)(i:Nat):List UInt32:=B.take i++A.drop i
theorem qw (A B:List UInt32)(i:Nat)(h:A.length=B.length)(a:i<=A.length):(mix A B i).length=A.length:=by simp[mix];omega
theorem tC (A B:List UInt32)(i:Nat)(h:A.length=B.length)(d:i<A.length)(x:UInt32)(a:B.getD i 0=x):(mix A B i).set i x=mix A B (i+1):=by
 unfold mix;have b:i<B.length:=by omega
 have c:(B.take i).length=i:=by simp;omega
 rw[Iw,Iy b] at a;rw[Lz _ _ (by omega),c,Lb,Kx d,Je,IP b,Kb];simp only[Lh] at a;rw[a];rfl
theorem Au (A B:List UInt32)(i:Nat)(h:A.length=B.length)(a:i<A.length):(mix A B i).getD i 0=A.getD i 0:=by
 unfold mix;have b:(B.take i).length=i:=by simp;omega
 rw[Iw,Jd (by omega),b,Lb,Kx a,Iw,Iy a];rfl
theorem Av (s r:S8)(i:Nat)(h:i<8):(s.add r).list.getD i 0=cK (s.list.getD i 0) (r.list.getD i 0):=by
 match i,h with
 | 0,_=>rfl
 | 1,_=>rfl
 | 2,_=>rfl
 | 3,_=>rfl
 | 4,_=>rfl
 | 5,_=>rfl
 | 6,_=>rfl
 | 7,_=>rfl
theorem tD:∃ a,prog.info? 247=some a/\a.size=1:=by
 have h:(prog.info? 247).map (·.size)=some 1:=by kernel_rfl
 cases hq:prog.info? 247 with
 | none=>rw[hq] at h;cases h
 | some a=>rw[hq] at h;exact⟨a,rfl,by simpa using h⟩
theorem lX (s:S8)(v:Value)(l:List UInt8)(gk:Nat)(k:List UInt32)(w:World)(h:Rd w v l)(hl:l.length=64)(hk:Arr 264 w gk k)(S:k.length=64):
  Calls prog 248 #[.agg (aX s.list),v,.pointer (some ⟨gk,0,none⟩)] w λe w'=>e=.returned (.agg (aX (lM k s l).list))/\Kp w w':=by
 obtain⟨a,c,rfl,h1,h2⟩:=h.shape;rw[hl] at h h1 ⊢;have HL:=Lib.hid hl;have ag:=Lib.hid S;clear hl S;go_enter func248,ntmps248;go_wp2_with fail;refine(At _ l _ (h.kp (((Kp.refl _).alloc _).alloc _)) HL.out).mono ?_;rintro e X ⟨rfl,A⟩;have B:Arr 252 X w.heap.size s.list:=((Arr.new _ w (aX s.list) s.list rfl).alloc _).kp A;have O:Arr 252 X (w.heap.size+1) (aZ 8):=by
  have:=Arr.new 252 (w.alloc (.cells (aX s.list) 252)) (aX (aZ 8)) (aZ 8) rfl;rw[IQ] at this;exact this.kp A
 have z:Kp w X:=(((Kp.refl w).alloc _).alloc _).trans A;have G:=hk.kp z;go_wp2_with(first
  | (refine gV (by kernel_rfl) rfl rfl (.tmp 7) (.tmp 24) rfl X.heap.size (aZ 64) (de l 64) rfl rfl (Arr.new _ _ _ _ rfl) (gX 64) (gz l 64) ?_;intro w2 hW j))
 have m:=j.arr (B.alloc _) (by have:=B.lt;omega);have U:=j.arr (O.alloc _) (by have:=O.lt;omega);have T:=j.arr (G.alloc _) (by have:=G.lt;omega);have C:Kp w w2:=j.below (z.alloc _) (z.size);clear j B O G z A hk h;have c0:w2.cell? ⟨w.heap.size,0,none⟩=some (.int .u32 (aa s.a)):=m.cell 0 (IV rfl);have c1:w2.cell? ⟨w.heap.size,1,none⟩=some (.int .u32 (aa s.b)):=m.cell 1 (IV rfl);have c2:w2.cell? ⟨w.heap.size,2,none⟩=some (.int .u32 (aa s.c)):=m.cell 2 (IV rfl);have c3:w2.cell? ⟨w.heap.size,3,none⟩=some (.int .u32 (aa s.d)):=m.cell 3 (IV rfl);have c4:w2.cell? ⟨w.heap.size,4,none⟩=some (.int .u32 (aa s.e)):=m.cell 4 (IV rfl);have c5:w2.cell? ⟨w.heap.size,5,none⟩=some (.int .u32 (aa s.f)):=m.cell 5 (IV rfl);have c6:w2.cell? ⟨w.heap.size,6,none⟩=some (.int .u32 (aa s.g)):=m.cell 6 (IV rfl);have c7:w2.cell? ⟨w.heap.size,7,none⟩=some (.int .u32 (aa s.h)):=m.cell 7 (IV rfl);go_quiet (fail)
 clear c0 c1 c2 c3 c4 c5 c6 c7;go_wp2_with fail;obtain⟨N,Q⟩:∃ N,w2.drewN nq=N:=⟨_,rfl⟩;have M:=m.drewN nq;have K:=U.drewN nq;have H:=T.drewN nq;have I:=hW.drewN nq;have u:Kp w (w2.drewN nq):=C.drewN nq;rw[Q] at M K H I u ⊢;clear Q m U T hW C;have E:=ag.out;have V:=gz l 64;go_loopw[8,9,10,11,12,13,14,15,41] (λsa sb sc sd se sf sg sh i wr=>∃ t:Nat,t<=64/\i=.int .i64 t/\(∃ r,r=nY k (de l 64) s t/\sa=.int .u32 (aa r.a)/\sb=.int .u32 (aa r.b)/\sc=.int .u32 (aa r.c)/\sd=.int .u32 (aa r.d)/\se=.int .u32 (aa r.e)/\sf=.int .u32 (aa r.f)/\sg=.int .u32 (aa r.g)/\sh=.int .u32 (aa r.h))/\∃ n,wr=N.drewN n) (λ_ _ _ _ _ _ _ _ i _=>64 - (intOf i).toNat)
 case atStart=>exact⟨0,by omega,rfl,⟨s,rfl,rfl,rfl,rfl,rfl,rfl,rfl,rfl,rfl⟩,0,rfl⟩
 case round=>
  obtain⟨t,ht,rfl,⟨r,Y,rfl,rfl,rfl,rfl,rfl,rfl,rfl,rfl⟩,n,rfl⟩:=hrel;by_cases o:t<64
  ·have ck:=(H.drewN n).cell t (by omega)
   have cw:=(I.drewN n).cell t (by omega);have HR:=Lib.hid Y;have q:(t:Int)<64:=by omega
   obtain⟨wn,F⟩:∃ wn,N.drewN n=wn:=⟨_,rfl⟩;rw[F] at ck cw ⊢;have af:=Lib.hid F;clear Y E V F;have ah:IntKind.u32.signed=false:=rfl;go_wp2_with((go_at_call 268;refine(tp _ _).mono ?_;rintro e w' ⟨rfl,rfl⟩))
   go_quiet ((go_at_call 268;exact pM (zW _ _)))
   go_wp2_with((go_at_call 268;refine(tp _ _).mono ?_;rintro e w' ⟨rfl,rfl⟩))
   go_roundw
   case rel=>exact⟨t+1,by omega,by go_num,⟨rnd r (k.getD t 0) ((de l 64).getD t 0),by rw[HR.out];rfl,rfl,rfl,rfl,rfl,rfl,rfl,rfl,rfl⟩,n+nq,by rw[<-af.out,World.drewN_drewN]⟩
   case measure=>simp[intOf];omega
  ·obtain rfl:t=64:=by omega
   have HR:=Lib.hid Y;have L:=M.drewN n;have J:=K.drewN n;have p:Kp w (N.drewN n):=u.drewN n;obtain⟨w4,P⟩:∃ w4,N.drewN n=w4:=⟨_,rfl⟩;rw[P] at L J p ⊢;clear Y E V P M K u H I ht o;go_wp2_with fail;go_loopw[105] (λi wr=>∃ t:Nat,t<=8/\i=.int .i64 t/\Arr 252 wr w.heap.size (mix s.list (s.add r).list t)/\Arr 252 wr (w.heap.size+1) (aZ 8)/\Kp w wr) (λi _=>8 - (intOf i).toNat)
   case atStart=>exact⟨0,by omega,rfl,L,J,p⟩
   case round=>
    clear L J p;obtain⟨i,hi,rfl,B,O,R⟩:=hrel;by_cases o:i<8
    ·have cb:=B.cell i (by rw[qw s.list (s.add r).list i rfl hi];exact o)
     have cf:=B.frozen i (by rw[qw s.list (s.add r).list i rfl hi];exact o);rw[Au s.list (s.add r).list i rfl o] at cb;have hs:=tC s.list (s.add r).list i rfl o _ (Av s r i o);have D:∀ W,(Instr.index 252 (.agg (aX r.list)) (.int .i64 i)).run prog W=.ok (.int .u32 (aa (r.list.getD i 0))) W:=λW=>by
      obtain⟨ie,ab,Z⟩:=tD;exact qt W 252 247 8 ie _ underlying252 ab Z underlying247 rfl _ rfl i o _ (qm r.list i o)
     have ad:∀ W,(Instr.index 252 (.agg #[.int .u32 (aa r.a),.int .u32 (aa r.b),.int .u32 (aa r.c),.int .u32 (aa r.d),.int .u32 (aa r.e),.int .u32 (aa r.f),.int .u32 (aa r.g),.int .u32 (aa r.h)]) (.int .i64 i)).run prog W=.ok (.int .u32 (aa (r.list.getD i 0))) W:=D;generalize s.list.getD i 0=x at *;generalize r.list.getD i 0=y at *;have HS:=Lib.hid hs;have q:(i:Int)<8:=by omega
     clear hs D;go_wp2_with fail;go_roundw
     case rel=>exact⟨i+1,by omega,by go_num,B.setTo i _ HS.out,O.other _ _ (by simp),Below.setCell R (by simp) _⟩
     case measure=>simp[intOf];omega
    ·obtain rfl:i=8:=by omega
     have hm:mix s.list (s.add r).list 8=(s.add r).list:=rfl;rw[hm] at B;clear hm;go_wp2_with(first
      | (refine iG underlying252 (by kernel_rfl) rfl (.tmp 3) rfl w.heap.size (s.add r).list rfl B rfl ?_)
      | (refine gV (by kernel_rfl) rfl rfl (.tmp 6) (.tmp 116) rfl (w.heap.size+1) (aZ 8) (s.add r).list rfl rfl O rfl rfl ?_;intro w5 ae j))
     refine bodyPost_ret (ku underlying252 (by kernel_rfl) rfl _ _ (w.heap.size+1) (s.add r).list rfl ae rfl) rfl ?_;exact⟨by rw[HR.out];rfl,j.below R (by omega)⟩
attribute [local go_sem] jD nZ lN oa od lO jb tB zN zO
theorem Ay (s:S8)(v:Value)(o:List UInt8)(p:Nat)(gk ck:Nat)(k:List UInt32)(w:World)(h:Rd w v o)(hl:p+64<=o.length)(hk:Arr 247 w gk k)(K:k.length=64):
  Calls prog 226 #[.agg (aX s.list),v,.int .i64 p,.slice (some ⟨gk,0,none⟩) 64 ck] w λe w'=>e=.returned (.agg (aX (lM k s ((o.drop p).take 64)).list))/\Kp w w':=by
 obtain⟨l,Z⟩:∃ l,(o.drop p).take 64=l:=⟨_,rfl⟩;rw[Z];have ae:=Lib.hid K;have ad:=Lib.hid Z;clear Z K;go_enter func226,ntmps226;go_wp2_with((at_make;(refine kt (z:=.int .u32 0) (b:=4) underlying250 (by kernel_rfl) rfl (by decide) rfl _ _ rfl 64 rfl rfl (by decide) ?_);intro S I;have B:=Lib.hid I;clear I))
 have E:Arr 252 ((w.alloc (.cells (aX s.list) 252)).alloc (.cells (aX (aZ 8)) 252)) (w.heap.size+1) (aZ 8):=by
  have:=Arr.new 252 (w.alloc (.cells (aX s.list) 252)) (aX (aZ 8)) (aZ 8) rfl;rw[IQ] at this;exact this
 have Q:Arr 252 S w.heap.size s.list:=by rw[B.out];exact((Arr.new _ w _ s.list rfl).alloc _).alloc _
 have O:Arr 252 S (w.heap.size+1) (aZ 8):=by rw[B.out];exact E.alloc _
 have N:Arr 247 S (w.heap.size+1+1) (bK l 0):=by
  rw[B.out];have:=Arr.new 247 ((w.alloc (.cells (aX s.list) 252)).alloc (.cells (aX (aZ 8)) 252)) (aX (aZ 64)) (bK l 0) rfl;rw[IQ,IQ,Ar] at this;exact this
 have P:Kp w S:=by rw[B.out];exact(((Kp.refl w).alloc _).alloc _).alloc _
 clear E;go_loopw[10] (λi wr=>∃ t:Nat,t<=16/\i=.int .i64 t/\Arr 252 wr w.heap.size s.list/\Arr 252 wr (w.heap.size+1) (aZ 8)/\Arr 247 wr (w.heap.size+1+1) (bK l t)/\Kp w wr) (λi _=>16 - (intOf i).toNat)
 case atStart=>exact⟨0,by omega,rfl,Q,O,N,P⟩
 case round=>
  clear Q O N P B;obtain⟨t,W,rfl,y,E,x,u⟩:=hrel;by_cases D:t<16
  ·have L:∀ j,j<64->l.getD j 0=o.getD (p+j) 0:=λj hj=>by
    rw[<-ad.out,Iw,Kz hj,Kn,Iw]
   have J:gU l (de l t) t=gw (o.getD (p+4*t) 0) (o.getD (p+4*t+1) 0) (o.getD (p+4*t+2) 0) (o.getD (p+4*t+3) 0):=by
    unfold gU;rw[if_pos D,L _ (by omega),L _ (by omega),L _ (by omega),L _ (by omega)];simp only[Kw]
   have m:=(oo l t (by omega));rw[J] at m;have HS:=Lib.hid m;have A:=lW l t (by omega);have H:o.length<=maxLen:=by
    obtain⟨a,c,_,h1,h2⟩:=h.shape;omega
   unfold maxLen at H;clear L J m;go_wp2_with fail;refine(Ab _ v o (p+4*t) _ (h.kp u) (by omega) (by simp)).mono ?_;rintro e w' ⟨rfl,n,rfl⟩;have ca:=(x.drewN n).cell t (by omega);have cf:=(x.drewN n).frozen t (by omega);have q:(t:Int)<64:=by omega
   clear A;go_wp2_with fail;go_roundw
   case rel=>exact⟨t+1,by omega,by go_num,(y.drewN n).other _ _ (by simp;omega),(E.drewN n).other _ _ (by simp),(x.drewN n).setTo t _ HS.out,Below.setCell (u.drewN n) (by simp;omega) _⟩
   case measure=>simp[intOf];omega
  ·obtain rfl:t=16:=by omega
   clear W D;go_wp2_with fail;go_loopw[11] (λi wr=>∃ t:Nat,16<=t/\t<=64/\i=.int .i64 t/\Arr 252 wr w.heap.size s.list/\Arr 252 wr (w.heap.size+1) (aZ 8)/\Arr 247 wr (w.heap.size+1+1) (bK l t)/\Kp w wr) (λi _=>64 - (intOf i).toNat)
   case atStart=>exact⟨16,by omega,by omega,rfl,y,E,x,u⟩
   case round=>
    clear y E x u;obtain⟨t,aq,W,rfl,y,E,x,u⟩:=hrel;by_cases D:t<64
    ·have A:=lW l t (by omega)
     have J:gU l (de l t) t=cK (cK (cK (small 17 19 10 ((bK l t).getD (t - 2) 0)) ((bK l t).getD (t - 7) 0)) (small 7 18 3 ((bK l t).getD (t - 15) 0))) ((bK l t).getD (t - 16) 0):=by
      unfold gU;rw[if_neg (by omega),jf l t _ (by omega),jf l t _ (by omega),jf l t _ (by omega),jf l t _ (by omega)]
     have m:=(oo l t (by omega));rw[J] at m;have V:=x.cell (t - 2) (by omega);have U:=x.cell (t - 7) (by omega);have au:=x.cell (t - 15) (by omega);have ar:=x.cell (t - 16) (by omega);have ca:=x.cell t (by omega);have cf:=x.frozen t (by omega);generalize (bK l t).getD (t - 2) 0=x2 at *;generalize (bK l t).getD (t - 7) 0=x7 at *;generalize (bK l t).getD (t - 15) 0=ag at *;generalize (bK l t).getD (t - 16) 0=af at *;have i2:IntKind.i64.wrap ((t:Int) - 2)=(t:Int) - 2:=IA _ (by omega);have i7:IntKind.i64.wrap ((t:Int) - 7)=(t:Int) - 7:=IA _ (by omega);have ao:IntKind.i64.wrap ((t:Int) - 15)=(t:Int) - 15:=IA _ (by omega);have an:IntKind.i64.wrap ((t:Int) - 16)=(t:Int) - 16:=IA _ (by omega);have n2:((t:Int) - 2).toNat=t - 2:=by omega
     have n7:((t:Int) - 7).toNat=t - 7:=by omega
     have am:((t:Int) - 15).toNat=t - 15:=by omega
     have al:((t:Int) - 16).toNat=t - 16:=by omega
     have p2:(2:Int)<=(t:Int):=by omega
     have p7:(7:Int)<=(t:Int):=by omega
     have ak:(15:Int)<=(t:Int):=by omega
     have aj:(16:Int)<=(t:Int):=by omega
     have q2:(t:Int) - 2<64:=by omega
     have q7:(t:Int) - 7<64:=by omega
     have ai:(t:Int) - 15<64:=by omega
     have ah:(t:Int) - 16<64:=by omega
     have q:(t:Int)<64:=by omega
     have HS:=Lib.hid m;clear m J A;go_wp2_with((go_at_call 258;refine(qo _ _ _ (by decide) (by decide)).mono ?_;rintro e w' ⟨rfl,rfl⟩))
     go_still_tail 18,(by kernel_rfl)
     go_wp2_with fail;go_roundw
     case rel=>
      repeat apply Exists.intro
      refine⟨?_,rfl⟩;exact⟨t+1,by omega,by omega,by go_num,(y.other _ _ (by simp;omega)).drew,(E.other _ _ (by simp)).drew,(x.setTo t _ HS.out).drew,(Below.setCell u (by simp;omega) _).drew⟩
     case measure=>simp[intOf];omega
    ·obtain rfl:t=64:=by omega
     rw[tA] at x;have c0:wr.cell? ⟨w.heap.size,0,none⟩=some (.int .u32 (aa s.a)):=y.cell 0 (IV rfl);have c1:wr.cell? ⟨w.heap.size,1,none⟩=some (.int .u32 (aa s.b)):=y.cell 1 (IV rfl);have V:wr.cell? ⟨w.heap.size,2,none⟩=some (.int .u32 (aa s.c)):=y.cell 2 (IV rfl);have c3:wr.cell? ⟨w.heap.size,3,none⟩=some (.int .u32 (aa s.d)):=y.cell 3 (IV rfl);have c4:wr.cell? ⟨w.heap.size,4,none⟩=some (.int .u32 (aa s.e)):=y.cell 4 (IV rfl);have c5:wr.cell? ⟨w.heap.size,5,none⟩=some (.int .u32 (aa s.f)):=y.cell 5 (IV rfl);have c6:wr.cell? ⟨w.heap.size,6,none⟩=some (.int .u32 (aa s.g)):=y.cell 6 (IV rfl);have U:wr.cell? ⟨w.heap.size,7,none⟩=some (.int .u32 (aa s.h)):=y.cell 7 (IV rfl);have X:=hk.kp u;clear h hl hk;go_wp2_with fail;have C:=Lib.hid (IC c0 (IC c1 (IC V (IC c3 (IC c4 (IC c5 (IC c6 U)))))));clear c0 c1 V c3 c4 c5 c6 U;have F:=ae.out;have R:=gz l 64;go_loopw[16,17,18,19,20,21,22,23,24] (λsa sb sc sd se sf sg sh i wq=>∃ t:Nat,t<=64/\i=.int .i64 t/\(∃ r,r=nY k (de l 64) s t/\sa=.int .u32 (aa r.a)/\sb=.int .u32 (aa r.b)/\sc=.int .u32 (aa r.c)/\sd=.int .u32 (aa r.d)/\se=.int .u32 (aa r.e)/\sf=.int .u32 (aa r.f)/\sg=.int .u32 (aa r.g)/\sh=.int .u32 (aa r.h))/\∃ n,wq=wr.drewN n) (λ_ _ _ _ _ _ _ _ i _=>64 - (intOf i).toNat)
     case atStart=>exact⟨0,by omega,rfl,⟨s,rfl,rfl,rfl,rfl,rfl,rfl,rfl,rfl,rfl⟩,0,rfl⟩
     case round=>
      obtain⟨t,W,rfl,⟨r,T,rfl,rfl,rfl,rfl,rfl,rfl,rfl,rfl⟩,n,rfl⟩:=hrel;by_cases D:t<64
      ·have ck:=(X.drewN n).cell t (by omega)
       have cw:=(x.drewN n).cell t (by omega);have HR:=Lib.hid T;have q:(t:Int)<64:=by omega
       obtain⟨wn,G⟩:∃ wn,wr.drewN n=wn:=⟨_,rfl⟩;rw[G] at ck cw ⊢;have ab:=Lib.hid G;clear T F R G;have ap:IntKind.u32.signed=false:=rfl;go_wp2_with fail;go_quiet ((go_at_call 258;exact pM (qo _ _ _ (by decide) (by decide))))
       go_wp2_with((go_at_call 258;refine(qo _ _ _ (by decide) (by decide)).mono ?_;rintro e w' ⟨rfl,rfl⟩))
       go_roundw
       case rel=>
        repeat apply Exists.intro
        refine⟨?_,rfl⟩;exact⟨t+1,by omega,by go_num,⟨rnd r (k.getD t 0) ((de l 64).getD t 0),by rw[HR.out];rfl,rfl,rfl,rfl,rfl,rfl,rfl,rfl,rfl⟩,n+nq,by rw[<-ab.out,World.drewN_drewN]⟩
       case measure=>simp[intOf];omega
      ·obtain rfl:t=64:=by omega
       have HR:=Lib.hid T;clear T F R;obtain⟨c0,c1,V,c3,c4,c5,c6,U⟩:=C.out;go_wp2_with((refine gV (by kernel_rfl) rfl rfl (.tmp 8) (.tmp 206) rfl (w.heap.size+1) (aZ 8) (s.add r).list rfl rfl (E.drewN n) rfl rfl ?_;intro w5 Y M))
       refine bodyPost_ret (ku underlying252 (by kernel_rfl) rfl _ _ (w.heap.size+1) (s.add r).list rfl Y rfl) rfl ?_;exact⟨by rw[HR.out];rfl,M.below (u.drewN n) (by omega)⟩

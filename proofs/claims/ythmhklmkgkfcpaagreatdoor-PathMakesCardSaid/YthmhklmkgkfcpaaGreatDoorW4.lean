import Derived.Test.YthmhklmkgkfcpaaGreatDoorW2
import Derived.Test.YthmhklmkgkfcpaaGreatDoorProg
import Derived.IntWalk
import Derived.StillTailTactics
import Derived.Deep.RegionHeld3
set_option linter.all false
set_option maxHeartbeats 8000000
set_option maxRecDepth 100000
namespace Go.Proofs.YthmhklmkgkfcpaaGreatDoor
open Go.Proofs.Tryz Go.RowKit
variable {K l:List UInt8}{L:List UInt32}{T:TypeId}{W w:World}{g i n t x:Nat}
attribute [local go_sem] jV oL mE oM oN mF jz
theorem Ar (x:Int)(b:0<=x)(a:x<2 ^ 64):bits .and .u64 x 31=x % 32:=
 bits_mask .u64 64 (by decide) (λn d c=>by simp[IntKind.wrap,IntKind.bits,IntKind.signed];omega) 5 (by decide) x b a
theorem As (i:Nat)(c:0<i)(b:i<32):bits .and .u64 (IntKind.u64.wrap (-(i:Int))) 31=32 - (i:Int):=by
 have a:IntKind.u64.wrap (-(i:Int))=18446744073709551616 - i:=by
  simp[IntKind.wrap,IntKind.bits,IntKind.signed];omega
 rw[a,Ar _ (by omega) (by omega)];omega
theorem uc (i:Nat)(x:UInt32)(w:World)(b:0<i)(a:i<32):
  Calls prog 273 #[.int .u32 (aa x),.int .i64 (-(i:Int))] w λe w'=>e=.returned (.int .u32 (aa (jy i x)))/\w=w':=by
 have c:=As i b a;have f:(32 - (i:Int)).toNat=32 - i:=by omega
 have d:IntKind.u64.wrap (32 - (32 - (i:Int)))=i:=by simp[IntKind.wrap,IntKind.bits,IntKind.signed];omega
 go_enter func273,ntmps273;go_wp2;go_ret;exact⟨by rw[Am];rfl,rfl⟩
theorem ud (i j k:Nat)(x:UInt32)(w:World)(c:0<i/\i<32)(b:0<j/\j<32)(a:0<k/\k<32):
  Calls prog 268 #[.int .u32 (aa x),.int .i64 i,.int .i64 j,.int .i64 k] w λe w'=>e=.returned (.int .u32 (aa (big i j k x)))/\w=w':=by
 have n:∀ i:Nat,i<32->IntKind.i64.wrap (-(i:Int)) = -i:=λi h=>by rw[Ml];omega
 have r:=n i c.2;have q:=n j b.2;have p:=n k a.2;obtain⟨o,m⟩:=c;obtain⟨l,g⟩:=b;obtain⟨f,d⟩:=a;clear n;go_enter func268,ntmps268;go_wp2_with((go_at_call 273;refine(uc _ _ _ (by assumption) (by assumption)).mono ?_;rintro e w' ⟨rfl,rfl⟩))
 go_ret;exact⟨rfl,rfl⟩
theorem At (x:UInt32)(w:World):Calls prog 268 #[.int .u32 (aa x),.int .i64 6,.int .i64 11,.int .i64 25] w λe w'=>e=.returned (.int .u32 (aa (big 6 11 25 x)))/\w=w':=
 ud 6 11 25 x w (by decide) (by decide) (by decide)
theorem ue (x:UInt32)(w:World):Calls prog 268 #[.int .u32 (aa x),.int .i64 2,.int .i64 13,.int .i64 22] w λe w'=>e=.returned (.int .u32 (aa (big 2 13 22 x)))/\w=w':=
 ud 2 13 22 x w (by decide) (by decide) (by decide)
theorem uf (i j k:Nat)(x:UInt32)(w:World)(b:0<i/\i<32)(a:0<j/\j<32)(f:0<k/\k<32):
  Calls prog 272 #[.int .u32 (aa x),.int .i64 i,.int .i64 j,.int .i64 k] w λe w'=>e=.returned (.int .u32 (aa (small i j k x)))/\∃ n,w'=w.drewN n:=by
 have n:∀ i:Nat,i<32->IntKind.i64.wrap (-(i:Int)) = -i:=λi h=>by rw[Ml];omega
 have q:=n i b.2;have p:=n j a.2;have r:=jz k x;obtain⟨o,m⟩:=b;obtain⟨l,g⟩:=a;obtain⟨d,c⟩:=f;clear n;go_enter func272,ntmps272;go_wp2;go_quiet ((go_at_call 273;exact qj (uc _ _ _ (by assumption) (by assumption))))
 go_wp2;go_ret;exact⟨rfl,_,rfl⟩
theorem Au (x:UInt32)(w:World):Calls prog 272 #[.int .u32 (aa x),.int .i64 17,.int .i64 19,.int .i64 10] w λe w'=>e=.returned (.int .u32 (aa (small 17 19 10 x)))/\∃ n,w'=w.drewN n:=
 uf 17 19 10 x w (by decide) (by decide) (by decide)
theorem Av (x:UInt32)(w:World):Calls prog 272 #[.int .u32 (aa x),.int .i64 7,.int .i64 18,.int .i64 3] w λe w'=>e=.returned (.int .u32 (aa (small 7 18 3 x)))/\∃ n,w'=w.drewN n:=
 uf 7 18 3 x w (by decide) (by decide) (by decide)
theorem Aw (i:Nat)(x:UInt32)(w:World)(d:0<i)(c:i<32):
  Calls prog 258 #[.int .u32 (aa x),.int .u32 i] w λe w'=>e=.returned (.int .u32 (aa (jy i x)))/\w=w':=by
 have f:IntKind.u32.wrap (32 - (i:Int))=32 - i:=by rw[LG];omega
 have g:(32 - (i:Int)).toNat=32 - i:=by omega
 have a:=jz i x;have b:=mF (32 - i) x;go_enter func258,ntmps258;go_wp2;go_ret;exact⟨rfl,rfl⟩
def ub (b:UInt8):Int:=(b.toNat:Int)
theorem jC (b:UInt8):0<=ub b:=Int.natCast_nonneg _
theorem jD (b:UInt8):ub b<256:=by unfold ub;have:=b.toNat_lt;omega
theorem ug (a b c d:UInt8):ub a*16777216+ub b*65536+ub c*256+ub d=aa (gW a b c d):=by
 unfold gW ub;have:=a.toNat_lt;have:=b.toNat_lt;have:=c.toNat_lt;have:=d.toNat_lt;rw[tX _ (by omega)];omega
theorem Rd.row {a:Option Addr}{c:Nat}(h:Rd w (.slice a n c) l)(e:0<n):
 ∃ b d,a=some ⟨b,d,none⟩/\b<w.heap.size/\∀ i,i<n->w.cell? ⟨b,d+i,none⟩=some (.int .u8 (ub (l.getD i 0))):=h.at 0 e
theorem Ay (v:Value)(l:List UInt8)(d:Nat)(w:World)(h:Rd w v l)(Z:d+4<=l.length):
  Calls prog 257 #[v,.int .i64 d] w λe w'=>e=.returned (.int .u32 (aa (gW (l.getD d 0) (l.getD (d+1) 0) (l.getD (d+2) 0) (l.getD (d+3) 0))))/\∃ n,w'=w.drewN n:=by
 obtain⟨a,c,rfl,q,p⟩:=h.shape;unfold maxLen at p;obtain⟨b,o,rfl,hb,j⟩:=h.row (by omega);have c0:=j d (by omega);have c1:=j (d+1) (by omega);have c2:=j (d+2) (by omega);have c3:=j (d+3) (by omega);have m:=ug (l.getD d 0) (l.getD (d+1) 0) (l.getD (d+2) 0) (l.getD (d+3) 0);generalize l.getD d 0=g at *;generalize l.getD (d+1) 0=f at *;generalize l.getD (d+2) 0=i at *;generalize l.getD (d+3) 0=k at *;have B:=jC g;have A:=jC f;have z:=jC i;have y:=jC k;have u:=jD g;have t:=jD f;have s:=jD i;have r:=jD k;clear j;have Y:(d:Int)<(l.length:Int):=by omega
 have X:(d:Int)+1<(l.length:Int):=by omega
 have V:(d:Int)+2<(l.length:Int):=by omega
 have U:(d:Int)+3<(l.length:Int):=by omega
 have N:(0:Int)<=(d:Int)+1:=by omega
 have M:(0:Int)<=(d:Int)+2:=by omega
 have L:(0:Int)<=(d:Int)+3:=by omega
 have T:IntKind.i64.wrap ((d:Int)+1)=(d:Int)+1:=IW _ (by omega);have S:IntKind.i64.wrap ((d:Int)+2)=(d:Int)+2:=IW _ (by omega);have R:IntKind.i64.wrap ((d:Int)+3)=(d:Int)+3:=IW _ (by omega);have t1:((d:Int)+1).toNat=d+1:=by omega
 have t2:((d:Int)+2).toNat=d+2:=by omega
 have G:((d:Int)+3).toNat=d+3:=by omega
 have W:∀ x:Int,0<=x->x<4294967296->IntKind.u32.wrap x=x:=λx h0 q=>by rw[LG];omega
 have F:=W (ub g) (by omega) (by omega);have E:=W (ub f) (by omega) (by omega);have D:=W (ub i) (by omega) (by omega);have C:=W (ub k) (by omega) (by omega);have Q:=W (ub g*16777216) (by omega) (by omega);have P:=W (ub f*65536) (by omega) (by omega);have O:=W (ub i*256) (by omega) (by omega);have K:=W (ub g*16777216+ub f*65536) (by omega) (by omega);have J:=W (ub g*16777216+ub f*65536+ub i*256) (by omega) (by omega);have I:=W (ub g*16777216+ub f*65536+ub i*256+ub k) (by omega) (by omega);have H:=Lib.hid m;clear W m B A z y u t s r;go_enter func257,ntmps257;go_wp2;go_quiet (fail)
 go_wp2;go_ret;exact⟨by rw[<-H.out];rfl,_,rfl⟩
theorem qO (n:Int)(x:UInt32)(w:World)(a:0<n)(b:n<32):
  Calls prog 258 #[.int .u32 (aa x),.int .u32 n] w λe w'=>e=.returned (.int .u32 (aa (jy n.toNat x)))/\w=w':=by
 obtain⟨i,rfl⟩:=Jq (Int.le_of_lt a);rw[Jm];exact Aw i x w (by omega) (by omega)
theorem Az (x:Int)(v:Value)(l:List UInt8)(a:Nat)(w:World)(h:Rd w v l)(c:a+4<=l.length)(b:x=a):
  Calls prog 257 #[v,.int .i64 x] w λe w'=>e=.returned (.int .u32 (aa (gW (l.getD a 0) (l.getD (a+1) 0) (l.getD (a+2) 0) (l.getD (a+3) 0))))/\∃ n,w'=w.drewN n:=by
 subst b;exact Ay v l a w h c
theorem eN (x:Int)(b:0<=x)(a:x<18446744073709551616):IntKind.u64.wrap x=x:=by
 simp[IntKind.wrap,IntKind.bits,IntKind.signed];omega
theorem AN (n:Nat)(w:World)(G:1<=n)(v:(n:Int)<9223372036854775808):
  Calls prog 271 #[.int .u64 n] w λe w'=>e=.returned (.int .u64 (dQ n))/\w=w':=by
 obtain⟨R,o⟩:∃ R,dQ n=R:=⟨_,rfl⟩;rw[o];unfold dQ at o;have y:=Lib.hid o;clear o;go_enter func271,ntmps271;go_wp2_with fail;go_loopw[3] (λx wr=>(∃ k:Nat,x=.int .u64 k/\1<=k/\(k:Int)<=2097152/\∃ f,k<=f/\gY f n k=R)/\wr=w) (λx _=>(intOf x).toNat)
 case atStart=>exact⟨⟨2097152,rfl,by decide,by decide,2097152,Ja _,y.out⟩,rfl⟩
 case round=>
  obtain⟨⟨k,rfl,d,a,f,E,u⟩,rfl⟩:=hrel;have z:=Lib.hid u;have D:(1:Int)<=(k:Int)*(k:Int):=by
   have:=La d d;have r:((1*1:Nat):Int)<=((k*k:Nat):Int):=by omega
   rwa [Ks] at r
  have b:(k:Int)*(k:Int)<=4398046511104:=by
   have r:=Int.mul_le_mul a a (by omega) (by omega);exact r
  have C:¬(k:Int)*(k:Int)=0:=by omega
  have J:IntKind.u64.wrap (2*(k:Int))=2*(k:Int):=eN _ (by omega) (by omega);have I:IntKind.u64.wrap ((k:Int)*(k:Int))=(k:Int)*(k:Int):=eN _ (by omega) (by omega);have F:0<=(n:Int) / ((k:Int)*(k:Int)):=Int.ediv_nonneg (by omega) (by omega);have p:(n:Int) / ((k:Int)*(k:Int))<=(n:Int):=Int.ediv_le_self _ (by omega);have H:IntKind.u64.wrap (2*(k:Int)+(n:Int) / ((k:Int)*(k:Int)))=2*(k:Int)+(n:Int) / ((k:Int)*(k:Int)):=eN _ (by omega) (by omega);have K:IntKind.u64.wrap ((n:Int) / ((k:Int)*(k:Int)))=(n:Int) / ((k:Int)*(k:Int)):=eN _ (by omega) (by omega);have t:(2*(k:Int)+(n:Int) / ((k:Int)*(k:Int))).tdiv 3=((fu n k:Nat):Int):=by
   rw[JK (by omega)];unfold fu;simp
  have i:=ui n k G d;have h:((fu n k:Nat):Int)<18446744073709551616:=by
   rw[<-t,JK (by omega)];omega
  have A:IntKind.u64.wrap ((fu n k:Nat):Int)=((fu n k:Nat):Int):=eN _ (by omega) h;obtain⟨q,c⟩:∃ q,fu n k=q:=⟨_,rfl⟩;rw[c] at t i A;have s:=Lib.hid c;have B:=Lib.hid (Jb a (Jb b v));clear u a b v y p h c;by_cases j:k<=q
  ·go_wp2_with fail
   go_ret;exact⟨by rw[<-z.out,AB f n k (by rw[s.out];exact j)];rfl,rfl⟩
  ·go_wp2_with fail
   go_roundw
   case rel=>
    obtain⟨g,m,l⟩:=AC f n k E (by rw[s.out];exact j);have:=B.out.1;rw[s.out] at m l;exact⟨⟨q,rfl,i,by omega,g,m,l.trans z.out⟩,trivial⟩
   case measure=>simp[intOf];omega
theorem AO (p:Nat)(w:World)(M:1<=p)(I:p<312):
  Calls prog 265 #[.int .u64 p] w λe w'=>e=.returned (.int .u32 (aa (mK p)))/\w=w':=by
 have a:qQ p=true:=(AD ⟨p,I⟩).resolve_left (by simp;omega);unfold qQ at a;simp only[Ld,decide_eq_true_eq] at a;obtain⟨t,s⟩:=a;have z:((cH p:Nat):Int)=(p:Int)*18014398509481984:=by unfold cH;simp
 have n:=uj 2097152 (cH p) 2097152 (by unfold cH;omega) (by decide);have m:mK p=UInt32.ofNat (qP p):=rfl;have C:qP p=dQ (cH p)*16384+mJ p*16384 / (3*dQ (cH p)*dQ (cH p)):=rfl;have q:mJ p=cH p - dQ (cH p)*dQ (cH p)*dQ (cH p):=rfl;change 1<=dQ (cH p)/\dQ (cH p)<=2097152 at n;have i:((cH p:Nat):Int)<9223372036854775808:=by rw[z];omega
 have j:1<=cH p:=by unfold cH;omega
 have J:=Lib.hid (AN (cH p));rw[C] at m;generalize dQ (cH p)=x at *;generalize cH p=N at *;generalize mJ p=r at *;clear C;have E:(1:Int)<=(x:Int):=by omega
 have b:(x:Int)<=2097152:=by omega
 have D:(1:Int)<=(x:Int)*(x:Int):=by
  have:=La n.1 n.1;have l:((1*1:Nat):Int)<=((x*x:Nat):Int):=by omega
  rwa [Ks] at l
 have c:(x:Int)*(x:Int)<=4398046511104:=by
  have l:=Int.mul_le_mul b b (by omega) (by omega);exact l
 have o:(x:Int)*(x:Int)*(x:Int)<=(N:Int):=by
  have l:((x*x*x:Nat):Int)<=(N:Int):=by omega
  rwa [Ks,Ks] at l
 have f:0<=(x:Int)*(x:Int)*(x:Int):=Int.mul_nonneg (by omega) (by omega);have k:3*(x:Int)*(x:Int)=3*((x:Int)*(x:Int)):=by rw[Int.mul_assoc]
 have A:IntKind.u64.wrap ((p:Int)*18014398509481984)=(N:Int):=by rw[<-z];exact eN _ (by omega) (by omega)
 have P:IntKind.u64.wrap ((x:Int)*(x:Int))=(x:Int)*(x:Int):=eN _ (by omega) (by omega);have O:IntKind.u64.wrap ((x:Int)*(x:Int)*(x:Int))=(x:Int)*(x:Int)*(x:Int):=eN _ f (by omega);have g:(r:Int)=(N:Int) - (x:Int)*(x:Int)*(x:Int):=by
  have:((x*x*x:Nat):Int)=(x:Int)*(x:Int)*(x:Int):=by rw[Ks,Ks]
  omega
 have R:IntKind.u64.wrap ((N:Int) - (x:Int)*(x:Int)*(x:Int))=(r:Int):=by rw[<-g];exact eN _ (by omega) (by omega)
 have V:IntKind.u64.wrap ((x:Int)*16384)=(x:Int)*16384:=eN _ (by omega) (by omega);have T:IntKind.u64.wrap ((r:Int)*16384)=(r:Int)*16384:=eN _ (by omega) (by omega);have S:IntKind.u64.wrap (3*(x:Int))=3*(x:Int):=eN _ (by omega) (by omega);have Q:IntKind.u64.wrap (3*(x:Int)*(x:Int))=3*(x:Int)*(x:Int):=eN _ (by omega) (by omega);have G:¬(3*(x:Int)*(x:Int)=0):=by omega
 have v:0<=(r:Int)*16384 / (3*(x:Int)*(x:Int)):=Int.ediv_nonneg (by omega) (by omega);have h:(r:Int)*16384 / (3*(x:Int)*(x:Int))<=(r:Int)*16384:=Int.ediv_le_self _ (by omega);have H:((r:Int)*16384).tdiv (3*(x:Int)*(x:Int))=(r:Int)*16384 / (3*(x:Int)*(x:Int)):=JK (by omega);obtain⟨d,y⟩:∃ d:Nat,r*16384 / (3*x*x)=d:=⟨_,rfl⟩;have u:(r:Int)*16384 / (3*(x:Int)*(x:Int))=(d:Int):=by rw[<-y];simp
 rw[u] at v h H;rw[y] at m;have X:IntKind.u64.wrap (d:Int)=(d:Int):=eN _ (by omega) (by omega);have W:IntKind.u64.wrap ((x:Int)*16384+(d:Int))=(x:Int)*16384+(d:Int):=eN _ (by omega) (by omega);have U:IntKind.u32.wrap ((x:Int)*16384+(d:Int))=aa (mK p):=by
  rw[m,tY,LG];simp
 have L:=Lib.hid i;have K:=Lib.hid j;have B:0<=(x:Int)*(x:Int):=by omega
 have F:0<=(p:Int):=by omega
 clear i j b c o t s z m q n g k y h;go_enter func265,ntmps265;go_wp2_with fail;refine(J.out _ K.out L.out).mono ?_;rintro e w' ⟨rfl,rfl⟩;go_wp2_with fail;go_ret;exact⟨rfl,rfl⟩
def bd (n:Nat):List UInt32:=List.replicate n 0
theorem iD (n:Nat):(bd n).length=n:=by simp[bd]
theorem gZ (l:List UInt8):∀ t,(dz l t).length=t
 | 0=>rfl
 | t+1=>by simp[dz,gZ l t]
def bO (l:List UInt8)(t:Nat):List UInt32:=dz l t++bd (64 - t)
theorem mL (l:List UInt8)(t:Nat)(h:t<=64):(bO l t).length=64:=by simp[bO,gZ,iD];omega
theorem oQ (l:List UInt8)(t:Nat)(h:t<64):(bO l t).set t (iA l (dz l t) t)=bO l (t+1):=by
 unfold bO bd;rw[LY _ _ (by rw[gZ];omega),gZ,Lx,show 64 - t=(64 - (t+1))+1 by omega,List.replicate_succ];simp[dz]
theorem jE (l:List UInt8)(t i:Nat)(h:i<t):(bO l t).getD i 0=(dz l t).getD i 0:=by
 unfold bO;rw[IU,JE (by rw[gZ];exact h),IU]
theorem ul (l:List UInt8):bO l 64=dz l 64:=by simp[bO,bd]
theorem AQ (n:Nat):aZ (bd n)=Array.replicate n (.int .u32 0):=by
 apply Array.ext';simp[aZ,bd,mG,aa]
theorem fS (n:Int)(b:0<=n)(a:n<2 ^ 32):IntKind.u32.wrap n=n:=by rw[LG];omega
theorem AR (a b c d:UInt8):
  (IntKind.u32.wrap (ub a)=ub a/\IntKind.u32.wrap (ub b)=ub b/\IntKind.u32.wrap (ub c)=ub c/\IntKind.u32.wrap (ub d)=ub d) /\
  (IntKind.u32.wrap (ub a*16777216)=ub a*16777216/\IntKind.u32.wrap (ub b*65536)=ub b*65536/\IntKind.u32.wrap (ub c*256)=ub c*256) /\
  (bits .or .u32 (ub a*16777216) (ub b*65536)=ub a*16777216+ub b*65536 /\
   bits .or .u32 (ub a*16777216+ub b*65536) (ub c*256)=ub a*16777216+ub b*65536+ub c*256 /\
   bits .or .u32 (ub a*16777216+ub b*65536+ub c*256) (ub d)=aa (gW a b c d)):=by
 have e:=ug a b c d;have m:=jC a;have k:=jC b;have i:=jC c;have g:=jC d;have l:=jD a;have j:=jD b;have h:=jD c;have f:=jD d;refine⟨⟨fS _ (by omega) (by omega),fS _ (by omega) (by omega),fS _ (by omega) (by omega),fS _ (by omega) (by omega)⟩,
  ⟨fS _ (by omega) (by omega),fS _ (by omega) (by omega),fS _ (by omega) (by omega)⟩,?_,?_,?_⟩
 ·exact bits_join .u32 32 (by decide) fS 24 _ _ (by omega) (by omega) (by omega) (by omega) (by omega) (by omega)
 ·exact bits_join .u32 32 (by decide) fS 16 _ _ (by omega) (by omega) (by omega) (by omega) (by omega) (by omega)
 ·rw[bits_join .u32 32 (by decide) fS 8 _ _ (by omega) (by omega) (by omega) (by omega) (by omega) (by omega),e]
def got (W:World)(p:Addr):Value:=(W.cell? p).getD undef
def So (T:TypeId)(w:World)(g:Nat)(L:List UInt32)(t:Nat)(W:World):Prop:=∃ x,Arr T W (g+1) (L.set t x)/\Arr T W g (bd 64)/\Below g w W
theorem So.start (c:t<L.length)(h:Arr T W (g+1) L)(b:Arr T W g (bd 64))(a:Below g w W):So T w g L t W:=
 ⟨L[t],by rw[LI];exact h,b,a⟩
theorem So.drewN (h:So T w g L t W)(n:Nat):So T w g L t (W.drewN n):=by
 obtain⟨x,c,a,b⟩:=h;exact⟨x,c.drewN n,a.drewN n,b.trans ((Kp.refl W).drewN n |>.mono (by have:=a.lt;omega))⟩
theorem So.drew (h:So T w g L t W):So T w g L t W.drew:=h.drewN 1
theorem So.set (h:So T w g L t W)(y:UInt32):So T w g L t (W.setCell ⟨g+1,t,none⟩ (.int .u32 (aa y))):=by
 obtain⟨x,c,b,a⟩:=h;refine⟨y,?_,b.other _ _ (by simp),a.setCell (p:=⟨g+1,t,none⟩) (by simp) _⟩;have:=c.set t y _ rfl;rwa [List.set_set] at this
theorem So.facts (q:t<L.length)(m:16<=t)(j f b a:UInt32)(p:L.getD (t - 2) 0=j)(o:L.getD (t - 7) 0=f)(e:L.getD (t - 15) 0=b)(d:L.getD (t - 16) 0=a)
  (h:So T w g L t W):W.cell? ⟨g+1,t - 2,none⟩=some (.int .u32 (aa j))/\W.cell? ⟨g+1,t - 7,none⟩=some (.int .u32 (aa f))/\W.cell? ⟨g+1,t - 15,none⟩=some (.int .u32 (aa b))/\W.cell? ⟨g+1,t - 16,none⟩=some (.int .u32 (aa a)) /\
   W.cell? ⟨g+1,t,none⟩=some (got W ⟨g+1,t,none⟩)/\W.frozen? ⟨g+1,t,none⟩=false/\So T w g L t W:=by
 have n:=h;obtain⟨x,c,u,s⟩:=n;have l:(L.set t x).length=L.length:=by simp
 have k:∀ i,i<t->W.cell? ⟨g+1,i,none⟩=some (.int .u32 (aa (L.getD i 0))):=λi r=>by
  have:=c.cell i (by rw[l];omega);rw[this,IU,List.getElem?_set_ne (by omega),IU]
 subst p o e d;refine⟨k _ (by omega),k _ (by omega),k _ (by omega),k _ (by omega),?_,c.frozen t (by omega),h⟩;have:=c.cell t (by omega);unfold got;rw[this];rfl
theorem AS (v:Value)(l:List UInt8)(w:World)(h:Rd w v l)(hl:l.length=64):
  Calls prog 267 #[v] w λe w'=>e=.returned (.agg (aZ (dz l 64)))/\Kp w w':=by
 obtain⟨a,c,rfl,h1,h2⟩:=h.shape;rw[hl] at h h1 ⊢;unfold maxLen at h2;obtain⟨b,V,rfl,hb,r⟩:=h.row (by omega);go_enter func267,ntmps267;go_wp2_with fail;go_loopw[7] (λi wr=>∃ t:Nat,t<=16/\i=.int .i64 t/\Arr 264 wr w.heap.size (bd 64)/\Arr 264 wr (w.heap.size+1) (bO l t)/\Kp w wr) (λi _=>16 - (intOf i).toNat)
 case atStart=>
  refine⟨0,by omega,rfl,?_,?_,((Kp.refl w).alloc _).alloc _⟩
  ·exact(Arr.new _ _ _ (bd 64) rfl).alloc _
  ·have:=Arr.new 264 (w.alloc (.cells (aZ (bd 64)) 264)) (aZ (bd 64)) (bO l 0) rfl
   rw[Jn] at this;exact this
 case round=>
  obtain⟨t,N,rfl,f,j,g⟩:=hrel;by_cases k:t<16
  ·have c0:=g.cell (r (4*t) (by omega))
   have c1:=g.cell (r (4*t+1) (by omega));have c2:=g.cell (r (4*t+2) (by omega));have c3:=g.cell (r (4*t+3) (by omega));have y:iA l (dz l t) t=gW (l.getD (4*t) 0) (l.getD (4*t+1) 0) (l.getD (4*t+2) 0) (l.getD (4*t+3) 0):=by unfold iA;rw[if_pos k]
   have d:=(oQ l t (by omega));rw[y] at d;have B:=j.set t (gW (l.getD (4*t) 0) (l.getD (4*t+1) 0) (l.getD (4*t+2) 0) (l.getD (4*t+3) 0)) _ rfl;rw[d] at B;have A:=f.other ⟨w.heap.size+1,t,none⟩ (.int .u32 (aa (gW (l.getD (4*t) 0) (l.getD (4*t+1) 0) (l.getD (4*t+2) 0) (l.getD (4*t+3) 0)))) (by simp);have D:=Below.setCell g (p:=⟨w.heap.size+1,t,none⟩) (by simp) (.int .u32 (aa (gW (l.getD (4*t) 0) (l.getD (4*t+1) 0) (l.getD (4*t+2) 0) (l.getD (4*t+3) 0))));have ca:=j.cell t (by rw[mL l t (by omega)];omega);have cf:=j.frozen t (by rw[mL l t (by omega)];omega);generalize l.getD (4*t) 0=Q at *;generalize l.getD (4*t+1) 0=P at *;generalize l.getD (4*t+2) 0=C at *;generalize l.getD (4*t+3) 0=O at *;obtain⟨⟨v0,v1,v2,v3⟩,⟨m0,m1,m2⟩,o1,o2,o3⟩:=AR Q P C O;simp only[<-Lv] at c1 c2 c3;have H:=Lib.hid d;have e4:4*t+4 - 4*t=4:=by omega
   clear r d y;go_wp2_with fail;rw[e4];have M:(t:Int)<64:=by omega
   go_still_tail 24,(by kernel_rfl)
   go_wp2_with fail;go_roundw
   case rel=>exact⟨t+1,by omega,by go_num,A.drew,B.drew,D.drew⟩
   case measure=>simp[intOf];omega
  ·obtain rfl:t=16:=by omega
   clear r k N;go_wp2_with fail;go_loopw[6] (λi wr=>∃ t:Nat,16<=t/\t<=64/\i=.int .i64 t/\Arr 264 wr w.heap.size (bd 64)/\Arr 264 wr (w.heap.size+1) (bO l t)/\Kp w wr) (λi _=>64 - (intOf i).toNat)
   case atStart=>exact⟨16,by omega,by omega,rfl,f,j,g⟩
   case round=>
    clear f j g;obtain⟨t,E,N,rfl,f,j,g⟩:=hrel;by_cases k:t<64
    ·have z:=mL l t (by omega)
     have y:iA l (dz l t) t=cY (cY (cY (small 17 19 10 ((bO l t).getD (t - 2) 0)) ((bO l t).getD (t - 7) 0)) (small 7 18 3 ((bO l t).getD (t - 15) 0))) ((bO l t).getD (t - 16) 0):=by
      unfold iA;rw[if_neg (by omega),jE l t _ (by omega),jE l t _ (by omega),jE l t _ (by omega),jE l t _ (by omega)]
     have d:=(oQ l t (by omega));rw[y] at d;obtain⟨C,I⟩:∃ x,(bO l t).getD (t - 2) 0=x:=⟨_,rfl⟩;obtain⟨L,G⟩:∃ x,(bO l t).getD (t - 7) 0=x:=⟨_,rfl⟩;obtain⟨u,o⟩:∃ x,(bO l t).getD (t - 15) 0=x:=⟨_,rfl⟩;obtain⟨s,m⟩:∃ x,(bO l t).getD (t - 16) 0=x:=⟨_,rfl⟩;rw[I,G,o,m] at d;have F:∀ W,So 264 w w.heap.size (bO l t) t W->_:=λW h=>So.facts (by omega) E C L u s I G o m h
     have K:=Lib.hid F;have J:So 264 w w.heap.size (bO l t) t wr:=So.start (by omega) j f g;have i2:IntKind.i64.wrap ((t:Int) - 2)=(t:Int) - 2:=IW _ (by omega);have i7:IntKind.i64.wrap ((t:Int) - 7)=(t:Int) - 7:=IW _ (by omega);have ab:IntKind.i64.wrap ((t:Int) - 15)=(t:Int) - 15:=IW _ (by omega);have Z:IntKind.i64.wrap ((t:Int) - 16)=(t:Int) - 16:=IW _ (by omega);have n2:((t:Int) - 2).toNat=t - 2:=by omega
     have n7:((t:Int) - 7).toNat=t - 7:=by omega
     have Y:((t:Int) - 15).toNat=t - 15:=by omega
     have X:((t:Int) - 16).toNat=t - 16:=by omega
     have p2:(2:Int)<=(t:Int):=by omega
     have p7:(7:Int)<=(t:Int):=by omega
     have U:(15:Int)<=(t:Int):=by omega
     have T:(16:Int)<=(t:Int):=by omega
     have q2:(t:Int) - 2<64:=by omega
     have q7:(t:Int) - 7<64:=by omega
     have S:(t:Int) - 15<64:=by omega
     have R:(t:Int) - 16<64:=by omega
     have q:(t:Int)<64:=by omega
     have H:=Lib.hid d;clear d y z F I G o m;go_wp2_with fail;go_region_held3 (λW=>W.cell? ⟨w.heap.size+1,t - 2,none⟩=some (.int .u32 (aa C))/\W.cell? ⟨w.heap.size+1,t - 7,none⟩=some (.int .u32 (aa L))/\W.cell? ⟨w.heap.size+1,t - 15,none⟩=some (.int .u32 (aa u))/\W.cell? ⟨w.heap.size+1,t - 16,none⟩=some (.int .u32 (aa s))/\W.cell? ⟨w.heap.size+1,t,none⟩=some (got W ⟨w.heap.size+1,t,none⟩)/\W.frozen? ⟨w.heap.size+1,t,none⟩=false/\So 264 w w.heap.size (bO l t) t W)
      (first
       | (with_reducible exact K.out _ (J.drew))
       | (with_reducible exact K.out _ (J.drewN _))
       | (with_reducible exact K.out _ ((J.drewN _).set _)))
      (first
       | (go_at_call 272;(with_reducible refine(Au _ _).mono ?_);rintro e w' ⟨rfl,n,rfl⟩)
       | (go_at_call 272;(with_reducible refine(Av _ _).mono ?_);rintro e w' ⟨rfl,n,rfl⟩))
     all_goals
      go_wp2_with fail;go_roundw
      case rel=>
       repeat apply Exists.intro
       refine⟨?_,rfl⟩;exact⟨t+1,by omega,by omega,by go_num,(f.drewN _).other _ _ (by simp),(j.drewN _).setTo t _ H.out,Below.setCell (g.drewN _) (by simp) _⟩
      case measure=>simp[intOf];omega
    ·obtain rfl:t=64:=by omega
     rw[ul] at j;have ad:=g.size;go_wp2_with(first
      | (refine ja underlying264 (by kernel_rfl) rfl (.tmp 3) rfl (w.heap.size+1) (dz l 64) rfl j (gZ l 64) ?_)
      | (refine tZ (by kernel_rfl) rfl (.tmp 2) (.tmp 69) rfl w.heap.size (bd 64) (dz l 64) rfl rfl f (iD 64) (gZ l 64) ?_))
     refine bodyPost_ret (ln underlying264 (by kernel_rfl) rfl _ _ w.heap.size (dz l 64) rfl (f.setRow _) (gZ l 64)) rfl ?_;exact⟨rfl,below_setRow g (Ja _) _⟩
def bc (a b:UInt8):UInt8:=UInt8.ofNat (gm a.toNat b.toNat)
def bS (x:UInt8):UInt8:=UInt8.ofNat (nz x.toNat)
theorem dj (a:UInt8):a.toNat<256:=a.toNat_lt
theorem jh (a b:UInt8):(bc a b).toNat=gm a.toNat b.toNat:=by
 unfold bc;rw[Lj,Ke (lC (dj a))]
theorem vr (a:UInt8):(bS a).toNat=nz a.toNat:=by
 unfold bS;rw[Lj,Ke (Cm (dj a))]
theorem jJ {a b:UInt8}(h:a.toNat=b.toNat):a=b:=UInt8.toNat_inj.1 h
theorem rl (a b:UInt8):bc a b=bc b a:=jJ (by rw[jh,jh,mY (dj a) (dj b)])
theorem rm (a b c:UInt8):bc a (b ^^^ c)=bc a b ^^^ bc a c:=jJ (by rw[jh,MQ,MQ,jh,jh,jg])
theorem Cn (a b c:UInt8):bc (a ^^^ b) c=bc a c ^^^ bc b c:=by rw[rl,rm,rl c a,rl c b]
theorem vu (a:UInt8):bc a 1=a:=jJ (by rw[jh];exact mZ (dj a))
def ec (a b c d:UInt8):UInt8:=bc a 2 ^^^ bc b 3 ^^^ c ^^^ d
def tab (n:Nat)(f:Nat->UInt8):List UInt8:=(List.range n).map f
theorem fi (n:Nat)(f:Nat->UInt8):(tab n f).length=n:=by simp[tab]
theorem iJ (n:Nat)(f:Nat->UInt8)(i:Nat)(h:i<n):(tab n f).getD i 0=f i:=by simp[tab,IU,h]
theorem vC (n:Nat)(l:List UInt8)(h:l.length=n):tab n (λi=>l.getD i 0)=l:=by
 apply LT
 ·rw[fi,h]
 ·intro i a b
  have:=iJ n (λi=>l.getD i 0) i (by rw[fi] at a;exact a);rw[IU,IV a] at this;simp only[LA] at this;rw[this,IU,IV b];rfl
theorem lD (n:Nat)(l m:List UInt8)(c:l.length=n)(b:m.length=n)(h:∀ i,i<n->l.getD i 0=m.getD i 0):l=m:=by
 rw[<-vC n l c,<-vC n m b];unfold tab;apply Mo;intro i a;exact h i (by simpa using a)
def jK (m:Nat):Nat:=4*((m / 4+m % 4) % 4)+m % 4
def cJ (s:List UInt8):List UInt8:=tab 16 λm=>bS (s.getD (jK m) 0)
def at4 (t:List UInt8)(m k:Nat):UInt8:=t.getD (4*(m / 4)+(m % 4+k) % 4) 0
def du (t:List UInt8):List UInt8:=tab 16 λm=>ec (at4 t m 0) (at4 t m 1) (at4 t m 2) (at4 t m 3)
def dL (s w:List UInt8)(n:Nat):List UInt8:=tab 16 λi=>s.getD i 0 ^^^ w.getD (16*n+i) 0
def ru (w s:List UInt8)(n:Nat):List UInt8:=dL (if n<10 then du (cJ s) else cJ s) w n
def dw (w b:List UInt8):Nat->List UInt8
 | 0=>dL b w 0
 | n+1=>ru w (dw w b n) (n+1)
def ed (w b:List UInt8):List UInt8:=dw w b 10
theorem vE (s w:List UInt8)(n:Nat):(dL s w n).length=16:=fi _ _
theorem rx (w b:List UInt8)(n:Nat):(dw w b n).length=16:=by
 cases n with
 | zero=>exact vE _ _ _
 | succ n=>exact vE _ _ _
theorem ry (w b:List UInt8):(ed w b).length=16:=rx _ _ _
def eh:Nat->UInt8
 | 0=>1
 | n+1=>bc (eh n) 2
def fj (w:List UInt8):UInt8:=
 let m:=w.length;let i:=m / 4;let k:=m % 4
 let x:=if i % 4=0 then bS (w.getD (4*i - 4+(k+1) % 4) 0) else w.getD (4*i - 4+k) 0
 let x:=if i % 4=0/\k=0 then x ^^^ eh (i / 4 - 1) else x
 w.getD (4*i - 16+k) 0 ^^^ x
def dC (key:List UInt8):Nat->List UInt8
 | 0=>key
 | n+1=>dC key n++[fj (dC key n)]
def cK (key:List UInt8):List UInt8:=dC key 160
theorem ki (key:List UInt8):∀ n,(dC key n).length=key.length+n
 | 0=>rfl
 | n+1=>by rw[dC,Jc,ki key n];rfl
def cz (K:List UInt8)(n:Nat):List UInt8:=(K.drop (16*n)).take 16
theorem ia (h:16*n+16<=K.length):(cz K n).length=16:=by simp[cz];omega
theorem fU {j:Nat}(a:j<16):(cz K n).getD j 0=K.getD (16*n+j) 0:=by
 unfold cz;rw[IU,Ls a,LJ,IU]
structure rz (row:List UInt8)(r:UInt8)(N:List UInt8):Prop where
 len:N.length=16
 low:∀ j,j<4->N.getD j 0=row.getD j 0 ^^^ bS (row.getD (12+(j+1) % 4) 0) ^^^ (if j=0 then r else 0)
 high:∀ j,4<=j->j<16->N.getD j 0=row.getD j 0 ^^^ N.getD (j - 4) 0
theorem vG (key:List UInt8)(n:Nat):∀ d i,i<key.length+n->(dC key (n+d)).getD i 0=(dC key n).getD i 0
 | 0,i,_=>rfl
 | d+1,i,h=>by
  show(dC key (n+d)++[fj (dC key (n+d))]).getD i 0=_
  rw[IU,JE (by rw[ki];omega),<-IU,vG key n d i h]
theorem nA {key:List UInt8}(h:key.length=16):(cK key).length=176:=by rw[cK,ki,h]
theorem rC {key:List UInt8}(h:key.length=16)(k i:Nat)(a:k<=160)(b:i<16+k):(cK key).getD i 0=(dC key k).getD i 0:=by
 have:=vG key k (160 - k) i (by omega);rwa [show k+(160 - k)=160 by omega] at this
theorem Co {key:List UInt8}(h:key.length=16)(k:Nat)(a:k<160):(cK key).getD (16+k) 0=fj (dC key k):=by
 rw[rC h (k+1) (16+k) (by omega) (by omega),dC,IU,JB (by rw[ki];omega),ki,h,Lx];rfl
theorem Cp {key:List UInt8}(h:key.length=16):cz (cK key) 0=key:=by
 refine lD 16 _ _ (ia (by rw[nA h];omega)) h λi a=>?_
 rw[fU a,rC h 0 _ (by omega) (by omega)];simp[dC]
theorem Cq {key:List UInt8}(h:key.length=16)(n:Nat)(m:n<10):rz (cz (cK key) n) (eh n) (cz (cK key) (n+1)):=by
 have e:∀ j,j<16->(cK key).getD (16*(n+1)+j) 0=fj (dC key (16*n+j)):=λj a=>by
  rw[<-Co h (16*n+j) (by omega)];congr 1
  omega
 have f:∀ j,j<16->(dC key (16*n+j)).length=16*(n+1)+j:=λj a=>by rw[ki,h];omega
 have b:∀ j i,j<16->i<16*(n+1)+j->(dC key (16*n+j)).getD i 0=(cK key).getD i 0:=λj i a o=>(rC h (16*n+j) i (by omega) (by omega)).symm
 refine⟨ia (by rw[nA h];omega),λj a=>?_,λj p a=>?_⟩
 ·rw[fU (by omega),fU (by omega),fU (by omega),e j (by omega)]
  unfold fj;simp only[f j (by omega)];have l:(16*(n+1)+j) / 4=4*(n+1):=by omega
  have k:(16*(n+1)+j) % 4=j:=by omega
  have d:4*(n+1) % 4=0:=by omega
  rw[l,k];simp only[d,if_true,true_and];have g:4*(n+1) / 4 - 1=n:=by omega
  rw[g,b j _ (by omega) (by omega),b j _ (by omega) (by omega),show 4*(4*(n+1)) - 16+j=16*n+j by omega,show 4*(4*(n+1)) - 4+(j+1) % 4=16*n+(12+(j+1) % 4) by omega];by_cases c:j=0
  ·rw[if_pos c,if_pos c,UInt8.xor_assoc]
  ·rw[if_neg c,if_neg c,UInt8.xor_zero]
 ·rw[fU (by omega),fU (by omega),fU (by omega),e j (by omega)]
  unfold fj;simp only[f j (by omega)];have d:¬(16*(n+1)+j) / 4 % 4=0:=by omega
  simp only[d,if_false,false_and];rw[b j _ (by omega) (by omega),b j _ (by omega) (by omega),show 4*((16*(n+1)+j) / 4) - 16+(16*(n+1)+j) % 4=16*n+j by omega,show 4*((16*(n+1)+j) / 4) - 4+(16*(n+1)+j) % 4=16*(n+1)+(j - 4) by omega]
theorem nC (A B:List UInt8)(i j:Nat)(h:A.length=B.length)(c:i<=A.length):(aG A B i).getD j 0=if j<i then B.getD j 0 else A.getD j 0:=by
 unfold aG;have b:(B.take i).length=i:=by simp;omega
 by_cases a:j<i
 ·rw[if_pos a,IU,JE (by omega),Ls a,IU]
 ·rw[if_neg a,IU,JB (by omega),b,LJ,IU,show i+(j - i)=j by omega]
def ep (row:List UInt8):List UInt8:=tab 16 λj=>row.getD j 0 ^^^ bS (row.getD (12+(j+1) % 4) 0)
theorem lE (row:List UInt8):(ep row).length=16:=fi _ _
theorem Cr (row:List UInt8)(j:Nat)(h:j<16):(ep row)[j]?=some (row.getD j 0 ^^^ bS (row.getD (12+(j+1) % 4) 0)):=by simp[ep,tab,h]
theorem Ct {row N:List UInt8}{r:UInt8}(a:row.length=16)(h:rz row r N):(aG row (ep row) 4).set 0 ((ep row).getD 0 0 ^^^ r)=aG row N 4:=by
 have e:(aG row (ep row) 4).length=16:=by rw[fR _ _ 4 (by rw[a,lE]) (by omega),a]
 have d:(aG row N 4).length=16:=by rw[fR _ _ 4 (by rw[a,h.len]) (by omega),a]
 refine lD 16 _ _ (by rw[JA,e]) d λi f=>?_
 rw[nC row N 4 i (by rw[a,h.len]) (by omega)];by_cases c:i=0
 ·subst c
  rw[IU,List.getElem?_set_self (by omega),if_pos (by omega),h.low 0 (by omega),if_pos rfl];show(ep row).getD 0 0 ^^^ r=_
  unfold ep;rw[iJ 16 _ 0 (by omega)]
 ·rw[IU,List.getElem?_set_ne (by omega),<-IU,nC row (ep row) 4 i (by rw[a,lE]) (by omega)]
  by_cases b:i<4
  ·rw[if_pos b,if_pos b,h.low i b,if_neg c,UInt8.xor_zero]
   unfold ep;rw[iJ 16 _ i (by omega)]
  ·rw[if_neg b,if_neg b]
theorem xM (x y:Nat)(b:x<1024)(a:y<1024):bits .xor .i64 (x:Int) (y:Int)=((x ^^^ y:Nat):Int):=by
 have c:x ^^^ y<1024:=Nat.xor_lt_two_pow (n:=10) b a;change IntKind.i64.wrap (((BitVec.ofInt 64 (x:Int) ^^^ BitVec.ofInt 64 (y:Int)).toNat:Nat):Int)=_;rw[Kh,Kh,BitVec.toNat_xor,Li,Li,Ke (by omega),Ke (by omega),zi _ (by omega) (by omega)]
theorem pI (a b:UInt8)(w:World):Calls prog 228 #[.int .u8 (a.toNat:Int),.int .u8 (b.toNat:Int)] w λe w'=>e=.returned (.int .u8 ((bc a b).toNat:Int))/\w=w':=by
 have I:=dj a;have v:=dj b;have C:=jh a b;obtain⟨A,P⟩:∃ A,a.toNat=A:=⟨_,rfl⟩;obtain⟨B,N⟩:∃ B,b.toNat=B:=⟨_,rfl⟩;rw[P] at I C ⊢;rw[N] at v C ⊢;have S:Hid (eF 8 0 A B=gm A B):=rfl;have R:=Lib.hid C;clear P N C;go_enter func228,ntmps228;go_wp2_with fail;go_loopw[5,6,7,8] (λo x y p wr=>(∃ (i O X Y:Nat),i<=8/\p=.int .i64 i/\o=.int .i64 O/\x=.int .i64 X/\y=.int .i64 Y/\O<256/\X<256/\Y<256/\eF (8 - i) O X Y=gm A B)/\w=wr) (λ_ _ _ p _=>8 - (intOf p).toNat)
 case atStart=>exact⟨⟨0,0,A,B,by omega,rfl,rfl,rfl,rfl,by omega,I,v,S.out⟩,rfl⟩
 case round=>
  obtain⟨⟨i,O,X,Y,W,rfl,rfl,rfl,rfl,G,K,hY,f⟩,rfl⟩:=hrel;by_cases Q:i<8
  ·have U:(i:Int)<8:=by omega
   have j:eF (8 - (i+1)) (bif Nat.beq (Y % 2) 1 then O ^^^ X else O) (xtN X) (Y / 2)=gm A B:=by
    rw[show 8 - i=(8 - (i+1))+1 by omega] at f;exact f
   have k:=pj K;have D:=xM O X (by omega) (by omega);have m:=xM (2*X) 283 (by omega) (by omega);have s:=xor_lt G K;have c:xtN X=(bif Nat.ble 256 (2*X) then (2*X) ^^^ 283 else 2*X):=rfl;obtain⟨Z,J⟩:∃ Z,O ^^^ X=Z:=⟨_,rfl⟩;obtain⟨V,L⟩:∃ V,(2*X) ^^^ 283=V:=⟨_,rfl⟩;obtain⟨T,M⟩:∃ T,xtN X=T:=⟨_,rfl⟩;rw[J] at j D s;rw[L] at m c;rw[M] at j k c;rw[Ks] at m;have H:bits .xor .i64 (2*(X:Int)) 283=(V:Int):=m;clear m J L M f;have g:((Y / 2:Nat):Int)=(Y:Int) / 2:=by omega
   by_cases v:256<=2*X
   ·have l:Nat.ble 256 (2*X)=true:=Nat.ble_eq_true_of_le v
    rw[l] at c;have r:T=V:=c;subst r;have E:255<2*(X:Int):=by omega
    have z:=Lib.hid j;clear j c l;by_cases q:Y % 2=1
    ·have n:(Y:Int) % 2=1:=by omega
     have d:Nat.beq (Y % 2) 1=true:=by rw[q];rfl
     have t:=Lib.hid d;clear d q;go_wp2_with fail;go_roundw
     case rel=>exact⟨⟨i+1,Z,T,Y / 2,by omega,by go_num,rfl,rfl,by rw[g],s,k,by omega,by have:=z.out;rw[t.out] at this;exact this⟩,trivial⟩
     case measure=>simp[intOf];omega
    ·have n:(Y:Int) % 2=0:=by omega
     have d:Nat.beq (Y % 2) 1=false:=by rw[show Y % 2=0 by omega];rfl
     have t:=Lib.hid d;clear d q;go_wp2_with fail;go_roundw
     case rel=>exact⟨⟨i+1,O,T,Y / 2,by omega,by go_num,rfl,rfl,by rw[g],G,k,by omega,by have:=z.out;rw[t.out] at this;exact this⟩,trivial⟩
     case measure=>simp[intOf];omega
   ·have l:Nat.ble 256 (2*X)=false:=by
     cases h:Nat.ble 256 (2*X)
     ·rfl
     ·exact absurd (Kr h) v
    rw[l] at c;have r:T=2*X:=c;subst r;have E:¬255<2*(X:Int):=by omega
    have z:=Lib.hid j;clear j c l;by_cases q:Y % 2=1
    ·have n:(Y:Int) % 2=1:=by omega
     have d:Nat.beq (Y % 2) 1=true:=by rw[q];rfl
     have t:=Lib.hid d;clear d q;go_wp2_with fail;go_roundw
     case rel=>exact⟨⟨i+1,Z,2*X,Y / 2,by omega,by go_num,rfl,by rw[Ks];rfl,by rw[g],s,k,by omega,by have:=z.out;rw[t.out] at this;exact this⟩,trivial⟩
     case measure=>simp[intOf];omega
    ·have n:(Y:Int) % 2=0:=by omega
     have d:Nat.beq (Y % 2) 1=false:=by rw[show Y % 2=0 by omega];rfl
     have t:=Lib.hid d;clear d q;go_wp2_with fail;go_roundw
     case rel=>exact⟨⟨i+1,O,2*X,Y / 2,by omega,by go_num,rfl,by rw[Ks];rfl,by rw[g],G,k,by omega,by have:=z.out;rw[t.out] at this;exact this⟩,trivial⟩
     case measure=>simp[intOf];omega
  ·obtain rfl:i=8:=by omega
   have F:O=gm A B:=f;have u:IntKind.u8.wrap (O:Int)=(O:Int):=by rw[Kt];omega
   rw[F] at u;go_wp2_with fail;go_ret;refine⟨?_,rfl⟩;simp[R.out,u]
theorem El:dr 9 (λn=>dr 256 λx=>Nat.beq n 0 || (Nat.beq ((x*2 ^ n) % 256 ||| x / 2 ^ (8 - n)) (cZ x n) && Nat.ble (cZ x n) 255))=true:=by decide +kernel
theorem nV (d:0<n)(c:n<9)(b:x<256):(x*2 ^ n) % 256 ||| x / 2 ^ (8 - n)=cZ x n/\cZ x n<256:=by
 have h:=dK (dK El n c) x b;have a:Nat.beq n 0=false:=by cases n with|zero=>omega|succ n=>rfl
 rw[a,Bool.false_or,Ld] at h;have:=Kr h.2;exact⟨JZ h.1,by omega⟩
theorem xN (x:Nat)(h:x<256):IntKind.u8.wrap (x:Int)=x:=by rw[Kt];omega
theorem xO (x y:Nat)(c:x<256)(b:y<256):bits .or .u8 (x:Int) (y:Int)=((x ||| y:Nat):Int):=by
 have a:x ||| y<256:=Nat.or_lt_two_pow (n:=8) c b
 change IntKind.u8.wrap (((BitVec.ofInt 8 (x:Int) ||| BitVec.ofInt 8 (y:Int)).toNat:Nat):Int)=_;rw[Kh,Kh,BitVec.toNat_or,Li,Li,Ke c,Ke b,xN _ a]
theorem ky (x y:Nat)(c:x<256)(b:y<256):bits .xor .u8 (x:Int) (y:Int)=((x ^^^ y:Nat):Int):=by
 have a:x ^^^ y<256:=xor_lt c b;change IntKind.u8.wrap (((BitVec.ofInt 8 (x:Int) ^^^ BitVec.ofInt 8 (y:Int)).toNat:Nat):Int)=_;rw[Kh,Kh,BitVec.toNat_xor,Li,Li,Ke c,Ke b,xN _ a]
theorem pJ (i x:Nat)(w:World)(n:0<i)(o:i<8)(d:x<256):
  Calls prog 259 #[.int .u8 (x:Int),.int .u8 i] w λe w'=>e=.returned (.int .u8 ((cZ x i:Nat):Int))/\w=w':=by
 have p:IntKind.u8.wrap (8 - (i:Int))=8 - i:=by rw[Kt];omega
 have q:(8 - (i:Int)).toNat=8 - i:=by omega
 obtain⟨a,b⟩:=nV n (by omega) d;obtain⟨L,k⟩:∃ L,cZ x i=L:=⟨_,rfl⟩;rw[k] at a b ⊢;have g:(x:Int)*2 ^ i=((x*2 ^ i:Nat):Int):=by rw[Ks,Mv];rfl
 have l:(x:Int) / 2 ^ (8 - i)=((x / 2 ^ (8 - i):Nat):Int):=by rw[MH,Mv];rfl
 have m:IntKind.u8.wrap ((x:Int)*2 ^ i)=((x*2 ^ i % 256:Nat):Int):=by rw[g,Kt];omega
 have f:x / 2 ^ (8 - i)<256:=LW (Mt _ _) d;have c:=xO (x*2 ^ i % 256) (x / 2 ^ (8 - i)) (by omega) f;rw[a] at c;obtain⟨P,j⟩:∃ P,x*2 ^ i % 256=P:=⟨_,rfl⟩;obtain⟨Q,h⟩:∃ Q,x / 2 ^ (8 - i)=Q:=⟨_,rfl⟩;rw[j] at m c;rw[h] at l c;clear a g j h k f;go_enter func259,ntmps259;go_wp2;go_ret;exact⟨rfl,rfl⟩
theorem Em (x:Nat)(w:World)(a:x<256):
  Calls prog 227 #[.int .u8 (x:Int)] w λe w'=>e=.returned (.int .u8 ((fT x:Nat):Int))/\w=w':=by
 have i:=(nV (n:=1) (by omega) (by omega) a).2;have h:=(nV (n:=2) (by omega) (by omega) a).2;have g:=(nV (n:=3) (by omega) (by omega) a).2;have f:=(nV (n:=4) (by omega) (by omega) a).2;have I:=pJ 1 x w (by omega) (by omega) a;have H:=pJ 2 x w (by omega) (by omega) a;have G:=pJ 3 x w (by omega) (by omega) a;have F:=pJ 4 x w (by omega) (by omega) a;have c:x ^^^ cZ x 1 ^^^ cZ x 2 ^^^ cZ x 3 ^^^ cZ x 4 ^^^ 99=fT x:=rfl;obtain⟨A,E⟩:∃ A,cZ x 1=A:=⟨_,rfl⟩;obtain⟨B,z⟩:∃ B,cZ x 2=B:=⟨_,rfl⟩;obtain⟨C,y⟩:∃ C,cZ x 3=C:=⟨_,rfl⟩;obtain⟨D,v⟩:∃ D,cZ x 4=D:=⟨_,rfl⟩;obtain⟨T,u⟩:∃ T,fT x=T:=⟨_,rfl⟩;rw[E] at i I c;rw[z] at h H c;rw[y] at g G c;rw[v] at f F c;rw[u] at c ⊢;clear E z y v u;have K:=ky x A a i;have l:=xor_lt a i;have p:=ky (x ^^^ A) B l h;have k:=xor_lt l h;have m:=ky (x ^^^ A ^^^ B) C k g;have j:=xor_lt k g;have d:=ky (x ^^^ A ^^^ B ^^^ C) D j f;have o:=xor_lt j f;have b:=ky (x ^^^ A ^^^ B ^^^ C ^^^ D) 99 o (by omega);rw[c] at b;clear l k j o i h g f c;obtain⟨U,t⟩:∃ U,x ^^^ A=U:=⟨_,rfl⟩;rw[t] at K p m d b;obtain⟨V,s⟩:∃ V,U ^^^ B=V:=⟨_,rfl⟩;rw[s] at p m d b;obtain⟨W,r⟩:∃ W,V ^^^ C=W:=⟨_,rfl⟩;rw[r] at m d b;obtain⟨X,q⟩:∃ X,W ^^^ D=X:=⟨_,rfl⟩;rw[q] at d b;have J:bits .xor .u8 (X:Int) 99=(T:Int):=b;clear b t s r q;go_enter func227,ntmps227;go_wp2_with fail;refine I.mono ?_;rintro _ _ ⟨rfl,rfl⟩;go_wp2_with fail;refine H.mono ?_;rintro _ _ ⟨rfl,rfl⟩;go_wp2_with fail;refine G.mono ?_;rintro _ _ ⟨rfl,rfl⟩;go_wp2_with fail;refine F.mono ?_;rintro _ _ ⟨rfl,rfl⟩;go_wp2_with fail;go_ret;exact⟨rfl,rfl⟩
def aV:Nat->Nat
 | 0=>1
 | i+1=>gm (aV i) 3
theorem gJ:∀ i,aV i<256
 | 0=>by decide
 | i+1=>lC (gJ i)
theorem sx (i:Nat):∀ j,aV (i+j)=gm (aV i) (aV j)
 | 0=>by
  show aV i=gm (aV i) 1
  rw[mZ (gJ i)]
 | j+1=>by
  show gm (aV (i+j)) 3=gm (aV i) (gm (aV j) 3)
  rw[sx i j,vj (gJ i) (gJ j) (by omega)]
theorem xP:aV 255=1:=by decide +kernel
theorem En (h:i<255):eQ (aV i)=aV ((255 - i) % 255):=by
 refine(Cl (gJ i) (gJ _) ?_).symm;by_cases a:i=0
 ·subst a
  show gm 1 (aV 0)=1
  exact mZ (by omega)
 ·rw[Ke (by omega),<-sx,show i+(255 - i)=255 by omega,xP]
def pK:Nat->Nat->Nat->Bool
 | 0,_,_=>false
 | n+1,c,x=>Nat.beq c x || pK n (gm c 3) x
theorem xQ (x:Nat):∀ n i,pK n (aV i) x=true->∃ j,j<i+n/\aV j=x
 | 0,i,h=>by cases h
 | n+1,i,h=>by
  rw[pK,MO] at h
  rcases h with h|h
  ·exact⟨i,by omega,JZ h⟩
  ·obtain⟨j,h1,h2⟩:=xQ x n (i+1) h
   exact⟨j,by omega,h2⟩
theorem Eo:dr 256 (λx=>Nat.beq x 0 || pK 255 1 x)=true:=by decide +kernel
theorem Ep (h:x<256)(c:x≠0):∃ i,i<255/\aV i=x:=by
 have:=dK Eo x h;rw[MO] at this;rcases this with a|a
 ·exact absurd (JZ a) c
 ·obtain⟨j,a,b⟩:=xQ x 255 0 a
  exact⟨j,by omega,b⟩
def p3B (i:Nat):UInt8:=UInt8.ofNat (aV i)
theorem lS (i:Nat):(p3B i).toNat=aV i:=by
 unfold p3B;rw[Lj];have:=gJ i;omega
theorem xR (i:Nat):p3B (i+1)=bc (p3B i) 3:=jJ (by rw[jh,lS,lS];rfl)
def cD (x:UInt8):UInt8:=UInt8.ofNat (fT x.toNat)
theorem Er (h:x<256):fT x<256:=by
 have:=dK vq x h;rw[Ld] at this;have:=Kr this.1;omega
theorem pL (x:UInt8):(cD x).toNat=fT x.toNat:=by
 unfold cD;rw[Lj];have:=Er (dj x);omega
theorem Es (h:i<255):cD (p3B ((255 - i) % 255))=bS (p3B i):=jJ (by rw[pL,vr,lS,lS,nz,En h])
theorem Et:cD 0=bS 0:=jJ (by rw[pL,vr];show fT 0=fT (eQ 0);rw[Ck])
def fA (k:Nat)(l:List UInt8):Prop:=l.length=256/\l.getD 0 0=bS 0/\∀ i,i<k->l.getD (aV i) 0=bS (p3B i)
theorem Eu (h:i<255):aV i≠0:=λb=>by
 have a:gm (aV i) (aV (255 - i))=1:=by rw[<-sx,show i+(255 - i)=255 by omega,xP]
 rw[b,mY (by omega) (gJ _),vl] at a;cases a
theorem fA.begin:fA 0 ((List.replicate 256 (0:UInt8)).set 0 (cD 0)):=⟨by rw[JA,JT],by rw[<-Et];rfl,λi h=>by omega⟩
theorem fA.next {k:Nat}(h:fA k l)(c:k<255):fA (k+1) (l.set (aV k) (cD (p3B ((255 - k) % 255)))):=by
 obtain⟨d,n,m⟩:=h;have f:=gJ k;have g:=Eu c;rw[Es c];have a:∀ j,(l.set (aV k) (bS (p3B k))).getD j 0=if j=aV k then bS (p3B k) else l.getD j 0:=λj=>by
  by_cases e:j=aV k
  ·subst e
   simp[IU,d,f]
  ·rw[if_neg e]
   simp[IU,Mc,MX e]
 refine⟨by simp[d],by rw[a,if_neg (MX g),n],λi o=>?_⟩;rw[a];by_cases e:aV i=aV k
 ·rw[if_pos e]
  unfold p3B;rw[e]
 ·rw[if_neg e]
  by_cases b:i=k
  ·subst b;exact absurd rfl e
  ·exact m i (by omega)
def fL:List UInt8:=tab 256 λi=>bS (UInt8.ofNat i)
theorem nW:fL.length=256:=fi _ _
theorem pM (x:UInt8):fL.getD x.toNat 0=bS x:=by
 have h:=iJ 256 (λi=>bS (UInt8.ofNat i)) x.toNat (dj x);have e:UInt8.ofNat x.toNat=x:=jJ (by rw[Lj];have:=dj x;omega);exact h.trans (by simp only[e])
theorem fA.all (h:fA 255 l):l=fL:=by
 obtain⟨g,f,e⟩:=h;refine lD 256 _ _ g nW λi a=>?_
 have c:fL.getD i 0=bS (UInt8.ofNat i):=iJ 256 (λi=>bS (UInt8.ofNat i)) i a;rw[c];by_cases b:i=0
 ·subst b;exact f
 ·obtain⟨j,d,rfl⟩:=Ep a b
  exact e j d
theorem bV (x y:UInt8):bits .xor .u8 (x.toNat:Int) (y.toNat:Int)=((x ^^^ y).toNat:Int):=by
 rw[ky _ _ (dj x) (dj y),MQ]
theorem Ex:dr 256 (λx=>Nat.beq ((x*2) % 256 ^^^ (x / 128)*27) (gm x 2))=true:=by decide +kernel
theorem lT (x:UInt8)(w:World):Calls prog 240 #[.int .u8 (x.toNat:Int)] w λe w'=>e=.returned (.int .u8 ((bc x 2).toNat:Int))/\w=w':=by
 have b:=dj x;have h:=JZ (dK Ex x.toNat b);have i:IntKind.u8.wrap ((x.toNat:Int)*2)=((x.toNat*2 % 256:Nat):Int):=by rw[Kt];omega
 have g:(x.toNat:Int) / 128=((x.toNat / 128:Nat):Int):=by omega
 have f:IntKind.u8.wrap (((x.toNat / 128:Nat):Int)*27)=((x.toNat / 128*27:Nat):Int):=by rw[Kt];omega
 have c:=ky (x.toNat*2 % 256) (x.toNat / 128*27) (by omega) (by omega);rw[h] at c;have a:=jh x 2;rw[show(2:UInt8).toNat=2 from rfl] at a;rw[<-a] at c;generalize (bc x 2).toNat=M at *;generalize x.toNat*2 % 256=A at *;generalize d:x.toNat / 128=B at *;generalize B*27=C at *;generalize x.toNat=X at *;clear h a b d;go_enter func240,ntmps240;go_wp2;go_ret;exact⟨rfl,rfl⟩
theorem Ey:dr 5 (λn=>dr 256 λx=>Nat.beq ((x*2 ^ n) % 256 ||| x / 2 ^ (8 - n)) ((x*2 ^ n) % 256 ^^^ x / 2 ^ (8 - n)))=true:=by decide +kernel
def jp (x:UInt8)(n:Nat):UInt8:=UInt8.ofNat (cZ x.toNat n)
theorem Ez (x:UInt8)(n:Nat):cZ x.toNat n<256:=xor_lt (Nat.mod_lt _ (by omega)) (LW (Mt _ _) (dj x))
theorem xU (x:UInt8)(n:Nat):(jp x n).toNat=cZ x.toNat n:=by
 unfold jp;rw[Lj,Ke (Ez x n)]
theorem EA (x:Int)(b:0<=x)(a:x<2 ^ 64):bits .and .u64 x 7=x % 8:=
 bits_mask .u64 64 (by decide) (λn b a=>by simp[IntKind.wrap,IntKind.bits,IntKind.signed];omega) 3 (by decide) x b a
theorem EB (x:UInt8)(i:Nat)(w:World)(m:i<5):
  Calls prog 270 #[.int .u8 (x.toNat:Int),.int .i64 i] w λe w'=>e=.returned (.int .u8 ((jp x i).toNat:Int))/\w=w':=by
 have c:=dj x;have j:=xU x i;have a:=JZ (dK (dK Ey i m) x.toNat c);rw[show(x.toNat*2 ^ i) % 256 ^^^ x.toNat / 2 ^ (8 - i)=cZ x.toNat i from rfl,<-j] at a;generalize (jp x i).toNat=L at *;generalize x.toNat=X at *;have o:IntKind.u64.wrap (i:Int)=i:=by simp[IntKind.wrap,IntKind.bits,IntKind.signed];omega
 have w2:=EA (i:Int) (by omega) (by omega);rw[show(i:Int) % 8=i by omega] at w2;have n:IntKind.u64.wrap (8 - (i:Int))=8 - i:=by simp[IntKind.wrap,IntKind.bits,IntKind.signed];omega
 have p:(8 - (i:Int)).toNat=8 - i:=by omega
 have f:(X:Int)*2 ^ i=((X*2 ^ i:Nat):Int):=by rw[Ks,Mv];rfl
 have k:(X:Int) / 2 ^ (8 - i)=((X / 2 ^ (8 - i):Nat):Int):=by rw[MH,Mv];rfl
 have l:IntKind.u8.wrap ((X:Int)*2 ^ i)=((X*2 ^ i % 256:Nat):Int):=by rw[f,Kt];omega
 have d:X / 2 ^ (8 - i)<256:=LW (Mt _ _) c;have b:=xO (X*2 ^ i % 256) (X / 2 ^ (8 - i)) (by omega) d;rw[a] at b;obtain⟨P,h⟩:∃ P,X*2 ^ i % 256=P:=⟨_,rfl⟩;obtain⟨Q,g⟩:∃ Q,X / 2 ^ (8 - i)=Q:=⟨_,rfl⟩;rw[h] at l b;rw[g] at k b;clear a f h g j d;go_enter func270,ntmps270;go_wp2;go_ret;exact⟨rfl,rfl⟩
def jq (y:UInt8):Nat->UInt8
 | 0=>99
 | n+1=>jq y n ^^^ jp y n
theorem EC:dr 256 (λx=>Nat.beq (99 ^^^ cZ x 0 ^^^ cZ x 1 ^^^ cZ x 2 ^^^ cZ x 3 ^^^ cZ x 4) (fT x))=true:=by decide +kernel
theorem ED (y:UInt8):jq y 5=cD y:=by
 apply jJ;rw[pL];simp only[jq,MQ,xU];exact JZ (dK EC y.toNat (dj y))
theorem xV (y:UInt8)(w:World):Calls prog 263 #[.int .u8 (y.toNat:Int)] w λe w'=>e=.returned (.int .u8 ((cD y).toNat:Int))/\w=w':=by
 have d:=Lib.hid (ED y);go_enter func263,ntmps263;go_wp2_with fail;go_loopw[3,5] (λo p wr=>(∃ (i:Nat),i<=5/\p=.int .i64 i/\o=.int .u8 ((jq y i).toNat:Int))/\w=wr) (λ_ p _=>5 - (intOf p).toNat)
 case atStart=>exact⟨⟨0,by omega,rfl,rfl⟩,rfl⟩
 case round=>
  obtain⟨⟨i,h,rfl,rfl⟩,rfl⟩:=hrel;by_cases a:i<5
  ·have g:(i:Int)<5:=by omega
   have f:=bV (jq y i) (jp y i);have b:=EB y i w a;have c:Hid (jq y i ^^^ jp y i=jq y (i+1)):=rfl;generalize jq y i ^^^ jp y i=Z at *;generalize jq y i=U at *;generalize jp y i=V at *;go_wp2_with(go_at_call 270;refine b.mono ?_;rintro _ _ ⟨rfl,rfl⟩)
   go_roundw
   case rel=>exact⟨⟨i+1,by omega,by go_num,by rw[c.out]⟩,trivial⟩
   case measure=>simp[intOf];omega
  ·obtain rfl:i=5:=by omega
   rw[d.out];go_wp2_with fail;go_ret;exact⟨rfl,rfl⟩

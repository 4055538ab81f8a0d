import Derived.Test.YthmhklmkgkfcpaaGreatDoorW5
import Derived.Deep.Slices
import Derived.Lib.SmallJoins
import Derived.Laws.AppendOwn
import Derived.Deep.RegionLaw
import Derived.Lib.AppendZerosOnto
set_option linter.all false
set_option maxHeartbeats 8000000
set_option maxRecDepth 100000
namespace Go.Proofs.YthmhklmkgkfcpaaGreatDoor
open Go.Proofs.Tryz Go.RowKit
variable {B K c p:Nat}{P:Program}{Q:Exit->Act->World->Prop}{T e:TypeId}{a:Option Addr}{b:List UInt8}{ls:List (List UInt8)}{n:Nod}{o:Oper}{t:List Nod}{us:List Value}{v:Value}{w w':World}
section
open Go.ChangeShapes Go.Deep Go.WideShapes
section
variable {H : Type} {enc : TypeId × Value -> H} {P : Program} {w : World} {base : Nat} {spare : Nat -> Bool} {held : Bool}
theorem zO {n:Int}(h:(Lit.int .u8 n).wf=true):0<=n/\n<256:=by
 have:=bounds_u8 h;omega
theorem Rd.of_cells {t:TypeId}{d:Nat}{cs:List Value}{x:DataW H × List MemPlace}(j:P.underlying t=some (.slice e))(m:P.underlying e=some (.int .u8))(n:P.cellsOf e=1)
  (h:DataW.trod enc P w base spare held d t cs=some x):∃ v l,cs=[v]/\Rd w v l:=by
 rcases open_ints j m n h with⟨rfl,_⟩|⟨a,len,cap,zs,rfl,_,hl,hm,hz,_,hcell,hwz⟩
 ·exact⟨_,[],rfl,none,0,rfl,Ja _,Jl _,λ_=>rfl,λy f=>by cases f⟩
 ·have g:len<=zs.length:=by rw[hz];split <;> omega
  have b:((zs.take len).map λz=>UInt8.ofNat z.toNat).length=len:=by simp;omega
  refine⟨_,(zs.take len).map λz=>UInt8.ofNat z.toNat,rfl,some a,cap,by rw[b],by omega,hm,λh=>(by cases h),λy f i k=>?_⟩;cases f;rw[b] at k;rw[hcell i (by omega)];have c:i<zs.length:=by omega
  have o:=zO (hwz (zs[i]'c) (JD c));simp[IU,IV c];omega
theorem Rd.of_one {t:TypeId}{a:Nat}{x:DataW H × List MemPlace}(b:P.underlying t=some (.slice e))(c:P.underlying e=some (.int .u8))(d:P.cellsOf e=1)
  (h:DataW.trod enc P w base spare held a t [v]=some x):∃ l,Rd w v l:=by
 obtain⟨f,l,e,h⟩:=Rd.of_cells b c d h;cases e;exact⟨l,h⟩
theorem zP {α:Type}[Inhabited α](n:Nat)(Q:Nat->α->Prop)(h:∀ i,i<n->∃ x,Q i x)(d:α):∃ l:List α,l.length=n/\∀ i,i<n->Q i (l.getD i d):=by
 induction n with
 | zero=>exact⟨[],rfl,λi b=>by omega⟩
 | succ n ih=>
  obtain⟨l,a,f⟩:=ih λi b=>h i (by omega)
  obtain⟨x,e⟩:=h n (by omega)
  refine⟨l++[x],by simp[a],λi b=>?_⟩
  rcases Nat.lt_or_ge i n with c|c
  ·rw[IU,JE (by omega),<-IU]
   exact f i c
  ·have:i=n:=by omega
   subst this
   rw[IU,JB (by omega),a,Lx]
   exact e
theorem zQ {r:Reach}{T:Nat}{t:TypeId}{j i g f e:Field}{d:DataW H}{p:List MemPlace}(C:P.underlying t=some (.struct #[j,i,g,f,e]))(a:oneCellFields P #[j,i,g,f,e]=true)(S:P.cellsOf t=5)
  (Q:Value.okWide P w r T t v) (h:DataW.Trod enc P w base spare held t v d p):
  ∃ (B A z y x:Value) (s q o m k:DataW H × List MemPlace) (n:Nat),v=.agg #[B,A,z,y,x] /\
   DataW.trod enc P w base spare held n j.type [B]=some s/\DataW.trod enc P w base spare held n i.type [A]=some q/\DataW.trod enc P w base spare held n g.type [z]=some o/\DataW.trod enc P w base spare held n f.type [y]=some m/\DataW.trod enc P w base spare held n e.type [x]=some k:=by
 obtain⟨cs,rfl,u⟩:=okWide_struct C Q
 obtain⟨l⟩:=cs
 match l,u.trans S with
 | [c0,c1,c2,c3,c4],_=>
  obtain⟨D,R⟩:=h
  obtain⟨xs,n,_,U,_,b,c⟩:=DataW.trod_struct C R
  obtain⟨J,O⟩:=hone_of a 0 j rfl
  obtain⟨I,N⟩:=hone_of a 1 i rfl
  obtain⟨G,M⟩:=hone_of a 2 g rfl
  obtain⟨F,L⟩:=hone_of a 3 f rfl
  obtain⟨E,K⟩:=hone_of a 4 e rfl
  match xs,b with
  | [s,q,o,m,k],_=>
   exact⟨c0,c1,c2,c3,c4,s,q,o,m,k,n,rfl,by simpa [Value.cells,J,O] using c 0 j rfl,by simpa [Value.cells,I,N] using c 1 i rfl,by simpa [Value.cells,G,M] using c 2 g rfl,by simpa [Value.cells,F,L] using c 3 f rfl,by simpa [Value.cells,E,K] using c 4 e rfl⟩
end
def cX (w:World)(v:Value)(us:List Value):Prop:=
 ∃ a c,v=.slice a us.length c/\us.length<=c/\c<=maxLen/\(a=none->c=0) /\
  ∀ x,a=some x->∀ i,(h:i<us.length)->w.cell? (x.add i)=some (us[i]'h)
theorem cX.kp (h:cX w v us)(k:Kp w w'):cX w' v us:=by
 obtain⟨a,c,rfl,j,g,f,e⟩:=h;exact⟨a,c,rfl,j,g,f,λx b i d=>k.cell (e x b i d)⟩
theorem cX.shape (h:cX w v us):∃ a c,v=.slice a us.length c/\us.length<=c/\c<=maxLen:=by
 obtain⟨a,c,e,d,b,_⟩:=h;exact⟨a,c,e,d,b⟩
theorem cX.nil (w:World):cX w (.slice none 0 0) []:=⟨none,0,rfl,Ja _,Jl _,λ_=>rfl,λx a=>by cases a⟩
theorem cX.at {n:Nat}(h:cX w (.slice a n c) us)(k:Nat)(p:k<n):
  ∃ b d,a=some ⟨b,d,none⟩/\b<w.heap.size/\∀ i,i<n->w.cell? ⟨b,d+i,none⟩=some (us.getD i (.bool false)):=by
 obtain⟨t,s,e,r,q,o,j⟩:=h
 simp only[Ji] at e
 obtain⟨rfl,rfl,rfl⟩:=e
 cases a with
 | none=>have:=o rfl;omega
 | some x=>
  obtain⟨b,d,f⟩:=x
  have l:=j _ rfl 0 (by omega)
  have m:f=none:=by simpa [Addr.add] using Mk l
  subst m
  refine⟨b,d,rfl,Jz w _ l,λi g=>?_⟩
  have:=j _ rfl i g
  rw[IU,IV g,LA,<-this]
  congr 1
  unfold Addr.add
  split <;> simp_all
theorem cX.own (h:w.ownsRow B e 1 v us.length us):cX w v us:=by
 rcases h.2 with⟨rfl,h0⟩|⟨g,cap,cur,rfl,hb,hg,hn,hm,hs,ht⟩
 ·exact⟨none,0,by rw[h0],by omega,Jl _,λ_=>rfl,λx a=>by cases a⟩
 ·refine⟨_,cap,rfl,hn,hm,λh=>(by cases h),λx a i b=>?_⟩
  cases a;have e:(⟨g,0,none⟩:Addr).add i=⟨g,i,none⟩:=by unfold Addr.add;split <;> simp_all
  rw[e,cell_of_row w g i _ _ _ hg];have a:us[i]?=some us[i]:=IV b;rw[<-a,<-ht,Ls (by omega)];simp
def RL (w:World)(v:Value)(ls:List (List UInt8)):Prop:=∃ us,cX w v us/\us.length=ls.length/\∀ i,i<ls.length->Rd w (us.getD i (.bool false)) (ls.getD i [])
theorem RL.kp (h:RL w v ls)(k:Kp w w'):RL w' v ls:=by
 obtain⟨us,d,c,b⟩:=h;exact⟨us,d.kp k,c,λi a=>(b i a).kp k⟩
theorem RL.shape (h:RL w v ls):∃ a c,v=.slice a ls.length c/\ls.length<=c/\c<=maxLen:=by
 obtain⟨us,d,b,e⟩:=h;rw[<-b];exact d.shape
theorem RL.at {n:Nat}(h:RL w (.slice a n c) ls)(k:Nat)(g:k<n):
  ∃ b d,a=some ⟨b,d,none⟩/\b<w.heap.size/\∀ i,i<n->∃ u,w.cell? ⟨b,d+i,none⟩=some u/\Rd w u (ls.getD i []):=by
 obtain⟨us,f,r,p⟩:=h;obtain⟨b,d,o,m,l⟩:=f.at k g;have q:n=us.length:=by
  obtain⟨t,s,e,_⟩:=f.shape;simp only[Ji] at e;exact e.2.1
 exact⟨b,d,o,m,λi j=>⟨_,l i j,p i (by omega)⟩⟩
theorem RL.cons {u:Value}{l:List UInt8}(h:w.ownsRow B e 1 v (u :: us).length (u :: us))(a:Rd w u l)(c:us.length=ls.length)
  (b:∀ i,i<ls.length->Rd w (us.getD i (.bool false)) (ls.getD i [])):RL w v (l :: ls):=by
 refine⟨u :: us,cX.own h,by simp[c],λi d=>?_⟩
 cases i with
 | zero=>simpa using a
 | succ i=>simpa using b i (by simpa using d)
section
variable {H : Type} {enc : TypeId × Value -> H} {P : Program} {w : World} {base : Nat} {spare : Nat -> Bool} {held : Bool}
end
end
theorem uh (n:Int)(w:World):
  Calls prog 249 #[.int .i64 n] w λe w'=>(∃ v,e=.returned v/\Rd w' v (jB n))/\Kp w w':=by
 by_cases m:0<=n/\n<=1125899906842624
 ·have D:jB n=pad n.toNat:=if_pos m
  rw[D];clear D;obtain⟨m,S⟩:=m;obtain⟨n,rfl⟩:=Jq m;rw[Jm];obtain⟨f,I⟩:∃ f,fill n=f:=⟨_,rfl⟩;have H:=lq n;have G:=lx n;have j:=Aq n;have c:=Ap n;have t:(119 - (n:Int) % 64).tmod 64=(f:Int):=by
   rw[JF (by omega),<-I];unfold fill;omega
  rw[I] at H G j c;have s:(119 - (n:Int) % 64) % 64=(f:Int):=by rw[<-t,JF (by omega)]
  have V:=Lib.hid c;have B:=Lib.hid G;have U:=Lib.hid j;have HB:=Lib.hid S;have W:IntKind.i64.wrap (8*(n:Int))=8*(n:Int):=by rw[Ml];omega
  clear I c G j;go_enter func249,ntmps249;have J:((9+f:Nat):Int)=1+(f:Int)+8:=by omega
  have P:=Lib.hid J;clear J;go_wp2_with(at_make;refine jb (z:=.int .u8 0) (b:=1) underlying24 info5 rfl (by decide) rfl _ _ rfl (9+f) (by rw[P.out];rfl) (by rw[P.out];rfl) (by omega) ?_;intro C o;have l:=Lib.hid o;clear o;have d:By 5 C w.heap.size (List.replicate (9+f) 0):=(by rw[l.out];exact By.fresh _ _ _);have r:Kp w C:=(by rw[l.out];exact(Kp.refl w).alloc _);have O:=d.cell 0 (by simp;omega);have N:=d.frozen 0)
  have u:By 5 (C.setCell ⟨w.heap.size,0,none⟩ (.int .u8 128)) w.heap.size (aG (List.replicate (9+f) 0) (pad n) (1+f)):=d.set 0 128 U.out;have q:Kp w (C.setCell ⟨w.heap.size,0,none⟩ (.int .u8 128)):=Below.setCell r (by simp) _;clear d r O N l t s;go_loopw[22] (λi wr=>∃ k:Nat,k<=8/\i=.int .i64 k/\By 5 wr w.heap.size (aG (List.replicate (9+f) 0) (pad n) (1+f+k))/\Kp w wr) (λi _=>8 - (intOf i).toNat)
  case atStart=>exact⟨0,by omega,rfl,u,q⟩
  case round=>
   clear u q;obtain⟨k,Y,rfl,y,p⟩:=hrel;by_cases F:k<8
   ·have a:=gX (List.replicate (9+f) 0) (pad n) (1+f+k) (by rw[B.out];simp) (by simp;omega) _ (V.out k F)
    have g:(aG (List.replicate (9+f) 0) (pad n) (1+f+k)).length=9+f:=by rw[fR _ _ _ (by rw[B.out];simp) (by simp;omega)];simp
    have O:=y.cell (1+f+k) (by rw[g];omega);have N:=y.frozen (1+f+k);have e1:(8*(7 - (k:Int))).toNat=8*(7 - k):=by omega
    have T:(8*(n:Int)) / 2 ^ (8*(7 - k))=((8*n / 256 ^ (7 - k):Nat):Int):=by
     have:(256:Nat) ^ (7 - k)=2 ^ (8*(7 - k)):=by rw[Nat.pow_mul]
     rw[this];simp
    obtain⟨X,M⟩:∃ X,8*n / 256 ^ (7 - k)=X:=⟨_,rfl⟩;rw[M] at T a;have K:((UInt8.ofNat X).toNat:Int)=(X:Int) % 256:=by simp
    have R:(1+(f:Int)+(k:Int))<9+(f:Int):=by omega
    have Q:(1+(f:Int)+(k:Int)).toNat=1+f+k:=by omega
    have H7:(0:Int)<=7 - (k:Int):=by omega
    have A:=Lib.hid (Jb a K);clear a M g K;go_wp2_with fail;go_roundw
    case rel=>
     refine⟨k+1,by omega,by go_num,?_,Below.setCell p (by simp) _⟩;have h:=y.set (1+f+k) (UInt8.ofNat X) A.out.1;rw[A.out.2] at h;exact h
    case measure=>simp[intOf];omega
   ·obtain rfl:k=8:=by omega
    have L:aG (List.replicate (9+f) 0) (pad n) (1+f+8)=pad n:=by
     rw[show 1+f+8=(pad n).length by rw[B.out];omega];exact jA _ _ (by rw[B.out];simp)
    rw[L] at y;clear L;go_wp2_with fail;go_ret;exact⟨⟨_,rfl,y.rdAll (by rw[B.out]) (Ja _) (by unfold maxLen;omega)⟩,p⟩
 ·have D:jB n=[]:=if_neg m
  rw[D];by_cases h:n<0
  ·go_enter func249,ntmps249
   go_wp2;go_ret;exact⟨⟨_,rfl,none,0,rfl,Ja _,Jl _,λ_=>rfl,λx E=>by cases E⟩,Kp.refl _⟩
  ·have Z:1125899906842624<n:=by omega
   clear m;go_enter func249,ntmps249;go_wp2;go_ret;exact⟨⟨_,rfl,none,0,rfl,Ja _,Jl _,λ_=>rfl,λx E=>by cases E⟩,Kp.refl _⟩
theorem AA (n:Int)(w:World):
  Calls prog 223 #[.int .i64 n] w λe w'=>(∃ v,e=.returned v/\Rd w' v (jB n))/\Kp w w':=by
 have U:=aj;by_cases t:0<=n/\n<=1125899906842624
 ·have s:jB n=pad n.toNat:=if_pos t
  rw[s];clear s;obtain⟨t,S⟩:=t;obtain⟨n,rfl⟩:=Jq t;rw[Jm];obtain⟨f,D⟩:∃ f,fill n=f:=⟨_,rfl⟩;have H:=lq n;have z:∀ k:Nat,k<=f->(((n:Int)+((k:Int)+1)+8) % 64=0↔k=f):=λk J=>by
   have:f=(119 - n % 64) % 64:=D.symm;omega
  have s:pad n=128 :: List.replicate f 0++be 8 (8*n):=by unfold pad;rw[D]
  rw[D] at H;have C:=Lib.hid z;have W:=Lib.hid s;have HB:=Lib.hid S;have hw:IntKind.i64.wrap (8*(n:Int))=8*(n:Int):=by rw[Ml];omega
  clear D z s;go_enter func223,ntmps223;go_wp2_with fail;go_loopw[3] (λv wr=>∃ k:Nat,k<=f/\Ow 5 wr w.heap.size v (128 :: List.replicate k 0)/\Kp w wr) (λv wr=>f - (match v with|.slice _ n _=>n - 1|_=>0))
  case atStart=>exact⟨0,by omega,Ow.lit w 5 w.heap.size 1 _ [128] (Ja _) rfl (by decide) rfl,(Kp.refl w).alloc _⟩
  case round=>
   obtain⟨k,J,d,g⟩:=hrel;obtain⟨a,c,rfl,B,A⟩:=d.rd.shape;have P:(128 :: List.replicate k 0:List UInt8).length=k+1:=by simp
   rw[P] at d B ⊢;unfold maxLen at A;by_cases p:k<f
   ·have u:¬((n:Int)+((k:Int)+1)+8) % 64=0:=by rw[C.out k J];omega
    go_wp2_with(at_builtin;refine bz U rfl _ _ rfl w.heap.size _ _ rfl (d.kp ((Kp.refl _).alloc _)) _ [0] rfl (Rd.box _ _ _ 0 rfl) ?c1 ?c2 ?_;rotate_right;intro M w2 l G _)
    case c1=>simp;omega
    case c2=>have:=g.size;simp;omega
    have R:(128 :: List.replicate k 0++[0]:List UInt8)=128 :: List.replicate (k+1) 0:=by rw[Mi,Kc]
    rw[R] at l;go_roundw
    case rel=>exact⟨k+1,by omega,l,Kp.grown (g.alloc _) G d.own_ge⟩
    case measure=>
     obtain⟨a',c',rfl,_,_⟩:=l.rd.shape;simp;omega
   ·obtain rfl:k=f:=by omega
    have u:((n:Int)+((k:Int)+1)+8) % 64=0:=(C.out k (Ja _)).2 rfl;clear p;go_wp2_with fail;go_loopw[3,5] (λv i wr=>∃ j:Nat,j<=8/\i=.int .i64 (56 - 8*(j:Int))/\Ow 5 wr w.heap.size v (128 :: List.replicate k 0++(be 8 (8*n)).take j)/\Kp w wr) (λ_ i _=>(64+intOf i).toNat)
    case atStart=>exact⟨0,by omega,rfl,by rw[Lq,Kj];exact d,g⟩
    case round=>
     clear d g u B A;obtain⟨j,hj,rfl,d,g⟩:=hrel;by_cases p:j<8
     ·have T:(8*(n:Int)) / 2 ^ (56 - 8*j)=((8*n / 256 ^ (7 - j):Nat):Int):=by
       have:(256:Nat) ^ (7 - j)=2 ^ (56 - 8*j):=by rw[show 56 - 8*j=8*(7 - j) by omega,Nat.pow_mul]
       rw[this];simp
      have e1:(56 - 8*(j:Int)).toNat=56 - 8*j:=by omega
      have Q:0<=56 - 8*(j:Int):=by omega
      have m:=qN 8 (8*n) j p;have o:(be 8 (8*n)).take (j+1)=(be 8 (8*n)).take j++[UInt8.ofNat (8*n / 256 ^ (7 - j))]:=by
       have r:j<(be 8 (8*n)).length:=by rw[bl];exact p
       rw[Jp r];rw[IV r] at m;rw[Lz m]
      obtain⟨X,K⟩:∃ X,8*n / 256 ^ (7 - j)=X:=⟨_,rfl⟩;rw[K] at T o;obtain⟨E,q⟩:∃ b:UInt8,UInt8.ofNat X=b:=⟨_,rfl⟩;have N:(X:Int) % 256=(E.toNat:Int):=by rw[<-q];simp
      rw[q] at o;have y:(128 :: List.replicate k 0++(be 8 (8*n)).take j:List UInt8).length<=100:=by simp[bl];omega
      have V:=Lib.hid o;obtain⟨L,I⟩:∃ L,(128 :: List.replicate k 0++(be 8 (8*n)).take j:List UInt8)=L:=⟨_,rfl⟩;rw[I] at d y;have Y:=Lib.hid I;have O:IntKind.u8.wrap (X:Int)=(E.toNat:Int):=by rw[Kt,N]
      have Z:=Lib.hid q;clear o m K I q;go_wp2_with(at_builtin;refine bz U rfl _ _ rfl w.heap.size _ _ rfl (d.kp ((Kp.refl _).alloc _)) _ [E] rfl (Rd.box _ _ _ E rfl) ?c1 ?c2 ?_;rotate_right;intro M w2 l G _)
      case c1=>simp;omega
      case c2=>have:=g.size;simp;omega
      go_roundw
      case rel=>exact⟨j+1,by omega,by congr 1;omega,by rw[V.out,<-KN,Y.out];exact l,Kp.grown (g.alloc _) G d.own_ge⟩
      case measure=>simp[intOf];omega
     ·obtain rfl:j=8:=by omega
      rw[JG (by rw[bl];exact Ja _)] at d;rw[<-W.out] at d;go_wp2_with fail;go_ret;exact⟨⟨_,rfl,d.rd⟩,g⟩
 ·have s:jB n=[]:=if_neg t
  rw[s];by_cases h:n<0
  ·go_enter func223,ntmps223
   go_wp2;go_ret;exact⟨⟨_,rfl,none,0,rfl,Ja _,Jl _,λ_=>rfl,λx F=>by cases F⟩,Kp.refl _⟩
  ·have h2:1125899906842624<n:=by omega
   clear t;go_enter func223,ntmps223;go_wp2;go_ret;exact⟨⟨_,rfl,none,0,rfl,Ja _,Jl _,λ_=>rfl,λx F=>by cases F⟩,Kp.refl _⟩
def jG (s:S8)(i:Nat):List UInt8:=(s.list.take i).flatMap lm
theorem qU (s:S8)(i:Nat)(h:i<8):jG s (i+1)=jG s i++lm (s.list.getD i 0):=by
 unfold jG;have a:i<s.list.length:=h;rw[Jp a,List.flatMap_append,IU,IV a];simp
theorem oR (s:S8):∀ i,i<=8->(jG s i).length=4*i
 | 0,_=>rfl
 | i+1,h=>by rw[qU s i h,Jc,oR s i (by omega)];simp[lm];omega
theorem ur (s:S8):s.bytes.length=32:=oR s 8 (by omega)
theorem Ba (x:UInt32):∃ d c b a:UInt8,lm x=[d,c,b,a]/\IntKind.u8.wrap (aa x / 16777216)=(d.toNat:Int)/\IntKind.u8.wrap (aa x / 65536)=(c.toNat:Int)/\IntKind.u8.wrap (aa x / 256)=(b.toNat:Int)/\IntKind.u8.wrap (aa x)=(a.toNat:Int):=by
 refine⟨_,_,_,_,rfl,?_,?_,?_,?_⟩ <;> rw[Kt] <;> unfold aa <;> simp
theorem oS (s:S8)(w:World):
  Calls prog 250 #[.agg (aZ s.list)] w λe w'=>(∃ v,e=.returned v/\Ow 5 w' w.heap.size v s.bytes)/\Kp w w':=by
 have U:=aj;obtain⟨B,D,j,h,g⟩:=info_parts info5;have q:B.bytes=1:=g;have r:=Lib.hid q;clear q g;have p:Arr 252 (w.alloc (.cells (aZ s.list) 252)) w.heap.size s.list:=Arr.new _ w _ s.list rfl;go_enter func250,ntmps250;go_wp2_with(first
  | (at_make;refine wpList_make_own _ rfl _ _ 24 rfl w.heap.size 5 B (.int .u8 0) 1 underlying24 D j h _ _ _ 32 rfl rfl rfl ?b1 ?b2 ?b3 ?_;rotate_right;intro t a n;have d:Kp (w.alloc (.cells (aZ s.list) 252)) t:=Below.grown (Below.refl _ _) n (Ja _) (λk e=>by cases e);have o:=p.kp d;clear n)
  | (refine ja underlying252 (by kernel_rfl) rfl (.tmp 1) rfl w.heap.size s.list rfl o rfl ?_))
 case b1=>rw[r.out];omega
 case b2=>unfold maxLen;omega
 case b3=>simp
 have l:Ow 5 t w.heap.size (.slice (some ⟨w.heap.size+1,0,none⟩) 0 32) []:=by
  rw[Jn] at a;exact a
 have m:Kp w t:=((Kp.refl w).alloc _).trans d;clear a d p o j h D r;go_loopw[3,8] (λv i wr=>∃ k:Nat,k<=8/\i=.int .i64 k/\Ow 5 wr w.heap.size v (jG s k)/\Kp w wr) (λ_ i _=>8 - (intOf i).toNat)
 case atStart=>exact⟨0,by omega,rfl,l,m⟩
 case round=>
  clear l m;obtain⟨k,Q,rfl,a,f⟩:=hrel;by_cases c:k<8
  ·have C:∀ W,(Instr.index 252 (.agg (aZ s.list)) (.int .i64 k)).run prog W=.ok (.int .u32 (aa (s.list.getD k 0))) W:=λW=>by
    obtain⟨F,A,u⟩:=uq;exact qS W 252 247 8 F _ underlying252 A u underlying247 rfl _ rfl k c _ (qM s.list k c)
   have y:=qU s k c;have b:=oR s k (by omega);generalize s.list.getD k 0=x at *;obtain⟨H,b1,b2,b3,E,O,N,M,K⟩:=Ba x;rw[E] at y;generalize jG s k=L at *;have I:=Lib.hid y;have J:=Lib.hid b;clear y b E;generalize aZ s.list=cs at *;go_wp2_with(at_builtin;refine bz U rfl _ _ rfl w.heap.size _ _ rfl (a.kp ((Kp.refl _).alloc _)) _ [H,b1,b2,b3] rfl (Ow.lit _ 5 0 4 _ _ (Jl _) rfl (by decide) rfl).rd ?c1 ?c2 ?_;rotate_right;intro P w2 z G _)
   case c1=>rw[J.out];simp;omega
   case c2=>have:=f.size;simp;omega
   go_roundw
   case rel=>exact⟨k+1,by omega,by go_num,by rw[I.out];exact z,Kp.grown (f.alloc _) G a.own_ge⟩
   case measure=>simp[intOf];omega
  ·obtain rfl:k=8:=by omega
   go_wp2_with fail;go_ret;exact⟨⟨_,rfl,a⟩,f⟩
def unB (l:List Int):List UInt8:=l.flatMap λi=>be 2 i.toNat
def cI (n:Nod):List UInt8:=
 if n.kind=1 then [1]++be 2 n.name.toNat++aI n.pub++aI n.hash
 else if n.kind=2 then [2]++aI n.pub++aI n.hash++aI (unB n.un)
 else [0]
structure dR (n:Nod):Prop where
 kind:n.kind=0\/n.kind=1\/n.kind=2
 name:0<=n.name/\n.name<=65535
 pub:n.pub.length<=40
 hash:n.hash.length<=40
 unl:n.un.length<=100
 un:∀ i∈n.un,0<=i/\i<=1023
theorem mP (l:List Int):(unB l).length=2*l.length:=by
 unfold unB
 induction l with
 | nil=>rfl
 | cons a l ih=>rw[List.flatMap_cons,Jc,ih,bl,Jo];omega
theorem ut (l:List Int)(i:Int):unB (l++[i])=unB l++be 2 i.toNat:=by
 unfold unB;rw[List.flatMap_append];simp
theorem ff {x:List UInt8}(h:x.length<=1000):(aI x).length<=x.length+2:=by
 rw[lj (by omega),Aj];split
 ·omega
 ·rw[if_pos (by omega)];omega
theorem jW (h:dR n):(cI n).length<=300/\1<=(cI n).length:=by
 have f:=ff (x:=n.pub) (by have:=h.pub;omega);have e:=ff (x:=n.hash) (by have:=h.hash;omega);have a:=ff (x:=unB n.un) (by rw[mP];have:=h.unl;omega);have d:=h.pub;have c:=h.hash;have b:=h.unl;rw[mP] at a;unfold cI;split
 ·simp only[Jc,bl,Jo,Jt];omega
 ·split
  ·simp only[Jc,Jo,Jt];omega
  ·simp
def eO (n:Nod)(g:List Int):Nod:=⟨n.kind,n.name,n.pub,n.un.filter λi=>decide (i∉g),n.hash⟩
theorem dR.less (h:dR n)(g:List Int):dR (eO n g):=
 ⟨h.kind,h.name,h.pub,h.hash,Js (LZ _ _) h.unl,λi a=>h.un i (Mu.1 a).1⟩
theorem dR.blank:dR aY:=⟨.inl rfl,by decide,by decide,by decide,by decide,λi a=>by cases a⟩
def bQ (t:List Nod)(g:List Int):Nat->Nat->List UInt8
 | 0,q=>bF ([1]++be 2 q++cI (if (q:Int)∈g then aY else ats t (nd 0 q)))
 | j+1,q=>bF ([2]++cI (eO (ats t (nd (j+1) q)) g)++aI (bQ t g j (2*q))++aI (bQ t g j (2*q+1)))
theorem uv (l:List UInt8):(bF l).length=32:=by
 unfold bF;exact ur _
theorem ly (t:List Nod)(g:List Int)(j q:Nat):(bQ t g j q).length=32:=by
 cases j <;> exact uv _
structure bk (t:List Nod)(K:Nat):Prop where
 le:K<=10
 len:t.length=2 ^ (K+1) - 1
 node:∀ x,dR (ats t x)
 par:∀ x,(ats t x).kind=2->x % 2=1
def gA (t:List Nod)(x side:Int):Int:=
 if 0<=x/\x<t.length/\0<=side/\side<=1 then (if (ats t x.toNat).kind=2 then 0 else 11) else 1
def dX (side:Int)(q:Nat):Nat:=if side=0 then 2*q+1 else 2*q
def oT (t:List Nod)(x:Nat)(side:Int):List UInt8:=
 bF ([3]++aI (ats t x).pub++aI (ats t x).hash++aI (bQ t (ats t x).un (lev x - 1) (dX side (qOf x))))
def dY (t:List Nod)(x side:Int):List UInt8:=if gA t x side=0 then oT t x.toNat side else []
def dc (n:Nod)(h:List UInt8):Nod:=⟨n.kind,n.name,n.pub,n.un,h⟩
def dB (i:Nat)(s:List Nod × List UInt8)(x:Nat):List Nod × List UInt8:=
 if (ats s.1 x).kind=2 then
  (s.1.set x (dc (ats s.1 x) s.2),dY (s.1.set x (dc (ats s.1 x) s.2)) (x:Int) (if x<2*i then 1 else 0))
 else s
def eP (t:List Nod)(i:Nat):List Nod × List UInt8:=(aP t i).reverse.foldl (dB i) (t,[])
def iE (t:List Nod)(i:Int):Int:=if bf t i then 0 else 11
def gC (t:List Nod)(i:Int):List Nod:=
 if bf t i then (eP t i.toNat).1.set (2*i.toNat) (dc (ats (eP t i.toNat).1 (2*i.toNat)) (eP t i.toNat).2) else t
theorem Bh {t:TypeId}(U:U8 P t e){g:Array Oper}{a:Act}{K:Act->World->Prop}{E:Prop}
  (O:o.guard=none) (s x:Operand) (u:o.op=Op.call { callee:=Callee.builtin Builtin.append,args:=#[s,x],argTypes:=#[t,t] })
  (B:Nat) (v:Value) (l:List UInt8) (L:a.eval s=v) (h:Ow e w B v l) (q:Addr) (n c:Nat) (m:List UInt8) (I:a.eval x=.slice (some q) n c) (C:Rd w (.slice (some q) n c) m)
  (D:l.length+m.length<=140737488355328) (f:B<=w.heap.size)
  (R:∀ p w',Ow e w' B p (l++m)->w.grownBy w' v.ownBlock->K (a.put o.dst p) w'):
  if Region.wanted o (yielded g a.tmps)=true then Oper.wp P o a w K Q else E:=by
 have J:Region.wanted o (yielded g a.tmps)=true:=by simp[Region.wanted,O]
 rw[if_pos J];obtain⟨i,N,r,d,A⟩:=U.hi;obtain⟨M,_,_⟩:=C.len;subst M;obtain⟨W,V,H,G,F,T,S⟩:=C;simp only[Ji] at H;obtain⟨rfl,_,rfl⟩:=H;refine wp_append_own w s x t u B e i (.int .u8 0) 1 1 U.ht N r d A rfl (by decide) v l.length (Lib.byteCells l) L h q m.length c (Lib.byteCells m) I (by rw[cG];omega) (λj z y=>?_) (λz r=>?_) (by unfold maxLen;omega) (by omega) f
  (λp w' G F _=>R p w' (by unfold Ow;rw[Jc,mb];exact G) F)
 ·have k:j<m.length:=by
   have:=(JH.1 y).1;rwa [cG] at this
  rw[gd m j k] at y;cases y;exact S q rfl j k
 ·obtain⟨b,_,rfl⟩:=JO.1 r
  rfl
theorem Bi (l:List UInt8):(ft l).length=l.length+9+fill l.length:=by unfold ft;rw[Jc,lx];omega
theorem Bj (l:List UInt8):(ft l).length=64*((ft l).length / 64):=by
 have:=ua l.length;have h:(ft l).length=l.length+(pad l.length).length:=by unfold ft;rw[Jc]
 omega
theorem iG (s:S8)(l:List UInt8)(k:Nat):bE s l (k+1)=mD cT (bE s l k) ((l.drop (64*k)).take 64):=by rw[bE]
theorem uy (n:Nat)(h:n<=2000):jB (n:Int)=pad n:=by
 unfold jB;rw[if_pos (by omega),Jm]
theorem Bk (x:Int)(s:S8)(v:Value)(b:List UInt8)(a:Nat)(d f:Nat)(k:List UInt32)(w:World)(h:Rd w v b)(i:a+64<=b.length)(j:Arr 247 w d k)(c:k.length=64)(g:x=a):
  Calls prog 226 #[.agg (aZ s.list),v,.int .i64 x,.slice (some ⟨d,0,none⟩) 64 f] w λe w'=>e=.returned (.agg (aZ (mD k s ((b.drop a).take 64)).list))/\Kp w w':=by
 subst g;exact AW s v b a d f k w h i j c
theorem Bl (x:UInt32):∃ d c b a:UInt8,lm x=[d,c,b,a]/\IntKind.u8.wrap (aa x / 16777216)=(d.toNat:Int)/\IntKind.u8.wrap (aa x / 65536 % 256)=(c.toNat:Int)/\IntKind.u8.wrap (aa x / 256 % 256)=(b.toNat:Int)/\IntKind.u8.wrap (aa x % 256)=(a.toNat:Int):=by
 refine⟨_,_,_,_,rfl,?_,?_,?_,?_⟩ <;> rw[Kt] <;> unfold aa <;> simp
theorem jH (v:Value)(l:List UInt8)(w:World)(h:Rd w v l)(hl:l.length<=2000):
  Calls prog 185 #[v] w λe w'=>(∃ v',e=.returned v'/\Ow 5 w' w.heap.size v' (bF l))/\Kp w w':=by
 have U:=aj;obtain⟨a,c,rfl,h1,h2⟩:=h.shape;unfold maxLen at h2;have Q:=Bi l;have o:=Bj l;have af:=lq l.length;obtain⟨P,hP⟩:∃ P,ft l=P:=⟨_,rfl⟩;have Z:l++pad l.length=P:=hP;have X:bF l=(bE dA P (P.length / 64)).bytes:=by unfold bF;rw[hP]
 rw[X];rw[hP] at Q o;obtain⟨N,hN⟩:∃ N,P.length / 64=N:=⟨_,rfl⟩;rw[hN] at o ⊢;have HP:=Lib.hid Z;have HL:=Lib.hid o;have aB:N<=40:=by omega
 have aA:P.length<=2600:=by omega
 have O:=uy l.length hl;have an:=Lib.hid O;have ay:=hl;clear X hP Z o Q hN O af;go_enter func185,ntmps185;go_wp2_with(first
  | (at_builtin;refine bz U rfl _ _ rfl w.heap.size _ _ rfl (Ow.lit w 5 w.heap.size 0 #[] [] (Ja _) rfl (by decide) rfl) _ l rfl (h.kp ((Kp.refl w).alloc _)) ?c1 ?c2 ?_;rotate_right;intro v1 w1 E V _;have H:Kp w w1:=Kp.grown ((Kp.refl w).alloc _) V (by intro k e;cases e;exact Ja _);clear V)
  | (go_at_call 223;refine(AA _ _).mono ?_;rintro e w2 ⟨⟨vp,rfl,C⟩,t⟩;rw[an.out] at C)
  | (at_builtin;refine bz U rfl _ _ rfl w.heap.size _ _ rfl (E.kp t) _ (pad l.length) rfl C ?c3 ?c4 ?_;rotate_right;intro v2 w3 D T _;have S:Kp w w3:=Kp.grown (H.trans t) T E.own_ge;rw[JR,HP.out] at D;clear T))
 case c1=>simp;omega
 case c2=>simp
 case c3=>have:=lq l.length;have:=lx l.length;simp;omega
 case c4=>exact(H.trans t).size
 refine(AZ _).mono ?_;rintro e w4 ⟨⟨gk,rfl,hA,_⟩,G⟩;go_wp2_with fail;refine(AY _).mono ?_;rintro e g ⟨rfl,r⟩;have ai:=hA.kp r;have M:=(D.rd.kp G).kp r;have y:Kp w g:=(S.trans G).trans r;clear hA G r D S E H t C;obtain⟨a2,c2,rfl,aw,ab⟩:=M.shape;unfold maxLen at ab;go_wp2_with(refine iB (by kernel_rfl) rfl rfl (.tmp 5) (.tmp 17) rfl g.heap.size (bd 8) dA.list rfl rfl (Arr.new _ _ _ _ rfl) rfl rfl ?_;intro w6 Y f)
 have R:Kp g w6:=f.below ((Kp.refl g).alloc _) (Ja _);clear f;go_loopw[6] (λi wr=>∃ k:Nat,k<=N/\i=.int .i64 (64*(k:Int))/\Arr 252 wr g.heap.size (bE dA P k).list/\Kp g wr) (λi _=>(64*N - (intOf i).toNat))
 case atStart=>exact⟨0,by omega,rfl,Y,R⟩
 case round=>
  clear Y R;obtain⟨k,az,rfl,z,J⟩:=hrel;by_cases ax:k<N
  ·have n:64*(k:Int)<(P.length:Int):=by rw[HL.out];omega
   have HS:=Lib.hid (Bk (64*(k:Int)) (bE dA P k) (.slice a2 P.length c2) P (64*k) gk 64 cT wr (M.kp J) (by rw[HL.out];omega) (ai.kp J) rfl (by simp));rw[<-iG] at HS;obtain⟨s',B⟩:∃ s',bE dA P (k+1)=s':=⟨_,rfl⟩;rw[B] at HS;have am:=Lib.hid B;clear B;generalize bE dA P k=s at *;go_wp2_with(refine ja underlying252 (by kernel_rfl) rfl (.tmp 5) rfl g.heap.size s.list rfl z rfl ?_)
   refine HS.out.mono ?_;rintro e w7 ⟨rfl,F⟩;have ah:=z.kp F;have ae:Kp g w7:=J.trans F;clear z J F;go_wp2_with(refine iB (by kernel_rfl) rfl rfl (.tmp 5) (.tmp 28) rfl g.heap.size s.list s'.list rfl rfl ah rfl rfl ?_;intro w8 ag f)
   go_roundw
   case rel=>exact⟨k+1,by omega,by congr 1,by rw[am.out];exact ag,f.below ae (Ja _)⟩
   case measure=>simp[intOf];omega
  ·obtain rfl:k=N:=by omega
   have n:¬64*(k:Int)<(P.length:Int):=by rw[HL.out];omega
   obtain⟨s,A⟩:∃ s,bE dA P k=s:=⟨_,rfl⟩;rw[A] at z;have al:=Lib.hid A;clear A;go_wp2_with fail;rename World=>wA
   go_loopw[7,8] (λv i wq=>∃ j:Nat,j<=8/\i=.int .i64 j/\Ow 5 wq wA.heap.size v (jG s j)/\Kp wA wq) (λ_ i _=>(8 - intOf i).toNat)
   case atStart=>exact⟨0,by omega,rfl,Ow.nil _ _ _,Kp.refl _⟩
   case round=>
    obtain⟨j,hj,rfl,b,m⟩:=hrel;by_cases d:j<8
    ·have K:=(z.kp m).cell j d
     have hs:=qU s j d;have u:=oR s j (by omega);generalize s.list.getD j 0=x at *;obtain⟨b0,b1,b2,b3,h4,v0,av,au,v3⟩:=Bl x;rw[h4] at hs;generalize jG s j=L at *;have HS:=Lib.hid hs;have ao:=Lib.hid u;have q:(j:Int)<8:=by omega
     clear hs u h4 n;go_wp2_with fail;have u0:=tV x;have u1:=tW x;have w0:IntKind.u32.wrap ((aa x).tdiv 16777216)=aa x / 16777216:=by rw[JK u0];exact fS _ (by omega) (by omega)
     have ar:IntKind.u32.wrap ((aa x).tdiv 65536)=aa x / 65536:=by rw[JK u0];exact fS _ (by omega) (by omega)
     have aq:IntKind.u32.wrap ((aa x).tdiv 256)=aa x / 256:=by rw[JK u0];exact fS _ (by omega) (by omega)
     have m1:(aa x / 65536).tmod 256=aa x / 65536 % 256:=JF (by omega);have m2:(aa x / 256).tmod 256=aa x / 256 % 256:=JF (by omega);have m3:(aa x).tmod 256=aa x % 256:=JF u0;clear u0 u1;have ap:g.heap.size<wr.heap.size:=Jz wr _ K;go_region_held3 (λW=>W.cell? ⟨g.heap.size,j,none⟩=some (.int .u32 (aa x)))
      (first
       | exact K
       | exact(((Kp.refl wr).alloc _).drew).cell K
       | exact(((Kp.refl wr).drew).alloc _).cell K
       | exact(Kp.grown (((Kp.refl wr).alloc _).drew) I (λk e=>absurd e (by simp))).cell K
       | (exact ak)
       | trace_state)
      (first
       | (refine Bh U rfl (.tmp 33) (.tmp 56) rfl wA.heap.size _ _ rfl (b.kp ((Kp.refl _).alloc _).drew) _ 4 4 [b0,b1,b2,b3] rfl ((Ow.lit wr 5 0 4 _ _ (Jl _) rfl (by decide) rfl).kp (Kp.refl _).drew).rd (by rw[ao.out];simp;omega) (by have:=m.size;simp;omega) ?_;intro v' w9 ad I;have ak:w9.cell? ⟨g.heap.size,j,none⟩=some (.int .u32 (aa x)):=(Below.cell (Kp.grown (m.alloc _).drew I b.own_ge) (p:=⟨g.heap.size,j,none⟩) (Arr.lt z)).trans ((z.cell j d).trans (by have:=(z.kp m).cell j d;rw[K] at this;exact this.symm))))
     all_goals
      go_wp2_with fail;go_roundw
      case rel=>exact⟨j+1,by omega,by go_num,by rw[HS.out];exact ad,Kp.grown (m.alloc _).drew I b.own_ge⟩
      case measure=>simp[intOf];omega
    ·obtain rfl:j=8:=by omega
     go_wp2_with fail;go_ret;exact⟨⟨_,rfl,by rw[al.out];exact b.mono (y.trans J).size⟩,(y.trans J).trans m⟩
theorem uz (s:S8)(l m:List UInt8):∀ k,64*k<=l.length->bE s (l++m) k=bE s l k
 | 0,_=>rfl
 | k+1,h=>by
  rw[iG,iG,uz s l m k (by omega),Lf (by omega),Le (by simp;omega)]
theorem uA (s:S8)(P:List UInt8)(a:Nat):∀ k,bE (bE s P a) (P.drop (64*a)) k=bE s P (a+k)
 | 0=>rfl
 | k+1=>by
  rw[iG,uA s P a k,List.drop_drop,show a+(k+1)=(a+k)+1 by omega,iG,show 64*a+64*k=64*(a+k) by omega]
theorem Bm (l:List UInt8)(N M:Nat)(e:N=l.length / 64)(a:64*M=(l.drop (64*N)++pad l.length).length):
  bF l=(bE (bE dA l N) (l.drop (64*N)++pad l.length) M).bytes:=by
 have f:(ft l).length=64*(N+M):=by
  unfold ft;rw[Jc] at a ⊢;rw[Ky] at a;omega
 have d:(ft l).length / 64=N+M:=by omega
 have c:l.drop (64*N)++pad l.length=(ft l).drop (64*N):=by
  unfold ft;rw[Lf (by omega)]
 unfold bF;rw[d,c,<-uA];have b:bE dA (ft l) N=bE dA l N:=uz _ _ _ _ (by omega);rw[b]
theorem Bn (l:List UInt8)(N:Nat)(a:N=l.length / 64):64*((l.drop (64*N)++pad l.length).length / 64)=(l.drop (64*N)++pad l.length).length:=by
 have:=ua l.length;rw[Jc,Ky];omega
theorem Bo {b:Array Oper}{rest:List Oper}{a:Act}(d:o.guard=none)(s x:Operand)(t f:TypeId)
  (j:o.op=.call { callee:=.builtin .append,args:=#[s,x],argTypes:=#[t,f] }) (vs e v:Value) (i:a.eval s=vs) (g:a.eval x=e)
  (c:(Builtin.append_ #[t,f] o.type #[vs,e]).run P w=.ok v w') (h:wpList P b Q rest (a.put o.dst v) w'):wpList P b Q (o :: rest) a w:=by
 refine wpList_plain d λK k=>?_
 unfold Oper.wp;simp[execOp,j,resolve,invoke,builtin,i,g,c,Result.andThen];exact k _ _ h
theorem uC (n:Nat)(w:World)(q:0<n)(t:n<=1000000):
  Calls prog 196 #[.slice none 0 0,.int .i64 n] w λe w'=>(∃ v,e=.returned v/\Ow 5 w' w.heap.size v [])/\Kp w w':=by
 obtain⟨k,l,c,j,b⟩:=info_parts info5;have a:(Builtin.firstCells k.size 0 (.slice none 0 0)).run prog w.drew=.ok ([]:List Value).toArray w.drew:=rfl;have d:∀ i,(Builtin.append_ #[24,3] i #[.slice none 0 0,.int .i64 (n:Int)]).run prog w =
   .ok (.slice (some ⟨w.heap.size,0,none⟩) n (grownCap w n 0 5)) (w.drew.alloc (.cells (#[]++Builtin.zeroCells (Value.int .u8 0).cells n++Builtin.zeroCells (Value.int .u8 0).cells (grownCap w n 0 5 - n)) 5)):=λi=>by
  have h:=Lib.run_append_grow_zeros w 24 3 i 5 k (.int .u8 0) .i64 .i64 underlying24 underlying3 l c none 0 0 [] a n q (by omega) (by omega) (by omega) (by rw[b];omega)
   (by rw[b];have:=growslice_fits (need:=0+n) (old:=0) (bytes:=1) (by omega) (by omega);exact this)
  simpa using h
 have p:n<=grownCap w n 0 5:=grownCap_ge w _ _ _;have f:=grownCap_le_maxLen w n 0 5 (by unfold maxLen;omega);generalize grownCap w n 0 5=G at *;unfold maxLen at f;have o:¬(n:Int)<0:=by omega
 have m:0<(n:Int):=by omega
 clear a;go_enter func196,ntmps196;have g:(#[]++Builtin.zeroCells (Value.int .u8 0).cells n++Builtin.zeroCells (Value.int .u8 0).cells (G - n):Array Value).size=G:=by
  simp[size_zeroCells,Value.cells];omega
 generalize (#[]++Builtin.zeroCells (Value.int .u8 0).cells n++Builtin.zeroCells (Value.int .u8 0).cells (G - n):Array Value)=cs at *;have r:=Lib.hid d;have s:=Lib.hid g;clear d g c j b l;go_wp2_with(at_builtin;refine Bo rfl (.tmp 20) (.tmp 21) _ _ rfl _ _ _ rfl rfl (r.out _) ?_)
 go_ret;refine⟨⟨_,rfl,?_⟩,(Kp.refl w).drew.alloc _⟩;refine⟨rfl,.inr ⟨w.heap.size,G,cs,rfl,Ja _,?_,Jl _,by unfold maxLen;exact f,by rw[s.out];simp,by simp[Lib.byteCells]⟩⟩;exact heap_alloc_new w.drew _
theorem uD (g c:Nat)(x u:Value)(a b:List UInt8)(w:World)(t:w.cell? ⟨g,0,none⟩=some x)(r:w.cell? ⟨g,1,none⟩=some u)(B:Rd w x a)(A:Rd w u b)(G:0<a.length+b.length)(H:a.length+b.length<=1000000):
  Calls prog 168 #[.slice (some ⟨g,0,none⟩) 2 c] w λe w'=>(∃ v,e=.returned v/\Ow 5 w' w.heap.size v (a++b))/\Kp w w':=by
 have U:=aj;obtain⟨M,K,rfl,p1,F⟩:=B.shape;obtain⟨L,J,rfl,p2,E⟩:=A.shape;unfold maxLen at F E;go_enter func168,ntmps168;go_wp2_with fail;go_loopw[3,11] (λs i wr=>((s=.int .i64 0/\i=.int .i64 0)\/(s=.int .i64 (a.length:Int)/\i=.int .i64 1)\/(s=.int .i64 ((a.length:Int)+(b.length:Int))/\i=.int .i64 2))/\wr=w) (λ_ i _=>2 - (intOf i).toNat)
 case atStart=>exact⟨.inl ⟨rfl,rfl⟩,rfl⟩
 case round=>
  obtain⟨k,rfl⟩:=hrel;rcases k with⟨rfl,rfl⟩|⟨rfl,rfl⟩|⟨rfl,rfl⟩
  ·go_wp2_with fail
   go_roundw
   case rel=>exact⟨.inr (.inl ⟨by simp,rfl⟩),trivial⟩
   case measure=>simp[intOf]
  ·go_wp2_with fail
   go_roundw
   case rel=>exact⟨.inr (.inr ⟨by simp,rfl⟩),trivial⟩
   case measure=>simp[intOf]
  ·rename World=>w0
   have h:((a.length+b.length:Nat):Int)=(a.length:Int)+(b.length:Int):=by simp
   have C:=Lib.hid (uC (a.length+b.length) w0 G H);rw[h] at C;clear h;go_wp2_with fail;refine C.out.mono ?_;rintro e I ⟨⟨v,rfl,d⟩,n⟩;go_wp2_with fail;go_loopw[6,27] (λaa i o=>((Ow 5 o w0.heap.size aa []/\i=.int .i64 0)\/(Ow 5 o w0.heap.size aa a/\i=.int .i64 1)\/(Ow 5 o w0.heap.size aa (a++b)/\i=.int .i64 2))/\Kp w0 o) (λ_ i _=>2 - (intOf i).toNat)
   case atStart=>exact⟨.inl ⟨d,rfl⟩,n⟩
   case round=>
    clear d n;obtain⟨k,j⟩:=hrel;have z:=j.cell t;have y:=j.cell r;have q:=B.kp j;have p:=A.kp j;have m:=j.size;rcases k with⟨d,rfl⟩|⟨d,rfl⟩|⟨d,rfl⟩
    ·go_wp2_with(at_builtin;refine bz U rfl _ _ rfl w0.heap.size _ _ rfl d _ a rfl q ?c1 m ?_;rotate_right;intro D w2 f l _)
     case c1=>simp;omega
     rw[JR] at f;go_roundw
     case rel=>exact⟨.inr (.inl ⟨f,rfl⟩),Kp.grown j l d.own_ge⟩
     case measure=>simp[intOf]
    ·go_wp2_with(at_builtin;refine bz U rfl _ _ rfl w0.heap.size _ _ rfl d _ b rfl p ?c1 m ?_;rotate_right;intro D w2 f l _)
     case c1=>omega
     go_roundw
     case rel=>exact⟨.inr (.inr ⟨f,rfl⟩),Kp.grown j l d.own_ge⟩
     case measure=>simp[intOf]
    ·go_wp2_with fail
     go_ret;exact⟨⟨_,rfl,d⟩,j⟩
def One (T:TypeId)(w:World)(p:Nat)(v:Value):Prop:=w.heap[p]?=some (.cells #[v] T (0,0))
theorem One.new (T:TypeId)(w:World)(v:Value):One T (w.alloc (.cells #[v] T)) w.heap.size v:=heap_alloc_new w _
theorem One.lt (h:One T w p v):p<w.heap.size:=(IX.1 h).1
theorem One.cell (h:One T w p v):w.cell? ⟨p,0,none⟩=some v:=by
 rw[cell_of_row w p 0 _ T _ h];rfl
theorem One.frozen (h:One T w p v):w.frozen? ⟨p,0,none⟩=false:=by
 have a:=h;unfold One at a;simp[World.frozen?,a]
theorem One.kp (h:One T w p v)(k:Kp w w'):One T w' p v:=(k.block p h.lt).trans h
theorem One.set (h:One T w p v)(u:Value):One T (w.setCell ⟨p,0,none⟩ u) p u:=by
 have c:=h;unfold One at c ⊢;obtain⟨a,b⟩:=IX.1 c;simp[World.setCell,a,Lu,b]
theorem uP (ls:List (List UInt8))(k:Nat)(h:k<ls.length):(ls.take (k+1)).flatten=(ls.take k).flatten++ls.getD k []:=by
 rw[Jp h,List.flatten_append,IU,IV h];simp
theorem uQ (ls:List (List UInt8))(k:Nat):(ls.take k).flatten.length<=ls.flatten.length:=by
 have e:ls.flatten=(ls.take k).flatten++(ls.drop k).flatten:=by rw[<-List.flatten_append,List.take_append_drop]
 rw[e,Jc];omega
theorem lA (v:Value)(ls:List (List UInt8))(w:World)(h:RL w v ls)(O:0<ls.flatten.length)(P:ls.flatten.length<=1000000)(hn:ls.length<=1000000):
  Calls prog 168 #[v] w λe w'=>(∃ v,e=.returned v/\Ow 5 w' w.heap.size v ls.flatten)/\Kp w w':=by
 have U:=aj;obtain⟨a,c,rfl,h1,Z⟩:=h.shape;unfold maxLen at Z;have A:=Lib.hid (uC ls.flatten.length w O P);have K:=Lib.hid (uP ls);have S:=Lib.hid (uQ ls);have q:(ls.take ls.length).flatten=ls.flatten:=by rw[JM]
 have V:=Lib.hid q;clear q;go_enter func168,ntmps168;go_wp2_with fail;go_loopw[3,11] (λs i wr=>(∃ k:Nat,k<=ls.length/\i=.int .i64 k/\s=.int .i64 ((ls.take k).flatten.length:Int))/\wr=w) (λ_ i _=>ls.length - (intOf i).toNat)
 case atStart=>exact⟨⟨0,by omega,rfl,rfl⟩,rfl⟩
 case round=>
  obtain⟨⟨k,W,rfl,rfl⟩,rfl⟩:=hrel;rename World=>w
  by_cases f:k<ls.length
  ·obtain⟨b,B,rfl,_,d⟩:=h.at k f
   obtain⟨aa,m,g⟩:=d k f;obtain⟨au,cu,rfl,p1,p2⟩:=g.shape;have t:=congrArg List.length (K.out k f);rw[Jc] at t;have l:=S.out (k+1);obtain⟨N,G⟩:∃ N,(ls.take k).flatten.length=N:=⟨_,rfl⟩;obtain⟨M,H⟩:∃ M,(ls.getD k []).length=M:=⟨_,rfl⟩;obtain⟨T,y⟩:∃ T,(ls.take (k+1)).flatten.length=T:=⟨_,rfl⟩;rw[G,H,y] at t;rw[y] at l;rw[H] at m p1;rw[G];have b1:(N:Int)+(M:Int)<=1000000:=by omega
   have HT:=Lib.hid (show(T:Int)=(N:Int)+(M:Int) by omega);have I:=Lib.hid y;unfold maxLen at p2;clear d g t G H y A;go_wp2_with fail;go_roundw
   case rel=>exact⟨⟨k+1,by omega,by go_num,by rw[I.out,HT.out]⟩,trivial⟩
   case measure=>simp[intOf];omega
  ·obtain rfl:k=ls.length:=by omega
   rw[V.out];obtain⟨F,z⟩:∃ F,ls.flatten.length=F:=⟨_,rfl⟩;rw[z] at A O P;rw[z];have J:=Lib.hid z;clear z;go_wp2_with fail;refine A.out.mono ?_;rintro e w1 ⟨⟨v,rfl,o⟩,u⟩;go_wp2_with fail;go_loopw[6,27] (λaa i L=>(∃ k:Nat,k<=ls.length/\i=.int .i64 k/\Ow 5 L w.heap.size aa (ls.take k).flatten)/\Kp w L) (λ_ i _=>ls.length - (intOf i).toNat)
   case atStart=>exact⟨⟨0,by omega,rfl,o⟩,u⟩
   case round=>
    clear o u;obtain⟨⟨k,W,rfl,o⟩,j⟩:=hrel;by_cases f:k<ls.length
    ·obtain⟨b,B,rfl,_,d⟩:=h.at k f
     obtain⟨aa,m,g⟩:=d k f;have x:=j.cell m;have n:=g.kp j;obtain⟨au,cu,rfl,p1,p2⟩:=g.shape;have t:=congrArg List.length (K.out k f);rw[Jc] at t;have l:=S.out (k+1);rw[J.out] at l;have p:(List.take k ls).flatten.length+(ls.getD k []).length<=1000000:=by omega
     have C:=j.size;have r:=Lib.hid (K.out k f);obtain⟨X,R⟩:∃ X,ls.getD k []=X:=⟨_,rfl⟩;obtain⟨Y,Q⟩:∃ Y,(ls.take k).flatten=Y:=⟨_,rfl⟩;rw[R] at x n p1 p r;rw[Q] at o p r;unfold maxLen at p2;clear d g t m l A R Q;go_wp2_with(at_builtin;refine bz U rfl _ _ rfl w.heap.size _ _ rfl o _ X rfl n ?c1 C ?_;rotate_right;intro v' w2 D E _)
     case c1=>omega
     go_roundw
     case rel=>exact⟨⟨k+1,by omega,by go_num,by rw[r.out];exact D⟩,Kp.grown j E o.own_ge⟩
     case measure=>simp[intOf];omega
    ·obtain rfl:k=ls.length:=by omega
     rw[V.out] at o;go_wp2_with fail;go_ret;exact⟨⟨_,rfl,o⟩,j⟩
theorem aD.tidy (h:aD t K)(m:gS t 40):bk t K:=by
 have s:∀ x,(ats t x).kind=2->x % 2=1:=λx a=>by
  rcases h.okA x with c|⟨c,_⟩
  ·rw[c] at a;cases a
  ·omega
 refine⟨h.le,h.len,λx=>?_,s⟩;by_cases a:x<t.length
 ·rcases h.okA x with c|⟨c,⟨y,w,F⟩,E,D,C⟩
  ·rw[c];exact dR.blank
  ·have o:ats t x∈t:=by rw[jS a];exact JD a
   obtain⟨l,g,z⟩:=m.2 _ o;refine⟨by omega,⟨y,w⟩,l,g,by omega,λi v=>?_⟩;obtain⟨j,q,rfl,u,n⟩:=ir K x (by rw[<-h.len];exact a);obtain⟨_,f,e⟩:=dW h.le u n;obtain⟨k,rfl,p,b⟩:=h.unAt f e i v;have r:2*k<t.length:=by
    refine Nat.lt_of_not_le λd=>?_
    rw[jv d] at b;cases b
   have B:=h.len2;have A:=bP h.le;omega
 ·rw[jv (by omega)];exact dR.blank
theorem dR.hashed (h:dR n)(a:b.length<=40):dR (dc n b):=⟨h.kind,h.name,h.pub,a,h.unl,h.un⟩
theorem bk.hashed (h:bk t K)(x:Nat)(d:b.length<=40)(c:x<t.length):bk (t.set x (dc (ats t x) b)) K:=by
 refine⟨h.le,by rw[JA];exact h.len,λy=>?_,λy a=>?_⟩
 ·rw[fc _ _ _ _ c]
  split
  ·exact(h.node x).hashed d
  ·exact h.node y
 ·rw[fc _ _ _ _ c] at a
  split at a
  ·next e=>subst e;exact h.par _ a
  ·exact h.par y a
theorem vP {aa:List Nod}(c:∀ i,(ats aa i).kind=(ats t i).kind){a b:Int}{l:List Int}(h:unP t a b l):unP aa a b l:=
 ⟨h.1,λi d=>by rw[c];exact h.2 i d⟩
theorem aD.hashed (h:aD t K)(x:Nat)(s:b.length=0\/b.length=32)(i:x<t.length)(d:(ats t x).kind≠0):aD (t.set x (dc (ats t x) b)) K:=by
 have k:=fc t x (dc (ats t x) b);have j:∀ y,(ats (t.set x (dc (ats t x) b)) y).kind=(ats t y).kind:=λy=>by
  rw[k y i];split
  ·next e=>subst e;rfl
  ·rfl
 have p:∀ y,(ats (t.set x (dc (ats t x) b)) y).name=(ats t y).name:=λy=>by
  rw[k y i];split
  ·next e=>subst e;rfl
  ·rfl
 refine⟨h.le,by rw[JA];exact h.len,λy m=>?_,λy z l o a c=>?_,?_⟩
 ·rw[JA] at m
  by_cases e:y=x
  ·subst e
   rcases h.okA y with a|⟨a,c,q,n,f⟩
   ·rw[a] at d;exact absurd rfl d
   ·refine .inr ?_
    rw[k y i,if_pos rfl];exact⟨a,c,s,n,λg=>⟨(f g).1,vP j (f g).2⟩⟩
  ·have g:ats (t.set x (dc (ats t x) b)) y=ats t y:=by rw[k y i,if_neg e]
   rcases h.okA y with a|⟨a,c,q,n,f⟩
   ·exact .inl (g.trans a)
   ·refine .inr ?_
    rw[g];exact⟨a,c,q,n,λr=>⟨(f r).1,vP j (f r).2⟩⟩
 ·rw[j] at a c
  rw[p,p];rw[JA] at o;exact h.one y z l o a c
 ·obtain⟨y,m,a⟩:=h.used
  exact⟨y,by rw[JA];exact m,by rw[j];exact a⟩
theorem CE (t:List Nod)(x a:Int):(dY t x a).length=0\/(dY t x a).length=32:=by
 unfold dY;split
 ·exact .inr (uv _)
 ·exact .inl rfl
theorem CF {i:Nat}{s:List Nod × List UInt8}{x:Nat}(e:x<t.length)(c:bk s.1 K)(b:s.1.length=t.length)(a:s.2.length=0\/s.2.length=32):
  bk (dB i s x).1 K/\(dB i s x).1.length=t.length/\((dB i s x).2.length=0\/(dB i s x).2.length=32)/\(aD s.1 K->aD (dB i s x).1 K):=by
 unfold dB;split
 ·next hk=>
  refine⟨c.hashed x (by omega) (by omega),by rw[JA];exact b,CE _ _ _,λd=>d.hashed x a (by omega) (by rw[hk];decide)⟩
 ·exact⟨c,b,a,λh=>h⟩
theorem rH {t:List Nod}{K i:Nat}:∀ (l:List Nat) (s:List Nod × List UInt8),(∀ x∈l,x<t.length)->bk s.1 K->s.1.length=t.length->(s.2.length=0\/s.2.length=32) ->
  bk (l.foldl (dB i) s).1 K/\(l.foldl (dB i) s).1.length=t.length/\((l.foldl (dB i) s).2.length=0\/(l.foldl (dB i) s).2.length=32)/\(aD s.1 K->aD (l.foldl (dB i) s).1 K)
 | [],s,_,h1,h2,h3=>⟨h1,h2,h3,λh=>h⟩
 | x :: l,s,hl,h1,h2,h3=>by
  obtain⟨g1,g2,g3,g4⟩:=CF (i:=i) (hl x (by simp)) h1 h2 h3
  obtain⟨f1,f2,f3,f4⟩:=rH (i:=i) l (dB i s x) (λy hy=>hl y (by simp[hy])) g1 g2 g3
  exact⟨f1,f2,f3,λh=>f4 (g4 h)⟩

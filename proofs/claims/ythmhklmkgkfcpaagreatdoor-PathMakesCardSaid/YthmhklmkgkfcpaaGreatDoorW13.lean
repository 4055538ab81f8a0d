import Derived.Test.YthmhklmkgkfcpaaGreatDoorW11
set_option linter.all false
set_option maxHeartbeats 8000000
set_option maxRecDepth 100000
namespace Go.Proofs.YthmhklmkgkfcpaaGreatDoor
open Go.Proofs.Tryz Go.RowKit
variable {E:Prop}{K:Act->World->Prop}{P:Program}{Q:Exit->Act->World->Prop}{a:Act}{e t:TypeId}{o:Oper}{v:Value}{w:World}
theorem qY (k:Int)(w:World)(h:k<=7):
  Calls prog 110 #[.int .i64 k] w λe w'=>e=.returned (.int .i64 (pw k.toNat))/\w=w':=by
 by_cases c:0<=k
 ·obtain⟨k,rfl⟩:=Jq c
  rw[Jm];go_enter func110,ntmps110;go_wp2;go_loop [3,4] (λn i=>∃ j:Nat,j<=k/\i=.int .i64 j/\n=.int .i64 (pw j)) (λ_ i=>k - (intOf i).toNat)
  case atStart=>exact⟨0,Jl _,rfl,rfl⟩
  case round=>
   obtain⟨j,d,rfl,rfl⟩:=hrel;by_cases b:j<k
   ·have f:=zk j (by omega)
    have a:=Lib.hid (ta j);go_wp2;go_round
    case rel=>exact⟨j+1,by omega,by go_num,by rw[a.out];go_num⟩
    case measure=>simp[intOf];omega
   ·go_wp2
    go_ret;have:j=k:=by omega
    subst this;exact⟨rfl,rfl⟩
 ·have e:k.toNat=0:=by omega
  rw[e];go_enter func110,ntmps110;go_wp2;refine wp_loop_rounds 1 ?_;rw[rounds_succ];go_wp2;go_ret;exact⟨rfl,rfl⟩
theorem BM (k t n:Nat)(h:t<k):be (k - t) (n / pw t)=be (k - (t+1)) (n / pw (t+1))++[UInt8.ofNat (n / pw t)]:=by
 obtain⟨m,rfl⟩:∃ m,k=t+1+m:=⟨k - (t+1),by omega⟩;rw[show t+1+m - t=m+1 from by omega,show t+1+m - (t+1)=m from by omega,be,ta,Lm 256,<-Kl]
theorem pc (n k:Int)(w:World)(R:-9223372036854775808<=n/\n<=9223372036854775807):
  Calls prog 62 #[.int .i64 n,.int .i64 k] w λe w'=>∃ v,e=.returned (.tuple #[v,.int .i64 (gV n k)])/\Ow 5 w' w.heap.size v (fs n k)/\Kp w w':=by
 have U:=aj;by_cases f:eE n k
 ·obtain⟨j,g⟩:=iz f
  have M:=Lib.hid j;have L:=Lib.hid g;clear j g;obtain⟨O,E,D,d⟩:=f;obtain⟨n,rfl⟩:=Jq D;obtain⟨k,rfl⟩:=Jq (show 0<=k by omega);have s:n<pw k:=(lz n k).1 d;clear d;have G:decide (pw k<=n)=false:=by simp;omega
  generalize m:w.heap.size=B at *;have A:=Lib.hid m;clear m;go_enter func62,ntmps62;go_wp2_with(go_at_call 110;refine(qY _ _ E).mono ?_;rintro e w' ⟨rfl,rfl⟩;rw[Jm])
  go_loopw[6,7] (λv i wr=>∃ t:Nat,t<=k/\i=.int .i64 ((t:Int) - 1)/\Ow 5 wr B v (be (k - t) (n / pw t))/\Below B w wr) (λ_ i _=>(intOf i+1).toNat)
  case atStart=>exact⟨k,Ja _,rfl,by rw[Lx];exact Ow.nil _ _ _,Below.refl _ _⟩
  case round=>
   obtain⟨t,P,rfl,a,b⟩:=hrel;cases t with
   | zero=>
    go_wp2_with fail;go_ret2;rw[M.out,L.out];exact⟨_,rfl,by simpa [pw] using a,b.mono (by rw[A.out];exact Ja _)⟩
   | succ t=>
    rw[show((t+1:Nat):Int) - 1=t from by omega];have Q:=zj t;have T:=zl t (by omega);have m:=b.size;have r:B<=wr.heap.size:=by rw[<-A.out];exact m
    obtain⟨q,l⟩:∃ q:Nat,q=n / pw t:=⟨_,rfl⟩;have F:q<=n:=by rw[l];exact Mt _ _
    have S:(n:Int) / (pw t:Int)=(q:Int):=by rw[l];rfl
    have K:=Lib.hid l;clear l;go_wp2_with(first
     | (go_at_call 110;refine(qY _ _ (by omega)).mono ?_;rintro e w' ⟨rfl,rfl⟩;rw[Jm])
     | (at_builtin;refine bz U rfl _ _ rfl B _ _ rfl (a.kp ((Kp.refl _).alloc _)) _ [UInt8.ofNat q] rfl ?c1 ?c2 ?c3 ?_))
    case c1=>exact Rd.box _ _ _ _ (by simp)
    case c2=>rw[bl];simp;omega
    case c3=>simp;omega
    intro N C c u _;have p:Below B w C:=Below.grown' (b.alloc r _) u (by simp;omega) (a.kp ((Kp.refl _).alloc _));clear u a;go_wp2;go_roundw
    case rel=>exact⟨t,by omega,rfl,by rw[BM k t n (by omega),<-K.out];exact c,p⟩
    case measure=>simp[intOf]
 ·obtain⟨j,g⟩:=li f
  rw[j,g];clear j g;by_cases z:k<1
  ·have J:decide (k<1)=true:=by simp[z]
   go_enter func62,ntmps62;go_wp2_with fail;go_ret2;exact⟨_,rfl,Ow.nil _ _ _,Kp.refl _⟩
  ·have J:decide (k<1)=false:=by simp[z]
   by_cases y:7<k
   ·have I:decide (7<k)=true:=by simp[y]
    go_enter func62,ntmps62;go_wp2_with fail;go_ret2;exact⟨_,rfl,Ow.nil _ _ _,Kp.refl _⟩
   ·have I:decide (7<k)=false:=by simp[y]
    by_cases x:n<0
    ·have H:decide (n<0)=true:=by simp[x]
     go_enter func62,ntmps62;go_wp2_with fail;go_ret2;exact⟨_,rfl,Ow.nil _ _ _,Kp.refl _⟩
    ·have H:decide (n<0)=false:=by simp[x]
     obtain⟨n,rfl⟩:=Jq (show 0<=n by omega);obtain⟨k,rfl⟩:=Jq (show 0<=k by omega);have o:pw k<=n:=by
      rcases Nat.lt_or_ge n (pw k) with h|h
      ·exact absurd ⟨by omega,by omega,by omega,(lz n k).2 h⟩ f
      ·exact h
     have V:decide (pw k<=n)=true:=by simp[o]
     clear f;go_enter func62,ntmps62;go_wp2_with(go_at_call 110;refine(qY _ _ (by omega)).mono ?_;rintro e w' ⟨rfl,rfl⟩;rw[Jm])
     go_ret2;exact⟨_,rfl,Ow.nil _ _ _,Kp.refl _⟩
theorem BN (n:Int)(w:World)(h:n<64):
  Calls prog 195 #[.int .i64 n] w λe w'=>e=.returned (.int .i64 0)/\w=w':=by
 go_enter func195,ntmps195;go_wp2;go_ret;exact⟨rfl,rfl⟩
theorem BP (n:Int)(w:World)(a:64<=n)(h:n<16384):
  Calls prog 195 #[.int .i64 n] w λe w'=>e=.returned (.int .i64 1)/\w=w':=by
 go_enter func195,ntmps195;go_wp2;go_ret;exact⟨rfl,rfl⟩
theorem BQ (n:Int)(w:World)(a:16384<=n):
  Calls prog 195 #[.int .i64 n] w λe w'=>e=.returned (.int .i64 2)/\w=w':=by
 go_enter func195,ntmps195;go_wp2;go_ret;exact⟨rfl,rfl⟩
theorem qZ (x m:Int)(b:0<=x)(d:x<64)(c:m=0\/m=64\/m=128):bits .or .u8 x m=x+m:=by
 have a:bits .or .u8 x m=bits .or .u8 m x:=by simp only[bits,BitVec.or_comm]
 rw[a,bits_join .u8 8 (by decide) wraps_u8 6 m x (by omega) (by omega) (by omega) b (by omega) (by omega)];omega
theorem BR (k n m:Nat)(h:n / 256 ^ k+m<256):be (k+1) (n+m*256 ^ k)=UInt8.ofNat (n / 256 ^ k+m) :: be k n:=by
 rw[iU,Nat.add_mul_div_right _ _ (Nat.pow_pos (by decide))];congr 1
 have a:∀ k n m,be k (n+m*256 ^ k)=be k n:=by
  intro k;induction k with
  | zero=>intro n m;rfl
  | succ k ih=>
   intro n m;rw[be,be,show n+m*256 ^ (k+1)=n+256*(m*256 ^ k) from by rw[LQ,<-LH,Lm 256],
    Nat.add_mul_div_left _ _ (by decide),ih]
   congr 2
   apply UInt8.toNat_inj.1;simp
 exact a k n m
theorem Ow.set0 {B:Nat}{a n':Nat}(h:Ow 5 w B v (be a n'))(k n m:Nat)(b:n / 256 ^ k+m<256)(j:a=k+1:=by rfl)(i:n'=n:=by first|rfl|simp):
  ∃ g c,v=.slice (some ⟨g,0,none⟩) (k+1) c/\B<=g/\w.cell? ⟨g,0,none⟩=some (.int .u8 ((n / 256 ^ k:Nat):Int))/\w.frozen? ⟨g,0,none⟩=false /\
   Ow 5 (w.setCell ⟨g,0,none⟩ (.int .u8 ((n / 256 ^ k+m:Nat):Int))) B v (be (k+1) (n+m*256 ^ k)):=by
 subst j i;rcases h.shape with⟨_,h0⟩|⟨g,c,rfl,hg,_,hc,hcm⟩
 ·have:=congrArg List.length h0
  rw[bl] at this;simp at this
 ·have d:(be (k+1) n').length=k+1:=bl _ _
  refine⟨g,c,by rw[d],hg,?_,h.frozenAt 0,?_⟩
  ·rw[h.cellAt 0 (by rw[d];omega),iU]
   have:n' / 256 ^ k % 256=n' / 256 ^ k:=Ke (by omega);simp[Lib.byteCells,this]
  ·have f:=(h.stored 0 (.int .u8 ((n' / 256 ^ k+m:Nat):Int))).1
   unfold Ow;rw[bl,BR k n' m b];rw[bl,iU] at f;generalize n' / 256 ^ k=q at *;have:(q+m) % 256=q+m:=Ke b;have e:Lib.byteCells (UInt8.ofNat (q+m) :: be k n')=(Lib.byteCells (UInt8.ofNat q :: be k n')).set 0 (.int .u8 ((q+m:Nat):Int)):=by
    simp only[Lib.byteCells,List.map_cons,Je,Lj,Nat.reducePow,this]
   rw[e,Jo,bl];exact f
theorem rc (n k:Int)(w:World)(a:0<=n)(c:1<=k)(b:k<=7):
  Calls prog 135 #[.int .i64 n,.int .i64 k] w λe w'=>∃ v,e=.returned v/\Ow 5 w' w.heap.size v (be k.toNat n.toNat)/\Kp w w':=by
 obtain⟨k,rfl⟩:=Jq (show 0<=k by omega);exact uN n k w a (by omega) (by omega)
theorem re (n:Int)(w:World):
  Calls prog 167 #[.int .i64 n] w λe w'=>∃ v,e=.returned (.tuple #[v,.int .i64 (eL n)])/\Ow 5 w' w.heap.size v (dI n)/\Kp w w':=by
 by_cases q:n<0
 ·have u:decide (n<0)=true:=by simp[q]
  have d:eL n=1:=if_pos (.inl q);have f:dI n=[]:=by simp[dI,d]
  rw[d,f];clear d f;go_enter func167,ntmps167;go_wp2_with fail;go_ret2;exact⟨_,rfl,Ow.nil _ _ _,Kp.refl _⟩
 ·have u:decide (n<0)=false:=by simp[q]
  by_cases p:1073741823<n
  ·have t:decide (1073741823<n)=true:=by simp[p]
   have d:eL n=1:=if_pos (.inr p);have f:dI n=[]:=by simp[dI,d]
   rw[d,f];clear d f;go_enter func167,ntmps167;go_wp2_with fail;go_ret2;exact⟨_,rfl,Ow.nil _ _ _,Kp.refl _⟩
  ·have t:decide (1073741823<n)=false:=by simp[p]
   obtain⟨n,rfl⟩:=Jq (show 0<=n by omega);have d:eL n=0:=if_neg (by omega);have f:dI n=cM n:=by simp[dI,d]
   rw[d,f];clear d f;by_cases o:n<64
   ·have m:Hid (cM n=be 1 (n+0*256 ^ 0)):=by show cM n=be 1 (n+0*256 ^ 0);simp[cM,o]
    have h:bits .or .u8 (n:Int) 0=n:=by rw[qZ _ _ (by omega) (by omega) (by omega)];omega
    go_enter func167,ntmps167;go_wp2_with(first|(go_at_call 195;refine(BN _ _ (by omega)).mono ?_;rintro e w' ⟨rfl,rfl⟩)|(go_at_call 135;refine(rc _ 1 _ (by omega) (by omega) (by omega)).mono ?_;rintro e r ⟨v,rfl,i,j⟩;obtain⟨g,c,rfl,k,a,l,b⟩:=i.set0 0 n 0 (by simp;omega);simp at a))
    go_ret2;refine⟨_,rfl,?_,Below.setCell j k _⟩;rw[m.out];simpa using b
   ·by_cases s:n<16384
    ·have m:Hid (cM n=be 2 (n+64*256 ^ 1)):=by show cM n=be 2 (n+64*256 ^ 1);simp[cM,o,s]
     have h:bits .or .u8 ((n:Int) / 256) 64=(n:Int) / 256+64:=qZ _ _ (by omega) (by omega) (by omega);go_enter func167,ntmps167;go_wp2_with(first|(go_at_call 195;refine(BP _ _ (by omega) (by omega)).mono ?_;rintro e w' ⟨rfl,rfl⟩)|(go_at_call 135;refine(rc _ 2 _ (by omega) (by omega) (by omega)).mono ?_;rintro e r ⟨v,rfl,i,j⟩;obtain⟨g,c,rfl,k,a,l,b⟩:=i.set0 1 n 64 (by omega);simp at a))
     go_ret2;refine⟨_,rfl,?_,Below.setCell j k _⟩;rw[m.out];simpa using b
    ·have m:Hid (cM n=be 4 (n+128*256 ^ 3)):=by show cM n=be 4 (n+128*256 ^ 3);simp[cM,o,s]
     have h:bits .or .u8 ((n:Int) / 16777216) 128=(n:Int) / 16777216+128:=qZ _ _ (by omega) (by omega) (by omega);go_enter func167,ntmps167;go_wp2_with(first|(go_at_call 195;refine(BQ _ _ (by omega)).mono ?_;rintro e w' ⟨rfl,rfl⟩)|(go_at_call 135;refine(rc _ 4 _ (by omega) (by omega) (by omega)).mono ?_;rintro e r ⟨v,rfl,i,j⟩;obtain⟨g,c,rfl,k,a,l,b⟩:=i.set0 3 n 128 (by omega);simp at a))
     go_ret2;refine⟨_,rfl,?_,Below.setCell j k _⟩;rw[m.out];simpa using b
def TL (l:List UInt8)(at':Int)(w:World)(e:Ending)(w':World):Prop:=
 e=.returned (.tuple #[.int .i64 (tlN l at'),.int .i64 (tlP l at'),.int .i64 (tlE l at')])/\Kp w w'
theorem uV (n:Int)(w:World):
  Calls prog 150 #[.int .i64 n] w λe w'=>∃ v,e=.returned (.tuple #[v,.int .i64 (eL n)])/\Ow 5 w' w.heap.size v (dI n)/\Kp w w':=by
 by_cases d:n<0
 ·have l:decide (n<0)=true:=by simp[d]
  have a:eL n=1:=if_pos (.inl d);have b:dI n=[]:=by simp[dI,a]
  rw[a,b];clear a b;go_enter func150,ntmps150;go_wp2_with fail;go_ret2;exact⟨_,rfl,Ow.nil _ _ _,Kp.refl _⟩
 ·have l:decide (n<0)=false:=by simp[d]
  by_cases c:1073741823<n
  ·have k:decide (1073741823<n)=true:=by simp[c]
   have a:eL n=1:=if_pos (.inr c);have b:dI n=[]:=by simp[dI,a]
   rw[a,b];clear a b;go_enter func150,ntmps150;go_wp2_with fail;go_ret2;exact⟨_,rfl,Ow.nil _ _ _,Kp.refl _⟩
  ·have k:decide (1073741823<n)=false:=by simp[c]
   obtain⟨n,rfl⟩:=Jq (show 0<=n by omega);have a:eL n=0:=if_neg (by omega);have b:dI n=cM n:=by simp[dI,a]
   rw[a,b];clear a b;by_cases h:n<64
   ·have f:=Lib.hid (show cM n=be 1 n by simp[cM,h])
    go_enter func150,ntmps150;go_wp2_with fail;go_ret2;rw[f.out];exact⟨_,rfl,Ow.lit w _ _ _ _ _ (Ja _) rfl (by omega) (by simp[Lib.byteCells,be];omega),(Kp.refl _).alloc _⟩
   ·by_cases i:n<16384
    ·have f:=Lib.hid (show cM n=be 2 (n+16384) by simp[cM,h,i])
     go_enter func150,ntmps150;go_wp2_with fail;go_ret2;rw[f.out];refine⟨_,rfl,Ow.lit w _ _ _ _ _ (Ja _) rfl (by omega) ?_,(Kp.refl _).alloc _⟩;simp[Lib.byteCells,be];omega
    ·have f:=Lib.hid (show cM n=be 4 (n+2147483648) by simp[cM,h,i])
     have m:=Lib.hid (iz (n:=(2147483648+n:Int)) (w:=4) ⟨by omega,by omega,by omega,by rw[show(256:Int) ^ (4:Int).toNat=4294967296 from by decide];omega⟩);go_enter func150,ntmps150;go_wp2_with(go_at_call 62;refine(pc _ _ _ (by omega)).mono ?_;rintro e w' ⟨v,rfl,g,j⟩;obtain⟨d,c⟩:=m.out;rw[d];rw[c] at g;clear d c)
     go_ret2;rw[f.out];refine⟨_,rfl,?_,j⟩;rw[show(2147483648+(n:Int)).toNat=n+2147483648 from by omega] at g;exact g
theorem jZ (n:Nat):(cM n).length<=4:=by
 unfold cM;split
 ·rw[bl];omega
 ·split <;> (rw[bl];omega)
theorem rg (v:Value)(l:List UInt8)(w:World)(h:Rd w v l):
  Calls prog 166 #[v] w λe w'=>∃ u,e=.returned (.tuple #[u,.int .i64 (iy l)])/\Ow 5 w' w.heap.size u (aI l)/\Kp w w':=by
 have U:=aj;obtain⟨a,c,rfl,s,r⟩:=h.shape;by_cases t:1073741823<l.length
 ·have b:eL l.length=1:=if_pos (.inr (by omega))
  have d:iy l=1:=b;have g:aI l=[]:=by simp[aI,d]
  rw[d,g];have k:=Lib.hid b;clear b d g;go_enter func166,ntmps166;go_wp2_with(go_at_call 167;refine(re _ _).mono ?_;rintro e n ⟨u,rfl,i,f⟩;rw[k.out])
  go_ret2;exact⟨_,rfl,Ow.nil _ _ _,f⟩
 ·have b:eL l.length=0:=if_neg (by omega)
  have d:iy l=0:=b;have g:aI l=cM l.length++l:=by simp[aI,d]
  have m:dI l.length=cM l.length:=by simp[dI,b]
  rw[d,g];have k:=Lib.hid b;have p:=Lib.hid m;clear b d g m;go_enter func166,ntmps166;go_wp2_with(first
   | (go_at_call 167;refine(re _ _).mono ?_;rintro e n ⟨u,rfl,i,f⟩;rw[k.out];rw[p.out] at i)
   | (at_builtin;refine bz U rfl _ _ rfl w.heap.size _ _ rfl i _ l rfl (h.kp f) ?c1 f.size ?_;rotate_right;intro q w2 j o _))
  case c1=>have:=jZ l.length;omega
  go_ret2;exact⟨_,rfl,j,Kp.grown f o i.own_ge⟩
theorem pd (v:Value)(l:List UInt8)(w:World)(h:Rd w v l):
  Calls prog 111 #[v] w λe w'=>∃ u,e=.returned (.tuple #[u,.int .i64 (iy l)])/\Ow 5 w' w.heap.size u (aI l)/\Kp w w':=by
 have U:=aj;obtain⟨a,c,rfl,s,r⟩:=h.shape;by_cases t:1073741823<l.length
 ·have b:eL l.length=1:=if_pos (.inr (by omega))
  have d:iy l=1:=b;have g:aI l=[]:=by simp[aI,d]
  rw[d,g];have k:=Lib.hid b;clear b d g;go_enter func111,ntmps111;go_wp2_with(go_at_call 150;refine(uV _ _).mono ?_;rintro e n ⟨u,rfl,i,f⟩;rw[k.out])
  go_ret2;exact⟨_,rfl,Ow.nil _ _ _,f⟩
 ·have b:eL l.length=0:=if_neg (by omega)
  have d:iy l=0:=b;have g:aI l=cM l.length++l:=by simp[aI,d]
  have m:dI l.length=cM l.length:=by simp[dI,b]
  rw[d,g];have k:=Lib.hid b;have p:=Lib.hid m;clear b d g m;go_enter func111,ntmps111;go_wp2_with(first
   | (go_at_call 150;refine(uV _ _).mono ?_;rintro e n ⟨u,rfl,i,f⟩;rw[k.out];rw[p.out] at i)
   | (at_builtin;refine bz U rfl _ _ rfl w.heap.size _ _ rfl i _ l rfl (h.kp f) ?c1 f.size ?_;rotate_right;intro q w2 j o _))
  case c1=>have:=jZ l.length;omega
  go_ret2;exact⟨_,rfl,j,Kp.grown f o i.own_ge⟩
theorem But.wr {g:Nat}{A B:World}(h:But g A B):Wr g A B:=by
 have a:=h.below (Below.refl 0 A) (Jl g);exact⟨a.os,a.tape,a.output,by rw[h.size];exact Ja _,λk _ b=>h.other k b⟩
theorem Rd.nil5 (w:World):Rd w (.slice none 0 0) []:=⟨none,0,rfl,Ja _,Jl _,λ_=>rfl,λx a=>by cases a⟩
theorem yb (u1 u2 u3:Value)(key a b:List UInt8)(w:World)(al:Rd w u1 key)(ak:Rd w u2 a)(ai:Rd w u3 b)(aM:b.length<=1000000):
  Calls prog 173 #[u1,u2,u3] w λe w'=>(∃ r,e=.returned (.tuple #[r,.int .i64 (ji key a)])/\Rd w' r (jj key a b))/\Kp w w':=by
 have U:=aj;obtain⟨a1,c1,rfl,h1,h2⟩:=al.shape;obtain⟨a2,c2,rfl,h3,h4⟩:=ak.shape;obtain⟨a3,c3,rfl,h5,h6⟩:=ai.shape;by_cases t:key.length=16
 ·by_cases hn:a.length=12
  ·have e0:ji key a=0:=if_pos ⟨t,hn⟩
   have r0:jj key a b=bL (cK key) a b:=if_pos ⟨t,hn⟩;rw[e0,r0];have a5:=Lib.hid (nA t);have az:Hid (∀ W,Kp w W->Calls prog 205 #[.slice a1 key.length c1] W λe w'=>(∃ gc bx,e=.returned (.pointer (some ⟨gc,0,none⟩))/\Cph w' gc bx (cK key)/\W.heap.size<=gc/\W.heap.size<=bx)/\Kp W w'):=λW hW=>Ff _ key W (al.kp hW) t
   rw[t] at az h1 ⊢;have aU:=Lib.hid ai;have aV:=Lib.hid ak;rw[hn] at aV h3 ⊢;have HN:=Lib.hid hn;obtain⟨d,J⟩:∃ n,b.length=n:=⟨_,rfl⟩;rw[J] at aU h5 aM ⊢;have E:=Lib.hid J;generalize cK key=K at *;clear al ak ai e0 r0 t hn J;go_enter func173,ntmps173;go_wp2_with fail;refine(az.out w (Kp.refl w)).mono ?_;rintro _ w1 ⟨⟨gc,bx,rfl,hC,a9,ba⟩,k1⟩;clear az;go_wp2_with(first
    | (refine oW U rfl (.tmp 26) (.tmp 27) rfl 231 w1.heap.size _ a (List.replicate 16 0) 16 16 rfl rfl (By.made _ _ _ _ rfl) (by decide) (aV.out.kp (k1.alloc _)) (by rw[HN.out];decide) ?_;intro w2 s O;have k2:Kp w1 w2:=O.below ((Kp.refl w1).alloc _) (Ja _);clear O)
    | (at_make;refine jb (z:=.int .u8 0) (b:=1) underlying24 info5 rfl (by decide) rfl _ _ rfl d rfl rfl aM ?_;intro w3 ah;have aO:By 5 w3 w2.heap.size (List.replicate d 0):=(by rw[ah];exact By.fresh _ _ _);have k3:Kp w2 w3:=(by rw[ah];exact(Kp.refl _).alloc _);clear ah)
    | (refine oW U rfl (.tmp 32) (.tmp 33) rfl 5 w2.heap.size _ b (List.replicate d 0) d d rfl rfl aO (by simp) (aU.out.kp ((k1.trans k2).trans k3)) (by rw[E.out];exact Ja _) ?_;intro w4 aw N;have k4:Kp w2 w4:=N.below k3 (Ja _);clear N aO k3))
   rw[E.out,LU (by simp),Kj] at aw;rw[HN.out] at s;have aI:gc<w1.heap.size:=Jz w1 _ hC.ptr;have aH:bx<w1.heap.size:=hC.box.lt;have ad:w1.heap.size<w2.heap.size:=s.lt;have aW:=k1.size;have aQ:=(hC.kp k2).kp k4;have ar:=s.kp k4;have aJ:Kp w w4:=(k1.trans k2).trans k4;have o:=Lib.hid (kj K a b);have aR:Hid (∀ j,j<d->(bL K a b)[j]?=some (fG K a b j)):=λj hj=>Cu K a b j (by rw[E.out];exact hj)
   have R:By 5 w4 w2.heap.size (aG b (bL K a b) (min (16*0) d)):=by
    rw[MW,Nat.zero_min,show aG b (bL K a b) 0=b by simp[aG]];exact aw
   obtain⟨D,ae⟩:∃ g,w1.heap.size=g:=⟨_,rfl⟩;obtain⟨go,aL⟩:∃ g,w2.heap.size=g:=⟨_,rfl⟩;rw[ae] at aI aH ad aW ar ⊢;rw[aL] at ad R ⊢;clear ae aL aw s hC k1 k2 k4;have ag:Hid (∀ j,fG K a b j=b.getD j 0 ^^^ (ed K (dD a (j / 16))).getD (j % 16) 0):=λ_=>rfl
   have aS:Hid (∀ x,(ed K x).length=16):=ry K;go_loopw[11] (λp wr=>∃ (q:Nat) (y:List UInt8),16*q<=d+15/\p=.int .i64 (16*q:Nat)/\By 5 wr go (aG b (bL K a b) (min (16*q) d))/\y.length=4/\By 231 wr D (a++y)/\Cph wr gc bx K/\Kp w wr) (λp _=>d+16 - (intOf p).toNat)
   case atStart=>exact⟨0,_,by omega,rfl,R,by simp,ar,aQ,aJ⟩
   case round=>
    clear R ar aQ aJ;obtain⟨q,y,hq,rfl,l,hy,hS,hC,t⟩:=hrel;obtain⟨f,hf⟩:∃ f,16*q=f:=⟨_,rfl⟩;rw[hf] at hq l ⊢;by_cases a8:f<d
    ·have q1:(f:Int)<(d:Int):=by omega
     have e1:(f:Int).tdiv 16=(q:Int):=by rw[JK (by omega)];omega
     have e2:(f:Int) / 16=(q:Int):=by omega
     have e3:IntKind.i64.wrap ((q:Int)+1)=(q:Int)+1:=IW _ (by omega);have e4:IntKind.i64.wrap (q:Int)=(q:Int):=IW _ (by omega);have am:eE ((q:Int)+1) 4:=by
      unfold eE;refine⟨by omega,by omega,by omega,?_⟩;show(q:Int)+1<4294967296
      omega
     have G:=jY ((q:Int)+1) 4 wr (by omega);rw[(iz am).1,(iz am).2,show((4:Int)).toNat=4 from rfl,show((q:Int)+1).toNat=q+1 by omega] at G;have af:=Lib.hid G;have aT:Hid ((a++y).take 12++(be 4 (q+1)++(a++y).drop (12+(be 4 (q+1)).length))=dD a q):=by
      unfold Hid dD;rw[bl,Le (by rw[HN.out];exact Ja _),JG (by rw[HN.out];exact Ja _),LU (by rw[Jc,HN.out,hy];exact Ja _),Kj]
     have aC:=Lib.hid (bl 4 (q+1));have aB:Hid ((dD a q).length=16):=by rw[Hid,vH,HN.out]
     have a4:Hid ((a++y).length=16):=by rw[Hid,Jc,HN.out,hy]
     clear G am;go_wp2_with fail;refine af.out.mono ?_;rintro _ w5 ⟨v5,rfl,aD,k5⟩;have aN:=hS.kp k5;clear af;go_wp2_with(first
      | (refine Cv U rfl (.tmp 51) (.tmp 52) rfl 231 D 12 v5 (be 4 (q+1)) (a++y) 4 4 rfl rfl aN aD.rd (by rw[aC.out];exact Ja _) (by rw[aC.out];decide) (by rw[aC.out,a4.out];decide) ?_;intro w6 P M)
      | (refine pO underlying231 (by kernel_rfl) rfl (.tmp 9) rfl D (dD a q) rfl (by rw[<-aT.out];exact P) aB.out ?_)
      | (refine sy (by kernel_rfl) rfl rfl (.tmp 14) (.tmp 54) rfl w6.heap.size (List.replicate 16 0) (dD a q) rfl rfl (By.made _ _ _ _ rfl) (by decide) aB.out ?_;intro w7 ab L))
     rw[aT.out] at P;have S:=M.wr;have av:=S.by (l.kp k5) (by omega);have aP:=(hC.kp k5).wr S (by omega) (by omega);have ao:Kp w w6:=Below.trans (show Below w.heap.size w w5 from t.trans k5) (S.below (t.trans k5).size (by omega));have F:Kp w6 w7:=L.below ((Kp.refl w6).alloc _) (Ja _);have Z:=aP.kp F;have au:=av.kp F;have aq:=P.kp F;have T:=ao.trans F;have l1:D<w6.heap.size:=P.lt;have l2:go<w6.heap.size:=av.lt;have l3:=ao.size;obtain⟨gs,aK⟩:∃ g,w6.heap.size=g:=⟨_,rfl⟩;rw[aK] at ab l1 l2 l3 ⊢;clear M L S av aP P F aK aN aD k5 hS hC l ao;refine(Fi gc gs bx (dD a q) K w7 aB.out a5.out (by omega) (by omega) Z ab).mono ?_;rintro _ w8 ⟨rfl,aa,v⟩;have Q:=v.by au (by omega);have V:=v.by aq (by omega);have X:=Z.wr v (by omega) (by omega);have B:Kp w w8:=Below.trans (show Below w.heap.size w w7 from T) (v.below T.size (by omega));have aE:min f d=f:=by omega
     rw[aE] at Q;have i1:IntKind.i64.wrap ((d:Int) - (f:Int))=(d:Int) - (f:Int):=IW _ (by omega);clear aE;by_cases hd:16<=d - f
     ·have an:Hid (f+16=min (16*(q+1)) d):=by show f+16=min (16*(q+1)) d;omega
      have d1:(16:Int)<=(d:Int) - (f:Int):=by omega
      have aY:f+16<=d:=by omega
      clear hd;clear au Z aq ab v T t;go_wp2_with fail;go_loopw[62] (λp wr=>∃ i:Nat,i<=16/\p=.int .i64 i/\By 5 wr go (aG b (bL K a b) (f+i))/\Wr go w8 wr) (λp _=>16 - (intOf p).toNat)
      case atStart=>exact⟨0,by omega,rfl,Q,Wr.refl _ _⟩
      case round=>
       clear Q;obtain⟨i,hi,rfl,l,A⟩:=hrel;by_cases aF:i<16
       ·have qi:(i:Int)<(16:Int):=by omega
        obtain⟨j,hj⟩:∃ j,f+i=j:=⟨_,rfl⟩;have u:j<d:=by omega
        have H:(aG b (bL K a b) j).set j (fG K a b j)=aG b (bL K a b) (j+1):=gX _ _ j (by rw[o.out]) (by rw[E.out];exact u) _ (aR.out j u);have I:(aG b (bL K a b) j).length=d:=by rw[fR _ _ j (by rw[o.out]) (by rw[E.out];omega),E.out]
        rw[hj] at l;have c0:=l.cell j (by rw[I];exact u);rw[pP _ _ j j (by rw[o.out]) (by rw[E.out];omega) (Ja _)] at c0;have f0:=l.frozen j;have c1:=(A.by aa (by omega)).cell i (by rw[aS.out];omega);have hx:=bV (b.getD j 0) ((ed K (dD a q)).getD i 0);have k:=ag.out j;rw[show j / 16=q by omega,show j % 16=i by omega] at k;rw[<-k] at hx;have ay:=Lib.hid (show f+(i+1)=j+1 by omega);have u1:(f:Int)+(i:Int)=(j:Int):=by omega
        have u2:IntKind.i64.wrap (j:Int)=j:=IW _ (by omega);have u3:(j:Int)<(d:Int):=by omega
        have u4:(i:Int)<16:=by omega
        generalize fG K a b j=Y at *;generalize b.getD j 0=X1 at *;generalize (ed K (dD a q)).getD i 0=X2 at *;have aA:=Lib.hid H;clear H I hj k;go_wp2_with fail;go_region
        all_goals
         go_wp2_with fail;go_roundw
         case rel=>exact⟨i+1,by omega,by go_num,by rw[ay.out];exact l.set j _ aA.out,(A.setCell j _).drew⟩
         case measure=>simp[intOf];omega
       ·obtain rfl:i=16:=by omega
        have C:By 5 wr go (aG b (bL K a b) (min (16*(q+1)) d)):=by rw[<-an.out];exact l
        have s:By 231 wr D (a++be 4 (q+1)):=A.by V (by omega);have ax:=X.wr A (by omega) (by omega);have ap:Kp w wr:=Below.trans (show Below w.heap.size w w8 from B) (A.below B.size (by omega));have e9:IntKind.i64.wrap ((f:Int)+16)=((16*(q+1):Nat):Int):=by rw[IW _ (by omega)];omega
        have HF:=Lib.hid hf;clear l A aa V X B hf;go_wp2_with fail;go_roundw
        case rel=>exact⟨q+1,_,by have:=HF.out;omega,rfl,C,bl 4 (q+1),s,ax,ap⟩
        case measure=>have:=HF.out;simp[intOf];omega
     ·obtain⟨m,hm⟩:∃ m,d - f=m:=⟨_,rfl⟩
      have an:Hid (f+m=min (16*(q+1)) d):=by show f+m=min (16*(q+1)) d;omega
      have d0:(d:Int) - (f:Int)=(m:Int):=by omega
      have d1:¬(16:Int)<=(m:Int):=by omega
      have d2:IntKind.i64.wrap (m:Int)=m:=IW _ (by omega);have aY:f+m<=d:=by omega
      have a6:m<16:=by omega
      clear hd hm i1;clear au Z aq ab v T t;go_wp2_with fail;go_loopw[62] (λp wr=>∃ i:Nat,i<=m/\p=.int .i64 i/\By 5 wr go (aG b (bL K a b) (f+i))/\Wr go w8 wr) (λp _=>m - (intOf p).toNat)
      case atStart=>exact⟨0,by omega,rfl,Q,Wr.refl _ _⟩
      case round=>
       clear Q;obtain⟨i,hi,rfl,l,A⟩:=hrel;by_cases aF:i<m
       ·have qi:(i:Int)<(m:Int):=by omega
        obtain⟨j,hj⟩:∃ j,f+i=j:=⟨_,rfl⟩;have u:j<d:=by omega
        have H:(aG b (bL K a b) j).set j (fG K a b j)=aG b (bL K a b) (j+1):=gX _ _ j (by rw[o.out]) (by rw[E.out];exact u) _ (aR.out j u);have I:(aG b (bL K a b) j).length=d:=by rw[fR _ _ j (by rw[o.out]) (by rw[E.out];omega),E.out]
        rw[hj] at l;have c0:=l.cell j (by rw[I];exact u);rw[pP _ _ j j (by rw[o.out]) (by rw[E.out];omega) (Ja _)] at c0;have f0:=l.frozen j;have c1:=(A.by aa (by omega)).cell i (by rw[aS.out];omega);have hx:=bV (b.getD j 0) ((ed K (dD a q)).getD i 0);have k:=ag.out j;rw[show j / 16=q by omega,show j % 16=i by omega] at k;rw[<-k] at hx;have ay:=Lib.hid (show f+(i+1)=j+1 by omega);have u1:(f:Int)+(i:Int)=(j:Int):=by omega
        have u2:IntKind.i64.wrap (j:Int)=j:=IW _ (by omega);have u3:(j:Int)<(d:Int):=by omega
        have u4:(i:Int)<16:=by omega
        generalize fG K a b j=Y at *;generalize b.getD j 0=X1 at *;generalize (ed K (dD a q)).getD i 0=X2 at *;have aA:=Lib.hid H;clear H I hj k;go_wp2_with fail;go_region
        all_goals
         go_wp2_with fail;go_roundw
         case rel=>exact⟨i+1,by omega,by go_num,by rw[ay.out];exact l.set j _ aA.out,(A.setCell j _).drew⟩
         case measure=>simp[intOf];omega
       ·obtain rfl:i=m:=by omega
        have C:By 5 wr go (aG b (bL K a b) (min (16*(q+1)) d)):=by rw[<-an.out];exact l
        have s:By 231 wr D (a++be 4 (q+1)):=A.by V (by omega);have ax:=X.wr A (by omega) (by omega);have ap:Kp w wr:=Below.trans (show Below w.heap.size w w8 from B) (A.below B.size (by omega));have e9:IntKind.i64.wrap ((f:Int)+16)=((16*(q+1):Nat):Int):=by rw[IW _ (by omega)];omega
        have HF:=Lib.hid hf;clear l A aa V X B hf;go_wp2_with fail;go_roundw
        case rel=>exact⟨q+1,_,by have:=HF.out;omega,rfl,C,bl 4 (q+1),s,ax,ap⟩
        case measure=>have:=HF.out;simp[intOf];omega
    ·have C:By 5 wr go (bL K a b):=by
      rw[show min f d=d by omega] at l;have:=jA b (bL K a b) (by rw[o.out]);rw[o.out,E.out] at this;rw[this] at l;exact l
     have aX:=C.rdAll (n:=d) (c:=d) (by rw[o.out,E.out]) (Ja _) (by unfold maxLen;omega);have a7:¬(f:Int)<(d:Int):=by omega
     clear l C hS hC;go_wp2_with fail;go_ret2;exact⟨⟨_,rfl,aX⟩,t⟩
  ·have e0:ji key a=1:=if_neg (λh=>hn h.2)
   have r0:jj key a b=[]:=if_neg (λh=>hn h.2);rw[e0,r0];have a0:((a.length:Int)==12)=false:=Jd.2 (by omega);have aZ:¬(a.length:Int)=12:=by omega
   rw[t];go_enter func173,ntmps173;go_wp2_with fail;go_ret2;exact⟨⟨_,rfl,Rd.nil5 _⟩,Kp.refl _⟩
 ·have e0:ji key a=1:=if_neg (λh=>t h.1)
  have r0:jj key a b=[]:=if_neg (λh=>t h.1);rw[e0,r0];have a0:((key.length:Int)==16)=false:=Jd.2 (by omega);have aZ:¬(key.length:Int)=16:=by omega
  go_enter func173,ntmps173;go_wp2_with fail;go_ret2;exact⟨⟨_,rfl,Rd.nil5 _⟩,Kp.refl _⟩
theorem Fj (U:U8 P t e){h:Array Oper}
  (T:o.guard=none) (s x:Operand) (y:o.op=Op.call { callee:=Callee.builtin Builtin.append,args:=#[s,x],argTypes:=#[t,t] })
  (B:Nat) (v:Value) (l:List UInt8) (O:a.eval s=v) (p:Ow e w B v l) (r:Addr) (n c:Nat) (m:List UInt8) (M:a.eval x=.slice (some r) n c) (F:Rd w (.slice (some r) n c) m)
  (G:l.length+m.length<=140737488355328) (f:B<=w.heap.size)
  (V:∀ g w',Ow e w' B g (l++m)->w.grownBy w' v.ownBlock->(g.ownBlock=v.ownBlock\/g.ownBlock=some w.heap.size)->K (a.put o.dst g) w'):
  if Region.wanted o (yielded h a.tmps)=true then Oper.wp P o a w K Q else E:=by
 have N:Region.wanted o (yielded h a.tmps)=true:=by simp[Region.wanted,T]
 rw[if_pos N];obtain⟨i,S,u,d,C⟩:=U.hi;obtain⟨R,_,_⟩:=F.len;subst R;obtain⟨a',c',H,Z,Y,X,W⟩:=F;simp only[Ji] at H;obtain⟨rfl,_,rfl⟩:=H;obtain⟨g,w',k,L,J,_,I⟩:=run_append_own_at (P:=P) (w:=w) B t o.type e i (.int .u8 0) 1 1 U.ht S u d C rfl (by decide) v l.length (Lib.byteCells l) p r m.length c (Lib.byteCells m) (by rw[cG];omega) (λj z A=>by
  have q:j<m.length:=by
   have:=(JH.1 A).1;rwa [cG] at this
  rw[gd m j q] at A;cases A;exact W r rfl j q) (λz u=>by
  obtain⟨b,_,rfl⟩:=JO.1 u;rfl) (by unfold maxLen;omega) (by omega) f
 have D:=V g w' (by unfold Ow;rw[Jc,mb];exact L) J I;unfold Oper.wp;simp[execOp,y,resolve,invoke,builtin,O,M,k,Result.andThen];exact D
theorem sI {w':World}{row:Option Nat}{p:Addr}(c:w.grownBy w' row)(b:w.cell? p=some v)(a:row≠some p.block):w'.cell? p=some v:=
 (Ll (w:=w) (c.block p.block (Jz w _ b) (λe=>a e.symm))).trans b
theorem Fk (K a b:List UInt8)(j:Nat)(h:j<b.length):(bL K a b).take (j+1)=(bL K a b).take j++[fG K a b j]:=by
 rw[ma _ _ (by rw[kj];exact h),rD _ _ _ _ h]
theorem Fl (u1 u2 u3:Value)(key a b:List UInt8)(w:World)(J:Rd w u1 key)(I:Rd w u2 a)(H:Rd w u3 b)(aP:b.length<=1000000):
  Calls prog 153 #[u1,u2,u3] w λe w'=>(∃ r,e=.returned (.tuple #[r,.int .i64 (ji key a)])/\Rd w' r (jj key a b))/\Kp w w':=by
 have U:=aj;obtain⟨a1,c1,rfl,h1,h2⟩:=J.shape;obtain⟨a2,c2,rfl,h3,h4⟩:=I.shape;obtain⟨a3,c3,rfl,h5,h6⟩:=H.shape;by_cases d:key.length=16
 ·by_cases E:a.length=12
  ·have Z:ji key a=0:=if_pos ⟨d,E⟩
   have X:jj key a b=bL (cK key) a b:=if_pos ⟨d,E⟩;rw[Z,X];by_cases R:b.length=0
   ·have aO:b=[]:=Ju R
    subst aO;have aI:bL (cK key) a []=[]:=rfl;rw[aI,d,E,Jt];go_enter func153,ntmps153;go_wp2_with fail;go_ret2;exact⟨⟨_,rfl,Rd.nil _⟩,Kp.refl _⟩
   ·obtain⟨gb,ob,rfl,bc,au⟩:=H.at 0 (by omega)
    have aH:=Lib.hid au;have T:Hid (∀ bx W,Kp w W->By 5 W bx fL->Calls prog 188 #[.slice a1 key.length c1,.slice (some ⟨bx,0,none⟩) 256 256] W λe w'=>(∃ r,e=.returned r/\Ow 5 w' W.heap.size r (cK key))/\Kp W w'):=λbx W h1 h2=>EF _ key bx W (J.kp h1) d h2
    have aW:=Lib.hid (nA d);rw[d] at T h1 ⊢;have aC:=Lib.hid I;rw[E] at aC h3 ⊢;have HN:=Lib.hid E;obtain⟨c,ai⟩:∃ n,b.length=n:=⟨_,rfl⟩;have aB:=Lib.hid (kj (cK key) a b);have aA:=Lib.hid (Fk (cK key) a b);rw[ai] at aH aB aA h5 aP R ⊢;have aE:Hid (∀ j,fG (cK key) a b j=b.getD j 0 ^^^ (ed (cK key) (dD a (j / 16))).getD (j % 16) 0):=λ_=>rfl
    have aD:Hid (∀ x,(ed (cK key) x).length=16):=ry (cK key);generalize cK key=K at *;have aK:((c:Int)==0)=false:=Jd.2 (by omega);have aJ:¬(c:Int)=0:=by omega
    clear J I H au Z X d E R;go_enter func153,ntmps153;go_wp2_with fail;refine(Ew w).mono ?_;rintro _ w1 ⟨⟨rfl,hX⟩,k1⟩;go_wp2_with fail;refine(T.out w.heap.size w1 k1 hX).mono ?_;rintro _ w2 ⟨⟨r,rfl,ho⟩,k2⟩;have aU:=Lib.hid ho.rd;have HX:=Lib.hid (hX.kp k2);have C:=Lib.hid (k1.trans k2);clear T hX k1 k2 ho aK aJ;go_wp2_with fail;go_loopw[8,11] (λv p wr=>∃ (q:Nat) (x:Value),16*q<=c+15/\x=v/\p=.int .i64 (16*q:Nat)/\Ow 5 wr w2.heap.size v ((bL K a b).take (min (16*q) c))/\Kp w2 wr) (λ_ p _=>c+16 - (intOf p).toNat)
    case atStart=>exact⟨0,_,by omega,rfl,rfl,by rw[MW,Nat.zero_min,Lq];exact Ow.nil _ _ _,Kp.refl _⟩
    case round=>
     obtain⟨q,v,hq,rfl,rfl,l,d⟩:=hrel;obtain⟨f,hf⟩:∃ f,16*q=f:=⟨_,rfl⟩;rw[hf] at hq l ⊢;by_cases a6:f<c
     ·have q1:(f:Int)<(c:Int):=by omega
      have e1:(f:Int).tdiv 16=(q:Int):=by rw[JK (by omega)];omega
      have e2:(f:Int) / 16=(q:Int):=by omega
      have e3:IntKind.i64.wrap ((q:Int)+1)=(q:Int)+1:=IW _ (by omega);have e4:IntKind.i64.wrap (q:Int)=(q:Int):=IW _ (by omega);have O:eE ((q:Int)+1) 4:=by
       unfold eE;refine⟨by omega,by omega,by omega,?_⟩;show(q:Int)+1<4294967296
       omega
      have z:=pc ((q:Int)+1) 4 wr (by omega);rw[(iz O).1,(iz O).2,show((4:Int)).toNat=4 from rfl,show((q:Int)+1).toNat=q+1 by omega] at z;have F:=Lib.hid z;have aZ:=Lib.hid (bl 4 (q+1));have aY:Hid ((dD a q).length=16):=by rw[Hid,vH,HN.out]
      have aX:Hid (a++be 4 (q+1)=dD a q):=rfl;have ah:min f c=f:=by omega
      rw[ah] at l;have HO:=Lib.hid l;have al:=C.out.trans d;clear z O ah l;go_wp2_with fail;refine F.out.mono ?_;rintro _ G ⟨v5,rfl,af,k5⟩;have h5:=af.rd;clear F af;go_wp2_with(at_builtin;first
       | (refine bz (o:=⟨some 49,_,_,_,_,_⟩) U rfl _ _ rfl G.heap.size _ [] rfl (Ow.lit G _ _ 0 #[] [] (Ja _) rfl (by omega) rfl) _ a rfl (aC.out.kp ((al.trans k5).alloc _)) (by rw[HN.out];simp) (by simp) ?_;intro v6 w6 ae ar _;have k6:Kp G w6:=Kp.grown ((Kp.refl G).alloc _) ar (λk e=>by cases e;exact Ja _);have y:Ow 5 w6 G.heap.size v6 a:=(by simpa using ae);have ay:=h5.kp k6;clear ae ar)
       | (refine bz (o:=⟨some 51,_,_,_,_,_⟩) U rfl _ _ rfl G.heap.size v6 a rfl y _ (be 4 (q+1)) rfl ay (by rw[HN.out,aZ.out];decide) k6.size ?_;intro v7 w7 N aq _;have k7:Kp G w7:=Kp.grown k6 aq y.own_ge;rw[aX.out] at N;clear aq y ay))
      have m:=k5.trans k7;refine(EW r v7 K (dD a q) w.heap.size w7 (aU.out.kp (d.trans m)) aW.out (HX.out.kp (d.trans m)) N.rd aY.out).mono ?_;rintro _ w8 ⟨⟨vs,rfl,M⟩,k8⟩;obtain⟨t,cs,rfl,y1,y2,y3,y4⟩:=pN M (by rw[aD.out];omega);have L:=M.rd;rw[aD.out] at L y3 ⊢;obtain⟨bs,os,aN,av,g⟩:=L.at 0 (by omega);cases aN;have aa:v.ownBlock≠some t:=λe=>by
       have:=(JP (w:=wr) HO.out t e).2;have:=m.size;omega
      have u:=HO.out.kp (m.trans k8);have P:=d.trans (m.trans k8);have ak:Kp w w8:=C.out.trans P;have aG:Hid (∀ i,i<16->w8.cell? ⟨t,i,none⟩=some (.int .u8 (((ed K (dD a q)).getD i 0).toNat:Int))):=λi hi=>by
       have:=g i hi;rwa [JS] at this
      clear g L M N m k8 k7 k6 k5 d h5 HO al;go_wp2_with fail;go_loopw[8,15] (λv p wr=>∃ (i:Nat) (x:Value),f<=i/\i<=c/\i<=f+16/\x=v/\p=.int .i64 i/\Ow 5 wr w2.heap.size v ((bL K a b).take i)/\Kp w2 wr/\v.ownBlock≠some t/\Hid (∀ i,i<16->wr.cell? ⟨t,i,none⟩=some (.int .u8 (((ed K (dD a q)).getD i 0).toNat:Int)))/\t<wr.heap.size) (λ_ p _=>f+16 - (intOf p).toNat)
      case atStart=>exact⟨f,_,by omega,by omega,by omega,rfl,rfl,u,P,aa,aG,y2⟩
      case round=>
       clear u P aa aG y2 y3 y4 av ak;obtain⟨i,v,ba,a9,a8,rfl,rfl,l,A,hv,g,bb⟩:=hrel;have i0:IntKind.i64.wrap ((f:Int)+16)=(f:Int)+16:=IW _ (by omega);by_cases a0:i<f+16
       ·have d1:(i:Int)<(f:Int)+16:=by omega
        by_cases ao:i<c
        ·have d2:(i:Int)<(c:Int):=by omega
         obtain⟨k,aM⟩:∃ k,i - f=k:=⟨_,rfl⟩;have am:k<16:=by omega
         have d3:(i:Int) - (f:Int)=(k:Int):=by omega
         have d4:IntKind.i64.wrap (k:Int)=k:=IW _ (by omega);have d5:(k:Int)<16:=by omega
         have c1:=(C.out.trans A).cell (aH.out i ao);have c2:=g.out k am;have hx:=bV (b.getD i 0) ((ed K (dD a q)).getD k 0);have B:=aE.out i;rw[show i / 16=q by omega,show i % 16=k by omega] at B;rw[<-B] at hx;have ad:=aA.out i ao;have a4:((bL K a b).take i).length<=1000000:=by rw[Jv];omega
         have ag:v.ownBlock≠some gb:=λe=>by
          have:=(JP (w:=wr) l gb e).1;have:=C.out.size;omega
         generalize fG K a b i=Y at *;have aF:=g;generalize ax:(bL K a b).take (i+1)=L1 at *;have aV:=Lib.hid ax;generalize (bL K a b).take i=L0 at *;generalize b.getD i 0=X1 at *;generalize (ed K (dD a q)).getD k 0=X2 at *;have aT:=Lib.hid ad;have D:Hid (∀ W,Kp wr W->W.cell? ⟨gb,ob+i,none⟩=some (.int .u8 (X1.toNat:Int))/\W.cell? ⟨t,k,none⟩=some (.int .u8 (X2.toNat:Int))):=λW hW=>⟨hW.cell c1,hW.cell c2⟩
         have a7:=A.size;clear ad B aM g ax;go_wp2_with fail;go_region_held3 (λW=>W.cell? ⟨gb,ob+i,none⟩=some (.int .u8 (X1.toNat:Int))/\W.cell? ⟨t,k,none⟩=some (.int .u8 (X2.toNat:Int)))
          (first
           | exact D.out _ (Kp.refl _).drew
           | exact D.out _ ((Kp.refl _).alloc _).drew
           | exact az)
          (first
           | (refine Fj U rfl (.tmp 66) (.tmp 78) rfl w2.heap.size _ _ rfl (l.kp ((Kp.refl _).alloc _).drew) _ 1 1 [Y] rfl ((Rd.box wr _ _ Y rfl).kp (Kp.refl _).drew) (by simp;omega) (by simp;omega) ?_;intro v' w9 u s aw;have az:w9.cell? ⟨gb,ob+i,none⟩=some (.int .u8 (X1.toNat:Int))/\w9.cell? ⟨t,k,none⟩=some (.int .u8 (X2.toNat:Int)):=⟨sI s (D.out _ ((Kp.refl _).alloc _).drew).1 ag,sI s (D.out _ ((Kp.refl _).alloc _).drew).2 hv⟩))
         all_goals
          have an:Kp w2 w9:=Kp.grown ((A.alloc _).drew) s l.own_ge;have ap:=s.size;have ab:v'.ownBlock≠some t:=λe=>by
           rcases aw with h|h
           ·exact hv (h.symm.trans e)
           ·rw[h] at e
            simp at e;omega
          have Q:t<w9.heap.size:=by
           simp at ap;omega
          have V:Hid (∀ i,i<16->w9.cell? ⟨t,i,none⟩=some (.int .u8 (((ed K (dD a q)).getD i 0).toNat:Int))):=λj hj=>sI s (((Kp.refl wr).alloc _).drew.cell (aF.out j hj)) hv
          rw[<-aT.out] at u;clear az s aw ap;go_wp2_with fail;go_roundw
          case rel=>exact⟨i+1,_,by omega,by omega,by omega,rfl,by go_num,by rw[aV.out];exact u,an,ab,V,Q⟩
          case measure=>simp[intOf];omega
        ·have d2:¬(i:Int)<(c:Int):=by omega
         have S:Ow 5 wr w2.heap.size v ((bL K a b).take (min (16*(q+1)) c)):=by rw[show min (16*(q+1)) c=i by omega];exact l
         have e9:IntKind.i64.wrap ((f:Int)+16)=((16*(q+1):Nat):Int):=by rw[IW _ (by omega)];omega
         have HQ:=Lib.hid (show 16*(q+1)<=c+15 by omega);have HF:=Lib.hid hf;clear l hf g;go_wp2_with fail;go_roundw
         case rel=>exact⟨q+1,_,HQ.out,rfl,congrArg (Value.int .i64) (by have:=HF.out;omega),S,A⟩
         case measure=>have:=HF.out;have:=HQ.out;simp[intOf];omega
       ·have d1:¬(i:Int)<(f:Int)+16:=by omega
        have S:Ow 5 wr w2.heap.size v ((bL K a b).take (min (16*(q+1)) c)):=by rw[show min (16*(q+1)) c=i by omega];exact l
        have e9:IntKind.i64.wrap ((f:Int)+16)=((16*(q+1):Nat):Int):=by rw[IW _ (by omega)];omega
        have HQ:=Lib.hid (show 16*(q+1)<=c+15 by omega);have HF:=Lib.hid hf;clear l hf g;go_wp2_with fail;go_roundw
        case rel=>exact⟨q+1,_,HQ.out,rfl,congrArg (Value.int .i64) (by have:=HF.out;omega),S,A⟩
        case measure=>have:=HF.out;have:=HQ.out;simp[intOf];omega
     ·have a5:¬(f:Int)<(c:Int):=by omega
      have aS:Ow 5 wr w2.heap.size v (bL K a b):=by
       rw[show min f c=c by omega,JG (by rw[aB.out];exact Ja _)] at l;exact l
      have aL:=C.out.trans d;clear l;go_wp2_with fail;go_ret2;exact⟨⟨_,rfl,aS.rd⟩,aL⟩
  ·have Z:ji key a=1:=if_neg (λh=>E h.2)
   have X:jj key a b=[]:=if_neg (λh=>E h.2);rw[Z,X];have aR:((a.length:Int)==12)=false:=Jd.2 (by omega);have aQ:¬(a.length:Int)=12:=by omega
   rw[d];go_enter func153,ntmps153;go_wp2_with fail;go_ret2;exact⟨⟨_,rfl,Rd.nil _⟩,Kp.refl _⟩
 ·have Z:ji key a=1:=if_neg (λh=>d h.1)
  have X:jj key a b=[]:=if_neg (λh=>d h.1);rw[Z,X];have aR:((key.length:Int)==16)=false:=Jd.2 (by omega);have aQ:¬(key.length:Int)=16:=by omega
  go_enter func153,ntmps153;go_wp2_with fail;go_ret2;exact⟨⟨_,rfl,Rd.nil _⟩,Kp.refl _⟩
theorem eI (U:U8 P t e){g:Array Oper}
  (n:o.guard=none) (s x:Operand) (h:o.op=Op.call { callee:=Callee.builtin Builtin.append,args:=#[s,x],argTypes:=#[t,t] })
  (B:Nat) (v:Value) (l:List UInt8) (k:a.eval s=v) (c:Ow e w B v l) (aa:Value) (m:List UInt8) (i:a.eval x=aa) (j:Rd w aa m)
  (d:l.length+m.length<=140737488355328) (b:B<=w.heap.size)
  (p:∀ f w',Ow e w' B f (l++m)->w.grownBy w' v.ownBlock->K (a.put o.dst f) w'):
  if Region.wanted o (yielded g a.tmps)=true then Oper.wp P o a w K Q else E:=by
 rw[if_pos (by simp[Region.wanted,n])];exact zR U s x h B v l k c aa m i j d b (λf w' r q _=>p f w' r q)
theorem qa {l:List UInt8}(h:Rd w v l):∃ a n c,v=.slice a n c:=by
 obtain⟨a,c,e,_⟩:=h.shape;exact⟨_,_,_,e⟩
theorem sP (n:Nat)(w:World)(d:n<=65535):
  Calls prog 229 #[.int .i64 (n:Int)] w λe w'=>(∃ r,e=.returned r/\Ow 5 w' w.heap.size r (be 2 n))/\Kp w w':=by
 have k:(n:Int).tdiv 256=((n / 256:Nat):Int):=by rw[JK (by omega)];omega
 have j:(n:Int).tmod 256=((n % 256:Nat):Int):=by rw[JF (by omega)];omega
 have i:IntKind.i64.wrap ((n / 256:Nat):Int)=((n / 256:Nat):Int):=IW _ (by omega);have h:IntKind.u8.wrap ((n / 256:Nat):Int)=((n / 256:Nat):Int):=by simp[IntKind.wrap,IntKind.signed,IntKind.bits];omega
 have g:IntKind.u8.wrap ((n % 256:Nat):Int)=((n % 256:Nat):Int):=by simp[IntKind.wrap,IntKind.signed,IntKind.bits]
 have f:IntKind.i64.wrap ((n % 256:Nat):Int)=((n % 256:Nat):Int):=IW _ (by omega);have c:Hid (#[(.int .u8 ((n / 256:Nat):Int):Value),.int .u8 ((n % 256:Nat):Int)].toList=Lib.byteCells (be 2 n)):=by
  unfold Hid;have b:(UInt8.ofNat (n / 256)).toNat=n / 256:=by simp;omega
  have a:(UInt8.ofNat n).toNat=n % 256:=by simp
  rw[iU,iU];simp only[Lib.byteCells,be,Nat.pow_one,Nat.pow_zero,Nat.div_one,List.map_cons,List.map_nil,b,a]
 generalize ((n / 256:Nat):Int)=X at *;generalize ((n % 256:Nat):Int)=Y at *;go_enter func229,ntmps229;go_wp2_with fail;go_ret;exact⟨⟨_,rfl,Ow.lit w _ _ 2 _ _ (Ja _) (bl 2 n) (by omega) c.out⟩,(Kp.refl _).alloc _⟩
theorem il (v:Value)(l:List UInt8)(w:World)(h:Rd w v l):
  Calls prog 191 #[v] w λe w'=>(∃ r,e=.returned r/\Ow 5 w' w.heap.size r (aI l))/\Kp w w':=by
 have f:=Lib.hid (pd v l w h);obtain⟨a,c,rfl,_,_⟩:=h.shape;go_enter func191,ntmps191;go_wp2_with fail;refine f.out.mono ?_;rintro _ g ⟨r,rfl,b,d⟩;obtain⟨k,i,j,rfl⟩:=qa b.rd;go_wp2_with fail;go_ret;exact⟨⟨_,rfl,b⟩,d⟩
theorem sQ (v:Value)(n:Nod)(w:World)(hv:NV w v n)(hn:dR n):
  Calls prog 230 #[v] w λe w'=>(∃ r,e=.returned r/\Ow 5 w' w.heap.size r (cI n))/\Kp w w':=by
 have U:=aj;obtain⟨p,aa,h,rfl,ip,iu,ih⟩:=hv;obtain⟨a,nm,pub,c,d⟩:=n;obtain⟨hk,an,O,A,z,ae⟩:=hn;simp only at hk an O A z ae ip iu ih;obtain⟨T,L,Q,rfl⟩:=qa ip;obtain⟨V,M,R,rfl⟩:=qa ih;obtain⟨S,K,P,rfl⟩:=iu.sl;simp only[bT];obtain⟨N,rfl⟩:=Jq an.1;have lp:=ff (x:=pub) (by omega);have lh:=ff (x:=d) (by omega);obtain⟨b,f⟩:∃ b:Int->World,b=λa=>w.alloc (.cells #[.int .i64 a,.int .i64 (N:Int),.slice T L Q,.slice S K P,.slice V M R] 81):=⟨_,rfl⟩
 have q:Hid (∀ a,Kp w (b a)/\(b a).heap.size=w.heap.size+1):=λa=>by rw[f];exact⟨(Kp.refl _).alloc _,by simp⟩
 have C:Hid (∀ a,(b a).rangeAt w.heap.size 0 [.int .i64 a,.int .i64 (N:Int),.slice T L Q,.slice S K P,.slice V M R]):=λa=>by
  rw[f];intro j v hv;rw[cell_of_row _ _ (0+j) _ _ _ (heap_alloc_new w _)];simpa using hv
 have g:Hid (∀ a W,Kp (b a) W->W.cell? ⟨w.heap.size,2,none⟩=some (.slice T L Q)/\W.cell? ⟨w.heap.size,4,none⟩=some (.slice V M R)):=λa W s=>⟨s.cell (C.out a 2 _ rfl),s.cell (C.out a 4 _ rfl)⟩
 have B:Hid (∀ a W,Kp (b a) W->W.cell? ⟨w.heap.size,3,none⟩=some (.slice S K P)/\W.cell? ⟨w.heap.size,0,none⟩=some (.int .i64 a)):=λa W s=>⟨s.cell (C.out a 3 _ rfl),s.cell (C.out a 0 _ rfl)⟩
 have HP:Hid (∀ a W,Kp (b a) W->Calls prog 191 #[.slice T L Q] W λe w'=>(∃ r,e=.returned r/\Ow 5 w' W.heap.size r (aI pub))/\Kp W w'):=λa W s=>il _ pub W (ip.kp ((q.out a).1.trans s))
 have HH:Hid (∀ a W,Kp (b a) W->Calls prog 191 #[.slice V M R] W λe w'=>(∃ r,e=.returned r/\Ow 5 w' W.heap.size r (aI d))/\Kp W w'):=λa W s=>il _ d W (ih.kp ((q.out a).1.trans s))
 have t:Hid (∀ a W,Kp (b a) W->RI W (.slice S K P) c):=λa W s=>iu.kp ((q.out a).1.trans s)
 have HT:=Lib.hid (λW=>sP N W (by omega));have I:Hid (∀ a,w.alloc (.cells #[.int .i64 a,.int .i64 (N:Int),.slice T L Q,.slice S K P,.slice V M R] 81)=b a):=λa=>by rw[f]
 clear f C ip iu ih;rcases hk with rfl|rfl|rfl
 ·go_enter func230,ntmps230
  go_wp2_with fail;go_ret;refine⟨⟨_,rfl,?_⟩,((Kp.refl _).alloc _).alloc _⟩;have:=Ow.lit (w.alloc (.cells #[.int .i64 0,.int .i64 (N:Int),.slice T L Q,.slice S K P,.slice V M R] 81)) 5 w.heap.size 1 #[.int .u8 0] [0] (by simp) rfl (by omega) rfl;rwa [Jn] at this
 ·have g:=Lib.hid (g.out 1);have HP:=Lib.hid (HP.out 1);have HH:=Lib.hid (HH.out 1);have B:=Lib.hid (B.out 1);have m:=I.out 1
  obtain⟨kw,k⟩:=q.out 1;have HN:Hid (cI ⟨1,(N:Int),pub,c,d⟩=[1]++be 2 N++aI pub++aI d):=rfl;rw[HN.out];obtain⟨b,f⟩:∃ X,b 1=X:=⟨_,rfl⟩;rw[f] at kw k g HP HH B m;have F:=Lib.hid (Jb kw k);have HW:=Lib.hid m;clear q t f I m kw k;go_enter func230,ntmps230;go_wp2_with fail;rw[HW.out];refine(HT.out _).mono ?_;rintro _ w2 ⟨⟨r2,rfl,o2⟩,k2⟩;have o1:=Ow.lit b 5 b.heap.size 1 #[.int .u8 1] [1] (Ja _) rfl (by omega) rfl;rw[F.out.2] at o1;have K2:Hid (Kp b w2):=((Kp.refl b).alloc _).trans k2;have ab:=o1.kp k2;go_wp2_with(at_builtin;refine bz U rfl _ _ rfl (w.heap.size+1) _ [1] rfl ab _ (be 2 N) rfl o2.rd (by simp[bl]) (by have:=K2.out.size;have:=F.out.2;omega) ?_;intro v3 w3 o3 g3 _;have Y:Hid (Kp b w3):=Kp.grown K2.out g3 (by rw[F.out.2];exact ab.own_ge);have c0:=(B.out _ Y.out).2)
  rw[<-F.out.2] at o3;clear o1 ab o2 k2 g3 K2 c0;have S3:=Lib.hid (g.out _ Y.out.drew);go_region_held3 (λW=>W.cell? ⟨w.heap.size,2,none⟩=some (.slice T L Q)/\W.cell? ⟨w.heap.size,4,none⟩=some (.slice V M R))
   (first|with_reducible exact S3.out|with_reducible exact S4.out|with_reducible exact S5.out|with_reducible exact S6.out|with_reducible exact S7.out)
   (first
    | (refine eI U rfl (.tmp 25) (.tmp 28) rfl b.heap.size _ _ rfl u _ _ rfl o6.rd (by simp only[Jc,Jo,Jt,bl];omega) K6.out.size ?_;intro v7 w7 o7 g7;have E:=Lib.hid (Kp.grown K6.out g7 u.own_ge);have S7:=Lib.hid (g.out _ E.out))
    | (go_at_call 191;refine(HH.out _ K5.out).mono ?_;rintro _ w6 ⟨⟨r6,rfl,o6⟩,k6⟩;have K6:=Lib.hid (K5.out.trans k6);have S6:=Lib.hid (g.out _ K6.out);have u:=o5.kp k6)
    | (refine eI U rfl (.tmp 21) (.tmp 24) rfl b.heap.size _ _ rfl y _ _ rfl o4.rd (by simp only[Jc,Jo,Jt,bl];omega) K4.out.size ?_;intro v5 w5 o5 g5;have K5:=Lib.hid (Kp.grown K4.out g5 y.own_ge);have S5:=Lib.hid (g.out _ K5.out))
    | (go_at_call 191;refine(HP.out _ Y.out.drew).mono ?_;rintro _ w4 ⟨⟨r4,rfl,o4⟩,k4⟩;have K4:=Lib.hid (Y.out.drew.trans k4);have S4:=Lib.hid (g.out _ K4.out);have y:=o3.kp ((Kp.refl _).drew.trans k4)))
  have c0:=(B.out _ E.out).2;go_wp2_with fail;go_ret;have hz:=F.out;exact⟨⟨_,rfl,o7.mono (by omega)⟩,hz.1.trans E.out⟩
 ·have g:=Lib.hid (g.out 2);have HP:=Lib.hid (HP.out 2);have HH:=Lib.hid (HH.out 2);have B:=Lib.hid (B.out 2);have t:=Lib.hid (t.out 2);have m:=I.out 2
  obtain⟨kw,k⟩:=q.out 2;obtain⟨L7,H⟩:∃ L7,L7=[2]++aI pub++aI d:=⟨_,rfl⟩;have HN:Hid (cI ⟨2,(N:Int),pub,c,d⟩=L7++aI (unB c)):=by unfold Hid;rw[H];rfl
  have ax:=Lib.hid H;have aC:Hid (L7.length<=200):=by unfold Hid;rw[H];simp only[Jc,Jo,Jt];omega
  clear H;rw[HN.out];obtain⟨b,f⟩:∃ X,b 2=X:=⟨_,rfl⟩;rw[f] at kw k g HP HH B t m;have F:=Lib.hid (Jb kw k);have HW:=Lib.hid m;clear q f I m kw k HT;go_enter func230,ntmps230;go_wp2_with fail;rw[HW.out];have o3:=Ow.lit b 5 b.heap.size 1 #[.int .u8 2] [2] (Ja _) rfl (by omega) rfl;have Y:Hid (Kp b (b.alloc (.cells #[.int .u8 2] 5))):=(Kp.refl b).alloc _;generalize b.alloc (.cells #[.int .u8 2] 5)=w3 at *;obtain⟨v3,ad⟩:∃ v3,Value.slice (some ⟨w.heap.size+1,0,none⟩) 1 1=v3:=⟨_,rfl⟩;rw[F.out.2,ad,<-F.out.2] at o3;rw[ad];clear ad;have S3:=Lib.hid (g.out _ Y.out.drew);go_region_held3 (λW=>W.cell? ⟨w.heap.size,2,none⟩=some (.slice T L Q)/\W.cell? ⟨w.heap.size,4,none⟩=some (.slice V M R))
   (first|with_reducible exact S3.out|with_reducible exact S4.out|with_reducible exact S5.out|with_reducible exact S6.out|with_reducible exact S7.out)
   (first
    | (refine eI U rfl (.tmp 25) (.tmp 28) rfl b.heap.size _ _ rfl u _ _ rfl o6.rd (by simp only[Jc,Jo,Jt,bl];omega) K6.out.size ?_;intro v7 w7 o7 g7;have E:=Lib.hid (Kp.grown K6.out g7 u.own_ge);have S7:=Lib.hid (g.out _ E.out))
    | (go_at_call 191;refine(HH.out _ K5.out).mono ?_;rintro _ w6 ⟨⟨r6,rfl,o6⟩,k6⟩;have K6:=Lib.hid (K5.out.trans k6);have S6:=Lib.hid (g.out _ K6.out);have u:=o5.kp k6)
    | (refine eI U rfl (.tmp 21) (.tmp 24) rfl b.heap.size _ _ rfl y _ _ rfl o4.rd (by simp only[Jc,Jo,Jt,bl];omega) K4.out.size ?_;intro v5 w5 o5 g5;have K5:=Lib.hid (Kp.grown K4.out g5 y.own_ge);have S5:=Lib.hid (g.out _ K5.out))
    | (go_at_call 191;refine(HP.out _ Y.out.drew).mono ?_;rintro _ w4 ⟨⟨r4,rfl,o4⟩,k4⟩;have K4:=Lib.hid (Y.out.drew.trans k4);have S4:=Lib.hid (g.out _ K4.out);have y:=o3.kp ((Kp.refl _).drew.trans k4)))
  have c0:=(B.out _ E.out).2;rw[<-ax.out] at o7;obtain⟨kz,zs⟩:=F.out;have aw:=Lib.hid (Jb kz (show w.heap.size<=b.heap.size by omega));have o:Hid (∀ W,Kp w7 W->W.cell? ⟨w.heap.size,3,none⟩=some (.slice S K P)/\RI W (.slice S K P) c):=λW s=>⟨(B.out _ (E.out.trans s)).1,t.out _ (E.out.trans s)⟩
  have az:=z;obtain⟨_,aF,eu,_,_⟩:=(o.out _ (Kp.refl _)).2.shape;simp only[Ji] at eu;obtain⟨-,ag,-⟩:=eu;obtain⟨D,af⟩:∃ D,c.length=D:=⟨_,rfl⟩;rw[af] at ag az;rw[ag] at o ⊢;have HT:Hid (∀ (i:Nat) W,i<D->Calls prog 229 #[.int .i64 (c.getD i 0)] W λe w'=>(∃ r,e=.returned r/\Ow 5 w' W.heap.size r (be 2 (c.getD i 0).toNat))/\Kp W w'):=λi W hi=>by
   have hm:c.getD i 0∈c:=by rw[IU,IV (by omega)];exact JD _
   obtain⟨h0,h1⟩:=ae _ hm;have h2:c.getD i 0=((c.getD i 0).toNat:Int):=by omega
   rw[h2];have:=sP (c.getD i 0).toNat W (by omega);rwa [Jm]
  have ak:Hid (∀ i,i<D->unB (c.take (i+1))=unB (c.take i)++be 2 (c.getD i 0).toNat):=λi hi=>by
   rw[<-ut];congr 1
   rw[Mg,IU,IV (by omega)];rfl
  have al:Hid (c.take D=c):=by unfold Hid;rw[<-af];exact JM
  have ai:Hid (∀ i,(unB (c.take i)).length<=200):=λi=>by rw[mP,Jv];omega
  have J:Hid ((unB c).length<=200):=by unfold Hid;rw[mP];omega
  clear HN ax af ae z B t kz zs F ag O A;have aA:=(o.out _ (Kp.refl _)).1;go_wp2_with fail;clear aA c0;go_loopw[4,5] (λv x wr=>∃ i:Nat,i<=D/\x=.int .i64 (i:Int)/\Ow 5 wr w7.heap.size v (unB (c.take i))/\Kp w7 wr) (λ_ x _=>(D - (intOf x).toNat))
  case atStart=>exact⟨0,Jl _,rfl,by rw[Lq];exact Ow.nil _ _ _,Kp.refl _⟩
  case round=>
   obtain⟨i,hi,rfl,ho,l⟩:=hrel;have aE:=(o.out _ l).1;by_cases G:i<D
   ·obtain⟨gu,ou,rfl,_,aq⟩:=(o.out _ l).2.at i G
    have aD:=aq i G;have i1:IntKind.i64.wrap ((i:Int)+1)=(i:Int)+1:=IW _ (by omega);have i3:(i:Int)<(D:Int):=by omega
    have aB:=Lib.hid (HT.out i wr G);have Z:=Lib.hid (ak.out i G);have KR:=Lib.hid l;have HO:=Lib.hid ho;have ao:=ai.out i;generalize c.getD i 0=X at *;obtain⟨UB,ar⟩:∃ UB,unB (c.take i)=UB:=⟨_,rfl⟩;rw[ar] at HO Z ao;clear aq l ho HT ak ar ai J al o;go_wp2_with fail;refine aB.out.mono ?_;rintro _ w8 ⟨⟨r8,rfl,o8⟩,k8⟩;go_wp2_with(at_builtin;refine bz U rfl _ _ rfl w7.heap.size _ UB rfl (HO.out.kp k8) _ _ rfl o8.rd (by rw[bl];omega) (KR.out.trans k8).size ?_;intro v9 w9 o9 g9 _;have K9:=Lib.hid (Kp.grown (KR.out.trans k8) g9 HO.out.own_ge))
    go_roundw
    case rel=>exact⟨i+1,by omega,by go_num,by rw[Z.out];exact o9,K9.out⟩
    case measure=>simp[intOf];omega
   ·obtain rfl:i=D:=by omega
    rw[al.out] at ho;have KR:=Lib.hid l;have HR:=Lib.hid (il _ (unB c) wr ho.rd);have lr:=ff (x:=unB c) (by have:=J.out;omega);have lu:=J.out;have lL:=aC.out;have ao:¬(i:Int)<(i:Int):=by omega
    obtain⟨av,nv,cv,rfl⟩:=qa ho.rd;have ay:=o7.kp l;clear l ho HT ak ai J al o;go_wp2_with fail;refine HR.out.mono ?_;rintro _ w8 ⟨⟨r8,rfl,o8⟩,k8⟩;have am:=ay.kp k8;go_wp2_with(at_builtin;refine bz U rfl _ _ rfl b.heap.size _ L7 rfl am _ _ rfl o8.rd (by omega) ((E.out.trans KR.out).trans k8).size ?_;intro v9 w9 o9 g9 _;have K9:=Lib.hid (Kp.grown ((E.out.trans KR.out).trans k8) g9 am.own_ge))
    go_ret;exact⟨⟨_,rfl,o9.mono aw.out.2⟩,aw.out.1.trans K9.out⟩

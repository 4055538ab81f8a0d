import Derived.Test.YthmhklmkgkfcpaaGreatDoorX7
import Derived.Maps.AppendAt
set_option linter.all false
set_option maxHeartbeats 8000000
set_option maxRecDepth 100000
namespace Go.Proofs.YthmhklmkgkfcpaaGreatDoor
open Go.Proofs.Tryz Go.RowKit
variable {v:Value}{w:World}
theorem Ca (z u:Value)(c:List Value)(m:Nat):(List.replicate (m+1) z++c).set m u=List.replicate m z++u :: c:=by
 rw[List.set_append_left _ _ (by simp),Nc,MR _ _ (by simp)];simp
theorem vm (n:Int)(k:Nat)(w:World)(G:0<=n)(K:1<=k)(J:k<=7):
  Calls prog 135 #[.int .i64 n,.int .i64 k] w λe w'=>∃ v,e=.returned v/\Ow 5 w' w.heap.size v (be k n.toNat)/\Kp w w':=by
 obtain⟨A,E,l,h,g⟩:=info_parts Og;obtain⟨n,rfl⟩:=Kc G;rw[JX];go_enter func135,ntmps135;go_wp2_with(at_make;refine wpList_make_full _ rfl _ _ 24 rfl w.heap.size 5 A (.int .u8 0) 1 underlying24 E l h _ _ _ _ k rfl rfl rfl rfl ?b1 ?b2 ?b3 ?_)
 case b1=>rw[g];omega
 case b2=>unfold maxLen;omega
 case b3=>exact JO _
 intro z a f;rw[toList_madeCells_one] at a;generalize y:w.heap.size=B at *;have r:=JE y;clear y;have o:Below B w z:=Below.grown (Below.refl B w) f (by rw[r.out];exact JO _) (by simp);clear f;go_wp2;go_loopw[0,6] (λx i wr=>∃ j:Nat,j<=k/\i=.int .i64 ((j:Int) - 1)/\x=.int .i64 ((n / 256 ^ (k - j):Nat):Int)/\wr.ownsRow B 5 1 (.slice (some ⟨B,0,none⟩) k k) k (List.replicate j (.int .u8 0)++Lib.byteCells (be (k - j) n))/\Below B w wr) (λ_ i _=>(intOf i+1).toNat)
 case atStart=>exact⟨k,JO _,rfl,by simp,by simpa [be,Lib.byteCells] using a,o⟩
 case round=>
  obtain⟨j,I,rfl,rfl,a,b⟩:=hrel;cases j with
  | zero=>
   go_wp2;go_ret;refine⟨_,rfl,?_,b.mono (by rw[r.out];exact JO _)⟩;have D:(be k n).length=k:=bq _ _;unfold Ow;rw[r.out,D];simpa using a
  | succ j=>
   have p:wr.cell? ⟨B,j,none⟩=some (.int .u8 0):=by
    rw[a.cellAt j (by omega),Kt (by simp)];simp
   have F:=a.frozenAt j;rw[show((j+1:Nat):Int) - 1=j from by omega];generalize u:n / 256 ^ (k - (j+1))=X at *;have H:=JE u;clear u;have c:=JE a;clear a;go_wp2;go_roundw
   case rel=>
    obtain⟨t,C⟩:∃ t,t=k - (j+1):=⟨_,rfl⟩;have m:=H.out;have s:=c.out;rw[<-C] at m s;have d:k - j=t+1:=by omega
    refine⟨j,by omega,rfl,?_,?_,b.setCell (JO _) _⟩
    ·rw[d,MH,<-Lw,m];rfl
    ·have q:=(s.stored j (.int .u8 ((X:Int) % 256))).1
     rw[Ca] at q;rw[d,jc,m];have e:Value.int .u8 ((X:Int) % 256)=.int .u8 ((UInt8.ofNat X).toNat:Int):=by simp
     rw[e] at q ⊢;exact q
   case measure=>simp[intOf]
theorem pm (x:Int)(w:World):
  Calls prog 134 #[.int .i64 x] w λe w'=>e=.returned (.bool (decide (1<=x/\x<=7)))/\w=w':=by
 by_cases a:1<=x
 ·have e:decide (1<=x/\x<=7)=decide (x<=7):=by simp[a]
  rw[e];go_enter func134,ntmps134;go_wp2;go_ret;exact⟨rfl,rfl⟩
 ·have e:decide (1<=x/\x<=7)=false:=by simp[a]
  go_enter func134,ntmps134;go_wp2;go_ret;exact⟨by simp,rfl⟩
theorem vn (k:Nat):(2:Int) ^ (8*k)=((256 ^ k:Nat):Int):=by
 rw[Nat.pow_mul' 2 8 k |> λ_=>show(256:Nat) ^ k=2 ^ (8*k) from by rw[Nat.pow_mul]];push_cast;rfl
theorem lE (n k:Nat):(n:Int)<256 ^ (k:Int).toNat↔n<256 ^ k:=by
 rw[JX,<-Int.ofNat_lt,No];rfl
theorem Cb (n k:Nat)(h:n<256 ^ k):((n:Int) / 2 ^ (8*k) != 0)=false:=by
 rw[vn,<-Nz,Mu h];rfl
theorem Cc (n k:Nat)(h:¬n<256 ^ k):((n:Int) / 2 ^ (8*k) != 0)=true:=by
 rw[vn,<-Nz,Lt];have:0<n / 256 ^ k:=Nat.div_pos (by omega) (Nat.pos_of_ne_zero (by simp));omega
theorem kr (n k:Int)(w:World)(s:-9223372036854775808<=n/\n<=9223372036854775807):
  Calls prog 100 #[.int .i64 n,.int .i64 k] w λe w'=>∃ v,e=.returned (.tuple #[v,.int .i64 (jh n k)])/\Ow 5 w' w.heap.size v (fy n k)/\Kp w w':=by
 by_cases d:1<=k/\k<=7
 ·have p:decide (1<=k/\k<=7)=true:=by simp[d]
  obtain⟨g,f⟩:=d;by_cases l:n<0
  ·obtain⟨b,a⟩:=ln (n:=n) (w:=k) (by unfold eQ;omega)
   rw[b,a];have o:decide (n<0)=true:=by simp[l]
   go_enter func100,ntmps100;go_wp2_with(go_at_call 134;refine(pm _ _).mono ?_;rintro e w' ⟨rfl,rfl⟩)
   go_ret2;exact⟨_,rfl,NR _ _ _,NQ _⟩
  ·obtain⟨n,rfl⟩:=Kc (show 0<=n by omega)
   obtain⟨k,rfl⟩:=Kc (show 0<=k by omega);have o:decide ((n:Int)<0)=false:=by simp
   by_cases c:n<256 ^ k
   ·obtain⟨b,a⟩:=iJ (n:=n) (w:=k) ⟨g,f,by omega,(lE n k).2 c⟩
    have r:=JE b;have q:=JE a;have m:=Cb n k c;clear b a c;go_enter func100,ntmps100;go_wp2_with(first|(go_at_call 134;refine(pm _ _).mono ?_;rintro e w' ⟨rfl,rfl⟩)|(go_at_call 135;refine(vm _ _ _ (by omega) (by omega) (by omega)).mono ?_;rintro e w' ⟨v,rfl,i,j⟩))
    go_ret2;rw[r.out,q.out];exact⟨_,rfl,by simpa using i,j⟩
   ·obtain⟨b,a⟩:=ln (n:=n) (w:=k) (λh=>c ((lE n k).1 h.2.2.2))
    rw[b,a];have m:=Cc n k c;clear b a c;go_enter func100,ntmps100;go_wp2_with(first|(go_at_call 134;refine(pm _ _).mono ?_;rintro e w' ⟨rfl,rfl⟩))
    go_ret2;exact⟨_,rfl,NR _ _ _,NQ _⟩
 ·have p:decide (1<=k/\k<=7)=false:=by simp[d]
  obtain⟨b,a⟩:=ln (n:=n) (w:=k) (by unfold eQ;omega);rw[b,a];go_enter func100,ntmps100;go_wp2_with(go_at_call 134;refine(pm _ _).mono ?_;rintro e w' ⟨rfl,rfl⟩)
  go_ret2;exact⟨_,rfl,NR _ _ _,NQ _⟩
theorem rF (k:Int)(w:World)(h:k<=7):
  Calls prog 110 #[.int .i64 k] w λe w'=>e=.returned (.int .i64 (pw k.toNat))/\w=w':=by
 by_cases c:0<=k
 ·obtain⟨k,rfl⟩:=Kc c
  rw[JX];go_enter func110,ntmps110;go_wp2;go_loop [3,4] (λn i=>∃ j:Nat,j<=k/\i=.int .i64 j/\n=.int .i64 (pw j)) (λ_ i=>k - (intOf i).toNat)
  case atStart=>exact⟨0,JW _,rfl,rfl⟩
  case round=>
   obtain⟨j,d,rfl,rfl⟩:=hrel;by_cases b:j<k
   ·have f:=zI j (by omega)
    have a:=JE (tB j);go_wp2;go_round
    case rel=>exact⟨j+1,by omega,by go_num,by rw[a.out];go_num⟩
    case measure=>simp[intOf];omega
   ·go_wp2
    go_ret;have:j=k:=by omega
    subst this;exact⟨rfl,rfl⟩
 ·have e:k.toNat=0:=by omega
  rw[e];go_enter func110,ntmps110;go_wp2;refine wp_loop_rounds 1 ?_;rw[rounds_succ];go_wp2;go_ret;exact⟨rfl,rfl⟩
theorem Ci (k t n:Nat)(h:t<k):be (k - t) (n / pw t)=be (k - (t+1)) (n / pw (t+1))++[UInt8.ofNat (n / pw t)]:=by
 obtain⟨m,rfl⟩:∃ m,k=t+1+m:=⟨k - (t+1),by omega⟩;rw[show t+1+m - t=m+1 from by omega,show t+1+m - (t+1)=m from by omega,be,tB,Me 256,<-Lw]
theorem rG (n k:Int)(w:World)(R:-9223372036854775808<=n/\n<=9223372036854775807):
  Calls prog 62 #[.int .i64 n,.int .i64 k] w λe w'=>∃ v,e=.returned (.tuple #[v,.int .i64 (jh n k)])/\Ow 5 w' w.heap.size v (fy n k)/\Kp w w':=by
 have U:=aj;by_cases f:eQ n k
 ·obtain⟨j,g⟩:=iJ f
  have M:=JE j;have L:=JE g;clear j g;obtain⟨O,E,D,d⟩:=f;obtain⟨n,rfl⟩:=Kc D;obtain⟨k,rfl⟩:=Kc (show 0<=k by omega);have s:n<pw k:=(lE n k).1 d;clear d;have G:decide (pw k<=n)=false:=by simp;omega
  generalize m:w.heap.size=B at *;have A:=JE m;clear m;go_enter func62,ntmps62;go_wp2_with(go_at_call 110;refine(rF _ _ E).mono ?_;rintro e w' ⟨rfl,rfl⟩;rw[JX])
  go_loopw[6,7] (λv i wr=>∃ t:Nat,t<=k/\i=.int .i64 ((t:Int) - 1)/\Ow 5 wr B v (be (k - t) (n / pw t))/\Below B w wr) (λ_ i _=>(intOf i+1).toNat)
  case atStart=>exact⟨k,JO _,rfl,by rw[Mq];exact NR _ _ _,Below.refl _ _⟩
  case round=>
   obtain⟨t,P,rfl,a,b⟩:=hrel;cases t with
   | zero=>
    go_wp2_with fail;go_ret2;rw[M.out,L.out];exact⟨_,rfl,by simpa [pw] using a,b.mono (by rw[A.out];exact JO _)⟩
   | succ t=>
    rw[show((t+1:Nat):Int) - 1=t from by omega];have Q:=zH t;have T:=zJ t (by omega);have m:=b.size;have r:B<=wr.heap.size:=by rw[<-A.out];exact m
    obtain⟨q,l⟩:∃ q:Nat,q=n / pw t:=⟨_,rfl⟩;have F:q<=n:=by rw[l];exact Nm _ _
    have S:(n:Int) / (pw t:Int)=(q:Int):=by rw[l];rfl
    have K:=JE l;clear l;go_wp2_with(first
     | (go_at_call 110;refine(rF _ _ (by omega)).mono ?_;rintro e w' ⟨rfl,rfl⟩;rw[JX])
     | (at_builtin;refine bw U rfl _ _ rfl B _ _ rfl (a.kp ((NQ _).alloc _)) _ [UInt8.ofNat q] rfl ?c1 ?c2 ?c3 ?_))
    case c1=>exact Rd.box _ _ _ _ (by simp)
    case c2=>rw[bq];simp;omega
    case c3=>simp;omega
    intro N C c u _;have p:Below B w C:=Below.grown' (b.alloc r _) u (by simp;omega) (a.kp ((NQ _).alloc _));clear u a;go_wp2;go_roundw
    case rel=>exact⟨t,by omega,rfl,by rw[Ci k t n (by omega),<-K.out];exact c,p⟩
    case measure=>simp[intOf]
 ·obtain⟨j,g⟩:=ln f
  rw[j,g];clear j g;by_cases z:k<1
  ·have J:decide (k<1)=true:=by simp[z]
   go_enter func62,ntmps62;go_wp2_with fail;go_ret2;exact⟨_,rfl,NR _ _ _,NQ _⟩
  ·have J:decide (k<1)=false:=by simp[z]
   by_cases y:7<k
   ·have I:decide (7<k)=true:=by simp[y]
    go_enter func62,ntmps62;go_wp2_with fail;go_ret2;exact⟨_,rfl,NR _ _ _,NQ _⟩
   ·have I:decide (7<k)=false:=by simp[y]
    by_cases x:n<0
    ·have H:decide (n<0)=true:=by simp[x]
     go_enter func62,ntmps62;go_wp2_with fail;go_ret2;exact⟨_,rfl,NR _ _ _,NQ _⟩
    ·have H:decide (n<0)=false:=by simp[x]
     obtain⟨n,rfl⟩:=Kc (show 0<=n by omega);obtain⟨k,rfl⟩:=Kc (show 0<=k by omega);have o:pw k<=n:=by
      rcases Nat.lt_or_ge n (pw k) with h|h
      ·exact absurd ⟨by omega,by omega,by omega,(lE n k).2 h⟩ f
      ·exact h
     have V:decide (pw k<=n)=true:=by simp[o]
     clear f;go_enter func62,ntmps62;go_wp2_with(go_at_call 110;refine(rF _ _ (by omega)).mono ?_;rintro e w' ⟨rfl,rfl⟩;rw[JX])
     go_ret2;exact⟨_,rfl,NR _ _ _,NQ _⟩
theorem Cj (n:Int)(w:World)(h:n<64):
  Calls prog 195 #[.int .i64 n] w λe w'=>e=.returned (.int .i64 0)/\w=w':=by
 go_enter func195,ntmps195;go_wp2;go_ret;exact⟨rfl,rfl⟩
theorem Ck (n:Int)(w:World)(a:64<=n)(h:n<16384):
  Calls prog 195 #[.int .i64 n] w λe w'=>e=.returned (.int .i64 1)/\w=w':=by
 go_enter func195,ntmps195;go_wp2;go_ret;exact⟨rfl,rfl⟩
theorem Cl (n:Int)(w:World)(a:16384<=n):
  Calls prog 195 #[.int .i64 n] w λe w'=>e=.returned (.int .i64 2)/\w=w':=by
 go_enter func195,ntmps195;go_wp2;go_ret;exact⟨rfl,rfl⟩
theorem rH (x m:Int)(b:0<=x)(d:x<64)(c:m=0\/m=64\/m=128):bits .or .u8 x m=x+m:=by
 have a:bits .or .u8 x m=bits .or .u8 m x:=by simp only[bits,BitVec.or_comm]
 rw[a,bits_join .u8 8 (by decide) wraps_u8 6 m x (by omega) (by omega) (by omega) b (by omega) (by omega)];omega
theorem Cm (k n m:Nat)(h:n / 256 ^ k+m<256):be (k+1) (n+m*256 ^ k)=UInt8.ofNat (n / 256 ^ k+m) :: be k n:=by
 rw[jc,Nat.add_mul_div_right _ _ (Nat.pow_pos (by decide))];congr 1
 have a:∀ k n m,be k (n+m*256 ^ k)=be k n:=by
  intro k;induction k with
  | zero=>intro n m;rfl
  | succ k ih=>
   intro n m;rw[be,be,show n+m*256 ^ (k+1)=n+256*(m*256 ^ k) from by rw[MH,<-My,Me 256],
    Nat.add_mul_div_left _ _ (by decide),ih]
   congr 2
   apply UInt8.toNat_inj.1;simp
 exact a k n m
theorem Ow.set0 {B:Nat}{a n':Nat}(h:Ow 5 w B v (be a n'))(k n m:Nat)(b:n / 256 ^ k+m<256)(j:a=k+1:=by rfl)(i:n'=n:=by first|rfl|simp):
  ∃ g c,v=.slice (some ⟨g,0,none⟩) (k+1) c/\B<=g/\w.cell? ⟨g,0,none⟩=some (.int .u8 ((n / 256 ^ k:Nat):Int))/\w.frozen? ⟨g,0,none⟩=false /\
   Ow 5 (w.setCell ⟨g,0,none⟩ (.int .u8 ((n / 256 ^ k+m:Nat):Int))) B v (be (k+1) (n+m*256 ^ k)):=by
 subst j i;rcases h.shape with⟨_,h0⟩|⟨g,c,rfl,hg,_,hc,hcm⟩
 ·have:=congrArg List.length h0
  rw[bq] at this;simp at this
 ·have d:(be (k+1) n').length=k+1:=bq _ _
  refine⟨g,c,by rw[d],hg,?_,h.frozenAt 0,?_⟩
  ·rw[h.cellAt 0 (by rw[d];omega),jc]
   have:n' / 256 ^ k % 256=n' / 256 ^ k:=Lo (by omega);simp[Lib.byteCells,this]
  ·have f:=(h.stored 0 (.int .u8 ((n' / 256 ^ k+m:Nat):Int))).1
   unfold Ow;rw[bq,Cm k n' m b];rw[bq,jc] at f;generalize n' / 256 ^ k=q at *;have:(q+m) % 256=q+m:=Lo b;have e:Lib.byteCells (UInt8.ofNat (q+m) :: be k n')=(Lib.byteCells (UInt8.ofNat q :: be k n')).set 0 (.int .u8 ((q+m:Nat):Int)):=by
    simp only[Lib.byteCells,List.map_cons,JM,Mb,Nat.reducePow,this]
   rw[e,Ka,bq];exact f
theorem rI (n k:Int)(w:World)(a:0<=n)(c:1<=k)(b:k<=7):
  Calls prog 135 #[.int .i64 n,.int .i64 k] w λe w'=>∃ v,e=.returned v/\Ow 5 w' w.heap.size v (be k.toNat n.toNat)/\Kp w w':=by
 obtain⟨k,rfl⟩:=Kc (show 0<=k by omega);exact vm n k w a (by omega) (by omega)
theorem rJ (n:Int)(w:World):
  Calls prog 167 #[.int .i64 n] w λe w'=>∃ v,e=.returned (.tuple #[v,.int .i64 (fd n)])/\Ow 5 w' w.heap.size v (dT n)/\Kp w w':=by
 by_cases q:n<0
 ·have u:decide (n<0)=true:=by simp[q]
  have d:fd n=1:=if_pos (.inl q);have f:dT n=[]:=by simp[dT,d]
  rw[d,f];clear d f;go_enter func167,ntmps167;go_wp2_with fail;go_ret2;exact⟨_,rfl,NR _ _ _,NQ _⟩
 ·have u:decide (n<0)=false:=by simp[q]
  by_cases p:1073741823<n
  ·have t:decide (1073741823<n)=true:=by simp[p]
   have d:fd n=1:=if_pos (.inr p);have f:dT n=[]:=by simp[dT,d]
   rw[d,f];clear d f;go_enter func167,ntmps167;go_wp2_with fail;go_ret2;exact⟨_,rfl,NR _ _ _,NQ _⟩
  ·have t:decide (1073741823<n)=false:=by simp[p]
   obtain⟨n,rfl⟩:=Kc (show 0<=n by omega);have d:fd n=0:=if_neg (by omega);have f:dT n=cV n:=by simp[dT,d]
   rw[d,f];clear d f;by_cases o:n<64
   ·have m:Hid (cV n=be 1 (n+0*256 ^ 0)):=by show cV n=be 1 (n+0*256 ^ 0);simp[cV,o]
    have h:bits .or .u8 (n:Int) 0=n:=by rw[rH _ _ (by omega) (by omega) (by omega)];omega
    go_enter func167,ntmps167;go_wp2_with(first|(go_at_call 195;refine(Cj _ _ (by omega)).mono ?_;rintro e w' ⟨rfl,rfl⟩)|(go_at_call 135;refine(rI _ 1 _ (by omega) (by omega) (by omega)).mono ?_;rintro e r ⟨v,rfl,i,j⟩;obtain⟨g,c,rfl,k,a,l,b⟩:=i.set0 0 n 0 (by simp;omega);simp at a))
    go_ret2;refine⟨_,rfl,?_,Below.setCell j k _⟩;rw[m.out];simpa using b
   ·by_cases s:n<16384
    ·have m:Hid (cV n=be 2 (n+64*256 ^ 1)):=by show cV n=be 2 (n+64*256 ^ 1);simp[cV,o,s]
     have h:bits .or .u8 ((n:Int) / 256) 64=(n:Int) / 256+64:=rH _ _ (by omega) (by omega) (by omega);go_enter func167,ntmps167;go_wp2_with(first|(go_at_call 195;refine(Ck _ _ (by omega) (by omega)).mono ?_;rintro e w' ⟨rfl,rfl⟩)|(go_at_call 135;refine(rI _ 2 _ (by omega) (by omega) (by omega)).mono ?_;rintro e r ⟨v,rfl,i,j⟩;obtain⟨g,c,rfl,k,a,l,b⟩:=i.set0 1 n 64 (by omega);simp at a))
     go_ret2;refine⟨_,rfl,?_,Below.setCell j k _⟩;rw[m.out];simpa using b
    ·have m:Hid (cV n=be 4 (n+128*256 ^ 3)):=by show cV n=be 4 (n+128*256 ^ 3);simp[cV,o,s]
     have h:bits .or .u8 ((n:Int) / 16777216) 128=(n:Int) / 16777216+128:=rH _ _ (by omega) (by omega) (by omega);go_enter func167,ntmps167;go_wp2_with(first|(go_at_call 195;refine(Cl _ _ (by omega)).mono ?_;rintro e w' ⟨rfl,rfl⟩)|(go_at_call 135;refine(rI _ 4 _ (by omega) (by omega) (by omega)).mono ?_;rintro e r ⟨v,rfl,i,j⟩;obtain⟨g,c,rfl,k,a,l,b⟩:=i.set0 3 n 128 (by omega);simp at a))
     go_ret2;refine⟨_,rfl,?_,Below.setCell j k _⟩;rw[m.out];simpa using b
def TL (l:List UInt8)(at':Int)(w:World)(e:Ending)(w':World):Prop:=
 e=.returned (.tuple #[.int .i64 (tlN l at'),.int .i64 (tlP l at'),.int .i64 (tlE l at')])/\Kp w w'
theorem vH (n:Int)(w:World):
  Calls prog 150 #[.int .i64 n] w λe w'=>∃ v,e=.returned (.tuple #[v,.int .i64 (fd n)])/\Ow 5 w' w.heap.size v (dT n)/\Kp w w':=by
 by_cases d:n<0
 ·have l:decide (n<0)=true:=by simp[d]
  have a:fd n=1:=if_pos (.inl d);have b:dT n=[]:=by simp[dT,a]
  rw[a,b];clear a b;go_enter func150,ntmps150;go_wp2_with fail;go_ret2;exact⟨_,rfl,NR _ _ _,NQ _⟩
 ·have l:decide (n<0)=false:=by simp[d]
  by_cases c:1073741823<n
  ·have k:decide (1073741823<n)=true:=by simp[c]
   have a:fd n=1:=if_pos (.inr c);have b:dT n=[]:=by simp[dT,a]
   rw[a,b];clear a b;go_enter func150,ntmps150;go_wp2_with fail;go_ret2;exact⟨_,rfl,NR _ _ _,NQ _⟩
  ·have k:decide (1073741823<n)=false:=by simp[c]
   obtain⟨n,rfl⟩:=Kc (show 0<=n by omega);have a:fd n=0:=if_neg (by omega);have b:dT n=cV n:=by simp[dT,a]
   rw[a,b];clear a b;by_cases h:n<64
   ·have f:=JE (show cV n=be 1 n by simp[cV,h])
    go_enter func150,ntmps150;go_wp2_with fail;go_ret2;rw[f.out];exact⟨_,rfl,NT w _ _ _ _ _ (JO _) rfl (by omega) (by simp[Lib.byteCells,be];omega),(NQ _).alloc _⟩
   ·by_cases i:n<16384
    ·have f:=JE (show cV n=be 2 (n+16384) by simp[cV,h,i])
     go_enter func150,ntmps150;go_wp2_with fail;go_ret2;rw[f.out];refine⟨_,rfl,NT w _ _ _ _ _ (JO _) rfl (by omega) ?_,(NQ _).alloc _⟩;simp[Lib.byteCells,be];omega
    ·have f:=JE (show cV n=be 4 (n+2147483648) by simp[cV,h,i])
     have m:=JE (iJ (n:=(2147483648+n:Int)) (w:=4) ⟨by omega,by omega,by omega,by rw[show(256:Int) ^ (4:Int).toNat=4294967296 from by decide];omega⟩);go_enter func150,ntmps150;go_wp2_with(go_at_call 62;refine(rG _ _ _ (by omega)).mono ?_;rintro e w' ⟨v,rfl,g,j⟩;obtain⟨d,c⟩:=m.out;rw[d];rw[c] at g;clear d c)
     go_ret2;rw[f.out];refine⟨_,rfl,?_,j⟩;rw[show(2147483648+(n:Int)).toNat=n+2147483648 from by omega] at g;exact g
theorem ks (n:Nat):(cV n).length<=4:=by
 unfold cV;split
 ·rw[bq];omega
 ·split <;> (rw[bq];omega)
theorem rK (v:Value)(l:List UInt8)(w:World)(h:Rd w v l):
  Calls prog 166 #[v] w λe w'=>∃ u,e=.returned (.tuple #[u,.int .i64 (iI l)])/\Ow 5 w' w.heap.size u (aO l)/\Kp w w':=by
 have U:=aj;obtain⟨a,c,rfl,s,r⟩:=h.shape;by_cases t:1073741823<l.length
 ·have b:fd l.length=1:=if_pos (.inr (by omega))
  have d:iI l=1:=b;have g:aO l=[]:=by simp[aO,d]
  rw[d,g];have k:=JE b;clear b d g;go_enter func166,ntmps166;go_wp2_with(go_at_call 167;refine(rJ _ _).mono ?_;rintro e n ⟨u,rfl,i,f⟩;rw[k.out])
  go_ret2;exact⟨_,rfl,NR _ _ _,f⟩
 ·have b:fd l.length=0:=if_neg (by omega)
  have d:iI l=0:=b;have g:aO l=cV l.length++l:=by simp[aO,d]
  have m:dT l.length=cV l.length:=by simp[dT,b]
  rw[d,g];have k:=JE b;have p:=JE m;clear b d g m;go_enter func166,ntmps166;go_wp2_with(first
   | (go_at_call 167;refine(rJ _ _).mono ?_;rintro e n ⟨u,rfl,i,f⟩;rw[k.out];rw[p.out] at i)
   | (at_builtin;refine bw U rfl _ _ rfl w.heap.size _ _ rfl i _ l rfl (h.kp f) ?c1 f.size ?_;rotate_right;intro q w2 j o _))
  case c1=>have:=ks l.length;omega
  go_ret2;exact⟨_,rfl,j,NS f o i.own_ge⟩
theorem pn (v:Value)(l:List UInt8)(w:World)(h:Rd w v l):
  Calls prog 111 #[v] w λe w'=>∃ u,e=.returned (.tuple #[u,.int .i64 (iI l)])/\Ow 5 w' w.heap.size u (aO l)/\Kp w w':=by
 have U:=aj;obtain⟨a,c,rfl,s,r⟩:=h.shape;by_cases t:1073741823<l.length
 ·have b:fd l.length=1:=if_pos (.inr (by omega))
  have d:iI l=1:=b;have g:aO l=[]:=by simp[aO,d]
  rw[d,g];have k:=JE b;clear b d g;go_enter func111,ntmps111;go_wp2_with(go_at_call 150;refine(vH _ _).mono ?_;rintro e n ⟨u,rfl,i,f⟩;rw[k.out])
  go_ret2;exact⟨_,rfl,NR _ _ _,f⟩
 ·have b:fd l.length=0:=if_neg (by omega)
  have d:iI l=0:=b;have g:aO l=cV l.length++l:=by simp[aO,d]
  have m:dT l.length=cV l.length:=by simp[dT,b]
  rw[d,g];have k:=JE b;have p:=JE m;clear b d g m;go_enter func111,ntmps111;go_wp2_with(first
   | (go_at_call 150;refine(vH _ _).mono ?_;rintro e n ⟨u,rfl,i,f⟩;rw[k.out];rw[p.out] at i)
   | (at_builtin;refine bw U rfl _ _ rfl w.heap.size _ _ rfl i _ l rfl (h.kp f) ?c1 f.size ?_;rotate_right;intro q w2 j o _))
  case c1=>have:=ks l.length;omega
  go_ret2;exact⟨_,rfl,j,NS f o i.own_ge⟩
theorem But.wr {g:Nat}{A B:World}(h:But g A B):Wr g A B:=by
 have a:=h.below (Below.refl 0 A) (JW g);exact⟨a.os,a.tape,a.output,by rw[h.size];exact JO _,λk _ b=>h.other k b⟩
theorem Rd.nil5 (w:World):Rd w (.slice none 0 0) []:=⟨none,0,rfl,JO _,JW _,λ_=>rfl,λx a=>by cases a⟩
theorem yr (u1 u2 u3:Value)(key a b:List UInt8)(w:World)(al:Rd w u1 key)(ak:Rd w u2 a)(ai:Rd w u3 b)(aL:b.length<=1000000):
  Calls prog 173 #[u1,u2,u3] w λe w'=>(∃ r,e=.returned (.tuple #[r,.int .i64 (jq key a)])/\Rd w' r (jr key a b))/\Kp w w':=by
 have U:=aj;obtain⟨a1,c1,rfl,h1,h2⟩:=al.shape;obtain⟨a2,c2,rfl,h3,h4⟩:=ak.shape;obtain⟨a3,c3,rfl,h5,h6⟩:=ai.shape;by_cases t:key.length=16
 ·by_cases hn:a.length=12
  ·have e0:jq key a=0:=if_pos ⟨t,hn⟩
   have r0:jr key a b=bN (cU key) a b:=if_pos ⟨t,hn⟩;rw[e0,r0];have a5:=JE (nJ t);have az:Hid (∀ W,Kp w W->Calls prog 205 #[.slice a1 key.length c1] W λe w'=>(∃ gc bx,e=.returned (.pointer (some ⟨gc,0,none⟩))/\Cph w' gc bx (cU key)/\W.heap.size<=gc/\W.heap.size<=bx)/\Kp W w'):=λW hW=>FO _ key W (al.kp hW) t
   rw[t] at az h1 ⊢;have aU:=JE ai;have aV:=JE ak;rw[hn] at aV h3 ⊢;have HN:=JE hn;obtain⟨d,J⟩:∃ n,b.length=n:=⟨_,rfl⟩;rw[J] at aU h5 aL ⊢;have E:=JE J;generalize cU key=K at *;clear al ak ai e0 r0 t hn J;go_enter func173,ntmps173;go_wp2_with fail;refine(az.out w (NQ w)).mono ?_;rintro _ w1 ⟨⟨gc,bx,rfl,hC,a9,ba⟩,k1⟩;clear az;go_wp2_with(first
    | (refine pg U rfl (.tmp 26) (.tmp 27) rfl 231 w1.heap.size _ a (List.replicate 16 0) 16 16 rfl rfl (By.made _ _ _ _ rfl) (by decide) (aV.out.kp (k1.alloc _)) (by rw[HN.out];decide) ?_;intro w2 s O;have k2:Kp w1 w2:=O.below ((NQ w1).alloc _) (JO _);clear O)
    | (at_make;refine jk (z:=.int .u8 0) (b:=1) underlying24 Og rfl (by decide) rfl _ _ rfl d rfl rfl aL ?_;intro w3 ah;have aO:By 5 w3 w2.heap.size (List.replicate d 0):=(by rw[ah];exact By.fresh _ _ _);have k3:Kp w2 w3:=(by rw[ah];exact(NQ _).alloc _);clear ah)
    | (refine pg U rfl (.tmp 32) (.tmp 33) rfl 5 w2.heap.size _ b (List.replicate d 0) d d rfl rfl aO (by simp) (aU.out.kp ((k1.trans k2).trans k3)) (by rw[E.out];exact JO _) ?_;intro w4 aw N;have k4:Kp w2 w4:=N.below k3 (JO _);clear N aO k3))
   rw[E.out,MN (by simp),Lr] at aw;rw[HN.out] at s;have aH:gc<w1.heap.size:=Kl w1 _ hC.ptr;have aG:bx<w1.heap.size:=hC.box.lt;have ad:w1.heap.size<w2.heap.size:=s.lt;have aW:=k1.size;have aQ:=(hC.kp k2).kp k4;have ar:=s.kp k4;have aI:Kp w w4:=(k1.trans k2).trans k4;have o:=JE (ky K a b);have aR:Hid (∀ j,j<d->(bN K a b)[j]?=some (fN K a b j)):=λj hj=>CS K a b j (by rw[E.out];exact hj)
   have R:By 5 w4 w2.heap.size (aM b (bN K a b) (min (16*0) d)):=by
    rw[NJ,Nat.zero_min,show aM b (bN K a b) 0=b by simp[aM]];exact aw
   obtain⟨D,ae⟩:∃ g,w1.heap.size=g:=⟨_,rfl⟩;obtain⟨go,aK⟩:∃ g,w2.heap.size=g:=⟨_,rfl⟩;rw[ae] at aH aG ad aW ar ⊢;rw[aK] at ad R ⊢;clear ae aK aw s hC k1 k2 k4;have ag:Hid (∀ j,fN K a b j=b.getD j 0 ^^^ (eA K (dN a (j / 16))).getD (j % 16) 0):=λ_=>rfl
   have aS:Hid (∀ x,(eA K x).length=16):=rR K;go_loopw[11] (λp wr=>∃ (q:Nat) (y:List UInt8),16*q<=d+15/\p=.int .i64 (16*q:Nat)/\By 5 wr go (aM b (bN K a b) (min (16*q) d))/\y.length=4/\By 231 wr D (a++y)/\Cph wr gc bx K/\Kp w wr) (λp _=>d+16 - (intOf p).toNat)
   case atStart=>exact⟨0,_,by omega,rfl,R,by simp,ar,aQ,aI⟩
   case round=>
    clear R ar aQ aI;obtain⟨q,y,hq,rfl,l,hy,hS,hC,t⟩:=hrel;obtain⟨f,hf⟩:∃ f,16*q=f:=⟨_,rfl⟩;rw[hf] at hq l ⊢;by_cases a8:f<d
    ·have q1:(f:Int)<(d:Int):=by omega
     have e1:(f:Int).tdiv 16=(q:Int):=by rw[Kx (by omega)];omega
     have e2:(f:Int) / 16=(q:Int):=by omega
     have e3:IntKind.i64.wrap ((q:Int)+1)=(q:Int)+1:=JI _ (by omega);have e4:IntKind.i64.wrap (q:Int)=(q:Int):=JI _ (by omega);have am:eQ ((q:Int)+1) 4:=by
      unfold eQ;refine⟨by omega,by omega,by omega,?_⟩;show(q:Int)+1<4294967296
      omega
     have G:=kr ((q:Int)+1) 4 wr (by omega);rw[(iJ am).1,(iJ am).2,show((4:Int)).toNat=4 from rfl,show((q:Int)+1).toNat=q+1 by omega] at G;have af:=JE G;have aT:Hid ((a++y).take 12++(be 4 (q+1)++(a++y).drop (12+(be 4 (q+1)).length))=dN a q):=by
      unfold Hid dN;rw[bq,LW (by rw[HN.out];exact JO _),Ku (by rw[HN.out];exact JO _),MN (by rw[JQ,HN.out,hy];exact JO _),Lr]
     have aC:=JE (bq 4 (q+1));have aB:Hid ((dN a q).length=16):=by rw[Hid,we,HN.out]
     have a4:Hid ((a++y).length=16):=by rw[Hid,JQ,HN.out,hy]
     clear G am;go_wp2_with fail;refine af.out.mono ?_;rintro _ w5 ⟨v5,rfl,aD,k5⟩;have aN:=hS.kp k5;clear af;go_wp2_with(first
      | (refine CU U rfl (.tmp 51) (.tmp 52) rfl 231 D 12 v5 (be 4 (q+1)) (a++y) 4 4 rfl rfl aN aD.rd (by rw[aC.out];exact JO _) (by rw[aC.out];decide) (by rw[aC.out,a4.out];decide) ?_;intro w6 P M)
      | (refine qe underlying231 (by kernel_rfl) rfl (.tmp 9) rfl D (dN a q) rfl (by rw[<-aT.out];exact P) aB.out ?_)
      | (refine sS (by kernel_rfl) rfl rfl (.tmp 14) (.tmp 54) rfl w6.heap.size (List.replicate 16 0) (dN a q) rfl rfl (By.made _ _ _ _ rfl) (by decide) aB.out ?_;intro w7 ab L))
     rw[aT.out] at P;have S:=M.wr;have av:=S.by (l.kp k5) (by omega);have aP:=(hC.kp k5).wr S (by omega) (by omega);have ao:Kp w w6:=Below.trans (show Below w.heap.size w w5 from t.trans k5) (S.below (t.trans k5).size (by omega));have F:Kp w6 w7:=L.below ((NQ w6).alloc _) (JO _);have Z:=aP.kp F;have au:=av.kp F;have aq:=P.kp F;have T:=ao.trans F;have l1:D<w6.heap.size:=P.lt;have l2:go<w6.heap.size:=av.lt;have l3:=ao.size;obtain⟨gs,aJ⟩:∃ g,w6.heap.size=g:=⟨_,rfl⟩;rw[aJ] at ab l1 l2 l3 ⊢;clear M L S av aP P F aJ aN aD k5 hS hC l ao;refine(FT gc gs bx (dN a q) K w7 aB.out a5.out (by omega) (by omega) Z ab).mono ?_;rintro _ w8 ⟨rfl,aa,v⟩;have Q:=v.by au (by omega);have V:=v.by aq (by omega);have X:=Z.wr v (by omega) (by omega);have B:Kp w w8:=Below.trans (show Below w.heap.size w w7 from T) (v.below T.size (by omega));have aE:min f d=f:=by omega
     rw[aE] at Q;have i1:IntKind.i64.wrap ((d:Int) - (f:Int))=(d:Int) - (f:Int):=JI _ (by omega);clear aE;by_cases hd:16<=d - f
     ·have an:Hid (f+16=min (16*(q+1)) d):=by show f+16=min (16*(q+1)) d;omega
      have d1:(16:Int)<=(d:Int) - (f:Int):=by omega
      have aY:f+16<=d:=by omega
      clear hd;clear au Z aq ab v T t;go_wp2_with fail;go_loopw[62] (λp wr=>∃ i:Nat,i<=16/\p=.int .i64 i/\By 5 wr go (aM b (bN K a b) (f+i))/\Wr go w8 wr) (λp _=>16 - (intOf p).toNat)
      case atStart=>exact⟨0,by omega,rfl,Q,Wr.refl _ _⟩
      case round=>
       clear Q;obtain⟨i,hi,rfl,l,A⟩:=hrel;by_cases aF:i<16
       ·have qi:(i:Int)<(16:Int):=by omega
        obtain⟨j,hj⟩:∃ j,f+i=j:=⟨_,rfl⟩;have u:j<d:=by omega
        have H:(aM b (bN K a b) j).set j (fN K a b j)=aM b (bN K a b) (j+1):=io _ _ j (by rw[o.out]) (by rw[E.out];exact u) _ (aR.out j u);have I:(aM b (bN K a b) j).length=d:=by rw[fX _ _ j (by rw[o.out]) (by rw[E.out];omega),E.out]
        rw[hj] at l;have c0:=l.cell j (by rw[I];exact u);rw[qf _ _ j j (by rw[o.out]) (by rw[E.out];omega) (JO _)] at c0;have f0:=l.frozen j;have c1:=(A.by aa (by omega)).cell i (by rw[aS.out];omega);have hx:=cz (b.getD j 0) ((eA K (dN a q)).getD i 0);have k:=ag.out j;rw[show j / 16=q by omega,show j % 16=i by omega] at k;rw[<-k] at hx;have ay:=JE (show f+(i+1)=j+1 by omega);have u1:(f:Int)+(i:Int)=(j:Int):=by omega
        have u2:IntKind.i64.wrap (j:Int)=j:=JI _ (by omega);have u3:(j:Int)<(d:Int):=by omega
        have u4:(i:Int)<16:=by omega
        generalize fN K a b j=Y at *;generalize b.getD j 0=X1 at *;generalize (eA K (dN a q)).getD i 0=X2 at *;have aA:=JE H;clear H I hj k;go_wp2_with fail;go_region
        all_goals
         go_wp2_with fail;go_roundw
         case rel=>exact⟨i+1,by omega,by go_num,by rw[ay.out];exact l.set j _ aA.out,(A.setCell j _).drew⟩
         case measure=>simp[intOf];omega
       ·obtain rfl:i=16:=by omega
        have C:By 5 wr go (aM b (bN K a b) (min (16*(q+1)) d)):=by rw[<-an.out];exact l
        have s:By 231 wr D (a++be 4 (q+1)):=A.by V (by omega);have ax:=X.wr A (by omega) (by omega);have ap:Kp w wr:=Below.trans (show Below w.heap.size w w8 from B) (A.below B.size (by omega));have e9:IntKind.i64.wrap ((f:Int)+16)=((16*(q+1):Nat):Int):=by rw[JI _ (by omega)];omega
        have HF:=JE hf;clear l A aa V X B hf;go_wp2_with fail;go_roundw
        case rel=>exact⟨q+1,_,by have:=HF.out;omega,rfl,C,bq 4 (q+1),s,ax,ap⟩
        case measure=>have:=HF.out;simp[intOf];omega
     ·obtain⟨m,hm⟩:∃ m,d - f=m:=⟨_,rfl⟩
      have an:Hid (f+m=min (16*(q+1)) d):=by show f+m=min (16*(q+1)) d;omega
      have d0:(d:Int) - (f:Int)=(m:Int):=by omega
      have d1:¬(16:Int)<=(m:Int):=by omega
      have d2:IntKind.i64.wrap (m:Int)=m:=JI _ (by omega);have aY:f+m<=d:=by omega
      have a6:m<16:=by omega
      clear hd hm i1;clear au Z aq ab v T t;go_wp2_with fail;go_loopw[62] (λp wr=>∃ i:Nat,i<=m/\p=.int .i64 i/\By 5 wr go (aM b (bN K a b) (f+i))/\Wr go w8 wr) (λp _=>m - (intOf p).toNat)
      case atStart=>exact⟨0,by omega,rfl,Q,Wr.refl _ _⟩
      case round=>
       clear Q;obtain⟨i,hi,rfl,l,A⟩:=hrel;by_cases aF:i<m
       ·have qi:(i:Int)<(m:Int):=by omega
        obtain⟨j,hj⟩:∃ j,f+i=j:=⟨_,rfl⟩;have u:j<d:=by omega
        have H:(aM b (bN K a b) j).set j (fN K a b j)=aM b (bN K a b) (j+1):=io _ _ j (by rw[o.out]) (by rw[E.out];exact u) _ (aR.out j u);have I:(aM b (bN K a b) j).length=d:=by rw[fX _ _ j (by rw[o.out]) (by rw[E.out];omega),E.out]
        rw[hj] at l;have c0:=l.cell j (by rw[I];exact u);rw[qf _ _ j j (by rw[o.out]) (by rw[E.out];omega) (JO _)] at c0;have f0:=l.frozen j;have c1:=(A.by aa (by omega)).cell i (by rw[aS.out];omega);have hx:=cz (b.getD j 0) ((eA K (dN a q)).getD i 0);have k:=ag.out j;rw[show j / 16=q by omega,show j % 16=i by omega] at k;rw[<-k] at hx;have ay:=JE (show f+(i+1)=j+1 by omega);have u1:(f:Int)+(i:Int)=(j:Int):=by omega
        have u2:IntKind.i64.wrap (j:Int)=j:=JI _ (by omega);have u3:(j:Int)<(d:Int):=by omega
        have u4:(i:Int)<16:=by omega
        generalize fN K a b j=Y at *;generalize b.getD j 0=X1 at *;generalize (eA K (dN a q)).getD i 0=X2 at *;have aA:=JE H;clear H I hj k;go_wp2_with fail;go_region
        all_goals
         go_wp2_with fail;go_roundw
         case rel=>exact⟨i+1,by omega,by go_num,by rw[ay.out];exact l.set j _ aA.out,(A.setCell j _).drew⟩
         case measure=>simp[intOf];omega
       ·obtain rfl:i=m:=by omega
        have C:By 5 wr go (aM b (bN K a b) (min (16*(q+1)) d)):=by rw[<-an.out];exact l
        have s:By 231 wr D (a++be 4 (q+1)):=A.by V (by omega);have ax:=X.wr A (by omega) (by omega);have ap:Kp w wr:=Below.trans (show Below w.heap.size w w8 from B) (A.below B.size (by omega));have e9:IntKind.i64.wrap ((f:Int)+16)=((16*(q+1):Nat):Int):=by rw[JI _ (by omega)];omega
        have HF:=JE hf;clear l A aa V X B hf;go_wp2_with fail;go_roundw
        case rel=>exact⟨q+1,_,by have:=HF.out;omega,rfl,C,bq 4 (q+1),s,ax,ap⟩
        case measure=>have:=HF.out;simp[intOf];omega
    ·have C:By 5 wr go (bN K a b):=by
      rw[show min f d=d by omega] at l;have:=jG b (bN K a b) (by rw[o.out]);rw[o.out,E.out] at this;rw[this] at l;exact l
     have aX:=C.rdAll (n:=d) (c:=d) (by rw[o.out,E.out]) (JO _) (by unfold maxLen;omega);have a7:¬(f:Int)<(d:Int):=by omega
     clear l C hS hC;go_wp2_with fail;go_ret2;exact⟨⟨_,rfl,aX⟩,t⟩
  ·have e0:jq key a=1:=if_neg (λh=>hn h.2)
   have r0:jr key a b=[]:=if_neg (λh=>hn h.2);rw[e0,r0];have a0:((a.length:Int)==12)=false:=JL.2 (by omega);have aZ:¬(a.length:Int)=12:=by omega
   rw[t];go_enter func173,ntmps173;go_wp2_with fail;go_ret2;exact⟨⟨_,rfl,Rd.nil5 _⟩,NQ _⟩
 ·have e0:jq key a=1:=if_neg (λh=>t h.1)
  have r0:jr key a b=[]:=if_neg (λh=>t h.1);rw[e0,r0];have a0:((key.length:Int)==16)=false:=JL.2 (by omega);have aZ:¬(key.length:Int)=16:=by omega
  go_enter func173,ntmps173;go_wp2_with fail;go_ret2;exact⟨⟨_,rfl,Rd.nil5 _⟩,NQ _⟩
theorem FU {P:Program}{t e:TypeId}(U:U8 P t e){h:Array Oper}{o:Oper}{a:Act}{K:Act->World->Prop}{Q:Exit->Act->World->Prop}{E:Prop}
  (T:o.guard=none) (s x:Operand) (y:o.op=Op.call { callee:=Callee.builtin Builtin.append,args:=#[s,x],argTypes:=#[t,t] })
  (B:Nat) (v:Value) (l:List UInt8) (O:a.eval s=v) (p:Ow e w B v l) (r:Addr) (n c:Nat) (m:List UInt8) (M:a.eval x=.slice (some r) n c) (F:Rd w (.slice (some r) n c) m)
  (G:l.length+m.length<=140737488355328) (f:B<=w.heap.size)
  (V:∀ g w',Ow e w' B g (l++m)->w.grownBy w' v.ownBlock->(g.ownBlock=v.ownBlock\/g.ownBlock=some w.heap.size)->K (a.put o.dst g) w'):
  if Region.wanted o (yielded h a.tmps)=true then Oper.wp P o a w K Q else E:=by
 have N:Region.wanted o (yielded h a.tmps)=true:=by simp[Region.wanted,T]
 rw[if_pos N];obtain⟨i,S,u,d,C⟩:=U.hi;obtain⟨R,_,_⟩:=F.len;subst R;obtain⟨a',c',H,Z,Y,X,W⟩:=F;simp only[JR] at H;obtain⟨rfl,_,rfl⟩:=H;obtain⟨g,w',k,L,J,_,I⟩:=run_append_own_at (P:=P) (w:=w) B t o.type e i (.int .u8 0) 1 1 U.ht S u d C rfl (by decide) v l.length (Lib.byteCells l) p r m.length c (Lib.byteCells m) (by rw[cO];omega) (λj z A=>by
  have q:j<m.length:=by
   have:=(Ks.1 A).1;rwa [cO] at this
  rw[gC m j q] at A;cases A;exact W r rfl j q) (λz u=>by
  obtain⟨b,_,rfl⟩:=KN.1 u;rfl) (by unfold maxLen;omega) (by omega) f
 have D:=V g w' (by unfold Ow;rw[JQ,mr];exact L) J I;unfold Oper.wp;simp[execOp,y,resolve,invoke,builtin,O,M,k,Result.andThen];exact D
theorem sZ {w':World}{row:Option Nat}{p:Addr}(c:w.grownBy w' row)(b:w.cell? p=some v)(a:row≠some p.block):w'.cell? p=some v:=
 (Mc (w:=w) (c.block p.block (Kl w _ b) (λe=>a e.symm))).trans b
theorem FW (K a b:List UInt8)(j:Nat)(h:j<b.length):(bN K a b).take (j+1)=(bN K a b).take j++[fN K a b j]:=by
 rw[mn _ _ (by rw[ky];exact h),rU _ _ _ _ h]
theorem yt (u1 u2 u3:Value)(key a b:List UInt8)(w:World)(J:Rd w u1 key)(I:Rd w u2 a)(H:Rd w u3 b)(aP:b.length<=1000000):
  Calls prog 153 #[u1,u2,u3] w λe w'=>(∃ r,e=.returned (.tuple #[r,.int .i64 (jq key a)])/\Rd w' r (jr key a b))/\Kp w w':=by
 have U:=aj;obtain⟨a1,c1,rfl,h1,h2⟩:=J.shape;obtain⟨a2,c2,rfl,h3,h4⟩:=I.shape;obtain⟨a3,c3,rfl,h5,h6⟩:=H.shape;by_cases d:key.length=16
 ·by_cases E:a.length=12
  ·have Z:jq key a=0:=if_pos ⟨d,E⟩
   have X:jr key a b=bN (cU key) a b:=if_pos ⟨d,E⟩;rw[Z,X];by_cases R:b.length=0
   ·have aO:b=[]:=Kg R
    subst aO;have aI:bN (cU key) a []=[]:=rfl;rw[aI,d,E,Kf];go_enter func153,ntmps153;go_wp2_with fail;go_ret2;exact⟨⟨_,rfl,Rd.nil _⟩,NQ _⟩
   ·obtain⟨gb,ob,rfl,bc,au⟩:=H.at 0 (by omega)
    have aH:=JE au;have T:Hid (∀ bx W,Kp w W->By 5 W bx fQ->Calls prog 188 #[.slice a1 key.length c1,.slice (some ⟨bx,0,none⟩) 256 256] W λe w'=>(∃ r,e=.returned r/\Ow 5 w' W.heap.size r (cU key))/\Kp W w'):=λbx W h1 h2=>Fi _ key bx W (J.kp h1) d h2
    have aW:=JE (nJ d);rw[d] at T h1 ⊢;have aC:=JE I;rw[E] at aC h3 ⊢;have HN:=JE E;obtain⟨c,ai⟩:∃ n,b.length=n:=⟨_,rfl⟩;have aB:=JE (ky (cU key) a b);have aA:=JE (FW (cU key) a b);rw[ai] at aH aB aA h5 aP R ⊢;have aE:Hid (∀ j,fN (cU key) a b j=b.getD j 0 ^^^ (eA (cU key) (dN a (j / 16))).getD (j % 16) 0):=λ_=>rfl
    have aD:Hid (∀ x,(eA (cU key) x).length=16):=rR (cU key);generalize cU key=K at *;have aK:((c:Int)==0)=false:=JL.2 (by omega);have aJ:¬(c:Int)=0:=by omega
    clear J I H au Z X d E R;go_enter func153,ntmps153;go_wp2_with fail;refine(EZ w).mono ?_;rintro _ w1 ⟨⟨rfl,hX⟩,k1⟩;go_wp2_with fail;refine(T.out w.heap.size w1 k1 hX).mono ?_;rintro _ w2 ⟨⟨r,rfl,ho⟩,k2⟩;have aU:=JE ho.rd;have HX:=JE (hX.kp k2);have C:=JE (k1.trans k2);clear T hX k1 k2 ho aK aJ;go_wp2_with fail;go_loopw[8,11] (λv p wr=>∃ (q:Nat) (x:Value),16*q<=c+15/\x=v/\p=.int .i64 (16*q:Nat)/\Ow 5 wr w2.heap.size v ((bN K a b).take (min (16*q) c))/\Kp w2 wr) (λ_ p _=>c+16 - (intOf p).toNat)
    case atStart=>exact⟨0,_,by omega,rfl,rfl,by rw[NJ,Nat.zero_min,LZ];exact NR _ _ _,NQ _⟩
    case round=>
     obtain⟨q,v,hq,rfl,rfl,l,d⟩:=hrel;obtain⟨f,hf⟩:∃ f,16*q=f:=⟨_,rfl⟩;rw[hf] at hq l ⊢;by_cases a6:f<c
     ·have q1:(f:Int)<(c:Int):=by omega
      have e1:(f:Int).tdiv 16=(q:Int):=by rw[Kx (by omega)];omega
      have e2:(f:Int) / 16=(q:Int):=by omega
      have e3:IntKind.i64.wrap ((q:Int)+1)=(q:Int)+1:=JI _ (by omega);have e4:IntKind.i64.wrap (q:Int)=(q:Int):=JI _ (by omega);have O:eQ ((q:Int)+1) 4:=by
       unfold eQ;refine⟨by omega,by omega,by omega,?_⟩;show(q:Int)+1<4294967296
       omega
      have z:=rG ((q:Int)+1) 4 wr (by omega);rw[(iJ O).1,(iJ O).2,show((4:Int)).toNat=4 from rfl,show((q:Int)+1).toNat=q+1 by omega] at z;have F:=JE z;have aZ:=JE (bq 4 (q+1));have aY:Hid ((dN a q).length=16):=by rw[Hid,we,HN.out]
      have aX:Hid (a++be 4 (q+1)=dN a q):=rfl;have ah:min f c=f:=by omega
      rw[ah] at l;have HO:=JE l;have al:=C.out.trans d;clear z O ah l;go_wp2_with fail;refine F.out.mono ?_;rintro _ G ⟨v5,rfl,af,k5⟩;have h5:=af.rd;clear F af;go_wp2_with(at_builtin;first
       | (refine bw (o:=⟨some 49,_,_,_,_,_⟩) U rfl _ _ rfl G.heap.size _ [] rfl (NT G _ _ 0 #[] [] (JO _) rfl (by omega) rfl) _ a rfl (aC.out.kp ((al.trans k5).alloc _)) (by rw[HN.out];simp) (by simp) ?_;intro v6 w6 ae ar _;have k6:Kp G w6:=NS ((NQ G).alloc _) ar (λk e=>by cases e;exact JO _);have y:Ow 5 w6 G.heap.size v6 a:=(by simpa using ae);have ay:=h5.kp k6;clear ae ar)
       | (refine bw (o:=⟨some 51,_,_,_,_,_⟩) U rfl _ _ rfl G.heap.size v6 a rfl y _ (be 4 (q+1)) rfl ay (by rw[HN.out,aZ.out];decide) k6.size ?_;intro v7 w7 N aq _;have k7:Kp G w7:=NS k6 aq y.own_ge;rw[aX.out] at N;clear aq y ay))
      have m:=k5.trans k7;refine(Fz r v7 K (dN a q) w.heap.size w7 (aU.out.kp (d.trans m)) aW.out (HX.out.kp (d.trans m)) N.rd aY.out).mono ?_;rintro _ w8 ⟨⟨vs,rfl,M⟩,k8⟩;obtain⟨t,cs,rfl,y1,y2,y3,y4⟩:=qa M (by rw[aD.out];omega);have L:=M.rd;rw[aD.out] at L y3 ⊢;obtain⟨bs,os,aN,av,g⟩:=L.at 0 (by omega);cases aN;have aa:v.ownBlock≠some t:=λe=>by
       have:=(KU (w:=wr) HO.out t e).2;have:=m.size;omega
      have u:=HO.out.kp (m.trans k8);have P:=d.trans (m.trans k8);have ak:Kp w w8:=C.out.trans P;have aG:Hid (∀ i,i<16->w8.cell? ⟨t,i,none⟩=some (.int .u8 (((eA K (dN a q)).getD i 0).toNat:Int))):=λi hi=>by
       have:=g i hi;rwa [Lf] at this
      clear g L M N m k8 k7 k6 k5 d h5 HO al;go_wp2_with fail;go_loopw[8,15] (λv p wr=>∃ (i:Nat) (x:Value),f<=i/\i<=c/\i<=f+16/\x=v/\p=.int .i64 i/\Ow 5 wr w2.heap.size v ((bN K a b).take i)/\Kp w2 wr/\v.ownBlock≠some t/\Hid (∀ i,i<16->wr.cell? ⟨t,i,none⟩=some (.int .u8 (((eA K (dN a q)).getD i 0).toNat:Int)))/\t<wr.heap.size) (λ_ p _=>f+16 - (intOf p).toNat)
      case atStart=>exact⟨f,_,by omega,by omega,by omega,rfl,rfl,u,P,aa,aG,y2⟩
      case round=>
       clear u P aa aG y2 y3 y4 av ak;obtain⟨i,v,ba,a9,a8,rfl,rfl,l,A,hv,g,bb⟩:=hrel;have i0:IntKind.i64.wrap ((f:Int)+16)=(f:Int)+16:=JI _ (by omega);by_cases a0:i<f+16
       ·have d1:(i:Int)<(f:Int)+16:=by omega
        by_cases ao:i<c
        ·have d2:(i:Int)<(c:Int):=by omega
         obtain⟨k,aM⟩:∃ k,i - f=k:=⟨_,rfl⟩;have am:k<16:=by omega
         have d3:(i:Int) - (f:Int)=(k:Int):=by omega
         have d4:IntKind.i64.wrap (k:Int)=k:=JI _ (by omega);have d5:(k:Int)<16:=by omega
         have c1:=(C.out.trans A).cell (aH.out i ao);have c2:=g.out k am;have hx:=cz (b.getD i 0) ((eA K (dN a q)).getD k 0);have B:=aE.out i;rw[show i / 16=q by omega,show i % 16=k by omega] at B;rw[<-B] at hx;have ad:=aA.out i ao;have a4:((bN K a b).take i).length<=1000000:=by rw[Ki];omega
         have ag:v.ownBlock≠some gb:=λe=>by
          have:=(KU (w:=wr) l gb e).1;have:=C.out.size;omega
         generalize fN K a b i=Y at *;have aF:=g;generalize ax:(bN K a b).take (i+1)=L1 at *;have aV:=JE ax;generalize (bN K a b).take i=L0 at *;generalize b.getD i 0=X1 at *;generalize (eA K (dN a q)).getD k 0=X2 at *;have aT:=JE ad;have D:Hid (∀ W,Kp wr W->W.cell? ⟨gb,ob+i,none⟩=some (.int .u8 (X1.toNat:Int))/\W.cell? ⟨t,k,none⟩=some (.int .u8 (X2.toNat:Int))):=λW hW=>⟨hW.cell c1,hW.cell c2⟩
         have a7:=A.size;clear ad B aM g ax;go_wp2_with fail;go_region_held3 (λW=>W.cell? ⟨gb,ob+i,none⟩=some (.int .u8 (X1.toNat:Int))/\W.cell? ⟨t,k,none⟩=some (.int .u8 (X2.toNat:Int)))
          (first
           | exact D.out _ (NQ _).drew
           | exact D.out _ ((NQ _).alloc _).drew
           | exact az)
          (first
           | (refine FU U rfl (.tmp 66) (.tmp 78) rfl w2.heap.size _ _ rfl (l.kp ((NQ _).alloc _).drew) _ 1 1 [Y] rfl ((Rd.box wr _ _ Y rfl).kp (NQ _).drew) (by simp;omega) (by simp;omega) ?_;intro v' w9 u s aw;have az:w9.cell? ⟨gb,ob+i,none⟩=some (.int .u8 (X1.toNat:Int))/\w9.cell? ⟨t,k,none⟩=some (.int .u8 (X2.toNat:Int)):=⟨sZ s (D.out _ ((NQ _).alloc _).drew).1 ag,sZ s (D.out _ ((NQ _).alloc _).drew).2 hv⟩))
         all_goals
          have an:Kp w2 w9:=NS ((A.alloc _).drew) s l.own_ge;have ap:=s.size;have ab:v'.ownBlock≠some t:=λe=>by
           rcases aw with h|h
           ·exact hv (h.symm.trans e)
           ·rw[h] at e
            simp at e;omega
          have Q:t<w9.heap.size:=by
           simp at ap;omega
          have V:Hid (∀ i,i<16->w9.cell? ⟨t,i,none⟩=some (.int .u8 (((eA K (dN a q)).getD i 0).toNat:Int))):=λj hj=>sZ s (((NQ wr).alloc _).drew.cell (aF.out j hj)) hv
          rw[<-aT.out] at u;clear az s aw ap;go_wp2_with fail;go_roundw
          case rel=>exact⟨i+1,_,by omega,by omega,by omega,rfl,by go_num,by rw[aV.out];exact u,an,ab,V,Q⟩
          case measure=>simp[intOf];omega
        ·have d2:¬(i:Int)<(c:Int):=by omega
         have S:Ow 5 wr w2.heap.size v ((bN K a b).take (min (16*(q+1)) c)):=by rw[show min (16*(q+1)) c=i by omega];exact l
         have e9:IntKind.i64.wrap ((f:Int)+16)=((16*(q+1):Nat):Int):=by rw[JI _ (by omega)];omega
         have HQ:=JE (show 16*(q+1)<=c+15 by omega);have HF:=JE hf;clear l hf g;go_wp2_with fail;go_roundw
         case rel=>exact⟨q+1,_,HQ.out,rfl,congrArg (Value.int .i64) (by have:=HF.out;omega),S,A⟩
         case measure=>have:=HF.out;have:=HQ.out;simp[intOf];omega
       ·have d1:¬(i:Int)<(f:Int)+16:=by omega
        have S:Ow 5 wr w2.heap.size v ((bN K a b).take (min (16*(q+1)) c)):=by rw[show min (16*(q+1)) c=i by omega];exact l
        have e9:IntKind.i64.wrap ((f:Int)+16)=((16*(q+1):Nat):Int):=by rw[JI _ (by omega)];omega
        have HQ:=JE (show 16*(q+1)<=c+15 by omega);have HF:=JE hf;clear l hf g;go_wp2_with fail;go_roundw
        case rel=>exact⟨q+1,_,HQ.out,rfl,congrArg (Value.int .i64) (by have:=HF.out;omega),S,A⟩
        case measure=>have:=HF.out;have:=HQ.out;simp[intOf];omega
     ·have a5:¬(f:Int)<(c:Int):=by omega
      have aS:Ow 5 wr w2.heap.size v (bN K a b):=by
       rw[show min f c=c by omega,Ku (by rw[aB.out];exact JO _)] at l;exact l
      have aL:=C.out.trans d;clear l;go_wp2_with fail;go_ret2;exact⟨⟨_,rfl,aS.rd⟩,aL⟩
  ·have Z:jq key a=1:=if_neg (λh=>E h.2)
   have X:jr key a b=[]:=if_neg (λh=>E h.2);rw[Z,X];have aR:((a.length:Int)==12)=false:=JL.2 (by omega);have aQ:¬(a.length:Int)=12:=by omega
   rw[d];go_enter func153,ntmps153;go_wp2_with fail;go_ret2;exact⟨⟨_,rfl,Rd.nil _⟩,NQ _⟩
 ·have Z:jq key a=1:=if_neg (λh=>d h.1)
  have X:jr key a b=[]:=if_neg (λh=>d h.1);rw[Z,X];have aR:((key.length:Int)==16)=false:=JL.2 (by omega);have aQ:¬(key.length:Int)=16:=by omega
  go_enter func153,ntmps153;go_wp2_with fail;go_ret2;exact⟨⟨_,rfl,Rd.nil _⟩,NQ _⟩

import Derived.Test.YthmhklmkgkfcpaaGreatDoorW11
set_option linter.all false
set_option maxHeartbeats 8000000
set_option maxRecDepth 100000
namespace Go.Proofs.YthmhklmkgkfcpaaGreatDoor
open Go.Proofs.Tryz Go.RowKit
variable {B K i j k q x:Nat}{e:TypeId}{l o:List Int}{n:Int}{p:Prop}{t:List Nod}{v:Value}{w:World}
theorem vT (c:j<=10)(d:i<=j)(a:q<2 ^ (10 - j)):2 ^ (j - i)*q+2 ^ (j - i) - 1<2 ^ (10 - i):=by
 have e:2 ^ (10 - i)=2 ^ (j - i)*2 ^ (10 - j):=by rw[<-Nat.pow_add];congr 1;omega
 have b:2 ^ (j - i)*(q+1)<=2 ^ (10 - i):=by rw[e];exact Nat.mul_le_mul_left _ a
 rw[Nat.mul_add,ML] at b;have:=bC (j - i);omega
theorem down (k:j<=10)(h:q<2 ^ (10 - j))(f g:Nat->Nat)(m:f=λi=>nd i (2 ^ (j - i)*q))(l:g=λi=>nd i (2 ^ (j - i)*q+2 ^ (j - i) - 1)):
  (∀ i,i<=j->eD ((f i:Nat):Int)=(i:Int)/\lev (f i)=i/\eD ((g i:Nat):Int)=(i:Int)/\lev (g i)=i) /\
  (∀ i,i+1<=j->chE ((f (i+1):Nat):Int)=0/\eJ ((f (i+1):Nat):Int)=((f i:Nat):Int)/\chE ((g (i+1):Nat):Int)=0/\fb ((g (i+1):Nat):Int)=((g i:Nat):Int)) /\
  f j=nd j q/\g j=nd j q/\((f 0:Nat):Int).tdiv 2=((2 ^ j*q:Nat):Int)/\((g 0:Nat):Int).tdiv 2=((2 ^ j*q+2 ^ j - 1:Nat):Int):=by
 subst m l;have d:∀ i,i<=j->2 ^ (j - i)*q<2 ^ (10 - i)/\2 ^ (j - i)*q+2 ^ (j - i) - 1<2 ^ (10 - i):=λi a=>by
  have c:=vT k a h;have b:=bC (j - i);omega
 refine⟨λi a=>?_,λi a=>?_,?_,?_,?_,?_⟩
 ·obtain⟨c,b⟩:=d i a
  exact⟨fm (by omega) c,gg _ _ (by omega),fm (by omega) b,gg _ _ (by omega)⟩
 ·obtain⟨c,b⟩:=d (i+1) a
  obtain⟨o,n,_⟩:=fD (j:=i) (q:=2 ^ (j - (i+1))*q) (by omega) c;obtain⟨r,_,p⟩:=fD (j:=i) (q:=2 ^ (j - (i+1))*q+2 ^ (j - (i+1)) - 1) (by omega) b;have e:j - i=(j - (i+1))+1:=by omega
  have s:=bC (j - (i+1));refine⟨o,?_,r,?_⟩
  ·rw[n]
   simp only[];rw[e,bi,LH]
  ·rw[p]
   simp only[];rw[e,bi,LH];congr 2
   omega
 ·simp
 ·simp
 ·simp only[MR]
  rw[fa,JK (by omega)];omega
 ·simp only[MR]
  rw[fa,JK (by omega)];omega
theorem CL (j q:Nat)(w:World)(A:j<=10)(z:q<2 ^ (10 - j)):
  Calls prog 79 #[.int .i64 ((nd j q:Nat):Int)] w λe w'=>e=.returned (.tuple #[.int .i64 ((2 ^ j*q:Nat):Int),.int .i64 ((2 ^ j*q+2 ^ j - 1:Nat):Int)])/\w=w':=by
 obtain⟨R,Q⟩:=(eC ((nd j q:Nat):Int)).2 ⟨j,q,rfl,A,z⟩;obtain⟨f,C⟩:∃ f:Nat->Nat,f=λi=>nd i (2 ^ (j - i)*q):=⟨_,rfl⟩
 obtain⟨g,B⟩:∃ g:Nat->Nat,g=λi=>nd i (2 ^ (j - i)*q+2 ^ (j - i) - 1):=⟨_,rfl⟩
 obtain⟨J,H,G,F,E,D⟩:=down A z f g C B;have M:2 ^ j*q+2 ^ j - 1<2 ^ (10 - 0):=by have:=vT A (Jl j) z;simpa using this
 have m:=Lib.hid J;have y:=Lib.hid H;have k:Hid (∀ x,Calls prog 82 #[.int .i64 x] w λe w'=>e=.returned (.int .i64 (eD x))/\w=w'):=λx=>qq x w
 have p:Hid (∀ x,Calls prog 34 #[.int .i64 x] w λe w'=>e=.returned (.tuple #[.int .i64 (eJ x),.int .i64 (chE x)])/\w=w'):=λx=>lK x w
 have l:Hid (∀ x,Calls prog 35 #[.int .i64 x] w λe w'=>e=.returned (.tuple #[.int .i64 (fb x),.int .i64 (chE x)])/\w=w'):=λx=>lM x w
 have L:IntKind.i64.wrap ((2 ^ j*q:Nat):Int)=((2 ^ j*q:Nat):Int):=IW _ (by have:=bC j;omega);have N:IntKind.i64.wrap ((2 ^ j*q+2 ^ j - 1:Nat):Int)=((2 ^ j*q+2 ^ j - 1:Nat):Int):=IW _ (by omega);have u:=Lib.hid (Jb E D);have v:=Lib.hid (Jb G F);generalize ((2 ^ j*q:Nat):Int)=S at *;generalize ((2 ^ j*q+2 ^ j - 1:Nat):Int)=T at *;generalize nd j q=X at *;clear J H G F E D C B M z;go_enter func79,ntmps79;go_wp2_with fail;go_loop [4] (λa=>∃ i:Nat,i<=j/\a=.int .i64 ((f i:Nat):Int)) (λa=>lev (intOf a).toNat)
 case atStart=>exact⟨j,Ja _,by rw[v.out.1]⟩
 case round=>
  obtain⟨i,n,rfl⟩:=hrel;have c:=k.out ((f i:Nat):Int);rw[(m.out i n).1] at c;have h:=Lib.hid c;clear c;cases i with
  | succ i=>
   obtain⟨t,s,_,_⟩:=y.out i n;have d:=p.out ((f (i+1):Nat):Int);rw[t,s] at d;have r:=Lib.hid d;have o:=Lib.hid (Jb (m.out (i+1) n).2.1 (m.out i (by omega)).2.1);have K:0<((i+1:Nat):Int):=by omega
   generalize ((i+1:Nat):Int)=I at *;clear d t s m y k p l u v;go_wp2_with fail;refine h.out.mono ?_;rintro _ _ ⟨rfl,rfl⟩;go_wp2_with fail;refine r.out.mono ?_;rintro _ _ ⟨rfl,rfl⟩;go_wp2_with fail;go_round
   case rel=>exact⟨i,by omega,rfl⟩
   case measure=>have:=o.out;simp[intOf];omega
  | zero=>
   have P:=u.out.1;go_wp2_with fail;refine h.out.mono ?_;rintro _ _ ⟨rfl,rfl⟩;clear h n p;go_wp2_with fail;go_loop [5] (λb=>∃ i:Nat,i<=j/\b=.int .i64 ((g i:Nat):Int)) (λb=>lev (intOf b).toNat)
   case atStart=>exact⟨j,Ja _,by rw[v.out.2]⟩
   case round=>
    obtain⟨i,n,rfl⟩:=hrel;have c:=k.out ((g i:Nat):Int);rw[(m.out i n).2.2.1] at c;have h:=Lib.hid c;clear c;cases i with
    | succ i=>
     obtain⟨_,_,t,s⟩:=y.out i n;have d:=l.out ((g (i+1):Nat):Int);rw[t,s] at d;have r:=Lib.hid d;have o:=Lib.hid (Jb (m.out (i+1) n).2.2.2 (m.out i (by omega)).2.2.2);have K:0<((i+1:Nat):Int):=by omega
     generalize ((i+1:Nat):Int)=I at *;clear d t s m y k l u v;go_wp2_with fail;refine h.out.mono ?_;rintro _ _ ⟨rfl,rfl⟩;go_wp2_with fail;refine r.out.mono ?_;rintro _ _ ⟨rfl,rfl⟩;go_wp2_with fail;go_round
     case rel=>exact⟨i,by omega,rfl⟩
     case measure=>have:=o.out;simp[intOf];omega
    | zero=>
     have O:=u.out.2;clear y m k l v u;go_wp2_with fail;refine h.out.mono ?_;rintro _ _ ⟨rfl,rfl⟩;go_wp2_with fail;go_ret2;exact⟨rfl,rfl⟩
theorem CM (x:Int)(w:World):
  Calls prog 79 #[.int .i64 x] w λe w'=>e=.returned (.tuple #[.int .i64 (loV x),.int .i64 (hiV x)])/\w=w':=by
 by_cases h:okN x
 ·obtain⟨j,q,rfl,d,c⟩:=(eC x).1 h
  obtain⟨b,a⟩:=mu d c;rw[b,a];exact CL j q w d c
 ·obtain⟨b,a⟩:=tu h
  rw[b,a];unfold okN at h;by_cases g:x<0
  ·clear h b a
   go_enter func79,ntmps79;go_wp2_with fail;go_ret2;exact⟨rfl,rfl⟩
  ·have f:2046<x:=by omega
   clear h b a;go_enter func79,ntmps79;go_wp2_with fail;go_ret2;exact⟨rfl,rfl⟩
theorem rJ (h:t.length<=100000):IntKind.i64.wrap ((t.length:Int)+1)=(t.length:Int)+1/\((t.length:Int)+1).tdiv 2=((lvs t:Nat):Int):=by
 refine⟨IW _ (by omega),?_⟩;unfold lvs;rw[JK (by omega)];omega
theorem lN (h:k<lvs t):2*k<t.length:=by unfold lvs at h;omega
theorem iO (h:t.length<=100000):(lvs t:Int)<=100000:=by
 unfold lvs;omega
theorem iP (u:Value)(t:List Nod)(w:World)(d:NL w u t)(b:t.length<=100000):
  Calls prog 31 #[u] w λe w'=>e=.returned (.int .i64 ((lvs t:Nat):Int))/\w=w':=by
 obtain⟨a,c,rfl,j,i⟩:=d.shape;obtain⟨h,g⟩:=rJ (t:=t) b;have f:IntKind.i64.wrap ((lvs t:Nat):Int)=((lvs t:Nat):Int):=IW _ (by have:=iO (t:=t) b;omega);go_enter func31,ntmps31;go_wp2_with fail;go_ret;exact⟨rfl,rfl⟩
theorem rK (name:Int)(v:Value)(pub:List UInt8)(w:World)(d:Rd w v pub):
  Calls prog 84 #[.int .i64 name,v] w λe w'=>e=.returned (.bool (decide (dP name pub)))/\w=w':=by
 obtain⟨a,c,rfl,k,l⟩:=d.shape;by_cases g:0<=name
 ·by_cases f:name<=65535
  ·by_cases b:pub.length=32
   ·have e:decide (dP name pub)=true:=Jy ⟨g,f,b⟩
    rw[e];rw[b] at k ⊢;clear e d b;go_enter func84,ntmps84;go_wp2_with fail;go_ret;exact⟨rfl,rfl⟩
   ·have e:decide (dP name pub)=false:=Jr λh=>b h.2.2
    have j:((pub.length:Int)==32)=false:=Jd.2 (by omega);have i:¬(pub.length:Int)=32:=by omega
    rw[e];clear e d b;go_enter func84,ntmps84;go_wp2_with fail;go_ret;exact⟨rfl,rfl⟩
  ·have e:decide (dP name pub)=false:=Jr λh=>f h.2.1
   rw[e];clear e d;go_enter func84,ntmps84;go_wp2_with fail;go_ret;exact⟨rfl,rfl⟩
 ·have e:decide (dP name pub)=false:=Jr λh=>g h.1
  rw[e];clear e d;go_enter func84,ntmps84;go_wp2_with fail;go_ret;exact⟨rfl,rfl⟩
theorem CN {name:Int}(d:k<lvs t)(h:(ats t (2*k)).kind=1)(c:(ats t (2*k)).name=name)(a:∀ j,j<k->¬((ats t (2*j)).kind=1/\(ats t (2*j)).name=name)):
  kY t name=(k:Int)/\gN t name=true:=by
 have e:qB t name=k:=tN (by omega) (λ_=>Jy ⟨h,c⟩) (λj f=>Jr (a j f));have b:gN t name=true:=by unfold gN;rw[e];exact Jy d
 exact⟨by unfold kY;rw[b,e];rfl,b⟩
theorem CO {name:Int}(h:∀ j,j<lvs t->¬((ats t (2*j)).kind=1/\(ats t (2*j)).name=name)):kY t name=0/\gN t name=false:=by
 have e:=Ah h;exact⟨by unfold kY;rw[e];rfl,e⟩
theorem CP (u:Value)(t:List Nod)(name:Int)(w:World)(A:NL w u t)(C:t.length<=100000):
  Calls prog 85 #[u,.int .i64 name] w λe w'=>e=.returned (.tuple #[.int .i64 (kY t name),.bool (gN t name)])/\w=w':=by
 have y:=Lib.hid (iP u t w A C);obtain⟨a,c,rfl,p1,T⟩:=A.shape;have P:=iO (t:=t) C;have M:=Lib.hid A;have E:=Lib.hid (λk I h o d=>CN (t:=t) (name:=name) (k:=k) I h o d);have G:=Lib.hid (λh=>CO (t:=t) (name:=name) h);have H:=Lib.hid (λk h=>lN (t:=t) (k:=k) h);generalize kY t name=FV at *;generalize gN t name=FB at *;generalize lvs t=L at *;obtain⟨N,K⟩:∃ N,t.length=N:=⟨_,rfl⟩;rw[K] at M p1 H y C ⊢;clear A K;go_enter func85,ntmps85;go_wp2_with fail;go_loop [6] (λi=>∃ k:Nat,k<=L/\i=.int .i64 (k:Int)/\(∀ j,j<k->¬((ats t (2*j)).kind=1/\(ats t (2*j)).name=name))) (λi=>(L - (intOf i).toNat))
 case atStart=>exact⟨0,Jl _,rfl,λt h=>by omega⟩
 case round=>
  obtain⟨k,I,rfl,d⟩:=hrel;by_cases r:k<L
  ·have m:=H.out k r
   obtain⟨b,O,rfl,S,J⟩:=M.out.at (2*k) m;obtain⟨p,q,h,o⟩:=J (2*k) m;have c1:=o.kind;have Z:=o.name;have g:=E.out k r;have f:Hid (¬((ats t (2*k)).kind=1/\(ats t (2*k)).name=name)->∀ j,j<k+1->¬((ats t (2*j)).kind=1/\(ats t (2*j)).name=name)):=λR j Q=>by
    rcases JC (JN.1 Q) with D|D
    ·exact d j D
    ·rw[D];exact R
   have l:=Lib.hid d;have W:IntKind.i64.wrap ((k:Int)+1)=(k:Int)+1:=IW _ (by omega);have V:IntKind.i64.wrap (2*(k:Int))=((2*k:Nat):Int):=by rw[IW _ (by omega)];omega
   have U:((2*k:Nat):Int)<(N:Int):=by omega
   clear J o G d E m S;generalize (ats t (2*k)).kind=X at *;generalize (ats t (2*k)).name=Y at *;generalize 2*k=K2 at *;by_cases s:X=1
   ·by_cases B:Y=name
    ·obtain⟨x,v⟩:=g s B l.out
     have z:=Lib.hid (Jb x v);subst s;subst B;clear g f l x v;go_wp2_with fail;refine y.out.mono ?_;rintro _ _ ⟨rfl,rfl⟩;go_wp2_with fail;go_ret2;exact⟨by rw[z.out.1,z.out.2] <;> rfl,rfl⟩
    ·have F:=Lib.hid (f.out λh=>B h.2)
     have n:(Y==name)=false:=Jd.2 B;subst s;clear g f l;go_wp2_with fail;refine y.out.mono ?_;rintro _ _ ⟨rfl,rfl⟩;go_wp2_with fail;go_round
     case rel=>exact⟨k+1,by omega,by go_num,F.out⟩
     case measure=>simp[intOf];omega
   ·have F:=Lib.hid (f.out λh=>s h.1)
    have n:(X==1)=false:=Jd.2 s;clear g f l;go_wp2_with fail;refine y.out.mono ?_;rintro _ _ ⟨rfl,rfl⟩;go_wp2_with fail;go_round
    case rel=>exact⟨k+1,by omega,by go_num,F.out⟩
    case measure=>simp[intOf];omega
  ·obtain rfl:k=L:=by omega
   obtain⟨x,v⟩:=G.out d;have z:=Lib.hid (Jb x v);clear G d E H x v;go_wp2_with fail;refine y.out.mono ?_;rintro _ _ ⟨rfl,rfl⟩;go_wp2_with fail;go_ret2;exact⟨by rw[z.out.1,z.out.2] <;> rfl,rfl⟩
theorem infoNode:(prog.info? 81).map (λi=>(i.zero,i.size,i.bytes))=some (some (.agg #[.int .i64 0,.int .i64 0,.slice none 0 0,.slice none 0 0,.slice none 0 0]),5,88):=by kernel_rfl
theorem pr:S5 prog 22 81:=S5.mk' underlying22 infoNode (by decide) rfl
def pt (name:Int)(pub:List UInt8):Int:=if dP name pub then 0 else 1
def py (name:Int)(pub:List UInt8):List Nod:=if dP name pub then [aH name pub] else []
theorem NL.lit1 (w:World)(e:TypeId)(n:Nod)(p u h:Value)(H:NIn w n p u h):NL (w.alloc (.cells #[.int .i64 n.kind,.int .i64 n.name,p,u,h] e)) (.slice (some ⟨w.heap.size,0,none⟩) 1 1) [n]:=by
 refine⟨_,1,rfl,Ja _,by unfold maxLen;omega,λh=>(by cases h),λ_=>⟨w.heap.size,0,rfl,by simp,λi b=>?_⟩⟩;have:i=0:=by simpa using b
 subst this;refine⟨p,u,h,λj v a=>?_,H.kp ((Kp.refl _).alloc _)⟩;rw[cell_of_row _ _ _ _ _ _ (heap_alloc_new w _)];simp only[Nat.zero_mul,JS];exact(show(bT n p u h).toArray[j]?=some v by rw[Jj];exact a)
theorem CR (name:Int)(v:Value)(pub:List UInt8)(w:World)(d:Rd w v pub):
  Calls prog 37 #[.int .i64 name,v] w λe w'=>(∃ r,e=.returned (.tuple #[r,.int .i64 (pt name pub)])/\NL w' r (py name pub))/\Kp w w':=by
 have b:=Lib.hid (rK name v pub w d);by_cases h:dP name pub
 ·rw[Jy h] at b
  rw[show pt name pub=0 from if_pos h,show py name pub=[aH name pub] from if_pos h];have f:=Lib.hid (NL.lit1 w 81 (aH name pub) v (.slice none 0 0) (.slice none 0 0) ⟨d,RI.nil w,cL w⟩);obtain⟨a,c,rfl,i,g⟩:=d.shape;go_enter func37,ntmps37;go_wp2_with fail;refine b.out.mono ?_;rintro _ _ ⟨rfl,rfl⟩;go_wp2_with fail;go_ret2;exact⟨⟨_,rfl,f.out⟩,(Kp.refl _).alloc _⟩
 ·rw[Jr h] at b
  rw[show pt name pub=1 from if_neg h,show py name pub=[] from if_neg h];clear h;go_enter func37,ntmps37;go_wp2_with fail;refine b.out.mono ?_;rintro _ _ ⟨rfl,rfl⟩;go_wp2_with fail;go_ret2;exact⟨⟨_,rfl,NL.nil _⟩,Kp.refl _⟩
theorem CS (a:(ats t x).kind=0):okP t x↔(ats t x).name=0/\(ats t x).pub.length=0/\(ats t x).un.length=0/\(ats t x).hash.length=0:=by
 constructor
 ·intro h
  rw[zT h a];exact⟨rfl,rfl,rfl,rfl⟩
 ·rintro⟨e,d,c,b⟩
  refine .inl ((Nod.eq_iff _ _).2 ⟨a,e,Ju d,Ju c,Ju b⟩)
theorem CU (f:(ats t x).kind≠0):okP t x↔dP (ats t x).name (ats t x).pub/\((ats t x).hash.length=0\/(ats t x).hash.length=32)/\(ats t x).kind=1+(x:Int) % 2 /\
  ((ats t x).kind=1->(ats t x).un.length=0)/\((ats t x).kind≠1->unP t (loV x) (hiV x) (ats t x).un/\(ats t x).name=0):=by
 constructor
 ·rintro (h|⟨e,d,c,b,a⟩)
  ·rw[h] at f;exact absurd rfl f
  ·exact⟨d,c,e,λh=>by rw[b h];rfl,λh=>(a (by omega)).symm⟩
 ·rintro⟨d,c,e,b,a⟩
  exact .inr ⟨e,d,c,λh=>Ju (b h),λh=>(a (by omega)).symm⟩
def aR (e:Ending)(p:Prop):Prop:=∃ b,e=.returned (.bool b)/\(b=true↔p)
theorem nJ {a b:Nat}(h:a≠b):((a:Int)==(b:Int))=false:=Jd.2 (by omega)
theorem CW (u:Value)(t:List Nod)(x:Nat)(w:World)(k:NL w u t)(j:x<t.length)(l:(ats t x).kind=0):
  Calls prog 76 #[u,.int .i64 (x:Int)] w λe w'=>aR e (okP t x)/\Kp w w':=by
 obtain⟨a,c,rfl,p1,D⟩:=k.shape;unfold maxLen at D;obtain⟨b,E,rfl,G,A⟩:=k.at x j;obtain⟨p,q,h,f⟩:=A x j;have M:=f.kind;have L:=f.name;have K:=f.pubC;have J:=f.unC;have I:=f.hashC;have d:=CS l;obtain⟨T,Q,rfl,_,_⟩:=f.2.pub.shape;obtain⟨S,O,rfl,_,_⟩:=f.2.un.shape;obtain⟨V,R,rfl,_,_⟩:=f.2.hash.shape;have F:(x:Int)<(t.length:Int):=by omega
 obtain⟨N,B⟩:∃ N,t.length=N:=⟨_,rfl⟩;rw[B] at F p1 ⊢;generalize (ats t x)=n at *;obtain⟨z,name,pub,C,i⟩:=n;simp only at l d M L K J I ⊢;subst l;generalize pub.length=P at *;generalize C.length=U at *;generalize i.length=H at *;clear f A k B G j;by_cases s:name=0
 ·subst s
  by_cases r:P=0
  ·subst r
   by_cases o:U=0
   ·subst o
    by_cases m:H=0
    ·subst m
     have g:=Lib.hid (d.2 ⟨rfl,rfl,rfl,rfl⟩);clear d;go_enter func76,ntmps76;go_wp2_with fail;go_ret;exact⟨⟨true,rfl,λ_=>g.out,λ_=>rfl⟩,(Kp.refl _).alloc _⟩
    ·have g:=Lib.hid (λe=>m (d.1 e).2.2.2)
     have y:=nJ m;have v:¬(H:Int)=0:=by omega
     clear d;go_enter func76,ntmps76;go_wp2_with fail;go_ret;exact⟨⟨_,rfl,λh=>absurd (Mr.1 h) v,λh=>absurd h g.out⟩,(Kp.refl _).alloc _⟩
   ·have g:=Lib.hid (λe=>o (d.1 e).2.2.1)
    have y:=nJ o;have v:¬(U:Int)=0:=by omega
    clear d;go_enter func76,ntmps76;go_wp2_with fail;go_ret;exact⟨⟨false,rfl,λh=>(by cases h),λh=>absurd h g.out⟩,(Kp.refl _).alloc _⟩
  ·have g:=Lib.hid (λe=>r (d.1 e).2.1)
   have y:=nJ r;have v:¬(P:Int)=0:=by omega
   clear d;go_enter func76,ntmps76;go_wp2_with fail;go_ret;exact⟨⟨false,rfl,λh=>(by cases h),λh=>absurd h g.out⟩,(Kp.refl _).alloc _⟩
 ·have g:=Lib.hid (λe=>s (d.1 e).1)
  have y:(name==0)=false:=Jd.2 s;clear d;go_enter func76,ntmps76;go_wp2_with fail;go_ret;exact⟨⟨false,rfl,λh=>(by cases h),λh=>absurd h g.out⟩,(Kp.refl _).alloc _⟩
def ahead (lo:Int)(l:List Int)(k:Nat):Int:=if k=0 then lo - 1 else l.getD (k - 1) 0
theorem CX (t:List Nod)(q c:Int)(l:List Int):unP t q c l↔∀ k,k<l.length->ahead q l k<l.getD k 0/\l.getD k 0<=c/\(ats t (2*(l.getD k 0).toNat)).kind=1:=by
 have f:∀ k (h:k<l.length),l.getD k 0=l[k]:=λk h=>by rw[IU,IV h];rfl
 constructor
 ·rintro⟨x,w⟩ k g
  rw[f k g];obtain⟨a,p,o⟩:=w l[k] (JD g);refine⟨?_,p,o⟩;unfold ahead;by_cases n:k=0
  ·rw[if_pos n];omega
  ·rw[if_neg n,f _ (by omega)]
   exact(JU.1 x) (k - 1) k (by omega) g (by omega)
 ·intro h
  have m:∀ d i j (c:i<l.length) (b:j<l.length),j=i+d+1->l[i]<l[j]:=by
   intro d;induction d with
   | zero=>
    intro i j c b e;obtain⟨a,_⟩:=h j b;unfold ahead at a;rw[if_neg (by omega),f _ (by omega),f _ b] at a;have:j - 1=i:=by omega
    subst this;exact a
   | succ d ih=>
    intro i j c b e;obtain⟨a,_⟩:=h j b;unfold ahead at a;rw[if_neg (by omega),f _ (by omega),f _ b] at a;have:=ih i (j - 1) c (by omega) (by omega);omega
  refine⟨JU.2 λi j c b u=>m (j - i - 1) i j c b (by omega),λv s=>?_⟩;obtain⟨k,g,rfl⟩:=JW s;obtain⟨a,p,o⟩:=h k g;rw[f k g] at a p o;refine⟨?_,p,o⟩;obtain⟨r,_⟩:=h 0 (by omega);unfold ahead at r;rw[if_pos rfl,f 0 (by omega)] at r;by_cases n:k=0
  ·subst n;omega
  ·have:=m (k - 1) 0 k (by omega) g (by omega)
   omega
theorem vU {n:Nat}(b:K<=10)(h:n=2 ^ (K+1) - 1)(g:x<n):0<=loV x/\loV x<=hiV x/\2*hiV x<(n:Int)/\hiV x<1024:=by
 subst h;obtain⟨j,q,rfl,i,a⟩:=ir K x g;obtain⟨_,d,c⟩:=dW b i a;obtain⟨f,e⟩:=mu d c;rw[f,e];have l:2 ^ K=2 ^ j*2 ^ (K - j):=by rw[<-Nat.pow_add];congr 1;omega
 have k:2 ^ j*(q+1)<=2 ^ K:=by rw[l];exact Nat.mul_le_mul_left _ a
 rw[Nat.mul_add,ML] at k;have:=bC j;have:=bi K;have:=bP b;omega
theorem rL (x:Nat):((x:Int)).tmod 2=(x:Int) % 2:=JF (by omega)
theorem CY (u:Value)(t:List Nod)(x K:Nat)(w:World)(hu:NL w u t)(hK:K<=10)(hl:t.length=2 ^ (K+1) - 1)(hx:x<t.length)(hk:(ats t x).kind≠0):
  Calls prog 76 #[u,.int .i64 (x:Int)] w λe w'=>aR e (okP t x)/\Kp w w':=by
 obtain⟨a,c,rfl,p1,s1⟩:=hu.shape;unfold maxLen at s1;have HU:=Lib.hid hu;obtain⟨b,ar,rfl,hb,hc⟩:=hu.at x hx;obtain⟨p,q,h,Q⟩:=hc x hx;have c0:=Q.kind;have c1:=Q.name;have c2:=Q.pubC;have c3:=Q.unC;have c4:=Q.hashC;have C:=CU hk;obtain⟨l1,l2,l3,l4⟩:=vU hK hl hx;have D:=Lib.hid (λW=>CM (x:Int) W);have s:=Lib.hid (CX t (loV x) (hiV x) (ats t x).un);have L:Hid (∀ W,Kp w W->Calls prog 84 #[.int .i64 (ats t x).name,p] W λe w'=>e=.returned (.bool (decide (dP (ats t x).name (ats t x).pub)))/\W=w'):=λW hW=>rK _ _ _ W (Q.2.pub.kp hW)
 have HQ:=Lib.hid Q.2.un;obtain⟨ap,cp,rfl,_,_⟩:=Q.2.pub.shape;obtain⟨aq,cq,rfl,u1,u2⟩:=Q.2.un.shape;obtain⟨ah,ch,rfl,_,_⟩:=Q.2.hash.shape;unfold maxLen at u2;have i3:(x:Int)<(t.length:Int):=by omega
 have tm:=rL x;have tw:IntKind.i64.wrap (1+(x:Int) % 2)=1+(x:Int) % 2:=IW _ (by omega);have ao:IntKind.i64.wrap ((x:Int) % 2)=(x:Int) % 2:=IW _ (by omega);obtain⟨N,hN⟩:∃ N,t.length=N:=⟨_,rfl⟩;rw[hN] at i3 p1 l3 HU ⊢;generalize loV (x:Int)=B at *;generalize hiV (x:Int)=I at *;have lw:IntKind.i64.wrap (B - 1)=B - 1:=IW _ (by omega);generalize unP t B I (ats t x).un=UP at *;generalize okP t x=F at *;generalize (ats t x)=n at *;obtain⟨y,name,pub,d,aj⟩:=n;simp only at hk C c0 c1 c2 c3 c4 s L HQ ⊢;generalize pub.length=P at *;generalize aj.length=H at *;clear Q hc hu hN hb hx hl hK;have au:(y==0)=false:=Jd.2 hk;have HX:(x:Int) % 2=0\/(x:Int) % 2=1:=by omega
 generalize (x:Int) % 2=X2 at *;by_cases m:dP name pub
 ·rw[Jy m] at L
  have HH:H=0\/H=32\/(H≠0/\H≠32):=by omega
  rcases HH with rfl|rfl|⟨al,ak⟩
  ·rcases HX with rfl|rfl
   ·by_cases r:y=1
    ·subst r
     have aa:d.length<=cq:=u1;have o:Hid (F↔d.length=0):=⟨λe=>(C.1 e).2.2.2.1 rfl,λe=>C.2 ⟨m,.inl rfl,by omega,λ_=>e,λh=>absurd rfl h⟩⟩;obtain⟨U,T⟩:∃ U,d.length=U:=⟨_,rfl⟩;rw[T] at c3 o aa;clear C s m D T HQ u1;go_enter func76,ntmps76;go_wp2_with fail;refine(L.out _ ((Kp.refl _).alloc _)).mono ?_;rintro _ _ ⟨rfl,rfl⟩;go_wp2_with fail;go_ret;exact⟨⟨_,rfl,λh=>o.out.2 (by have:=Mr.1 h;omega),λh=>Mr.2 (by have:=o.out.1 h;omega)⟩,(Kp.refl _).alloc _⟩
    ·have ab:(y==1)=false:=Jd.2 r
     have o:=Lib.hid (λe=>r (by have:=(C.1 e).2.2.1;omega));clear C s m D;go_enter func76,ntmps76;go_wp2_with fail;refine(L.out _ ((Kp.refl _).alloc _)).mono ?_;rintro _ _ ⟨rfl,rfl⟩;go_wp2_with fail;go_ret;exact⟨⟨false,rfl,λh=>(by cases h),λh=>absurd h o.out⟩,(Kp.refl _).alloc _⟩
   ·by_cases r:y=2
    ·subst r
     have HY:Hid ((∀ k,k<d.length->ahead B d k<d.getD k 0/\d.getD k 0<=I/\(ats t (2*(d.getD k 0).toNat)).kind=1)->(F↔name=0)):=λh=>⟨λe=>((C.1 e).2.2.2.2 (by decide)).2,λe=>C.2 ⟨m,.inl rfl,by omega,λh=>absurd h (by decide),λ_=>⟨s.out.2 h,e⟩⟩⟩
     have G:Hid ((¬∀ k,k<d.length->ahead B d k<d.getD k 0/\d.getD k 0<=I/\(ats t (2*(d.getD k 0).toNat)).kind=1)->¬F):=λh e=>h (s.out.1 ((C.1 e).2.2.2.2 (by decide)).1)
     have H0:Hid (ahead B d 0=B - 1):=if_pos rfl;have HS:Hid (∀ k,ahead B d (k+1)=d.getD k 0):=λk=>by
      unfold ahead;rw[if_neg (by omega),KP]
     obtain⟨U,T⟩:∃ U,d.length=U:=⟨_,rfl⟩;rw[T] at c3 HQ HY G u1;have an:U<=cq:=u1;clear C s m T u1;go_enter func76,ntmps76;go_wp2_with fail;refine(L.out _ ((Kp.refl _).alloc _)).mono ?_;rintro _ _ ⟨rfl,rfl⟩;go_wp2_with fail;refine(D.out _).mono ?_;rintro _ _ ⟨rfl,rfl⟩;clear D L;have M:=Lib.hid ((Kp.refl w).alloc (.cells #[.int .i64 2,.int .i64 name,.slice ap P cp,.slice aq U cq,.slice ah 0 ch] 81));have af:=Lib.hid (HQ.out.kp M.out);have ae:=Lib.hid (HU.out.kp M.out);clear HQ HU;go_wp2_with fail;go_loop [9,10] (λl i=>∃ k:Nat,k<=U/\i=.int .i64 (k:Int)/\l=.int .i64 (ahead B d k)/\-1<=ahead B d k/\(∀ j,j<k->ahead B d j<d.getD j 0/\d.getD j 0<=I/\(ats t (2*(d.getD j 0).toNat)).kind=1)) (λ_ i=>(U - (intOf i).toNat))
     case atStart=>exact⟨0,Jl _,rfl,by rw[H0.out],by rw[H0.out];omega,λj h=>by omega⟩
     case round=>
      obtain⟨k,hk,rfl,rfl,am,z⟩:=hrel;by_cases J:k<U
      ·obtain⟨g1,o1,rfl,_,S⟩:=af.out.at k J
       have d1:=S k J;have E:=HS.out k;have i1:IntKind.i64.wrap ((k:Int)+1)=(k:Int)+1:=IW _ (by omega);have g:Hid ((ahead B d k<d.getD k 0/\d.getD k 0<=I/\(ats t (2*(d.getD k 0).toNat)).kind=1)->∀ j,j<k+1->ahead B d j<d.getD j 0/\d.getD j 0<=I/\(ats t (2*(d.getD j 0).toNat)).kind=1):=λhe j hj=>by
        rcases JC (JN.1 hj) with h3|h3
        ·exact z j h3
        ·rw[h3];exact he
       have f:Hid (¬(ahead B d k<d.getD k 0/\d.getD k 0<=I/\(ats t (2*(d.getD k 0).toNat)).kind=1)->¬F):=λh=>G.out λh2=>h (h2 k J)
       clear S z G HY H0 HS;generalize ahead B d k=A at *;generalize d.getD k 0=V at *;by_cases g1:A<V
       ·by_cases g2:V<=I
        ·obtain⟨v,rfl⟩:=Jq (show 0<=V by omega)
         rw[Jm] at g f;obtain⟨b2,ag,e2,_,R⟩:=ae.out.at (2*v) (by omega);cases e2;obtain⟨p2,q2,h2,O⟩:=R (2*v) (by omega);have d2:=O.kind;have i4:IntKind.i64.wrap (2*(v:Int))=((2*v:Nat):Int):=by rw[IW _ (by omega)];omega
         have i5:((2*v:Nat):Int)<(N:Int):=by omega
         have X:¬(v:Int)<=A:=by omega
         have ad:¬I<(v:Int):=by omega
         clear R O;generalize (ats t (2*v)).kind=Z at *;generalize 2*v=V2 at *;by_cases g3:Z=1
         ·have HP:=Lib.hid (g.out ⟨g1,g2,g3⟩)
          subst g3;have Y:=Lib.hid E;clear g f E;go_wp2_with fail;go_round
          case rel=>exact⟨k+1,by omega,by go_num,by rw[Y.out],by rw[Y.out];omega,HP.out⟩
          case measure=>simp[intOf];omega
         ·have o:=Lib.hid (f.out λh=>g3 h.2.2)
          have ai:(Z==1)=false:=Jd.2 g3;clear g f E;go_wp2_with fail;go_ret;exact⟨⟨false,rfl,λh=>(by cases h),λh=>absurd h o.out⟩,M.out⟩
        ·have o:=Lib.hid (f.out λh=>g2 h.2.1)
         have X:¬V<=A:=by omega
         have ad:I<V:=by omega
         clear g f E;go_wp2_with fail;go_ret;exact⟨⟨false,rfl,λh=>(by cases h),λh=>absurd h o.out⟩,M.out⟩
       ·have o:=Lib.hid (f.out λh=>g1 h.1)
        have X:V<=A:=by omega
        clear g f E;go_wp2_with fail;go_ret;exact⟨⟨false,rfl,λh=>(by cases h),λh=>absurd h o.out⟩,M.out⟩
      ·obtain rfl:k=U:=by omega
       have o:=Lib.hid (HY.out z);clear HY G z HS H0;go_wp2_with fail;go_ret;exact⟨⟨_,rfl,λh=>o.out.2 (Mr.1 h),λh=>Mr.2 (o.out.1 h)⟩,M.out⟩
    ·have ab:(y==2)=false:=Jd.2 r
     have o:=Lib.hid (λe=>r (by have:=(C.1 e).2.2.1;omega));clear C s m D;go_enter func76,ntmps76;go_wp2_with fail;refine(L.out _ ((Kp.refl _).alloc _)).mono ?_;rintro _ _ ⟨rfl,rfl⟩;go_wp2_with fail;go_ret;exact⟨⟨false,rfl,λh=>(by cases h),λh=>absurd h o.out⟩,(Kp.refl _).alloc _⟩
  ·rcases HX with rfl|rfl
   ·by_cases r:y=1
    ·subst r
     have aa:d.length<=cq:=u1;have o:Hid (F↔d.length=0):=⟨λe=>(C.1 e).2.2.2.1 rfl,λe=>C.2 ⟨m,.inr rfl,by omega,λ_=>e,λh=>absurd rfl h⟩⟩;obtain⟨U,T⟩:∃ U,d.length=U:=⟨_,rfl⟩;rw[T] at c3 o aa;clear C s m D T HQ u1;go_enter func76,ntmps76;go_wp2_with fail;refine(L.out _ ((Kp.refl _).alloc _)).mono ?_;rintro _ _ ⟨rfl,rfl⟩;go_wp2_with fail;go_ret;exact⟨⟨_,rfl,λh=>o.out.2 (by have:=Mr.1 h;omega),λh=>Mr.2 (by have:=o.out.1 h;omega)⟩,(Kp.refl _).alloc _⟩
    ·have ab:(y==1)=false:=Jd.2 r
     have o:=Lib.hid (λe=>r (by have:=(C.1 e).2.2.1;omega));clear C s m D;go_enter func76,ntmps76;go_wp2_with fail;refine(L.out _ ((Kp.refl _).alloc _)).mono ?_;rintro _ _ ⟨rfl,rfl⟩;go_wp2_with fail;go_ret;exact⟨⟨false,rfl,λh=>(by cases h),λh=>absurd h o.out⟩,(Kp.refl _).alloc _⟩
   ·by_cases r:y=2
    ·subst r
     have HY:Hid ((∀ k,k<d.length->ahead B d k<d.getD k 0/\d.getD k 0<=I/\(ats t (2*(d.getD k 0).toNat)).kind=1)->(F↔name=0)):=λh=>⟨λe=>((C.1 e).2.2.2.2 (by decide)).2,λe=>C.2 ⟨m,.inr rfl,by omega,λh=>absurd h (by decide),λ_=>⟨s.out.2 h,e⟩⟩⟩
     have G:Hid ((¬∀ k,k<d.length->ahead B d k<d.getD k 0/\d.getD k 0<=I/\(ats t (2*(d.getD k 0).toNat)).kind=1)->¬F):=λh e=>h (s.out.1 ((C.1 e).2.2.2.2 (by decide)).1)
     have H0:Hid (ahead B d 0=B - 1):=if_pos rfl;have HS:Hid (∀ k,ahead B d (k+1)=d.getD k 0):=λk=>by
      unfold ahead;rw[if_neg (by omega),KP]
     obtain⟨U,T⟩:∃ U,d.length=U:=⟨_,rfl⟩;rw[T] at c3 HQ HY G u1;have an:U<=cq:=u1;clear C s m T u1;go_enter func76,ntmps76;go_wp2_with fail;refine(L.out _ ((Kp.refl _).alloc _)).mono ?_;rintro _ _ ⟨rfl,rfl⟩;go_wp2_with fail;refine(D.out _).mono ?_;rintro _ _ ⟨rfl,rfl⟩;clear D L;have M:=Lib.hid ((Kp.refl w).alloc (.cells #[.int .i64 2,.int .i64 name,.slice ap P cp,.slice aq U cq,.slice ah 32 ch] 81));have af:=Lib.hid (HQ.out.kp M.out);have ae:=Lib.hid (HU.out.kp M.out);clear HQ HU;go_wp2_with fail;go_loop [9,10] (λl i=>∃ k:Nat,k<=U/\i=.int .i64 (k:Int)/\l=.int .i64 (ahead B d k)/\-1<=ahead B d k/\(∀ j,j<k->ahead B d j<d.getD j 0/\d.getD j 0<=I/\(ats t (2*(d.getD j 0).toNat)).kind=1)) (λ_ i=>(U - (intOf i).toNat))
     case atStart=>exact⟨0,Jl _,rfl,by rw[H0.out],by rw[H0.out];omega,λj h=>by omega⟩
     case round=>
      obtain⟨k,hk,rfl,rfl,am,z⟩:=hrel;by_cases J:k<U
      ·obtain⟨g1,o1,rfl,_,S⟩:=af.out.at k J
       have d1:=S k J;have E:=HS.out k;have i1:IntKind.i64.wrap ((k:Int)+1)=(k:Int)+1:=IW _ (by omega);have g:Hid ((ahead B d k<d.getD k 0/\d.getD k 0<=I/\(ats t (2*(d.getD k 0).toNat)).kind=1)->∀ j,j<k+1->ahead B d j<d.getD j 0/\d.getD j 0<=I/\(ats t (2*(d.getD j 0).toNat)).kind=1):=λhe j hj=>by
        rcases JC (JN.1 hj) with h3|h3
        ·exact z j h3
        ·rw[h3];exact he
       have f:Hid (¬(ahead B d k<d.getD k 0/\d.getD k 0<=I/\(ats t (2*(d.getD k 0).toNat)).kind=1)->¬F):=λh=>G.out λh2=>h (h2 k J)
       clear S z G HY H0 HS;generalize ahead B d k=A at *;generalize d.getD k 0=V at *;by_cases g1:A<V
       ·by_cases g2:V<=I
        ·obtain⟨v,rfl⟩:=Jq (show 0<=V by omega)
         rw[Jm] at g f;obtain⟨b2,ag,e2,_,R⟩:=ae.out.at (2*v) (by omega);cases e2;obtain⟨p2,q2,h2,O⟩:=R (2*v) (by omega);have d2:=O.kind;have i4:IntKind.i64.wrap (2*(v:Int))=((2*v:Nat):Int):=by rw[IW _ (by omega)];omega
         have i5:((2*v:Nat):Int)<(N:Int):=by omega
         have X:¬(v:Int)<=A:=by omega
         have ad:¬I<(v:Int):=by omega
         clear R O;generalize (ats t (2*v)).kind=Z at *;generalize 2*v=V2 at *;by_cases g3:Z=1
         ·have HP:=Lib.hid (g.out ⟨g1,g2,g3⟩)
          subst g3;have Y:=Lib.hid E;clear g f E;go_wp2_with fail;go_round
          case rel=>exact⟨k+1,by omega,by go_num,by rw[Y.out],by rw[Y.out];omega,HP.out⟩
          case measure=>simp[intOf];omega
         ·have o:=Lib.hid (f.out λh=>g3 h.2.2)
          have ai:(Z==1)=false:=Jd.2 g3;clear g f E;go_wp2_with fail;go_ret;exact⟨⟨false,rfl,λh=>(by cases h),λh=>absurd h o.out⟩,M.out⟩
        ·have o:=Lib.hid (f.out λh=>g2 h.2.1)
         have X:¬V<=A:=by omega
         have ad:I<V:=by omega
         clear g f E;go_wp2_with fail;go_ret;exact⟨⟨false,rfl,λh=>(by cases h),λh=>absurd h o.out⟩,M.out⟩
       ·have o:=Lib.hid (f.out λh=>g1 h.1)
        have X:V<=A:=by omega
        clear g f E;go_wp2_with fail;go_ret;exact⟨⟨false,rfl,λh=>(by cases h),λh=>absurd h o.out⟩,M.out⟩
      ·obtain rfl:k=U:=by omega
       have o:=Lib.hid (HY.out z);clear HY G z HS H0;go_wp2_with fail;go_ret;exact⟨⟨_,rfl,λh=>o.out.2 (Mr.1 h),λh=>Mr.2 (o.out.1 h)⟩,M.out⟩
    ·have ab:(y==2)=false:=Jd.2 r
     have o:=Lib.hid (λe=>r (by have:=(C.1 e).2.2.1;omega));clear C s m D;go_enter func76,ntmps76;go_wp2_with fail;refine(L.out _ ((Kp.refl _).alloc _)).mono ?_;rintro _ _ ⟨rfl,rfl⟩;go_wp2_with fail;go_ret;exact⟨⟨false,rfl,λh=>(by cases h),λh=>absurd h o.out⟩,(Kp.refl _).alloc _⟩
  ·have ay:=nJ al
   have ax:=nJ ak;have aw:¬(H:Int)=0:=by omega
   have av:¬(H:Int)=32:=by omega
   have o:=Lib.hid (show ¬F from λe=>by have:=(C.1 e).2.1;omega);clear C s m D;go_enter func76,ntmps76;go_wp2_with fail;refine(L.out _ ((Kp.refl _).alloc _)).mono ?_;rintro _ _ ⟨rfl,rfl⟩;go_wp2_with fail;go_ret;exact⟨⟨false,rfl,λh=>(by cases h),λh=>absurd h o.out⟩,(Kp.refl _).alloc _⟩
 ·rw[Jr m] at L
  have o:=Lib.hid (λe=>m (C.1 e).1);clear C s m D;go_enter func76,ntmps76;go_wp2_with fail;refine(L.out _ ((Kp.refl _).alloc _)).mono ?_;rintro _ _ ⟨rfl,rfl⟩;go_wp2_with fail;go_ret;exact⟨⟨false,rfl,λh=>(by cases h),λh=>absurd h o.out⟩,(Kp.refl _).alloc _⟩
def Fit (t:List Nod)(i:Nat):Prop:=okP t i/\∀ j,j<i->¬((ats t i).kind=1/\(ats t j).kind=1/\(ats t i).name=(ats t j).name)
theorem CZ (o:K<=10)(m:t.length=2 ^ (K+1) - 1):fQ t↔(∀ i,i<t.length->Fit t i)/\∃ i,i<t.length/\(ats t i).kind=1:=by
 constructor
 ·rintro⟨q,h⟩
  refine⟨λi f=>⟨h.ok i f,λj n d=>h.one j i n f d.2.1 d.1 d.2.2.symm⟩,h.used⟩
 ·rintro⟨g,p⟩
  exact⟨K,o,m,λx l=>(g x l).1,λx y c k a b e=>(g y k).2 x c ⟨b,a,e.symm⟩,p⟩
theorem aR.no (h:¬p):aR (.returned (.bool false)) p:=⟨false,rfl,λh=>(by cases h),λe=>absurd e h⟩
theorem aR.yes (h:p):aR (.returned (.bool true)) p:=⟨true,rfl,λ_=>h,λ_=>rfl⟩
theorem Da (u:Value)(t:List Nod)(x K:Nat)(w:World)(b:NL w u t)(f:K<=10)(d:t.length=2 ^ (K+1) - 1)(a:x<t.length):
  Calls prog 76 #[u,.int .i64 (x:Int)] w λe w'=>aR e (okP t x)/\Kp w w':=by
 by_cases c:(ats t x).kind=0
 ·exact CW u t x w b a c
 ·exact CY u t x K w b f d a c
theorem Db (u:Value)(t:List Nod)(w:World)(Z:NL w u t)(hl:t.length<=100000):
  Calls prog 27 #[u] w λe w'=>aR e (fQ t)/\Kp w w':=by
 have HL:=Lib.hid (iP u t w Z hl);have HU:=Lib.hid Z;have ap:=iO (t:=t) hl;have T:=Lib.hid (zC ((lvs t:Nat):Int) w);obtain⟨a,c,rfl,p1,s1⟩:=Z.shape;by_cases O:cm ((lvs t:Nat):Int)=true
 ·have e1:gi ((lvs t:Nat):Int)=0:=if_pos O
  have e2:gn ((lvs t:Nat):Int)=2*((lvs t:Nat):Int) - 1:=if_pos O;rw[e1,e2] at T;obtain⟨K,hK,eK⟩:=(mj _).1 O;by_cases S:t.length=2*lvs t - 1
  ·have v:t.length=2 ^ (K+1) - 1:=by rw[bi];omega
   have ak:1<=lvs t:=by have:=bC K;omega
   have eW:2*((lvs t:Nat):Int) - 1=((t.length:Nat):Int):=by omega
   have HN:Hid (∀ x W,x<t.length->Kp w W->Calls prog 76 #[.slice a t.length c,.int .i64 (x:Int)] W λe w'=>aR e (okP t x)/\Kp W w'):=λx W hx hW=>Da _ t x K W (Z.kp hW) hK v hx
   have HI:=CZ hK v;have B:Hid ((∀ i,i<t.length->Fit t i)->(fQ t↔∃ i,i<t.length/\(ats t i).kind=1)):=λh=>⟨λe=>(HI.1 e).2,λe=>HI.2 ⟨h,e⟩⟩
   have R:Hid (∀ i,i<t.length->¬Fit t i->¬fQ t):=λi M h e=>h ((HI.1 e).1 i M)
   rw[eW] at T;generalize fQ t=RP at *;obtain⟨N,hN⟩:∃ N,t.length=N:=⟨_,rfl⟩;rw[hN] at HU p1 HL HN B R T hl ⊢;generalize lvs t=L at *;clear Z hN HI eW e1 e2 O eK S v s1;go_enter func27,ntmps27;go_wp2_with fail;refine HL.out.mono ?_;rintro _ _ ⟨rfl,rfl⟩;go_wp2_with fail;refine T.out.mono ?_;rintro _ _ ⟨rfl,rfl⟩;clear HL T;go_wp2_with fail;go_loopw[6,7] (λm x wr=>∃ k n:Nat,k<=N/\x=.int .i64 (k:Int)/\m=.int .i64 (n:Int)/\n<=k/\(0<n↔∃ i,i<k/\(ats t i).kind=1)/\(∀ i,i<k->Fit t i)/\Kp w wr) (λ_ x _=>(N - (intOf x).toNat))
   case atStart=>exact⟨0,0,Jl _,rfl,rfl,Ja _,⟨λh=>by omega,fun⟨i,h,_⟩=>by omega⟩,λi h=>by omega,Kp.refl _⟩
   case round=>
    obtain⟨k,n,hk,rfl,rfl,hn,o,A,F⟩:=hrel;by_cases C:k<N
    ·have HC:=Lib.hid (HN.out k wr C F)
     have f:=R.out k C;obtain⟨b,I,rfl,hb,hc⟩:=HU.out.at k C;have i1:IntKind.i64.wrap ((k:Int)+1)=(k:Int)+1:=IW _ (by omega);have i2:(k:Int)<(N:Int):=by omega
     have am:IntKind.i64.wrap ((n:Int)+1)=((n+1:Nat):Int):=by rw[IW _ (by omega)];omega
     have G:=Lib.hid o;have ah:=Lib.hid A;have af:=F;clear o A F HN B R;go_wp2_with fail;refine HC.out.mono ?_;rintro _ w1 ⟨⟨q,rfl,hq⟩,k1⟩;have KK:=af.trans k1;obtain⟨p,q2,h,aa⟩:=hc k C;have c0:=KK.cell aa.kind;have c1:=KK.cell aa.name;have D:Hid (∀ j,j<N->∃ X Y,X=(ats t j).kind/\Y=(ats t j).name/\w.cell? ⟨b,I+j*5,none⟩=some (.int .i64 X)/\w.cell? ⟨b,I+j*5+1,none⟩=some (.int .i64 Y)):=λj hj=>by
      obtain⟨p',q',h',ae⟩:=hc j hj;exact⟨_,_,rfl,rfl,ae.kind,ae.name⟩
     clear aa hc HC k1 af;cases q
     ·have H:=Lib.hid (f λh=>by cases hq.2 h.1)
      clear hq f;go_wp2_with fail;go_ret;exact⟨aR.no H.out,KK⟩
     ·have ad:=Lib.hid (hq.1 rfl)
      clear hq;have D1:=Lib.hid (show w.cell? ⟨b,I+k*5+1,none⟩=some (.int .i64 (ats t k).name) by
       obtain⟨X,Y,eX,eY,Q,P⟩:=D.out k C;rw[P,eY])
      have D0:=Lib.hid (show w.cell? ⟨b,I+k*5,none⟩=some (.int .i64 (ats t k).kind) by
       obtain⟨X,Y,eX,eY,Q,P⟩:=D.out k C;rw[Q,eX])
      by_cases d:(ats t k).kind=1
      ·rw[d] at D0
       have HK:=Lib.hid d;rw[d] at c0;have KD:=Lib.hid KK;clear d;go_wp2_with fail;go_loopw[9] (λy wr=>∃ j:Nat,j<=k/\y=.int .i64 (j:Int)/\(∀ i,i<j->¬((ats t k).kind=1/\(ats t i).kind=1/\(ats t k).name=(ats t i).name))/\Kp w wr) (λy _=>(k - (intOf y).toNat))
       case atStart=>exact⟨0,Jl _,rfl,λi h=>by omega,KD.out⟩
       case round=>
        obtain⟨j,hj,rfl,s,g⟩:=hrel;by_cases ag:j<k
        ·have i3:IntKind.i64.wrap ((j:Int)+1)=(j:Int)+1:=IW _ (by omega)
         have i4:(j:Int)<(N:Int):=by omega
         have i5:(j:Int)<(k:Int):=by omega
         obtain⟨X',Y',eX,eY,Q,P⟩:=D.out j (by omega);have Q:=g.cell Q;have P:=g.cell P;have l:Hid (¬((ats t k).kind=1/\(ats t j).kind=1/\(ats t k).name=(ats t j).name)->∀ i,i<j+1->¬((ats t k).kind=1/\(ats t i).kind=1/\(ats t k).name=(ats t i).name)):=λhe i M=>by
          rcases JC (JN.1 M) with r|r
          ·exact s i r
          ·rw[r];exact he
         have E:=Lib.hid g;clear g s;have d2:=E.out.cell D0.out;have d3:=E.out.cell D1.out;have HE:=Lib.hid (Jb eX eY);clear eX eY;by_cases U:X'=1
         ·subst U
          by_cases J:(ats t k).name=Y'
          ·have H:=Lib.hid (f λh=>h.2 j ag ⟨HK.out,HE.out.1.symm,J.trans HE.out.2⟩)
           generalize (ats t k).name=Y at *;subst J;clear l f HE;go_wp2_with fail;go_region
           go_wp2_with fail;go_ret;exact⟨aR.no H.out,E.out.drew⟩
          ·have HP:=Lib.hid (l.out λh=>J (h.2.2.trans HE.out.2.symm))
           have an:((ats t k).name==Y')=false:=Jd.2 J;clear l f HE;go_wp2_with fail;go_region
           go_wp2_with fail;go_roundw
           case rel=>exact⟨j+1,by omega,by go_num,HP.out,E.out.drew⟩
           case measure=>simp[intOf];omega
         ·have HP:=Lib.hid (l.out λh=>U (HE.out.1.trans h.2.1))
          have ao:(X'==1)=false:=Jd.2 U;clear l f HE;go_wp2_with fail;go_region
          go_wp2_with fail;go_roundw
          case rel=>exact⟨j+1,by omega,by go_num,HP.out,E.out.drew⟩
          case measure=>simp[intOf];omega
        ·obtain rfl:j=k:=by omega
         have HF:Hid (∀ i,i<j+1->Fit t i):=λi M=>by
          rcases JC (JN.1 M) with r|r
          ·exact ah.out i r
          ·subst r;exact⟨ad.out,s⟩
         have E:=Lib.hid g;have ab:Hid (0<n+1↔∃ i,i<j+1/\(ats t i).kind=1):=⟨λ_=>⟨j,by omega,HK.out⟩,λ_=>by omega⟩;clear g s f D;go_wp2_with fail;go_roundw
         case rel=>exact⟨j+1,n+1,by omega,by go_num,rfl,by omega,ab.out,HF.out,E.out⟩
         case measure=>simp[intOf];omega
      ·have HK:=Lib.hid d
       have ai:=Lib.hid d;obtain⟨X,hX⟩:∃ X,(ats t k).kind=X:=⟨_,rfl⟩;rw[hX] at D0 c0 HK d;clear hX;have aq:(X==1)=false:=Jd.2 d;have KD:=Lib.hid KK;clear d;go_wp2_with fail;go_loopw[9] (λy wr=>∃ j:Nat,j<=k/\y=.int .i64 (j:Int)/\(∀ i,i<j->¬(X=1/\(ats t i).kind=1/\(ats t k).name=(ats t i).name))/\Kp w wr) (λy _=>(k - (intOf y).toNat))
       case atStart=>exact⟨0,Jl _,rfl,λi h=>by omega,KD.out⟩
       case round=>
        obtain⟨j,hj,rfl,s,g⟩:=hrel;by_cases ag:j<k
        ·have i3:IntKind.i64.wrap ((j:Int)+1)=(j:Int)+1:=IW _ (by omega)
         have i4:(j:Int)<(N:Int):=by omega
         have i5:(j:Int)<(k:Int):=by omega
         obtain⟨X',Y',eX,eY,Q,P⟩:=D.out j (by omega);have Q:=g.cell Q;have P:=g.cell P;have l:Hid (¬(X=1/\(ats t j).kind=1/\(ats t k).name=(ats t j).name)->∀ i,i<j+1->¬(X=1/\(ats t i).kind=1/\(ats t k).name=(ats t i).name)):=λhe i M=>by
          rcases JC (JN.1 M) with r|r
          ·exact s i r
          ·rw[r];exact he
         have E:=Lib.hid g;clear g s;have d2:=E.out.cell D0.out;have HP:=Lib.hid (l.out λh=>HK.out h.1);clear l f eX eY Q P;go_wp2_with fail;go_region
         go_wp2_with fail;go_roundw
         case rel=>exact⟨j+1,by omega,by go_num,HP.out,E.out.drew⟩
         case measure=>simp[intOf];omega
        ·obtain rfl:j=k:=by omega
         have HF:Hid (∀ i,i<j+1->Fit t i):=λi M=>by
          rcases JC (JN.1 M) with r|r
          ·exact ah.out i r
          ·subst r;exact⟨ad.out,λz hz hc=>ai.out hc.1⟩
         have E:=Lib.hid g;have ab:Hid (0<n↔∃ i,i<j+1/\(ats t i).kind=1):=⟨λh=>by
          obtain⟨i,a1,a2⟩:=G.out.1 h;exact⟨i,by omega,a2⟩,fun⟨i,a1,a2⟩=>G.out.2 ⟨i,by
          rcases JC (JN.1 a1) with r|r
          ·exact r
          ·subst r;exact absurd a2 ai.out,a2⟩⟩
         clear g s f D;go_wp2_with fail;go_roundw
         case rel=>exact⟨j+1,n,by omega,by go_num,rfl,by omega,ab.out,HF.out,E.out⟩
         case measure=>simp[intOf];omega
    ·obtain rfl:k=N:=by omega
     have H:=Lib.hid (B.out A);have G:=Lib.hid o;have KK:=Lib.hid F;clear B R A o F HN;go_wp2_with fail;go_ret;refine⟨⟨_,rfl,λh=>H.out.2 (G.out.1 ?_),λh=>?_⟩,KK.out⟩
     ·have:=Kz h;omega
     ·have:=G.out.2 (H.out.1 h)
      exact Jy (by omega)
  ·have H:Hid (¬fQ t):=λh=>by
    obtain⟨K',h⟩:=h;have h1:=h.lv;have h2:=h.len2;omega
   have aj:¬2*((lvs t:Nat):Int) - 1=(t.length:Int):=by
    have:1<=lvs t:=by have:=bC K;omega
    omega
   have al:(2*((lvs t:Nat):Int) - 1==(t.length:Int))=false:=Jd.2 aj;generalize fQ t=RP at *;generalize lvs t=L at *;generalize 2*(L:Int) - 1=V at *;clear Z HU e1 e2 O eK S;go_enter func27,ntmps27;go_wp2_with fail;refine HL.out.mono ?_;rintro _ _ ⟨rfl,rfl⟩;go_wp2_with fail;refine T.out.mono ?_;rintro _ _ ⟨rfl,rfl⟩;go_wp2_with fail;go_ret;exact⟨aR.no H.out,Kp.refl _⟩
 ·have e1:gi ((lvs t:Nat):Int)=1:=if_neg O
  have e2:gn ((lvs t:Nat):Int)=0:=if_neg O;rw[e1,e2] at T;have H:Hid (¬fQ t):=λh=>by
   obtain⟨K',h⟩:=h;exact O ((mj _).2 ⟨K',h.le,by rw[h.lv]⟩)
  generalize fQ t=RP at *;generalize lvs t=L at *;clear Z HU e1 e2 O;go_enter func27,ntmps27;go_wp2_with fail;refine HL.out.mono ?_;rintro _ _ ⟨rfl,rfl⟩;go_wp2_with fail;refine T.out.mono ?_;rintro _ _ ⟨rfl,rfl⟩;go_wp2_with fail;go_ret;exact⟨aR.no H.out,Kp.refl _⟩
theorem OI.own_ge (h:OI e w B v l):∀ k,v.ownBlock=some k->B<=k:=λk a=>(h.lt k a).1
theorem NO.own_ge (h:NO e w B v t):∀ k,v.ownBlock=some k->B<=k:=λk a=>(h.lt k a).1
theorem OI.lit1 (w:World)(e:TypeId)(n:Int):RI (w.alloc (.cells #[.int .i64 n] e)) (.slice (some ⟨w.heap.size,0,none⟩) 1 1) [n]:=(RI.lit w e #[.int .i64 n] [n] 1 rfl (by omega) rfl).ri
structure dk (l:List Int)(n:Int)(k:Nat)(d:Bool)(o:List Int):Prop where
 mk ::
 no:d=false->k<=gy l n/\o=l.take k
 yes:d=true->gy l n<k/\o=l.take (gy l n)++n :: (l.take k).drop (gy l n)
theorem nL (h:k<l.length):l.getD k 0=l[k]:=by
 rw[IU,IV h];rfl
theorem dk.start (l:List Int)(n:Int):dk l n 0 false []:=⟨λ_=>⟨Jl _,by simp⟩,λh=>(by cases h)⟩
theorem dk.low (h:dk l n k false o)(a:k<l.length)(c:¬n<l.getD k 0):dk l n (k+1) false (o++[l.getD k 0]):=by
 obtain⟨e,d⟩:=h.no rfl;refine⟨λ_=>⟨?_,?_⟩,λh=>(by cases h)⟩
 ·rcases JC e with b|b
  ·exact b
  ·exfalso
   subst b;have:=Af (l:=l) (n:=n) a;rw[nL a] at c;exact c this
 ·rw[d,nL a,Jp a]
theorem dk.in (h:dk l n k false o)(a:k<l.length)(c:n<l.getD k 0):dk l n (k+1) true ((o++[n])++[l.getD k 0]):=by
 obtain⟨f,d⟩:=h.no rfl;have e:k=gy l n:=by
  rcases JC f with b|b
  ·exfalso
   have:=Ae b a;rw[nL a] at c;omega
  ·exact b
 refine⟨λh=>(by cases h),λ_=>⟨by omega,?_⟩⟩;rw[d,<-e,nL a,Jp a,Lf (by rw[Jv];omega),List.drop_of_length_le (by rw[Jv];omega)];simp
theorem dk.high (h:dk l n k true o)(a:k<l.length):dk l n (k+1) true (o++[l.getD k 0]):=by
 obtain⟨c,b⟩:=h.yes rfl;refine⟨λh=>(by cases h),λ_=>⟨by omega,?_⟩⟩;rw[b,nL a,Jp a,Lf (by rw[Jv];omega)];simp
theorem dk.endNo (h:dk l n l.length false o):o++[n]=jw l n:=by
 obtain⟨b,a⟩:=h.no rfl;have:=Ag l n;have e:gy l n=l.length:=by omega
 unfold jw;rw[a,e,MJ]
theorem dk.endYes (h:dk l n l.length true o):o=jw l n:=by
 obtain⟨b,a⟩:=h.yes rfl;rw[a,JM];rfl
theorem dk.len {d:Bool}(h:dk l n k d o)(b:k<=l.length):o.length<=k+1:=by
 cases d
 ·rw[(h.no rfl).2,Jv];omega
 ·obtain⟨c,a⟩:=h.yes rfl
  rw[a,Jc,Jo,Jv,Ky,Jv];omega
theorem vV (u:Value)(l:List Int)(n:Int)(w:World)(O:RI w u l)(hl:l.length<=100000):
  Calls prog 87 #[u,.int .i64 n] w λe w'=>(∃ r,e=.returned r/\OI 3 w' w.heap.size r (jw l n))/\Kp w w':=by
 have S:=fX;have T:=Lib.hid O;obtain⟨a,c,rfl,p1,Z⟩:=O.shape;unfold maxLen at Z;obtain⟨N,Y⟩:∃ N,l.length=N:=⟨_,rfl⟩;have j:=Lib.hid (λk o h y Q=>dk.low (l:=l) (n:=n) (k:=k) (o:=o) h y Q);have B:=Lib.hid (λk o h y Q=>dk.in (l:=l) (n:=n) (k:=k) (o:=o) h y Q);have g:=Lib.hid (λk o h y=>dk.high (l:=l) (n:=n) (k:=k) (o:=o) h y);have m:=Lib.hid (λk d o h y=>dk.len (l:=l) (n:=n) (k:=k) (d:=d) (o:=o) h y);have x:=Lib.hid (λo h=>dk.endNo (l:=l) (n:=n) (o:=o) h);have t:=Lib.hid (λo h=>dk.endYes (l:=l) (n:=n) (o:=o) h);have I:=Lib.hid (dk.start l n);rw[Y] at T p1 j B g m x t hl ⊢;generalize jw l n=ab at *;clear O Y;go_enter func87,ntmps87;go_wp2_with fail;go_loopw[5,6,7] (λv d i wr=>∃ (k:Nat) (b:Bool) (o:List Int),k<=N/\i=.int .i64 (k:Int)/\d=.bool b/\OI 3 wr w.heap.size v o/\dk l n k b o/\Kp w wr) (λ_ _ i _=>(N - (intOf i).toNat))
 case atStart=>exact⟨0,false,[],Jl _,rfl,rfl,OI.nil _ _ _,I.out,Kp.refl _⟩
 case round=>
  obtain⟨k,b,o,y,rfl,rfl,q,s,f⟩:=hrel;have aa:=m.out k b o s y;by_cases p:k<N
  ·obtain⟨g1,o1,rfl,_,G⟩:=T.out.at k p
   have h1:=f.cell (G k p);have HC:Hid (∀ W,Kp w W->W.cell? ⟨g1,o1+k,none⟩=some (.int .i64 (l.getD k 0))):=λW hW=>hW.cell (G k p)
   have i1:IntKind.i64.wrap ((k:Int)+1)=(k:Int)+1:=IW _ (by omega);have A:=j.out k o;have K:=B.out k o;have C:=g.out k o;have P:=f.size;clear G j B g m x t I;generalize l.getD k 0=X at *;cases b
   ·by_cases hx:n<X
    ·have z:=Lib.hid (K s p hx)
     clear A K C s;go_wp2_with(first
      | (at_builtin;refine gx (o:=⟨some 27,_,_,_,_,_⟩) S rfl _ _ rfl w.heap.size _ o rfl (q.kp ((Kp.refl wr).alloc _)) _ [n] rfl (OI.lit1 wr 3 n) (by simp;omega) (by simp;omega) ?_;intro v4 J U g4;have M:Kp w J:=Kp.grown (f.alloc _) g4 q.own_ge;have h4:=HC.out J M;have V:=M.size)
      | (at_builtin;refine gx (o:=⟨some 34,_,_,_,_,_⟩) S rfl _ _ rfl w.heap.size _ (o++[n]) rfl (U.kp ((Kp.refl J).alloc _)) _ [X] rfl (OI.lit1 J 3 X) (by simp;omega) (by simp;omega) ?_;intro L E D H;have F:Kp w E:=Kp.grown (M.alloc _) H U.own_ge))
     go_roundw
     case rel=>exact⟨k+1,true,_,by omega,by go_num,rfl,D,z.out,F⟩
     case measure=>simp[intOf];omega
    ·have z:=Lib.hid (A s p (by omega))
     clear A K C s;go_wp2_with(at_builtin;refine gx (o:=⟨some 34,_,_,_,_,_⟩) S rfl _ _ rfl w.heap.size _ o rfl (q.kp ((Kp.refl wr).alloc _)) _ [X] rfl (OI.lit1 wr 3 X) (by simp;omega) (by simp;omega) ?_;intro L E D H;have F:Kp w E:=Kp.grown (f.alloc _) H q.own_ge)
     go_roundw
     case rel=>exact⟨k+1,false,_,by omega,by go_num,rfl,D,z.out,F⟩
     case measure=>simp[intOf];omega
   ·have z:=Lib.hid (C s p)
    clear A K C s;go_wp2_with(at_builtin;refine gx (o:=⟨some 34,_,_,_,_,_⟩) S rfl _ _ rfl w.heap.size _ o rfl (q.kp ((Kp.refl wr).alloc _)) _ [X] rfl (OI.lit1 wr 3 X) (by simp;omega) (by simp;omega) ?_;intro L E D H;have F:Kp w E:=Kp.grown (f.alloc _) H q.own_ge)
    go_roundw
    case rel=>exact⟨k+1,true,_,by omega,by go_num,rfl,D,z.out,F⟩
    case measure=>simp[intOf];omega
  ·obtain rfl:k=N:=by omega
   have P:=f.size;clear j B g m I T;cases b
   ·have z:=Lib.hid (x.out o s)
    clear s x t;go_wp2_with(at_builtin;refine gx (o:=⟨some 40,_,_,_,_,_⟩) S rfl _ _ rfl w.heap.size _ o rfl (q.kp ((Kp.refl wr).alloc _)) _ [n] rfl (OI.lit1 wr 3 n) (by simp;omega) (by simp;omega) ?_;intro L E D H;have F:Kp w E:=Kp.grown (f.alloc _) H q.own_ge)
    rw[z.out] at D;have R:=Lib.hid F;go_ret;exact⟨⟨_,rfl,D⟩,R.out⟩
   ·have z:=Lib.hid (t.out o s)
    clear s x t;rw[z.out] at q;have HO:=Lib.hid q;have R:=Lib.hid f;obtain⟨a5,n5,c5,rfl⟩:=q.ri.sl;clear q f;go_wp2_with fail;go_ret;exact⟨⟨_,rfl,HO.out⟩,R.out⟩
theorem vW (a:K<=10)(g:t.length=2 ^ (K+1) - 1)(b:i<2 ^ K):
  arE (2*(i:Int)) ((lvs t:Nat):Int)=0/\mr (2*(i:Int)) ((lvs t:Nat):Int)=aP t i:=by
 have f:lvs t=2 ^ K:=by
  have:=bi K;have:=bC K;unfold lvs;omega
 have e:(2*(i:Int))=((nd 0 i:Nat):Int):=by rw[fa];omega
 obtain⟨d,c,_⟩:=tt (K:=K) (j:=0) (q:=i) a (by omega) (by simpa using b);unfold aP lgT;rw[f,e,d,c,qG a];exact⟨rfl,rfl⟩
theorem rM (u:Value)(t:List Nod)(K i:Nat)(w:World)(f:NL w u t)(h:K<=10)(j:t.length=2 ^ (K+1) - 1)(k:i<2 ^ K):
  Calls prog 86 #[u,.int .i64 (i:Int)] w λe w'=>(∃ r,e=.returned r/\OI 3 w' w.heap.size r ((aP t i).map fun(n:Nat)=>(n:Int)))/\Kp w w':=by
 have s:=bP h;have g:=bi K;have b:t.length<=100000:=by omega
 have p:=Lib.hid (iP u t w f b);obtain⟨m,l⟩:=vW h j k;have o:Hid (∀ W,Calls prog 48 #[.int .i64 (2*(i:Int)),.int .i64 ((lvs t:Nat):Int)] W λe w'=>(∃ v,e=.returned (.tuple #[v,.int .i64 0])/\ON 3 w' W.heap.size v (aP t i))/\Kp W w'):=λW=>by
  have:=vR (2*(i:Int)) ((lvs t:Nat):Int) W (by have:=iO b;omega);rwa [m,l] at this
 have A:IntKind.i64.wrap (2*(i:Int))=2*(i:Int):=IW _ (by omega);obtain⟨a,c,rfl,_,_⟩:=f.shape;generalize t.length=N at *;generalize lvs t=L at *;generalize aP t i=D at *;clear f m l h j s g k b;go_enter func86,ntmps86;go_wp2_with fail;refine p.out.mono ?_;rintro _ _ ⟨rfl,rfl⟩;clear p;go_wp2_with fail;refine(o.out _).mono ?_;rintro _ y ⟨⟨v,rfl,d⟩,q⟩;have x:=Lib.hid d.oi;obtain⟨C,z,B,rfl⟩:=d.rn.sl;clear o d;go_wp2_with fail;go_ret;exact⟨⟨_,rfl,x.out⟩,q⟩
theorem Dc (u:Value)(t:List Nod)(i:Int)(w:World)(f:NL w u t)(m:t.length<=100000):
  Calls prog 155 #[u,.int .i64 i] w λe w'=>e=.returned (.bool (decide (bf t i)))/\w=w':=by
 have n:=Lib.hid (iP u t w f m);have l:=iO (t:=t) m;obtain⟨a,c,rfl,p1,B⟩:=f.shape;by_cases s:0<=i
 ·obtain⟨k,rfl⟩:=Jq s
  by_cases z:k<lvs t
  ·have d:=lN z
   obtain⟨b,v,rfl,y,r⟩:=f.at (2*k) d;obtain⟨p,q,h,o⟩:=r (2*k) d;have E:=o.kind;have D:IntKind.i64.wrap (2*(k:Int))=((2*k:Nat):Int):=by rw[IW _ (by omega)];omega
   have C:((2*k:Nat):Int)<(t.length:Int):=by omega
   have x:(k:Int)<((lvs t:Nat):Int):=by omega
   have e:decide (bf t (k:Int))=decide ((ats t (2*k)).kind=1):=decide_eq_decide.2 ⟨λh=>by have:=h.2.2;rwa [Jm] at this,λh=>⟨by omega,by omega,by rw[Jm];exact h⟩⟩;rw[e];generalize (ats t (2*k)).kind=X at *;generalize lvs t=L at *;generalize t.length=N at *;generalize 2*k=F at *;clear r o f e y d;go_enter func155,ntmps155;go_wp2_with fail;refine n.out.mono ?_;rintro _ _ ⟨rfl,rfl⟩;by_cases j:X=1
   ·subst j
    go_wp2_with fail;go_ret;exact⟨rfl,rfl⟩
   ·have g:(X==1)=false:=Jd.2 j
    have A:=Lib.hid (Jr j);go_wp2_with fail;go_ret;exact⟨by rw[A.out] <;> first|rfl|simp[g],rfl⟩
  ·have e:decide (bf t (k:Int))=false:=Jr λh=>by have:=h.2.1;omega
   have x:¬(k:Int)<((lvs t:Nat):Int):=by omega
   rw[e];generalize lvs t=L at *;generalize t.length=N at *;clear f e;go_enter func155,ntmps155;go_wp2_with fail;refine n.out.mono ?_;rintro _ _ ⟨rfl,rfl⟩;go_wp2_with fail;go_ret;exact⟨rfl,rfl⟩
 ·have e:decide (bf t i)=false:=Jr λh=>s h.1
  rw[e];generalize t.length=N at *;clear f e n l m;go_enter func155,ntmps155;go_wp2_with fail;go_ret;exact⟨rfl,rfl⟩
theorem lO (e:K<=10)(c:t.length=2 ^ (K+1) - 1)(d:i<2 ^ K):aP t i=aK K 0 i/\(∀ k,k<(aP t i).length->(aP t i).getD k 0<t.length)/\(aP t i).length=K:=by
 have f:lvs t=2 ^ K:=by
  have:=bi K;have:=bC K;unfold lvs;omega
 have a:aP t i=aK K 0 i:=by
  unfold aP lgT;rw[f,qG e]
 refine⟨a,λk b=>?_,by rw[a,mg];rfl⟩;rw[IU,IV b,c];refine fd d ?_;rw[<-a];exact JD b
theorem pz (l:List Nat)(k:Nat)(h:k<l.length):(l.map fun(n:Nat)=>(n:Int)).getD k 0=((l.getD k 0:Nat):Int):=by
 rw[IU,JQ,IV h,IU,IV h];rfl
theorem pA {α β:Type}(f:β->α->β)(b:β)(l:List α)(k:Nat)(d:α)(h:k<l.length):(l.take (k+1)).foldl f b=f ((l.take k).foldl f b) (l.getD k d):=by
 rw[Jp h,List.foldl_append,IU,IV h];rfl
theorem iQ:(prog.info? 81).map (·.size)=some 5:=by kernel_rfl
theorem Dd (u:Value)(t:List Nod)(K i:Nat)(w:World)(P:NL w u t)(hK:K<=10)(hl:t.length=2 ^ (K+1) - 1)(hi:i<2 ^ K):
  Calls prog 156 #[u,.int .i64 (i:Int)] w λe w'=>(∃ r,e=.returned r/\NO 81 w' w.heap.size r (gQ t i))/\Kp w w':=by
 have S:=pr;have hp:=bP hK;have Y:=bi K;have Z:=bC K;obtain⟨q1,q2,M⟩:=lO hK hl hi;have HP:=Lib.hid (λW (hW:Kp w W)=>rM u t K i W (P.kp hW) hK hl hi);have HA:=Lib.hid (fun(v:Value) (hv:∀ g,v.ownBlock=some g->w.heap.size<=g) (W:World) (hW:Kp w W)=>P.apart (v:=v) hW hv);have ab:0<t.length:=by omega
 have aa:t.length<=1000000:=by omega
 have j:=Lib.hid q2;have G:Hid (∀ k,k<(aP t i).length->((aP t i).take (k+1)).foldl (λo x=>o.set x aY) t=(((aP t i).take k).foldl (λo x=>o.set x aY) t).set ((aP t i).getD k 0) aY):=λk s=>pA _ _ _ k 0 s
 have p:Hid (((aP t i).take 0).foldl (λo x=>o.set x aY) t=t):=rfl;have f:Hid (((aP t i).take (aP t i).length).foldl (λo x=>o.set x aY) t=gQ t i):=by unfold Hid;rw[JM];rfl
 have d:Hid (∀ k,(((aP t i).take k).foldl (λo x=>o.set x aY) t).length=t.length):=λk=>tQ _ _
 have m:=Lib.hid (λk h=>pz (aP t i) k h);obtain⟨F,hF⟩:∃ F:Nat->List Nod,F=λk=>((aP t i).take k).foldl (λo x=>o.set x aY) t:=⟨_,rfl⟩
 have C:∀ k,((aP t i).take k).foldl (λo x=>o.set x aY) t=F k:=λk=>by rw[hF]
 simp only[C] at G p f d;generalize gQ t i=ai at *;have af:Hid (((aP t i).map fun(n:Nat)=>(n:Int)).length=K):=by unfold Hid;rw[JI,M]
 have R:=M;generalize ad:(aP t i).map (fun(n:Nat)=>(n:Int))=PI at *;generalize aP t i=PT at *;obtain⟨a,c,rfl,p1,s1⟩:=P.shape;obtain⟨N,hN⟩:∃ N,t.length=N:=⟨_,rfl⟩;rw[hN] at p1 d j aa ab HP HA ⊢;rw[M] at G f j m;clear P hl q1 q2 M R hF C hp Y Z hi ad;go_enter func156,ntmps156;go_wp2_with(at_builtin;refine mB S rfl _ _ rfl w.heap.size _ [] rfl (NO.empty 81 w) _ t rfl (HA.out _ (λg hg=>by cases hg;exact Ja _) _ ((Kp.refl _).alloc _)) (by simp;omega) (by simp) ?_;intro v1 w1 q g1 _;have O:Kp w w1:=Kp.grown ((Kp.refl _).alloc _) g1 (λk s=>by cases s;exact Ja _);rw[JR] at q)
 obtain⟨D,E,rfl,b1,b2,b3,b4,_⟩:=q.form (by omega);rw[hN] at q b3 ⊢;have ag:=Lib.hid O;go_wp2_with fail;refine(HP.out w1 O).mono ?_;rintro _ w2 ⟨⟨pv,rfl,U⟩,V⟩;have B:aQ (.slice (some ⟨D,0,none⟩) N E) pv:=U.apart (λg hg=>by cases hg;exact b2);have J:=Lib.hid B;have L:=U.ri;obtain⟨ap,cp,e2,p2,s2⟩:=L.shape;subst e2;rw[af.out] at L p2 J ⊢;have I:=Lib.hid L;have HO:=Lib.hid (q.kp V);have HK:=Lib.hid (O.trans V);clear HP HA q U L B O V hN;go_wp2_with fail;go_loopw[7] (λx wr=>∃ k:Nat,k<=K/\x=.int .i64 (k:Int)/\NO 81 wr w.heap.size (.slice (some ⟨D,0,none⟩) N E) (F k)/\RI wr (.slice ap K cp) PI/\Kp w wr) (λx _=>(K - (intOf x).toNat))
 case atStart=>exact⟨0,Jl _,rfl,by rw[p.out];exact HO.out,I.out,HK.out⟩
 case round=>
  obtain⟨k,s,rfl,z,Q,l⟩:=hrel;by_cases b:k<K
  ·obtain⟨g1,q,rfl,_,A⟩:=Q.at k b
   have h1:=A k b;rw[m.out k b] at h1;have ah:=j.out k b;have ae:=Lib.hid (G.out k b);have aj:=d.out k;have i1:IntKind.i64.wrap ((k:Int)+1)=(k:Int)+1:=IW _ (by omega);have i3:((PT.getD k 0:Nat):Int)<(N:Int):=by omega
   have H:=Lib.hid Q;clear G d j m A p f HO I HK;generalize PT.getD k 0=X at *;go_wp2_with(refine kZ iQ rfl rfl (.tmp 26) (.tmp 25) rfl w.heap.size D E N (F k) z X (by omega) aY (.slice none 0 0) (.slice none 0 0) (.slice none 0 0) rfl rfl ⟨cL _,RI.nil _,cL _⟩ (aQ.nil _ _ _) (aQ.nil _ _ _) (aQ.nil _ _ _) ?_;intro w5 T g5)
   have k5:Kp w w5:=Kp.grown (v:=.slice (some ⟨D,0,none⟩) N E) l g5 (λk s=>by cases s;exact b1);have r5:=H.out.grown9 (v:=.slice (some ⟨D,0,none⟩) N E) g5 J.out;rw[<-ae.out] at T;have y:=Lib.hid (Jb T (Jb r5 k5));clear z Q l T g5 k5 r5 H;go_wp2_with fail;go_roundw
   case rel=>exact⟨k+1,by omega,by go_num,y.out.1,y.out.2.1,y.out.2.2⟩
   case measure=>simp[intOf];omega
  ·obtain rfl:k=K:=by omega
   rw[f.out] at z;have y:=Lib.hid (Jb z l);clear G d j m f Q z l;go_wp2_with fail;go_ret;exact⟨⟨_,rfl,y.out.1⟩,y.out.2⟩

import Derived.Test.YthmhklmkgkfcpaaGreatDoorV8
set_option linter.all false
set_option maxHeartbeats 8000000
set_option maxRecDepth 100000
namespace Go.Proofs.YthmhklmkgkfcpaaGreatDoor
open Go.Proofs.Tryz Go.RowKit
variable {B K k:Nat}{e:TypeId}{l o:List Int}{n:Int}{p:Prop}{t:List Nod}{v:Value}{w:World}
def aL (e:Ending)(p:Prop):Prop:=∃ b,e=.returned (.bool b)/\(b=true↔p)
theorem mH {a b:Nat}(h:a≠b):((a:Int)==(b:Int))=false:=ID.2 (by omega)
theorem CE (u:Value)(t:List Nod)(x:Nat)(w:World)(k:NL w u t)(j:x<t.length)(l:(ats t x).kind=0):
  Calls prog 76 #[u,.int .i64 (x:Int)] w λe w'=>aL e (okP t x)/\Kp w w':=by
 obtain⟨a,c,rfl,p1,D⟩:=k.shape;unfold maxLen at D;obtain⟨b,E,rfl,G,A⟩:=k.at x j;obtain⟨p,q,h,f⟩:=A x j;have M:=f.kind;have L:=f.name;have K:=f.pubC;have J:=f.unC;have I:=f.hashC;have d:=CB l;obtain⟨T,Q,rfl,_,_⟩:=f.2.pub.shape;obtain⟨S,O,rfl,_,_⟩:=f.2.un.shape;obtain⟨V,R,rfl,_,_⟩:=f.2.hash.shape;have F:(x:Int)<(t.length:Int):=by omega
 obtain⟨N,B⟩:∃ N,t.length=N:=⟨_,rfl⟩;rw[B] at F p1 ⊢;generalize (ats t x)=n at *;obtain⟨z,name,pub,C,i⟩:=n;simp only at l d M L K J I ⊢;subst l;generalize pub.length=P at *;generalize C.length=U at *;generalize i.length=H at *;clear f A k B G j;by_cases s:name=0
 ·subst s
  by_cases r:P=0
  ·subst r
   by_cases o:U=0
   ·subst o
    by_cases m:H=0
    ·subst m
     have g:=Lib.hid (d.2 ⟨rfl,rfl,rfl,rfl⟩);clear d;go_enter func76,ntmps76;go_wp2_with fail;go_ret;exact⟨⟨true,rfl,λ_=>g.out,λ_=>rfl⟩,(Kp.refl _).alloc _⟩
    ·have g:=Lib.hid (λe=>m (d.1 e).2.2.2)
     have y:=mH m;have v:¬(H:Int)=0:=by omega
     clear d;go_enter func76,ntmps76;go_wp2_with fail;go_ret;exact⟨⟨_,rfl,λh=>absurd (LR.1 h) v,λh=>absurd h g.out⟩,(Kp.refl _).alloc _⟩
   ·have g:=Lib.hid (λe=>o (d.1 e).2.2.1)
    have y:=mH o;have v:¬(U:Int)=0:=by omega
    clear d;go_enter func76,ntmps76;go_wp2_with fail;go_ret;exact⟨⟨false,rfl,λh=>(by cases h),λh=>absurd h g.out⟩,(Kp.refl _).alloc _⟩
  ·have g:=Lib.hid (λe=>r (d.1 e).2.1)
   have y:=mH r;have v:¬(P:Int)=0:=by omega
   clear d;go_enter func76,ntmps76;go_wp2_with fail;go_ret;exact⟨⟨false,rfl,λh=>(by cases h),λh=>absurd h g.out⟩,(Kp.refl _).alloc _⟩
 ·have g:=Lib.hid (λe=>s (d.1 e).1)
  have y:(name==0)=false:=ID.2 s;clear d;go_enter func76,ntmps76;go_wp2_with fail;go_ret;exact⟨⟨false,rfl,λh=>(by cases h),λh=>absurd h g.out⟩,(Kp.refl _).alloc _⟩
def ahead (lo:Int)(l:List Int)(k:Nat):Int:=if k=0 then lo - 1 else l.getD (k - 1) 0
theorem CF (t:List Nod)(q c:Int)(l:List Int):unP t q c l↔∀ k,k<l.length->ahead q l k<l.getD k 0/\l.getD k 0<=c/\(ats t (2*(l.getD k 0).toNat)).kind=1:=by
 have f:∀ k (h:k<l.length),l.getD k 0=l[k]:=λk h=>by rw[Iw,Iy h];rfl
 constructor
 ·rintro⟨x,w⟩ k g
  rw[f k g];obtain⟨a,p,o⟩:=w l[k] (Jg g);refine⟨?_,p,o⟩;unfold ahead;by_cases n:k=0
  ·rw[if_pos n];omega
  ·rw[if_neg n,f _ (by omega)]
   exact(Jv.1 x) (k - 1) k (by omega) g (by omega)
 ·intro h
  have m:∀ d i j (c:i<l.length) (b:j<l.length),j=i+d+1->l[i]<l[j]:=by
   intro d;induction d with
   | zero=>
    intro i j c b e;obtain⟨a,_⟩:=h j b;unfold ahead at a;rw[if_neg (by omega),f _ (by omega),f _ b] at a;have:j - 1=i:=by omega
    subst this;exact a
   | succ d ih=>
    intro i j c b e;obtain⟨a,_⟩:=h j b;unfold ahead at a;rw[if_neg (by omega),f _ (by omega),f _ b] at a;have:=ih i (j - 1) c (by omega) (by omega);omega
  refine⟨Jv.2 λi j c b u=>m (j - i - 1) i j c b (by omega),λv s=>?_⟩;obtain⟨k,g,rfl⟩:=Jr s;obtain⟨a,p,o⟩:=h k g;rw[f k g] at a p o;refine⟨?_,p,o⟩;obtain⟨r,_⟩:=h 0 (by omega);unfold ahead at r;rw[if_pos rfl,f 0 (by omega)] at r;by_cases n:k=0
  ·subst n;omega
  ·have:=m (k - 1) 0 k (by omega) g (by omega)
   omega
theorem uW {x n:Nat}(b:K<=10)(h:n=2 ^ (K+1) - 1)(g:x<n):0<=loV x/\loV x<=hiV x/\2*hiV x<(n:Int)/\hiV x<1024:=by
 subst h;obtain⟨j,q,rfl,i,a⟩:=gL K x g;obtain⟨_,d,c⟩:=dX b i a;obtain⟨f,e⟩:=ke d c;rw[f,e];have l:2 ^ K=2 ^ j*2 ^ (K - j):=by rw[<-Nat.pow_add];congr 1;omega
 have k:2 ^ j*(q+1)<=2 ^ K:=by rw[l];exact Nat.mul_le_mul_left _ a
 rw[Nat.mul_add,Mk] at k;have:=bC j;have:=bj K;have:=bY b;omega
theorem rg (x:Nat):((x:Int)).tmod 2=(x:Int) % 2:=Ji (by omega)
theorem CG (u:Value)(t:List Nod)(x K:Nat)(w:World)(hu:NL w u t)(hK:K<=10)(hl:t.length=2 ^ (K+1) - 1)(hx:x<t.length)(hk:(ats t x).kind≠0):
  Calls prog 76 #[u,.int .i64 (x:Int)] w λe w'=>aL e (okP t x)/\Kp w w':=by
 obtain⟨a,c,rfl,p1,s1⟩:=hu.shape;unfold maxLen at s1;have HU:=Lib.hid hu;obtain⟨b,ar,rfl,hb,hc⟩:=hu.at x hx;obtain⟨p,q,h,Q⟩:=hc x hx;have c0:=Q.kind;have c1:=Q.name;have c2:=Q.pubC;have c3:=Q.unC;have c4:=Q.hashC;have C:=CC hk;obtain⟨l1,l2,l3,l4⟩:=uW hK hl hx;have D:=Lib.hid (λW=>uU (x:Int) W);have s:=Lib.hid (CF t (loV x) (hiV x) (ats t x).un);have L:Hid (∀ W,Kp w W->Calls prog 84 #[.int .i64 (ats t x).name,p] W λe w'=>e=.returned (.bool (decide (dx (ats t x).name (ats t x).pub)))/\W=w'):=λW hW=>re _ _ _ W (Q.2.pub.kp hW)
 have HQ:=Lib.hid Q.2.un;obtain⟨ap,cp,rfl,_,_⟩:=Q.2.pub.shape;obtain⟨aq,cq,rfl,u1,u2⟩:=Q.2.un.shape;obtain⟨ah,ch,rfl,_,_⟩:=Q.2.hash.shape;unfold maxLen at u2;have i3:(x:Int)<(t.length:Int):=by omega
 have tm:=rg x;have tw:IntKind.i64.wrap (1+(x:Int) % 2)=1+(x:Int) % 2:=IA _ (by omega);have ao:IntKind.i64.wrap ((x:Int) % 2)=(x:Int) % 2:=IA _ (by omega);obtain⟨N,hN⟩:∃ N,t.length=N:=⟨_,rfl⟩;rw[hN] at i3 p1 l3 HU ⊢;generalize loV (x:Int)=B at *;generalize hiV (x:Int)=I at *;have lw:IntKind.i64.wrap (B - 1)=B - 1:=IA _ (by omega);generalize unP t B I (ats t x).un=UP at *;generalize okP t x=F at *;generalize (ats t x)=n at *;obtain⟨y,name,pub,d,aj⟩:=n;simp only at hk C c0 c1 c2 c3 c4 s L HQ ⊢;generalize pub.length=P at *;generalize aj.length=H at *;clear Q hc hu hN hb hx hl hK;have au:(y==0)=false:=ID.2 hk;have HX:(x:Int) % 2=0\/(x:Int) % 2=1:=by omega
 generalize (x:Int) % 2=X2 at *;by_cases m:dx name pub
 ·rw[IY m] at L
  have HH:H=0\/H=32\/(H≠0/\H≠32):=by omega
  rcases HH with rfl|rfl|⟨al,ak⟩
  ·rcases HX with rfl|rfl
   ·by_cases r:y=1
    ·subst r
     have aa:d.length<=cq:=u1;have o:Hid (F↔d.length=0):=⟨λe=>(C.1 e).2.2.2.1 rfl,λe=>C.2 ⟨m,.inl rfl,by omega,λ_=>e,λh=>absurd rfl h⟩⟩;obtain⟨U,T⟩:∃ U,d.length=U:=⟨_,rfl⟩;rw[T] at c3 o aa;clear C s m D T HQ u1;go_enter func76,ntmps76;go_wp2_with fail;refine(L.out _ ((Kp.refl _).alloc _)).mono ?_;rintro _ _ ⟨rfl,rfl⟩;go_wp2_with fail;go_ret;exact⟨⟨_,rfl,λh=>o.out.2 (by have:=LR.1 h;omega),λh=>LR.2 (by have:=o.out.1 h;omega)⟩,(Kp.refl _).alloc _⟩
    ·have ab:(y==1)=false:=ID.2 r
     have o:=Lib.hid (λe=>r (by have:=(C.1 e).2.2.1;omega));clear C s m D;go_enter func76,ntmps76;go_wp2_with fail;refine(L.out _ ((Kp.refl _).alloc _)).mono ?_;rintro _ _ ⟨rfl,rfl⟩;go_wp2_with fail;go_ret;exact⟨⟨false,rfl,λh=>(by cases h),λh=>absurd h o.out⟩,(Kp.refl _).alloc _⟩
   ·by_cases r:y=2
    ·subst r
     have HY:Hid ((∀ k,k<d.length->ahead B d k<d.getD k 0/\d.getD k 0<=I/\(ats t (2*(d.getD k 0).toNat)).kind=1)->(F↔name=0)):=λh=>⟨λe=>((C.1 e).2.2.2.2 (by decide)).2,λe=>C.2 ⟨m,.inl rfl,by omega,λh=>absurd h (by decide),λ_=>⟨s.out.2 h,e⟩⟩⟩
     have G:Hid ((¬∀ k,k<d.length->ahead B d k<d.getD k 0/\d.getD k 0<=I/\(ats t (2*(d.getD k 0).toNat)).kind=1)->¬F):=λh e=>h (s.out.1 ((C.1 e).2.2.2.2 (by decide)).1)
     have H0:Hid (ahead B d 0=B - 1):=if_pos rfl;have HS:Hid (∀ k,ahead B d (k+1)=d.getD k 0):=λk=>by
      unfold ahead;rw[if_neg (by omega),Km]
     obtain⟨U,T⟩:∃ U,d.length=U:=⟨_,rfl⟩;rw[T] at c3 HQ HY G u1;have an:U<=cq:=u1;clear C s m T u1;go_enter func76,ntmps76;go_wp2_with fail;refine(L.out _ ((Kp.refl _).alloc _)).mono ?_;rintro _ _ ⟨rfl,rfl⟩;go_wp2_with fail;refine(D.out _).mono ?_;rintro _ _ ⟨rfl,rfl⟩;clear D L;have M:=Lib.hid ((Kp.refl w).alloc (.cells #[.int .i64 2,.int .i64 name,.slice ap P cp,.slice aq U cq,.slice ah 0 ch] 81));have af:=Lib.hid (HQ.out.kp M.out);have ae:=Lib.hid (HU.out.kp M.out);clear HQ HU;go_wp2_with fail;go_loop [9,10] (λl i=>∃ k:Nat,k<=U/\i=.int .i64 (k:Int)/\l=.int .i64 (ahead B d k)/\-1<=ahead B d k/\(∀ j,j<k->ahead B d j<d.getD j 0/\d.getD j 0<=I/\(ats t (2*(d.getD j 0).toNat)).kind=1)) (λ_ i=>(U - (intOf i).toNat))
     case atStart=>exact⟨0,IO _,rfl,by rw[H0.out],by rw[H0.out];omega,λj h=>by omega⟩
     case round=>
      obtain⟨k,hk,rfl,rfl,am,z⟩:=hrel;by_cases J:k<U
      ·obtain⟨g1,o1,rfl,_,S⟩:=af.out.at k J
       have d1:=S k J;have E:=HS.out k;have i1:IntKind.i64.wrap ((k:Int)+1)=(k:Int)+1:=IA _ (by omega);have g:Hid ((ahead B d k<d.getD k 0/\d.getD k 0<=I/\(ats t (2*(d.getD k 0).toNat)).kind=1)->∀ j,j<k+1->ahead B d j<d.getD j 0/\d.getD j 0<=I/\(ats t (2*(d.getD j 0).toNat)).kind=1):=λhe j hj=>by
        rcases Jc (Jn.1 hj) with h3|h3
        ·exact z j h3
        ·rw[h3];exact he
       have f:Hid (¬(ahead B d k<d.getD k 0/\d.getD k 0<=I/\(ats t (2*(d.getD k 0).toNat)).kind=1)->¬F):=λh=>G.out λh2=>h (h2 k J)
       clear S z G HY H0 HS;generalize ahead B d k=A at *;generalize d.getD k 0=V at *;by_cases g1:A<V
       ·by_cases g2:V<=I
        ·obtain⟨v,rfl⟩:=IR (show 0<=V by omega)
         rw[IM] at g f;obtain⟨b2,ag,e2,_,R⟩:=ae.out.at (2*v) (by omega);cases e2;obtain⟨p2,q2,h2,O⟩:=R (2*v) (by omega);have d2:=O.kind;have i4:IntKind.i64.wrap (2*(v:Int))=((2*v:Nat):Int):=by rw[IA _ (by omega)];omega
         have i5:((2*v:Nat):Int)<(N:Int):=by omega
         have X:¬(v:Int)<=A:=by omega
         have ad:¬I<(v:Int):=by omega
         clear R O;generalize (ats t (2*v)).kind=Z at *;generalize 2*v=V2 at *;by_cases g3:Z=1
         ·have HP:=Lib.hid (g.out ⟨g1,g2,g3⟩)
          subst g3;have Y:=Lib.hid E;clear g f E;go_wp2_with fail;go_round
          case rel=>exact⟨k+1,by omega,by go_num,by rw[Y.out],by rw[Y.out];omega,HP.out⟩
          case measure=>simp[intOf];omega
         ·have o:=Lib.hid (f.out λh=>g3 h.2.2)
          have ai:(Z==1)=false:=ID.2 g3;clear g f E;go_wp2_with fail;go_ret;exact⟨⟨false,rfl,λh=>(by cases h),λh=>absurd h o.out⟩,M.out⟩
        ·have o:=Lib.hid (f.out λh=>g2 h.2.1)
         have X:¬V<=A:=by omega
         have ad:I<V:=by omega
         clear g f E;go_wp2_with fail;go_ret;exact⟨⟨false,rfl,λh=>(by cases h),λh=>absurd h o.out⟩,M.out⟩
       ·have o:=Lib.hid (f.out λh=>g1 h.1)
        have X:V<=A:=by omega
        clear g f E;go_wp2_with fail;go_ret;exact⟨⟨false,rfl,λh=>(by cases h),λh=>absurd h o.out⟩,M.out⟩
      ·obtain rfl:k=U:=by omega
       have o:=Lib.hid (HY.out z);clear HY G z HS H0;go_wp2_with fail;go_ret;exact⟨⟨_,rfl,λh=>o.out.2 (LR.1 h),λh=>LR.2 (o.out.1 h)⟩,M.out⟩
    ·have ab:(y==2)=false:=ID.2 r
     have o:=Lib.hid (λe=>r (by have:=(C.1 e).2.2.1;omega));clear C s m D;go_enter func76,ntmps76;go_wp2_with fail;refine(L.out _ ((Kp.refl _).alloc _)).mono ?_;rintro _ _ ⟨rfl,rfl⟩;go_wp2_with fail;go_ret;exact⟨⟨false,rfl,λh=>(by cases h),λh=>absurd h o.out⟩,(Kp.refl _).alloc _⟩
  ·rcases HX with rfl|rfl
   ·by_cases r:y=1
    ·subst r
     have aa:d.length<=cq:=u1;have o:Hid (F↔d.length=0):=⟨λe=>(C.1 e).2.2.2.1 rfl,λe=>C.2 ⟨m,.inr rfl,by omega,λ_=>e,λh=>absurd rfl h⟩⟩;obtain⟨U,T⟩:∃ U,d.length=U:=⟨_,rfl⟩;rw[T] at c3 o aa;clear C s m D T HQ u1;go_enter func76,ntmps76;go_wp2_with fail;refine(L.out _ ((Kp.refl _).alloc _)).mono ?_;rintro _ _ ⟨rfl,rfl⟩;go_wp2_with fail;go_ret;exact⟨⟨_,rfl,λh=>o.out.2 (by have:=LR.1 h;omega),λh=>LR.2 (by have:=o.out.1 h;omega)⟩,(Kp.refl _).alloc _⟩
    ·have ab:(y==1)=false:=ID.2 r
     have o:=Lib.hid (λe=>r (by have:=(C.1 e).2.2.1;omega));clear C s m D;go_enter func76,ntmps76;go_wp2_with fail;refine(L.out _ ((Kp.refl _).alloc _)).mono ?_;rintro _ _ ⟨rfl,rfl⟩;go_wp2_with fail;go_ret;exact⟨⟨false,rfl,λh=>(by cases h),λh=>absurd h o.out⟩,(Kp.refl _).alloc _⟩
   ·by_cases r:y=2
    ·subst r
     have HY:Hid ((∀ k,k<d.length->ahead B d k<d.getD k 0/\d.getD k 0<=I/\(ats t (2*(d.getD k 0).toNat)).kind=1)->(F↔name=0)):=λh=>⟨λe=>((C.1 e).2.2.2.2 (by decide)).2,λe=>C.2 ⟨m,.inr rfl,by omega,λh=>absurd h (by decide),λ_=>⟨s.out.2 h,e⟩⟩⟩
     have G:Hid ((¬∀ k,k<d.length->ahead B d k<d.getD k 0/\d.getD k 0<=I/\(ats t (2*(d.getD k 0).toNat)).kind=1)->¬F):=λh e=>h (s.out.1 ((C.1 e).2.2.2.2 (by decide)).1)
     have H0:Hid (ahead B d 0=B - 1):=if_pos rfl;have HS:Hid (∀ k,ahead B d (k+1)=d.getD k 0):=λk=>by
      unfold ahead;rw[if_neg (by omega),Km]
     obtain⟨U,T⟩:∃ U,d.length=U:=⟨_,rfl⟩;rw[T] at c3 HQ HY G u1;have an:U<=cq:=u1;clear C s m T u1;go_enter func76,ntmps76;go_wp2_with fail;refine(L.out _ ((Kp.refl _).alloc _)).mono ?_;rintro _ _ ⟨rfl,rfl⟩;go_wp2_with fail;refine(D.out _).mono ?_;rintro _ _ ⟨rfl,rfl⟩;clear D L;have M:=Lib.hid ((Kp.refl w).alloc (.cells #[.int .i64 2,.int .i64 name,.slice ap P cp,.slice aq U cq,.slice ah 32 ch] 81));have af:=Lib.hid (HQ.out.kp M.out);have ae:=Lib.hid (HU.out.kp M.out);clear HQ HU;go_wp2_with fail;go_loop [9,10] (λl i=>∃ k:Nat,k<=U/\i=.int .i64 (k:Int)/\l=.int .i64 (ahead B d k)/\-1<=ahead B d k/\(∀ j,j<k->ahead B d j<d.getD j 0/\d.getD j 0<=I/\(ats t (2*(d.getD j 0).toNat)).kind=1)) (λ_ i=>(U - (intOf i).toNat))
     case atStart=>exact⟨0,IO _,rfl,by rw[H0.out],by rw[H0.out];omega,λj h=>by omega⟩
     case round=>
      obtain⟨k,hk,rfl,rfl,am,z⟩:=hrel;by_cases J:k<U
      ·obtain⟨g1,o1,rfl,_,S⟩:=af.out.at k J
       have d1:=S k J;have E:=HS.out k;have i1:IntKind.i64.wrap ((k:Int)+1)=(k:Int)+1:=IA _ (by omega);have g:Hid ((ahead B d k<d.getD k 0/\d.getD k 0<=I/\(ats t (2*(d.getD k 0).toNat)).kind=1)->∀ j,j<k+1->ahead B d j<d.getD j 0/\d.getD j 0<=I/\(ats t (2*(d.getD j 0).toNat)).kind=1):=λhe j hj=>by
        rcases Jc (Jn.1 hj) with h3|h3
        ·exact z j h3
        ·rw[h3];exact he
       have f:Hid (¬(ahead B d k<d.getD k 0/\d.getD k 0<=I/\(ats t (2*(d.getD k 0).toNat)).kind=1)->¬F):=λh=>G.out λh2=>h (h2 k J)
       clear S z G HY H0 HS;generalize ahead B d k=A at *;generalize d.getD k 0=V at *;by_cases g1:A<V
       ·by_cases g2:V<=I
        ·obtain⟨v,rfl⟩:=IR (show 0<=V by omega)
         rw[IM] at g f;obtain⟨b2,ag,e2,_,R⟩:=ae.out.at (2*v) (by omega);cases e2;obtain⟨p2,q2,h2,O⟩:=R (2*v) (by omega);have d2:=O.kind;have i4:IntKind.i64.wrap (2*(v:Int))=((2*v:Nat):Int):=by rw[IA _ (by omega)];omega
         have i5:((2*v:Nat):Int)<(N:Int):=by omega
         have X:¬(v:Int)<=A:=by omega
         have ad:¬I<(v:Int):=by omega
         clear R O;generalize (ats t (2*v)).kind=Z at *;generalize 2*v=V2 at *;by_cases g3:Z=1
         ·have HP:=Lib.hid (g.out ⟨g1,g2,g3⟩)
          subst g3;have Y:=Lib.hid E;clear g f E;go_wp2_with fail;go_round
          case rel=>exact⟨k+1,by omega,by go_num,by rw[Y.out],by rw[Y.out];omega,HP.out⟩
          case measure=>simp[intOf];omega
         ·have o:=Lib.hid (f.out λh=>g3 h.2.2)
          have ai:(Z==1)=false:=ID.2 g3;clear g f E;go_wp2_with fail;go_ret;exact⟨⟨false,rfl,λh=>(by cases h),λh=>absurd h o.out⟩,M.out⟩
        ·have o:=Lib.hid (f.out λh=>g2 h.2.1)
         have X:¬V<=A:=by omega
         have ad:I<V:=by omega
         clear g f E;go_wp2_with fail;go_ret;exact⟨⟨false,rfl,λh=>(by cases h),λh=>absurd h o.out⟩,M.out⟩
       ·have o:=Lib.hid (f.out λh=>g1 h.1)
        have X:V<=A:=by omega
        clear g f E;go_wp2_with fail;go_ret;exact⟨⟨false,rfl,λh=>(by cases h),λh=>absurd h o.out⟩,M.out⟩
      ·obtain rfl:k=U:=by omega
       have o:=Lib.hid (HY.out z);clear HY G z HS H0;go_wp2_with fail;go_ret;exact⟨⟨_,rfl,λh=>o.out.2 (LR.1 h),λh=>LR.2 (o.out.1 h)⟩,M.out⟩
    ·have ab:(y==2)=false:=ID.2 r
     have o:=Lib.hid (λe=>r (by have:=(C.1 e).2.2.1;omega));clear C s m D;go_enter func76,ntmps76;go_wp2_with fail;refine(L.out _ ((Kp.refl _).alloc _)).mono ?_;rintro _ _ ⟨rfl,rfl⟩;go_wp2_with fail;go_ret;exact⟨⟨false,rfl,λh=>(by cases h),λh=>absurd h o.out⟩,(Kp.refl _).alloc _⟩
  ·have ay:=mH al
   have ax:=mH ak;have aw:¬(H:Int)=0:=by omega
   have av:¬(H:Int)=32:=by omega
   have o:=Lib.hid (show ¬F from λe=>by have:=(C.1 e).2.1;omega);clear C s m D;go_enter func76,ntmps76;go_wp2_with fail;refine(L.out _ ((Kp.refl _).alloc _)).mono ?_;rintro _ _ ⟨rfl,rfl⟩;go_wp2_with fail;go_ret;exact⟨⟨false,rfl,λh=>(by cases h),λh=>absurd h o.out⟩,(Kp.refl _).alloc _⟩
 ·rw[IS m] at L
  have o:=Lib.hid (λe=>m (C.1 e).1);clear C s m D;go_enter func76,ntmps76;go_wp2_with fail;refine(L.out _ ((Kp.refl _).alloc _)).mono ?_;rintro _ _ ⟨rfl,rfl⟩;go_wp2_with fail;go_ret;exact⟨⟨false,rfl,λh=>(by cases h),λh=>absurd h o.out⟩,(Kp.refl _).alloc _⟩
def Fit (t:List Nod)(i:Nat):Prop:=okP t i/\∀ j,j<i->¬((ats t i).kind=1/\(ats t j).kind=1/\(ats t i).name=(ats t j).name)
theorem CH (o:K<=10)(m:t.length=2 ^ (K+1) - 1):ft t↔(∀ i,i<t.length->Fit t i)/\∃ i,i<t.length/\(ats t i).kind=1:=by
 constructor
 ·rintro⟨q,h⟩
  refine⟨λi f=>⟨h.ok i f,λj n d=>h.one j i n f d.2.1 d.1 d.2.2.symm⟩,h.used⟩
 ·rintro⟨g,p⟩
  exact⟨K,o,m,λx l=>(g x l).1,λx y c k a b e=>(g y k).2 x c ⟨b,a,e.symm⟩,p⟩
theorem aL.no (h:¬p):aL (.returned (.bool false)) p:=⟨false,rfl,λh=>(by cases h),λe=>absurd e h⟩
theorem aL.yes (h:p):aL (.returned (.bool true)) p:=⟨true,rfl,λ_=>h,λ_=>rfl⟩
theorem CI (u:Value)(t:List Nod)(x K:Nat)(w:World)(b:NL w u t)(f:K<=10)(d:t.length=2 ^ (K+1) - 1)(a:x<t.length):
  Calls prog 76 #[u,.int .i64 (x:Int)] w λe w'=>aL e (okP t x)/\Kp w w':=by
 by_cases c:(ats t x).kind=0
 ·exact CE u t x w b a c
 ·exact CG u t x K w b f d a c
theorem CJ (u:Value)(t:List Nod)(w:World)(Z:NL w u t)(hl:t.length<=100000):
  Calls prog 27 #[u] w λe w'=>aL e (ft t)/\Kp w w':=by
 have HL:=Lib.hid (jp u t w Z hl);have HU:=Lib.hid Z;have ap:=jN (t:=t) hl;have T:=Lib.hid (zb ((lvs t:Nat):Int) w);obtain⟨a,c,rfl,p1,s1⟩:=Z.shape;by_cases O:bU ((lvs t:Nat):Int)=true
 ·have e1:fK ((lvs t:Nat):Int)=0:=if_pos O
  have e2:fL ((lvs t:Nat):Int)=2*((lvs t:Nat):Int) - 1:=if_pos O;rw[e1,e2] at T;obtain⟨K,hK,eK⟩:=(lB _).1 O;by_cases S:t.length=2*lvs t - 1
  ·have v:t.length=2 ^ (K+1) - 1:=by rw[bj];omega
   have ak:1<=lvs t:=by have:=bC K;omega
   have eW:2*((lvs t:Nat):Int) - 1=((t.length:Nat):Int):=by omega
   have HN:Hid (∀ x W,x<t.length->Kp w W->Calls prog 76 #[.slice a t.length c,.int .i64 (x:Int)] W λe w'=>aL e (okP t x)/\Kp W w'):=λx W hx hW=>CI _ t x K W (Z.kp hW) hK v hx
   have HI:=CH hK v;have B:Hid ((∀ i,i<t.length->Fit t i)->(ft t↔∃ i,i<t.length/\(ats t i).kind=1)):=λh=>⟨λe=>(HI.1 e).2,λe=>HI.2 ⟨h,e⟩⟩
   have R:Hid (∀ i,i<t.length->¬Fit t i->¬ft t):=λi M h e=>h ((HI.1 e).1 i M)
   rw[eW] at T;generalize ft t=RP at *;obtain⟨N,hN⟩:∃ N,t.length=N:=⟨_,rfl⟩;rw[hN] at HU p1 HL HN B R T hl ⊢;generalize lvs t=L at *;clear Z hN HI eW e1 e2 O eK S v s1;go_enter func27,ntmps27;go_wp2_with fail;refine HL.out.mono ?_;rintro _ _ ⟨rfl,rfl⟩;go_wp2_with fail;refine T.out.mono ?_;rintro _ _ ⟨rfl,rfl⟩;clear HL T;go_wp2_with fail;go_loopw[6,7] (λm x wr=>∃ k n:Nat,k<=N/\x=.int .i64 (k:Int)/\m=.int .i64 (n:Int)/\n<=k/\(0<n↔∃ i,i<k/\(ats t i).kind=1)/\(∀ i,i<k->Fit t i)/\Kp w wr) (λ_ x _=>(N - (intOf x).toNat))
   case atStart=>exact⟨0,0,IO _,rfl,rfl,IB _,⟨λh=>by omega,fun⟨i,h,_⟩=>by omega⟩,λi h=>by omega,Kp.refl _⟩
   case round=>
    obtain⟨k,n,hk,rfl,rfl,hn,o,A,F⟩:=hrel;by_cases C:k<N
    ·have HC:=Lib.hid (HN.out k wr C F)
     have f:=R.out k C;obtain⟨b,I,rfl,hb,hc⟩:=HU.out.at k C;have i1:IntKind.i64.wrap ((k:Int)+1)=(k:Int)+1:=IA _ (by omega);have i2:(k:Int)<(N:Int):=by omega
     have am:IntKind.i64.wrap ((n:Int)+1)=((n+1:Nat):Int):=by rw[IA _ (by omega)];omega
     have G:=Lib.hid o;have ah:=Lib.hid A;have af:=F;clear o A F HN B R;go_wp2_with fail;refine HC.out.mono ?_;rintro _ w1 ⟨⟨q,rfl,hq⟩,k1⟩;have KK:=af.trans k1;obtain⟨p,q2,h,aa⟩:=hc k C;have c0:=KK.cell aa.kind;have c1:=KK.cell aa.name;have D:Hid (∀ j,j<N->∃ X Y,X=(ats t j).kind/\Y=(ats t j).name/\w.cell? ⟨b,I+j*5,none⟩=some (.int .i64 X)/\w.cell? ⟨b,I+j*5+1,none⟩=some (.int .i64 Y)):=λj hj=>by
      obtain⟨p',q',h',ae⟩:=hc j hj;exact⟨_,_,rfl,rfl,ae.kind,ae.name⟩
     clear aa hc HC k1 af;cases q
     ·have H:=Lib.hid (f λh=>by cases hq.2 h.1)
      clear hq f;go_wp2_with fail;go_ret;exact⟨aL.no H.out,KK⟩
     ·have ad:=Lib.hid (hq.1 rfl)
      clear hq;have D1:=Lib.hid (show w.cell? ⟨b,I+k*5+1,none⟩=some (.int .i64 (ats t k).name) by
       obtain⟨X,Y,eX,eY,Q,P⟩:=D.out k C;rw[P,eY])
      have D0:=Lib.hid (show w.cell? ⟨b,I+k*5,none⟩=some (.int .i64 (ats t k).kind) by
       obtain⟨X,Y,eX,eY,Q,P⟩:=D.out k C;rw[Q,eX])
      by_cases d:(ats t k).kind=1
      ·rw[d] at D0
       have HK:=Lib.hid d;rw[d] at c0;have KD:=Lib.hid KK;clear d;go_wp2_with fail;go_loopw[9] (λy wr=>∃ j:Nat,j<=k/\y=.int .i64 (j:Int)/\(∀ i,i<j->¬((ats t k).kind=1/\(ats t i).kind=1/\(ats t k).name=(ats t i).name))/\Kp w wr) (λy _=>(k - (intOf y).toNat))
       case atStart=>exact⟨0,IO _,rfl,λi h=>by omega,KD.out⟩
       case round=>
        obtain⟨j,hj,rfl,s,g⟩:=hrel;by_cases ag:j<k
        ·have i3:IntKind.i64.wrap ((j:Int)+1)=(j:Int)+1:=IA _ (by omega)
         have i4:(j:Int)<(N:Int):=by omega
         have i5:(j:Int)<(k:Int):=by omega
         obtain⟨X',Y',eX,eY,Q,P⟩:=D.out j (by omega);have Q:=g.cell Q;have P:=g.cell P;have l:Hid (¬((ats t k).kind=1/\(ats t j).kind=1/\(ats t k).name=(ats t j).name)->∀ i,i<j+1->¬((ats t k).kind=1/\(ats t i).kind=1/\(ats t k).name=(ats t i).name)):=λhe i M=>by
          rcases Jc (Jn.1 M) with r|r
          ·exact s i r
          ·rw[r];exact he
         have E:=Lib.hid g;clear g s;have d2:=E.out.cell D0.out;have d3:=E.out.cell D1.out;have HE:=Lib.hid (IC eX eY);clear eX eY;by_cases U:X'=1
         ·subst U
          by_cases J:(ats t k).name=Y'
          ·have H:=Lib.hid (f λh=>h.2 j ag ⟨HK.out,HE.out.1.symm,J.trans HE.out.2⟩)
           generalize (ats t k).name=Y at *;subst J;clear l f HE;go_wp2_with fail;go_region
           go_wp2_with fail;go_ret;exact⟨aL.no H.out,E.out.drew⟩
          ·have HP:=Lib.hid (l.out λh=>J (h.2.2.trans HE.out.2.symm))
           have an:((ats t k).name==Y')=false:=ID.2 J;clear l f HE;go_wp2_with fail;go_region
           go_wp2_with fail;go_roundw
           case rel=>exact⟨j+1,by omega,by go_num,HP.out,E.out.drew⟩
           case measure=>simp[intOf];omega
         ·have HP:=Lib.hid (l.out λh=>U (HE.out.1.trans h.2.1))
          have ao:(X'==1)=false:=ID.2 U;clear l f HE;go_wp2_with fail;go_region
          go_wp2_with fail;go_roundw
          case rel=>exact⟨j+1,by omega,by go_num,HP.out,E.out.drew⟩
          case measure=>simp[intOf];omega
        ·obtain rfl:j=k:=by omega
         have HF:Hid (∀ i,i<j+1->Fit t i):=λi M=>by
          rcases Jc (Jn.1 M) with r|r
          ·exact ah.out i r
          ·subst r;exact⟨ad.out,s⟩
         have E:=Lib.hid g;have ab:Hid (0<n+1↔∃ i,i<j+1/\(ats t i).kind=1):=⟨λ_=>⟨j,by omega,HK.out⟩,λ_=>by omega⟩;clear g s f D;go_wp2_with fail;go_roundw
         case rel=>exact⟨j+1,n+1,by omega,by go_num,rfl,by omega,ab.out,HF.out,E.out⟩
         case measure=>simp[intOf];omega
      ·have HK:=Lib.hid d
       have ai:=Lib.hid d;obtain⟨X,hX⟩:∃ X,(ats t k).kind=X:=⟨_,rfl⟩;rw[hX] at D0 c0 HK d;clear hX;have aq:(X==1)=false:=ID.2 d;have KD:=Lib.hid KK;clear d;go_wp2_with fail;go_loopw[9] (λy wr=>∃ j:Nat,j<=k/\y=.int .i64 (j:Int)/\(∀ i,i<j->¬(X=1/\(ats t i).kind=1/\(ats t k).name=(ats t i).name))/\Kp w wr) (λy _=>(k - (intOf y).toNat))
       case atStart=>exact⟨0,IO _,rfl,λi h=>by omega,KD.out⟩
       case round=>
        obtain⟨j,hj,rfl,s,g⟩:=hrel;by_cases ag:j<k
        ·have i3:IntKind.i64.wrap ((j:Int)+1)=(j:Int)+1:=IA _ (by omega)
         have i4:(j:Int)<(N:Int):=by omega
         have i5:(j:Int)<(k:Int):=by omega
         obtain⟨X',Y',eX,eY,Q,P⟩:=D.out j (by omega);have Q:=g.cell Q;have P:=g.cell P;have l:Hid (¬(X=1/\(ats t j).kind=1/\(ats t k).name=(ats t j).name)->∀ i,i<j+1->¬(X=1/\(ats t i).kind=1/\(ats t k).name=(ats t i).name)):=λhe i M=>by
          rcases Jc (Jn.1 M) with r|r
          ·exact s i r
          ·rw[r];exact he
         have E:=Lib.hid g;clear g s;have d2:=E.out.cell D0.out;have HP:=Lib.hid (l.out λh=>HK.out h.1);clear l f eX eY Q P;go_wp2_with fail;go_region
         go_wp2_with fail;go_roundw
         case rel=>exact⟨j+1,by omega,by go_num,HP.out,E.out.drew⟩
         case measure=>simp[intOf];omega
        ·obtain rfl:j=k:=by omega
         have HF:Hid (∀ i,i<j+1->Fit t i):=λi M=>by
          rcases Jc (Jn.1 M) with r|r
          ·exact ah.out i r
          ·subst r;exact⟨ad.out,λz hz hc=>ai.out hc.1⟩
         have E:=Lib.hid g;have ab:Hid (0<n↔∃ i,i<j+1/\(ats t i).kind=1):=⟨λh=>by
          obtain⟨i,a1,a2⟩:=G.out.1 h;exact⟨i,by omega,a2⟩,fun⟨i,a1,a2⟩=>G.out.2 ⟨i,by
          rcases Jc (Jn.1 a1) with r|r
          ·exact r
          ·subst r;exact absurd a2 ai.out,a2⟩⟩
         clear g s f D;go_wp2_with fail;go_roundw
         case rel=>exact⟨j+1,n,by omega,by go_num,rfl,by omega,ab.out,HF.out,E.out⟩
         case measure=>simp[intOf];omega
    ·obtain rfl:k=N:=by omega
     have H:=Lib.hid (B.out A);have G:=Lib.hid o;have KK:=Lib.hid F;clear B R A o F HN;go_wp2_with fail;go_ret;refine⟨⟨_,rfl,λh=>H.out.2 (G.out.1 ?_),λh=>?_⟩,KK.out⟩
     ·have:=JU h;omega
     ·have:=G.out.2 (H.out.1 h)
      exact IY (by omega)
  ·have H:Hid (¬ft t):=λh=>by
    obtain⟨K',h⟩:=h;have h1:=h.lv;have h2:=h.len2;omega
   have aj:¬2*((lvs t:Nat):Int) - 1=(t.length:Int):=by
    have:1<=lvs t:=by have:=bC K;omega
    omega
   have al:(2*((lvs t:Nat):Int) - 1==(t.length:Int))=false:=ID.2 aj;generalize ft t=RP at *;generalize lvs t=L at *;generalize 2*(L:Int) - 1=V at *;clear Z HU e1 e2 O eK S;go_enter func27,ntmps27;go_wp2_with fail;refine HL.out.mono ?_;rintro _ _ ⟨rfl,rfl⟩;go_wp2_with fail;refine T.out.mono ?_;rintro _ _ ⟨rfl,rfl⟩;go_wp2_with fail;go_ret;exact⟨aL.no H.out,Kp.refl _⟩
 ·have e1:fK ((lvs t:Nat):Int)=1:=if_neg O
  have e2:fL ((lvs t:Nat):Int)=0:=if_neg O;rw[e1,e2] at T;have H:Hid (¬ft t):=λh=>by
   obtain⟨K',h⟩:=h;exact O ((lB _).2 ⟨K',h.le,by rw[h.lv]⟩)
  generalize ft t=RP at *;generalize lvs t=L at *;clear Z HU e1 e2 O;go_enter func27,ntmps27;go_wp2_with fail;refine HL.out.mono ?_;rintro _ _ ⟨rfl,rfl⟩;go_wp2_with fail;refine T.out.mono ?_;rintro _ _ ⟨rfl,rfl⟩;go_wp2_with fail;go_ret;exact⟨aL.no H.out,Kp.refl _⟩
theorem OI.own_ge (h:OI e w B v l):∀ k,v.ownBlock=some k->B<=k:=λk a=>(h.lt k a).1
theorem NO.own_ge (h:NO e w B v t):∀ k,v.ownBlock=some k->B<=k:=λk a=>(h.lt k a).1
theorem OI.lit1 (w:World)(e:TypeId)(n:Int):RI (w.alloc (.cells #[.int .i64 n] e)) (.slice (some ⟨w.heap.size,0,none⟩) 1 1) [n]:=(RI.lit w e #[.int .i64 n] [n] 1 rfl (by omega) rfl).ri
structure cV (l:List Int)(n:Int)(k:Nat)(d:Bool)(o:List Int):Prop where
 mk ::
 no:d=false->k<=fO l n/\o=l.take k
 yes:d=true->fO l n<k/\o=l.take (fO l n)++n :: (l.take k).drop (fO l n)
theorem mJ (h:k<l.length):l.getD k 0=l[k]:=by
 rw[Iw,Iy h];rfl
theorem cV.start (l:List Int)(n:Int):cV l n 0 false []:=⟨λ_=>⟨IO _,by simp⟩,λh=>(by cases h)⟩
theorem cV.low (h:cV l n k false o)(a:k<l.length)(c:¬n<l.getD k 0):cV l n (k+1) false (o++[l.getD k 0]):=by
 obtain⟨e,d⟩:=h.no rfl;refine⟨λ_=>⟨?_,?_⟩,λh=>(by cases h)⟩
 ·rcases Jc e with b|b
  ·exact b
  ·exfalso
   subst b;have:=zI (l:=l) (n:=n) a;rw[mJ a] at c;exact c this
 ·rw[d,mJ a,IP a]
theorem cV.in (h:cV l n k false o)(a:k<l.length)(c:n<l.getD k 0):cV l n (k+1) true ((o++[n])++[l.getD k 0]):=by
 obtain⟨f,d⟩:=h.no rfl;have e:k=fO l n:=by
  rcases Jc f with b|b
  ·exfalso
   have:=zH b a;rw[mJ a] at c;omega
  ·exact b
 refine⟨λh=>(by cases h),λ_=>⟨by omega,?_⟩⟩;rw[d,<-e,mJ a,IP a,Kg (by rw[Ja];omega),List.drop_of_length_le (by rw[Ja];omega)];simp
theorem cV.high (h:cV l n k true o)(a:k<l.length):cV l n (k+1) true (o++[l.getD k 0]):=by
 obtain⟨c,b⟩:=h.yes rfl;refine⟨λh=>(by cases h),λ_=>⟨by omega,?_⟩⟩;rw[b,mJ a,IP a,Kg (by rw[Ja];omega)];simp
theorem cV.endNo (h:cV l n l.length false o):o++[n]=iX l n:=by
 obtain⟨b,a⟩:=h.no rfl;have:=zJ l n;have e:fO l n=l.length:=by omega
 unfold iX;rw[a,e,List.drop_length]
theorem cV.endYes (h:cV l n l.length true o):o=iX l n:=by
 obtain⟨b,a⟩:=h.yes rfl;rw[a,Jz];rfl
theorem cV.len {d:Bool}(h:cV l n k d o)(b:k<=l.length):o.length<=k+1:=by
 cases d
 ·rw[(h.no rfl).2,Ja];omega
 ·obtain⟨c,a⟩:=h.yes rfl
  rw[a,IE,Jf,Ja,JK,Ja];omega
theorem uX (u:Value)(l:List Int)(n:Int)(w:World)(O:RI w u l)(hl:l.length<=100000):
  Calls prog 87 #[u,.int .i64 n] w λe w'=>(∃ r,e=.returned r/\OI 3 w' w.heap.size r (iX l n))/\Kp w w':=by
 have S:=fV;have T:=Lib.hid O;obtain⟨a,c,rfl,p1,Z⟩:=O.shape;unfold maxLen at Z;obtain⟨N,Y⟩:∃ N,l.length=N:=⟨_,rfl⟩;have j:=Lib.hid (λk o h y Q=>cV.low (l:=l) (n:=n) (k:=k) (o:=o) h y Q);have B:=Lib.hid (λk o h y Q=>cV.in (l:=l) (n:=n) (k:=k) (o:=o) h y Q);have g:=Lib.hid (λk o h y=>cV.high (l:=l) (n:=n) (k:=k) (o:=o) h y);have m:=Lib.hid (λk d o h y=>cV.len (l:=l) (n:=n) (k:=k) (d:=d) (o:=o) h y);have x:=Lib.hid (λo h=>cV.endNo (l:=l) (n:=n) (o:=o) h);have t:=Lib.hid (λo h=>cV.endYes (l:=l) (n:=n) (o:=o) h);have I:=Lib.hid (cV.start l n);rw[Y] at T p1 j B g m x t hl ⊢;generalize iX l n=ab at *;clear O Y;go_enter func87,ntmps87;go_wp2_with fail;go_loopw[5,6,7] (λv d i wr=>∃ (k:Nat) (b:Bool) (o:List Int),k<=N/\i=.int .i64 (k:Int)/\d=.bool b/\OI 3 wr w.heap.size v o/\cV l n k b o/\Kp w wr) (λ_ _ i _=>(N - (intOf i).toNat))
 case atStart=>exact⟨0,false,[],IO _,rfl,rfl,OI.nil _ _ _,I.out,Kp.refl _⟩
 case round=>
  obtain⟨k,b,o,y,rfl,rfl,q,s,f⟩:=hrel;have aa:=m.out k b o s y;by_cases p:k<N
  ·obtain⟨g1,o1,rfl,_,G⟩:=T.out.at k p
   have h1:=f.cell (G k p);have HC:Hid (∀ W,Kp w W->W.cell? ⟨g1,o1+k,none⟩=some (.int .i64 (l.getD k 0))):=λW hW=>hW.cell (G k p)
   have i1:IntKind.i64.wrap ((k:Int)+1)=(k:Int)+1:=IA _ (by omega);have A:=j.out k o;have K:=B.out k o;have C:=g.out k o;have P:=f.size;clear G j B g m x t I;generalize l.getD k 0=X at *;cases b
   ·by_cases hx:n<X
    ·have z:=Lib.hid (K s p hx)
     clear A K C s;go_wp2_with(first
      | (at_builtin;refine ga (o:=⟨some 27,_,_,_,_,_⟩) S rfl _ _ rfl w.heap.size _ o rfl (q.kp ((Kp.refl wr).alloc _)) _ [n] rfl (OI.lit1 wr 3 n) (by simp;omega) (by simp;omega) ?_;intro v4 J U g4;have M:Kp w J:=Kp.grown (f.alloc _) g4 q.own_ge;have h4:=HC.out J M;have V:=M.size)
      | (at_builtin;refine ga (o:=⟨some 34,_,_,_,_,_⟩) S rfl _ _ rfl w.heap.size _ (o++[n]) rfl (U.kp ((Kp.refl J).alloc _)) _ [X] rfl (OI.lit1 J 3 X) (by simp;omega) (by simp;omega) ?_;intro L E D H;have F:Kp w E:=Kp.grown (M.alloc _) H U.own_ge))
     go_roundw
     case rel=>exact⟨k+1,true,_,by omega,by go_num,rfl,D,z.out,F⟩
     case measure=>simp[intOf];omega
    ·have z:=Lib.hid (A s p (by omega))
     clear A K C s;go_wp2_with(at_builtin;refine ga (o:=⟨some 34,_,_,_,_,_⟩) S rfl _ _ rfl w.heap.size _ o rfl (q.kp ((Kp.refl wr).alloc _)) _ [X] rfl (OI.lit1 wr 3 X) (by simp;omega) (by simp;omega) ?_;intro L E D H;have F:Kp w E:=Kp.grown (f.alloc _) H q.own_ge)
     go_roundw
     case rel=>exact⟨k+1,false,_,by omega,by go_num,rfl,D,z.out,F⟩
     case measure=>simp[intOf];omega
   ·have z:=Lib.hid (C s p)
    clear A K C s;go_wp2_with(at_builtin;refine ga (o:=⟨some 34,_,_,_,_,_⟩) S rfl _ _ rfl w.heap.size _ o rfl (q.kp ((Kp.refl wr).alloc _)) _ [X] rfl (OI.lit1 wr 3 X) (by simp;omega) (by simp;omega) ?_;intro L E D H;have F:Kp w E:=Kp.grown (f.alloc _) H q.own_ge)
    go_roundw
    case rel=>exact⟨k+1,true,_,by omega,by go_num,rfl,D,z.out,F⟩
    case measure=>simp[intOf];omega
  ·obtain rfl:k=N:=by omega
   have P:=f.size;clear j B g m I T;cases b
   ·have z:=Lib.hid (x.out o s)
    clear s x t;go_wp2_with(at_builtin;refine ga (o:=⟨some 40,_,_,_,_,_⟩) S rfl _ _ rfl w.heap.size _ o rfl (q.kp ((Kp.refl wr).alloc _)) _ [n] rfl (OI.lit1 wr 3 n) (by simp;omega) (by simp;omega) ?_;intro L E D H;have F:Kp w E:=Kp.grown (f.alloc _) H q.own_ge)
    rw[z.out] at D;have R:=Lib.hid F;go_ret;exact⟨⟨_,rfl,D⟩,R.out⟩
   ·have z:=Lib.hid (t.out o s)
    clear s x t;rw[z.out] at q;have HO:=Lib.hid q;have R:=Lib.hid f;obtain⟨a5,n5,c5,rfl⟩:=q.ri.sl;clear q f;go_wp2_with fail;go_ret;exact⟨⟨_,rfl,HO.out⟩,R.out⟩
theorem CM {i:Nat}(a:K<=10)(g:t.length=2 ^ (K+1) - 1)(b:i<2 ^ K):
  arE (2*(i:Int)) ((lvs t:Nat):Int)=0/\lE (2*(i:Int)) ((lvs t:Nat):Int)=aU t i:=by
 have f:lvs t=2 ^ K:=by
  have:=bj K;have:=bC K;unfold lvs;omega
 have e:(2*(i:Int))=((nd 0 i:Nat):Int):=by rw[ep];omega
 obtain⟨d,c,_⟩:=sK (K:=K) (j:=0) (q:=i) a (by omega) (by simpa using b);unfold aU lgT;rw[f,e,d,c,qe a];exact⟨rfl,rfl⟩
theorem uY (u:Value)(t:List Nod)(K i:Nat)(w:World)(f:NL w u t)(h:K<=10)(j:t.length=2 ^ (K+1) - 1)(k:i<2 ^ K):
  Calls prog 86 #[u,.int .i64 (i:Int)] w λe w'=>(∃ r,e=.returned r/\OI 3 w' w.heap.size r ((aU t i).map fun(n:Nat)=>(n:Int)))/\Kp w w':=by
 have s:=bY h;have g:=bj K;have b:t.length<=100000:=by omega
 have p:=Lib.hid (jp u t w f b);obtain⟨m,l⟩:=CM h j k;have o:Hid (∀ W,Calls prog 48 #[.int .i64 (2*(i:Int)),.int .i64 ((lvs t:Nat):Int)] W λe w'=>(∃ v,e=.returned (.tuple #[v,.int .i64 0])/\ON 3 w' W.heap.size v (aU t i))/\Kp W w'):=λW=>by
  have:=Ct (2*(i:Int)) ((lvs t:Nat):Int) W (by have:=jN b;omega);rwa [m,l] at this
 have A:IntKind.i64.wrap (2*(i:Int))=2*(i:Int):=IA _ (by omega);obtain⟨a,c,rfl,_,_⟩:=f.shape;generalize t.length=N at *;generalize lvs t=L at *;generalize aU t i=D at *;clear f m l h j s g k b;go_enter func86,ntmps86;go_wp2_with fail;refine p.out.mono ?_;rintro _ _ ⟨rfl,rfl⟩;clear p;go_wp2_with fail;refine(o.out _).mono ?_;rintro _ y ⟨⟨v,rfl,d⟩,q⟩;have x:=Lib.hid d.oi;obtain⟨C,z,B,rfl⟩:=d.rn.sl;clear o d;go_wp2_with fail;go_ret;exact⟨⟨_,rfl,x.out⟩,q⟩

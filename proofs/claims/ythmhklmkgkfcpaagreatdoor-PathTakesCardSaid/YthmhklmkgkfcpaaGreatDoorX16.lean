import Derived.Test.YthmhklmkgkfcpaaGreatDoorX15
set_option linter.all false
set_option maxHeartbeats 8000000
set_option maxRecDepth 100000
namespace Go.Proofs.YthmhklmkgkfcpaaGreatDoor
open Go.Proofs.Tryz Go.RowKit
variable {K j q:Nat}{t:List Nod}
theorem xk (u v:Value)(l m:List Int)(w:World)(z:RI w u l)(y:RI w v m):
  Calls prog 15 #[u,v] w λe w'=>e=.returned (.bool (decide (l=m)))/\Kp w w':=by
 obtain⟨Z,V,rfl,p1,J⟩:=z.shape;obtain⟨W,U,rfl,p2,I⟩:=y.shape;unfold maxLen at J I;by_cases a:l.length=m.length
 ·have p:Hid (∀ k,k<l.length->l.getD k 0≠m.getD k 0->decide (l=m)=false):=λk L q=>Kb (λh=>q (by rw[h]))
  have d:Hid ((∀ k,k<l.length->l.getD k 0=m.getD k 0)->decide (l=m)=true):=λh=>by
   refine Ke (ML a λk C G=>?_);have:=h k C;rwa [JF,JG C,JF,JG G] at this
  generalize decide (l=m)=b at *;have H:=JE z;have D:=JE y;rw[<-a] at D p2 ⊢;obtain⟨N,F⟩:∃ N,l.length=N:=⟨_,rfl⟩;rw[F] at H D p1 p2 p d ⊢;clear z y a F;go_enter func15,ntmps15;go_wp2_with fail;go_loopw[5] (λi wr=>∃ k:Nat,k<=N/\i=.int .i64 (k:Int)/\(∀ t,t<k->l.getD t 0=m.getD t 0)/\Kp w wr) (λi _=>(N - (intOf i).toNat))
  case atStart=>exact⟨0,JW _,rfl,λt h=>by omega,NQ _⟩
  case round=>
   obtain⟨k,L,rfl,c,f⟩:=hrel;by_cases g:k<N
   ·obtain⟨T,Q,rfl,_,x⟩:=H.out.at k g
    obtain⟨S,P,rfl,_,s⟩:=D.out.at k g;have C:=f.cell (x k g);have G:=f.cell (s k g);have n:=p.out k g;have j:Hid (l.getD k 0=m.getD k 0->∀ t,t<k+1->l.getD t 0=m.getD t 0):=λM t K=>by
     rcases Kh (Kr.1 K) with B|B
     ·exact c t B
     ·rw[B];exact M
    have R:IntKind.i64.wrap ((k:Int)+1)=(k:Int)+1:=JI _ (by omega);have A:=JE f;clear x s d p c f;generalize l.getD k 0=X at *;generalize m.getD k 0=Y at *;by_cases o:X=Y
    ·have O:=JE (j.out o)
     subst o;clear n j;go_wp2_with fail;go_region
     go_wp2_with fail;go_roundw
     case rel=>exact⟨k+1,by omega,by go_num,O.out,A.out.drew⟩
     case measure=>simp[intOf];omega
    ·have E:=JE (n o)
     have r:(X==Y)=false:=JL.2 o;clear n j;go_wp2_with fail;go_region
     go_wp2_with fail;go_ret;exact⟨by rw[E.out] <;> rfl,A.out.drew⟩
   ·obtain rfl:k=N:=by omega
    have E:=JE (d.out c);have A:=JE f;clear d p c f;go_wp2_with fail;go_ret;exact⟨by rw[E.out] <;> rfl,A.out⟩
 ·have e:decide (l=m)=false:=Kb (λh=>a (by rw[h]))
  have q:¬(l.length:Int)=(m.length:Int):=by omega
  have r:((l.length:Int)==(m.length:Int))=false:=JL.2 q;rw[e];clear z y e a;go_enter func15,ntmps15;go_wp2_with fail;go_ret;exact⟨rfl,NQ _⟩
theorem sE (u:Value)(l:List Int)(n:Int)(w:World)(r:RI w u l):
  Calls prog 49 #[u,.int .i64 n] w λe w'=>e=.returned (.bool (decide (n∈l)))/\w=w':=by
 obtain⟨J,I,rfl,p1,A⟩:=r.shape;unfold maxLen at A;have c:Hid (∀ k,k<l.length->l.getD k 0=n->decide (n∈l)=true):=λk o q=>by
  rw[JF,JG o] at q;exact Ke (by rw[<-q];exact Ko o)
 have g:Hid ((∀ k,k<l.length->l.getD k 0≠n)->decide (n∈l)=false):=λh=>by
  refine Kb λC=>?_
  obtain⟨k,o,e⟩:=Ld C;refine h k o ?_;rw[JF,JG o];exact e
 generalize decide (n∈l)=b at *;have z:=JE r;obtain⟨N,y⟩:∃ N,l.length=N:=⟨_,rfl⟩;rw[y] at z p1 c g ⊢;clear r y;go_enter func49,ntmps49;go_wp2_with fail;go_loop [5] (λi=>∃ k:Nat,k<=N/\i=.int .i64 (k:Int)/\(∀ t,t<k->l.getD t 0≠n)) (λi=>(N - (intOf i).toNat))
 case atStart=>exact⟨0,JW _,rfl,λt h=>by omega⟩
 case round=>
  obtain⟨k,o,rfl,a⟩:=hrel;by_cases j:k<N
  ·obtain⟨H,E,rfl,_,p⟩:=z.out.at k j
   have G:=p k j;have m:=c.out k j;have d:Hid (l.getD k 0≠n->∀ t,t<k+1->l.getD t 0≠n):=λq t B=>by
    rcases Kh (Kr.1 B) with s|s
    ·exact a t s
    ·rw[s];exact q
   have F:IntKind.i64.wrap ((k:Int)+1)=(k:Int)+1:=JI _ (by omega);clear p c g a;generalize l.getD k 0=X at *;by_cases f:X=n
   ·have v:=JE (m f)
    subst f;clear m d;go_wp2_with fail;go_ret;exact⟨by rw[v.out] <;> rfl,rfl⟩
   ·have D:=JE (d.out f)
    have x:(X==n)=false:=JL.2 f;clear m d;go_wp2_with fail;go_round
    case rel=>exact⟨k+1,by omega,by go_num,D.out⟩
    case measure=>simp[intOf];omega
  ·obtain rfl:k=N:=by omega
   have v:=JE (g.out a);clear c g a;go_wp2_with fail;go_ret;exact⟨by rw[v.out] <;> rfl,rfl⟩
theorem Ec (u v:Value)(a b:Nod)(w:World)(hu:NV w u a)(hv:NV w v b):
  Calls prog 77 #[u,v] w λe w'=>aK e (a=b)/\Kp w w':=by
 obtain⟨p1,u1,h1,rfl,N⟩:=hu;obtain⟨p2,u2,h2,rfl,M⟩:=hv;have T:=JE (λW (D:Kp w W)=>xk u1 u2 a.un b.un W (N.un.kp D) (M.un.kp D));have HP:=JE (λW (D:Kp w W)=>fM p1 p2 a.pub b.pub W (N.pub.kp D) (M.pub.kp D));have HH:=JE (λW (D:Kp w W)=>fM h1 h2 a.hash b.hash W (N.hash.kp D) (M.hash.kp D));have HB:=JE (Nod.eq_iff a b);obtain⟨f,i,k,rfl⟩:=aA N.pub;obtain⟨n,r,x,rfl⟩:=N.un.sl;obtain⟨g,j,l,rfl⟩:=aA N.hash;obtain⟨o,s,y,rfl⟩:=aA M.pub;obtain⟨H,I,K,rfl⟩:=M.un.sl;obtain⟨q,t,z,rfl⟩:=aA M.hash;obtain⟨B,A,ab,Z,ae⟩:=a;obtain⟨F,E,aa,Y,ad⟩:=b;simp only[cj] at T HP HH HB ⊢;generalize ((⟨B,A,ab,Z,ae⟩:Nod)=⟨F,E,aa,Y,ad⟩)=X at *;have J:∀ (b:Bool) (p:Prop) [Decidable p],decide p=b->(p↔b=true):=λb p _ h=>by rw[<-h];simp
 obtain⟨bu,O⟩:∃ bu,decide (Z=Y)=bu:=⟨_,rfl⟩;obtain⟨bp,P⟩:∃ bp,decide (ab=aa)=bp:=⟨_,rfl⟩;obtain⟨U,Q⟩:∃ U,decide (ae=ad)=U:=⟨_,rfl⟩;rw[O] at T;rw[P] at HP;rw[Q] at HH;have d:Hid (X↔B=F/\A=E/\bp=true/\bu=true/\U=true):=by
  rw[<-J bp _ P,<-J bu _ O,<-J U _ Q];exact HB.out
 clear N M HB J O P Q;have G:Hid (Kp w ((w.alloc (.cells #[.int .i64 B,.int .i64 A,.slice f i k,.slice n r x,.slice g j l] 81)).alloc (.cells #[.int .i64 F,.int .i64 E,.slice o s y,.slice H I K,.slice q t z] 81))):=((NQ w).alloc _).alloc _;cases bu
 ·have S:Hid (¬X):=λe=>by have:=(d.out.1 e).2.2.2.1;cases this
  clear d;go_enter func77,ntmps77;go_wp2_with fail;refine(T.out _ G.out).mono ?_;rintro _ L ⟨rfl,c⟩;have C:=JE (G.out.trans c);clear c;go_wp2_with fail;go_ret;exact⟨Oi S.out,C.out⟩
 ·have HC:∀ W,Bx W w.heap.size 81 #[.int .i64 B,.int .i64 A,.slice f i k,.slice n r x,.slice g j l]->Bx W (w.heap.size+1) 81 #[.int .i64 F,.int .i64 E,.slice o s y,.slice H I K,.slice q t z] ->
    (W.cell? ⟨w.heap.size,0,none⟩=some (.int .i64 B)/\W.cell? ⟨w.heap.size,1,none⟩=some (.int .i64 A)/\W.cell? ⟨w.heap.size,2,none⟩=some (.slice f i k)/\W.cell? ⟨w.heap.size,4,none⟩=some (.slice g j l)) /\
    (W.cell? ⟨w.heap.size+1,0,none⟩=some (.int .i64 F)/\W.cell? ⟨w.heap.size+1,1,none⟩=some (.int .i64 E)/\W.cell? ⟨w.heap.size+1,2,none⟩=some (.slice o s y)/\W.cell? ⟨w.heap.size+1,4,none⟩=some (.slice q t z)):=
   λW V R=>⟨⟨V.cell 0,V.cell 1,V.cell 2,V.cell 4⟩,⟨R.cell 0,R.cell 1,R.cell 2,R.cell 4⟩⟩
  have m:Hid (∀ W,Kp ((w.alloc (.cells #[.int .i64 B,.int .i64 A,.slice f i k,.slice n r x,.slice g j l] 81)).alloc (.cells #[.int .i64 F,.int .i64 E,.slice o s y,.slice H I K,.slice q t z] 81)) W ->
    (W.cell? ⟨w.heap.size,0,none⟩=some (.int .i64 B)/\W.cell? ⟨w.heap.size,1,none⟩=some (.int .i64 A)/\W.cell? ⟨w.heap.size,2,none⟩=some (.slice f i k)/\W.cell? ⟨w.heap.size,4,none⟩=some (.slice g j l)) /\
    (W.cell? ⟨w.heap.size+1,0,none⟩=some (.int .i64 F)/\W.cell? ⟨w.heap.size+1,1,none⟩=some (.int .i64 E)/\W.cell? ⟨w.heap.size+1,2,none⟩=some (.slice o s y)/\W.cell? ⟨w.heap.size+1,4,none⟩=some (.slice q t z))):=λW D=>by
   have V:=(Oa w 81 #[.int .i64 B,.int .i64 A,.slice f i k,.slice n r x,.slice g j l]).kp (((NQ _).alloc _).trans D);have R:=Oa (w.alloc (.cells #[.int .i64 B,.int .i64 A,.slice f i k,.slice n r x,.slice g j l] 81)) 81 #[.int .i64 F,.int .i64 E,.slice o s y,.slice H I K,.slice q t z];have e:(w.alloc (.cells #[.int .i64 B,.int .i64 A,.slice f i k,.slice n r x,.slice g j l] 81)).heap.size=w.heap.size+1:=by simp
   rw[e] at R;exact HC W V (R.kp D)
  clear HC;by_cases hk:B=F
  ·by_cases hn:A=E
   ·subst hk
    subst hn;cases bp
    ·have S:Hid (¬X):=λe=>by have:=(d.out.1 e).2.2.1;cases this
     clear d;go_enter func77,ntmps77;go_wp2_with fail;refine(T.out _ G.out).mono ?_;rintro _ L ⟨rfl,c⟩;obtain⟨⟨d1,d2,d3,d4⟩,⟨f1,f2,f3,f4⟩⟩:=m.out L c;have C:=JE (G.out.trans c);clear c m;go_wp2_with fail;refine(HP.out _ C.out).mono ?_;rintro _ _ ⟨rfl,rfl⟩;go_wp2_with fail;go_ret;exact⟨Oi S.out,C.out⟩
    ·have af:Hid (X↔U=true):=⟨λe=>(d.out.1 e).2.2.2.2,λe=>d.out.2 ⟨rfl,rfl,rfl,rfl,e⟩⟩
     clear d;go_enter func77,ntmps77;go_wp2_with fail;refine(T.out _ G.out).mono ?_;rintro _ L ⟨rfl,c⟩;obtain⟨⟨d1,d2,d3,d4⟩,⟨f1,f2,f3,f4⟩⟩:=m.out L c;have C:=JE (G.out.trans c);clear c m;go_wp2_with fail;refine(HP.out _ C.out).mono ?_;rintro _ _ ⟨rfl,rfl⟩;go_wp2_with fail;refine(HH.out _ C.out).mono ?_;rintro _ _ ⟨rfl,rfl⟩;go_wp2_with fail;go_ret;exact⟨⟨U,rfl,af.out.symm⟩,C.out⟩
   ·have S:Hid (¬X):=λe=>hn (d.out.1 e).2.1
    have ag:(A==E)=false:=JL.2 hn;subst hk;clear d;go_enter func77,ntmps77;go_wp2_with fail;refine(T.out _ G.out).mono ?_;rintro _ L ⟨rfl,c⟩;obtain⟨⟨d1,d2,d3,d4⟩,⟨f1,f2,f3,f4⟩⟩:=m.out L c;have C:=JE (G.out.trans c);clear c m;go_wp2_with fail;go_ret;exact⟨Oi S.out,C.out⟩
  ·have S:Hid (¬X):=λe=>hk (d.out.1 e).1
   have ah:(B==F)=false:=JL.2 hk;clear d;go_enter func77,ntmps77;go_wp2_with fail;refine(T.out _ G.out).mono ?_;rintro _ L ⟨rfl,c⟩;obtain⟨⟨d1,d2,d3,d4⟩,⟨f1,f2,f3,f4⟩⟩:=m.out L c;have C:=JE (G.out.trans c);clear c m;go_wp2_with fail;go_ret;exact⟨Oi S.out,C.out⟩
theorem xm (u v:Value)(t s:List Nod)(w:World)(C:NL w u t)(B:NL w v s):
  Calls prog 28 #[u,v] w λe w'=>aK e (t=s)/\Kp w w':=by
 obtain⟨a1,c1,rfl,p1,s1⟩:=C.shape;obtain⟨a2,c2,rfl,p2,s2⟩:=B.shape;unfold maxLen at s1 s2;by_cases c:t.length=s.length
 ·have q:Hid (∀ k,k<t.length->¬ats t k=ats s k->¬t=s):=λk hk r h=>r (by rw[h])
  have f:Hid ((∀ k,k<t.length->ats t k=ats s k)->t=s):=λh=>uf c λx=>by
   by_cases hx:x<t.length
   ·exact h x hx
   ·rw[jB (by omega),jB (by omega)]
  have A:=JE (fun(a b:Nod) u v W (h1:NV W u a) (h2:NV W v b)=>Ec u v a b W h1 h2);have R:=JE C;have K:=JE B;rw[<-c] at K p2 ⊢;obtain⟨N,Q⟩:∃ N,t.length=N:=⟨_,rfl⟩;rw[Q] at R K p1 p2 q f ⊢;generalize (t=s)=EQ at *;clear C B c Q;go_enter func28,ntmps28;go_wp2_with fail;go_loopw[5] (λi wr=>∃ k:Nat,k<=N/\i=.int .i64 (k:Int)/\(∀ j,j<k->ats t j=ats s j)/\Kp w wr) (λi _=>(N - (intOf i).toNat))
  case atStart=>exact⟨0,JW _,rfl,λt h=>by omega,NQ _⟩
  case round=>
   obtain⟨k,hk,rfl,d,g⟩:=hrel;by_cases n:k<N
   ·obtain⟨g1,o1,rfl,_,z⟩:=R.out.at k n
    obtain⟨g2,o2,rfl,_,y⟩:=K.out.at k n;obtain⟨Z,X,U,M⟩:=z k n;obtain⟨Y,V,T,L⟩:=y k n;have m:=M.kp g;have l:=L.kp g;obtain⟨al,ak,aj,ai,ah⟩:=JN m.kind (JN m.name (JN m.pubC (JN m.unC m.hashC)));obtain⟨ag,af,ae,ad,ab⟩:=JN l.kind (JN l.name (JN l.pubC (JN l.unC l.hashC)));have F:=JE (λW (P:Kp wr W)=>A.out (ats t k) (ats s k) _ _ W ⟨Z,X,U,rfl,m.2.kp P⟩ ⟨Y,V,T,rfl,l.2.kp P⟩);simp only[cj] at F;have p:=q.out k n;have o:Hid (ats t k=ats s k->∀ j,j<k+1->ats t j=ats s j):=λhe j hj=>by
     rcases Kh (Kr.1 hj) with I|I
     ·exact d j I
     ·rw[I];exact he
    have i1:IntKind.i64.wrap ((k:Int)+1)=(k:Int)+1:=JI _ (by omega);have i2:(k:Int)<(N:Int):=by omega
    have J:=JE g;have M1:=JE m;have M2:=JE l;obtain⟨xa,na,ca,rfl⟩:=aA m.2.pub;obtain⟨xb,nb,cb,rfl⟩:=m.2.un.sl;obtain⟨xc,nc,cc,rfl⟩:=aA m.2.hash;obtain⟨xd,aa,cd,rfl⟩:=aA l.2.pub;obtain⟨xe,ne,ce,rfl⟩:=l.2.un.sl;obtain⟨xf,nf,cf,rfl⟩:=aA l.2.hash;clear z y f q d g M L m l A M1 M2;generalize (ats t k=ats s k)=E1 at *;generalize (ats t k)=A1 at *;generalize (ats s k)=A2 at *;go_wp2_with fail;go_region_with (go_at_call 77;refine(F.out _ (by first|exact NQ _|exact(NQ _).drew)).mono ?_;rintro e9 w9 ⟨t9,H⟩;obtain⟨b9,rfl,D⟩:=t9)
    all_goals
     have E:=JE (J.out.trans (((NQ wr).drew).trans H));cases b9
     ·have G:=JE (p λe=>by have:=D.2 e;cases this)
      clear D p o F H;go_wp2_with fail;go_ret;first|exact⟨Oi G.out,E.out⟩|exact⟨Oi G.out,E.out.drew⟩
     ·have S:=JE (o.out (D.1 rfl))
      clear D p o F H;go_wp2_with fail;go_roundw
      case rel=>first|exact⟨k+1,by omega,by go_num,S.out,E.out⟩|exact⟨k+1,by omega,by go_num,S.out,E.out.drew⟩
      case measure=>simp[intOf];omega
   ·obtain rfl:k=N:=by omega
    have G:=JE (f.out d);have J:=JE g;clear f q d g;go_wp2_with fail;go_ret;exact⟨aK.yes G.out,J.out⟩
 ·have r:¬(t.length:Int)=(s.length:Int):=by omega
  have O:((t.length:Int)==(s.length:Int))=false:=JL.2 r;have HN:Hid (¬t=s):=λh=>c (by rw[h])
  clear C B c;go_enter func28,ntmps28;go_wp2_with fail;go_ret;exact⟨Oi HN.out,NQ _⟩
theorem Ed (u:Value)(t:List Nod)(m:Nat)(w:World)(x:NL w u t)(Y:m<=100000):
  Calls prog 39 #[u,.int .i64 (m:Int)] w λe w'=>aK e (ij t m)/\w=w':=by
 obtain⟨a1,c1,rfl,p1,T⟩:=x.shape;by_cases d:t.length<=m
 ·have g:Hid (∀ k,k<t.length->¬((ats t k).pub.length<=40/\(ats t k).hash.length<=40/\(ats t k).un.length<=m)->¬ij t m):=λk q s h=>s (by
   rw[kg q];exact h.2 _ (Ko q))
  have f:Hid ((∀ k,k<t.length->((ats t k).pub.length<=40/\(ats t k).hash.length<=40/\(ats t k).un.length<=m))->ij t m):=λh=>⟨d,λn F=>by
   obtain⟨k,q,rfl⟩:=Ld F;have:=h k q;rwa [kg q] at this⟩
  have E:=JE x;obtain⟨N,B⟩:∃ N,t.length=N:=⟨_,rfl⟩;rw[B] at E p1 g f d ⊢;generalize ij t m=SP at *;clear x B;go_enter func39,ntmps39;go_wp2_with fail;go_loop [5] (λi=>∃ k:Nat,k<=N/\i=.int .i64 (k:Int)/\(∀ j,j<k->((ats t j).pub.length<=40/\(ats t j).hash.length<=40/\(ats t j).un.length<=m))) (λi=>(N - (intOf i).toNat))
  case atStart=>exact⟨0,JW _,rfl,λt h=>by omega⟩
  case round=>
   obtain⟨k,q,rfl,c⟩:=hrel;by_cases o:k<N
   ·obtain⟨Z,V,rfl,_,v⟩:=E.out.at k o
    obtain⟨S,M,L,l⟩:=v k o;have c2:=l.pubC;have c3:=l.unC;have c4:=l.hashC;obtain⟨R,ca,rfl,_,_⟩:=l.2.pub.shape;obtain⟨Q,cb,rfl,_,_⟩:=l.2.un.shape;obtain⟨O,cc,rfl,_,_⟩:=l.2.hash.shape;have a:=g.out k o;have b:Hid (((ats t k).pub.length<=40/\(ats t k).hash.length<=40/\(ats t k).un.length<=m)->∀ j,j<k+1->((ats t j).pub.length<=40/\(ats t j).hash.length<=40/\(ats t j).un.length<=m)):=λI j G=>by
     rcases Kh (Kr.1 G) with r|r
     ·exact c j r
     ·rw[r];exact I
    have X:IntKind.i64.wrap ((k:Int)+1)=(k:Int)+1:=JI _ (by omega);have W:(k:Int)<(N:Int):=by omega
    clear v f g c l;generalize (ats t k).pub.length=P at *;generalize (ats t k).hash.length=H at *;generalize (ats t k).un.length=U at *;by_cases D:P<=40
    ·have A:¬(40:Int)<(P:Int):=by omega
     by_cases C:H<=40
     ·have z:¬(40:Int)<(H:Int):=by omega
      by_cases r:U<=m
      ·have y:¬(m:Int)<(U:Int):=by omega
       have J:=JE (b.out ⟨D,C,r⟩);clear a b;go_wp2_with fail;go_round
       case rel=>exact⟨k+1,by omega,by go_num,J.out⟩
       case measure=>simp[intOf];omega
      ·have y:(m:Int)<(U:Int):=by omega
       have p:=JE (a λh=>r h.2.2);clear a b;go_wp2_with fail;go_ret;exact⟨Oi p.out,rfl⟩
     ·have z:(40:Int)<(H:Int):=by omega
      have p:=JE (a λh=>C h.2.1);clear a b;go_wp2_with fail;go_ret;exact⟨Oi p.out,rfl⟩
    ·have A:(40:Int)<(P:Int):=by omega
     have p:=JE (a λh=>D h.1);clear a b;go_wp2_with fail;go_ret;exact⟨Oi p.out,rfl⟩
   ·obtain rfl:k=N:=by omega
    have p:=JE (f.out c);clear f g c;go_wp2_with fail;go_ret;exact⟨aK.yes p.out,rfl⟩
 ·have s:(m:Int)<(t.length:Int):=by omega
  have K:Hid (¬ij t m):=λh=>d h.1
  clear x d;go_enter func39,ntmps39;go_wp2_with fail;go_ret;exact⟨Oi K.out,rfl⟩
theorem Ee (u:Value)(t:List Nod)(m:Nat)(w:World)(d:NL w u t)(n:m<=100000):
  Calls prog 10 #[u,.int .i64 (m:Int)] w λe w'=>aK e (ij t m/\fW t)/\Kp w w':=by
 have o:=JE (Ed u t m w d n);have g:Hid (ij t m->Calls prog 27 #[u] w λe w'=>aK e (fW t)/\Kp w w'):=λh=>Dx u t w d (by have:=h.1;omega)
 obtain⟨v,s,rfl,p1,r⟩:=d.shape;clear d;generalize ij t m=j at *;generalize fW t=k at *;go_enter func10,ntmps10;go_wp2_with fail;refine o.out.mono ?_;rintro _ _ ⟨⟨b,rfl,a⟩,rfl⟩;cases b
 ·have p:Hid (¬(j/\k)):=λh=>by have:=a.2 h.1;cases this
  clear a g;go_wp2_with fail;go_ret;exact⟨Oi p.out,NQ _⟩
 ·have c:=a.1 rfl
  have f:=JE (g.out c);have q:=JE c;clear a g c;go_wp2_with fail;refine f.out.mono ?_;rintro _ w2 ⟨⟨b,rfl,a⟩,l⟩;have i:Hid (b=true↔j/\k):=⟨λh=>⟨q.out,a.1 h⟩,λh=>a.2 h.2⟩;clear a;go_wp2_with fail;go_ret;exact⟨⟨b,rfl,i.out⟩,l⟩
theorem xn (u:Value)(t:List Nod)(K j q:Nat)(w:World)(P:NL w u t)(z:aD t K)(R:j<=K)(Q:q<2 ^ (K - j))(m:(ats t (nd j q)).kind≠0):
  Calls prog 36 #[u,.int .i64 ((nd j q:Nat):Int)] w λe w'=>(∃ r,e=.returned r/\OI 3 w' w.heap.size r (((nd j q:Nat):Int) :: (ats t (nd j q)).un.map (2*·)))/\Kp w w':=by
 have S:=gx;obtain⟨_,s2,Z⟩:=ec z.le R Q;have C:=λi hi=>z.unAt s2 Z i hi
 have O:=z.un_len (nd j q);have M:nd j q<t.length:=by rw[z.len];exact fU R Q
 obtain⟨a,c,rfl,p1,s1⟩:=P.shape;obtain⟨b,aa,rfl,hb,hc⟩:=P.at (nd j q) M;obtain⟨p,uu,h,D⟩:=hc (nd j q) M;have c0:=D.kind;have L:=JE (λW (hW:Kp w W)=>(D.kp hW).unC);have J:=JE D.2.un;obtain⟨aq,cq,rfl,u1,u2⟩:=D.2.un.shape;unfold maxLen at u2;have B:=z.small.1;generalize nd j q=X at *;have I:Hid (∀ k,k<(ats t X).un.length->0<=(ats t X).un.getD k 0/\(ats t X).un.getD k 0<=2047):=λk m=>by
  have hg:(ats t X).un.getD k 0=(ats t X).un[k]:=by rw[JF,JG m];rfl
  obtain⟨v,e,_,h3⟩:=C _ (Ko m);rw[hg,e];have:=Oe (t:=t) (x:=2*v) (by rw[h3];decide);omega
 have H:Hid (∀ k,k<(ats t X).un.length->((X:Int) :: ((ats t X).un.take (k+1)).map (2*·))=((X:Int) :: ((ats t X).un.take k).map (2*·))++[2*(ats t X).un.getD k 0]):=λk m=>by
  rw[JZ m,LL,JF,JG m];rfl
 have f:Hid (((X:Int) :: ((ats t X).un.take (ats t X).un.length).map (2*·))=((X:Int) :: (ats t X).un.map (2*·))):=by unfold Hid;rw[Kz]
 have l:Hid (∀ k,((X:Int) :: ((ats t X).un.take k).map (2*·)).length<=1025):=λk=>by
  rw[Ka,Kw,Ki];omega
 have ae:((ats t X).kind==0)=false:=JL.2 m;obtain⟨N,hN⟩:∃ N,t.length=N:=⟨_,rfl⟩;rw[hN] at p1 M B ⊢;have i2:(X:Int)<(N:Int):=by omega
 have ad:decide ((N:Int)<=(X:Int))=false:=Kb (by omega);have ab:¬(N:Int)<=(X:Int):=by omega
 generalize (ats t X).kind=KD at *;generalize (ats t X).un=n at *;obtain⟨U,hU⟩:∃ U,n.length=U:=⟨_,rfl⟩;rw[hU] at L J I H f u1 O;clear P z R Q hc D hN C hU s2 Z hb B;obtain⟨F,T⟩:∃ F:Nat->List Int,F=λk=>((X:Int) :: (n.take k).map (2*·)):=⟨_,rfl⟩
 have G:∀ k,((X:Int) :: (n.take k).map (2*·))=F k:=λk=>by rw[T]
 have y:Hid ([(X:Int)]=F 0):=by unfold Hid;rw[T];rfl
 simp only[G] at H f l;generalize ((X:Int) :: n.map (2*·))=ah at *;clear T G;go_enter func36,ntmps36;go_wp2_with fail;have s:Hid (OI 3 (w.alloc (.cells #[.int .i64 (X:Int)] 3)) w.heap.size (.slice (some ⟨w.heap.size,0,none⟩) 1 1) (F 0)):=by
  rw[<-y.out];exact RI.lit w 3 #[.int .i64 (X:Int)] [(X:Int)] 1 rfl (by omega) rfl
 go_loopw[5,6] (λv i wr=>∃ k:Nat,k<=U/\i=.int .i64 (k:Int)/\OI 3 wr w.heap.size v (F k)/\Kp w wr) (λ_ i _=>(U - (intOf i).toNat))
 case atStart=>exact⟨0,JW _,rfl,s.out,(NQ _).alloc _⟩
 case round=>
  obtain⟨k,m,rfl,A,d⟩:=hrel;have c3:=L.out wr d;have i1:IntKind.i64.wrap ((k:Int)+1)=(k:Int)+1:=JI _ (by omega);by_cases g:k<U
  ·obtain⟨g1,o1,rfl,_,E⟩:=(J.out.kp d).at k g
   have d1:=E k g;obtain⟨v0,v1⟩:=I.out k g;have Y:=JE (H.out k g);have ag:=l.out k;have af:=d.size;have i4:IntKind.i64.wrap (2*n.getD k 0)=2*n.getD k 0:=JI _ (by omega);clear L J I H f l E y s;generalize n.getD k 0=V at *;generalize F k=FK at *;go_wp2_with(at_builtin;refine gG (o:=⟨some 48,_,_,_,_,_⟩) S rfl _ _ rfl w.heap.size _ FK rfl (A.kp ((NQ wr).alloc _)) _ [2*V] rfl (OI.lit1 wr 3 (2*V)) (by simp;omega) (by simp;omega) ?_;intro v5 w5 o5 g5;have k5:Kp w w5:=NS (d.alloc _) g5 A.own_ge)
   go_roundw
   case rel=>exact⟨k+1,by omega,by go_num,by rw[Y.out];exact o5,k5⟩
   case measure=>simp[intOf];omega
  ·obtain rfl:k=U:=by omega
   rw[f.out] at A;have HO:=JE (JN A d);obtain⟨a5,n5,c5,rfl⟩:=A.ri.sl;clear A d f H l I y s L J;go_wp2_with fail;go_ret;exact⟨⟨_,rfl,HO.out.1⟩,HO.out.2⟩
theorem Ef {l:List Int}(b:Int)(n:Nat)(h:l.Pairwise (·<·))(c:∀ i∈l,b<=i/\i<b+n):l.length<=n:=by
 have key:∀ k (a:k<l.length),b+(k:Int)<=l[k]:=by
  intro k;induction k with
  | zero=>intro a;have:=(c _ (Ko a)).1;omega
  | succ k ih=>
   intro a;have e:=ih (by omega);have d:=(Lc.1 h) k (k+1) (by omega) a (by omega);omega
 by_cases f:l.length=0
 ·omega
 ·have e:=key (l.length - 1) (by omega)
  have d:=(c _ (Ko (show l.length - 1<l.length by omega))).2;omega
theorem nW (h:aD t K):∀ (j q:Nat),j<=K->q<2 ^ (K - j)->(bt t j q).length<=2 ^ (j+1):=by
 have a:∀ (j q:Nat),j<=K->q<2 ^ (K - j)->(((nd j q:Nat):Int) :: (ats t (nd j q)).un.map (2*·)).length<=2 ^ (j+1):=by
  intro j q c b
  obtain⟨_,l,k⟩:=ec h.le c b
  have g:=bi j
  have o:=bE j
  rw[Ka,Kw]
  have:(ats t (nd j q)).un.length<=2 ^ j:=by
   rcases h.okA (nd j q) with f|⟨f,v,u,s,r⟩
   ·rw[f];exact JW _
   ·by_cases e:(ats t (nd j q)).kind=1
    ·rw[s e];exact JW _
    ·have d:=(r (by omega)).2
     obtain⟨n,m⟩:=kY l k
     rw[n,m] at d
     refine Ef ((2 ^ j*q:Nat):Int) _ d.1 λi p=>?_
     have:=d.2 i p
     omega
  omega
 intro j
 induction j with
 | zero=>
  intro q c b
  unfold bt
  split
  ·exact JW _
  ·exact a 0 q c b
 | succ j ih=>
  intro q c b
  have w:K - j=(K - (j+1))+1:=by omega
  have g:=bi (K - (j+1))
  rw[<-w] at g
  show(if (ats t (nd (j+1) q)).kind=0 then _ else _:List Int).length<=_
  split
  ·rw[JQ]
   have f:=ih (2*q) (by omega) (by omega)
   have v:=ih (2*q+1) (by omega) (by omega)
   have u:=bi (j+1)
   omega
  ·exact a (j+1) q c b
theorem Eg (u:Value)(t:List Nod)(K:Nat)(f:aD t K):∀ (j q:Nat) (w:World),NL w u t->j<=K->q<2 ^ (K - j) ->
  Calls prog 36 #[u,.int .i64 ((nd j q:Nat):Int)] w λe w'=>(∃ r,e=.returned r/\OI 3 w' w.heap.size r (bt t j q))/\Kp w w':=by
 intro j
 induction j with
 | zero=>
  intro q w d k i
  by_cases g:(ats t (nd 0 q)).kind=0
  ·have e:bt t 0 q=[]:=by unfold bt;rw[if_pos g]
   rw[e]
   have n:nd 0 q<t.length:=by rw[f.len];exact fU k i
   obtain⟨a,c,rfl,p1,s1⟩:=d.shape
   obtain⟨b,A,rfl,E,y⟩:=d.at (nd 0 q) n
   obtain⟨p,uu,h,v⟩:=y (nd 0 q) n
   have H:=v.kind
   rw[g] at H
   have i2:((nd 0 q:Nat):Int)<(t.length:Int):=by omega
   have D:=sj (nd 0 q)
   have s:((nd 0 q:Nat):Int) % 2=0:=by have:=kS q;omega
   rw[s] at D
   generalize nd 0 q=X at *
   generalize t.length=N at *
   clear y v d f e E i k s
   go_enter func36,ntmps36
   go_wp2_with fail
   go_ret
   exact⟨⟨_,rfl,OI.nil _ _ _⟩,NQ _⟩
  ·have e:bt t 0 q=(((nd 0 q:Nat):Int) :: (ats t (nd 0 q)).un.map (2*·)):=by unfold bt;rw[if_neg g]
   rw[e]
   exact xn u t K 0 q w d f k i g
 | succ j ih=>
  intro q w d k i
  by_cases g:(ats t (nd (j+1) q)).kind=0
  ·have S:=gx
   have e:bt t (j+1) q=bt t j (2*q)++bt t j (2*q+1):=by
    show(if (ats t (nd (j+1) q)).kind=0 then _ else _)=_
    rw[if_pos g]
   rw[e]
   have Z:K - j=(K - (j+1))+1:=by omega
   have T:=bi (K - (j+1))
   rw[<-Z] at T
   have H1:=JE (λW (F:Kp w W)=>ih (2*q) W (d.kp F) (by omega) (by omega))
   have H2:=JE (λW (F:Kp w W)=>ih (2*q+1) W (d.kp F) (by omega) (by omega))
   obtain⟨_,P,O⟩:=ec f.le k i
   obtain⟨G,Y,V⟩:=fK (j:=j) (q:=q) P O
   have m:=JE (lO ((nd (j+1) q:Nat):Int) w)
   have l:=JE (lP ((nd (j+1) q:Nat):Int) w)
   rw[G,Y] at m
   rw[G,V] at l
   have x:(bt t j (2*q)).length+(bt t j (2*q+1)).length<=1000000:=by
    have h1:=nW f j (2*q) (by omega) (by omega)
    have h2:=nW f j (2*q+1) (by omega) (by omega)
    have h3:2 ^ (j+1)<=1024:=bP (by have:=f.le;omega)
    omega
   have n:nd (j+1) q<t.length:=by rw[f.len];exact fU k i
   obtain⟨a,c,rfl,p1,s1⟩:=d.shape
   obtain⟨b,A,rfl,E,y⟩:=d.at (nd (j+1) q) n
   obtain⟨p,uu,h,v⟩:=y (nd (j+1) q) n
   have H:=v.kind
   rw[g] at H
   have i2:((nd (j+1) q:Nat):Int)<(t.length:Int):=by omega
   have D:=sj (nd (j+1) q)
   have s:((nd (j+1) q:Nat):Int) % 2=1:=by have:=jz j q;omega
   rw[s] at D
   generalize nd (j+1) q=X at *
   generalize nd j (2*q)=XL at *
   generalize nd j (2*q+1)=XR at *
   generalize bt t j (2*q)=J at *
   generalize bt t j (2*q+1)=I at *
   generalize t.length=N at *
   clear y v d f e E i k s Z T P O G Y V ih n
   go_enter func36,ntmps36
   go_wp2_with fail
   refine m.out.mono ?_;rintro _ _ ⟨rfl,rfl⟩
   go_wp2_with fail
   refine l.out.mono ?_;rintro _ _ ⟨rfl,rfl⟩
   clear m l
   go_wp2_with fail
   refine(H1.out w (NQ _)).mono ?_;rintro _ w1 ⟨⟨r1,rfl,C⟩,k1⟩
   have M:=JE k1
   have L:=JE C
   obtain⟨x5,n5,c5,rfl⟩:=C.ri.sl
   clear H1 C
   go_wp2_with fail
   refine(H2.out w1 M.out).mono ?_;rintro _ w2 ⟨⟨r2,rfl,Q⟩,z⟩
   have aa:=(M.out.trans z).size
   go_wp2_with(at_builtin;refine gG (o:=⟨some 69,_,_,_,_,_⟩) S rfl _ _ rfl w.heap.size _ J rfl (L.out.kp z) _ I rfl Q.ri x (by omega) ?_;intro v5 w5 B U;have R:Kp w w5:=NS (M.out.trans z) U L.out.own_ge)
   have O5:=JE (JN B R)
   obtain⟨x6,n6,c6,rfl⟩:=B.ri.sl
   clear H2 Q z B U R L
   go_wp2_with fail
   go_ret
   exact⟨⟨_,rfl,O5.out.1⟩,O5.out.2⟩
  ·have e:bt t (j+1) q=(((nd (j+1) q:Nat):Int) :: (ats t (nd (j+1) q)).un.map (2*·)):=by
    show(if (ats t (nd (j+1) q)).kind=0 then _ else _)=_
    rw[if_neg g]
   rw[e]
   exact xn u t K (j+1) q w d f k i g
theorem Eh (u:Value)(t:List Nod)(K:Nat)(x:Int)(w:World)(b:NL w u t)(d:aD t K):
  Calls prog 36 #[u,.int .i64 x] w λe w'=>(∃ r,e=.returned r/\OI 3 w' w.heap.size r (ii t x))/\Kp w w':=by
 by_cases k:0<=x
 ·obtain⟨y,rfl⟩:=Kc k
  by_cases i:y<t.length
  ·obtain⟨j,q,rfl,g,f⟩:=iE K y (by rw[<-d.len];exact i)
   rw[oR d g f];exact Eg u t K d j q w b g f
  ·have e:ii t (y:Int)=[]:=if_neg (by omega)
   have m:¬(y:Int)<0:=by omega
   have n:(t.length:Int)<=(y:Int):=by omega
   rw[e];obtain⟨a,c,rfl,p1,l⟩:=b.shape;clear b d e i;go_enter func36,ntmps36;go_wp2_with fail;go_ret;exact⟨⟨_,rfl,OI.nil _ _ _⟩,NQ _⟩
 ·have e:ii t x=[]:=if_neg (λh=>k h.1)
  have m:x<0:=by omega
  rw[e];obtain⟨a,c,rfl,p1,l⟩:=b.shape;clear b d e;go_enter func36,ntmps36;go_wp2_with fail;go_ret;exact⟨⟨_,rfl,OI.nil _ _ _⟩,NQ _⟩
theorem gY (A:World):Kp A A.drew:=Kp.drew (a:=A) (b:=A) (NQ A)
theorem NL.node {w:World}{v:Value}(h:NL w v t){x:Nat}(e:x<t.length):
  ∃ b d c p aa q,v=.slice (some ⟨b,d,none⟩) t.length c/\NAt w b (d+x*5) (ats t x) p aa q:=by
 obtain⟨a,c,rfl,j,i⟩:=h.shape;obtain⟨b,d,rfl,_,g⟩:=h.at x e;obtain⟨p,aa,q,f⟩:=g x e;exact⟨b,d,c,p,aa,q,rfl,f⟩
theorem bl.lt (h:bl t K)(b:j<=K)(a:q<2 ^ (K - j)):nd j q<t.length/\nd j q<=2046:=by
 have d:=fU b a;have c:=ec h.le b a;rw[h.len];exact⟨d,c.1⟩
theorem GD (vt vg:Value)(t:List Nod)(g:List Int)(K q:Nat)(w:World)(hT:bl t K)(ht:NL w vt t)(hg:RI w vg g)(hq:q<2 ^ K):
  Calls prog 192 #[vt,.int .i64 ((nd 0 q:Nat):Int),vg] w λe w'=>(∃ r,e=.returned r/\Ow 5 w' w.heap.size r (bW t g 0 q))/\Kp w w':=by
 have U:=aj;obtain⟨x1,x2⟩:=hT.lt (j:=0) (JW _) (by simpa using hq);have hk:=bP hT.le;obtain⟨b,ab,c,p,aa,h,rfl,y⟩:=ht.node x1;have H:=JE y.2;obtain⟨c0,c1,c2,c3,c4⟩:=JN y.kind (JN y.name (JN y.pubC (JN y.unC y.hashC)));have B:=JE (hT.node (nd 0 q));have o:=JE (λW (l:Kp w W)=>sE vg g (q:Int) W (hg.kp l));have A:=JE (λW=>tf q W (by omega));have Q:nd 0 q=2*q:=eF q;have HD:Hid (bW t g 0 q=bJ ([1]++be 2 q++cR (if (q:Int)∈g then aX else ats t (nd 0 q)))):=rfl;rw[HD.out];have e1:((nd 0 q:Nat):Int).tmod 2=0:=tW q;have e2:((nd 0 q:Nat):Int).tdiv 2=(q:Int):=by rw[Q,Kx (by omega)];omega
 have e3:IntKind.i64.wrap (q:Int)=(q:Int):=JI _ (by omega);have e4:((nd 0 q:Nat):Int)<(t.length:Int):=by omega
 obtain⟨ag,ng,cg,rfl⟩:=hg.sl;obtain⟨Y,N,S,rfl⟩:=aA y.2.pub;obtain⟨V,M,R,rfl⟩:=y.2.un.sl;obtain⟨Z,O,T,rfl⟩:=aA y.2.hash;clear hT ht hg y Q hq;generalize nd 0 q=X at *;generalize t.length=TL at *;generalize ats t X=m at *;by_cases n:(q:Int)∈g
 ·rw[Ke n] at o
  rw[if_pos n];clear n;go_enter func192,ntmps192;go_wp2_with fail;refine(o.out _ ((NQ w).alloc _)).mono ?_;rintro _ _ ⟨rfl,rfl⟩;go_wp2_with fail;obtain⟨a,i⟩:∃ a,w.alloc (.cells #[.int .i64 0,.int .i64 0,.slice none 0 0,.slice none 0 0,.slice none 0 0] 81)=a:=⟨_,rfl⟩;rw[i];have d:Hid (Bx a w.heap.size 81 #[.int .i64 0,.int .i64 0,.slice none 0 0,.slice none 0 0,.slice none 0 0]):=by rw[<-i];exact Oa _ _ _
  have J:Hid (Kp w a/\a.heap.size=w.heap.size+1):=by rw[<-i];exact⟨(NQ _).alloc _,by simp⟩
  have I:Hid (∀ W,Kp a W->Calls prog 230 #[.agg #[.int .i64 0,.int .i64 0,.slice none 0 0,.slice none 0 0,.slice none 0 0]] W λe w'=>(∃ r,e=.returned r/\Ow 5 w' W.heap.size r (cR aX))/\Kp W w'):=λW l=>tg _ aX W (NV.blank W) el.blank
  have x:Hid ((cR aX).length<=300):=(ko el.blank).1;clear i H B o;have f:Hid (∀ W,Kp a W->W.cell? ⟨w.heap.size,0,none⟩=some (.int .i64 0)/\W.cell? ⟨w.heap.size,1,none⟩=some (.int .i64 0)/\W.cell? ⟨w.heap.size,2,none⟩=some (.slice none 0 0)/\W.cell? ⟨w.heap.size,3,none⟩=some (.slice none 0 0)/\W.cell? ⟨w.heap.size,4,none⟩=some (.slice none 0 0)):=λW l=>⟨(d.out.kp l).cell 0,(d.out.kp l).cell 1,(d.out.kp l).cell 2,(d.out.kp l).cell 3,(d.out.kp l).cell 4⟩
  have HL:Hid (∀ W:World,Ow 5 (W.alloc (.cells #[.int .u8 1] 5)) W.heap.size (.slice (some ⟨W.heap.size,0,none⟩) 1 1) [1]):=λW=>NT W _ _ 1 _ [1] (JO _) rfl (by omega) rfl
  have KB:Hid (Kp a a.drew):=gY a;have KA:Hid (Kp a (a.alloc (.cells #[.int .u8 1] 5)).drew):=(((NQ a).alloc _)).drew;have S0:=JE (f.out _ KB.out);have SA:=JE (f.out _ KA.out);go_region_held3 (λW=>W.cell? ⟨w.heap.size,0,none⟩=some (.int .i64 0)/\W.cell? ⟨w.heap.size,1,none⟩=some (.int .i64 0)/\W.cell? ⟨w.heap.size,2,none⟩=some (.slice none 0 0)/\W.cell? ⟨w.heap.size,3,none⟩=some (.slice none 0 0)/\W.cell? ⟨w.heap.size,4,none⟩=some (.slice none 0 0))
   (first|with_reducible exact S0.out|with_reducible exact SA.out|with_reducible exact S4.out|with_reducible exact SB.out|with_reducible exact S5.out|with_reducible exact S6.out|with_reducible exact S8.out|with_reducible exact S9.out)
   (first
    | (go_at_call 185;refine(jN _ _ _ o8.rd (by rw[JQ,JQ,bq];have:=x.out;simp only[Ka,Kf];omega)).mono ?_;rintro _ w9 ⟨⟨r9,rfl,o9⟩,k9⟩;have K9:=JE (F.out.trans k9);have S9:=JE (f.out _ K9.out))
    | (refine fb U rfl (.tmp 32) (.tmp 34) rfl a.heap.size _ _ rfl (C.kp P) _ _ rfl o6.rd (by rw[JQ,bq];have:=x.out;simp only[Ka,Kf];omega) G.out.size ?_;intro v8 w8 o8 g8;have F:=JE (NS G.out g8 C.own_ge);have S8:=JE (f.out _ F.out))
    | (go_at_call 230;refine(I.out _ v.out).mono ?_;rintro _ w6 ⟨⟨r6,rfl,o6⟩,P⟩;have G:=JE (v.out.trans P);have S6:=JE (f.out _ G.out))
    | (refine fb U rfl (.tmp 28) (.tmp 31) rfl a.heap.size _ _ rfl u _ _ rfl D.rd (by rw[bq];simp only[Ka,Kf];omega) k.out.size ?_;intro v5 w5 C E;have v:=JE (NS k.out E u.own_ge);have S5:=JE (f.out _ v.out))
    | (refine fb U rfl (.tmp 28) (.tmp 31) rfl a.heap.size _ _ rfl s _ _ rfl (D.rd.kp ((NQ _).alloc _)) (by rw[bq];simp only[Ka,Kf];omega) (k.out.alloc _).size ?_;intro v5 w5 C E;have v:=JE (NS (k.out.alloc _) E s.own_ge);have S5:=JE (f.out _ v.out))
    | (go_at_call 229;refine(A.out (a.alloc (.cells #[.int .u8 1] 5)).drew).mono ?_;rintro _ L ⟨⟨r4,rfl,D⟩,z⟩;have k:=JE (KA.out.trans z);have S4:=JE (f.out _ k.out);have u:=((HL.out a).kp (gY _)).kp z)
    | (go_at_call 229;refine(A.out a.drew).mono ?_;rintro _ L ⟨⟨r4,rfl,D⟩,z⟩;have k:=JE (KB.out.trans z);have S4:=JE (f.out _ k.out);have SB:=JE (f.out _ (k.out.alloc (.cells #[.int .u8 1] 5)));have s:=(HL.out L).mono k.out.size))
  all_goals
   go_wp2_with fail;go_ret;exact⟨⟨_,rfl,o9.mono (by have:=F.out.size;have:=J.out.2;omega)⟩,J.out.1.trans K9.out⟩
 ·rw[Kb n] at o
  rw[if_neg n];clear n;go_enter func192,ntmps192;go_wp2_with fail;refine(o.out _ ((NQ w).alloc _)).mono ?_;rintro _ _ ⟨rfl,rfl⟩;go_wp2_with fail;obtain⟨a,i⟩:∃ a,w.alloc (.cells #[.int .i64 m.kind,.int .i64 m.name,.slice Y N S,.slice V M R,.slice Z O T] 81)=a:=⟨_,rfl⟩;rw[i];have d:Hid (Bx a w.heap.size 81 #[.int .i64 m.kind,.int .i64 m.name,.slice Y N S,.slice V M R,.slice Z O T]):=by rw[<-i];exact Oa _ _ _
  have J:Hid (Kp w a/\a.heap.size=w.heap.size+1):=by rw[<-i];exact⟨(NQ _).alloc _,by simp⟩
  have I:Hid (∀ W,Kp a W->Calls prog 230 #[.agg #[.int .i64 m.kind,.int .i64 m.name,.slice Y N S,.slice V M R,.slice Z O T]] W λe w'=>(∃ r,e=.returned r/\Ow 5 w' W.heap.size r (cR m))/\Kp W w'):=λW l=>tg _ m W ⟨_,_,_,rfl,H.out.kp (J.out.1.trans l)⟩ B.out
  have x:Hid ((cR m).length<=300):=(ko B.out).1;clear i H B o;have f:Hid (∀ W,Kp a W->W.cell? ⟨w.heap.size,0,none⟩=some (.int .i64 m.kind)/\W.cell? ⟨w.heap.size,1,none⟩=some (.int .i64 m.name)/\W.cell? ⟨w.heap.size,2,none⟩=some (.slice Y N S)/\W.cell? ⟨w.heap.size,3,none⟩=some (.slice V M R)/\W.cell? ⟨w.heap.size,4,none⟩=some (.slice Z O T)):=λW l=>⟨(d.out.kp l).cell 0,(d.out.kp l).cell 1,(d.out.kp l).cell 2,(d.out.kp l).cell 3,(d.out.kp l).cell 4⟩
  have HL:Hid (∀ W:World,Ow 5 (W.alloc (.cells #[.int .u8 1] 5)) W.heap.size (.slice (some ⟨W.heap.size,0,none⟩) 1 1) [1]):=λW=>NT W _ _ 1 _ [1] (JO _) rfl (by omega) rfl
  have KB:Hid (Kp a a.drew):=gY a;have KA:Hid (Kp a (a.alloc (.cells #[.int .u8 1] 5)).drew):=(((NQ a).alloc _)).drew;have S0:=JE (f.out _ KB.out);have SA:=JE (f.out _ KA.out);go_region_held3 (λW=>W.cell? ⟨w.heap.size,0,none⟩=some (.int .i64 m.kind)/\W.cell? ⟨w.heap.size,1,none⟩=some (.int .i64 m.name)/\W.cell? ⟨w.heap.size,2,none⟩=some (.slice Y N S)/\W.cell? ⟨w.heap.size,3,none⟩=some (.slice V M R)/\W.cell? ⟨w.heap.size,4,none⟩=some (.slice Z O T))
   (first|with_reducible exact S0.out|with_reducible exact SA.out|with_reducible exact S4.out|with_reducible exact SB.out|with_reducible exact S5.out|with_reducible exact S6.out|with_reducible exact S8.out|with_reducible exact S9.out)
   (first
    | (go_at_call 185;refine(jN _ _ _ o8.rd (by rw[JQ,JQ,bq];have:=x.out;simp only[Ka,Kf];omega)).mono ?_;rintro _ w9 ⟨⟨r9,rfl,o9⟩,k9⟩;have K9:=JE (F.out.trans k9);have S9:=JE (f.out _ K9.out))
    | (refine fb U rfl (.tmp 32) (.tmp 34) rfl a.heap.size _ _ rfl (C.kp P) _ _ rfl o6.rd (by rw[JQ,bq];have:=x.out;simp only[Ka,Kf];omega) G.out.size ?_;intro v8 w8 o8 g8;have F:=JE (NS G.out g8 C.own_ge);have S8:=JE (f.out _ F.out))
    | (go_at_call 230;refine(I.out _ v.out).mono ?_;rintro _ w6 ⟨⟨r6,rfl,o6⟩,P⟩;have G:=JE (v.out.trans P);have S6:=JE (f.out _ G.out))
    | (refine fb U rfl (.tmp 28) (.tmp 31) rfl a.heap.size _ _ rfl u _ _ rfl D.rd (by rw[bq];simp only[Ka,Kf];omega) k.out.size ?_;intro v5 w5 C E;have v:=JE (NS k.out E u.own_ge);have S5:=JE (f.out _ v.out))
    | (refine fb U rfl (.tmp 28) (.tmp 31) rfl a.heap.size _ _ rfl s _ _ rfl (D.rd.kp ((NQ _).alloc _)) (by rw[bq];simp only[Ka,Kf];omega) (k.out.alloc _).size ?_;intro v5 w5 C E;have v:=JE (NS (k.out.alloc _) E s.own_ge);have S5:=JE (f.out _ v.out))
    | (go_at_call 229;refine(A.out (a.alloc (.cells #[.int .u8 1] 5)).drew).mono ?_;rintro _ L ⟨⟨r4,rfl,D⟩,z⟩;have k:=JE (KA.out.trans z);have S4:=JE (f.out _ k.out);have u:=((HL.out a).kp (gY _)).kp z)
    | (go_at_call 229;refine(A.out a.drew).mono ?_;rintro _ L ⟨⟨r4,rfl,D⟩,z⟩;have k:=JE (KB.out.trans z);have S4:=JE (f.out _ k.out);have SB:=JE (f.out _ (k.out.alloc (.cells #[.int .u8 1] 5)));have s:=(HL.out L).mono k.out.size))
  all_goals
   go_wp2_with fail;go_ret;exact⟨⟨_,rfl,o9.mono (by have:=F.out.size;have:=J.out.2;omega)⟩,J.out.1.trans K9.out⟩
theorem qC (b:j+1<=K)(a:q<2 ^ (K - (j+1))):2*q<2 ^ (K - j)/\2*q+1<2 ^ (K - j):=by
 have e:K - j=(K - (j+1))+1:=by omega
 rw[e,bi];omega
theorem GG (l:List Int)(g:List Int)(i:Nat)(h:i<l.length):
  (l.take (i+1)).filter (λi=>decide (i∉g))=(l.take i).filter (λi=>decide (i∉g))++(if l.getD i 0∈g then [] else [l.getD i 0]):=by
 rw[Na,JG h,MC,JF,JG h];simp only[Option.toList_some,Mt];by_cases a:l[i]∈g
 ·rw[if_pos a];simp[a]
 ·rw[if_neg a];simp[a]
theorem GH (t:List Nod)(K j:Nat)(hT:bl t K)(hj:j+1<=K)
  (IH:∀ (q:Nat) (w:World) (vt M:Value) (g:List Int),NL w vt t->RI w M g->q<2 ^ (K - j)->Calls prog 192 #[vt,.int .i64 ((nd j q:Nat):Int),M] w λe w'=>(∃ r,e=.returned r/\Ow 5 w' w.heap.size r (bW t g j q))/\Kp w w')
  (q:Nat) (w:World) (vt M:Value) (g:List Int) (ht:NL w vt t) (N:RI w M g) (hq:q<2 ^ (K - (j+1))):
  Calls prog 192 #[vt,.int .i64 ((nd (j+1) q:Nat):Int),M] w λe w'=>(∃ r,e=.returned r/\Ow 5 w' w.heap.size r (bW t g (j+1) q))/\Kp w w':=by
 have U:=aj;have S:=gx;obtain⟨x1,x2⟩:=hT.lt hj hq;obtain⟨b,aJ,c,p,aa,h,rfl,u⟩:=ht.node x1;have J:=JE u.2;obtain⟨c0,c1,c2,c3,c4⟩:=JN u.kind (JN u.name (JN u.pubC (JN u.unC u.hashC)));have aw:=JE (hT.node (nd (j+1) q));have T:=JE (λW (n:Int) (C:Kp w W)=>sE M g n W (N.kp C));have HD:Hid (bW t g (j+1) q=bJ ([2]++cR (ff (ats t (nd (j+1) q)) g)++aO (bW t g j (2*q))++aO (bW t g j (2*q+1)))):=rfl;rw[HD.out];have e1:((nd (j+1) q:Nat):Int).tmod 2=1:=tV j q;have e4:((nd (j+1) q:Nat):Int)<(t.length:Int):=by omega
 obtain⟨k1,k2⟩:=qC hj hq;obtain⟨_,y1,y2⟩:=ec hT.le hj hq;obtain⟨f1,f2,f3⟩:=fK (j:=j) (q:=q) y1 y2;have R:=JE (λW=>lO ((nd (j+1) q:Nat):Int) W);have Q:=JE (λW=>lP ((nd (j+1) q:Nat):Int) W);rw[f1,f2] at R;rw[f1,f3] at Q;have aE:=JE (λW (C:Kp w W)=>IH (2*q) W _ M g (ht.kp C) (N.kp C) k1);have aD:=JE (λW (C:Kp w W)=>IH (2*q+1) W _ M g (ht.kp C) (N.kp C) k2);have aC:=JE (lD t g j (2*q));have aB:=JE (lD t g j (2*q+1));obtain⟨ag,ng,cg,rfl⟩:=N.sl;obtain⟨ap,np,cp,rfl⟩:=aA u.2.pub;obtain⟨ah,nh,ch,rfl⟩:=aA u.2.hash;have af:=aw.out.unl;obtain⟨au,cu,eu,pu,_⟩:=u.2.un.shape;subst eu;have s:=JE (GG (ats t (nd (j+1) q)).un g);obtain⟨F,hF⟩:∃ F:Nat->List Int,F=λi=>((ats t (nd (j+1) q)).un.take i).filter (λi=>decide (i∉g)):=⟨_,rfl⟩
 have an:∀ i,((ats t (nd (j+1) q)).un.take i).filter (λi=>decide (i∉g))=F i:=λi=>by rw[hF]
 have Z:Hid (ff (ats t (nd (j+1) q)) g=⟨(ats t (nd (j+1) q)).kind,(ats t (nd (j+1) q)).name,(ats t (nd (j+1) q)).pub,F (ats t (nd (j+1) q)).un.length,(ats t (nd (j+1) q)).hash⟩):=by
  unfold Hid ff;rw[hF];simp only[Kz]
 have P:=JE (aw.out.less g);have V:Hid (∀ i,(F i).length<=100):=λi=>by rw[hF];exact Kd (MB _ _) (by rw[Ki];omega)
 have ab:Hid (F 0=[]):=by rw[hF];rfl
 simp only[an] at s;generalize bW t g j (2*q)=DL at *;generalize bW t g j (2*q+1)=DR at *;clear hT ht N u hq IH k1 k2 y1 y2 f1 f2 f3 hF an;generalize nd j (2*q)=XL at *;generalize nd j (2*q+1)=XR at *;generalize nd (j+1) q=X at *;generalize t.length=TL at *;generalize ats t X=m at *;obtain⟨H,am⟩:∃ H,m.un.length=H:=⟨_,rfl⟩;rw[am] at c3 s Z pu af J;have O:=JE (λW (C:Kp w W)=>(J.out.un.kp C));have az:Hid ((cR (ff m g)).length<=300):=(ko P.out).1;rw[Z.out] at P az ⊢;clear Z am;go_enter func192,ntmps192;go_wp2_with fail;obtain⟨G,B⟩:∃ G,w.alloc (.cells #[.int .i64 m.kind,.int .i64 m.name,.slice ap np cp,.slice au H cu,.slice ah nh ch] 81)=G:=⟨_,rfl⟩;rw[B];have L:Hid (Bx G w.heap.size 81 #[.int .i64 m.kind,.int .i64 m.name,.slice ap np cp,.slice au H cu,.slice ah nh ch]):=by rw[<-B];exact Oa _ _ _
 have HZ:Hid (Kp w G/\G.heap.size=w.heap.size+1):=by rw[<-B];exact⟨(NQ _).alloc _,by simp⟩
 clear B c0 c1 c2 c3 c4;go_loopw[8,9] (λv x wr=>∃ i:Nat,i<=H/\x=.int .i64 (i:Int)/\OI 3 wr G.heap.size v (F i)/\Kp G wr) (λ_ x _=>(H - (intOf x).toNat))
 case atStart=>exact⟨0,JW _,rfl,by rw[ab.out];exact OI.nil _ _ _,NQ _⟩
 case round=>
  obtain⟨i,hi,rfl,ho,a⟩:=hrel;have d3:=(L.out.kp a).cell 3;have f3:=(L.out.kp a).frozen 3;have KR:=JE a;have HO:=JE ho;by_cases A:i<H
  ·obtain⟨gu,ou,rfl,_,ak⟩:=(O.out _ (HZ.out.1.trans a)).at i A
   have aQ:=ak i A;have i1:IntKind.i64.wrap ((i:Int)+1)=(i:Int)+1:=JI _ (by omega);have i3:(i:Int)<(H:Int):=by omega
   have o:=JE (s.out i A);have l:=JE (T.out wr (m.un.getD i 0) (HZ.out.1.trans a));have aI:=V.out i;generalize m.un.getD i 0=Y at *;clear ak a ho s O T V ab;by_cases hy:Y∈g
   ·rw[Ke hy] at l
    rw[if_pos hy,Lr] at o;clear hy;go_wp2_with fail;refine l.out.mono ?_;rintro _ _ ⟨rfl,rfl⟩;go_wp2_with fail;go_roundw
    case rel=>exact⟨i+1,by omega,by go_num,by rw[o.out];exact HO.out,KR.out⟩
    case measure=>simp[intOf];omega
   ·rw[Kb hy] at l
    rw[if_neg hy] at o;clear hy;go_wp2_with fail;refine l.out.mono ?_;rintro _ _ ⟨rfl,rfl⟩;go_wp2_with(at_builtin;refine gG S rfl _ _ rfl G.heap.size _ (F i) rfl (HO.out.kp ((NQ _).alloc _)) _ [Y] rfl (RI.lit wr 3 #[.int .i64 Y] [Y] 1 rfl (by omega) rfl).ri (by simp;omega) (KR.out.alloc _).size ?_;intro v9 w9 o9 g9;have K9:=JE (NS (KR.out.alloc _) g9 (λk hk=>(OI.lt HO.out k hk).1)))
    go_roundw
    case rel=>exact⟨i+1,by omega,by go_num,by rw[o.out];exact o9,K9.out⟩
    case measure=>simp[intOf];omega
  ·obtain rfl:i=H:=by omega
   have ai:¬(i:Int)<(i:Int):=by omega
   obtain⟨E,y,D,rfl⟩:=ho.ri.sl;obtain⟨ae,aG⟩:=HZ.out;have aq:=(L.out.kp a).set 3 (.slice E y D);have d:Hid (Kp w (wr.setCell ⟨w.heap.size,3,none⟩ (.slice E y D))):=(ae.trans a).setNew (JO _) _;have r3:RI (wr.setCell ⟨w.heap.size,3,none⟩ (.slice E y D)) (.slice E y D) (F i):=ho.ri.grown9 (v:=.slice (some ⟨w.heap.size,0,none⟩) 0 0) ⟨rfl,rfl,rfl,by simp,λz hz aH=>heap_setCell_other wr ⟨w.heap.size,3,none⟩ z (.slice E y D) (λe=>aH (by rw[e];rfl))⟩ (ho.apart (λg N=>by cases N;show w.heap.size<G.heap.size;omega));have ax:Hid (w.heap.size<=(wr.setCell ⟨w.heap.size,3,none⟩ (.slice E y D)).heap.size):=d.out.size;have ay:Hid (NV (wr.setCell ⟨w.heap.size,3,none⟩ (.slice E y D)) (.agg #[.int .i64 m.kind,.int .i64 m.name,.slice ap np cp,.slice E y D,.slice ah nh ch]) ⟨m.kind,m.name,m.pub,F i,m.hash⟩):=⟨_,_,_,rfl,⟨J.out.pub.kp d.out,r3,J.out.hash.kp d.out⟩⟩;have f:=JE aq;simp only[JH,JP,JM] at f;clear a ho s O T V ab HO KR ae aG aq r3 L HZ ai A hi;have ai:¬(i:Int)<(i:Int):=by omega
   go_wp2_with fail;obtain⟨WS,al⟩:∃ WS,wr.setCell ⟨w.heap.size,3,none⟩ (.slice E y D)=WS:=⟨_,rfl⟩;rw[al] at d ay f ax ⊢;clear al;refine(R.out _).mono ?_;rintro _ _ ⟨rfl,rfl⟩;go_wp2_with fail;refine(Q.out _).mono ?_;rintro _ _ ⟨rfl,rfl⟩;go_wp2_with fail;refine(aE.out _ d.out).mono ?_;rintro _ w2 ⟨⟨r2,rfl,o2⟩,k2⟩;clear R Q aE;go_wp2_with fail;refine(iC _ DL w2 o2.rd).mono ?_;rintro _ w3 ⟨⟨r3,rfl,o3⟩,k3⟩;have K3:=JE (Kp.trans k2 k3);clear o2 k2 k3;go_wp2_with fail;refine(aD.out _ (d.out.trans K3.out)).mono ?_;rintro _ w4 ⟨⟨r4,rfl,o4⟩,k4⟩;go_wp2_with fail;refine(iC _ DR w4 o4.rd).mono ?_;rintro _ w5 ⟨⟨r5,rfl,o5⟩,k5⟩;have I:=JE (K3.out.trans (Kp.trans k4 k5));have aF:=o3.kp (Kp.trans k4 k5);have aP:=fo (x:=DL) (by have:=aC.out;omega);have aN:=fo (x:=DR) (by have:=aB.out;omega);have d0:=(f.out.kp (I.out.alloc (.cells #[.int .u8 2] 5))).cell 0;have d1:=(f.out.kp (I.out.alloc (.cells #[.int .u8 2] 5))).cell 1;have d2:=(f.out.kp (I.out.alloc (.cells #[.int .u8 2] 5))).cell 2;have ao:=(f.out.kp (I.out.alloc (.cells #[.int .u8 2] 5))).cell 3;have d4:=(f.out.kp (I.out.alloc (.cells #[.int .u8 2] 5))).cell 4;simp only[JT,JS,JU] at d0 d1 d2 ao d4;clear o3 o4 k4 k5 K3 aD d3 f3;go_wp2_with fail;refine(tg _ _ _ (ay.out.kp (I.out.alloc _)) P.out).mono ?_;rintro _ w6 ⟨⟨r6,rfl,o6⟩,k6⟩;have K6:=JE (Kp.trans (I.out.alloc (.cells #[.int .u8 2] 5)) k6);have ad:=Kp.trans ((NQ w5).alloc (.cells #[.int .u8 2] 5)) k6;have o1:=((NT w5 5 w5.heap.size 1 #[.int .u8 2] [2] (JO _) rfl (by omega) rfl).kp k6);have ar:=JE ad;have aK:=az.out;have aM:=aC.out;have aL:=aB.out;clear d0 d1 d2 ao d4 k6 ad;go_wp2_with(first
    | (at_builtin;refine bw U rfl _ _ rfl w5.heap.size _ _ rfl o8 _ (aO DR) rfl (o5.kp K8.out).rd (by simp only[JQ,Ka,Kf];omega) K8.out.size ?_;intro v9 w9 o9 g9 _;have K9:=JE (NS K8.out g9 o8.own_ge))
    | (at_builtin;refine bw U rfl _ _ rfl w5.heap.size _ _ rfl o7 _ (aO DL) rfl (aF.kp K7.out).rd (by simp only[JQ,Ka,Kf];omega) K7.out.size ?_;intro v8 w8 o8 g8 _;have K8:=JE (NS K7.out g8 o7.own_ge))
    | (at_builtin;refine bw U rfl _ _ rfl w5.heap.size _ [2] rfl o1 _ (cR ⟨m.kind,m.name,m.pub,F i,m.hash⟩) rfl o6.rd (by simp only[JQ,Ka,Kf];omega) ar.out.size ?_;intro v7 w7 o7 g7 _;have K7:=JE (NS ar.out g7 o1.own_ge)))
   refine(jN _ _ _ o9.rd (by simp only[JQ,Ka,Kf];omega)).mono ?_;rintro _ wA ⟨⟨rA,rfl,oA⟩,kA⟩;go_wp2_with fail;go_ret;have KE:=d.out.trans (I.out.trans (K9.out.trans kA));exact⟨⟨_,rfl,oA.mono (Kd ax.out (Kd I.out.size K9.out.size))⟩,KE⟩
theorem yQ (t:List Nod)(K:Nat)(hT:bl t K):∀ (j q:Nat) (w:World) (vt vg:Value) (g:List Int),j<=K->NL w vt t->RI w vg g->q<2 ^ (K - j) ->
  Calls prog 192 #[vt,.int .i64 ((nd j q:Nat):Int),vg] w λe w'=>(∃ r,e=.returned r/\Ow 5 w' w.heap.size r (bW t g j q))/\Kp w w'
 | 0,q,w,vt,vg,g,_,ht,hg,hq=>GD vt vg t g K q w hT ht hg (by simpa using hq)
 | j+1,q,w,vt,vg,g,hj,ht,hg,hq=>GH t K j hT hj (λq w vt vg g ht hg hq=>yQ t K hT j q w vt vg g (by omega) ht hg hq) q w vt vg g ht hg hq

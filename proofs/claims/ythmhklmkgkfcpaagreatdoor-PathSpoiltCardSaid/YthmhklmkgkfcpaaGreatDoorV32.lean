import Derived.Test.YthmhklmkgkfcpaaGreatDoorV31
set_option linter.all false
set_option maxHeartbeats 8000000
set_option maxRecDepth 100000
namespace Go.Proofs.YthmhklmkgkfcpaaGreatDoor
open Go.Proofs.Tryz Go.RowKit
variable {B K c g i k n:Nat}{Z:Nat->Prop}{e:TypeId}{l:List UInt8}{t:List Nod}{w:World}
section
open Go.Maps
theorem Hb (aa M L J:Value)(t:List Nod)(K:Nat)(i:Int)(seed secret info:List UInt8)(w:World)(D:NL w aa t)(E:az t K)(B:Rd w M seed)(A:Rd w L secret)(P:Rd w J info)(k:fa t i seed secret≠0):
  Calls prog 20 #[aa,.int .i64 i,M,L,J] w λe w'=>(∃ v,e=.returned (.tuple #[v,.int .i64 (fa t i seed secret)])/\MV w' v dI)/\Kp w w':=by
 obtain⟨T,S,R⟩:=E.small;have l:=Lib.hid (fun(U:¬bd t i) W (V:Kp w W)=>rW aa t K i W (D.kp V) E U);obtain⟨a,c,rfl,_,_⟩:=D.shape;obtain⟨a1,c1,rfl,_,_⟩:=B.shape;obtain⟨a2,c2,rfl,_,_⟩:=A.shape;obtain⟨a3,Z,c3,rfl⟩:=aA P;obtain⟨p,j⟩:∃ p,w.alloc (.cells #[.slice none 0 0,.slice none 0 0,.slice none 0 0,.slice none 0 0,.slice none 0 0] 47)=p:=⟨_,rfl⟩;have O:Bx p w.heap.size 47 #[.slice none 0 0,.slice none 0 0,.slice none 0 0,.slice none 0 0,.slice none 0 0]:=by rw[<-j];exact Bx.new w _ _
 have b:Hid (Kp w p):=by unfold Hid;rw[<-j];exact(Kp.refl _).alloc _
 have y:=Lib.hid O;have n:=Lib.hid j;have g:fa t i seed secret=if seed.length=32/\secret.length=32 then dF t i else 1:=rfl
 generalize t.length=N at *;clear D E O j T S R P;by_cases o:seed.length=32
 ·by_cases z:secret.length=32
  ·rw[if_pos ⟨o,z⟩] at g
   have m:¬bd t i:=λh=>k (by rw[g];unfold dF;rw[if_pos h])
   have u:fa t i seed secret=11:=by rw[g];unfold dF;rw[if_neg m]
   have x:=Lib.hid (l.out m p b.out);rw[u,o,z];clear g k m u B A o z l;go_enter func20,ntmps20;go_wp2_with fail;rw[n.out];refine x.out.mono ?_;rintro _ w2 ⟨rfl,C⟩;have H:=Lib.hid (y.out.kp C);have Y:=Lib.hid (b.out.trans C);clear C;have G:=Lib.hid (H.out.kp ((Kp.refl w2).alloc (.cells #[.slice none 0 0,.int .i64 0,.slice none 0 0,.slice none 0 0] 95)));have X:Hid (Kp w (w2.alloc (.cells #[.slice none 0 0,.int .i64 0,.slice none 0 0,.slice none 0 0] 95))):=Y.out.alloc _;go_wp2_with(refine fv rfl rfl 47 (.tmp 10) (.tmp 40) rfl w.heap.size 47 _ #[.slice none 0 0,.slice none 0 0,.slice none 0 0,.slice none 0 0,.slice none 0 0] rfl rfl G.out rfl jv eo ?_;intro I f Q d)
   have s:=d w X.out (IB _);refine bodyPost_ret (fY rfl _ _ w.heap.size _ _ (0,0) _ _ rfl f underlying47 rfl eo rfl) rfl ?_;exact⟨⟨_,rfl,_,_,_,_,_,rfl,MIn.none _⟩,s⟩
  ·rw[if_neg λh=>z h.2] at g
   have F:((secret.length:Int)==32)=false:=ID.2 (by omega);have r:((secret.length:Int) != 32)=true:=Ki.2 (by omega);have q:¬(secret.length:Int)=32:=by omega
   rw[g,o];clear k g B A o l;go_enter func20,ntmps20;rw[<-n.out] at y b;go_wp2_with(refine fv rfl rfl 47 (.tmp 10) (.tmp 31) rfl w.heap.size 47 _ #[.slice none 0 0,.slice none 0 0,.slice none 0 0,.slice none 0 0,.slice none 0 0] rfl rfl y.out rfl jv eo ?_;intro I f Q d)
   have s:=d w b.out (IB _);refine bodyPost_ret (fY rfl _ _ w.heap.size _ _ (0,0) _ _ rfl f underlying47 rfl eo rfl) rfl ?_;exact⟨⟨_,rfl,_,_,_,_,_,rfl,MIn.none _⟩,s⟩
 ·rw[if_neg λh=>o h.1] at g
  have F:((seed.length:Int)==32)=false:=ID.2 (by omega);have r:((seed.length:Int) != 32)=true:=Ki.2 (by omega);have q:¬(seed.length:Int)=32:=by omega
  rw[g];clear k g B A l;go_enter func20,ntmps20;rw[<-n.out] at y b;go_wp2_with(refine fv rfl rfl 47 (.tmp 10) (.tmp 31) rfl w.heap.size 47 _ #[.slice none 0 0,.slice none 0 0,.slice none 0 0,.slice none 0 0,.slice none 0 0] rfl rfl y.out rfl jv eo ?_;intro I f Q d)
  have s:=d w b.out (IB _);refine bodyPost_ret (fY rfl _ _ w.heap.size _ _ (0,0) _ _ rfl f underlying47 rfl eo rfl) rfl ?_;exact⟨⟨_,rfl,_,_,_,_,_,rfl,MIn.none _⟩,s⟩
end
theorem yv (aa j g f:Value)(t:List Nod)(K:Nat)(i:Int)(seed secret info:List UInt8)(w:World)(o:NL w aa t)(m:az t K)(u:bq t K)(r:Rd w j seed)(q:Rd w g secret)(p:Rd w f info)(n:info.length<=1400)(d:Tab w):
  Calls prog 20 #[aa,.int .i64 i,j,g,f] w λe w'=>(∃ v,e=.returned (.tuple #[v,.int .i64 (fa t i seed secret)])/\MV w' v (di t K i seed secret info))/\Kp w w':=by
 by_cases h:fa t i seed secret=0
 ·have c:=h
  unfold fa at c;by_cases l:seed.length=32/\secret.length=32
  ·rw[if_pos l] at c
   unfold dF at c;have a:bd t i:=by
    by_cases a:bd t i
    ·exact a
    ·rw[if_neg a] at c;cases c
   obtain⟨k,rfl,x,b,s⟩:=iP m a;unfold di;rw[if_pos h,h,IM];exact Ha aa j g f t K k seed secret info w o m u r q p b l.1 l.2 n d
  ·rw[if_neg l] at c
   cases c
 ·unfold di
  rw[if_neg h];exact Hb aa j g f t K i seed secret info w o m r q p h
section
open Go.Maps
theorem Hw (aa v Y x y:Value)(t:List Nod)(K:Nat)(i me:Int)(own:List Sd)(info:List UInt8)(p:Pa)(w:World)(Q:NL w aa t)(G:az t K)(hv:SL w v own)(hi:Rd w Y info)(T:PIn w x y p)(l:Tab w)(n:¬bd t i\/i=me):
  Calls prog 23 #[aa,.int .i64 i,.int .i64 me,v,Y,.agg #[x,y]] w λe w'=>(∃ v,e=.returned (.tuple #[v,.int .i64 (cH t K i me own info p)])/\MV w' v (cO t K i me own info p))/\Kp w w':=by
 obtain⟨z1,z2,z3⟩:=G.small;have u:=Lib.hid (fun(hn:¬bd t i) W (E:Kp w W)=>rW aa t K i W (Q.kp E) G hn);have s:=Lib.hid (fun(k:Nat) (hk:(ats t (2*k)).kind=1) W (E:Kp w W)=>pH aa t K k W (Q.kp E) G hk (l.kp E));have B:Hid (¬bd t i->cH t K i me own info p=11/\cO t K i me own info p=dI):=λh=>by
  have J:cH t K i me own info p=11:=by unfold cH;rw[if_pos h]
  exact⟨J,by unfold cO;rw[if_neg (by rw[J];decide)]⟩
 have A:Hid (bd t i->i=me->cH t K i me own info p=1/\cO t K i me own info p=dI):=λh h2=>by
  have J:cH t K i me own info p=1:=by unfold cH;rw[if_neg (by rw[JN];exact h),if_pos h2]
  exact⟨J,by unfold cO;rw[if_neg (by rw[J];decide)]⟩
 have z:=Lib.hid (fun(h:bd t i)=>iP G h);obtain⟨a,c,rfl,_,_⟩:=Q.shape;obtain⟨av,nv,cv,rfl⟩:=SE.sl hv;obtain⟨ai,ni,ci,rfl⟩:=aA hi;obtain⟨ax,nx,cx,rfl⟩:=aA T.pub;obtain⟨ay,Z,cy,rfl⟩:=SE.sl T.step;generalize cH t K i me own info p=TE at *;generalize cO t K i me own info p=TV at *;obtain⟨j,g⟩:∃ j,(w.alloc (.cells #[.slice ax nx cx,.slice ay Z cy] 27)).alloc (.cells #[.slice none 0 0,.slice none 0 0,.slice none 0 0,.slice none 0 0,.slice none 0 0] 47)=j:=⟨_,rfl⟩;have O:Hid (∀ W,Kp j W->Bx W (w.heap.size+1) 47 #[.slice none 0 0,.slice none 0 0,.slice none 0 0,.slice none 0 0,.slice none 0 0]):=λW E=>by
  refine Bx.kp ?_ E;have:=Bx.new (w.alloc (.cells #[.slice ax nx cx,.slice ay Z cy] 27)) 47 #[.slice none 0 0,.slice none 0 0,.slice none 0 0,.slice none 0 0,.slice none 0 0];rw[IQ] at this;rw[<-g];exact this
 have R:Hid (Kp w j):=by unfold Hid;rw[<-g];exact((Kp.refl _).alloc _).alloc _
 have M:=Lib.hid g;generalize U:t.length=N at *;clear Q G hv hi T z1 z2 z3 l g U;by_cases b:bd t i
 ·obtain rfl:i=me:=n.resolve_left λh=>h b
  obtain⟨k,rfl,_,d,_⟩:=z.out b;obtain⟨I,H⟩:=A.out b rfl;have P:=Lib.hid (IC I H);clear u B A z b n I H;have f:=Lib.hid (s.out k d j R.out);clear s d;go_enter func23,ntmps23;go_wp2_with fail;rw[M.out];refine f.out.mono ?_;rintro _ w2 ⟨⟨ab,sv,rfl,m⟩,F⟩;obtain⟨an,nn,cn,rfl⟩:=m.nodes.sl;obtain⟨X,S,V,rfl⟩:=SE.sl m.steps;have L:Hid (Kp j (w2.alloc (.cells #[.slice a N c,.int .i64 (k:Int),.slice an nn cn,.slice X S V] 95))):=F.alloc _;have D:=Lib.hid (O.out _ L.out);have C:=Lib.hid (R.out.trans L.out);clear m F;go_wp2_with(refine fv rfl rfl 47 (.tmp 12) (.tmp 37) rfl (w.heap.size+1) 47 _ #[.slice none 0 0,.slice none 0 0,.slice none 0 0,.slice none 0 0,.slice none 0 0] rfl rfl D.out rfl jv eo ?_;intro wq r gq q)
  have o:=q w C.out (LM _);refine bodyPost_ret (fY rfl _ _ (w.heap.size+1) _ _ (0,0) _ _ rfl r underlying47 rfl eo rfl) rfl ?_;rw[P.out.1,P.out.2];exact⟨⟨_,rfl,_,_,_,_,_,rfl,MIn.none _⟩,o⟩
 ·have P:=Lib.hid (B.out b)
  have f:=Lib.hid (u.out b j R.out);clear u B A z s b n;go_enter func23,ntmps23;go_wp2_with fail;rw[M.out];refine f.out.mono ?_;rintro _ w2 ⟨rfl,F⟩;have L:Hid (Kp j (w2.alloc (.cells #[.slice none 0 0,.int .i64 0,.slice none 0 0,.slice none 0 0] 95))):=F.alloc _;have D:=Lib.hid (O.out _ L.out);have C:=Lib.hid (R.out.trans L.out);clear F;go_wp2_with(refine fv rfl rfl 47 (.tmp 12) (.tmp 31) rfl (w.heap.size+1) 47 _ #[.slice none 0 0,.slice none 0 0,.slice none 0 0,.slice none 0 0,.slice none 0 0] rfl rfl D.out rfl jv eo ?_;intro wq r gq q)
  have o:=q w C.out (LM _);refine bodyPost_ret (fY rfl _ _ (w.heap.size+1) _ _ (0,0) _ _ rfl r underlying47 rfl eo rfl) rfl ?_;rw[P.out.1,P.out.2];exact⟨⟨_,rfl,_,_,_,_,_,rfl,MIn.none _⟩,o⟩
end
theorem yy (aa v f x y:Value)(t:List Nod)(K:Nat)(i me:Int)(own:List Sd)(info:List UInt8)(p:Pa)(w:World)(s:NL w aa t)(g:az t K)(A:bq t K)(r:SL w v own)(d:Rd w f info)(z:PIn w x y p)
  (u:bL t K me own) (o:info.length<=1400) (n:own.length<=99000) (q:∀ k j,(aM (am p.step k).fors j).b.length<=1600)
  (l:∀ j,j<p.step.length->(am p.step j).pub.length<=10000/\(am p.step j).fors.length<=10000/\∀ k,k<(am p.step j).fors.length->(aM (am p.step j).fors k).half.length<=10000/\(aM (am p.step j).fors k).b.length<=10000) (a:Tab w):
  Calls prog 23 #[aa,.int .i64 i,.int .i64 me,v,f,.agg #[x,y]] w λe w'=>(∃ v,e=.returned (.tuple #[v,.int .i64 (cH t K i me own info p)])/\MV w' v (cO t K i me own info p))/\Kp w w':=by
 by_cases h:¬bd t i\/i=me
 ·exact Hw aa v f x y t K i me own info p w s g r d z a h
 ·rw[not_or,JN] at h
  obtain⟨k,rfl,B,c,_⟩:=iP g h.1;obtain⟨m,rfl,_,_,_⟩:=iP g u.1;exact Hv aa v f x y t K k m own info p w s g A r d z c (λe=>h.2 (by rw[e])) u o n q l a
def yB:ByteArray:=⟨#[115,101,99,114,101,116]⟩
def aJ (n:UInt8):List UInt8:=bQ [n] yB.data.toList
theorem fo (n:UInt8):(aJ n).length=32:=jM _ _
theorem yC (n:UInt8)(w:World):Calls prog 26 #[.int .u8 (n.toNat:Int)] w λe w'=>(∃ r,e=.returned r/\Rd w' r (aJ n)/\bg w.heap.size r)/\Kp w w':=by
 have k:=Lib.hid (λW v (d:Rd W v [n])=>Fh v yB [n] W d (by decide) (by simp));have l:Hid (Rd (w.alloc (.cells #[.int .u8 (n.toNat:Int)] 5)) (.slice (some ⟨w.heap.size,0,none⟩) 1 1) [n]):=(Ow.lit w 5 w.heap.size 1 #[.int .u8 (n.toNat:Int)] [n] (IB _) rfl (by decide) rfl).rd;go_enter func26,ntmps26;go_wp2_with fail;refine(k.out _ _ l.out).mono ?_;rintro _ w2 ⟨⟨v,rfl,a,b⟩,c⟩;have h:=Lib.hid a;have i:Hid (bg w.heap.size v):=λg f=>by have:=b g f;simp at this;omega
 have j:Hid (Kp w w2):=((Kp.refl w).alloc _).trans c;clear a b c;go_wp2_with fail;go_ret;exact⟨⟨_,rfl,h.out,i.out⟩,j.out⟩
theorem Ih (w:World)(ai:Tab w):Calls prog 9 #[] w λe w'=>e=.returned (.bool true)/\Kp w w':=by
 have h:=Lib.hid ai;clear ai;have N:(aG (aJ 1)).length=32:=fT _;have l2:(aG (aJ 2)).length=32:=fT _;obtain⟨f1,f2,f3,f4,f5,f6,f7,f8⟩:=wS (p1:=aG (aJ 1)) (p2:=aG (aJ 2));have V:=Fc N l2;have hT:bq (dk (aG (aJ 1)) (aG (aJ 2))) 1:=V.tidy (Fd N l2);obtain⟨U,aV⟩:=Fe (p1:=aG (aJ 1)) (p2:=aG (aJ 2)) (fo 2) rfl;have B:=CY (i:=0) (me:=1) (seed:=aJ 3) (secret:=aJ 4) [] V f1 (by decide) U (fo 3) (fo 4);have ar:=vP (t:=dk (aG (aJ 1)) (aG (aJ 2))) (K:=1) (i:=0) (secret:=aJ 4) (aJ 3) [] V (by decide) (fo 4);have X:=ir (dk (aG (aJ 1)) (aG (aJ 2))) 1 0 (aJ 3) (aJ 4) [];rw[f5] at X;have Y:fa (dk (aG (aJ 1)) (aG (aJ 2))) 0 (aJ 3) (aJ 4)=0:=by
  unfold fa;rw[if_pos ⟨fo 3,fo 4⟩];unfold dF;rw[if_pos f7]
 have aw:(di (dk (aG (aJ 1)) (aG (aJ 2))) 1 0 (aJ 3) (aJ 4) []).path=aQ (dk (aG (aJ 1)) (aG (aJ 2))) 1 0 (aJ 3) (aJ 4) []:=by unfold di;rw[if_pos Y];rfl
 have aX:(di (dk (aG (aJ 1)) (aG (aJ 2))) 1 0 (aJ 3) (aJ 4) []).last.length=32:=by unfold di;rw[if_pos Y];exact iq (fo 4) _
 have j:Hid (∀ (n:UInt8) W,Calls prog 26 #[.int .u8 (n.toNat:Int)] W λe w'=>(∃ r,e=.returned r/\Rd w' r (aJ n))/\Kp W w'):=λn W=>(yC n W).mono λe w' ⟨⟨r,h1,h2,_⟩,k⟩=>⟨⟨r,h1,h2⟩,k⟩
 have aT:Hid (∀ (n:UInt8) W v,Rd W v (aJ n)->Calls prog 33 #[v] W λe w'=>(∃ r,e=.returned r/\Rd w' r (aG (aJ n)))/\Kp W w'):=λn W v f=>by
  have:=EY v (aJ n) W f;rwa [(eZ (fo n)).2] at this
 have aj:Hid (∀ W v,Rd W v (aG (aJ 1))->Calls prog 37 #[.int .i64 1,v] W λe w'=>(∃ r,e=.returned (.tuple #[r,.int .i64 0])/\NL w' r [aD 1 (aG (aJ 1))])/\Kp W w'):=λW v f=>by
  have:=CA 1 v (aG (aJ 1)) W f;rwa [(rN N).1,(rN N).2] at this
 have ak:Hid (∀ W aa v,NL W aa [aD 1 (aG (aJ 1))]->Rd W v (aG (aJ 2))->Calls prog 38 #[aa,.int .i64 2,v] W λe w'=>(∃ r,e=.returned (.tuple #[r,.int .i64 1,.int .i64 0])/\NL w' r (dk (aG (aJ 1)) (aG (aJ 2))))/\Kp W w'):=λW aa v g f=>by
  have:=Dt aa v [aD 1 (aG (aJ 1))] 0 2 (aG (aJ 2)) W g f (Fb N);rwa [(rO N l2).1,(rO N l2).2.1,(rO N l2).2.2] at this
 generalize bc:dk (aG (aJ 1)) (aG (aJ 2))=T at *;generalize aY:di T 1 0 (aJ 3) (aJ 4) []=MD at *;generalize bd:aQ T 1 0 (aJ 3) (aJ 4) []=m at *;have p:cH T 1 0 1 [⟨2,aJ 2⟩] [] m=0/\(cO T 1 0 1 [⟨2,aJ 2⟩] [] m).tree=MD.tree/\(cO T 1 0 1 [⟨2,aJ 2⟩] [] m).last=MD.last/\(cO T 1 0 1 [⟨2,aJ 2⟩] [] m).path=m:=⟨B.1,B.2.2.1,B.2.2.2.1,B.2.2.2.2.trans aw⟩;have ba:Hid (∀ W aa v1 v2,NL W aa T->Rd W v1 (aJ 3)->Rd W v2 (aJ 4)->Tab W->Calls prog 20 #[aa,.int .i64 0,v1,v2,.slice none 0 0] W λe w'=>(∃ v,e=.returned (.tuple #[v,.int .i64 0])/\MV w' v MD)/\Kp W w'):=λW aa v1 v2 g h1 h2 d=>by
  have:=yv aa v1 v2 (.slice none 0 0) T 1 0 (aJ 3) (aJ 4) [] W g V hT h1 h2 (cQ W) (by simp) d;rwa [Y,aY] at this
 obtain⟨TD,az⟩:∃ TD,cO T 1 0 1 [⟨2,aJ 2⟩] [] m=TD:=⟨_,rfl⟩;rw[az] at p;have a2:Hid (∀ W aa v x y,NL W aa T->SL W v [⟨2,aJ 2⟩]->PIn W x y m->Tab W->Calls prog 23 #[aa,.int .i64 0,.int .i64 1,v,.slice none 0 0,.agg #[x,y]] W λe w'=>(∃ v,e=.returned (.tuple #[v,.int .i64 0])/\MV w' v TD)/\Kp W w'):=λW aa v x y g f hp d=>by
  have:=yy aa v (.slice none 0 0) x y T 1 0 1 [⟨2,aJ 2⟩] [] m W g V hT f (cQ W) hp U (by simp) (by simp) ar.1 ar.2 d;rwa [p.1,az] at this
 have a9:Hid (∀ W aa,NL W aa T->Tab W->Calls prog 13 #[aa,.int .i64 1] W λe w'=>(∃ v,e=.returned (.tuple #[v,.int .i64 0])/\RN w' v [1])/\Kp W w'):=λW aa g d=>by
  have:=FY aa T 1 1 W g V d;have e2:fD T 1 1=[1]:=by unfold fD;rw[if_pos f8];exact f4
  rwa [f6,e2] at this
 have a4:Hid (∀ W aa v,NL W aa MD.tree->NL W v MD.tree->Calls prog 28 #[aa,v] W λe w'=>e=.returned (.bool true)/\Kp W w'):=λW aa v g f=>by
  refine(Dw aa v _ _ W g f).mono ?_;rintro _ w' ⟨⟨b,rfl,Z⟩,z⟩;rw[Z.2 rfl];exact⟨rfl,z⟩
 have a3:Hid (∀ W aa v l,Rd W aa l->Rd W v l->Calls prog 29 #[aa,v] W λe w'=>e=.returned (.bool true)/\W=w'):=λW aa v l g f=>by
  have:=lR aa v l l W g f;rwa [IY rfl] at this
 have bb:Hid (∀ W aa v,RI W aa [1]->RI W v [1]->Calls prog 15 #[aa,v] W λe w'=>e=.returned (.bool true)/\Kp W w'):=λW aa v g f=>by
  have:=vK aa v [1] [1] W g f;rwa [IY rfl] at this
 have hw:∀ k,k<[(⟨2,aJ 2⟩:Sd)].length->-9223372036854775808<=(aK [(⟨2,aJ 2⟩:Sd)] k).node/\(aK [(⟨2,aJ 2⟩:Sd)] k).node<=9223372036854775807:=λk z=>by
  have:k=0:=by simp at z;omega
  subst this;exact⟨(show(-9223372036854775808:Int)<=2 by decide),(show(2:Int)<=9223372036854775807 by decide)⟩
 have a5:Hid (∀ W aa v,NL W aa T->SL W v [⟨2,aJ 2⟩]->Tab W->Calls prog 16 #[aa,.int .i64 1,v] W λe w'=>e=.returned (.bool true)/\Kp W w'):=λW aa v g f d=>by
  refine(yz aa v T [⟨2,aJ 2⟩] 1 1 W g f V (by simp) hw d).mono ?_;rintro _ w' ⟨⟨b,rfl,Z⟩,z⟩;rw[Z.2 U];exact⟨rfl,z⟩
 have a6:Hid (∀ W aa v,NL W aa T->SL W v [⟨2,aJ 2⟩]->Tab W->Calls prog 16 #[aa,.int .i64 0,v] W λe w'=>e=.returned (.bool false)/\Kp W w'):=λW aa v g f d=>by
  refine(yz aa v T [⟨2,aJ 2⟩] 1 0 W g f V (by simp) hw d).mono ?_;rintro _ w' ⟨⟨b,rfl,Z⟩,z⟩;cases b
  ·exact⟨rfl,z⟩
  ·exact absurd (Z.1 rfl) aV
 have a7:Hid (∀ W x y x' y',PIn W x y m->PIn W x' y' m->Calls prog 18 #[.agg #[x,y],.agg #[x',y']] W λe w'=>e=.returned (.bool true)/\Kp W w'):=λW x y x' y' h1 h2=>by
  refine(yA x y x' y' m m W h1 h2).mono ?_;rintro _ w' ⟨⟨b,rfl,Z⟩,z⟩;rw[Z.2 rfl];exact⟨rfl,z⟩
 have c:m.step.length=1:=X.1;have a8:Hid (∀ W x y,PIn W x y m->Calls prog 18 #[.agg #[x,y],.agg #[.slice none 0 0,.slice none 0 0]] W λe w'=>e=.returned (.bool false)/\Kp W w'):=λW x y h1=>by
  refine(yA x y _ _ m ⟨[],[]⟩ W h1 ⟨cQ W,aH.nil W⟩).mono ?_;rintro _ w' ⟨⟨b,rfl,Z⟩,z⟩;cases b
  ·exact⟨rfl,z⟩
  ·have:=Z.1 rfl
   rw[this] at c;cases c
 have A:(am m.step 0).fors.length=1:=(X.2.2 0 (by decide)).1;have M:=Lib.hid (IC c (IC A (IC aX (IC aw p))));clear f1 f2 f3 f4 f5 f6 f7 f8 V hT U aV B ar X Y aw aX N l2 p hw c A bc aY bd az;have n1:=j.out 1;have n2:=j.out 2;have n3:=j.out 3;have n4:=j.out 4;rw[show(((1:UInt8).toNat:Nat):Int)=1 from rfl] at n1;rw[show(((2:UInt8).toNat:Nat):Int)=2 from rfl] at n2;rw[show(((3:UInt8).toNat:Nat):Int)=3 from rfl] at n3;rw[show(((4:UInt8).toNat:Nat):Int)=4 from rfl] at n4;have N1:=Lib.hid n1;have N2:=Lib.hid n2;have N3:=Lib.hid n3;have N4:=Lib.hid n4;clear n1 n2 n3 n4 j;go_enter func9,ntmps9;go_wp2_with fail;refine(N1.out w).mono ?_;rintro _ w1 ⟨⟨r1,rfl,s1⟩,k1⟩;have R1:=Lib.hid s1;have K1:=Lib.hid k1;clear s1 k1 N1;go_wp2_with fail;refine(aT.out 1 w1 _ R1.out).mono ?_;rintro _ w2 ⟨⟨r2,rfl,s2⟩,k2⟩;have R2:=Lib.hid s2;have K2:=Lib.hid (K1.out.trans k2);clear s2 k2 R1 K1;go_wp2_with fail;refine(aj.out w2 _ R2.out).mono ?_;rintro _ w3 ⟨⟨r3,rfl,s3⟩,k3⟩;have U3:=Lib.hid s3;have K3:=Lib.hid (K2.out.trans k3);clear s3 k3 R2 K2 aj;go_wp2_with fail;refine(N2.out w3).mono ?_;rintro _ w4 ⟨⟨r4,rfl,s4⟩,k4⟩;have R4:=Lib.hid s4;have U4:=Lib.hid (U3.out.kp k4);have K4:=Lib.hid (K3.out.trans k4);clear s4 k4 U3 K3;go_wp2_with fail;refine(aT.out 2 w4 _ R4.out).mono ?_;rintro _ w5 ⟨⟨r5,rfl,s5⟩,k5⟩;have R5:=Lib.hid s5;have U5:=Lib.hid (U4.out.kp k5);have K5:=Lib.hid (K4.out.trans k5);clear s5 k5 U4 K4 R4 aT;go_wp2_with fail;refine(ak.out w5 _ _ U5.out R5.out).mono ?_;rintro _ w6 ⟨⟨r6,rfl,s6⟩,k6⟩;have T6:=Lib.hid s6;have K6:=Lib.hid (K5.out.trans k6);clear s6 k6 U5 R5 K5 ak;go_wp2_with fail;refine(N3.out w6).mono ?_;rintro _ w7 ⟨⟨r7,rfl,s7⟩,k7⟩;have R7:=Lib.hid s7;have T7:=Lib.hid (T6.out.kp k7);have K7:=Lib.hid (K6.out.trans k7);clear s7 k7 T6 K6 N3;go_wp2_with fail;refine(N4.out w7).mono ?_;rintro _ w8 ⟨⟨r8,rfl,s8⟩,k8⟩;have R8:=Lib.hid s8;have a1:=Lib.hid (R7.out.kp k8);have T8:=Lib.hid (T7.out.kp k8);have K8:=Lib.hid (K7.out.trans k8);clear s8 k8 T7 K7 R7 N4;go_wp2_with fail;refine(ba.out w8 _ _ _ T8.out a1.out R8.out (h.out.kp K8.out)).mono ?_;rintro _ o ⟨⟨v9,rfl,av⟩,k9⟩;obtain⟨mt,mo,mx,my,ml,rfl,a⟩:=av;obtain⟨ab,nt,ct,rfl⟩:=a.tree.sl;obtain⟨ao,no,co,rfl⟩:=SE.sl a.own;obtain⟨ax,nx,cx,rfl⟩:=aA a.path.pub;obtain⟨ay,cy,rfl,_,_⟩:=SE.shape a.path.step;obtain⟨al,cl,rfl,_,_⟩:=a.last.shape;have s:=a.path;rw[M.out.2.2.2.1] at s a;rw[M.out.2.2.2.1];rw[M.out.2.2.1] at a;rw[M.out.2.2.1];obtain⟨gs,os,cs,pv,qv,es,_,au⟩:=eG.nodeK (i:=0) s.step (by rw[M.out.1];decide);rw[M.out.1] at s a es;rw[M.out.1];simp only[IG] at es;obtain⟨rfl,_,rfl⟩:=es;have MI:=Lib.hid a;have PP:=Lib.hid s;have T9:=Lib.hid (T8.out.kp k9);have K9:=Lib.hid (K8.out.trans k9);have H:=Lib.hid au;obtain⟨_,_,_,aW⟩:=au o (Kp.refl _);obtain⟨af,cf,rfl,_,_⟩:=SE.shape aW;rw[M.out.2.1] at H;clear s a k9 T8 K8 a1 R8 ba au aW;obtain⟨wA,R⟩:∃ x,o.alloc (.cells #[.slice ab nt ct,.slice ao no co,.slice ax nx cx,.slice (some ⟨gs,os,none⟩) 1 cy,.slice al 32 cl] 47)=x:=⟨_,rfl⟩;have J:Hid (Bx wA o.heap.size 47 #[.slice ab nt ct,.slice ao no co,.slice ax nx cx,.slice (some ⟨gs,os,none⟩) 1 cy,.slice al 32 cl]):=by unfold Hid;rw[<-R];exact Bx.new o _ _
 have KA:Hid (Kp o wA):=by unfold Hid;rw[<-R];exact(Kp.refl _).alloc _
 have ah:Hid (∀ W,Kp wA W->W.cell? ⟨o.heap.size,0,none⟩=some (.slice ab nt ct)/\W.cell? ⟨o.heap.size,2,none⟩=some (.slice ax nx cx)/\W.cell? ⟨o.heap.size,3,none⟩=some (.slice (some ⟨gs,os,none⟩) 1 cy)/\W.cell? ⟨o.heap.size,4,none⟩=some (.slice al 32 cl)):=λW L=>⟨(J.out.kp L).cell 0,(J.out.kp L).cell 2,(J.out.kp L).cell 3,(J.out.kp L).cell 4⟩
 obtain⟨F,E,D,C⟩:=ah.out wA (Kp.refl _);obtain⟨_,d1,_,_⟩:=H.out wA KA.out;simp only[Nat.zero_mul,Lp] at d1;go_wp2_with fail;try rw[R]
 clear R;refine(N2.out wA).mono ?_;rintro _ wB ⟨⟨rB,rfl,sB⟩,kB⟩;obtain⟨aB,nB,cB,rfl⟩:=aA sB;have RB:=Lib.hid sB;have KB:=Lib.hid kB;clear sB kB F E D C d1 N2 H;have q:Hid (SL (wB.alloc (.cells #[.int .i64 2,.slice aB nB cB] 90)) (.slice (some ⟨wB.heap.size,0,none⟩) 1 1) [⟨2,aJ 2⟩]):=
  SE.lit1 (S:=fu) (w:=wB) (vs:=[.int .i64 2,.slice aB nB cB]) (x:=⟨2,aJ 2⟩) (cs:=#[.int .i64 2,.slice aB nB cB]) 90 ⟨_,rfl,RB.out,bk.none _⟩ rfl
 obtain⟨wC,Q⟩:∃ x,wB.alloc (.cells #[.int .i64 2,.slice aB nB cB] 90)=x:=⟨_,rfl⟩;rw[Q] at q;have KC:Hid (Kp wA wC):=by unfold Hid;rw[<-Q];exact KB.out.alloc _
 have ae:Hid (Kp o wC):=KA.out.trans KC.out;obtain⟨F,E,D,C⟩:=ah.out wC KC.out;go_wp2_with fail;try rw[Q]
 clear Q;refine(a2.out wC _ _ _ _ (T9.out.kp ae.out) q.out (PP.out.kp ae.out) (h.out.kp (K9.out.trans ae.out))).mono ?_;rintro _ wD ⟨⟨vD,rfl,av⟩,kD⟩;obtain⟨mt,mo,mx,my,ml,rfl,a⟩:=av;obtain⟨aO,aq,aI,rfl⟩:=a.tree.sl;obtain⟨a0,aU,aZ,rfl⟩:=SE.sl a.own;obtain⟨aN,ap,aE,rfl⟩:=aA a.path.pub;obtain⟨aM,an,aC,rfl⟩:=SE.sl a.path.step;obtain⟨aP,aL,rfl,_,_⟩:=a.last.shape;obtain⟨g1,g2,g3,g4⟩:=M.out.2.2.2.2;have u:TD.last.length=32:=by rw[g3];exact M.out.2.2.1
 have q1:=a.tree;have q2:=a.last;have q3:=a.path;rw[g2] at q1;rw[u] at q2;rw[g3] at q2;rw[g4] at q3;rw[u];have Q1:=Lib.hid q1;have Q2:=Lib.hid q2;have Q3:=Lib.hid q3;have KD:=Lib.hid (KC.out.trans kD);have LD:=Lib.hid (q.out.kp kD);clear q1 q2 q3 g1 g2 g3 g4 a kD F E D C u q KB RB a2 ae KC;obtain⟨wE,P⟩:∃ x,wD.alloc (.cells #[.slice aO aq aI,.slice a0 aU aZ,.slice aN ap aE,.slice aM an aC,.slice aP 32 aL] 47)=x:=⟨_,rfl⟩;have I:Hid (Bx wE wD.heap.size 47 #[.slice aO aq aI,.slice a0 aU aZ,.slice aN ap aE,.slice aM an aC,.slice aP 32 aL]):=by unfold Hid;rw[<-P];exact Bx.new wD _ _
 have KE:Hid (Kp wD wE):=by unfold Hid;rw[<-P];exact(Kp.refl _).alloc _
 have ag:Hid (∀ W,Kp wE W->(W.cell? ⟨o.heap.size,0,none⟩=some (.slice ab nt ct)/\W.cell? ⟨o.heap.size,2,none⟩=some (.slice ax nx cx)/\W.cell? ⟨o.heap.size,3,none⟩=some (.slice (some ⟨gs,os,none⟩) 1 cy)/\W.cell? ⟨o.heap.size,4,none⟩=some (.slice al 32 cl))/\W.cell? ⟨wD.heap.size,0,none⟩=some (.slice aO aq aI)/\W.cell? ⟨wD.heap.size,2,none⟩=some (.slice aN ap aE)/\W.cell? ⟨wD.heap.size,3,none⟩=some (.slice aM an aC)/\W.cell? ⟨wD.heap.size,4,none⟩=some (.slice aP 32 aL)):=λW L=>⟨ah.out W (KD.out.trans (KE.out.trans L)),(I.out.kp L).cell 0,(I.out.kp L).cell 2,(I.out.kp L).cell 3,(I.out.kp L).cell 4⟩
 have G:=Lib.hid (KA.out.trans (KD.out.trans KE.out));have TE:=Lib.hid (T9.out.kp G.out);have ad:=Lib.hid (K9.out.trans G.out);have LE:=Lib.hid (LD.out.kp KE.out);have M1:=Lib.hid (MI.out.tree.kp G.out);have M2:=Lib.hid (MI.out.last.kp G.out);have M3:=Lib.hid (PP.out.kp G.out);have P1:=Lib.hid (Q1.out.kp KE.out);have P2:=Lib.hid (Q2.out.kp KE.out);have P3:=Lib.hid (Q3.out.kp KE.out);clear MI PP T9 LD J I KD Q1 Q2 Q3 ah;go_wp2_with fail;try rw[P]
 clear P;refine(a9.out wE _ TE.out (h.out.kp ad.out)).mono ?_;rintro _ wF ⟨⟨vF,rfl,sF⟩,kF⟩;obtain⟨aF,nF,cF,rfl⟩:=sF.sl;have RF:=Lib.hid sF.ri;have KF:=Lib.hid kF;obtain⟨⟨F,E,D,C⟩,e0,e2,e3,e4⟩:=ag.out wF kF;clear sF kF a9;go_wp2_with fail;refine(a4.out wF _ _ (M1.out.kp KF.out) (P1.out.kp KF.out)).mono ?_;rintro _ wG ⟨rfl,kG⟩;have KG:=Lib.hid (KF.out.trans kG);have RG:=Lib.hid (RI.kp RF.out kG);clear F E D C e0 e2 e3 e4 kG RF KF a4;obtain⟨⟨F,E,D,C⟩,e0,e2,e3,e4⟩:=ag.out wG KG.out;go_wp2_with fail;refine(a3.out wG _ _ _ (M2.out.kp KG.out) (P2.out.kp KG.out)).mono ?_;rintro _ _ ⟨rfl,rfl⟩;have aS:Hid (RI (wG.alloc (.cells #[.int .i64 1] 3)) (.slice (some ⟨wG.heap.size,0,none⟩) 1 1) [1]):=(ON.lit1 wG 3 1).ri;obtain⟨wH,O⟩:∃ x,wG.alloc (.cells #[.int .i64 1] 3)=x:=⟨_,rfl⟩;rw[O] at aS;have aR:Hid (Kp wG wH):=by unfold Hid;rw[<-O];exact(Kp.refl _).alloc _
 have KH:=Lib.hid (KG.out.trans aR.out);go_wp2_with fail;try rw[O]
 clear O;refine(bb.out wH _ _ (RI.kp RG.out aR.out) aS.out).mono ?_;rintro _ wI ⟨rfl,kI⟩;have KI:=Lib.hid (KH.out.trans kI);clear kI F E D C e0 e2 e3 e4 KG KH aR RG aS bb a3;go_wp2_with fail;refine(a5.out wI _ _ (TE.out.kp KI.out) (aH.kp LE.out KI.out) (h.out.kp (ad.out.trans KI.out))).mono ?_;rintro _ wJ ⟨rfl,kJ⟩;have KJ:=Lib.hid (KI.out.trans kJ);clear kJ KI a5;go_wp2_with fail;refine(a6.out wJ _ _ (TE.out.kp KJ.out) (aH.kp LE.out KJ.out) (h.out.kp (ad.out.trans KJ.out))).mono ?_;rintro _ wK ⟨rfl,kK⟩;have KK:=Lib.hid (KJ.out.trans kK);clear kK KJ a6;obtain⟨⟨F,E,D,C⟩,e0,e2,e3,e4⟩:=ag.out wK KK.out;go_wp2_with fail;refine(a7.out wK _ _ _ _ (M3.out.kp KK.out) (P3.out.kp KK.out)).mono ?_;rintro _ wL ⟨rfl,kL⟩;have KL:=Lib.hid (KK.out.trans kL);clear kL KK a7 F E D C e0 e2 e3 e4;obtain⟨⟨F,E,D,C⟩,e0,e2,e3,e4⟩:=ag.out wL KL.out;go_wp2_with fail;refine(a8.out wL _ _ (M3.out.kp KL.out)).mono ?_;rintro _ wM ⟨rfl,kM⟩;have be:=Lib.hid (ad.out.trans (KL.out.trans kM));clear kM KL a8 F E D C e0 e2 e3 e4;go_wp2_with fail;go_ret;exact⟨rfl,be.out⟩
theorem Ii (h:gn t 40/\ft t):∃ K,az t K/\bq t K:=by
 obtain⟨b,K,a⟩:=h;exact⟨K,a,a.tidy b⟩
theorem yD {seed secret:List UInt8}(info:List UInt8)(b:az t K)(g:bq t K)(d:(ats t (2*i)).kind=1)(k:seed.length=32)(e:secret.length=32):
  fa t (i:Int) seed secret=0/\az (di t K (i:Int) seed secret info).tree K/\bL (di t K (i:Int) seed secret info).tree K (i:Int) (di t K (i:Int) seed secret info).own /\
  (di t K (i:Int) seed secret info).own.length<=2000/\(di t K (i:Int) seed secret info).last.length=32/\(di t K (i:Int) seed secret info).path=aQ t K i seed secret info:=by
 have j:fa t (i:Int) seed secret=0:=by
  unfold fa;rw[if_pos ⟨k,e⟩];unfold dF;rw[if_pos ((b.there_iff i).2 d)]
 have m:di t K (i:Int) seed secret info=⟨du t (i:Int) (aw t i K) (aQ t K i seed secret info),dH [⟨2*(i:Int),seed⟩] secret (aw t i K),aQ t K i seed secret info,fF secret (ixS t i K).length⟩:=by
  unfold di;rw[if_pos j,IM]
 have f:=ir t K i seed secret info;obtain⟨c,l⟩:=dR t i K;have n:=vr b g d (aQ t K i seed secret info) f.2.1 (λa o=>(f.2.2 a (by omega)).2);have h:(ixS t i K).length<=10:=IU (jm t i K) b.le;rw[m];refine⟨j,n.1,CZ info b g d k e,?_,iq e _,rfl⟩;show(dH [⟨2*(i:Int),seed⟩] secret (aw t i K)).length<=2000
 rw[vG,c];show 1+(ixS t i K).length<=2000
 omega
theorem Ij {l:List St}(x:St)(h:k<l.length)(a:Nat):am (l.set k x) a=if a=k then x else am l a:=by
 unfold am;rw[Iw,Kh,Iw];by_cases e:a=k
 ·subst e
  rw[if_pos rfl,if_pos h,if_pos rfl];rfl
 ·rw[if_neg (λh=>e h.symm),if_neg e]
theorem yE (l:List St)(a:Nat):am (l.drop 1) a=am l (a+1):=by
 unfold am;rw[Iw,Kn,Iw,LA 1 a]
def so (p:Pa):Prop:=(∀ k j,(aM (am p.step k).fors j).b.length<=1600)/\∀ j,j<p.step.length->(am p.step j).pub.length<=10000/\(am p.step j).fors.length<=10000/\∀ k,k<(am p.step j).fors.length->(aM (am p.step j).fors k).half.length<=10000/\(aM (am p.step j).fors k).b.length<=10000
def fI (p:Pa)(k:Nat)(l:List UInt8):Pa:=⟨p.pub,p.step.set k ⟨l,(am p.step k).fors⟩⟩
def jx (p:Pa):Pa:=⟨p.pub,p.step.drop 1⟩
theorem Ik {me:Nat}{own:List Sd}{seed secret:List UInt8}(info:List UInt8)(n:az t K)(d:(ats t (2*i)).kind=1)(g:i≠me)(F:bL t K (me:Int) own)(O:seed.length=32)(I:secret.length=32):
  (∀ k c,kM t i me<=k->k<(aw t i K).length->c.length=32->c≠(am (aQ t K i seed secret info).step k).pub ->
   cH t K (i:Int) (me:Int) own info (fI (aQ t K i seed secret info) k c)=5/\cO t K (i:Int) (me:Int) own info (fI (aQ t K i seed secret info) k c)=dI/\so (fI (aQ t K i seed secret info) k c)) /\
  cH t K (i:Int) (me:Int) own info (jx (aQ t K i seed secret info))=2/\cO t K (i:Int) (me:Int) own info (jx (aQ t K i seed secret info))=dI/\so (jx (aQ t K i seed secret info)):=by
 obtain⟨v,u⟩:=dR t i K;have A:=ir t K i seed secret info;have G:=Dc n d g F;have N:i<2 ^ K:=by have:=az.lt_of (t:=t) (x:=2*i) (by rw[d];decide);have:=n.len2;omega
 obtain⟨E,D⟩:=vP seed info n N I;have J:(aQ t K i seed secret info).step.length=(aw t i K).length:=by rw[A.1,u,v]
 refine⟨λk c y M C B=>?_,?_⟩
 ·have w:k<(aQ t K i seed secret info).step.length:=by omega
  have f:=Ij (l:=(aQ t K i seed secret info).step) ⟨c,(am (aQ t K i seed secret info).step k).fors⟩ w;have h:∀ a,(am (fI (aQ t K i seed secret info) k c).step a).fors=(am (aQ t K i seed secret info).step a).fors:=λa=>by
   show(am ((aQ t K i seed secret info).step.set k ⟨c,(am (aQ t K i seed secret info).step k).fors⟩) a).fors=_
   rw[f];by_cases e:a=k
   ·rw[if_pos e,e]
   ·rw[if_neg e]
  have o:∀ a,a<(ixS t i K).length->(am (fI (aQ t K i seed secret info) k c).step a).pub.length=32:=λa H=>by
   show(am ((aQ t K i seed secret info).step.set k ⟨c,(am (aQ t K i seed secret info).step k).fors⟩) a).pub.length=32
   rw[f];by_cases e:a=k
   ·rw[if_pos e];exact C
   ·rw[if_neg e];exact(A.2.2 a (by omega)).2
  have m:(fI (aQ t K i seed secret info) k c).step.length=(ixS t i K).length:=by
   show((aQ t K i seed secret info).step.set k _).length=_
   rw[IW];omega
  have p:(am (fI (aQ t K i seed secret info) k c).step k).pub≠aG (bf secret k):=by
   show(am ((aQ t K i seed secret info).step.set k ⟨c,(am (aQ t K i seed secret info).step k).fors⟩) k).pub≠_
   rw[f,if_pos rfl];intro e;refine B (e.trans ?_);exact(mG t secret info (aT t i K) secret 0 k (by omega)).symm
  obtain⟨s,r⟩:=Da info (fI (aQ t K i seed secret info) k c) (seed:=seed) (secret:=secret) (k:=k) n d g F I A.2.1 m (λa H=>⟨h a,o a H⟩) y (by omega) p;refine⟨s,r,λa j=>?_,λj q=>?_⟩
  ·rw[h];exact E a j
  ·rw[h]
   rw[m] at q;exact⟨by rw[o j q];omega,(D j (by omega)).2⟩
 ·have L:(jx (aQ t K i seed secret info)).step.length≠(ixS t i K).length:=by
   show((aQ t K i seed secret info).step.drop 1).length≠_
   rw[JK];omega
  obtain⟨s,r⟩:=Db (me:=me) (own:=own) info (jx (aQ t K i seed secret info)) n d g L;refine⟨s,r,λa j=>?_,λj q=>?_⟩
  ·show(aM (am ((aQ t K i seed secret info).step.drop 1) a).fors j).b.length<=1600
   rw[yE];exact E _ _
  ·show(am ((aQ t K i seed secret info).step.drop 1) j).pub.length<=10000/\(am ((aQ t K i seed secret info).step.drop 1) j).fors.length<=10000/\∀ k,k<(am ((aQ t K i seed secret info).step.drop 1) j).fors.length->(aM (am ((aQ t K i seed secret info).step.drop 1) j).fors k).half.length<=10000/\(aM (am ((aQ t K i seed secret info).step.drop 1) j).fors k).b.length<=10000
   have z:j<((aQ t K i seed secret info).step.drop 1).length:=q;rw[JK] at z;rw[yE];exact D (j+1) (by omega)
theorem yF {t:List St}(h:GZ bJ e Z w B (.slice (some ⟨g,0,none⟩) n c) t)(i:Nat)(s:i<t.length)(p:Value)(l:List UInt8)(E:RZ (λb=>b=g\/Z b) w p l):
  GZ bJ e Z (w.setCell ⟨g,i*2,none⟩ p) B (.slice (some ⟨g,0,none⟩) n c) (t.set i ⟨l,(am t i).fors⟩)/\w.grownBy (w.setCell ⟨g,i*2,none⟩ p) (some g):=by
 have r:=h.len;obtain⟨us,D,H,C⟩:=h;subst r;have J:us.length=t.length*2:=D.1;obtain⟨G,a⟩:=World.ownsRow.stored D (i*2) p;have o:aj (λb=>some b=(Value.slice (some ⟨g,0,none⟩) t.length c).ownBlock\/Z b) w (w.setCell ⟨g,i*2,none⟩ p):=⟨a.os,a.tape,a.output,a.size,λk K r=>a.block k K (λe=>r (.inl e))⟩;refine⟨⟨us.set (i*2) p,by rw[IW];exact G,λz I=>?_,λk x d=>?_⟩,a⟩
 ·rcases List.mem_or_eq_of_mem_set I with h|h
  ·exact H z h
  ·rw[h];exact E.one
 ·rw[Kh] at d
  by_cases F:i=k
  ·subst F
   rw[if_pos rfl,if_pos s] at d;cases d;obtain⟨vs,A,y⟩:=C i t[i] (Iy s);obtain⟨N,q,rfl,O,M⟩:=y;have e:am t i=t[i]:=by unfold am;rw[Iw,Iy s];rfl
   refine⟨[p,q],λf j=>?_,p,q,rfl,(E.mono λb L=>L.imp (λe=>by cases e;rfl) id).step o,?_⟩
   ·have u:f<2:=j
    show(us.set (i*2) p)[i*2+f]?=_
    rw[Kh];by_cases v:f=0
    ·subst v
     rw[if_pos (by omega),if_pos (by omega)];rfl
    ·obtain rfl:f=1:=by omega
     rw[if_neg (by omega)];exact A 1 j
   ·show SZ dl _ _ q (am t i).fors
    rw[e];exact M.step o
  ·rw[if_neg F] at d
   obtain⟨m,A,y⟩:=C k x d;refine⟨m,λf j=>?_,bJ.step y o⟩;have u:f<2:=j;rw[<-A f j];show(us.set (i*2) p)[k*2+f]?=us[k*2+f]?
   rw[Kh,if_neg (by omega)]
theorem Il (l:List UInt8)(k:Nat)(b:UInt8):(Lib.byteCells l).set k (.int .u8 (b.toNat:Int))=Lib.byteCells (l.set k b):=by
 unfold Lib.byteCells;rw[List.map_set]
theorem Ow.put11 (h:Ow e w B (.slice (some ⟨g,0,none⟩) n c) l)(b:UInt8):Ow e (w.setCell ⟨g,k,none⟩ (.int .u8 (b.toNat:Int))) B (.slice (some ⟨g,0,none⟩) n c) (l.set k b):=by
 have d:l.length=n:=by
  rcases h.shape with⟨e,_⟩|⟨g',c',e,_⟩
  ·cases e
  ·simp only[IG] at e;exact e.2.1.symm
 subst d;have a:=(World.ownsRow.stored h k (.int .u8 (b.toNat:Int))).1;rw[Il] at a;unfold Ow;rw[IW];exact a
theorem yG (b:UInt8)(a:k<l.length)(d:b≠0):l.set k (l.getD k 0 ^^^ b)≠l:=by
 intro h;have:=congrArg (λm=>m.getD k 0) h;simp only[Iw,List.getElem?_set_self a,Iy a,Lh] at this;have c:l[k] ^^^ (l[k] ^^^ b)=l[k] ^^^ l[k]:=by rw[this]
 rw[<-Mn,Ma,UInt8.zero_xor] at c;exact d c
theorem yH (n:Nat)(h:n<256):∃ c:UInt8,c≠0/\(c.toNat:Int)=1+((n % 255:Nat):Int):=by
 have:(UInt8.ofNat (1+n % 255)).toNat=1+n % 255:=by
  have:=Mj n (show 0<255 by decide);simp;omega
 refine⟨UInt8.ofNat (1+n % 255),λe=>?_,by rw[this];omega⟩;rw[e] at this;simp at this;omega
theorem pK {t:List St}(h:GZ bJ e noB w B (.slice (some ⟨g,0,none⟩) n c) t)(i:Nat)(a:i<t.length):
  ∃ x m d,w.cell? ⟨g,i*2,none⟩=some (.slice x m d)/\w.frozen? ⟨g,i*2,none⟩=false/\Rd w (.slice x m d) (am t i).pub:=by
 obtain⟨r,v,l,_,_,_,_,k⟩:=h.form (by omega);cases l;obtain⟨vs,j,f⟩:=k i t[i] (Iy a);obtain⟨p,q,o,u,b,s⟩:=nW j f;have e:am t i=t[i]:=by unfold am;rw[Iw,Iy a];rfl
 obtain⟨x,m,d,rfl⟩:=aA b.1;rw[e];exact⟨x,m,d,o,(h.there i a 0 (by decide)).2,b.1⟩
theorem SE.drop1 {α:Type}{S:Sh α}{b o:Nat}{t:List α}(h:SE S Z w (.slice (some ⟨b,o,none⟩) n c) t)(u:1<=n)(a:Option Addr)(q:1<n->a=some ⟨b,o+S.k,none⟩)(m:a=none->c - 1=0):SE S Z w (.slice a (n - 1) (c - 1)) (t.drop 1):=by
 obtain⟨x,A,e,z,y,v,r⟩:=h;simp only[IG] at e;obtain⟨rfl,rfl,rfl⟩:=e;refine⟨a,c - 1,by rw[JK],by rw[JK];omega,by omega,m,λs=>?_⟩;rw[JK] at s;obtain⟨B,o',d,p,l⟩:=r (by omega);cases d;refine⟨b,o+S.k,q (by omega),p,λi x g=>?_⟩;rw[Kn] at g;obtain⟨vs,f,j⟩:=l (1+i) x g;rw[Le,Lf,<-Kw] at f;exact⟨vs,f,j⟩

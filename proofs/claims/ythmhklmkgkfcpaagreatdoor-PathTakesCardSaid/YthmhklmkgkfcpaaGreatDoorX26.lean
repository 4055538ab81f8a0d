import Derived.Test.YthmhklmkgkfcpaaGreatDoorX25
set_option linter.all false
set_option maxHeartbeats 8000000
set_option maxRecDepth 100000
namespace Go.Proofs.YthmhklmkgkfcpaaGreatDoor
open Go.Proofs.Tryz Go.RowKit
section
open Go.Maps
theorem Iw (aa M L J:Value)(t:List Nod)(K:Nat)(i:Int)(seed secret info:List UInt8)(w:World)(D:NL w aa t)(E:aD t K)(B:Rd w M seed)(A:Rd w L secret)(P:Rd w J info)(k:gS t i seed secret≠0):
  Calls prog 20 #[aa,.int .i64 i,M,L,J] w λe w'=>(∃ v,e=.returned (.tuple #[v,.int .i64 (gS t i seed secret)])/\MV w' v fv)/\Kp w w':=by
 obtain⟨T,S,R⟩:=E.small;have l:=JE (fun(U:¬bc t i) W (V:Kp w W)=>td aa t K i W (D.kp V) E U);obtain⟨a,c,rfl,_,_⟩:=D.shape;obtain⟨a1,c1,rfl,_,_⟩:=B.shape;obtain⟨a2,c2,rfl,_,_⟩:=A.shape;obtain⟨a3,Z,c3,rfl⟩:=aA P;obtain⟨p,j⟩:∃ p,w.alloc (.cells #[.slice none 0 0,.slice none 0 0,.slice none 0 0,.slice none 0 0,.slice none 0 0] 47)=p:=⟨_,rfl⟩;have O:Bx p w.heap.size 47 #[.slice none 0 0,.slice none 0 0,.slice none 0 0,.slice none 0 0,.slice none 0 0]:=by rw[<-j];exact Oa w _ _
 have b:Hid (Kp w p):=by unfold Hid;rw[<-j];exact(NQ _).alloc _
 have y:=JE O;have n:=JE j;have g:gS t i seed secret=if seed.length=32/\secret.length=32 then eU t i else 1:=rfl
 generalize t.length=N at *;clear D E O j T S R P;by_cases o:seed.length=32
 ·by_cases z:secret.length=32
  ·rw[if_pos ⟨o,z⟩] at g
   have m:¬bc t i:=λh=>k (by rw[g];unfold eU;rw[if_pos h])
   have u:gS t i seed secret=11:=by rw[g];unfold eU;rw[if_neg m]
   have x:=JE (l.out m p b.out);rw[u,o,z];clear g k m u B A o z l;go_enter func20,ntmps20;go_wp2_with fail;rw[n.out];refine x.out.mono ?_;rintro _ w2 ⟨rfl,C⟩;have H:=JE (y.out.kp C);have Y:=JE (b.out.trans C);clear C;have G:=JE (H.out.kp ((NQ w2).alloc (.cells #[.slice none 0 0,.int .i64 0,.slice none 0 0,.slice none 0 0] 95)));have X:Hid (Kp w (w2.alloc (.cells #[.slice none 0 0,.int .i64 0,.slice none 0 0,.slice none 0 0] 95))):=Y.out.alloc _;go_wp2_with(refine eR rfl rfl 47 (.tmp 10) (.tmp 40) rfl w.heap.size 47 _ #[.slice none 0 0,.slice none 0 0,.slice none 0 0,.slice none 0 0,.slice none 0 0] rfl rfl G.out rfl gA cY ?_;intro I f Q d)
   have s:=d w X.out (JO _);refine bodyPost_ret (eZ rfl _ _ w.heap.size _ _ (0,0) _ _ rfl f underlying47 rfl cY rfl) rfl ?_;exact⟨⟨_,rfl,_,_,_,_,_,rfl,Oj _⟩,s⟩
  ·rw[if_neg λh=>z h.2] at g
   have F:((secret.length:Int)==32)=false:=JL.2 (by omega);have r:((secret.length:Int) != 32)=true:=Lt.2 (by omega);have q:¬(secret.length:Int)=32:=by omega
   rw[g,o];clear k g B A o l;go_enter func20,ntmps20;rw[<-n.out] at y b;go_wp2_with(refine eR rfl rfl 47 (.tmp 10) (.tmp 31) rfl w.heap.size 47 _ #[.slice none 0 0,.slice none 0 0,.slice none 0 0,.slice none 0 0,.slice none 0 0] rfl rfl y.out rfl gA cY ?_;intro I f Q d)
   have s:=d w b.out (JO _);refine bodyPost_ret (eZ rfl _ _ w.heap.size _ _ (0,0) _ _ rfl f underlying47 rfl cY rfl) rfl ?_;exact⟨⟨_,rfl,_,_,_,_,_,rfl,Oj _⟩,s⟩
 ·rw[if_neg λh=>o h.1] at g
  have F:((seed.length:Int)==32)=false:=JL.2 (by omega);have r:((seed.length:Int) != 32)=true:=Lt.2 (by omega);have q:¬(seed.length:Int)=32:=by omega
  rw[g];clear k g B A l;go_enter func20,ntmps20;rw[<-n.out] at y b;go_wp2_with(refine eR rfl rfl 47 (.tmp 10) (.tmp 31) rfl w.heap.size 47 _ #[.slice none 0 0,.slice none 0 0,.slice none 0 0,.slice none 0 0,.slice none 0 0] rfl rfl y.out rfl gA cY ?_;intro I f Q d)
  have s:=d w b.out (JO _);refine bodyPost_ret (eZ rfl _ _ w.heap.size _ _ (0,0) _ _ rfl f underlying47 rfl cY rfl) rfl ?_;exact⟨⟨_,rfl,_,_,_,_,_,rfl,Oj _⟩,s⟩
end
theorem Iy (aa j g f:Value)(t:List Nod)(K:Nat)(i:Int)(seed secret info:List UInt8)(w:World)(o:NL w aa t)(m:aD t K)(u:bl t K)(r:Rd w j seed)(q:Rd w g secret)(p:Rd w f info)(n:info.length<=1400)(d:Tab w):
  Calls prog 20 #[aa,.int .i64 i,j,g,f] w λe w'=>(∃ v,e=.returned (.tuple #[v,.int .i64 (gS t i seed secret)])/\MV w' v (gi t K i seed secret info))/\Kp w w':=by
 by_cases h:gS t i seed secret=0
 ·have c:=h
  unfold gS at c;by_cases l:seed.length=32/\secret.length=32
  ·rw[if_pos l] at c
   unfold eU at c;have a:bc t i:=by
    by_cases a:bc t i
    ·exact a
    ·rw[if_neg a] at c;cases c
   obtain⟨k,rfl,x,b,s⟩:=ju m a;unfold gi;rw[if_pos h,h,JX];exact Iv aa j g f t K k seed secret info w o m u r q p b l.1 l.2 n d
  ·rw[if_neg l] at c
   cases c
 ·unfold gi
  rw[if_neg h];exact Iw aa j g f t K i seed secret info w o m r q p h
section
open Go.Maps
theorem Jd (aa v Y x y:Value)(t:List Nod)(K:Nat)(i me:Int)(own:List Sd)(info:List UInt8)(p:Pa)(w:World)(Q:NL w aa t)(G:aD t K)(hv:SL w v own)(hi:Rd w Y info)(T:PIn w x y p)(l:Tab w)(n:¬bc t i\/i=me):
  Calls prog 23 #[aa,.int .i64 i,.int .i64 me,v,Y,.agg #[x,y]] w λe w'=>(∃ v,e=.returned (.tuple #[v,.int .i64 (bT t K i me own info p)])/\MV w' v (cM t K i me own info p))/\Kp w w':=by
 obtain⟨z1,z2,z3⟩:=G.small;have u:=JE (fun(hn:¬bc t i) W (E:Kp w W)=>td aa t K i W (Q.kp E) G hn);have s:=JE (fun(k:Nat) (hk:(ats t (2*k)).kind=1) W (E:Kp w W)=>qA aa t K k W (Q.kp E) G hk (l.kp E));have B:Hid (¬bc t i->bT t K i me own info p=11/\cM t K i me own info p=fv):=λh=>by
  have J:bT t K i me own info p=11:=by unfold bT;rw[if_pos h]
  exact⟨J,by unfold cM;rw[if_neg (by rw[J];decide)]⟩
 have A:Hid (bc t i->i=me->bT t K i me own info p=1/\cM t K i me own info p=fv):=λh h2=>by
  have J:bT t K i me own info p=1:=by unfold bT;rw[if_neg (by rw[Ln];exact h),if_pos h2]
  exact⟨J,by unfold cM;rw[if_neg (by rw[J];decide)]⟩
 have z:=JE (fun(h:bc t i)=>ju G h);obtain⟨a,c,rfl,_,_⟩:=Q.shape;obtain⟨av,nv,cv,rfl⟩:=Oc hv;obtain⟨ai,ni,ci,rfl⟩:=aA hi;obtain⟨ax,nx,cx,rfl⟩:=aA T.pub;obtain⟨ay,Z,cy,rfl⟩:=Oc T.step;generalize bT t K i me own info p=TE at *;generalize cM t K i me own info p=TV at *;obtain⟨j,g⟩:∃ j,(w.alloc (.cells #[.slice ax nx cx,.slice ay Z cy] 27)).alloc (.cells #[.slice none 0 0,.slice none 0 0,.slice none 0 0,.slice none 0 0,.slice none 0 0] 47)=j:=⟨_,rfl⟩;have O:Hid (∀ W,Kp j W->Bx W (w.heap.size+1) 47 #[.slice none 0 0,.slice none 0 0,.slice none 0 0,.slice none 0 0,.slice none 0 0]):=λW E=>by
  refine Bx.kp ?_ E;have:=Oa (w.alloc (.cells #[.slice ax nx cx,.slice ay Z cy] 27)) 47 #[.slice none 0 0,.slice none 0 0,.slice none 0 0,.slice none 0 0,.slice none 0 0];rw[JY] at this;rw[<-g];exact this
 have R:Hid (Kp w j):=by unfold Hid;rw[<-g];exact((NQ _).alloc _).alloc _
 have M:=JE g;generalize U:t.length=N at *;clear Q G hv hi T z1 z2 z3 l g U;by_cases b:bc t i
 ·obtain rfl:i=me:=n.resolve_left λh=>h b
  obtain⟨k,rfl,_,d,_⟩:=z.out b;obtain⟨I,H⟩:=A.out b rfl;have P:=JE (JN I H);clear u B A z b n I H;have f:=JE (s.out k d j R.out);clear s d;go_enter func23,ntmps23;go_wp2_with fail;rw[M.out];refine f.out.mono ?_;rintro _ w2 ⟨⟨ab,sv,rfl,m⟩,F⟩;obtain⟨an,nn,cn,rfl⟩:=m.nodes.sl;obtain⟨X,S,V,rfl⟩:=Oc m.steps;have L:Hid (Kp j (w2.alloc (.cells #[.slice a N c,.int .i64 (k:Int),.slice an nn cn,.slice X S V] 95))):=F.alloc _;have D:=JE (O.out _ L.out);have C:=JE (R.out.trans L.out);clear m F;go_wp2_with(refine eR rfl rfl 47 (.tmp 12) (.tmp 37) rfl (w.heap.size+1) 47 _ #[.slice none 0 0,.slice none 0 0,.slice none 0 0,.slice none 0 0,.slice none 0 0] rfl rfl D.out rfl gA cY ?_;intro wq r gq q)
  have o:=q w C.out (Mh _);refine bodyPost_ret (eZ rfl _ _ (w.heap.size+1) _ _ (0,0) _ _ rfl r underlying47 rfl cY rfl) rfl ?_;rw[P.out.1,P.out.2];exact⟨⟨_,rfl,_,_,_,_,_,rfl,Oj _⟩,o⟩
 ·have P:=JE (B.out b)
  have f:=JE (u.out b j R.out);clear u B A z s b n;go_enter func23,ntmps23;go_wp2_with fail;rw[M.out];refine f.out.mono ?_;rintro _ w2 ⟨rfl,F⟩;have L:Hid (Kp j (w2.alloc (.cells #[.slice none 0 0,.int .i64 0,.slice none 0 0,.slice none 0 0] 95))):=F.alloc _;have D:=JE (O.out _ L.out);have C:=JE (R.out.trans L.out);clear F;go_wp2_with(refine eR rfl rfl 47 (.tmp 12) (.tmp 31) rfl (w.heap.size+1) 47 _ #[.slice none 0 0,.slice none 0 0,.slice none 0 0,.slice none 0 0,.slice none 0 0] rfl rfl D.out rfl gA cY ?_;intro wq r gq q)
  have o:=q w C.out (Mh _);refine bodyPost_ret (eZ rfl _ _ (w.heap.size+1) _ _ (0,0) _ _ rfl r underlying47 rfl cY rfl) rfl ?_;rw[P.out.1,P.out.2];exact⟨⟨_,rfl,_,_,_,_,_,rfl,Oj _⟩,o⟩
end
theorem zC (aa v f x y:Value)(t:List Nod)(K:Nat)(i me:Int)(own:List Sd)(info:List UInt8)(p:Pa)(w:World)(s:NL w aa t)(g:aD t K)(A:bl t K)(r:SL w v own)(d:Rd w f info)(z:PIn w x y p)
  (u:bZ t K me own) (o:info.length<=1400) (n:own.length<=99000) (q:∀ k j,(aH (am p.step k).fors j).b.length<=1600)
  (l:∀ j,j<p.step.length->(am p.step j).pub.length<=10000/\(am p.step j).fors.length<=10000/\∀ k,k<(am p.step j).fors.length->(aH (am p.step j).fors k).half.length<=10000/\(aH (am p.step j).fors k).b.length<=10000) (a:Tab w):
  Calls prog 23 #[aa,.int .i64 i,.int .i64 me,v,f,.agg #[x,y]] w λe w'=>(∃ v,e=.returned (.tuple #[v,.int .i64 (bT t K i me own info p)])/\MV w' v (cM t K i me own info p))/\Kp w w':=by
 by_cases h:¬bc t i\/i=me
 ·exact Jd aa v f x y t K i me own info p w s g r d z a h
 ·rw[not_or,Ln] at h
  obtain⟨k,rfl,B,c,_⟩:=ju g h.1;obtain⟨m,rfl,_,_,_⟩:=ju g u.1;exact Jc aa v f x y t K k m own info p w s g A r d z c (λe=>h.2 (by rw[e])) u o n q l a
def zF:ByteArray:=⟨#[115,101,99,114,101,116]⟩
def aW (n:UInt8):List UInt8:=bH [n] zF.data.toList
theorem jZ (n:UInt8):(aW n).length=32:=jR _ _
theorem Jo (n:UInt8)(w:World):Calls prog 26 #[.int .u8 (n.toNat:Int)] w λe w'=>(∃ r,e=.returned r/\Rd w' r (aW n)/\ba w.heap.size r)/\Kp w w':=by
 have k:=JE (λW v (d:Rd W v [n])=>xG v zF [n] W d (by decide) (by simp));have l:Hid (Rd (w.alloc (.cells #[.int .u8 (n.toNat:Int)] 5)) (.slice (some ⟨w.heap.size,0,none⟩) 1 1) [n]):=(NT w 5 w.heap.size 1 #[.int .u8 (n.toNat:Int)] [n] (JO _) rfl (by decide) rfl).rd;go_enter func26,ntmps26;go_wp2_with fail;refine(k.out _ _ l.out).mono ?_;rintro _ w2 ⟨⟨v,rfl,a,b⟩,c⟩;have h:=JE a;have i:Hid (ba w.heap.size v):=λg f=>by have:=b g f;simp at this;omega
 have j:Hid (Kp w w2):=((NQ w).alloc _).trans c;clear a b c;go_wp2_with fail;go_ret;exact⟨⟨_,rfl,h.out,i.out⟩,j.out⟩
theorem Jp (w:World)(ai:Tab w):Calls prog 9 #[] w λe w'=>e=.returned (.bool true)/\Kp w w':=by
 have h:=JE ai;clear ai;have N:(aI (aW 1)).length=32:=gO _;have l2:(aI (aW 2)).length=32:=gO _;obtain⟨f1,f2,f3,f4,f5,f6,f7,f8⟩:=wZ (p1:=aI (aW 1)) (p2:=aI (aW 2));have V:=DH N l2;have hT:bl (dP (aI (aW 1)) (aI (aW 2))) 1:=V.tidy (DI N l2);obtain⟨U,aT⟩:=DJ (p1:=aI (aW 1)) (p2:=aI (aW 2)) (jZ 2) rfl;have B:=DD (i:=0) (me:=1) (seed:=aW 3) (secret:=aW 4) [] V f1 (by decide) U (jZ 3) (jZ 4);have ar:=Eo (t:=dP (aI (aW 1)) (aI (aW 2))) (K:=1) (i:=0) (secret:=aW 4) (aW 3) [] V (by decide) (jZ 4);have X:=lU (dP (aI (aW 1)) (aI (aW 2))) 1 0 (aW 3) (aW 4) [];rw[f5] at X;have Y:gS (dP (aI (aW 1)) (aI (aW 2))) 0 (aW 3) (aW 4)=0:=by
  unfold gS;rw[if_pos ⟨jZ 3,jZ 4⟩];unfold eU;rw[if_pos f7]
 have aw:(gi (dP (aI (aW 1)) (aI (aW 2))) 1 0 (aW 3) (aW 4) []).path=bS (dP (aI (aW 1)) (aI (aW 2))) 1 0 (aW 3) (aW 4) []:=by unfold gi;rw[if_pos Y];rfl
 have aV:(gi (dP (aI (aW 1)) (aI (aW 2))) 1 0 (aW 3) (aW 4) []).last.length=32:=by unfold gi;rw[if_pos Y];exact jS (jZ 4) _
 have j:Hid (∀ (n:UInt8) W,Calls prog 26 #[.int .u8 (n.toNat:Int)] W λe w'=>(∃ r,e=.returned r/\Rd w' r (aW n))/\Kp W w'):=λn W=>(Jo n W).mono λe w' ⟨⟨r,h1,h2,_⟩,k⟩=>⟨⟨r,h1,h2⟩,k⟩
 have aR:Hid (∀ (n:UInt8) W v,Rd W v (aW n)->Calls prog 33 #[v] W λe w'=>(∃ r,e=.returned r/\Rd w' r (aI (aW n)))/\Kp W w'):=λn W v f=>by
  have:=Ik v (aW n) W f;rwa [(eC (jZ n)).2] at this
 have aj:Hid (∀ W v,Rd W v (aI (aW 1))->Calls prog 37 #[.int .i64 1,v] W λe w'=>(∃ r,e=.returned (.tuple #[r,.int .i64 0])/\NL w' r [aN 1 (aI (aW 1))])/\Kp W w'):=λW v f=>by
  have:=Dp 1 v (aI (aW 1)) W f;rwa [(su N).1,(su N).2] at this
 have ak:Hid (∀ W aa v,NL W aa [aN 1 (aI (aW 1))]->Rd W v (aI (aW 2))->Calls prog 38 #[aa,.int .i64 2,v] W λe w'=>(∃ r,e=.returned (.tuple #[r,.int .i64 1,.int .i64 0])/\NL w' r (dP (aI (aW 1)) (aI (aW 2))))/\Kp W w'):=λW aa v g f=>by
  have:=Eb aa v [aN 1 (aI (aW 1))] 0 2 (aI (aW 2)) W g f (DF N);rwa [(sw N l2).1,(sw N l2).2.1,(sw N l2).2.2] at this
 generalize bb:dP (aI (aW 1)) (aI (aW 2))=T at *;generalize aX:gi T 1 0 (aW 3) (aW 4) []=MD at *;generalize bc:bS T 1 0 (aW 3) (aW 4) []=m at *;have p:bT T 1 0 1 [⟨2,aW 2⟩] [] m=0/\(cM T 1 0 1 [⟨2,aW 2⟩] [] m).tree=MD.tree/\(cM T 1 0 1 [⟨2,aW 2⟩] [] m).last=MD.last/\(cM T 1 0 1 [⟨2,aW 2⟩] [] m).path=m:=⟨B.1,B.2.2.1,B.2.2.2.1,B.2.2.2.2.trans aw⟩;have a9:Hid (∀ W aa v1 v2,NL W aa T->Rd W v1 (aW 3)->Rd W v2 (aW 4)->Tab W->Calls prog 20 #[aa,.int .i64 0,v1,v2,.slice none 0 0] W λe w'=>(∃ v,e=.returned (.tuple #[v,.int .i64 0])/\MV w' v MD)/\Kp W w'):=λW aa v1 v2 g h1 h2 d=>by
  have:=Iy aa v1 v2 (.slice none 0 0) T 1 0 (aW 3) (aW 4) [] W g V hT h1 h2 (bU W) (by simp) d;rwa [Y,aX] at this
 obtain⟨TD,az⟩:∃ TD,cM T 1 0 1 [⟨2,aW 2⟩] [] m=TD:=⟨_,rfl⟩;rw[az] at p;have a1:Hid (∀ W aa v x y,NL W aa T->SL W v [⟨2,aW 2⟩]->PIn W x y m->Tab W->Calls prog 23 #[aa,.int .i64 0,.int .i64 1,v,.slice none 0 0,.agg #[x,y]] W λe w'=>(∃ v,e=.returned (.tuple #[v,.int .i64 0])/\MV w' v TD)/\Kp W w'):=λW aa v x y g f hp d=>by
  have:=zC aa v (.slice none 0 0) x y T 1 0 1 [⟨2,aW 2⟩] [] m W g V hT f (bU W) hp U (by simp) (by simp) ar.1 ar.2 d;rwa [p.1,az] at this
 have a8:Hid (∀ W aa,NL W aa T->Tab W->Calls prog 13 #[aa,.int .i64 1] W λe w'=>(∃ v,e=.returned (.tuple #[v,.int .i64 0])/\RN w' v [1])/\Kp W w'):=λW aa g d=>by
  have:=GB aa T 1 1 W g V d;have e2:gQ T 1 1=[1]:=by unfold gQ;rw[if_pos f8];exact f4
  rwa [f6,e2] at this
 have a3:Hid (∀ W aa v,NL W aa MD.tree->NL W v MD.tree->Calls prog 28 #[aa,v] W λe w'=>e=.returned (.bool true)/\Kp W w'):=λW aa v g f=>by
  refine(xm aa v _ _ W g f).mono ?_;rintro _ w' ⟨⟨b,rfl,Z⟩,z⟩;rw[Z.2 rfl];exact⟨rfl,z⟩
 have a2:Hid (∀ W aa v l,Rd W aa l->Rd W v l->Calls prog 29 #[aa,v] W λe w'=>e=.returned (.bool true)/\W=w'):=λW aa v l g f=>by
  have:=fM aa v l l W g f;rwa [Ke rfl] at this
 have ba:Hid (∀ W aa v,RI W aa [1]->RI W v [1]->Calls prog 15 #[aa,v] W λe w'=>e=.returned (.bool true)/\Kp W w'):=λW aa v g f=>by
  have:=xk aa v [1] [1] W g f;rwa [Ke rfl] at this
 have hw:∀ k,k<[(⟨2,aW 2⟩:Sd)].length->-9223372036854775808<=(aG [(⟨2,aW 2⟩:Sd)] k).node/\(aG [(⟨2,aW 2⟩:Sd)] k).node<=9223372036854775807:=λk z=>by
  have:k=0:=by simp at z;omega
  subst this;exact⟨(show(-9223372036854775808:Int)<=2 by decide),(show(2:Int)<=9223372036854775807 by decide)⟩
 have a4:Hid (∀ W aa v,NL W aa T->SL W v [⟨2,aW 2⟩]->Tab W->Calls prog 16 #[aa,.int .i64 1,v] W λe w'=>e=.returned (.bool true)/\Kp W w'):=λW aa v g f d=>by
  refine(zD aa v T [⟨2,aW 2⟩] 1 1 W g f V (by simp) hw d).mono ?_;rintro _ w' ⟨⟨b,rfl,Z⟩,z⟩;rw[Z.2 U];exact⟨rfl,z⟩
 have a5:Hid (∀ W aa v,NL W aa T->SL W v [⟨2,aW 2⟩]->Tab W->Calls prog 16 #[aa,.int .i64 0,v] W λe w'=>e=.returned (.bool false)/\Kp W w'):=λW aa v g f d=>by
  refine(zD aa v T [⟨2,aW 2⟩] 1 0 W g f V (by simp) hw d).mono ?_;rintro _ w' ⟨⟨b,rfl,Z⟩,z⟩;cases b
  ·exact⟨rfl,z⟩
  ·exact absurd (Z.1 rfl) aT
 have a6:Hid (∀ W x y x' y',PIn W x y m->PIn W x' y' m->Calls prog 18 #[.agg #[x,y],.agg #[x',y']] W λe w'=>e=.returned (.bool true)/\Kp W w'):=λW x y x' y' h1 h2=>by
  refine(zE x y x' y' m m W h1 h2).mono ?_;rintro _ w' ⟨⟨b,rfl,Z⟩,z⟩;rw[Z.2 rfl];exact⟨rfl,z⟩
 have c:m.step.length=1:=X.1;have a7:Hid (∀ W x y,PIn W x y m->Calls prog 18 #[.agg #[x,y],.agg #[.slice none 0 0,.slice none 0 0]] W λe w'=>e=.returned (.bool false)/\Kp W w'):=λW x y h1=>by
  refine(zE x y _ _ m ⟨[],[]⟩ W h1 ⟨bU W,aJ.nil W⟩).mono ?_;rintro _ w' ⟨⟨b,rfl,Z⟩,z⟩;cases b
  ·exact⟨rfl,z⟩
  ·have:=Z.1 rfl
   rw[this] at c;cases c
 have A:(am m.step 0).fors.length=1:=(X.2.2 0 (by decide)).1;have M:=JE (JN c (JN A (JN aV (JN aw p))));clear f1 f2 f3 f4 f5 f6 f7 f8 V hT U aT B ar X Y aw aV N l2 p hw c A bb aX bc az;have n1:=j.out 1;have n2:=j.out 2;have n3:=j.out 3;have n4:=j.out 4;rw[show(((1:UInt8).toNat:Nat):Int)=1 from rfl] at n1;rw[show(((2:UInt8).toNat:Nat):Int)=2 from rfl] at n2;rw[show(((3:UInt8).toNat:Nat):Int)=3 from rfl] at n3;rw[show(((4:UInt8).toNat:Nat):Int)=4 from rfl] at n4;have N1:=JE n1;have N2:=JE n2;have N3:=JE n3;have N4:=JE n4;clear n1 n2 n3 n4 j;go_enter func9,ntmps9;go_wp2_with fail;refine(N1.out w).mono ?_;rintro _ w1 ⟨⟨r1,rfl,s1⟩,k1⟩;have R1:=JE s1;have K1:=JE k1;clear s1 k1 N1;go_wp2_with fail;refine(aR.out 1 w1 _ R1.out).mono ?_;rintro _ w2 ⟨⟨r2,rfl,s2⟩,k2⟩;have R2:=JE s2;have K2:=JE (K1.out.trans k2);clear s2 k2 R1 K1;go_wp2_with fail;refine(aj.out w2 _ R2.out).mono ?_;rintro _ w3 ⟨⟨r3,rfl,s3⟩,k3⟩;have U3:=JE s3;have K3:=JE (K2.out.trans k3);clear s3 k3 R2 K2 aj;go_wp2_with fail;refine(N2.out w3).mono ?_;rintro _ w4 ⟨⟨r4,rfl,s4⟩,k4⟩;have R4:=JE s4;have U4:=JE (U3.out.kp k4);have K4:=JE (K3.out.trans k4);clear s4 k4 U3 K3;go_wp2_with fail;refine(aR.out 2 w4 _ R4.out).mono ?_;rintro _ w5 ⟨⟨r5,rfl,s5⟩,k5⟩;have R5:=JE s5;have U5:=JE (U4.out.kp k5);have K5:=JE (K4.out.trans k5);clear s5 k5 U4 K4 R4 aR;go_wp2_with fail;refine(ak.out w5 _ _ U5.out R5.out).mono ?_;rintro _ w6 ⟨⟨r6,rfl,s6⟩,k6⟩;have T6:=JE s6;have K6:=JE (K5.out.trans k6);clear s6 k6 U5 R5 K5 ak;go_wp2_with fail;refine(N3.out w6).mono ?_;rintro _ w7 ⟨⟨r7,rfl,s7⟩,k7⟩;have R7:=JE s7;have T7:=JE (T6.out.kp k7);have K7:=JE (K6.out.trans k7);clear s7 k7 T6 K6 N3;go_wp2_with fail;refine(N4.out w7).mono ?_;rintro _ w8 ⟨⟨r8,rfl,s8⟩,k8⟩;have R8:=JE s8;have a0:=JE (R7.out.kp k8);have T8:=JE (T7.out.kp k8);have K8:=JE (K7.out.trans k8);clear s8 k8 T7 K7 R7 N4;go_wp2_with fail;refine(a9.out w8 _ _ _ T8.out a0.out R8.out (h.out.kp K8.out)).mono ?_;rintro _ o ⟨⟨v9,rfl,av⟩,k9⟩;obtain⟨mt,mo,mx,my,ml,rfl,a⟩:=av;obtain⟨ab,nt,ct,rfl⟩:=a.tree.sl;obtain⟨ao,no,co,rfl⟩:=Oc a.own;obtain⟨ax,nx,cx,rfl⟩:=aA a.path.pub;obtain⟨ay,cy,rfl,_,_⟩:=Ob a.path.step;obtain⟨al,cl,rfl,_,_⟩:=a.last.shape;have s:=a.path;rw[M.out.2.2.2.1] at s a;rw[M.out.2.2.2.1];rw[M.out.2.2.1] at a;rw[M.out.2.2.1];obtain⟨gs,os,cs,pv,qv,es,_,au⟩:=dl.nodeK (i:=0) s.step (by rw[M.out.1];decide);rw[M.out.1] at s a es;rw[M.out.1];simp only[JR] at es;obtain⟨rfl,_,rfl⟩:=es;have MI:=JE a;have PP:=JE s;have T9:=JE (T8.out.kp k9);have K9:=JE (K8.out.trans k9);have H:=JE au;obtain⟨_,_,_,aU⟩:=au o (NQ _);obtain⟨af,cf,rfl,_,_⟩:=Ob aU;rw[M.out.2.1] at H;clear s a k9 T8 K8 a0 R8 a9 au aU;obtain⟨wA,R⟩:∃ x,o.alloc (.cells #[.slice ab nt ct,.slice ao no co,.slice ax nx cx,.slice (some ⟨gs,os,none⟩) 1 cy,.slice al 32 cl] 47)=x:=⟨_,rfl⟩;have J:Hid (Bx wA o.heap.size 47 #[.slice ab nt ct,.slice ao no co,.slice ax nx cx,.slice (some ⟨gs,os,none⟩) 1 cy,.slice al 32 cl]):=by unfold Hid;rw[<-R];exact Oa o _ _
 have KA:Hid (Kp o wA):=by unfold Hid;rw[<-R];exact(NQ _).alloc _
 have ah:Hid (∀ W,Kp wA W->W.cell? ⟨o.heap.size,0,none⟩=some (.slice ab nt ct)/\W.cell? ⟨o.heap.size,2,none⟩=some (.slice ax nx cx)/\W.cell? ⟨o.heap.size,3,none⟩=some (.slice (some ⟨gs,os,none⟩) 1 cy)/\W.cell? ⟨o.heap.size,4,none⟩=some (.slice al 32 cl)):=λW L=>⟨(J.out.kp L).cell 0,(J.out.kp L).cell 2,(J.out.kp L).cell 3,(J.out.kp L).cell 4⟩
 obtain⟨F,E,D,C⟩:=ah.out wA (NQ _);obtain⟨_,d1,_,_⟩:=H.out wA KA.out;simp only[Nat.zero_mul,Mj] at d1;go_wp2_with fail;try rw[R]
 clear R;refine(N2.out wA).mono ?_;rintro _ wB ⟨⟨rB,rfl,sB⟩,kB⟩;obtain⟨aB,nB,cB,rfl⟩:=aA sB;have RB:=JE sB;have KB:=JE kB;clear sB kB F E D C d1 N2 H;have q:Hid (SL (wB.alloc (.cells #[.int .i64 2,.slice aB nB cB] 90)) (.slice (some ⟨wB.heap.size,0,none⟩) 1 1) [⟨2,aW 2⟩]):=
  SE.lit1 (S:=bQ) (w:=wB) (vs:=[.int .i64 2,.slice aB nB cB]) (x:=⟨2,aW 2⟩) (cs:=#[.int .i64 2,.slice aB nB cB]) 90 ⟨_,rfl,RB.out,br.none _⟩ rfl
 obtain⟨wC,Q⟩:∃ x,wB.alloc (.cells #[.int .i64 2,.slice aB nB cB] 90)=x:=⟨_,rfl⟩;rw[Q] at q;have KC:Hid (Kp wA wC):=by unfold Hid;rw[<-Q];exact KB.out.alloc _
 have ae:Hid (Kp o wC):=KA.out.trans KC.out;obtain⟨F,E,D,C⟩:=ah.out wC KC.out;go_wp2_with fail;try rw[Q]
 clear Q;refine(a1.out wC _ _ _ _ (T9.out.kp ae.out) q.out (PP.out.kp ae.out) (h.out.kp (K9.out.trans ae.out))).mono ?_;rintro _ wD ⟨⟨vD,rfl,av⟩,kD⟩;obtain⟨mt,mo,mx,my,ml,rfl,a⟩:=av;obtain⟨aM,aq,aE,rfl⟩:=a.tree.sl;obtain⟨aZ,aS,aY,rfl⟩:=Oc a.own;obtain⟨aL,ap,aD,rfl⟩:=aA a.path.pub;obtain⟨aK,an,aC,rfl⟩:=Oc a.path.step;obtain⟨aO,aH,rfl,_,_⟩:=a.last.shape;obtain⟨g1,g2,g3,g4⟩:=M.out.2.2.2.2;have u:TD.last.length=32:=by rw[g3];exact M.out.2.2.1
 have q1:=a.tree;have q2:=a.last;have q3:=a.path;rw[g2] at q1;rw[u] at q2;rw[g3] at q2;rw[g4] at q3;rw[u];have Q1:=JE q1;have Q2:=JE q2;have Q3:=JE q3;have KD:=JE (KC.out.trans kD);have LD:=JE (q.out.kp kD);clear q1 q2 q3 g1 g2 g3 g4 a kD F E D C u q KB RB a1 ae KC;obtain⟨wE,P⟩:∃ x,wD.alloc (.cells #[.slice aM aq aE,.slice aZ aS aY,.slice aL ap aD,.slice aK an aC,.slice aO 32 aH] 47)=x:=⟨_,rfl⟩;have I:Hid (Bx wE wD.heap.size 47 #[.slice aM aq aE,.slice aZ aS aY,.slice aL ap aD,.slice aK an aC,.slice aO 32 aH]):=by unfold Hid;rw[<-P];exact Oa wD _ _
 have KE:Hid (Kp wD wE):=by unfold Hid;rw[<-P];exact(NQ _).alloc _
 have ag:Hid (∀ W,Kp wE W->(W.cell? ⟨o.heap.size,0,none⟩=some (.slice ab nt ct)/\W.cell? ⟨o.heap.size,2,none⟩=some (.slice ax nx cx)/\W.cell? ⟨o.heap.size,3,none⟩=some (.slice (some ⟨gs,os,none⟩) 1 cy)/\W.cell? ⟨o.heap.size,4,none⟩=some (.slice al 32 cl))/\W.cell? ⟨wD.heap.size,0,none⟩=some (.slice aM aq aE)/\W.cell? ⟨wD.heap.size,2,none⟩=some (.slice aL ap aD)/\W.cell? ⟨wD.heap.size,3,none⟩=some (.slice aK an aC)/\W.cell? ⟨wD.heap.size,4,none⟩=some (.slice aO 32 aH)):=λW L=>⟨ah.out W (KD.out.trans (KE.out.trans L)),(I.out.kp L).cell 0,(I.out.kp L).cell 2,(I.out.kp L).cell 3,(I.out.kp L).cell 4⟩
 have G:=JE (KA.out.trans (KD.out.trans KE.out));have TE:=JE (T9.out.kp G.out);have ad:=JE (K9.out.trans G.out);have LE:=JE (LD.out.kp KE.out);have M1:=JE (MI.out.tree.kp G.out);have M2:=JE (MI.out.last.kp G.out);have M3:=JE (PP.out.kp G.out);have P1:=JE (Q1.out.kp KE.out);have P2:=JE (Q2.out.kp KE.out);have P3:=JE (Q3.out.kp KE.out);clear MI PP T9 LD J I KD Q1 Q2 Q3 ah;go_wp2_with fail;try rw[P]
 clear P;refine(a8.out wE _ TE.out (h.out.kp ad.out)).mono ?_;rintro _ wF ⟨⟨vF,rfl,sF⟩,kF⟩;obtain⟨aF,nF,cF,rfl⟩:=sF.sl;have RF:=JE sF.ri;have KF:=JE kF;obtain⟨⟨F,E,D,C⟩,e0,e2,e3,e4⟩:=ag.out wF kF;clear sF kF a8;go_wp2_with fail;refine(a3.out wF _ _ (M1.out.kp KF.out) (P1.out.kp KF.out)).mono ?_;rintro _ wG ⟨rfl,kG⟩;have KG:=JE (KF.out.trans kG);have RG:=JE (RI.kp RF.out kG);clear F E D C e0 e2 e3 e4 kG RF KF a3;obtain⟨⟨F,E,D,C⟩,e0,e2,e3,e4⟩:=ag.out wG KG.out;go_wp2_with fail;refine(a2.out wG _ _ _ (M2.out.kp KG.out) (P2.out.kp KG.out)).mono ?_;rintro _ _ ⟨rfl,rfl⟩;have aQ:Hid (RI (wG.alloc (.cells #[.int .i64 1] 3)) (.slice (some ⟨wG.heap.size,0,none⟩) 1 1) [1]):=(ON.lit1 wG 3 1).ri;obtain⟨wH,O⟩:∃ x,wG.alloc (.cells #[.int .i64 1] 3)=x:=⟨_,rfl⟩;rw[O] at aQ;have aP:Hid (Kp wG wH):=by unfold Hid;rw[<-O];exact(NQ _).alloc _
 have KH:=JE (KG.out.trans aP.out);go_wp2_with fail;try rw[O]
 clear O;refine(ba.out wH _ _ (RI.kp RG.out aP.out) aQ.out).mono ?_;rintro _ wI ⟨rfl,kI⟩;have KI:=JE (KH.out.trans kI);clear kI F E D C e0 e2 e3 e4 KG KH aP RG aQ ba a2;go_wp2_with fail;refine(a4.out wI _ _ (TE.out.kp KI.out) (Od LE.out KI.out) (h.out.kp (ad.out.trans KI.out))).mono ?_;rintro _ wJ ⟨rfl,kJ⟩;have KJ:=JE (KI.out.trans kJ);clear kJ KI a4;go_wp2_with fail;refine(a5.out wJ _ _ (TE.out.kp KJ.out) (Od LE.out KJ.out) (h.out.kp (ad.out.trans KJ.out))).mono ?_;rintro _ wK ⟨rfl,kK⟩;have KK:=JE (KJ.out.trans kK);clear kK KJ a5;obtain⟨⟨F,E,D,C⟩,e0,e2,e3,e4⟩:=ag.out wK KK.out;go_wp2_with fail;refine(a6.out wK _ _ _ _ (M3.out.kp KK.out) (P3.out.kp KK.out)).mono ?_;rintro _ wL ⟨rfl,kL⟩;have KL:=JE (KK.out.trans kL);clear kL KK a6 F E D C e0 e2 e3 e4;obtain⟨⟨F,E,D,C⟩,e0,e2,e3,e4⟩:=ag.out wL KL.out;go_wp2_with fail;refine(a7.out wL _ _ (M3.out.kp KL.out)).mono ?_;rintro _ wM ⟨rfl,kM⟩;have bd:=JE (ad.out.trans (KL.out.trans kM));clear kM KL a7 F E D C e0 e2 e3 e4;go_wp2_with fail;go_ret;exact⟨rfl,bd.out⟩
theorem Jq (aa v Q x y:Value)(t:List Nod)(K:Nat)(i me:Int)(own:List Sd)(info:List UInt8)(p:Pa)(w:World)(E:NL w aa t)(I:aD t K)(H:SL w v own)(J:Rd w Q info)(F:PIn w x y p)(j:¬bc t i\/i=me):
  Calls prog 24 #[aa,.int .i64 i,.int .i64 me,v,Q,.agg #[x,y]] w λe w'=>(∃ v,e=.returned (.tuple #[v,.int .i64 (bT t K i me own info p)])/\MV w' v (cM t K i me own info p))/\Kp w w':=by
 obtain⟨P,O,M⟩:=I.small;have G:=JE (λW (g:Kp w W)=>ox aa t i W (E.kp g) (by omega));obtain⟨a,c,rfl,_,_⟩:=E.shape;obtain⟨av,V,Y,rfl⟩:=Oc H;obtain⟨ai,X,Z,rfl⟩:=aA J;obtain⟨B,s,z,rfl⟩:=aA F.pub;obtain⟨A,r,u,rfl⟩:=Oc F.step;by_cases f:bc t i
 ·obtain rfl:i=me:=j.resolve_left λh=>h f
  have n:bT t K i i own info p=1:=by unfold bT;rw[if_neg (by rw[Ln];exact f),if_pos rfl]
  have D:Hid (bT t K i i own info p=1/\cM t K i i own info p=fv):=⟨n,by unfold cM;rw[if_neg (by rw[n];decide)]⟩;generalize bT t K i i own info p=U at *;generalize cM t K i i own info p=T at *;rw[Ke f] at G;generalize t.length=N at *;clear E I H J F P O M j n f;go_enter func24,ntmps24;go_wp2_with fail;obtain⟨d,b⟩:∃ d,(w.alloc (.cells #[.slice B s z,.slice A r u] 27)).alloc (.cells #[.slice none 0 0,.slice none 0 0,.slice none 0 0,.slice none 0 0,.slice none 0 0] 47)=d:=⟨_,rfl⟩;have L:Hid (∀ W,Kp d W->Bx W w.heap.size 27 #[.slice B s z,.slice A r u]):=λW g=>by
   refine Bx.kp ?_ g;rw[<-b];exact(Oa w _ _).kp ((NQ _).alloc _)
  have o:Hid (∀ W,Kp d W->Bx W (w.heap.size+1) 47 #[.slice none 0 0,.slice none 0 0,.slice none 0 0,.slice none 0 0,.slice none 0 0]):=λW g=>by
   refine Bx.kp ?_ g;have:=Oa (w.alloc (.cells #[.slice B s z,.slice A r u] 27)) 47 #[.slice none 0 0,.slice none 0 0,.slice none 0 0,.slice none 0 0,.slice none 0 0];rw[JY] at this;rw[<-b];exact this
  have C:Hid (Kp w d):=by unfold Hid;rw[<-b];exact((NQ _).alloc _).alloc _
  rw[b];clear b;have q:=JE (o.out d (NQ _));refine(G.out d C.out).mono ?_;rintro _ _ ⟨rfl,rfl⟩;go_wp2_with(refine eR rfl rfl 47 (.tmp 12) (.tmp 37) rfl (w.heap.size+1) 47 _ #[.slice none 0 0,.slice none 0 0,.slice none 0 0,.slice none 0 0,.slice none 0 0] rfl rfl q.out rfl gA cY ?_;intro R m S l)
  have k:=l w C.out (Mh _);refine bodyPost_ret (eZ rfl _ _ (w.heap.size+1) _ _ (0,0) _ _ rfl m underlying47 rfl cY rfl) rfl ?_;rw[D.out.1,D.out.2];exact⟨⟨_,rfl,_,_,_,_,_,rfl,Oj _⟩,k⟩
 ·have n:bT t K i me own info p=11:=by unfold bT;rw[if_pos f]
  have D:Hid (bT t K i me own info p=11/\cM t K i me own info p=fv):=⟨n,by unfold cM;rw[if_neg (by rw[n];decide)]⟩;generalize bT t K i me own info p=U at *;generalize cM t K i me own info p=T at *;rw[Kb f] at G;generalize t.length=N at *;clear E I H J F P O M j n f;go_enter func24,ntmps24;go_wp2_with fail;obtain⟨d,b⟩:∃ d,(w.alloc (.cells #[.slice B s z,.slice A r u] 27)).alloc (.cells #[.slice none 0 0,.slice none 0 0,.slice none 0 0,.slice none 0 0,.slice none 0 0] 47)=d:=⟨_,rfl⟩;have L:Hid (∀ W,Kp d W->Bx W w.heap.size 27 #[.slice B s z,.slice A r u]):=λW g=>by
   refine Bx.kp ?_ g;rw[<-b];exact(Oa w _ _).kp ((NQ _).alloc _)
  have o:Hid (∀ W,Kp d W->Bx W (w.heap.size+1) 47 #[.slice none 0 0,.slice none 0 0,.slice none 0 0,.slice none 0 0,.slice none 0 0]):=λW g=>by
   refine Bx.kp ?_ g;have:=Oa (w.alloc (.cells #[.slice B s z,.slice A r u] 27)) 47 #[.slice none 0 0,.slice none 0 0,.slice none 0 0,.slice none 0 0,.slice none 0 0];rw[JY] at this;rw[<-b];exact this
  have C:Hid (Kp w d):=by unfold Hid;rw[<-b];exact((NQ _).alloc _).alloc _
  rw[b];clear b;have q:=JE (o.out d (NQ _));refine(G.out d C.out).mono ?_;rintro _ _ ⟨rfl,rfl⟩;go_wp2_with(refine eR rfl rfl 47 (.tmp 12) (.tmp 33) rfl (w.heap.size+1) 47 _ #[.slice none 0 0,.slice none 0 0,.slice none 0 0,.slice none 0 0,.slice none 0 0] rfl rfl q.out rfl gA cY ?_;intro R m S l)
  have k:=l w C.out (Mh _);refine bodyPost_ret (eZ rfl _ _ (w.heap.size+1) _ _ (0,0) _ _ rfl m underlying47 rfl cY rfl) rfl ?_;rw[D.out.1,D.out.2];exact⟨⟨_,rfl,_,_,_,_,_,rfl,Oj _⟩,k⟩
set_option maxRecDepth 100000 in
set_option maxHeartbeats 3000000 in
open Classical in
theorem Jr (aa v vi x y:Value)(t:List Nod)(K i me:Nat)(own:List Sd)(info:List UInt8)(p:Pa)(w:World)(hu:NL w aa t)(hr:aD t K)(hT:bl t K)(hv:SL w v own)(bc:Rd w vi info)(hp:PIn w x y p)(B:(ats t (2*i)).kind=1)
  (dh:i≠me) (hs:bZ t K (me:Int) own) (dn:info.length<=1400) (dd:own.length<=99000) (cn:∀ k j,(aH (am p.step k).fors j).b.length<=1600):
  Calls prog 24 #[aa,.int .i64 (i:Int),.int .i64 (me:Int),v,vi,.agg #[x,y]] w λe w'=>(∃ v,e=.returned (.tuple #[v,.int .i64 (bT t K i me own info p)])/\MV w' v (cM t K i me own info p))/\Kp w w':=by
 obtain⟨z1,z2,z3⟩:=hr.small;have F:=(hr.there_iff i).2 B;have bp:=hs.1;have cg:=(hr.there_iff me).1 bp;have dp:=Oe (t:=t) (x:=2*i) (by rw[B];decide);have di:=Oe (t:=t) (x:=2*me) (by rw[cg];decide);have hi:i<2 ^ K:=by omega
 have hm:me<2 ^ K:=by omega
 have d8:=bP hr.le;have bO:bT t K (i:Int) (me:Int) own info p=if ¬dy (aT t i K) p then 2
   else if (du t K i me own info p).2≠0 then (du t K i me own info p).2
   else if gn p.step (du t K i me own info p).1 (kM t i me) (ixS t i K).length then 0 else 5:=by
  unfold bT;rw[if_neg (by rw[Ln];exact F),if_neg (by omega)];rfl
 have bL:cM t K (i:Int) (me:Int) own info p=if bT t K (i:Int) (me:Int) own info p=0 then
  ⟨eE t (i:Int) (aC t i K) p,cX (cL K i own) (du t K i me own info p).1 ((aC t i K).drop (kM t i me)),p,aU (du t K i me own info p).1 ((ixS t i K).length - kM t i me)⟩ else fv:=rfl
 obtain⟨aW,cz,cu⟩:=zz hr B dh hs;obtain⟨aN,aM⟩:=gy t i K;have dk:=Kd (kC t i K) hr.le;have bW:=JE (λa ha=>lV (t:=t) (a:=a) hr hi ha);have cH:=JE (show(du t K i me own info p).1.length<=32 from zA _ _ _ _);have dI:Hid (du t K i me own info p=df own info ((aT t i K).getD (kM t i me) []) (am p.step (kM t i me)).fors):=rfl;have HF:=JE (λW (d:Kp w W)=>ox aa t (i:Int) W (hu.kp d) (by omega));rw[Ke F] at HF;have bX:=JE (λW (d:Kp w W)=>yN aa t K i W (hu.kp d) hr hi);have b6:=JE (λW (d:Kp w W) (lw:Value) (hl:aJ gV W lw (aT t i K))=>IE lw x y (aT t i K) p W hl (hp.kp d));have HL:=JE (λW (d:Kp w W)=>gU aa t W (hu.kp d) (by omega));rw[hr.lv] at HL;have cZ:=JE (λW=>Dz K i me W hr.le hi hm);have HP:=JE (λW=>pH K 0 i W hr.le (JW _) (by simpa using hi));rw[eF] at HP;have b3:=JE (λW (d:Kp w W) (lw sx sy:Value) (who:List Int) (st:St) (hl:RI W lw who) (h1:Rd W sx st.pub) (h2:EL W sy st.fors) h3 h4 h5=>IA lw sx sy v vi who st own info W hl h1 h2 (Od hv d) (bc.kp d) h3 dn h4 h5 (by omega));have b4:=JE (λW (lv:Value) n (h:RN W lv (aL K 0 i))=>wO lv (aL K 0 i) n W h);have cT:=JE (λW (v:Value) (l:List UInt8) (hv:Rd W v l)=>zo v l W hv);have bu:=JE (λW (v:Value) (s:ByteArray) (l:List UInt8) (hv:Rd W v l) (hs:s.size<=300) (hl:l.length<=2000)=>xG v s l W hv hs hl);have ah:=JE (λW (d:Kp w W) (lv:Value) (hl:RN W lv (aC t i K)) h32 hs hs32=>GT aa lv x y t K i p W (hu.kp d) hr hT B hl (hp.kp d) h32 hs hs32);have bk:=JE (λj (hj:j<own.length) h=>IX (K:=K) (i:=i) (own:=own) (j:=j) hj h);have bj:=JE (λj (hj:j<own.length) h=>IY (K:=K) (i:=i) (own:=own) (j:=j) hj h);have a4:=JE (λj=>Ja (K:=K) (i:=i) (own:=own) j);have cR:Hid (cL K i (own.take 0)=[]):=rfl;have bm:Hid (cL K i (own.take own.length)=cL K i own):=by unfold Hid;rw[Kz]
 have b2:=JE (λk hk=>Ek (own:=cL K i own) (s:=(du t K i me own info p).1) (l:=(aC t i K).drop (kM t i me)) (k:=k) hk);have i2:IntKind.i64.wrap (2*(i:Int))=((2*i:Nat):Int):=by rw[JI _ (by omega)];omega
 have b0:=JE hp;have HU:=JE hu;have HV:=JE hv;have HI:=JE bc;have dP:=JE cn;have dQ:((i:Int)==(me:Int))=false:=JL.2 (by omega);have de:¬(i:Int)=(me:Int):=by omega
 generalize bT t K (i:Int) (me:Int) own info p=TE at *;generalize cM t K (i:Int) (me:Int) own info p=TV at *;generalize ds:du t K i me own info p=RR at *;obtain⟨D,E0⟩:=RR;dsimp only at bO bL cH b2
 generalize bq:dy (aT t i K) p=c5 at *;generalize coN i me=CO at *;generalize kM t i me=aY at *;generalize aL K 0 i=PT at *;obtain⟨a,c,rfl,p1,s1⟩:=hu.shape;obtain⟨av,cv,rfl,p2,s2⟩:=Ob hv;obtain⟨ai,ni,ci,rfl⟩:=aA bc;obtain⟨ax,nx,cx,rfl⟩:=aA hp.pub;obtain⟨ay,cy,rfl,aV,s3⟩:=Ob hp.step;generalize ct:aC t i K=ST at *;generalize cr:aT t i K=WH at *;generalize (ixS t i K).length=M at *;obtain⟨N,hN⟩:∃ N,t.length=N:=⟨_,rfl⟩;obtain⟨NO,bN⟩:∃ n,own.length=n:=⟨_,rfl⟩;obtain⟨PN,bM⟩:∃ n,p.step.length=n:=⟨_,rfl⟩;have cO:=JE bN;have aE:=JE bM;have ag:=JE aN;have E:=JE aM;have dK:=JE cu;rw[aN] at aW;rw[hN] at HF HL bX ah bW p1 z1 ⊢;rw[bN] at p2 bk bj a4 bm b3 dd ⊢;rw[bM] at b6 ah aV ⊢;generalize dv:2 ^ K=L at *;generalize dw:2*i=I2 at *;have ae:=JE (JN bO bL);have cU:=JE bq;have dL:=JE cz;clear bq cz hu hr hT hv bc hp B F bp cg dp di hi hm bO bL cu aN aM hN bN bM dv dw hs cn z2 z3 ds ct cr;go_enter func24,ntmps24;go_wp2_with fail;obtain⟨w1,aF⟩:∃ w1,(w.alloc (.cells #[.slice ax nx cx,.slice ay PN cy] 27)).alloc (.cells #[.slice none 0 0,.slice none 0 0,.slice none 0 0,.slice none 0 0,.slice none 0 0] 47)=w1:=⟨_,rfl⟩;have ad:Hid (∀ W,Kp w1 W->Bx W w.heap.size 27 #[.slice ax nx cx,.slice ay PN cy]):=λW d=>by
  refine Bx.kp ?_ d;rw[<-aF];exact(Oa w _ _).kp ((NQ _).alloc _)
 have aB:Hid (∀ W,Kp w1 W->Bx W (w.heap.size+1) 47 #[.slice none 0 0,.slice none 0 0,.slice none 0 0,.slice none 0 0,.slice none 0 0]):=λW d=>by
  refine Bx.kp ?_ d;have:=Oa (w.alloc (.cells #[.slice ax nx cx,.slice ay PN cy] 27)) 47 #[.slice none 0 0,.slice none 0 0,.slice none 0 0,.slice none 0 0,.slice none 0 0];rw[JY] at this;rw[<-aF];exact this
 have P:Hid (Kp w w1):=by unfold Hid;rw[<-aF];exact((NQ _).alloc _).alloc _
 rw[aF];clear aF;refine(HF.out w1 P.out).mono ?_;rintro _ _ ⟨rfl,rfl⟩;go_wp2_with fail;refine(bX.out w1 P.out).mono ?_;rintro _ w2 ⟨⟨xl,xw,rfl,r1,r2⟩,k2⟩;obtain⟨al,cl,rfl,q1,bV⟩:=r1.shape;obtain⟨aw,cw,rfl,q2,t2⟩:=Ob r2;rw[ag.out] at r1 q1 ⊢;rw[E.out] at r2 q2 ⊢;have R2:=JE (JN r1 (JN r2 k2));have e1:=(ad.out w2 k2).cell 0;have e2:=(ad.out w2 k2).cell 1;simp only[JT,JS,JU] at e1 e2;clear r1 r2 k2 HF bX;go_wp2_with fail;refine(b6.out w2 (P.out.trans R2.out.2.2) _ R2.out.2.1).mono ?_;rintro _ w3 ⟨⟨b,rfl,hb⟩,k3⟩;have K3:=JE (R2.out.2.2.trans k3);have bd:=JE k3;clear b6 e1 e2 k3;cases b
 ·have ce:¬c5:=λh=>by cases hb.2 h
  have V:TE=2:=by rw[ae.out.1,if_pos ce]
  have HQ:Hid (TE=2/\TV=fv):=⟨V,by rw[ae.out.2,if_neg (by rw[V];decide)]⟩;have ba:=JE (aB.out w3 K3.out);have a3:=JE (P.out.trans K3.out);clear hb ce V;go_wp2_with(refine eR rfl rfl 47 (.tmp 12) (.tmp 49) rfl (w.heap.size+1) 47 _ #[.slice none 0 0,.slice none 0 0,.slice none 0 0,.slice none 0 0,.slice none 0 0] rfl rfl ba.out rfl gA cY ?_;intro wq aR gq aP)
  have aO:=aP w a3.out (Mh _);refine bodyPost_ret (eZ rfl _ _ (w.heap.size+1) _ _ (0,0) _ _ rfl aR underlying47 rfl cY rfl) rfl ?_;rw[HQ.out.1,HQ.out.2];exact⟨⟨_,rfl,_,_,_,_,_,rfl,Oj _⟩,aO⟩
 ·have hf:c5:=hb.1 rfl
  have bn:=JE hf;have aQ:dy WH p:=by rw[cU.out];exact hf
  have bn:=JE aQ;have a8:Hid (TE=(if E0≠0 then E0 else if gn p.step D aY M then 0 else 5)):=by unfold Hid;rw[ae.out.1,if_neg (by rw[Ln];exact hf)]
  have cc:PN=M:=by rw[<-aE.out,aQ.1,E.out]
  clear hb hf aQ;go_wp2_with fail;refine(HL.out w3 (P.out.trans K3.out)).mono ?_;rintro _ _ ⟨rfl,rfl⟩;go_wp2_with fail;refine(cZ.out w3).mono ?_;rintro _ _ ⟨rfl,rfl⟩;go_wp2_with fail;have a2:=JE cc;clear cc;go_loop [20] (λx=>∃ k:Nat,k<=aY/\x=.int .i64 (k:Int)) (λx=>(aY - (intOf x).toNat))
  case atStart=>exact⟨0,JW _,rfl⟩
  case round=>
   obtain⟨k,hk,rfl⟩:=hrel;have i3:(k:Int)<(M:Int):=by omega
   obtain⟨gl,ol,rfl,_,az⟩:=(R2.out.1.kp bd.out).at k (by omega);have c0:=az k (by omega);by_cases dj:k<aY
   ·have hx:=dK.out k dj
    generalize ST.getD k 0=X at *;have hn:((X:Int)==(CO:Int))=false:=lR hx;have d9:((X:Int) != (CO:Int))=true:=Lt.2 (by omega);have i1:IntKind.i64.wrap ((k:Int)+1)=(k:Int)+1:=JI _ (by omega);clear az hx;go_wp2_with fail;go_round
    case rel=>exact⟨k+1,by omega,by go_num⟩
    case measure=>simp[intOf];omega
   ·obtain rfl:k=aY:=by omega
    rw[dL.out] at c0;have dq:=aJ.ns (i:=k) (Od R2.out.2.1 bd.out) (by rw[E.out];exact aW);obtain⟨gw,ow,eb,qw,e1,_,d0,bA⟩:=dq;rw[E.out] at e1;simp only[JR] at e1;obtain⟨rfl,_,rfl⟩:=e1;obtain⟨aq,cq,rfl,t3,t4⟩:=bA.shape;obtain⟨gs,os,cs,pv,qv,e2,_,G⟩:=dl.nodeK (i:=k) b0.out.step (by rw[aE.out,a2.out];exact aW);rw[aE.out] at e2;simp only[JR] at e2;obtain⟨rfl,_,rfl⟩:=e2;obtain⟨d1,d2,d3,d4⟩:=G w3 (P.out.trans K3.out);obtain⟨ap,np,cp,rfl⟩:=aA d3;obtain⟨af,nf,cf,rfl⟩:=Oc d4;have d5:=(ad.out w3 K3.out).cell 1;simp only[JT,JS,JU] at d5;have i4:(k:Int)<(PN:Int):=by rw[a2.out];exact i3
    have cj:=bn.out.2.2 k (by rw[E.out];exact aW);have dc:=(bW.out k (by rw[E.out];exact aW)).1;have bv:Hid (∀ W,Kp w3 W->Calls prog 74 #[.slice aq (en WH k).length cq,.agg #[.slice ap np cp,.slice af nf cf],.slice av NO cv,.slice ai ni ci] W λe w'=>(∃ r,e=.returned (.tuple #[r,.int .i64 E0])/\Rd w' r D)/\Kp W w'):=λW d=>by
     have h1:=b3.out W ((P.out.trans K3.out).trans d) _ _ _ (en WH k) (am p.step k) (bA.kp d) (d3.kp d) (Od d4 d) cj.1 (λj _=>dP.out k j) (by show(WH.getD k []).length<=100000;omega);have h2:df own info (en WH k) (am p.step k).fors=(D,E0):=dI.out.symm;rw[h2] at h1;exact h1
    have eh:Hid ((en WH k).length<=100000):=by show(WH.getD k []).length<=100000;omega
    generalize (en WH k).length=WN at *;clear az G d3 d4 bA cj dc b3;go_wp2_with fail;go_region_held3 (λW=>W.cell? ⟨gw,ow+k,none⟩=some (.slice aq WN cq)/\W.cell? ⟨w.heap.size,1,none⟩=some (.slice (some ⟨gs,os,none⟩) PN cy)/\W.cell? ⟨gs,os+k*2,none⟩=some (.slice ap np cp)/\W.cell? ⟨gs,os+k*2+1,none⟩=some (.slice af nf cf))
     (first|exact⟨d0,d5,d1,d2⟩|exact⟨u.out.cell d0,u.out.cell d5,u.out.cell d1,u.out.cell d2⟩)
     (first|(go_at_call 74;refine(bv.out _ (NQ _).drew).mono ?_;rintro _ H ⟨⟨q9,rfl,r9⟩,k9⟩;have u:Hid (Kp w3 H):=(NQ _).drew.trans k9;have R9:=JE r9))
    obtain⟨a9,n9,c9,rfl⟩:=aA r9;clear c0 d0 d1 d2 d5 r9 k9 bv;by_cases aX:E0=0
    ·subst aX
     have a6:Hid (TE=(if gn p.step D k M then 0 else 5)):=by unfold Hid;rw[a8.out,if_neg (by simp)]
     clear a8;go_wp2_with fail;refine(HL.out H (P.out.trans (K3.out.trans u.out))).mono ?_;rintro _ _ ⟨rfl,rfl⟩;go_wp2_with fail;refine(HP.out H).mono ?_;rintro _ ar ⟨⟨vp,rfl,b9⟩,bE⟩;have bB:=b9.rn;obtain⟨ef,d6,ec,rfl⟩:=bB.sl;have cC:=JE bB;have be:=JE bE;have bf:Hid (w.heap.size+1<ar.heap.size):=JV (JK.1 (aB.out w1 (NQ _))).1 ((K3.out.trans u.out).trans bE).size;clear b9 bB bE HP HL;go_wp2_with fail;go_loopw[25,26] (λbx bw wr=>∃ j:Nat,j<=NO/\bw=.int .i64 (j:Int)/\GZ bQ 90 (λg=>g=w.heap.size+1) wr ar.heap.size bx (cL K i (own.take j))/\Kp ar wr) (λ_ bw _=>(NO - (intOf bw).toNat))
     case atStart=>exact⟨0,JW _,rfl,by rw[cR.out];exact GZ.nil _ _ _,NQ _⟩
     case round=>
      obtain⟨j,hj,rfl,I,au⟩:=hrel;have m:=JE (JN I au);have cD:=JE ((P.out.trans K3.out).trans (u.out.trans (be.out.trans au)));obtain⟨ak,nk,ck,rfl⟩:=Oc I.gl;clear I au;by_cases bK:j<NO
      ·obtain⟨g1,o1,c1,dV,e1,_,G⟩:=SL.nodeK (i:=j) HV.out (by rw[cO.out];exact bK)
       rw[cO.out] at e1;simp only[JR] at e1;obtain⟨rfl,_,rfl⟩:=e1;obtain⟨d0,d1,d2⟩:=G wr cD.out;obtain⟨_,_,d3⟩:=G w (NQ _);obtain⟨a1,n1,b1,rfl⟩:=aA d2;have D3:=JE d3;have i1:IntKind.i64.wrap ((j:Int)+1)=(j:Int)+1:=JI _ (by omega);have i5:(j:Int)<(NO:Int):=by omega
       have O:=JE (b4.out wr _ (aG own j).node (cC.out.kp m.out.2));have an:=JE (bk.out j bK);have aj:=JE (bj.out j bK);have cP:=JE (a4.out j);clear G d2 d3 bk bj a4 b4;generalize dr:aG own j=SD at *;clear dr;obtain⟨XN,XS⟩:=SD;dsimp only at d0 d1 O an aj D3
       rcases hB:inL PT XN with _|_
       ·rw[hB] at O
        have a5:=JE (aj.out hB);clear an aj hB;have dm:(cL K i (own.take j)).length+1<=1000000:=by have:=cP.out;omega
        have dO:Hid (bQ.R (λg=>some g=(Value.slice ak nk ck).ownBlock\/g=w.heap.size+1) wr [.int .i64 XN,.slice a1 n1 b1] ⟨XN,XS⟩):=
         ⟨_,rfl,D3.out.kp cD.out,lW (w:=w) D3.out.inside λg hg=>hg.elim (λh=>by have:=(m.out.1.lt g h.symm).1;have:=bf.out;omega) λh=>by omega⟩
        go_wp2_with fail;refine O.out.mono ?_;rintro _ _ ⟨rfl,rfl⟩;go_wp2_with(at_builtin;refine fL (S:=bQ) (Z:=λg=>g=w.heap.size+1) (o:=⟨some 119,_,_,_,_,_⟩) sdK rfl _ _ rfl ar.heap.size _ (cL K i (own.take j)) rfl (m.out.1.kp ((NQ _).alloc _)) _ [⟨XN,XS⟩] rfl (SE.litZ (S:=bQ) (w:=wr) 90 dO.out rfl) (by exact dm) (Kd m.out.2.size (by simp)) ?_;intro v5 w5 o5 g5 _;have k5:Hid (Kp ar w5):=NS (m.out.2.alloc _) g5 (λk hk=>(m.out.1.lt k hk).1))
        rw[<-a5.out] at o5;go_roundw
        case rel=>exact⟨j+1,by omega,by go_num,o5,k5.out⟩
        case measure=>simp[intOf];omega
       ·rw[hB] at O
        have a5:=JE (an.out hB);clear an aj hB;go_wp2_with fail;refine O.out.mono ?_;rintro _ _ ⟨rfl,rfl⟩;go_wp2_with fail;go_roundw
        case rel=>exact⟨j+1,by omega,by go_num,by rw[a5.out];exact m.out.1,m.out.2⟩
        case measure=>simp[intOf];omega
      ·obtain rfl:j=NO:=by omega
       have I:=m.out.1;rw[bm.out] at I;have HG:Hid (SZ bQ (λg=>g=w.heap.size+1) wr (.slice ak nk ck) (cL K i own)):=⟨I.se,dZ (C:=ar.heap.size) (λg hg=>(I.lt g hg).1) λg hg=>by have:=bf.out;omega⟩;obtain⟨wm,db⟩:∃ x:World,x=wr:=⟨_,rfl⟩;subst db;have q:Hid (Kp w1 wm):=(K3.out.trans u.out).trans (be.out.trans m.out.2);have cI:Hid (Kp w3 wm):=u.out.trans (be.out.trans m.out.2);have dF:=JE (R9.out.kp (be.out.trans m.out.2));have cQ:Hid ((cL K i own).length<=j):=by have:=a4.out j;rw[bm.out] at this;exact this
       have b7:Hid ((ST.drop k).length=M - k):=by unfold Hid;rw[LG,ag.out]
       have dH:Hid (w.heap.size+1<wm.heap.size):=JV bf.out m.out.2.size;clear I bk bj a4 b4 m cC bf bm cR;generalize cL K i own=J at *;go_wp2_with fail;go_loopw[20,21,25] (λbz c6 bx wr=>∃ a:Nat,k+a<=M/\bz=.int .i64 ((k+a:Nat):Int)/\Rd wr c6 (aU D a)/\SZ bQ (λg=>g=w.heap.size+1) wr bx (cX J D ((ST.drop k).take a))/\(∀ b,b<a->aI (bo D b)=(am p.step (k+b)).pub)/\Kp wm wr) (λbz _ _ _=>(M - (intOf bz).toNat))
       case atStart=>exact⟨0,by omega,rfl,dF.out,by rw[LZ];exact HG.out,λb hb=>by omega,NQ _⟩
       case round=>
        obtain⟨z,hz,rfl,bJ,bF,ch,au⟩:=hrel;obtain⟨bS,bC,bR,rfl⟩:=aA bJ;obtain⟨ao,no,co,rfl⟩:=Oc bF.1;have bg:=JE bJ;have bY:=JE bF;have b5:=JE ch;have f:=JE au;have cG:Hid ((aU D z).length<=32):=Jb cH.out z;clear bJ bF ch au;by_cases bb:k+z<M
        ·obtain⟨gl,ol,e0,_,az⟩:=(R2.out.1.kp (bd.out.trans (cI.out.trans f.out))).at (k+z) bb
         cases e0;obtain⟨ea,dY,ed,dW,dU,e2,_,G⟩:=dl.nodeK (i:=k+z) b0.out.step (by rw[aE.out,a2.out];exact bb);rw[aE.out] at e2;cases e2;obtain⟨_,_,d3,_⟩:=G w (NQ _);obtain⟨ab,T,Y,rfl⟩:=aA d3;have D3:=JE d3;have b8:Hid (∀ W,Kp wr W->W.cell? ⟨gl,ol+(k+z),none⟩=some (.int .i64 ((ST.getD (k+z) 0:Nat):Int))):=λW d=>d.cell (az (k+z) bb)
         have cW:Hid (∀ W,Kp wr W->W.cell? ⟨gs,os+(k+z)*2,none⟩=some (.slice ab T Y)):=λW d=>d.cell (G wr ((P.out.trans q.out).trans f.out)).1
         have bi:=b2.out z (by rw[b7.out];omega);rw[JC] at bi;have i1:IntKind.i64.wrap (((k+z:Nat):Int)+1)=((k+(z+1):Nat):Int):=by rw[JI _ (by omega)];omega
         have i5:((k+z:Nat):Int)<(M:Int):=by omega
         have i6:((k+z:Nat):Int)<(PN:Int):=by rw[a2.out];exact i5
         have dJ:Hid ((cX J D ((ST.drop k).take z)).length<=100000):=by unfold Hid;rw[wY,Ki,b7.out];have:=cQ.out;omega
         obtain⟨X,hX⟩:∃ x,ST.getD (k+z) 0=x:=⟨_,rfl⟩;rw[hX] at bi b8;have cN:=JE bi;obtain⟨dA,aS⟩:∃ l,(am p.step (k+z)).pub=l:=⟨_,rfl⟩;rw[aS] at D3;have bt:=JE aS;obtain⟨Q,hQ⟩:∃ n,k+z=n:=⟨_,rfl⟩;have cJ:=JE hQ;rw[hQ] at b8 cW i1 i5 i6 ⊢;clear az G d3 hX aS bi hQ;go_wp2_with fail;refine(bu.out wr _ ⟨#[110,111,100,101]⟩ _ bg.out (by decide) (by have:=cG.out;omega)).mono ?_;rintro _ wa ⟨⟨dS,rfl,ra,na⟩,ka⟩;obtain⟨cB,ca,cA,rfl⟩:=aA ra;have RA:Hid (Rd wa (.slice cB ca cA) (bH (aU D z) eI)/\Kp wr wa):=⟨ra,ka⟩;have c2:=cW.out wa ka;have c3:=(ad.out wa ((q.out.trans f.out).trans ka)).cell 1;simp only[JT,JS,JU] at c3;have cK:Hid (dX (bH (aU D z) eI)=aI (bo D z)):=(eC (jR _ _)).2;clear ra na ka;by_cases hq:dX (bH (aU D z) eI)=dA
         ·have bh:=JE hq
          go_wp2_with fail;go_region_held3 (λW=>W.cell? ⟨w.heap.size,1,none⟩=some (.slice (some ⟨gs,os,none⟩) PN cy)/\W.cell? ⟨gs,os+Q*2,none⟩=some (.slice ab T Y))
           (first|exact⟨c3,c2⟩|exact⟨KB.out.cell c3,KB.out.cell c2⟩)
           (first|(go_at_call 33;refine(cT.out _ _ _ (RA.out.1.kp (NQ _).drew)).mono ?_;rintro _ wb ⟨⟨v9,rfl,rb,nb⟩,kb⟩;have KB:Hid (Kp wa wb):=(NQ _).drew.trans kb;have aZ:Hid (∀ W,Kp wb W->Calls prog 29 #[v9,.slice ab T Y] W λe w'=>e=.returned (.bool true)/\W=w'):=λW d=>by { have:=fM v9 (.slice ab T Y) _ _ W (rb.kp d) (D3.out.kp ((((P.out.trans q.out).trans f.out).trans RA.out.2).trans (KB.out.trans d)));rwa [Ke bh.out] at this };obtain⟨a7,n7,c7,rfl⟩:=aA rb)|(go_at_call 29;refine(aZ.out _ (by first|exact NQ _|exact(NQ _).drew)).mono ?_;rintro _ _ ⟨rfl,rfl⟩))
          have bU:=JE ((f.out.trans RA.out.2).trans KB.out);have a0:=JE (GC (λg=>g=w.heap.size+1) (.slice ao no co) (.slice cB ca cA) (cX J D ((ST.drop k).take z)) ⟨(X:Int),bH (aU D z) eI⟩ wb (bY.out.kp (RA.out.2.trans KB.out)) ⟨RA.out.1.kp KB.out,(RA.out.1.kp KB.out).sly (qy (aB.out wb (q.out.trans bU.out)))⟩ (λg hg=>by have:=dH.out;have:=bU.out.size;omega) dJ.out);rw[<-cN.out] at a0;have c4:=b8.out wb (RA.out.2.trans KB.out);have cS:Hid (∀ b,b<z+1->aI (bo D b)=(am p.step (k+b)).pub):=λb hb=>by
           rcases Kh (Kr.1 hb) with h3|h3
           ·exact b5.out b h3
           ·rw[h3,bt.out,<-cK.out];exact bh.out
          clear c2 c3 kb nb aZ hq;go_wp2_with fail;refine a0.out.mono ?_;rintro _ wc ⟨⟨xo,rfl,bI⟩,kc⟩;obtain⟨eg,d7,ee,rfl⟩:=Oc bI.1;have dC:=JE bI;have KC:=JE kc;clear bI kc a0 c4;go_wp2_with fail;refine(bu.out wc _ ⟨#[112,97,116,104]⟩ _ (bg.out.kp ((RA.out.2.trans KB.out).trans KC.out)) (by decide) (by have:=cG.out;omega)).mono ?_;rintro _ wd ⟨⟨dT,rfl,rd,c8⟩,kd⟩;obtain⟨dz,da,dx,rfl⟩:=aA rd;have dG:Hid (Rd wd (.slice dz da dx) (aU D (z+1))):=rd;have dD:=JE (dC.out.kp kd);have dN:=JE ((bU.out.trans KC.out).trans kd);clear rd c8 kd;go_wp2_with fail;go_roundw
          case rel=>exact⟨z+1,by have:=cJ.out;omega,rfl,dG.out,dD.out,cS.out,dN.out⟩
          case measure=>have:=cJ.out;simp[intOf];omega
         ·have bh:=JE hq
          have cd:¬gn p.step D k M:=λh=>hq (by rw[cK.out,<-bt.out];exact h z bb)
          have V:TE=5:=by rw[a6.out,if_neg cd]
          have HQ:Hid (TE=5/\TV=fv):=⟨V,by rw[ae.out.2,if_neg (by rw[V];decide)]⟩;clear V cd;go_wp2_with fail;go_region_held3 (λW=>W.cell? ⟨w.heap.size,1,none⟩=some (.slice (some ⟨gs,os,none⟩) PN cy)/\W.cell? ⟨gs,os+Q*2,none⟩=some (.slice ab T Y))
           (first|exact⟨c3,c2⟩|exact⟨KB.out.cell c3,KB.out.cell c2⟩)
           (first|(go_at_call 33;refine(cT.out _ _ _ (RA.out.1.kp (NQ _).drew)).mono ?_;rintro _ wb ⟨⟨v9,rfl,rb,nb⟩,kb⟩;have KB:Hid (Kp wa wb):=(NQ _).drew.trans kb;have aZ:Hid (∀ W,Kp wb W->Calls prog 29 #[v9,.slice ab T Y] W λe w'=>e=.returned (.bool false)/\W=w'):=λW d=>by { have:=fM v9 (.slice ab T Y) _ _ W (rb.kp d) (D3.out.kp ((((P.out.trans q.out).trans f.out).trans RA.out.2).trans (KB.out.trans d)));rwa [Kb bh.out] at this };obtain⟨a7,n7,c7,rfl⟩:=aA rb)|(go_at_call 29;refine(aZ.out _ (by first|exact NQ _|exact(NQ _).drew)).mono ?_;rintro _ _ ⟨rfl,rfl⟩))
          have ba:=JE (aB.out wb (q.out.trans ((f.out.trans RA.out.2).trans KB.out)));have a3:=JE (P.out.trans (q.out.trans ((f.out.trans RA.out.2).trans KB.out)));clear c2 c3 kb nb aZ hq;go_wp2_with(refine eR rfl rfl 47 (.tmp 12) (.tmp 136) rfl (w.heap.size+1) 47 _ #[.slice none 0 0,.slice none 0 0,.slice none 0 0,.slice none 0 0,.slice none 0 0] rfl rfl ba.out rfl gA cY ?_;intro wq aR gq aP)
          have aO:=aP w a3.out (Mh _);refine bodyPost_ret (eZ rfl _ _ (w.heap.size+1) _ _ (0,0) _ _ rfl aR underlying47 rfl cY rfl) rfl ?_;rw[HQ.out.1,HQ.out.2];exact⟨⟨_,rfl,_,_,_,_,_,rfl,Oj _⟩,aO⟩
        ·obtain rfl:M=k+z:=by omega
         have i5:¬((k+z:Nat):Int)<((k+z:Nat):Int):=by omega
         have hh:gn p.step D k (k+z):=λb hb=>b5.out b (by omega)
         have V:TE=0:=by rw[a6.out,if_pos hh]
         have hV:TV=⟨eE t (i:Int) ST p,cX J D (ST.drop k),p,aU D z⟩:=by rw[ae.out.2,if_pos V,Mo]
         have cE:=JE (JN V hV);have cm:(ST.drop k).take z=ST.drop k:=Ku (by rw[b7.out];omega);have bG:=bY.out;rw[cm] at bG;have cF:=JE bG;have dM:Hid (∀ W,Kp wr W->Calls prog 66 #[.slice a N c,.int .i64 (i:Int),.slice (some ⟨gl,ol,none⟩) (k+z) cl,.agg #[.slice ax nx cx,.slice (some ⟨gs,os,none⟩) PN cy]] W λe w'=>(∃ r,e=.returned r/\NL w' r (eE t (i:Int) ST p))/\Kp W w'):=λW d=>
          ah.out W (P.out.trans (q.out.trans (f.out.trans d))) _ (R2.out.1.kp (bd.out.trans (cI.out.trans (f.out.trans d)))) bn.out.2.1 (by rw[a2.out,ag.out]) λa ha=>(bn.out.2.2 a (by rw[E.out];rw[ag.out] at ha;exact ha)).2
         have e5:=(ad.out wr (q.out.trans f.out)).cell 0;have e6:=(ad.out wr (q.out.trans f.out)).cell 1;simp only[JT,JS,JU] at e5 e6;have A:Hid (∀ W,Kp wr W->Bx W (w.heap.size+1) 47 #[.slice none 0 0,.slice none 0 0,.slice none 0 0,.slice none 0 0,.slice none 0 0]):=λW d=>aB.out W (q.out.trans (f.out.trans d))
         have bs:Hid (∀ W,Kp wr W->Bx W w.heap.size 27 #[.slice ax nx cx,.slice (some ⟨gs,os,none⟩) PN cy]):=λW d=>ad.out W (q.out.trans (f.out.trans d))
         have dB:=JE (P.out.trans (q.out.trans f.out));clear hh V hV cm bG ae a6 bY b5 b2 cZ bW ah;go_wp2_with fail;go_region_with (first
          | (go_at_call 66;refine(dM.out _ (by first|exact NQ _|exact(NQ _).drew)).mono ?_;rintro _ H ⟨⟨r9,rfl,n9⟩,k9⟩;have u:Hid (Kp wr H):=(NQ _).drew.trans k9;obtain⟨a9,bD,c9,rfl⟩:=n9.sl;have N9:=JE n9;have e7:=(bs.out H u.out).cell 0;have e8:=(bs.out H u.out).cell 1;have F:=(A.out H u.out).there;have j0:=(A.out H u.out).cell 0;have j1:=(A.out H u.out).cell 1;have j2:=(A.out H u.out).cell 2;have j3:=(A.out H u.out).cell 3;have j4:=(A.out H u.out).cell 4;have f0:=(F 0 (by decide)).2;have f1:=(F 1 (by decide)).2;have f2:=(F 2 (by decide)).2;have f3:=(F 3 (by decide)).2;have f4:=(F 4 (by decide)).2;clear F;rw[Lf] at f0 f1 f2 f3 f4;simp only[JT,JS,JU] at e7 e8 j0 j1 j2 j3 j4))
         all_goals (
          clear e5 e6 e7 e8 j0 j1 j2 j3 j4 f0 f1 f2 f3 f4 n9 k9;have U:=tc (A.out H u.out) (.slice a9 bD c9) (.slice ao no co) (.slice ax nx cx) (.slice (some ⟨gs,os,none⟩) PN cy) (.slice bS bC bR);obtain⟨wz,cb⟩:∃ x,((((H.setCell ⟨w.heap.size+1,0,none⟩ (.slice a9 bD c9)).setCell ⟨w.heap.size+1,1,none⟩ (.slice ao no co)).setCell ⟨w.heap.size+1,2,none⟩ (.slice ax nx cx)).setCell ⟨w.heap.size+1,3,none⟩ (.slice (some ⟨gs,os,none⟩) PN cy)).setCell ⟨w.heap.size+1,4,none⟩ (.slice bS bC bR)=x:=⟨_,rfl⟩;rw[cb] at U ⊢;have dE:=JE U;have aK:=qy (A.out H u.out);have br:Hid (Kp w wz):=U.2.2 w (dB.out.trans u.out) (Mh _);have cV:Hid (MIn wz (.slice a9 bD c9) (.slice ao no co) (.slice ax nx cx) (.slice (some ⟨gs,os,none⟩) PN cy) (.slice bS bC bR) ⟨eE t (i:Int) ST p,cX J D (ST.drop k),p,aU D z⟩):=
           ⟨NL.sly N9.out aK U.2.1,((cF.out.kp u.out).step U.2.1).1.mono λ_ h=>h.elim,by have h5:=b0.out.kp br.out;rw[aE.out] at h5;exact h5,(bg.out.kp u.out).stepF U.2.1 ((bg.out.kp u.out).sly aK)⟩
          clear U cb aK;go_wp2_with fail;refine bodyPost_ret (eZ rfl _ _ (w.heap.size+1) _ _ (0,0) _ _ rfl dE.out.1 underlying47 rfl cY rfl) rfl ?_;rw[cE.out.1,cE.out.2];exact⟨⟨_,rfl,_,_,_,_,_,rfl,cV.out⟩,br.out⟩)
    ·have V:TE=E0:=by rw[a8.out,if_pos aX]
     have HQ:Hid (TE=E0/\TV=fv):=⟨V,by rw[ae.out.2,if_neg (by rw[V];exact aX)]⟩;have dR:(E0==0)=false:=JL.2 aX;have dg:(E0 != 0)=true:=Lt.2 aX;have ba:=JE (aB.out H (K3.out.trans u.out));have a3:=JE (P.out.trans (K3.out.trans u.out));clear V;go_wp2_with(refine eR rfl rfl 47 (.tmp 12) (.tmp 89) rfl (w.heap.size+1) 47 _ #[.slice none 0 0,.slice none 0 0,.slice none 0 0,.slice none 0 0,.slice none 0 0] rfl rfl ba.out rfl gA cY ?_;intro wq aR gq aP)
     have aO:=aP w a3.out (Mh _);refine bodyPost_ret (eZ rfl _ _ (w.heap.size+1) _ _ (0,0) _ _ rfl aR underlying47 rfl cY rfl) rfl ?_;rw[HQ.out.1,HQ.out.2];exact⟨⟨_,rfl,_,_,_,_,_,rfl,Oj _⟩,aO⟩
theorem Js (aa v d x y:Value)(t:List Nod)(K:Nat)(i me:Int)(own:List Sd)(info:List UInt8)(p:Pa)(w:World)(q:NL w aa t)(f:aD t K)(u:bl t K)(o:SL w v own)(c:Rd w d info)(s:PIn w x y p)
  (r:bZ t K me own) (l:info.length<=1400) (g:own.length<=99000) (n:∀ k j,(aH (am p.step k).fors j).b.length<=1600):
  Calls prog 24 #[aa,.int .i64 i,.int .i64 me,v,d,.agg #[x,y]] w λe w'=>(∃ v,e=.returned (.tuple #[v,.int .i64 (bT t K i me own info p)])/\MV w' v (cM t K i me own info p))/\Kp w w':=by
 by_cases h:¬bc t i\/i=me
 ·exact Jq aa v d x y t K i me own info p w q f o c s h
 ·rw[not_or,Ln] at h
  obtain⟨k,rfl,z,a,_⟩:=ju f h.1;obtain⟨m,rfl,_,_,_⟩:=ju f r.1;exact Jr aa v d x y t K k m own info p w q f u o c s a (λe=>h.2 (by rw[e])) r l g n
theorem Jt {t:List Nod}(h:ij t 40/\fW t):∃ K,aD t K/\bl t K:=by
 obtain⟨b,K,a⟩:=h;exact⟨K,a,a.tidy b⟩
theorem Ju (x y:Value)(p:Pa)(w:World)(J:PIn w x y p):Calls prog 12 #[.agg #[x,y]] w λe w'=>aK e (ia p)/\Kp w w':=by
 have HP:=JE J.pub;have HS:=JE J.step;obtain⟨ap,cp,rfl,q1,q2⟩:=J.pub.shape;obtain⟨a6,c6,rfl,q3,q4⟩:=Ob J.step;have u:Hid (40<p.pub.length->¬ia p):=λh e=>by have:=e.1;omega
 have s:Hid (10<p.step.length->¬ia p):=λh e=>by have:=e.2.1;omega
 have l:Hid (∀ k,k<p.step.length->40<(am p.step k).pub.length->¬ia p):=λk C h e=>by have:=(e.2.2 k C).1;omega
 have g:Hid (∀ k,k<p.step.length->20<(am p.step k).fors.length->¬ia p):=λk C h e=>by have:=(e.2.2 k C).2.1;omega
 have f:Hid (∀ k j,k<p.step.length->j<(am p.step k).fors.length->40<(aH (am p.step k).fors j).half.length->¬ia p):=λk j C U h e=>by have:=((e.2.2 k C).2.2 j U).1;omega
 have d:Hid (∀ k j,k<p.step.length->j<(am p.step k).fors.length->100<(aH (am p.step k).fors j).b.length->¬ia p):=λk j C U h e=>by have:=((e.2.2 k C).2.2 j U).2;omega
 have H:Hid (p.pub.length<=40->p.step.length<=10->(∀ k,k<p.step.length->(am p.step k).pub.length<=40/\(am p.step k).fors.length<=20/\∀ j,j<(am p.step k).fors.length->(aH (am p.step k).fors j).half.length<=40/\(aH (am p.step k).fors j).b.length<=100)->ia p):=λO M h3=>⟨O,M,h3⟩
 generalize ia p=P at *;obtain⟨L,hL⟩:∃ L,p.pub.length=L:=⟨_,rfl⟩;obtain⟨N,hN⟩:∃ N,p.step.length=N:=⟨_,rfl⟩;have HN:=JE hN;rw[hL] at q1 u H HP ⊢;rw[hN] at q3 s l g f d H HS ⊢;clear J hL hN;by_cases ae:40<L
 ·have v:=JE (u.out ae)
  have h4:(40:Int)<(L:Int):=by omega
  clear u s l g f d H;go_enter func12,ntmps12;go_wp2_with fail;go_ret;exact⟨Oi v.out,(NQ _).alloc _⟩
 ·have h4:¬(40:Int)<(L:Int):=by omega
  by_cases af:10<N
  ·have v:=JE (s.out af)
   have h5:(10:Int)<(N:Int):=by omega
   clear u s l g f d H;go_enter func12,ntmps12;go_wp2_with fail;go_ret;exact⟨Oi v.out,(NQ _).alloc _⟩
  ·have h5:¬(10:Int)<(N:Int):=by omega
   have Q:=JE (H.out (by omega) (by omega));clear u s H;go_enter func12,ntmps12;go_wp2_with fail;obtain⟨T,z⟩:∃ T,w.alloc (.cells #[.slice ap L cp,.slice a6 N c6] 27)=T:=⟨_,rfl⟩;have V:Bx T w.heap.size 27 #[.slice ap L cp,.slice a6 N c6]:=by rw[<-z];exact Oa w _ _
   have K:Kp w T:=by rw[<-z];exact(NQ _).alloc _
   have v:=JE (JN V K);have d0:=V.cell 0;have d1:=V.cell 1;simp only[JT,JS,JU] at d0 d1;rw[z];clear V K z;have ag:=JE (Od HS.out v.out.2);go_loop [3] (λi=>∃ k:Nat,k<=N/\i=.int .i64 (k:Int)/\(∀ c,c<k->(am p.step c).pub.length<=40/\(am p.step c).fors.length<=20/\∀ j,j<(am p.step c).fors.length->(aH (am p.step c).fors j).half.length<=40/\(aH (am p.step c).fors j).b.length<=100)) (λi=>(N - (intOf i).toNat))
   case atStart=>exact⟨0,JW _,rfl,λt h=>by omega⟩
   case round=>
    obtain⟨k,C,rfl,a⟩:=hrel;have G:=JE a;clear a;by_cases o:k<N
    ·obtain⟨gs,os,cs,pv,qv,e1,_,c0,c1,rp,Y⟩:=dl.node (i:=k) ag.out (by rw[HN.out];exact o)
     rw[HN.out] at e1;simp only[JR] at e1;obtain⟨rfl,_,rfl⟩:=e1;have i1:IntKind.i64.wrap ((k:Int)+1)=(k:Int)+1:=JI _ (by omega);have i3:(k:Int)<(N:Int):=by omega
     obtain⟨a7,b7,rfl,r1,r2⟩:=rp.shape;obtain⟨a8,b8,rfl,r3,r4⟩:=Ob Y;have RF:=JE Y;have H3:=JE (l.out k o);have H4:=JE (g.out k o);have X:=JE (λj=>f.out k j o);have W:=JE (λj=>d.out k j o);have r:Hid ((am p.step k).pub.length<=40->(am p.step k).fors.length<=20->(∀ j,j<(am p.step k).fors.length->(aH (am p.step k).fors j).half.length<=40/\(aH (am p.step k).fors j).b.length<=100)->∀ c,c<k+1->(am p.step c).pub.length<=40/\(am p.step c).fors.length<=20/\∀ j,j<(am p.step c).fors.length->(aH (am p.step c).fors j).half.length<=40/\(aH (am p.step c).fors j).b.length<=100):=λO M h3 c ad=>by
      rcases Kh (Kr.1 ad) with F|F
      ·exact G.out c F
      ·rw[F];exact⟨O,M,h3⟩
     generalize (am p.step k).fors=B at *;generalize (am p.step k).pub.length=PL at *;obtain⟨E,A⟩:∃ n,B.length=n:=⟨_,rfl⟩;have S:=JE A;rw[A] at r3 RF H4 X W r;rw[A] at c1;clear Y rp l g f d A;by_cases aa:40<PL
     ·have q:=JE (H3.out aa)
      have k4:(40:Int)<(PL:Int):=by omega
      go_wp2_with fail;go_ret;exact⟨Oi q.out,v.out.2⟩
     ·have k4:¬(40:Int)<(PL:Int):=by omega
      by_cases ab:20<E
      ·have q:=JE (H4.out ab)
       have k5:(20:Int)<(E:Int):=by omega
       go_wp2_with fail;go_ret;exact⟨Oi q.out,v.out.2⟩
      ·have k5:¬(20:Int)<(E:Int):=by omega
       have D:=JE (r.out (by omega) (by omega));clear r H3 H4 G;go_wp2_with fail;go_loop [4] (λi=>∃ j:Nat,j<=E/\i=.int .i64 (j:Int)/\(∀ t,t<j->(aH B t).half.length<=40/\(aH B t).b.length<=100)) (λi=>(E - (intOf i).toNat))
       case atStart=>exact⟨0,JW _,rfl,λt h=>by omega⟩
       case round=>
        obtain⟨j,U,rfl,a⟩:=hrel;have R:=JE a;clear a;by_cases m:j<E
        ·obtain⟨ge,oe,ce,hv,bv,e2,_,f0,f1,rh,rb⟩:=EL.node (i:=j) RF.out (by rw[S.out];exact m)
         rw[S.out] at e2;simp only[JR] at e2;obtain⟨rfl,_,rfl⟩:=e2;have i4:IntKind.i64.wrap ((j:Int)+1)=(j:Int)+1:=JI _ (by omega);have i5:(j:Int)<(E:Int):=by omega
         obtain⟨a9,b9,rfl,_,_⟩:=rh.shape;obtain⟨an,al,rfl,_,_⟩:=rb.shape;have ak:=JE (X.out j m);have aj:=JE (W.out j m);have ai:Hid ((aH B j).half.length<=40->(aH B j).b.length<=100->∀ t,t<j+1->(aH B t).half.length<=40/\(aH B t).b.length<=100):=λO M t ht=>by
          rcases Kh (Kr.1 ht) with F|F
          ·exact R.out t F
          ·rw[F];exact⟨O,M⟩
         generalize (aH B j).half.length=HL at *;generalize (aH B j).b.length=BL at *;clear rh rb X W;by_cases Z:40<HL
         ·have q:=JE (ak.out Z)
          have m4:(40:Int)<(HL:Int):=by omega
          go_wp2_with fail;go_ret;exact⟨Oi q.out,v.out.2⟩
         ·have m4:¬(40:Int)<(HL:Int):=by omega
          by_cases I:100<BL
          ·have q:=JE (aj.out I)
           have m5:(100:Int)<(BL:Int):=by omega
           go_wp2_with fail;go_ret;exact⟨Oi q.out,v.out.2⟩
          ·have m5:¬(100:Int)<(BL:Int):=by omega
           have ah:=JE (ai.out (by omega) (by omega));go_wp2_with fail;go_round
           case rel=>exact⟨j+1,by omega,by go_num,ah.out⟩
           case measure=>simp[intOf];omega
        ·obtain rfl:j=E:=by omega
         have q:=JE (D.out R.out);clear D X W;go_wp2_with fail;go_round
         case rel=>exact⟨k+1,by omega,by go_num,q.out⟩
         case measure=>simp[intOf];omega
    ·obtain rfl:k=N:=by omega
     have q:=JE (Q.out G.out);clear l g f d Q;go_wp2_with fail;go_ret;exact⟨aK.yes q.out,v.out.2⟩
theorem tz {p:Pa}(h:ia p):(∀ k j,(aH (am p.step k).fors j).b.length<=1600) /\
  ∀ j,j<p.step.length->(am p.step j).pub.length<=10000/\(am p.step j).fors.length<=10000/\∀ k,k<(am p.step j).fors.length->(aH (am p.step j).fors k).half.length<=10000/\(aH (am p.step j).fors k).b.length<=10000:=by
 obtain⟨g,f,c⟩:=h;refine⟨λk j=>?_,λj a=>⟨by have:=(c j a).1;omega,by have:=(c j a).2.1;omega,λk d=>?_⟩⟩
 ·by_cases d:k<p.step.length
  ·by_cases a:j<(am p.step k).fors.length
   ·have:=(c k d).2.2 j a
    omega
   ·have e:aH (am p.step k).fors j=⟨[],[]⟩:=by unfold aH;rw[JF,Mi (by omega)];rfl
    rw[e];exact JW _
  ·have e:am p.step k=⟨[],[]⟩:=by unfold am;rw[JF,Mi (by omega)];rfl
   rw[e];exact JW _
 ·have:=(c j a).2.2 k d
  omega
theorem Jv (G H vi x y:Value)(t:List Nod)(i me:Int)(own:List Sd)(info:List UInt8)(p:Pa)(w:World)(L:NL w G t)(O:SL w H own)(hi:Rd w vi info)(M:PIn w x y p)(u:Tab w):
  Calls prog 5 #[.agg #[G,.int .i64 i,.int .i64 me,H,vi,x,y]] w (Yes w):=by
 have z:=JE u;clear u;have ar:=JE (λW (e:Kp w W)=>Jp W (z.out.kp e));have A:=JE (λW (e:Kp w W)=>Ee G t 40 W (L.kp e) (by omega));have az:=JE (λW (e:Kp w W)=>Iq H own W (Od O e));have aw:=JE (λW (e:Kp w W)=>Ju x y p W (M.kp e));have av:=JE (λW (e:Kp w W) K (s:aD t K) (hl:jW own)=>IW G H t K me own W (L.kp e) s (Od O e) (by have:=hl.1;omega));have HA:=JE (λW (e:Kp w W) K (s:aD t K) (P:bl t K) (hs:bZ t K me own) (h1:jW own) (h2:ia p) (hl:info.length<=50)=>zC G H vi x y t K i me own info p W (L.kp e) s P (Od O e) (hi.kp e) (M.kp e) hs (by omega) (by have:=h1.1;omega) (tz h2).1 (tz h2).2 (z.out.kp e));have HB:=JE (λW (e:Kp w W) K (s:aD t K) (P:bl t K) (hs:bZ t K me own) (h1:jW own) (h2:ia p) (hl:info.length<=50)=>Js G H vi x y t K i me own info p W (L.kp e) s P (Od O e) (hi.kp e) (M.kp e) hs (by omega) (by have:=h1.1;omega) (tz h2).1);have aH:=JE (λW (t o x y l t' o' x' y' l':Value) (m:Md) (hm:MIn W t o x y l m) (hn:MIn W t' o' x' y' l' m)=>Iu t o x y l t' o' x' y' l' m m W hm hn);obtain⟨a,c,rfl,p1,s1⟩:=L.shape;obtain⟨ao,no,co,rfl⟩:=Oc O;obtain⟨a3,c3,rfl,_,_⟩:=hi.shape;obtain⟨T,J,R,rfl⟩:=aA M.pub;obtain⟨S,I,Q,rfl⟩:=Oc M.step;generalize t.length=N at *;generalize info.length=N3 at *;clear L O hi M p1 s1;obtain⟨w1,r⟩:∃ x,(w.alloc (.cells #[.slice a N c,.int .i64 i,.int .i64 me,.slice ao no co,.slice a3 N3 c3,.slice T J R,.slice S I Q] 55)).alloc (.cells #[.slice T J R,.slice S I Q] 27)=x:=⟨_,rfl⟩;have aB:Hid (Bx w1 (w.heap.size+1) 27 #[.slice T J R,.slice S I Q]):=by
  unfold Hid;have:=Oa (w.alloc (.cells #[.slice a N c,.int .i64 i,.int .i64 me,.slice ao no co,.slice a3 N3 c3,.slice T J R,.slice S I Q] 55)) 27 #[.slice T J R,.slice S I Q];rw[JY] at this;rw[<-r];exact this
 have g:Hid (Kp w w1):=by unfold Hid;rw[<-r];exact((NQ w).alloc _).alloc _
 have F:Hid (∀ W,Kp w1 W->W.cell? ⟨w.heap.size+1,0,none⟩=some (.slice T J R)/\W.cell? ⟨w.heap.size+1,1,none⟩=some (.slice S I Q)):=λW e=>⟨(aB.out.kp e).cell 0,(aB.out.kp e).cell 1⟩
 go_enter func5,ntmps5;go_wp2_with fail;try rw[r]
 clear r;refine(ar.out w1 g.out).mono ?_;rintro _ w2 ⟨rfl,k2⟩;have d:=JE k2;clear k2 ar;go_wp2_with fail;refine(A.out w2 (g.out.trans d.out)).mono ?_;rintro _ w3 ⟨⟨bA,rfl,hA⟩,k3⟩;have d:=JE (d.out.trans k3);clear k3 A;cases bA
 ·clear hA
  have h:=JE (g.out.trans d.out);go_wp2_with fail;go_ret;exact⟨rfl,h.out⟩
 obtain⟨K,s,P⟩:=Jt (hA.1 rfl);have j:=JE (JN s P);clear hA s P;go_wp2_with fail;refine(az.out w3 (g.out.trans d.out)).mono ?_;rintro _ _ ⟨⟨bB,rfl,hB⟩,rfl⟩;clear az;cases bB
 ·clear hB
  have h:=JE (g.out.trans d.out);go_wp2_with fail;go_ret;exact⟨rfl,h.out⟩
 have E:=JE (hB.1 rfl);obtain⟨c0,c1⟩:=F.out w3 d.out;clear hB;go_wp2_with fail;refine(aw.out w3 (g.out.trans d.out)).mono ?_;rintro _ w4 ⟨⟨bC,rfl,hC⟩,k4⟩;have d:=JE (d.out.trans k4);clear k4 aw c0 c1;cases bC
 ·clear hC
  have h:=JE (g.out.trans d.out);go_wp2_with fail;go_ret;exact⟨rfl,h.out⟩
 have au:=JE (hC.1 rfl);clear hC;by_cases q3:N3<=50
 ·have i3:¬(50:Int)<(N3:Int):=by omega
  go_wp2_with fail;refine(av.out w4 (g.out.trans d.out) K j.out.1 E.out).mono ?_;rintro _ w5 ⟨⟨bD,rfl,hD⟩,k5⟩;have d:=JE (d.out.trans k5);clear k5 av;cases bD
  ·clear hD
   have h:=JE (g.out.trans d.out);go_wp2_with fail;go_ret;exact⟨rfl,h.out⟩
  have D:=hD.1 rfl;have aE:=JE (λW e=>HA.out W e K j.out.1 j.out.2 D E.out au.out q3);have aC:=JE (λW e=>HB.out W e K j.out.1 j.out.2 D E.out au.out q3);obtain⟨c0,c1⟩:=F.out w5 d.out;clear hD D HA HB;generalize cM t K i me own info p=aF at *;generalize bT t K i me own info p=E1 at *;go_wp2_with fail;refine(aE.out w5 (g.out.trans d.out)).mono ?_;rintro _ w6 ⟨⟨v,rfl,bV,o1,x1,y1,l1,rfl,C⟩,k6⟩;have d:=JE (d.out.trans k6);have M1:=JE C;obtain⟨b1,e1,g1,rfl⟩:=C.tree.sl;obtain⟨b2,e2,g2,rfl⟩:=Oc C.own;obtain⟨b3,e3,g3,rfl⟩:=aA C.path.pub;obtain⟨b4,e4,g4,rfl⟩:=Oc C.path.step;obtain⟨b5,e5,g5,rfl⟩:=aA C.last;obtain⟨w7,q⟩:∃ x,w6.alloc (.cells #[.slice b1 e1 g1,.slice b2 e2 g2,.slice b3 e3 g3,.slice b4 e4 g4,.slice b5 e5 g5] 47)=x:=⟨_,rfl⟩;have aI:Hid (Bx w7 w6.heap.size 47 #[.slice b1 e1 g1,.slice b2 e2 g2,.slice b3 e3 g3,.slice b4 e4 g4,.slice b5 e5 g5]):=by unfold Hid;rw[<-q];exact Oa w6 _ _
  have K3:Hid (Kp w6 w7):=by unfold Hid;rw[<-q];exact(NQ _).alloc _
  have d:=JE (d.out.trans K3.out);clear k6 C aE c0 c1;obtain⟨c0,c1⟩:=F.out w7 d.out;go_wp2_with fail;try rw[q]
  clear q;refine(aC.out w7 (g.out.trans d.out)).mono ?_;rintro _ w8 ⟨⟨v',rfl,aM,aN,aK,aJ,aO,rfl,B⟩,k8⟩;have d:=JE (d.out.trans k8);have K4:=JE (K3.out.trans k8);have aG:=JE k8;obtain⟨al,ag,aa,rfl⟩:=B.tree.sl;obtain⟨ak,af,Z,rfl⟩:=Oc B.own;obtain⟨aj,ae,Y,rfl⟩:=aA B.path.pub;obtain⟨ai,ad,X,rfl⟩:=Oc B.path.step;obtain⟨ah,ab,V,rfl⟩:=aA B.last;have M2:=JE B;obtain⟨w9,n⟩:∃ x,w8.alloc (.cells #[.slice al ag aa,.slice ak af Z,.slice aj ae Y,.slice ai ad X,.slice ah ab V] 47)=x:=⟨_,rfl⟩;have k:Hid (Bx w9 w8.heap.size 47 #[.slice al ag aa,.slice ak af Z,.slice aj ae Y,.slice ai ad X,.slice ah ab V]):=by unfold Hid;rw[<-n];exact Oa w8 _ _
  have K5:Hid (Kp w8 w9):=by unfold Hid;rw[<-n];exact(NQ _).alloc _
  have d:=JE (d.out.trans K5.out);have f:=aI.out.kp (aG.out.trans K5.out);obtain⟨a0,aq,ap,an,am⟩:_/\_/\_/\_/\_:=⟨f.cell 0,f.cell 1,f.cell 2,f.cell 3,f.cell 4⟩;obtain⟨d0,d1,d2,d3,d4⟩:_/\_/\_/\_/\_:=⟨k.out.cell 0,k.out.cell 1,k.out.cell 2,k.out.cell 3,k.out.cell 4⟩;simp only[JT,JS,JU] at a0 aq ap an am d0 d1 d2 d3 d4;have aP:(E1==E1)=true:=beq_self_eq_true _;clear k8 B aC f c0 c1;go_wp2_with fail;try rw[n]
  clear n;refine(aH.out w9 _ _ _ _ _ _ _ _ _ _ aF (M1.out.kp (K4.out.trans K5.out)) (M2.out.kp K5.out)).mono ?_;rintro _ aL ⟨⟨b,rfl,hb⟩,U⟩;obtain rfl:=hb.2 (by first|rfl|trivial);have h:=JE (g.out.trans (d.out.trans U));clear hb U a0 aq ap an am d0 d1 d2 d3 d4;go_wp2_with fail;go_ret;exact⟨by simp,h.out⟩
 ·have i3:(50:Int)<(N3:Int):=by omega
  have h:=JE (g.out.trans d.out);go_wp2_with fail;go_ret;exact⟨rfl,h.out⟩

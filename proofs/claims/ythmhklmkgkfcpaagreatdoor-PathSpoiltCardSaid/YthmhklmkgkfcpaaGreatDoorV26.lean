import Derived.Test.YthmhklmkgkfcpaaGreatDoorV24
set_option linter.all false
set_option maxHeartbeats 8000000
set_option maxRecDepth 100000
namespace Go.Proofs.YthmhklmkgkfcpaaGreatDoor
open Go.Proofs.Tryz Go.RowKit
variable {A B C:World}{K i m:Nat}{Y:Nat->Prop}{l:List Nat}{t:List Nod}
theorem xR (u:Value)(t:List Nod)(K j q:Nat)(w:World)(P:NL w u t)(z:az t K)(R:j<=K)(Q:q<2 ^ (K - j))(l:(ats t (nd j q)).kind≠0):
  Calls prog 90 #[u,.int .i64 ((nd j q:Nat):Int)] w λe w'=>(∃ r,e=.returned r/\OI 3 w' w.heap.size r (((nd j q:Nat):Int) :: (ats t (nd j q)).un.map (2*·)))/\Kp w w':=by
 have S:=fV;obtain⟨_,s2,Z⟩:=dX z.le R Q;have C:=λi hi=>z.unAt s2 Z i hi
 have O:=z.un_len (nd j q);have M:nd j q<t.length:=by rw[z.len];exact fq R Q
 obtain⟨a,c,rfl,p1,s1⟩:=P.shape;obtain⟨b,aa,rfl,hb,hc⟩:=P.at (nd j q) M;obtain⟨p,uu,h,D⟩:=hc (nd j q) M;have c0:=D.kind;have I:=Lib.hid (λW (hW:Kp w W)=>(D.kp hW).unC);have L:=Lib.hid D.2.un;obtain⟨aq,cq,rfl,u1,u2⟩:=D.2.un.shape;unfold maxLen at u2;have B:=z.small.1;generalize nd j q=X at *;have J:Hid (∀ k,k<(ats t X).un.length->0<=(ats t X).un.getD k 0/\(ats t X).un.getD k 0<=2047):=λk l=>by
  have hg:(ats t X).un.getD k 0=(ats t X).un[k]:=by rw[Iw,Iy l];rfl
  obtain⟨v,e,_,h3⟩:=C _ (Jg l);rw[hg,e];have:=az.lt_of (t:=t) (x:=2*v) (by rw[h3];decide);omega
 have H:Hid (∀ k,k<(ats t X).un.length->((X:Int) :: ((ats t X).un.take (k+1)).map (2*·))=((X:Int) :: ((ats t X).un.take k).map (2*·))++[2*(ats t X).un.getD k 0]):=λk l=>by
  rw[IP l,JZ,Iw,Iy l];rfl
 have f:Hid (((X:Int) :: ((ats t X).un.take (ats t X).un.length).map (2*·))=((X:Int) :: (ats t X).un.map (2*·))):=by unfold Hid;rw[Jz]
 have m:Hid (∀ k,((X:Int) :: ((ats t X).un.take k).map (2*·)).length<=1025):=λk=>by
  rw[Jf,Jl,Ja];omega
 have af:((ats t X).kind==0)=false:=ID.2 l;have ae:((ats t X).kind != 0)=true:=Ki.2 l;obtain⟨N,hN⟩:∃ N,t.length=N:=⟨_,rfl⟩;rw[hN] at p1 M B ⊢;have i2:(X:Int)<(N:Int):=by omega
 have ad:decide ((N:Int)<=(X:Int))=false:=IS (by omega);have ab:¬(N:Int)<=(X:Int):=by omega
 generalize (ats t X).kind=KD at *;generalize (ats t X).un=n at *;obtain⟨U,hU⟩:∃ U,n.length=U:=⟨_,rfl⟩;rw[hU] at I L J H f u1 O;clear P z R Q hc D hN C hU s2 Z hb B;obtain⟨F,T⟩:∃ F:Nat->List Int,F=λk=>((X:Int) :: (n.take k).map (2*·)):=⟨_,rfl⟩
 have G:∀ k,((X:Int) :: (n.take k).map (2*·))=F k:=λk=>by rw[T]
 have y:Hid ([(X:Int)]=F 0):=by unfold Hid;rw[T];rfl
 simp only[G] at H f m;generalize ((X:Int) :: n.map (2*·))=ai at *;clear T G;have c3:=I.out (w.alloc (.cells #[.int .i64 (X:Int)] 3)) ((Kp.refl _).alloc _);go_enter func90,ntmps90;go_wp2_with fail;have s:Hid (OI 3 (w.alloc (.cells #[.int .i64 (X:Int)] 3)) w.heap.size (.slice (some ⟨w.heap.size,0,none⟩) 1 1) (F 0)):=by
  rw[<-y.out];exact RI.lit w 3 #[.int .i64 (X:Int)] [(X:Int)] 1 rfl (by omega) rfl
 go_loopw[5,34] (λv i wr=>∃ k:Nat,k<=U/\i=.int .i64 (k:Int)/\OI 3 wr w.heap.size v (F k)/\Kp w wr) (λ_ i _=>(U - (intOf i).toNat))
 case atStart=>exact⟨0,IO _,rfl,s.out,(Kp.refl _).alloc _⟩
 case round=>
  obtain⟨k,l,rfl,A,d⟩:=hrel;have c3:=I.out wr d;have i1:IntKind.i64.wrap ((k:Int)+1)=(k:Int)+1:=IA _ (by omega);by_cases g:k<U
  ·obtain⟨g1,o1,rfl,_,E⟩:=(L.out.kp d).at k g
   have d1:=E k g;obtain⟨v0,v1⟩:=J.out k g;have Y:=Lib.hid (H.out k g);have ah:=m.out k;have ag:=d.size;have i4:IntKind.i64.wrap (2*n.getD k 0)=2*n.getD k 0:=IA _ (by omega);clear I L J H f m E y s;generalize n.getD k 0=V at *;generalize F k=FK at *;go_wp2_with(at_builtin;refine ga (o:=⟨some 42,_,_,_,_,_⟩) S rfl _ _ rfl w.heap.size _ FK rfl (A.kp ((Kp.refl wr).alloc _)) _ [2*V] rfl (OI.lit1 wr 3 (2*V)) (by simp;omega) (by simp;omega) ?_;intro v5 w5 o5 g5;have k5:Kp w w5:=Kp.grown (d.alloc _) g5 A.own_ge)
   go_roundw
   case rel=>exact⟨k+1,by omega,by go_num,by rw[Y.out];exact o5,k5⟩
   case measure=>simp[intOf];omega
  ·obtain rfl:k=U:=by omega
   rw[f.out] at A;have HO:=Lib.hid (IC A d);obtain⟨a5,n5,c5,rfl⟩:=A.ri.sl;clear A d f H m J y s I L;go_wp2_with fail;go_ret;exact⟨⟨_,rfl,HO.out.1⟩,HO.out.2⟩
theorem FQ (u:Value)(t:List Nod)(K:Nat)(g:az t K):∀ (j q:Nat) (w:World),NL w u t->Tab w->j<=K->q<2 ^ (K - j) ->
  Calls prog 90 #[u,.int .i64 ((nd j q:Nat):Int)] w λe w'=>(∃ r,e=.returned r/\OI 3 w' w.heap.size r (bm t j q))/\Kp w w':=by
 intro j
 induction j with
 | zero=>
  intro q w f n m k
  by_cases l:(ats t (nd 0 q)).kind=0
  ·have e:bm t 0 q=[]:=by unfold bm;rw[if_pos l]
   rw[e]
   have v:nd 0 q<t.length:=by rw[g.len];exact fq m k
   obtain⟨a,c,rfl,p1,s1⟩:=f.shape
   obtain⟨b,F,rfl,I,B⟩:=f.at (nd 0 q) v
   obtain⟨p,uu,h,z⟩:=B (nd 0 q) v
   have L:=z.kind
   rw[l] at L
   have i2:((nd 0 q:Nat):Int)<(t.length:Int):=by omega
   obtain⟨E,y,x⟩:=dX g.le m k
   have d:=Lib.hid (rP ((nd 0 q:Nat):Int) w n)
   have i:=eL y x
   rw[show er ((nd 0 q:Nat):Int)=0 from if_pos i,show chE ((nd 0 q:Nat):Int)=1 from if_pos i] at d
   generalize nd 0 q=X at *
   generalize t.length=N at *
   clear B z f g e I k m i y x E n
   go_enter func90,ntmps90
   go_wp2_with fail
   refine d.out.mono ?_;rintro _ _ ⟨rfl,rfl⟩
   go_wp2_with fail
   go_ret
   exact⟨⟨_,rfl,OI.nil _ _ _⟩,Kp.refl _⟩
  ·have e:bm t 0 q=(((nd 0 q:Nat):Int) :: (ats t (nd 0 q)).un.map (2*·)):=by unfold bm;rw[if_neg l]
   rw[e]
   exact xR u t K 0 q w f g m k l
 | succ j ih=>
  intro q w f n m k
  by_cases l:(ats t (nd (j+1) q)).kind=0
  ·have S:=fV
   have e:bm t (j+1) q=bm t j (2*q)++bm t j (2*q+1):=by
    show(if (ats t (nd (j+1) q)).kind=0 then _ else _)=_
    rw[if_pos l]
   rw[e]
   have e9:K - j=(K - (j+1))+1:=by omega
   have U:=bj (K - (j+1))
   rw[<-e9] at U
   have H1:=Lib.hid (λW (C:Kp w W)=>ih (2*q) W (f.kp C) (n.kp C) (by omega) (by omega))
   have H2:=Lib.hid (λW (C:Kp w W)=>ih (2*q+1) W (f.kp C) (n.kp C) (by omega) (by omega))
   obtain⟨_,y,x⟩:=dX g.le m k
   obtain⟨J,Z,Y⟩:=fN (j:=j) (q:=q) y x
   have d:=Lib.hid (rP ((nd (j+1) q:Nat):Int) w n)
   have s:=Lib.hid (xn ((nd (j+1) q:Nat):Int) w n)
   rw[J,Z] at d
   rw[J,Y] at s
   have A:(bm t j (2*q)).length+(bm t j (2*q+1)).length<=1000000:=by
    have h1:=mU g j (2*q) (by omega) (by omega)
    have h2:=mU g j (2*q+1) (by omega) (by omega)
    have h3:2 ^ (j+1)<=1024:=bY (by have:=g.le;omega)
    omega
   have v:nd (j+1) q<t.length:=by rw[g.len];exact fq m k
   obtain⟨a,c,rfl,p1,s1⟩:=f.shape
   obtain⟨b,F,rfl,I,B⟩:=f.at (nd (j+1) q) v
   obtain⟨p,uu,h,z⟩:=B (nd (j+1) q) v
   have L:=z.kind
   rw[l] at L
   have i2:((nd (j+1) q:Nat):Int)<(t.length:Int):=by omega
   generalize nd (j+1) q=X at *
   generalize nd j (2*q)=XL at *
   generalize nd j (2*q+1)=XR at *
   generalize bm t j (2*q)=O at *
   generalize bm t j (2*q+1)=M at *
   generalize t.length=N at *
   clear B z f g e I k m n e9 U y x J Z Y ih v
   go_enter func90,ntmps90
   go_wp2_with fail
   refine d.out.mono ?_;rintro _ _ ⟨rfl,rfl⟩
   go_wp2_with fail
   refine s.out.mono ?_;rintro _ _ ⟨rfl,rfl⟩
   clear d s
   go_wp2_with fail
   refine(H1.out w (Kp.refl _)).mono ?_;rintro _ w1 ⟨⟨r1,rfl,H⟩,k1⟩
   have Q:=Lib.hid k1
   have P:=Lib.hid H
   obtain⟨x5,n5,c5,rfl⟩:=H.ri.sl
   clear H1 H
   go_wp2_with fail
   refine(H2.out w1 Q.out).mono ?_;rintro _ w2 ⟨⟨r2,rfl,R⟩,D⟩
   have aa:=(Q.out.trans D).size
   go_wp2_with(at_builtin;refine ga (o:=⟨some 63,_,_,_,_,_⟩) S rfl _ _ rfl w.heap.size _ O rfl (P.out.kp D) _ M rfl R.ri A (by omega) ?_;intro v5 w5 G V;have T:Kp w w5:=Kp.grown (Q.out.trans D) V P.out.own_ge)
   have O5:=Lib.hid (IC G T)
   obtain⟨x6,n6,c6,rfl⟩:=G.ri.sl
   clear H2 R D G V T P
   go_wp2_with fail
   go_ret
   exact⟨⟨_,rfl,O5.out.1⟩,O5.out.2⟩
  ·have e:bm t (j+1) q=(((nd (j+1) q:Nat):Int) :: (ats t (nd (j+1) q)).un.map (2*·)):=by
    show(if (ats t (nd (j+1) q)).kind=0 then _ else _)=_
    rw[if_neg l]
   rw[e]
   exact xR u t K (j+1) q w f g m k l
theorem FR (u:Value)(t:List Nod)(K:Nat)(x:Int)(w:World)(b:NL w u t)(d:az t K)(n:Tab w):
  Calls prog 90 #[u,.int .i64 x] w λe w'=>(∃ r,e=.returned r/\OI 3 w' w.heap.size r (gi t x))/\Kp w w':=by
 by_cases k:0<=x
 ·obtain⟨y,rfl⟩:=IR k
  by_cases i:y<t.length
  ·obtain⟨j,q,rfl,g,f⟩:=gL K y (by rw[<-d.len];exact i)
   rw[nX d g f];exact FQ u t K d j q w b n g f
  ·have e:gi t (y:Int)=[]:=if_neg (by omega)
   have m:¬(y:Int)<0:=by omega
   have o:(t.length:Int)<=(y:Int):=by omega
   rw[e];obtain⟨a,c,rfl,p1,l⟩:=b.shape;clear b d e i;go_enter func90,ntmps90;go_wp2_with fail;go_ret;exact⟨⟨_,rfl,OI.nil _ _ _⟩,Kp.refl _⟩
 ·have e:gi t x=[]:=if_neg (λh=>k h.1)
  have m:x<0:=by omega
  rw[e];obtain⟨a,c,rfl,p1,l⟩:=b.shape;clear b d e;go_enter func90,ntmps90;go_wp2_with fail;go_ret;exact⟨⟨_,rfl,OI.nil _ _ _⟩,Kp.refl _⟩
def stpF (t:List Nod)(i k:Nat):Stp:=⟨((nd (k+1) (i / 2 ^ (k+1)):Nat):Int),bX t i k⟩
def cI (t:List Nod)(i m:Nat):List Stp:=(ixS t i m).map (stpF t i)
theorem FU (h:(bX t i m).length=0):cI t i (m+1)=cI t i m:=by
 unfold cI;rw[show ixS t i (m+1)=ixS t i m by rw[ixS];rw[if_pos h]]
theorem FW (h:(bX t i m).length≠0):cI t i (m+1)=cI t i m++[⟨((nd (m+1) (i / 2 ^ (m+1)):Nat):Int),bX t i m⟩]:=by
 unfold cI;rw[show ixS t i (m+1)=ixS t i m++[m] by rw[ixS];rw[if_neg h],JZ];rfl
theorem gI (t:List Nod)(i m:Nat):(cI t i m).length=(ixS t i m).length:=by unfold cI;simp
theorem jU {a:Nat}(h:a<(ixS t i m).length):cW (cI t i m) a=⟨(((aw t i m).getD a 0:Nat):Int),(aT t i m).getD a []⟩:=by
 unfold cW cI aw aT;rw[Iw,Iw,Iw,Jt,Jt,Jt,Iy h];rfl
theorem RN.stepF {v:Value}(h:RN A v l)(f:aj Y A B)(g:bk Y v):RN B v l:=by
 obtain⟨a,c,e,o,n,m,k⟩:=h;subst e;refine⟨a,c,rfl,o,n,m,λx b i d=>?_⟩;have j:=k x b i d;subst b;exact f.cell j (by rw[eN];exact g x _ c rfl (by first|omega|(rw[Jl] at d ⊢;omega)))
theorem aj.then {row:Option Nat}(h:aj Y A B)(g:B.grownBy C row)(c:∀ k,row=some k->A.heap.size<=k\/Y k):aj Y A C:=
 ⟨g.os.trans h.os,g.tape.trans h.tape,g.output.trans h.output,IU h.size g.size,λk b a=>(g.block k (II b h.size) λe=>(c k e.symm).elim (λh=>by omega) a).trans (h.block k b a)⟩
theorem aj.andKp (h:aj Y A B)(k:Kp B C):aj Y A C:=
 ⟨k.os.trans h.os,k.tape.trans h.tape,k.output.trans h.output,IU h.size k.size,λq a b=>(k.block q (II a h.size)).trans (h.block q a b)⟩
structure WIn (w:World)(aa n s:Value)(t:List Nod)(K i:Nat):Prop where
 mk ::
 tree:NL w aa t
 nodes:RN w n (aC K 0 i)
 steps:aH it w s (cI t i K)
theorem WIn.kp {w w':World}{aa n s:Value}(h:WIn w aa n s t K i)(k:Kp w w'):WIn w' aa n s t K i:=⟨h.tree.kp k,h.nodes.kp k,aH.kp h.steps k⟩
theorem pG:(prog.info? 95).map (·.size)=some 4:=by kernel_rfl
theorem xS {l j h:Option Addr}{d c b g f e:Nat}{k:IntKind}{i:Int}:∀ z∈[Value.slice l d g,.int k i,.slice j c f,.slice h b e],z.oneCell'=true:=by
 intro z a;simp only[JP,Lk,or_false] at a;rcases a with rfl|rfl|rfl|rfl <;> rfl
theorem rW (aa:Value)(t:List Nod)(K:Nat)(i:Int)(w:World)(g:NL w aa t)(k:az t K)(f:¬bd t i):
  Calls prog 40 #[aa,.int .i64 i] w λe w'=>e=.returned (.tuple #[.agg #[.slice none 0 0,.int .i64 0,.slice none 0 0,.slice none 0 0],.int .i64 11])/\Kp w w':=by
 have m:=Lib.hid (λW (o:Kp w W)=>nA aa t K i W (g.kp o) k);rw[IS f] at m;obtain⟨a,c,rfl,_,_⟩:=g.shape;generalize t.length=N at *;clear g k f;go_enter func40,ntmps40;go_wp2_with fail;obtain⟨d,b⟩:∃ d,w.alloc (.cells #[.slice none 0 0,.int .i64 0,.slice none 0 0,.slice none 0 0] 95)=d:=⟨_,rfl⟩;have p:Hid (Bx d w.heap.size 95 #[.slice none 0 0,.int .i64 0,.slice none 0 0,.slice none 0 0]):=by unfold Hid;rw[<-b];exact Bx.new w _ _
 have l:Hid (Kp w d):=by unfold Hid;rw[<-b];exact(Kp.refl _).alloc _
 rw[b];clear b;refine(m.out d l.out).mono ?_;rintro _ _ ⟨rfl,rfl⟩;go_wp2_with(refine fv rfl rfl 95 (.tmp 4) (.tmp 16) rfl w.heap.size 95 _ #[.slice none 0 0,.int .i64 0,.slice none 0 0,.slice none 0 0] rfl rfl p.out rfl xS pG ?_;intro q j r h)
 have n:=h w l.out (IB _);refine bodyPost_ret (fY rfl _ _ w.heap.size _ _ (0,0) _ _ rfl j underlying95 rfl pG rfl) rfl ?_;exact⟨rfl,n⟩
theorem pH (aa:Value)(t:List Nod)(K i:Nat)(w:World)(hu:NL w aa t)(z:az t K)(k:(ats t (2*i)).kind=1)(p:Tab w):
  Calls prog 40 #[aa,.int .i64 (i:Int)] w λe w'=>(∃ n s,e=.returned (.tuple #[.agg #[aa,.int .i64 (i:Int),n,s],.int .i64 0])/\WIn w' aa n s t K i)/\Kp w w':=by
 obtain⟨z1,z2,z3⟩:=z.small;have aq:=(z.there_iff i).2 k;have aN:=az.lt_of (t:=t) (x:=2*i) (by rw[k];decide);have hi:i<2 ^ K:=by omega
 have a9:=bY z.le;have a8:=z.le;have HT:=Lib.hid (λW (A:Kp w W)=>nA aa t K (i:Int) W (hu.kp A) z);rw[IY aq] at HT;have ak:=Lib.hid (λW (A:Kp w W)=>xI aa t K i W (hu.kp A) z hi (p.kp A));have M:=Lib.hid (λW (A:Kp w W)=>rV aa t W (hu.kp A) (by omega));rw[(ns z.le z.len).1] at M;have am:=Lib.hid (λW (A:Kp w W)=>FT K 0 i W z.le (IO _) (by simpa using hi) (p.kp A));rw[ep] at am;have O:=Lib.hid (fun(m:Nat) W (A:Kp w W)=>FR aa t K ((nd m (sq (i / 2 ^ m)):Nat):Int) W (hu.kp A) z (p.kp A));have HW:Hid (∀ m,gi t ((nd m (sq (i / 2 ^ m)):Nat):Int)=bX t i m):=λm=>rfl
 have an:=Lib.hid (λm (h:m<K)=>vT (i:=i) h);have al:=Lib.hid (λm (h:m<K)=>rD (i:=i) h);have a0:=Lib.hid (kZ K i);have a5:=Lib.hid (vU K i);have ah:=Lib.hid (λm=>FU (t:=t) (i:=i) (m:=m));have ag:=Lib.hid (λm=>FW (t:=t) (i:=i) (m:=m));have ai:Hid (∀ m,(cI t i m).length<=m):=λm=>by rw[gI];exact jm t i m
 have aY:Hid (cI t i 0=[]):=rfl;have HU:=Lib.hid hu;have i2:IntKind.i64.wrap (2*(i:Int))=((2*i:Nat):Int):=by rw[IA _ (by omega)];omega
 have ab:Hid (∀ W n s,NL W aa t->RN W n (aC K 0 i)->aH it W s (cI t i K)->WIn W aa n s t K i):=λW n s h1 h2 h3=>⟨h1,h2,h3⟩
 generalize aC K 0 i=PT at *;generalize cC K 0 i=CT at *;generalize aQ:cI t i=ST at *;generalize aP:bX t i=WF at *;generalize aR:2 ^ K=L at *;obtain⟨a,c,rfl,p1,s1⟩:=hu.shape;obtain⟨N,hN⟩:∃ N,t.length=N:=⟨_,rfl⟩;rw[hN] at HT ak M O ab HU p1 z1 ⊢;generalize aT:2*i=I2 at *;clear hu z k aq aN hi p aQ aP aR z2 z3 hN aT;go_enter func40,ntmps40;go_wp2_with fail;obtain⟨E,H⟩:∃ E,w.alloc (.cells #[.slice none 0 0,.int .i64 0,.slice none 0 0,.slice none 0 0] 95)=E:=⟨_,rfl⟩;have HB:Hid (Bx E w.heap.size 95 #[.slice none 0 0,.int .i64 0,.slice none 0 0,.slice none 0 0]):=by unfold Hid;rw[<-H];exact Bx.new w _ _
 have K1:Hid (Kp w E):=by unfold Hid;rw[<-H];exact(Kp.refl _).alloc _
 rw[H];clear H;refine(HT.out E K1.out).mono ?_;rintro _ _ ⟨rfl,rfl⟩;go_wp2_with fail;refine(ak.out E K1.out).mono ?_;rintro _ w2 ⟨⟨pv,rfl,o2⟩,k2⟩;obtain⟨ap,cp,e1,p2,s2⟩:=o2.rn.shape;subst e1;rw[a0.out] at o2 p2 ⊢;have O2:=Lib.hid (IC o2 k2);have K2:=Lib.hid (K1.out.trans k2);clear o2 k2 HT ak;go_wp2_with fail;obtain⟨w3,G⟩:∃ w3,w2.alloc (.cells #[.slice a N c,.int .i64 (i:Int),.slice ap K cp,.slice none 0 0] 95)=w3:=⟨_,rfl⟩;have P:Hid (Bx w3 w2.heap.size 95 #[.slice a N c,.int .i64 (i:Int),.slice ap K cp,.slice none 0 0]):=by unfold Hid;rw[<-G];exact Bx.new w2 _ _
 have K3:Hid (Kp w2 w3):=by unfold Hid;rw[<-G];exact(Kp.refl _).alloc _
 rw[G];clear G;refine(M.out w3 (K2.out.trans K3.out)).mono ?_;rintro _ _ ⟨rfl,rfl⟩;go_wp2_with fail;refine(am.out w3 (K2.out.trans K3.out)).mono ?_;rintro _ B ⟨⟨D,rfl,r4⟩,k4⟩;obtain⟨ac,cc,e2,aW,s3⟩:=r4.rn.shape;subst e2;rw[a5.out] at r4 aW ⊢;have R4:=Lib.hid r4;have K4:=Lib.hid k4;have e3:=(P.out.kp k4).cell 2;simp only[IJ,IF,IK] at e3;have y:Hid (w.heap.size<E.heap.size/\E.heap.size<=w2.heap.size/\w2.heap.size<B.heap.size):=⟨(Iz.1 HB.out).1,O2.out.2.size,(Iz.1 (P.out.kp k4)).1⟩;clear r4 k4 M am;go_wp2_with fail;have a1:Hid (bk (λg=>g=w2.heap.size) (.slice ac K cc)):=dU (C:=w3.heap.size) (λg b=>(Jw R4.out g b).1) λg b=>by have:=(Iz.1 P.out).1;omega
 go_loopw[34] (λx wr=>∃ (m:Nat) (J:Option Addr) (F D:Nat),m<=K/\x=.int .i64 (m:Int)/\Bx wr w2.heap.size 95 #[.slice a N c,.int .i64 (i:Int),.slice ap K cp,.slice J F D]/\GZ it 99 (λg=>g=w2.heap.size\/g=w.heap.size) wr B.heap.size (.slice J F D) (ST m)/\Kp w2 wr/\aj (λg=>g=w2.heap.size) B wr) (λx _=>(K - (intOf x).toNat))
 case atStart=>exact⟨0,none,0,0,IO _,rfl,P.out.kp K4.out,by rw[aY.out];exact GZ.nil _ _ _,K3.out.trans K4.out,aj.refl _ _⟩
 case round=>
  obtain⟨m,J,F,D,hm,rfl,aE,aA,ae,U⟩:=hrel;have d:=Lib.hid (IC aE (IC aA (IC ae U)));have KW:=Lib.hid (K2.out.trans ae);clear aE aA ae U;by_cases v:m<K
  ·obtain⟨gp,op,rfl,_,aB⟩:=(O2.out.1.rn.kp d.out.2.2.1).at m v
   obtain⟨gc,oc,rfl,_,aD⟩:=(R4.out.rn.stepF d.out.2.2.2 a1.out).at m v;have c1:=aB m v;have c2:=aD m v;rw[al.out m v] at c1;rw[an.out m v] at c2;have i1:IntKind.i64.wrap ((m:Int)+1)=(m:Int)+1:=IA _ (by omega);have i3:(m:Int)<(K:Int):=by omega
   have HR:=Lib.hid (O.out m wr KW.out);rw[HW.out m] at HR;have a2:=Lib.hid (ai.out m);have aJ:=Lib.hid (ah.out m);have aG:=Lib.hid (ag.out m);have aL:Hid (B.heap.size<=wr.heap.size):=d.out.2.2.2.size;have u:Hid (∀ g,(Value.slice J F D).ownBlock=some g->B.heap.size<=g/\g<wr.heap.size):=λg b=>d.out.2.1.lt g b
   generalize nd (m+1) (i / 2 ^ (m+1))=X at *;generalize nd m (sq (i / 2 ^ m))=Y at *;clear aB aD O an al ah ag ai HW;go_wp2_with fail;refine HR.out.mono ?_;rintro _ w5 ⟨⟨r,rfl,o5⟩,T⟩;have O5:=Lib.hid o5;have K5:=Lib.hid T;have I:=o5.ri;obtain⟨ar,cr,e5,p5,s5⟩:=I.shape;subst e5;generalize WF m=WM at *;by_cases h0:WM.length=0
   ·have aU:¬(0:Int)<(WM.length:Int):=by omega
    have HE:=Lib.hid (aJ.out h0);clear o5 T I HR c1 c2 aG;go_wp2_with fail;go_roundw
    case rel=>exact⟨m+1,J,F,D,by omega,by first|rfl|(rw[i1];rfl),d.out.1.kp K5.out,by rw[HE.out];exact d.out.2.1.kp K5.out,d.out.2.2.1.trans K5.out,d.out.2.2.2.andKp K5.out⟩
    case measure=>simp[intOf];omega
   ·have aU:(0:Int)<(WM.length:Int):=by omega
    have HE:=Lib.hid (aG.out h0);have af:=d.out.1.kp T;have e6:=af.cell 3;simp only[IJ,IF,IK] at e6;have a7:=Lib.hid af;have a3:=Lib.hid (d.out.2.1.kp T);have a4:Hid (it.R (λg=>some g=(Value.slice J F D).ownBlock\/(g=w2.heap.size\/g=w.heap.size)) w5 [.int .i64 (X:Int),.slice ar WM.length cr] ⟨(X:Int),WM⟩):=
     ⟨_,rfl,I,dU (C:=wr.heap.size) (λg b=>(O5.out.lt g b).1) λg b=>b.elim (λh=>(u.out g h.symm).2) λh=>by have:=y.out;have:=aL.out;omega⟩
    have aM:(ST m).length+1<=1000000:=by have:=a2.out;omega
    have aK:Hid (B.heap.size<=w5.heap.size):=IU aL.out T.size;have aX:=Lib.hid (d.out.2.2.1.trans T);have aV:=Lib.hid (d.out.2.2.2.andKp T);clear o5 T I HR c1 c2 aJ h0 af;go_wp2_with(first
     | (at_builtin;refine gQ (S:=it) (Z:=λg=>g=w2.heap.size\/g=w.heap.size) (o:=⟨some 54,_,_,_,_,_⟩) stpK rfl _ _ rfl B.heap.size _ (ST m) rfl (a3.out.kp ((Kp.refl _).alloc _)) _ [_] rfl (SE.litZ (S:=it) 99 a4.out rfl) (by exact aM) (IU aK.out (by simp)) ?_;intro vS Q os gs qs;obtain⟨aS,f,V,rfl⟩:=SE.sl os.gl;have ao:Hid (Bx Q w2.heap.size 95 #[.slice a N c,.int .i64 (i:Int),.slice (some ⟨gp,op,none⟩) K cp,.slice J F D]):=(a7.out.kp ((Kp.refl _).alloc _)).grown gs (λe=>by have:=(u.out _ e.symm).1;have:=y.out;omega);have aI:Hid (Q.there w2.heap.size 3 1):=λq hq=>by { have:=ao.out.there (3+q) (by simp;omega);rwa [JA] at this };have OS:=Lib.hid os;have KS:Hid (Kp w2 Q):=Kp.grown (aX.out.alloc _) gs (λg b=>by have:=(u.out g b).1;have:=y.out;omega);have SS:Hid (aj (λg=>g=w2.heap.size) B Q):=(aV.out.andKp ((Kp.refl _).alloc _)).then gs (λg b=>.inl (u.out g b).1))
     | (refine ng rfl rfl 93 (.tmp 55) (.tmp 54) rfl w2.heap.size 3 (.slice aS f V) rfl rfl rfl aI.out (by kernel_rfl) ?_;intro wt j;obtain rfl:wt=Q.setCells w2.heap.size 3 [.slice aS f V]:=j))
    obtain⟨wt,j⟩:∃ x,Q.setCells w2.heap.size 3 [.slice aS f V]=x:=⟨_,rfl⟩;have l:Q.grownBy wt (some w2.heap.size):=by rw[<-j];exact fP Q w2.heap.size 0 [.slice aS f V] 3
    have aF:Bx wt w2.heap.size 95 #[.slice a N c,.int .i64 (i:Int),.slice (some ⟨gp,op,none⟩) K cp,.slice aS f V]:=by rw[<-j];exact ao.out.set 3 (.slice aS f V)
    have ax:Kp w2 wt:=by rw[<-j];exact KS.out.setCells (IB _) _ _
    have au:aj (λg=>g=w2.heap.size) B wt:=SS.out.then l λg b=>.inr (by cases b;rfl)
    have aw:GZ it 99 (λg=>g=w2.heap.size\/g=w.heap.size) wt B.heap.size (.slice aS f V) (ST (m+1)):=by
     rw[HE.out];exact OS.out.step (Y:=λg=>g=w2.heap.size) ⟨l.os,l.tape,l.output,l.size,λq hq hn=>l.block q hq λe=>hn (by cases e;rfl)⟩ (λg b=>.inl (.inl b)) (λg b e=>by have:=(OS.out.lt g b).1;have:=y.out;omega)
    have HF:=Lib.hid (IC aF (IC aw (IC ax au)));rw[j];clear j l aF ax au aw ao aI OS KS SS;go_wp2_with fail;go_roundw
    case rel=>exact⟨m+1,aS,f,V,by omega,by first|rfl|(rw[i1];rfl),HF.out.1,HF.out.2.1,HF.out.2.2.1,HF.out.2.2.2⟩
    case measure=>simp[intOf];omega
  ·obtain rfl:m=K:=by omega
   have h1:¬(m:Int)<(m:Int):=by omega
   have e4:=d.out.1.cell 0;have e5:=d.out.1.cell 1;have e6:=d.out.1.cell 2;have e7:=d.out.1.cell 3;simp only[IJ,IF,IK] at e4 e5 e6 e7;have a6:Hid (Bx wr w.heap.size 95 #[.slice none 0 0,.int .i64 0,.slice none 0 0,.slice none 0 0]):=HB.out.kp (O2.out.2.trans d.out.2.2.1);clear O an al ah ag ai HW;go_wp2_with(refine fv rfl rfl 95 (.tmp 4) (.tmp 57) rfl w.heap.size 95 _ #[.slice a N c,.int .i64 (i:Int),.slice ap m cp,.slice J F D] rfl rfl a6.out rfl xS pG ?_;intro wq aO gq ay)
   have hk:=ay w KW.out (IB _);have ad:aj (λg=>g=w.heap.size) wr wq:=⟨gq.os,gq.tape,gq.output,gq.size,λq hq hn=>gq.block q hq λe=>hn (by cases e;rfl)⟩;have aZ:=Lib.hid (ab.out wq (.slice ap m cp) (.slice J F D) (HU.out.kp hk) ((O2.out.1.rn.kp d.out.2.2.1).stepF ad (dU (C:=E.heap.size) (λg b=>(Jw O2.out.1 g b).1) λg b=>by have:=y.out;omega))
    ((d.out.2.1.step (Y:=λg=>g=w.heap.size) ad (λg b=>.inl (.inr b)) (λg b e=>by have:=(d.out.2.1.lt g b).1;have:=y.out;omega)).gl))
   have HK:=Lib.hid hk;clear hk ad ay gq;refine bodyPost_ret (fY rfl _ _ w.heap.size _ _ (0,0) _ _ rfl aO underlying95 rfl pG rfl) rfl ?_;exact⟨⟨_,_,rfl,aZ.out⟩,HK.out⟩
theorem FX {k:Nat}(h:k<l.length):l.take (k+1)=l.take k++[l.getD k 0]:=by
 rw[IP h,Iw,Iy h];rfl
theorem FY (aa:Value)(t:List Nod)(K:Nat)(i:Int)(w:World)(E:NL w aa t)(F:az t K)(j:Tab w):
  Calls prog 13 #[aa,.int .i64 i] w λe w'=>(∃ v,e=.returned (.tuple #[v,.int .i64 (dF t i)])/\RN w' v (fD t K i))/\Kp w w':=by
 by_cases b:bd t i
 ·obtain⟨k,rfl,hk,f,af⟩:=iP F b
  have r:dF t (k:Int)=0:=by unfold dF;rw[if_pos b]
  have O:fD t K (k:Int)=aw t k K:=by unfold fD;rw[if_pos b,IM]
  rw[r,O];have l:=Lib.hid (pH aa t K k w E F f j);have C:=Lib.hid (λa (h:a<(ixS t k K).length)=>jU (t:=t) (i:=k) (m:=K) h);obtain⟨ae,ad⟩:=dR t k K;have J:=gI t k K;have ag:=IU (jm t k K) F.le;have u:=Lib.hid (λa (h:a<(aw t k K).length)=>FX h);have Y:Hid ((aw t k K).take (aw t k K).length=aw t k K):=Jz;obtain⟨a,c,rfl,_,_⟩:=E.shape;have R:Hid (∀ W aa n s,WIn W aa n s t K k->aH it W s (cI t k K)):=λW aa n s h=>h.steps
  have T:Hid (∀ W aa n s,WIn W aa n s t K k->RN W n (aC K 0 k)):=λW aa n s h=>h.nodes
  generalize (ixS t k K).length=M at *;rw[ae] at u Y;have B:=Lib.hid J;generalize aw t k K=ST at *;generalize t.length=N at *;clear E F b r O f af ad J j;go_enter func13,ntmps13;go_wp2_with fail;refine l.out.mono ?_;rintro _ G ⟨⟨nv,sv,rfl,z⟩,H⟩;have rs:=R.out _ _ _ _ z;obtain⟨Q,P,rfl,p1,s1⟩:=SE.shape rs;obtain⟨an,nn,cn,rfl⟩:=(T.out _ _ _ _ z).sl;rw[B.out] at p1 rs ⊢;have RS:=Lib.hid rs;have K1:=Lib.hid H;obtain⟨w2,p⟩:∃ w2,G.alloc (.cells #[.slice a N c,.int .i64 (k:Int),.slice an nn cn,.slice Q M P] 95)=w2:=⟨_,rfl⟩;have HB:Hid (Bx w2 G.heap.size 95 #[.slice a N c,.int .i64 (k:Int),.slice an nn cn,.slice Q M P]):=by unfold Hid;rw[<-p];exact Bx.new G _ _
  have K2:Hid (Kp G w2):=by unfold Hid;rw[<-p];exact(Kp.refl _).alloc _
  have U:=Lib.hid p;clear rs H z l R T p;go_wp2_with fail;rw[U.out];clear U;have e3:=HB.out.cell 3;simp only[IJ,IF,IK] at e3;go_wp2_with fail;go_loopw[8,23] (λx y wr=>∃ m:Nat,m<=M/\y=.int .i64 (m:Int)/\GZ shN 3 noB wr w2.heap.size x (ST.take m)/\Kp w2 wr) (λ_ y _=>(M - (intOf y).toNat))
  case atStart=>exact⟨0,IO _,rfl,by rw[Lq];exact GZ.nil _ _ _,Kp.refl _⟩
  case round=>
   obtain⟨m,hm,rfl,d,L⟩:=hrel;have D:=Lib.hid (IC d L);obtain⟨ax,nx,cx,rfl⟩:=SE.sl d.gl;clear d L;by_cases A:m<M
   ·obtain⟨gs,os,cs,q,r,_,c0,c1,rq⟩:=aH.sp (i:=m) (aH.kp RS.out (K2.out.trans D.out.2)) (by rw[B.out];exact A)
    rw[B.out] at r;simp only[IG] at r;obtain⟨rfl,_,rfl⟩:=r;obtain⟨aq,nq,cq,rfl⟩:=rq.sl;rw[C.out m A] at c0;dsimp only at c0
    have V:=Lib.hid (u.out m A);have i1:IntKind.i64.wrap ((m:Int)+1)=(m:Int)+1:=IA _ (by omega);have i3:(m:Int)<(M:Int):=by omega
    have I:(ST.take m).length+1<=1000000:=by rw[Ja];omega
    obtain⟨X,hX⟩:∃ x,ST.getD m 0=x:=⟨_,rfl⟩;rw[hX] at c0 V;have ab:Hid (SE shN (λg=>some g=(Value.slice ax nx cx).ownBlock\/noB g) ((wr.alloc (.cells #[.int .i64 (X:Int),.slice aq nq cq] 99)).alloc (.cells #[.int .i64 (X:Int)] 3)) (.slice (some ⟨wr.heap.size+1,0,none⟩) 1 1) [X]):=by
     have h9:SE shN (λg=>some g=(Value.slice ax nx cx).ownBlock\/noB g) ((wr.alloc (.cells #[.int .i64 (X:Int),.slice aq nq cq] 99)).alloc (.cells #[.int .i64 (X:Int)] 3)) _ [X]:=SE.litZ (S:=shN) (w:=wr.alloc (.cells #[.int .i64 (X:Int),.slice aq nq cq] 99)) 3 rfl rfl;rwa [IQ] at h9
    clear rq hX C u;go_wp2_with(at_builtin;go_loud (refine gQ (S:=shN) (Z:=noB) (o:=⟨some 31,_,_,_,_,_⟩) nK rfl _ _ rfl w2.heap.size _ (ST.take m) rfl (D.out.1.kp (((Kp.refl _).alloc _).alloc _)) _ [X] rfl ab.out (by exact I) (IU D.out.2.size (by simp;omega)) ?_;intro v5 w5 o5 g5 _;have k5:Hid (Kp w2 w5):=Kp.grown ((D.out.2.alloc _).alloc _) g5 (λk hk=>(D.out.1.lt k hk).1)))
    rw[<-V.out] at o5;go_roundw
    case rel=>exact⟨m+1,by omega,by first|rfl|(rw[i1];rfl),o5,k5.out⟩
    case measure=>simp[intOf];omega
   ·obtain rfl:m=M:=by omega
    have h1:¬(m:Int)<(m:Int):=by omega
    have d:=D.out.1;rw[Y.out] at d;have HE:=Lib.hid (IC d.gl.rn (K1.out.trans (K2.out.trans D.out.2)));clear d C u;go_wp2_with fail;go_ret2;exact⟨⟨_,rfl,HE.out.1⟩,HE.out.2⟩
 ·have r:dF t i=11:=by unfold dF;rw[if_neg b]
  have O:fD t K i=[]:=by unfold fD;rw[if_neg b]
  rw[r,O];have l:=Lib.hid (rW aa t K i w E F b);obtain⟨a,c,rfl,_,_⟩:=E.shape;generalize t.length=N at *;clear E F b r O j;go_enter func13,ntmps13;go_wp2_with fail;refine l.out.mono ?_;rintro _ G ⟨rfl,H⟩;have K1:=Lib.hid H;clear H l;go_wp2_with fail;go_ret2;exact⟨⟨_,rfl,RN.nil _⟩,K1.out.alloc _⟩
theorem Hi (aa n s x y:Value)(t:List Nod)(K i:Nat)(p:Pa)(w:World)(U:WIn w aa n s t K i)(hp:PIn w x y p):
  Calls prog 68 #[.agg #[aa,.int .i64 (i:Int),n,s],.agg #[x,y]] w λe w'=>aL e (fb (aT t i K) p)/\Kp w w':=by
 have ah:=Lib.hid U.steps;have HS:=Lib.hid hp.step;obtain⟨aj,X⟩:=dR t i K;have G:=gI t i K;have u:=Lib.hid (λa (h:a<(ixS t i K).length)=>jU (t:=t) (i:=i) (m:=K) h);obtain⟨au,nu,cu,rfl⟩:=U.tree.sl;obtain⟨an,nn,cn,rfl⟩:=U.nodes.sl;obtain⟨af,ae,rfl,q5,q6⟩:=SE.shape U.steps;obtain⟨ap,cp,rfl,q1,q2⟩:=hp.pub.shape;obtain⟨a6,c6,rfl,q3,q4⟩:=SE.shape hp.step;unfold maxLen at q6;generalize aT t i K=who at *;have g:Hid (p.step.length≠who.length->¬fb who p):=λh e=>h e.1
 have D:Hid (p.pub.length≠32->¬fb who p):=λh e=>h e.2.1
 have f:Hid (∀ k,k<who.length->(am p.step k).fors.length≠(jQ who k).length->¬fb who p):=λk hk h e=>h (e.2.2 k hk).1
 have d:Hid (∀ k,k<who.length->(am p.step k).pub.length≠32->¬fb who p):=λk hk h e=>h (e.2.2 k hk).2
 have O:Hid (p.step.length=who.length->p.pub.length=32->(∀ k,k<who.length->(am p.step k).fors.length=(jQ who k).length/\(am p.step k).pub.length=32)->fb who p):=λh1 h2 h3=>⟨h1,h2,h3⟩
 generalize fb who p=P at *;generalize p.pub.length=L at *;generalize p.step=A at *;obtain⟨M,hM⟩:∃ N,A.length=N:=⟨_,rfl⟩;generalize (ixS t i K).length=N at *;have HM:=Lib.hid hM;have ai:=Lib.hid G;rw[G] at q5 ah ⊢;rw[X] at g f d O;rw[hM] at q3 g O HS ⊢;generalize cI t i K=SP at *;generalize aw t i K=ST at *;clear U hp hM aj X G;by_cases ad:L=32
 ·subst ad
  by_cases ab:M=N
  ·subst ab
   have ag:=Lib.hid (O.out rfl rfl);clear g D O;go_enter func68,ntmps68;go_wp2_with fail;obtain⟨R,B⟩:∃ R,(w.alloc (.cells #[.slice au nu cu,.int .i64 (i:Int),.slice an nn cn,.slice af M ae] 95)).alloc (.cells #[.slice ap 32 cp,.slice a6 M c6] 27)=R:=⟨_,rfl⟩;have HB:Hid (Bx R w.heap.size 95 #[.slice au nu cu,.int .i64 (i:Int),.slice an nn cn,.slice af M ae]):=by unfold Hid;rw[<-B];exact(Bx.new w _ _).kp ((Kp.refl _).alloc _)
   have K1:Hid (Kp w R):=by unfold Hid;rw[<-B];exact((Kp.refl _).alloc _).alloc _
   rw[B];clear B;go_loopw[23] (λi wr=>∃ k:Nat,k<=M/\i=.int .i64 (k:Int)/\(∀ j,j<k->(am A j).fors.length=(jQ who j).length/\(am A j).pub.length=32)/\Kp R wr) (λi _=>(M - (intOf i).toNat))
   case atStart=>exact⟨0,IO _,rfl,λt h=>by omega,Kp.refl _⟩
   case round=>
    obtain⟨k,hk,rfl,E,Y⟩:=hrel;have C:=Lib.hid E;have J:=Lib.hid Y;clear E Y;by_cases q:k<M
    ·obtain⟨gs,os,cs,pv,qv,e1,_,V⟩:=eG.nodeK (i:=k) HS.out (by rw[HM.out];exact q)
     obtain⟨c0,c1,rp,rf⟩:=V wr (K1.out.trans J.out);obtain⟨gu,ou,ao,qu,e2,_,c3,c2,rw⟩:=aH.sp (i:=k) (aH.kp ah.out (K1.out.trans J.out)) (by rw[ai.out];exact q);rw[HM.out] at e1;rw[ai.out] at e2;simp only[IG] at e1 e2;obtain⟨rfl,_,rfl⟩:=e1;obtain⟨rfl,_,rfl⟩:=e2;rw[u.out k q] at rw;have T:RI wr qu (jQ who k):=rw;have i1:IntKind.i64.wrap ((k:Int)+1)=(k:Int)+1:=IA _ (by omega);have i3:(k:Int)<(M:Int):=by omega
     obtain⟨a7,b7,rfl,r1,r2⟩:=rp.shape;obtain⟨a8,b8,rfl,r3,r4⟩:=SE.shape rf;obtain⟨a9,b9,rfl,r5,r6⟩:=T.shape;have H3:=Lib.hid (f.out k q);have H4:=Lib.hid (d.out k q);have c:Hid ((am A k).fors.length=(jQ who k).length->(am A k).pub.length=32->∀ j,j<k+1->(am A j).fors.length=(jQ who j).length/\(am A j).pub.length=32):=λh1 h2 j ak=>by
      rcases Jc (Jn.1 ak) with h6|h6
      ·exact C.out j h6
      ·rw[h6];exact⟨h1,h2⟩
     generalize (am A k).fors.length=Q at *;generalize (jQ who k).length=WN at *;generalize (am A k).pub.length=I at *;clear rf rp rw T f d C r1 r3 r5 V u;go_wp2_with fail;obtain⟨wb,z⟩:∃ x,wr.alloc (.cells #[.slice a7 I b7,.slice a8 Q b8] 74)=x:=⟨_,rfl⟩;have H:Bx wb wr.heap.size 74 #[.slice a7 I b7,.slice a8 Q b8]:=by rw[<-z];exact Bx.new wr _ _
     have KB:Hid (Kp wr wb):=by unfold Hid;rw[<-z];exact(Kp.refl _).alloc _
     rw[z];have e4:=H.cell 0;have e5:=H.cell 1;have e6:=(HB.out.kp (J.out.trans KB.out)).cell 3;have e7:=KB.out.cell c2;simp only[IJ,IF,IK] at e4 e5 e6;clear H z c0 c1 c2 c3;by_cases Z:I=32
     ·subst Z
      by_cases hF:Q=WN
      ·subst hF
       have r:=Lib.hid (c.out rfl rfl);clear c H3 H4;go_region
       go_wp2_with fail;go_roundw
       case rel=>exact⟨k+1,by omega,by first|rfl|(rw[i1];rfl),r.out,(J.out.trans KB.out).drew⟩
       case measure=>simp[intOf];omega
      ·have r:=Lib.hid (H3.out hF)
       have F:((Q:Int)==(WN:Int))=false:=ID.2 (by omega);have o:((Q:Int) != (WN:Int))=true:=Ki.2 (by omega);have l:¬(Q:Int)=(WN:Int):=by omega
       clear c H3 H4;go_region
       go_wp2_with fail;go_ret;exact⟨aL.no r.out,((K1.out.trans J.out).trans KB.out).drew⟩
     ·have r:=Lib.hid (H4.out Z)
      have F:((I:Int)==32)=false:=ID.2 (by omega);have o:((I:Int) != 32)=true:=Ki.2 (by omega);have l:¬(I:Int)=32:=by omega
      clear c H3 H4 e5 e6 e7;refine wp_region_held_drew (S:=λW=>W.cell? ⟨wr.heap.size,0,none⟩=some (.slice a7 I b7)) (by kernel_rfl) (e4) (λal=>?_);refine wpAnyH_take (i:=0) (oi:=⟨some 28,_,_,_,_,_⟩) (v:=?_) rfl (by kernel_rfl) (by kernel_rfl) (by kernel_rfl) (λ_ _ _ h=>h) (Or.inl ⟨by kernel_rfl,?_⟩) (by assumption) ?_;rotate_left;focus ((intro w b;(try dsimp only at b);go_simp);(try with_reducible rfl);done)
      simp only[Act.put,IT,Je,Jj];refine wpAnyH_take (i:=1) (oi:=⟨some 29,_,_,_,_,_⟩) (v:=?_) rfl (by kernel_rfl) (by kernel_rfl) (by kernel_rfl) (λ_ _ _ h=>h) (Or.inl ⟨by kernel_rfl,?_⟩) (by assumption) ?_;rotate_left;focus ((intro w b;(try dsimp only at b);go_simp);(try with_reducible rfl);done)
      simp only[Act.put,IT,Je,Jj];refine wpAnyH_take (i:=2) (oi:=⟨some 30,_,_,_,_,_⟩) (v:=?_) rfl (by kernel_rfl) (by kernel_rfl) (by kernel_rfl) (λ_ _ _ h=>h) (Or.inl ⟨by kernel_rfl,?_⟩) (by assumption) ?_;rotate_left;focus ((intro w b;(try dsimp only at b);go_simp);(try with_reducible rfl);done)
      simp only[Act.put,IT,Je,Jj];refine wpAnyH_take (i:=3) (oi:=⟨some 31,_,_,_,_,_⟩) (v:=?_) rfl (by kernel_rfl) (by kernel_rfl) (by kernel_rfl) (λ_ _ _ h=>h) (Or.inl ⟨by kernel_rfl,?_⟩) (by assumption) ?_;rotate_left;focus ((intro w b;(try dsimp only at b);go_simp);(try with_reducible rfl);done)
      simp only[Act.put,IT,Je,Jj];refine wpAnyH_take (i:=4) (oi:=⟨some 32,_,_,_,_,_⟩) (v:=?_) rfl (by kernel_rfl) (by kernel_rfl) (by kernel_rfl) (λ_ _ _ h=>h) (Or.inl ⟨by kernel_rfl,?_⟩) (by assumption) ?_;rotate_left;focus ((intro w b;(try dsimp only at b);go_simp);(try with_reducible rfl);done)
      simp only[Act.put,IT,Je,Jj];refine wpAnyH_take (i:=5) (oi:=⟨some 33,_,_,_,_,_⟩) (v:=undef) rfl (by kernel_rfl) (by kernel_rfl) (by kernel_rfl) (λ_ _ _ h=>h) (Mf ⟨by kernel_rfl,rfl⟩) (by assumption) ?_;simp only[Act.put,IT,Je,Jj];refine wpAnyH_take (i:=6) (oi:=⟨some 34,_,_,_,_,_⟩) (v:=undef) rfl (by kernel_rfl) (by kernel_rfl) (by kernel_rfl) (λ_ _ _ h=>h) (Mf ⟨by kernel_rfl,rfl⟩) (by assumption) ?_;simp only[Act.put,IT,Je,Jj];refine wpAnyH_take (i:=7) (oi:=⟨some 35,_,_,_,_,_⟩) (v:=undef) rfl (by kernel_rfl) (by kernel_rfl) (by kernel_rfl) (λ_ _ _ h=>h) (Mf ⟨by kernel_rfl,rfl⟩) (by assumption) ?_;simp only[Act.put,IT,Je,Jj];refine wpAnyH_take (i:=8) (oi:=⟨some 36,_,_,_,_,_⟩) (v:=undef) rfl (by kernel_rfl) (by kernel_rfl) (by kernel_rfl) (λ_ _ _ h=>h) (Mf ⟨by kernel_rfl,rfl⟩) (by assumption) ?_;simp only[Act.put,IT,Je,Jj];refine wpAnyH_take (i:=9) (oi:=⟨some 37,_,_,_,_,_⟩) (v:=undef) rfl (by kernel_rfl) (by kernel_rfl) (by kernel_rfl) (λ_ _ _ h=>h) (Mf ⟨by kernel_rfl,rfl⟩) (by assumption) ?_;simp only[Act.put,IT,Je,Jj];refine wpAnyH_take (i:=10) (oi:=⟨some 38,_,_,_,_,_⟩) (v:=undef) rfl (by kernel_rfl) (by kernel_rfl) (by kernel_rfl) (λ_ _ _ h=>h) (Mf ⟨by kernel_rfl,rfl⟩) (by assumption) ?_;simp only[Act.put,IT,Je,Jj];refine wpAnyH_take (i:=11) (oi:=⟨some 39,_,_,_,_,_⟩) (v:=undef) rfl (by kernel_rfl) (by kernel_rfl) (by kernel_rfl) (λ_ _ _ h=>h) (Mf ⟨by kernel_rfl,rfl⟩) (by assumption) ?_;simp only[Act.put,IT,Je,Jj];refine wpAnyH_take (i:=12) (oi:=⟨some 40,_,_,_,_,_⟩) (v:=undef) rfl (by kernel_rfl) (by kernel_rfl) (by kernel_rfl) (λ_ _ _ h=>h) (Mf ⟨by kernel_rfl,rfl⟩) (by assumption) ?_;simp only[Act.put,IT,Je,Jj];refine wpAnyH_take (i:=13) (oi:=⟨some 41,_,_,_,_,_⟩) (v:=undef) rfl (by kernel_rfl) (by kernel_rfl) (by kernel_rfl) (λ_ _ _ h=>h) (Mf ⟨by kernel_rfl,rfl⟩) (by assumption) ?_;simp only[Act.put,IT,Je,Jj];refine wpAnyH_take (i:=14) (oi:=⟨some 42,_,_,_,_,_⟩) (v:=undef) rfl (by kernel_rfl) (by kernel_rfl) (by kernel_rfl) (λ_ _ _ h=>h) (Mf ⟨by kernel_rfl,rfl⟩) (by assumption) ?_;simp only[Act.put,IT,Je,Jj];refine wpAnyH_take (i:=15) (oi:=⟨some 43,_,_,_,_,_⟩) (v:=undef) rfl (by kernel_rfl) (by kernel_rfl) (by kernel_rfl) (λ_ _ _ h=>h) (Mf ⟨by kernel_rfl,rfl⟩) (by assumption) ?_;simp only[Act.put,IT,Je,Jj];refine wpAnyH_take (i:=16) (oi:=⟨some 44,_,_,_,_,_⟩) (v:=?_) rfl (by kernel_rfl) (by kernel_rfl) (by kernel_rfl) (λ_ _ _ h=>h) (Or.inl ⟨by kernel_rfl,?_⟩) (by assumption) ?_;rotate_left;focus ((intro w b;(try dsimp only at b);go_simp);(try with_reducible rfl);done)
      simp only[Act.put,IT,Je,Jj];refine wpAnyH_done (by kernel_rfl) ?_ _;go_wp2_with fail;go_ret;exact⟨aL.no r.out,((K1.out.trans J.out).trans KB.out).drew⟩
    ·obtain rfl:k=M:=by omega
     have h1:¬(k:Int)<(k:Int):=by omega
     have r:=Lib.hid (ag.out C.out);clear ag C f d u;go_wp2_with fail;go_ret;exact⟨aL.yes r.out,K1.out.trans J.out⟩
  ·have r:=Lib.hid (g.out ab)
   have F:((M:Int)==(N:Int))=false:=ID.2 (by omega);have o:((M:Int) != (N:Int))=true:=Ki.2 (by omega);have l:¬(M:Int)=(N:Int):=by omega
   clear g D f d O u;go_enter func68,ntmps68;go_wp2_with fail;go_ret;exact⟨aL.no r.out,((Kp.refl _).alloc _).alloc _⟩
 ·have r:=Lib.hid (D.out ad)
  have F:((L:Int)==32)=false:=ID.2 (by omega);have o:((L:Int) != 32)=true:=Ki.2 (by omega);have l:¬(L:Int)=32:=by omega
  clear g D f d O u;go_enter func68,ntmps68;go_wp2_with fail;go_ret;exact⟨aL.no r.out,((Kp.refl _).alloc _).alloc _⟩
theorem Hj (x me:Int)(q:Value)(c:List Int)(g:Nat)(w:World)(l:RI w q c)(m:w.cell? ⟨g,0,none⟩=some (.int .i64 me))(k:-9223372036854775808<=x/\x<=9223372036854775807)(o:Tab w):
  Calls prog 118 #[.agg #[.int .i64 x,q],.pointer (some ⟨g,0,none⟩)] w λe w'=>aL e (loV x<=me/\me<=hiV x)/\Kp w w':=by
 have t:=Lib.hid (λW (f:Kp w W)=>Fq x W k (o.kp f));obtain⟨a,n,z,rfl⟩:=l.sl;have u:Hid (∀ W,Kp w W->W.cell? ⟨g,0,none⟩=some (.int .i64 me)):=λW f=>f.cell m
 generalize loV x=s at *;generalize hiV x=i at *;clear l m k o;go_enter func118,ntmps118;go_wp2_with fail;refine(t.out _ ((Kp.refl _).alloc _)).mono ?_;rintro _ w2 ⟨rfl,j⟩;have b:Hid (Kp w w2):=((Kp.refl _).alloc _).trans j;have y:=u.out w2 b.out;clear j t u;by_cases r:s<=me
 ·by_cases p:me<=i
  ·go_wp2_with fail
   go_ret;exact⟨aL.yes ⟨r,p⟩,b.out⟩
  ·have d:Hid (¬me<=i):=p
   go_wp2_with fail;go_ret;exact⟨by first|exact aL.no (λh=>d.out h.2)|exact⟨_,rfl,λh=>absurd (JU h) (by have v:=d.out;omega),λh=>IY h.2⟩,b.out⟩
 ·have d:Hid (¬(s<=me/\me<=i)):=λh=>r h.1
  go_wp2_with fail;go_ret;exact⟨aL.no d.out,b.out⟩
def lu (l:List Stp)(P:Stp->Prop)(r:Int):Prop:=(∃ k:Nat,r=(k:Int)/\k<l.length/\P (cW l k)/\∀ j,j<k->¬P (cW l j))\/(r = -1/\∀ k,k<l.length->¬P (cW l k))
theorem Hk (aa:Value)(l:List Stp)(me:Int)(g:Nat)(w:World)(C:aH it w aa l)(O:w.cell? ⟨g,0,none⟩=some (.int .i64 me))(M:∀ k,k<l.length->-9223372036854775808<=(cW l k).node/\(cW l k).node<=9223372036854775807)(R:Tab w):
  Calls prog 117 #[aa,.func (.func 118) #[] #[.pointer (some ⟨g,0,none⟩)]] w λe w'=>(∃ r,e=.returned (.int .i64 r)/\lu l (λs=>loV s.node<=me/\me<=hiV s.node) r)/\Kp w w':=by
 obtain⟨a,c,rfl,p1,U⟩:=SE.shape C;unfold maxLen at U;have T:=Lib.hid C;have u:=Lib.hid (λW (Q:Kp w W) k (o:k<l.length) (q:Value) (hq:RI W q (cW l k).cover)=>Hj (cW l k).node me q (cW l k).cover g W hq (Q.cell O) (M k o) (R.kp Q));obtain⟨p,x⟩:∃ P:Nat->Prop,P=λk=>loV (cW l k).node<=me/\me<=hiV (cW l k).node:=⟨_,rfl⟩
 have d:∀ k,(loV (cW l k).node<=me/\me<=hiV (cW l k).node)=p k:=λk=>by rw[x]
 have A:Hid (∀ k:Nat,k<l.length->p k->(∀ j,j<k->¬p j)->lu l (λs=>loV s.node<=me/\me<=hiV s.node) (k:Int)):=λk o h D=>.inl ⟨k,rfl,o,(d k).mpr h,λj E h=>D j E ((d j).mp h)⟩
 have J:Hid ((∀ k,k<l.length->¬p k)->lu l (λs=>loV s.node<=me/\me<=hiV s.node) (-1)):=λh=>.inr ⟨rfl,λk o D=>h k o ((d k).mp D)⟩
 simp only[d] at u;generalize lu l (λs=>loV s.node<=me/\me<=hiV s.node)=FI at *;obtain⟨N,F⟩:∃ N,l.length=N:=⟨_,rfl⟩;have y:=Lib.hid F;rw[F] at T u A J p1 ⊢;clear C F O M R x d;go_enter func117,ntmps117;go_wp2_with fail;go_loopw[8] (λi wr=>∃ k:Nat,k<=N/\i=.int .i64 (k:Int)/\(∀ j,j<k->¬p j)/\Kp w wr) (λi _=>(N - (intOf i).toNat))
 case atStart=>exact⟨0,IO _,rfl,λt h=>by omega,Kp.refl _⟩
 case round=>
  obtain⟨k,o,rfl,f,v⟩:=hrel;have n:=Lib.hid f;have z:=Lib.hid v;clear f v;by_cases m:k<N
  ·obtain⟨gs,os,cs,q,H,_,c0,c1,B⟩:=aH.sp (i:=k) (aH.kp T.out z.out) (by rw[y.out];exact m)
   rw[y.out] at H;simp only[IG] at H;obtain⟨rfl,_,rfl⟩:=H;have K:=Lib.hid (u.out wr z.out k m q B);obtain⟨aq,nq,cq,rfl⟩:=B.sl;have I:=Lib.hid (A.out k m);have Z:IntKind.i64.wrap ((k:Int)+1)=(k:Int)+1:=IA _ (by omega);have Y:(k:Int)<(N:Int):=by omega
   generalize (cW l k).node=X at *;clear B u A;go_wp2_with(go_at_call 118;refine K.out.mono ?_;rintro _ w4 ⟨⟨b,rfl,hb⟩,V⟩;have S:=Lib.hid (z.out.trans V);have L:=Lib.hid hb;cases b)
   ·have HP:Hid (∀ j,j<k+1->¬p j):=λj E=>by
     rcases Jc (Jn.1 E) with G|G
     ·exact n.out j G
     ·rw[G]
      intro h;have h5:=L.out.2 h;simp at h5
    go_roundw
    case rel=>exact⟨k+1,by omega,by first|rfl|(rw[Z];rfl),HP.out,S.out⟩
    case measure=>simp[intOf];omega
   ·go_ret
    exact⟨⟨_,rfl,I.out (by first|exact L.out.1 rfl|exact L.out.1 trivial) n.out⟩,S.out⟩
  ·obtain rfl:k=N:=by omega
   have u:=Lib.hid (J.out n.out);have Y:¬(k:Int)<(k:Int):=by omega
   clear J A;go_wp2_with fail;go_ret;exact⟨⟨_,rfl,u.out⟩,z.out⟩
theorem Hl {me:Nat}{own:List Sd}(b:az t K)(p:(ats t (2*i)).kind=1)(d:i≠me)(v:bL t K (me:Int) own){r:Int}
  (h:lu (cI t i K) (λs=>loV s.node<=(me:Int)/\(me:Int)<=hiV s.node) r):r=(kM t i me:Int):=by
 have l:=(b.there_iff me).1 v.1;have z:=b.len2;have m:i<2 ^ K:=by have:=az.lt_of (t:=t) (x:=2*i) (by rw[p];decide);omega
 have o:me<2 ^ K:=by have:=az.lt_of (t:=t) (x:=2*me) (by rw[l];decide);omega
 obtain⟨C,B,_,_⟩:=jP b.le m o d;obtain⟨y,E,D⟩:=mO b m l o d v;have u:=Lg E;obtain⟨n,_,_,_⟩:=mQ (K:=K) ⟨C,B⟩ u;have f:∀ a,a<(ixS t i K).length->((loV (cW (cI t i K) a).node<=(me:Int)/\(me:Int)<=hiV (cW (cI t i K) a).node)↔kM t i me<=a):=λa H=>by
  have c:=Iy H;obtain⟨k,q⟩:∃ k,(ixS t i K)[a]=k:=⟨_,rfl⟩;rw[q] at c;rw[<-Di b.le m o d u c];have G:k<K:=((kX t i K k).1 (JT c)).1;have e:(cW (cI t i K) a).node=((nd (k+1) (i / 2 ^ (k+1)):Nat):Int):=by
   unfold cW cI;rw[Iw,Jt,c];rfl
  rw[e];have A:=b.le;have j:nd (k+1) (i / 2 ^ (k+1))<=2046:=by
   have w:=ec m (dQ (t:=t) (x:=nd (k+1) (i / 2 ^ (k+1))) (by
    unfold aw;exact Ju.2 ⟨k,JT c,rfl⟩))
   have F:=bY b.le;have I:=b.len;omega
  have g:okN ((nd (k+1) (i / 2 ^ (k+1)):Nat):Int):=⟨by omega,by omega⟩;unfold loV hiV;rw[if_pos g,if_pos g,IM,fJ _ _ (by omega),kd _ _ (by omega),<-pO];have:=bC (k+1);omega
 rcases h with⟨k,rfl,c,hp,hpre⟩|⟨rfl,hn⟩
 ·rw[gI] at c
  have L:=(f k c).1 hp;have J:¬kM t i me<k:=λj=>hpre _ j ((f _ n).2 (IB _))
  omega
 ·exact absurd ((f _ n).2 (IB _)) (hn _ (by rw[gI];exact n))
theorem Hm (aa n s:Value)(t:List Nod)(K i me:Nat)(own:List Sd)(w:World)(c:WIn w aa n s t K i)(f:az t K)(b:(ats t (2*i)).kind=1)(d:i≠me)(p:bL t K (me:Int) own)(z:Tab w):
  Calls prog 69 #[.agg #[aa,.int .i64 (i:Int),n,s],.int .i64 (me:Int)] w λe w'=>e=.returned (.int .i64 (kM t i me:Int))/\Kp w w':=by
 have a:∀ k,k<(cI t i K).length->-9223372036854775808<=(cW (cI t i K) k).node/\(cW (cI t i K) k).node<=9223372036854775807:=λk u=>by
  rw[gI] at u;rw[jU u];have q:=f.len2;have E:=bY f.le;have G:i<2 ^ K:=by have:=az.lt_of (t:=t) (x:=2*i) (by rw[b];decide);omega
  have P:=(dR t i K).1;have F:(aw t i K).getD k 0∈aw t i K:=by rw[Iw,Iy (by omega)];exact Jg _
  have Q:=ec G (dQ F);dsimp only
  omega
 have B:=Lib.hid (λW (y:Kp w W) g (H:W.cell? ⟨g,0,none⟩=some (.int .i64 (me:Int)))=>Hk s (cI t i K) (me:Int) g W (aH.kp c.steps y) H a (z.kp y));have A:=Lib.hid (λr h=>Hl (r:=r) f b d p h);obtain⟨L,C,I,rfl⟩:=c.tree.sl;obtain⟨M,D,J,rfl⟩:=c.nodes.sl;obtain⟨m,j,l,rfl⟩:=SE.sl c.steps;generalize lu (cI t i K) (λs=>loV s.node<=(me:Int)/\(me:Int)<=hiV s.node)=R at *;generalize kM t i me=N at *;clear c f b d p z a;go_enter func69,ntmps69;go_wp2_with fail;refine(B.out _ (((Kp.refl _).alloc _).alloc _) (w.heap.size+1) (by
  have:=(Bx.new (w.alloc (.cells #[.slice L C I,.int .i64 (i:Int),.slice M D J,.slice m j l] 95)) 3 #[.int .i64 (me:Int)]).cell 0;rw[IQ] at this;exact this)).mono ?_;rintro _ w2 ⟨⟨r,rfl,v⟩,o⟩
 obtain rfl:=A.out r v;have O:Hid (Kp w w2):=(((Kp.refl _).alloc _).alloc _).trans o;clear v o B A;go_wp2_with fail;go_ret;exact⟨rfl,O.out⟩

import Derived.Test.YthmhklmkgkfcpaaGreatDoorX21
set_option linter.all false
set_option maxHeartbeats 8000000
set_option maxRecDepth 100000
namespace Go.Proofs.YthmhklmkgkfcpaaGreatDoor
open Go.Proofs.Tryz Go.RowKit
variable {A B C:World}{K i m:Nat}{Y:Nat->Prop}{l:List Nat}{t:List Nod}
theorem yO (u:Value)(t:List Nod)(K j q:Nat)(w:World)(P:NL w u t)(z:aD t K)(R:j<=K)(Q:q<2 ^ (K - j))(l:(ats t (nd j q)).kind≠0):
  Calls prog 90 #[u,.int .i64 ((nd j q:Nat):Int)] w λe w'=>(∃ r,e=.returned r/\OI 3 w' w.heap.size r (((nd j q:Nat):Int) :: (ats t (nd j q)).un.map (2*·)))/\Kp w w':=by
 have S:=gx;obtain⟨_,s2,Z⟩:=ec z.le R Q;have C:=λi hi=>z.unAt s2 Z i hi
 have O:=z.un_len (nd j q);have M:nd j q<t.length:=by rw[z.len];exact fU R Q
 obtain⟨a,c,rfl,p1,s1⟩:=P.shape;obtain⟨b,aa,rfl,hb,hc⟩:=P.at (nd j q) M;obtain⟨p,uu,h,D⟩:=hc (nd j q) M;have c0:=D.kind;have I:=JE (λW (hW:Kp w W)=>(D.kp hW).unC);have L:=JE D.2.un;obtain⟨aq,cq,rfl,u1,u2⟩:=D.2.un.shape;unfold maxLen at u2;have B:=z.small.1;generalize nd j q=X at *;have J:Hid (∀ k,k<(ats t X).un.length->0<=(ats t X).un.getD k 0/\(ats t X).un.getD k 0<=2047):=λk l=>by
  have hg:(ats t X).un.getD k 0=(ats t X).un[k]:=by rw[JF,JG l];rfl
  obtain⟨v,e,_,h3⟩:=C _ (Ko l);rw[hg,e];have:=Oe (t:=t) (x:=2*v) (by rw[h3];decide);omega
 have H:Hid (∀ k,k<(ats t X).un.length->((X:Int) :: ((ats t X).un.take (k+1)).map (2*·))=((X:Int) :: ((ats t X).un.take k).map (2*·))++[2*(ats t X).un.getD k 0]):=λk l=>by
  rw[JZ l,LL,JF,JG l];rfl
 have f:Hid (((X:Int) :: ((ats t X).un.take (ats t X).un.length).map (2*·))=((X:Int) :: (ats t X).un.map (2*·))):=by unfold Hid;rw[Kz]
 have m:Hid (∀ k,((X:Int) :: ((ats t X).un.take k).map (2*·)).length<=1025):=λk=>by
  rw[Ka,Kw,Ki];omega
 have af:((ats t X).kind==0)=false:=JL.2 l;have ae:((ats t X).kind != 0)=true:=Lt.2 l;obtain⟨N,hN⟩:∃ N,t.length=N:=⟨_,rfl⟩;rw[hN] at p1 M B ⊢;have i2:(X:Int)<(N:Int):=by omega
 have ad:decide ((N:Int)<=(X:Int))=false:=Kb (by omega);have ab:¬(N:Int)<=(X:Int):=by omega
 generalize (ats t X).kind=KD at *;generalize (ats t X).un=n at *;obtain⟨U,hU⟩:∃ U,n.length=U:=⟨_,rfl⟩;rw[hU] at I L J H f u1 O;clear P z R Q hc D hN C hU s2 Z hb B;obtain⟨F,T⟩:∃ F:Nat->List Int,F=λk=>((X:Int) :: (n.take k).map (2*·)):=⟨_,rfl⟩
 have G:∀ k,((X:Int) :: (n.take k).map (2*·))=F k:=λk=>by rw[T]
 have y:Hid ([(X:Int)]=F 0):=by unfold Hid;rw[T];rfl
 simp only[G] at H f m;generalize ((X:Int) :: n.map (2*·))=ai at *;clear T G;have c3:=I.out (w.alloc (.cells #[.int .i64 (X:Int)] 3)) ((NQ _).alloc _);go_enter func90,ntmps90;go_wp2_with fail;have s:Hid (OI 3 (w.alloc (.cells #[.int .i64 (X:Int)] 3)) w.heap.size (.slice (some ⟨w.heap.size,0,none⟩) 1 1) (F 0)):=by
  rw[<-y.out];exact RI.lit w 3 #[.int .i64 (X:Int)] [(X:Int)] 1 rfl (by omega) rfl
 go_loopw[5,34] (λv i wr=>∃ k:Nat,k<=U/\i=.int .i64 (k:Int)/\OI 3 wr w.heap.size v (F k)/\Kp w wr) (λ_ i _=>(U - (intOf i).toNat))
 case atStart=>exact⟨0,JW _,rfl,s.out,(NQ _).alloc _⟩
 case round=>
  obtain⟨k,l,rfl,A,d⟩:=hrel;have c3:=I.out wr d;have i1:IntKind.i64.wrap ((k:Int)+1)=(k:Int)+1:=JI _ (by omega);by_cases g:k<U
  ·obtain⟨g1,o1,rfl,_,E⟩:=(L.out.kp d).at k g
   have d1:=E k g;obtain⟨v0,v1⟩:=J.out k g;have Y:=JE (H.out k g);have ah:=m.out k;have ag:=d.size;have i4:IntKind.i64.wrap (2*n.getD k 0)=2*n.getD k 0:=JI _ (by omega);clear I L J H f m E y s;generalize n.getD k 0=V at *;generalize F k=FK at *;go_wp2_with(at_builtin;refine gG (o:=⟨some 42,_,_,_,_,_⟩) S rfl _ _ rfl w.heap.size _ FK rfl (A.kp ((NQ wr).alloc _)) _ [2*V] rfl (OI.lit1 wr 3 (2*V)) (by simp;omega) (by simp;omega) ?_;intro v5 w5 o5 g5;have k5:Kp w w5:=NS (d.alloc _) g5 A.own_ge)
   go_roundw
   case rel=>exact⟨k+1,by omega,by go_num,by rw[Y.out];exact o5,k5⟩
   case measure=>simp[intOf];omega
  ·obtain rfl:k=U:=by omega
   rw[f.out] at A;have HO:=JE (JN A d);obtain⟨a5,n5,c5,rfl⟩:=A.ri.sl;clear A d f H m J y s I L;go_wp2_with fail;go_ret;exact⟨⟨_,rfl,HO.out.1⟩,HO.out.2⟩
theorem Gv (u:Value)(t:List Nod)(K:Nat)(g:aD t K):∀ (j q:Nat) (w:World),NL w u t->Tab w->j<=K->q<2 ^ (K - j) ->
  Calls prog 90 #[u,.int .i64 ((nd j q:Nat):Int)] w λe w'=>(∃ r,e=.returned r/\OI 3 w' w.heap.size r (bt t j q))/\Kp w w':=by
 intro j
 induction j with
 | zero=>
  intro q w f n m k
  by_cases l:(ats t (nd 0 q)).kind=0
  ·have e:bt t 0 q=[]:=by unfold bt;rw[if_pos l]
   rw[e]
   have v:nd 0 q<t.length:=by rw[g.len];exact fU m k
   obtain⟨a,c,rfl,p1,s1⟩:=f.shape
   obtain⟨b,F,rfl,I,B⟩:=f.at (nd 0 q) v
   obtain⟨p,uu,h,z⟩:=B (nd 0 q) v
   have L:=z.kind
   rw[l] at L
   have i2:((nd 0 q:Nat):Int)<(t.length:Int):=by omega
   obtain⟨E,y,x⟩:=ec g.le m k
   have d:=JE (sL ((nd 0 q:Nat):Int) w n)
   have i:=fw y x
   rw[show fc ((nd 0 q:Nat):Int)=0 from if_pos i,show chE ((nd 0 q:Nat):Int)=1 from if_pos i] at d
   generalize nd 0 q=X at *
   generalize t.length=N at *
   clear B z f g e I k m i y x E n
   go_enter func90,ntmps90
   go_wp2_with fail
   refine d.out.mono ?_;rintro _ _ ⟨rfl,rfl⟩
   go_wp2_with fail
   go_ret
   exact⟨⟨_,rfl,OI.nil _ _ _⟩,NQ _⟩
  ·have e:bt t 0 q=(((nd 0 q:Nat):Int) :: (ats t (nd 0 q)).un.map (2*·)):=by unfold bt;rw[if_neg l]
   rw[e]
   exact yO u t K 0 q w f g m k l
 | succ j ih=>
  intro q w f n m k
  by_cases l:(ats t (nd (j+1) q)).kind=0
  ·have S:=gx
   have e:bt t (j+1) q=bt t j (2*q)++bt t j (2*q+1):=by
    show(if (ats t (nd (j+1) q)).kind=0 then _ else _)=_
    rw[if_pos l]
   rw[e]
   have e9:K - j=(K - (j+1))+1:=by omega
   have U:=bi (K - (j+1))
   rw[<-e9] at U
   have H1:=JE (λW (C:Kp w W)=>ih (2*q) W (f.kp C) (n.kp C) (by omega) (by omega))
   have H2:=JE (λW (C:Kp w W)=>ih (2*q+1) W (f.kp C) (n.kp C) (by omega) (by omega))
   obtain⟨_,y,x⟩:=ec g.le m k
   obtain⟨J,Z,Y⟩:=fK (j:=j) (q:=q) y x
   have d:=JE (sL ((nd (j+1) q:Nat):Int) w n)
   have s:=JE (xN ((nd (j+1) q:Nat):Int) w n)
   rw[J,Z] at d
   rw[J,Y] at s
   have A:(bt t j (2*q)).length+(bt t j (2*q+1)).length<=1000000:=by
    have h1:=nW g j (2*q) (by omega) (by omega)
    have h2:=nW g j (2*q+1) (by omega) (by omega)
    have h3:2 ^ (j+1)<=1024:=bP (by have:=g.le;omega)
    omega
   have v:nd (j+1) q<t.length:=by rw[g.len];exact fU m k
   obtain⟨a,c,rfl,p1,s1⟩:=f.shape
   obtain⟨b,F,rfl,I,B⟩:=f.at (nd (j+1) q) v
   obtain⟨p,uu,h,z⟩:=B (nd (j+1) q) v
   have L:=z.kind
   rw[l] at L
   have i2:((nd (j+1) q:Nat):Int)<(t.length:Int):=by omega
   generalize nd (j+1) q=X at *
   generalize nd j (2*q)=XL at *
   generalize nd j (2*q+1)=XR at *
   generalize bt t j (2*q)=O at *
   generalize bt t j (2*q+1)=M at *
   generalize t.length=N at *
   clear B z f g e I k m n e9 U y x J Z Y ih v
   go_enter func90,ntmps90
   go_wp2_with fail
   refine d.out.mono ?_;rintro _ _ ⟨rfl,rfl⟩
   go_wp2_with fail
   refine s.out.mono ?_;rintro _ _ ⟨rfl,rfl⟩
   clear d s
   go_wp2_with fail
   refine(H1.out w (NQ _)).mono ?_;rintro _ w1 ⟨⟨r1,rfl,H⟩,k1⟩
   have Q:=JE k1
   have P:=JE H
   obtain⟨x5,n5,c5,rfl⟩:=H.ri.sl
   clear H1 H
   go_wp2_with fail
   refine(H2.out w1 Q.out).mono ?_;rintro _ w2 ⟨⟨r2,rfl,R⟩,D⟩
   have aa:=(Q.out.trans D).size
   go_wp2_with(at_builtin;refine gG (o:=⟨some 63,_,_,_,_,_⟩) S rfl _ _ rfl w.heap.size _ O rfl (P.out.kp D) _ M rfl R.ri A (by omega) ?_;intro v5 w5 G V;have T:Kp w w5:=NS (Q.out.trans D) V P.out.own_ge)
   have O5:=JE (JN G T)
   obtain⟨x6,n6,c6,rfl⟩:=G.ri.sl
   clear H2 R D G V T P
   go_wp2_with fail
   go_ret
   exact⟨⟨_,rfl,O5.out.1⟩,O5.out.2⟩
  ·have e:bt t (j+1) q=(((nd (j+1) q:Nat):Int) :: (ats t (nd (j+1) q)).un.map (2*·)):=by
    show(if (ats t (nd (j+1) q)).kind=0 then _ else _)=_
    rw[if_neg l]
   rw[e]
   exact yO u t K (j+1) q w f g m k l
theorem Gw (u:Value)(t:List Nod)(K:Nat)(x:Int)(w:World)(b:NL w u t)(d:aD t K)(n:Tab w):
  Calls prog 90 #[u,.int .i64 x] w λe w'=>(∃ r,e=.returned r/\OI 3 w' w.heap.size r (ii t x))/\Kp w w':=by
 by_cases k:0<=x
 ·obtain⟨y,rfl⟩:=Kc k
  by_cases i:y<t.length
  ·obtain⟨j,q,rfl,g,f⟩:=iE K y (by rw[<-d.len];exact i)
   rw[oR d g f];exact Gv u t K d j q w b n g f
  ·have e:ii t (y:Int)=[]:=if_neg (by omega)
   have m:¬(y:Int)<0:=by omega
   have o:(t.length:Int)<=(y:Int):=by omega
   rw[e];obtain⟨a,c,rfl,p1,l⟩:=b.shape;clear b d e i;go_enter func90,ntmps90;go_wp2_with fail;go_ret;exact⟨⟨_,rfl,OI.nil _ _ _⟩,NQ _⟩
 ·have e:ii t x=[]:=if_neg (λh=>k h.1)
  have m:x<0:=by omega
  rw[e];obtain⟨a,c,rfl,p1,l⟩:=b.shape;clear b d e;go_enter func90,ntmps90;go_wp2_with fail;go_ret;exact⟨⟨_,rfl,OI.nil _ _ _⟩,NQ _⟩
def stpF (t:List Nod)(i k:Nat):Stp:=⟨((nd (k+1) (i / 2 ^ (k+1)):Nat):Int),cK t i k⟩
def dg (t:List Nod)(i m:Nat):List Stp:=(ixS t i m).map (stpF t i)
theorem Gy (h:(cK t i m).length=0):dg t i (m+1)=dg t i m:=by
 unfold dg;rw[show ixS t i (m+1)=ixS t i m by rw[ixS];rw[if_pos h]]
theorem Gz (h:(cK t i m).length≠0):dg t i (m+1)=dg t i m++[⟨((nd (m+1) (i / 2 ^ (m+1)):Nat):Int),cK t i m⟩]:=by
 unfold dg;rw[show ixS t i (m+1)=ixS t i m++[m] by rw[ixS];rw[if_neg h],LL];rfl
theorem iB (t:List Nod)(i m:Nat):(dg t i m).length=(ixS t i m).length:=by unfold dg;simp
theorem kP {a:Nat}(h:a<(ixS t i m).length):dA (dg t i m) a=⟨(((aC t i m).getD a 0:Nat):Int),(aT t i m).getD a []⟩:=by
 unfold dA dg aC aT;rw[JF,JF,JF,KX,KX,KX,JG h];rfl
theorem RN.stepF {v:Value}(h:RN A v l)(f:az Y A B)(g:br Y v):RN B v l:=by
 obtain⟨a,c,e,o,n,m,k⟩:=h;subst e;refine⟨a,c,rfl,o,n,m,λx b i d=>?_⟩;have j:=k x b i d;subst b;exact f.cell j (by rw[fx];exact g x _ c rfl (by first|omega|(rw[Kw] at d ⊢;omega)))
theorem az.then {row:Option Nat}(h:az Y A B)(g:B.grownBy C row)(c:∀ k,row=some k->A.heap.size<=k\/Y k):az Y A C:=
 ⟨g.os.trans h.os,g.tape.trans h.tape,g.output.trans h.output,Kd h.size g.size,λk b a=>(g.block k (JV b h.size) λe=>(c k e.symm).elim (λh=>by omega) a).trans (h.block k b a)⟩
theorem az.andKp (h:az Y A B)(k:Kp B C):az Y A C:=
 ⟨k.os.trans h.os,k.tape.trans h.tape,k.output.trans h.output,Kd h.size k.size,λq a b=>(k.block q (JV a h.size)).trans (h.block q a b)⟩
structure WIn (w:World)(aa n s:Value)(t:List Nod)(K i:Nat):Prop where
 mk ::
 tree:NL w aa t
 nodes:RN w n (aL K 0 i)
 steps:aJ ja w s (dg t i K)
theorem WIn.kp {w w':World}{aa n s:Value}(h:WIn w aa n s t K i)(k:Kp w w'):WIn w' aa n s t K i:=⟨h.tree.kp k,h.nodes.kp k,Od h.steps k⟩
theorem qz:(prog.info? 95).map (·.size)=some 4:=by kernel_rfl
theorem yP {l j h:Option Addr}{d c b g f e:Nat}{k:IntKind}{i:Int}:∀ z∈[Value.slice l d g,.int k i,.slice j c f,.slice h b e],z.oneCell'=true:=by
 intro z a;simp only[Lu,Mw,or_false] at a;rcases a with rfl|rfl|rfl|rfl <;> rfl
theorem td (aa:Value)(t:List Nod)(K:Nat)(i:Int)(w:World)(g:NL w aa t)(k:aD t K)(f:¬bc t i):
  Calls prog 40 #[aa,.int .i64 i] w λe w'=>e=.returned (.tuple #[.agg #[.slice none 0 0,.int .i64 0,.slice none 0 0,.slice none 0 0],.int .i64 11])/\Kp w w':=by
 have m:=JE (λW (o:Kp w W)=>ot aa t K i W (g.kp o) k);rw[Kb f] at m;obtain⟨a,c,rfl,_,_⟩:=g.shape;generalize t.length=N at *;clear g k f;go_enter func40,ntmps40;go_wp2_with fail;obtain⟨d,b⟩:∃ d,w.alloc (.cells #[.slice none 0 0,.int .i64 0,.slice none 0 0,.slice none 0 0] 95)=d:=⟨_,rfl⟩;have p:Hid (Bx d w.heap.size 95 #[.slice none 0 0,.int .i64 0,.slice none 0 0,.slice none 0 0]):=by unfold Hid;rw[<-b];exact Oa w _ _
 have l:Hid (Kp w d):=by unfold Hid;rw[<-b];exact(NQ _).alloc _
 rw[b];clear b;refine(m.out d l.out).mono ?_;rintro _ _ ⟨rfl,rfl⟩;go_wp2_with(refine eR rfl rfl 95 (.tmp 4) (.tmp 16) rfl w.heap.size 95 _ #[.slice none 0 0,.int .i64 0,.slice none 0 0,.slice none 0 0] rfl rfl p.out rfl yP qz ?_;intro q j r h)
 have n:=h w l.out (JO _);refine bodyPost_ret (eZ rfl _ _ w.heap.size _ _ (0,0) _ _ rfl j underlying95 rfl qz rfl) rfl ?_;exact⟨rfl,n⟩
theorem qA (aa:Value)(t:List Nod)(K i:Nat)(w:World)(hu:NL w aa t)(z:aD t K)(k:(ats t (2*i)).kind=1)(p:Tab w):
  Calls prog 40 #[aa,.int .i64 (i:Int)] w λe w'=>(∃ n s,e=.returned (.tuple #[.agg #[aa,.int .i64 (i:Int),n,s],.int .i64 0])/\WIn w' aa n s t K i)/\Kp w w':=by
 obtain⟨z1,z2,z3⟩:=z.small;have ao:=(z.there_iff i).2 k;have aN:=Oe (t:=t) (x:=2*i) (by rw[k];decide);have hi:i<2 ^ K:=by omega
 have a9:=bP z.le;have a8:=z.le;have HT:=JE (λW (A:Kp w W)=>ot aa t K (i:Int) W (hu.kp A) z);rw[Ke ao] at HT;have aj:=JE (λW (A:Kp w W)=>yC aa t K i W (hu.kp A) z hi (p.kp A));have M:=JE (λW (A:Kp w W)=>ta aa t W (hu.kp A) (by omega));rw[(nY z.le z.len).1] at M;have al:=JE (λW (A:Kp w W)=>Gx K 0 i W z.le (JW _) (by simpa using hi) (p.kp A));rw[eF] at al;have O:=JE (fun(m:Nat) W (A:Kp w W)=>Gw aa t K ((nd m (sq (i / 2 ^ m)):Nat):Int) W (hu.kp A) z (p.kp A));have HW:Hid (∀ m,ii t ((nd m (sq (i / 2 ^ m)):Nat):Int)=cK t i m):=λm=>rfl
 have am:=JE (λm (h:m<K)=>yK (i:=i) h);have ak:=JE (λm (h:m<K)=>tb (i:=i) h);have a0:=JE (mi K i);have a5:=JE (yL K i);have ah:=JE (λm=>Gy (t:=t) (i:=i) (m:=m));have ag:=JE (λm=>Gz (t:=t) (i:=i) (m:=m));have ai:Hid (∀ m,(dg t i m).length<=m):=λm=>by rw[iB];exact kC t i m
 have aY:Hid (dg t i 0=[]):=rfl;have HU:=JE hu;have i2:IntKind.i64.wrap (2*(i:Int))=((2*i:Nat):Int):=by rw[JI _ (by omega)];omega
 have ab:Hid (∀ W n s,NL W aa t->RN W n (aL K 0 i)->aJ ja W s (dg t i K)->WIn W aa n s t K i):=λW n s h1 h2 h3=>⟨h1,h2,h3⟩
 generalize aL K 0 i=PT at *;generalize cZ K 0 i=CT at *;generalize aQ:dg t i=ST at *;generalize aP:cK t i=WF at *;generalize aR:2 ^ K=L at *;obtain⟨a,c,rfl,p1,s1⟩:=hu.shape;obtain⟨N,hN⟩:∃ N,t.length=N:=⟨_,rfl⟩;rw[hN] at HT aj M O ab HU p1 z1 ⊢;generalize aT:2*i=I2 at *;clear hu z k ao aN hi p aQ aP aR z2 z3 hN aT;go_enter func40,ntmps40;go_wp2_with fail;obtain⟨E,H⟩:∃ E,w.alloc (.cells #[.slice none 0 0,.int .i64 0,.slice none 0 0,.slice none 0 0] 95)=E:=⟨_,rfl⟩;have HB:Hid (Bx E w.heap.size 95 #[.slice none 0 0,.int .i64 0,.slice none 0 0,.slice none 0 0]):=by unfold Hid;rw[<-H];exact Oa w _ _
 have K1:Hid (Kp w E):=by unfold Hid;rw[<-H];exact(NQ _).alloc _
 rw[H];clear H;refine(HT.out E K1.out).mono ?_;rintro _ _ ⟨rfl,rfl⟩;go_wp2_with fail;refine(aj.out E K1.out).mono ?_;rintro _ w2 ⟨⟨pv,rfl,o2⟩,k2⟩;obtain⟨ap,cp,e1,p2,s2⟩:=o2.rn.shape;subst e1;rw[a0.out] at o2 p2 ⊢;have O2:=JE (JN o2 k2);have K2:=JE (K1.out.trans k2);clear o2 k2 HT aj;go_wp2_with fail;obtain⟨w3,G⟩:∃ w3,w2.alloc (.cells #[.slice a N c,.int .i64 (i:Int),.slice ap K cp,.slice none 0 0] 95)=w3:=⟨_,rfl⟩;have P:Hid (Bx w3 w2.heap.size 95 #[.slice a N c,.int .i64 (i:Int),.slice ap K cp,.slice none 0 0]):=by unfold Hid;rw[<-G];exact Oa w2 _ _
 have K3:Hid (Kp w2 w3):=by unfold Hid;rw[<-G];exact(NQ _).alloc _
 rw[G];clear G;refine(M.out w3 (K2.out.trans K3.out)).mono ?_;rintro _ _ ⟨rfl,rfl⟩;go_wp2_with fail;refine(al.out w3 (K2.out.trans K3.out)).mono ?_;rintro _ B ⟨⟨D,rfl,r4⟩,k4⟩;obtain⟨ac,cc,e2,aV,s3⟩:=r4.rn.shape;subst e2;rw[a5.out] at r4 aV ⊢;have R4:=JE r4;have K4:=JE k4;have e3:=(P.out.kp k4).cell 2;simp only[JT,JS,JU] at e3;have y:Hid (w.heap.size<E.heap.size/\E.heap.size<=w2.heap.size/\w2.heap.size<B.heap.size):=⟨(JK.1 HB.out).1,O2.out.2.size,(JK.1 (P.out.kp k4)).1⟩;clear r4 k4 M al;go_wp2_with fail;have a1:Hid (br (λg=>g=w2.heap.size) (.slice ac K cc)):=dZ (C:=w3.heap.size) (λg b=>(KU R4.out g b).1) λg b=>by have:=(JK.1 P.out).1;omega
 go_loopw[34] (λx wr=>∃ (m:Nat) (J:Option Addr) (F D:Nat),m<=K/\x=.int .i64 (m:Int)/\Bx wr w2.heap.size 95 #[.slice a N c,.int .i64 (i:Int),.slice ap K cp,.slice J F D]/\GZ ja 99 (λg=>g=w2.heap.size\/g=w.heap.size) wr B.heap.size (.slice J F D) (ST m)/\Kp w2 wr/\az (λg=>g=w2.heap.size) B wr) (λx _=>(K - (intOf x).toNat))
 case atStart=>exact⟨0,none,0,0,JW _,rfl,P.out.kp K4.out,by rw[aY.out];exact GZ.nil _ _ _,K3.out.trans K4.out,NU _ _⟩
 case round=>
  obtain⟨m,J,F,D,hm,rfl,aC,ay,ae,U⟩:=hrel;have d:=JE (JN aC (JN ay (JN ae U)));have KW:=JE (K2.out.trans ae);clear aC ay ae U;by_cases v:m<K
  ·obtain⟨gp,op,rfl,_,aA⟩:=(O2.out.1.rn.kp d.out.2.2.1).at m v
   obtain⟨gc,oc,rfl,_,aB⟩:=(R4.out.rn.stepF d.out.2.2.2 a1.out).at m v;have c1:=aA m v;have c2:=aB m v;rw[ak.out m v] at c1;rw[am.out m v] at c2;have i1:IntKind.i64.wrap ((m:Int)+1)=(m:Int)+1:=JI _ (by omega);have i3:(m:Int)<(K:Int):=by omega
   have HR:=JE (O.out m wr KW.out);rw[HW.out m] at HR;have a2:=JE (ai.out m);have aH:=JE (ah.out m);have aF:=JE (ag.out m);have aK:Hid (B.heap.size<=wr.heap.size):=d.out.2.2.2.size;have u:Hid (∀ g,(Value.slice J F D).ownBlock=some g->B.heap.size<=g/\g<wr.heap.size):=λg b=>d.out.2.1.lt g b
   generalize nd (m+1) (i / 2 ^ (m+1))=X at *;generalize nd m (sq (i / 2 ^ m))=Y at *;clear aA aB O am ak ah ag ai HW;go_wp2_with fail;refine HR.out.mono ?_;rintro _ w5 ⟨⟨r,rfl,o5⟩,T⟩;have O5:=JE o5;have K5:=JE T;have I:=o5.ri;obtain⟨ar,cr,e5,p5,s5⟩:=I.shape;subst e5;generalize WF m=WM at *;by_cases h0:WM.length=0
   ·have aU:¬(0:Int)<(WM.length:Int):=by omega
    have HE:=JE (aH.out h0);clear o5 T I HR c1 c2 aF;go_wp2_with fail;go_roundw
    case rel=>exact⟨m+1,J,F,D,by omega,by first|rfl|(rw[i1];rfl),d.out.1.kp K5.out,by rw[HE.out];exact d.out.2.1.kp K5.out,d.out.2.2.1.trans K5.out,d.out.2.2.2.andKp K5.out⟩
    case measure=>simp[intOf];omega
   ·have aU:(0:Int)<(WM.length:Int):=by omega
    have HE:=JE (aF.out h0);have af:=d.out.1.kp T;have e6:=af.cell 3;simp only[JT,JS,JU] at e6;have a7:=JE af;have a3:=JE (d.out.2.1.kp T);have a4:Hid (ja.R (λg=>some g=(Value.slice J F D).ownBlock\/(g=w2.heap.size\/g=w.heap.size)) w5 [.int .i64 (X:Int),.slice ar WM.length cr] ⟨(X:Int),WM⟩):=
     ⟨_,rfl,I,dZ (C:=wr.heap.size) (λg b=>(O5.out.lt g b).1) λg b=>b.elim (λh=>(u.out g h.symm).2) λh=>by have:=y.out;have:=aK.out;omega⟩
    have aM:(ST m).length+1<=1000000:=by have:=a2.out;omega
    have aI:Hid (B.heap.size<=w5.heap.size):=Kd aK.out T.size;have aX:=JE (d.out.2.2.1.trans T);have aW:=JE (d.out.2.2.2.andKp T);clear o5 T I HR c1 c2 aH h0 af;go_wp2_with(first
     | (at_builtin;refine fL (S:=ja) (Z:=λg=>g=w2.heap.size\/g=w.heap.size) (o:=⟨some 54,_,_,_,_,_⟩) stpK rfl _ _ rfl B.heap.size _ (ST m) rfl (a3.out.kp ((NQ _).alloc _)) _ [_] rfl (SE.litZ (S:=ja) 99 a4.out rfl) (by exact aM) (Kd aI.out (by simp)) ?_;intro vS Q os gs qs;obtain⟨aS,f,V,rfl⟩:=Oc os.gl;have an:Hid (Bx Q w2.heap.size 95 #[.slice a N c,.int .i64 (i:Int),.slice (some ⟨gp,op,none⟩) K cp,.slice J F D]):=(a7.out.kp ((NQ _).alloc _)).grown gs (λe=>by have:=(u.out _ e.symm).1;have:=y.out;omega);have aG:Hid (Q.there w2.heap.size 3 1):=λq hq=>by { have:=an.out.there (3+q) (by simp;omega);rwa [Lf] at this };have OS:=JE os;have KS:Hid (Kp w2 Q):=NS (aX.out.alloc _) gs (λg b=>by have:=(u.out g b).1;have:=y.out;omega);have SS:Hid (az (λg=>g=w2.heap.size) B Q):=(aW.out.andKp ((NQ _).alloc _)).then gs (λg b=>.inl (u.out g b).1))
     | (refine nX rfl rfl 93 (.tmp 55) (.tmp 54) rfl w2.heap.size 3 (.slice aS f V) rfl rfl rfl aG.out (by kernel_rfl) ?_;intro wt j;obtain rfl:wt=Q.setCells w2.heap.size 3 [.slice aS f V]:=j))
    obtain⟨wt,j⟩:∃ x,Q.setCells w2.heap.size 3 [.slice aS f V]=x:=⟨_,rfl⟩;have l:Q.grownBy wt (some w2.heap.size):=by rw[<-j];exact gI Q w2.heap.size 0 [.slice aS f V] 3
    have aE:Bx wt w2.heap.size 95 #[.slice a N c,.int .i64 (i:Int),.slice (some ⟨gp,op,none⟩) K cp,.slice aS f V]:=by rw[<-j];exact an.out.set 3 (.slice aS f V)
    have aw:Kp w2 wt:=by rw[<-j];exact KS.out.setCells (JO _) _ _
    have aq:az (λg=>g=w2.heap.size) B wt:=SS.out.then l λg b=>.inr (by cases b;rfl)
    have au:GZ ja 99 (λg=>g=w2.heap.size\/g=w.heap.size) wt B.heap.size (.slice aS f V) (ST (m+1)):=by
     rw[HE.out];exact OS.out.step (Y:=λg=>g=w2.heap.size) ⟨l.os,l.tape,l.output,l.size,λq hq hn=>l.block q hq λe=>hn (by cases e;rfl)⟩ (λg b=>.inl (.inl b)) (λg b e=>by have:=(OS.out.lt g b).1;have:=y.out;omega)
    have HF:=JE (JN aE (JN au (JN aw aq)));rw[j];clear j l aE aw aq au an aG OS KS SS;go_wp2_with fail;go_roundw
    case rel=>exact⟨m+1,aS,f,V,by omega,by first|rfl|(rw[i1];rfl),HF.out.1,HF.out.2.1,HF.out.2.2.1,HF.out.2.2.2⟩
    case measure=>simp[intOf];omega
  ·obtain rfl:m=K:=by omega
   have h1:¬(m:Int)<(m:Int):=by omega
   have e4:=d.out.1.cell 0;have e5:=d.out.1.cell 1;have e6:=d.out.1.cell 2;have e7:=d.out.1.cell 3;simp only[JT,JS,JU] at e4 e5 e6 e7;have a6:Hid (Bx wr w.heap.size 95 #[.slice none 0 0,.int .i64 0,.slice none 0 0,.slice none 0 0]):=HB.out.kp (O2.out.2.trans d.out.2.2.1);clear O am ak ah ag ai HW;go_wp2_with(refine eR rfl rfl 95 (.tmp 4) (.tmp 57) rfl w.heap.size 95 _ #[.slice a N c,.int .i64 (i:Int),.slice ap m cp,.slice J F D] rfl rfl a6.out rfl yP qz ?_;intro wq aO gq ax)
   have hk:=ax w KW.out (JO _);have ad:az (λg=>g=w.heap.size) wr wq:=⟨gq.os,gq.tape,gq.output,gq.size,λq hq hn=>gq.block q hq λe=>hn (by cases e;rfl)⟩;have aZ:=JE (ab.out wq (.slice ap m cp) (.slice J F D) (HU.out.kp hk) ((O2.out.1.rn.kp d.out.2.2.1).stepF ad (dZ (C:=E.heap.size) (λg b=>(KU O2.out.1 g b).1) λg b=>by have:=y.out;omega))
    ((d.out.2.1.step (Y:=λg=>g=w.heap.size) ad (λg b=>.inl (.inr b)) (λg b e=>by have:=(d.out.2.1.lt g b).1;have:=y.out;omega)).gl))
   have HK:=JE hk;clear hk ad ax gq;refine bodyPost_ret (eZ rfl _ _ w.heap.size _ _ (0,0) _ _ rfl aO underlying95 rfl qz rfl) rfl ?_;exact⟨⟨_,_,rfl,aZ.out⟩,HK.out⟩
theorem GA {k:Nat}(h:k<l.length):l.take (k+1)=l.take k++[l.getD k 0]:=by
 rw[JZ h,JF,JG h];rfl
theorem GB (aa:Value)(t:List Nod)(K:Nat)(i:Int)(w:World)(E:NL w aa t)(F:aD t K)(j:Tab w):
  Calls prog 13 #[aa,.int .i64 i] w λe w'=>(∃ v,e=.returned (.tuple #[v,.int .i64 (eU t i)])/\RN w' v (gQ t K i))/\Kp w w':=by
 by_cases b:bc t i
 ·obtain⟨k,rfl,hk,f,af⟩:=ju F b
  have r:eU t (k:Int)=0:=by unfold eU;rw[if_pos b]
  have O:gQ t K (k:Int)=aC t k K:=by unfold gQ;rw[if_pos b,JX]
  rw[r,O];have l:=JE (qA aa t K k w E F f j);have C:=JE (λa (h:a<(ixS t k K).length)=>kP (t:=t) (i:=k) (m:=K) h);obtain⟨ae,ad⟩:=gy t k K;have J:=iB t k K;have ag:=Kd (kC t k K) F.le;have u:=JE (λa (h:a<(aC t k K).length)=>GA h);have Y:Hid ((aC t k K).take (aC t k K).length=aC t k K):=Kz;obtain⟨a,c,rfl,_,_⟩:=E.shape;have R:Hid (∀ W aa n s,WIn W aa n s t K k->aJ ja W s (dg t k K)):=λW aa n s h=>h.steps
  have T:Hid (∀ W aa n s,WIn W aa n s t K k->RN W n (aL K 0 k)):=λW aa n s h=>h.nodes
  generalize (ixS t k K).length=M at *;rw[ae] at u Y;have B:=JE J;generalize aC t k K=ST at *;generalize t.length=N at *;clear E F b r O f af ad J j;go_enter func13,ntmps13;go_wp2_with fail;refine l.out.mono ?_;rintro _ G ⟨⟨nv,sv,rfl,z⟩,H⟩;have rs:=R.out _ _ _ _ z;obtain⟨Q,P,rfl,p1,s1⟩:=Ob rs;obtain⟨an,nn,cn,rfl⟩:=(T.out _ _ _ _ z).sl;rw[B.out] at p1 rs ⊢;have RS:=JE rs;have K1:=JE H;obtain⟨w2,p⟩:∃ w2,G.alloc (.cells #[.slice a N c,.int .i64 (k:Int),.slice an nn cn,.slice Q M P] 95)=w2:=⟨_,rfl⟩;have HB:Hid (Bx w2 G.heap.size 95 #[.slice a N c,.int .i64 (k:Int),.slice an nn cn,.slice Q M P]):=by unfold Hid;rw[<-p];exact Oa G _ _
  have K2:Hid (Kp G w2):=by unfold Hid;rw[<-p];exact(NQ _).alloc _
  have U:=JE p;clear rs H z l R T p;go_wp2_with fail;rw[U.out];clear U;have e3:=HB.out.cell 3;simp only[JT,JS,JU] at e3;go_wp2_with fail;go_loopw[8,23] (λx y wr=>∃ m:Nat,m<=M/\y=.int .i64 (m:Int)/\GZ shN 3 noB wr w2.heap.size x (ST.take m)/\Kp w2 wr) (λ_ y _=>(M - (intOf y).toNat))
  case atStart=>exact⟨0,JW _,rfl,by rw[LZ];exact GZ.nil _ _ _,NQ _⟩
  case round=>
   obtain⟨m,hm,rfl,d,L⟩:=hrel;have D:=JE (JN d L);obtain⟨ax,nx,cx,rfl⟩:=Oc d.gl;clear d L;by_cases A:m<M
   ·obtain⟨gs,os,cs,q,r,_,c0,c1,rq⟩:=aJ.sp (i:=m) (Od RS.out (K2.out.trans D.out.2)) (by rw[B.out];exact A)
    rw[B.out] at r;simp only[JR] at r;obtain⟨rfl,_,rfl⟩:=r;obtain⟨aq,nq,cq,rfl⟩:=rq.sl;rw[C.out m A] at c0;dsimp only at c0
    have V:=JE (u.out m A);have i1:IntKind.i64.wrap ((m:Int)+1)=(m:Int)+1:=JI _ (by omega);have i3:(m:Int)<(M:Int):=by omega
    have I:(ST.take m).length+1<=1000000:=by rw[Ki];omega
    obtain⟨X,hX⟩:∃ x,ST.getD m 0=x:=⟨_,rfl⟩;rw[hX] at c0 V;have ab:Hid (SE shN (λg=>some g=(Value.slice ax nx cx).ownBlock\/noB g) ((wr.alloc (.cells #[.int .i64 (X:Int),.slice aq nq cq] 99)).alloc (.cells #[.int .i64 (X:Int)] 3)) (.slice (some ⟨wr.heap.size+1,0,none⟩) 1 1) [X]):=by
     have h9:SE shN (λg=>some g=(Value.slice ax nx cx).ownBlock\/noB g) ((wr.alloc (.cells #[.int .i64 (X:Int),.slice aq nq cq] 99)).alloc (.cells #[.int .i64 (X:Int)] 3)) _ [X]:=SE.litZ (S:=shN) (w:=wr.alloc (.cells #[.int .i64 (X:Int),.slice aq nq cq] 99)) 3 rfl rfl;rwa [JY] at h9
    clear rq hX C u;go_wp2_with(at_builtin;go_loud (refine fL (S:=shN) (Z:=noB) (o:=⟨some 31,_,_,_,_,_⟩) nK rfl _ _ rfl w2.heap.size _ (ST.take m) rfl (D.out.1.kp (((NQ _).alloc _).alloc _)) _ [X] rfl ab.out (by exact I) (Kd D.out.2.size (by simp;omega)) ?_;intro v5 w5 o5 g5 _;have k5:Hid (Kp w2 w5):=NS ((D.out.2.alloc _).alloc _) g5 (λk hk=>(D.out.1.lt k hk).1)))
    rw[<-V.out] at o5;go_roundw
    case rel=>exact⟨m+1,by omega,by first|rfl|(rw[i1];rfl),o5,k5.out⟩
    case measure=>simp[intOf];omega
   ·obtain rfl:m=M:=by omega
    have h1:¬(m:Int)<(m:Int):=by omega
    have d:=D.out.1;rw[Y.out] at d;have HE:=JE (JN d.gl.rn (K1.out.trans (K2.out.trans D.out.2)));clear d C u;go_wp2_with fail;go_ret2;exact⟨⟨_,rfl,HE.out.1⟩,HE.out.2⟩
 ·have r:eU t i=11:=by unfold eU;rw[if_neg b]
  have O:gQ t K i=[]:=by unfold gQ;rw[if_neg b]
  rw[r,O];have l:=JE (td aa t K i w E F b);obtain⟨a,c,rfl,_,_⟩:=E.shape;generalize t.length=N at *;clear E F b r O j;go_enter func13,ntmps13;go_wp2_with fail;refine l.out.mono ?_;rintro _ G ⟨rfl,H⟩;have K1:=JE H;clear H l;go_wp2_with fail;go_ret2;exact⟨⟨_,rfl,RN.nil _⟩,K1.out.alloc _⟩
theorem Hu (v:Value)(t:List Nod)(w:World)(l:NL w v t)(q:0<t.length)(m:t.length<=1000000):
  Calls prog 105 #[v] w λe w'=>(∃ b,e=.returned b/\NO 81 w' w.heap.size b t)/\Kp w w':=by
 refine(yI v t w l q m).mono ?_;rintro e w' ⟨⟨b,us,rfl,d,k,j⟩,f⟩;have a:∀ g,b.ownBlock=some g->w.heap.size<=g:=λg o=>(KU d g o).1
 refine⟨⟨b,rfl,us,d,k,λi n=>?_⟩,f⟩;obtain⟨p,aa,h,r,c⟩:=j i n;exact⟨p,aa,h,r,c.kp f,c.pub.apart a,c.un.apart a,c.hash.apart a⟩
theorem ze (aa n s x y:Value)(t:List Nod)(K i:Nat)(p:Pa)(w:World)(hu:WIn w aa n s t K i)(G:aD t K)(hT:bl t K)(f:(ats t (2*i)).kind=1)(hp:PIn w x y p)(J:p.pub.length=32)
  (hs:p.step.length=(ixS t i K).length) (F:∀ a,a<(aC t i K).length->(am p.step a).pub.length=32) (ak:Tab w):
  Calls prog 60 #[.agg #[aa,.int .i64 (i:Int),n,s],.agg #[x,y]] w λe w'=>(∃ r,e=.returned r/\NL w' r (eE t (i:Int) (aC t i K) p))/\Kp w w':=by
 obtain⟨z1,z2,z3⟩:=G.small;have a4:=bP G.le;have b:=(G.there_iff i).2 f;have aR:=Oe (t:=t) (x:=2*i) (by rw[f];decide);have hi:i<2 ^ K:=by omega
 have hE:mF t (i:Int) p.pub=0:=by unfold mF;rw[if_pos J,if_pos b]
 have hV:mG t (i:Int) p.pub=bk t i p.pub:=by unfold mG;rw[if_pos hE,JX]
 have a2:=JE (λW (hW:Kp w W)=>Hu aa t W (hu.tree.kp hW) (by omega) (by omega));have aK:=JE (λW (hW:Kp w W) (v:Value) (hv:NL W v (bL p.step 0 (aC t i K) (bk t i p.pub)))=>Ht v _ K (i:Int) W (yT G hT f J F) (Ha G f J F) hv (by omega) (ak.kp hW));have HF:Hid (gM (bL p.step 0 (aC t i K) (bk t i p.pub)) (i:Int)=eE t (i:Int) (aC t i K) p):=by unfold Hid eE;rw[hV]
 have a5:(bk t i p.pub).length=t.length:=aD.updLen i p.pub;have D:Hid (∀ j,j<(aC t i K).length->bL p.step 0 ((aC t i K).take (j+1)) (bk t i p.pub)=(bL p.step 0 ((aC t i K).take j) (bk t i p.pub)).set ((aC t i K).getD j 0) ⟨2,0,(am p.step j).pub,[],[]⟩):=λj U=>yS _ _ _ U
 have P:Hid (∀ j,(bL p.step 0 ((aC t i K).take j) (bk t i p.pub)).length=t.length):=λj=>(nR _ _ _ _).trans a5
 have L:Hid (∀ j,j<(aC t i K).length->(aC t i K).getD j 0<t.length):=λj U=>by
  have hm:(aC t i K).getD j 0∈aC t i K:=by rw[JF,JG U];exact Ko U
  rw[G.len];exact eP hi (fP hm)
 have aF:Hid (bL p.step 0 ((aC t i K).take 0) (bk t i p.pub)=bk t i p.pub):=rfl;have Q:Hid (bL p.step 0 ((aC t i K).take (aC t i K).length) (bk t i p.pub)=bL p.step 0 (aC t i K) (bk t i p.pub)):=by unfold Hid;rw[Kz]
 have T:Hid (∀ j,j<(aL K 0 i).length->fS ((aL K 0 i).take (j+1)) (t.set (2*i) (aN (ats t (2*i)).name p.pub))=(fS ((aL K 0 i).take j) (t.set (2*i) (aN (ats t (2*i)).name p.pub))).set ((aL K 0 i).getD j 0) aX):=λj U=>GX U _
 have C:Hid (∀ j,(fS ((aL K 0 i).take j) (t.set (2*i) (aN (ats t (2*i)).name p.pub))).length=t.length):=λj=>by rw[th,Km]
 have ae:Hid (∀ j,j<(aL K 0 i).length->(aL K 0 i).getD j 0<t.length):=λj U=>by
  have hm:(aL K 0 i).getD j 0∈aL K 0 i:=by rw[JF,JG U];exact Ko U
  rw[G.len];exact eP hi hm
 have S:Hid (fS ((aL K 0 i).take (aL K 0 i).length) (t.set (2*i) (aN (ats t (2*i)).name p.pub))=bk t i p.pub):=by unfold Hid;rw[Kz];exact GY G hi _
 have ai:Hid (fS ((aL K 0 i).take 0) (t.set (2*i) (aN (ats t (2*i)).name p.pub))=t.set (2*i) (aN (ats t (2*i)).name p.pub)):=rfl;have R:=JE (λa (h:a<(ixS t i K).length)=>kP (t:=t) (i:=i) (m:=K) h);have aQ:=mi K i;have aP:=(gy t i K).1;have d:=iB t i K;have i2:IntKind.i64.wrap (2*(i:Int))=((2*i:Nat):Int):=by rw[JI _ (by omega)];omega
 generalize eE t (i:Int) (aC t i K) p=bi at *;generalize bL p.step 0 (aC t i K) (bk t i p.pub)=TE at *;generalize aV:(λj=>bL p.step 0 ((aC t i K).take j) (bk t i p.pub))=TS at *;have al:∀ j,bL p.step 0 ((aC t i K).take j) (bk t i p.pub)=TS j:=λj=>by rw[<-aV]
 simp only[al] at D P aF Q;generalize aW:(λj=>fS ((aL K 0 i).take j) (t.set (2*i) (aN (ats t (2*i)).name p.pub)))=TC at *;have ao:∀ j,fS ((aL K 0 i).take j) (t.set (2*i) (aN (ats t (2*i)).name p.pub))=TC j:=λj=>by rw[<-aW]
 simp only[ao] at T C S ai;generalize iO TE (i:Int)=LE at *;have HP:=JE hp.pub;have ad:=JE hp.step;have ab:=JE hu.steps;have aY:=JE hu.nodes;have HU:=JE hu.tree;obtain⟨au,cu,rfl,q1,q2⟩:=hu.tree.shape;obtain⟨an,cn,rfl,q3,q4⟩:=hu.nodes.shape;obtain⟨aB,az,rfl,q5,q6⟩:=Ob hu.steps;obtain⟨ap,cp,rfl,q7,q8⟩:=hp.pub.shape;obtain⟨a6,c6,rfl,q9,a3⟩:=Ob hp.step;rw[d] at q5 ab ⊢;rw[hs] at q9 ad ⊢;rw[aP] at D L Q;rw[aQ] at T ae S aY q3 ⊢;rw[J] at HP ⊢;have bf:(ixS t i K).length<=10:=Kd (kC t i K) G.le;have be:=G.le;obtain⟨NM,ay⟩:∃ x,(ats t (2*i)).name=x:=⟨_,rfl⟩;rw[ay] at ai;generalize bk t i p.pub=UT at *;generalize aC t i K=ST at *;generalize aL K 0 i=PT at *;generalize (ixS t i K).length=M at *;generalize hN:t.length=N at *;generalize I:2*i=V at *;have bd:=JE ay;have aI:=JE hN;have a0:=JE d;have a1:=JE hs;unfold maxLen at q2 q4 q6 a3;clear hu G hT f hp hs F b hi hE hV aV al aW ao hN ay I z2 z3 a4 J ak aQ aP d q5 q7;go_enter func60,ntmps60;go_wp2_with fail;obtain⟨u,E⟩:∃ u,(w.alloc (.cells #[.slice au N cu,.int .i64 (i:Int),.slice an K cn,.slice aB M az] 95)).alloc (.cells #[.slice ap 32 cp,.slice a6 M c6] 27)=u:=⟨_,rfl⟩;have HB:Hid (Bx u w.heap.size 95 #[.slice au N cu,.int .i64 (i:Int),.slice an K cn,.slice aB M az]):=by unfold Hid;rw[<-E];exact(Oa w _ _).kp ((NQ _).alloc _)
 have aM:Hid (Bx u (w.heap.size+1) 27 #[.slice ap 32 cp,.slice a6 M c6]):=by
  unfold Hid;have:=Oa (w.alloc (.cells #[.slice au N cu,.int .i64 (i:Int),.slice an K cn,.slice aB M az] 95)) 27 #[.slice ap 32 cp,.slice a6 M c6];rw[JY] at this;rw[<-E];exact this
 have K1:Hid (Kp w u):=by unfold Hid;rw[<-E];exact((NQ _).alloc _).alloc _
 rw[E];clear E;refine(a2.out u K1.out).mono ?_;rintro _ w2 ⟨⟨v2,rfl,o2⟩,k2⟩;obtain⟨A,Z,rfl,b1,b2,b3,b4,aS⟩:=o2.form (by rw[aI.out];omega);rw[aI.out] at o2 b3 ⊢;have I:V<t.length:=by rw[aI.out];exact aR
 obtain⟨p9,u9,h9,c,_⟩:=aS V I;obtain⟨j0,j1,j2,j3,j4⟩:_/\_/\_/\_/\_:=⟨c.kind,c.name,c.pubC,c.unC,c.hashC⟩;rw[bd.out] at j1;have b:=o2.there V I;have f0:=(b 0 (by omega)).2;have f1:=(b 1 (by omega)).2;have f2:=(b 2 (by omega)).2;have f3:=(b 3 (by omega)).2;have f4:=(b 4 (by omega)).2;rw[Mj] at f0;have bb:=JE (HP.out.kp (K1.out.trans k2));have ah:Hid (u.heap.size<=A/\A<w2.heap.size):=⟨b1,b2⟩;have aO:=JE (fun(v:Value) (l:List UInt8) (hv:Rd w v l)=>hv.apart (v:=.slice (some ⟨A,0,none⟩) N Z) (λg hg=>by cases hg;exact Kd K1.out.size ah.out.1));have d:=o2.stored V I (aN NM p.pub) (.slice ap 32 cp) (.slice none 0 0) (.slice none 0 0) ⟨bb.out,RI.nil _,bU _⟩ (aO.out _ _ HP.out) (NZ _ _ _) (NZ _ _ _);rw[<-ai.out] at d;have O:=JE d;have d1:=(HB.out.kp k2).cell 1;have d2:=(aM.out.kp k2).cell 0;simp only[JT,JS,JU] at d1 d2;have K2:=JE k2;have i4:(V:Int)<(N:Int):=by omega
 clear d o2 b c aS k2 b1 b2 b4 a2;go_wp2_with fail;go_region
 obtain⟨w3,Y⟩:∃ x,(((((w2.setCell ⟨A,V*5,none⟩ (.int .i64 1)).setCell ⟨A,V*5+1,none⟩ (.int .i64 NM)).setCell ⟨A,V*5+2,none⟩ (.slice ap 32 cp)).setCell ⟨A,V*5+3,none⟩ (.slice none 0 0)).setCell ⟨A,V*5+4,none⟩ (.slice none 0 0)).drew=x:=⟨_,rfl⟩;have bc:Hid (NO 81 w3 u.heap.size (.slice (some ⟨A,0,none⟩) N Z) (TC 0)):=by
  have:=O.out.1.kp (NQ _).drew;unfold Hid;rw[<-Y];exact this
 have K3:Hid (Kp u w3):=by
  have:=(NS (v:=.slice (some ⟨A,0,none⟩) N Z) K2.out O.out.2 (λk hk=>by cases hk;exact ah.out.1)).drew;unfold Hid;rw[<-Y];exact this
 rw[Y];clear Y d1 d2 j0 j1 j2 j3 j4 f0 f1 f2 f3 f4 O ai;have d3:=(HB.out.kp K3.out).cell 2;simp only[JT,JS,JU] at d3;go_wp2_with fail;go_loopw[31] (λz wr=>∃ j:Nat,j<=K/\z=.int .i64 (j:Int)/\NO 81 wr u.heap.size (.slice (some ⟨A,0,none⟩) N Z) (TC j)/\Kp u wr) (λz _=>(K - (intOf z).toNat))
 case atStart=>exact⟨0,JW _,rfl,bc.out,K3.out⟩
 case round=>
  obtain⟨j,U,rfl,ho,H⟩:=hrel;have B:=JE (JN ho H);clear ho H d3;by_cases o:j<K
  ·obtain⟨gl,ol,rfl,_,aT⟩:=(aY.out.kp (K1.out.trans B.out.2)).at j o
   have d0:=aT j o;have HX:=JE (ae.out j o);have aE:=JE (T.out j o);have ag:=JE (C.out j);have i1:IntKind.i64.wrap ((j:Int)+1)=(j:Int)+1:=JI _ (by omega);have i3:(j:Int)<(K:Int):=by omega
   generalize PT.getD j 0=X at *;have i5:(X:Int)<(N:Int):=by have:=HX.out;omega
   have ba:Hid (X<(TC j).length):=by unfold Hid;rw[ag.out];exact HX.out
   clear aT aK D P L Q aF T C ae S R ab ad aM HU;go_wp2_with(refine lm iZ rfl rfl (.tmp 38) (.tmp 37) rfl u.heap.size A Z N (TC j) B.out.1 X ba.out aX (.slice none 0 0) (.slice none 0 0) (.slice none 0 0) rfl rfl ⟨bU _,RI.nil _,bU _⟩ (NZ _ _ _) (NZ _ _ _) (NZ _ _ _) ?_;intro w5 o5 g5;have k5:Hid (Kp u w5):=NS (v:=.slice (some ⟨A,0,none⟩) N Z) B.out.2 g5 (λk hk=>by cases hk;exact ah.out.1))
   rw[<-aE.out] at o5;go_roundw
   case rel=>exact⟨j+1,by omega,by first|rfl|(rw[i1];rfl),o5,k5.out⟩
   case measure=>simp[intOf];omega
  ·obtain rfl:j=K:=by omega
   have h1:¬(j:Int)<(j:Int):=by omega
   have af:Hid (NO 81 wr u.heap.size (.slice (some ⟨A,0,none⟩) N Z) (TS 0)/\Kp u wr):=by
    have:=B.out;rw[S.out,<-aF.out] at this;exact this
   obtain⟨w6,ar⟩:∃ x:World,x=wr:=⟨_,rfl⟩;rw[<-ar] at af;have d3:=(HB.out.kp af.out.2).cell 3;simp only[JT,JS,JU] at d3;rw[<-ar];clear B ar T C ae S;go_wp2_with fail;go_loopw[43] (λz wr=>∃ j:Nat,j<=M/\z=.int .i64 (j:Int)/\NO 81 wr u.heap.size (.slice (some ⟨A,0,none⟩) N Z) (TS j)/\Kp u wr) (λz _=>(M - (intOf z).toNat))
   case atStart=>exact⟨0,JW _,rfl,af.out.1,af.out.2⟩
   case round=>
    obtain⟨m,hm,rfl,ho,H⟩:=hrel;have B:=JE (JN ho H);clear ho H d3;by_cases o:m<M
    ·obtain⟨gs,os,bg,q,e1,_,c0,c1,rq⟩:=aJ.sp (i:=m) (Od ab.out (K1.out.trans B.out.2)) (by rw[a0.out];exact o)
     rw[a0.out] at e1;simp only[JR] at e1;obtain⟨rfl,_,rfl⟩:=e1;obtain⟨aq,nq,cq,rfl⟩:=rq.sl;rw[R.out m o] at c0;dsimp only at c0
     have HX:=JE (L.out m o);have aE:=JE (D.out m o);have ag:=JE (P.out m);have i1:IntKind.i64.wrap ((m:Int)+1)=(m:Int)+1:=JI _ (by omega);have i3:(m:Int)<(M:Int):=by omega
     obtain⟨gp,op,bh,pv,qv,e2,_,av⟩:=dl.nodeK (i:=m) ad.out (by rw[a1.out];exact o);rw[a1.out] at e2;simp only[JR] at e2;obtain⟨rfl,_,rfl⟩:=e2;generalize ST.getD m 0=X at *;obtain⟨WQ,ax⟩:∃ x,wr.alloc (.cells #[.int .i64 (X:Int),.slice aq nq cq] 99)=x:=⟨_,rfl⟩;have KQ:Hid (Kp wr WQ):=by unfold Hid;rw[<-ax];exact(NQ _).alloc _
     have a9:WQ.cell? ⟨wr.heap.size,0,none⟩=some (.int .i64 (X:Int)):=by
      have:=(Oa wr 99 #[.int .i64 (X:Int),.slice aq nq cq]).cell 0;rw[<-ax];simp
     have dp:=(aM.out.kp (B.out.2.trans KQ.out)).cell 1;simp only[JT,JS,JU] at dp;have aG:=JE (av w (NQ _)).2.2.1;have dv:=(av WQ ((K1.out.trans B.out.2).trans KQ.out)).1;obtain⟨a7,n7,c7,rfl⟩:=aA aG.out;have aH:=JE (B.out.1.kp KQ.out);obtain⟨g9,c9,e9,_,_,_,_,aU⟩:=aH.out.form (by rw[ag.out];omega);simp only[JR,Ky,Lv,and_true] at e9;obtain⟨rfl,_,rfl⟩:=e9;have i4:(X:Int)<(N:Int):=by have:=HX.out;omega
     have aw:X<(TS m).length:=by rw[ag.out];exact HX.out
     obtain⟨p9,u9,h9,c,_⟩:=aU X aw;obtain⟨j0,j1,j2,j3,j4⟩:_/\_/\_/\_/\_:=⟨c.kind,c.name,c.pubC,c.unC,c.hashC⟩;have b:=aH.out.there X aw;have f0:=(b 0 (by omega)).2;have f1:=(b 1 (by omega)).2;have f2:=(b 2 (by omega)).2;have f3:=(b 3 (by omega)).2;have f4:=(b 4 (by omega)).2;rw[Mj] at f0;have d:=aH.out.stored X aw ⟨2,0,(am p.step m).pub,[],[]⟩ (.slice a7 n7 c7) (.slice none 0 0) (.slice none 0 0) ⟨aG.out.kp ((K1.out.trans B.out.2).trans KQ.out),RI.nil _,bU _⟩ (aO.out _ _ aG.out) (NZ _ _ _) (NZ _ _ _);rw[<-aE.out] at d;have aZ:=JE d;have KR:=JE (B.out.2.trans KQ.out);clear d av aU c b rq aK D P L Q R ab ad aO;go_wp2_with fail;try rw[ax]
     go_region
     clear j0 j1 j2 j3 j4 f0 f1 f2 f3 f4 a9 dp dv c0 c1;go_wp2_with fail;have aj:=aZ.out;go_roundw
     case rel=>exact⟨m+1,by omega,by go_num,aj.1.kp (NQ _).drew,(NS (v:=.slice (some ⟨A,0,none⟩) N Z) KR.out aj.2 (λk hk=>by cases hk;exact ah.out.1)).drew⟩
     case measure=>simp[intOf];omega
    ·obtain rfl:m=M:=by omega
     have h1:¬(m:Int)<(m:Int):=by omega
     have HE:=JE (JN (Q.out▸B.out.1) B.out.2);have d4:=(HB.out.kp B.out.2).cell 1;simp only[JT,JS,JU] at d4;clear L D P;go_wp2_with fail;refine(aK.out wr (K1.out.trans HE.out.2) _ HE.out.1.nl).mono ?_;rintro _ w8 ⟨⟨r3,rfl,r4⟩,k3⟩;rw[HF.out] at r4;have R4:=JE (JN r4 ((K1.out.trans HE.out.2).trans k3));obtain⟨a8,n8,c8,rfl⟩:=r4.sl;clear r4 k3;go_wp2_with fail;go_ret;exact⟨⟨_,rfl,R4.out.1⟩,R4.out.2⟩
theorem IG (x me:Int)(q:Value)(c:List Int)(g:Nat)(w:World)(l:RI w q c)(m:w.cell? ⟨g,0,none⟩=some (.int .i64 me))(k:-9223372036854775808<=x/\x<=9223372036854775807)(o:Tab w):
  Calls prog 118 #[.agg #[.int .i64 x,q],.pointer (some ⟨g,0,none⟩)] w λe w'=>aK e (loV x<=me/\me<=hiV x)/\Kp w w':=by
 have t:=JE (λW (f:Kp w W)=>EK x W k (o.kp f));obtain⟨a,n,z,rfl⟩:=l.sl;have u:Hid (∀ W,Kp w W->W.cell? ⟨g,0,none⟩=some (.int .i64 me)):=λW f=>f.cell m
 generalize loV x=s at *;generalize hiV x=i at *;clear l m k o;go_enter func118,ntmps118;go_wp2_with fail;refine(t.out _ ((NQ _).alloc _)).mono ?_;rintro _ w2 ⟨rfl,j⟩;have b:Hid (Kp w w2):=((NQ _).alloc _).trans j;have y:=u.out w2 b.out;clear j t u;by_cases r:s<=me
 ·by_cases p:me<=i
  ·go_wp2_with fail
   go_ret;exact⟨aK.yes ⟨r,p⟩,b.out⟩
  ·have d:Hid (¬me<=i):=p
   go_wp2_with fail;go_ret;exact⟨by first|exact Oi (λh=>d.out h.2)|exact⟨_,rfl,λh=>absurd (Ly h) (by have v:=d.out;omega),λh=>Ke h.2⟩,b.out⟩
 ·have d:Hid (¬(s<=me/\me<=i)):=λh=>r h.1
  go_wp2_with fail;go_ret;exact⟨Oi d.out,b.out⟩
def mj (l:List Stp)(P:Stp->Prop)(r:Int):Prop:=(∃ k:Nat,r=(k:Int)/\k<l.length/\P (dA l k)/\∀ j,j<k->¬P (dA l j))\/(r = -1/\∀ k,k<l.length->¬P (dA l k))
theorem II (aa:Value)(l:List Stp)(me:Int)(g:Nat)(w:World)(C:aJ ja w aa l)(O:w.cell? ⟨g,0,none⟩=some (.int .i64 me))(M:∀ k,k<l.length->-9223372036854775808<=(dA l k).node/\(dA l k).node<=9223372036854775807)(R:Tab w):
  Calls prog 117 #[aa,.func (.func 118) #[] #[.pointer (some ⟨g,0,none⟩)]] w λe w'=>(∃ r,e=.returned (.int .i64 r)/\mj l (λs=>loV s.node<=me/\me<=hiV s.node) r)/\Kp w w':=by
 obtain⟨a,c,rfl,p1,U⟩:=Ob C;unfold maxLen at U;have T:=JE C;have u:=JE (λW (Q:Kp w W) k (o:k<l.length) (q:Value) (hq:RI W q (dA l k).cover)=>IG (dA l k).node me q (dA l k).cover g W hq (Q.cell O) (M k o) (R.kp Q));obtain⟨p,x⟩:∃ P:Nat->Prop,P=λk=>loV (dA l k).node<=me/\me<=hiV (dA l k).node:=⟨_,rfl⟩
 have d:∀ k,(loV (dA l k).node<=me/\me<=hiV (dA l k).node)=p k:=λk=>by rw[x]
 have A:Hid (∀ k:Nat,k<l.length->p k->(∀ j,j<k->¬p j)->mj l (λs=>loV s.node<=me/\me<=hiV s.node) (k:Int)):=λk o h D=>.inl ⟨k,rfl,o,(d k).mpr h,λj E h=>D j E ((d j).mp h)⟩
 have J:Hid ((∀ k,k<l.length->¬p k)->mj l (λs=>loV s.node<=me/\me<=hiV s.node) (-1)):=λh=>.inr ⟨rfl,λk o D=>h k o ((d k).mp D)⟩
 simp only[d] at u;generalize mj l (λs=>loV s.node<=me/\me<=hiV s.node)=FI at *;obtain⟨N,F⟩:∃ N,l.length=N:=⟨_,rfl⟩;have y:=JE F;rw[F] at T u A J p1 ⊢;clear C F O M R x d;go_enter func117,ntmps117;go_wp2_with fail;go_loopw[8] (λi wr=>∃ k:Nat,k<=N/\i=.int .i64 (k:Int)/\(∀ j,j<k->¬p j)/\Kp w wr) (λi _=>(N - (intOf i).toNat))
 case atStart=>exact⟨0,JW _,rfl,λt h=>by omega,NQ _⟩
 case round=>
  obtain⟨k,o,rfl,f,v⟩:=hrel;have n:=JE f;have z:=JE v;clear f v;by_cases m:k<N
  ·obtain⟨gs,os,cs,q,H,_,c0,c1,B⟩:=aJ.sp (i:=k) (Od T.out z.out) (by rw[y.out];exact m)
   rw[y.out] at H;simp only[JR] at H;obtain⟨rfl,_,rfl⟩:=H;have K:=JE (u.out wr z.out k m q B);obtain⟨aq,nq,cq,rfl⟩:=B.sl;have I:=JE (A.out k m);have Z:IntKind.i64.wrap ((k:Int)+1)=(k:Int)+1:=JI _ (by omega);have Y:(k:Int)<(N:Int):=by omega
   generalize (dA l k).node=X at *;clear B u A;go_wp2_with(go_at_call 118;refine K.out.mono ?_;rintro _ w4 ⟨⟨b,rfl,hb⟩,V⟩;have S:=JE (z.out.trans V);have L:=JE hb;cases b)
   ·have HP:Hid (∀ j,j<k+1->¬p j):=λj E=>by
     rcases Kh (Kr.1 E) with G|G
     ·exact n.out j G
     ·rw[G]
      intro h;have h5:=L.out.2 h;simp at h5
    go_roundw
    case rel=>exact⟨k+1,by omega,by first|rfl|(rw[Z];rfl),HP.out,S.out⟩
    case measure=>simp[intOf];omega
   ·go_ret
    exact⟨⟨_,rfl,I.out (by first|exact L.out.1 rfl|exact L.out.1 trivial) n.out⟩,S.out⟩
  ·obtain rfl:k=N:=by omega
   have u:=JE (J.out n.out);have Y:¬(k:Int)<(k:Int):=by omega
   clear J A;go_wp2_with fail;go_ret;exact⟨⟨_,rfl,u.out⟩,z.out⟩
theorem IJ {me:Nat}{own:List Sd}(b:aD t K)(p:(ats t (2*i)).kind=1)(d:i≠me)(v:bZ t K (me:Int) own){r:Int}
  (h:mj (dg t i K) (λs=>loV s.node<=(me:Int)/\(me:Int)<=hiV s.node) r):r=(kM t i me:Int):=by
 have l:=(b.there_iff me).1 v.1;have z:=b.len2;have m:i<2 ^ K:=by have:=Oe (t:=t) (x:=2*i) (by rw[p];decide);omega
 have o:me<2 ^ K:=by have:=Oe (t:=t) (x:=2*me) (by rw[l];decide);omega
 obtain⟨C,B,_,_⟩:=nT b.le m o d;obtain⟨y,E,D⟩:=sn b m l o d v;have u:=Nr E;obtain⟨n,_,_,_⟩:=sr (K:=K) ⟨C,B⟩ u;have f:∀ a,a<(ixS t i K).length->((loV (dA (dg t i K) a).node<=(me:Int)/\(me:Int)<=hiV (dA (dg t i K) a).node)↔kM t i me<=a):=λa H=>by
  have c:=JG H;obtain⟨k,q⟩:∃ k,(ixS t i K)[a]=k:=⟨_,rfl⟩;rw[q] at c;rw[<-DP b.le m o d u c];have G:k<K:=((lN t i K k).1 (Lx c)).1;have e:(dA (dg t i K) a).node=((nd (k+1) (i / 2 ^ (k+1)):Nat):Int):=by
   unfold dA dg;rw[JF,KX,c];rfl
  rw[e];have A:=b.le;have j:nd (k+1) (i / 2 ^ (k+1))<=2046:=by
   have w:=eP m (fP (t:=t) (x:=nd (k+1) (i / 2 ^ (k+1))) (by
    unfold aC;exact KN.2 ⟨k,Lx c,rfl⟩))
   have F:=bP b.le;have I:=b.len;omega
  have g:okN ((nd (k+1) (i / 2 ^ (k+1)):Nat):Int):=⟨by omega,by omega⟩;unfold loV hiV;rw[if_pos g,if_pos g,JX,fV _ _ (by omega),kf _ _ (by omega),<-qJ];have:=bE (k+1);omega
 rcases h with⟨k,rfl,c,hp,hpre⟩|⟨rfl,hn⟩
 ·rw[iB] at c
  have L:=(f k c).1 hp;have J:¬kM t i me<k:=λj=>hpre _ j ((f _ n).2 (JO _))
  omega
 ·exact absurd ((f _ n).2 (JO _)) (hn _ (by rw[iB];exact n))
theorem IK (aa n s:Value)(t:List Nod)(K i me:Nat)(own:List Sd)(w:World)(c:WIn w aa n s t K i)(f:aD t K)(b:(ats t (2*i)).kind=1)(d:i≠me)(p:bZ t K (me:Int) own)(z:Tab w):
  Calls prog 69 #[.agg #[aa,.int .i64 (i:Int),n,s],.int .i64 (me:Int)] w λe w'=>e=.returned (.int .i64 (kM t i me:Int))/\Kp w w':=by
 have a:∀ k,k<(dg t i K).length->-9223372036854775808<=(dA (dg t i K) k).node/\(dA (dg t i K) k).node<=9223372036854775807:=λk u=>by
  rw[iB] at u;rw[kP u];have q:=f.len2;have E:=bP f.le;have G:i<2 ^ K:=by have:=Oe (t:=t) (x:=2*i) (by rw[b];decide);omega
  have P:=(gy t i K).1;have F:(aC t i K).getD k 0∈aC t i K:=by rw[JF,JG (by omega)];exact Ko _
  have Q:=eP G (fP F);dsimp only
  omega
 have B:=JE (λW (y:Kp w W) g (H:W.cell? ⟨g,0,none⟩=some (.int .i64 (me:Int)))=>II s (dg t i K) (me:Int) g W (Od c.steps y) H a (z.kp y));have A:=JE (λr h=>IJ (r:=r) f b d p h);obtain⟨L,C,I,rfl⟩:=c.tree.sl;obtain⟨M,D,J,rfl⟩:=c.nodes.sl;obtain⟨m,j,l,rfl⟩:=Oc c.steps;generalize mj (dg t i K) (λs=>loV s.node<=(me:Int)/\(me:Int)<=hiV s.node)=R at *;generalize kM t i me=N at *;clear c f b d p z a;go_enter func69,ntmps69;go_wp2_with fail;refine(B.out _ (((NQ _).alloc _).alloc _) (w.heap.size+1) (by
  have:=(Oa (w.alloc (.cells #[.slice L C I,.int .i64 (i:Int),.slice M D J,.slice m j l] 95)) 3 #[.int .i64 (me:Int)]).cell 0;rw[JY] at this;exact this)).mono ?_;rintro _ w2 ⟨⟨r,rfl,v⟩,o⟩
 obtain rfl:=A.out r v;have O:Hid (Kp w w2):=(((NQ _).alloc _).alloc _).trans o;clear v o B A;go_wp2_with fail;go_ret;exact⟨rfl,O.out⟩

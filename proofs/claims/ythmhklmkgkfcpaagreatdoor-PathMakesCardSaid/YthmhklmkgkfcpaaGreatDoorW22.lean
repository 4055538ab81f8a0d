import Derived.Test.YthmhklmkgkfcpaaGreatDoorW21
set_option linter.all false
set_option maxHeartbeats 8000000
set_option maxRecDepth 100000
namespace Go.Proofs.YthmhklmkgkfcpaaGreatDoor
open Go.Proofs.Tryz Go.RowKit
variable {K i k m:Nat}{l o:List Sd}{s:Sd}{t:List Nod}
theorem IR (aa:Value)(t:List Nod)(K:Nat)(i:Int)(w:World)(f:NL w aa t)(g:aD t K):
  Calls prog 14 #[aa,.int .i64 i] w λe w'=>(∃ v,e=.returned (.tuple #[v,.int .i64 (dM t i)])/\RN w' v (gG t K i))/\Kp w w':=by
 obtain⟨q,p,o⟩:=g.small;have l:=Lib.hid (sL aa t i w f (by omega));by_cases b:bf t i
 ·obtain⟨k,rfl,z,d,n⟩:=kq g b
  have j:dM t (k:Int)=0:=by unfold dM;rw[if_pos b]
  have h:gG t K (k:Int)=aA t k K:=by unfold gG;rw[if_pos b,Jm]
  rw[Jy b] at l;rw[j,h];have A:=Lib.hid (yv aa t K k w f g z);obtain⟨a,c,rfl,_,_⟩:=f.shape;generalize aA t k K=J at *;generalize aU t k K=I at *;generalize t.length=N at *;clear f g b j h d n q p o;go_enter func14,ntmps14;go_wp2_with fail;refine l.out.mono ?_;rintro _ _ ⟨rfl,rfl⟩;go_wp2_with fail;refine A.out.mono ?_;rintro _ B ⟨⟨x,y,rfl,m,r⟩,s⟩;have u:=Lib.hid (Jb m s);obtain⟨H,D,F,rfl⟩:=m.sl;obtain⟨G,C,E,rfl⟩:=SE.sl r;clear m r s;go_wp2_with fail;go_ret2;exact⟨⟨_,rfl,u.out.1⟩,u.out.2⟩
 ·have j:dM t i=11:=by unfold dM;rw[if_neg b]
  have h:gG t K i=[]:=by unfold gG;rw[if_neg b]
  rw[Jr b] at l;rw[j,h];obtain⟨a,c,rfl,_,_⟩:=f.shape;generalize t.length=N at *;clear f g b j h q p o;go_enter func14,ntmps14;go_wp2_with fail;refine l.out.mono ?_;rintro _ _ ⟨rfl,rfl⟩;go_wp2_with fail;go_ret2;exact⟨⟨_,rfl,RN.nil _⟩,Kp.refl _⟩
def dH (l:List Sd)(s:Sd)(k:Nat)(d:Bool)(o:List Sd):Prop:=dN l s=o++(if d then l.drop k else dN (l.drop k) s)/\o.length=k+(if d then 1 else 0)
theorem dH.start (l:List Sd)(s:Sd):dH l s 0 false []:=⟨by simp,rfl⟩
theorem sO (h:k<l.length):l.drop k=aO l k :: l.drop (k+1):=by
 rw[fl h];exact Kv h
theorem dH.low (h:dH l s k false o)(b:k<l.length)(a:¬s.node<(aO l k).node):dH l s (k+1) false (o++[aO l k]):=by
 obtain⟨d,c⟩:=h;refine⟨?_,by simp[c]⟩;rw[d,if_neg (by simp),if_neg (by simp),sO b];show o++(if s.node<(aO l k).node then _ else _)=_
 rw[if_neg a];simp
theorem dH.in (h:dH l s k false o)(b:k<l.length)(a:s.node<(aO l k).node):dH l s (k+1) true ((o++[s])++[aO l k]):=by
 obtain⟨d,c⟩:=h;refine⟨?_,by simp[c]⟩;rw[d,if_neg (by simp),if_pos rfl,sO b];show o++(if s.node<(aO l k).node then _ else _)=_
 rw[if_pos a];simp
theorem dH.high (h:dH l s k true o)(a:k<l.length):dH l s (k+1) true (o++[aO l k]):=by
 obtain⟨c,b⟩:=h;refine⟨?_,by simp[b]⟩;rw[c,if_pos rfl,if_pos rfl,sO a];simp
theorem dH.endNo (h:dH l s l.length false o):o++[s]=dN l s:=by
 rw[h.1,if_neg (by simp),MJ];rfl
theorem dH.endYes (h:dH l s l.length true o):o=dN l s:=by
 rw[h.1,if_pos rfl,MJ];simp
theorem Gc (Z:Nat->Prop)(aa q:Value)(l:List Sd)(s:Sd)(w:World)(P:SZ bY Z w aa l)(T:RZ Z w q s.seed)(hZ:∀ g,Z g->g<w.heap.size)(hl:l.length<=100000):
  Calls prog 65 #[aa,.agg #[.int .i64 s.node,q]] w λe w'=>(∃ r,e=.returned r/\SZ bY Z w' r (dN l s))/\Kp w w':=by
 have ak:=Lib.hid P;have an:=Lib.hid T;have HZ:=Lib.hid hZ;have hu:SL w aa l:=P.1.mono λ_ h=>h.elim
 have hq:Rd w q s.seed:=T.1;clear P T hZ;have HU:=Lib.hid hu;have HQ:=Lib.hid hq;obtain⟨a,c,rfl,p1,s1⟩:=hu.shape;obtain⟨aq,nq,cq,rfl⟩:=az hq;have u:=Lib.hid (λk o h m hn=>dH.low (l:=l) (s:=s) (k:=k) (o:=o) h m hn);have E:=Lib.hid (λk o h m hn=>dH.in (l:=l) (s:=s) (k:=k) (o:=o) h m hn);have p:=Lib.hid (λk o h m=>dH.high (l:=l) (s:=s) (k:=k) (o:=o) h m);have H:=Lib.hid (λo h=>dH.endNo (l:=l) (s:=s) (o:=o) h);have G:=Lib.hid (λo h=>dH.endYes (l:=l) (s:=s) (o:=o) h);have ab:=Lib.hid (dH.start l s);have HG:Hid (∀ k d o,dH l s k d o->k<=l.length->o.length<=100001):=λk d o h m=>by have h2:=h.2;cases d <;> simp at h2 <;> omega
 generalize dN l s=aj at *;obtain⟨N,hN⟩:∃ N,l.length=N:=⟨_,rfl⟩;have HN:=Lib.hid hN;rw[hN] at HU p1 u E p H G HG hl ⊢;obtain⟨SN,V⟩:∃ n,s.node=n:=⟨_,rfl⟩;have am:=Lib.hid V;rw[V] at u E ⊢;clear hu hq hN V;go_enter func65,ntmps65;go_wp2_with fail;obtain⟨j,z⟩:∃ j,w.alloc (.cells #[.int .i64 SN,.slice aq nq cq] 90)=j:=⟨_,rfl⟩;have hb:Bx j w.heap.size 90 #[.int .i64 SN,.slice aq nq cq]:=by rw[<-z];exact Bx.new w _ _
 have af:Kp w j:=by rw[<-z];exact(Kp.refl _).alloc _
 have HB:=Lib.hid (Jb hb af);have ae:j.heap.size=w.heap.size+1:=by rw[<-z];simp
 have al:=Lib.hid ae;rw[z];trace_state
 clear hb af z ae;go_loopw[5,6,7] (λv d i wr=>∃ (k:Nat) (b:Bool) (o:List Sd),k<=N/\i=.int .i64 (k:Int)/\d=.bool b/\GZ bY 90 Z wr j.heap.size v o/\dH l s k b o/\Kp j wr) (λ_ _ i _=>(N - (intOf i).toNat))
 case atStart=>exact⟨0,false,[],Jl _,rfl,rfl,GZ.nil _ _ _,ab.out,Kp.refl _⟩
 case round=>
  obtain⟨k,b,o,m,rfl,rfl,ho,A,U⟩:=hrel;obtain⟨ao,no,co,rfl⟩:=SE.sl ho.gl;have f:=Lib.hid (Jb ho U);have ar:=HG.out k b o A m;have Y:=HB.out.1.kp U;have b0:=Y.cell 0;have b1:=Y.cell 1;simp only[Jj,Jg,Jk] at b0 b1;have ah:Hid (∀ W (v:Value),Kp j W->(∀ g,v.ownBlock=some g->j.heap.size<=g)->bY.R (λg=>some g=v.ownBlock\/Z g) W [.int .i64 SN,.slice aq nq cq] s):=λW v hW hv=>by
   refine⟨_,by rw[am.out],HQ.out.kp (HB.out.2.trans hW),λx n c e h0 m=>m.elim (λh=>by have:=hv _ h.symm;have:=al.out;have:=HQ.out.inside x n c e h0;omega) λh=>an.out.2 x n c e h0 h⟩
  clear ho U Y;by_cases J:k<N
  ·obtain⟨g1,o1,c1,q1,e1,_,B,ai⟩:=SZ.nodeZ (i:=k) (ak.out.kp HB.out.2) (by rw[HN.out];exact J)
   rw[HN.out] at e1;simp only[Ji] at e1;obtain⟨rfl,_,rfl⟩:=e1;obtain⟨a1,n1,ag,rfl⟩:=az (B _ (Kp.refl _)).2.2;have i1:IntKind.i64.wrap ((k:Int)+1)=(k:Int)+1:=IW _ (by omega);have i3:(k:Int)<(N:Int):=by omega
   have ad:Hid (∀ W,Kp j W->W.cell? ⟨g1,o1+k*2,none⟩=some (.int .i64 (aO l k).node)/\W.cell? ⟨g1,o1+k*2+1,none⟩=some (.slice a1 n1 ag)):=λW hW=>⟨(B W hW).1,(B W hW).2.1⟩
   have Q:=(B _ (Kp.refl _)).2.2;have K:Hid (∀ W (v:Value),Kp j W->(∀ g,v.ownBlock=some g->j.heap.size<=g)->bY.R (λg=>some g=v.ownBlock\/Z g) W [.int .i64 (aO l k).node,.slice a1 n1 ag] (aO l k)):=λW v hW hv=>
    ⟨_,rfl,Q.kp hW,λx n c e h0 m=>m.elim (λh=>by have:=hv _ h.symm;have:=Q.inside x n c e h0;omega) λh=>ai x n c e h0 h⟩
   have D:=u.out k o;have HI:=E.out k o;have F:=p.out k o;have y:o.length+1<=1000000/\o.length+1+1<=1000000:=by omega
   obtain⟨d0,d1⟩:=ad.out wr f.out.2;clear u E p H G ab B Q;generalize hX:aO l k=X at *;clear hX;obtain⟨XN,XS⟩:=X;dsimp only at d0 d1 D HI F ad K
   cases b
   ·by_cases hx:SN<XN
    ·have L:=Lib.hid (HI A J hx)
     clear D HI F A;go_wp2_with fail;go_region
     go_wp2_with(first
      | (at_builtin;refine fq (S:=bY) (Z:=Z) (o:=⟨some 29,_,_,_,_,_⟩) sdK rfl _ _ rfl j.heap.size _ o rfl (f.out.1.kp ((Kp.refl wr).alloc _).drew) _ [s] rfl (SE.litZ (S:=bY) (w:=wr.drew) 90 (ah.out wr.drew _ f.out.2.drew (λg t=>(f.out.1.lt g t).1)) rfl) (by exact y.1) (Js f.out.2.size (by simp)) ?_;intro v4 w4 o4 g4 _;have k4:Hid (Kp j w4):=Kp.grown (f.out.2.alloc _).drew g4 (λk m=>(f.out.1.lt k m).1);have O4:=Lib.hid o4;obtain⟨e0,e1⟩:=ad.out w4 k4.out)
      | (at_builtin;refine fq (S:=bY) (Z:=Z) (o:=⟨some 36,_,_,_,_,_⟩) sdK rfl _ _ rfl j.heap.size _ (o++[s]) rfl (O4.out.kp ((Kp.refl w4).alloc _)) _ [⟨XN,XS⟩] rfl (SE.litZ (S:=bY) (w:=w4) 90 (K.out w4 _ k4.out (λg t=>(O4.out.lt g t).1)) rfl) (by rw[Jc];exact y.2) (Js k4.out.size (by simp)) ?_;intro v5 M I g5 _;have O:Hid (Kp j M):=Kp.grown (k4.out.alloc _) g5 (λk m=>(O4.out.lt k m).1)))
     go_roundw
     case rel=>exact⟨k+1,true,_,by omega,by go_num,rfl,I,L.out,O.out⟩
     case measure=>simp[intOf];omega
    ·have L:=Lib.hid (D A J (by omega))
     have ap:¬SN<XN:=hx;clear D HI F A;go_wp2_with fail;go_region
     go_wp2_with(at_builtin;refine fq (S:=bY) (Z:=Z) (o:=⟨some 36,_,_,_,_,_⟩) sdK rfl _ _ rfl j.heap.size _ o rfl (f.out.1.kp ((Kp.refl wr).alloc _).drew) _ [⟨XN,XS⟩] rfl (SE.litZ (S:=bY) (w:=wr.drew) 90 (K.out wr.drew _ f.out.2.drew (λg t=>(f.out.1.lt g t).1)) rfl) (by exact y.1) (Js f.out.2.size (by simp)) ?_;intro v5 M I g5 _;have O:Hid (Kp j M):=Kp.grown (f.out.2.alloc _).drew g5 (λk m=>(f.out.1.lt k m).1))
     go_roundw
     case rel=>exact⟨k+1,false,_,by omega,by go_num,rfl,I,L.out,O.out⟩
     case measure=>simp[intOf];omega
   ·have L:=Lib.hid (F A J)
    clear D HI F A;go_wp2_with fail;go_region
    go_wp2_with(at_builtin;refine fq (S:=bY) (Z:=Z) (o:=⟨some 36,_,_,_,_,_⟩) sdK rfl _ _ rfl j.heap.size _ o rfl (f.out.1.kp ((Kp.refl wr).alloc _).drew) _ [⟨XN,XS⟩] rfl (SE.litZ (S:=bY) (w:=wr.drew) 90 (K.out wr.drew _ f.out.2.drew (λg t=>(f.out.1.lt g t).1)) rfl) (by exact y.1) (Js f.out.2.size (by simp)) ?_;intro v5 M I g5 _;have O:Hid (Kp j M):=Kp.grown (f.out.2.alloc _).drew g5 (λk m=>(f.out.1.lt k m).1))
    go_roundw
    case rel=>exact⟨k+1,true,_,by omega,by go_num,rfl,I,L.out,O.out⟩
    case measure=>simp[intOf];omega
  ·obtain rfl:k=N:=by omega
   have y:o.length+1<=1000000:=by omega
   clear u E p ab HU;cases b
   ·have L:=Lib.hid (H.out o A)
    clear A H G;go_wp2_with(at_builtin;refine fq (S:=bY) (Z:=Z) (o:=⟨some 42,_,_,_,_,_⟩) sdK rfl _ _ rfl j.heap.size _ o rfl (f.out.1.kp ((Kp.refl wr).alloc _)) _ [s] rfl (SE.litZ (S:=bY) (w:=wr) 90 (ah.out wr _ f.out.2 (λg t=>(f.out.1.lt g t).1)) rfl) (by exact y) (Js f.out.2.size (by simp)) ?_;intro v5 M I g5 _;have O:Hid (Kp j M):=Kp.grown (f.out.2.alloc _) g5 (λk m=>(f.out.1.lt k m).1))
    rw[L.out] at I;have KK:=Lib.hid (HB.out.2.trans O.out);go_ret;exact⟨⟨_,rfl,I.se,cO (C:=j.heap.size) (λg t=>(I.lt g t).1) λg t=>Jh (HZ.out g t) HB.out.2.size⟩,KK.out⟩
   ·have L:=Lib.hid (G.out o A)
    clear A H G;have HF:Hid (SZ bY Z wr (.slice ao no co) aj/\Kp w wr):=⟨by rw[<-L.out];exact⟨f.out.1.se,cO (C:=j.heap.size) (λg t=>(f.out.1.lt g t).1) λg t=>Jh (HZ.out g t) HB.out.2.size⟩,HB.out.2.trans f.out.2⟩;go_wp2_with fail;go_ret;exact⟨⟨_,rfl,HF.out.1⟩,HF.out.2⟩
theorem bk.at (h:bk t K){x:Nat}(a:x<t.length):∃ j q,x=nd j q/\j<=K/\q<2 ^ (K - j):=ir K x (by rw[<-h.len];exact a)
theorem Gg (vt:Value)(t:List Nod)(K j q:Nat)(d:Int)(w:World)(hT:bk t K)(ht:NL w vt t)(hj:j+1<=K)(hq:q<2 ^ (K - (j+1)))(hs:d=0\/d=1)(ag:(ats t (nd (j+1) q)).kind=2):
  Calls prog 157 #[vt,.int .i64 ((nd (j+1) q:Nat):Int),.int .i64 d] w λe w'=>(∃ r,e=.returned (.tuple #[r,.int .i64 0])/\Ow 5 w' w.heap.size r (bF ([3]++aI (ats t (nd (j+1) q)).pub++aI (ats t (nd (j+1) q)).hash++aI (bQ t (ats t (nd (j+1) q)).un j (dX d q)))))/\Kp w w':=by
 have U:=aj;obtain⟨x1,x2⟩:=hT.lt hj hq;obtain⟨b,ad,c,p,aa,h,rfl,H⟩:=ht.node x1;have s:=Lib.hid H.2;obtain⟨c0,c1,c2,c3,c4⟩:=Jb H.kind (Jb H.name (Jb H.pubC (Jb H.unC H.hashC)));rw[ag] at c0;have B:=Lib.hid (hT.node (nd (j+1) q));obtain⟨k1,V⟩:=qe hj hq;obtain⟨_,y1,y2⟩:=dW hT.le hj hq;obtain⟨f1,f2,f3⟩:=fD (j:=j) (q:=q) y1 y2;have D:=Lib.hid (λW=>lK ((nd (j+1) q:Nat):Int) W);have Q:=Lib.hid (λW=>lM ((nd (j+1) q:Nat):Int) W);rw[f1,f2] at D;rw[f1,f3] at Q;have E:Hid (∀ W vg,Kp w W->RI W vg (ats t (nd (j+1) q)).un->Calls prog 192 #[.slice (some ⟨b,ad,none⟩) t.length c,.int .i64 ((nd j (dX d q):Nat):Int),vg] W λe w'=>(∃ r,e=.returned r/\Ow 5 w' W.heap.size r (bQ t (ats t (nd (j+1) q)).un j (dX d q)))/\Kp W w'):=λW vg l hg=>
  yy t K hT j (dX d q) W _ vg _ (by omega) (ht.kp l) hg (by unfold dX;split <;> assumption)
 have ab:=Lib.hid (ly t (ats t (nd (j+1) q)).un j (dX d q));obtain⟨L,F,I,rfl⟩:=az H.2.pub;obtain⟨M,G,J,rfl⟩:=az H.2.hash;obtain⟨au,nu,cu,rfl⟩:=H.2.un.sl;have lp:=ff (x:=(ats t (nd (j+1) q)).pub) (by have:=B.out.pub;omega);have lh:=ff (x:=(ats t (nd (j+1) q)).hash) (by have:=B.out.hash;omega);have ae:=B.out.pub;have af:=B.out.hash;have z1:¬((nd (j+1) q:Nat):Int)<0:=by omega
 have z2:¬(t.length:Int)<=((nd (j+1) q:Nat):Int):=by omega
 have z5:((nd (j+1) q:Nat):Int)<(t.length:Int):=by omega
 clear B;generalize bQ t (ats t (nd (j+1) q)).un j (dX d q)=DG at *;have lr:=ff (x:=DG) (by have:=ab.out;omega);have g:Hid ((aI (ats t (nd (j+1) q)).pub).length<=42/\(aI (ats t (nd (j+1) q)).hash).length<=42/\(aI DG).length<=40):=⟨by omega,by omega,by have:=ab.out;omega⟩;obtain⟨OX,Y⟩:∃ OX,nd j (dX d q)=OX:=⟨_,rfl⟩;rw[Y] at E;have R:Hid ((d=0->nd j (2*q+1)=OX)/\(d=1->nd j (2*q)=OX)):=by
  rw[<-Y];exact⟨λh=>by rw[h];rfl,λh=>by rw[h];rfl⟩
 clear hT ht H hq k1 V y1 y2 f1 f2 f3 hj lp lh ae af lr ab Y;generalize nd j (2*q)=XL at *;generalize nd j (2*q+1)=XR at *;generalize nd (j+1) q=X at *;generalize t.length=TL at *;generalize ats t X=m at *;rcases hs with rfl|rfl
 ·have hx:=R.out.1 rfl
  subst hx;go_enter func157,ntmps157;go_wp2_with fail;refine(D.out _).mono ?_;rintro _ _ ⟨rfl,rfl⟩;go_wp2_with fail;refine(Q.out _).mono ?_;rintro _ _ ⟨rfl,rfl⟩;go_wp2_with fail;obtain⟨z,k⟩:∃ z,w.alloc (.cells #[.int .i64 2,.int .i64 m.name,.slice L F I,.slice au nu cu,.slice M G J] 81)=z:=⟨_,rfl⟩;rw[k];have u:Hid (Bx z w.heap.size 81 #[.int .i64 2,.int .i64 m.name,.slice L F I,.slice au nu cu,.slice M G J]):=by rw[<-k];exact Bx.new _ _ _
  have o:Hid (Kp w z):=by rw[<-k];exact(Kp.refl _).alloc _
  clear k D Q c0 c1 c2 c3 c4;refine(E.out _ _ o.out (s.out.un.kp o.out)).mono ?_;rintro _ w2 ⟨⟨r2,rfl,o2⟩,V⟩;go_wp2_with fail;refine(il _ DG w2 o2.rd).mono ?_;rintro _ a ⟨⟨r3,rfl,o3⟩,k3⟩;have i:Kp z a:=Kp.trans V k3;have P:Hid (Kp w a):=o.out.trans i;have C:Hid (∀ W,Kp a W->Rd W r3 (aI DG)):=λW l=>o3.rd.kp l
  have f:Hid (∀ W,Kp a W->W.cell? ⟨w.heap.size,2,none⟩=some (.slice L F I)/\W.cell? ⟨w.heap.size,4,none⟩=some (.slice M G J)):=λW l=>⟨((u.out.kp i).kp l).cell 2,((u.out.kp i).kp l).cell 4⟩
  have HP:Hid (∀ W,Kp a W->Calls prog 191 #[.slice L F I] W λe w'=>(∃ r,e=.returned r/\Ow 5 w' W.heap.size r (aI m.pub))/\Kp W w'):=λW l=>il _ m.pub W (s.out.pub.kp (P.out.trans l))
  have HH:Hid (∀ W,Kp a W->Calls prog 191 #[.slice M G J] W λe w'=>(∃ r,e=.returned r/\Ow 5 w' W.heap.size r (aI m.hash))/\Kp W w'):=λW l=>il _ m.hash W (s.out.hash.kp (P.out.trans l))
  have HL:Hid (∀ W:World,Ow 5 (W.alloc (.cells #[.int .u8 3] 5)) W.heap.size (.slice (some ⟨W.heap.size,0,none⟩) 1 1) [3]):=λW=>Ow.lit W _ _ 1 _ [3] (Ja _) rfl (by omega) rfl
  have KB:Hid (Kp a a.drew):=gL a;have KA:Hid (Kp a (a.alloc (.cells #[.int .u8 3] 5)).drew):=(((Kp.refl a).alloc _)).drew;have S0:=Lib.hid (f.out _ KB.out);have SA:=Lib.hid (f.out _ KA.out);have SC:=(f.out _ (Kp.refl a));clear o2 o3 V k3 E u o s i R;go_wp2_with fail;clear SC;go_region_held3 (λW=>W.cell? ⟨w.heap.size,2,none⟩=some (.slice L F I)/\W.cell? ⟨w.heap.size,4,none⟩=some (.slice M G J))
   (first|with_reducible exact S0.out|with_reducible exact SA.out|with_reducible exact S4.out|with_reducible exact SB.out|with_reducible exact S5.out|with_reducible exact S6.out|with_reducible exact S7.out|with_reducible exact S8.out|with_reducible exact S9.out)
   (first
    | (go_at_call 185;refine(jH _ _ _ o8.rd (by simp only[Jc,Jo,Jt];have:=g.out;omega)).mono ?_;rintro _ w9 ⟨⟨r9,rfl,o9⟩,k9⟩;have K9:=Lib.hid (K8.out.trans k9);have S9:=Lib.hid (f.out _ K9.out))
    | (refine eI U rfl (.tmp 64) (.tmp 65) rfl a.heap.size _ _ rfl o7 _ _ rfl (C.out _ O.out) (by simp only[Jc,Jo,Jt];have:=g.out;omega) O.out.size ?_;intro v8 w8 o8 g8;have K8:=Lib.hid (Kp.grown O.out g8 o7.own_ge);have S8:=Lib.hid (f.out _ K8.out))
    | (refine eI U rfl (.tmp 60) (.tmp 63) rfl a.heap.size _ _ rfl (S.kp k6) _ _ rfl o6.rd (by simp only[Jc,Jo,Jt];have:=g.out;omega) K6.out.size ?_;intro v7 w7 o7 g7;have O:=Lib.hid (Kp.grown K6.out g7 S.own_ge);have S7:=Lib.hid (f.out _ O.out))
    | (go_at_call 191;refine(HH.out _ A.out).mono ?_;rintro _ w6 ⟨⟨r6,rfl,o6⟩,k6⟩;have K6:=Lib.hid (A.out.trans k6);have S6:=Lib.hid (f.out _ K6.out))
    | (refine eI U rfl (.tmp 56) (.tmp 59) rfl a.heap.size _ _ rfl y _ _ rfl T.rd (by simp only[Jc,Jo,Jt];have:=g.out;omega) n.out.size ?_;intro v5 w5 S Z;have A:=Lib.hid (Kp.grown n.out Z y.own_ge);have S5:=Lib.hid (f.out _ A.out))
    | (refine eI U rfl (.tmp 56) (.tmp 59) rfl a.heap.size _ _ rfl v _ _ rfl (T.rd.kp ((Kp.refl _).alloc _)) (by simp only[Jc,Jo,Jt];have:=g.out;omega) (n.out.alloc _).size ?_;intro v5 w5 S Z;have A:=Lib.hid (Kp.grown (n.out.alloc _) Z v.own_ge);have S5:=Lib.hid (f.out _ A.out))
    | (go_at_call 191;refine(HP.out (a.alloc (.cells #[.int .u8 3] 5)).drew KA.out).mono ?_;rintro _ w4 ⟨⟨r4,rfl,T⟩,N⟩;have n:=Lib.hid (KA.out.trans N);have S4:=Lib.hid (f.out _ n.out);have y:=((HL.out a).kp (gL _)).kp N)
    | (go_at_call 191;refine(HP.out a.drew KB.out).mono ?_;rintro _ w4 ⟨⟨r4,rfl,T⟩,N⟩;have n:=Lib.hid (KB.out.trans N);have S4:=Lib.hid (f.out _ n.out);have SB:=Lib.hid (f.out _ (n.out.alloc (.cells #[.int .u8 3] 5)));have v:=(HL.out w4).mono n.out.size))
  all_goals
   go_wp2_with fail;go_ret2;exact⟨⟨_,rfl,o9.mono (P.out.trans K8.out).size⟩,P.out.trans K9.out⟩
 ·have hx:=R.out.2 rfl
  subst hx;go_enter func157,ntmps157;go_wp2_with fail;refine(D.out _).mono ?_;rintro _ _ ⟨rfl,rfl⟩;go_wp2_with fail;obtain⟨z,k⟩:∃ z,w.alloc (.cells #[.int .i64 2,.int .i64 m.name,.slice L F I,.slice au nu cu,.slice M G J] 81)=z:=⟨_,rfl⟩;rw[k];have u:Hid (Bx z w.heap.size 81 #[.int .i64 2,.int .i64 m.name,.slice L F I,.slice au nu cu,.slice M G J]):=by rw[<-k];exact Bx.new _ _ _
  have o:Hid (Kp w z):=by rw[<-k];exact(Kp.refl _).alloc _
  clear k D Q c0 c1 c2 c3 c4;refine(E.out _ _ o.out (s.out.un.kp o.out)).mono ?_;rintro _ w2 ⟨⟨r2,rfl,o2⟩,V⟩;go_wp2_with fail;refine(il _ DG w2 o2.rd).mono ?_;rintro _ a ⟨⟨r3,rfl,o3⟩,k3⟩;have i:Kp z a:=Kp.trans V k3;have P:Hid (Kp w a):=o.out.trans i;have C:Hid (∀ W,Kp a W->Rd W r3 (aI DG)):=λW l=>o3.rd.kp l
  have f:Hid (∀ W,Kp a W->W.cell? ⟨w.heap.size,2,none⟩=some (.slice L F I)/\W.cell? ⟨w.heap.size,4,none⟩=some (.slice M G J)):=λW l=>⟨((u.out.kp i).kp l).cell 2,((u.out.kp i).kp l).cell 4⟩
  have HP:Hid (∀ W,Kp a W->Calls prog 191 #[.slice L F I] W λe w'=>(∃ r,e=.returned r/\Ow 5 w' W.heap.size r (aI m.pub))/\Kp W w'):=λW l=>il _ m.pub W (s.out.pub.kp (P.out.trans l))
  have HH:Hid (∀ W,Kp a W->Calls prog 191 #[.slice M G J] W λe w'=>(∃ r,e=.returned r/\Ow 5 w' W.heap.size r (aI m.hash))/\Kp W w'):=λW l=>il _ m.hash W (s.out.hash.kp (P.out.trans l))
  have HL:Hid (∀ W:World,Ow 5 (W.alloc (.cells #[.int .u8 3] 5)) W.heap.size (.slice (some ⟨W.heap.size,0,none⟩) 1 1) [3]):=λW=>Ow.lit W _ _ 1 _ [3] (Ja _) rfl (by omega) rfl
  have KB:Hid (Kp a a.drew):=gL a;have KA:Hid (Kp a (a.alloc (.cells #[.int .u8 3] 5)).drew):=(((Kp.refl a).alloc _)).drew;have S0:=Lib.hid (f.out _ KB.out);have SA:=Lib.hid (f.out _ KA.out);have SC:=(f.out _ (Kp.refl a));clear o2 o3 V k3 E u o s i R;go_wp2_with fail;clear SC;go_region_held3 (λW=>W.cell? ⟨w.heap.size,2,none⟩=some (.slice L F I)/\W.cell? ⟨w.heap.size,4,none⟩=some (.slice M G J))
   (first|with_reducible exact S0.out|with_reducible exact SA.out|with_reducible exact S4.out|with_reducible exact SB.out|with_reducible exact S5.out|with_reducible exact S6.out|with_reducible exact S7.out|with_reducible exact S8.out|with_reducible exact S9.out)
   (first
    | (go_at_call 185;refine(jH _ _ _ o8.rd (by simp only[Jc,Jo,Jt];have:=g.out;omega)).mono ?_;rintro _ w9 ⟨⟨r9,rfl,o9⟩,k9⟩;have K9:=Lib.hid (K8.out.trans k9);have S9:=Lib.hid (f.out _ K9.out))
    | (refine eI U rfl (.tmp 64) (.tmp 65) rfl a.heap.size _ _ rfl o7 _ _ rfl (C.out _ O.out) (by simp only[Jc,Jo,Jt];have:=g.out;omega) O.out.size ?_;intro v8 w8 o8 g8;have K8:=Lib.hid (Kp.grown O.out g8 o7.own_ge);have S8:=Lib.hid (f.out _ K8.out))
    | (refine eI U rfl (.tmp 60) (.tmp 63) rfl a.heap.size _ _ rfl (S.kp k6) _ _ rfl o6.rd (by simp only[Jc,Jo,Jt];have:=g.out;omega) K6.out.size ?_;intro v7 w7 o7 g7;have O:=Lib.hid (Kp.grown K6.out g7 S.own_ge);have S7:=Lib.hid (f.out _ O.out))
    | (go_at_call 191;refine(HH.out _ A.out).mono ?_;rintro _ w6 ⟨⟨r6,rfl,o6⟩,k6⟩;have K6:=Lib.hid (A.out.trans k6);have S6:=Lib.hid (f.out _ K6.out))
    | (refine eI U rfl (.tmp 56) (.tmp 59) rfl a.heap.size _ _ rfl y _ _ rfl T.rd (by simp only[Jc,Jo,Jt];have:=g.out;omega) n.out.size ?_;intro v5 w5 S Z;have A:=Lib.hid (Kp.grown n.out Z y.own_ge);have S5:=Lib.hid (f.out _ A.out))
    | (refine eI U rfl (.tmp 56) (.tmp 59) rfl a.heap.size _ _ rfl v _ _ rfl (T.rd.kp ((Kp.refl _).alloc _)) (by simp only[Jc,Jo,Jt];have:=g.out;omega) (n.out.alloc _).size ?_;intro v5 w5 S Z;have A:=Lib.hid (Kp.grown (n.out.alloc _) Z v.own_ge);have S5:=Lib.hid (f.out _ A.out))
    | (go_at_call 191;refine(HP.out (a.alloc (.cells #[.int .u8 3] 5)).drew KA.out).mono ?_;rintro _ w4 ⟨⟨r4,rfl,T⟩,N⟩;have n:=Lib.hid (KA.out.trans N);have S4:=Lib.hid (f.out _ n.out);have y:=((HL.out a).kp (gL _)).kp N)
    | (go_at_call 191;refine(HP.out a.drew KB.out).mono ?_;rintro _ w4 ⟨⟨r4,rfl,T⟩,N⟩;have n:=Lib.hid (KB.out.trans N);have S4:=Lib.hid (f.out _ n.out);have SB:=Lib.hid (f.out _ (n.out.alloc (.cells #[.int .u8 3] 5)));have v:=(HL.out w4).mono n.out.size))
  all_goals
   go_wp2_with fail;go_ret2;exact⟨⟨_,rfl,o9.mono (P.out.trans K8.out).size⟩,P.out.trans K9.out⟩
theorem Gh (o:Value)(t:List Nod)(K:Nat)(x d:Int)(w:World)(n:bk t K)(k:NL w o t):
  Calls prog 157 #[o,.int .i64 x,.int .i64 d] w λe w'=>(∃ r,e=.returned (.tuple #[r,.int .i64 (gA t x d)])/\Ow 5 w' w.heap.size r (dY t x d))/\Kp w w':=by
 by_cases h:0<=x/\x<t.length/\0<=d/\d<=1
 ·obtain⟨X,rfl⟩:=Jq h.1
  have v:X<t.length:=by omega
  by_cases l:(ats t X).kind=2
  ·have f:gA t (X:Int) d=0:=by unfold gA;rw[if_pos h,Jm,if_pos l]
   have i:dY t (X:Int) d=oT t X d:=by unfold dY;rw[if_pos f,Jm]
   rw[f,i];obtain⟨j,q,rfl,u,s⟩:=n.at v;have L:=dW n.le u s;cases j with
   | zero=>have A:=n.par _ l;have z:=kO q;omega
   | succ j=>
    unfold oT;rw[gg (j+1) q (by omega),jR (j+1) q (by omega),KP];exact Gg o t K j q d w n k u s (by omega) l
  ·have f:gA t (X:Int) d=11:=by unfold gA;rw[if_pos h,Jm,if_neg l]
   have i:dY t (X:Int) d=[]:=if_neg (by rw[f];decide);rw[f,i];obtain⟨b,y,c,p,aa,M,rfl,g⟩:=k.node v;obtain⟨Z,Y,W,V,U⟩:=Jb g.kind (Jb g.name (Jb g.pubC (Jb g.unC g.hashC)));obtain⟨ap,I,S,rfl⟩:=az g.2.pub;obtain⟨ah,J,T,rfl⟩:=az g.2.hash;obtain⟨au,H,R,rfl⟩:=g.2.un.sl;have G:¬(X:Int)<0:=by omega
   have F:¬(t.length:Int)<=(X:Int):=by omega
   have E:¬d<0:=by omega
   have D:¬1<d:=by omega
   have C:(X:Int)<(t.length:Int):=by omega
   have B:((ats t X).kind==2)=false:=Jd.2 l;clear h n k g f i;generalize t.length=TL at *;generalize ats t X=m at *;go_enter func157,ntmps157;go_wp2_with fail;go_ret2;exact⟨⟨_,rfl,Ow.nil _ _ _⟩,(Kp.refl _).alloc _⟩
 ·have f:gA t x d=1:=if_neg h
  have i:dY t x d=[]:=if_neg (by rw[f];decide);rw[f,i];obtain⟨a,c,rfl,A,z⟩:=k.shape;clear k f i;by_cases Q:x<0
  ·clear h
   go_enter func157,ntmps157;go_wp2_with fail;go_ret2;exact⟨⟨_,rfl,Ow.nil _ _ _⟩,Kp.refl _⟩
  ·by_cases P:(t.length:Int)<=x
   ·clear h
    go_enter func157,ntmps157;go_wp2_with fail;go_ret2;exact⟨⟨_,rfl,Ow.nil _ _ _⟩,Kp.refl _⟩
   ·by_cases O:d<0
    ·clear h
     go_enter func157,ntmps157;go_wp2_with fail;go_ret2;exact⟨⟨_,rfl,Ow.nil _ _ _⟩,Kp.refl _⟩
    ·have N:1<d:=by omega
     clear h;go_enter func157,ntmps157;go_wp2_with fail;go_ret2;exact⟨⟨_,rfl,Ow.nil _ _ _⟩,Kp.refl _⟩
def fB (t:List Nod)(i m:Nat):List Nod × List UInt8:=((aP t i).drop m).reverse.foldl (dB i) (t,[])
theorem Gi (h:(aP t i).length<=m):fB t i m=(t,[]):=by
 unfold fB;rw[List.drop_of_length_le h];rfl
theorem Gj (h:m<(aP t i).length):fB t i m=dB i (fB t i (m+1)) ((aP t i).getD m 0):=by
 unfold fB;rw[Kv h,List.reverse_cons,List.foldl_append,IU,IV h];rfl
theorem Gk (t:List Nod)(i:Nat):fB t i 0=eP t i:=by
 unfold fB eP;rw[List.drop_zero]
theorem Gl (d:bk t K)(h:i<2 ^ K)(m:Nat):bk (fB t i m).1 K/\(fB t i m).1.length=t.length/\((fB t i m).2.length=0\/(fB t i m).2.length=32):=by
 obtain⟨l,f,k⟩:=lO d.le d.len h;obtain⟨a,b,c,_⟩:=rH (t:=t) (i:=i) ((aP t i).drop m).reverse (t,[]) (λx g=>by
  obtain⟨j,e,rfl⟩:=JW (Mj (List.mem_reverse.1 g));have:=f j e;rwa [IU,IV e] at this) d rfl (.inl rfl)
 exact⟨a,b,c⟩
theorem Gm (aa:Value)(t:List Nod)(K:Nat)(i:Int)(w:World)(j:bk t K)(f:NL w aa t)(m:¬bf t i):
  Calls prog 116 #[aa,.int .i64 i] w λe w'=>e=.returned (.tuple #[aa,.int .i64 11])/\Kp w w':=by
 have o:t.length<=100000:=by have:=j.len;have:=bP j.le;have:=bi K;omega
 have r:=Lib.hid (iP aa t w f o);have n:=iO (t:=t) o;obtain⟨a,c,rfl,p1,C⟩:=f.shape;by_cases B:0<=i
 ·obtain⟨k,rfl⟩:=Jq B
  by_cases A:k<lvs t
  ·have d:=lN A
   obtain⟨b,v,rfl,z,u⟩:=f.at (2*k) d;obtain⟨p,q,h,g⟩:=u (2*k) d;have F:=g.kind;have E:IntKind.i64.wrap (2*(k:Int))=((2*k:Nat):Int):=by rw[IW _ (by omega)];omega
   have D:((2*k:Nat):Int)<(t.length:Int):=by omega
   have x:(k:Int)<((lvs t:Nat):Int):=by omega
   have l:¬(ats t (2*k)).kind=1:=λl=>m ⟨by omega,by omega,by rw[Jm];exact l⟩
   generalize (ats t (2*k)).kind=X at *;generalize lvs t=L at *;generalize t.length=N at *;generalize 2*k=G at *;have y:(X==1)=false:=Jd.2 l;have s:(X != 1)=true:=KX.2 l;clear u g f z d m j;go_enter func116,ntmps116;go_wp2_with fail;refine r.out.mono ?_;rintro _ _ ⟨rfl,rfl⟩;go_wp2_with fail;go_ret2;exact⟨rfl,Kp.refl _⟩
  ·have x:¬(k:Int)<((lvs t:Nat):Int):=by omega
   generalize lvs t=L at *;generalize t.length=N at *;clear f m j;go_enter func116,ntmps116;go_wp2_with fail;refine r.out.mono ?_;rintro _ _ ⟨rfl,rfl⟩;go_wp2_with fail;go_ret2;exact⟨rfl,Kp.refl _⟩
 ·generalize t.length=N at *
  clear f r n o m j;go_enter func116,ntmps116;go_wp2_with fail;go_ret2;exact⟨rfl,Kp.refl _⟩
theorem Gn (aa:Value)(t:List Nod)(K i:Nat)(w:World)(hT:bk t K)(hu:NL w aa t)(hi:i<2 ^ K)(aI:(ats t (2*i)).kind=1):
  Calls prog 116 #[aa,.int .i64 (i:Int)] w λe w'=>(∃ r,e=.returned (.tuple #[r,.int .i64 0])/\NL w' r ((eP t i).1.set (2*i) (dc (ats (eP t i).1 (2*i)) (eP t i).2)))/\Kp w w':=by
 have S:=pr;have hK:=hT.le;have hl:=hT.len;have hp:=bP hK;have a0:=bi K;have a4:=bC K;obtain⟨q1,q2,q3⟩:=lO hK hl hi;have H:t.length<=100000:=by omega
 have HL:=Lib.hid (iP aa t w hu H);have ay:=Lib.hid (λW (hW:Kp w W)=>iP aa t W (hu.kp hW) H);have bh:i<lvs t:=by unfold lvs;omega
 obtain⟨e1,e2⟩:=vW hK hl hi;have HP:Hid (∀ W,Calls prog 48 #[.int .i64 (2*(i:Int)),.int .i64 ((lvs t:Nat):Int)] W λe w'=>(∃ v,e=.returned (.tuple #[v,.int .i64 0])/\ON 3 w' W.heap.size v (aP t i))/\Kp W w'):=λW=>by
  have:=vR (2*(i:Int)) ((lvs t:Nat):Int) W (by have:=iO H;omega);rwa [e1,e2] at this
 have HA:=Lib.hid (fun(v:Value) (hv:∀ g,v.ownBlock=some g->w.heap.size<=g) (W:World) (hW:Kp w W)=>hu.apart (v:=v) hW hv);have aj:Hid (fB t i K=(t,[])):=Gi (by rw[q3];exact Ja _);have aB:Hid (∀ m,m<K->fB t i m=dB i (fB t i (m+1)) ((aP t i).getD m 0)):=λm hm=>Gj (by rw[q3];exact hm)
 have Q:=Lib.hid (λm=>Gl hT hi m);have ai:Hid (∀ m,m<K->(aP t i).getD m 0<t.length):=λm hm=>q2 m (by rw[q3];exact hm)
 have R:=Lib.hid (λk h=>pz (aP t i) k h);have bc:Hid (((aP t i).map fun(n:Nat)=>(n:Int)).length=K):=by unfold Hid;rw[JI,q3]
 rw[<-Gk t i];have J:2*i<t.length:=by omega
 obtain⟨b,be,c,p,uu,hh,rfl,d⟩:=hu.node J;have c1:=d.kind;rw[aI] at c1;obtain⟨z1,z2,z3⟩:t.length<=2047/\0<t.length/\t.length<=1000000:=by omega
 have i2:IntKind.i64.wrap (2*(i:Int))=2*(i:Int):=IW _ (by omega);have i3:2*(i:Int)<(t.length:Int):=by omega
 have i4:(i:Int)<((lvs t:Nat):Int):=by omega
 have i5:(2*(i:Int)).toNat=2*i:=by omega
 generalize fB t i=G at *;rw[q3] at R;have HU:=Lib.hid hu;generalize aN:(aP t i).map (fun(n:Nat)=>(n:Int))=PI at *;have bb:Hid ((aP t i).map (fun(n:Nat)=>(n:Int))=PI):=aN;generalize aP t i=PT at *;generalize lvs t=L at *;obtain⟨N,hN⟩:∃ N,t.length=N:=⟨_,rfl⟩;have HN:=Lib.hid hN;rw[hN] at Q ai HL ay HU HA J z1 z2 z3 i3 ⊢;clear hu d hl hN e1 e2 q1 q2 q3 hK hp a4 a0 H aI aN hi;go_enter func116,ntmps116;go_wp2_with fail;refine HL.out.mono ?_;rintro _ _ ⟨rfl,rfl⟩;go_wp2_with(at_builtin;refine mB S rfl _ _ rfl w.heap.size _ [] rfl (NO.empty 81 w) _ t rfl (HA.out _ (λg hg=>by cases hg;exact Ja _) _ ((Kp.refl _).alloc _)) (by have:=HN.out;simp;omega) (by simp) ?_;intro v1 w1 o1 g1 _;have k1:Kp w w1:=Kp.grown ((Kp.refl _).alloc _) g1 (λk hk=>by cases hk;exact Ja _);rw[JR] at o1)
 obtain⟨o,cb,rfl,b1,b2,b3,b4,_⟩:=o1.form (by have:=HN.out;omega);rw[HN.out] at o1 b3 ⊢;have O1:=Lib.hid (Jb o1 k1);clear o1 g1 k1 HL HA c1;go_wp2_with fail;refine(ay.out _ O1.out.2).mono ?_;rintro _ _ ⟨rfl,rfl⟩;clear ay;go_wp2_with fail;refine(HP.out _).mono ?_;rintro _ w2 ⟨⟨pv,rfl,o2⟩,k2⟩;have aC:Hid (aQ (.slice (some ⟨o,0,none⟩) N cb) pv):=o2.oi.apart (λg hg=>by cases hg;exact b2);have r2:=o2.oi.ri;rw[bb.out] at r2;obtain⟨ap,cp,e2,p2,s2⟩:=r2.shape;subst e2;rw[bc.out] at r2 p2 aC ⊢;have aw:=Lib.hid r2;have HO:=Lib.hid (O1.out.1.kp k2);have HK:=Lib.hid (O1.out.2.trans k2);have a9:=Jh b2 k2.size;clear HP O1 o2 r2 k2;go_wp2_with fail;have bj:IntKind.i64.wrap ((K:Int) - 1)=(K:Int) - 1:=IW _ (by have:=hT.le;omega);go_loopw[9,10] (λx kv wr=>∃ m:Nat,m<=K/\kv=.int .i64 ((m:Int) - 1)/\Rd wr x (G m).2/\aQ (.slice (some ⟨o,0,none⟩) N cb) x/\NO 81 wr w.heap.size (.slice (some ⟨o,0,none⟩) N cb) (G m).1/\RI wr (.slice ap K cp) PI/\Kp w wr/\o<wr.heap.size) (λ_ kv _=>(intOf kv+1).toNat)
 case atStart=>exact⟨K,Ja _,congrArg _ (IntWalk.wrap64_in _ (by have:=hT.le;omega)),by rw[aj.out];exact cL _,aQ.nil _ _ _,by rw[aj.out];exact HO.out,aw.out,HK.out,a9⟩
 case round=>
  obtain⟨m,hm,rfl,ae,aq,ho,ad,an,a5⟩:=hrel;have z:=Lib.hid (Jb ae aq);have M:=Lib.hid ho;have ah:=Lib.hid ad;have P:=Lib.hid (Jb an a5);obtain⟨am,E,aE⟩:=Q.out m;have TK:=Lib.hid am;obtain⟨xt,nt,s,rfl⟩:=az ae;cases m with
  | zero=>
   obtain⟨a7,a8,ee,_,_,_,_,C⟩:=ho.form (by omega);rw[E] at ee C;simp only[Ji,JL,Kn] at ee;obtain⟨⟨rfl,_,_⟩,_,rfl⟩:=ee;obtain⟨p,q,hh,d,a1,a2,a3⟩:=C (2*i) J;have A:=Lib.hid d.2;have O:=Lib.hid d;have D:=Lib.hid (Jb a1 a2);have c0:=d.kind;have c1:=d.name;have c2:=d.pubC;have c3:=d.unC;have c4:=d.hashC;obtain⟨V,Z,j,rfl⟩:=az d.2.pub;obtain⟨U,Y,f,rfl⟩:=d.2.un.sl;obtain⟨xh,nh,aZ,rfl⟩:=az d.2.hash;have af:=Lib.hid E;clear aB Q ai R aj HO aw HK ae aq ho ad an C d a1 a2 am aE E TK ah aC a3;obtain⟨X,hX⟩:∃ X,2*i=X:=⟨_,rfl⟩;have HX:=Lib.hid hX;have bg:IntKind.i64.wrap (2*(i:Int))=(X:Int):=by rw[i2];omega
   have bf:(X:Int)<(N:Int):=by omega
   have i0:((0:Nat):Int) - 1 = -1:=rfl;rw[hX] at c0 c1 c2 c3 c4 A J ⊢;rw[i0];clear i2 i3 i5 hX O;go_wp2_with(refine kZ iQ rfl rfl (.tmp 100) (.tmp 99) rfl w.heap.size o cb N (G 0).1 (M.out.kp ((Kp.refl _).alloc _)) X (by rw[af.out];exact J) (dc (ats (G 0).1 X) (G 0).2) (.slice V Z j) (.slice U Y f) (.slice xt nt s) rfl rfl ⟨A.out.pub.kp ((Kp.refl _).alloc _),A.out.un.kp ((Kp.refl _).alloc _),z.out.1.kp ((Kp.refl _).alloc _)⟩ D.out.1 D.out.2 z.out.2 ?_;intro w5 o5 g5)
   have K5:=Lib.hid (Kp.grown (v:=.slice (some ⟨o,0,none⟩) N cb) (P.out.1.alloc _) g5 (λk hk=>by cases hk;exact b1));have O5:=Lib.hid o5.nl;clear o5 g5 c0 c1 c2 c3 c4 A D z M P;go_wp2_with fail;go_ret2;exact⟨⟨_,rfl,by rw[HX.out];exact O5.out⟩,K5.out⟩
  | succ m=>
   have y:m<K:=by omega
   obtain⟨g1,o1,rfl,_,aK⟩:=ad.at m y;have h1:=aK m y;rw[R.out m y] at h1;have aW:=Lib.hid (R.out m y);have ao:=ai.out m y;have ag:=aB.out m y;have i1:IntKind.i64.wrap ((m:Int)+1 - 1)=(m:Int):=by rw[IW _ (by have:=hT.le;omega)];omega
   have i6:((m:Int)+1 - 1)=(m:Int):=by omega
   have i7:((PT.getD m 0:Nat):Int)<(N:Int):=by omega
   have i8:(m:Int)<(K:Int):=by omega
   have i9:IntKind.i64.wrap ((m:Int) - 1)=(m:Int) - 1:=IW _ (by have:=hT.le;omega);obtain⟨a7,a8,ee,_,_,_,_,C⟩:=ho.form (by omega);rw[E] at ee C;simp only[Ji,JL,Kn] at ee;obtain⟨⟨rfl,_,_⟩,_,rfl⟩:=ee;obtain⟨p,q,hh,d,a1,a2,a3⟩:=C (PT.getD m 0) ao;have c0:=d.kind;have c1:=d.name;have c2:=d.pubC;have c3:=d.unC;have c4:=d.hashC;have A:=Lib.hid d.2;have O:=Lib.hid d;have D:=Lib.hid (Jb a1 a2);obtain⟨V,Z,j,rfl⟩:=az d.2.pub;obtain⟨U,Y,f,rfl⟩:=d.2.un.sl;obtain⟨xh,nh,aZ,rfl⟩:=az d.2.hash;have af:=Lib.hid E;have ba:=Lib.hid (Q.out m);clear aB Q ai R aj HO aw HK ae aq ho ad an C d a1 a2 a3 am aE aK E;generalize PT.getD m 0=X at *;have i0:((m+1:Nat):Int) - 1=(m:Int):=by omega
   rw[i0];by_cases I:(ats (G (m+1)).1 X).kind=2
   ·have e9:G m=((G (m+1)).1.set X (dc (ats (G (m+1)).1 X) (G (m+1)).2),dY ((G (m+1)).1.set X (dc (ats (G (m+1)).1 X) (G (m+1)).2)) (X:Int) (if X<2*i then 1 else 0)):=by rw[ag];exact if_pos I
    have av:(G m).1=(G (m+1)).1.set X (dc (ats (G (m+1)).1 X) (G (m+1)).2):=by rw[e9]
    have aO:(G m).2=dY (G m).1 (X:Int) (if X<2*i then 1 else 0):=by rw[av,e9]
    have aY:=Lib.hid av;have al:=Lib.hid aO;have aV:=Lib.hid I;rw[I] at c0;obtain⟨NM,au⟩:∃ NM,(ats (G (m+1)).1 X).name=NM:=⟨_,rfl⟩;have aU:=Lib.hid au;rw[au] at c1;clear ag e9 av aO I au;go_wp2_with fail;have bx:=Bx.new wr 81 #[.int .i64 2,.int .i64 NM,.slice V Z j,.slice U Y f,.slice xt nt s];have a:Hid (Kp wr (wr.alloc (.cells #[.int .i64 2,.int .i64 NM,.slice V Z j,.slice U Y f,.slice xt nt s] 81))):=(Kp.refl _).alloc _;obtain⟨W4,aM⟩:∃ W4,wr.alloc (.cells #[.int .i64 2,.int .i64 NM,.slice V Z j,.slice U Y f,.slice xt nt s] 81)=W4:=⟨_,rfl⟩;rw[aM] at bx a ⊢;obtain⟨d0,d1,d2,d4,d5⟩:_/\_/\_/\_/\_:=⟨bx.cell 0,bx.cell 1,bx.cell 2,bx.cell 3,bx.cell 4⟩;have ax:=M.out.kp a.out;have H:=a.out.cell h1;have F:=ax.there X (by rw[af.out];exact ao);have j0:=(F 0 (by omega)).2;have j1:=(F 1 (by omega)).2;have j2:=(F 2 (by omega)).2;have j3:=(F 3 (by omega)).2;have j4:=(F 4 (by omega)).2;rw[Lr] at j0;obtain⟨q0,q1,q2,q3,q4⟩:_/\_/\_/\_/\_:=⟨a.out.cell c0,a.out.cell c1,a.out.cell c2,a.out.cell c3,a.out.cell c4⟩;have ab:=ax.stored X (by rw[af.out];exact ao) (dc (ats (G (m+1)).1 X) (G (m+1)).2) (.slice V Z j) (.slice U Y f) (.slice xt nt s) ⟨A.out.pub.kp a.out,A.out.un.kp a.out,z.out.1.kp a.out⟩ D.out.1 D.out.2 z.out.2;rw[<-aY.out] at ab;have aH:bT (dc (ats (G (m+1)).1 X) (G (m+1)).2) (.slice V Z j) (.slice U Y f) (.slice xt nt s)=[.int .i64 2,.int .i64 NM,.slice V Z j,.slice U Y f,.slice xt nt s]:=by
     rw[<-aU.out,<-aV.out];rfl
    rw[aH] at ab;have aS:=Lib.hid ab;have aA:=Lib.hid (Jb (P.out.1.trans a.out) a.out.size);have aT:=Lib.hid (ah.out.kp a.out);clear F ab aH ax aM h1 c0 c1 c2 c3 c4 A O D z M ah aV aU bx TK aY;go_region
    clear d0 d1 d2 d4 d5 H j0 j1 j2 j3 j4 q0 q1 q2 q3 q4;have l:=aS.out;obtain⟨W3,ar⟩:∃ W3,W4.setCells o (X*5) [.int .i64 2,.int .i64 NM,.slice V Z j,.slice U Y f,.slice xt nt s]=W3:=⟨_,rfl⟩;have aL:((((W4.setCell ⟨o,X*5,none⟩ (.int .i64 2)).setCell ⟨o,X*5+1,none⟩ (.int .i64 NM)).setCell ⟨o,X*5+2,none⟩ (.slice V Z j)).setCell ⟨o,X*5+3,none⟩ (.slice U Y f)).setCell ⟨o,X*5+4,none⟩ (.slice xt nt s)=W3:=ar;rw[ar] at l;rw[aL];have r5:=(aT.out.grown9 (v:=.slice (some ⟨o,0,none⟩) N cb) l.2 aC.out).kp (gL W3);have k5:Kp w W3.drew:=(Kp.grown (v:=.slice (some ⟨o,0,none⟩) N cb) aA.out.1 l.2 (λk hk=>by cases hk;exact b1)).trans (gL W3);have b5:o<W3.drew.heap.size:=by
     have h1:=l.2.size;have h2:=aA.out.2;have h3:=(gL W3).size;omega
    have O5:=Lib.hid (l.1.kp (gL W3));clear l aS aT aA a aL ar;generalize W3.drew=W5 at *;obtain⟨_,_,aR,_,aJ⟩:=r5.at m y;simp only[JL,Kn,and_true] at aR;obtain⟨rfl,rfl⟩:=aR;have h5:=aJ m y;have K5:=Lib.hid k5;have R5:=Lib.hid r5;have ak:Hid (∀ u:Int,Calls prog 157 #[.slice (some ⟨o,0,none⟩) N cb,.int .i64 (X:Int),.int .i64 u] W5 λe w'=>(∃ r,e=.returned (.tuple #[r,.int .i64 (gA (G m).1 (X:Int) u)])/\Ow 5 w' W5.heap.size r (dY (G m).1 (X:Int) u))/\Kp W5 w'):=λu=>Gh _ _ K (X:Int) u W5 ba.out.1 O5.out.nl
    clear aJ r5 k5;rw[aW.out] at h5;by_cases aG:X<2*i
    ·have aF:(X:Int)<2*(i:Int):=by omega
     have T:Hid ((G m).2=dY (G m).1 (X:Int) 1):=by have:=al.out;rw[if_pos aG] at this;exact this
     have B:=Lib.hid (ak.out 1);clear ak al;generalize gA (G m).1 (X:Int) 1=AE at *;go_wp2_with fail;refine B.out.mono ?_;rintro _ w6 ⟨⟨r6,rfl,o6⟩,k6⟩;have aD:Hid (aQ (.slice (some ⟨o,0,none⟩) N cb) r6):=λg hg x n c e h0 he=>by
      have h1:o=g:=by cases hg;rfl
      have:=o6.own_ge x.block (by rw[e];rfl);omega
     have O6:=Lib.hid o6.rd;have K6:=Lib.hid k6;obtain⟨a6,n6,c6,rfl⟩:=az o6.rd;clear o6 k6 B;go_wp2_with fail;go_roundw
     case rel=>exact⟨m,by omega,by go_num,by rw[T.out];exact O6.out,aD.out,O5.out.kp K6.out,R5.out.kp K6.out,K5.out.trans K6.out,Jh b5 K6.out.size⟩
     case measure=>simp[intOf] <;> omega
    ·have aF:¬(X:Int)<2*(i:Int):=by omega
     have T:Hid ((G m).2=dY (G m).1 (X:Int) 0):=by have:=al.out;rw[if_neg aG] at this;exact this
     have B:=Lib.hid (ak.out 0);clear ak al;generalize gA (G m).1 (X:Int) 0=AE at *;go_wp2_with fail;refine B.out.mono ?_;rintro _ w6 ⟨⟨r6,rfl,o6⟩,k6⟩;have aD:Hid (aQ (.slice (some ⟨o,0,none⟩) N cb) r6):=λg hg x n c e h0 he=>by
      have h1:o=g:=by cases hg;rfl
      have:=o6.own_ge x.block (by rw[e];rfl);omega
     have O6:=Lib.hid o6.rd;have K6:=Lib.hid k6;obtain⟨a6,n6,c6,rfl⟩:=az o6.rd;clear o6 k6 B;go_wp2_with fail;go_roundw
     case rel=>exact⟨m,by omega,by go_num,by rw[T.out];exact O6.out,aD.out,O5.out.kp K6.out,R5.out.kp K6.out,K5.out.trans K6.out,Jh b5 K6.out.size⟩
     case measure=>simp[intOf] <;> omega
   ·have e9:G m=G (m+1):=by rw[ag];exact if_neg I
    have bd:((ats (G (m+1)).1 X).kind==2)=false:=Jd.2 I;have aX:=Lib.hid e9;generalize (ats (G (m+1)).1 X).kind=KD at *;generalize (ats (G (m+1)).1 X).name=NM at *;clear ag e9;go_wp2_with fail;go_roundw
    case rel=>exact⟨m,by omega,by go_num,by rw[aX.out];exact z.out.1.kp ((Kp.refl _).alloc _),z.out.2,by rw[aX.out];exact M.out.kp ((Kp.refl _).alloc _),ah.out.kp ((Kp.refl _).alloc _),P.out.1.alloc _,by simp;have:=P.out.2;omega⟩
    case measure=>simp[intOf] <;> omega
theorem Gp (aa:Value)(t:List Nod)(K:Nat)(i:Int)(w:World)(b:bk t K)(a:NL w aa t):
  Calls prog 116 #[aa,.int .i64 i] w λe w'=>(∃ r,e=.returned (.tuple #[r,.int .i64 (iE t i)])/\NL w' r (gC t i))/\Kp w w':=by
 by_cases h:bf t i
 ·have d:iE t i=0:=if_pos h
  have c:gC t i=(eP t i.toNat).1.set (2*i.toNat) (dc (ats (eP t i.toNat).1 (2*i.toNat)) (eP t i.toNat).2):=if_pos h;rw[d,c];obtain⟨l,j,g⟩:=h;obtain⟨k,rfl⟩:=Jq l;rw[Jm] at *;refine Gn aa t K k w b a ?_ g;have o:=b.len;have n:=bi K;have m:=bC K;unfold lvs at j;omega
 ·have d:iE t i=11:=if_neg h
  have c:gC t i=t:=if_neg h;rw[d,c];refine(Gm aa t K i w b a h).mono ?_;rintro e w' ⟨rfl,f⟩;exact⟨⟨aa,rfl,a.kp f⟩,f⟩
theorem Gq (aa v:Value)(t:List Nod)(K k:Nat)(pub:List UInt8)(w:World)(l:NL w aa t)(F:Rd w v pub)(i:aD t K)(u:pub.length=32)(d:(ats t (2*k)).kind=1):
  Calls prog 115 #[aa,.int .i64 (k:Int),v] w λe w'=>(∃ r,e=.returned (.tuple #[r,.int .i64 0])/\NO 81 w' w.heap.size r (bj t k pub))/\Kp w w':=by
 obtain⟨V,U,z3⟩:=i.small;have m:=(i.there_iff k).2 d;have C:=Lib.hid (λW (s:Kp w W)=>Dc aa t (k:Int) W (l.kp s) (by omega));obtain⟨ap,cp,rfl,_,_⟩:=F.shape;have f:=aD.lt_of (t:=t) (x:=2*k) (by rw[d];decide);have n:=i.len2;have A:k<2 ^ K:=by omega
 rw[Jy m] at C;have I:=Lib.hid (λW (s:Kp w W)=>Dd aa t K k W (l.kp s) i.le i.len A);have o:(gQ t k).length=t.length:=aD.blankLen k;have HU:Hid ((gQ t k).set (2*k) (aH (ats t (2*k)).name pub)=bj t k pub):=rfl;generalize bj t k pub=ad at *;generalize gQ t k=BL at *;have i2:IntKind.i64.wrap (2*(k:Int))=((2*k:Nat):Int):=by rw[IW _ (by omega)];omega
 have i3:((2*k:Nat):Int)<(t.length:Int):=by omega
 obtain⟨a,c,rfl,p1,s1⟩:=l.shape;obtain⟨b,D,rfl,_,O⟩:=l.at (2*k) f;obtain⟨p,q,h,M⟩:=O (2*k) f;have T:Hid (∀ W,Kp w W->W.cell? ⟨b,D+2*k*5+1,none⟩=some (.int .i64 (ats t (2*k)).name)):=λW s=>s.cell M.name
 have H:=Lib.hid F;obtain⟨N,P⟩:∃ N,t.length=N:=⟨_,rfl⟩;rw[P] at p1 i3 o f V C I ⊢;rw[u] at H ⊢;generalize (ats t (2*k)).name=NM at *;generalize 2*k=K2 at *;clear l F i u m O M P U d n A;go_enter func115,ntmps115;go_wp2_with fail;refine(C.out w (Kp.refl _)).mono ?_;rintro _ _ ⟨rfl,rfl⟩;go_wp2_with fail;refine(I.out w (Kp.refl _)).mono ?_;rintro _ Y ⟨⟨r,rfl,z⟩,j⟩;obtain⟨G,B,rfl,R,b2,b3,b4,_⟩:=z.form (by omega);rw[o] at z ⊢;have c1:=T.out Y j;have y:=Lib.hid (H.out.kp j);have J:=Lib.hid (H.out.apart (v:=.slice (some ⟨G,0,none⟩) N B) (λg hg=>by cases hg;exact R));have ab:N<=B:=by omega
 have Z:=Lib.hid j;clear C I T;go_wp2_with(refine kZ iQ rfl rfl (.tmp 34) (.tmp 33) rfl w.heap.size G B N BL z K2 (by omega) (aH NM pub) (.slice ap 32 cp) (.slice none 0 0) (.slice none 0 0) rfl rfl ⟨y.out,RI.nil _,cL _⟩ J.out (aQ.nil _ _ _) (aQ.nil _ _ _) ?_;intro X E Q)
 have L:Kp w X:=Kp.grown (v:=.slice (some ⟨G,0,none⟩) N B) j Q (λk A=>by cases A;exact R);rw[HU.out] at E;have S:=Lib.hid (Jb E L);clear E Q L z j c1 y;go_wp2_with fail;go_ret2;exact⟨⟨_,rfl,S.out.1⟩,S.out.2⟩
theorem yz (p:List St):∀ (l:List Nat) (k x:Nat) (t:List Nod),bJ p k (l++[x]) t=(bJ p k l t).set x ⟨2,0,(aC p (k+l.length)).pub,[],[]⟩
 | [],k,x,t=>rfl
 | y :: l,k,x,t=>by
  show bJ p (k+1) (l++[x]) _=(bJ p (k+1) l _).set x _
  rw[yz p l (k+1) x,show k+1+l.length=k+(y :: l).length by simp;omega]
theorem yA (p:List St)(l:List Nat)(t:List Nod){j:Nat}(h:j<l.length):bJ p 0 (l.take (j+1)) t=(bJ p 0 (l.take j) t).set (l.getD j 0) ⟨2,0,(aC p j).pub,[],[]⟩:=by
 rw[Jp h,yz,Jv,Ma (by omega),JS,IU,IV h];rfl
theorem yB {p:List St}(c:aD t K)(h:bk t K)(s:(ats t (2*i)).kind=1){pub:List UInt8}(u:pub.length=32)(n:∀ a,a<(aA t i K).length->(aC p a).pub.length=32):
  bk (bJ p 0 (aA t i K) (bj t i pub)) K:=by
 have q:=aD.lt_of (t:=t) (x:=2*i) (by rw[s];decide);have r:=c.len2;have d:i<2 ^ K:=by omega
 have l:=c.updAt d pub;have k:=aD.updLen (t:=t) i pub;have j:∀ x∈aA t i K,x<(bj t i pub).length:=λx m=>by rw[k,c.len];exact fd d (fK m)
 have g:bk (bj t i pub) K:=by
  refine⟨c.le,by rw[k,c.len],λy=>?_,λy b=>?_⟩
  ·rw[l]
   split
   ·have o:=(h.node (2*i)).name
    exact⟨.inr (.inl rfl),o,by show pub.length<=40;omega,Jl _,Jl _,λi d=>by cases d⟩
   ·split
    ·exact dR.blank
    ·exact h.node y
  ·rw[l] at b
   split at b
   ·cases b
   ·split at b
    ·cases b
    ·exact h.par y b
 refine g.over (nM _ _ _ _) λy=>?_
 by_cases b:y∈aA t i K
 ·obtain⟨a,f,rfl⟩:=JW b
  have e:=rN p (aA t i K) 0 (bj t i pub) (lP t i K) j a f;rw[JS,IU,IV f] at e;exact .inr ⟨gU (fK b),.inr ⟨_,n a f,e⟩⟩
 ·exact .inl (pB _ _ _ _ _ j b)
theorem Gr (aa lv x y:Value)(t:List Nod)(K i:Nat)(p:Pa)(w:World)(hu:NL w aa t)(A:aD t K)(hT:bk t K)(b:(ats t (2*i)).kind=1)(hl:RN w lv (aA t i K))(P:PIn w x y p)(l:p.pub.length=32)
  (hs:p.step.length=(aA t i K).length) (u:∀ a,a<(aA t i K).length->(aC p.step a).pub.length=32):
  Calls prog 66 #[aa,.int .i64 (i:Int),lv,.agg #[x,y]] w λe w'=>(∃ r,e=.returned r/\NL w' r (ej t (i:Int) (aA t i K) p))/\Kp w w':=by
 obtain⟨z1,z2,z3⟩:=A.small;have ah:=bP A.le;have Z:(aA t i K).length<=10:=Js (yu t i K).1 A.le;have d:=(A.there_iff i).2 b;have Q:=aD.lt_of (t:=t) (x:=2*i) (by rw[b];decide);have hi:i<2 ^ K:=by omega
 have hE:mz t (i:Int) p.pub=0:=by unfold mz;rw[if_pos l,if_pos d]
 have hV:mA t (i:Int) p.pub=bj t i p.pub:=by unfold mA;rw[if_pos hE,Jm]
 have J:=Lib.hid (λW (hW:Kp w W) (v:Value) (hv:Rd W v p.pub)=>Gq aa v t K i p.pub W (hu.kp hW) hv A l b);have am:=Lib.hid (λW (v:Value) (hv:NL W v (bJ p.step 0 (aA t i K) (bj t i p.pub)))=>Gp v _ K (i:Int) W (yB A hT b l u) hv);have HF:Hid (gC (bJ p.step 0 (aA t i K) (bj t i p.pub)) (i:Int)=ej t (i:Int) (aA t i K) p):=by unfold Hid ej;rw[hV]
 have I:(bj t i p.pub).length=t.length:=aD.updLen i p.pub;have o:Hid (∀ j,j<(aA t i K).length->bJ p.step 0 ((aA t i K).take (j+1)) (bj t i p.pub)=(bJ p.step 0 ((aA t i K).take j) (bj t i p.pub)).set ((aA t i K).getD j 0) ⟨2,0,(aC p.step j).pub,[],[]⟩):=λj T=>yA _ _ _ T
 have n:Hid (∀ j,(bJ p.step 0 ((aA t i K).take j) (bj t i p.pub)).length=t.length):=λj=>(nM _ _ _ _).trans I
 have m:Hid (∀ j,j<(aA t i K).length->(aA t i K).getD j 0<t.length):=λj T=>by
  have hm:(aA t i K).getD j 0∈aA t i K:=by rw[IU,IV T];exact JD T
  rw[A.len];exact fd hi (fK hm)
 have ad:Hid (bJ p.step 0 ((aA t i K).take 0) (bj t i p.pub)=bj t i p.pub):=rfl;have L:Hid (bJ p.step 0 ((aA t i K).take (aA t i K).length) (bj t i p.pub)=bJ p.step 0 (aA t i K) (bj t i p.pub)):=by unfold Hid;rw[JM]
 generalize ej t (i:Int) (aA t i K) p=ar at *;generalize bJ p.step 0 (aA t i K) (bj t i p.pub)=TE at *;generalize Y:(λj=>bJ p.step 0 ((aA t i K).take j) (bj t i p.pub))=TS at *;have C:∀ j,bJ p.step 0 ((aA t i K).take j) (bj t i p.pub)=TS j:=λj=>by rw[<-Y]
 simp only[C] at o n ad L;have ai:iE TE (i:Int)=iE TE (i:Int):=rfl;generalize iE TE (i:Int)=LE at *;have HP:=Lib.hid P.pub;have ak:=Lib.hid P.step;have HL:=Lib.hid hl;obtain⟨al,cl,rfl,q1,q2⟩:=hl.shape;obtain⟨a,c,rfl,_,_⟩:=hu.shape;obtain⟨ap,cp,rfl,q3,q4⟩:=P.pub.shape;obtain⟨a6,n6,c6,rfl⟩:=SE.sl P.step;generalize bj t i p.pub=UT at *;generalize aA t i K=ST at *;obtain⟨M,hM⟩:∃ M,ST.length=M:=⟨_,rfl⟩;obtain⟨N,hN⟩:∃ N,t.length=N:=⟨_,rfl⟩;rw[hM] at hs o m L q1 HL Z ⊢;rw[hN] at n m z1 z3 I J ⊢;rw[l] at *;have ae:=Lib.hid hs;clear hu A hT b hl P hs u d Q hi hE hV Y C hM hN z2 ai ah l;go_enter func66,ntmps66;go_wp2_with fail;obtain⟨E,s⟩:∃ E,w.alloc (.cells #[.slice ap 32 cp,.slice a6 n6 c6] 27)=E:=⟨_,rfl⟩;have hb:Bx E w.heap.size 27 #[.slice ap 32 cp,.slice a6 n6 c6]:=by rw[<-s];exact Bx.new w _ _
 have S:Kp w E:=by rw[<-s];exact(Kp.refl _).alloc _
 have D:=Lib.hid (Jb hb S);rw[s];clear hb S s;refine(J.out E D.out.2 _ (HP.out.kp D.out.2)).mono ?_;rintro _ w2 ⟨⟨r,rfl,o2⟩,k2⟩;obtain⟨gb,cb,rfl,b1,b2,b3,b4,_⟩:=o2.form (by omega);rw[I] at o2 b3 ⊢;have O2:=Lib.hid (Jb o2 k2);have an:=Lib.hid (Jb b1 b2);have ao:Hid (w.heap.size<=gb):=Js D.out.2.size b1;clear o2 k2 J b1 b2 b4;go_wp2_with fail;go_loopw[11] (λz wr=>∃ j:Nat,j<=M/\z=.int .i64 (j:Int)/\NO 81 wr E.heap.size (.slice (some ⟨gb,0,none⟩) N cb) (TS j)/\Kp E wr) (λz _=>(M - (intOf z).toNat))
 case atStart=>exact⟨0,Jl _,rfl,by rw[ad.out];exact O2.out.1,O2.out.2⟩
 case round=>
  obtain⟨j,T,rfl,ho,R⟩:=hrel;have q:=Lib.hid (Jb ho R);clear ho R;by_cases h:j<M
  ·obtain⟨gl,ol,rfl,_,U⟩:=(HL.out.kp (D.out.2.trans q.out.2)).at j h
   have d0:=U j h;have i1:IntKind.i64.wrap ((j:Int)+1)=(j:Int)+1:=IW _ (by omega);have i3:(j:Int)<(M:Int):=by omega
   have HX:=Lib.hid (m.out j h);have aj:=Lib.hid (o.out j h);have af:=Lib.hid (n.out j);have hB:=D.out.1.kp q.out.2;have d1:=hB.cell 0;have d2:=hB.cell 1;simp only[Jj,Jg,Jk] at d1 d2;obtain⟨gs,os,cs,pv,qv,e1,_,G⟩:=eo.nodeK (i:=j) ak.out (by rw[ae.out];exact h);rw[ae.out] at e1;simp only[Ji] at e1;obtain⟨rfl,rfl,rfl⟩:=e1;have O:=Lib.hid (G w (Kp.refl _)).2.2.1;have d3:=(G wr (D.out.2.trans q.out.2)).1;obtain⟨a7,n7,c7,rfl⟩:=az O.out;have aq:=Lib.hid (O.out.apart (v:=.slice (some ⟨gb,0,none⟩) N cb) (λg hg=>by cases hg;exact ao.out));obtain⟨g9,c9,e9,_,_,_,_,V⟩:=q.out.1.form (by rw[af.out];omega);simp only[Ji,JL,Kn,and_true] at e9;obtain⟨rfl,_,rfl⟩:=e9;generalize ST.getD j 0=X at *;have i4:(X:Int)<(N:Int):=by have:=HX.out;omega
   have H:X<(TS j).length:=by rw[af.out];exact HX.out
   obtain⟨p9,u9,h9,f,_⟩:=V X H;obtain⟨j0,j1,j2,j3,j4⟩:_/\_/\_/\_/\_:=⟨f.kind,f.name,f.pubC,f.unC,f.hashC⟩;have d:=q.out.1.there X H;have f0:=(d 0 (by omega)).2;have f1:=(d 1 (by omega)).2;have f2:=(d 2 (by omega)).2;have f3:=(d 3 (by omega)).2;have f4:=(d 4 (by omega)).2;rw[Lr] at f0;have F:=q.out.1.stored X H ⟨2,0,(aC p.step j).pub,[],[]⟩ (.slice a7 n7 c7) (.slice none 0 0) (.slice none 0 0) ⟨O.out.kp (D.out.2.trans q.out.2),RI.nil _,cL _⟩ aq.out (aQ.nil _ _ _) (aQ.nil _ _ _);rw[<-aj.out] at F;have ab:=Lib.hid F;have ag:=Lib.hid (Jb an.out q.out.2);clear U hB G V d F m o n f;go_wp2_with fail;go_region
   clear d0 d1 d2 d3 j0 j1 j2 j3 j4 f0 f1 f2 f3 f4;go_wp2_with fail;have B:=ab.out;go_roundw
   case rel=>exact⟨j+1,by omega,by go_num,B.1.kp (Kp.refl _).drew,(Kp.grown (v:=.slice (some ⟨gb,0,none⟩) N cb) ag.out.2 B.2 (λk hk=>by cases hk;exact ag.out.1.1)).drew⟩
   case measure=>simp[intOf];omega
  ·obtain rfl:j=M:=by omega
   have HE:=Lib.hid (Jb (L.out▸q.out.1) q.out.2);clear m o n;go_wp2_with fail;refine(am.out wr _ HE.out.1.nl).mono ?_;rintro _ w3 ⟨⟨r3,rfl,r4⟩,k3⟩;rw[HF.out] at r4;have R4:=Lib.hid (Jb r4 ((D.out.2.trans HE.out.2).trans k3));obtain⟨a8,n8,c8,rfl⟩:=r4.sl;clear r4 k3;go_wp2_with fail;go_ret;exact⟨⟨_,rfl,R4.out.1⟩,R4.out.2⟩
theorem Hs {a b:List Sd}(f:a.length=b.length)(h:∀ k,k<a.length->(aO a k).node=(aO b k).node/\(aO a k).seed=(aO b k).seed):a=b:=by
 refine LT f λk c g=>?_
 obtain⟨e,d⟩:=h k c;rw[fl c,fl g] at e d;exact Sd.ext' e d
theorem Ht (aa v:Value)(l m:List Sd)(w:World)(hu:SL w aa l)(Z:SL w v m):Calls prog 67 #[aa,v] w λe w'=>aR e (l=m)/\Kp w w':=by
 have HU:=Lib.hid hu;have HV:=Lib.hid Z;obtain⟨a,c,rfl,p1,s1⟩:=hu.shape;obtain⟨a',c',rfl,p2,s2⟩:=Z.shape;have d:Hid (l.length≠m.length->¬l=m):=λh e=>h (by rw[e])
 have n:Hid (∀ k,k<l.length->((aO l k).node≠(aO m k).node\/(aO l k).seed≠(aO m k).seed)->¬l=m):=λk hk h e=>by subst e;rcases h with h|h <;> exact h rfl
 have f:Hid (l.length=m.length->(∀ k,k<l.length->(aO l k).node=(aO m k).node/\(aO l k).seed=(aO m k).seed)->l=m):=λh1 h2=>Hs h1 h2
 generalize (l=m)=P at *;obtain⟨N,hN⟩:∃ N,l.length=N:=⟨_,rfl⟩;obtain⟨M,hM⟩:∃ N,m.length=N:=⟨_,rfl⟩;have HN:=Lib.hid hN;have HM:=Lib.hid hM;rw[hN] at HU p1 d n f ⊢;rw[hM] at HV p2 d f ⊢;unfold maxLen at s1;clear hu Z hN hM;by_cases O:N=M
 ·subst O
  have A:=Lib.hid (f.out rfl);clear d f;go_enter func67,ntmps67;go_wp2_with fail;go_loopw[5] (λi wr=>∃ k:Nat,k<=N/\i=.int .i64 (k:Int)/\(∀ t,t<k->(aO l t).node=(aO m t).node/\(aO l t).seed=(aO m t).seed)/\Kp w wr) (λi _=>(N - (intOf i).toNat))
  case atStart=>exact⟨0,Jl _,rfl,λt h=>by omega,Kp.refl _⟩
  case round=>
   obtain⟨k,hk,rfl,p,K⟩:=hrel;have u:=Lib.hid p;have G:=Lib.hid K;clear p K;by_cases s:k<N
   ·obtain⟨F,C,x1,q1,e1,_,n1⟩:=SL.nodeK (i:=k) HU.out (by rw[HN.out];exact s)
    obtain⟨E,B,x2,q2,e2,_,n2⟩:=SL.nodeK (i:=k) HV.out (by rw[HM.out];exact s);rw[HN.out] at e1;rw[HM.out] at e2;simp only[Ji] at e1 e2;obtain⟨rfl,_,rfl⟩:=e1;obtain⟨rfl,_,rfl⟩:=e2;have i1:IntKind.i64.wrap ((k:Int)+1)=(k:Int)+1:=IW _ (by omega);have i2:(k:Int)<(N:Int):=by omega
    obtain⟨c1,c2,r⟩:=n1 wr G.out;obtain⟨d1,d2,q⟩:=n2 wr G.out;have V:=Lib.hid (n.out k s);have j:Hid ((aO l k).node=(aO m k).node->(aO l k).seed=(aO m k).seed->∀ t,t<k+1->(aO l t).node=(aO m t).node/\(aO l t).seed=(aO m t).seed):=λh1 h2 t ht=>by
     rcases JC (JN.1 ht) with h3|h3
     ·exact u.out t h3
     ·rw[h3];exact⟨h1,h2⟩
    have o:=Lib.hid (λW (L:Kp wr W)=>jc q1 q2 _ _ W (r.kp L) (q.kp L));have HC:Hid (∀ W,Kp wr W->W.cell? ⟨F,C+k*2+1,none⟩=some q1/\W.cell? ⟨E,B+k*2+1,none⟩=some q2):=λW L=>⟨L.cell c2,L.cell d2⟩
    obtain⟨U,I,R,rfl⟩:=az r;obtain⟨T,H,Q,rfl⟩:=az q;clear n1 n2 r q A n u;generalize (aO l k).seed=bK at *;generalize (aO m k).seed=S2 at *;generalize (aO l k).node=X at *;generalize (aO m k).node=Y at *;by_cases g:X=Y
    ·have x:=Lib.hid (j.out g)
     have y:=Lib.hid (λh=>V.out (.inr h));subst g;clear j V;by_cases D:bK=S2
     ·have HP:=Lib.hid (x.out D)
      rw[Jy D] at o;clear x y D;go_wp2_with fail;go_region_held3 (λW=>W.cell? ⟨F,C+k*2,none⟩=some (.int .i64 X)/\W.cell? ⟨E,B+k*2,none⟩=some (.int .i64 X)/\W.cell? ⟨F,C+k*2+1,none⟩=some (.slice U I R)/\W.cell? ⟨E,B+k*2+1,none⟩=some (.slice T H Q))
       (first|exact⟨c1,d1,c2,d2⟩)
       (first|(go_at_call 29;refine(o.out _ (by first|exact Kp.refl _|exact(Kp.refl _).drew)).mono ?_;rintro _ w9 ⟨rfl,rfl⟩))
      go_wp2_with fail;go_roundw
      case rel=>exact⟨k+1,by omega,by go_num,HP.out,G.out.drew⟩
      case measure=>simp[intOf];omega
     ·have z:=Lib.hid (y.out D)
      rw[Jr D] at o;clear x y D;go_wp2_with fail;go_region_held3 (λW=>W.cell? ⟨F,C+k*2,none⟩=some (.int .i64 X)/\W.cell? ⟨E,B+k*2,none⟩=some (.int .i64 X)/\W.cell? ⟨F,C+k*2+1,none⟩=some (.slice U I R)/\W.cell? ⟨E,B+k*2+1,none⟩=some (.slice T H Q))
       (first|exact⟨c1,d1,c2,d2⟩)
       (first|(go_at_call 29;refine(o.out _ (by first|exact Kp.refl _|exact(Kp.refl _).drew)).mono ?_;rintro _ w9 ⟨rfl,rfl⟩))
      go_wp2_with fail;go_ret;exact⟨aR.no z.out,G.out.drew⟩
    ·have z:=Lib.hid (V.out (.inl g))
     have J:(X==Y)=false:=Jd.2 g;have ae:(X != Y)=true:=KX.2 g;clear j V;go_wp2_with fail;refine wp_region_held_drew (S:=λW=>W.cell? ⟨F,C+k*2,none⟩=some (.int .i64 X)/\W.cell? ⟨E,B+k*2,none⟩=some (.int .i64 Y)) (by kernel_rfl) (⟨c1,d1⟩) (λad=>?_);refine wpAnyH_take (i:=0) (oi:=⟨some 17,_,_,_,_,_⟩) (v:=?_) rfl (by kernel_rfl) (by kernel_rfl) (by kernel_rfl) (λ_ _ _ h=>h) (Lp ⟨by kernel_rfl,?_⟩) (by assumption) ?_;rotate_left;focus ((intro w b;(try dsimp only at b);go_simp);(try with_reducible rfl);done)
     simp only[Act.put,IY,Je,Jf];refine wpAnyH_take (i:=1) (oi:=⟨some 18,_,_,_,_,_⟩) (v:=?_) rfl (by kernel_rfl) (by kernel_rfl) (by kernel_rfl) (λ_ _ _ h=>h) (Lp ⟨by kernel_rfl,?_⟩) (by assumption) ?_;rotate_left;focus ((intro w b;(try dsimp only at b);go_simp);(try with_reducible rfl);done)
     simp only[Act.put,IY,Je,Jf];refine wpAnyH_take (i:=2) (oi:=⟨some 19,_,_,_,_,_⟩) (v:=?_) rfl (by kernel_rfl) (by kernel_rfl) (by kernel_rfl) (λ_ _ _ h=>h) (Lp ⟨by kernel_rfl,?_⟩) (by assumption) ?_;rotate_left;focus ((intro w b;(try dsimp only at b);go_simp);(try with_reducible rfl);done)
     simp only[Act.put,IY,Je,Jf];refine wpAnyH_take (i:=3) (oi:=⟨some 20,_,_,_,_,_⟩) (v:=?_) rfl (by kernel_rfl) (by kernel_rfl) (by kernel_rfl) (λ_ _ _ h=>h) (Lp ⟨by kernel_rfl,?_⟩) (by assumption) ?_;rotate_left;focus ((intro w b;(try dsimp only at b);go_simp);(try with_reducible rfl);done)
     simp only[Act.put,IY,Je,Jf];refine wpAnyH_take (i:=4) (oi:=⟨some 21,_,_,_,_,_⟩) (v:=?_) rfl (by kernel_rfl) (by kernel_rfl) (by kernel_rfl) (λ_ _ _ h=>h) (Lp ⟨by kernel_rfl,?_⟩) (by assumption) ?_;rotate_left;focus ((intro w b;(try dsimp only at b);go_simp);(try with_reducible rfl);done)
     simp only[Act.put,IY,Je,Jf];refine wpAnyH_take (i:=5) (oi:=⟨some 22,_,_,_,_,_⟩) (v:=?_) rfl (by kernel_rfl) (by kernel_rfl) (by kernel_rfl) (λ_ _ _ h=>h) (Lp ⟨by kernel_rfl,?_⟩) (by assumption) ?_;rotate_left;focus ((intro w b;(try dsimp only at b);go_simp);(try with_reducible rfl);done)
     simp only[Act.put,IY,Je,Jf];refine wpAnyH_take (i:=6) (oi:=⟨some 23,_,_,_,_,_⟩) (v:=?_) rfl (by kernel_rfl) (by kernel_rfl) (by kernel_rfl) (λ_ _ _ h=>h) (Lp ⟨by kernel_rfl,?_⟩) (by assumption) ?_;rotate_left;focus ((intro w b;(try dsimp only at b);go_simp);(try with_reducible rfl);done)
     simp only[Act.put,IY,Je,Jf];refine wpAnyH_take (i:=7) (oi:=⟨some 24,_,_,_,_,_⟩) (v:=?_) rfl (by kernel_rfl) (by kernel_rfl) (by kernel_rfl) (λ_ _ _ h=>h) (Lp ⟨by kernel_rfl,?_⟩) (by assumption) ?_;rotate_left;focus ((intro w b;(try dsimp only at b);go_simp);(try with_reducible rfl);done)
     simp only[Act.put,IY,Je,Jf];refine wpAnyH_take (i:=8) (oi:=⟨some 25,_,_,_,_,_⟩) (v:=?_) rfl (by kernel_rfl) (by kernel_rfl) (by kernel_rfl) (λ_ _ _ h=>h) (Lp ⟨by kernel_rfl,?_⟩) (by assumption) ?_;rotate_left;focus ((intro w b;(try dsimp only at b);go_simp);(try with_reducible rfl);done)
     simp only[Act.put,IY,Je,Jf];refine wpAnyH_take (i:=9) (oi:=⟨some 26,_,_,_,_,_⟩) (v:=?_) rfl (by kernel_rfl) (by kernel_rfl) (by kernel_rfl) (λ_ _ _ h=>h) (Lp ⟨by kernel_rfl,?_⟩) (by assumption) ?_;rotate_left;focus ((intro w b;(try dsimp only at b);go_simp);(try with_reducible rfl);done)
     simp only[Act.put,IY,Je,Jf];refine wpAnyH_take (i:=10) (oi:=⟨some 27,_,_,_,_,_⟩) (v:=?_) rfl (by kernel_rfl) (by kernel_rfl) (by kernel_rfl) (λ_ _ _ h=>h) (Lp ⟨by kernel_rfl,?_⟩) (by assumption) ?_;rotate_left;focus ((intro w b;(try dsimp only at b);go_simp);(try with_reducible rfl);done)
     simp only[Act.put,IY,Je,Jf];refine wpAnyH_take (i:=11) (oi:=⟨some 28,_,_,_,_,_⟩) (v:=?_) rfl (by kernel_rfl) (by kernel_rfl) (by kernel_rfl) (λ_ _ _ h=>h) (Lp ⟨by kernel_rfl,?_⟩) (by assumption) ?_;rotate_left;focus ((intro w b;(try dsimp only at b);go_simp);(try with_reducible rfl);done)
     simp only[Act.put,IY,Je,Jf];refine wpAnyH_take (i:=12) (oi:=⟨some 29,_,_,_,_,_⟩) (v:=undef) rfl (by kernel_rfl) (by kernel_rfl) (by kernel_rfl) (λ_ _ _ h=>h) (Lc ⟨by kernel_rfl,rfl⟩) (by assumption) ?_;simp only[Act.put,IY,Je,Jf];refine wpAnyH_take (i:=13) (oi:=⟨some 30,_,_,_,_,_⟩) (v:=undef) rfl (by kernel_rfl) (by kernel_rfl) (by kernel_rfl) (λ_ _ _ h=>h) (Lc ⟨by kernel_rfl,rfl⟩) (by assumption) ?_;simp only[Act.put,IY,Je,Jf];refine wpAnyH_take (i:=14) (oi:=⟨some 31,_,_,_,_,_⟩) (v:=undef) rfl (by kernel_rfl) (by kernel_rfl) (by kernel_rfl) (λ_ _ _ h=>h) (Lc ⟨by kernel_rfl,rfl⟩) (by assumption) ?_;simp only[Act.put,IY,Je,Jf];refine wpAnyH_take (i:=15) (oi:=⟨some 32,_,_,_,_,_⟩) (v:=undef) rfl (by kernel_rfl) (by kernel_rfl) (by kernel_rfl) (λ_ _ _ h=>h) (Lc ⟨by kernel_rfl,rfl⟩) (by assumption) ?_;simp only[Act.put,IY,Je,Jf];refine wpAnyH_take (i:=16) (oi:=⟨some 33,_,_,_,_,_⟩) (v:=undef) rfl (by kernel_rfl) (by kernel_rfl) (by kernel_rfl) (λ_ _ _ h=>h) (Lc ⟨by kernel_rfl,rfl⟩) (by assumption) ?_;simp only[Act.put,IY,Je,Jf];refine wpAnyH_take (i:=17) (oi:=⟨some 34,_,_,_,_,_⟩) (v:=undef) rfl (by kernel_rfl) (by kernel_rfl) (by kernel_rfl) (λ_ _ _ h=>h) (Lc ⟨by kernel_rfl,rfl⟩) (by assumption) ?_;simp only[Act.put,IY,Je,Jf];refine wpAnyH_take (i:=18) (oi:=⟨some 35,_,_,_,_,_⟩) (v:=undef) rfl (by kernel_rfl) (by kernel_rfl) (by kernel_rfl) (λ_ _ _ h=>h) (Lc ⟨by kernel_rfl,rfl⟩) (by assumption) ?_;simp only[Act.put,IY,Je,Jf];refine wpAnyH_take (i:=19) (oi:=⟨some 36,_,_,_,_,_⟩) (v:=undef) rfl (by kernel_rfl) (by kernel_rfl) (by kernel_rfl) (λ_ _ _ h=>h) (Lc ⟨by kernel_rfl,rfl⟩) (by assumption) ?_;simp only[Act.put,IY,Je,Jf];refine wpAnyH_take (i:=20) (oi:=⟨some 37,_,_,_,_,_⟩) (v:=undef) rfl (by kernel_rfl) (by kernel_rfl) (by kernel_rfl) (λ_ _ _ h=>h) (Lc ⟨by kernel_rfl,rfl⟩) (by assumption) ?_;simp only[Act.put,IY,Je,Jf];refine wpAnyH_take (i:=21) (oi:=⟨some 38,_,_,_,_,_⟩) (v:=undef) rfl (by kernel_rfl) (by kernel_rfl) (by kernel_rfl) (λ_ _ _ h=>h) (Lc ⟨by kernel_rfl,rfl⟩) (by assumption) ?_;simp only[Act.put,IY,Je,Jf];refine wpAnyH_take (i:=22) (oi:=⟨some 39,_,_,_,_,_⟩) (v:=undef) rfl (by kernel_rfl) (by kernel_rfl) (by kernel_rfl) (λ_ _ _ h=>h) (Lc ⟨by kernel_rfl,rfl⟩) (by assumption) ?_;simp only[Act.put,IY,Je,Jf];refine wpAnyH_take (i:=23) (oi:=⟨some 40,_,_,_,_,_⟩) (v:=undef) rfl (by kernel_rfl) (by kernel_rfl) (by kernel_rfl) (λ_ _ _ h=>h) (Lc ⟨by kernel_rfl,rfl⟩) (by assumption) ?_;simp only[Act.put,IY,Je,Jf];refine wpAnyH_take (i:=24) (oi:=⟨some 41,_,_,_,_,_⟩) (v:=?_) rfl (by kernel_rfl) (by kernel_rfl) (by kernel_rfl) (λ_ _ _ h=>h) (Lp ⟨by kernel_rfl,?_⟩) (by assumption) ?_;rotate_left;focus ((intro w b;(try dsimp only at b);go_simp);(try with_reducible rfl);done)
     simp only[Act.put,IY,Je,Jf];refine wpAnyH_done (by kernel_rfl) ?_ _;go_wp2_with fail;go_ret;exact⟨aR.no z.out,G.out.drew⟩
   ·obtain rfl:k=N:=by omega
    have z:=Lib.hid (A.out u.out);clear A n;go_wp2_with fail;go_ret;exact⟨aR.yes z.out,G.out⟩
 ·have z:=Lib.hid (d.out O)
  have ab:¬(N:Int)=(M:Int):=by omega
  have J:((N:Int)==(M:Int))=false:=Jd.2 ab;clear d f n;go_enter func67,ntmps67;go_wp2_with fail;go_ret;exact⟨aR.no z.out,Kp.refl _⟩

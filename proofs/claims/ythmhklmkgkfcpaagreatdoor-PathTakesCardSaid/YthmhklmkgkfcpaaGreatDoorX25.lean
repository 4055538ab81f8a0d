import Derived.Test.YthmhklmkgkfcpaaGreatDoorX24
set_option linter.all false
set_option maxHeartbeats 8000000
set_option maxRecDepth 100000
namespace Go.Proofs.YthmhklmkgkfcpaaGreatDoor
open Go.Proofs.Tryz Go.RowKit
variable {Z:Nat->Prop}{i j:Nat}{l:List St}{v:Value}{w w':World}
theorem IE (aa x y:Value)(who:List (List Int))(p:Pa)(w:World)(X:aJ gV w aa who)(Q:PIn w x y p):Calls prog 73 #[aa,.agg #[x,y]] w λe w'=>aK e (dy who p)/\Kp w w':=by
 have HU:=JE X;have HS:=JE Q.step;obtain⟨au,cu,rfl,q5,q6⟩:=Ob X;obtain⟨ap,cp,rfl,q1,q2⟩:=Q.pub.shape;obtain⟨a6,c6,rfl,q3,q4⟩:=Ob Q.step;unfold maxLen at q6;have f:Hid (p.step.length≠who.length->¬dy who p):=λh e=>h e.1
 have q:Hid (p.pub.length≠32->¬dy who p):=λh e=>h e.2.1
 have d:Hid (∀ k,k<who.length->(am p.step k).fors.length≠(en who k).length->¬dy who p):=λk R h e=>h (e.2.2 k R).1
 have c:Hid (∀ k,k<who.length->(am p.step k).pub.length≠32->¬dy who p):=λk R h e=>h (e.2.2 k R).2
 have B:Hid (p.step.length=who.length->p.pub.length=32->(∀ k,k<who.length->(am p.step k).fors.length=(en who k).length/\(am p.step k).pub.length=32)->dy who p):=λh1 h2 h3=>⟨h1,h2,h3⟩
 generalize dy who p=P at *;generalize p.pub.length=L at *;generalize p.step=A at *;obtain⟨N,Z⟩:∃ N,who.length=N:=⟨_,rfl⟩;obtain⟨M,hM⟩:∃ N,A.length=N:=⟨_,rfl⟩;have HN:=JE Z;have HM:=JE hM;rw[Z] at q5 f d c B HU ⊢;rw[hM] at q3 f B HS ⊢;clear X Q Z hM;by_cases H:M=N
 ·subst H
  by_cases I:L=32
  ·subst I
   have K:=JE (B.out rfl rfl);clear f q B;go_enter func73,ntmps73;go_wp2_with fail;obtain⟨D,n⟩:∃ D,w.alloc (.cells #[.slice ap 32 cp,.slice a6 M c6] 27)=D:=⟨_,rfl⟩;have hb:Bx D w.heap.size 27 #[.slice ap 32 cp,.slice a6 M c6]:=by rw[<-n];exact Oa w _ _
   have F:Kp w D:=by rw[<-n];exact(NQ _).alloc _
   have C:=JE (JN hb F);rw[n];clear hb F n;have ae:=JE (Od HS.out C.out.2);have ad:=JE (Od HU.out C.out.2);go_loopw[5] (λi wr=>∃ k:Nat,k<=M/\i=.int .i64 (k:Int)/\(∀ g,g<k->(am A g).fors.length=(en who g).length/\(am A g).pub.length=32)/\Kp D wr) (λi _=>(M - (intOf i).toNat))
   case atStart=>exact⟨0,JW _,rfl,λt h=>by omega,NQ _⟩
   case round=>
    obtain⟨k,R,rfl,r,E⟩:=hrel;have z:=JE r;have u:=JE E;clear r E;have d1:=(C.out.1.kp u.out).cell 1;simp only[JT,JS,JU] at d1;by_cases o:k<M
    ·obtain⟨gs,os,cs,pv,qv,e1,_,c0,c1,rp,rf⟩:=dl.node (i:=k) (Od ae.out u.out) (by rw[HM.out];exact o)
     obtain⟨gu,ou,af,qu,e2,_,c2,rw⟩:=aJ.ns (i:=k) (Od ad.out u.out) (by rw[HN.out];exact o);rw[HM.out] at e1;rw[HN.out] at e2;simp only[JR] at e1 e2;obtain⟨rfl,_,rfl⟩:=e1;obtain⟨rfl,_,rfl⟩:=e2;have i1:IntKind.i64.wrap ((k:Int)+1)=(k:Int)+1:=JI _ (by omega);have i3:(k:Int)<(M:Int):=by omega
     obtain⟨a7,b7,rfl,r1,r2⟩:=rp.shape;obtain⟨a8,b8,rfl,r3,r4⟩:=Ob rf;obtain⟨a9,b9,rfl,r5,r6⟩:=rw.shape;have V:=JE (d.out k o);have U:=JE (c.out k o);have b:Hid ((am A k).fors.length=(en who k).length->(am A k).pub.length=32->∀ g,g<k+1->(am A g).fors.length=(en who g).length/\(am A g).pub.length=32):=λh1 h2 g Y=>by
      rcases Kh (Kr.1 Y) with h6|h6
      ·exact z.out g h6
      ·rw[h6];exact⟨h1,h2⟩
     generalize (am A k).fors.length=O at *;generalize (en who k).length=J at *;generalize (am A k).pub.length=T at *;clear rf rp rw d c z r1 r3 r5;by_cases hF:O=J
     ·subst hF
      by_cases G:T=32
      ·subst G
       have m:=JE (b.out rfl rfl);clear b V U;go_wp2_with fail;go_region
       go_wp2_with fail;go_roundw
       case rel=>exact⟨k+1,by omega,by go_num,m.out,u.out.drew⟩
       case measure=>simp[intOf];omega
      ·have m:=JE (U.out G)
       have s:((T:Int)==32)=false:=JL.2 (by omega);have l:((T:Int) != 32)=true:=Lt.2 (by omega);have j:¬(T:Int)=32:=by omega
       clear b V U;go_wp2_with fail;go_region
       go_wp2_with fail;go_ret;exact⟨Oi m.out,(C.out.2.trans u.out).drew⟩
     ·have m:=JE (V.out hF)
      have s:((O:Int)==(J:Int))=false:=JL.2 (by omega);have l:((O:Int) != (J:Int))=true:=Lt.2 (by omega);have j:¬(O:Int)=(J:Int):=by omega
      clear b V U;go_wp2_with fail;refine wp_region_held_drew (S:=λW=>W.cell? ⟨w.heap.size,1,none⟩=some (.slice (some ⟨gs,os,none⟩) M c6)/\W.cell? ⟨gs,os+k*2+1,none⟩=some (.slice a8 O b8)/\W.cell? ⟨gu,ou+k,none⟩=some (.slice a9 J b9)) (by kernel_rfl) (⟨d1,c1,c2⟩) (λab=>?_);refine wpAnyH_take (i:=0) (oi:=⟨some 24,_,_,_,_,_⟩) (v:=?_) rfl (by kernel_rfl) (by kernel_rfl) (by kernel_rfl) (λ_ _ _ h=>h) (LH ⟨by kernel_rfl,?_⟩) (by assumption) ?_;rotate_left;focus ((intro w a;(try dsimp only at a);go_simp);(try with_reducible rfl);done)
      simp only[Act.put,JH,JM,JP];refine wpAnyH_take (i:=1) (oi:=⟨some 25,_,_,_,_,_⟩) (v:=?_) rfl (by kernel_rfl) (by kernel_rfl) (by kernel_rfl) (λ_ _ _ h=>h) (LH ⟨by kernel_rfl,?_⟩) (by assumption) ?_;rotate_left;focus ((intro w a;(try dsimp only at a);go_simp);(try with_reducible rfl);done)
      simp only[Act.put,JH,JM,JP];refine wpAnyH_take (i:=2) (oi:=⟨some 26,_,_,_,_,_⟩) (v:=?_) rfl (by kernel_rfl) (by kernel_rfl) (by kernel_rfl) (λ_ _ _ h=>h) (LH ⟨by kernel_rfl,?_⟩) (by assumption) ?_;rotate_left;focus ((intro w a;(try dsimp only at a);go_simp);(try with_reducible rfl);done)
      simp only[Act.put,JH,JM,JP];refine wpAnyH_take (i:=3) (oi:=⟨some 27,_,_,_,_,_⟩) (v:=?_) rfl (by kernel_rfl) (by kernel_rfl) (by kernel_rfl) (λ_ _ _ h=>h) (LH ⟨by kernel_rfl,?_⟩) (by assumption) ?_;rotate_left;focus ((intro w a;(try dsimp only at a);go_simp);(try with_reducible rfl);done)
      simp only[Act.put,JH,JM,JP];refine wpAnyH_take (i:=4) (oi:=⟨some 28,_,_,_,_,_⟩) (v:=?_) rfl (by kernel_rfl) (by kernel_rfl) (by kernel_rfl) (λ_ _ _ h=>h) (LH ⟨by kernel_rfl,?_⟩) (by assumption) ?_;rotate_left;focus ((intro w a;(try dsimp only at a);go_simp);(try with_reducible rfl);done)
      simp only[Act.put,JH,JM,JP];refine wpAnyH_take (i:=5) (oi:=⟨some 29,_,_,_,_,_⟩) (v:=?_) rfl (by kernel_rfl) (by kernel_rfl) (by kernel_rfl) (λ_ _ _ h=>h) (LH ⟨by kernel_rfl,?_⟩) (by assumption) ?_;rotate_left;focus ((intro w a;(try dsimp only at a);go_simp);(try with_reducible rfl);done)
      simp only[Act.put,JH,JM,JP];refine wpAnyH_take (i:=6) (oi:=⟨some 30,_,_,_,_,_⟩) (v:=?_) rfl (by kernel_rfl) (by kernel_rfl) (by kernel_rfl) (λ_ _ _ h=>h) (LH ⟨by kernel_rfl,?_⟩) (by assumption) ?_;rotate_left;focus ((intro w a;(try dsimp only at a);go_simp);(try with_reducible rfl);done)
      simp only[Act.put,JH,JM,JP];refine wpAnyH_take (i:=7) (oi:=⟨some 31,_,_,_,_,_⟩) (v:=?_) rfl (by kernel_rfl) (by kernel_rfl) (by kernel_rfl) (λ_ _ _ h=>h) (LH ⟨by kernel_rfl,?_⟩) (by assumption) ?_;rotate_left;focus ((intro w a;(try dsimp only at a);go_simp);(try with_reducible rfl);done)
      simp only[Act.put,JH,JM,JP];refine wpAnyH_take (i:=8) (oi:=⟨some 32,_,_,_,_,_⟩) (v:=?_) rfl (by kernel_rfl) (by kernel_rfl) (by kernel_rfl) (λ_ _ _ h=>h) (LH ⟨by kernel_rfl,?_⟩) (by assumption) ?_;rotate_left;focus ((intro w a;(try dsimp only at a);go_simp);(try with_reducible rfl);done)
      simp only[Act.put,JH,JM,JP];refine wpAnyH_take (i:=9) (oi:=⟨some 33,_,_,_,_,_⟩) (v:=?_) rfl (by kernel_rfl) (by kernel_rfl) (by kernel_rfl) (λ_ _ _ h=>h) (LH ⟨by kernel_rfl,?_⟩) (by assumption) ?_;rotate_left;focus ((intro w a;(try dsimp only at a);go_simp);(try with_reducible rfl);done)
      simp only[Act.put,JH,JM,JP];refine wpAnyH_take (i:=10) (oi:=⟨some 34,_,_,_,_,_⟩) (v:=?_) rfl (by kernel_rfl) (by kernel_rfl) (by kernel_rfl) (λ_ _ _ h=>h) (LH ⟨by kernel_rfl,?_⟩) (by assumption) ?_;rotate_left;focus ((intro w a;(try dsimp only at a);go_simp);(try with_reducible rfl);done)
      simp only[Act.put,JH,JM,JP];refine wpAnyH_take (i:=11) (oi:=⟨some 35,_,_,_,_,_⟩) (v:=?_) rfl (by kernel_rfl) (by kernel_rfl) (by kernel_rfl) (λ_ _ _ h=>h) (LH ⟨by kernel_rfl,?_⟩) (by assumption) ?_;rotate_left;focus ((intro w a;(try dsimp only at a);go_simp);(try with_reducible rfl);done)
      simp only[Act.put,JH,JM,JP];refine wpAnyH_take (i:=12) (oi:=⟨some 36,_,_,_,_,_⟩) (v:=?_) rfl (by kernel_rfl) (by kernel_rfl) (by kernel_rfl) (λ_ _ _ h=>h) (LH ⟨by kernel_rfl,?_⟩) (by assumption) ?_;rotate_left;focus ((intro w a;(try dsimp only at a);go_simp);(try with_reducible rfl);done)
      simp only[Act.put,JH,JM,JP];refine wpAnyH_take (i:=13) (oi:=⟨some 37,_,_,_,_,_⟩) (v:=?_) rfl (by kernel_rfl) (by kernel_rfl) (by kernel_rfl) (λ_ _ _ h=>h) (LH ⟨by kernel_rfl,?_⟩) (by assumption) ?_;rotate_left;focus ((intro w a;(try dsimp only at a);go_simp);(try with_reducible rfl);done)
      simp only[Act.put,JH,JM,JP];refine wpAnyH_take (i:=14) (oi:=⟨some 38,_,_,_,_,_⟩) (v:=undef) rfl (by kernel_rfl) (by kernel_rfl) (by kernel_rfl) (λ_ _ _ h=>h) (LI ⟨by kernel_rfl,rfl⟩) (by assumption) ?_;simp only[Act.put,JH,JM,JP];refine wpAnyH_take (i:=15) (oi:=⟨some 39,_,_,_,_,_⟩) (v:=undef) rfl (by kernel_rfl) (by kernel_rfl) (by kernel_rfl) (λ_ _ _ h=>h) (LI ⟨by kernel_rfl,rfl⟩) (by assumption) ?_;simp only[Act.put,JH,JM,JP];refine wpAnyH_take (i:=16) (oi:=⟨some 40,_,_,_,_,_⟩) (v:=undef) rfl (by kernel_rfl) (by kernel_rfl) (by kernel_rfl) (λ_ _ _ h=>h) (LI ⟨by kernel_rfl,rfl⟩) (by assumption) ?_;simp only[Act.put,JH,JM,JP];refine wpAnyH_take (i:=17) (oi:=⟨some 41,_,_,_,_,_⟩) (v:=undef) rfl (by kernel_rfl) (by kernel_rfl) (by kernel_rfl) (λ_ _ _ h=>h) (LI ⟨by kernel_rfl,rfl⟩) (by assumption) ?_;simp only[Act.put,JH,JM,JP];refine wpAnyH_take (i:=18) (oi:=⟨some 42,_,_,_,_,_⟩) (v:=undef) rfl (by kernel_rfl) (by kernel_rfl) (by kernel_rfl) (λ_ _ _ h=>h) (LI ⟨by kernel_rfl,rfl⟩) (by assumption) ?_;simp only[Act.put,JH,JM,JP];refine wpAnyH_take (i:=19) (oi:=⟨some 43,_,_,_,_,_⟩) (v:=undef) rfl (by kernel_rfl) (by kernel_rfl) (by kernel_rfl) (λ_ _ _ h=>h) (LI ⟨by kernel_rfl,rfl⟩) (by assumption) ?_;simp only[Act.put,JH,JM,JP];refine wpAnyH_take (i:=20) (oi:=⟨some 44,_,_,_,_,_⟩) (v:=undef) rfl (by kernel_rfl) (by kernel_rfl) (by kernel_rfl) (λ_ _ _ h=>h) (LI ⟨by kernel_rfl,rfl⟩) (by assumption) ?_;simp only[Act.put,JH,JM,JP];refine wpAnyH_take (i:=21) (oi:=⟨some 45,_,_,_,_,_⟩) (v:=undef) rfl (by kernel_rfl) (by kernel_rfl) (by kernel_rfl) (λ_ _ _ h=>h) (LI ⟨by kernel_rfl,rfl⟩) (by assumption) ?_;simp only[Act.put,JH,JM,JP];refine wpAnyH_take (i:=22) (oi:=⟨some 46,_,_,_,_,_⟩) (v:=?_) rfl (by kernel_rfl) (by kernel_rfl) (by kernel_rfl) (λ_ _ _ h=>h) (LH ⟨by kernel_rfl,?_⟩) (by assumption) ?_;rotate_left;focus ((intro w a;(try dsimp only at a);go_simp);(try with_reducible rfl);done)
      simp only[Act.put,JH,JM,JP];refine wpAnyH_done (by kernel_rfl) ?_ _;go_wp2_with fail;go_ret;exact⟨Oi m.out,(C.out.2.trans u.out).drew⟩
    ·obtain rfl:k=M:=by omega
     have m:=JE (K.out z.out);clear d c K;go_wp2_with fail;go_ret;exact⟨aK.yes m.out,C.out.2.trans u.out⟩
  ·have m:=JE (q.out I)
   have s:((L:Int)==32)=false:=JL.2 (by omega);have l:((L:Int) != 32)=true:=Lt.2 (by omega);have j:¬(L:Int)=32:=by omega
   clear f q d c B;go_enter func73,ntmps73;go_wp2_with fail;go_ret;exact⟨Oi m.out,(NQ _).alloc _⟩
 ·have m:=JE (f.out H)
  have s:((M:Int)==(N:Int))=false:=JL.2 (by omega);have l:((M:Int) != (N:Int))=true:=Lt.2 (by omega);have j:¬(M:Int)=(N:Int):=by omega
  clear f q d c B;go_enter func73,ntmps73;go_wp2_with fail;go_ret;exact⟨Oi m.out,(NQ _).alloc _⟩
theorem IF (aa n s x y:Value)(t:List Nod)(K i:Nat)(p:Pa)(w:World)(U:WIn w aa n s t K i)(hp:PIn w x y p):
  Calls prog 68 #[.agg #[aa,.int .i64 (i:Int),n,s],.agg #[x,y]] w λe w'=>aK e (dy (aT t i K) p)/\Kp w w':=by
 have ah:=JE U.steps;have HS:=JE hp.step;obtain⟨aj,X⟩:=gy t i K;have G:=iB t i K;have u:=JE (λa (h:a<(ixS t i K).length)=>kP (t:=t) (i:=i) (m:=K) h);obtain⟨au,nu,cu,rfl⟩:=U.tree.sl;obtain⟨an,nn,cn,rfl⟩:=U.nodes.sl;obtain⟨af,ae,rfl,q5,q6⟩:=Ob U.steps;obtain⟨ap,cp,rfl,q1,q2⟩:=hp.pub.shape;obtain⟨a6,c6,rfl,q3,q4⟩:=Ob hp.step;unfold maxLen at q6;generalize aT t i K=who at *;have g:Hid (p.step.length≠who.length->¬dy who p):=λh e=>h e.1
 have D:Hid (p.pub.length≠32->¬dy who p):=λh e=>h e.2.1
 have f:Hid (∀ k,k<who.length->(am p.step k).fors.length≠(en who k).length->¬dy who p):=λk hk h e=>h (e.2.2 k hk).1
 have d:Hid (∀ k,k<who.length->(am p.step k).pub.length≠32->¬dy who p):=λk hk h e=>h (e.2.2 k hk).2
 have O:Hid (p.step.length=who.length->p.pub.length=32->(∀ k,k<who.length->(am p.step k).fors.length=(en who k).length/\(am p.step k).pub.length=32)->dy who p):=λh1 h2 h3=>⟨h1,h2,h3⟩
 generalize dy who p=P at *;generalize p.pub.length=L at *;generalize p.step=A at *;obtain⟨M,hM⟩:∃ N,A.length=N:=⟨_,rfl⟩;generalize (ixS t i K).length=N at *;have HM:=JE hM;have ai:=JE G;rw[G] at q5 ah ⊢;rw[X] at g f d O;rw[hM] at q3 g O HS ⊢;generalize dg t i K=SP at *;generalize aC t i K=ST at *;clear U hp hM aj X G;by_cases ad:L=32
 ·subst ad
  by_cases ab:M=N
  ·subst ab
   have ag:=JE (O.out rfl rfl);clear g D O;go_enter func68,ntmps68;go_wp2_with fail;obtain⟨R,B⟩:∃ R,(w.alloc (.cells #[.slice au nu cu,.int .i64 (i:Int),.slice an nn cn,.slice af M ae] 95)).alloc (.cells #[.slice ap 32 cp,.slice a6 M c6] 27)=R:=⟨_,rfl⟩;have HB:Hid (Bx R w.heap.size 95 #[.slice au nu cu,.int .i64 (i:Int),.slice an nn cn,.slice af M ae]):=by unfold Hid;rw[<-B];exact(Oa w _ _).kp ((NQ _).alloc _)
   have K1:Hid (Kp w R):=by unfold Hid;rw[<-B];exact((NQ _).alloc _).alloc _
   rw[B];clear B;go_loopw[23] (λi wr=>∃ k:Nat,k<=M/\i=.int .i64 (k:Int)/\(∀ j,j<k->(am A j).fors.length=(en who j).length/\(am A j).pub.length=32)/\Kp R wr) (λi _=>(M - (intOf i).toNat))
   case atStart=>exact⟨0,JW _,rfl,λt h=>by omega,NQ _⟩
   case round=>
    obtain⟨k,hk,rfl,E,Y⟩:=hrel;have C:=JE E;have J:=JE Y;clear E Y;by_cases q:k<M
    ·obtain⟨gs,os,cs,pv,qv,e1,_,V⟩:=dl.nodeK (i:=k) HS.out (by rw[HM.out];exact q)
     obtain⟨c0,c1,rp,rf⟩:=V wr (K1.out.trans J.out);obtain⟨gu,ou,ao,qu,e2,_,c3,c2,rw⟩:=aJ.sp (i:=k) (Od ah.out (K1.out.trans J.out)) (by rw[ai.out];exact q);rw[HM.out] at e1;rw[ai.out] at e2;simp only[JR] at e1 e2;obtain⟨rfl,_,rfl⟩:=e1;obtain⟨rfl,_,rfl⟩:=e2;rw[u.out k q] at rw;have T:RI wr qu (en who k):=rw;have i1:IntKind.i64.wrap ((k:Int)+1)=(k:Int)+1:=JI _ (by omega);have i3:(k:Int)<(M:Int):=by omega
     obtain⟨a7,b7,rfl,r1,r2⟩:=rp.shape;obtain⟨a8,b8,rfl,r3,r4⟩:=Ob rf;obtain⟨a9,b9,rfl,r5,r6⟩:=T.shape;have H3:=JE (f.out k q);have H4:=JE (d.out k q);have c:Hid ((am A k).fors.length=(en who k).length->(am A k).pub.length=32->∀ j,j<k+1->(am A j).fors.length=(en who j).length/\(am A j).pub.length=32):=λh1 h2 j ak=>by
      rcases Kh (Kr.1 ak) with h6|h6
      ·exact C.out j h6
      ·rw[h6];exact⟨h1,h2⟩
     generalize (am A k).fors.length=Q at *;generalize (en who k).length=WN at *;generalize (am A k).pub.length=I at *;clear rf rp rw T f d C r1 r3 r5 V u;go_wp2_with fail;obtain⟨wb,z⟩:∃ x,wr.alloc (.cells #[.slice a7 I b7,.slice a8 Q b8] 74)=x:=⟨_,rfl⟩;have H:Bx wb wr.heap.size 74 #[.slice a7 I b7,.slice a8 Q b8]:=by rw[<-z];exact Oa wr _ _
     have KB:Hid (Kp wr wb):=by unfold Hid;rw[<-z];exact(NQ _).alloc _
     rw[z];have e4:=H.cell 0;have e5:=H.cell 1;have e6:=(HB.out.kp (J.out.trans KB.out)).cell 3;have e7:=KB.out.cell c2;simp only[JT,JS,JU] at e4 e5 e6;clear H z c0 c1 c2 c3;by_cases Z:I=32
     ·subst Z
      by_cases hF:Q=WN
      ·subst hF
       have r:=JE (c.out rfl rfl);clear c H3 H4;go_region
       go_wp2_with fail;go_roundw
       case rel=>exact⟨k+1,by omega,by first|rfl|(rw[i1];rfl),r.out,(J.out.trans KB.out).drew⟩
       case measure=>simp[intOf];omega
      ·have r:=JE (H3.out hF)
       have F:((Q:Int)==(WN:Int))=false:=JL.2 (by omega);have o:((Q:Int) != (WN:Int))=true:=Lt.2 (by omega);have l:¬(Q:Int)=(WN:Int):=by omega
       clear c H3 H4;go_region
       go_wp2_with fail;go_ret;exact⟨Oi r.out,((K1.out.trans J.out).trans KB.out).drew⟩
     ·have r:=JE (H4.out Z)
      have F:((I:Int)==32)=false:=JL.2 (by omega);have o:((I:Int) != 32)=true:=Lt.2 (by omega);have l:¬(I:Int)=32:=by omega
      clear c H3 H4 e5 e6 e7;refine wp_region_held_drew (S:=λW=>W.cell? ⟨wr.heap.size,0,none⟩=some (.slice a7 I b7)) (by kernel_rfl) (e4) (λal=>?_);refine wpAnyH_take (i:=0) (oi:=⟨some 28,_,_,_,_,_⟩) (v:=?_) rfl (by kernel_rfl) (by kernel_rfl) (by kernel_rfl) (λ_ _ _ h=>h) (LH ⟨by kernel_rfl,?_⟩) (by assumption) ?_;rotate_left;focus ((intro w b;(try dsimp only at b);go_simp);(try with_reducible rfl);done)
      simp only[Act.put,JH,JM,JP];refine wpAnyH_take (i:=1) (oi:=⟨some 29,_,_,_,_,_⟩) (v:=?_) rfl (by kernel_rfl) (by kernel_rfl) (by kernel_rfl) (λ_ _ _ h=>h) (LH ⟨by kernel_rfl,?_⟩) (by assumption) ?_;rotate_left;focus ((intro w b;(try dsimp only at b);go_simp);(try with_reducible rfl);done)
      simp only[Act.put,JH,JM,JP];refine wpAnyH_take (i:=2) (oi:=⟨some 30,_,_,_,_,_⟩) (v:=?_) rfl (by kernel_rfl) (by kernel_rfl) (by kernel_rfl) (λ_ _ _ h=>h) (LH ⟨by kernel_rfl,?_⟩) (by assumption) ?_;rotate_left;focus ((intro w b;(try dsimp only at b);go_simp);(try with_reducible rfl);done)
      simp only[Act.put,JH,JM,JP];refine wpAnyH_take (i:=3) (oi:=⟨some 31,_,_,_,_,_⟩) (v:=?_) rfl (by kernel_rfl) (by kernel_rfl) (by kernel_rfl) (λ_ _ _ h=>h) (LH ⟨by kernel_rfl,?_⟩) (by assumption) ?_;rotate_left;focus ((intro w b;(try dsimp only at b);go_simp);(try with_reducible rfl);done)
      simp only[Act.put,JH,JM,JP];refine wpAnyH_take (i:=4) (oi:=⟨some 32,_,_,_,_,_⟩) (v:=?_) rfl (by kernel_rfl) (by kernel_rfl) (by kernel_rfl) (λ_ _ _ h=>h) (LH ⟨by kernel_rfl,?_⟩) (by assumption) ?_;rotate_left;focus ((intro w b;(try dsimp only at b);go_simp);(try with_reducible rfl);done)
      simp only[Act.put,JH,JM,JP];refine wpAnyH_take (i:=5) (oi:=⟨some 33,_,_,_,_,_⟩) (v:=undef) rfl (by kernel_rfl) (by kernel_rfl) (by kernel_rfl) (λ_ _ _ h=>h) (LI ⟨by kernel_rfl,rfl⟩) (by assumption) ?_;simp only[Act.put,JH,JM,JP];refine wpAnyH_take (i:=6) (oi:=⟨some 34,_,_,_,_,_⟩) (v:=undef) rfl (by kernel_rfl) (by kernel_rfl) (by kernel_rfl) (λ_ _ _ h=>h) (LI ⟨by kernel_rfl,rfl⟩) (by assumption) ?_;simp only[Act.put,JH,JM,JP];refine wpAnyH_take (i:=7) (oi:=⟨some 35,_,_,_,_,_⟩) (v:=undef) rfl (by kernel_rfl) (by kernel_rfl) (by kernel_rfl) (λ_ _ _ h=>h) (LI ⟨by kernel_rfl,rfl⟩) (by assumption) ?_;simp only[Act.put,JH,JM,JP];refine wpAnyH_take (i:=8) (oi:=⟨some 36,_,_,_,_,_⟩) (v:=undef) rfl (by kernel_rfl) (by kernel_rfl) (by kernel_rfl) (λ_ _ _ h=>h) (LI ⟨by kernel_rfl,rfl⟩) (by assumption) ?_;simp only[Act.put,JH,JM,JP];refine wpAnyH_take (i:=9) (oi:=⟨some 37,_,_,_,_,_⟩) (v:=undef) rfl (by kernel_rfl) (by kernel_rfl) (by kernel_rfl) (λ_ _ _ h=>h) (LI ⟨by kernel_rfl,rfl⟩) (by assumption) ?_;simp only[Act.put,JH,JM,JP];refine wpAnyH_take (i:=10) (oi:=⟨some 38,_,_,_,_,_⟩) (v:=undef) rfl (by kernel_rfl) (by kernel_rfl) (by kernel_rfl) (λ_ _ _ h=>h) (LI ⟨by kernel_rfl,rfl⟩) (by assumption) ?_;simp only[Act.put,JH,JM,JP];refine wpAnyH_take (i:=11) (oi:=⟨some 39,_,_,_,_,_⟩) (v:=undef) rfl (by kernel_rfl) (by kernel_rfl) (by kernel_rfl) (λ_ _ _ h=>h) (LI ⟨by kernel_rfl,rfl⟩) (by assumption) ?_;simp only[Act.put,JH,JM,JP];refine wpAnyH_take (i:=12) (oi:=⟨some 40,_,_,_,_,_⟩) (v:=undef) rfl (by kernel_rfl) (by kernel_rfl) (by kernel_rfl) (λ_ _ _ h=>h) (LI ⟨by kernel_rfl,rfl⟩) (by assumption) ?_;simp only[Act.put,JH,JM,JP];refine wpAnyH_take (i:=13) (oi:=⟨some 41,_,_,_,_,_⟩) (v:=undef) rfl (by kernel_rfl) (by kernel_rfl) (by kernel_rfl) (λ_ _ _ h=>h) (LI ⟨by kernel_rfl,rfl⟩) (by assumption) ?_;simp only[Act.put,JH,JM,JP];refine wpAnyH_take (i:=14) (oi:=⟨some 42,_,_,_,_,_⟩) (v:=undef) rfl (by kernel_rfl) (by kernel_rfl) (by kernel_rfl) (λ_ _ _ h=>h) (LI ⟨by kernel_rfl,rfl⟩) (by assumption) ?_;simp only[Act.put,JH,JM,JP];refine wpAnyH_take (i:=15) (oi:=⟨some 43,_,_,_,_,_⟩) (v:=undef) rfl (by kernel_rfl) (by kernel_rfl) (by kernel_rfl) (λ_ _ _ h=>h) (LI ⟨by kernel_rfl,rfl⟩) (by assumption) ?_;simp only[Act.put,JH,JM,JP];refine wpAnyH_take (i:=16) (oi:=⟨some 44,_,_,_,_,_⟩) (v:=?_) rfl (by kernel_rfl) (by kernel_rfl) (by kernel_rfl) (λ_ _ _ h=>h) (LH ⟨by kernel_rfl,?_⟩) (by assumption) ?_;rotate_left;focus ((intro w b;(try dsimp only at b);go_simp);(try with_reducible rfl);done)
      simp only[Act.put,JH,JM,JP];refine wpAnyH_done (by kernel_rfl) ?_ _;go_wp2_with fail;go_ret;exact⟨Oi r.out,((K1.out.trans J.out).trans KB.out).drew⟩
    ·obtain rfl:k=M:=by omega
     have h1:¬(k:Int)<(k:Int):=by omega
     have r:=JE (ag.out C.out);clear ag C f d u;go_wp2_with fail;go_ret;exact⟨aK.yes r.out,K1.out.trans J.out⟩
  ·have r:=JE (g.out ab)
   have F:((M:Int)==(N:Int))=false:=JL.2 (by omega);have o:((M:Int) != (N:Int))=true:=Lt.2 (by omega);have l:¬(M:Int)=(N:Int):=by omega
   clear g D f d O u;go_enter func68,ntmps68;go_wp2_with fail;go_ret;exact⟨Oi r.out,((NQ _).alloc _).alloc _⟩
 ·have r:=JE (D.out ad)
  have F:((L:Int)==32)=false:=JL.2 (by omega);have o:((L:Int) != 32)=true:=Lt.2 (by omega);have l:¬(L:Int)=32:=by omega
  clear g D f d O u;go_enter func68,ntmps68;go_wp2_with fail;go_ret;exact⟨Oi r.out,((NQ _).alloc _).alloc _⟩
structure IP (p:Prop):Prop where
 out:p
theorem IQ {p:Prop}{F Q:Nat->Value->Value->World->Prop}(ways:IP (∀ g v a W,F g v a W->Q g v a W)->p)(rest:∀ g v a W,F g v a W->Q g v a W):p:=ways ⟨rest⟩
theorem zy:(prog.info? 27).map (·.size)=some 2:=by kernel_rfl
theorem IR (h:j<l.length):l.set j (am l j)=l:=by
 have e:am l j=l[j]:=by unfold am;rw[JF,JG h];rfl
 rw[e,Mz]
theorem IS {l:List Se}(h:j<l.length):l.set j (aH l j)=l:=by
 have e:aH l j=l[j]:=by unfold aH;rw[JF,JG h];rfl
 rw[e,Mz]
theorem SZ.nodeSt (h:SZ dc Z w v l)(f:i<l.length):
  ∃ b d c p q,v=.slice (some ⟨b,d,none⟩) l.length c/\b<w.heap.size/\∀ W,Kp w W->W.cell? ⟨b,d+i*2,none⟩=some p/\W.cell? ⟨b,d+i*2+1,none⟩=some q/\RZ Z W p (am l i).pub/\SZ dS Z W q (am l i).fors:=by
 obtain⟨a,c,rfl,x,u⟩:=Ob h.1;obtain⟨b,d,rfl,n,m⟩:=SE.at h.1 (by omega);obtain⟨vs,j,g⟩:=m i l[i] (JG f);obtain⟨p,q,t,s,r,o⟩:=qV j g;have e:am l i=l[i]:=by unfold am;rw[JF,JG f];rfl
 rw[e];exact⟨b,d,c,p,q,rfl,n,λW k=>⟨k.cell t,k.cell s,r.kp k,o.kp k⟩⟩
theorem SZ.nodeSe {l:List Se}(h:SZ dS Z w v l)(f:i<l.length):
  ∃ b d c p q,v=.slice (some ⟨b,d,none⟩) l.length c/\b<w.heap.size/\∀ W,Kp w W->W.cell? ⟨b,d+i*2,none⟩=some p/\W.cell? ⟨b,d+i*2+1,none⟩=some q/\RZ Z W p (aH l i).half/\RZ Z W q (aH l i).b:=by
 obtain⟨a,c,rfl,x,u⟩:=Ob h.1;obtain⟨b,d,rfl,n,m⟩:=SE.at h.1 (by omega);obtain⟨vs,j,g⟩:=m i l[i] (JG f);obtain⟨p,q,t,s,r,o⟩:=qU j g;have e:aH l i=l[i]:=by unfold aH;rw[JF,JG f];rfl
 rw[e];exact⟨b,d,c,p,q,rfl,n,λW k=>⟨k.cell t,k.cell s,r.kp k,o.kp k⟩⟩
structure IT (p:Pa)(M:Nat):Prop where
 out:p.step.length=M
theorem IU (x y:Value)(p:Pa)(Z:Nat->Prop)(w:World)(hx:RZ Z w x p.pub)(hy:SZ dc Z w y p.step)(hZ:∀ g,Z g->g<w.heap.size)(hl:p.step.length<=10000)(b0:p.pub.length<=10000)
  (bp:∀ j,j<p.step.length->(am p.step j).pub.length<=10000/\(am p.step j).fors.length<=10000/\∀ k,k<(am p.step j).fors.length->(aH (am p.step j).fors k).half.length<=10000/\(aH (am p.step j).fors k).b.length<=10000):
  Calls prog 72 #[.agg #[x,y]] w λe w'=>(∃ x' y',e=.returned (.agg #[x',y'])/\RZ Z w' x' p.pub/\SZ dc Z w' y' p.step)/\Kp w w':=by
 have HX:=JE hx;have HY:=JE hy;have bj:=JE hy.olds;have HZ:=JE hZ;have bR:=JE bp;have a4:=JE (λW (v:Value) (l:List UInt8) (hv:Rd W v l) (hl:l.length<=10000)=>rL v l W hv (by omega));have cH:=JE (λW (v:Value) (t:List St) (Z:Nat->Prop) (hv:SZ dc Z W v t) (hl:t.length<=10000)=>IM v t Z W hv (by omega));have cI:=JE (λW (v:Value) (t:List Se) (Z:Nat->Prop) (hv:SZ dS Z W v t) (hl:t.length<=10000)=>IO v t Z W hv (by omega));obtain⟨ax,nx,cx,rfl⟩:=aA hx.1;obtain⟨ay,cy,rfl,p1,s1⟩:=Ob hy.1;clear hx hy hZ bp;go_enter func72,ntmps72;go_wp2_with fail;obtain⟨a,aC⟩:∃ a,(w.alloc (.cells #[.slice ax nx cx,.slice ay p.step.length cy] 27)).alloc (.cells #[.slice none 0 0,.slice none 0 0] 27)=a:=⟨_,rfl⟩;have HB:Hid (Bx a w.heap.size 27 #[.slice ax nx cx,.slice ay p.step.length cy]):=by unfold Hid;rw[<-aC];exact(Oa w _ _).kp ((NQ _).alloc _)
 have bl:Hid (Bx a (w.heap.size+1) 27 #[.slice none 0 0,.slice none 0 0]):=by
  unfold Hid;have:=Oa (w.alloc (.cells #[.slice ax nx cx,.slice ay p.step.length cy] 27)) 27 #[.slice none 0 0,.slice none 0 0];rw[JY] at this;rw[<-aC];exact this
 have K1:Hid (Kp w a):=by unfold Hid;rw[<-aC];exact((NQ _).alloc _).alloc _
 rw[aC];clear aC;have cY:Hid (∀ n,p.step.length=n->p.step.length=n):=λn h=>h
 generalize hM:p.step.length=M at *;have bT:=JE hM;have cA:IT p M:=⟨hM⟩;obtain⟨V,bC⟩:∃ V:Nat->Prop,V=λk=>k=w.heap.size+1\/Z k:=⟨_,rfl⟩
 have s:Hid ((∀ g,V g->Z g\/w.heap.size<=g)/\(∀ g,V g->g<a.heap.size)/\(∀ g,Z g->V g)/\V (w.heap.size+1)):=by
  have:=(JK.1 bl.out).1;unfold Hid;rw[bC];exact⟨λg A=>A.elim (λe=>.inr (by omega)) .inl,λg A=>A.elim (λe=>by omega) λA=>by have:=HZ.out g A;omega,λg A=>.inr A,.inl rfl⟩
 clear bC;have HS:Hid (∀ W,Kp a W->W.cell? ⟨w.heap.size,0,none⟩=some (.slice ax nx cx)/\W.cell? ⟨w.heap.size,1,none⟩=some (.slice ay M cy)):=λW hW=>⟨(HB.out.kp hW).cell 0,(HB.out.kp hW).cell 1⟩
 have KD:Hid (Kp a a.drew):=(NQ a).drew;have aW:Hid (Kp a (a.alloc (.cells #[.slice none 0 0,.slice none 0 0] 27)).drew):=((NQ a).alloc _).drew;have bM:=JE (HS.out _ KD.out);have S0:=JE (HS.out _ aW.out);have bP:Hid (Bx (a.alloc (.cells #[.slice none 0 0,.slice none 0 0] 27)).drew a.heap.size 27 #[.slice none 0 0,.slice none 0 0]):=(Oa a _ _).kp (NQ _).drew;obtain⟨e0,e1⟩:=HS.out a (NQ _);clear hM;refine IQ (Q:=?QL) (F:=λg v v' W=>Bx W g 27 #[v,v']/\Kp a W/\a.heap.size<=g/\g<W.heap.size/\Rd W v p.pub/\ba a.heap.size v/\GZ dc 74 V W a.heap.size v' p.step/\(∀ k,v'.ownBlock=some k->k≠g)/\br (λk=>v'.ownBlock=some k) v) ?ways ?rest
 case ways=>
  intro key;go_region_held3 (λW=>W.cell? ⟨w.heap.size,0,none⟩=some (.slice ax nx cx)/\W.cell? ⟨w.heap.size,1,none⟩=some (.slice ay M cy))
   (first|with_reducible exact S0.out|with_reducible exact bM.out|with_reducible exact S2.out|with_reducible exact cl.out|with_reducible exact S3.out|with_reducible exact ck.out|with_reducible exact S4.out|with_reducible exact S5.out|fail)
   (first
    | (go_at_call 121;refine(cH.out _ _ p.step (λg=>Z g\/w.heap.size<=g) (by first|exact bj.out.kp (K1.out.trans K2.out)|exact bj.out.kp (K1.out.trans al.out)) (by rw[bT.out];exact hl)).mono ?_;rintro _ f ⟨⟨v3,rfl,o3⟩,k3⟩;obtain⟨U,N,T,rfl⟩:=Oc o3.gl;have K3:Hid (Kp a f):=(by first|exact K2.out.trans k3|exact al.out.trans k3);have S3:=JE (HS.out _ K3.out);have O3:=JE o3;have ck:=JE (HS.out _ (K3.out.alloc (.cells #[.slice none 0 0,.slice none 0 0] 27)));have S4:=JE (HS.out _ (K3.out.alloc (.cells #[.slice a2 n2 c2,.slice U N T] 27)));have bm:Hid (Rd f (.slice a2 n2 c2) p.pub):=(by first|exact O2.out.rd.kp k3|exact(O2.out.rd.kp ((NQ w2).alloc _)).kp k3);(try (have u:Hid (Bx f w2.heap.size 27 #[.slice none 0 0,.slice none 0 0]):=bO.out.kp k3;have E:Hid (a.heap.size<=w2.heap.size/\w2.heap.size<f.heap.size):=⟨K2.out.size,(JK.1 u.out).1⟩;have aM:Hid (∀ k,(Value.slice U N T).ownBlock=some k->k≠w2.heap.size):=(λk i e=>by have:=(o3.lt k i).1;simp at this;omega);have aK:=JE (tl u.out (.slice a2 n2 c2) (.slice U N T));have S5:=JE (HS.out _ (aK.out.2.2 a K3.out E.out.1));have d:=u.out.there;have j0:=u.out.cell 0;have j1:=u.out.cell 1;have f0:=(d 0 (by decide)).2;have f1:=(d 1 (by decide)).2;clear d;rw[Lf] at f0 f1;simp only[JT,JS,JU] at j0 j1));(try (have u:Hid (Bx f a.heap.size 27 #[.slice none 0 0,.slice none 0 0]):=bN.out.kp k3;have E:Hid (a.heap.size<=a.heap.size/\a.heap.size<f.heap.size):=⟨JO _,(JK.1 u.out).1⟩;have aM:Hid (∀ k,(Value.slice U N T).ownBlock=some k->k≠a.heap.size):=(λk i e=>by have:=(o3.lt k i).1;have:=(JK.1 bN.out).1;omega);have aK:=JE (tl u.out (.slice a2 n2 c2) (.slice U N T));have S5:=JE (HS.out _ (aK.out.2.2 a K3.out E.out.1));have d:=u.out.there;have j0:=u.out.cell 0;have j1:=u.out.cell 1;have f0:=(d 0 (by decide)).2;have f1:=(d 1 (by decide)).2;clear d;rw[Lf] at f0 f1;simp only[JT,JS,JU] at j0 j1)))
    | (go_at_call 109;refine(a4.out _ _ p.pub (by first|exact HX.out.1.kp (K1.out.trans KD.out)|exact HX.out.1.kp (K1.out.trans aW.out)) b0).mono ?_;rintro _ w2 ⟨v2,rfl,o2,k2⟩;obtain⟨a2,n2,c2,rfl⟩:=aA o2.rd;have K2:Hid (Kp a w2):=(by first|exact KD.out.trans k2|exact aW.out.trans k2);have O2:=JE o2;have bi:Hid (ba a.heap.size (.slice a2 n2 c2)):=(λg A=>by have:=(KU o2 g A).1;first|exact this|(simp at this;omega));have S2:=JE (HS.out _ K2.out);have al:Hid (Kp a (w2.alloc (.cells #[.slice none 0 0,.slice none 0 0] 27))):=K2.out.alloc _;have cl:=JE (HS.out _ al.out);have bO:Hid (Bx (w2.alloc (.cells #[.slice none 0 0,.slice none 0 0] 27)) w2.heap.size 27 #[.slice none 0 0,.slice none 0 0]):=Oa w2 _ _;try (have bN:Hid (Bx w2 a.heap.size 27 #[.slice none 0 0,.slice none 0 0]):=bP.out.kp k2)))
  all_goals (
   obtain⟨u2,aj⟩:∃ x,Value.slice a2 n2 c2=x:=⟨_,rfl⟩;obtain⟨u3,ai⟩:∃ x,Value.slice U N T=x:=⟨_,rfl⟩;first
    | (
      obtain⟨S,R⟩:∃ x,f.heap.size=x:=⟨_,rfl⟩;obtain⟨H,O⟩:∃ x,f.alloc (.cells #[.slice a2 n2 c2,.slice U N T] 27)=x:=⟨_,rfl⟩;have hF:Bx H S 27 #[u2,u3]/\Kp a H/\a.heap.size<=S/\S<H.heap.size/\Rd H u2 p.pub/\ba a.heap.size u2/\GZ dc 74 V H a.heap.size u3 p.step/\(∀ k,u3.ownBlock=some k->k≠S)/\br (λk=>u3.ownBlock=some k) u2:=by
       rw[<-O,<-R,<-aj,<-ai];exact⟨Oa f _ _,K3.out.alloc _,K3.out.size,by simp,bm.out.kp ((NQ f).alloc _),bi.out,((O3.out.solidly λg A=>.inr (.inl (.inl (s.out.1 g A)))).mono (by first|exact K2.out.size|exact al.out.size)).kp ((NQ f).alloc _),λk i e=>by have:=(O3.out.lt k i).2;omega,lW (w:=w2) O2.out.rd.inside λg A=>by have:=(O3.out.lt g A).1;first|exact this|(simp at this;omega)⟩
      rw[O,R,aj,ai];exact key.out S u2 u3 H hF)
    | (
      obtain⟨S,R⟩:∃ x,w2.heap.size=x:=⟨_,rfl⟩;obtain⟨H,O⟩:∃ x,(f.setCell ⟨w2.heap.size,0,none⟩ (.slice a2 n2 c2)).setCell ⟨w2.heap.size,1,none⟩ (.slice U N T)=x:=⟨_,rfl⟩;have h5:=aK.out;have ae:=h5.2.1;have hF:Bx H S 27 #[u2,u3]/\Kp a H/\a.heap.size<=S/\S<H.heap.size/\Rd H u2 p.pub/\ba a.heap.size u2/\GZ dc 74 V H a.heap.size u3 p.step/\(∀ k,u3.ownBlock=some k->k≠S)/\br (λk=>u3.ownBlock=some k) u2:=by
       rw[<-O,<-R,<-aj,<-ai];refine⟨h5.1,h5.2.2 a K3.out E.out.1,E.out.1,JV E.out.2 ae.size,bm.out.step8 ae (λg e=>by subst e;exact cG.box u.out (λj z hj=>by
        match j with
        | 0=>cases hj;exact λn e=>by cases e
        | 1=>cases hj;exact λn e=>by cases e
        | j+2=>simp at hj)),bi.out,?_,aM.out,lW (w:=w2) O2.out.rd.inside λg A=>by have:=(O3.out.lt g A).1;first|exact this|(simp at this;omega)⟩
       exact((O3.out.step (Y:=λg=>g=w2.heap.size) ae (λg e=>.inl (.inl (.inr (by have:=K1.out.size;have:=E.out.1;omega)))) (λg A e=>aM.out g A e)).solidly λg A=>.inr (.inl (.inl (s.out.1 g A)))).mono (by first|exact K2.out.size|exact al.out.size)
      rw[O,R,aj,ai];exact key.out S u2 u3 H hF)
    | (
      obtain⟨S,R⟩:∃ x,a.heap.size=x:=⟨_,rfl⟩;obtain⟨H,O⟩:∃ x,(f.setCell ⟨a.heap.size,0,none⟩ (.slice a2 n2 c2)).setCell ⟨a.heap.size,1,none⟩ (.slice U N T)=x:=⟨_,rfl⟩;have h5:=aK.out;have ae:=h5.2.1;have hF:Bx H S 27 #[u2,u3]/\Kp a H/\a.heap.size<=S/\S<H.heap.size/\Rd H u2 p.pub/\ba a.heap.size u2/\GZ dc 74 V H a.heap.size u3 p.step/\(∀ k,u3.ownBlock=some k->k≠S)/\br (λk=>u3.ownBlock=some k) u2:=by
       rw[<-O,<-R,<-aj,<-ai];refine⟨h5.1,h5.2.2 a K3.out E.out.1,E.out.1,JV E.out.2 ae.size,bm.out.step8 ae (λg e=>by subst e;exact cG.box u.out (λj z hj=>by
        match j with
        | 0=>cases hj;exact λn e=>by cases e
        | 1=>cases hj;exact λn e=>by cases e
        | j+2=>simp at hj)),bi.out,?_,aM.out,lW (w:=w2) O2.out.rd.inside λg A=>by have:=(O3.out.lt g A).1;first|exact this|(simp at this;omega)⟩
       exact((O3.out.step (Y:=λg=>g=a.heap.size) ae (λg e=>.inl (.inl (.inr (by have:=K1.out.size;have:=E.out.1;omega)))) (λg A e=>aM.out g A e)).solidly λg A=>.inr (.inl (.inl (s.out.1 g A)))).mono (by first|exact K2.out.size|exact al.out.size)
      rw[O,R,aj,ai];exact key.out S u2 u3 H hF))
 case rest=>
  rintro g v v' W ⟨o,i,bA,bz,J,bu,ad,bv,bB⟩;obtain⟨av,nv,cv,rfl⟩:=aA J;obtain⟨a',c',rfl,aV,s3⟩:=Ob ad.gl;rw[bT.out] at *;have HG:=JE (JN bA bz);have cu:=JE bv;have cD:=JE bB;have cw:Hid (∀ k,(Value.slice a' M c').ownBlock=some k->a.heap.size<=k/\k<W.heap.size):=ad.lt;have a0:Hid (Bx W g 27 #[.slice av nv cv,.slice a' M c']/\Rd W (.slice av nv cv) p.pub/\GZ dc 74 V W a.heap.size (.slice a' M c') p.step/\Kp a W):=⟨o,J,ad,i⟩;have ct:=JE bu;have cm:Hid (w.heap.size+2<=a.heap.size):=by have:=(JK.1 bl.out).1;unfold Hid;omega
  have aY:=JE (λj (hj:j<M)=>bR.out j hj);obtain⟨cf,ce⟩:=HS.out W i;clear o i bA bz J bu ad bv bB KD aW bM S0 bP e0 e1 bR;go_wp2_with fail;go_loopw[19] (λz wr=>∃ j:Nat,j<=M/\z=.int .i64 (j:Int)/\Bx wr g 27 #[.slice av nv cv,.slice a' M c']/\Rd wr (.slice av nv cv) p.pub/\GZ dc 74 V wr a.heap.size (.slice a' M c') p.step/\Kp a wr/\W.heap.size<=wr.heap.size) (λz _=>(M - (intOf z).toNat))
  case atStart=>exact⟨0,JW _,rfl,a0.out.1,a0.out.2.1,a0.out.2.2.1,a0.out.2.2.2,JO _⟩
  case round=>
   obtain⟨j,hj,rfl,o,J,ad,i,bo⟩:=hrel;have B:=JE (JN o (JN J (JN ad (JN i bo))));clear o J ad i bo cf ce;by_cases aQ:j<M
   ·have bE:p.step.length=M:=cA.out
    have bb:j<p.step.length:=by omega
    obtain⟨cW,oy,cU,px,qx,ey,_,ak⟩:=SZ.nodeSt bj.out bb;rw[bE] at ey;cases ey;have a1:=JE ak;have KR:=JE (K1.out.trans B.out.2.2.2.1);obtain⟨dp,dq,bt,bq⟩:=ak wr KR.out;obtain⟨ah,ab,ag,rfl⟩:=aA bt.1;obtain⟨aU,bn,aT,rfl⟩:=Oc bq.1;obtain⟨I,ci,ev,ca,b9,b8,b7,b6⟩:=B.out.2.2.1.form (by omega);rw[bE] at ev;cases ev;have D:Hid (a.heap.size<=I/\I<W.heap.size):=cw.out I rfl;obtain⟨WQ,aS⟩:∃ x,wr.alloc (.cells #[.slice ah ab ag,.slice aU bn aT] 74)=x:=⟨_,rfl⟩;have KQ:Hid (Kp wr WQ):=by unfold Hid;rw[<-aS];exact(NQ _).alloc _
    have aZ:Hid (Bx WQ wr.heap.size 74 #[.slice ah ab ag,.slice aU bn aT]):=by unfold Hid;rw[<-aS];exact Oa wr _ _
    have aa:Hid (WQ.heap.size=wr.heap.size+1):=by unfold Hid;rw[<-aS];exact JY _ _
    have bJ:=aZ.out.cell 1;have i4:(j:Int)<(M:Int):=by omega
    simp only[JT,JS,JU] at bJ;clear ak bt bq ca b9 b8 b7 b6 s1 s3;go_wp2_with fail;try rw[aS]
    have a8:=a1.out WQ (KR.out.trans KQ.out);refine(cI.out WQ _ (am p.step j).fors _ a8.2.2.2 (aY.out j aQ).2.1).mono ?_;rintro _ w6 ⟨⟨v6,rfl,o6⟩,k6⟩;obtain⟨a6,c6,rfl,p6,s6⟩:=Ob o6.gl;obtain⟨cX,cV,cd,cM,bY⟩:=Ob a8.2.2.2.1;cases cd;clear a8;have O6:Hid (GZ dS 92 (λb=>b=I\/V b) w6 WQ.heap.size (.slice a6 (am p.step j).fors.length c6) (am p.step j).fors):=o6.solidly λb o=>.inr (.inl (.inl (o.elim (λe=>.inr (by have:=D.out.1;have:=cm.out;omega)) λo=>s.out.1 b o)))
    have cZ:Hid (∀ k,(Value.slice a6 (am p.step j).fors.length c6).ownBlock=some k->WQ.heap.size<=k/\k<w6.heap.size):=o6.lt;have K6:=JE k6;have cF:=JE (aY.out j aQ).2.2;have co:Hid (SZ dS (λg=>Z g\/w.heap.size<=g) WQ (.slice aU (am p.step j).fors.length aT) (am p.step j).fors):=(a1.out WQ (KR.out.trans KQ.out)).2.2.2;have cp:Hid (RZ (λg=>Z g\/w.heap.size<=g) WQ (.slice ah ab ag) (am p.step j).pub):=(a1.out WQ (KR.out.trans KQ.out)).2.2.1;have cq:=JE (aY.out j aQ).1;have cT:=(aY.out j aQ).2.1;generalize bG:(am p.step j).fors=FL at *;generalize bD:(am p.step j).pub=PJ at *;have cn:Hid (∀ W,Kp WQ W->W.cell? ⟨wr.heap.size,0,none⟩=some (.slice ah ab ag)/\W.cell? ⟨wr.heap.size,1,none⟩=some (.slice aU FL.length aT)):=λW hW=>⟨(aZ.out.kp hW).cell 0,(aZ.out.kp hW).cell 1⟩
    have bV:=JE (JN bG bD);generalize hL:FL.length=L at *;have cz:=JE hL;obtain⟨ch,cg⟩:=cn.out w6 K6.out;generalize cR:wr.heap.size=q5 at *;clear bG bD hL o6 k6 dp dq bJ s6 bY a1;go_wp2_with fail;go_loopw[30] (λz wi=>∃ m:Nat,m<=L/\z=.int .i64 (m:Int)/\GZ dS 92 (λb=>b=I\/V b) wi WQ.heap.size (.slice a6 L c6) FL/\Kp WQ wi) (λz _=>(L - (intOf z).toNat))
    case atStart=>exact⟨0,JW _,rfl,O6.out,K6.out⟩
    case round=>
     obtain⟨m,hm,rfl,ho,i⟩:=hrel;have HO:=JE (JN ho i);clear ho i ch cg;by_cases b1:m<L
     ·have bF:FL.length=L:=cz.out
      have a9:m<FL.length:=by omega
      obtain⟨bs,os,cs,hx,bx,es,_,ak⟩:=SZ.nodeSe co.out a9;rw[bF] at es;cases es;obtain⟨dh,db,bc,bd⟩:=ak _ HO.out.2;obtain⟨aF,ar,aD,rfl⟩:=aA bc.1;obtain⟨aG,au,aE,rfl⟩:=aA bd.1;obtain⟨g6,cj,e6,bI,bH,b5,b4,af⟩:=HO.out.1.form (by omega);rw[bF] at e6;cases e6;have aP:Hid (WQ.heap.size<=g6/\g6<wr.heap.size):=⟨bI,bH⟩;clear bI bH b5 b4 af;have im:(m:Int)<(L:Int):=by omega
      obtain⟨WR,aR⟩:∃ x,wr.alloc (.cells #[.slice aF ar aD,.slice aG au aE] 92)=x:=⟨_,rfl⟩;have aJ:Hid (Kp wr WR):=by unfold Hid;rw[<-aR];exact(NQ _).alloc _
      have bk:Hid (Bx WR wr.heap.size 92 #[.slice aF ar aD,.slice aG au aE]):=by unfold Hid;rw[<-aR];exact Oa wr _ _
      have bQ:Hid (WR.heap.size=wr.heap.size+1):=by unfold Hid;rw[<-aR];exact JY _ _
      have HH:=JE bc.1;have cJ:=JE bd.1;have cr:=JE (HO.out.1.kp aJ.out);have an:=JE (HO.out.2.trans aJ.out);have bU:=JE (cF.out m b1);have aN:Hid (m<FL.length):=a9;generalize cQ:wr.heap.size=q8 at *;have X:Hid (∀ W,Kp WR W->W.cell? ⟨q8,0,none⟩=some (.slice aF ar aD)/\W.cell? ⟨q8,1,none⟩=some (.slice aG au aE)):=λW hW=>⟨(bk.out.kp hW).cell 0,(bk.out.kp hW).cell 1⟩
      have S0:=JE (X.out _ (NQ WR));have aI:=JE (X.out _ ((NQ WR).drew));clear ak bc bd a9;go_wp2_with fail;try rw[aR]
      go_region_held3 (λW=>W.cell? ⟨q8,0,none⟩=some (.slice aF ar aD)/\W.cell? ⟨q8,1,none⟩=some (.slice aG au aE))
       (first|with_reducible exact S0.out|with_reducible exact aI.out|with_reducible exact S2.out|with_reducible exact S3.out|with_reducible exact S4.out|fail)
       (first
        | (go_at_call 109;refine(a4.out _ _ (aH FL m).b (cJ.out.kp (aJ.out.trans aX.out)) bU.out.2).mono ?_;rintro _ f ⟨v3,rfl,o3,k3⟩;obtain⟨U,N,T,rfl⟩:=aA o3.rd;have r:Hid (Kp WR f):=aX.out.trans k3;have S3:=JE (X.out _ r.out);have K:=cr.out.kp r.out;obtain⟨cc,cj,bh,_,_,_,_,af⟩:=K.form (MQ (JW m) aN.out);obtain⟨bX,aq,ap⟩:=af m _ (JG aN.out);have bg:cc=g6:=(by simp only[JR,Ky,Lv,and_true] at bh;exact bh.1.symm);obtain⟨a7,a5,aB,aw,_,_⟩:=qU aq ap;have j0:f.cell? ⟨g6,m*2,none⟩=some a7:=bg▸aB;have j1:f.cell? ⟨g6,m*2+1,none⟩=some a5:=bg▸aw;have d:=K.there m aN.out;have f0:f.frozen? ⟨g6,m*2,none⟩=false:=(d 0 (by decide)).2;have f1:f.frozen? ⟨g6,m*2+1,none⟩=false:=(d 1 (by decide)).2;have G:=K.stored m aN.out (aH FL m) [.slice a2 n2 c2,.slice U N T] ⟨_,_,rfl,⟨O2.out.rd.kp k3,dZ (C:=WR.heap.size) O2.out.own_ge λb o=>o.elim (λe=>by have:=aP.out.2;have:=bQ.out;omega) λo=>o.elim (λe=>by have:=D.out.2;have:=B.out.2.2.2.2;have:=aa.out;have:=an.out.size;omega) λo=>by have:=s.out.2.1 b o;have:=D.out;have:=B.out.2.2.2.2;have:=aa.out;have:=an.out.size;omega⟩,⟨o3.rd,dZ (C:=WR.heap.size) (λk i=>Kd aX.out.size (o3.own_ge k i)) λb o=>o.elim (λe=>by have:=aP.out.2;have:=bQ.out;omega) λo=>o.elim (λe=>by have:=D.out.2;have:=B.out.2.2.2.2;have:=aa.out;have:=an.out.size;omega) λo=>by have:=s.out.2.1 b o;have:=D.out;have:=B.out.2.2.2.2;have:=aa.out;have:=an.out.size;omega⟩⟩;rw[IS aN.out] at G;have aL:=JE G;have ao:=JE ((bk.out.kp r.out).grown G.2 (λe=>by cases e;exact Nat.lt_irrefl _ aP.out.2));have S4:Hid (((f.setCell ⟨g6,m*2,none⟩ (.slice a2 n2 c2)).setCell ⟨g6,m*2+1,none⟩ (.slice U N T)).cell? ⟨q8,0,none⟩=some (.slice aF ar aD)/\((f.setCell ⟨g6,m*2,none⟩ (.slice a2 n2 c2)).setCell ⟨g6,m*2+1,none⟩ (.slice U N T)).cell? ⟨q8,1,none⟩=some (.slice aG au aE)):=⟨ao.out.cell 0,ao.out.cell 1⟩;clear G d af aq ap K aB aw bh bg)
        | (go_at_call 109;refine(a4.out _ _ (aH FL m).half (by first|exact HH.out.kp aJ.out|exact HH.out.kp (aJ.out.trans (NQ _).drew)) bU.out.1).mono ?_;rintro _ w2 ⟨v2,rfl,o2,k2⟩;obtain⟨a2,n2,c2,rfl⟩:=aA o2.rd;have aX:Hid (Kp WR w2):=(by first|exact k2|exact(NQ WR).drew.trans k2);have O2:=JE (Ow.mono o2 (JO _));have S2:=JE (X.out _ aX.out)))
      all_goals (
       clear S0 aI S2 S3 S4 j0 j1 f0 f1;go_wp2_with fail;have c:=aL.out;go_roundw
       case rel=>exact⟨m+1,by omega,by go_num,(by first|exact c.1|exact c.1.kp (NQ _).drew),(by first|exact NS (v:=.slice (some ⟨g6,0,none⟩) L c6) (an.out.trans r.out) c.2 (λk i=>by cases i;exact aP.out.1)|exact(NS (v:=.slice (some ⟨g6,0,none⟩) L c6) (an.out.trans r.out) c.2 (λk i=>by cases i;exact aP.out.1)).drew)⟩
       case measure=>simp[intOf];omega)
     ·obtain rfl:m=L:=by omega
      have cS:¬(m:Int)<(m:Int):=by omega
      have KO:=JE (KQ.out.trans HO.out.2);have cB:=JE (B.out.2.2.1.kp KO.out);have bW:=JE (B.out.1.kp KO.out);have bL:=JE (aZ.out.kp HO.out.2);have X:Hid (∀ W,Kp wr W->W.cell? ⟨g,1,none⟩=some (.slice (some ⟨I,0,none⟩) M c')/\W.cell? ⟨q5,0,none⟩=some (.slice ah ab ag)):=λW hW=>⟨(bW.out.kp hW).cell 1,(bL.out.kp hW).cell 0⟩
      have S0:=JE (X.out _ (NQ wr));have aI:=JE (X.out _ ((NQ wr).drew));have aO:Hid (j<p.step.length):=bb;have bK:=JE (cp.out.1.kp HO.out.2);clear bb;go_wp2_with fail;go_region_held3 (λW=>W.cell? ⟨g,1,none⟩=some (.slice (some ⟨I,0,none⟩) M c')/\W.cell? ⟨q5,0,none⟩=some (.slice ah ab ag))
       (first|with_reducible exact S0.out|with_reducible exact aI.out|with_reducible exact S3.out|with_reducible exact S4.out|fail)
       (first|(go_at_call 109;refine(a4.out _ _ PJ (by first|exact bK.out|exact bK.out.kp (NQ _).drew) cq.out).mono ?_;rintro _ f ⟨v3,rfl,o3,k3⟩;obtain⟨U,N,T,rfl⟩:=aA o3.rd;have r:Hid (Kp wr f):=(by first|exact k3|exact(NQ wr).drew.trans k3);have S3:=JE (X.out _ r.out);have K:=cB.out.kp r.out;obtain⟨cb,ci,be,_,_,_,_,af⟩:=K.form (MQ (JW j) aO.out);obtain⟨bX,aq,ap⟩:=af j _ (JG aO.out);obtain⟨a7,a5,aB,aw,_,_⟩:=qV aq ap;have bf:cb=I:=(by simp only[JR,Ky,Lv,and_true] at be;exact be.1.symm);have j0:f.cell? ⟨I,j*2,none⟩=some a7:=bf▸aB;have j1:f.cell? ⟨I,j*2+1,none⟩=some a5:=bf▸aw;have d:=K.there j aO.out;have f0:f.frozen? ⟨I,j*2,none⟩=false:=(d 0 (by decide)).2;have f1:f.frozen? ⟨I,j*2+1,none⟩=false:=(d 1 (by decide)).2;have G:=K.stored j aO.out (am p.step j) [.slice U N T,.slice a6 m c6] ⟨_,_,rfl,by rw[bV.out.2];exact⟨o3.rd,dZ (C:=wr.heap.size) (λk i=>(by have:=o3.own_ge k i;first|exact this|(simp at this;omega))) λb o=>o.elim (λe=>by have:=D.out.2;have:=B.out.2.2.2.2;have:=aa.out;have:=HO.out.2.size;omega) λo=>by have:=s.out.2.1 b o;have:=D.out;have:=B.out.2.2.2.2;have:=aa.out;have:=HO.out.2.size;omega⟩,by rw[bV.out.1];exact⟨(HO.out.1.kp r.out).se,dZ (C:=WQ.heap.size) (λk i=>(HO.out.1.lt k i).1) λb o=>o.elim (λe=>by have:=D.out.2;have:=B.out.2.2.2.2;have:=aa.out;omega) λo=>by have:=s.out.2.1 b o;have:=D.out;have:=B.out.2.2.2.2;have:=aa.out;omega⟩⟩;rw[IR aO.out] at G;have aL:=JE G;have ao:=JE ((bW.out.kp r.out).grown G.2 (λe=>cu.out I rfl (by cases e;rfl)));have cK:=JE ((bL.out.kp r.out).grown G.2 (λe=>by cases e;have:=D.out.2;have:=B.out.2.2.2.2;omega));have S4:Hid (((f.setCell ⟨I,j*2,none⟩ (.slice U N T)).setCell ⟨I,j*2+1,none⟩ (.slice a6 m c6)).cell? ⟨g,1,none⟩=some (.slice (some ⟨I,0,none⟩) M c')/\((f.setCell ⟨I,j*2,none⟩ (.slice U N T)).setCell ⟨I,j*2+1,none⟩ (.slice a6 m c6)).cell? ⟨q5,0,none⟩=some (.slice ah ab ag)):=⟨ao.out.cell 1,cK.out.cell 0⟩;clear G d af aq ap K aB aw be bf))
      all_goals (
       clear S0 aI S3 S4 j0 j1 f0 f1;go_wp2_with fail;have c:=aL.out;have bZ:az (λk=>(Value.slice (some ⟨I,0,none⟩) M c').ownBlock=some k) _ _:=⟨c.2.os,c.2.tape,c.2.output,c.2.size,λq hq hn=>c.2.block q hq λe=>hn (by cases e;rfl)⟩;have J:=(B.out.2.1.kp (KO.out.trans r.out)).stepF bZ cD.out;have bw:=NS (v:=.slice (some ⟨I,0,none⟩) M c') (B.out.2.2.2.1.trans (KO.out.trans r.out)) c.2 (λk i=>by cases i;exact D.out.1);have cL:=c.2.size;have cP:=r.out.size;have cO:=KO.out.size;have cN:=B.out.2.2.2.2;go_roundw
       case rel=>exact⟨j+1,by omega,by go_num,(by first|exact ao.out|exact ao.out.kp (NQ _).drew),(by first|exact J|exact J.kp (NQ _).drew),(by first|exact c.1|exact c.1.kp (NQ _).drew),(by first|exact bw|exact bw.drew),(by first|omega|(simp;omega))⟩
       case measure=>simp[intOf];omega)
   ·obtain rfl:j=M:=by omega
    have h1:¬(j:Int)<(j:Int):=by omega
    have e3:=B.out.1.cell 0;have e4:=B.out.1.cell 1;simp only[JT,JS,JU] at e3 e4;have bS:=JE (bl.out.kp B.out.2.2.2.1);have cE:Hid (RZ V wr (.slice av nv cv) p.pub):=⟨B.out.2.1,dZ ct.out s.out.2.1⟩;have cC:Hid (SZ dc V wr (.slice a' j c') p.step):=⟨B.out.2.2.1.se,dZ (C:=a.heap.size) (λk i=>(B.out.2.2.1.lt k i).1) s.out.2.1⟩;go_wp2_with(refine eR rfl rfl 27 (.tmp 2) (.tmp 56) rfl (w.heap.size+1) 27 _ #[.slice av nv cv,.slice a' j c'] rfl rfl bS.out rfl (mJ rfl rfl) zy ?_;intro wq b3 gq b2)
    have SG:Hid (az V wr wq):=⟨gq.os,gq.tape,gq.output,gq.size,λq hq hn=>gq.block q hq λe=>hn (by cases e;exact s.out.2.2.2)⟩;refine bodyPost_ret (results_cell_row (P:=prog) rfl _ _ (w.heap.size+1) _ _ (0,0) _ rfl b3 underlying27 rfl zy) rfl ?_;exact⟨⟨_,_,rfl,(cE.out.step SG.out).mono s.out.2.2.1,(cC.out.step SG.out).mono s.out.2.2.1⟩,b2 w (K1.out.trans B.out.2.2.2.1) (Mh _)⟩
section
open Go.Maps
theorem RN.cs {l:List Nat}(h:RN w v l)(k:Cs w w'):RN w' v l:=h.stepF k.step λx n c e b a=>a ((RN.ri h).solid x n c e b)
theorem PIn.cs {x y:Value}{p:Pa}(h:PIn w x y p)(k:Cs w w'):PIn w' x y p:=⟨h.pub.cs k,aJ.cs h.step k⟩
theorem zB (own:List Sd)(info:List UInt8):∀ (who:List Int) (f:List Se),(df own info who f).2=0->(df own info who f).1.length=32
 | [],f=>λh=>by unfold df at h;cases h
 | y :: l,f=>λh=>by
  unfold df at h ⊢
  split at h
  ·rename_i h0
   rw[if_pos h0]
   exact zB own info l f.tail h
  ·rename_i h0
   rw[if_neg h0]
   split at h
   ·cases h
   ·rename_i h1
    rw[if_neg h1]
    split at h
    ·rename_i h2;exact absurd h h2
    ·rename_i h2
     rw[if_neg h2]
     split at h
     ·cases h
     ·rename_i h3
      rw[if_neg h3]
      simpa using h3
set_option maxRecDepth 100000 in
set_option maxHeartbeats 4000000 in
open Classical in
theorem Jc (aa v vi x y:Value)(t:List Nod)(K i me:Nat)(own:List Sd)(info:List UInt8)(p:Pa)(w:World)(hu:NL w aa t)(T:aD t K)(hT:bl t K)(hv:SL w v own)(a3:Rd w vi info)(hp:PIn w x y p)(l:(ats t (2*i)).kind=1)
  (bp:i≠me) (I:bZ t K (me:Int) own) (bs:info.length<=1400) (di:own.length<=99000) (bv:∀ k j,(aH (am p.step k).fors j).b.length<=1600)
  (bi:∀ j,j<p.step.length->(am p.step j).pub.length<=10000/\(am p.step j).fors.length<=10000/\∀ k,k<(am p.step j).fors.length->(aH (am p.step j).fors k).half.length<=10000/\(aH (am p.step j).fors k).b.length<=10000) (S:Tab w):
  Calls prog 23 #[aa,.int .i64 (i:Int),.int .i64 (me:Int),v,vi,.agg #[x,y]] w λe w'=>(∃ v,e=.returned (.tuple #[v,.int .i64 (bT t K i me own info p)])/\MV w' v (cM t K i me own info p))/\Kp w w':=by
 obtain⟨z1,z2,z3⟩:=T.small;have C:=(T.there_iff i).2 l;have aW:=I.1;have F:=(T.there_iff me).1 aW;have cC:=Oe (t:=t) (x:=2*i) (by rw[l];decide);have cz:=Oe (t:=t) (x:=2*me) (by rw[F];decide);have hi:i<2 ^ K:=by omega
 have cp:=bP T.le;have a5:bT t K (i:Int) (me:Int) own info p=if ¬dy (aT t i K) p then 2
   else if (du t K i me own info p).2≠0 then (du t K i me own info p).2
   else if gn p.step (du t K i me own info p).1 (kM t i me) (ixS t i K).length then 0 else 5:=by
  unfold bT;rw[if_neg (by rw[Ln];exact C),if_neg (by omega)];rfl
 have a4:cM t K (i:Int) (me:Int) own info p=if bT t K (i:Int) (me:Int) own info p=0 then
  ⟨eE t (i:Int) (aC t i K) p,cX (cL K i own) (du t K i me own info p).1 ((aC t i K).drop (kM t i me)),p,aU (du t K i me own info p).1 ((ixS t i K).length - kM t i me)⟩ else fv:=rfl
 obtain⟨dj,cJ,cI⟩:=zz T l bp I;obtain⟨ck,aM⟩:=gy t i K;have bz:(ixS t i K).length<=10:=Kd (kC t i K) T.le;obtain⟨_,aO,aP,_⟩:=nV.1 I;have J:∀ s∈own,-9223372036854775808<=s.node/\s.node<=9223372036854775807:=λs h=>by
  rcases (aP s h).1 with e|⟨z,hz,e,_⟩
  ·omega
  ·have:=eP (i:=me) (by omega) hz
   omega
 have bI:=JE (λW (d:Kp w W)=>qA aa t K i W (hu.kp d) T l (S.kp d));have b8:=JE (λW (d:Kp w W) (n s:Value) (o:WIn W aa n s t K i)=>IF aa n s x y t K i p W o (hp.kp d));have bU:=JE (λW (d:Kp w W) (n s:Value) (o:WIn W aa n s t K i)=>IK aa n s t K i me own W o T l bp I (S.kp d));have cf:=JE (λW (d:Kp w W)=>tq v own W (Od hv d) aO (by omega) (λk hk=>J _ (nU hk)));have aS:=JE (λW (d:Kp w W) (n s:Value) m (o:WIn W aa n s t K i) (hm:KM prog 3 W m own.length (λy=>y∈own)) (L:dy (aT t i K) p)=>ID aa n s x y vi t K i (kM t i me) m own.length own info p W o hm aO (λs h=>(aP s h).2.1) (a3.kp d) (hp.kp d)
  (by omega) (by rw[L.1,aM]) (L.2.2 _ (by omega)).1 (λj U=>by obtain⟨_,f2⟩:=lV (a:=kM t i me) T hi (by omega);obtain⟨z,y1,y2,_⟩:=f2 j U;rw[y1];omega) bs (λj=>bv _ j))
 have bW:=JE (λW (n s vs:Value) m (f:List UInt8) (hC:Cs w W) (o:WIn W aa n s t K i) (hm:KM prog 3 W m own.length (λy=>y∈cL K i own)) (hv:Rd W vs f) (cK:f.length=32) (L:dy (aT t i K) p)=>Iz aa n s x y vs t K i (kM t i me) m own.length (λy=>y∈cL K i own) f p W o hm (hp.cs hC) hv cK (by omega) bz (by rw[L.1,aM]) (by omega)
  (λa ha z hz e=>by
   rw[<-oC,oz] at ha;exact ha.2 z (fP (Nd hz)) e.symm)
  (λz hz=>by have:=eP hi (fP hz);omega))
 have bY:=JE (λW (n s:Value) (hC:Cs w W) (o:WIn W aa n s t K i) (cE:Tab W) (L:dy (aT t i K) p)=>ze aa n s x y t K i p W o T hT l (hp.cs hC) L.2.1 (by rw[L.1,aM]) (λa ha=>(L.2.2 a (by omega)).2) cE);have bq:((aC t i K).drop (kM t i me)).Nodup:=(lT t i K).sublist (List.drop_sublist _ _);have bu:∀ a∈cL K i own,∀ z∈(aC t i K).drop (kM t i me),a.node≠(z:Int):=λa ha z hz e=>by
  rw[<-oC,oz] at ha;exact ha.2 z (fP (Nd hz)) e.symm
 have bg:((aC t i K).drop (kM t i me)).length=(ixS t i K).length - kM t i me:=by rw[LG,ck]
 have a7:Hid (∀ (f:List UInt8) (r:List Sd),srt r->(∀ z,z∈r↔fJ (λz=>z∈cL K i own) f ((aC t i K).drop (kM t i me)) ((ixS t i K).length - kM t i me) z)->r=cX (cL K i own) f ((aC t i K).drop (kM t i me))):=λf r T hm=>
  yW bq (by rw[<-oC];exact GW aO _) bu T (by rw[bg];exact hm)
 have au:Hid (∀ f s,fJ (λz=>z∈cL K i own) f ((aC t i K).drop (kM t i me)) ((ixS t i K).length - kM t i me) s->(-9223372036854775808<=s.node/\s.node<=9223372036854775807)/\s.seed.length<=2000):=λf s h=>by
  rcases h with h|⟨a,ha,rfl⟩
  ·rw[<-oC,oz] at h
   exact⟨J s h.1,by rw[(aP s h.1).2.1];decide⟩
  ·have hm:((aC t i K).drop (kM t i me)).getD a 0∈(aC t i K).drop (kM t i me):=by rw[JF,JG (by omega)];exact Ko _
   have:=eP hi (fP (Nd hm));refine⟨⟨?_,?_⟩,?_⟩
   ·show _<=((((aC t i K).drop (kM t i me)).getD a 0:Nat):Int);omega
   ·show((((aC t i K).drop (kM t i me)).getD a 0:Nat):Int)<=_;omega
   ·show(bo f a).length<=_;unfold bo;rw[jR];omega
 have bN:=JE (λW gm f (h:KM prog 3 W gm (own.length+((ixS t i K).length - kM t i me)) (fJ (λz=>z∈cL K i own) f ((aC t i K).drop (kM t i me)) ((ixS t i K).length - kM t i me)))=>zg W h (by omega) (λs I=>(au.out f s I).1) (λs I=>(au.out f s I).2));have ce:=JE (λW (g:Nat) (hg:g<W.heap.size) (h1:RZ (λk=>k=g) W x p.pub) (h2:SZ dc (λk=>k=g) W y p.step) (L:dy (aT t i K) p)=>IU x y p (λk=>k=g) W h1 h2 (λk e=>by rw[e];exact hg) (by rw[L.1,aM];omega) (by rw[L.2.1];decide) bi);have bd:=JE (λj (U:j<(aL K 0 i).length) z=>GV (own:=own) (xs:=aL K 0 i) (n:=j) U z);have cb:Hid (iD own ((aL K 0 i).take 0)=own):=GU own;have ca:Hid (iD own ((aL K 0 i).take (aL K 0 i).length)=cL K i own):=by unfold Hid;rw[Kz];exact oC
 have bb:Hid (∀ j,j<(aL K 0 i).length->(aL K 0 i).getD j 0<=100000):=λj U=>by
  have hm:(aL K 0 i).getD j 0∈aL K 0 i:=by rw[JF,JG U];exact Ko _
  have:=eP hi hm;omega
 have cg:Hid ((du t K i me own info p).2=0->(du t K i me own info p).1.length=32):=zB _ _ _ _;have bO:Hid (du t K i me own info p=df own info ((aT t i K).getD (kM t i me) []) (am p.step (kM t i me)).fors):=rfl;have ba:=JE hp;have HU:=JE hu;have cV:=JE S;have dd:((i:Int)==(me:Int))=false:=JL.2 (by omega);have cq:¬(i:Int)=(me:Int):=by omega
 rw[<-bO.out] at aS;generalize bT t K (i:Int) (me:Int) own info p=TE at *;generalize cM t K (i:Int) (me:Int) own info p=TV at *;generalize cF:du t K i me own info p=RR at *;obtain⟨S0,E0⟩:=RR;dsimp only at a5 a4 cg aS
 generalize bA:dy (aT t i K) p=ch at *;have Q:=JE (JN a5 a4);generalize eE t (i:Int) (aC t i K) p=LP at *;obtain⟨a,c,rfl,p1,s1⟩:=hu.shape;obtain⟨av,nv,cv,rfl⟩:=Oc hv;obtain⟨ai,ni,ci,rfl⟩:=aA a3;obtain⟨ax,nx,cx,rfl⟩:=aA hp.pub;obtain⟨ay,ny,cy,rfl⟩:=Oc hp.step;clear a5 a4 cJ cI hu T hT hv a3 hp l C aW F cC cz hi I bv bi S aP aO J bq bu bg bA cF z1 z2 z3 bO au cp bs;generalize cH:t.length=N at *;clear cH;obtain⟨w1,ad⟩:∃ w1,(w.alloc (.cells #[.slice ax nx cx,.slice ay ny cy] 27)).alloc (.cells #[.slice none 0 0,.slice none 0 0,.slice none 0 0,.slice none 0 0,.slice none 0 0] 47)=w1:=⟨_,rfl⟩;have P:Hid (∀ W,Kp w1 W->Bx W (w.heap.size+1) 47 #[.slice none 0 0,.slice none 0 0,.slice none 0 0,.slice none 0 0,.slice none 0 0]):=λW d=>by
  refine Bx.kp ?_ d;have:=Oa (w.alloc (.cells #[.slice ax nx cx,.slice ay ny cy] 27)) 47 #[.slice none 0 0,.slice none 0 0,.slice none 0 0,.slice none 0 0,.slice none 0 0];rw[JY] at this;rw[<-ad];exact this
 have bR:Hid (∀ W,Kp w1 W->Bx W w.heap.size 27 #[.slice ax nx cx,.slice ay ny cy]):=λW d=>by
  refine Bx.kp ?_ d;rw[<-ad];exact(Oa w _ _).kp ((NQ _).alloc _)
 have K1:Hid (Kp w w1):=by unfold Hid;rw[<-ad];exact((NQ _).alloc _).alloc _
 go_enter func23,ntmps23;go_wp2_with fail;try rw[ad]
 clear ad;refine(bI.out w1 K1.out).mono ?_;rintro _ w2 ⟨⟨dg,sv,rfl,o⟩,k2⟩;obtain⟨an,cn,rfl,q3,q4⟩:=o.nodes.shape;obtain⟨ap,ab,ak,rfl⟩:=Oc o.steps;have bS:Hid ((aL K 0 i).length<=maxLen):=Kd q3 q4;have bJ:=JE o;have K2:=JE k2;clear o k2 bI;obtain⟨w3,aN⟩:∃ x,w2.alloc (.cells #[.slice a N c,.int .i64 (i:Int),.slice an (aL K 0 i).length cn,.slice ap ab ak] 95)=x:=⟨_,rfl⟩;have aV:Hid (Bx w3 w2.heap.size 95 #[.slice a N c,.int .i64 (i:Int),.slice an (aL K 0 i).length cn,.slice ap ab ak]):=by unfold Hid;rw[<-aN];exact Oa w2 _ _
 have bG:Hid (Kp w2 w3):=by unfold Hid;rw[<-aN];exact(NQ _).alloc _
 have H:=JE (K2.out.trans bG.out);have R:Hid (∀ W,Kp w3 W->(W.cell? ⟨w.heap.size,0,none⟩=some (.slice ax nx cx)/\W.cell? ⟨w.heap.size,1,none⟩=some (.slice ay ny cy))/\(W.cell? ⟨w2.heap.size,0,none⟩=some (.slice a N c)/\W.cell? ⟨w2.heap.size,1,none⟩=some (.int .i64 (i:Int))/\W.cell? ⟨w2.heap.size,2,none⟩=some (.slice an (aL K 0 i).length cn)/\W.cell? ⟨w2.heap.size,3,none⟩=some (.slice ap ab ak))):=λW d=>
  ⟨⟨(bR.out W (H.out.trans d)).cell 0,(bR.out W (H.out.trans d)).cell 1⟩,(aV.out.kp d).cell 0,(aV.out.kp d).cell 1,(aV.out.kp d).cell 2,(aV.out.kp d).cell 3⟩
 obtain⟨⟨c0,c1⟩,b0,b1,b2,b3⟩:=R.out w3 (NQ _);have G:=JE (K1.out.trans H.out);have B:=JE (bJ.out.kp bG.out);go_wp2_with fail;try rw[aN]
 clear aN;refine(b8.out w3 G.out _ _ B.out).mono ?_;rintro _ w4 ⟨⟨b,rfl,hb⟩,k4⟩;have K4:=JE k4;clear c0 c1 b0 b1 b2 b3 b8;cases b
 ·have bm:¬ch:=λh=>by cases hb.2 h
  have M:TE=2:=by rw[Q.out.1,if_pos bm]
  have HQ:Hid (TE=2/\TV=fv):=⟨M,by rw[Q.out.2,if_neg (by rw[M];decide)]⟩;have aK:=JE (P.out w4 (H.out.trans K4.out));have aB:=JE (G.out.trans K4.out);clear hb bm M k4;go_wp2_with(refine eR rfl rfl 47 (.tmp 12) (.tmp 43) rfl (w.heap.size+1) 47 _ #[.slice none 0 0,.slice none 0 0,.slice none 0 0,.slice none 0 0,.slice none 0 0] rfl rfl aK.out rfl gA cY ?_;intro wq ah gq ag)
  have af:=ag w aB.out (Mh _);refine bodyPost_ret (eZ rfl _ _ (w.heap.size+1) _ _ (0,0) _ _ rfl ah underlying47 rfl cY rfl) rfl ?_;rw[HQ.out.1,HQ.out.2];exact⟨⟨_,rfl,_,_,_,_,_,rfl,Oj _⟩,af⟩
 ·have L:ch:=hb.1 rfl
  have aI:Hid (TE=(if E0≠0 then E0 else if gn p.step S0 (kM t i me) (ixS t i K).length then 0 else 5)):=by unfold Hid;rw[Q.out.1,if_neg (by rw[Ln];exact L)]
  have HF:=JE L;obtain⟨_,b0,b1,b2,b3⟩:=R.out w4 K4.out;have aZ:=JE (bU.out w4 (G.out.trans K4.out) _ _ (B.out.kp K4.out));clear hb L k4 bU;go_wp2_with fail;refine aZ.out.mono ?_;rintro _ w5 ⟨rfl,k5⟩;have K5:=JE (K4.out.trans k5);clear k5 b0 b1 b2 b3 aZ;go_wp2_with fail;refine(cf.out w5 (G.out.trans K5.out)).mono ?_;rintro _ w6 ⟨⟨rfl,F⟩,k6⟩;have bF:=JE k6;have K6:=JE (K5.out.trans k6);have a1:=JE F;have aY:=JE (aS.out w6 (G.out.trans K6.out) _ _ _ (B.out.kp K6.out) F HF.out);obtain⟨⟨c0,c1⟩,b0,b1,b2,b3⟩:=R.out w6 K6.out;clear k6 F cf aS;go_wp2_with fail;refine aY.out.mono ?_;rintro _ w7 ⟨⟨rv,rfl,a2⟩,k7⟩;obtain⟨ar,nr,cr,rfl⟩:=aA a2;have bE:=JE k7;have K7:=JE (K6.out.trans k7);have c2:=JE a2;have aF:=JE (a1.out.kp k7);clear a2 k7 c0 c1 b0 b1 b2 b3 aY;by_cases aj:E0=0
  ·subst aj
   have aG:Hid (TE=(if gn p.step S0 (kM t i me) (ixS t i K).length then 0 else 5)):=by unfold Hid;rw[aI.out,if_neg (by simp)]
   have bw:=cg.out rfl;obtain⟨_,b0,b1,b2,b3⟩:=R.out w7 K7.out;generalize bx:(aL K 0 i).length=PL at *;have de:=JE bx;have cu:=bS.out;unfold maxLen at cu;clear aI bx;have c6:=JE aF.out.nosolid;go_wp2_with fail;go_loopw[65] (λz wr=>∃ j:Nat,j<=PL/\z=.int .i64 (j:Int)/\KM prog 3 wr w5.heap.size own.length (λz=>z∈iD own ((aL K 0 i).take j))/\az (λg=>g=w5.heap.size) w7 wr) (λz _=>(PL - (intOf z).toNat))
   case atStart=>exact⟨0,JW _,rfl,by rw[cb.out];exact aF.out,NU _ _⟩
   case round=>
    obtain⟨j,U,rfl,F,D⟩:=hrel;have aE:=JE F;have aw:=JE D;have cc:Hid (Cs w7 wr):=D.cs λg e=>by subst e;exact c6.out
    clear F D b0 b1 b2 b3;by_cases aQ:j<PL
    ·obtain⟨bn,on,rfl,_,hc⟩:=((B.out.kp K7.out).nodes.cs cc.out).at j aQ
     have c0:=hc j aQ;have HX:=JE (bb.out j aQ);have b9:=JE (bd.out j aQ);generalize (aL K 0 i).getD j 0=X at *;have hX:=HX.out;have br:Go.keyOf prog 3 (.int .i64 (X:Int))=some (.int .i64 (X:Int)):=keyOf_int_mk underlying3 (Mf (by omega));have i1:(j:Int)<(PL:Int):=by omega
     clear hc bd bb;go_wp2_with(at_delete;go_loud (refine Er (e:=90) rfl (.tmp 69) (.tmp 70) 103 rfl fT underlying103 rfl aE.out (X:Int) rfl br ?_;intro A cB g9))
     have cm:az (λg=>g=w5.heap.size) wr A:=⟨g9.os,g9.tape,g9.output,g9.size,λq hq hn=>g9.block q hq λe=>hn (by cases e;rfl)⟩;go_roundw
     case rel=>exact⟨j+1,by omega,by go_num,cB.congr (λz=>b9.out z),aw.out.next cm⟩
     case measure=>simp[intOf];omega
    ·obtain rfl:j=PL:=by omega
     have h1:¬(j:Int)<(j:Int):=by omega
     have aR:=aE.out;rw[ca.out] at aR;have c7:=JE aR;have cQ:Hid (Kp w5 wr):=Kp.stepOld (bF.out.trans bE.out) aw.out (λg e=>by rw[e];exact JO _);have a6:=JE (K5.out.trans cQ.out);have cP:=JE (G.out.trans a6.out);have a0:=JE (bW.out wr _ _ _ _ S0 cP.out.cs (B.out.kp a6.out) aR (c2.out.cs cc.out) bw HF.out);obtain⟨⟨c0,c1⟩,b0,b1,b2,b3⟩:=R.out wr a6.out;clear aR bW bd bb;go_wp2_with fail;refine a0.out.mono ?_;rintro _ A ⟨⟨rr,E,rfl,hl⟩,s9⟩;have cR:Hid (Kp w5 A):=Kp.stepOld (bF.out.trans bE.out) (aw.out.next s9) (λg e=>by rw[e];exact JO _);have O:=JE (K5.out.trans cR.out);clear c0 c1 b0 b1 b2 b3 a0 s9;rcases hl with⟨hh,rfl,hrd,hkm9⟩|⟨hh,rfl,hrd⟩
     ·have M:TE=0:=by rw[aG.out,if_pos hh]
      have HQ:=JE (JN M (Q.out.2.trans (if_pos M)));obtain⟨al,nl,cl,rfl⟩:=aA hrd;have c3:=JE hrd;have da:=JE hkm9;clear M hh hrd hkm9;have aq:=JE (G.out.trans O.out);have aX:=JE (B.out.kp O.out);have bX:=JE (λW (d:Kp A W)=>bY.out W _ _ (aq.out.trans d).cs (aX.out.kp d) (cV.out.kp (aq.out.trans d)) HF.out);have bL:=JE (λW (d:Kp A W)=>bN.out W w5.heap.size S0 (da.out.kp d));have bH:Hid (w.heap.size+1<A.heap.size):=(JK.1 (P.out A (H.out.trans O.out))).1;have be:Hid (∀ W,Kp A W->RZ (λk=>k=w.heap.size+1) W (.slice ax nx cx) p.pub/\SZ dc (λk=>k=w.heap.size+1) W (.slice ay ny cy) p.step):=λW d=>
       ⟨⟨ba.out.pub.kp (aq.out.trans d),lW (w:=w) ba.out.pub.inside λg e=>by omega⟩,((aJ.old ba.out.step).mono λg e=>by show w.heap.size<=g;omega).kp (aq.out.trans d)⟩
      have cd:=JE (λW (d:Kp A W)=>ce.out W (w.heap.size+1) (JV bH.out d.size) (be.out W d).1 (be.out W d).2 HF.out);have u:=JE (λW (d:Kp A W)=>P.out W (H.out.trans (O.out.trans d)));have V:=JE (λW (d:Kp A W)=>R.out W (O.out.trans d));have db:Hid (w.heap.size<w2.heap.size/\w.heap.size+1<w2.heap.size):=by
       have h5:=(JK.1 (P.out w2 K2.out)).1;exact⟨by omega,h5⟩
      have cW:Hid (∀ W Z,Kp A W->az (λg=>g=w.heap.size+1) W Z->(Z.cell? ⟨w.heap.size,0,none⟩=some (.slice ax nx cx)/\Z.cell? ⟨w.heap.size,1,none⟩=some (.slice ay ny cy))/\(Z.cell? ⟨w2.heap.size,0,none⟩=some (.slice a N c)/\Z.cell? ⟨w2.heap.size,1,none⟩=some (.int .i64 (i:Int))/\Z.cell? ⟨w2.heap.size,2,none⟩=some (.slice an j cn)/\Z.cell? ⟨w2.heap.size,3,none⟩=some (.slice ap ab ak))):=λW Z d I=>by
       obtain⟨⟨b0,cO⟩,cN,b3,b4,b5⟩:=V.out W d;have hg:=db.out;exact⟨⟨I.cell b0 (λe=>by have h5:w.heap.size=w.heap.size+1:=e;omega),I.cell cO (λe=>by have h5:w.heap.size=w.heap.size+1:=e;omega)⟩,I.cell cN (λe=>by have h5:w2.heap.size=w.heap.size+1:=e;omega),I.cell b3 (λe=>by have h5:w2.heap.size=w.heap.size+1:=e;omega),I.cell b4 (λe=>by have h5:w2.heap.size=w.heap.size+1:=e;omega),I.cell b5 (λe=>by have h5:w2.heap.size=w.heap.size+1:=e;omega)⟩
      have KD:Hid (Kp A A.drew):=(NQ A).drew;have bM:=JE (V.out _ KD.out);have b6:Hid (∀ W Z (rt ro x' y':Value) (lo:List Sd) (lt:List Nod),Kp A W->NL W rt lt->GZ bQ 90 (λg=>g<A.heap.size) W A.heap.size ro lo->RZ (λk=>k=w.heap.size+1) W x' p.pub->SZ dc (λk=>k=w.heap.size+1) W y' p.step->az (λg=>g=w.heap.size+1) W Z->MIn Z rt ro x' y' (.slice al nl cl) ⟨lt,lo,p,aU S0 ((ixS t i K).length - kM t i me)⟩):=λW Z rt ro x' y' lo lt d hn hg hx hy D=>by
       have cA:=qy (u.out W d);have ct:∀ g,g=w.heap.size+1->cG W g:=λg e=>by
        subst e;exact cG.box (u.out W d) λj z U=>by
         match j with
         | 0=>cases U;exact λn e=>by cases e
         | 1=>cases U;exact λn e=>by cases e
         | 2=>cases U;exact λn e=>by cases e
         | 3=>cases U;exact λn e=>by cases e
         | 4=>cases U;exact λn e=>by cases e
         | j+5=>simp at U
       have dh:=bH.out;exact⟨NL.sly hn cA D,(hg.step (Y:=λg=>g=w.heap.size+1) D (λg e=>.inl (by show g<A.heap.size;omega)) (λg cD e=>by have:=(hg.lt g cD).1;omega)).gl,⟨(hx.step D).1,((hy.step D).1).mono λ_ h=>h.elim⟩,(c3.out.kp d).step8 D ct⟩
      obtain⟨⟨t0,bV⟩,t2,t3,t4,t5⟩:=V.out A (NQ _);clear bY bN ce P R bJ B aX Q aG aE c7 a1 aF be ca cb;go_wp2_with fail;go_region_held3 (λW=>(W.cell? ⟨w.heap.size,0,none⟩=some (.slice ax nx cx)/\W.cell? ⟨w.heap.size,1,none⟩=some (.slice ay ny cy))/\(W.cell? ⟨w2.heap.size,0,none⟩=some (.slice a N c)/\W.cell? ⟨w2.heap.size,1,none⟩=some (.int .i64 (i:Int))/\W.cell? ⟨w2.heap.size,2,none⟩=some (.slice an j cn)/\W.cell? ⟨w2.heap.size,3,none⟩=some (.slice ap ab ak)))
       (first|with_reducible exact bM.out|with_reducible exact S2.out|with_reducible exact S3.out|with_reducible exact S4.out|with_reducible exact S5.out|fail)
       (first
        | (go_at_call 72;refine(cd.out _ KV.out).mono ?_;rintro _ wc ⟨⟨vx,vy,rfl,bk,bj⟩,kc⟩;obtain⟨a8,n8,c8,rfl⟩:=aA bk.1;obtain⟨a9,n9,c9,rfl⟩:=Oc bj.1;have KC:Hid (Kp A wc):=KV.out.trans kc;have S4:=JE (V.out _ KC.out);have bK:=JE (JN bk bj);have bc:=JE (tc (u.out wc KC.out) (.slice bC bf bB) (.slice ao no co) (.slice a8 n8 c8) (.slice a9 n9 c9) (.slice al nl cl));have S5:=JE (cW.out wc _ KC.out bc.out.2.1);have cU:=JE (cS.out.kp kc);have c5:=JE (c4.out.kp kc);have C:=(u.out wc KC.out).there;have j0:=(u.out wc KC.out).cell 0;have j1:=(u.out wc KC.out).cell 1;have j2:=(u.out wc KC.out).cell 2;have j3:=(u.out wc KC.out).cell 3;have j4:=(u.out wc KC.out).cell 4;have f0:=(C 0 (by decide)).2;have f1:=(C 1 (by decide)).2;have f2:=(C 2 (by decide)).2;have f3:=(C 3 (by decide)).2;have f4:=(C 4 (by decide)).2;clear C;rw[Lf] at f0 f1 f2 f3 f4;simp only[JT,JS,JU] at j0 j1 j2 j3 j4)
        | (go_at_call 61;refine(bL.out _ KT.out).mono ?_;rintro _ wv ⟨⟨vo,lo,rfl,cj,cw,bt⟩,kv⟩;obtain rfl:=a7.out S0 lo cj cw;obtain⟨ao,no,co,rfl⟩:=Oc bt.gl;have KV:Hid (Kp A wv):=KT.out.trans kv;have S3:=JE (V.out _ KV.out);have cS:=JE (cT.out.kp kv);have c4:=JE ((bt.solidly λg hg=>.inr (.inl (show g<wT.heap.size from JV hg KT.out.size))).mono KT.out.size))
        | (go_at_call 60;refine(bX.out _ KD.out).mono ?_;rintro _ wT ⟨⟨rt,rfl,ht⟩,kT⟩;obtain⟨bC,bf,bB,rfl⟩:=ht.sl;have cT:=JE ht;have KT:Hid (Kp A wT):=KD.out.trans kT;have S2:=JE (V.out _ KT.out)))
      all_goals (
       obtain⟨wz,bh⟩:∃ x,((((wc.setCell ⟨w.heap.size+1,0,none⟩ (.slice bC bf bB)).setCell ⟨w.heap.size+1,1,none⟩ (.slice ao no co)).setCell ⟨w.heap.size+1,2,none⟩ (.slice a8 n8 c8)).setCell ⟨w.heap.size+1,3,none⟩ (.slice a9 n9 c9)).setCell ⟨w.heap.size+1,4,none⟩ (.slice al nl cl)=x:=⟨_,rfl⟩;have ae:=bc.out;rw[bh] at ae ⊢;have cZ:=JE ae;have b7:=JE (b6.out wc wz _ _ _ _ _ _ KC.out cU.out c5.out bK.out.1 bK.out.2 ae.2.1);have bD:Hid (Kp w wz):=ae.2.2 w (aq.out.trans KC.out) (Mh _);clear ae bh bM S2 S3 S4 S5 bc j0 j1 j2 j3 j4 f0 f1 f2 f3 f4 t0 bV t2 t3 t4 t5;go_wp2_with fail;refine bodyPost_ret (eZ rfl _ _ (w.heap.size+1) _ _ (0,0) _ _ rfl cZ.out.1 underlying47 rfl cY rfl) rfl ?_;rw[HQ.out.1,HQ.out.2];exact⟨⟨_,rfl,_,_,_,_,_,rfl,b7.out⟩,bD.out⟩)
     ·obtain⟨al,nl,cl,rfl⟩:=aA hrd
      have M:TE=5:=by rw[aG.out,if_neg hh]
      have HQ:Hid (TE=5/\TV=fv):=⟨M,by rw[Q.out.2,if_neg (by rw[M];decide)]⟩;have aK:=JE (P.out A (H.out.trans O.out));have aB:=JE (G.out.trans O.out);clear M hrd hh;go_wp2_with(refine eR rfl rfl 47 (.tmp 12) (.tmp 83) rfl (w.heap.size+1) 47 _ #[.slice none 0 0,.slice none 0 0,.slice none 0 0,.slice none 0 0,.slice none 0 0] rfl rfl aK.out rfl gA cY ?_;intro wq ah gq ag)
      have af:=ag w aB.out (Mh _);refine bodyPost_ret (eZ rfl _ _ (w.heap.size+1) _ _ (0,0) _ _ rfl ah underlying47 rfl cY rfl) rfl ?_;rw[HQ.out.1,HQ.out.2];exact⟨⟨_,rfl,_,_,_,_,_,rfl,Oj _⟩,af⟩
  ·have M:TE=E0:=by rw[aI.out,if_pos aj]
   have HQ:Hid (TE=E0/\TV=fv):=⟨M,by rw[Q.out.2,if_neg (by rw[M];exact aj)]⟩;have aK:=JE (P.out w7 (H.out.trans K7.out));have aB:=JE (G.out.trans K7.out);have dl:(E0==0)=false:=JL.2 aj;have dk:(E0 != 0)=true:=Lt.2 aj;clear M;go_wp2_with(refine eR rfl rfl 47 (.tmp 12) (.tmp 60) rfl (w.heap.size+1) 47 _ #[.slice none 0 0,.slice none 0 0,.slice none 0 0,.slice none 0 0,.slice none 0 0] rfl rfl aK.out rfl gA cY ?_;intro wq ah gq ag)
   have af:=ag w aB.out (Mh _);refine bodyPost_ret (eZ rfl _ _ (w.heap.size+1) _ _ (0,0) _ _ rfl ah underlying47 rfl cY rfl) rfl ?_;rw[HQ.out.1,HQ.out.2];exact⟨⟨_,rfl,_,_,_,_,_,rfl,Oj _⟩,af⟩

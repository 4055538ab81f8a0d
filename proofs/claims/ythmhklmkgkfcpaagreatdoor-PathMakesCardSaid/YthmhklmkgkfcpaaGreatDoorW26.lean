import Derived.Test.YthmhklmkgkfcpaaGreatDoorW22
set_option linter.all false
set_option maxHeartbeats 8000000
set_option maxRecDepth 100000
namespace Go.Proofs.YthmhklmkgkfcpaaGreatDoor
open Go.Proofs.Tryz Go.RowKit
variable {k:Nat}
theorem yW {l:List St}(h:k<l.length):aC l k=l[k]:=by
 unfold aC;rw[IU,IV h];rfl
theorem yX {l:List Se}(h:k<l.length):aM l k=l[k]:=by
 unfold aM;rw[IU,IV h];rfl
theorem yY {a b:List St}(d:a.length=b.length)(h:∀ k,k<a.length->aC a k=aC b k):a=b:=LT d λk c f=>by
 have e:=h k c;rwa [yW c,yW f] at e
theorem yZ {a b:List Se}(d:a.length=b.length)(h:∀ k,k<a.length->aM a k=aM b k):a=b:=LT d λk c f=>by
 have e:=h k c;rwa [yX c,yX f] at e
theorem Hu (x y x' y':Value)(p q:Pa)(w:World)(hp:PIn w x y p)(hq:PIn w x' y' q):Calls prog 19 #[.agg #[x,y],.agg #[x',y']] w λe w'=>aR e (p=q)/\Kp w w':=by
 have u:=Lib.hid (λW (l:Kp w W)=>jc x x' _ _ W (hp.pub.kp l) (hq.pub.kp l));have HS:=Lib.hid hp.step;have HT:=Lib.hid hq.step;obtain⟨ap,np,cp,rfl⟩:=az hp.pub;obtain⟨aJ,an,aD,rfl⟩:=az hq.pub;obtain⟨a6,c6,rfl,q3,q4⟩:=SE.shape hp.step;obtain⟨ab,aa,rfl,be,bj⟩:=SE.shape hq.step;unfold maxLen at q4;have aZ:Hid (p.pub≠q.pub->¬p=q):=λh e=>h (by rw[e])
 have z:Hid (p.step.length≠q.step.length->¬p=q):=λh e=>h (by rw[e])
 have U:Hid (∀ k,aC p.step k≠aC q.step k->¬p=q):=λk h e=>h (by rw[e])
 have HY:Hid (p.pub=q.pub->p.step.length=q.step.length->(∀ k,k<p.step.length->aC p.step k=aC q.step k)->p=q):=λh1 h2 I=>Pa.ext' h1 (yY h2 I)
 generalize (p=q)=P at *;generalize p.pub=PU at *;generalize q.pub=QU at *;generalize p.step=A at *;generalize q.step=B at *;obtain⟨N,hN⟩:∃ N,A.length=N:=⟨_,rfl⟩;obtain⟨M,hM⟩:∃ N,B.length=N:=⟨_,rfl⟩;have HN:=Lib.hid hN;have HM:=Lib.hid hM;rw[hN] at q3 z HY HS ⊢;rw[hM] at be z HY HT ⊢;clear hp hq hN hM;by_cases m:PU=QU
 ·rw[Jy m] at u
  have aS:=Lib.hid (HY.out m);clear aZ HY m;by_cases a3:N=M
  ·subst a3
   have aQ:=Lib.hid (aS.out rfl);clear aS z;go_enter func19,ntmps19;go_wp2_with fail;obtain⟨X,H⟩:∃ X,(w.alloc (.cells #[.slice ap np cp,.slice a6 N c6] 27)).alloc (.cells #[.slice aJ an aD,.slice ab N aa] 27)=X:=⟨_,rfl⟩;have hb:Bx X w.heap.size 27 #[.slice ap np cp,.slice a6 N c6]:=by rw[<-H];exact(Bx.new w _ _).kp ((Kp.refl _).alloc _)
   have f:Bx X (w.heap.size+1) 27 #[.slice aJ an aD,.slice ab N aa]:=by
    rw[<-H];have:=Bx.new (w.alloc (.cells #[.slice ap np cp,.slice a6 N c6] 27)) 27 #[.slice aJ an aD,.slice ab N aa];rwa [Jn] at this
   have a2:Kp w X:=by rw[<-H];exact((Kp.refl _).alloc _).alloc _
   have HB:=Lib.hid (Jb hb (Jb f a2));have HC:Hid (∀ W,Kp X W->W.cell? ⟨w.heap.size,1,none⟩=some (.slice a6 N c6)/\W.cell? ⟨w.heap.size+1,1,none⟩=some (.slice ab N aa)):=λW l=>⟨(HB.out.1.kp l).cell 1,(HB.out.2.1.kp l).cell 1⟩
   obtain⟨d1,d3⟩:=HC.out _ (Kp.refl _);rw[H];clear hb f a2 H;have bi:=Lib.hid (aL.kp HS.out HB.out.2.2);have bh:=Lib.hid (aL.kp HT.out HB.out.2.2);refine(u.out X HB.out.2.2).mono ?_;rintro _ _ ⟨rfl,rfl⟩;clear u HS HT;go_wp2_with fail;clear d1 d3;go_loopw[5] (λi wr=>∃ k:Nat,k<=N/\i=.int .i64 (k:Int)/\(∀ t,t<k->aC A t=aC B t)/\Kp X wr) (λi _=>(N - (intOf i).toNat))
   case atStart=>exact⟨0,Jl _,rfl,λt h=>by omega,Kp.refl _⟩
   case round=>
    obtain⟨k,hk,rfl,c,aw⟩:=hrel;have aY:=Lib.hid c;obtain⟨d,bf⟩:∃ x:World,x=wr:=⟨_,rfl⟩;subst bf;have KK:=Lib.hid aw;obtain⟨d1,d3⟩:=HC.out _ aw;clear c aw;by_cases a1:k<N
    ·obtain⟨g1,o1,x1,p1,f1,e1,_,n1⟩:=eo.nodeK (i:=k) bi.out (by rw[HN.out];exact a1)
     obtain⟨g2,o2,x2,p2,f2,e2,_,n2⟩:=eo.nodeK (i:=k) bh.out (by rw[HM.out];exact a1);rw[HN.out] at e1;rw[HM.out] at e2;simp only[Ji] at e1 e2;obtain⟨rfl,_,rfl⟩:=e1;obtain⟨rfl,_,rfl⟩:=e2;have i1:IntKind.i64.wrap ((k:Int)+1)=(k:Int)+1:=IW _ (by omega);have i2:(k:Int)<(N:Int):=by omega
     obtain⟨c1,c2,aj,al⟩:=n1 d KK.out;obtain⟨c3,c4,ai,ak⟩:=n2 d KK.out;have aW:=Lib.hid (λW (l:Kp d W)=>jc p1 p2 _ _ W (aj.kp l) (ai.kp l));have bd:=Lib.hid al;have bc:=Lib.hid ak;have ah:=Lib.hid n2;obtain⟨L,D,J,rfl⟩:=az aj;obtain⟨aI,am,aB,rfl⟩:=az ai;obtain⟨a7,c7,rfl,t1,t2⟩:=SE.shape al;obtain⟨a8,c8,rfl,t3,t4⟩:=SE.shape ak;unfold maxLen at t2;have R:=Lib.hid (U.out k);have ae:Hid (aC A k=aC B k->∀ t,t<k+1->aC A t=aC B t):=λhe t ht=>by
      rcases JC (JN.1 ht) with I|I
      ·exact aY.out t I
      ·rw[I];exact he
     have aV:Hid ((aC A k).pub≠(aC B k).pub->aC A k≠aC B k):=λh e=>h (by rw[e])
     have s:Hid ((aC A k).fors.length≠(aC B k).fors.length->aC A k≠aC B k):=λh e=>h (by rw[e])
     have aU:Hid (∀ j,aM (aC A k).fors j≠aM (aC B k).fors j->aC A k≠aC B k):=λj h e=>h (by rw[e])
     have O:Hid ((aC A k).pub=(aC B k).pub->(aC A k).fors.length=(aC B k).fors.length->(∀ j,j<(aC A k).fors.length->aM (aC A k).fors j=aM (aC B k).fors j)->aC A k=aC B k):=λh1 h2 I=>St.ext' h1 (yZ h2 I)
     clear n1 n2 aj ai al ak U aY aQ;generalize aC A k=SA at *;generalize aC B k=SB at *;generalize SA.pub=P1 at *;generalize SB.pub=P2 at *;generalize SA.fors=FA at *;generalize SB.fors=FB at *;obtain⟨F,hF⟩:∃ n,FA.length=n:=⟨_,rfl⟩;obtain⟨G,hG⟩:∃ n,FB.length=n:=⟨_,rfl⟩;have bb:=Lib.hid hF;have ba:=Lib.hid hG;rw[hF] at t1 c2 s O bd;rw[hG] at t3 c4 s O bc;obtain⟨O1,bg⟩:∃ o,Obj.cells #[.slice L D J,.slice a7 F c7] 74=o:=⟨_,rfl⟩;have K1:Hid (Kp X (d.alloc (Obj.cells #[.slice L D J,.slice a7 F c7] 74))):=KK.out.alloc _;obtain⟨_,d4⟩:=HC.out _ K1.out;obtain⟨c5,a4,_,_⟩:=ah.out _ K1.out;rw[hG] at a4;clear hF hG bg;go_wp2_with fail;obtain⟨w2,E⟩:∃ w2,(d.alloc (.cells #[.slice L D J,.slice a7 F c7] 74)).alloc (.cells #[.slice aI am aB,.slice a8 G c8] 74)=w2:=⟨_,rfl⟩;have hb:Bx w2 d.heap.size 74 #[.slice L D J,.slice a7 F c7]:=by rw[<-E];exact(Bx.new d _ _).kp ((Kp.refl _).alloc _)
     have f:Bx w2 (d.heap.size+1) 74 #[.slice aI am aB,.slice a8 G c8]:=by
      rw[<-E];have:=Bx.new (d.alloc (.cells #[.slice L D J,.slice a7 F c7] 74)) 74 #[.slice aI am aB,.slice a8 G c8];rwa [Jn] at this
     have ax:Kp d w2:=by rw[<-E];exact((Kp.refl _).alloc _).alloc _
     have C:=Lib.hid (Jb hb (Jb f ax));have b0:=hb.cell 0;have b1:=hb.cell 1;have b2:=f.cell 0;have b3:=f.cell 1;simp only[Jj,Jg,Jk] at b0 b1 b2 b3;rw[E];have KZ:=Lib.hid (HB.out.2.2.trans (KK.out.trans ax));clear hb f ax E d1 d3 d4 c1 c2 c3 c4 c5 a4 ah;refine(aW.out w2 C.out.2.2).mono ?_;rintro _ _ ⟨rfl,rfl⟩;by_cases hP:P1=P2
     ·rw[Jy hP]
      have aT:=Lib.hid (O.out hP);clear aV O aW hP;by_cases aA:F=G
      ·subst aA
       have a9:=Lib.hid (aT.out rfl);clear aT s;go_wp2_with fail;go_loopw[8] (λi wr=>∃ j:Nat,j<=F/\i=.int .i64 (j:Int)/\(∀ t,t<j->aM FA t=aM FB t)/\Kp w2 wr) (λi _=>(F - (intOf i).toNat))
       case atStart=>exact⟨0,Jl _,rfl,λt h=>by omega,Kp.refl _⟩
       case round=>
        obtain⟨j,hj,rfl,c,a5⟩:=hrel;have aX:=Lib.hid c;have KJ:=Lib.hid a5;clear c a5 b0 b1 b2 b3;have e0:=(C.out.1.kp KJ.out).cell 1;have e1:=(C.out.2.1.kp KJ.out).cell 1;simp only[Jj,Jg,Jk] at e0 e1;by_cases ag:j<F
        ·obtain⟨ga,Z,ca,h1,v1,y1,_,m1⟩:=EL.nodeK (i:=j) bd.out (by rw[bb.out];exact ag)
         obtain⟨gb,Y,cb,h2,v2,y2,_,m2⟩:=EL.nodeK (i:=j) bc.out (by rw[ba.out];exact ag);rw[bb.out] at y1;rw[ba.out] at y2;simp only[Ji] at y1 y2;obtain⟨rfl,_,rfl⟩:=y1;obtain⟨rfl,_,rfl⟩:=y2;have i4:IntKind.i64.wrap ((j:Int)+1)=(j:Int)+1:=IW _ (by omega);have i5:(j:Int)<(F:Int):=by omega
         obtain⟨f0,f1,r1,r2⟩:=m1 wr (C.out.2.2.trans KJ.out);obtain⟨f2,f3,r3,r4⟩:=m2 wr (C.out.2.2.trans KJ.out);have Q:=Lib.hid (λW (l:Kp wr W)=>jc h1 h2 _ _ W (r1.kp l) (r3.kp l));have ad:=Lib.hid (λW (l:Kp wr W)=>jc v1 v2 _ _ W (r2.kp l) (r4.kp l));obtain⟨aN,aq,aF,rfl⟩:=az r1;obtain⟨aP,au,aH,rfl⟩:=az r2;obtain⟨aK,ao,aE,rfl⟩:=az r3;obtain⟨aO,ar,aG,rfl⟩:=az r4;have T:Hid ((aM FA j).half≠(aM FB j).half\/(aM FA j).b≠(aM FB j).b->¬P):=λh=>R.out (aU.out j λe=>by rw[e] at h;rcases h with h|h <;> exact h rfl)
         have af:Hid ((aM FA j).half=(aM FB j).half->(aM FA j).b=(aM FB j).b->∀ t,t<j+1->aM FA t=aM FB t):=λh1 h2 t ht=>by
          rcases JC (JN.1 ht) with I|I
          ·exact aX.out t I
          ·rw[I];exact Se.ext' h1 h2
         clear m1 m2 r1 r2 r3 r4 aX;generalize (aM FA j).half=H1 at *;generalize (aM FB j).half=H2 at *;generalize (aM FA j).b=B1 at *;generalize (aM FB j).b=B2 at *;by_cases hh:H1=H2
         ·rw[Jy hh] at Q
          by_cases r:B1=B2
          ·rw[Jy r] at ad
           have HP:=Lib.hid (af.out hh r);clear af T hh r;go_wp2_with fail;go_region_held3 (λW=>W.cell? ⟨d.heap.size,1,none⟩=some (.slice (some ⟨ga,Z,none⟩) F c7)/\W.cell? ⟨d.heap.size+1,1,none⟩=some (.slice (some ⟨gb,Y,none⟩) F c8)/\W.cell? ⟨ga,Z+j*2,none⟩=some (.slice aN aq aF)/\W.cell? ⟨ga,Z+j*2+1,none⟩=some (.slice aP au aH)/\W.cell? ⟨gb,Y+j*2,none⟩=some (.slice aK ao aE)/\W.cell? ⟨gb,Y+j*2+1,none⟩=some (.slice aO ar aG))
            (first|exact⟨e0,e1,f0,f1,f2,f3⟩)
            (first|(go_at_call 29;refine(ad.out _ (by first|exact Kp.refl _|exact(Kp.refl _).drew)).mono ?_;rintro _ w9 ⟨rfl,rfl⟩)|(go_at_call 29;refine(Q.out _ (by first|exact Kp.refl _|exact(Kp.refl _).drew)).mono ?_;rintro _ w9 ⟨rfl,rfl⟩))
           go_wp2_with fail;go_roundw
           case rel=>exact⟨j+1,by omega,by go_num,HP.out,KJ.out.drew⟩
           case measure=>simp[intOf];omega
          ·rw[Jr r] at ad
           have g:=Lib.hid (T.out (.inr r));clear af T hh r;go_wp2_with fail;go_region_held3 (λW=>W.cell? ⟨d.heap.size,1,none⟩=some (.slice (some ⟨ga,Z,none⟩) F c7)/\W.cell? ⟨d.heap.size+1,1,none⟩=some (.slice (some ⟨gb,Y,none⟩) F c8)/\W.cell? ⟨ga,Z+j*2,none⟩=some (.slice aN aq aF)/\W.cell? ⟨ga,Z+j*2+1,none⟩=some (.slice aP au aH)/\W.cell? ⟨gb,Y+j*2,none⟩=some (.slice aK ao aE)/\W.cell? ⟨gb,Y+j*2+1,none⟩=some (.slice aO ar aG))
            (first|exact⟨e0,e1,f0,f1,f2,f3⟩)
            (first|(go_at_call 29;refine(ad.out _ (by first|exact Kp.refl _|exact(Kp.refl _).drew)).mono ?_;rintro _ w9 ⟨rfl,rfl⟩)|(go_at_call 29;refine(Q.out _ (by first|exact Kp.refl _|exact(Kp.refl _).drew)).mono ?_;rintro _ w9 ⟨rfl,rfl⟩))
           go_wp2_with fail;go_ret;exact⟨aR.no g.out,(KZ.out.trans KJ.out).drew⟩
         ·rw[Jr hh] at Q
          have g:=Lib.hid (T.out (.inl hh));clear af T hh;go_wp2_with fail;refine wp_region_held_drew (S:=λW=>W.cell? ⟨d.heap.size,1,none⟩=some (.slice (some ⟨ga,Z,none⟩) F c7)/\W.cell? ⟨d.heap.size+1,1,none⟩=some (.slice (some ⟨gb,Y,none⟩) F c8)/\W.cell? ⟨ga,Z+j*2,none⟩=some (.slice aN aq aF)/\W.cell? ⟨ga,Z+j*2+1,none⟩=some (.slice aP au aH)/\W.cell? ⟨gb,Y+j*2,none⟩=some (.slice aK ao aE)/\W.cell? ⟨gb,Y+j*2+1,none⟩=some (.slice aO ar aG)) (by kernel_rfl) (⟨e0,e1,f0,f1,f2,f3⟩) (λay=>?_);refine wpAnyH_take (i:=0) (oi:=⟨some 63,_,_,_,_,_⟩) (v:=?_) rfl (by kernel_rfl) (by kernel_rfl) (by kernel_rfl) (λ_ _ _ h=>h) (Lp ⟨by kernel_rfl,?_⟩) (by assumption) ?_;rotate_left;focus ((intro w a;(try dsimp only at a);go_simp);(try with_reducible rfl);done)
          simp only[Act.put,IY,Je,Jf];refine wpAnyH_take (i:=1) (oi:=⟨some 64,_,_,_,_,_⟩) (v:=?_) rfl (by kernel_rfl) (by kernel_rfl) (by kernel_rfl) (λ_ _ _ h=>h) (Lp ⟨by kernel_rfl,?_⟩) (by assumption) ?_;rotate_left;focus ((intro w a;(try dsimp only at a);go_simp);(try with_reducible rfl);done)
          simp only[Act.put,IY,Je,Jf];refine wpAnyH_take (i:=2) (oi:=⟨some 65,_,_,_,_,_⟩) (v:=?_) rfl (by kernel_rfl) (by kernel_rfl) (by kernel_rfl) (λ_ _ _ h=>h) (Lp ⟨by kernel_rfl,?_⟩) (by assumption) ?_;rotate_left;focus ((intro w a;(try dsimp only at a);go_simp);(try with_reducible rfl);done)
          simp only[Act.put,IY,Je,Jf];refine wpAnyH_take (i:=3) (oi:=⟨some 66,_,_,_,_,_⟩) (v:=?_) rfl (by kernel_rfl) (by kernel_rfl) (by kernel_rfl) (λ_ _ _ h=>h) (Lp ⟨by kernel_rfl,?_⟩) (by assumption) ?_;rotate_left;focus ((intro w a;(try dsimp only at a);go_simp);(try with_reducible rfl);done)
          simp only[Act.put,IY,Je,Jf];refine wpAnyH_take (i:=4) (oi:=⟨some 67,_,_,_,_,_⟩) (v:=?_) rfl (by kernel_rfl) (by kernel_rfl) (by kernel_rfl) (λ_ _ _ h=>h) (Lp ⟨by kernel_rfl,?_⟩) (by assumption) ?_;rotate_left;focus ((intro w a;(try dsimp only at a);go_simp);(try with_reducible rfl);done)
          simp only[Act.put,IY,Je,Jf];refine wpAnyH_take (i:=5) (oi:=⟨some 68,_,_,_,_,_⟩) (v:=?_) rfl (by kernel_rfl) (by kernel_rfl) (by kernel_rfl) (λ_ _ _ h=>h) (Lp ⟨by kernel_rfl,?_⟩) (by assumption) ?_;rotate_left;focus ((intro w a;(try dsimp only at a);go_simp);(try with_reducible rfl);done)
          simp only[Act.put,IY,Je,Jf];refine wpAnyH_take (i:=6) (oi:=⟨some 69,_,_,_,_,_⟩) (v:=?_) rfl (by kernel_rfl) (by kernel_rfl) (by kernel_rfl) (λ_ _ _ h=>h) (Lp ⟨by kernel_rfl,?_⟩) (by assumption) ?_;rotate_left;focus ((intro w a;(try dsimp only at a);go_simp);(try with_reducible rfl);done)
          simp only[Act.put,IY,Je,Jf];refine wpAnyH_take (i:=7) (oi:=⟨some 70,_,_,_,_,_⟩) (v:=?_) rfl (by kernel_rfl) (by kernel_rfl) (by kernel_rfl) (λ_ _ _ h=>h) (Lp ⟨by kernel_rfl,?_⟩) (by assumption) ?_;rotate_left;focus ((intro w a;(try dsimp only at a);go_simp);(try with_reducible rfl);done)
          simp only[Act.put,IY,Je,Jf];refine wpAnyH_take (i:=8) (oi:=⟨some 71,_,_,_,_,_⟩) (v:=?_) rfl (by kernel_rfl) (by kernel_rfl) (by kernel_rfl) (λ_ _ _ h=>h) (Lp ⟨by kernel_rfl,?_⟩) (by assumption) ?_;rotate_left;focus ((intro w a;(try dsimp only at a);go_simp);(try with_reducible rfl);done)
          simp only[Act.put,IY,Je,Jf];refine wpAnyH_take (i:=9) (oi:=⟨some 72,_,_,_,_,_⟩) (v:=?_) rfl (by kernel_rfl) (by kernel_rfl) (by kernel_rfl) (λ_ _ _ h=>h) (Lp ⟨by kernel_rfl,?_⟩) (by assumption) ?_;rotate_left;focus ((intro w a;(try dsimp only at a);go_simp);(try with_reducible rfl);done)
          simp only[Act.put,IY,Je,Jf];refine wpAnyH_take (i:=10) (oi:=⟨some 73,_,_,_,_,_⟩) (v:=?_) rfl (by kernel_rfl) (by kernel_rfl) (by kernel_rfl) (λ_ _ _ h=>h) (Lp ⟨by kernel_rfl,?_⟩) (by assumption) ?_;rotate_left;focus ((intro w a;(try dsimp only at a);go_simp);(try with_reducible rfl);done)
          simp only[Act.put,IY,Je,Jf];refine wpAnyH_take (i:=11) (oi:=⟨some 74,_,_,_,_,_⟩) (v:=?_) rfl (by kernel_rfl) (by kernel_rfl) (by kernel_rfl) (λ_ _ _ h=>h) (Lp ⟨by kernel_rfl,?_⟩) (by assumption) ?_;rotate_left;focus ((intro w a;(try dsimp only at a);go_simp);(try with_reducible rfl);done)
          simp only[Act.put,IY,Je,Jf];refine wpAnyH_ready (rs:=[12]) (by kernel_rfl) (by simp) ?_;refine AllReadyH.cons (o:=⟨some 75,_,_,_,_,_⟩) rfl (λK hK=>?_) AllReadyH.nil;go_simp;go_at_call 29;refine(Q.out _ (by first|exact Kp.refl _|exact(Kp.refl _).drew)).mono ?_;rintro _ w9 ⟨rfl,rfl⟩
          refine hK.out _ _ (⟨e0,e1,f0,f1,f2,f3⟩) (λay=>?_);clear hK K;try simp only[Act.put,IY,Je,Jf]
          refine wpAnyH_take (i:=13) (oi:=⟨some 76,_,_,_,_,_⟩) (v:=?_) rfl (by kernel_rfl) (by kernel_rfl) (by kernel_rfl) (λ_ _ _ h=>h) (Lp ⟨by kernel_rfl,?_⟩) (by assumption) ?_;rotate_left;focus ((intro w a;(try dsimp only at a);go_simp);(try with_reducible rfl);done)
          simp only[Act.put,IY,Je,Jf];refine wpAnyH_take (i:=14) (oi:=⟨some 77,_,_,_,_,_⟩) (v:=?_) rfl (by kernel_rfl) (by kernel_rfl) (by kernel_rfl) (λ_ _ _ h=>h) (Lp ⟨by kernel_rfl,?_⟩) (by assumption) ?_;rotate_left;focus ((intro w a;(try dsimp only at a);go_simp);(try with_reducible rfl);done)
          simp only[Act.put,IY,Je,Jf];refine wpAnyH_take (i:=15) (oi:=⟨some 78,_,_,_,_,_⟩) (v:=undef) rfl (by kernel_rfl) (by kernel_rfl) (by kernel_rfl) (λ_ _ _ h=>h) (Lc ⟨by kernel_rfl,rfl⟩) (by assumption) ?_;simp only[Act.put,IY,Je,Jf];refine wpAnyH_take (i:=16) (oi:=⟨some 79,_,_,_,_,_⟩) (v:=undef) rfl (by kernel_rfl) (by kernel_rfl) (by kernel_rfl) (λ_ _ _ h=>h) (Lc ⟨by kernel_rfl,rfl⟩) (by assumption) ?_;simp only[Act.put,IY,Je,Jf];refine wpAnyH_take (i:=17) (oi:=⟨some 80,_,_,_,_,_⟩) (v:=undef) rfl (by kernel_rfl) (by kernel_rfl) (by kernel_rfl) (λ_ _ _ h=>h) (Lc ⟨by kernel_rfl,rfl⟩) (by assumption) ?_;simp only[Act.put,IY,Je,Jf];refine wpAnyH_take (i:=18) (oi:=⟨some 81,_,_,_,_,_⟩) (v:=undef) rfl (by kernel_rfl) (by kernel_rfl) (by kernel_rfl) (λ_ _ _ h=>h) (Lc ⟨by kernel_rfl,rfl⟩) (by assumption) ?_;simp only[Act.put,IY,Je,Jf];refine wpAnyH_take (i:=19) (oi:=⟨some 82,_,_,_,_,_⟩) (v:=undef) rfl (by kernel_rfl) (by kernel_rfl) (by kernel_rfl) (λ_ _ _ h=>h) (Lc ⟨by kernel_rfl,rfl⟩) (by assumption) ?_;simp only[Act.put,IY,Je,Jf];refine wpAnyH_take (i:=20) (oi:=⟨some 83,_,_,_,_,_⟩) (v:=undef) rfl (by kernel_rfl) (by kernel_rfl) (by kernel_rfl) (λ_ _ _ h=>h) (Lc ⟨by kernel_rfl,rfl⟩) (by assumption) ?_;simp only[Act.put,IY,Je,Jf];refine wpAnyH_take (i:=21) (oi:=⟨some 84,_,_,_,_,_⟩) (v:=undef) rfl (by kernel_rfl) (by kernel_rfl) (by kernel_rfl) (λ_ _ _ h=>h) (Lc ⟨by kernel_rfl,rfl⟩) (by assumption) ?_;simp only[Act.put,IY,Je,Jf];refine wpAnyH_take (i:=22) (oi:=⟨some 85,_,_,_,_,_⟩) (v:=undef) rfl (by kernel_rfl) (by kernel_rfl) (by kernel_rfl) (λ_ _ _ h=>h) (Lc ⟨by kernel_rfl,rfl⟩) (by assumption) ?_;simp only[Act.put,IY,Je,Jf];refine wpAnyH_take (i:=23) (oi:=⟨some 86,_,_,_,_,_⟩) (v:=undef) rfl (by kernel_rfl) (by kernel_rfl) (by kernel_rfl) (λ_ _ _ h=>h) (Lc ⟨by kernel_rfl,rfl⟩) (by assumption) ?_;simp only[Act.put,IY,Je,Jf];refine wpAnyH_take (i:=24) (oi:=⟨some 87,_,_,_,_,_⟩) (v:=undef) rfl (by kernel_rfl) (by kernel_rfl) (by kernel_rfl) (λ_ _ _ h=>h) (Lc ⟨by kernel_rfl,rfl⟩) (by assumption) ?_;simp only[Act.put,IY,Je,Jf];refine wpAnyH_take (i:=25) (oi:=⟨some 88,_,_,_,_,_⟩) (v:=undef) rfl (by kernel_rfl) (by kernel_rfl) (by kernel_rfl) (λ_ _ _ h=>h) (Lc ⟨by kernel_rfl,rfl⟩) (by assumption) ?_;simp only[Act.put,IY,Je,Jf];refine wpAnyH_take (i:=26) (oi:=⟨some 89,_,_,_,_,_⟩) (v:=undef) rfl (by kernel_rfl) (by kernel_rfl) (by kernel_rfl) (λ_ _ _ h=>h) (Lc ⟨by kernel_rfl,rfl⟩) (by assumption) ?_;simp only[Act.put,IY,Je,Jf];refine wpAnyH_take (i:=27) (oi:=⟨some 90,_,_,_,_,_⟩) (v:=undef) rfl (by kernel_rfl) (by kernel_rfl) (by kernel_rfl) (λ_ _ _ h=>h) (Lc ⟨by kernel_rfl,rfl⟩) (by assumption) ?_;simp only[Act.put,IY,Je,Jf];refine wpAnyH_take (i:=28) (oi:=⟨some 91,_,_,_,_,_⟩) (v:=undef) rfl (by kernel_rfl) (by kernel_rfl) (by kernel_rfl) (λ_ _ _ h=>h) (Lc ⟨by kernel_rfl,rfl⟩) (by assumption) ?_;simp only[Act.put,IY,Je,Jf];refine wpAnyH_take (i:=29) (oi:=⟨some 92,_,_,_,_,_⟩) (v:=?_) rfl (by kernel_rfl) (by kernel_rfl) (by kernel_rfl) (λ_ _ _ h=>h) (Lp ⟨by kernel_rfl,?_⟩) (by assumption) ?_;rotate_left;focus ((intro w a;(try dsimp only at a);go_simp);(try with_reducible rfl);done)
          simp only[Act.put,IY,Je,Jf];refine wpAnyH_done (by kernel_rfl) ?_ _;go_wp2_with fail;go_ret;exact⟨aR.no g.out,(KZ.out.trans KJ.out).drew⟩
        ·obtain rfl:j=F:=by omega
         have g:=Lib.hid (ae.out (a9.out aX.out));clear ae a9;go_wp2_with fail;go_roundw
         case rel=>exact⟨k+1,by omega,by go_num,g.out,KK.out.trans (C.out.2.2.trans KJ.out)⟩
         case measure=>simp[intOf];omega
      ·have g:=Lib.hid (R.out (s.out aA))
       have av:¬(F:Int)=(G:Int):=by omega
       have a0:((F:Int)==(G:Int))=false:=Jd.2 av;clear aT s aU R ae aA;go_wp2_with fail;go_ret;exact⟨aR.no g.out,KZ.out⟩
     ·rw[Jr hP]
      have g:=Lib.hid (R.out (aV.out hP));clear aV s aU O R ae hP aW;go_wp2_with fail;go_ret;exact⟨aR.no g.out,KZ.out⟩
    ·obtain rfl:k=N:=by omega
     have g:=Lib.hid (aQ.out aY.out);clear U aQ;go_wp2_with fail;go_ret;exact⟨aR.yes g.out,HB.out.2.2.trans KK.out⟩
  ·have g:=Lib.hid (z.out a3)
   have av:¬(N:Int)=(M:Int):=by omega
   have a0:((N:Int)==(M:Int))=false:=Jd.2 av;clear z U aS;have V:Hid (∀ o o':Obj,Kp w ((w.alloc o).alloc o')):=λ_ _=>((Kp.refl _).alloc _).alloc _
   go_enter func19,ntmps19;go_wp2_with fail;refine(u.out _ (V.out _ _)).mono ?_;rintro _ _ ⟨rfl,rfl⟩;go_wp2_with fail;go_ret;exact⟨aR.no g.out,V.out _ _⟩
 ·rw[Jr m] at u
  have g:=Lib.hid (aZ.out m);have V:Hid (∀ o o':Obj,Kp w ((w.alloc o).alloc o')):=λ_ _=>((Kp.refl _).alloc _).alloc _
  clear aZ z U HY m;go_enter func19,ntmps19;go_wp2_with fail;refine(u.out _ (V.out _ _)).mono ?_;rintro _ _ ⟨rfl,rfl⟩;go_wp2_with fail;go_ret;exact⟨aR.no g.out,V.out _ _⟩
structure MIn (w:World)(t o x y l:Value)(m:Md):Prop where
 mk ::
 tree:NL w t m.tree
 own:SL w o m.own
 path:PIn w x y m.path
 last:Rd w l m.last
theorem MIn.kp {w w':World}{t o x y l:Value}{m:Md}(h:MIn w t o x y l m)(k:Kp w w'):MIn w' t o x y l m:=⟨h.tree.kp k,aL.kp h.own k,h.path.kp k,h.last.kp k⟩
def MV (w:World)(v:Value)(m:Md):Prop:=∃ t o x y l,v=.agg #[t,o,x,y,l]/\MIn w t o x y l m
theorem MIn.none (w:World):MIn w (.slice none 0 0) (.slice none 0 0) (.slice none 0 0) (.slice none 0 0) (.slice none 0 0) ig:=⟨NL.nil w,aL.nil w,⟨cL w,aL.nil w⟩,cL w⟩
theorem Md.ext' {a b:Md}(f:a.tree=b.tree)(e:a.own=b.own)(d:a.path=b.path)(c:a.last=b.last):a=b:=by cases a;cases b;simp_all
theorem Hv (t o x y l t' o' x' y' l':Value)(m n:Md)(w:World)(f:MIn w t o x y l m)(d:MIn w t' o' x' y' l' n):
  Calls prog 22 #[.agg #[t,o,x,y,l],.agg #[t',o',x',y',l']] w λe w'=>aR e (m=n)/\Kp w w':=by
 have H1:=Lib.hid (λW (a:Kp w W)=>wP t t' _ _ W (f.tree.kp a) (d.tree.kp a));have H2:=Lib.hid (λW (a:Kp w W)=>Ht o o' _ _ W (aL.kp f.own a) (aL.kp d.own a));have H3:=Lib.hid (λW (a:Kp w W)=>Hu x y x' y' _ _ W (f.path.kp a) (d.path.kp a));have H4:=Lib.hid (λW (a:Kp w W)=>jc l l' _ _ W (f.last.kp a) (d.last.kp a));obtain⟨a1,n1,c1,rfl⟩:=f.tree.sl;obtain⟨a2,D,Z,rfl⟩:=SE.sl f.own;obtain⟨a3,C,Y,rfl⟩:=az f.path.pub;obtain⟨a4,B,X,rfl⟩:=SE.sl f.path.step;obtain⟨a5,A,V,rfl⟩:=az f.last;obtain⟨b1,m1,d1,rfl⟩:=d.tree.sl;obtain⟨b2,H,U,rfl⟩:=SE.sl d.own;obtain⟨b3,G,T,rfl⟩:=az d.path.pub;obtain⟨b4,F,S,rfl⟩:=SE.sl d.path.step;obtain⟨b5,E,R,rfl⟩:=az d.last;have HY:Hid (m.tree=n.tree->m.own=n.own->m.path=n.path->m.last=n.last->m=n):=Md.ext';have HN:Hid ((m.tree≠n.tree\/m.own≠n.own\/m.path≠n.path\/m.last≠n.last)->¬m=n):=λh e=>by subst e;rcases h with h|h|h|h <;> exact h rfl
 generalize (m=n)=P at *;generalize z:(m.tree=n.tree)=T1 at *;generalize v:(m.own=n.own)=T2 at *;generalize u:(m.path=n.path)=T3 at *;generalize m.last=L1 at *;generalize n.last=L2 at *;have i:Hid ((¬T1\/¬T2\/¬T3\/L1≠L2)->¬P):=λh=>HN.out (by rw[<-z,<-v,<-u] at h;exact h)
 clear f d HN z v u;go_enter func22,ntmps22;go_wp2_with fail;obtain⟨j,b⟩:∃ j,(w.alloc (.cells #[.slice a1 n1 c1,.slice a2 D Z,.slice a3 C Y,.slice a4 B X,.slice a5 A V] 47)).alloc (.cells #[.slice b1 m1 d1,.slice b2 H U,.slice b3 G T,.slice b4 F S,.slice b5 E R] 47)=j:=⟨_,rfl⟩;have s:Bx j w.heap.size 47 #[.slice a1 n1 c1,.slice a2 D Z,.slice a3 C Y,.slice a4 B X,.slice a5 A V]:=by rw[<-b];exact(Bx.new w _ _).kp ((Kp.refl _).alloc _)
 have c:Bx j (w.heap.size+1) 47 #[.slice b1 m1 d1,.slice b2 H U,.slice b3 G T,.slice b4 F S,.slice b5 E R]:=by
  rw[<-b];have:=Bx.new (w.alloc (.cells #[.slice a1 n1 c1,.slice a2 D Z,.slice a3 C Y,.slice a4 B X,.slice a5 A V] 47)) 47 #[.slice b1 m1 d1,.slice b2 H U,.slice b3 G T,.slice b4 F S,.slice b5 E R];rwa [Jn] at this
 have r:Kp w j:=by rw[<-b];exact((Kp.refl _).alloc _).alloc _
 have K1:=Lib.hid r;have HC:Hid (∀ W,Kp j W->(W.cell? ⟨w.heap.size,1,none⟩=some (.slice a2 D Z)/\W.cell? ⟨w.heap.size,2,none⟩=some (.slice a3 C Y)/\W.cell? ⟨w.heap.size,3,none⟩=some (.slice a4 B X)/\W.cell? ⟨w.heap.size,4,none⟩=some (.slice a5 A V)) /\
   W.cell? ⟨w.heap.size+1,1,none⟩=some (.slice b2 H U)/\W.cell? ⟨w.heap.size+1,2,none⟩=some (.slice b3 G T)/\W.cell? ⟨w.heap.size+1,3,none⟩=some (.slice b4 F S)/\W.cell? ⟨w.heap.size+1,4,none⟩=some (.slice b5 E R)):=λW a=>
  ⟨⟨(s.kp a).cell 1,(s.kp a).cell 2,(s.kp a).cell 3,(s.kp a).cell 4⟩,(c.kp a).cell 1,(c.kp a).cell 2,(c.kp a).cell 3,(c.kp a).cell 4⟩
 rw[b];clear s c r b;refine(H1.out j K1.out).mono ?_;rintro _ w2 ⟨⟨e1,rfl,q1⟩,k2⟩;have K2:=Lib.hid k2;obtain⟨⟨Q,O,N,M⟩,L,K,J,I⟩:=HC.out w2 K2.out;have Q1:=Lib.hid q1;clear k2 q1 H1;go_wp2_with fail;refine(H2.out w2 (K1.out.trans K2.out)).mono ?_;rintro _ w3 ⟨⟨e2,rfl,q2⟩,k3⟩;have K3:=Lib.hid (K2.out.trans k3);have Q2:=Lib.hid q2;clear k3 q2 H2 Q O N M L K J I K2;obtain⟨⟨Q,O,N,M⟩,L,K,J,I⟩:=HC.out w3 K3.out;go_wp2_with fail;refine(H3.out w3 (K1.out.trans K3.out)).mono ?_;rintro _ w4 ⟨⟨e3,rfl,q3⟩,k4⟩;have K4:=Lib.hid (K3.out.trans k4);have Q3:=Lib.hid q3;clear k4 q3 H3 Q O N M L K J I K3;obtain⟨⟨Q,O,N,M⟩,L,K,J,I⟩:=HC.out w4 K4.out;have q:=Lib.hid (K1.out.trans K4.out);have k:=Lib.hid (H4.out w4 q.out);clear H4 HC;cases e1
 ·have g:=Lib.hid (i.out (.inl λh=>by have:=Q1.out.2 h;cases this))
  clear k;go_wp2_with fail;go_ret;exact⟨aR.no g.out,q.out⟩
 ·cases e2
  ·have g:=Lib.hid (i.out (.inr (.inl λh=>by have:=Q2.out.2 h;cases this)))
   clear k;go_wp2_with fail;go_ret;exact⟨aR.no g.out,q.out⟩
  ·cases e3
   ·have g:=Lib.hid (i.out (.inr (.inr (.inl λh=>by have:=Q3.out.2 h;cases this))))
    clear k;go_wp2_with fail;go_ret;exact⟨aR.no g.out,q.out⟩
   ·by_cases p:L1=L2
    ·have g:=Lib.hid (HY.out (Q1.out.1 rfl) (Q2.out.1 rfl) (Q3.out.1 rfl) p)
     rw[Jy p] at k;clear p;go_wp2_with fail;refine k.out.mono ?_;rintro _ _ ⟨rfl,rfl⟩;go_wp2_with fail;go_ret;exact⟨aR.yes g.out,q.out⟩
    ·have g:=Lib.hid (i.out (.inr (.inr (.inr p))))
     rw[Jr p] at k;clear p;go_wp2_with fail;refine k.out.mono ?_;rintro _ _ ⟨rfl,rfl⟩;go_wp2_with fail;go_ret;exact⟨aR.no g.out,q.out⟩
theorem IE (x y I r:Value)(a b:Se)(w:World)(M:Rd w x a.half)(L:Rd w y a.b)(K:Rd w I b.half)(J:Rd w r b.b):
  Calls prog 97 #[.agg #[x,y],.agg #[I,r]] w λe w'=>aR e (a=b)/\Kp w w':=by
 have l:=Lib.hid (λW (n:Kp w W)=>lX x I a.half b.half W (M.kp n) (K.kp n));have O:Hid (∀ W,Kp w W->Calls prog 52 #[y,r] W λe w'=>aR e (a.b=b.b)/\Kp W w'):=λW n=>(lX y r a.b b.b W (L.kp n) (J.kp n)).mono λe w' h=>⟨⟨_,h.1,decide_eq_true_iff⟩,h.2⟩
 have i:Hid (a.half≠b.half->¬a=b):=λh e=>h (by rw[e])
 have g:Hid (¬a.b=b.b->¬a=b):=λh e=>h (by rw[e])
 have N:Hid (a.half=b.half->a.b=b.b->a=b):=Se.ext';obtain⟨G,v,C,rfl⟩:=az M;obtain⟨E,t,A,rfl⟩:=az K;obtain⟨F,u,B,rfl⟩:=az L;obtain⟨D,s,z,rfl⟩:=az J;generalize (a=b)=P at *;generalize (a.b=b.b)=P2 at *;generalize a.half=X at *;generalize b.half=V at *;clear M L K J;by_cases q:X=V
 ·rw[Jy q] at l
  have p:=Lib.hid (N.out q);clear i N q;go_enter func97,ntmps97;go_wp2_with fail;obtain⟨d,c⟩:∃ d,(w.alloc (.cells #[.slice G v C,.slice F u B] 92)).alloc (.cells #[.slice E t A,.slice D s z] 92)=d:=⟨_,rfl⟩;have k:Bx d w.heap.size 92 #[.slice G v C,.slice F u B]:=by rw[<-c];exact(Bx.new w _ _).kp ((Kp.refl _).alloc _)
  have m:Bx d (w.heap.size+1) 92 #[.slice E t A,.slice D s z]:=by
   rw[<-c];have:=Bx.new (w.alloc (.cells #[.slice G v C,.slice F u B] 92)) 92 #[.slice E t A,.slice D s z];rwa [Jn] at this
  have o:Hid (Kp w d):=by unfold Hid;rw[<-c];exact((Kp.refl _).alloc _).alloc _
  have j:=Lib.hid (Jb k m);rw[c];clear k m c;refine(l.out d o.out).mono ?_;rintro _ w2 ⟨rfl,f⟩;have H:=Lib.hid (o.out.trans f);have S:=(j.out.1.kp f).cell 1;have R:=(j.out.2.kp f).cell 1;simp only[Jj,Jg,Jk] at S R;clear f l j;go_wp2_with fail;refine(O.out w2 H.out).mono ?_;rintro _ w3 ⟨⟨T,rfl,k⟩,Q⟩;have HB:Hid (T=true↔P):=⟨λh=>p.out (k.1 h),λh=>k.2 (Kw.1 λU=>g.out U h)⟩;have Y:=Lib.hid (H.out.trans Q);clear k Q p g S R O;go_wp2_with fail;go_ret;exact⟨⟨T,rfl,HB.out⟩,Y.out⟩
 ·rw[Jr q] at l
  have Z:=Lib.hid (i.out q);clear i g N O q;go_enter func97,ntmps97;go_wp2_with fail;obtain⟨d,c⟩:∃ d,(w.alloc (.cells #[.slice G v C,.slice F u B] 92)).alloc (.cells #[.slice E t A,.slice D s z] 92)=d:=⟨_,rfl⟩;have o:Hid (Kp w d):=by unfold Hid;rw[<-c];exact((Kp.refl _).alloc _).alloc _
  rw[c];clear c;refine(l.out d o.out).mono ?_;rintro _ w2 ⟨rfl,f⟩;have H:=Lib.hid (o.out.trans f);clear f l;go_wp2_with fail;go_ret;exact⟨aR.no Z.out,H.out⟩
theorem IF (aa v:Value)(t s:List Se)(w:World)(D:EL w aa t)(C:EL w v s):
  Calls prog 96 #[aa,v,.func (.func 97) #[] #[]] w λe w'=>aR e (t=s)/\Kp w w':=by
 obtain⟨a1,c1,rfl,p1,B⟩:=SE.shape D;obtain⟨a2,c2,rfl,p2,A⟩:=SE.shape C;unfold maxLen at B A;by_cases a:t.length=s.length
 ·have l:Hid (∀ k,k<t.length->¬aM t k=aM s k->¬t=s):=λk hk m h=>m (by rw[h])
  have d:Hid ((∀ k,k<t.length->aM t k=aM s k)->t=s):=λh=>yZ a h
  have X:=Lib.hid D;have S:=Lib.hid C;rw[<-a] at S p2 ⊢;obtain⟨N,G⟩:∃ N,t.length=N:=⟨_,rfl⟩;have H:=Lib.hid G;have z:Hid (s.length=N):=a.symm.trans G;rw[G] at X S p1 p2 l d ⊢;generalize (t=s)=EQ at *;have HS:=Lib.hid (Jb B A);clear D C a G B A;go_enter func96,ntmps96;go_wp2_with fail;go_loopw[17] (λi wr=>∃ k:Nat,k<=N/\i=.int .i64 (k:Int)/\(∀ j,j<k->aM t j=aM s j)/\Kp w wr) (λi _=>(N - (intOf i).toNat))
  case atStart=>exact⟨0,Jl _,rfl,λt h=>by omega,Kp.refl _⟩
  case round=>
   obtain⟨k,hk,rfl,c,b⟩:=hrel;by_cases n:k<N
   ·obtain⟨g1,o1,d1,x1,y1,J,_,q⟩:=EL.nodeK (i:=k) X.out (by rw[H.out];exact n)
    obtain⟨g2,o2,d2,x2,y2,I,_,o⟩:=EL.nodeK (i:=k) S.out (by rw[z.out];exact n);rw[H.out] at J;rw[z.out] at I;simp only[Ji] at J I;obtain⟨rfl,_,rfl⟩:=J;obtain⟨rfl,_,rfl⟩:=I;obtain⟨y,x,O,M⟩:=q wr b;obtain⟨Z,na,ca,rfl⟩:=az O;obtain⟨Y,nb,cb,rfl⟩:=az M;obtain⟨_,_,L,K⟩:=o wr b;obtain⟨xc,nc,cc,rfl⟩:=az L;obtain⟨xd,ab,cd,rfl⟩:=az K;obtain⟨u,r,_,_⟩:=o (wr.alloc (.cells #[.slice Z na ca,.slice Y nb cb] 92)) (b.alloc _);have T:=Lib.hid (λW (F:Kp wr W)=>IE _ _ _ _ (aM t k) (aM s k) W (O.kp F) (M.kp F) (L.kp F) (K.kp F));have g:=l.out k n;have f:Hid (aM t k=aM s k->∀ j,j<k+1->aM t j=aM s j):=λhe j hj=>by
     rcases JC (JN.1 hj) with Q|Q
     ·exact c j Q
     ·rw[Q];exact he
    have i1:IntKind.i64.wrap ((k:Int)+1)=(k:Int)+1:=IW _ (by have:=HS.out;omega);have i2:(k:Int)<(N:Int):=by omega
    have R:=Lib.hid b;clear q o d l c b O M L K;generalize (aM t k=aM s k)=PE at *;go_wp2_with fail;refine(T.out _ (((Kp.refl _).alloc _).alloc _)).mono ?_;rintro _ w9 ⟨⟨bb,rfl,E⟩,P⟩;have V:=Lib.hid (R.out.trans ((((Kp.refl _).alloc _).alloc _).trans P));cases bb
    ·have p:=Lib.hid (g λh=>by cases E.2 h)
     clear f g E P T y x u r;go_wp2_with fail;go_ret;exact⟨aR.no p.out,V.out⟩
    ·have p:=Lib.hid (f.out (E.1 rfl))
     clear f g E P T y x u r;go_wp2_with fail;go_roundw
     case rel=>exact⟨k+1,by omega,by first|rfl|(rw[i1];rfl),p.out,V.out⟩
     case measure=>simp[intOf];omega
   ·obtain rfl:k=N:=by omega
    have HB:=Lib.hid (d.out c);have R:=Lib.hid b;have i2:¬(k:Int)<(k:Int):=by omega
    clear d l c b;go_wp2_with fail;go_ret;exact⟨aR.yes HB.out,R.out⟩
 ·have m:¬(t.length:Int)=(s.length:Int):=by omega
  have U:((t.length:Int) != (s.length:Int))=true:=KX.2 m;have H:Hid (¬t=s):=λh=>a (by rw[h])
  clear D C a B A;go_enter func96,ntmps96;go_wp2_with fail;go_ret;exact⟨aR.no H.out,Kp.refl _⟩
theorem IG (x y I r:Value)(a b:St)(w:World)(M:Rd w x a.pub)(L:EL w y a.fors)(K:Rd w I b.pub)(J:EL w r b.fors):
  Calls prog 54 #[.agg #[x,y],.agg #[I,r]] w λe w'=>aR e (a=b)/\Kp w w':=by
 have l:=Lib.hid (λW (n:Kp w W)=>lX x I a.pub b.pub W (M.kp n) (K.kp n));have O:Hid (∀ W,Kp w W->Calls prog 96 #[y,r,.func (.func 97) #[] #[]] W λe w'=>aR e (a.fors=b.fors)/\Kp W w'):=λW n=>IF y r a.fors b.fors W (aL.kp L n) (aL.kp J n)
 have i:Hid (a.pub≠b.pub->¬a=b):=λh e=>h (by rw[e])
 have g:Hid (¬a.fors=b.fors->¬a=b):=λh e=>h (by rw[e])
 have N:Hid (a.pub=b.pub->a.fors=b.fors->a=b):=St.ext';obtain⟨G,v,C,rfl⟩:=az M;obtain⟨E,t,A,rfl⟩:=az K;obtain⟨F,u,B,rfl⟩:=SE.sl L;obtain⟨D,s,z,rfl⟩:=SE.sl J;generalize (a=b)=P at *;generalize (a.fors=b.fors)=P2 at *;generalize a.pub=X at *;generalize b.pub=V at *;clear M L K J;by_cases q:X=V
 ·rw[Jy q] at l
  have p:=Lib.hid (N.out q);clear i N q;go_enter func54,ntmps54;go_wp2_with fail;obtain⟨d,c⟩:∃ d,(w.alloc (.cells #[.slice G v C,.slice F u B] 74)).alloc (.cells #[.slice E t A,.slice D s z] 74)=d:=⟨_,rfl⟩;have k:Bx d w.heap.size 74 #[.slice G v C,.slice F u B]:=by rw[<-c];exact(Bx.new w _ _).kp ((Kp.refl _).alloc _)
  have m:Bx d (w.heap.size+1) 74 #[.slice E t A,.slice D s z]:=by
   rw[<-c];have:=Bx.new (w.alloc (.cells #[.slice G v C,.slice F u B] 74)) 74 #[.slice E t A,.slice D s z];rwa [Jn] at this
  have o:Hid (Kp w d):=by unfold Hid;rw[<-c];exact((Kp.refl _).alloc _).alloc _
  have j:=Lib.hid (Jb k m);rw[c];clear k m c;refine(l.out d o.out).mono ?_;rintro _ w2 ⟨rfl,f⟩;have H:=Lib.hid (o.out.trans f);have S:=(j.out.1.kp f).cell 1;have R:=(j.out.2.kp f).cell 1;simp only[Jj,Jg,Jk] at S R;clear f l j;go_wp2_with fail;refine(O.out w2 H.out).mono ?_;rintro _ w3 ⟨⟨T,rfl,k⟩,Q⟩;have HB:Hid (T=true↔P):=⟨λh=>p.out (k.1 h),λh=>k.2 (Kw.1 λU=>g.out U h)⟩;have Y:=Lib.hid (H.out.trans Q);clear k Q p g S R O;go_wp2_with fail;go_ret;exact⟨⟨T,rfl,HB.out⟩,Y.out⟩
 ·rw[Jr q] at l
  have Z:=Lib.hid (i.out q);clear i g N O q;go_enter func54,ntmps54;go_wp2_with fail;obtain⟨d,c⟩:∃ d,(w.alloc (.cells #[.slice G v C,.slice F u B] 74)).alloc (.cells #[.slice E t A,.slice D s z] 74)=d:=⟨_,rfl⟩;have o:Hid (Kp w d):=by unfold Hid;rw[<-c];exact((Kp.refl _).alloc _).alloc _
  rw[c];clear c;refine(l.out d o.out).mono ?_;rintro _ w2 ⟨rfl,f⟩;have H:=Lib.hid (o.out.trans f);clear f l;go_wp2_with fail;go_ret;exact⟨aR.no Z.out,H.out⟩
theorem II (aa v:Value)(t s:List St)(w:World)(D:eo w aa t)(C:eo w v s):
  Calls prog 53 #[aa,v,.func (.func 54) #[] #[]] w λe w'=>aR e (t=s)/\Kp w w':=by
 obtain⟨a1,c1,rfl,p1,B⟩:=SE.shape D;obtain⟨a2,c2,rfl,p2,A⟩:=SE.shape C;unfold maxLen at B A;by_cases a:t.length=s.length
 ·have l:Hid (∀ k,k<t.length->¬aC t k=aC s k->¬t=s):=λk hk m h=>m (by rw[h])
  have d:Hid ((∀ k,k<t.length->aC t k=aC s k)->t=s):=λh=>yY a h
  have X:=Lib.hid D;have S:=Lib.hid C;rw[<-a] at S p2 ⊢;obtain⟨N,G⟩:∃ N,t.length=N:=⟨_,rfl⟩;have H:=Lib.hid G;have z:Hid (s.length=N):=a.symm.trans G;rw[G] at X S p1 p2 l d ⊢;generalize (t=s)=EQ at *;have HS:=Lib.hid (Jb B A);clear D C a G B A;go_enter func53,ntmps53;go_wp2_with fail;go_loopw[17] (λi wr=>∃ k:Nat,k<=N/\i=.int .i64 (k:Int)/\(∀ j,j<k->aC t j=aC s j)/\Kp w wr) (λi _=>(N - (intOf i).toNat))
  case atStart=>exact⟨0,Jl _,rfl,λt h=>by omega,Kp.refl _⟩
  case round=>
   obtain⟨k,hk,rfl,c,b⟩:=hrel;by_cases n:k<N
   ·obtain⟨g1,o1,d1,x1,y1,J,_,q⟩:=eo.nodeK (i:=k) X.out (by rw[H.out];exact n)
    obtain⟨g2,o2,d2,x2,y2,I,_,o⟩:=eo.nodeK (i:=k) S.out (by rw[z.out];exact n);rw[H.out] at J;rw[z.out] at I;simp only[Ji] at J I;obtain⟨rfl,_,rfl⟩:=J;obtain⟨rfl,_,rfl⟩:=I;obtain⟨y,x,O,M⟩:=q wr b;obtain⟨Z,na,ca,rfl⟩:=az O;obtain⟨Y,nb,cb,rfl⟩:=SE.sl M;obtain⟨_,_,L,K⟩:=o wr b;obtain⟨xc,nc,cc,rfl⟩:=az L;obtain⟨xd,ab,cd,rfl⟩:=SE.sl K;obtain⟨u,r,_,_⟩:=o (wr.alloc (.cells #[.slice Z na ca,.slice Y nb cb] 74)) (b.alloc _);have T:=Lib.hid (λW (F:Kp wr W)=>IG _ _ _ _ (aC t k) (aC s k) W (O.kp F) (aL.kp M F) (L.kp F) (aL.kp K F));have g:=l.out k n;have f:Hid (aC t k=aC s k->∀ j,j<k+1->aC t j=aC s j):=λhe j hj=>by
     rcases JC (JN.1 hj) with Q|Q
     ·exact c j Q
     ·rw[Q];exact he
    have i1:IntKind.i64.wrap ((k:Int)+1)=(k:Int)+1:=IW _ (by have:=HS.out;omega);have i2:(k:Int)<(N:Int):=by omega
    have R:=Lib.hid b;clear q o d l c b O M L K;generalize (aC t k=aC s k)=PE at *;go_wp2_with fail;refine(T.out _ (((Kp.refl _).alloc _).alloc _)).mono ?_;rintro _ w9 ⟨⟨bb,rfl,E⟩,P⟩;have V:=Lib.hid (R.out.trans ((((Kp.refl _).alloc _).alloc _).trans P));cases bb
    ·have p:=Lib.hid (g λh=>by cases E.2 h)
     clear f g E P T y x u r;go_wp2_with fail;go_ret;exact⟨aR.no p.out,V.out⟩
    ·have p:=Lib.hid (f.out (E.1 rfl))
     clear f g E P T y x u r;go_wp2_with fail;go_roundw
     case rel=>exact⟨k+1,by omega,by first|rfl|(rw[i1];rfl),p.out,V.out⟩
     case measure=>simp[intOf];omega
   ·obtain rfl:k=N:=by omega
    have HB:=Lib.hid (d.out c);have R:=Lib.hid b;have i2:¬(k:Int)<(k:Int):=by omega
    clear d l c b;go_wp2_with fail;go_ret;exact⟨aR.yes HB.out,R.out⟩
 ·have m:¬(t.length:Int)=(s.length:Int):=by omega
  have U:((t.length:Int) != (s.length:Int))=true:=KX.2 m;have H:Hid (¬t=s):=λh=>a (by rw[h])
  clear D C a B A;go_enter func53,ntmps53;go_wp2_with fail;go_ret;exact⟨aR.no H.out,Kp.refl _⟩
theorem IJ (x y I r:Value)(a b:Pa)(w:World)(M:Rd w x a.pub)(L:eo w y a.step)(K:Rd w I b.pub)(J:eo w r b.step):
  Calls prog 18 #[.agg #[x,y],.agg #[I,r]] w λe w'=>aR e (a=b)/\Kp w w':=by
 have l:=Lib.hid (λW (n:Kp w W)=>lX x I a.pub b.pub W (M.kp n) (K.kp n));have O:Hid (∀ W,Kp w W->Calls prog 53 #[y,r,.func (.func 54) #[] #[]] W λe w'=>aR e (a.step=b.step)/\Kp W w'):=λW n=>II y r a.step b.step W (aL.kp L n) (aL.kp J n)
 have i:Hid (a.pub≠b.pub->¬a=b):=λh e=>h (by rw[e])
 have g:Hid (¬a.step=b.step->¬a=b):=λh e=>h (by rw[e])
 have N:Hid (a.pub=b.pub->a.step=b.step->a=b):=Pa.ext';obtain⟨G,v,C,rfl⟩:=az M;obtain⟨E,t,A,rfl⟩:=az K;obtain⟨F,u,B,rfl⟩:=SE.sl L;obtain⟨D,s,z,rfl⟩:=SE.sl J;generalize (a=b)=P at *;generalize (a.step=b.step)=P2 at *;generalize a.pub=X at *;generalize b.pub=V at *;clear M L K J;by_cases q:X=V
 ·rw[Jy q] at l
  have p:=Lib.hid (N.out q);clear i N q;go_enter func18,ntmps18;go_wp2_with fail;obtain⟨d,c⟩:∃ d,(w.alloc (.cells #[.slice G v C,.slice F u B] 27)).alloc (.cells #[.slice E t A,.slice D s z] 27)=d:=⟨_,rfl⟩;have k:Bx d w.heap.size 27 #[.slice G v C,.slice F u B]:=by rw[<-c];exact(Bx.new w _ _).kp ((Kp.refl _).alloc _)
  have m:Bx d (w.heap.size+1) 27 #[.slice E t A,.slice D s z]:=by
   rw[<-c];have:=Bx.new (w.alloc (.cells #[.slice G v C,.slice F u B] 27)) 27 #[.slice E t A,.slice D s z];rwa [Jn] at this
  have o:Hid (Kp w d):=by unfold Hid;rw[<-c];exact((Kp.refl _).alloc _).alloc _
  have j:=Lib.hid (Jb k m);rw[c];clear k m c;refine(l.out d o.out).mono ?_;rintro _ w2 ⟨rfl,f⟩;have H:=Lib.hid (o.out.trans f);have S:=(j.out.1.kp f).cell 1;have R:=(j.out.2.kp f).cell 1;simp only[Jj,Jg,Jk] at S R;clear f l j;go_wp2_with fail;refine(O.out w2 H.out).mono ?_;rintro _ w3 ⟨⟨T,rfl,k⟩,Q⟩;have HB:Hid (T=true↔P):=⟨λh=>p.out (k.1 h),λh=>k.2 (Kw.1 λU=>g.out U h)⟩;have Y:=Lib.hid (H.out.trans Q);clear k Q p g S R O;go_wp2_with fail;go_ret;exact⟨⟨T,rfl,HB.out⟩,Y.out⟩
 ·rw[Jr q] at l
  have Z:=Lib.hid (i.out q);clear i g N O q;go_enter func18,ntmps18;go_wp2_with fail;obtain⟨d,c⟩:∃ d,(w.alloc (.cells #[.slice G v C,.slice F u B] 27)).alloc (.cells #[.slice E t A,.slice D s z] 27)=d:=⟨_,rfl⟩;have o:Hid (Kp w d):=by unfold Hid;rw[<-c];exact((Kp.refl _).alloc _).alloc _
  rw[c];clear c;refine(l.out d o.out).mono ?_;rintro _ w2 ⟨rfl,f⟩;have H:=Lib.hid (o.out.trans f);clear f l;go_wp2_with fail;go_ret;exact⟨aR.no Z.out,H.out⟩
theorem zg (x y b a:Value)(p q:Pa)(w:World)(d:PIn w x y p)(c:PIn w b a q):
 Calls prog 18 #[.agg #[x,y],.agg #[b,a]] w λe w'=>aR e (p=q)/\Kp w w':=IJ x y b a p q w d.pub d.step c.pub c.step

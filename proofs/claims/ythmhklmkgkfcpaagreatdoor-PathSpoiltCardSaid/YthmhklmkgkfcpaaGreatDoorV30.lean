import Derived.Test.YthmhklmkgkfcpaaGreatDoorV25
import Derived.Test.YthmhklmkgkfcpaaGreatDoorV28
import Derived.Test.YthmhklmkgkfcpaaGreatDoorV29
set_option linter.all false
set_option maxHeartbeats 8000000
set_option maxRecDepth 100000
namespace Go.Proofs.YthmhklmkgkfcpaaGreatDoor
open Go.Proofs.Tryz Go.RowKit
variable {w w':World}
theorem GB (v:Value)(t:List Nod)(w:World)(l:NL w v t)(q:0<t.length)(m:t.length<=1000000):
  Calls prog 105 #[v] w λe w'=>(∃ b,e=.returned b/\NO 81 w' w.heap.size b t)/\Kp w w':=by
 refine(xO v t w l q m).mono ?_;rintro e w' ⟨⟨b,us,rfl,d,k,j⟩,f⟩;have a:∀ g,b.ownBlock=some g->w.heap.size<=g:=λg o=>(Jw d g o).1
 refine⟨⟨b,rfl,us,d,k,λi n=>?_⟩,f⟩;obtain⟨p,aa,h,r,c⟩:=j i n;exact⟨p,aa,h,r,c.kp f,c.pub.apart a,c.un.apart a,c.hash.apart a⟩
theorem yg (aa n s x y:Value)(t:List Nod)(K i:Nat)(p:Pa)(w:World)(hu:WIn w aa n s t K i)(G:az t K)(hT:bq t K)(f:(ats t (2*i)).kind=1)(hp:PIn w x y p)(J:p.pub.length=32)
  (hs:p.step.length=(ixS t i K).length) (F:∀ a,a<(aw t i K).length->(am p.step a).pub.length=32) (ak:Tab w):
  Calls prog 60 #[.agg #[aa,.int .i64 (i:Int),n,s],.agg #[x,y]] w λe w'=>(∃ r,e=.returned r/\NL w' r (du t (i:Int) (aw t i K) p))/\Kp w w':=by
 obtain⟨z1,z2,z3⟩:=G.small;have a5:=bY G.le;have b:=(G.there_iff i).2 f;have aS:=az.lt_of (t:=t) (x:=2*i) (by rw[f];decide);have hi:i<2 ^ K:=by omega
 have hE:lI t (i:Int) p.pub=0:=by unfold lI;rw[if_pos J,if_pos b]
 have hV:lJ t (i:Int) p.pub=bo t i p.pub:=by unfold lJ;rw[if_pos hE,IM]
 have a3:=Lib.hid (λW (hW:Kp w W)=>GB aa t W (hu.tree.kp hW) (by omega) (by omega));have aM:=Lib.hid (λW (hW:Kp w W) (v:Value) (hv:NL W v (bR p.step 0 (aw t i K) (bo t i p.pub)))=>GA v _ K (i:Int) W (Ga G hT f J F) (Gg G f J F) hv (by omega) (ak.kp hW));have HF:Hid (eA (bR p.step 0 (aw t i K) (bo t i p.pub)) (i:Int)=du t (i:Int) (aw t i K) p):=by unfold Hid du;rw[hV]
 have a9:(bo t i p.pub).length=t.length:=az.updLen i p.pub;have D:Hid (∀ j,j<(aw t i K).length->bR p.step 0 ((aw t i K).take (j+1)) (bo t i p.pub)=(bR p.step 0 ((aw t i K).take j) (bo t i p.pub)).set ((aw t i K).getD j 0) ⟨2,0,(am p.step j).pub,[],[]⟩):=λj U=>FZ _ _ _ U
 have P:Hid (∀ j,(bR p.step 0 ((aw t i K).take j) (bo t i p.pub)).length=t.length):=λj=>(mL _ _ _ _).trans a9
 have L:Hid (∀ j,j<(aw t i K).length->(aw t i K).getD j 0<t.length):=λj U=>by
  have hm:(aw t i K).getD j 0∈aw t i K:=by rw[Iw,Iy U];exact Jg U
  rw[G.len];exact ec hi (dQ hm)
 have aI:Hid (bR p.step 0 ((aw t i K).take 0) (bo t i p.pub)=bo t i p.pub):=rfl;have Q:Hid (bR p.step 0 ((aw t i K).take (aw t i K).length) (bo t i p.pub)=bR p.step 0 (aw t i K) (bo t i p.pub)):=by unfold Hid;rw[Jz]
 have T:Hid (∀ j,j<(aC K 0 i).length->fl ((aC K 0 i).take (j+1)) (t.set (2*i) (aD (ats t (2*i)).name p.pub))=(fl ((aC K 0 i).take j) (t.set (2*i) (aD (ats t (2*i)).name p.pub))).set ((aC K 0 i).getD j 0) aY):=λj U=>Ge U _
 have C:Hid (∀ j,(fl ((aC K 0 i).take j) (t.set (2*i) (aD (ats t (2*i)).name p.pub))).length=t.length):=λj=>by rw[rX,IW]
 have ae:Hid (∀ j,j<(aC K 0 i).length->(aC K 0 i).getD j 0<t.length):=λj U=>by
  have hm:(aC K 0 i).getD j 0∈aC K 0 i:=by rw[Iw,Iy U];exact Jg U
  rw[G.len];exact ec hi hm
 have S:Hid (fl ((aC K 0 i).take (aC K 0 i).length) (t.set (2*i) (aD (ats t (2*i)).name p.pub))=bo t i p.pub):=by unfold Hid;rw[Jz];exact Gf G hi _
 have ai:Hid (fl ((aC K 0 i).take 0) (t.set (2*i) (aD (ats t (2*i)).name p.pub))=t.set (2*i) (aD (ats t (2*i)).name p.pub)):=rfl;have R:=Lib.hid (λa (h:a<(ixS t i K).length)=>jU (t:=t) (i:=i) (m:=K) h);have aQ:=kZ K i;have aP:=(dR t i K).1;have d:=gI t i K;have i2:IntKind.i64.wrap (2*(i:Int))=((2*i:Nat):Int):=by rw[IA _ (by omega)];omega
 generalize du t (i:Int) (aw t i K) p=bj at *;generalize bR p.step 0 (aw t i K) (bo t i p.pub)=TE at *;generalize aW:(λj=>bR p.step 0 ((aw t i K).take j) (bo t i p.pub))=TS at *;have al:∀ j,bR p.step 0 ((aw t i K).take j) (bo t i p.pub)=TS j:=λj=>by rw[<-aW]
 simp only[al] at D P aI Q;generalize aX:(λj=>fl ((aC K 0 i).take j) (t.set (2*i) (aD (ats t (2*i)).name p.pub)))=TC at *;have ao:∀ j,fl ((aC K 0 i).take j) (t.set (2*i) (aD (ats t (2*i)).name p.pub))=TC j:=λj=>by rw[<-aX]
 simp only[ao] at T C S ai;generalize oC TE (i:Int)=LE at *;have HP:=Lib.hid hp.pub;have ad:=Lib.hid hp.step;have ab:=Lib.hid hu.steps;have aZ:=Lib.hid hu.nodes;have HU:=Lib.hid hu.tree;obtain⟨au,cu,rfl,q1,q2⟩:=hu.tree.shape;obtain⟨an,cn,rfl,q3,q4⟩:=hu.nodes.shape;obtain⟨aF,aE,rfl,q5,q6⟩:=SE.shape hu.steps;obtain⟨ap,cp,rfl,q7,q8⟩:=hp.pub.shape;obtain⟨a6,c6,rfl,q9,a4⟩:=SE.shape hp.step;rw[d] at q5 ab ⊢;rw[hs] at q9 ad ⊢;rw[aP] at D L Q;rw[aQ] at T ae S aZ q3 ⊢;rw[J] at HP ⊢;have bg:(ixS t i K).length<=10:=IU (jm t i K) G.le;have bf:=G.le;obtain⟨NM,aB⟩:∃ x,(ats t (2*i)).name=x:=⟨_,rfl⟩;rw[aB] at ai;generalize bo t i p.pub=UT at *;generalize aw t i K=ST at *;generalize aC K 0 i=PT at *;generalize (ixS t i K).length=M at *;generalize hN:t.length=N at *;generalize I:2*i=V at *;have be:=Lib.hid aB;have aL:=Lib.hid hN;have a1:=Lib.hid d;have a2:=Lib.hid hs;unfold maxLen at q2 q4 q6 a4;clear hu G hT f hp hs F b hi hE hV aW al aX ao hN aB I z2 z3 a5 J ak aQ aP d q5 q7;go_enter func60,ntmps60;go_wp2_with fail;obtain⟨u,E⟩:∃ u,(w.alloc (.cells #[.slice au N cu,.int .i64 (i:Int),.slice an K cn,.slice aF M aE] 95)).alloc (.cells #[.slice ap 32 cp,.slice a6 M c6] 27)=u:=⟨_,rfl⟩;have HB:Hid (Bx u w.heap.size 95 #[.slice au N cu,.int .i64 (i:Int),.slice an K cn,.slice aF M aE]):=by unfold Hid;rw[<-E];exact(Bx.new w _ _).kp ((Kp.refl _).alloc _)
 have aN:Hid (Bx u (w.heap.size+1) 27 #[.slice ap 32 cp,.slice a6 M c6]):=by
  unfold Hid;have:=Bx.new (w.alloc (.cells #[.slice au N cu,.int .i64 (i:Int),.slice an K cn,.slice aF M aE] 95)) 27 #[.slice ap 32 cp,.slice a6 M c6];rw[IQ] at this;rw[<-E];exact this
 have K1:Hid (Kp w u):=by unfold Hid;rw[<-E];exact((Kp.refl _).alloc _).alloc _
 rw[E];clear E;refine(a3.out u K1.out).mono ?_;rintro _ w2 ⟨⟨v2,rfl,o2⟩,k2⟩;obtain⟨A,Z,rfl,b1,b2,b3,b4,aT⟩:=o2.form (by rw[aL.out];omega);rw[aL.out] at o2 b3 ⊢;have I:V<t.length:=by rw[aL.out];exact aS
 obtain⟨p9,u9,h9,c,_⟩:=aT V I;obtain⟨j0,j1,j2,j3,j4⟩:_/\_/\_/\_/\_:=⟨c.kind,c.name,c.pubC,c.unC,c.hashC⟩;rw[be.out] at j1;have b:=o2.there V I;have f0:=(b 0 (by omega)).2;have f1:=(b 1 (by omega)).2;have f2:=(b 2 (by omega)).2;have f3:=(b 3 (by omega)).2;have f4:=(b 4 (by omega)).2;rw[Lp] at f0;have bc:=Lib.hid (HP.out.kp (K1.out.trans k2));have ah:Hid (u.heap.size<=A/\A<w2.heap.size):=⟨b1,b2⟩;have aO:=Lib.hid (fun(v:Value) (l:List UInt8) (hv:Rd w v l)=>hv.apart (v:=.slice (some ⟨A,0,none⟩) N Z) (λg hg=>by cases hg;exact IU K1.out.size ah.out.1));have d:=o2.stored V I (aD NM p.pub) (.slice ap 32 cp) (.slice none 0 0) (.slice none 0 0) ⟨bc.out,RI.nil _,cQ _⟩ (aO.out _ _ HP.out) (aR.nil _ _ _) (aR.nil _ _ _);rw[<-ai.out] at d;have O:=Lib.hid d;have d1:=(HB.out.kp k2).cell 1;have d2:=(aN.out.kp k2).cell 0;simp only[IJ,IF,IK] at d1 d2;have K2:=Lib.hid k2;have i4:(V:Int)<(N:Int):=by omega
 clear d o2 b c aT k2 b1 b2 b4 a3;go_wp2_with fail;go_region
 obtain⟨w3,Y⟩:∃ x,(((((w2.setCell ⟨A,V*5,none⟩ (.int .i64 1)).setCell ⟨A,V*5+1,none⟩ (.int .i64 NM)).setCell ⟨A,V*5+2,none⟩ (.slice ap 32 cp)).setCell ⟨A,V*5+3,none⟩ (.slice none 0 0)).setCell ⟨A,V*5+4,none⟩ (.slice none 0 0)).drew=x:=⟨_,rfl⟩;have bd:Hid (NO 81 w3 u.heap.size (.slice (some ⟨A,0,none⟩) N Z) (TC 0)):=by
  have:=O.out.1.kp (Kp.refl _).drew;unfold Hid;rw[<-Y];exact this
 have K3:Hid (Kp u w3):=by
  have:=(Kp.grown (v:=.slice (some ⟨A,0,none⟩) N Z) K2.out O.out.2 (λk hk=>by cases hk;exact ah.out.1)).drew;unfold Hid;rw[<-Y];exact this
 rw[Y];clear Y d1 d2 j0 j1 j2 j3 j4 f0 f1 f2 f3 f4 O ai;have d3:=(HB.out.kp K3.out).cell 2;simp only[IJ,IF,IK] at d3;go_wp2_with fail;go_loopw[31] (λz wr=>∃ j:Nat,j<=K/\z=.int .i64 (j:Int)/\NO 81 wr u.heap.size (.slice (some ⟨A,0,none⟩) N Z) (TC j)/\Kp u wr) (λz _=>(K - (intOf z).toNat))
 case atStart=>exact⟨0,IO _,rfl,bd.out,K3.out⟩
 case round=>
  obtain⟨j,U,rfl,ho,H⟩:=hrel;have B:=Lib.hid (IC ho H);clear ho H d3;by_cases o:j<K
  ·obtain⟨gl,ol,rfl,_,aU⟩:=(aZ.out.kp (K1.out.trans B.out.2)).at j o
   have d0:=aU j o;have HX:=Lib.hid (ae.out j o);have aG:=Lib.hid (T.out j o);have ag:=Lib.hid (C.out j);have i1:IntKind.i64.wrap ((j:Int)+1)=(j:Int)+1:=IA _ (by omega);have i3:(j:Int)<(K:Int):=by omega
   generalize PT.getD j 0=X at *;have i5:(X:Int)<(N:Int):=by have:=HX.out;omega
   have bb:Hid (X<(TC j).length):=by unfold Hid;rw[ag.out];exact HX.out
   clear aU aM D P L Q aI T C ae S R ab ad aN HU;go_wp2_with(refine pZ jO rfl rfl (.tmp 38) (.tmp 37) rfl u.heap.size A Z N (TC j) B.out.1 X bb.out aY (.slice none 0 0) (.slice none 0 0) (.slice none 0 0) rfl rfl ⟨cQ _,RI.nil _,cQ _⟩ (aR.nil _ _ _) (aR.nil _ _ _) (aR.nil _ _ _) ?_;intro w5 o5 g5;have k5:Hid (Kp u w5):=Kp.grown (v:=.slice (some ⟨A,0,none⟩) N Z) B.out.2 g5 (λk hk=>by cases hk;exact ah.out.1))
   rw[<-aG.out] at o5;go_roundw
   case rel=>exact⟨j+1,by omega,by first|rfl|(rw[i1];rfl),o5,k5.out⟩
   case measure=>simp[intOf];omega
  ·obtain rfl:j=K:=by omega
   have h1:¬(j:Int)<(j:Int):=by omega
   have af:Hid (NO 81 wr u.heap.size (.slice (some ⟨A,0,none⟩) N Z) (TS 0)/\Kp u wr):=by
    have:=B.out;rw[S.out,<-aI.out] at this;exact this
   obtain⟨w6,ar⟩:∃ x:World,x=wr:=⟨_,rfl⟩;rw[<-ar] at af;have d3:=(HB.out.kp af.out.2).cell 3;simp only[IJ,IF,IK] at d3;rw[<-ar];clear B ar T C ae S;go_wp2_with fail;go_loopw[43] (λz wr=>∃ j:Nat,j<=M/\z=.int .i64 (j:Int)/\NO 81 wr u.heap.size (.slice (some ⟨A,0,none⟩) N Z) (TS j)/\Kp u wr) (λz _=>(M - (intOf z).toNat))
   case atStart=>exact⟨0,IO _,rfl,af.out.1,af.out.2⟩
   case round=>
    obtain⟨m,hm,rfl,ho,H⟩:=hrel;have B:=Lib.hid (IC ho H);clear ho H d3;by_cases o:m<M
    ·obtain⟨gs,os,bh,q,e1,_,c0,c1,rq⟩:=aH.sp (i:=m) (aH.kp ab.out (K1.out.trans B.out.2)) (by rw[a1.out];exact o)
     rw[a1.out] at e1;simp only[IG] at e1;obtain⟨rfl,_,rfl⟩:=e1;obtain⟨aq,nq,cq,rfl⟩:=rq.sl;rw[R.out m o] at c0;dsimp only at c0
     have HX:=Lib.hid (L.out m o);have aG:=Lib.hid (D.out m o);have ag:=Lib.hid (P.out m);have i1:IntKind.i64.wrap ((m:Int)+1)=(m:Int)+1:=IA _ (by omega);have i3:(m:Int)<(M:Int):=by omega
     obtain⟨gp,op,bi,pv,qv,e2,_,av⟩:=eG.nodeK (i:=m) ad.out (by rw[a2.out];exact o);rw[a2.out] at e2;simp only[IG] at e2;obtain⟨rfl,_,rfl⟩:=e2;generalize ST.getD m 0=X at *;obtain⟨WQ,ay⟩:∃ x,wr.alloc (.cells #[.int .i64 (X:Int),.slice aq nq cq] 99)=x:=⟨_,rfl⟩;have KQ:Hid (Kp wr WQ):=by unfold Hid;rw[<-ay];exact(Kp.refl _).alloc _
     have ba:WQ.cell? ⟨wr.heap.size,0,none⟩=some (.int .i64 (X:Int)):=by
      have:=(Bx.new wr 99 #[.int .i64 (X:Int),.slice aq nq cq]).cell 0;rw[<-ay];simp
     have dp:=(aN.out.kp (B.out.2.trans KQ.out)).cell 1;simp only[IJ,IF,IK] at dp;have aJ:=Lib.hid (av w (Kp.refl _)).2.2.1;have dv:=(av WQ ((K1.out.trans B.out.2).trans KQ.out)).1;obtain⟨a7,n7,c7,rfl⟩:=aA aJ.out;have aK:=Lib.hid (B.out.1.kp KQ.out);obtain⟨g9,c9,e9,_,_,_,_,aV⟩:=aK.out.form (by rw[ag.out];omega);simp only[IG,Jo,JY,and_true] at e9;obtain⟨rfl,_,rfl⟩:=e9;have i4:(X:Int)<(N:Int):=by have:=HX.out;omega
     have ax:X<(TS m).length:=by rw[ag.out];exact HX.out
     obtain⟨p9,u9,h9,c,_⟩:=aV X ax;obtain⟨j0,j1,j2,j3,j4⟩:_/\_/\_/\_/\_:=⟨c.kind,c.name,c.pubC,c.unC,c.hashC⟩;have b:=aK.out.there X ax;have f0:=(b 0 (by omega)).2;have f1:=(b 1 (by omega)).2;have f2:=(b 2 (by omega)).2;have f3:=(b 3 (by omega)).2;have f4:=(b 4 (by omega)).2;rw[Lp] at f0;have d:=aK.out.stored X ax ⟨2,0,(am p.step m).pub,[],[]⟩ (.slice a7 n7 c7) (.slice none 0 0) (.slice none 0 0) ⟨aJ.out.kp ((K1.out.trans B.out.2).trans KQ.out),RI.nil _,cQ _⟩ (aO.out _ _ aJ.out) (aR.nil _ _ _) (aR.nil _ _ _);rw[<-aG.out] at d;have a0:=Lib.hid d;have KR:=Lib.hid (B.out.2.trans KQ.out);clear d av aV c b rq aM D P L Q R ab ad aO;go_wp2_with fail;try rw[ay]
     go_region
     clear j0 j1 j2 j3 j4 f0 f1 f2 f3 f4 ba dp dv c0 c1;go_wp2_with fail;have aj:=a0.out;go_roundw
     case rel=>exact⟨m+1,by omega,by go_num,aj.1.kp (Kp.refl _).drew,(Kp.grown (v:=.slice (some ⟨A,0,none⟩) N Z) KR.out aj.2 (λk hk=>by cases hk;exact ah.out.1)).drew⟩
     case measure=>simp[intOf];omega
    ·obtain rfl:m=M:=by omega
     have h1:¬(m:Int)<(m:Int):=by omega
     have HE:=Lib.hid (IC (Q.out▸B.out.1) B.out.2);have d4:=(HB.out.kp B.out.2).cell 1;simp only[IJ,IF,IK] at d4;clear L D P;go_wp2_with fail;refine(aM.out wr (K1.out.trans HE.out.2) _ HE.out.1.nl).mono ?_;rintro _ w8 ⟨⟨r3,rfl,r4⟩,k3⟩;rw[HF.out] at r4;have R4:=Lib.hid (IC r4 ((K1.out.trans HE.out.2).trans k3));obtain⟨a8,n8,c8,rfl⟩:=r4.sl;clear r4 k3;go_wp2_with fail;go_ret;exact⟨⟨_,rfl,R4.out.1⟩,R4.out.2⟩
section
open Go.Maps
theorem RN.cs {v:Value}{l:List Nat}(h:RN w v l)(k:Cs w w'):RN w' v l:=h.stepF k.step λx n c e b a=>a ((RN.ri h).solid x n c e b)
theorem PIn.cs {x y:Value}{p:Pa}(h:PIn w x y p)(k:Cs w w'):PIn w' x y p:=⟨h.pub.cs k,aH.cs h.step k⟩
theorem yx (own:List Sd)(info:List UInt8):∀ (who:List Int) (f:List Se),(dJ own info who f).2=0->(dJ own info who f).1.length=32
 | [],f=>λh=>by unfold dJ at h;cases h
 | y :: l,f=>λh=>by
  unfold dJ at h ⊢
  split at h
  ·rename_i h0
   rw[if_pos h0]
   exact yx own info l f.tail h
  ·rename_i h0
   rw[if_neg h0]
   split at h
   ·cases h
   ·rename_i h1
    rw[if_neg h1]
    split at h
    ·rename_i h2;exact absurd h h2
    ·rename_i h2
     rw[if_neg h2]
     split at h
     ·cases h
     ·rename_i h3
      rw[if_neg h3]
      simpa using h3
set_option maxRecDepth 100000 in
set_option maxHeartbeats 4000000 in
open Classical in
theorem Hv (aa v vi x y:Value)(t:List Nod)(K i me:Nat)(own:List Sd)(info:List UInt8)(p:Pa)(w:World)(hu:NL w aa t)(T:az t K)(hT:bq t K)(hv:SL w v own)(a3:Rd w vi info)(hp:PIn w x y p)(l:(ats t (2*i)).kind=1)
  (bo:i≠me) (I:bL t K (me:Int) own) (bs:info.length<=1400) (dc:own.length<=99000) (bv:∀ k j,(aM (am p.step k).fors j).b.length<=1600)
  (bj:∀ j,j<p.step.length->(am p.step j).pub.length<=10000/\(am p.step j).fors.length<=10000/\∀ k,k<(am p.step j).fors.length->(aM (am p.step j).fors k).half.length<=10000/\(aM (am p.step j).fors k).b.length<=10000) (S:Tab w):
  Calls prog 23 #[aa,.int .i64 (i:Int),.int .i64 (me:Int),v,vi,.agg #[x,y]] w λe w'=>(∃ v,e=.returned (.tuple #[v,.int .i64 (cH t K i me own info p)])/\MV w' v (cO t K i me own info p))/\Kp w w':=by
 obtain⟨z1,z2,z3⟩:=T.small;have C:=(T.there_iff i).2 l;have aW:=I.1;have F:=(T.there_iff me).1 aW;have cB:=az.lt_of (t:=t) (x:=2*i) (by rw[l];decide);have cw:=az.lt_of (t:=t) (x:=2*me) (by rw[F];decide);have hi:i<2 ^ K:=by omega
 have cm:=bY T.le;have a5:cH t K (i:Int) (me:Int) own info p=if ¬fb (aT t i K) p then 2
   else if (dS t K i me own info p).2≠0 then (dS t K i me own info p).2
   else if jo p.step (dS t K i me own info p).1 (kM t i me) (ixS t i K).length then 0 else 5:=by
  unfold cH;rw[if_neg (by rw[JN];exact C),if_neg (by omega)];rfl
 have a4:cO t K (i:Int) (me:Int) own info p=if cH t K (i:Int) (me:Int) own info p=0 then
  ⟨du t (i:Int) (aw t i K) p,dH (fW K i own) (dS t K i me own info p).1 ((aw t i K).drop (kM t i me)),p,aV (dS t K i me own info p).1 ((ixS t i K).length - kM t i me)⟩ else dI:=rfl
 obtain⟨dd,cI,cG⟩:=wQ T l bo I;obtain⟨cj,aL⟩:=dR t i K;have bA:(ixS t i K).length<=10:=IU (jm t i K) T.le;obtain⟨_,aO,aP,_⟩:=kY.1 I;have J:∀ s∈own,-9223372036854775808<=s.node/\s.node<=9223372036854775807:=λs h=>by
  rcases (aP s h).1 with e|⟨z,hz,e,_⟩
  ·omega
  ·have:=ec (i:=me) (by omega) hz
   omega
 have bK:=Lib.hid (λW (d:Kp w W)=>pH aa t K i W (hu.kp d) T l (S.kp d));have b7:=Lib.hid (λW (d:Kp w W) (n s:Value) (o:WIn W aa n s t K i)=>Hi aa n s x y t K i p W o (hp.kp d));have bU:=Lib.hid (λW (d:Kp w W) (n s:Value) (o:WIn W aa n s t K i)=>Hm aa n s t K i me own W o T l bo I (S.kp d));have ce:=Lib.hid (λW (d:Kp w W)=>sk v own W (aH.kp hv d) aO (by omega) (λk hk=>J _ (mS hk)));have aS:=Lib.hid (λW (d:Kp w W) (n s:Value) m (o:WIn W aa n s t K i) (hm:KM prog 3 W m own.length (λy=>y∈own)) (L:fb (aT t i K) p)=>Hh aa n s x y vi t K i (kM t i me) m own.length own info p W o hm aO (λs h=>(aP s h).2.1) (a3.kp d) (hp.kp d)
  (by omega) (by rw[L.1,aL]) (L.2.2 _ (by omega)).1 (λj U=>by obtain⟨_,f2⟩:=mW (a:=kM t i me) T hi (by omega);obtain⟨z,y1,y2,_⟩:=f2 j U;rw[y1];omega) bs (λj=>bv _ j))
 have bV:=Lib.hid (λW (n s vs:Value) m (f:List UInt8) (hC:Cs w W) (o:WIn W aa n s t K i) (hm:KM prog 3 W m own.length (λy=>y∈fW K i own)) (hv:Rd W vs f) (cJ:f.length=32) (L:fb (aT t i K) p)=>Hc aa n s x y vs t K i (kM t i me) m own.length (λy=>y∈fW K i own) f p W o hm (hp.cs hC) hv cJ (by omega) bA (by rw[L.1,aL]) (by omega)
  (λa ha z hz e=>by
   rw[<-nD,nC] at ha;exact ha.2 z (dQ (List.mem_of_mem_drop hz)) e.symm)
  (λz hz=>by have:=ec hi (dQ hz);omega))
 have bX:=Lib.hid (λW (n s:Value) (hC:Cs w W) (o:WIn W aa n s t K i) (cD:Tab W) (L:fb (aT t i K) p)=>yg aa n s x y t K i p W o T hT l (hp.cs hC) L.2.1 (by rw[L.1,aL]) (λa ha=>(L.2.2 a (by omega)).2) cD);have bp:((aw t i K).drop (kM t i me)).Nodup:=(jq t i K).sublist (List.drop_sublist _ _);have bu:∀ a∈fW K i own,∀ z∈(aw t i K).drop (kM t i me),a.node≠(z:Int):=λa ha z hz e=>by
  rw[<-nD,nC] at ha;exact ha.2 z (dQ (List.mem_of_mem_drop hz)) e.symm
 have bh:((aw t i K).drop (kM t i me)).length=(ixS t i K).length - kM t i me:=by rw[JK,cj]
 have a7:Hid (∀ (f:List UInt8) (r:List Sd),srt r->(∀ z,z∈r↔fd (λz=>z∈fW K i own) f ((aw t i K).drop (kM t i me)) ((ixS t i K).length - kM t i me) z)->r=dH (fW K i own) f ((aw t i K).drop (kM t i me))):=λf r T hm=>
  xZ bp (by rw[<-nD];exact Gd aO _) bu T (by rw[bh];exact hm)
 have aB:Hid (∀ f s,fd (λz=>z∈fW K i own) f ((aw t i K).drop (kM t i me)) ((ixS t i K).length - kM t i me) s->(-9223372036854775808<=s.node/\s.node<=9223372036854775807)/\s.seed.length<=2000):=λf s h=>by
  rcases h with h|⟨a,ha,rfl⟩
  ·rw[<-nD,nC] at h
   exact⟨J s h.1,by rw[(aP s h.1).2.1];decide⟩
  ·have hm:((aw t i K).drop (kM t i me)).getD a 0∈(aw t i K).drop (kM t i me):=by rw[Iw,Iy (by omega)];exact Jg _
   have:=ec hi (dQ (List.mem_of_mem_drop hm));refine⟨⟨?_,?_⟩,?_⟩
   ·show _<=((((aw t i K).drop (kM t i me)).getD a 0:Nat):Int);omega
   ·show((((aw t i K).drop (kM t i me)).getD a 0:Nat):Int)<=_;omega
   ·show(bf f a).length<=_;unfold bf;rw[jM];omega
 have bP:=Lib.hid (λW gm f (h:KM prog 3 W gm (own.length+((ixS t i K).length - kM t i me)) (fd (λz=>z∈fW K i own) f ((aw t i K).drop (kM t i me)) ((ixS t i K).length - kM t i me)))=>yj W h (by omega) (λs I=>(aB.out f s I).1) (λs I=>(aB.out f s I).2));have cd:=Lib.hid (λW (g:Nat) (hg:g<W.heap.size) (h1:RZ (λk=>k=g) W x p.pub) (h2:SZ bJ (λk=>k=g) W y p.step) (L:fb (aT t i K) p)=>Hu x y p (λk=>k=g) W h1 h2 (λk e=>by rw[e];exact hg) (by rw[L.1,aL];omega) (by rw[L.2.1];decide) bj);have bd:=Lib.hid (λj (U:j<(aC K 0 i).length) z=>Gc (own:=own) (xs:=aC K 0 i) (n:=j) U z);have ca:Hid (gJ own ((aC K 0 i).take 0)=own):=Gb own;have b9:Hid (gJ own ((aC K 0 i).take (aC K 0 i).length)=fW K i own):=by unfold Hid;rw[Jz];exact nD
 have bb:Hid (∀ j,j<(aC K 0 i).length->(aC K 0 i).getD j 0<=100000):=λj U=>by
  have hm:(aC K 0 i).getD j 0∈aC K 0 i:=by rw[Iw,Iy U];exact Jg _
  have:=ec hi hm;omega
 have cf:Hid ((dS t K i me own info p).2=0->(dS t K i me own info p).1.length=32):=yx _ _ _ _;have bQ:Hid (dS t K i me own info p=dJ own info ((aT t i K).getD (kM t i me) []) (am p.step (kM t i me)).fors):=rfl;have ba:=Lib.hid hp;have HU:=Lib.hid hu;have cT:=Lib.hid S;have c6:((i:Int)==(me:Int))=false:=ID.2 (by omega);have cp:¬(i:Int)=(me:Int):=by omega
 rw[<-bQ.out] at aS;generalize cH t K (i:Int) (me:Int) own info p=TE at *;generalize cO t K (i:Int) (me:Int) own info p=TV at *;generalize cE:dS t K i me own info p=RR at *;obtain⟨S0,E0⟩:=RR;dsimp only at a5 a4 cf aS
 generalize bB:fb (aT t i K) p=cg at *;have Q:=Lib.hid (IC a5 a4);generalize du t (i:Int) (aw t i K) p=LP at *;obtain⟨a,c,rfl,p1,s1⟩:=hu.shape;obtain⟨av,nv,cv,rfl⟩:=SE.sl hv;obtain⟨ai,ni,ci,rfl⟩:=aA a3;obtain⟨ax,nx,cx,rfl⟩:=aA hp.pub;obtain⟨ay,ny,cy,rfl⟩:=SE.sl hp.step;clear a5 a4 cI cG hu T hT hv a3 hp l C aW F cB cw hi I bv bj S aP aO J bp bu bh bB cE z1 z2 z3 bQ aB cm bs;generalize cF:t.length=N at *;clear cF;obtain⟨w1,ad⟩:∃ w1,(w.alloc (.cells #[.slice ax nx cx,.slice ay ny cy] 27)).alloc (.cells #[.slice none 0 0,.slice none 0 0,.slice none 0 0,.slice none 0 0,.slice none 0 0] 47)=w1:=⟨_,rfl⟩;have P:Hid (∀ W,Kp w1 W->Bx W (w.heap.size+1) 47 #[.slice none 0 0,.slice none 0 0,.slice none 0 0,.slice none 0 0,.slice none 0 0]):=λW d=>by
  refine Bx.kp ?_ d;have:=Bx.new (w.alloc (.cells #[.slice ax nx cx,.slice ay ny cy] 27)) 47 #[.slice none 0 0,.slice none 0 0,.slice none 0 0,.slice none 0 0,.slice none 0 0];rw[IQ] at this;rw[<-ad];exact this
 have bR:Hid (∀ W,Kp w1 W->Bx W w.heap.size 27 #[.slice ax nx cx,.slice ay ny cy]):=λW d=>by
  refine Bx.kp ?_ d;rw[<-ad];exact(Bx.new w _ _).kp ((Kp.refl _).alloc _)
 have K1:Hid (Kp w w1):=by unfold Hid;rw[<-ad];exact((Kp.refl _).alloc _).alloc _
 go_enter func23,ntmps23;go_wp2_with fail;try rw[ad]
 clear ad;refine(bK.out w1 K1.out).mono ?_;rintro _ w2 ⟨⟨da,sv,rfl,o⟩,k2⟩;obtain⟨an,cn,rfl,q3,q4⟩:=o.nodes.shape;obtain⟨aq,ab,ap,rfl⟩:=SE.sl o.steps;have bT:Hid ((aC K 0 i).length<=maxLen):=IU q3 q4;have bM:=Lib.hid o;have K2:=Lib.hid k2;clear o k2 bK;obtain⟨w3,aN⟩:∃ x,w2.alloc (.cells #[.slice a N c,.int .i64 (i:Int),.slice an (aC K 0 i).length cn,.slice aq ab ap] 95)=x:=⟨_,rfl⟩;have aU:Hid (Bx w3 w2.heap.size 95 #[.slice a N c,.int .i64 (i:Int),.slice an (aC K 0 i).length cn,.slice aq ab ap]):=by unfold Hid;rw[<-aN];exact Bx.new w2 _ _
 have bH:Hid (Kp w2 w3):=by unfold Hid;rw[<-aN];exact(Kp.refl _).alloc _
 have H:=Lib.hid (K2.out.trans bH.out);have R:Hid (∀ W,Kp w3 W->(W.cell? ⟨w.heap.size,0,none⟩=some (.slice ax nx cx)/\W.cell? ⟨w.heap.size,1,none⟩=some (.slice ay ny cy))/\(W.cell? ⟨w2.heap.size,0,none⟩=some (.slice a N c)/\W.cell? ⟨w2.heap.size,1,none⟩=some (.int .i64 (i:Int))/\W.cell? ⟨w2.heap.size,2,none⟩=some (.slice an (aC K 0 i).length cn)/\W.cell? ⟨w2.heap.size,3,none⟩=some (.slice aq ab ap))):=λW d=>
  ⟨⟨(bR.out W (H.out.trans d)).cell 0,(bR.out W (H.out.trans d)).cell 1⟩,(aU.out.kp d).cell 0,(aU.out.kp d).cell 1,(aU.out.kp d).cell 2,(aU.out.kp d).cell 3⟩
 obtain⟨⟨c0,c1⟩,b0,b1,b2,b3⟩:=R.out w3 (Kp.refl _);have G:=Lib.hid (K1.out.trans H.out);have B:=Lib.hid (bM.out.kp bH.out);go_wp2_with fail;try rw[aN]
 clear aN;refine(b7.out w3 G.out _ _ B.out).mono ?_;rintro _ w4 ⟨⟨b,rfl,hb⟩,k4⟩;have K4:=Lib.hid k4;clear c0 c1 b0 b1 b2 b3 b7;cases b
 ·have bm:¬cg:=λh=>by cases hb.2 h
  have M:TE=2:=by rw[Q.out.1,if_pos bm]
  have HQ:Hid (TE=2/\TV=dI):=⟨M,by rw[Q.out.2,if_neg (by rw[M];decide)]⟩;have aK:=Lib.hid (P.out w4 (H.out.trans K4.out));have aE:=Lib.hid (G.out.trans K4.out);clear hb bm M k4;go_wp2_with(refine fv rfl rfl 47 (.tmp 12) (.tmp 43) rfl (w.heap.size+1) 47 _ #[.slice none 0 0,.slice none 0 0,.slice none 0 0,.slice none 0 0,.slice none 0 0] rfl rfl aK.out rfl jv eo ?_;intro wq ah gq ag)
  have af:=ag w aE.out (LM _);refine bodyPost_ret (fY rfl _ _ (w.heap.size+1) _ _ (0,0) _ _ rfl ah underlying47 rfl eo rfl) rfl ?_;rw[HQ.out.1,HQ.out.2];exact⟨⟨_,rfl,_,_,_,_,_,rfl,MIn.none _⟩,af⟩
 ·have L:cg:=hb.1 rfl
  have aJ:Hid (TE=(if E0≠0 then E0 else if jo p.step S0 (kM t i me) (ixS t i K).length then 0 else 5)):=by unfold Hid;rw[Q.out.1,if_neg (by rw[JN];exact L)]
  have HF:=Lib.hid L;obtain⟨_,b0,b1,b2,b3⟩:=R.out w4 K4.out;have aZ:=Lib.hid (bU.out w4 (G.out.trans K4.out) _ _ (B.out.kp K4.out));clear hb L k4 bU;go_wp2_with fail;refine aZ.out.mono ?_;rintro _ w5 ⟨rfl,k5⟩;have K5:=Lib.hid (K4.out.trans k5);clear k5 b0 b1 b2 b3 aZ;go_wp2_with fail;refine(ce.out w5 (G.out.trans K5.out)).mono ?_;rintro _ w6 ⟨⟨rfl,F⟩,k6⟩;have bG:=Lib.hid k6;have K6:=Lib.hid (K5.out.trans k6);have a1:=Lib.hid F;have aY:=Lib.hid (aS.out w6 (G.out.trans K6.out) _ _ _ (B.out.kp K6.out) F HF.out);obtain⟨⟨c0,c1⟩,b0,b1,b2,b3⟩:=R.out w6 K6.out;clear k6 F ce aS;go_wp2_with fail;refine aY.out.mono ?_;rintro _ w7 ⟨⟨rv,rfl,a2⟩,k7⟩;obtain⟨ar,nr,cr,rfl⟩:=aA a2;have bF:=Lib.hid k7;have K7:=Lib.hid (K6.out.trans k7);have cW:=Lib.hid a2;have aG:=Lib.hid (a1.out.kp k7);clear a2 k7 c0 c1 b0 b1 b2 b3 aY;by_cases ak:E0=0
  ·subst ak
   have aI:Hid (TE=(if jo p.step S0 (kM t i me) (ixS t i K).length then 0 else 5)):=by unfold Hid;rw[aJ.out,if_neg (by simp)]
   have bw:=cf.out rfl;obtain⟨_,b0,b1,b2,b3⟩:=R.out w7 K7.out;generalize bx:(aC K 0 i).length=PL at *;have c7:=Lib.hid bx;have ct:=bT.out;unfold maxLen at ct;clear aJ bx;have c2:=Lib.hid aG.out.nosolid;go_wp2_with fail;go_loopw[65] (λz wr=>∃ j:Nat,j<=PL/\z=.int .i64 (j:Int)/\KM prog 3 wr w5.heap.size own.length (λz=>z∈gJ own ((aC K 0 i).take j))/\aj (λg=>g=w5.heap.size) w7 wr) (λz _=>(PL - (intOf z).toNat))
   case atStart=>exact⟨0,IO _,rfl,by rw[ca.out];exact aG.out,aj.refl _ _⟩
   case round=>
    obtain⟨j,U,rfl,F,D⟩:=hrel;have aF:=Lib.hid F;have aD:=Lib.hid D;have cb:Hid (Cs w7 wr):=D.cs λg e=>by subst e;exact c2.out
    clear F D b0 b1 b2 b3;by_cases aQ:j<PL
    ·obtain⟨bn,on,rfl,_,hc⟩:=((B.out.kp K7.out).nodes.cs cb.out).at j aQ
     have c0:=hc j aQ;have HX:=Lib.hid (bb.out j aQ);have b8:=Lib.hid (bd.out j aQ);generalize (aC K 0 i).getD j 0=X at *;have hX:=HX.out;have br:Go.keyOf prog 3 (.int .i64 (X:Int))=some (.int .i64 (X:Int)):=keyOf_int_mk underlying3 (Ku (by omega));have i1:(j:Int)<(PL:Int):=by omega
     clear hc bd bb;go_wp2_with(at_delete;go_loud (refine DJ (e:=90) rfl (.tmp 69) (.tmp 70) 103 rfl fm underlying103 rfl aF.out (X:Int) rfl br ?_;intro A cA g9))
     have ck:aj (λg=>g=w5.heap.size) wr A:=⟨g9.os,g9.tape,g9.output,g9.size,λq hq hn=>g9.block q hq λe=>hn (by cases e;rfl)⟩;go_roundw
     case rel=>exact⟨j+1,by omega,by go_num,cA.congr (λz=>b8.out z),aD.out.next ck⟩
     case measure=>simp[intOf];omega
    ·obtain rfl:j=PL:=by omega
     have h1:¬(j:Int)<(j:Int):=by omega
     have aR:=aF.out;rw[b9.out] at aR;have c3:=Lib.hid aR;have cN:Hid (Kp w5 wr):=Kp.stepOld (bG.out.trans bF.out) aD.out (λg e=>by rw[e];exact IB _);have a6:=Lib.hid (K5.out.trans cN.out);have cM:=Lib.hid (G.out.trans a6.out);have a0:=Lib.hid (bV.out wr _ _ _ _ S0 cM.out.cs (B.out.kp a6.out) aR (cW.out.cs cb.out) bw HF.out);obtain⟨⟨c0,c1⟩,b0,b1,b2,b3⟩:=R.out wr a6.out;clear aR bV bd bb;go_wp2_with fail;refine a0.out.mono ?_;rintro _ A ⟨⟨rr,E,rfl,hl⟩,s9⟩;have cP:Hid (Kp w5 A):=Kp.stepOld (bG.out.trans bF.out) (aD.out.next s9) (λg e=>by rw[e];exact IB _);have O:=Lib.hid (K5.out.trans cP.out);clear c0 c1 b0 b1 b2 b3 a0 s9;rcases hl with⟨hh,rfl,hrd,hkm9⟩|⟨hh,rfl,hrd⟩
     ·have M:TE=0:=by rw[aI.out,if_pos hh]
      have HQ:=Lib.hid (IC M (Q.out.2.trans (if_pos M)));obtain⟨al,nl,cl,rfl⟩:=aA hrd;have cX:=Lib.hid hrd;have c4:=Lib.hid hkm9;clear M hh hrd hkm9;have au:=Lib.hid (G.out.trans O.out);have aX:=Lib.hid (B.out.kp O.out);have bW:=Lib.hid (λW (d:Kp A W)=>bX.out W _ _ (au.out.trans d).cs (aX.out.kp d) (cT.out.kp (au.out.trans d)) HF.out);have bO:=Lib.hid (λW (d:Kp A W)=>bP.out W w5.heap.size S0 (c4.out.kp d));have bI:Hid (w.heap.size+1<A.heap.size):=(Iz.1 (P.out A (H.out.trans O.out))).1;have be:Hid (∀ W,Kp A W->RZ (λk=>k=w.heap.size+1) W (.slice ax nx cx) p.pub/\SZ bJ (λk=>k=w.heap.size+1) W (.slice ay ny cy) p.step):=λW d=>
       ⟨⟨ba.out.pub.kp (au.out.trans d),mX (w:=w) ba.out.pub.inside λg e=>by omega⟩,((aH.old ba.out.step).mono λg e=>by show w.heap.size<=g;omega).kp (au.out.trans d)⟩
      have cc:=Lib.hid (λW (d:Kp A W)=>cd.out W (w.heap.size+1) (II bI.out d.size) (be.out W d).1 (be.out W d).2 HF.out);have u:=Lib.hid (λW (d:Kp A W)=>P.out W (H.out.trans (O.out.trans d)));have V:=Lib.hid (λW (d:Kp A W)=>R.out W (O.out.trans d));have c5:Hid (w.heap.size<w2.heap.size/\w.heap.size+1<w2.heap.size):=by
       have h5:=(Iz.1 (P.out w2 K2.out)).1;exact⟨by omega,h5⟩
      have cU:Hid (∀ W Z,Kp A W->aj (λg=>g=w.heap.size+1) W Z->(Z.cell? ⟨w.heap.size,0,none⟩=some (.slice ax nx cx)/\Z.cell? ⟨w.heap.size,1,none⟩=some (.slice ay ny cy))/\(Z.cell? ⟨w2.heap.size,0,none⟩=some (.slice a N c)/\Z.cell? ⟨w2.heap.size,1,none⟩=some (.int .i64 (i:Int))/\Z.cell? ⟨w2.heap.size,2,none⟩=some (.slice an j cn)/\Z.cell? ⟨w2.heap.size,3,none⟩=some (.slice aq ab ap))):=λW Z d I=>by
       obtain⟨⟨b0,cL⟩,cK,b3,b4,b5⟩:=V.out W d;have hg:=c5.out;exact⟨⟨I.cell b0 (λe=>by have h5:w.heap.size=w.heap.size+1:=e;omega),I.cell cL (λe=>by have h5:w.heap.size=w.heap.size+1:=e;omega)⟩,I.cell cK (λe=>by have h5:w2.heap.size=w.heap.size+1:=e;omega),I.cell b3 (λe=>by have h5:w2.heap.size=w.heap.size+1:=e;omega),I.cell b4 (λe=>by have h5:w2.heap.size=w.heap.size+1:=e;omega),I.cell b5 (λe=>by have h5:w2.heap.size=w.heap.size+1:=e;omega)⟩
      have KD:Hid (Kp A A.drew):=(Kp.refl A).drew;have bz:=Lib.hid (V.out _ KD.out);have bZ:Hid (∀ W Z (rt ro x' y':Value) (lo:List Sd) (lt:List Nod),Kp A W->NL W rt lt->GZ fu 90 (λg=>g<A.heap.size) W A.heap.size ro lo->RZ (λk=>k=w.heap.size+1) W x' p.pub->SZ bJ (λk=>k=w.heap.size+1) W y' p.step->aj (λg=>g=w.heap.size+1) W Z->MIn Z rt ro x' y' (.slice al nl cl) ⟨lt,lo,p,aV S0 ((ixS t i K).length - kM t i me)⟩):=λW Z rt ro x' y' lo lt d hn hg hx hy D=>by
       have cz:=xQ (u.out W d);have cq:∀ g,g=w.heap.size+1->bS W g:=λg e=>by
        subst e;exact bS.box (u.out W d) λj z U=>by
         match j with
         | 0=>cases U;exact λn e=>by cases e
         | 1=>cases U;exact λn e=>by cases e
         | 2=>cases U;exact λn e=>by cases e
         | 3=>cases U;exact λn e=>by cases e
         | 4=>cases U;exact λn e=>by cases e
         | j+5=>simp at U
       have db:=bI.out;exact⟨NL.sly hn cz D,(hg.step (Y:=λg=>g=w.heap.size+1) D (λg e=>.inl (by show g<A.heap.size;omega)) (λg cC e=>by have:=(hg.lt g cC).1;omega)).gl,⟨(hx.step D).1,((hy.step D).1).mono λ_ h=>h.elim⟩,(cX.out.kp d).step8 D cq⟩
      obtain⟨⟨t0,t1⟩,t2,t3,t4,t5⟩:=V.out A (Kp.refl _);clear bX bP cd P R bM B aX Q aI aF c3 a1 aG be b9 ca;go_wp2_with fail;go_region_held3 (λW=>(W.cell? ⟨w.heap.size,0,none⟩=some (.slice ax nx cx)/\W.cell? ⟨w.heap.size,1,none⟩=some (.slice ay ny cy))/\(W.cell? ⟨w2.heap.size,0,none⟩=some (.slice a N c)/\W.cell? ⟨w2.heap.size,1,none⟩=some (.int .i64 (i:Int))/\W.cell? ⟨w2.heap.size,2,none⟩=some (.slice an j cn)/\W.cell? ⟨w2.heap.size,3,none⟩=some (.slice aq ab ap)))
       (first|with_reducible exact bz.out|with_reducible exact S2.out|with_reducible exact S3.out|with_reducible exact S4.out|with_reducible exact S5.out|fail)
       (first
        | (go_at_call 72;refine(cc.out _ KV.out).mono ?_;rintro _ wc ⟨⟨vx,vy,rfl,bl,bk⟩,kc⟩;obtain⟨a8,n8,c8,rfl⟩:=aA bl.1;obtain⟨a9,n9,c9,rfl⟩:=SE.sl bk.1;have KC:Hid (Kp A wc):=KV.out.trans kc;have S4:=Lib.hid (V.out _ KC.out);have bN:=Lib.hid (IC bl bk);have bc:=Lib.hid (pF (u.out wc KC.out) (.slice bD bg bC) (.slice ao no co) (.slice a8 n8 c8) (.slice a9 n9 c9) (.slice al nl cl));have S5:=Lib.hid (cU.out wc _ KC.out bc.out.2.1);have cS:=Lib.hid (cQ.out.kp kc);have cZ:=Lib.hid (cY.out.kp kc);have C:=(u.out wc KC.out).there;have j0:=(u.out wc KC.out).cell 0;have j1:=(u.out wc KC.out).cell 1;have j2:=(u.out wc KC.out).cell 2;have j3:=(u.out wc KC.out).cell 3;have j4:=(u.out wc KC.out).cell 4;have f0:=(C 0 (by decide)).2;have f1:=(C 1 (by decide)).2;have f2:=(C 2 (by decide)).2;have f3:=(C 3 (by decide)).2;have f4:=(C 4 (by decide)).2;clear C;rw[JA] at f0 f1 f2 f3 f4;simp only[IJ,IF,IK] at j0 j1 j2 j3 j4)
        | (go_at_call 61;refine(bO.out _ KT.out).mono ?_;rintro _ wv ⟨⟨vo,lo,rfl,ch,cu,bt⟩,kv⟩;obtain rfl:=a7.out S0 lo ch cu;obtain⟨ao,no,co,rfl⟩:=SE.sl bt.gl;have KV:Hid (Kp A wv):=KT.out.trans kv;have S3:=Lib.hid (V.out _ KV.out);have cQ:=Lib.hid (cR.out.kp kv);have cY:=Lib.hid ((bt.solidly λg hg=>.inr (.inl (show g<wT.heap.size from II hg KT.out.size))).mono KT.out.size))
        | (go_at_call 60;refine(bW.out _ KD.out).mono ?_;rintro _ wT ⟨⟨rt,rfl,ht⟩,kT⟩;obtain⟨bD,bg,bC,rfl⟩:=ht.sl;have cR:=Lib.hid ht;have KT:Hid (Kp A wT):=KD.out.trans kT;have S2:=Lib.hid (V.out _ KT.out)))
      all_goals (
       obtain⟨wz,bi⟩:∃ x,((((wc.setCell ⟨w.heap.size+1,0,none⟩ (.slice bD bg bC)).setCell ⟨w.heap.size+1,1,none⟩ (.slice ao no co)).setCell ⟨w.heap.size+1,2,none⟩ (.slice a8 n8 c8)).setCell ⟨w.heap.size+1,3,none⟩ (.slice a9 n9 c9)).setCell ⟨w.heap.size+1,4,none⟩ (.slice al nl cl)=x:=⟨_,rfl⟩;have ae:=bc.out;rw[bi] at ae ⊢;have cV:=Lib.hid ae;have b6:=Lib.hid (bZ.out wc wz _ _ _ _ _ _ KC.out cS.out cZ.out bN.out.1 bN.out.2 ae.2.1);have bE:Hid (Kp w wz):=ae.2.2 w (au.out.trans KC.out) (LM _);clear ae bi bz S2 S3 S4 S5 bc j0 j1 j2 j3 j4 f0 f1 f2 f3 f4 t0 t1 t2 t3 t4 t5;go_wp2_with fail;refine bodyPost_ret (fY rfl _ _ (w.heap.size+1) _ _ (0,0) _ _ rfl cV.out.1 underlying47 rfl eo rfl) rfl ?_;rw[HQ.out.1,HQ.out.2];exact⟨⟨_,rfl,_,_,_,_,_,rfl,b6.out⟩,bE.out⟩)
     ·obtain⟨al,nl,cl,rfl⟩:=aA hrd
      have M:TE=5:=by rw[aI.out,if_neg hh]
      have HQ:Hid (TE=5/\TV=dI):=⟨M,by rw[Q.out.2,if_neg (by rw[M];decide)]⟩;have aK:=Lib.hid (P.out A (H.out.trans O.out));have aE:=Lib.hid (G.out.trans O.out);clear M hrd hh;go_wp2_with(refine fv rfl rfl 47 (.tmp 12) (.tmp 83) rfl (w.heap.size+1) 47 _ #[.slice none 0 0,.slice none 0 0,.slice none 0 0,.slice none 0 0,.slice none 0 0] rfl rfl aK.out rfl jv eo ?_;intro wq ah gq ag)
      have af:=ag w aE.out (LM _);refine bodyPost_ret (fY rfl _ _ (w.heap.size+1) _ _ (0,0) _ _ rfl ah underlying47 rfl eo rfl) rfl ?_;rw[HQ.out.1,HQ.out.2];exact⟨⟨_,rfl,_,_,_,_,_,rfl,MIn.none _⟩,af⟩
  ·have M:TE=E0:=by rw[aJ.out,if_pos ak]
   have HQ:Hid (TE=E0/\TV=dI):=⟨M,by rw[Q.out.2,if_neg (by rw[M];exact ak)]⟩;have aK:=Lib.hid (P.out w7 (H.out.trans K7.out));have aE:=Lib.hid (G.out.trans K7.out);have df:(E0==0)=false:=ID.2 ak;have de:(E0 != 0)=true:=Ki.2 ak;clear M;go_wp2_with(refine fv rfl rfl 47 (.tmp 12) (.tmp 60) rfl (w.heap.size+1) 47 _ #[.slice none 0 0,.slice none 0 0,.slice none 0 0,.slice none 0 0,.slice none 0 0] rfl rfl aK.out rfl jv eo ?_;intro wq ah gq ag)
   have af:=ag w aE.out (LM _);refine bodyPost_ret (fY rfl _ _ (w.heap.size+1) _ _ (0,0) _ _ rfl ah underlying47 rfl eo rfl) rfl ?_;rw[HQ.out.1,HQ.out.2];exact⟨⟨_,rfl,_,_,_,_,_,rfl,MIn.none _⟩,af⟩

import Derived.Test.YthmhklmkgkfcpaaGreatDoorW27
import Derived.Test.YthmhklmkgkfcpaaGreatDoorW30
import Derived.Test.YthmhklmkgkfcpaaGreatDoorW31
set_option linter.all false
set_option maxHeartbeats 8000000
set_option maxRecDepth 100000
namespace Go.Proofs.YthmhklmkgkfcpaaGreatDoor
open Go.Proofs.Tryz Go.RowKit
variable {f:List Se}{l:List Nat}{w w':World}
theorem sY {own:List Sd}{info:List UInt8}:∀ (who:List Int) (f:List Se) (k:Nat),k<=who.length->(∀ j,j<k->(bH own (who.getD j 0)).length=0)->em own info who f=em own info (who.drop k) (f.drop k)
 | who,f,0,_,_=>by rw[List.drop_zero,List.drop_zero]
 | [],f,k+1,h,_=>absurd h (Nat.not_succ_le_zero _)
 | y :: l,f,k+1,h,hp=>by
  have h0:(bH own y).length=0:=hp 0 (Nat.succ_pos _)
  have e:em own info (y :: l) f=em own info l f.tail:=by
   show(if (bH own y).length=0 then _ else _)=_
   rw[if_pos h0]
  rw[e,sY l f.tail k (Nat.le_of_succ_le_succ h) λj hj=>hp (j+1) (Nat.succ_lt_succ hj)]
  congr 1
  cases f with
  | nil=>simp
  | cons a f=>rfl
theorem Ib {own:List Sd}{info:List UInt8}{who:List Int}{k:Nat}(a:k<who.length)(g:f.length=who.length)(c:∀ j,j<k->(bH own (who.getD j 0)).length=0)(h:(bH own (who.getD k 0)).length≠0):
  em own info who f=if (aM f k).half.length≠32 then ([],5)
   else if unE (bH own (who.getD k 0)) (aM f k).half info (aM f k).b≠0 then ([],unE (bH own (who.getD k 0)) (aM f k).half info (aM f k).b)
   else if (unR (bH own (who.getD k 0)) (aM f k).half info (aM f k).b).length≠32 then ([],2)
   else (unR (bH own (who.getD k 0)) (aM f k).half info (aM f k).b,0):=by
 rw[sY who f k (by omega) c];have e:who.drop k=who.getD k 0 :: who.drop (k+1):=by
  rw[Kv a,IU,IV a];rfl
 have d:f.drop k=aM f k :: f.drop (k+1):=by
  unfold aM;rw[Kv (by omega),IU,IV (by omega)];rfl
 rw[e,d];show(if (bH own (who.getD k 0)).length=0 then _ else _)=_
 rw[if_neg h];rfl
theorem Ic {own:List Sd}{info:List UInt8}{who:List Int}(a:∀ j,j<who.length->(bH own (who.getD j 0)).length=0):em own info who f=([],5):=by
 rw[sY who f who.length (Ja _) a,MJ];rfl
section
open Go.Maps
theorem Id {own:List Sd}(h:srt own){s:Sd}(b:s∈own):bH own s.node=s.seed:=by
 induction own with
 | nil=>cases b
 | cons a l ih=>
  unfold bH
  rcases Ki.1 b with e|e
  ·rw[e,if_pos rfl]
  ·have:=(Lt.1 h).1 s e
   rw[if_neg (by omega)]
   exact ih (Lt.1 h).2 e
theorem Ie {own:List Sd}{x:Int}(h:∀ s∈own,s.node≠x):bH own x=[]:=by
 induction own with
 | nil=>rfl
 | cons a l ih=>
  unfold bH
  rw[if_neg (h a (by simp))]
  exact ih λs b=>h s (by simp[b])
theorem If (aa n s x y vi:Value)(t:List Nod)(K i k m aD:Nat)(own:List Sd)(info:List UInt8)(p:Pa)(w:World)(hu:WIn w aa n s t K i)(hm:KM prog 3 w m aD (λy=>y∈own))(al:srt own)(ay:∀ s∈own,s.seed.length=32)(hi:Rd w vi info)(Z:PIn w x y p)
  (hk:k<(ixS t i K).length) (Y:p.step.length=(ixS t i K).length) (B:(aC p.step k).fors.length=((aU t i K).getD k []).length) (av:∀ j,j<((aU t i K).getD k []).length->0<=((aU t i K).getD k []).getD j 0/\((aU t i K).getD k []).getD j 0<=1000000) (ar:info.length<=1400) (aw:∀ j,(aM (aC p.step k).fors j).b.length<=1600):
  Calls prog 70 #[.agg #[aa,.int .i64 (i:Int),n,s],.int .i64 (k:Int),.map (some m),vi,.agg #[x,y]] w λe w'=>
   (∃ r,e=.returned (.tuple #[r,.int .i64 (em own info ((aU t i K).getD k []) (aC p.step k).fors).2])/\Rd w' r (em own info ((aU t i K).getD k []) (aC p.step k).fors).1)/\Kp w w':=by
 obtain⟨gs,os,cs,q,e1,_,c0,c1,rq⟩:=aL.sp (i:=k) hu.steps (by rw[ik];exact hk);rw[kE hk] at rq c0;dsimp only at rq c0
 obtain⟨gp,op,J,pv,qv,e2,_,ao⟩:=eo.nodeK (i:=k) Z.step (by rw[Y];exact hk);obtain⟨d0,d1,rp,rf⟩:=ao w (Kp.refl _);have T:=ik t i K;rw[T] at e1;rw[Y] at e2;subst e1 e2;generalize (aU t i K).getD k []=who at *;generalize (aA t i K).getD k 0=X at *;generalize (ixS t i K).length=M at *;generalize (aC p.step k).fors=G at *;have c:=Lib.hid (λj hj Z h=>show em own info who G=lY (bH own (who.getD j 0)) info (aM G j).half (aM G j).b from Ib (own:=own) (info:=info) (who:=who) (f:=G) (k:=j) hj B Z h);have a:=Lib.hid (λZ=>Ic (own:=own) (info:=info) (who:=who) (f:=G) Z);have ak:=Lib.hid (λs (hs:s∈own)=>Jb (Id al hs) (ay s hs));have aj:=Lib.hid (λx (h:∀ s∈own,s.node≠x)=>Ie h);have O:=Lib.hid (λW (v x y:Value) (seed half b:List UInt8) (d:Kp w W) (h1:Rd W v seed) (h2:Rd W x half) (h3:Rd W y b) hb=>FG v vi x y seed info half b W h1 (hi.kp d) h2 h3 ar hb);have HM:=Lib.hid hm;have aG:=Lib.hid rq;have aH:=Lib.hid rf;have E:=Lib.hid av;have P:=Lib.hid aw;have HC:=Lib.hid (λW (d:Kp w W)=>Jb (d.cell c1) (d.cell d1));obtain⟨au,nu,cu,rfl⟩:=hu.tree.sl;obtain⟨an,nn,cn,rfl⟩:=hu.nodes.sl;obtain⟨ax,nx,cx,rfl⟩:=az Z.pub;obtain⟨ai,ni,ci,rfl⟩:=az hi;obtain⟨aq,cq,rfl,p1,s1⟩:=rq.shape;obtain⟨af,cf,rfl,aV,s3⟩:=SE.shape rf;generalize em own info who G=L at *;obtain⟨N,hN⟩:∃ N,who.length=N:=⟨_,rfl⟩;rw[B] at aV;rw[hN] at p1 aV aG c a E;have aJ:Hid (G.length=N):=B.trans hN;have i0:¬(k:Int)<0:=by omega
 have i3:(k:Int)<(M:Int):=by omega
 clear hu hm al ay hi Z Y av ar aw ao rp rf rq c0 c1 d0 d1 T;rw[B,hN] at aH HC;unfold maxLen at s1;clear B hN;go_enter func70,ntmps70;have e9:(w.alloc (.cells #[.slice au nu cu,.int .i64 (i:Int),.slice an nn cn,.slice (some ⟨gs,os,none⟩) M cs] 95)).heap.size=w.heap.size+1:=Jn _ _;obtain⟨w1,o⟩:∃ w1,(w.alloc (.cells #[.slice au nu cu,.int .i64 (i:Int),.slice an nn cn,.slice (some ⟨gs,os,none⟩) M cs] 95)).alloc (.cells #[.slice ax nx cx,.slice (some ⟨gp,op,none⟩) M J] 27)=w1:=⟨_,rfl⟩;have C:Hid (Kp w w1):=by unfold Hid;rw[<-o];exact((Kp.refl _).alloc _).alloc _
 have HB:Hid (Bx w1 (w.heap.size+1) 27 #[.slice ax nx cx,.slice (some ⟨gp,op,none⟩) M J]):=by
  unfold Hid;have:=Bx.new (w.alloc (.cells #[.slice au nu cu,.int .i64 (i:Int),.slice an nn cn,.slice (some ⟨gs,os,none⟩) M cs] 95)) 27 #[.slice ax nx cx,.slice (some ⟨gp,op,none⟩) M J];rw[e9] at this;rw[<-o];exact this
 have c3:=(HC.out ((w.alloc (.cells #[.slice au nu cu,.int .i64 (i:Int),.slice an nn cn,.slice (some ⟨gs,os,none⟩) M cs] 95)).alloc (.cells #[.slice ax nx cx,.slice (some ⟨gp,op,none⟩) M J] 27)) (by rw[o];exact C.out)).1;have aF:=Lib.hid o;clear o e9;go_wp2_with fail;rw[aF.out];clear aF c3;go_loopw[25] (λx wr=>∃ j:Nat,j<=N/\x=.int .i64 (j:Int)/\(∀ z,z<j->(bH own (who.getD z 0)).length=0)/\Kp w1 wr) (λx _=>(N - (intOf x).toNat))
 case atStart=>exact⟨0,Jl _,rfl,λz h=>by omega,Kp.refl _⟩
 case round=>
  obtain⟨j,hj,rfl,R,ap⟩:=hrel;have D:=Lib.hid R;have l:=Lib.hid ap;clear R ap;by_cases u:j<N
  ·obtain⟨gq,oq,rfl,_,ae⟩:=(aG.out.kp (C.out.trans l.out)).at j u
   have aB:=ae j u;have Q:=E.out j u;obtain⟨X,hX⟩:∃ X,who.getD j 0=X:=⟨_,rfl⟩;rw[hX] at aB Q;obtain⟨v1,v2⟩:=Q;have i1:IntKind.i64.wrap ((j:Int)+1)=(j:Int)+1:=IW _ (by omega);have i4:(j:Int)<(N:Int):=by omega
   have A:Go.keyOf prog 3 (.int .i64 X)=some (.int .i64 X):=keyOf_int_mk underlying3 (Ln (by omega));have aI:Hid (KM prog 3 wr m aD (λy=>y∈own)):=HM.out.kp (C.out.trans l.out);by_cases ad:∃ s∈own,s.node=X
   ·obtain⟨⟨SN,SS⟩,V,H⟩:=ad
    dsimp only at H
    obtain⟨f1,f2⟩:=ak.out ⟨SN,SS⟩ V;dsimp only at f1 f2
    obtain⟨gf,of,aP,ph,pb,e3,_,S⟩:=EL.nodeK (i:=j) aH.out (by rw[aJ.out];exact u);rw[aJ.out] at e3;simp only[Ji] at e3;obtain⟨rfl,_,rfl⟩:=e3;have HX:Hid (L=lY SS info (aM G j).half (aM G j).b):=by
     have:=c.out j u D.out (by rw[hX,<-H,f1,f2];decide);rw[hX,<-H,f1] at this;exact this
    have g:=Lib.hid S;have aR:=Lib.hid (P.out j);have U:=Lib.hid (λW (d:Kp wr W) (q:Value) (hq:Rd wr q SS)=>O.out W q ph pb SS (aM G j).half (aM G j).b ((C.out.trans l.out).trans d) (hq.kp d) (g.out W ((C.out.trans l.out).trans d)).2.2.1 (g.out W ((C.out.trans l.out).trans d)).2.2.2 aR.out);rw[<-HX.out] at U;obtain⟨ah,nh,ch,rfl⟩:=az (g.out w (Kp.refl _)).2.2.1;obtain⟨ab,nb,cb,rfl⟩:=az (g.out w (Kp.refl _)).2.2.2;have F:=Lib.hid (λW (d:Kp wr W)=>Jb ((HB.out.kp (l.out.trans d)).cell 1) (Jb (HC.out W ((C.out.trans l.out).trans d)).2 (Jb (g.out W ((C.out.trans l.out).trans d)).1 (g.out W ((C.out.trans l.out).trans d)).2.1)));have aE:Hid (Kp w wr):=C.out.trans l.out;have zs:=kN wr;subst H;clear hX HX c a O E P ak aj ae D f1 f2 S;go_wp2_with(at_lookup;go_loud (refine wX (e:=90) rfl _ _ 103 rfl fO underlying103 zs rfl aI.out ⟨SN,SS⟩ V rfl A ?_;intro q hq;obtain⟨aq,nq,ag,rfl⟩:=az hq;dsimp only [sdV]))
    obtain⟨WQ,I⟩:∃ x,wr.alloc (.cells #[.int .i64 SN,.slice aq nq ag] 90)=x:=⟨_,rfl⟩;have KQ:Hid (Kp wr WQ):=by unfold Hid;rw[<-I];exact(Kp.refl _).alloc _
    have aS:WQ.cell? ⟨wr.heap.size,1,none⟩=some (.slice aq nq ag):=by
     have:=(Bx.new wr 90 #[.int .i64 SN,.slice aq nq ag]).cell 1;rw[<-I];simp
    obtain⟨aO,aW,aT,aP⟩:=F.out WQ KQ.out;simp only[Jj,Jg,Jk] at aO;have HQ:=Lib.hid hq;rw[I];clear I F hq zs A aB V;go_region_with (first
     | (go_at_call 120;refine(U.out _ (by first|exact KQ.out|exact KQ.out.drew) _ HQ.out).mono ?_;rintro _ w9 ⟨⟨r9,rfl,o9⟩,k9⟩;obtain⟨a9,aN,aQ,rfl⟩:=az o9;have aK:Hid (Rd w9 (.slice a9 aN aQ) L.1/\Kp w w9):=⟨o9,(aE.out.trans (by first|exact KQ.out|exact KQ.out.drew)).trans k9⟩))
    all_goals (
     go_wp2_with fail;go_ret2;exact⟨⟨_,rfl,aK.out.1⟩,aK.out.2⟩)
   ·have am:∀ s∈own,s.node≠X:=λs h e=>ad ⟨s,h,e⟩
    have HP:Hid (∀ z,z<j+1->(bH own (who.getD z 0)).length=0):=λz hz=>by
     rcases JC (JN.1 hz) with h3|h3
     ·exact D.out z h3
     ·rw[h3,hX,aj.out X am];rfl
    have zs:=kN wr;clear hX c a O E P ak aj ae D ad;go_wp2_with(at_lookup;go_loud (refine wY (e:=90) rfl _ _ 103 rfl fO underlying103 zs rfl aI.out X am rfl A ?_))
    go_roundw
    case rel=>exact⟨j+1,by omega,by first|rfl|(rw[i1];rfl),HP.out,l.out.alloc _⟩
    case measure=>simp[intOf];omega
  ·obtain rfl:j=N:=by omega
   have h1:¬(j:Int)<(j:Int):=by omega
   have HX:=Lib.hid (a.out D.out);have HF:Hid ((∃ r,Ending.returned (.tuple #[Value.slice none 0 0,.int .i64 5])=.returned (.tuple #[r,.int .i64 L.2])/\Rd wr r L.1)/\Kp w wr):=by rw[HX.out];exact⟨⟨_,rfl,cL _⟩,C.out.trans l.out⟩
   clear HX a c O E P;go_wp2_with fail;go_ret2;exact HF.out
end
theorem Ig (aa n s x y:Value)(t:List Nod)(K i:Nat)(p:Pa)(w:World)(U:WIn w aa n s t K i)(hp:PIn w x y p):
  Calls prog 68 #[.agg #[aa,.int .i64 (i:Int),n,s],.agg #[x,y]] w λe w'=>aR e (fx (aU t i K) p)/\Kp w w':=by
 have ah:=Lib.hid U.steps;have HS:=Lib.hid hp.step;obtain⟨aj,X⟩:=fY t i K;have G:=ik t i K;have u:=Lib.hid (λa (h:a<(ixS t i K).length)=>kE (t:=t) (i:=i) (m:=K) h);obtain⟨au,nu,cu,rfl⟩:=U.tree.sl;obtain⟨an,nn,cn,rfl⟩:=U.nodes.sl;obtain⟨af,ae,rfl,q5,q6⟩:=SE.shape U.steps;obtain⟨ap,cp,rfl,q1,q2⟩:=hp.pub.shape;obtain⟨a6,c6,rfl,q3,q4⟩:=SE.shape hp.step;unfold maxLen at q6;generalize aU t i K=who at *;have g:Hid (p.step.length≠who.length->¬fx who p):=λh e=>h e.1
 have D:Hid (p.pub.length≠32->¬fx who p):=λh e=>h e.2.1
 have f:Hid (∀ k,k<who.length->(aC p.step k).fors.length≠(ii who k).length->¬fx who p):=λk hk h e=>h (e.2.2 k hk).1
 have d:Hid (∀ k,k<who.length->(aC p.step k).pub.length≠32->¬fx who p):=λk hk h e=>h (e.2.2 k hk).2
 have O:Hid (p.step.length=who.length->p.pub.length=32->(∀ k,k<who.length->(aC p.step k).fors.length=(ii who k).length/\(aC p.step k).pub.length=32)->fx who p):=λh1 h2 h3=>⟨h1,h2,h3⟩
 generalize fx who p=P at *;generalize p.pub.length=L at *;generalize p.step=A at *;obtain⟨M,hM⟩:∃ N,A.length=N:=⟨_,rfl⟩;generalize (ixS t i K).length=N at *;have HM:=Lib.hid hM;have ai:=Lib.hid G;rw[G] at q5 ah ⊢;rw[X] at g f d O;rw[hM] at q3 g O HS ⊢;generalize cW t i K=SP at *;generalize aA t i K=ST at *;clear U hp hM aj X G;by_cases ad:L=32
 ·subst ad
  by_cases ab:M=N
  ·subst ab
   have ag:=Lib.hid (O.out rfl rfl);clear g D O;go_enter func68,ntmps68;go_wp2_with fail;obtain⟨R,B⟩:∃ R,(w.alloc (.cells #[.slice au nu cu,.int .i64 (i:Int),.slice an nn cn,.slice af M ae] 95)).alloc (.cells #[.slice ap 32 cp,.slice a6 M c6] 27)=R:=⟨_,rfl⟩;have HB:Hid (Bx R w.heap.size 95 #[.slice au nu cu,.int .i64 (i:Int),.slice an nn cn,.slice af M ae]):=by unfold Hid;rw[<-B];exact(Bx.new w _ _).kp ((Kp.refl _).alloc _)
   have K1:Hid (Kp w R):=by unfold Hid;rw[<-B];exact((Kp.refl _).alloc _).alloc _
   rw[B];clear B;go_loopw[23] (λi wr=>∃ k:Nat,k<=M/\i=.int .i64 (k:Int)/\(∀ j,j<k->(aC A j).fors.length=(ii who j).length/\(aC A j).pub.length=32)/\Kp R wr) (λi _=>(M - (intOf i).toNat))
   case atStart=>exact⟨0,Jl _,rfl,λt h=>by omega,Kp.refl _⟩
   case round=>
    obtain⟨k,hk,rfl,E,Y⟩:=hrel;have C:=Lib.hid E;have J:=Lib.hid Y;clear E Y;by_cases q:k<M
    ·obtain⟨gs,os,cs,pv,qv,e1,_,V⟩:=eo.nodeK (i:=k) HS.out (by rw[HM.out];exact q)
     obtain⟨c0,c1,rp,rf⟩:=V wr (K1.out.trans J.out);obtain⟨gu,ou,am,qu,e2,_,c3,c2,rw⟩:=aL.sp (i:=k) (aL.kp ah.out (K1.out.trans J.out)) (by rw[ai.out];exact q);rw[HM.out] at e1;rw[ai.out] at e2;simp only[Ji] at e1 e2;obtain⟨rfl,_,rfl⟩:=e1;obtain⟨rfl,_,rfl⟩:=e2;rw[u.out k q] at rw;have T:RI wr qu (ii who k):=rw;have i1:IntKind.i64.wrap ((k:Int)+1)=(k:Int)+1:=IW _ (by omega);have i3:(k:Int)<(M:Int):=by omega
     obtain⟨a7,b7,rfl,r1,r2⟩:=rp.shape;obtain⟨a8,b8,rfl,r3,r4⟩:=SE.shape rf;obtain⟨a9,b9,rfl,r5,r6⟩:=T.shape;have H3:=Lib.hid (f.out k q);have H4:=Lib.hid (d.out k q);have c:Hid ((aC A k).fors.length=(ii who k).length->(aC A k).pub.length=32->∀ j,j<k+1->(aC A j).fors.length=(ii who j).length/\(aC A j).pub.length=32):=λh1 h2 j ak=>by
      rcases JC (JN.1 ak) with h6|h6
      ·exact C.out j h6
      ·rw[h6];exact⟨h1,h2⟩
     generalize (aC A k).fors.length=Q at *;generalize (ii who k).length=WN at *;generalize (aC A k).pub.length=I at *;clear rf rp rw T f d C r1 r3 r5 V u;go_wp2_with fail;obtain⟨wb,z⟩:∃ x,wr.alloc (.cells #[.slice a7 I b7,.slice a8 Q b8] 74)=x:=⟨_,rfl⟩;have H:Bx wb wr.heap.size 74 #[.slice a7 I b7,.slice a8 Q b8]:=by rw[<-z];exact Bx.new wr _ _
     have KB:Hid (Kp wr wb):=by unfold Hid;rw[<-z];exact(Kp.refl _).alloc _
     rw[z];have e4:=H.cell 0;have e5:=H.cell 1;have e6:=(HB.out.kp (J.out.trans KB.out)).cell 3;have e7:=KB.out.cell c2;simp only[Jj,Jg,Jk] at e4 e5 e6;clear H z c0 c1 c2 c3;by_cases Z:I=32
     ·subst Z
      by_cases hF:Q=WN
      ·subst hF
       have r:=Lib.hid (c.out rfl rfl);clear c H3 H4;go_region
       go_wp2_with fail;go_roundw
       case rel=>exact⟨k+1,by omega,by first|rfl|(rw[i1];rfl),r.out,(J.out.trans KB.out).drew⟩
       case measure=>simp[intOf];omega
      ·have r:=Lib.hid (H3.out hF)
       have F:((Q:Int)==(WN:Int))=false:=Jd.2 (by omega);have o:((Q:Int) != (WN:Int))=true:=KX.2 (by omega);have l:¬(Q:Int)=(WN:Int):=by omega
       clear c H3 H4;go_region
       go_wp2_with fail;go_ret;exact⟨aR.no r.out,((K1.out.trans J.out).trans KB.out).drew⟩
     ·have r:=Lib.hid (H4.out Z)
      have F:((I:Int)==32)=false:=Jd.2 (by omega);have o:((I:Int) != 32)=true:=KX.2 (by omega);have l:¬(I:Int)=32:=by omega
      clear c H3 H4 e5 e6 e7;refine wp_region_held_drew (S:=λW=>W.cell? ⟨wr.heap.size,0,none⟩=some (.slice a7 I b7)) (by kernel_rfl) (e4) (λal=>?_);refine wpAnyH_take (i:=0) (oi:=⟨some 28,_,_,_,_,_⟩) (v:=?_) rfl (by kernel_rfl) (by kernel_rfl) (by kernel_rfl) (λ_ _ _ h=>h) (Lp ⟨by kernel_rfl,?_⟩) (by assumption) ?_;rotate_left;focus ((intro w b;(try dsimp only at b);go_simp);(try with_reducible rfl);done)
      simp only[Act.put,IY,Je,Jf];refine wpAnyH_take (i:=1) (oi:=⟨some 29,_,_,_,_,_⟩) (v:=?_) rfl (by kernel_rfl) (by kernel_rfl) (by kernel_rfl) (λ_ _ _ h=>h) (Lp ⟨by kernel_rfl,?_⟩) (by assumption) ?_;rotate_left;focus ((intro w b;(try dsimp only at b);go_simp);(try with_reducible rfl);done)
      simp only[Act.put,IY,Je,Jf];refine wpAnyH_take (i:=2) (oi:=⟨some 30,_,_,_,_,_⟩) (v:=?_) rfl (by kernel_rfl) (by kernel_rfl) (by kernel_rfl) (λ_ _ _ h=>h) (Lp ⟨by kernel_rfl,?_⟩) (by assumption) ?_;rotate_left;focus ((intro w b;(try dsimp only at b);go_simp);(try with_reducible rfl);done)
      simp only[Act.put,IY,Je,Jf];refine wpAnyH_take (i:=3) (oi:=⟨some 31,_,_,_,_,_⟩) (v:=?_) rfl (by kernel_rfl) (by kernel_rfl) (by kernel_rfl) (λ_ _ _ h=>h) (Lp ⟨by kernel_rfl,?_⟩) (by assumption) ?_;rotate_left;focus ((intro w b;(try dsimp only at b);go_simp);(try with_reducible rfl);done)
      simp only[Act.put,IY,Je,Jf];refine wpAnyH_take (i:=4) (oi:=⟨some 32,_,_,_,_,_⟩) (v:=?_) rfl (by kernel_rfl) (by kernel_rfl) (by kernel_rfl) (λ_ _ _ h=>h) (Lp ⟨by kernel_rfl,?_⟩) (by assumption) ?_;rotate_left;focus ((intro w b;(try dsimp only at b);go_simp);(try with_reducible rfl);done)
      simp only[Act.put,IY,Je,Jf];refine wpAnyH_take (i:=5) (oi:=⟨some 33,_,_,_,_,_⟩) (v:=undef) rfl (by kernel_rfl) (by kernel_rfl) (by kernel_rfl) (λ_ _ _ h=>h) (Lc ⟨by kernel_rfl,rfl⟩) (by assumption) ?_;simp only[Act.put,IY,Je,Jf];refine wpAnyH_take (i:=6) (oi:=⟨some 34,_,_,_,_,_⟩) (v:=undef) rfl (by kernel_rfl) (by kernel_rfl) (by kernel_rfl) (λ_ _ _ h=>h) (Lc ⟨by kernel_rfl,rfl⟩) (by assumption) ?_;simp only[Act.put,IY,Je,Jf];refine wpAnyH_take (i:=7) (oi:=⟨some 35,_,_,_,_,_⟩) (v:=undef) rfl (by kernel_rfl) (by kernel_rfl) (by kernel_rfl) (λ_ _ _ h=>h) (Lc ⟨by kernel_rfl,rfl⟩) (by assumption) ?_;simp only[Act.put,IY,Je,Jf];refine wpAnyH_take (i:=8) (oi:=⟨some 36,_,_,_,_,_⟩) (v:=undef) rfl (by kernel_rfl) (by kernel_rfl) (by kernel_rfl) (λ_ _ _ h=>h) (Lc ⟨by kernel_rfl,rfl⟩) (by assumption) ?_;simp only[Act.put,IY,Je,Jf];refine wpAnyH_take (i:=9) (oi:=⟨some 37,_,_,_,_,_⟩) (v:=undef) rfl (by kernel_rfl) (by kernel_rfl) (by kernel_rfl) (λ_ _ _ h=>h) (Lc ⟨by kernel_rfl,rfl⟩) (by assumption) ?_;simp only[Act.put,IY,Je,Jf];refine wpAnyH_take (i:=10) (oi:=⟨some 38,_,_,_,_,_⟩) (v:=undef) rfl (by kernel_rfl) (by kernel_rfl) (by kernel_rfl) (λ_ _ _ h=>h) (Lc ⟨by kernel_rfl,rfl⟩) (by assumption) ?_;simp only[Act.put,IY,Je,Jf];refine wpAnyH_take (i:=11) (oi:=⟨some 39,_,_,_,_,_⟩) (v:=undef) rfl (by kernel_rfl) (by kernel_rfl) (by kernel_rfl) (λ_ _ _ h=>h) (Lc ⟨by kernel_rfl,rfl⟩) (by assumption) ?_;simp only[Act.put,IY,Je,Jf];refine wpAnyH_take (i:=12) (oi:=⟨some 40,_,_,_,_,_⟩) (v:=undef) rfl (by kernel_rfl) (by kernel_rfl) (by kernel_rfl) (λ_ _ _ h=>h) (Lc ⟨by kernel_rfl,rfl⟩) (by assumption) ?_;simp only[Act.put,IY,Je,Jf];refine wpAnyH_take (i:=13) (oi:=⟨some 41,_,_,_,_,_⟩) (v:=undef) rfl (by kernel_rfl) (by kernel_rfl) (by kernel_rfl) (λ_ _ _ h=>h) (Lc ⟨by kernel_rfl,rfl⟩) (by assumption) ?_;simp only[Act.put,IY,Je,Jf];refine wpAnyH_take (i:=14) (oi:=⟨some 42,_,_,_,_,_⟩) (v:=undef) rfl (by kernel_rfl) (by kernel_rfl) (by kernel_rfl) (λ_ _ _ h=>h) (Lc ⟨by kernel_rfl,rfl⟩) (by assumption) ?_;simp only[Act.put,IY,Je,Jf];refine wpAnyH_take (i:=15) (oi:=⟨some 43,_,_,_,_,_⟩) (v:=undef) rfl (by kernel_rfl) (by kernel_rfl) (by kernel_rfl) (λ_ _ _ h=>h) (Lc ⟨by kernel_rfl,rfl⟩) (by assumption) ?_;simp only[Act.put,IY,Je,Jf];refine wpAnyH_take (i:=16) (oi:=⟨some 44,_,_,_,_,_⟩) (v:=?_) rfl (by kernel_rfl) (by kernel_rfl) (by kernel_rfl) (λ_ _ _ h=>h) (Lp ⟨by kernel_rfl,?_⟩) (by assumption) ?_;rotate_left;focus ((intro w b;(try dsimp only at b);go_simp);(try with_reducible rfl);done)
      simp only[Act.put,IY,Je,Jf];refine wpAnyH_done (by kernel_rfl) ?_ _;go_wp2_with fail;go_ret;exact⟨aR.no r.out,((K1.out.trans J.out).trans KB.out).drew⟩
    ·obtain rfl:k=M:=by omega
     have h1:¬(k:Int)<(k:Int):=by omega
     have r:=Lib.hid (ag.out C.out);clear ag C f d u;go_wp2_with fail;go_ret;exact⟨aR.yes r.out,K1.out.trans J.out⟩
  ·have r:=Lib.hid (g.out ab)
   have F:((M:Int)==(N:Int))=false:=Jd.2 (by omega);have o:((M:Int) != (N:Int))=true:=KX.2 (by omega);have l:¬(M:Int)=(N:Int):=by omega
   clear g D f d O u;go_enter func68,ntmps68;go_wp2_with fail;go_ret;exact⟨aR.no r.out,((Kp.refl _).alloc _).alloc _⟩
 ·have r:=Lib.hid (D.out ad)
  have F:((L:Int)==32)=false:=Jd.2 (by omega);have o:((L:Int) != 32)=true:=KX.2 (by omega);have l:¬(L:Int)=32:=by omega
  clear g D f d O u;go_enter func68,ntmps68;go_wp2_with fail;go_ret;exact⟨aR.no r.out,((Kp.refl _).alloc _).alloc _⟩
theorem Iu {t:List Nod}{K i me:Nat}{own:List Sd}(c:aD t K)(f:(ats t (2*i)).kind=1)(a:i≠me)(h:er t K (me:Int) own):
  kM t i me<(aA t i K).length/\(aA t i K).getD (kM t i me) 0=coN i me/\∀ j,j<kM t i me->(aA t i K).getD j 0≠coN i me:=by
 have b:=(c.there_iff me).1 h.1;have l:=c.len2;have m:i<2 ^ K:=by have:=aD.lt_of (t:=t) (x:=2*i) (by rw[f];decide);omega
 have k:me<2 ^ K:=by have:=aD.lt_of (t:=t) (x:=2*me) (by rw[b];decide);omega
 obtain⟨p,o,_,_⟩:=nN c.le m k a;obtain⟨y,r,q⟩:=rO c m b k a h;obtain⟨w,v,u,g⟩:=rQ (K:=K) ⟨p,o⟩ (Mz r);have z:=(fY t i K).1;refine⟨by omega,g,λj s e=>?_⟩;have d:=lP t i K;have n:(aA t i K).getD j 0=(aA t i K).getD (kM t i me) 0:=e.trans g.symm;rw[IU,IU,IV (by omega),IV (by omega)] at n;exact JU.1 d j (kM t i me) (by omega) (by omega) s n
theorem IS {a b:Nat}:(l.drop a).getD b 0=l.getD (a+b) 0:=by
 rw[IU,IU,LJ]
section
open Go.Maps
theorem RN.cs {v:Value}(h:RN w v l)(k:Cs w w'):RN w' v l:=h.stepF k.step λx n c e b a=>a ((RN.ri h).solid x n c e b)
theorem PIn.cs {x y:Value}{p:Pa}(h:PIn w x y p)(k:Cs w w'):PIn w' x y p:=⟨h.pub.cs k,aL.cs h.step k⟩
theorem ze (own:List Sd)(info:List UInt8):∀ (who:List Int) (f:List Se),(em own info who f).2=0->(em own info who f).1.length=32
 | [],f=>λh=>by unfold em at h;cases h
 | y :: l,f=>λh=>by
  unfold em at h ⊢
  split at h
  ·rename_i h0
   rw[if_pos h0]
   exact ze own info l f.tail h
  ·rename_i h0
   rw[if_neg h0]
   split at h
   ·cases h
   ·rename_i h1
    rw[if_neg h1]
    split at h
    ·rename_i h2;exact absurd h h2
    ·rename_i h2
     rw[if_neg h2]
     split at h
     ·cases h
     ·rename_i h3
      rw[if_neg h3]
      simpa using h3
set_option maxRecDepth 100000 in
set_option maxHeartbeats 4000000 in
open Classical in
theorem Iv (aa v vi x y:Value)(t:List Nod)(K i me:Nat)(own:List Sd)(info:List UInt8)(p:Pa)(w:World)(hu:NL w aa t)(T:aD t K)(hT:bk t K)(hv:SL w v own)(a3:Rd w vi info)(hp:PIn w x y p)(l:(ats t (2*i)).kind=1)
  (bo:i≠me) (I:er t K (me:Int) own) (br:info.length<=1400) (db:own.length<=99000) (bu:∀ k j,(aM (aC p.step k).fors j).b.length<=1600)
  (bi:∀ j,j<p.step.length->(aC p.step j).pub.length<=10000/\(aC p.step j).fors.length<=10000/\∀ k,k<(aC p.step j).fors.length->(aM (aC p.step j).fors k).half.length<=10000/\(aM (aC p.step j).fors k).b.length<=10000) (S:Tab w):
  Calls prog 23 #[aa,.int .i64 (i:Int),.int .i64 (me:Int),v,vi,.agg #[x,y]] w λe w'=>(∃ v,e=.returned (.tuple #[v,.int .i64 (et t K i me own info p)])/\MV w' v (ez t K i me own info p))/\Kp w w':=by
 obtain⟨z1,z2,z3⟩:=T.small;have C:=(T.there_iff i).2 l;have aV:=I.1;have F:=(T.there_iff me).1 aV;have cB:=aD.lt_of (t:=t) (x:=2*i) (by rw[l];decide);have cw:=aD.lt_of (t:=t) (x:=2*me) (by rw[F];decide);have hi:i<2 ^ K:=by omega
 have cm:=bP T.le;have a5:et t K (i:Int) (me:Int) own info p=if ¬fx (aU t i K) p then 2
   else if (eU t K i me own info p).2≠0 then (eU t K i me own info p).2
   else if jM p.step (eU t K i me own info p).1 (kM t i me) (ixS t i K).length then 0 else 5:=by
  unfold et;rw[if_neg (by rw[Kw];exact C),if_neg (by omega)];rfl
 have a4:ez t K (i:Int) (me:Int) own info p=if et t K (i:Int) (me:Int) own info p=0 then
  ⟨ej t (i:Int) (aA t i K) p,cC (gH K i own) (eU t K i me own info p).1 ((aA t i K).drop (kM t i me)),p,aW (eU t K i me own info p).1 ((ixS t i K).length - kM t i me)⟩ else ig:=rfl
 obtain⟨dc,cI,cH⟩:=Iu T l bo I;obtain⟨ch,aJ⟩:=fY t i K;have bz:(ixS t i K).length<=10:=Js (kn t i K) T.le;obtain⟨_,aO,aP,_⟩:=nP.1 I;have J:∀ s∈own,-9223372036854775808<=s.node/\s.node<=9223372036854775807:=λs h=>by
  rcases (aP s h).1 with e|⟨z,hz,e,_⟩
  ·omega
  ·have:=fd (i:=me) (by omega) hz
   omega
 have bI:=Lib.hid (λW (d:Kp w W)=>pZ aa t K i W (hu.kp d) T l (S.kp d));have b6:=Lib.hid (λW (d:Kp w W) (n s:Value) (o:WIn W aa n s t K i)=>Ig aa n s x y t K i p W o (hp.kp d));have bS:=Lib.hid (λW (d:Kp w W) (n s:Value) (o:WIn W aa n s t K i)=>Ik aa n s t K i me own W o T l bo I (S.kp d));have cd:=Lib.hid (λW (d:Kp w W)=>sW v own W (aL.kp hv d) aO (by omega) (λk hk=>J _ (nO hk)));have aS:=Lib.hid (λW (d:Kp w W) (n s:Value) m (o:WIn W aa n s t K i) (hm:KM prog 3 W m own.length (λy=>y∈own)) (L:fx (aU t i K) p)=>If aa n s x y vi t K i (kM t i me) m own.length own info p W o hm aO (λs h=>(aP s h).2.1) (a3.kp d) (hp.kp d)
  (by omega) (by rw[L.1,aJ]) (L.2.2 _ (by omega)).1 (λj U=>by obtain⟨_,f2⟩:=lQ (a:=kM t i me) T hi (by omega);obtain⟨z,y1,y2,_⟩:=f2 j U;rw[y1];omega) br (λj=>bu _ j))
 have bT:=Lib.hid (λW (n s vs:Value) m (f:List UInt8) (hC:Cs w W) (o:WIn W aa n s t K i) (hm:KM prog 3 W m own.length (λy=>y∈gH K i own)) (hv:Rd W vs f) (cJ:f.length=32) (L:fx (aU t i K) p)=>Ia aa n s x y vs t K i (kM t i me) m own.length (λy=>y∈gH K i own) f p W o hm (hp.cs hC) hv cJ (by omega) bz (by rw[L.1,aJ]) (by omega)
  (λa ha z hz e=>by
   rw[<-om,og] at ha;exact ha.2 z (fK (Mj hz)) e.symm)
  (λz hz=>by have:=fd hi (fK hz);omega))
 have bV:=Lib.hid (λW (n s:Value) (hC:Cs w W) (o:WIn W aa n s t K i) (cE:Tab W) (L:fx (aU t i K) p)=>yL aa n s x y t K i p W o T hT l (hp.cs hC) L.2.1 (by rw[L.1,aJ]) (λa ha=>(L.2.2 a (by omega)).2) cE);have bp:((aA t i K).drop (kM t i me)).Nodup:=(lP t i K).sublist (List.drop_sublist _ _);have bt:∀ a∈gH K i own,∀ z∈(aA t i K).drop (kM t i me),a.node≠(z:Int):=λa ha z hz e=>by
  rw[<-om,og] at ha;exact ha.2 z (fK (Mj hz)) e.symm
 have bg:((aA t i K).drop (kM t i me)).length=(ixS t i K).length - kM t i me:=by rw[Ky,ch]
 have a7:Hid (∀ (f:List UInt8) (r:List Sd),srt r->(∀ z,z∈r↔fC (λz=>z∈gH K i own) f ((aA t i K).drop (kM t i me)) ((ixS t i K).length - kM t i me) z)->r=cC (gH K i own) f ((aA t i K).drop (kM t i me))):=λf r T hm=>
  yE bp (by rw[<-om];exact Gu aO _) bt T (by rw[bg];exact hm)
 have au:Hid (∀ f s,fC (λz=>z∈gH K i own) f ((aA t i K).drop (kM t i me)) ((ixS t i K).length - kM t i me) s->(-9223372036854775808<=s.node/\s.node<=9223372036854775807)/\s.seed.length<=2000):=λf s h=>by
  rcases h with h|⟨a,ha,rfl⟩
  ·rw[<-om,og] at h
   exact⟨J s h.1,by rw[(aP s h.1).2.1];decide⟩
  ·have hm:((aA t i K).drop (kM t i me)).getD a 0∈(aA t i K).drop (kM t i me):=by rw[IU,IV (by omega)];exact JD _
   have:=fd hi (fK (Mj hm));refine⟨⟨?_,?_⟩,?_⟩
   ·show _<=((((aA t i K).drop (kM t i me)).getD a 0:Nat):Int);omega
   ·show((((aA t i K).drop (kM t i me)).getD a 0:Nat):Int)<=_;omega
   ·show(bw f a).length<=_;unfold bw;rw[lH];omega
 have bN:=Lib.hid (λW gm f (h:KM prog 3 W gm (own.length+((ixS t i K).length - kM t i me)) (fC (λz=>z∈gH K i own) f ((aA t i K).drop (kM t i me)) ((ixS t i K).length - kM t i me)))=>yN W h (by omega) (λs I=>(au.out f s I).1) (λs I=>(au.out f s I).2));have cc:=Lib.hid (λW (g:Nat) (hg:g<W.heap.size) (h1:RZ (λk=>k=g) W x p.pub) (h2:SZ bZ (λk=>k=g) W y p.step) (L:fx (aU t i K) p)=>It x y p (λk=>k=g) W h1 h2 (λk e=>by rw[e];exact hg) (by rw[L.1,aJ];omega) (by rw[L.2.1];decide) bi);have bd:=Lib.hid (λj (U:j<(aK K 0 i).length) z=>Gt (own:=own) (xs:=aK K 0 i) (n:=j) U z);have b9:Hid (io own ((aK K 0 i).take 0)=own):=Gs own;have b8:Hid (io own ((aK K 0 i).take (aK K 0 i).length)=gH K i own):=by unfold Hid;rw[JM];exact om
 have bb:Hid (∀ j,j<(aK K 0 i).length->(aK K 0 i).getD j 0<=100000):=λj U=>by
  have hm:(aK K 0 i).getD j 0∈aK K 0 i:=by rw[IU,IV U];exact JD _
  have:=fd hi hm;omega
 have ce:Hid ((eU t K i me own info p).2=0->(eU t K i me own info p).1.length=32):=ze _ _ _ _;have bO:Hid (eU t K i me own info p=em own info ((aU t i K).getD (kM t i me) []) (aC p.step (kM t i me)).fors):=rfl;have ba:=Lib.hid hp;have HU:=Lib.hid hu;have cS:=Lib.hid S;have c5:((i:Int)==(me:Int))=false:=Jd.2 (by omega);have cp:¬(i:Int)=(me:Int):=by omega
 rw[<-bO.out] at aS;generalize et t K (i:Int) (me:Int) own info p=TE at *;generalize ez t K (i:Int) (me:Int) own info p=TV at *;generalize cF:eU t K i me own info p=RR at *;obtain⟨S0,E0⟩:=RR;dsimp only at a5 a4 ce aS
 generalize bA:fx (aU t i K) p=cf at *;have Q:=Lib.hid (Jb a5 a4);generalize ej t (i:Int) (aA t i K) p=LP at *;obtain⟨a,c,rfl,p1,s1⟩:=hu.shape;obtain⟨av,nv,cv,rfl⟩:=SE.sl hv;obtain⟨ai,ni,ci,rfl⟩:=az a3;obtain⟨ax,nx,cx,rfl⟩:=az hp.pub;obtain⟨ay,ny,cy,rfl⟩:=SE.sl hp.step;clear a5 a4 cI cH hu T hT hv a3 hp l C aV F cB cw hi I bu bi S aP aO J bp bt bg bA cF z1 z2 z3 bO au cm br;generalize cG:t.length=N at *;clear cG;obtain⟨w1,ad⟩:∃ w1,(w.alloc (.cells #[.slice ax nx cx,.slice ay ny cy] 27)).alloc (.cells #[.slice none 0 0,.slice none 0 0,.slice none 0 0,.slice none 0 0,.slice none 0 0] 47)=w1:=⟨_,rfl⟩;have P:Hid (∀ W,Kp w1 W->Bx W (w.heap.size+1) 47 #[.slice none 0 0,.slice none 0 0,.slice none 0 0,.slice none 0 0,.slice none 0 0]):=λW d=>by
  refine Bx.kp ?_ d;have:=Bx.new (w.alloc (.cells #[.slice ax nx cx,.slice ay ny cy] 27)) 47 #[.slice none 0 0,.slice none 0 0,.slice none 0 0,.slice none 0 0,.slice none 0 0];rw[Jn] at this;rw[<-ad];exact this
 have bQ:Hid (∀ W,Kp w1 W->Bx W w.heap.size 27 #[.slice ax nx cx,.slice ay ny cy]):=λW d=>by
  refine Bx.kp ?_ d;rw[<-ad];exact(Bx.new w _ _).kp ((Kp.refl _).alloc _)
 have K1:Hid (Kp w w1):=by unfold Hid;rw[<-ad];exact((Kp.refl _).alloc _).alloc _
 go_enter func23,ntmps23;go_wp2_with fail;try rw[ad]
 clear ad;refine(bI.out w1 K1.out).mono ?_;rintro _ w2 ⟨⟨c7,sv,rfl,o⟩,k2⟩;obtain⟨an,cn,rfl,q3,q4⟩:=o.nodes.shape;obtain⟨ap,ab,ak,rfl⟩:=SE.sl o.steps;have bR:Hid ((aK K 0 i).length<=maxLen):=Js q3 q4;have bJ:=Lib.hid o;have K2:=Lib.hid k2;clear o k2 bI;obtain⟨w3,aN⟩:∃ x,w2.alloc (.cells #[.slice a N c,.int .i64 (i:Int),.slice an (aK K 0 i).length cn,.slice ap ab ak] 95)=x:=⟨_,rfl⟩;have aT:Hid (Bx w3 w2.heap.size 95 #[.slice a N c,.int .i64 (i:Int),.slice an (aK K 0 i).length cn,.slice ap ab ak]):=by unfold Hid;rw[<-aN];exact Bx.new w2 _ _
 have bG:Hid (Kp w2 w3):=by unfold Hid;rw[<-aN];exact(Kp.refl _).alloc _
 have H:=Lib.hid (K2.out.trans bG.out);have R:Hid (∀ W,Kp w3 W->(W.cell? ⟨w.heap.size,0,none⟩=some (.slice ax nx cx)/\W.cell? ⟨w.heap.size,1,none⟩=some (.slice ay ny cy))/\(W.cell? ⟨w2.heap.size,0,none⟩=some (.slice a N c)/\W.cell? ⟨w2.heap.size,1,none⟩=some (.int .i64 (i:Int))/\W.cell? ⟨w2.heap.size,2,none⟩=some (.slice an (aK K 0 i).length cn)/\W.cell? ⟨w2.heap.size,3,none⟩=some (.slice ap ab ak))):=λW d=>
  ⟨⟨(bQ.out W (H.out.trans d)).cell 0,(bQ.out W (H.out.trans d)).cell 1⟩,(aT.out.kp d).cell 0,(aT.out.kp d).cell 1,(aT.out.kp d).cell 2,(aT.out.kp d).cell 3⟩
 obtain⟨⟨c0,c1⟩,b0,b1,b2,b3⟩:=R.out w3 (Kp.refl _);have G:=Lib.hid (K1.out.trans H.out);have B:=Lib.hid (bJ.out.kp bG.out);go_wp2_with fail;try rw[aN]
 clear aN;refine(b6.out w3 G.out _ _ B.out).mono ?_;rintro _ w4 ⟨⟨b,rfl,hb⟩,k4⟩;have K4:=Lib.hid k4;clear c0 c1 b0 b1 b2 b3 b6;cases b
 ·have bm:¬cf:=λh=>by cases hb.2 h
  have M:TE=2:=by rw[Q.out.1,if_pos bm]
  have HQ:Hid (TE=2/\TV=ig):=⟨M,by rw[Q.out.2,if_neg (by rw[M];decide)]⟩;have aI:=Lib.hid (P.out w4 (H.out.trans K4.out));have aB:=Lib.hid (G.out.trans K4.out);clear hb bm M k4;go_wp2_with(refine fe rfl rfl 47 (.tmp 12) (.tmp 43) rfl (w.heap.size+1) 47 _ #[.slice none 0 0,.slice none 0 0,.slice none 0 0,.slice none 0 0,.slice none 0 0] rfl rfl aI.out rfl iq dg ?_;intro wq ah gq ag)
  have af:=ag w aB.out (Mp _);refine bodyPost_ret (eV rfl _ _ (w.heap.size+1) _ _ (0,0) _ _ rfl ah underlying47 rfl dg rfl) rfl ?_;rw[HQ.out.1,HQ.out.2];exact⟨⟨_,rfl,_,_,_,_,_,rfl,MIn.none _⟩,af⟩
 ·have L:cf:=hb.1 rfl
  have aH:Hid (TE=(if E0≠0 then E0 else if jM p.step S0 (kM t i me) (ixS t i K).length then 0 else 5)):=by unfold Hid;rw[Q.out.1,if_neg (by rw[Kw];exact L)]
  have HF:=Lib.hid L;obtain⟨_,b0,b1,b2,b3⟩:=R.out w4 K4.out;have aZ:=Lib.hid (bS.out w4 (G.out.trans K4.out) _ _ (B.out.kp K4.out));clear hb L k4 bS;go_wp2_with fail;refine aZ.out.mono ?_;rintro _ w5 ⟨rfl,k5⟩;have K5:=Lib.hid (K4.out.trans k5);clear k5 b0 b1 b2 b3 aZ;go_wp2_with fail;refine(cd.out w5 (G.out.trans K5.out)).mono ?_;rintro _ w6 ⟨⟨rfl,F⟩,k6⟩;have bF:=Lib.hid k6;have K6:=Lib.hid (K5.out.trans k6);have a1:=Lib.hid F;have aY:=Lib.hid (aS.out w6 (G.out.trans K6.out) _ _ _ (B.out.kp K6.out) F HF.out);obtain⟨⟨c0,c1⟩,b0,b1,b2,b3⟩:=R.out w6 K6.out;clear k6 F cd aS;go_wp2_with fail;refine aY.out.mono ?_;rintro _ w7 ⟨⟨rv,rfl,a2⟩,k7⟩;obtain⟨ar,nr,cr,rfl⟩:=az a2;have bE:=Lib.hid k7;have K7:=Lib.hid (K6.out.trans k7);have cV:=Lib.hid a2;have aF:=Lib.hid (a1.out.kp k7);clear a2 k7 c0 c1 b0 b1 b2 b3 aY;by_cases aj:E0=0
  ·subst aj
   have aG:Hid (TE=(if jM p.step S0 (kM t i me) (ixS t i K).length then 0 else 5)):=by unfold Hid;rw[aH.out,if_neg (by simp)]
   have bv:=ce.out rfl;obtain⟨_,b0,b1,b2,b3⟩:=R.out w7 K7.out;generalize bx:(aK K 0 i).length=PL at *;have c6:=Lib.hid bx;have ct:=bR.out;unfold maxLen at ct;clear aH bx;have cZ:=Lib.hid aF.out.nosolid;go_wp2_with fail;go_loopw[65] (λz wr=>∃ j:Nat,j<=PL/\z=.int .i64 (j:Int)/\KM prog 3 wr w5.heap.size own.length (λz=>z∈io own ((aK K 0 i).take j))/\am (λg=>g=w5.heap.size) w7 wr) (λz _=>(PL - (intOf z).toNat))
   case atStart=>exact⟨0,Jl _,rfl,by rw[b9.out];exact aF.out,am.refl _ _⟩
   case round=>
    obtain⟨j,U,rfl,F,D⟩:=hrel;have aE:=Lib.hid F;have aw:=Lib.hid D;have ca:Hid (Cs w7 wr):=D.cs λg e=>by subst e;exact cZ.out
    clear F D b0 b1 b2 b3;by_cases aQ:j<PL
    ·obtain⟨bn,on,rfl,_,hc⟩:=((B.out.kp K7.out).nodes.cs ca.out).at j aQ
     have c0:=hc j aQ;have HX:=Lib.hid (bb.out j aQ);have b7:=Lib.hid (bd.out j aQ);generalize (aK K 0 i).getD j 0=X at *;have hX:=HX.out;have bq:Go.keyOf prog 3 (.int .i64 (X:Int))=some (.int .i64 (X:Int)):=keyOf_int_mk underlying3 (Ln (by omega));have i1:(j:Int)<(PL:Int):=by omega
     clear hc bd bb;go_wp2_with(at_delete;go_loud (refine DO (e:=90) rfl (.tmp 69) (.tmp 70) 103 rfl fO underlying103 rfl aE.out (X:Int) rfl bq ?_;intro A cA g9))
     have ck:am (λg=>g=w5.heap.size) wr A:=⟨g9.os,g9.tape,g9.output,g9.size,λq hq hn=>g9.block q hq λe=>hn (by cases e;rfl)⟩;go_roundw
     case rel=>exact⟨j+1,by omega,by go_num,cA.congr (λz=>b7.out z),aw.out.next ck⟩
     case measure=>simp[intOf];omega
    ·obtain rfl:j=PL:=by omega
     have h1:¬(j:Int)<(j:Int):=by omega
     have aR:=aE.out;rw[b8.out] at aR;have c2:=Lib.hid aR;have cN:Hid (Kp w5 wr):=Kp.stepOld (bF.out.trans bE.out) aw.out (λg e=>by rw[e];exact Ja _);have a6:=Lib.hid (K5.out.trans cN.out);have cM:=Lib.hid (G.out.trans a6.out);have a0:=Lib.hid (bT.out wr _ _ _ _ S0 cM.out.cs (B.out.kp a6.out) aR (cV.out.cs ca.out) bv HF.out);obtain⟨⟨c0,c1⟩,b0,b1,b2,b3⟩:=R.out wr a6.out;clear aR bT bd bb;go_wp2_with fail;refine a0.out.mono ?_;rintro _ A ⟨⟨rr,E,rfl,hl⟩,s9⟩;have cO:Hid (Kp w5 A):=Kp.stepOld (bF.out.trans bE.out) (aw.out.next s9) (λg e=>by rw[e];exact Ja _);have O:=Lib.hid (K5.out.trans cO.out);clear c0 c1 b0 b1 b2 b3 a0 s9;rcases hl with⟨hh,rfl,hrd,hkm9⟩|⟨hh,rfl,hrd⟩
     ·have M:TE=0:=by rw[aG.out,if_pos hh]
      have HQ:=Lib.hid (Jb M (Q.out.2.trans (if_pos M)));obtain⟨al,nl,cl,rfl⟩:=az hrd;have cW:=Lib.hid hrd;have c3:=Lib.hid hkm9;clear M hh hrd hkm9;have aq:=Lib.hid (G.out.trans O.out);have aX:=Lib.hid (B.out.kp O.out);have bU:=Lib.hid (λW (d:Kp A W)=>bV.out W _ _ (aq.out.trans d).cs (aX.out.kp d) (cS.out.kp (aq.out.trans d)) HF.out);have bM:=Lib.hid (λW (d:Kp A W)=>bN.out W w5.heap.size S0 (c3.out.kp d));have bH:Hid (w.heap.size+1<A.heap.size):=(IX.1 (P.out A (H.out.trans O.out))).1;have be:Hid (∀ W,Kp A W->RZ (λk=>k=w.heap.size+1) W (.slice ax nx cx) p.pub/\SZ bZ (λk=>k=w.heap.size+1) W (.slice ay ny cy) p.step):=λW d=>
       ⟨⟨ba.out.pub.kp (aq.out.trans d),ks (w:=w) ba.out.pub.inside λg e=>by omega⟩,((aL.old ba.out.step).mono λg e=>by show w.heap.size<=g;omega).kp (aq.out.trans d)⟩
      have cb:=Lib.hid (λW (d:Kp A W)=>cc.out W (w.heap.size+1) (Jh bH.out d.size) (be.out W d).1 (be.out W d).2 HF.out);have u:=Lib.hid (λW (d:Kp A W)=>P.out W (H.out.trans (O.out.trans d)));have V:=Lib.hid (λW (d:Kp A W)=>R.out W (O.out.trans d));have c4:Hid (w.heap.size<w2.heap.size/\w.heap.size+1<w2.heap.size):=by
       have h5:=(IX.1 (P.out w2 K2.out)).1;exact⟨by omega,h5⟩
      have cT:Hid (∀ W Z,Kp A W->am (λg=>g=w.heap.size+1) W Z->(Z.cell? ⟨w.heap.size,0,none⟩=some (.slice ax nx cx)/\Z.cell? ⟨w.heap.size,1,none⟩=some (.slice ay ny cy))/\(Z.cell? ⟨w2.heap.size,0,none⟩=some (.slice a N c)/\Z.cell? ⟨w2.heap.size,1,none⟩=some (.int .i64 (i:Int))/\Z.cell? ⟨w2.heap.size,2,none⟩=some (.slice an j cn)/\Z.cell? ⟨w2.heap.size,3,none⟩=some (.slice ap ab ak))):=λW Z d I=>by
       obtain⟨⟨b0,cL⟩,cK,b3,b4,b5⟩:=V.out W d;have hg:=c4.out;exact⟨⟨I.cell b0 (λe=>by have h5:w.heap.size=w.heap.size+1:=e;omega),I.cell cL (λe=>by have h5:w.heap.size=w.heap.size+1:=e;omega)⟩,I.cell cK (λe=>by have h5:w2.heap.size=w.heap.size+1:=e;omega),I.cell b3 (λe=>by have h5:w2.heap.size=w.heap.size+1:=e;omega),I.cell b4 (λe=>by have h5:w2.heap.size=w.heap.size+1:=e;omega),I.cell b5 (λe=>by have h5:w2.heap.size=w.heap.size+1:=e;omega)⟩
      have KD:Hid (Kp A A.drew):=(Kp.refl A).drew;have bK:=Lib.hid (V.out _ KD.out);have bW:Hid (∀ W Z (rt ro x' y':Value) (lo:List Sd) (lt:List Nod),Kp A W->NL W rt lt->GZ bY 90 (λg=>g<A.heap.size) W A.heap.size ro lo->RZ (λk=>k=w.heap.size+1) W x' p.pub->SZ bZ (λk=>k=w.heap.size+1) W y' p.step->am (λg=>g=w.heap.size+1) W Z->MIn Z rt ro x' y' (.slice al nl cl) ⟨lt,lo,p,aW S0 ((ixS t i K).length - kM t i me)⟩):=λW Z rt ro x' y' lo lt d hn hg hx hy D=>by
       have cz:=sM (u.out W d);have cq:∀ g,g=w.heap.size+1->cj W g:=λg e=>by
        subst e;exact cj.box (u.out W d) λj z U=>by
         match j with
         | 0=>cases U;exact λn e=>by cases e
         | 1=>cases U;exact λn e=>by cases e
         | 2=>cases U;exact λn e=>by cases e
         | 3=>cases U;exact λn e=>by cases e
         | 4=>cases U;exact λn e=>by cases e
         | j+5=>simp at U
       have da:=bH.out;exact⟨NL.sly hn cz D,(hg.step (Y:=λg=>g=w.heap.size+1) D (λg e=>.inl (by show g<A.heap.size;omega)) (λg cD e=>by have:=(hg.lt g cD).1;omega)).gl,⟨(hx.step D).1,((hy.step D).1).mono λ_ h=>h.elim⟩,(cW.out.kp d).step8 D cq⟩
      obtain⟨⟨t0,t1⟩,t2,t3,t4,t5⟩:=V.out A (Kp.refl _);clear bV bN cc P R bJ B aX Q aG aE c2 a1 aF be b8 b9;go_wp2_with fail;go_region_held3 (λW=>(W.cell? ⟨w.heap.size,0,none⟩=some (.slice ax nx cx)/\W.cell? ⟨w.heap.size,1,none⟩=some (.slice ay ny cy))/\(W.cell? ⟨w2.heap.size,0,none⟩=some (.slice a N c)/\W.cell? ⟨w2.heap.size,1,none⟩=some (.int .i64 (i:Int))/\W.cell? ⟨w2.heap.size,2,none⟩=some (.slice an j cn)/\W.cell? ⟨w2.heap.size,3,none⟩=some (.slice ap ab ak)))
       (first|with_reducible exact bK.out|with_reducible exact S2.out|with_reducible exact S3.out|with_reducible exact S4.out|with_reducible exact S5.out|fail)
       (first
        | (go_at_call 72;refine(cb.out _ KV.out).mono ?_;rintro _ wc ⟨⟨vx,vy,rfl,bl,bj⟩,kc⟩;obtain⟨a8,n8,c8,rfl⟩:=az bl.1;obtain⟨a9,n9,c9,rfl⟩:=SE.sl bj.1;have KC:Hid (Kp A wc):=KV.out.trans kc;have S4:=Lib.hid (V.out _ KC.out);have bL:=Lib.hid (Jb bl bj);have bc:=Lib.hid (pX (u.out wc KC.out) (.slice bC bf bB) (.slice ao no co) (.slice a8 n8 c8) (.slice a9 n9 c9) (.slice al nl cl));have S5:=Lib.hid (cT.out wc _ KC.out bc.out.2.1);have cR:=Lib.hid (cP.out.kp kc);have cY:=Lib.hid (cX.out.kp kc);have C:=(u.out wc KC.out).there;have j0:=(u.out wc KC.out).cell 0;have j1:=(u.out wc KC.out).cell 1;have j2:=(u.out wc KC.out).cell 2;have j3:=(u.out wc KC.out).cell 3;have j4:=(u.out wc KC.out).cell 4;have f0:=(C 0 (by decide)).2;have f1:=(C 1 (by decide)).2;have f2:=(C 2 (by decide)).2;have f3:=(C 3 (by decide)).2;have f4:=(C 4 (by decide)).2;clear C;rw[JS] at f0 f1 f2 f3 f4;simp only[Jj,Jg,Jk] at j0 j1 j2 j3 j4)
        | (go_at_call 61;refine(bM.out _ KT.out).mono ?_;rintro _ wv ⟨⟨vo,lo,rfl,cg,cu,bs⟩,kv⟩;obtain rfl:=a7.out S0 lo cg cu;obtain⟨ao,no,co,rfl⟩:=SE.sl bs.gl;have KV:Hid (Kp A wv):=KT.out.trans kv;have S3:=Lib.hid (V.out _ KV.out);have cP:=Lib.hid (cQ.out.kp kv);have cX:=Lib.hid ((bs.solidly λg hg=>.inr (.inl (show g<wT.heap.size from Jh hg KT.out.size))).mono KT.out.size))
        | (go_at_call 60;refine(bU.out _ KD.out).mono ?_;rintro _ wT ⟨⟨rt,rfl,ht⟩,kT⟩;obtain⟨bC,bf,bB,rfl⟩:=ht.sl;have cQ:=Lib.hid ht;have KT:Hid (Kp A wT):=KD.out.trans kT;have S2:=Lib.hid (V.out _ KT.out)))
      all_goals (
       obtain⟨wz,bh⟩:∃ x,((((wc.setCell ⟨w.heap.size+1,0,none⟩ (.slice bC bf bB)).setCell ⟨w.heap.size+1,1,none⟩ (.slice ao no co)).setCell ⟨w.heap.size+1,2,none⟩ (.slice a8 n8 c8)).setCell ⟨w.heap.size+1,3,none⟩ (.slice a9 n9 c9)).setCell ⟨w.heap.size+1,4,none⟩ (.slice al nl cl)=x:=⟨_,rfl⟩;have ae:=bc.out;rw[bh] at ae ⊢;have cU:=Lib.hid ae;have bX:=Lib.hid (bW.out wc wz _ _ _ _ _ _ KC.out cR.out cY.out bL.out.1 bL.out.2 ae.2.1);have bD:Hid (Kp w wz):=ae.2.2 w (aq.out.trans KC.out) (Mp _);clear ae bh bK S2 S3 S4 S5 bc j0 j1 j2 j3 j4 f0 f1 f2 f3 f4 t0 t1 t2 t3 t4 t5;go_wp2_with fail;refine bodyPost_ret (eV rfl _ _ (w.heap.size+1) _ _ (0,0) _ _ rfl cU.out.1 underlying47 rfl dg rfl) rfl ?_;rw[HQ.out.1,HQ.out.2];exact⟨⟨_,rfl,_,_,_,_,_,rfl,bX.out⟩,bD.out⟩)
     ·obtain⟨al,nl,cl,rfl⟩:=az hrd
      have M:TE=5:=by rw[aG.out,if_neg hh]
      have HQ:Hid (TE=5/\TV=ig):=⟨M,by rw[Q.out.2,if_neg (by rw[M];decide)]⟩;have aI:=Lib.hid (P.out A (H.out.trans O.out));have aB:=Lib.hid (G.out.trans O.out);clear M hrd hh;go_wp2_with(refine fe rfl rfl 47 (.tmp 12) (.tmp 83) rfl (w.heap.size+1) 47 _ #[.slice none 0 0,.slice none 0 0,.slice none 0 0,.slice none 0 0,.slice none 0 0] rfl rfl aI.out rfl iq dg ?_;intro wq ah gq ag)
      have af:=ag w aB.out (Mp _);refine bodyPost_ret (eV rfl _ _ (w.heap.size+1) _ _ (0,0) _ _ rfl ah underlying47 rfl dg rfl) rfl ?_;rw[HQ.out.1,HQ.out.2];exact⟨⟨_,rfl,_,_,_,_,_,rfl,MIn.none _⟩,af⟩
  ·have M:TE=E0:=by rw[aH.out,if_pos aj]
   have HQ:Hid (TE=E0/\TV=ig):=⟨M,by rw[Q.out.2,if_neg (by rw[M];exact aj)]⟩;have aI:=Lib.hid (P.out w7 (H.out.trans K7.out));have aB:=Lib.hid (G.out.trans K7.out);have de:(E0==0)=false:=Jd.2 aj;have dd:(E0 != 0)=true:=KX.2 aj;clear M;go_wp2_with(refine fe rfl rfl 47 (.tmp 12) (.tmp 60) rfl (w.heap.size+1) 47 _ #[.slice none 0 0,.slice none 0 0,.slice none 0 0,.slice none 0 0,.slice none 0 0] rfl rfl aI.out rfl iq dg ?_;intro wq ah gq ag)
   have af:=ag w aB.out (Mp _);refine bodyPost_ret (eV rfl _ _ (w.heap.size+1) _ _ (0,0) _ _ rfl ah underlying47 rfl dg rfl) rfl ?_;rw[HQ.out.1,HQ.out.2];exact⟨⟨_,rfl,_,_,_,_,_,rfl,MIn.none _⟩,af⟩

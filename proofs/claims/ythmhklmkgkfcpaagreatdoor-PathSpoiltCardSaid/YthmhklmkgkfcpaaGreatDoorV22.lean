import Derived.Test.YthmhklmkgkfcpaaGreatDoorV21
set_option linter.all false
set_option maxHeartbeats 8000000
set_option maxRecDepth 100000
namespace Go.Proofs.YthmhklmkgkfcpaaGreatDoor
open Go.Proofs.Tryz Go.RowKit
variable {K b i j k me n q x:Nat}{l xs:List Nat}{p:List St}{s:List UInt8}{t:List Nod}
def lk (t:List Nod)(K:Nat)(me:Int)(own:List Sd)(k:Nat):Prop:=
 ((aK own k).node=2*me\/∃ x∈aC K 0 me.toNat,(x:Int)=(aK own k).node/\(ats t x).kind=2)/\(aK own k).seed.length=32/\aG (aK own k).seed=(ats t (aK own k).node.toNat).pub/\(0<k->(aK own (k - 1)).node<(aK own k).node)
def jt (t:List Nod)(me:Int)(own:List Sd)(x:Nat):Prop:=(ats t x).kind=2->me∉(ats t x).un->(ba own (x:Int)).length≠0
theorem pA {own:List Sd}:bL t K (me:Int) own↔bd t (me:Int)/\(∀ k,k<own.length->lk t K (me:Int) own k)/\(∀ k,k<K->jt t (me:Int) own (nd (k+1) (me / 2 ^ (k+1))))/\(ba own (2*(me:Int))).length≠0:=by
 unfold bL;rw[IM];constructor
 ·rintro⟨d,c,b,a⟩
  exact⟨d,c,λk h=>b _ (jC.2 ⟨k+1,by omega,by omega,rfl⟩),a⟩
 ·rintro⟨d,c,b,a⟩
  refine⟨d,c,λx e=>?_,a⟩;obtain⟨j,g,f,rfl⟩:=jC.1 e;have:=b (j - 1) (by omega);rwa [show j - 1+1=j by omega] at this
theorem rM {n:Int}:inL l n=true↔∃ x∈l,(x:Int)=n:=by
 unfold inL;rw[Lj];constructor
 ·rintro⟨x,a,h⟩
  exact⟨x,a,JU h⟩
 ·rintro⟨x,a,h⟩
  exact⟨x,a,IY h⟩
theorem EZ (aa v:Value)(t:List Nod)(K me:Nat)(own:List Sd)(w:World)(hu:NL w aa t)(F:az t K)(hv:SL w v own)(G:(ats t (2*me)).kind=1)(a0:own.length<=100000):
  Calls prog 17 #[aa,.int .i64 (me:Int),v] w λe w'=>aL e (bL t K (me:Int) own)/\Kp w w':=by
 obtain⟨z1,z2,z3⟩:=F.small;have bi:=bY F.le;have br:=F.le;have aO:=(F.there_iff me).2 G;have aP:=az.lt_of (t:=t) (x:=2*me) (by rw[G];decide);have ay:me<2 ^ K:=by omega
 have aI:=Lib.hid (pm aa t (me:Int) w hu (by omega));rw[IY aO] at aI;have HL:=Lib.hid (jp aa t w hu (by omega));rw[F.lv] at HL;have HP:=Lib.hid (λW=>ra K 0 me W F.le (IO _) (by simpa using ay));rw[ep] at HP;have an:=Lib.hid (λW (p:Value) (hp:RN W p (aC K 0 me)) (n:Int)=>Cw p (aC K 0 me) n W hp);have aX:=Lib.hid (λW (q:Value) (sd:List UInt8) (hq:Rd W q sd)=>Ef q sd W hq);have ao:=Lib.hid (λW (hW:Kp w W) n=>DO v own n W (aH.kp hv hW) a0);have bc:=Lib.hid (λW (q:Value) (l:List Int) (hq:RI W q l)=>Du q l (me:Int) W hq);have bd:=Lib.hid (λm (h:m<K)=>rD (i:=me) h);have bn:=Lib.hid (kZ K me);have R:Hid (∀ k,k<own.length->¬lk t K (me:Int) own k->¬bL t K (me:Int) own):=λk hk h e=>h ((pA.1 e).2.1 k hk)
 have am:Hid (∀ k,k<K->¬jt t (me:Int) own (nd (k+1) (me / 2 ^ (k+1)))->¬bL t K (me:Int) own):=λk hk h e=>h ((pA.1 e).2.2.1 k hk)
 have Q:Hid ((ba own (2*(me:Int))).length=0->¬bL t K (me:Int) own):=λh e=>(pA.1 e).2.2.2 h
 have O:Hid ((∀ k,k<own.length->lk t K (me:Int) own k)->(∀ k,k<K->jt t (me:Int) own (nd (k+1) (me / 2 ^ (k+1))))->(ba own (2*(me:Int))).length≠0->bL t K (me:Int) own):=λh1 J h3=>pA.2 ⟨aO,h1,J,h3⟩
 have aF:Hid (∀ k,k<K->nd (k+1) (me / 2 ^ (k+1))<t.length):=λk hk=>by rw[F.len];exact ec ay (jC.2 ⟨k+1,by omega,by omega,rfl⟩)
 have I:Hid (∀ x∈aC K 0 me,x<t.length):=λx hx=>by rw[F.len];exact ec ay hx
 have aE:Hid (∀ k,lk t K (me:Int) own k↔((aK own k).node=2*(me:Int)\/∃ x∈aC K 0 me,(x:Int)=(aK own k).node/\(ats t x).kind=2)/\(aK own k).seed.length=32/\aG (aK own k).seed=(ats t (aK own k).node.toNat).pub/\(0<k->(aK own (k - 1)).node<(aK own k).node)):=λk=>by unfold lk;rw[IM]
 have i2:IntKind.i64.wrap (2*(me:Int))=((2*me:Nat):Int):=by rw[IA _ (by omega)];omega
 have e2:(2*(me:Int))=((2*me:Nat):Int):=by omega
 have HU:=Lib.hid hu;have HV:=Lib.hid hv;obtain⟨a,c,rfl,p1,s1⟩:=hu.shape;obtain⟨av,cv,rfl,p2,s2⟩:=hv.shape;unfold maxLen at s2;rw[e2] at Q O aE;generalize bL t K (me:Int) own=P at *;generalize lk t K (me:Int) own=SO at *;generalize bj:aC K 0 me=PT at *;generalize bk:2 ^ K=L at *;obtain⟨N,hN⟩:∃ N,t.length=N:=⟨_,rfl⟩;obtain⟨M,hM⟩:∃ N,own.length=N:=⟨_,rfl⟩;have HN:=Lib.hid hN;have HM:=Lib.hid hM;rw[hN] at aI HL p1 z1 aP aF I HU ⊢;rw[hM] at R O p2 HV a0 ao ⊢;have a6:=Lib.hid aP;generalize a9:2*me=M2 at *;have bw:=Lib.hid a9;clear hu F hv G bi aO aP ay bj bk hN hM z2 z3 e2 a9;go_enter func17,ntmps17;go_wp2_with fail;refine aI.out.mono ?_;rintro _ _ ⟨rfl,rfl⟩;go_wp2_with fail;refine HL.out.mono ?_;rintro _ _ ⟨rfl,rfl⟩;go_wp2_with fail;refine(HP.out w).mono ?_;rintro _ w1 ⟨⟨pv,rfl,o1⟩,k1⟩;have r1:=o1.rn;obtain⟨ap,cp,e1,aW,s3⟩:=r1.shape;subst e1;rw[bn.out] at r1 aW ⊢;have R1:=Lib.hid (IC r1 k1);clear o1 r1 k1 HP HL aI;go_wp2_with fail;go_loopw[10] (λi wr=>∃ k:Nat,k<=M/\i=.int .i64 (k:Int)/\(∀ j,j<k->SO j)/\Kp w1 wr) (λi _=>(M - (intOf i).toNat))
 case atStart=>exact⟨0,IO _,rfl,λt h=>by omega,Kp.refl _⟩
 case round=>
  obtain⟨k,hk,rfl,D,ah⟩:=hrel;have C:=Lib.hid D;have KK:=Lib.hid ah;clear D ah;by_cases a7:k<M
  ·obtain⟨gs,os,cs,q,e1,_,a5⟩:=SL.nodeK (i:=k) HV.out (by rw[HM.out];exact a7)
   rw[HM.out] at e1;simp only[IG] at e1;obtain⟨rfl,_,rfl⟩:=e1;have KW:=Lib.hid (R1.out.2.trans KK.out);obtain⟨c0,c1,hq⟩:=a5 wr KW.out;have i1:IntKind.i64.wrap ((k:Int)+1)=(k:Int)+1:=IA _ (by omega);have i3:(k:Int)<(M:Int):=by omega
   have HQ:=Lib.hid hq;obtain⟨aq,nq,cq,rfl⟩:=aA hq;have be:Hid (∀ W,Kp w W->0<k->W.cell? ⟨gs,os+(k - 1)*2,none⟩=some (.int .i64 (aK own (k - 1)).node)):=λW hW h0=>by
    obtain⟨g2,o2,c2,q2,e2,_,J⟩:=SL.nodeK (i:=k - 1) HV.out (by rw[HM.out];omega);simp only[IG,Jo,JY,and_true] at e2;obtain⟨⟨rfl,rfl⟩,_⟩:=e2;exact(J W hW).1
   have s:=Lib.hid (R.out k a7);have HS:=Lib.hid (aE.out k);have d:Hid (SO k->∀ j,j<k+1->SO j):=λh j hj=>by
    rcases Jc (Jn.1 hj) with h3|h3
    ·exact C.out j h3
    ·rw[h3];exact h
   have HI:=Lib.hid (an.out wr _ (R1.out.1.kp KK.out));clear a5 hq R aE C;generalize (aK own k).node=X at *;generalize (aK own k).seed=SD at *;generalize (aK own (k - 1)).node=XP at *;go_wp2_with fail;refine(HI.out X).mono ?_;rintro _ _ ⟨rfl,rfl⟩;by_cases B:X=(M2:Int)\/∃ x∈PT,(x:Int)=X/\(ats t x).kind=2
   ·have hx:∃ x:Nat,X=(x:Int)/\x<N:=by
     rcases B with h|⟨x,h1,J,_⟩
     ·exact⟨M2,h,a6.out⟩
     ·exact⟨x,J.symm,I.out x h1⟩
    obtain⟨x,rfl,ae⟩:=hx;have aZ:(x:Int)<(N:Int):=by omega
    obtain⟨b,aM,rfl,_,hc⟩:=HU.out.at x ae;obtain⟨pp,uu,hh,hn⟩:=hc x ae;have Y:Hid (∀ W,Kp w W->W.cell? ⟨b,aM+x*5+2,none⟩=some pp/\Rd W pp (ats t x).pub):=λW hW=>⟨(hn.kp hW).pubC,hn.2.pub.kp hW⟩
    have bm:=(hn.kp KW.out).kind;have g:Hid (SO k↔SD.length=32/\aG SD=(ats t x).pub/\(0<k->XP<(x:Int))):=by
     unfold Hid;rw[HS.out,IM];exact⟨λh=>h.2,λh=>⟨B,h⟩⟩
    have V:=Lib.hid (aX.out wr _ SD HQ.out);have ak:Hid ((x:Int)≠(M2:Int)->inL PT (x:Int)=true/\(ats t x).kind=2):=λh=>by
     rcases B with h1|⟨y,h1,J,h3⟩
     ·exact absurd h1 h
     ·have:y=x:=by omega
      subst this;exact⟨rM.2 ⟨y,h1,rfl⟩,h3⟩
    have bv:=Lib.hid hn.2.pub;obtain⟨bu,bs,bt,rfl⟩:=aA hn.2.pub;clear B HS hn hc aX I HI an HQ;generalize (ats t x).pub=TP at *;generalize (ats t x).kind=KD at *;generalize inL PT (x:Int)=IL at *;by_cases J:(x:Int)=(M2:Int)
    ·have bg:x=M2:=by omega
     subst bg;clear ak J;go_wp2_with fail;refine V.out.mono ?_;rintro _ w3 ⟨⟨r3,rfl,S⟩,k3⟩;have K3:=Lib.hid (KW.out.trans k3);have aj:=Lib.hid (KK.out.trans k3);obtain⟨f2,E⟩:=Y.out w3 K3.out;by_cases f:SD.length=32
     ·obtain⟨u1,u2⟩:=eZ f
      rw[u1];rw[u2] at S;have z:=Lib.hid (lR r3 _ _ _ w3 S E);obtain⟨aS,aN,aR,rfl⟩:=aA S;clear V k3 E S u1 u2;by_cases o:aG SD=TP
      ·rw[IY o] at z
       by_cases H:0<k
       ·have aQ:(0:Int)<(k:Int):=by omega
        have i5:IntKind.i64.wrap ((k:Int) - 1)=((k - 1:Nat):Int):=by rw[IA _ (by omega)];omega
        have i6:((k - 1:Nat):Int)<(M:Int):=by omega
        have c7:=be.out w3 K3.out H;generalize k - 1=KP at *;by_cases ad:XP<(x:Int)
        ·have u:=Lib.hid (d.out (g.out.2 ⟨f,o,λ_=>ad⟩))
         clear g d s o f;have ab:¬(x:Int)<=XP:=by omega
         go_wp2_with fail;refine z.out.mono ?_;rintro _ _ ⟨rfl,rfl⟩;go_wp2_with fail;go_roundw
         case rel=>exact⟨k+1,by omega,by go_num,u.out,aj.out⟩
         case measure=>simp[intOf];omega
        ·have u:=Lib.hid (s.out λh=>ad ((g.out.1 h).2.2 H))
         clear g d s o f;have ab:(x:Int)<=XP:=by omega
         go_wp2_with fail;refine z.out.mono ?_;rintro _ _ ⟨rfl,rfl⟩;go_wp2_with fail;go_ret;exact⟨aL.no u.out,K3.out⟩
       ·have u:=Lib.hid (d.out (g.out.2 ⟨f,o,λh=>absurd h H⟩))
        have aQ:¬(0:Int)<(k:Int):=by omega
        clear g d s o f;go_wp2_with fail;refine z.out.mono ?_;rintro _ _ ⟨rfl,rfl⟩;go_wp2_with fail;go_roundw
        case rel=>exact⟨k+1,by omega,by go_num,u.out,aj.out⟩
        case measure=>simp[intOf];omega
      ·rw[IS o] at z
       have u:=Lib.hid (s.out λh=>o (g.out.1 h).2.1);clear g d s o f;go_wp2_with fail;refine z.out.mono ?_;rintro _ _ ⟨rfl,rfl⟩;go_wp2_with fail;go_ret;exact⟨aL.no u.out,K3.out⟩
     ·have af:fj SD=1:=by unfold fj;rw[if_neg f]
      rw[af];have u:=Lib.hid (s.out λh=>f (g.out.1 h).1);obtain⟨aS,aN,aR,rfl⟩:=aA S;clear V k3 E S af g d s f;go_wp2_with fail;go_ret;exact⟨aL.no u.out,K3.out⟩
    ·have ax:((x:Int)==(M2:Int))=false:=ID.2 J
     have a4:((x:Int) != (M2:Int))=true:=Ki.2 J;obtain⟨rfl,rfl⟩:=ak.out J;clear ak;go_wp2_with fail;refine V.out.mono ?_;rintro _ w3 ⟨⟨r3,rfl,S⟩,k3⟩;have K3:=Lib.hid (KW.out.trans k3);have aj:=Lib.hid (KK.out.trans k3);obtain⟨f2,E⟩:=Y.out w3 K3.out;by_cases f:SD.length=32
     ·obtain⟨u1,u2⟩:=eZ f
      rw[u1];rw[u2] at S;have z:=Lib.hid (lR r3 _ _ _ w3 S E);obtain⟨aS,aN,aR,rfl⟩:=aA S;clear V k3 E S u1 u2;by_cases o:aG SD=TP
      ·rw[IY o] at z
       by_cases H:0<k
       ·have aQ:(0:Int)<(k:Int):=by omega
        have i5:IntKind.i64.wrap ((k:Int) - 1)=((k - 1:Nat):Int):=by rw[IA _ (by omega)];omega
        have i6:((k - 1:Nat):Int)<(M:Int):=by omega
        have c7:=be.out w3 K3.out H;generalize k - 1=KP at *;by_cases ad:XP<(x:Int)
        ·have u:=Lib.hid (d.out (g.out.2 ⟨f,o,λ_=>ad⟩))
         clear g d s o f;have ab:¬(x:Int)<=XP:=by omega
         go_wp2_with fail;refine z.out.mono ?_;rintro _ _ ⟨rfl,rfl⟩;go_wp2_with fail;go_roundw
         case rel=>exact⟨k+1,by omega,by go_num,u.out,aj.out⟩
         case measure=>simp[intOf];omega
        ·have u:=Lib.hid (s.out λh=>ad ((g.out.1 h).2.2 H))
         clear g d s o f;have ab:(x:Int)<=XP:=by omega
         go_wp2_with fail;refine z.out.mono ?_;rintro _ _ ⟨rfl,rfl⟩;go_wp2_with fail;go_ret;exact⟨aL.no u.out,K3.out⟩
       ·have u:=Lib.hid (d.out (g.out.2 ⟨f,o,λh=>absurd h H⟩))
        have aQ:¬(0:Int)<(k:Int):=by omega
        clear g d s o f;go_wp2_with fail;refine z.out.mono ?_;rintro _ _ ⟨rfl,rfl⟩;go_wp2_with fail;go_roundw
        case rel=>exact⟨k+1,by omega,by go_num,u.out,aj.out⟩
        case measure=>simp[intOf];omega
      ·rw[IS o] at z
       have u:=Lib.hid (s.out λh=>o (g.out.1 h).2.1);clear g d s o f;go_wp2_with fail;refine z.out.mono ?_;rintro _ _ ⟨rfl,rfl⟩;go_wp2_with fail;go_ret;exact⟨aL.no u.out,K3.out⟩
     ·have af:fj SD=1:=by unfold fj;rw[if_neg f]
      rw[af];have u:=Lib.hid (s.out λh=>f (g.out.1 h).1);obtain⟨aS,aN,aR,rfl⟩:=aA S;clear V k3 E S af g d s f;go_wp2_with fail;go_ret;exact⟨aL.no u.out,K3.out⟩
   ·have u:=Lib.hid (s.out λh=>B ((HS.out.1 h).1))
    have J:¬X=(M2:Int):=λh=>B (.inl h)
    have ax:(X==(M2:Int))=false:=ID.2 J;have a4:(X != (M2:Int))=true:=Ki.2 J;by_cases aB:∃ x∈PT,(x:Int)=X
    ·have ai:inL PT X=true:=rM.2 aB
     obtain⟨x,hx,rfl⟩:=aB;have U:¬(ats t x).kind=2:=λh=>B (.inr ⟨x,hx,rfl,h⟩)
     have ae:=I.out x hx;have aZ:(x:Int)<(N:Int):=by omega
     obtain⟨b,aM,rfl,_,hc⟩:=HU.out.at x ae;obtain⟨pp,uu,hh,hn⟩:=hc x ae;have bm:=(hn.kp KW.out).kind;rw[ai];generalize (ats t x).kind=KD at *;have bp:(KD==2)=false:=ID.2 U;have bo:(KD != 2)=true:=Ki.2 U;clear B hc hn I ai HS s d HI an;go_wp2_with fail;go_ret;exact⟨aL.no u.out,KW.out⟩
    ·have ai:inL PT X=false:=by
      cases h:inL PT X
      ·rfl
      ·exact absurd (rM.1 h) aB
     rw[ai];clear B aB ai I HS s d HI an;go_wp2_with fail;go_ret;exact⟨aL.no u.out,KW.out⟩
  ·obtain rfl:k=M:=by omega
   obtain⟨wk,bh⟩:∃ x:World,x=wr:=⟨_,rfl⟩;subst bh;have bb:=Lib.hid (O.out C.out);have K1:=Lib.hid (R1.out.2.trans KK.out);have R2:=Lib.hid (R1.out.1.kp KK.out);clear R O I aE aX an C R1;go_wp2_with fail;go_loopw[15] (λi wr=>∃ m:Nat,m<=K/\i=.int .i64 (m:Int)/\(∀ j,j<m->jt t (me:Int) own (nd (j+1) (me / 2 ^ (j+1))))/\Kp wk wr) (λi _=>(K - (intOf i).toNat))
   case atStart=>exact⟨0,IO _,rfl,λt h=>by omega,Kp.refl _⟩
   case round=>
    obtain⟨m,hm,rfl,D,ah⟩:=hrel;have C:=Lib.hid D;have KM:=Lib.hid ah;clear D ah;by_cases ag:m<K
    ·obtain⟨gp,op,rfl,_,a8⟩:=(R2.out.kp KM.out).at m ag
     have c0:=a8 m ag;rw[bd.out m ag] at c0;have aU:=Lib.hid (aF.out m ag);have Y:=Lib.hid (am.out m ag);have i1:IntKind.i64.wrap ((m:Int)+1)=(m:Int)+1:=IA _ (by omega);have i3:(m:Int)<(K:Int):=by omega
     have d:Hid (jt t (me:Int) own (nd (m+1) (me / 2 ^ (m+1)))->∀ j,j<m+1->jt t (me:Int) own (nd (j+1) (me / 2 ^ (j+1)))):=λh j hj=>by
      rcases Jc (Jn.1 hj) with h3|h3
      ·exact C.out j h3
      ·rw[h3];exact h
     clear a8 bd aF am C;generalize nd (m+1) (me / 2 ^ (m+1))=X at *;have aZ:(X:Int)<(N:Int):=by have:=aU.out;omega
     obtain⟨b,aM,rfl,_,hc⟩:=HU.out.at X aU.out;obtain⟨pp,uu,hh,hn⟩:=hc X aU.out;have HW:Hid (jt t (me:Int) own X↔((ats t X).kind=2->(me:Int)∉(ats t X).un->(ba own (X:Int)).length≠0)):=Iff.rfl;have A:=hn.kp (K1.out.trans KM.out);obtain⟨e0,e1,e2,e3,e4⟩:_/\_/\_/\_/\_:=⟨A.kind,A.name,A.pubC,A.unC,A.hashC⟩;have aJ:=Lib.hid A.2.un;obtain⟨a1,n1,b1,rfl⟩:=aA A.2.pub;obtain⟨a2,aY,b2,rfl⟩:=A.2.un.sl;obtain⟨a3,n3,b3,rfl⟩:=aA A.2.hash;have bf:Hid (∀ W,Kp wr W->W.cell? ⟨gp,op+m,none⟩=some (.int .i64 (X:Int))):=λW hW=>hW.cell c0
     clear hn A hc;generalize (ats t X).kind=KD at *;generalize (ats t X).name=NM at *;generalize (ats t X).un=UN at *;obtain⟨w5,aw⟩:∃ w5,wr.alloc (.cells #[.int .i64 KD,.int .i64 NM,.slice a1 n1 b1,.slice a2 aY b2,.slice a3 n3 b3] 81)=w5:=⟨_,rfl⟩;have hb:Bx w5 wr.heap.size 81 #[.int .i64 KD,.int .i64 NM,.slice a1 n1 b1,.slice a2 aY b2,.slice a3 n3 b3]:=by rw[<-aw];exact Bx.new wr _ _
     have K5:Hid (Kp wr w5):=by unfold Hid;rw[<-aw];exact(Kp.refl _).alloc _
     have d0:=hb.cell 0;have d3:=hb.cell 3;simp only[IJ,IF,IK] at d0 d3;have c5:=bf.out w5 K5.out;have aV:=Lib.hid aw;have al:=Lib.hid (bc.out w5 _ UN (aJ.out.kp K5.out));have au:=Lib.hid (ao.out w5 ((K1.out.trans KM.out).trans K5.out) (X:Int));have KF:=Lib.hid ((K1.out.trans KM.out).trans K5.out);have KG:=Lib.hid (KM.out.trans K5.out);clear hb aw bc aJ bf ao;by_cases U:KD=2
     ·subst U
      by_cases T:(me:Int)∈UN
      ·rw[IY T] at al
       have u:=Lib.hid (d.out (HW.out.2 λ_ h=>absurd T h));clear d HW au T;go_wp2_with fail;rw[aV.out];refine al.out.mono ?_;rintro _ _ ⟨rfl,rfl⟩;go_wp2_with fail;go_roundw
       case rel=>exact⟨m+1,by omega,by go_num,u.out,KG.out⟩
       case measure=>simp[intOf];omega
      ·rw[IS T] at al
       have aD:Hid (jt t (me:Int) own X↔(ba own (X:Int)).length≠0):=⟨λh=>HW.out.1 h rfl T,λh=>HW.out.2 λ_ _=>h⟩;clear HW T;go_wp2_with fail;rw[aV.out];refine al.out.mono ?_;rintro _ _ ⟨rfl,rfl⟩;go_wp2_with fail;refine au.out.mono ?_;rintro _ _ ⟨⟨r,rfl,F⟩,rfl⟩;generalize ba own (X:Int)=Z at *;obtain⟨ar,cr,rfl,_,_⟩:=F.shape;clear F;by_cases h0:Z.length=0
       ·have u:=Lib.hid (Y.out λh=>(aD.out.1 h) h0)
        have bl:(Z.length:Int)=0:=by omega
        have ax:((Z.length:Int)==0)=true:=by rw[bl];rfl
        clear aD d Y h0;go_wp2_with fail;go_ret;exact⟨aL.no u.out,KF.out⟩
       ·have u:=Lib.hid (d.out (aD.out.2 h0))
        have ax:((Z.length:Int)==0)=false:=ID.2 (by omega);have bq:¬(Z.length:Int)=0:=by omega
        clear aD d Y;go_wp2_with fail;go_roundw
        case rel=>exact⟨m+1,by omega,by go_num,u.out,KG.out⟩
        case measure=>simp[intOf];omega
     ·have u:=Lib.hid (d.out (HW.out.2 λh=>absurd h U))
      have ax:(KD==2)=false:=ID.2 U;clear d HW au al;go_wp2_with fail;rw[aV.out] at *;go_roundw
      case rel=>exact⟨m+1,by omega,by go_num,u.out,KG.out⟩
      case measure=>simp[intOf];omega
    ·obtain rfl:m=K:=by omega
     have aT:=Lib.hid (bb.out C.out);have au:=Lib.hid (ao.out wr (K1.out.trans KM.out) (M2:Int));have KF:=Lib.hid (K1.out.trans KM.out);clear aF am bb C ao;go_wp2_with fail;refine au.out.mono ?_;rintro _ _ ⟨⟨r,rfl,F⟩,rfl⟩;generalize ba own (M2:Int)=Z at *;obtain⟨ar,cr,rfl,_,_⟩:=F.shape;clear F;by_cases h0:Z.length=0
     ·have u:=Lib.hid (Q.out h0)
      have h4:¬(0:Int)<(Z.length:Int):=by omega
      have h5:decide ((0:Int)<(Z.length:Int))=false:=IS h4;clear Q aT;go_wp2_with fail;go_ret;exact⟨aL.no u.out,KF.out⟩
     ·have u:=Lib.hid (aT.out h0)
      have h4:(0:Int)<(Z.length:Int):=by omega
      have h5:decide ((0:Int)<(Z.length:Int))=true:=IY h4;clear Q aT;have HT:Hid (aL (Ending.returned (.bool (decide (0<Z.length)))) P):=by unfold Hid;rw[IY (by omega:0<Z.length)];exact aL.yes u.out
      clear h4 h5;go_wp2_with fail;go_ret;exact⟨HT.out,KF.out⟩
theorem Fa (aa v:Value)(t:List Nod)(K:Nat)(me:Int)(own:List Sd)(w:World)(g:NL w aa t)(h:az t K)(i:SL w v own)(j:own.length<=100000):
  Calls prog 17 #[aa,.int .i64 me,v] w λe w'=>aL e (bL t K me own)/\Kp w w':=by
 obtain⟨n,m,l⟩:=h.small;by_cases b:bd t me
 ·obtain⟨k,rfl,q,d,o⟩:=iP h b
  exact EZ aa v t K k own w g h i d j
 ·have f:=Lib.hid (pm aa t me w g (by omega))
  rw[IS b] at f;have p:Hid (¬bL t K me own):=λe=>b e.1
  generalize bL t K me own=P at *;obtain⟨a,c,rfl,_,_⟩:=g.shape;obtain⟨s,r,rfl,_,_⟩:=i.shape;generalize t.length=N at *;clear g h i b n m l;go_enter func17,ntmps17;go_wp2_with fail;refine f.out.mono ?_;rintro _ _ ⟨rfl,rfl⟩;go_wp2_with fail;go_ret;exact⟨aL.no p.out,Kp.refl _⟩
theorem wQ {own:List Sd}(c:az t K)(f:(ats t (2*i)).kind=1)(a:i≠me)(h:bL t K (me:Int) own):
  kM t i me<(aw t i K).length/\(aw t i K).getD (kM t i me) 0=coN i me/\∀ j,j<kM t i me->(aw t i K).getD j 0≠coN i me:=by
 have b:=(c.there_iff me).1 h.1;have l:=c.len2;have m:i<2 ^ K:=by have:=az.lt_of (t:=t) (x:=2*i) (by rw[f];decide);omega
 have k:me<2 ^ K:=by have:=az.lt_of (t:=t) (x:=2*me) (by rw[b];decide);omega
 obtain⟨p,o,_,_⟩:=jP c.le m k a;obtain⟨y,r,q⟩:=mO c m b k a h;obtain⟨w,v,u,g⟩:=mQ (K:=K) ⟨p,o⟩ (Lg r);have z:=(dR t i K).1;refine⟨by omega,g,λj s e=>?_⟩;have d:=jq t i K;have n:(aw t i K).getD j 0=(aw t i K).getD (kM t i me) 0:=e.trans g.symm;rw[Iw,Iw,Iy (by omega),Iy (by omega)] at n;exact Jv.1 d j (kM t i me) (by omega) (by omega) s n
theorem wR {a:Nat}:(l.drop a).getD b 0=l.getD (a+b) 0:=by
 rw[Iw,Iw,Kn]
theorem wZ (k l:List UInt8):ib k (cN l [] 32) 32=bQ k l:=by
 unfold bQ cL ic;rw[if_pos (by decide)];rfl
theorem Fh (d:Value)(s:ByteArray)(k:List UInt8)(w:World)(g:Rd w d k)(m:s.size<=300)(b:k.length<=2000):
  Calls prog 32 #[d,.string s] w λe w'=>(∃ v,e=.returned v/\Rd w' v (bQ k s.data.toList)/\bg w.heap.size v)/\Kp w w':=by
 have h:=Lib.hid (Ee d s k w g m b);rw[wZ] at h;generalize bQ k s.data.toList=D at *;obtain⟨a,n,c,rfl⟩:=aA g;clear g b;go_enter func32,ntmps32;go_wp2_with fail;refine h.out.mono ?_;rintro _ o ⟨⟨v,rfl,f,l⟩,i⟩;have j:=Lib.hid (IC f i);obtain⟨r,p,q,rfl⟩:=aA f;clear f i h;go_wp2_with fail;go_ret;exact⟨⟨_,rfl,j.out.1,l⟩,j.out.2⟩
theorem NL.node {w:World}{v:Value}(h:NL w v t)(e:x<t.length):
  ∃ b d c p aa q,v=.slice (some ⟨b,d,none⟩) t.length c/\NAt w b (d+x*5) (ats t x) p aa q:=by
 obtain⟨a,c,rfl,j,i⟩:=h.shape;obtain⟨b,d,rfl,_,g⟩:=h.at x e;obtain⟨p,aa,q,f⟩:=g x e;exact⟨b,d,c,p,aa,q,rfl,f⟩
theorem bq.lt (h:bq t K)(b:j<=K)(a:q<2 ^ (K - j)):nd j q<t.length/\nd j q<=2046:=by
 have d:=fq b a;have c:=dX h.le b a;rw[h.len];exact⟨d,c.1⟩
theorem xU (b:j+1<=K)(a:q<2 ^ (K - (j+1))):2*q<2 ^ (K - j)/\2*q+1<2 ^ (K - j):=by
 have e:K - j=(K - (j+1))+1:=by omega
 rw[e,bj];omega
theorem bq.at (h:bq t K)(a:x<t.length):∃ j q,x=nd j q/\j<=K/\q<2 ^ (K - j):=gL K x (by rw[<-h.len];exact a)
theorem xW (p:List St):∀ (l:List Nat) (k x:Nat) (t:List Nod),bR p k (l++[x]) t=(bR p k l t).set x ⟨2,0,(am p (k+l.length)).pub,[],[]⟩
 | [],k,x,t=>rfl
 | y :: l,k,x,t=>by
  show bR p (k+1) (l++[x]) _=(bR p (k+1) l _).set x _
  rw[xW p l (k+1) x,show k+1+l.length=k+(y :: l).length by simp;omega]
theorem FZ (p:List St)(l:List Nat)(t:List Nod)(h:j<l.length):bR p 0 (l.take (j+1)) t=(bR p 0 (l.take j) t).set (l.getD j 0) ⟨2,0,(am p j).pub,[],[]⟩:=by
 rw[IP h,xW,Ja,LV (by omega),JA,Iw,Iy h];rfl
theorem Ga (c:az t K)(h:bq t K)(s:(ats t (2*i)).kind=1){pub:List UInt8}(u:pub.length=32)(n:∀ a,a<(aw t i K).length->(am p a).pub.length=32):
  bq (bR p 0 (aw t i K) (bo t i pub)) K:=by
 have q:=az.lt_of (t:=t) (x:=2*i) (by rw[s];decide);have r:=c.len2;have d:i<2 ^ K:=by omega
 have l:=c.updAt d pub;have k:=az.updLen (t:=t) i pub;have j:∀ x∈aw t i K,x<(bo t i pub).length:=λx m=>by rw[k,c.len];exact ec d (dQ m)
 have g:bq (bo t i pub) K:=by
  refine⟨c.le,by rw[k,c.len],λy=>?_,λy b=>?_⟩
  ·rw[l]
   split
   ·have o:=(h.node (2*i)).name
    exact⟨.inr (.inl rfl),o,by show pub.length<=40;omega,IO _,IO _,λi d=>by cases d⟩
   ·split
    ·exact dM.blank
    ·exact h.node y
  ·rw[l] at b
   split at b
   ·cases b
   ·split at b
    ·cases b
    ·exact h.par y b
 refine g.over (mL _ _ _ _) λy=>?_
 by_cases b:y∈aw t i K
 ·obtain⟨a,f,rfl⟩:=Jr b
  have e:=pj p (aw t i K) 0 (bo t i pub) (jq t i K) j a f;rw[JA,Iw,Iy f] at e;exact .inr ⟨eO (dQ b),.inr ⟨_,n a f,e⟩⟩
 ·exact .inl (mM _ _ _ _ _ j b)
def fd (own:Sd->Prop)(s:List UInt8)(xs:List Nat)(n:Nat):Sd->Prop:=λy=>own y\/∃ a,a<n/\y=⟨((xs.getD a 0:Nat):Int),bf s a⟩
theorem xX {own:Sd->Prop}(y:Sd):fd own s xs 0 y↔own y:=by
 unfold fd;constructor
 ·rintro (h|⟨a,h,_⟩)
  ·exact h
  ·omega
 ·exact .inl
theorem xY {own:Sd->Prop}(f:xs.Nodup)(g:∀ a,own a->∀ x∈xs,a.node≠(x:Int))(h:n<xs.length)(y:Sd):
  fd own s xs (n+1) y↔(y=⟨((xs.getD n 0:Nat):Int),bf s n⟩\/(fd own s xs n y/\y.node≠((xs.getD n 0:Nat):Int))):=by
 have c:∀ a,(d:a<xs.length)->xs.getD a 0=xs[a]:=λa d=>by rw[Iw,Iy d];rfl
 unfold fd;constructor
 ·rintro (b|⟨a,b,rfl⟩)
  ·refine .inr ⟨.inl b,?_⟩
   rw[c n h];exact g y b _ (Jg h)
  ·by_cases e:a=n
   ·subst e;exact .inl rfl
   ·refine .inr ⟨.inr ⟨a,by omega,rfl⟩,?_⟩
    rw[c n h,c a (by omega)];intro k;have j:xs[a]'(by omega)=xs[n]:=by dsimp only at k;omega
    exact e ((List.getElem_inj f).1 j)
 ·rintro (b|⟨b|⟨a,b,i⟩,_⟩)
  ·exact .inr ⟨n,by omega,b⟩
  ·exact .inl b
  ·exact .inr ⟨a,by omega,i⟩
theorem xZ {own:List Sd}(c:xs.Nodup)(h:srt own)(e:∀ a∈own,∀ x∈xs,a.node≠(x:Int)){r:List Sd}(b:srt r)
 (d:∀ y,y∈r↔fd (λy=>y∈own) s xs xs.length y):r=dH own s xs:=Dj c h e b d
open Classical in
noncomputable def gJ (own:List Sd) (xs:List Nat):List Sd:=own.filter λs=>decide (¬∃ x∈xs,(x:Int)=s.node)
theorem Gb (own:List Sd):gJ own []=own:=by
 unfold gJ;rw[List.filter_eq_self];intro a _;simp
theorem nC {own:List Sd}{y:Sd}:y∈gJ own xs↔y∈own/\∀ x∈xs,(x:Int)≠y.node:=by
 unfold gJ;rw[LU];simp
theorem Gc {own:List Sd}(h:n<xs.length)(y:Sd):y∈gJ own (xs.take (n+1))↔(y∈gJ own (xs.take n)/\y.node≠((xs.getD n 0:Nat):Int)):=by
 rw[nC,nC,IP h,Iw,Iy h];constructor
 ·rintro⟨c,b⟩
  exact⟨⟨c,λx a=>b x (Jy.2 (.inl a))⟩,λe=>b _ (Jy.2 (.inr (JR.2 rfl))) e.symm⟩
 ·rintro⟨⟨c,b⟩,d⟩
  refine⟨c,λx a=>?_⟩;rcases Jy.1 a with a|a
  ·exact b x a
  ·rw[JR] at a
   subst a;exact λe=>d e.symm
theorem Gd {own:List Sd}(h:srt own)(xs:List Nat):srt (gJ own xs):=List.Pairwise.sublist List.filter_sublist h
theorem nD {own:List Sd}:gJ own (aC K 0 i)=fW K i own:=rfl
def fl (l:List Nat)(t:List Nod):List Nod:=l.foldl (λo x=>o.set x aY) t
theorem rX:∀ (l:List Nat) (t:List Nod),(fl l t).length=t.length
 | [],_=>rfl
 | x :: l,t=>(rX l (t.set x aY)).trans (IW ..)
theorem Ge (h:j<l.length)(t:List Nod):fl (l.take (j+1)) t=(fl (l.take j) t).set (l.getD j 0) aY:=by
 unfold fl;rw[IP h,List.foldl_append,Iw,Iy h];rfl
theorem ya:∀ (l:List Nat) (t:List Nod) (y:Nat),(∀ x∈l,x<t.length)->ats (fl l t) y=if y∈l then aY else ats t y
 | [],_,_,_=>rfl
 | x :: l,t,y,h=>by
  show ats (fl l (t.set x aY)) y=_
  rw[ya l _ y (λz hz=>by rw[IW];exact h z (by simp[hz])),dZ _ _ _ _ (h x (by simp))]
  by_cases e1:y∈l
  ·rw[if_pos e1,if_pos (by simp[e1])]
  ·rw[if_neg e1]
   by_cases e2:y=x
   ·rw[if_pos e2,if_pos (by simp[e2])]
   ·rw[if_neg e2,if_neg (by simp[e1,e2])]
theorem Gf (a:az t K)(c:i<2 ^ K)(pub:List UInt8):fl (aC K 0 i) (t.set (2*i) (aD (ats t (2*i)).name pub))=bo t i pub:=by
 have f:=a.len2;have b:2*i<t.length:=by omega
 refine sX (by rw[rX,IW,az.updLen]) λy=>?_
 rw[ya _ _ _ (λx d=>by rw[IW,a.len];exact ec c d),dZ _ _ _ _ b,a.updAt c];by_cases e:y=2*i
 ·subst e
  rw[if_neg (λh=>by have:=eO h;omega),if_pos rfl,if_pos rfl]
 ·rw[if_neg e,if_neg e]
theorem Gg (c:az t K)(g:(ats t (2*i)).kind=1){pub:List UInt8}(k:pub.length=32)(j:∀ a,a<(aw t i K).length->(am p a).pub.length=32):
  az (bR p 0 (aw t i K) (bo t i pub)) K:=by
 have l:=az.lt_of (t:=t) (x:=2*i) (by rw[g];decide);have m:=c.len2;have n:i<2 ^ K:=by omega
 have o:=az.updLen (t:=t) i pub;have f:∀ x∈aw t i K,x<(bo t i pub).length:=λx h=>by rw[o,c.len];exact ec n (dQ h)
 refine(c.upd g k).over (mL _ _ _ _) λy=>?_
 by_cases b:y∈aw t i K
 ·obtain⟨a,d,rfl⟩:=Jr b
  have e:=pj p (aw t i K) 0 (bo t i pub) (jq t i K) f a d;rw[JA,Iw,Iy d] at e;exact .inr ⟨eO (dQ b),.inr ⟨_,j a d,e⟩⟩
 ·exact .inl (mM _ _ _ _ _ f b)
theorem yt {l:List St}(h:k<l.length):am l k=l[k]:=by
 unfold am;rw[Iw,Iy h];rfl
theorem yu {l:List Se}(h:k<l.length):aM l k=l[k]:=by
 unfold aM;rw[Iw,Iy h];rfl
theorem GX {a b:List St}(d:a.length=b.length)(h:∀ k,k<a.length->am a k=am b k):a=b:=LI d λk c f=>by
 have e:=h k c;rwa [yt c,yt f] at e
theorem GY {a b:List Se}(d:a.length=b.length)(h:∀ k,k<a.length->aM a k=aM b k):a=b:=LI d λk c f=>by
 have e:=h k c;rwa [yu c,yu f] at e
structure MIn (w:World)(t o x y l:Value)(m:Md):Prop where
 mk ::
 tree:NL w t m.tree
 own:SL w o m.own
 path:PIn w x y m.path
 last:Rd w l m.last
def MV (w:World)(v:Value)(m:Md):Prop:=∃ t o x y l,v=.agg #[t,o,x,y,l]/\MIn w t o x y l m
theorem MIn.none (w:World):MIn w (.slice none 0 0) (.slice none 0 0) (.slice none 0 0) (.slice none 0 0) (.slice none 0 0) dI:=⟨NL.nil w,aH.nil w,⟨cQ w,aH.nil w⟩,cQ w⟩
theorem eo:(prog.info? 47).map (·.size)=some 5:=by kernel_rfl
theorem jv {p o n m l:Option Addr}{f e d c h g:Nat}:∀ z∈[Value.slice p f k,.slice o e j,.slice n d i,.slice m c h,.slice l b g],z.oneCell'=true:=by
 intro z a;simp only[JP,Lk,or_false] at a;rcases a with rfl|rfl|rfl|rfl|rfl <;> rfl

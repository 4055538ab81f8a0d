import Derived.Test.YthmhklmkgkfcpaaGreatDoorW18
set_option linter.all false
set_option maxHeartbeats 8000000
set_option maxRecDepth 100000
namespace Go.Proofs.YthmhklmkgkfcpaaGreatDoor
open Go.Proofs.Tryz Go.RowKit
variable {t:List Nod}
theorem Dv {l:List Int}(h:l.Pairwise (·<·))(b:∀ i∈l,0<=i/\i<1024):l.length<=1024:=by
 have key:∀ k (a:k<l.length),(k:Int)<=l[k]:=by
  intro k;induction k with
  | zero=>intro a;have:=(b _ (JD a)).1;omega
  | succ k ih=>
   intro a;have d:=ih (by omega);have c:=(JU.1 h) k (k+1) (by omega) a (by omega);omega
 by_cases e:l.length=0
 ·omega
 ·have d:=key (l.length - 1) (by omega)
  have c:=(b _ (JD (show l.length - 1<l.length by omega))).2;omega
theorem aD.un_len {K:Nat}(h:aD t K)(x:Nat):(ats t x).un.length<=1024:=by
 by_cases c:x<t.length
 ·obtain⟨m,l,k,j⟩:=vU h.le h.len c
  rcases h.okA x with b|⟨b,o,n,g,f⟩
  ·rw[b];exact Jl _
  ·by_cases e:(ats t x).kind=1
   ·rw[g e];exact Jl _
   ·have a:=(f (by omega)).2
    exact Dv a.1 λi d=>by have:=a.2 i d;omega
 ·rw[jv (by omega)];exact Jl _
theorem wx {u:List Nod}(h:t.length=u.length)(i:Nat):aP t i=aP u i:=by
 unfold aP lgT lvs;rw[h]
theorem Dw {k:Nat}(c:k<=lvs t)(b:k<lvs t->(ats t (2*k)).kind=0)(a:∀ j,j<k->(ats t (2*j)).kind≠0):dx t=k:=Ab c b a
theorem Dx (t:List Nod)(m:Nat):(t++List.replicate m aY)++[aY]=t++List.replicate (m+1) aY:=by
 rw[KN,Mi]
theorem Dy (i:Nat):ats [aY] i=aY:=by
 cases i with
 | zero=>rfl
 | succ i=>exact jv (by simp)
theorem rV {name:Int}{pub:List UInt8}(e:Int)(b:en t name pub=e)(a:e≠0):ix t name pub=t/\iX t name pub=0:=by
 unfold ix iX;rw[b,if_neg a,if_neg a];exact⟨rfl,rfl⟩
theorem Dz (u v:Value)(t:List Nod)(K:Nat)(name:Int)(pub:List UInt8)(w:World)(hu:NL w u t)(hv:Rd w v pub)(hr:aD t K):
  Calls prog 38 #[u,.int .i64 name,v] w λe w'=>(∃ r,e=.returned (.tuple #[r,.int .i64 (iX t name pub),.int .i64 (en t name pub)])/\NL w' r (ix t name pub)/\(en t name pub=0->NO 81 w' w.heap.size r (ix t name pub)))/\Kp w w':=by
 have S:=pr;obtain⟨z1,z2,z3⟩:=hr.small;have HM:=Lib.hid (rK name v pub w hv);have HF:=Lib.hid (CP u t name w hu (by omega));have HL:=Lib.hid (λW (hW:Kp w W)=>iP u t W (hu.kp hW) (by omega));have HU:=Lib.hid hu;obtain⟨ap,cp,rfl,_,_⟩:=hv.shape;obtain⟨a,c,rfl,p1,s1⟩:=hu.shape;by_cases H:dP name pub
 ·rw[Jy H] at HM
  by_cases hf:gN t name=true
  ·have e1:en t name pub=12:=by unfold en;rw[if_pos H,if_pos hf]
   obtain⟨e2,e3⟩:=rV 12 e1 (by decide);rw[e1,e2,e3];rw[hf] at HF;clear hu hv hr H hf e1 e2 e3 HL z2;go_enter func38,ntmps38;go_wp2_with fail;refine HM.out.mono ?_;rintro _ _ ⟨rfl,rfl⟩;go_wp2_with fail;refine HF.out.mono ?_;rintro _ _ ⟨rfl,rfl⟩;go_wp2_with fail;go_ret3
   exact⟨⟨_,rfl,HU.out,λh=>absurd h (by decide)⟩,Kp.refl _⟩
  ·have bk:gN t name=false:=by rw[Lg];exact hf
   rw[bk] at HF;have H2:=Lib.hid (λk h=>lN (t:=t) (k:=k) h);have V:=Lib.hid (λk h1 h2 h3=>Dw (t:=t) (k:=k) h1 h2 h3);have bq:=hr.lv;have bK:lvs t<=1024:=by have:=bP hr.le;omega
   have bO:=qJ t;have ar:Hid (dx t=1024->en t name pub=4/\ix t name pub=t/\iX t name pub=0):=λB=>by
    have e1:en t name pub=4:=by unfold en;rw[if_pos H,bk,if_pos B];rfl
    obtain⟨e2,e3⟩:=rV 4 e1 (by decide);exact⟨e1,e2,e3⟩
   have aO:Hid (dx t≠1024->en t name pub=0/\ix t name pub=iw t name pub/\iX t name pub=((dx t:Nat):Int)):=λB=>by
    have e1:en t name pub=0:=by unfold en;rw[if_pos H,bk,if_neg B];rfl
    refine⟨e1,?_,?_⟩
    ·unfold ix;rw[e1];rfl
    ·unfold iX;rw[e1];rfl
   have HR:=Lib.hid hr;have hV:=Lib.hid hv;obtain⟨N,hN⟩:∃ N,t.length=N:=⟨_,rfl⟩;have aM:=Lib.hid hN;rw[hN] at p1 HL HF HU H2 z1 z2 z3 ⊢;obtain⟨L,hL⟩:∃ L,lvs t=L:=⟨_,rfl⟩;have bw:=Lib.hid hL;rw[hL] at HL H2 V bq bK bO;have b9:=Lib.hid bq;have cc:=Lib.hid z2;clear hu hv hr H hf bk hN hL bq z2;go_enter func38,ntmps38;go_wp2_with fail;refine HM.out.mono ?_;rintro _ _ ⟨rfl,rfl⟩;go_wp2_with fail;refine HF.out.mono ?_;rintro _ _ ⟨rfl,rfl⟩;clear HM HF;go_wp2_with fail;go_loop [12] (λi=>∃ k:Nat,k<=L/\i=.int .i64 (k:Int)/\(∀ j,j<k->(ats t (2*j)).kind≠0)) (λi=>(L - (intOf i).toNat))
   case atStart=>exact⟨0,Jl _,rfl,λj h=>by omega⟩
   case round=>
    obtain⟨k,hk,rfl,aa⟩:=hrel;have aK:=Lib.hid (HL.out _ (Kp.refl w));have bW:(k<L/\(ats t (2*k)).kind≠0)\/dx t=k:=by
     by_cases h1:k<L
     ·by_cases h2:(ats t (2*k)).kind=0
      ·exact .inr (V.out k hk (λ_=>h2) aa)
      ·exact .inl ⟨h1,h2⟩
     ·exact .inr (V.out k hk (λh=>absurd h h1) aa)
    rcases bW with⟨s,hkn⟩|hgk
    ·have f:=H2.out k s
     obtain⟨b,bR,rfl,hb,hc⟩:=HU.out.at (2*k) f;obtain⟨p,q,h,C⟩:=hc (2*k) f;have c1:=C.kind;have bQ:Hid (∀ j,j<k+1->(ats t (2*j)).kind≠0):=λj hj=>by
      rcases JC (JN.1 hj) with h3|h3
      ·exact aa j h3
      ·rw[h3];exact hkn
     have i1:IntKind.i64.wrap ((k:Int)+1)=(k:Int)+1:=IW _ (by omega);have i2:IntKind.i64.wrap (2*(k:Int))=((2*k:Nat):Int):=by rw[IW _ (by omega)];omega
     have i3:((2*k:Nat):Int)<(N:Int):=by omega
     clear hc C aa f hb ar aO V HR hV H2;generalize (ats t (2*k)).kind=X at *;generalize 2*k=K2 at *;have ce:(X==0)=false:=Jd.2 hkn;go_wp2_with fail;refine aK.out.mono ?_;rintro _ _ ⟨rfl,rfl⟩;go_wp2_with fail;go_round
     case rel=>exact⟨k+1,by omega,by go_num,bQ.out⟩
     case measure=>simp[intOf];omega
    ·by_cases bN:k<L
     ·have bX:¬(k:Int)=(L:Int):=by omega
      have ca:((k:Int)==(L:Int))=false:=Jd.2 bX;have bt:=Aa (t:=t) (by rw[hgk,bw.out];exact bN);rw[hgk] at bt;have f:=H2.out k bN;have aZ:=Lib.hid hgk;obtain⟨b,bR,rfl,hb,hc⟩:=HU.out.at (2*k) f;obtain⟨p,q,h,C⟩:=hc (2*k) f;have c1:=C.kind;rw[bt] at c1;clear hc C aa hb H2 bt;by_cases B:k=1024
      ·have:=qJ t
       omega
      ·have HE:=Lib.hid (aO.out (by rw[hgk];exact B))
       obtain⟨x1,x2,x3,x4,x5⟩:=HR.out.wide;have ag:=HR.out.gap1024 (by rw[hgk];exact B);have aj:=HR.out.un_len;rw[hgk] at x3;have aG:=Lib.hid (λW v (h:NL W v ((aN t).set (2*k) (aH name pub)))=>rM v _ (wK t K) k W h ag (by rw[JA];exact x1) x3);obtain⟨y1,y2,y3⟩:=lO (t:=(aN t).set (2*k) (aH name pub)) (i:=k) ag (by rw[JA];exact x1) x3;have aT:aP ((aN t).set (2*k) (aH name pub)) k=aP (aN t) k:=wx (JA ..) k;have al:iw t name pub=(aP ((aN t).set (2*k) (aH name pub)) k).foldl (λo x=>cR o k x) ((aN t).set (2*k) (aH name pub)):=by
        rw[aT];unfold iw;rw[hgk]
       have aw:(aN t).length<=100000/\2*k<(aN t).length:=by
        have:=bP ag;have:=bi (wK t K);have:=bC (wK t K);omega
       have ax:∀ m,m<wK t K->ats (((aP ((aN t).set (2*k) (aH name pub)) k).take m).foldl (λo x=>cR o k x) ((aN t).set (2*k) (aH name pub))) ((aP ((aN t).set (2*k) (aH name pub)) k).getD m 0)=ats t ((aP ((aN t).set (2*k) (aH name pub)) k).getD m 0):=λm H=>by
        have aV:(aP ((aN t).set (2*k) (aH name pub)) k).Nodup:=by rw[y1];exact qH _ _
        have ay:m<(aP ((aN t).set (2*k) (aH name pub)) k).length:=by rw[y3];exact H
        have a0:(aP ((aN t).set (2*k) (aH name pub)) k).getD m 0=(aP ((aN t).set (2*k) (aH name pub)) k)[m]:=by rw[IU,IV ay];rfl
        rw[tR _ _ _ _ (aV.sublist (List.take_sublist _ _)) (λy hy=>by
         obtain⟨j,hj,rfl⟩:=JW (List.mem_of_mem_take hy);have:=y2 j hj;rwa [IU,IV hj] at this),if_neg,fc _ _ _ _ aw.2,if_neg,x4]
        ·rw[a0]
         have:=gU (K:=wK t K) (i:=k) (x:=(aP ((aN t).set (2*k) (aH name pub)) k)[m]) (by rw[<-y1];exact JD ay);omega
        ·rintro⟨ak,_⟩
         rw[a0] at ak;obtain⟨j,hj,e⟩:=JW ak;rw[Jv] at hj;rw[LM] at e;exact(JU.1 aV) j m (by omega) ay (by omega) e
       have l:((dx t=lvs t->aN t=t++List.replicate (t.length+1) aY)/\(dx t≠lvs t->aN t=t)):=by
        unfold aN;exact⟨λh=>if_pos h,λh=>if_neg h⟩
       rw[hgk,bw.out,aM.out] at l;have HT:Hid (∀ m,m<wK t K->((aP ((aN t).set (2*k) (aH name pub)) k).take (m+1)).foldl (λo x=>cR o k x) ((aN t).set (2*k) (aH name pub))=cR (((aP ((aN t).set (2*k) (aH name pub)) k).take m).foldl (λo x=>cR o k x) ((aN t).set (2*k) (aH name pub))) k ((aP ((aN t).set (2*k) (aH name pub)) k).getD m 0)):=λm H=>pA _ _ _ m 0 (by rw[y3];exact H)
       have P:Hid (((aP ((aN t).set (2*k) (aH name pub)) k).take (wK t K)).foldl (λo x=>cR o k x) ((aN t).set (2*k) (aH name pub))=iw t name pub):=by
        unfold Hid;rw[al,JG (by rw[y3];exact Ja _)]
       have Z:Hid (((aP ((aN t).set (2*k) (aH name pub)) k).take 0).foldl (λo x=>cR o k x) ((aN t).set (2*k) (aH name pub))=(aN t).set (2*k) (aH name pub)):=rfl;have E:Hid (∀ m,(((aP ((aN t).set (2*k) (aH name pub)) k).take m).foldl (λo x=>cR o k x) ((aN t).set (2*k) (aH name pub))).length=(aN t).length):=λm=>by rw[qI,JA]
       have Q:=Lib.hid (λm h=>pz (aP ((aN t).set (2*k) (aH name pub)) k) m h);have aR:Hid (((aP ((aN t).set (2*k) (aH name pub)) k).map fun(n:Nat)=>(n:Int)).length=wK t K):=by unfold Hid;rw[JI,y3]
       have G:Hid (∀ m,m<wK t K->(aP ((aN t).set (2*k) (aH name pub)) k).getD m 0<(aN t).length):=λm H=>by
        have:=y2 m (by rw[y3];exact H);rwa [JA] at this
       obtain⟨F,hF⟩:∃ F:Nat->List Nod,F=λm=>((aP ((aN t).set (2*k) (aH name pub)) k).take m).foldl (λo x=>cR o k x) ((aN t).set (2*k) (aH name pub)):=⟨_,rfl⟩
       have a9:∀ m,((aP ((aN t).set (2*k) (aH name pub)) k).take m).foldl (λo x=>cR o k x) ((aN t).set (2*k) (aH name pub))=F m:=λm=>by rw[hF]
       simp only[a9] at HT Z P E ax;have an:Hid (∀ m,m<wK t K->(ats (F m) ((aP ((aN t).set (2*k) (aH name pub)) k).getD m 0)).un.length<=100000):=λm H=>by
        rw[ax m H];have:=aj ((aP ((aN t).set (2*k) (aH name pub)) k).getD m 0);omega
       rw[y3] at Q;clear hF a9 al aT y1 y2 y3 ax aj x2 x4 x5;generalize (aP ((aN t).set (2*k) (aH name pub)) k).map (fun(n:Nat)=>(n:Int))=PI at *;generalize aP ((aN t).set (2*k) (aH name pub)) k=PT at *;obtain⟨T0,aB⟩:∃ T0,(aN t).set (2*k) (aH name pub)=T0:=⟨_,rfl⟩;have M:=Lib.hid aB;rw[aB] at aG Z;clear aB;generalize iw t name pub=b6 at *;obtain⟨bm,ai,T⟩:=Jb x1 aw;clear x1 aw bm;obtain⟨WT,a6⟩:∃ WT,aN t=WT:=⟨_,rfl⟩;rw[a6] at l ai T E G M;obtain⟨K9,a7⟩:∃ K9,wK t K=K9:=⟨_,rfl⟩;rw[a7] at ag x3 HT P Q aR G an;clear a6 a7 x3;have i2:IntKind.i64.wrap (2*(k:Int))=((2*k:Nat):Int):=by rw[IW _ (by omega)];omega
       have bs:¬(k:Int)=1024:=by omega
       have bU:((k:Int)==1024)=false:=Jd.2 bs;have bl:=Lib.hid (l.2 (by omega));have bS:((2*k:Nat):Int)<(N:Int):=by omega
       clear l ar aO HR V hgk;go_wp2_with fail;refine aK.out.mono ?_;rintro _ _ ⟨rfl,rfl⟩;go_wp2_with(at_builtin;refine mB (o:=⟨some 51,_,_,_,_,_⟩) S rfl _ _ rfl w.heap.size _ [] rfl (NO.empty 81 w) _ t rfl (HU.out.apart ((Kp.refl _).alloc _) (λg B=>by cases B;exact Ja _)) (by have:=aM.out;simp;omega) (by simp) ?_;intro v1 w1 o1 g1 _;have k1:Kp w w1:=Kp.grown ((Kp.refl _).alloc _) g1 (λk hk=>by cases hk;exact Ja _);rw[JR] at o1)
       have o:=o1;have Y:=k1;rw[<-bl.out] at o;have bj:=Lib.hid k1;have O1:=Lib.hid (Jb o Y);clear o1 g1 k1 o Y;go_loopw[13] (λv wr=>NO 81 wr w.heap.size v WT/\Kp w wr) (λ_ _=>0)
       case atStart=>exact O1.out
       case round=>
        obtain⟨o,Y⟩:=hrel;have aq:=Lib.hid (HL.out wr Y);clear O1 bj HL aK;obtain⟨av,nv,cv,rfl⟩:=o.nl.sl;have OK:=Lib.hid (Jb o Y);clear o Y;go_wp2_with fail;refine aq.out.mono ?_;rintro _ _ ⟨rfl,rfl⟩;obtain⟨o,Y⟩:=OK.out;clear OK aq;obtain⟨U,cb,ef,b1,b2,b3,b4,_⟩:=o.form (by omega);simp only[Ji] at ef;obtain⟨rfl,aU,rfl⟩:=ef;rw[aU] at o ⊢;clear aU;obtain⟨O,bu⟩:∃ O,WT.length=O:=⟨_,rfl⟩;rw[bu] at o b3 ai T E G ⊢;have i3:((2*k:Nat):Int)<(O:Int):=by omega
        have bD:=Lib.hid (hV.out.kp Y);have bJ:=Lib.hid (hV.out.apart (v:=.slice (some ⟨U,0,none⟩) O cv) (λg B=>by cases B;exact b1));have bn:=Lib.hid Y;obtain⟨K2,a8⟩:∃ K2,2*k=K2:=⟨_,rfl⟩;rw[a8] at i2 i3 T M;clear a8;go_wp2_with(refine kZ iQ rfl rfl (.tmp 75) (.tmp 74) rfl w.heap.size U cv O WT o K2 (by omega) (aH name pub) (.slice ap pub.length cp) (.slice none 0 0) (.slice none 0 0) rfl rfl ⟨bD.out,RI.nil _,cL _⟩ bJ.out (aQ.nil _ _ _) (aQ.nil _ _ _) ?_;intro w5 o5 g5)
        have k5:Kp w w5:=Kp.grown (v:=.slice (some ⟨U,0,none⟩) O cv) Y g5 (λk hk=>by cases hk;exact b1);have aE:U<w5.heap.size:=Jh b2 g5.size;rw[M.out] at o5;have K5:=Lib.hid k5;clear o g5 Y bn;go_wp2_with fail;refine(aG.out w5 _ o5.nl).mono ?_;rintro _ w2 ⟨⟨pv,rfl,o2⟩,k2⟩;have au:=Lib.hid (o2.apart (v:=.slice (some ⟨U,0,none⟩) O cv) (λg B=>by cases B;exact aE));have r2:=o2.ri;obtain⟨bB,bz,e2,p2,s2⟩:=r2.shape;subst e2;rw[aR.out] at r2 p2 au ⊢;have bb:=Lib.hid r2;have HO:=Lib.hid (o5.kp k2);have HK:=Lib.hid (k5.trans k2);have bA:=Jh aE k2.size;clear aG o5 o2 r2 k5 k2 K5 b2 aE;go_wp2_with fail;go_loopw[15] (λx wr=>∃ m:Nat,m<=K9/\x=.int .i64 (m:Int)/\NO 81 wr w.heap.size (.slice (some ⟨U,0,none⟩) O cv) (F m)/\RI wr (.slice bB K9 bz) PI/\Kp w wr/\U<wr.heap.size) (λx _=>(K9 - (intOf x).toNat))
        case atStart=>exact⟨0,Jl _,rfl,by rw[Z.out];exact HO.out,bb.out,HK.out,bA⟩
        case round=>
         obtain⟨m,H,rfl,ho,af,A,aA⟩:=hrel;by_cases s:m<K9
         ·obtain⟨g1,o1,rfl,_,a4⟩:=af.at m s
          have h1:=a4 m s;rw[Q.out m s] at h1;have bV:=G.out m s;have ah:=HT.out m s;have aq:=E.out m;have am:=an.out m s;have i1:IntKind.i64.wrap ((m:Int)+1)=(m:Int)+1:=IW _ (by omega);have i4:((PT.getD m 0:Nat):Int)<(O:Int):=by omega
          have i5:(m:Int)<(K9:Int):=by omega
          obtain⟨b0,b5,ee,_,_,_,_,a5⟩:=ho.form (by omega);simp only[Ji,JL,Kn] at ee;obtain⟨⟨rfl,_,_⟩,bo,rfl⟩:=ee;clear bo;obtain⟨p,q,hh,C,a1,a2,a3⟩:=a5 (PT.getD m 0) (by omega);have c0:=C.kind;have c1:=C.name;have c2:=C.pubC;have c3:=C.unC;have c4:=C.hashC;have HN:=Lib.hid C.2;have aL:=Lib.hid (Jb a1 a3);have aF:=Lib.hid af;have aI:=Lib.hid ho;have bd:=Lib.hid C;obtain⟨xp,np,ab,rfl⟩:=az C.2.pub;obtain⟨xq,nq,aS,rfl⟩:=C.2.un.sl;obtain⟨xh,nh,ad,rfl⟩:=az C.2.hash;clear HT E G Q a4 Z P HO bb HK an a5 C a1 a2 a3 af ho;generalize PT.getD m 0=X at *;by_cases f:(ats (F m) X).kind=2
          ·have e9:F (m+1)=(F m).set X (gO (ats (F m) X) k):=by rw[ah];exact if_pos f
           have E9:=Lib.hid e9;have ao:=Lib.hid (λW (hW:Kp wr W)=>vV (.slice xq nq aS) _ (k:Int) W (HN.out.un.kp hW) am);rw[f] at c0;have bg:=Lib.hid f;obtain⟨NM,aC⟩:∃ NM,(ats (F m) X).name=NM:=⟨_,rfl⟩;have bc:=Lib.hid aC;rw[aC] at c1;clear ah e9 f am aC;go_wp2_with fail;refine(ao.out _ ((Kp.refl _).alloc _)).mono ?_;rintro _ w3 ⟨⟨r,rfl,o3⟩,k3⟩;have bx:=(Bx.new wr 81 #[.int .i64 2,.int .i64 NM,.slice xp np ab,.slice xq nq aS,.slice xh nh ad]).kp k3;have be:Hid (Kp wr w3):=((Kp.refl wr).alloc _).trans k3;have d3:=bx.cell 3;have f3:=bx.frozen 3;have J:=bx.set 3 r;have d:Hid (Kp wr (w3.setCell ⟨wr.heap.size,3,none⟩ r)):=be.out.setNew (Ja _) r;have bh:=Lib.hid (o3.apart (v:=.slice (some ⟨U,0,none⟩) O cv) (λg B=>by cases B;simp;omega));have r3:RI (w3.setCell ⟨wr.heap.size,3,none⟩ r) r (jw (ats (F m) X).un (k:Int)):=o3.ri.grown9 (v:=.slice (some ⟨wr.heap.size,0,none⟩) 0 0) ⟨rfl,rfl,rfl,by simp,λz hz bp=>heap_setCell_other w3 ⟨wr.heap.size,3,none⟩ z r (λe=>bp (by rw[e];rfl))⟩ (o3.apart (λg B=>by cases B;simp));have ba:=Lib.hid r3;obtain⟨xr,nr,R,rfl⟩:=o3.ri.sl;have aJ:=Lib.hid (aI.out.kp d.out);clear ao o3 k3 r3 bx;go_wp2_with fail;obtain⟨d0,d1,d2,d4,d5⟩:_/\_/\_/\_/\_:=⟨J.cell 0,J.cell 1,J.cell 2,J.cell 3,J.cell 4⟩;have br:=d.out.cell h1;have I:=aJ.out.there X (by omega);have j0:=(I 0 (by omega)).2;have j1:=(I 1 (by omega)).2;have j2:=(I 2 (by omega)).2;have j3:=(I 3 (by omega)).2;have j4:=(I 4 (by omega)).2;have q0:=d.out.cell c0;have q1:=d.out.cell c1;have q2:=d.out.cell c2;have q3:=d.out.cell c3;have q4:=d.out.cell c4;rw[Lr] at j0;have ae:=aJ.out.stored X (by omega) (gO (ats (F m) X) k) (.slice xp np ab) (.slice xr nr R) (.slice xh nh ad) ⟨HN.out.pub.kp d.out,ba.out,HN.out.hash.kp d.out⟩ aL.out.1 bh.out aL.out.2;rw[<-E9.out] at ae;have aW:bT (gO (ats (F m) X) k) (.slice xp np ab) (.slice xr nr R) (.slice xh nh ad)=[.int .i64 2,.int .i64 NM,.slice xp np ab,.slice xr nr R,.slice xh nh ad]:=by
            rw[<-bc.out,<-bg.out];rfl
           rw[aW] at ae;have bF:=Lib.hid ae;have bH:=Lib.hid (Jb (A.trans d.out) A.size);have bE:Hid (U<(w3.setCell ⟨wr.heap.size,3,none⟩ (.slice xr nr R)).heap.size):=Jh aA d.out.size;have bG:=Lib.hid (aF.out.kp d.out);clear I ae aW aJ d be ba bh HN aL aF aI bd h1 c0 c1 c2 c3 c4 A aA E9 bg bc J d3 f3;obtain⟨W4,bv⟩:∃ W4,w3.setCell ⟨wr.heap.size,3,none⟩ (.slice xr nr R)=W4:=⟨_,rfl⟩;simp only[bv] at *;go_region
           clear d0 d1 d2 d4 d5 br j0 j1 j2 j3 j4 q0 q1 q2 q3 q4;go_wp2_with fail;have D:=bF.out;go_roundw
           case rel=>exact⟨m+1,by omega,by go_num,D.1.kp (Kp.refl _).drew,(bG.out.grown9 (v:=.slice (some ⟨U,0,none⟩) O cv) D.2 au.out).kp (Kp.refl _).drew,(Kp.grown (v:=.slice (some ⟨U,0,none⟩) O cv) bH.out.1 D.2 (λk hk=>by cases hk;exact b1)).drew,Jh bE.out D.2.size⟩
           case measure=>simp[intOf];omega
          ·have e9:F (m+1)=F m:=by rw[ah];exact if_neg f
           have bM:((ats (F m) X).kind==2)=false:=Jd.2 f;have bI:=Lib.hid e9;have bf:=Lib.hid (Jb A aA);generalize (ats (F m) X).kind=KD at *;generalize (ats (F m) X).name=NM at *;clear ah e9 A;go_wp2_with fail;go_roundw
           case rel=>exact⟨m+1,by omega,by go_num,by rw[bI.out];exact aI.out.kp ((Kp.refl _).alloc _),aF.out.kp ((Kp.refl _).alloc _),bf.out.1.alloc _,by simp;have:=bf.out.2;omega⟩
           case measure=>simp[intOf];omega
         ·obtain rfl:m=K9:=by omega
          rw[P.out] at ho;have O5:=Lib.hid (Jb ho A);clear HT E G Q P af ho A;go_wp2_with fail;go_ret3
          exact⟨⟨_,by rw[HE.out.1,HE.out.2.2,aZ.out] <;> rfl,by rw[HE.out.2.1];exact O5.out.1.nl,λ_=>by rw[HE.out.2.1];exact O5.out.1⟩,O5.out.2⟩
     ·obtain rfl:k=L:=by omega
      have aZ:=Lib.hid hgk;have cg:((k:Int)==(k:Int))=true:=beq_self_eq_true _;clear aa H2;by_cases B:k=1024
      ·have HE:=Lib.hid (ar.out (by rw[hgk];exact B))
       clear ar aO HR V hgk HL;subst B;go_wp2_with fail;refine aK.out.mono ?_;rintro _ _ ⟨rfl,rfl⟩;go_wp2_with fail;go_ret3
       exact⟨⟨_,by rw[HE.out.1,HE.out.2.2] <;> rfl,by rw[HE.out.2.1];exact HU.out,λh=>by rw[HE.out.1] at h;exact absurd h (by decide)⟩,Kp.refl _⟩
      ·have HE:=Lib.hid (aO.out (by rw[hgk];exact B))
       obtain⟨x1,x2,x3,x4,x5⟩:=HR.out.wide;have ag:=HR.out.gap1024 (by rw[hgk];exact B);have aj:=HR.out.un_len;rw[hgk] at x3;have aG:=Lib.hid (λW v (h:NL W v ((aN t).set (2*k) (aH name pub)))=>rM v _ (wK t K) k W h ag (by rw[JA];exact x1) x3);obtain⟨y1,y2,y3⟩:=lO (t:=(aN t).set (2*k) (aH name pub)) (i:=k) ag (by rw[JA];exact x1) x3;have aT:aP ((aN t).set (2*k) (aH name pub)) k=aP (aN t) k:=wx (JA ..) k;have al:iw t name pub=(aP ((aN t).set (2*k) (aH name pub)) k).foldl (λo x=>cR o k x) ((aN t).set (2*k) (aH name pub)):=by
        rw[aT];unfold iw;rw[hgk]
       have aw:(aN t).length<=100000/\2*k<(aN t).length:=by
        have:=bP ag;have:=bi (wK t K);have:=bC (wK t K);omega
       have ax:∀ m,m<wK t K->ats (((aP ((aN t).set (2*k) (aH name pub)) k).take m).foldl (λo x=>cR o k x) ((aN t).set (2*k) (aH name pub))) ((aP ((aN t).set (2*k) (aH name pub)) k).getD m 0)=ats t ((aP ((aN t).set (2*k) (aH name pub)) k).getD m 0):=λm H=>by
        have aV:(aP ((aN t).set (2*k) (aH name pub)) k).Nodup:=by rw[y1];exact qH _ _
        have ay:m<(aP ((aN t).set (2*k) (aH name pub)) k).length:=by rw[y3];exact H
        have a0:(aP ((aN t).set (2*k) (aH name pub)) k).getD m 0=(aP ((aN t).set (2*k) (aH name pub)) k)[m]:=by rw[IU,IV ay];rfl
        rw[tR _ _ _ _ (aV.sublist (List.take_sublist _ _)) (λy hy=>by
         obtain⟨j,hj,rfl⟩:=JW (List.mem_of_mem_take hy);have:=y2 j hj;rwa [IU,IV hj] at this),if_neg,fc _ _ _ _ aw.2,if_neg,x4]
        ·rw[a0]
         have:=gU (K:=wK t K) (i:=k) (x:=(aP ((aN t).set (2*k) (aH name pub)) k)[m]) (by rw[<-y1];exact JD ay);omega
        ·rintro⟨ak,_⟩
         rw[a0] at ak;obtain⟨j,hj,e⟩:=JW ak;rw[Jv] at hj;rw[LM] at e;exact(JU.1 aV) j m (by omega) ay (by omega) e
       have l:((dx t=lvs t->aN t=t++List.replicate (t.length+1) aY)/\(dx t≠lvs t->aN t=t)):=by
        unfold aN;exact⟨λh=>if_pos h,λh=>if_neg h⟩
       rw[hgk,bw.out,aM.out] at l;have HT:Hid (∀ m,m<wK t K->((aP ((aN t).set (2*k) (aH name pub)) k).take (m+1)).foldl (λo x=>cR o k x) ((aN t).set (2*k) (aH name pub))=cR (((aP ((aN t).set (2*k) (aH name pub)) k).take m).foldl (λo x=>cR o k x) ((aN t).set (2*k) (aH name pub))) k ((aP ((aN t).set (2*k) (aH name pub)) k).getD m 0)):=λm H=>pA _ _ _ m 0 (by rw[y3];exact H)
       have P:Hid (((aP ((aN t).set (2*k) (aH name pub)) k).take (wK t K)).foldl (λo x=>cR o k x) ((aN t).set (2*k) (aH name pub))=iw t name pub):=by
        unfold Hid;rw[al,JG (by rw[y3];exact Ja _)]
       have Z:Hid (((aP ((aN t).set (2*k) (aH name pub)) k).take 0).foldl (λo x=>cR o k x) ((aN t).set (2*k) (aH name pub))=(aN t).set (2*k) (aH name pub)):=rfl;have E:Hid (∀ m,(((aP ((aN t).set (2*k) (aH name pub)) k).take m).foldl (λo x=>cR o k x) ((aN t).set (2*k) (aH name pub))).length=(aN t).length):=λm=>by rw[qI,JA]
       have Q:=Lib.hid (λm h=>pz (aP ((aN t).set (2*k) (aH name pub)) k) m h);have aR:Hid (((aP ((aN t).set (2*k) (aH name pub)) k).map fun(n:Nat)=>(n:Int)).length=wK t K):=by unfold Hid;rw[JI,y3]
       have G:Hid (∀ m,m<wK t K->(aP ((aN t).set (2*k) (aH name pub)) k).getD m 0<(aN t).length):=λm H=>by
        have:=y2 m (by rw[y3];exact H);rwa [JA] at this
       obtain⟨F,hF⟩:∃ F:Nat->List Nod,F=λm=>((aP ((aN t).set (2*k) (aH name pub)) k).take m).foldl (λo x=>cR o k x) ((aN t).set (2*k) (aH name pub)):=⟨_,rfl⟩
       have a9:∀ m,((aP ((aN t).set (2*k) (aH name pub)) k).take m).foldl (λo x=>cR o k x) ((aN t).set (2*k) (aH name pub))=F m:=λm=>by rw[hF]
       simp only[a9] at HT Z P E ax;have an:Hid (∀ m,m<wK t K->(ats (F m) ((aP ((aN t).set (2*k) (aH name pub)) k).getD m 0)).un.length<=100000):=λm H=>by
        rw[ax m H];have:=aj ((aP ((aN t).set (2*k) (aH name pub)) k).getD m 0);omega
       rw[y3] at Q;clear hF a9 al aT y1 y2 y3 ax aj x2 x4 x5;generalize (aP ((aN t).set (2*k) (aH name pub)) k).map (fun(n:Nat)=>(n:Int))=PI at *;generalize aP ((aN t).set (2*k) (aH name pub)) k=PT at *;obtain⟨T0,aB⟩:∃ T0,(aN t).set (2*k) (aH name pub)=T0:=⟨_,rfl⟩;have M:=Lib.hid aB;rw[aB] at aG Z;clear aB;generalize iw t name pub=b6 at *;obtain⟨bm,ai,T⟩:=Jb x1 aw;clear x1 aw bm;obtain⟨WT,a6⟩:∃ WT,aN t=WT:=⟨_,rfl⟩;rw[a6] at l ai T E G M;obtain⟨K9,a7⟩:∃ K9,wK t K=K9:=⟨_,rfl⟩;rw[a7] at ag x3 HT P Q aR G an;clear a6 a7 x3;have i2:IntKind.i64.wrap (2*(k:Int))=((2*k:Nat):Int):=by rw[IW _ (by omega)];omega
       have bs:¬(k:Int)=1024:=by omega
       have bU:((k:Int)==1024)=false:=Jd.2 bs;have bl:=Lib.hid (l.1 rfl);have bS:IntKind.i64.wrap (2*(N:Int))=((2*N:Nat):Int):=by rw[IW _ (by omega)];omega
       have cd:IntKind.i64.wrap (((2*N:Nat):Int)+1)=((2*N+1:Nat):Int):=by rw[IW _ (by omega)];omega
       clear l ar aO HR V hgk;go_wp2_with fail;refine aK.out.mono ?_;rintro _ _ ⟨rfl,rfl⟩;go_wp2_with(at_builtin;refine mB (o:=⟨some 51,_,_,_,_,_⟩) S rfl _ _ rfl w.heap.size _ [] rfl (NO.empty 81 w) _ t rfl (HU.out.apart ((Kp.refl _).alloc _) (λg B=>by cases B;exact Ja _)) (by have:=aM.out;simp;omega) (by simp) ?_;intro v1 w1 o1 g1 _;have k1:Kp w w1:=Kp.grown ((Kp.refl _).alloc _) g1 (λk hk=>by cases hk;exact Ja _);rw[JR] at o1)
       have bj:=Lib.hid k1;have O1:=Lib.hid (Jb o1 k1);clear o1 g1 k1;go_loopw[13] (λv wr=>∃ m,m<=N+1/\NO 81 wr w.heap.size v (t++List.replicate m aY)/\Kp w wr) (λv _=>2*N+1 - (match v with|.slice _ n _=>n|_=>0))
       case atStart=>exact⟨0,Jl _,by simpa using O1.out.1,O1.out.2⟩
       case round=>
        obtain⟨m,H,o,Y⟩:=hrel;have aq:=Lib.hid (HL.out wr Y);have aX:(t++List.replicate m aY).length=N+m:=by rw[Jc,JT,aM.out]
        obtain⟨av,cv,e9,_,_⟩:=o.nl.shape;subst e9;rw[aX] at o ⊢;have OK:=Lib.hid (Jb o Y);by_cases s:m<N+1
        ·have bZ:((N+m:Nat):Int)<((2*N+1:Nat):Int):=by omega
         have cf:=Y.size;have b8:Hid (NAp (wr.alloc (.cells #[.int .i64 0,.int .i64 0,.slice none 0 0,.slice none 0 0,.slice none 0 0] 81)) (.slice av (N+m) cv) (.slice (some ⟨wr.heap.size,0,none⟩) 1 1) [aY]):=(NL.lit1 wr 81 aY (.slice none 0 0) (.slice none 0 0) (.slice none 0 0) ⟨cL _,RI.nil _,cL _⟩).apart_blank Dy;have b7:=Lib.hid (Dx t m);generalize t++List.replicate m aY=TM at *;clear O1 bj HL aK HT P Z E Q aR G an M bl;go_wp2_with(first
          | (go_at_call 31;refine aq.out.mono ?_;rintro _ _ ⟨rfl,rfl⟩)
          | (at_builtin;refine mB (o:=⟨some 68,_,_,_,_,_⟩) S rfl _ _ rfl w.heap.size _ TM rfl (OK.out.1.kp ((Kp.refl wr).alloc _)) _ [aY] rfl b8.out (by simp;omega) (by simp;omega) ?_;intro v5 w5 o5 g5 _;have k5:Kp w w5:=Kp.grown (OK.out.2.alloc _) g5 OK.out.1.own_ge))
         rw[b7.out] at o5;have bL:(t++List.replicate (m+1) aY).length=N+(m+1):=by rw[Jc,JT,aM.out]
         obtain⟨ci,ch,e9,_,_⟩:=o5.nl.shape;rw[bL] at e9;subst e9;have O9:=Lib.hid (Jb o5 k5);clear o5 k5 g5 o Y;go_roundw
         case rel=>exact⟨m+1,by omega,O9.out.1,O9.out.2⟩
         case measure=>show 2*N+1 - (N+(m+1))<2*N+1 - (N+m);omega
        ·obtain rfl:m=N+1:=by omega
         have bZ:¬((N+(N+1):Nat):Int)<((2*N+1:Nat):Int):=by omega
         clear o Y O1 bj HL aK;rw[<-bl.out] at OK;go_wp2_with fail;refine aq.out.mono ?_;rintro _ _ ⟨rfl,rfl⟩;obtain⟨o,Y⟩:=OK.out;clear OK aq aX;obtain⟨U,cb,ef,b1,b2,b3,b4,_⟩:=o.form (by omega);simp only[Ji] at ef;obtain⟨rfl,aU,rfl⟩:=ef;rw[aU] at o ⊢;have bY:¬((WT.length:Nat):Int)<((2*N+1:Nat):Int):=by omega
         clear aU;obtain⟨O,bu⟩:∃ O,WT.length=O:=⟨_,rfl⟩;rw[bu] at o b3 ai T E G bY ⊢;have i3:((2*k:Nat):Int)<(O:Int):=by omega
         have bD:=Lib.hid (hV.out.kp Y);have bJ:=Lib.hid (hV.out.apart (v:=.slice (some ⟨U,0,none⟩) O cv) (λg B=>by cases B;exact b1));have bn:=Lib.hid Y;obtain⟨K2,a8⟩:∃ K2,2*k=K2:=⟨_,rfl⟩;rw[a8] at i2 i3 T M;clear a8;go_wp2_with(refine kZ iQ rfl rfl (.tmp 75) (.tmp 74) rfl w.heap.size U cv O WT o K2 (by omega) (aH name pub) (.slice ap pub.length cp) (.slice none 0 0) (.slice none 0 0) rfl rfl ⟨bD.out,RI.nil _,cL _⟩ bJ.out (aQ.nil _ _ _) (aQ.nil _ _ _) ?_;intro w5 o5 g5)
         have k5:Kp w w5:=Kp.grown (v:=.slice (some ⟨U,0,none⟩) O cv) Y g5 (λk hk=>by cases hk;exact b1);have aE:U<w5.heap.size:=Jh b2 g5.size;rw[M.out] at o5;have K5:=Lib.hid k5;clear o g5 Y bn;go_wp2_with fail;refine(aG.out w5 _ o5.nl).mono ?_;rintro _ w2 ⟨⟨pv,rfl,o2⟩,k2⟩;have au:=Lib.hid (o2.apart (v:=.slice (some ⟨U,0,none⟩) O cv) (λg B=>by cases B;exact aE));have r2:=o2.ri;obtain⟨bB,bz,e2,p2,s2⟩:=r2.shape;subst e2;rw[aR.out] at r2 p2 au ⊢;have bb:=Lib.hid r2;have HO:=Lib.hid (o5.kp k2);have HK:=Lib.hid (k5.trans k2);have bA:=Jh aE k2.size;clear aG o5 o2 r2 k5 k2 K5 b2 aE;go_wp2_with fail;go_loopw[15] (λx wr=>∃ m:Nat,m<=K9/\x=.int .i64 (m:Int)/\NO 81 wr w.heap.size (.slice (some ⟨U,0,none⟩) O cv) (F m)/\RI wr (.slice bB K9 bz) PI/\Kp w wr/\U<wr.heap.size) (λx _=>(K9 - (intOf x).toNat))
         case atStart=>exact⟨0,Jl _,rfl,by rw[Z.out];exact HO.out,bb.out,HK.out,bA⟩
         case round=>
          obtain⟨m,H,rfl,ho,af,A,aA⟩:=hrel;by_cases s:m<K9
          ·obtain⟨g1,o1,rfl,_,a4⟩:=af.at m s
           have h1:=a4 m s;rw[Q.out m s] at h1;have bV:=G.out m s;have ah:=HT.out m s;have aq:=E.out m;have am:=an.out m s;have i1:IntKind.i64.wrap ((m:Int)+1)=(m:Int)+1:=IW _ (by omega);have i4:((PT.getD m 0:Nat):Int)<(O:Int):=by omega
           have i5:(m:Int)<(K9:Int):=by omega
           obtain⟨b0,b5,ee,_,_,_,_,a5⟩:=ho.form (by omega);simp only[Ji,JL,Kn] at ee;obtain⟨⟨rfl,_,_⟩,bo,rfl⟩:=ee;clear bo;obtain⟨p,q,hh,C,a1,a2,a3⟩:=a5 (PT.getD m 0) (by omega);have c0:=C.kind;have c1:=C.name;have c2:=C.pubC;have c3:=C.unC;have c4:=C.hashC;have HN:=Lib.hid C.2;have aL:=Lib.hid (Jb a1 a3);have aF:=Lib.hid af;have aI:=Lib.hid ho;have bd:=Lib.hid C;obtain⟨xp,np,ab,rfl⟩:=az C.2.pub;obtain⟨xq,nq,aS,rfl⟩:=C.2.un.sl;obtain⟨xh,nh,ad,rfl⟩:=az C.2.hash;clear HT E G Q a4 Z P HO bb HK an a5 C a1 a2 a3 af ho;generalize PT.getD m 0=X at *;by_cases f:(ats (F m) X).kind=2
           ·have e9:F (m+1)=(F m).set X (gO (ats (F m) X) k):=by rw[ah];exact if_pos f
            have E9:=Lib.hid e9;have ao:=Lib.hid (λW (hW:Kp wr W)=>vV (.slice xq nq aS) _ (k:Int) W (HN.out.un.kp hW) am);rw[f] at c0;have bg:=Lib.hid f;obtain⟨NM,aC⟩:∃ NM,(ats (F m) X).name=NM:=⟨_,rfl⟩;have bc:=Lib.hid aC;rw[aC] at c1;clear ah e9 f am aC;go_wp2_with fail;refine(ao.out _ ((Kp.refl _).alloc _)).mono ?_;rintro _ w3 ⟨⟨r,rfl,o3⟩,k3⟩;have bx:=(Bx.new wr 81 #[.int .i64 2,.int .i64 NM,.slice xp np ab,.slice xq nq aS,.slice xh nh ad]).kp k3;have be:Hid (Kp wr w3):=((Kp.refl wr).alloc _).trans k3;have d3:=bx.cell 3;have f3:=bx.frozen 3;have J:=bx.set 3 r;have d:Hid (Kp wr (w3.setCell ⟨wr.heap.size,3,none⟩ r)):=be.out.setNew (Ja _) r;have bh:=Lib.hid (o3.apart (v:=.slice (some ⟨U,0,none⟩) O cv) (λg B=>by cases B;simp;omega));have r3:RI (w3.setCell ⟨wr.heap.size,3,none⟩ r) r (jw (ats (F m) X).un (k:Int)):=o3.ri.grown9 (v:=.slice (some ⟨wr.heap.size,0,none⟩) 0 0) ⟨rfl,rfl,rfl,by simp,λz hz bp=>heap_setCell_other w3 ⟨wr.heap.size,3,none⟩ z r (λe=>bp (by rw[e];rfl))⟩ (o3.apart (λg B=>by cases B;simp));have ba:=Lib.hid r3;obtain⟨xr,nr,R,rfl⟩:=o3.ri.sl;have aJ:=Lib.hid (aI.out.kp d.out);clear ao o3 k3 r3 bx;go_wp2_with fail;obtain⟨d0,d1,d2,d4,d5⟩:_/\_/\_/\_/\_:=⟨J.cell 0,J.cell 1,J.cell 2,J.cell 3,J.cell 4⟩;have br:=d.out.cell h1;have I:=aJ.out.there X (by omega);have j0:=(I 0 (by omega)).2;have j1:=(I 1 (by omega)).2;have j2:=(I 2 (by omega)).2;have j3:=(I 3 (by omega)).2;have j4:=(I 4 (by omega)).2;have q0:=d.out.cell c0;have q1:=d.out.cell c1;have q2:=d.out.cell c2;have q3:=d.out.cell c3;have q4:=d.out.cell c4;rw[Lr] at j0;have ae:=aJ.out.stored X (by omega) (gO (ats (F m) X) k) (.slice xp np ab) (.slice xr nr R) (.slice xh nh ad) ⟨HN.out.pub.kp d.out,ba.out,HN.out.hash.kp d.out⟩ aL.out.1 bh.out aL.out.2;rw[<-E9.out] at ae;have aW:bT (gO (ats (F m) X) k) (.slice xp np ab) (.slice xr nr R) (.slice xh nh ad)=[.int .i64 2,.int .i64 NM,.slice xp np ab,.slice xr nr R,.slice xh nh ad]:=by
             rw[<-bc.out,<-bg.out];rfl
            rw[aW] at ae;have bF:=Lib.hid ae;have bH:=Lib.hid (Jb (A.trans d.out) A.size);have bE:Hid (U<(w3.setCell ⟨wr.heap.size,3,none⟩ (.slice xr nr R)).heap.size):=Jh aA d.out.size;have bG:=Lib.hid (aF.out.kp d.out);clear I ae aW aJ d be ba bh HN aL aF aI bd h1 c0 c1 c2 c3 c4 A aA E9 bg bc J d3 f3;obtain⟨W4,bv⟩:∃ W4,w3.setCell ⟨wr.heap.size,3,none⟩ (.slice xr nr R)=W4:=⟨_,rfl⟩;simp only[bv] at *;go_region
            clear d0 d1 d2 d4 d5 br j0 j1 j2 j3 j4 q0 q1 q2 q3 q4;go_wp2_with fail;have D:=bF.out;go_roundw
            case rel=>exact⟨m+1,by omega,by go_num,D.1.kp (Kp.refl _).drew,(bG.out.grown9 (v:=.slice (some ⟨U,0,none⟩) O cv) D.2 au.out).kp (Kp.refl _).drew,(Kp.grown (v:=.slice (some ⟨U,0,none⟩) O cv) bH.out.1 D.2 (λk hk=>by cases hk;exact b1)).drew,Jh bE.out D.2.size⟩
            case measure=>simp[intOf];omega
           ·have e9:F (m+1)=F m:=by rw[ah];exact if_neg f
            have bM:((ats (F m) X).kind==2)=false:=Jd.2 f;have bI:=Lib.hid e9;have bf:=Lib.hid (Jb A aA);generalize (ats (F m) X).kind=KD at *;generalize (ats (F m) X).name=NM at *;clear ah e9 A;go_wp2_with fail;go_roundw
            case rel=>exact⟨m+1,by omega,by go_num,by rw[bI.out];exact aI.out.kp ((Kp.refl _).alloc _),aF.out.kp ((Kp.refl _).alloc _),bf.out.1.alloc _,by simp;have:=bf.out.2;omega⟩
            case measure=>simp[intOf];omega
          ·obtain rfl:m=K9:=by omega
           rw[P.out] at ho;have O5:=Lib.hid (Jb ho A);clear HT E G Q P af ho A;go_wp2_with fail;go_ret3
           exact⟨⟨_,by rw[HE.out.1,HE.out.2.2,aZ.out] <;> rfl,by rw[HE.out.2.1];exact O5.out.1.nl,λ_=>by rw[HE.out.2.1];exact O5.out.1⟩,O5.out.2⟩
 ·have e1:en t name pub=1:=by unfold en;rw[if_neg H]
  obtain⟨e2,e3⟩:=rV 1 e1 (by decide);rw[e1,e2,e3];rw[Jr H] at HM;clear hv hr H e1 e2 e3 HL z2;go_enter func38,ntmps38;go_wp2_with fail;refine HM.out.mono ?_;rintro _ _ ⟨rfl,rfl⟩;go_wp2_with fail;refine HF.out.mono ?_;rintro _ _ ⟨rfl,rfl⟩;go_wp2_with fail;go_ret3
  exact⟨⟨_,rfl,HU.out,λh=>absurd h (by decide)⟩,Kp.refl _⟩
theorem DA (u v:Value)(t:List Nod)(K:Nat)(name:Int)(pub:List UInt8)(w:World)(b:NL w u t)(a:Rd w v pub)(c:aD t K):
  Calls prog 38 #[u,.int .i64 name,v] w λe w'=>(∃ r,e=.returned (.tuple #[r,.int .i64 (iX t name pub),.int .i64 (en t name pub)])/\NL w' r (ix t name pub))/\Kp w w':=
 (Dz u v t K name pub w b a c).mono λ_ _ ⟨⟨r,g,f,_⟩,d⟩=>⟨⟨r,g,f⟩,d⟩

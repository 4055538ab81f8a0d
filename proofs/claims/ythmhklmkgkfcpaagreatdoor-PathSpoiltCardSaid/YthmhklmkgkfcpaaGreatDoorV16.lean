import Derived.Test.YthmhklmkgkfcpaaGreatDoorV13
import Derived.Test.YthmhklmkgkfcpaaGreatDoorV14
import Derived.Maps.OwnSet
set_option linter.all false
set_option maxHeartbeats 8000000
set_option maxRecDepth 100000
namespace Go.Proofs.YthmhklmkgkfcpaaGreatDoor
open Go.Proofs.Tryz Go.RowKit
variable {K N i x:Nat}{P:Program}{Q:Exit->Act->World->Prop}{a:Act}{b:Array Oper}{g:List Int}{o:Oper}{s:List Nod × List UInt8}{t:List Nod}{v:Value}{w:World}
theorem mK (e:K<=10)(c:t.length=2 ^ (K+1) - 1)(d:i<2 ^ K):aU t i=aC K 0 i/\(∀ k,k<(aU t i).length->(aU t i).getD k 0<t.length)/\(aU t i).length=K:=by
 have f:lvs t=2 ^ K:=by
  have:=bj K;have:=bC K;unfold lvs;omega
 have a:aU t i=aC K 0 i:=by
  unfold aU lgT;rw[f,qe e]
 refine⟨a,λk b=>?_,by rw[a,lA];rfl⟩;rw[Iw,Iy b,c];refine ec d ?_;rw[<-a];exact Jg b
theorem uZ (l:List Nat)(k:Nat)(h:k<l.length):(l.map fun(n:Nat)=>(n:Int)).getD k 0=((l.getD k 0:Nat):Int):=by
 rw[Iw,Jt,Iy h,Iw,Iy h];rfl
theorem rj {α β:Type}(f:β->α->β)(b:β)(l:List α)(k:Nat)(d:α)(h:k<l.length):(l.take (k+1)).foldl f b=f ((l.take k).foldl f b) (l.getD k d):=by
 rw[IP h,List.foldl_append,Iw,Iy h];rfl
theorem jO:(prog.info? 81).map (·.size)=some 5:=by kernel_rfl
theorem CN (a:x<s.1.length)(y:Nat):(ats (bP i s x).1 y).kind=(ats s.1 y).kind:=by
 unfold bP;split
 ·show(ats (s.1.set x _) y).kind=_
  rw[dZ _ _ _ _ a];split
  ·next e=>subst e;rfl
  ·rfl
 ·rfl
theorem vf:(bP i s x).1.length=s.1.length:=by
 unfold bP;split
 ·exact IW ..
 ·rfl
theorem vg {i:Nat}:∀ (l:List Nat) (s:List Nod × List UInt8),(∀ x∈l,x<s.1.length)->∀ y,(ats (l.foldl (bP i) s).1 y).kind=(ats s.1 y).kind
 | [],s,_,y=>rfl
 | x :: l,s,h,y=>by
  show(ats (l.foldl (bP i) (bP i s x)).1 y).kind=_
  rw[vg l (bP i s x) (λz hz=>by rw[vf];exact h z (by simp[hz])) y,CN (h x (by simp)) y]
theorem vj (a:az t K)(g:bq t K)(f:i<2 ^ K):
  bq (ed t i).1 K/\(ed t i).1.length=t.length/\((ed t i).2.length=0\/(ed t i).2.length=32)/\az (ed t i).1 K/\∀ y,(ats (ed t i).1 y).kind=(ats t y).kind:=by
 obtain⟨_,d,_⟩:=mK a.le a.len f;have b:∀ x∈(aU t i).reverse,x<t.length:=λx e=>by
  obtain⟨k,c,rfl⟩:=Jr (List.mem_reverse.1 e);have:=d k c;rwa [Iw,Iy c] at this
 obtain⟨m,l,j,h⟩:=qZ (t:=t) (K:=K) (i:=i) (aU t i).reverse (t,[]) b g rfl (.inl rfl);exact⟨m,l,j,h a,vg _ _ b⟩
theorem CP (a:az t K)(b:bq t K)(i:Int):az (eA t i) K/\bq (eA t i) K/\(eA t i).length=t.length:=by
 by_cases h:bd t i
 ·obtain⟨k,rfl⟩:=IR h.1
  have d:=h.2.1;rw[a.lv] at d;have n:=a.len2;obtain⟨m,l,j,g,f⟩:=vj a b (show k<2 ^ K by omega);have c:=(a.there_iff k).1 h;have e:eA t (k:Int)=(ed t k).1.set (2*k) (dA (ats (ed t k).1 (2*k)) (ed t k).2):=by
   unfold eA;rw[if_pos h,IM]
  rw[e];refine⟨g.hashed (2*k) j (by omega) (by rw[f,c];decide),m.hashed (2*k) (by omega) (by omega),by rw[IW];exact l⟩
 ·have e:eA t i=t:=if_neg h
  rw[e];exact⟨a,b,rfl⟩
theorem az.over {aa:List Nod}(h:az t K)(l:aa.length=t.length)(c:∀ y,ats aa y=ats t y\/(y % 2=1/\(ats aa y=aY\/∃ p:List UInt8,p.length=32/\ats aa y=⟨2,0,p,[],[]⟩))):az aa K:=by
 have n:∀ i,ats aa (2*i)=ats t (2*i):=λi=>by
  rcases c (2*i) with e|⟨e,_⟩
  ·exact e
  ·omega
 have q:∀ y,(ats aa y).kind=1->ats aa y=ats t y:=λy d=>by
  rcases c y with e|⟨_,e|⟨p,_,e⟩⟩
  ·exact e
  ·rw[e] at d;cases d
  ·rw[e] at d;cases d
 refine⟨h.le,l.trans h.len,λy b=>?_,λx y j b g f=>?_,?_⟩
 ·rcases c y with e|⟨u,e|⟨p,s,e⟩⟩
  ·rcases h.okA y with v|⟨C,B,A,z,o⟩
   ·exact .inl (e.trans v)
   ·refine .inr ?_
    rw[e];exact⟨C,B,A,z,λa=>⟨(o a).1,(o a).2.1,λi m=>by
     have:=(o a).2.2 i m;rw[n];exact this⟩⟩
  ·exact .inl e
  ·refine .inr ?_
   rw[e];refine⟨?_,⟨Int.le_refl 0,show(0:Int)<=65535 by decide,s⟩,.inl rfl,λa=>rfl,λ_=>⟨rfl,List.Pairwise.nil,λi m=>by cases m⟩⟩;show(2:Int)=1+(y:Int) % 2
   omega
 ·have w:=q x g
  have a:=q y f;rw[w] at g ⊢;rw[a] at f ⊢;exact h.one x y j (l▸b) g f
 ·obtain⟨x,r,k⟩:=h.used
  refine⟨x,l▸r,?_⟩;have D:x % 2=0:=by
   rcases h.okA x with e|⟨e,_⟩
   ·rw[e] at k;cases k
   ·omega
  rcases c x with e|⟨u,_⟩
  ·rw[e];exact k
  ·omega
theorem bq.over {aa:List Nod}(h:bq t K)(f:aa.length=t.length)(a:∀ y,ats aa y=ats t y\/(y % 2=1/\(ats aa y=aY\/∃ p:List UInt8,p.length=32/\ats aa y=⟨2,0,p,[],[]⟩))):bq aa K:=by
 refine⟨h.le,f.trans h.len,λy=>?_,λy b=>?_⟩
 ·rcases a y with e|⟨_,e|⟨p,c,e⟩⟩
  ·rw[e];exact h.node y
  ·rw[e];exact dM.blank
  ·rw[e]
   exact⟨.inr (.inr rfl),⟨Int.le_refl 0,show(0:Int)<=65535 by decide⟩,by simp only[c];decide,IO _,IO _,λi g=>by cases g⟩
 ·rcases a y with e|⟨d,_⟩
  ·rw[e] at b;exact h.par y b
  ·exact d
theorem az.small (h:az t K):t.length<=2047/\t.length=2*2 ^ K - 1/\0<t.length:=by
 have c:=h.len2;have b:=bY h.le;have a:=bC K;omega
theorem iP {i:Int}(h:az t K)(b:bd t i):∃ k:Nat,i=(k:Int)/\k<2 ^ K/\(ats t (2*k)).kind=1/\2*k<t.length:=by
 obtain⟨c,d,a⟩:=b;obtain⟨k,rfl⟩:=IR c;rw[IM] at a;have:=h.lv;exact⟨k,rfl,by omega,a,pd (by omega)⟩
theorem Do {l:List Int}(h:l.Pairwise (·<·))(b:∀ i∈l,0<=i/\i<1024):l.length<=1024:=by
 have key:∀ k (a:k<l.length),(k:Int)<=l[k]:=by
  intro k;induction k with
  | zero=>intro a;have:=(b _ (Jg a)).1;omega
  | succ k ih=>
   intro a;have d:=ih (by omega);have c:=(Jv.1 h) k (k+1) (by omega) a (by omega);omega
 by_cases e:l.length=0
 ·omega
 ·have d:=key (l.length - 1) (by omega)
  have c:=(b _ (Jg (show l.length - 1<l.length by omega))).2;omega
theorem az.un_len (h:az t K)(x:Nat):(ats t x).un.length<=1024:=by
 by_cases c:x<t.length
 ·obtain⟨m,l,k,j⟩:=uW h.le h.len c
  rcases h.okA x with b|⟨b,o,n,g,f⟩
  ·rw[b];exact IO _
  ·by_cases e:(ats t x).kind=1
   ·rw[g e];exact IO _
   ·have a:=(f (by omega)).2
    exact Do a.1 λi d=>by have:=a.2 i d;omega
 ·rw[iW (by omega)];exact IO _
theorem vJ {u:List Nod}(h:t.length=u.length)(i:Nat):aU t i=aU u i:=by
 unfold aU lgT lvs;rw[h]
theorem Dp {k:Nat}(c:k<=lvs t)(b:k<lvs t->(ats t (2*k)).kind=0)(a:∀ j,j<k->(ats t (2*j)).kind≠0):dc t=k:=zE c b a
theorem Dq (t:List Nod)(m:Nat):(t++List.replicate m aY)++[aY]=t++List.replicate (m+1) aY:=by
 rw[Kb,LH]
theorem Dr (i:Nat):ats [aY] i=aY:=by
 cases i with
 | zero=>rfl
 | succ i=>exact iW (by simp)
theorem ry {name:Int}{pub:List UInt8}(e:Int)(b:dK t name pub=e)(a:e≠0):gO t name pub=t/\iC t name pub=0:=by
 unfold gO iC;rw[b,if_neg a,if_neg a];exact⟨rfl,rfl⟩
theorem Ds (u v:Value)(t:List Nod)(K:Nat)(name:Int)(pub:List UInt8)(w:World)(hu:NL w u t)(hv:Rd w v pub)(hr:az t K):
  Calls prog 38 #[u,.int .i64 name,v] w λe w'=>(∃ r,e=.returned (.tuple #[r,.int .i64 (iC t name pub),.int .i64 (dK t name pub)])/\NL w' r (gO t name pub)/\(dK t name pub=0->NO 81 w' w.heap.size r (gO t name pub)))/\Kp w w':=by
 have S:=uV;obtain⟨z1,z2,z3⟩:=hr.small;have HM:=Lib.hid (re name v pub w hv);have HF:=Lib.hid (Cz u t name w hu (by omega));have HL:=Lib.hid (λW (hW:Kp w W)=>jp u t W (hu.kp hW) (by omega));have HU:=Lib.hid hu;obtain⟨ap,cp,rfl,_,_⟩:=hv.shape;obtain⟨a,c,rfl,p1,s1⟩:=hu.shape;by_cases H:dx name pub
 ·rw[IY H] at HM
  by_cases hf:gd t name=true
  ·have e1:dK t name pub=12:=by unfold dK;rw[if_pos H,if_pos hf]
   obtain⟨e2,e3⟩:=ry 12 e1 (by decide);rw[e1,e2,e3];rw[hf] at HF;clear hu hv hr H hf e1 e2 e3 HL z2;go_enter func38,ntmps38;go_wp2_with fail;refine HM.out.mono ?_;rintro _ _ ⟨rfl,rfl⟩;go_wp2_with fail;refine HF.out.mono ?_;rintro _ _ ⟨rfl,rfl⟩;go_wp2_with fail;go_ret3
   exact⟨⟨_,rfl,HU.out,λh=>absurd h (by decide)⟩,Kp.refl _⟩
  ·have bk:gd t name=false:=by rw[Ka];exact hf
   rw[bk] at HF;have H2:=Lib.hid (λk h=>pd (t:=t) (k:=k) h);have V:=Lib.hid (λk h1 h2 h3=>Dp (t:=t) (k:=k) h1 h2 h3);have bq:=hr.lv;have bK:lvs t<=1024:=by have:=bY hr.le;omega
   have bO:=qj t;have ar:Hid (dc t=1024->dK t name pub=4/\gO t name pub=t/\iC t name pub=0):=λB=>by
    have e1:dK t name pub=4:=by unfold dK;rw[if_pos H,bk,if_pos B];rfl
    obtain⟨e2,e3⟩:=ry 4 e1 (by decide);exact⟨e1,e2,e3⟩
   have aO:Hid (dc t≠1024->dK t name pub=0/\gO t name pub=gN t name pub/\iC t name pub=((dc t:Nat):Int)):=λB=>by
    have e1:dK t name pub=0:=by unfold dK;rw[if_pos H,bk,if_neg B];rfl
    refine⟨e1,?_,?_⟩
    ·unfold gO;rw[e1];rfl
    ·unfold iC;rw[e1];rfl
   have HR:=Lib.hid hr;have hV:=Lib.hid hv;obtain⟨N,hN⟩:∃ N,t.length=N:=⟨_,rfl⟩;have aN:=Lib.hid hN;rw[hN] at p1 HL HF HU H2 z1 z2 z3 ⊢;obtain⟨L,hL⟩:∃ L,lvs t=L:=⟨_,rfl⟩;have bw:=Lib.hid hL;rw[hL] at HL H2 V bq bK bO;have b9:=Lib.hid bq;have cc:=Lib.hid z2;clear hu hv hr H hf bk hN hL bq z2;go_enter func38,ntmps38;go_wp2_with fail;refine HM.out.mono ?_;rintro _ _ ⟨rfl,rfl⟩;go_wp2_with fail;refine HF.out.mono ?_;rintro _ _ ⟨rfl,rfl⟩;clear HM HF;go_wp2_with fail;go_loop [12] (λi=>∃ k:Nat,k<=L/\i=.int .i64 (k:Int)/\(∀ j,j<k->(ats t (2*j)).kind≠0)) (λi=>(L - (intOf i).toNat))
   case atStart=>exact⟨0,IO _,rfl,λj h=>by omega⟩
   case round=>
    obtain⟨k,hk,rfl,aa⟩:=hrel;have aL:=Lib.hid (HL.out _ (Kp.refl w));have bU:(k<L/\(ats t (2*k)).kind≠0)\/dc t=k:=by
     by_cases h1:k<L
     ·by_cases h2:(ats t (2*k)).kind=0
      ·exact .inr (V.out k hk (λ_=>h2) aa)
      ·exact .inl ⟨h1,h2⟩
     ·exact .inr (V.out k hk (λh=>absurd h h1) aa)
    rcases bU with⟨s,hkn⟩|hgk
    ·have f:=H2.out k s
     obtain⟨b,bQ,rfl,hb,hc⟩:=HU.out.at (2*k) f;obtain⟨p,q,h,C⟩:=hc (2*k) f;have c1:=C.kind;have bP:Hid (∀ j,j<k+1->(ats t (2*j)).kind≠0):=λj hj=>by
      rcases Jc (Jn.1 hj) with h3|h3
      ·exact aa j h3
      ·rw[h3];exact hkn
     have i1:IntKind.i64.wrap ((k:Int)+1)=(k:Int)+1:=IA _ (by omega);have i2:IntKind.i64.wrap (2*(k:Int))=((2*k:Nat):Int):=by rw[IA _ (by omega)];omega
     have i3:((2*k:Nat):Int)<(N:Int):=by omega
     clear hc C aa f hb ar aO V HR hV H2;generalize (ats t (2*k)).kind=X at *;generalize 2*k=K2 at *;have ce:(X==0)=false:=ID.2 hkn;go_wp2_with fail;refine aL.out.mono ?_;rintro _ _ ⟨rfl,rfl⟩;go_wp2_with fail;go_round
     case rel=>exact⟨k+1,by omega,by go_num,bP.out⟩
     case measure=>simp[intOf];omega
    ·by_cases bN:k<L
     ·have bW:¬(k:Int)=(L:Int):=by omega
      have ca:((k:Int)==(L:Int))=false:=ID.2 bW;have bt:=zD (t:=t) (by rw[hgk,bw.out];exact bN);rw[hgk] at bt;have f:=H2.out k bN;have aZ:=Lib.hid hgk;obtain⟨b,bQ,rfl,hb,hc⟩:=HU.out.at (2*k) f;obtain⟨p,q,h,C⟩:=hc (2*k) f;have c1:=C.kind;rw[bt] at c1;clear hc C aa hb H2 bt;by_cases B:k=1024
      ·have:=qj t
       omega
      ·have HE:=Lib.hid (aO.out (by rw[hgk];exact B))
       obtain⟨x1,x2,x3,x4,x5⟩:=HR.out.wide;have ag:=HR.out.gap1024 (by rw[hgk];exact B);have aj:=HR.out.un_len;rw[hgk] at x3;have aH:=Lib.hid (λW v (h:NL W v ((aI t).set (2*k) (aD name pub)))=>uY v _ (wK t K) k W h ag (by rw[IW];exact x1) x3);obtain⟨y1,y2,y3⟩:=mK (t:=(aI t).set (2*k) (aD name pub)) (i:=k) ag (by rw[IW];exact x1) x3;have aS:aU ((aI t).set (2*k) (aD name pub)) k=aU (aI t) k:=vJ (IW ..) k;have al:gN t name pub=(aU ((aI t).set (2*k) (aD name pub)) k).foldl (λo x=>cD o k x) ((aI t).set (2*k) (aD name pub)):=by
        rw[aS];unfold gN;rw[hgk]
       have aw:(aI t).length<=100000/\2*k<(aI t).length:=by
        have:=bY ag;have:=bj (wK t K);have:=bC (wK t K);omega
       have ax:∀ m,m<wK t K->ats (((aU ((aI t).set (2*k) (aD name pub)) k).take m).foldl (λo x=>cD o k x) ((aI t).set (2*k) (aD name pub))) ((aU ((aI t).set (2*k) (aD name pub)) k).getD m 0)=ats t ((aU ((aI t).set (2*k) (aD name pub)) k).getD m 0):=λm H=>by
        have aV:(aU ((aI t).set (2*k) (aD name pub)) k).Nodup:=by rw[y1];exact qf _ _
        have ay:m<(aU ((aI t).set (2*k) (aD name pub)) k).length:=by rw[y3];exact H
        have a0:(aU ((aI t).set (2*k) (aD name pub)) k).getD m 0=(aU ((aI t).set (2*k) (aD name pub)) k)[m]:=by rw[Iw,Iy ay];rfl
        rw[tb _ _ _ _ (aV.sublist (List.take_sublist _ _)) (λy hy=>by
         obtain⟨j,hj,rfl⟩:=Jr (List.mem_of_mem_take hy);have:=y2 j hj;rwa [Iw,Iy hj] at this),if_neg,dZ _ _ _ _ aw.2,if_neg,x4]
        ·rw[a0]
         have:=eO (K:=wK t K) (i:=k) (x:=(aU ((aI t).set (2*k) (aD name pub)) k)[m]) (by rw[<-y1];exact Jg ay);omega
        ·rintro⟨ak,_⟩
         rw[a0] at ak;obtain⟨j,hj,e⟩:=Jr ak;rw[Ja] at hj;rw[Lr] at e;exact(Jv.1 aV) j m (by omega) ay (by omega) e
       have l:((dc t=lvs t->aI t=t++List.replicate (t.length+1) aY)/\(dc t≠lvs t->aI t=t)):=by
        unfold aI;exact⟨λh=>if_pos h,λh=>if_neg h⟩
       rw[hgk,bw.out,aN.out] at l;have HT:Hid (∀ m,m<wK t K->((aU ((aI t).set (2*k) (aD name pub)) k).take (m+1)).foldl (λo x=>cD o k x) ((aI t).set (2*k) (aD name pub))=cD (((aU ((aI t).set (2*k) (aD name pub)) k).take m).foldl (λo x=>cD o k x) ((aI t).set (2*k) (aD name pub))) k ((aU ((aI t).set (2*k) (aD name pub)) k).getD m 0)):=λm H=>rj _ _ _ m 0 (by rw[y3];exact H)
       have P:Hid (((aU ((aI t).set (2*k) (aD name pub)) k).take (wK t K)).foldl (λo x=>cD o k x) ((aI t).set (2*k) (aD name pub))=gN t name pub):=by
        unfold Hid;rw[al,Jm (by rw[y3];exact IB _)]
       have Z:Hid (((aU ((aI t).set (2*k) (aD name pub)) k).take 0).foldl (λo x=>cD o k x) ((aI t).set (2*k) (aD name pub))=(aI t).set (2*k) (aD name pub)):=rfl;have E:Hid (∀ m,(((aU ((aI t).set (2*k) (aD name pub)) k).take m).foldl (λo x=>cD o k x) ((aI t).set (2*k) (aD name pub))).length=(aI t).length):=λm=>by rw[qg,IW]
       have Q:=Lib.hid (λm h=>uZ (aU ((aI t).set (2*k) (aD name pub)) k) m h);have aP:Hid (((aU ((aI t).set (2*k) (aD name pub)) k).map fun(n:Nat)=>(n:Int)).length=wK t K):=by unfold Hid;rw[Jl,y3]
       have G:Hid (∀ m,m<wK t K->(aU ((aI t).set (2*k) (aD name pub)) k).getD m 0<(aI t).length):=λm H=>by
        have:=y2 m (by rw[y3];exact H);rwa [IW] at this
       obtain⟨F,hF⟩:∃ F:Nat->List Nod,F=λm=>((aU ((aI t).set (2*k) (aD name pub)) k).take m).foldl (λo x=>cD o k x) ((aI t).set (2*k) (aD name pub)):=⟨_,rfl⟩
       have a9:∀ m,((aU ((aI t).set (2*k) (aD name pub)) k).take m).foldl (λo x=>cD o k x) ((aI t).set (2*k) (aD name pub))=F m:=λm=>by rw[hF]
       simp only[a9] at HT Z P E ax;have an:Hid (∀ m,m<wK t K->(ats (F m) ((aU ((aI t).set (2*k) (aD name pub)) k).getD m 0)).un.length<=100000):=λm H=>by
        rw[ax m H];have:=aj ((aU ((aI t).set (2*k) (aD name pub)) k).getD m 0);omega
       rw[y3] at Q;clear hF a9 al aS y1 y2 y3 ax aj x2 x4 x5;generalize (aU ((aI t).set (2*k) (aD name pub)) k).map (fun(n:Nat)=>(n:Int))=PI at *;generalize aU ((aI t).set (2*k) (aD name pub)) k=PT at *;obtain⟨T0,aC⟩:∃ T0,(aI t).set (2*k) (aD name pub)=T0:=⟨_,rfl⟩;have M:=Lib.hid aC;rw[aC] at aH Z;clear aC;generalize gN t name pub=b6 at *;obtain⟨bm,ai,T⟩:=IC x1 aw;clear x1 aw bm;obtain⟨WT,a6⟩:∃ WT,aI t=WT:=⟨_,rfl⟩;rw[a6] at l ai T E G M;obtain⟨K9,a7⟩:∃ K9,wK t K=K9:=⟨_,rfl⟩;rw[a7] at ag x3 HT P Q aP G an;clear a6 a7 x3;have i2:IntKind.i64.wrap (2*(k:Int))=((2*k:Nat):Int):=by rw[IA _ (by omega)];omega
       have bs:¬(k:Int)=1024:=by omega
       have bS:((k:Int)==1024)=false:=ID.2 bs;have bl:=Lib.hid (l.2 (by omega));have bR:((2*k:Nat):Int)<(N:Int):=by omega
       clear l ar aO HR V hgk;go_wp2_with fail;refine aL.out.mono ?_;rintro _ _ ⟨rfl,rfl⟩;go_wp2_with(at_builtin;refine pY (o:=⟨some 51,_,_,_,_,_⟩) S rfl _ _ rfl w.heap.size _ [] rfl (NO.empty 81 w) _ t rfl (HU.out.apart ((Kp.refl _).alloc _) (λg B=>by cases B;exact IB _)) (by have:=aN.out;simp;omega) (by simp) ?_;intro v1 w1 o1 g1 _;have k1:Kp w w1:=Kp.grown ((Kp.refl _).alloc _) g1 (λk hk=>by cases hk;exact IB _);rw[Js] at o1)
       have o:=o1;have Y:=k1;rw[<-bl.out] at o;have bi:=Lib.hid k1;have O1:=Lib.hid (IC o Y);clear o1 g1 k1 o Y;go_loopw[13] (λv wr=>NO 81 wr w.heap.size v WT/\Kp w wr) (λ_ _=>0)
       case atStart=>exact O1.out
       case round=>
        obtain⟨o,Y⟩:=hrel;have aq:=Lib.hid (HL.out wr Y);clear O1 bi HL aL;obtain⟨av,nv,cv,rfl⟩:=o.nl.sl;have OK:=Lib.hid (IC o Y);clear o Y;go_wp2_with fail;refine aq.out.mono ?_;rintro _ _ ⟨rfl,rfl⟩;obtain⟨o,Y⟩:=OK.out;clear OK aq;obtain⟨U,cb,ef,b1,b2,b3,b4,_⟩:=o.form (by omega);simp only[IG] at ef;obtain⟨rfl,aT,rfl⟩:=ef;rw[aT] at o ⊢;clear aT;obtain⟨O,bu⟩:∃ O,WT.length=O:=⟨_,rfl⟩;rw[bu] at o b3 ai T E G ⊢;have i3:((2*k:Nat):Int)<(O:Int):=by omega
        have bD:=Lib.hid (hV.out.kp Y);have bJ:=Lib.hid (hV.out.apart (v:=.slice (some ⟨U,0,none⟩) O cv) (λg B=>by cases B;exact b1));have bn:=Lib.hid Y;obtain⟨K2,a8⟩:∃ K2,2*k=K2:=⟨_,rfl⟩;rw[a8] at i2 i3 T M;clear a8;go_wp2_with(refine pZ jO rfl rfl (.tmp 75) (.tmp 74) rfl w.heap.size U cv O WT o K2 (by omega) (aD name pub) (.slice ap pub.length cp) (.slice none 0 0) (.slice none 0 0) rfl rfl ⟨bD.out,RI.nil _,cQ _⟩ bJ.out (aR.nil _ _ _) (aR.nil _ _ _) ?_;intro w5 o5 g5)
        have k5:Kp w w5:=Kp.grown (v:=.slice (some ⟨U,0,none⟩) O cv) Y g5 (λk hk=>by cases hk;exact b1);have aF:U<w5.heap.size:=II b2 g5.size;rw[M.out] at o5;have K5:=Lib.hid k5;clear o g5 Y bn;go_wp2_with fail;refine(aH.out w5 _ o5.nl).mono ?_;rintro _ w2 ⟨⟨pv,rfl,o2⟩,k2⟩;have au:=Lib.hid (o2.apart (v:=.slice (some ⟨U,0,none⟩) O cv) (λg B=>by cases B;exact aF));have r2:=o2.ri;obtain⟨bB,bz,e2,p2,s2⟩:=r2.shape;subst e2;rw[aP.out] at r2 p2 au ⊢;have bb:=Lib.hid r2;have HO:=Lib.hid (o5.kp k2);have HK:=Lib.hid (k5.trans k2);have bA:=II aF k2.size;clear aH o5 o2 r2 k5 k2 K5 b2 aF;go_wp2_with fail;go_loopw[15] (λx wr=>∃ m:Nat,m<=K9/\x=.int .i64 (m:Int)/\NO 81 wr w.heap.size (.slice (some ⟨U,0,none⟩) O cv) (F m)/\RI wr (.slice bB K9 bz) PI/\Kp w wr/\U<wr.heap.size) (λx _=>(K9 - (intOf x).toNat))
        case atStart=>exact⟨0,IO _,rfl,by rw[Z.out];exact HO.out,bb.out,HK.out,bA⟩
        case round=>
         obtain⟨m,H,rfl,ho,af,A,aB⟩:=hrel;by_cases s:m<K9
         ·obtain⟨g1,o1,rfl,_,a4⟩:=af.at m s
          have h1:=a4 m s;rw[Q.out m s] at h1;have bT:=G.out m s;have ah:=HT.out m s;have aq:=E.out m;have am:=an.out m s;have i1:IntKind.i64.wrap ((m:Int)+1)=(m:Int)+1:=IA _ (by omega);have i4:((PT.getD m 0:Nat):Int)<(O:Int):=by omega
          have i5:(m:Int)<(K9:Int):=by omega
          obtain⟨b0,b5,ee,_,_,_,_,a5⟩:=ho.form (by omega);simp only[IG,Jo,JY] at ee;obtain⟨⟨rfl,_,_⟩,bo,rfl⟩:=ee;clear bo;obtain⟨p,q,hh,C,a1,a2,a3⟩:=a5 (PT.getD m 0) (by omega);have c0:=C.kind;have c1:=C.name;have c2:=C.pubC;have c3:=C.unC;have c4:=C.hashC;have HN:=Lib.hid C.2;have aM:=Lib.hid (IC a1 a3);have aG:=Lib.hid af;have aJ:=Lib.hid ho;have bd:=Lib.hid C;obtain⟨xp,np,ab,rfl⟩:=aA C.2.pub;obtain⟨xq,nq,aQ,rfl⟩:=C.2.un.sl;obtain⟨xh,nh,ad,rfl⟩:=aA C.2.hash;clear HT E G Q a4 Z P HO bb HK an a5 C a1 a2 a3 af ho;generalize PT.getD m 0=X at *;by_cases f:(ats (F m) X).kind=2
          ·have e9:F (m+1)=(F m).set X (gg (ats (F m) X) k):=by rw[ah];exact if_pos f
           have E9:=Lib.hid e9;have ao:=Lib.hid (λW (hW:Kp wr W)=>uX (.slice xq nq aQ) _ (k:Int) W (HN.out.un.kp hW) am);rw[f] at c0;have bg:=Lib.hid f;obtain⟨NM,aE⟩:∃ NM,(ats (F m) X).name=NM:=⟨_,rfl⟩;have bc:=Lib.hid aE;rw[aE] at c1;clear ah e9 f am aE;go_wp2_with fail;refine(ao.out _ ((Kp.refl _).alloc _)).mono ?_;rintro _ w3 ⟨⟨r,rfl,o3⟩,k3⟩;have bx:=(Bx.new wr 81 #[.int .i64 2,.int .i64 NM,.slice xp np ab,.slice xq nq aQ,.slice xh nh ad]).kp k3;have be:Hid (Kp wr w3):=((Kp.refl wr).alloc _).trans k3;have d3:=bx.cell 3;have f3:=bx.frozen 3;have J:=bx.set 3 r;have d:Hid (Kp wr (w3.setCell ⟨wr.heap.size,3,none⟩ r)):=be.out.setNew (IB _) r;have bh:=Lib.hid (o3.apart (v:=.slice (some ⟨U,0,none⟩) O cv) (λg B=>by cases B;simp;omega));have r3:RI (w3.setCell ⟨wr.heap.size,3,none⟩ r) r (iX (ats (F m) X).un (k:Int)):=o3.ri.grown9 (v:=.slice (some ⟨wr.heap.size,0,none⟩) 0 0) ⟨rfl,rfl,rfl,by simp,λz hz bp=>heap_setCell_other w3 ⟨wr.heap.size,3,none⟩ z r (λe=>bp (by rw[e];rfl))⟩ (o3.apart (λg B=>by cases B;simp));have ba:=Lib.hid r3;obtain⟨xr,nr,R,rfl⟩:=o3.ri.sl;have aK:=Lib.hid (aJ.out.kp d.out);clear ao o3 k3 r3 bx;go_wp2_with fail;obtain⟨d0,d1,d2,d4,d5⟩:_/\_/\_/\_/\_:=⟨J.cell 0,J.cell 1,J.cell 2,J.cell 3,J.cell 4⟩;have br:=d.out.cell h1;have I:=aK.out.there X (by omega);have j0:=(I 0 (by omega)).2;have j1:=(I 1 (by omega)).2;have j2:=(I 2 (by omega)).2;have j3:=(I 3 (by omega)).2;have j4:=(I 4 (by omega)).2;have q0:=d.out.cell c0;have q1:=d.out.cell c1;have q2:=d.out.cell c2;have q3:=d.out.cell c3;have q4:=d.out.cell c4;rw[Lp] at j0;have ae:=aK.out.stored X (by omega) (gg (ats (F m) X) k) (.slice xp np ab) (.slice xr nr R) (.slice xh nh ad) ⟨HN.out.pub.kp d.out,ba.out,HN.out.hash.kp d.out⟩ aM.out.1 bh.out aM.out.2;rw[<-E9.out] at ae;have aW:bV (gg (ats (F m) X) k) (.slice xp np ab) (.slice xr nr R) (.slice xh nh ad)=[.int .i64 2,.int .i64 NM,.slice xp np ab,.slice xr nr R,.slice xh nh ad]:=by
            rw[<-bc.out,<-bg.out];rfl
           rw[aW] at ae;have bF:=Lib.hid ae;have bH:=Lib.hid (IC (A.trans d.out) A.size);have bE:Hid (U<(w3.setCell ⟨wr.heap.size,3,none⟩ (.slice xr nr R)).heap.size):=II aB d.out.size;have bG:=Lib.hid (aG.out.kp d.out);clear I ae aW aK d be ba bh HN aM aG aJ bd h1 c0 c1 c2 c3 c4 A aB E9 bg bc J d3 f3;obtain⟨W4,bv⟩:∃ W4,w3.setCell ⟨wr.heap.size,3,none⟩ (.slice xr nr R)=W4:=⟨_,rfl⟩;simp only[bv] at *;go_region
           clear d0 d1 d2 d4 d5 br j0 j1 j2 j3 j4 q0 q1 q2 q3 q4;go_wp2_with fail;have D:=bF.out;go_roundw
           case rel=>exact⟨m+1,by omega,by go_num,D.1.kp (Kp.refl _).drew,(bG.out.grown9 (v:=.slice (some ⟨U,0,none⟩) O cv) D.2 au.out).kp (Kp.refl _).drew,(Kp.grown (v:=.slice (some ⟨U,0,none⟩) O cv) bH.out.1 D.2 (λk hk=>by cases hk;exact b1)).drew,II bE.out D.2.size⟩
           case measure=>simp[intOf];omega
          ·have e9:F (m+1)=F m:=by rw[ah];exact if_neg f
           have bM:((ats (F m) X).kind==2)=false:=ID.2 f;have bI:=Lib.hid e9;have bf:=Lib.hid (IC A aB);generalize (ats (F m) X).kind=KD at *;generalize (ats (F m) X).name=NM at *;clear ah e9 A;go_wp2_with fail;go_roundw
           case rel=>exact⟨m+1,by omega,by go_num,by rw[bI.out];exact aJ.out.kp ((Kp.refl _).alloc _),aG.out.kp ((Kp.refl _).alloc _),bf.out.1.alloc _,by simp;have:=bf.out.2;omega⟩
           case measure=>simp[intOf];omega
         ·obtain rfl:m=K9:=by omega
          rw[P.out] at ho;have O5:=Lib.hid (IC ho A);clear HT E G Q P af ho A;go_wp2_with fail;go_ret3
          exact⟨⟨_,by rw[HE.out.1,HE.out.2.2,aZ.out] <;> rfl,by rw[HE.out.2.1];exact O5.out.1.nl,λ_=>by rw[HE.out.2.1];exact O5.out.1⟩,O5.out.2⟩
     ·obtain rfl:k=L:=by omega
      have aZ:=Lib.hid hgk;have cg:((k:Int)==(k:Int))=true:=beq_self_eq_true _;clear aa H2;by_cases B:k=1024
      ·have HE:=Lib.hid (ar.out (by rw[hgk];exact B))
       clear ar aO HR V hgk HL;subst B;go_wp2_with fail;refine aL.out.mono ?_;rintro _ _ ⟨rfl,rfl⟩;go_wp2_with fail;go_ret3
       exact⟨⟨_,by rw[HE.out.1,HE.out.2.2] <;> rfl,by rw[HE.out.2.1];exact HU.out,λh=>by rw[HE.out.1] at h;exact absurd h (by decide)⟩,Kp.refl _⟩
      ·have HE:=Lib.hid (aO.out (by rw[hgk];exact B))
       obtain⟨x1,x2,x3,x4,x5⟩:=HR.out.wide;have ag:=HR.out.gap1024 (by rw[hgk];exact B);have aj:=HR.out.un_len;rw[hgk] at x3;have aH:=Lib.hid (λW v (h:NL W v ((aI t).set (2*k) (aD name pub)))=>uY v _ (wK t K) k W h ag (by rw[IW];exact x1) x3);obtain⟨y1,y2,y3⟩:=mK (t:=(aI t).set (2*k) (aD name pub)) (i:=k) ag (by rw[IW];exact x1) x3;have aS:aU ((aI t).set (2*k) (aD name pub)) k=aU (aI t) k:=vJ (IW ..) k;have al:gN t name pub=(aU ((aI t).set (2*k) (aD name pub)) k).foldl (λo x=>cD o k x) ((aI t).set (2*k) (aD name pub)):=by
        rw[aS];unfold gN;rw[hgk]
       have aw:(aI t).length<=100000/\2*k<(aI t).length:=by
        have:=bY ag;have:=bj (wK t K);have:=bC (wK t K);omega
       have ax:∀ m,m<wK t K->ats (((aU ((aI t).set (2*k) (aD name pub)) k).take m).foldl (λo x=>cD o k x) ((aI t).set (2*k) (aD name pub))) ((aU ((aI t).set (2*k) (aD name pub)) k).getD m 0)=ats t ((aU ((aI t).set (2*k) (aD name pub)) k).getD m 0):=λm H=>by
        have aV:(aU ((aI t).set (2*k) (aD name pub)) k).Nodup:=by rw[y1];exact qf _ _
        have ay:m<(aU ((aI t).set (2*k) (aD name pub)) k).length:=by rw[y3];exact H
        have a0:(aU ((aI t).set (2*k) (aD name pub)) k).getD m 0=(aU ((aI t).set (2*k) (aD name pub)) k)[m]:=by rw[Iw,Iy ay];rfl
        rw[tb _ _ _ _ (aV.sublist (List.take_sublist _ _)) (λy hy=>by
         obtain⟨j,hj,rfl⟩:=Jr (List.mem_of_mem_take hy);have:=y2 j hj;rwa [Iw,Iy hj] at this),if_neg,dZ _ _ _ _ aw.2,if_neg,x4]
        ·rw[a0]
         have:=eO (K:=wK t K) (i:=k) (x:=(aU ((aI t).set (2*k) (aD name pub)) k)[m]) (by rw[<-y1];exact Jg ay);omega
        ·rintro⟨ak,_⟩
         rw[a0] at ak;obtain⟨j,hj,e⟩:=Jr ak;rw[Ja] at hj;rw[Lr] at e;exact(Jv.1 aV) j m (by omega) ay (by omega) e
       have l:((dc t=lvs t->aI t=t++List.replicate (t.length+1) aY)/\(dc t≠lvs t->aI t=t)):=by
        unfold aI;exact⟨λh=>if_pos h,λh=>if_neg h⟩
       rw[hgk,bw.out,aN.out] at l;have HT:Hid (∀ m,m<wK t K->((aU ((aI t).set (2*k) (aD name pub)) k).take (m+1)).foldl (λo x=>cD o k x) ((aI t).set (2*k) (aD name pub))=cD (((aU ((aI t).set (2*k) (aD name pub)) k).take m).foldl (λo x=>cD o k x) ((aI t).set (2*k) (aD name pub))) k ((aU ((aI t).set (2*k) (aD name pub)) k).getD m 0)):=λm H=>rj _ _ _ m 0 (by rw[y3];exact H)
       have P:Hid (((aU ((aI t).set (2*k) (aD name pub)) k).take (wK t K)).foldl (λo x=>cD o k x) ((aI t).set (2*k) (aD name pub))=gN t name pub):=by
        unfold Hid;rw[al,Jm (by rw[y3];exact IB _)]
       have Z:Hid (((aU ((aI t).set (2*k) (aD name pub)) k).take 0).foldl (λo x=>cD o k x) ((aI t).set (2*k) (aD name pub))=(aI t).set (2*k) (aD name pub)):=rfl;have E:Hid (∀ m,(((aU ((aI t).set (2*k) (aD name pub)) k).take m).foldl (λo x=>cD o k x) ((aI t).set (2*k) (aD name pub))).length=(aI t).length):=λm=>by rw[qg,IW]
       have Q:=Lib.hid (λm h=>uZ (aU ((aI t).set (2*k) (aD name pub)) k) m h);have aP:Hid (((aU ((aI t).set (2*k) (aD name pub)) k).map fun(n:Nat)=>(n:Int)).length=wK t K):=by unfold Hid;rw[Jl,y3]
       have G:Hid (∀ m,m<wK t K->(aU ((aI t).set (2*k) (aD name pub)) k).getD m 0<(aI t).length):=λm H=>by
        have:=y2 m (by rw[y3];exact H);rwa [IW] at this
       obtain⟨F,hF⟩:∃ F:Nat->List Nod,F=λm=>((aU ((aI t).set (2*k) (aD name pub)) k).take m).foldl (λo x=>cD o k x) ((aI t).set (2*k) (aD name pub)):=⟨_,rfl⟩
       have a9:∀ m,((aU ((aI t).set (2*k) (aD name pub)) k).take m).foldl (λo x=>cD o k x) ((aI t).set (2*k) (aD name pub))=F m:=λm=>by rw[hF]
       simp only[a9] at HT Z P E ax;have an:Hid (∀ m,m<wK t K->(ats (F m) ((aU ((aI t).set (2*k) (aD name pub)) k).getD m 0)).un.length<=100000):=λm H=>by
        rw[ax m H];have:=aj ((aU ((aI t).set (2*k) (aD name pub)) k).getD m 0);omega
       rw[y3] at Q;clear hF a9 al aS y1 y2 y3 ax aj x2 x4 x5;generalize (aU ((aI t).set (2*k) (aD name pub)) k).map (fun(n:Nat)=>(n:Int))=PI at *;generalize aU ((aI t).set (2*k) (aD name pub)) k=PT at *;obtain⟨T0,aC⟩:∃ T0,(aI t).set (2*k) (aD name pub)=T0:=⟨_,rfl⟩;have M:=Lib.hid aC;rw[aC] at aH Z;clear aC;generalize gN t name pub=b6 at *;obtain⟨bm,ai,T⟩:=IC x1 aw;clear x1 aw bm;obtain⟨WT,a6⟩:∃ WT,aI t=WT:=⟨_,rfl⟩;rw[a6] at l ai T E G M;obtain⟨K9,a7⟩:∃ K9,wK t K=K9:=⟨_,rfl⟩;rw[a7] at ag x3 HT P Q aP G an;clear a6 a7 x3;have i2:IntKind.i64.wrap (2*(k:Int))=((2*k:Nat):Int):=by rw[IA _ (by omega)];omega
       have bs:¬(k:Int)=1024:=by omega
       have bS:((k:Int)==1024)=false:=ID.2 bs;have bl:=Lib.hid (l.1 rfl);have bR:IntKind.i64.wrap (2*(N:Int))=((2*N:Nat):Int):=by rw[IA _ (by omega)];omega
       have cd:IntKind.i64.wrap (((2*N:Nat):Int)+1)=((2*N+1:Nat):Int):=by rw[IA _ (by omega)];omega
       clear l ar aO HR V hgk;go_wp2_with fail;refine aL.out.mono ?_;rintro _ _ ⟨rfl,rfl⟩;go_wp2_with(at_builtin;refine pY (o:=⟨some 51,_,_,_,_,_⟩) S rfl _ _ rfl w.heap.size _ [] rfl (NO.empty 81 w) _ t rfl (HU.out.apart ((Kp.refl _).alloc _) (λg B=>by cases B;exact IB _)) (by have:=aN.out;simp;omega) (by simp) ?_;intro v1 w1 o1 g1 _;have k1:Kp w w1:=Kp.grown ((Kp.refl _).alloc _) g1 (λk hk=>by cases hk;exact IB _);rw[Js] at o1)
       have bi:=Lib.hid k1;have O1:=Lib.hid (IC o1 k1);clear o1 g1 k1;go_loopw[13] (λv wr=>∃ m,m<=N+1/\NO 81 wr w.heap.size v (t++List.replicate m aY)/\Kp w wr) (λv _=>2*N+1 - (match v with|.slice _ n _=>n|_=>0))
       case atStart=>exact⟨0,IO _,by simpa using O1.out.1,O1.out.2⟩
       case round=>
        obtain⟨m,H,o,Y⟩:=hrel;have aq:=Lib.hid (HL.out wr Y);have aX:(t++List.replicate m aY).length=N+m:=by rw[IE,JD,aN.out]
        obtain⟨av,cv,e9,_,_⟩:=o.nl.shape;subst e9;rw[aX] at o ⊢;have OK:=Lib.hid (IC o Y);by_cases s:m<N+1
        ·have bZ:((N+m:Nat):Int)<((2*N+1:Nat):Int):=by omega
         have cf:=Y.size;have b8:Hid (NAp (wr.alloc (.cells #[.int .i64 0,.int .i64 0,.slice none 0 0,.slice none 0 0,.slice none 0 0] 81)) (.slice av (N+m) cv) (.slice (some ⟨wr.heap.size,0,none⟩) 1 1) [aY]):=(NL.lit1 wr 81 aY (.slice none 0 0) (.slice none 0 0) (.slice none 0 0) ⟨cQ _,RI.nil _,cQ _⟩).apart_blank Dr;have b7:=Lib.hid (Dq t m);generalize t++List.replicate m aY=TM at *;clear O1 bi HL aL HT P Z E Q aP G an M bl;go_wp2_with(first
          | (go_at_call 31;refine aq.out.mono ?_;rintro _ _ ⟨rfl,rfl⟩)
          | (at_builtin;refine pY (o:=⟨some 68,_,_,_,_,_⟩) S rfl _ _ rfl w.heap.size _ TM rfl (OK.out.1.kp ((Kp.refl wr).alloc _)) _ [aY] rfl b8.out (by simp;omega) (by simp;omega) ?_;intro v5 w5 o5 g5 _;have k5:Kp w w5:=Kp.grown (OK.out.2.alloc _) g5 OK.out.1.own_ge))
         rw[b7.out] at o5;have bL:(t++List.replicate (m+1) aY).length=N+(m+1):=by rw[IE,JD,aN.out]
         obtain⟨ci,ch,e9,_,_⟩:=o5.nl.shape;rw[bL] at e9;subst e9;have O9:=Lib.hid (IC o5 k5);clear o5 k5 g5 o Y;go_roundw
         case rel=>exact⟨m+1,by omega,O9.out.1,O9.out.2⟩
         case measure=>show 2*N+1 - (N+(m+1))<2*N+1 - (N+m);omega
        ·obtain rfl:m=N+1:=by omega
         have bZ:¬((N+(N+1):Nat):Int)<((2*N+1:Nat):Int):=by omega
         clear o Y O1 bi HL aL;rw[<-bl.out] at OK;go_wp2_with fail;refine aq.out.mono ?_;rintro _ _ ⟨rfl,rfl⟩;obtain⟨o,Y⟩:=OK.out;clear OK aq aX;obtain⟨U,cb,ef,b1,b2,b3,b4,_⟩:=o.form (by omega);simp only[IG] at ef;obtain⟨rfl,aT,rfl⟩:=ef;rw[aT] at o ⊢;have bX:¬((WT.length:Nat):Int)<((2*N+1:Nat):Int):=by omega
         clear aT;obtain⟨O,bu⟩:∃ O,WT.length=O:=⟨_,rfl⟩;rw[bu] at o b3 ai T E G bX ⊢;have i3:((2*k:Nat):Int)<(O:Int):=by omega
         have bD:=Lib.hid (hV.out.kp Y);have bJ:=Lib.hid (hV.out.apart (v:=.slice (some ⟨U,0,none⟩) O cv) (λg B=>by cases B;exact b1));have bn:=Lib.hid Y;obtain⟨K2,a8⟩:∃ K2,2*k=K2:=⟨_,rfl⟩;rw[a8] at i2 i3 T M;clear a8;go_wp2_with(refine pZ jO rfl rfl (.tmp 75) (.tmp 74) rfl w.heap.size U cv O WT o K2 (by omega) (aD name pub) (.slice ap pub.length cp) (.slice none 0 0) (.slice none 0 0) rfl rfl ⟨bD.out,RI.nil _,cQ _⟩ bJ.out (aR.nil _ _ _) (aR.nil _ _ _) ?_;intro w5 o5 g5)
         have k5:Kp w w5:=Kp.grown (v:=.slice (some ⟨U,0,none⟩) O cv) Y g5 (λk hk=>by cases hk;exact b1);have aF:U<w5.heap.size:=II b2 g5.size;rw[M.out] at o5;have K5:=Lib.hid k5;clear o g5 Y bn;go_wp2_with fail;refine(aH.out w5 _ o5.nl).mono ?_;rintro _ w2 ⟨⟨pv,rfl,o2⟩,k2⟩;have au:=Lib.hid (o2.apart (v:=.slice (some ⟨U,0,none⟩) O cv) (λg B=>by cases B;exact aF));have r2:=o2.ri;obtain⟨bB,bz,e2,p2,s2⟩:=r2.shape;subst e2;rw[aP.out] at r2 p2 au ⊢;have bb:=Lib.hid r2;have HO:=Lib.hid (o5.kp k2);have HK:=Lib.hid (k5.trans k2);have bA:=II aF k2.size;clear aH o5 o2 r2 k5 k2 K5 b2 aF;go_wp2_with fail;go_loopw[15] (λx wr=>∃ m:Nat,m<=K9/\x=.int .i64 (m:Int)/\NO 81 wr w.heap.size (.slice (some ⟨U,0,none⟩) O cv) (F m)/\RI wr (.slice bB K9 bz) PI/\Kp w wr/\U<wr.heap.size) (λx _=>(K9 - (intOf x).toNat))
         case atStart=>exact⟨0,IO _,rfl,by rw[Z.out];exact HO.out,bb.out,HK.out,bA⟩
         case round=>
          obtain⟨m,H,rfl,ho,af,A,aB⟩:=hrel;by_cases s:m<K9
          ·obtain⟨g1,o1,rfl,_,a4⟩:=af.at m s
           have h1:=a4 m s;rw[Q.out m s] at h1;have bT:=G.out m s;have ah:=HT.out m s;have aq:=E.out m;have am:=an.out m s;have i1:IntKind.i64.wrap ((m:Int)+1)=(m:Int)+1:=IA _ (by omega);have i4:((PT.getD m 0:Nat):Int)<(O:Int):=by omega
           have i5:(m:Int)<(K9:Int):=by omega
           obtain⟨b0,b5,ee,_,_,_,_,a5⟩:=ho.form (by omega);simp only[IG,Jo,JY] at ee;obtain⟨⟨rfl,_,_⟩,bo,rfl⟩:=ee;clear bo;obtain⟨p,q,hh,C,a1,a2,a3⟩:=a5 (PT.getD m 0) (by omega);have c0:=C.kind;have c1:=C.name;have c2:=C.pubC;have c3:=C.unC;have c4:=C.hashC;have HN:=Lib.hid C.2;have aM:=Lib.hid (IC a1 a3);have aG:=Lib.hid af;have aJ:=Lib.hid ho;have bd:=Lib.hid C;obtain⟨xp,np,ab,rfl⟩:=aA C.2.pub;obtain⟨xq,nq,aQ,rfl⟩:=C.2.un.sl;obtain⟨xh,nh,ad,rfl⟩:=aA C.2.hash;clear HT E G Q a4 Z P HO bb HK an a5 C a1 a2 a3 af ho;generalize PT.getD m 0=X at *;by_cases f:(ats (F m) X).kind=2
           ·have e9:F (m+1)=(F m).set X (gg (ats (F m) X) k):=by rw[ah];exact if_pos f
            have E9:=Lib.hid e9;have ao:=Lib.hid (λW (hW:Kp wr W)=>uX (.slice xq nq aQ) _ (k:Int) W (HN.out.un.kp hW) am);rw[f] at c0;have bg:=Lib.hid f;obtain⟨NM,aE⟩:∃ NM,(ats (F m) X).name=NM:=⟨_,rfl⟩;have bc:=Lib.hid aE;rw[aE] at c1;clear ah e9 f am aE;go_wp2_with fail;refine(ao.out _ ((Kp.refl _).alloc _)).mono ?_;rintro _ w3 ⟨⟨r,rfl,o3⟩,k3⟩;have bx:=(Bx.new wr 81 #[.int .i64 2,.int .i64 NM,.slice xp np ab,.slice xq nq aQ,.slice xh nh ad]).kp k3;have be:Hid (Kp wr w3):=((Kp.refl wr).alloc _).trans k3;have d3:=bx.cell 3;have f3:=bx.frozen 3;have J:=bx.set 3 r;have d:Hid (Kp wr (w3.setCell ⟨wr.heap.size,3,none⟩ r)):=be.out.setNew (IB _) r;have bh:=Lib.hid (o3.apart (v:=.slice (some ⟨U,0,none⟩) O cv) (λg B=>by cases B;simp;omega));have r3:RI (w3.setCell ⟨wr.heap.size,3,none⟩ r) r (iX (ats (F m) X).un (k:Int)):=o3.ri.grown9 (v:=.slice (some ⟨wr.heap.size,0,none⟩) 0 0) ⟨rfl,rfl,rfl,by simp,λz hz bp=>heap_setCell_other w3 ⟨wr.heap.size,3,none⟩ z r (λe=>bp (by rw[e];rfl))⟩ (o3.apart (λg B=>by cases B;simp));have ba:=Lib.hid r3;obtain⟨xr,nr,R,rfl⟩:=o3.ri.sl;have aK:=Lib.hid (aJ.out.kp d.out);clear ao o3 k3 r3 bx;go_wp2_with fail;obtain⟨d0,d1,d2,d4,d5⟩:_/\_/\_/\_/\_:=⟨J.cell 0,J.cell 1,J.cell 2,J.cell 3,J.cell 4⟩;have br:=d.out.cell h1;have I:=aK.out.there X (by omega);have j0:=(I 0 (by omega)).2;have j1:=(I 1 (by omega)).2;have j2:=(I 2 (by omega)).2;have j3:=(I 3 (by omega)).2;have j4:=(I 4 (by omega)).2;have q0:=d.out.cell c0;have q1:=d.out.cell c1;have q2:=d.out.cell c2;have q3:=d.out.cell c3;have q4:=d.out.cell c4;rw[Lp] at j0;have ae:=aK.out.stored X (by omega) (gg (ats (F m) X) k) (.slice xp np ab) (.slice xr nr R) (.slice xh nh ad) ⟨HN.out.pub.kp d.out,ba.out,HN.out.hash.kp d.out⟩ aM.out.1 bh.out aM.out.2;rw[<-E9.out] at ae;have aW:bV (gg (ats (F m) X) k) (.slice xp np ab) (.slice xr nr R) (.slice xh nh ad)=[.int .i64 2,.int .i64 NM,.slice xp np ab,.slice xr nr R,.slice xh nh ad]:=by
             rw[<-bc.out,<-bg.out];rfl
            rw[aW] at ae;have bF:=Lib.hid ae;have bH:=Lib.hid (IC (A.trans d.out) A.size);have bE:Hid (U<(w3.setCell ⟨wr.heap.size,3,none⟩ (.slice xr nr R)).heap.size):=II aB d.out.size;have bG:=Lib.hid (aG.out.kp d.out);clear I ae aW aK d be ba bh HN aM aG aJ bd h1 c0 c1 c2 c3 c4 A aB E9 bg bc J d3 f3;obtain⟨W4,bv⟩:∃ W4,w3.setCell ⟨wr.heap.size,3,none⟩ (.slice xr nr R)=W4:=⟨_,rfl⟩;simp only[bv] at *;go_region
            clear d0 d1 d2 d4 d5 br j0 j1 j2 j3 j4 q0 q1 q2 q3 q4;go_wp2_with fail;have D:=bF.out;go_roundw
            case rel=>exact⟨m+1,by omega,by go_num,D.1.kp (Kp.refl _).drew,(bG.out.grown9 (v:=.slice (some ⟨U,0,none⟩) O cv) D.2 au.out).kp (Kp.refl _).drew,(Kp.grown (v:=.slice (some ⟨U,0,none⟩) O cv) bH.out.1 D.2 (λk hk=>by cases hk;exact b1)).drew,II bE.out D.2.size⟩
            case measure=>simp[intOf];omega
           ·have e9:F (m+1)=F m:=by rw[ah];exact if_neg f
            have bM:((ats (F m) X).kind==2)=false:=ID.2 f;have bI:=Lib.hid e9;have bf:=Lib.hid (IC A aB);generalize (ats (F m) X).kind=KD at *;generalize (ats (F m) X).name=NM at *;clear ah e9 A;go_wp2_with fail;go_roundw
            case rel=>exact⟨m+1,by omega,by go_num,by rw[bI.out];exact aJ.out.kp ((Kp.refl _).alloc _),aG.out.kp ((Kp.refl _).alloc _),bf.out.1.alloc _,by simp;have:=bf.out.2;omega⟩
            case measure=>simp[intOf];omega
          ·obtain rfl:m=K9:=by omega
           rw[P.out] at ho;have O5:=Lib.hid (IC ho A);clear HT E G Q P af ho A;go_wp2_with fail;go_ret3
           exact⟨⟨_,by rw[HE.out.1,HE.out.2.2,aZ.out] <;> rfl,by rw[HE.out.2.1];exact O5.out.1.nl,λ_=>by rw[HE.out.2.1];exact O5.out.1⟩,O5.out.2⟩
 ·have e1:dK t name pub=1:=by unfold dK;rw[if_neg H]
  obtain⟨e2,e3⟩:=ry 1 e1 (by decide);rw[e1,e2,e3];rw[IS H] at HM;clear hv hr H e1 e2 e3 HL z2;go_enter func38,ntmps38;go_wp2_with fail;refine HM.out.mono ?_;rintro _ _ ⟨rfl,rfl⟩;go_wp2_with fail;refine HF.out.mono ?_;rintro _ _ ⟨rfl,rfl⟩;go_wp2_with fail;go_ret3
  exact⟨⟨_,rfl,HU.out,λh=>absurd h (by decide)⟩,Kp.refl _⟩
theorem Dt (u v:Value)(t:List Nod)(K:Nat)(name:Int)(pub:List UInt8)(w:World)(b:NL w u t)(a:Rd w v pub)(c:az t K):
  Calls prog 38 #[u,.int .i64 name,v] w λe w'=>(∃ r,e=.returned (.tuple #[r,.int .i64 (iC t name pub),.int .i64 (dK t name pub)])/\NL w' r (gO t name pub))/\Kp w w':=
 (Ds u v t K name pub w b a c).mono λ_ _ ⟨⟨r,g,f,_⟩,d⟩=>⟨⟨r,g,f⟩,d⟩
theorem ng {c:Array Oper}{rest:List Oper}(k:o.guard=none)(u:o.dst=none)(e:TypeId)(x y:Operand)(t:o.op=.store e x y)
  (b f:Nat) (v:Value) (r:a.eval x=.pointer (some ⟨b,f,none⟩)) (q:a.eval y=v) (p:v.oneCell'=true) (m:w.there b f 1) (n:(P.info? e).map (·.size)=some 1)
  (h:∀ w',w'=w.setCells b f [v]->wpList P c Q rest a w'):wpList P c Q (o :: rest) a w:=by
 have A:v.cells=#[v]:=by cases v <;> first|rfl|cases p
 have:=run_storeCells_cells (P:=P) b f [v] 0 w (λj g=>by simpa using (m j (by simpa using g)).1) (λj g=>by simpa using (m j (by simpa using g)).2)
  (λz l=>by simp at l;subst l;exact p)
 have d:(storeVar e ⟨b,f,none⟩ v).run P w=.ok () (w.setCells b f [v]):=by
  cases hq:P.info? e with
  | none=>simp[hq] at n
  | some i=>
   have s:i.size=1:=by simpa [hq] using n
   simp only[Lp] at this;simp[storeVar,sizeOf,typeInfo,hq,A,s,this]
 refine wpList_plain k λ_ B=>?_
 unfold Oper.wp execOp;simp only[t,r,q,Instr.storeAt,Instr.sureAddr,Sem.run_bind,Sem.run_pure,Result.andThen_ok,d];refine B _ _ ?_;rw[u];exact h _ rfl
theorem wW:(prog.info? 24).map (·.size)=some 1:=by kernel_rfl
theorem wX:(prog.info? 34).map (·.size)=some 1:=by kernel_rfl
theorem Ff {R:Nat->Value->Value->Value->Prop}(h:∀ i,i<N->∃ p u q,R i p u q):∃ P U Q:Nat->Value,∀ i,i<N->R i (P i) (U i) (Q i):=by
 have b:∀ i,∃ p u q,i<N->R i p u q:=λi=>by
  by_cases a:i<N
  ·obtain⟨p,u,q,c⟩:=h i a
   exact⟨p,u,q,λ_=>c⟩
  ·exact⟨undef,undef,undef,λd=>absurd d a⟩
 exact⟨λi=>(b i).choose,λi=>(b i).choose_spec.choose,λi=>(b i).choose_spec.choose_spec.choose,λi a=>(b i).choose_spec.choose_spec.choose_spec a⟩
theorem Fg (t:List Nod)(i:Nat)(a:i<t.length):t.set i (ats t i)=t:=by
 rw[jA a];exact Lo a
theorem wY {rest:List Oper}(e:o.guard=none)(p:o.dst=none)(d:TypeId)(x y:Operand)(m:o.op=.store d x y)
  (g f:Nat) (cs:List Value) (k:a.eval x=.pointer (some ⟨g,f,none⟩)) (j:a.eval y=.agg cs.toArray) (i:cs.length=5) (c:∀ z∈cs,z.oneCell'=true) (l:w.there g f 5) (n:(P.info? d).map (·.size)=some 5)
  (h:∀ w',w'=w.setCells g f cs->wpList P b Q rest a w'):wpList P b Q (o :: rest) a w:=by
 refine wpList_store_mid e d x y m g f cs.toArray k j (by rw[JF,i];exact l) (by rw[n,JF,i]) (all_oneCell_toArray c) ?_;rw[p];exact h _ rfl
theorem NX.at {e m:TypeId}{B g c:Nat}{P U H:Nat->Value}{S:Nat->Prop}(h:NX e m w B (.slice (some ⟨g,0,none⟩) N c) t P U H S)(i:Nat)(d:i<t.length):NAt w g (i*5) (ats t i) (P i) (U i) (H i):=by
 obtain⟨us,k,n,f⟩:=h.row;have l:=h.len;subst l;refine⟨λj x b=>?_,h.ins i d⟩;have a:j<5:=(Jk.1 b).1;rw[k.cellAt (i*5+j) (by omega),f i d j a];exact b
theorem fY {f:Func}{p q:Tmp}{a:TypeId}(h:f.results=#[.cell p a,.tmp q])(tmps:Array Value)(w:World)(g:Nat)(t:TypeId)(cs:Array Value)(e:Nat × Nat)(d:TypeDesc)(v:Value)
  (k:tmps.getD p undef=.pointer (some ⟨g,0,none⟩)) (m:w.heap[g]?=some (.cells cs t e))
  (i:P.underlying a=some d) (n:(match d with|.struct _|.array _ _=>true|_=>false)=true) (l:(P.info? a).map (·.size)=some cs.size) (j:tmps.getD q undef=v):
  (results f tmps).run P w=.ok (.tuple #[.agg cs,v]) w:=by
 have c:tmps[p]?.getD undef=.pointer (some ⟨g,0,none⟩):=by simpa using k
 have b:tmps[q]?.getD undef=v:=by simpa using j
 simp[results,h,c,b,asAddr,run_loadVar_row w g t a cs e d m i n l]
theorem fv {rest:List Oper}(e:o.guard=none)(q:o.dst=none)(d:TypeId)(x y:Operand)(m:o.op=.store d x y)
  (g:Nat) (T:TypeId) (cs vs:Array Value) (l:a.eval x=.pointer (some ⟨g,0,none⟩)) (j:a.eval y=.agg vs) (i:Bx w g T cs) (f:vs.size=cs.size) (c:∀ z∈vs.toList,z.oneCell'=true) (n:(P.info? d).map (·.size)=some vs.size)
  (h:∀ w',Bx w' g T vs->w.grownBy w' (some g)->(∀ w0,Kp w0 w->w0.heap.size<=g->Kp w0 w')->wpList P b Q rest a w'):wpList P b Q (o :: rest) a w:=by
 refine wpList_store_mid e d x y m g 0 vs l j (by rw[f];exact i.there) n (all_oneCell_toArray (cs:=vs.toList) c) ?_;rw[q];exact h _ (i.fill vs f) (fP w g 0 vs.toList 0) λw0 k p=>k.setCells p vs.toList 0
section
open Go.Maps
theorem yc:Keyed prog 3:=int_keyed underlying3
theorem Gi (w:World):(zeroValue 237).run prog w=.ok (.agg #[]) w:=by kernel_rfl
theorem Gj (n:Int)(w:World):(Instr.makeMap 236 (some (.int .i64 n))).run prog w=.ok (.map (some w.heap.size)) (w.alloc (.map #[] 0)):=by
 simp[Instr.makeMap,run_underlying underlying236,asInt,Result.andThen,newObj];rfl
def iT (g:List Int):DataW Unit:=setOf (.agg []) (g.map λi=>Lit.int .i64 (2*i))
theorem Gk (g:List Int)(x:Int):iT (g++[x])=(iT g).put (.int .i64 (2*x)) (.agg []):=by
 unfold iT;rw[JZ,List.map_cons,List.map_nil,setOf_snoc]
theorem Gl (g:List Int)(x:Int):Maps.has (iT g) (.int .i64 x)=decide (x∈g.map (2*·)):=by
 unfold iT;rw[has_setOf]
 ·by_cases h:x∈g.map (2*·)
  ·rw[IY h,Lj]
   obtain⟨i,a,rfl⟩:=Ju.1 h;exact⟨_,Ju.2 ⟨i,a,rfl⟩,by simp[Lit.sameKey]⟩
  ·rw[IS h,List.any_eq_false]
   intro k b;obtain⟨i,a,rfl⟩:=Ju.1 b;intro e;refine h (Ju.2 ⟨i,a,?_⟩);simpa [Lit.sameKey] using e
 ·intro k b
  obtain⟨i,a,rfl⟩:=Ju.1 b;trivial
def Cnt (w:World)(v:Value)(g:List Int):Prop:=
 ∃ b m n,v=.func (.func 210) #[] #[.pointer (some ⟨b,0,none⟩)]/\Bx w b 236 #[.map (some m)]/\w.ownsMap prog 3 (unitElem (H:=Unit)) m n (iT g)
theorem Cnt.kp {w':World}(h:Cnt w v g)(k:Kp w w'):Cnt w' v g:=by
 obtain⟨b,m,n,e,d,c⟩:=h;exact⟨b,m,n,e,d.kp k,c.kept ⟨k.os,k.tape,k.output,k.size,λi a _=>k.block i a⟩ (row:=none) (by simp)⟩
theorem Gm (b m n:Nat)(g:List Int)(x:Int)(w:World)(d:Bx w b 236 #[.map (some m)])(c:w.ownsMap prog 3 (unitElem (H:=Unit)) m n (iT g))(k:-9223372036854775808<=x/\x<=9223372036854775807):
  Calls prog 210 #[.int .i64 x,.pointer (some ⟨b,0,none⟩)] w λe w'=>e=.returned (.bool (!decide (x∈g.map (2*·))))/\Kp w w':=by
 have f:=d.cell 0;simp only[IJ,IF] at f;have a:Go.keyOf prog 3 (.int .i64 x)=some (.int .i64 x):=keyOf_int_mk underlying3 (Ku (by omega));have i:=Lib.hid (Gl g x);have j:=Lib.hid c;clear d c;go_enter func210,ntmps210;go_wp2_with(first
  | (at_lookup;refine wpList_lookup_own_unit _ rfl _ _ 236 rfl 3 237 yc underlying236 (Gi _) m n _ rfl j.out _ _ rfl a ?_)
  | go_in)
 have h:Hid (Kp w (w.alloc (.cells #[] 237))):=(Kp.refl _).alloc _;rw[i.out];go_ret;exact⟨rfl,h.out⟩
theorem Cnt.call (h:Cnt w v g):
  ∃ b,v=.func (.func 210) #[] #[.pointer (some ⟨b,0,none⟩)]/\∀ (y:Int) (W:World),Kp w W->-9223372036854775808<=y/\y<=9223372036854775807 ->
   Calls prog 210 #[.int .i64 y,.pointer (some ⟨b,0,none⟩)] W λe w'=>e=.returned (.bool (!decide (y∈g.map (2*·))))/\Kp W w':=by
 obtain⟨b,m,n,e,f,d⟩:=h;exact⟨b,e,λy W k a=>Gm b m n g y W (f.kp k) (d.kept ⟨k.os,k.tape,k.output,k.size,λi c _=>k.block i c⟩ (row:=none) (by simp)) a⟩
theorem Gn (v:Value)(g:List Int)(w:World)(C:RI w v g)(O:g.length<=100000)(I:∀ i∈g,-1000000<=i/\i<=1000000):
  Calls prog 178 #[v] w λe w'=>(∃ r,e=.returned r/\Cnt w' r g)/\Kp w w':=by
 have D:=Gj;have B:=Lib.hid C;obtain⟨a,c,rfl,_,_⟩:=C.shape;obtain⟨h,m⟩:∃ h,g.length=h:=⟨_,rfl⟩;rw[m] at B O ⊢;clear C;go_enter func178,ntmps178;go_wp2_with fail;obtain⟨u,d⟩:∃ u,(w.alloc (.map #[] 0)).alloc (.cells #[.map (some w.heap.size)] 236)=u:=⟨_,rfl⟩;have t:Bx u (w.heap.size+1) 236 #[.map (some w.heap.size)]:=by
  rw[<-d];have:=Bx.new (w.alloc (.map #[] 0)) 236 #[.map (some w.heap.size)];rwa [IQ] at this
 have n:u.ownsMap prog 3 (unitElem (H:=Unit)) w.heap.size 0 (iT (g.take 0)):=by
  rw[<-d];exact(World.ownsMap_made w prog 3 (unitElem (H:=Unit))).alloc _
 have q:Kp w u:=by rw[<-d];exact((Kp.refl _).alloc _).alloc _
 rw[d];clear d D;have F:Hid (∀ i,i<h->g.take (i+1)=g.take i++[g.getD i 0]/\-1000000<=g.getD i 0/\g.getD i 0<=1000000):=λi Q=>by
  have o:g.getD i 0∈g:=by rw[Iw,Iy (by omega)];exact Jg _
  refine⟨?_,I _ o⟩;rw[List.take_add_one,Iw,Iy (by omega)];rfl
 have y:Hid (g.take h=g):=by unfold Hid;rw[<-m];exact Jz
 clear I m;have V:=Lib.hid (IC t (IC n q));clear t n q;go_loopw[11] (λx wr=>∃ i:Nat,i<=h/\x=.int .i64 (i:Int)/\Bx wr (w.heap.size+1) 236 #[.map (some w.heap.size)]/\wr.ownsMap prog 3 (unitElem (H:=Unit)) w.heap.size i (iT (g.take i))/\Kp w wr) (λx _=>(h - (intOf x).toNat))
 case atStart=>exact⟨0,IO _,rfl,V.out⟩
 case round=>
  obtain⟨i,Q,rfl,A,o,f⟩:=hrel;have z:=Lib.hid (IC A (IC o f));by_cases l:i<h
  ·obtain⟨gu,Y,rfl,_,s⟩:=(B.out.kp f).at i l
   have T:=s i l;have U:=A.cell 0;simp only[IJ,IF] at U;obtain⟨J,S,R⟩:=F.out i l;have i1:IntKind.i64.wrap ((i:Int)+1)=(i:Int)+1:=IA _ (by omega);have Z:(i:Int)<(h:Int):=by omega
   have E:=Lib.hid J;generalize g.getD i 0=X at *;have i2:IntKind.i64.wrap (2*X)=2*X:=IA _ (by omega);have p:Go.keyOf prog 3 (.int .i64 (2*X))=some (.int .i64 (2*X)):=keyOf_int_mk underlying3 (Ku (by omega));have M:i<maxLen:=by unfold maxLen;omega
   clear s f A o F B y J S R;go_wp2_with(at_mapUpdate;refine wpList_mapUpdate_own _ rfl _ _ _ 236 rfl 3 237 yc underlying236 (unitElem (H:=Unit)) w.heap.size i _ rfl z.out.2.1 M _ _ _ rfl rfl p _ [] unitElem_mk ?_;intro W j b)
   go_roundw
   case rel=>exact⟨i+1,by omega,by go_num,z.out.1.grown b (by simp),by rw[E.out,Gk];exact j,Below.grown z.out.2.2 b z.out.2.2.size (λk P=>by cases P;exact IB _)⟩
   case measure=>simp[intOf];omega
  ·obtain rfl:i=h:=by omega
   have N:¬(i:Int)<(i:Int):=by omega
   clear A o f F B;go_wp2_with fail;go_ret;obtain⟨L,G,K⟩:=z.out;rw[y.out] at G;exact⟨⟨_,rfl,_,_,_,rfl,L,G⟩,K⟩
end
theorem Gp (l:List Int)(g:List Int)(i:Nat)(h:i<l.length):
  (l.take (i+1)).filter (λi=>decide (i∉g))=(l.take i).filter (λi=>decide (i∉g))++(if l.getD i 0∈g then [] else [l.getD i 0]):=by
 rw[List.take_add_one,Iy h,List.filter_append,Iw,Iy h];simp only[Option.toList_some,Lh];by_cases a:l[i]∈g
 ·rw[if_pos a];simp[a]
 ·rw[if_neg a];simp[a]
theorem si (g:List Int)(i:Int):2*i∈g.map (2*·)↔i∈g:=by
 constructor
 ·intro h
  obtain⟨j,a,e⟩:=Ju.1 h;have:j=i:=by omega
  exact this▸a
 ·exact λh=>Ju.2 ⟨i,h,rfl⟩
theorem yd (v vc:Value)(n:Nod)(x:Int)(g:List Int)(w:World)(hv:NV w v n)(hn:dM n)(hc:Cnt w vc g)(hx:0<=x/\x<=1000000):
  Calls prog 208 #[v,.int .i64 x,vc] w λe w'=>(∃ r,e=.returned r/\NV w' r (if x∈g.map (2*·) then aY else fx n g))/\Kp w w':=by
 have S:=fV;obtain⟨cb,rfl,ay⟩:=hc.call;have B:=Lib.hid ay;obtain⟨p,aa,h,rfl,ip,iu,ih⟩:=hv;have O:=Lib.hid (IC ip (IC iu ih));obtain⟨Z,Q,V,rfl⟩:=br ip;obtain⟨ah,R,X,rfl⟩:=br ih;obtain⟨au,cu,rfl,pu,_⟩:=iu.shape;simp only[bV];have ad:=hn.un;have T:=hn.unl;obtain⟨E,t⟩:∃ E,(w.alloc (.cells #[.int .i64 n.kind,.int .i64 n.name,.slice Z Q V,.slice au n.un.length cu,.slice ah R X] 81)).alloc (.cells #[.int .i64 0,.int .i64 0,.slice none 0 0,.slice none 0 0,.slice none 0 0] 81)=E:=⟨_,rfl⟩;have G:=Lib.hid t;have aA:Bx E w.heap.size 81 #[.int .i64 n.kind,.int .i64 n.name,.slice Z Q V,.slice au n.un.length cu,.slice ah R X]:=by rw[<-t];exact(Bx.new _ _ _).kp ((Kp.refl _).alloc _)
 have az:Bx E (w.heap.size+1) 81 #[.int .i64 0,.int .i64 0,.slice none 0 0,.slice none 0 0,.slice none 0 0]:=by
  rw[<-t];have:=Bx.new (w.alloc (.cells #[.int .i64 n.kind,.int .i64 n.name,.slice Z Q V,.slice au n.un.length cu,.slice ah R X] 81)) 81 #[.int .i64 0,.int .i64 0,.slice none 0 0,.slice none 0 0,.slice none 0 0];rwa [IQ] at this
 have aq:Kp w E:=by rw[<-t];exact((Kp.refl _).alloc _).alloc _
 have al:E.heap.size=w.heap.size+2:=by rw[<-t];simp
 have I:=Lib.hid aA;have P:=Lib.hid az;have HZ:=Lib.hid (IC aq al);clear t aA az aq al hc ay ip ih hn;by_cases o:x∈g.map (2*·)
 ·rw[if_pos o]
  have f:=Lib.hid (B.out x E HZ.out.1 (by omega));rw[IY o] at f;clear o hx B O iu ad T;go_enter func208,ntmps208;go_wp2_with fail;rw[G.out];refine f.out.mono ?_;rintro _ w2 ⟨rfl,k2⟩;have HB:=Lib.hid (P.out.kp k2);have aU:=Lib.hid (HZ.out.1.trans k2);have ag:=Lib.hid (HB.out.there);have an:=nU (n:=aY) (NIn.mk (cQ w2) (RI.nil w2) (cQ w2));clear k2 f I P G;go_wp2_with(refine wY rfl rfl 81 (.tmp 6) (.tmp 14) rfl (w.heap.size+1) 0 [.int .i64 0,.int .i64 0,.slice none 0 0,.slice none 0 0,.slice none 0 0] rfl rfl rfl an ag.out jO ?_;intro W3 aC)
  have aL:Bx W3 (w.heap.size+1) 81 #[.int .i64 0,.int .i64 0,.slice none 0 0,.slice none 0 0,.slice none 0 0]:=by rw[aC];exact HB.out.fill #[.int .i64 0,.int .i64 0,.slice none 0 0,.slice none 0 0,.slice none 0 0] rfl
  have aJ:Kp w W3:=by rw[aC];exact aU.out.setCells (by omega) _ _
  refine bodyPost_ret (results_cell_row rfl _ _ (w.heap.size+1) _ _ (0,0) _ rfl aL underlying81 rfl jO) rfl ?_;exact⟨⟨_,rfl,NV.blank _⟩,aJ⟩
 ·rw[if_neg o]
  have f:=Lib.hid (B.out x E HZ.out.1 (by omega));rw[IS o] at f;obtain⟨J,L⟩:∃ J,n.un.length=J:=⟨_,rfl⟩;have H:=Lib.hid (Gp n.un g);obtain⟨F,hF⟩:∃ F:Nat->List Int,F=λi=>(n.un.take i).filter (λi=>decide (i∉g)):=⟨_,rfl⟩
  have aD:∀ i,(n.un.take i).filter (λi=>decide (i∉g))=F i:=λi=>by rw[hF]
  have aF:Hid (fx n g=⟨n.kind,n.name,n.pub,F J,n.hash⟩):=by
   unfold Hid fx;rw[hF,<-L];simp only[Jz]
  have aj:Hid (∀ i,(F i).length<=100):=λi=>by rw[hF];exact IU (Me _ _) (by rw[Ja];omega)
  have ak:Hid (F 0=[]):=by rw[hF];rfl
  have af:Hid (∀ i,i<J->0<=n.un.getD i 0/\n.un.getD i 0<=1023):=λi hi=>by
   have hm:n.un.getD i 0∈n.un:=by rw[Iw,Iy (by omega)];exact Jg _
   exact ad _ hm
  have N:Hid (∀ W,Kp w W->RI W (.slice au J cu) n.un):=λW hW=>by rw[<-L];exact iu.kp hW
  rw[aF.out];rw[L] at G I H T pu O ⊢;simp only[aD] at H;have ai:=Lib.hid (si g);clear o hx iu ad L hF aD aF;go_enter func208,ntmps208;go_wp2_with fail;rw[G.out];refine f.out.mono ?_;rintro _ w2 ⟨rfl,k2⟩;have K2:=Lib.hid k2;have c3:=(I.out.kp k2).cell 3;simp only[IJ,IF,IK] at c3;clear k2 f G;go_wp2_with fail;clear c3;go_loopw[7,18] (λv x wr=>∃ i:Nat,i<=J/\x=.int .i64 (i:Int)/\OI 3 wr E.heap.size v (F i)/\Kp E wr) (λ_ x _=>(J - (intOf x).toNat))
  case atStart=>exact⟨0,IO _,rfl,by rw[ak.out];exact OI.nil _ _ _,K2.out⟩
  case round=>
   obtain⟨i,hi,rfl,ho,a⟩:=hrel;have KR:=Lib.hid a;have HO:=Lib.hid ho;by_cases d:i<J
   ·obtain⟨gu,ou,rfl,_,ax⟩:=(N.out _ (HZ.out.1.trans a)).at i d
    have a2:=ax i d;have i1:IntKind.i64.wrap ((i:Int)+1)=(i:Int)+1:=IA _ (by omega);have i3:(i:Int)<(J:Int):=by omega
    have l:=Lib.hid (H.out i (by have:=N.out _ (Kp.refl _);obtain⟨_,_,e,_⟩:=this.shape;simp only[IG] at e;omega));have a0:=af.out i d;have aX:=aj.out i;generalize n.un.getD i 0=Y at *;have i2:IntKind.i64.wrap (2*Y)=2*Y:=IA _ (by omega);have q:=Lib.hid (B.out (2*Y) wr (HZ.out.1.trans a) (by omega));have K:=ai.out Y;clear ax a ho H N aj ak af B ai;by_cases hy:Y∈g
    ·rw[IY (K.2 hy)] at q
     rw[if_pos hy,JV] at l;clear hy K;go_wp2_with fail;refine q.out.mono ?_;rintro _ w3 ⟨rfl,k3⟩;have KE:=Lib.hid (IC (HO.out.kp k3) (KR.out.trans k3));clear k3 q HO KR;go_wp2_with fail;go_roundw
     case rel=>exact⟨i+1,by omega,by go_num,by rw[l.out];exact KE.out.1,KE.out.2⟩
     case measure=>simp[intOf];omega
    ·rw[IS (λh=>hy (K.1 h))] at q
     rw[if_neg hy] at l;clear hy K;go_wp2_with fail;refine q.out.mono ?_;rintro _ w3 ⟨rfl,k3⟩;have KE:=Lib.hid (IC (HO.out.kp (k3.alloc (.cells #[.int .i64 Y] 3))) (KR.out.trans (k3.alloc (.cells #[.int .i64 Y] 3))));clear k3 q HO KR;go_wp2_with(at_builtin;refine ga S rfl _ _ rfl E.heap.size _ (F i) rfl KE.out.1 _ [Y] rfl (RI.lit w3 3 #[.int .i64 Y] [Y] 1 rfl (by omega) rfl).ri (by simp;omega) KE.out.2.size ?_;intro v9 w9 o9 g9;have K9:=Lib.hid (Kp.grown KE.out.2 g9 (λk hk=>(OI.lt KE.out.1 k hk).1)))
     go_roundw
     case rel=>exact⟨i+1,by omega,by go_num,by rw[l.out];exact o9,K9.out⟩
     case measure=>simp[intOf];omega
   ·obtain rfl:i=J:=by omega
    have a1:¬(i:Int)<(i:Int):=by omega
    obtain⟨A,m,u,rfl⟩:=ho.ri.sl;obtain⟨aH,aZ⟩:=HZ.out;have aG:=Lib.hid (I.out.kp a);have aV:=Lib.hid (P.out.kp a);have aS:=Lib.hid (aH.trans a);have ag:Hid (wr.there w.heap.size 3 1):=λj hj=>by have:=aG.out.there (3+j) (by simp;omega);rwa [JA] at this
    clear a ho H N aj ak af B ai I P KR hi d K2;have U:∀ M,M=wr.setCells w.heap.size 3 [.slice A m u]->Bx M w.heap.size 81 #[.int .i64 n.kind,.int .i64 n.name,.slice Z Q V,.slice A m u,.slice ah R X]/\Bx M (w.heap.size+1) 81 #[.int .i64 0,.int .i64 0,.slice none 0 0,.slice none 0 0,.slice none 0 0]/\RI M (.slice A m u) (F i)/\(Kp w M/\∀ D,(Value.slice A m u).ownBlock=some D->w.heap.size+2<=D):=λM e=>by
     have aw:=fP wr w.heap.size 0 [.slice A m u] 3;have d:∀ D,(Value.slice A m u).ownBlock=some D->w.heap.size+2<=D:=λD C=>by have:=(OI.lt HO.out D C).1;omega
     rw[e];exact⟨aG.out.set 3 (.slice A m u),aV.out.grown aw (by simp),(HO.out.grown9 aw (λD C e=>by have:=d D C;simp at e;omega)).ri,aS.out.setCells (IB _) _ _,d⟩
    have aW:=Lib.hid U;clear U;go_wp2_with(first
     | (refine ng rfl rfl 34 (.tmp 32) (.tmp 31) rfl w.heap.size 3 (.slice A m u) rfl rfl rfl ag.out wX ?_;intro M aB;obtain⟨s,ab,am,ar,ao⟩:=aW.out M aB;have c0:=s.cell 0;have c1:=s.cell 1;have c2:=s.cell 2;have c3:=s.cell 3;have c4:=s.cell 4;simp only[IJ,IF,IK] at c0 c1 c2 c3 c4;have aO:=Lib.hid ab;have aP:=Lib.hid am;have aT:=Lib.hid ar;have aQ:=Lib.hid ao;have aE:=Lib.hid ab.there;clear aB s ab am ar ao)
     | (refine wY rfl rfl 81 (.tmp 6) (.tmp 33) rfl (w.heap.size+1) 0 [.int .i64 n.kind,.int .i64 n.name,.slice Z Q V,.slice A m u,.slice ah R X] rfl rfl rfl (by intro z hz;simp only[JP,Lk,or_false] at hz;rcases hz with rfl|rfl|rfl|rfl|rfl <;> rfl) aE.out jO ?_;intro W5 aN))
    subst aN;have aK:=aO.out.fill #[.int .i64 n.kind,.int .i64 n.name,.slice Z Q V,.slice A m u,.slice ah R X] rfl;have ae:=aT.out.setCells (b:=w.heap.size+1) (by omega) [.int .i64 n.kind,.int .i64 n.name,.slice Z Q V,.slice A m u,.slice ah R X] 0;have aM:aR (.slice (some ⟨w.heap.size+1,0,none⟩) 0 0) (.slice A m u):=λD C y n c e h0 he=>by
     have h2:D=w.heap.size+1:=by cases C;rfl
     have h3:=aQ.out y.block (by rw[e];rfl);omega
    have aI:=aP.out.grown9 (v:=.slice (some ⟨w.heap.size+1,0,none⟩) 0 0) (fP M (w.heap.size+1) 0 [.int .i64 n.kind,.int .i64 n.name,.slice Z Q V,.slice A m u,.slice ah R X] 0) aM;refine bodyPost_ret (results_cell_row rfl _ _ (w.heap.size+1) _ _ (0,0) _ rfl aK underlying81 rfl jO) rfl ?_;exact⟨⟨_,rfl,⟨_,_,_,rfl,⟨O.out.1.kp ae,aI,O.out.2.2.kp ae⟩⟩⟩,ae⟩

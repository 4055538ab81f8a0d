import Derived.Test.YthmhklmkgkfcpaaGreatDoorV15
import Derived.Test.YthmhklmkgkfcpaaGreatDoorV20
set_option linter.all false
set_option maxHeartbeats 8000000
set_option maxRecDepth 100000
namespace Go.Proofs.YthmhklmkgkfcpaaGreatDoor
open Go.Proofs.Tryz Go.RowKit
variable {a l:List UInt8}{c g n:Nat}{f:List Se}{w:World}
theorem DV (aa:Value)(t:List Nod)(K:Nat)(i:Int)(w:World)(f:NL w aa t)(g:az t K):
  Calls prog 14 #[aa,.int .i64 i] w λe w'=>(∃ v,e=.returned (.tuple #[v,.int .i64 (dF t i)])/\RN w' v (fD t K i))/\Kp w w':=by
 obtain⟨q,p,o⟩:=g.small;have l:=Lib.hid (pm aa t i w f (by omega));by_cases b:bd t i
 ·obtain⟨k,rfl,z,d,n⟩:=iP g b
  have j:dF t (k:Int)=0:=by unfold dF;rw[if_pos b]
  have h:fD t K (k:Int)=aw t k K:=by unfold fD;rw[if_pos b,IM]
  rw[IY b] at l;rw[j,h];have A:=Lib.hid (DU aa t K k w f g z);obtain⟨a,c,rfl,_,_⟩:=f.shape;generalize aw t k K=J at *;generalize aT t k K=I at *;generalize t.length=N at *;clear f g b j h d n q p o;go_enter func14,ntmps14;go_wp2_with fail;refine l.out.mono ?_;rintro _ _ ⟨rfl,rfl⟩;go_wp2_with fail;refine A.out.mono ?_;rintro _ B ⟨⟨x,y,rfl,m,r⟩,s⟩;have u:=Lib.hid (IC m s);obtain⟨H,D,F,rfl⟩:=m.sl;obtain⟨G,C,E,rfl⟩:=SE.sl r;clear m r s;go_wp2_with fail;go_ret2;exact⟨⟨_,rfl,u.out.1⟩,u.out.2⟩
 ·have j:dF t i=11:=by unfold dF;rw[if_neg b]
  have h:fD t K i=[]:=by unfold fD;rw[if_neg b]
  rw[IS b] at l;rw[j,h];obtain⟨a,c,rfl,_,_⟩:=f.shape;generalize t.length=N at *;clear f g b j h q p o;go_enter func14,ntmps14;go_wp2_with fail;refine l.out.mono ?_;rintro _ _ ⟨rfl,rfl⟩;go_wp2_with fail;go_ret2;exact⟨⟨_,rfl,RN.nil _⟩,Kp.refl _⟩
def li (own:List Sd):Prop:=own.length<=20/\∀ k,k<own.length->(aK own k).seed.length<=40
theorem DW (aa:Value)(own:List Sd)(w:World)(u:SL w aa own):Calls prog 11 #[aa] w λe w'=>aL e (li own)/\w=w':=by
 obtain⟨a,c,rfl,p1,K⟩:=u.shape;have D:=Lib.hid u;have f:Hid (20<own.length->¬li own):=λh p=>by have:=p.1;omega
 have g:Hid (∀ k,k<own.length->40<(aK own k).seed.length->¬li own):=λk B h p=>by have:=p.2 k B;omega
 have d:Hid (own.length<=20->(∀ k,k<own.length->(aK own k).seed.length<=40)->li own):=λI p=>⟨I,p⟩
 generalize li own=P at *;obtain⟨N,v⟩:∃ N,own.length=N:=⟨_,rfl⟩;have E:=Lib.hid v;rw[v] at p1 D f g d ⊢;clear u v;by_cases y:20<N
 ·have s:=Lib.hid (f.out y)
  have o:(20:Int)<(N:Int):=by omega
  clear f g d;go_enter func11,ntmps11;go_wp2_with fail;go_ret;exact⟨aL.no s.out,rfl⟩
 ·have o:¬(20:Int)<(N:Int):=by omega
  go_enter func11,ntmps11;go_wp2_with fail;go_loop [3] (λi=>∃ k:Nat,k<=N/\i=.int .i64 (k:Int)/\(∀ j,j<k->(aK own j).seed.length<=40)) (λi=>(N - (intOf i).toNat))
  case atStart=>exact⟨0,IO _,rfl,λt h=>by omega⟩
  case round=>
   obtain⟨k,B,rfl,l⟩:=hrel;have r:=Lib.hid l;clear l;by_cases n:k<N
   ·obtain⟨b,F,S,q,e,Q,U,T,A⟩:=SL.node (i:=k) D.out (by rw[E.out];exact n)
    rw[E.out] at e;simp only[IG] at e;obtain⟨rfl,_,rfl⟩:=e;have O:IntKind.i64.wrap ((k:Int)+1)=(k:Int)+1:=IA _ (by omega);have M:(k:Int)<(N:Int):=by omega
    have m:=Lib.hid (g.out k n);obtain⟨V,R,rfl,_,_⟩:=A.shape;generalize C:(aK own k).seed.length=L at *;have z:=Lib.hid C;clear C A;by_cases x:40<L
    ·have s:=Lib.hid (m.out x)
     have H:(40:Int)<(L:Int):=by omega
     clear f g d m;go_wp2_with fail;go_ret;exact⟨aL.no s.out,rfl⟩
    ·have H:¬(40:Int)<(L:Int):=by omega
     have J:Hid (∀ j,j<k+1->(aK own j).seed.length<=40):=λj G=>by
      rcases Jc (Jn.1 G) with o|o
      ·exact r.out j o
      ·rw[o,z.out];omega
     clear f g d m;go_wp2_with fail;go_round
     case rel=>exact⟨k+1,by omega,by go_num,J.out⟩
     case measure=>simp[intOf];omega
   ·obtain rfl:k=N:=by omega
    have s:=Lib.hid (d.out (by omega) r.out);clear f g d;go_wp2_with fail;go_ret;exact⟨aL.yes s.out,rfl⟩
theorem vX (aa:Value)(seed:List UInt8)(w:World)(g:Rd w aa seed):
  Calls prog 50 #[aa] w λe w'=>(∃ r,e=.returned (.tuple #[r,.int .i64 (fj seed)])/\Rd w' r (dE seed)/\bg w.heap.size r)/\Kp w w':=by
 obtain⟨q,p,rfl,o,u⟩:=g.shape;by_cases b:seed.length=32
 ·obtain⟨f,d⟩:=eZ b
  rw[f,d];have i:Hid (Calls prog 63 #[.slice q seed.length p,.string ⟨#[112,117,98,108,105,99]⟩,.slice none 0 0,.int .i64 32] w λe w'=>(∃ v,e=.returned (.tuple #[v,.int .i64 0])/\Rd w' v (aG seed)/\bg w.heap.size v)/\Kp w w'):=vW _ ⟨#[112,117,98,108,105,99]⟩ _ seed [] 32 w g (cR w) (by decide) (by simp) (by omega);rw[b] at i o ⊢;clear g b f d;go_enter func50,ntmps50;go_wp2_with fail;refine i.out.mono ?_;rintro _ s ⟨⟨t,rfl,h,j⟩,k⟩;obtain⟨a,n,c,rfl⟩:=h.sl;go_wp2_with fail;go_ret2;exact⟨⟨_,rfl,h,j⟩,k⟩
 ·obtain⟨f,d⟩:=jL b
  rw[f,d];have m:((seed.length:Int)==32)=false:=ID.2 (by omega);have l:¬(seed.length:Int)=32:=by omega
  go_enter func50,ntmps50;go_wp2_with fail;go_ret2;exact⟨⟨_,rfl,cR _,bg.nil _ _ _⟩,Kp.refl _⟩
theorem Ef (aa:Value)(seed:List UInt8)(w:World)(a:Rd w aa seed):
  Calls prog 50 #[aa] w λe w'=>(∃ r,e=.returned (.tuple #[r,.int .i64 (fj seed)])/\Rd w' r (dE seed))/\Kp w w':=
 (vX aa seed w a).mono λe w' ⟨⟨v,d,c,_⟩,b⟩=>⟨⟨v,d,c⟩,b⟩
theorem Rd.nil (w:World):Rd w (.slice none 0 0) []:=⟨none,0,rfl,IB _,IO _,λ_=>rfl,λx a=>by cases a⟩
theorem But.wr {A B:World}(h:But g A B):Wr g A B:=by
 have a:=h.below (Below.refl 0 A) (IO g);exact⟨a.os,a.tape,a.output,by rw[h.size];exact IB _,λk _ b=>h.other k b⟩
theorem Rd.nil5 (w:World):Rd w (.slice none 0 0) []:=⟨none,0,rfl,IB _,IO _,λ_=>rfl,λx a=>by cases a⟩
theorem wO (u1 u2 u3:Value)(key a b:List UInt8)(w:World)(al:Rd w u1 key)(ak:Rd w u2 a)(aj:Rd w u3 b)(aL:b.length<=1000000):
  Calls prog 173 #[u1,u2,u3] w λe w'=>(∃ r,e=.returned (.tuple #[r,.int .i64 (mw key a)])/\Rd w' r (mz key a b))/\Kp w w':=by
 have U:=ag;obtain⟨a1,c1,rfl,h1,h2⟩:=al.shape;obtain⟨a2,c2,rfl,h3,h4⟩:=ak.shape;obtain⟨a3,c3,rfl,h5,h6⟩:=aj.shape;by_cases t:key.length=16
 ·by_cases hn:a.length=12
  ·have e0:mw key a=0:=if_pos ⟨t,hn⟩
   have r0:mz key a b=cU (eD key) a b:=if_pos ⟨t,hn⟩;rw[e0,r0];have a5:=Lib.hid (oO t);have az:Hid (∀ W,Kp w W->Calls prog 205 #[.slice a1 key.length c1] W λe w'=>(∃ gc bx,e=.returned (.pointer (some ⟨gc,0,none⟩))/\Cph w' gc bx (eD key)/\W.heap.size<=gc/\W.heap.size<=bx)/\Kp W w'):=λW hW=>ET _ key W (al.kp hW) t
   rw[t] at az h1 ⊢;have aU:=Lib.hid aj;have aV:=Lib.hid ak;rw[hn] at aV h3 ⊢;have HN:=Lib.hid hn;obtain⟨d,J⟩:∃ n,b.length=n:=⟨_,rfl⟩;rw[J] at aU h5 aL ⊢;have E:=Lib.hid J;generalize eD key=K at *;clear al ak aj e0 r0 t hn J;go_enter func173,ntmps173;go_wp2_with fail;refine(az.out w (Kp.refl w)).mono ?_;rintro _ w1 ⟨⟨gc,bx,rfl,hC,a9,ba⟩,k1⟩;clear az;go_wp2_with(first
    | (refine oG U rfl (.tmp 26) (.tmp 27) rfl 231 w1.heap.size _ a (List.replicate 16 0) 16 16 rfl rfl (By.made _ _ _ _ rfl) (by decide) (aV.out.kp (k1.alloc _)) (by rw[HN.out];decide) ?_;intro w2 s O;have k2:Kp w1 w2:=O.below ((Kp.refl w1).alloc _) (IB _);clear O)
    | (at_make;refine kt (z:=.int .u8 0) (b:=1) underlying24 info5 rfl (by decide) rfl _ _ rfl d rfl rfl aL ?_;intro w3 ai;have aN:By 5 w3 w2.heap.size (List.replicate d 0):=(by rw[ai];exact By.fresh _ _ _);have k3:Kp w2 w3:=(by rw[ai];exact(Kp.refl _).alloc _);clear ai)
    | (refine oG U rfl (.tmp 32) (.tmp 33) rfl 5 w2.heap.size _ b (List.replicate d 0) d d rfl rfl aN (by simp) (aU.out.kp ((k1.trans k2).trans k3)) (by rw[E.out];exact IB _) ?_;intro w4 aw N;have k4:Kp w2 w4:=N.below k3 (IB _);clear N aN k3))
   rw[E.out,Lw (by simp),JV] at aw;rw[HN.out] at s;have aH:gc<w1.heap.size:=Jb w1 _ hC.ptr;have aG:bx<w1.heap.size:=hC.box.lt;have ad:w1.heap.size<w2.heap.size:=s.lt;have aW:=k1.size;have aQ:=(hC.kp k2).kp k4;have ar:=s.kp k4;have aI:Kp w w4:=(k1.trans k2).trans k4;have o:=Lib.hid (mA K a b);have aR:Hid (∀ j,j<d->(cU K a b)[j]?=some (gD K a b j)):=λj hj=>Ca K a b j (by rw[E.out];exact hj)
   have R:By 5 w4 w2.heap.size (aP b (cU K a b) (min (16*0) d)):=by
    rw[Nat.mul_zero,Nat.zero_min,show aP b (cU K a b) 0=b by simp[aP]];exact aw
   obtain⟨D,ae⟩:∃ g,w1.heap.size=g:=⟨_,rfl⟩;obtain⟨go,aK⟩:∃ g,w2.heap.size=g:=⟨_,rfl⟩;rw[ae] at aH aG ad aW ar ⊢;rw[aK] at ad R ⊢;clear ae aK aw s hC k1 k2 k4;have ah:Hid (∀ j,gD K a b j=b.getD j 0 ^^^ (iN K (ff a (j / 16))).getD (j % 16) 0):=λ_=>rfl
   have aS:Hid (∀ x,(iN K x).length=16):=BT K;go_loopw[11] (λp wr=>∃ (q:Nat) (y:List UInt8),16*q<=d+15/\p=.int .i64 (16*q:Nat)/\By 5 wr go (aP b (cU K a b) (min (16*q) d))/\y.length=4/\By 231 wr D (a++y)/\Cph wr gc bx K/\Kp w wr) (λp _=>d+16 - (intOf p).toNat)
   case atStart=>exact⟨0,_,by omega,rfl,R,by simp,ar,aQ,aI⟩
   case round=>
    clear R ar aQ aI;obtain⟨q,y,hq,rfl,l,hy,hS,hC,t⟩:=hrel;obtain⟨f,hf⟩:∃ f,16*q=f:=⟨_,rfl⟩;rw[hf] at hq l ⊢;by_cases a8:f<d
    ·have q1:(f:Int)<(d:Int):=by omega
     have e1:(f:Int).tdiv 16=(q:Int):=by rw[Jp (by omega)];omega
     have e2:(f:Int) / 16=(q:Int):=by omega
     have e3:IntKind.i64.wrap ((q:Int)+1)=(q:Int)+1:=IA _ (by omega);have e4:IntKind.i64.wrap (q:Int)=(q:Int):=IA _ (by omega);have am:eH ((q:Int)+1) 4:=by
      unfold eH;refine⟨by omega,by omega,by omega,?_⟩;show(q:Int)+1<4294967296
      omega
     have G:=jG ((q:Int)+1) 4 wr (by omega);rw[(iZ am).1,(iZ am).2,show((4:Int)).toNat=4 from rfl,show((q:Int)+1).toNat=q+1 by omega] at G;have af:=Lib.hid G;have aT:Hid ((a++y).take 12++(be 4 (q+1)++(a++y).drop (12+(be 4 (q+1)).length))=ff a q):=by
      unfold Hid ff;rw[bT,Kf (by rw[HN.out];exact IB _),Jm (by rw[HN.out];exact IB _),Lw (by rw[IE,HN.out,hy];exact IB _),JV]
     have aC:=Lib.hid (bT 4 (q+1));have aB:Hid ((ff a q).length=16):=by rw[Hid,BZ,HN.out]
     have a4:Hid ((a++y).length=16):=by rw[Hid,IE,HN.out,hy]
     clear G am;go_wp2_with fail;refine af.out.mono ?_;rintro _ w5 ⟨v5,rfl,aD,k5⟩;have aM:=hS.kp k5;clear af;go_wp2_with(first
      | (refine Cb U rfl (.tmp 51) (.tmp 52) rfl 231 D 12 v5 (be 4 (q+1)) (a++y) 4 4 rfl rfl aM aD.rd (by rw[aC.out];exact IB _) (by rw[aC.out];decide) (by rw[aC.out,a4.out];decide) ?_;intro w6 P M)
      | (refine po underlying231 (by kernel_rfl) rfl (.tmp 9) rfl D (ff a q) rfl (by rw[<-aT.out];exact P) aB.out ?_)
      | (refine rH (by kernel_rfl) rfl rfl (.tmp 14) (.tmp 54) rfl w6.heap.size (List.replicate 16 0) (ff a q) rfl rfl (By.made _ _ _ _ rfl) (by decide) aB.out ?_;intro w7 ab L))
     rw[aT.out] at P;have S:=M.wr;have av:=S.by (l.kp k5) (by omega);have aO:=(hC.kp k5).wr S (by omega) (by omega);have ao:Kp w w6:=Below.trans (show Below w.heap.size w w5 from t.trans k5) (S.below (t.trans k5).size (by omega));have F:Kp w6 w7:=L.below ((Kp.refl w6).alloc _) (IB _);have Z:=aO.kp F;have au:=av.kp F;have aq:=P.kp F;have T:=ao.trans F;have l1:D<w6.heap.size:=P.lt;have l2:go<w6.heap.size:=av.lt;have l3:=ao.size;obtain⟨gs,aJ⟩:∃ g,w6.heap.size=g:=⟨_,rfl⟩;rw[aJ] at ab l1 l2 l3 ⊢;clear M L S av aO P F aJ aM aD k5 hS hC l ao;refine(EW gc gs bx (ff a q) K w7 aB.out a5.out (by omega) (by omega) Z ab).mono ?_;rintro _ w8 ⟨rfl,aa,v⟩;have Q:=v.by au (by omega);have V:=v.by aq (by omega);have X:=Z.wr v (by omega) (by omega);have B:Kp w w8:=Below.trans (show Below w.heap.size w w7 from T) (v.below T.size (by omega));have aE:min f d=f:=by omega
     rw[aE] at Q;have i1:IntKind.i64.wrap ((d:Int) - (f:Int))=(d:Int) - (f:Int):=IA _ (by omega);clear aE;by_cases hd:16<=d - f
     ·have an:Hid (f+16=min (16*(q+1)) d):=by show f+16=min (16*(q+1)) d;omega
      have d1:(16:Int)<=(d:Int) - (f:Int):=by omega
      have aY:f+16<=d:=by omega
      clear hd;clear au Z aq ab v T t;go_wp2_with fail;go_loopw[62] (λp wr=>∃ i:Nat,i<=16/\p=.int .i64 i/\By 5 wr go (aP b (cU K a b) (f+i))/\Wr go w8 wr) (λp _=>16 - (intOf p).toNat)
      case atStart=>exact⟨0,by omega,rfl,Q,Wr.refl _ _⟩
      case round=>
       clear Q;obtain⟨i,hi,rfl,l,A⟩:=hrel;by_cases aF:i<16
       ·have qi:(i:Int)<(16:Int):=by omega
        obtain⟨j,hj⟩:∃ j,f+i=j:=⟨_,rfl⟩;have u:j<d:=by omega
        have H:(aP b (cU K a b) j).set j (gD K a b j)=aP b (cU K a b) (j+1):=iH _ _ j (by rw[o.out]) (by rw[E.out];exact u) _ (aR.out j u);have I:(aP b (cU K a b) j).length=d:=by rw[gx _ _ j (by rw[o.out]) (by rw[E.out];omega),E.out]
        rw[hj] at l;have c0:=l.cell j (by rw[I];exact u);rw[pq _ _ j j (by rw[o.out]) (by rw[E.out];omega) (IB _)] at c0;have f0:=l.frozen j;have c1:=(A.by aa (by omega)).cell i (by rw[aS.out];omega);have hx:=da (b.getD j 0) ((iN K (ff a q)).getD i 0);have k:=ah.out j;rw[show j / 16=q by omega,show j % 16=i by omega] at k;rw[<-k] at hx;have ay:=Lib.hid (show f+(i+1)=j+1 by omega);have u1:(f:Int)+(i:Int)=(j:Int):=by omega
        have u2:IntKind.i64.wrap (j:Int)=j:=IA _ (by omega);have u3:(j:Int)<(d:Int):=by omega
        have u4:(i:Int)<16:=by omega
        generalize gD K a b j=Y at *;generalize b.getD j 0=X1 at *;generalize (iN K (ff a q)).getD i 0=X2 at *;have aA:=Lib.hid H;clear H I hj k;go_wp2_with fail;go_region
        all_goals
         go_wp2_with fail;go_roundw
         case rel=>exact⟨i+1,by omega,by go_num,by rw[ay.out];exact l.set j _ aA.out,(A.setCell j _).drew⟩
         case measure=>simp[intOf];omega
       ·obtain rfl:i=16:=by omega
        have C:By 5 wr go (aP b (cU K a b) (min (16*(q+1)) d)):=by rw[<-an.out];exact l
        have s:By 231 wr D (a++be 4 (q+1)):=A.by V (by omega);have ax:=X.wr A (by omega) (by omega);have ap:Kp w wr:=Below.trans (show Below w.heap.size w w8 from B) (A.below B.size (by omega));have e9:IntKind.i64.wrap ((f:Int)+16)=((16*(q+1):Nat):Int):=by rw[IA _ (by omega)];omega
        have HF:=Lib.hid hf;clear l A aa V X B hf;go_wp2_with fail;go_roundw
        case rel=>exact⟨q+1,_,by have:=HF.out;omega,rfl,C,bT 4 (q+1),s,ax,ap⟩
        case measure=>have:=HF.out;simp[intOf];omega
     ·obtain⟨m,hm⟩:∃ m,d - f=m:=⟨_,rfl⟩
      have an:Hid (f+m=min (16*(q+1)) d):=by show f+m=min (16*(q+1)) d;omega
      have d0:(d:Int) - (f:Int)=(m:Int):=by omega
      have d1:¬(16:Int)<=(m:Int):=by omega
      have d2:IntKind.i64.wrap (m:Int)=m:=IA _ (by omega);have aY:f+m<=d:=by omega
      have a6:m<16:=by omega
      clear hd hm i1;clear au Z aq ab v T t;go_wp2_with fail;go_loopw[62] (λp wr=>∃ i:Nat,i<=m/\p=.int .i64 i/\By 5 wr go (aP b (cU K a b) (f+i))/\Wr go w8 wr) (λp _=>m - (intOf p).toNat)
      case atStart=>exact⟨0,by omega,rfl,Q,Wr.refl _ _⟩
      case round=>
       clear Q;obtain⟨i,hi,rfl,l,A⟩:=hrel;by_cases aF:i<m
       ·have qi:(i:Int)<(m:Int):=by omega
        obtain⟨j,hj⟩:∃ j,f+i=j:=⟨_,rfl⟩;have u:j<d:=by omega
        have H:(aP b (cU K a b) j).set j (gD K a b j)=aP b (cU K a b) (j+1):=iH _ _ j (by rw[o.out]) (by rw[E.out];exact u) _ (aR.out j u);have I:(aP b (cU K a b) j).length=d:=by rw[gx _ _ j (by rw[o.out]) (by rw[E.out];omega),E.out]
        rw[hj] at l;have c0:=l.cell j (by rw[I];exact u);rw[pq _ _ j j (by rw[o.out]) (by rw[E.out];omega) (IB _)] at c0;have f0:=l.frozen j;have c1:=(A.by aa (by omega)).cell i (by rw[aS.out];omega);have hx:=da (b.getD j 0) ((iN K (ff a q)).getD i 0);have k:=ah.out j;rw[show j / 16=q by omega,show j % 16=i by omega] at k;rw[<-k] at hx;have ay:=Lib.hid (show f+(i+1)=j+1 by omega);have u1:(f:Int)+(i:Int)=(j:Int):=by omega
        have u2:IntKind.i64.wrap (j:Int)=j:=IA _ (by omega);have u3:(j:Int)<(d:Int):=by omega
        have u4:(i:Int)<16:=by omega
        generalize gD K a b j=Y at *;generalize b.getD j 0=X1 at *;generalize (iN K (ff a q)).getD i 0=X2 at *;have aA:=Lib.hid H;clear H I hj k;go_wp2_with fail;go_region
        all_goals
         go_wp2_with fail;go_roundw
         case rel=>exact⟨i+1,by omega,by go_num,by rw[ay.out];exact l.set j _ aA.out,(A.setCell j _).drew⟩
         case measure=>simp[intOf];omega
       ·obtain rfl:i=m:=by omega
        have C:By 5 wr go (aP b (cU K a b) (min (16*(q+1)) d)):=by rw[<-an.out];exact l
        have s:By 231 wr D (a++be 4 (q+1)):=A.by V (by omega);have ax:=X.wr A (by omega) (by omega);have ap:Kp w wr:=Below.trans (show Below w.heap.size w w8 from B) (A.below B.size (by omega));have e9:IntKind.i64.wrap ((f:Int)+16)=((16*(q+1):Nat):Int):=by rw[IA _ (by omega)];omega
        have HF:=Lib.hid hf;clear l A aa V X B hf;go_wp2_with fail;go_roundw
        case rel=>exact⟨q+1,_,by have:=HF.out;omega,rfl,C,bT 4 (q+1),s,ax,ap⟩
        case measure=>have:=HF.out;simp[intOf];omega
    ·have C:By 5 wr go (cU K a b):=by
      rw[show min f d=d by omega] at l;have:=jE b (cU K a b) (by rw[o.out]);rw[o.out,E.out] at this;rw[this] at l;exact l
     have aX:=C.rdAll (n:=d) (c:=d) (by rw[o.out,E.out]) (IB _) (by unfold maxLen;omega);have a7:¬(f:Int)<(d:Int):=by omega
     clear l C hS hC;go_wp2_with fail;go_ret2;exact⟨⟨_,rfl,aX⟩,t⟩
  ·have e0:mw key a=1:=if_neg (λh=>hn h.2)
   have r0:mz key a b=[]:=if_neg (λh=>hn h.2);rw[e0,r0];have a0:((a.length:Int)==12)=false:=ID.2 (by omega);have aZ:¬(a.length:Int)=12:=by omega
   rw[t];go_enter func173,ntmps173;go_wp2_with fail;go_ret2;exact⟨⟨_,rfl,Rd.nil5 _⟩,Kp.refl _⟩
 ·have e0:mw key a=1:=if_neg (λh=>t h.1)
  have r0:mz key a b=[]:=if_neg (λh=>t h.1);rw[e0,r0];have a0:((key.length:Int)==16)=false:=ID.2 (by omega);have aZ:¬(key.length:Int)=16:=by omega
  go_enter func173,ntmps173;go_wp2_with fail;go_ret2;exact⟨⟨_,rfl,Rd.nil5 _⟩,Kp.refl _⟩
theorem wP {key:List UInt8}(b:List UInt8)(h:a.length=12):mw (ij key) a=0/\mz (ij key) a b=dO key a b:=
 ⟨if_pos ⟨uM key,h⟩,if_pos ⟨uM key,h⟩⟩
theorem Rd.pre6 {a:Option Addr}(h:Rd w (.slice a n c) l)(k:Nat)(o:k<=n):Rd w (.slice a k c) (l.take k):=by
 obtain⟨r,q,e,p,m,j,g⟩:=h;simp only[IG] at e;obtain⟨rfl,rfl,rfl⟩:=e;have b:(l.take k).length=k:=by simp;omega
 refine⟨a,c,by rw[b],by omega,m,j,λx d i f=>?_⟩;rw[b] at f;rw[g x d i (by omega),Lr]
theorem Rd.post6 {o:Nat}(h:Rd w (.slice (some ⟨g,o,none⟩) n c) l)(k m:Nat)(d:k+m=n)(a:k<c):Rd w (.slice (some ⟨g,o+k,none⟩) m (c - k)) (l.drop k):=by
 have:=h.cutAt k m (by omega) a;have b:=h.len.1;rwa [Jm (by rw[JK];omega)] at this
theorem EX (aa:Value)(seed:List UInt8)(w:World)(h:Rd w aa seed):
  Calls prog 33 #[aa] w λe w'=>(∃ r,e=.returned r/\Rd w' r (dE seed)/\bg w.heap.size r)/\Kp w w':=by
 have d:=Lib.hid (vX aa seed w h);go_enter func33,ntmps33;go_wp2_with fail;refine d.out.mono ?_;rintro _ j ⟨⟨p,rfl,b,f⟩,g⟩;have i:=Lib.hid b;obtain⟨a,n,c,rfl⟩:=b.sl;clear d b;go_wp2_with fail;go_ret;exact⟨⟨_,rfl,i.out,f⟩,g⟩
theorem EY (aa:Value)(seed:List UInt8)(w:World)(a:Rd w aa seed):
  Calls prog 33 #[aa] w λe w'=>(∃ r,e=.returned r/\Rd w' r (dE seed))/\Kp w w':=
 (EX aa seed w a).mono λe w' ⟨⟨v,d,c,_⟩,b⟩=>⟨⟨v,d,c⟩,b⟩
theorem xz (p:Nat)(T:TypeId)(c:Value)(s:ByteArray)(key:List UInt8)(n:Int)(w:World)(h:One T w p c)(d:Rd w c key)(b:key.length<=2000)(g:s.size<=300)(a:-9223372036854775808<=n/\n<=9223372036854775807):
  Calls prog 237 #[.string s,.int .i64 n,.pointer (some ⟨p,0,none⟩)] w λe w'=>(∃ v,e=.returned (.tuple #[v,.int .i64 (fe n)])/\Rd w' v (cL key s.data.toList [] n))/\Kp w w':=by
 have k:=Lib.hid (oN c s (.slice none 0 0) key [] n w d (cR w) g (by simp) b a);obtain⟨r,m,q,rfl⟩:=d.sl;have o:=h.cell;clear h d b g a;go_enter func237,ntmps237;go_wp2_with fail;refine k.out.mono ?_;rintro _ l ⟨⟨v,rfl,f⟩,j⟩;have i:=f.rd;clear f;go_wp2_with fail;go_ret2;exact⟨⟨_,rfl,i⟩,j⟩
theorem xA (aa:Value)(key:List UInt8)(w:World)(h:Rd w aa key):
  Calls prog 202 #[aa] w λe w'=>(∃ a b,e=.returned (.tuple #[a,b,.int .i64 (mB key)])/\Rd w' a (mC key)/\Rd w' b (mD key))/\Kp w w':=by
 obtain⟨m,l,rfl,z,C⟩:=h.shape;by_cases c:key.length=32
 ·have k:mB key=0:=if_pos c
  have j:mC key=cL key oP [] 16:=if_pos c;have i:mD key=cL key oQ [] 32:=if_pos c;rw[k,j,i];have q:=Lib.hid (One.new 24 w (.slice m key.length l));have g:Hid (∀ W,Kp (w.alloc (.cells #[.slice m key.length l] 24)) W->Calls prog 237 #[.string ⟨#[108,111,99,107]⟩,.int .i64 16,.pointer (some ⟨w.heap.size,0,none⟩)] W λe w'=>(∃ v,e=.returned (.tuple #[v,.int .i64 0])/\Rd w' v (cL key oP [] 16))/\Kp W w'):=λW d=>xz _ _ _ ⟨#[108,111,99,107]⟩ key 16 W (q.out.kp d) (h.kp (((Kp.refl w).alloc _).trans d)) (by omega) (by decide) (by omega)
  have f:Hid (∀ W,Kp (w.alloc (.cells #[.slice m key.length l] 24)) W->Calls prog 237 #[.string ⟨#[116,97,103]⟩,.int .i64 32,.pointer (some ⟨w.heap.size,0,none⟩)] W λe w'=>(∃ v,e=.returned (.tuple #[v,.int .i64 0])/\Rd w' v (cL key oQ [] 32))/\Kp W w'):=λW d=>xz _ _ _ ⟨#[116,97,103]⟩ key 32 W (q.out.kp d) (h.kp (((Kp.refl w).alloc _).trans d)) (by omega) (by decide) (by omega)
  clear q;rw[c] at g f z ⊢;clear h c k j i;go_enter func202,ntmps202;go_wp2_with fail;refine(g.out _ (Kp.refl _)).mono ?_;rintro _ r ⟨⟨B,rfl,t⟩,p⟩;go_wp2_with fail;refine(f.out r p).mono ?_;rintro _ w2 ⟨⟨A,rfl,s⟩,o⟩;have n:=t.kp o;have u:=(((Kp.refl w).alloc (.cells #[.slice m 32 l] 24)).trans p).trans o;clear p o;go_wp2_with fail;go_ret3
  exact⟨⟨_,_,rfl,n,s⟩,u⟩
 ·have k:mB key=1:=if_neg c
  have j:mC key=[]:=if_neg c;have i:mD key=[]:=if_neg c;rw[k,j,i];have y:((key.length:Int)==32)=false:=ID.2 (by omega);have x:¬(key.length:Int)=32:=by omega
  go_enter func202,ntmps202;go_wp2_with fail;go_ret3
  exact⟨⟨_,_,rfl,cR _,cR _⟩,(Kp.refl _).alloc _⟩
theorem Fs (d v:Value)(k:List UInt8)(ls:List (List UInt8))(w:World)(l:Rd w d k)(h:RL w v ls)(b:k.length<=2000)(j:ls.flatten.length<=1900)(i:ls.length<1000000):
  Calls prog 204 #[d,v] w λe w'=>(∃ a c,e=.returned (.slice a 32 c)/\Ow 5 w' w.heap.size (.slice a 32 c) (eh k ls.flatten))/\Kp w w':=by
 go_enter func204,ntmps204;go_wp2_with fail;refine(uj _ _ k ls _ l h b j i).mono ?_;rintro e m ⟨⟨o,n,rfl,f⟩,g⟩;go_wp2_with fail;go_ret;exact⟨⟨_,_,rfl,f⟩,g⟩
structure jT (w:World)(p q r:Nat)(own row nonce:List UInt8):Prop where
 mk ::
 one:∃ T v,One T w p v/\Rd w v own
 two:∃ T v,One T w q v/\Rd w v row
 three:∃ T v,One T w r v/\Rd w v nonce
theorem jT.kp {w':World}{p q r:Nat}{own row:List UInt8}(h:jT w p q r own row a)(k:Kp w w'):jT w' p q r own row a:=by
 obtain⟨⟨o,d,l,g⟩,⟨n,c,j,f⟩,⟨m,b,i,e⟩⟩:=h;exact⟨⟨o,d,l.kp k,g.kp k⟩,⟨n,c,j.kp k,f.kp k⟩,⟨m,b,i.kp k,e.kp k⟩⟩
def nz (p q r:Nat):Value:=.func (.func 203) #[] #[.pointer (some ⟨p,0,none⟩),.pointer (some ⟨q,0,none⟩),.pointer (some ⟨r,0,none⟩)]
theorem xB (p q r:Nat)(vs:Value)(own row b s:List UInt8)(w:World)(h:jT w p q r own row b)(f:Rd w vs s)(d:own.length<=2000)(F:row.length+b.length+s.length<=1900):
  Calls prog 203 #[vs,.pointer (some ⟨p,0,none⟩),.pointer (some ⟨q,0,none⟩),.pointer (some ⟨r,0,none⟩)] w λe w'=>(∃ a c,e=.returned (.slice a 32 c)/\Rd w' (.slice a 32 c) (eh own (row++(b++s))))/\Kp w w':=by
 obtain⟨⟨X,z,o,j⟩,⟨W,M,n,i⟩,⟨V,L,m,g⟩⟩:=h;have P:=o.cell;have O:=n.cell;have N:=m.cell;have u:Hid (([row,b,s]:List (List UInt8)).flatten=row++(b++s)):=by simp[Hid]
 have t:=Lib.hid (Fs z (.slice (some ⟨w.heap.size,0,none⟩) 3 3) own [row,b,s] _ (j.kp ((Kp.refl _).alloc _)) (RL.lit3 (T:=24) i g f) d (by rw[u.out];simp;omega) (by simp));rw[u.out] at t;obtain⟨J,Q,S,rfl⟩:=j.sl;obtain⟨y,D,I,rfl⟩:=i.sl;obtain⟨x,C,H,rfl⟩:=g.sl;obtain⟨v,B,G,rfl⟩:=f.sl;clear o n m j i g f d F;go_enter func203,ntmps203;go_wp2_with fail;refine t.out.mono ?_;rintro e K ⟨⟨U,R,rfl,k⟩,l⟩;have E:=((Kp.refl w).alloc (.cells #[.slice y D I,.slice x C H,.slice v B G] 24)).trans l;have A:=k.rd;clear k l;go_wp2_with fail;go_ret;exact⟨⟨_,_,rfl,A⟩,E⟩
theorem xC (u1 u2 u3:Value)(key c d:List UInt8)(w:World)(A:Rd w u1 key)(t:Rd w u2 c)(z:Rd w u3 d)(h:key.length=32)(y:c.length=12)(hl:d.length<=1700):
  Calls prog 172 #[u1,u2,u3] w λe w'=>(∃ v p q r,e=.returned (.tuple #[v,nz p q r,.int .i64 0])/\Rd w' v (ij key)/\jT w' p q r (ik key) (aO d) c)/\Kp w w':=by
 unfold nz;obtain⟨C,B,rfl,p2,s2⟩:=t.shape;have I:Hid (∀ W,Kp w W->Calls prog 202 #[u1] W λe w'=>(∃ a b,e=.returned (.tuple #[a,b,.int .i64 0])/\Rd w' a (ij key)/\Rd w' b (ik key))/\Kp W w'):=λW s=>by
  have:=xA u1 key W (A.kp s);rwa [show mB key=0 from if_pos h,show mC key=ij key from if_pos h,show mD key=ik key from if_pos h] at this
 have f:=(ko (x:=d) (by omega)).1;have H:Hid (∀ W,Kp w W->Calls prog 166 #[u3] W λe w'=>∃ aa,e=.returned (.tuple #[aa,.int .i64 0])/\Ow 5 w' W.heap.size aa (aO d)/\Kp W w'):=λW s=>by
  have:=qK u3 d W (z.kp s);rwa [f] at this
 have J:=Lib.hid t;have u:=Lib.hid (One.new 24 w (.slice C c.length B));rw[y] at J u p2 ⊢;clear A t z f h y;go_enter func172,ntmps172;go_wp2_with fail;refine(I.out _ ((Kp.refl w).alloc _)).mono ?_;rintro _ j ⟨⟨a,b,rfl,l,k⟩,o⟩;have i:=Lib.hid (((Kp.refl w).alloc (.cells #[.slice C 12 B] 24)).trans o);have G:=Lib.hid (u.out.kp o);have E:=Lib.hid l;have D:=Lib.hid k;have F:=Lib.hid (λT=>One.new T j b);obtain⟨X,nb,cb,rfl⟩:=k.sl;obtain⟨Y,na,ca,rfl⟩:=l.sl;clear u o l k;go_wp2_with fail;refine(H.out _ (i.out.alloc _)).mono ?_;rintro _ w2 ⟨Z,rfl,m,n⟩;have g:Kp j w2:=((Kp.refl j).alloc _).trans n;have N:=Lib.hid ((F.out _).kp n);have O:=Lib.hid (G.out.kp g);have P:=Lib.hid (i.out.trans g);have V:=Lib.hid (E.out.kp g);have U:=Lib.hid (D.out.kp g);have S:=Lib.hid m.rd;have R:=Lib.hid (J.out.kp (i.out.trans g));obtain⟨K,L,M,rfl⟩:=m.rd.sl;have Q:=Lib.hid (One.new 24 w2 (.slice K L M));clear m n g F G i E D H I;go_wp2_with fail;go_ret3
 exact⟨⟨_,_,_,_,rfl,V.out.kp ((Kp.refl _).alloc _),⟨_,_,N.out.kp ((Kp.refl _).alloc _),U.out.kp ((Kp.refl _).alloc _)⟩,⟨_,_,Q.out,S.out.kp ((Kp.refl _).alloc _)⟩,⟨_,_,O.out.kp ((Kp.refl _).alloc _),R.out.kp ((Kp.refl _).alloc _)⟩⟩,P.out.alloc _⟩
theorem xD (u1 u2 u3:Value)(key c i:List UInt8)(w:World)(n:Rd w u1 key)(m:Rd w u2 c)(s:Rd w u3 i)(d:¬okK key c):
  Calls prog 172 #[u1,u2,u3] w λe w'=>e=.returned (.tuple #[.slice none 0 0,.nilFunc,.int .i64 1])/\Kp w w':=by
 obtain⟨u,t,rfl,p2,A⟩:=m.shape;by_cases g:c.length=12
 ·have f:¬key.length=32:=λh=>d ⟨h,g⟩
  have o:Hid (∀ W,Kp w W->Calls prog 202 #[u1] W λe w'=>(∃ a b,e=.returned (.tuple #[a,b,.int .i64 1])/\Rd w' a []/\Rd w' b [])/\Kp W w'):=λW r=>by
   have:=xA u1 key W (n.kp r);rwa [show mB key=1 from if_neg f,show mC key=[] from if_neg f,show mD key=[] from if_neg f] at this
  rw[g] at p2 ⊢;clear n m s f d g;go_enter func172,ntmps172;go_wp2_with fail;refine(o.out _ ((Kp.refl w).alloc _)).mono ?_;rintro _ z ⟨⟨a,b,rfl,k,j⟩,l⟩;have v:=Lib.hid (((Kp.refl w).alloc (.cells #[.slice u 12 t] 24)).trans l);obtain⟨x,B,D,rfl⟩:=j.sl;obtain⟨y,C,E,rfl⟩:=k.sl;clear l k j o;go_wp2_with fail;go_ret3
  exact⟨rfl,v.out.alloc _⟩
 ·have q:((c.length:Int)==12)=false:=ID.2 (by omega)
  have p:¬(c.length:Int)=12:=by omega
  go_enter func172,ntmps172;go_wp2_with fail;go_ret3
  exact⟨rfl,(Kp.refl _).alloc _⟩
theorem Fy (u1 u2 u3 u4:Value)(key d f b:List UInt8)(w:World)(t:Rd w u1 key)(j:Rd w u2 d)(o:Rd w u3 f)(F:Rd w u4 b)(hl:f.length+b.length<=1700):
  Calls prog 139 #[u1,u2,u3,u4] w λe w'=>(∃ r,e=.returned (.tuple #[r,.int .i64 (oR key d)])/\Rd w' r (oU key d f b)/\bg w.heap.size r)/\Kp w w':=by
 by_cases h:okK key d
 ·obtain⟨n,i⟩:=h
  have l:oR key d=0:=if_pos ⟨n,i⟩;have k:oU key d f b=fh key d f b:=if_pos ⟨n,i⟩;rw[l,k];obtain⟨X,V⟩:=wP (key:=key) b i;have u:=Lib.hid (xC u1 u2 u3 key d f w t j o n i (by omega));have HS:Hid (∀ W v,Kp w W->Rd W v (ij key)->Calls prog 173 #[v,u2,u4] W λe w'=>(∃ r,e=.returned (.tuple #[r,.int .i64 0])/\Rd w' r (dO key d b))/\Kp W w'):=λW v U C=>by
   rw[<-X,<-V];exact wO _ _ _ _ d b W C (j.kp U) (F.kp U) (by omega)
  have J:=qT key d b;have D:=lL (x:=f) (by omega);have E:=kH f.length;have HT:Hid (∀ W v p q r,jT W p q r (ik key) (aO f) d->Rd W v (dO key d b)->Calls prog 203 #[v,.pointer (some ⟨p,0,none⟩),.pointer (some ⟨q,0,none⟩),.pointer (some ⟨r,0,none⟩)] W λe w'=>(∃ a c,e=.returned (.slice a 32 c)/\Rd w' (.slice a 32 c) (el key d f (dO key d b)))/\Kp W w'):=λW v p q r ht C=>
   xB p q r v (ik key) (aO f) d _ W ht C (by rw[uN];omega) (by omega)
  have K:Hid (([dO key d b,el key d f (dO key d b)]:List (List UInt8)).flatten=fh key d f b):=by simp[Hid,fh]
  have HL:=Lib.hid (qU key d f b);have M:Hid (b.length<=1700):=by unfold Hid;omega
  generalize el key d f (dO key d b)=T at *;generalize dO key d b=L at *;generalize fh key d f b=R at *;clear t j o F l k X V n i J D E hl;go_enter func139,ntmps139;go_wp2_with fail;refine u.out.mono ?_;rintro _ O ⟨⟨x,p,q,r,rfl,Q,t1⟩,m⟩;unfold nz;have H:=Lib.hid m;have R1:=Lib.hid Q;have Z:=Lib.hid t1;clear u m Q t1;go_wp2_with fail;refine(HS.out O x H.out R1.out).mono ?_;rintro _ w2 ⟨⟨s,rfl,y⟩,B⟩;obtain⟨a3,n3,c3,rfl⟩:=y.sl;have Y:=Lib.hid (Z.out.kp B);have K2:=Lib.hid (H.out.trans B);have G:=Lib.hid y;clear HS B y Z R1 H;go_wp2_with fail;refine(HT.out w2 _ p q r Y.out G.out).mono ?_;rintro _ N ⟨⟨ab,aa,rfl,P⟩,A⟩;have K3:=Lib.hid (K2.out.trans A);have I:=Lib.hid (RL.lit2 (w:=N) (T:=24) (G.out.kp A) P);clear HT A P Y G K2;go_wp2_with fail;refine(kC _ _ _ I.out (by rw[K.out,HL.out];omega) (by rw[K.out,HL.out];have:=M.out;omega) (by simp)).mono ?_;rw[K.out];rintro _ w4 ⟨⟨v,rfl,z⟩,S⟩;have r5:=z.rd;have n5:bg w.heap.size v:=bg.kp (w':=N.alloc _) (λg hg=>z.own_ge g hg) (K3.out.alloc _);have k5:=(K3.out.alloc _).trans S;clear z S;go_wp2_with fail;go_ret2;exact⟨⟨_,rfl,r5,n5⟩,k5⟩
 ·have l:oR key d=1:=if_neg h
  have k:oU key d f b=[]:=if_neg h;rw[l,k];have u:=Lib.hid (xD u1 u2 u3 key d f w t j o h);clear t j o F l k h;go_enter func139,ntmps139;go_wp2_with fail;refine u.out.mono ?_;rintro _ O ⟨rfl,m⟩;go_wp2_with fail;go_ret2;exact⟨⟨_,rfl,Rd.nil _,bg.nil _ _ _⟩,m⟩
theorem Fz (u1 u2 u3 u4:Value)(key d f b:List UInt8)(w:World)(E:Rd w u1 key)(A:Rd w u2 d)(D:Rd w u3 f)(t:Rd w u4 b)(hl:f.length+b.length<=1700):
  Calls prog 194 #[u1,u2,u3,u4] w λe w'=>(∃ r,e=.returned (.tuple #[r,.int .i64 (fi key d f b)])/\Rd w' r (fB key d f b))/\Kp w w':=by
 by_cases g:okK key d
 ·obtain⟨V,K⟩:=id g
  have H:=Lib.hid (xC u1 u2 u3 key d f w E A D V K (by omega));obtain⟨a4,F,rfl,p4,s4⟩:=t.shape;by_cases P:b.length<32
  ·have i:fi key d f b=3:=by unfold fi;rw[if_pos g,if_pos P]
   have o:fB key d f b=[]:=by unfold fB;rw[i];rfl
   rw[i,o];have q0:IntKind.i64.wrap ((b.length:Int) - 32)=(b.length:Int) - 32:=IA _ (by omega);have q1:(b.length:Int) - 32<0:=by omega
   clear E A D t i o g V K hl;go_enter func194,ntmps194;go_wp2_with fail;refine H.out.mono ?_;rintro _ I ⟨⟨x,p,q,r,rfl,J,t1⟩,u⟩;unfold nz;clear J t1;go_wp2_with fail;go_ret2;exact⟨⟨_,rfl,Rd.nil _⟩,u⟩
  ·obtain⟨n,s⟩:∃ n,b.length - 32=n:=⟨_,rfl⟩
   have C:b.length=n+32:=by omega
   obtain⟨X,M,rfl,_,_⟩:=t.at 0 (by omega);have i:fi key d f b=if el key d f (b.take n)=b.drop n then 0 else 5:=by unfold fi;rw[if_pos g,if_neg P,s]
   have o:fB key d f b=if el key d f (b.take n)=b.drop n then dO key d (b.take n) else []:=by
    unfold fB;rw[i,s];by_cases k:el key d f (b.take n)=b.drop n
    ·rw[if_pos k,if_pos rfl,if_pos k]
    ·rw[if_neg k,if_neg (by decide),if_neg k]
   have S:(b.take n).length=n:=by rw[Ja];omega
   have HA:=Lib.hid (t.pre6 n (by omega));have HZ:=Lib.hid (t.post6 n 32 (by omega) (by omega));obtain⟨e6,e7⟩:=wP (key:=key) (b.take n) K;have Q:=lL (x:=f) (by omega);have U:=kH f.length;have HS:Hid (∀ W v,Kp w W->Rd W v (ij key)->Calls prog 173 #[v,u2,.slice (some ⟨X,M,none⟩) n F] W λe w'=>(∃ r,e=.returned (.tuple #[r,.int .i64 0])/\Rd w' r (dO key d (b.take n)))/\Kp W w'):=λW v y O=>by
    rw[<-e6,<-e7];exact wO _ _ _ _ d (b.take n) W O (A.kp y) (HA.out.kp y) (by omega)
   have HT:Hid (∀ W p q r,Kp w W->jT W p q r (ik key) (aO f) d->Calls prog 203 #[.slice (some ⟨X,M,none⟩) n F,.pointer (some ⟨p,0,none⟩),.pointer (some ⟨q,0,none⟩),.pointer (some ⟨r,0,none⟩)] W λe w'=>(∃ a c,e=.returned (.slice a 32 c)/\Rd w' (.slice a 32 c) (el key d f (b.take n)))/\Kp W w'):=λW p q r y k=>
    xB p q r _ (ik key) (aO f) d _ W k (HA.out.kp y) (by rw[uN];omega) (by omega)
   rw[i,o];have h:∀ (j:Bool),decide (el key d f (b.take n)=b.drop n)=j->(if el key d f (b.take n)=b.drop n then (0:Int) else 5)=(if j then 0 else 5)/\(if el key d f (b.take n)=b.drop n then dO key d (b.take n) else [])=(if j then dO key d (b.take n) else []):=by
    rintro _ rfl;by_cases k:el key d f (b.take n)=b.drop n
    ·simp[k]
    ·simp[k]
   obtain⟨j,l⟩:∃ j,decide (el key d f (b.take n)=b.drop n)=j:=⟨_,rfl⟩;rw[(h j l).1,(h j l).2];have G:Hid (∀ W v,Kp w W->Rd W v (el key d f (b.take n))->Calls prog 233 #[v,.slice (some ⟨X,M+n,none⟩) 32 (F - n)] W λe w'=>e=.returned (.bool j)/\Kp W w'):=λW v y O=>by
    have:=Fx v _ _ _ W O (HZ.out.kp y);rwa [l] at this
   clear HA HZ;obtain⟨m,R⟩:∃ m,b.length=m:=⟨_,rfl⟩;rw[R] at p4 ⊢;rw[R] at C;have i0:IntKind.i64.wrap ((m:Int) - 32)=(n:Int):=by rw[IA _ (by omega)];omega
   have i2:(n:Int)<=(F:Int):=by omega
   have i3:(n:Int)<=(m:Int):=by omega
   have i4:¬(m:Int)<32:=by omega
   have i5:(0:Int)<=(n:Int):=by omega
   have i6:(m:Int)<=(F:Int):=by omega
   have i7:(0:Int)<=(m:Int):=by omega
   have i8:m - n=32:=by omega
   have i9:((m:Int) - (n:Int)).toNat=32:=by omega
   have ab:(m:Int) - (n:Int)=32:=by omega
   have aa:¬(n:Int)<0:=by omega
   clear R;generalize el key d f (b.take n)=T at *;generalize dO key d (b.take n)=L at *;clear E A D t i o e6 e7 V K h l g P s S C Q U hl;go_enter func194,ntmps194;go_wp2_with fail;refine H.out.mono ?_;rintro _ I ⟨⟨x,p,q,r,rfl,J,t1⟩,u⟩;unfold nz;have K1:=Lib.hid u;have R1:=Lib.hid J;have T1:=Lib.hid t1;clear H u J t1;go_wp2_with fail;go_region
   go_wp2_with fail;refine(HT.out _ p q r (K1.out.drew) (T1.out.kp (Kp.refl _).drew)).mono ?_;rintro _ w2 ⟨⟨ae,ad,rfl,r3⟩,B⟩;have B:Kp I w2:=((Kp.refl I).drew).trans B;have Z:=Lib.hid (K1.out.trans B);have R2:=Lib.hid (R1.out.kp B);have R3:=Lib.hid r3;clear r3 B K1 R1 T1 HT;go_wp2_with fail;refine(G.out _ _ Z.out R3.out).mono ?_;rintro _ w3 ⟨rfl,N⟩;have Y:=Lib.hid (Z.out.trans N);have R4:=Lib.hid (R2.out.kp N);clear N Z R2 R3 G;cases j
   ·go_wp2_with fail
    go_ret2;exact⟨⟨_,rfl,Rd.nil _⟩,Y.out⟩
   ·go_wp2_with fail
    refine(HS.out _ x Y.out R4.out).mono ?_;rintro _ w4 ⟨⟨z,rfl,r4⟩,k4⟩;have R5:=Lib.hid r4;have K4:=Lib.hid (Y.out.trans k4);clear r4 k4;go_wp2_with fail;go_ret2;exact⟨⟨_,rfl,R5.out⟩,K4.out⟩
 ·have i:fi key d f b=1:=if_neg g
  have o:fB key d f b=[]:=by unfold fB;rw[i];rfl
  rw[i,o];have H:=Lib.hid (xD u1 u2 u3 key d f w E A D g);clear E A D t i o g;go_enter func194,ntmps194;go_wp2_with fail;refine H.out.mono ?_;rintro _ I ⟨rfl,u⟩;go_wp2_with fail;go_ret2;exact⟨⟨_,rfl,Rd.nil _⟩,u⟩
theorem sn {own:List Sd}{info:List UInt8}:∀ (who:List Int) (f:List Se) (k:Nat),k<=who.length->(∀ j,j<k->(ba own (who.getD j 0)).length=0)->dJ own info who f=dJ own info (who.drop k) (f.drop k)
 | who,f,0,_,_=>by rw[List.drop_zero,List.drop_zero]
 | [],f,k+1,h,_=>absurd h (Nat.not_succ_le_zero _)
 | y :: l,f,k+1,h,hp=>by
  have h0:(ba own y).length=0:=hp 0 (Nat.succ_pos _)
  have e:dJ own info (y :: l) f=dJ own info l f.tail:=by
   show(if (ba own y).length=0 then _ else _)=_
   rw[if_pos h0]
  rw[e,sn l f.tail k (Nat.le_of_succ_le_succ h) λj hj=>hp (j+1) (Nat.succ_lt_succ hj)]
  congr 1
  cases f with
  | nil=>simp
  | cons a f=>rfl
theorem Hd {own:List Sd}{info:List UInt8}{who:List Int}{k:Nat}(a:k<who.length)(g:f.length=who.length)(c:∀ j,j<k->(ba own (who.getD j 0)).length=0)(h:(ba own (who.getD k 0)).length≠0):
  dJ own info who f=if (aM f k).half.length≠32 then ([],5)
   else if unE (ba own (who.getD k 0)) (aM f k).half info (aM f k).b≠0 then ([],unE (ba own (who.getD k 0)) (aM f k).half info (aM f k).b)
   else if (unR (ba own (who.getD k 0)) (aM f k).half info (aM f k).b).length≠32 then ([],2)
   else (unR (ba own (who.getD k 0)) (aM f k).half info (aM f k).b,0):=by
 rw[sn who f k (by omega) c];have e:who.drop k=who.getD k 0 :: who.drop (k+1):=by
  rw[Kx a,Iw,Iy a];rfl
 have d:f.drop k=aM f k :: f.drop (k+1):=by
  unfold aM;rw[Kx (by omega),Iw,Iy (by omega)];rfl
 rw[e,d];show(if (ba own (who.getD k 0)).length=0 then _ else _)=_
 rw[if_neg h];rfl
theorem He {own:List Sd}{info:List UInt8}{who:List Int}(a:∀ j,j<who.length->(ba own (who.getD j 0)).length=0):dJ own info who f=([],5):=by
 rw[sn who f who.length (IB _) a,List.drop_length];rfl
